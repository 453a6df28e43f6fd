import PyProof.Rows.All
import Wide.All
import OpenK.AllK
import Wide.FinOn
import PyProof.EqAt
import PyProof.EqKinds
import PyProof.TupleCall
import PyProof.CollectWalk
import PyProof.Rows.SetFrom
import PyProof.Rows.SortWalk
import KE.KDictList
import KE.BitLaws
import Open.SpecLaws
import KE.OsHead
import KE.OsGo
import PySem.Challenge.RW_netways_s01_answers
set_option Elab.async false
set_option linter.all false
set_option maxRecDepth 100000
set_option maxHeartbeats 4000000
set_option autoImplicit true
set_option relaxedAutoImplicit true
open Array renaming length_toList->bK,getElem?_eq_getElem->eW,getElem?_toList->gG,getD->g_,getElem_toList->i4,getElem?_eq_none->ui,getElem_setIfInBounds->FD
open Bool renaming false_ne_true->af,and_eq_true->bN,eq_iff_iff->dh,noConfusion->dX,or_eq_true->eQ,not_eq_true'->fm,true_and->lQ,false_and->xp,false_eq_true->An,and_false->HN
open Decidable renaming byContradiction->dY
open Except renaming pure->cj,bind->ck
open False renaming elim->fJ
open ForInStep renaming yield->sr
open Function renaming comp->FC
open Int renaming toNat_natCast->aJ,eq_ofNat_of_zero_le->hZ,toNat->kQ,zero_add->qh,natCast_mul->wF
open List renaming length_map->ae,mem_cons->aF,mem_of_getElem?->aH,getElem?_eq_getElem->aO,getElem?_eq_some_iff->aW,mem_append->a_,mem_filter->ba,length_cons->bg,length_append->bo,getElem?_map->bp,size_toArray->bz,mem_map->bB,take_length->bG,nodup_cons->bQ,mem_singleton->bU,mem_cons_of_mem->bY,length_singleton->cn,map_cons->cx,map_append->cz,replicate->cO,range->cP,length_take->cS,mem_or_eq_of_mem_set->cY,mem_append_right->c6,length_filter_le->c7,map_map->c_,mem_cons_self->df,foldl_cons->dg,mem_range->dr,getD_eq_getElem?_getD->dF,getElem?_eq_none->dI,mem_flatten->dN,append_nil->dO,filter_append->dR,getElem?_set_self->d4,filter_cons->eu,map_congr_left->eC,getElem?_set_ne->eJ,all_eq_true->eS,length_range->fk,length_nil->fH,append_assoc->gk,filterMap_cons->gm,find?_cons->gz,mem_flatMap->gM,length_set->hJ,replicate_succ->ik,getElem?_append_right->iL,getElem?_append_left->iY,nodup_append->i_,mem_append_left->ja,lookup_cons->jt,length_eq_zero_iff->ju,getElem?_replicate->jv,pairwise_lt_range->jL,contains_iff_mem->jU,flatten_cons->ke,flatMap_cons->kf,mem_iff_getElem->kx,length_drop->kH,flatMap_append->kY,any_cons->lP,range_succ->lW,getElem?_drop->lZ,lookup->mN,map_nil->mZ,ext_getElem?->m8,take_append_drop->oe,any_eq_true->og,all_cons->oN,take_succ_cons->p8,getElem?_range->p9,flatten_append->p_,pairwise_cons->qG,pairwise_iff_getElem->rq,length->sg,foldl_append->sh,getElem_mem->ua,getElem?_cons_zero->ub,take_of_length_le->uy,nil_append->vP,mem_iff_getElem?->wD,length_pos_iff->yV,sum_cons->Ak,take_sublist->Ci,pairwise_map->Cj,flatMap_nil->Ds,cons_append->Dt,of_mem_zip->FA,take_succ->HL,length_eraseIdx_of_lt->HM
open List.Perm renaming cons->uh
open Nat renaming le_refl->aD,le_trans->bZ,lt_of_lt_of_le->cC,ne_of_lt->cG,zero_le->cH,mul_comm->d7,mul_le_mul_right->eP,add_mul->fO,lt_irrefl->gj,one_mul->iH,lt_succ_of_lt->jb,lt_succ_self->jE,min_eq_left->p7,mul_le_mul_left->qc,mul_le_mul->rj,lt_of_le_of_lt->rn,le_of_succ_le->so,add_assoc->tQ,mod_eq_of_lt->uf,div_eq_of_lt->ug,ne_of_gt->vM,le_of_lt->vN,add_comm->vO,le_succ->yL,mod_lt->BN,add_sub_cancel->BO,sub_self->C4,mul_succ->C5,le_of_eq->C6,le_add_right->Fs,mul_pos->Fz,mul_add_mod->GJ
open Ne renaming symm->fY
open Option renaming map_eq_some_iff->t_,getD_some->Cg,none->C3
open Option.some renaming inj->bE,injEq->iJ
open Or renaming inl->bj,inr->Fy
open Prod.mk renaming injEq->nS
open PyFlat renaming calls->ku,told->rh,call->C2,played->HK
open PyProof renaming noPylong_small->tO
open PyProof.Rows renaming callWith_type1->gV,IntsAre->i9,seqObj->tP,firstMet->BM,envOfC->Fq,AllBare->GI
open PyProof.Rows.F renaming plain_set_update_loop->vL
open PySem renaming wpAny_bind->ai,Value->aA,wpAny_pure->aL,Shared->aS,wpAny->bw,model->bM,sizeLine_eq->bS,Program->bT,starEach->b_,World->cU,mem_of_lookup->cW,mainGlobals->c4,wpAny_truthy_bool->d3,compareOp->eF,Expr->eV,wpAny_call_entry->fg,cellsFrom->fh,bootBuiltins->fN,wpAny_newObj_type->gE,rawInt->gF,Around->gR,backTo->ic,wpAny_callSpecial?_slot->iy,sysModules->iF,wpAny_mono->i3,keywordEach->jn,NameKind->jo,wpAny_holding->jD,wpAny_setField->jO,wpAny_typeNameOfWhole_keyiter->jS,sliceBounds->jT,wpAny_passesOwn->ko,attributeBase->kr,wpAny_setState_of->kG,compEnvC->lE,wpAny_askSetting->lU,wpAny_typeNameOf_keyiter->mS,intKind->mV,codeAny_builtin->mW,wpAny_Call_Name_kw->nL,pyNext->nM,firstArgMember->oI,backToKw->oJ,wpAny_attempt->qa,holding->qb,relayAll->qe,wpAny_setEntries_of->rp,valueAt->r9,codeAny_mono->r_,call->se,pushCells->sj,wpAny_fieldsOf->tJ,setField->tK,SetTable->tM,FuncData->tN,wpAny_pyIter_slot->uo,foldedSetIterable->uq,codeAny->ur,Keyword->uw,behindInMarks->vJ,wpAny_isInstance->wX,swapsWith->wY,pickOrder->wZ,getMethod->w_,binaryOp->xa,assignEach->yH,BoolOp->yK,wpAny_execs_nil->yR,pushCells_keeps->yS,letOwnedTupleGo->yT,contains->BK,standAt->Ce,plainId_quiet->Dr,tupleKind_room_in1->Fn,intKind_is->Fo,wpAny_pyIter_list->Gu,wpAny_dictEntries->Gv,slot_list_getitem->Gw,getItem->Gy,getD_mem->Gz,fits_of_scanBound->GC,callWith->GD
open PySem.Around renaming under_plainId->wB
open PySem.Builtin.Dict renaming showsAll->Fp
open PySem.Builtin.Dict_items renaming ownsTuple->ux
open PySem.Builtin.List renaming listTooLong->kg,listLengthHint->Ai,listExtendWith->Aj
open PySem.Builtin.Range renaming rangeSize->cV,small->mY
open PySem.Calls renaming spliced_cons->qg,callWith_builtin->ue,evalArgs_plain->xc,spliced_nil->BL,Name_function_global->GH
open PySem.F renaming slot_dict_keyiterator_next->fL,called_set->lF,slot_dict_setdefault->C1,slot_dict_delitem->Fw,plain_extend_loop->Fx,args_dict_keyiterator_next_1->GG,plainAttrs_list->HH,plainAttrs_dict->HI,entry_dict_keyiterator_next->HJ
open PySem.Heap renaming get?_push_of_some->aK,get?_push_size->bu,lt_size->bI,size_push->c5,get?_update_self->fB,SameBut->i8,get?_update_other->mX
open PySem.Heap.SameBut renaming update->dZ
open PySem.IsRange renaming new->Cf
open PySem.NameKind renaming free->nN,cell->Fv
open PySem.Obj renaming data_mapFields->eO,isFreed_of_fields->ka,mapSeq->mM,mapFields->oU,cls_mapFields->sk
open PySem.Paired renaming length->iw
open PySem.PassesOwn renaming never->bJ
open PySem.SetTable renaming below->cX,grown->o_,insertAt->yU
open PySem.SetTable.below renaming go->oM
open PySem.SetTable.probe renaming go->GF
open PySem.Str renaming ofString->qf
open PySem.Value renaming ref->dA,none->g9,int->iX,type->lV,bool->n_,str->C0
open PySem.W renaming Frag->ag,keepIn->fi,findIn->fj,fnOf->fW,emptyDict->fX,nsIn->ie,instObj->iP,codeIn->j_,WData->oK,mg_of->rg,plainGet->sf,isFn->tL,methodCall_KW->ud,lookIn->vK,plainGet_of->xb,callWith_K->yI,WellAll->yJ,methodObj->Ag,hasDictIn->Ah,takerIn->CV,makesIn->CW,length_le_weightAllW->CY
open PySem.W.Codec renaming encAll->p6,denoteAll->uv,app->CZ
open PySem.W.WData renaming weightAll->uu
open PySem.pickOrder renaming go->Gx
open PyVbpcah renaming shape->de,answers_asked->lY,answers->mU
open Sum renaming inl->dC,inr->CU
open True renaming intro->jK
open Vbpcah renaming stepMay->az,wayCells->aM,step->aP,pinCells->bc,isLaid->bf,between->bH,netNumbers->bV,unlaid->bX,must->cf,laid->cq,hasPins->cw,ripCounted->cy,wayTable->cB,rip->c8,tries->c9,boxCells->dq,wave->dy,stepCost->dz,pinTable->dB,netOk->dE,covered->dJ,counted->dW,does->eE,noNet->eR,lay->eX,wayCost->fo,layersOk->fC,Board->fM,layerOk->gc,boxOk->gf,treeOf->gu,soft->gL,hard->gQ,useHard->iu,useSoft->iV,improved->iW,Call->js,back->j9,table->kq,Grid->kX,extra->lO,inOrder->lT,netCost->mO,fresh->mP,allCost->mQ,where_->n9,softCost->o9,auto->qd,grow->wW,isFree->yG,PINS->CT,relaxed->Gr
open Vbpcah.Grid renaming cell->g8,size->iZ,near->jr,layer->um,column->Fm,row->Gs
open VbpcahNeutral renaming step->g0,callOf->mK,asked1->mL
open _root_ renaming List->ab,if_neg->ao,decide_eq_true_eq->au,if_pos->aw,Option->aY,absurd->bF,decide_eq_false->dH,beq_iff_eq->dU,decide_eq_false_iff_not->gg,congrArg->gh,decide_eq_true->gD,beq_eq_false_iff_ne->iI,Array->i5,if_false->mR,of_decide_eq_true->uj,if_true->uk,String->BJ,bool->CS
namespace Nw
open Vbpcah
theorem iD{α:Type}(n:Nat)(f:Nat->α)(d:α)(v:Nat):((Array.range n).map f).getD v d=if v<n then f v else d:=by
 by_cases h:v<n;·simp[h,g_]
 ·simp[h,g_]
theorem iC:∀{l:ab Nat},l.Nodup->(∀x∈l,x<n)->l.length<=n:=by
 induction n with
 |zero=>
  intro l _ h;cases l with
  |nil=>simp
  |cons a l=>exact bF (h a (by simp)) (by omega)
 |succ n ih=>
  intro l hl h;have h1:(l.erase n).length<=n:=ih (hl.erase n) fun x hx=>by have h2:=(List.Nodup.mem_erase_iff hl).mp hx;have:=h x h2.2;have:=h2.1;omega
  have h3:l.length-1<=(l.erase n).length:=by rw[List.length_erase];split<;>omega
  omega
section
variable(g:kX)(may:Nat->Nat->Bool)(cost:Nat->Nat->Nat)(src:ab Nat)
inductive Path:ab Nat->Nat->Prop where
 |base {v:Nat}:v∈src->v<g.size->Path [v] 0
 |step {u v c:Nat} {l:ab Nat}:Path (u::l) c->u∈g.near v->v<g.size->may u v=true->Path (v::u::l) (c+cost u v)
def Reach(v c:Nat):Prop:=∃l,Path g may cost src (v::l) c
end
section
variable{g:kX}{may:Nat->Nat->Bool}{cost:Nat->Nat->Nat}{src:ab Nat}
theorem Path.lt(p:Path g may cost src l c):∀x∈l,x<g.size:=by
 induction p with
 |base _ h=>intro x hx;simp at hx;subst hx;exact h
 |step _ _ h _ ih=>
  intro x hx;rcases aF.mp hx with e|e;·subst e;exact h
  ·exact ih x e
theorem Path.suffix(p:Path g may cost src l c)(hv:v∈l):∃l2 c2,Path g may cost src (v::l2) c2/\c2<=c/\(v::l2).Sublist l:=by
 induction p with
 |@base w h1 h2=>simp at hv;subst hv;exact⟨[],0,.base h1 h2,aD _,List.Sublist.refl _⟩
 |@step u w c l p h1 h2 h3 ih=>
  rcases aF.mp hv with e|e;·subst e;exact⟨_,_,.step p h1 h2 h3,aD _,List.Sublist.refl _⟩
  ·obtain⟨l2,c2,a,b,s⟩:=ih e;exact⟨l2,c2,a,by omega,s.cons _⟩
theorem Path.short(p:Path g may cost src l c):∀v r,l=v::r->∃l2 c2,Path g may cost src (v::l2) c2/\c2<=c/\(v::l2).Nodup:=by
 induction p with
 |@base w h1 h2=>intro v r e;cases e;exact⟨[],0,.base h1 h2,aD _,by simp⟩
 |@step u w c l p h1 h2 h3 ih=>
  intro v r e;cases e;obtain⟨l2,c2,a,b,s⟩:=ih u l rfl;by_cases hw:w∈u::l2;·obtain⟨l3,c3,a3,b3,s3⟩:=a.suffix hw;exact⟨l3,c3,a3,by omega,s.sublist s3⟩
  ·exact⟨u::l2,c2+cost u w,.step a h1 h2 h3,by omega,bQ.mpr ⟨hw,s⟩⟩
theorem Reach.short(h:Reach g may cost src v c):∃l c2,Path g may cost src (v::l) c2/\c2<=c/\(v::l).length<=g.size:=by obtain⟨r,p⟩:=h;obtain⟨l,c2,a,b,s⟩:=p.short v r rfl;exact⟨l,c2,a,b,iC s a.lt⟩
theorem Reach.lt(h:Reach g may cost src v c):v<g.size:=by obtain⟨r,p⟩:=h;exact p.lt v (by simp)
theorem Reach.base(h:v∈src)(hv:v<g.size):Reach g may cost src v 0:=⟨[],.base h hv⟩
theorem Reach.step(h:Reach g may cost src u c)(h1:u∈g.near v)(h2:v<g.size)(h3:may u v=true):Reach g may cost src v (c+cost u v):=by obtain⟨l,p⟩:=h;exact⟨_,.step p h1 h2 h3⟩
theorem Reach.inv(h:Reach g may cost src v c):(v∈src/\c=0)\/∃u a,Reach g may cost src u a/\u∈g.near v/\may u v=true/\c=a+cost u v:=by
 obtain⟨r,p⟩:=h;cases p with
 |base h1 h2=>exact .inl ⟨h1,rfl⟩
 |step p h1 h2 h3=>exact .inr ⟨_,_,⟨_,p⟩,h1,h3,rfl⟩
def Le(o:aY Nat)(c:Nat):Prop:=∃a,o=some a/\a<=c
theorem Le.mono(h:Le o c)(e:c<=d):Le o d:=by obtain⟨a,h1,h2⟩:=h;exact⟨a,h1,by omega⟩
theorem K5(h:Le a c):Le (lesser a b) c:=by
 obtain⟨x,rfl,h2⟩:=h;cases b with
 |none=>exact⟨x,rfl,h2⟩
 |some y=>exact⟨min x y,rfl,by omega⟩
theorem Jc(h:Le b c):Le (lesser a b) c:=by
 obtain⟨x,rfl,h2⟩:=h;cases a with
 |none=>exact⟨x,rfl,h2⟩
 |some y=>exact⟨min y x,rfl,by omega⟩
theorem K4(h:lesser a b=some c):a=some c\/b=some c:=by
 cases a with
 |none=>exact .inr h
 |some x=>
  cases b with
  |none=>exact .inl h
  |some y=>
   have e:min x y=c:=bE h;rcases Nat.le_total x y with q|q;·rw[p7 q]at e;exact .inl (by rw[e])
   ·rw[Nat.min_eq_right q]at e;exact .inr (by rw[e])
theorem Bs(d:Costs)(v:Nat):∀(l:ab Nat)(b:aY Nat)(c:Nat),Le b c->Le (l.foldl (fun b u=>if may u v=true then lesser b ((d.at_ u).map fun c=>c+cost u v)else b) b) c
 |[],b,c,h=>h
 |u::l,b,c,h=>by
  rw[dg];apply Bs d v l;split;·exact K5 h
  ·exact h
theorem Lm(d:Costs)(v:Nat):∀(l:ab Nat)(b:aY Nat)(u c:Nat),u∈l->may u v=true->Le (d.at_ u) c->Le (l.foldl (fun b u=>if may u v=true then lesser b ((d.at_ u).map fun c=>c+cost u v)else b) b) (c+cost u v)
 |[],b,u,c,h,_,_=>by simp at h
 |w::l,b,u,c,h,hm,hl=>by
  rw[dg];rcases aF.mp h with e|e;·subst e;apply Bs d v l;rw[aw hm];obtain⟨a,h1,h2⟩:=hl;exact Jc ⟨a+cost u v,by rw[h1];rfl,by omega⟩
  ·exact Lm d v l _ u c e hm hl
theorem Ht(d:Costs)(v:Nat):∀(l:ab Nat)(b:aY Nat)(c:Nat),l.foldl (fun b u=>if may u v=true then lesser b ((d.at_ u).map fun c=>c+cost u v)else b) b=some c->b=some c\/∃u a,u∈l/\may u v=true/\d.at_ u=some a/\c=a+cost u v
 |[],b,c,h=>.inl h
 |w::l,b,c,h=>by
  rw[dg]at h;rcases Ht d v l _ c h with e|⟨u,a,h1,h2,h3,h4⟩
  ·split at e
   ·rename_i hm;rcases K4 e with e|e;·exact .inl e
    ·cases q:d.at_ w with
     |none=>rw[q]at e;cases e
     |some a=>rw[q]at e;exact .inr ⟨w,a,by simp,hm,q,(bE e).symm⟩
   ·exact .inl e
  ·exact .inr ⟨u,a,by simp[h1],h2,h3,h4⟩
theorem x9(d:Costs)(v:Nat):(Gr g may cost d).at_ v=if v<g.size then(g.near v).foldl (fun b u=>if may u v=true then lesser b ((d.at_ u).map fun c=>c+cost u v)else b) (d.at_ v)else none:=by unfold Gr Costs.at_;exact iD _ _ _ _
def rounds(g:kX)(may:Nat->Nat->Bool)(cost:Nat->Nat->Nat):Nat->Costs->Costs
 |0,d=>d
 |n+1,d=>rounds g may cost n (Gr g may cost d)
theorem B5(h:Gr g may cost d=d):∀n,rounds g may cost n d=d
 |0=>rfl
 |n+1=>by show rounds g may cost n (Gr g may cost d)=d;rw[h,B5 h n]
theorem xM:∀(n:Nat)(d:Costs),settled g may cost n d=rounds g may cost n d
 |0,d=>rfl
 |n+1,d=>by
  unfold settled;split;·rename_i h;exact(B5 h (n+1)).symm
  ·exact xM n _
theorem qo:∀(n:Nat)(d:Costs),rounds g may cost (n+1) d=Gr g may cost (rounds g may cost n d)
 |0,d=>rfl
 |n+1,d=>qo n (Gr g may cost d)
def first(g:kX)(src:ab Nat):Costs:=(Array.range g.size).map fun v=>if src.contains v then some 0 else none
theorem Lr(v:Nat):(first g src).at_ v=if v<g.size then(if src.contains v then some 0 else none)else none:=by
 unfold first Costs.at_
 exact iD _ _ _ _
theorem sS:∀(n v c:Nat),(rounds g may cost n (first g src)).at_ v=some c->Reach g may cost src v c
 |0,v,c,h=>by
  have h':(first g src).at_ v=some c:=h;rw[Lr]at h';split at h'
  ·split at h';·rename_i h1 h2;cases h';exact .base (by simpa using h2) h1
   ·cases h'
  ·cases h'
 |n+1,v,c,h=>by
  rw[qo,x9]at h;split at h
  ·rename_i hv;rcases Ht _ _ _ _ _ h with e|⟨u,a,h1,h2,h3,h4⟩;·exact sS n v c e
   ·subst h4;exact(sS n u a h3).step h1 hv h2
  ·cases h
theorem Iy:∀{l:ab Nat}{c:Nat},Path g may cost src l c->∀(n v:Nat)(r:ab Nat),l=v::r->r.length<=n->Le ((rounds g may cost n (first g src)).at_ v) c:=by
 intro l c p;induction p with
 |@base w h1 h2=>
  intro n v r e hn;cases e;induction n with
  |zero=>show Le ((first g src).at_ w) 0;rw[Lr,aw h2,aw (by simpa using h1)];exact⟨0,rfl,aD _⟩
  |succ n ih=>rw[qo,x9,aw h2];exact Bs _ _ _ _ _ (ih (cH _))
 |@step u w c l p h1 h2 h3 ih=>
  intro n v r e hn;cases e;cases n with
  |zero=>simp at hn
  |succ n=>rw[qo,x9,aw h2];exact Lm _ _ _ _ _ _ h1 h3 (ih n u l rfl (by simpa using hn))
theorem sv(h:(wave g may cost src).at_ v=some c):Reach g may cost src v c:=by unfold wave at h;rw[xM]at h;exact sS _ _ _ h
theorem sx(h:Reach g may cost src v c):Le ((wave g may cost src).at_ v) c:=by obtain⟨l,c2,p,h1,h2⟩:=h.short;unfold wave;rw[xM];exact(Iy p g.size v l rfl (by simp at h2;omega)).mono h1
theorem Of(h:(wave g may cost src).at_ v=some c):v<g.size:=(sv h).lt
theorem Q_(h:∀x,x∈src↔x∈Rq):wave g may cost src=wave g may cost Rq:=by
 have e:(fun v=>if src.contains v then some 0 else none:Nat->aY Nat)=fun v=>if Rq.contains v then some 0 else none:=by
  funext v;have:src.contains v=Rq.contains v:=by rw[dh];simp[h]
  rw[this]
 unfold wave;rw[e]
end
end Nw
namespace Nw
open Vbpcah
section
variable(g:kX)(may:Nat->Nat->Bool)(cost:Nat->Nat->Nat)(src:ab Nat)
structure JQ(D:Nat->aY Nat)(pend:Nat->Nat->Prop):Prop where
 sound:∀v x,D v=some x->Reach g may cost src v x
 start:∀v,v∈src->v<g.size->D v=some 0
 rel:∀u x,D u=some x->pend x u\/∀v,u∈g.near v->v<g.size->may u v=true->Le (D v) (x+cost u v)
end
section
variable{g:kX}{may:Nat->Nat->Bool}{cost:Nat->Nat->Nat}{src:ab Nat}{D:Nat->aY Nat}{pend:Nat->Nat->Prop}
theorem JQ.Zb(I:JQ g may cost src D pend)(hp:∀u v,u∈g.near v->may u v=true->1<=cost u v)(hc:∀u x,pend x u->D u=some x->c<=x):∀(x v:Nat),Reach g may cost src v x->x<=c->Le (D v) x:=by
 intro x;induction x using Nat.strongRecOn with
 |ind x ih=>
  intro v hr hx;rcases hr.inv with⟨h1,h2⟩|⟨u,a,h1,h2,h3,h4⟩;·subst h2;exact⟨0,I.start v h1 hr.lt,aD _⟩
  ·have h5:=hp u v h2 h3;obtain⟨a',h6,h7⟩:=ih a (by omega) u h1 (by omega);rcases I.rel u a' h6 with h8|h8;·have:=hc u a' h8 h6;omega
   ·exact(h8 v h2 hr.lt h3).mono (by omega)
def Agree(W:Costs)(D:Nat->aY Nat)(c:Nat):Prop:=∀v x,x<=c->(D v=some x↔W.at_ v=some x)
theorem JQ.agree(I:JQ g may cost src D pend)(hp:∀u v,u∈g.near v->may u v=true->1<=cost u v)(hc:∀u x,pend x u->D u=some x->c<=x):Agree (wave g may cost src) D c:=by
 intro v x hx;constructor;·intro h;obtain⟨a,h1,h2⟩:=sx (I.sound v x h);obtain⟨b,h3,h4⟩:=I.Zb hp hc a v (sv h1) (by omega);rw[h]at h3;cases h3;rw[h1];congr 1;omega
 ·intro h;obtain⟨b,h3,h4⟩:=I.Zb hp hc x v (sv h) hx;obtain⟨a,h1,h2⟩:=sx (I.sound v b h3);rw[h]at h1;cases h1;rw[h3];congr 1;omega
theorem JQ.QG(I:JQ g may cost src D pend)(hp:∀u v,u∈g.near v->may u v=true->1<=cost u v)(hc:∀u x,pend x u->D u=some x->False)(v:Nat):D v=(wave g may cost src).at_ v:=by
 have a:∀c,Agree (wave g may cost src) D c:=fun c=>I.agree hp fun u x h1 h2=>(hc u x h1 h2).elim;cases h:D v with
 |some x=>exact((a x v x (aD _)).mp h).symm
 |none=>
  cases h2:(wave g may cost src).at_ v with
  |none=>rfl
  |some x=>rw[(a x v x (aD _)).mpr h2]at h;cases h
structure jj(D:Nat->aY Nat)(L:ab Nat)(c v:Nat):Prop where
 mem:v∈L
 at_:D v=some c
 least:∀u e,u∈L->D u=some e->c<e\/(c=e/\v<=u)
theorem jj.uniq(a:jj D L c v)(b:jj D L c' v'):c=c'/\v=v':=by have h1:=a.least v' c' b.mem b.at_;have h2:=b.least v c a.mem a.at_;omega
theorem lH(W:Costs):∀(L:ab Nat),match target W L with
  |none=>∀u∈L,W.at_ u=none
  |some (c,v)=>jj W.at_ L c v
 |[]=>by simp[target]
 |v::l=>by
  have ih:=lH W l;unfold target;cases h1:W.at_ v with
  |none=>
   cases h2:target W l with
   |none=>
    rw[h2]at ih;simp only;intro u hu;rcases aF.mp hu with e|e;·subst e;exact h1
    ·exact ih u e
   |some t=>
    obtain⟨e,u⟩:=t;rw[h2]at ih;simp only at ih⊢;refine⟨by simp[ih.mem],ih.at_,fun u' e' hu he=>?_⟩;rcases aF.mp hu with q|q;·subst q;rw[h1]at he;cases he
    ·exact ih.least u' e' q he
  |some c=>
   cases h2:target W l with
   |none=>
    rw[h2]at ih;simp only at ih⊢;refine⟨by simp,h1,fun u' e' hu he=>?_⟩;rcases aF.mp hu with q|q;·subst q;rw[h1]at he;cases he;exact .inr ⟨rfl,aD _⟩
    ·rw[ih u' q]at he;cases he
   |some t=>
    obtain⟨e,u⟩:=t;rw[h2]at ih;simp only at ih⊢;by_cases h:c<e\/(c=e/\v<u)
    ·rw[aw h];refine⟨by simp,h1,fun u' e' hu he=>?_⟩;rcases aF.mp hu with q|q;·subst q;rw[h1]at he;cases he;exact .inr ⟨rfl,aD _⟩
     ·have:=ih.least u' e' q he;omega
    ·rw[ao h];refine⟨by simp[ih.mem],ih.at_,fun u' e' hu he=>?_⟩;rcases aF.mp hu with q|q;·subst q;rw[h1]at he;cases he;omega
     ·exact ih.least u' e' q he
theorem BR(h:jj W.at_ L c v):target W L=some (c,v):=by
 have:=lH W L;cases h2:target W L with
 |none=>rw[h2]at this;have q:=this v h.mem;rw[h.at_]at q;cases q
 |some t=>obtain⟨c',v'⟩:=t;rw[h2]at this;obtain⟨rfl,rfl⟩:=h.uniq this;rfl
theorem BS(h:∀u∈L,W.at_ u=none):target W L=none:=by
 have:=lH W L;cases h2:target W L with
 |none=>rfl
 |some t=>obtain⟨c',v'⟩:=t;rw[h2]at this;have q:=h v' this.mem;have q2:W.at_ v'=some c':=this.at_;rw[q2]at q;cases q
theorem jj.RV(h:jj D L c v)(a:Agree W D b)(hc:c<=b):jj W.at_ L c v:=by
 refine⟨h.mem,(a v c hc).mp h.at_,fun u e hu he=>?_⟩;by_cases q:e<=b;·exact h.least u e hu ((a u e q).mpr he)
 ·exact .inl (by omega)
theorem Mp(h:∀x,x∈L↔x∈L'):target W L=target W L':=by
 have a:=lH W L;cases h2:target W L with
 |none=>rw[h2]at a;exact(BS fun u hu=>a u ((h u).mpr hu)).symm
 |some t=>obtain⟨c,v⟩:=t;rw[h2]at a;have a':jj W.at_ L c v:=a;exact(BR ⟨(h v).mp a'.mem,a'.at_,fun u e hu he=>a'.least u e ((h u).mpr hu) he⟩).symm
def pred(g:kX)(may:Nat->Nat->Bool)(cost:Nat->Nat->Nat)(D:Nat->aY Nat)(v:Nat):aY Nat:=
 (g.near v).find? fun u=>may u v&&(match D u,D v with
   |some a,some b=>a+cost u v==b
   |_,_=>false)
theorem rX(W:Costs)(n v:Nat):j9 g may cost W (n+1) v=match pred g may cost W.at_ v with
  |some u=>v::j9 g may cost W n u
  |none=>[v]:=rfl
theorem AW(h:pred g may cost D v=some u):u∈g.near v/\may u v=true/\∃a b,D u=some a/\D v=some b/\a+cost u v=b:=by
 have h1:=List.find?_some h;have h2:=List.mem_of_find?_eq_some h;rw[bN]at h1;refine⟨h2,h1.1,?_⟩;have h3:=h1.2;cases q1:D u with
 |none=>rw[q1]at h3;cases h3
 |some a=>
  cases q2:D v with
  |none=>rw[q1,q2]at h3;cases h3
  |some b=>rw[q1,q2]at h3;exact⟨a,b,rfl,rfl,eq_of_beq h3⟩
theorem MQ(hp:∀u v,u∈g.near v->may u v=true->1<=cost u v)(a:Agree W D b)(hv:W.at_ v=some x)(hx:x<=b):pred g may cost D v=pred g may cost W.at_ v:=by
 unfold pred;have Qh:D v=some x:=(a v x hx).mpr hv;have key:∀u,u∈g.near v->(may u v&&(match D u,D v with
   |some a,some b=>a+cost u v==b
   |_,_=>false))=(may u v&&(match W.at_ u,W.at_ v with
   |some a,some b=>a+cost u v==b
   |_,_=>false)):=by
  intro u hu;cases hm:may u v with
  |false=>rfl
  |true=>
   have h1:=hp u v hu hm;rw[hv,Qh,dh];simp only[lQ];constructor
   ·intro h;cases q:D u with
    |none=>rw[q]at h;cases h
    |some y=>rw[q]at h;have e:y+cost u v=x:=eq_of_beq h;rw[(a u y (by omega)).mp q];exact h
   ·intro h;cases q:W.at_ u with
    |none=>rw[q]at h;cases h
    |some y=>rw[q]at h;have e:y+cost u v=x:=eq_of_beq h;rw[(a u y (by omega)).mpr q];exact h
 have gen:∀l:ab Nat,(∀u∈l,u∈g.near v)->l.find? (fun u=>may u v&&(match D u,D v with
   |some a,some b=>a+cost u v==b
   |_,_=>false))=l.find? (fun u=>may u v&&(match W.at_ u,W.at_ v with
   |some a,some b=>a+cost u v==b
   |_,_=>false)):=by
  intro l;induction l with
  |nil=>intro _;rfl
  |cons u l ih=>intro h;rw[gz,gz,key u (h u (by simp)),ih fun w hw=>h w (by simp[hw])]
 exact gen _ fun _ h=>h
structure Told(W:Costs)(t:Nat)(way:ab Nat)(v:Nat):Prop where
 eq:j9 g may cost W g.size t=way++j9 g may cost W (g.size-way.length) v
 nd:(way++[v]).Nodup
 lt:∀x∈way++[v],x<g.size
 at_:∃c,W.at_ v=some c/\∀x∈way,∃e,W.at_ x=some e/\c<e
theorem Told.start(h:(wave g may cost src).at_ t=some c):Told (g:=g) (may:=may) (cost:=cost) (wave g may cost src) t [] t:=⟨by simp,by simp,fun x hx=>by simp at hx;subst hx;exact Of h,c,h,by simp⟩
theorem Told.room(T:Told (g:=g) (may:=may) (cost:=cost) W t way v):way.length<g.size:=by have:=iC T.nd T.lt;simp at this;omega
theorem Told.next(hp:∀u v,u∈g.near v->may u v=true->1<=cost u v)(T:Told (g:=g) (may:=may) (cost:=cost) (wave g may cost src) t way v)(h:pred g may cost (wave g may cost src).at_ v=some u):Told (g:=g) (may:=may) (cost:=cost) (wave g may cost src) t (way++[v]) u:=by
 have hr:=T.room;obtain⟨h1,h2,a,b,h3,h4,h5⟩:=AW h;have h6:=hp u v h1 h2;obtain⟨c,hc,hw⟩:=T.at_;rw[h4]at hc;cases hc;have lower:∀x∈way++[v],∃e,(wave g may cost src).at_ x=some e/\a<e:=by
  intro x hx;rcases a_.mp hx with q|q;·obtain⟨e,h7,h8⟩:=hw x q;exact⟨e,h7,by omega⟩
  ·simp at q;subst q;exact⟨b,h4,by omega⟩
 refine⟨?_,?_,?_,a,h3,lower⟩
 ·rw[T.eq];obtain⟨n,hn⟩:∃n,g.size-way.length=n+1:=⟨g.size-way.length-1,by omega⟩;have hn2:g.size-(way++[v]).length=n:=by simp;omega
  rw[hn,hn2,rX,h,gk];rfl
 ·rw[i_];refine⟨T.nd,by simp,?_⟩;intro x hx y hy;simp at hy;subst hy;intro e;subst e;obtain⟨e,h7,h8⟩:=lower x hx;rw[h3]at h7;cases h7;omega
 ·intro x hx;rcases a_.mp hx with q|q;·exact T.lt x q
  ·simp at q;subst q;exact Of h3
theorem Told.last(T:Told (g:=g) (may:=may) (cost:=cost) W t way v)(h:pred g may cost W.at_ v=none):j9 g may cost W g.size t=way++[v]:=by have hr:=T.room;obtain⟨n,hn⟩:∃n,g.size-way.length=n+1:=⟨g.size-way.length-1,by omega⟩;rw[T.eq,hn,rX,h]
end
end Nw
namespace Nw
open Vbpcah
structure tX(g:kX):Prop where
 w:1<=g.w
 h:1<=g.h
 l:1<=g.l
section
variable{g:kX}
theorem j3(hx:x<g.w):g.col (g.cell k x y)=x:=by unfold Grid.col g8;rw[d7,GJ,uf hx]
theorem Hw(hx:x<g.w):g.cell k x y/g.w=k*g.h+y:=by unfold g8;rw[d7,Nat.mul_add_div (by omega),ug hx,Nat.add_zero]
theorem iE(hx:x<g.w)(hy:y<g.h):g.row (g.cell k x y)=y:=by unfold Gs;rw[Hw hx,d7,GJ,uf hy]
theorem eU(hx:x<g.w)(hy:y<g.h):g.layer (g.cell k x y)=k:=by unfold um;rw[<-Nat.div_div_eq_div_mul,Hw hx,d7,Nat.mul_add_div (by omega),ug hy,Nat.add_zero]
theorem iQ(v:Nat):g.cell (g.layer v) (g.col v) (g.row v)=v:=by unfold g8 um Grid.col Gs;rw[<-Nat.div_div_eq_div_mul];have h1:=Nat.div_add_mod (v/g.w) g.h;have h2:=Nat.div_add_mod v g.w;rw[d7 g.h]at h1;rw[h1,d7];exact h2
theorem SQ(hx:x<g.w)(hy:y<g.h)(QY:x'<g.w)(YE:y'<g.h)(e:g.cell k x y=g.cell k' x' y'):k=k'/\x=x'/\y=y':=by
 refine⟨?_,?_,?_⟩;·rw[<-eU (k:=k) hx hy,e,eU QY YE]
 ·rw[<-j3 (k:=k) (y:=y) hx,e,j3 QY]
 ·rw[<-iE (k:=k) hx hy,e,iE QY YE]
theorem mE(hx:x<g.w)(hy:y<g.h)(hk:k<g.l):g.cell k x y<g.size:=by
 unfold g8 iZ;have h1:k*g.h+y+1<=g.l*g.h:=by have h2:(k+1)*g.h<=g.l*g.h:=eP _ (by omega);rw[fO,iH]at h2;omega
 have h3:(k*g.h+y+1)*g.w<=g.l*g.h*g.w:=eP _ h1;rw[fO,iH]at h3;have h4:g.w*g.h*g.l=g.l*g.h*g.w:=by rw[d7 g.w g.h,d7 _ g.l,Nat.mul_assoc]
 omega
theorem pT(G:tX g)(v:Nat):g.col v<g.w:=BN _ G.w
theorem sR(G:tX g)(v:Nat):g.row v<g.h:=BN _ G.h
theorem pM(h:v<g.size):g.layer v<g.l:=by unfold um;exact Nat.div_lt_of_lt_mul h
theorem B9(G:tX g)(h:g.layer v<g.l):v<g.size:=by rw[<-iQ (g:=g) v];exact mE (pT G v) (sR G v) h
theorem lt_size(G:tX g):v<g.size↔g.layer v<g.l:=⟨pM,B9 G⟩
theorem Dg(h:0<g.col v):v-1=g.cell (g.layer v) (g.col v-1) (g.row v):=by have e:=iQ (g:=g) v;unfold g8 at e⊢;omega
theorem zI:v+1=g.cell (g.layer v) (g.col v+1) (g.row v):=by have e:=iQ (g:=g) v;unfold g8 at e⊢;omega
theorem up_eq(h:0<g.row v):v-g.w=g.cell (g.layer v) (g.col v) (g.row v-1):=by have e:=iQ (g:=g) v;obtain⟨y,hy⟩:∃y,g.row v=y+1:=⟨g.row v-1,by omega⟩;rw[hy]at e⊢;unfold g8 at e⊢;rw[<-tQ,fO,iH]at e;simp only[BO];omega
theorem down_eq:v+g.w=g.cell (g.layer v) (g.col v) (g.row v+1):=by have e:=iQ (g:=g) v;unfold g8 at e⊢;rw[<-tQ,fO,iH];omega
theorem Bz(h:0<g.layer v):v-g.w*g.h=g.cell (g.layer v-1) (g.col v) (g.row v):=by have e:=iQ (g:=g) v;obtain⟨y,hy⟩:∃y,g.layer v=y+1:=⟨g.layer v-1,by omega⟩;rw[hy]at e⊢;unfold g8 at e⊢;rw[fO y 1,iH,Nat.add_right_comm,fO _ g.h g.w,d7 g.h g.w]at e;simp only[BO];omega
theorem E':v+g.w*g.h=g.cell (g.layer v+1) (g.col v) (g.row v):=by have e:=iQ (g:=g) v;unfold g8 at e⊢;rw[fO (g.layer v) 1,iH,Nat.add_right_comm,fO _ g.h g.w,d7 g.h g.w];omega
inductive Nb(g:kX)(v u:Nat):Prop where
 |left:g.layer u=g.layer v->g.row u=g.row v->g.col u+1=g.col v->Nb g v u
 |right:g.layer u=g.layer v->g.row u=g.row v->g.col u=g.col v+1->Nb g v u
 |up:g.layer u=g.layer v->g.row u+1=g.row v->g.col u=g.col v->Nb g v u
 |down:g.layer u=g.layer v->g.row u=g.row v+1->g.col u=g.col v->Nb g v u
 |before:g.layer u+1=g.layer v->g.row u=g.row v->g.col u=g.col v->Nb g v u
 |after:g.layer u=g.layer v+1->g.row u=g.row v->g.col u=g.col v->Nb g v u
theorem Nb.symm(h:Nb g v u):Nb g u v:=by
 cases h with
 |left a b c=>exact .right a.symm b.symm c.symm
 |right a b c=>exact .left a.symm b.symm c.symm
 |up a b c=>exact .down a.symm b.symm c.symm
 |down a b c=>exact .up a.symm b.symm c.symm
 |before a b c=>exact .after a.symm b.symm c.symm
 |after a b c=>exact .before a.symm b.symm c.symm
theorem KZ:u∈g.near v↔(0<g.col v/\u=v-1)\/(g.col v+1<g.w/\u=v+1)\/(0<g.row v/\u=v-g.w)\/(g.row v+1<g.h/\u=v+g.w)\/(0<g.layer v/\u=v-g.w*g.h)\/(g.layer v+1<g.l/\u=v+g.w*g.h):=by unfold jr;simp only[a_,List.mem_ite_nil_right,bU]
theorem sU(G:tX g)(hv:v<g.size)(h:u∈g.near v):u<g.size/\Nb g v u:=by
 have hc:=pT G v;have hr:=sR G v;have hl:=pM hv;rcases KZ.mp h with⟨a,e⟩|⟨a,e⟩|⟨a,e⟩|⟨a,e⟩|⟨a,e⟩|⟨a,e⟩;·rw[Dg a]at e;subst e;refine⟨mE (by omega) hr hl,.left (eU (by omega) hr) (iE (by omega) hr) ?_⟩;rw[j3 (by omega)];omega
 ·rw[zI (g:=g)]at e;subst e;refine⟨mE (by omega) hr hl,.right (eU (by omega) hr) (iE (by omega) hr) ?_⟩;rw[j3 (by omega)]
 ·rw[up_eq a]at e;subst e;refine⟨mE hc (by omega) hl,.up (eU hc (by omega)) ?_ (j3 hc)⟩;rw[iE hc (by omega)];omega
 ·rw[down_eq (g:=g)]at e;subst e;refine⟨mE hc (by omega) hl,.down (eU hc (by omega)) ?_ (j3 hc)⟩;rw[iE hc (by omega)]
 ·rw[Bz a]at e;subst e;refine⟨mE hc hr (by omega),.before ?_ (iE hc hr) (j3 hc)⟩;rw[eU hc hr];omega
 ·rw[E' (g:=g)]at e;subst e;refine⟨mE hc hr (by omega),.after ?_ (iE hc hr) (j3 hc)⟩;rw[eU hc hr]
theorem M8(G:tX g)(hu:u<g.size)(h:Nb g v u):u∈g.near v:=by
 have hc:=pT G u;have hr:=sR G u;have hl:=pM hu;rw[KZ];cases h with
 |left a b c=>refine .inl ⟨by omega,?_⟩;rw[Dg (g:=g) (by omega)];rw[<-a,<-b,show g.col v-1=g.col u by omega,iQ]
 |right a b c=>refine .inr (.inl ⟨by omega,?_⟩);rw[zI (g:=g),<-a,<-b,<-c,iQ]
 |up a b c=>refine .inr (.inr (.inl ⟨by omega,?_⟩));rw[up_eq (g:=g) (by omega),<-a,<-c,show g.row v-1=g.row u by omega,iQ]
 |down a b c=>refine .inr (.inr (.inr (.inl ⟨by omega,?_⟩)));rw[down_eq (g:=g),<-a,<-b,<-c,iQ]
 |before a b c=>refine .inr (.inr (.inr (.inr (.inl ⟨by omega,?_⟩))));rw[Bz (g:=g) (by omega),<-b,<-c,show g.layer v-1=g.layer u by omega,iQ]
 |after a b c=>refine .inr (.inr (.inr (.inr (.inr ⟨by omega,?_⟩))));rw[E' (g:=g),<-a,<-b,<-c,iQ]
theorem Hh(G:tX g)(hv:v<g.size)(h:u∈g.near v):v∈g.near u:=M8 G hv (sU G hv h).2.symm
theorem sV(G:tX g)(hv:v<g.size)(h:u∈g.near v):u<g.size:=(sU G hv h).1
theorem nF(G:tX g):x∈g.column v↔x<g.size/\g.col x=g.col v/\g.row x=g.row v:=by
 unfold Fm;simp only[bB,dr];constructor;·rintro⟨k,hk,rfl⟩;exact⟨mE (pT G v) (sR G v) hk,j3 (pT G v),iE (pT G v) (sR G v)⟩
 ·rintro⟨h1,h2,h3⟩;exact⟨g.layer x,pM h1,by rw[<-h2,<-h3,iQ]⟩
theorem wu(h1:g.col u=g.col v)(h2:g.row u=g.row v):g.column u=g.column v:=by unfold Fm;rw[h1,h2]
theorem eY:g.isVia u v=true↔g.layer u≠g.layer v:=by unfold Grid.isVia;simp
theorem Nb.via(h:Nb g v u)(hv:g.layer u≠g.layer v):g.row u=g.row v/\g.col u=g.col v:=by
 cases h with
 |left a _ _=>exact bF a hv
 |right a _ _=>exact bF a hv
 |up a _ _=>exact bF a hv
 |down a _ _=>exact bF a hv
 |before _ b c=>exact⟨b,c⟩
 |after _ b c=>exact⟨b,c⟩
theorem Nb.place(h:Nb g v u):(g.row u=g.row v/\g.col u=g.col v)↔g.layer u≠g.layer v:=by
 constructor;·rintro⟨a,b⟩;cases h<;>omega
 ·exact h.via
theorem EE:g.isVia u v=g.isVia v u:=by rw[dh,eY,eY];exact⟨fY,fY⟩
end
end Nw
namespace Nw
open Vbpcah
section
variable{g:kX}{may:Nat->Nat->Bool}{cost:Nat->Nat->Nat}{src:ab Nat}
def Walk(g:kX)(may:Nat->Nat->Bool):ab Nat->Prop
 |[]=>False
 |[v]=>v<g.size
 |a::b::l=>a<g.size/\b∈g.near a/\may b a=true/\Walk g may (b::l)
theorem Walk.mono(h:∀u v,may u v=true->abG u v=true):∀{l:ab Nat},Walk g may l->Walk g abG l
 |[],q=>q
 |[_],q=>q
 |_::b::l,⟨h1,h2,h3,h4⟩=>⟨h1,h2,h _ _ h3,Walk.mono (l:=b::l) h h4⟩
theorem Walk.lt:∀{l:ab Nat},Walk g may l->∀x∈l,x<g.size
 |[],q=>q.elim
 |[v],q=>fun x hx=>by simp at hx;subst hx;exact q
 |a::b::l,⟨h1,_,_,h4⟩=>fun x hx=>by
  rcases aF.mp hx with e|e;·subst e;exact h1
  ·exact Walk.lt (l:=b::l) h4 x e
theorem Walk.ne:∀{l:ab Nat},Walk g may l->l≠[]
 |[],q=>q.elim
 |_::_,_=>by simp
abbrev Chain(g:kX)(l:ab Nat):Prop:=Walk g (fun _ _=>true) l
theorem Walk.chain(h:Walk g may l):Chain g l:=h.mono fun _ _ _=>rfl
theorem BC(W:Costs)(n v:Nat):∃r,j9 g may cost W n v=v::r:=by
 cases n with
 |zero=>exact⟨[],rfl⟩
 |succ n=>
  rw[rX];cases pred g may cost W.at_ v with
  |none=>exact⟨[],rfl⟩
  |some u=>exact⟨_,rfl⟩
theorem BB(G:tX g)(W:Costs):∀(n v:Nat),v<g.size->Walk g may (j9 g may cost W n v)
 |0,v,h=>h
 |n+1,v,h=>by
  rw[rX];cases q:pred g may cost W.at_ v with
  |none=>exact h
  |some u=>obtain⟨h1,h2,_⟩:=AW q;have ih:=BB G W n u (sV G h h1);obtain⟨r,e⟩:=BC (g:=g) (may:=may) (cost:=cost) W n u;show Walk g may (v::j9 g may cost W n u);rw[e]at ih⊢;exact⟨h,h1,h2,ih⟩
theorem vy(G:tX g):∀{l:ab Nat},Walk g (az g use) l->(∀v,l=[v]->use v=true)->∀x∈dJ g l,x<g.size/\use x=true
 |[],q,_=>q.elim
 |[v],q,hs=>fun x hx=>by
  have e:x=v:=by simpa[dJ]using hx
  subst e;exact⟨q,hs x rfl⟩
 |a::b::l,⟨h1,h2,h3,h4⟩,_=>fun x hx=>by
  have nb:=(sU G h1 h2).2;unfold dJ at hx;unfold az at h3;rw[EE (u:=b)]at h3;rcases a_.mp hx with q|q
  ·by_cases hv:g.isVia a b=true;·rw[aw hv]at q h3;have hc:=nb.via (fun e=>eY.mp hv e.symm);have q':=q;rw[wu (u:=a) (v:=b) hc.2.symm hc.1.symm]at q;exact⟨((nF G).mp q').1,eS.mp h3 x q⟩
   ·rw[ao hv]at q h3;have e:x=a:=by simpa using q
    subst e;rw[bN]at h3;exact⟨h1,h3.2⟩
  ·refine vy G (l:=b::l) h4 (fun v e=>?_) x q;cases e;by_cases hv:g.isVia a b=true;·rw[aw hv]at h3;exact eS.mp h3 b ((nF G).mpr ⟨sV G h1 h2,rfl,rfl⟩)
   ·rw[ao hv]at h3;rw[bN]at h3;exact h3.1
theorem vk(G:tX g):∀{l:ab Nat},Chain g l->∀x,x∈dJ g l↔x∈l\/∃i a b,l[i]? =some a/\l[i+1]? =some b/\g.layer a≠g.layer b/\x∈g.column b
 |[],q,_=>q.elim
 |[v],q,x=>by
  simp only[dJ,bU];constructor;·exact .inl
  ·rintro(h|⟨i,a,b,h1,h2,_⟩);·exact h
   ·simp at h2
 |a::b::l,⟨h1,h2,h3,h4⟩,x=>by
  have nb:=(sU G h1 h2).2;have ih:=vk G (l:=b::l) h4 x;unfold dJ;rw[a_,ih];constructor
  ·rintro(q|q|⟨i,a',b',q1,q2,q3⟩)
   ·by_cases hv:g.isVia a b=true;·rw[aw hv]at q;have hl:g.layer a≠g.layer b:=eY.mp hv;have hc:=nb.via (fun e=>hl e.symm);rw[wu (u:=a) (v:=b) hc.2.symm hc.1.symm]at q;exact .inr ⟨0,a,b,rfl,rfl,hl,q⟩
    ·rw[ao hv]at q;exact .inl (by simp at q;simp[q])
   ·exact .inl (by simp at q⊢;exact .inr q)
   ·exact .inr ⟨i+1,a',b',by simpa using q1,by simpa using q2,q3⟩
  ·rintro(q|⟨i,a',b',q1,q2,q3,q4⟩)
   ·rcases aF.mp q with e|e
    ·subst e;left;split;·exact(nF G).mpr ⟨h1,rfl,rfl⟩
     ·simp
    ·exact .inr (.inl e)
   ·cases i with
    |zero=>simp at q1 q2;subst q1 q2;left;rw[aw (eY.mpr q3)];have hc:=nb.via (fun e=>q3 e.symm);rw[wu (u:=a) (v:=b) hc.2.symm hc.1.symm];exact q4
    |succ i=>exact .inr (.inr ⟨i,a',b',by simpa using q1,by simpa using q2,q3,q4⟩)
theorem tq(G:tX g)(h:Chain g l):∀x∈dJ g l,x<g.size:=fun x hx=>by
 rcases(vk G h x).mp hx with q|⟨i,a,b,_,_,_,q⟩;·exact h.lt x q
 ·exact((nF G).mp q).1
structure VY(g:kX)(use:Nat->Bool)(l:ab Nat):Prop where
 chain:Chain g l
 use:∀x∈dJ g l,x<g.size/\use x=true
theorem O2(G:tX g):∀(n:Nat)(tree:ab Nat)(pins:ab (ab Nat))(ways:ab (ab Nat))(c:Nat),(∀p∈pins,∀v∈p,v<g.size/\use v=true)->wW g (az g use) cost n tree pins=some (ways,c)->∀l∈ways,VY g use l
 |n,tree,[],ways,c,_,h=>by
  have h':some (([]:ab (ab Nat)),0)=some (ways,c):=by cases n<;>exact h
  cases h';simp
 |0,tree,p::pins,ways,c,_,h=>by cases h
 |n+1,tree,p::pins,ways,c,hu,h=>by
  unfold wW at h;simp only at h;have ts:=lH (wave g (az g use) cost tree) (p::pins).flatten;cases e:target (wave g (az g use) cost tree) (p::pins).flatten with
  |none=>rw[e]at h;cases h
  |some t=>
   obtain⟨c1,v⟩:=t;rw[e]at h ts;have ts':jj (wave g (az g use) cost tree).at_ (p::pins).flatten c1 v:=ts;simp only at h;obtain⟨q,hq,hvq⟩:=dN.mp ts'.mem;have hv:=hu q hq v hvq;cases e2:wW g (az g use) cost n (tree++(dJ g (j9 g (az g use) cost (wave g (az g use) cost tree) g.size v)++((p::pins).filter fun q=>q.contains v).flatten)) ((p::pins).filter fun q=>!q.contains v)with
   |none=>rw[e2]at h;cases h
   |some t2=>
    rw[e2]at h;have h':some (j9 g (az g use) cost (wave g (az g use) cost tree) g.size v::t2.1,c1+t2.2)=some (ways,c):=h;cases h';intro l hl;rcases aF.mp hl with q|q;·have w:=BB (may:=az g use) (cost:=cost) G (wave g (az g use) cost tree) g.size v hv.1;rw[<-q]at w;refine⟨w.chain,vy G w fun v' e'=>?_⟩;obtain⟨r,er⟩:=BC (g:=g) (may:=az g use) (cost:=cost) (wave g (az g use) cost tree) g.size v;rw[<-q,e']at er;cases er;exact hv.2
    ·exact O2 G n _ _ _ _ (fun p' hp'=>hu p' (ba.mp hp').1) e2 l q
theorem GO(G:tX g)(hu:∀p∈pins,∀v∈p,v<g.size/\use v=true)(h:gu g (az g use) cost pins=some (ways,c)):∀l∈ways,VY g use l:=by
 unfold gu at h;cases pins with
 |nil=>cases h
 |cons p l=>exact O2 G _ _ _ _ _ (fun p' hp'=>hu p' (by simp[hp'])) h
theorem Path.bound(hM:∀u v,cost u v<=M)(p:Path g may cost src l c):c<=(l.length-1)*M:=by
 induction p with
 |base=>simp
 |@step u v c l p _ _ _ ih=>have:=hM u v;simp only[bg,BO]at ih⊢;rw[fO,iH];omega
theorem Mh(hM:∀u v,cost u v<=M)(h:(wave g may cost src).at_ v=some c):c<=g.size*M:=by obtain⟨l,c2,p,h1,h2⟩:=(sv h).short;obtain⟨a,h3,h4⟩:=sx ⟨l,p⟩;rw[h]at h3;cases h3;have:=p.bound hM;have h5:((v::l).length-1)*M<=g.size*M:=eP _ (by omega);omega
end
end Nw
namespace Nw
open Vbpcah
theorem gP:n∈bV↔1<=n/\n<=32:=by
 unfold bV NETS;simp only[bB,dr];constructor;·rintro⟨k,h,rfl⟩;omega
 ·rintro⟨h1,h2⟩;exact⟨n-1,by omega,by omega⟩
theorem jP{s:fM}(hl:s.nets.length=32)(hn:1<=n/\n<=32)(hm:1<=m):(s.setNet n a).net m=if m=n then a else s.net m:=by
 unfold Board.setNet Board.net;simp only[dF];by_cases e:m=n;·subst e;rw[aw rfl,d4 (by omega)];rfl
 ·rw[ao e,eJ (by omega)]
theorem xN{s:fM}:(s.setNet n a).nets.length=s.nets.length:=by unfold Board.setNet;simp
theorem Ll(n:Nat):∀(l:ab Nat)(t:i5 Nat),(l.foldl (fun u v=>if v<u.size then u.setIfInBounds v n else u) t).size=t.size/\∀x,x<t.size->(l.foldl (fun u v=>if v<u.size then u.setIfInBounds v n else u) t).getD x 0=if x∈l then n else t.getD x 0
 |[],t=>⟨rfl,fun x _=>by simp⟩
 |v::l,t=>by
  rw[dg];have key:(if v<t.size then t.setIfInBounds v n else t).size=t.size:=by split<;>simp
  obtain⟨h1,h2⟩:=Ll n l (if v<t.size then t.setIfInBounds v n else t);refine⟨h1.trans key,fun x hx=>?_⟩;rw[h2 x (by rw[key];exact hx)];by_cases hl:x∈l;·simp[hl]
  ·rw[ao hl];by_cases e:x=v;·subst e;rw[aw hx];simp[g_,hx]
   ·have:¬x∈v::l:=by simp[hl,e]
    rw[ao this];split;·simp[g_,hx,FD,fY e]
    ·rfl
def lastOf(has:Nat->Bool):ab Nat->Nat->Nat
 |[],d=>d
 |n::l,d=>lastOf has l (if has n=true then n else d)
theorem xt(s:fM)(f:Net->ab Nat):∀(ns:ab Nat)(t:i5 Nat),(ns.foldl (fun t n=>(f (s.net n)).foldl (fun u v=>if v<u.size then u.setIfInBounds v n else u) t) t).size=t.size/\∀x,x<t.size->(ns.foldl (fun t n=>(f (s.net n)).foldl (fun u v=>if v<u.size then u.setIfInBounds v n else u) t) t).getD x 0=lastOf (fun n=>decide (x∈f (s.net n))) ns (t.getD x 0)
 |[],t=>⟨rfl,fun _ _=>rfl⟩
 |n::ns,t=>by
  rw[dg];obtain⟨a1,a2⟩:=Ll n (f (s.net n)) t;obtain⟨h1,h2⟩:=xt s f ns ((f (s.net n)).foldl (fun u v=>if v<u.size then u.setIfInBounds v n else u) t);refine⟨h1.trans a1,fun x hx=>?_⟩;rw[h2 x (by rw[a1];exact hx),a2 x hx];show _=lastOf _ ns (if decide (x∈f (s.net n))=true then n else t.getD x 0);by_cases e:x∈f (s.net n);·rw[aw e,aw (by simpa using e)]
  ·rw[ao e,ao (by simpa using e)]
theorem DC(s:fM)(f:Net->ab Nat):(table s f).size=s.g.size:=by unfold table;rw[(xt s f _ _).1];simp
theorem table_at(s:fM)(f:Net->ab Nat)(hx:x<s.g.size):(table s f).getD x 0=lastOf (fun n=>decide (x∈f (s.net n))) bV 0:=by unfold table;rw[(xt s f _ _).2 x (by simpa using hx)];simp[g_,hx]
theorem vo:∀{l:ab Nat}{d:Nat},(∀n∈l,has n=false)->lastOf has l d=d
 |[],d,_=>rfl
 |n::l,d,h=>by unfold lastOf;rw[vo fun m hm=>h m (by simp[hm]),ao (by rw[h n (by simp)];simp)]
theorem B_:∀{l:ab Nat}{d:Nat},lastOf has l d=d\/(lastOf has l d∈l/\has (lastOf has l d)=true)
 |[],d=>.inl rfl
 |n::l,d=>by
  unfold lastOf;rcases B_ (has:=has) (l:=l) (d:=if has n=true then n else d)with h|⟨h1,h2⟩
  ·rw[h];split;·rename_i hh;exact .inr ⟨by simp,hh⟩
   ·exact .inl rfl
  ·exact .inr ⟨by simp[h1],h2⟩
theorem EB:∀{l:ab Nat}{d:Nat},n∈l->has n=true->(∀m∈l,has m=true->m=n)->lastOf has l d=n
 |[],d,h,_,_=>by simp at h
 |m::l,d,h,hn,hu=>by
  unfold lastOf;by_cases q:n∈l;·exact EB q hn fun k hk=>hu k (by simp[hk])
  ·have e:n=m:=by
    rcases aF.mp h with e|e;·exact e
    ·exact bF e q
   subst e;rw[aw hn];refine vo fun k hk=>?_;cases hh:has k with
   |false=>rfl
   |true=>exact bF (hu k (by simp[hk]) hh▸hk) q
def Apart(s:fM)(f:Net->ab Nat):Prop:=∀n m x,1<=n->n<=32->1<=m->m<=32->x∈f (s.net n)->x∈f (s.net m)->n=m
theorem o6(ha:Apart s f)(hx:x<s.g.size)(h1:1<=n)(h2:n<=32)(h:x∈f (s.net n)):(table s f).getD x 0=n:=by rw[table_at s f hx];refine EB (gP.mpr ⟨h1,h2⟩) (by simpa using h) fun m hm hh=>?_;have:=gP.mp hm;exact ha m n x this.1 this.2 h1 h2 (by simpa using hh) h
theorem xr(h:∀n,1<=n->n<=32->x∉f (s.net n)):(table s f).getD x 0=0:=by
 by_cases hx:x<s.g.size;·rw[table_at s f hx];refine vo fun n hn=>?_;have:=gP.mp hn;simpa using h n this.1 this.2
 ·have:¬x<(table s f).size:=by rw[DC];exact hx
  simp[g_,this]
theorem rE(h:(table s f).getD x 0≠0):x<s.g.size/\1<=(table s f).getD x 0/\(table s f).getD x 0<=32/\x∈f (s.net ((table s f).getD x 0)):=by
 by_cases hx:x<s.g.size
 ·rw[table_at s f hx]at h⊢;rcases B_ (has:=fun n=>decide (x∈f (s.net n))) (l:=bV) (d:=0)with e|⟨h1,h2⟩;·exact bF e h
  ·have:=gP.mp h1;exact⟨hx,this.1,this.2,by simpa using h2⟩
 ·have:¬x<(table s f).size:=by rw[DC];exact hx
  simp[g_,this]at h
theorem Ar(ha:Apart s f)(hx:x<s.g.size)(hn:1<=n)(hn':n<=32):((table s f).getD x 0=0\/(table s f).getD x 0=n)↔∀m,1<=m->m<=32->x∈f (s.net m)->m=n:=by
 constructor;·rintro h m h1 h2 hm;have:=o6 ha hx h1 h2 hm;omega
 ·intro h;by_cases q:(table s f).getD x 0=0;·exact .inl q
  ·obtain⟨_,a,b,c⟩:=rE q;exact .inr (h _ a b c)
theorem E8:∀(l:ab Nat)(t:i5 Bool),(l.foldl (fun u v=>if v<u.size then u.setIfInBounds v true else u) t).size=t.size/\∀x d,x<t.size->(l.foldl (fun u v=>if v<u.size then u.setIfInBounds v true else u) t).getD x d=(decide (x∈l)||t.getD x d)
 |[],t=>⟨rfl,fun x d _=>by simp⟩
 |v::l,t=>by
  rw[dg];have key:(if v<t.size then t.setIfInBounds v true else t).size=t.size:=by split<;>simp
  obtain⟨h1,h2⟩:=E8 l (if v<t.size then t.setIfInBounds v true else t);refine⟨h1.trans key,fun x d hx=>?_⟩;rw[h2 x d (by rw[key];exact hx)];by_cases e:x=v;·subst e;rw[aw hx];simp[g_,hx]
  ·have q:(if v<t.size then t.setIfInBounds v true else t).getD x d=t.getD x d:=by
    split;·simp[g_,hx,FD,fY e]
    ·rfl
   rw[q];simp[e]
theorem nR(s:fM)(hx:x<s.g.size)(d:Bool):(blockTable s).getD x d=decide (x∈s.blocked):=by unfold blockTable;rw[(E8 _ _).2 x d (by simpa using hx)];simp[g_,hx]
structure Good(s:fM):Prop where
 w:1<=s.g.w/\s.g.w<=24
 h:1<=s.g.h/\s.g.h<=24
 l:1<=s.g.l/\s.g.l<=4
 via:1<=s.via/\s.via<=1000
 wrong:1<=s.wrong/\s.wrong<=1000
 penalty:1<=s.penalty/\s.penalty<=1000
 dirs:s.dirs.length=s.g.l
 dir:∀d∈s.dirs,d<=2
 nets:s.nets.length=32
 blocked:∀v∈s.blocked,v<s.g.size
 nz:∀n,1<=n->n<=32->(s.net n).pins.length<=16
 xj:∀n,1<=n->n<=32->∀p∈(s.net n).pins,p≠[]/\p.Nodup
 xk:∀n,1<=n->n<=32->∀x∈bc (s.net n),x<s.g.size/\x∉s.blocked
 uA:∀n,1<=n->n<=32->∀ws,(s.net n).ways=some ws->(∀l∈ws,Chain s.g l)/\(s.net n).pins≠[]
 yX:∀n,1<=n->n<=32->∀x∈aM s.g (s.net n),x<s.g.size/\x∉s.blocked
 pins:Apart s bc
 ways:Apart s (aM s.g)
 mixed:∀n m x,1<=n->n<=32->1<=m->m<=32->x∈bc (s.net n)->x∈aM s.g (s.net m)->n=m
theorem Good.UU(S:Good s):tX s.g:=⟨S.w.1,S.h.1,S.l.1⟩
theorem Good.size(S:Good s):s.g.size<=2304:=by unfold iZ;have h1:s.g.w*s.g.h<=24*24:=rj S.w.2 S.h.2;have h2:s.g.w*s.g.h*s.g.l<=24*24*4:=rj h1 S.l.2;omega
theorem uE(S:Good s)(h1:1<=n)(h2:n<=32):(iu s n).getD v false=true↔ v<s.g.size/\v∉s.blocked/\(∀m,1<=m->m<=32->v∈bc (s.net m)->m=n)/\(∀m,1<=m->m<=32->v∈aM s.g (s.net m)->m=n):=by
 unfold iu;simp only;rw[iD];by_cases hv:v<s.g.size;·rw[aw hv,nR s hv];simp only[bN,eQ,dU,fm,gg];rw[show dB s=table s bc from rfl,show cB s=table s (aM s.g)from rfl,Ar S.pins hv h1 h2,Ar S.ways hv h1 h2];simp[hv]
 ·simp[hv]
theorem BP(S:Good s)(h1:1<=n)(h2:n<=32):(iV s n).getD v false=true↔ v<s.g.size/\v∉s.blocked/\(∀m,1<=m->m<=32->v∈bc (s.net m)->m=n):=by
 unfold iV;simp only;rw[iD];by_cases hv:v<s.g.size;·rw[aw hv,nR s hv];simp only[bN,eQ,dU,fm,gg];rw[show dB s=table s bc from rfl,Ar S.pins hv h1 h2];simp[hv]
 ·simp[hv]
theorem Good.set(S:Good s)(h1:1<=n)(h2:n<=32)(hl:a.pins.length<=16)(hp:∀p∈a.pins,p≠[]/\p.Nodup)(hc:∀x∈bc a,x<s.g.size/\x∉s.blocked/\∀m,1<=m->m<=32->m≠n->x∉bc (s.net m)/\x∉aM s.g (s.net m))(hw:∀ws,a.ways=some ws->(∀l∈ws,Chain s.g l)/\a.pins≠[])(hv:∀x∈aM s.g a,x<s.g.size/\x∉s.blocked/\∀m,1<=m->m<=32->m≠n->x∉bc (s.net m)/\x∉aM s.g (s.net m)):Good (s.setNet n a):=by
 have N:∀{m:Nat},1<=m->(s.setNet n a).net m=if m=n then a else s.net m:=fun hm=>jP S.nets ⟨h1,h2⟩ hm;refine⟨S.w,S.h,S.l,S.via,S.wrong,S.penalty,S.dirs,S.dir,by rw[xN];exact S.nets,S.blocked,fun m m1 m2=>?_,fun m m1 m2=>?_,fun m m1 m2=>?_,fun m m1 m2=>?_,fun m m1 m2=>?_,fun m k x m1 m2 k1 k2=>?_,fun m k x m1 m2 k1 k2=>?_,fun m k x m1 m2 k1 k2=>?_⟩
 ·rw[N m1];split;·exact hl
  ·exact S.nz m m1 m2
 ·rw[N m1];split;·exact hp
  ·exact S.xj m m1 m2
 ·rw[N m1];split;·exact fun x hx=>⟨(hc x hx).1,(hc x hx).2.1⟩
  ·exact S.xk m m1 m2
 ·rw[N m1];split;·exact hw
  ·exact S.uA m m1 m2
 ·rw[N m1];split;·exact fun x hx=>⟨(hv x hx).1,(hv x hx).2.1⟩
  ·exact S.yX m m1 m2
 ·rw[N m1,N k1];intro a1 a2;by_cases e1:m=n
  ·by_cases e2:k=n;·omega
   ·rw[aw e1]at a1;rw[ao e2]at a2;exact bF a2 ((hc x a1).2.2 k k1 k2 e2).1
  ·by_cases e2:k=n;·rw[ao e1]at a1;rw[aw e2]at a2;exact bF a1 ((hc x a2).2.2 m m1 m2 e1).1
   ·rw[ao e1]at a1;rw[ao e2]at a2;exact S.pins m k x m1 m2 k1 k2 a1 a2
 ·rw[N m1,N k1];intro a1 a2;by_cases e1:m=n
  ·by_cases e2:k=n;·omega
   ·rw[aw e1]at a1;rw[ao e2]at a2;exact bF a2 ((hv x a1).2.2 k k1 k2 e2).2
  ·by_cases e2:k=n;·rw[ao e1]at a1;rw[aw e2]at a2;exact bF a1 ((hv x a2).2.2 m m1 m2 e1).2
   ·rw[ao e1]at a1;rw[ao e2]at a2;exact S.ways m k x m1 m2 k1 k2 a1 a2
 ·rw[N m1,N k1];intro a1 a2;by_cases e1:m=n
  ·by_cases e2:k=n;·omega
   ·rw[aw e1]at a1;rw[ao e2]at a2;exact bF a2 ((hc x a1).2.2 k k1 k2 e2).2
  ·by_cases e2:k=n;·rw[ao e1]at a1;rw[aw e2]at a2;exact bF a1 ((hv x a2).2.2 m m1 m2 e1).1
   ·rw[ao e1]at a1;rw[ao e2]at a2;exact S.mixed m k x m1 m2 k1 k2 a1 a2
theorem my:x∈aM g a↔∃ws,a.ways=some ws/\∃l∈ws,x∈dJ g l:=by
 unfold aM;cases a.ways with
 |none=>simp
 |some ws=>simp[gM]
theorem Good.others(S:Good s)(h1:1<=n)(h2:n<=32)(hx:x∈bc (s.net n)):x<s.g.size/\x∉s.blocked/\∀m,1<=m->m<=32->m≠n->x∉bc (s.net m)/\x∉aM s.g (s.net m):=⟨(S.xk n h1 h2 x hx).1,(S.xk n h1 h2 x hx).2,fun m m1 m2 e=>⟨fun q=>e (S.pins m n x m1 m2 h1 h2 q hx),fun q=>e (S.mixed n m x h1 h2 m1 m2 hx q).symm⟩⟩
theorem Good.Uq(S:Good s)(h1:1<=n)(h2:n<=32)(hx:x∈aM s.g (s.net n)):x<s.g.size/\x∉s.blocked/\∀m,1<=m->m<=32->m≠n->x∉bc (s.net m)/\x∉aM s.g (s.net m):=⟨(S.yX n h1 h2 x hx).1,(S.yX n h1 h2 x hx).2,fun m m1 m2 e=>⟨fun q=>e (S.mixed m n x m1 m2 h1 h2 q hx),fun q=>e (S.ways m n x m1 m2 h1 h2 q hx)⟩⟩
theorem Good.Vq(S:Good s)(h1:1<=n)(h2:n<=32):Good (s.setNet n ⟨(s.net n).pins,none,r⟩):=by refine S.set h1 h2 (S.nz n h1 h2) (S.xj n h1 h2) (fun x hx=>S.others h1 h2 hx) (fun ws e=>by cases e) fun x hx=>?_;obtain⟨ws,e,_⟩:=my.mp hx;cases e
theorem Good.rip(S:Good s)(h1:1<=n)(h2:n<=32):Good (c8 s n):=S.Vq h1 h2
theorem Good.ripCounted(S:Good s)(h1:1<=n)(h2:n<=32):Good (cy s n):=S.Vq h1 h2
theorem Good.drop(S:Good s)(h1:1<=n)(h2:n<=32):Good (s.setNet n noNet):=by refine S.set h1 h2 (by simp[noNet]) (fun p hp=>by simp[noNet]at hp) (fun x hx=>by simp[noNet,bc]at hx) (fun ws e=>by cases e) fun x hx=>?_;obtain⟨ws,e,_⟩:=my.mp hx;cases e
theorem Good.lay(S:Good s)(h1:1<=n)(h2:n<=32)(hp:(s.net n).pins≠[])(hc:∀l∈ws,Chain s.g l)(hv:∀l∈ws,∀x∈dJ s.g l,x<s.g.size/\x∉s.blocked/\∀m,1<=m->m<=32->m≠n->x∉bc (s.net m)/\x∉aM s.g (s.net m)):Good (eX s n ws):=by
 refine S.set h1 h2 (S.nz n h1 h2) (S.xj n h1 h2) (fun x hx=>S.others h1 h2 hx) (fun V3 e=>?_) fun x hx=>?_;·cases e;exact⟨hc,hp⟩
 ·obtain⟨V3,e,l,hl,hx⟩:=my.mp hx;cases e;exact hv l hl x hx
theorem Good.OJ(S:Good s)(h1:1<=n)(h2:n<=32):∀p∈(s.net n).pins,∀v∈p,v<s.g.size/\(iu s n).getD v false=true:=by
 intro p hp v hv;have hx:v∈bc (s.net n):=dN.mpr ⟨p,hp,hv⟩;obtain⟨a,b,c⟩:=S.others h1 h2 hx;refine⟨a,(uE S h1 h2).mpr ⟨a,b,fun m m1 m2 q=>?_,fun m m1 m2 q=>?_⟩⟩;·exact dY fun e=>(c m m1 m2 e).1 q
 ·exact dY fun e=>(c m m1 m2 e).2 q
theorem Good.OI(S:Good s)(h1:1<=n)(h2:n<=32):∀p∈(s.net n).pins,∀v∈p,v<s.g.size/\(iV s n).getD v false=true:=by intro p hp v hv;have hx:v∈bc (s.net n):=dN.mpr ⟨p,hp,hv⟩;obtain⟨a,b,c⟩:=S.others h1 h2 hx;refine⟨a,(BP S h1 h2).mpr ⟨a,b,fun m m1 m2 q=>?_⟩⟩;exact dY fun e=>(c m m1 m2 e).1 q
theorem GP(h:gu g may cost pins=some t):pins≠[]:=by rintro rfl;cases h
theorem Good.v_(S:Good s)(h1:1<=n)(h2:n<=32)(h:gQ s n=some t):Good (eX s n t.1):=by obtain⟨ws,c⟩:=t;have ok:=GO S.UU (S.OJ h1 h2) h;refine S.lay h1 h2 (GP h) (fun l hl=>(ok l hl).chain) fun l hl x hx=>?_;obtain⟨a,b⟩:=(ok l hl).use x hx;obtain⟨_,c,d,e⟩:=(uE S h1 h2).mp b;exact⟨a,c,fun m m1 m2 ne=>⟨fun q=>ne (d m m1 m2 q),fun q=>ne (e m m1 m2 q)⟩⟩
theorem AG(h:gL s n=some (ws,c,os)):gu s.g (az s.g fun v=>(iV s n).getD v false) (o9 s (lO s n)) (s.net n).pins=some (ws,c)/\os=bV.filter fun m=>m !=n&&(ws.flatMap (dJ s.g)).any fun v=>(cB s).getD v 0==m:=by
 unfold gL at h;simp only at h;cases e:gu s.g (az s.g fun v=>(iV s n).getD v false) (o9 s (lO s n)) (s.net n).pins with
 |none=>rw[e]at h;cases h
 |some t=>rw[e]at h;cases h;exact⟨rfl,rfl⟩
theorem nX(hl:s.nets.length=32):∀(os:ab Nat),(∀m∈os,1<=m/\m<=32)->os.Nodup->∀{k:Nat},1<=k->(os.foldl cy s).net k=if k∈os then⟨(s.net k).pins,none,(s.net k).rips+1⟩else s.net k:=by
 intro os;induction os generalizing s with
 |nil=>intro _ _ k _;simp
 |cons m os ih=>
  intro h nd k hk;rw[dg];have hl':(cy s m).nets.length=32:=by unfold cy;rw[xN];exact hl
  obtain⟨ZT,ZS⟩:=bQ.mp nd;rw[ih hl' (fun x hx=>h x (by simp[hx])) ZS hk];have hm:=h m (by simp);have e:(cy s m).net k=if k=m then{s.net m with ways:=none,rips:=(s.net m).rips+1}else s.net k:=jP hl hm hk;rw[e];by_cases q:k=m;·subst q;simp[ZT]
  ·simp[q]
theorem ML:∀(os:ab Nat),(os.foldl cy s).g=s.g/\(os.foldl cy s).blocked=s.blocked:=by
 intro os;induction os generalizing s with
 |nil=>exact⟨rfl,rfl⟩
 |cons m os ih=>exact ih (s:=cy s m)
theorem Good.rips(S:Good s):∀(os:ab Nat),(∀m∈os,1<=m/\m<=32)->Good (os.foldl cy s):=by
 intro os;induction os generalizing s with
 |nil=>intro _;exact S
 |cons m os ih=>intro h;have hm:=h m (by simp);exact ih (S.ripCounted hm.1 hm.2) fun x hx=>h x (by simp[hx])
theorem pL:bV.Nodup:=by decide
theorem Good.v9(S:Good s)(h1:1<=n)(h2:n<=32)(h:gL s n=some (ws,c,os)):Good (eX (os.foldl cy s) n ws)/\(∀m∈os,1<=m/\m<=32)/\os.Nodup/\n∉os:=by
 obtain⟨e1,e2⟩:=AG h;have ho:∀m∈os,1<=m/\m<=32:=fun m hm=>by rw[e2]at hm;exact gP.mp (ba.mp hm).1
 have Al:os.Nodup:=by rw[e2];exact pL.filter _
 have JX:n∉os:=fun q=>by rw[e2]at q;have:=(ba.mp q).2;simp at this
 refine⟨?_,ho,Al,JX⟩;have ok:=GO S.UU (S.OI h1 h2) e1;have S':=S.rips os ho;obtain⟨eg,eb⟩:=ML (s:=s) os;have en:(os.foldl cy s).net n=s.net n:=by rw[nX S.nets os ho Al h1,ao JX]
 refine S'.lay h1 h2 (by rw[en];exact GP e1) (fun l hl=>by rw[eg];exact(ok l hl).chain) fun l hl x hx=>?_;rw[eg]at hx⊢;rw[eb];obtain⟨a,b⟩:=(ok l hl).use x hx;obtain⟨_,c,d⟩:=(BP S h1 h2).mp b;refine⟨a,c,fun m m1 m2 ne=>?_⟩;rw[nX S.nets os ho Al m1];by_cases q:m∈os;·rw[aw q];refine⟨fun z=>ne (d m m1 m2 z),fun z=>?_⟩;obtain⟨_,z,_⟩:=my.mp z;cases z
 ·rw[ao q];refine⟨fun z=>ne (d m m1 m2 z),fun z=>q ?_⟩;rw[e2];refine ba.mpr ⟨gP.mpr ⟨m1,m2⟩,?_⟩;rw[bN];refine⟨by simpa using ne,og.mpr ⟨x,gM.mpr ⟨l,hl,hx⟩,?_⟩⟩;rw[show cB s=table s (aM s.g)from rfl,o6 S.ways a m1 m2 z];simp
end Nw
namespace Nw
open Vbpcah
def d6(s:fM)(b:Nat):Prop:=∀n,1<=n->n<=32->(s.net n).rips<=b
theorem d6.mono(h:d6 s a)(e:a<=b):d6 s b:=fun n h1 h2=>bZ (h n h1 h2) e
theorem d6.set(h:d6 s b)(hl:s.nets.length=32)(h1:1<=n)(h2:n<=32)(ha:a.rips<=b):d6 (s.setNet n a) b:=fun m m1 m2=>by
 rw[jP hl ⟨h1,h2⟩ m1];split;·exact ha
 ·exact h m m1 m2
theorem d6.lay(h:d6 s b)(hl:s.nets.length=32)(h1:1<=n)(h2:n<=32):d6 (eX s n ws) b:=h.set hl h1 h2 (h n h1 h2)
theorem pd:∀(k:Nat)(s:fM)(q:ab Nat)(b:Nat),Good s->d6 s b->(∀n∈q,1<=n/\n<=32)->Good (c9 k s q).1/\d6 (c9 k s q).1 (b+k)/\(c9 k s q).2<=k
 |0,s,q,b,S,R,_=>⟨by unfold c9;exact S,by unfold c9;exact R,by unfold c9;exact aD _⟩
 |k+1,s,[],b,S,R,_=>⟨by unfold c9;exact S,by unfold c9;exact R.mono (by omega),by unfold c9;exact aD _⟩
 |k+1,s,n::q,b,S,R,hq=>by
  have hn:=hq n (by simp);have Hk:∀n∈q,1<=n/\n<=32:=fun m hm=>hq m (by simp[hm]);unfold c9;cases e:gQ s n with
  |some t=>simp only;obtain⟨a,b1,c⟩:=pd k _ q b (S.v_ hn.1 hn.2 e) (R.lay S.nets hn.1 hn.2) Hk;exact⟨a,b1.mono (by omega),by omega⟩
  |none=>
   simp only;cases e2:gL s n with
   |none=>simp only;obtain⟨a,b1,c⟩:=pd k s q b S R Hk;exact⟨a,b1.mono (by omega),by omega⟩
   |some t=>
    obtain⟨ws,c,os⟩:=t;simp only;obtain⟨S',ho,Al,JX⟩:=S.v9 hn.1 hn.2 e2;have R':d6 (os.foldl cy s) (b+1):=fun m m1 m2=>by
     rw[nX S.nets os ho Al m1];have:=R m m1 m2;split;·show(s.net m).rips+1<=b+1;omega
     ·omega
    obtain⟨a,b1,c⟩:=pd k _ (q++os) (b+1) S' (R'.lay (S.rips os ho).nets hn.1 hn.2) (fun m hm=>by
     rcases a_.mp hm with z|z;·exact Hk m z
     ·exact ho m z)
    exact⟨a,b1.mono (by omega),by omega⟩
theorem oY:∀(l:ab Nat)(s:fM)(b:Nat),Good s->d6 s b->(∀n∈l,1<=n/\n<=32)->Good (lT s l)/\d6 (lT s l) b
 |[],s,b,S,R,_=>⟨S,R⟩
 |n::l,s,b,S,R,hq=>by
  have hn:=hq n (by simp);have Hk:∀n∈l,1<=n/\n<=32:=fun m hm=>hq m (by simp[hm]);unfold lT;split;·exact oY l s b S R Hk
  ·cases e:gQ s n with
   |some t=>exact oY l _ b (S.v_ hn.1 hn.2 e) (R.lay S.nets hn.1 hn.2) Hk
   |none=>exact oY l s b S R Hk
theorem uG(h:n∈unlaid s):1<=n/\n<=32:=gP.mp (ba.mp h).1
theorem wc(h:n∈cq s):1<=n/\n<=32:=gP.mp (ba.mp h).1
theorem oX:∀(l:ab Nat)(s:fM)(b:Nat),Good s->d6 s b->(∀n∈l,1<=n/\n<=32)->Good (l.foldl rip s)/\d6 (l.foldl rip s) b
 |[],s,b,S,R,_=>⟨S,R⟩
 |n::l,s,b,S,R,hq=>by have hn:=hq n (by simp);rw[dg];exact oX l _ b (S.rip hn.1 hn.2) (R.set S.nets hn.1 hn.2 (R n hn.1 hn.2)) fun m hm=>hq m (by simp[hm])
theorem Jb:v∈dq s layer x1 y1 x2 y2↔ v<s.g.size/\(layer=0\/layer=(s.g.layer v:Int)+1)/\x1<=s.g.col v/\(s.g.col v:Int)<=x2/\y1<=s.g.row v/\(s.g.row v:Int)<=y2:=by unfold dq;simp[ba]
theorem Hx:(dq s layer x1 y1 x2 y2).Nodup:=List.nodup_range.filter _
theorem X'(S:Good s)(hl:bH layer 0 s.g.l=true)(hb:0<=x1/\x1<=x2/\x2<(s.g.w:Int)/\0<=y1/\y1<=y2/\y2<(s.g.h:Int)):dq s layer x1 y1 x2 y2≠[]:=by
 unfold bH at hl;simp only[au]at hl;have:=S.l.1;have hk:∃k:Nat,k<s.g.l/\(layer=0\/layer=(k:Int)+1):=by
  by_cases e:layer=0;·exact⟨0,by omega,.inl e⟩
  ·exact⟨(layer-1).toNat,by omega,.inr (by omega)⟩
 obtain⟨k,hk1,YS⟩:=hk;have hm:s.g.cell k x1.toNat y1.toNat∈dq s layer x1 y1 x2 y2:=by
  have a1:x1.toNat<s.g.w:=by omega
  have a2:y1.toNat<s.g.h:=by omega
  rw[Jb,eU a1 a2,j3 a1,iE a1 a2];exact⟨mE a1 a2 hk1,YS,by omega,by omega,by omega,by omega⟩
 intro e;rw[e]at hm;simp at hm
theorem yo(hw:1<=w/\w<=24)(hh:1<=h/\h<=24)(hl:1<=l/\l<=4):Good (fresh w h l)/\d6 (fresh w h l) 0:=by
 have N:∀n,(fresh w h l).net n=noNet:=fun n=>by unfold fresh Board.net;simp only[dF,jv];split<;>rfl
 have P:bc noNet=[]:=rfl;have W:∀g,aM g noNet=[]:=fun _=>rfl;refine⟨⟨hw,hh,hl,by simp[fresh],by simp[fresh],by simp[fresh],by simp[fresh],fun d hd=>?_,by simp[fresh,NETS],fun v hv=>by simp[fresh]at hv,?_,?_,?_,?_,?_,?_,?_,?_⟩,fun n _ _=>by rw[N];exact aD _⟩;·simp[fresh]at hd;omega
 ·intro n _ _;rw[N];simp[noNet]
 ·intro n _ _;rw[N];simp[noNet]
 ·intro n _ _;rw[N,P];simp
 ·intro n _ _ ws e;rw[N]at e;cases e
 ·intro n _ _;rw[N,W];simp
 ·intro n m x _ _ _ _ h;rw[N,P]at h;simp at h
 ·intro n m x _ _ _ _ h;rw[N,W]at h;simp at h
 ·intro n m x _ _ _ _ h;rw[N,P]at h;simp at h
theorem du(h:(cf b n>>=f)=.ok x):b=true/\f ()=.ok x:=by
 unfold cf at h;cases b with
 |true=>exact⟨rfl,h⟩
 |false=>cases h
theorem gi:bH n lo hi=true↔lo<=n/\n<=hi:=by unfold bH;simp
theorem rQ(h:bH net 1 (NETS:Int)=true):1<=net.toNat/\net.toNat<=32:=by have:=gi.mp h;unfold NETS at this;omega
theorem Qv(S:Good s)(R:d6 s b)(c:js)(h:eE s c=.ok x):Good x.1/\d6 x.1 (b+1000):=by
 have keep:∀{l:ab Int},Good (s,l).1/\d6 (s,l).1 (b+1000):=⟨S,R.mono (by omega)⟩;cases c with
 |begin_ w h' l=>obtain⟨f1,h2⟩:=du h;cases h2;simp only[bN,gi]at f1;obtain⟨a,b⟩:=yo (w:=w.toNat) (h:=h'.toNat) (l:=l.toNat) (by omega) (by omega) (by omega);exact⟨a,b.mono (by omega)⟩
 |costs via wrong penalty=>
  obtain⟨f1,h2⟩:=du h;cases h2;simp only[bN,gi]at f1;refine⟨⟨S.w,S.h,S.l,?_,?_,?_,S.dirs,S.dir,S.nets,S.blocked,S.nz,S.xj,S.xk,S.uA,S.yX,S.pins,S.ways,S.mixed⟩,R.mono (by omega)⟩;·show 1<=via.toNat/\via.toNat<=1000;omega
  ·show 1<=wrong.toNat/\wrong.toNat<=1000;omega
  ·show 1<=penalty.toNat/\penalty.toNat<=1000;omega
 |prefer layer dir=>
  obtain⟨f1,h2⟩:=du h;obtain⟨f2,h3⟩:=du h2;cases h3;rw[gi]at f1 f2;refine⟨⟨S.w,S.h,S.l,S.via,S.wrong,S.penalty,?_,?_,S.nets,S.blocked,S.nz,S.xj,S.xk,S.uA,S.yX,S.pins,S.ways,S.mixed⟩,R.mono (by omega)⟩;·show(s.dirs.set _ _).length=_;rw[hJ];exact S.dirs
  ·intro d hd;rcases cY hd with z|z;·exact S.dir d z
   ·omega
 |block layer x1 y1 x2 y2=>
  obtain⟨f1,h2⟩:=du h;obtain⟨f2,h3⟩:=du h2;obtain⟨f3,h4⟩:=du h3;cases h4;have hc:∀v∈dq s layer x1 y1 x2 y2,∀n,1<=n->n<=32->v∉bc (s.net n)/\v∉aM s.g (s.net n):=by
   intro v hv n n1 n2;have:=eS.mp f3 v hv;simp only[bN,dU]at this;have jQ:=(Jb.mp hv).1;refine⟨fun q=>?_,fun q=>?_⟩;·have z:=o6 S.pins jQ n1 n2 q;rw[show table s bc=dB s from rfl]at z;omega
   ·have z:=o6 S.ways jQ n1 n2 q;rw[show table s (aM s.g)=cB s from rfl]at z;omega
  refine⟨⟨S.w,S.h,S.l,S.via,S.wrong,S.penalty,S.dirs,S.dir,S.nets,fun v hv=>?_,S.nz,S.xj,fun n n1 n2 x hx=>?_,S.uA,fun n n1 n2 x hx=>?_,S.pins,S.ways,S.mixed⟩,R.mono (by omega)⟩;·exact dr.mp (ba.mp hv).1
  ·refine⟨(S.xk n n1 n2 x hx).1,fun q=>?_⟩;have q2:=(ba.mp q).2;rw[eQ]at q2;rcases q2 with z|z;·exact(S.xk n n1 n2 x hx).2 (by simpa using z)
   ·exact(hc x (by simpa using z) n n1 n2).1 hx
  ·refine⟨(S.yX n n1 n2 x hx).1,fun q=>?_⟩;have q2:=(ba.mp q).2;rw[eQ]at q2;rcases q2 with z|z;·exact(S.yX n n1 n2 x hx).2 (by simpa using z)
   ·exact(hc x (by simpa using z) n n1 n2).2 hx
 |free layer x1 y1 x2 y2=>obtain⟨f1,h2⟩:=du h;obtain⟨f2,h3⟩:=du h2;cases h3;have hf:∀v,v∈s.blocked.filter (fun v=>!(dq s layer x1 y1 x2 y2).contains v)->v∈s.blocked:=fun v hv=>(ba.mp hv).1;exact⟨⟨S.w,S.h,S.l,S.via,S.wrong,S.penalty,S.dirs,S.dir,S.nets,fun v hv=>S.blocked v (hf v hv),S.nz,S.xj,fun n n1 n2 x hx=>⟨(S.xk n n1 n2 x hx).1,fun q=>(S.xk n n1 n2 x hx).2 (hf x q)⟩,S.uA,fun n n1 n2 x hx=>⟨(S.yX n n1 n2 x hx).1,fun q=>(S.yX n n1 n2 x hx).2 (hf x q)⟩,S.pins,S.ways,S.mixed⟩,R.mono (by omega)⟩
 |pin net layer x1 y1 x2 y2=>
  obtain⟨f1,h2⟩:=du h;obtain⟨f2,h3⟩:=du h2;obtain⟨f3,h4⟩:=du h3;obtain⟨f4,h5⟩:=du h4;obtain⟨f5,h6⟩:=du h5;obtain⟨f6,h7⟩:=du h6;cases h7;obtain⟨n1,n2⟩:=rQ f2;have hb:0<=x1/\x1<=x2/\x2<(s.g.w:Int)/\0<=y1/\y1<=y2/\y2<(s.g.h:Int):=by simpa using f3
  have h5':(s.net net.toNat).pins.length<16:=uj f5;refine⟨S.set n1 n2 ?_ ?_ ?_ ?_ ?_,(R.set S.nets n1 n2 (a:={s.net net.toNat with pins:=(s.net net.toNat).pins++[dq s layer x1 y1 x2 y2]}) (R _ n1 n2)).mono (by omega)⟩;·show((s.net net.toNat).pins++[_]).length<=16;simp;omega
  ·intro p hp;have hp':p∈(s.net net.toNat).pins++[dq s layer x1 y1 x2 y2]:=hp;rcases a_.mp hp' with z|z;·exact S.xj _ n1 n2 p z
   ·simp at z;subst z;exact⟨X' S f1 hb,Hx⟩
  ·intro x hx;have QY:x∈((s.net net.toNat).pins++[dq s layer x1 y1 x2 y2]).flatten:=hx;rw[p_,a_]at QY;rcases QY with z|z;·exact S.others n1 n2 z
   ·simp at z;have u:=eS.mp f6 x z;obtain⟨a,c,d,e⟩:=(uE S n1 n2).mp u;exact⟨a,c,fun m m1 m2 ne=>⟨fun q=>ne (d m m1 m2 q),fun q=>ne (e m m1 m2 q)⟩⟩
  ·intro ws e;have e':(s.net net.toNat).ways=some ws:=e;unfold bf at f4;rw[e']at f4;cases f4
  ·intro x hx;have QY:x∈aM s.g (s.net net.toNat):=hx;exact S.Uq n1 n2 QY
 |drop net=>obtain⟨f1,h2⟩:=du h;obtain⟨f2,h3⟩:=du h2;cases h3;obtain⟨n1,n2⟩:=rQ f1;exact⟨S.drop n1 n2,(R.set S.nets n1 n2 (cH _)).mono (by omega)⟩
 |route net=>
  obtain⟨f1,h2⟩:=du h;obtain⟨f2,h3⟩:=du h2;obtain⟨f3,h4⟩:=du h3;obtain⟨n1,n2⟩:=rQ f1;cases e:gQ s net.toNat with
  |none=>rw[e]at h4;cases h4
  |some t=>rw[e]at h4;cases h4;exact⟨S.v_ n1 n2 e,(R.lay S.nets n1 n2).mono (by omega)⟩
 |rip net=>obtain⟨f1,h2⟩:=du h;obtain⟨f2,h3⟩:=du h2;cases h3;obtain⟨n1,n2⟩:=rQ f1;exact⟨S.rip n1 n2,(R.set S.nets n1 n2 (a:={s.net net.toNat with ways:=none}) (R _ n1 n2)).mono (by omega)⟩
 |soft net=>
  obtain⟨f1,h2⟩:=du h;obtain⟨f2,h3⟩:=du h2;obtain⟨f3,h4⟩:=du h3;cases e:gL s net.toNat with
  |none=>rw[e]at h4;cases h4
  |some t=>rw[e]at h4;cases h4;exact keep
 |order l=>obtain⟨f1,h2⟩:=du h;cases h2;obtain⟨a,c⟩:=oY (l.map kQ) s b S R (fun n hn=>by obtain⟨z,hz,rfl⟩:=bB.mp hn;exact rQ (eS.mp f1 z hz));exact⟨a,c.mono (by omega)⟩
 |auto budget=>obtain⟨f1,h2⟩:=du h;cases h2;rw[gi]at f1;obtain⟨a,c,_⟩:=pd budget.toNat s (unlaid s) b S R (fun n hn=>uG hn);exact⟨a,c.mono (by omega)⟩
 |improve budget=>
  obtain⟨f1,h2⟩:=du h;rw[gi]at f1;cases e:iW s budget.toNat with
  |none=>rw[e]at h2;cases h2;exact keep
  |some t=>
   rw[e]at h2;cases h2;unfold iW at e;simp only at e;split at e
   ·cases e;obtain⟨S',R'⟩:=oX (cq s) s b S R (fun n hn=>wc hn);obtain⟨a,c,_⟩:=pd budget.toNat _ (unlaid s++cq s) b S' R' (fun n hn=>by
     rcases a_.mp hn with z|z;·exact uG z
     ·exact wc z)
    exact⟨a,c.mono (by omega)⟩
   ·cases e
 |cell layer x y=>obtain⟨f1,h2⟩:=du h;obtain⟨f2,h3⟩:=du h2;cases h3;exact keep
 |way net k=>
  obtain⟨f1,h2⟩:=du h;cases e:(s.net net.toNat).ways with
  |none=>rw[e]at h2;cases h2
  |some l=>rw[e]at h2;obtain⟨f2,h3⟩:=du h2;cases h3;exact keep
 |tree net=>
  obtain⟨f1,h2⟩:=du h;cases e:(s.net net.toNat).ways with
  |none=>rw[e]at h2;cases h2
  |some l=>rw[e]at h2;cases h2;exact keep
 |cost net layer x y abJ x2 y2=>
  obtain⟨f1,h2⟩:=du h;obtain⟨f2,h3⟩:=du h2;obtain⟨f3,h4⟩:=du h3;obtain⟨f4,h5⟩:=du h4;obtain⟨f5,h6⟩:=du h5;obtain⟨f6,h7⟩:=du h6;split at h7;·cases h7;exact keep
  ·cases h7
 |nets=>cases h;exact keep
 |unlaid=>cases h;exact keep
 |total=>cases h;exact keep
theorem GR(S:Good s)(R:d6 s b)(c:js):Good (step s c).1/\d6 (step s c).1 (b+1000):=by
 unfold step;cases e:eE s c with
 |ok x=>exact Qv S R c e
 |error n=>exact⟨S,R.mono (by omega)⟩
theorem MB:Good start/\d6 start 0:=yo (by decide) (by decide) (by decide)
end Nw
namespace Nw
open Vbpcah
abbrev cT:=ab (Nat×ab Nat)
def pend(F:cT)(x u:Nat):Prop:=∃L,(x,L)∈F/\u∈L
def push:cT->Nat->Nat->cT
 |[],y,v=>[(y,[v])]
 |(x,L)::F,y,v=>if x=y then(x,L++[v])::F else(x,L)::push F y v
theorem vb:¬pend [] x u:=by rintro⟨L,h,_⟩;simp at h
theorem nA{F:cT}:pend ((y,L)::F) x u↔(x=y/\u∈L)\/pend F x u:=by
 unfold pend;constructor
 ·rintro⟨L',h,hu⟩;rcases aF.mp h with e|e;·cases e;exact .inl ⟨rfl,hu⟩
  ·exact .inr ⟨L',e,hu⟩
 ·rintro(⟨rfl,hu⟩|⟨L',h,hu⟩);·exact⟨L,by simp,hu⟩
  ·exact⟨L',by simp[h],hu⟩
theorem il:∀{F:cT}{y v x u:Nat},pend (push F y v) x u↔pend F x u\/(x=y/\u=v)
 |[],y,v,x,u=>by unfold push;rw[nA];simp[vb]
 |(z,L)::F,y,v,x,u=>by
  unfold push;split
  ·rename_i e;subst e;rw[nA,nA,a_,bU];constructor
   ·rintro(⟨a,b|b⟩|b);·exact .inl (.inl ⟨a,b⟩)
    ·exact .inr ⟨a,b⟩
    ·exact .inl (.inr b)
   ·rintro((⟨a,b⟩|b)|⟨a,b⟩);·exact .inl ⟨a,.inl b⟩
    ·exact .inr b
    ·exact .inl ⟨a,.inr b⟩
  ·rw[nA,nA,il];constructor
   ·rintro(a|a|a);·exact .inl (.inl a)
    ·exact .inl (.inr a)
    ·exact .inr a
   ·rintro((a|a)|a);·exact .inl a
    ·exact .inr (.inl a)
    ·exact .inr (.inr a)
theorem rJ:∀{F:cT}{y v:Nat},(push F y v).map (·.1)=if y∈F.map (·.1)then F.map (·.1)else F.map (·.1)++[y]
 |[],y,v=>by simp[push]
 |(z,L)::F,y,v=>by
  unfold push;by_cases e:z=y;·rw[aw e];simp[e]
  ·rw[ao e,cx,rJ];by_cases q:y∈F.map (·.1);·rw[aw q,aw (by simp only[cx,aF];exact .inr q)];rfl
   ·have:¬y∈List.map (·.1) ((z,L)::F):=by
     simp only[cx,aF];rintro(h|h);·exact e h.symm
     ·exact q h
    rw[ao q,ao this];rfl
theorem Ed{F:cT}{y v:Nat}(h:(F.map (·.1)).Nodup):((push F y v).map (·.1)).Nodup:=by
 rw[rJ];split;·exact h
 ·rename_i q;rw[i_];refine⟨h,by simp,?_⟩;intro a ha b hb e;simp at hb;subst hb e;exact q ha
theorem Ef{F:cT}{x u:Nat}(h:pend F x u):x∈F.map (·.1):=by obtain⟨L,h,_⟩:=h;exact bB.mpr ⟨_,h,rfl⟩
section
variable(g:kX)(may:Nat->Nat->Bool)(cost:Nat->Nat->Nat)(src:ab Nat)
structure Head(D:Nat->aY Nat)(F:cT)(lo:Nat):Prop where
 inv:JQ g may cost src D (pend F)
 keys:∀x∈F.map (·.1),lo<=x
 nd:(F.map (·.1)).Nodup
 cells:∀x u,pend F x u->u<g.size
structure Yk(D:Nat->aY Nat)(F:cT)(c:Nat)(front:ab Nat):Prop where
 inv:JQ g may cost src D (fun x u=>pend F x u\/(x=c/\u∈front))
 keys:∀x∈F.map (·.1),c<x
 nd:(F.map (·.1)).Nodup
 fr:∀u∈front,D u=some c
 cells:∀x u,pend F x u->u<g.size
structure Part(D:Nat->aY Nat)(F:cT)(c:Nat)(front:ab Nat)(u:Nat)(done:ab Nat):Prop where
 sound:∀v x,D v=some x->Reach g may cost src v x
 start:∀v,v∈src->v<g.size->D v=some 0
 rel:∀w x,D w=some x->(pend F x w\/(x=c/\w∈front))\/∀v,w∈g.near v->v<g.size->may w v=true->Le (D v) (x+cost w v)\/(w=u/\v∉done)
 at_:D u=some c
 keys:∀x∈F.map (·.1),c<x
 nd:(F.map (·.1)).Nodup
 fr:∀w∈front,D w=some c
 cells:∀x u,pend F x u->u<g.size
end
section
variable{g:kX}{may:Nat->Nat->Bool}{cost:Nat->Nat->Nat}{src:ab Nat}{D:Nat->aY Nat}{F:cT}
theorem Head.pop{lo c:Nat}{L:ab Nat}{F':cT}(h:Head g may cost src D F lo)(hp:∀x u,pend F x u↔(x=c/\u∈L)\/pend F' x u)(hk:∀x∈F'.map (·.1),c<x)(hn:(F'.map (·.1)).Nodup):Yk g may cost src D F' c (L.filter fun u=>decide (D u=some c)):=by
 refine⟨⟨h.inv.sound,h.inv.start,fun u x hu=>?_⟩,hk,hn,fun u hu=>by simpa using(ba.mp hu).2,fun x u q=>h.cells x u ((hp x u).mpr (.inr q))⟩;rcases h.inv.rel u x hu with q|q
 ·rcases(hp x u).mp q with⟨rfl,z⟩|z;·exact .inl (.inr ⟨rfl,ba.mpr ⟨z,by simpa using hu⟩⟩)
  ·exact .inl (.inl z)
 ·exact .inr q
theorem Yk.done(h:Yk g may cost src D F c []):Head g may cost src D F (c+1):=
 ⟨⟨h.inv.sound,h.inv.start,fun u x hu=>by
  rcases h.inv.rel u x hu with(q|⟨_,q⟩)|q;·exact .inl q
  ·simp at q
  ·exact .inr q⟩,fun x hx=>h.keys x hx,h.nd,h.cells⟩
theorem Head.last(h:Head g may cost src D [] lo)(hp:∀u v,u∈g.near v->may u v=true->1<=cost u v)(v:Nat):D v=(wave g may cost src).at_ v:=h.inv.QG hp (fun u x q _=>vb q) v
theorem Yk.take(h:Yk g may cost src D F c (u::front)):Part g may cost src D F c front u []:=by
 refine⟨h.inv.sound,h.inv.start,fun w x hw=>?_,h.fr u (by simp),h.keys,h.nd,fun w hw=>h.fr w (by simp[hw]),h.cells⟩;rcases h.inv.rel w x hw with(q|⟨e,q⟩)|q;·exact .inl (.inl q)
 ·rcases aF.mp q with z|z;·exact .inr fun v _ _ _=>.inr ⟨z,by simp⟩
  ·exact .inl (.inr ⟨e,z⟩)
 ·exact .inr fun v a b c=>.inl (q v a b c)
theorem Part.skip(h:Part g may cost src D F c front u done)(hv:may u v=true->Le (D v) (c+cost u v)):Part g may cost src D F c front u (done++[v]):=by
 refine⟨h.sound,h.start,fun w x hw=>?_,h.at_,h.keys,h.nd,h.fr,h.cells⟩;rcases h.rel w x hw with q|q;·exact .inl q
 ·refine .inr fun v' a b m=>?_;rcases q v' a b m with z|⟨rfl,z⟩;·exact .inl z
  ·by_cases e:v'=v;·subst e;have:=h.at_;rw[hw]at this;cases this;exact .inl (hv m)
   ·exact .inr ⟨rfl,by simp[z,e]⟩
theorem Part.lower(h:Part g may cost src D F c front u done)(hn:u∈g.near v)(hv:v<g.size)(hm:may u v=true)(hp:1<=cost u v)(hl:¬Le (D v) (c+cost u v)):Part g may cost src (fun w=>if w=v then some (c+cost u v)else D w) (push F (c+cost u v) v) c front u (done++[v]):=by
 have nu:u≠v:=fun e=>hl ⟨c,by rw[<-e];exact h.at_,by omega⟩;have low:∀w x,Le (D w) x->Le (if w=v then some (c+cost u v)else D w) x:=by
  intro w x q;by_cases e:w=v;·subst e;rw[aw rfl];refine⟨_,rfl,?_⟩;obtain⟨a,q1,q2⟩:=q;have:¬a<=c+cost u w:=fun z=>hl ⟨a,q1,z⟩;omega
  ·rw[ao e];exact q
 refine⟨fun w x hw=>?_,fun w hw hs=>?_,fun w x hw=>?_,by rw[ao nu];exact h.at_,fun x hx=>?_,Ed h.nd,fun w hw=>?_,fun x w hw=>?_⟩
 ·by_cases e:w=v;·subst e;simp only[aw]at hw;cases hw;exact(h.sound u c h.at_).step hn hv hm
  ·simp only[ao e]at hw;exact h.sound w x hw
 ·have:=h.start w hw hs;by_cases e:w=v;·subst e;exact bF ⟨0,this,by omega⟩ hl
  ·simp only[ao e];exact this
 ·by_cases e:w=v;·subst e;simp only[aw]at hw;cases hw;exact .inl (.inl (il.mpr (.inr ⟨rfl,rfl⟩)))
  ·simp only[ao e]at hw;rcases h.rel w x hw with(q|q)|q;·exact .inl (.inl (il.mpr (.inl q)))
   ·exact .inl (.inr q)
   ·refine .inr fun v' a b m=>?_;by_cases e':w=u
    ·subst e';rw[h.at_]at hw;cases hw;by_cases e2:v'=v;·subst e2;exact .inl ⟨_,by simp,aD _⟩
     ·rcases q v' a b m with z|⟨_,z⟩;·exact .inl (low _ _ z)
      ·exact .inr ⟨rfl,by simp[z,e2]⟩
    ·rcases q v' a b m with z|⟨z,_⟩;·exact .inl (low _ _ z)
     ·exact bF z e'
 ·rw[rJ]at hx;split at hx;·exact h.keys x hx
  ·rcases a_.mp hx with z|z;·exact h.keys x z
   ·simp at z;omega
 ·have:=h.fr w hw;by_cases e:w=v;·subst e;exact bF ⟨c,this,by omega⟩ hl
  ·simp only[ao e];exact this
 ·rcases il.mp hw with q|⟨_,rfl⟩;·exact h.cells x w q
  ·exact hv
theorem Part.done{front done:ab Nat}(h:Part g may cost src D F c front u done)(hd:∀v,u∈g.near v->v<g.size->v∈done):Yk g may cost src D F c front:=
 ⟨⟨h.sound,h.start,fun w x hw=>by
  rcases h.rel w x hw with q|q;·exact .inl q
  ·refine .inr fun v a b m=>?_;rcases q v a b m with z|⟨rfl,z⟩;·exact z
   ·exact bF (hd v a b) z⟩,h.keys,h.nd,h.fr,h.cells⟩
end
def qF:Int:=1000000000000000000
def cF(cs:ab Int)(v:Nat):aY Nat:=match cs[v]? with
 |some z=>if z=qF then none else some z.toNat
 |none=>none
structure Af(n:Nat)(cs:ab Int):Prop where
 len:cs.length=n
 ok:∀z∈cs,0<=z/\z<=qF
theorem Af.get(h:Af n cs)(hv:v<n):∃z,cs[v]? =some z/\0<=z/\z<=qF:=by
 have hl:v<cs.length:=by rw[h.len];exact hv
 exact⟨cs[v],aO hl,h.ok _ (ua hl)⟩
theorem lK{z:Int}(h:cs[v]? =some z)(hx:cF cs v=some x)(h0:0<=z):z=x/\z≠qF:=by
 unfold cF at hx;rw[h]at hx;simp only at hx;split at hx;·cases hx
 ·rename_i q;cases hx;exact⟨by omega,q⟩
theorem rV(h:cs[v]? =some z)(hz:z≠qF):cF cs v=some z.toNat:=by unfold cF;rw[h];simp[hz]
theorem yr(h:cs[v]? =some qF):cF cs v=none:=by unfold cF;rw[h];simp
theorem E3{x:Nat}(hv:v<cs.length)(hx:(x:Int)≠qF):cF (cs.set v x)=fun w=>if w=v then some x else cF cs w:=by
 funext w;unfold cF;by_cases e:w=v;·subst e;rw[d4 hv];simp[hx]
 ·rw[eJ (fY e)];simp[e]
theorem Af.set(h:Af n cs)(h0:0<=z)(h1:z<=qF):Af n (cs.set v z):=
 ⟨by rw[hJ];exact h.len,fun y hy=>by
  rcases cY hy with q|q;·exact h.ok y q
  ·subst q;exact⟨h0,h1⟩⟩
end Nw
namespace Nw
open Vbpcah
section
variable{g:kX}{may:Nat->Nat->Bool}{cost:Nat->Nat->Nat}
theorem ER:∀(n:Nat)(t t':ab Nat)(pins:ab (ab Nat)),(∀x,x∈t↔x∈t')->wW g may cost n t pins=wW g may cost n t' pins
 |0,t,t',[],_=>rfl
 |n+1,t,t',[],_=>rfl
 |0,t,t',p::pins,_=>rfl
 |n+1,t,t',p::pins,h=>by
  unfold wW;simp only;rw[Q_ h];cases e:target (wave g may cost t') (p::pins).flatten with
  |none=>rfl
  |some q=>obtain⟨c,v⟩:=q;simp only;congr 1;exact ER n _ _ _ fun x=>by simp only[a_,h]
def vG(g:kX)(may:Nat->Nat->Bool)(cost:Nat->Nat->Nat)(R:aY (ab (ab Nat)×Nat))(ways:ab (ab Nat))(c:Nat)(tree:ab Nat)(pins:ab (ab Nat)):Prop:=∃n,pins.length<=n/\R=(wW g may cost n tree pins).map fun t=>(ways++t.1,c+t.2)
variable{R:aY (ab (ab Nat)×Nat)}{ways:ab (ab Nat)}{c:Nat}{tree:ab Nat}{pins:ab (ab Nat)}
theorem vG.start(h:∀x,x∈tree↔x∈p):vG g may cost (gu g may cost (p::pins)) [] 0 tree pins:=
 ⟨pins.length,aD _,by
  rw[ER _ _ _ _ h];show wW g may cost pins.length p pins=_;cases wW g may cost pins.length p pins with
  |none=>rfl
  |some t=>obtain⟨a,b⟩:=t;simp⟩
theorem vG.last(h:vG g may cost R ways c tree []):R=some (ways,c):=by
 obtain⟨n,_,h⟩:=h;have e:wW g may cost n tree []=some ([],0):=by cases n<;>rfl
 rw[h,e];simp
theorem vG.none(h:vG g may cost R ways c tree pins)(hp:pins≠[])(ht:target (wave g may cost tree) pins.flatten=none):R=none:=by
 obtain⟨n,hn,h⟩:=h;cases pins with
 |nil=>exact bF rfl hp
 |cons p pins=>
  cases n with
  |zero=>simp at hn
  |succ n=>unfold wW at h;simp only at h;rw[ht]at h;exact h
theorem filter_lt{α:Type}{p:α->Bool}:∀{l:ab α}{x:α},x∈l->p x=false->(l.filter p).length<l.length
 |[],x,h,_=>by simp at h
 |a::l,x,h,hp=>by
  rw[eu];rcases aF.mp h with e|e;·subst e;rw[ao (by rw[hp];simp)];have:=c7 p l;simp only[bg];omega
  ·have:=filter_lt e hp;split<;>simp only[bg]<;>omega
theorem vG.next(h:vG g may cost R ways c tree pins)(ht:target (wave g may cost tree) pins.flatten=some (c1,v))(hm:∀x,x∈Rb↔x∈tree\/x∈dJ g (j9 g may cost (wave g may cost tree) g.size v)\/∃q∈pins,v∈q/\x∈q):vG g may cost R (ways++[j9 g may cost (wave g may cost tree) g.size v]) (c+c1) Rb (pins.filter fun q=>!q.contains v):=by
 obtain⟨n,hn,h⟩:=h;have ts:=lH (wave g may cost tree) pins.flatten;rw[ht]at ts;have ts':jj (wave g may cost tree).at_ pins.flatten c1 v:=ts;obtain⟨q,hq,hv⟩:=dN.mp ts'.mem;have jQ:(pins.filter fun q=>!q.contains v).length<pins.length:=filter_lt hq (by simp[hv]);cases pins with
 |nil=>simp at hq
 |cons p pins=>
  cases n with
  |zero=>simp at hn
  |succ n=>
   refine⟨n,by omega,?_⟩;unfold wW at h;simp only at h;rw[ht]at h;simp only at h;rw[ER n Rb (tree++(dJ g (j9 g may cost (wave g may cost tree) g.size v)++((p::pins).filter fun q=>q.contains v).flatten)) _ (fun x=>by
    rw[hm,a_,a_,dN];simp only[ba,jU];constructor
    ·rintro(a|a|⟨q,a1,a2,a3⟩);·exact .inl a
     ·exact .inr (.inl a)
     ·exact .inr (.inr ⟨q,⟨a1,a2⟩,a3⟩)
    ·rintro(a|a|⟨q,⟨a1,a2⟩,a3⟩);·exact .inl a
     ·exact .inr (.inl a)
     ·exact .inr (.inr ⟨q,a1,a2,a3⟩))]
   rw[h];cases wW g may cost n (tree++(dJ g (j9 g may cost (wave g may cost tree) g.size v)++((p::pins).filter fun q=>q.contains v).flatten)) ((p::pins).filter fun q=>!q.contains v)with
   |none=>rfl
   |some t=>obtain⟨a,b⟩:=t;simp[tQ]
end
theorem AS:∀{l l':ab Nat},l.Pairwise (·<·)->l'.Pairwise (·<·)->(∀x,x∈l↔x∈l')->l=l'
 |[],[],_,_,_=>rfl
 |[],b::l',_,_,h=>by have:=(h b).mpr (by simp);simp at this
 |a::l,[],_,_,h=>by have:=(h a).mp (by simp);simp at this
 |a::l,b::l',p,p',h=>by
  have p1:=qG.mp p;have p2:=qG.mp p';have e:a=b:=by
   rcases aF.mp ((h a).mp (by simp))with q|q;·exact q
   ·rcases aF.mp ((h b).mpr (by simp))with z|z;·exact z.symm
    ·have:=p1.1 b z;have:=p2.1 a q;omega
  subst e;rw[AS p1.2 p2.2 fun x=>?_];constructor
  ·intro q;rcases aF.mp ((h x).mp (by simp[q]))with z|z;·subst z;have:=p1.1 x q;omega
   ·exact z
  ·intro q;rcases aF.mp ((h x).mpr (by simp[q]))with z|z;·subst z;have:=p2.1 x q;omega
   ·exact z
theorem IB(n:Nat):(cP n).Pairwise (·<·):=jL
theorem NL{s:fM}{layer x1 y1 x2 y2:Int}:(dq s layer x1 y1 x2 y2).Pairwise (·<·):=(IB _).filter _
section
variable{g:kX}
def place(g:kX)(v:Nat):Nat:=g.row v*g.w+g.col v
theorem vV(v:Nat):v%(g.w*g.h)=place g v:=by unfold place Gs Grid.col;rw[Nat.mod_mul];rw[d7 g.w,vO]
theorem tu(k x y:Nat):g.cell k x y=k*(g.w*g.h)+(y*g.w+x):=by unfold g8;rw[fO,Nat.mul_assoc,d7 g.h g.w,tQ]
theorem z8(v:Nat):g.column v=(cP g.l).map fun k=>place g v+k*(g.w*g.h):=by unfold Fm;apply eC;intro k _;rw[tu,vO];rfl
theorem Ha(G:tX g):place g u=place g v↔g.row u=g.row v/\g.col u=g.col v:=by
 constructor
 ·intro e;have h1:g.cell 0 (g.col u) (g.row u)=g.cell 0 (g.col v) (g.row v):=by rw[tu,tu];unfold place at e;omega
  obtain⟨_,a,b⟩:=SQ (pT G u) (sR G u) (pT G v) (sR G v) h1;exact⟨b,a⟩
 ·rintro⟨a,b⟩;unfold place;rw[a,b]
theorem place_lt(G:tX g)(v:Nat):place g v<g.w*g.h:=by rw[<-vV];exact BN _ (Fz G.w G.h)
theorem Bk(G:tX g):0<g.layer v↔g.w*g.h<=v:=by unfold um;exact Nat.div_pos_iff.trans ⟨fun h=>h.2,fun h=>⟨Fz G.w G.h,h⟩⟩
theorem Ew(G:tX g):g.layer v+1<g.l↔v+g.w*g.h<g.size:=by
 rw[lt_size G];have:g.layer (v+g.w*g.h)=g.layer v+1:=by unfold um;exact Nat.add_div_right _ (Fz G.w G.h)
 rw[this]
end
end Nw
namespace Nw
open Vbpcah
def kind(g:kX)(u v:Nat):Nat:=if g.isVia u v=true then 0 else if g.row u=g.row v then 1 else 2
theorem Bl:kind g u v=kind g v u:=by
 unfold kind;rw[EE];by_cases h:g.row u=g.row v;·rw[aw h,aw h.symm]
 ·rw[ao h,ao (fY h)]
theorem kind_le:kind g u v<=2:=by
 unfold kind;split;·omega
 ·split<;>omega
def mw(g:kX)(v:Nat):ab (Nat×Nat):=(if 0<g.col v then[(v-1,1)]else[])++((if g.col v+1<g.w then[(v+1,1)]else[])++
 ((if 0<g.row v then[(v-g.w,2)]else[])++((if g.row v+1<g.h then[(v+g.w,2)]else[])++
 ((if 0<g.layer v then[(v-g.w*g.h,0)]else[])++(if g.layer v+1<g.l then[(v+g.w*g.h,0)]else[])))))
theorem vX{g:kX}{v:Nat}:(mw g v).map (·.1)=g.near v:=by
 unfold mw jr;simp only[cz];congr 1;·split<;>rfl
 congr 1;·split<;>rfl
 congr 1;·split<;>rfl
 congr 1;·split<;>rfl
 congr 1;·split<;>rfl
 ·split<;>rfl
theorem sW(G:tX g)(hv:v<g.size)(hp:p∈mw g v):p.1∈g.near v/\p.2=kind g p.1 v:=by
 have hc:=pT G v;have hr:=sR G v;have hl:=pM hv;refine⟨by rw[<-vX];exact bB.mpr ⟨p,hp,rfl⟩,?_⟩;unfold mw at hp;simp only[a_,List.mem_ite_nil_right,bU]at hp;unfold kind;rcases hp with⟨a,e⟩|⟨a,e⟩|⟨a,e⟩|⟨a,e⟩|⟨a,e⟩|⟨a,e⟩
 ·subst e;have e1:g.layer (v-1)=g.layer v:=by rw[Dg a,eU (by omega) hr]
  have e2:g.row (v-1)=g.row v:=by rw[Dg a,iE (by omega) hr]
  rw[ao (by rw[eY,e1];simp),aw e2]
 ·subst e;have e1:g.layer (v+1)=g.layer v:=by rw[zI (g:=g),eU (by omega) hr]
  have e2:g.row (v+1)=g.row v:=by rw[zI (g:=g),iE (by omega) hr]
  rw[ao (by rw[eY,e1];simp),aw e2]
 ·subst e;have e1:g.layer (v-g.w)=g.layer v:=by rw[up_eq a,eU hc (by omega)]
  have e2:g.row (v-g.w)=g.row v-1:=by rw[up_eq a,iE hc (by omega)]
  rw[ao (by rw[eY,e1];simp),ao (by dsimp only;omega)]
 ·subst e;have e1:g.layer (v+g.w)=g.layer v:=by rw[down_eq (g:=g),eU hc (by omega)]
  have e2:g.row (v+g.w)=g.row v+1:=by rw[down_eq (g:=g),iE hc (by omega)]
  rw[ao (by rw[eY,e1];simp),ao (by dsimp only;omega)]
 ·subst e;have e1:g.layer (v-g.w*g.h)=g.layer v-1:=by rw[Bz a,eU hc hr]
  rw[aw (by rw[eY,e1];omega)]
 ·subst e;have e1:g.layer (v+g.w*g.h)=g.layer v+1:=by rw[E' (g:=g),eU hc hr]
  rw[aw (by rw[eY,e1];omega)]
def kM(s:fM)(ex:Nat->Nat)(u v:Nat):Nat:=dz s u v+(if s.g.isVia u v=true then((s.g.column v).map ex).foldl (·+·) 0 else ex v)
theorem foldl_zero:∀(l:ab Nat)(a:Nat),(l.map fun _=>0).foldl (·+·) a=a
 |[],a=>rfl
 |_::l,a=>by show(l.map fun _=>0).foldl (·+·) (a+0)=a;exact foldl_zero l a
theorem Ho(s:fM):dz s=kM s (fun _=>0):=by funext u v;unfold kM;rw[foldl_zero];split<;>rfl
theorem PL(s:fM)(x:i5 Nat):o9 s x=kM s (fun v=>x.getD v 0):=rfl
def ext(use:Nat->Bool)(ex:Nat->Nat)(v:Nat):Int:=if use v=true then(ex v:Int)else qF
def qZ(s:fM)(Yc layer:Nat):Nat:=if s.dirs.getD layer 0=0\/s.dirs.getD layer 0=Yc then 1 else s.wrong
def Lw(s:fM)(use:Nat->Bool)(ex:Nat->Nat)(v:Nat):Int:=(s.via:Int)+((s.g.column v).map (ext use ex)).sum
def U1(s:fM)(use:Nat->Bool)(ex:Nat->Nat)(Yc v:Nat):Int:=(qZ s Yc (s.g.layer v):Int)+ext use ex v
def en(s:fM)(use:Nat->Bool)(ex:Nat->Nat)(k v:Nat):Int:=if k=0 then Lw s use ex v else U1 s use ex k v
theorem ND(use:Nat->Bool)(ex:Nat->Nat)(v:Nat):0<=ext use ex v:=by unfold ext qF;split<;>omega
theorem My:∀(l:ab Nat),0<=(l.map (ext use ex)).sum
 |[]=>by simp
 |a::l=>by have:=My (use:=use) (ex:=ex) l;have:=ND use ex a;simp only[cx,Ak];omega
theorem Ol{use:Nat->Bool}{ex:Nat->Nat}:∀(l:ab Nat)(a:Nat),l.all use=true->(a:Int)+(l.map (ext use ex)).sum=((l.map ex).foldl (·+·) a:Nat)
 |[],a,_=>by simp
 |x::l,a,h=>by rw[oN,bN]at h;have ih:=Ol (ex:=ex) l (a+ex x) h.2;simp only[cx,Ak,dg];rw[<-ih];unfold ext;rw[aw h.1];omega
theorem Oj:∀(l:ab Nat),¬l.all use=true->qF<=(l.map (ext use ex)).sum
 |[],h=>by simp at h
 |x::l,h=>by
  have hx:=ND use ex x;have hl:=My (use:=use) (ex:=ex) l;simp only[cx,Ak];by_cases hu:use x=true;·have:¬l.all use=true:=fun q=>h (by rw[oN,hu,q];rfl);have:=Oj (ex:=ex) l this;omega
  ·have:ext use ex x=qF:=by unfold ext;rw[ao hu]
   omega
theorem Good.SJ(S:Good s)(k:Nat):s.dirs.getD k 0<=2:=by
 rw[dF];cases e:s.dirs[k]? with
 |none=>simp
 |some d=>simpa using S.dir d (aH e)
theorem VW(S:Good s)(hv:v<s.g.size)(hn:u∈s.g.near v)(hu:use u=true):(az s.g use u v=true->en s use ex (kind s.g u v) v=(kM s ex u v:Int))/\(¬az s.g use u v=true->qF<=en s use ex (kind s.g u v) v):=by
 have nb:=(sU S.UU hv hn).2;unfold en az kM dz kind;by_cases h:s.g.isVia u v=true
 ·have hl:=eY.mp h;have hc:=nb.via hl;simp only[aw h,uk];unfold Lw;rw[wu (u:=u) (v:=v) hc.2 hc.1];constructor;·intro q;have:=Ol (ex:=ex) _ 0 q;omega
  ·intro q;have:=Oj (ex:=ex) _ q;omega
 ·simp only[ao h];have hl:s.g.layer u=s.g.layer v:=by apply dY;intro q;exact h (eY.mpr q)
  have d2:=S.SJ (s.g.layer v);have key:∀k:Nat,U1 s use ex k v=(qZ s k (s.g.layer v):Int)+(if use v=true then(ex v:Int)else qF):=fun k=>rfl;by_cases hr:s.g.row u=s.g.row v
  ·simp only[aw hr,Nat.one_ne_zero,mR];rw[key,hu,lQ,hl];refine⟨fun q=>?_,fun q=>?_⟩
   ·rw[aw q];unfold qZ;by_cases hd:s.dirs.getD (s.g.layer v) 0=2;·rw[aw hd,ao (by omega)];omega
    ·rw[ao hd,aw (by omega)];omega
   ·rw[ao q];omega
  ·simp only[ao hr];simp only[show¬((2:Nat)=0) by decide,mR];rw[key,hu,lQ,hl];refine⟨fun q=>?_,fun q=>?_⟩
   ·rw[aw q];unfold qZ;by_cases hd:s.dirs.getD (s.g.layer v) 0=1;·rw[aw hd,ao (by omega)];omega
    ·rw[ao hd,aw (by omega)];omega
   ·rw[ao q];omega
theorem XT(S:Good s)(k v:Nat):1<=en s use ex k v:=by
 have h1:=S.via.1;have h2:=S.wrong.1;unfold en;split;·unfold Lw;have:=My (use:=use) (ex:=ex) (s.g.column v);omega
 ·unfold U1 qZ;have:=ND use ex v;split<;>omega
theorem Sx(S:Good s)(u v:Nat):1<=kM s ex u v:=by
 have h1:=S.via.1;have h2:=S.wrong.1;have:1<=dz s u v:=by
  unfold dz;simp only;split;·exact h1
  ·split<;>split<;>omega
 unfold kM;omega
theorem T2(S:Good s)(u v:Nat):dz s u v<=1000:=by
 have h1:=S.via.2;have h2:=S.wrong.2;unfold dz;simp only;split;·exact h1
 ·split<;>split<;>omega
theorem Lk{ex:Nat->Nat}{M:Nat}(h:∀v,ex v<=M):∀(l:ab Nat)(a:Nat),(l.map ex).foldl (·+·) a<=a+l.length*M
 |[],a=>by simp
 |x::l,a=>by have h1:=Lk h l (a+ex x);have h2:=h x;simp only[cx,dg,bg,fO,iH];omega
theorem UW(S:Good s)(h:∀v,ex v<=M)(u v:Nat):kM s ex u v<=1000+4*M:=by
 have h1:=T2 S u v;unfold kM;split
 ·have h2:=Lk h (s.g.column v) 0;have h3:(s.g.column v).length<=4:=by unfold Fm;simp;exact S.l.2
  have h4:(s.g.column v).length*M<=4*M:=eP _ h3;omega
 ·have:=h v;omega
theorem Lu(hv:v<s.g.size):(lO s n).getD v 0=if(cB s).getD v 0=0\/(cB s).getD v 0=n\/(dB s).getD v 0=n then 0 else s.penalty*(1+(s.net ((cB s).getD v 0)).rips):=by unfold lO;simp only;rw[iD,aw hv]
theorem SE(S:Good s)(R:d6 s b)(n v:Nat):(lO s n).getD v 0<=1000*(1+b):=by
 by_cases hv:v<s.g.size
 ·rw[Lu hv];split;·exact cH _
  ·rename_i h;have q:(table s (aM s.g)).getD v 0≠0:=fun e=>h (.inl e);obtain⟨_,a,c,_⟩:=rE q;have:=R _ a c;exact rj S.penalty.2 (Nat.add_le_add_left this 1)
 ·have:(lO s n).size=s.g.size:=by unfold lO;simp
  simp[g_,this,hv]
end Nw
namespace Nw
open Vbpcah
section
variable{g:kX}{use:Nat->Bool}{cost:Nat->Nat->Nat}{src:ab Nat}
theorem G_(G:tX g)(hs:∀v∈src,use v=true)(h:Reach g (az g use) cost src v c):use v=true:=by
 rcases h.inv with⟨h1,_⟩|⟨u,a,h1,h2,h3,_⟩;·exact hs v h1
 ·unfold az at h3;by_cases hv:g.isVia u v=true;·rw[aw hv]at h3;have nb:=(sU G h.lt h2).2;have hc:=nb.via (eY.mp hv);exact eS.mp h3 v ((nF G).mpr ⟨h.lt,hc.2.symm,hc.1.symm⟩)
  ·rw[ao hv,bN]at h3;exact h3.2
structure rZ(g:kX)(use:Nat->Bool)(cost:Nat->Nat->Nat)(en:Nat->Nat->Int):Prop where
 at_:∀u v,v<g.size->u∈g.near v->use u=true->az g use u v=true->en (kind g u v) v=(cost u v:Int)
 NC:∀u v,v<g.size->u∈g.near v->use u=true->¬az g use u v=true->qF<=en (kind g u v) v
 pos:∀k v,1<=en k v
 jM:∀u v,1<=cost u v
 bound:∃M,(∀u v,cost u v<=M)/\(g.size*M+M:Nat)<qF
variable{en:Nat->Nat->Int}{cs:ab Int}{u v k c:Nat}
theorem rZ.cp(E:rZ g use cost en):∀u v,u∈g.near v->az g use u v=true->1<=cost u v:=fun u v _ _=>E.jM u v
theorem MM(E:rZ g use cost en)(C:Af g.size cs)(hv:v<g.size)(hn:u∈g.near v)(hu:use u=true)(hs:((c+cost u v:Nat):Int)<qF)(hz:cs[v]? =some z)(h:¬((c:Int)+en (kind g u v) v<z)):az g use u v=true->Le (cF cs v) (c+cost u v):=by
 intro hm;rw[E.at_ u v hv hn hu hm]at h;obtain⟨z',e,z0,_⟩:=C.get hv;rw[hz]at e;cases e;have hf:z≠qF:=by omega
 exact⟨z.toNat,rV hz hf,by omega⟩
theorem Kr(E:rZ g use cost en)(C:Af g.size cs)(hv:v<g.size)(hn:u∈g.near v)(hu:use u=true)(hz:cs[v]? =some z)(h:(c:Int)+en (kind g u v) v<z):az g use u v=true/\(c:Int)+en (kind g u v) v=((c+cost u v:Nat):Int)/\¬Le (cF cs v) (c+cost u v):=by
 obtain⟨z',e,z0,z1⟩:=C.get hv;rw[hz]at e;cases e;by_cases hm:az g use u v=true;·have ea:=E.at_ u v hv hn hu hm;refine⟨hm,by rw[ea];omega,?_⟩;rintro⟨a,e1,e2⟩;have:=(lK hz e1 z0).1;rw[ea]at h;omega
 ·have ea:=E.NC u v hv hn hu hm;omega
theorem LN(E:rZ g use cost en)(C:Af g.size cs)(hU:∀w,w<g.size->cF cs w≠none->use w=true)(G:tX g)(hv:v<g.size){p:Nat×Nat}(hp:p∈mw g v){zu zv:Int}(hu:cs[p.1]? =some zu)(hz:cs[v]? =some zv)(hf:zv≠qF):
  decide (zu+en p.2 v=zv)=(az g use p.1 v&&(match cF cs p.1,cF cs v with
   |some a,some b=>a+cost p.1 v==b
   |_,_=>false)):=by
 obtain⟨hn,hk⟩:=sW G hv hp;have pP:=sV G hv hn;obtain⟨z1,e1,a0,a1⟩:=C.get pP;rw[hu]at e1;cases e1;obtain⟨z2,e2,b0,b1⟩:=C.get hv;rw[hz]at e2;cases e2;have ep:=E.pos (kind g p.1 v) v;rw[hk,rV hz hf];by_cases hfu:zu=qF
 ·have:cF cs p.1=none:=by rw[hfu]at hu;exact yr hu
  rw[this];simp only[HN];exact dH (by omega)
 ·have e3:=rV hu hfu;have aad:=hU p.1 pP (by rw[e3];simp);rw[e3];by_cases hm:az g use p.1 v=true;·rw[E.at_ p.1 v hv hn aad hm,hm];simp only[lQ];rw[dh];simp only[au,dU];omega
  ·have ef:=E.NC p.1 v hv hn aad hm;have:az g use p.1 v=false:=by simpa using hm
   rw[this];simp only[xp];exact dH (by omega)
theorem Ls{α β:Type}{f:α->β}{p:α->Bool}{q:β->Bool}:∀{l:ab α},(∀x∈l,p x=q (f x))->(l.find? p).map f=(l.map f).find? q
 |[],_=>rfl
 |a::l,h=>by
  have ih:=Ls (f:=f) (p:=p) (q:=q) (l:=l) fun x hx=>h x (by simp[hx]);rw[cx,gz,gz,<-h a (by simp)];cases p a with
  |true=>rfl
  |false=>exact ih
end
theorem Jl(S:Good s)(hex:∀v,ex v<=E0)(hE:E0<=1000000000):rZ s.g use (kM s ex) (en s use ex):=by have hv1:=S.via;have hw1:=S.wrong;refine⟨fun u v hv hn hu=>(VW S hv hn hu).1,fun u v hv hn hu=>(VW S hv hn hu).2,fun k v=>XT S k v,fun u v=>Sx S u v,1000+4*E0,fun u v=>UW S hex u v,?_⟩;have h1:=S.size;have h2:s.g.size*(1000+4*E0)<=2304*(1000+4*E0):=eP _ h1;unfold qF;omega
end Nw
namespace Nw
open Vbpcah
def wt:cT->Nat
 |[]=>0
 |(_,L)::F=>1+L.length+wt F
theorem HP:∀(F:cT)(y v:Nat),wt (push F y v)<=wt F+2
 |[],y,v=>by simp[push,wt]
 |(x,L)::F,y,v=>by
  have ih:=HP F y v;unfold push;split;·simp only[wt,bo,cn];omega
  ·simp only[wt];omega
theorem Q8:∀(F:cT),F.length<=wt F
 |[]=>by simp
 |(x,L)::F=>by have ih:=Q8 F;simp only[wt,bg];omega
theorem Q7:∀{F:cT}{x:Nat}{L:ab Nat},(x,L)∈F->L.length+1<=wt F
 |(y,M)::F,x,L,h=>by
  rcases aF.mp h with e|e;·cases e;simp only[wt];omega
  ·have:=Q7 e;simp only[wt];omega
def drop(F:cT)(c:Nat):cT:=F.filter fun p=>decide (p.1≠c)
theorem Oc:∀(F:cT)(c:Nat),wt (drop F c)<=wt F
 |[],c=>by simp[drop]
 |(x,L)::F,c=>by have ih:=Oc F c;unfold drop at ih⊢;rw[eu];split<;>simp only[wt]<;>omega
theorem EC:∀{F:cT}{x:Nat}{L M:ab Nat},(F.map (·.1)).Nodup->(x,L)∈F->(x,M)∈F->L=M
 |(y,N)::F,x,L,M,hn,h1,h2=>by
  rw[cx,bQ]at hn;rcases aF.mp h1 with e1|e1
  ·rcases aF.mp h2 with e2|e2;·cases e1;cases e2;rfl
   ·cases e1;exact bF (bB.mpr ⟨_,e2,rfl⟩) hn.1
  ·rcases aF.mp h2 with e2|e2;·cases e2;exact bF (bB.mpr ⟨_,e1,rfl⟩) hn.1
   ·exact EC hn.2 e1 e2
theorem Dd{F:cT}{x u:Nat}{L:ab Nat}(hn:(F.map (·.1)).Nodup)(h:(x,L)∈F):pend F x u↔u∈L:=⟨fun⟨M,h1,h2⟩=>by rw[EC hn h h1];exact h2,fun q=>⟨L,h,q⟩⟩
theorem AY:pend (drop F c) x u↔pend F x u/\x≠c:=by
 unfold pend drop;constructor;·rintro⟨L,h,hu⟩;obtain⟨h1,h2⟩:=ba.mp h;exact⟨⟨L,h1,hu⟩,by simpa using h2⟩
 ·rintro⟨⟨L,h,hu⟩,hx⟩;exact⟨L,ba.mpr ⟨h,by simpa using hx⟩,hu⟩
theorem NG{F:cT}{c:Nat}(h:(F.map (·.1)).Nodup):((drop F c).map (·.1)).Nodup:=List.Nodup.sublist (List.Sublist.map _ List.filter_sublist) h
theorem Hu{F:cT}{c x:Nat}(h:x∈(drop F c).map (·.1)):x∈F.map (·.1)/\x≠c:=by obtain⟨p,hp,rfl⟩:=bB.mp h;obtain⟨h1,h2⟩:=ba.mp hp;exact⟨bB.mpr ⟨p,h1,rfl⟩,by simpa using h2⟩
theorem x_:∀{F:cT}{y v:Nat},(∀p∈F,p.2.Nodup)->¬pend F y v->∀p∈push F y v,p.2.Nodup
 |[],y,v,_,_,p,hp=>by simp[push]at hp;subst hp;simp
 |(x,L)::F,y,v,h,hn,p,hp=>by
  unfold push at hp;split at hp
  ·rename_i e;rcases aF.mp hp with q|q;·subst q;show(L++[v]).Nodup;rw[i_];refine⟨h (x,L) (by simp),by simp,?_⟩;intro a ha b hb e2;simp at hb;subst hb e2;exact hn (nA.mpr (.inl ⟨e.symm,ha⟩))
   ·exact h p (by simp[q])
  ·rcases aF.mp hp with q|q;·subst q;exact h _ (by simp)
   ·exact x_ (fun p hp=>h p (by simp[hp])) (fun q=>hn (nA.mpr (.inr q))) p q
theorem Reach.more(hs:∀x∈src,x∈Rq)(h:Reach g may cost src v c):Reach g may cost Rq v c:=by
 obtain⟨l,p⟩:=h;refine⟨l,?_⟩;generalize v::l=m at p;induction p with
 |base h1 h2=>exact .base (hs _ h1) h2
 |step _ h1 h2 h3 ih=>exact .step ih h1 h2 h3
section
variable(g:kX)(may:Nat->Nat->Bool)(cost:Nat->Nat->Nat)(src:ab Nat)
structure Wv(cs:ab Int)(F:cT)(lo:Nat)(W:Nat->Prop)(w0:Nat)(dn:ab Nat):Prop where
 C:Af g.size cs
 hd:Head g may cost src (cF cs) F lo
 NC:∀x:Nat,x∈F.map (·.1)->(x:Int)<qF
 want:∀v,W v->∀x,cF cs v=some x->pend F x v
 lists:∀p∈F,p.2.Nodup
 le:∀x u,pend F x u->Le (cF cs u) x
 U3:dn.Nodup
 Tz:∀u∈dn,u<g.size/\∃x,cF cs u=some x/\x<lo
 wt:wt F<=w0+12*dn.length
structure Vd(cs:ab Int)(F:cT)(c:Nat)(front:ab Nat)(W:Nat->Prop)(w0:Nat)(dn:ab Nat):Prop where
 C:Af g.size cs
 mid:Yk g may cost src (cF cs) F c front
 NC:∀x:Nat,x∈F.map (·.1)->(x:Int)<qF
 want:∀v,W v->∀x,cF cs v=some x->pend F x v
 lists:∀p∈F,p.2.Nodup
 le:∀x u,pend F x u->Le (cF cs u) x
 U3:dn.Nodup
 Tz:∀u∈dn,u<g.size/\∃x,cF cs u=some x/\x<=c
 fnd:front.Nodup
 XQ:∀u∈front,u∉dn/\u<g.size
 wt:wt F<=w0+12*dn.length
structure Me(cs:ab Int)(F:cT)(c:Nat)(front:ab Nat)(u:Nat)(done:ab Nat)(W:Nat->Prop)(w0:Nat)(dn:ab Nat):Prop where
 C:Af g.size cs
 part:Part g may cost src (cF cs) F c front u done
 NC:∀x:Nat,x∈F.map (·.1)->(x:Int)<qF
 want:∀v,W v->∀x,cF cs v=some x->pend F x v
 lists:∀p∈F,p.2.Nodup
 le:∀x u,pend F x u->Le (cF cs u) x
 U3:(u::dn).Nodup
 Tz:∀w∈u::dn,w<g.size/\∃x,cF cs w=some x/\x<=c
 fnd:front.Nodup
 XQ:∀w∈front,w∉u::dn/\w<g.size
 wt:wt F<=w0+12*dn.length+2*done.length
abbrev Rest(cs:ab Int)(F:cT)(W:Nat->Prop)(n:Nat):Prop:=Wv g may cost src cs F 0 W n []
end
section
variable{g:kX}{use:Nat->Bool}{cost:Nat->Nat->Nat}{src:ab Nat}{en:Nat->Nat->Int}
variable{cs:ab Int}{F:cT}{lo c u v w0 n:Nat}{W W':Nat->Prop}{dn front done:ab Nat}
theorem Wv.new:Rest g (az g use) cost [] (cO g.size qF) [] W 0:=by
 have hn:∀v,cF (cO g.size qF) v=none:=fun v=>by
  by_cases h:v<g.size;·exact yr (by rw[jv,aw h])
  ·unfold cF;rw[jv,ao h]
 refine⟨⟨by simp,fun z hz=>?_⟩,⟨⟨fun v x h=>?_,fun v h=>by simp at h,fun u x h=>?_⟩,by simp,by simp,fun x u h=>(vb h).elim⟩,by simp,fun v _ x h=>?_,by simp,fun x u h=>(vb h).elim,by simp,by simp,by simp[Nw.wt]⟩;·have:=List.eq_of_mem_replicate hz;unfold qF at*;omega
 ·rw[hn]at h;cases h
 ·rw[hn]at h;cases h
 ·rw[hn]at h;cases h
theorem Wv.rest(h:Wv g (az g use) cost src cs F lo W w0 dn)(hn:w0+12*dn.length<=n):Rest g (az g use) cost src cs F W n:=⟨h.C,⟨h.hd.inv,fun _ _=>cH _,h.hd.nd,h.hd.cells⟩,h.NC,h.want,h.lists,h.le,by simp,by simp,by have:=h.wt;simp;omega⟩
theorem Wv.Ao(h:Wv g (az g use) cost src cs F lo W w0 dn)(hW:∀v,W' v->W v):Wv g (az g use) cost src cs F lo W' w0 dn:={h with want:=fun v q=>h.want v (hW v q)}
theorem Wv.old(h:Rest g (az g use) cost src cs F W n)(hz:cs[v]? =some z)(h0:¬0<z):Rest g (az g use) cost (v::src) cs F W n:=by
 have z0:z=0:=by have:=(h.C.ok z (aH hz)).1;omega
 subst z0;have hv:cF cs v=some 0:=rV hz (by unfold qF;omega);refine{h with hd:={h.hd with inv:=⟨fun w x q=>(h.hd.inv.sound w x q).more fun x hx=>by simp[hx],fun w q hw=>?_,h.hd.inv.rel⟩}};rcases aF.mp q with e|e;·subst e;exact hv
 ·exact h.hd.inv.start w e hw
theorem Wv.reach(h:Rest g (az g use) cost src cs F W n)(hv:v<g.size)(hz:cs[v]? =some z)(h0:0<z):Rest g (az g use) cost (v::src) (cs.set v 0) (push F 0 v) W (n+2):=by
 have hl:v<cs.length:=by rw[h.C.len];exact hv
 have eD:cF (cs.set v 0)=fun w=>if w=v then some 0 else cF cs w:=E3 (x:=0) hl (by unfold qF;omega);have np:¬pend F 0 v:=fun q=>by obtain⟨a,e1,e2⟩:=h.le 0 v q;have:=(lK hz e1 (by omega)).1;omega
 have low:∀w x,Le (cF cs w) x->Le (cF (cs.set v 0) w) x:=by
  intro w x q;rw[eD];by_cases e:w=v;·simp only[aw e];exact⟨0,rfl,cH _⟩
  ·simp only[ao e];exact q
 refine⟨h.C.set (by omega) (by unfold qF;omega),⟨⟨fun w x q=>?_,fun w q hw=>?_,fun w x q=>?_⟩,fun _ _=>cH _,Ed h.hd.nd,fun x w q=>?_⟩,fun x hx=>?_,fun w hw x q=>?_,x_ h.lists np,fun x w q=>?_,by simp,by simp,?_⟩
 ·rw[eD]at q;by_cases e:w=v;·simp only[aw e]at q;cases q;subst e;exact .base (by simp) hv
  ·simp only[ao e]at q;exact(h.hd.inv.sound w x q).more fun x hx=>by simp[hx]
 ·rw[eD];by_cases e:w=v;·simp only[aw e]
  ·simp only[ao e];rcases aF.mp q with q|q;·exact bF q e
   ·exact h.hd.inv.start w q hw
 ·rw[eD]at q;by_cases e:w=v;·simp only[aw e]at q;cases q;exact .inl (il.mpr (.inr ⟨rfl,e⟩))
  ·simp only[ao e]at q;rcases h.hd.inv.rel w x q with z|z;·exact .inl (il.mpr (.inl z))
   ·exact .inr fun y a b m=>low _ _ (z y a b m)
 ·rcases il.mp q with q|⟨_,rfl⟩;·exact h.hd.cells x w q
  ·exact hv
 ·rw[rJ]at hx;split at hx;·exact h.NC x hx
  ·rcases a_.mp hx with z|z;·exact h.NC x z
   ·simp at z;subst z;unfold qF;omega
 ·rw[eD]at q;by_cases e:w=v;·simp only[aw e]at q;cases q;exact il.mpr (.inr ⟨rfl,e⟩)
  ·simp only[ao e]at q;exact il.mpr (.inl (h.want w hw x q))
 ·rcases il.mp q with q|⟨rfl,rfl⟩;·exact low _ _ (h.le x w q)
  ·rw[eD];exact⟨0,by simp,aD _⟩
 ·have:=HP F 0 v;have:=h.wt;simp at*;omega
theorem Wv.RZ(h:Wv g (az g use) cost src cs [] lo W w0 dn)(hW:W v):cF cs v=none:=by
 cases e:cF cs v with
 |none=>rfl
 |some x=>exact(vb (h.want v hW x e)).elim
theorem Wv.RY(E:rZ g use cost en)(h:Wv g (az g use) cost src cs [] lo W w0 dn)(hW:W v):(wave g (az g use) cost src).at_ v=none:=by rw[<-h.hd.last E.cp v];exact h.RZ hW
theorem Wv.agree(E:rZ g use cost en)(h:Wv g (az g use) cost src cs F lo W w0 dn)(hc:∀x∈F.map (·.1),c<=x):Agree (wave g (az g use) cost src) (cF cs) c:=h.hd.inv.agree E.cp fun u x q _=>hc x (Ef q)
theorem Wv.target(h:Wv g (az g use) cost src cs F lo W w0 dn){L T:ab Nat}(hL:(c,L)∈F)(hc:∀x∈F.map (·.1),c<=x)(hT:∀x,x∈T↔W x){t:Nat}(ht:t∈L/\cF cs t=some c/\W t)(hm:∀y∈L,cF cs y=some c->W y->t<=y):jj (cF cs) T c t:=by
 refine⟨(hT t).mpr ht.2.2,ht.2.1,fun u e hu he=>?_⟩;have hp:=h.want u ((hT u).mp hu) e he;have h1:=hc e (Ef hp);by_cases q:c=e;·subst q;exact .inr ⟨rfl,hm u ((Dd h.hd.nd hL).mp hp) he ((hT u).mp hu)⟩
 ·exact .inl (by omega)
theorem Wv.pop(h:Wv g (az g use) cost src cs F lo W w0 dn){L:ab Nat}(hL:(c,L)∈F)(hc:∀x∈F.map (·.1),c<=x)(hm:∀y∈L,cF cs y=some c->¬W y):Vd g (az g use) cost src cs (drop F c) c (L.filter fun u=>decide (cF cs u=some c)) W w0 dn:=by
 have hlo:=h.hd.keys c (bB.mpr ⟨_,hL,rfl⟩);have hk:∀x∈(drop F c).map (·.1),c<x:=fun x hx=>by obtain⟨h1,h2⟩:=Hu hx;have:=hc x h1;omega
 refine⟨h.C,h.hd.pop (fun x u=>?_) hk (NG h.hd.nd),fun x hx=>h.NC x (Hu hx).1,fun v hv x q=>?_,fun p hp=>h.lists p (ba.mp hp).1,fun x u q=>h.le x u (AY.mp q).1,h.U3,fun u hu=>?_,(h.lists _ hL).filter _,fun u hu=>?_,bZ (Oc F c) h.wt⟩
 ·rw[AY];constructor
  ·intro q;by_cases e:x=c;·subst e;exact .inl ⟨rfl,(Dd h.hd.nd hL).mp q⟩
   ·exact .inr ⟨q,e⟩
  ·rintro(⟨rfl,q⟩|⟨q,_⟩);·exact(Dd h.hd.nd hL).mpr q
   ·exact q
 ·have hp:=h.want v hv x q;refine AY.mpr ⟨hp,fun e=>?_⟩;subst e;exact hm v ((Dd h.hd.nd hL).mp hp) q hv
 ·obtain⟨a,x,b,d⟩:=h.Tz u hu;exact⟨a,x,b,by omega⟩
 ·obtain⟨h1,h2⟩:=ba.mp hu;have h3:cF cs u=some c:=by simpa using h2
  refine⟨fun q=>?_,h.hd.cells c u ⟨L,hL,h1⟩⟩;obtain⟨_,x,b,d⟩:=h.Tz u q;rw[h3]at b;cases b;omega
theorem Vd.next(h:Vd g (az g use) cost src cs F c [] W w0 dn):Wv g (az g use) cost src cs F (c+1) W w0 dn:=⟨h.C,h.mid.done,h.NC,h.want,h.lists,h.le,h.U3,fun u hu=>let⟨a,x,b,d⟩:=h.Tz u hu;⟨a,x,b,by omega⟩,h.wt⟩
theorem Vd.take(h:Vd g (az g use) cost src cs F c (u::front) W w0 dn):Me g (az g use) cost src cs F c front u [] W w0 dn:=by
 have hf:=bQ.mp h.fnd;have hu:=h.XQ u (by simp);refine⟨h.C,h.mid.take,h.NC,h.want,h.lists,h.le,bQ.mpr ⟨hu.1,h.U3⟩,fun w hw=>?_,hf.2,fun w hw=>⟨?_,(h.XQ w (by simp[hw])).2⟩,by have:=h.wt;simp;omega⟩
 ·rcases aF.mp hw with e|e;·subst e;exact⟨hu.2,c,h.mid.fr w (by simp),aD _⟩
  ·exact h.Tz w e
 ·intro q;rcases aF.mp q with e|e;·subst e;exact hf.1 hw
  ·exact(h.XQ w (by simp[hw])).1 e
theorem Me.Ra(G:tX g)(hs:∀v∈src,use v=true)(h:Me g (az g use) cost src cs F c front u done W w0 dn):use u=true:=G_ G hs (h.part.sound u c h.part.at_)
theorem Me.small(E:rZ g use cost en)(h:Me g (az g use) cost src cs F c front u done W w0 dn):((c+cost u v:Nat):Int)<qF:=by
 have a:=h.part.sound u c h.part.at_;obtain⟨b,h1,h2⟩:=sx a;obtain⟨M,hM1,hM2⟩:=E.bound;have XB:Agree (wave g (az g use) cost src) (cF cs) b:=by
  refine JQ.agree (pend:=fun x w=>pend F x w\/(x=c/\(w∈front\/w=u))) ⟨h.part.sound,h.part.start,fun w x hw=>?_⟩ E.cp fun w x q hq=>?_
  ·rcases h.part.rel w x hw with(q|q)|q;·exact .inl (.inl q)
   ·exact .inl (.inr ⟨q.1,.inl q.2⟩)
   ·by_cases e:w=u;·subst e;have:=h.part.at_;rw[hw]at this;cases this;exact .inl (.inr ⟨rfl,.inr rfl⟩)
    ·exact .inr fun y a1 a2 a3=>(q y a1 a2 a3).resolve_right fun z=>e z.1
  ·rcases q with q|q;·have:=h.part.keys x (Ef q);omega
   ·omega
 have h3:=(XB u b (aD _)).mpr h1;rw[h.part.at_]at h3;cases h3;have h4:=Mh hM1 h1;have h5:=hM1 u v;omega
theorem Me.skip(E:rZ g use cost en)(G:tX g)(hs:∀v∈src,use v=true)(h:Me g (az g use) cost src cs F c front u done W w0 dn)(hv:v<g.size)(hn:u∈g.near v)(hz:cs[v]? =some z)(hh:¬((c:Int)+en (kind g u v) v<z)):Me g (az g use) cost src cs F c front u (done++[v]) W w0 dn:={h with part:=h.part.skip (MM E h.C hv hn (h.Ra G hs) (h.small E) hz hh),wt:=by have:=h.wt;rw[bo];omega}
theorem Me.lower(E:rZ g use cost en)(G:tX g)(hs:∀v∈src,use v=true)(h:Me g (az g use) cost src cs F c front u done W w0 dn)(hv:v<g.size)(hn:u∈g.near v)(hz:cs[v]? =some z)(hh:(c:Int)+en (kind g u v) v<z):(c:Int)+en (kind g u v) v=((c+cost u v:Nat):Int)/\Me g (az g use) cost src (cs.set v ((c+cost u v:Nat):Int)) (push F (c+cost u v) v) c front u (done++[v]) W w0 dn:=by
 obtain⟨hm,e1,nl⟩:=Kr E h.C hv hn (h.Ra G hs) hz hh;have sm:((c+cost u v:Nat):Int)<qF:=h.small E;have hl:v<cs.length:=by rw[h.C.len];exact hv
 have eD:cF (cs.set v ((c+cost u v:Nat):Int))=fun w=>if w=v then some (c+cost u v)else cF cs w:=E3 hl (by omega);have np:¬pend F (c+cost u v) v:=fun q=>nl (h.le _ _ q);have nu:u≠v:=fun e=>nl ⟨c,by rw[<-e];exact h.part.at_,by omega⟩;have low:∀w x,Le (cF cs w) x->Le (cF (cs.set v ((c+cost u v:Nat):Int)) w) x:=by
  intro w x q;rw[eD];by_cases e:w=v;·subst e;simp only[aw];refine⟨_,rfl,?_⟩;obtain⟨a,q1,q2⟩:=q;have:¬a<=c+cost u w:=fun z=>nl ⟨a,q1,z⟩;omega
  ·simp only[ao e];exact q
 have kI:∀w x,cF cs w=some x->x<=c->cF (cs.set v ((c+cost u v:Nat):Int)) w=some x:=by
  intro w x q hx;rw[eD];by_cases e:w=v;·subst e;exact bF ⟨x,q,by omega⟩ nl
  ·simp only[ao e];exact q
 refine⟨e1,h.C.set (by omega) (by omega),?_,fun x hx=>?_,fun w hw x q=>?_,x_ h.lists np,fun x w q=>?_,h.U3,fun w hw=>?_,h.fnd,h.XQ,?_⟩;·have:=h.part.lower hn hv hm (E.jM u v) nl;rw[eD];exact this
 ·rw[rJ]at hx;split at hx;·exact h.NC x hx
  ·rcases a_.mp hx with z|z;·exact h.NC x z
   ·simp at z;subst z;exact sm
 ·rw[eD]at q;by_cases e:w=v;·simp only[aw e]at q;cases q;exact il.mpr (.inr ⟨rfl,e⟩)
  ·simp only[ao e]at q;exact il.mpr (.inl (h.want w hw x q))
 ·rcases il.mp q with q|⟨rfl,rfl⟩;·exact low _ _ (h.le x w q)
  ·rw[eD];exact⟨_,by simp,aD _⟩
 ·obtain⟨a,x,b,d⟩:=h.Tz w hw;exact⟨a,x,kI w x b d,d⟩
 ·have:=HP F (c+cost u v) v;have:=h.wt;rw[bo,cn];omega
theorem KP(g:kX)(v:Nat):(g.near v).length<=6:=by
 unfold jr;simp only[bo];repeat' split
 all_goals simp
theorem Me.finish(G:tX g)(h:Me g (az g use) cost src cs F c front u (g.near u) W w0 dn):Vd g (az g use) cost src cs F c front W w0 (u::dn):=⟨h.C,h.part.done fun v hn hv=>Hh G hv hn,h.NC,h.want,h.lists,h.le,h.U3,h.Tz,h.fnd,h.XQ,by have:=h.wt;have:=KP g u;simp only[bg];omega⟩
theorem Me.Ob(h:Me g (az g use) cost src cs F c front u done W w0 dn)(hd:done.length<=6):Nw.wt F<=w0+12*g.size+12:=by have:=h.wt;have h1:=iC (bQ.mp h.U3).2 fun x hx=>(h.Tz x (by simp[hx])).1;have:12*dn.length<=12*g.size:=qc _ h1;omega
theorem Wv.Ob(h:Wv g (az g use) cost src cs F lo W w0 dn):Nw.wt F<=w0+12*g.size/\w0+12*dn.length<=w0+12*g.size:=by have:=h.wt;have h1:=iC h.U3 fun x hx=>(h.Tz x hx).1;have:12*dn.length<=12*g.size:=qc _ h1;omega
theorem Wv.Za(G:tX g)(hs:∀v∈src,use v=true)(h:Wv g (az g use) cost src cs F lo W w0 dn):∀w,w<g.size->cF cs w≠none->use w=true:=by
 intro w _ q;cases e:cF cs w with
 |none=>exact bF e q
 |some x=>exact G_ G hs (h.hd.inv.sound w x e)
end
end Nw
namespace Nw
open Vbpcah
section
variable{g:kX}
theorem Qa(G:tX g)(h:Nb g u v):kind g u v=if place g u=place g v then 0 else if g.col u=g.col v then 2 else 1:=by
 unfold kind;by_cases hv:g.layer u=g.layer v
 ·rw[ao (by rw[eY];exact fun q=>q hv)];have np:¬(g.row u=g.row v/\g.col u=g.col v):=fun q=>(h.symm.place.mp q) hv;rw[ao (c:=place g u=place g v) (by rw[Ha G];exact np)];cases h with
  |left a b c=>rw[aw b.symm,ao (by omega)]
  |right a b c=>rw[aw b.symm,ao (by omega)]
  |up a b c=>rw[ao (by omega),aw c.symm]
  |down a b c=>rw[ao (by omega),aw c.symm]
  |before a b c=>omega
  |after a b c=>omega
 ·rw[aw (eY.mpr hv),aw ((Ha G).mpr (h.symm.place.mpr hv))]
theorem RL(hp:p<g.w*g.h):place g (p+k*(g.w*g.h))=p:=by rw[<-vV,Nat.add_mul_mod_self_right,uf hp]
theorem K7(hp:p<g.w*g.h):g.layer (p+k*(g.w*g.h))=k:=by unfold um;rw[Nat.add_mul_div_right _ _ (by omega),ug hp,Nat.zero_add]
theorem Bu(G:tX g)(hp:p<g.w*g.h):g.column p=(cP g.l).map fun k=>p+k*(g.w*g.h):=by
 rw[z8];have:place g p=p:=by have:=RL (g:=g) (k:=0) hp;simpa using this
 rw[this]
theorem tV(G:tX g)(v:Nat):g.column (place g v)=g.column v:=by rw[Bu G (place_lt G v),z8]
theorem vC(hL:1<=L)(hx:0<=x)(hy:0<=y):(L-1)*((g.w*g.h:Nat):Int)+y*(g.w:Int)+x=((g.cell (L.toNat-1) x.toNat y.toNat:Nat):Int):=by
 rw[tu];obtain⟨L',rfl⟩:∃n:Nat,L=(n:Int)+1:=⟨(L-1).toNat,by omega⟩;obtain⟨x',rfl⟩:=hZ hx;obtain⟨y',rfl⟩:=hZ hy;have e:((L':Int)+1).toNat-1=L':=by omega
 rw[e];simp only[aJ,Int.natCast_add,wF];have:(L':Int)+1-1=L':=by omega
 rw[this];omega
end
def rowOf(g:kX)(k y x1 x2:Nat):ab Nat:=(cP (x2+1-x1)).map fun i=>g.cell k x1 y+i
def s_(g:kX)(k y1 y2 x1 x2:Nat):ab Nat:=(cP (y2+1-y1)).flatMap fun j=>rowOf g k (y1+j) x1 x2
def mz(g:kX)(ks:ab Nat)(y1 y2 x1 x2:Nat):ab Nat:=ks.flatMap fun k=>s_ g k y1 y2 x1 x2
section
variable{g:kX}{k y y1 y2 x1 x2:Nat}
theorem v7(hx:x2<g.w)(hy:y<g.h):v∈rowOf g k y x1 x2↔g.layer v=k/\g.row v=y/\x1<=g.col v/\g.col v<=x2:=by
 unfold rowOf;rw[bB];constructor
 ·rintro⟨i,hi,rfl⟩;rw[dr]at hi;have e:g.cell k x1 y+i=g.cell k (x1+i) y:=by unfold g8;omega
  rw[e,eU (by omega) hy,iE (by omega) hy,j3 (by omega)];omega
 ·rintro⟨rfl,rfl,h1,h2⟩;refine⟨g.col v-x1,dr.mpr (by omega),?_⟩;have:=iQ (g:=g) v;unfold g8 at*;omega
theorem qu(hx:x2<g.w)(hy:y2<g.h):v∈s_ g k y1 y2 x1 x2↔g.layer v=k/\y1<=g.row v/\g.row v<=y2/\x1<=g.col v/\g.col v<=x2:=by
 unfold s_;rw[gM];constructor;·rintro⟨j,hj,h⟩;rw[dr]at hj;obtain⟨a,b,c,d⟩:=(v7 hx (by omega)).mp h;omega
 ·rintro⟨a,b,c,d,e⟩;exact⟨g.row v-y1,dr.mpr (by omega),(v7 hx (by omega)).mpr ⟨a,by omega,d,e⟩⟩
theorem Ja(hx:x2<g.w)(hy:y2<g.h):v∈mz g ks y1 y2 x1 x2↔g.layer v∈ks/\y1<=g.row v/\g.row v<=y2/\x1<=g.col v/\g.col v<=x2:=by
 unfold mz;rw[gM];constructor;·rintro⟨j,hj,h⟩;obtain⟨a,b⟩:=(qu hx hy).mp h;rw[a];exact⟨hj,b⟩
 ·rintro⟨a,b⟩;exact⟨g.layer v,a,(qu hx hy).mpr ⟨rfl,b⟩⟩
theorem LI(G:tX g)(h:g.layer u<g.layer v\/(g.layer u=g.layer v/\(g.row u<g.row v\/(g.row u=g.row v/\g.col u<g.col v)))):u<v:=by
 have hu:=iQ (g:=g) u;have hv:=iQ (g:=g) v;have c1:=pT G u;have r1:=sR G u;have c2:=pT G v;unfold g8 at hu hv;rcases h with h|⟨h0,h|⟨h,h'⟩⟩
 ·have a1:g.layer u*g.h+g.row u+1<=g.layer v*g.h+g.row v:=by have:(g.layer u+1)*g.h<=g.layer v*g.h:=eP _ h;rw[fO,iH]at this;omega
  have a2:=eP g.w a1;rw[fO _ 1,iH]at a2;omega
 ·have a1:g.layer u*g.h+g.row u+1<=g.layer v*g.h+g.row v:=by rw[h0];omega
  have a2:=eP g.w a1;rw[fO _ 1,iH]at a2;omega
 ·rw[h0,h]at hu;omega
theorem sT{α:Type}{f:α->ab Nat}{R:α->α->Prop}:∀{l:ab α},l.Pairwise R->(∀a∈l,(f a).Pairwise (·<·))->(∀a∈l,∀b∈l,R a b->∀x∈f a,∀y∈f b,x<y)->(l.flatMap f).Pairwise (·<·)
 |[],_,_,_=>by simp
 |a::l,p,h1,h2=>by have q:=qG.mp p;rw[kf,List.pairwise_append];refine⟨h1 a (by simp),sT q.2 (fun b hb=>h1 b (by simp[hb])) (fun b hb c hc=>h2 b (by simp[hb]) c (by simp[hc])),fun x hx y hy=>?_⟩;obtain⟨b,hb,hy⟩:=gM.mp hy;exact h2 a (by simp) b (by simp[hb]) (q.1 b hb) x hx y hy
theorem RB:(rowOf g k y x1 x2).Pairwise (·<·):=by unfold rowOf;rw[Cj];exact jL.imp fun h=>by omega
theorem Ni(G:tX g)(hx:x2<g.w)(hy:y2<g.h):(s_ g k y1 y2 x1 x2).Pairwise (·<·):=by refine sT (R:=(·<·)) jL (fun _ _=>RB) fun a ha b hb YW x QY y YE=>?_;rw[dr]at ha hb;obtain⟨p1,p2,_⟩:=(v7 hx (by omega)).mp QY;obtain⟨q1,q2,_⟩:=(v7 hx (by omega)).mp YE;exact LI G (.inr ⟨by omega,.inl (by omega)⟩)
theorem K6(G:tX g){ks:ab Nat}(hk:ks.Pairwise (·<·))(hx:x2<g.w)(hy:y2<g.h):(mz g ks y1 y2 x1 x2).Pairwise (·<·):=by refine sT hk (fun _ _=>Ni G hx hy) fun a _ b _ YW x QY y YE=>?_;have p:=(qu hx hy).mp QY;have q:=(qu hx hy).mp YE;exact LI G (.inl (by omega))
theorem X_{s:fM}(G:tX s.g){L:Int}{ks:ab Nat}(hk:ks.Pairwise (·<·))(Ql:∀k,k<s.g.l->(k∈ks↔L=0\/L=(k:Int)+1))(hl:∀k∈ks,k<s.g.l)(hx:x2<s.g.w)(hy:y2<s.g.h):mz s.g ks y1 y2 x1 x2=dq s L x1 y1 x2 y2:=by
 refine AS (K6 G hk hx hy) NL fun v=>?_;rw[Ja hx hy,Jb];constructor;·rintro⟨a,b,c,d,e⟩;have h1:=hl _ a;exact⟨B9 G h1,(Ql _ h1).mp a,by omega,by omega,by omega,by omega⟩
 ·rintro⟨a,b,c,d,e,f⟩;exact⟨(Ql _ (pM a)).mpr b,by omega,by omega,by omega,by omega⟩
end
end Nw
namespace kP
open PySem
def pW(xs:ab Nat):Prop:=xs.Pairwise (·<·)
theorem SX(xs:i5 Nat)(j:Nat)(hr:pW xs.toList):∀(fuel lo hi:Nat),hi-lo<=fuel->lo<=hi->hi<=xs.size->(∀i,i<lo->∀(h:i<xs.size),xs[i]<j)->(∀i,hi<=i->∀(h:i<xs.size),j<=xs[i])->oM xs j fuel lo hi<=xs.size/\(∀i,i<oM xs j fuel lo hi->∀(h:i<xs.size),xs[i]<j)/\(∀i,oM xs j fuel lo hi<=i->∀(h:i<xs.size),j<=xs[i]):=by
 have mono:∀a b(ha:a<xs.size)(hb:b<xs.size),a<=b->xs[a]<=xs[b]:=by
  intro a b ha hb YW;by_cases e:a=b;·subst e;exact aD _
  ·have:=rq.mp hr a b (by simpa using ha) (by simpa using hb) (by omega);simp only[i4]at this;omega
 intro fuel;induction fuel with
 |zero=>
  intro lo hi h1 h2 h3 h4 h5;have e:lo=hi:=by omega
  subst e;exact⟨h3,h4,h5⟩
 |succ fuel ih=>
  intro lo hi h1 h2 h3 h4 h5;unfold oM;by_cases jQ:lo<hi
  ·rw[aw jQ];simp only;have hm:(lo+hi)/2<xs.size:=by omega
   have hg:xs.getD ((lo+hi)/2) j=xs[(lo+hi)/2]:=by simp[g_,hm]
   rw[hg];by_cases hc:xs[(lo+hi)/2]<j;·rw[aw hc];refine ih _ _ (by omega) (by omega) h3 (fun i hi' h=>?_) h5;have:=mono i ((lo+hi)/2) h hm (by omega);omega
   ·rw[ao hc];refine ih _ _ (by omega) (by omega) (by omega) h4 (fun i hi' h=>?_);have:=mono ((lo+hi)/2) i hm h (by omega);omega
  ·rw[ao jQ];have e:lo=hi:=by omega
   subst e;exact⟨h3,h4,h5⟩
theorem LM(hr:pW xs.toList)(j:Nat):cX xs j<=xs.size/\(∀i,i<cX xs j->∀(h:i<xs.size),xs[i]<j)/\(∀i,cX xs j<=i->∀(h:i<xs.size),j<=xs[i]):=by unfold cX;exact SX xs j hr xs.size 0 xs.size (by omega) (by omega) (aD _) (fun i h=>by omega) (fun i h1 h2=>by omega)
theorem F8(xs:i5 α)(p:Nat)(x:α):(yU xs p x).toList=xs.toList.take p++x::xs.toList.drop p:=by unfold yU;simp;exact uy (by simp)
theorem F9(hr:pW xs.toList)(hj:xs[cX xs j]? ≠some j):pW (yU xs (cX xs j) j).toList:=by
 obtain⟨h1,h2,h3⟩:=LM hr j;rw[F8];unfold pW at*;rw[List.pairwise_append];refine⟨hr.sublist (Ci _ _),?_,?_⟩
 ·rw[qG];refine⟨fun y hy=>?_,hr.sublist (List.drop_sublist _ _)⟩;obtain⟨i,hi,e⟩:=kx.mp hy;rw[List.getElem_drop]at e;have jQ:cX xs j+i<xs.size:=by rw[kH,bK]at hi;omega
  rw[i4]at e;have h4:=h3 _ (Fs _ i) jQ;rw[e]at h4;by_cases q:i=0
  ·subst q;have:xs[cX xs j]? =some y:=by rw[eW (by omega)];simp only[Nat.add_zero]at e;rw[e]
   rw[this]at hj;have:y≠j:=fun z=>hj (by rw[z]);omega
  ·have h5:=rq.mp hr (cX xs j) (cX xs j+i) (by rw[bK];omega) (by rw[bK];omega) (by omega);simp only[i4]at h5;have h6:=h3 (cX xs j) (aD _) (by omega);rw[e]at h5;omega
 ·intro a ha b hb;obtain⟨i,hi,e⟩:=kx.mp ha;rw[List.getElem_take,i4]at e;have hi2:i<cX xs j/\i<xs.size:=by rw[cS,bK]at hi;omega
  have ha2:=h2 i hi2.1 hi2.2;rw[e]at ha2;rcases aF.mp hb with q|q;·omega
  ·obtain⟨k,hk,e2⟩:=kx.mp q;rw[List.getElem_drop,i4]at e2;rw[kH,bK]at hk;have:=h3 (cX xs j+k) (Fs _ _) (by omega);omega
def Ph(L:Bool)(t:tM):Prop:=t.led=L/\(t.plain=true->pW t.place.toList)
theorem Ph.standIn(h:Ph L t)(n:Nat):Ph L (t.standIn n):=⟨h.1,fun q=>by cases q⟩
theorem Ph.orStandIn(h:Ph L t)(n:Nat):Ph L (t.orStandIn n):=by
 unfold SetTable.orStandIn;split;·exact h
 ·exact h.standIn n
theorem G7{t:tM}(h:∀i,t.slot j≠.live i):t.place[cX t.place j]? ≠some j:=by intro q;refine h (cX t.place j) ?_;unfold SetTable.slot;simp only;rw[aw (by rw[q];simp)]
theorem MP(t:tM)(ha:Nat->Int)(h:Int):∀(fuel:Nat)(p:SetTable.Probe)(j:Nat)(d:aY Nat),(∀x,p.dummy=some x->∀i,t.slot x≠.live i)->GF t ha h fuel p=some (.empty j d)->(∀i,t.slot j≠.live i)/\∀x,d=some x->∀i,t.slot x≠.live i:=by
 intro fuel;induction fuel with
 |zero=>intro p j d _ e;cases e
 |succ fuel ih=>
  intro p j d hd e;unfold GF at e;cases hs:t.slot p.j with
  |empty=>rw[hs]at e;simp only[iJ,SetTable.Met.empty.injEq]at e;obtain⟨rfl,rfl⟩:=e;exact⟨fun i=>by rw[hs];simp,hd⟩
  |dummy=>
   rw[hs]at e;simp only at e;refine ih _ j d ?_ e;intro x hx i;have:x=p.j:=by unfold SetTable.advance at hx;split at hx<;>simp at hx<;>exact hx.symm
   subst this;rw[hs];simp
  |live i=>
   rw[hs]at e;simp only at e;split at e;·cases e
   ·refine ih _ j d ?_ e;intro x hx;refine hd x ?_;unfold SetTable.advance at hx;split at hx<;>exact hx
theorem Lj{t:tM}(e:t.freeSlot h=some (j,d)):t.place[cX t.place j]? ≠some j:=by
 unfold SetTable.freeSlot at e;split at e
 ·rename_i j' dd hp;unfold SetTable.probe at hp;obtain⟨h1,h2⟩:=MP t _ h _ _ j' dd (by intro x hx;unfold SetTable.probeStart at hx;simp at hx) hp;simp only[iJ,nS]at e;obtain⟨rfl,_⟩:=e;cases dd with
  |none=>exact G7 h1
  |some x=>exact G7 (h2 x rfl)
 ·cases e
theorem Ph.layNew(h:Ph L t)(es:i5 (Int×aA))(k:Int)(x:aA):Ph L (PySem.layNew t es k x).2.1:=by
 unfold PySem.layNew;split;·rename_i slot d e;simp only;exact Ph.orStandIn (t:=(t.put slot).1) ⟨h.1,fun q=>F9 (h.2 q) (Lj e)⟩ _
 ·exact h.standIn _
theorem K2(owner:Nat->aY Nat):∀(n:Nat),pW (((cP n).filterMap fun j=>(owner j).map (j,·)).map (·.1)):=by
 intro n;have:(((cP n).filterMap fun j=>(owner j).map (j,·)).map (·.1))=(cP n).filter fun j=>(owner j).isSome:=by
  generalize cP n=l;induction l with
  |nil=>rfl
  |cons a l ih=>
   rw[gm,eu];cases owner a with
   |none=>simpa using ih
   |some y=>simpa using ih
 rw[this];exact jL.filter _
theorem Ph.relayAll(h:Ph L t)(es:i5 (Int×aA))(n:Nat):Ph L (qe t es n).2.1:=by
 unfold qe;split
 ·rename_i t' order e;simp only;split;·unfold SetTable.relaid SetTable.laid at e;simp only[Option.bind_eq_bind,Option.bind_eq_some_iff,Option.pure_def,iJ,nS]at e;obtain⟨owner,_,e1,_⟩:=e;subst e1;exact⟨h.1,fun _=>by simpa using K2 (fun j=>owner.getD j none) _⟩
  ·exact h.standIn _
 ·exact h.standIn _
end kP
namespace kP
open PySem PySem.Spec PyProof.Rows
section
variable{prog:bT}{w:cU}{A:gR}{E:aA->aS->Prop}{s:aS}
structure Ent(prog:bT)(w:cU)(L:Bool)(xs:ab Int)(es:i5 (Int×aA))(t:tM):Prop where
 el:ElemsOf (mV prog w) es.toList
 ZN:∃ys,i9 (es.toList.map (·.2)) ys/\ys.Perm xs
 Q5:es.size<scanBound
 fits:t.fits es.size=true
 tok:Ph L t
def nI(prog:bT)(w:cU)(h:Heap)(a:Addr)(L:Bool)(xs:ab Int):Prop:=∃o es ep t,h.get? a=some o/\o.ExactSet/\o.data=.set es ep t/\Ent prog w L xs es t
theorem IntsAre.mem_iff:∀{vs:ab aA}{ys:ab Int},i9 vs ys->∀{k:Int},k∈ys↔∃v∈vs,∃t,v=.int k t
 |_,_,.nil,k=>by simp
 |_,_,.cons n t hr,k=>by
  have ih:=IntsAre.mem_iff hr (k:=k);rw[aF];constructor
  ·rintro(e|e);·exact⟨.int n t,by simp,t,by rw[e]⟩
   ·obtain⟨v,hv,x⟩:=ih.mp e;exact⟨v,by simp[hv],x⟩
  ·rintro⟨v,hv,t',e⟩;rcases aF.mp hv with q|q;·rw[e]at q;cases q;exact .inl rfl
   ·exact .inr (ih.mpr ⟨v,q,t',e⟩)
theorem IntsAre.each:∀{vs:ab aA}{ys:ab Int},i9 vs ys->∀v∈vs,∃n t,v=.int n t
 |_,_,.nil,v,h=>by simp at h
 |_,_,.cons n t hr,v,h=>by
  rcases aF.mp h with e|e;·exact⟨n,t,e⟩
  ·exact IntsAre.each hr v e
theorem IntsAre.len:∀{vs:ab aA}{ys:ab Int},i9 vs ys->vs.length=ys.length
 |_,_,.nil=>rfl
 |_,_,.cons n t hr=>gh (·+1) (IntsAre.len hr)
theorem IntsAre.perm:∀{vs us:ab aA},us.Perm vs->∀{ys:ab Int},i9 vs ys->∃zs,i9 us zs/\zs.Perm ys:=by
 intro vs us p;induction p with
 |nil=>intro ys h;exact⟨ys,h,.refl _⟩
 |cons v p ih=>
  intro ys h;cases h with
  |cons n t hr=>obtain⟨zs,h1,h2⟩:=ih hr;exact⟨n::zs,.cons n t h1,h2.cons n⟩
 |swap u v l=>
  intro ys h;cases h with
  |cons n t hr=>
   cases hr with
   |cons m t' hr=>exact⟨m::n::_,.cons m t' (.cons n t hr),.swap _ _ _⟩
 |trans p q ih1 ih2=>intro ys h;obtain⟨zs,h1,h2⟩:=ih2 h;obtain⟨ws,h3,h4⟩:=ih1 h1;exact⟨ws,h3,h4.trans h2⟩
theorem IntsAre.snoc:∀{vs:ab aA}{ys:ab Int}(k:Int)(t:Tok),i9 vs ys->i9 (vs++[.int k t]) (ys++[k])
 |_,_,k,t,.nil=>.cons k t .nil
 |_,_,k,t,.cons n t' hr=>.cons n t' (IntsAre.snoc k t hr)
theorem Ent.has(h:Ent prog w L xs es t)(k:Int):(∃e∈es.toList,(mV prog w).is k e.2=true)↔k∈xs:=by
 obtain⟨ys,h1,h2⟩:=h.ZN;rw[<-h2.mem_iff,IntsAre.mem_iff h1];constructor;·rintro⟨e,he,hk⟩;obtain⟨⟨k',YT,_⟩,_⟩:=h.el e he;refine⟨e.2,bB.mpr ⟨e,he,rfl⟩,?_⟩;obtain⟨n,t',hv⟩:=IntsAre.each h1 e.2 (bB.mpr ⟨e,he,rfl⟩);rw[hv]at hk;have:=(mV prog w).inj _ k n hk (Fo _ _ _ _);exact⟨t',by rw[this];exact hv⟩
 ·rintro⟨v,hv,t',e⟩;obtain⟨x,hx,rfl⟩:=bB.mp hv;exact⟨x,hx,by rw[e];exact Fo _ _ _ _⟩
theorem nI.put{h:Heap}(ho:h.get? a=some o)(hex:o.ExactSet)(hd:o.data=.set es ep t)(e:Ent prog w L xs Mc t'):(h.update a (Obj.putSet Mc t')).get? a=some {o with data:=.set Mc (ep+1) t'}/\nI prog w (h.update a (Obj.putSet Mc t')) a L xs:=by have hg:=(SetOf_store (knd:=mV prog w) (S':=fun k=>decide (k∈xs)) ho hex hd e.el (fun k=>by rw[au,e.has k]) e.Q5 e.fits).1;exact⟨hg,_,Mc,ep+1,t',hg,hex,rfl,e⟩
theorem O5(b:Bool){s₁:aS}{Q':Unit->aS->Prop}(hq:Q' () s₁):bw (bM prog w) A (match b with|true=>rule "set.scan.the-table-gave-way"|false=>pure ()) Q' E s₁:=by cases b<;>first|exact aL hq|exact wpAny_rule hq
theorem Ent.Zz(h:Ent prog w L xs es t)(n:Nat):Ent prog w L xs (qe t es n).1 (qe t es n).2.1:=by have hp:=relayAll_perm t es n;obtain⟨ys,h1,h2⟩:=h.ZN;obtain⟨zs,h3,h4⟩:=IntsAre.perm (hp.map _) h1;refine⟨h.el.perm hp,⟨zs,h3,h4.trans h2⟩,?_,relayAll_fits t es n,h.tok.relayAll es n⟩;rw[<-bK,hp.length_eq,bK];exact h.Q5
theorem Ent.new(h:Ent prog w L xs es t)(hn:es.size+1<scanBound):Ent prog w L (xs++[k]) (layNew t es ((mV prog w).hash k) (.int k tk)).1 (layNew t es ((mV prog w).hash k) (.int k tk)).2.1:=by have hp:=layNew_perm t es ((mV prog w).hash k) (.int k tk);rw[Array.toList_push]at hp;obtain⟨ys,h1,h2⟩:=h.ZN;obtain⟨zs,h3,h4⟩:=IntsAre.perm (hp.map (·.2)) (ys:=ys++[k]) (by rw[cz];exact IntsAre.snoc k tk h1);refine⟨(h.el.push (Fo _ _ _ _) rfl).perm hp,⟨zs,h3,h4.trans (h2.append_right _)⟩,?_,layNew_fits _ _ _ _,h.tok.layNew _ _ _⟩;rw[<-bK,hp.length_eq,bo,bK];simpa using hn
theorem add_one(hS:nI prog w s.heap a L xs)(aah:xs.length+1<scanBound)
  (h:∀h' b,i8 a s.heap h'->nI prog w h' a L (if k∈xs then xs else xs++[k])->Q b {s with heap:=h'}):
  bw (bM prog w) A (setAddHashed a (.int k tk) ((mV prog w).hash k)) Q E s:=by
 obtain⟨o,es,ep,t,ho,hex,hd,e⟩:=hS
 have hsz:es.size=xs.length:=by
  obtain⟨ys,h1,h2⟩:=e.ZN
  rw[<-h2.length_eq,<-IntsAre.len h1,ae,bK]
 have YI:(iX k tk).scannable=true:=rfl
 have Ga:(mV prog w).is k (iX k tk)=true:=Fo _ _ _ _
 unfold setAddHashed setAddHashedIn
 refine jD (ai (kG ho hd e.fits ?_))
 dsimp only
 rw[byScan_of YI e.Q5 e.el,aw rfl]
 unfold setAddByScan
 refine ai (ai (wpAny_rule (ai (wpAny_setScan_of Ga ho hd e.fits e.el ?_))))
 cases hr:List.findIdx? (fun e=>(mV prog w).is k e.2) es.toList with
 |some j=>
  dsimp only
  obtain⟨hj,hpj,_⟩:=List.findIdx?_eq_some_iff_getElem.mp hr
  have hk:k∈xs:=(e.has k).mp ⟨es.toList[j],ua hj,hpj⟩
  refine aL (aL ?_)
  have Mc:s={s with heap:=s.heap}:=by cases s;rfl
  rw[Mc]
  exact h s.heap false (Heap.SameBut.refl a s.heap) (by rw[aw hk];exact⟨o,es,ep,t,ho,hex,hd,e⟩)
 |none=>
  dsimp only
  have hk:¬k∈xs:=fun q=>by
   obtain⟨x,hx,hp⟩:=(e.has k).mpr q
   have:=List.findIdx?_eq_none_iff.mp hr x hx
   rw[hp]at this
   cases this
  have e1:=e.new (k:=k) (tk:=tk) (by omega)
  generalize layNew t es ((mV prog w).hash k) (iX k tk)=LL at e1⊢
  obtain⟨Qr,t1,J0,ad9⟩:=LL
  dsimp only at e1⊢
  have fin:∀h' b,i8 a s.heap h'->nI prog w h' a L (xs++[k])->Q b {s with heap:=h'}:=fun h' b q1 q2=>h h' b q1 (by rw[ao hk];exact q2)
  have tail:∀(t2:tM),Ent prog w L (xs++[k]) Qr t2->bw (bM prog w) A (do
    storeSet a Qr t2
    if(!J0&&t2.tooFull)=true then do
      (match(qe t2 Qr (o_ Qr.size)).2.2 with|true=>rule "set.scan.the-table-gave-way"|false=>pure ())
      storeSet a (qe t2 Qr (o_ Qr.size)).1 (qe t2 Qr (o_ Qr.size)).2.1
      pure (some true)
     else pure (some true)) (fun r s'=>bw (bM prog w) A (match r with|some added=>pure added|none=>setAddHashedIn a (.int k tk) ((mV prog w).hash k) 99999) Q E s') E s:=by
   intro t2 e2
   refine ai (wpAny_storeSet_of ho hd ?_ (GC e2.Q5))
   obtain⟨UM,hS1⟩:=nI.put ho hex hd e2
   have sb:=dZ s.heap a (Obj.putSet Qr t2)
   split
   ·have e3:=e2.Zz (o_ Qr.size)
    generalize qe t2 Qr (o_ Qr.size)=RR at e3⊢
    obtain⟨es2,t3,adN⟩:=RR
    dsimp only at e3⊢
    refine ai (O5 _ ?_)
    refine ai (wpAny_storeSet_of UM rfl ?_ (GC e3.Q5))
    obtain⟨_,UT⟩:=nI.put UM hex rfl e3
    exact aL (aL (fin _ true (sb.trans (dZ _ a _)) UT))
   ·exact aL (aL (fin _ true sb hS1))
  refine ai (O5 _ ?_)
  split
  ·refine ai ?_
   rw[hashByValue_scannable 8 YI]
   refine aL ?_
   show bw _ _ (do
    storeSet a Qr t1
    if(!J0&&t1.tooFull)=true then _ else _) _ _ _
   trace_state
   exact tail t1 e1
  ·refine ai (aL ?_)
   simp only[↓reduceIte]
   exact tail t1 e1
end
end kP
namespace kP
open PySem PySem.Spec PyProof.Rows
theorem nI.at'(x:nI prog w h a L xs)(e:∀o,h.get? a=some o->h'.get? a=some o):nI prog w h' a L xs:=by obtain⟨o,es,ep,t,ho,r⟩:=x;exact⟨o,es,ep,t,e o ho,r⟩
theorem SK(xs:ab Int)(k:Int):(if k∈xs then xs else xs++[k])=step_dedup xs k:=by
 unfold step_dedup;have:(xs.any (·==k)=true)↔k∈xs:=by simp
 by_cases h:k∈xs;·rw[aw h,aw (this.mpr h)]
 ·rw[ao h,ao fun q=>h (this.mp q)]
section
variable{prog:bT}{w:cU}{A:gR}{R:Result->aS->Prop}{I:Addr}{fp wr:ab Addr}{G:i5 GenState->i5 GenState->Prop}{n:Nat}{P:Nat->aA->Prop}{St:Nat->aS->Prop}
theorem SD(W:WalksS prog w A.in1 I fp wr G n P St)(S:Addr)(L:Bool)(hS:S∉fp)(val:Nat->Int)(Qg:∀i v,P i v->∃t,v=.int (val i) t)(hb:n+1<scanBound):∀(k i:Nat)(s:aS),n-i=k->i<=n->St i s->nI prog w s.heap S L (BM val i)->(∀s',Moved (S::wr) G s s'->nI prog w s'.heap S L (BM val n)->R (.ok (.ret .none)) s')->ur (bM prog w) A (.builtin "set.update.loop" ⟨[.ref S,.ref I],[]⟩) R s:=by
 have hSw:S∉wr:=fun h=>hS (W.sub _ h);intro k;induction k with
 |zero=>
  intro i s hk hi UG x hR;obtain rfl:i=n:=by omega
  refine mW F.entry_set_update_loop ?_;rw[wB vL _];show bw _ A.in1 (nM (.ref I)>>=_) _ _ _;exact ai (W.done s _ _ UG fun s' hm=>aL (hR s' (hm.mono fun b q=>bY _ q) (x.at' fun o e=>hm.heap S o hSw e)))
 |succ k ih=>
  intro i s hk hi UG x hR;have jQ:i<n:=by omega
  refine mW F.entry_set_update_loop ?_;rw[wB vL _];show bw _ A.in1 (nM (.ref I)>>=_) _ _ _;refine ai (W.item i s _ _ jQ UG fun v s1 hP st1 hm=>?_);obtain⟨t,rfl⟩:=Qg i v hP;have x1:nI prog w s1.heap S L (BM val i):=x.at' fun o e=>hm.heap S o hSw e;show bw _ A.in1 (qb [iX (val i) t] (setAdd S (.int (val i) t))>>=_) _ _ _;refine ai (jD ?_);unfold setAdd;refine jD (ai ((mV prog w).pyHash (k:=val i) (Fo _ _ _ _) ?_));refine add_one (s:={s1 with toks:=s1.toks+1}) x1 (by have:=firstMet_length_le val i;omega) fun h' _ sb x2=>?_;rw[SK,<-firstMet_succ]at x2;refine aL ⟨Dr vL _,ih (i+1) _ (by omega) jQ (W.frame _ s1 _ _ st1 (yL _) fun b hb o e=>?_) x2 fun s2 m2 x3=>?_⟩;·rw[sb.2 b fun q:b=S=>hS (q▸hb)];exact e
  ·refine hR s2 (Moved.trans W.gtrans ((hm.mono fun b q=>bY _ q).then_heap (yL _) fun b o hb e=>?_) m2) x3;rw[sb.2 b fun q:b=S=>hb (q▸df)];exact e
end
section
variable{prog:bT}{w:cU}{A:gR}{E:aA->aS->Prop}{s:aS}
abbrev Ii(L:Bool):Obj:={cls:=.type "set",dict:=none,data:=.set #[] 0 (.fresh 0 0 L)}
abbrev kL(w:cU):Bool:=!(w.params.followText "set-order")
theorem T4(a:aA)(h:Q (.ref s.heap.objs.size) {s with heap:=s.heap.push (Ii (kL w))}):ur (bM prog w) A (.call (.builtin "set.__new__") ⟨[.type "set",a],[]⟩) (wants Q E) s:=by refine codeAny_of_tree ?_;show bw _ A.in1 (do checkBuiltinCall "set.__new__" ⟨[.type "set",a],[]⟩;again _) _ _ s;refine ai (wpAny_of_eq (F.newCall_set_1 a) (aL ⟨Dr F.plain_set_new _,mW F.entry_set_new ?_⟩));rw[wB F.plain_set_new _];unfold Builtin.«set.__new__» Builtin.Frozenset.newClass;have UE:=sub_set_self;obtain⟨hp,g,d,tk,os⟩:=s;dsimp only;wp_walk;refine lU (aL ?_);dsimp only;simp only[newObj];exact ai (wpAny_alloc (aL (aL h)))
theorem U0(L:Bool):Ent prog w L [] #[] (.fresh 0 0 L):=⟨fun e he=>by simp at he,⟨[],.nil,.refl _⟩,by decide,rfl,rfl,fun _=>List.Pairwise.nil⟩
end
end kP
namespace kP
open PySem PySem.Spec PyProof.Rows
section
variable{prog:bT}{w:cU}{A:gR}{E:aA->aS->Prop}{s:aS}
set_option maxHeartbeats 3200000 in
theorem Km{l:Addr}{items:i5 aA}{ns:ab Int}{Q:aA->aS->Prop}(hh:A.handled=none)(hl:s.heap.IsList l items)(hi:i9 items.toList ns)(hb:items.size+1<scanBound)
  (h:∀(h':Heap)(tk:Nat),nI prog w h' s.heap.objs.size (kL w) (BM (fun i=>ns.getD i 0) items.size)->(∀b o,s.heap.get? b=some o->h'.get? b=some o)->Q (.ref s.heap.objs.size) {s with heap:=h',toks:=tk}):
  bw (bM prog w) A (se (.type "set") [.ref l]) Q E s:=by
 obtain⟨c,tl,ad4⟩:=lF.mro
 have adK:=lF.made
 have UE:=lF.sub
 refine wpAny_call (codeAny_of_tree ?_)
 show bw _ _ (callAny (.type "set") _) _ _ s
 refine aL ⟨Code.quiet_builtin _ (by decide +kernel),mW F.entry_type_call ?_⟩
 rw[Around.under_plain (weight_type_call_type "set" [.ref l] []) rfl]
 have h1:=lF.notType
 have h2:=lF.canCreate
 have hct:=F.typeCall_set_1 (.ref l)
 repeat (any_goals first|assumption|wp_step)
 refine r_ (T4 (.ref l) (E:=E) (Q:=fun obj s₁=>obj=.ref s.heap.objs.size/\s₁={s with heap:=s.heap.push (Ii (kL w))}) ⟨rfl,rfl⟩) fun r s₁ hr=>?_
 cases r with
 |error e=>exact hr
 |ok fl=>
  cases fl with
  |ret obj=>
   obtain⟨rfl,rfl⟩:=hr
   have hS:(s.heap.push (Ii (kL w))).get? s.heap.objs.size=some (Ii (kL w)):=bu _ rfl
   have hT:Shared.TypeIs {s with heap:=s.heap.push (Ii (kL w))} (.ref s.heap.objs.size) "set":=⟨_,hS,rfl⟩
   have hli:=lF.init.lookup
   have hbi:=lF.init.bind (.ref s.heap.objs.size)
   repeat (any_goals first|assumption|wp_step)
   refine r_ (codeAny_call_builtin (R:=wants (fun r s₂=>r=.none/\∃h' tk,s₂={s with heap:=h',toks:=tk}/\
     nI prog w h' s.heap.objs.size (kL w) (BM (fun i=>ns.getD i 0) items.size)/\(∀b o,s.heap.get? b=some o->h'.get? b=some o)) E) lF.init.plain F.entry_set_init (check_set_init_1 hT ?_)) fun r2 s2 hr2=>?_
   ·obtain⟨ol,Ts,EO,nl,hdl⟩:=hl
    obtain⟨adU,ZM,adF,WC⟩:=ol
    simp only at EO hdl
    subst EO
    subst hdl
    have ab6:(s.heap.push (Ii (kL w))).get? l=some {cls:=.type "list",dict:=ZM,data:=.seq items nl,slots:=WC}:=aK _ Ts
    have adZ:=F.sub_list_set
    have ad0:=F.sub_list_frozenset
    have oR:(lV "list"==lV "dict")=false:=by decide
    have Hl:(s.heap.push (Ii (kL w))).IsList l items:=⟨_,ab6,rfl,nl,rfl⟩
    unfold Builtin.«set.__init__» noKeywords Builtin.Frozenset.updateFrom
    generalize hPI:pyIter=PI
    wp_walk
    subst hPI
    refine Gu Hl (ai (wpAny_runValue ?_))
    have hlS:l<s.heap.objs.size:=bI Ts
    have ace:l≠(s.heap.push (Ii (kL w))).objs.size:=by
     rw[c5];exact cG (jb hlS)
    have XD:s.heap.objs.size∉[(s.heap.push (Ii (kL w))).objs.size,l]:=by
     rw[c5,aF,bU,not_or]
     exact⟨cG (jE _),vM hlS⟩
    refine SD ((Walks.list (by simp[hh]) _ l ace items).toS) s.heap.objs.size (kL w) XD (fun i=>ns.getD i 0) (fun i v hv=>IntsAre.int_at hi i v (by rw[gG];exact hv)) hb (items.size-0) 0 _ (by omega) (cH _)
     ⟨⟨_,bu _ rfl,rfl,rfl⟩,(Hl.push _)⟩ ⟨_,#[],0,_,aK _ hS,⟨rfl,rfl,rfl⟩,rfl,U0 _⟩ fun s' hm x=>?_
    obtain⟨h',g',d',tk',os'⟩:=s'
    have eg:g'=s.gens:=hm.gens
    have ed:d'=s.drawn:=hm.drawn
    have eo:os'=s.os:=hm.os
    subst eg ed eo
    refine aL ?_
    show bw _ _ (ret g9) _ _ _
    refine aL ⟨rfl,h',tk',rfl,x,fun b o e=>?_⟩
    have hb2:=bI e
    refine hm.heap b o ?_ (aK _ (aK _ e))
    rw[c5,aF,bU,not_or]
    exact⟨cG hb2,cG (jb hb2)⟩
   ·cases r2 with
    |error e=>exact hr2
    |ok fl2=>
     cases fl2 with
     |ret r=>
      obtain⟨rfl,h',tk,rfl,XE,YT⟩:=hr2
      repeat (any_goals first|assumption|wp_step)
      exact h _ _ XE YT
     |_=>exact hr2.elim
  |_=>exact hr.elim
end
end kP
namespace kP
open PySem PySem.Spec PyProof.Rows
theorem slot_next:Slot "set_iterator" "__next__" "set_iterator.__next__":=.of (owner:="set_iterator") (n:="__next__") (by rw[typeLookup_type,builtinLookup_eq_fast];kernel_rfl) (by decide +kernel) (by decide +kernel) (by decide +kernel) (by first|exact .inl (by decide +kernel)|exact .inr (by decide +kernel)) (by rw[isSubtype_type];kernel_rfl)
theorem entry_next:entryFor table "set_iterator.__next__"=some Builtin.«set_iterator.__next__»:=entryFor_of_tree (by kernel_rfl)
theorem Kz:Manifest.owners.lookup (String.ofList ['r','o','t','a','r','e','t','i','_','t','e','s'].reverse)=some Manifest.sig_set_iterator:=by kernel_rfl
theorem args_next(a:aA):argsOk "set_iterator.__next__" ⟨[a],[]⟩:=by unfold argsOk;rw[signature?_of (id:="set_iterator.__next__") (n:=['_','_','t','x','e','n','_','_']) (o:=['r','o','t','a','r','e','t','i','_','t','e','s']) (by kernel_rfl) Kz];kernel_rfl
theorem Oz:Slot "set_iterator" "__iter__" "set_iterator.__iter__":=.of (owner:="set_iterator") (n:="__iter__") (by rw[typeLookup_type,builtinLookup_eq_fast];kernel_rfl) (by decide +kernel) (by decide +kernel) (by decide +kernel) (by first|exact .inl (by decide +kernel)|exact .inr (by decide +kernel)) (by rw[isSubtype_type];kernel_rfl)
theorem U_(a:aA):argsOk "set_iterator.__iter__" ⟨[a],[]⟩:=by unfold argsOk;rw[signature?_of (id:="set_iterator.__iter__") (n:=['_','_','r','e','t','i','_','_']) (o:=['r','o','t','a','r','e','t','i','_','t','e','s']) (by kernel_rfl) Kz];kernel_rfl
theorem EW:entryFor table "set.__iter__"=some Builtin.«frozenset.__iter__»:=entryFor_alias (id':="frozenset.__iter__") (by kernel_rfl) rfl (by decide +kernel) (by kernel_rfl)
theorem SH:entryFor table "set_iterator.__iter__"=some Builtin.«dict_keyiterator.__iter__»:=entryFor_alias (id':="dict_keyiterator.__iter__") (by kernel_rfl) rfl (by decide +kernel) (by kernel_rfl)
def vE(h:Heap)(I:Addr)(first:aA)(i:Int)(a:Addr)(n ep:Nat):Prop:=∃o,h.get? I=some o/\o.cls=.type "set_iterator"/\o.data=.fields #[first,.int i 0,.ref a,.int (n:Int) 0,.int (ep:Int) 0]
theorem vE.typeIs{s:aS}(x:vE s.heap I first i a n ep):s.TypeIs (.ref I) "set_iterator":=let⟨o,ho,hc,_⟩:=x;⟨o,ho,hc⟩
def qE(h:Heap)(a:Addr)(es:i5 (Int×aA))(ep:Nat)(t:tM):Prop:=∃o,h.get? a=some o/\o.data=.set es ep t/\t.fits es.size=true
section
variable{prog:bT}{w:cU}{A:gR}{E:aA->aS->Prop}{s:aS}{I a:Addr}{i n ep:Nat}{es:i5 (Int×aA)}{t:tM}
def Nx(prog:bT)(w:cU)(A:gR)(s:aS)(a:Addr)(slot i ep:Nat)(r:aY (aA×Nat)):Prop:=∀(Q:aY (aA×Nat)->aS->Prop)(E:aA->aS->Prop),Q r s->bw (bM prog w) A (setNext a slot i ep) Q E s
theorem Hf{slot j:Nat}(hit:vE s.heap I (.int (slot:Int) 0) i a n ep)(hs:qE s.heap a es ep t)(hz:es.size=n)(nx:Nx prog w A.in1 s a slot i ep (some (x,j)))(hQ:∀h',vE h' I (.int (j:Int) 0) ((i:Int)+1) a n ep->i8 I s.heap h'->Q (some x) {s with heap:=h'}):bw (bM prog w) A (nM (.ref I)) Q E s:=by
 obtain⟨o,ho,hc,hd⟩:=id hit;obtain⟨oa,Q2,Q4,hf⟩:=hs;unfold nM;refine ai (qa (iy (name:=qf "__next__") hit.typeIs slot_next (fg slot_next hit.typeIs entry_next ?_ (args_next _))));unfold Builtin.«set_iterator.__next__»;refine ai (aL ?_);refine ai (tJ ho hd ?_);show bw _ _ (setEntries a>>=_) _ _ s;refine ai (rp Q2 Q4 hf ?_);rw[ao (by rw[hz];simp)];show bw _ _ (setNext a slot i ep>>=_) _ _ s;refine ai (nx _ _ ?_);show bw _ _ (tK (.ref I) 0 (gF (j:Int))>>=_) _ _ s;refine ai (jO ho hd (by simp) ?_);have UM:=fB (oU (·.setIfInBounds 0 (gF (j:Int)))) ho (ka (eO hd _));have Xw:=eO hd (·.setIfInBounds 0 (gF (j:Int)));show bw _ _ (tK (.ref I) 1 (gF ((i:Int)+1))>>=_) _ _ _;refine ai (jO UM Xw (by simp) ?_);have ho2:=fB (oU (·.setIfInBounds 1 (gF ((i:Int)+1)))) UM (ka (eO Xw _));have hd2:=eO Xw (·.setIfInBounds 1 (gF ((i:Int)+1)));refine aL ⟨_,rfl,aL (hQ _ ⟨_,ho2,?_,?_⟩ ((dZ ..).trans (dZ ..)))⟩;·exact(sk ..).trans ((sk ..).trans hc)
 ·rw[hd2];simp[gF]
theorem Hg{slot:Nat}(hh:A.handled=none)(hit:vE s.heap I (.int (slot:Int) 0) i a n ep)(hs:qE s.heap a es ep t)(hz:es.size=n)(nx:Nx prog w A.in1 s a slot i ep none)(hQ:∀h',Heap.ExtBut I s.heap h'->Q none {s with heap:=h'}):bw (bM prog w) A (nM (.ref I)) Q E s:=by obtain⟨o,ho,hc,hd⟩:=id hit;obtain⟨oa,Q2,Q4,hf⟩:=hs;unfold nM;refine ai (qa (iy (name:=qf "__next__") hit.typeIs slot_next (fg slot_next hit.typeIs entry_next ?_ (args_next _))));unfold Builtin.«set_iterator.__next__»;refine ai (aL ?_);refine ai (tJ ho hd ?_);show bw _ _ (setEntries a>>=_) _ _ s;refine ai (rp Q2 Q4 hf ?_);rw[ao (by rw[hz];simp)];show bw _ _ (setNext a slot i ep>>=_) _ _ s;refine ai (nx _ _ ?_);show bw _ _ (tK (.ref I) 2 g9>>=_) _ _ s;refine ai (jO ho hd (by simp) ?_);show bw _ _ (newExc (.type "StopIteration") []>>=_) _ _ _;refine ai ?_;simp only[newExc,newTuple];refine ai (gE ?_ (by size_fits));refine ai (m:=oI _ _) (wpAny_of_eq (a:=g9) (by first|rfl|(simp only[oI];rfl)) (gE ?_ (by size_fits)));simp only[raiseNew];refine ai (wpAny_handled ?_);rw[show A.in1.handled=none from hh];refine ai (aL (wpAny_throw ?_));refine ai (wX (T:="StopIteration") (b:=true) ⟨_,bu _ rfl,rfl⟩ isSubtype_stop (aL ?_));exact(hQ _ (((dZ ..).extBut.push _).push _))
theorem KL{slot:Nat}{r:aY (aA×Nat)}(hs:qE s.heap a es ep t)(hb:w.params.followText "set-order"=false)(hp:t.plain=true\/es.size<=1)(hl:t.led=true)
  (hr:(match es[cX t.place slot]?,t.place[cX t.place slot]? with|some (_,x),some j=>some (x,j+1)|_,_=>none)=r):Nx prog w A s a slot i ep r:=by
 obtain⟨oa,Q2,Q4,hf⟩:=hs;have hdr:(!t.plain&&decide (es.size>1))=false:=by
  rcases hp with q|q;·rw[q];rfl
  ·rw[dH (by omega),HN]
 intro Q E q;unfold setNext;refine ai (kG Q2 Q4 hf ?_);unfold setsByText;refine ai (ai (lU (aL ?_)));rw[ao (by show¬(w.params.followText "set-order"=true);rw[hb];exact af)];show bw _ _ (if(!t.plain&&decide (es.size>1))=true then _ else _) _ _ s;rw[hdr,ao af];show bw _ _ ((if(!t.led&&!es.isEmpty)=true then _ else _)>>=_) _ _ s;rw[hl,ao (by simp)];refine ai (aL ?_);refine aL ?_;rw[<-hr]at q;exact q
theorem OL(hs:qE s.heap a es ep t)(hb:w.params.followText "set-order"=true):Nx prog w A s a slot i ep (((wZ (w.params.setOrder a ep) es)[i]?).map fun e=>(e.2,slot)):=by obtain⟨oa,Q2,Q4,hf⟩:=hs;intro Q E q;unfold setNext;refine ai (kG Q2 Q4 hf ?_);unfold setsByText;refine ai (ai (lU (aL ?_)));rw[aw (by show w.params.followText "set-order"=true;exact hb)];rw[ao (by simp)];refine ai ?_;unfold setWalk setsByText;refine ai (kG Q2 Q4 hf ?_);refine ai (ai (lU (aL ?_)));rw[aw (by show w.params.followText "set-order"=true;exact hb)];refine ai (lU (aL ?_));exact aL q
end
end kP
namespace kP
open PySem PySem.Spec PyProof.Rows
theorem yt{α:Type}:∀{l:ab α}{k:Nat}(h:k<l.length),(l[k]::l.eraseIdx k).Perm l
 |a::l,0,_=>.refl _
 |a::l,k+1,h=>by
  have hk:k<l.length:=by simpa using h
  have ih:=yt hk;show(l[k]::a::l.eraseIdx k).Perm (a::l);exact(List.Perm.swap _ _ _).trans (ih.cons a)
section
variable{prog:bT}{w:cU}{A:gR}{E:aA->aS->Prop}{s:aS}
theorem QB(hn:n≠0)(h:∀k d,k<n->Q k {s with drawn:=d}):bw (bM prog w) A (choose src n) Q E s:=fun _ _ _=>⟨hn,h _ _ (BN _ (Nat.pos_of_ne_zero hn))⟩
theorem O_:∀(n:Nat)(xs:ab α){s:aS}{Q:ab α->aS->Prop},xs.length=n->(∀ys d,ys.Perm xs->Q ys {s with drawn:=d})->bw (bM prog w) A (drawOrder n xs) Q E s
 |0,xs,s,Q,hl,h=>by have:xs=[]:=ju.mp hl;subst this;exact aL (h [] s.drawn (.refl _))
 |n+1,[],s,Q,hl,h=>by simp at hl
 |n+1,x::xs,s,Q,hl,h=>by unfold drawOrder;refine ai (QB (by simp) fun k d hk=>?_);obtain⟨y,hy⟩:∃y,(x::xs)[k]? =some y:=⟨_,aO hk⟩;rw[hy];refine ai (O_ n _ (by rw[HM hk,hl];rfl) fun ys d' hp=>aL (h (y::ys) d' ?_));have e:(x::xs)[k]=y:=bE ((aO hk).symm.trans hy);have:=yt hk;rw[e]at this;exact(hp.cons y).trans this
end
theorem OH(next:Nat->Nat):∀(fuel k:Nat)(left:ab α)(out:i5 α),left.length=fuel->((Gx next fuel k left out).toList).Perm (out.toList++left)
 |0,k,left,out,hl=>by have:left=[]:=ju.mp hl;subst this;unfold Gx;simp
 |fuel+1,k,left,out,hl=>by
  unfold Gx;have hk:next k%left.length<left.length:=BN _ (by omega)
  obtain⟨y,hy⟩:∃y,left[next k%left.length]? =some y:=⟨_,aO hk⟩;rw[hy];simp only;have ih:=OH next fuel (k+1) (left.eraseIdx (next k%left.length)) (out.push y) (by rw[HM hk,hl];rfl)
  have e:left[next k%left.length]=y:=bE ((aO hk).symm.trans hy);have hp:=yt hk;rw[e]at hp;refine ih.trans ?_;rw[Array.toList_push,gk];exact hp.append_left _
theorem AX(next:Nat->Nat)(xs:i5 α):(wZ next xs).toList.Perm xs.toList:=by unfold wZ;simpa using OH next xs.size 0 xs.toList #[] (by simp)
def slotAt(pl:i5 Nat)(i:Nat):Nat:=if i=0 then 0 else pl.getD (i-1) 0+1
theorem E9(hr:pW pl.toList)(hi:i<=pl.size):cX pl (slotAt pl i)=i:=by
 obtain⟨h1,h2,h3⟩:=LM hr (slotAt pl i);unfold slotAt at*;by_cases h0:i=0;·subst h0;simp only[uk]at*;apply dY;intro q;have:=h2 0 (Nat.pos_of_ne_zero q) (by omega);omega
 ·simp only[ao h0]at*;have hg:pl.getD (i-1) 0=pl[i-1]:=by simp[g_,show i-1<pl.size by omega]
  rw[hg]at h1 h2 h3⊢;apply dY;intro q;by_cases jQ:cX pl (pl[i-1]+1)<i;·have:=h3 (i-1) (by omega) (by omega);omega
  ·have aci:i<pl.size:=by omega
   have h4:=h2 i (by omega) aci;have h5:=rq.mp hr (i-1) i (by rw[bK];omega) (by rw[bK];omega) (by omega);simp only[i4]at h5;omega
section
variable{prog:bT}{w:cU}{A:gR}{E:aA->aS->Prop}{s:aS}{I a:Addr}{i n ep:Nat}{es:i5 (Int×aA)}{t:tM}
theorem vE.at'{i:Int}(x:vE h I first i a n ep)(e:∀o,h.get? I=some o->h'.get? I=some o):vE h' I first i a n ep:=let⟨o,ho,r⟩:=x;⟨o,e _ ho,r⟩
theorem qE.at'(x:qE h a es ep t)(e:∀o,h.get? a=some o->h'.get? a=some o):qE h' a es ep t:=let⟨o,ho,r⟩:=x;⟨o,e _ ho,r⟩
theorem Bp{i:Int}(hit:vE s.heap I first i a n ep)(h:Q (.ref I) s):bw (bM prog w) A (pyIter (.ref I)) Q E s:=by refine uo hit.typeIs Oz (fg Oz hit.typeIs SH ?_ (U_ _));show bw _ _ (ret (.ref I)) _ _ s;exact aL ⟨_,rfl,"set_iterator",_,hit.typeIs,slot_next.lookup,h⟩
theorem sL(sb:i8 I h h')(oR:a≠I)(o:Obj)(e:h.get? a=some o):h'.get? a=some o:=by rw[sb.2 a oR];exact e
theorem Mj(hh:A.handled=none)(oR:a≠I)(hb:w.params.followText "set-order"=false)(hp:t.plain=true\/es.size<=1)(hl:t.led=true)(hr:pW t.place.toList)(Qj:t.place.size=es.size):
  Walks prog w A I [I,a] [I] es.size (fun i v=>∃h,es[i]? =some (h,v)) (fun i h=>vE h I (.int (slotAt t.place i:Nat) 0) i a es.size ep/\qE h a es ep t)where
 sub:=fun b hb=>by simp at hb;simp[hb]
 frame:=fun _ _ _ st hk=>⟨st.1.at' fun o e=>hk I (by simp) o e,st.2.at' fun o e=>hk a (by simp) o e⟩
 item:=fun i s Q E hi st hQ=>by
  obtain⟨⟨hv,x⟩,hx⟩:∃p,es[i]? =some p:=⟨es[i],by simp[hi]⟩;have hj:t.place[i]? =some (t.place[i]'(by omega)):=eW _;have YV:=E9 hr (i:=i) (by omega);refine Hf (j:=t.place[i]'(by omega)+1) st.1 st.2 rfl (KL st.2 hb hp hl (by rw[YV,hx,hj])) fun h' it sb=>hQ x h' s.toks ⟨hv,hx⟩ ⟨?_,st.2.at' (sL sb oR)⟩ fun b o hb e=>sL sb (by simpa using hb) o e;have:slotAt t.place (i+1)=t.place[i]'(by omega)+1:=by unfold slotAt;simp[g_,show i<t.place.size by omega]
  rw[this];exact it
 done:=fun s Q E st hQ=>by have YV:=E9 hr (i:=es.size) (by omega);exact Hg hh st.1 st.2 rfl (KL st.2 hb hp hl (by rw[YV];simp)) fun h' he=>hQ h' s.toks fun b o hb e=>he b o (by simpa using hb) e
 self:=fun _ _ _ _ st hQ=>Bp st.1 hQ
theorem Po(hh:A.handled=none)(oR:a≠I)(hb:w.params.followText "set-order"=true):
  Walks prog w A I [I,a] [I] es.size (fun i v=>∃h,(wZ (w.params.setOrder a ep) es)[i]? =some (h,v)) (fun i h=>vE h I (.int (0:Nat) 0) i a es.size ep/\qE h a es ep t)where
 sub:=fun b hb=>by simp at hb;simp[hb]
 frame:=fun _ _ _ st hk=>⟨st.1.at' fun o e=>hk I (by simp) o e,st.2.at' fun o e=>hk a (by simp) o e⟩
 item:=fun i s Q E hi st hQ=>by
  have hz:(wZ (w.params.setOrder a ep) es).size=es.size:=by have:=(AX (w.params.setOrder a ep) es).length_eq;simpa using this
  obtain⟨⟨hv,x⟩,hx⟩:∃p,(wZ (w.params.setOrder a ep) es)[i]? =some p:=⟨_,eW (by omega)⟩;exact Hf (j:=0) st.1 st.2 rfl (by have:=OL (prog:=prog) (A:=A.in1) (slot:=0) (i:=i) st.2 hb;rw[hx]at this;exact this) fun h' it sb=>hQ x h' s.toks ⟨hv,hx⟩ ⟨it,st.2.at' (sL sb oR)⟩ fun b o hb e=>sL sb (by simpa using hb) o e
 done:=fun s Q E st hQ=>by
  have hz:(wZ (w.params.setOrder a ep) es).size=es.size:=by have:=(AX (w.params.setOrder a ep) es).length_eq;simpa using this
  exact Hg hh st.1 st.2 rfl (by have:=OL (prog:=prog) (A:=A.in1) (slot:=0) (i:=es.size) st.2 hb;rw[ui (by omega)]at this;exact this) fun h' he=>hQ h' s.toks fun b o hb e=>he b o (by simpa using hb) e
 self:=fun _ _ _ _ st hQ=>Bp st.1 hQ
def yA(h:Heap)(T:Addr)(pl:ab Nat):Prop:=∃o,h.get? T=some o/\∃m,o.data=.seq (pl.map fun(k:Nat)=>gF k).toArray m
theorem yA.at'(x:yA h T pl)(e:∀o,h.get? T=some o->h'.get? T=some o):yA h' T pl:=let⟨o,ho,r⟩:=x;⟨o,e _ ho,r⟩
theorem EN{T:Addr}{pl:ab Nat}{R:PySem.Fin->aS->Prop}{Ex:aA->aS->Prop}(hit:vE s.heap I (.ref T) i a n ep)(hs:qE s.heap a es ep t)(hz:es.size=n)(hT:yA s.heap T pl)
  (h:bw (bM prog w) A (match(pl.map fun(k:Nat)=>gF k).toArray[i]? with
    |some (.int place _)=>do
     let x<-setNextDrawn a place.toNat ep
     tK (.ref I) 1 (gF ((i:Int)+1))
     ret x
    |some _=>unsupported "internal:set_iterator"
    |none=>do tK (.ref I) 0 (gF 0);tK (.ref I) 2 .none;raiseNew (<-newExc (.type "StopIteration") [])) R Ex s):
  bw (bM prog w) A (Builtin.«set_iterator.__next__» ⟨[.ref I],[]⟩) R Ex s:=by
 obtain⟨o,ho,hc,hd⟩:=id hit
 obtain⟨oa,Q2,Q4,hf⟩:=hs
 obtain⟨oT,hoT,m,hdT⟩:=hT
 unfold Builtin.«set_iterator.__next__»
 refine ai (aL ?_)
 refine ai (tJ ho hd ?_)
 show bw _ _ (setEntries a>>=_) _ _ s
 refine ai (rp Q2 Q4 hf ?_)
 rw[ao (by rw[hz];simp)]
 show bw _ _ (seqItems? (.ref T)>>=_) _ _ s
 unfold seqItems?
 refine ai (ai (wpAny_load hoT ?_))
 rw[hdT]
 refine aL ?_
 exact h
theorem M6(hit:vE s.heap I (.ref T) i a n ep)(hs:qE s.heap a es ep t)(hz:es.size=n)(hT:yA s.heap T pl)(hp:pl[i]? =some p)(hx:es[p]? =some (hv,x))(hQ:∀h',vE h' I (.ref T) ((i:Int)+1) a n ep->i8 I s.heap h'->Q (some x) {s with heap:=h'}):bw (bM prog w) A (nM (.ref I)) Q E s:=by
 obtain⟨o,ho,hc,hd⟩:=id hit;obtain⟨oa,Q2,Q4,hf⟩:=id hs;unfold nM;refine ai (qa (iy (name:=qf "__next__") hit.typeIs slot_next (fg slot_next hit.typeIs entry_next (EN hit hs hz hT ?_) (args_next _))));have e:(pl.map fun(k:Nat)=>gF k).toArray[i]? =some (.int (p:Int) 0):=by simp[hp,gF]
 rw[e];show bw _ _ (setNextDrawn a p ep>>=_) _ _ s;unfold setNextDrawn;refine ai (ai (kG Q2 Q4 hf ?_));dsimp only;rw[ao (by simp),hx];refine aL ?_;refine ai (jO ho hd (by simp) ?_);have UM:=fB (oU (·.setIfInBounds 1 (gF ((i:Int)+1)))) ho (ka (eO hd _));have Xw:=eO hd (·.setIfInBounds 1 (gF ((i:Int)+1)));refine aL ⟨_,rfl,aL (hQ _ ⟨_,UM,(sk ..).trans hc,?_⟩ (dZ ..))⟩;rw[Xw];simp[gF]
theorem Qs(hh:A.handled=none)(hit:vE s.heap I (.ref T) i a n ep)(hs:qE s.heap a es ep t)(hz:es.size=n)(hT:yA s.heap T pl)(hp:pl[i]? =none)(hQ:∀h',Heap.ExtBut I s.heap h'->Q none {s with heap:=h'}):bw (bM prog w) A (nM (.ref I)) Q E s:=by
 obtain⟨o,ho,hc,hd⟩:=id hit;unfold nM;refine ai (qa (iy (name:=qf "__next__") hit.typeIs slot_next (fg slot_next hit.typeIs entry_next (EN hit hs hz hT ?_) (args_next _))));have e:(pl.map fun(k:Nat)=>gF k).toArray[i]? =none:=by simpa using hp
 rw[e];show bw _ _ (tK (.ref I) 0 (gF 0)>>=_) _ _ s;refine ai (jO ho hd (by simp) ?_);have UM:=fB (oU (·.setIfInBounds 0 (gF 0))) ho (ka (eO hd _));have Xw:=eO hd (·.setIfInBounds 0 (gF 0));refine ai (jO UM Xw (by simp) ?_);show bw _ _ (newExc (.type "StopIteration") []>>=_) _ _ _;refine ai ?_;simp only[newExc,newTuple];refine ai (gE ?_ (by size_fits));refine ai (m:=oI _ _) (wpAny_of_eq (a:=g9) (by first|rfl|(simp only[oI];rfl)) (gE ?_ (by size_fits)));simp only[raiseNew];refine ai (wpAny_handled ?_);rw[show A.in1.handled=none from hh];refine ai (aL (wpAny_throw ?_));refine ai (wX (T:="StopIteration") (b:=true) ⟨_,bu _ rfl,rfl⟩ isSubtype_stop (aL ?_));exact hQ _ ((((dZ ..).trans (dZ ..)).extBut.push _).push _)
theorem Ml(hh:A.handled=none)(oR:a≠I)(hTI:T≠I)(hl:pl.length=es.size)(hp:∀k∈pl,k<es.size):
  Walks prog w A I [I,a,T] [I] es.size (fun i v=>∃p h,pl[i]? =some p/\es[p]? =some (h,v)) (fun i h=>vE h I (.ref T) i a es.size ep/\qE h a es ep t/\yA h T pl)where
 sub:=fun b hb=>by simp at hb;simp[hb]
 frame:=fun _ _ _ st hk=>⟨st.1.at' fun o e=>hk I (by simp) o e,st.2.1.at' fun o e=>hk a (by simp) o e,st.2.2.at' fun o e=>hk T (by simp) o e⟩
 item:=fun i s Q E hi st hQ=>by
  obtain⟨p,F_⟩:∃p,pl[i]? =some p:=⟨_,aO (by omega)⟩
  have pP:=hp p (aH F_)
  obtain⟨⟨hv,x⟩,hx⟩:∃q,es[p]? =some q:=⟨_,eW pP⟩
  exact M6 st.1 st.2.1 rfl st.2.2 F_ hx fun h' it sb=>hQ x h' s.toks ⟨p,hv,F_,hx⟩ ⟨it,st.2.1.at' (sL sb oR),st.2.2.at' (sL sb hTI)⟩ fun b o hb e=>sL sb (by simpa using hb) o e
 done:=fun s Q E st hQ=>Qs hh st.1 st.2.1 rfl st.2.2 (dI (by omega)) fun h' he=>hQ h' s.toks fun b o hb e=>he b o (by simpa using hb) e
 self:=fun _ _ _ _ st hQ=>Bp st.1 hQ
end
end kP
namespace kP
open PySem PySem.Spec PyProof.Rows
section
variable{prog:bT}{w:cU}{A:gR}{E:aA->aS->Prop}{s:aS}{a:Addr}{xs:ab Int}
theorem nI.typeIs(x:nI prog w s.heap a L xs):s.TypeIs (.ref a) "set":=by obtain⟨o,es,ep,t,ho,hex,_⟩:=x;exact⟨o,ho,hex.1⟩
theorem Sh(hT:s.TypeIs (.ref a) "set")(h:Q false s):bw (bM prog w) A (Ai (.ref a)) Q E s:=by unfold Ai;refine ai (wpAny_specialOf hT PySem.F.slot_set_len.lookup ?_);generalize Tu:("set.__len__":BJ)=id0;wp_delta;rw[show splitId id0=some ("set","__len__")from by subst Tu;decide +kernel];subst Tu;refine ai (wX (T:="set") (b:=true) hT (by rw[isSubtype_type];kernel_rfl) ?_);refine wpAny_ite_split (fun YW=>bF YW (by decide)) (fun _=>wpAny_ite_split (fun _=>?_) (fun YW=>bF (by decide +kernel) YW));exact ai (wpAny_typeOf hT (aL h))
def S4(prog:bT)(w:cU)(A:gR)(s1:aS)(I:Addr)(xs:ab Int)(h0:Heap):Prop:=∃(fp:ab Addr)(n:Nat)(P:Nat->aA->Prop)(St:Nat->Heap->Prop),Walks prog w A I fp [I] n P St/\St 0 s1.heap/\n<=sizeLine/\(∀b∈fp,h0.objs.size<=b\/b=a)/\∀acc:i5 aA,ItemsOf P acc n->∃ys,i9 acc.toList ys/\ys.Perm xs
theorem yl{es vs:ab (Int×aA)}{acc:i5 aA}{ys:ab Int}(hp:vs.Perm es)(h:i9 (es.map (·.2)) ys)(hl:acc.size=vs.length)(ha:∀(j:Nat)(v:aA),acc[j]? =some v->∃h:Int,vs[j]? =some (h,v)):∃zs,i9 acc.toList zs/\zs.Perm ys:=by
 have e:acc.toList=vs.map (·.2):=by
  apply m8;intro i;by_cases hi:i<acc.size;·have h1:acc[i]? =some acc[i]:=eW hi;obtain⟨q,hq⟩:=ha i _ h1;rw[gG,h1,bp,hq];rfl
  ·rw[gG,ui (by omega),dI (by rw[ae];omega)]
 rw[e];exact IntsAre.perm (hp.map _) h
theorem R5(hh:A.handled=none)(x:nI prog w s.heap a (kL w) xs)(h:∀(h':Heap)(d:Drawn)(I:Addr),(∀b o,s.heap.get? b=some o->h'.get? b=some o)->s.heap.objs.size<=I->S4 (a:=a) prog w A.in1 {s with heap:=h',drawn:=d} I xs s.heap->Q (.ref I) {s with heap:=h',drawn:=d}):bw (bM prog w) A.in1 (pyIter (.ref a)) Q E s:=by
 obtain⟨o,es,ep,t,ho,hex,hd,e⟩:=id x;obtain⟨ys,hI,hp⟩:=e.ZN;have jQ:=bI ho;have hsz:es.size<=sizeLine:=GC e.Q5;have Qj:t.place.size=es.size:=by have:=e.fits;simp only[SetTable.fits,bN,dU]at this;exact this.1
 refine uo x.typeIs PySem.F.slot_set_iter (fg PySem.F.slot_set_iter x.typeIs EW ?_ (PySem.F.args_set_iter_1 _));unfold Builtin.«frozenset.__iter__» Builtin.Frozenset.slot0;refine ai (aL ?_);unfold Builtin.Frozenset.sizeOf;refine ai (ai (rp ho hd e.fits (aL ?_)));have fin:∀(h1:Heap)(d:Drawn)(first:aA),(∀b o,s.heap.get? b=some o->h1.get? b=some o)->s.heap.objs.size<=h1.objs.size->(∀hI:vE (h1.push {cls:=.type "set_iterator",data:=.fields #[first,.int 0 0,.ref a,.int (es.size:Int) 0,.int (ep:Int) 0]}) h1.objs.size first (0:Nat) a es.size ep,S4 (a:=a) prog w A.in1 {s with heap:=h1.push {cls:=.type "set_iterator",data:=.fields #[first,.int 0 0,.ref a,.int (es.size:Int) 0,.int (ep:Int) 0]},drawn:=d} h1.objs.size xs s.heap)->bw (bM prog w) A.in1.in1 (do ret (<-newFields "set_iterator" [first,gF 0,.ref a,gF es.size,gF (<-setEpoch a)])) (fun fin s'=>∃v,fin=Fin.done (Flow.ret v)/\∃T' r,s'.TypeIs v T'/\typeLookup (.type T') "__next__"=pure (some r)/\Q v s') E {s with heap:=h1,drawn:=d}:=by
  intro h1 d first hk hs hW
  refine ai (wpAny_setEpoch_of (s:={s with heap:=h1,drawn:=d}) (hk _ _ ho) hd e.fits ?_);refine ai (gE (aL ⟨_,rfl,"set_iterator",_,⟨_,bu _ rfl,rfl⟩,slot_next.lookup,?_⟩));exact h _ d _ (fun b o q=>aK _ (hk b o q)) hs (hW ⟨_,bu _ rfl,rfl,rfl⟩)
 have sd:∀(Q:Bool->aS->Prop)(E:aA->aS->Prop),Q (!(w.params.followText "set-order")&&(!t.plain&&decide (es.size>1))) s->bw (bM prog w) A.in1.in1 (setDrawn a) Q E s:=by intro Q E q;unfold setDrawn setsByText;exact ai (kG ho hd e.fits (ai (ai (lU (aL (aL q))))))
 refine ai (sd _ _ ?_);have Wn:∀h':Heap,(∀b o,s.heap.get? b=some o->h'.get? b=some o)->qE h' a es ep t:=fun h' hk=>⟨o,hk _ _ ho,hd,e.fits⟩;have hle:s.heap.objs.size<=s.heap.objs.size:=aD _;cases hb:w.params.followText "set-order" with
 |true=>
  rw[ao (by simp)];refine fin s.heap s.drawn (.int (0:Nat) 0) (fun b o q=>q) hle fun it=>?_;refine⟨[s.heap.objs.size,a],es.size,_,_,Po (es:=es) (ep:=ep) (t:=t) hh (cG jQ) hb,⟨it,Wn _ fun b o q=>aK _ q⟩,hsz,fun b hb=>?_,fun acc ha=>?_⟩
  ·simp at hb;rcases hb with rfl|rfl;·exact .inl (aD _)
   ·exact .inr rfl
  ·have hpp:=AX (w.params.setOrder a ep) es;obtain⟨zs,h1,h2⟩:=yl hpp hI (by rw[hpp.length_eq,bK];exact ha.1) fun j v q=>by obtain⟨hv,q'⟩:=ha.2 j v q;exact⟨hv,by rw[gG];exact q'⟩
   exact⟨zs,h1,h2.trans hp⟩
 |false=>
  cases hdr:(!t.plain&&decide (es.size>1))with
  |false=>
   rw[ao (by simp)];have hp1:t.plain=true\/es.size<=1:=by
    cases pP:t.plain with
    |true=>exact .inl rfl
    |false=>rw[pP]at hdr;simp at hdr;exact .inr hdr
   have aco:t.led=true:=by have:=e.tok.1;unfold kL at this;rw[hb]at this;exact this
   have hr:pW t.place.toList:=by
    rcases hp1 with q|q;·exact e.tok.2 q
    ·unfold pW;match hl:t.place.toList with
     |[]=>exact .nil
     |[y]=>simp
     |y::z::l=>have:=gh sg hl;simp at this;omega
   refine fin s.heap s.drawn (.int (0:Nat) 0) (fun b o q=>q) hle fun it=>?_;refine⟨[s.heap.objs.size,a],es.size,_,_,Mj (es:=es) (ep:=ep) (t:=t) hh (cG jQ) hb hp1 aco hr Qj,⟨it,Wn _ fun b o q=>aK _ q⟩,hsz,fun b hb=>?_,fun acc ha=>?_⟩
   ·simp at hb;rcases hb with rfl|rfl;·exact .inl (aD _)
    ·exact .inr rfl
   ·obtain⟨zs,h1,h2⟩:=yl (.refl es.toList) hI (by rw[bK];exact ha.1) fun j v q=>by obtain⟨hv,q'⟩:=ha.2 j v q;exact⟨hv,by rw[gG];exact q'⟩
    exact⟨zs,h1,h2.trans hp⟩
  |true=>
   rw[aw (by simp)];refine ai (O_ es.size (cP es.size) (by simp) fun pl d EJ=>?_);have pP:pl.length=es.size:=by rw[EJ.length_eq,fk]
   refine ai (wpAny_newTuple ?_ (by rw[ae,pP];exact hsz));refine fin (s.heap.push {cls:=.type "tuple",data:=.seq (pl.map fun(k:Nat)=>gF k).toArray}) d (.ref s.heap.objs.size) (fun b o q=>aK _ q) (by rw[c5];exact yL _) fun it=>?_;have hI1:s.heap.objs.size<(s.heap.push {cls:=.type "tuple",data:=.seq (pl.map fun(k:Nat)=>gF k).toArray}).objs.size:=by rw[c5];exact jE _
   refine⟨[_,a,s.heap.objs.size],es.size,_,_,Ml (es:=es) (ep:=ep) (t:=t) (pl:=pl) hh (cG (Nat.lt_trans jQ hI1)) (cG hI1) pP (fun k hk=>dr.mp (EJ.mem_iff.mp hk)),⟨it,Wn _ fun b o q=>aK _ (aK _ q),⟨_,aK _ (bu _ rfl),0,rfl⟩⟩,hsz,fun b hb=>?_,fun acc ha=>?_⟩
   ·simp at hb;rcases hb with rfl|rfl|rfl;·exact .inl (by first|exact yL _|exact vN hI1)
    ·exact .inr rfl
    ·exact .inl (aD _)
   ·have hv2:((cP es.size).filterMap fun k=>es[k]?)=es.toList:=PySem.filterMap_getElem?_range es;have hpp:(pl.filterMap fun k=>es[k]?).Perm es.toList:=by rw[<-hv2];exact EJ.filterMap _
    have acs:∀(l:ab Nat),(∀k∈l,k<es.size)->∀j:Nat,(l.filterMap fun k=>es[k]?)[j]? =(l[j]?).bind fun k=>es[k]? :=by
     intro l;induction l with
     |nil=>intro _ j;simp
     |cons y l ih=>
      intro hl j;obtain⟨q,hy⟩:∃q,es[y]? =some q:=⟨_,eW (hl y (by simp))⟩;rw[gm,hy];cases j with
      |zero=>simp[hy]
      |succ j=>simpa using ih (fun k hk=>hl k (by simp[hk])) j
    obtain⟨zs,h1,h2⟩:=yl hpp hI (by rw[hpp.length_eq,bK];exact ha.1) fun j v q=>by obtain⟨p,hv,q1,q2⟩:=ha.2 j v q;refine⟨hv,?_⟩;rw[acs pl (fun k hk=>dr.mp (EJ.mem_iff.mp hk)),q1];exact q2
    exact⟨zs,h1,h2.trans hp⟩
theorem K1{St:Nat->Heap->Prop}(W:Walks prog w A.in1 I fp [I] n P St)(hn:n<=sizeLine)(XD:S∉fp)(st:St 0 s1.heap)(hS1:s1.heap.get? S=some (tP "list" #[] c1))(hR:∀h2 tk acc c2,(∀b o,b≠S->b≠I->s1.heap.get? b=some o->h2.get? b=some o)->h2.get? S=some (tP "list" acc c2)->ItemsOf P acc n->R (.ok (.ret (.ref S))) {s1 with heap:=h2,toks:=tk}):ur (bM prog w) A (.builtin "list.extend.loop" ⟨[.ref S,.ref I,.ref S],[]⟩) R s1:=by refine codeAny_extend_loopS W.toS hn S XD (.ref S) n 0 s1 #[] c1 rfl (cH _) st hS1 (ItemsOf.nil _) fun s' Jw c' hm XE Br=>?_;obtain⟨h2,g2,d2,t2,o2⟩:=s';have eg:g2=s1.gens:=hm.gens;have ed:d2=s1.drawn:=hm.drawn;have eo:o2=s1.os:=hm.os;subst eg ed eo;exact hR h2 t2 Jw c' (fun b o h1 h2 e=>hm.heap b o (by simp[h1,h2]) e) XE Br
theorem LH(hh:A.handled=none)(x:nI prog w s.heap a (kL w) xs)
  (h:∀(vs:ab aA)(ys:ab Int)(h':Heap)(d:Drawn)(tk:Nat),i9 vs ys->ys.Perm xs->(∀b o,s.heap.get? b=some o->h'.get? b=some o)->s.heap.objs.size<=h'.objs.size->Q vs {s with heap:=h',drawn:=d,toks:=tk}):
  bw (bM prog w) A (collect (.ref a)) Q E s:=by
 have jQ:a<s.heap.objs.size:=by obtain⟨o,es,ep,t,ho,_⟩:=x;exact bI ho
 unfold collect
 refine ai (wpAny_runValue (mW entry_proto_collect' ?_))
 show bw _ _ (do again (.builtin "list.__iadd__" ⟨[<-newList [],.ref a],[]⟩)) _ _ s
 refine ai (wpAny_newList (aL ⟨Code.quiet_builtin _ (by decide +kernel),mW entry_list_iadd' ?_⟩))
 show bw _ _ (Aj (.ref s.heap.objs.size) (.ref a) (.ref s.heap.objs.size)) _ _ {s with heap:=s.heap.push (tP "list" #[] 0)}
 have x1:nI prog w (s.heap.push (tP "list" #[] 0)) a (kL w) xs:=by
  obtain⟨o,es,ep,t,ho,r⟩:=x
  exact⟨o,es,ep,t,aK _ ho,r⟩
 have hS:(s.heap.push (tP "list" #[] 0)).get? s.heap.objs.size=some (tP "list" #[] 0):=bu _ rfl
 unfold Aj
 refine ai (wpAny_typeOf (T:="set") (nI.typeIs (s:={s with heap:=s.heap.push (tP "list" #[] 0)}) x1) ?_)
 rw[ao (by simp[Builtin.List.listSameRef,vM jQ])]
 refine ai (R5 (s:={s with heap:=s.heap.push (tP "list" #[] 0)}) (by simpa using hh) x1 fun h' d I hk hI hW=>?_)
 obtain⟨fp,n,P,St,W,st,hn,VR,Xt⟩:=hW
 have hSz:s.heap.objs.size<(s.heap.push (tP "list" #[] 0)).objs.size:=by rw[c5];exact jE _
 have XD:s.heap.objs.size∉fp:=fun q=>by
  rcases VR _ q with z|z
  ·exact bF hSz (Nat.not_lt.mpr z)
  ·exact vM jQ z
 have hSI:s.heap.objs.size≠I:=cG (cC hSz hI)
 have x2:nI prog w h' a (kL w) xs:=by
  obtain⟨o,es,ep,t,ho,r⟩:=x1
  exact⟨o,es,ep,t,hk _ _ ho,r⟩
 refine ai (jD (Sh (nI.typeIs (s:={s with heap:=h',drawn:=d}) x2) ?_))
 have XE:=hk _ _ hS
 have last:∀h2 tk acc c2,(∀b o,b≠s.heap.objs.size->b≠I->h'.get? b=some o->h2.get? b=some o)->h2.get? s.heap.objs.size=some (tP "list" acc c2)->ItemsOf P acc n->bw (bM prog w) A (do
   let o<-load s.heap.objs.size
   match o.data with
   | .seq xs _=>pure xs.toList
   |_=>unsupported "internal:collect") Q E {s with heap:=h2,drawn:=d,toks:=tk}:=by
  intro h2 tk acc c2 k2 e2 Br
  refine ai (wpAny_load e2 (aL ?_))
  obtain⟨ys,h3,h4⟩:=Xt acc Br
  refine h acc.toList ys h2 d tk h3 h4 (fun b o q=>?_) (vN (bI e2))
  have hb:=bI q
  exact k2 b o (cG hb) (cG (cC (Nat.lt_trans hb hSz) hI)) (hk _ _ (aK _ q))
 refine wpAny_ite_split (fun _=>?_) (fun _=>aL ⟨Dr Fx _,K1 W hn XD st XE fun h2 tk acc c2 k2 e2 Br=>last h2 tk acc c2 k2 e2 Br⟩)
 refine ai (wpAny_rule (ai ?_))
 show bw _ _ (updateSeq s.heap.objs.size (·.push .none)>>=fun _=>updateSeq s.heap.objs.size (·.pop)) _ _ _
 refine ai (wpAny_updateSeq XE rfl ?_)
 have UT:=fB (mM (·.push g9)) XE rfl
 refine wpAny_updateSeq (hz:=by seq_fits) UT rfl ?_
 have hS3:=fB (mM (·.pop)) UT rfl
 have oth:∀b o,b≠s.heap.objs.size->h'.get? b=some o->((h'.update s.heap.objs.size (mM (·.push g9))).update s.heap.objs.size (mM (·.pop))).get? b=some o:=
  fun b o hb q=>(mX _ _ (fY hb)).trans ((mX _ _ (fY hb)).trans q)
 refine aL ⟨Dr Fx _,K1 W hn XD (W.frame 0 _ _ st fun b hb o q=>oth b o (fun z=>XD (z▸hb)) q) hS3 fun h2 tk acc c2 k2 e2 Br=>last h2 tk acc c2 (fun b o h3 h4 q=>k2 b o h3 h4 (oth b o h3 q)) e2 Br⟩
theorem ME{Q:aA->aS->Prop}(hh:A.handled=none)(x:nI prog w s.heap a (kL w) xs)(hx:xs.length<64)(h:∀(h':Heap)(d:Drawn)(tk:Nat)(r:Addr)(c:Nat)(out:i5 aA)(ns:ab Int),i9 out.toList ns->ns.Perm xs->ns.Pairwise (·<=·)->(∀b o,s.heap.get? b=some o->h'.get? b=some o)->s.heap.objs.size<=r->h'.get? r=some (tP "list" out c)->Q (.ref r) {s with heap:=h',drawn:=d,toks:=tk}):bw (bM prog w) A (se (.builtin "sorted") [.ref a]) Q E s:=by
 refine Calls.call_function_entry kind_sorted plain_sorted entry_sorted (args_sorted1 _) ?_;unfold Builtin.«sorted»;refine ai (m:=checkCount "sorted" 1 1 _) (aL ?_);refine ai (LH (by simpa using hh) x fun vs ys h1 d tk hI hp hk hs=>?_);have hl:vs.length=xs.length:=by rw[IntsAre.len hI,hp.length_eq]
 refine ai (wpAny_newList ?_ (by rw[hl,bS];omega));have hoL:(h1.push (tP "list" vs.toArray 0)).get? h1.objs.size=some (tP "list" vs.toArray 0):=bu _ rfl;refine ai (jD (fg slot_list_sort ⟨_,hoL,rfl⟩ entry_list_sort (list_sort_tree hoL hI (by omega) fun out ns' a1 a2 a3=>⟨_,rfl,?_⟩) (args_list_sort _)));refine aL ⟨_,rfl,?_⟩;obtain⟨c,hc⟩:=sortedHeap_at (out:=out) hoL;refine h _ d tk _ c out ns' a1 (a2.trans hp) a3 (fun b o q=>?_) hs hc;have hb:b<h1.objs.size:=bI (hk _ _ q);rw[sortedHeap_old (cG hb) (by rw[c5];exact jb hb)];exact aK _ (hk _ _ q)
end
end kP
namespace L2
open PySem PySem.Spec PyProof.Rows
abbrev Key:=Sum Int Str
def zY:Key->aA->Bool
 | .inl k,v=>Value.isInt k v
 | .inr x,v=>Value.isStrOf x v
def abK(w:cU):Key->Int
 | .inl k=>hashInt k
 | .inr x=>hashStr w x
theorem ig:∀{k:Key}{v:aA},zY k v=true->(∃i t,k=dC i/\v=iX i t)\/(∃x t,k=CU x/\v=C0 x t)
 | .inl i,v,h=>by obtain⟨t,e⟩:=Value.isInt_shape (k:=i) (v:=v) h;exact .inl ⟨i,t,rfl,e⟩
 | .inr x,v,h=>by obtain⟨t,e⟩:=Value.isStrOf_shape (x:=x) (v:=v) h;exact .inr ⟨x,t,rfl,e⟩
theorem Qc(i:Int)(t:Tok):zY (.inl i) (.int i t)=true:=by simp[zY,Value.isInt]
theorem Qb(x:Str)(t:Tok):zY (.inr x) (.str x t)=true:=by simp[zY,Value.isStrOf]
theorem WY(a b:Int):decide ((dC a:Key)=dC b)=(a==b):=by
 by_cases e:a=b;·subst e;simp
 ·have h:¬(dC a:Key)=dC b:=fun q=>e (Sum.inl.inj q);rw[dH h];exact(iI.mpr e).symm
theorem WV(a b:Str):decide ((CU a:Key)=CU b)=decide (a=b):=by
 by_cases e:a=b;·subst e;simp
 ·have h:¬(CU a:Key)=CU b:=fun q=>e (Sum.inr.inj q);rw[dH h,dH e]
theorem WX(a:Int)(b:Str):decide ((dC a:Key)=CU b)=false:=dH (fun q=>nomatch q)
theorem WW(a:Str)(b:Int):decide ((CU a:Key)=dC b)=false:=dH (fun q=>nomatch q)
def fq(prog:bT)(w:cU):PySem.KeyKind prog w Key where
 is:=zY
 hash:=abK w
 inj:=fun v a b ha hb=>by
  rcases ig ha with⟨i,t,rfl,rfl⟩|⟨x,t,rfl,rfl⟩
  ·rcases ig hb with⟨j,u,rfl,e⟩|⟨y,u,rfl,e⟩
   ·injection e with e1 _;rw[e1]
   ·exact nomatch e
  ·rcases ig hb with⟨j,u,rfl,e⟩|⟨y,u,rfl,e⟩
   ·exact nomatch e
   ·injection e with e1 _;rw[e1]
 byValue:=fun k v h=>by
  rcases ig h with⟨i,t,rfl,rfl⟩|⟨x,t,rfl,rfl⟩<;>rfl
 pyHash:=fun hv h=>by
  rcases ig hv with⟨i,t,rfl,rfl⟩|⟨x,t,rfl,rfl⟩
  ·exact wpAny_pyHash_int h
  ·exact wpAny_pyHash_str h
 eqBool:=fun hu hv h=>by
  rcases ig hu with⟨i,t,rfl,rfl⟩|⟨x,t,rfl,rfl⟩
  ·rcases ig hv with⟨j,u,rfl,rfl⟩|⟨y,u,rfl,rfl⟩
   ·rw[WY]at h;exact wpAny_eqBool_int h
   ·rw[WX]at h;exact SeqAt.EqAt.int_str i t y u _ _ _ _ h
  ·rcases ig hv with⟨j,u,rfl,rfl⟩|⟨y,u,rfl,rfl⟩
   ·rw[WW]at h;exact SeqAt.EqAt.str_int x t j u _ _ _ _ h
   ·rw[WV]at h;exact wpAny_eqBool_str h
 «strs»:=fun k x t v h=>by
  rcases ig h with⟨i,u,rfl,e⟩|⟨y,u,rfl,e⟩
  ·exact nomatch e
  ·injection e with e1 _
   subst e1
   cases v<;>rfl
theorem KY(prog:bT)(w:cU)(i:Int)(t:Tok):(fq prog w).is (.inl i) (.int i t)=true:=Qc i t
theorem KW(prog:bT)(w:cU)(x:Str)(t:Tok):(fq prog w).is (.inr x) (.str x t)=true:=Qb x t
end L2
namespace L2
open PySem PySem.Spec PyProof.Rows
inductive V where
 |iG|bl (b:Bool)|int (i:Int)|str (x:Str)|JY (b:i5 UInt8)|flt (b:UInt64)|ref (a:Addr)|ty (n:BJ)
 deriving DecidableEq
def RelV:V->aA->Prop
 | .iG,u=>u=g9
 | .bl b,u=>u=n_ b
 | .int i,u=>∃t,u=iX i t
 | .str x,u=>∃t,u=C0 x t
 | .JY b,u=>∃t,u=Value.bytes b t
 | .flt b,u=>∃t,u=Value.float b t
 | .ref a,u=>u=dA a
 | .ty n,u=>u=lV n
abbrev Vals:ab V->ab aA->Prop:=Paired RelV
theorem Vals.length(r:Vals xs us):xs.length=us.length:=iw r
theorem Vals.get:∀{xs:ab V}{us:ab aA}{i:Nat}{x:V},Vals xs us->xs[i]? =some x->∃u,us[i]? =some u/\RelV x u
 |_,_,_,_,.nil,e=>by simp at e
 |_,_,0,_,.cons r _,e=>by simp at e;subst e;exact⟨_,rfl,r⟩
 |_,_,i+1,x,.cons _ t,e=>by obtain⟨u,h1,h2⟩:=Vals.get (i:=i) (x:=x) t (by simpa using e);exact⟨u,by simpa using h1,h2⟩
theorem Vals.set(r:RelV x u):∀{xs:ab V}{us:ab aA}(i:Nat),Vals xs us->Vals (xs.set i x) (us.set i u)
 |_,_,_,.nil=>.nil
 |_,_,0,.cons _ t=>.cons r t
 |_,_,i+1,.cons q t=>.cons q (Vals.set r i t)
theorem Vals.append:∀{xs ys:ab V}{us ws:ab aA},Vals xs us->Vals ys ws->Vals (xs++ys) (us++ws)
 |_,_,_,_,.nil,s=>s
 |_,_,_,_,.cons r t,s=>.cons r (Vals.append t s)
theorem Vals.take:∀{xs:ab V}{us:ab aA}(n:Nat),Vals xs us->Vals (xs.take n) (us.take n)
 |_,_,0,_=>.nil
 |_,_,_+1,.nil=>.nil
 |_,_,n+1,.cons r t=>.cons r (Vals.take n t)
theorem Vals.drop:∀{xs:ab V}{us:ab aA}(n:Nat),Vals xs us->Vals (xs.drop n) (us.drop n)
 |_,_,0,r=>r
 |_,_,_+1,.nil=>.nil
 |_,_,n+1,.cons _ t=>Vals.drop n t
def rY:aY V->aY aA->Prop
 |some v,some u=>RelV v u
 |none,none=>True
 |_,_=>False
def KV:ab (κ×V)->ab (κ×aA)->Prop:=Paired fun(p:κ×V)(q:κ×aA)=>p.1=q.1/\RelV p.2 q.2
def kV:Key->V
 | .inl i=>.int i
 | .inr x=>.str x
inductive HO where
 |lst (xs:ab V)
 |tup (xs:ab V)
 |dK (kvs:ab (Key×V))|dT (kvs:ab (ab Key×V))
 |set (S:Int->Bool) (n:Nat)
 |ins (C dx:Addr) (fs:ab (Str×V))
 |own (x:Addr)
 |xd (fs:ab (Str×V))
 |met (f x:Addr)
 |Zy (lo hi:Int)
 |qX (o:Obj) (u:HO)
 |V7 (ps:i5 aA)
 |ext (φ:Heap->Prop)
abbrev Hp:=Addr->aY HO
def upd(H:Hp)(a:Addr)(o:HO):Hp:=fun b=>if b=a then some o else H b
theorem aq:upd H a o a=some o:=by unfold upd;rw[aw rfl]
theorem aj(h:b≠a):upd H a o b=H b:=by unfold upd;rw[ao h]
theorem vR:upd (upd H a o) a u=upd H a u:=by funext b;unfold upd;split<;>rfl
theorem mx{H:Hp}(h:H a=some o)(h':H b=some u)(d:o≠u):a≠b:=by intro e;subst e;rw[h]at h';exact d (bE h')
theorem aE{H:Hp}(h:H a=some o)(h':H b=none):a≠b:=by intro e;subst e;rw[h]at h';cases h'
section
variable(P:bT)(w:cU)
def iK(H:Hp)(h:Heap)(a:Addr):HO->Prop
 | .lst xs=>xs.length<=sizeLine/\∃(dk:ab aA)(n:Nat),Vals xs dk/\h.get? a=some {cls:=.type "list",data:=.seq dk.toArray n}
 | .tup xs=>xs.length<=sizeLine/\∃dk:ab aA,Vals xs dk/\IsTup h a dk.toArray
 | .dK kvs=>kvs.length<=sizeLine/\(a==iF)=false/\∃vs,KV kvs vs/\h.DictOf (fq P w) a vs
 | .dT kvs=>kvs.length<=sizeLine/\(a==iF)=false/\∃xs:ab (ab Key×Addr×aA),Paired (fun(p:ab Key×V)(q:ab Key×Addr×aA)=>p.1=q.1/\H q.2.1=some (.tup (p.1.map kV))/\RelV p.2 q.2.2) kvs xs/\∃o es ep,h.get? a=some o/\o.ExactDict/\o.data=.dict es ep/\es.toList=xs.map (entryOfKey (tupleKind (fq P w)))/\(xs.map (·.1)).Nodup
 | .set S n=>h.SetOf (mV P w) a S n
 | .ins C dx fs=>H dx=some (.own a)/\fs.length<=1000/\dx≠a/\h.get? a=some (iP C dx)/\∃mA,h.Ns1 dx mA/\(∀f,rY (fs.lookup f) (mA f))/\PySem.Within mA (fs.map (·.1))
 | .own _=>∃o,h.get? a=some o
 | .xd fs=>∃mA,h.Ns1 a mA/\∀f,rY (fs.lookup f) (mA f)
 | .Zy lo hi=>∃t u v,h.get? a=some {cls:=.type "range",data:=.fields #[.int lo t,.int hi u,.int 1 v]}
 | .qX o u=>h.get? a=some o/\iK H h a u
 | .V7 ps=>h.get? a=some {cls:=.none,data:=.fields ps}
 | .met f x=>h.get? a=some (Ag (.ref f) (.ref x))
 | .ext φ=>φ h/\(∃o,h.get? a=some o)/\∀h1 h2:Heap,φ h1->(∀o,h1.get? a=some o->h2.get? a=some o)->φ h2
def vF(H:Hp)(h:Heap):Prop:=∀a o,H a=some o->iK P w H h a o
end
section
variable{P:bT}{w:cU}{H H':Hp}{h h':Heap}{a:Addr}{o:HO}
theorem iK.lt(x:iK P w H h a o):a<h.objs.size:=by
 cases o with
 |lst xs=>obtain⟨_,_,_,_,e⟩:=x;exact bI e
 |tup xs=>obtain⟨_,_,_,p⟩:=x;exact p.lt
 |dK kvs=>obtain⟨_,_,_,_,o,_,_,e,_⟩:=x;exact bI e
 |dT kvs=>obtain⟨_,_,_,_,o,_,_,e,_⟩:=x;exact bI e
 |set S n=>obtain⟨o,_,_,_,e,_⟩:=x;exact bI e
 |ins C dx fs=>obtain⟨_,_,_,e,_⟩:=x;exact bI e
 |own y=>obtain⟨_,e⟩:=x;exact bI e
 |xd fs=>obtain⟨_,⟨_,_,_,e,_⟩,_⟩:=x;exact bI e
 |Zy lo hi=>obtain⟨_,_,_,e⟩:=x;exact bI e
 |qX ob u=>obtain⟨e,_⟩:=x;exact bI e
 |V7 ps=>exact bI (show h.get? a=some _ from x)
 |met f y=>exact bI (show h.get? a=some _ from x)
 |ext φ=>obtain⟨_,⟨_,e⟩,_⟩:=x;exact bI e
theorem Paired.WQ:∀{l₁:ab α}{l₂:ab β},Paired F l₁ l₂->(∀a b,F a b->G a b)->Paired G l₁ l₂
 |_,_,.nil,_=>.nil
 |_,_,.cons r t,f=>.cons (f _ _ r) (Paired.WQ t f)
theorem iK.kI(x:iK P w H h a o)(k:∀b u,(b=a\/H b=some (.own a))->h.get? b=some u->h'.get? b=some u)(ho:∀b,H b=some (.own a)->H' b=some (.own a))(ht:∀b xs,H b=some (.tup xs)->H' b=some (.tup xs)):iK P w H' h' a o:=by
 induction o with
 |lst xs=>obtain⟨z,dk,n,r,e⟩:=x;exact⟨z,dk,n,r,k _ _ (.inl rfl) e⟩
 |tup xs=>obtain⟨z,dk,r,ob,e,c⟩:=x;exact⟨z,dk,r,ob,k _ _ (.inl rfl) e,c⟩
 |dK kvs=>obtain⟨z,y,vs,r,ob,es,ep,e,c⟩:=x;exact⟨z,y,vs,r,ob,es,ep,k _ _ (.inl rfl) e,c⟩
 |dT kvs=>obtain⟨z,y,xs,r,ob,es,ep,e,c⟩:=x;exact⟨z,y,xs,Paired.WQ r fun p q z=>⟨z.1,ht _ _ z.2.1,z.2.2⟩,ob,es,ep,k _ _ (.inl rfl) e,c⟩
 |set S n=>obtain⟨ob,es,ep,t,e,c⟩:=x;exact⟨ob,es,ep,t,k _ _ (.inl rfl) e,c⟩
 |ins C dx fs=>obtain⟨d,z,ne,e,mA,⟨od,es,ep,e2,c⟩,r⟩:=x;exact⟨ho _ d,z,ne,k _ _ (.inl rfl) e,mA,⟨od,es,ep,k _ _ (.inr d) e2,c⟩,r⟩
 |own y=>obtain⟨ob,e⟩:=x;exact⟨ob,k _ _ (.inl rfl) e⟩
 |xd fs=>obtain⟨mA,⟨od,es,ep,e,c⟩,r⟩:=x;exact⟨mA,⟨od,es,ep,k _ _ (.inl rfl) e,c⟩,r⟩
 |Zy lo hi=>obtain⟨t,u,v,e⟩:=x;exact⟨t,u,v,k _ _ (.inl rfl) e⟩
 |qX ob u ih=>obtain⟨e,q⟩:=x;exact⟨k _ _ (.inl rfl) e,ih q⟩
 |V7 ps=>have e:h.get? a=some {cls:=.none,data:=.fields ps}:=x;show h'.get? a=some {cls:=.none,data:=.fields ps};exact k a _ (.inl rfl) e
 |met f y=>have e:h.get? a=some (Ag (.ref f) (.ref y)):=x;show h'.get? a=some (Ag (.ref f) (.ref y));exact k a _ (.inl rfl) e
 |ext φ=>obtain⟨p,⟨o,e⟩,st⟩:=x;exact⟨st _ _ p fun o q=>k _ _ (.inl rfl) q,⟨o,k _ _ (.inl rfl) e⟩,st⟩
theorem vF.lt(x:vF P w H h)(e:H a=some o):a<h.objs.size:=(x a o e).lt
theorem vF.fresh(x:vF P w H h)(e:h.objs.size<=a):H a=none:=by
 cases q:H a with
 |none=>rfl
 |some u=>exact bF (cC (x.lt q) e) (gj _)
theorem vF.kept(x:vF P w H h)(k:∀b u,h.get? b=some u->h'.get? b=some u):vF P w H h':=fun a o e=>(x a o e).kI (fun b u _ q=>k b u q) (fun _ q=>q) fun _ _ q=>q
theorem vF.laid(x:vF P w H h)(k:∀b u,h.get? b=some u->h'.get? b=some u)(hp:h.objs.size<=a)(new:iK P w (upd H a o) h' a o):vF P w (upd H a o) h':=fun b u e=>by
 have hn:=x.fresh hp;by_cases hb:b=a;·subst hb;rw[aq]at e;cases e;exact new
 ·rw[aj hb]at e;exact(x b u e).kI (fun c v _ q=>k c v q) (fun c q=>by rw[aj (aE q hn)];exact q) fun c xs q=>by rw[aj (aE q hn)];exact q
end
def Rd(H:Hp)(a:Addr)(u:HO):Prop:=H a=some u\/∃o,H a=some (.qX o u)
theorem Rd.ok(r:Rd H a u)(x:vF P w H h):iK P w H h a u:=by
 rcases r with r|⟨o,r⟩;·exact x a u r
 ·obtain⟨_,q⟩:=x a _ r;exact q
def VZ:aY HO->Prop
 |some (.lst _)=>True
 |some (.dK _)=>True
 |some (.dT _)=>True
 |some (.set _ _)=>True
 |some (.ins _ _ _)=>True
 |some (.ext _)=>True
 |_=>False
section
variable{P:bT}{w:cU}{H:Hp}{h h':Heap}{x e:Addr}{o':HO}
theorem vF.write(ok:vF P w H h)(mu:VZ (H x))(he:e=x\/H e=some (.own x))(k:∀b u,b≠e->h.get? b=some u->h'.get? b=some u)(YU:∃u,h'.get? e=some u)(new:iK P w (upd H x o') h' x o'):vF P w (upd H x o') h':=fun b u q=>by
 have ZO:∀c y,H c=some (.own y)->c≠x:=fun c y r z=>by subst z;rw[r]at mu;exact mu
 have abD:∀c xs,H c=some (.tup xs)->c≠x:=fun c xs r z=>by subst z;rw[r]at mu;exact mu
 by_cases hb:b=x;·subst hb;rw[aq]at q;cases q;exact new
 ·rw[aj hb]at q;by_cases Xz:b=e
  ·have q':H b=some (.own x):=by
    rcases he with z|z;·exact bF (Xz.trans z) hb
    ·rw[Xz];exact z
   rw[q]at q';cases q';obtain⟨v,hv⟩:=YU;exact⟨v,by rw[Xz];exact hv⟩
  ·refine(ok b u q).kI (fun c v hc r=>k c v ?_ r) (fun c r=>by rw[aj (ZO c b r)];exact r) fun c xs r=>by rw[aj (abD c xs r)];exact r
   rcases hc with rfl|hc;·exact Xz
   ·rintro rfl;rcases he with z|z;·exact ZO c b hc z
    ·rw[hc]at z;cases z;exact hb rfl
end
structure Un(fs ex:ab Addr)(H H':Hp)(h h':Heap):Prop where
 keep:∀b o,h.get? b=some o->H b=none->b∉fs->b∉ex->h'.get? b=some o
 slot:∀b o,h.get? b=some o->H b=none->b∈fs->b∉ex->∃sl,h'.get? b=some {o with slots:=sl}
 free:∀b o,h.get? b=some o->H b=none->b∉ex->H' b=none
 there:∀b o,h.get? b=some o->b∉ex->∃o',h'.get? b=some o'
 HS:∀b xs,H b=some (.tup xs)->H' b=some (.tup xs)
 EV:∀b o u,H b=some (.qX o u)->H' b=some (.qX o u)
 HV:∀b ps,H b=some (.V7 ps)->∃more,H' b=some (.V7 (ps++more))
section
variable{fs yO ex ex':ab Addr}{H H1 H2:Hp}{h h1 h2 h':Heap}{a x e:Addr}{o:HO}
theorem Un.any(u:Un fs ex H H1 h h1)(q:h.get? b=some ob)(n:H b=none)(hx:b∉ex):∃sl,h1.get? b=some {ob with slots:=sl}:=by
 by_cases hb:b∈fs;·exact u.slot b ob q n hb hx
 ·exact⟨ob.slots,u.keep b ob q n hb hx⟩
theorem Un.kept(k:∀b u,h.get? b=some u->h'.get? b=some u):Un fs ex H H h h':=⟨fun b ob q _ _ _=>k b ob q,fun b ob q _ _ _=>⟨ob.slots,k b ob q⟩,fun _ _ _ n _=>n,fun b ob q _=>⟨ob,k b ob q⟩,fun _ _ q=>q,fun _ _ _ q=>q,fun _ ps q=>⟨#[],by rw[q];simp⟩⟩
theorem Un.refl:Un fs ex H H h h:=Un.kept fun _ _ q=>q
theorem Un.laid(k:∀b u,h.get? b=some u->h'.get? b=some u)(hp:h.objs.size<=a)(hn:H a=none):Un fs ex H (upd H a o) h h' where
 keep:=fun b u q _ _ _=>k b u q
 slot:=fun b u q _ _ _=>⟨u.slots,k b u q⟩
 free:=fun b u q n _=>by rw[aj (cG (cC (bI q) hp))];exact n
 there:=fun b u q _=>⟨u,k b u q⟩
 HS:=fun b xs q=>by rw[aj (aE q hn)];exact q
 EV:=fun b u xs q=>by rw[aj (aE q hn)];exact q
 HV:=fun b ps q=>⟨#[],by rw[aj (aE q hn),q];simp⟩
theorem Un.write(mu:VZ (H x))(he:e=x\/H e=some (.own x))(k:∀b u,b≠e->h.get? b=some u->h'.get? b=some u)(YU:∃u,h'.get? e=some u):Un fs ex H (upd H x o) h h':=by
 have hx:∀b,H b=none->b≠x:=fun b n z=>by subst z;rw[n]at mu;exact mu
 have hb:∀b,H b=none->b≠e:=fun b n z=>by
  subst z;rcases he with r|r;·exact hx b n r
  ·rw[n]at r;cases r
 have hm:∀b u,H b=some u->¬VZ (some u)->b≠x:=fun b u q nm z=>by subst z;rw[q]at mu;exact nm mu
 refine⟨fun b u q n _ _=>k b u (hb b n) q,fun b u q n _ _=>⟨u.slots,k b u (hb b n) q⟩,fun b u q n _=>by rw[aj (hx b n)];exact n,fun b u q _=>?_,fun b xs q=>by rw[aj (hm b _ q fun z=>z)];exact q,fun b u xs q=>by rw[aj (hm b _ q fun z=>z)];exact q,fun b ps q=>⟨#[],by rw[aj (hm b _ q fun z=>z),q];simp⟩⟩;by_cases Xz:b=e;·subst Xz;exact YU
 ·exact⟨u,k b u Xz q⟩
end
def trk(h:Heap)(H:Hp):ab Addr:=(cP h.objs.size).filter fun a=>(H a).isSome
def Ji(h:Heap)(H:Hp):Heap:=PySem.W.hideAll h (trk h H)
theorem Qm(h:Heap)(H:Hp):(Ji h H).objs.size=h.objs.size:=PySem.W.hideAll_size _ _
theorem Sl(e:h.get? b=some o)(n:H b=none):(Ji h H).get? b=some o:=PySem.W.hideAll_get _ e fun hm=>by have q:(H b).isSome=true:=(ba.mp hm).2;rw[n]at q;simp at q
theorem Uv(e:(Ji h H).get? b=some o):h.get? b=some o/\H b=none:=by
 have e':h.get? b=some o:=PySem.W.of_hideAll (trk h H) e;refine⟨e',?_⟩;cases q:H b with
 |none=>rfl
 |some x=>have hm:b∈trk h H:=ba.mpr ⟨dr.mpr (bI e'),by simp[q]⟩;have z:(Ji h H).get? b=none:=PySem.W.hideAll_none (trk h H) hm;rw[z]at e;cases e
def Vb(g h:Heap)(L:Addr):ab (Addr×Obj):=(cP h.objs.size).filterMap fun a=>if a=L\/(g.get? a).isSome=true then none else(h.get? a).map fun o=>(a,o)
def rest(g h:Heap)(L d:Addr):ab (Addr×Obj):=(Vb g h L).filter fun p=>decide (p.1≠d)
end L2
namespace L2
open PySem PySem.Spec PyProof.Rows
structure Mod(K:ag)(mg:Str->aY aA)(base:Heap):Prop where
 Z2:K.In base
 glob:base.Ns c4 mg
 blt:∃mb,base.Ns builtinsNs mb/\∀x:Str,x≠"__name__"->mb x=fN x
 nolimit:base.NoLimit
structure Cx where
 prog:bT
 w:cU
 K:ag
 mg:Str->aY aA
 base:Heap
 A:gR
 N:ab Str
 G8:aS
 Yl:Hp
 env:Env
 outer:ab Env
 stack:ab Env
 ex:ab Addr
 fn:Str->Bool
 calm:Bool
 pn:ab (Addr×Obj)
 xe:aA->aS->Prop
def Sy(l:ab Env):ab Addr:=l.filterMap (·.frame)
abbrev Cx.fs(X:Cx):ab Addr:=Sy X.outer
def Y9(sc:Scope)(x:Str):Prop:=sc.names.lookup x=some .local\/sc.names.lookup x=some .cell\/sc.names.lookup x=some .free
def Loc(sc:Scope)(x:Str):Prop:=sc.names.lookup x=some .local\/sc.names.lookup x=some .cell
def Look(env:Env)(h:Heap)(m:Str->aY aA)(x:Str)(u:aA):Prop:=(env.kindOf x=some .local/\m x=some u)\/((env.kindOf x=some .cell\/env.kindOf x=some .free)/\∃c,env.cells.lookup x=some c/\h.IsCell c (some u))
structure Cx.Ok(X:Cx):Prop where
 mod:Mod X.K X.mg X.base
 kind:X.env.scope.kind=.function
 glob:X.env.globals=c4
 blt:X.env.builtins=builtinsNs
 above:X.G8.heap.objs.size<=X.env.locals
 inj:∀x y c,X.env.cells.lookup x=some c->X.env.cells.lookup y=some c->x=y
 has:∀x,(X.env.kindOf x=some .cell\/X.env.kindOf x=some .free)->∃c,X.env.cells.lookup x=some c
 cab:∀x c,X.fn x=true->X.env.cells.lookup x=some c->X.G8.heap.objs.size<=c
 hd:X.calm=true->X.A.handled=none
 frames:X.A.frames=some X.stack
 stk:X.stack=X.outer\/(X.stack=X.env::X.outer/\X.env.frame=some X.env.locals)
 exf:∀b∈X.ex,b≠X.env.locals/\∀x c,X.env.cells.lookup x=some c->c≠b
 bs:∀b o,X.base.get? b=some o->X.G8.heap.get? b=some o/\X.Yl b=none
 TB:X.base.objs.size<=X.G8.heap.objs.size
 RX:∀b o,X.base.get? b=some o->b∉X.ex
 SF:∀b∈X.ex,b∉X.fs
 CO:X.G8.heap.FunFrames X.base X.outer
 XN:∀b∈X.fs,X.Yl b=none
structure Inv(X:Cx)(pins:ab (Addr×Obj))(σ:ab (aY V))(H:Hp)(s:aS):Prop where
 ok:X.Ok
 os:s.os=X.G8.os
 bare:GI s.gens
 base:Un X.fs X.ex X.Yl H X.G8.heap s.heap
 loc:∃m,s.heap.Ns X.env.locals m/\∀(i:Nat)(x:Str)(v:V),X.N[i]? =some x->σ[i]? =some (some v)->Y9 X.env.scope x->∃u,RelV v u/\Look X.env s.heap m x u
 cell:∀x c,X.env.cells.lookup x=some c->∃v,s.heap.IsCell c v
 free:H X.env.locals=none
 qz:∀x c,X.env.cells.lookup x=some c->H c=none
 pin:∀p∈X.pn++pins,s.heap.get? p.1=some p.2/\H p.1=none/\p.1≠X.env.locals/\p.1∉X.fs/\∀v,p.2.data≠.cell v
 gn:vF X.prog X.w H s.heap
 len:σ.length=X.N.length
section
variable{X:Cx}{pins:ab (Addr×Obj)}{σ:ab (aY V)}{H H':Hp}{s:aS}{h':Heap}
theorem Cx.Ok.abF(ok:X.Ok)(e:X.base.get? b=some o):b∉X.fs:=fun hb=>by have:=(ok.CO.mem hb).1;rw[e]at this;cases this
theorem Inv.bs(I:Inv X pins σ H s):∀b o,X.base.get? b=some o->s.heap.get? b=some o/\H b=none:=fun b o e=>⟨I.base.keep b o (I.ok.bs b o e).1 (I.ok.bs b o e).2 (I.ok.abF e) (I.ok.RX b o e),I.base.free b o (I.ok.bs b o e).1 (I.ok.bs b o e).2 (I.ok.RX b o e)⟩
theorem Inv.bk(I:Inv X pins σ H s):∀b o,X.base.get? b=some o->s.heap.get? b=some o:=fun b o e=>(I.bs b o e).1
theorem Inv.mod(I:Inv X pins σ H s):Mod X.K X.mg X.base:=I.ok.mod
theorem Inv.Nk(I:Inv X pins σ H s):X.K.In s.heap:=I.ok.mod.Z2.keeps I.bk
theorem Inv.fr(I:Inv X pins σ H s):∃m,Fr X.base X.env.locals s.heap m:=
 let⟨m,hn,_⟩:=I.loc
 ⟨m,hn,I.bk,bZ I.ok.TB I.ok.above⟩
theorem Inv.lt(I:Inv X pins σ H s):X.env.locals<s.heap.objs.size:=let⟨_,hn,_⟩:=I.loc;hn.lt
theorem Inv.sz(I:Inv X pins σ H s):X.G8.heap.objs.size<=s.heap.objs.size:=bZ I.ok.above (vN I.lt)
theorem Inv.abE(I:Inv X pins σ H s){a:Addr}(h:s.heap.objs.size<=a):a∉X.fs:=fun hb=>by obtain⟨_,o,ho,_⟩:=I.ok.CO.mem hb;exact bF (cC (bI ho) (bZ I.sz h)) (gj _)
theorem Inv.X5(I:Inv X pins σ H s):∀x c,X.env.cells.lookup x=some c->c≠X.env.locals:=fun x c e z=>by obtain⟨v,o,ho,hd⟩:=I.cell x c e;obtain⟨m,⟨o',es,ep,Ma,hd',_⟩,_⟩:=I.loc;rw[z,Ma]at ho;cases ho;rw[hd']at hd;cases hd
theorem Inv.CO(I:Inv X pins σ H s):s.heap.FunFrames X.base X.outer:=by
 have all:∀(l:ab Env),(∀b∈Sy l,b∈X.fs)->X.G8.heap.FunFrames X.base l->s.heap.FunFrames X.base l:=by
  intro l;induction l with
  |nil=>intro _ _;trivial
  |cons env r ih=>intro hs hl;obtain⟨hk,⟨L,o,hf,hn,ho,hd⟩,hr⟩:=hl;have hL:L∈X.fs:=hs L (by unfold Sy;rw[gm,hf];exact df);obtain⟨sl,e⟩:=I.base.slot L o ho (I.ok.XN L hL) hL fun z=>I.ok.SF L z hL;exact⟨hk,⟨L,_,hf,hn,e,hd⟩,ih (fun b hb=>hs b (by unfold Sy;rw[gm,hf];exact bY _ hb)) hr⟩
 exact all X.outer (fun _ hb=>hb) I.ok.CO
theorem Inv.stack(I:Inv X pins σ H s):s.heap.FunFrames X.base X.stack:=by
 rcases I.ok.stk with e|⟨e,hf⟩;·rw[e];exact I.CO
 ·rw[e];obtain⟨m,hn,_⟩:=I.loc;refine .cons (by rw[I.ok.kind];decide) hf hn ?_ I.CO;exact Heap.get?_none_of_le (bZ I.ok.TB I.ok.above)
theorem Inv.Mz(I:Inv X pins σ H s):∀b∈Sy X.stack,b∈X.env.locals::X.fs:=fun b hb=>by
 rcases I.ok.stk with e|⟨e,hf⟩;·rw[e]at hb;exact bY _ hb
 ·rw[e]at hb;unfold Sy at hb;rw[gm,hf]at hb;exact hb
theorem Inv.Om(I:Inv X pins σ H s):∀b∈Sy X.stack,H b=none:=fun b hb=>by
 rcases aF.mp (I.Mz b hb)with e|hb;·rw[e];exact I.free
 ·obtain⟨_,o,ho,_⟩:=I.ok.CO.mem hb;exact I.base.free b o ho (I.ok.XN b hb) fun z=>I.ok.SF b z hb
theorem Inv.step{ch:ab Addr}(I:Inv X pins σ H s)(yN:∀b∈ch,(b∈X.ex\/X.G8.heap.objs.size<=b)/\b≠X.env.locals/\(∀x c,X.env.cells.lookup x=some c->c≠b)/\∀p∈X.pn++pins,p.1≠b)(keep:∀b o,b≠X.env.locals->b∉X.fs->b∉ch->s.heap.get? b=some o->H b=none->h'.get? b=some o)(slot:∀b o,b≠X.env.locals->b∈X.fs->b∉ch->s.heap.get? b=some o->H b=none->∃sl,h'.get? b=some {o with slots:=sl})(free:∀b o,b∉ch->s.heap.get? b=some o->H b=none->H' b=none)(there:∀b o,b∉ch->s.heap.get? b=some o->∃o',h'.get? b=some o')(HS:∀b xs,H b=some (.tup xs)->H' b=some (.tup xs))(EV:∀b o u,H b=some (.qX o u)->H' b=some (.qX o u))(HV:∀b ps,H b=some (.V7 ps)->∃more,H' b=some (.V7 (ps++more)))(ns:∀m,s.heap.Ns X.env.locals m->h'.Ns X.env.locals m)(gn:vF X.prog X.w H' h')(hg:GI g'):Inv X pins σ H' {s with heap:=h',gens:=g',drawn:=d',toks:=t'}:=by
 have neL:∀b o,X.G8.heap.get? b=some o->b≠X.env.locals:=fun b o e=>cG (cC (bI e) I.ok.above);have neC:∀b o,X.G8.heap.get? b=some o->b∉X.ex->b∉ch:=fun b o e hx hb=>by
  rcases(yN b hb).1 with z|z;·exact hx z
  ·exact bF (cC (bI e) z) (gj _)
 have cellK:∀x c,X.env.cells.lookup x=some c->∀v,s.heap.IsCell c v->h'.IsCell c v:=fun x c e v⟨o,ho,hd⟩=>by
  have ZU:c∉ch:=fun z=>(yN c z).2.2.1 x c e rfl;by_cases hc:c∈X.fs;·obtain⟨sl,q⟩:=slot c o (I.X5 x c e) hc ZU ho (I.qz x c e);exact⟨_,q,hd⟩
  ·exact⟨o,keep c o (I.X5 x c e) hc ZU ho (I.qz x c e),hd⟩
 refine⟨I.ok,I.os,hg,⟨fun b o e n hb hx=>?_,fun b o e n hb hx=>?_,fun b o e n hx=>?_,fun b o e hx=>?_,fun b xs e=>HS b xs (I.base.HS b xs e),fun b o xs e=>EV b o xs (I.base.EV b o xs e),fun b ps e=>?_⟩,?_,fun x c e=>?_,?_,fun x c e=>?_,fun p hp=>?_,gn,I.len⟩;·exact keep b o (neL b o e) hb (neC b o e hx) (I.base.keep b o e n hb hx) (I.base.free b o e n hx)
 ·obtain⟨sl,e1⟩:=I.base.slot b o e n hb hx;obtain⟨sl',e2⟩:=slot b _ (neL b o e) hb (neC b o e hx) e1 (I.base.free b o e n hx);exact⟨sl',e2⟩
 ·obtain⟨o',e1⟩:=I.base.there b o e hx;exact free b o' (neC b o e hx) e1 (I.base.free b o e n hx)
 ·obtain⟨o',e1⟩:=I.base.there b o e hx;exact there b o' (neC b o e hx) e1
 ·obtain⟨m1,e1⟩:=I.base.HV b ps e;obtain⟨m2,e2⟩:=HV b _ e1;exact⟨m1++m2,by rw[e2,Array.append_assoc]⟩
 ·obtain⟨m,hn,hl⟩:=I.loc;refine⟨m,ns m hn,fun i x v e1 e2 e3=>?_⟩;obtain⟨u,r,l⟩:=hl i x v e1 e2 e3;refine⟨u,r,?_⟩;rcases l with l|⟨k,c,e,z⟩;·exact .inl l
  ·exact .inr ⟨k,c,e,cellK x c e _ z⟩
 ·obtain⟨v,z⟩:=I.cell x c e;exact⟨v,cellK x c e v z⟩
 ·obtain⟨m,⟨o,_,_,ho,_⟩,_⟩:=I.loc;exact free _ o (fun z=>(yN _ z).2.1 rfl) ho I.free
 ·obtain⟨v,o,ho,hd⟩:=I.cell x c e;exact free c o (fun z=>(yN c z).2.2.1 x c e rfl) ho (I.qz x c e)
 ·obtain⟨e,n,ne,nf,d⟩:=I.pin p hp;have ZU:p.1∉ch:=fun z=>(yN p.1 z).2.2.2 p hp rfl;exact⟨keep p.1 p.2 ne nf ZU e n,free p.1 p.2 ZU e n,ne,nf,d⟩
theorem Inv.un(I:Inv X pins σ H s)(u:Un X.fs [] H H' s.heap h')(gn:vF X.prog X.w H' h'):Inv X pins σ H' {s with heap:=h',toks:=t'}:=by obtain⟨m,⟨o,es,ep,ho,r⟩,_⟩:=id I.loc;obtain⟨sl,hL⟩:=u.any ho I.free (by simp);exact I.step (g':=s.gens) (d':=s.drawn) (ch:=[]) (fun _ z=>nomatch z) (fun b o _ hb _ e n=>u.keep b o e n hb (by simp)) (fun b o _ hb _ e n=>u.slot b o e n hb (by simp)) (fun b o _ e n=>u.free b o e n (by simp)) (fun b o _ e=>u.there b o e (by simp)) u.HS u.EV u.HV (fun m' hm=>by obtain⟨o',Mc,UZ,Ma,r'⟩:=hm;rw[ho]at Ma;cases Ma;exact⟨_,Mc,UZ,hL,r'⟩) gn I.bare
theorem Inv.call(I:Inv X pins σ H s)(u:Un (Sy X.stack) ch H H' s.heap h')(gn:vF X.prog X.w H' h')(hg:GI g')(yN:∀b∈ch,(b∈X.ex\/X.G8.heap.objs.size<=b)/\b≠X.env.locals/\(∀x c,X.env.cells.lookup x=some c->c≠b)/\∀p∈X.pn++pins,p.1≠b):Inv X pins σ H' {s with heap:=h',gens:=g',drawn:=d',toks:=t'}:=by obtain⟨m,⟨o,es,ep,ho,r⟩,_⟩:=id I.loc;obtain⟨sl,hL⟩:=u.any ho I.free fun z=>(yN _ z).2.1 rfl;exact I.step (ch:=ch) yN (fun b o hL hb hc e n=>u.keep b o e n (fun z=>(aF.mp (I.Mz b z)).elim hL hb) hc) (fun b o _ _ hc e n=>u.any e n hc) (fun b o hc e n=>u.free b o e n hc) (fun b o hc e=>u.there b o e hc) u.HS u.EV u.HV (fun m' hm=>by obtain⟨o',Mc,UZ,Ma,r'⟩:=hm;rw[ho]at Ma;cases Ma;exact⟨_,Mc,UZ,hL,r'⟩) gn hg
theorem Inv.turned(I:Inv X pins σ H s)(k:∀b o,b≠it->s.heap.get? b=some o->h'.get? b=some o)(hn:H it=none)(hL:it≠X.env.locals)(h1:it∈X.ex\/X.G8.heap.objs.size<=it)(h2:∀x c,X.env.cells.lookup x=some c->c≠it)(h3:∀p∈X.pn++pins,p.1≠it):Inv X pins σ H {s with heap:=h',toks:=t'}:=by
 have ZQ:∀b u,H b=some u->b≠it:=fun b u e z=>by rw[z,hn]at e;cases e
 refine I.step (g':=s.gens) (d':=s.drawn) (ch:=[it]) (fun b hb=>?_) (fun b o _ _ hc e _=>k b o (fun z=>hc (by simp[z])) e) (fun b o _ _ hc e _=>⟨o.slots,k b o (fun z=>hc (by simp[z])) e⟩) (fun _ _ _ _ n=>n)
  (fun b o hc e=>⟨o,k b o (fun z=>hc (by simp[z])) e⟩) (fun _ _ e=>e) (fun _ _ _ e=>e) (fun b ps e=>⟨#[],by rw[e];simp⟩) (fun m hm=>?_) (fun b u e=>?_) I.bare
 ·have e:b=it:=by simpa using hb
  subst e;exact⟨h1,hL,h2,h3⟩
 ·obtain⟨o,es,ep,ho,r⟩:=hm;exact⟨o,es,ep,k _ o (fY hL) ho,r⟩
 ·refine(I.gn b u e).kI (fun c v hc q=>k c v ?_ q) (fun _ q=>q) fun _ _ q=>q;rcases hc with z|z;·rw[z];exact ZQ b u e
  ·exact ZQ c _ z
theorem Inv.tok(I:Inv X pins σ H s)(t:Nat):Inv X pins σ H {s with toks:=t}:=I.un (h':=s.heap) (t':=t) Un.refl I.gn
theorem Inv.kept(I:Inv X pins σ H s)(k:∀b u,s.heap.get? b=some u->h'.get? b=some u):Inv X pins σ H {s with heap:=h',toks:=t'}:=I.un (Un.kept k) (I.gn.kept k)
theorem Inv.laid{a:Addr}(I:Inv X pins σ H s)(k:∀b u,s.heap.get? b=some u->h'.get? b=some u)(hp:s.heap.objs.size<=a)(new:iK X.prog X.w (upd H a o) h' a o):Inv X pins σ (upd H a o) {s with heap:=h',toks:=t'}:=I.un (Un.laid k hp (I.gn.fresh hp)) (I.gn.laid k hp new)
theorem Inv.write(I:Inv X pins σ H s)(mu:VZ (H x))(he:e=x\/H e=some (.own x))(k:∀b u,b≠e->s.heap.get? b=some u->h'.get? b=some u)(YU:∃u,h'.get? e=some u)(new:iK X.prog X.w (upd H x o) h' x o):Inv X pins σ (upd H x o) {s with heap:=h',toks:=t'}:=I.un (Un.write mu he k YU) (I.gn.write mu he k YU new)
theorem Inv.weak(I:Inv X pins σ H s)(hl:σ'.length=σ.length)(w:∀(i:Nat) v,σ'[i]? =some (some v)->σ[i]? =some (some v)):Inv X pins σ' H s:=⟨I.ok,I.os,I.bare,I.base,let⟨m,hn,hl'⟩:=I.loc;⟨m,hn,fun i x v e1 e2 e3=>hl' i x v e1 (w i v e2) e3⟩,I.cell,I.free,I.qz,I.pin,I.gn,hl.trans I.len⟩
theorem Inv.OG(I:Inv X pins σ H s)(h:∀p∈ZG,s.heap.get? p.1=some p.2/\H p.1=none/\p.1≠X.env.locals/\p.1∉X.fs/\∀v,p.2.data≠.cell v):Inv X ZG σ H s:=⟨I.ok,I.os,I.bare,I.base,I.loc,I.cell,I.free,I.qz,fun p hp=>(a_.mp hp).elim (fun z=>I.pin p (ja _ z)) (h p),I.gn,I.len⟩
theorem Et{N:ab Str}(hN:N.Nodup){i j:Nat}(a:N[i]? =some x)(b:N[j]? =some x):i=j:=by obtain⟨h1,e1⟩:=aW.mp a;obtain⟨h2,e2⟩:=aW.mp b;exact(List.getElem_inj hN).mp (e1.trans e2.symm)
theorem GQ(I:Inv X pins σ H s)(hN:X.N.Nodup)(hi:X.N[i]? =some x)(hx:Loc X.env.scope x)(r:RelV v u)(h:∀s',Inv X pins (σ.set i (some v)) H s'->(∃a,i8 a s.heap s'.heap/\(a=X.env.locals\/X.env.cells.lookup x=some a))->Q () s')(hf:X.fn x=true\/X.env.scope.names.lookup x=some .local:=by first|exact .inl rfl|exact .inr rfl|assumption):bw M A (storeName X.env x u) Q E s:=by
 obtain⟨m,hn,hl⟩:=id I.loc;have acE:(X.env.scope.kind==.class||(X.env.scope.kind==.module&&X.env.locals !=X.env.globals))=false:=by rw[I.ok.kind];rfl
 have aaq:i<σ.length:=by rw[I.len];exact(aW.mp hi).1
 have X5:=I.X5;have tracked:∀{a:Addr}{h':Heap},(∃o,s.heap.get? a=some o/\H a=none)->i8 a s.heap h'->vF X.prog X.w H h':=fun{a h'} ha hs b ob e=>by
  obtain⟨_,_,Hn⟩:=ha;refine(I.gn b ob e).kI (fun c w' hc q=>(hs.2 c ?_).trans q) (fun _ q=>q) fun _ _ q=>q;rintro rfl;rcases hc with rfl|hc;·rw[Hn]at e;cases e
  ·rw[Hn]at hc;cases hc
 rcases hx with hk|hk
 ·refine wpAny_storeName_local hk hn (fun h' hn' hs=>?_) acE;obtain⟨oL,_,_,hoL,_⟩:=id hn;refine h _ ⟨I.ok,I.os,I.bare,⟨fun b o e n hb hx=>?_,fun b o e n hb hx=>?_,I.base.free,fun b o e hx=>?_,I.base.HS,I.base.EV,I.base.HV⟩,⟨_,hn',fun j y v' e1 e2 e3=>?_⟩,fun y c e=>?_,I.free,I.qz,fun p hp=>?_,tracked ⟨oL,hoL,I.free⟩ hs,by simpa using I.len⟩ ⟨_,hs,.inl rfl⟩;·exact(hs.2 b (cG (cC (bI e) I.ok.above))).trans (I.base.keep b o e n hb hx)
  ·obtain⟨sl,e1⟩:=I.base.slot b o e n hb hx;exact⟨sl,(hs.2 b (cG (cC (bI e) I.ok.above))).trans e1⟩
  ·obtain⟨o',e1⟩:=I.base.there b o e hx;exact⟨o',(hs.2 b (cG (cC (bI e) I.ok.above))).trans e1⟩
  ·by_cases hj:j=i;·subst hj;rw[hi]at e1;cases e1;rw[d4 aaq]at e2;cases e2;exact⟨u,r,.inl ⟨hk,by simp⟩⟩
   ·rw[eJ (fY hj)]at e2;obtain⟨u',r',q⟩:=hl j y v' e1 e2 e3;refine⟨u',r',?_⟩;rcases q with⟨k,e⟩|⟨k,c,e,z⟩;·refine .inl ⟨k,?_⟩;have:y≠x:=fun e=>hj (Et hN e1 (e▸hi));simp[this,e]
    ·exact .inr ⟨k,c,e,z.sameBut hs (X5 y c e)⟩
  ·obtain⟨w',z⟩:=I.cell y c e;exact⟨w',z.sameBut hs (X5 y c e)⟩
  ·obtain⟨e,n,ne,nf,d⟩:=I.pin p hp;exact⟨(hs.2 p.1 ne).trans e,n,ne,nf,d⟩
 ·have hfn:X.fn x=true:=by
   rcases hf with z|z;·exact z
   ·rw[z]at hk;cases hk
  obtain⟨c,hc⟩:=I.ok.has x (.inl hk);obtain⟨w',z⟩:=I.cell x c hc;refine wpAny_storeName_cell I.ok.kind hk hc z (fun h' hc' hs=>?_);obtain⟨oc,hoc,ab8⟩:=id z;refine h {s with heap:=h'} ⟨I.ok,I.os,I.bare,⟨fun b o e n hb hx=>?_,fun b o e n hb hx=>?_,I.base.free,fun b o e hx=>?_,I.base.HS,I.base.EV,I.base.HV⟩,⟨m,hn.sameBut hs (fY (X5 x c hc)),fun j y v' e1 e2 e3=>?_⟩,fun y c' e=>?_,I.free,I.qz,fun p hp=>?_,tracked ⟨oc,hoc,I.qz x c hc⟩ hs,by simpa using I.len⟩ ⟨c,hs,.inr hc⟩;·exact(hs.2 b (cG (cC (bI e) (I.ok.cab x c hfn hc)))).trans (I.base.keep b o e n hb hx)
  ·obtain⟨sl,e1⟩:=I.base.slot b o e n hb hx;exact⟨sl,(hs.2 b (cG (cC (bI e) (I.ok.cab x c hfn hc)))).trans e1⟩
  ·obtain⟨o',e1⟩:=I.base.there b o e hx;exact⟨o',(hs.2 b (cG (cC (bI e) (I.ok.cab x c hfn hc)))).trans e1⟩
  ·by_cases hj:j=i;·subst hj;rw[hi]at e1;cases e1;rw[d4 aaq]at e2;cases e2;exact⟨u,r,.inr ⟨.inl hk,c,hc,hc'⟩⟩
   ·rw[eJ (fY hj)]at e2;obtain⟨u',r',q⟩:=hl j y v' e1 e2 e3;refine⟨u',r',?_⟩;rcases q with q|⟨k,c',e,z'⟩;·exact .inl q
    ·refine .inr ⟨k,c',e,z'.sameBut hs ?_⟩;rintro rfl;exact hj (Et hN e1 (I.ok.inj _ _ _ e hc▸hi))
  ·by_cases hcc:c'=c;·subst hcc;exact⟨_,hc'⟩
   ·obtain⟨w2,z2⟩:=I.cell y c' e;exact⟨w2,z2.sameBut hs hcc⟩
  ·obtain⟨e,n,ne,nf,d⟩:=I.pin p hp;refine⟨(hs.2 p.1 ?_).trans e,n,ne,nf,d⟩;intro q;rw[q,hoc]at e;have q':oc=p.2:=bE e;exact d w' (by rw[<-q'];exact ab8)
theorem DL(I:Inv X pins σ H s)(hN:X.N.Nodup)(hi:X.N[i]? =some x)(hx:Loc X.env.scope x)(r:RelV v u)(h:∀s',Inv X pins (σ.set i (some v)) H s'->Q () s')(hf:X.fn x=true\/X.env.scope.names.lookup x=some .local:=by first|exact .inl rfl|exact .inr rfl|assumption):bw M A (storeName X.env x u) Q E s:=GQ I hN hi hx r (fun s' I' _=>h s' I') hf
theorem Inv.aaX(I:Inv X pins σ H s)(ho:s'.os=s.os)(u:Un (Sy X.stack) ch H H' s.heap s'.heap)(gn:vF X.prog X.w H' s'.heap)(hg:GI s'.gens)(yN:∀b∈ch,(b∈X.ex\/X.G8.heap.objs.size<=b)/\b≠X.env.locals/\(∀x c,X.env.cells.lookup x=some c->c≠b)/\∀p∈X.pn++pins,p.1≠b):Inv X pins σ H' s':=by obtain⟨h',g',d',t',o'⟩:=s';have e:o'=s.os:=ho;subst e;exact I.call (g':=g') (t':=t') (d':=d') u gn hg yN
end
abbrev XK:=aA->aY Addr->Hp->Prop
abbrev St:=ab (aY V)
abbrev VK:=V->Hp->Prop
abbrev TE:=St->Hp->VK->Prop
abbrev TT:=St->Hp->(Bool->Hp->Prop)->Prop
abbrev TA:=St->Hp->(ab V->Hp->Prop)->Prop
structure Ends where
 nx:St->Hp->Prop
 rt:VK
 bk:St->Hp->Prop:=fun _ _=>False
 ct:St->Hp->Prop:=fun _ _=>False
abbrev TS:=Ends->St->Hp->Prop
inductive EP(X:Cx)(pins:ab (Addr×Obj))(σ:St)(Q:VK)(u:aA)(s':aS):Prop
 |mk (v:V) (H':Hp) (i:Inv X pins σ H' s') (r:RelV v u) (k:Q v H')
inductive TP(X:Cx)(pins:ab (Addr×Obj))(σ:St)(Q:Bool->Hp->Prop)(b:Bool)(s':aS):Prop
 |mk (H':Hp) (i:Inv X pins σ H' s') (k:Q b H')
inductive AP(X:Cx)(pins:ab (Addr×Obj))(σ:St)(Q:ab V->Hp->Prop)(us:ab aA)(s':aS):Prop
 |mk (vs:ab V) (H':Hp) (i:Inv X pins σ H' s') (r:Vals vs us) (k:Q vs H')
theorem EP.el{X:Cx}{pins:ab (Addr×Obj)}{σ:St}{Q:VK}{u:aA}{s':aS}{C:Prop}(h:EP X pins σ Q u s')(k:∀v H',Inv X pins σ H' s'->RelV v u->Q v H'->C):C:=by
 cases h with
 |mk v H' i r q=>exact k v H' i r q
theorem TP.el{X:Cx}{pins:ab (Addr×Obj)}{σ:St}{Q:Bool->Hp->Prop}{b:Bool}{s':aS}{C:Prop}(h:TP X pins σ Q b s')(k:∀H',Inv X pins σ H' s'->Q b H'->C):C:=by
 cases h with
 |mk H' i q=>exact k H' i q
theorem AP.el{X:Cx}{pins:ab (Addr×Obj)}{σ:St}{Q:ab V->Hp->Prop}{us:ab aA}{s':aS}{C:Prop}(h:AP X pins σ Q us s')(k:∀vs H',Inv X pins σ H' s'->Vals vs us->Q vs H'->C):C:=by
 cases h with
 |mk v H' i r q=>exact k v H' i r q
def SP(X:Cx)(pins:ab (Addr×Obj))(D:Ends)(f:Flow)(s':aS):Prop:=match f with
 | .next=>∃σ' H',Inv X pins σ' H' s'/\D.nx σ' H'
 | .brk=>∃σ' H',Inv X pins σ' H' s'/\D.bk σ' H'
 | .cont=>∃σ' H',Inv X pins σ' H' s'/\D.ct σ' H'
 | .ret u=>∃v σ' H',Inv X pins σ' H' s'/\RelV v u/\D.rt v H'
def PE(X:Cx)(e:eV)(t:TE):Prop:=∀(pins:ab (Addr×Obj))(s:aS)(σ:St)(H:Hp)(Q:VK),Inv X pins σ H s->t σ H Q->bw (bM X.prog X.w) X.A (eval e X.env) (EP X pins σ Q) X.xe s
def PT(X:Cx)(e:eV)(t:TT):Prop:=∀(pins:ab (Addr×Obj))(s:aS)(σ:St)(H:Hp)(Q:Bool->Hp->Prop),Inv X pins σ H s->t σ H Q->bw (bM X.prog X.w) X.A (isTrue e X.env (eval e X.env)) (TP X pins σ Q) X.xe s
def PW(X:Cx)(e:eV)(t:TT):Prop:=∀(whole:Sem aA)(pins:ab (Addr×Obj))(s:aS)(σ:St)(H:Hp)(Q:Bool->Hp->Prop),Inv X pins σ H s->t σ H Q->bw (bM X.prog X.w) X.A (isTrue e X.env whole) (TP X pins σ Q) X.xe s
theorem PW.pt(h:PW X e t):PT X e t:=h _
def PA(X:Cx)(es:ab eV)(t:TA):Prop:=∀(pos:Pos)(pins:ab (Addr×Obj))(s:aS)(σ:St)(H:Hp)(Q:ab V->Hp->Prop),Inv X pins σ H s->t σ H Q->bw (bM X.prog X.w) X.A (spliced (ic pos (b_ es X.env))) (AP X pins σ Q) X.xe s
def PS(X:Cx)(st:Stmt)(t:TS):Prop:=∀(pins:ab (Addr×Obj))(s:aS)(σ:St)(H:Hp)(D:Ends),Inv X pins σ H s->t D σ H->bw (bM X.prog X.w) X.A (exec st X.env) (SP X pins D) X.xe s
def QH(X:Cx)(st:ab Stmt)(t:TS):Prop:=∀(pins:ab (Addr×Obj))(s:aS)(σ:St)(H:Hp)(D:Ends),Inv X pins σ H s->t D σ H->bw (bM X.prog X.w) X.A (execs st X.env) (SP X pins D) X.xe s
theorem fZ(h:bw M A t Q E s)(hQ:∀a s,Q a s->Q' a s):bw M A t Q' E s:=i3 h hQ fun _ _ x=>x
end L2
namespace L2
open PySem PySem.Spec PyProof.Rows
section
variable{X:Cx}
theorem bin(ha:PE X a ta)(hb:PE X b tb){σ:St}{R:V->V->Hp->Prop}(I:Inv X pins σ H s)(h:ta σ H fun x H1=>tb σ H1 fun y H2=>R x y H2){f:aA->aA->Sem α}(hf:∀v u s2 x y H2,Inv X pins σ H2 s2->RelV x v->RelV y u->R x y H2->bw (bM X.prog X.w) X.A (f v u) Q X.xe s2):bw (bM X.prog X.w) X.A (eval a X.env) (fun v s₁=>bw (bM X.prog X.w) X.A (eval b X.env) (fun u s₂=>bw (bM X.prog X.w) X.A (f v u) Q X.xe s₂) X.xe s₁) X.xe s:=by refine fZ (ha pins s σ H _ I h) fun v s1 h_=>h_.el fun x H1 I1 r1 q1=>?_;refine fZ (hb pins s1 σ H1 _ I1 q1) fun u s2 h_=>h_.el fun y H2 I2 r2 q2=>?_;exact hf v u s2 x y H2 I2 r1 r2 q2
inductive Yr(i:Nat)(σ:St)(H:Hp)(Q:VK):Prop
 |mk (v:V) (h:σ[i]? =some (some v)) (k:Q v H)
def J'(i:Nat):TE:=Yr i
def tC(v:V):TE:=fun _ H Q=>Q v H
theorem Wy{pos:Pos}(hN:X.N[i]? =some x)(hv:Y9 X.env.scope x)(hd:(x==("__debug__":Str))=false:=by decide)(UQ:(x==("__classdict__":Str))=false:=by decide):PE X (.Name x pos) (J' i):=by
 intro pins s σ H Q I h;obtain⟨v,e,h⟩:=h;obtain⟨m,hn,hl⟩:=I.loc;obtain⟨u,r,l⟩:=hl i x v hN e hv;have fin:EP X pins σ Q u s:=⟨v,H,I,r,h⟩;rcases l with⟨hk,hm⟩|⟨hk,c,hc,O1⟩;·exact wpAny_Name (wpAny_loadName_local I.ok.kind hk hn hm fin) hd
 ·rcases hk with hk|hk;·exact wpAny_Name (wpAny_loadName_cell I.ok.kind hk hc O1 fin) hd
  ·exact wpAny_Name (wpAny_loadName_free I.ok.kind hk hc O1 fin UQ) hd
theorem aN:PE X (.Constant (.int i) j pos) (tC (.int i)):=fun _ _ _ H _ I h=>wpAny_Constant_int ⟨.int i,H,I.tok _,⟨_,rfl⟩,h⟩
theorem vd:PE X (.Constant (.bool b) j pos) (tC (.bl b)):=fun _ _ _ H _ I h=>Constant_bool ⟨.bl b,H,I,rfl,h⟩
theorem lr:PE X (.Constant .none j pos) (tC .iG):=fun _ _ _ H _ I h=>Constant_none ⟨.iG,H,I,rfl,h⟩
def Gl(X:Cx)(x:Str):Prop:=X.env.kindOf x=some .globalImplicit
theorem Dh{σ:St}(I:Inv X pins σ H s)(hg:Gl X x)(hm:X.mg x=some u)(h:Q u s)(hd:(x==("__debug__":Str))=false:=by decide):bw (bM X.prog X.w) X.A (eval (.Name x pos) X.env) Q E s:=GH I.ok.kind hg (Calls.loadGlobal_global (by rw[I.ok.glob];exact I.mod.glob.keeps I.bk) hm h) hd
theorem Bj{E:aA->aS->Prop}{σ:St}{pos:Pos}(I:Inv X pins σ H s)(hg:Gl X x)(hm:X.mg x=none)(hv:fN x=some u)(h:Q u s)(hn:x≠"__name__":=by decide)(hd:(x==("__debug__":Str))=false:=by decide):bw (bM X.prog X.w) X.A (eval (.Name x pos) X.env) Q E s:=by obtain⟨mb,h1,h2⟩:=I.mod.blt;exact GH I.ok.kind hg (Calls.loadGlobal_builtin (by rw[I.ok.glob];exact I.mod.glob.keeps I.bk) hm (by rw[I.ok.blt];exact h1.keeps I.bk) ((h2 x hn).trans hv) h) hd
theorem IH(hg:Gl X x)(hm:X.mg x=some u)(r:RelV v u)(hd:(x==("__debug__":Str))=false:=by decide):PE X (.Name x pos) (tC v):=fun _ _ _ H _ I h=>Dh I hg hm ⟨v,H,I,r,h⟩ hd
variable{a b:eV}{ta tb:TE}{pos:Pos}
def PC(X:Cx)(op:CmpOp)(a b:eV)(t:TE):Prop:=∀(pins:ab (Addr×Obj))(s:aS)(σ:St)(H:Hp)(Q:VK),Inv X pins σ H s->t σ H Q->bw (bM X.prog X.w) X.A (eval a X.env) (fun v s₁=>bw (bM X.prog X.w) X.A (eval b X.env) (fun u s₂=>bw (bM X.prog X.w) X.A (eF op v u) (EP X pins σ Q) X.xe s₂) X.xe s₁) X.xe s
inductive V2(Q:Bool->Hp->Prop)(x:V)(H:Hp):Prop
 |mk (k:Bool) (h:x=.bl k) (q:Q k H)
def tB(t:TE):TT:=fun σ H Q=>t σ H (V2 Q)
theorem Ww(h:PC X op a b t)(h1:vJ op b=false:=by first|exact ZP _ (by decide) (by decide)|rfl):PT X (.Compare a [op] [b] pos) (tB t):=by intro pins s σ H Q I hw;refine wpAny_isTrue_Compare1 (fZ (h pins s σ H _ I hw) fun v s1 h1=>fZ h1 fun u s2 h2=>fZ h2 fun c s3 h_=>h_.el fun x H1 I1 r1 q1=>?_) h1;obtain⟨d,rfl,q⟩:=q1;cases r1;exact d3 ⟨H1,I1,q⟩
variable{tA tB':TT}{rest:ab eV}
def abp(t u:TT):TT:=fun σ H Q=>t σ H fun c H1=>if c=true then u σ H1 Q else Q false H1
def tOr(t u:TT):TT:=fun σ H Q=>t σ H fun c H1=>if c=true then Q true H1 else u σ H1 Q
def abk(t:TT):TT:=fun σ H Q=>t σ H fun c H1=>Q (!c) H1
theorem zK(ha:PT X a tA):PW X (.BoolOp .And [a] pos) tA:=by
 intro wh pins s σ H Q I h;refine isTrue_and (fZ (ha pins s σ H Q I h) fun c s1 e=>?_);cases c with
 |true=>exact isTrue_and_nil e
 |false=>exact e
theorem RH(ha:PT X a tA):PW X (.BoolOp .Or [a] pos) tA:=by
 intro wh pins s σ H Q I h;refine isTrue_or (fZ (ha pins s σ H Q I h) fun c s1 e=>?_);cases c with
 |false=>exact isTrue_or_nil e
 |true=>exact e
theorem AV(ha:PT X a tA)(hb:PW X (.BoolOp .And (b::rest) pos) tB'):PW X (.BoolOp .And (a::b::rest) pos) (abp tA tB'):=by
 intro wh pins s σ H Q I h;refine isTrue_and (fZ (ha pins s σ H _ I h) fun c s1 h_=>h_.el fun H1 I1 q1=>?_);cases c with
 |true=>exact hb wh pins s1 σ H1 Q I1 q1
 |false=>exact⟨H1,I1,q1⟩
theorem VE(ha:PT X a tA)(hb:PW X (.BoolOp .Or (b::rest) pos) tB'):PW X (.BoolOp .Or (a::b::rest) pos) (tOr tA tB'):=by
 intro wh pins s σ H Q I h;refine isTrue_or (fZ (ha pins s σ H _ I h) fun c s1 h_=>h_.el fun H1 I1 q1=>?_);cases c with
 |true=>exact⟨H1,I1,q1⟩
 |false=>exact hb wh pins s1 σ H1 Q I1 q1
theorem ia(ha:PT X a tA):PT X (.UnaryOp .Not a pos) (abk tA):=by intro pins s σ H Q I h;exact isTrue_not (fZ (ha pins s σ H (fun c H1=>Q (!c) H1) I h) fun _ _⟨a,b,c⟩=>⟨a,b,c⟩)
def Zp(ta tb:TE):TE:=fun σ H Q=>ta σ H fun x H1=>∃c,x=.bl c/\if c=true then tb σ H1 Q else Q (.bl false) H1
def abj(ta tb:TE):TE:=fun σ H Q=>ta σ H fun x H1=>∃c,x=.bl c/\if c=true then Q (.bl true) H1 else tb σ H1 Q
def Zj(ta:TE):TE:=fun σ H Q=>ta σ H fun x H1=>∃c,x=.bl c/\Q (.bl (!c)) H1
theorem IG(h:PE X a t):PE X (.BoolOp op [a] pos) t:=fun pins s σ H Q I hw=>BoolOp_one (h pins s σ H Q I hw)
theorem MW(ha:PE X a ta)(hb:PE X (.BoolOp .And (b::rest) pos) tb):PE X (.BoolOp .And (a::b::rest) pos) (Zp ta tb):=by
 intro pins s σ H Q I h;refine BoolOp_and (fZ (ha pins s σ H _ I h) fun v s1 h_=>h_.el fun x H1 I1 r1 q1=>?_);obtain⟨c,rfl,q1⟩:=q1;cases r1;refine d3 ?_;cases c with
 |true=>exact hb pins s1 σ H1 Q I1 q1
 |false=>exact⟨.bl false,H1,I1,rfl,q1⟩
theorem ZI(ha:PE X a ta)(hb:PE X (.BoolOp .Or (b::rest) pos) tb):PE X (.BoolOp .Or (a::b::rest) pos) (abj ta tb):=by
 intro pins s σ H Q I h;refine BoolOp_or (fZ (ha pins s σ H _ I h) fun v s1 h_=>h_.el fun x H1 I1 r1 q1=>?_);obtain⟨c,rfl,q1⟩:=q1;cases r1;refine d3 ?_;cases c with
 |false=>exact hb pins s1 σ H1 Q I1 q1
 |true=>exact⟨.bl true,H1,I1,rfl,q1⟩
theorem Wz(ha:PE X a ta):PE X (.UnaryOp .Not a pos) (Zj ta):=by intro pins s σ H Q I h;refine UnaryOp_ (fZ (ha pins s σ H _ I h) fun v s1 h_=>h_.el fun x H1 I1 r1 q1=>?_);obtain⟨c,rfl,q1⟩:=q1;cases r1;exact not_of (d3 ⟨.bl (!c),H1,I1,rfl,q1⟩)
def tIf(t:TT)(ta tb:TE):TE:=fun σ H Q=>t σ H fun c H1=>if c=true then ta σ H1 Q else tb σ H1 Q
theorem Eg(hc:PT X c tA)(ha:PE X a ta)(hb:PE X b tb):PE X (.IfExp c a b pos) (tIf tA ta tb):=by
 intro pins s σ H Q I h;refine wpAny_IfExp (fZ (hc pins s σ H _ I h) fun d s1 h_=>h_.el fun H1 I1 q1=>?_);cases d with
 |true=>exact ha pins s1 σ H1 Q I1 q1
 |false=>exact hb pins s1 σ H1 Q I1 q1
end
end L2
namespace L2
open PySem PySem.Spec PyProof.Rows
def cN(K:ag)(H:Hp)(a:Addr)(xs:ab V):Prop:=
 Rd H a (.lst xs)\/
  ∃(o:Obj)(dk:i5 aA)(n:Nat),K.lookup a=some o/\o.cls=.type "list"/\o.dict=none/\o.data=.seq dk n/\dk.size<=sizeLine/\Vals xs dk.toList
def q_(K:ag)(H:Hp)(a:Addr)(xs:ab V):Prop:=
 Rd H a (.tup xs)\/
  ∃(o:Obj)(dk:i5 aA)(n:Nat),K.lookup a=some o/\o.cls=.type "tuple"/\o.data=.seq dk n/\dk.size<=sizeLine/\Vals xs dk.toList
def ac3:aA->aY V
 | .none=>some .iG
 | .bool b=>some (.bl b)
 | .int i _=>some (.int i)
 | .str x _=>some (.str x)
 | .bytes b _=>some (.JY b)
 | .float b _=>some (.flt b)
 | .ref a=>some (.ref a)
 | .type n=>some (.ty n)
 |_=>none
theorem RelV.abs(r:RelV x u):ac3 u=some x:=by
 cases x with
 |iG=>cases r;rfl
 |bl _=>cases r;rfl
 |int _=>obtain⟨t,rfl⟩:=r;rfl
 |str _=>obtain⟨t,rfl⟩:=r;rfl
 |JY _=>obtain⟨t,rfl⟩:=r;rfl
 |flt _=>obtain⟨t,rfl⟩:=r;rfl
 |ref _=>cases r;rfl
 |ty _=>cases r;rfl
theorem RelV.inj(r:RelV x u)(q:RelV y u):x=y:=bE (r.abs.symm.trans q.abs)
theorem Vals.inj:∀{xs ys:ab V}{us:ab aA},Vals xs us->Vals ys us->xs=ys
 |_,_,_,.nil,.nil=>rfl
 |_,_,_,.cons r t,.cons r' t'=>by rw[r.inj r',Vals.inj t t']
section
variable{X:Cx}{pins:ab (Addr×Obj)}{σ:St}{H:Hp}{s:aS}{a:Addr}{xs ys:ab V}
theorem cN.of{K:ag}(h:H a=some (.lst xs)):cN K H a xs:=.inl (.inl h)
theorem q_.of{K:ag}(h:H a=some (.tup xs)):q_ K H a xs:=.inl (.inl h)
theorem Inv.list(I:Inv X pins σ H s)(h:cN X.K H a xs):∃dk:ab aA,Vals xs dk/\PlainL s.heap a dk.toArray/\xs.length<=sizeLine:=by
 rcases h with h|⟨o,dk,n,hk,hc,hd,hs,hz,r⟩;·obtain⟨z,dk,n,r,e⟩:=h.ok I.gn;exact⟨dk,r,⟨_,n,e,rfl,rfl,rfl⟩,z⟩
 ·refine⟨dk.toList,r,⟨o,n,I.Nk a o hk,hc,hd,by simpa using hs⟩,?_⟩;have e:=r.length;simp only[bK]at e;omega
theorem Inv.tuple(I:Inv X pins σ H s)(h:q_ X.K H a xs):∃dk:ab aA,Vals xs dk/\IsTup s.heap a dk.toArray/\xs.length<=sizeLine:=by
 rcases h with h|⟨o,dk,n,hk,hc,hs,hz,r⟩;·obtain⟨z,dk,r,p⟩:=h.ok I.gn;exact⟨dk,r,p,z⟩
 ·refine⟨dk.toList,r,⟨o,I.Nk a o hk,hc,n,by simpa using hs⟩,?_⟩;have e:=r.length;simp only[bK]at e;omega
theorem Inv.K3(I:Inv X pins σ H s)(h:cN X.K H a xs)(h':cN X.K H a ys):xs=ys:=by
 obtain⟨dk,r,⟨o,n,e,_,_,d⟩,_⟩:=I.list h;obtain⟨zZ,r',⟨o',n',e',_,_,d'⟩,_⟩:=I.list h';rw[e]at e';cases e';rw[d]at d';injection d' with d1 _;have:dk=zZ:=by simpa using gh Array.toList d1
 subst this;exact r.inj r'
theorem Inv.Pw(I:Inv X pins σ H s)(h:q_ X.K H a xs)(h':q_ X.K H a ys):xs=ys:=by
 obtain⟨dk,r,⟨o,e,_,n,d⟩,_⟩:=I.tuple h;obtain⟨zZ,r',⟨o',e',_,n',d'⟩,_⟩:=I.tuple h';rw[e]at e';cases e';rw[d]at d';injection d' with d1 _;have:dk=zZ:=by simpa using gh Array.toList d1
 subst this;exact r.inj r'
end
abbrev Cx.Ao(X:Cx)(E:aA->aS->Prop):Cx:={X with xe:=E}
abbrev Cx.nox(X:Cx):Cx:=X.Ao fun _ _=>False
theorem Cx.Ok.Ao{X:Cx}(ok:X.Ok)(E:aA->aS->Prop):(X.Ao E).Ok:=⟨ok.mod,ok.kind,ok.glob,ok.blt,ok.above,ok.inj,ok.has,ok.cab,ok.hd,ok.frames,ok.stk,ok.exf,ok.bs,ok.TB,ok.RX,ok.SF,ok.CO,ok.XN⟩
theorem Cx.Ok.uF{X:Cx}(ok:(X.Ao E).Ok):X.Ok:=⟨ok.mod,ok.kind,ok.glob,ok.blt,ok.above,ok.inj,ok.has,ok.cab,ok.hd,ok.frames,ok.stk,ok.exf,ok.bs,ok.TB,ok.RX,ok.SF,ok.CO,ok.XN⟩
section
variable{X:Cx}{pins:ab (Addr×Obj)}{σ:St}{H:Hp}{s:aS}{E:aA->aS->Prop}
theorem Inv.Ao(I:Inv X pins σ H s)(E:aA->aS->Prop):Inv (X.Ao E) pins σ H s:=⟨I.ok.Ao E,I.os,I.bare,I.base,I.loc,I.cell,I.free,I.qz,I.pin,I.gn,I.len⟩
theorem Inv.uF(I:Inv (X.Ao E) pins σ H s):Inv X pins σ H s:=⟨I.ok.uF,I.os,I.bare,I.base,I.loc,I.cell,I.free,I.qz,I.pin,I.gn,I.len⟩
theorem SP.uF(h:SP (X.Ao E) pins D f s'):SP X pins D f s':=by
 cases f with
 |next=>obtain⟨σ',H',I,q⟩:=h;exact⟨σ',H',I.uF,q⟩
 |brk=>obtain⟨σ',H',I,q⟩:=h;exact⟨σ',H',I.uF,q⟩
 |cont=>obtain⟨σ',H',I,q⟩:=h;exact⟨σ',H',I.uF,q⟩
 |ret u=>obtain⟨v,σ',H',I,r,q⟩:=h;exact⟨v,σ',H',I.uF,r,q⟩
theorem QH.nox{st:ab Stmt}(h:QH X.nox st t):QH X st t:=fun pins s σ H D I hw=>i3 (h pins s σ H D (I.Ao _) hw) (fun _ _ q=>q.uF) fun _ _ z=>fJ z
end
section
variable{X:Cx}{st:Stmt}{rest:ab Stmt}{t u:TS}{e:eV}{te:TE}{pos:Pos}
def Rj:TS:=fun D σ H=>D.nx σ H
def cv(t u:TS):TS:=fun D σ H=>t {D with nx:=u D} σ H
theorem br:QH X [] Rj:=fun _ _ σ H _ I h=>yR ⟨σ,H,I,h⟩
theorem ah(h1:PS X st t)(h2:QH X rest u):QH X (st::rest) (cv t u):=by
 intro pins s σ H D I h;refine wpAny_execs_cons (fZ (h1 pins s σ H {D with nx:=u D} I h) fun f s1 q=>?_);cases f with
 |next=>obtain⟨σ',H',I',q⟩:=q;exact h2 pins s1 σ' H' D I' q
 |ret v=>exact q
 |brk=>exact q
 |cont=>exact q
theorem QW{t1 t2:TS}{D:Ends}{σ:St}{H:Hp}(q:let u1:=t2;cv t1 u1 D σ H):cv t1 t2 D σ H:=q
theorem MD{t1 t2 t3:TS}{D:Ends}{σ:St}{H:Hp}(q:let u2:=t3;let u1:=cv t2 u2;cv t1 u1 D σ H):cv t1 (cv t2 t3) D σ H:=q
theorem MC{t1 t2 t3 t4:TS}{D:Ends}{σ:St}{H:Hp}(q:let u3:=t4;let u2:=cv t3 u3;let u1:=cv t2 u2;cv t1 u1 D σ H):cv t1 (cv t2 (cv t3 t4)) D σ H:=q
theorem Yw{t1 t2 t3 t4 t5:TS}{D:Ends}{σ:St}{H:Hp}(q:let u4:=t5;let u3:=cv t4 u4;let u2:=cv t3 u3;let u1:=cv t2 u2;cv t1 u1 D σ H):cv t1 (cv t2 (cv t3 (cv t4 t5))) D σ H:=q
theorem Yv{t1 t2 t3 t4 t5 t6:TS}{D:Ends}{σ:St}{H:Hp}(q:let u5:=t6;let u4:=cv t5 u5;let u3:=cv t4 u4;let u2:=cv t3 u3;let u1:=cv t2 u2;cv t1 u1 D σ H):cv t1 (cv t2 (cv t3 (cv t4 (cv t5 t6)))) D σ H:=q
theorem sq6{t1 t2 t3 t4 t5 t6 t7:TS}{D:Ends}{σ:St}{H:Hp}(q:let u6:=t7;let u5:=cv t6 u6;let u4:=cv t5 u5;let u3:=cv t4 u4;let u2:=cv t3 u3;let u1:=cv t2 u2;cv t1 u1 D σ H):cv t1 (cv t2 (cv t3 (cv t4 (cv t5 (cv t6 t7))))) D σ H:=q
theorem sq7{t1 t2 t3 t4 t5 t6 t7 t8:TS}{D:Ends}{σ:St}{H:Hp}(q:let u7:=t8;let u6:=cv t7 u7;let u5:=cv t6 u6;let u4:=cv t5 u5;let u3:=cv t4 u4;let u2:=cv t3 u3;let u1:=cv t2 u2;cv t1 u1 D σ H):cv t1 (cv t2 (cv t3 (cv t4 (cv t5 (cv t6 (cv t7 t8)))))) D σ H:=q
theorem sq8{t1 t2 t3 t4 t5 t6 t7 t8 t9:TS}{D:Ends}{σ:St}{H:Hp}(q:let u8:=t9;let u7:=cv t8 u8;let u6:=cv t7 u7;let u5:=cv t6 u6;let u4:=cv t5 u5;let u3:=cv t4 u4;let u2:=cv t3 u3;let u1:=cv t2 u2;cv t1 u1 D σ H):cv t1 (cv t2 (cv t3 (cv t4 (cv t5 (cv t6 (cv t7 (cv t8 t9))))))) D σ H:=q
theorem sq9{t1 t2 t3 t4 t5 t6 t7 t8 t9 Ib:TS}{D:Ends}{σ:St}{H:Hp}(q:let u9:=Ib;let u8:=cv t9 u9;let u7:=cv t8 u8;let u6:=cv t7 u7;let u5:=cv t6 u6;let u4:=cv t5 u5;let u3:=cv t4 u4;let u2:=cv t3 u3;let u1:=cv t2 u2;cv t1 u1 D σ H):cv t1 (cv t2 (cv t3 (cv t4 (cv t5 (cv t6 (cv t7 (cv t8 (cv t9 Ib)))))))) D σ H:=q
theorem abr{t1 t2 t3 t4 t5 t6 t7 t8 t9 Ib JT:TS}{D:Ends}{σ:St}{H:Hp}(q:let Zc:=JT;let u9:=cv Ib Zc;let u8:=cv t9 u9;let u7:=cv t8 u8;let u6:=cv t7 u7;let u5:=cv t6 u6;let u4:=cv t5 u5;let u3:=cv t4 u4;let u2:=cv t3 u3;let u1:=cv t2 u2;cv t1 u1 D σ H):cv t1 (cv t2 (cv t3 (cv t4 (cv t5 (cv t6 (cv t7 (cv t8 (cv t9 (cv Ib JT))))))))) D σ H:=q
theorem adS{t1 t2 t3 t4 t5 t6 t7 t8 t9 Ib JT Wk:TS}{D:Ends}{σ:St}{H:Hp}(q:let u11:=Wk;let Zc:=cv JT u11;let u9:=cv Ib Zc;let u8:=cv t9 u9;let u7:=cv t8 u8;let u6:=cv t7 u7;let u5:=cv t6 u6;let u4:=cv t5 u5;let u3:=cv t4 u4;let u2:=cv t3 u3;let u1:=cv t2 u2;cv t1 u1 D σ H):cv t1 (cv t2 (cv t3 (cv t4 (cv t5 (cv t6 (cv t7 (cv t8 (cv t9 (cv Ib (cv JT Wk)))))))))) D σ H:=q
theorem abq{t1 t2 t3 t4 t5 t6 t7 t8 t9 Ib JT Wk t13:TS}{D:Ends}{σ:St}{H:Hp}(q:let u12:=t13;let u11:=cv Wk u12;let Zc:=cv JT u11;let u9:=cv Ib Zc;let u8:=cv t9 u9;let u7:=cv t8 u8;let u6:=cv t7 u7;let u5:=cv t6 u6;let u4:=cv t5 u5;let u3:=cv t4 u4;let u2:=cv t3 u3;let u1:=cv t2 u2;cv t1 u1 D σ H):cv t1 (cv t2 (cv t3 (cv t4 (cv t5 (cv t6 (cv t7 (cv t8 (cv t9 (cv Ib (cv JT (cv Wk t13))))))))))) D σ H:=q
theorem ay(h1:PS X st t):QH X [st] t:=by
 intro pins s σ H D I h;refine wpAny_execs_cons (fZ (h1 pins s σ H D I h) fun f s1 q=>?_);cases f with
 |next=>exact yR q
 |ret v=>exact q
 |brk=>exact q
 |cont=>exact q
theorem Inv.quiet{σ:St}(I:Inv X pins σ H s):interactive X.env=false:=by simp[interactive,I.ok.kind]
def Vt(te:TE):TS:=fun D σ H=>te σ H fun _ H1=>D.nx σ H1
theorem da(he:PE X e te)(hs:wY e none pos.line X.env=pure false:=by rfl):PS X (.Expr e pos) (Vt te):=by intro pins s σ H D I h;exact wpAny_Expr_any (fZ (he pins s σ H _ I h) fun v s1 h_=>h_.el fun x H1 I1 r1 q1=>⟨σ,H1,I1,q1⟩) I.quiet hs
def abi(te:TE):TS:=fun D σ H=>te σ H D.rt
theorem aX(he:PE X e te):PS X (.Return (some e) pos) (abi te):=by intro pins s σ H D I h;exact wpAny_Return_some (fZ (he pins s σ H _ I h) fun v s1 h_=>h_.el fun x H1 I1 r1 q1=>⟨x,σ,H1,I1,r1,q1⟩)
def Zl(c:TT)(t u:TS):TS:=fun D σ H=>c σ H fun b H1=>if b=true then t D σ H1 else u D σ H1
theorem cM(hc:PT X c tc)(ha:QH X a t)(hb:QH X b u):PS X (.If c a b pos) (Zl tc t u):=by
 intro pins s σ H D I h;refine wpAny_If (fZ (hc pins s σ H _ I h) fun d s1 h_=>h_.el fun H1 I1 q1=>?_);cases d with
 |true=>exact ha pins s1 σ H1 D I1 q1
 |false=>exact hb pins s1 σ H1 D I1 q1
def Wf:TS:=fun _ _ _=>False
theorem RI:PS X st Wf:=fun _ _ _ _ _ _ h=>h.elim
end
abbrev TG:=V->St->Hp->(St->Hp->Prop)->Prop
abbrev Vg:=ab V->St->Hp->(St->Hp->Prop)->Prop
def PG(X:Cx)(target:eV)(t:TG):Prop:=∀(pins:ab (Addr×Obj))(s:aS)(σ:St)(H:Hp)(v:V)(u:aA)(Q:St->Hp->Prop),Inv X pins σ H s->RelV v u->t v σ H Q->bw (bM X.prog X.w) X.A (assign target X.env u) (fun _ s'=>∃σ' H',Inv X pins σ' H' s'/\Q σ' H') X.xe s
def PGs(X:Cx)(ts:ab eV)(t:Vg):Prop:=∀(pins:ab (Addr×Obj))(s:aS)(σ:St)(H:Hp)(vs:ab V)(us:ab aA)(Q:St->Hp->Prop),Inv X pins σ H s->Vals vs us->t vs σ H Q->bw (bM X.prog X.w) X.A (assignInOrder ((yH ts X.env).map (·.2)) us) (fun _ s'=>∃σ' H',Inv X pins σ' H' s'/\Q σ' H') X.xe s
abbrev S5:=V->V->V->Hp->(Hp->Prop)->Prop
def Yj(X:Cx)(t:S5):Prop:=∀(pins:ab (Addr×Obj))(s:aS)(σ:St)(H:Hp)(o i v:V)(ov iv u:aA)(Q:Hp->Prop),Inv X pins σ H s->RelV o ov->RelV i iv->RelV v u->t o i v H Q->bw (bM X.prog X.w) X.A (setItem ov iv u) (fun _ s'=>∃H',Inv X pins σ H' s'/\Q H') X.xe s
abbrev TIp:=V->V->Hp->VK->Prop
def PIp(X:Cx)(op:Operator)(t:TIp):Prop:=∀(pins:ab (Addr×Obj))(s:aS)(σ:St)(H:Hp)(x y:V)(v u:aA)(Q:VK),Inv X pins σ H s->RelV x v->RelV y u->t x y H Q->bw (bM X.prog X.w) X.A (inplaceOp op v u) (EP X pins σ Q) X.xe s
section
variable{X:Cx}{pos:Pos}
def vw(i:Nat):TG:=fun v σ H Q=>Q (σ.set i (some v)) H
theorem cQ(hN:X.N.Nodup)(hi:X.N[i]? =some x)(hx:Loc X.env.scope x)(hf:X.fn x=true\/X.env.scope.names.lookup x=some .local:=by first|exact .inl rfl|exact .inr rfl|assumption):PG X (.Name x pos) (vw i):=by intro pins s σ H v u Q I r h;exact wpAny_assign_Name (DL I hN hi hx r (fun s' I'=>⟨_,H,I',h⟩) hf)
def aaD:Vg:=fun vs σ H Q=>vs=[]/\Q σ H
inductive Yq(t:TG)(u:Vg)(vs:ab V)(σ:St)(H:Hp)(Q:St->Hp->Prop):Prop
 |mk (v:V) (r:ab V) (h:vs=v::r) (k:t v σ H fun σ' H'=>u r σ' H' Q)
def Sw(t:TG)(u:Vg):Vg:=Yq t u
theorem IF:PGs X [] aaD:=by intro pins s σ H vs us Q I r h;obtain⟨e,h⟩:=h;subst e;cases r;exact assignInOrder_nil ⟨σ,H,I,h⟩
theorem rL{e:eV}{es:ab eV}{t:TG}{u:Vg}(h1:PG X e t)(h2:PGs X es u)(hs:(yH (e::es) X.env).map (·.2)=assign e X.env::(yH es X.env).map (·.2):=by rfl):PGs X (e::es) (Sw t u):=by
 intro pins s σ H vs us Q I r h;obtain⟨v,vr,e1,h⟩:=h;subst e1;cases r with
 |cons r rr=>rw[hs];refine assignInOrder_cons (fZ (h1 pins s σ H _ _ _ I r h) fun _ s1⟨σ1,H1,I1,q1⟩=>?_);exact h2 pins s1 σ1 H1 _ _ Q I1 rr q1
inductive aa5(K:ag)(n:Nat)(t:Vg)(v:V)(σ:St)(H:Hp)(Q:St->Hp->Prop):Prop
 |mk (a:Addr) (xs:ab V) (h1:v=.ref a) (h2:q_ K H a xs) (h3:xs.length=n) (k:t xs σ H Q)
def aaC(K:ag)(n:Nat)(t:Vg):TG:=aa5 K n t
theorem MT{es:ab eV}{k:Nat}{t:Vg}{n:Nat}(hc:X.calm=true)(h:PGs X es t)(hn:(yH es X.env).length=n:=by rfl)(UG:(yH es X.env).findIdx? (·.1)=none:=by rfl):PG X (.Tuple es k pos) (aaC X.K n t):=by intro pins s σ H v u Q I r hw;obtain⟨a,xs,e1,hq,hl,hw⟩:=hw;subst e1;cases r;obtain⟨dk,rv,ht,hz⟩:=I.tuple hq;refine assign_Tuple_tuple (I.ok.hd hc) ht (by simp[hn,<-hl,rv.length]) UG fun h' hx=>?_;have I1:Inv X pins σ H {s with heap:=h'}:=I.kept (t':=s.toks) fun b o e=>hx b o (cG (bI e)) e;exact h pins _ σ H xs _ Q I1 (by simpa using rv) hw
def acN(to ti:TE)(t:S5):TG:=fun v σ H Q=>to σ H fun o H1=>ti σ H1 fun i H2=>t o i v H2 fun H3=>Q σ H3
theorem pJ{o i:eV}{to ti:TE}{t:S5}(ho:PE X o to)(hi:PE X i ti)(hs:Yj X t)
  (ha:∀v,assign (.Subscript o i pos) X.env v=(do
   let ov<-qb [v] (eval o X.env)
   let iv<-qb [v,ov] (eval i X.env)
   Ce pos
   qb [v,ov,iv] (setItem ov iv v)
   release [v,ov,iv] []):=by intro _;rfl):PG X (.Subscript o i pos) (acN to ti t):=by
 intro pins s σ H v u Q I r h
 rw[ha]
 refine ai (jD (fZ (ho pins s σ H _ I h) fun ov s1 h_=>h_.el fun x H1 I1 r1 q1=>?_))
 refine ai (jD (fZ (hi pins s1 σ H1 _ I1 q1) fun iv s2 h_=>h_.el fun y H2 I2 r2 q2=>?_))
 refine ai (wpAny_standAt (ai (jD (fZ (hs pins s2 σ H2 x y v ov iv u _ I2 r1 r2 r q2) fun _ s3⟨H3,I3,q3⟩=>?_))))
 exact wpAny_release ⟨σ,H3,I3,q3⟩
def Wj(te:TE)(g:TG):TS:=fun D σ H=>te σ H fun x H1=>g x σ H1 D.nx
theorem pI{tg e:eV}{te:TE}{g:TG}(he:PE X e te)(hg:PG X tg g)(hs:swapsWithSole [tg] e pos.line X.env=pure false:=by rfl)(hw:swappedStores [tg] e X.env=pure none:=by rfl)(h1:(yH [tg] X.env).map (·.2)=[assign tg X.env]:=by rfl):PS X (.Assign [tg] e pos) (Wj te g):=by intro pins s σ H D I h;refine wpAny_Assign_stores (fZ (he pins s σ H _ I h) fun v s1 h_=>h_.el fun x H1 I1 r1 q1=>?_) hs hw;rw[h1];exact fZ (hg pins s1 σ H1 x v _ I1 r1 q1) fun _ s2 q=>q
theorem cE(hN:X.N.Nodup)(hi:X.N[i]? =some x)(hx:Loc X.env.scope x)(he:PE X e te)(hs:wY e (some (.Name x pos')) pos.line X.env=pure false:=by rfl)(hf:X.fn x=true\/X.env.scope.names.lookup x=some .local:=by first|exact .inl rfl|exact .inr rfl|assumption):PS X (.Assign [.Name x pos'] e pos) (Wj te (vw i)):=by intro pins s σ H D I h;refine wpAny_Assign_Name (fZ (he pins s σ H _ I h) fun v s1 h_=>h_.el fun y H1 I1 r1 q1=>?_) hs;exact DL I1 hN hi hx r1 (fun s2 I2=>⟨_,H1,I2,q1⟩) hf
def abo(i:Nat)(te:TE)(ti:TIp):TS:=fun D σ H=>∃x,σ[i]? =some (some x)/\te σ H fun y H1=>ti x y H1 fun z H2=>D.nx (σ.set i (some z)) H2
theorem RJ(hN:X.N.Nodup)(hi:X.N[i]? =some x)(hx:Loc X.env.scope x)(he:PE X e te)(ho:PIp X op ti)(hf:X.fn x=true\/X.env.scope.names.lookup x=some .local:=by first|exact .inl rfl|exact .inr rfl|assumption):PS X (.AugAssign (.Name x pos') op e pos) (abo i te ti):=by
 intro pins s σ H D I h;obtain⟨v,e1,h⟩:=h;obtain⟨m,hn,hl⟩:=I.loc;have d8:Y9 X.env.scope x:=by rcases hx with k|k;exact .inl k;exact .inr (.inl k)
 obtain⟨u,r,l⟩:=hl i x v hi e1 d8;refine wpAny_AugAssign_Name ?_;have go:bw (bM X.prog X.w) X.A (eval e X.env) (fun w s₂=>bw (bM X.prog X.w) X.A (inplaceOp op u w) (fun r s₃=>bw (bM X.prog X.w) X.A (storeName X.env x r) (fun _=>SP X pins D .next) X.xe s₃) X.xe s₂) X.xe s:=by refine fZ (he pins s σ H _ I h) fun w s1 h_=>h_.el fun y H1 I1 r1 q1=>?_;refine fZ (ho pins s1 σ H1 v y u w _ I1 r r1 q1) fun z s2 h_=>h_.el fun zv H2 I2 r2 q2=>?_;exact DL I2 hN hi hx r2 (fun s3 I3=>⟨_,H2,I3,q2⟩) hf
 rcases l with⟨hk,hm⟩|⟨hk,c,hc,O1⟩;·exact wpAny_loadName_local I.ok.kind hk hn hm go
 ·rcases hk with hk|hk;·exact wpAny_loadName_cell I.ok.kind hk hc O1 go
  ·rcases hx with k|k;·have:X.env.scope.names.lookup x=some .free:=hk;rw[k]at this;cases this
   ·have:X.env.scope.names.lookup x=some .free:=hk;rw[k]at this;cases this
def Zo(to ti te:TE)(TJ:V->V->Hp->VK->Prop)(tip:TIp)(TF:S5):TS:=fun D σ H=>to σ H fun o H1=>ti σ H1 fun i H2=>TJ o i H2 fun x H3=>te σ H3 fun y H4=>tip x y H4 fun z H5=>TF o i z H5 fun H6=>D.nx σ H6
def aaZ(X:Cx)(t:V->V->Hp->VK->Prop):Prop:=∀(pins:ab (Addr×Obj))(s:aS)(σ:St)(H:Hp)(o i:V)(ov iv:aA)(Q:VK),Inv X pins σ H s->RelV o ov->RelV i iv->t o i H Q->bw (bM X.prog X.w) X.A (Gy ov iv) (EP X pins σ Q) X.xe s
theorem Ug{o i e:eV}{to ti te:TE}{TJ:V->V->Hp->VK->Prop}{tip:TIp}{TF:S5}{op:Operator}{Px:Pos}(ho:PE X o to)(hi:PE X i ti)(hg:aaZ X TJ)(he:PE X e te)(hp:PIp X op tip)(hs:Yj X TF)(ha:∀ov iv new,augStore i ov iv new=(do qb [new,ov,iv] (setItem ov iv new);release [new,ov,iv] [];pure .next):=by intros;rfl):PS X (.AugAssign (.Subscript o i Px) op e pos) (Zo to ti te TJ tip TF):=by intro pins s σ H D I h;refine wpAny_AugAssign_SubscriptAny (fZ (ho pins s σ H _ I h) fun ov s1 h_=>h_.el fun x1 H1 I1 r1 q1=>?_) ha;refine fZ (hi pins s1 σ H1 _ I1 q1) fun iv s2 h_=>h_.el fun x2 H2 I2 r2 q2=>?_;refine fZ (hg pins s2 σ H2 x1 x2 ov iv _ I2 r1 r2 q2) fun old s3 h_=>h_.el fun x3 H3 I3 r3 q3=>?_;refine fZ (he pins s3 σ H3 _ I3 q3) fun v s4 h_=>h_.el fun x4 H4 I4 r4 q4=>?_;refine fZ (hp pins s4 σ H4 x3 x4 old v _ I4 r3 r4 q4) fun new s5 h_=>h_.el fun x5 H5 I5 r5 q5=>?_;exact fZ (hs pins s5 σ H5 x1 x2 x5 ov iv new _ I5 r1 r2 r5 q5) fun _ s6⟨H6,I6,q6⟩=>⟨σ,H6,I6,q6⟩
def ipI(f:Int->Int->Int):TIp:=fun x y H Q=>∃i j,x=.int i/\y=.int j/\Q (.int (f i j)) H
theorem Nn:PIp X .Add (ipI fun i j=>i+j):=by intro pins s σ H x y v u Q I r1 r2 h;obtain⟨i,j,e1,e2,q⟩:=h;subst e1;subst e2;obtain⟨t,rfl⟩:=r1;obtain⟨t',rfl⟩:=r2;exact iadd_int ⟨.int _,H,I.tok _,⟨_,rfl⟩,q⟩
end
section
variable{X:Cx}{pos:Pos}
def We(c:TT)(tb:TS):TS:=fun D σ H=>∃W:Nat->St->Hp->Prop,(∃m,W m σ H)/\∀m σ H,W m σ H->c σ H fun b H1=>if b=true then∃N:St->Hp->Prop,(∀σ' H',N σ' H'->∃m',m'<m/\W m' σ' H')/\tb {D with nx:=N,ct:=N,bk:=D.nx} σ H1 else D.nx σ H1
theorem u_(hp:PassesOwn (bM X.prog X.w) X.A X.env X.xe)(hc:PT X c tc)(hb:QH X body tb):PS X (.While c body [] pos) (We tc tb):=by
 intro pins s σ H D I h;obtain⟨W,⟨m0,w0⟩,turn⟩:=h;refine wpAny_While (codeAny_whileLoop (fun n s'=>∃σ' H',Inv X pins σ' H' s'/\W n σ' H') ?_ m0 ⟨σ,H,I,w0⟩);rintro n s1 ⟨σ1,H1,I1,w1⟩;refine ko hp (fZ (hc pins s1 σ1 H1 _ I1 (turn n σ1 H1 w1)) fun b s2 h_=>h_.el fun H2 I2 q2=>?_);cases b with
 |true=>
  obtain⟨N,hN,q2⟩:=q2;rw[aw rfl];refine ko hp (fZ (hb pins s2 σ1 H2 _ I2 q2) fun f s3 q3=>?_);cases f with
  |next=>obtain⟨σ3,H3,I3,n3⟩:=q3;obtain⟨m',hm,w3⟩:=hN σ3 H3 n3;exact⟨m',hm,σ3,H3,I3,w3⟩
  |cont=>obtain⟨σ3,H3,I3,n3⟩:=q3;obtain⟨m',hm,w3⟩:=hN σ3 H3 n3;exact⟨m',hm,σ3,H3,I3,w3⟩
  |brk=>exact q3
  |ret v=>exact q3
 |false=>rw[ao af];exact yR ⟨σ1,H2,I2,q2⟩
end
structure It where
 go:Nat->Hp->Prop
 L8:Nat->Hp->V->Hp->Prop
 stop:Nat->Hp->Prop
def Fd(X:Cx)(pins:ab (Addr×Obj))(H:Hp)(b:Addr):Prop:=H b=none/\b≠X.env.locals/\b∉X.fs/\(b∈X.ex\/X.G8.heap.objs.size<=b)/\(∀x c,X.env.cells.lookup x=some c->c≠b)/\∀p∈X.pn++pins,p.1≠b
theorem Inv.Qp{σ:St}{b:Addr}(I:Inv X pins σ H s)(hb:s.heap.objs.size<=b)(hn:H' b=none):Fd X pins H' b:=by
 refine⟨hn,vM (cC I.lt hb),I.abE hb,.inr (bZ I.sz hb),fun x c e z=>?_,fun p hp z=>?_⟩;·obtain⟨v,q⟩:=I.cell x c e;exact bF (cC q.lt (by rw[z];exact hb)) (gj _)
 ·exact bF (cC (bI (I.pin p hp).1) (by rw[z];exact hb)) (gj _)
structure Turn(P:bT)(w:cU)(K:ag)(tg:eV)(J:It)(fp:ab Addr)(it:Addr)(tn:Nat->Heap->Prop):Prop where
 mem:it∈fp
 obj:∀i h,tn i h->∀b∈fp,∃o,h.get? b=some o/\∀v,o.data≠.cell v
 keep:∀i h h',tn i h->(∀b∈fp,∀o,h.get? b=some o->h'.get? b=some o)->tn i h'
 item:∀(X:Cx),X.prog=P->X.w=w->X.K=K->X.calm=true->∀(i:Nat)(pins:ab (Addr×Obj))(s:aS)(σ:St)(H:Hp)(E:aA->aS->Prop),Inv X pins σ H s->(∀b∈fp,Fd X pins H b)->tn i s.heap->J.go i H->
  bw (bM P w) X.A (nM (.ref it)) (fun r s1=>∃u,r=some u/\
   bw (bM P w) X.A (yT tg (.ref it) u) (fun _ s2=>∃x H',Inv X pins σ H' s2/\RelV x u/\J.L8 i H x H'/\tn (i+1) s2.heap/\∀b∈fp,H' b=none) E s1) E s
 done:∀(X:Cx),X.prog=P->X.w=w->X.K=K->X.calm=true->∀(i:Nat)(pins:ab (Addr×Obj))(s:aS)(σ:St)(H:Hp)(E:aA->aS->Prop),Inv X pins σ H s->(∀b∈fp,Fd X pins H b)->tn i s.heap->J.stop i H->
  bw (bM P w) X.A (nM (.ref it)) (fun r s1=>r=none/\Inv X pins σ H s1) E s
 self:∀(A:gR)(i:Nat)(s:aS)(Q:aA->aS->Prop)(E:aA->aS->Prop),tn i s.heap->Q (.ref it) s->bw (bM P w) A (pyIter (.ref it)) Q E s
abbrev TI:=St->Hp->(It->Hp->Prop)->Prop
def PIE(X:Cx)(pins:ab (Addr×Obj))(σ:St)(tg:eV)(R:It->Hp->Prop)(itv:aA)(s2:aS):Prop:=∃(it:Addr)(fp:ab Addr)(tn:Nat->Heap->Prop)(J:It)(H':Hp),itv=.ref it/\Inv X pins σ H' s2/\Turn X.prog X.w X.K tg J fp it tn/\tn 0 s2.heap/\(∀b∈fp,Fd X pins H' b)/\R J H'
def PI(X:Cx)(tg iter:eV)(wi:TI):Prop:=∀(pins:ab (Addr×Obj))(s:aS)(σ:St)(H:Hp)(R:It->Hp->Prop),Inv X pins σ H s->wi σ H R->bw (bM X.prog X.w) X.A (eval iter X.env) (fun v s1=>bw (bM X.prog X.w) X.A (pyIter v) (PIE X pins σ tg R) X.xe s1) X.xe s
theorem Hq(ho:s.heap.get? it=some o)(hc:o.cls=.type n)(hd:o.data=.fields vs)(hn:["enumerate","zip","dict_itemiterator","dict_reverseitemiterator","odict_iterator","itertools.zip_longest","itertools.pairwise"].contains n=false)(hQ:Q () s):bw M A (yT tg (.ref it) u) Q E s:=by unfold yT;cases tg<;>first
  |exact aL hQ
  |(cases u<;>first
    |exact aL hQ
    |(refine ai (wpAny_load ho ?_)
      rw[hc,hd];show bw M A (if(["enumerate","zip","dict_itemiterator","dict_reverseitemiterator","odict_iterator","itertools.zip_longest","itertools.pairwise"].contains n&&vs[0]? ==some (gF _))=true then _ else _) Q E s;rw[ao (by intro h;rw[hn,xp]at h;cases h)];exact aL hQ))
def Pj(K:ag)(a:Addr):It:=⟨fun i H=>∃xs x,cN K H a xs/\xs[i]? =some x,fun i H x H'=>H'=H/\∀xs,cN K H a xs->xs[i]? =some x,fun i H=>∃xs,cN K H a xs/\xs.length<=i⟩
def V0(K:ag)(a:Addr):It:=⟨fun i H=>∃xs x,q_ K H a xs/\xs[i]? =some x,fun i H x H'=>H'=H/\∀xs,q_ K H a xs->xs[i]? =some x,fun i H=>∃xs,q_ K H a xs/\xs.length<=i⟩
def Mf(lo:Int)(n:Nat):It:=⟨fun i _=>i<n,fun i H x H'=>H'=H/\x=.int (lo+i),fun i _=>n<=i⟩
theorem Pr{K:ag}(a it:Addr):Turn P w K tg (Pj K a) [it] it (fun i h=>h.IsListIter it a i)where
 mem:=by simp
 obj:=fun i h st b hb=>by
  have e:b=it:=by simpa using hb
  subst e
  obtain⟨o,e,c,d⟩:=st
  exact⟨o,e,fun v z=>by rw[d]at z;cases z⟩
 keep:=fun i h h' st k=>st.at fun o e=>k it (by simp) o e
 item:=by
  intro X hP hw hK hc i pins s σ H E I hf st hg
  subst hP hw hK
  obtain⟨xs,x,hq,hx⟩:=hg
  obtain⟨dk,rv,p,hz⟩:=I.list hq
  obtain⟨u,hu,ru⟩:=rv.get hx
  obtain⟨f0,f1,f2,f3,f4,f5⟩:=hf it (by simp)
  refine wpAny_pyNext_list_item st p.isList (x:=u) (by simpa using hu) fun h' Kc sb=>?_
  have I1:Inv X pins σ H {s with heap:=h'}:=I.turned (t':=s.toks) (fun b o hb e=>(sb.2 b hb).trans e) f0 f1 f3 f4 f5
  obtain⟨o,e,c,d⟩:=id Kc
  exact⟨u,rfl,Hq (s:={s with heap:=h'}) e c d (by decide) ⟨x,H,I1,ru,⟨rfl,fun ys hy=>by rw[I.K3 hy hq];exact hx⟩,Kc,fun b hb=>(hf b hb).1⟩⟩
 done:=by
  intro X hP hw hK hc i pins s σ H E I hf st hg
  subst hP hw hK
  obtain⟨xs,hq,hx⟩:=hg
  obtain⟨dk,rv,p,hz⟩:=I.list hq
  obtain⟨f0,f1,f2,f3,f4,f5⟩:=hf it (by simp)
  have hl:=rv.length
  exact wpAny_pyNext_list_end (I.ok.hd hc) st p.isList (by simp;omega) fun h' eb=>⟨rfl,I.turned (t':=s.toks) (fun b o hb e=>eb b o hb e) f0 f1 f3 f4 f5⟩
 self:=fun _ _ _ _ _ st h=>wpAny_pyIter_listiter st h
theorem Mm{K:ag}(a it:Addr):Turn P w K tg (V0 K a) [it] it (fun i h=>h.IsTupleIter it a i)where
 mem:=by simp
 obj:=fun i h st b hb=>by
  have e:b=it:=by simpa using hb
  subst e
  obtain⟨o,e,c,d⟩:=st
  exact⟨o,e,fun v z=>by rw[d]at z;cases z⟩
 keep:=fun i h h' st k=>st.at fun o e=>k it (by simp) o e
 item:=by
  intro X hP hw hK hc i pins s σ H E I hf st hg
  subst hP hw hK
  obtain⟨xs,x,hq,hx⟩:=hg
  obtain⟨dk,rv,p,hz⟩:=I.tuple hq
  obtain⟨u,hu,ru⟩:=rv.get hx
  obtain⟨f0,f1,f2,f3,f4,f5⟩:=hf it (by simp)
  refine wpAny_pyNext_tuple_item st (show s.heap.IsTuple a dk.toArray from p) (x:=u) (by simpa using hu) fun h' Kc sb=>?_
  have I1:Inv X pins σ H {s with heap:=h'}:=I.turned (t':=s.toks) (fun b o hb e=>(sb.2 b hb).trans e) f0 f1 f3 f4 f5
  obtain⟨o,e,c,d⟩:=id Kc
  exact⟨u,rfl,Hq (s:={s with heap:=h'}) e c d (by decide) ⟨x,H,I1,ru,⟨rfl,fun ys hy=>by rw[I.Pw hy hq];exact hx⟩,Kc,fun b hb=>(hf b hb).1⟩⟩
 done:=by
  intro X hP hw hK hc i pins s σ H E I hf st hg
  subst hP hw hK
  obtain⟨xs,hq,hx⟩:=hg
  obtain⟨dk,rv,p,hz⟩:=I.tuple hq
  obtain⟨f0,f1,f2,f3,f4,f5⟩:=hf it (by simp)
  have hl:=rv.length
  exact wpAny_pyNext_tuple_end (I.ok.hd hc) st (show s.heap.IsTuple a dk.toArray from p) (by simp;omega) fun h' eb=>⟨rfl,I.turned (t':=s.toks) (fun b o hb e=>eb b o hb e) f0 f1 f3 f4 f5⟩
 self:=fun _ _ _ _ _ st h=>wpAny_pyIter_tupleiter st h
theorem Mn{K:ag}(it:Addr)(lo:Int)(n:Nat):Turn P w K tg (Mf lo n) [it] it (fun i h=>IsRangeIter h it (lo+(i:Nat)*1) ((n:Int)-(i:Nat)) 1)where
 mem:=by simp
 obj:=fun i h st b hb=>by
  have e:b=it:=by simpa using hb
  subst e
  exact⟨_,st,fun v z=>by
   have z':Data.fields _=Data.cell v:=z
   cases z'⟩
 keep:=fun i h h' st k=>k it (by simp) _ st
 item:=by
  intro X hP hw hK hc i pins s σ H E I hf st hg
  subst hP hw hK
  obtain⟨f0,f1,f2,f3,f4,f5⟩:=hf it (by simp)
  have W:=Walks.range (prog:=X.prog) (w:=X.w) (I.ok.hd hc) it lo 1 n
  refine W.item i s _ _ hg st fun v h' tk hv Kc kk=>?_
  obtain⟨t,rfl⟩:=hv
  have I1:Inv X pins σ H {s with heap:=h',toks:=tk}:=I.turned (fun b o hb e=>kk b o (by simpa using hb) e) f0 f1 f3 f4 f5
  refine⟨_,rfl,Hq (s:={s with heap:=h',toks:=tk}) (n:="range_iterator") Kc rfl rfl (by decide) ⟨.int (lo+i),H,I1,⟨t,?_⟩,⟨rfl,rfl⟩,Kc,fun b hb=>(hf b hb).1⟩⟩
  rw[Int.mul_one]
 done:=by
  intro X hP hw hK hc i pins s σ H E I hf st hg
  subst hP hw hK
  obtain⟨f0,f1,f2,f3,f4,f5⟩:=hf it (by simp)
  exact wpAny_pyNext_range_end (I.ok.hd hc) st (by have:n<=i:=hg;omega) fun h' eb=>⟨rfl,I.turned (t':=s.toks) (fun b o hb e=>eb b o hb e) f0 f1 f3 f4 f5⟩
 self:=fun _ _ _ _ _ st h=>wpAny_pyIter_rangeiter st h
end L2
namespace L2
open PySem PySem.Spec PyProof.Rows
section
variable{X:Cx}{tg:eV}
inductive EiL(K:ag)(R:It->Hp->Prop)(x:V)(H1:Hp):Prop
 |mk (a:Addr) (h1:x=.ref a) (h2:∃xs,cN K H1 a xs) (k:R (Pj K a) H1)
def Z6(K:ag)(tl:TE):TI:=fun σ H R=>tl σ H (EiL K R)
def abM(K:ag)(tl:TE):TI:=fun σ H R=>tl σ H fun x H1=>∃a,x=.ref a/\(∃xs,q_ K H1 a xs)/\R (V0 K a) H1
theorem dP(hl:PE X l tl):PI X tg l (Z6 X.K tl):=by
 intro pins s σ H R I h;refine fZ (hl pins s σ H _ I h) fun v s1 h_=>h_.el fun x H1 I1 r1 q1=>?_;obtain⟨a,e,⟨xs,hq⟩,q⟩:=q1;subst e;cases r1;obtain⟨dk,rv,p,hz⟩:=I1.list hq;refine Gu p.isList ?_;refine⟨s1.heap.objs.size,[s1.heap.objs.size],_,_,H1,rfl,I1.kept (t':=s1.toks) fun b o e=>aK _ e,Pr a _,⟨_,bu _ rfl,rfl,rfl⟩,fun b hb=>?_,q⟩;have e:b=s1.heap.objs.size:=by simpa using hb
 subst e;exact I1.Qp (aD _) (I1.gn.fresh (aD _))
theorem MR(hl:PE X l tl):PI X tg l (abM X.K tl):=by
 intro pins s σ H R I h;refine fZ (hl pins s σ H _ I h) fun v s1 h_=>h_.el fun x H1 I1 r1 q1=>?_;obtain⟨a,e,⟨xs,hq⟩,q⟩:=q1;subst e;cases r1;obtain⟨dk,rv,p,hz⟩:=I1.tuple hq;refine wpAny_pyIter_tuple (show s1.heap.IsTuple a dk.toArray from p) ?_;refine⟨s1.heap.objs.size,[s1.heap.objs.size],_,_,H1,rfl,I1.kept (t':=s1.toks) fun b o e=>aK _ e,Mm a _,⟨_,bu _ rfl,rfl,rfl⟩,fun b hb=>?_,q⟩;have e:b=s1.heap.objs.size:=by simpa using hb
 subst e;exact I1.Qp (aD _) (I1.gn.fresh (aD _))
theorem Kt{σ:St}{lo hi:Int}(I:Inv X pins σ H s)(h1:-(2^62)<=lo)(h2:lo<2^62)(h3:-(2^62)<=hi)(h4:hi<2^62)(q:R (Mf lo (hi-lo).toNat) H):bw (bM X.prog X.w) X.A (pyIter (.ref s.heap.objs.size)) (PIE X pins σ tg R) E {s with heap:=s.heap.push {cls:=.type "range",data:=.fields #[.int lo t,.int hi u,.int 1 v]},toks:=tk}:=by
 refine wpAny_pyIter_range (Cf ..) (small_one h1 h2 h3 h4) ?_;have I1:Inv X pins σ H {s with heap:=s.heap.push {cls:=.type "range",data:=.fields #[.int lo t,.int hi u,.int 1 v]},toks:=tk}:=I.kept fun b o e=>aK _ e;refine⟨(s.heap.push {cls:=.type "range",data:=.fields #[.int lo t,.int hi u,.int 1 v]}).objs.size,[(s.heap.push {cls:=.type "range",data:=.fields #[.int lo t,.int hi u,.int 1 v]}).objs.size],_,_,H,rfl,I1.kept (t':=tk) fun b o e=>aK _ e,Mn _ lo (hi-lo).toNat,?_,fun b hb=>?_,q⟩
 ·have e1:lo+((0:Nat):Int)*1=lo:=by simp
  have e2:(((hi-lo).toNat:Nat):Int)-((0:Nat):Int)=cV lo hi 1:=by rw[rangeSize_one];split<;>omega
  show IsRangeIter _ _ (lo+((0:Nat):Int)*1) ((((hi-lo).toNat:Nat):Int)-((0:Nat):Int)) 1;rw[e1,e2];exact bu _ rfl
 ·have e:b=(s.heap.push {cls:=.type "range",data:=.fields #[.int lo t,.int hi u,.int 1 v]}).objs.size:=by simpa using hb
  subst e;exact I1.Qp (aD _) (I1.gn.fresh (aD _))
inductive ady(R:It->Hp->Prop)(vs:ab V)(H1:Hp):Prop
 |mk (j:Int) (h1:vs=[.int j]) (h2:-(2^62)<=j) (h3:j<2^62) (k:R (Mf 0 j.toNat) H1)
def Z5(ta:TA):TI:=fun σ H R=>ta σ H (ady R)
inductive adx(R:It->Hp->Prop)(vs:ab V)(H1:Hp):Prop
 |mk (i j:Int) (h1:vs=[.int i,.int j]) (h2:-(2^62)<=i/\i<2^62/\-(2^62)<=j/\j<2^62) (k:R (Mf i (j-i).toNat) H1)
def Z4(ta:TA):TI:=fun σ H R=>ta σ H (adx R)
theorem rK(hg:Gl X "range")(hm:X.mg "range"=none)(ha:PA X [a] ta)(hs:b_ [a] X.env=[(false,eval a X.env)]:=by rfl):PI X tg (.Call (.Name "range" p) [a] [] pos) (Z5 ta):=by
 intro pins s σ H R I h;refine Call_ (Bj I hg hm boot_range (gV (fZ (ha pos pins s σ H _ I h) fun us s1 h_=>h_.el fun vs H1 I1 r1 q1=>?_) hs rfl));obtain⟨j,e,q1,q2,q⟩:=q1;subst e;cases r1 with
 |cons r rr=>cases rr;obtain⟨t,rfl⟩:=r;exact call_range_1 (Kt I1 (by omega) (by omega) q1 q2 (by simpa using q))
theorem vW{p pos:Pos}(hg:Gl X "range")(hm:X.mg "range"=none)(ha:PA X [a,b] ta)(hs:b_ [a,b] X.env=[(false,eval a X.env),(false,eval b X.env)]:=by rfl)(hs2:b_ [b] X.env=[(false,eval b X.env)]:=by rfl):PI X tg (.Call (.Name "range" p) [a,b] [] pos) (Z4 ta):=by
 intro pins s σ H R I h;refine Call_ (Bj I hg hm boot_range (gV (fZ (ha pos pins s σ H _ I h) fun us s1 h_=>h_.el fun vs H1 I1 r1 q1=>?_) (by rw[hs,hs2]) (by rw[hs2];rfl)));obtain⟨i,j,e,⟨q1,q2,q3,q4⟩,q⟩:=q1;subst e;cases r1 with
 |cons r rr=>
  cases rr with
  |cons r' rr=>cases rr;obtain⟨t,rfl⟩:=r;obtain⟨t',rfl⟩:=r';exact call_range_2 (Kt I1 q1 q2 q3 q4 q)
def abm(wi:TI)(g:TG)(tb:TS):TS:=fun D σ H=>wi σ H fun J H1=>∃W:Nat->Nat->St->Hp->Prop,(∃m,W 0 m σ H1)/\∀i m σ H,W i m σ H->(J.stop i H/\D.nx σ H)\/(J.go i H/\∃N:St->Hp->Prop,(∀σ' H',N σ' H'->∃m',m'<m/\W (i+1) m' σ' H')/\∀x H',J.L8 i H x H'->g x σ H' fun σ2 H2=>tb {D with nx:=N,ct:=N,bk:=D.nx} σ2 H2)
def Ee(fp:ab Addr)(h:Heap):ab (Addr×Obj):=fp.filterMap fun b=>(h.get? b).map fun o=>(b,o)
theorem yk(hb:b∈fp)(e:h.get? b=some o):(b,o)∈Ee fp h:=List.mem_filterMap.mpr ⟨b,hb,by rw[e];rfl⟩
theorem P1(hp:p∈Ee fp h):p.1∈fp/\h.get? p.1=some p.2:=by
 obtain⟨b,hb,e⟩:=List.mem_filterMap.mp hp;cases q:h.get? b with
 |none=>rw[q]at e;cases e
 |some o=>rw[q]at e;have e':(b,o)=p:=bE e;subst e';exact⟨hb,q⟩
theorem Inv.pinned{σ:St}(I:Inv X pins σ H s)(hf:∀b∈fp,Fd X pins H b)(ho:∀b∈fp,∃o,s.heap.get? b=some o/\∀v,o.data≠.cell v):Inv X (pins++Ee fp s.heap) σ H s:=I.OG fun p hp=>(a_.mp hp).elim (fun z=>I.pin p (c6 _ z)) fun z=>by obtain⟨hb,e⟩:=P1 z;obtain⟨f0,f1,f2,_⟩:=hf p.1 hb;obtain⟨o,e',d⟩:=ho p.1 hb;rw[e]at e';cases e';exact⟨e,f0,f1,f2,d⟩
theorem Inv.y0{σ:St}(I:Inv X (pins++pl) σ H s):Inv X pins σ H s:=I.OG fun p hp=>I.pin p (c6 _ (ja _ hp))
theorem gN(hp:PassesOwn (bM X.prog X.w) X.A X.env X.xe)(hc:X.calm=true)(hi:PI X tg iter wi)(hg:PG X tg g)(hb:QH X body tb)(hs:∀x,uq iter X.env x=pure x:=by intro _;rfl):PS X (.For tg iter body [] pos) (abm wi g tb):=by
 intro pins s σ H D I h;refine wpAny_For (fZ (hi pins s σ H _ I h) fun v s1 h1=>fZ h1 fun itv s2 h2=>?_) hs;obtain⟨it,fp,tn,J,H2,e,I2,T,st2,f2,W,⟨m0,w0⟩,turn⟩:=h2;subst e;have MA:∀{H':Hp},(∀b∈fp,H' b=none)->∀b∈fp,Fd X pins H' b:=fun hn b hb=>⟨hn b hb,(f2 b hb).2⟩;refine codeAny_forLoop_any (fun n s'=>∃i σ' H',Inv X pins σ' H' s'/\tn i s'.heap/\(∀b∈fp,H' b=none)/\W i n σ' H') ?_ m0 ⟨0,σ,H2,I2,st2,fun b hb=>(f2 b hb).1,w0⟩;rintro n s3 ⟨i,σ3,H3,I3,st3,fr3,w3⟩;rcases turn i n σ3 H3 w3 with⟨stop,qn⟩|⟨go,N,hN,step⟩;·refine ko hp (fZ (T.done X rfl rfl rfl hc i pins s3 σ3 H3 X.xe I3 (MA fr3) st3 stop) fun r s4⟨hr,I4⟩=>?_);subst hr;exact yR ⟨σ3,H3,I4,qn⟩
 ·refine ko hp (fZ (T.item X rfl rfl rfl hc i pins s3 σ3 H3 X.xe I3 (MA fr3) st3 go) fun r s4⟨u,hr,h4⟩=>?_);subst hr;refine ko hp (fZ h4 fun _ s5⟨x,H5,I5,r5,y5,Yu,fr5⟩=>?_);have I5':=I5.pinned (MA fr5) (T.obj _ _ Yu);refine ko hp (fZ (hg _ s5 σ3 H5 x u _ I5' r5 (step x H5 y5)) fun _ s6⟨σ6,H6,I6,q6⟩=>?_);refine ko hp (fZ (hb _ s6 σ6 H6 _ I6 q6) fun f s7 q7=>?_);have again:∀{σ7:St}{H7:Hp},Inv X (pins++Ee fp s5.heap) σ7 H7 s7->N σ7 H7->∃m,m<n/\∃i σ' H',Inv X pins σ' H' s7/\tn i s7.heap/\(∀b∈fp,H' b=none)/\W i m σ' H':=fun{σ7 H7} I7 n7=>by obtain⟨m',hm,w7⟩:=hN σ7 H7 n7;refine⟨m',hm,i+1,σ7,H7,I7.y0,T.keep _ _ _ Yu fun b hb o e=>(I7.pin (b,o) (c6 _ (c6 _ (yk hb e)))).1,fun b hb=>?_,w7⟩;obtain⟨o,e,d⟩:=T.obj _ _ Yu b hb;exact(I7.pin (b,o) (c6 _ (c6 _ (yk hb e)))).2.1
  cases f with
  |next=>obtain⟨σ7,H7,I7,n7⟩:=q7;exact again I7 n7
  |cont=>obtain⟨σ7,H7,I7,n7⟩:=q7;exact again I7 n7
  |brk=>obtain⟨σ7,H7,I7,q7⟩:=q7;exact⟨σ7,H7,I7.y0,q7⟩
  |ret v=>obtain⟨x7,σ7,H7,I7,r7,q7⟩:=q7;exact⟨x7,σ7,H7,I7.y0,r7,q7⟩
end
theorem e_{K:ag}{g:TG}{tb:TS}{D:Ends}(Pv:Nat->St->Hp->Prop)(h0:Pv 0 σ H)(hl:∀i σ H,i<=xs.length->Pv i σ H->cN K H a xs)(hs:∀i x σ H,xs[i]? =some x->Pv i σ H->g x σ H fun σ2 H2=>tb {D with nx:=Pv (i+1),ct:=Pv (i+1),bk:=D.nx} σ2 H2)(hd:∀σ H,Pv xs.length σ H->D.nx σ H):∃W:Nat->Nat->St->Hp->Prop,(∃m,W 0 m σ H)/\∀i m σ H,W i m σ H->((Pj K a).stop i H/\D.nx σ H)\/((Pj K a).go i H/\∃N:St->Hp->Prop,(∀σ' H',N σ' H'->∃m',m'<m/\W (i+1) m' σ' H')/\∀x H',(Pj K a).L8 i H x H'->g x σ H' fun σ2 H2=>tb {D with nx:=N,ct:=N,bk:=D.nx} σ2 H2):=by
 refine⟨fun i m σ H=>m=xs.length-i/\i<=xs.length/\Pv i σ H,⟨xs.length,by simp,cH _,h0⟩,?_⟩;rintro i m σ H ⟨rfl,hi,p⟩;have q:=hl i σ H hi p;by_cases jQ:i<xs.length;·refine .inr ⟨⟨xs,xs[i],q,by simp[jQ]⟩,Pv (i+1),fun σ' H' p'=>⟨xs.length-(i+1),by omega,rfl,jQ,p'⟩,fun x H' y=>?_⟩;obtain⟨e,y⟩:=y;subst e;exact hs i x σ _ (y xs q) p
 ·have e:i=xs.length:=by omega
  subst e;exact .inl ⟨⟨xs,q,aD _⟩,hd σ H p⟩
theorem Hs{lo:Int}{g:TG}{tb:TS}{D:Ends}(Pv:Nat->St->Hp->Prop)(h0:Pv 0 σ H)(hs:∀i σ H,i<n->Pv i σ H->g (.int (lo+i)) σ H fun σ2 H2=>tb {D with nx:=Pv (i+1),ct:=Pv (i+1),bk:=D.nx} σ2 H2)(hd:∀σ H,Pv n σ H->D.nx σ H):∃W:Nat->Nat->St->Hp->Prop,(∃m,W 0 m σ H)/\∀i m σ H,W i m σ H->((Mf lo n).stop i H/\D.nx σ H)\/((Mf lo n).go i H/\∃N:St->Hp->Prop,(∀σ' H',N σ' H'->∃m',m'<m/\W (i+1) m' σ' H')/\∀x H',(Mf lo n).L8 i H x H'->g x σ H' fun σ2 H2=>tb {D with nx:=N,ct:=N,bk:=D.nx} σ2 H2):=by
 refine⟨fun i m σ H=>m=n-i/\i<=n/\Pv i σ H,⟨n,by simp,cH _,h0⟩,?_⟩;rintro i m σ H ⟨rfl,hi,p⟩;by_cases jQ:i<n;·refine .inr ⟨jQ,Pv (i+1),fun σ' H' p'=>⟨n-(i+1),by omega,rfl,jQ,p'⟩,fun x H' y=>?_⟩;obtain⟨e,y⟩:=y;subst e y;exact hs i σ _ jQ p
 ·have e:i=n:=by omega
  subst e;exact .inl ⟨aD _,hd σ H p⟩
end L2
namespace L2
open PySem PySem.Spec PyProof.Rows
abbrev R2:=V->V->Hp->VK->Prop
def xo(X:Cx)(f:aA->aA->Sem aA)(r:R2):Prop:=∀(pins:ab (Addr×Obj))(s:aS)(σ:St)(H:Hp)(x y:V)(v u:aA)(Q:VK),Inv X pins σ H s->RelV x v->RelV y u->r x y H Q->bw (bM X.prog X.w) X.A (f v u) (EP X pins σ Q) X.xe s
def oS(X:Cx)(f:aA)(r:ab V->Hp->VK->Prop):Prop:=∀(pins:ab (Addr×Obj))(s:aS)(σ:St)(H:Hp)(xs:ab V)(us:ab aA)(Q:VK),Inv X pins σ H s->Vals xs us->r xs H Q->bw (bM X.prog X.w) X.A (se f us) (EP X pins σ Q) X.xe s
def ac4(X:Cx)(r:V->Hp->(Bool->Hp->Prop)->Prop):Prop:=∀(pins:ab (Addr×Obj))(s:aS)(σ:St)(H:Hp)(x:V)(v:aA)(Q:Bool->Hp->Prop),Inv X pins σ H s->RelV x v->r x H Q->bw (bM X.prog X.w) X.A (truthy v) (TP X pins σ Q) X.xe s
def KO2(r:R2)(Q:VK)(x:V):VK:=fun y H2=>r x y H2 Q
def KO1(r:R2)(tb:TE)(σ:St)(Q:VK):VK:=fun x H1=>tb σ H1 (KO2 r Q x)
def Yt(r:R2)(ta tb:TE):TE:=fun σ H Q=>ta σ H (KO1 r tb σ Q)
inductive EI(C:Int->Int->Prop)(g:Int->Int->V)(x y:V)(H:Hp)(Q:VK):Prop
 |mk (i j:Int) (h1:x=.int i) (h2:y=.int j) (h3:C i j) (k:Q (g i j) H)
def rI(C:Int->Int->Prop)(g:Int->Int->V):R2:=EI C g
inductive EI0(g:Int->Int->V)(x y:V)(H:Hp)(Q:VK):Prop
 |mk (i j:Int) (h1:x=.int i) (h2:y=.int j) (k:Q (g i j) H)
def RG(g:Int->Int->V):R2:=EI0 g
section
variable{X:Cx}{a b c:eV}{ta tb tc:TE}{pos:Pos}
theorem Ya(ha:PE X a ta)(hb:PE X b tb){σ:St}{R:V->V->Hp->Prop}(I:Inv X pins σ H s)(h:ta σ H fun x H1=>tb σ H1 fun y H2=>R x y H2){f:aA->aA->Sem aA}(hf:∀v u s2 x y H2,Inv X pins σ H2 s2->RelV x v->RelV y u->R x y H2->bw (bM X.prog X.w) X.A (f v u) Q X.xe s2):bw (bM X.prog X.w) X.A (eval a X.env) (fun v s₁=>bw (bM X.prog X.w) X.A (eval b X.env) (fun u s₂=>bw (bM X.prog X.w) X.A (f v u) Q X.xe s₂) X.xe s₁) X.xe s:=by refine fZ (ha pins s σ H _ I h) fun v s1 h_=>h_.el fun x H1 I1 r1 q1=>?_;refine fZ (hb pins s1 σ H1 _ I1 q1) fun u s2 h_=>h_.el fun y H2 I2 r2 q2=>?_;exact hf v u s2 x y H2 I2 r1 r2 q2
theorem dj(ho:xo X (xa op) r)(ha:PE X a ta)(hb:PE X b tb):PE X (.BinOp a op b pos) (Yt r ta tb):=by intro pins s σ H Q I h;exact wpAny_BinOp (Ya ha hb I h fun v u s2 x y H2 I2 rx ry q=>ho pins s2 σ H2 x y v u Q I2 rx ry q)
theorem opI{g:Int->Int->Int}(rule:∀(i j:Int)(t u:Tok)(s:aS)(Q:aA->aS->Prop)(E:aA->aS->Prop),C i j->Q (.int (g i j) s.toks) {s with toks:=s.toks+1}->bw (bM X.prog X.w) X.A (f (.int i t) (.int j u)) Q E s):xo X f (rI C fun i j=>.int (g i j)):=by intro pins s σ H x y v u Q I rx ry h;obtain⟨i,j,rfl,rfl,hc,q⟩:=h;obtain⟨t,rfl⟩:=rx;obtain⟨t',rfl⟩:=ry;exact rule i j t t' s _ _ hc ⟨.int (g i j),H,I.tok _,⟨_,rfl⟩,q⟩
theorem ZK{g:Int->Int->Int}(rule:∀(i j:Int)(t u:Tok)(s:aS)(Q:aA->aS->Prop)(E:aA->aS->Prop),Q (.int (g i j) s.toks) {s with toks:=s.toks+1}->bw (bM X.prog X.w) X.A (f (.int i t) (.int j u)) Q E s):xo X f (RG fun i j=>.int (g i j)):=by intro pins s σ H x y v u Q I rx ry h;obtain⟨i,j,rfl,rfl,q⟩:=h;obtain⟨t,rfl⟩:=rx;obtain⟨t',rfl⟩:=ry;exact rule i j t t' s _ _ ⟨.int (g i j),H,I.tok _,⟨_,rfl⟩,q⟩
theorem Ur{g:Int->Int->Bool}(rule:∀(i j:Int)(t u:Tok)(s:aS)(Q:aA->aS->Prop)(E:aA->aS->Prop),Q (.bool (g i j)) s->bw (bM X.prog X.w) X.A (f (.int i t) (.int j u)) Q E s):xo X f (RG fun i j=>.bl (g i j)):=by intro pins s σ H x y v u Q I rx ry h;obtain⟨i,j,rfl,rfl,q⟩:=h;obtain⟨t,rfl⟩:=rx;obtain⟨t',rfl⟩:=ry;exact rule i j t t' s _ _ ⟨.bl (g i j),H,I,rfl,q⟩
def adE(i j:Int):Prop:=0<j/\j<1073741824
def Ys(i j:Int):Prop:=(-(2^64)<i/\i<2^64)\/(-(2^64)<j/\j<2^64)
theorem Ys.ok(h:Ys i j):IntMulOk i j:=by
 rcases h with⟨h1,h2⟩|⟨h1,h2⟩;·exact .of_left (intBits_le_64 h1 h2)
 ·exact .of_right (intBits_le_64 h1 h2)
theorem gO:xo X (xa .Add) (RG fun i j=>.int (i+j)):=ZK fun _ _ _ _ _ _ _ q=>add_int q
theorem qU:xo X (xa .Sub) (RG fun i j=>.int (i-j)):=ZK fun _ _ _ _ _ _ _ q=>sub_int q
theorem A7:xo X (xa .Mult) (rI Ys fun i j=>.int (i*j)):=opI fun _ _ _ _ _ _ _ hc q=>mul_int q hc.ok
theorem Df:xo X (xa .FloorDiv) (rI adE fun i j=>.int (i/j)):=opI fun i j _ _ _ _ _ hc q=>by have h1:(0:Int)<j:=hc.1;have h2:j<1073741824:=hc.2;exact floordiv_int (by omega) (by rw[Int.fdiv_eq_ediv_of_nonneg i (by omega)];exact q) (.inl (tO (by omega)))
theorem ya:xo X (xa .Mod) (rI (fun _ j=>0<j) fun i j=>.int (i%j)):=opI fun i j _ _ _ _ _ hc q=>by have h1:(0:Int)<j:=hc;exact mod_int' (by omega) (by rw[Int.fmod_eq_emod_of_nonneg i (by omega)];exact q)
end
def Zv:V->V->Bool
 | .iG,.iG=>true| .iG,.int _=>true| .int _,.iG=>true| .iG,.bl _=>true| .bl _,.iG=>true| .iG,.str _=>true| .str _,.iG=>true
 | .int _,.int _=>true| .bl _,.bl _=>true| .str _,.str _=>true| .JY _,.JY _=>true
 | .int _,.str _=>true| .str _,.int _=>true| .bl _,.str _=>true| .str _,.bl _=>true
 |_,_=>false
def rEq:R2:=fun x y H Q=>Zv x y=true/\Q (.bl (decide (x=y))) H
def rNe:R2:=fun x y H Q=>Zv x y=true/\Q (.bl (!decide (x=y))) H
theorem Pb:decide (V.int i=V.int j)=(i==j):=by rw[dh];simp
theorem SM:decide (V.bl i=V.bl j)=(i==j):=by rw[dh];simp
theorem Pa:decide (V.str i=V.str j)=(i==j):=by rw[dh];simp
theorem Pc:decide (V.JY i=V.JY j)=(i.toList==j.toList):=by rw[dh];cases i;cases j;simp
section
variable{X:Cx}{a b c:eV}{ta tb tc:TE}{pos:Pos}
theorem fb{σ:St}(I:Inv X pins σ H s)(q:Q (.bl k) H)(e:k=k'):EP X pins σ Q (.bool k') s:=by subst e;exact⟨.bl k,H,I,rfl,q⟩
theorem iB:xo X (eF .Eq) rEq:=by
 intro pins s σ H x y v u Q I rx ry h;obtain⟨hs,q⟩:=h;cases x with
 |iG=>
  cases rx;cases y with
  |iG=>cases ry;exact PySem.EqNone.eq_none_none (fb I q (by simp))
  |bl j=>cases ry;exact PySem.EqNone.eq_none_bool (fb I q (by simp))
  |int j=>obtain⟨t',rfl⟩:=ry;exact PySem.EqNone.eq_none_int (fb I q (by simp))
  |str j=>obtain⟨t',rfl⟩:=ry;exact PySem.EqNone.eq_none_str (fb I q (by simp))
  |_=>exact bF (show false=true from hs) af
 |bl i=>
  cases rx;cases y with
  |iG=>cases ry;exact PySem.EqNone.eq_bool_none (fb I q (by simp))
  |bl j=>cases ry;exact eq_bool (fb I q SM)
  |str j=>obtain⟨t',rfl⟩:=ry;exact PySem.EqMixed.eq_bool_str (fb I q (by simp))
  |_=>exact bF (show false=true from hs) af
 |int i=>
  obtain⟨t,rfl⟩:=rx;cases y with
  |iG=>cases ry;exact PySem.EqNone.eq_int_none (fb I q (by simp))
  |int j=>obtain⟨t',rfl⟩:=ry;exact eq_int (fb I q Pb)
  |str j=>obtain⟨t',rfl⟩:=ry;exact PySem.EqMixed.eq_int_str (fb I q (by simp))
  |_=>exact bF (show false=true from hs) af
 |str i=>
  obtain⟨t,rfl⟩:=rx;cases y with
  |iG=>cases ry;exact PySem.EqNone.eq_str_none (fb I q (by simp))
  |bl j=>cases ry;exact PySem.EqMixed.eq_str_bool (fb I q (by simp))
  |int j=>obtain⟨t',rfl⟩:=ry;exact PySem.EqMixed.eq_str_int (fb I q (by simp))
  |str j=>obtain⟨t',rfl⟩:=ry;exact eq_str (fb I q Pa)
  |_=>exact bF (show false=true from hs) af
 |JY i=>
  obtain⟨t,rfl⟩:=rx;cases y with
  |JY j=>obtain⟨t',rfl⟩:=ry;exact PySem.W.eq_bytes (fb I q Pc)
  |_=>exact bF (show false=true from hs) af
 |_=>cases y<;>exact bF (show false=true from hs) af
theorem n4:xo X (eF .NotEq) rNe:=by
 intro pins s σ H x y v u Q I rx ry h;obtain⟨hs,q⟩:=h;cases x with
 |iG=>
  cases rx;cases y with
  |iG=>cases ry;exact PySem.EqNone.ne_none_none (fb I q (by simp))
  |bl j=>cases ry;exact PySem.EqNone.ne_none_bool (fb I q (by simp))
  |int j=>obtain⟨t',rfl⟩:=ry;exact PySem.EqNone.ne_none_int (fb I q (by simp))
  |str j=>obtain⟨t',rfl⟩:=ry;exact PySem.EqNone.ne_none_str (fb I q (by simp))
  |_=>exact bF (show false=true from hs) af
 |bl i=>
  cases rx;cases y with
  |iG=>cases ry;exact PySem.EqNone.ne_bool_none (fb I q (by simp))
  |bl j=>cases ry;exact ne_bool (fb I q (gh not SM))
  |str j=>obtain⟨t',rfl⟩:=ry;exact PySem.EqMixed.ne_bool_str (fb I q (by simp))
  |_=>exact bF (show false=true from hs) af
 |int i=>
  obtain⟨t,rfl⟩:=rx;cases y with
  |iG=>cases ry;exact PySem.EqNone.ne_int_none (fb I q (by simp))
  |int j=>obtain⟨t',rfl⟩:=ry;exact ne_int (fb I q (gh not Pb))
  |str j=>obtain⟨t',rfl⟩:=ry;exact PySem.EqMixed.ne_int_str (fb I q (by simp))
  |_=>exact bF (show false=true from hs) af
 |str i=>
  obtain⟨t,rfl⟩:=rx;cases y with
  |iG=>cases ry;exact PySem.EqNone.ne_str_none (fb I q (by simp))
  |bl j=>cases ry;exact PySem.EqMixed.ne_str_bool (fb I q (by simp))
  |int j=>obtain⟨t',rfl⟩:=ry;exact PySem.EqMixed.ne_str_int (fb I q (by simp))
  |str j=>obtain⟨t',rfl⟩:=ry;exact ne_str (fb I q (gh not Pa))
  |_=>exact bF (show false=true from hs) af
 |JY i=>
  obtain⟨t,rfl⟩:=rx;cases y with
  |JY j=>obtain⟨t',rfl⟩:=ry;exact PySem.W.ne_bytes (fb I q (gh not Pc))
  |_=>exact bF (show false=true from hs) af
 |_=>cases y<;>exact bF (show false=true from hs) af
theorem vf:xo X (eF .Lt) (RG fun i j=>.bl (decide (i<j))):=Ur fun _ _ _ _ _ _ _ q=>lt_int q
theorem i6:xo X (eF .LtE) (RG fun i j=>.bl (decide (i<=j))):=Ur fun _ _ _ _ _ _ _ q=>le_int q
theorem KA:xo X (eF .Gt) (RG fun i j=>.bl (decide (j<i))):=Ur fun _ _ _ _ _ _ _ q=>gt_int q
theorem ZJ:xo X (eF .GtE) (RG fun i j=>.bl (decide (j<=i))):=Ur fun _ _ _ _ _ _ _ q=>ge_int q
theorem yb:xo X (eF .Is) (fun x y H Q=>y=.iG/\Q (.bl (decide (x=.iG))) H):=by intro pins s σ H x y v u Q I rx ry h;obtain⟨rfl,q⟩:=h;cases ry;refine is_none_gen (fb I q ?_);cases x<;>first
  |(cases rx;rfl)
  |(obtain⟨t,rfl⟩:=rx;rfl)
theorem OK:xo X (eF .IsNot) (fun x y H Q=>y=.iG/\Q (.bl (!decide (x=.iG))) H):=by intro pins s σ H x y v u Q I rx ry h;obtain⟨rfl,q⟩:=h;cases ry;refine isnot_none_gen (fb I q ?_);cases x<;>first
  |(cases rx;rfl)
  |(obtain⟨t,rfl⟩:=rx;rfl)
theorem cJ(b:eV)(h:op≠.In:=by decide)(h2:op≠.NotIn:=by decide):vJ op b=false:=by
 have e1:(op==CmpOp.In)=false:=by cases op<;>first|rfl|exact bF rfl h
 have e2:(op==CmpOp.NotIn)=false:=by cases op<;>first|rfl|exact bF rfl h2
 cases b<;>simp[vJ,e1,e2]
theorem zM(ho:xo X (eF op) r)(ha:PE X a ta)(hb:PE X b tb)(hm:vJ op b=false):PE X (.Compare a [op] [b] pos) (Yt r ta tb):=by intro pins s σ H Q I h;exact wpAny_Compare1 (Ya ha hb I h fun v u s2 x y H2 I2 rx ry q=>ho pins s2 σ H2 x y v u Q I2 rx ry q) hm
def Ri(t:TE):TT:=fun σ H Q=>t σ H (V2 Q)
theorem bL(ho:xo X (eF op) r)(ha:PE X a ta)(hb:PE X b tb)(hm:vJ op b=false):PT X (.Compare a [op] [b] pos) (Ri (Yt r ta tb)):=by intro pins s σ H Q I h;refine wpAny_isTrue_Compare1 (fZ (ha pins s σ H _ I h) fun v s1 h_=>h_.el fun x H1 I1 r1 q1=>fZ (hb pins s1 σ H1 _ I1 q1) fun u s2 h_=>h_.el fun y H2 I2 r2 q2=>fZ (ho pins s2 σ H2 x y v u _ I2 r1 r2 q2) fun c s3⟨z,H3,I3,r3,k,e,q3⟩=>?_) hm;subst e;cases r3;exact d3 ⟨H3,I3,q3⟩
def Rm(r r':R2)(ta tb tc:TE):TE:=fun σ H Q=>ta σ H fun x H1=>tb σ H1 fun y H2=>r x y H2 fun z H3=>∃k,z=.bl k/\(if k=true then tc σ H3 fun w' H4=>r' y w' H4 Q else Q (.bl false) H3)
theorem Kx(ho:xo X (eF op) r)(Ma:xo X (eF VG) r')(ha:PE X a ta)(hb:PE X b tb)(hc:PE X c tc)(hm:lastMarks [op,VG] [b,c]=false:=by with_unfolding_all rfl):PE X (.Compare a [op,VG] [b,c] pos) (Rm r r' ta tb tc):=by
 intro pins s σ H Q I h;refine Compare_chain (fZ (ha pins s σ H _ I h) fun v s1 h_=>h_.el fun x H1 I1 r1 q1=>chain_link (fZ (hb pins s1 σ H1 _ I1 q1) fun u s2 h_=>h_.el fun y H2 I2 r2 q2=>fZ (ho pins s2 σ H2 x y v u _ I2 r1 r2 q2) fun d s3⟨z,H3,I3,r3,k,e,q3⟩=>?_)) hm;subst e;cases r3;refine d3 ?_;cases k with
 |false=>exact ite_ff ⟨.bl false,H3,I3,rfl,q3⟩
 |true=>exact ite_tt (chain_last (fZ (hc pins s3 σ H3 _ I3 q3) fun w' s4 h_=>h_.el fun z' H4 I4 r4 q4=>Ma pins s4 σ H4 y z' u w' Q I4 r2 r4 q4))
theorem kK(ho:xo X (eF op) r)(Ma:xo X (eF VG) r')(ha:PE X a ta)(hb:PE X b tb)(hc:PE X c tc)(hm:lastMarks [op,VG] [b,c]=false:=by with_unfolding_all rfl):PT X (.Compare a [op,VG] [b,c] pos) (Ri (Rm r r' ta tb tc)):=by
 intro pins s σ H Q I h;refine isTrue_chain (fZ (ha pins s σ H _ I h) fun v s1 h_=>h_.el fun x H1 I1 r1 q1=>test_link (fZ (hb pins s1 σ H1 _ I1 q1) fun u s2 h_=>h_.el fun y H2 I2 r2 q2=>fZ (ho pins s2 σ H2 x y v u _ I2 r1 r2 q2) fun d s3⟨z,H3,I3,r3,k,e,q3⟩=>?_)) hm;subst e;cases r3;refine d3 ?_;cases k with
 |false=>obtain⟨k',e',q'⟩:=q3;cases e';exact ite_ff ⟨H3,I3,q'⟩
 |true=>refine ite_tt (test_last (fZ (hc pins s3 σ H3 _ I3 q3) fun w' s4 h_=>h_.el fun z' H4 I4 r4 q4=>fZ (Ma pins s4 σ H4 y z' u w' _ I4 r2 r4 q4) fun d' s5⟨z2,H5,I5,r5,k2,e2,q5⟩=>?_));subst e2;cases r5;exact d3 ⟨H5,I5,q5⟩
def Yg(K:ag)(x:V)(H:Hp)(k:Bool):Prop:=match x with
 | .iG=>k=false
 | .bl b=>k=b
 | .int i=>k=(i !=0)
 | .str y=>y.length<=sizeLine/\k=((y.length:Int) !=0)
 | .JY y=>y.size<=sizeLine/\k=((y.size:Int) !=0)
 | .ref p=>(∃xs,cN K H p xs/\k=!xs.isEmpty)\/(∃xs,q_ K H p xs/\k=!xs.isEmpty)\/∃kvs,H p=some (.dK kvs)/\k=!kvs.isEmpty
 |_=>False
theorem Nm{vs:ab (κ×aA)}(r:KV kvs vs):(!vs.isEmpty)=!kvs.isEmpty:=by cases r<;>rfl
theorem EF(r:Vals xs dk):(!dk.toArray.isEmpty)=!xs.isEmpty:=by cases r<;>simp
theorem Bi:(sizeLine:Nat)<2^63:=by rw[bS];decide
theorem V5:ac4 X (fun x H Q=>∃k,Yg X.K x H k/\Q k H):=by
 intro pins s σ H x v Q I rx h;obtain⟨k,e,q⟩:=h;have hl:=Bi;have hs:sizeLine=16777216:=bS;cases x with
 |iG=>cases rx;have e':k=false:=e;subst e';exact truthy_none ⟨H,I,q⟩
 |bl b=>cases rx;have e':k=b:=e;subst e';exact d3 ⟨H,I,q⟩
 |int i=>obtain⟨t,rfl⟩:=rx;have e':k=(i !=0):=e;subst e';exact PySem.P.truthy_int ⟨H,I,q⟩
 |str y=>obtain⟨t,rfl⟩:=rx;obtain⟨hy,e'⟩:y.length<=sizeLine/\k=((y.length:Int) !=0):=e;subst e';exact PySem.P.truthy_str (by omega) ⟨H,I.tok _,q⟩
 |JY y=>obtain⟨t,rfl⟩:=rx;obtain⟨hy,e'⟩:y.size<=sizeLine/\k=((y.size:Int) !=0):=e;subst e';exact PySem.W.truthy_bytes (by omega) ⟨H,I.tok _,q⟩
 |ref p=>
  cases rx;have e':(∃xs,cN X.K H p xs/\k=!xs.isEmpty)\/(∃xs,q_ X.K H p xs/\k=!xs.isEmpty)\/∃kvs,H p=some (.dK kvs)/\k=!kvs.isEmpty:=e;rcases e' with⟨xs,hx,e'⟩|⟨xs,hx,e'⟩|⟨kvs,hx,e'⟩;·subst e';obtain⟨dk,r,pl,hz⟩:=I.list hx;have hlen:=r.length;exact wpAny_truthy_list pl.isList (by simp only[bz];omega) ⟨H,I.tok _,by rw[EF r];exact q⟩
  ·subst e';obtain⟨dk,r,pl,hz⟩:=I.tuple hx;have hlen:=r.length;exact truthy_tuple pl (by simp only[bz];omega) ⟨H,I.tok _,by rw[EF r];exact q⟩
  ·subst e';obtain⟨hz,hS,vs,r,m⟩:kvs.length<=sizeLine/\(p==iF)=false/\∃vs,KV kvs vs/\s.heap.DictOf (fq X.prog X.w) p vs:=I.gn p _ hx;have hlen:kvs.length=vs.length:=iw r;exact wpAny_truthy_dict hS m (by omega) ⟨H,I.tok _,by rw[Nm r];exact q⟩
 |_=>exact(show False from e).elim
inductive aa6(K:ag)(Q:Bool->Hp->Prop)(x:V)(H:Hp):Prop
 |mk (k:Bool) (h:Yg K x H k) (q:Q k H)
theorem dQ(ha:PE X a ta)(he:∀whole,isTrue a X.env whole=(do let v<-whole;Ce a.pos;qb [v] (truthy v))):PT X a (fun σ H Q=>ta σ H (aa6 X.K Q)):=by intro pins s σ H Q I h;exact isTrue_plain (fZ (ha pins s σ H _ I h) fun v s1⟨x,H1,I1,r1,⟨k,a,b⟩⟩=>V5 pins s1 σ H1 x v Q I1 r1 ⟨k,a,b⟩) (he _)
theorem vals1(r:Vals [x] us):∃u,us=[u]/\RelV x u:=by
 cases r with
 |cons r1 r2=>cases r2;exact⟨_,rfl,r1⟩
end
end L2
namespace L2
open PySem PySem.Spec PyProof.Rows
structure NT(h:Heap)(x dx C:Addr)(mA:Str->aY aA):Prop where
 obj:h.get? x=some (iP C dx)
 ns:h.Ns1 dx mA
 ne:dx≠x
theorem P9{h:Heap}(n:h.Ns1 dx mA):∃od,h.get? dx=some od/\∀name,vK name od=some (mA name):=by
 obtain⟨o,es,ep,ho,hd,hk,_,hm⟩:=n;refine⟨o,ho,fun name=>?_⟩;have e:=hm name;unfold nsFind findBy at e;rw[<-Array.find?_toList]at e;unfold vK;rw[hd];dsimp only;split;·rename_i y q;rw[q]at e;exact gh some e
 ·rename_i q;rw[q]at e;have a:es.toList.any (·.refKey)=false:=by rw[List.any_eq_false];intro y hy;obtain⟨z,t,Ga⟩:=hk y (Array.mem_toList_iff.mp hy);simp[DictEntry.refKey,Ga]
  have a':¬es.toList.any (·.refKey)=true:=by rw[a];exact af
  rw[ao a'];exact gh some e
theorem NT.look(I:NT h x dx C mA):∃od,PySem.W.InstAt h x (iP C dx) C (some od)/\∀name,vK name od=some (mA name):=
 let⟨od,ho,hl⟩:=P9 I.ns
 ⟨od,⟨I.obj,rfl,rfl,ho⟩,hl⟩
section
variable{prog:bT}{w:cU}{A:gR}{E:aA->aS->Prop}{s:aS}{K:ag}{x dx C f:Addr}{mA:Str->aY aA}{name:Str}{v:aA}
theorem get_map(X:K.In s.heap)(I:NT s.heap x dx C mA)(hg:sf K C name=true)(hh:Ah K C=true)(ha:fj K (.ref C) name=some none)(hv:mA name=some v)(Qh:PySem.W.handedIn v=true)(h:Q v {s with toks:=s.toks+1}):bw (bM prog w) A (getAttr (.ref x) name expr) Q E s:=by obtain⟨od,J,hl⟩:=I.look;exact PySem.W.get_value X J (xb hg).1 (PySem.W.findObj_own hh ha rfl (by rw[hl,hv])) Qh h
theorem Su(X:K.In s.heap)(I:NT s.heap x dx C mA)(hg:sf K C name=true)(hf:fj K (.ref C) name=some (some (.ref f)))(ht:tL K (.ref f)=true)(hv:mA name=none)(h:Q (.ref f,[.ref x]) s):bw (bM prog w) A (w_ (.ref x) name pl) Q E s:=by obtain⟨od,J,hl⟩:=I.look;exact PySem.W.method_fn X J (xb hg).1 (xb hg).2 hf (dU.mp ht) (by show(vK name od).map (·.isSome)=some false;rw[hl,hv];rfl) h
theorem T5(X:K.In s.heap)(I:NT s.heap x dx C mA)(hs:fj K (.ref C) "__setattr__"=some (some (.builtin "object.__setattr__")))(hp:PySem.W.plainOver K C=true)(ht:CV K C name=some none)(hh:Ah K C=true)(hw:PySem.Within mA ns)(hsz:ns.length<=sizeLine)(h:∀h',NT h' x dx C (fun y=>if y=name then some v else mA y)->i8 dx s.heap h'->Q () {s with heap:=h',toks:=s.toks+2}):bw (bM prog w) A (setAttr (.ref x) name v) Q E s:=by obtain⟨od,J,hl⟩:=I.look;refine PySem.W.set_plain X J hs (PySem.W.osa_open (s:={s with toks:=s.toks+1}) (r:=none) X J hp ht fun b=>?_);obtain⟨cd,hc,hd'⟩:=PySem.W.any_some hh;have hx:s.heap.get? x=some ⟨.ref C,some dx,.plain,#[]⟩:=I.obj;refine ai (aL (ai (ai (wpAny_loadPart hx (ai (PySem.W.Looks.here (s:={s with toks:=s.toks+1}) (PySem.W.looks_clsIn X hc) ?_))))));rw[hd'];refine aL (a:=some dx) (ai (aL (ai ?_)));refine wpAny_nsSet1 (s:={s with toks:=s.toks+1}) I.ns fun h' hn2 hs2=>?_;obtain⟨oD,esD,epD,hoD,hdD,hcD⟩:=hn2.count (PySem.Within.cons name v hw);refine ai (wpAny_lookBehind hoD (by rw[hdD];exact pastItsLine_dict (bZ hcD (by rw[bg];omega))) ?_);exact aL (h _ ⟨(hs2.2 _ (fY I.ne)).trans I.obj,hn2,I.ne⟩ hs2)
theorem R3(X:K.In s.heap)(hm:CW K C=true)(hi:fj K (.ref C) "__init__"=some (some (.ref f)))(hf:PySem.W.typeIn K (.ref f)=some (.type "function"))(h:ur (bM prog w) (A.under (.builtin "type.__call__" ⟨.ref C::vs,kw⟩)) (.call (.ref f) ⟨.ref (s.heap.objs.size+1)::vs,kw⟩) (PySem.W.InitBack (s.heap.objs.size+1) R) {s with heap:=(s.heap.push fX).push (iP C s.heap.objs.size)}):ur (bM prog w) A (.call (.ref C) ⟨vs,kw⟩) R s:=by obtain⟨hh,g,d,t,os⟩:=s;exact PySem.W.make_core (PySem.W.makes_of X hm) (PySem.W.looks_findIn X hi) (fun self=>PySem.W.bind_fn X self hf) (.inl rfl) h
end
def d9(f:Str)(v:V):ab (Str×V)->ab (Str×V)
 |[]=>[(f,v)]
 |(g,x)::r=>if g=f then(g,v)::r else(g,x)::d9 f v r
theorem qv(f g:Str)(v:V):∀fs:ab (Str×V),(d9 f v fs).lookup g=if g=f then some v else fs.lookup g
 |[]=>by
  show mN g [(f,v)]=_;by_cases h:g=f;·have hb:(g==f)=true:=dU.mpr h;simp only[mN,hb,aw h]
  ·have hb:(g==f)=false:=iI.mpr h;simp only[mN,hb,ao h]
 |(k,x)::r=>by
  have ih:=qv f g v r;rw[show d9 f v ((k,x)::r)=(if k=f then(k,v)::r else(k,x)::d9 f v r)from rfl];by_cases hk:k=f
  ·rw[aw hk];by_cases h:g=k;·have hb:(g==k)=true:=dU.mpr h;simp only[mN,hb,aw (h.trans hk)]
   ·have hb:(g==k)=false:=iI.mpr h;simp only[mN,hb,ao (fun e:g=f=>h (e.trans hk.symm))]
  ·rw[ao hk];by_cases h:g=k;·have hb:(g==k)=true:=dU.mpr h;simp only[mN,hb,ao (fun e:g=f=>hk (h.symm.trans e))]
   ·have hb:(g==k)=false:=iI.mpr h;simp only[mN,hb];exact ih
theorem Bm(f:Str)(v:V):∀fs:ab (Str×V),f∈(d9 f v fs).map (·.1)/\∀g,g∈fs.map (·.1)->g∈(d9 f v fs).map (·.1)
 |[]=>⟨by simp[d9],fun g h=>by simp at h⟩
 |(k,x)::r=>by
  obtain⟨i1,i2⟩:=Bm f v r;rw[show d9 f v ((k,x)::r)=(if k=f then(k,v)::r else(k,x)::d9 f v r)from rfl];by_cases hk:k=f;·rw[aw hk];subst hk;exact⟨by simp,fun g h=>by simpa using h⟩
  ·rw[ao hk];refine⟨?_,fun g h=>?_⟩;·rw[cx];exact bY _ i1
   ·rw[cx]at h⊢;rcases aF.mp h with e|e;·exact aF.mpr (.inl e)
    ·exact bY _ (i2 g e)
theorem vn(f:Str)(v:V):∀fs:ab (Str×V),(d9 f v fs).length<=fs.length+1
 |[]=>by simp[d9]
 |(k,x)::r=>by
  have ih:=vn f v r;rw[show d9 f v ((k,x)::r)=(if k=f then(k,v)::r else(k,x)::d9 f v r)from rfl];by_cases hk:k=f;·rw[aw hk,bg,bg];omega
  ·rw[ao hk,bg,bg];omega
theorem rY.some_of(r:rY (some v) o):∃u,o=some u/\RelV v u:=by
 cases o with
 |none=>exact(show False from r).elim
 |some u=>exact⟨u,rfl,r⟩
theorem rY.none_of(r:rY none o):o=none:=by
 cases o with
 |none=>rfl
 |some u=>exact(show False from r).elim
theorem Qn(r:RelV v u):PySem.W.handedIn u=true:=by
 cases v with
 |iG=>cases(show u=g9 from r);rfl
 |bl b=>cases(show u=n_ b from r);rfl
 |int i=>obtain⟨t,e⟩:=(show∃t,u=iX i t from r);cases e;rfl
 |str x=>obtain⟨t,e⟩:=(show∃t,u=C0 x t from r);cases e;rfl
 |JY b=>obtain⟨t,e⟩:=(show∃t,u=Value.bytes b t from r);cases e;rfl
 |flt b=>obtain⟨t,e⟩:=(show∃t,u=Value.float b t from r);cases e;rfl
 |ref a=>cases(show u=dA a from r);rfl
 |ty n=>cases(show u=lV n from r);rfl
section
variable{P:bT}{w:cU}{H H':Hp}{h h':Heap}{a C dx:Addr}{fs yO:ab (Str×V)}
theorem Jh(gn:vF P w H h)(e:H a=some (.ins C dx fs)):∃mA,NT h a dx C mA/\(∀f,rY (fs.lookup f) (mA f))/\PySem.Within mA (fs.map (·.1))/\fs.length<=1000/\H dx=some (.own a):=by obtain⟨d,z,ne,ob,mA,n,r,q⟩:=(show iK P w H h a (.ins C dx fs)from gn a _ e);exact⟨mA,⟨ob,n,ne⟩,r,q,z,d⟩
end
structure JS(K:ag)(C:Addr):Prop where
 pg:sf K C Str.empty=true
 hd:Ah K C=true
 po:PySem.W.plainOver K C=true
 sa:fj K (.ref C) "__setattr__"=some (some (.builtin "object.__setattr__"))
theorem JS.get{K:ag}(c:JS K C)(f:Str):sf K C f=true:=c.pg
def fF(K:ag)(C:Addr)(f:Str):Prop:=fj K (.ref C) f=some none
theorem fF.Zd{K:ag}(n:fF K C f):CV K C f=some none:=by unfold CV;rw[show fj K (.ref C) f=some none from n];rfl
structure Meth(K:ag)(C:Addr)(m:Str)(f:Addr):Prop where
 at_:fj K (.ref C) m=some (some (.ref f))
 fn:tL K (.ref f)=true
 kp:fi K (.ref f)=true
section
variable{X:Cx}{pins:ab (Addr×Obj)}{σ:St}{H:Hp}{s:aS}{a C dx:Addr}{fs:ab (Str×V)}{f:Str}{v:V}{A:gR}{E:aA->aS->Prop}
theorem ET(I:Inv X pins σ H s)(e:H a=some (.ins C dx fs))(c:JS X.K C)(n:fF X.K C f)(l:fs.lookup f=some v)(h:∀u s',Inv X pins σ H s'->RelV v u->Q u s'):bw (bM X.prog X.w) A (getAttr (.ref a) f b) Q E s:=by obtain⟨mA,O,r,_,_,_⟩:=Jh I.gn e;obtain⟨u,hu,ru⟩:=rY.some_of (v:=v) (o:=mA f) (by rw[<-l];exact r f);exact get_map I.Nk O (c.get f) c.hd n hu (Qn ru) (h u _ (I.tok _) ru)
theorem ym(I:Inv X pins σ H s)(e:H a=some (.ins C dx fs))(c:JS X.K C)(k:Meth X.K C m g)(l:fs.lookup m=none)(h:Q (.ref g,[.ref a]) s):bw (bM X.prog X.w) A (w_ (.ref a) m pl) Q E s:=by obtain⟨mA,O,r,_,_,_⟩:=Jh I.gn e;have hn:mA m=none:=rY.none_of (by rw[<-l];exact r m);exact Su I.Nk O (c.get m) k.at_ k.fn hn h
theorem D4(I:Inv X pins σ H s)(e:H a=some (.ins C dx fs))(c:JS X.K C)(n:fF X.K C f)(hl:fs.length<1000)(ry:RelV y u)(h:∀s',Inv X pins σ (upd H a (.ins C dx (d9 f y fs))) s'->Q () s'):bw (bM X.prog X.w) A (setAttr (.ref a) f u) Q E s:=by
 obtain⟨mA,O,r,wi,_,ho⟩:=Jh I.gn e;have hz:(fs.map (·.1)).length<=sizeLine:=by rw[ae,bS];omega
 refine T5 I.Nk O c.sa c.po n.Zd c.hd wi hz fun h' O' sb=>h _ ?_;have hd:∃o,h'.get? dx=some o:=let⟨o,_,_,e',_⟩:=O'.ns;⟨o,e'⟩;refine I.write (x:=a) (e:=dx) (by rw[e];exact jK) (.inr ho) (fun b q hb z=>(sb.2 b hb).trans z) hd ?_;refine⟨by rw[aj O.ne];exact ho,?_,O.ne,O'.obj,_,O'.ns,fun g=>?_,fun g hg=>?_⟩;·have:=vn f y fs;omega
 ·show rY ((d9 f y fs).lookup g) (if g=f then some u else mA g);rw[qv];by_cases q:g=f;·rw[aw q,aw q];exact ry
  ·rw[ao q,ao q];exact r g
 ·by_cases q:g=f;·rw[q];exact(Bm f y fs).1
  ·refine(Bm f y fs).2 g (wi g fun z=>hg ?_);show(if g=f then some u else mA g)=none;rw[ao q];exact z
theorem Inv.made(I:Inv X pins σ H s):Inv X pins σ (upd (upd H s.heap.objs.size (.own (s.heap.objs.size+1))) (s.heap.objs.size+1) (.ins C s.heap.objs.size [])) {s with heap:=(s.heap.push fX).push (iP C s.heap.objs.size)}:=by
 have e1:(s.heap.push fX).get? s.heap.objs.size=some fX:=bu s.heap rfl;have e2:((s.heap.push fX).push (iP C s.heap.objs.size)).get? (s.heap.objs.size+1)=some (iP C s.heap.objs.size):=by have:=bu (s.heap.push fX) (o:=iP C s.heap.objs.size) rfl;rwa[c5]at this
 have e3:(s.heap.push fX).Ns s.heap.objs.size (fun _=>none):=⟨fX,#[],_,e1,rfl,(fun e he=>bF he (by simp)),fun _=>rfl⟩;have I1:=I.laid (a:=s.heap.objs.size) (o:=.own (s.heap.objs.size+1)) (h':=s.heap.push fX) (t':=s.toks) (fun b u q=>aK _ q) (aD _) ⟨_,e1⟩;refine I1.laid (a:=s.heap.objs.size+1) (o:=.ins C s.heap.objs.size []) (t':=s.toks) (fun b u q=>aK _ q) (C6 (c5 _ _)) ?_;have ne:s.heap.objs.size≠s.heap.objs.size+1:=cG (jE _);refine⟨by rw[aj ne,aq],cH _,ne,e2,fun _=>none,(Heap.Ns1.of_empty e3).at fun o q=>aK _ q,fun _=>jK,fun y hy=>bF rfl hy⟩
theorem U'(hb:kr e f env (eval e env)=eval e env)(h:bw (bM prog w) A (eval e env) (fun o s₁=>bw (bM prog w) A (getAttr o f true) Q E s₁) E s):bw (bM prog w) A (eval (.Attribute e f pos) env) Q E s:=Attribute_any_ h (by rw[arm_eval_Attribute,hb])
end
inductive aa_(K:ag)(f:Str)(Q:VK)(x:V)(H1:Hp):Prop
 |mk (a C dx:Addr) (fs:ab (Str×V)) (v:V) (h1:x=.ref a) (h2:H1 a=some (.ins C dx fs)) (h3:JS K C) (h4:fF K C f) (h5:fs.lookup f=some v) (k:Q v H1)
def Wg(K:ag)(ta:TE)(f:Str):TE:=fun σ H Q=>ta σ H (aa_ K f Q)
inductive ESF(K:ag)(f:Str)(D:Ends)(σ:St)(y x:V)(H2:Hp):Prop
 |mk (a C dx:Addr) (fs:ab (Str×V)) (h1:x=.ref a) (h2:H2 a=some (.ins C dx fs)) (h3:JS K C) (h4:fF K C f) (h5:fs.length<1000) (k:D.nx σ (upd H2 a (.ins C dx (d9 f y fs))))
def abt(K:ag)(ta tv:TE)(f:Str):TS:=fun D σ H=>tv σ H fun y H1=>ta σ H1 (ESF K f D σ y)
def aa2(X:Cx)(op:Operator)(rd:V->V->Hp->VK->Prop):Prop:=∀(pins:ab (Addr×Obj))(s:aS)(σ:St)(H:Hp)(x y:V)(u v:aA)(Q:VK),Inv X pins σ H s->RelV x u->RelV y v->rd x y H Q->bw (bM X.prog X.w) X.A (inplaceOp op u v) (EP X pins σ Q) X.xe s
def T7(K:ag)(ta tv:TE)(rd:V->V->Hp->VK->Prop)(f:Str):TS:=fun D σ H=>ta σ H fun x H1=>∃a C dx fs v,x=.ref a/\H1 a=some (.ins C dx fs)/\JS K C/\fF K C f/\fs.lookup f=some v/\tv σ H1 fun y H2=>rd v y H2 fun z H3=>∃Y3 yO,H3 a=some (.ins C Y3 yO)/\yO.length<1000/\D.nx σ (upd H3 a (.ins C Y3 (d9 f z yO)))
section
variable{X:Cx}{o e value:eV}{f:Str}{pos pos' Px:Pos}{ta tv:TE}
theorem aZ(he:PE X e ta)(hb:kr e f X.env (eval e X.env)=eval e X.env):PE X (.Attribute e f pos) (Wg X.K ta f):=by intro pins s σ H Q I h;refine U' hb (fZ (he pins s σ H _ I h) fun u s1⟨x,H1,I1,rx,a,C,dx,fs,v,ex,ea,c,n,l,q⟩=>?_);subst ex;obtain rfl:u=dA a:=rx;exact ET I1 ea c n l fun u' s2 I2 ru=>⟨v,H1,I2,ru,q⟩
theorem fK(ha:PE X o ta)(hv:PE X value tv)(hs:wY value (some (.Attribute o f pos')) pos.line X.env=pure false):PS X (.Assign [.Attribute o f pos'] value pos) (abt X.K ta tv f):=by intro pins s σ H D I h;refine plainObj_wpAny_Assign_Attribute (fZ (hv pins s σ H _ I h) fun u s1 h_=>h_.el fun y H1 I1 ry q=>fZ (ha pins s1 σ H1 _ I1 q) fun ov s2⟨x,H2,I2,rx,a,C,dx,fs,ex,ea,c,n,l,q2⟩=>?_) hs;subst ex;obtain rfl:ov=dA a:=rx;exact D4 I2 ea c n l ry fun s3 I3=>⟨σ,_,I3,q2⟩
theorem PR(ha:PE X o ta)(hv:PE X value tv)(hop:aa2 X op rd):PS X (.AugAssign (.Attribute o f Px) op value pos) (T7 X.K ta tv rd f):=by intro pins s σ H D I h;refine wpAny_AugAssign_AttributeAny (fZ (ha pins s σ H _ I h) fun ov s1⟨x,H1,I1,rx,a,C,dx,fs,v,ex,ea,c,n,l,q⟩=>?_);subst ex;obtain rfl:ov=dA a:=rx;refine ET I1 ea c n l fun u s2 I2 ru=>fZ (hv pins s2 σ H1 _ I2 q) fun w3 s3 h_=>h_.el fun y H2 I3 ry q3=>fZ (hop pins s3 σ H2 v y u w3 _ I3 ru ry q3) fun w4 s4⟨z,H3,I4,rz,Y3,yO,ea',l',q4⟩=>?_;exact D4 I4 ea' c n l' rz fun s5 I5=>⟨σ,_,I5,q4⟩
inductive adD(x y:V)(H:Hp)(Q:VK):Prop
 |mk (i j:Int) (h1:x=.int i) (h2:y=.int j) (k:Q (.int (i+j)) H)
def abB:V->V->Hp->VK->Prop:=adD
theorem W4:aa2 X .Add abB:=by rintro pins s σ H x y u v Q I rx ry ⟨i,j,rfl,rfl,q⟩;obtain⟨t,rfl⟩:=(show∃t,u=iX i t from rx);obtain⟨t',rfl⟩:=(show∃t',v=iX j t' from ry);exact PyProof.Rows.iadd_int ⟨.int (i+j),H,I.tok _,⟨_,rfl⟩,q⟩
theorem VH{pl:Sem Bool}{m:Str}{apos:Pos}{args:ab eV}{pins:ab (Addr×Obj)}{s:aS}{σ:St}{H:Hp}{Q:aA->aS->Prop}{te:TE}(he:PE X e te)(I:Inv X pins σ H s)
  (h:te σ H fun x H1=>∃a C dx fs g,x=.ref a/\H1 a=some (.ins C dx fs)/\JS X.K C/\Meth X.K C m g/\fs.lookup m=none/\
   ∀s1,Inv X pins σ H1 s1->bw (bM X.prog X.w) X.A (GD pos (.ref g) [.ref a] (ic pos (b_ args X.env)) (oJ pos (jn [] X.env))) Q X.xe s1)
  (ht:eval (.Call (.Attribute e m apos) args [] pos) X.env=(do
   let ov<-eval e X.env
   Ce apos.atName
   let(f,first)<-qb [ov] (w_ ov m pl)
   GD pos f first (ic pos (b_ args X.env)) (oJ pos (jn [] X.env)))):
  bw (bM X.prog X.w) X.A (eval (.Call (.Attribute e m apos) args [] pos) X.env) Q X.xe s:=by
 refine ud (pl:=pl) (fZ (he pins s σ H _ I h) fun u s1⟨x,H1,I1,rx,a,C,dx,fs,g,ex,ea,c,k,l,q⟩=>?_) ht
 subst ex
 obtain rfl:u=dA a:=rx
 exact ym I1 ea c k l (q s1 I1)
end
end L2
namespace L2
open PySem PySem.Spec PyProof.Rows
structure kO(k:Nat)(A:gR):Prop where
 hd:A.handled=none
 dp:A.depth+3*k+5<recursionLimit
 un:A.units+16*k+200<cLine
theorem kO.mono(r:kO k A)(h:j<=k):kO j A:=⟨r.hd,by have:=r.dp;omega,by have:=r.un;omega⟩
theorem kO.deeper(r:kO (k+1) A)(env:Env):kO k (A.deeper env):=⟨r.hd,by have:=r.dp;show A.depth+1+3*k+5<_;omega,by have:=r.un;show A.units+3+16*k+200<_;omega⟩
theorem Nf{A:gR}:(A.under (.builtin "type.__call__" ⟨.ref C::us,kw⟩)).depth=A.depth+1:=by first|rfl|simp[Around.under,Code.weight,Code.isCreation,Code.isGuard,Code.isCaller,Code.frames,Code.isFrame,guardIds]
theorem Nd{A:gR}:(A.under (.builtin "type.__call__" ⟨.ref C::us,kw⟩)).units=A.units+1:=by first|rfl|simp[Around.under,Code.cUnits,Code.frames,Code.isFrame]
theorem kO.make(r:kO (k+1) A)(C:Addr)(us:ab aA)(kw:ab (Str×aA)):kO k (A.under (.builtin "type.__call__" ⟨.ref C::us,kw⟩)):=⟨r.hd,by have:=r.dp;rw[Nf];omega,by have:=r.un;rw[Nd];omega⟩
theorem kO.depth(r:kO k A):A.depth<recursionLimit:=by have:=r.dp;omega
theorem kO.units(r:kO k A):A.units+64<cLine:=by have:=r.un;omega
def PH:TA:=fun _ H Q=>Q [] H
def KC2(Q:ab V->Hp->Prop)(x:V):ab V->Hp->Prop:=fun xs H2=>Q (x::xs) H2
def KC1(tr:TA)(σ:St)(Q:ab V->Hp->Prop):VK:=fun x H1=>tr σ H1 (KC2 Q x)
def Rl(ta:TE)(tr:TA):TA:=fun σ H Q=>ta σ H (KC1 tr σ Q)
section
variable{X:Cx}{e:eV}{es:ab eV}{te:TE}{t:TA}{pos:Pos}
theorem ak:PA X [] PH:=fun _ _ _ _ H Q I h=>BL ⟨[],H,I,.nil,h⟩
theorem aa(ha:PE X e te)(hr:PA X es t)(hs:b_ (e::es) X.env=(false,eval e X.env)::b_ es X.env:=by rfl):PA X (e::es) (Rl te t):=by intro pos pins s σ H Q I h;rw[hs];show bw _ _ (spliced ((false,eval e X.env)::ic pos (b_ es X.env))) _ _ s;refine qg (fZ (ha pins s σ H _ I h) fun u s1 h_=>h_.el fun x H1 I1 r1 q1=>?_);exact fZ (hr pos pins s1 σ H1 _ I1 q1) fun us s2 h_=>h_.el fun xs H2 I2 r2 q2=>⟨x::xs,H2,I2,.cons r1 r2,q2⟩
def abg(t:TA):TE:=fun σ H Q=>t σ H fun xs H1=>xs.length<=sizeLine/\∀p,H1 p=none->Q (.ref p) (upd H1 p (.tup xs))
def abl(t:TA):TE:=fun σ H Q=>t σ H fun xs H1=>xs.length<=sizeLine/\∀p,H1 p=none->Q (.ref p) (upd H1 p (.lst xs))
theorem lp(h:PA X es t):PE X (.Tuple es x1 pos) (abg t):=by intro pins s σ H Q I hq;refine wpAny_Tuple_spliced (fZ (h pos pins s σ H _ I hq) fun us s1⟨xs,H1,I1,r,z,q⟩=>⟨by rw[<-r.length];exact z,?_⟩);have hf:H1 s1.heap.objs.size=none:=I1.gn.fresh (aD _);refine⟨.ref s1.heap.objs.size,upd H1 s1.heap.objs.size (.tup xs),I1.laid (t':=s1.toks) (fun b u e=>aK _ e) (aD _) ?_,rfl,q _ hf⟩;exact⟨z,us,r,⟨_,bu _ rfl,rfl,_,rfl⟩⟩
theorem cI(h:PA X es t):PE X (.List es pos) (abl t):=by intro pins s σ H Q I hq;refine wpAny_List_spliced (fZ (h pos pins s σ H _ I hq) fun us s1⟨xs,H1,I1,r,z,q⟩=>⟨by rw[<-r.length];exact z,?_⟩);have hf:H1 s1.heap.objs.size=none:=I1.gn.fresh (aD _);refine⟨.ref s1.heap.objs.size,upd H1 s1.heap.objs.size (.lst xs),I1.laid (t':=s1.toks) (fun b u e=>aK _ e) (aD _) ?_,rfl,q _ hf⟩;exact⟨z,us,0,r,bu _ rfl⟩
end
abbrev Sp:=ab V->Hp->VK->XK->Prop
abbrev Ti:=ab Env->Hp->aS->XK->aA->aS->Prop
structure N6(P:bT)(w:cU)(K:ag)(mg:Str->aY aA)(base:Heap)(A:gR)(outer:ab Env)(s:aS)(H:Hp):Prop where
 frames:A.frames=some outer
 mod:Mod K mg base
 bs:∀b o,base.get? b=some o->s.heap.get? b=some o/\H b=none
 TB:base.objs.size<=s.heap.objs.size
 CO:s.heap.FunFrames base outer
 XN:∀b∈Sy outer,H b=none
 gn:vF P w H s.heap
 bare:GI s.gens
def CE(outer:ab Env)(P:bT)(w:cU)(H:Hp)(s:aS)(Q:VK)(u:aA)(s':aS):Prop:=∃v H',s'.os=s.os/\GI s'.gens/\Un (Sy outer) [] H H' s.heap s'.heap/\vF P w H' s'.heap/\RelV v u/\Q v H'
def CR(CX:Ti)(outer:ab Env)(P:bT)(w:cU)(H:Hp)(s:aS)(Q:VK)(E:XK)(r:Result)(s':aS):Prop:=match r with
 | .ok (.ret u)=>CE outer P w H s Q u s'
 | .ok _=>False
 | .error e=>CX outer H s E e s'
structure cZ(P:bT)(w:cU)(K:ag)(mg:Str->aY aA)(base:Heap)(CX:Ti)(k:Nat)(f:Addr)(fd:tN)(ps:ab Str)(sp:Sp):Prop where
 len:∀vs H Q E,sp vs H Q E->vs.length=ps.length
 run:∀(A:gR)(outer:ab Env)(s:aS)(H:Hp)(args:Args)(us:ab aA)(vs:ab V)(Q:VK)(E:XK),kO k A->N6 P w K mg base A outer s H->BindsTo s fd args (ps.zip us)->Vals vs us->sp vs H Q E->
  ur (bM P w) A (.call (.ref f) args) (CR CX outer P w H s Q E) s
theorem cZ.mono{K:ag}(F:cZ P w K mg base CX j f fd ps sp)(h:j<=k):cZ P w K mg base CX k f fd ps sp:=⟨F.len,fun A outer s H args us vs Q E hr=>F.run A outer s H args us vs Q E (hr.mono h)⟩
theorem N6.make{K:ag}(e:N6 P w K mg base A outer s H)(C:Addr)(us:ab aA)(kw:ab (Str×aA)):N6 P w K mg base (A.under (.builtin "type.__call__" ⟨.ref C::us,kw⟩)) outer s H:=⟨by first|exact e.frames|(simpa[Around.under,Code.envs,Code.isFrame,pushEnvs]using e.frames),e.mod,e.bs,e.TB,e.CO,e.XN,e.gn,e.bare⟩
section
variable{X:Cx}{pins:ab (Addr×Obj)}{σ:St}{H:Hp}{s s':aS}
theorem Inv.aaJ(I:Inv X pins σ H s):N6 X.prog X.w X.K X.mg X.base X.A X.stack s H:=⟨I.ok.frames,I.ok.mod,I.bs,bZ I.ok.TB I.sz,I.stack,I.Om,I.gn,I.bare⟩
theorem Inv.after(I:Inv X pins σ H s)(h:CE X.stack X.prog X.w H s Q u s'):EP X pins σ Q u s':=by obtain⟨v,H',os,bare,un,gn,r,q⟩:=h;obtain⟨hh,g,d,t,os'⟩:=s';obtain rfl:os'=s.os:=os;exact⟨v,H',I.call (h':=hh) (g':=g) (d':=d) (t':=t) (ch:=[]) un gn bare (fun b z=>bF z (by simp)),r,q⟩
end
def Vu(sp:Sp)(EY:ab V)(E:XK)(t:TA):TE:=fun σ H Q=>t σ H fun vs H1=>sp (vs++EY) H1 Q E
inductive aa9(C:Addr)(m:Str)(t:TA)(σ:St)(Q:ab V->Hp->Prop)(x:V)(H1:Hp):Prop
 |mk (a dx:Addr) (fs:ab (Str×V)) (h1:x=.ref a) (h2:H1 a=some (.ins C dx fs)) (h3:fs.lookup m=none) (k:t σ H1 Q)
def J_(C:Addr)(m:Str)(sp:Sp)(EY:ab V)(E:XK)(ta:TE)(t:TA):TE:=fun σ H Q=>ta σ H fun x H1=>aa9 C m t σ (fun vs H2=>sp (x::(vs++EY)) H2 Q E) x H1
def Oi(C:Addr)(sp:Sp)(EY:ab V)(E:XK)(t:TA):TE:=fun σ H Q=>t σ H fun vs H1=>∀x dx,H1 x=none->H1 dx=none->dx≠x->sp (.ref x::(vs++EY)) (upd (upd H1 dx (.own x)) x (.ins C dx [])) (fun v H2=>v=.iG/\Q (.ref x) H2) E
def Binds(K:ag)(fd:tN)(ps:ab Str)(ds:ab aA):Prop:=∀(s:aS)(us:ab aA),K.In s.heap->(us++ds).length=ps.length->BindsTo s fd ⟨us,[]⟩ (ps.zip (us++ds))
theorem Binds.all{K:ag}(h:∀us:ab aA,us.length=ps.length->bindArgs fd ⟨us,[]⟩=pure (ps.zip us)):Binds K fd ps []:=fun s us _ hl=>by rw[dO]at hl⊢;exact .of_eq (h us hl)
def Passes(CX:Ti)(X:Cx)(E:XK):Prop:=∀(pins:ab (Addr×Obj))(σ:St)(H:Hp)(s:aS)(e:aA)(s':aS),Inv X pins σ H s->CX X.stack H s E e s'->X.xe e s'
section
variable{X:Cx}{CX:Ti}{k:Nat}{f C:Addr}{fd:tN}{ps:ab Str}{sp:Sp}{EY:ab V}{ds:ab aA}{E:XK}{x m:Str}{p pos apos:Pos}{e o:eV}{es:ab eV}{ta:TE}{t:TA}
theorem MK{σ:St}(F:cZ X.prog X.w X.K X.mg X.base CX k f fd ps sp)(hr:kO k X.A)(hb:Binds X.K fd ps ds)(hd:Vals EY ds)(hx:Passes CX X E)(I:Inv X pins σ H s)(r:Vals vs us)(h:sp (vs++EY) H Q E):bw (bM X.prog X.w) X.A (se (.ref f) us) (EP X pins σ Q) X.xe s:=by
 have r2:Vals (vs++EY) (us++ds):=r.append hd;have hl:(us++ds).length=ps.length:=by rw[<-r2.length];exact F.len _ _ _ _ h
 refine wpAny_call (r_ (F.run X.A X.stack s H ⟨us,[]⟩ (us++ds) (vs++EY) Q E hr I.aaJ (hb s us I.Nk hl) r2 h) fun r s' hq=>?_);cases r with
 |error e=>exact hx pins σ H s e s' I hq
 |ok fl=>
  cases fl with
  |ret u=>exact I.after hq
  |next=>exact fJ hq
  |brk=>exact fJ hq
  |cont=>exact fJ hq
theorem Up(F:cZ X.prog X.w X.K X.mg X.base CX k f fd ps sp)(hr:kO k X.A)(hg:Gl X x)(hm:X.mg x=some (.ref f))(hk:fi X.K (.ref f)=true)(hb:Binds X.K fd ps ds)(hd:Vals EY ds)(hx:Passes CX X E)(ha:PA X (e::es) t)(Nv:(x==("__debug__":Str))=false:=by decide)(he:b_ (e::es) X.env=(false,eval e X.env)::b_ es X.env:=by rfl)(pP:(ic pos (b_ es X.env)).any (·.1)=false:=by rfl):PE X (.Call (.Name x p) (e::es) [] pos) (Vu sp EY E t):=by intro pins s σ H Q I h;refine nL (Dh I hg hm ?_ Nv);refine yI (h₀:=X.base) I.ok.mod.Z2 hk (fZ (ha pos pins s σ H _ I h) fun us s1 h_=>h_.el fun vs H1 I1 r q=>⟨I1.Nk,?_⟩) he pP;exact MK F hr hb hd hx I1 r q
theorem Uk{pl:Sem Bool}(he:PE X o ta)(c:JS X.K C)(hm:Meth X.K C m f)(F:cZ X.prog X.w X.K X.mg X.base CX k f fd ps sp)(hr:kO k X.A)(hb:Binds X.K fd ps ds)(hd:Vals EY ds)(hx:Passes CX X E)(ha:PA X (e::es) t)
  (UG:b_ (e::es) X.env=(false,eval e X.env)::b_ es X.env:=by rfl)(pP:(ic pos (b_ es X.env)).any (·.1)=false:=by rfl)
  (ht:eval (.Call (.Attribute o m apos) (e::es) [] pos) X.env=(do
   let ov<-eval o X.env
   Ce apos.atName
   let(f,first)<-qb [ov] (w_ ov m pl)
   GD pos f first (ic pos (b_ (e::es) X.env)) (oJ pos (jn [] X.env))):=by rfl):
  PE X (.Call (.Attribute o m apos) (e::es) [] pos) (J_ C m sp EY E ta t):=by
 intro pins s σ H Q I h
 refine ud (pl:=pl) (fZ (he pins s σ H _ I h) fun u s1⟨x,H1,I1,rx,a,dx,fs,ex,ea,l,q⟩=>?_) ht
 subst ex
 obtain rfl:u=dA a:=rx
 refine ym I1 ea c hm l ?_
 refine yI (first:=[.ref a]) (h₀:=X.base) I.ok.mod.Z2 hm.kp (fZ (ha pos pins s1 σ H1 _ I1 q) fun us s2 h_=>h_.el fun vs H2 I2 r q2=>⟨I2.Nk,?_⟩) UG pP
 exact MK (us:=.ref a::us) (vs:=.ref a::vs) F hr hb hd hx I2 (.cons rfl r) q2
theorem RM{pl:Sem Bool}(he:PE X o ta)(c:JS X.K C)(hm:Meth X.K C m f)(F:cZ X.prog X.w X.K X.mg X.base CX k f fd ps sp)(hr:kO k X.A)(hb:Binds X.K fd ps ds)(hd:Vals EY ds)(hx:Passes CX X E)
  (ht:eval (.Call (.Attribute o m apos) [] [] pos) X.env=(do
   let ov<-eval o X.env
   Ce apos.atName
   let(f,first)<-qb [ov] (w_ ov m pl)
   GD pos f first (ic pos (b_ [] X.env)) (oJ pos (jn [] X.env))):=by rfl):
  PE X (.Call (.Attribute o m apos) [] [] pos) (J_ C m sp EY E ta PH):=by
 intro pins s σ H Q I h
 refine ud (pl:=pl) (fZ (he pins s σ H _ I h) fun u s1⟨x,H1,I1,rx,a,dx,fs,ex,ea,l,q⟩=>?_) ht
 subst ex
 obtain rfl:u=dA a:=rx
 refine ym I1 ea c hm l ?_
 exact PySem.W.callWith_K0 (first:=[.ref a]) I1.Nk hm.kp (MK (us:=[.ref a]) (vs:=[.ref a]) F hr hb hd hx I1 (.cons rfl .nil) q)
structure Mk(K:ag)(C f:Addr):Prop where
 makes:CW K C=true
 init:fj K (.ref C) "__init__"=some (some (.ref f))
 fn:tL K (.ref f)=true
 kp:fi K (.ref C)=true
theorem Ko{σ:St}(M:Mk X.K C f)(F:cZ X.prog X.w X.K X.mg X.base CX k f fd ps sp)(hr:kO (k+1) X.A)(hb:Binds X.K fd ps ds)(hd:Vals EY ds)(hx:Passes CX X E)(I:Inv X pins σ H s)(r:Vals vs us)(h:∀x dx,H x=none->H dx=none->dx≠x->sp (.ref x::(vs++EY)) (upd (upd H dx (.own x)) x (.ins C dx [])) (fun v H2=>v=.iG/\Q (.ref x) H2) E):bw (bM X.prog X.w) X.A (se (.ref C) us) (EP X pins σ Q) X.xe s:=by
 have hq:=h (s.heap.objs.size+1) s.heap.objs.size (I.gn.fresh (yL _)) (I.gn.fresh (aD _)) (cG (jE _));have I2:=Inv.made (C:=C) I;have r2:Vals (V.ref (s.heap.objs.size+1)::(vs++EY)) (dA (s.heap.objs.size+1)::(us++ds)):=.cons rfl (r.append hd);have hl:(dA (s.heap.objs.size+1)::us++ds).length=ps.length:=by have e:=r2.length;rw[F.len _ _ _ _ hq]at e;exact e.symm
 refine wpAny_call (R3 (f:=f) I.Nk M.makes M.init (dU.mp M.fn) (r_ (F.run _ X.stack _ _ ⟨dA (s.heap.objs.size+1)::us,[]⟩ (dA (s.heap.objs.size+1)::(us++ds)) _ _ E (hr.make C us [])
  (I2.aaJ.make C us []) (hb _ (dA (s.heap.objs.size+1)::us) I2.Nk hl) r2 hq) fun r s' Hk=>?_))
 cases r with
 |error e=>exact hx pins σ _ _ e s' I2 Hk
 |ok fl=>
  cases fl with
  |ret u=>obtain⟨v,H',I3,rv,ev,q3⟩:=I2.after Hk;subst ev;exact⟨rv,⟨V.ref (s.heap.objs.size+1),H',I3,rfl,q3⟩⟩
  |next=>exact fJ Hk
  |brk=>exact fJ Hk
  |cont=>exact fJ Hk
theorem Ul(M:Mk X.K C f)(F:cZ X.prog X.w X.K X.mg X.base CX k f fd ps sp)(hr:kO (k+1) X.A)(hg:Gl X x)(hm:X.mg x=some (.ref C))(hb:Binds X.K fd ps ds)(hd:Vals EY ds)(hx:Passes CX X E)(ha:PA X (e::es) t)(Nv:(x==("__debug__":Str))=false:=by decide)(he:b_ (e::es) X.env=(false,eval e X.env)::b_ es X.env:=by rfl)(pP:(ic pos (b_ es X.env)).any (·.1)=false:=by rfl):PE X (.Call (.Name x p) (e::es) [] pos) (Oi C sp EY E t):=by intro pins s σ H Q I h;refine nL (Dh I hg hm ?_ Nv);refine yI (h₀:=X.base) I.ok.mod.Z2 M.kp (fZ (ha pos pins s σ H _ I h) fun us s1 h_=>h_.el fun vs H1 I1 r q=>⟨I1.Nk,?_⟩) he pP;exact Ko M F hr hb hd hx I1 r q
theorem RN(M:Mk X.K C f)(F:cZ X.prog X.w X.K X.mg X.base CX k f fd ps sp)(hr:kO (k+1) X.A)(hg:Gl X x)(hm:X.mg x=some (.ref C))(hb:Binds X.K fd ps ds)(hd:Vals EY ds)(hx:Passes CX X E)(Nv:(x==("__debug__":Str))=false:=by decide):PE X (.Call (.Name x p) [] [] pos) (Oi C sp EY E PH):=by intro pins s σ H Q I h;refine nL (Dh I hg hm ?_ Nv);exact PySem.W.callWith_K0 I.Nk M.kp (Ko (us:=[]) M F hr hb hd hx I .nil h)
end
structure bx(N P:ab Str)(sc:Scope):Prop where
 kind:sc.kind=.function:=by rfl
 co:sc.isCoroutine=false:=by rfl
 gen:sc.isGenerator=false:=by rfl
 nd:N.Nodup:=by decide +kernel
 pre:N.take P.length=P:=by rfl
 par:∀x∈P,sc.names.lookup x=some .local\/sc.names.lookup x=some .cell:=by decide +kernel
 WI:∀y∈sc.names,y.2≠.free:=by decide +kernel
theorem Hz{kindOf:Str->aY jo}:∀{binds:ab (Str×aA)}{m:Str->aY aA},(∀v,(x,v)∉binds)->bindL kindOf binds m x=m x
 |[],_,_=>rfl
 |(n,v)::r,m,h=>by
  unfold bindL;rw[Hz fun w hw=>h w (bY _ hw)];split
  ·have:x≠n:=by rintro rfl;exact h v df
   simp[this]
  ·rfl
theorem HB{kindOf:Str->aY jo}:∀{binds:ab (Str×aA)}{m:Str->aY aA},(∀v,(x,v)∉binds)->bindC kindOf binds m x=m x
 |[],_,_=>rfl
 |(n,v)::r,m,h=>by
  unfold bindC;rw[HB fun w hw=>h w (bY _ hw)];split;·rfl
  ·have:x≠n:=by rintro rfl;exact h v df
   simp[this]
theorem HA{kindOf:Str->aY jo}:∀{P:ab Str}{vs:ab aA}{i:Nat}{m:Str->aY aA},P.Nodup->P[i]? =some x->vs[i]? =some v->kindOf x=some .local->bindL kindOf (P.zip vs) m x=some v
 |[],_,_,_,_,h,_,_=>by simp at h
 |_::_,[],_,_,_,_,h,_=>by simp at h
 |p::P,w::vs,0,m,nd,h1,h2,hk=>by simp at h1 h2;subst h1;subst h2;show bindL kindOf ((p,w)::P.zip vs) m p=_;unfold bindL;rw[Hz fun v hv=>(bQ.mp nd).1 (FA hv).1,aw hk];simp
 |p::P,w::vs,i+1,m,nd,h1,h2,hk=>by show bindL kindOf ((p,w)::P.zip vs) m x=_;unfold bindL;exact HA (i:=i) (bQ.mp nd).2 (by simpa using h1) (by simpa using h2) hk
theorem HC{kindOf:Str->aY jo}:∀{P:ab Str}{vs:ab aA}{i:Nat}{m:Str->aY aA},P.Nodup->P[i]? =some x->vs[i]? =some v->kindOf x≠some .local->bindC kindOf (P.zip vs) m x=some v
 |[],_,_,_,_,h,_,_=>by simp at h
 |_::_,[],_,_,_,_,h,_=>by simp at h
 |p::P,w::vs,0,m,nd,h1,h2,hk=>by simp at h1 h2;subst h1;subst h2;show bindC kindOf ((p,w)::P.zip vs) m p=_;unfold bindC;rw[HB fun v hv=>(bQ.mp nd).1 (FA hv).1,ao hk];simp
 |p::P,w::vs,i+1,m,nd,h1,h2,hk=>by show bindC kindOf ((p,w)::P.zip vs) m x=_;unfold bindC;exact HC (i:=i) (bQ.mp nd).2 (by simpa using h1) (by simpa using h2) hk
def start(N:ab Str)(vs:ab V):St:=vs.map some++cO (N.length-vs.length) none
def Qy(CX:Ti)(P:bT)(w:cU)(K:ag)(mg:Str->aY aA)(base:Heap)(N:ab Str)(qual:Str)(scope:Scope)(f:Addr)(cd:aA)(A:gR)(outer:ab Env)(s:aS)(H:Hp)(E:XK):Cx where
 prog:=P
 w:=w
 K:=K
 mg:=mg
 base:=base
 A:=A.deeper (Fq qual scope s.heap.objs.size f cd)
 N:=N
 G8:=s
 Yl:=H
 env:=Fq qual scope s.heap.objs.size f cd
 outer:=outer
 stack:=Fq qual scope s.heap.objs.size f cd::outer
 ex:=[]
 calm:=true
 fn:=fun _=>true
 pn:=[]
 xe:=fun e s'=>bw (bM P w) (A.deeper (Fq qual scope s.heap.objs.size f cd)) (leaving (Fq qual scope s.heap.objs.size f cd) e) (fun _ s''=>CX outer H s E e s'') (fun e' s''=>CX outer H s E e' s'') s'
theorem LJ{sc:Scope}(h:sc.names.lookup x=some .cell):∃c,(fh n sc.names []).lookup x=some c:=by have q:=PySem.W.cellsFrom_some sc.names n [] (.inl h);exact Option.isSome_iff_exists.mp q
theorem Qe{CX:Ti}{P:bT}{w:cU}{K:ag}{mg:Str->aY aA}{base:Heap}{N ps:ab Str}{qual:Str}{scope:Scope}{f:Addr}{cd:aA}{A:gR}{outer:ab Env}{s s1:aS}{H:Hp}{E:XK}{us:ab aA}{vs:ab V}(S:bx N ps scope)(hd:A.handled=none)(e0:N6 P w K mg base A outer s H)(hl:vs.length=ps.length)(r:Vals vs us)(x:InCallC s s.heap.objs.size (bindL (Fq qual scope s.heap.objs.size f cd).kindOf (ps.zip us) fun _=>none) (fh (s.heap.objs.size+1) scope.names []) (bindC (Fq qual scope s.heap.objs.size f cd).kindOf (ps.zip us) fun _=>none) s1):Inv (Qy CX P w K mg base N qual scope f cd A outer s H E) [] (start N vs) H s1:=by
 have pP:ps.length<=N.length:=by have:=gh sg S.pre;rw[cS]at this;omega
 obtain⟨h1,tk,rfl,hk⟩:=x.done;have Yx:∀b:Addr,b∉(Qy CX P w K mg base N qual scope f cd A outer s H E).ex:=fun b z=>bF (show b∈([]:ab Addr)from z) (by simp);refine⟨⟨e0.mod,S.kind,rfl,rfl,aD _,fun y z c h1 h2=>?_,fun y hy=>?_,fun y c _ h=>?_,fun _=>hd,Around.frames_deeper e0.frames,.inr ⟨rfl,rfl⟩,fun b z=>bF z (Yx b),e0.bs,e0.TB,fun b _ _=>Yx b,fun b z=>bF z (Yx b),e0.CO,e0.XN⟩,rfl,e0.bare,Un.kept hk,⟨_,x.toInCall.ns,fun i y v h1 h2 h3=>?_⟩,fun y c h=>⟨_,x.cell y c h⟩,e0.gn.fresh (aD _),fun y c h=>?_,fun p hp=>bF (show p∈([]:ab (Addr×Obj))from hp) (by simp),e0.gn.kept hk,?_⟩;·exact name_of_addr x.apart (cW h1) (cW h2)
 ·have hy:scope.names.lookup y=some .cell\/scope.names.lookup y=some .free:=hy;rcases hy with hy|hy;·exact LJ hy
  ·exact bF rfl (S.WI _ (cW hy))
 ·exact vN (x.above y c (cW h))
 ·have hi:i<vs.length:=by
   unfold start at h2;by_cases hi:i<vs.length;·exact hi
   ·rw[iL (by simpa using hi)]at h2;rw[jv]at h2;split at h2<;>cases h2
  have ha:vs[i]? =some v:=by
   unfold start at h2;rw[iY (by simpa using hi),bp]at h2;cases e:vs[i]? with
   |none=>rw[e]at h2;cases h2
   |some a=>rw[e]at h2;cases h2;rfl
  obtain⟨u,hu,rv⟩:=r.get ha;have hp:ps[i]? =some y:=by rw[<-S.pre,List.getElem?_take_of_lt (by omega)];exact h1
  have ndP:ps.Nodup:=by rw[<-S.pre];exact S.nd.sublist (Ci _ _)
  refine⟨u,rv,?_⟩;rcases S.par y (aH hp)with k|k;·exact .inl ⟨k,HA ndP hp hu k⟩
  ·obtain⟨c,e⟩:=LJ (n:=s.heap.objs.size+1) k;refine .inr ⟨.inl k,c,e,?_⟩;have q:=x.cell y c e;rw[HC ndP hp hu (by show scope.names.lookup y≠_;rw[k];decide)]at q;exact q
 ·exact e0.gn.fresh (vN (x.above y c (cW h)))
 ·unfold start;show _=N.length;rw[bo,ae,List.length_replicate];omega
theorem aaE{CX:Ti}{P:bT}{w:cU}{K:ag}{mg:Str->aY aA}{base:Heap}{k:Nat}{f:Addr}{name qual:Str}{params:Arguments}{body:ab Stmt}{scope:Scope}{dV kV doc pm fR ct oc:aA}{an od:aY Addr}{WD:i5 (aY aA)}{N ps:ab Str}{sp:Sp}(lk:K.lookup f=some ⟨oc,od,.func (fW name qual params body scope dV kV doc pm an fR ct),WD⟩)(UQ:j_ K fR qual=true)(S:bx N ps scope)(len:∀vs H Q E,sp vs H Q E->vs.length=ps.length)(Sq:∀(A:gR)(outer:ab Env)(s:aS)(H:Hp)(vs:ab V)(Q:VK)(E:XK),kO k (A.deeper (Fq qual scope s.heap.objs.size f fR))->sp vs H Q E->∃t,QH (Qy CX P w K mg base N qual scope f fR A outer s H E) body t/\t {nx:=fun _ H'=>Q .iG H',rt:=Q} (start N vs) H):cZ P w K mg base CX (k+1) f (fW name qual params body scope dV kV doc pm an fR ct) ps sp:=by
 refine⟨len,fun A outer s H args us vs Q E hr e0 hb r Tq=>?_⟩;have hl:=len _ _ _ _ Tq;have KX:K.In s.heap:=e0.mod.Z2.keeps fun b o e=>(e0.bs b o e).1;have lim:s.heap.NoLimit:=e0.mod.nolimit.keeps fun b o e=>(e0.bs b o e).1;have Cb:∀y∈ps.zip us,scope.names.lookup y.1=some .local\/(scope.names.lookup y.1=some .cell/\((fh (s.heap.objs.size+1) scope.names []).lookup y.1).isSome=true):=fun⟨n,v⟩ hy=>by
  rcases S.par n (FA hy).1 with q|q;·exact .inl q
  ·exact .inr ⟨q,PySem.W.cellsFrom_some _ _ _ (.inl q)⟩
 refine codeAny_call_function hr.depth (KX _ _ lk) rfl S.co S.gen rfl (PySem.W.codeRec_of KX UQ) (hb _ _ _ _ ?_);refine wpAny_newFunctionEnv_cells S.kind Cb fun env he s1 x=>?_;subst he;refine⟨lim.keeps x.toInCall.keep,codeAny_func ?_⟩;obtain⟨t,ht,hq⟩:=Sq A outer s H vs Q E (hr.deeper _) Tq;have I:Inv (Qy CX P w K mg base N qual scope f fR A outer s H E) [] (start N vs) H s1:=Qe S hr.hd e0 hl r x;refine i3 (ht [] s1 (start N vs) H _ I hq) (fun fl s' hs=>?_) fun e s' hs=>hs;have fin:∀{σ':St}{H':Hp}{v:V}{u:aA},Inv (Qy CX P w K mg base N qual scope f fR A outer s H E) [] σ' H' s'->RelV v u->Q v H'->CE outer P w H s Q u s':=fun{σ' H' v u} J rv q=>⟨v,H',J.os,J.bare,J.base,J.gn,rv,q⟩;cases fl with
 |ret u=>obtain⟨v,σ',H',J,rv,q⟩:=hs;exact fin J rv q
 |next=>obtain⟨σ',H',J,q⟩:=hs;exact fin (v:=V.iG) (u:=g9) J rfl q
 |brk=>obtain⟨_,_,_,q⟩:=hs;exact fJ q
 |cont=>obtain⟨_,_,_,q⟩:=hs;exact fJ q
end L2
namespace L2
open PySem PySem.Spec PyProof.Rows
section
variable{X:Cx}{x:Str}{p pos:Pos}{e:eV}{es:ab eV}{t:TA}{id T:BJ}{r:ab V->Hp->VK->Prop}
def tCB(r:ab V->Hp->VK->Prop)(t:TA):TE:=fun σ H Q=>t σ H fun vs H1=>r vs H1 Q
theorem dM(hc:oS X (.builtin id) r)(hg:Gl X x)(hm:X.mg x=none)(hv:fN x=some (.builtin id))(ha:PA X (e::es) t)(hn:x≠"__name__":=by decide)(Nv:(x==("__debug__":Str))=false:=by decide)(he:b_ (e::es) X.env=(false,eval e X.env)::b_ es X.env:=by rfl)(pP:(ic pos (b_ es X.env)).any (·.1)=false:=by rfl):PE X (.Call (.Name x p) (e::es) [] pos) (tCB r t):=by intro pins s σ H Q I h;refine nL (Bj I hg hm hv ?_ hn Nv);exact PyProof.Rows.callWith_builtin1 (fZ (ha pos pins s σ H _ I h) fun us s1 h_=>h_.el fun vs H1 I1 r1 q1=>hc pins s1 σ H1 vs us Q I1 r1 q1) he pP
theorem gA(hc:oS X (.type T) r)(hg:Gl X x)(hm:X.mg x=none)(hv:fN x=some (.type T))(ha:PA X (e::es) t)(hn:x≠"__name__":=by decide)(Nv:(x==("__debug__":Str))=false:=by decide)(he:b_ (e::es) X.env=(false,eval e X.env)::b_ es X.env:=by rfl)(pP:(ic pos (b_ es X.env)).any (·.1)=false:=by rfl):PE X (.Call (.Name x p) (e::es) [] pos) (tCB r t):=by intro pins s σ H Q I h;refine nL (Bj I hg hm hv ?_ hn Nv);exact gV (fZ (ha pos pins s σ H _ I h) fun us s1 h_=>h_.el fun vs H1 I1 r1 q1=>hc pins s1 σ H1 vs us Q I1 r1 q1) he pP
end
end L2
namespace HT
open PySem PyProof.Rows
section
variable{prog:bT}{w:cU}{A:gR}{E:aA->aS->Prop}{s:aS}
def Kn(n d:Nat):aY Int->Nat
 |none=>d
 |some v=>if v<0 then(v+(n:Int)).toNat else min v.toNat n
theorem C_(n d k:Nat):Kn n d (some (k:Int))=min k n:=by show(if(k:Int)<0 then((k:Int)+(n:Int)).toNat else min (k:Int).toNat n)=min k n;rw[ao (by omega),aJ]
end
end HT
namespace L2
open PySem PySem.Spec PyProof.Rows
abbrev TO:=St->Hp->(aY Int->Hp->Prop)->Prop
def PO(X:Cx)(e:aY eV)(t:TO):Prop:=∀(pins:ab (Addr×Obj))(s:aS)(σ:St)(H:Hp)(Q:aY Int->Hp->Prop),Inv X pins σ H s->t σ H Q->bw (bM X.prog X.w) X.A (evalPart e X.env) (fun u s'=>∃o H',Inv X pins σ H' s'/\IsPart u o/\Q o H') X.xe s
def TX:TO:=fun _ H Q=>Q none H
inductive aa8(Q:aY Int->Hp->Prop)(x:V)(H:Hp):Prop
 |mk (i:Int) (h:x=.int i) (k:Q (some i) H)
def Zi(t:TE):TO:=fun σ H Q=>t σ H (aa8 Q)
section
variable{X:Cx}{e:eV}{te:TE}{lo hi:aY eV}{tl th:TO}{pos p2:Pos}
theorem zL:PO X none TX:=by intro pins s σ H Q I h;rw[evalPart_none];exact aL ⟨none,H,I,.none,h⟩
theorem mr(h:PE X e te):PO X (some e) (Zi te):=by intro pins s σ H Q I hw;rw[evalPart_some];refine fZ (h pins s σ H _ I hw) fun u s1 h_=>h_.el fun x H1 I1 r1 q1=>?_;obtain⟨i,rfl,q⟩:=q1;obtain⟨t,rfl⟩:=r1;exact⟨some i,H1,I1,.int i t,q⟩
def SlR(X:Cx)(r:V->aY Int->aY Int->Hp->VK->Prop):Prop:=∀(pins:ab (Addr×Obj))(s:aS)(σ:St)(H:Hp)(x:V)(v vl vu:aA)(lo hi:aY Int)(sl:Addr)(Q:VK),Inv X pins σ H s->RelV x v->s.heap.IsSliceOf sl vl vu .none->IsPart vl lo->IsPart vu hi->r x lo hi H Q->∃T id,typeLookup (.type T) "__getitem__"=pure (some (.builtin id))/\s.TypeIs v T/\bw (bM X.prog X.w) X.A (Gy v (.ref sl)) (EP X pins σ Q) X.xe s
def tSl(r:V->aY Int->aY Int->Hp->VK->Prop)(te:TE)(tl th:TO):TE:=fun σ H Q=>te σ H fun x H1=>tl σ H1 fun l H2=>th σ H2 fun u H3=>r x l u H3 Q
theorem nY(hr:SlR X r)(he:PE X e te)(hl:PO X lo tl)(hu:PO X hi th):PE X (.Subscript e (.Slice lo hi none p2) pos) (tSl r te tl th):=by intro pins s σ H Q I h;refine Subscript_ (fZ (he pins s σ H _ I h) fun v s1 h_=>h_.el fun x H1 I1 r1 q1=>?_);refine wpAny_Slice (fZ (hl pins s1 σ H1 _ I1 q1) fun vl s2⟨l,H2,I2,pl,q2⟩=>fZ (hu pins s2 σ H2 _ I2 q2) fun vu s3⟨u,H3,I3,pu,q3⟩=>?_);rw[evalPart_none];refine aL ?_;have I4:Inv X pins σ H3 {s3 with heap:=s3.heap.push {cls:=.type "slice",data:=.fields #[vl,vu,.none]}}:=I3.kept (t':=s3.toks) fun b ob q=>aK _ q;obtain⟨T,id,hT,ht,hg⟩:=hr pins {s3 with heap:=s3.heap.push {cls:=.type "slice",data:=.fields #[vl,vu,.none]}} σ H3 x v vl vu l u s3.heap.objs.size Q I4 r1 (Heap.IsSliceOf.new ..) pl pu q3;show bw (bM X.prog X.w) X.A (subscriptTail e (.Slice lo hi none p2) v (.ref s3.heap.objs.size)) (EP X pins σ Q) X.xe {s3 with heap:=s3.heap.push {cls:=.type "slice",data:=.fields #[vl,vu,.none]}};exact tail_any (ops:=[.ref s3.heap.objs.size,v]) ht hT hg (by with_unfolding_all rfl)
def wV(xs:ab V)(lo hi:aY Int):ab V:=(xs.drop (HT.Kn xs.length 0 lo)).take (HT.Kn xs.length xs.length hi-HT.Kn xs.length 0 lo)
theorem LC(xs:ab V)(lo hi:aY Int):(wV xs lo hi).length<=xs.length:=by unfold wV;rw[cS,kH];omega
end
end L2
namespace L2
open PySem PySem.Spec PyProof.Rows
def To(n:Nat)(i:Int):aY Nat:=if 0<=i then(if i<n then some i.toNat else none)else if-(n:Int)<=i then some (i+n).toNat else none
def Q6{α:Type}(xs:ab α)(i:Int):aY α:=(To xs.length i).bind fun j=>xs[j]?
theorem OV(h:To n i=some j):seqIndex? i n=some j/\j<n/\-(n:Int)<=i/\i<n:=by
 unfold To at h;by_cases h0:0<=i
 ·rw[aw h0]at h;by_cases h1:i<n;·rw[aw h1]at h;have e:i.toNat=j:=bE h;exact⟨by rw[seqIndex_of h0 h1,e],by omega,by omega,h1⟩
  ·rw[ao h1]at h;cases h
 ·rw[ao h0]at h;by_cases h1:-(n:Int)<=i;·rw[aw h1]at h;have e:(i+n).toNat=j:=bE h;exact⟨by rw[seqIndex_neg (by omega) h1,e],by omega,h1,by omega⟩
  ·rw[ao h1]at h;cases h
theorem Pg(h:Q6 xs i=some v):∃j,seqIndex? i xs.length=some j/\xs[j]? =some v/\j<xs.length/\-(xs.length:Int)<=i/\i<xs.length:=by
 unfold Q6 at h;cases e:To xs.length i with
 |none=>rw[e]at h;cases h
 |some j=>rw[e]at h;obtain⟨h1,h2,h3,h4⟩:=OV e;exact⟨j,h1,h,h2,h3,h4⟩
theorem cA{j:Nat}(h:xs[j]? =some v):Q6 xs (j:Int)=some v:=by
 have hj:j<xs.length:=(aW.mp h).1;have e:To xs.length (j:Int)=some j:=by unfold To;rw[aw (by omega),aw (by omega)];simp
 unfold Q6;rw[e];exact h
def Vi(b:eV):Prop:=∀o i,subscripted b false o i=operate [o,i] (Gy o i)
def IxR(X:Cx)(r:R2):Prop:=∀(value slice:eV)(pins:ab (Addr×Obj))(s:aS)(σ:St)(H:Hp)(x y:V)(v u:aA)(Q:VK),Inv X pins σ H s->RelV x v->RelV y u->r x y H Q->subscripted slice false v u=operate [v,u] (Gy v u)->bw (bM X.prog X.w) X.A (subscriptTail value slice v u) (EP X pins σ Q) X.xe s
def MtR(X:Cx)(id:BJ)(r:V->ab V->Hp->VK->Prop):Prop:=∀(pins:ab (Addr×Obj))(s:aS)(σ:St)(H:Hp)(x:V)(xs:ab V)(v:aA)(us:ab aA)(Q:VK),Inv X pins σ H s->RelV x v->Vals xs us->r x xs H Q->bw (bM X.prog X.w) X.A (se (.builtin id) (v::us)) (EP X pins σ Q) X.xe s
section
variable{X:Cx}{a b:eV}{ta tb:TE}{pos:Pos}
theorem cD(hr:IxR X r)(ha:PE X a ta)(hb:PE X b tb)(hs:Vi b):PE X (.Subscript a b pos) (Yt r ta tb):=by intro pins s σ H Q I h;exact Subscript_ (Ya ha hb I h fun v u s2 x y H2 I2 rx ry q=>hr a b pins s2 σ H2 x y v u Q I2 rx ry q (hs _ _))
inductive aa4(K:ag)(x y:V)(H:Hp)(Q:VK):Prop
 |mk (p:Addr) (xs:ab V) (i:Int) (v:V) (h1:x=.ref p) (h2:y=.int i) (h3:cN K H p xs) (h4:Q6 xs i=some v) (k:Q v H)
def Uc(K:ag):R2:=aa4 K
inductive aa3(K:ag)(x y:V)(H:Hp)(Q:VK):Prop
 |mk (p:Addr) (xs:ab V) (i:Int) (v:V) (h1:x=.ref p) (h2:y=.int i) (h3:q_ K H p xs) (h4:Q6 xs i=some v) (k:Q v H)
def aby(K:ag):R2:=aa3 K
theorem bA:IxR X (Uc X.K):=by
 intro value slice pins s σ H x y v u Q I rx ry h hs;obtain⟨p,xs,i,z,rfl,rfl,hq,he,q⟩:=h;cases rx;obtain⟨t,rfl⟩:=ry;obtain⟨dk,r,pl,hz⟩:=I.list hq;obtain⟨j,h1,h2,h3,h4,h5⟩:=Pg he;obtain⟨w,ew,L9⟩:=r.get h2;have hl:=r.length;have hn:=Bi;have fin:EP X pins σ Q w s:=⟨z,H,I,L9,q⟩;by_cases h0:0<=i
 ·have hj:i.toNat=j:=by rw[seqIndex_of h0 h5]at h1;exact bE h1
  exact item_listR pl.isList h0 (by omega) (by rw[hj];simpa using ew) fin hs
 ·have hj:(i+(dk.toArray.size:Int)).toNat=j:=by rw[seqIndex_neg (by omega) h4]at h1;rw[bz,<-hl];exact bE h1
  exact subscriptTail_builtinR (x:=w) pl.isList.typeIs Gw.lookup
   (wpAny_getItem_list_neg (Q:=fun r s'=>r=w/\EP X pins σ Q r s') pl.isList (by omega) (by rw[bz]<;>omega) (by omega) (by rw[hj];simpa using ew) ⟨rfl,fin⟩) hs
theorem Bo:IxR X (aby X.K):=by
 intro value slice pins s σ H x y v u Q I rx ry h hs;obtain⟨p,xs,i,z,rfl,rfl,hq,he,q⟩:=h;cases rx;obtain⟨t,rfl⟩:=ry;obtain⟨dk,r,pl,hz⟩:=I.tuple hq;obtain⟨j,h1,h2,h3,h4,h5⟩:=Pg he;obtain⟨w,ew,L9⟩:=r.get h2;have hl:=r.length;have hn:=Bi;have fin:EP X pins σ Q w s:=⟨z,H,I,L9,q⟩
 exact subscriptTail_builtinR (x:=w) pl.typeIs slot_tuple_getitem.lookup
  (getItem_tuple (j:=j) (Q:=fun r s'=>r=w/\EP X pins σ Q r s') pl (by omega) (by omega) (by rw[bz,<-hl];exact h1) (by simpa using ew) ⟨rfl,fin⟩) hs
theorem Nc(dk:ab aA)(n j:Nat)(u:aA):mM (·.setIfInBounds j u) {cls:=.type "list",data:=.seq dk.toArray n}={cls:=.type "list",data:=.seq (dk.set j u).toArray n}:=by simp[mM]
theorem Inv.lst{σ:St}(I:Inv X pins σ H s)(h:H p=some (.lst xs)):∃(dk:ab aA)(n:Nat),Vals xs dk/\s.heap.get? p=some {cls:=.type "list",data:=.seq dk.toArray n}/\xs.length<=sizeLine:=by obtain⟨z,dk,n,r,e⟩:=I.gn p _ h;exact⟨dk,n,r,e,z⟩
theorem Inv.WS{σ:St}{dk zZ:ab aA}(I:Inv X pins σ H s)(h:H p=some (.lst xs))(ho:s.heap.get? p=some {cls:=.type "list",data:=.seq dk.toArray n})(hf:f {cls:=.type "list",data:=.seq dk.toArray n}={cls:=.type "list",data:=.seq zZ.toArray n'})(r:Vals ys zZ)(hz:ys.length<=sizeLine)(t:Nat):Inv X pins σ (upd H p (.lst ys)) {s with heap:=s.heap.update p f,toks:=t}:=by
 have e:(s.heap.update p f).get? p=some {cls:=.type "list",data:=.seq zZ.toArray n'}:=by rw[fB f ho (by rw[hf]<;>rfl),hf]
 refine I.write (x:=p) (e:=p) (by rw[h];trivial) (.inl rfl) (fun b u hb q=>(mX _ _ (fY hb)).trans q) ⟨_,e⟩ ?_;exact⟨hz,zZ,n',r,e⟩
inductive aa7(o i v:V)(H:Hp)(Q:Hp->Prop):Prop
 |mk (p:Addr) (xs:ab V) (k:Int) (j:Nat) (h1:o=.ref p) (h2:i=.int k) (h3:H p=some (.lst xs)) (h4:To xs.length k=some j) (q:Q (upd H p (.lst (xs.set j v))))
def ZD:V->V->V->Hp->(Hp->Prop)->Prop:=aa7
theorem set_list:Yj X ZD:=by
 intro pins s σ H o i v ov iv u Q I ro ri rv h;obtain⟨p,xs,k,j,rfl,rfl,hp,hj,q⟩:=h;cases ro;obtain⟨t,rfl⟩:=ri;obtain⟨dk,n,r,ho,hz⟩:=I.lst hp;obtain⟨h1,h2,h3,h4⟩:=OV hj;have hl:=r.length;have hn:=Bi;have I':Inv X pins σ (upd H p (.lst (xs.set j v))) {s with heap:=s.heap.update p (mM (·.setIfInBounds j u))}:=I.WS hp ho (Nc dk n j u) (r.set rv j) (by rw[hJ];exact hz) s.toks;by_cases h0:0<=k
 ·have hk:k.toNat=j:=by rw[seqIndex_of h0 h4]at h1;exact bE h1
  exact PySem.W.ki_setAt ho h0 (by omega) (by rw[bz,<-hl];exact h4) (by rw[hk];exact⟨_,I',q⟩)
 ·have hk:(k+(dk.toArray.size:Int)).toNat=j:=by rw[seqIndex_neg (by omega) h3]at h1;rw[bz,<-hl];exact bE h1
  exact PySem.W.ki_setBack ho (by omega) (by rw[bz,<-hl];exact h3) (by omega) (by rw[hk];exact⟨_,I',q⟩)
theorem Ih(lo hi:aY Int)(n:Nat):(jT lo hi none n).1=((HT.Kn n 0 lo:Nat):Int)/\(jT lo hi none n).2.1=((HT.Kn n n hi:Nat):Int)/\(jT lo hi none n).2.2=1:=by
 refine⟨?_,?_,rfl⟩
 ·cases lo with
  |none=>simp[jT,HT.Kn]
  |some i=>
   simp only[jT,HT.Kn,Option.getD_none,show(1:Int)>0 by decide,uk];by_cases h:i<0;·simp only[h,uk]<;>omega
   ·simp only[h,mR]<;>omega
 ·cases hi with
  |none=>simp[jT,HT.Kn]
  |some i=>
   simp only[jT,HT.Kn,Option.getD_none,show(1:Int)>0 by decide,uk];by_cases h:i<0;·simp only[h,uk]<;>omega
   ·simp only[h,mR]<;>omega
theorem FO(dk:ab aA)(lo hi:aY Int):slicePick dk.toArray lo hi none=((dk.drop (HT.Kn dk.length 0 lo)).take (HT.Kn dk.length dk.length hi-HT.Kn dk.length 0 lo)).toArray:=by obtain⟨h1,h2,h3⟩:=Ih lo hi dk.toArray.size;unfold slicePick;rw[h1,h2,h3];simp only[sliceRange_one,pick_run,bz]<;>rfl
inductive adz(K:ag)(x:V)(lo hi:aY Int)(H:Hp)(Q:VK):Prop
 |mk (a:Addr) (xs:ab V) (h1:x=.ref a) (h2:cN K H a xs) (k:∀p,H p=none->Q (.ref p) (upd H p (.lst (wV xs lo hi))))
def abv(K:ag):V->aY Int->aY Int->Hp->VK->Prop:=adz K
theorem qk:SlR X (abv X.K):=by intro pins s σ H x v vl vu lo hi sl Q I rx hs pl pu h;obtain⟨a,xs,rfl,hx,q⟩:=h;cases rx;obtain⟨dk,r,ht,hz⟩:=I.list hx;have hlen:=r.length;refine⟨"list",_,Gw.lookup,ht.isList.typeIs,?_⟩;refine wpAny_getItem_list_slice ht.isList hs pl pu .none (by simp) ?_ (by rw[bz]<;>omega);rw[FO,<-hlen];refine⟨.ref s.heap.objs.size,_,I.laid (t':=s.toks) (o:=.lst (wV xs lo hi)) (fun b ob q=>aK _ q) (aD _) ?_,rfl,q _ (I.gn.fresh (aD _))⟩;exact⟨bZ (LC xs lo hi) hz,_,0,(r.drop (HT.Kn xs.length 0 lo)).take (HT.Kn xs.length xs.length hi-HT.Kn xs.length 0 lo),bu _ rfl⟩
def z7:V->Bool
 | .iG=>true
 | .bl _=>true
 | .int _=>true
 | .str _=>true
 |_=>false
def Tw:V->V->Bool
 | .iG,.iG=>true
 | .bl a,.bl b=>a==b
 | .bl a,.int b=>(if a then 1 else 0)==b
 | .int a,.bl b=>a==(if b then 1 else 0)
 | .int a,.int b=>a==b
 | .str a,.str b=>a==b
 |_,_=>false
theorem XR(ry:RelV y u)(rx:RelV x v)(fy:z7 y=true)(fx:z7 x=true):SeqAt.EqAt A s u v (Tw y x):=by
 cases y with
 |iG=>
  cases ry;cases x with
  |iG=>cases rx;exact SeqAt.EqAt.same _
  |bl b=>cases rx;exact SeqAt.EqAt.none_bool b
  |int b=>obtain⟨t,rfl⟩:=rx;exact SeqAt.EqAt.none_int b t
  |str b=>obtain⟨t,rfl⟩:=rx;exact SeqAt.EqAt.none_str b t
  |_=>exact bF (show false=true from fx) af
 |bl a=>
  cases ry;cases x with
  |iG=>cases rx;exact SeqAt.EqAt.bool_none a
  |bl b=>cases rx;exact SeqAt.EqAt.bool_bool a b
  |int b=>obtain⟨t,rfl⟩:=rx;exact SeqAt.EqAt.bool_int a b t
  |str b=>obtain⟨t,rfl⟩:=rx;exact SeqAt.EqAt.bool_str a b t
  |_=>exact bF (show false=true from fx) af
 |int a=>
  obtain⟨t',rfl⟩:=ry;cases x with
  |iG=>cases rx;exact SeqAt.EqAt.int_none a t'
  |bl b=>cases rx;exact SeqAt.EqAt.int_bool a t' b
  |int b=>obtain⟨t,rfl⟩:=rx;exact SeqAt.EqAt.int_int a t' b t
  |str b=>obtain⟨t,rfl⟩:=rx;exact SeqAt.EqAt.int_str a t' b t
  |_=>exact bF (show false=true from fx) af
 |str a=>
  obtain⟨t',rfl⟩:=ry;cases x with
  |iG=>cases rx;exact SeqAt.EqAt.str_none a t'
  |bl b=>cases rx;exact SeqAt.EqAt.str_bool a t' b
  |int b=>obtain⟨t,rfl⟩:=rx;exact SeqAt.EqAt.str_int a t' b t
  |str b=>obtain⟨t,rfl⟩:=rx;exact SeqAt.EqAt.str_str a t' b t
  |_=>exact bF (show false=true from fx) af
 |_=>exact bF (show false=true from fy) af
def NF(x:V)(u:aA):Bool:=match u with
 | .none=>Tw .iG x
 | .bool b=>Tw (.bl b) x
 | .int i _=>Tw (.int i) x
 | .str z _=>Tw (.str z) x
 |_=>false
theorem SG(r:RelV y u)(f:z7 y=true):NF x u=Tw y x:=by
 cases y with
 |iG=>cases r;rfl
 |bl b=>cases r;rfl
 |int i=>obtain⟨t,rfl⟩:=r;rfl
 |str z=>obtain⟨t,rfl⟩:=r;rfl
 |_=>exact bF (show false=true from f) af
theorem Ae:∀{xs:ab V}{us:ab aA},Vals xs us->xs.all z7=true->us.any (NF x)=xs.any fun y=>Tw y x
 |_,_,.nil,_=>rfl
 |y::xs,u::us,.cons r t,f=>by rw[oN,bN]at f;rw[lP,lP,SG r f.1,Ae t f.2]
theorem vj(rx:RelV x v)(fx:z7 x=true):∀{xs:ab V}{us:ab aA},Vals xs us->xs.all z7=true->∀u∈us,SeqAt.EqAt A s u v (NF x u)
 |_,_,.nil,_=>fun u hu=>by cases hu
 |y::xs,u::us,.cons r t,f=>fun u' hu=>by
  rw[oN,bN]at f;rcases aF.mp hu with rfl|hu;·rw[SG r f.1];exact XR r rx f.1 fx
  ·exact vj rx fx t f.2 u' hu
def Tp(x:V)(xs:ab V):Bool:=xs.any fun y=>Tw y x
inductive EIn(K:ag)(neg:Bool)(x y:V)(H:Hp)(Q:VK):Prop
 |mk (p:Addr) (xs:ab V) (h1:y=.ref p) (h2:cN K H p xs\/q_ K H p xs) (h3:z7 x=true) (h4:xs.all z7=true) (k:Q (.bl (if neg then !Tp x xs else Tp x xs)) H)
def rIn(K:ag)(neg:Bool):R2:=EIn K neg
theorem nB:xo X (eF .In) (rIn X.K false):=by
 intro pins s σ H x y v u Q I rx ry h;obtain⟨p,xs,rfl,hq,fx,fs,q⟩:=h;cases ry;rcases hq with hq|hq;·obtain⟨dk,r,pl,hz⟩:=I.list hq;refine SeqAt.in_listAt (NF x) pl.isList (fun w hw=>vj rx fx r fs w (by simpa using hw)) ⟨.bl _,H,I,rfl,?_⟩;rw[show dk.toArray.any (NF x)=dk.any (NF x) by simp,Ae r fs];exact q
 ·obtain⟨dk,r,pl,hz⟩:=I.tuple hq;refine SeqAt.in_tupleAt (NF x) pl (fun w hw=>vj rx fx r fs w (by simpa using hw)) ⟨.bl _,H,I,rfl,?_⟩;rw[show dk.toArray.any (NF x)=dk.any (NF x) by simp,Ae r fs];exact q
theorem IJ:xo X (eF .NotIn) (rIn X.K true):=by
 intro pins s σ H x y v u Q I rx ry h;obtain⟨p,xs,rfl,hq,fx,fs,q⟩:=h;cases ry;rcases hq with hq|hq;·obtain⟨dk,r,pl,hz⟩:=I.list hq;refine SeqAt.notIn_listAt (NF x) pl.isList (fun w hw=>vj rx fx r fs w (by simpa using hw)) ⟨.bl _,H,I,rfl,?_⟩;rw[show dk.toArray.any (NF x)=dk.any (NF x) by simp,Ae r fs];exact q
 ·obtain⟨dk,r,pl,hz⟩:=I.tuple hq;refine SeqAt.notIn_tupleAt (NF x) pl (fun w hw=>vj rx fx r fs w (by simpa using hw)) ⟨.bl _,H,I,rfl,?_⟩;rw[show dk.toArray.any (NF x)=dk.any (NF x) by simp,Ae r fs];exact q
theorem dv:oS X (.builtin "len") (fun xs H Q=>∃p ys,xs=[.ref p]/\(cN X.K H p ys\/q_ X.K H p ys)/\Q (.int ys.length) H):=by
 intro pins s σ H xs us Q I r h;obtain⟨p,ys,rfl,hq,q⟩:=h;obtain⟨u,rfl,rx⟩:=vals1 r;cases rx;have hn:=Bi;rcases hq with hq|hq;·obtain⟨dk,r',pl,hz⟩:=I.list hq;have hlen:=r'.length;exact Calls.call_len_list pl.isList (by simp only[bz]<;>omega) ⟨.int ys.length,H,I.tok _,⟨s.toks+1,by rw[bz,hlen]⟩,q⟩
 ·obtain⟨dk,r',pl,hz⟩:=I.tuple hq;have hlen:=r'.length;exact len_tuple pl (by simp only[bz]<;>omega) ⟨.int ys.length,H,I.tok _,⟨s.toks+1,by rw[bz,hlen]⟩,q⟩
theorem jB:oS X (.type "list") (fun xs H Q=>∃p ys,xs=[.ref p]/\(cN X.K H p ys\/q_ X.K H p ys)/\∀l,H l=none->Q (.ref l) (upd H l (.lst ys))):=by
 intro pins s σ H xs us Q I r h;obtain⟨p,ys,rfl,hq,q⟩:=h;obtain⟨u,rfl,rx⟩:=vals1 r;cases rx;have fin:∀(dk:ab aA),Vals ys dk->ys.length<=sizeLine->∀(h':Heap)(c':Nat),(∀b o',s.heap.get? b=some o'->h'.get? b=some o')->h'.get? s.heap.objs.size=some {cls:=.type "list",dict:=none,data:=.seq dk.toArray c',slots:=#[]}->EP X pins σ Q (.ref s.heap.objs.size) {s with heap:=h'}:=fun dk r' hz h' c' kp e=>⟨.ref s.heap.objs.size,_,I.laid (t':=s.toks) kp (aD _) (show iK X.prog X.w _ h' _ (.lst ys)from⟨hz,dk,c',r',e⟩),rfl,q _ (I.gn.fresh (aD _))⟩;rcases hq with hq|hq;·obtain⟨dk,r',pl,hz⟩:=I.list hq;have hlen:=r'.length;obtain⟨o,ho,hc,n,hd⟩:=pl.isList;exact call_list_seq p (.inl rfl) ho hc hd (fun h' c' kp e=>fin dk r' hz h' c' kp e) (by simp only[bz]<;>omega)
 ·obtain⟨dk,r',pl,hz⟩:=I.tuple hq;have hlen:=r'.length;obtain⟨o,ho,hc,n,hd⟩:=pl;exact call_list_seq p (.inr rfl) ho hc hd (fun h' c' kp e=>fin dk r' hz h' c' kp e) (by simp only[bz]<;>omega)
def tyV(K:ag)(T:BJ)(x:V)(H:Hp):Prop:=match x with
 | .str _=>T="str"
 | .int _=>T="int"
 | .ref p=>(T="list"/\∃xs,cN K H p xs)\/(T="tuple"/\∃o,K.lookup p=some o/\o.cls=.type "tuple"/\o.dict=none)\/
   (T="dict"/\((∃kvs,H p=some (.dK kvs))\/∃kvs,H p=some (.dT kvs)))\/(T="set"/\∃S n,H p=some (.set S n))
 |_=>False
theorem V4{σ:St}(I:Inv X pins σ H s)(r:RelV x v)(ty:tyV X.K T x H):s.TypeIs v T/\∀a,v=.ref a->∃ob,s.heap.get? a=some ob/\ob.dict=none:=by
 cases x with
 |str z=>obtain⟨t,rfl⟩:=r;cases(show T="str" from ty);exact⟨typeIs_str s z t,fun _ e=>nomatch e⟩
 |int i=>obtain⟨t,rfl⟩:=r;cases(show T="int" from ty);exact⟨typeIs_int s i t,fun _ e=>nomatch e⟩
 |ref p=>
  cases r;rcases ty with⟨rfl,xs,hq⟩|⟨rfl,o,hk,hc,hd⟩|⟨rfl,hk⟩|⟨rfl,S,n,hk⟩;·obtain⟨dk,_,pl,_⟩:=I.list hq;refine⟨pl.isList.typeIs,fun a e=>?_⟩;cases e;obtain⟨o,n,e,c,hd,_⟩:=pl;exact⟨o,e,hd⟩
  ·refine⟨⟨o,I.Nk p o hk,hc⟩,fun a e=>?_⟩;cases e;exact⟨o,I.Nk _ o hk,hd⟩
  ·have z:∃o,s.heap.get? p=some o/\o.ExactDict:=by
    rcases hk with⟨kvs,hk⟩|⟨kvs,hk⟩;·obtain⟨_,_,_,_,o,_,_,e,ex,_⟩:=I.gn p _ hk;exact⟨o,e,ex⟩
    ·obtain⟨_,_,_,_,o,_,_,e,ex,_⟩:=I.gn p _ hk;exact⟨o,e,ex⟩
   obtain⟨o,e,ex⟩:=z;refine⟨⟨o,e,ex.1⟩,fun a e2=>?_⟩;cases e2;exact⟨o,e,ex.2.1⟩
  ·obtain⟨o,_,_,_,e,ex,_⟩:=I.gn p _ hk;refine⟨⟨o,e,ex.1⟩,fun a e2=>?_⟩;cases e2;exact⟨o,e,ex.2.1⟩
 |_=>exact fJ ty
def KB2(r:V->ab V->Hp->VK->Prop)(Q:VK)(x:V):ab V->Hp->Prop:=fun xs H2=>r x xs H2 Q
inductive EBM(K:ag)(T:BJ)(r:V->ab V->Hp->VK->Prop)(t:TA)(σ:St)(Q:VK)(x:V)(H1:Hp):Prop
 |mk (h:tyV K T x H1) (k:t σ H1 (KB2 r Q x))
def tBM(K:ag)(T:BJ)(r:V->ab V->Hp->VK->Prop)(to:TE)(t:TA):TE:=fun σ H Q=>to σ H (EBM K T r t σ Q)
variable{o e:eV}{es:ab eV}{to:TE}{t:TA}{name:Str}{apos jM:Pos}{T id:BJ}{r:V->ab V->Hp->VK->Prop}
theorem VF(pa:PlainAttrs T)(slot:Slot T name id)(hty:typeOf (.builtin id)=pure (.type "method_descriptor"))(hm:MtR X id r)(ho:PE X o to)(ha:PA X (e::es) t)(Lf:kr o name X.env (eval o X.env)=eval o X.env:=by rfl)(Sm:((ic jM (b_ (e::es) X.env)).all (fun x=>!x.1)&&(oJ jM (jn [] X.env)).all (fun x=>x.1.isSome) &&decide ((e::es).length+([]:ab uw).length+(if([]:ab uw).isEmpty then 0 else 1)<30))=true:=by rfl)(Lc:(apos.endLine==jM.line)=true:=by rfl)(hs:b_ (e::es) X.env=(false,eval e X.env)::b_ es X.env:=by rfl)(EH:(ic jM (b_ es X.env)).any (·.1)=false:=by rfl):PE X (.Call (.Attribute o name apos) (e::es) [] jM) (tBM X.K T r to t):=by intro pins s σ H Q I h;refine wpAny_Call_method_late Lf Sm Lc rfl (fZ (ho pins s σ H _ I h) fun v s1⟨x,H1,I1,r1,ty,q1⟩=>?_);obtain⟨h1,h2⟩:=V4 I1 r1 ty;refine⟨T,id,pa,slot,hty,h1,h2,?_⟩;have hA:=ha jM pins s1 σ H1 _ I1 q1;rw[hs]at hA⊢;refine ue (by show(false||(ic jM (b_ es X.env)).any (·.1))=false;rw[EH]<;>rfl) (xc ?_);exact fZ hA fun us s2 h_=>h_.el fun vs H2 I2 r2 q2=>hm pins s2 σ H2 x vs v us Q I2 r1 r2 q2
end
end L2
namespace L2
open PySem PySem.Spec PyProof.Rows
def MtM(X:Cx)(id:BJ)(r:V->ab V->Hp->VK->Prop):Prop:=∀(pins:ab (Addr×Obj))(s:aS)(σ:St)(H:Hp)(x:V)(xs:ab V)(v:aA)(us:ab aA)(Q:VK),Inv X pins σ H s->RelV x v->Vals xs us->r x xs H Q->bw (bM X.prog X.w) X.A (se (.builtin id) (v::us)) (EP X pins σ Q) X.xe s
theorem Vals.one:∀{x:V}{us:ab aA},Vals [x] us->∃u,us=[u]/\RelV x u
 |_,_,.cons r .nil=>⟨_,rfl,r⟩
theorem Vals.rep(h:Vals xs us):∀k:Nat,Vals (cO k xs).flatten (cO k us).flatten
 |0=>.nil
 |k+1=>by rw[ik,ik,ke,ke];exact Vals.append h (Vals.rep h k)
theorem foldl_rep(dk:ab aA):∀(k:Nat)(acc:ab aA),List.foldl (fun x1 x2=>x1++x2) acc.toArray (cO k dk.toArray)=(acc++(cO k dk).flatten).toArray
 |0,acc=>by simp
 |k+1,acc=>by
  have e:acc.toArray++dk.toArray=(acc++dk).toArray:=by simp
  have e2:(acc++dk)++(cO k dk).flatten=acc++(cO (k+1) dk).flatten:=by rw[ik,ke,gk]
  rw[<-e2,<-foldl_rep dk k (acc++dk),<-e,ik,dg]
section
variable{X:Cx}{pins:ab (Addr×Obj)}{σ:St}{H:Hp}{s:aS}{l b:Addr}{xs ys zs:ab V}
theorem Inv.ZW{dk zZ:ab aA}(I:Inv X pins σ H s)(hH:H l=some (.lst xs))(e:s.heap.get? l=some {cls:=.type "list",data:=.seq dk.toArray n})(hf:f dk.toArray=zZ.toArray)(hv:Vals ys zZ)(hz:ys.length<=sizeLine):Inv X pins σ (upd H l (.lst ys)) {s with heap:=s.heap.update l (mM f),toks:=t'}:=by have q:=PySem.IsL.update e f;rw[hf]at q;refine I.write (x:=l) (e:=l) (by rw[hH];exact trivial) (.inl rfl) (fun b' u hb hu=>(mX s.heap (mM f) (fY hb)).trans hu) ⟨_,q⟩ ?_;exact⟨hz,zZ,_,hv,q⟩
theorem Inv.ZX(I:Inv X pins σ H s)(hv:Vals ys dk)(hz:ys.length<=sizeLine):Inv X pins σ (upd H s.heap.objs.size (.lst ys)) {s with heap:=s.heap.push {cls:=.type "list",data:=.seq dk.toArray},toks:=t'}:=I.laid (fun _ _ q=>aK _ q) (aD _) ⟨hz,dk,0,hv,bu _ rfl⟩
theorem Inv.fresh(I:Inv X pins σ H s):H s.heap.objs.size=none:=I.gn.fresh (aD _)
theorem Inv.P8(I:Inv X pins σ H s)(hH:H l=some (.lst xs)):xs.length<=sizeLine/\∃(dk:ab aA)(n:Nat),Vals xs dk/\xs.length=dk.length/\s.heap.get? l=some {cls:=.type "list",data:=.seq dk.toArray n}:=by obtain⟨z,dk,n,r,e⟩:=I.gn l _ hH;exact⟨z,dk,n,r,r.length,e⟩
theorem KN(h:n<=sizeLine):kg n=false:=by unfold kg;exact dH (by omega)
end
section
variable{X:Cx}
inductive adC(x:V)(vs:ab V)(H:Hp)(Q:VK):Prop
 |mk (l:Addr) (xs:ab V) (y:V) (h1:x=.ref l) (h2:vs=[y]) (h3:H l=some (.lst xs)) (h4:xs.length<sizeLine) (k:Q .iG (upd H l (.lst (xs++[y]))))
def OE:V->ab V->Hp->VK->Prop:=adC
theorem P6:MtM X "list.append" OE:=by intro pins s σ H x vs v us Q I rx rv h;obtain⟨l,xs,y,rfl,rfl,hH,hz,q⟩:=h;cases rx;obtain⟨u,rfl,ru⟩:=rv.one;obtain⟨z,dk,n,r,hl,e⟩:=I.P8 hH;refine call_meets F.slot_list_append ⟨_,e,rfl⟩ F.entry_list_append (F.args_list_append_2 _ _) (PySem.list_append l dk.toArray n u (by rw[bz];omega)) ⟨e,?_⟩;refine⟨.iG,_,I.ZW (zZ:=dk++[u]) hH e (by simp) (r.append (.cons ru .nil)) ?_,rfl,q⟩;rw[bo,cn];omega
inductive adA(x:V)(vs:ab V)(H:Hp)(Q:VK):Prop
 |mk (l b:Addr) (xs zs:ab V) (h1:x=.ref l) (h2:vs=[.ref b]) (h3:H l=some (.lst xs)) (h4:H b=some (.lst zs)) (h5:xs.length+zs.length<=sizeLine) (k:Q .iG (upd H l (.lst (xs++zs))))
def ID:V->ab V->Hp->VK->Prop:=adA
theorem P5:MtM X "list.extend" ID:=by
 intro pins s σ H x vs v us Q I rx rv h;obtain⟨l,b,xs,zs,rfl,rfl,hH,hB,hz,q⟩:=h;cases rx;obtain⟨u,rfl,ru⟩:=rv.one;cases ru;obtain⟨z,dk,n,r,hl,e⟩:=I.P8 hH;obtain⟨z2,Nl,n2,r2,Xq,e2⟩:=I.P8 hB;have hsz:dk.toArray.size+Nl.toArray.size<=sizeLine:=by rw[bz,bz];omega
 have Sb:¬(!dk.toArray.isEmpty&&kg (dk.toArray.size+Nl.toArray.size))=true:=by rw[KN hsz,HN];exact af
 refine call_meets F.slot_list_extend ⟨_,e,rfl⟩ F.entry_list_extend (F.args_list_extend_2 _ _)
  (AutoSeq1.list_extend_list_list_0 l dk.toArray n b Nl.toArray n2 Sb (by rw[bz];omega) (by omega)) ⟨e,e2,?_⟩
 refine⟨.iG,_,I.ZW (zZ:=dk++Nl) hH e (by simp) (r.append r2) ?_,rfl,q⟩;rw[bo];omega
def ZF:R2:=fun x y H Q=>∃l b xs zs,x=.ref l/\y=.ref b/\H l=some (.lst xs)/\H b=some (.lst zs)/\xs.length+zs.length<=sizeLine/\∀p,H p=none->Q (.ref p) (upd H p (.lst (xs++zs)))
theorem A8:xo X (xa .Add) ZF:=by
 intro pins s σ H x y v u Q I rx ry h;obtain⟨l,b,xs,zs,rfl,rfl,hH,hB,hz,q⟩:=h;cases rx;cases ry;obtain⟨z,dk,n,r,hl,e⟩:=I.P8 hH;obtain⟨z2,Nl,n2,r2,Xq,e2⟩:=I.P8 hB;refine PySem.P.add_list e e2 ?_ (by rw[bz,bz];omega);have ea:dk.toArray++Nl.toArray=(dk++Nl).toArray:=by simp
 rw[ea];exact⟨.ref _,_,I.ZX (t':=s.toks) (r.append r2) (by rw[bo];omega),rfl,q _ I.fresh⟩
def abw:R2:=fun x y H Q=>∃l k xs,x=.ref l/\y=.int k/\H l=some (.lst xs)/\-(2^63)<=k/\k<2^63/\xs.length*k.toNat<=sizeLine/\∀p,H p=none->Q (.ref p) (upd H p (.lst (cO k.toNat xs).flatten))
theorem len_rep{α:Type}(xs:ab α)(k:Nat):(cO k xs).flatten.length=k*xs.length:=by
 induction k with
 |zero=>simp
 |succ k ih=>rw[ik,ke,bo,ih,Nat.succ_mul,vO]
theorem ve:xo X (xa .Mult) abw:=by
 intro pins s σ H x y v u Q I rx ry h;obtain⟨l,k,xs,rfl,rfl,hH,h1,h2,hz,q⟩:=h;cases rx;obtain⟨t,rfl⟩:=ry;obtain⟨z,dk,n,r,hl,e⟩:=I.P8 hH;have hlen:dk.toArray.size*k.toNat<=sizeLine:=by rw[bz,<-hl];exact hz
 have acG:¬dk.toArray.size*k.toNat>(2^63-1)/8:=by
  have:(sizeLine:Nat)<=(2^63-1)/8:=by decide
  omega
 have acw:¬(!Builtin.List.listFitsIndex k)=true:=by rw[fitsIndex_both h1 h2];exact af
 have Sb:¬kg (dk.toArray.size*k.toNat)=true:=by rw[KN hlen];exact af
 have acb:List.foldl (fun x1 x2=>x1++x2) #[] (cO (if dk.toArray.isEmpty=true then 0 else k.toNat) dk.toArray)=(cO k.toNat dk).flatten.toArray:=by
  have f0:∀m:Nat,List.foldl (fun x1 x2=>x1++x2) #[] (cO m dk.toArray)=(cO m dk).flatten.toArray:=fun m=>by have:=foldl_rep dk m [];rw[vP]at this;exact this
  rw[f0];cases dk with
  |nil=>simp
  |cons a r'=>rw[ao (by simp)]
 refine wpAny_binaryOp_repeat_ref (T:="list") (U:="int") (by decide) ⟨_,e,rfl⟩ (fun s'=>typeIs_int s' k t) noFill_list_mul F.fills_int_mul F.slot_int_rmul repeat_list F.slot_int_index.lookup
  (call_meets F.slot_int_rmul (typeIs_int s k t) F.entry_int_rmul (F.args_int_rmul_2 _ _) (int___rmul___int_list k t l dk.toArray n)
   ⟨e,rfl,⟨_,e,rfl⟩,call_meets F.slot_list_mul ⟨_,e,rfl⟩ F.entry_list_mul (F.args_list_mul_2 _ _) (AutoListH.list___mul___list_int_3 l dk.toArray n k t acw acG Sb) ⟨e,?_⟩⟩)
 rw[acb];exact⟨.ref _,_,I.ZX (t':=s.toks) (r.rep k.toNat) (by rw[len_rep,d7];exact hz),rfl,q _ I.fresh⟩
end
end L2
namespace L2
open PySem PySem.Spec PyProof.Rows
theorem Vals.ints:∀{ns:ab Int}{us:ab aA},Vals (ns.map V.int) us->i9 us ns
 |[],us,h=>by rw[mZ]at h;cases h;exact IntsAre.nil
 |n::ns,us,h=>by
  rw[cx]at h;cases h with
  |cons r t=>obtain⟨k,rfl⟩:=r;exact IntsAre.cons n k (Vals.ints t)
theorem yZ:∀{us:ab aA}{ns:ab Int},i9 us ns->Vals (ns.map V.int) us
 |_,_,.nil=>by rw[mZ];exact Paired.nil
 |_,_,.cons n t h=>by rw[cx];exact Paired.cons (show RelV (V.int n) (iX n t)from⟨t,rfl⟩) (yZ h)
theorem Vals.bls:∀{bs:ab Bool}{us:ab aA},Vals (bs.map V.bl) us->us=bs.map n_
 |[],us,h=>by rw[mZ]at h;cases h;rfl
 |b::bs,us,h=>by
  rw[cx]at h;cases h with
  |cons r t=>cases r;rw[Vals.bls t,cx]
theorem Vals.IA(r:Vals [V.ref a] us):us=[dA a]:=by
 cases r with
 |cons r t=>cases t;cases r;rfl
theorem Vals.abL(r:Vals [V.int i,V.int j] us):∃t u,us=[iX i t,iX j u]:=by
 cases r with
 |cons r t=>
  cases t with
  |cons r2 t2=>cases t2;obtain⟨t,rfl⟩:=r;obtain⟨u,rfl⟩:=r2;exact⟨t,u,rfl⟩
section
variable{prog:bT}{w:cU}{A:gR}{E:aA->aS->Prop}{s:aS}{l:Addr}{dk:ab aA}{ns:ab Int}{Q:aA->aS->Prop}
theorem TZ(hh:A.handled=none)(hl:s.heap.IsList l dk.toArray)(hi:i9 dk ns)(h:∀h' tk t',(∀b o,s.heap.get? b=some o->h'.get? b=some o)->Q (.int ns.sum t') {s with heap:=h',toks:=tk}):bw (bM prog w) A (se (.builtin "sum") [.ref l]) Q E s:=by
 obtain⟨xs,e⟩:=hi.allInts.items;have hn:numsOf (intItems xs).toList=ns:=by rw[<-e];exact hi.numsOf
 rw[nums_intItems]at hn;rw[e]at hl;refine PySem.sum_intListG hh hl fun h' tk t' hk=>?_;have:=h h' tk t' hk;rw[preSum_eq,uy (by simp),hn];exact this
theorem abc(hh:A.handled=none)(hl:s.heap.IsList l dk.toArray)(hi:i9 dk ns)(oR:0<ns.length)(h:∀h' tk M t',(∀b o,s.heap.get? b=some o->h'.get? b=some o)->M∈ns->(∀a,a∈ns->a<=M)->Q (.int M t') {s with heap:=h',toks:=tk}):bw (bM prog w) A (se (.builtin "max") [.ref l]) Q E s:=by
 obtain⟨xs,e⟩:=hi.allInts.items;have hn:numsOf (intItems xs).toList=ns:=by rw[<-e];exact hi.numsOf
 rw[nums_intItems]at hn;subst hn;rw[e]at hl;have hsz:0<xs.size:=by simpa using oR
 refine PySem.max_intList hh hl hsz fun v h' tk hv hk=>?_;obtain⟨t,rfl⟩:=intItems_at hv;obtain⟨h1,h2⟩:=argBest_gt (numAt xs) (xs.size-1);refine h h' tk _ t hk ?_ fun a ha=>?_;·rw[numAt_eq];exact Gz (by rw[ae,bK];omega)
 ·obtain⟨j,hj,rfl⟩:=mem_getD ha;rw[ae,bK]at hj;rw[<-numAt_eq];exact h2 j (by omega)
theorem Uz(hh:A.handled=none)(hl:s.heap.IsList l dk.toArray)(hi:i9 dk ns)(oR:0<ns.length)(h:∀h' tk M t',(∀b o,s.heap.get? b=some o->h'.get? b=some o)->M∈ns->(∀a,a∈ns->M<=a)->Q (.int M t') {s with heap:=h',toks:=tk}):bw (bM prog w) A (se (.builtin "min") [.ref l]) Q E s:=by
 obtain⟨xs,e⟩:=hi.allInts.items;have hn:numsOf (intItems xs).toList=ns:=by rw[<-e];exact hi.numsOf
 rw[nums_intItems]at hn;subst hn;rw[e]at hl;have hsz:0<xs.size:=by simpa using oR
 refine PySem.min_intList hh hl hsz fun v h' tk hv hk=>?_;obtain⟨t,rfl⟩:=intItems_at hv;obtain⟨h1,h2⟩:=argBest_lt (numAt xs) (xs.size-1);refine h h' tk _ t hk ?_ fun a ha=>?_;·rw[numAt_eq];exact Gz (by rw[ae,bK];omega)
 ·obtain⟨j,hj,rfl⟩:=mem_getD ha;rw[ae,bK]at hj;rw[<-numAt_eq];exact h2 j (by omega)
end
section
variable{X:Cx}
def ZC(K:ag):ab V->Hp->VK->Prop:=fun vs H Q=>∃(a:Addr)(ns:ab Int),vs=[V.ref a]/\cN K H a (ns.map V.int)/\Q (.int ns.sum) H
def abx(K:ag):ab V->Hp->VK->Prop:=fun vs H Q=>∃(a:Addr)(ns:ab Int),vs=[V.ref a]/\cN K H a (ns.map V.int)/\0<ns.length/\∀m,m∈ns->(∀y,y∈ns->m<=y)->Q (.int m) H
theorem SN(hc:X.calm=true):oS X (.builtin "sum") (ZC X.K):=by intro pins s σ H vs us Q I r h;obtain⟨a,ns,rfl,hs,q⟩:=h;obtain⟨dk,rv,hl,_⟩:=I.list hs;rw[Vals.IA r];exact TZ (I.ok.hd hc) hl.isList rv.ints fun h' tk t' hk=>⟨.int _,H,I.kept hk,⟨_,rfl⟩,q⟩
theorem X3(hc:X.calm=true):oS X (.builtin "min") (abx X.K):=by intro pins s σ H vs us Q I r h;obtain⟨a,ns,rfl,hs,oR,q⟩:=h;obtain⟨dk,rv,hl,_⟩:=I.list hs;rw[Vals.IA r];exact Uz (I.ok.hd hc) hl.isList rv.ints oR fun h' tk m t' hk h1 h2=>⟨.int _,H,I.kept hk,⟨_,rfl⟩,q m h1 h2⟩
end
theorem K9(hl:s.heap.IsList l items)(h:∀s₂:aS,s₂={s with heap:=s.heap.push {cls:=.type "list_iterator",data:=.fields #[.ref l,.int 0 0]}}->(s₂.heap.IsListIter s.heap.objs.size l 0/\s₂.heap.IsList l items)->l≠s.heap.objs.size->Q (.ref s.heap.objs.size) s₂):bw (bM prog w) A (pyIter (.ref l)) Q E s:=by
 have jQ:l<s.heap.objs.size:=by obtain⟨_,e,_⟩:=hl;exact bI e
 exact Gu hl (h _ rfl ⟨⟨_,bu _ rfl,rfl,rfl⟩,hl.push _⟩ (cG jQ))
theorem BQ{bs:ab Bool}(e:dk=bs.map n_):TruthOf prog w A (fun i v=>dk.toArray[i]? =some v) (fun i=>bs.getD i false):=fun i v s Q E hv hq=>by
 have Qh:dk[i]? =some v:=by simpa using hv
 rw[e,bp]at Qh;obtain⟨b,hb,rfl⟩:=t_.mp Qh;have hg:bs.getD i false=b:=by rw[dF,hb]<;>rfl
 have Hk:Q (bs.getD i false) s:=hq;rw[hg]at Hk;exact d3 Hk
theorem any_range:∀bs:ab Bool,(cP bs.length).any (fun i=>bs.getD i false)=bs.any id
 |[]=>rfl
 |b::bs=>by rw[bg,List.range_succ_eq_map,lP,List.any_map,lP,<-any_range bs];all_goals rfl
theorem all_range:∀bs:ab Bool,(cP bs.length).all (fun i=>bs.getD i false)=bs.all id
 |[]=>rfl
 |b::bs=>by rw[bg,List.range_succ_eq_map,oN,List.all_map,oN,<-all_range bs];all_goals rfl
section
variable{X:Cx}
def abz(K:ag):ab V->Hp->VK->Prop:=fun vs H Q=>∃(a:Addr)(bs:ab Bool),vs=[V.ref a]/\cN K H a (bs.map V.bl)/\Q (.bl (bs.any id)) H
def abA(K:ag):ab V->Hp->VK->Prop:=fun vs H Q=>∃(a:Addr)(bs:ab Bool),vs=[V.ref a]/\cN K H a (bs.map V.bl)/\Q (.bl (bs.all id)) H
theorem X4(hc:X.calm=true):oS X (.builtin "any") (abz X.K):=by
 intro pins s σ H vs us Q I r h;obtain⟨a,bs,rfl,hs,q⟩:=h;obtain⟨dk,rv,hl,_⟩:=I.list hs;rw[Vals.IA r];have hb:=rv.bls;refine call_any_walk (K9 hl.isList fun s₂ e2 st oR=>?_);subst e2;refine⟨_,_,_,_,_,_,_,rfl,Walks.list (A:=X.A.in1) (I.ok.hd hc) _ a oR dk.toArray,st,BQ hb,fun h' tk hk=>?_⟩;refine⟨.bl _,H,I.kept fun b o eo=>hk b o (fun o4=>?_) (aK _ eo),?_,q⟩
 ·rcases aF.mp o4 with e1|o4;·exact bF (e1▸bI eo) (gj _)
  ·cases o4
 ·show n_ _=n_ _;rw[<-any_range,hb,bz,ae]
theorem Jo(hc:X.calm=true):oS X (.builtin "all") (abA X.K):=by
 intro pins s σ H vs us Q I r h;obtain⟨a,bs,rfl,hs,q⟩:=h;obtain⟨dk,rv,hl,_⟩:=I.list hs;rw[Vals.IA r];have hb:=rv.bls;refine call_all_walk (K9 hl.isList fun s₂ e2 st oR=>?_);subst e2;refine⟨_,_,_,_,_,_,_,rfl,Walks.list (A:=X.A.in1) (I.ok.hd hc) _ a oR dk.toArray,st,BQ hb,fun h' tk hk=>?_⟩;refine⟨.bl _,H,I.kept fun b o eo=>hk b o (fun o4=>?_) (aK _ eo),?_,q⟩
 ·rcases aF.mp o4 with e1|o4;·exact bF (e1▸bI eo) (gj _)
  ·cases o4
 ·show n_ _=n_ _;rw[<-all_range,hb,bz,ae]
end
mutual
inductive Dp(K:ag)(H:Hp):V->PyData->Prop
 |iG:Dp K H .iG .none
 |bl (b:Bool):Dp K H (.bl b) (.bool b)
 |int (i:Int):Dp K H (.int i) (.int i)
 |str (x:Str):Dp K H (.str x) (.str x)
 |lst {a:Addr} {xs:ab V} {ds:ab PyData}:cN K H a xs->HF K H xs ds->Dp K H (.ref a) (.list ds)
 |tup {a:Addr} {xs:ab V} {ds:ab PyData}:q_ K H a xs->HF K H xs ds->Dp K H (.ref a) (.tuple ds)
inductive HF(K:ag)(H:Hp):ab V->ab PyData->Prop
 |nil:HF K H [] []
 |cons {v:V} {vs:ab V} {d:PyData} {ds:ab PyData}:Dp K H v d->HF K H vs ds->HF K H (v::vs) (d::ds)
end
section
variable{X:Cx}{pins:ab (Addr×Obj)}{σ:St}{H:Hp}{s:aS}
mutual
theorem Dp.reads(I:Inv X pins σ H s):∀(d:PyData)(v:V)(u:aA),Dp X.K H v d->RelV v u->∃as,Reads s.heap u d as
 | .none,_,_,h,r=>by cases h;cases r;exact⟨_,Reads.none⟩
 | .bool b,_,_,h,r=>by cases h;cases r;exact⟨_,Reads.bool b⟩
 | .int i,_,_,h,r=>by cases h;obtain⟨t,rfl⟩:=r;exact⟨_,Reads.int i t⟩
 | .str x,_,_,h,r=>by cases h;obtain⟨t,rfl⟩:=r;exact⟨_,Reads.str x t⟩
 | .list ds,_,_,h,r=>by
  cases h with
  |lst hs ha=>cases r;obtain⟨dk,rv,⟨o,n,ho,hc,_,hd⟩,_⟩:=I.list hs;obtain⟨as,hr⟩:=Dp.readsAll I ds _ dk ha rv;exact⟨_,Reads.list ho hc hd hr⟩
 | .tuple ds,_,_,h,r=>by
  cases h with
  |tup hs ha=>cases r;obtain⟨dk,rv,⟨o,ho,hc,n,hd⟩,_⟩:=I.tuple hs;obtain⟨as,hr⟩:=Dp.readsAll I ds _ dk ha rv;exact⟨_,Reads.tuple ho hc hd hr⟩
 | .dict _,_,_,h,_=>by cases h
theorem Dp.readsAll(I:Inv X pins σ H s):∀(ds:ab PyData)(vs:ab V)(us:ab aA),HF X.K H vs ds->Vals vs us->∃as,ReadsAll s.heap us ds as
 |[],_,_,h,r=>by cases h;cases r;exact⟨_,ReadsAll.nil⟩
 |d::ds,_,_,h,r=>by
  cases h with
  |cons h1 h2=>
   cases r with
   |cons r1 r2=>obtain⟨as,q1⟩:=Dp.reads I d _ _ h1 r1;obtain⟨bs,q2⟩:=Dp.readsAll I ds _ _ h2 r2;exact⟨_,ReadsAll.cons q1 q2⟩
end
end
end L2
namespace L2
open PySem PySem.Spec PyProof.Rows
abbrev Th(h:Heap)(c:Addr)(v:aY aA):Prop:=h.IsCell c v
def abu(scope sc:Scope):Scope:={scope with names:=scope.names.map fun(n,k)=>if(k==.free&&sc.kind==.function&&sc.names.lookup n==some .cell)then(n,.cell)else(n,k)}
def gI(cells:ab (Str×Addr)):ab (Str×jo)->ab (Str×Addr)->ab (Str×Addr)
 |[],acc=>acc
 |(n,k)::r,acc=>if k==.free then gI cells r ((n,(cells.lookup n).getD 0)::acc)else gI cells r acc
theorem z9(env:Env)(f:Str×jo->ab (Str×Addr)->Sem (ForInStep (ab (Str×Addr))))
  (hf:∀n k c,f (n,k) c=if k==.free then(do let a<-cellOf env n;pure (.yield ((n,a)::c)))else pure (.yield c)):
  ∀(names:ab (Str×jo))(acc:ab (Str×Addr)),(∀y∈names,y.2=.free->∃c,env.cells.lookup y.1=some c)->forIn names acc f=pure (gI env.cells names acc)
 |[],acc,_=>by rw[List.forIn_nil];rfl
 |(n,k)::r,acc,h=>by
  rw[List.forIn_cons,hf]
  have ih:=fun acc=>z9 env f hf r acc fun y hy=>h y (bY _ hy)
  unfold gI
  by_cases hk:(k==nN)=true
  ·rw[aw hk,aw hk]
   obtain⟨c,hc⟩:=h (n,k) df (by simpa using hk)
   have e:cellOf env n=pure c:=by unfold cellOf;rw[hc]
   rw[e]
   have e2:(env.cells.lookup n).getD 0=c:=by rw[hc];rfl
   rw[e2]
   exact ih _
  ·rw[ao hk,ao hk]
   exact ih _
theorem NJ(h:∀y∈scope.names,y.2=.free->∃c,env.cells.lookup y.1=some c):closureFor scope env=pure (gI env.cells scope.names []):=by simp only[closureFor];rw[z9 env _ (fun n k c=>rfl) scope.names [] h];rfl
theorem mem_lookup{α:Type}:∀{l:ab (Str×α)}{n:Str}{c:α},(n,c)∈l->∃c',l.lookup n=some c'
 |(k,v)::r,n,c,h=>by
  rw[jt];cases hb:n==k with
  |true=>exact⟨_,rfl⟩
  |false=>
   rcases aF.mp h with e|h;·cases e;simp at hb
   ·exact mem_lookup h
theorem qA:∀{names:ab (Str×jo)}{acc:ab (Str×Addr)}{n:Str}{c:Addr},(n,c)∈gI cells names acc->(n,c)∈acc\/((n,.free)∈names/\c=(cells.lookup n).getD 0)
 |[],_,_,_,h=>.inl h
 |(m,k)::r,acc,n,c,h=>by
  unfold gI at h;split at h
  ·rename_i hk;have hk:k=.free:=by simpa using hk
   rcases qA h with h|⟨h1,h2⟩
   ·rcases aF.mp h with e|h;·cases e;exact .inr ⟨hk▸df,rfl⟩
    ·exact .inl h
   ·exact .inr ⟨bY _ h1,h2⟩
  ·rcases qA h with h|⟨h1,h2⟩;·exact .inl h
   ·exact .inr ⟨bY _ h1,h2⟩
theorem vB:∀{names:ab (Str×jo)}{acc:ab (Str×Addr)}{p:Str×Addr},p∈acc->p∈gI cells names acc
 |[],_,_,h=>h
 |(m,k)::r,acc,p,h=>by
  unfold gI;split;·exact vB (bY _ h)
  ·exact vB h
theorem vA:∀{names:ab (Str×jo)}{acc:ab (Str×Addr)}{n:Str},(n,.free)∈names->(n,(cells.lookup n).getD 0)∈gI cells names acc
 |(m,k)::r,acc,n,h=>by
  unfold gI;rcases aF.mp h with e|h;·cases e;exact vB df
  ·split;·exact vA h
   ·exact vA h
theorem rW:∀{names:ab (Str×jo)}{h:Heap}{acc:ab (Str×Addr)}{x:Str}{c:Addr},(x,c)∈fh h.objs.size names acc->(x,c)∈acc\/((x,.cell)∈names/\h.objs.size<=c/\Th (sj h names) c none)
 |[],_,_,_,_,h=>.inl h
 |(n,k)::r,h,acc,x,c,hm=>by
  unfold fh at hm;unfold sj;split at hm
  ·rename_i hk;rw[aw hk];have hk:k=.cell:=by simpa using hk
   rw[<-c5 h {cls:=.type "cell",data:=.cell none}]at hm;rcases rW hm with hm|⟨h1,h2,h3⟩
   ·rcases aF.mp hm with e|hm;·cases e;exact .inr ⟨hk▸df,aD _,_,yS r _ _ _ (bu _ rfl),rfl⟩
    ·exact .inl hm
   ·rw[c5]at h2;exact .inr ⟨bY _ h1,so h2,h3⟩
  ·rename_i hk;rw[ao hk];rcases rW hm with hm|⟨h1,h2,h3⟩;·exact .inl hm
   ·exact .inr ⟨bY _ h1,h2,h3⟩
theorem wx:∀{names:ab (Str×jo)}{n:Nat}{acc:ab (Str×Addr)}{p:Str×Addr},p∈acc->p∈fh n names acc
 |[],_,_,_,h=>h
 |(m,k)::r,n,acc,p,h=>by
  unfold fh;split;·exact wx (bY _ h)
  ·exact wx h
theorem Bw:∀{names:ab (Str×jo)}{n:Nat}{acc:ab (Str×Addr)}{x:Str},(x,.cell)∈names->∃c,(x,c)∈fh n names acc
 |(m,k)::r,n,acc,x,h=>by
  unfold fh;rcases aF.mp h with e|h;·cases e;exact⟨n,wx df⟩
  ·split;·exact Bw h
   ·exact Bw h
theorem Bv:∀{names:ab (Str×jo)}{h:Heap}{acc:ab (Str×Addr)}{x y:Str}{c:Addr},(∀p∈acc,p.2<h.objs.size)->(∀x y c,(x,c)∈acc->(y,c)∈acc->x=y)->(x,c)∈fh h.objs.size names acc->(y,c)∈fh h.objs.size names acc->x=y
 |[],_,_,_,_,_,_,hi,h1,h2=>hi _ _ _ h1 h2
 |(n,k)::r,h,acc,x,y,c,hl,hi,h1,h2=>by
  unfold fh at h1 h2;split at h1
  ·rename_i hk;rw[aw hk]at h2;rw[<-c5 h {cls:=.type "cell",data:=.cell none}]at h1 h2;refine Bv (h:=h.push _) (fun p hp=>?_) (fun x y c a b=>?_) h1 h2
   ·rw[c5];rcases aF.mp hp with rfl|hp;·exact jE _
    ·exact jb (hl p hp)
   ·rcases aF.mp a with e|a<;>rcases aF.mp b with e'|b;·cases e;cases e';rfl
    ·cases e;exact bF (hl _ b) (gj _)
    ·cases e';exact bF (hl _ a) (gj _)
    ·exact hi _ _ _ a b
  ·rename_i hk;rw[ao hk]at h2;exact Bv hl hi h1 h2
theorem KO{code:aA}(h:Q (newEnv scope s.heap.objs.size globals (fh (s.heap.objs.size+1) scope.names closure) qual func code (some around) builtins) {s with heap:=sj (s.heap.push {cls:=.type "dict",data:=.dict #[]}) scope.names}):bw M A (newFunctionEnv scope globals closure [] qual func code (some around) builtins) Q E s:=by simp only[newFunctionEnv,Option.isSome_some,uk];refine ai (wpAny_alloc ?_);refine ai (wpAny_layCells _ (fun n k c=>rfl) scope.names closure _ _ ?_);rw[show({s with heap:=s.heap.push {cls:=.type "dict",data:=.dict #[]}}:aS).heap.objs.size=s.heap.objs.size+1 from c5 ..];rw[List.forIn_nil];exact ai (aL (aL h))
theorem vm{sc:Scope}:∀{names:ab (Str×jo)}{x:Str}{k:jo},(names.map fun(n,k)=>if(k==nN&&sc.kind==.function&&sc.names.lookup n==some .cell)then(n,Fv)else(n,k)).lookup x=some k->∃k',names.lookup x=some k'/\(k=k'\/(k'=.free/\k=.cell))
 |[],_,_,h=>by simp at h
 |(n,k₀)::r,x,k,h=>by
  have ih:=@vm sc r x k;have h':mN x ((if(k₀==nN&&sc.kind==.function&&sc.names.lookup n==some .cell)=true then(n,Fv)else(n,k₀))::(r.map _))=some k:=h;cases hx:x==n with
  |true=>
   simp only[jt,hx];by_cases hc:(k₀==nN&&sc.kind==.function&&sc.names.lookup n==some .cell)=true;·rw[aw hc]at h';simp only[jt,hx]at h';cases h';simp only[bN,dU]at hc;exact⟨k₀,rfl,.inr ⟨hc.1.1,rfl⟩⟩
   ·rw[ao hc]at h';simp only[jt,hx]at h';cases h';exact⟨_,rfl,.inl rfl⟩
  |false=>
   simp only[jt,hx];by_cases hc:(k₀==nN&&sc.kind==.function&&sc.names.lookup n==some .cell)=true;·rw[aw hc]at h';simp only[jt,hx]at h';exact ih h'
   ·rw[ao hc]at h';simp only[jt,hx]at h';exact ih h'
structure L7(N:ab Str)(sc scope:Scope)(own:ab (Str×Nat)):Prop where
 kind:scope.kind=.function
 uniq:∀y∈scope.names,scope.names.lookup y.1=some y.2
 ix:∀p∈own,N[p.2]? =some p.1
 free:∀y∈scope.names,y.2=.free->sc.names.lookup y.1=some .cell\/sc.names.lookup y.1=some .free
 own:∀y∈scope.names,y.2=.local\/y.2=.cell->y.1∈own.map (·.1)\/y.1∉N
def wipe(σ:St):ab Nat->St
 |[]=>σ
 |v::vs=>(wipe σ vs).set v none
theorem uz(σ:St):∀vs:ab Nat,(wipe σ vs).length=σ.length
 |[]=>rfl
 |v::vs=>by unfold wipe;rw[hJ,uz σ vs]
theorem Ap:∀{vs:ab Nat},(wipe σ vs)[i]? =some (some x)->σ[i]? =some (some x)/\i∉vs
 |[],h=>⟨h,by simp⟩
 |v::vs,h=>by
  unfold wipe at h;by_cases hi:v=i
  ·subst hi;by_cases hv:v<(wipe σ vs).length;·rw[d4 hv]at h;cases h
   ·rw[dI (by simpa using hv)]at h;cases h
  ·rw[eJ hi]at h;obtain⟨h1,h2⟩:=Ap h;exact⟨h1,by simp only[aF,not_or];exact⟨fun e=>hi e.symm,h2⟩⟩
abbrev Cx.Jt(X:Cx)(s:aS)(H:Hp)(scope:Scope)(lS:Env)(fp:ab Addr):Cx:={X with G8:=s,Yl:=H,env:=lS,outer:=X.stack,ex:=fp,fn:=fun x=>scope.names.lookup x==some .cell,pn:=[],xe:=fun _ _=>False}
section
variable{X:Cx}{pins:ab (Addr×Obj)}{σ:St}{H:Hp}{s:aS}
theorem LK{scope:Scope}{own:ab (Str×Nat)}{fp:ab Addr}(I:Inv X pins σ H s)(ok:L7 X.N X.env.scope scope own)(hN:X.N.Nodup)(VR:∀b∈fp,Fd X pins H b/\b<s.heap.objs.size):Inv (X.Jt s H scope (lE scope (fh (s.heap.objs.size+1) scope.names (gI X.env.cells scope.names [])) s.heap.objs.size X.env) fp) [] (wipe σ (own.map (·.2))) H {s with heap:=sj (s.heap.push {cls:=.type "dict",data:=.dict #[]}) scope.names}:=by
 have Hn:∀y∈scope.names,y.2=.free->∃c,X.env.cells.lookup y.1=some c:=fun y hy e=>by
  rcases ok.free y hy e with k|k;·exact I.ok.has _ (.inl k)
  ·exact I.ok.has _ (.inr k)
 generalize Ld:lE scope (fh (s.heap.objs.size+1) scope.names (gI X.env.cells scope.names [])) s.heap.objs.size X.env=lS;have kp:∀b o,s.heap.get? b=some o->(sj (s.heap.push {cls:=.type "dict",data:=.dict #[]}) scope.names).get? b=some o:=fun b o e=>yS _ _ _ _ (aK _ e);have hL:lS.locals=s.heap.objs.size:=by rw[<-Ld];rfl
 have EO:lS.cells=fh (s.heap.objs.size+1) scope.names (gI X.env.cells scope.names []):=by rw[<-Ld];rfl
 have YI:lS.scope=abu scope X.env.scope:=by rw[<-Ld];rfl
 rw[<-c5 s.heap {cls:=.type "dict",data:=.dict #[]}]at EO;have cm:∀{y c},(y,c)∈gI X.env.cells scope.names []->X.env.cells.lookup y=some c/\c<s.heap.objs.size:=fun{y c} hm=>by
  rcases qA hm with hm|⟨h1,rfl⟩;·cases hm
  ·obtain⟨c,hc⟩:=Hn _ h1 rfl;rw[hc];obtain⟨w,z⟩:=I.cell _ _ hc;exact⟨rfl,z.lt⟩
 have mem:∀{y c},lS.cells.lookup y=some c->(X.env.cells.lookup y=some c/\c<s.heap.objs.size)\/(s.heap.objs.size+1<=c/\Th (sj (s.heap.push {cls:=.type "dict",data:=.dict #[]}) scope.names) c none):=fun{y c} e=>by
  rw[EO]at e;rcases rW (cW e)with hm|⟨_,h2,h3⟩;·exact .inl (cm hm)
  ·rw[c5]at h2;exact .inr ⟨h2,h3⟩
 have look:∀{y},scope.names.lookup y=some .free->∃c,lS.cells.lookup y=some c/\X.env.cells.lookup y=some c:=fun{y} hl=>by
  have hy:(y,nN)∈scope.names:=cW hl;obtain⟨c',e'⟩:=mem_lookup (wx (names:=scope.names) (n:=(s.heap.push {cls:=.type "dict",data:=.dict #[]}).objs.size) (vA (cells:=X.env.cells) (acc:=[]) hy));rw[<-EO]at e';refine⟨c',e',?_⟩;rw[EO]at e';rcases rW (cW e')with hm|⟨h1,_,_⟩;·exact(cm hm).1
  ·have:=ok.uniq _ h1;rw[hl]at this;cases this
 have okB:(X.Jt s H scope lS fp).Ok:=by
  refine⟨I.ok.mod,by show lS.scope.kind=_;rw[YI];exact ok.kind,by show lS.globals=_;rw[<-Ld];exact I.ok.glob,by show lS.builtins=_;rw[<-Ld];exact I.ok.blt,by show s.heap.objs.size<=lS.locals;rw[hL];exact aD _,fun y z c e1 e2=>?_,fun y hy=>?_,fun y c z e=>?_,I.ok.hd,I.ok.frames,.inl rfl,fun b hb=>⟨?_,fun y c e z=>?_⟩,I.bs,bZ I.ok.TB I.sz,fun b o e hb=>?_,fun b hb z=>?_,I.stack,I.Om⟩;·have e1:lS.cells.lookup y=some c:=e1;have e2:lS.cells.lookup z=some c:=e2;rw[EO]at e1 e2;refine Bv (fun p hp=>?_) (fun y z c a b=>I.ok.inj y z c (cm a).1 (cm b).1) (cW e1) (cW e2);rw[c5];exact jb (cm (y:=p.1) (c:=p.2) hp).2
  ·show∃c,lS.cells.lookup y=some c;have key:∀k,lS.kindOf y=some k->(k=.cell\/k=.free)->∃c,lS.cells.lookup y=some c:=fun k hk YT=>by
    unfold Env.kindOf at hk;rw[YI]at hk;obtain⟨k',e,r⟩:=vm hk;have:k'=.cell\/k'=.free:=by
     rcases r with rfl|⟨rfl,_⟩;·exact YT
     ·exact .inr rfl
    rcases this with rfl|rfl;·obtain⟨c,hm⟩:=Bw (n:=(s.heap.push {cls:=.type "dict",data:=.dict #[]}).objs.size) (acc:=gI X.env.cells scope.names []) (cW e);obtain⟨c',e'⟩:=mem_lookup hm;exact⟨c',by rw[EO];exact e'⟩
    ·obtain⟨c,h1,_⟩:=look e;exact⟨c,h1⟩
   rcases hy with hy|hy;·exact key _ hy (.inl rfl)
   ·exact key _ hy (.inr rfl)
  ·have z:(scope.names.lookup y==some Fv)=true:=z;have z:scope.names.lookup y=some .cell:=by simpa using z
   have e:lS.cells.lookup y=some c:=e;rw[EO]at e;rcases rW (cW e)with hm|⟨_,h2,_⟩
   ·rcases qA hm with hm|⟨h1,_⟩;·cases hm
    ·have q:=ok.uniq _ h1;rw[z]at q;cases q
   ·rw[c5]at h2;exact so h2
  ·show b≠lS.locals;rw[hL];exact cG (VR b hb).2
  ·have e:lS.cells.lookup y=some c:=e;rcases mem e with⟨h1,_⟩|⟨h1,_⟩;·exact(VR b hb).1.2.2.2.2.1 y c h1 z
   ·have h2:s.heap.objs.size+1<=b:=by rw[<-z];exact h1
    exact bF (cC (VR b hb).2 (so h2)) (gj _)
  ·rcases(VR b hb).1.2.2.2.1 with z|z;·exact I.ok.RX b o e z
   ·exact bF (cC (bI e) (bZ I.ok.TB z)) (gj _)
  ·rcases aF.mp (I.Mz b z)with z|z;·exact(VR b hb).1.2.1 z
   ·exact(VR b hb).1.2.2.1 z
 refine⟨okB,rfl,I.bare,Un.kept kp,⟨fun _=>none,?_,fun i y av e1 e2 e3=>?_⟩,fun y c e=>?_,?_,fun y c e=>?_,fun p hp=>?_,I.gn.kept kp,by rw[uz];exact I.len⟩;·show Heap.Ns _ lS.locals _;rw[hL];exact Heap.Ns.keeps (Heap.Ns.new ..) fun b o e=>yS _ _ _ _ e
 ·obtain⟨e2,oR⟩:=Ap e2;have VQ:scope.names.lookup y=some .free/\(lS.kindOf y=some .cell\/lS.kindOf y=some .free):=by
   have key:∀k,lS.scope.names.lookup y=some k->k=.local\/k=.cell\/k=.free->scope.names.lookup y=some .free/\(lS.kindOf y=some .cell\/lS.kindOf y=some .free):=fun k hk YT=>by
    have hk0:=hk;rw[YI]at hk;obtain⟨k',e,r⟩:=vm hk;have no:¬(k'=.local\/k'=.cell):=fun hh=>by
     rcases ok.own _ (cW e) hh with e'|e';·obtain⟨p,hp,hpy⟩:=bB.mp e';have e3:=ok.ix p hp;have:p.1=y:=hpy;rw[this]at e3;exact oR (bB.mpr ⟨p,hp,Et hN e3 e1⟩)
     ·exact e' (aH e1)
    rcases r with rfl|⟨rfl,rfl⟩
    ·rcases YT with rfl|rfl|rfl;·exact bF (.inl rfl) no
     ·exact bF (.inr rfl) no
     ·exact⟨e,.inr hk0⟩
    ·exact⟨e,.inl hk0⟩
   have e3:Y9 lS.scope y:=e3;rcases e3 with e3|e3|e3;·exact key _ e3 (.inl rfl)
   ·exact key _ e3 (.inr (.inl rfl))
   ·exact key _ e3 (.inr (.inr rfl))
  obtain⟨m,hn,hl⟩:=I.loc;have abY:Y9 X.env.scope y:=(ok.free _ (cW VQ.1) rfl).elim (fun k=>.inr (.inl k)) (fun k=>.inr (.inr k));obtain⟨w,r,q⟩:=hl i y av e1 e2 abY;refine⟨w,r,.inr ⟨VQ.2,?_⟩⟩;obtain⟨c,h1,h2⟩:=look VQ.1;rcases q with⟨k,_⟩|⟨_,c',e',z⟩;·have k:X.env.scope.names.lookup y=some .local:=k;rcases ok.free _ (cW VQ.1) rfl with k'|k'<;>rw[show X.env.scope.names.lookup y=_ from k']at k<;>cases k
  ·rw[h2]at e';cases e';exact⟨c,h1,z.keeps kp⟩
 ·have e:lS.cells.lookup y=some c:=e;rcases mem e with⟨h1,_⟩|⟨_,z⟩;·obtain⟨w,z⟩:=I.cell y c h1;exact⟨w,z.keeps kp⟩
  ·exact⟨_,z⟩
 ·show H lS.locals=none;rw[hL];exact I.gn.fresh (aD _)
 ·have e:lS.cells.lookup y=some c:=e;rcases mem e with⟨h1,_⟩|⟨h1,_⟩;·exact I.qz y c h1
  ·exact I.gn.fresh (so h1)
 ·exact bF (show p∈([]:ab (Addr×Obj))++[]from hp) (by simp)
theorem Yd(I:Inv X pins σ H s)(hD:H D=some (.lst xs))(hz:xs.length<sizeLine)(r:RelV y v)(h:∀s',Inv X pins σ (upd H D (.lst (xs++[y]))) s'->Q .none s'):bw (bM X.prog X.w) X.A (se (.builtin "list.append") [.ref D,v]) Q E s:=by obtain⟨hz',dk,n,ri,e⟩:=I.gn D _ hD;have hl:=ri.length;refine append_at (hsz:=by rw[bz];omega) e fun h' sb Ma=>?_;refine h {s with heap:=h'} (I.write (t':=s.toks) (by rw[hD];trivial) (.inl rfl) (fun b u hb q=>(sb.2 b hb).trans q) ⟨_,Ma⟩ ⟨by rw[bo];exact hz,dk++[v],n+1,ri.append (.cons r .nil),?_⟩);rw[Ma];simp
def PTs(X:Cx)(ifs:ab eV)(t:TT):Prop:=∀(pins:ab (Addr×Obj))(s:aS)(σ:St)(H:Hp)(Q:Bool->Hp->Prop),Inv X pins σ H s->t σ H Q->bw (bM X.prog X.w) X.A (forIn ifs true fun c r=>if r=true then do let ok<-isTrue c X.env (eval c X.env);pure (sr ok)else pure (sr r)) (TP X pins σ Q) X.xe s
def Rh:TT:=fun _ H Q=>Q true H
theorem jz:PTs X [] Rh:=fun _ _ _ H _ I h=>wpAny_tests_nil ⟨H,I,h⟩
theorem qr(h:PT X c t):PTs X [c] t:=fun pins s σ H Q I hw=>wpAny_tests_one (h pins s σ H Q I hw)
end
theorem Pz{α:Type}{t:Sem α}{Q Q':α->aS->Prop}{M:Model}{A:gR}{E:aA->aS->Prop}{s:aS}(h:bw M A t Q (fun _ _=>False) s)(hQ:∀a s,Q a s->Q' a s):bw M A t Q' E s:=i3 h hQ fun _ _ z=>fJ z
theorem Jp{prog:bT}{w:cU}{A:gR}{R:Result->aS->Prop}{s:aS}{elt target iter:eV}{ifs:ab eV}{scope:Scope}{pos:Pos}{it acc:aA}{env:Env}(I:Nat->aS->Prop)
  (turn:∀n s,I n s->bw (bM prog w) A (nM it) (fun r s₁=>match r with
   |none=>R (.ok .next) s₁
   |some v=>bw (bM prog w) A (yT target it v) (fun _ Vv=>bw (bM prog w) A (assign target env v) (fun _ s₂=>
     bw (bM prog w) A (forIn ifs true fun c r=>if r=true then do let ok<-isTrue c env (eval c env);pure (sr ok)else pure (sr r)) (fun ok s₃=>
      if ok=true then bw (bM prog w) A (eval elt env) (fun x s₄=>
       bw (bM prog w) A (se (.builtin "list.append") [acc,x]) (fun _ s₅=>∃m,m<n/\I m s₅) (notedBy (bM prog w) A env fun e s'=>R (.error e) s') s₄) (notedBy (bM prog w) A env fun e s'=>R (.error e) s') s₃
      else∃m,m<n/\I m s₃) (notedBy (bM prog w) A env fun e s'=>R (.error e) s') s₂) (notedBy (bM prog w) A env fun e s'=>R (.error e) s') Vv) (notedBy (bM prog w) A env fun e s'=>R (.error e) s') s₁) (notedBy (bM prog w) A env fun e s'=>R (.error e) s') s)
  (n:Nat)(h:I n s):
  ur (bM prog w) A (.compLoop (.ListComp elt [⟨target,iter,ifs,0⟩] scope pos) 0 it acc env) R s:=by
 refine codeAny_loop rfl I (fun n s hI=>?_) n h
 show bw _ A ((compTurn (.ListComp elt [⟨target,iter,ifs,0⟩] scope pos) 0 it acc env).onRaise (fun x=>do noteFrame x env;theTreesLotGoes x)) _ _ s
 refine wpAny_noted ?_
 rw[compTurn_list]
 refine ai (wpAny_standAt (ai (i3 (turn n s hI) (fun r s₁ h₁=>?_) fun _ _ h'=>h')))
 cases r with
 |none=>exact aL h₁
 |some v=>
  refine ai (i3 h₁ (fun _ Vv Z9=>?_) fun _ _ h'=>h')
  refine ai (i3 Z9 (fun _ s₂ h₂=>ai (i3 h₂ (fun ok s₃ h₃=>?_) fun _ _ h'=>h')) fun _ _ h'=>h')
  cases ok with
  |false=>exact aL ⟨rfl,h₃⟩
  |true=>
   exact ai (ai (i3 h₃ (fun x s₄ h₄=>ai (i3 h₄ (fun _ s₅ h₅=>aL (aL ⟨rfl,h₅⟩)) fun _ _ h'=>h')) fun _ _ h'=>h'))
section
variable{X:Cx}
def tLc(wi:TI)(g:TG)(tt:TT)(te:TE)(vs:ab Nat):TE:=fun σ H Q=>wi σ H fun J H1=>∀D,H1 D=none->∃W:Nat->Nat->Hp->Prop,(∃m,W 0 m (upd H1 D (.lst [])))/\∀i m H,W i m H->(J.stop i H/\Q (.ref D) H)\/(J.go i H/\∃Nx:Hp->Prop,(∀H',Nx H'->∃m',m'<m/\W (i+1) m' H')/\∀x H',J.L8 i H x H'->g x (wipe σ vs) H' fun σ2 H2=>wipe σ2 vs=wipe σ vs/\tt σ2 H2 fun b H3=>if b=true then te σ2 H3 fun y H4=>∃acc,H4 D=some (.lst acc)/\acc.length<sizeLine/\Nx (upd H4 D (.lst (acc++[y])))else Nx H3)
theorem OT{pins:ab (Addr×Obj)}{s:aS}{σ:St}{H:Hp}{Q:VK}{elt tg iter:eV}{ifs:ab eV}{scope:Scope}{own:ab (Str×Nat)}{pos pos':Pos}{wi:TI}{g:TG}{tt:TT}{te:TE}{use:aY (aA->Sem Unit)}{Qf:aA->aS->Prop}
  (hc:X.calm=true)(hN:X.N.Nodup)(I:Inv X pins σ H s)(hi:PI X tg iter wi)(ok:L7 X.N X.env.scope scope own)
  (hg:∀(s:aS)(H:Hp)(C:Addr)(cl:ab (Str×Addr))(fp:ab Addr),PG (X.Jt s H scope (lE scope cl C X.env) fp) tg g)(ht:∀(s:aS)(H:Hp)(C:Addr)(cl:ab (Str×Addr))(fp:ab Addr),PTs (X.Jt s H scope (lE scope cl C X.env) fp) ifs tt)
  (he:∀(s:aS)(H:Hp)(C:Addr)(cl:ab (Str×Addr))(fp:ab Addr),PE (X.Jt s H scope (lE scope cl C X.env) fp) elt te)(hs:∀x,uq iter X.env x=pure x)
  (h:tLc wi g tt te (own.map (·.2)) σ H Q)
  (hRR:∀D C s' m H',Inv X pins σ H' s'->Q (.ref D) H'->s'.heap.Ns C m->Fd X pins H' C->compPost (bM X.prog X.w) X.A X.xe use Qf (.ref D) C (.ok .next) s'):
  bw (bM X.prog X.w) X.A (comprehension (.ListComp elt [⟨tg,iter,ifs,0⟩] scope pos) scope X.env pos' (newList []) false (eval iter X.env) use) Qf X.xe s:=by
 have Hn:∀y∈scope.names,y.2=.free->∃c,X.env.cells.lookup y.1=some c:=fun y hy e=>by
  rcases ok.free y hy e with k|k
  ·exact I.ok.has _ (.inl k)
  ·exact I.ok.has _ (.inr k)
 refine wpAny_comprehension_free (use:=use) rfl hs (NJ Hn) ok.kind (fun y hy e=>by rw[ok.uniq y hy,e])
  (fZ (hi pins s σ H _ I h) fun xv s1 hx=>fZ hx fun itv s2 h2=>?_)
 obtain⟨it,fp,tn,J,H2,e,I2,T,st2,f2,q⟩:=h2
 subst e
 refine gE (KO ?_) (by show 0<=sizeLine;decide)
 generalize hD:s2.heap.objs.size=D
 have hDn:H2 D=none:=I2.gn.fresh (C6 hD)
 obtain⟨W,⟨m0,w0⟩,turn⟩:=q D hDn
 generalize hs3:({s2 with heap:=s2.heap.push {cls:=.type "list",data:=.seq ([]:ab aA).toArray}}:aS)=s3
 have I3:Inv X pins σ (upd H2 D (.lst [])) s3:=by
  rw[<-hs3]
  refine I2.laid (t':=s2.toks) (fun b o e=>aK _ e) (C6 hD) ⟨cH _,[],0,.nil,?_⟩
  rw[<-hD]
  exact bu _ rfl
 have h3:s3.heap=s2.heap.push {cls:=.type "list",data:=.seq ([]:ab aA).toArray}:=by rw[<-hs3]
 have sz:∀b∈fp,b<s2.heap.objs.size:=fun b hb=>by
  obtain⟨o,e,_⟩:=T.obj _ _ st2 b hb
  exact bI e
 have f3:∀b∈fp,Fd X pins (upd H2 D (.lst [])) b/\b<s3.heap.objs.size:=fun b hb=>by
  have jQ:=sz b hb
  refine⟨⟨?_,(f2 b hb).2⟩,by rw[h3,c5];exact jb jQ⟩
  rw[aj (by rw[<-hD];exact cG jQ)]
  exact(f2 b hb).1
 have st3:tn 0 s3.heap:=T.keep _ _ _ st2 fun b _ o e=>by rw[h3];exact aK _ e
 have I4:=LK I3 ok hN f3
 have pg:=hg s3 (upd H2 D (.lst [])) s3.heap.objs.size (fh (s3.heap.objs.size+1) scope.names (gI X.env.cells scope.names [])) fp
 have pt:=ht s3 (upd H2 D (.lst [])) s3.heap.objs.size (fh (s3.heap.objs.size+1) scope.names (gI X.env.cells scope.names [])) fp
 have pe:=he s3 (upd H2 D (.lst [])) s3.heap.objs.size (fh (s3.heap.objs.size+1) scope.names (gI X.env.cells scope.names [])) fp
 show ur _ _ (.compStart (.ListComp elt [⟨tg,iter,ifs,0⟩] scope pos) 0 (.ref it) (.ref D) (lE scope (fh (s3.heap.objs.size+1) scope.names (gI X.env.cells scope.names [])) s3.heap.objs.size X.env)) (compPost (bM X.prog X.w) X.A X.xe use Qf (.ref D) s3.heap.objs.size) {s3 with heap:=sj (s3.heap.push {cls:=.type "dict",data:=.dict #[]}) scope.names}
 have nfp:∀b∈fp,(upd H2 D (.lst [])) b=none:=fun b hb=>(f3 b hb).1.1
 generalize hce:lE scope (fh (s3.heap.objs.size+1) scope.names (gI X.env.cells scope.names [])) s3.heap.objs.size X.env=ce at I4 pg pt pe⊢
 have cL:ce.locals=s3.heap.objs.size:=by subst hce;rfl
 generalize hH3:upd H2 D (.lst [])=H3 at I3 I4 pg pt pe w0 nfp f3
 generalize hs4:({s3 with heap:=sj (s3.heap.push {cls:=.type "dict",data:=.dict #[]}) scope.names}:aS)=s4 at I4⊢
 have st4:tn 0 s4.heap:=T.keep _ _ _ st3 fun b _ o e=>by rw[<-hs4];exact yS _ _ _ _ (aK _ e)
 have MA:∀{σ':St}{H':Hp}{s':aS},Inv (X.Jt s3 H3 scope ce fp) [] σ' H' s'->(∀b∈fp,H' b=none)->∀b∈fp,Fd (X.Jt s3 H3 scope ce fp) [] H' b:=fun{σ' H' s'} I' hn b hb=>
  ⟨hn b hb,(I'.ok.exf b hb).1,I'.ok.SF b hb,.inl hb,fun x c e=>(I'.ok.exf b hb).2 x c e,fun p hp=>bF (show p∈([]:ab (Addr×Obj))++[]from hp) (by simp)⟩
 have loop:ur (bM X.prog X.w) X.A (.compLoop (.ListComp elt [⟨tg,iter,ifs,0⟩] scope pos) 0 (.ref it) (.ref D) ce) (compPost (bM X.prog X.w) X.A X.xe use Qf (.ref D) s3.heap.objs.size) s4:=by
  refine Jp (fun n s'=>∃i H',Inv (X.Jt s3 H3 scope ce fp) [] (wipe σ (own.map (·.2))) H' s'/\tn i s'.heap/\(∀b∈fp,H' b=none)/\W i n H') ?_ m0 ⟨0,H3,I4,st4,nfp,w0⟩
  rintro n s5 ⟨i,H5,I5,Yu,n5,w5⟩
  rcases turn i n H5 w5 with⟨stop,qq⟩|⟨go,Nx,hNx,step⟩
  ·have td:=T.done (X.Jt s3 H3 scope ce fp) rfl rfl rfl hc i [] s5 _ H5 (fun _ _=>False) I5 (MA I5 n5) Yu stop
   refine Pz td fun r s6⟨hr,I6⟩=>?_
   subst hr
   have I7:Inv X pins σ H5 s6:=I3.aaX (ch:=fp) I6.os I6.base I6.gn I6.bare fun b hb=>⟨(f3 b hb).1.2.2.2.1,(f3 b hb).1.2.1,(f3 b hb).1.2.2.2.2.1,(f3 b hb).1.2.2.2.2.2⟩
   have nC:H5 s3.heap.objs.size=none:=by
    have z:H5 ce.locals=none:=I6.free
    rw[cL]at z
    exact z
   obtain⟨m,hn,_⟩:=I6.loc
   have hn:s6.heap.Ns ce.locals m:=hn
   rw[cL]at hn
   exact hRR D s3.heap.objs.size s6 m H5 I7 qq hn (I3.Qp (aD _) nC)
  ·have ti:=T.item (X.Jt s3 H3 scope ce fp) rfl rfl rfl hc i [] s5 _ H5 (fun _ _=>False) I5 (MA I5 n5) Yu go
   refine Pz ti fun r s6⟨u,hr,h6⟩=>?_
   subst hr
   refine Pz h6 fun _ s7⟨x,H7,I7,r7,y7,st7,n7⟩=>?_
   have I7':=I7.pinned (MA I7 n7) (T.obj _ _ st7)
   refine Pz (pg _ s7 _ H7 x u _ I7' r7 (step x H7 y7)) fun _ s8⟨σ8,H8,I8,hw8,q8⟩=>?_
   refine Pz (pt _ s8 σ8 H8 _ I8 q8) fun b s9 h_=>h_.el fun H9 I9 q9=>?_
   have fin:∀{s':aS}{H':Hp},Inv (X.Jt s3 H3 scope ce fp) ([]++Ee fp s7.heap) σ8 H' s'->Nx H'->∃m,m<n/\∃i H',Inv (X.Jt s3 H3 scope ce fp) [] (wipe σ (own.map (·.2))) H' s'/\tn i s'.heap/\(∀b∈fp,H' b=none)/\W i m H':=fun{s' H'} I' nx=>by
    obtain⟨m',hm,w'⟩:=hNx H' nx
    have ZH:∀b∈fp,∀o,s7.heap.get? b=some o->s'.heap.get? b=some o/\H' b=none:=fun b hb o e=>
     let z:=I'.pin (b,o) (c6 _ (c6 _ (yk hb e)))
     ⟨z.1,z.2.1⟩
    have hl:(wipe σ (own.map (·.2))).length=σ8.length:=by rw[<-hw8,uz]
    refine⟨m',hm,i+1,H',(I'.y0 (pins:=[])).weak hl (fun j v e=>?_),T.keep _ _ _ st7 fun b hb o e=>(ZH b hb o e).1,fun b hb=>?_,w'⟩
    ·rw[<-hw8]at e
     exact(Ap e).1
    ·obtain⟨o,e,_⟩:=T.obj _ _ st7 b hb
     exact(ZH b hb o e).2
   cases b with
   |false=>
    simp only[An,mR]at q9⊢
    exact fin I9 q9
   |true=>
    simp only[uk]at q9⊢
    refine Pz (pe _ s9 σ8 H9 _ I9 q9) fun z Wo⟨yv,H10,I10,r10,acc,acM,abP,nx⟩=>?_
    exact Yd (X:=X.Jt s3 H3 scope ce fp) I10 acM abP r10 fun Zx I11=>fin I11 nx
 exact codeAny_compStart_list loop (T.self X.A 0 _ _ _ st4 loop)
theorem oQ{elt tg iter:eV}{ifs:ab eV}{scope:Scope}{own:ab (Str×Nat)}{pos:Pos}{wi:TI}{g:TG}{tt:TT}{te:TE}(hc:X.calm=true)(hN:X.N.Nodup)(hi:PI X tg iter wi)(ok:L7 X.N X.env.scope scope own)(hg:∀(s:aS)(H:Hp)(C:Addr)(cl:ab (Str×Addr))(fp:ab Addr),PG (X.Jt s H scope (lE scope cl C X.env) fp) tg g)(ht:∀(s:aS)(H:Hp)(C:Addr)(cl:ab (Str×Addr))(fp:ab Addr),PTs (X.Jt s H scope (lE scope cl C X.env) fp) ifs tt)(he:∀(s:aS)(H:Hp)(C:Addr)(cl:ab (Str×Addr))(fp:ab Addr),PE (X.Jt s H scope (lE scope cl C X.env) fp) elt te)(hs:∀x,uq iter X.env x=pure x:=by intro _;rfl):PE X (.ListComp elt [⟨tg,iter,ifs,0⟩] scope pos) (tLc wi g tt te (own.map (·.2))):=by intro pins s σ H Q I h;rw[eval_ListComp];refine OT hc hN I hi ok hg ht he hs h fun D C s' m H' I' q hn f=>⟨m,hn,fun h'' sb=>?_⟩;obtain⟨f0,f1,f2,f3,f4,f5⟩:=f;exact⟨.ref D,H',I'.turned (t':=s'.toks) (fun b o hb e=>(sb.2 b hb).trans e) f0 f1 f3 f4 f5,rfl,q⟩
theorem pH{i:Nat}{y:Str}{py:Pos}{elt tg iter:eV}{ifs:ab eV}{scope:Scope}{own:ab (Str×Nat)}{pos Zq:Pos}{wi:TI}{g:TG}{tt:TT}{te:TE}(hc:X.calm=true)(hN:X.N.Nodup)(hy:X.N[i]? =some y)(hyl:X.env.scope.names.lookup y=some .local)(hsw:wY (.ListComp elt [⟨tg,iter,ifs,0⟩] scope pos) (some (.Name y py)) Zq.line X.env=pure true)(hi:PI X tg iter wi)(ok:L7 X.N X.env.scope scope own)(hg:∀(s:aS)(H:Hp)(C:Addr)(cl:ab (Str×Addr))(fp:ab Addr),PG (X.Jt s H scope (lE scope cl C X.env) fp) tg g)(ht:∀(s:aS)(H:Hp)(C:Addr)(cl:ab (Str×Addr))(fp:ab Addr),PTs (X.Jt s H scope (lE scope cl C X.env) fp) ifs tt)(he:∀(s:aS)(H:Hp)(C:Addr)(cl:ab (Str×Addr))(fp:ab Addr),PE (X.Jt s H scope (lE scope cl C X.env) fp) elt te)(hs:∀x,uq iter X.env x=pure x:=by intro _;rfl):PS X (.Assign [.Name y py] (.ListComp elt [⟨tg,iter,ifs,0⟩] scope pos) Zq) (Wj (tLc wi g tt te (own.map (·.2))) (vw i)):=by
 intro pins s σ H D I h;rw[exec_Assign_Name_used _ _ _ _ hsw];refine ai (wpAny_standAt (ai ?_));show bw _ X.A (do let _<-comprehension (.ListComp elt [⟨tg,iter,ifs,0⟩] scope pos) scope X.env (firstIterPos [⟨tg,iter,ifs,0⟩] pos) (newList []) false (eval iter X.env) (some (assign (.Name y py) X.env))) _ _ s;have h:tLc wi g tt te (own.map (·.2)) σ H (fun x H1=>vw i x σ H1 D.nx):=h;refine ai (fZ (OT (Qf:=fun _ s'=>SP X pins D .next s') hc hN I hi ok hg ht he hs h fun L C s' m H' I' q hn f=>?_) fun _ s' hq=>aL (aL hq));show bw _ _ (assign (.Name y py) X.env (.ref L)) _ _ _;refine wpAny_assign_Name (GQ (v:=V.ref L) I' hN hy (.inl hyl) rfl (fun s2 I2⟨a,sb,ha⟩=>?_) (.inr hyl));obtain⟨f0,f1,f2,f3,f4,f5⟩:=f;have haC:C≠a:=by
  rcases ha with z|z;·rw[z];exact f1
  ·exact fun e=>f4 y a z e.symm
 refine⟨m,hn.sameBut sb haC,fun h3 sb3=>?_⟩;exact⟨_,H',I2.turned (t':=s2.toks) (fun b o hb e=>(sb3.2 b hb).trans e) f0 f1 f3 f4 f5,q⟩
theorem sD{elt:eV}{gs:ab Comprehension}{scope:Scope}{pos py:Pos}{y:Str}{l:Nat}{env:Env}(hk:env.scope.kind=.function)(hy:env.scope.names.lookup y=some .local)(hl:(py.line==pos.line)=true)(ha:(scope.names.any fun(n,k)=>n==y&&(k==.local||k==.cell))=false):wY (.ListComp elt gs scope pos) (some (.Name y py)) l env=pure true:=by
 have ky:env.kindOf y=some .local:=hy;have hb:env.blockKind=.function:=by unfold Env.blockKind;rw[hk];rfl
 unfold wY;simp only[hb,ky,ha,Expr.pos,hl];rfl
end
theorem zW{lo:Int}{g:TG}{tt:TT}{te:TE}{Qd:Hp->Prop}(Pv:Nat->Hp->Prop)(h0:Pv 0 (upd H1 D (.lst [])))(hs:∀i H,i<n->Pv i H->g (.int (lo+i)) (wipe σ vs) H fun σ2 H2=>wipe σ2 vs=wipe σ vs/\tt σ2 H2 fun b H3=> if b=true then te σ2 H3 fun y H4=>∃acc,H4 D=some (.lst acc)/\acc.length<sizeLine/\Pv (i+1) (upd H4 D (.lst (acc++[y])))else Pv (i+1) H3)(hd:∀H,Pv n H->Qd H):∃W:Nat->Nat->Hp->Prop,(∃m,W 0 m (upd H1 D (.lst [])))/\∀i m H,W i m H->((Mf lo n).stop i H/\Qd H)\/((Mf lo n).go i H/\∃Nx:Hp->Prop,(∀H',Nx H'->∃m',m'<m/\W (i+1) m' H')/\∀x H',(Mf lo n).L8 i H x H'->g x (wipe σ vs) H' fun σ2 H2=>wipe σ2 vs=wipe σ vs/\tt σ2 H2 fun b H3=> if b=true then te σ2 H3 fun y H4=>∃acc,H4 D=some (.lst acc)/\acc.length<sizeLine/\Nx (upd H4 D (.lst (acc++[y])))else Nx H3):=by
 refine⟨fun i m H=>m=n-i/\i<=n/\Pv i H,⟨n,by simp,cH _,h0⟩,?_⟩;rintro i m H ⟨rfl,hi,p⟩;by_cases jQ:i<n;·refine .inr ⟨jQ,Pv (i+1),fun H' p'=>⟨n-(i+1),by omega,rfl,jQ,p'⟩,fun x H' y=>?_⟩;obtain⟨e,y⟩:=y;subst e y;exact hs i _ jQ p
 ·have e:i=n:=by omega
  subst e;exact .inl ⟨aD _,hd H p⟩
theorem v8{K:ag}{g:TG}{tt:TT}{te:TE}{Qd:Hp->Prop}(Pv:Nat->Hp->Prop)(h0:Pv 0 (upd H1 D (.lst [])))(hl:∀i H,i<=xs.length->Pv i H->cN K H a xs)(hs:∀i x H,xs[i]? =some x->Pv i H->g x (wipe σ vs) H fun σ2 H2=>wipe σ2 vs=wipe σ vs/\tt σ2 H2 fun b H3=> if b=true then te σ2 H3 fun y H4=>∃acc,H4 D=some (.lst acc)/\acc.length<sizeLine/\Pv (i+1) (upd H4 D (.lst (acc++[y])))else Pv (i+1) H3)(hd:∀H,Pv xs.length H->Qd H):∃W:Nat->Nat->Hp->Prop,(∃m,W 0 m (upd H1 D (.lst [])))/\∀i m H,W i m H->((Pj K a).stop i H/\Qd H)\/((Pj K a).go i H/\∃Nx:Hp->Prop,(∀H',Nx H'->∃m',m'<m/\W (i+1) m' H')/\∀x H',(Pj K a).L8 i H x H'->g x (wipe σ vs) H' fun σ2 H2=>wipe σ2 vs=wipe σ vs/\tt σ2 H2 fun b H3=> if b=true then te σ2 H3 fun y H4=>∃acc,H4 D=some (.lst acc)/\acc.length<sizeLine/\Nx (upd H4 D (.lst (acc++[y])))else Nx H3):=by
 refine⟨fun i m H=>m=xs.length-i/\i<=xs.length/\Pv i H,⟨xs.length,by simp,cH _,h0⟩,?_⟩;rintro i m H ⟨rfl,hi,p⟩;have q:=hl i H hi p;by_cases jQ:i<xs.length;·refine .inr ⟨⟨xs,xs[i],q,by simp[jQ]⟩,Pv (i+1),fun H' p'=>⟨xs.length-(i+1),by omega,rfl,jQ,p'⟩,fun x H' y=>?_⟩;obtain⟨e,y⟩:=y;subst e;exact hs i x _ (y xs q) p
 ·have e:i=xs.length:=by omega
  subst e;exact .inl ⟨⟨xs,q,aD _⟩,hd H p⟩
theorem Nh{K:ag}{g:TG}{tt:TT}{te:TE}{Qd:Hp->Prop}(Pv:Nat->Hp->Prop)(h0:Pv 0 (upd H1 D (.lst [])))(hl:∀i H,i<=xs.length->Pv i H->q_ K H a xs)(hs:∀i x H,xs[i]? =some x->Pv i H->g x (wipe σ vs) H fun σ2 H2=>wipe σ2 vs=wipe σ vs/\tt σ2 H2 fun b H3=> if b=true then te σ2 H3 fun y H4=>∃acc,H4 D=some (.lst acc)/\acc.length<sizeLine/\Pv (i+1) (upd H4 D (.lst (acc++[y])))else Pv (i+1) H3)(hd:∀H,Pv xs.length H->Qd H):∃W:Nat->Nat->Hp->Prop,(∃m,W 0 m (upd H1 D (.lst [])))/\∀i m H,W i m H->((V0 K a).stop i H/\Qd H)\/((V0 K a).go i H/\∃Nx:Hp->Prop,(∀H',Nx H'->∃m',m'<m/\W (i+1) m' H')/\∀x H',(V0 K a).L8 i H x H'->g x (wipe σ vs) H' fun σ2 H2=>wipe σ2 vs=wipe σ vs/\tt σ2 H2 fun b H3=> if b=true then te σ2 H3 fun y H4=>∃acc,H4 D=some (.lst acc)/\acc.length<sizeLine/\Nx (upd H4 D (.lst (acc++[y])))else Nx H3):=by
 refine⟨fun i m H=>m=xs.length-i/\i<=xs.length/\Pv i H,⟨xs.length,by simp,cH _,h0⟩,?_⟩;rintro i m H ⟨rfl,hi,p⟩;have q:=hl i H hi p;by_cases jQ:i<xs.length;·refine .inr ⟨⟨xs,xs[i],q,by simp[jQ]⟩,Pv (i+1),fun H' p'=>⟨xs.length-(i+1),by omega,rfl,jQ,p'⟩,fun x H' y=>?_⟩;obtain⟨e,y⟩:=y;subst e;exact hs i x _ (y xs q) p
 ·have e:i=xs.length:=by omega
  subst e;exact .inl ⟨⟨xs,q,aD _⟩,hd H p⟩
def aaY(N:ab Str)(sc scope:Scope)(own:ab (Str×Nat)):Bool:=
 (match scope.kind with| .function=>true|_=>false)&&(scope.names.all fun y=>decide (scope.names.lookup y.1=some y.2))&&(own.all fun p=>decide (N[p.2]? =some p.1))&&
  (scope.names.all fun y=>match y.2 with
   | .free=>(match sc.names.lookup y.1 with|some .cell=>true|some .free=>true|_=>false)
   | .local=>decide (y.1∈own.map (·.1))||decide (y.1∉N)
   | .cell=>decide (y.1∈own.map (·.1))||decide (y.1∉N)
   |_=>true)
theorem eG(h:aaY N sc scope own=true):L7 N sc scope own:=by
 unfold aaY at h;simp only[bN,eS,au]at h;obtain⟨⟨⟨h1,h2⟩,h3⟩,h4⟩:=h;refine⟨?_,h2,h3,fun y hy e=>?_,fun y hy e=>?_⟩
 ·split at h1;·assumption
  ·cases h1
 ·have q:=h4 y hy;simp only[e]at q;split at q<;>first|exact .inl (by assumption)|exact .inr (by assumption)|cases q
 ·have q:=h4 y hy;rcases e with e|e<;>(simp only[e,eQ,au]at q;exact q)
end L2
namespace L2
open PySem PySem.Spec PyProof.Rows
section
variable{κ:Type}[DecidableEq κ]
def nc(kvs:ab (κ×V))(k:κ):aY V:=(kvs.find? fun kv=>decide (kv.1=k)).map (·.2)
def putK(kvs:ab (κ×V))(k:κ)(v:V):ab (κ×V):=if(kvs.any fun kv=>decide (kv.1=k))=true then kvs.map (fun kv=>if kv.1=k then(kv.1,v)else kv)else kvs++[(k,v)]
def rU(kvs:ab (κ×V))(k:κ):ab (κ×V):=kvs.filter fun kv=>decide (kv.1≠k)
theorem uC{k:κ}(e:p.1=k):nc (p::r) k=some p.2:=by simp[nc,gz,e]
theorem uD{k:κ}(e:¬p.1=k):nc (p::r) k=nc r k:=by simp[nc,gz,e]
theorem DA(k:κ):∀kvs:ab (κ×V),(kvs.any fun kv=>decide (kv.1=k))=(nc kvs k).isSome
 |[]=>rfl
 |p::r=>by
  rw[lP];by_cases e:p.1=k;·simp only[uC e,gD e,Bool.true_or,Option.isSome_some]
  ·rw[uD e,dH e,Bool.false_or];exact DA k r
theorem qw(kvs:ab (κ×V))(k:κ)(v:V):(putK kvs k v).length<=kvs.length+1:=by
 unfold putK;split;·rw[ae];omega
 ·rw[bo,bg,fH];omega
theorem Ku{k:κ}(v:V)(h:nc kvs k=none):putK kvs k v=kvs++[(k,v)]:=by unfold putK;rw[DA,h];exact ao (by decide)
theorem rY.wg(r:rY o u):o.isSome=u.isSome:=by
 cases o with
 |none=>cases u with
  |none=>rfl
  |some _=>exact(show False from r).elim
 |some _=>cases u with
  |none=>exact(show False from r).elim
  |some _=>rfl
theorem KV.val(r:KV kvs vs)(k:κ):rY (nc kvs k) (r9 vs k):=by
 unfold KV at r;induction r with
 |nil=>exact jK
 |@cons p q ps qs h t ih=>
  obtain⟨h1,h2⟩:=h;by_cases e:p.1=k
  ·have e':q.1=k:=h1.symm.trans e;have b:r9 (q::qs) k=some q.2:=by simp[r9,gz,e']
   rw[uC e,b];exact h2
  ·have e':¬q.1=k:=fun z=>e (h1.trans z);have b:r9 (q::qs) k=r9 qs k:=by simp[r9,gz,e']
   rw[uD e,b];exact ih
theorem KV.any(r:KV kvs vs)(k:κ):(kvs.any fun kv=>decide (kv.1=k))=vs.any fun kv=>decide (kv.1=k):=by
 unfold KV at r;induction r with
 |nil=>rfl
 |cons h t ih=>rw[lP,lP,ih,h.1]
theorem KV.Ws(r:KV kvs vs)(k:κ)(ry:RelV y u):KV (kvs.map fun kv=>if kv.1=k then(kv.1,y)else kv) (vs.map fun kv=>if kv.1=k then(kv.1,u)else kv):=by
 unfold KV at r⊢;induction r with
 |nil=>exact .nil
 |@cons p q ps qs h t ih=>
  rw[cx,cx];refine .cons ?_ ih;obtain⟨h1,h2⟩:=h;by_cases e:p.1=k;·rw[aw e,aw (h1.symm.trans e)];exact⟨h1,ry⟩
  ·rw[ao e,ao (fun z=>e (h1.trans z))];exact⟨h1,h2⟩
theorem KV.put(r:KV kvs vs)(k:κ)(ry:RelV y u):KV (putK kvs k y) (stored vs k u):=by
 unfold putK stored;rw[r.any k];by_cases e:(vs.any fun kv=>decide (kv.1=k))=true;·rw[aw e,aw e];exact r.Ws k ry
 ·rw[ao e,ao e];exact Paired.snoc r ⟨rfl,ry⟩
theorem KV.drop(r:KV kvs vs)(k:κ):KV (rU kvs k) (without vs k):=by
 unfold KV at r⊢;unfold rU without;induction r with
 |nil=>exact .nil
 |@cons p q ps qs h t ih=>
  obtain⟨h1,h2⟩:=h;rw[eu,eu];by_cases e:p.1=k
  ·have a:¬decide (p.1≠k)=true:=by simp[e]
   have b:¬decide (q.1≠k)=true:=by simp[h1.symm.trans e]
   rw[ao a,ao b];exact ih
  ·have e':¬q.1=k:=fun z=>e (h1.trans z);have a:decide (p.1≠k)=true:=by simp[e]
   have b:decide (q.1≠k)=true:=by simp[e']
   rw[aw a,aw b];exact .cons ⟨h1,h2⟩ ih
theorem KV.length{vs:ab (κ×aA)}(r:KV kvs vs):kvs.length=vs.length:=iw r
theorem Ly(kvs:ab (κ×V))(k:κ):(rU kvs k).length<=kvs.length:=c7 _ _
end
theorem Ca(r:RelV (kV k) u):(fq P w).is k u=true:=by
 cases k with
 |inl i=>obtain⟨t,e⟩:=(show∃t,u=iX i t from r);subst e;exact KY P w i t
 |inr x=>obtain⟨t,e⟩:=(show∃t,u=C0 x t from r);subst e;exact KW P w x t
theorem Hj:∀{ks:ab Key}{us:ab aA},Vals (ks.map kV) us->ItemsAre (fq P w) ks us
 |[],_,r=>by rw[mZ]at r;cases r;exact .nil
 |k::ks,_,r=>by
  rw[cx]at r;cases r with
  |cons h t=>exact .cons (Ca h) (Hj t)
abbrev KT(H:Hp):ab (ab Key×V)->ab (ab Key×Addr×aA)->Prop:=Paired fun p q=>p.1=q.1/\H q.2.1=some (.tup (p.1.map kV))/\RelV p.2 q.2.2
theorem KT.val{H:Hp}{kvs:ab (ab Key×V)}{xs:ab (ab Key×Addr×aA)}(r:KT H kvs xs)(k:ab Key):rY (nc kvs k) ((atKey xs k).map (·.2)):=by
 induction r with
 |nil=>exact jK
 |@cons p q ps qs h t ih=>
  obtain⟨h1,_,h2⟩:=h;by_cases e:p.1=k
  ·have e':q.1=k:=h1.symm.trans e;have b:atKey (q::qs) k=some q.2:=by simp[atKey,gz,e']
   rw[uC e,b];exact h2
  ·have e':¬q.1=k:=fun z=>e (h1.trans z);have b:atKey (q::qs) k=atKey qs k:=by simp[atKey,gz,e']
   rw[uD e,b];exact ih
theorem KT.Ws(r:KT H kvs xs)(k:ab Key)(ry:RelV y u):KT H (kvs.map fun kv=>if kv.1=k then(kv.1,y)else kv) (xs.map (putAt k u)):=by
 induction r with
 |nil=>exact .nil
 |@cons p q ps qs h t ih=>
  rw[cx,cx];refine .cons ?_ ih;obtain⟨h1,h2,h3⟩:=h;unfold putAt;by_cases e:p.1=k;·rw[aw e,aw (h1.symm.trans e)];exact⟨h1,h2,ry⟩
  ·rw[ao e,ao (fun z=>e (h1.trans z))];exact⟨h1,h2,h3⟩
theorem KT.put(r:KT H kvs xs)(k:ab Key)(hb:H b=some (.tup (k.map kV)))(ry:RelV y u):KT H (putK kvs k y) (storedH xs k b u):=by
 have e:(kvs.any fun kv=>decide (kv.1=k))=(atKey xs k).isSome:=by rw[DA,(r.val k).wg,Option.isSome_map]
 unfold putK storedH;rw[e];by_cases q:(atKey xs k).isSome=true;·rw[aw q,aw q];exact r.Ws k ry
 ·rw[ao q,ao q];exact Paired.snoc r ⟨rfl,hb,ry⟩
theorem KT.keeps(r:KT H kvs xs)(ht:∀b ys,H b=some (.tup ys)->H' b=some (.tup ys)):KT H' kvs xs:=Paired.WQ r fun _ _ z=>⟨z.1,ht _ _ z.2.1,z.2.2⟩
section
variable{P:bT}{w:cU}{H:Hp}{h:Heap}{a:Addr}
theorem VD(ok:vF P w H h)(e:Rd H a u):iK P w H h a u:=e.ok ok
theorem Lz(ok:vF P w H h)(e:Rd H a (.dK kvs)):kvs.length<=sizeLine/\(a==iF)=false/\∃vs,KV kvs vs/\h.DictOf (fq P w) a vs:=show iK P w H h a (.dK kvs)from VD ok e
theorem EZ(ok:vF P w H h)(e:H a=some (.dK kvs)):kvs.length<=sizeLine/\(a==iF)=false/\∃vs,KV kvs vs/\h.DictOf (fq P w) a vs:=Lz ok (.inl e)
theorem Jf(ok:vF P w H h)(e:H a=some (.tup (ks.map kV))):(tupleKind (fq P w)).is h ks a:=by obtain⟨_,dk,r,o,h1,h2,n,h3⟩:=(show iK P w H h a (.tup (ks.map kV))from ok a _ e);exact⟨o,dk.toArray,n,h1,h2,h3,by simpa using Hj r⟩
theorem Lx(ok:vF P w H h)(e:Rd H a (.dT kvs)):kvs.length<=sizeLine/\(a==iF)=false/\∃xs,KT H kvs xs/\h.DictOfH (tupleKind (fq P w)) a xs:=by
 obtain⟨z,y,xs,r,o,es,ep,h1,h2,h3,h4,h5⟩:=(show iK P w H h a (.dT kvs)from VD ok e);refine⟨z,y,xs,r,o,es,ep,h1,h2,h3,h4,fun x hx=>?_,h5⟩;have all:∀{l:ab (ab Key×V)}{m:ab (ab Key×Addr×aA)},KT H l m->∀x∈m,(tupleKind (fq P w)).is h x.1 x.2.1:=by
  intro l m q;induction q with
  |nil=>intro x hx;exact nomatch hx
  |@cons p q ps qs hq t ih=>
   intro x hx;rcases aF.mp hx with e|hx;·subst e;exact Jf ok (by rw[<-hq.1];exact hq.2.1)
   ·exact ih x hx
 exact all r x hx
theorem aaV(ok:vF P w H h)(e:H a=some (.dT kvs)):kvs.length<=sizeLine/\(a==iF)=false/\∃xs,KT H kvs xs/\h.DictOfH (tupleKind (fq P w)) a xs:=Lx ok (.inl e)
end
def JR(H:Hp)(a:Addr)(y:V)(r:aY V):Prop:=(∃kvs k,Rd H a (.dK kvs)/\y=kV k/\r=nc kvs k)\/∃kvs k b,Rd H a (.dT kvs)/\y=.ref b/\H b=some (.tup (k.map kV))/\r=nc kvs k
def Oa(H:Hp)(a:Addr)(y v:V)(H':Hp):Prop:=
 (∃kvs k,H a=some (.dK kvs)/\y=kV k/\kvs.length<sizeLine/\H'=upd H a (.dK (putK kvs k v)))\/
 ∃kvs k b,H a=some (.dT kvs)/\y=.ref b/\H b=some (.tup (k.map kV))/\kvs.length<sizeLine/\H'=upd H a (.dT (putK kvs k v))
theorem JR.k{k:Key}(e:H a=some (.dK kvs)):JR H a (kV k) (nc kvs k):=.inl ⟨kvs,k,.inl e,rfl,rfl⟩
theorem Oa.k{k:Key}(e:H a=some (.dK kvs))(hl:kvs.length<sizeLine):Oa H a (kV k) v (upd H a (.dK (putK kvs k v))):=.inl ⟨kvs,k,e,rfl,hl,rfl⟩
section
variable{X:Cx}{pins:ab (Addr×Obj)}{σ:St}{H:Hp}{s:aS}{a:Addr}{y v:V}{u r:aA}{o:aY V}{A:gR}{E:aA->aS->Prop}
theorem Inv.big(I:Inv X pins σ H s):iF<s.heap.objs.size:=by have h:c4<s.heap.objs.size:=(I.mod.glob.keeps I.bk).lt;exact Nat.lt_trans (by decide) h
theorem Qx(hu:A.units+1<cLine)(I:Inv X pins σ H s)(g:JR H a y (some v))(ry:RelV y u)(h:∀w' s',Inv X pins σ H s'->RelV v w'->Q w' s'):bw (bM X.prog X.w) A (Gy (.ref a) u) Q E s:=by
 rcases g with⟨kvs,k,e,ey,l⟩|⟨kvs,k,b,e,ey,eb,l⟩;·subst ey;obtain⟨z,hd,vs,rel,dd⟩:=Lz I.gn e;obtain⟨w',hw,L9⟩:=rY.some_of (v:=v) (o:=r9 vs k) (by rw[l];exact rel.val k);exact wpAny_getItem_of (Ca ry) dd.mapOf hw (h w' _ (I.tok _) L9)
 ·subst ey;cases(show u=dA b from ry);obtain⟨z,hd,xs,rel,dd⟩:=Lx I.gn e;obtain⟨w',hw,L9⟩:=rY.some_of (v:=v) (o:=(atKey xs k).map (·.2)) (by rw[l];exact rel.val k);obtain⟨p,hp,YO⟩:=t_.mp hw;refine wpAny_getItem_heap (Fn hu) (Jf I.gn eb) dd hp ?_;rw[YO];exact h w' _ (I.tok _) L9
theorem acY(hu:A.units+1<cLine)(I:Inv X pins σ H s)(g:JR H a y o)(ry:RelV y u)(h:∀s',Inv X pins σ H s'->Q (.bool o.isSome) s'):bw (bM X.prog X.w) A (eF .In u (.ref a)) Q E s:=by
 rcases g with⟨kvs,k,e,ey,l⟩|⟨kvs,k,b,e,ey,eb,l⟩;·subst ey;obtain⟨z,hd,vs,rel,dd⟩:=Lz I.gn e;refine wpAny_in_of (Ca ry) hd dd.mapOf ?_;rw[<-(rel.val k).wg,<-l];exact h _ (I.tok _)
 ·subst ey;cases(show u=dA b from ry);obtain⟨z,hd,xs,rel,dd⟩:=Lx I.gn e;refine wpAny_in_heap (Fn hu) (Jf I.gn eb) hd dd ?_;have q:=(rel.val k).wg;rw[Option.isSome_map]at q;rw[<-q,<-l];exact h _ (I.tok _)
theorem wo(I:Inv X pins σ H s)(mu:VZ (H a))(hs:i8 a s.heap h')(he:∃q,h'.get? a=some q)(new:iK X.prog X.w (upd H a ob) h' a ob):Inv X pins σ (upd H a ob) {s with heap:=h',toks:=t'}:=I.write (x:=a) (e:=a) mu (.inl rfl) (fun b q hb z=>(hs.2 b hb).trans z) he new
theorem E2(z:kvs.length<=sizeLine)(hd:(a==iF)=false)(rel:KV kvs vs)(dd:h'.DictOf (fq P w) a vs):iK P w H' h' a (.dK kvs):=⟨z,hd,vs,rel,dd⟩
theorem Qw(hu:A.units+1<cLine)(I:Inv X pins σ H s)(g:Oa H a y v H')(ry:RelV y u)(rv:RelV v r)(h:∀s',Inv X pins σ H' s'->Q () s'):bw (bM X.prog X.w) A (setItem (.ref a) u r) Q E s:=by
 rcases g with⟨kvs,k,e,ey,l,eH⟩|⟨kvs,k,b,e,ey,eb,l,eH⟩
 ·subst ey eH;obtain⟨z,hd,vs,rel,dd⟩:=EZ I.gn e;have hz:vs.length<=sizeLine:=by rw[<-rel.length];exact z
  have hl:(putK kvs k v).length<=sizeLine:=by have:=qw kvs k v;omega
  refine wpAny_setItem_pairs (hsz:=hz) (Ca ry) dd fun h' Md hs=>h _ ?_;have he:∃q,h'.get? a=some q:=let⟨q,_,_,hq,_⟩:=Md;⟨q,hq⟩;exact wo I (by rw[e];exact jK) hs he (E2 hl hd (rel.put k rv) Md)
 ·subst ey eH;cases(show u=dA b from ry);obtain⟨z,hd,xs,rel,dd⟩:=aaV I.gn e;have hz:xs.length<=sizeLine:=by rw[<-iw rel];exact z
  have hl:(putK kvs k v).length<=sizeLine:=by have:=qw kvs k v;omega
  refine wpAny_setItem_heap (hsz:=hz) (Fn hu) (Jf I.gn eb) dd fun h' Md hs=>h _ ?_;obtain⟨q,es,ep,hq,h2,h3,h4,_,h5⟩:=Md;refine wo I (by rw[e];exact jK) hs ⟨q,hq⟩ ⟨hl,hd,_,(rel.put k eb rv).keeps fun c ys ec=>?_,q,es,ep,hq,h2,h3,h4,h5⟩;rw[aj (mx ec e (fun z=>nomatch z))];exact ec
end
section
variable{X:Cx}{pins:ab (Addr×Obj)}{σ:St}{H:Hp}{s:aS}{a:Addr}{kvs:ab (Key×V)}{k:Key}{u:aA}{A:gR}{E:aA->aS->Prop}
theorem Y4(I:Inv X pins σ H s)(e:H a=some (.dK kvs))(ry:RelV (kV k) u)(l:(nc kvs k).isSome=true)(h:∀s',Inv X pins σ (upd H a (.dK (rU kvs k))) s'->Q () s'):bw (bM X.prog X.w) A (delItem (.ref a) u) Q E s:=by
 obtain⟨z,hd,vs,rel,dd⟩:=EZ I.gn e;refine wpAny_delItem_slot dd.typeIs (by decide) Fw
  (call_meetsIn Fw dd.typeIs PySem.F.entry_dict_delitem (PySem.F.args_dict_delitem_2 _ _) (meets_dict_delitem_pairs (fq X.prog X.w) a (Ca ry)) ⟨vs,dd,by rw[<-rel.length];exact z,by rw[<-(rel.val k).wg];exact l,fun h' Md hs=>h _ ?_⟩)
 have he:∃q,h'.get? a=some q:=let⟨q,_,_,hq,_⟩:=Md;⟨q,hq⟩;exact wo I (by rw[e];exact jK) hs he (E2 (bZ (Ly kvs k) z) hd (rel.drop k) Md)
theorem aaW(I:Inv X pins σ H s)(e:H a=some (.dK kvs))(ry:RelV (kV k) u)(l:nc kvs k=some v)(hm:more=[]\/∃x,more=[x])(h:∀w' s',Inv X pins σ (upd H a (.dK (rU kvs k))) s'->RelV v w'->Q w' s'):bw (bM X.prog X.w) A (se (.builtin "dict.pop") (.ref a::u::more)) Q E s:=by
 obtain⟨z,hd,vs,rel,dd⟩:=EZ I.gn e;obtain⟨w',hw,L9⟩:=rY.some_of (v:=v) (o:=r9 vs k) (by rw[<-l];exact rel.val k);have hp:(keyPart u).isSome=true:=by
  cases k with
  |inl i=>obtain⟨t,q⟩:=(show∃t,u=iX i t from ry);subst q;rfl
  |inr x=>obtain⟨t,q⟩:=(show∃t,u=C0 x t from ry);subst q;rfl
 have ha:argsOk "dict.pop" ⟨.ref a::u::more,[]⟩:=by
  rcases hm with q|⟨x,q⟩;·subst q;exact PySem.F.args_dict_pop_2 _ _
  ·subst q;exact PySem.F.args_dict_pop_3 _ _ _
 refine call_meetsIn PySem.F.slot_dict_pop dd.typeIs PySem.F.entry_dict_pop ha (meets_dict_pop_there (fq X.prog X.w) a (Ca ry) more hm hp)
  ⟨vs,w',dd,by rw[<-rel.length];exact z,hw,fun h' Md hs=>h w' _ ?_ L9⟩
 have he:∃q,h'.get? a=some q:=let⟨q,_,_,hq,_⟩:=Md;⟨q,hq⟩;exact wo I (by rw[e];exact jK) hs he (E2 (bZ (Ly kvs k) z) hd (rel.drop k) Md)
end
def aa0(i:eV):Prop:=∀ov iv,subscripted i false ov iv=operate [ov,iv] (Gy ov iv)
theorem T1{T id:BJ}(hl:typeLookup (.type T) "__getitem__"=pure (some (.builtin id)))(hs:aa0 slice)(h:bw (bM prog w) A (eval value env) (fun o s₁=>bw (bM prog w) A (eval slice env) (fun i s₂=>s₂.TypeIs o T/\bw (bM prog w) A (Gy o i) Q E s₂) E s₁) E s):bw (bM prog w) A (eval (.Subscript value slice pos) env) Q E s:=by
 refine Subscript_ (i3 h (fun o s₁ h₁=>i3 h₁ (fun i s₂ h₂=>?_) fun _ _ x=>x) fun _ _ x=>x);obtain⟨hT,h₂⟩:=h₂;unfold subscriptTail;refine ai ?_;rw[getitemInPython_of_ne hT.not_modules];refine ai (wpAny_specialOf hT hl ?_);have fin:bw (bM prog w) A (subscripted slice false o i) (fun r s₃=>bw (bM prog w) A (letTemporaryGo value o r>>=fun _=>pure r) Q E s₃) E s₂:=by rw[hs o i];exact wpAny_operating (i3 h₂ (fun r s₃ h₃=>ai (wpAny_letTemporaryGo (aL h₃))) fun _ _ x=>x)
 first
  |exact aL (ai fin)
  |exact ai (aL (ai fin))
  |exact ai fin
theorem LB{σ:St}(I:Inv X pins σ H s)(g:JR H a y o):s.TypeIs (.ref a) "dict":=by
 rcases g with⟨kvs,k,e,_,_⟩|⟨kvs,k,b,e,_,_,_⟩;·obtain⟨_,_,vs,_,dd⟩:=Lz I.gn e;exact dd.typeIs
 ·obtain⟨_,_,xs,_,dd⟩:=Lx I.gn e;exact dd.typeIs
inductive abb(Q:VK)(x y:V)(H2:Hp):Prop
 |mk (a:Addr) (v:V) (h1:x=.ref a) (h2:JR H2 a y (some v)) (k:Q v H2)
def Zn(td ty:TE):TE:=fun σ H Q=>td σ H fun x H1=>ty σ H1 (abb Q x)
inductive adB(Q:VK)(y x:V)(H2:Hp):Prop
 |mk (a:Addr) (o:aY V) (h1:x=.ref a) (h2:JR H2 a y o) (k:Q (.bl o.isSome) H2)
def abn(ty td:TE):TE:=fun σ H Q=>ty σ H fun y H1=>td σ H1 (adB Q y)
inductive aba(D:Ends)(σ:St)(v x y:V)(H3:Hp):Prop
 |mk (a:Addr) (H4:Hp) (h1:x=.ref a) (h2:Oa H3 a y v H4) (k:D.nx σ H4)
def Zw(td ty tv:TE):TS:=fun D σ H=>tv σ H fun v H1=>td σ H1 fun x H2=>ty σ H2 (aba D σ v x)
section
variable{X:Cx}{o i e value:eV}{pos pos' Px:Pos}{td ty tv:TE}
theorem Uo(hu:X.A.units+1<cLine)(ho:PE X o td)(hi:PE X i ty)(hs:aa0 i):PE X (.Subscript o i pos) (Zn td ty):=by intro pins s σ H Q I h;refine T1 PySem.F.slot_dict_getitem.lookup hs (fZ (ho pins s σ H _ I h) fun u s1 h_=>h_.el fun x H1 I1 rx q1=>fZ (hi pins s1 σ H1 _ I1 q1) fun iv s2⟨y,H2,I2,ry,a,v,ex,g,q2⟩=>?_);subst ex;obtain rfl:u=dA a:=rx;exact⟨LB I2 g,Qx hu I2 g ry fun w' s3 I3 L9=>⟨v,H2,I3,L9,q2⟩⟩
theorem WB(hu:X.A.units+1<cLine)(hi:PE X i ty)(ho:PE X o td):PC X .In i o (abn ty td):=by intro pins s σ H Q I h;refine fZ (hi pins s σ H _ I h) fun iv s1 h_=>h_.el fun y H1 I1 ry q1=>fZ (ho pins s1 σ H1 _ I1 q1) fun u s2⟨x,H2,I2,rx,a,ov,ex,g,q2⟩=>?_;subst ex;obtain rfl:u=dA a:=rx;exact acY hu I2 g ry fun s3 I3=>⟨.bl ov.isSome,H2,I3,rfl,q2⟩
theorem IE(hu:X.A.units+1<cLine)(ho:PE X o td)(hi:PE X i ty)(hv:PE X value tv)(hs:wY value (some (.Subscript o i pos')) pos.line X.env=pure false):PS X (.Assign [.Subscript o i pos'] value pos) (Zw td ty tv):=by intro pins s σ H D I h;refine wpAny_Assign_Subscript (fZ (hv pins s σ H _ I h) fun r s1 h_=>h_.el fun v H1 I1 rv q1=>fZ (ho pins s1 σ H1 _ I1 q1) fun u s2 h_=>h_.el fun x H2 I2 rx q2=>fZ (hi pins s2 σ H2 _ I2 q2) fun iv s3⟨y,H3,I3,ry,a,H4,ex,g,q3⟩=>?_) hs;subst ex;obtain rfl:u=dA a:=rx;exact Qw hu I3 g ry rv fun s4 I4=>⟨σ,H4,I4,q3⟩
end
theorem LA(h:Heap)(hb:iF<h.objs.size):iK P w H (h.push {cls:=.type "dict",data:=.dict #[]}) h.objs.size (.dK []):=⟨cH _,iI.mpr (fY (cG hb)),[],.nil,Heap.DictOf.new h⟩
def Wi:TE:=fun _ H Q=>∀p,H p=none->Q (.ref p) (upd H p (.dK []))
section
variable{X:Cx}{pos:Pos}
theorem Eh:PE X (.Dict [] [] pos) Wi:=fun pins s σ H Q I h=>wpAny_Dict_empty ⟨.ref s.heap.objs.size,_,I.laid (a:=s.heap.objs.size) (o:=.dK []) (t':=s.toks) (fun _ _ q=>aK _ q) (aD _) (LA s.heap I.big),rfl,h _ (I.gn.fresh (aD _))⟩
end
def Mx:ab (TE×TE)->St->Hp->(ab (V×V)->Hp->Prop)->Prop
 |[],_,H,Q=>Q [] H
 |(tk,tv)::r,σ,H,Q=>tk σ H fun x H1=>tv σ H1 fun y H2=>Mx r σ H2 fun ps H3=>Q ((x,y)::ps) H3
abbrev VV:ab (V×V)->ab (aA×aA)->Prop:=Paired fun p q=>RelV p.1 q.1/\RelV p.2 q.2
def PPs(X:Cx)(pos:Pos)(keys:ab (aY eV))(values:ab eV)(Vs:ab (TE×TE)):Prop:=∀(pins:ab (Addr×Obj))(s:aS)(σ:St)(H:Hp)(Q:ab (V×V)->Hp->Prop),Inv X pins σ H s->Mx Vs σ H Q->bw (bM X.prog X.w) X.A (evalPairs (pairTrees keys values X.env pos)) (fun vs s'=>∃ps H',Inv X pins σ H' s'/\VV ps vs/\Q ps H') X.xe s
theorem Uh:PPs X pos [] [] []:=fun pins s σ H Q I h=>pairTrees_nil_walk ⟨[],H,I,.nil,h⟩
theorem RK(hk:PE X k tk)(hv:PE X v tv)(hr:PPs X pos ks vs Vs):PPs X pos (some k::ks) (v::vs) ((tk,tv)::Vs):=fun pins s σ H Q I h=>pairTrees_cons_walk (fZ (hk pins s σ H _ I h) fun u s1 h_=>h_.el fun x H1 I1 rx q1=>fZ (hv pins s1 σ H1 _ I1 q1) fun w2 s2 h_=>h_.el fun y H2 I2 ry q2=>fZ (hr pins s2 σ H2 _ I2 q2) fun ws s3⟨ps,H3,I3,rel,q3⟩=>⟨(x,y)::ps,H3,I3,.cons ⟨rx,ry⟩ rel,q3⟩)
def Bh(kvs more:ab (Key×V)):ab (Key×V):=more.foldl (fun acc kv=>putK acc kv.1 kv.2) kvs
theorem KV.merge:∀{more:ab (Key×V)}{rs:ab (Key×aA)}{kvs:ab (Key×V)}{vs:ab (Key×aA)},KV more rs->KV kvs vs->KV (Bh kvs more) (merged vs rs):=by
 intro more rs kvs vs r;unfold KV at r;induction r generalizing kvs vs with
 |nil=>intro q;exact q
 |@cons p q ps qs h t ih=>
  intro r0;have e:KV (putK kvs p.1 p.2) (stored vs q.1 q.2):=by have:=r0.put p.1 h.2;rw[<-h.1];exact this
  exact ih e
theorem xm:∀(more kvs:ab (Key×V)),(Bh kvs more).length<=kvs.length+more.length
 |[],kvs=>by show kvs.length<=kvs.length+0;omega
 |p::r,kvs=>by have h1:=xm r (putK kvs p.1 p.2);have h2:=qw kvs p.1 p.2;show(Bh (putK kvs p.1 p.2) r).length<=_;rw[bg];omega
theorem E5:∀{kvs:ab (Key×V)}{ws:ab (aA×aA)},VV (kvs.map fun kv=>(kV kv.1,kv.2)) ws->∃rs,Carries (fq P w) ws rs/\KV kvs rs
 |[],_,r=>by rw[mZ]at r;cases r;exact⟨[],jK,.nil⟩
 |p::kvs,_,r=>by
  rw[cx]at r;cases r with
  |@cons a b as bs h t=>obtain⟨rs,c,q⟩:=E5 (P:=P) (w:=w) t;obtain⟨b1,b2⟩:=b;exact⟨(p.1,b2)::rs,⟨Ca h.1,rfl,c⟩,.cons ⟨rfl,h.2⟩ q⟩
def Zm(Vs:ab (TE×TE)):TE:=fun σ H Q=>∀p,H p=none->Mx Vs σ (upd H p (.dK [])) fun ps H2=>H2 p=some (.dK [])/\∃kvs:ab (Key×V),ps=kvs.map (fun kv=>(kV kv.1,kv.2))/\kvs.length<=15/\Q (.ref p) (upd H2 p (.dK (Bh [] kvs)))
theorem Um{X:Cx}{pos:Pos}{keys:ab (aY eV)}{values:ab eV}{Vs:ab (TE×TE)}(h:PPs X pos keys values Vs)(tf:keys.all (·.isSome)=true)(hl:keys.length=values.length)(h0:keys≠[])(h15:keys.length<=15):PE X (.Dict keys values pos) (Zm Vs):=by
 intro pins s σ H Q I q;have hn:=I.gn.fresh (aD s.heap.objs.size);have I1:=I.laid (a:=s.heap.objs.size) (o:=.dK []) (h':=s.heap.push {cls:=.type "dict",data:=.dict #[]}) (t':=s.toks) (fun _ _ q=>aK _ q) (aD _) (LA s.heap I.big);refine wpAny_Dict_walk (knd:=fq X.prog X.w) tf hl h0 h15 (fZ (h pins _ σ _ _ I1 (q _ hn)) fun ws s2⟨ps,H2,I2,rel,e,kvs,ep,lk,q2⟩=>?_);subst ep;obtain⟨rs,c,rk⟩:=E5 (P:=X.prog) (w:=X.w) rel;obtain⟨z,hd,vs0,r0,dd⟩:=EZ I2.gn e;cases r0;refine⟨rs,c,dd,fun h' Md hs=>⟨.ref s.heap.objs.size,_,?_,rfl,q2⟩⟩;have hz:(Bh [] kvs).length<=sizeLine:=by have h1:=xm kvs [];rw[fH]at h1;rw[bS];omega
 have he:∃q,h'.get? s.heap.objs.size=some q:=let⟨q,_,_,hq,_⟩:=Md;⟨q,hq⟩;exact wo I2 (by rw[e];exact jK) hs he (E2 hz hd (rk.merge .nil) Md)
structure M1(X:Cx)(o:eV)(m:Str)(apos:Pos)(e:eV)(jM:Pos):Prop where
 base:kr o m X.env (eval o X.env)=eval o X.env
 Q5:((ic jM (b_ [e] X.env)).all (fun x=>!x.1)&&(oJ jM (jn [] X.env)).all (fun x=>x.1.isSome)
  &&decide (([e]:ab eV).length+([]:ab uw).length+(if([]:ab uw).isEmpty then 0 else 1)<30))=true
 line:(apos.endLine==jM.line)=true
 trees:ic jM (b_ [e] X.env)=[(false,eval e X.env)]
structure M2(X:Cx)(o:eV)(m:Str)(apos:Pos)(e f:eV)(jM:Pos):Prop where
 base:kr o m X.env (eval o X.env)=eval o X.env
 Q5:((ic jM (b_ [e,f] X.env)).all (fun x=>!x.1)&&(oJ jM (jn [] X.env)).all (fun x=>x.1.isSome)
  &&decide (([e,f]:ab eV).length+([]:ab uw).length+(if([]:ab uw).isEmpty then 0 else 1)<30))=true
 line:(apos.endLine==jM.line)=true
 trees:ic jM (b_ [e,f] X.env)=[(false,eval e X.env),(false,eval f X.env)]
def IsD(H:Hp)(a:Addr):Prop:=(∃kvs,Rd H a (.dK kvs))\/∃kvs,Rd H a (.dT kvs)
theorem R6{σ:St}(I:Inv X pins σ H s)(d:IsD H a):s.TypeIs (.ref a) "dict"/\(∀b,dA a=.ref b->∃ob,s.heap.get? b=some ob/\ob.dict=none)/\(a==iF)=false:=by
 rcases d with⟨kvs,e⟩|⟨kvs,e⟩;·obtain⟨_,hd,vs,_,dd⟩:=Lz I.gn e;refine⟨dd.typeIs,fun b q=>?_,hd⟩;cases q;obtain⟨ob,_,_,h1,h2,_⟩:=dd;exact⟨ob,h1,h2.2.1⟩
 ·obtain⟨_,hd,xs,_,dd⟩:=Lx I.gn e;refine⟨dd.typeIs,fun b q=>?_,hd⟩;cases q;obtain⟨ob,_,_,h1,h2,_⟩:=dd;exact⟨ob,h1,h2.2.1⟩
def Wh(td ty:TE):TE:=fun σ H Q=>td σ H fun x H1=>∃a,x=.ref a/\IsD H1 a/\ty σ H1 fun y H2=>∃kvs k v,H2 a=some (.dK kvs)/\y=kV k/\nc kvs k=some v/\Q v (upd H2 a (.dK (rU kvs k)))
section
variable{X:Cx}{o e f:eV}{apos jM:Pos}{td ty tx:TE}
theorem RO(ho:PE X o td)(he:PE X e ty)(m:M1 X o "pop" apos e jM):PE X (.Call (.Attribute o "pop" apos) [e] [] jM) (Wh td ty):=by intro pins s σ H Q I h;refine wpAny_Call_method m.base m.Q5 m.line HI PySem.F.slot_dict_pop PySem.F.type_dict_pop (fZ (ho pins s σ H _ I h) fun u s1⟨x,H1,I1,rx,a,ex,d,q1⟩=>?_);subst ex;obtain rfl:u=dA a:=rx;obtain⟨t1,t2,_⟩:=R6 I1 d;refine⟨t1,t2,?_⟩;rw[m.trees];refine ue rfl (xc (qg (fZ (he pins s1 σ H1 _ I1 q1) fun iv s2⟨y,H2,I2,ry,kvs,k,v,ea,ey,l,q2⟩=>BL ?_)));subst ey;exact aaW I2 ea ry l (.inl rfl) fun w' s3 I3 L9=>⟨v,_,I3,L9,q2⟩
end
end L2
namespace L2
open PySem PySem.Spec PyProof.Rows
section
variable{X:Cx}{pins:ab (Addr×Obj)}{σ:St}{H:Hp}{s:aS}{h':Heap}
theorem Inv.Pq{ch:ab Addr}{T:Addr}(I:Inv X pins σ H s)(k:∀b o,b∉ch->s.heap.get? b=some o->h'.get? b=some o)(hf:∀b∈ch,Fd X pins H b)(hT:s.heap.objs.size<=T)(new:iK X.prog X.w (upd H T ob) h' T ob):Inv X pins σ (upd H T ob) {s with heap:=h',toks:=t'}:=by
 have hn:H T=none:=I.gn.fresh hT;have ZQ:∀b u,H b=some u->b∉ch:=fun b u e z=>by have q:=(hf b z).1;rw[q]at e;cases e
 refine I.step (g':=s.gens) (d':=s.drawn) (ch:=ch) (fun b hb=>⟨(hf b hb).2.2.2.1,(hf b hb).2.1,(hf b hb).2.2.2.2.1,(hf b hb).2.2.2.2.2⟩) (fun b o _ _ hc e _=>k b o hc e) (fun b o _ _ hc e _=>⟨o.slots,k b o hc e⟩)
  (fun b o _ e n=>?_) (fun b o hc e=>⟨o,k b o hc e⟩) (fun b xs e=>?_) (fun b o u e=>?_) (fun b ps e=>⟨#[],?_⟩) (fun m hm=>?_) (fun b u e=>?_) I.bare
 ·rw[aj (cG (cC (bI e) hT))];exact n
 ·rw[aj (aE e hn)];exact e
 ·rw[aj (aE e hn)];exact e
 ·rw[aj (aE e hn),e];simp
 ·obtain⟨o,es,ep,ho,r⟩:=hm;exact⟨o,es,ep,k _ o (fun z=>(hf _ z).2.1 rfl) ho,r⟩
 ·by_cases hb:b=T;·subst hb;rw[aq]at e;cases e;exact new
  ·rw[aj hb]at e;refine(I.gn b u e).kI (fun c v hc q=>k c v ?_ q) (fun c q=>by rw[aj (aE q hn)];exact q) fun c xs q=>by rw[aj (aE q hn)];exact q
   rcases hc with z|z;·rw[z];exact ZQ b u e
   ·exact ZQ c _ z
theorem Inv.lock(I:Inv X pins σ H s)(h:H d=some u)(mu:VZ (some u)):∃od,Inv X pins σ (upd H d (.qX od u)) s:=by
 have x:=I.gn d u h;have ex:∃od,s.heap.get? d=some od:=by
  cases u with
  |lst xs=>obtain⟨_,_,_,_,e⟩:=x;exact⟨_,e⟩
  |dK kvs=>obtain⟨_,_,_,_,o,_,_,e,_⟩:=x;exact⟨o,e⟩
  |dT kvs=>obtain⟨_,_,_,_,o,_,_,e,_⟩:=x;exact⟨o,e⟩
  |set S n=>obtain⟨o,_,_,_,e,_⟩:=x;exact⟨o,e⟩
  |ins C dx fs=>obtain⟨_,_,_,e,_⟩:=x;exact⟨_,e⟩
  |ext φ=>obtain⟨_,⟨_,e⟩,_⟩:=x;exact⟨_,e⟩
  |_=>exact fJ mu
 obtain⟨od,e⟩:=ex;have new:iK X.prog X.w (upd H d (.qX od u)) s.heap d (.qX od u):=by
  refine⟨e,x.kI (fun b v _ q=>q) (fun b q=>?_) fun b xs q=>?_⟩;·rw[aj (fun z=>by rw[z,h]at q;cases q;exact mu)];exact q
  ·rw[aj (fun z=>by rw[z,h]at q;cases q;exact mu)];exact q
 exact⟨od,I.write (x:=d) (e:=d) (t':=s.toks) (h':=s.heap) (by rw[h];exact mu) (.inl rfl) (fun b v _ q=>q) ⟨od,e⟩ new⟩
theorem Inv.OO(I:Inv X pins σ H s)(h:H d=some u)(mu:VZ (some u)):∀o' u',X.Yl d≠some (.qX o' u'):=fun o' u' e=>by have q:=I.base.EV d o' u' e;rw[h]at q;cases q;exact mu
theorem Inv.unlock(I:Inv X pins σ H s)(h:H d=some (.qX od u))(hn:∀o' u',X.Yl d≠some (.qX o' u')):Inv X pins σ (upd H d u) s:=by
 have Yy:∀b o,H b=some o->(∀o' u',o≠.qX o' u')->b≠d:=fun b o e oR z=>by rw[z,h]at e;cases e;exact oR _ _ rfl
 have neN:∀b,H b=none->b≠d:=fun b e z=>by rw[z,h]at e;cases e
 refine⟨I.ok,I.os,I.bare,⟨I.base.keep,I.base.slot,fun b o e n hx=>?_,I.base.there,fun b xs e=>?_,fun b o x e=>?_,fun b ps e=>?_⟩,I.loc,I.cell,?_,fun x c e=>?_,fun p hp=>?_,fun b o e=>?_,I.len⟩;·rw[aj (neN b (I.base.free b o e n hx))];exact I.base.free b o e n hx
 ·have q:=I.base.HS b xs e;rw[aj (Yy b _ q (fun _ _ z=>nomatch z))];exact q
 ·have q:=I.base.EV b o x e;rw[aj (fun z=>by rw[z]at e;exact hn _ _ e)];exact q
 ·obtain⟨m,q⟩:=I.base.HV b ps e;exact⟨m,by rw[aj (Yy b _ q (fun _ _ z=>nomatch z))];exact q⟩
 ·rw[aj (neN _ I.free)];exact I.free
 ·rw[aj (neN c (I.qz x c e))];exact I.qz x c e
 ·obtain⟨e,n,r⟩:=I.pin p hp;exact⟨e,by rw[aj (neN _ n)];exact n,r⟩
 ·by_cases hb:b=d;·rw[hb,aq]at e;cases e;rw[hb];obtain⟨_,x⟩:=I.gn d _ h;exact x.kI (fun c v _ q=>q) (fun c q=>by rw[aj (Yy c _ q (fun _ _ z=>nomatch z))];exact q) fun c xs q=>by rw[aj (Yy c _ q (fun _ _ z=>nomatch z))];exact q
  ·rw[aj hb]at e;exact(I.gn b o e).kI (fun c v _ q=>q) (fun c q=>by rw[aj (Yy c _ q (fun _ _ z=>nomatch z))];exact q) fun c xs q=>by rw[aj (Yy c _ q (fun _ _ z=>nomatch z))];exact q
end
def Zk(t:TS):TS:=fun D σ H=>∃d u,H d=some u/\VZ (some u)/\∀od,t ⟨fun σ' H'=>H' d=some (.qX od u)/\D.nx σ' (upd H' d u),fun v H'=>H' d=some (.qX od u)/\D.rt v (upd H' d u),fun σ' H'=>H' d=some (.qX od u)/\D.bk σ' (upd H' d u),fun σ' H'=>H' d=some (.qX od u)/\D.ct σ' (upd H' d u)⟩ σ (upd H d (.qX od u))
section
variable{X:Cx}
theorem Ue{st:Stmt}(h:PS X st t):PS X st (Zk t):=by
 intro pins s σ H D I hw;obtain⟨d,u,hd,mu,hw⟩:=hw;obtain⟨od,I1⟩:=I.lock hd mu;refine fZ (h pins s σ _ _ I1 (hw od)) fun f s1 q=>?_;cases f with
 |next=>obtain⟨σ',H',I2,e,q⟩:=q;exact⟨σ',_,I2.unlock e (I.OO hd mu),q⟩
 |brk=>obtain⟨σ',H',I2,e,q⟩:=q;exact⟨σ',_,I2.unlock e (I.OO hd mu),q⟩
 |cont=>obtain⟨σ',H',I2,e,q⟩:=q;exact⟨σ',_,I2.unlock e (I.OO hd mu),q⟩
 |ret v=>obtain⟨x,σ',H',I2,r,e,q⟩:=q;exact⟨x,σ',_,I2.unlock e (I.OO hd mu),r,q⟩
theorem MS{σ:St}(I:Inv X pins σ H s)(o:Obj)(T:Turn X.prog X.w X.K tg J [s.heap.objs.size] s.heap.objs.size tn)(st:tn 0 (s.heap.push o))(q:R J H):PIE X pins σ tg R (.ref s.heap.objs.size) {s with heap:=s.heap.push o,toks:=tk}:=by
 refine⟨s.heap.objs.size,[s.heap.objs.size],tn,J,H,rfl,I.kept fun b ob e=>aK _ e,T,st,fun b hb=>?_,q⟩;have e:b=s.heap.objs.size:=by simpa using hb
 subst e;exact I.Qp (aD _) (I.gn.fresh (aD _))
end
def Itc(lo c:Int)(n:Nat):It:=⟨fun i _=>i<n,fun i H x H'=>H'=H/\x=.int (lo+(i:Nat)*c),fun i _=>n<=i⟩
theorem J1{K:ag}(it:Addr)(lo c:Int)(n:Nat):Turn P w K tg (Itc lo c n) [it] it (fun i h=>IsRangeIter h it (lo+(i:Nat)*c) ((n:Int)-(i:Nat)) c)where
 mem:=by simp
 obj:=fun i h st b hb=>by
  have e:b=it:=by simpa using hb
  subst e
  exact⟨_,st,fun v z=>nomatch z⟩
 keep:=fun i h h' st k=>k it (by simp) _ st
 item:=by
  intro X hP hw hK hc i pins s σ H E I hf st hg
  subst hP hw hK
  obtain⟨f0,f1,f2,f3,f4,f5⟩:=hf it (by simp)
  have W:=Walks.range (prog:=X.prog) (w:=X.w) (I.ok.hd hc) it lo c n
  refine W.item i s _ _ hg st fun v h' tk hv Kc kk=>?_
  obtain⟨t,rfl⟩:=hv
  have I1:Inv X pins σ H {s with heap:=h',toks:=tk}:=I.turned (fun b o hb e=>kk b o (by simpa using hb) e) f0 f1 f3 f4 f5
  exact⟨_,rfl,Hq (s:={s with heap:=h',toks:=tk}) (n:="range_iterator") Kc rfl rfl (by decide) ⟨.int (lo+(i:Nat)*c),H,I1,⟨t,rfl⟩,⟨rfl,rfl⟩,Kc,fun b hb=>(hf b hb).1⟩⟩
 done:=by
  intro X hP hw hK hc i pins s σ H E I hf st hg
  subst hP hw hK
  obtain⟨f0,f1,f2,f3,f4,f5⟩:=hf it (by simp)
  exact wpAny_pyNext_range_end (I.ok.hd hc) st (by have:n<=i:=hg;omega) fun h' eb=>⟨rfl,I.turned (t':=s.toks) (fun b o hb e=>eb b o hb e) f0 f1 f3 f4 f5⟩
 self:=fun A i s Q E st h=>wpAny_pyIter_rangeiter st h
def RgC(i j c:Int)(n:Nat):Prop:=c≠0/\c.natAbs<1073741824/\mY i j c=true/\cV i j c=n
def Z3(ta:TA):TI:=fun σ H R=>ta σ H fun vs H1=>∃(i j c:Int)(n:Nat),vs=[.int i,.int j,.int c]/\RgC i j c n/\R (Itc i c n) H1
section
variable{X:Cx}{tg:eV}
theorem PX{a b c:eV}{ta:TA}{p pos:Pos}(hg:Gl X "range")(hm:X.mg "range"=none)(ha:PA X [a,b,c] ta)(hs:b_ [a,b,c] X.env=(false,eval a X.env)::b_ [b,c] X.env:=by rfl)(pP:(ic pos (b_ [b,c] X.env)).any (·.1)=false:=by rfl):PI X tg (.Call (.Name "range" p) [a,b,c] [] pos) (Z3 ta):=by
 intro pins s σ H R I h;refine Call_ (Bj I hg hm boot_range (gV (fZ (ha pos pins s σ H _ I h) fun us s1 h_=>h_.el fun vs H1 I1 r1 q1=>?_) hs pP));obtain⟨i,j,k,n,e,⟨c0,c1,c2,c3⟩,q⟩:=q1;subst e;cases r1 with
 |cons r rr=>
  cases rr with
  |cons r' rr=>
   cases rr with
   |cons Wu rr=>
    cases rr;obtain⟨t,rfl⟩:=r;obtain⟨t',rfl⟩:=r';obtain⟨t'',rfl⟩:=Wu;refine call_range_3 c0 ?_ (.inl (tO c1));refine wpAny_pyIter_range (Cf ..) c2 ?_;have I2:Inv X pins σ H1 {s1 with heap:=s1.heap.push {cls:=.type "range",data:=.fields #[.int i t,.int j t',.int k t'']}}:=I1.kept (t':=s1.toks) fun b o e=>aK _ e;refine MS (tk:=s1.toks) I2 _ (J1 _ i k n) ?_ q;have e1:i+((0:Nat):Int)*k=i:=by simp
    have e2:(n:Int)-((0:Nat):Int)=cV i j k:=by rw[c3];simp
    show IsRangeIter _ _ (i+((0:Nat):Int)*k) ((n:Int)-((0:Nat):Int)) k;rw[e1,e2];exact bu _ rfl
end
theorem NB{lo c:Int}{g:TG}{tb:TS}{D:Ends}(Pv:Nat->St->Hp->Prop)(h0:Pv 0 σ H)(hs:∀i σ H,i<n->Pv i σ H->g (.int (lo+(i:Nat)*c)) σ H fun σ2 H2=>tb {D with nx:=Pv (i+1),ct:=Pv (i+1),bk:=D.nx} σ2 H2)(hd:∀σ H,Pv n σ H->D.nx σ H):∃W:Nat->Nat->St->Hp->Prop,(∃m,W 0 m σ H)/\∀i m σ H,W i m σ H->((Itc lo c n).stop i H/\D.nx σ H)\/((Itc lo c n).go i H/\∃N:St->Hp->Prop,(∀σ' H',N σ' H'->∃m',m'<m/\W (i+1) m' σ' H')/\∀x H',(Itc lo c n).L8 i H x H'->g x σ H' fun σ2 H2=>tb {D with nx:=N,ct:=N,bk:=D.nx} σ2 H2):=by
 refine⟨fun i m σ H=>m=n-i/\i<=n/\Pv i σ H,⟨n,by simp,cH _,h0⟩,?_⟩;rintro i m σ H ⟨rfl,hi,p⟩;by_cases jQ:i<n;·refine .inr ⟨jQ,Pv (i+1),fun σ' H' p'=>⟨n-(i+1),by omega,rfl,jQ,p'⟩,fun x H' y=>?_⟩;obtain⟨e,y⟩:=y;subst e y;exact hs i σ _ jQ p
 ·have e:i=n:=by omega
  subst e;exact .inl ⟨aD _,hd σ H p⟩
section
variable{prog:bT}{w:cU}{A:gR}{E:aA->aS->Prop}{s:aS}
theorem Hi(hd:(d==iF)=false)(ho:s.heap.get? d=some o)(hc:o.ExactDict)(aav:o.data=.dict es ep)(hQ:Q (.ref s.heap.objs.size) {s with heap:=s.heap.push {cls:=.type "dict_keyiterator",data:=.fields #[.ref d,.int 0 0,.int es.size 0,.int ep 0]}}):bw (bM prog w) A (pyIter (.ref d)) Q E s:=by have hT:s.TypeIs (.ref d) "dict":=⟨o,ho,hc.1⟩;refine uo hT F.slot_dict_iter (fg F.slot_dict_iter hT F.entry_dict_iter ?_ (F.args_dict_iter_1 _));unfold Builtin.«dict.__iter__»;refine ai ?_;unfold Builtin.Dict.dictSlotNone;refine ai (wpAny_notOrdered_dict hT ?_);show bw _ _ (pure (dA d)) _ _ s;refine aL ?_;show bw _ _ (Fp d>>=_) _ _ s;unfold Fp;rw[ao (by rw[hd];exact af)];refine ai (aL ?_);refine ai (Gv ho aav ?_);refine ai (wpAny_dictEpoch ho aav ?_);refine ai (gE (aL ⟨_,rfl,"dict_keyiterator",_,⟨_,bu _ rfl,rfl⟩,fL.lookup,?_⟩));simpa[gF]using hQ
theorem FY(hit:s.heap.IsKeyIter it d i n ep)(Sa:s.heap.get? d=some od)(hdd:od.data=.dict es ep)(hsz:es.size=n)(hx:es[i]? =some en)(hQ:∀h',h'.IsKeyIter it d (i+1) n ep->i8 it s.heap h'->Q (some en.key) {s with heap:=h'}):bw (bM prog w) A (nM (.ref it)) Q E s:=by
 obtain⟨o,ho,hc,hd⟩:=id hit;unfold nM;refine ai (qa (iy (name:=qf "__next__") hit.typeIs fL
  (fg fL hit.typeIs HJ ?_ (GG _))))
 refine ai (aL ?_);refine ai ?_;refine ai ?_;first|refine ai (jS hit.typeIs (aL ?_))|refine ai (mS hit.typeIs (aL ?_))
 refine ai (tJ ho hd ?_);have Xl:ux "dict_keyiterator"=false:=by decide
 simp only[Xl,An,mR];show bw _ _ (if(dA d==g9)=true then _ else _) _ _ s;rw[ao (show¬((dA d==g9)=true)from af)];refine ai (aL ?_);refine ai (Gv Sa hdd ?_);rw[ao (by rw[hsz];simp)];refine ai (aL ?_);refine ai (wpAny_dictEpoch Sa hdd ?_);rw[ao (by simp)];refine aL ?_;obtain⟨acj,hen⟩:=Array.getElem?_eq_some_iff.mp hx;simp only[show¬((i:Int)<0)from by omega,mR,aJ,eW acj];refine ai ?_;first|refine ai (jS hit.typeIs (aL ?_))|refine ai (mS hit.typeIs (aL ?_))
 refine ai (wpAny_isOneOf_keyiter hit.typeIs ?_);show bw _ _ (tK (.ref it) 1 (gF ((i:Int)+1))>>=_) _ _ s;refine ai (jO ho hd (by simp) ?_);have UP:(s.heap.update it (oU (·.setIfInBounds 1 (gF ((i:Int)+1))))).IsKeyIter it d (i+1) n ep:=⟨_,fB _ ho (ka (eO hd _)),(sk ..).trans hc,by rw[eO hd];simp[gF]⟩;refine ai (jD ?_);refine ai (wpAny_isOneOf_keyiter (s:={s with heap:=s.heap.update it (oU (·.setIfInBounds 1 (gF ((i:Int)+1))))}) UP.typeIs ?_);show bw _ _ (pure es[i].key) _ _ _;rw[hen];exact aL (aL ⟨_,rfl,aL (hQ _ UP (dZ ..))⟩)
theorem zS(hh:A.handled=none)(hit:s.heap.IsKeyIter it d i n ep)(Sa:s.heap.get? d=some od)(hdd:od.data=.dict es ep)(hsz:es.size=n)(hge:n<=i)(hQ:∀h',Heap.ExtBut it s.heap h'->Q none {s with heap:=h'}):bw (bM prog w) A (nM (.ref it)) Q E s:=by
 obtain⟨o,ho,hc,hd⟩:=id hit;unfold nM;refine ai (qa (iy (name:=qf "__next__") hit.typeIs fL
  (fg fL hit.typeIs HJ ?_ (GG _))))
 refine ai (aL ?_);refine ai ?_;refine ai ?_;first|refine ai (jS hit.typeIs (aL ?_))|refine ai (mS hit.typeIs (aL ?_))
 refine ai (tJ ho hd ?_);have Xl:ux "dict_keyiterator"=false:=by decide
 simp only[Xl,An,mR];show bw _ _ (if(dA d==g9)=true then _ else _) _ _ s;rw[ao (show¬((dA d==g9)=true)from af)];refine ai (aL ?_);refine ai (Gv Sa hdd ?_);rw[ao (by rw[hsz];simp)];refine ai (aL ?_);refine ai (wpAny_dictEpoch Sa hdd ?_);rw[ao (by simp)];refine aL ?_;have acu:es.size<=i:=by rw[hsz];exact hge
 simp only[show¬((i:Int)<0)from by omega,mR,aJ,ui acu];refine ai ?_;first|refine ai (jS hit.typeIs (aL ?_))|refine ai (mS hit.typeIs (aL ?_))
 show bw _ _ (tK (.ref it) 0 .none>>=_) _ _ s;refine ai (jO ho hd (by simp) ?_);show bw _ _ (newExc (.type "StopIteration") []>>=_) _ _ _;refine ai ?_;simp only[newExc,newTuple];refine ai (gE ?_ (by size_fits));refine ai (m:=oI _ _) (wpAny_of_eq (a:=g9) (by first|rfl|(simp only[oI];rfl)) ?_);refine gE ?_ (by size_fits);simp only[raiseNew];refine ai (wpAny_handled ?_);rw[show A.in1.handled=none from hh];refine ai (aL (wpAny_throw ?_));refine ai (wX (T:="StopIteration") (b:=true) ⟨_,bu _ rfl,rfl⟩ isSubtype_stop ?_);exact aL (hQ _ (((dZ ..).extBut.push _).push _))
end
theorem Nj{vs:ab (κ×aA)}(h:KV kvs vs):∀{i:Nat}{k:κ}{v:V},kvs[i]? =some (k,v)->∃u,vs[i]? =some (k,u)/\RelV v u:=by
 unfold KV at h;induction h with
 |nil=>intro i k v e;simp at e
 |@cons a b l₁ l₂ r t ih=>
  intro i k v e;cases i with
  |zero=>simp only[ub,iJ]at e;subst e;refine⟨b.2,?_,r.2⟩;simp only[ub];exact gh some (Prod.ext r.1.symm rfl)
  |succ j=>simp only[List.getElem?_cons_succ]at e⊢;exact ih e
theorem MX{l₁:ab α}{l₂:ab β}(h:Paired G l₁ l₂):∀{i:Nat}{a:α},l₁[i]? =some a->∃b,l₂[i]? =some b/\G a b:=by
 induction h with
 |nil=>intro i a e;simp at e
 |@cons a b l₁ l₂ r t ih=>
  intro i a' e;cases i with
  |zero=>simp only[ub,iJ]at e;subst e;exact⟨b,rfl,r⟩
  |succ j=>simp only[List.getElem?_cons_succ]at e⊢;exact ih e
theorem Ks(h:zY k u=true):RelV (kV k) u:=by
 rcases ig h with⟨i,t,rfl,rfl⟩|⟨x,t,rfl,rfl⟩;·exact⟨t,rfl⟩
 ·exact⟨t,rfl⟩
section
variable{X:Cx}{pins:ab (Addr×Obj)}{σ:St}{H:Hp}{s:aS}{d:Addr}{o:Obj}
theorem Inv.XM(I:Inv X pins σ H s)(h:H d=some (.qX o (.dK kvs))):(d==iF)=false/\s.heap.get? d=some o/\o.ExactDict/\∃(es:i5 DictEntry)(ep:Nat)(vs:ab (Key×aA)),o.data=.dict es ep/\es.size=kvs.length/\KV kvs vs/\s.heap.DictAt (fq X.prog X.w) d vs ep:=by obtain⟨hd,z,hs,vs,kv,o',es,ep,ho,hx,CN,r⟩:=I.gn d _ h;rw[hd]at ho;cases ho;refine⟨hs,hd,hx,es,ep,vs,CN,?_,kv,o,es,hd,hx,CN,r⟩;have l1:=r.2.1.length;have l2:kvs.length=vs.length:=iw kv;rw[bK]at l1;omega
theorem Inv.XJ(I:Inv X pins σ H s)(h:H d=some (.qX o (.dT kvs))):(d==iF)=false/\s.heap.get? d=some o/\o.ExactDict/\∃(es:i5 DictEntry)(ep:Nat),o.data=.dict es ep/\es.size=kvs.length/\∀(i:Nat)(k:ab Key)(v:V),kvs[i]? =some (k,v)->∃(en:DictEntry)(q:Addr),es[i]? =some en/\en.key=.ref q/\H q=some (.tup (k.map kV)):=by
 obtain⟨hd,z,hs,xs,pr,o',es,ep,ho,hx,CN,he,_⟩:=I.gn d _ h;rw[hd]at ho;cases ho;refine⟨hs,hd,hx,es,ep,CN,?_,fun i k v e=>?_⟩;·have l1:es.size=xs.length:=size_of_entries he;have l2:kvs.length=xs.length:=iw pr;omega
 ·obtain⟨b,hb,e1,e2,_⟩:=MX pr e;have q:=entry_at he i;rw[hb]at q;exact⟨_,b.2.1,q,rfl,e2⟩
end
def Itk(d:Addr)(o:Obj)(kvs:ab (Key×V)):It:=⟨fun i H=>H d=some (.qX o (.dK kvs))/\i<kvs.length,fun i H x H'=>H'=H/\∃k v,kvs[i]? =some (k,v)/\x=kV k,fun i H=>H d=some (.qX o (.dK kvs))/\kvs.length<=i⟩
def aa1(d:Addr)(o:Obj)(kvs:ab (ab Key×V)):It:=⟨fun i H=>H d=some (.qX o (.dT kvs))/\i<kvs.length,fun i H x H'=>H'=H/\∃(k:ab Key)(v:V)(q:Addr),kvs[i]? =some (k,v)/\x=.ref q/\H q=some (.tup (k.map kV)),fun i H=>H d=some (.qX o (.dT kvs))/\kvs.length<=i⟩
theorem Dl{o:Obj}(h:o.data=.dict es ep)(h':o.data=.dict Mc UZ):Mc=es/\UZ=ep:=by rw[h]at h';cases h';exact⟨rfl,rfl⟩
section
variable{P:bT}{w:cU}{K:ag}{tg:eV}{d:Addr}{o:Obj}{es:i5 DictEntry}{ep:Nat}
theorem Pt{kvs:ab (Key×V)}(it:Addr)(Sa:o.data=.dict es ep):Turn P w K tg (Itk d o kvs) [it] it (fun i h=>h.IsKeyIter it d i kvs.length ep)where
 mem:=by simp
 obj:=fun i h st b hb=>by
  have e:b=it:=by simpa using hb
  subst e
  obtain⟨oi,e,c,dd⟩:=st
  exact⟨oi,e,fun v z=>by rw[dd]at z;cases z⟩
 keep:=fun i h h' st k=>st.at fun oi e=>k it (by simp) oi e
 item:=by
  intro X hP hw hK hc i pins s σ H E I hf st hg
  subst hP hw hK
  obtain⟨hd,hi⟩:=hg
  obtain⟨f0,f1,f2,f3,f4,f5⟩:=hf it (by simp)
  obtain⟨hs,Q3,hx,Mc,UZ,vs,CN,hsz,kv,hm⟩:=I.XM hd
  obtain⟨rfl,rfl⟩:=Dl Sa CN
  obtain⟨⟨k,v⟩,hkv⟩:∃p,kvs[i]? =some p:=⟨kvs[i],aO hi⟩
  obtain⟨u,hu,ru⟩:=Nj kv hkv
  have hl:kvs.length=vs.length:=iw kv
  rw[hl]at st
  refine wpAny_pyNext_dict_item st hm hu fun key h' Ga Kc sb=>?_
  have I1:Inv X pins σ H {s with heap:=h'}:=I.turned (t':=s.toks) (fun b ob hb e=>(sb.2 b hb).trans e) f0 f1 f3 f4 f5
  obtain⟨oi,e,c,dd⟩:=id Kc
  refine⟨key,rfl,Hq (s:={s with heap:=h'}) e c dd (by decide) ⟨kV k,H,I1,Ks (show zY k key=true from Ga),⟨rfl,k,v,hkv,rfl⟩,?_,fun b hb=>(hf b hb).1⟩⟩
  show h'.IsKeyIter it d (i+1) kvs.length _
  rw[hl]
  exact Kc
 done:=by
  intro X hP hw hK hc i pins s σ H E I hf st hg
  subst hP hw hK
  obtain⟨hd,hi⟩:=hg
  obtain⟨f0,f1,f2,f3,f4,f5⟩:=hf it (by simp)
  obtain⟨hs,Q3,hx,Mc,UZ,vs,CN,hsz,kv,hm⟩:=I.XM hd
  obtain⟨rfl,rfl⟩:=Dl Sa CN
  exact zS (I.ok.hd hc) st Q3 CN hsz hi fun h' eb=>⟨rfl,I.turned (t':=s.toks) (fun b ob hb e=>eb b ob hb e) f0 f1 f3 f4 f5⟩
 self:=fun A i s Q E st h=>wpAny_pyIter_keyiter st h
theorem Mo{kvs:ab (ab Key×V)}(it:Addr)(Sa:o.data=.dict es ep):Turn P w K tg (aa1 d o kvs) [it] it (fun i h=>h.IsKeyIter it d i kvs.length ep)where
 mem:=by simp
 obj:=fun i h st b hb=>by
  have e:b=it:=by simpa using hb
  subst e
  obtain⟨oi,e,c,dd⟩:=st
  exact⟨oi,e,fun v z=>by rw[dd]at z;cases z⟩
 keep:=fun i h h' st k=>st.at fun oi e=>k it (by simp) oi e
 item:=by
  intro X hP hw hK hc i pins s σ H E I hf st hg
  subst hP hw hK
  obtain⟨hd,hi⟩:=hg
  obtain⟨f0,f1,f2,f3,f4,f5⟩:=hf it (by simp)
  obtain⟨hs,Q3,hx,Mc,UZ,CN,hsz,ent⟩:=I.XJ hd
  obtain⟨rfl,rfl⟩:=Dl Sa CN
  obtain⟨⟨k,v⟩,hkv⟩:∃p,kvs[i]? =some p:=⟨kvs[i],aO hi⟩
  obtain⟨en,q,hen,Ga,hq⟩:=ent i k v hkv
  refine FY st Q3 CN hsz hen fun h' Kc sb=>?_
  have I1:Inv X pins σ H {s with heap:=h'}:=I.turned (t':=s.toks) (fun b ob hb e=>(sb.2 b hb).trans e) f0 f1 f3 f4 f5
  obtain⟨oi,e,c,dd⟩:=id Kc
  exact⟨en.key,rfl,Hq (s:={s with heap:=h'}) e c dd (by decide) ⟨.ref q,H,I1,Ga,⟨rfl,k,v,q,hkv,rfl,hq⟩,Kc,fun b hb=>(hf b hb).1⟩⟩
 done:=by
  intro X hP hw hK hc i pins s σ H E I hf st hg
  subst hP hw hK
  obtain⟨hd,hi⟩:=hg
  obtain⟨f0,f1,f2,f3,f4,f5⟩:=hf it (by simp)
  obtain⟨hs,Q3,hx,Mc,UZ,CN,hsz,ent⟩:=I.XJ hd
  obtain⟨rfl,rfl⟩:=Dl Sa CN
  exact zS (I.ok.hd hc) st Q3 CN hsz hi fun h' eb=>⟨rfl,I.turned (t':=s.toks) (fun b ob hb e=>eb b ob hb e) f0 f1 f3 f4 f5⟩
 self:=fun A i s Q E st h=>by
  refine uo st.typeIs F.slot_dict_keyiterator_iter (fg F.slot_dict_keyiterator_iter st.typeIs F.entry_dict_keyiterator_iter ?_ (F.args_dict_keyiterator_iter_1 _))
  show bw _ _ (ret (.ref it)) _ _ s
  exact aL ⟨_,rfl,"dict_keyiterator",_,st.typeIs,fL.lookup,h⟩
end
def Z7(td:TE):TI:=fun σ H R=>td σ H fun x H1=>∃d o,x=.ref d/\((∃kvs,H1 d=some (.qX o (.dK kvs))/\R (Itk d o kvs) H1)\/∃kvs,H1 d=some (.qX o (.dT kvs))/\R (aa1 d o kvs) H1)
section
variable{X:Cx}{tg e:eV}{td:TE}{apos jM:Pos}
theorem Ui(he:PE X e td):PI X tg e (Z7 td):=by
 intro pins s σ H R I h;refine fZ (he pins s σ H _ I h) fun u s1⟨x,H1,I1,rx,d,o,ex,q⟩=>?_;subst ex;obtain rfl:u=dA d:=rx;rcases q with⟨kvs,hd,q⟩|⟨kvs,hd,q⟩;·obtain⟨hs,Q3,hx,es,ep,vs,CN,hsz,kv,hm⟩:=I1.XM hd;refine Hi hs Q3 hx CN (MS (tk:=s1.toks) I1 _ (Pt _ CN) ⟨_,bu _ rfl,rfl,?_⟩ q);rw[hsz]<;>rfl
 ·obtain⟨hs,Q3,hx,es,ep,CN,hsz,ent⟩:=I1.XJ hd;refine Hi hs Q3 hx CN (MS (tk:=s1.toks) I1 _ (Mo _ CN) ⟨_,bu _ rfl,rfl,?_⟩ q);rw[hsz]<;>rfl
end
def Ite(K:ag)(a:Addr):It:=⟨fun i H=>∃(xs:ab V)(x:V),cN K H a xs/\xs[i]? =some x,fun i H v H'=>∃T x,v=.ref T/\H T=none/\H'=upd H T (.tup [.int (i:Nat),x])/\∀xs,cN K H a xs->xs[i]? =some x,fun i H=>∃xs:ab V,cN K H a xs/\xs.length<=i⟩
theorem Pu{w:cU}{K:ag}(a e it:Addr):
  Turn P w K (.Tuple elts kk Px) (Ite K a) [e,it] e (fun i h=>(∃old,IsEnum h e it ((i:Nat):Int) old)/\h.IsListIter it a i/\e≠it)where
 mem:=by simp
 obj:=fun i h st b hb=>by
  obtain⟨⟨old,he⟩,⟨o,ho,hc,hd⟩,_⟩:=st;have e':b=e\/b=it:=by simpa using hb
  rcases e' with z|z;·rw[z];exact⟨_,he,fun v q=>nomatch q⟩
  ·rw[z];exact⟨o,ho,fun v q=>by rw[hd]at q;cases q⟩
 keep:=fun i h h' st k=>let⟨⟨old,he⟩,hi,oR⟩:=st;⟨⟨old,k e (by simp) _ he⟩,hi.at fun o q=>k it (by simp) o q,oR⟩
 item:=by
  intro X hP hw hK hc i pins s σ H E I hf st hg;subst hP hw hK;obtain⟨⟨old,he⟩,hit,oR⟩:=st;obtain⟨xs,x,hq,hx⟩:=hg;obtain⟨dk,rv,p,hz⟩:=I.list hq;obtain⟨u,hu,ru⟩:=rv.get hx;have hel:e<s.heap.objs.size:=bI he;have Si:it<s.heap.objs.size:=by obtain⟨_,q,_⟩:=hit;exact bI q
  refine wpAny_pyNext_enum_item he hit p.isList (x:=u) (by simpa using hu) oR fun h' ho UP hT hsz hk=>?_;refine⟨_,rfl,wpAny_letOwnedTupleGo_enum (s:={s with heap:=h',toks:=s.toks+1}) ho fun h'' he' sb=>?_⟩;have hT2:h''.get? s.heap.objs.size=some {cls:=.type "tuple",data:=.seq #[.int i s.toks,u]}:=(sb.2 _ (vM hel)).trans hT
  have new:iK X.prog X.w (upd H s.heap.objs.size (.tup [.int (i:Nat),x])) h'' s.heap.objs.size (.tup [.int (i:Nat),x]):=
   ⟨by show 2<=sizeLine;decide,[.int i s.toks,u],.cons ⟨_,rfl⟩ (.cons ru .nil),⟨_,hT2,rfl,_,rfl⟩⟩
  have I1:Inv X pins σ (upd H s.heap.objs.size (.tup [.int (i:Nat),x])) {s with heap:=h'',toks:=s.toks+1}:=
   I.Pq (ch:=[e,it]) (fun b ob hb q=>(sb.2 b (fun z=>hb (by simp[z]))).trans (hk b ob (fun z=>hb (by simp[z])) (fun z=>hb (by simp[z])) q)) hf (aD _) new
  refine⟨.ref s.heap.objs.size,_,I1,rfl,⟨_,x,rfl,I.gn.fresh (aD _),rfl,fun ys hy=>by rw[I.K3 hy hq];exact hx⟩,⟨⟨u,?_⟩,UP.at fun o q=>(sb.2 it (fY oR)).trans q,oR⟩,fun b hb=>?_⟩
  ·have e1:((i+1:Nat):Int)=(i:Int)+1:=by omega
   rw[e1];exact he'
  ·have Lg:b<s.heap.objs.size:=by
    have e':b=e\/b=it:=by simpa using hb
    rcases e' with z|z;·rw[z];exact hel
    ·rw[z];exact Si
   rw[aj (cG Lg)];exact(hf b hb).1
 done:=by intro X hP hw hK hc i pins s σ H E I hf st hg;subst hP hw hK;obtain⟨⟨old,he⟩,hit,oR⟩:=st;obtain⟨xs,hq,hx⟩:=hg;obtain⟨dk,rv,p,hz⟩:=I.list hq;obtain⟨f0,f1,f2,f3,f4,f5⟩:=hf it (by simp);have hl:=rv.length;exact wpAny_pyNext_enum_end (I.ok.hd hc) he hit p.isList (by simp;omega) fun h' eb=>⟨rfl,I.turned (t':=s.toks) (fun b o hb q=>eb b o hb q) f0 f1 f3 f4 f5⟩
 self:=fun A i s Q E st h=>let⟨⟨_,he⟩,_⟩:=st;wpAny_pyIter_enum he h
inductive EiE(K:ag)(R:It->Hp->Prop)(vs:ab V)(H1:Hp):Prop
 |mk (a:Addr) (xs:ab V) (h1:vs=[.ref a]) (h2:cN K H1 a xs) (k:R (Ite K a) H1)
def Z8(K:ag)(ta:TA):TI:=fun σ H R=>ta σ H (EiE K R)
theorem Uj(hg:Gl X "enumerate")(hm:X.mg "enumerate"=none)(ha:PA X [e] ta)(hs:b_ [e] X.env=[(false,eval e X.env)]:=by rfl):PI X (.Tuple elts kk Px) (.Call (.Name "enumerate" p) [e] [] pos) (Z8 X.K ta):=by
 intro pins s σ H R I h;refine Call_ (Bj I hg hm boot_enumerate (gV (fZ (ha pos pins s σ H _ I h) fun us s1 h_=>h_.el fun vs H1 I1 r1 q1=>?_) hs rfl));obtain⟨a,xs,ex,hq,q⟩:=q1;subst ex;cases r1 with
 |cons r rr=>
  cases rr;cases r;obtain⟨dk,rv,p',hz⟩:=I1.list hq;refine call_enumerate_list p'.isList fun h' he hit hsz hk=>wpAny_pyIter_enum he ?_;have I2:Inv X pins σ H1 {s1 with heap:=h'}:=I1.kept (t':=s1.toks) hk;refine⟨s1.heap.objs.size+1,[s1.heap.objs.size+1,s1.heap.objs.size],_,_,H1,rfl,I2,Pu a (s1.heap.objs.size+1) s1.heap.objs.size,⟨⟨.none,he⟩,hit,Nat.succ_ne_self _⟩,fun b hb=>?_,q⟩;have e':b=s1.heap.objs.size+1\/b=s1.heap.objs.size:=by simpa using hb
  have hle:s1.heap.objs.size<=b:=by
   rcases e' with z|z;·rw[z];exact Fs _ _
   ·rw[z];exact aD _
  exact I1.Qp hle (I1.gn.fresh hle)
end L2
section
namespace TL
open PySem PySem.Builtin PySem.Builtin.Str PySem.StrLaws
abbrev tl(x:Str):ab Nat:=x.cps.toList
def pre(S l:ab Nat):Bool:=l.take S.length==S
def par(S:ab Nat):ab Nat->ab Nat->aY (ab Nat×ab Nat)
 |_,[]=>none
 |acc,c::r=>if pre S (c::r)=true then some (acc,(c::r).drop S.length)else par S (acc++[c]) r
end TL
end
namespace L2
open PySem PySem.Spec PyProof.Rows
def inClass(s:Stmt)(j:Nat):Stmt:=match s with
 | .ClassDef _ _ _ body _ _ _ _ _ _ _=>body.getD j (.Pass ⟨0,0,0,0⟩)
 |_=>.Pass ⟨0,0,0,0⟩
def mD(s:Stmt):Arguments:=match s with
 | .FunctionDef _ a _ _ _ _ _ _ _ _=>a
 |_=>{posonlyargs:=[],args:=[],vararg:=none,kwonlyargs:=[],kw_defaults:=[],kwarg:=none,defaults:=[]}
def kR(s:Stmt):ab Stmt:=match s with
 | .FunctionDef _ _ b _ _ _ _ _ _ _=>b
 |_=>[]
def aU(s:Stmt):Scope:=match s with
 | .FunctionDef _ _ _ _ _ _ sc _ _ _=>sc
 |_=>{kind:=.function,names:=[],isGenerator:=false,isCoroutine:=false}
abbrev gZ:Ti:=fun _ _ _ _ _ _=>False
abbrev E0:XK:=fun _ _ _=>False
theorem Ky:Passes gZ X E0:=fun _ _ _ _ _ _ _ h=>h.elim
structure gY(K:ag)(x qual:Str)(st:Stmt)(f:Addr)(fd:tN):Prop where
 ex:∃(oc:aA)(od:aY Addr)(kV doc pm:aA)(an:aY Addr)(fR ct:aA)(WD:i5 (aY aA)),
  fd=fW x qual (mD st) (kR st) (aU st) .none kV doc pm an fR ct/\K.lookup f=some ⟨oc,od,.func fd,WD⟩/\j_ K fR qual=true
 kp:fi K (.ref f)=true
section
variable{P:bT}{w:cU}{K:ag}{mg:Str->aY aA}{base:Heap}
theorem gY.ok{x qual:Str}{st:Stmt}{f:Addr}{fd:tN}{N ps:ab Str}{k:Nat}{sp:Sp}(F:gY K x qual st f fd)(S:bx N ps (aU st))(len:∀vs H Q E,sp vs H Q E->vs.length=ps.length)(Sq:∀(fR:aA)(A:gR)(outer:ab Env)(s:aS)(H:Hp)(vs:ab V)(Q:VK)(E:XK),kO k (A.deeper (Fq qual (aU st) s.heap.objs.size f fR))->sp vs H Q E->∃t,QH (Qy gZ P w K mg base N qual (aU st) f fR A outer s H E).nox (kR st) t/\t {nx:=fun _ H'=>Q .iG H',rt:=Q} (start N vs) H):cZ P w K mg base gZ (k+1) f fd ps sp:=by obtain⟨oc,od,kV,doc,pm,an,fR,ct,WD,rfl,lk,UQ⟩:=F.ex;refine aaE lk UQ S len fun A outer s H vs Q E hr Tq=>?_;obtain⟨t,h,q⟩:=Sq fR A outer s H vs Q E hr Tq;exact⟨t,h.nox,q⟩
theorem gY.binds{st:Stmt}(F:gY K x qual st f fd)(h:∀(kV doc pm:aA)(an:aY Addr)(fR ct:aA)(us:ab aA),us.length=ps.length->bindArgs (fW x qual (mD st) (kR st) (aU st) .none kV doc pm an fR ct) ⟨us,[]⟩=pure (ps.zip us)):Binds K fd ps []:=by obtain⟨oc,od,kV,doc,pm,an,fR,ct,WD,rfl,lk,UQ⟩:=F.ex;exact .all (h kV doc pm an fR ct)
theorem yn{st:Stmt}{kV doc pm fR ct:aA}(l:K.lookup f=some ⟨oc,od,.func (fW x qual (mD st) (kR st) (aU st) .none kV doc pm an fR ct),WD⟩)(c:j_ K fR qual=true)(k:fi K (.ref f)=true):gY K x qual st f (fW x qual (mD st) (kR st) (aU st) .none kV doc pm an fR ct):=⟨⟨oc,od,kV,doc,pm,an,fR,ct,WD,rfl,l,c⟩,k⟩
end
theorem K_(hr:kO k A):A.units+1<cLine:=rn (Nat.add_le_add_left (by decide:1<=64) _) hr.units
section
variable{X:Cx}
theorem pv(i:Nat){pos:Pos}(hN:X.N[i]? =some x:=by rfl)(hv:Y9 X.env.scope x:=by first|exact bj rfl|exact Fy (bj rfl)|exact Fy (Fy rfl))(hd:(x==("__debug__":Str))=false:=by decide)(UQ:(x==("__classdict__":Str))=false:=by decide):PE X (.Name x pos) (J' i):=Wy hN hv hd UQ
end
theorem WZ{A B:Prop}(h:B):if false=true then A else B:=by rw[ao af];exact h
theorem z3{c A B:Prop}[Decidable c](h1:c->A)(h2:¬c->B):if c then A else B:=by
 by_cases h:c;·rw[aw h];exact h1 h
 ·rw[ao h];exact h2 h
def aQ(H H':Hp):Prop:=∀b o,H b=some o->H' b=some o
theorem aQ.trans(a:aQ H H1)(b:aQ H1 H2):aQ H H2:=fun c o h=>b c o (a c o h)
theorem aQ.free(e:aQ H H')(h:H' l=C3):H l=C3:=by
 cases q:H l with
 |none=>rfl
 |some o=>rw[e l o q]at h;cases h
theorem aQ.seq{K:ag}(e:aQ H H')(h:cN K H a xs):cN K H' a xs:=by
 rcases h with(h|⟨o,h⟩)|h;·exact .inl (.inl (e _ _ h))
 ·exact .inl (.inr ⟨o,e _ _ h⟩)
 ·exact .inr h
section
variable{κ:Type}[DecidableEq κ]
theorem zT:∀{l:ab κ}{k:κ},l.Nodup->¬k∈l->(l++[k]).Nodup
 |[],k,_,_=>by simp
 |a::r,k,h,hk=>by
  obtain⟨h1,h2⟩:=bQ.mp h;show(a::(r++[k])).Nodup;refine bQ.mpr ⟨fun m=>?_,zT h2 fun m=>hk (aF.mpr (Fy m))⟩;rcases a_.mp m with q|q;·exact h1 q
  ·exact hk (aF.mpr (bj (bU.mp q).symm))
theorem Qt{k:κ}(e:p.1=k):rU (p::r) k=rU r k:=by unfold rU;rw[eu,ao (by simp[e])]
theorem Qu{k:κ}(e:¬p.1=k):rU (p::r) k=p::rU r k:=by unfold rU;rw[eu,aw (by simp[e])]
end
theorem at_of{j:Nat}{v:V}(e:z=(j:Int))(h:xs[j]? =some v):Q6 xs z=some v:=by rw[e];exact cA h
theorem ZR{α:Type}{l:ab α}(hN:l.Nodup){i j:Nat}{x:α}(a:l[i]? =some x)(b:l[j]? =some x):i=j:=by obtain⟨h1,e1⟩:=aW.mp a;obtain⟨h2,e2⟩:=aW.mp b;exact(List.getElem_inj hN).mp (e1.trans e2.symm)
theorem aQ.made(nx:H x=C3)(nd:H dx=C3)(k:∀b o,(upd (upd H dx (.own x)) x (.ins C dx [])) b=some o->b≠x->H1 b=some o):aQ H H1:=fun b o e=>k b o (by rw[aj (aE e nx),aj (aE e nd)];exact e) (aE e nx)
end L2
namespace L2
open PySem PySem.Spec PyProof.Rows
section
variable{X:Cx}
def Jx(p:Addr)(i j c:Int):HO:=.ext fun h=>∃t u v,IsRange h p i j c t u v
theorem OC(e:IsRange h p i j c t u v):iK P w H h p (Jx p i j c):=⟨⟨t,u,v,e⟩,⟨_,e⟩,fun _ _⟨t,u,v,e1⟩ k=>⟨t,u,v,k _ e1⟩⟩
theorem Inv.Zy{σ:St}(I:Inv X pins σ H s)(e:H p=some (Jx p i j c)):∃t u v,IsRange s.heap p i j c t u v:=(I.gn p _ e).1
theorem Hv:oS X (.type "range") (fun vs H Q=>∃i j,vs=[.int i,.int j]/\∀p,H p=none->Q (.ref p) (upd H p (Jx p i j 1))):=by intro pins s σ H vs us Q I r h;obtain⟨i,j,rfl,q⟩:=h;obtain⟨t,u,rfl⟩:=Vals.abL r;refine call_range_2 ⟨.ref s.heap.objs.size,_,I.laid (fun b o e=>aK _ e) (aD _) (OC (Cf ..)),rfl,q _ (I.gn.fresh (aD _))⟩
theorem Qz:oS X (.type "range") (fun vs H Q=>∃i j c,vs=[.int i,.int j,.int c]/\c≠0/\c.natAbs<1073741824/\∀p,H p=none->Q (.ref p) (upd H p (Jx p i j c))):=by
 intro pins s σ H vs us Q I r h;obtain⟨i,j,c,rfl,c0,c1,q⟩:=h;cases r with
 |cons r rr=>
  cases rr with
  |cons r' rr=>
   cases rr with
   |cons Wu rr=>cases rr;obtain⟨t,rfl⟩:=r;obtain⟨t',rfl⟩:=r';obtain⟨t'',rfl⟩:=Wu;refine call_range_3 c0 ⟨.ref s.heap.objs.size,_,I.laid (t':=s.toks) (fun b o e=>aK _ e) (aD _) (OC (Cf ..)),rfl,q _ (I.gn.fresh (aD _))⟩ (.inl (tO c1))
def nP(i c:Int)(n:Nat):ab V:=(cP n).map fun(k:Nat)=>V.int (i+(k:Int)*c)
theorem Dz{P:Nat->aA->Prop}(hP:∀k v,P k v->RelV (f k) v):∀(n:Nat)(acc:ab aA),acc.length=n->(∀k v,acc[k]? =some v->P k v)->Vals ((cP n).map f) acc:=by
 intro n;induction n with
 |zero=>intro acc hl _;have:acc=[]:=ju.mp hl;subst this;exact .nil
 |succ n ih=>
  intro acc hl h;obtain⟨l,v,rfl⟩:∃l v,acc=l++[v]:=⟨acc.dropLast,acc.getLast (by intro e;subst e;simp at hl),(List.dropLast_concat_getLast _).symm⟩;have Qk:l.length=n:=by simp at hl;exact hl
  rw[lW,cz];refine(ih l Qk fun k v e=>h k v ?_).append (.cons (hP n v (h n v ?_)) .nil);·have hk:k<l.length:=(aW.mp e).1;rw[iY hk];exact e
  ·rw[iL (by omega),Qk,C4];rfl
theorem yq(hc:X.calm=true):oS X (.type "list") (fun vs H Q=>∃(p:Addr)(i j c:Int)(n:Nat),vs=[.ref p]/\H p=some (Jx p i j c)/\mY i j c=true/\cV i j c=n/\n<=1000000/\∀l,H l=none->Q (.ref l) (upd H l (.lst (nP i c n)))):=by
 intro pins s σ H vs us Q I r h;obtain⟨p,i,j,c,n,rfl,hp,hs,hn,hz,q⟩:=h;rw[Vals.IA r];obtain⟨t,u,v,hr⟩:=I.Zy hp;refine call_list_range (I.ok.hd hc) hr hs hn (bZ hz (by decide)) fun h' tk Jw c' hk hS Br=>?_;have hv:Vals (nP i c n) Jw.toList:=Dz (f:=fun(k:Nat)=>V.int (i+(k:Int)*c)) (P:=fun k v=>∃t,v=.int (i+(k:Int)*c) t) (fun k v e=>e) n Jw.toList (by rw[bK];exact Br.1) fun k v e=>Br.2 k v (by rw[<-gG];exact e);have hlen:(nP i c n).length<=sizeLine:=by unfold nP;rw[ae,fk,bS];omega
 exact⟨.ref s.heap.objs.size,_,I.laid (t':=tk) hk (aD _) (show iK X.prog X.w _ h' _ (.lst (nP i c n))from⟨hlen,Jw.toList,c',hv,by simpa using hS⟩),rfl,q _ (I.gn.fresh (aD _))⟩
theorem OU(h:(fq P w).is k v=true):RelV (kV k) v:=Ks (show zY k v=true from h)
theorem LD(hc:X.calm=true):oS X (.type "list") (fun vs H Q=>∃(a:Addr)(kvs:ab (Key×V)),vs=[.ref a]/\H a=some (.dK kvs)/\∀l,H l=none->Q (.ref l) (upd H l (.lst (kvs.map fun kv=>kV kv.1)))):=by
 intro pins s σ H vs us Q I r h;obtain⟨a,kvs,rfl,ha,q⟩:=h;rw[Vals.IA r];obtain⟨z,hd,vs,rel,dd⟩:=EZ I.gn ha;obtain⟨ep,XA⟩:=dd.dictAt;have hl:kvs.length=vs.length:=iw rel;refine PySem.W.kdl_call (PySem.W.kdl_dict (knd:=fq X.prog X.w) (kvs:=vs) (ep:=ep) hd) (I.ok.hd hc) XA (by rw[<-hl];exact z) fun h' tk Jw c' hk hS Br=>?_;have e1:(kvs.map fun kv=>kV kv.1)=(cP vs.length).map fun k=>((kvs[k]?).map fun kv=>kV kv.1).getD .iG:=by
  apply m8;intro k;rw[bp,bp];by_cases hk:k<kvs.length;·rw[aO hk,p9 (by omega)];simp[hk]
  ·rw[dI (by omega),dI (by rw[fk];omega)];rfl
 have hv:Vals (kvs.map fun kv=>kV kv.1) Jw.toList:=by
  rw[e1];refine Dz (P:=fun i v=>∃k x,vs[i]? =some (k,x)/\(fq X.prog X.w).is k v=true) (fun k v⟨ky,x,e,hy⟩=>?_) _ Jw.toList (by rw[bK];exact Br.1) fun k v e=>Br.2 k v (by rw[<-gG];exact e);have hk:k<kvs.length:=by rw[hl];exact(aW.mp e).1
  obtain⟨p,hp⟩:∃p,kvs[k]? =some p:=⟨_,aO hk⟩;obtain⟨kk,vv⟩:=p;obtain⟨u,hu,_⟩:=Nj rel hp;rw[e]at hu;cases hu;rw[hp];exact OU hy
 exact⟨.ref s.heap.objs.size,_,I.laid (t':=tk) hk (aD _) (show iK X.prog X.w _ h' _ (.lst (kvs.map fun kv=>kV kv.1))from⟨by rw[ae];exact z,Jw.toList,c',hv,by simpa using hS⟩),rfl,q _ (I.gn.fresh (aD _))⟩
theorem NH(hc:X.calm=true):oS X (.builtin "min") (fun vs H Q=>∃(a:Addr)(kvs:ab (Key×V))(ns:ab Int),vs=[.ref a]/\H a=some (.dK kvs)/\kvs.map (·.1)=ns.map dC/\0<ns.length/\∀m,m∈ns->(∀y,y∈ns->m<=y)->Q (.int m) H):=by
 intro pins s σ H vs us Q I r h;obtain⟨a,kvs,ns,rfl,ha,UN,oR,q⟩:=h;rw[Vals.IA r];obtain⟨z,hd,vs,rel,dd⟩:=EZ I.gn ha;obtain⟨ep,XA⟩:=dd.dictAt;have hl:kvs.length=vs.length:=iw rel;have Xq:kvs.length=ns.length:=by simpa using gh sg UN
 have Ga:∀(i:Nat)(v:aA),(∃k x,vs[i]? =some (k,x)/\(fq X.prog X.w).is k v=true)->∃t,v=.int (ns.getD i 0) t:=by
  rintro i v ⟨k,x,e,hk⟩;have hi:i<kvs.length:=by rw[hl];exact(aW.mp e).1
  obtain⟨p,hp⟩:∃p,kvs[i]? =some p:=⟨_,aO hi⟩;obtain⟨kk,vv⟩:=p;obtain⟨u,hu,_⟩:=Nj rel hp;rw[e]at hu;cases hu;have e2:(kvs.map (·.1))[i]? =some k:=by rw[bp,hp];rfl
  rw[UN,bp]at e2;have hi2:i<ns.length:=by omega
  rw[aO hi2]at e2;have e3:k=dC ns[i]:=(bE e2).symm;subst e3;obtain⟨t,et⟩:=OU hk;refine⟨t,?_⟩;rw[et,dF,aO hi2];rfl
 have jQ:a<s.heap.objs.size:=XA.lt_size;refine call_min_walk (wpAny_pyIter_dict hd XA ?_);refine⟨_,_,_,_,_,_,_,rfl,Walks.dictKeys (A:=X.A.in1) (knd:=fq X.prog X.w) (I.ok.hd hc) _ a (cG jQ) vs ep,⟨⟨_,bu _ rfl,rfl,rfl⟩,XA.push _⟩,fun b hb=>?_,by omega,CmpOf.ints_lt (fun i=>ns.getD i 0) Ga,fun v h' tk hP hk=>?_⟩
 ·show b<(s.heap.push _).objs.size;rw[c5];rcases aF.mp hb with e|hb;·rw[e];exact jE _
  ·have:b=a:=by simpa using hb
   rw[this];exact jb jQ
 ·obtain⟨t,rfl⟩:=Ga _ v hP;obtain⟨h1,h2⟩:=argBest_lt (fun i=>ns.getD i 0) (vs.length-1);refine⟨.int _,H,I.kept (fun b o eo=>hk b o (fun o4=>?_) (aK _ eo)),⟨t,rfl⟩,q _ (Gz (by omega)) fun y hy=>?_⟩
  ·rcases aF.mp o4 with e1|o4;·exact bF (e1▸bI eo) (gj _)
   ·cases o4
  ·obtain⟨j,hj,rfl⟩:=mem_getD hy;exact h2 j (by omega)
def Rk(td ty tx:TE):TE:=fun σ H Q=>td σ H fun x H1=>∃a,x=.ref a/\IsD H1 a/\ty σ H1 fun y H2=>tx σ H2 fun z H3=>∃kvs k,H3 a=some (.dK kvs)/\y=kV k/\kvs.length<sizeLine/\(∀v,nc kvs k=some v->Q v H3)/\(nc kvs k=none->Q z (upd H3 a (.dK (putK kvs k z))))
theorem MV(ho:PE X o td)(he:PE X e ty)(hf:PE X f tx)(m:M2 X o "setdefault" apos e f jM):PE X (.Call (.Attribute o "setdefault" apos) [e,f] [] jM) (Rk td ty tx):=by
 intro pins s σ H Q I h;refine wpAny_Call_method m.base m.Q5 m.line HI C1 PySem.F.type_dict_setdefault (fZ (ho pins s σ H _ I h) fun u s1⟨x,H1,I1,rx,a,ex,d,q1⟩=>?_);subst ex;obtain rfl:u=dA a:=rx;obtain⟨t1,t2,_⟩:=R6 I1 d;refine⟨t1,t2,?_⟩;rw[m.trees];refine ue rfl (xc (qg (fZ (he pins s1 σ H1 _ I1 q1) fun iv s2 h_=>h_.el fun y H2 I2 ry q2=>qg (fZ (hf pins s2 σ H2 _ I2 q2) fun fv s3⟨z,H3,I3,rz,kvs,k,ea,ey,hz,q3,q4⟩=>BL ?_))));subst ey;obtain⟨z0,hd,vs,rel,dd⟩:=EZ I3.gn ea;refine call_meetsIn C1 dd.typeIs PySem.F.entry_dict_setdefault (PySem.F.args_dict_setdefault_3 _ _ _) (kt_meets_setdefault (fq X.prog X.w) a (Ca ry) hd fv)
  ⟨vs,dd,by rw[<-iw rel];exact z0,fun v hv=>?_,fun hn h' Md hs=>?_⟩
 ·cases l:nc kvs k with
  |none=>have:=rY.none_of (o:=r9 vs k) (by rw[<-l];exact rel.val k);rw[this]at hv;cases hv
  |some v0=>obtain⟨w',hw,L9⟩:=rY.some_of (v:=v0) (o:=r9 vs k) (by rw[<-l];exact rel.val k);rw[hw]at hv;cases hv;exact⟨v0,H3,I3.tok _,L9,q3 v0 l⟩
 ·cases l:nc kvs k with
  |some v0=>obtain⟨w',hw,L9⟩:=rY.some_of (v:=v0) (o:=r9 vs k) (by rw[<-l];exact rel.val k);rw[hw]at hn;cases hn
  |none=>
   have hl:(putK kvs k z).length<=sizeLine:=by have:=qw kvs k z;omega
   have he:∃q,h'.get? a=some q:=let⟨q,_,_,hq,_⟩:=Md;⟨q,hq⟩;exact⟨z,_,wo I3 (by rw[ea];exact jK) hs he (E2 hl hd (rel.put k rz) Md),rz,q4 l⟩
def TY(r r' Wu:R2)(ta tb tc te:TE):TE:=fun σ H Q=>ta σ H fun x H1=>tb σ H1 fun y H2=>r x y H2 fun z H3=>∃k,z=.bl k/\(if k=true then tc σ H3 fun w' H4=>r' y w' H4 fun z2 H5=>∃k2,z2=.bl k2/\(if k2=true then te σ H5 fun w2 H6=>Wu w' w2 H6 Q else Q (.bl false) H5)else Q (.bl false) H3)
theorem Hd(ho:xo X (eF op) r)(Ma:xo X (eF VG) r')(ab9:xo X (eF ZL) Wu)(ha:PE X a ta)(hb:PE X b tb)(hc:PE X c tc)(hd:PE X d te)(hm:lastMarks [op,VG,ZL] [b,c,d]=false:=by with_unfolding_all rfl):PE X (.Compare a [op,VG,ZL] [b,c,d] pos) (TY r r' Wu ta tb tc te):=by
 intro pins s σ H Q I h;refine Compare_chain (fZ (ha pins s σ H _ I h) fun v s1 h_=>h_.el fun x H1 I1 r1 q1=>chain_link (fZ (hb pins s1 σ H1 _ I1 q1) fun u s2 h_=>h_.el fun y H2 I2 r2 q2=>fZ (ho pins s2 σ H2 x y v u _ I2 r1 r2 q2) fun d1 s3⟨z,H3,I3,r3,k,e,q3⟩=>?_)) hm;subst e;cases r3;refine d3 ?_;cases k with
 |false=>exact ite_ff ⟨.bl false,H3,I3,rfl,q3⟩
 |true=>
  refine ite_tt (chain_link (fZ (hc pins s3 σ H3 _ I3 q3) fun w1 s4 h_=>h_.el fun x4 H4 I4 r4 q4=>fZ (Ma pins s4 σ H4 y x4 u w1 _ I4 r2 r4 q4) fun d2 s5⟨z5,H5,I5,r5,k5,e5,q5⟩=>?_));subst e5;cases r5;refine d3 ?_;cases k5 with
  |false=>exact ite_ff ⟨.bl false,H5,I5,rfl,q5⟩
  |true=>exact ite_tt (chain_last (fZ (hd pins s5 σ H5 _ I5 q5) fun w2 s6 h_=>h_.el fun x6 H6 I6 r6 q6=>ab9 pins s6 σ H6 x4 x6 w1 w2 Q I6 r4 r6 q6))
end
end L2
namespace L2
open PySem PySem.Spec PyProof.Rows
section
variable{P:bT}{w:cU}{K:ag}{mg:Str->aY aA}{base:Heap}
structure bP(P:bT)(w:cU)(K:ag)(mg:Str->aY aA)(base:Heap)(x:Str)(k:Nat)(ps:ab Str)(sp:Sp):Prop where
 ex:∃f fd,cZ P w K mg base gZ k f fd ps sp/\Binds K fd ps []/\mg x=some (.ref f)/\fi K (.ref f)=true
structure bq(P:bT)(w:cU)(K:ag)(mg:Str->aY aA)(base:Heap)(C:Addr)(m:Str)(k:Nat)(ps:ab Str)(sp:Sp):Prop where
 ex:∃f fd,cZ P w K mg base gZ k f fd ps sp/\Binds K fd ps []/\Meth K C m f/\JS K C
structure jN(P:bT)(w:cU)(K:ag)(mg:Str->aY aA)(base:Heap)(C:Addr)(x:Str)(k:Nat)(ps:ab Str)(sp:Sp):Prop where
 ex:∃f fd,cZ P w K mg base gZ k f fd ps sp/\Binds K fd ps []/\Mk K C f/\mg x=some (.ref C)
end
section
variable{X:Cx}{k:Nat}{C:Addr}{ps:ab Str}{sp:Sp}{x m:Str}{p pos apos:Pos}{e o:eV}{es:ab eV}{ta:TE}{t:TA}
theorem cK(D:bP X.prog X.w X.K X.mg X.base x k ps sp)(hr:kO k X.A)(ha:PA X (e::es) t)(hg:Gl X x:=by rfl)(Nv:(x==("__debug__":Str))=false:=by decide)(he:b_ (e::es) X.env=(false,eval e X.env)::b_ es X.env:=by rfl)(pP:(ic pos (b_ es X.env)).any (·.1)=false:=by rfl):PE X (.Call (.Name x p) (e::es) [] pos) (Vu sp [] E0 t):=by obtain⟨f,fd,F,b,hm,kp⟩:=D.ex;exact Up F hr hg hm kp b .nil Ky ha Nv he pP
theorem bR{pl:Sem Bool}(he:PE X o ta)(D:bq X.prog X.w X.K X.mg X.base C m k ps sp)(hr:kO k X.A)(ha:PA X (e::es) t)
  (UG:b_ (e::es) X.env=(false,eval e X.env)::b_ es X.env:=by rfl)(pP:(ic pos (b_ es X.env)).any (·.1)=false:=by rfl)
  (ht:eval (.Call (.Attribute o m apos) (e::es) [] pos) X.env=(do
   let ov<-eval o X.env
   Ce apos.atName
   let(f,first)<-qb [ov] (w_ ov m pl)
   GD pos f first (ic pos (b_ (e::es) X.env)) (oJ pos (jn [] X.env))):=by rfl):
  PE X (.Call (.Attribute o m apos) (e::es) [] pos) (J_ C m sp [] E0 ta t):=by
 obtain⟨f,fd,F,b,hm,c⟩:=D.ex
 exact Uk he c hm F hr b .nil Ky ha UG pP ht
theorem jh{pl:Sem Bool}(he:PE X o ta)(D:bq X.prog X.w X.K X.mg X.base C m k ps sp)(hr:kO k X.A)
  (ht:eval (.Call (.Attribute o m apos) [] [] pos) X.env=(do
   let ov<-eval o X.env
   Ce apos.atName
   let(f,first)<-qb [ov] (w_ ov m pl)
   GD pos f first (ic pos (b_ [] X.env)) (oJ pos (jn [] X.env))):=by rfl):
  PE X (.Call (.Attribute o m apos) [] [] pos) (J_ C m sp [] E0 ta PH):=by
 obtain⟨f,fd,F,b,hm,c⟩:=D.ex
 exact RM he c hm F hr b .nil Ky ht
theorem vc(D:jN X.prog X.w X.K X.mg X.base C x k ps sp)(hr:kO (k+1) X.A)(ha:PA X (e::es) t)(hg:Gl X x:=by rfl)(Nv:(x==("__debug__":Str))=false:=by decide)(he:b_ (e::es) X.env=(false,eval e X.env)::b_ es X.env:=by rfl)(pP:(ic pos (b_ es X.env)).any (·.1)=false:=by rfl):PE X (.Call (.Name x p) (e::es) [] pos) (Oi C sp [] E0 t):=by obtain⟨f,fd,F,b,M,hm⟩:=D.ex;exact Ul M F hr hg hm b .nil Ky ha Nv he pP
theorem Hc(D:jN X.prog X.w X.K X.mg X.base C x k ps sp)(hr:kO (k+1) X.A)(hg:Gl X x:=by rfl)(Nv:(x==("__debug__":Str))=false:=by decide):PE X (.Call (.Name x p) [] [] pos) (Oi C sp [] E0 PH):=by obtain⟨f,fd,F,b,M,hm⟩:=D.ex;exact RN M F hr hg hm b .nil Ky Nv
theorem cb(h:∃t,X.mg x=some (.int i t))(hg:Gl X x:=by rfl)(hd:(x==("__debug__":Str))=false:=by decide):PE X (.Name x pos) (tC (.int i)):=by obtain⟨t,h⟩:=h;exact IH hg h ⟨t,rfl⟩ hd
end
theorem jC:fN "len"=some (.builtin "len"):=by decide +kernel
theorem SU:fN "min"=some (.builtin "min"):=by decide +kernel
theorem X9:fN "any"=some (.builtin "any"):=by decide +kernel
theorem Jq:fN "all"=some (.builtin "all"):=by decide +kernel
theorem SS:fN "sum"=some (.builtin "sum"):=by decide +kernel
theorem QD:fN "sorted"=some (.builtin "sorted"):=by decide +kernel
theorem E6:fN "range"=some (.type "range"):=by decide +kernel
theorem mF:fN "list"=some (.type "list"):=by decide +kernel
theorem X8:fN "set"=some (.type "set"):=by decide +kernel
structure Blt(mg:Str->aY aA):Prop where
 len:mg "len"=none
 min:mg "min"=none
 any:mg "any"=none
 all:mg "all"=none
 sum:mg "sum"=none
 sorted:mg "sorted"=none
 range:mg "range"=none
 list:mg "list"=none
 set:mg "set"=none
 enumerate:mg "enumerate"=none
end L2
namespace L2
open PySem PySem.Spec PyProof.Rows
section
variable{X:Cx}{o e:eV}{es:ab eV}{to:TE}{t:TA}{apos jM:Pos}
theorem pK(ho:PE X o to)(ha:PA X (e::es) t)(Lf:kr o "append" X.env (eval o X.env)=eval o X.env:=by rfl)(Sm:((ic jM (b_ (e::es) X.env)).all (fun x=>!x.1)&&(oJ jM (jn [] X.env)).all (fun x=>x.1.isSome) &&decide ((e::es).length+([]:ab uw).length+(if([]:ab uw).isEmpty then 0 else 1)<30))=true:=by rfl)(Lc:(apos.endLine==jM.line)=true:=by rfl)(hs:b_ (e::es) X.env=(false,eval e X.env)::b_ es X.env:=by rfl)(EH:(ic jM (b_ es X.env)).any (·.1)=false:=by rfl):PE X (.Call (.Attribute o "append" apos) (e::es) [] jM) (tBM X.K "list" OE to t):=VF HH PySem.F.slot_list_append PySem.F.type_list_append P6 ho ha Lf Sm Lc hs EH
theorem AZ(ho:PE X o to)(ha:PA X (e::es) t)(Lf:kr o "extend" X.env (eval o X.env)=eval o X.env:=by rfl)(Sm:((ic jM (b_ (e::es) X.env)).all (fun x=>!x.1)&&(oJ jM (jn [] X.env)).all (fun x=>x.1.isSome) &&decide ((e::es).length+([]:ab uw).length+(if([]:ab uw).isEmpty then 0 else 1)<30))=true:=by rfl)(Lc:(apos.endLine==jM.line)=true:=by rfl)(hs:b_ (e::es) X.env=(false,eval e X.env)::b_ es X.env:=by rfl)(EH:(ic jM (b_ es X.env)).any (·.1)=false:=by rfl):PE X (.Call (.Attribute o "extend" apos) (e::es) [] jM) (tBM X.K "list" ID to t):=VF HH PySem.F.slot_list_extend PySem.F.type_list_extend P5 ho ha Lf Sm Lc hs EH
end
def BV{α:Type}(xs:ab α)(p n m:Nat):ab α:=((cP m).map fun k=>p+n*k).filterMap (xs[·]?)
theorem Vals.pick{xs:ab V}{us:ab aA}(r:Vals xs us):∀(l:ab Nat),Vals (l.filterMap (xs[·]?)) (l.filterMap (us[·]?))
 |[]=>.nil
 |i::l=>by
  have ih:=Vals.pick r l;rw[gm,gm];cases e:xs[i]? with
  |none=>have hl:=r.length;have h1:xs.length<=i:=List.getElem?_eq_none_iff.mp e;have:us[i]? =none:=List.getElem?_eq_none_iff.mpr (by omega);rw[this];exact ih
  |some x=>obtain⟨u,hu,hr⟩:=r.get e;rw[hu];exact .cons hr ih
theorem PV{p n m:Nat}(hn:0<n)(hp:p<n)(hl:dk.length=n*m):slicePick dk.toArray (some (p:Int)) none (some (n:Int))=(BV dk p n m).toArray:=by
 unfold slicePick BV;by_cases h0:m=0;·subst h0;have:dk=[]:=ju.mp (by rw[hl,Nat.mul_zero]);subst this;simp[jT,sliceRange]
 ·have hm:n<=n*m:=Nat.le_mul_of_pos_right _ (by omega);have b:jT (some (p:Int)) none (some (n:Int)) dk.toArray.size=((p:Int),((n*m:Nat):Int),(n:Int)):=by rw[bz,hl];simp only[jT,Cg];rw[aw (by omega:(n:Int)>0),aw (by omega:(n:Int)>0),ao (by omega:¬(p:Int)<0)];simp only[nS,and_true];omega
  rw[b];have c:sliceRange (p:Int) ((n*m:Nat):Int) (n:Int)=(cP m).map fun k=>p+n*k:=by
   unfold sliceRange;simp only;rw[aw (by omega),aw (by omega)];have e1:(((n*m:Nat):Int)-p+n-1)/(n:Int)=(m:Int):=by
    have:(((n*m:Nat):Int)-p+n-1)=((n-1-p:Nat):Int)+(m:Int)*(n:Int):=by rw[wF,Int.mul_comm];omega
    rw[this,Int.add_mul_ediv_right _ _ (by omega),Int.ediv_eq_zero_of_lt (by omega) (by omega),qh]
   rw[e1,aJ];apply eC;intro k _;omega
  rw[c];simp only[List.getElem?_toArray]
theorem Rp{α:Type}(xs:ab α)(p n m:Nat):(BV xs p n m).length<=m:=by unfold BV;exact bZ (List.length_filterMap_le _ _) (by simp)
section
variable{X:Cx}{e l st:eV}{te tl ts:TE}{pos p2:Pos}
def Zh(K:ag)(te tl ts:TE):TE:=fun σ H Q=>te σ H fun x H1=>tl σ H1 fun i H2=>ts σ H2 fun z H3=>∃(a:Addr)(xs:ab V)(p n m:Nat),x=.ref a/\i=.int (p:Int)/\z=.int (n:Int)/\cN K H3 a xs/\0<n/\p<n/\xs.length=n*m/\∀q,H3 q=none->Q (.ref q) (upd H3 q (.lst (BV xs p n m)))
theorem PY(he:PE X e te)(hl:PE X l tl)(hs:PE X st ts):PE X (.Subscript e (.Slice (some l) none (some st) p2) pos) (Zh X.K te tl ts):=by intro pins s σ H Q I h;refine Subscript_ (fZ (he pins s σ H _ I h) fun v s1 h_=>h_.el fun x H1 I1 r1 q1=>?_);refine wpAny_Slice ?_;rw[evalPart_some,evalPart_none,evalPart_some];refine fZ (hl pins s1 σ H1 _ I1 q1) fun vl s2 h_=>h_.el fun y H2 I2 r2 q2=>?_;refine aL (fZ (hs pins s2 σ H2 _ I2 q2) fun vs s3 h_=>h_.el fun z H3 I3 r3 q3=>?_);obtain⟨a,xs,p,n,m,rfl,rfl,rfl,hx,hn,hp,hlen,q⟩:=q3;cases r1;obtain⟨t2,rfl⟩:=r2;obtain⟨t3,rfl⟩:=r3;have I4:Inv X pins σ H3 {s3 with heap:=s3.heap.push {cls:=.type "slice",data:=.fields #[.int (p:Int) t2,.none,.int (n:Int) t3]}}:=I3.kept (t':=s3.toks) fun b ob q=>aK _ q;obtain⟨dk,r,ht,hz⟩:=I4.list hx;have Xq:=r.length;refine tail_any (ops:=[.ref a,.ref s3.heap.objs.size]) ht.isList.typeIs Gw.lookup ?_ (by with_unfolding_all rfl);refine wpAny_getItem_list_slice (lo:=some (p:Int)) (hi:=none) (st:=some (n:Int)) ht.isList ⟨_,bu _ rfl,rfl,rfl⟩ (.int _ _) .none (.int _ _) (by simp;omega) ?_ (by rw[bz]<;>omega);rw[PV (m:=m) hn hp (by rw[<-Xq];exact hlen)];refine⟨.ref _,_,I4.laid (t':=s3.toks) (o:=.lst (BV xs p n m)) (fun b ob q=>aK _ q) (aD _) ?_,rfl,q _ (I4.gn.fresh (aD _))⟩;refine⟨?_,_,0,r.pick _,bu _ rfl⟩;have h1:=Rp xs p n m;have h2:m<=n*m:=Nat.le_mul_of_pos_left _ hn;omega
end
section
variable{X:Cx}
inductive aa'(K:ag)(o i:V)(H:Hp)(Q:VK):Prop
 |mk (p:Addr) (xs:ab V) (k:Nat) (v:V) (h1:o=.ref p) (h2:i=.int (k:Int)) (h3:cN K H p xs) (h4:xs[k]? =some v) (q:Q v H)
def ZE(K:ag):V->V->Hp->VK->Prop:=aa' K
theorem Sv:aaZ X (ZE X.K):=by intro pins s σ H o i ov iv Q I ro ri h;obtain⟨p,xs,k,v,rfl,rfl,hx,hv,q⟩:=h;cases ro;obtain⟨t,rfl⟩:=ri;obtain⟨dk,r,ht,hz⟩:=I.list hx;obtain⟨u,hu,hr⟩:=r.get hv;have hl:=r.length;have hk:k<xs.length:=(aW.mp hv).1;have hn:=Bi;exact wpAny_getItem_list ht.isList (by omega) (by omega) (by simpa using hu) ⟨v,H,I,hr,q⟩
theorem PS.or{st:Stmt}(h:PS X st t)(h':PS X st u):PS X st (fun D σ H=>t D σ H\/u D σ H):=by
 intro pins s σ H D I q;rcases q with q|q;·exact h pins s σ H D I q
 ·exact h' pins s σ H D I q
end
section
variable{X:Cx}{e a l st:eV}{ta te tl ts:TE}{f:Str}{pos p2:Pos}
theorem De(K:ag)(he:PE X e ta)(hb:kr e f X.env (eval e X.env)=eval e X.env)(hK:X.K=K:=by rfl):PE X (.Attribute e f pos) (Wg K ta f):=by subst hK;exact aZ he hb
theorem ED(K:ag)(hK:X.K=K:=by rfl):IxR X (Uc K):=by subst hK;exact bA
theorem WE(K:ag)(hK:X.K=K:=by rfl):xo X (eF .In) (rIn K false):=by subst hK;exact nB
theorem He(K:ag)(hK:X.K=K:=by rfl):xo X (eF .NotIn) (rIn K true):=by subst hK;exact IJ
theorem U6(K:ag)(hc:X.calm=true)(hK:X.K=K:=by rfl):oS X (.builtin "sum") (ZC K):=by subst hK;exact SN hc
theorem MU(K:ag)(he:PE X e te)(hl:PE X l tl)(hs:PE X st ts)(hK:X.K=K:=by rfl):PE X (.Subscript e (.Slice (some l) none (some st) p2) pos) (Zh K te tl ts):=by subst hK;exact PY he hl hs
def abh(K:ag)(ta:TE):TT:=fun σ H Q=>ta σ H (aa6 K Q)
theorem vU(K:ag)(ha:PE X a ta)(he:∀whole,isTrue a X.env whole=(do let v<-whole;Ce a.pos;qb [v] (truthy v)))(hK:X.K=K:=by rfl):PT X a (abh K ta):=by subst hK;exact dQ ha he
end
end L2
namespace L2
open PySem PySem.Spec PyProof.Rows
def Vh(P:bT)(w:cU)(p:Addr)(xs:ab Int):HO:=.ext fun h=>kP.nI P w h p (kP.kL w) xs
theorem T6(e:kP.nI P w h p (kP.kL w) xs):iK P w H h p (Vh P w p xs):=⟨e,(let⟨o,_,_,_,ho,_⟩:=e;⟨o,ho⟩),fun _ _ e1 k=>e1.at' k⟩
theorem vx(val:Nat->Int):∀i,(BM val i).Nodup
 |0=>by rw[firstMet_zero];simp
 |i+1=>by
  rw[firstMet_succ];unfold step_dedup;split;·exact vx val i
  ·rename_i h;refine zT (vx val i) fun q=>h ?_;simp;exact q
theorem Qq(ns:ab Int)(k:Int):k∈BM (fun i=>ns.getD i 0) ns.length↔k∈ns:=by
 have h:=firstMet_any (fun i=>ns.getD i 0) ns.length k;have e:(cP ns.length).map (fun i=>ns.getD i 0)=ns:=by
  apply m8;intro i;rw[bp];by_cases hi:i<ns.length;·rw[p9 hi];simp[hi]
  ·rw[dI (by rw[fk];omega),dI (by omega)];rfl
 rw[e]at h;rw[dh]at h;simpa using h
section
variable{X:Cx}
theorem U7(hc:X.calm=true):oS X (.type "set") (fun vs H Q=>∃(a:Addr)(ns:ab Int),vs=[.ref a]/\cN X.K H a (ns.map V.int)/\ns.length+1<4096/\∀p xs,H p=none->xs.Nodup->(∀k,k∈xs↔k∈ns)->Q (.ref p) (upd H p (Vh X.prog X.w p xs))):=by
 intro pins s σ H vs us Q I r h;obtain⟨a,ns,rfl,ha,hn,q⟩:=h;rw[Vals.IA r];obtain⟨dk,rv,ht,hz⟩:=I.list ha;have hi:i9 dk ns:=Vals.ints rv;have hl:dk.length=ns.length:=by rw[<-rv.length,ae]
 refine kP.Km (ns:=ns) (I.ok.hd hc) ht.isList (by simpa using hi) (by rw[bz,hl];exact hn) fun h' tk x hk=>?_;have e:dk.toArray.size=ns.length:=by rw[bz];exact hl
 rw[e]at x;exact⟨.ref s.heap.objs.size,_,I.laid (t':=tk) hk (aD _) (T6 x),rfl,q _ _ (I.gn.fresh (aD _)) (vx _ _) (Qq ns)⟩
theorem Inv.drawn{σ:St}(I:Inv X pins σ H s)(d:Drawn):Inv X pins σ H {s with drawn:=d}:=⟨I.ok,I.os,I.bare,I.base,I.loc,I.cell,I.free,I.qz,I.pin,I.gn,I.len⟩
theorem Jn(hc:X.calm=true):oS X (.builtin "sorted") (fun vs H Q=>∃(a:Addr)(xs:ab Int),vs=[.ref a]/\H a=some (Vh X.prog X.w a xs)/\xs.length<64/\∀(ns:ab Int)(p:Addr),ns.Perm xs->ns.Pairwise (·<=·)->H p=none->Q (.ref p) (upd H p (.lst (ns.map V.int)))):=by
 intro pins s σ H vs us Q I r h;obtain⟨a,xs,rfl,ha,hx,q⟩:=h;rw[Vals.IA r];have x:kP.nI X.prog X.w s.heap a (kP.kL X.w) xs:=(I.gn a _ ha).1;refine kP.ME (I.ok.hd hc) x hx fun h' d tk r c out ns hI hp hw hk hs hr=>?_;have hlen:(ns.map V.int).length<=sizeLine:=by rw[ae,hp.length_eq,bS];omega
 have J:=I.laid (t':=tk) (o:=.lst (ns.map V.int)) hk hs ⟨hlen,out.toList,c,yZ hI,by simpa using hr⟩;exact⟨.ref r,_,J.drawn d,rfl,q ns r hp hw (I.gn.fresh hs)⟩
end
end L2
namespace Nw
open PySem PySem.Spec PyProof.Rows L2
abbrev Gd:=kX
def top(i:Nat):Stmt:=PySem.Challenge.pw_netways_s01_answers.main.body.getD i (.Pass ⟨0,0,0,0⟩)
abbrev vi(n:Nat):V:=V.int (n:Int)
abbrev d8(l:ab Nat):ab V:=l.map fun(n:Nat)=>V.int (n:Int)
structure Cs where
 d5:Addr
 ground:Addr
 bO:Addr
 tree:Addr
 wave:Addr
structure Txt(K:ag)(mg:Str->aY aA)(c:Cs):Prop where
 b:Blt mg
 gC:JS K c.d5
 iO:fF K c.d5 "columns"
 EU:fF K c.d5 "rows"
 rT:fF K c.d5 "layers"
 oB:fF K c.d5 "area"
 pR:fF K c.d5 "size"
 NA:fF K c.d5 "near"
 rC:JS K c.ground
 Ec:fF K c.ground "grid"
 IC:fF K c.ground "enter"
 bC:JS K c.bO
 fS:fF K c.bO "grid"
 SY:fF K c.bO "via"
 Ju:fF K c.bO "wrong"
 BD:fF K c.bO "penalty"
 tE:fF K c.bO "directions"
 wz:fF K c.bO "blocked"
 nH:fF K c.bO "pins"
 pU:fF K c.bO "ways"
 yy:fF K c.bO "rips"
 j7:fF K c.bO "pin_nets"
 j6:fF K c.bO "takers"
 tC:JS K c.tree
 xu:fF K c.tree "ways"
 HY:fF K c.tree "cost"
 wC:JS K c.wave
 uB:fF K c.wave "ground"
 oV:fF K c.wave "costs"
 rB:fF K c.wave "fronts"
 nE:∃t,mg "TO_LAYER"=some (.int 0 t)
 v3:∃t,mg "ALONG_X"=some (.int 1 t)
 vZ:∃t,mg "ALONG_Y"=some (.int 2 t)
 R0:∃t,mg "FAR"=some (.int 1000000000000000000 t)
 Bf:∃t,mg "NETS"=some (.int 32 t)
 M_:∃t,mg "BAD_SIZE"=some (.int (-1) t)
 Na:∃t,mg "BAD_COST"=some (.int (-2) t)
 j0:∃t,mg "BAD_LAYER"=some (.int (-3) t)
 CM:∃t,mg "BAD_DIRECTION"=some (.int (-4) t)
 o7:∃t,mg "BAD_NET"=some (.int (-5) t)
 sX:∃t,mg "BAD_SPOT"=some (.int (-6) t)
 Bg:∃t,mg "IS_LAID"=some (.int (-7) t)
 M9:∃t,mg "NOT_LAID"=some (.int (-8) t)
 P4:∃t,mg "NO_PINS"=some (.int (-9) t)
 KQ:∃t,mg "PINS_FULL"=some (.int (-10) t)
 tT:∃t,mg "NOT_TO_BE_HAD"=some (.int (-11) t)
 I_:∃t,mg "BAD_BUDGET"=some (.int (-12) t)
 FZ:∃t,mg "NO_SUCH_WAY"=some (.int (-13) t)
 vY:∃t,mg "NO_TREE"=some (.int (-14) t)
 KS:∃t,mg "MOST_PINS"=some (.int 16 t)
 I0:∃t,mg "MOST_TRIES"=some (.int 1000 t)
 Eu:∃t,mg "MOST_COLUMNS"=some (.int 24 t)
 KR:∃t,mg "MOST_ROWS"=some (.int 24 t)
 F4:∃t,mg "MOST_LAYERS"=some (.int 4 t)
 KU:∃t,mg "MOST_COST"=some (.int 1000 t)
 OP:∃t,mg "ORDER"=some (.int 10 t)
theorem aQ.new(h:H a=none):aQ H (upd H a o):=fun b x e=>by rw[aj (aE e h)];exact e
theorem aQ.put(s:aQ H H')(h:H a=none):aQ H (upd H' a o):=fun b x e=>by rw[aj (aE e h)];exact s b x e
theorem qx[Decidable c]{T:TS}(R:L2.St->Hp->Prop)(hT:c->(∀σ' H',R σ' H'->D.nx σ' H')->T D σ H)(hF:¬c->R σ H)(hR:∀σ' H',R σ' H'->D.nx σ' H'):if c then T D σ H else Rj D σ H:=by
 by_cases h:c;·rw[aw h];exact hT h hR
 ·rw[ao h];exact hR _ _ (hF h)
structure GB(g:Gd):Prop where
 ok:tX g
 w:g.w<=24
 h:g.h<=24
 l:g.l<=4
theorem GB.pV(G:GB g):0<g.w*g.h:=Fz G.ok.w G.ok.h
theorem GB.qD(G:GB g):g.w*g.h<=576:=rj G.w G.h
theorem GB.size_le(G:GB g):g.size<=2304:=rj G.qD G.l
theorem GB.HD(G:GB g):g.w*g.h<=g.size:=by unfold iZ;exact Nat.le_mul_of_pos_right _ G.ok.l
def iS(H:Hp)(l:Addr)(ps:ab (Nat×Nat)):Prop:=∃ts:ab Addr,H l=some (.lst (ts.map V.ref))/\ts.length=ps.length/\∀(i:Nat)(p:Nat×Nat)(t:Addr),ps[i]? =some p->ts[i]? =some t->H t=some (.tup [vi p.1,vi p.2])
theorem iS.same(h:iS H l ps)(s:aQ H H'):iS H' l ps:=by obtain⟨ts,h1,h2,h3⟩:=h;exact⟨ts,s _ _ h1,h2,fun i p t a b=>s _ _ (h3 i p t a b)⟩
def Jy(H:Hp)(nr:Addr)(g:Gd):Prop:=∃ns:ab Addr,H nr=some (.lst (ns.map V.ref))/\ns.length=g.size/\∀(v:Nat)(l:Addr),ns[v]? =some l->iS H l (mw g v)
theorem Jy.same(h:Jy H l g)(s:aQ H H'):Jy H' l g:=by obtain⟨ts,h1,h2,h3⟩:=h;exact⟨ts,s _ _ h1,h2,fun i p a=>(h3 i p a).same s⟩
def mC(g:Gd):ab (Str×V):=[("columns",vi g.w),("rows",vi g.h),("layers",vi g.l),("area",vi (g.w*g.h)),("size",vi g.size)]
def iN(g:Gd)(nr:Addr):ab (Str×V):=[("columns",vi g.w),("rows",vi g.h),("layers",vi g.l),("area",vi (g.w*g.h)),("size",vi g.size),("near",.ref nr)]
section
variable{g:Gd}{nr:Addr}
theorem pS:(mC g).lookup ("columns":Str)=some (vi g.w):=by kernel_rfl
theorem O7:(mC g).lookup ("rows":Str)=some (vi g.h):=by kernel_rfl
theorem Dj:(mC g).lookup ("area":Str)=some (vi (g.w*g.h)):=by kernel_rfl
theorem O6:(mC g).lookup ("size":Str)=some (vi g.size):=by kernel_rfl
theorem Gb:(mC g).lookup ("near_cells":Str)=none:=by kernel_rfl
theorem nG:(iN g nr).lookup ("columns":Str)=some (vi g.w):=by kernel_rfl
theorem O3:(iN g nr).lookup ("rows":Str)=some (vi g.h):=by kernel_rfl
theorem rS:(iN g nr).lookup ("layers":Str)=some (vi g.l):=by kernel_rfl
theorem tm:(iN g nr).lookup ("area":Str)=some (vi (g.w*g.h)):=by kernel_rfl
theorem qy:(iN g nr).lookup ("size":Str)=some (vi g.size):=by kernel_rfl
theorem O4:(iN g nr).lookup ("near":Str)=some (.ref nr):=by kernel_rfl
theorem z4:(iN g nr).lookup ("step_kind":Str)=none:=by kernel_rfl
theorem pQ:(iN g nr).lookup ("cell_at":Str)=none:=by kernel_rfl
theorem Nz:(iN g nr).lookup ("spot_of":Str)=none:=by kernel_rfl
theorem vt:(iN g nr).lookup ("place_of":Str)=none:=by kernel_rfl
theorem ES:(iN g nr).lookup ("place_cells":Str)=none:=by kernel_rfl
theorem z6:(iN g nr).lookup ("holds_box":Str)=none:=by kernel_rfl
theorem tj:(iN g nr).lookup ("box_cells":Str)=none:=by kernel_rfl
theorem j1:(iN g nr).lookup ("taken_cells":Str)=none:=by kernel_rfl
end
structure V1(c:Cs)(H:Hp)(a:Addr)(g:Gd):Prop where
 gb:GB g
 ex:∃dx,H a=some (.ins c.d5 dx (mC g))
structure gW(c:Cs)(H:Hp)(a:Addr)(g:Gd):Prop where
 gb:GB g
 ex:∃dx nr,H a=some (.ins c.d5 dx (iN g nr))/\Jy H nr g
theorem gW.same(h:gW c H a g)(s:aQ H H'):gW c H' a g:=⟨h.gb,let⟨dx,nr,e,n⟩:=h.ex;⟨dx,nr,s _ _ e,n.same s⟩⟩
def gq(H:Hp)(l:Addr)(ws:ab (ab Nat)):Prop:=∃as:ab Addr,H l=some (.lst (as.map V.ref))/\as.length=ws.length/\∀(i:Nat)(w:ab Nat)(a:Addr),ws[i]? =some w->as[i]? =some a->H a=some (.lst (d8 w))
theorem gq.same(h:gq H l ws)(s:aQ H H'):gq H' l ws:=by obtain⟨ts,h1,h2,h3⟩:=h;exact⟨ts,s _ _ h1,h2,fun i p t a b=>s _ _ (h3 i p t a b)⟩
end Nw
namespace Nw
open PySem PySem.Spec PyProof.Rows L2
section
variable{P:bT}{w:cU}{K:ag}{mg:Str->aY aA}{base:Heap}{c:Cs}
theorem AH(h:n<=6):n<sizeLine:=rn h (by decide)
theorem Wq{g:Gd}(h:0<g.row v):g.w<=v:=by
 apply dY;intro q;have:g.row v=0:=by unfold Gs;rw[ug (by omega),Nat.zero_mod]
 omega
theorem kT[Decidable p](h:p↔q):decide p=true↔q:=by rw[au];exact h
inductive JC(c:Cs)(vs:ab V)(H:Hp)(Q:VK):Prop
 |mk (a:Addr) (g:Gd) (v:Nat) (q0:vs=[.ref a,vi v]) (q1:V1 c H a g) (q2:v<g.size) (q3:∀(H':Hp)(l:Addr),aQ H H'->H l=none->iS H' l (mw g v)->Q (.ref l) H')
def BX(c:Cs):Sp:=fun vs H Q _=>JC c vs H Q
def Acc(H:Hp)(l:Addr)(H1:Hp)(ps:ab (Nat×Nat)):Prop:=aQ H H1/\iS H1 l ps
theorem wA{ts:ab Addr}(hl:H l=none)(s:aQ H H1)(h1:H1 l=some (.lst (ts.map V.ref)))(h2:ts.length=ps.length)(h3:∀(i:Nat)(p:Nat×Nat)(t:Addr),ps[i]? =some p->ts[i]? =some t->H1 t=some (.tup [vi p.1,vi p.2]))(ht:H1 t=none)(hx:x=vi p)(hy:y=vi k):Acc H l (upd (upd H1 t (.tup [x,y])) l (.lst (ts.map V.ref++[.ref t]))) (ps++[(p,k)]):=by
 have jQ:l≠t:=aE h1 ht;refine⟨fun b o e=>?_,ts++[t],?_,by simp[h2],fun i q u e1 e2=>?_⟩;·rw[aj (aE e hl),aj (aE (s _ _ e) ht)];exact s _ _ e
 ·rw[aq,cz];rfl
 ·by_cases hi:i<ps.length;·rw[iY hi]at e1;rw[iY (by omega)]at e2;have h:=h3 i q u e1 e2;rw[aj (mx h h1 (by intro z;cases z)),aj (aE h ht)];exact h
  ·rw[iL (by omega)]at e1 e2;rw[h2]at e2;have e0:i-ps.length=0:=by have:=(aW.mp e1).1;simp at this;omega
   rw[e0]at e1 e2;cases e1;cases e2;rw[aj jQ.symm,aq,hx,hy]
abbrev md:Stmt:=inClass (top 4) 1
theorem jw:bx ["self","cell","x","y","pairs"] ["self","cell"] (aU md):={}
theorem ye(F:gY K "near_cells" "Grid.near_cells" md f fd)(T:Txt K mg c):cZ P w K mg base gZ 1 f fd ["self","cell"] (BX c):=by
 refine F.ok jw (fun vs H Q E h=>?_) (fun fR A outer s H vs Q E hr h=>?_);·obtain⟨a,g,v,rfl,_⟩:=h;rfl
 ·obtain⟨a,g,v,rfl,hG,hv,k⟩:=h;obtain⟨dx,hp⟩:=hG.ex;have G:=hG.gb;have hw:=G.ok.w;have hh:=G.ok.h;have hw2:=G.w;have Ss:=G.pV;refine⟨_,(ah (cE (i:=2) jw.nd rfl (bj rfl) (dj ya (pv 1) (aZ (pv 0) rfl))) (ah (cE (i:=3) jw.nd rfl (bj rfl) (dj ya (dj Df (pv 1) (aZ (pv 0) rfl)) (aZ (pv 0) rfl))) (ah (cE (i:=4) jw.nd rfl (bj rfl) (cI ak)) (ah (cM (bL KA (pv 2) aN (cJ _)) (ay (da (pK (pv 4) (aa (lp (aa (dj qU (pv 1) aN) (aa (cb T.v3) ak))) ak)))) br) (ah (cM (bL vf (pv 2) (dj qU (aZ (pv 0) rfl) aN) (cJ _)) (ay (da (pK (pv 4) (aa (lp (aa (dj gO (pv 1) aN) (aa (cb T.v3) ak))) ak)))) br) (ah (cM (bL KA (pv 3) aN (cJ _)) (ay (da (pK (pv 4) (aa (lp (aa (dj qU (pv 1) (aZ (pv 0) rfl)) (aa (cb T.vZ) ak))) ak)))) br) (ah (cM (bL vf (pv 3) (dj qU (aZ (pv 0) rfl) aN) (cJ _)) (ay (da (pK (pv 4) (aa (lp (aa (dj gO (pv 1) (aZ (pv 0) rfl)) (aa (cb T.vZ) ak))) ak)))) br) (ah (cM (bL ZJ (pv 1) (aZ (pv 0) rfl) (cJ _)) (ay (da (pK (pv 4) (aa (lp (aa (dj qU (pv 1) (aZ (pv 0) rfl)) (aa (cb T.nE) ak))) ak)))) br) (ah (cM (bL vf (dj gO (pv 1) (aZ (pv 0) rfl)) (aZ (pv 0) rfl) (cJ _)) (ay (da (pK (pv 4) (aa (lp (aa (dj gO (pv 1) (aZ (pv 0) rfl)) (aa (cb T.nE) ak))) ak)))) br) (ay (aX (pv 4)))))))))))),?_⟩;refine sq9 ?_;intro u_9 u_8 u_7 Vr Og GN uH oO lG;refine⟨_,rfl,_,rfl,_,_,_,_,_,rfl,hp,T.gC,T.iO,pS,_,_,rfl,rfl,(by omega),?_⟩;refine⟨_,rfl,_,rfl,_,_,_,_,_,rfl,hp,T.gC,T.iO,pS,_,_,rfl,rfl,⟨by omega,by omega⟩,_,rfl,_,_,_,_,_,rfl,hp,T.gC,T.EU,O7,_,_,rfl,rfl,(by omega),?_⟩;refine⟨cH _,fun l hl=>?_⟩;have A0:Acc H l (upd H l (.lst [])) []:=⟨aQ.new hl,[],aq,rfl,fun i p t e=>by simp at e⟩;have ex:((v:Int)%(g.w:Int))=((g.col v:Nat):Int):=rfl;have ey:((v:Int)/(g.w:Int)%(g.h:Int))=((g.row v:Nat):Int):=rfl;refine⟨_,rfl,_,_,rfl,rfl,_,rfl,qx (fun σ' H'=>σ'=[some (.ref a),some (vi v),some (vi (g.col v)),some (vi (g.row v)),some (.ref l)]/\Acc H l H' ([]++if 0<g.col v then[(v-1,1)]else[])) (fun hc hR=>?_) (fun hc=>⟨rfl,?_⟩) ?_⟩;·obtain⟨s1,ts,h1,h2,h3⟩:=A0;rw[kT (q:=0<g.col v) (by rw[ex];omega)]at hc;refine⟨_,rfl,.inl ⟨rfl,_,cN.of h1⟩,_,rfl,_,_,rfl,rfl,(by show 2<=sizeLine;decide),fun t ht=>?_⟩;refine⟨_,_,_,rfl,rfl,(by rw[aj (aE h1 ht)];exact h1),(by rw[ae,h2];exact AH (by simp only[bo,fH];(repeat' split)<;>first|decide|simp)),hR _ _ ⟨rfl,?_⟩⟩;rw[aw hc];exact wA hl s1 h1 h2 h3 ht (by have:=cC hc (Nat.mod_le v g.w);show V.int _=V.int _;congr 1;omega) rfl
  ·rw[kT (q:=0<g.col v) (by rw[ex];omega)]at hc;rw[ao hc,dO];exact A0
  rintro σ1 H1 ⟨rfl,A1⟩;refine⟨_,rfl,_,rfl,_,_,_,_,_,rfl,A1.1 _ _ hp,T.gC,T.iO,pS,_,_,rfl,rfl,_,_,rfl,rfl,_,rfl,qx (fun σ' H'=>σ'=[some (.ref a),some (vi v),some (vi (g.col v)),some (vi (g.row v)),some (.ref l)]/\Acc H l H' (([]++if 0<g.col v then[(v-1,1)]else[])++if g.col v+1<g.w then[(v+1,1)]else[])) (fun hc hR=>?_) (fun hc=>⟨rfl,?_⟩) ?_⟩;·obtain⟨s1,ts,h1,h2,h3⟩:=A1;rw[kT (q:=g.col v+1<g.w) (by omega)]at hc;refine⟨_,rfl,.inl ⟨rfl,_,cN.of h1⟩,_,rfl,_,_,rfl,rfl,(by show 2<=sizeLine;decide),fun t ht=>?_⟩;refine⟨_,_,_,rfl,rfl,(by rw[aj (aE h1 ht)];exact h1),(by rw[ae,h2];exact AH (by simp only[bo,fH];(repeat' split)<;>first|decide|simp)),hR _ _ ⟨rfl,?_⟩⟩;rw[aw hc];exact wA hl s1 h1 h2 h3 ht rfl rfl
  ·rw[kT (q:=g.col v+1<g.w) (by omega)]at hc;rw[ao hc,dO];exact A1
  rintro σ2 H2 ⟨rfl,A2⟩;refine⟨_,rfl,_,_,rfl,rfl,_,rfl,qx (fun σ' H'=>σ'=[some (.ref a),some (vi v),some (vi (g.col v)),some (vi (g.row v)),some (.ref l)]/\Acc H l H' ((([]++if 0<g.col v then[(v-1,1)]else[])++if g.col v+1<g.w then[(v+1,1)]else[])++if 0<g.row v then[(v-g.w,2)]else[])) (fun hc hR=>?_) (fun hc=>⟨rfl,?_⟩) ?_⟩;·obtain⟨s1,ts,h1,h2,h3⟩:=A2;rw[kT (q:=0<g.row v) (by omega)]at hc;refine⟨_,rfl,.inl ⟨rfl,_,cN.of h1⟩,_,rfl,_,rfl,_,_,_,_,_,rfl,s1 _ _ hp,T.gC,T.iO,pS,_,_,rfl,rfl,(by show 2<=sizeLine;decide),fun t ht=>?_⟩;refine⟨_,_,_,rfl,rfl,(by rw[aj (aE h1 ht)];exact h1),(by rw[ae,h2];exact AH (by simp only[bo,fH];(repeat' split)<;>first|decide|simp)),hR _ _ ⟨rfl,?_⟩⟩;rw[aw hc];exact wA hl s1 h1 h2 h3 ht (by have:=Wq hc;show V.int _=V.int _;congr 1;omega) rfl
  ·rw[kT (q:=0<g.row v) (by omega)]at hc;rw[ao hc,dO];exact A2
  rintro σ3 H3 ⟨rfl,A3⟩;refine⟨_,rfl,_,rfl,_,_,_,_,_,rfl,A3.1 _ _ hp,T.gC,T.EU,O7,_,_,rfl,rfl,_,_,rfl,rfl,_,rfl,qx (fun σ' H'=>σ'=[some (.ref a),some (vi v),some (vi (g.col v)),some (vi (g.row v)),some (.ref l)]/\Acc H l H' (((([]++if 0<g.col v then[(v-1,1)]else[])++if g.col v+1<g.w then[(v+1,1)]else[])++if 0<g.row v then[(v-g.w,2)]else[])++if g.row v+1<g.h then[(v+g.w,2)]else[])) (fun hc hR=>?_) (fun hc=>⟨rfl,?_⟩) ?_⟩;·obtain⟨s1,ts,h1,h2,h3⟩:=A3;rw[kT (q:=g.row v+1<g.h) (by omega)]at hc;refine⟨_,rfl,.inl ⟨rfl,_,cN.of h1⟩,_,rfl,_,rfl,_,_,_,_,_,rfl,s1 _ _ hp,T.gC,T.iO,pS,_,_,rfl,rfl,(by show 2<=sizeLine;decide),fun t ht=>?_⟩;refine⟨_,_,_,rfl,rfl,(by rw[aj (aE h1 ht)];exact h1),(by rw[ae,h2];exact AH (by simp only[bo,fH];(repeat' split)<;>first|decide|simp)),hR _ _ ⟨rfl,?_⟩⟩;rw[aw hc];exact wA hl s1 h1 h2 h3 ht rfl rfl
  ·rw[kT (q:=g.row v+1<g.h) (by omega)]at hc;rw[ao hc,dO];exact A3
  rintro σ4 H4 ⟨rfl,A4⟩;refine⟨_,rfl,_,rfl,_,_,_,_,_,rfl,A4.1 _ _ hp,T.gC,T.oB,Dj,_,_,rfl,rfl,_,rfl,qx (fun σ' H'=>σ'=[some (.ref a),some (vi v),some (vi (g.col v)),some (vi (g.row v)),some (.ref l)]/\Acc H l H' ((((([]++if 0<g.col v then[(v-1,1)]else[])++if g.col v+1<g.w then[(v+1,1)]else[])++if 0<g.row v then[(v-g.w,2)]else[])++if g.row v+1<g.h then[(v+g.w,2)]else[])++if 0<g.layer v then[(v-g.w*g.h,0)]else[])) (fun hc hR=>?_) (fun hc=>⟨rfl,?_⟩) ?_⟩;·obtain⟨s1,ts,h1,h2,h3⟩:=A4;rw[kT (q:=0<g.layer v) (by rw[Bk G.ok];omega)]at hc;refine⟨_,rfl,.inl ⟨rfl,_,cN.of h1⟩,_,rfl,_,rfl,_,_,_,_,_,rfl,s1 _ _ hp,T.gC,T.oB,Dj,_,_,rfl,rfl,(by show 2<=sizeLine;decide),fun t ht=>?_⟩;refine⟨_,_,_,rfl,rfl,(by rw[aj (aE h1 ht)];exact h1),(by rw[ae,h2];exact AH (by simp only[bo,fH];(repeat' split)<;>first|decide|simp)),hR _ _ ⟨rfl,?_⟩⟩;rw[aw hc];exact wA hl s1 h1 h2 h3 ht (by have:=(Bk G.ok).mp hc;show V.int _=V.int _;congr 1;omega) rfl
  ·rw[kT (q:=0<g.layer v) (by rw[Bk G.ok];omega)]at hc;rw[ao hc,dO];exact A4
  rintro σ5 H5 ⟨rfl,A5⟩;refine⟨_,rfl,_,rfl,_,_,_,_,_,rfl,A5.1 _ _ hp,T.gC,T.oB,Dj,_,_,rfl,rfl,_,rfl,_,_,_,_,_,rfl,A5.1 _ _ hp,T.gC,T.pR,O6,_,_,rfl,rfl,_,rfl,qx (fun σ' H'=>σ'=[some (.ref a),some (vi v),some (vi (g.col v)),some (vi (g.row v)),some (.ref l)]/\Acc H l H' (((((([]++if 0<g.col v then[(v-1,1)]else[])++if g.col v+1<g.w then[(v+1,1)]else[])++if 0<g.row v then[(v-g.w,2)]else[])++if g.row v+1<g.h then[(v+g.w,2)]else[])++if 0<g.layer v then[(v-g.w*g.h,0)]else[])++if g.layer v+1<g.l then[(v+g.w*g.h,0)]else[])) (fun hc hR=>?_) (fun hc=>⟨rfl,?_⟩) ?_⟩;·obtain⟨s1,ts,h1,h2,h3⟩:=A5;rw[kT (q:=g.layer v+1<g.l) (by rw[Ew G.ok];omega)]at hc;refine⟨_,rfl,.inl ⟨rfl,_,cN.of h1⟩,_,rfl,_,rfl,_,_,_,_,_,rfl,s1 _ _ hp,T.gC,T.oB,Dj,_,_,rfl,rfl,(by show 2<=sizeLine;decide),fun t ht=>?_⟩;refine⟨_,_,_,rfl,rfl,(by rw[aj (aE h1 ht)];exact h1),(by rw[ae,h2];exact AH (by simp only[bo,fH];(repeat' split)<;>first|decide|simp)),hR _ _ ⟨rfl,?_⟩⟩;rw[aw hc];exact wA hl s1 h1 h2 h3 ht rfl rfl
  ·rw[kT (q:=g.layer v+1<g.l) (by rw[Ew G.ok];omega)]at hc;rw[ao hc,dO];exact A5
  rintro σ6 H6 ⟨rfl,A6⟩;refine⟨_,rfl,k _ _ A6.1 hl ?_⟩;have e:mw g v=(((((([]++if 0<g.col v then[(v-1,1)]else[])++if g.col v+1<g.w then[(v+1,1)]else[])++if 0<g.row v then[(v-g.w,2)]else[])++if g.row v+1<g.h then[(v+g.w,2)]else[])++if 0<g.layer v then[(v-g.w*g.h,0)]else[])++if g.layer v+1<g.l then[(v+g.w*g.h,0)]else[]):=by unfold mw;simp only[vP,gk]
  rw[e];exact A6.2
end
end Nw
namespace Nw
open PySem PySem.Spec PyProof.Rows L2
section
variable{α:Type}{a b c d e f g:α}{l:ab α}
theorem Gf:Q6 (a::l) 0=some a:=cA (j:=0) rfl
theorem Vc:Q6 (a::b::l) 1=some b:=cA (j:=1) rfl
theorem Y8:Q6 (a::b::c::l) 2=some c:=cA (j:=2) rfl
theorem ai3:Q6 (a::b::c::d::l) 3=some d:=cA (j:=3) rfl
theorem ai4:Q6 (a::b::c::d::e::l) 4=some e:=cA (j:=4) rfl
end
section
variable{P:bT}{w:cU}{K:ag}{mg:Str->aY aA}{base:Heap}{c:Cs}
inductive NV(c:Cs)(vs:ab V)(H:Hp)(Q:VK):Prop
 |mk (a:Addr) (g:Gd) (v:Nat) (q0:vs=[.ref a,vi v]) (q1:gW c H a g) (q2:Q (vi (place g v)) H)
def AE(c:Cs):Sp:=fun vs H Q _=>NV c vs H Q
abbrev ou:Stmt:=inClass (top 4) 5
theorem AK:bx ["self","cell"] ["self","cell"] (aU ou):={}
theorem A_(F:gY K "place_of" "Grid.place_of" ou f fd)(T:Txt K mg c):cZ P w K mg base gZ 1 f fd ["self","cell"] (AE c):=by
 refine F.ok AK (fun vs H Q E h=>?_) (fun fR A outer s H vs Q E hr h=>?_);·obtain⟨a,g,v,rfl,_⟩:=h;rfl
 ·obtain⟨a,g,v,rfl,hG,k⟩:=h;obtain⟨dx,nr,hp,hn⟩:=hG.ex;have Ss:=hG.gb.pV;refine⟨_,(ay (aX (dj ya (pv 1) (aZ (pv 0) rfl)))),?_⟩;refine⟨_,rfl,_,rfl,_,_,_,_,_,rfl,hp,T.gC,T.oB,tm,_,_,rfl,rfl,(by omega),?_⟩;rw[<-vV]at k;exact k
inductive LV(c:Cs)(vs:ab V)(H:Hp)(Q:VK):Prop
 |mk (a:Addr) (g:Gd) (u v:Nat) (q0:vs=[.ref a,vi u,vi v]) (q1:gW c H a g) (q2:Nb g u v) (q3:Q (vi (kind g u v)) H)
def xI(c:Cs):Sp:=fun vs H Q _=>LV c vs H Q
abbrev nk:Stmt:=inClass (top 4) 2
theorem zC:bx ["self","cell","near"] ["self","cell","near"] (aU nk):={}
theorem zP(F:gY K "step_kind" "Grid.step_kind" nk f fd)(T:Txt K mg c)(gX:bq P w K mg base c.d5 "place_of" 1 ["self","cell"] (AE c)):cZ P w K mg base gZ 2 f fd ["self","cell","near"] (xI c):=by
 refine F.ok zC (fun vs H Q E h=>?_) (fun fR A outer s H vs Q E hr h=>?_);·obtain⟨a,g,u,v,rfl,_⟩:=h;rfl
 ·obtain⟨a,g,u,v,rfl,hG,nb,k⟩:=h;obtain⟨dx,nr,hp,hn⟩:=hG.ex;have hw:=hG.gb.ok.w;rw[Qa hG.gb.ok nb]at k;refine⟨_,(ah (cM (bL iB (bR (pv 0) gX hr (aa (pv 1) ak)) (bR (pv 0) gX hr (aa (pv 2) ak)) (cJ _)) (ay (aX (cb T.nE))) br) (ah (cM (bL iB (dj ya (pv 1) (aZ (pv 0) rfl)) (dj ya (pv 2) (aZ (pv 0) rfl)) (cJ _)) (ay (aX (cb T.vZ))) br) (ay (aX (cb T.v3))))),?_⟩;refine MD ?_;intro oO lG;refine⟨_,rfl,_,_,_,rfl,hp,vt,_,rfl,a,g,u,rfl,hG,?_⟩;refine⟨_,rfl,_,_,_,rfl,hp,vt,_,rfl,a,g,v,rfl,hG,rfl,_,rfl,z3 (fun h=>?_) (fun h=>?_)⟩
  ·rw[au]at h;have:place g u=place g v:=by have:=V.int.inj h;omega
   rw[aw this]at k;exact k
  ·rw[au]at h;have:¬place g u=place g v:=fun q=>h (by rw[q]);rw[ao this]at k;refine⟨_,rfl,_,rfl,_,_,_,_,_,rfl,hp,T.gC,T.iO,nG,_,_,rfl,rfl,(by omega),?_⟩;refine⟨_,rfl,_,rfl,_,_,_,_,_,rfl,hp,T.gC,T.iO,nG,_,_,rfl,rfl,(by omega),rfl,_,rfl,z3 (fun h=>?_) (fun h=>?_)⟩
   ·rw[au]at h;have:g.col u=g.col v:=by have:((g.col u:Nat):Int)=((g.col v:Nat):Int):=V.int.inj h;omega
    rw[aw this]at k;exact k
   ·rw[au]at h;have:¬g.col u=g.col v:=fun q=>h (by show V.int ((g.col u:Nat):Int)=V.int ((g.col v:Nat):Int);rw[q]);rw[ao this]at k;exact k
inductive QR(c:Cs)(vs:ab V)(H:Hp)(Q:VK):Prop
 |mk (a l:Addr) (g:Gd) (L x y:Int) (q0:vs=[.ref a,.ref l]) (q1:gW c H a g) (q2:H l=some (.lst [.int L,.int x,.int y])) (q3:Q (.int ((L-1)*((g.w*g.h:Nat):Int)+y*(g.w:Int)+x)) H)
def zx(c:Cs):Sp:=fun vs H Q _=>QR c vs H Q
abbrev pF:Stmt:=inClass (top 4) 3
theorem Cy:bx ["self","spot"] ["self","spot"] (aU pF):={}
theorem CK(F:gY K "cell_at" "Grid.cell_at" pF f fd)(T:Txt K mg c):cZ P w K mg base gZ 1 f fd ["self","spot"] (zx c):=by
 refine F.ok Cy (fun vs H Q E h=>?_) (fun fR A outer s H vs Q E hr h=>?_);·obtain⟨a,l,g,L,x,y,rfl,_⟩:=h;rfl
 ·obtain⟨a,l,g,L,x,y,rfl,hG,hl,k⟩:=h;obtain⟨dx,nr,hp,hn⟩:=hG.ex;have Ss:=hG.gb.qD;have hw:=hG.gb.w;refine⟨_,(ay (aX (dj gO (dj gO (dj A7 (dj qU (cD bA (pv 1) aN (fun _ _=>rfl)) aN) (aZ (pv 0) rfl)) (dj A7 (cD bA (pv 1) aN (fun _ _=>rfl)) (aZ (pv 0) rfl))) (cD bA (pv 1) aN (fun _ _=>rfl))))),?_⟩;refine⟨_,rfl,_,_,_,_,rfl,rfl,cN.of hl,Gf,_,_,rfl,rfl,_,rfl,_,_,_,_,_,rfl,hp,T.gC,T.oB,tm,_,_,rfl,rfl,.inr ⟨by omega,by omega⟩,?_⟩;refine⟨_,rfl,_,_,_,_,rfl,rfl,cN.of hl,Y8,_,rfl,_,_,_,_,_,rfl,hp,T.gC,T.iO,nG,_,_,rfl,rfl,.inr ⟨by omega,by omega⟩,_,_,rfl,rfl,?_⟩;exact⟨_,rfl,_,_,_,_,rfl,rfl,cN.of hl,Vc,_,_,rfl,rfl,k⟩
inductive QJ(c:Cs)(vs:ab V)(H:Hp)(Q:VK):Prop
 |mk (a:Addr) (g:Gd) (v:Nat) (q0:vs=[.ref a,vi v]) (q1:gW c H a g) (q2:∀(l:Addr),H l=none->Q (.ref l) (upd H l (.lst ((n9 g v).map V.int))))
def Kd(c:Cs):Sp:=fun vs H Q _=>QJ c vs H Q
abbrev pE:Stmt:=inClass (top 4) 4
theorem Cw:bx ["self","cell"] ["self","cell"] (aU pE):={}
theorem CJ(F:gY K "spot_of" "Grid.spot_of" pE f fd)(T:Txt K mg c):cZ P w K mg base gZ 1 f fd ["self","cell"] (Kd c):=by
 refine F.ok Cw (fun vs H Q E h=>?_) (fun fR A outer s H vs Q E hr h=>?_);·obtain⟨a,g,v,rfl,_⟩:=h;rfl
 ·obtain⟨a,g,v,rfl,hG,k⟩:=h;obtain⟨dx,nr,hp,hn⟩:=hG.ex;have Ss:=hG.gb.pV;have US:=hG.gb.qD;have hw:=hG.gb.ok.w;have hw2:=hG.gb.w;have hh:=hG.gb.ok.h;refine⟨_,(ay (aX (cI (aa (dj gO (dj Df (pv 1) (aZ (pv 0) rfl)) aN) (aa (dj ya (pv 1) (aZ (pv 0) rfl)) (aa (dj ya (dj Df (pv 1) (aZ (pv 0) rfl)) (aZ (pv 0) rfl)) ak)))))),?_⟩;refine⟨_,rfl,_,rfl,_,_,_,_,_,rfl,hp,T.gC,T.oB,tm,_,_,rfl,rfl,⟨by omega,by omega⟩,_,_,rfl,rfl,?_⟩;refine⟨_,rfl,_,rfl,_,_,_,_,_,rfl,hp,T.gC,T.iO,nG,_,_,rfl,rfl,(by omega),?_⟩;refine⟨_,rfl,_,rfl,_,_,_,_,_,rfl,hp,T.gC,T.iO,nG,_,_,rfl,rfl,⟨by omega,by omega⟩,_,rfl,_,_,_,_,_,rfl,hp,T.gC,T.EU,O3,_,_,rfl,rfl,(by omega),?_⟩;exact⟨(by show 3<=sizeLine;decide),fun l hl=>k l hl⟩
inductive Gj(c:Cs)(vs:ab V)(H:Hp)(Q:VK):Prop
 |mk (a:Addr) (g:Gd) (v:Nat) (q0:vs=[.ref a,vi v]) (q1:gW c H a g) (q2:v<g.w*g.h) (q3:∀(H':Hp)(l:Addr),aQ H H'->H l=none->H' l=some (.lst (d8 (g.column v)))->Q (.ref l) H')
def zq(c:Cs):Sp:=fun vs H Q _=>Gj c vs H Q
theorem Eb(G:GB g)(hv:v<g.w*g.h):cV (v:Int) (g.size:Int) ((g.w*g.h:Nat):Int)=(g.l:Int):=by
 unfold cV;have h1:=G.HD;have h2:=G.ok.l;rw[aw (by omega),aw (by omega)];have e:((g.size:Int)-v-1)=((g.w*g.h-1-v:Nat):Int)+((g.l:Int)-1)*((g.w*g.h:Nat):Int):=by
  rw[Int.sub_mul,Int.one_mul];have:(g.size:Int)=(g.l:Int)*((g.w*g.h:Nat):Int):=by unfold iZ;rw[wF (g.w*g.h),Int.mul_comm]
  omega
 rw[e,Int.add_mul_ediv_right _ _ (by omega),Int.ediv_eq_zero_of_lt (by omega) (by omega)];omega
theorem qp{i j c:Int}(h1:0<=i)(h2:i<1000000)(h3:0<=j)(h4:j<1000000)(h5:0<c)(h6:c<1000000):mY i j c=true:=by
 have h7:0<=cV i j c/\cV i j c<=1000000:=by
  unfold cV;rw[aw h5];split;·have a1:(j-i-1)/c<=j-i-1:=Int.ediv_le_self _ (by omega);have a2:0<=(j-i-1)/c:=Int.ediv_nonneg (by omega) (by omega);omega
  ·omega
 unfold mY;generalize cV i j c=z at h7⊢;simp only[Builtin.Range.rangeFitsLong,bN,eQ,au,dU,gt_iff_lt,h5,uk];omega
abbrev lg:Stmt:=inClass (top 4) 6
theorem wJ:bx ["self","place"] ["self","place"] (aU lg):={}
theorem wQ(F:gY K "place_cells" "Grid.place_cells" lg f fd)(T:Txt K mg c):cZ P w K mg base gZ 1 f fd ["self","place"] (zq c):=by
 refine F.ok wJ (fun vs H Q E h=>?_) (fun fR A outer s H vs Q E hr h=>?_);·obtain⟨a,g,v,rfl,_⟩:=h;rfl
 ·obtain⟨a,g,v,rfl,hG,hv,k⟩:=h;obtain⟨dx,nr,hp,hn⟩:=hG.ex;have Ss:=hG.gb.pV;have US:=hG.gb.qD;have hsz:=hG.gb.size_le;have hl4:=hG.gb.l;refine⟨_,(ay (aX (gA (yq rfl) rfl T.b.list mF (aa (gA Qz rfl T.b.range E6 (aa (pv 1) (aa (aZ (pv 0) rfl) (aa (aZ (pv 0) rfl) ak)))) ak)))),?_⟩;refine⟨_,rfl,_,rfl,_,_,_,_,_,rfl,hp,T.gC,T.pR,qy,_,rfl,_,_,_,_,_,rfl,hp,T.gC,T.oB,tm,_,_,_,rfl,(by omega),(by omega),fun p Tr=>?_⟩;refine⟨p,_,_,_,g.l,rfl,aq,qp (by omega) (by omega) (by omega) (by omega) (by omega) (by omega),Eb hG.gb hv,(by omega),fun l hl=>?_⟩;have oR:H l=none:=(aQ.new Tr).free hl;refine k _ l (aQ.put (aQ.new Tr) oR) oR ?_;rw[aq,Bu hG.gb.ok hv];unfold nP d8;rw[c_];rfl
inductive LZ(c:Cs)(vs:ab V)(H:Hp)(Q:VK):Prop
 |mk (a l:Addr) (g:Gd) (z:V) (x1 y1 x2 y2:Int) (q0:vs=[.ref a,.ref l]) (q1:gW c H a g) (q2:H l=some (.lst [z,.int x1,.int y1,.int x2,.int y2])) (q3:Q (.bl (decide (0<=x1/\x1<=x2/\x2<(g.w:Int)/\0<=y1/\y1<=y2/\y2<(g.h:Int)))) H)
def xJ(c:Cs):Sp:=fun vs H Q _=>LZ c vs H Q
abbrev nq:Stmt:=inClass (top 4) 7
theorem zD:bx ["self","box"] ["self","box"] (aU nq):={}
theorem zQ(F:gY K "holds_box" "Grid.holds_box" nq f fd)(T:Txt K mg c):cZ P w K mg base gZ 1 f fd ["self","box"] (xJ c):=by
 refine F.ok zD (fun vs H Q E h=>?_) (fun fR A outer s H vs Q E hr h=>?_);·obtain⟨a,l,g,z,x1,y1,x2,y2,rfl,_⟩:=h;rfl
 ·obtain⟨a,l,g,z,x1,y1,x2,y2,rfl,hG,hl,k⟩:=h;obtain⟨dx,nr,hp,hn⟩:=hG.ex;refine⟨_,(ay (aX (MW (Hd i6 i6 vf aN (cD bA (pv 1) aN (fun _ _=>rfl)) (cD bA (pv 1) aN (fun _ _=>rfl)) (aZ (pv 0) rfl)) (IG (Hd i6 i6 vf aN (cD bA (pv 1) aN (fun _ _=>rfl)) (cD bA (pv 1) aN (fun _ _=>rfl)) (aZ (pv 0) rfl)))))),?_⟩;have no:¬(0<=x1/\x1<=x2/\x2<(g.w:Int)/\0<=y1/\y1<=y2/\y2<(g.h:Int))->Q (.bl false) H:=fun h=>by rw[dH h]at k;exact k
  refine⟨_,rfl,_,_,_,_,rfl,rfl,cN.of hl,Vc,_,_,rfl,rfl,_,rfl,z3 (fun h1=>?_) (fun h1=>?_)⟩
  ·rw[au]at h1;refine⟨_,rfl,_,_,_,_,rfl,rfl,cN.of hl,ai3,_,_,rfl,rfl,_,rfl,z3 (fun h2=>?_) (fun h2=>?_)⟩
   ·rw[au]at h2;refine⟨_,rfl,_,_,_,_,_,rfl,hp,T.gC,T.iO,nG,_,_,rfl,rfl,_,rfl,z3 (fun h3=>?_) (fun h3=>?_)⟩
    ·rw[au]at h3;refine⟨_,rfl,_,_,_,_,rfl,rfl,cN.of hl,Y8,_,_,rfl,rfl,_,rfl,z3 (fun h4=>?_) (fun h4=>?_)⟩
     ·rw[au]at h4;refine⟨_,rfl,_,_,_,_,rfl,rfl,cN.of hl,ai4,_,_,rfl,rfl,_,rfl,z3 (fun h5=>?_) (fun h5=>?_)⟩
      ·rw[au]at h5;refine⟨_,rfl,_,_,_,_,_,rfl,hp,T.gC,T.EU,O3,_,_,rfl,rfl,?_⟩;by_cases h6:y2<(g.h:Int);·rw[gD (show(0<=x1/\x1<=x2/\x2<(g.w:Int)/\0<=y1/\y1<=y2/\y2<(g.h:Int))from⟨h1,h2,h3,h4,h5,h6⟩)]at k;show Q (.bl (decide (y2<(g.h:Int)))) H;rw[gD h6];exact k
       ·show Q (.bl (decide (y2<(g.h:Int)))) H;rw[dH h6];exact no fun q=>h6 q.2.2.2.2.2
      ·rw[au]at h5;exact no fun q=>h5 q.2.2.2.2.1
     ·rw[au]at h4;exact no fun q=>h4 q.2.2.2.1
    ·rw[au]at h3;exact no fun q=>h3 q.2.2.1
   ·rw[au]at h2;exact⟨_,rfl,WZ (no fun q=>h2 q.2.1)⟩
  ·rw[au]at h1;exact⟨_,rfl,WZ (no fun q=>h1 q.1)⟩
end
end Nw
namespace Nw
open PySem PySem.Spec PyProof.Rows L2
def yQ(ks:ab Nat):ab (Key×V):=ks.map fun(k:Nat)=>(dC (k:Int),V.bl true)
def NS(ks:ab Nat)(k:Nat):ab Nat:=if k∈ks then ks else ks++[k]
theorem K0:x∈NS ks k↔x∈ks\/x=k:=by
 unfold NS;split;·rename_i h;exact⟨.inl,fun q=>q.elim id fun e=>e▸h⟩
 ·simp
theorem Uy(h:ks.Nodup):(NS ks k).Nodup:=by
 unfold NS;split;·exact h
 ·rename_i q;exact zT h q
theorem key_ne{k x:Nat}:((dC (x:Int):Key)=dC (k:Int))↔x=k:=by rw[Sum.inl.injEq];omega
theorem HR:∀(ks:ab Nat)(k:Nat),nc (yQ ks) (dC (k:Int))=if k∈ks then some (.bl true)else none
 |[],k=>rfl
 |x::ks,k=>by
  have ih:=HR ks k;by_cases e:x=k;·subst e;rw[aw (by simp)];exact uC rfl
  ·have:nc (yQ (x::ks)) (dC (k:Int))=nc (yQ ks) (dC (k:Int)):=uD (fun q=>e (key_ne.mp q));rw[this,ih];by_cases h:k∈ks;·rw[aw h,aw (by simp[h])]
   ·rw[ao h,ao (by simp[h];exact fun q=>e q.symm)]
theorem Ud(ks:ab Nat)(k:Nat):putK (yQ ks) (dC (k:Int)) (.bl true)=yQ (NS ks k):=by
 unfold NS;by_cases h:k∈ks;·rw[aw h];unfold putK;have q:((yQ ks).any fun kv=>decide (kv.1=dC (k:Int)))=true:=og.mpr ⟨((dC (k:Int):Key),V.bl true),bB.mpr ⟨k,h,rfl⟩,by simp⟩;rw[aw q];unfold yQ;rw[c_];apply eC;intro x _;simp only[FC];split<;>rfl
 ·rw[ao h,Ku _ (by rw[HR,ao h])];unfold yQ;rw[cz];rfl
theorem R4(ks:ab Nat):((yQ ks).map fun kv=>kV kv.1)=d8 ks:=by unfold yQ d8;rw[c_];rfl
theorem Jd(hn:ks.Nodup)(h:∀x∈ks,x<n)(hz:n<=100000):(yQ ks).length<sizeLine:=by unfold yQ;rw[ae];exact rn (bZ (iC hn h) hz) (by decide)
theorem SA{K:ag}{g:TG}{tb:TS}{D:Ends}(Pv:Nat->L2.St->Hp->Prop)(h0:Pv 0 σ H)(hl:∀i σ H,i<=xs.length->Pv i σ H->cN K H a xs)(hs:∀i x σ H T,xs[i]? =some x->Pv i σ H->H T=none->g (.ref T) σ (upd H T (.tup [.int (i:Nat),x])) fun σ2 H2=>tb {D with nx:=Pv (i+1),ct:=Pv (i+1),bk:=D.nx} σ2 H2)(hd:∀σ H,Pv xs.length σ H->D.nx σ H):∃W:Nat->Nat->L2.St->Hp->Prop,(∃m,W 0 m σ H)/\∀i m σ H,W i m σ H->((Ite K a).stop i H/\D.nx σ H)\/((Ite K a).go i H/\∃N:L2.St->Hp->Prop,(∀σ' H',N σ' H'->∃m',m'<m/\W (i+1) m' σ' H')/\∀x H',(Ite K a).L8 i H x H'->g x σ H' fun σ2 H2=>tb {D with nx:=N,ct:=N,bk:=D.nx} σ2 H2):=by
 refine⟨fun i m σ H=>m=xs.length-i/\i<=xs.length/\Pv i σ H,⟨xs.length,by simp,cH _,h0⟩,?_⟩;rintro i m σ H ⟨rfl,hi,p⟩;have q:=hl i σ H hi p;by_cases jQ:i<xs.length;·refine .inr ⟨⟨xs,xs[i],q,by simp[jQ]⟩,Pv (i+1),fun σ' H' p'=>⟨xs.length-(i+1),by omega,rfl,jQ,p'⟩,?_⟩;rintro v H' ⟨T,x,rfl,hT,rfl,y⟩;exact hs i x σ H T (y xs q) p hT
 ·obtain rfl:i=xs.length:=by omega
  exact .inl ⟨⟨xs,q,aD _⟩,hd σ H p⟩
section
variable{P:bT}{w:cU}{K:ag}{mg:Str->aY aA}{base:Heap}{c:Cs}{n:Nat}
inductive Gg(c:Cs)(vs:ab V)(H:Hp)(Q:VK):Prop
 |mk (a wl:Addr) (g:Gd) (ws:ab (ab Nat)) (q0:vs=[.ref a,.ref wl]) (q1:gW c H a g) (q2:gq H wl ws) (q3:(∀w∈ws,Chain g w)) (q4:∀(H':Hp)(l:Addr)(ks:ab Nat),aQ H H'->H l=none->H' l=some (.lst (d8 ks))->ks.Nodup->(∀x,x∈ks↔∃w∈ws,x∈dJ g w)->Q (.ref l) H')
def kh(c:Cs):Sp:=fun vs H Q _=>Gg c vs H Q
def TC(g:Gd)(w:ab Nat)(j x:Nat):Prop:=x∈w.take j\/∃i a b,i+1<j/\w[i]? =some a/\w[i+1]? =some b/\g.layer a≠g.layer b/\x∈g.column b
theorem U8{g:Gd}(G:tX g){w:ab Nat}(h:Chain g w)(x:Nat):TC g w w.length x↔x∈dJ g w:=by
 rw[vk G h];unfold TC;rw[bG];constructor
 ·rintro(h|⟨i,a,b,h0,h1⟩);·exact .inl h
  ·exact .inr ⟨i,a,b,h1⟩
 ·rintro(h|⟨i,a,b,h1,h2,h3⟩);·exact .inl h
  ·exact .inr ⟨i,a,b,(aW.mp h2).1,h1,h2,h3⟩
theorem fP{w:ab Nat}(h:w[j]? =some v):x∈w.take (j+1)↔x∈w.take j\/x=v:=by have hl:=(aW.mp h);rw[HL,h];simp
theorem QA{w:ab Nat}(h:w[0]? =some v):TC g w 1 x↔x=v:=by unfold TC;rw[fP h];simp
theorem LF{w:ab Nat}(h0:w[j]? =some u)(h:w[j+1]? =some v):TC g w (j+2) x↔(TC g w (j+1) x\/x=v)\/(g.layer u≠g.layer v/\x∈g.column v):=by
 unfold TC;rw[fP h];constructor
 ·rintro((a|a)|⟨i,p,q,a1,a2,a3,a4,a5⟩);·exact .inl (.inl (.inl a))
  ·exact .inl (.inr a)
  ·by_cases e:i=j;·subst e;rw[h0]at a2;rw[h]at a3;cases a2;cases a3;exact .inr ⟨a4,a5⟩
   ·exact .inl (.inl (.inr ⟨i,p,q,by omega,a2,a3,a4,a5⟩))
 ·rintro(((a|⟨i,p,q,a1,a2⟩)|a)|⟨a,b⟩);·exact .inl (.inl a)
  ·exact .inr ⟨i,p,q,by omega,a2⟩
  ·exact .inl (.inr a)
  ·exact .inr ⟨j,u,v,by omega,h0,h,a,b⟩
theorem E4{g:Gd}(G:tX g):∀{w:ab Nat},Chain g w->∀{i u v:Nat},w[i]? =some u->w[i+1]? =some v->Nb g u v/\u<g.size/\v<g.size
 |[],h,_,_,_,_,_=>h.elim
 |[a],h,i,u,v,e1,e2=>by simp at e2
 |a::b::l,h,i,u,v,e1,e2=>by
  obtain⟨h1,h2,_,h4⟩:=h;cases i with
  |zero=>cases e1;cases e2;exact⟨(sU G h1 h2).2,h1,sV G h1 h2⟩
  |succ i=>exact E4 G h4 (i:=i) e1 e2
theorem SO{g:Gd}{w:ab Nat}(h:Chain g w){i v:Nat}(e:w[i]? =some v):v<g.size:=h.lt v (aH e)
structure Tk(H H':Hp)(d:Addr)(sz:Nat)(ks:ab Nat)(M:Nat->Prop):Prop where
 s:aQ H H'
 at_:H' d=some (.dK (yQ ks))
 nd:ks.Nodup
 lt:∀x∈ks,x<sz
 mem:∀x,x∈ks↔M x
theorem Tk.put(t:Tk H H' d sz ks M)(hd:H d=none)(hv:v<sz):Tk H (upd H' d (.dK (putK (yQ ks) (dC (v:Int)) (.bl true)))) d sz (NS ks v) (fun x=>M x\/x=v):=⟨aQ.put t.s hd,by rw[aq,Ud],Uy t.nd,fun x hx=>(K0.mp hx).elim (t.lt x) fun e=>e▸hv,fun x=>by rw[K0,t.mem]⟩
theorem Tk.imp(t:Tk H H' d sz ks M)(h:∀x,M x↔N x):Tk H H' d sz ks N:={t with mem:=fun x=>(t.mem x).trans (h x)}
theorem Tk.new(t:Tk H H' d sz ks M)(h:H' b=none):Tk H (upd H' b o) d sz ks M:={t with s:=fun x y e=>by rw[aj (aE (t.s _ _ e) h)];exact t.s _ _ e,at_:=by rw[aj (aE t.at_ h)];exact t.at_}
theorem Tk.same(t:Tk H H' d sz ks M)(h:aQ H' H2):Tk H H2 d sz ks M:={t with s:=t.s.trans h,at_:=h _ _ t.at_}
abbrev lb:Stmt:=inClass (top 4) 9
theorem f9:bx ["self","ways","taken","way","k","cell","other"] ["self","ways"] (aU lb):={}
theorem wO(F:gY K "taken_cells" "Grid.taken_cells" lb f fd)(T:Txt K mg c)(gX:bq P w K mg base c.d5 "place_of" n ["self","cell"] (AE c))(iq:bq P w K mg base c.d5 "step_kind" n ["self","cell","near"] (xI c))(lC:bq P w K mg base c.d5 "place_cells" n ["self","place"] (zq c)):cZ P w K mg base gZ (n+1) f fd ["self","ways"] (kh c):=by
 refine F.ok f9 (fun vs H Q E h=>?_) (fun fR A outer s H vs Q E hr h=>?_);·obtain⟨a,wl,g,ws,rfl,_⟩:=h;rfl
 ·obtain⟨a,wl,g,ws,rfl,hG,⟨as,JV,Ny,hwa⟩,yN,k⟩:=h;obtain⟨dx,nr,hp,hn⟩:=hG.ex;have G:=hG.gb.ok;have hsz:=hG.gb.size_le;have hu:=K_ hr;refine⟨_,(ah (cE (i:=2) f9.nd rfl (bj rfl) Eh) (ah (gN bJ rfl (dP (pv 1)) (cQ (i:=3) f9.nd rfl (bj rfl)) (ay (gN bJ rfl (Uj rfl T.b.enumerate (aa (pv 3) ak)) (MT rfl (rL (cQ (i:=4) f9.nd rfl (bj rfl)) (rL (cQ (i:=5) f9.nd rfl (bj rfl)) IF))) (ah (IE hu (pv 2) (pv 5) vd rfl) (ay (cM (PW.pt (AV (bL KA (pv 4) aN (cJ _)) (zK (bL iB (bR (pv 0) iq hr (aa (cD bA (pv 3) (dj qU (pv 4) aN) (fun _ _=>rfl)) (aa (pv 5) ak))) (cb T.nE) (cJ _))))) (ay (gN bJ rfl (dP (bR (pv 0) lC hr (aa (bR (pv 0) gX hr (aa (pv 5) ak)) ak))) (cQ (i:=6) f9.nd rfl (bj rfl)) (ay (IE hu (pv 2) (pv 6) vd rfl)))) br)))))) (ay (aX (gA (LD rfl) rfl T.b.list mF (aa (pv 2) ak)))))),?_⟩;refine MD ?_;intro oO lG;intro d hd;have t0:Tk H (upd H d (.dK [])) d g.size [] (fun x=>∃w∈ws.take 0,x∈dJ g w):=⟨aQ.new hd,aq,by simp,by simp,fun x=>by simp⟩;let IV1:Nat->L2.St->Hp->Prop:=fun i σ H'=>∃x3 x4 x5 x6 ks,σ=[some (.ref a),some (.ref wl),some (.ref d),x3,x4,x5,x6]/\Tk H H' d g.size ks (fun x=>∃w∈ws.take i,x∈dJ g w);refine⟨_,rfl,wl,rfl,⟨_,cN.of (t0.s _ _ JV)⟩,e_ (K:=K) (a:=wl) (xs:=as.map V.ref) IV1
   ⟨none,none,none,none,[],rfl,t0⟩ (fun i σ H' _⟨_,_,_,_,_,_,t⟩=>cN.of (t.s _ _ JV)) ?_ ?_⟩
  ·rintro i y σ H1 hi ⟨x3,x4,x5,x6,ks,rfl,t1⟩;obtain⟨wa,YH,rfl⟩:∃wa,as[i]? =some wa/\y=V.ref wa:=by
    rw[bp]at hi;cases e:as[i]? with
    |none=>rw[e]at hi;cases hi
    |some z=>rw[e]at hi;exact⟨z,rfl,(bE hi).symm⟩
   obtain⟨wy,VJ⟩:∃wy,ws[i]? =some wy:=⟨_,aO (by have:=(aW.mp YH).1;omega)⟩;have K':=hwa i wy wa VJ YH;have hcy:=yN wy (aH VJ);have hlen:(d8 wy).length=wy.length:=ae _;let IV2:Nat->L2.St->Hp->Prop:=fun j σ H'=>∃x4 x5 x6 ks,σ=[some (.ref a),some (.ref wl),some (.ref d),some (.ref wa),x4,x5,x6]/\Tk H H' d g.size ks (fun x=>(∃w∈ws.take i,x∈dJ g w)\/TC g wy j x);refine⟨_,rfl,wa,_,rfl,cN.of (t1.s _ _ K'),SA (K:=K) (a:=wa) (xs:=d8 wy) IV2
    ⟨x4,x5,x6,ks,rfl,t1.imp fun x=>⟨.inl,fun q=>q.elim id fun z=>by rcases z with z|⟨_,_,_,z,_⟩;simp at z;omega⟩⟩ (fun j σ H' _⟨_,_,_,_,_,t⟩=>cN.of (t.s _ _ K')) ?_ ?_⟩
   ·rintro j y σ H2 TT hj ⟨x4,x5,x6,ks,rfl,t2⟩ hT;obtain⟨v,hv,rfl⟩:∃v,wy[j]? =some v/\y=vi v:=by
     rw[bp]at hj;cases e:wy[j]? with
     |none=>rw[e]at hj;cases hj
     |some z=>rw[e]at hj;exact⟨z,rfl,(bE hj).symm⟩
    have yM:=SO hcy hv;have t3:=t2.new (o:=.tup [.int (j:Nat),vi v]) hT;refine⟨TT,_,rfl,q_.of aq,rfl,_,_,rfl,_,_,rfl,rfl,?_⟩;refine⟨_,rfl,_,rfl,d,_,rfl,Oa.k (k:=dC (v:Int)) t3.at_ (Jd t3.nd t3.lt (by omega)),?_⟩;have t4:=t3.put hd yM;generalize upd (upd H2 TT (.tup [.int (j:Nat),vi v])) d (.dK (putK (yQ ks) (dC (v:Int)) (.bl true)))=H4 at t4⊢;refine⟨_,rfl,_,_,rfl,rfl,_,rfl,z3 (fun h=>?_) (fun h=>WZ ?_)⟩
    ·rw[au]at h;obtain⟨j',rfl⟩:∃j',j=j'+1:=⟨j-1,by omega⟩;obtain⟨u,Xd⟩:∃u,wy[j']? =some u:=⟨_,aO (by have:=(aW.mp hv).1;omega)⟩;obtain⟨nb,QZ,_⟩:=E4 G hcy Xd hv;have hk0:(vi (kind g u v)=V.int 0)↔g.layer u≠g.layer v:=by
      rw[V.int.injEq];unfold kind;rw[<-eY];by_cases q:g.isVia u v=true;·rw[aw q];simp[q]
      ·rw[ao q];have:(if g.row u=g.row v then 1 else 2:Nat)≠0:=by split<;>decide
       constructor;·intro z;omega
       ·intro z;exact bF z q
     refine⟨_,rfl,_,_,_,rfl,t4.s _ _ hp,z4,_,rfl,_,rfl,_,_,rfl,rfl,wa,_,_,vi u,rfl,rfl,cN.of (t4.s _ _ K'),at_of (j:=j') (by omega) (by rw[bp,Xd];rfl),_,rfl,a,g,u,v,rfl,hG.same t4.s,nb,rfl,_,rfl,qx (fun σ' H'=>∃x6 VI,σ'=[some (.ref a),some (.ref wl),some (.ref d),some (.ref wa),some (.int ((j'+1:Nat):Int)),some (vi v),x6]/\Tk H H' d g.size VI (fun x=>(∃w∈ws.take i,x∈dJ g w)\/TC g wy (j'+2) x)) (fun hc hR=>?_) (fun hc=>?_) ?_⟩
     ·rw[au,hk0]at hc;refine⟨_,rfl,_,_,_,rfl,t4.s _ _ hp,ES,_,rfl,_,_,_,rfl,t4.s _ _ hp,vt,_,rfl,a,g,v,rfl,hG.same t4.s,a,g,place g v,rfl,hG.same t4.s,place_lt G v,fun H5 pl s5 pP Xk=>?_⟩;rw[tV G v]at Xk;have t5:=t4.same s5;have ad1:H pl=none:=t4.s.free pP;refine⟨pl,rfl,⟨_,cN.of Xk⟩,e_ (K:=K) (a:=pl) (xs:=d8 (g.column v)) (fun q σ H'=>∃x6 VI,σ=[some (.ref a),some (.ref wl),some (.ref d),some (.ref wa),some (.int ((j'+1:Nat):Int)),some (vi v),x6]/\H' pl=some (.lst (d8 (g.column v)))/\Tk H H' d g.size VI (fun x=>(((∃w∈ws.take i,x∈dJ g w)\/TC g wy (j'+1) x)\/x=v)\/x∈(g.column v).take q)) ⟨x6,_,rfl,Xk,t5.imp fun x=>by simp⟩ (fun q σ H' _⟨_,_,_,e,_⟩=>cN.of e) ?_ ?_⟩
      ·rintro q y σ H6 hq ⟨x6,VI,rfl,e6,t6⟩;obtain⟨z,hz,rfl⟩:∃z,(g.column v)[q]? =some z/\y=vi z:=by
        rw[bp]at hq;cases e:(g.column v)[q]? with
        |none=>rw[e]at hq;cases hq
        |some z=>rw[e]at hq;exact⟨z,rfl,(bE hq).symm⟩
       have W9:=((nF G).mp (aH hz)).1;refine⟨_,rfl,_,rfl,d,_,rfl,Oa.k (k:=dC (z:Int)) t6.at_ (Jd t6.nd t6.lt (by omega)),?_⟩;refine⟨_,_,rfl,?_,(t6.put hd W9).imp fun x=>?_⟩;·rw[aj (mx e6 t6.at_ (by intro z;cases z))];exact e6
       ·rw[fP hz,or_assoc]
      ·rintro σ H6 ⟨x6,VI,rfl,e6,t6⟩;rw[ae,bG]at t6;refine hR _ _ ⟨x6,VI,rfl,t6.imp fun x=>?_⟩;rw[LF Xd hv];constructor
       ·rintro(((z|z)|z)|z);·exact .inl z
        ·exact .inr (.inl (.inl z))
        ·exact .inr (.inl (.inr z))
        ·exact .inr (.inr ⟨hc,z⟩)
       ·rintro(z|(z|z)|⟨_,z⟩);·exact .inl (.inl (.inl z))
        ·exact .inl (.inl (.inr z))
        ·exact .inl (.inr z)
        ·exact .inr z
     ·rw[au,hk0]at hc;refine⟨x6,_,rfl,t4.imp fun x=>?_⟩;rw[LF Xd hv];constructor
      ·rintro((z|z)|z);·exact .inl z
       ·exact .inr (.inl (.inl z))
       ·exact .inr (.inl (.inr z))
      ·rintro(z|(z|z)|⟨z,_⟩);·exact .inl (.inl z)
       ·exact .inl (.inr z)
       ·exact .inr z
       ·exact bF z hc
     ·rintro σ' H' ⟨x6,VI,rfl,t⟩;exact⟨_,_,x6,VI,rfl,t⟩
    ·rw[au]at h;obtain rfl:j=0:=by omega
     refine⟨_,_,x6,_,rfl,t4.imp fun x=>?_⟩;rw[QA hv];constructor
     ·rintro((z|z)|z);·exact .inl z
      ·rcases z with z|⟨_,_,_,z,_⟩;·simp at z
       ·omega
      ·exact .inr z
     ·rintro(z|z);·exact .inl (.inl z)
      ·exact .inr z
   ·rintro σ H2 ⟨x4,x5,x6,ks,rfl,t2⟩;rw[hlen]at t2;refine⟨_,x4,x5,x6,ks,rfl,t2.imp fun x=>?_⟩;rw[U8 G hcy];have e:ws.take (i+1)=ws.take i++[wy]:=by rw[HL,VJ];rfl
    rw[e];constructor
    ·rintro(⟨z,h1,h2⟩|z);·exact⟨z,by simp[h1],h2⟩
     ·exact⟨wy,by simp,z⟩
    ·rintro⟨z,h1,h2⟩;rcases a_.mp h1 with q|q;·exact .inl ⟨z,q,h2⟩
     ·simp at q;subst q;exact .inr h2
  ·rintro σ H1 ⟨x3,x4,x5,x6,ks,rfl,t1⟩;rw[ae,Ny,bG]at t1;refine⟨_,rfl,d,_,rfl,t1.at_,fun l hl=>?_⟩;have hl0:H l=none:=t1.s.free hl;exact k _ l ks (aQ.put t1.s hl0) hl0 (by rw[aq,R4]) t1.nd t1.mem
end
end Nw
namespace Nw
open PySem PySem.Spec PyProof.Rows L2
theorem Mg{A B:Hp->Prop}(h:A H):Rh σ H (fun b H3=>if b=true then A H3 else B H3):=by show if true=true then A H else B H;rw[aw rfl];exact h
theorem n6{α β:Type}{f:α->ab β}:∀{l:ab α},(∀a∈l,(f a).length<=m)->(l.flatMap f).length<=l.length*m
 |[],_=>by simp
 |a::l,h=>by have:=n6 (l:=l) fun b hb=>h b (by simp[hb]);have:=h a (by simp);rw[kf,bo,bg,fO,iH];omega
theorem take_snoc{α:Type}{l:ab α}{x:α}(h:l[i]? =some x):l.take (i+1)=l.take i++[x]:=by rw[HL,h];rfl
theorem ji{α:Type}{f:α->V}{l:ab α}{i:Nat}(h:(l.map f)[i]? =some y):∃x,l[i]? =some x/\y=f x:=by
 rw[bp]at h;cases e:l[i]? with
 |none=>rw[e]at h;cases h
 |some z=>rw[e]at h;exact⟨z,rfl,(bE h).symm⟩
section
variable{P:bT}{w:cU}{K:ag}{mg:Str->aY aA}{base:Heap}{c:Cs}{n:Nat}
inductive L4(c:Cs)(vs:ab V)(H:Hp)(Q:VK):Prop
 |mk (a l:Addr) (s:fM) (L x1 y1 x2 y2:Int) (q0:vs=[.ref a,.ref l]) (q1:gW c H a s.g) (q2:H l=some (.lst [.int L,.int x1,.int y1,.int x2,.int y2])) (q3:0<=L) (q4:L<=s.g.l) (q5:(0<=x1/\x1<=x2/\x2<(s.g.w:Int)/\0<=y1/\y1<=y2/\y2<(s.g.h:Int))) (q6:∀(H':Hp)(p:Addr),aQ H H'->H p=none->H' p=some (.lst (d8 (dq s L x1 y1 x2 y2)))->Q (.ref p) H')
def sJ(c:Cs):Sp:=fun vs H Q _=>L4 c vs H Q
abbrev nv:Stmt:=inClass (top 4) 8
theorem gS:bx ["self","box","layers","cells","layer","y"] ["self","box"] (aU nv):={}
theorem zR(F:gY K "box_cells" "Grid.box_cells" nv f fd)(T:Txt K mg c)(fc:bq P w K mg base c.d5 "cell_at" n ["self","spot"] (zx c)):cZ P w K mg base gZ (n+1) f fd ["self","box"] (sJ c):=by
 refine F.ok gS (fun vs H Q E h=>?_) (fun fR A outer s H vs Q E hr h=>?_);·obtain⟨a,l,s,L,x1,y1,x2,y2,rfl,_⟩:=h;rfl
 ·obtain⟨a,l,bd,L,x1,y1,x2,y2,rfl,hG,hl,hL0,hL1,⟨b1,b2,b3,b4,b5,b6⟩,k⟩:=h;obtain⟨dx,nr,hp,hn⟩:=hG.ex;have G:=hG.gb.ok;have hgw:=hG.gb.w;have hgh:=hG.gb.h;have hgl:=hG.gb.l;have ad7:=G.l;obtain⟨X1,rfl⟩:=hZ b1;obtain⟨X2,rfl⟩:=hZ (show 0<=x2 by omega);obtain⟨Y1,rfl⟩:=hZ b4;obtain⟨Y2,rfl⟩:=hZ (show 0<=y2 by omega);refine⟨_,(ah (cE (i:=2) gS.nd rfl (bj rfl) (cI (aa (cD bA (pv 1) aN (fun _ _=>rfl)) ak))) (ah (cM (bL iB (cD bA (pv 1) aN (fun _ _=>rfl)) aN (cJ _)) (ay (cE (i:=2) gS.nd rfl (bj rfl) (gA (yq rfl) rfl T.b.list mF (aa (gA Hv rfl T.b.range E6 (aa aN (aa (dj gO (aZ (pv 0) rfl) aN) ak))) ak)))) br) (ah (cE (i:=3) gS.nd rfl (bj rfl) (cI ak)) (ah (gN bJ rfl (dP (pv 2)) (cQ (i:=4) gS.nd rfl (bj rfl)) (ay (gN bJ rfl (vW rfl T.b.range (aa (cD bA (pv 1) aN (fun _ _=>rfl)) (aa (dj gO (cD bA (pv 1) aN (fun _ _=>rfl)) aN) ak))) (cQ (i:=5) gS.nd rfl (bj rfl)) (ay (da (AZ (pv 3) (aa (gA (yq rfl) rfl T.b.list mF (aa (gA Hv rfl T.b.range E6 (aa (bR (pv 0) fc hr (aa (cI (aa (pv 4) (aa (cD bA (pv 1) aN (fun _ _=>rfl)) (aa (pv 5) ak)))) ak)) (aa (dj gO (bR (pv 0) fc hr (aa (cI (aa (pv 4) (aa (cD bA (pv 1) aN (fun _ _=>rfl)) (aa (pv 5) ak)))) ak)) aN) ak))) ak)) ak))))))) (ay (aX (pv 3))))))),?_⟩;refine Yw ?_;intro GN uH oO lG;refine⟨_,rfl,_,_,_,_,rfl,rfl,cN.of hl,Gf,(by show 1<=sizeLine;decide),fun q0 YL=>?_⟩;have e1:upd H q0 (.lst [.int L]) l=some (.lst [.int L,.int (X1:Int),.int (Y1:Int),.int (X2:Int),.int (Y2:Int)]):=by rw[aj (aE hl YL)];exact hl
  refine⟨_,rfl,_,_,_,_,rfl,rfl,cN.of e1,Gf,rfl,_,rfl,qx (fun σ' H'=>∃(ll:Addr)(ks:ab Nat),σ'=[some (.ref a),some (.ref l),some (.ref ll),none,none,none]/\aQ H H'/\H ll=none/\H' ll=some (.lst (ks.map fun(k:Nat)=>V.int ((k:Int)+1)))/\ks.Pairwise (·<·)/\(∀k,k<bd.g.l->(k∈ks↔L=0\/L=(k:Int)+1))/\(∀k∈ks,k<bd.g.l)) (fun hc hR=>?_) (fun hc=>?_) ?_⟩
  ·rw[au]at hc;obtain rfl:L=0:=V.int.inj hc;have s1:aQ H (upd H q0 (.lst [.int 0])):=aQ.new YL;refine⟨_,rfl,_,_,_,_,_,rfl,s1 _ _ hp,T.gC,T.rT,rS,_,_,rfl,rfl,_,_,rfl,fun r YJ=>?_⟩;refine⟨r,_,_,_,bd.g.l,rfl,aq,qp (by omega) (by omega) (by omega) (by omega) (by omega) (by omega),(by unfold cV;rw[aw (by omega),aw (by omega)];omega),(by omega),fun m hm=>?_⟩;have s2:aQ H (upd (upd H q0 (.lst [.int 0])) r (Jx r 1 ((bd.g.l:Int)+1) 1)):=aQ.put s1 (s1.free YJ);have hm0:H m=none:=s2.free hm;refine hR _ _ ⟨m,cP bd.g.l,rfl,aQ.put s2 hm0,hm0,?_,jL,fun k hk=>?_,fun k hk=>dr.mp hk⟩;·rw[aq];unfold nP;congr 2;apply eC;intro k _;show V.int (1+(k:Int)*1)=V.int ((k:Int)+1);congr 1;omega
   ·simp[hk]
  ·rw[au]at hc;have hL:L≠0:=fun q=>hc (by rw[q]);refine⟨q0,[L.toNat-1],rfl,aQ.new YL,YL,?_,by simp,fun k hk=>?_,fun k hk=>?_⟩;·rw[aq];show some (HO.lst [V.int L])=some (HO.lst [V.int (((L.toNat-1:Nat):Int)+1)]);congr 3;congr 1;omega
   ·rw[bU];omega
   ·rw[bU]at hk;omega
  rintro σ1 H1 ⟨ll,ks,rfl,s1,ad5,Xn,aap,Sf,Xr⟩;refine⟨cH _,fun p Tr=>?_⟩;have hp0:H p=none:=s1.free Tr;have hlp:ll≠p:=aE Xn Tr;have hkl:ks.length<=4:=by have:=iC (n:=bd.g.l) (aap.imp fun h=>cG h) Xr;omega
  have Nt:∀k y,(rowOf bd.g k y X1 X2).length<=24:=fun k y=>by unfold rowOf;rw[ae,fk];omega
  have Xo:∀k,(s_ bd.g k Y1 Y2 X1 X2).length<=576:=fun k=>by
   unfold s_;refine bZ (n6 (m:=24) fun j _=>Nt k _) ?_;rw[fk];have:Y2+1-Y1<=24:=by omega
   omega
  refine⟨_,rfl,ll,rfl,⟨_,cN.of (by rw[aj hlp];exact Xn)⟩,e_ (K:=K) (a:=ll) (xs:=ks.map fun(k:Nat)=>V.int ((k:Int)+1)) (fun i σ H'=>∃x4 x5,σ=[some (.ref a),some (.ref l),some (.ref ll),some (.ref p),x4,x5]/\aQ H H'/\H' ll=some (.lst (ks.map fun(k:Nat)=>V.int ((k:Int)+1)))/\H' p=some (.lst (d8 (mz bd.g (ks.take i) Y1 Y2 X1 X2)))) ⟨none,none,rfl,aQ.put s1 hp0,(by rw[aj hlp];exact Xn),aq⟩ (fun i σ H' _⟨_,_,_,_,e,_⟩=>cN.of e) ?_ ?_⟩
  ·rintro i y σ H2 hi ⟨x4,x5,rfl,s2,aao,YO⟩;obtain⟨kk,Xs,rfl⟩:=ji hi;have hkm:=aH Xs;have hk3:=Xr kk hkm;have hli:=(aW.mp Xs).1;have UJ:(mz bd.g (ks.take i) Y1 Y2 X1 X2).length<=4*576:=by refine bZ (n6 (m:=576) fun k _=>Xo k) ?_;rw[cS];exact eP _ (by omega)
   refine⟨_,rfl,_,_,_,_,rfl,rfl,cN.of (s2 _ _ hl),Y8,_,rfl,_,_,_,_,rfl,rfl,cN.of (s2 _ _ hl),ai4,_,_,rfl,rfl,_,_,rfl,⟨by omega,by omega,by omega,by omega⟩,?_⟩;have ej:((Y2:Int)+1-(Y1:Int)).toNat=Y2+1-Y1:=by omega
   rw[ej];refine Hs (lo:=(Y1:Int)) (n:=Y2+1-Y1) (fun j σ H'=>∃x5,σ=[some (.ref a),some (.ref l),some (.ref ll),some (.ref p),some (.int ((kk:Int)+1)),x5]/\aQ H H'/\H' ll=some (.lst (ks.map fun(k:Nat)=>V.int ((k:Int)+1)))/\H' p=some (.lst (d8 (mz bd.g (ks.take i) Y1 Y2 X1 X2++(cP j).flatMap fun j=>rowOf bd.g kk (Y1+j) X1 X2)))) ⟨x5,rfl,s2,aao,by simpa using YO⟩ ?_ ?_
   ·rintro j σ H3 hj ⟨x5,rfl,s3,Sd,YN⟩;have adJ:((cP j).flatMap fun j=>rowOf bd.g kk (Y1+j) X1 X2).length<=576:=by refine bZ (n6 (m:=24) fun j _=>Nt kk _) ?_;rw[fk];omega
    refine⟨_,rfl,.inl ⟨rfl,_,cN.of YN⟩,?_⟩;refine⟨_,rfl,_,_,_,rfl,s3 _ _ hp,pQ,_,rfl,_,rfl,_,_,_,_,rfl,rfl,cN.of (s3 _ _ hl),Vc,_,rfl,(by show 3<=sizeLine;decide),fun q1 vp=>?_⟩;have s4:aQ H (upd H3 q1 (.lst [.int ((kk:Int)+1),.int (X1:Int),.int ((Y1:Int)+j)])):=aQ.put s3 (s3.free vp);refine⟨a,q1,bd.g,_,_,_,rfl,hG.same s4,aq,?_⟩;refine⟨_,rfl,_,_,_,rfl,s4 _ _ hp,pQ,_,rfl,_,rfl,_,_,_,_,rfl,rfl,cN.of (s4 _ _ hl),ai3,_,rfl,(by show 3<=sizeLine;decide),fun q2 JW=>?_⟩;have s5:aQ H (upd (upd H3 q1 (.lst [.int ((kk:Int)+1),.int (X1:Int),.int ((Y1:Int)+j)])) q2 (.lst [.int ((kk:Int)+1),.int (X2:Int),.int ((Y1:Int)+j)])):=aQ.put s4 (s4.free JW);refine⟨a,q2,bd.g,_,_,_,rfl,hG.same s5,aq,_,_,rfl,rfl,_,_,rfl,fun r YJ=>?_⟩;have c1:=vC (g:=bd.g) (L:=(kk:Int)+1) (x:=(X1:Int)) (y:=(Y1:Int)+j) (by omega) (by omega) (by omega);have c2:=vC (g:=bd.g) (L:=(kk:Int)+1) (x:=(X2:Int)) (y:=(Y1:Int)+j) (by omega) (by omega) (by omega);have ek:((kk:Int)+1).toNat-1=kk:=by omega
    have ey:((Y1:Int)+(j:Int)).toNat=Y1+j:=by omega
    rw[ek,ey]at c1 c2;simp only[aJ]at c1 c2;rw[c1,c2];have lt2:=mE (g:=bd.g) (k:=kk) (x:=X2) (y:=Y1+j) (by omega) (by omega) hk3;have adO:bd.g.cell kk X2 (Y1+j)=bd.g.cell kk X1 (Y1+j)+(X2-X1):=by unfold g8;omega
    have hsz:=hG.gb.size_le;have e5p:upd (upd H3 q1 (.lst [.int ((kk:Int)+1),.int (X1:Int),.int ((Y1:Int)+j)])) q2 (.lst [.int ((kk:Int)+1),.int (X2:Int),.int ((Y1:Int)+j)]) p=H3 p:=by have p1:p≠q1:=aE YN vp;rw[aj (aE (show upd H3 q1 _ p=some _ by rw[aj p1];exact YN) JW),aj p1]
    have e5l:upd (upd H3 q1 (.lst [.int ((kk:Int)+1),.int (X1:Int),.int ((Y1:Int)+j)])) q2 (.lst [.int ((kk:Int)+1),.int (X2:Int),.int ((Y1:Int)+j)]) ll=H3 ll:=by have p1:ll≠q1:=aE Sd vp;rw[aj (aE (show upd H3 q1 _ ll=some _ by rw[aj p1];exact Sd) JW),aj p1]
    rw[YN]at e5p;rw[Sd]at e5l;generalize upd (upd H3 q1 (.lst [.int ((kk:Int)+1),.int (X1:Int),.int ((Y1:Int)+j)])) q2 (.lst [.int ((kk:Int)+1),.int (X2:Int),.int ((Y1:Int)+j)])=H5 at s5 YJ e5p e5l⊢;refine⟨r,_,_,_,X2+1-X1,rfl,aq,qp (by omega) (by omega) (by omega) (by omega) (by omega) (by omega),(by unfold cV;rw[aw (by omega),aw (by omega)];omega),(by omega),fun m hm=>?_⟩;have pr:p≠r:=aE e5p YJ;have e6p:upd H5 r (Jx r (bd.g.cell kk X1 (Y1+j):Nat) ((bd.g.cell kk X2 (Y1+j):Nat)+1) 1) p=some (.lst (d8 (mz bd.g (ks.take i) Y1 Y2 X1 X2++(cP j).flatMap fun j=>rowOf bd.g kk (Y1+j) X1 X2))):=by rw[aj pr];exact e5p
    have pm:p≠m:=aE e6p hm;have s6:aQ H (upd H5 r (Jx r (bd.g.cell kk X1 (Y1+j):Nat) ((bd.g.cell kk X2 (Y1+j):Nat)+1) 1)):=aQ.put s5 (s5.free YJ);have e6l:upd H5 r (Jx r (bd.g.cell kk X1 (Y1+j):Nat) ((bd.g.cell kk X2 (Y1+j):Nat)+1) 1) ll=some (.lst (ks.map fun(k:Nat)=>V.int ((k:Int)+1))):=by rw[aj (aE e5l YJ)];exact e5l
    refine⟨p,m,_,_,rfl,rfl,(by rw[aj pm];exact e6p),aq,?_,?_⟩;·unfold nP d8;rw[ae,ae,fk,bo,bS];omega
    ·refine⟨_,rfl,aQ.put (aQ.put s6 (s6.free hm)) hp0,?_,?_⟩;·rw[aj hlp,aj (aE e6l hm)];exact e6l
     ·have er:nP ((bd.g.cell kk X1 (Y1+j):Nat):Int) 1 (X2+1-X1)=d8 (rowOf bd.g kk (Y1+j) X1 X2):=by unfold nP rowOf d8;rw[c_];apply eC;intro z _;show V.int (((bd.g.cell kk X1 (Y1+j):Nat):Int)+(z:Int)*1)=V.int ((bd.g.cell kk X1 (Y1+j)+z:Nat):Int);congr 1;omega
      rw[aq,er,lW,kY];simp[d8]
   ·rintro σ H3 ⟨x5,rfl,s3,Sd,YN⟩;refine⟨_,x5,rfl,s3,Sd,?_⟩;rw[YN,take_snoc Xs];unfold mz;rw[kY];simp[s_]
  ·rintro σ H2 ⟨x4,x5,rfl,s2,aao,YO⟩;rw[ae,bG,X_ G aap Sf Xr (by omega) (by omega)]at YO;exact⟨_,rfl,k _ p s2 hp0 YO⟩
theorem eK(h:fs.length<=m):(d9 f v fs).length<=m+1:=bZ (vn f v fs) (Nat.succ_le_succ h)
theorem jq{fs:ab (Str×V)}(h:fs.length<=m)(hm:m<1000:=by decide):fs.length<1000:=rn h hm
theorem XI:d9 "size" (vi g.size) (d9 "area" (vi (g.w*g.h)) (d9 "layers" (vi g.l) (d9 "rows" (vi g.h) (d9 "columns" (vi g.w) []))))=mC g:=by kernel_rfl
theorem XH:d9 "near" (.ref nr) (mC g)=iN g nr:=by kernel_rfl
theorem iS.upd(h:iS H l ps)(hl:l≠D)(hD:H D=some (.lst ys)):iS (L2.upd H D (.lst zs)) l ps:=by obtain⟨ts,h1,h2,h3⟩:=h;exact⟨ts,by rw[aj hl];exact h1,h2,fun i p t a b=>by have:=h3 i p t a b;rw[aj (mx this hD (by intro z;cases z))];exact this⟩
theorem iS.abe(h:iS H l ps)(ha:H a=some (.ins C dx fs)):iS (L2.upd H a (.ins C dx yO)) l ps:=by obtain⟨ts,h1,h2,h3⟩:=h;exact⟨ts,by rw[aj (mx h1 ha (by intro z;cases z))];exact h1,h2,fun i p t a' b=>by have:=h3 i p t a' b;rw[aj (mx this ha (by intro z;cases z))];exact this⟩
def Tu(M:ab Addr)(H:Hp):Hp:=fun b=>if b∈M then none else H b
theorem Sk(h:Tu M H b=some o):b∉M/\H b=some o:=by
 unfold Tu at h;split at h;·cases h
 ·exact⟨by assumption,h⟩
theorem EM(h:H b=some o)(hb:b∉M):Tu M H b=some o:=by unfold Tu;rw[ao hb];exact h
theorem Sj:aQ (Tu M H) H:=fun b o h=>(Sk h).2
inductive L0(c:Cs)(vs:ab V)(H:Hp)(Q:VK):Prop
 |mk (a dx:Addr) (g:Gd) (q0:vs=[.ref a,vi g.w,vi g.h,vi g.l]) (q1:GB g) (q2:H a=some (.ins c.d5 dx [])) (q3:∀H',(∀X:ab Addr,(∀b∈X,∃xs,H b=some (.lst xs))->gW c (Tu X H') a g)->(∀b o,H b=some o->b≠a->H' b=some o)->Q .iG H')
def DX(c:Cs):Sp:=fun vs H Q _=>L0 c vs H Q
abbrev ow:Stmt:=inClass (top 4) 0
theorem ng:bx ["self","columns","rows","layers","cell"] ["self","columns","rows","layers"] (aU ow):={}
theorem IW(F:gY K "__init__" "Grid.__init__" ow f fd)(T:Txt K mg c)(mH:bq P w K mg base c.d5 "near_cells" n ["self","cell"] (BX c)):cZ P w K mg base gZ (n+1) f fd ["self","columns","rows","layers"] (DX c):=by
 refine F.ok ng (fun vs H Q E h=>?_) (fun fR A outer s H vs Q E hr h=>?_);·obtain⟨a,dx,g,rfl,_⟩:=h;rfl
 ·obtain⟨a,dx,g,rfl,G,hp,k⟩:=h;have hw:=G.w;have hh:=G.h;have hsz:=G.size_le;have Ss:=G.qD;refine⟨_,(ah (fK (pv 0) (pv 1) rfl) (ah (fK (pv 0) (pv 2) rfl) (ah (fK (pv 0) (pv 3) rfl) (ah (fK (pv 0) (dj A7 (pv 1) (pv 2)) rfl) (ah (fK (pv 0) (dj A7 (dj A7 (pv 1) (pv 2)) (pv 3)) rfl) (ay (fK (pv 0) (oQ (own:=[("cell",4)]) rfl ng.nd (rK rfl T.b.range (aa (aZ (pv 0) rfl) ak)) (eG (by kernel_rfl)) (fun _ _ _ _ _=>cQ (i:=4) ng.nd rfl (bj rfl)) (fun _ _ _ _ _=>jz) (fun _ _ _ _ _=>(bR (pv 0) mH hr (aa (pv 4) ak)))) rfl))))))),?_⟩;refine Yv ?_;intro Og GN uH oO lG;refine⟨_,rfl,_,rfl,a,_,dx,_,rfl,hp,T.gC,T.iO,jq (m:=0) (aD _),?_⟩;refine⟨_,rfl,_,rfl,a,_,dx,_,rfl,aq,T.gC,T.EU,jq (eK (m:=0) (aD _)),?_⟩;refine⟨_,rfl,_,rfl,a,_,dx,_,rfl,aq,T.gC,T.rT,jq (eK (eK (m:=0) (aD _))),?_⟩;refine⟨_,rfl,_,rfl,_,_,rfl,rfl,.inl ⟨by omega,by omega⟩,_,rfl,a,_,dx,_,rfl,aq,T.gC,T.oB,jq (eK (eK (eK (m:=0) (aD _)))),?_⟩;refine⟨_,rfl,_,rfl,_,_,rfl,rfl,.inl ⟨by omega,by omega⟩,_,rfl,_,_,rfl,rfl,.inr ⟨by have:=G.l;omega,by have:=G.l;omega⟩,_,rfl,a,_,dx,_,rfl,aq,T.gC,T.pR,jq (eK (eK (eK (eK (m:=0) (aD _))))),?_⟩;simp only[vR];rw[show d9 "size" (V.int ((g.w:Int)*(g.h:Int)*(g.l:Int))) (d9 "area" (V.int ((g.w:Int)*(g.h:Int))) (d9 "layers" (vi g.l) (d9 "rows" (vi g.h) (d9 "columns" (vi g.w) []))))=mC g from XI];have hP:V1 c (upd H a (.ins c.d5 dx (mC g))) a g:=⟨G,dx,aq⟩;refine⟨_,rfl,a,_,dx,_,_,rfl,aq,T.gC,T.pR,O6,_,rfl,by omega,by omega,fun D hD=>?_⟩;have hDa:D≠a:=fun q=>by rw[q,aq]at hD;cases hD
  have hD0:H D=none:=by rw[aj hDa]at hD;exact hD
  refine zW (lo:=0) (n:=(g.size:Int).toNat) (fun i H'=>H' a=some (.ins c.d5 dx (mC g))/\(∀b o,H b=some o->b≠a->H' b=some o)/\∃ns:ab Addr,H' D=some (.lst (ns.map V.ref))/\ns.length=i/\∀(v:Nat)(l:Addr),ns[v]? =some l->(l≠D/\H l=none)/\iS H' l (mw g v)) ⟨?_,?_,[],aq,rfl,fun v l e=>by simp at e⟩ ?_ ?_;·rw[aj hDa.symm,aq]
  ·intro b o e hb;rw[aj (aE e hD0),aj hb];exact e
  ·rintro i H1 hi ⟨h1,h2,ns,h3,h4,h5⟩;rw[show(0:Int)+(i:Int)=(i:Int)from qh _];refine⟨rfl,Mg ?_⟩;refine⟨_,rfl,a,dx,_,rfl,h1,Gb,_,rfl,a,g,i,rfl,⟨G,dx,h1⟩,(by omega),fun H5 l s5 hl hp5=>?_⟩;have hlD:l≠D:=fun q=>by rw[q,h3]at hl;cases hl
   have hl0:H l=none:=by
    cases e:H l with
    |none=>rfl
    |some o=>
     by_cases Xp:l=a;·rw[Xp,h1]at hl;cases hl
     ·rw[h2 l o e Xp]at hl;cases hl
   refine⟨_,s5 _ _ h3,(by rw[ae,h4,bS];omega),?_,fun b o e hb=>?_,ns++[l],?_,by simp[h4],fun v l' e=>?_⟩;·rw[aj hDa.symm];exact s5 _ _ h1
   ·rw[aj (aE e hD0)];exact s5 _ _ (h2 b o e hb)
   ·rw[aq,cz];rfl
   ·by_cases hv:v<ns.length;·rw[iY hv]at e;obtain⟨q1,q2⟩:=h5 v l' e;exact⟨q1,(q2.same s5).upd q1.1 (s5 _ _ h3)⟩
    ·have hv2:=(aW.mp e).1;rw[bo,cn]at hv2;obtain rfl:v=ns.length:=by omega
     rw[iL (by omega),C4]at e;cases e;rw[h4];exact⟨⟨hlD,hl0⟩,hp5.upd hlD (s5 _ _ h3)⟩
  ·rintro H1 ⟨h1,h2,ns,h3,h4,h5⟩;refine⟨_,rfl,a,_,dx,_,rfl,h1,T.gC,T.NA,(by show 5<1000;decide),?_⟩;rw[XH];have kp:∀b o,H b=some o->b≠a->upd H1 a (.ins c.d5 dx (iN g D)) b=some o:=fun b o e hb=>by rw[aj hb];exact h2 b o e hb
   refine k _ (fun X hX=>?_) kp;have nx:∀{b:Addr},H b=none->b∉X:=fun{b} e q=>by obtain⟨xs,h⟩:=hX b q;rw[e]at h;cases h
   have na:a∉X:=fun q=>by obtain⟨xs,h⟩:=hX a q;rw[hp]at h;cases h
   refine⟨G,dx,D,EM aq na,ns,EM ?_ (nx hD0),by simpa using h4,fun v l e=>?_⟩;·rw[aj hDa];exact h3
   ·obtain⟨⟨_,q1⟩,q2⟩:=h5 v l e;obtain⟨ts,p1,p2,p3⟩:=q2.abe (yO:=iN g D) h1;refine⟨ts,EM p1 (nx q1),p2,fun i p t a' b'=>EM (p3 i p t a' b') fun z=>?_⟩;obtain⟨xs,h⟩:=hX t z;have:=kp t _ h fun y=>na (y▸z);rw[p3 i p t a' b']at this;cases this
end
end Nw
namespace Nw
open PySem PySem.Spec PyProof.Rows L2
def off(M:ab Addr)(H:Hp):Hp:=fun b=>if b∈M then none else H b
theorem nD(h:off M H b=some o):b∉M/\H b=some o:=by
 unfold off at h;split at h;·cases h
 ·rename_i q;exact⟨q,h⟩
theorem eZ(h:H b=some o)(hb:b∉M):off M H b=some o:=by unfold off;rw[ao hb];exact h
theorem dS:aQ (off M H) H:=fun b o h=>(nD h).2
structure Mv(M:ab Addr)(H:Hp)(M':ab Addr)(H':Hp):Prop where
 kp:∀b o,H b=some o->b∉M->H' b=some o
 mem:∀b∈M',b∈M\/H b=none
theorem Mv.off(m:Mv M H M' H'):aQ (Nw.off M H) (Nw.off M' H'):=fun b o h=>by
 obtain⟨h1,h2⟩:=nD h;refine eZ (m.kp b o h2 h1) fun q=>?_;rcases m.mem b q with z|z;·exact h1 z
 ·rw[h2]at z;cases z
theorem Mv.same(s:aQ H H'):Mv M H M H':=⟨fun b o e _=>s b o e,fun b h=>.inl h⟩
theorem Mv.refl:Mv M H M H:=Mv.same fun _ _ e=>e
theorem Mv.trans{M M' M2:ab Addr}(a:Mv M H M' H')(b:Mv M' H' M2 H2):Mv M H M2 H2:=by
 refine⟨fun x o e hx=>?_,fun x hx=>?_⟩
 ·have h1:=a.kp x o e hx;refine b.kp x o h1 fun q=>?_;rcases a.mem x q with z|z;·exact hx z
  ·rw[e]at z;cases z
 ·rcases b.mem x hx with z|z;·exact a.mem x z
  ·by_cases q:x∈M;·exact .inl q
   ·refine .inr ?_;cases e:H x with
    |none=>rfl
    |some o=>rw[a.kp x o e q]at z;cases z
theorem Mv.put(hb:b∈M):Mv M H M (upd H b o):=⟨fun x y e hx=>by rw[aj (fun q:x=b=>hx (q▸hb))];exact e,fun x h=>.inl h⟩
theorem Mv.kI(m:Mv M H M' H')(h:H b=some o)(hb:b∉M):H' b=some o/\b∉M':=nD (m.off b o (eZ h hb))|>.symm
def yP:cT->ab Addr->ab (Key×V)
 |p::F,l::ls=>(dC (p.1:Int),.ref l)::yP F ls
 |_,_=>[]
def FL(H:Hp):cT->ab Addr->Prop
 |[],[]=>True
 |p::F,l::ls=>H l=some (.lst (d8 p.2))/\FL H F ls
 |_,_=>False
theorem FL.len:∀{F:cT}{ls:ab Addr},FL H F ls->ls.length=F.length
 |[],[],_=>rfl
 |p::F,l::ls,h=>gh (·+1) (FL.len h.2)
theorem FL.mono:∀{F:cT}{ls:ab Addr},FL H F ls->(∀l∈ls,∀o,H l=some o->H' l=some o)->FL H' F ls
 |[],[],_,_=>trivial
 |p::F,l::ls,h,k=>⟨k l (by simp) _ h.1,FL.mono h.2 fun x hx=>k x (by simp[hx])⟩
theorem FL.snoc(hl:H l=some (.lst (d8 p.2))):∀{F:cT}{ls:ab Addr},FL H F ls->FL H (F++[p]) (ls++[l])
 |[],[],_=>⟨hl,trivial⟩
 |q::F,m::ls,h=>⟨h.1,FL.snoc hl h.2⟩
theorem Lo:∀{F:cT}{ls:ab Addr},ls.length=F.length->yP (F++[p]) (ls++[l])=yP F ls++[(dC (p.1:Int),.ref l)]
 |[],[],_=>rfl
 |q::F,m::ls,h=>by show _::yP (F++[p]) (ls++[l])=_::(yP F ls++_);rw[Lo (by simpa using h)]
theorem Lp:∀{F:cT}{ls:ab Addr},ls.length=F.length->(yP F ls).map (·.1)=(F.map fun p=>(p.1:Int)).map dC
 |[],[],_=>rfl
 |q::F,m::ls,h=>by show _::(yP F ls).map (·.1)=_::_;rw[Lp (by simpa using h)]
theorem Jj:∀{F:cT}{ls:ab Addr},ls.length=F.length->(yP F ls).length=F.length
 |[],[],_=>rfl
 |q::F,m::ls,h=>gh (·+1) (Jj (by simpa using h))
theorem Dk{H:Hp}(x:Nat):∀{F:cT}{ls:ab Addr},FL H F ls->(x∉F.map (·.1)/\nc (yP F ls) (dC (x:Int))=none/\∀v,push F x v=F++[(x,[v])])\/
  ∃i L l,F[i]? =some (x,L)/\ls[i]? =some l/\H l=some (.lst (d8 L))/\nc (yP F ls) (dC (x:Int))=some (.ref l)/\(∀v,push F x v=F.set i (x,L++[v]))/\∀v,∀H':Hp,H' l=some (.lst (d8 (L++[v])))->(∀m∈ls,m≠l->∀o,H m=some o->H' m=some o)->ls.Nodup->FL H' (F.set i (x,L++[v])) ls
 |[],[],_=>.inl ⟨by simp,rfl,fun _=>rfl⟩
 |(y,M)::F,m::ls,h=>by
  by_cases e:y=x;·subst e;refine .inr ⟨0,M,m,rfl,rfl,h.1,uC rfl,fun v=>by simp[push],fun v H' h1 h2 hn=>⟨h1,FL.mono h.2 fun z hz o q=>h2 z (by simp[hz]) (fun w=>(bQ.mp hn).1 (w▸hz)) o q⟩⟩
  ·have hv:nc (yP ((y,M)::F) (m::ls)) (dC (x:Int))=nc (yP F ls) (dC (x:Int)):=uD fun q=>e (key_ne.mp q);rcases Dk x h.2 with⟨h1,h2,h3⟩|⟨i,L,l,h1,h2,h3,h4,h5,h6⟩
   ·refine .inl ⟨?_,hv.trans h2,fun v=>?_⟩
    ·rw[cx,aF];rintro(q|q);·exact e q.symm
     ·exact h1 q
    ·unfold push;rw[ao e,h3];rfl
   ·refine .inr ⟨i+1,L,l,h1,h2,h3,hv.trans h4,fun v=>?_,fun v H' q1 q2 hn=>⟨?_,h6 v H' q1 (fun z hz=>q2 z (by simp[hz])) (bQ.mp hn).2⟩⟩;·unfold push;rw[ao e,h5];rfl
    ·have hml:m≠l:=fun w=>(bQ.mp hn).1 (w▸aH h2);exact q2 m (by simp) hml _ h.1
theorem UX:∀{F:cT}{ls:ab Addr},ls.length=F.length->F[i]? =some (x,L)->yP (F.set i (x,L')) ls=yP F ls:=by
 induction i with
 |zero=>
  intro F ls hl h;match F,ls,hl,h with
  |(y,M)::F,m::ls,hl,h=>cases h;rfl
 |succ i ih=>
  intro F ls hl h;match F,ls,hl,h with
  |p::F,m::ls,hl,h=>show _::yP (F.set i (x,L')) ls=_::yP F ls;rw[ih (by simpa using hl) h]
theorem Lq(c:Nat):∀{F:cT}{ls:ab Addr},FL H F ls->∃JU,FL H (drop F c) JU/\JU.Sublist ls/\rU (yP F ls) (dC (c:Int))=yP (drop F c) JU
 |[],[],_=>⟨[],trivial,.slnil,rfl⟩
 |(y,M)::F,m::ls,h=>by
  obtain⟨JU,h1,h2,h3⟩:=Lq c h.2;by_cases e:y=c
  ·refine⟨JU,?_,h2.cons m,?_⟩
   ·have:drop ((y,M)::F) c=drop F c:=by unfold drop;rw[eu,ao (by simp[e])]
    rw[this];exact h1
   ·have:drop ((y,M)::F) c=drop F c:=by unfold drop;rw[eu,ao (by simp[e])]
    rw[this,<-h3];exact Qt (key_ne.mpr e)
  ·have:drop ((y,M)::F) c=(y,M)::drop F c:=by unfold drop;rw[eu,aw (by simp[e])]
   refine⟨m::JU,?_,h2.cons_cons m,?_⟩;·rw[this];exact⟨h.1,h1⟩
   ·rw[this];show _=_::yP (drop F c) JU;rw[<-h3];exact Qu fun q=>e (key_ne.mp q)
def mB(gr et:Addr):ab (Str×V):=[("grid",.ref gr),("enter",.ref et)]
section
variable{gr et:Addr}
theorem zJ:(mB gr et).lookup ("grid":Str)=some (.ref gr):=by kernel_rfl
theorem Kq:(mB gr et).lookup ("enter":Str)=some (.ref et):=by kernel_rfl
end
def Lv(g:Gd)(f:Nat->Int):ab V:=(cP g.size).map fun v=>V.int (f v)
theorem Jk(h:v<g.size):(Lv g f)[v]? =some (V.int (f v)):=by unfold Lv;rw[bp,p9 h];rfl
structure fT(c:Cs)(H:Hp)(a:Addr)(g:Gd)(en:Nat->Nat->Int):Prop where
 ex:∃dx gr et e0 e1 e2,H a=some (.ins c.ground dx (mB gr et))/\gW c H gr g/\H et=some (.tup [.ref e0,.ref e1,.ref e2])/\H e0=some (.lst (Lv g (en 0)))/\H e1=some (.lst (Lv g (en 1)))/\H e2=some (.lst (Lv g (en 2)))
theorem fT.same{en:Nat->Nat->Int}(h:fT c H a g en)(s:aQ H H'):fT c H' a g en:=by obtain⟨dx,gr,et,e0,e1,e2,h1,h2,h3,h4,h5,h6⟩:=h.ex;exact⟨dx,gr,et,e0,e1,e2,s _ _ h1,h2.same s,s _ _ h3,s _ _ h4,s _ _ h5,s _ _ h6⟩
def m_(gd cl fd:Addr):ab (Str×V):=[("ground",.ref gd),("costs",.ref cl),("fronts",.ref fd)]
section
variable{gd cl fd:Addr}
theorem vQ:(m_ gd cl fd).lookup ("ground":Str)=some (.ref gd):=by kernel_rfl
theorem nT:(m_ gd cl fd).lookup ("costs":Str)=some (.ref cl):=by kernel_rfl
theorem rA:(m_ gd cl fd).lookup ("fronts":Str)=some (.ref fd):=by kernel_rfl
theorem Od:(m_ gd cl fd).lookup ("meet":Str)=none:=by kernel_rfl
theorem yW:(m_ gd cl fd).lookup ("reach":Str)=none:=by kernel_rfl
theorem xf:(m_ gd cl fd).lookup ("nearest_of":Str)=none:=by kernel_rfl
theorem HQ:(m_ gd cl fd).lookup ("step_from":Str)=none:=by kernel_rfl
theorem JZ:(m_ gd cl fd).lookup ("way_back":Str)=none:=by kernel_rfl
theorem Du:(m_ gd cl fd).lookup ("cell_before":Str)=none:=by kernel_rfl
end
structure WA where
 dx:Addr
 gd:Addr
 cl:Addr
 fd:Addr
 ls:ab Addr
abbrev WA.M(W:WA):ab Addr:=W.cl::W.fd::W.ls
structure eh(c:Cs)(H:Hp)(a:Addr)(W:WA)(g:Gd)(en:Nat->Nat->Int)(cs:ab Int)(F:cT):Prop where
 at_:H a=some (.ins c.wave W.dx (m_ W.gd W.cl W.fd))
 gd:fT c (off W.M H) W.gd g en
 cl:H W.cl=some (.lst (cs.map V.int))
 fd:H W.fd=some (.dK (yP F W.ls))
 fl:FL H F W.ls
 nd:(W.cl::W.ls).Nodup
 ln:cs.length=g.size
theorem eh.same{en:Nat->Nat->Int}(h:eh c H a W g en cs F)(s:aQ H H'):eh c H' a W g en cs F:=⟨s _ _ h.at_,h.gd.same (Mv.same s).off,s _ _ h.cl,s _ _ h.fd,h.fl.mono fun l _ o e=>s l o e,h.nd,h.ln⟩
theorem eh.ground{en:Nat->Nat->Int}(h:eh c H a W g en cs F):fT c H W.gd g en:=h.gd.same dS
theorem pN{xs:ab Int}{v:Nat}(h:xs[v]? =some z):(xs.map V.int)[v]? =some (V.int z):=by rw[bp,h];rfl
section
variable{P:bT}{w:cU}{K:ag}{mg:Str->aY aA}{base:Heap}{c:Cs}{n:Nat}
inductive Vk(c:Cs)(vs:ab V)(H:Hp)(Q:VK):Prop
 |mk (a:Addr) (W:WA) (g:Gd) (en:Nat->Nat->Int) (cs:ab Int) (F:cT) (v x:Nat) (q0:vs=[.ref a,vi v,vi x]) (q1:eh c H a W g en cs F) (q2:v<g.size) (q3:wt F+2<1000000) (q4:∀(H':Hp)(W':WA),eh c H' a W' g en (cs.set v (x:Int)) (push F x v)->Mv W.M H W'.M H'->W'.gd=W.gd/\W'.cl=W.cl/\W'.fd=W.fd->Q .iG H')
def Ig(c:Cs):Sp:=fun vs H Q _=>Vk c vs H Q
abbrev uZ:Stmt:=inClass (top 43) 2
theorem Ip:bx ["self","cell","cost"] ["self","cell","cost"] (aU uZ):={}
theorem IT(F:gY K "meet" "Wave.meet" uZ f fd)(T:Txt K mg c):cZ P w K mg base gZ 1 f fd ["self","cell","cost"] (Ig c):=by
 refine F.ok Ip (fun vs H Q E h=>?_) (fun fR A outer s H vs Q E hr h=>?_);·obtain⟨a,W,g,en,cs,F,v,x,rfl,_⟩:=h;rfl
 ·obtain⟨a,W,g,en,cs,F,v,x,rfl,hW,hv,hwt,k⟩:=h;refine⟨_,(ah (pI (pv 2) (pJ (aZ (pv 0) rfl) (pv 1) set_list)) (ay (da (pK (MV (aZ (pv 0) rfl) (pv 2) (cI ak) ⟨rfl,rfl,rfl,rfl⟩) (aa (pv 1) ak))))),?_⟩;refine QW ?_;intro lG;have hvl:v<cs.length:=by rw[hW.ln];exact hv
  refine⟨_,rfl,_,rfl,_,_,_,_,_,rfl,hW.at_,T.wC,T.oV,nT,_,rfl,W.cl,_,_,v,rfl,rfl,hW.cl,(by unfold To;rw[ae,aw (by omega),aw (by omega)];simp),?_⟩;rw[show(cs.map V.int).set v (vi x)=(cs.set v (x:Int)).map V.int by rw[List.map_set]];have ncl:=(bQ.mp hW.nd).1;have hac:a≠W.cl:=mx hW.at_ hW.cl (by intro z;cases z);have hfc:W.fd≠W.cl:=mx hW.fd hW.cl (by intro z;cases z);have haf:a≠W.fd:=mx hW.at_ hW.fd (by intro z;cases z);have m1:Mv W.M H W.M (upd H W.cl (.lst ((cs.set v (x:Int)).map V.int))):=Mv.put (by simp);have W1:eh c (upd H W.cl (.lst ((cs.set v (x:Int)).map V.int))) a W g en (cs.set v (x:Int)) F:=⟨by rw[aj hac];exact hW.at_,hW.gd.same m1.off,aq,by rw[aj hfc];exact hW.fd,hW.fl.mono fun l hl o e=>by rw[aj (fun q:l=W.cl=>ncl (q▸hl))];exact e,hW.nd,by rw[hJ];exact hW.ln⟩;generalize upd H W.cl (.lst ((cs.set v (x:Int)).map V.int))=H1 at m1 W1⊢;have hlen:(yP F W.ls).length<sizeLine:=by rw[Jj W1.fl.len];have:=Q8 F;rw[bS];omega
  refine⟨_,rfl,_,_,_,_,_,rfl,W1.at_,T.wC,T.rB,rA,W.fd,rfl,.inl ⟨_,.inl W1.fd⟩,_,rfl,cH _,fun q hq=>?_⟩;have hqf:W.fd≠q:=aE W1.fd hq;have W2:=W1.same (aQ.new (o:=.lst []) hq);refine⟨_,dC (x:Int),W2.fd,rfl,hlen,fun y hy=>?_,fun hy=>?_⟩
  ·rcases Dk x W2.fl with⟨_,h2,_⟩|⟨i,L,l,h1,h2,h3,h4,h5,h6⟩;·rw[h2]at hy;cases hy
   ·rw[h4]at hy;cases hy;have hlm:l∈W.ls:=aH h2;have Xn:L.length<sizeLine:=by have:=Q7 (aH h1);rw[bS];omega
    refine⟨.inl ⟨rfl,_,cN.of h3⟩,_,rfl,l,_,_,rfl,rfl,h3,(by rw[ae];exact Xn),?_⟩;have Ny:a≠l:=mx W2.at_ h3 (by intro z;cases z);have Tv:W.fd≠l:=mx W2.fd h3 (by intro z;cases z);have EO:W.cl≠l:=fun z=>ncl (z▸hlm);rw[show(d8 L++[vi v])=d8 (L++[v]) by unfold d8;rw[cz];rfl];have m2:Mv W.M H W.M (upd (upd H1 q (.lst [])) l (.lst (d8 (L++[v])))):=(m1.trans (Mv.same (aQ.new hq))).trans (Mv.put (by simp[hlm]));refine k _ W ⟨by rw[aj Ny];exact W2.at_,hW.gd.same m2.off,by rw[aj EO];exact W2.cl,?_,?_,hW.nd,W2.ln⟩ m2 ⟨rfl,rfl,rfl⟩;·rw[aj Tv,h5,UX W2.fl.len h1];exact W2.fd
    ·rw[h5];exact h6 v _ aq (fun z _ hz o e=>by rw[aj hz];exact e) (bQ.mp hW.nd).2
  ·rcases Dk x W2.fl with⟨h1,h2,h3⟩|⟨i,L,l,_,_,_,h4,_⟩
   ·refine⟨.inl ⟨rfl,[],cN.of (by rw[aj hqf.symm];exact aq)⟩,_,rfl,q,_,_,rfl,rfl,(by rw[aj hqf.symm];exact aq),(by show 0<sizeLine;decide),?_⟩;have hql:q∉W.ls:=fun z=>by
     have:∀{F:cT}{ls:ab Addr},FL H1 F ls->q∈ls->False:=by
      intro F;induction F with
      |nil=>intro ls h hz;cases ls with
       |nil=>simp at hz
       |cons=>exact h
      |cons p F ih=>intro ls h hz;cases ls with
       |nil=>exact h
       |cons m ls=>
        rcases aF.mp hz with e|e;·have h1:=h.1;rw[<-e,hq]at h1;cases h1
        ·exact ih h.2 e
     exact this W1.fl z
    have hqc:q≠W.cl:=(aE W1.cl hq).symm;have hqa:a≠q:=aE W1.at_ hq;have YL:H q=none\/q∈W.M:=by
     by_cases z:q∈W.M;·exact .inr z
     ·refine .inl ?_;cases e:H q with
      |none=>rfl
      |some o=>rw[m1.kp q o e z]at hq;cases hq
    have m2:Mv W.M H (W.cl::W.fd::(W.ls++[q])) (upd (upd (upd H1 q (.lst [])) W.fd (.dK (putK (yP F W.ls) (dC (x:Int)) (.ref q)))) q (.lst ([]++[vi v]))):=by
     refine⟨fun b o e hb=>?_,fun b hb=>?_⟩;·have e1:=m1.kp b o e hb;have b1:b≠q:=aE e1 hq;have b2:b≠W.fd:=fun z=>hb (by rw[z];simp);rw[aj b1,aj b2,aj b1];exact e1
     ·rcases aF.mp hb with z|z;·exact .inl (by rw[z];simp)
      ·rcases aF.mp z with z|z;·exact .inl (by rw[z];simp)
       ·rcases a_.mp z with z|z;·exact .inl (by simp[z])
        ·simp at z;subst z;exact YL.symm
    refine k _ ⟨W.dx,W.gd,W.cl,W.fd,W.ls++[q]⟩ ⟨?_,hW.gd.same m2.off,?_,?_,?_,?_,W2.ln⟩ m2 ⟨rfl,rfl,rfl⟩;·show upd (upd (upd H1 q _) W.fd _) q _ a=_;rw[aj hqa,aj haf,aj hqa];exact W1.at_
    ·show upd (upd (upd H1 q _) W.fd _) q _ W.cl=_;rw[aj hqc.symm,aj hfc.symm,aj hqc.symm];exact W1.cl
    ·show upd (upd (upd H1 q _) W.fd _) q _ W.fd=_;rw[aj hqf,aq,h3,Lo W2.fl.len,Ku _ h2]
    ·rw[h3];refine FL.snoc (p:=(x,[v])) aq (W1.fl.mono fun l hl o e=>?_);have z1:l≠q:=fun z=>hql (z▸hl);have z2:l≠W.fd:=by
      intro z;have:∀{F:cT}{ls:ab Addr},FL H1 F ls->l∈ls->∃L,H1 l=some (.lst L):=by
       intro F;induction F with
       |nil=>intro ls h hz;cases ls with
        |nil=>simp at hz
        |cons=>exact h.elim
       |cons p F ih=>intro ls h hz;cases ls with
        |nil=>exact h.elim
        |cons m ls=>
         rcases aF.mp hz with e|e;·exact⟨_,e▸h.1⟩
         ·exact ih h.2 e
      obtain⟨L,hL⟩:=this W1.fl hl;rw[z,W1.fd]at hL;cases hL
     rw[aj z1,aj z2,aj z1];exact e
    ·show(W.cl::(W.ls++[q])).Nodup;have hn:=bQ.mp hW.nd;rw[bQ];refine⟨?_,zT hn.2 hql⟩;rw[a_,bU];rintro(z|z);·exact hn.1 z
     ·exact hqc z.symm
   ·rw[h4]at hy;cases hy
end
end Nw
namespace Nw
open PySem PySem.Spec PyProof.Rows L2
def Y':HO->Prop
 | .lst _=>False
 | .tup _=>False
 | .ins _ _ _=>False
 |_=>True
theorem qW{H:Hp}(hd:H d=some o)(ho:Y' o)(hx:H x=some u)(hu:¬Y' u):x∉[d]:=fun q=>by rw[bU]at q;rw[q,hd]at hx;cases hx;exact hu ho
theorem iS.skip(h:iS H l ps)(hd:H d=some o)(ho:Y' o):iS (off [d] H) l ps:=by obtain⟨ts,h1,h2,h3⟩:=h;exact⟨ts,eZ h1 (qW hd ho h1 id),h2,fun i p t a b=>eZ (h3 i p t a b) (qW hd ho (h3 i p t a b) id)⟩
theorem gW.skip(h:gW c H a g)(hd:H d=some o)(ho:Y' o):gW c (off [d] H) a g:=by obtain⟨dx,nr,h1,ns,h2,h3,h4⟩:=h.ex;exact⟨h.gb,dx,nr,eZ h1 (qW hd ho h1 id),ns,eZ h2 (qW hd ho h2 id),h3,fun v l e=>(h4 v l e).skip hd ho⟩
theorem fT.skip{en:Nat->Nat->Int}(h:fT c H a g en)(hd:H d=some o)(ho:Y' o):fT c (off [d] H) a g en:=by obtain⟨dx,gr,et,e0,e1,e2,h1,h2,h3,h4,h5,h6⟩:=h.ex;exact⟨dx,gr,et,e0,e1,e2,eZ h1 (qW hd ho h1 id),h2.skip hd ho,eZ h3 (qW hd ho h3 id),eZ h4 (qW hd ho h4 id),eZ h5 (qW hd ho h5 id),eZ h6 (qW hd ho h6 id)⟩
theorem eh.VX{en:Nat->Nat->Int}(h:eh c H a W g en cs F)(hd:H d=some o)(ho:Y' o)(hm:d∉W.M):eh c (upd H d u) a W g en cs F:=by
 have had:a≠d:=fun q=>qW hd ho h.at_ id (by simp[q]);refine⟨by rw[aj had];exact h.at_,(h.gd.skip (eZ hd hm) ho).same fun b x e=>?_,?_,?_,h.fl.mono fun l hl x e=>?_,h.nd,h.ln⟩;·obtain⟨e1,e2⟩:=nD e;obtain⟨e3,e4⟩:=nD e2;exact eZ (by rw[aj (fun q=>e1 (by simp[q]))];exact e4) e3
 ·rw[aj (fun q=>hm (by simp[<-q]))];exact h.cl
 ·rw[aj (fun q=>hm (by simp[<-q]))];exact h.fd
 ·rw[aj (fun q:l=d=>hm (by simp[<-q,hl]))];exact e
theorem Sz{g:TG}{tb:TS}{D:Ends}(Pv:Nat->L2.St->Hp->Prop)(h0:Pv 0 σ H)(hl:∀i σ H,i<=kvs.length->Pv i σ H->H d=some (.qX o (.dK kvs)))(hs:∀i k v σ H,kvs[i]? =some (k,v)->Pv i σ H->g (kV k) σ H fun σ2 H2=>tb {D with nx:=Pv (i+1),ct:=Pv (i+1),bk:=D.nx} σ2 H2)(hd:∀σ H,Pv kvs.length σ H->D.nx σ H):∃W:Nat->Nat->L2.St->Hp->Prop,(∃m,W 0 m σ H)/\∀i m σ H,W i m σ H->((Itk d o kvs).stop i H/\D.nx σ H)\/((Itk d o kvs).go i H/\∃N:L2.St->Hp->Prop,(∀σ' H',N σ' H'->∃m',m'<m/\W (i+1) m' σ' H')/\∀x H',(Itk d o kvs).L8 i H x H'->g x σ H' fun σ2 H2=>tb {D with nx:=N,ct:=N,bk:=D.nx} σ2 H2):=by
 refine⟨fun i m σ H=>m=kvs.length-i/\i<=kvs.length/\Pv i σ H,⟨kvs.length,by simp,cH _,h0⟩,?_⟩;rintro i m σ H ⟨rfl,hi,p⟩;have q:=hl i σ H hi p;by_cases jQ:i<kvs.length;·refine .inr ⟨⟨q,jQ⟩,Pv (i+1),fun σ' H' p'=>⟨kvs.length-(i+1),by omega,rfl,jQ,p'⟩,?_⟩;rintro x H' ⟨rfl,k,v,e,rfl⟩;exact hs i k v σ _ e p
 ·obtain rfl:i=kvs.length:=by omega
  exact .inl ⟨⟨q,aD _⟩,hd σ H p⟩
theorem XZ{i:Nat}(h:(yQ ks)[i]? =some (k,v)):∃x,ks[i]? =some x/\k=dC (x:Int):=by
 unfold yQ at h;rw[bp]at h;cases e:ks[i]? with
 |none=>rw[e]at h;cases h
 |some z=>rw[e]at h;cases h;exact⟨z,rfl,rfl⟩
section
variable{P:bT}{w:cU}{K:ag}{mg:Str->aY aA}{base:Heap}{c:Cs}{n:Nat}
abbrev Kp(W W':WA):Prop:=W'.gd=W.gd/\W'.cl=W.cl/\W'.fd=W.fd
theorem Kp.trans(a:Kp W W')(b:Kp W' W2):Kp W W2:=⟨b.1.trans a.1,b.2.1.trans a.2.1,b.2.2.trans a.2.2⟩
inductive S_(c:Cs)(vs:ab V)(H:Hp)(Q:VK):Prop
 |mk (a l:Addr) (W:WA) (g:Gd) (en:Nat->Nat->Int) (use:Nat->Bool) (cost:Nat->Nat->Nat) (src:ab Nat) (cs:ab Int) (F:cT) (Wt:Nat->Prop) (m:Nat) (ks:ab Nat) (q0:vs=[.ref a,.ref l]) (q1:eh c H a W g en cs F) (q2:Rest g (az g use) cost src cs F Wt m) (q3:(∀k∈ks,k<g.size)) (q4:m+2*ks.length+2<1000000) (q5:l∉W.M) (q6:(H l=some (.lst (d8 ks))\/H l=some (.dK (yQ ks)))) (q7:∀(H':Hp)(W':WA)(tp:ab Int)(F':cT),eh c H' a W' g en tp F'->Rest g (az g use) cost (ks.reverse++src) tp F' Wt (m+2*ks.length)->Mv W.M H W'.M H'->Kp W W'->Q .iG H')
def Ie(c:Cs):Sp:=fun vs H Q _=>S_ c vs H Q
structure Yh(c:Cs)(H0:Hp)(a:Addr)(W0:WA)(g:Gd)(en:Nat->Nat->Int)(use:Nat->Bool)(cost:Nat->Nat->Nat)(src:ab Nat)(Wt:Nat->Prop)(m:Nat)(ks:ab Nat)(H:Hp)(i:Nat)(W:WA)(cs:ab Int)(F:cT):Prop where
 wa:eh c H a W g en cs F
 re:Rest g (az g use) cost ((ks.take i).reverse++src) cs F Wt (m+2*i)
 mv:Mv W0.M H0 W.M H
 kp:Kp W0 W
theorem Ea{en:Nat->Nat->Int}(r:Yh c H0 a W0 g en use cost src Wt m ks H i W cs F)(hv:ks[i]? =some v)(hz:cs[v]? =some z):(¬0<z->Yh c H0 a W0 g en use cost src Wt m ks H (i+1) W cs F)/\(0<z->v<g.size->∀H' W',eh c H' a W' g en (cs.set v 0) (push F 0 v)->Mv W.M H W'.M H'->Kp W W'->Yh c H0 a W0 g en use cost src Wt m ks H' (i+1) W' (cs.set v 0) (push F 0 v)):=by
 have e:(ks.take (i+1)).reverse++src=v::((ks.take i).reverse++src):=by rw[take_snoc hv,List.reverse_append];rfl
 refine⟨fun h=>⟨r.wa,?_,r.mv,r.kp⟩,fun h hs H' W' w' mv' kp'=>⟨w',?_,r.mv.trans mv',r.kp.trans kp'⟩⟩;·rw[e];exact(r.re.old hz h).rest (by simp;omega)
 ·rw[e];exact(r.re.reach hs hz h).rest (by simp;omega)
abbrev sQ:Stmt:=inClass (top 43) 1
theorem qK:bx ["self","cells","cell"] ["self","cells"] (aU sQ):={}
theorem FW(F:gY K "reach" "Wave.reach" sQ f fd)(T:Txt K mg c)(j8:bq P w K mg base c.wave "meet" n ["self","cell","cost"] (Ig c)):cZ P w K mg base gZ (n+1) f fd ["self","cells"] (Ie c):=by
 refine F.ok qK (fun vs H Q E h=>?_) (fun fR A outer s H vs Q E hr h=>?_);·obtain⟨a,l,W,g,en,use,cost,src,cs,F,Wt,m,ks,rfl,_⟩:=h;rfl
 ·obtain⟨a,l,W,g,en,use,cost,src,cs,F,Wt,m,ks,rfl,hW,hR,Ql,hm,Se,hl,k⟩:=h;refine⟨_,ay (PS.or (gN bJ rfl (dP (pv 1)) (cQ (i:=2) qK.nd rfl (bj rfl)) (ay (cM (bL KA (cD bA (aZ (pv 0) rfl) (pv 2) (fun _ _=>rfl)) aN (cJ _)) (ay (da (bR (pv 0) j8 hr (aa (pv 2) (aa aN ak))))) br)))
   (Ue (gN bJ rfl (Ui (pv 1)) (cQ (i:=2) qK.nd rfl (bj rfl)) (ay (cM (bL KA (cD bA (aZ (pv 0) rfl) (pv 2) (fun _ _=>rfl)) aN (cJ _)) (ay (da (bR (pv 0) j8 hr (aa (pv 2) (aa aN ak))))) br))))),?_⟩
  have turn:∀(H0:Hp)(D:Ends)(H1:Hp)(i v:Nat)(W1:WA)(Am:ab Int)(F1:cT),Yh c H0 a W g en use cost src Wt m ks H1 i W1 Am F1->ks[i]? =some v->(∀H2 W2 cs2 F2,Yh c H0 a W g en use cost src Wt m ks H2 (i+1) W2 cs2 F2->Mv W1.M H1 W2.M H2->D.nx [some (.ref a),some (.ref l),some (vi v)] H2)->Zl (Ri (Yt (RG fun i j=>V.bl (decide (i>j))) (Yt (Uc K) (Wg K (J' 0) "costs") (J' 2)) (tC (.int 0)))) (Vt (J_ c.wave "meet" (Ig c) [] E0 (J' 0) (Rl (J' 2) (Rl (tC (.int 0)) PH)))) Rj D [some (.ref a),some (.ref l),some (vi v)] H1:=by
   intro H0 D H1 i v W1 Am F1 r hv hn;have yM:=Ql v (aH hv);obtain⟨z,hz,_,_⟩:=r.re.C.get yM;have hi:=(aW.mp hv).1;refine⟨_,rfl,_,_,_,_,_,rfl,r.wa.at_,T.wC,T.oV,nT,_,rfl,_,_,_,_,rfl,rfl,cN.of r.wa.cl,cA (pN hz),_,_,rfl,rfl,_,rfl,z3 (fun h=>?_) (fun h=>?_)⟩
   ·rw[au]at h;refine⟨_,rfl,a,_,_,rfl,r.wa.at_,Od,_,rfl,a,W1,g,en,Am,F1,v,0,rfl,r.wa,yM,?_,fun H2 W2 w2 m2 k2=>?_⟩;·have:=r.re.wt;simp at this;omega
    ·exact hn H2 W2 _ _ ((Ea r hv hz).2 h yM H2 W2 w2 m2 k2) m2
   ·rw[au]at h;exact hn H1 W1 Am F1 ((Ea r hv hz).1 h) Mv.refl
  rcases hl with hl|hl
  ·let IV3:Nat->L2.St->Hp->Prop:=fun i σ H'=>∃x W' tp F',σ=[some (.ref a),some (.ref l),x]/\Yh c H a W g en use cost src Wt m ks H' i W' tp F'/\H' l=some (.lst (d8 ks))/\l∉W'.M;refine .inl ⟨_,rfl,l,rfl,⟨_,cN.of hl⟩,e_ (K:=K) (a:=l) (xs:=d8 ks) IV3
    ⟨none,W,cs,F,rfl,⟨hW,by simpa using hR,Mv.refl,rfl,rfl,rfl⟩,hl,Se⟩ (fun i σ H' _⟨_,_,_,_,_,_,e,_⟩=>cN.of e) ?_ ?_⟩
   ·rintro i y σ H1 hi ⟨x,W1,Am,F1,rfl,r,Hl,Nu⟩;obtain⟨v,hv,rfl⟩:=ji hi;refine turn H _ H1 i v W1 Am F1 r hv fun H2 W2 cs2 F2 r2 m2=>?_;obtain⟨q1,q2⟩:=m2.kI Hl Nu;exact⟨_,W2,cs2,F2,rfl,r2,q1,q2⟩
   ·rintro σ H1 ⟨x,W1,Am,F1,rfl,r,Hl,Nu⟩;have e:(d8 ks).length=ks.length:=ae _;rw[e]at r;have:=r.re;rw[bG]at this;exact k H1 W1 Am F1 r.wa this r.mv r.kp
  ·refine .inr ⟨l,_,hl,trivial,fun od=>?_⟩;have hWf:=hW.VX (u:=.qX od (.dK (yQ ks))) hl trivial Se;let IV4:Nat->L2.St->Hp->Prop:=fun i σ H'=>∃x W' tp F',σ=[some (.ref a),some (.ref l),x]/\Yh c (upd H l (.qX od (.dK (yQ ks)))) a W g en use cost src Wt m ks H' i W' tp F'/\H' l=some (.qX od (.dK (yQ ks)))/\l∉W'.M;refine⟨_,rfl,l,od,rfl,.inl ⟨_,aq,Sz (d:=l) (o:=od) (kvs:=yQ ks) IV4
    ⟨none,W,cs,F,rfl,⟨hWf,by simpa using hR,Mv.refl,rfl,rfl,rfl⟩,aq,Se⟩ (fun i σ H' _⟨_,_,_,_,_,_,e,_⟩=>e) ?_ ?_⟩⟩
   ·rintro i kk vv σ H1 hi ⟨x,W1,Am,F1,rfl,r,Hl,Nu⟩;obtain⟨v,hv,rfl⟩:=XZ hi;refine turn _ _ H1 i v W1 Am F1 r hv fun H2 W2 cs2 F2 r2 m2=>?_;obtain⟨q1,q2⟩:=m2.kI Hl Nu;exact⟨_,W2,cs2,F2,rfl,r2,q1,q2⟩
   ·rintro σ H1 ⟨x,W1,Am,F1,rfl,r,Hl,Nu⟩;have e:(yQ ks).length=ks.length:=ae _;rw[e]at r;have:=r.re;rw[bG]at this;refine⟨Hl,k _ W1 Am F1 (r.wa.VX Hl trivial Nu) this ⟨fun b o e hb=>?_,fun b hb=>?_⟩ r.kp⟩
    ·by_cases q:b=l;·subst q;rw[hl]at e;rw[aq];exact e
     ·rw[aj q];exact r.mv.kp b o (by rw[aj q];exact e) hb
    ·rcases r.mv.mem b hb with z|z;·exact .inl z
     ·by_cases q:b=l;·subst q;exact bF hb Nu
      ·rw[aj q]at z;exact .inr z
end
end Nw
namespace Nw
open PySem PySem.Spec PyProof.Rows L2
structure GA(c:Cs)(H:Hp)(gd:Addr)(g:Gd)(en:Nat->Nat->Int)(dx gr et gx nr:Addr)(es:ab V)(ns:ab Addr):Prop where
 gb:GB g
 at_:H gd=some (.ins c.ground dx (mB gr et))
 gr:H gr=some (.ins c.d5 gx (iN g nr))
 et:H et=some (.tup es)
 en:∀k,k<=2->∃e,es[k]? =some (.ref e)/\H e=some (.lst (Lv g (en k)))
 nr:H nr=some (.lst (ns.map V.ref))
 nl:ns.length=g.size
 ns:∀(v:Nat)(l:Addr),ns[v]? =some l->iS H l (mw g v)
theorem GA.same{en:Nat->Nat->Int}{dx gr et gx nr:Addr}{ns:ab Addr}(h:GA c H gd g en dx gr et gx nr es ns)(s:aQ H H'):GA c H' gd g en dx gr et gx nr es ns:=⟨h.gb,s _ _ h.at_,s _ _ h.gr,s _ _ h.et,fun k hk=>let⟨e,a,b⟩:=h.en k hk;⟨e,a,s _ _ b⟩,s _ _ h.nr,h.nl,fun v l e=>(h.ns v l e).same s⟩
theorem fT.nZ{en:Nat->Nat->Int}(h:fT c H gd g en):∃dx gr et gx nr es ns,GA c H gd g en dx gr et gx nr es ns:=by
 obtain⟨dx,gr,et,e0,e1,e2,h1,h2,h3,h4,h5,h6⟩:=h.ex;obtain⟨gx,nr,h7,ns,h8,h9,Mb⟩:=h2.ex;refine⟨dx,gr,et,gx,nr,_,ns,h2.gb,h1,h7,h3,fun k hk=>?_,h8,h9,Mb⟩;match k,hk with
 |0,_=>exact⟨e0,rfl,h4⟩
 |1,_=>exact⟨e1,rfl,h5⟩
 |2,_=>exact⟨e2,rfl,h6⟩
theorem Oh{K:ag}(h:H t=some (.tup [x,y]))(q:Q ((σ.set i (some x)).set j (some y)) H):aaC K 2 (Sw (vw i) (Sw (vw j) aaD)) (.ref t) σ H Q:=⟨t,_,rfl,q_.of h,rfl,_,_,rfl,_,_,rfl,rfl,q⟩
section
variable{P:bT}{w:cU}{K:ag}{mg:Str->aY aA}{base:Heap}{c:Cs}{n:Nat}
inductive LW(c:Cs)(vs:ab V)(H:Hp)(Q:VK):Prop
 |mk (a:Addr) (W:WA) (g:Gd) (en:Nat->Nat->Int) (use:Nat->Bool) (cost:Nat->Nat->Nat) (src:ab Nat) (cs:ab Int) (F:cT) (cc u:Nat) (front:ab Nat) (Wt:Nat->Prop) (w0:Nat) (dn:ab Nat) (q0:vs=[.ref a,vi u]) (q1:eh c H a W g en cs F) (q2:rZ g use cost en) (q3:(∀v∈src,use v=true)) (q4:Vd g (az g use) cost src cs F cc (u::front) Wt w0 dn) (q5:w0+12*g.size+16<1000000) (q6:∀(H':Hp)(W':WA)(tp:ab Int)(F':cT),eh c H' a W' g en tp F'->Vd g (az g use) cost src tp F' cc front Wt w0 (u::dn)->Mv W.M H W'.M H'->Kp W W'->Q .iG H')
def DU(c:Cs):Sp:=fun vs H Q _=>LW c vs H Q
abbrev nj:Stmt:=inClass (top 43) 4
theorem fQ:bx ["self","cell","costs","enter","cost","near","kind","over"] ["self","cell"] (aU nj):={}
theorem zO(F:gY K "step_from" "Wave.step_from" nj f fd)(T:Txt K mg c)(j8:bq P w K mg base c.wave "meet" n ["self","cell","cost"] (Ig c)):cZ P w K mg base gZ (n+1) f fd ["self","cell"] (DU c):=by
 refine F.ok fQ (fun vs H Q E h=>?_) (fun fR A outer s H vs Q E hr h=>?_);·obtain⟨a,W,g,en,use,cost,src,cs,F,cc,u,front,Wt,w0,dn,rfl,_⟩:=h;rfl
 ·obtain⟨a,W,g,en,use,cost,src,cs,F,cc,u,front,Wt,w0,dn,rfl,hW,hE,hs,hM,hw0,k⟩:=h;obtain⟨dx,gr,et,gx,nr,es,ns,hG⟩:=hW.gd.nZ;have G:=hG.gb.ok;have gaH:∀{H':Hp}{W':WA},Mv W.M H W'.M H'->GA c H' W.gd g en dx gr et gx nr es ns:=fun m=>(hG.same m.off).same dS;have hG0:=gaH (Mv.refl (M:=W.M) (H:=H));have hP:=hM.take;have QZ:u<g.size:=(hM.XQ u (by simp)).2;obtain⟨z,hz,hz0,_⟩:=hM.C.get QZ;obtain⟨YC,_⟩:=lK hz hP.part.at_ hz0;subst YC;obtain⟨lu,hlu⟩:∃lu,ns[u]? =some lu:=⟨_,aO (by rw[hG.nl];exact QZ)⟩;obtain⟨ts,Xf,Q0,ht3⟩:=hG.ns u lu hlu;refine⟨_,(ah (cE (i:=2) fQ.nd rfl (bj rfl) (aZ (pv 0) rfl)) (ah (cE (i:=3) fQ.nd rfl (bj rfl) (aZ (aZ (pv 0) rfl) rfl)) (ah (cE (i:=4) fQ.nd rfl (bj rfl) (cD bA (pv 2) (pv 1) (fun _ _=>rfl))) (ay (gN bJ rfl (dP (cD bA (aZ (aZ (aZ (pv 0) rfl) rfl) rfl) (pv 1) (fun _ _=>rfl))) (MT rfl (rL (cQ (i:=5) fQ.nd rfl (bj rfl)) (rL (cQ (i:=6) fQ.nd rfl (bj rfl)) IF))) (ah (cE (i:=7) fQ.nd rfl (bj rfl) (dj gO (pv 4) (cD bA (cD Bo (pv 3) (pv 6) (fun _ _=>rfl)) (pv 5) (fun _ _=>rfl)))) (ay (cM (bL vf (pv 7) (cD bA (pv 2) (pv 5) (fun _ _=>rfl)) (cJ _)) (ay (da (bR (pv 0) j8 hr (aa (pv 5) (aa (pv 7) ak))))) br)))))))),?_⟩;refine MC ?_;intro uH oO lG;refine⟨_,rfl,_,_,_,_,_,rfl,hW.at_,T.wC,T.oV,nT,?_⟩;refine⟨_,rfl,_,_,_,_,_,rfl,hW.at_,T.wC,T.uB,vQ,_,_,_,_,_,rfl,hG0.at_,T.rC,T.IC,Kq,?_⟩;refine⟨_,rfl,_,rfl,_,_,_,_,rfl,rfl,cN.of hW.cl,cA (pN hz),?_⟩;refine⟨_,rfl,_,_,_,_,_,rfl,hW.at_,T.wC,T.uB,vQ,_,_,_,_,_,rfl,hG0.at_,T.rC,T.Ec,zJ,_,_,_,_,_,rfl,hG0.gr,T.gC,T.NA,O4,_,rfl,_,_,_,_,rfl,rfl,cN.of hG0.nr,cA (j:=u) (v:=.ref lu) (by rw[bp,hlu];rfl),lu,rfl,⟨_,cN.of (dS _ _ Xf)⟩,?_⟩;have VM:ts.length=(jr g u).length:=by rw[Q0,<-vX,ae]
  let IV5:Nat->L2.St->Hp->Prop:=fun i σ H'=>∃x5 x6 x7 W' tp F',σ=[some (.ref a),some (vi u),some (.ref W.cl),some (.ref et),some (.int (cc:Int)),x5,x6,x7]/\eh c H' a W' g en tp F'/\Me g (az g use) cost src tp F' cc front u ((jr g u).take i) Wt w0 dn/\Mv W.M H W'.M H'/\Kp W W';refine e_ (K:=K) (a:=lu) (xs:=ts.map V.ref) IV5
   ⟨none,none,none,W,cs,F,rfl,hW,by simpa using hP,Mv.refl,rfl,rfl,rfl⟩ (fun i σ H' _⟨_,_,_,_,_,_,_,_,_,m,_⟩=>cN.of (dS _ _ (m.off _ _ Xf))) ?_ ?_
  ·rintro i y σ H1 hi ⟨x5,x6,x7,W1,Am,F1,rfl,w1,p1,m1,k1⟩;obtain⟨t,hti,rfl⟩:=ji hi;have Si:=(aW.mp hti).1;obtain⟨p,F_⟩:∃p,(mw g u)[i]? =some p:=⟨_,aO (by omega)⟩;have Xe:=dS _ _ (m1.off _ _ (ht3 i p t F_ hti));have R9:=aH F_;obtain⟨O0,Cb⟩:=sW G QZ R9;have yM:p.1<g.size:=sV G QZ O0;have hun:u∈jr g p.1:=Hh G QZ O0;have YX:=gaH m1;have YS:p.2<=2:=by rw[Cb];exact kind_le
   obtain⟨e,he1,he2⟩:=YX.en p.2 YS;obtain⟨zv,W8,_,_⟩:=p1.C.get yM;have acF:H1 W.cl=some (.lst (Am.map V.int)):=by rw[<-k1.2.1];exact w1.cl
   have VN:(jr g u).take (i+1)=(jr g u).take i++[p.1]:=take_snoc (by rw[<-vX,bp,F_];rfl);refine Oh Xe ?_;refine⟨_,rfl,_,rfl,_,rfl,_,_,_,_,rfl,rfl,q_.of YX.et,cA he1,_,rfl,_,_,_,_,rfl,rfl,cN.of he2,cA (Jk yM),_,_,rfl,rfl,?_⟩;refine⟨_,rfl,_,rfl,_,rfl,_,_,_,_,rfl,rfl,cN.of acF,cA (pN W8),_,_,rfl,rfl,_,rfl,z3 (fun h=>?_) (fun h=>?_)⟩
   ·rw[au,Cb,Bl]at h;obtain⟨ev,p2⟩:=p1.lower hE G hs yM hun W8 h;have ev':(cc:Int)+en p.2 p.1=((cc+cost u p.1:Nat):Int):=by rw[Cb,Bl];exact ev
    have hb:=p1.Ob (by rw[cS];exact bZ (Nat.min_le_right _ _) (KP g u));refine⟨_,rfl,a,_,_,rfl,w1.at_,Od,_,rfl,_,rfl,a,W1,g,en,Am,F1,p.1,cc+cost u p.1,?_,w1,yM,(by omega),fun H2 W2 w2 m2 k2=>?_⟩;·show[V.ref a,vi p.1,V.int ((cc:Int)+en p.2 p.1)]=_;rw[ev']
    ·rw[<-VN]at p2;exact⟨_,_,_,W2,_,_,rfl,w2,p2,m1.trans m2,k1.trans k2⟩
   ·rw[au,Cb,Bl]at h;have p2:=p1.skip hE G hs yM hun W8 h;rw[<-VN]at p2;exact⟨_,_,_,W1,_,_,rfl,w1,p2,m1,k1⟩
  ·rintro σ H1 ⟨x5,x6,x7,W1,Am,F1,rfl,w1,p1,m1,k1⟩;rw[ae,VM,bG]at p1;exact k H1 W1 Am F1 w1 (p1.finish G) m1 k1
def II:aY Nat->V
 |none=>.iG
 |some u=>vi u
inductive Gp(c:Cs)(vs:ab V)(H:Hp)(Q:VK):Prop
 |mk (a:Addr) (W:WA) (g:Gd) (en:Nat->Nat->Int) (use:Nat->Bool) (cost:Nat->Nat->Nat) (cs:ab Int) (F:cT) (v:Nat) (q0:vs=[.ref a,vi v]) (q1:eh c H a W g en cs F) (q2:rZ g use cost en) (q3:Af g.size cs) (q4:(∀w,w<g.size->cF cs w≠none->use w=true)) (q5:v<g.size) (q6:cF cs v≠none) (q7:Q (II (pred g (az g use) cost (cF cs) v)) H)
def zw(c:Cs):Sp:=fun vs H Q _=>Gp c vs H Q
abbrev k_:Stmt:=inClass (top 43) 6
theorem kC:bx ["self","cell","near","kind"] ["self","cell"] (aU k_):={}
theorem wN(F:gY K "cell_before" "Wave.cell_before" k_ f fd)(T:Txt K mg c):cZ P w K mg base gZ 1 f fd ["self","cell"] (zw c):=by
 refine F.ok kC (fun vs H Q E h=>?_) (fun fR A outer s H vs Q E hr h=>?_);·obtain⟨a,W,g,en,use,cost,cs,F,v,rfl,_⟩:=h;rfl
 ·obtain⟨a,W,g,en,use,cost,cs,F,v,rfl,hW,hE,hC,hU,hv,hcv,k⟩:=h;obtain⟨dx,gr,et,gx,nr,es,ns,hG⟩:=hW.ground.nZ;have G:=hG.gb.ok;obtain⟨zv,W8,_,_⟩:=hC.get hv;have hzf:zv≠qF:=fun q=>hcv (yr (by rw[<-q];exact W8));obtain⟨lv,hlv⟩:∃lv,ns[v]? =some lv:=⟨_,aO (by rw[hG.nl];exact hv)⟩;obtain⟨ts,Xf,Q0,ht3⟩:=hG.ns v lv hlv;have fits:∀p∈mw g v,(fun p:Nat×Nat=>decide ((cs[p.1]?).getD 0+en p.2 v=zv)) p=(fun u=>az g use u v&&(match cF cs u,cF cs v with
    |some a,some b=>a+cost u v==b
    |_,_=>false)) p.1:=fun p hp=>by
   obtain⟨hn,_⟩:=sW G hv hp;obtain⟨zu,YB,_,_⟩:=hC.get (sV G hv hn);have:=LN hE hC hU G hv hp YB W8 hzf;simp only[YB,Cg];exact this
  have aaI:pred g (az g use) cost (cF cs) v=((mw g v).find? fun p=>decide ((cs[p.1]?).getD 0+en p.2 v=zv)).map (·.1):=by
   have q:=Ls (f:=fun p:Nat×Nat=>p.1) (p:=fun p=>decide ((cs[p.1]?).getD 0+en p.2 v=zv)) (q:=fun u=>az g use u v&&(match cF cs u,cF cs v with
    |some a,some b=>a+cost u v==b
    |_,_=>false)) fits
   rw[vX]at q;exact q.symm
  rw[aaI]at k;refine⟨_,(ah (gN bJ rfl (dP (cD bA (aZ (aZ (aZ (pv 0) rfl) rfl) rfl) (pv 1) (fun _ _=>rfl))) (MT rfl (rL (cQ (i:=2) kC.nd rfl (bj rfl)) (rL (cQ (i:=3) kC.nd rfl (bj rfl)) IF))) (ay (cM (bL iB (dj gO (cD bA (aZ (pv 0) rfl) (pv 2) (fun _ _=>rfl)) (cD bA (cD Bo (aZ (aZ (pv 0) rfl) rfl) (pv 3) (fun _ _=>rfl)) (pv 1) (fun _ _=>rfl))) (cD bA (aZ (pv 0) rfl) (pv 1) (fun _ _=>rfl)) (cJ _)) (ay (aX (pv 2))) br))) (ay (aX lr))),?_⟩;refine QW ?_;intro lG;refine⟨_,rfl,_,_,_,_,_,rfl,hW.at_,T.wC,T.uB,vQ,_,_,_,_,_,rfl,hG.at_,T.rC,T.Ec,zJ,_,_,_,_,_,rfl,hG.gr,T.gC,T.NA,O4,_,rfl,_,_,_,_,rfl,rfl,cN.of hG.nr,cA (j:=v) (v:=.ref lv) (by rw[bp,hlv];rfl),lv,rfl,⟨_,cN.of Xf⟩,?_⟩;let IV6:Nat->L2.St->Hp->Prop:=fun i σ H'=>∃x2 x3,σ=[some (.ref a),some (vi v),x2,x3]/\H'=H/\∀p∈(mw g v).take i,decide ((cs[p.1]?).getD 0+en p.2 v=zv)=false;refine e_ (K:=K) (a:=lv) (xs:=ts.map V.ref) IV6
   ⟨none,none,rfl,rfl,by simp⟩ (fun i σ H' _⟨_,_,_,e,_⟩=>by rw[e];exact cN.of Xf) ?_ ?_
  ·rintro i y σ H1 hi ⟨x2,x3,rfl,rfl,JX⟩;obtain⟨t,hti,rfl⟩:=ji hi;have Si:=(aW.mp hti).1;obtain⟨p,F_⟩:∃p,(mw g v)[i]? =some p:=⟨_,aO (by omega)⟩;have Xe:=ht3 i p t F_ hti;obtain⟨O0,Cb⟩:=sW G hv (aH F_);have YS:p.2<=2:=by rw[Cb];exact kind_le
   obtain⟨e,he1,he2⟩:=hG.en p.2 YS;obtain⟨zu,YB,_,_⟩:=hC.get (sV G hv O0);refine Oh Xe ?_;refine⟨_,rfl,_,_,_,_,_,rfl,hW.at_,T.wC,T.oV,nT,_,rfl,_,_,_,_,rfl,rfl,cN.of hW.cl,cA (pN YB),?_⟩;refine⟨_,rfl,_,_,_,_,_,rfl,hW.at_,T.wC,T.uB,vQ,_,_,_,_,_,rfl,hG.at_,T.rC,T.IC,Kq,_,rfl,_,_,_,_,rfl,rfl,q_.of hG.et,cA he1,_,rfl,_,_,_,_,rfl,rfl,cN.of he2,cA (Jk hv),_,_,rfl,rfl,?_⟩;refine⟨_,rfl,_,_,_,_,_,rfl,hW.at_,T.wC,T.oV,nT,_,rfl,_,_,_,_,rfl,rfl,cN.of hW.cl,cA (pN W8),rfl,_,rfl,z3 (fun h=>?_) (fun h=>?_)⟩
   ·rw[au]at h;have abQ:decide ((cs[p.1]?).getD 0+en p.2 v=zv)=true:=by rw[YB,au];exact V.int.inj h
    have hf:(mw g v).find? (fun p=>decide ((cs[p.1]?).getD 0+en p.2 v=zv))=some p:=by rw[List.find?_eq_some_iff_getElem];obtain⟨hl,e⟩:=aW.mp F_;refine⟨abQ,i,hl,e,fun j hj=>?_⟩;have:=JX ((mw g v)[j]) (kx.mpr ⟨j,by rw[cS];omega,by rw[List.getElem_take]⟩);simpa using this
    rw[hf]at k;exact⟨_,rfl,k⟩
   ·rw[au]at h;have ab':decide ((cs[p.1]?).getD 0+en p.2 v=zv)=false:=dH fun q=>h (by rw[YB]at q;show V.int _=V.int _;rw[<-q];rfl);refine⟨_,_,rfl,rfl,fun q hq=>?_⟩;rw[take_snoc F_]at hq;rcases a_.mp hq with z|z;·exact JX q z
    ·simp at z;subst z;exact ab'
  ·rintro σ H1 ⟨x2,x3,rfl,rfl,JX⟩;rw[ae,Q0,bG]at JX;have hf:(mw g v).find? (fun p=>decide ((cs[p.1]?).getD 0+en p.2 v=zv))=none:=by rw[List.find?_eq_none];intro p hp;rw[JX p hp];exact af
   rw[hf]at k;exact k
end
end Nw
namespace Nw
open PySem PySem.Spec PyProof.Rows L2
theorem aI{c A B:Prop}[Decidable c](h:¬c)(b:B):if c then A else B:=by rw[ao h];exact b
theorem bD{c A B:Prop}[Decidable c](h:c)(b:A):if c then A else B:=by rw[aw h];exact b
section
variable{P:bT}{w:cU}{K:ag}{mg:Str->aY aA}{base:Heap}{c:Cs}{n:Nat}
inductive NU(c:Cs)(vs:ab V)(H:Hp)(Q:VK):Prop
 |mk (a:Addr) (W:WA) (g:Gd) (en:Nat->Nat->Int) (use:Nat->Bool) (cost:Nat->Nat->Nat) (src:ab Nat) (cs:ab Int) (F:cT) (t b x:Nat) (q0:vs=[.ref a,vi t]) (q1:eh c H a W g en cs F) (q2:rZ g use cost en) (q3:Af g.size cs) (q4:(∀w,w<g.size->cF cs w≠none->use w=true)) (q5:Agree (dy g (az g use) cost src) (cF cs) b) (q6:(dy g (az g use) cost src).at_ t=some x) (q7:x<=b) (q8:g.size<=2304) (q9:∀(H':Hp)(l:Addr),aQ H H'->H l=none->H' l=some (.lst (d8 (j9 g (az g use) cost (dy g (az g use) cost src) g.size t)))->Q (.ref l) H')
def GW(c:Cs):Sp:=fun vs H Q _=>NU c vs H Q
abbrev oo:Stmt:=inClass (top 43) 5
theorem kj:bx ["self","target","way","cell"] ["self","target"] (aU oo):={}
theorem A'(F:gY K "way_back" "Wave.way_back" oo f fd)(T:Txt K mg c)(lB:bq P w K mg base c.wave "cell_before" n ["self","cell"] (zw c)):cZ P w K mg base gZ (n+1) f fd ["self","target"] (GW c):=by
 refine F.ok kj (fun vs H Q E h=>?_) (fun fR A outer s H vs Q E hr h=>?_);·obtain⟨a,W,g,en,use,cost,src,cs,F,t,b,x,rfl,_⟩:=h;rfl
 ·obtain⟨a,W,g,en,use,cost,src,cs,F,t,b,x,rfl,hW,hE,hC,hU,hA,hx,hxb,hsz,k⟩:=h;refine⟨_,(ah (cE (i:=2) kj.nd rfl (bj rfl) (cI ak)) (ah (cE (i:=3) kj.nd rfl (bj rfl) (pv 1)) (ah (u_ bJ (bL OK (pv 3) lr (cJ _)) (ah (da (pK (pv 2) (aa (pv 3) ak))) (ay (cE (i:=3) kj.nd rfl (bj rfl) (bR (pv 0) lB hr (aa (pv 3) ak)))))) (ay (aX (pv 2)))))),?_⟩;refine MC ?_;intro uH oO lG;refine⟨cH _,fun l hl=>?_⟩;refine⟨_,rfl,?_⟩;refine⟨fun m σ H'=>aQ H H'/\∃(way:ab Nat)(o:aY Nat),σ=[some (.ref a),some (vi t),some (.ref l),some (II o)]/\H' l=some (.lst (d8 way))/\m+way.length=g.size+1/\
   (match o with
    |some v=>Told (g:=g) (may:=az g use) (cost:=cost) (dy g (az g use) cost src) t way v/\∃y,(dy g (az g use) cost src).at_ v=some y/\y<=b
    |none=>way=j9 g (az g use) cost (dy g (az g use) cost src) g.size t),⟨g.size+1,aQ.new hl,[],some t,rfl,aq,by simp,Told.start hx,x,hx,hxb⟩,?_⟩
  rintro m σ H1 ⟨s1,way,o,rfl,Hl,hm,ho⟩;cases o with
  |none=>refine⟨_,rfl,rfl,_,rfl,aI (by simp[II]) ?_⟩;simp only at ho;rw[ho]at Hl;exact⟨_,rfl,k H1 l s1 hl Hl⟩
  |some v=>
   simp only at ho;obtain⟨hT,y,hy,hyb⟩:=ho;have aah:=hT.room;have yM:v<g.size:=hT.lt v (by simp);have hDv:cF cs v=some y:=(hA v y hyb).mpr hy;refine⟨_,rfl,rfl,_,rfl,bD (by simp[II]) ?_⟩;refine⟨fun σ' H'=>aQ H H'/\∃(Pn:ab Nat)(o:aY Nat),σ'=[some (.ref a),some (vi t),some (.ref l),some (II o)]/\H' l=some (.lst (d8 Pn))/\Pn.length=way.length+1/\
    (match o with
     |some v=>Told (g:=g) (may:=az g use) (cost:=cost) (dy g (az g use) cost src) t Pn v/\∃y,(dy g (az g use) cost src).at_ v=some y/\y<=b
     |none=>Pn=j9 g (az g use) cost (dy g (az g use) cost src) g.size t),?_,?_⟩
   ·rintro σ' H' ⟨q1,Pn,o,q2,q3,q4,q5⟩;exact⟨m-1,by omega,q1,Pn,o,q2,q3,by omega,q5⟩
   ·refine⟨_,rfl,.inl ⟨rfl,_,cN.of Hl⟩,_,rfl,l,_,_,rfl,rfl,Hl,(by rw[ae,bS];omega),?_⟩;have s2:aQ H (upd H1 l (.lst (d8 way++[II (some v)]))):=aQ.put s1 hl;have W2:=hW.same s2;refine⟨_,rfl,a,_,_,rfl,W2.at_,Du,_,rfl,a,W,g,en,use,cost,cs,F,v,rfl,W2,hE,hC,hU,yM,(by rw[hDv];simp),?_⟩;have hpe:pred g (az g use) cost (cF cs) v=pred g (az g use) cost (dy g (az g use) cost src).at_ v:=MQ hE.cp hA hy hyb;rw[hpe];refine⟨s2,way++[v],_,rfl,?_,by simp,?_⟩;·rw[aq];simp[d8,II]
    ·cases hq:pred g (az g use) cost (dy g (az g use) cost src).at_ v with
     |none=>exact(hT.last hq).symm
     |some u=>refine⟨hT.next hE.cp hq,?_⟩;obtain⟨_,_,p,q,h1,h2,h3⟩:=AW hq;rw[hy]at h2;cases h2;exact⟨p,h1,by omega⟩
inductive LS(c:Cs)(vs:ab V)(H:Hp)(Q:VK):Prop
 |mk (a dx gd:Addr) (g:Gd) (en:Nat->Nat->Int) (q0:vs=[.ref a,.ref gd]) (q1:fT c H gd g en) (q2:H a=some (.ins c.wave dx [])) (q3:∀(H':Hp)(W:WA),eh c H' a W g en (cO g.size qF) []->(∀b o,H b=some o->b≠a->H' b=some o)->(∀b∈W.M,H b=none)->W.gd=gd->Q .iG H')
def xH(c:Cs):Sp:=fun vs H Q _=>LS c vs H Q
theorem Y_:d9 "fronts" (.ref fd) (d9 "costs" (.ref cl) (d9 "ground" (.ref gd) []))=m_ gd cl fd:=by kernel_rfl
theorem Ub(n:Nat):(cO n [V.int 1000000000000000000]).flatten=(cO n qF).map V.int:=by
 induction n with
 |zero=>rfl
 |succ n ih=>rw[ik,ke,ih,ik];rfl
abbrev oq:Stmt:=inClass (top 43) 0
theorem AI:bx ["self","ground"] ["self","ground"] (aU oq):={}
theorem IU(F:gY K "__init__" "Wave.__init__" oq f fd)(T:Txt K mg c):cZ P w K mg base gZ 1 f fd ["self","ground"] (xH c):=by
 refine F.ok AI (fun vs H Q E h=>?_) (fun fR A outer s H vs Q E hr h=>?_);·obtain⟨a,dx,gd,g,en,rfl,_⟩:=h;rfl
 ·obtain⟨a,dx,gd,g,en,rfl,hG,hp,k⟩:=h;obtain⟨rx,gr,et,gx,nr,es,ns,hO⟩:=hG.nZ;have hsz:=hO.gb.size_le;refine⟨_,(ah (fK (pv 0) (pv 1) rfl) (ah (fK (pv 0) (dj ve (cI (aa (cb T.R0) ak)) (aZ (aZ (pv 1) rfl) rfl)) rfl) (ay (fK (pv 0) Eh rfl)))),?_⟩;refine MD ?_;intro oO lG;have ne1:gd≠a:=fun q=>by have:=hO.at_;rw[q,hp]at this;exact bF (HO.ins.inj (bE this)).2.2 (by simp[mB])
  refine⟨_,rfl,_,rfl,a,_,dx,_,rfl,hp,T.wC,T.uB,jq (m:=0) (aD _),?_⟩;refine⟨(by show 1<=sizeLine;decide),fun q1 vp=>?_⟩;have XC:q1≠a:=fun z=>by rw[z,aq]at vp;cases vp
  have ab4:H q1=none:=by rw[aj XC]at vp;exact vp
  have WU:∀(b:Addr)(o:HO),H b=some o->b≠a->upd (upd H a (.ins c.wave dx (d9 "ground" (.ref gd) []))) q1 (.lst [.int 1000000000000000000]) b=some o:=fun b o e hb=>by rw[aj (aE e ab4),aj hb];exact e
  have ne2:gr≠a:=fun q=>by have:=hO.gr;rw[q,hp]at this;exact bF (HO.ins.inj (bE this)).2.2 (by simp[iN])
  refine⟨_,rfl,_,_,_,_,_,rfl,WU _ _ hO.at_ ne1,T.rC,T.Ec,zJ,_,_,_,_,_,rfl,WU _ _ hO.gr ne2,T.gC,T.pR,qy,q1,_,_,rfl,rfl,aq,(by omega),(by omega),(by rw[cn,bS];omega),fun q2 JW=>?_⟩;have h21:q2≠q1:=fun z=>by rw[z,aq]at JW;cases JW
  have h2a:q2≠a:=fun z=>by rw[z,aj XC.symm,aq]at JW;cases JW
  have Xi:H q2=none:=by rw[aj h21,aj h2a]at JW;exact JW
  refine⟨_,rfl,a,_,dx,_,rfl,(by rw[aj h2a.symm,aj XC.symm];exact aq),T.wC,T.oV,jq (eK (m:=0) (aD _)),?_⟩;intro q3 Q1;have h3a:q3≠a:=fun z=>by rw[z,aq]at Q1;cases Q1
  have h32:q3≠q2:=fun z=>by rw[z,aj h2a,aq]at Q1;cases Q1
  have h31:q3≠q1:=fun z=>by rw[z,aj XC,aj h21.symm,aq]at Q1;cases Q1
  have Xh:H q3=none:=by rw[aj h3a,aj h32,aj h31,aj h3a]at Q1;exact Q1
  refine⟨_,rfl,a,_,dx,_,rfl,(by rw[aj h3a.symm];exact aq),T.wC,T.rB,jq (eK (eK (m:=0) (aD _))),?_⟩;rw[Y_];have kp:∀(b:Addr)(o:HO),H b=some o->b≠a->upd (upd (upd (upd (upd (upd H a (.ins c.wave dx (d9 "ground" (.ref gd) []))) q1 (.lst [.int 1000000000000000000])) q2 (.lst (cO (g.size:Int).toNat [V.int 1000000000000000000]).flatten)) a (.ins c.wave dx (d9 "costs" (.ref q2) (d9 "ground" (.ref gd) [])))) q3 (.dK [])) a (.ins c.wave dx (m_ gd q2 q3)) b=some o:=fun b o e hb=>by rw[aj hb,aj (aE e Xh),aj hb,aj (aE e Xi)];exact WU b o e hb
  refine k _ ⟨dx,gd,q2,q3,[]⟩ ⟨aq,?_,?_,?_,trivial,by simp,by simp⟩ kp (fun b hb=>?_) rfl
  ·have hGa:fT c (off [a] H) gd g en:=by
    obtain⟨Y3,gr',et',e0,e1,e2,h1,h2,h3,h4,h5,h6⟩:=hG.ex;have na:∀{x:Addr}{o:HO},H x=some o->(∀C d,o≠.ins C d [])->off [a] H x=some o:=fun{x o} e ho=>eZ e fun z=>by rw[bU]at z;rw[z,hp]at e;exact ho _ _ (bE e).symm
    obtain⟨gx',nr',h7,ns',h8,h9,Mb⟩:=h2.ex;exact⟨Y3,gr',et',e0,e1,e2,na h1 (by intro C d z;exact bF (HO.ins.inj z).2.2 (by simp[mB])),⟨h2.gb,gx',nr',na h7 (by intro C d z;exact bF (HO.ins.inj z).2.2 (by simp[iN])),ns',na h8 (by intro C d z;cases z),h9,fun v l e=>by obtain⟨ts,p1,p2,p3⟩:=Mb v l e;exact⟨ts,na p1 (by intro C d z;cases z),p2,fun i p t a b=>na (p3 i p t a b) (by intro C d z;cases z)⟩⟩,na h3 (by intro C d z;cases z),na h4 (by intro C d z;cases z),na h5 (by intro C d z;cases z),na h6 (by intro C d z;cases z)⟩
   refine hGa.same fun b o e=>?_;obtain⟨z1,z2⟩:=nD e;refine eZ (kp b o z2 fun q=>z1 (by simp[q])) fun q=>?_;simp at q;rcases q with q|q;·rw[q,Xi]at z2;cases z2
   ·rw[q,Xh]at z2;cases z2
  ·show upd (upd (upd (upd _ q2 _) a _) q3 _) a _ q2=_;rw[aj h2a,aj h32.symm,aj h2a,aq,aJ,Ub]
  ·show upd (upd _ q3 _) a _ q3=_;rw[aj h3a,aq];rfl
  ·simp at hb;rcases hb with rfl|rfl;·exact Xi
   ·exact Xh
def iM(wl:Addr)(x:Int):ab (Str×V):=[("ways",.ref wl),("cost",.int x)]
section
variable{wl:Addr}{x y:Int}
theorem vS:(iM wl x).lookup ("ways":Str)=some (.ref wl):=by kernel_rfl
theorem HU:(iM wl x).lookup ("cost":Str)=some (.int x):=by kernel_rfl
theorem Zf:d9 "cost" (.int x) (d9 "ways" (.ref wl) [])=iM wl x:=by kernel_rfl
theorem V9:d9 "cost" (.int y) (iM wl x)=iM wl y:=by kernel_rfl
end
inductive LU(c:Cs)(vs:ab V)(H:Hp)(Q:VK):Prop
 |mk (a dx:Addr) (q0:vs=[.ref a]) (q1:H a=some (.ins c.tree dx [])) (q2:∀(wl:Addr),H wl=none->Q .iG (upd (upd H wl (.lst [])) a (.ins c.tree dx (iM wl 0))))
def DT(c:Cs):Sp:=fun vs H Q _=>LU c vs H Q
abbrev ot:Stmt:=inClass (top 42) 0
theorem AJ:bx ["self"] ["self"] (aU ot):={}
theorem IV(F:gY K "__init__" "Tree.__init__" ot f fd)(T:Txt K mg c):cZ P w K mg base gZ 1 f fd ["self"] (DT c):=by
 refine F.ok AJ (fun vs H Q E h=>?_) (fun fR A outer s H vs Q E hr h=>?_);·obtain⟨a,dx,rfl,_⟩:=h;rfl
 ·obtain⟨a,dx,rfl,hp,k⟩:=h;refine⟨_,(ah (fK (pv 0) (cI ak) rfl) (ay (fK (pv 0) aN rfl))),?_⟩;refine QW ?_;intro lG;refine⟨cH _,fun wl JV=>?_⟩;have oR:a≠wl:=aE hp JV;refine⟨_,rfl,a,_,dx,_,rfl,(by rw[aj oR];exact hp),T.tC,T.xu,jq (m:=0) (aD _),?_⟩;refine⟨_,rfl,a,_,dx,_,rfl,aq,T.tC,T.HY,jq (eK (m:=0) (aD _)),?_⟩;rw[vR,Zf];exact k wl JV
inductive NZ(c:Cs)(vs:ab V)(H:Hp)(Q:VK):Prop
 |mk (pl:Addr) (sz:Nat) (ps:ab (ab Nat)) (q0:vs=[.ref pl]) (q1:gq H pl ps) (q2:(∀p∈ps,∀v∈p,v<sz)) (q3:sz<=2304) (q4:∀(H':Hp)(d:Addr)(ks:ab Nat),aQ H H'->H d=none->H' d=some (.dK (yQ ks))->ks.Nodup->(∀x,x∈ks↔x∈ps.flatten)->Q (.ref d) H')
def GZ(c:Cs):Sp:=fun vs H Q _=>NZ c vs H Q
abbrev xS:Stmt:=top 45
theorem ql:bx ["pins","found","cells","cell"] ["pins"] (aU xS):={}
theorem KC(F:gY K "cells_of" "cells_of" xS f fd)(T:Txt K mg c):cZ P w K mg base gZ 1 f fd ["pins"] (GZ c):=by
 refine F.ok ql (fun vs H Q E h=>?_) (fun fR A outer s H vs Q E hr h=>?_);·obtain⟨pl,sz,ps,rfl,_⟩:=h;rfl
 ·obtain⟨pl,sz,ps,rfl,⟨as,pP,Ny,hpa⟩,jQ,hsz,k⟩:=h;have hu:=K_ hr;refine⟨_,(ah (cE (i:=1) ql.nd rfl (bj rfl) Eh) (ah (gN bJ rfl (dP (pv 0)) (cQ (i:=2) ql.nd rfl (bj rfl)) (ay (gN bJ rfl (dP (pv 2)) (cQ (i:=3) ql.nd rfl (bj rfl)) (ay (IE hu (pv 1) (pv 3) vd rfl))))) (ay (aX (pv 1))))),?_⟩;refine MD ?_;intro oO lG;intro d hd;have t0:Tk H (upd H d (.dK [])) d sz [] (fun x=>x∈(ps.take 0).flatten):=⟨aQ.new hd,aq,by simp,by simp,fun x=>by simp⟩;let IV7:Nat->L2.St->Hp->Prop:=fun i σ H'=>∃x2 x3 ks,σ=[some (.ref pl),some (.ref d),x2,x3]/\Tk H H' d sz ks (fun x=>x∈(ps.take i).flatten);refine⟨_,rfl,pl,rfl,⟨_,cN.of (t0.s _ _ pP)⟩,e_ (K:=K) (a:=pl) (xs:=as.map V.ref) IV7
   ⟨none,none,[],rfl,t0⟩ (fun i σ H' _⟨_,_,_,_,t⟩=>cN.of (t.s _ _ pP)) ?_ ?_⟩
  ·rintro i y σ H1 hi ⟨x2,x3,ks,rfl,t1⟩;obtain⟨pa,F_,rfl⟩:=ji hi;obtain⟨p,hp⟩:∃p,ps[i]? =some p:=⟨_,aO (by have:=(aW.mp F_).1;omega)⟩;have hpw:=hpa i p pa hp F_;let IV8:Nat->L2.St->Hp->Prop:=fun j σ H'=>∃x3 ks,σ=[some (.ref pl),some (.ref d),some (.ref pa),x3]/\Tk H H' d sz ks (fun x=>x∈(ps.take i).flatten\/x∈p.take j);refine⟨_,rfl,pa,rfl,⟨_,cN.of (t1.s _ _ hpw)⟩,e_ (K:=K) (a:=pa) (xs:=d8 p) IV8
    ⟨x3,ks,rfl,t1.imp fun x=>by simp⟩ (fun i σ H' _⟨_,_,_,t⟩=>cN.of (t.s _ _ hpw)) ?_ ?_⟩
   ·rintro j y σ H2 hj ⟨x3,ks,rfl,t2⟩;obtain⟨v,hv,rfl⟩:=ji hj;have yM:=jQ p (aH hp) v (aH hv);refine⟨_,rfl,_,rfl,d,_,rfl,Oa.k (k:=dC (v:Int)) t2.at_ (Jd t2.nd t2.lt (by omega)),?_⟩;refine⟨_,_,rfl,(t2.put hd yM).imp fun x=>?_⟩;rw[fP hv,or_assoc]
   ·rintro σ H2 ⟨x3,ks,rfl,t2⟩;rw[ae,bG]at t2;refine⟨_,x3,ks,rfl,t2.imp fun x=>?_⟩;rw[take_snoc hp,p_];simp
  ·rintro σ H1 ⟨x2,x3,ks,rfl,t1⟩;rw[ae,Ny,bG]at t1;exact⟨_,rfl,k _ d ks t1.s hd t1.at_ t1.nd t1.mem⟩
end
end Nw
namespace Nw
open PySem PySem.Spec PyProof.Rows L2
theorem UY:((qF.toNat:Nat):Int)=qF:=by decide
theorem Dx(l:ab Nat):d8 l=(l.map fun(n:Nat)=>(n:Int)).map V.int:=by unfold d8;rw[c_];rfl
theorem FL.mem:∀{F:cT}{ls:ab Addr},FL H F ls->∀l∈ls,∃L,H l=some (.lst L)
 |[],[],_,l,hl=>by simp at hl
 |p::F,m::ls,h,l,hl=>by
  rcases aF.mp hl with e|e;·exact⟨_,e▸h.1⟩
  ·exact FL.mem h.2 l e
theorem Pd{g:Gd}(C:Af g.size cs){u cc:Nat}(hz:cs[u]? =some z)(hc:(cc:Int)<qF):(z=(cc:Int))↔cF cs u=some cc:=by
 have h0:=(C.ok z (aH hz)).1;constructor;·intro e;rw[rV hz (by omega)];congr 1;omega
 ·intro e;exact(lK hz e h0).1
section
variable{P:bT}{w:cU}{K:ag}{mg:Str->aY aA}{base:Heap}{c:Cs}{n:Nat}
inductive JB(c:Cs)(vs:ab V)(H:Hp)(Q:VK):Prop
 |mk (a wd:Addr) (W:WA) (g:Gd) (en:Nat->Nat->Int) (use:Nat->Bool) (cost:Nat->Nat->Nat) (src:ab Nat) (cs:ab Int) (F:cT) (n0:Nat) (ks:ab Nat) (q0:vs=[.ref a,.ref wd]) (q1:eh c H a W g en cs F) (q2:rZ g use cost en) (q3:(∀v∈src,use v=true)) (q4:Rest g (az g use) cost src cs F (·∈ks) n0) (q5:n0+12*g.size+16<1000000) (q6:wd∉W.M) (q7:H wd=some (.dK (yQ ks))) (q8:(∀(H':Hp)(W':WA)(tp:ab Int)(F':cT),eh c H' a W' g en tp F'->Rest g (az g use) cost src tp F' (·∈ks) (n0+12*g.size)->Mv W.M H W'.M H'->Kp W W'->(∀v∈ks,(dy g (az g use) cost src).at_ v=none)->Q .iG H')) (q9:(∀(H':Hp)(W':WA)(tp:ab Int)(F':cT)(t cc:Nat),eh c H' a W' g en tp F'->Rest g (az g use) cost src tp F' (·∈ks) (n0+12*g.size)->Mv W.M H W'.M H'->Kp W W'->jj (cF tp) ks cc t->Agree (dy g (az g use) cost src) (cF tp) cc->Q (vi t) H'))
def uK(c:Cs):Sp:=fun vs H Q _=>JB c vs H Q
abbrev l_:Stmt:=inClass (top 43) 3
theorem fE:bx ["self","wanted","cost","front","met","cell"] ["self","wanted"] (aU l_):={}
theorem yd(F:gY K "nearest_of" "Wave.nearest_of" l_ f fd)(T:Txt K mg c)(nJ:bq P w K mg base c.wave "step_from" n ["self","cell"] (DU c)):cZ P w K mg base gZ (n+1) f fd ["self","wanted"] (uK c):=by
 refine F.ok fE (fun vs H Q E h=>?_) (fun fR A outer s H vs Q E hr h=>?_);·obtain⟨a,wd,W,g,en,use,cost,src,cs,F,n0,ks,rfl,_⟩:=h;rfl
 ·obtain⟨a,wd,W,g,en,use,cost,src,cs,F,n0,ks,rfl,hW,hE,hs,hR,hn0,hwM,hwd,k0,k1⟩:=h;have hu:=K_ hr;have G:GB g:=by obtain⟨_,_,_,_,_,_,_,hO⟩:=hW.ground.nZ;exact hO.gb
  have hsz:=G.size_le;refine⟨_,(ah (u_ bJ (dQ (aZ (pv 0) rfl) (fun _=>rfl)) (ah (cE (i:=2) fE.nd rfl (Fy rfl) (dM (NH rfl) rfl T.b.min SU (aa (aZ (pv 0) rfl) ak))) (ah (pH (i:=3) (own:=[("cell",5)]) rfl fE.nd rfl rfl (sD rfl rfl rfl rfl) (dP (Uo hu (aZ (pv 0) rfl) (pv 2) (fun _ _=>rfl))) (eG (by kernel_rfl)) (fun _ _ _ _ _=>cQ (i:=5) fE.nd rfl (bj rfl)) (fun _ _ _ _ _=>(qr (bL iB (cD (ED K) (De K (pv 0) rfl) (pv 5) (fun _ _=>rfl)) (pv 2) (cJ _)))) (fun _ _ _ _ _=>(pv 5))) (ah (pH (i:=4) (own:=[("cell",5)]) rfl fE.nd rfl rfl (sD rfl rfl rfl rfl) (dP (pv 3)) (eG (by kernel_rfl)) (fun _ _ _ _ _=>cQ (i:=5) fE.nd rfl (bj rfl)) (fun _ _ _ _ _=>(qr (Ww (WB hu (pv 5) (pv 1))))) (fun _ _ _ _ _=>(pv 5))) (ah (cM (dQ (pv 4) (fun _=>rfl)) (ay (aX (dM (X3 rfl) rfl T.b.min SU (aa (pv 4) ak)))) br) (ah (da (RO (aZ (pv 0) rfl) (pv 2) ⟨rfl,rfl,rfl,rfl⟩)) (ay (gN bJ rfl (dP (pv 3)) (cQ (i:=5) fE.nd rfl (bj rfl)) (ay (da (bR (pv 0) nJ hr (aa (pv 5) ak)))))))))))) (ay (aX lr))),?_⟩;refine QW ?_;intro lG;let IV9:Nat->L2.St->Hp->Prop:=fun m σ H'=>∃x2 x3 x4 x5 W' tp F' lo dn,σ=[some (.ref a),some (.ref wd),x2,x3,x4,x5]/\eh c H' a W' g en tp F'/\Wv g (az g use) cost src tp F' lo (·∈ks) n0 dn/\Mv W.M H W'.M H'/\Kp W W'/\m+lo=qF.toNat;refine⟨IV9,⟨qF.toNat,none,none,none,none,W,cs,F,0,[],rfl,hW,hR,Mv.refl,⟨rfl,rfl,rfl⟩,rfl⟩,?_⟩;rintro m σ H1 ⟨x2,x3,x4,x5,W1,Am,F1,lo,dn,rfl,w1,v1,m1,WU,hm⟩;obtain⟨abX,adX⟩:=m1.kI hwd hwM;refine⟨_,rfl,_,_,_,_,_,rfl,w1.at_,T.wC,T.rB,rA,_,.inr (.inr ⟨_,w1.fd,rfl⟩),?_⟩;cases hF:F1 with
  |nil=>
   subst hF;refine aI ?_ ?_;·have hl:=w1.fl.len;have:W1.ls=[]:=ju.mp hl;rw[this];simp[yP]
   ·have hw:=v1.Ob;exact k0 H1 W1 Am [] w1 (v1.rest (by omega)) m1 WU fun v hv=>v1.RY hE hv
  |cons p0 F0=>
   have oR:F1≠[]:=by rw[hF];simp
   rw[<-hF];clear hF;have hlen:=Jj w1.fl.len;have UK:0<F1.length:=yV.mpr oR;refine bD ?_ ?_
   ·cases h:yP F1 W1.ls with
    |nil=>rw[h]at hlen;simp at hlen;omega
    |cons=>rfl
   let adw:L2.St->Hp->Prop:=fun σ' H'=>∃x2 x3 x4 x5 W' tp F' Yz dn,σ'=[some (.ref a),some (.ref wd),x2,x3,x4,x5]/\eh c H' a W' g en tp F'/\Wv g (az g use) cost src tp F' Yz (·∈ks) n0 dn/\Mv W.M H W'.M H'/\Kp W W'/\lo<Yz/\Yz<=qF.toNat;refine⟨adw,?_,?_⟩;·rintro σ' H' ⟨x2,x3,x4,x5,W',tp,F',Yz,dn,q1,q2,q3,q4,q5,q6,q7⟩;exact⟨qF.toNat-Yz,by omega,x2,x3,x4,x5,W',tp,F',Yz,dn,q1,q2,q3,q4,q5,by omega⟩
   refine⟨_,rfl,_,_,_,_,_,rfl,w1.at_,T.wC,T.rB,rA,W1.fd,_,F1.map fun p=>(p.1:Int),rfl,w1.fd,Lp w1.fl.len,(by rw[ae];exact UK),fun mm hmm ach=>?_⟩;obtain⟨⟨cc,L⟩,R9,rfl⟩:=bB.mp hmm;have Sg:∀x∈F1.map (·.1),cc<=x:=fun x hx=>by obtain⟨q,hq,rfl⟩:=bB.mp hx;have:=ach (q.1:Int) (bB.mpr ⟨q,hq,rfl⟩);simp only at this;omega
   have Xy:cc∈F1.map (·.1):=bB.mpr ⟨_,R9,rfl⟩;have aas:(cc:Int)<qF:=v1.NC cc Xy;have hlo:lo<=cc:=v1.hd.keys cc Xy;obtain⟨i0,L',l,hF1,hls,Hl,Qg,_,_⟩:∃i L' l,F1[i]? =some (cc,L')/\W1.ls[i]? =some l/\H1 l=some (.lst (d8 L'))/\nc (yP F1 W1.ls) (dC (cc:Int))=some (.ref l)/\True/\True:=by
    rcases Dk cc w1.fl with⟨q,_⟩|⟨i,L',l,q1,q2,q3,q4,_⟩;·exact bF Xy q
    ·exact⟨i,L',l,q1,q2,q3,q4,trivial,trivial⟩
   have hLL:L'=L:=EC v1.hd.nd (aH hF1) R9;subst hLL;have hLs:∀u∈L',u<g.size:=fun u hu=>v1.hd.cells cc u ⟨L',R9,hu⟩;have hLl:L'.length<=2304:=bZ (iC (v1.lists _ R9) hLs) hsz;refine⟨_,rfl,_,_,_,_,_,rfl,w1.at_,T.wC,T.rB,rA,_,rfl,W1.fd,_,rfl,(by have:=JR.k (k:=dC (cc:Int)) w1.fd;rw[Qg]at this;exact this),l,rfl,⟨_,cN.of Hl⟩,fun D1 hD1=>?_⟩;let adv:Nat->Hp->Prop:=fun i H'=>aQ H1 H'/\H' D1=some (.lst (d8 ((L'.take i).filter fun u=>decide (cF Am u=some cc))));refine v8 (K:=K) (a:=l) (xs:=d8 L') adv ⟨aQ.new hD1,aq⟩ (fun i H' _ q=>cN.of (q.1 _ _ Hl)) ?_ ?_
   ·rintro i y H2 hi ⟨s2,hd2⟩;obtain⟨v,hv,rfl⟩:=ji hi;have yM:=hLs v (aH hv);obtain⟨z,hz,_,_⟩:=v1.C.get yM;have w2:=w1.same s2;refine⟨rfl,_,rfl,_,_,_,_,_,rfl,w2.at_,T.wC,T.oV,nT,_,rfl,_,_,_,_,rfl,rfl,cN.of w2.cl,cA (pN hz),_,rfl,rfl,_,rfl,z3 (fun h=>?_) (fun h=>?_)⟩
    ·rw[au]at h;have hcv:cF Am v=some cc:=(Pd v1.C hz aas).mp (V.int.inj h);refine⟨_,rfl,_,hd2,?_,aQ.put s2 hD1,?_⟩;·rw[ae,bS];have:=c7 (fun u=>decide (cF Am u=some cc)) (L'.take i);rw[cS]at this;omega
     ·rw[aq,take_snoc hv,dR];simp[d8,hcv]
    ·rw[au]at h;have hcv:¬cF Am v=some cc:=fun q=>h (by rw[(Pd v1.C hz aas).mpr q]);refine⟨s2,?_⟩;rw[hd2,take_snoc hv,dR];simp[hcv]
   rintro H2 ⟨s2,hd2⟩;have e1:(d8 L').length=L'.length:=ae _;rw[e1,bG]at hd2;generalize VQ:(L'.filter fun u=>decide (cF Am u=some cc))=front at hd2;have hfm:∀u,u∈front↔u∈L'/\cF Am u=some cc:=fun u=>by rw[<-VQ,ba,au]
   have Tv:front.length<=2304:=by rw[<-VQ];exact bZ (c7 _ _) hLl
   refine⟨_,rfl,D1,rfl,⟨_,cN.of hd2⟩,fun D2 YY=>?_⟩;let adu:Nat->Hp->Prop:=fun i H'=>aQ H2 H'/\H' D2=some (.lst (d8 ((front.take i).filter fun u=>decide (u∈ks))));refine v8 (K:=K) (a:=D1) (xs:=d8 front) adu ⟨aQ.new YY,aq⟩ (fun i H' _ q=>cN.of (q.1 _ _ hd2)) ?_ ?_
   ·rintro i y H3 hi ⟨s3,Xv⟩;obtain⟨v,hv,rfl⟩:=ji hi;refine⟨rfl,_,rfl,_,rfl,wd,_,rfl,JR.k (k:=dC (v:Int)) (s3 _ _ (s2 _ _ abX)),_,rfl,?_⟩;rw[HR];by_cases hvk:v∈ks
    ·rw[aw hvk];refine bD rfl ⟨_,rfl,_,Xv,?_,aQ.put s3 YY,?_⟩;·rw[ae,bS];have:=c7 (fun u=>decide (u∈ks)) (front.take i);rw[cS]at this;omega
     ·rw[aq,take_snoc hv,dR];simp[d8,hvk]
    ·rw[ao hvk];refine aI (by simp) ⟨s3,?_⟩;rw[Xv,take_snoc hv,dR];simp[hvk]
   rintro H3 ⟨s3,Xv⟩;have e2:(d8 front).length=front.length:=ae _;rw[e2,bG]at Xv;generalize hmt:(front.filter fun u=>decide (u∈ks))=met at Xv;have Xm:∀u,u∈met↔u∈front/\u∈ks:=fun u=>by rw[<-hmt,ba,au]
   have CA:aQ H1 H3:=s2.trans s3;have w3:=w1.same CA;refine⟨_,rfl,_,.inl ⟨_,cN.of Xv,rfl⟩,?_⟩;cases UO:met with
   |cons t0 adV=>rw[<-UO];refine bD (by rw[UO];rfl) ⟨_,rfl,D2,met.map fun(n:Nat)=>(n:Int),rfl,cN.of (by rw[<-Dx];exact Xv),(by rw[UO];simp),fun tt htt aam=>?_⟩;obtain⟨t,ht,rfl⟩:=bB.mp htt;obtain⟨Xf,Q0⟩:=(Xm t).mp ht;obtain⟨ht3,ht4⟩:=(hfm t).mp Xf;have hw:=v1.Ob;refine k1 H3 W1 Am F1 t cc w3 (v1.rest (by omega)) (m1.trans (Mv.same CA)) WU (v1.target R9 Sg (fun x=>Iff.rfl) ⟨ht3,ht4,Q0⟩ fun y hy1 hy2 hy3=>?_) (v1.agree hE Sg);have:=aam (y:Int) (bB.mpr ⟨y,(Xm y).mpr ⟨(hfm y).mpr ⟨hy1,hy2⟩,hy3⟩,rfl⟩);omega
   |nil=>
    refine aI (by simp) ?_;have v2:=v1.pop R9 Sg fun y hy1 hy2 hy3=>by have:=(Xm y).mpr ⟨(hfm y).mpr ⟨hy1,hy2⟩,hy3⟩;rw[UO]at this;simp at this
    rw[VQ]at v2;obtain⟨JU,acv,UE,hdk⟩:=Lq cc w3.fl;refine⟨_,rfl,_,_,_,_,_,rfl,w3.at_,T.wC,T.rB,rA,W1.fd,rfl,.inl ⟨_,.inl w3.fd⟩,_,rfl,_,dC (cc:Int),_,w3.fd,rfl,Qg,?_⟩;rw[hdk];have OZ:∀x∈JU,x∈W1.ls:=fun x hx=>UE.subset hx;have mp:Mv W1.M H3 (W1.cl::W1.fd::JU) (upd H3 W1.fd (.dK (yP (drop F1 cc) JU))):=⟨fun b o e hb=>by rw[aj (fun q:b=W1.fd=>hb (by simp[q]))];exact e,fun b hb=>.inl (by
     simp only[aF]at hb⊢;rcases hb with q|q|q;·exact .inl q
     ·exact .inr (.inl q)
     ·exact .inr (.inr (OZ b q)))⟩
    have w4:eh c (upd H3 W1.fd (.dK (yP (drop F1 cc) JU))) a ⟨W1.dx,W1.gd,W1.cl,W1.fd,JU⟩ g en Am (drop F1 cc):=by
     refine⟨?_,w3.gd.same mp.off,?_,aq,acv.mono fun l hl o e=>?_,?_,w3.ln⟩;·show upd H3 W1.fd _ a=_;rw[aj (mx w3.at_ w3.fd (by intro z;cases z))];exact w3.at_
     ·show upd H3 W1.fd _ W1.cl=_;rw[aj (mx w3.cl w3.fd (by intro z;cases z))];exact w3.cl
     ·obtain⟨LL,hLL⟩:=w3.fl.mem l (OZ l hl);show upd H3 W1.fd _ l=_;rw[aj (mx hLL w3.fd (by intro z;cases z))];exact e
     ·have hn:=bQ.mp w3.nd;exact bQ.mpr ⟨fun q=>hn.1 (OZ _ q),hn.2.sublist UE⟩
    have m4:Mv W.M H (W1.cl::W1.fd::JU) (upd H3 W1.fd (.dK (yP (drop F1 cc) JU))):=(m1.trans (Mv.same CA)).trans mp;have aaB:D1≠W1.fd:=mx (s3 _ _ hd2) w3.fd (by intro z;cases z);have hd4:upd H3 W1.fd (.dK (yP (drop F1 cc) JU)) D1=some (.lst (d8 front)):=by rw[aj aaB];exact s3 _ _ hd2
    have acL:D1∉(W1.cl::W1.fd::JU):=fun q=>by
     have:H1 D1=none:=hD1;simp only[aF]at q;rcases q with q|q|q;·rw[q,w1.cl]at this;cases this
     ·exact aaB q
     ·obtain⟨LL,hLL⟩:=w1.fl.mem D1 (OZ _ q);rw[hLL]at this;cases this
    generalize upd H3 W1.fd (.dK (yP (drop F1 cc) JU))=H4 at w4 m4 hd4⊢;let adt:Nat->L2.St->Hp->Prop:=fun i σ H'=>∃x5 W' tp F' dn',σ=[some (.ref a),some (.ref wd),some (vi cc),some (.ref D1),some (.ref D2),x5]/\eh c H' a W' g en tp F'/\Vd g (az g use) cost src tp F' cc (front.drop i) (·∈ks) n0 dn'/\Mv W.M H W'.M H'/\Kp W W'/\H' D1=some (.lst (d8 front))/\D1∉W'.M;refine⟨_,rfl,D1,rfl,⟨_,cN.of hd4⟩,e_ (K:=K) (a:=D1) (xs:=d8 front) adt
     ⟨x5,_,Am,drop F1 cc,dn,rfl,w4,by simpa using v2,m4,WU,hd4,acL⟩ (fun i σ H' _⟨_,_,_,_,_,_,_,_,_,_,e,_⟩=>cN.of e) ?_ ?_⟩
    ·rintro i y σ H5 hi ⟨x5,W5,Y5,F5,dn5,rfl,w5,v5,m5,kp5,hd5,hM5⟩;obtain⟨u,Xd,rfl⟩:=ji hi;have Si:=(aW.mp Xd).1;have aau:front.drop i=u::front.drop (i+1):=by rw[List.drop_eq_getElem_cons Si];congr 1;exact bE ((aO Si).symm.trans Xd)
     rw[aau]at v5;refine⟨_,rfl,a,_,_,rfl,w5.at_,HQ,_,rfl,a,W5,g,en,use,cost,src,Y5,F5,cc,u,front.drop (i+1),(·∈ks),n0,dn5,rfl,w5,hE,hs,v5,hn0,fun H6 W6 cs6 F6 w6 v6 m6 kp6=>?_⟩;obtain⟨q1,q2⟩:=m6.kI hd5 hM5;exact⟨_,W6,cs6,F6,_,rfl,w6,v6,m5.trans m6,kp5.trans kp6,q1,q2⟩
    ·rintro σ H5 ⟨x5,W5,Y5,F5,dn5,rfl,w5,v5,m5,kp5,hd5,hM5⟩;rw[e2,List.drop_length]at v5;refine⟨_,_,_,x5,W5,Y5,F5,cc+1,dn5,rfl,w5,v5.next,m5,kp5,by omega,?_⟩;have:=UY;omega
end
end Nw
namespace Nw
open PySem PySem.Spec PyProof.Rows L2
abbrev Zs:=ab (ab Nat×Addr)
def eI(zs:Zs):ab V:=zs.map fun z=>V.ref z.2
theorem gq.nZ{H:Hp}{l:Addr}{ws:ab (ab Nat)}(h:gq H l ws):∃zs:Zs,zs.map (·.1)=ws/\H l=some (.lst (eI zs))/\∀z∈zs,H z.2=some (.lst (d8 z.1)):=by
 obtain⟨as,h1,h2,h3⟩:=h;refine⟨ws.zip as,List.map_fst_zip (by omega),?_,fun z hz=>?_⟩;·rw[h1];congr 2;unfold eI;have:(ws.zip as).map (·.2)=as:=List.map_snd_zip (by omega);rw[show as.map V.ref=((ws.zip as).map (·.2)).map V.ref by rw[this],c_];rfl
 ·obtain⟨i,hi,e⟩:=kx.mp hz;rw[List.getElem_zip]at e;rw[List.length_zip]at hi;rw[<-e];exact h3 i _ _ (aO (by omega)) (aO (by omega))
theorem gq.of{H:Hp}{l:Addr}{zs:Zs}(h1:H l=some (.lst (eI zs)))(h2:∀z∈zs,H z.2=some (.lst (d8 z.1))):gq H l (zs.map (·.1)):=by
 refine⟨zs.map (·.2),?_,by simp,fun i w a e1 e2=>?_⟩;·rw[h1,c_];rfl
 ·rw[bp]at e1 e2;cases e:zs[i]? with
  |none=>rw[e]at e1;cases e1
  |some z=>rw[e]at e1 e2;cases e1;cases e2;exact h2 z (aH e)
theorem Np:∀(p:ab Nat),Tp (vi t) (d8 p)=decide (t∈p)
 |[]=>rfl
 |x::p=>by
  have ih:=Np (t:=t) p;show(Tw (vi x) (vi t)||Tp (vi t) (d8 p))=_;rw[ih];have:Tw (vi x) (vi t)=decide (x=t):=by show((x:Int)==(t:Int))=_;rw[dh];simp only[dU,au];omega
  rw[this,dh];simp only[eQ,au,aF];constructor
  ·rintro(h|h);·exact .inl h.symm
   ·exact .inr h
  ·rintro(h|h);·exact .inl h.symm
   ·exact .inr h
theorem Ln(p:ab Nat):(d8 p).all z7=true:=by rw[eS];intro x hx;obtain⟨y,_,rfl⟩:=bB.mp hx;rfl
theorem Dm(xs:ab V):wV xs (some 1) none=xs.drop 1:=by
 unfold wV HT.Kn;cases xs with
 |nil=>rfl
 |cons x xs=>simp
theorem eh.dom{en:Nat->Nat->Int}(h:eh c H a W g en cs F)(hb:b∈W.M):∃o,H b=some o:=by
 simp only[aF]at hb;rcases hb with rfl|rfl|hb;·exact⟨_,h.cl⟩
 ·exact⟨_,h.fd⟩
 ·obtain⟨L,hL⟩:=h.fl.mem b hb;exact⟨_,hL⟩
theorem eh.not{en:Nat->Nat->Int}(h:eh c H a W g en cs F)(hb:H b=none):b∉W.M:=fun q=>by obtain⟨o,ho⟩:=h.dom q;rw[hb]at ho;cases ho
theorem eh.M5{en:Nat->Nat->Int}(h:eh c H a W g en cs F)(hb:H b=some (.ins C dx fs)):b∉W.M:=fun q=>by
 simp only[aF]at q;rcases q with q|q|q;·rw[q,h.cl]at hb;cases hb
 ·rw[q,h.fd]at hb;cases hb
 ·obtain⟨L,hL⟩:=h.fl.mem b q;rw[hL]at hb;cases hb
theorem C7{i:Nat}(h:(eI zs)[i]? =some y):∃z,zs[i]? =some z/\y=.ref z.2:=ji h
def nw(H H':Hp):Hp:=fun b=>match H b with
 |none=>H' b
 |some _=>none
theorem OM(h0:H b=none)(h:H' b=some o):nw H H' b=some o:=by unfold nw;rw[h0];exact h
theorem RW(h:nw H H' b=some o):H b=none/\H' b=some o:=by
 unfold nw at h;cases e:H b with
 |none=>rw[e]at h;exact⟨rfl,h⟩
 |some _=>rw[e]at h;cases h
theorem Ux:aQ (nw H H') H':=fun b o e=>(RW e).2
def Fb(c:Cs)(H:Hp)(t:Addr)(ways:ab (ab Nat))(x:Nat):Prop:=∃dx wl,H t=some (.ins c.tree dx (iM wl (x:Int)))/\gq H wl ways
theorem Fb.same(h:Fb c H t ways x)(s:aQ H H'):Fb c H' t ways x:=let⟨dx,wl,a,b⟩:=h;⟨dx,wl,s _ _ a,b.same s⟩
section
variable{P:bT}{w:cU}{K:ag}{mg:Str->aY aA}{base:Heap}{c:Cs}{n:Nat}
inductive L1(c:Cs)(vs:ab V)(H:Hp)(Q:VK):Prop
 |mk (gd pl:Addr) (g:Gd) (en:Nat->Nat->Int) (use:Nat->Bool) (cost:Nat->Nat->Nat) (p0:ab Nat) (ps:ab (ab Nat)) (q0:vs=[.ref gd,.ref pl]) (q1:fT c H gd g en) (q2:rZ g use cost en) (q3:gq H pl (p0::ps)) (q4:(∀p∈p0::ps,∀v∈p,v<g.size/\use v=true)) (q5:ps.length<=15) (q6:p0.Nodup) (q7:(gu g (az g use) cost (p0::ps)=none->∀H',aQ H H'->Q .iG H')) (q8:(∀ways x,gu g (az g use) cost (p0::ps)=some (ways,x)->∀H' t,aQ H H'->Fb c (nw H H') t ways x->Q (.ref t) H'))
def xK(c:Cs):Sp:=fun vs H Q _=>L1 c vs H Q
structure Ft(c:Cs)(H:Hp)(g:Gd)(en:Nat->Nat->Int)(use:Nat->Bool)(cost:Nat->Nat->Nat)(R:aY (ab (ab Nat)×Nat))(gd t dt wl wv wq:Addr)(H':Hp)(W:WA)(cs:ab Int)(F:cT)(src:ab Nat)(ways:Zs)(x:Nat)(ps:Zs)(m:Nat):Prop where
 sm:aQ H H'
 wa:eh c H' wv W g en cs F
 re:Rest g (az g use) cost src cs F (·∈(ps.map (·.1)).flatten) m
 hm:m+37000*ps.length<=600000
 hs:∀v∈src,use v=true
 wm:∀b∈W.M,H b=none
 gr:vG g (az g use) cost R (ways.map (·.1)) x src (ps.map (·.1))
 tt:H' t=some (.ins c.tree dt (iM wl (x:Int)))
 lw:H' wl=some (.lst (eI ways))
 wlM:wl∉W.M
 ws:∀z∈ways,H' z.2=some (.lst (d8 z.1))/\z.2∉W.M/\H z.2=none/\z.2≠wl
 lq:H' wq=some (.lst (eI ps))
 wqM:wq∉W.M
 wqw:wq≠wl
 pa:∀z∈ps,H z.2=some (.lst (d8 z.1))/\∀v∈z.1,v<g.size/\use v=true
 gdE:W.gd=gd
 wb:ways.length+ps.length<=15
abbrev uW:Stmt:=top 44
theorem gH:bx ["ground","pins","tree","wave","waiting","target","way","cells"] ["ground","pins"] (aU uW):={}
theorem IP(F:gY K "find_tree" "find_tree" uW f fd)(T:Txt K mg c)(N':jN P w K mg base c.tree "Tree" n ["self"] (DT c))(BI:jN P w K mg base c.wave "Wave" n ["self","ground"] (xH c))(iT:bq P w K mg base c.wave "reach" (n+1) ["self","cells"] (Ie c))(gT:bq P w K mg base c.wave "nearest_of" (n+1) ["self","wanted"] (uK c))(oF:bq P w K mg base c.wave "way_back" (n+1) ["self","target"] (GW c))(cR:bq P w K mg base c.d5 "taken_cells" (n+1) ["self","ways"] (kh c))(tH:bP P w K mg base "cells_of" (n+1) ["pins"] (GZ c)):cZ P w K mg base gZ (n+2) f fd ["ground","pins"] (xK c):=by
 refine F.ok gH (fun vs H Q E h=>?_) (fun fR A outer s H vs Q E hr h=>?_);·obtain⟨gd,pl,g,en,use,cost,p0,ps,rfl,_⟩:=h;rfl
 ·obtain⟨gd,pl,g,en,use,cost,p0,ps,rfl,hG,hE,pP,Qj,hlen,Al,kN,kS⟩:=h;have hu:=K_ hr;obtain⟨rx,gr,et,gx,nr,es,ns,hO⟩:=hG.nZ;have G:=hO.gb.ok;have hsz:=hO.gb.size_le;have hGr:gW c H gr g:=by
   obtain⟨Y3,gr',et',e0,e1,e2,h1,h2,_⟩:=hG.ex;have:=h1.symm.trans hO.at_;have e:=(HO.ins.inj (bE this)).2.2;have:gr'=gr:=by have:=gh (fun l=>l.lookup ("grid":Str)) e;simp only[zJ]at this;cases this;rfl
   rw[<-this];exact h2
  obtain⟨zs,Di,Fu,OY⟩:=pP.nZ;cases zs with
  |nil=>cases Di
  |cons z0 zs=>
  have hz0:z0.1=p0:=(List.cons.inj Di).1;have W9:zs.map (·.1)=ps:=(List.cons.inj Di).2;refine⟨_,(ah (cE (i:=2) gH.nd rfl (bj rfl) (Hc N' hr)) (ah (cE (i:=3) gH.nd rfl (bj rfl) (vc BI hr (aa (pv 0) ak))) (ah (da (bR (pv 3) iT hr (aa (cD bA (pv 1) aN (fun _ _=>rfl)) ak))) (ah (cE (i:=4) gH.nd rfl (bj rfl) (nY qk (pv 1) (mr aN) zL)) (ah (u_ bJ (dQ (pv 4) (fun _=>rfl)) (ah (cE (i:=5) gH.nd rfl (Fy rfl) (bR (pv 3) gT hr (aa (cK tH hr (aa (pv 4) ak)) ak))) (ah (cM (bL yb (pv 5) lr (cJ _)) (ay (aX lr)) br) (ah (cE (i:=6) gH.nd rfl (bj rfl) (bR (pv 3) oF hr (aa (pv 5) ak))) (ah (da (pK (aZ (pv 2) rfl) (aa (pv 6) ak))) (ah (PR (pv 2) (cD bA (aZ (pv 3) rfl) (pv 5) (fun _ _=>rfl)) W4) (ah (da (bR (pv 3) iT hr (aa (bR (aZ (pv 0) rfl) cR hr (aa (cI (aa (pv 6) ak)) ak)) ak))) (ah (da (bR (pv 3) iT hr (aa (cK tH hr (aa (oQ (own:=[("cells",7)]) rfl gH.nd (dP (pv 4)) (eG (by kernel_rfl)) (fun _ _ _ _ _=>cQ (i:=7) gH.nd rfl (bj rfl)) (fun _ _ _ _ _=>(qr (bL (WE K) (pv 5) (pv 7) rfl))) (fun _ _ _ _ _=>(pv 7))) ak)) ak))) (ay (pH (i:=4) (own:=[("cells",7)]) rfl gH.nd rfl rfl (sD rfl rfl rfl rfl) (dP (pv 4)) (eG (by kernel_rfl)) (fun _ _ _ _ _=>cQ (i:=7) gH.nd rfl (bj rfl)) (fun _ _ _ _ _=>(qr (bL (He K) (pv 5) (pv 7) rfl))) (fun _ _ _ _ _=>(pv 7)))))))))))) (ay (aX (pv 2)))))))),?_⟩;refine Yv ?_;intro Og GN uH oO lG;intro t dt ht CN acy;refine⟨t,dt,rfl,aq,fun wl JV=>⟨rfl,?_⟩⟩;have hwt:wl≠t:=fun q=>by rw[q,aq]at JV;cases JV
  have hwd:wl≠dt:=fun q=>by rw[q,aj acy,aq]at JV;cases JV
  have Xb:H wl=none:=by rw[aj hwt,aj hwd]at JV;exact JV
  have s1:aQ H (upd (upd (upd (upd H dt (.own t)) t (.ins c.tree dt [])) wl (.lst [])) t (.ins c.tree dt (iM wl 0))):=aQ.put (aQ.put (aQ.put (aQ.put (fun _ _ e=>e) CN) ht) Xb) ht;have e1t:upd (upd (upd (upd H dt (.own t)) t (.ins c.tree dt [])) wl (.lst [])) t (.ins c.tree dt (iM wl 0)) t=some (.ins c.tree dt (iM wl 0)):=aq;have e1w:upd (upd (upd (upd H dt (.own t)) t (.ins c.tree dt [])) wl (.lst [])) t (.ins c.tree dt (iM wl 0)) wl=some (.lst []):=by rw[aj hwt];exact aq
  generalize upd (upd (upd (upd H dt (.own t)) t (.ins c.tree dt [])) wl (.lst [])) t (.ins c.tree dt (iM wl 0))=H1 at s1 e1t e1w⊢;refine⟨_,rfl,?_⟩;intro wv dw Nq VS acx;have YX:fT c (upd (upd H1 dw (.own wv)) wv (.ins c.wave dw [])) gd g en:=(hG.same s1).same (aQ.put (aQ.new VS) Nq);refine⟨wv,dw,gd,g,en,rfl,YX,aq,fun H2 W2 w2 kp2 hM2 aar=>⟨rfl,?_⟩⟩;have Dc:aQ H1 H2:=fun b o e=>kp2 b o (by rw[aj (aE e Nq),aj (aE e VS)];exact e) (aE e Nq);have s2:=s1.trans Dc;have Qo:∀b∈W2.M,H b=none:=fun b hb=>by
   have:=hM2 b hb;have h2:H1 b=none:=by
    cases e:H1 b with
    |none=>rfl
    |some o=>have q1:b≠wv:=aE e Nq;have q2:b≠dw:=aE e VS;rw[aj q1,aj q2,e]at this;cases this
   exact s1.free h2
  have nM2:∀{b:Addr}{o:HO},H1 b=some o->b∉W2.M:=fun{b o} e q=>by have:=hM2 b q;rw[aj (aE e Nq),aj (aE e VS),e]at this;cases this
  have UB:=OY z0 (by simp);rw[hz0]at UB;have ad3:p0.length<=2304:=bZ (iC Al fun v hv=>(Qj p0 (by simp) v hv).1) hsz;refine⟨_,rfl,wv,_,_,rfl,w2.at_,yW,_,rfl,_,_,_,_,rfl,rfl,cN.of (s2 _ _ Fu),Gf,wv,z0.2,W2,g,en,use,cost,[],_,_,(·∈ps.flatten),0,p0,rfl,w2,Wv.new,fun v hv=>(Qj p0 (by simp) v hv).1,(by omega),(fun q=>by rw[Qo _ q]at UB;cases UB),.inl (s2 _ _ UB),fun H3 W3 cs3 F3 w3 r3 m3 k3=>?_⟩;have Tj:aQ H H3:=fun b o e=>(m3.kp b o (s2 b o e) fun q=>by rw[Qo _ q]at e;cases e);have hM3:∀b∈W3.M,H b=none:=fun b hb=>by
   rcases m3.mem b hb with q|q;·exact Qo b q
   ·exact s2.free q
  refine⟨_,rfl,_,rfl,_,_,rfl,cN.of (Tj _ _ Fu),fun wq YG=>?_⟩;rw[Dm];have abW:H wq=none:=Tj.free YG;have e3t:=m3.kI (Dc _ _ e1t) (nM2 e1t);have e3w:=m3.kI (Dc _ _ e1w) (nM2 e1w);have abV:wq≠wl:=(aE e3w.1 YG).symm;have hzl:([]:Zs).length+zs.length<=15:=by
   have:zs.length=ps.length:=by rw[<-W9,ae]
   simp;omega
  have ft0:Ft c H g en use cost (gu g (az g use) cost (p0::ps)) gd t dt wl wv wq (upd H3 wq (.lst ((eI (z0::zs)).drop 1))) W3 cs3 F3 (p0.reverse++[]) [] 0 zs (0+2*p0.length):=by
   refine⟨aQ.put Tj abW,w3.same (aQ.new YG),by rw[W9];exact r3,?_,fun v hv=>?_,hM3,?_,?_,?_,e3w.2,by simp,aq,w3.not YG,abV,fun z hz=>⟨OY z (by simp[hz]),fun v hv=>Qj z.1 ?_ v hv⟩,k3.1.trans aar,hzl⟩
   ·have:zs.length=ps.length:=by rw[<-W9,ae]
    omega
   ·simp at hv;exact(Qj p0 (by simp) v hv).2
   ·rw[W9];exact vG.start fun x=>by simp
   ·rw[aj (aE e3t.1 YG)];exact e3t.1
   ·rw[aj (aE e3w.1 YG)];exact e3w.1
   ·rw[<-W9];simp only[aF,bB];exact .inr ⟨z,hz,rfl⟩
  generalize upd H3 wq (.lst ((eI (z0::zs)).drop 1))=H4 at ft0⊢;let ads:Nat->L2.St->Hp->Prop:=fun m σ H'=>∃(x5 x6 x7:aY V)(wq:Addr)(W:WA)(cs:ab Int)(F:cT)(src:ab Nat)(ways:Zs)(x:Nat)(qs:Zs)(mm:Nat),σ=[some (.ref gd),some (.ref pl),some (.ref t),some (.ref wv),some (.ref wq),x5,x6,x7]/\Ft c H g en use cost (gu g (az g use) cost (p0::ps)) gd t dt wl wv wq H' W cs F src ways x qs mm/\m=qs.length;refine⟨ads,⟨_,none,none,none,wq,W3,cs3,F3,_,[],0,zs,_,rfl,ft0,rfl⟩,?_⟩;rintro m σ H5 ⟨x5,x6,x7,Vp,W5,Y5,F5,DS,pb,QV,qs,mm,rfl,ft,rfl⟩;refine⟨_,rfl,_,.inl ⟨_,cN.of ft.lq,rfl⟩,?_⟩;cases hqs:qs with
  |nil=>subst hqs;refine aI (by simp[eI]) ?_;have hR:gu g (az g use) cost (p0::ps)=some (pb.map (·.1),QV):=ft.gr.last;refine⟨_,rfl,kS _ _ hR H5 t ft.sm ⟨dt,wl,OM ht ft.tt,gq.of (OM Xb ft.lw) fun z hz=>OM (ft.ws z hz).2.2.1 (ft.ws z hz).1⟩⟩
  |cons q0 qs0=>
   have Xg:qs≠[]:=by rw[hqs];simp
   have adH:0<qs.length:=yV.mpr Xg;rw[<-hqs];clear hqs;refine bD (by cases qs with
    |nil=>exact bF rfl Xg
    |cons=>rfl) ?_
   have hqA:gq H5 Vp (qs.map (·.1)):=gq.of ft.lq fun z hz=>ft.sm _ _ (ft.pa z hz).1;have ab3:∀p∈qs.map (·.1),∀v∈p,v<g.size:=fun p hp v hv=>by obtain⟨z,hz,rfl⟩:=bB.mp hp;exact((ft.pa z hz).2 v hv).1
   let adq:L2.St->Hp->Prop:=fun σ' H'=>∃(x5 x6 x7:aY V)(wq:Addr)(W:WA)(cs:ab Int)(F:cT)(src:ab Nat)(ways:Zs)(x:Nat)(qs':Zs)(mm:Nat),σ'=[some (.ref gd),some (.ref pl),some (.ref t),some (.ref wv),some (.ref wq),x5,x6,x7]/\Ft c H g en use cost (gu g (az g use) cost (p0::ps)) gd t dt wl wv wq H' W cs F src ways x qs' mm/\qs'.length<qs.length;refine⟨adq,?_,?_⟩;·rintro σ' H' ⟨x5,x6,x7,wq,W,cs,F,src,ways,x,qs',mm,q1,q2,q3⟩;exact⟨_,q3,x5,x6,x7,wq,W,cs,F,src,ways,x,qs',mm,q1,q2,rfl⟩
   refine⟨_,rfl,wv,_,_,rfl,ft.wa.at_,xf,_,rfl,Vp,g.size,_,rfl,hqA,ab3,hsz,fun H6 d ks s6 hd hdk hnk YR=>?_⟩;have w6:=ft.wa.same s6;have r6:Rest g (az g use) cost DS Y5 F5 (·∈ks) mm:=ft.re.Ao fun v hv=>(YR v).mp hv;have hmm:=ft.hm;have Ql:∀v∈ks,v<g.size/\use v=true:=fun v hv=>by obtain⟨p,hp,UC⟩:=dN.mp ((YR v).mp hv);obtain⟨z,hz,rfl⟩:=bB.mp hp;exact(ft.pa z hz).2 v UC
   refine⟨wv,d,W5,g,en,use,cost,DS,Y5,F5,mm,ks,rfl,w6,hE,ft.hs,r6,(by omega),ft.wa.not hd,hdk,fun H7 W7 X0 F7 w7 r7 m7 k7 EL=>?_,fun H7 W7 X0 F7 tg cc w7 r7 m7 k7 UD XB=>?_⟩
   ·
    have s7:aQ H H7:=fun b o e=>(m7.kp b o (s6 _ _ (ft.sm b o e)) fun q=>by rw[ft.wm _ q]at e;cases e);refine⟨_,rfl,rfl,_,rfl,bD rfl ?_⟩;refine kN (ft.gr.none (by simpa using Xg) ?_) H7 s7;exact BS fun u hu=>EL u ((YR u).mpr hu)
   ·have s7:aQ H H7:=fun b o e=>(m7.kp b o (s6 _ _ (ft.sm b o e)) fun q=>by rw[ft.wm _ q]at e;cases e);have hM7:∀b∈W7.M,H b=none:=fun b hb=>by
     rcases m7.mem b hb with q|q;·exact ft.wm b q
     ·exact ft.sm.free (s6.free q)
    refine⟨_,rfl,rfl,_,rfl,aI (by simp) ?_⟩;have ab1:(dy g (az g use) cost DS).at_ tg=some cc:=(XB tg cc (aD _)).mp UD.at_;have ab0:Vbpcah.target (dy g (az g use) cost DS) (qs.map (·.1)).flatten=some (cc,tg):=by rw[Mp (L':=ks) fun x=>(YR x).symm];exact BR (UD.RV XB (aD _))
    have htu:=Ql tg UD.mem;refine⟨_,rfl,wv,_,_,rfl,w7.at_,JZ,_,rfl,wv,W7,g,en,use,cost,DS,X0,F7,tg,cc,cc,rfl,w7,hE,r7.C,r7.Za G ft.hs,XB,ab1,aD _,hsz,fun H8 wy s8 VJ aac=>?_⟩;generalize K':j9 g (az g use) cost (dy g (az g use) cost DS) g.size tg=way at aac;have VL:Walk g (az g use) way:=by rw[<-K'];exact BB G _ _ _ htu.1
    have Xx:Chain g way:=VL.chain;have s78:=s7.trans s8;have abS:H wy=none:=s7.free VJ;have abR:wy∉W7.M:=w7.not VJ;obtain⟨e7t,_⟩:=m7.kI (s6 _ _ ft.tt) (ft.wa.M5 ft.tt);obtain⟨e7w,U2⟩:=m7.kI (s6 _ _ ft.lw) ft.wlM;obtain⟨e7q,acT⟩:=m7.kI (s6 _ _ ft.lq) ft.wqM;have aab:wy≠wl:=(aE e7w VJ).symm;have adW:wy≠Vp:=(aE e7q VJ).symm;have abZ:t≠wl:=mx ft.tt ft.lw (by intro z;cases z);have hlw:=ft.wb;refine⟨_,rfl,t,_,_,_,_,rfl,s8 _ _ e7t,T.tC,T.xu,vS,.inl ⟨rfl,_,cN.of (s8 _ _ e7w)⟩,_,rfl,wl,_,_,rfl,rfl,s8 _ _ e7w,(by unfold eI;rw[ae,bS];omega),?_⟩;rw[show eI pb++[V.ref wy]=eI (pb++[(way,wy)]) by unfold eI;rw[cz];rfl];have s9:aQ H (upd H8 wl (.lst (eI (pb++[(way,wy)])))):=aQ.put s78 Xb;have m9:Mv W7.M H7 W7.M H8:=Mv.same s8;have w9:eh c (upd H8 wl (.lst (eI (pb++[(way,wy)])))) wv W7 g en X0 F7:=by
     have w8:=w7.same s8;have abU:wv≠wl:=mx w8.at_ (s8 _ _ e7w) (by intro z;cases z);refine⟨by rw[aj abU];exact w8.at_,?_,?_,?_,w8.fl.mono fun l hl o e=>?_,w8.nd,w8.ln⟩;·have Xu:W7.gd=gd:=k7.1.trans ft.gdE;rw[Xu];exact hG.same fun b o e=>eZ (s9 _ _ e) fun q=>by rw[hM7 _ q]at e;cases e
     ·rw[aj (fun q=>U2 (by rw[<-q];simp))];exact w8.cl
     ·rw[aj (fun q=>U2 (by rw[<-q];simp))];exact w8.fd
     ·rw[aj (fun q:l=wl=>U2 (by rw[<-q];simp[hl]))];exact e
    have Y0:upd H8 wl (.lst (eI (pb++[(way,wy)]))) t=some (.ins c.tree dt (iM wl (QV:Int))):=by rw[aj abZ];exact s8 _ _ e7t
    have e9w:upd H8 wl (.lst (eI (pb++[(way,wy)]))) wl=some (.lst (eI (pb++[(way,wy)]))):=aq;have e9q:upd H8 wl (.lst (eI (pb++[(way,wy)]))) Vp=some (.lst (eI qs)):=by rw[aj ft.wqw];exact s8 _ _ e7q
    have e9y:upd H8 wl (.lst (eI (pb++[(way,wy)]))) wy=some (.lst (d8 way)):=by rw[aj aab];exact aac
    have e9z:∀z∈pb,upd H8 wl (.lst (eI (pb++[(way,wy)]))) z.2=some (.lst (d8 z.1))/\z.2∉W7.M:=fun z hz=>by obtain⟨a1,a2,a3,a4⟩:=ft.ws z hz;obtain⟨b1,b2⟩:=m7.kI (s6 _ _ a1) a2;exact⟨by rw[aj a4];exact s8 _ _ b1,b2⟩
    generalize upd H8 wl (.lst (eI (pb++[(way,wy)])))=H9 at s9 w9 Y0 e9w e9q e9y e9z⊢;obtain⟨zc,YC,abO,_⟩:=r7.C.get htu.1;obtain⟨abN,_⟩:=lK YC UD.at_ abO;subst abN;refine⟨_,rfl,t,_,_,_,_,rfl,Y0,T.tC,T.HY,HU,_,rfl,_,_,_,_,_,rfl,w9.at_,T.wC,T.oV,nT,_,rfl,_,_,_,_,rfl,rfl,cN.of w9.cl,cA (pN YC),_,_,rfl,rfl,dt,_,Y0,(by show 2<1000;decide),?_⟩;rw[V9,show(QV:Int)+(cc:Int)=((QV+cc:Nat):Int)from rfl];have Wo:aQ H (upd H9 t (.ins c.tree dt (iM wl ((QV+cc:Nat):Int)))):=aQ.put s9 ht;have P_:∀{b:Addr}{xs:ab V},H9 b=some (.lst xs)->upd H9 t (.ins c.tree dt (iM wl ((QV+cc:Nat):Int))) b=some (.lst xs):=fun{b xs} e=>by rw[aj (mx e Y0 (by intro z;cases z))];exact e
    have w10:eh c (upd H9 t (.ins c.tree dt (iM wl ((QV+cc:Nat):Int)))) wv W7 g en X0 F7:=by
     have abT:wv≠t:=fun q=>by have:=w9.at_;rw[q,Y0]at this;have:=(HO.ins.inj (bE this)).2.2;simp[iM,m_]at this
     refine⟨by rw[aj abT];exact w9.at_,?_,P_ w9.cl,by rw[aj (mx w9.fd Y0 (by intro z;cases z))];exact w9.fd,w9.fl.mono fun l hl o e=>?_,w9.nd,w9.ln⟩;·have Xu:W7.gd=gd:=k7.1.trans ft.gdE;rw[Xu];exact hG.same fun b o e=>eZ (Wo _ _ e) fun q=>by rw[hM7 _ q]at e;cases e
     ·obtain⟨L,hL⟩:=w9.fl.mem l hl;rw[hL]at e;cases e;exact P_ hL
    have XX:upd H9 t (.ins c.tree dt (iM wl ((QV+cc:Nat):Int))) t=some (.ins c.tree dt (iM wl ((QV+cc:Nat):Int))):=aq;have aaT:=P_ e9w;have aaU:=P_ e9q;have XW:=P_ e9y;have aaS:∀z∈pb,upd H9 t (.ins c.tree dt (iM wl ((QV+cc:Nat):Int))) z.2=some (.lst (d8 z.1))/\z.2∉W7.M:=fun z hz=>⟨P_ (e9z z hz).1,(e9z z hz).2⟩;generalize upd H9 t (.ins c.tree dt (iM wl ((QV+cc:Nat):Int)))=H10 at Wo w10 XX aaT aaU XW aaS⊢;have aaz:=hO.same Wo;refine⟨_,rfl,wv,_,_,rfl,w10.at_,yW,_,rfl,_,_,_,_,_,rfl,aaz.at_,T.rC,T.Ec,zJ,gr,gx,_,rfl,aaz.gr,j1,_,rfl,(by show 1<=sizeLine;decide),fun l1 Hl=>?_⟩;have Zx:aQ H10 (upd H10 l1 (.lst [.ref wy])):=aQ.new Hl;refine⟨gr,l1,g,[way],rfl,(hGr.same Wo).same Zx,⟨[wy],aq,rfl,fun i w' a' q1 q2=>?_⟩,fun w' L_=>by simp at L_;rw[L_];exact Xx,fun H11 l2 kk Dc Xq acp acg VO=>?_⟩
    ·cases i with
     |zero=>cases q1;cases q2;exact Zx _ _ XW
     |succ i=>cases q1
    have zH:aQ H10 H11:=Zx.trans Dc;have acq:H10 l2=none:=Zx.free Xq;have Xs:∀v∈kk,v<g.size/\use v=true:=fun v hv=>by obtain⟨w',L_,hvc⟩:=(VO v).mp hv;simp at L_;rw[L_]at hvc;refine vy G VL (fun v' e=>?_) v hvc;obtain⟨r,hr'⟩:=BC (g:=g) (may:=az g use) (cost:=cost) (dy g (az g use) cost DS) g.size tg;rw[<-K',hr']at e;cases e;exact htu.2
    have ad6:kk.length<=2304:=bZ (iC acg fun v hv=>(Xs v hv).1) hsz;have w11:=w10.same zH;refine⟨wv,l2,W7,g,en,use,cost,DS,X0,F7,(·∈ks),mm+12*g.size,kk,rfl,w11,r7,fun v hv=>(Xs v hv).1,(by omega),w10.not acq,.inl acp,fun H12 W12 ac0 F12 w12 r12 P7 k12=>?_⟩;have CA:aQ H H12:=fun b o e=>(P7.kp b o (zH _ _ (Wo b o e)) fun q=>by rw[hM7 _ q]at e;cases e);have aaA:∀b∈W12.M,H b=none:=fun b hb=>by
     rcases P7.mem b hb with q|q;·exact hM7 b q
     ·exact Wo.free (zH.free q)
    obtain⟨aaQ,_⟩:=P7.kI (zH _ _ XX) (w11.M5 (zH _ _ XX));obtain⟨acX,aaP⟩:=P7.kI (zH _ _ aaT) U2;obtain⟨XU,aaR⟩:=P7.kI (zH _ _ aaU) acT;obtain⟨acW,aaO⟩:=P7.kI (zH _ _ XW) abR;refine⟨_,rfl,wv,_,_,rfl,w12.at_,yW,_,rfl,Vp,rfl,⟨_,cN.of XU⟩,fun D3 hD3=>?_⟩;let adp:Nat->Hp->Prop:=fun i H'=>aQ H12 H'/\H' D3=some (.lst (eI ((qs.take i).filter fun z=>decide (tg∈z.1))));refine v8 (K:=K) (a:=Vp) (xs:=eI qs) adp ⟨aQ.new hD3,aq⟩ (fun i H' _ q=>cN.of (q.1 _ _ XU)) ?_ ?_
    ·rintro i y H13 hi ⟨QX,So⟩;obtain⟨z,hz,rfl⟩:=C7 hi;have YD:=QX _ _ (CA _ _ (ft.pa z (aH hz)).1);refine⟨rfl,_,rfl,_,rfl,z.2,_,rfl,.inl (cN.of YD),rfl,Ln _,_,rfl,?_⟩;rw[ao af,Np];by_cases Hm:tg∈z.1
     ·refine bD (by simp[Hm]) ⟨_,rfl,_,So,?_,aQ.put QX hD3,?_⟩;·have:=c7 (fun z=>decide (tg∈z.1)) (qs.take i);rw[cS]at this;unfold eI;rw[ae,bS];omega
      ·rw[aq,take_snoc hz,dR];simp[eI,Hm]
     ·refine aI (by simp[Hm]) ⟨QX,?_⟩;rw[So,take_snoc hz,dR];simp[eI,Hm]
    rintro H13 ⟨QX,So⟩;have e3:(eI qs).length=qs.length:=ae _;rw[e3,bG]at So;have hA3:gq H13 D3 ((qs.filter fun z=>decide (tg∈z.1)).map (·.1)):=gq.of So fun z hz=>QX _ _ (CA _ _ (ft.pa z (ba.mp hz).1).1);refine⟨D3,g.size,_,rfl,hA3,fun p hp v hv=>?_,hsz,fun H14 d2 Z1 s15 hd2 acz ab_ aal=>?_⟩;·obtain⟨z,hz,rfl⟩:=bB.mp hp;exact((ft.pa z (ba.mp hz).1).2 v hv).1
    have zG:aQ H12 H14:=QX.trans s15;have acA:H12 d2=none:=QX.free hd2;have Sf:∀v∈Z1,v<g.size/\use v=true:=fun v hv=>by obtain⟨p,hp,UC⟩:=dN.mp ((aal v).mp hv);obtain⟨z,hz,rfl⟩:=bB.mp hp;exact(ft.pa z (ba.mp hz).1).2 v UC
    have adL:Z1.length<=2304:=bZ (iC ab_ fun v hv=>(Sf v hv).1) hsz;have w14:=w12.same zG;refine⟨wv,d2,W12,g,en,use,cost,kk.reverse++DS,ac0,F12,(·∈ks),mm+12*g.size+2*kk.length,Z1,rfl,w14,r12,fun v hv=>(Sf v hv).1,(by omega),w12.not acA,.inr acz,fun H15 W15 acZ F15 w15 r15 WR k15=>?_⟩;have s16:aQ H H15:=fun b o e=>(WR.kp b o (zG _ _ (CA b o e)) fun q=>by rw[aaA _ q]at e;cases e);have acK:∀b∈W15.M,H b=none:=fun b hb=>by
     rcases WR.mem b hb with q|q;·exact aaA b q
     ·exact CA.free (zG.free q)
    obtain⟨acV,_⟩:=WR.kI (zG _ _ aaQ) (w14.M5 (zG _ _ aaQ));obtain⟨aaM,aaL⟩:=WR.kI (zG _ _ acX) aaP;obtain⟨aaN,adP⟩:=WR.kI (zG _ _ XU) aaR;obtain⟨acU,aaK⟩:=WR.kI (zG _ _ acW) aaO;refine⟨_,rfl,Vp,rfl,⟨_,cN.of aaN⟩,fun D5 hD5=>?_⟩;let ado:Nat->Hp->Prop:=fun i H'=>aQ H15 H'/\H' D5=some (.lst (eI ((qs.take i).filter fun z=>!decide (tg∈z.1))));refine v8 (K:=K) (a:=Vp) (xs:=eI qs) ado ⟨aQ.new hD5,aq⟩ (fun i H' _ q=>cN.of (q.1 _ _ aaN)) ?_ ?_
    ·rintro i y H16 hi ⟨Tn,Sn⟩;obtain⟨z,hz,rfl⟩:=C7 hi;have YD:=Tn _ _ (s16 _ _ (ft.pa z (aH hz)).1);refine⟨rfl,_,rfl,_,rfl,z.2,_,rfl,.inl (cN.of YD),rfl,Ln _,_,rfl,?_⟩;rw[aw rfl,Np];by_cases Hm:tg∈z.1;·refine aI (by simp[Hm]) ⟨Tn,?_⟩;rw[Sn,take_snoc hz,dR];simp[eI,Hm]
     ·refine bD (by simp[Hm]) ⟨_,rfl,_,Sn,?_,aQ.put Tn hD5,?_⟩;·have:=c7 (fun z=>!decide (tg∈z.1)) (qs.take i);rw[cS]at this;unfold eI;rw[ae,bS];omega
      ·rw[aq,take_snoc hz,dR];simp[eI,Hm]
    rintro H16 ⟨Tn,Sn⟩;rw[e3,bG]at Sn;have Tv:(qs.filter fun z=>!decide (tg∈z.1)).length<qs.length:=by obtain⟨p,hp,UC⟩:=dN.mp ((YR tg).mp UD.mem);obtain⟨z,hz,rfl⟩:=bB.mp hp;exact filter_lt hz (by simp[UC])
    have hqm:(qs.filter fun z=>!decide (tg∈z.1)).map (·.1)=(qs.map (·.1)).filter fun q=>!q.contains tg:=by rw[List.filter_map];congr 1;apply List.filter_congr;intro z _;simp
    refine⟨_,_,_,D5,W15,acZ,F15,Z1.reverse++(kk.reverse++DS),pb++[(way,wy)],QV+cc,_,_,rfl,⟨s16.trans Tn,w15.same Tn,r15.Ao fun v hv=>?_,?_,fun v hv=>?_,acK,?_,Tn _ _ acV,Tn _ _ aaM,aaL,fun z hz=>?_,Sn,w15.not hD5,(aE aaM hD5).symm,fun z hz=>ft.pa z (ba.mp hz).1,?_,?_⟩,Tv⟩;·rw[hqm]at hv;obtain⟨p,hp,UC⟩:=dN.mp hv;exact(YR v).mpr (dN.mpr ⟨p,(ba.mp hp).1,UC⟩)
    ·omega
    ·simp only[a_,List.mem_reverse]at hv;rcases hv with q|q|q;·exact(Sf v q).2
     ·exact(Xs v q).2
     ·exact ft.hs v q
    ·rw[hqm,cz];have:=ft.gr.next (Rb:=Z1.reverse++(kk.reverse++DS)) ab0 fun x=>?_;·rw[K']at this;exact this
     ·rw[K'];simp only[a_,List.mem_reverse];rw[VO x,aal x];constructor
      ·rintro(q|q|q);·obtain⟨p,hp,UC⟩:=dN.mp q;obtain⟨z,hz,rfl⟩:=bB.mp hp;obtain⟨z1,z2⟩:=ba.mp hz;exact .inr (.inr ⟨z.1,bB.mpr ⟨z,z1,rfl⟩,by simpa using z2,UC⟩)
       ·obtain⟨w',L_,hvc⟩:=q;simp at L_;rw[L_]at hvc;exact .inr (.inl hvc)
       ·exact .inl q
      ·rintro(q|q|⟨p,hp,htp,hxp⟩);·exact .inr (.inr q)
       ·exact .inr (.inl ⟨way,by simp,q⟩)
       ·obtain⟨z,hz,rfl⟩:=bB.mp hp;exact .inl (dN.mpr ⟨z.1,bB.mpr ⟨z,ba.mpr ⟨hz,by simpa using htp⟩,rfl⟩,hxp⟩)
    ·rcases a_.mp hz with q|q;·obtain⟨a1,a2⟩:=aaS z q;obtain⟨b1,b2⟩:=P7.kI (zH _ _ a1) a2;obtain⟨c1,c2⟩:=WR.kI (zG _ _ b1) b2;exact⟨Tn _ _ c1,c2,(ft.ws z q).2.2.1,(ft.ws z q).2.2.2⟩
     ·simp at q;subst q;exact⟨Tn _ _ acU,aaK,abS,aab⟩
    ·exact k15.1.trans (k12.1.trans (k7.1.trans ft.gdE))
    ·rw[bo,cn];have:=ft.wb;omega
end
end Nw
namespace Nw
open PySem PySem.Spec PyProof.Rows L2
abbrev Bd:=fM
def rm(n:Nat)(f:Nat->V):ab V:=(cP n).map f
theorem jY:(rm n f).length=n:=by unfold rm;simp
theorem lJ(h:v<n):(rm n f)[v]? =some (f v):=by unfold rm;rw[bp,p9 h];rfl
theorem xZ:(rm n f).set k x=rm n fun v=>if v=k then x else f v:=by
 apply m8;intro i;by_cases hi:i<n
 ·rw[lJ hi];by_cases e:i=k;·subst e;rw[d4 (by rw[jY];exact hi),aw rfl]
  ·rw[eJ (fY e),lJ hi,ao e]
 ·rw[dI (by rw[hJ,jY];omega),dI (by rw[jY];omega)]
theorem nW(h:∀v,v<n->f v=f' v):rm n f=rm n f':=eC fun v hv=>h v (dr.mp hv)
theorem pO(h:k<n):To n (k:Int)=some k:=by unfold To;rw[aw (by omega),aw (by omega),aJ]
structure BA where
 ob:Addr
 dx:Addr
 gr:Addr
 di:Addr
 bl:Addr
 pi:Addr
 wa:Addr
 ri:Addr
 pn:Addr
 tk:Addr
 lX:ab Addr
 xs:ab Addr
abbrev BA.M(B:BA):ab Addr:=B.ob::B.di::B.bl::B.pi::B.wa::B.ri::B.pn::B.tk::B.lX
abbrev BA.N(B:BA):ab Addr:=B.M++B.xs
theorem Mv.ib(m:Mv M H M' H'):aQ (Nw.off (M++X) H) (Nw.off (M'++X) H'):=fun b o h=>by
 obtain⟨h1,h2⟩:=nD h;have h3:b∉M:=fun z=>h1 (ja _ z);refine eZ (m.kp b o h2 h3) fun q=>?_;rcases a_.mp q with q|q
 ·rcases m.mem b q with z|z;·exact h3 z
  ·rw[h2]at z;cases z
 ·exact h1 (c6 _ q)
def bW(B:BA)(s:Bd):ab (Str×V):=[("grid",.ref B.gr),("via",vi s.via),("wrong",vi s.wrong),("penalty",vi s.penalty),("directions",.ref B.di),("blocked",.ref B.bl),("pins",.ref B.pi),("ways",.ref B.wa),("rips",.ref B.ri),("pin_nets",.ref B.pn),("takers",.ref B.tk)]
section
variable{B:BA}{s:Bd}
theorem fw:(bW B s).lookup ("grid":Str)=some (.ref B.gr):=by kernel_rfl
theorem Yb:(bW B s).lookup ("via":Str)=some (vi s.via):=by kernel_rfl
theorem SW:(bW B s).lookup ("wrong":Str)=some (vi s.wrong):=by kernel_rfl
theorem NP:(bW B s).lookup ("penalty":Str)=some (vi s.penalty):=by kernel_rfl
theorem xn:(bW B s).lookup ("directions":Str)=some (.ref B.di):=by kernel_rfl
theorem yx:(bW B s).lookup ("blocked":Str)=some (.ref B.bl):=by kernel_rfl
theorem kW:(bW B s).lookup ("pins":Str)=some (.ref B.pi):=by kernel_rfl
theorem o5:(bW B s).lookup ("ways":Str)=some (.ref B.wa):=by kernel_rfl
theorem Ac:(bW B s).lookup ("rips":Str)=some (.ref B.ri):=by kernel_rfl
theorem j5:(bW B s).lookup ("pin_nets":Str)=some (.ref B.pn):=by kernel_rfl
theorem kl:(bW B s).lookup ("takers":Str)=some (.ref B.tk):=by kernel_rfl
theorem SV:(bW B s).lookup ("renew":Str)=none:=by kernel_rfl
theorem j4:(bW B s).lookup ("is_laid":Str)=none:=by kernel_rfl
theorem qB:(bW B s).lookup ("nets_with_pins":Str)=none:=by kernel_rfl
theorem tD:(bW B s).lookup ("laid_nets":Str)=none:=by kernel_rfl
theorem mG:(bW B s).lookup ("unlaid_nets":Str)=none:=by kernel_rfl
theorem NN:(bW B s).lookup ("is_held":Str)=none:=by kernel_rfl
theorem qC:(bW B s).lookup ("may_use_softly":Str)=none:=by kernel_rfl
theorem yw:(bW B s).lookup ("may_use":Str)=none:=by kernel_rfl
theorem Ge:(bW B s).lookup ("extra_cost":Str)=none:=by kernel_rfl
theorem tw:(bW B s).lookup ("step_cost":Str)=none:=by kernel_rfl
theorem Aa:(bW B s).lookup ("ways_cost":Str)=none:=by kernel_rfl
theorem qY:(bW B s).lookup ("total_cost":Str)=none:=by kernel_rfl
theorem vD:(bW B s).lookup ("set_blocked":Str)=none:=by kernel_rfl
theorem NO:(bW B s).lookup ("add_pin":Str)=none:=by kernel_rfl
theorem Js:(bW B s).lookup ("drop_pins":Str)=none:=by kernel_rfl
theorem NM:(bW B s).lookup ("lay":Str)=none:=by kernel_rfl
theorem E7:(bW B s).lookup ("unlay":Str)=none:=by kernel_rfl
theorem yu:(bW B s).lookup ("rip_for_another":Str)=none:=by kernel_rfl
theorem tW:(bW B s).lookup ("other_takers":Str)=none:=by kernel_rfl
theorem QE:(bW B s).lookup ("laying":Str)=none:=by kernel_rfl
theorem Ab:(bW B s).lookup ("lay_again":Str)=none:=by kernel_rfl
end
def Ve(H:Hp)(v:V):aY (ab (ab Nat))->Prop
 |none=>v=.iG
 |some ws=>∃w,v=.ref w/\gq H w ws
theorem Ve.same(h:Ve H v o)(s:aQ H H'):Ve H' v o:=by
 cases o with
 |none=>exact h
 |some ws=>obtain⟨w,e,l⟩:=h;exact⟨w,e,l.same s⟩
def yz(H:Hp)(ws:ab V)(s:Bd):Prop:=ws.length=33/\∀n,1<=n->n<=32->∃v,ws[n]? =some v/\Ve H v (s.net n).ways
theorem yz.same(h:yz H ws s)(k:aQ H H'):yz H' ws s:=⟨h.1,fun n a b=>let⟨v,e,w⟩:=h.2 n a b;⟨v,e,w.same k⟩⟩
def Yi(H:Hp)(M:ab Addr)(l:Addr)(ps:ab (ab Nat)):Prop:=∃zs:Zs,zs.map (·.1)=ps/\H l=some (.lst (eI zs))/\∀z∈zs,off M H z.2=some (.lst (d8 z.1))
def lR(s:Bd)(n:Nat):V:=if n=0 then .int 0 else vi (s.net n).rips
def je(s:Bd)(f:Vbpcah.Net->ab Nat)(v:Nat):V:=vi ((kq s f).getD v 0)
def CP(s:Bd)(v:Nat):V:=.bl (decide (v∈s.blocked))
def E_(s:Bd):Prop:=∀n,1<=n->n<=32->∀ws,(s.net n).ways=some ws->ws.length<=16/\∀l∈ws,l.length<=2305
theorem LO{g:Gd}(W:Vbpcah.Costs):∀(n v:Nat),(j9 g may cost W n v).length<=n+1
 |0,v=>by simp[j9]
 |n+1,v=>by
  rw[rX];cases pred g may cost W.at_ v with
  |none=>simp
  |some u=>have:=LO (g:=g) (may:=may) (cost:=cost) W n u;simp only[bg];omega
theorem Li{g:Gd}:∀(n:Nat)(tree:ab Nat)(pins ws:ab (ab Nat))(c:Nat),wW g may cost n tree pins=some (ws,c)->ws.length<=n/\∀l∈ws,l.length<=g.size+1
 |0,tree,[],ws,c,h=>by cases h;simp
 |n+1,tree,[],ws,c,h=>by cases h;simp
 |0,tree,p::pins,ws,c,h=>by cases h
 |n+1,tree,p::pins,ws,c,h=>by
  unfold wW at h;simp only at h;cases ht:Vbpcah.target (dy g may cost tree) (p::pins).flatten with
  |none=>rw[ht]at h;cases h
  |some q=>
   obtain⟨cc,v⟩:=q;rw[ht]at h;simp only[t_]at h;obtain⟨⟨w2,c2⟩,h1,h2⟩:=h;simp only[nS]at h2;obtain⟨h3,h4⟩:=Li n _ _ w2 c2 h1;rw[<-h2.1];refine⟨by simp only[bg];omega,fun l hl=>?_⟩;rcases aF.mp hl with e|e;·rw[e];exact LO _ _ _
   ·exact h4 l e
theorem J2{g:Gd}(h:gu g may cost pins=some (ws,c))(hp:pins.length<=16)(hg:g.size<=2304):ws.length<=16/\∀l∈ws,l.length<=2305:=by
 cases pins with
 |nil=>cases h
 |cons p l=>obtain⟨h1,h2⟩:=Li _ _ _ _ _ h;simp only[bg]at hp;exact⟨by omega,fun x hx=>by have:=h2 x hx;omega⟩
structure bh(c:Cs)(H:Hp)(B:BA)(s:Bd):Prop where
 good:Good s
 at_:H B.ob=some (.ins c.bO B.dx (bW B s))
 gr:gW c (off B.N H) B.gr s.g
 di:H B.di=some (.lst (d8 s.dirs))
 bl:H B.bl=some (.lst (rm s.g.size (CP s)))
 pi:H B.pi=some (.lst (B.lX.map V.ref))
 pl:B.lX.length=33
 pc:∀n,1<=n->n<=32->∃l,B.lX[n]? =some l/\Yi H B.N l (s.net n).pins
 wa:∃ws,H B.wa=some (.lst ws)/\yz (off B.N H) ws s
 ri:H B.ri=some (.lst (rm 33 (lR s)))
 pn:H B.pn=some (.lst (rm s.g.size (je s bc)))
 tk:H B.tk=some (.lst (rm s.g.size (je s (aM s.g))))
 nd:B.M.Nodup
 p0:∃l o,B.lX[0]? =some l/\H l=some (.lst o)/\o=[]
 len:E_ s
 xd:∀b∈B.xs,(∃o,H b=some o)/\b∉B.M
theorem bh.gb(h:bh c H B s):GB s.g:=⟨h.good.UU,h.good.w.2,h.good.h.2,h.good.l.2⟩
theorem bh.same(h:bh c H B s)(k:aQ H H'):bh c H' B s:=by
 have m:aQ (off B.N H) (off B.N H'):=(Mv.same (M:=B.M) k).ib;refine⟨h.good,k _ _ h.at_,h.gr.same m,k _ _ h.di,k _ _ h.bl,k _ _ h.pi,h.pl,fun n a b=>?_,?_,k _ _ h.ri,k _ _ h.pn,k _ _ h.tk,h.nd,?_,h.len,fun b hb=>⟨let⟨o,e⟩:=(h.xd b hb).1;⟨o,k _ _ e⟩,(h.xd b hb).2⟩⟩;·obtain⟨l,e,zs,q1,q2,q3⟩:=h.pc n a b;exact⟨l,e,zs,q1,k _ _ q2,fun z hz=>m _ _ (q3 z hz)⟩
 ·obtain⟨ws,e,w⟩:=h.wa;exact⟨ws,k _ _ e,w.same m⟩
 ·obtain⟨l,o,e1,e2,e3⟩:=h.p0;exact⟨l,o,e1,k _ _ e2,e3⟩
theorem bh.d5(h:bh c H B s):gW c H B.gr s.g:=h.gr.same dS
theorem bh.dom(h:bh c H B s)(hb:b∈B.M):∃o,H b=some o:=by
 simp only[aF]at hb;rcases hb with rfl|rfl|rfl|rfl|rfl|rfl|rfl|rfl|hb;·exact⟨_,h.at_⟩
 ·exact⟨_,h.di⟩
 ·exact⟨_,h.bl⟩
 ·exact⟨_,h.pi⟩
 ·obtain⟨ws,e,_⟩:=h.wa;exact⟨_,e⟩
 ·exact⟨_,h.ri⟩
 ·exact⟨_,h.pn⟩
 ·exact⟨_,h.tk⟩
 ·obtain⟨i,hi⟩:=wD.mp hb;have Si:=(aW.mp hi).1;rw[h.pl]at Si;by_cases h0:i=0;·subst h0;obtain⟨l,o,e1,e2,_⟩:=h.p0;rw[hi]at e1;cases e1;exact⟨_,e2⟩
  ·obtain⟨l,e,zs,_,q2,_⟩:=h.pc i (by omega) (by omega);rw[hi]at e;cases e;exact⟨_,q2⟩
theorem bh.not(h:bh c H B s)(hb:H b=none):b∉B.M:=fun q=>by obtain⟨o,ho⟩:=h.dom q;rw[hb]at ho;cases ho
theorem bh.IY(h:bh c H B s)(hb:H b=none):b∉B.N:=fun q=>by
 rcases a_.mp q with q|q;·exact h.not hb q
 ·obtain⟨⟨o,ho⟩,_⟩:=h.xd b q;rw[hb]at ho;cases ho
theorem IY{B:BA}(h:b∉B.N):b∉B.M:=fun q=>h (ja _ q)
theorem bh.guard(h:bh c H B s)(hq:H q=none)(k:aQ H H')(e:H' q=some o):bh c H' {B with xs:=q::B.xs} s:=by
 have m:aQ (off B.N H) (off (BA.N {B with xs:=q::B.xs}) H'):=fun b o h=>by
  obtain⟨h1,h2⟩:=nD h;refine eZ (k _ _ h2) fun z=>?_;rcases a_.mp z with z|z;·exact h1 (ja _ z)
  ·rcases aF.mp z with z|z;·rw[z,hq]at h2;cases h2
   ·exact h1 (c6 _ z)
 refine⟨h.good,k _ _ h.at_,h.gr.same m,k _ _ h.di,k _ _ h.bl,k _ _ h.pi,h.pl,fun n a b=>?_,?_,k _ _ h.ri,k _ _ h.pn,k _ _ h.tk,h.nd,?_,h.len,fun b hb=>?_⟩;·obtain⟨l,e,zs,q1,q2,q3⟩:=h.pc n a b;exact⟨l,e,zs,q1,k _ _ q2,fun z hz=>m _ _ (q3 z hz)⟩
 ·obtain⟨ws,e,w⟩:=h.wa;exact⟨ws,k _ _ e,w.same m⟩
 ·obtain⟨l,o,e1,e2,e3⟩:=h.p0;exact⟨l,o,e1,k _ _ e2,e3⟩
 ·rcases aF.mp hb with z|z;·rw[z];exact⟨⟨o,e⟩,h.not hq⟩
  ·exact⟨let⟨o,e⟩:=(h.xd b z).1;⟨o,k _ _ e⟩,(h.xd b z).2⟩
theorem bh.bare{B:BA}(h:bh c H {B with xs:=xs} s)(hs:∀b∈ys,b∈xs):bh c H {B with xs:=ys} s:=by
 have m:aQ (off (BA.N {B with xs:=xs}) H) (off (BA.N {B with xs:=ys}) H):=fun b o h=>by
  obtain⟨h1,h2⟩:=nD h;refine eZ h2 fun z=>?_;rcases a_.mp z with z|z;·exact h1 (ja _ z)
  ·exact h1 (c6 _ (hs b z))
 refine⟨h.good,h.at_,h.gr.same m,h.di,h.bl,h.pi,h.pl,fun n a b=>?_,?_,h.ri,h.pn,h.tk,h.nd,h.p0,h.len,fun b hb=>h.xd b (hs b hb)⟩;·obtain⟨l,e,zs,q1,q2,q3⟩:=h.pc n a b;exact⟨l,e,zs,q1,q2,fun z hz=>m _ _ (q3 z hz)⟩
 ·obtain⟨ws,e,w⟩:=h.wa;exact⟨ws,e,w.same m⟩
theorem bh.Wx(h:bh c H B s)(hq:q∈B.xs)(x:HO):bh c (upd H q x) B s:=by
 have hM:=(h.xd q hq).2;have k:∀b∈B.M,∀o,H b=some o->upd H q x b=some o:=fun b hb o e=>by rw[aj (fun z:b=q=>hM (z▸hb))];exact e
 have m:aQ (off B.N H) (off B.N (upd H q x)):=fun b o h=>by obtain⟨h1,h2⟩:=nD h;refine eZ ?_ h1;rw[aj (fun z:b=q=>h1 (z▸c6 _ hq))];exact h2
 have pm:∀{n:Nat}{l:Addr},B.lX[n]? =some l->l∈B.M:=fun e=>by simp[aH e]
 refine⟨h.good,k _ (by simp) _ h.at_,h.gr.same m,k _ (by simp) _ h.di,k _ (by simp) _ h.bl,k _ (by simp) _ h.pi,h.pl,fun n a b=>?_,?_,k _ (by simp) _ h.ri,k _ (by simp) _ h.pn,k _ (by simp) _ h.tk,h.nd,?_,h.len,fun b hb=>⟨?_,(h.xd b hb).2⟩⟩;·obtain⟨l,e,zs,q1,q2,q3⟩:=h.pc n a b;exact⟨l,e,zs,q1,k _ (pm e) _ q2,fun z hz=>m _ _ (q3 z hz)⟩
 ·obtain⟨ws,e,w⟩:=h.wa;exact⟨ws,k _ (by simp) _ e,w.same m⟩
 ·obtain⟨l,o,e1,e2,e3⟩:=h.p0;exact⟨l,o,e1,k _ (pm e1) _ e2,e3⟩
 ·by_cases z:b=q;·rw[z,aq];exact⟨_,rfl⟩
  ·rw[aj z];exact(h.xd b hb).1
theorem V8{s:Bd}(v:Nat):(kq s f).getD v 0<=32:=by
 by_cases h:(kq s f).getD v 0=0;·omega
 ·exact(rE h).2.2.1
theorem EG:Tp (vi x) [.int 0,vi n]=(x==0||x==n):=by show(((0:Int)==(x:Int))||(((n:Int)==(x:Int))||false))=_;rw[Bool.or_false,dh];simp only[eQ,dU];omega
theorem Dy:(vi x=vi y)↔x=y:=by rw[V.int.injEq];omega
section
variable{P:bT}{w:cU}{K:ag}{mg:Str->aY aA}{base:Heap}{c:Cs}{n:Nat}
inductive QP(c:Cs)(vs:ab V)(H:Hp)(Q:VK):Prop
 |mk (B:BA) (s:Bd) (n:Nat) (q0:vs=[.ref B.ob,vi n]) (q1:bh c H B s) (q2:1<=n) (q3:n<=32) (q4:Q (.bl (bf (s.net n))) H)
def l8(c:Cs):Sp:=fun vs H Q _=>QP c vs H Q
abbrev oy:Stmt:=inClass (top 15) 2
theorem AM:bx ["self","net"] ["self","net"] (aU oy):={}
theorem Bb(F:gY K "is_laid" "Board.is_laid" oy f fd)(T:Txt K mg c):cZ P w K mg base gZ 1 f fd ["self","net"] (l8 c):=by
 refine F.ok AM (fun vs H Q E h=>?_) (fun fR A outer s H vs Q E hr h=>?_);·obtain⟨B,s,n,rfl,_⟩:=h;rfl
 ·obtain⟨B,s,n,rfl,hB,h1,h2,k⟩:=h;obtain⟨ws,e,wk⟩:=hB.wa;obtain⟨v,hv,we⟩:=wk.2 n h1 h2;refine⟨_,(ay (aX (zM OK (cD bA (aZ (pv 0) rfl) (pv 1) (fun _ _=>rfl)) lr (cJ _)))),?_⟩;refine⟨_,rfl,_,_,_,_,_,rfl,hB.at_,T.bC,T.pU,o5,_,rfl,_,_,_,_,rfl,rfl,cN.of e,cA hv,rfl,?_⟩;have:(!decide (v=V.iG))=bf (s.net n):=by
   unfold bf;cases ho:(s.net n).ways with
   |none=>rw[ho]at we;rw[show v=V.iG from we];rfl
   |some l=>rw[ho]at we;obtain⟨w,e,_⟩:=we;rw[e];rfl
  rw[<-this]at k;exact k
inductive QQ(c:Cs)(vs:ab V)(H:Hp)(Q:VK):Prop
 |mk (B:BA) (s:Bd) (v:Nat) (q0:vs=[.ref B.ob,vi v]) (q1:bh c H B s) (q2:v<s.g.size) (q3:Q (.bl (!((dB s).getD v 0==0&&(cB s).getD v 0==0))) H)
def Kh(c:Cs):Sp:=fun vs H Q _=>QQ c vs H Q
abbrev oz:Stmt:=inClass (top 15) 6
theorem AN:bx ["self","cell"] ["self","cell"] (aU oz):={}
theorem Bc(F:gY K "is_held" "Board.is_held" oz f fd)(T:Txt K mg c):cZ P w K mg base gZ 1 f fd ["self","cell"] (Kh c):=by
 refine F.ok AN (fun vs H Q E h=>?_) (fun fR A outer s H vs Q E hr h=>?_);·obtain⟨B,s,v,rfl,_⟩:=h;rfl
 ·obtain⟨B,s,v,rfl,hB,hv,k⟩:=h;refine⟨_,(ay (aX (ZI (zM n4 (cD bA (aZ (pv 0) rfl) (pv 1) (fun _ _=>rfl)) aN (cJ _)) (IG (zM n4 (cD bA (aZ (pv 0) rfl) (pv 1) (fun _ _=>rfl)) aN (cJ _)))))),?_⟩;refine⟨_,rfl,_,_,_,_,_,rfl,hB.at_,T.bC,T.j7,j5,_,rfl,_,_,_,_,rfl,rfl,cN.of hB.pn,cA (lJ hv),rfl,_,rfl,?_⟩;have e0:∀x:Nat,(vi x=V.int 0)↔x=0:=fun x=>Dy (y:=0);by_cases hp:(dB s).getD v 0=0
  ·refine aI (by simp only[fm,gg,Decidable.not_not];exact(e0 _).mpr hp) ?_;refine⟨_,rfl,_,_,_,_,_,rfl,hB.at_,T.bC,T.j6,kl,_,rfl,_,_,_,_,rfl,rfl,cN.of hB.tk,cA (lJ hv),rfl,?_⟩;have:(!((dB s).getD v 0==0&&(cB s).getD v 0==0))=!decide (je s (aM s.g) v=V.int 0):=by rw[hp];simp only[beq_self_eq_true,lQ];congr 1;rw[dh,dU,au];exact(e0 _).symm
   rw[this]at k;exact k
  ·refine bD (by simp only[fm,gg];exact fun q=>hp ((e0 _).mp q)) ?_;have:(!((dB s).getD v 0==0&&(cB s).getD v 0==0))=true:=by rw[beq_false_of_ne hp];rfl
   rw[this]at k;exact k
inductive CQ(c:Cs)(vs:ab V)(H:Hp)(Q:VK):Prop
 |mk (B:BA) (s:Bd) (n v:Nat) (q0:vs=[.ref B.ob,vi n,vi v]) (q1:bh c H B s) (q2:v<s.g.size) (q3:∀H',aQ H H'->Q (.bl ((iV s n).getD v false)) H')
def pf(c:Cs):Sp:=fun vs H Q _=>CQ c vs H Q
theorem Oy{s:Bd}(hv:v<s.g.size):(iV s n).getD v false=(!decide (v∈s.blocked)&&((dB s).getD v 0==0||(dB s).getD v 0==n)):=by unfold iV;simp only;rw[iD,aw hv,nR s hv]
theorem UR{s:Bd}(hv:v<s.g.size):(iu s n).getD v false=((iV s n).getD v false&&((cB s).getD v 0==0||(cB s).getD v 0==n)):=by rw[Oy hv];unfold iu;simp only;rw[iD,aw hv,nR s hv,Bool.and_assoc]
abbrev jy:Stmt:=inClass (top 15) 7
theorem rG:bx ["self","net","cell"] ["self","net","cell"] (aU jy):={}
theorem rN(F:gY K "may_use_softly" "Board.may_use_softly" jy f fd)(T:Txt K mg c):cZ P w K mg base gZ 1 f fd ["self","net","cell"] (pf c):=by
 refine F.ok rG (fun vs H Q E h=>?_) (fun fR A outer s H vs Q E hr h=>?_);·obtain⟨B,s,n,v,rfl,_⟩:=h;rfl
 ·obtain⟨B,s,n,v,rfl,hB,hv,k⟩:=h;rw[Oy hv]at k;refine⟨_,(ay (aX (MW (Wz (cD bA (aZ (pv 0) rfl) (pv 2) (fun _ _=>rfl))) (IG (zM nB (cD bA (aZ (pv 0) rfl) (pv 2) (fun _ _=>rfl)) (lp (aa aN (aa (pv 1) ak))) rfl))))),?_⟩;refine⟨_,rfl,_,_,_,_,_,rfl,hB.at_,T.bC,T.wz,yx,_,rfl,_,_,_,_,rfl,rfl,cN.of hB.bl,cA (lJ hv),_,rfl,_,rfl,?_⟩;by_cases hb:v∈s.blocked;·refine aI (by simp[hb]) ?_;have:=k H fun _ _ e=>e;rw[gD hb]at this;exact this
  ·refine bD (by simp[hb]) ?_;rw[dH hb]at k;refine⟨_,rfl,_,_,_,_,_,rfl,hB.at_,T.bC,T.j7,j5,_,rfl,_,_,_,_,rfl,rfl,cN.of hB.pn,cA (lJ hv),_,rfl,(by show 2<=sizeLine;decide),fun t ht=>?_⟩;refine⟨t,_,rfl,.inr (q_.of aq),rfl,rfl,?_⟩;have:=k _ (aQ.new (o:=.tup [.int 0,vi n]) ht);rw[ao af];show Q (.bl (Tp (vi _) [.int 0,vi n])) _;rw[EG];exact this
inductive QN(c:Cs)(vs:ab V)(H:Hp)(Q:VK):Prop
 |mk (B:BA) (s:Bd) (n v:Nat) (q0:vs=[.ref B.ob,vi n,vi v]) (q1:bh c H B s) (q2:v<s.g.size) (q3:∀H',aQ H H'->Q (.bl ((iu s n).getD v false)) H')
def zt(c:Cs):Sp:=fun vs H Q _=>QN c vs H Q
abbrev ox:Stmt:=inClass (top 15) 8
theorem AL:bx ["self","net","cell"] ["self","net","cell"] (aU ox):={}
theorem Ba(F:gY K "may_use" "Board.may_use" ox f fd)(T:Txt K mg c)(eN:bq P w K mg base c.bO "may_use_softly" n ["self","net","cell"] (pf c)):cZ P w K mg base gZ (n+1) f fd ["self","net","cell"] (zt c):=by
 refine F.ok AL (fun vs H Q E h=>?_) (fun fR A outer s H vs Q E hr h=>?_);·obtain⟨B,s,n,v,rfl,_⟩:=h;rfl
 ·obtain⟨B,s,nt,v,rfl,hB,hv,k⟩:=h;rw[UR hv]at k;refine⟨_,(ay (aX (MW (bR (pv 0) eN hr (aa (pv 1) (aa (pv 2) ak))) (IG (zM nB (cD bA (aZ (pv 0) rfl) (pv 2) (fun _ _=>rfl)) (lp (aa aN (aa (pv 1) ak))) rfl))))),?_⟩;refine⟨_,rfl,_,_,_,rfl,hB.at_,qC,_,rfl,_,rfl,B,s,nt,v,rfl,hB,hv,fun H1 s1=>?_⟩;have fu:=hB.same s1;refine⟨_,rfl,?_⟩;cases hs:(iV s nt).getD v false with
  |false=>have:=k H1 s1;rw[hs]at this;exact aI af this
  |true=>rw[hs]at k;refine bD rfl ⟨_,rfl,_,_,_,_,_,rfl,fu.at_,T.bC,T.j6,kl,_,rfl,_,_,_,_,rfl,rfl,cN.of fu.tk,cA (lJ hv),_,rfl,(by show 2<=sizeLine;decide),fun t ht=>?_⟩;refine⟨t,_,rfl,.inr (q_.of aq),rfl,rfl,?_⟩;have:=k _ (aQ.put (o:=.tup [.int 0,vi nt]) s1 (s1.free ht));rw[ao af];show Q (.bl (Tp (vi _) [.int 0,vi nt])) _;rw[EG];exact this
inductive JG(c:Cs)(vs:ab V)(H:Hp)(Q:VK):Prop
 |mk (B:BA) (s:Bd) (n v:Nat) (q0:vs=[.ref B.ob,vi n,vi v]) (q1:bh c H B s) (q2:v<s.g.size) (q3:∀H',aQ H H'->Q (vi ((lO s n).getD v 0)) H')
def BZ(c:Cs):Sp:=fun vs H Q _=>JG c vs H Q
abbrev lj:Stmt:=inClass (top 15) 9
theorem oP:bx ["self","net","cell","taker"] ["self","net","cell"] (aU lj):={}
theorem wU(F:gY K "extra_cost" "Board.extra_cost" lj f fd)(T:Txt K mg c):cZ P w K mg base gZ 1 f fd ["self","net","cell"] (BZ c):=by
 refine F.ok oP (fun vs H Q E h=>?_) (fun fR A outer s H vs Q E hr h=>?_);·obtain⟨B,s,n,v,rfl,_⟩:=h;rfl
 ·obtain⟨B,s,nt,v,rfl,hB,hv,k⟩:=h;rw[Lu hv]at k;have ad2:=hB.good.penalty;refine⟨_,(ah (cE (i:=3) oP.nd rfl (bj rfl) (cD bA (aZ (pv 0) rfl) (pv 2) (fun _ _=>rfl))) (ah (cM (PW.pt (VE (bL nB (pv 3) (lp (aa aN (aa (pv 1) ak))) rfl) (RH (bL iB (cD bA (aZ (pv 0) rfl) (pv 2) (fun _ _=>rfl)) (pv 1) (cJ _))))) (ay (aX aN)) br) (ay (aX (dj A7 (aZ (pv 0) rfl) (dj gO aN (cD bA (aZ (pv 0) rfl) (pv 3) (fun _ _=>rfl)))))))),?_⟩;refine MD ?_;intro oO lG;refine⟨_,rfl,_,_,_,_,_,rfl,hB.at_,T.bC,T.j6,kl,_,rfl,_,_,_,_,rfl,rfl,cN.of hB.tk,cA (lJ hv),?_⟩;refine⟨_,rfl,_,rfl,(by show 2<=sizeLine;decide),fun t ht=>?_⟩;have s1:aQ H (upd H t (.tup [.int 0,vi nt])):=aQ.new ht;have fu:=hB.same s1;refine⟨t,_,rfl,.inr (q_.of aq),rfl,rfl,_,rfl,?_⟩;rw[ao af];show if Tp (vi _) [.int 0,vi nt]=true then _ else _;rw[EG];by_cases Q0:(cB s).getD v 0=0\/(cB s).getD v 0=nt;·refine bD (by rcases Q0 with q|q<;>simp[cB]at q⊢<;>simp[q]) ?_;refine bD rfl ?_;rw[aw (by rcases Q0 with q|q<;>simp[q])]at k;exact k _ s1
  ·refine aI (by intro q;rw[eQ,dU,dU]at q;exact Q0 q) ?_;refine⟨_,rfl,_,_,_,_,_,rfl,fu.at_,T.bC,T.j7,j5,_,rfl,_,_,_,_,rfl,rfl,cN.of fu.pn,cA (lJ hv),_,rfl,rfl,_,rfl,?_⟩;by_cases hp:(dB s).getD v 0=nt;·refine bD (by rw[au];exact Dy.mpr hp) ?_;rw[aw (.inr (.inr hp))]at k;exact k _ s1
   ·refine aI (by rw[au];exact fun q=>hp (Dy.mp q)) ?_;rw[ao (by
     rintro(q|q|q);·exact Q0 (.inl q)
     ·exact Q0 (.inr q)
     ·exact hp q)]at k
    have VM:=V8 (s:=s) (f:=aM s.g) v;have acf:(cB s).getD v 0≠0:=fun q=>Q0 (.inl q);refine⟨_,rfl,_,_,_,_,_,rfl,fu.at_,T.bC,T.BD,NP,_,rfl,_,_,_,_,_,rfl,fu.at_,T.bC,T.yy,Ac,_,rfl,_,_,_,_,rfl,rfl,cN.of fu.ri,cA (lJ (by omega)),?_⟩;unfold lR;rw[ao (show¬(kq s (aM s.g)).getD v 0=0 from acf)];refine⟨_,_,rfl,rfl,_,_,rfl,rfl,.inl ⟨by omega,by omega⟩,?_⟩;exact k _ s1
inductive LX(c:Cs)(vs:ab V)(H:Hp)(Q:VK):Prop
 |mk (B:BA) (s:Bd) (k v:Nat) (q0:vs=[.ref B.ob,vi k,vi v]) (q1:bh c H B s) (q2:v<s.g.size) (q3:∀H',aQ H H'->Q (vi (if k=0 then s.via else qZ s k (s.g.layer v))) H')
def sE(c:Cs):Sp:=fun vs H Q _=>LX c vs H Q
abbrev mf:Stmt:=inClass (top 15) 10
theorem xQ:bx ["self","kind","cell"] ["self","kind","cell"] (aU mf):={}
theorem yg(F:gY K "step_cost" "Board.step_cost" mf f fd)(T:Txt K mg c):cZ P w K mg base gZ 1 f fd ["self","kind","cell"] (sE c):=by
 refine F.ok xQ (fun vs H Q E h=>?_) (fun fR A outer s H vs Q E hr h=>?_);·obtain⟨B,s,k,v,rfl,_⟩:=h;rfl
 ·obtain⟨B,s,kd,v,rfl,hB,hv,k⟩:=h;obtain⟨gx,nr,hp,hn⟩:=hB.d5.ex;have Ss:=hB.gb.pV;have US:=hB.gb.qD;refine⟨_,(ah (cM (bL iB (pv 1) (cb T.nE) (cJ _)) (ay (aX (aZ (pv 0) rfl))) br) (ah (cM (bL nB (cD bA (aZ (pv 0) rfl) (dj Df (pv 2) (aZ (aZ (pv 0) rfl) rfl)) (fun _ _=>rfl)) (lp (aa aN (aa (pv 1) ak))) rfl) (ay (aX aN)) br) (ay (aX (aZ (pv 0) rfl))))),?_⟩;refine MD ?_;intro oO lG;refine⟨_,rfl,rfl,_,rfl,z3 (fun h=>?_) (fun h=>?_)⟩;·rw[au]at h;have h0:kd=0:=Dy (y:=0)|>.mp h;rw[aw h0]at k;exact⟨_,rfl,_,_,_,_,_,rfl,hB.at_,T.bC,T.SY,Yb,k H fun _ _ e=>e⟩
  ·rw[au]at h;have h0:¬kd=0:=fun q=>h (Dy (y:=0)|>.mpr q);rw[ao h0]at k;have hl:s.g.layer v<s.dirs.length:=by rw[hB.good.dirs];exact pM hv
   obtain⟨d,hd⟩:∃d,s.dirs[s.g.layer v]? =some d:=⟨_,aO hl⟩;have Q3:s.dirs.getD (s.g.layer v) 0=d:=by rw[dF,hd];rfl
   unfold qZ at k;rw[Q3]at k;refine⟨_,rfl,_,_,_,_,_,rfl,hB.at_,T.bC,T.tE,xn,_,rfl,_,rfl,_,_,_,_,_,rfl,hB.at_,T.bC,T.fS,fw,_,_,_,_,_,rfl,hp,T.gC,T.oB,tm,_,_,rfl,rfl,⟨by omega,by omega⟩,_,_,_,_,rfl,rfl,cN.of hB.di,cA (j:=s.g.layer v) (v:=vi d) (by rw[bp,hd];rfl),_,rfl,(by show 2<=sizeLine;decide),fun t ht=>?_⟩;refine⟨t,_,rfl,.inr (q_.of aq),rfl,rfl,_,rfl,?_⟩;have s1:aQ H (upd H t (.tup [.int 0,vi kd])):=aQ.new ht;rw[ao af,EG];by_cases Hm:d=0\/d=kd;·rw[aw Hm]at k;refine bD (by rcases Hm with q|q<;>simp[q]) ?_;exact k _ s1
   ·rw[ao Hm]at k;refine aI (by intro q;rw[eQ,dU,dU]at q;exact Hm q) ?_;exact⟨_,rfl,_,_,_,_,_,rfl,(hB.same s1).at_,T.bC,T.Ju,SW,k _ s1⟩
end
end Nw
namespace Nw
open PySem PySem.Spec PyProof.Rows L2
section
variable{lo:Int}{n j:Nat}{tt:TT}{te:TE}{σ:L2.St}{vs:ab Nat}{H1:Hp}{D:Addr}{Qd:Hp->Prop}
theorem OS(p:Nat->Bool)(val:Nat->Nat)(Qg:∀i,i<n->lo+(i:Nat)=((val i:Nat):Int))(hD:H1 D=none)(hw:∀x,wipe ((wipe σ vs).set j (some x)) vs=wipe σ vs)(hx:∀x,((wipe σ vs).set j (some x))[j]? =some (some x))(hn:n<1000000)(ht:∀(i:Nat)(H':Hp)(Q:Bool->Hp->Prop),i<n->aQ H1 H'->(∀Pk,aQ H' Pk->Q (p i) Pk)->tt ((wipe σ vs).set j (some (vi (val i)))) H' Q)(hd:∀H',aQ H1 H'->H' D=some (.lst (d8 (((cP n).filter p).map val)))->Qd H'):∃W:Nat->Nat->Hp->Prop,(∃m,W 0 m (upd H1 D (.lst [])))/\∀i m H,W i m H->((Mf lo n).stop i H/\Qd H)\/((Mf lo n).go i H/\∃Nx:Hp->Prop,(∀H',Nx H'->∃m',m'<m/\W (i+1) m' H')/\∀x H',(Mf lo n).L8 i H x H'->vw j x (wipe σ vs) H' fun σ2 H2=>wipe σ2 vs=wipe σ vs/\tt σ2 H2 fun b H3=> if b=true then J' j σ2 H3 fun y H4=>∃acc,H4 D=some (.lst acc)/\acc.length<sizeLine/\Nx (upd H4 D (.lst (acc++[y])))else Nx H3):=by
 refine zW (fun i H'=>aQ H1 H'/\H' D=some (.lst (d8 (((cP i).filter p).map val)))) ⟨aQ.new hD,aq⟩ ?_ fun H' q=>hd H' q.1 q.2;rintro i H2 hi ⟨s2,e2⟩;rw[Qg i hi];refine⟨hw _,ht i H2 _ hi s2 fun H3 s3=>?_⟩;have CA:=s2.trans s3;cases hp:p i with
 |true=>
  refine bD rfl ⟨_,hx _,_,s3 _ _ e2,?_,aQ.put CA hD,?_⟩;·rw[ae,ae,bS];have:=c7 p (cP i);rw[fk]at this;omega
  ·rw[aq,lW,dR];simp[d8,hp]
 |false=>refine aI af ⟨CA,?_⟩;rw[s3 _ _ e2,lW,dR];simp[d8,hp]
theorem Je(f:Nat->V)(hD:H1 D=none)(hw:∀x,wipe ((wipe σ vs).set j (some x)) vs=wipe σ vs)(hn:n<1000000)(ht:∀(i:Nat)(H':Hp)(Q:VK),i<n->aQ H1 H'->(∀Pk,aQ H' Pk->Q (f i) Pk)->te ((wipe σ vs).set j (some (.int (lo+(i:Nat))))) H' Q)(hd:∀H',aQ H1 H'->H' D=some (.lst (rm n f))->Qd H'):∃W:Nat->Nat->Hp->Prop,(∃m,W 0 m (upd H1 D (.lst [])))/\∀i m H,W i m H->((Mf lo n).stop i H/\Qd H)\/((Mf lo n).go i H/\∃Nx:Hp->Prop,(∀H',Nx H'->∃m',m'<m/\W (i+1) m' H')/\∀x H',(Mf lo n).L8 i H x H'->vw j x (wipe σ vs) H' fun σ2 H2=>wipe σ2 vs=wipe σ vs/\Rh σ2 H2 fun b H3=> if b=true then te σ2 H3 fun y H4=>∃acc,H4 D=some (.lst acc)/\acc.length<sizeLine/\Nx (upd H4 D (.lst (acc++[y])))else Nx H3):=by refine zW (fun i H'=>aQ H1 H'/\H' D=some (.lst (rm i f))) ⟨aQ.new hD,aq⟩ ?_ fun H' q=>hd H' q.1 q.2;rintro i H2 hi ⟨s2,e2⟩;refine⟨hw _,Mg (ht i H2 _ hi s2 fun H3 s3=>?_)⟩;refine⟨_,s3 _ _ e2,by rw[jY,bS];omega,aQ.put (s2.trans s3) hD,?_⟩;rw[aq];unfold rm;rw[lW,cz];rfl
end
section
variable{K:ag}{a:Addr}{xs:ab V}{j:Nat}{tt:TT}{te:TE}{σ:L2.St}{vs:ab Nat}{H1:Hp}{D:Addr}{Qd:Hp->Prop}
theorem OQ(p:V->Bool)(hD:H1 D=none)(ha:cN K H1 a xs)(hw:∀x,wipe ((wipe σ vs).set j (some x)) vs=wipe σ vs)(hx:∀x,((wipe σ vs).set j (some x))[j]? =some (some x))(hn:xs.length<1000000)(ht:∀(x:V)(H':Hp)(Q:Bool->Hp->Prop),x∈xs->aQ H1 H'->(∀Pk,aQ H' Pk->Q (p x) Pk)->tt ((wipe σ vs).set j (some x)) H' Q)(hd:∀H',aQ H1 H'->H' D=some (.lst (xs.filter p))->Qd H'):∃W:Nat->Nat->Hp->Prop,(∃m,W 0 m (upd H1 D (.lst [])))/\∀i m H,W i m H->((Pj K a).stop i H/\Qd H)\/((Pj K a).go i H/\∃Nx:Hp->Prop,(∀H',Nx H'->∃m',m'<m/\W (i+1) m' H')/\∀x H',(Pj K a).L8 i H x H'->vw j x (wipe σ vs) H' fun σ2 H2=>wipe σ2 vs=wipe σ vs/\tt σ2 H2 fun b H3=> if b=true then J' j σ2 H3 fun y H4=>∃acc,H4 D=some (.lst acc)/\acc.length<sizeLine/\Nx (upd H4 D (.lst (acc++[y])))else Nx H3):=by
 let adn:Nat->Hp->Prop:=fun i H'=>aQ H1 H'/\H' D=some (.lst ((xs.take i).filter p));refine v8 (xs:=xs) adn ⟨aQ.new hD,aq⟩ (fun i H' _ q=>q.1.seq ha) ?_ fun H' q=>hd H' q.1 (by have:=q.2;rw[bG]at this;exact this);rintro i x H2 hi ⟨s2,e2⟩;have Si:=(aW.mp hi).1;refine⟨hw _,ht x H2 _ (aH hi) s2 fun H3 s3=>?_⟩;have CA:=s2.trans s3;cases hp:p x with
 |true=>
  refine bD rfl ⟨_,hx _,_,s3 _ _ e2,?_,aQ.put CA hD,?_⟩;·have:=c7 p (xs.take i);rw[cS]at this;rw[bS];omega
  ·rw[aq,take_snoc hi,dR];simp[hp]
 |false=>refine aI af ⟨CA,?_⟩;rw[s3 _ _ e2,take_snoc hi,dR];simp[hp]
theorem sZ(f:V->V)(hD:H1 D=none)(ha:cN K H1 a xs)(hw:∀x,wipe ((wipe σ vs).set j (some x)) vs=wipe σ vs)(hn:xs.length<1000000)(ht:∀(x:V)(H':Hp)(Q:VK),x∈xs->aQ H1 H'->(∀Pk,aQ H' Pk->Q (f x) Pk)->te ((wipe σ vs).set j (some x)) H' Q)(hd:∀H',aQ H1 H'->H' D=some (.lst (xs.map f))->Qd H'):∃W:Nat->Nat->Hp->Prop,(∃m,W 0 m (upd H1 D (.lst [])))/\∀i m H,W i m H->((Pj K a).stop i H/\Qd H)\/((Pj K a).go i H/\∃Nx:Hp->Prop,(∀H',Nx H'->∃m',m'<m/\W (i+1) m' H')/\∀x H',(Pj K a).L8 i H x H'->vw j x (wipe σ vs) H' fun σ2 H2=>wipe σ2 vs=wipe σ vs/\Rh σ2 H2 fun b H3=> if b=true then te σ2 H3 fun y H4=>∃acc,H4 D=some (.lst acc)/\acc.length<sizeLine/\Nx (upd H4 D (.lst (acc++[y])))else Nx H3):=by let adm:Nat->Hp->Prop:=fun i H'=>aQ H1 H'/\H' D=some (.lst ((xs.take i).map f));refine v8 (xs:=xs) adm ⟨aQ.new hD,aq⟩ (fun i H' _ q=>q.1.seq ha) ?_ fun H' q=>hd H' q.1 (by have:=q.2;rw[bG]at this;exact this);rintro i x H2 hi ⟨s2,e2⟩;have Si:=(aW.mp hi).1;refine⟨hw _,Mg (ht x H2 _ (aH hi) s2 fun H3 s3=>?_)⟩;refine⟨_,s3 _ _ e2,by rw[ae,cS,bS];omega,aQ.put (s2.trans s3) hD,?_⟩;rw[aq,take_snoc hi,cz];rfl
end
theorem sY(h:x∈d8 l):∃v,v∈l/\x=vi v:=by obtain⟨v,hv,rfl⟩:=bB.mp h;exact⟨v,hv,rfl⟩
theorem yp(h:∀n,p (vi n)=q n):∀(l:ab Nat),(d8 l).filter p=d8 (l.filter q)
 |[]=>rfl
 |a::l=>by show(vi a::d8 l).filter p=d8 ((a::l).filter q);rw[eu,eu,h,yp h l];split<;>rfl
theorem n32:((32:Int)+1-1).toNat=32:=rfl
theorem M7:bV=(cP 32).map fun n=>n+1:=rfl
theorem B8(p:Nat->Bool):((cP 32).filter fun i=>p (i+1)).map (fun i=>i+1)=bV.filter p:=by rw[M7,List.filter_map];rfl
section
variable{P:bT}{w:cU}{K:ag}{mg:Str->aY aA}{base:Heap}{c:Cs}{n:Nat}
inductive Vl(c:Cs)(f:Bd->ab Nat)(vs:ab V)(H:Hp)(Q:VK):Prop
 |mk (B:BA) (s:Bd) (q0:vs=[.ref B.ob]) (q1:bh c H B s) (q2:∀(H':Hp)(l:Addr),aQ H H'->H l=none->H' l=some (.lst (d8 (f s)))->Q (.ref l) H')
def ph(c:Cs)(f:Bd->ab Nat):Sp:=fun vs H Q _=>Vl c f vs H Q
abbrev jx:Stmt:=inClass (top 15) 3
theorem jf:bx ["self","net"] ["self"] (aU jx):={}
theorem rM(F:gY K "nets_with_pins" "Board.nets_with_pins" jx f fd)(T:Txt K mg c):cZ P w K mg base gZ 1 f fd ["self"] (ph c fun s=>bV.filter (cw s)):=by
 refine F.ok jf (fun vs H Q E h=>?_) (fun fR A outer s H vs Q E hr h=>?_);·obtain⟨B,s,rfl,_⟩:=h;rfl
 ·obtain⟨B,s,rfl,hB,k⟩:=h;refine⟨_,(ay (aX (oQ (own:=[("net",1)]) rfl jf.nd (vW rfl T.b.range (aa aN (aa (dj gO (cb T.Bf) aN) ak))) (eG (by kernel_rfl)) (fun _ _ _ _ _=>cQ (i:=1) jf.nd rfl (bj rfl)) (fun _ _ _ _ _=>(qr (vU K (cD (ED K) (De K (pv 0) rfl) (pv 1) (fun _ _=>rfl)) (fun _=>rfl)))) (fun _ _ _ _ _=>(pv 1))))),?_⟩;refine⟨_,_,rfl,rfl,_,_,rfl,⟨by decide,by decide,by decide,by decide⟩,fun D hD=>?_⟩;refine OS (lo:=1) (n:=((32:Int)+1-1).toNat) (j:=1) (fun i=>cw s (i+1)) (fun i=>i+1) (fun i _=>by omega) hD (fun _=>by rfl) (fun _=>by rfl) (by decide) (fun i H' Q' hi s1 kk=>?_) fun H' s1 e=>?_
  ·rw[n32]at hi;have fu:=hB.same s1;obtain⟨l,e1,zs,q1,q2,_⟩:=fu.pc (i+1) (by omega) (by omega);refine⟨_,rfl,_,_,_,_,_,rfl,fu.at_,T.bC,T.nH,kW,_,rfl,_,_,_,_,rfl,rfl,cN.of fu.pi,cA (j:=i+1) (v:=.ref l) (by rw[bp,e1];rfl),_,(show Yg K (.ref l) H' _ from bj ⟨_,cN.of q2,rfl⟩),?_⟩;have:cw s (i+1)=!(eI zs).isEmpty:=by unfold cw;rw[<-q1];cases zs<;>rfl
   have q:=kk H' fun _ _ e=>e;rw[this]at q;exact q
  ·rw[n32,B8 (cw s)]at e;exact k H' D s1 hD e
abbrev mi:Stmt:=inClass (top 15) 4
theorem kZ:bx ["self","net"] ["self"] (aU mi):={}
theorem yi(F:gY K "laid_nets" "Board.laid_nets" mi f fd)(T:Txt K mg c)(cg:bq P w K mg base c.bO "is_laid" n ["self","net"] (l8 c)):cZ P w K mg base gZ (n+1) f fd ["self"] (ph c cq):=by
 refine F.ok kZ (fun vs H Q E h=>?_) (fun fR A outer s H vs Q E hr h=>?_);·obtain⟨B,s,rfl,_⟩:=h;rfl
 ·obtain⟨B,s,rfl,hB,k⟩:=h;refine⟨_,(ay (aX (oQ (own:=[("net",1)]) rfl kZ.nd (vW rfl T.b.range (aa aN (aa (dj gO (cb T.Bf) aN) ak))) (eG (by kernel_rfl)) (fun _ _ _ _ _=>cQ (i:=1) kZ.nd rfl (bj rfl)) (fun _ _ _ _ _=>(qr (vU K (bR (pv 0) cg hr (aa (pv 1) ak)) (fun _=>rfl)))) (fun _ _ _ _ _=>(pv 1))))),?_⟩;refine⟨_,_,rfl,rfl,_,_,rfl,⟨by decide,by decide,by decide,by decide⟩,fun D hD=>?_⟩;refine OS (lo:=1) (n:=((32:Int)+1-1).toNat) (j:=1) (fun i=>bf (s.net (i+1))) (fun i=>i+1) (fun i _=>by omega) hD (fun _=>by rfl) (fun _=>by rfl) (by decide) (fun i H' Q' hi s1 kk=>?_) fun H' s1 e=>?_;·rw[n32]at hi;have fu:=hB.same s1;exact⟨_,rfl,_,_,_,rfl,fu.at_,j4,_,rfl,B,s,i+1,rfl,fu,by omega,by omega,_,rfl,kk H' fun _ _ e=>e⟩
  ·rw[n32,B8 fun n=>bf (s.net n)]at e;exact k H' D s1 hD e
abbrev kE:Stmt:=inClass (top 15) 5
theorem jW:bx ["self","net"] ["self"] (aU kE):={}
theorem vg(F:gY K "unlaid_nets" "Board.unlaid_nets" kE f fd)(T:Txt K mg c)(cg:bq P w K mg base c.bO "is_laid" n ["self","net"] (l8 c))(eM:bq P w K mg base c.bO "nets_with_pins" n ["self"] (ph c fun s=>bV.filter (cw s))):cZ P w K mg base gZ (n+1) f fd ["self"] (ph c bX):=by
 refine F.ok jW (fun vs H Q E h=>?_) (fun fR A outer s H vs Q E hr h=>?_);·obtain⟨B,s,rfl,_⟩:=h;rfl
 ·obtain⟨B,s,rfl,hB,k⟩:=h;refine⟨_,(ay (aX (oQ (own:=[("net",1)]) rfl jW.nd (dP (jh (pv 0) eM hr)) (eG (by kernel_rfl)) (fun _ _ _ _ _=>cQ (i:=1) jW.nd rfl (bj rfl)) (fun _ _ _ _ _=>(qr (ia (vU K (bR (pv 0) cg hr (aa (pv 1) ak)) (fun _=>rfl))))) (fun _ _ _ _ _=>(pv 1))))),?_⟩;refine⟨_,rfl,_,_,_,rfl,hB.at_,qB,B,s,rfl,hB,fun H1 l s1 hl e1=>?_⟩;refine⟨l,rfl,⟨_,cN.of e1⟩,fun D hD=>?_⟩;refine OQ (K:=K) (a:=l) (xs:=d8 (bV.filter (cw s))) (fun x=>match x with| .int z=>!bf (s.net z.toNat)|_=>false) hD (cN.of e1) (fun _=>by rfl) (fun _=>by rfl) ?_ (fun x H' Q' hx s2 kk=>?_) fun H' s2 e=>?_
  ·have:=c7 (cw s) bV;rw[ae];have h2:bV.length=32:=by decide
   omega
  ·obtain⟨m,hm,rfl⟩:=sY hx;have Tt:=gP.mp (ba.mp hm).1;have fu:=(hB.same s1).same s2;refine⟨_,rfl,_,_,_,rfl,fu.at_,j4,_,rfl,B,s,m,rfl,fu,Tt.1,Tt.2,_,rfl,?_⟩;have:=kk H' fun _ _ e=>e;simp only[aJ]at this;exact this
  ·rw[yp (q:=fun m=>!bf (s.net m)) (fun m=>by simp only[aJ]),List.filter_filter]at e;refine k H' D (s1.trans s2) (s1.free hD) ?_;rw[e];unfold bX;congr 3;apply List.filter_congr;intro m _;exact Bool.and_comm _ _
theorem T3{s:Bd}(S:Good s)(hv:v<s.g.size)(nb:Nb s.g u v):dz s u v=if kind s.g u v=0 then s.via else qZ s (kind s.g u v) (s.g.layer v):=by
 unfold dz kind qZ;by_cases h:s.g.isVia u v=true;·simp only[aw h,uk]
 ·have hl:s.g.layer u=s.g.layer v:=by apply dY;intro q;exact h (eY.mpr q)
  have d2:=S.SJ (s.g.layer v);simp only[ao h];rw[hl];by_cases hr:s.g.row u=s.g.row v
  ·simp only[aw hr,Nat.one_ne_zero,mR];by_cases hd:s.dirs.getD (s.g.layer v) 0=2;·rw[aw hd,ao (by omega)]
   ·rw[ao hd,aw (by omega)]
  ·simp only[ao hr,show¬((2:Nat)=0) by decide,mR];by_cases hd:s.dirs.getD (s.g.layer v) 0=1;·rw[aw hd,ao (by omega)]
   ·rw[ao hd,aw (by omega)]
theorem yY(s:Bd):∀(w:ab Nat)(i u v:Nat),w[i]? =some u->w[i+1]? =some v->fo s (w.take (i+2))=fo s (w.take (i+1))+dz s u v
 |[],i,u,v,h,_=>by simp at h
 |[a],i,u,v,h,h2=>by simp at h2
 |a::b::w,0,u,v,h,h2=>by cases h;cases h2;simp[fo]
 |a::b::w,i+1,u,v,h,h2=>by have ih:=yY s (b::w) i u v h h2;show fo s (a::((b::w).take (i+2)))=fo s (a::((b::w).take (i+1)))+_;rw[p8,p8];show dz s a b+fo s (b::w.take (i+1))=dz s a b+fo s (b::w.take i)+_;rw[p8,p8]at ih;omega
theorem foldl_add(l:ab Nat):∀a,l.foldl (·+·) a=a+l.foldl (·+·) 0:=by
 induction l with
 |nil=>intro a;rfl
 |cons x l ih=>intro a;rw[dg,dg,ih (a+x),ih (0+x)];omega
inductive LR(c:Cs)(vs:ab V)(H:Hp)(Q:VK):Prop
 |mk (B:BA) (s:Bd) (n:Nat) (q0:vs=[.ref B.ob,vi n]) (q1:bh c H B s) (q2:1<=n) (q3:n<=32) (q4:bf (s.net n)=true) (q5:∀H',aQ H H'->Q (vi (mO s n)) H')
def xG(c:Cs):Sp:=fun vs H Q _=>LR c vs H Q
abbrev me:Stmt:=inClass (top 15) 11
theorem iA:bx ["self","net","cost","way","k"] ["self","net"] (aU me):={}
theorem yf(F:gY K "ways_cost" "Board.ways_cost" me f fd)(T:Txt K mg c)(eA:bq P w K mg base c.bO "step_cost" n ["self","kind","cell"] (sE c))(iq:bq P w K mg base c.d5 "step_kind" n ["self","cell","near"] (xI c)):cZ P w K mg base gZ (n+1) f fd ["self","net"] (xG c):=by
 refine F.ok iA (fun vs H Q E h=>?_) (fun fR A outer s H vs Q E hr h=>?_);·obtain⟨B,s,n,rfl,_⟩:=h;rfl
 ·obtain⟨B,s,nt,rfl,hB,h1,h2,n8,k⟩:=h;obtain⟨wv,e0,wk⟩:=hB.wa;obtain⟨v,hv,we⟩:=wk.2 nt h1 h2;obtain⟨ws,hws⟩:∃ws,(s.net nt).ways=some ws:=by
   unfold bf at n8;cases ho:(s.net nt).ways with
   |none=>rw[ho]at n8;cases n8
   |some l=>exact⟨l,rfl⟩
  rw[hws]at we;obtain⟨wl,rfl,hL⟩:=we;obtain⟨zs,Di,Fu,OY⟩:=(hL.same dS).nZ;have G:=hB.good.UU;have yN:=(hB.good.uA nt h1 h2 ws hws).1;have aaw:mO s nt=(ws.map (fo s)).foldl (·+·) 0:=by unfold mO;rw[hws]
  obtain⟨gx,nr,hp,hn⟩:=hB.d5.ex;refine⟨_,(ah (cE (i:=2) iA.nd rfl (bj rfl) aN) (ah (gN bJ rfl (dP (cD bA (aZ (pv 0) rfl) (pv 1) (fun _ _=>rfl))) (cQ (i:=3) iA.nd rfl (bj rfl)) (ay (gN bJ rfl (vW rfl T.b.range (aa aN (aa (dM dv rfl T.b.len jC (aa (pv 3) ak)) ak))) (cQ (i:=4) iA.nd rfl (bj rfl)) (ay (RJ (i:=2) iA.nd rfl (bj rfl) (bR (pv 0) eA hr (aa (bR (aZ (pv 0) rfl) iq hr (aa (cD bA (pv 3) (dj qU (pv 4) aN) (fun _ _=>rfl)) (aa (cD bA (pv 3) (pv 4) (fun _ _=>rfl)) ak))) (aa (cD bA (pv 3) (pv 4) (fun _ _=>rfl)) ak))) Nn))))) (ay (aX (pv 2))))),?_⟩;refine MD ?_;intro oO lG;refine⟨_,rfl,_,_,_,_,_,rfl,hB.at_,T.bC,T.pU,o5,_,rfl,_,_,_,_,rfl,rfl,cN.of e0,cA hv,wl,rfl,⟨_,cN.of Fu⟩,?_⟩;let adl:Nat->L2.St->Hp->Prop:=fun i σ H'=>∃x3 x4,σ=[some (.ref B.ob),some (vi nt),some (vi (((ws.take i).map (fo s)).foldl (·+·) 0)),x3,x4]/\aQ H H';refine e_ (K:=K) (a:=wl) (xs:=eI zs) adl ⟨none,none,rfl,fun _ _ e=>e⟩ (fun i σ H' _⟨_,_,_,s1⟩=>cN.of (s1 _ _ Fu)) ?_ ?_
  ·rintro i y σ H1 hi ⟨x3,x4,rfl,s1⟩;obtain⟨z,hz,rfl⟩:=C7 hi;have hzw:ws[i]? =some z.1:=by rw[<-Di,bp,hz];rfl
   have hcz:=yN z.1 (aH hzw);have hze:=s1 _ _ (OY z (aH hz));have Z':1<=z.1.length:=yV.mpr hcz.ne;have hzl:(d8 z.1).length=z.1.length:=ae _;refine⟨_,rfl,_,_,rfl,.inl (cN.of hze),_,_,rfl,⟨by decide,by decide,by omega,?_⟩,?_⟩;·have:=(hB.len nt h1 h2 ws hws).2 z.1 (aH hzw);omega
   have e1:(((d8 z.1).length:Int)-1).toNat=z.1.length-1:=by omega
   rw[e1];let adk:Nat->L2.St->Hp->Prop:=fun j σ H'=>∃x4,σ=[some (.ref B.ob),some (vi nt),some (vi (((ws.take i).map (fo s)).foldl (·+·) 0+fo s (z.1.take (j+1)))),some (.ref z.2),x4]/\aQ H H';refine Hs (lo:=1) (n:=z.1.length-1) adk ⟨x4,?_,s1⟩ ?_ ?_
   ·have:fo s (z.1.take 1)=0:=by
     cases z.1 with
     |nil=>rfl
     |cons a l=>rfl
    rw[this];rfl
   ·rintro j σ H2 hj ⟨x4,rfl,s2⟩;obtain⟨u,hu⟩:∃u,z.1[j]? =some u:=⟨_,aO (by omega)⟩;obtain⟨v,hv⟩:∃v,z.1[j+1]? =some v:=⟨_,aO (by omega)⟩;obtain⟨nb,QZ,yM⟩:=E4 G hcz hu hv;have jA:=hB.same s2;have Xa:=s2 _ _ (OY z (aH hz));have ej:((1:Int)+(j:Nat))=((j+1:Nat):Int):=by omega
    rw[ej];refine⟨_,rfl,_,rfl,_,_,_,rfl,jA.at_,tw,_,rfl,_,_,_,_,_,rfl,jA.at_,T.bC,T.fS,fw,_,_,_,rfl,s2 _ _ hp,z4,_,rfl,_,rfl,_,_,rfl,rfl,_,_,_,vi u,rfl,rfl,cN.of Xa,at_of (j:=j) (by omega) (by rw[bp,hu];rfl),?_⟩;refine⟨_,rfl,_,rfl,_,_,_,vi v,rfl,rfl,cN.of Xa,cA (j:=j+1) (by rw[bp,hv];rfl),B.gr,s.g,u,v,rfl,hB.d5.same s2,nb,?_⟩;refine⟨_,rfl,_,rfl,_,_,_,vi v,rfl,rfl,cN.of Xa,cA (j:=j+1) (by rw[bp,hv];rfl),B,s,kind s.g u v,v,rfl,jA,yM,fun H3 s3=>?_⟩;refine⟨_,_,rfl,rfl,some (.int ((j+1:Nat):Int)),?_,s2.trans s3⟩;rw[yY s z.1 j u v hu hv,T3 hB.good yM nb];simp only[List.set];congr 4;show V.int _=V.int _;congr 1;omega
   ·rintro σ H2 ⟨x4,rfl,s2⟩;refine⟨some (.ref z.2),x4,?_,s2⟩;have e2:z.1.take (z.1.length-1+1)=z.1:=by rw[Nat.sub_add_cancel Z',bG]
    rw[e2,take_snoc hzw,cz,sh];rfl
  ·rintro σ H1 ⟨x3,x4,rfl,s1⟩;have e1:(eI zs).length=ws.length:=by unfold eI;rw[ae,<-Di,ae]
   rw[e1,bG,<-aaw];exact⟨_,rfl,k H1 s1⟩
inductive Jz(c:Cs)(vs:ab V)(H:Hp)(Q:VK):Prop
 |mk (B:BA) (s:Bd) (q0:vs=[.ref B.ob]) (q1:bh c H B s) (q2:∀H',aQ H H'->Q (vi (mQ s)) H')
def uJ(c:Cs):Sp:=fun vs H Q _=>Jz c vs H Q
theorem sum_nat(f:Nat->Nat):∀l:ab Nat,(l.map fun n=>((f n:Nat):Int)).sum=(((l.map f).foldl (·+·) 0:Nat):Int)
 |[]=>rfl
 |a::l=>by rw[cx,Ak,sum_nat f l,cx,dg,foldl_add (l.map f) (0+f a)];omega
abbrev lh:Stmt:=inClass (top 15) 12
theorem kD:bx ["self","net"] ["self"] (aU lh):={}
theorem wR(F:gY K "total_cost" "Board.total_cost" lh f fd)(T:Txt K mg c)(eB:bq P w K mg base c.bO "laid_nets" n ["self"] (ph c cq))(gU:bq P w K mg base c.bO "ways_cost" n ["self","net"] (xG c)):cZ P w K mg base gZ (n+1) f fd ["self"] (uJ c):=by
 refine F.ok kD (fun vs H Q E h=>?_) (fun fR A outer s H vs Q E hr h=>?_);·obtain⟨B,s,rfl,_⟩:=h;rfl
 ·obtain⟨B,s,rfl,hB,k⟩:=h;refine⟨_,(ay (aX (dM (SN rfl) rfl T.b.sum SS (aa (oQ (own:=[("net",1)]) rfl kD.nd (dP (jh (pv 0) eB hr)) (eG (by kernel_rfl)) (fun _ _ _ _ _=>cQ (i:=1) kD.nd rfl (bj rfl)) (fun _ _ _ _ _=>jz) (fun _ _ _ _ _=>(bR (pv 0) gU hr (aa (pv 1) ak)))) ak)))),?_⟩;refine⟨_,rfl,_,_,_,rfl,hB.at_,tD,B,s,rfl,hB,fun H1 l s1 hl e1=>?_⟩;refine⟨l,rfl,⟨_,cN.of e1⟩,fun D hD=>?_⟩;refine sZ (K:=K) (a:=l) (xs:=d8 (cq s)) (fun x=>match x with| .int z=>vi (mO s z.toNat)|_=>.iG) hD (cN.of e1) (fun _=>by rfl) ?_ (fun x H' Q' hx s2 kk=>?_) fun H' s2 e=>?_
  ·have:=c7 (fun n=>bf (s.net n)) bV;rw[ae];have h2:bV.length=32:=by decide
   unfold cq;omega
  ·obtain⟨m,hm,rfl⟩:=sY hx;obtain⟨hm1,VP⟩:=ba.mp hm;have Tt:=gP.mp hm1;have fu:=(hB.same s1).same s2;refine⟨_,rfl,_,_,_,rfl,fu.at_,Aa,_,rfl,B,s,m,rfl,fu,Tt.1,Tt.2,VP,fun H3 s3=>?_⟩;have:=kk H3 s3;simp only[aJ]at this;exact this
  ·have e2:H' D=some (.lst (((cq s).map fun n=>((mO s n:Nat):Int)).map V.int)):=by rw[e];unfold d8;rw[c_,c_];congr 2
   refine⟨_,_,rfl,cN.of e2,?_⟩;rw[sum_nat];exact k H' (s1.trans s2)
end
end Nw
namespace Nw
open PySem PySem.Spec PyProof.Rows L2
structure Raw(c:Cs)(H:Hp)(B:BA)(fs:ab (Str×V))(g:Gd)(dirs:ab Nat)(bl:Nat->V)(zz:Nat->Zs)(ws:ab V)(ri pn tk:Nat->V):Prop where
 at_:H B.ob=some (.ins c.bO B.dx fs)
 gr:gW c (off B.N H) B.gr g
 di:H B.di=some (.lst (d8 dirs))
 bl:H B.bl=some (.lst (rm g.size bl))
 pi:H B.pi=some (.lst (B.lX.map V.ref))
 wa:H B.wa=some (.lst ws)
 ri:H B.ri=some (.lst (rm 33 ri))
 pn:H B.pn=some (.lst (rm g.size pn))
 tk:H B.tk=some (.lst (rm g.size tk))
 pl:B.lX.length=33
 pc:∀k l,B.lX[k]? =some l->H l=some (.lst (eI (zz k)))
 zo:∀k,k<33->∀z∈zz k,off B.N H z.2=some (.lst (d8 z.1))
 nd:B.M.Nodup
 xd:∀b∈B.xs,(∃o,H b=some o)/\b∉B.M
theorem jd(h:∃o,H b=some o):∃o,upd H a x b=some o:=by
 by_cases z:b=a;·rw[z,aq];exact⟨_,rfl⟩
 ·rw[aj z];exact h
theorem dD{M:ab Addr}(nd:M.Nodup){i j:Nat}(hi:M[i]? =some x)(hj:M[j]? =some y)(hij:i≠j):x≠y:=fun e=>hij (ZR nd hi (e▸hj))
theorem jZ{B:BA}(h:B.lX[k]? =some l):B.M[k+8]? =some l:=h
section
variable{c:Cs}{H:Hp}{B:BA}{fs:ab (Str×V)}{g:Gd}{dirs:ab Nat}{bl:Nat->V}{zz:Nat->Zs}{ws:ab V}{ri pn tk:Nat->V}
theorem Raw.mv(h:Raw c H B fs g dirs bl zz ws ri pn tk)(hb:b∈B.M)(o:HO):Mv B.M H B.M (upd H b o):=Mv.put hb
theorem Raw.VA(h:Raw c H B fs g dirs bl zz ws ri pn tk)(x:Nat->V):Raw c (upd H B.tk (.lst (rm g.size x))) B fs g dirs bl zz ws ri pn x:=by
 have m:=h.mv (b:=B.tk) (by simp) (.lst (rm g.size x))
 exact{
  at_:=by rw[aj (dD h.nd (i:=0) (j:=7) rfl rfl (by decide))];exact h.at_
  di:=by rw[aj (dD h.nd (i:=1) (j:=7) rfl rfl (by decide))];exact h.di
  bl:=by rw[aj (dD h.nd (i:=2) (j:=7) rfl rfl (by decide))];exact h.bl
  pi:=by rw[aj (dD h.nd (i:=3) (j:=7) rfl rfl (by decide))];exact h.pi
  wa:=by rw[aj (dD h.nd (i:=4) (j:=7) rfl rfl (by decide))];exact h.wa
  ri:=by rw[aj (dD h.nd (i:=5) (j:=7) rfl rfl (by decide))];exact h.ri
  pn:=by rw[aj (dD h.nd (i:=6) (j:=7) rfl rfl (by decide))];exact h.pn
  tk:=aq
  gr:=h.gr.same m.ib
  pl:=h.pl
  pc:=fun k l e=>by rw[aj (dD h.nd (jZ e) (j:=7) rfl (by omega))];exact h.pc k l e
  zo:=fun k hk z hz=>m.ib _ _ (h.zo k hk z hz)
  nd:=h.nd
  xd:=fun b hb=>⟨jd (h.xd b hb).1,(h.xd b hb).2⟩}
theorem Raw.VC(h:Raw c H B fs g dirs bl zz ws ri pn tk)(x:Nat->V):Raw c (upd H B.pn (.lst (rm g.size x))) B fs g dirs bl zz ws ri x tk:=by
 have m:=h.mv (b:=B.pn) (by simp) (.lst (rm g.size x))
 exact{
  at_:=by rw[aj (dD h.nd (i:=0) (j:=6) rfl rfl (by decide))];exact h.at_
  di:=by rw[aj (dD h.nd (i:=1) (j:=6) rfl rfl (by decide))];exact h.di
  bl:=by rw[aj (dD h.nd (i:=2) (j:=6) rfl rfl (by decide))];exact h.bl
  pi:=by rw[aj (dD h.nd (i:=3) (j:=6) rfl rfl (by decide))];exact h.pi
  wa:=by rw[aj (dD h.nd (i:=4) (j:=6) rfl rfl (by decide))];exact h.wa
  ri:=by rw[aj (dD h.nd (i:=5) (j:=6) rfl rfl (by decide))];exact h.ri
  pn:=aq
  tk:=by rw[aj (dD h.nd (i:=7) (j:=6) rfl rfl (by decide))];exact h.tk
  gr:=h.gr.same m.ib
  pl:=h.pl
  pc:=fun k l e=>by rw[aj (dD h.nd (jZ e) (j:=6) rfl (by omega))];exact h.pc k l e
  zo:=fun k hk z hz=>m.ib _ _ (h.zo k hk z hz)
  nd:=h.nd
  xd:=fun b hb=>⟨jd (h.xd b hb).1,(h.xd b hb).2⟩}
theorem Raw.Zu(h:Raw c H B fs g dirs bl zz ws ri pn tk)(x:Nat->V):Raw c (upd H B.bl (.lst (rm g.size x))) B fs g dirs x zz ws ri pn tk:=by
 have m:=h.mv (b:=B.bl) (by simp) (.lst (rm g.size x))
 exact{
  at_:=by rw[aj (dD h.nd (i:=0) (j:=2) rfl rfl (by decide))];exact h.at_
  di:=by rw[aj (dD h.nd (i:=1) (j:=2) rfl rfl (by decide))];exact h.di
  bl:=aq
  pi:=by rw[aj (dD h.nd (i:=3) (j:=2) rfl rfl (by decide))];exact h.pi
  wa:=by rw[aj (dD h.nd (i:=4) (j:=2) rfl rfl (by decide))];exact h.wa
  ri:=by rw[aj (dD h.nd (i:=5) (j:=2) rfl rfl (by decide))];exact h.ri
  pn:=by rw[aj (dD h.nd (i:=6) (j:=2) rfl rfl (by decide))];exact h.pn
  tk:=by rw[aj (dD h.nd (i:=7) (j:=2) rfl rfl (by decide))];exact h.tk
  gr:=h.gr.same m.ib
  pl:=h.pl
  pc:=fun k l e=>by rw[aj (dD h.nd (jZ e) (j:=2) rfl (by omega))];exact h.pc k l e
  zo:=fun k hk z hz=>m.ib _ _ (h.zo k hk z hz)
  nd:=h.nd
  xd:=fun b hb=>⟨jd (h.xd b hb).1,(h.xd b hb).2⟩}
theorem Raw.Zt(h:Raw c H B fs g dirs bl zz ws ri pn tk)(x:ab Nat):Raw c (upd H B.di (.lst (d8 x))) B fs g x bl zz ws ri pn tk:=by
 have m:=h.mv (b:=B.di) (by simp) (.lst (d8 x))
 exact{
  at_:=by rw[aj (dD h.nd (i:=0) (j:=1) rfl rfl (by decide))];exact h.at_
  di:=aq
  bl:=by rw[aj (dD h.nd (i:=2) (j:=1) rfl rfl (by decide))];exact h.bl
  pi:=by rw[aj (dD h.nd (i:=3) (j:=1) rfl rfl (by decide))];exact h.pi
  wa:=by rw[aj (dD h.nd (i:=4) (j:=1) rfl rfl (by decide))];exact h.wa
  ri:=by rw[aj (dD h.nd (i:=5) (j:=1) rfl rfl (by decide))];exact h.ri
  pn:=by rw[aj (dD h.nd (i:=6) (j:=1) rfl rfl (by decide))];exact h.pn
  tk:=by rw[aj (dD h.nd (i:=7) (j:=1) rfl rfl (by decide))];exact h.tk
  gr:=h.gr.same m.ib
  pl:=h.pl
  pc:=fun k l e=>by rw[aj (dD h.nd (jZ e) (j:=1) rfl (by omega))];exact h.pc k l e
  zo:=fun k hk z hz=>m.ib _ _ (h.zo k hk z hz)
  nd:=h.nd
  xd:=fun b hb=>⟨jd (h.xd b hb).1,(h.xd b hb).2⟩}
theorem Raw.VB(h:Raw c H B fs g dirs bl zz ws ri pn tk)(x:Nat->V):Raw c (upd H B.ri (.lst (rm 33 x))) B fs g dirs bl zz ws x pn tk:=by
 have m:=h.mv (b:=B.ri) (by simp) (.lst (rm 33 x))
 exact{
  at_:=by rw[aj (dD h.nd (i:=0) (j:=5) rfl rfl (by decide))];exact h.at_
  di:=by rw[aj (dD h.nd (i:=1) (j:=5) rfl rfl (by decide))];exact h.di
  bl:=by rw[aj (dD h.nd (i:=2) (j:=5) rfl rfl (by decide))];exact h.bl
  pi:=by rw[aj (dD h.nd (i:=3) (j:=5) rfl rfl (by decide))];exact h.pi
  wa:=by rw[aj (dD h.nd (i:=4) (j:=5) rfl rfl (by decide))];exact h.wa
  ri:=aq
  pn:=by rw[aj (dD h.nd (i:=6) (j:=5) rfl rfl (by decide))];exact h.pn
  tk:=by rw[aj (dD h.nd (i:=7) (j:=5) rfl rfl (by decide))];exact h.tk
  gr:=h.gr.same m.ib
  pl:=h.pl
  pc:=fun k l e=>by rw[aj (dD h.nd (jZ e) (j:=5) rfl (by omega))];exact h.pc k l e
  zo:=fun k hk z hz=>m.ib _ _ (h.zo k hk z hz)
  nd:=h.nd
  xd:=fun b hb=>⟨jd (h.xd b hb).1,(h.xd b hb).2⟩}
theorem Raw.Vz(h:Raw c H B fs g dirs bl zz ws ri pn tk)(x:ab V):Raw c (upd H B.wa (.lst x)) B fs g dirs bl zz x ri pn tk:=by
 have m:=h.mv (b:=B.wa) (by simp) (.lst x)
 exact{
  at_:=by rw[aj (dD h.nd (i:=0) (j:=4) rfl rfl (by decide))];exact h.at_
  di:=by rw[aj (dD h.nd (i:=1) (j:=4) rfl rfl (by decide))];exact h.di
  bl:=by rw[aj (dD h.nd (i:=2) (j:=4) rfl rfl (by decide))];exact h.bl
  pi:=by rw[aj (dD h.nd (i:=3) (j:=4) rfl rfl (by decide))];exact h.pi
  wa:=aq
  ri:=by rw[aj (dD h.nd (i:=5) (j:=4) rfl rfl (by decide))];exact h.ri
  pn:=by rw[aj (dD h.nd (i:=6) (j:=4) rfl rfl (by decide))];exact h.pn
  tk:=by rw[aj (dD h.nd (i:=7) (j:=4) rfl rfl (by decide))];exact h.tk
  gr:=h.gr.same m.ib
  pl:=h.pl
  pc:=fun k l e=>by rw[aj (dD h.nd (jZ e) (j:=4) rfl (by omega))];exact h.pc k l e
  zo:=fun k hk z hz=>m.ib _ _ (h.zo k hk z hz)
  nd:=h.nd
  xd:=fun b hb=>⟨jd (h.xd b hb).1,(h.xd b hb).2⟩}
theorem Raw.Zr(h:Raw c H B fs g dirs bl zz ws ri pn tk)(x:ab (Str×V)):Raw c (upd H B.ob (.ins c.bO B.dx x)) B x g dirs bl zz ws ri pn tk:=by
 have m:=h.mv (b:=B.ob) (by simp) (.ins c.bO B.dx x)
 exact{
  at_:=aq
  di:=by rw[aj (dD h.nd (i:=1) (j:=0) rfl rfl (by decide))];exact h.di
  bl:=by rw[aj (dD h.nd (i:=2) (j:=0) rfl rfl (by decide))];exact h.bl
  pi:=by rw[aj (dD h.nd (i:=3) (j:=0) rfl rfl (by decide))];exact h.pi
  wa:=by rw[aj (dD h.nd (i:=4) (j:=0) rfl rfl (by decide))];exact h.wa
  ri:=by rw[aj (dD h.nd (i:=5) (j:=0) rfl rfl (by decide))];exact h.ri
  pn:=by rw[aj (dD h.nd (i:=6) (j:=0) rfl rfl (by decide))];exact h.pn
  tk:=by rw[aj (dD h.nd (i:=7) (j:=0) rfl rfl (by decide))];exact h.tk
  gr:=h.gr.same m.ib
  pl:=h.pl
  pc:=fun k l e=>by rw[aj (dD h.nd (jZ e) (j:=0) rfl (by omega))];exact h.pc k l e
  zo:=fun k hk z hz=>m.ib _ _ (h.zo k hk z hz)
  nd:=h.nd
  xd:=fun b hb=>⟨jd (h.xd b hb).1,(h.xd b hb).2⟩}
theorem Raw.Yf(h:Raw c H B fs g dirs bl zz ws ri pn tk)(hl:B.lX[k]? =some l)(hz:off B.N H z.2=some (.lst (d8 z.1))):Raw c (upd H l (.lst (eI (zz k++[z])))) B fs g dirs bl (fun j=>if j=k then zz k++[z]else zz j) ws ri pn tk:=by
 have hlm:l∈B.M:=aH (jZ hl)
 have m:=h.mv hlm (.lst (eI (zz k++[z])))
 exact{
  at_:=by rw[aj (dD h.nd (i:=0) rfl (jZ hl) (by omega))];exact h.at_
  di:=by rw[aj (dD h.nd (i:=1) rfl (jZ hl) (by omega))];exact h.di
  bl:=by rw[aj (dD h.nd (i:=2) rfl (jZ hl) (by omega))];exact h.bl
  pi:=by rw[aj (dD h.nd (i:=3) rfl (jZ hl) (by omega))];exact h.pi
  wa:=by rw[aj (dD h.nd (i:=4) rfl (jZ hl) (by omega))];exact h.wa
  ri:=by rw[aj (dD h.nd (i:=5) rfl (jZ hl) (by omega))];exact h.ri
  pn:=by rw[aj (dD h.nd (i:=6) rfl (jZ hl) (by omega))];exact h.pn
  tk:=by rw[aj (dD h.nd (i:=7) rfl (jZ hl) (by omega))];exact h.tk
  gr:=h.gr.same m.ib
  pl:=h.pl
  pc:=fun j l' e=>by
   by_cases q:j=k
   ·subst q
    rw[hl]at e
    cases e
    rw[aq,aw rfl]
   ·rw[aj (dD h.nd (jZ e) (jZ hl) (by omega)),ao q]
    exact h.pc j l' e
  zo:=fun j hj y hy=>by
   refine m.ib _ _ ?_
   by_cases q:j=k
   ·simp only[aw q]at hy
    rcases a_.mp hy with w|w
    ·exact h.zo k (q▸hj) y w
    ·simp at w
     rw[w]
     exact hz
   ·simp only[ao q]at hy
    exact h.zo j hj y hy
  nd:=h.nd
  xd:=fun b hb=>⟨jd (h.xd b hb).1,(h.xd b hb).2⟩}
theorem rO:∀{l:ab Addr}{k:Nat},l.Nodup->q∉l->(l.set k q).Nodup
 |[],_,_,_=>by simp
 |a::l,0,h,hq=>by have:=bQ.mp h;exact bQ.mpr ⟨fun z=>hq (by simp[z]),this.2⟩
 |a::l,k+1,h,hq=>by
  have h1:=bQ.mp h;refine bQ.mpr ⟨fun z=>?_,rO h1.2 fun z=>hq (by simp[z])⟩;rcases cY z with e|e;·exact h1.1 e
  ·exact hq (by simp[e])
theorem Raw.WJ(h:Raw c H B fs g dirs bl zz ws ri pn tk)(hk:k<33)(hq:H q=none)(Qi:q∉B.M):
  Raw c (upd (upd H q (.lst [])) B.pi (.lst ((B.lX.map V.ref).set k (.ref q)))) {B with lX:=B.lX.set k q} fs g dirs bl (fun j=>if j=k then[]else zz j) ws ri pn tk/\
  Mv B.M H (BA.M {B with lX:=B.lX.set k q}) (upd (upd H q (.lst [])) B.pi (.lst ((B.lX.map V.ref).set k (.ref q)))):=by
 have hkl:k<B.lX.length:=by rw[h.pl];exact hk
 have m:Mv B.M H (BA.M {B with lX:=B.lX.set k q}) (upd (upd H q (.lst [])) B.pi (.lst ((B.lX.map V.ref).set k (.ref q)))):=by
  refine⟨fun b o e hb=>?_,fun b hb=>?_⟩
  ·rw[aj (fun z:b=B.pi=>hb (by simp[z])),aj (aE e hq)]
   exact e
  ·have Lg:b∈B.M.set (k+8) q:=hb
   rcases cY Lg with e|e
   ·exact .inl e
   ·rw[e];exact .inr hq
 refine⟨?_,m⟩
 exact{
  at_:=by
   show upd (upd H q _) B.pi _ B.ob=_
   rw[aj (dD h.nd (i:=0) (j:=3) rfl rfl (by decide)),aj (aE h.at_ hq)];exact h.at_
  di:=by
   show upd (upd H q _) B.pi _ B.di=_
   rw[aj (dD h.nd (i:=1) (j:=3) rfl rfl (by decide)),aj (aE h.di hq)];exact h.di
  bl:=by
   show upd (upd H q _) B.pi _ B.bl=_
   rw[aj (dD h.nd (i:=2) (j:=3) rfl rfl (by decide)),aj (aE h.bl hq)];exact h.bl
  wa:=by
   show upd (upd H q _) B.pi _ B.wa=_
   rw[aj (dD h.nd (i:=4) (j:=3) rfl rfl (by decide)),aj (aE h.wa hq)];exact h.wa
  ri:=by
   show upd (upd H q _) B.pi _ B.ri=_
   rw[aj (dD h.nd (i:=5) (j:=3) rfl rfl (by decide)),aj (aE h.ri hq)];exact h.ri
  pn:=by
   show upd (upd H q _) B.pi _ B.pn=_
   rw[aj (dD h.nd (i:=6) (j:=3) rfl rfl (by decide)),aj (aE h.pn hq)];exact h.pn
  tk:=by
   show upd (upd H q _) B.pi _ B.tk=_
   rw[aj (dD h.nd (i:=7) (j:=3) rfl rfl (by decide)),aj (aE h.tk hq)];exact h.tk
  pi:=by
   show upd (upd H q _) B.pi _ B.pi=_
   rw[aq,List.map_set]
  gr:=h.gr.same m.ib
  pl:=by
   show(B.lX.set k q).length=33
   rw[hJ];exact h.pl
  pc:=fun j l e=>by
   show upd (upd H q _) B.pi _ l=_
   have e':(B.lX.set k q)[j]? =some l:=e
   by_cases w:j=k
   ·subst w
    rw[d4 hkl]at e'
    cases e'
    rw[aj (fun z:q=B.pi=>Qi (by simp[z])),aq,aw rfl]
    rfl
   ·rw[eJ (fY w)]at e'
    rw[aj (dD h.nd (jZ e') (j:=3) rfl (by omega)),aj (aE (h.pc j l e') hq),ao w]
    exact h.pc j l e'
  zo:=fun j hj y hy=>by
   by_cases w:j=k
   ·simp only[aw w]at hy
    simp at hy
   ·simp only[ao w]at hy
    exact m.ib _ _ (h.zo j hj y hy)
  nd:=rO (k:=k+8) h.nd Qi
  xd:=fun b hb=>⟨jd (jd (h.xd b hb).1),fun z=>by
   have Lg:b∈B.M.set (k+8) q:=z
   rcases cY Lg with e|e
   ·exact(h.xd b hb).2 e
   ·obtain⟨o,ho⟩:=(h.xd b hb).1
    rw[e,hq]at ho;cases ho⟩}
theorem Raw.same(h:Raw c H B fs g dirs bl zz ws ri pn tk)(k:aQ H H'):Raw c H' B fs g dirs bl zz ws ri pn tk:=
 have m:aQ (off B.N H) (off B.N H'):=(Mv.same (M:=B.M) k).ib
 ⟨k _ _ h.at_,h.gr.same m,k _ _ h.di,k _ _ h.bl,k _ _ h.pi,k _ _ h.wa,k _ _ h.ri,k _ _ h.pn,k _ _ h.tk,h.pl,fun j l e=>k _ _ (h.pc j l e),fun j hj z hz=>m _ _ (h.zo j hj z hz),h.nd,fun b hb=>⟨let⟨o,e⟩:=(h.xd b hb).1;⟨o,k _ _ e⟩,(h.xd b hb).2⟩⟩
theorem bh.raw{s:Bd}(h:bh c H B s):∃zz ws,Raw c H B (bW B s) s.g s.dirs (CP s) zz ws (lR s) (je s bc) (je s (aM s.g))/\yz (off B.N H) ws s/\(∀n,1<=n->n<=32->(zz n).map (·.1)=(s.net n).pins)/\zz 0=[]:=by
 obtain⟨ws,e,w⟩:=h.wa;obtain⟨zz,YA⟩:∃zz:Nat->Zs,∀k,k<33->∃l,B.lX[k]? =some l/\H l=some (.lst (eI (zz k)))/\(∀z∈zz k,off B.N H z.2=some (.lst (d8 z.1)))/\(1<=k->(zz k).map (·.1)=(s.net k).pins)/\(k=0->zz k=[]):=by
  have:∀k,∃z:Zs,k<33->∃l,B.lX[k]? =some l/\H l=some (.lst (eI z))/\(∀y∈z,off B.N H y.2=some (.lst (d8 y.1)))/\(1<=k->z.map (·.1)=(s.net k).pins)/\(k=0->z=[]):=by
   intro k;by_cases hk:k<33
   ·by_cases h0:k=0;·subst h0;obtain⟨l,o,e1,e2,e3⟩:=h.p0;subst e3;exact⟨[],fun _=>⟨l,e1,e2,by simp,fun q=>by omega,fun _=>rfl⟩⟩
    ·obtain⟨l,e1,zs,q1,q2,q3⟩:=h.pc k (by omega) (by omega);exact⟨zs,fun _=>⟨l,e1,q2,q3,fun _=>q1,fun q=>bF q h0⟩⟩
   ·exact⟨[],fun q=>bF q hk⟩
  exact⟨fun k=>(this k).choose,fun k hk=>(this k).choose_spec hk⟩
 refine⟨zz,ws,⟨h.at_,h.gr,h.di,h.bl,h.pi,e,h.ri,h.pn,h.tk,h.pl,fun k l e=>?_,fun k hk=>?_,h.nd,h.xd⟩,w,fun n h1 h2=>?_,?_⟩;·obtain⟨l',e1,e2,_⟩:=YA k (by have:=(aW.mp e).1;rw[h.pl]at this;exact this);rw[e]at e1;cases e1;exact e2
 ·obtain⟨_,_,_,e3,_⟩:=YA k hk;exact e3
 ·obtain⟨_,_,_,_,e4,_⟩:=YA n (by omega);exact e4 h1
 ·obtain⟨_,_,_,_,_,e5⟩:=YA 0 (by decide);exact e5 rfl
theorem Raw.bO{s:Bd}(h:Raw c H B (bW B s) s.g s.dirs bl zz ws ri pn tk)(good:Good s)(len:E_ s)(hb:∀v,v<s.g.size->bl v=CP s v)(hr:∀n,n<33->ri n=lR s n)(hp:∀v,v<s.g.size->pn v=je s bc v)(ht:∀v,v<s.g.size->tk v=je s (aM s.g) v)(hw:yz (off B.N H) ws s)(hz:∀n,1<=n->n<=32->(zz n).map (·.1)=(s.net n).pins)(h0:zz 0=[]):bh c H B s:=by
 have gl:∀k,k<33->∃l,B.lX[k]? =some l:=fun k hk=>⟨_,aO (by rw[h.pl];exact hk)⟩;refine⟨good,h.at_,h.gr,h.di,by rw[h.bl,nW hb],h.pi,h.pl,fun n h1 h2=>?_,⟨ws,h.wa,hw⟩,by rw[h.ri,nW hr],by rw[h.pn,nW hp],by rw[h.tk,nW ht],h.nd,?_,len,h.xd⟩;·obtain⟨l,e⟩:=gl n (by omega);exact⟨l,e,zz n,hz n h1 h2,h.pc n l e,h.zo n (by omega)⟩
 ·obtain⟨l,e⟩:=gl 0 (by decide);exact⟨l,[],e,by rw[h.pc 0 l e,h0];rfl,rfl⟩
end
theorem EA:∀{l:ab Nat}{d:Nat},(∀n∈l,has n=acH n)->lastOf has l d=lastOf acH l d
 |[],d,_=>rfl
 |n::l,d,h=>by unfold lastOf;rw[h n (by simp),EA fun m hm=>h m (by simp[hm])]
theorem TK{s s':Bd}(hg:s'.g=s.g)(hv:v<s.g.size)(h:∀m,1<=m->m<=32->(v∈f' (s'.net m)↔v∈f (s.net m))):(kq s' f').getD v 0=(kq s f).getD v 0:=by rw[table_at s f hv,table_at s' f' (by rw[hg];exact hv)];refine EA fun m hm=>?_;have:=gP.mp hm;rw[dh,au,au];exact h m this.1 this.2
end Nw
namespace Nw
open PySem PySem.Spec PyProof.Rows L2
theorem l0(hg:s'.g=s.g)(hv:v<s.g.size)(h:∀m,1<=m->m<=32->(v∈f' (s'.net m)↔v∈f (s.net m))):je s' f' v=je s f v:=by unfold je;rw[TK hg hv h]
section
variable{P:bT}{w:cU}{K:ag}{mg:Str->aY aA}{base:Heap}{c:Cs}{n:Nat}
inductive Gi(c:Cs)(vs:ab V)(H:Hp)(Q:VK):Prop
 |mk (B:BA) (s:Bd) (l:Addr) (cells bs:ab Nat) (b:Bool) (q0:vs=[.ref B.ob,.ref l,.bl b]) (q1:bh c H B s) (q2:H l=some (.lst (d8 cells))) (q3:l∉B.M) (q4:(∀v∈cells,v<s.g.size)) (q5:Good {s with blocked:=bs}) (q6:(∀v,v<s.g.size->(v∈bs↔if v∈cells then b=true else v∈s.blocked))) (q7:∀H',bh c H' B {s with blocked:=bs}->Mv B.M H B.M H'->Q .iG H')
def sF(c:Cs):Sp:=fun vs H Q _=>Gi c vs H Q
abbrev kF:Stmt:=inClass (top 15) 13
theorem nV:bx ["self","cells","blocked","cell"] ["self","cells","blocked"] (aU kF):={}
theorem vh(F:gY K "set_blocked" "Board.set_blocked" kF f fd)(T:Txt K mg c):cZ P w K mg base gZ 1 f fd ["self","cells","blocked"] (sF c):=by
 refine F.ok nV (fun vs H Q E h=>?_) (fun fR A outer s H vs Q E hr h=>?_);·obtain⟨B,s,l,cells,bs,b,rfl,_⟩:=h;rfl
 ·obtain⟨B,s,l,cells,bs,b,rfl,hB,hl,Se,jQ,good,hbs,k⟩:=h;obtain⟨zz,ws,r0,wk,hz,h0⟩:=hB.raw;refine⟨_,(ay (gN bJ rfl (dP (pv 1)) (cQ (i:=3) nV.nd rfl (bj rfl)) (ay (pI (pv 2) (pJ (aZ (pv 0) rfl) (pv 3) set_list))))),?_⟩;let adj:Nat->L2.St->Hp->Prop:=fun i σ H'=>∃x3 bv,σ=[some (.ref B.ob),some (.ref l),some (.bl b),x3]/\Raw c H' B (bW B s) s.g s.dirs bv zz ws (lR s) (je s bc) (je s (aM s.g))/\(∀v,bv v=if v∈cells.take i then .bl b else CP s v)/\Mv B.M H B.M H';refine⟨_,rfl,l,rfl,⟨_,cN.of hl⟩,e_ (K:=K) (a:=l) (xs:=d8 cells) adj
   ⟨none,_,rfl,r0,fun v=>by simp,Mv.refl⟩ (fun i σ H' _⟨_,_,_,_,_,m⟩=>cN.of (m.kp _ _ hl Se)) ?_ ?_⟩
  ·rintro i y σ H1 hi ⟨x3,bv,rfl,r1,hbv,m1⟩;obtain⟨v,hv,rfl⟩:=ji hi;have yM:=jQ v (aH hv);refine⟨_,rfl,_,rfl,_,_,_,_,_,rfl,r1.at_,T.bC,T.wz,yx,_,rfl,B.bl,_,_,v,rfl,rfl,r1.bl,(by rw[jY];exact pO yM),?_⟩;rw[xZ];refine⟨_,_,rfl,r1.Zu _,fun u=>?_,m1.trans (Mv.put (by simp))⟩;rw[hbv u];by_cases q:u=v;·rw[aw q,aw ((fP hv).mpr (.inr q))]
   ·rw[ao q];by_cases z:u∈cells.take i;·rw[aw z,aw ((fP hv).mpr (.inl z))]
    ·rw[ao z,ao fun y=>((fP hv).mp y).elim z q]
  ·rintro σ H1 ⟨x3,bv,rfl,r1,hbv,m1⟩;have e:(d8 cells).length=cells.length:=ae _;rw[e,bG]at hbv;refine k H1 (Raw.bO (s:={s with blocked:=bs}) r1 good hB.len (fun v hv=>?_) (fun _ _=>rfl) (fun _ _=>rfl) (fun _ _=>rfl) (wk.same m1.ib) hz h0) m1;rw[hbv v];unfold CP;have:=hbs v hv;by_cases z:v∈cells
   ·rw[aw z]at this⊢;cases b with
    |true=>rw[gD (this.mpr rfl)]
    |false=>rw[dH fun y=>by have:=this.mp y;cases this]
   ·rw[ao z]at this⊢;congr 1;rw[dh,au,au];exact this.symm
abbrev qi(s:Bd)(n:Nat)(cells:ab Nat):Bd:=s.setNet n {s.net n with pins:=(s.net n).pins++[cells]}
inductive QU(c:Cs)(vs:ab V)(H:Hp)(Q:VK):Prop
 |mk (B:BA) (s:Bd) (l:Addr) (n:Nat) (cells:ab Nat) (q0:vs=[.ref B.ob,vi n,.ref l]) (q1:bh c H B s) (q2:H l=some (.lst (d8 cells))) (q3:l∉B.N) (q4:(∀v∈cells,v<s.g.size)) (q5:1<=n) (q6:n<=32) (q7:Good (qi s n cells)) (q8:∀H',bh c H' B (qi s n cells)->Mv B.M H B.M H'->Q .iG H')
def Kk(c:Cs):Sp:=fun vs H Q _=>QU c vs H Q
abbrev oA:Stmt:=inClass (top 15) 14
theorem rH:bx ["self","net","cells","cell"] ["self","net","cells"] (aU oA):={}
theorem Be(F:gY K "add_pin" "Board.add_pin" oA f fd)(T:Txt K mg c):cZ P w K mg base gZ 1 f fd ["self","net","cells"] (Kk c):=by
 refine F.ok rH (fun vs H Q E h=>?_) (fun fR A outer s H vs Q E hr h=>?_);·obtain⟨B,s,l,n,cells,rfl,_⟩:=h;rfl
 ·obtain⟨B,s,l,nt,cells,rfl,hB,hl,Se,jQ,h1,h2,good,k⟩:=h;obtain⟨zz,ws,r0,wk,hz,h0⟩:=hB.raw;have net:∀m,1<=m->(qi s nt cells).net m=if m=nt then{s.net nt with pins:=(s.net nt).pins++[cells]}else s.net m:=fun m hm=>jP hB.good.nets ⟨h1,h2⟩ hm;obtain⟨pl,pP⟩:∃pl,B.lX[nt]? =some pl:=⟨_,aO (by rw[r0.pl];omega)⟩;have adI:(zz nt).length<=16:=by have:=hB.good.nz nt h1 h2;rw[<-hz nt h1 h2,ae]at this;exact this
  refine⟨_,(ah (da (pK (cD bA (aZ (pv 0) rfl) (pv 1) (fun _ _=>rfl)) (aa (pv 2) ak))) (ay (gN bJ rfl (dP (pv 2)) (cQ (i:=3) rH.nd rfl (bj rfl)) (ay (pI (pv 1) (pJ (aZ (pv 0) rfl) (pv 3) set_list)))))),?_⟩;refine QW ?_;intro lG;refine⟨_,rfl,_,_,_,_,_,rfl,r0.at_,T.bC,T.nH,kW,_,rfl,_,_,_,_,rfl,rfl,cN.of r0.pi,cA (j:=nt) (v:=.ref pl) (by rw[bp,pP];rfl),?_⟩;refine⟨.inl ⟨rfl,_,cN.of (r0.pc nt pl pP)⟩,_,rfl,pl,_,_,rfl,rfl,r0.pc nt pl pP,(by unfold eI;rw[ae,bS];omega),?_⟩;rw[show eI (zz nt)++[V.ref l]=eI (zz nt++[(cells,l)]) by unfold eI;rw[cz];rfl];have r1:=r0.Yf pP (z:=(cells,l)) (eZ hl Se);have m1:Mv B.M H B.M (upd H pl (.lst (eI (zz nt++[(cells,l)])))):=Mv.put (aH (jZ pP));generalize upd H pl (.lst (eI (zz nt++[(cells,l)])))=H1 at r1 m1⊢;let adi:Nat->L2.St->Hp->Prop:=fun i σ H'=>∃x3 pv,σ=[some (.ref B.ob),some (vi nt),some (.ref l),x3]/\Raw c H' B (bW B s) s.g s.dirs (CP s) (fun j=>if j=nt then zz nt++[(cells,l)]else zz j) ws (lR s) pv (je s (aM s.g))/\(∀v,pv v=if v∈cells.take i then vi nt else je s bc v)/\Mv B.M H B.M H';refine⟨_,rfl,l,rfl,⟨_,cN.of (m1.kp _ _ hl (IY Se))⟩,e_ (K:=K) (a:=l) (xs:=d8 cells) adi
   ⟨none,_,rfl,r1,fun v=>by simp,m1⟩ (fun i σ H' _⟨_,_,_,_,_,m⟩=>cN.of (m.kp _ _ hl (IY Se))) ?_ ?_⟩
  ·rintro i y σ H2 hi ⟨x3,pv,rfl,r2,UI,m2⟩;obtain⟨v,hv,rfl⟩:=ji hi;have yM:=jQ v (aH hv);refine⟨_,rfl,_,rfl,_,_,_,_,_,rfl,r2.at_,T.bC,T.j7,j5,_,rfl,B.pn,_,_,v,rfl,rfl,r2.pn,(by rw[jY];exact pO yM),?_⟩;rw[xZ];refine⟨_,_,rfl,r2.VC _,fun u=>?_,m2.trans (Mv.put (by simp))⟩;rw[UI u];by_cases q:u=v;·rw[aw q,aw ((fP hv).mpr (.inr q))]
   ·rw[ao q];by_cases z:u∈cells.take i;·rw[aw z,aw ((fP hv).mpr (.inl z))]
    ·rw[ao z,ao fun y=>((fP hv).mp y).elim z q]
  ·rintro σ H2 ⟨x3,pv,rfl,r2,UI,m2⟩;have e:(d8 cells).length=cells.length:=ae _;rw[e,bG]at UI;have ways:∀m,1<=m->((qi s nt cells).net m).ways=(s.net m).ways:=fun m hm=>by
    rw[net m hm];split;·rename_i q;rw[q]
    ·rfl
   refine k H2 (Raw.bO (s:=qi s nt cells) r2 good (fun m a b V3 e'=>hB.len m a b V3 (by rw[<-ways m a];exact e')) (fun _ _=>rfl) (fun m hm=>?_) (fun v hv=>?_) (fun v hv=>?_) ⟨wk.1,fun m a b=>?_⟩ (fun m a b=>?_) ?_) m2
   ·unfold lR;by_cases q:m=0;·rw[aw q,aw q]
    ·rw[ao q,ao q,net m (by omega)];split;·rename_i z;rw[z]
     ·rfl
   ·rw[UI v];by_cases z:v∈cells;·rw[aw z];unfold je;rw[o6 good.pins hv h1 h2 (by rw[net nt h1,aw rfl];unfold bc;simp[z])]
    ·rw[ao z];refine(l0 (s:=s) (s':=qi s nt cells) (f:=bc) (f':=bc) rfl hv fun m a b=>?_).symm;rw[net m a];split;·rename_i q;subst q;unfold bc;simp[z]
     ·rfl
   ·refine(l0 (s:=s) (s':=qi s nt cells) (f:=aM s.g) (f':=aM s.g) rfl hv fun m a b=>?_).symm;unfold aM;rw[ways m a]
   ·obtain⟨x,e1,e2⟩:=wk.2 m a b;exact⟨x,e1,by rw[ways m a];exact e2.same m2.ib⟩
   ·rw[net m a];by_cases q:m=nt;·simp only[aw q,cz,hz nt h1 h2];rfl
    ·simp only[ao q];exact hz m a b
   ·simp only[ao (show¬0=nt by omega)];exact h0
inductive L3(c:Cs)(vs:ab V)(H:Hp)(Q:VK):Prop
 |mk (B:BA) (s:Bd) (n:Nat) (q0:vs=[.ref B.ob,vi n]) (q1:bh c H B s) (q2:1<=n) (q3:n<=32) (q4:(s.net n).ways=none) (q5:∀H' B',bh c H' B' (s.setNet n eR)->(B'.ob=B.ob/\B'.xs=B.xs)->Mv B.M H B'.M H'->Q .iG H')
def DY(c:Cs):Sp:=fun vs H Q _=>L3 c vs H Q
abbrev mj:Stmt:=inClass (top 15) 15
theorem k4:bx ["self","net","cells","cell"] ["self","net"] (aU mj):={}
theorem yj(F:gY K "drop_pins" "Board.drop_pins" mj f fd)(T:Txt K mg c):cZ P w K mg base gZ 1 f fd ["self","net"] (DY c):=by
 refine F.ok k4 (fun vs H Q E h=>?_) (fun fR A outer s H vs Q E hr h=>?_);·obtain⟨B,s,n,rfl,_⟩:=h;rfl
 ·obtain⟨B,s,nt,rfl,hB,h1,h2,hw,k⟩:=h;obtain⟨zz,ws,r0,wk,hz,h0⟩:=hB.raw;have net:∀m,1<=m->(s.setNet nt eR).net m=if m=nt then eR else s.net m:=fun m hm=>jP hB.good.nets ⟨h1,h2⟩ hm;obtain⟨pl,pP⟩:∃pl,B.lX[nt]? =some pl:=⟨_,aO (by rw[r0.pl];omega)⟩;have hzo:=r0.zo nt (by omega);have EO:∀z∈zz nt,∀v∈z.1,v<s.g.size/\v∈bc (s.net nt):=fun z YA v hv=>by have:v∈bc (s.net nt):=dN.mpr ⟨z.1,by rw[<-hz nt h1 h2];exact bB.mpr ⟨z,YA,rfl⟩,hv⟩;exact⟨(hB.good.xk nt h1 h2 v this).1,this⟩
  have aaj:∀{H':Hp}{pv:Nat->V},Raw c H' B (bW B s) s.g s.dirs (CP s) zz ws (lR s) pv (je s (aM s.g))->H' pl=some (.lst (eI (zz nt))):=fun r=>r.pc nt pl pP;refine⟨_,(ah (gN bJ rfl (dP (cD bA (aZ (pv 0) rfl) (pv 1) (fun _ _=>rfl))) (cQ (i:=2) k4.nd rfl (bj rfl)) (ay (gN bJ rfl (dP (pv 2)) (cQ (i:=3) k4.nd rfl (bj rfl)) (ay (pI aN (pJ (aZ (pv 0) rfl) (pv 3) set_list)))))) (ah (pI (cI ak) (pJ (aZ (pv 0) rfl) (pv 1) set_list)) (ay (pI aN (pJ (aZ (pv 0) rfl) (pv 1) set_list))))),?_⟩;refine MD ?_;intro oO lG;refine⟨_,rfl,_,_,_,_,_,rfl,r0.at_,T.bC,T.nH,kW,_,rfl,_,_,_,_,rfl,rfl,cN.of r0.pi,cA (j:=nt) (v:=.ref pl) (by rw[bp,pP];rfl),pl,rfl,⟨_,cN.of (aaj r0)⟩,?_⟩;let adh:Nat->L2.St->Hp->Prop:=fun i σ H'=>∃x2 x3 pv,σ=[some (.ref B.ob),some (vi nt),x2,x3]/\Raw c H' B (bW B s) s.g s.dirs (CP s) zz ws (lR s) pv (je s (aM s.g))/\(∀v,pv v=if v∈((zz nt).take i).flatMap (·.1)then .int 0 else je s bc v)/\Mv B.M H B.M H';refine e_ (K:=K) (a:=pl) (xs:=eI (zz nt)) adh
   ⟨none,none,_,rfl,r0,fun v=>by simp,Mv.refl⟩ (fun i σ H' _⟨_,_,_,_,r,_⟩=>cN.of (aaj r)) ?_ ?_
  ·rintro i y σ H1 hi ⟨x2,x3,pv,rfl,r1,UI,m1⟩;obtain⟨z,Z_,rfl⟩:=C7 hi;have hzm:=aH Z_;have YD:∀{H':Hp},Mv B.M H B.M H'->H' z.2=some (.lst (d8 z.1)):=fun m=>dS _ _ (m.ib _ _ (hzo z hzm));let adg:Nat->L2.St->Hp->Prop:=fun j σ H'=>∃x3 pv,σ=[some (.ref B.ob),some (vi nt),some (.ref z.2),x3]/\Raw c H' B (bW B s) s.g s.dirs (CP s) zz ws (lR s) pv (je s (aM s.g))/\(∀v,pv v=if v∈((zz nt).take i).flatMap (·.1)\/v∈z.1.take j then .int 0 else je s bc v)/\Mv B.M H B.M H';refine⟨_,rfl,z.2,rfl,⟨_,cN.of (YD m1)⟩,e_ (K:=K) (a:=z.2) (xs:=d8 z.1) adg
    ⟨x3,pv,rfl,r1,fun v=>by rw[UI v];simp only[List.take_zero,List.not_mem_nil,or_false],m1⟩ (fun j σ H' _⟨_,_,_,_,_,m⟩=>cN.of (YD m)) ?_ ?_⟩
   ·rintro j y σ H2 hj ⟨x3,pv,rfl,r2,Xj,m2⟩;obtain⟨v,hv,rfl⟩:=ji hj;have yM:=(EO z hzm v (aH hv)).1;refine⟨_,rfl,_,_,_,_,_,rfl,r2.at_,T.bC,T.j7,j5,_,rfl,B.pn,_,_,v,rfl,rfl,r2.pn,(by rw[jY];exact pO yM),?_⟩;rw[xZ];refine⟨_,_,rfl,r2.VC _,fun u=>?_,m2.trans (Mv.put (by simp))⟩;rw[Xj u];by_cases q:u=v;·rw[aw q,aw (.inr ((fP hv).mpr (.inr q)))]
    ·rw[ao q];by_cases w:u∈((zz nt).take i).flatMap (·.1)\/u∈z.1.take j;·rw[aw w,aw (w.imp id fun y=>(fP hv).mpr (.inl y))]
     ·rw[ao w,ao fun y=>w (y.imp id fun t=>((fP hv).mp t).resolve_right q)]
   ·rintro σ H2 ⟨x3,pv,rfl,r2,Xj,m2⟩;refine⟨_,x3,pv,rfl,r2,fun v=>?_,m2⟩;have e:(d8 z.1).length=z.1.length:=ae _;rw[Xj v,e,bG,take_snoc Z_,kY];simp only[kf,Ds,dO,a_]
  ·rintro σ H1 ⟨x2,x3,pv,rfl,r1,UI,m1⟩;have e:(eI (zz nt)).length=(zz nt).length:=ae _;rw[e,bG]at UI;refine⟨cH _,fun q hq=>?_⟩;have r1':=r1.same (aQ.new (o:=.lst []) hq);have Qi:q∉B.M:=fun z=>by
    obtain⟨o,ho⟩:=(show∃o,H1 q=some o from by
     have:bh c H B s:=hB;obtain⟨i,hi⟩:=wD.mp z;obtain⟨o,ho⟩:=hB.dom z;cases e1:H1 q with
     |some o=>exact⟨o,rfl⟩
     |none=>
      exfalso;match i,hi with
      |0,hi=>cases hi;rw[r1.at_]at e1;cases e1
      |1,hi=>cases hi;rw[r1.di]at e1;cases e1
      |2,hi=>cases hi;rw[r1.bl]at e1;cases e1
      |3,hi=>cases hi;rw[r1.pi]at e1;cases e1
      |4,hi=>cases hi;rw[r1.wa]at e1;cases e1
      |5,hi=>cases hi;rw[r1.ri]at e1;cases e1
      |6,hi=>cases hi;rw[r1.pn]at e1;cases e1
      |7,hi=>cases hi;rw[r1.tk]at e1;cases e1
      |i+8,hi=>rw[r1.pc i q hi]at e1;cases e1)
    rw[hq]at ho;cases ho
   obtain⟨r2,m2⟩:=r1.WJ (k:=nt) (by omega) hq Qi;refine⟨_,rfl,_,_,_,_,_,rfl,r1'.at_,T.bC,T.nH,kW,_,rfl,B.pi,_,_,nt,rfl,rfl,r1'.pi,(by rw[ae,r1.pl];exact pO (by omega)),?_⟩;have m2':=m1.trans m2;generalize upd (upd H1 q (.lst [])) B.pi (.lst ((B.lX.map V.ref).set nt (.ref q)))=H2 at r2 m2 m2'⊢;refine⟨_,rfl,_,_,_,_,_,rfl,r2.at_,T.bC,T.yy,Ac,_,rfl,B.ri,_,_,nt,rfl,rfl,r2.ri,(by rw[jY];exact pO (by omega)),?_⟩;rw[xZ];have r3:=r2.VB (fun v=>if v=nt then .int 0 else lR s v);have m3:Mv B.M H (BA.M {B with lX:=B.lX.set nt q}) (upd H2 B.ri (.lst (rm 33 fun v=>if v=nt then .int 0 else lR s v))):=m2'.trans (Mv.put (by simp));have ways:∀m,1<=m->((s.setNet nt eR).net m).ways=(s.net m).ways:=fun m hm=>by
    rw[net m hm];split;·rename_i q;rw[q,hw];rfl
    ·rfl
   have good:=hB.good.drop h1 h2;refine k _ {B with lX:=B.lX.set nt q} (Raw.bO (s:=s.setNet nt eR) r3 good (fun m a b V3 e'=>hB.len m a b V3 (by rw[<-ways m a];exact e')) (fun _ _=>rfl) (fun m hm=>?_) (fun v hv=>?_) (fun v hv=>?_) ⟨wk.1,fun m a b=>?_⟩ (fun m a b=>?_) ?_) ⟨rfl,rfl⟩ m3
   ·unfold lR;by_cases z:m=0;·rw[ao (show¬m=nt by omega),aw z,aw z]
    ·rw[ao z,ao z,net m (by omega)];by_cases y:m=nt;·rw[aw y,aw y];rfl
     ·rw[ao y,ao y]
   ·rw[UI v];have Hm:v∈(zz nt).flatMap (·.1)↔v∈bc (s.net nt):=by
     unfold bc;rw[<-hz nt h1 h2,gM,dN];constructor;·rintro⟨z,a,b⟩;exact⟨z.1,bB.mpr ⟨z,a,rfl⟩,b⟩
     ·rintro⟨p,a,b⟩;obtain⟨z,y,rfl⟩:=bB.mp a;exact⟨z,y,b⟩
    by_cases z:v∈(zz nt).flatMap (·.1)
    ·rw[aw z];unfold je;have:=xr (s:=s.setNet nt eR) (f:=bc) (x:=v) fun m a b=>?_;·rw[this];rfl
     ·rw[net m a];split;·simp[eR,bc]
      ·rename_i y;exact fun t=>y (hB.good.pins m nt v a b h1 h2 t (Hm.mp z))
    ·rw[ao z];refine(l0 (s:=s) (s':=s.setNet nt eR) (f:=bc) (f':=bc) rfl hv fun m a b=>?_).symm;rw[net m a];split
     ·rename_i y;subst y;constructor;·intro t;simp[eR,bc]at t
      ·intro t;exact bF (Hm.mpr t) z
     ·rfl
   ·refine(l0 (s:=s) (s':=s.setNet nt eR) (f:=aM s.g) (f':=aM s.g) rfl hv fun m a b=>?_).symm;unfold aM;rw[ways m a]
   ·obtain⟨x,e1,e2⟩:=wk.2 m a b;exact⟨x,e1,by rw[ways m a];exact e2.same m3.ib⟩
   ·rw[net m a];by_cases y:m=nt;·simp only[aw y];rfl
    ·simp only[ao y];exact hz m a b
   ·simp only[ao (show¬0=nt by omega)];exact h0
end
end Nw
namespace Nw
open PySem PySem.Spec PyProof.Rows L2
section
variable{c:Cs}{H:Hp}{B:BA}{fs yO:ab (Str×V)}{g:Gd}{dirs:ab Nat}{bl:Nat->V}{zz:Nat->Zs}{ws:ab V}{ri pn tk:Nat->V}
theorem Raw.WK(h:Raw c H B fs g dirs bl zz ws ri pn tk)(hq:H q=none)(Qi:q∉B.M)(x:ab V)(yO:ab (Str×V)):
  Raw c (upd (upd H q (.lst x)) B.ob (.ins c.bO B.dx yO)) {B with wa:=q} yO g dirs bl zz x ri pn tk/\Mv B.M H (BA.M {B with wa:=q}) (upd (upd H q (.lst x)) B.ob (.ins c.bO B.dx yO)):=by
 have m:Mv B.M H (BA.M {B with wa:=q}) (upd (upd H q (.lst x)) B.ob (.ins c.bO B.dx yO)):=by
  refine⟨fun b o e hb=>?_,fun b hb=>?_⟩
  ·rw[aj (fun z:b=B.ob=>hb (by simp[z])),aj (aE e hq)]
   exact e
  ·have Lg:b∈B.M.set 4 q:=hb
   rcases cY Lg with e|e
   ·exact .inl e
   ·rw[e];exact .inr hq
 refine⟨?_,m⟩
 exact{
  at_:=aq
  di:=by
   show upd (upd H q _) B.ob _ B.di=_
   rw[aj (dD h.nd (i:=1) (j:=0) rfl rfl (by decide)),aj (aE h.di hq)];exact h.di
  bl:=by
   show upd (upd H q _) B.ob _ B.bl=_
   rw[aj (dD h.nd (i:=2) (j:=0) rfl rfl (by decide)),aj (aE h.bl hq)];exact h.bl
  pi:=by
   show upd (upd H q _) B.ob _ B.pi=_
   rw[aj (dD h.nd (i:=3) (j:=0) rfl rfl (by decide)),aj (aE h.pi hq)];exact h.pi
  wa:=by
   show upd (upd H q _) B.ob _ q=_
   rw[aj (fun z:q=B.ob=>Qi (by simp[z])),aq]
  ri:=by
   show upd (upd H q _) B.ob _ B.ri=_
   rw[aj (dD h.nd (i:=5) (j:=0) rfl rfl (by decide)),aj (aE h.ri hq)];exact h.ri
  pn:=by
   show upd (upd H q _) B.ob _ B.pn=_
   rw[aj (dD h.nd (i:=6) (j:=0) rfl rfl (by decide)),aj (aE h.pn hq)];exact h.pn
  tk:=by
   show upd (upd H q _) B.ob _ B.tk=_
   rw[aj (dD h.nd (i:=7) (j:=0) rfl rfl (by decide)),aj (aE h.tk hq)];exact h.tk
  gr:=h.gr.same m.ib
  pl:=h.pl
  pc:=fun k l e=>by
   show upd (upd H q _) B.ob _ l=_
   rw[aj (dD h.nd (jZ e) (j:=0) rfl (by omega)),aj (aE (h.pc k l e) hq)]
   exact h.pc k l e
  zo:=fun k hk z hz=>m.ib _ _ (h.zo k hk z hz)
  nd:=rO (k:=4) h.nd Qi
  xd:=fun b hb=>⟨jd (jd (h.xd b hb).1),fun z=>by
   have Lg:b∈B.M.set 4 q:=z
   rcases cY Lg with e|e
   ·exact(h.xd b hb).2 e
   ·obtain⟨o,ho⟩:=(h.xd b hb).1
    rw[e,hq]at ho;cases ho⟩}
theorem Raw.WM(h:Raw c H B fs g dirs bl zz ws ri pn tk)(hq:H q=none)(Qi:q∉B.M)(x:Nat->V)(yO:ab (Str×V)):
  Raw c (upd (upd H q (.lst (rm 33 x))) B.ob (.ins c.bO B.dx yO)) {B with ri:=q} yO g dirs bl zz ws x pn tk/\Mv B.M H (BA.M {B with ri:=q}) (upd (upd H q (.lst (rm 33 x))) B.ob (.ins c.bO B.dx yO)):=by
 have m:Mv B.M H (BA.M {B with ri:=q}) (upd (upd H q (.lst (rm 33 x))) B.ob (.ins c.bO B.dx yO)):=by
  refine⟨fun b o e hb=>?_,fun b hb=>?_⟩
  ·rw[aj (fun z:b=B.ob=>hb (by simp[z])),aj (aE e hq)]
   exact e
  ·have Lg:b∈B.M.set 5 q:=hb
   rcases cY Lg with e|e
   ·exact .inl e
   ·rw[e];exact .inr hq
 refine⟨?_,m⟩
 exact{
  at_:=aq
  di:=by
   show upd (upd H q _) B.ob _ B.di=_
   rw[aj (dD h.nd (i:=1) (j:=0) rfl rfl (by decide)),aj (aE h.di hq)];exact h.di
  bl:=by
   show upd (upd H q _) B.ob _ B.bl=_
   rw[aj (dD h.nd (i:=2) (j:=0) rfl rfl (by decide)),aj (aE h.bl hq)];exact h.bl
  pi:=by
   show upd (upd H q _) B.ob _ B.pi=_
   rw[aj (dD h.nd (i:=3) (j:=0) rfl rfl (by decide)),aj (aE h.pi hq)];exact h.pi
  wa:=by
   show upd (upd H q _) B.ob _ B.wa=_
   rw[aj (dD h.nd (i:=4) (j:=0) rfl rfl (by decide)),aj (aE h.wa hq)];exact h.wa
  ri:=by
   show upd (upd H q _) B.ob _ q=_
   rw[aj (fun z:q=B.ob=>Qi (by simp[z])),aq]
  pn:=by
   show upd (upd H q _) B.ob _ B.pn=_
   rw[aj (dD h.nd (i:=6) (j:=0) rfl rfl (by decide)),aj (aE h.pn hq)];exact h.pn
  tk:=by
   show upd (upd H q _) B.ob _ B.tk=_
   rw[aj (dD h.nd (i:=7) (j:=0) rfl rfl (by decide)),aj (aE h.tk hq)];exact h.tk
  gr:=h.gr.same m.ib
  pl:=h.pl
  pc:=fun k l e=>by
   show upd (upd H q _) B.ob _ l=_
   rw[aj (dD h.nd (jZ e) (j:=0) rfl (by omega)),aj (aE (h.pc k l e) hq)]
   exact h.pc k l e
  zo:=fun k hk z hz=>m.ib _ _ (h.zo k hk z hz)
  nd:=rO (k:=5) h.nd Qi
  xd:=fun b hb=>⟨jd (jd (h.xd b hb).1),fun z=>by
   have Lg:b∈B.M.set 5 q:=z
   rcases cY Lg with e|e
   ·exact(h.xd b hb).2 e
   ·obtain⟨o,ho⟩:=(h.xd b hb).1
    rw[e,hq]at ho;cases ho⟩}
theorem Raw.WL(h:Raw c H B fs g dirs bl zz ws ri pn tk)(hq:H q=none)(Qi:q∉B.M)(x:Nat->V)(yO:ab (Str×V)):
  Raw c (upd (upd H q (.lst (rm g.size x))) B.ob (.ins c.bO B.dx yO)) {B with tk:=q} yO g dirs bl zz ws ri pn x/\Mv B.M H (BA.M {B with tk:=q}) (upd (upd H q (.lst (rm g.size x))) B.ob (.ins c.bO B.dx yO)):=by
 have m:Mv B.M H (BA.M {B with tk:=q}) (upd (upd H q (.lst (rm g.size x))) B.ob (.ins c.bO B.dx yO)):=by
  refine⟨fun b o e hb=>?_,fun b hb=>?_⟩
  ·rw[aj (fun z:b=B.ob=>hb (by simp[z])),aj (aE e hq)]
   exact e
  ·have Lg:b∈B.M.set 7 q:=hb
   rcases cY Lg with e|e
   ·exact .inl e
   ·rw[e];exact .inr hq
 refine⟨?_,m⟩
 exact{
  at_:=aq
  di:=by
   show upd (upd H q _) B.ob _ B.di=_
   rw[aj (dD h.nd (i:=1) (j:=0) rfl rfl (by decide)),aj (aE h.di hq)];exact h.di
  bl:=by
   show upd (upd H q _) B.ob _ B.bl=_
   rw[aj (dD h.nd (i:=2) (j:=0) rfl rfl (by decide)),aj (aE h.bl hq)];exact h.bl
  pi:=by
   show upd (upd H q _) B.ob _ B.pi=_
   rw[aj (dD h.nd (i:=3) (j:=0) rfl rfl (by decide)),aj (aE h.pi hq)];exact h.pi
  wa:=by
   show upd (upd H q _) B.ob _ B.wa=_
   rw[aj (dD h.nd (i:=4) (j:=0) rfl rfl (by decide)),aj (aE h.wa hq)];exact h.wa
  ri:=by
   show upd (upd H q _) B.ob _ B.ri=_
   rw[aj (dD h.nd (i:=5) (j:=0) rfl rfl (by decide)),aj (aE h.ri hq)];exact h.ri
  pn:=by
   show upd (upd H q _) B.ob _ B.pn=_
   rw[aj (dD h.nd (i:=6) (j:=0) rfl rfl (by decide)),aj (aE h.pn hq)];exact h.pn
  tk:=by
   show upd (upd H q _) B.ob _ q=_
   rw[aj (fun z:q=B.ob=>Qi (by simp[z])),aq]
  gr:=h.gr.same m.ib
  pl:=h.pl
  pc:=fun k l e=>by
   show upd (upd H q _) B.ob _ l=_
   rw[aj (dD h.nd (jZ e) (j:=0) rfl (by omega)),aj (aE (h.pc k l e) hq)]
   exact h.pc k l e
  zo:=fun k hk z hz=>m.ib _ _ (h.zo k hk z hz)
  nd:=rO (k:=7) h.nd Qi
  xd:=fun b hb=>⟨jd (jd (h.xd b hb).1),fun z=>by
   have Lg:b∈B.M.set 7 q:=z
   rcases cY Lg with e|e
   ·exact(h.xd b hb).2 e
   ·obtain⟨o,ho⟩:=(h.xd b hb).1
    rw[e,hq]at ho;cases ho⟩}
theorem Raw.fresh(r:Raw c H B fs g dirs bl zz ws ri pn tk)(hq:H q=none):q∉B.M:=fun z=>by
 obtain⟨i,hi⟩:=wD.mp z;match i,hi with
 |0,hi=>cases hi;rw[r.at_]at hq;cases hq
 |1,hi=>cases hi;rw[r.di]at hq;cases hq
 |2,hi=>cases hi;rw[r.bl]at hq;cases hq
 |3,hi=>cases hi;rw[r.pi]at hq;cases hq
 |4,hi=>cases hi;rw[r.wa]at hq;cases hq
 |5,hi=>cases hi;rw[r.ri]at hq;cases hq
 |6,hi=>cases hi;rw[r.pn]at hq;cases hq
 |7,hi=>cases hi;rw[r.tk]at hq;cases hq
 |i+8,hi=>rw[r.pc i q hi]at hq;cases hq
end
theorem zU{g:Gd}(h:a.ways=some ws)(x:Nat):x∈aM g a↔∃w∈ws,x∈dJ g w:=by unfold aM;rw[h];exact gM
theorem IZ{g:Gd}(h:a.ways=none):aM g a=[]:=by unfold aM;rw[h]
section
variable{P:bT}{w:cU}{K:ag}{mg:Str->aY aA}{base:Heap}{c:Cs}{n:Nat}
inductive Yo(c:Cs)(vs:ab V)(H:Hp)(Q:VK):Prop
 |mk (B:BA) (s:Bd) (wl:Addr) (n:Nat) (ws:ab (ab Nat)) (q0:vs=[.ref B.ob,vi n,.ref wl]) (q1:bh c H B s) (q2:1<=n) (q3:n<=32) (q4:(s.net n).ways=none) (q5:gq (off B.N H) wl ws) (q6:(∀l∈ws,Chain s.g l)) (q7:Good (eX s n ws)) (q8:E_ (eX s n ws)) (q9:∀H',bh c H' B (eX s n ws)->Mv B.M H B.M H'->Q .iG H')
def Ou(c:Cs):Sp:=fun vs H Q _=>Yo c vs H Q
abbrev u0:Stmt:=inClass (top 15) 16
theorem zE:bx ["self","net","ways","cell"] ["self","net","ways"] (aU u0):={}
theorem IX(F:gY K "lay" "Board.lay" u0 f fd)(T:Txt K mg c)(cR:bq P w K mg base c.d5 "taken_cells" n ["self","ways"] (kh c)):cZ P w K mg base gZ (n+1) f fd ["self","net","ways"] (Ou c):=by
 refine F.ok zE (fun vs H Q E h=>?_) (fun fR A outer s H vs Q E hr h=>?_);·obtain⟨B,s,wl,n,ws,rfl,_⟩:=h;rfl
 ·obtain⟨B,s,wl,nt,wn,rfl,hB,h1,h2,JX,hL,yN,good,abd,k⟩:=h;obtain⟨zz,ws,r0,wk,hz,h0⟩:=hB.raw;have net:∀m,1<=m->(eX s nt wn).net m=if m=nt then{s.net nt with ways:=some wn}else s.net m:=fun m hm=>jP hB.good.nets ⟨h1,h2⟩ hm;refine⟨_,(ah (pI (pv 2) (pJ (aZ (pv 0) rfl) (pv 1) set_list)) (ay (gN bJ rfl (dP (bR (aZ (pv 0) rfl) cR hr (aa (pv 2) ak))) (cQ (i:=3) zE.nd rfl (bj rfl)) (ay (pI (pv 1) (pJ (aZ (pv 0) rfl) (pv 3) set_list)))))),?_⟩;refine QW ?_;intro lG;refine⟨_,rfl,_,rfl,_,_,_,_,_,rfl,r0.at_,T.bC,T.pU,o5,_,rfl,B.wa,_,_,nt,rfl,rfl,r0.wa,(by rw[wk.1];exact pO (by omega)),?_⟩;have r1:=r0.Vz (ws.set nt (.ref wl));have m1:Mv B.M H B.M (upd H B.wa (.lst (ws.set nt (.ref wl)))):=Mv.put (by simp);generalize upd H B.wa (.lst (ws.set nt (.ref wl)))=H1 at r1 m1⊢;have hg1:gW c H1 B.gr s.g:=r1.gr.same dS;obtain⟨gx,nr,si,_⟩:=hg1.ex;refine⟨_,rfl,_,_,_,_,_,rfl,r1.at_,T.bC,T.fS,fw,_,_,_,rfl,si,j1,_,rfl,B.gr,wl,s.g,wn,rfl,hg1,(hL.same m1.ib).same dS,yN,fun H2 tl ks s2 VM Nr Al o4=>?_⟩;have r2:=r1.same s2;have m2:Mv B.M H B.M H2:=m1.trans (Mv.same s2);have htM:tl∉B.M:=r1.fresh VM;have Ql:∀v∈ks,v<s.g.size:=fun v hv=>by obtain⟨w',L_,hc⟩:=(o4 v).mp hv;exact tq hB.good.UU (yN w' L_) v hc
  let adf:Nat->L2.St->Hp->Prop:=fun i σ H'=>∃x3 tv,σ=[some (.ref B.ob),some (vi nt),some (.ref wl),x3]/\Raw c H' B (bW B s) s.g s.dirs (CP s) zz (ws.set nt (.ref wl)) (lR s) (je s bc) tv/\(∀v,tv v=if v∈ks.take i then vi nt else je s (aM s.g) v)/\Mv B.M H2 B.M H';refine⟨tl,rfl,⟨_,cN.of Nr⟩,e_ (K:=K) (a:=tl) (xs:=d8 ks) adf
   ⟨none,_,rfl,r2,fun v=>by simp,Mv.refl⟩ (fun i σ H' _⟨_,_,_,_,_,m⟩=>cN.of (m.kp _ _ Nr htM)) ?_ ?_⟩
  ·rintro i y σ H3 hi ⟨x3,tv,rfl,r3,R8,m3⟩;obtain⟨v,hv,rfl⟩:=ji hi;have yM:=Ql v (aH hv);refine⟨_,rfl,_,rfl,_,_,_,_,_,rfl,r3.at_,T.bC,T.j6,kl,_,rfl,B.tk,_,_,v,rfl,rfl,r3.tk,(by rw[jY];exact pO yM),?_⟩;rw[xZ];refine⟨_,_,rfl,r3.VA _,fun u=>?_,m3.trans (Mv.put (by simp))⟩;rw[R8 u];by_cases q:u=v;·rw[aw q,aw ((fP hv).mpr (.inr q))]
   ·rw[ao q];by_cases z:u∈ks.take i;·rw[aw z,aw ((fP hv).mpr (.inl z))]
    ·rw[ao z,ao fun y=>((fP hv).mp y).elim z q]
  ·rintro σ H3 ⟨x3,tv,rfl,r3,R8,m3⟩;have e:(d8 ks).length=ks.length:=ae _;rw[e,bG]at R8;have m4:=m2.trans m3;have pins:∀m,1<=m->((eX s nt wn).net m).pins=(s.net m).pins/\((eX s nt wn).net m).rips=(s.net m).rips:=fun m hm=>by
    rw[net m hm];split;·rename_i q;rw[q];exact⟨rfl,rfl⟩
    ·exact⟨rfl,rfl⟩
   refine k H3 (Raw.bO (s:=eX s nt wn) r3 good abd (fun _ _=>rfl) (fun m hm=>?_) (fun v hv=>?_) (fun v hv=>?_) ⟨by rw[hJ];exact wk.1,fun m a b=>?_⟩ (fun m a b=>?_) h0) m4
   ·unfold lR;by_cases q:m=0;·rw[aw q,aw q]
    ·rw[ao q,ao q,(pins m (by omega)).2]
   ·refine(l0 (s:=s) (s':=eX s nt wn) (f:=bc) (f':=bc) rfl hv fun m a b=>?_).symm;unfold bc;rw[(pins m a).1]
   ·rw[R8 v];by_cases z:v∈ks;·rw[aw z];unfold je;rw[o6 good.ways hv h1 h2 (by rw[net nt h1,aw rfl];exact(zU rfl v).mpr ((o4 v).mp z))]
    ·rw[ao z];refine(l0 (s:=s) (s':=eX s nt wn) (f:=aM s.g) (f':=aM s.g) rfl hv fun m a b=>?_).symm;rw[net m a];split
     ·rename_i q;subst q;rw[IZ JX];constructor;·intro t;exact bF ((o4 v).mpr ((zU rfl v).mp t)) z
      ·intro t;simp at t
     ·rfl
   ·rw[net m a];by_cases q:m=nt;·rw[aw q,q,d4 (by rw[wk.1];omega)];exact⟨_,rfl,wl,rfl,hL.same m4.ib⟩
    ·rw[ao q,eJ (fY q)];obtain⟨x,e1,e2⟩:=wk.2 m a b;exact⟨x,e1,e2.same m4.ib⟩
   ·rw[(pins m a).1];exact hz m a b
inductive S6(c:Cs)(vs:ab V)(H:Hp)(Q:VK):Prop
 |mk (B:BA) (s:Bd) (n:Nat) (q0:vs=[.ref B.ob,vi n]) (q1:bh c H B s) (q2:1<=n) (q3:n<=32) (q4:bf (s.net n)=true) (q5:∀H',bh c H' B (c8 s n)->Mv B.M H B.M H'->Q .iG H')
def C8(c:Cs):Sp:=fun vs H Q _=>S6 c vs H Q
theorem Iz(hl:s.nets.length=32)(h:E_ s)(h1:1<=n)(h2:n<=32):E_ (s.setNet n ⟨(s.net n).pins,none,r⟩):=fun m a b ws e=>by
 rw[jP hl ⟨h1,h2⟩ a]at e;split at e;·cases e
 ·exact h m a b ws e
abbrev qS:Stmt:=inClass (top 15) 17
theorem uT:bx ["self","net","cell"] ["self","net"] (aU qS):={}
theorem Ep(F:gY K "unlay" "Board.unlay" qS f fd)(T:Txt K mg c)(cR:bq P w K mg base c.d5 "taken_cells" n ["self","ways"] (kh c)):cZ P w K mg base gZ (n+1) f fd ["self","net"] (C8 c):=by
 refine F.ok uT (fun vs H Q E h=>?_) (fun fR A outer s H vs Q E hr h=>?_);·obtain⟨B,s,n,rfl,_⟩:=h;rfl
 ·obtain⟨B,s,nt,rfl,hB,h1,h2,n8,k⟩:=h;obtain⟨zz,ws,r0,wk,hz,h0⟩:=hB.raw;have net:∀m,1<=m->(c8 s nt).net m=if m=nt then{s.net nt with ways:=none}else s.net m:=fun m hm=>jP hB.good.nets ⟨h1,h2⟩ hm;obtain⟨wn,hwn⟩:∃wn,(s.net nt).ways=some wn:=by
   unfold bf at n8;cases ho:(s.net nt).ways with
   |none=>rw[ho]at n8;cases n8
   |some l=>exact⟨l,rfl⟩
  have yN:=(hB.good.uA nt h1 h2 wn hwn).1;obtain⟨v0,hv0,we⟩:=wk.2 nt h1 h2;rw[hwn]at we;obtain⟨wl,rfl,hL⟩:=we;have hg1:gW c H B.gr s.g:=r0.gr.same dS;obtain⟨gx,nr,si,_⟩:=hg1.ex;refine⟨_,(ah (gN bJ rfl (dP (bR (aZ (pv 0) rfl) cR hr (aa (cD bA (aZ (pv 0) rfl) (pv 1) (fun _ _=>rfl)) ak))) (cQ (i:=2) uT.nd rfl (bj rfl)) (ay (pI aN (pJ (aZ (pv 0) rfl) (pv 2) set_list)))) (ay (pI lr (pJ (aZ (pv 0) rfl) (pv 1) set_list)))),?_⟩;refine QW ?_;intro lG;refine⟨_,rfl,_,_,_,_,_,rfl,r0.at_,T.bC,T.fS,fw,_,_,_,rfl,si,j1,_,rfl,_,_,_,_,_,rfl,r0.at_,T.bC,T.pU,o5,_,rfl,_,_,_,_,rfl,rfl,cN.of r0.wa,cA hv0,B.gr,wl,s.g,wn,rfl,hg1,hL.same dS,yN,fun H2 tl ks s2 VM Nr Al o4=>?_⟩;have r2:=r0.same s2;have m2:Mv B.M H B.M H2:=Mv.same s2;have htM:tl∉B.M:=r0.fresh VM;have Ql:∀v∈ks,v<s.g.size:=fun v hv=>by obtain⟨w',L_,hc⟩:=(o4 v).mp hv;exact tq hB.good.UU (yN w' L_) v hc
  let ade:Nat->L2.St->Hp->Prop:=fun i σ H'=>∃x2 tv,σ=[some (.ref B.ob),some (vi nt),x2]/\Raw c H' B (bW B s) s.g s.dirs (CP s) zz ws (lR s) (je s bc) tv/\(∀v,tv v=if v∈ks.take i then .int 0 else je s (aM s.g) v)/\Mv B.M H2 B.M H';refine⟨tl,rfl,⟨_,cN.of Nr⟩,e_ (K:=K) (a:=tl) (xs:=d8 ks) ade
   ⟨none,_,rfl,r2,fun v=>by simp,Mv.refl⟩ (fun i σ H' _⟨_,_,_,_,_,m⟩=>cN.of (m.kp _ _ Nr htM)) ?_ ?_⟩
  ·rintro i y σ H3 hi ⟨x3,tv,rfl,r3,R8,m3⟩;obtain⟨v,hv,rfl⟩:=ji hi;have yM:=Ql v (aH hv);refine⟨_,rfl,_,_,_,_,_,rfl,r3.at_,T.bC,T.j6,kl,_,rfl,B.tk,_,_,v,rfl,rfl,r3.tk,(by rw[jY];exact pO yM),?_⟩;rw[xZ];refine⟨_,_,rfl,r3.VA _,fun u=>?_,m3.trans (Mv.put (by simp))⟩;rw[R8 u];by_cases q:u=v;·rw[aw q,aw ((fP hv).mpr (.inr q))]
   ·rw[ao q];by_cases z:u∈ks.take i;·rw[aw z,aw ((fP hv).mpr (.inl z))]
    ·rw[ao z,ao fun y=>((fP hv).mp y).elim z q]
  ·rintro σ H3 ⟨x3,tv,rfl,r3,R8,m3⟩;have e:(d8 ks).length=ks.length:=ae _;rw[e,bG]at R8;refine⟨_,rfl,_,_,_,_,_,rfl,r3.at_,T.bC,T.pU,o5,_,rfl,B.wa,_,_,nt,rfl,rfl,r3.wa,(by rw[wk.1];exact pO (by omega)),?_⟩;have r4:=r3.Vz (ws.set nt .iG);have m4:Mv B.M H B.M (upd H3 B.wa (.lst (ws.set nt .iG))):=(m2.trans m3).trans (Mv.put (by simp));have pins:∀m,1<=m->((c8 s nt).net m).pins=(s.net m).pins/\((c8 s nt).net m).rips=(s.net m).rips:=fun m hm=>by
    rw[net m hm];split;·rename_i q;rw[q];exact⟨rfl,rfl⟩
    ·exact⟨rfl,rfl⟩
   have good:=hB.good.rip h1 h2;refine k _ (Raw.bO (s:=c8 s nt) r4 good (Iz hB.good.nets hB.len h1 h2) (fun _ _=>rfl) (fun m hm=>?_) (fun v hv=>?_) (fun v hv=>?_) ⟨by rw[hJ];exact wk.1,fun m a b=>?_⟩ (fun m a b=>?_) h0) m4
   ·unfold lR;by_cases q:m=0;·rw[aw q,aw q]
    ·rw[ao q,ao q,(pins m (by omega)).2]
   ·refine(l0 (s:=s) (s':=c8 s nt) (f:=bc) (f':=bc) rfl hv fun m a b=>?_).symm;unfold bc;rw[(pins m a).1]
   ·rw[R8 v];have Hm:v∈ks↔v∈aM s.g (s.net nt):=(o4 v).trans (zU hwn v).symm;by_cases z:v∈ks
    ·rw[aw z];unfold je;have:=xr (s:=c8 s nt) (f:=aM s.g) (x:=v) fun m a b=>?_;·rw[show aM (c8 s nt).g=aM s.g from rfl,this];rfl
     ·rw[net m a];split;·rw[IZ rfl];simp
      ·rename_i y;exact fun t=>y (hB.good.ways m nt v a b h1 h2 t (Hm.mp z))
    ·rw[ao z];refine(l0 (s:=s) (s':=c8 s nt) (f:=aM s.g) (f':=aM s.g) rfl hv fun m a b=>?_).symm;rw[net m a];split
     ·rename_i q;subst q;rw[IZ (a:={s.net m with ways:=none}) rfl];constructor;·intro t;simp at t
      ·intro t;exact bF (Hm.mpr t) z
     ·rfl
   ·rw[net m a];by_cases q:m=nt;·rw[aw q,q,d4 (by rw[wk.1];omega)];exact⟨_,rfl,rfl⟩
    ·rw[ao q,eJ (fY q)];obtain⟨x,e1,e2⟩:=wk.2 m a b;exact⟨x,e1,e2.same m4.ib⟩
   ·rw[(pins m a).1];exact hz m a b
inductive QK(c:Cs)(vs:ab V)(H:Hp)(Q:VK):Prop
 |mk (B:BA) (s:Bd) (n:Nat) (q0:vs=[.ref B.ob,vi n]) (q1:bh c H B s) (q2:1<=n) (q3:n<=32) (q4:bf (s.net n)=true) (q5:∀H',bh c H' B (cy s n)->Mv B.M H B.M H'->Q .iG H')
def Ke(c:Cs):Sp:=fun vs H Q _=>QK c vs H Q
abbrev jg:Stmt:=inClass (top 15) 18
theorem qL:bx ["self","net"] ["self","net"] (aU jg):={}
theorem qV(F:gY K "rip_for_another" "Board.rip_for_another" jg f fd)(T:Txt K mg c)(gK:bq P w K mg base c.bO "unlay" n ["self","net"] (C8 c)):cZ P w K mg base gZ (n+1) f fd ["self","net"] (Ke c):=by
 refine F.ok qL (fun vs H Q E h=>?_) (fun fR A outer s H vs Q E hr h=>?_);·obtain⟨B,s,n,rfl,_⟩:=h;rfl
 ·obtain⟨B,s,nt,rfl,hB,h1,h2,n8,k⟩:=h;refine⟨_,(ah (da (bR (pv 0) gK hr (aa (pv 1) ak))) (ay (Ug (aZ (pv 0) rfl) (pv 1) Sv aN Nn set_list))),?_⟩;refine QW ?_;intro lG;refine⟨_,rfl,_,_,_,rfl,hB.at_,E7,_,rfl,B,s,nt,rfl,hB,h1,h2,n8,fun H1 fu m1=>?_⟩;obtain⟨zz,ws,r0,wk,hz,h0⟩:=fu.raw;have WO:∀m,1<=m->(c8 s nt).net m=if m=nt then{s.net nt with ways:=none}else s.net m:=fun m hm=>jP hB.good.nets ⟨h1,h2⟩ hm;have WN:∀m,1<=m->(cy s nt).net m=if m=nt then{s.net nt with ways:=none,rips:=(s.net nt).rips+1}else s.net m:=fun m hm=>jP hB.good.nets ⟨h1,h2⟩ hm;refine⟨_,rfl,_,_,_,_,_,rfl,r0.at_,T.bC,T.yy,Ac,_,rfl,B.ri,_,nt,_,rfl,rfl,cN.of r0.ri,lJ (by omega),((((c8 s nt).net nt).rips:Nat):Int),_,?_,rfl,B.ri,_,_,nt,rfl,rfl,r0.ri,(by rw[jY];exact pO (by omega)),?_⟩;·unfold lR;rw[ao (show¬nt=0 by omega)]
  rw[xZ];have r1:=r0.VB (fun v=>if v=nt then V.int (((((c8 s nt).net nt).rips:Nat):Int)+1)else lR (c8 s nt) v);have m2:Mv B.M H1 B.M (upd H1 B.ri (.lst (rm 33 fun v=>if v=nt then V.int (((((c8 s nt).net nt).rips:Nat):Int)+1)else lR (c8 s nt) v))):=Mv.put (by simp);have wp:∀m,1<=m->((cy s nt).net m).pins=((c8 s nt).net m).pins/\((cy s nt).net m).ways=((c8 s nt).net m).ways:=fun m hm=>by rw[WO m hm,WN m hm];split<;>exact⟨rfl,rfl⟩
  refine k _ (Raw.bO (s:=cy s nt) r1 (hB.good.ripCounted h1 h2) (Iz hB.good.nets hB.len h1 h2) (fun _ _=>rfl) (fun m hm=>?_) (fun v hv=>?_) (fun v hv=>?_) ⟨wk.1,fun m a b=>?_⟩ (fun m a b=>?_) h0) (m1.trans m2)
  ·unfold lR;by_cases q:m=nt;·rw[aw q,ao (show¬m=0 by omega),q,WN nt h1,aw rfl,WO nt h1,aw rfl];rfl
   ·rw[ao q];by_cases z:m=0;·rw[aw z,aw z]
    ·rw[ao z,ao z,WN m (by omega),ao q,WO m (by omega),ao q]
  ·refine(l0 (s:=c8 s nt) (s':=cy s nt) (f:=bc) (f':=bc) rfl hv fun m a b=>?_).symm;unfold bc;rw[(wp m a).1]
  ·refine(l0 (s:=c8 s nt) (s':=cy s nt) (f:=aM s.g) (f':=aM s.g) rfl hv fun m a b=>?_).symm;unfold aM;rw[(wp m a).2]
  ·obtain⟨x,e1,e2⟩:=wk.2 m a b;exact⟨x,e1,by rw[(wp m a).2];exact e2.same m2.ib⟩
  ·rw[(wp m a).1];exact hz m a b
end
end Nw
namespace Nw
open PySem PySem.Spec PyProof.Rows L2
structure pX(s s1:Bd):Prop where
 g:s1.g=s.g
 via:s1.via=s.via
 wrong:s1.wrong=s.wrong
 penalty:s1.penalty=s.penalty
 dirs:s1.dirs=s.dirs
 blocked:s1.blocked=s.blocked
 pins:∀n,1<=n->n<=32->(s1.net n).pins=(s.net n).pins
theorem pX.refl(s:Bd):pX s s:=⟨rfl,rfl,rfl,rfl,rfl,rfl,fun _ _ _=>rfl⟩
theorem pX.trans(h:pX a b)(k:pX b d):pX a d:=⟨k.g.trans h.g,k.via.trans h.via,k.wrong.trans h.wrong,k.penalty.trans h.penalty,k.dirs.trans h.dirs,k.blocked.trans h.blocked,fun n a b=>(k.pins n a b).trans (h.pins n a b)⟩
theorem pX.set(hl:s.nets.length=32)(h1:1<=n)(h2:n<=32)(ha:a.pins=(s.net n).pins):pX s (s.setNet n a):=⟨rfl,rfl,rfl,rfl,rfl,rfl,fun m m1 m2=>by
 rw[jP hl ⟨h1,h2⟩ m1];split;·rename_i q;rw[q];exact ha
 ·rfl⟩
def Fc(H:Hp)(t:Addr)(s:Bd):Prop:=∃a b d ws,H t=some (.tup [.ref a,.ref b,.ref d])/\H a=some (.lst ws)/\yz H ws s/\H b=some (.lst (rm 33 (lR s)))/\H d=some (.lst (rm s.g.size (je s (aM s.g))))
theorem Fc.same(h:Fc H t s)(k:aQ H H'):Fc H' t s:=by obtain⟨a,b,d,ws,h1,h2,h3,h4,h5⟩:=h;exact⟨a,b,d,ws,k _ _ h1,k _ _ h2,h3.same k,k _ _ h4,k _ _ h5⟩
section
variable{P:bT}{w:cU}{K:ag}{mg:Str->aY aA}{base:Heap}{c:Cs}{n:Nat}
inductive QO(c:Cs)(vs:ab V)(H:Hp)(Q:VK):Prop
 |mk (B:BA) (s:Bd) (q0:vs=[.ref B.ob]) (q1:bh c H B s) (q2:∀(H':Hp)(t:Addr),aQ H H'->Fc (off B.N H') t s->Q (.ref t) H')
def Kg(c:Cs):Sp:=fun vs H Q _=>QO c vs H Q
abbrev pG:Stmt:=inClass (top 15) 20
theorem Cz:bx ["self"] ["self"] (aU pG):={}
theorem CL(F:gY K "laying" "Board.laying" pG f fd)(T:Txt K mg c):cZ P w K mg base gZ 1 f fd ["self"] (Kg c):=by
 refine F.ok Cz (fun vs H Q E h=>?_) (fun fR A outer s H vs Q E hr h=>?_);·obtain⟨B,s,rfl,_⟩:=h;rfl
 ·obtain⟨B,s,rfl,hB,k⟩:=h;obtain⟨ws,ew,wk⟩:=hB.wa;refine⟨_,(ay (aX (lp (aa (gA (jB) rfl T.b.list mF (aa (aZ (pv 0) rfl) ak)) (aa (gA (jB) rfl T.b.list mF (aa (aZ (pv 0) rfl) ak)) (aa (gA (jB) rfl T.b.list mF (aa (aZ (pv 0) rfl) ak)) ak)))))),?_⟩;refine⟨_,rfl,_,_,_,_,_,rfl,hB.at_,T.bC,T.pU,o5,B.wa,_,rfl,.inl (cN.of ew),fun a ha=>?_⟩;have s1:aQ H (upd H a (.lst ws)):=aQ.new ha;have e1:upd H a (.lst ws) a=some (.lst ws):=aq;have fu:=hB.same s1;generalize upd H a (.lst ws)=H1 at s1 e1 fu⊢;refine⟨_,rfl,_,_,_,_,_,rfl,fu.at_,T.bC,T.yy,Ac,B.ri,_,rfl,.inl (cN.of fu.ri),fun b hb=>?_⟩;have s2:aQ H1 (upd H1 b (.lst (rm 33 (lR s)))):=aQ.new hb;have e2:upd H1 b (.lst (rm 33 (lR s))) b=some (.lst (rm 33 (lR s))):=aq;have jA:=fu.same s2;generalize upd H1 b (.lst (rm 33 (lR s)))=H2 at s2 e2 jA⊢;refine⟨_,rfl,_,_,_,_,_,rfl,jA.at_,T.bC,T.j6,kl,B.tk,_,rfl,.inl (cN.of jA.tk),fun d hd=>?_⟩;have s3:aQ H2 (upd H2 d (.lst (rm s.g.size (je s (aM s.g))))):=aQ.new hd;have e3:upd H2 d (.lst (rm s.g.size (je s (aM s.g)))) d=some (.lst (rm s.g.size (je s (aM s.g)))):=aq;have tU:=jA.same s3;generalize upd H2 d (.lst (rm s.g.size (je s (aM s.g))))=H3 at s3 e3 tU⊢;refine⟨(by show 3<=sizeLine;decide),fun t ht=>?_⟩;have s4:aQ H3 (upd H3 t (.tup [.ref a,.ref b,.ref d])):=aQ.new ht;have QX:=((s1.trans s2).trans s3).trans s4;refine k _ t QX ⟨a,b,d,ws,eZ aq (tU.IY ht),eZ (s4 _ _ (s3 _ _ (s2 _ _ e1))) (hB.IY ha),wk.same (Mv.same (M:=B.M) QX).ib,eZ (s4 _ _ (s3 _ _ e2)) (fu.IY hb),eZ (s4 _ _ e3) (jA.IY hd)⟩
inductive LY(c:Cs)(vs:ab V)(H:Hp)(Q:VK):Prop
 |mk (B:BA) (s s1:Bd) (t:Addr) (q0:vs=[.ref B.ob,.ref t]) (q1:bh c H B s1) (q2:Fc (off B.N H) t s) (q3:pX s s1) (q4:Good s) (q5:E_ s) (q6:∀H' B',bh c H' B' s->(B'.ob=B.ob/\B'.xs=B.xs)->Mv B.M H B'.M H'->Q .iG H')
def DW(c:Cs):Sp:=fun vs H Q _=>LY c vs H Q
theorem NQ:d9 "ways" (.ref q) (bW B s)=bW {B with wa:=q} s:=by kernel_rfl
theorem NR:d9 "rips" (.ref q) (bW B s)=bW {B with ri:=q} s:=by kernel_rfl
theorem Jv:d9 "takers" (.ref q) (bW B s)=bW {B with tk:=q} s:=by kernel_rfl
abbrev mh:Stmt:=inClass (top 15) 21
theorem xR:bx ["self","laying"] ["self","laying"] (aU mh):={}
theorem yh(F:gY K "lay_again" "Board.lay_again" mh f fd)(T:Txt K mg c):cZ P w K mg base gZ 1 f fd ["self","laying"] (DW c):=by
 refine F.ok xR (fun vs H Q E h=>?_) (fun fR A outer s H vs Q E hr h=>?_);·obtain⟨B,s,s1,t,rfl,_⟩:=h;rfl
 ·obtain⟨B,s,s1,t,rfl,hB,hL,lk,good,wl,k⟩:=h;obtain⟨a,b,d,ws0,h1,h2,h3,h4,h5⟩:=hL;obtain⟨zz,ws,r0,wk,hz,h0⟩:=hB.raw;refine⟨_,(ah (fK (pv 0) (gA (jB) rfl T.b.list mF (aa (cD Bo (pv 1) aN (fun _ _=>rfl)) ak)) rfl) (ah (fK (pv 0) (gA (jB) rfl T.b.list mF (aa (cD Bo (pv 1) aN (fun _ _=>rfl)) ak)) rfl) (ay (fK (pv 0) (gA (jB) rfl T.b.list mF (aa (cD Bo (pv 1) aN (fun _ _=>rfl)) ak)) rfl)))),?_⟩;refine MD ?_;intro oO lG;refine⟨_,rfl,t,_,_,_,rfl,rfl,q_.of (dS _ _ h1),Gf,a,_,rfl,.inl (cN.of (dS _ _ h2)),fun q1 vp=>?_⟩;have k1:=r0.same (aQ.new (o:=.lst ws0) vp);refine⟨_,rfl,_,_,_,_,rfl,k1.at_,T.bC,T.pU,(by show 11<1000;decide),?_⟩;rw[NQ];obtain⟨r1,m1⟩:=r0.WK vp (r0.fresh vp) ws0 (bW {B with wa:=q1} s1);generalize upd (upd H q1 (.lst ws0)) B.ob (.ins c.bO B.dx (bW {B with wa:=q1} s1))=H1 at r1 m1⊢;have o1:=m1.ib (X:=B.xs);refine⟨_,rfl,t,_,_,_,rfl,rfl,q_.of (dS _ _ (o1 _ _ h1)),Vc,b,_,rfl,.inl (cN.of (dS _ _ (o1 _ _ h4))),fun q2 JW=>?_⟩;have k2:=r1.same (aQ.new (o:=.lst (rm 33 (lR s))) JW);refine⟨_,rfl,_,_,_,_,rfl,k2.at_,T.bC,T.yy,(by show 11<1000;decide),?_⟩;rw[NR];obtain⟨r2,m2⟩:=r1.WM JW (r1.fresh JW) (lR s) (bW {B with wa:=q1,ri:=q2} s1);have P7:=m1.trans m2;have o2:=P7.ib (X:=B.xs);generalize upd (upd H1 q2 (.lst (rm 33 (lR s)))) B.ob (.ins c.bO B.dx (bW {B with wa:=q1,ri:=q2} s1))=H2 at r2 m2 P7 o2⊢;refine⟨_,rfl,t,_,_,_,rfl,rfl,q_.of (dS _ _ (o2 _ _ h1)),Y8,d,_,rfl,.inl (cN.of (dS _ _ (o2 _ _ h5))),fun q3 Q1=>?_⟩;rw[<-lk.g];have k3:=r2.same (aQ.new (o:=.lst (rm s1.g.size (je s (aM s1.g)))) Q1);refine⟨_,rfl,_,_,_,_,rfl,k3.at_,T.bC,T.j6,(by show 11<1000;decide),?_⟩;rw[Jv];obtain⟨r3,m3⟩:=r2.WL Q1 (r2.fresh Q1) (je s (aM s1.g)) (bW {B with wa:=q1,ri:=q2,tk:=q3} s1);have m13:=P7.trans m3;have fe:bW {B with wa:=q1,ri:=q2,tk:=q3} s1=bW {B with wa:=q1,ri:=q2,tk:=q3} s:=by unfold bW;rw[lk.via,lk.wrong,lk.penalty]
  generalize hH3:upd (upd H2 q3 (.lst (rm s1.g.size (je s (aM s1.g))))) B.ob (.ins c.bO B.dx (bW {B with wa:=q1,ri:=q2,tk:=q3} s1))=H3 at r3 m3 m13;rw[fe]at r3;rw[lk.g,lk.dirs]at r3;refine k _ {B with wa:=q1,ri:=q2,tk:=q3} (Raw.bO (s:=s) r3 good wl (fun v hv=>?_) (fun _ _=>rfl) (fun v hv=>?_) (fun v hv=>rfl) (h3.same m13.ib) (fun m a b=>?_) h0) ⟨rfl,rfl⟩ m13;·unfold CP;rw[lk.blocked]
  ·exact l0 (s:=s) (s':=s1) (f:=bc) (f':=bc) lk.g hv fun m a b=>by unfold bc;rw[lk.pins m a b]
  ·rw[hz m a b];exact lk.pins m a b
abbrev gw(s:Bd)(n:Nat)(ws:ab (ab Nat)):ab Nat:=bV.filter fun m=>m !=n&&(ws.flatMap (dJ s.g)).any fun v=>(cB s).getD v 0==m
inductive QM(c:Cs)(vs:ab V)(H:Hp)(Q:VK):Prop
 |mk (B:BA) (s:Bd) (wl:Addr) (n:Nat) (ws:ab (ab Nat)) (q0:vs=[.ref B.ob,vi n,.ref wl]) (q1:bh c H B s) (q2:gq H wl ws) (q3:(∀l∈ws,Chain s.g l)) (q4:∀(H':Hp)(l:Addr),aQ H H'->H l=none->H' l=some (.lst (d8 (gw s n ws)))->Q (.ref l) H')
def DV(c:Cs):Sp:=fun vs H Q _=>QM c vs H Q
theorem PK{ns:ab Int}{l:ab Nat}(h1:ns.Pairwise (·<=·))(h2:ns.Nodup)(h3:∀k,k∈ns↔∃m∈l,k=(m:Int))(hl:l.Pairwise (·<·)):ns=l.map fun(m:Nat)=>(m:Int):=by
 have h4:ns=(ns.map kQ).map fun(m:Nat)=>(m:Int):=by
  rw[c_];conv=>lhs;rw[<-List.map_id ns]
  apply eC;intro k hk;obtain⟨m,_,rfl⟩:=(h3 k).mp hk;simp
 have h5:ns.Pairwise (·<·):=by have:=h1.and h2;exact this.imp fun h=>by have:=h.1;have:=h.2;omega
 have h6:(ns.map kQ).Pairwise (·<·):=by rw[Cj];refine h5.imp_of_mem fun{a b} ha hb h=>?_;obtain⟨m,_,rfl⟩:=(h3 a).mp ha;obtain⟨m',_,rfl⟩:=(h3 b).mp hb;omega
 rw[h4,AS h6 hl fun x=>?_];rw[bB];constructor;·rintro⟨k,hk,rfl⟩;obtain⟨m,hm,rfl⟩:=(h3 k).mp hk;simpa using hm
 ·intro hx;exact⟨(x:Int),(h3 _).mpr ⟨x,hx,rfl⟩,by simp⟩
theorem P2:bV.Pairwise (·<·):=by decide
abbrev jX:Stmt:=inClass (top 15) 19
theorem gv:bx ["self","net","ways","takers","cell","taker"] ["self","net","ways"] (aU jX):={}
theorem uc(F:gY K "other_takers" "Board.other_takers" jX f fd)(T:Txt K mg c)(cR:bq P w K mg base c.d5 "taken_cells" n ["self","ways"] (kh c)):cZ P w K mg base gZ (n+1) f fd ["self","net","ways"] (DV c):=by
 refine F.ok gv (fun vs H Q E h=>?_) (fun fR A outer s H vs Q E hr h=>?_);·obtain⟨B,s,wl,n,ws,rfl,_⟩:=h;rfl
 ·obtain⟨B,s,wl,nt,ws,rfl,hB,hL,yN,k⟩:=h;obtain⟨gx,nr,si,_⟩:=hB.d5.ex;have hsz:=hB.gb.size_le;refine⟨_,(ah (pH (i:=3) (own:=[("cell",4)]) rfl gv.nd rfl rfl (sD rfl rfl rfl rfl) (dP (bR (aZ (pv 0) rfl) cR hr (aa (pv 2) ak))) (eG (by kernel_rfl)) (fun _ _ _ _ _=>cQ (i:=4) gv.nd rfl (bj rfl)) (fun _ _ _ _ _=>jz) (fun _ _ _ _ _=>(cD (ED K) (De K (pv 0) rfl) (pv 4) (fun _ _=>rfl)))) (ay (aX (dM (Jn rfl) rfl T.b.sorted QD (aa (gA (U7 rfl) rfl T.b.set X8 (aa (oQ (own:=[("taker",5)]) rfl gv.nd (dP (pv 3)) (eG (by kernel_rfl)) (fun _ _ _ _ _=>cQ (i:=5) gv.nd rfl (bj rfl)) (fun _ _ _ _ _=>(qr (bL (He K) (pv 5) (lp (aa aN (aa (pv 1) ak))) rfl))) (fun _ _ _ _ _=>(pv 5))) ak)) ak))))),?_⟩;refine QW ?_;intro lG;refine⟨_,rfl,_,_,_,_,_,rfl,hB.at_,T.bC,T.fS,fw,_,_,_,rfl,si,j1,_,rfl,B.gr,wl,s.g,ws,rfl,hB.d5,hL,yN,fun H1 tl ks s1 VM aaf Al o4=>?_⟩;have fu:=hB.same s1;have Ql:∀v∈ks,v<s.g.size:=fun v hv=>by obtain⟨w',L_,hc⟩:=(o4 v).mp hv;exact tq hB.good.UU (yN w' L_) v hc
  have hkl:ks.length<=2304:=bZ (iC Al Ql) hsz;refine⟨tl,rfl,⟨_,cN.of aaf⟩,fun D hD=>?_⟩;refine sZ (K:=K) (a:=tl) (xs:=d8 ks) (fun x=>match x with| .int z=>je s (aM s.g) z.toNat|_=>.iG) hD (cN.of aaf) (fun _=>by rfl) (by rw[ae];omega) (fun x H' Q' hx s2 kk=>?_) fun H2 s2 e2=>?_;·obtain⟨v,hv,rfl⟩:=sY hx;have jA:=fu.same s2;refine⟨_,rfl,_,_,_,_,_,rfl,jA.at_,T.bC,T.j6,kl,_,rfl,_,_,_,_,rfl,rfl,cN.of jA.tk,cA (lJ (Ql v hv)),?_⟩;have:=kk H' fun _ _ e=>e;simp only[aJ]at this;exact this
  rw[show(d8 ks).map (fun x=>match x with| .int z=>je s (aM s.g) z.toNat|_=>.iG)=d8 (ks.map fun v=>(cB s).getD v 0) by unfold d8;rw[c_,c_];apply eC;intro v _;simp only[FC,aJ];rfl]at e2;have Dc:=s1.trans s2;refine⟨_,rfl,D,rfl,⟨_,cN.of e2⟩,fun D2 YY=>?_⟩;refine OQ (K:=K) (a:=D) (xs:=d8 (ks.map fun v=>(cB s).getD v 0)) (fun x=>!Tp x [.int 0,vi nt]) YY (cN.of e2) (fun _=>by rfl) (fun _=>by rfl) (by rw[ae,ae];omega) (fun x H' Q' hx s3 kk=>?_) fun H3 s3 e3=>?_;·obtain⟨v,hv,rfl⟩:=sY hx;refine⟨_,rfl,_,rfl,(by show 2<=sizeLine;decide),fun t ht=>?_⟩;refine⟨t,_,rfl,.inr (q_.of aq),rfl,rfl,?_⟩;have:=kk _ (aQ.new (o:=.tup [.int 0,vi nt]) ht);exact⟨_,rfl,this⟩
  rw[yp (q:=fun m=>!(m==0||m==nt)) (fun m=>by rw[EG])]at e3;have CA:=Dc.trans s3;rw[Dx]at e3;refine⟨D2,_,rfl,cN.of e3,?_,fun p xs hp hxn hxm=>?_⟩;·rw[ae];have:=c7 (fun m=>!(m==0||m==nt)) (ks.map fun v=>(cB s).getD v 0);rw[ae]at this;omega
  have s4:aQ H3 (upd H3 p (Vh P w p xs)):=aQ.new hp;have hx2:∀k,k∈xs↔∃m∈gw s nt ws,k=(m:Int):=fun k=>by
   rw[hxm k];constructor;·intro h;obtain⟨m,hm,rfl⟩:=bB.mp h;obtain⟨hm1,VP⟩:=ba.mp hm;obtain⟨v,hv,rfl⟩:=bB.mp hm1;simp only[fm,Bool.or_eq_false_iff,iI]at VP;have UK:=rE (s:=s) (f:=aM s.g) (x:=v) VP.1;refine⟨_,ba.mpr ⟨gP.mpr ⟨UK.2.1,UK.2.2.1⟩,?_⟩,rfl⟩;simp only[bN,bne_iff_ne,ne_eq,og,dU];exact⟨VP.2,v,gM.mpr ((o4 v).mp hv),rfl⟩
   ·rintro⟨m,hm,rfl⟩;obtain⟨hm1,VP⟩:=ba.mp hm;simp only[bN,bne_iff_ne,ne_eq,og,dU]at VP;obtain⟨oR,v,hv,he⟩:=VP;refine bB.mpr ⟨m,ba.mpr ⟨bB.mpr ⟨v,(o4 v).mpr (gM.mp hv),he⟩,?_⟩,rfl⟩;have:=(gP.mp hm1).1;simp only[fm,Bool.or_eq_false_iff,iI];exact⟨by omega,oR⟩
  have aai:(gw s nt ws).Pairwise (·<·):=P2.filter _;have hxl:xs.length<64:=by
   have h1:(xs.map kQ).Nodup:=by unfold List.Nodup;rw[Cj];refine List.Pairwise.imp_of_mem (fun{a b} ha hb h=>?_) hxn;obtain⟨m,_,rfl⟩:=(hx2 a).mp ha;obtain⟨m',_,rfl⟩:=(hx2 b).mp hb;simp only[aJ];omega
   have h2:∀x∈xs.map kQ,x<33:=fun x hx=>by obtain⟨a,ha,rfl⟩:=bB.mp hx;obtain⟨m,hm,rfl⟩:=(hx2 a).mp ha;have:=(gP.mp (ba.mp hm).1).2;simp;omega
   have:=iC h1 h2;rw[ae]at this;omega
  refine⟨p,xs,rfl,aq,hxl,fun ns q EJ hle hq=>?_⟩;have:=PK hle (EJ.nodup_iff.mpr hxn) (fun k=>(EJ.mem_iff).trans (hx2 k)) aai;refine k _ q ((CA.trans s4).trans (aQ.new hq)) ((CA.trans s4).free hq) ?_;rw[aq,this,<-Dx]
end
end Nw
namespace Nw
open PySem PySem.Spec PyProof.Rows L2
theorem Mv.wide{M M2 M':ab Addr}(m:Mv M H M' H')(h:∀b∈M,b∈M2):Mv M2 H M' H':=⟨fun b o e hb=>m.kp b o e fun q=>hb (h b q),fun b hb=>(m.mem b hb).imp (h b) id⟩
theorem gW.abC(h:gW c H x g)(ha:H a=some (.ins C dx fs))(hf:fs.length≠6):gW c (off [a] H) x g:=by
 have na:∀{x:Addr}{o:HO},H x=some o->(∀C d f,o=.ins C d f->f.length=6)->off [a] H x=some o:=fun{x o} e ho=>eZ e fun z=>by rw[bU]at z;rw[z,ha]at e;exact hf (ho _ _ _ (bE e).symm)
 obtain⟨gx,nr,h7,ns,h8,h9,Mb⟩:=h.ex;exact⟨h.gb,gx,nr,na h7 (fun C d f z=>by cases z;rfl),ns,na h8 (fun C d f z=>by cases z),h9,fun v l e=>by obtain⟨ts,p1,p2,p3⟩:=Mb v l e;exact⟨ts,na p1 (fun C d f z=>by cases z),p2,fun i p t a b=>na (p3 i p t a b) (fun C d f z=>by cases z)⟩⟩
structure Bn(H1:Hp)(a:Addr)(H':Hp)(L:ab Addr):Prop where
 mv:Mv [a] H1 [a] H'
 nd:L.Nodup
 na:a∉L
 nw:∀b∈L,H1 b=none
 dm:∀b∈L,∃o,H' b=some o
theorem Bn.free(b:Bn H1 a H' L)(h:H' q=none)(hq:q≠a):H1 q=none:=by
 cases e:H1 q with
 |none=>rfl
 |some o=>rw[b.mv.kp q o e (by simpa using hq)]at h;cases h
theorem Bn.keep(b:Bn H1 a H' L)(m:Mv [a] H' [a] H2):Bn H1 a H2 L:=⟨b.mv.trans m,b.nd,b.na,b.nw,fun x hx=>let⟨o,e⟩:=b.dm x hx;⟨o,m.kp x o e fun q=>b.na (by rw[bU]at q;rw[<-q];exact hx)⟩⟩
theorem Bn.add(b:Bn H1 a H' L)(m:Mv [a] H' [a] H2)(h:H' q=none)(hq:q≠a)(e:H2 q=some o):Bn H1 a H2 (L++[q]):=by
 have k:=b.keep m;refine⟨k.mv,zT k.nd fun z=>?_,fun z=>?_,fun x hx=>?_,fun x hx=>?_⟩;·obtain⟨o',e'⟩:=b.dm q z;rw[h]at e';cases e'
 ·rcases a_.mp z with y|y;·exact k.na y
  ·rw[bU]at y;exact hq y.symm
 ·rcases a_.mp hx with y|y;·exact k.nw x y
  ·rw[bU]at y;rw[y];exact b.free h hq
 ·rcases a_.mp hx with y|y;·exact k.dm x y
  ·rw[bU]at y;rw[y];exact⟨o,e⟩
theorem GV(h:H a=some (.ins C dx fs))(h1:H q1=none)(h2:upd H q1 o1 q2=none):upd (upd H q1 o1) q2 o2 a=some (.ins C dx fs)/\q2≠a/\H q2=none/\∀yO,Mv [a] H [a] (upd (upd (upd H q1 o1) q2 o2) a (.ins C dx yO))/\upd (upd (upd H q1 o1) q2 o2) a (.ins C dx yO) a=some (.ins C dx yO)/\upd (upd (upd H q1 o1) q2 o2) a (.ins C dx yO) q2=some o2:=by have s1:aQ H (upd H q1 o1):=aQ.new h1;have s2:aQ H (upd (upd H q1 o1) q2 o2):=s1.trans (aQ.new h2);have e:=s2 _ _ h;have hq:q2≠a:=fY (aE (s1 _ _ h) h2);exact⟨e,hq,s1.free h2,fun yO=>⟨(Mv.same s2).trans (Mv.put (by simp)),aq,by rw[aj hq,aq]⟩⟩
theorem zV(h:fs.lookup g=some x)(e:¬g=f:=by decide):(d9 f v fs).lookup g=some x:=by rw[qv,ao e];exact h
theorem ZY:(d9 f v fs).lookup f=some v:=by rw[qv,aw rfl]
theorem AU{k:Nat}{v:V}:(cO k [v]).flatten=rm k fun _=>v:=by
 unfold rm;induction k with
 |zero=>rfl
 |succ k ih=>rw[lW,cz,<-ih,List.replicate_succ',p_];rfl
theorem Ua{k:Nat}:rm k (fun _=>V.int 0)=d8 (cO k 0):=by unfold rm d8;rw[List.map_replicate,List.map_const',fk];rfl
theorem wj:(mP w h l).net n=eR:=by show(cO 32 eR).getD (n-1) eR=_;rw[dF,jv];split<;>rfl
theorem Hr(hf:f eR=[]):je (mP w h l) f v=V.int 0:=by unfold je;rw[xr fun n _ _=>by rw[wj,hf];simp];rfl
def putAll(gr di bl pi wa ri pn tk:Addr)(fs:ab (Str×V)):ab (Str×V):=d9 "takers" (.ref tk) (d9 "pin_nets" (.ref pn) (d9 "rips" (.ref ri) (d9 "ways" (.ref wa) (d9 "pins" (.ref pi) (d9 "blocked" (.ref bl) (d9 "directions" (.ref di) (d9 "penalty" (.int 8) (d9 "wrong" (.int 2) (d9 "via" (.int 4) (d9 "grid" (.ref gr) fs))))))))))
theorem MO:putAll gr di bl pi wa ri pn tk []=bW ⟨ob,dx,gr,di,bl,pi,wa,ri,pn,tk,lX,xs⟩ (mP w h l):=by kernel_rfl
theorem MN:putAll gr di bl pi wa ri pn tk (bW B s)=bW ⟨ob,dx,gr,di,bl,pi,wa,ri,pn,tk,lX,xs⟩ (mP w h l):=by kernel_rfl
section
variable{P:bT}{w:cU}{K:ag}{mg:Str->aY aA}{base:Heap}{c:Cs}{n:Nat}
inductive S9(c:Cs)(vs:ab V)(H:Hp)(Q:VK):Prop
 |mk (a dx:Addr) (fs:ab (Str×V)) (w h l:Nat) (xs:ab Addr) (q0:vs=[.ref a,vi w,vi h,vi l]) (q1:H a=some (.ins c.bO dx fs)) (q2:(fs=[]\/∃B s,fs=bW B s)) (q3:(1<=w/\w<=24)) (q4:(1<=h/\h<=24)) (q5:(1<=l/\l<=4)) (q6:(∀b∈xs,∃o,H b=some (.lst o))) (q7:∀H' B',bh c H' B' (mP w h l)->(B'.ob=a/\B'.xs=xs)->Mv [a] H B'.M H'->Q .iG H')
def Ic(c:Cs):Sp:=fun vs H Q _=>S9 c vs H Q
abbrev qT:Stmt:=inClass (top 15) 1
theorem px:bx ["self","columns","rows","layers","net"] ["self","columns","rows","layers"] (aU qT):={}
theorem Er(F:gY K "renew" "Board.renew" qT f fd)(T:Txt K mg c)(N_:jN P w K mg base c.d5 "Grid" n ["self","columns","rows","layers"] (DX c)):cZ P w K mg base gZ (n+2) f fd ["self","columns","rows","layers"] (Ic c):=by
 refine F.ok px (fun vs H Q E h=>?_) (fun fR A outer s H vs Q E hr h=>?_);·obtain⟨a,dx,fs,w,h,l,xs,rfl,_⟩:=h;rfl
 ·obtain⟨a,dx,fs,wd,ht,ly,xs,rfl,ha,hfs,hw,hh,hl,YF,k⟩:=h;have gb:GB ⟨wd,ht,ly⟩:=⟨⟨hw.1,hh.1,hl.1⟩,hw.2,hh.2,hl.2⟩;have hsz:=gb.size_le;have Tv:fs.length<=11:=by
   rcases hfs with rfl|⟨B,s,rfl⟩;·exact cH _
   ·exact aD _
  have hf6:fs.length≠6:=by
   rcases hfs with rfl|⟨B,s,rfl⟩;·exact(by decide:(0:Nat)≠6)
   ·exact(by decide:(11:Nat)≠6)
  refine⟨_,(ah (fK (pv 0) (vc N_ hr (aa (pv 1) (aa (pv 2) (aa (pv 3) ak)))) rfl) (ah (fK (pv 0) aN rfl) (ah (fK (pv 0) aN rfl) (ah (fK (pv 0) aN rfl) (ah (fK (pv 0) (dj ve (cI (aa aN ak)) (pv 3)) rfl) (ah (fK (pv 0) (dj ve (cI (aa vd ak)) (aZ (aZ (pv 0) rfl) rfl)) rfl) (ah (fK (pv 0) (oQ (own:=[("net",4)]) rfl px.nd (rK rfl T.b.range (aa (dj gO (cb T.Bf) aN) ak)) (eG (by kernel_rfl)) (fun _ _ _ _ _=>cQ (i:=4) px.nd rfl (bj rfl)) (fun _ _ _ _ _=>jz) (fun _ _ _ _ _=>(cI ak))) rfl) (ah (fK (pv 0) (dj ve (cI (aa lr ak)) (dj gO (cb T.Bf) aN)) rfl) (ah (fK (pv 0) (dj ve (cI (aa aN ak)) (dj gO (cb T.Bf) aN)) rfl) (ah (fK (pv 0) (dj ve (cI (aa aN ak)) (aZ (aZ (pv 0) rfl) rfl)) rfl) (ay (fK (pv 0) (dj ve (cI (aa aN ak)) (aZ (aZ (pv 0) rfl) rfl)) rfl)))))))))))),?_⟩;refine abr ?_;intro abf u_9 u_8 u_7 Vr Og GN uH oO lG;refine⟨_,rfl,_,rfl,_,rfl,fun x xd hx hxd oR=>⟨x,xd,⟨wd,ht,ly⟩,rfl,gb,aq,fun H1 hgX kp=>⟨rfl,?_⟩⟩⟩;have s1:aQ H H1:=aQ.made hx hxd kp;have XC:=s1 _ _ ha;have hgx:=hgX xs fun b hb=>by obtain⟨o,e⟩:=YF b hb;exact⟨o,by rw[aj (aE e hx),aj (aE e hxd)];exact e⟩
  have hg:=hgx.same Sj;have aaa:a∉xs:=fun q=>by obtain⟨o,e⟩:=YF a q;rw[ha]at e;cases e
  have hgo:=hgx.abC (EM XC aaa) hf6;obtain⟨gx,nr,si,_⟩:=hg.ex;have hxa:x≠a:=fY (aE ha hx);refine⟨_,rfl,a,_,dx,_,rfl,XC,T.bC,T.fS,jq Tv,?_⟩;refine⟨_,rfl,a,_,dx,_,rfl,aq,T.bC,T.SY,jq (eK Tv),?_⟩;refine⟨_,rfl,a,_,dx,_,rfl,aq,T.bC,T.Ju,jq (eK (eK Tv)),?_⟩;refine⟨_,rfl,a,_,dx,_,rfl,aq,T.bC,T.BD,jq (eK (eK (eK Tv))),?_⟩;simp only[vR];generalize hF1:d9 "penalty" (V.int 8) (d9 "wrong" (V.int 2) (d9 "via" (V.int 4) (d9 "grid" (V.ref x) fs)))=f1;have l1:f1.length<=15:=by rw[<-hF1];exact eK (eK (eK (eK Tv)))
  have g1:f1.lookup ("grid":Str)=some (.ref x):=by rw[<-hF1];exact zV (zV (zV ZY))
  have b1:Bn H1 a (upd H1 a (.ins c.bO dx f1)) []:=⟨Mv.put (by simp),List.nodup_nil,by simp,by simp,by simp⟩;have a1:upd H1 a (.ins c.bO dx f1) a=some (.ins c.bO dx f1):=aq;generalize upd H1 a (.ins c.bO dx f1)=H2 at b1 a1⊢;have gp:∀{H':Hp}{L:ab Addr},Bn H1 a H' L->H' x=some (.ins c.d5 gx (iN ⟨wd,ht,ly⟩ nr)):=fun b=>b.mv.kp _ _ si (by simpa using hxa);refine⟨(by show 1<=sizeLine;decide),fun q1 vp=>⟨_,rfl,q1,_,_,rfl,rfl,aq,by omega,by omega,(by rw[cn,bS];omega),fun di hdi=>?_⟩⟩;rw[aJ,AU];obtain⟨t1,t2,t3,t4⟩:=GV (o2:=.lst (rm ly fun _=>V.int 0)) a1 vp hdi;refine⟨_,rfl,a,_,dx,_,rfl,t1,T.bC,T.tE,jq l1,?_⟩;generalize hF2:d9 "directions" (V.ref di) f1=f2;have l2:f2.length<=16:=by rw[<-hF2];exact eK l1
  have g2:f2.lookup ("grid":Str)=some (.ref x):=by rw[<-hF2];exact zV g1
  obtain⟨t5,a2,e2⟩:=t4 f2;have b2:=b1.add t5 t3 t2 e2;clear t1 t2 t3 t4 hdi vp;generalize upd (upd (upd H2 q1 _) di _) a _=H3 at t5 a2 e2 b2⊢;refine⟨(by show 1<=sizeLine;decide),fun q1 vp=>?_⟩;have u1:aQ H3 (upd H3 q1 (.lst [.bl false])):=aQ.new vp;refine⟨_,rfl,_,_,_,_,_,rfl,u1 _ _ a2,T.bC,T.fS,g2,_,_,_,_,_,rfl,u1 _ _ (gp b2),T.gC,T.pR,qy,q1,_,_,rfl,rfl,aq,by omega,by omega,(by rw[cn,bS];omega),fun bl YV=>?_⟩;rw[aJ,AU];obtain⟨t1,t2,t3,t4⟩:=GV (o2:=.lst (rm (iZ ⟨wd,ht,ly⟩) fun _=>V.bl false)) a2 vp YV;refine⟨_,rfl,a,_,dx,_,rfl,t1,T.bC,T.wz,jq l2,?_⟩;generalize hF3:d9 "blocked" (V.ref bl) f2=f3;have l3:f3.length<=17:=by rw[<-hF3];exact eK l2
  have g3:f3.lookup ("grid":Str)=some (.ref x):=by rw[<-hF3];exact zV g2
  obtain⟨t6,a3,e3⟩:=t4 f3;have b3:=b2.add t6 t3 t2 e3;have k2:=t6.kp _ _ e2 (fun z=>b2.na (by rw[bU]at z;rw[<-z];simp));clear t1 t2 t3 t4 YV vp u1;generalize upd (upd (upd H3 q1 _) bl _) a _=H4 at t6 a3 e3 b3 k2⊢;refine⟨_,_,rfl,rfl,_,rfl,by decide,by decide,fun pi F_=>?_⟩;have ab5:pi≠a:=fY (aE a3 F_);refine zW (lo:=0) (n:=((32:Int)+1-0).toNat) (fun i H'=>aQ H4 H'/\∃lX:ab Addr,H' pi=some (.lst (lX.map V.ref))/\lX.length=i/\(∀l∈lX,H' l=some (.lst []))/\Bn H1 a H' ([di,bl,pi]++lX)) ⟨aQ.new F_,[],aq,rfl,by simp,?_⟩ ?_ ?_;·exact b3.add (Mv.same (aQ.new F_)) F_ ab5 aq
  ·rintro i H' hi ⟨s5,lX,e5,YQ,hz5,b5⟩;refine⟨rfl,Mg ⟨cH _,fun q hq=>?_⟩⟩;have u5:aQ H' (upd H' q (.lst [])):=aQ.new hq;have hqp:q≠pi:=fY (aE e5 hq);have hqa:q≠a:=fY (aE (s5 _ _ a3) hq);refine⟨_,u5 _ _ e5,(by rw[ae,YQ,bS];have:((32:Int)+1-0).toNat=33:=rfl;omega),aQ.put (s5.trans u5) F_,lX++[q],?_,by simp[YQ],fun l hl=>?_,?_⟩;·rw[aq,cz];rfl
   ·have hlp:l≠pi:=fun z=>by
     rcases a_.mp hl with y|y;·have:=hz5 l y;have nd:=b5.nd;rw[z]at y;simp at nd;exact nd.2.2.1 y
     ·rw[bU]at y;exact hqp (y.symm.trans z)
    rw[aj hlp];rcases a_.mp hl with y|y;·exact u5 _ _ (hz5 l y)
    ·rw[bU]at y;rw[y,aq]
   ·have b6:Bn H1 a (upd H' q (.lst [])) (([di,bl,pi]++lX)++[q]):=b5.add (Mv.same u5) hq hqa aq;rw[gk]at b6;refine⟨?_,b6.nd,b6.na,b6.nw,fun z hz=>?_⟩;·refine⟨fun z o e hz=>?_,fun z hz=>.inl hz⟩;rw[aj (aE e (b6.nw pi (by simp)))];exact b6.mv.kp z o e hz
    ·by_cases hzp:z=pi;·rw[hzp,aq];exact⟨_,rfl⟩
     ·rw[aj hzp];exact b6.dm z hz
  ·rintro H5 ⟨s5,lX,e5,YQ,hz5,b5⟩;have YQ:lX.length=33:=YQ;have a5:=s5 _ _ a3;refine⟨_,rfl,a,_,dx,_,rfl,a5,T.bC,T.nH,jq l3,?_⟩;generalize hF4:d9 "pins" (V.ref pi) f3=f4;have l4:f4.length<=18:=by rw[<-hF4];exact eK l3
   have g4:f4.lookup ("grid":Str)=some (.ref x):=by rw[<-hF4];exact zV g3
   have t7:Mv [a] H5 [a] (upd H5 a (.ins c.bO dx f4)):=Mv.put (by simp);have b6:=b5.keep t7;have a6:upd H5 a (.ins c.bO dx f4) a=some (.ins c.bO dx f4):=aq;have nm:∀{L:ab Addr}{H':Hp}{z:Addr},Bn H1 a H' L->z∈L->z∉[a]:=fun b hz q=>b.na (by rw[bU]at q;rw[<-q];exact hz);have k2':=t7.kp _ _ (s5 _ _ k2) (nm b5 (by simp));have k3':=t7.kp _ _ (s5 _ _ e3) (nm b5 (by simp));have k5:=t7.kp _ _ e5 (nm b5 (by simp));have kz:=fun l(hl:l∈lX)=>t7.kp _ _ (hz5 l hl) (nm b5 (by simp[hl]));generalize upd H5 a (.ins c.bO dx f4)=H6 at t7 b6 a6 k2' k3' k5 kz⊢;refine⟨(by show 1<=sizeLine;decide),fun q1 vp=>⟨_,_,rfl,rfl,q1,_,_,rfl,rfl,aq,by decide,by decide,(by rw[cn];decide),fun wa hwa=>?_⟩⟩;rw[AU];obtain⟨t1,t2,t3,t4⟩:=GV (o2:=.lst (rm ((32:Int)+1).toNat fun _=>V.iG)) a6 vp hwa;refine⟨_,rfl,a,_,dx,_,rfl,t1,T.bC,T.pU,jq l4,?_⟩;generalize hF5:d9 "ways" (V.ref wa) f4=f5;have l5:f5.length<=19:=by rw[<-hF5];exact eK l4
   have g5:f5.lookup ("grid":Str)=some (.ref x):=by rw[<-hF5];exact zV g4
   obtain⟨t8,a7,e7⟩:=t4 f5;have b7:=b6.add t8 t3 t2 e7;clear t1 t2 t3 t4 hwa vp;generalize upd (upd (upd H6 q1 _) wa _) a _=H7 at t8 a7 e7 b7⊢;refine⟨(by show 1<=sizeLine;decide),fun q1 vp=>⟨_,_,rfl,rfl,q1,_,_,rfl,rfl,aq,by decide,by decide,(by rw[cn];decide),fun ri hri=>?_⟩⟩;rw[AU];obtain⟨t1,t2,t3,t4⟩:=GV (o2:=.lst (rm ((32:Int)+1).toNat fun _=>V.int 0)) a7 vp hri;refine⟨_,rfl,a,_,dx,_,rfl,t1,T.bC,T.yy,jq l5,?_⟩;generalize hF6:d9 "rips" (V.ref ri) f5=f6;have l6:f6.length<=20:=by rw[<-hF6];exact eK l5
   have g6:f6.lookup ("grid":Str)=some (.ref x):=by rw[<-hF6];exact zV g5
   obtain⟨t9,a8,e8⟩:=t4 f6;have b8:=b7.add t9 t3 t2 e8;clear t1 t2 t3 t4 hri vp;generalize upd (upd (upd H7 q1 _) ri _) a _=H8 at t9 a8 e8 b8⊢;refine⟨(by show 1<=sizeLine;decide),fun q1 vp=>?_⟩;have u1:aQ H8 (upd H8 q1 (.lst [.int 0])):=aQ.new vp;refine⟨_,rfl,_,_,_,_,_,rfl,u1 _ _ a8,T.bC,T.fS,g6,_,_,_,_,_,rfl,u1 _ _ (gp b8),T.gC,T.pR,qy,q1,_,_,rfl,rfl,aq,by omega,by omega,(by rw[cn,bS];omega),fun pn Tr=>?_⟩;rw[aJ,AU];obtain⟨t1,t2,t3,t4⟩:=GV (o2:=.lst (rm (iZ ⟨wd,ht,ly⟩) fun _=>V.int 0)) a8 vp Tr;refine⟨_,rfl,a,_,dx,_,rfl,t1,T.bC,T.j7,jq l6,?_⟩;generalize hF7:d9 "pin_nets" (V.ref pn) f6=f7;have l7:f7.length<=21:=by rw[<-hF7];exact eK l6
   have g7:f7.lookup ("grid":Str)=some (.ref x):=by rw[<-hF7];exact zV g6
   obtain⟨Ib,a9,e9⟩:=t4 f7;have b9:=b8.add Ib t3 t2 e9;clear t1 t2 t3 t4 Tr vp u1;generalize upd (upd (upd H8 q1 _) pn _) a _=H9 at Ib a9 e9 b9⊢;refine⟨(by show 1<=sizeLine;decide),fun q1 vp=>?_⟩;have u1:aQ H9 (upd H9 q1 (.lst [.int 0])):=aQ.new vp;refine⟨_,rfl,_,_,_,_,_,rfl,u1 _ _ a9,T.bC,T.fS,g7,_,_,_,_,_,rfl,u1 _ _ (gp b9),T.gC,T.pR,qy,q1,_,_,rfl,rfl,aq,by omega,by omega,(by rw[cn,bS];omega),fun tk htk=>?_⟩;rw[aJ,AU];obtain⟨t1,t2,t3,t4⟩:=GV (o2:=.lst (rm (iZ ⟨wd,ht,ly⟩) fun _=>V.int 0)) a9 vp htk;refine⟨_,rfl,a,_,dx,_,rfl,t1,T.bC,T.j6,jq l7,?_⟩;obtain⟨JT,a10,e10⟩:=t4 (d9 "takers" (V.ref tk) f7);have Y6:=b9.add JT t3 t2 e10;clear t1 t2 t3 t4 htk vp u1;have hB:d9 "takers" (V.ref tk) f7=bW ⟨a,dx,x,di,bl,pi,wa,ri,pn,tk,lX,xs⟩ (mP wd ht ly):=by
    rw[<-hF7,<-hF6,<-hF5,<-hF4,<-hF3,<-hF2,<-hF1];rcases hfs with rfl|⟨B,s,rfl⟩;·exact MO
    ·exact MN
   rw[hB]at a10 e10 Y6 JT⊢;generalize upd (upd (upd H9 q1 _) tk _) a _=HE at JT a10 e10 Y6⊢;have m69:Mv [a] H6 [a] HE:=((t8.trans t9).trans Ib).trans JT;have ee:∀{z:Addr}{o:HO},H6 z=some o->z∈[di,bl,pi]++lX->HE z=some o:=fun e hz=>m69.kp _ _ e (nm b6 hz);have R9:(BA.M ⟨a,dx,x,di,bl,pi,wa,ri,pn,tk,lX,xs⟩).Perm (a::([di,bl,pi]++lX++[wa]++[ri]++[pn]++[tk])):=by show(a::di::bl::pi::wa::ri::pn::tk::lX).Perm _;refine uh _ ?_;simp only[gk,Dt,vP];refine uh _ (uh _ (uh _ ?_));exact(List.perm_append_comm (l₁:=[wa,ri,pn,tk]) (l₂:=lX))
   have ZV:Mv [a] H1 (BA.M ⟨a,dx,x,di,bl,pi,wa,ri,pn,tk,lX,xs⟩) HE:=by
    refine⟨Y6.mv.kp,fun z hz=>?_⟩;rcases aF.mp (R9.mem_iff.mp hz)with y|y;·exact .inl (by simp[y])
    ·exact .inr (Y6.nw z y)
   have good:=yo hw hh hl;have ab7:aQ (off [a] (Tu xs H1)) (off (BA.N ⟨a,dx,x,di,bl,pi,wa,ri,pn,tk,lX,xs⟩) HE):=fun b o e=>by
    obtain⟨e1,e2⟩:=nD e;obtain⟨e3,e4⟩:=Sk e2;refine eZ (ZV.kp b o e4 e1) fun q=>?_;rcases a_.mp q with q|q
    ·rcases ZV.mem b q with z|z;·exact e1 z
     ·rw[e4]at z;cases z
    ·exact e3 q
   refine k HE ⟨a,dx,x,di,bl,pi,wa,ri,pn,tk,lX,xs⟩ ?_ ⟨rfl,rfl⟩ ((Mv.same s1).trans ZV);refine⟨good.1,a10,hgo.same ab7,?_,?_,ee k5 (by simp),YQ,fun m h1 h2=>?_,⟨rm 33 fun _=>V.iG,?_,by rw[jY],fun m h1 h2=>⟨V.iG,lJ (by omega),?_⟩⟩,?_,?_,?_,?_,?_,fun m h1 h2 ws e=>?_,fun b hb=>?_⟩;·show HE di=some (.lst (d8 (cO ly 0)));rw[ee k2' (by simp),Ua]
   ·show HE bl=_;rw[ee k3' (by simp)];congr 2
   ·have hm:m<lX.length:=by omega
    refine⟨lX[m],aO hm,[],?_,?_,by simp⟩;·rw[wj];rfl
    ·rw[ee (kz _ (ua hm)) (by simp)];rfl
   ·show HE wa=_;exact((t9.trans Ib).trans JT).kp _ _ e7 (nm b7 (by simp))
   ·rw[wj];rfl
   ·show HE ri=_;rw[(Ib.trans JT).kp _ _ e8 (nm b8 (by simp))];congr 2
   ·show HE pn=_;rw[JT.kp _ _ e9 (nm b9 (by simp))];congr 2;exact nW fun v _=>(Hr rfl).symm
   ·show HE tk=_;rw[e10];congr 2;exact nW fun v _=>(Hr rfl).symm
   ·exact R9.nodup_iff.mpr (bQ.mpr ⟨Y6.na,Y6.nd⟩)
   ·have hm:0<lX.length:=by omega
    exact⟨lX[0],[],aO hm,ee (kz _ (ua hm)) (by simp),rfl⟩
   ·rw[wj]at e;cases e
   ·obtain⟨o,e⟩:=YF b hb;have hba:b≠a:=fun q=>aaa (q▸hb);refine⟨⟨_,ZV.kp b _ (s1 _ _ e) (by simpa using hba)⟩,fun q=>?_⟩;rcases ZV.mem b q with z|z;·exact hba (by simpa using z)
    ·rw[s1 _ _ e]at z;cases z
inductive JH(c:Cs)(vs:ab V)(H:Hp)(Q:VK):Prop
 |mk (a dx:Addr) (q0:vs=[.ref a]) (q1:H a=some (.ins c.bO dx [])) (q2:∀H' B',bh c H' B' Vbpcah.start->(B'.ob=a/\B'.xs=[])->Mv [a] H B'.M H'->Q .iG H')
def B0(c:Cs):Sp:=fun vs H Q _=>JH c vs H Q
abbrev ny:Stmt:=inClass (top 15) 0
theorem zF:bx ["self"] ["self"] (aU ny):={}
theorem FX(F:gY K "__init__" "Board.__init__" ny f fd)(T:Txt K mg c)(jJ:bq P w K mg base c.bO "renew" n ["self","columns","rows","layers"] (Ic c)):cZ P w K mg base gZ (n+1) f fd ["self"] (B0 c):=by
 refine F.ok zF (fun vs H Q E h=>?_) (fun fR A outer s H vs Q E hr h=>?_);·obtain⟨a,dx,rfl,_⟩:=h;rfl
 ·obtain⟨a,dx,rfl,ha,k⟩:=h;refine⟨_,(ay (da (bR (pv 0) jJ hr (aa aN (aa aN (aa aN ak)))))),?_⟩;exact⟨_,rfl,a,dx,_,rfl,ha,rfl,a,dx,[],8,8,2,[],rfl,ha,.inl rfl,by decide,by decide,by decide,by simp,fun H' B' h1 h2 h3=>k H' B' h1 h2 h3⟩
end
end Nw
namespace Nw
open PySem PySem.Spec PyProof.Rows L2
theorem XS:Lv g f=rm g.size fun v=>V.int (f v):=rfl
theorem O8:(Lv g f).length=g.size:=by unfold Lv;simp
theorem U5{a m:Nat}{lo hi:Int}(e1:lo=(a:Int))(e2:hi=((a+m:Nat):Int))(h:a+m<=g.size):wV (Lv g f) (some lo) (some hi)=rm m fun j=>V.int (f (a+j)):=by
 subst e1 e2;unfold wV;rw[HT.C_,HT.C_,O8,p7 h,p7 (show a<=g.size by omega),show a+m-a=m by omega];apply m8;intro i;by_cases hi:i<m;·rw[List.getElem?_take_of_lt hi,lZ,Jk (by omega),lJ hi]
 ·rw[dI (by rw[cS];omega),dI (by rw[jY];omega)]
theorem RD:rm (a+b) f=rm a f++rm b fun j=>f (a+j):=by unfold rm;rw[List.range_add,cz,c_];rfl
theorem OD:∀{l:Nat},(cO l (rm a f)).flatten=rm (a*l) fun v=>f (v%a)
 |0=>rfl
 |l+1=>by rw[List.replicate_succ',p_,OD,C5,RD];congr 1;simp only[ke,List.flatten_nil,dO];refine nW fun v hv=>?_;rw[GJ,uf hv]
theorem Ro(G:GB g)(hp:p<g.w*g.h):BV (Lv g f) p (g.w*g.h) g.l=((g.column p).map f).map V.int:=by
 unfold BV;rw[Bu G.ok hp,c_,c_];have:∀l:ab Nat,(∀k∈l,k<g.l)->(l.map fun k=>p+g.w*g.h*k).filterMap ((Lv g f)[·]?)=l.map ((V.int∘f)∘fun k=>p+k*(g.w*g.h)):=by
  intro l;induction l with
  |nil=>intro _;rfl
  |cons k l ih=>
   intro h;have hk:=h k (by simp);have jQ:p+g.w*g.h*k<g.size:=by unfold iZ;have:g.w*g.h*(k+1)<=g.w*g.h*g.l:=qc _ hk;rw[C5]at this;omega
   rw[cx,gm,Jk jQ,cx,ih fun x hx=>h x (by simp[hx])];simp only[FC];rw[d7 (g.w*g.h) k]
 exact this _ fun k hk=>dr.mp hk
section
variable{P:bT}{w:cU}{K:ag}{mg:Str->aY aA}{base:Heap}{c:Cs}{n:Nat}
inductive S7(c:Cs)(vs:ab V)(H:Hp)(Q:VK):Prop
 |mk (B:BA) (s:Bd) (xl:Addr) (use:Nat->Bool) (ex:Nat->Nat) (k:Nat) (q0:vs=[.ref B.ob,.ref xl,vi k]) (q1:bh c H B s) (q2:H xl=some (.lst (Lv s.g (ext use ex)))) (q3:k≠0) (q4:∀(H':Hp)(l:Addr),aQ H H'->H' l=some (.lst (Lv s.g (en s use ex k)))->Q (.ref l) H')
def Oo(c:Cs):Sp:=fun vs H Q _=>S7 c vs H Q
abbrev l9:Stmt:=top 8
theorem fD:bx ["board","extra","axis","area","costs","start","step","more"] ["board","extra","axis"] (aU l9):={}
theorem yc(F:gY K "steps_on_layers" "steps_on_layers" l9 f fd)(T:Txt K mg c)(eA:bq P w K mg base c.bO "step_cost" n ["self","kind","cell"] (sE c)):cZ P w K mg base gZ (n+1) f fd ["board","extra","axis"] (Oo c):=by
 refine F.ok fD (fun vs H Q E h=>?_) (fun fR A outer s H vs Q E hr h=>?_);·obtain⟨B,s,xl,use,ex,k,rfl,_⟩:=h;rfl
 ·obtain⟨B,s,xl,use,ex,ax,rfl,hB,hx,hax,k⟩:=h;obtain⟨gx,nr,si,_⟩:=hB.d5.ex;have G:=hB.gb;have Ss:=G.pV;have US:=G.qD;have hsz:=G.size_le;have hl4:=G.l;have hse:s.g.size=s.g.w*s.g.h*s.g.l:=rfl;refine⟨_,(ah (cE (i:=3) fD.nd rfl (bj rfl) (aZ (aZ (pv 0) rfl) rfl)) (ah (cE (i:=4) fD.nd rfl (bj rfl) (cI ak)) (ah (gN bJ rfl (PX rfl T.b.range (aa aN (aa (aZ (aZ (pv 0) rfl) rfl) (aa (pv 3) ak)))) (cQ (i:=5) fD.nd rfl (bj rfl)) (ah (cE (i:=6) fD.nd rfl (Fy rfl) (bR (pv 0) eA hr (aa (pv 2) (aa (pv 5) ak)))) (ay (da (AZ (pv 4) (aa (oQ (own:=[("more",7)]) rfl fD.nd (dP (nY qk (pv 1) (mr (pv 5)) (mr (dj gO (pv 5) (pv 3))))) (eG (by kernel_rfl)) (fun _ _ _ _ _=>cQ (i:=7) fD.nd rfl (bj rfl)) (fun _ _ _ _ _=>jz) (fun _ _ _ _ _=>(dj gO (pv 6) (pv 7)))) ak)))))) (ay (aX (pv 4)))))),?_⟩;refine MC ?_;intro uH oO lG;refine⟨_,rfl,_,_,_,_,_,rfl,hB.at_,T.bC,T.fS,fw,_,_,_,_,_,rfl,si,T.gC,T.oB,tm,?_⟩;refine⟨cH _,fun cl EO=>?_⟩;have s1:aQ H (upd H cl (.lst [])):=aQ.new EO;refine⟨_,rfl,_,_,_,_,_,rfl,s1 _ _ hB.at_,T.bC,T.fS,fw,_,_,_,_,_,rfl,s1 _ _ si,T.gC,T.pR,qy,_,rfl,_,_,_,s.g.l,rfl,⟨by omega,by omega,qp (by omega) (by omega) (by omega) (by omega) (by omega) (by omega),Eb G (v:=0) Ss⟩,?_⟩;let adb:Nat->L2.St->Hp->Prop:=fun i σ H'=>∃x5 x6 x7,σ=[some (.ref B.ob),some (.ref xl),some (vi ax),some (vi (s.g.w*s.g.h)),some (.ref cl),x5,x6,x7]/\aQ H H'/\H' cl=some (.lst (rm (s.g.w*s.g.h*i) fun v=>V.int (en s use ex ax v)));refine NB (lo:=0) (c:=((s.g.w*s.g.h:Nat):Int)) (n:=s.g.l) adb ⟨none,none,none,rfl,s1,aq⟩ ?_ ?_
  ·rintro i σ H1 hi ⟨x5,x6,x7,rfl,s2,e2⟩;have hib:s.g.w*s.g.h*(i+1)<=s.g.size:=qc _ hi;rw[C5]at hib;have fu:=hB.same s2;have ei:(0:Int)+(i:Nat)*((s.g.w*s.g.h:Nat):Int)=((s.g.w*s.g.h*i:Nat):Int):=by rw[qh,<-wF,d7]
   rw[ei];refine⟨_,rfl,_,_,_,rfl,fu.at_,tw,_,rfl,_,rfl,B,s,ax,s.g.w*s.g.h*i,rfl,fu,(by omega),fun H2 s3=>?_⟩;rw[ao hax,show s.g.layer (s.g.w*s.g.h*i)=i by have:=K7 (g:=s.g) (k:=i) (p:=0) Ss;rw[Nat.zero_add,d7]at this;exact this];refine⟨_,rfl,.inl ⟨rfl,_,cN.of (s3 _ _ e2)⟩,?_⟩;refine⟨_,rfl,_,rfl,_,rfl,_,rfl,_,rfl,_,_,rfl,rfl,_,rfl,xl,_,rfl,cN.of (s3 _ _ (s2 _ _ hx)),fun p hp=>?_⟩;rw[U5 (a:=s.g.w*s.g.h*i) (m:=s.g.w*s.g.h) rfl (by omega) hib];have u1:aQ H2 (upd H2 p (.lst (rm (s.g.w*s.g.h) fun j=>V.int (ext use ex (s.g.w*s.g.h*i+j))))):=aQ.new hp;have ep:upd H2 p (.lst (rm (s.g.w*s.g.h) fun j=>V.int (ext use ex (s.g.w*s.g.h*i+j)))) p=some (.lst (rm (s.g.w*s.g.h) fun j=>V.int (ext use ex (s.g.w*s.g.h*i+j)))):=aq;generalize upd H2 p (.lst (rm (s.g.w*s.g.h) fun j=>V.int (ext use ex (s.g.w*s.g.h*i+j))))=H3 at u1 ep⊢;refine⟨p,rfl,⟨_,cN.of ep⟩,fun D hD=>?_⟩;refine sZ (K:=K) (a:=p) (xs:=rm (s.g.w*s.g.h) fun j=>V.int (ext use ex (s.g.w*s.g.h*i+j))) (fun x=>match x with| .int z=>.int ((qZ s ax i:Int)+z)|_=>.iG) hD (cN.of ep) (fun _=>by rfl) (by rw[jY];omega) (fun x H' Q' hxm s4 kk=>?_) fun H4 s4 e4=>?_;·obtain⟨j,_,rfl⟩:=bB.mp hxm;exact⟨_,rfl,_,rfl,_,_,rfl,rfl,kk H' fun _ _ e=>e⟩
   have T8:aQ H1 H4:=(s3.trans u1).trans s4;refine⟨cl,D,_,_,rfl,rfl,T8 _ _ e2,e4,?_,_,_,_,rfl,?_,?_⟩;·rw[jY,ae,jY,bS];omega
   ·exact aQ.put (s2.trans T8) EO
   ·rw[aq,C5,RD];congr 3;unfold rm;rw[c_];apply eC;intro j hj;have hj:=dr.mp hj;show V.int _=V.int _;unfold en U1;rw[ao hax,show s.g.layer (s.g.w*s.g.h*i+j)=i by have:=K7 (g:=s.g) (k:=i) (p:=j) hj;rw[vO,d7]at this;exact this]
  ·rintro σ H1 ⟨x5,x6,x7,rfl,s2,e2⟩;exact⟨_,rfl,k H1 cl s2 e2⟩
inductive NY(c:Cs)(vs:ab V)(H:Hp)(Q:VK):Prop
 |mk (B:BA) (s:Bd) (xl:Addr) (use:Nat->Bool) (ex:Nat->Nat) (q0:vs=[.ref B.ob,.ref xl]) (q1:bh c H B s) (q2:H xl=some (.lst (Lv s.g (ext use ex)))) (q3:∀(H':Hp)(l:Addr),aQ H H'->H' l=some (.lst (Lv s.g (en s use ex 0)))->Q (.ref l) H')
def GY(c:Cs):Sp:=fun vs H Q _=>NY c vs H Q
abbrev om:Stmt:=top 9
theorem ki:bx ["board","extra","area","costs","place"] ["board","extra"] (aU om):={}
theorem A9(F:gY K "layer_changes" "layer_changes" om f fd)(T:Txt K mg c)(eA:bq P w K mg base c.bO "step_cost" n ["self","kind","cell"] (sE c)):cZ P w K mg base gZ (n+1) f fd ["board","extra"] (GY c):=by
 refine F.ok ki (fun vs H Q E h=>?_) (fun fR A outer s H vs Q E hr h=>?_);·obtain⟨B,s,xl,use,ex,rfl,_⟩:=h;rfl
 ·obtain⟨B,s,xl,use,ex,rfl,hB,hx,k⟩:=h;obtain⟨gx,nr,si,_⟩:=hB.d5.ex;have G:=hB.gb;have Ss:=G.pV;have US:=G.qD;have hsz:=G.size_le;have hl4:=G.l;have has:=G.HD;have hse:s.g.size=s.g.w*s.g.h*s.g.l:=rfl;refine⟨_,(ah (cE (i:=2) ki.nd rfl (Fy rfl) (aZ (aZ (pv 0) rfl) rfl)) (ah (pH (i:=3) (own:=[("place",4)]) rfl ki.nd rfl rfl (sD rfl rfl rfl rfl) (rK rfl T.b.range (aa (pv 2) ak)) (eG (by kernel_rfl)) (fun _ _ _ _ _=>cQ (i:=4) ki.nd rfl (bj rfl)) (fun _ _ _ _ _=>jz) (fun _ _ _ _ _=>(dj gO (bR (pv 0) eA hr (aa (cb T.nE) (aa (pv 4) ak))) (dM (U6 K rfl) rfl T.b.sum SS (aa (MU K (pv 1) (pv 4) (pv 2)) ak))))) (ay (aX (dj ve (pv 3) (aZ (aZ (pv 0) rfl) rfl)))))),?_⟩;refine MD ?_;intro oO lG;refine⟨_,rfl,_,_,_,_,_,rfl,hB.at_,T.bC,T.fS,fw,_,_,_,_,_,rfl,si,T.gC,T.oB,tm,?_⟩;refine⟨_,rfl,_,rfl,by omega,by omega,fun D hD=>?_⟩;refine Je (lo:=0) (n:=((s.g.w*s.g.h:Nat):Int).toNat) (fun v=>V.int (Lw s use ex v)) hD (fun _=>by rfl) (by omega) (fun i H' Q' hi s1 kk=>?_) fun H1 s1 e1=>?_
  ·have hi:i<s.g.w*s.g.h:=by omega
   have fu:=hB.same s1;rw[show(0:Int)+(i:Nat)=(i:Int)from qh _];refine⟨_,rfl,_,_,_,rfl,fu.at_,tw,_,rfl,B,s,0,i,rfl,fu,(by omega),fun H2 s2=>?_⟩;rw[aw rfl];refine⟨_,rfl,_,rfl,_,rfl,xl,_,i,s.g.w*s.g.h,s.g.l,rfl,rfl,rfl,cN.of (s2 _ _ (s1 _ _ hx)),Ss,hi,O8,fun q hq=>?_⟩;rw[Ro G hi];refine⟨q,(s.g.column i).map (ext use ex),rfl,cN.of aq,_,_,rfl,rfl,?_⟩;exact kk _ (s2.trans (aQ.new hq))
  have fu:=hB.same s1;rw[aJ]at e1;refine⟨_,rfl,_,rfl,_,_,_,_,_,rfl,fu.at_,T.bC,T.fS,fw,_,_,_,_,_,rfl,s1 _ _ si,T.gC,T.rT,rS,D,_,_,rfl,rfl,e1,by omega,by omega,?_,fun q hq=>?_⟩;·rw[jY,aJ,bS];have:s.g.w*s.g.h*s.g.l=s.g.size:=rfl;omega
  ·refine k _ q (s1.trans (aQ.new hq)) ?_;rw[aq,aJ,OD,XS];congr 2;refine nW fun v _=>?_;unfold en Lw;rw[aw rfl,vV,tV G.ok]
inductive Gm(c:Cs)(vs:ab V)(H:Hp)(Q:VK):Prop
 |mk (a dx:Addr) (H0:Hp) (B:BA) (s:Bd) (xl:Addr) (use:Nat->Bool) (ex:Nat->Nat) (q0:vs=[.ref a,.ref B.ob,.ref xl]) (q1:H a=some (.ins c.ground dx [])) (q2:H0 a=none) (q3:aQ H0 H) (q4:bh c H0 B s) (q5:H0 xl=some (.lst (Lv s.g (ext use ex)))) (q6:∀(H':Hp),aQ H0 H'->fT c H' a s.g (en s use ex)->Q .iG H')
def sH(c:Cs):Sp:=fun vs H Q _=>Gm c vs H Q
theorem ZA:d9 "enter" (.ref et) (d9 "grid" (.ref gr) [])=mB gr et:=by kernel_rfl
abbrev ma:Stmt:=inClass (top 7) 0
theorem xP:bx ["self","board","extra"] ["self","board","extra"] (aU ma):={}
theorem Eo(F:gY K "__init__" "Ground.__init__" ma f fd)(T:Txt K mg c)(oE:bP P w K mg base "layer_changes" n ["board","extra"] (GY c))(jR:bP P w K mg base "steps_on_layers" n ["board","extra","axis"] (Oo c)):cZ P w K mg base gZ (n+1) f fd ["self","board","extra"] (sH c):=by
 refine F.ok xP (fun vs H Q E h=>?_) (fun fR A outer s H vs Q E hr h=>?_);·obtain⟨a,dx,H0,B,s,xl,use,ex,rfl,_⟩:=h;rfl
 ·obtain⟨a,dx,H0,B,s,xl,use,ex,rfl,ha,h0,s0,hB,hx,k⟩:=h;refine⟨_,(ah (fK (pv 0) (aZ (pv 1) rfl) rfl) (ay (fK (pv 0) (lp (aa (cK oE hr (aa (pv 1) (aa (pv 2) ak))) (aa (cK jR hr (aa (pv 1) (aa (pv 2) (aa (cb T.v3) ak)))) (aa (cK jR hr (aa (pv 1) (aa (pv 2) (aa (cb T.vZ) ak)))) ak)))) rfl))),?_⟩;refine QW ?_;intro lG;refine⟨_,rfl,_,_,_,_,_,rfl,s0 _ _ hB.at_,T.bC,T.fS,fw,_,rfl,a,_,dx,_,rfl,ha,T.rC,T.Ec,jq (m:=0) (aD _),?_⟩;have s1:aQ H0 (upd H a (.ins c.ground dx (d9 "grid" (.ref B.gr) []))):=aQ.put s0 h0;have a1:upd H a (.ins c.ground dx (d9 "grid" (.ref B.gr) [])) a=some (.ins c.ground dx (d9 "grid" (.ref B.gr) [])):=aq;generalize upd H a (.ins c.ground dx (d9 "grid" (.ref B.gr) []))=H1 at s1 a1⊢;refine⟨_,rfl,_,rfl,B,s,xl,use,ex,rfl,hB.same s1,s1 _ _ hx,fun H2 e0 s2 h2=>?_⟩;have Dc:=s1.trans s2;refine⟨_,rfl,_,rfl,B,s,xl,use,ex,1,rfl,hB.same Dc,Dc _ _ hx,(by decide),fun H3 e1 s3 h3=>?_⟩;have CA:=Dc.trans s3;refine⟨_,rfl,_,rfl,B,s,xl,use,ex,2,rfl,hB.same CA,CA _ _ hx,(by decide),fun H4 e2 s4 h4=>?_⟩;have QX:=CA.trans s4;refine⟨(by show 3<=sizeLine;decide),fun t ht=>?_⟩;have s5:aQ H4 (upd H4 t (.tup [.ref e0,.ref e1,.ref e2])):=aQ.new ht;have et:upd H4 t (.tup [.ref e0,.ref e1,.ref e2]) t=some (.tup [.ref e0,.ref e1,.ref e2]):=aq;generalize upd H4 t (.tup [.ref e0,.ref e1,.ref e2])=H5 at s5 et⊢;have a5:=s5 _ _ (s4 _ _ (s3 _ _ (s2 _ _ a1)));refine⟨_,rfl,a,_,dx,_,rfl,a5,T.rC,T.IC,jq (eK (m:=0) (aD _)),?_⟩;rw[ZA];have kp:∀{b:Addr}{o:HO},H5 b=some o->(∀C d f,o≠.ins C d f)->upd H5 a (.ins c.ground dx (mB B.gr t)) b=some o:=fun{b o} e ho=>by
   rw[aj fun q=>?_];·exact e
   ·rw[q,a5]at e;exact ho _ _ _ (bE e).symm
  have s15:aQ H0 (upd H5 a (.ins c.ground dx (mB B.gr t))):=aQ.put (QX.trans s5) h0;exact k _ s15 ⟨dx,B.gr,t,e0,e1,e2,aq,hB.d5.same s15,kp et (by intro _ _ _ z;cases z),kp (s5 _ _ (s4 _ _ (s3 _ _ h2))) (by intro _ _ _ z;cases z),kp (s5 _ _ (s4 _ _ h3)) (by intro _ _ _ z;cases z),kp (s5 _ _ h4) (by intro _ _ _ z;cases z)⟩
abbrev vq(s:Bd)(n:Nat):Nat->Bool:=fun v=>(iu s n).getD v false
abbrev zy(s:Bd)(n:Nat):Nat->Bool:=fun v=>(iV s n).getD v false
abbrev Kl(s:Bd)(n:Nat):Nat->Nat:=fun v=>(lO s n).getD v 0
inductive Gn(c:Cs)(vs:ab V)(H:Hp)(Q:VK):Prop
 |mk (B:BA) (s:Bd) (n:Nat) (q0:vs=[.ref B.ob,vi n]) (q1:bh c H B s) (q2:∀(H':Hp)(gd:Addr),aQ H H'->fT c H' gd s.g (en s (vq s n) fun _=>0)->Q (.ref gd) H')
def sI(c:Cs):Sp:=fun vs H Q _=>Gn c vs H Q
abbrev qP:Stmt:=top 10
theorem pk:bx ["board","net","cell"] ["board","net"] (aU qP):={}
theorem El(F:gY K "firm_ground" "firm_ground" qP f fd)(T:Txt K mg c)(fA:bq P w K mg base c.bO "may_use" (n+1) ["self","net","cell"] (zt c))(r8:jN P w K mg base c.ground "Ground" n ["self","board","extra"] (sH c)):cZ P w K mg base gZ (n+2) f fd ["board","net"] (sI c):=by
 refine F.ok pk (fun vs H Q E h=>?_) (fun fR A outer s H vs Q E hr h=>?_);·obtain⟨B,s,n,rfl,_⟩:=h;rfl
 ·obtain⟨B,s,nt,rfl,hB,k⟩:=h;obtain⟨gx,nr,si,_⟩:=hB.d5.ex;have hsz:=hB.gb.size_le;refine⟨_,(ay (aX (vc r8 hr (aa (pv 0) (aa (oQ (own:=[("cell",2)]) rfl pk.nd (rK rfl T.b.range (aa (aZ (aZ (pv 0) rfl) rfl) ak)) (eG (by kernel_rfl)) (fun _ _ _ _ _=>cQ (i:=2) pk.nd rfl (bj rfl)) (fun _ _ _ _ _=>jz) (fun _ _ _ _ _=>(Eg (vU K (bR (pv 0) fA hr (aa (pv 1) (aa (pv 2) ak))) (fun _=>rfl)) aN (cb T.R0)))) ak))))),?_⟩;refine⟨_,rfl,_,rfl,_,_,_,_,_,rfl,hB.at_,T.bC,T.fS,fw,_,_,_,_,_,rfl,si,T.gC,T.pR,qy,_,rfl,by omega,by omega,fun D hD=>?_⟩;refine Je (lo:=0) (n:=((s.g.size:Nat):Int).toNat) (fun v=>V.int (ext (vq s nt) (fun _=>0) v)) hD (fun _=>by rfl) (by omega) (fun i H' Q' hi s1 kk=>?_) fun H1 s1 e1=>?_
  ·have hi:i<s.g.size:=by omega
   have fu:=hB.same s1;rw[show(0:Int)+(i:Nat)=(i:Int)from qh _];refine⟨_,rfl,_,_,_,rfl,fu.at_,yw,_,rfl,_,rfl,B,s,nt,i,rfl,fu,hi,fun H2 s2=>?_⟩;have kk:=kk H2 s2;unfold ext at kk;refine⟨_,rfl,?_⟩;cases hu:vq s nt i with
   |true=>rw[hu]at kk;exact bD (by simpa using hu) kk
   |false=>rw[hu]at kk;exact aI (fun z=>af (hu.symm.trans z)) kk
  have fu:=hB.same s1;rw[aJ]at e1;intro x dx hx hdx oR;have s2:aQ H1 (upd (upd H1 dx (.own x)) x (.ins c.ground dx [])):=aQ.put (aQ.new hdx) hx;exact⟨x,dx,H1,B,s,D,vq s nt,fun _=>0,rfl,aq,hx,s2,fu,e1,fun H' s3 hg=>⟨rfl,k H' x (s1.trans s3) hg⟩⟩
inductive JA(c:Cs)(vs:ab V)(H:Hp)(Q:VK):Prop
 |mk (B:BA) (s:Bd) (n v:Nat) (q0:vs=[.ref B.ob,vi n,vi v]) (q1:bh c H B s) (q2:v<s.g.size) (q3:∀H',aQ H H'->Q (.int (ext (zy s n) (Kl s n) v)) H')
def BW(c:Cs):Sp:=fun vs H Q _=>JA c vs H Q
abbrev sM:Stmt:=top 12
theorem FP:bx ["board","net","cell"] ["board","net","cell"] (aU sM):={}
theorem FR(F:gY K "soft_extra" "soft_extra" sM f fd)(T:Txt K mg c)(eN:bq P w K mg base c.bO "may_use_softly" n ["self","net","cell"] (pf c))(lD:bq P w K mg base c.bO "extra_cost" n ["self","net","cell"] (BZ c)):cZ P w K mg base gZ (n+1) f fd ["board","net","cell"] (BW c):=by
 refine F.ok FP (fun vs H Q E h=>?_) (fun fR A outer s H vs Q E hr h=>?_);·obtain⟨B,s,n,v,rfl,_⟩:=h;rfl
 ·obtain⟨B,s,nt,v,rfl,hB,hv,k⟩:=h;refine⟨_,(ah (cM (dQ (bR (pv 0) eN hr (aa (pv 1) (aa (pv 2) ak))) (fun _=>rfl)) (ay (aX (bR (pv 0) lD hr (aa (pv 1) (aa (pv 2) ak))))) br) (ay (aX (cb T.R0)))),?_⟩;refine QW ?_;intro lG;refine⟨_,rfl,_,_,_,rfl,hB.at_,qC,_,rfl,_,rfl,B,s,nt,v,rfl,hB,hv,fun H1 s1=>⟨_,rfl,?_⟩⟩;have fu:=hB.same s1;unfold ext at k;cases hu:zy s nt v with
  |true=>rw[hu]at k;refine bD (by simpa using hu) ⟨_,rfl,_,_,_,rfl,fu.at_,Ge,_,rfl,_,rfl,B,s,nt,v,rfl,fu,hv,fun H2 s2=>?_⟩;exact k H2 (s1.trans s2)
  |false=>rw[hu]at k;exact aI (fun z=>af (hu.symm.trans z)) (k H1 s1)
inductive Gh(c:Cs)(vs:ab V)(H:Hp)(Q:VK):Prop
 |mk (B:BA) (s:Bd) (n:Nat) (q0:vs=[.ref B.ob,vi n]) (q1:bh c H B s) (q2:∀(H':Hp)(gd:Addr),aQ H H'->fT c H' gd s.g (en s (zy s n) (Kl s n))->Q (.ref gd) H')
def zp(c:Cs):Sp:=fun vs H Q _=>Gh c vs H Q
abbrev qM:Stmt:=top 11
theorem pj:bx ["board","net","cell"] ["board","net"] (aU qM):={}
theorem Ei(F:gY K "soft_ground" "soft_ground" qM f fd)(T:Txt K mg c)(tG:bP P w K mg base "soft_extra" (n+1) ["board","net","cell"] (BW c))(r8:jN P w K mg base c.ground "Ground" n ["self","board","extra"] (sH c)):cZ P w K mg base gZ (n+2) f fd ["board","net"] (zp c):=by
 refine F.ok pj (fun vs H Q E h=>?_) (fun fR A outer s H vs Q E hr h=>?_);·obtain⟨B,s,n,rfl,_⟩:=h;rfl
 ·obtain⟨B,s,nt,rfl,hB,k⟩:=h;obtain⟨gx,nr,si,_⟩:=hB.d5.ex;have hsz:=hB.gb.size_le;refine⟨_,(ay (aX (vc r8 hr (aa (pv 0) (aa (oQ (own:=[("cell",2)]) rfl pj.nd (rK rfl T.b.range (aa (aZ (aZ (pv 0) rfl) rfl) ak)) (eG (by kernel_rfl)) (fun _ _ _ _ _=>cQ (i:=2) pj.nd rfl (bj rfl)) (fun _ _ _ _ _=>jz) (fun _ _ _ _ _=>(cK tG hr (aa (pv 0) (aa (pv 1) (aa (pv 2) ak)))))) ak))))),?_⟩;refine⟨_,rfl,_,rfl,_,_,_,_,_,rfl,hB.at_,T.bC,T.fS,fw,_,_,_,_,_,rfl,si,T.gC,T.pR,qy,_,rfl,by omega,by omega,fun D hD=>?_⟩;refine Je (lo:=0) (n:=((s.g.size:Nat):Int).toNat) (fun v=>V.int (ext (zy s nt) (Kl s nt) v)) hD (fun _=>by rfl) (by omega) (fun i H' Q' hi s1 kk=>?_) fun H1 s1 e1=>?_
  ·have hi:i<s.g.size:=by omega
   have fu:=hB.same s1;rw[show(0:Int)+(i:Nat)=(i:Int)from qh _];exact⟨_,rfl,_,rfl,_,rfl,B,s,nt,i,rfl,fu,hi,fun H2 s2=>kk H2 s2⟩
  have fu:=hB.same s1;rw[aJ]at e1;intro x dx hx hdx oR;have s2:aQ H1 (upd (upd H1 dx (.own x)) x (.ins c.ground dx [])):=aQ.put (aQ.new hdx) hx;exact⟨x,dx,H1,B,s,D,zy s nt,Kl s nt,rfl,aq,hx,s2,fu,e1,fun H' s3 hg=>⟨rfl,k H' x (s1.trans s3) hg⟩⟩
end
end Nw
namespace Nw
open Vbpcah
structure Row(s:fM)(q:ab Nat):Prop where
 nd:q.Nodup
 ok:∀n∈q,(1<=n/\n<=32)/\(s.net n).ways=none/\(s.net n).pins≠[]
theorem Row.len(h:Row s q):q.length<=33:=iC h.nd fun n hn=>by have:=(h.ok n hn).1.2;omega
theorem Row.tail(h:Row s (n::q)):Row s q:=⟨(bQ.mp h.nd).2,fun m hm=>h.ok m (by simp[hm])⟩
theorem zX{s:fM}(hl:s.nets.length=32){n:Nat}(h1:1<=n)(h2:n<=32){ws:ab (ab Nat)}{m:Nat}(hm:1<=m):(lay s n ws).net m=if m=n then{s.net n with ways:=some ws}else s.net m:=jP hl ⟨h1,h2⟩ hm
theorem Row.laid(hl:s.nets.length=32)(h:Row s (n::q))(ws:ab (ab Nat)):Row (lay s n ws) q:=by obtain⟨ZT,ZS⟩:=bQ.mp h.nd;have hn:=(h.ok n (by simp)).1;refine⟨ZS,fun m hm=>?_⟩;obtain⟨a,b,c⟩:=h.ok m (by simp[hm]);rw[zX hl hn.1 hn.2 a.1,ao fun e:m=n=>ZT (e▸hm)];exact⟨a,b,c⟩
theorem B7{s:fM}(h:m∈gw s n ws):bf (s.net m)=true:=by obtain⟨h1,h2⟩:=ba.mp h;simp only[bN,bne_iff_ne,ne_eq,og,dU]at h2;obtain⟨_,v,_,e⟩:=h2;have hm:=(gP.mp h1).1;have hp:=rE (s:=s) (f:=aM s.g) (x:=v) (by rw[show(table s (aM s.g)).getD v 0=m from e];omega);rw[show(table s (aM s.g)).getD v 0=m from e]at hp;obtain⟨l,e2,_⟩:=my.mp hp.2.2.2;unfold bf;rw[e2];rfl
theorem Es(h:a.ways=none):bf a=false:=by unfold bf;rw[h];rfl
theorem Jg(h:bf a=true):∃ws,a.ways=some ws:=by
 unfold bf at h;cases e:a.ways with
 |none=>rw[e]at h;cases h
 |some w=>exact⟨w,rfl⟩
theorem Row.soft(S:Good s)(h:Row s (n::q))(e:gL s n=some (ws,c,os)):Row (lay (os.foldl cy s) n ws) (q++os):=by
 obtain⟨ZT,ZS⟩:=bQ.mp h.nd;have hn:=(h.ok n (by simp)).1;obtain⟨S',ho,Al,JX⟩:=S.v9 hn.1 hn.2 e;have Ts:∀m∈os,bf (s.net m)=true:=fun m hm=>by obtain⟨_,e2⟩:=AG e;rw[e2]at hm;exact B7 hm
 have hl:=(S.rips os ho).nets;refine⟨i_.mpr ⟨ZS,Al,fun a ha b hb e=>?_⟩,fun m hm=>?_⟩;·subst e;have:=Ts a hb;rw[Es (h.ok a (by simp[ha])).2.1]at this;cases this
 ·rcases a_.mp hm with hm|hm
  ·obtain⟨a,b,c⟩:=h.ok m (by simp[hm]);have hmo:m∉os:=fun z=>by have:=Ts m z;rw[Es b]at this;cases this
   rw[zX hl hn.1 hn.2 a.1,ao fun e:m=n=>ZT (e▸hm),nX S.nets os ho Al a.1,ao hmo];exact⟨a,b,c⟩
  ·have a:=ho m hm;rw[zX hl hn.1 hn.2 a.1,ao fun e:m=n=>JX (e▸hm),nX S.nets os ho Al a.1,aw hm];obtain⟨w,hw⟩:=Jg (Ts m hm);exact⟨a,rfl,(S.uA m a.1 a.2 w hw).2⟩
theorem T_(S:Good s)(R:d6 s b){os:ab Nat}(ho:∀m∈os,1<=m/\m<=32)(Al:os.Nodup):d6 (os.foldl cy s) (b+1):=fun m m1 m2=>by
 rw[nX S.nets os ho Al m1];have:=R m m1 m2;split;·show(s.net m).rips+1<=b+1;omega
 ·omega
theorem K8{s:fM}(hl:s.nets.length=32)(h1:1<=n)(h2:n<=32)(ws:ab (ab Nat)):pX s (lay s n ws):=pX.set hl h1 h2 rfl
theorem RE{s:fM}(hl:s.nets.length=32)(h1:1<=n)(h2:n<=32):pX s (rip s n):=pX.set hl h1 h2 rfl
theorem G':∀(os:ab Nat){s:fM},Good s->(∀m∈os,1<=m/\m<=32)->pX s (os.foldl cy s)
 |[],s,_,_=>pX.refl s
 |m::os,s,S,h=>by have hm:=h m (by simp);have h0:pX s (cy s m):=pX.set S.nets hm.1 hm.2 rfl;exact h0.trans (G' os (S.ripCounted hm.1 hm.2) fun x hx=>h x (by simp[hx]))
theorem B6:∀(os:ab Nat){s:fM},Good s->(∀m∈os,1<=m/\m<=32)->pX s (os.foldl rip s)
 |[],s,_,_=>pX.refl s
 |m::os,s,S,h=>by have hm:=h m (by simp);exact(RE S.nets hm.1 hm.2).trans (B6 os (S.rip hm.1 hm.2) fun x hx=>h x (by simp[hx]))
theorem sy:∀(k:Nat)(s:fM)(q:ab Nat),Good s->(∀n∈q,1<=n/\n<=32)->pX s (c9 k s q).1
 |0,s,q,S,_=>by unfold c9;exact pX.refl s
 |k+1,s,[],S,_=>by unfold c9;exact pX.refl s
 |k+1,s,n::q,S,hq=>by
  have hn:=hq n (by simp);have Hk:∀n∈q,1<=n/\n<=32:=fun m hm=>hq m (by simp[hm]);unfold c9;cases e:gQ s n with
  |some t=>simp only;exact(K8 S.nets hn.1 hn.2 _).trans (sy k _ q (S.v_ hn.1 hn.2 e) Hk)
  |none=>
   simp only;cases e2:gL s n with
   |none=>simp only;exact sy k s q S Hk
   |some t=>
    obtain⟨ws,c,os⟩:=t;simp only;obtain⟨S',ho,Al,JX⟩:=S.v9 hn.1 hn.2 e2;refine((G' os S ho).trans (K8 (S.rips os ho).nets hn.1 hn.2 ws)).trans (sy k _ (q++os) S' fun m hm=>?_);rcases a_.mp hm with z|z;·exact Hk m z
    ·exact ho m z
theorem x8{s:fM}(hl:s.nets.length=32):∀(os:ab Nat),(∀m∈os,1<=m/\m<=32)->∀{k:Nat},1<=k->(os.foldl rip s).net k=if k∈os then{s.net k with ways:=none}else s.net k:=by
 intro os;induction os generalizing s with
 |nil=>intro _ k _;simp
 |cons m os ih=>
  intro h k hk;rw[dg];have hl':(rip s m).nets.length=32:=by unfold rip;rw[xN];exact hl
  rw[ih hl' (fun x hx=>h x (by simp[hx])) hk];have hm:=h m (by simp);have e:(rip s m).net k=if k=m then{s.net m with ways:=none}else s.net k:=jP hl hm hk;rw[e];by_cases q:k=m;·subst q;simp
  ·simp[q]
theorem xY:Row s (unlaid s):=⟨pL.filter _,fun n hn=>by
 obtain⟨h1,h2⟩:=ba.mp hn;simp only[bN,fm]at h2;refine⟨gP.mp h1,?_,fun e=>?_⟩
 ·cases e:(s.net n).ways with
  |none=>rfl
  |some w=>have:=h2.2;unfold bf at this;rw[e]at this;cases this
 ·have:=h2.1;unfold cw at this;rw[e]at this;cases this⟩
theorem T9(S:Good s):Row ((cq s).foldl rip s) (unlaid s++cq s):=by
 have hl:∀m∈cq s,1<=m/\m<=32:=fun m hm=>wc hm;have Xp:∀m∈cq s,bf (s.net m)=true:=fun m hm=>(ba.mp hm).2;refine⟨i_.mpr ⟨pL.filter _,pL.filter _,fun a ha b hb e=>?_⟩,fun n hn=>?_⟩;·subst e;have:=Xp a hb;rw[Es (xY.ok a ha).2.1]at this;cases this
 ·rcases a_.mp hn with h|h
  ·obtain⟨a,b,c⟩:=xY.ok n h;rw[x8 S.nets _ hl a.1];split;·exact⟨a,rfl,c⟩
   ·exact⟨a,b,c⟩
  ·have a:=hl n h;rw[x8 S.nets _ hl a.1,aw h];obtain⟨w,hw⟩:=Jg (Xp n h);exact⟨a,rfl,(S.uA n a.1 a.2 w hw).2⟩
theorem Ez{s:fM}(hl:s.nets.length=32)(h:E_ s)(h1:1<=n)(h2:n<=32)(hw:ws.length<=16/\∀l∈ws,l.length<=2305):E_ (lay s n ws):=fun m a b V3 e=>by
 rw[zX hl h1 h2 a]at e;split at e;·cases e;exact hw
 ·exact h m a b V3 e
theorem rR(hl:s.nets.length=32)(h1:1<=n)(h2:n<=32)(S:Good (lay s n ws)):∀l∈ws,Chain s.g l:=(S.uA n h1 h2 ws (by rw[zX hl h1 h2 h1,aw rfl])).1
theorem G9:∀(os:ab Nat){s:fM},Good s->E_ s->(∀m∈os,1<=m/\m<=32)->E_ (os.foldl cy s)
 |[],s,_,h,_=>h
 |m::os,s,S,h,hm=>by have a:=hm m (by simp);exact G9 os (S.ripCounted a.1 a.2) (Iz S.nets h a.1 a.2) fun x hx=>hm x (by simp[hx])
abbrev G6(s:fM)(n:Nat):aY (ab (ab Nat)×Nat):=gu s.g (az s.g fun v=>(iV s n).getD v false) (o9 s (lO s n)) (s.net n).pins
theorem C9(s:fM)(n:Nat):gL s n=(G6 s n).map fun t=>(t.1,t.2,gw s n t.1):=rfl
end Nw
namespace Nw
open PySem PySem.Spec PyProof.Rows L2
theorem ON(s:aQ H H1):aQ (nw H1 H') (nw H H'):=fun b o e=>by obtain⟨a,d⟩:=RW e;exact OM (s.free a) d
theorem M4(h:bh c H B s):aQ (nw H H') (off B.N H'):=fun b o e=>by obtain⟨a,d⟩:=RW e;exact eZ d (h.IY a)
section
variable{P:bT}{w:cU}{K:ag}{mg:Str->aY aA}{base:Heap}{c:Cs}{n:Nat}
inductive Fj(c:Cs)(vs:ab V)(H:Hp)(Q:VK):Prop
 |mk (gd:Addr) (g:Gd) (en:Nat->Nat->Int) (use:Nat->Bool) (cost:Nat->Nat->Nat) (u v:Nat) (q0:vs=[.ref gd,vi u,vi v]) (q1:fT c H gd g en) (q2:rZ g use cost en) (q3:(u<g.size/\use u=true)) (q4:v<g.size) (q5:∀H',aQ H H'->Q (II ((dy g (az g use) cost [u]).at_ v)) H')
def xi(c:Cs):Sp:=fun vs H Q _=>Fj c vs H Q
abbrev pD:Stmt:=top 46
theorem tS:bx ["ground","start","goal","wave"] ["ground","start","goal"] (aU pD):={}
theorem CI(F:gY K "cost_between" "cost_between" pD f fd)(T:Txt K mg c)(BI:jN P w K mg base c.wave "Wave" n ["self","ground"] (xH c))(iT:bq P w K mg base c.wave "reach" (n+1) ["self","cells"] (Ie c))(gT:bq P w K mg base c.wave "nearest_of" (n+1) ["self","wanted"] (uK c)):cZ P w K mg base gZ (n+2) f fd ["ground","start","goal"] (xi c):=by
 refine F.ok tS (fun vs H Q E h=>?_) (fun fR A outer s H vs Q E hr h=>?_);·obtain⟨gd,g,en,use,cost,u,v,rfl,_⟩:=h;rfl
 ·obtain⟨gd,g,en,use,cost,u,v,rfl,hG,hE,hu1,hv,k⟩:=h;have hu:=K_ hr;obtain⟨rx,gr,et,gx,nr,es,ns,hO⟩:=hG.nZ;have hsz:=hO.gb.size_le;refine⟨_,(ah (cE (i:=3) tS.nd rfl (bj rfl) (vc BI hr (aa (pv 0) ak))) (ah (da (bR (pv 3) iT hr (aa (cI (aa (pv 1) ak)) ak))) (ah (cM (bL yb (bR (pv 3) gT hr (aa (Um (RK (pv 2) vd Uh) rfl rfl (by decide) (by decide)) ak)) lr (cJ _)) (ay (aX lr)) br) (ay (aX (cD bA (aZ (pv 3) rfl) (pv 2) (fun _ _=>rfl))))))),?_⟩;refine MC ?_;intro uH oO lG;refine⟨_,rfl,?_⟩;intro wv dw Nq VS acx;have YX:fT c (upd (upd H dw (.own wv)) wv (.ins c.wave dw [])) gd g en:=hG.same (aQ.put (aQ.new VS) Nq);refine⟨wv,dw,gd,g,en,rfl,YX,aq,fun H2 W2 w2 kp2 hM2 aar=>⟨rfl,?_⟩⟩;have s2:aQ H H2:=fun b o e=>kp2 b o (by rw[aj (aE e Nq),aj (aE e VS)];exact e) (aE e Nq);have Qo:∀b∈W2.M,H b=none:=fun b hb=>by
   have:=hM2 b hb;cases e:H b with
   |none=>rfl
   |some o=>rw[aj (aE e Nq),aj (aE e VS),e]at this;cases this
  refine⟨_,rfl,wv,_,_,rfl,w2.at_,yW,_,rfl,(by show 1<=sizeLine;decide),fun l hl=>?_⟩;have w3:=w2.same (aQ.new (o:=.lst [vi u]) hl);refine⟨wv,l,W2,g,en,use,cost,[],_,_,(·∈[v]),0,[u],rfl,w3,Wv.new,(by simpa using hu1.1),(by simp),w2.not hl,.inl aq,fun H3 W3 cs3 F3 w3 r3 m3 k3=>?_⟩;have s3:aQ H H3:=fun b o e=>m3.kp b o (aQ.put s2 (s2.free hl) b o e) fun q=>by rw[Qo _ q]at e;cases e
  have hM3:∀b∈W3.M,H b=none:=fun b hb=>by
   rcases m3.mem b hb with q|q;·exact Qo b q
   ·exact(aQ.put s2 (s2.free hl)).free q
  refine⟨_,rfl,wv,_,_,rfl,w3.at_,xf,fun d hd=>⟨_,rfl,aq,[(dC (v:Int),.bl true)],rfl,(by show 1<=15;decide),?_⟩⟩;rw[vR,show Bh [] [(dC (v:Int),V.bl true)]=yQ [v]from rfl];have s4:aQ H3 (upd H3 d (.dK (yQ [v]))):=aQ.new hd;have w4:=w3.same s4;have s34:=s3.trans s4;have ed:upd H3 d (.dK (yQ [v])) d=some (.dK (yQ [v])):=aq;generalize upd H3 d (.dK (yQ [v]))=H4 at s4 w4 s34 ed⊢;refine⟨wv,d,W3,g,en,use,cost,_,cs3,F3,_,[v],rfl,w4,hE,(by simpa using hu1.2),r3,(by simp;omega),w3.not hd,ed,fun H7 W7 X0 F7 w7 r7 m7 k7 EL=>?_,fun H7 W7 X0 F7 tg cc w7 r7 m7 k7 UD XB=>?_⟩;·have s7:aQ H H7:=fun b o e=>(m7.kp b o (s34 b o e) fun q=>by rw[hM3 _ q]at e;cases e);refine⟨rfl,_,rfl,bD rfl ?_⟩;have:=EL v (by simp);simp only[List.reverse_cons,List.reverse_nil,vP,dO]at this;have kk:=k H7 s7;rw[this]at kk;exact kk
  ·have s7:aQ H H7:=fun b o e=>(m7.kp b o (s34 b o e) fun q=>by rw[hM3 _ q]at e;cases e);refine⟨rfl,_,rfl,aI (by simp) ?_⟩;have R8:tg=v:=by simpa using UD.mem
   subst R8;have Nq:(dy g (az g use) cost [u]).at_ tg=some cc:=by have:=(XB tg cc (aD _)).mp UD.at_;simpa using this
   obtain⟨z,hz,h0,_⟩:=r7.C.get hv;have YC:z=(cc:Int):=(lK hz UD.at_ h0).1;have kk:=k H7 s7;rw[Nq]at kk;refine⟨_,rfl,_,_,_,_,_,rfl,w7.at_,T.wC,T.oV,nT,_,rfl,_,_,_,_,rfl,rfl,cN.of w7.cl,cA (pN hz),?_⟩;rw[YC];exact kk
inductive Vj(c:Cs)(f:Bd->Nat->aY (ab (ab Nat)×Nat))(vs:ab V)(H:Hp)(Q:VK):Prop
 |mk (B:BA) (s:Bd) (n b:Nat) (q0:vs=[.ref B.ob,vi n]) (q1:bh c H B s) (q2:d6 s b) (q3:b<=900000) (q4:1<=n) (q5:n<=32) (q6:(s.net n).pins≠[]) (q7:(f s n=none->∀H',aQ H H'->Q .iG H')) (q8:(∀ways x,f s n=some (ways,x)->∀H' t,aQ H H'->Fb c (nw H H') t ways x->Q (.ref t) H'))
def AD(c:Cs)(f:Bd->Nat->aY (ab (ab Nat)×Nat)):Sp:=fun vs H Q _=>Vj c f vs H Q
theorem qt(h:bh c H B s)(h1:1<=n)(h2:n<=32):∃pl,(B.lX.map V.ref)[n]? =some (.ref pl)/\gq H pl (s.net n).pins:=by obtain⟨l,e,zs,q1,q2,q3⟩:=h.pc n h1 h2;refine⟨l,by rw[bp,e];rfl,?_⟩;rw[<-q1];exact gq.of q2 fun z hz=>dS _ _ (q3 z hz)
abbrev uV:Stmt:=top 48
theorem Ik:bx ["board","net"] ["board","net"] (aU uV):={}
theorem IM(F:gY K "firm_tree" "firm_tree" uV f fd)(T:Txt K mg c)(lN:bP P w K mg base "find_tree" n ["ground","pins"] (xK c))(jI:bP P w K mg base "firm_ground" n ["board","net"] (sI c)):cZ P w K mg base gZ (n+1) f fd ["board","net"] (AD c gQ):=by
 refine F.ok Ik (fun vs H Q E h=>?_) (fun fR A outer s H vs Q E hr h=>?_);·obtain⟨B,s,n,b,rfl,_⟩:=h;rfl
 ·obtain⟨B,s,nt,b,rfl,hB,hR,hb,h1,h2,hp,kN,kS⟩:=h;refine⟨_,(ay (aX (cK lN hr (aa (cK jI hr (aa (pv 0) (aa (pv 1) ak))) (aa (cD bA (aZ (pv 0) rfl) (pv 1) (fun _ _=>rfl)) ak))))),?_⟩;refine⟨_,rfl,_,rfl,B,s,nt,rfl,hB,fun H1 gd s1 hg=>?_⟩;have fu:=hB.same s1;obtain⟨pl,e1,e2⟩:=qt fu h1 h2;refine⟨_,rfl,_,_,_,_,_,rfl,fu.at_,T.bC,T.nH,kW,_,rfl,_,_,_,_,rfl,rfl,cN.of fu.pi,cA e1,?_⟩;have hE:rZ s.g (vq s nt) (dz s) (en s (vq s nt) fun _=>0):=by rw[Ho];exact Jl hB.good (E0:=0) (fun _=>aD _) (by decide)
  have own:=hB.good.OJ h1 h2;have oR:=hB.good.xj nt h1 h2;have hlen:=hB.good.nz nt h1 h2;have hh:gQ s nt=gu s.g (az s.g (vq s nt)) (dz s) (s.net nt).pins:=rfl;rw[hh]at kN kS;cases Qj:(s.net nt).pins with
  |nil=>exact bF Qj hp
  |cons p0 ps=>rw[Qj]at e2 own oR hlen kN kS;simp only[bg]at hlen;exact⟨gd,pl,s.g,_,vq s nt,dz s,p0,ps,rfl,hg,hE,e2,own,by omega,(oR p0 (by simp)).2,fun e H' s2=>kN e H' (s1.trans s2),fun ways x e H' t s2 ht=>kS ways x e H' t (s1.trans s2) (ht.same (ON s1))⟩
abbrev uU:Stmt:=top 49
theorem Ij:bx ["board","net"] ["board","net"] (aU uU):={}
theorem IL(F:gY K "soft_tree" "soft_tree" uU f fd)(T:Txt K mg c)(lN:bP P w K mg base "find_tree" n ["ground","pins"] (xK c))(ra:bP P w K mg base "soft_ground" n ["board","net"] (zp c)):cZ P w K mg base gZ (n+1) f fd ["board","net"] (AD c G6):=by
 refine F.ok Ij (fun vs H Q E h=>?_) (fun fR A outer s H vs Q E hr h=>?_);·obtain⟨B,s,n,b,rfl,_⟩:=h;rfl
 ·obtain⟨B,s,nt,b,rfl,hB,hR,hb,h1,h2,hp,kN,kS⟩:=h;refine⟨_,(ay (aX (cK lN hr (aa (cK ra hr (aa (pv 0) (aa (pv 1) ak))) (aa (cD bA (aZ (pv 0) rfl) (pv 1) (fun _ _=>rfl)) ak))))),?_⟩;refine⟨_,rfl,_,rfl,B,s,nt,rfl,hB,fun H1 gd s1 hg=>?_⟩;have fu:=hB.same s1;obtain⟨pl,e1,e2⟩:=qt fu h1 h2;refine⟨_,rfl,_,_,_,_,_,rfl,fu.at_,T.bC,T.nH,kW,_,rfl,_,_,_,_,rfl,rfl,cN.of fu.pi,cA e1,?_⟩;have hE:rZ s.g (zy s nt) (o9 s (lO s nt)) (en s (zy s nt) (Kl s nt)):=by rw[PL];exact Jl hB.good (E0:=1000*(1+b)) (fun v=>SE hB.good hR nt v) (by omega)
  have own:=hB.good.OI h1 h2;have oR:=hB.good.xj nt h1 h2;have hlen:=hB.good.nz nt h1 h2;have hh:G6 s nt=gu s.g (az s.g (zy s nt)) (o9 s (lO s nt)) (s.net nt).pins:=rfl;rw[hh]at kN kS;cases Qj:(s.net nt).pins with
  |nil=>exact bF Qj hp
  |cons p0 ps=>rw[Qj]at e2 own oR hlen kN kS;simp only[bg]at hlen;exact⟨gd,pl,s.g,_,zy s nt,o9 s (lO s nt),p0,ps,rfl,hg,hE,e2,own,by omega,(oR p0 (by simp)).2,fun e H' s2=>kN e H' (s1.trans s2),fun ways x e H' t s2 ht=>kS ways x e H' t (s1.trans s2) (ht.same (ON s1))⟩
inductive JE(c:Cs)(vs:ab V)(H:Hp)(Q:VK):Prop
 |mk (B:BA) (s:Bd) (n b:Nat) (q0:vs=[.ref B.ob,vi n]) (q1:bh c H B s) (q2:d6 s b) (q3:b<=900000) (q4:1<=n) (q5:n<=32) (q6:(s.net n).pins≠[]) (q7:(s.net n).ways=none) (q8:(gQ s n=none->∀H',aQ H H'->Q (.bl false) H')) (q9:(∀t,gQ s n=some t->∀H',bh c H' B (eX s n t.1)->Mv B.M H B.M H'->Q (.bl true) H'))
def uM(c:Cs):Sp:=fun vs H Q _=>JE c vs H Q
theorem Lh{s:Bd}(S:Good s)(h1:1<=n)(h2:n<=32)(h:gQ s n=some (ws,x)):ws.length<=16/\∀l∈ws,l.length<=2305:=J2 h (S.nz n h1 h2) S.size
theorem Rv{s:Bd}(S:Good s)(h1:1<=n)(h2:n<=32)(h:G6 s n=some (ws,x)):ws.length<=16/\∀l∈ws,l.length<=2305:=J2 h (S.nz n h1 h2) S.size
abbrev qO:Stmt:=top 50
theorem uO:bx ["board","net","tree"] ["board","net"] (aU qO):={}
theorem Ek(F:gY K "lay_by_tree" "lay_by_tree" qO f fd)(T:Txt K mg c)(lM:bP P w K mg base "firm_tree" n ["board","net"] (AD c gQ))(iU:bq P w K mg base c.bO "lay" n ["self","net","ways"] (Ou c)):cZ P w K mg base gZ (n+1) f fd ["board","net"] (uM c):=by
 refine F.ok uO (fun vs H Q E h=>?_) (fun fR A outer s H vs Q E hr h=>?_);·obtain⟨B,s,n,b,rfl,_⟩:=h;rfl
 ·obtain⟨B,s,nt,b,rfl,hB,hR,hb,h1,h2,hp,hw,kN,kS⟩:=h;refine⟨_,(ah (cE (i:=2) uO.nd rfl (bj rfl) (cK lM hr (aa (pv 0) (aa (pv 1) ak)))) (ah (cM (bL yb (pv 2) lr (cJ _)) (ay (aX vd)) br) (ah (da (bR (pv 0) iU hr (aa (pv 1) (aa (aZ (pv 2) rfl) ak)))) (ay (aX vd))))),?_⟩;refine MC ?_;intro uH oO lG;refine⟨_,rfl,_,rfl,B,s,nt,b,rfl,hB,hR,hb,h1,h2,hp,fun e H1 s1=>?_,fun ways x e H1 t s1 ht=>?_⟩;·exact⟨_,rfl,rfl,_,rfl,bD rfl (kN e H1 s1)⟩
  ·refine⟨_,rfl,rfl,_,rfl,aI (by simp) ?_⟩;have fu:=hB.same s1;obtain⟨dx,wl,q1,q2⟩:=ht.same (M4 hB);have good:=hB.good.v_ h1 h2 e;refine⟨_,rfl,_,_,_,rfl,fu.at_,NM,_,rfl,_,rfl,_,_,_,_,_,rfl,dS _ _ q1,T.tC,T.xu,vS,B,s,wl,nt,ways,rfl,fu,h1,h2,hw,q2,rR hB.good.nets h1 h2 good,good,Ez hB.good.nets hB.len h1 h2 (Lh hB.good h1 h2 e),fun H2 jA m2=>?_⟩;exact kS _ e H2 jA ((Mv.same s1).trans m2)
inductive JF(c:Cs)(vs:ab V)(H:Hp)(Q:VK):Prop
 |mk (B:BA) (s:Bd) (n b:Nat) (q0:vs=[.ref B.ob,vi n]) (q1:bh c H B s) (q2:d6 s b) (q3:b<=900000) (q4:1<=n) (q5:n<=32) (q6:(s.net n).pins≠[]) (q7:(s.net n).ways=none) (q8:(gL s n=none->∀H' l,aQ H H'->H' l=some (.lst [])->l∉B.M->Q (.ref l) H')) (q9:(∀ws x os,gL s n=some (ws,x,os)->∀H' l,bh c H' B (eX (os.foldl cy s) n ws)->Mv B.M H B.M H'->H' l=some (.lst (d8 os))->l∉B.M->Q (.ref l) H'))
def BY(c:Cs):Sp:=fun vs H Q _=>JF c vs H Q
abbrev k6:Stmt:=top 51
theorem jc:bx ["board","net","tree","others","other"] ["board","net"] (aU k6):={}
theorem wK(F:gY K "lay_by_soft_tree" "lay_by_soft_tree" k6 f fd)(T:Txt K mg c)(lL:bP P w K mg base "soft_tree" n ["board","net"] (AD c G6))(iU:bq P w K mg base c.bO "lay" n ["self","net","ways"] (Ou c))(fI:bq P w K mg base c.bO "other_takers" n ["self","net","ways"] (DV c))(jm:bq P w K mg base c.bO "rip_for_another" n ["self","net"] (Ke c)):cZ P w K mg base gZ (n+1) f fd ["board","net"] (BY c):=by
 refine F.ok jc (fun vs H Q E h=>?_) (fun fR A outer s H vs Q E hr h=>?_);·obtain⟨B,s,n,b,rfl,_⟩:=h;rfl
 ·obtain⟨B,s,nt,b,rfl,hB,hR,hb,h1,h2,hp,hw,kN,kS⟩:=h;refine⟨_,(ah (cE (i:=2) jc.nd rfl (bj rfl) (cK lL hr (aa (pv 0) (aa (pv 1) ak)))) (ah (cM (bL yb (pv 2) lr (cJ _)) (ay (aX (cI ak))) br) (ah (cE (i:=3) jc.nd rfl (bj rfl) (bR (pv 0) fI hr (aa (pv 1) (aa (aZ (pv 2) rfl) ak)))) (ah (gN bJ rfl (dP (pv 3)) (cQ (i:=4) jc.nd rfl (bj rfl)) (ay (da (bR (pv 0) jm hr (aa (pv 4) ak))))) (ah (da (bR (pv 0) iU hr (aa (pv 1) (aa (aZ (pv 2) rfl) ak)))) (ay (aX (pv 3)))))))),?_⟩;refine Yv ?_;intro Og GN uH oO lG;refine⟨_,rfl,_,rfl,B,s,nt,b,rfl,hB,hR,hb,h1,h2,hp,fun e H1 s1=>?_,fun ways x e H1 t s1 ht=>?_⟩;·refine⟨_,rfl,rfl,_,rfl,bD rfl ⟨cH _,fun l hl=>?_⟩⟩;exact kN (by rw[C9,e];rfl) _ l (s1.trans (aQ.new hl)) aq ((hB.same s1).not hl)
  ·refine⟨_,rfl,rfl,_,rfl,aI (by simp) ?_⟩;have fu:=hB.same s1;obtain⟨dx,wl,q1,q2⟩:=ht.same (M4 hB);have es:gL s nt=some (ways,x,gw s nt ways):=by rw[C9,e];rfl
   obtain⟨good,ho,Al,JX⟩:=hB.good.v9 h1 h2 es;have G1:=hB.good.rips _ ho;have yN:∀l∈ways,Chain s.g l:=by have:=rR G1.nets h1 h2 good;rw[(ML (s:=s) (gw s nt ways)).1]at this;exact this
   refine⟨_,rfl,_,_,_,rfl,fu.at_,tW,_,rfl,_,rfl,_,_,_,_,_,rfl,dS _ _ q1,T.tC,T.xu,vS,B,s,wl,nt,ways,rfl,fu,q2.same dS,yN,fun H2 ol s2 Ts Tx=>?_⟩;have R_:ol∉B.M:=fu.not Ts;have m2:Mv B.M H B.M H2:=Mv.same (s1.trans s2);refine⟨_,rfl,ol,rfl,⟨_,cN.of Tx⟩,?_⟩;let ada:Nat->L2.St->Hp->Prop:=fun i σ H'=>∃x4,σ=[some (.ref B.ob),some (vi nt),some (.ref t),some (.ref ol),x4]/\bh c H' B (((gw s nt ways).take i).foldl cy s)/\Mv B.M H2 B.M H';refine e_ (K:=K) (a:=ol) (xs:=d8 (gw s nt ways)) ada ⟨none,rfl,fu.same s2,Mv.refl⟩ (fun i σ H' _⟨_,_,_,m⟩=>cN.of (m.kp _ _ Tx R_)) ?_ ?_
   ·rintro i y σ H3 hi ⟨x4,rfl,tU,m3⟩;obtain⟨v,hv,rfl⟩:=ji hi;have hvm:=aH hv;have Xc:=ho v hvm;have n8:bf ((((gw s nt ways).take i).foldl cy s).net v)=true:=by
     rw[nX hB.good.nets _ (fun m hm=>ho m (List.mem_of_mem_take hm)) (Al.sublist (Ci _ _)) Xc.1,ao ?_];·exact B7 hvm
     ·intro z;have:=Al;rw[<-oe i (gw s nt ways)]at this;have hdj:=(i_.mp this).2.2;refine hdj v z v ?_ rfl;have:((gw s nt ways).drop i)[0]? =some v:=by rw[lZ];exact hv
      exact aH this
    refine⟨_,rfl,_,_,_,rfl,tU.at_,yu,_,rfl,B,_,v,rfl,tU,Xc.1,Xc.2,n8,fun H4 XG m4=>?_⟩;refine⟨_,rfl,?_,m3.trans m4⟩;rw[take_snoc hv,sh];exact XG
   ·rintro σ H3 ⟨x4,rfl,tU,m3⟩;have el:(d8 (gw s nt ways)).length=(gw s nt ways).length:=ae _;rw[el,bG]at tU;have q3:=(Mv.same (M:=B.M) s2).ib (X:=B.xs);have o3:=m3.ib (X:=B.xs);have acd:((gw s nt ways).foldl cy s).net nt=s.net nt:=by rw[nX hB.good.nets _ ho Al h1,ao JX]
    refine⟨_,rfl,_,_,_,rfl,tU.at_,NM,_,rfl,_,rfl,_,_,_,_,_,rfl,dS _ _ (o3 _ _ (q3 _ _ q1)),T.tC,T.xu,vS,B,_,wl,nt,ways,rfl,tU,h1,h2,(by rw[acd];exact hw),(q2.same q3).same o3,rR G1.nets h1 h2 good,good,Ez G1.nets (G9 _ hB.good hB.len ho) h1 h2 (Rv hB.good h1 h2 e),fun H4 XG m4=>?_⟩;have m34:=m3.trans m4;exact⟨_,rfl,kS _ _ _ es H4 ol XG (m2.trans m34) (m34.kp _ _ Tx R_) R_⟩
end
end Nw
namespace Nw
open PySem PySem.Spec PyProof.Rows L2
section
variable{P:bT}{w:cU}{K:ag}{mg:Str->aY aA}{base:Heap}{c:Cs}{n:Nat}
inductive JD(c:Cs)(vs:ab V)(H:Hp)(Q:VK):Prop
 |mk (B:BA) (s:Bd) (l:Addr) (q:ab Nat) (k b:Nat) (q0:vs=[.ref B.ob,.ref l,vi k]) (q1:bh c H B s) (q2:H l=some (.lst (d8 q))) (q3:Row s q) (q4:d6 s b) (q5:b+1000<=900000) (q6:k<=1000) (q7:∀H',bh c H' B (c9 k s q).1->Mv B.M H B.M H'->Q (vi (k-(c9 k s q).2)) H')
def uL(c:Cs):Sp:=fun vs H Q _=>JD c vs H Q
abbrev sN:Stmt:=top 52
theorem kJ:bx ["board","nets","budget","row","made","net"] ["board","nets","budget"] (aU sN):={}
theorem FT(F:gY K "make_tries" "make_tries" sN f fd)(T:Txt K mg c)(jH:bP P w K mg base "lay_by_tree" n ["board","net"] (uM c))(lx:bP P w K mg base "lay_by_soft_tree" n ["board","net"] (BY c)):cZ P w K mg base gZ (n+1) f fd ["board","nets","budget"] (uL c):=by
 refine F.ok kJ (fun vs H Q E h=>?_) (fun fR A outer s H vs Q E hr h=>?_);·obtain⟨B,s,l,q,k,b,rfl,_⟩:=h;rfl
 ·obtain⟨B,s,l,q,kb,b,rfl,hB,hl,Nt,hR,hb,hk,k⟩:=h;refine⟨_,(ah (cE (i:=3) kJ.nd rfl (bj rfl) (gA (jB) rfl T.b.list mF (aa (pv 1) ak))) (ah (cE (i:=4) kJ.nd rfl (bj rfl) aN) (ah (u_ bJ (PW.pt (AV (bL vf (pv 4) (pv 2) (cJ _)) (zK (bL vf (pv 4) (dM dv rfl T.b.len jC (aa (pv 3) ak)) (cJ _))))) (ah (cE (i:=5) kJ.nd rfl (bj rfl) (cD bA (pv 3) (pv 4) (fun _ _=>rfl))) (ah (RJ (i:=4) kJ.nd rfl (bj rfl) aN Nn) (ay (cM (ia (dQ (cK jH hr (aa (pv 0) (aa (pv 5) ak))) (fun _=>rfl))) (ay (da (AZ (pv 3) (aa (cK lx hr (aa (pv 0) (aa (pv 5) ak))) ak)))) br))))) (ay (aX (pv 4)))))),?_⟩;refine MC ?_;intro uH oO lG;refine⟨_,rfl,l,_,rfl,.inl (cN.of hl),fun rl YK=>?_⟩;have s1:aQ H (upd H rl (.lst (d8 q))):=aQ.new YK;let ac_:Nat->L2.St->Hp->Prop:=fun m σ H'=>∃(x5:aY V)(i:Nat)(dn q':ab Nat)(s':Bd),σ=[some (.ref B.ob),some (.ref l),some (vi kb),some (.ref rl),some (vi i),x5]/\bh c H' {B with xs:=rl::B.xs} s'/\Row s' q'/\d6 s' (b+i)/\dn.length=i/\i<=kb/\H' rl=some (.lst (d8 (dn++q')))/\rl∉B.M/\Mv B.M H B.M H'/\c9 (kb-i) s' q'=c9 kb s q/\m+i=kb;refine⟨ac_,⟨kb,none,0,[],q,s,rfl,hB.guard YK s1 aq,Nt,hR,rfl,cH _,aq,hB.not YK,Mv.same s1,rfl,rfl⟩,?_⟩;rintro m σ H1 ⟨x5,i,dn,q',s',rfl,fu,RC,R1,VT,hi,e1,hrM,m1,tr,hm⟩;have hql:=RC.len;refine⟨_,rfl,_,rfl,_,_,rfl,rfl,_,rfl,?_⟩;by_cases hik:i<kb
  ·refine bD (by rw[au];omega) ?_;refine⟨_,rfl,_,rfl,rl,_,rfl,.inl (cN.of e1),_,_,rfl,rfl,_,rfl,?_⟩;cases hq:q' with
   |nil=>
    subst hq;refine aI (by rw[au,ae,dO,VT];omega) ?_;have e0:c9 (kb-i) s' []=(s',kb-i):=by obtain⟨j,hj⟩:∃j,kb-i=j+1:=⟨kb-i-1,by omega⟩;rw[hj];rfl
    have kk:=k H1 (by rw[<-tr,e0];exact(fu.bare (ys:=B.xs) fun b hb=>by simp[hb])) m1;rw[<-tr,e0]at kk;refine⟨_,rfl,?_⟩;rw[show kb-(s',kb-i).2=i by show kb-(kb-i)=i;omega]at kk;exact kk
   |cons nt q2=>
    subst hq;refine bD (by rw[au,ae,bo,VT,bg];omega) ?_;obtain⟨hn,hw,hp⟩:=RC.ok nt (by simp);have XA:(d8 (dn++nt::q2))[i]? =some (vi nt):=by rw[bp,iL (by omega),VT,C4];rfl
    let ac':L2.St->Hp->Prop:=fun σ' H'=>∃(x5:aY V)(dn q':ab Nat)(s':Bd),σ'=[some (.ref B.ob),some (.ref l),some (vi kb),some (.ref rl),some (vi (i+1)),x5]/\bh c H' {B with xs:=rl::B.xs} s'/\Row s' q'/\d6 s' (b+(i+1))/\dn.length=i+1/\H' rl=some (.lst (d8 (dn++q')))/\rl∉B.M/\Mv B.M H B.M H'/\c9 (kb-(i+1)) s' q'=c9 kb s q;refine⟨ac',?_,?_⟩;·rintro σ' H' ⟨x5,dn,q',s',a1,a2,a3,a4,a5,a6,a7,a8,a9⟩;exact⟨m-1,by omega,x5,i+1,dn,q',s',a1,a2,a3,a4,a5,by omega,a6,a7,a8,a9,by omega⟩
    refine⟨_,rfl,_,rfl,_,_,_,_,rfl,rfl,cN.of e1,cA XA,?_⟩;refine⟨_,rfl,_,_,rfl,rfl,?_⟩;have aaG:kb-i=(kb-(i+1))+1:=by omega
    have edn:dn++nt::q2=(dn++[nt])++q2:=by simp
    rw[aaG]at tr;rw[edn]at e1;refine⟨_,rfl,_,rfl,{B with xs:=rl::B.xs},s',nt,b+i,rfl,fu,R1,by omega,hn.1,hn.2,hp,hw,fun e H2 s2=>?_,fun t e H2 jA m2=>?_⟩
    ·have jA:=fu.same s2;refine⟨_,rfl,bD rfl ?_⟩;refine⟨_,rfl,.inl ⟨rfl,_,cN.of (s2 _ _ e1)⟩,?_⟩;refine⟨_,rfl,_,rfl,{B with xs:=rl::B.xs},s',nt,b+i,rfl,jA,R1,by omega,hn.1,hn.2,hp,hw,fun e2 H3 ol s3 Tx R_=>?_,fun ws x os e2 H3 ol tU m3 Tx R_=>?_⟩
     ·have Tj:=s2.trans s3;have oR:ol≠rl:=fun z=>by have h0:=Tj _ _ e1;rw[<-z,Tx]at h0;have:=List.map_eq_nil_iff.mp (HO.lst.inj (bE h0)).symm;simp at this
      refine⟨rl,ol,_,_,rfl,rfl,Tj _ _ e1,Tx,?_,?_⟩;·rw[ae,bo,bo,VT,cn,bS];simp only[bg,fH]at hql⊢;omega
      ·rw[dO];have u:upd H3 rl (.lst (d8 ((dn++[nt])++q2)))=H3:=by
        funext z;by_cases hz:z=rl;·rw[hz,aq,Tj _ _ e1]
        ·rw[aj hz]
       rw[u];refine⟨_,dn++[nt],q2,s',rfl,fu.same Tj,RC.tail,R1.mono (by omega),by simp[VT],Tj _ _ e1,hrM,m1.trans (Mv.same Tj),?_⟩;rw[<-tr];conv=>rhs;unfold c9
       rw[e,e2]
     ·have m23:=(Mv.same (M:=B.M) s2).trans m3;have e3:=m23.kp _ _ e1 hrM;obtain⟨good,ho,Al,JX⟩:=fu.good.v9 hn.1 hn.2 e2;have Ts:os.length<=33:=iC Al fun x hx=>by have:=(ho x hx).2;omega
      refine⟨rl,ol,_,_,rfl,rfl,e3,Tx,?_,?_⟩;·rw[ae,ae,bo,bo,VT,cn,bS];simp only[bg]at hql;omega
      ·have ev:d8 ((dn++[nt])++q2)++d8 os=d8 ((dn++[nt])++(q2++os)):=by unfold d8;rw[<-cz,gk (dn++[nt])]
       rw[ev];refine⟨_,dn++[nt],q2++os,_,rfl,tU.Wx (by simp) _,RC.soft fu.good e2,?_,by simp[VT],aq,hrM,?_,?_⟩;·exact((T_ fu.good R1 ho Al).lay (fu.good.rips os ho).nets hn.1 hn.2).mono (by omega)
       ·refine⟨fun z o ez hz=>?_,fun z hz=>.inl hz⟩;rw[aj (aE ez YK)];exact(m1.trans m23).kp z o ez hz
       ·rw[<-tr];conv=>rhs;unfold c9
        rw[e,e2]
    ·refine⟨_,rfl,aI (by simp) ?_⟩;refine⟨_,dn++[nt],q2,_,rfl,jA,RC.laid fu.good.nets t.1,(R1.lay fu.good.nets hn.1 hn.2).mono (by omega),by simp[VT],m2.kp _ _ e1 hrM,hrM,m1.trans m2,?_⟩;rw[<-tr];conv=>rhs;unfold c9
     rw[e]
  ·have hik:i=kb:=by omega
   refine aI (by rw[au];omega) (aI af ?_);subst hik;have e0:c9 (i-i) s' q'=(s',0):=by rw[C4];unfold c9;rfl
   have kk:=k H1 (by rw[<-tr,e0];exact(fu.bare (ys:=B.xs) fun b hb=>by simp[hb])) m1;rw[<-tr,e0]at kk;exact⟨_,rfl,kk⟩
inductive NW(c:Cs)(vs:ab V)(H:Hp)(Q:VK):Prop
 |mk (B:BA) (s:Bd) (k b:Nat) (q0:vs=[.ref B.ob,vi k]) (q1:bh c H B s) (q2:d6 s b) (q3:b+1000<=900000) (q4:k<=1000) (q5:(∀t,iW s k=some t->∀H',bh c H' B t->Mv B.M H B.M H'->Q (.bl true) H')) (q6:(iW s k=none->∀H' B',bh c H' B' s->(B'.ob=B.ob/\B'.xs=B.xs)->Mv B.M H B'.M H'->Q (.bl false) H'))
def GX(c:Cs):Sp:=fun vs H Q _=>NW c vs H Q
abbrev k8:Stmt:=top 53
theorem eT:bx ["board","budget","before","cost","unlaid","laid","net","left"] ["board","budget"] (aU k8):={}
theorem wL(F:gY K "improve_by_tries" "improve_by_tries" k8 f fd)(T:Txt K mg c)(p5:bq P w K mg base c.bO "laying" n ["self"] (Kg c))(fG:bq P w K mg base c.bO "total_cost" n ["self"] (uJ c))(dG:bq P w K mg base c.bO "unlaid_nets" n ["self"] (ph c bX))(eB:bq P w K mg base c.bO "laid_nets" n ["self"] (ph c cq))(gK:bq P w K mg base c.bO "unlay" n ["self","net"] (C8 c))(km:bP P w K mg base "make_tries" n ["board","nets","budget"] (uL c))(mI:bq P w K mg base c.bO "lay_again" n ["self","laying"] (DW c)):cZ P w K mg base gZ (n+1) f fd ["board","budget"] (GX c):=by
 refine F.ok eT (fun vs H Q E h=>?_) (fun fR A outer s H vs Q E hr h=>?_);·obtain⟨B,s,k,b,rfl,_⟩:=h;rfl
 ·obtain⟨B,s,kb,b,rfl,hB,hR,hb,hk,kS,kN⟩:=h;have S:=hB.good;refine⟨_,(ah (cE (i:=2) eT.nd rfl (bj rfl) (jh (pv 0) p5 hr)) (ah (cE (i:=3) eT.nd rfl (bj rfl) (jh (pv 0) fG hr)) (ah (cE (i:=4) eT.nd rfl (bj rfl) (jh (pv 0) dG hr)) (ah (cE (i:=5) eT.nd rfl (bj rfl) (jh (pv 0) eB hr)) (ah (gN bJ rfl (dP (pv 5)) (cQ (i:=6) eT.nd rfl (bj rfl)) (ay (da (bR (pv 0) gK hr (aa (pv 6) ak))))) (ah (da (cK km hr (aa (pv 0) (aa (dj A8 (pv 4) (pv 5)) (aa (pv 1) ak))))) (ah (cE (i:=7) eT.nd rfl (bj rfl) (dM dv rfl T.b.len jC (aa (jh (pv 0) dG hr) ak))) (ah (cM (PW.pt (VE (bL vf (pv 7) (dM dv rfl T.b.len jC (aa (pv 4) ak)) (cJ _)) (RH (PW.pt (AV (bL iB (pv 7) (dM dv rfl T.b.len jC (aa (pv 4) ak)) (cJ _)) (zK (bL i6 (jh (pv 0) fG hr) (pv 3) (cJ _)))))))) (ay (aX vd)) br) (ah (da (bR (pv 0) mI hr (aa (pv 2) ak))) (ay (aX vd))))))))))),?_⟩;refine sq9 ?_;intro u_9 u_8 u_7 Vr Og GN uH oO lG;refine⟨_,rfl,_,_,_,rfl,hB.at_,QE,B,s,rfl,hB,fun H1 t s1 hL1=>?_⟩;have fu:=hB.same s1;refine⟨_,rfl,_,_,_,rfl,fu.at_,qY,B,s,rfl,fu,fun H2 s2=>?_⟩;have jA:=fu.same s2;refine⟨_,rfl,_,_,_,rfl,jA.at_,mG,B,s,rfl,jA,fun H3 ul s3 hul eul=>?_⟩;have tU:=jA.same s3;have aae:ul∉B.M:=jA.not hul;refine⟨_,rfl,_,_,_,rfl,tU.at_,tD,B,s,rfl,tU,fun H4 ll s4 Xn ell=>?_⟩;have XG:=tU.same s4;have aan:ll∉B.M:=tU.not Xn;have aaF:=s4 _ _ eul;have T8:=(s2.trans s3).trans s4;have hL4:=hL1.same ((Mv.same (M:=B.M) T8).ib (X:=B.xs));have Qk:∀m∈cq s,1<=m/\m<=32:=fun m hm=>wc hm;have acm:(cq s).Nodup:=pL.filter _;have Xp:∀m∈cq s,bf (s.net m)=true:=fun m hm=>(ba.mp hm).2;refine⟨_,rfl,ll,rfl,⟨_,cN.of ell⟩,?_⟩;let ac9:Nat->L2.St->Hp->Prop:=fun i σ H'=>∃x6,σ=[some (.ref B.ob),some (vi kb),some (.ref t),some (vi (mQ s)),some (.ref ul),some (.ref ll),x6,none]/\bh c H' B (((cq s).take i).foldl c8 s)/\Mv B.M H4 B.M H';refine e_ (K:=K) (a:=ll) (xs:=d8 (cq s)) ac9 ⟨none,rfl,XG,Mv.refl⟩ (fun i σ H' _⟨_,_,_,m⟩=>cN.of (m.kp _ _ ell aan)) ?_ ?_
  ·rintro i y σ H5 hi ⟨x6,rfl,XF,m5⟩;obtain⟨v,hv,rfl⟩:=ji hi;have hvm:=aH hv;have Xc:=Qk v hvm;have n8:bf ((((cq s).take i).foldl c8 s).net v)=true:=by
    rw[x8 S.nets _ (fun m hm=>Qk m (List.mem_of_mem_take hm)) Xc.1,ao ?_];·exact Xp v hvm
    ·intro z;have:=acm;rw[<-oe i (cq s)]at this;have hdj:=(i_.mp this).2.2;refine hdj v z v ?_ rfl;have:((cq s).drop i)[0]? =some v:=by rw[lZ];exact hv
     exact aH this
   refine⟨_,rfl,_,_,_,rfl,XF.at_,E7,_,rfl,B,_,v,rfl,XF,Xc.1,Xc.2,n8,fun H6 hB6 m6=>?_⟩;refine⟨_,rfl,?_,m5.trans m6⟩;rw[take_snoc hv,sh];exact hB6
  ·rintro σ H5 ⟨x6,rfl,XF,m5⟩;have el:(d8 (cq s)).length=(cq s).length:=ae _;rw[el,bG]at XF;have acQ:=m5.kp _ _ aaF aae;have acR:=m5.kp _ _ ell aan;have Nt:=T9 S;have YK:=Nt.len;rw[bo]at YK;refine⟨_,rfl,_,rfl,_,rfl,ul,ll,_,_,rfl,rfl,acQ,acR,(by rw[ae,ae,bS];omega),fun q hq=>?_⟩;have s6:aQ H5 (upd H5 q (.lst (d8 (bX s)++d8 (cq s)))):=aQ.new hq;have eq6:upd H5 q (.lst (d8 (bX s)++d8 (cq s))) q=some (.lst (d8 (bX s++cq s))):=by rw[aq];unfold d8;rw[cz]
   generalize upd H5 q (.lst (d8 (bX s)++d8 (cq s)))=H6 at s6 eq6⊢;have hR6:=(oX (cq s) s b S hR Qk).2;refine⟨_,rfl,B,_,q,_,kb,b,rfl,XF.same s6,eq6,Nt,hR6,hb,hk,fun H7 hB7 m7=>?_⟩;have m47:=(m5.trans (Mv.same s6)).trans m7;have acP:=m47.kp _ _ aaF aae;have hL7:=hL4.same (m47.ib (X:=B.xs));have m07:Mv B.M H B.M H7:=(Mv.same (s1.trans T8)).trans m47;have lk:pX s (c9 kb ((cq s).foldl c8 s) (bX s++cq s)).1:=(B6 _ S Qk).trans (sy kb _ _ (oX (cq s) s b S hR Qk).1 fun m hm=>by
    rcases a_.mp hm with z|z;·exact uG z
    ·exact Qk m z)
   have himp:iW s kb=if(bX (c9 kb ((cq s).foldl c8 s) (bX s++cq s)).1).length<(bX s).length\/((bX (c9 kb ((cq s).foldl c8 s) (bX s++cq s)).1).length=(bX s).length/\mQ (c9 kb ((cq s).foldl c8 s) (bX s++cq s)).1<=mQ s)then some (c9 kb ((cq s).foldl c8 s) (bX s++cq s)).1 else none:=rfl;generalize (c9 kb ((cq s).foldl c8 s) (bX s++cq s)).1=t7 at hB7 lk himp;refine⟨_,rfl,_,_,_,rfl,hB7.at_,mG,B,t7,rfl,hB7,fun H8 ul8 s8 adY acO=>?_⟩;have YZ:=hB7.same s8;have VU:=s8 _ _ acP;have m08:Mv B.M H B.M H8:=m07.trans (Mv.same s8);have hL8:=hL7.same ((Mv.same (M:=B.M) s8).ib (X:=B.xs));refine⟨ul8,_,rfl,.inl (cN.of acO),?_⟩;refine⟨_,rfl,_,rfl,ul,_,rfl,.inl (cN.of VU),_,_,rfl,rfl,_,rfl,?_⟩;rw[ae,ae];by_cases c1:(bX t7).length<(bX s).length;·refine bD (by rw[au];omega) (bD rfl ?_);exact kS t7 (by rw[himp,aw (.inl c1)]) H8 YZ m08
   ·refine aI (by rw[au];omega) ?_;refine⟨_,rfl,_,rfl,ul,_,rfl,.inl (cN.of VU),rfl,_,rfl,?_⟩;rw[ae];by_cases c2:(bX t7).length=(bX s).length
    ·refine bD (by rw[au];exact Dy.mpr c2) ?_;refine⟨_,rfl,_,_,_,rfl,YZ.at_,qY,B,t7,rfl,YZ,fun H9 s9=>⟨_,rfl,_,_,rfl,rfl,_,rfl,?_⟩⟩;have hB9:=YZ.same s9;by_cases c3:mQ t7<=mQ s;·refine bD (by rw[au];omega) ?_;exact kS t7 (by rw[himp,aw (.inr ⟨c2,c3⟩)]) H9 hB9 (m08.trans (Mv.same s9))
     ·refine aI (by rw[au];omega) ?_;have EL:iW s kb=none:=by rw[himp,ao fun z=>z.elim c1 fun y=>c3 y.2]
      exact⟨_,rfl,_,_,_,rfl,hB9.at_,Ab,_,rfl,B,s,t7,t,rfl,hB9,hL8.same ((Mv.same (M:=B.M) s9).ib (X:=B.xs)),lk,S,hB.len,fun H' B' h1 h2 h3=>kN EL H' B' h1 h2 ((m08.trans (Mv.same s9)).trans h3)⟩
    ·refine aI (by rw[au];exact fun z=>c2 (Dy.mp z)) (aI af ?_);have EL:iW s kb=none:=by rw[himp,ao fun z=>z.elim c1 fun y=>c2 y.1]
     exact⟨_,rfl,_,_,_,rfl,YZ.at_,Ab,_,rfl,B,s,t7,t,rfl,YZ,hL8,lk,S,hB.len,fun H' B' h1 h2 h3=>kN EL H' B' h1 h2 (m08.trans h3)⟩
end
end Nw
namespace Nw
open PySem PySem.Spec PyProof.Rows L2
open Vbpcah (between)
theorem j2{lo z:Int}{tc:TE}(hi:Int)(hc:∀Q':VK,Q' (.int hi) H->tc σ H Q')(q:Q (.bl (bH z lo hi)) H):(RG fun i j=>V.bl (decide (i<=j))) (.int lo) (.int z) H fun z2 H3=>∃k,z2=V.bl k/\(if k=true then tc σ H3 fun w' H4=>(RG fun i j=>.bl (decide (i<=j))) (.int z) w' H4 Q else Q (.bl false) H3):=by
 refine⟨lo,z,rfl,rfl,_,rfl,z3 (fun h=>hc _ ⟨z,hi,rfl,rfl,?_⟩) fun h=>?_⟩
 ·rw[au]at h;have:bH z lo hi=decide (z<=hi):=by unfold bH;rw[dh,au,au];exact⟨fun x=>x.2,fun x=>⟨h,x⟩⟩
  rw[this]at q;exact q
 ·rw[au]at h;have:bH z lo hi=false:=by unfold bH;rw[gg];exact fun x=>h x.1
  rw[this]at q;exact q
abbrev mT(s:Bd)(x1 y1 x2 y2:Int):Bool:=decide (0<=x1/\x1<=x2/\x2<(s.g.w:Int)/\0<=y1/\y1<=y2/\y2<(s.g.h:Int))
abbrev ij(z:Int):Bool:=bH z 1 (Vbpcah.NETS:Int)
def By(s:Bd)(L x1 y1 x2 y2:Int):Int:=if bH L 0 (s.g.l:Int)=true then(if mT s x1 y1 x2 y2=true then 0 else-6)else-3
def Kw(s:Bd)(z L x1 y1 x2 y2:Int):Int:=if bH L 0 (s.g.l:Int)=true then(if ij z=true then(if mT s x1 y1 x2 y2=true then(if bf (s.net z.toNat)=true then-7 else if(s.net z.toNat).pins.length=16 then-10 else 0)else-6)else-5)else-3
def tR(s:Bd)(z:Int):Int:=if ij z=true then(if bf (s.net z.toNat)=true then-7 else if cw s z.toNat=true then 0 else-9)else-5
def nU(s:Bd)(z:Int):Int:=if ij z=true then(if bf (s.net z.toNat)=true then 0 else-8)else-5
def kU(z:Int):Int:=if bH z 0 1000=true then 0 else-12
def iz(s:Bd)(L x y:Int):Int:=if bH L 1 (s.g.l:Int)=true then(if mT s x y x y=true then 0 else-6)else-3
def Cc(s:Bd)(z r1 r2:Int):Int:=if r1= -3\/r2= -3 then-3 else if ij z=true then(if r1= -6\/r2= -6 then-6 else 0)else-5
theorem jG(h:ij z=true):∃n:Nat,z=(n:Int)/\1<=n/\n<=32:=by have:=(gi).mp h;have e:((Vbpcah.NETS:Nat):Int)=32:=rfl;rw[e]at this;exact⟨z.toNat,by omega,by omega,by omega⟩
section
variable{P:bT}{w:cU}{K:ag}{mg:Str->aY aA}{base:Heap}{c:Cs}{n:Nat}
inductive Tb(c:Cs)(vs:ab V)(H:Hp)(Q:VK):Prop
 |mk (z:Int) (q0:vs=[.int z]) (q1:Q (.bl (ij z)) H)
def sG(c:Cs):Sp:=fun vs H Q _=>Tb c vs H Q
abbrev D_:Stmt:=top 33
theorem PQ:bx ["net"] ["net"] (aU D_):={}
theorem P0(F:gY K "is_net" "is_net" D_ f fd)(T:Txt K mg c):cZ P w K mg base gZ 1 f fd ["net"] (sG c):=by
 refine F.ok PQ (fun vs H Q E h=>?_) (fun fR A outer s H vs Q E hr h=>?_);·obtain⟨z,rfl,_⟩:=h;rfl
 ·obtain⟨z,rfl,k⟩:=h;refine⟨_,(ay (aX (Kx i6 i6 aN (pv 0) (cb T.Bf)))),?_⟩;exact⟨_,rfl,j2 32 (fun _ q=>q) k⟩
inductive Gq(c:Cs)(vs:ab V)(H:Hp)(Q:VK):Prop
 |mk (B:BA) (s:Bd) (l:Addr) (L x1 y1 x2 y2:Int) (q0:vs=[.ref B.ob,.ref l]) (q1:bh c H B s) (q2:H l=some (.lst [.int L,.int x1,.int y1,.int x2,.int y2])) (q3:Q (.int (By s L x1 y1 x2 y2)) H)
def oW(c:Cs):Sp:=fun vs H Q _=>Gq c vs H Q
abbrev qR:Stmt:=top 34
theorem D9:bx ["board","box"] ["board","box"] (aU qR):={}
theorem En(F:gY K "box_refusal" "box_refusal" qR f fd)(T:Txt K mg c)(ir:bq P w K mg base c.d5 "holds_box" n ["self","box"] (xJ c)):cZ P w K mg base gZ (n+1) f fd ["board","box"] (oW c):=by
 refine F.ok D9 (fun vs H Q E h=>?_) (fun fR A outer s H vs Q E hr h=>?_);·obtain⟨B,s,l,L,x1,y1,x2,y2,rfl,_⟩:=h;rfl
 ·obtain⟨B,s,l,L,x1,y1,x2,y2,rfl,hB,hl,k⟩:=h;obtain⟨gx,nr,si,_⟩:=hB.d5.ex;unfold By at k;refine⟨_,(ah (cM (ia (kK i6 i6 aN (cD bA (pv 1) aN (fun _ _=>rfl)) (aZ (aZ (pv 0) rfl) rfl))) (ay (aX (cb T.j0))) br) (ah (cM (ia (dQ (bR (aZ (pv 0) rfl) ir hr (aa (pv 1) ak)) (fun _=>rfl))) (ay (aX (cb T.sX))) br) (ay (aX aN)))),?_⟩;refine MD ?_;intro oO lG;refine⟨_,rfl,_,_,_,_,rfl,rfl,cN.of hl,Gf,j2 (s.g.l:Int) (fun Q' q=>⟨_,rfl,_,_,_,_,_,rfl,hB.at_,T.bC,T.fS,fw,_,_,_,_,_,rfl,si,T.gC,T.rT,rS,q⟩) ⟨_,rfl,?_⟩⟩;cases hL:bH L 0 (s.g.l:Int)with
  |false=>rw[hL,ao af]at k;exact bD rfl k
  |true=>
   rw[hL,aw rfl]at k;refine aI (by simp) ?_;refine⟨_,rfl,_,_,_,_,_,rfl,hB.at_,T.bC,T.fS,fw,_,_,_,rfl,si,z6,_,rfl,B.gr,l,s.g,_,x1,y1,x2,y2,rfl,hB.d5,hl,_,rfl,?_⟩;cases hb:mT s x1 y1 x2 y2 with
   |false=>rw[hb,ao af]at k;exact bD (by rw[show decide _=false from hb];rfl) k
   |true=>rw[hb,aw rfl]at k;exact aI (by rw[show decide _=true from hb];simp) k
inductive Gk(c:Cs)(vs:ab V)(H:Hp)(Q:VK):Prop
 |mk (B:BA) (s:Bd) (l:Addr) (z L x1 y1 x2 y2:Int) (q0:vs=[.ref B.ob,.int z,.ref l]) (q1:bh c H B s) (q2:H l=some (.lst [.int L,.int x1,.int y1,.int x2,.int y2])) (q3:Q (.int (Kw s z L x1 y1 x2 y2)) H)
def zr(c:Cs):Sp:=fun vs H Q _=>Gk c vs H Q
theorem Bq:(V.int x=V.int y)↔x=y:=by rw[V.int.injEq]
abbrev qN:Stmt:=top 35
theorem uN:bx ["board","net","box","refusal"] ["board","net","box"] (aU qN):={}
theorem Ej(F:gY K "pin_refusal" "pin_refusal" qN f fd)(T:Txt K mg c)(gJ:bP P w K mg base "box_refusal" n ["board","box"] (oW c))(gy:bP P w K mg base "is_net" n ["net"] (sG c))(cg:bq P w K mg base c.bO "is_laid" n ["self","net"] (l8 c)):cZ P w K mg base gZ (n+1) f fd ["board","net","box"] (zr c):=by
 refine F.ok uN (fun vs H Q E h=>?_) (fun fR A outer s H vs Q E hr h=>?_);·obtain⟨B,s,l,z,L,x1,y1,x2,y2,rfl,_⟩:=h;rfl
 ·obtain⟨B,s,l,z,L,x1,y1,x2,y2,rfl,hB,hl,k⟩:=h;unfold Kw at k;refine⟨_,(ah (cE (i:=3) uN.nd rfl (bj rfl) (cK gJ hr (aa (pv 0) (aa (pv 2) ak)))) (ah (cM (bL iB (pv 3) (cb T.j0) (cJ _)) (ay (aX (cb T.j0))) br) (ah (cM (ia (dQ (cK gy hr (aa (pv 1) ak)) (fun _=>rfl))) (ay (aX (cb T.o7))) br) (ah (cM (bL n4 (pv 3) aN (cJ _)) (ay (aX (pv 3))) br) (ah (cM (dQ (bR (pv 0) cg hr (aa (pv 1) ak)) (fun _=>rfl)) (ay (aX (cb T.Bg))) br) (ah (cM (bL iB (dM dv rfl T.b.len jC (aa (cD bA (aZ (pv 0) rfl) (pv 1) (fun _ _=>rfl)) ak)) (cb T.KS) (cJ _)) (ay (aX (cb T.KQ))) br) (ay (aX aN)))))))),?_⟩;refine sq6 ?_;intro Vr Og GN uH oO lG;refine⟨_,rfl,_,rfl,B,s,l,L,x1,y1,x2,y2,rfl,hB,hl,?_⟩;refine⟨_,rfl,rfl,_,rfl,?_⟩;unfold By;cases hL:bH L 0 (s.g.l:Int)with
  |false=>rw[hL,ao af]at k;rw[ao af];exact bD (by simp) k
  |true=>
   rw[hL,aw rfl]at k;rw[aw rfl];refine aI (by rw[au,Bq];split<;>decide) ?_;refine⟨_,rfl,z,rfl,_,rfl,?_⟩;cases hn:ij z with
   |false=>rw[hn,ao af]at k;exact bD rfl k
   |true=>
    rw[hn,aw rfl]at k;obtain⟨nt,rfl,h1,h2⟩:=jG hn;rw[aJ]at k;refine aI (by simp) ?_;refine⟨_,rfl,rfl,_,rfl,?_⟩;cases hb:mT s x1 y1 x2 y2 with
    |false=>rw[hb,ao af]at k;rw[ao af];exact bD (by simp) ⟨_,rfl,k⟩
    |true=>
     rw[hb,aw rfl]at k;rw[aw rfl];refine aI (by simp) ?_;refine⟨_,rfl,_,_,_,rfl,hB.at_,j4,_,rfl,B,s,nt,rfl,hB,h1,h2,_,rfl,?_⟩;cases hd:bf (s.net nt)with
     |true=>rw[hd,aw rfl]at k;exact bD rfl k
     |false=>
      rw[hd,ao af]at k;refine aI af ?_;obtain⟨pl,e1,e2⟩:=qt hB h1 h2;obtain⟨zs,Di,Fu,OY⟩:=e2.nZ;refine⟨_,rfl,_,_,_,_,_,rfl,hB.at_,T.bC,T.nH,kW,_,rfl,_,_,_,_,rfl,rfl,cN.of hB.pi,cA e1,pl,_,rfl,.inl (cN.of Fu),rfl,_,rfl,?_⟩;have el:(eI zs).length=(s.net nt).pins.length:=by rw[<-Di];unfold eI;rw[ae,ae]
      rw[el];by_cases hf:(s.net nt).pins.length=16;·rw[aw hf]at k;exact bD (by rw[au,Bq];omega) k
      ·rw[ao hf]at k;exact aI (by rw[au,Bq];omega) k
inductive Ff(c:Cs)(vs:ab V)(H:Hp)(Q:VK):Prop
 |mk (B:BA) (s:Bd) (z:Int) (q0:vs=[.ref B.ob,.int z]) (q1:bh c H B s) (q2:Q (.int (tR s z)) H)
def qI(c:Cs):Sp:=fun vs H Q _=>Ff c vs H Q
abbrev pA:Stmt:=top 36
theorem Cu:bx ["board","net"] ["board","net"] (aU pA):={}
theorem CF(F:gY K "tree_refusal" "tree_refusal" pA f fd)(T:Txt K mg c)(gy:bP P w K mg base "is_net" n ["net"] (sG c))(cg:bq P w K mg base c.bO "is_laid" n ["self","net"] (l8 c)):cZ P w K mg base gZ (n+1) f fd ["board","net"] (qI c):=by
 refine F.ok Cu (fun vs H Q E h=>?_) (fun fR A outer s H vs Q E hr h=>?_);·obtain⟨B,s,z,rfl,_⟩:=h;rfl
 ·obtain⟨B,s,z,rfl,hB,k⟩:=h;unfold tR at k;refine⟨_,(ah (cM (ia (dQ (cK gy hr (aa (pv 1) ak)) (fun _=>rfl))) (ay (aX (cb T.o7))) br) (ah (cM (dQ (bR (pv 0) cg hr (aa (pv 1) ak)) (fun _=>rfl)) (ay (aX (cb T.Bg))) br) (ah (cM (ia (dQ (cD bA (aZ (pv 0) rfl) (pv 1) (fun _ _=>rfl)) (fun _=>rfl))) (ay (aX (cb T.P4))) br) (ay (aX aN))))),?_⟩;refine MC ?_;intro uH oO lG;refine⟨_,rfl,z,rfl,_,rfl,?_⟩;cases hn:ij z with
  |false=>rw[hn,ao af]at k;exact bD rfl k
  |true=>
   rw[hn,aw rfl]at k;obtain⟨nt,rfl,h1,h2⟩:=jG hn;rw[aJ]at k;refine aI (by simp) ?_;refine⟨_,rfl,_,_,_,rfl,hB.at_,j4,_,rfl,B,s,nt,rfl,hB,h1,h2,_,rfl,?_⟩;cases hd:bf (s.net nt)with
   |true=>rw[hd,aw rfl]at k;exact bD rfl k
   |false=>
    rw[hd,ao af]at k;refine aI af ?_;obtain⟨pl,e1,e2⟩:=qt hB h1 h2;obtain⟨zs,Di,Fu,OY⟩:=e2.nZ;refine⟨_,rfl,_,_,_,_,_,rfl,hB.at_,T.bC,T.nH,kW,_,rfl,_,_,_,_,rfl,rfl,cN.of hB.pi,cA e1,_,.inl ⟨_,cN.of Fu,rfl⟩,?_⟩;have ep:cw s nt=!(eI zs).isEmpty:=by unfold cw;rw[<-Di];cases zs<;>rfl
    rw[ep]at k;cases hz:(eI zs).isEmpty with
    |true=>rw[hz]at k;exact bD rfl k
    |false=>rw[hz]at k;exact aI (by simp) k
inductive Fe(c:Cs)(vs:ab V)(H:Hp)(Q:VK):Prop
 |mk (B:BA) (s:Bd) (z:Int) (q0:vs=[.ref B.ob,.int z]) (q1:bh c H B s) (q2:Q (.int (nU s z)) H)
def nO(c:Cs):Sp:=fun vs H Q _=>Fe c vs H Q
abbrev pz:Stmt:=top 37
theorem Ct:bx ["board","net"] ["board","net"] (aU pz):={}
theorem CD(F:gY K "ways_refusal" "ways_refusal" pz f fd)(T:Txt K mg c)(gy:bP P w K mg base "is_net" n ["net"] (sG c))(cg:bq P w K mg base c.bO "is_laid" n ["self","net"] (l8 c)):cZ P w K mg base gZ (n+1) f fd ["board","net"] (nO c):=by
 refine F.ok Ct (fun vs H Q E h=>?_) (fun fR A outer s H vs Q E hr h=>?_);·obtain⟨B,s,z,rfl,_⟩:=h;rfl
 ·obtain⟨B,s,z,rfl,hB,k⟩:=h;unfold nU at k;refine⟨_,(ah (cM (ia (dQ (cK gy hr (aa (pv 1) ak)) (fun _=>rfl))) (ay (aX (cb T.o7))) br) (ah (cM (ia (dQ (bR (pv 0) cg hr (aa (pv 1) ak)) (fun _=>rfl))) (ay (aX (cb T.M9))) br) (ay (aX aN)))),?_⟩;refine MD ?_;intro oO lG;refine⟨_,rfl,z,rfl,_,rfl,?_⟩;cases hn:ij z with
  |false=>rw[hn,ao af]at k;exact bD rfl k
  |true=>
   rw[hn,aw rfl]at k;obtain⟨nt,rfl,h1,h2⟩:=jG hn;rw[aJ]at k;refine aI (by simp) ?_;refine⟨_,rfl,_,_,_,rfl,hB.at_,j4,_,rfl,B,s,nt,rfl,hB,h1,h2,_,rfl,?_⟩;cases hd:bf (s.net nt)with
   |true=>rw[hd,aw rfl]at k;exact aI (by simp) k
   |false=>rw[hd,ao af]at k;exact bD rfl k
inductive BE(c:Cs)(vs:ab V)(H:Hp)(Q:VK):Prop
 |mk (z:Int) (q0:vs=[.int z]) (q1:Q (.int (kU z)) H)
def oh(c:Cs):Sp:=fun vs H Q _=>BE c vs H Q
abbrev nh:Stmt:=top 38
theorem zB:bx ["budget"] ["budget"] (aU nh):={}
theorem zN(F:gY K "budget_refusal" "budget_refusal" nh f fd)(T:Txt K mg c):cZ P w K mg base gZ 1 f fd ["budget"] (oh c):=by
 refine F.ok zB (fun vs H Q E h=>?_) (fun fR A outer s H vs Q E hr h=>?_);·obtain⟨z,rfl,_⟩:=h;rfl
 ·obtain⟨z,rfl,k⟩:=h;unfold kU at k;refine⟨_,(ah (cM (ia (kK i6 i6 aN (pv 0) (cb T.I0))) (ay (aX (cb T.I_))) br) (ay (aX aN))),?_⟩;refine QW ?_;intro lG;refine⟨_,rfl,j2 1000 (fun _ q=>q) ⟨_,rfl,?_⟩⟩;cases hn:bH z 0 1000 with
  |false=>rw[hn,ao af]at k;exact bD rfl k
  |true=>rw[hn,aw rfl]at k;exact aI (by simp) k
inductive Fg(c:Cs)(vs:ab V)(H:Hp)(Q:VK):Prop
 |mk (B:BA) (s:Bd) (l:Addr) (L x y:Int) (q0:vs=[.ref B.ob,.ref l]) (q1:bh c H B s) (q2:H l=some (.lst [.int L,.int x,.int y])) (q3:∀H',aQ H H'->Q (.int (iz s L x y)) H')
def qJ(c:Cs):Sp:=fun vs H Q _=>Fg c vs H Q
abbrev pB:Stmt:=top 39
theorem Cv:bx ["board","spot"] ["board","spot"] (aU pB):={}
theorem CG(F:gY K "spot_refusal" "spot_refusal" pB f fd)(T:Txt K mg c)(ir:bq P w K mg base c.d5 "holds_box" n ["self","box"] (xJ c)):cZ P w K mg base gZ (n+1) f fd ["board","spot"] (qJ c):=by
 refine F.ok Cv (fun vs H Q E h=>?_) (fun fR A outer s H vs Q E hr h=>?_);·obtain⟨B,s,l,L,x,y,rfl,_⟩:=h;rfl
 ·obtain⟨B,s,l,L,x,y,rfl,hB,hl,k⟩:=h;obtain⟨gx,nr,si,_⟩:=hB.d5.ex;unfold iz at k;refine⟨_,(ah (cM (ia (kK i6 i6 aN (cD bA (pv 1) aN (fun _ _=>rfl)) (aZ (aZ (pv 0) rfl) rfl))) (ay (aX (cb T.j0))) br) (ah (cM (ia (dQ (bR (aZ (pv 0) rfl) ir hr (aa (dj A8 (pv 1) (nY qk (pv 1) (mr aN) zL)) ak)) (fun _=>rfl))) (ay (aX (cb T.sX))) br) (ay (aX aN)))),?_⟩;refine MD ?_;intro oO lG;refine⟨_,rfl,_,_,_,_,rfl,rfl,cN.of hl,Gf,j2 (s.g.l:Int) (fun Q' q=>⟨_,rfl,_,_,_,_,_,rfl,hB.at_,T.bC,T.fS,fw,_,_,_,_,_,rfl,si,T.gC,T.rT,rS,q⟩) ⟨_,rfl,?_⟩⟩;cases hL:bH L 1 (s.g.l:Int)with
  |false=>rw[hL,ao af]at k;exact bD rfl (k H fun _ _ e=>e)
  |true=>
   rw[hL,aw rfl]at k;refine aI (by simp) ?_;refine⟨_,rfl,_,_,_,_,_,rfl,hB.at_,T.bC,T.fS,fw,_,_,_,rfl,si,z6,_,rfl,_,rfl,_,rfl,l,_,rfl,cN.of hl,fun q hq=>?_⟩;rw[Dm];have s1:aQ H (upd H q (.lst [.int x,.int y])):=aQ.new hq;refine⟨l,q,_,_,rfl,rfl,s1 _ _ hl,aq,(by show 5<=sizeLine;decide),fun q2 JW=>?_⟩;have s2:=s1.trans (aQ.new (o:=.lst ([.int L,.int x,.int y]++[.int x,.int y])) JW);refine⟨B.gr,q2,s.g,_,x,y,x,y,rfl,hB.d5.same s2,aq,_,rfl,?_⟩;have k:=k _ s2;cases hb:mT s x y x y with
   |false=>rw[hb,ao af]at k;exact bD (by rw[show decide _=false from hb];rfl) k
   |true=>rw[hb,aw rfl]at k;exact aI (by rw[show decide _=true from hb];simp) k
inductive Fi(c:Cs)(vs:ab V)(H:Hp)(Q:VK):Prop
 |mk (B:BA) (s:Bd) (t l m:Addr) (z L x y L2 x2 y2:Int) (q0:vs=[.ref B.ob,.int z,.ref t]) (q1:bh c H B s) (q2:H t=some (.tup [.ref l,.ref m])) (q3:H l=some (.lst [.int L,.int x,.int y])) (q4:H m=some (.lst [.int L2,.int x2,.int y2])) (q5:∀H',aQ H H'->Q (.int (Cc s z (iz s L x y) (iz s L2 x2 y2))) H')
def xh(c:Cs):Sp:=fun vs H Q _=>Fi c vs H Q
theorem OX:Tp (.int z) [.int r1,.int r2]=decide (r1=z\/r2=z):=by show((r1==z)||((r2==z)||false))=_;rw[Bool.or_false,dh,au];simp only[eQ,dU]
theorem UA{te:TE}{Qd:Hp->Prop}(f:V->V)(hD:H1 D=none)(ha:q_ K H1 a xs)(hk:∀H',aQ H1 H'->q_ K H' a xs)(hw:∀x,wipe ((wipe σ vs).set j (some x)) vs=wipe σ vs)(hn:xs.length<1000000)(ht:∀(x:V)(H':Hp)(Q:VK),x∈xs->aQ H1 H'->(∀Pk,aQ H' Pk->Q (f x) Pk)->te ((wipe σ vs).set j (some x)) H' Q)(hd:∀H',aQ H1 H'->H' D=some (.lst (xs.map f))->Qd H'):∃W:Nat->Nat->Hp->Prop,(∃m,W 0 m (upd H1 D (.lst [])))/\∀i m H,W i m H->((V0 K a).stop i H/\Qd H)\/((V0 K a).go i H/\∃Nx:Hp->Prop,(∀H',Nx H'->∃m',m'<m/\W (i+1) m' H')/\∀x H',(V0 K a).L8 i H x H'->vw j x (wipe σ vs) H' fun σ2 H2=>wipe σ2 vs=wipe σ vs/\Rh σ2 H2 fun b H3=> if b=true then te σ2 H3 fun y H4=>∃acc,H4 D=some (.lst acc)/\acc.length<sizeLine/\Nx (upd H4 D (.lst (acc++[y])))else Nx H3):=by refine Nh (xs:=xs) (fun i H'=>aQ H1 H'/\H' D=some (.lst ((xs.take i).map f))) ⟨aQ.new hD,aq⟩ (fun i H' _ q=>hk _ q.1) ?_ fun H' q=>hd H' q.1 (by have:=q.2;rw[bG]at this;exact this);rintro i x H2 hi ⟨s2,e2⟩;have Si:=(aW.mp hi).1;refine⟨hw _,Mg (ht x H2 _ (aH hi) s2 fun H3 s3=>?_)⟩;refine⟨_,s3 _ _ e2,by rw[ae,cS,bS];omega,aQ.put (s2.trans s3) hD,?_⟩;rw[aq,take_snoc hi,cz];rfl
abbrev pC:Stmt:=top 40
theorem oj:bx ["board","net","spots","refusals","spot"] ["board","net","spots"] (aU pC):={}
theorem CH(F:gY K "cost_refusal" "cost_refusal" pC f fd)(T:Txt K mg c)(jl:bP P w K mg base "spot_refusal" n ["board","spot"] (qJ c))(gy:bP P w K mg base "is_net" n ["net"] (sG c)):cZ P w K mg base gZ (n+1) f fd ["board","net","spots"] (xh c):=by
 refine F.ok oj (fun vs H Q E h=>?_) (fun fR A outer s H vs Q E hr h=>?_);·obtain⟨B,s,t,l,m,z,L,x,y,L2,x2,y2,rfl,_⟩:=h;rfl
 ·obtain⟨B,s,t,l,m,z,L,x,y,L2,x2,y2,rfl,hB,ht,hl,hm,k⟩:=h;unfold Cc at k;refine⟨_,(ah (pH (i:=3) (own:=[("spot",4)]) rfl oj.nd rfl rfl (sD rfl rfl rfl rfl) (MR (pv 2)) (eG (by kernel_rfl)) (fun _ _ _ _ _=>cQ (i:=4) oj.nd rfl (bj rfl)) (fun _ _ _ _ _=>jz) (fun _ _ _ _ _=>(cK jl hr (aa (pv 0) (aa (pv 4) ak))))) (ah (cM (bL nB (cb T.j0) (pv 3) rfl) (ay (aX (cb T.j0))) br) (ah (cM (ia (dQ (cK gy hr (aa (pv 1) ak)) (fun _=>rfl))) (ay (aX (cb T.o7))) br) (ah (cM (bL nB (cb T.sX) (pv 3) rfl) (ay (aX (cb T.sX))) br) (ay (aX aN)))))),?_⟩;refine Yw ?_;intro GN uH oO lG;refine⟨_,rfl,t,rfl,⟨_,q_.of ht⟩,fun D hD=>?_⟩;refine Nh (K:=K) (a:=t) (xs:=[.ref l,.ref m]) (fun i H'=>aQ H H'/\H' D=some (.lst (([V.int (iz s L x y),V.int (iz s L2 x2 y2)]).take i))) ⟨aQ.new hD,aq⟩ (fun i H' _ q=>q_.of (q.1 _ _ ht)) ?_ ?_
  ·rintro i v H1 hi ⟨s1,e1⟩;refine⟨rfl,Mg ?_⟩;match i,hi with
   |0,hi=>cases hi;exact⟨_,rfl,_,rfl,B,s,l,L,x,y,rfl,hB.same s1,s1 _ _ hl,fun H2 s2=>⟨_,s2 _ _ e1,(by show 0<sizeLine;decide),aQ.put (s1.trans s2) hD,aq⟩⟩
   |1,hi=>cases hi;exact⟨_,rfl,_,rfl,B,s,m,L2,x2,y2,rfl,hB.same s1,s1 _ _ hm,fun H2 s2=>⟨_,s2 _ _ e1,(by show 1<sizeLine;decide),aQ.put (s1.trans s2) hD,aq⟩⟩
   |i+2,hi=>simp at hi
  ·rintro H1 ⟨s1,e1⟩;have e1:H1 D=some (.lst [V.int (iz s L x y),V.int (iz s L2 x2 y2)]):=e1;have k:=k H1 s1;generalize iz s L x y=r1 at e1 k;generalize iz s L2 x2 y2=r2 at e1 k;refine⟨_,rfl,D,_,rfl,.inl (cN.of e1),rfl,rfl,_,rfl,?_⟩;rw[ao af,OX];by_cases h1:r1= -3\/r2= -3;·rw[aw h1]at k;exact bD (gD h1) k
   ·rw[ao h1]at k;refine aI (by rw[au];exact h1) ?_;refine⟨_,rfl,z,rfl,_,rfl,?_⟩;cases hn:ij z with
    |false=>rw[hn,ao af]at k;exact bD rfl k
    |true=>
     rw[hn,aw rfl]at k;refine aI (by simp) ?_;refine⟨_,rfl,D,_,rfl,.inl (cN.of e1),rfl,rfl,_,rfl,?_⟩;rw[ao af,OX];by_cases h2:r1= -6\/r2= -6;·rw[aw h2]at k;exact bD (gD h2) k
     ·rw[ao h2]at k;exact aI (by rw[au];exact h2) k
end
end Nw
namespace Nw
open Vbpcah (between Board)
variable(s:fM)
theorem DR(w h l:Int):aP s (.begin_ w h l)=if(bH w 1 24&&(bH h 1 24&&bH l 1 4))=true then(mP w.toNat h.toNat l.toNat,[0])else(s,[-1]):=by unfold aP eE;cases h:(bH w 1 24&&(bH h 1 24&&bH l 1 4))<;>(simp only[cf,bind,ck,pure,cj,h];rfl)
theorem DP(a b c:Int):aP s (.costs a b c)=if(bH a 1 1000&&(bH b 1 1000&&bH c 1 1000))=true then({s with via:=a.toNat,wrong:=b.toNat,penalty:=c.toNat},[0])else(s,[-2]):=by unfold aP eE;cases h:(bH a 1 1000&&(bH b 1 1000&&bH c 1 1000))<;>(simp only[cf,bind,ck,pure,cj,h];rfl)
theorem BU(L d:Int):aP s (.prefer L d)=if bH L 1 (s.g.l:Int)=true then(if bH d 0 2=true then({s with dirs:=s.dirs.set (L.toNat-1) d.toNat},[0])else(s,[-4]))else(s,[-3]):=by unfold aP eE;cases h:bH L 1 (s.g.l:Int)<;>cases h2:bH d 0 2<;>(simp only[gc,cf,bind,ck,pure,cj,h,h2];rfl)
abbrev EK(L x1 y1 x2 y2:Int):Bool:=(dq s L x1 y1 x2 y2).all fun v=>(dB s).getD v 0==0&&(cB s).getD v 0==0
theorem DQ(L x1 y1 x2 y2:Int):aP s (.block L x1 y1 x2 y2)=if By s L x1 y1 x2 y2=0 then(if EK s L x1 y1 x2 y2=true then({s with blocked:=(cP s.g.size).filter fun v=>s.blocked.contains v||(dq s L x1 y1 x2 y2).contains v},[0])else(s,[-11]))else(s,[By s L x1 y1 x2 y2]):=by
 unfold aP eE By;cases h:bH L 0 (s.g.l:Int);·simp[fC,cf,bind,ck,pure,cj,h]
 ·cases h2:mT s x1 y1 x2 y2;·simp only[fC,gf,cf,bind,ck,pure,cj,h,h2];simp
  ·cases h3:EK s L x1 y1 x2 y2<;>(simp only[fC,gf,cf,bind,ck,pure,cj,h,h2,h3];simp)
theorem GS(L x1 y1 x2 y2:Int):aP s (.free L x1 y1 x2 y2)=if By s L x1 y1 x2 y2=0 then({s with blocked:=s.blocked.filter fun v=>!(dq s L x1 y1 x2 y2).contains v},[0])else(s,[By s L x1 y1 x2 y2]):=by
 unfold aP eE By;cases h:bH L 0 (s.g.l:Int);·simp[fC,cf,bind,ck,pure,cj,h]
 ·cases h2:mT s x1 y1 x2 y2<;>(simp only[fC,gf,cf,bind,ck,pure,cj,h,h2];simp)
theorem Kb(S:Good s)(z L x1 y1 x2 y2:Int):aP s (.pin z L x1 y1 x2 y2)=if Kw s z L x1 y1 x2 y2=0 then(if yG s z.toNat (dq s L x1 y1 x2 y2)=true then(s.setNet z.toNat {s.net z.toNat with pins:=(s.net z.toNat).pins++[dq s L x1 y1 x2 y2]},[((s.net z.toNat).pins.length:Int)+1])else(s,[-11]))else(s,[Kw s z L x1 y1 x2 y2]):=by
 unfold aP eE Kw;cases h:bH L 0 (s.g.l:Int);·simp[fC,cf,bind,ck,pure,cj,h]
 ·cases h1:ij z;·simp only[fC,dE,cf,bind,ck,pure,cj,h,h1];simp
  ·cases h2:mT s x1 y1 x2 y2;·simp only[fC,dE,gf,cf,bind,ck,pure,cj,h,h1,h2];simp
   ·obtain⟨n,rfl,n1,n2⟩:=jG h1;have hp:=S.nz n n1 n2;rw[aJ];cases h3:bf (s.net n)
    ·by_cases h4:(s.net n).pins.length=16;·have h5:decide ((s.net n).pins.length<CT)=false:=dH (by unfold CT;omega);simp only[fC,dE,gf,cf,bind,ck,pure,cj,h,h1,h2,h3,h5,aJ];simp[h4]
     ·have h5:decide ((s.net n).pins.length<CT)=true:=gD (by unfold CT;omega);cases h6:yG s n (dq s L x1 y1 x2 y2)<;>(simp only[fC,dE,gf,cf,bind,ck,pure,cj,h,h1,h2,h3,h5,h6,aJ];simp[h4])
    ·simp only[fC,dE,gf,cf,bind,ck,pure,cj,h,h1,h2,h3,aJ];simp
theorem step_drop(z:Int):aP s (.drop z)=if ij z=true then(if bf (s.net z.toNat)=true then(s,[-7])else(s.setNet z.toNat eR,[((s.net z.toNat).pins.length:Int)]))else(s,[-5]):=by unfold aP eE;cases h:ij z<;>cases h2:bf (s.net z.toNat)<;>(simp only[dE,cf,bind,ck,pure,cj,h,h2];simp)
theorem DN(z:Int):aP s (.route z)=if tR s z=0 then(match gQ s z.toNat with|some t=>(eX s z.toNat t.1,[(t.2:Int)])|none=>(s,[-14]))else(s,[tR s z]):=by unfold aP eE tR;cases h:ij z<;>cases h2:bf (s.net z.toNat)<;>cases h3:cw s z.toNat<;>(simp only[dE,cf,bind,ck,pure,cj,h,h2,h3];simp);cases gQ s z.toNat<;>rfl
theorem Ka(z:Int):aP s (.rip z)=if nU s z=0 then(c8 s z.toNat,[0])else(s,[nU s z]):=by unfold aP eE nU;cases h:ij z<;>cases h2:bf (s.net z.toNat)<;>(simp only[dE,cf,bind,ck,pure,cj,h,h2];simp)
theorem Az(z:Int):aP s (.soft z)=(s,if tR s z=0 then(match gL s z.toNat with|some t=>(t.2.1:Int)::dW t.2.2|none=>[-14])else[tR s z]):=by unfold aP eE tR;cases h:ij z<;>cases h2:bf (s.net z.toNat)<;>cases h3:cw s z.toNat<;>(simp only[dE,cf,bind,ck,pure,cj,h,h2,h3];simp);cases gL s z.toNat<;>rfl
theorem DO(l:ab Int):aP s (.order l)=if l.all ij=true then(lT s (l.map kQ),dW (bX (lT s (l.map kQ))))else(s,[-5]):=by unfold aP eE;cases h:l.all ij<;>(simp only[cf,bind,ck,pure,cj];rw[show(l.all fun n=>bH n 1 (Vbpcah.NETS:Int))=_ from h];simp)
theorem GU(z:Int):aP s (.auto z)=if kU z=0 then((qd s z.toNat).1,((qd s z.toNat).2:Int)::dW (bX (qd s z.toNat).1))else(s,[kU z]):=by unfold aP eE kU;cases h:bH z 0 1000<;>(simp only[cf,bind,ck,pure,cj,h];simp)
theorem zh(z:Int):aP s (.improve z)=if kU z=0 then(match iW s z.toNat with|some t=>(t,1::dW (bX t))|none=>(s,0::dW (bX s)))else(s,[kU z]):=by unfold aP eE kU;cases h:bH z 0 1000<;>(simp only[cf,bind,ck,pure,cj,h];simp);cases iW s z.toNat<;>rfl
abbrev cellOf(L x y:Int):Nat:=s.g.cell (L.toNat-1) x.toNat y.toNat
theorem AB(L x y:Int):aP s (.cell L x y)=(s,if iz s L x y=0 then(if(dB s).getD (cellOf s L x y) 0≠0 then[2,((dB s).getD (cellOf s L x y) 0:Int)]else if(cB s).getD (cellOf s L x y) 0≠0 then[3,((cB s).getD (cellOf s L x y) 0:Int)]else if s.blocked.contains (cellOf s L x y)=true then[1,0]else[0,0])else[iz s L x y]):=by
 unfold aP eE iz;cases h:bH L 1 (s.g.l:Int);·simp[gc,cf,bind,ck,pure,cj,h]
 ·cases h2:mT s x y x y;·simp only[gc,gf,cf,bind,ck,pure,cj,h,h2];simp
  ·simp only[gc,gf,cf,bind,ck,pure,cj,h,h2];rfl
theorem DM(z k:Int):aP s (.way z k)=(s,if nU s z=0 then(match(s.net z.toNat).ways with|none=>[]|some l=>if bH k 1 (l.length:Int)=true then((l.getD (k.toNat-1) []).length:Int)::(l.getD (k.toNat-1) []).flatMap (n9 s.g)else[-13])else[nU s z]):=by
 unfold aP eE nU bf;cases h:ij z;·simp only[dE,cf,bind,ck,pure,cj,h];simp
 ·cases h2:(s.net z.toNat).ways with
  |none=>simp only[dE,cf,bind,ck,pure,cj,h,h2];simp
  |some l=>cases h3:bH k 1 (l.length:Int)<;>(simp only[dE,cf,bind,ck,pure,cj,h,h2,h3];simp)
theorem Ay(z:Int):aP s (.tree z)=(s,if nU s z=0 then(match(s.net z.toNat).ways with|none=>[]|some l=>[(mO s z.toNat:Int),(l.length:Int),(((cP s.g.size).filter fun v=>(aM s.g (s.net z.toNat)).contains v).length:Int)])else[nU s z]):=by
 unfold aP eE nU bf;cases h:ij z;·simp only[dE,cf,bind,ck,pure,cj,h];simp
 ·cases h2:(s.net z.toNat).ways with
  |none=>simp only[dE,cf,bind,ck,pure,cj,h,h2];simp
  |some l=>simp only[dE,cf,bind,ck,pure,cj,h,h2];simp
abbrev qH(n v:Nat):Bool:=(iu s n).getD v false
theorem AA(z L x y L2 x2 y2:Int):aP s (.cost z L x y L2 x2 y2)=(s,if Cc s z (iz s L x y) (iz s L2 x2 y2)=0 then(if(qH s z.toNat (cellOf s L x y)&&qH s z.toNat (cellOf s L2 x2 y2))=true then(match(dy s.g (az s.g fun v=>(iu s z.toNat).getD v false) (dz s) [cellOf s L x y]).at_ (cellOf s L2 x2 y2)with|some c=>[(c:Int)]|none=>[-14])else[-14])else[Cc s z (iz s L x y) (iz s L2 x2 y2)]):=by
 unfold aP eE Cc iz;cases h1:bH L 1 (s.g.l:Int);·simp[gc,cf,bind,ck,pure,cj,h1]
 ·cases h2:bH L2 1 (s.g.l:Int);·simp[gc,cf,bind,ck,pure,cj,h1,h2]
  ·cases h3:ij z;·simp only[gc,dE,cf,bind,ck,pure,cj,h1,h2,h3];cases h4:mT s x y x y<;>cases h5:mT s x2 y2 x2 y2<;>simp
   ·cases h4:mT s x y x y;·simp only[gc,dE,gf,cf,bind,ck,pure,cj,h1,h2,h3,h4];cases h5:mT s x2 y2 x2 y2<;>simp
    ·cases h5:mT s x2 y2 x2 y2;·simp only[gc,dE,gf,cf,bind,ck,pure,cj,h1,h2,h3,h4,h5];simp
     ·cases h6:(qH s z.toNat (cellOf s L x y)&&qH s z.toNat (cellOf s L2 x2 y2));·simp only[gc,dE,gf,cf,bind,ck,pure,cj,h1,h2,h3,h4,h5,h6];simp
      ·cases hw:(dy s.g (az s.g fun v=>(iu s z.toNat).getD v false) (dz s) [cellOf s L x y]).at_ (cellOf s L2 x2 y2)<;>(simp only[gc,dE,gf,cf,bind,ck,pure,cj,h1,h2,h3,h4,h5,h6,hw];rfl)
end Nw
namespace Nw
open PySem PySem.Spec PyProof.Rows L2
open Vbpcah (between)
abbrev HG(Q:VK)(H:Hp)(ys:ab Int):Prop:=∀(H':Hp)(l:Addr),aQ H H'->H l=none->H' l=some (.lst (ys.map V.int))->Q (.ref l) H'
theorem HG.same(h:HG Q H ys)(s:aQ H H1):HG Q H1 ys:=fun H' l s' hl e=>h H' l (s.trans s') (s.free hl) e
theorem HG.one(h:HG Q H ys)(e:ys=[x]):[V.int x].length<=sizeLine/\∀p,H p=none->Q (.ref p) (upd H p (.lst [V.int x])):=by subst e;exact⟨by show 1<=sizeLine;decide,fun p hp=>h _ p (aQ.new hp) hp aq⟩
theorem LG(ns:ab Nat):(dW ns).map V.int=V.int (ns.length:Int)::d8 ns:=by unfold dW Vbpcah.ints;rw[cx,c_];rfl
theorem ml(h:r≠0):(!decide (V.int r=V.int 0))=true:=by rw[fm,gg,Bq];exact h
theorem mq(h:r=0):¬(!decide (V.int r=V.int 0))=true:=by rw[fm,gg,Bq];exact fun z=>z h
theorem DB(h:tR s z=0):∃n:Nat,z=(n:Int)/\(1<=n/\n<=32)/\(s.net n).ways=none/\(s.net n).pins≠[]:=by
 unfold tR at h;cases hn:ij z with
 |false=>rw[hn,ao af]at h;cases h
 |true=>
  obtain⟨n,rfl,h1,h2⟩:=jG hn;rw[hn,aw rfl,aJ]at h;cases hl:bf (s.net n)with
  |true=>rw[hl,aw rfl]at h;cases h
  |false=>
   rw[hl,ao af]at h;cases hp:cw s n with
   |false=>rw[hp,ao af]at h;cases h
   |true=>
    refine⟨n,rfl,⟨h1,h2⟩,?_,fun e=>?_⟩
    ·cases e:(s.net n).ways with
     |none=>rfl
     |some w=>unfold bf at hl;rw[e]at hl;cases hl
    ·unfold cw at hp;rw[e]at hp;cases hp
theorem su(h:nU s z=0):∃n:Nat,z=(n:Int)/\(1<=n/\n<=32)/\∃ws,(s.net n).ways=some ws:=by
 unfold nU at h;cases hn:ij z with
 |false=>rw[hn,ao af]at h;cases h
 |true=>
  obtain⟨n,rfl,h1,h2⟩:=jG hn;rw[hn,aw rfl,aJ]at h;cases hl:bf (s.net n)with
  |false=>rw[hl,ao af]at h;cases h
  |true=>exact⟨n,rfl,⟨h1,h2⟩,Jg hl⟩
theorem xF(h:iz s L x y=0):(1<=L/\L<=s.g.l)/\(0<=x/\x<s.g.w)/\(0<=y/\y<s.g.h):=by
 unfold iz at h;cases hL:bH L 1 (s.g.l:Int)with
 |false=>rw[hL,ao af]at h;cases h
 |true=>
  rw[hL,aw rfl]at h;cases hb:mT s x y x y with
  |false=>rw[hb,ao af]at h;cases h
  |true=>have h1:=gi.mp hL;have h2:=uj hb;exact⟨h1,⟨h2.1,h2.2.2.1⟩,h2.2.2.2.1,h2.2.2.2.2.2⟩
theorem Bx{s:Bd}{L x y:Int}(h:(1<=L/\L<=s.g.l)/\(0<=x/\x<s.g.w)/\(0<=y/\y<s.g.h)):cellOf s L x y<s.g.size:=by obtain⟨⟨h1,h2⟩,⟨h3,h4⟩,h5,h6⟩:=h;exact mE (by omega) (by omega) (by omega)
section
variable{P:bT}{w:cU}{K:ag}{mg:Str->aY aA}{base:Heap}{c:Cs}{n:Nat}
inductive NX(c:Cs)(vs:ab V)(H:Hp)(Q:VK):Prop
 |mk (l:Addr) (ns:ab Nat) (q0:vs=[.ref l]) (q1:H l=some (.lst (d8 ns))) (q2:ns.length<1000) (q3:HG Q H (dW ns))
def AF(c:Cs):Sp:=fun vs H Q _=>NX c vs H Q
abbrev AQ:Stmt:=top 63
theorem MF:bx ["numbers"] ["numbers"] (aU AQ):={}
theorem MZ(F:gY K "counted" "counted" AQ f fd)(T:Txt K mg c):cZ P w K mg base gZ 1 f fd ["numbers"] (AF c):=by
 refine F.ok MF (fun vs H Q E h=>?_) (fun fR A outer s H vs Q E hr h=>?_);·obtain⟨l,ns,rfl,_⟩:=h;rfl
 ·obtain⟨l,ns,rfl,hl,hn,k⟩:=h;refine⟨_,(ay (aX (dj A8 (cI (aa (dM dv rfl T.b.len jC (aa (pv 0) ak)) ak)) (pv 0)))),?_⟩;refine⟨_,rfl,l,_,rfl,.inl (cN.of hl),(by show 1<=sizeLine;decide),fun q hq=>?_⟩;refine⟨_,rfl,q,l,_,_,rfl,rfl,aq,aQ.new hq _ _ hl,?_,fun p hp=>?_⟩;·rw[ae,cn,bS];omega
  ·refine k _ p ((aQ.new hq).trans (aQ.new hp)) ((aQ.new hq).free hp) ?_;rw[aq,LG,ae];rfl
theorem rP(p:Nat->Bool):(bV.filter p).length<1000:=by
 have:=c7 p bV;have h2:bV.length=32:=by decide
 omega
inductive JI(c:Cs)(vs:ab V)(H:Hp)(Q:VK):Prop
 |mk (B:BA) (s:Bd) (q0:vs=[.ref B.ob]) (q1:bh c H B s) (q2:HG Q H (dW (bX s)))
def lI(c:Cs):Sp:=fun vs H Q _=>JI c vs H Q
abbrev sO:Stmt:=top 61
theorem FQ:bx ["board"] ["board"] (aU sO):={}
theorem FU(F:gY K "ask_unlaid" "ask_unlaid" sO f fd)(T:Txt K mg c)(o8:bP P w K mg base "counted" n ["numbers"] (AF c))(dG:bq P w K mg base c.bO "unlaid_nets" n ["self"] (ph c bX)):cZ P w K mg base gZ (n+1) f fd ["board"] (lI c):=by
 refine F.ok FQ (fun vs H Q E h=>?_) (fun fR A outer s H vs Q E hr h=>?_);·obtain⟨B,s,rfl,_⟩:=h;rfl
 ·obtain⟨B,s,rfl,hB,k⟩:=h;refine⟨_,(ay (aX (cK o8 hr (aa (jh (pv 0) dG hr) ak)))),?_⟩;exact⟨_,rfl,_,_,_,rfl,hB.at_,mG,B,s,rfl,hB,fun H1 l s1 hl e1=>⟨l,_,rfl,e1,rP _,k.same s1⟩⟩
inductive L5(c:Cs)(vs:ab V)(H:Hp)(Q:VK):Prop
 |mk (B:BA) (s:Bd) (q0:vs=[.ref B.ob]) (q1:bh c H B s) (q2:HG Q H (aP s .total).2)
def DZ(c:Cs):Sp:=fun vs H Q _=>L5 c vs H Q
abbrev uX:Stmt:=top 62
theorem Im:bx ["board"] ["board"] (aU uX):={}
theorem IQ(F:gY K "ask_total" "ask_total" uX f fd)(T:Txt K mg c)(eB:bq P w K mg base c.bO "laid_nets" n ["self"] (ph c cq))(fG:bq P w K mg base c.bO "total_cost" n ["self"] (uJ c)):cZ P w K mg base gZ (n+1) f fd ["board"] (DZ c):=by
 refine F.ok Im (fun vs H Q E h=>?_) (fun fR A outer s H vs Q E hr h=>?_);·obtain⟨B,s,rfl,_⟩:=h;rfl
 ·obtain⟨B,s,rfl,hB,k⟩:=h;refine⟨_,(ay (aX (cI (aa (dM dv rfl T.b.len jC (aa (jh (pv 0) eB hr) ak)) (aa (jh (pv 0) fG hr) ak))))),?_⟩;refine⟨_,rfl,_,_,_,rfl,hB.at_,tD,B,s,rfl,hB,fun H1 l s1 hl e1=>⟨l,_,rfl,.inl (cN.of e1),?_⟩⟩;have fu:=hB.same s1;refine⟨_,rfl,_,_,_,rfl,fu.at_,qY,B,s,rfl,fu,fun H2 s2=>⟨(by show 2<=sizeLine;decide),fun p hp=>?_⟩⟩;refine k _ p ((s1.trans s2).trans (aQ.new hp)) ((s1.trans s2).free hp) ?_;rw[aq,ae];rfl
inductive N2(c:Cs)(vs:ab V)(H:Hp)(Q:VK):Prop
 |mk (B:BA) (s:Bd) (q0:vs=[.ref B.ob]) (q1:bh c H B s) (q2:HG Q H (aP s .nets).2)
def G3(c:Cs):Sp:=fun vs H Q _=>N2 c vs H Q
abbrev xV:Stmt:=top 60
theorem qm:bx ["board","nets","answer","net"] ["board"] (aU xV):={}
theorem KH(F:gY K "ask_nets" "ask_nets" xV f fd)(T:Txt K mg c)(eM:bq P w K mg base c.bO "nets_with_pins" n ["self"] (ph c fun s=>bV.filter (cw s)))(cg:bq P w K mg base c.bO "is_laid" n ["self","net"] (l8 c)):cZ P w K mg base gZ (n+1) f fd ["board"] (G3 c):=by
 refine F.ok qm (fun vs H Q E h=>?_) (fun fR A outer s H vs Q E hr h=>?_);·obtain⟨B,s,rfl,_⟩:=h;rfl
 ·obtain⟨B,s,rfl,hB,k⟩:=h;refine⟨_,(ah (cE (i:=1) qm.nd rfl (bj rfl) (jh (pv 0) eM hr)) (ah (cE (i:=2) qm.nd rfl (bj rfl) (cI (aa (dM dv rfl T.b.len jC (aa (pv 1) ak)) ak))) (ah (gN bJ rfl (dP (pv 1)) (cQ (i:=3) qm.nd rfl (bj rfl)) (ay (da (AZ (pv 2) (aa (cI (aa (pv 3) (aa (dM dv rfl T.b.len jC (aa (cD bA (aZ (pv 0) rfl) (pv 3) (fun _ _=>rfl)) ak)) (aa (Eg (dQ (bR (pv 0) cg hr (aa (pv 3) ak)) (fun _=>rfl)) aN aN) (aa (cD bA (aZ (pv 0) rfl) (pv 3) (fun _ _=>rfl)) ak))))) ak))))) (ay (aX (pv 2)))))),?_⟩;refine MC ?_;intro uH oO lG;refine⟨_,rfl,_,_,_,rfl,hB.at_,qB,B,s,rfl,hB,fun H1 l s1 hl e1=>?_⟩;have e1:H1 l=some (.lst (d8 (bV.filter (cw s)))):=e1;generalize UN:bV.filter (cw s)=ns at e1;have hnr:∀m∈ns,1<=m/\m<=32:=fun m hm=>by rw[<-UN]at hm;exact gP.mp (ba.mp hm).1
  have hnl:ns.length<1000:=by rw[<-UN];exact rP _
  refine⟨_,rfl,l,d8 ns,rfl,.inl (cN.of e1),(by show 1<=sizeLine;decide),fun al Ny=>?_⟩;rw[ae];have s2:aQ H1 (upd H1 al (.lst [V.int (ns.length:Int)])):=aQ.new Ny;have acJ:H al=none:=s1.free Ny;let row:Nat->ab Int:=fun m=>[(m:Int),((s.net m).pins.length:Int),(if bf (s.net m)=true then 1 else 0),((s.net m).rips:Int)];refine⟨_,rfl,l,rfl,⟨_,cN.of (s2 _ _ e1)⟩,?_⟩;let ac8:Nat->L2.St->Hp->Prop:=fun i σ H'=>∃x3,σ=[some (.ref B.ob),some (.ref l),some (.ref al),x3]/\aQ H1 H'/\H' al=some (.lst (((ns.length:Int)::(ns.take i).flatMap row).map V.int));refine e_ (K:=K) (a:=l) (xs:=d8 ns) ac8 ⟨none,rfl,s2,aq⟩ (fun i σ H' _⟨_,_,q,_⟩=>cN.of (q _ _ e1)) ?_ ?_
  ·rintro i y σ H2 hi ⟨x3,rfl,s3,e3⟩;obtain⟨m,hm,rfl⟩:=ji hi;have Tt:=hnr m (aH hm);have jA:=hB.same (s1.trans s3);obtain⟨pl,p1,p2⟩:=qt jA Tt.1 Tt.2;obtain⟨zs,Di,Fu,OY⟩:=p2.nZ;have el:(eI zs).length=(s.net m).pins.length:=by rw[<-Di];unfold eI;rw[ae,ae]
   refine⟨_,rfl,.inl ⟨rfl,_,cN.of e3⟩,?_⟩;refine⟨_,rfl,_,rfl,_,_,_,_,_,rfl,jA.at_,T.bC,T.nH,kW,_,rfl,_,_,_,_,rfl,rfl,cN.of jA.pi,cA p1,pl,_,rfl,.inl (cN.of Fu),?_⟩;rw[el];refine⟨_,rfl,_,_,_,rfl,jA.at_,j4,_,rfl,B,s,m,rfl,jA,Tt.1,Tt.2,_,rfl,?_⟩;have fin:∀b:Int,b=(if bf (s.net m)=true then 1 else 0)->Yr 0 [some (V.ref B.ob),some (V.ref l),some (V.ref al),some (vi m)] H2 (aa_ K ("rips":Str) fun v' H4=>Yr 3 [some (V.ref B.ob),some (V.ref l),some (V.ref al),some (vi m)] H4 fun v2 H5=>Uc K v' v2 H5 fun z H3=>[vi m,V.int ((s.net m).pins.length:Int),V.int b,z].length<=sizeLine/\∀p,H3 p=none->ID (.ref al) [.ref p] (upd H3 p (.lst [vi m,V.int ((s.net m).pins.length:Int),V.int b,z])) fun _ H'=>∃x3,[some (V.ref B.ob),some (V.ref l),some (V.ref al),some (vi m)]=[some (.ref B.ob),some (.ref l),some (.ref al),x3]/\aQ H1 H'/\H' al=some (.lst (((ns.length:Int)::(ns.take (i+1)).flatMap row).map V.int))):=by
    intro b hb;refine⟨_,rfl,_,_,_,_,_,rfl,jA.at_,T.bC,T.yy,Ac,_,rfl,_,_,_,_,rfl,rfl,cN.of jA.ri,cA (lJ (by omega)),(by show 4<=sizeLine;decide),fun p hp=>?_⟩;have hpa:al≠p:=aE e3 hp;refine⟨al,p,_,_,rfl,rfl,aQ.new hp _ _ e3,aq,?_,_,rfl,?_,?_⟩;·rw[ae,bg,bS];have:=n6 (f:=row) (m:=4) (l:=ns.take i) (fun a _=>aD _);rw[cS]at this;simp only[bg,fH];omega
    ·exact aQ.put (s3.trans (aQ.new hp)) Ny
    ·rw[aq,take_snoc hm,kY,<-Dt,cz];congr 3;simp only[kf,Ds,dO,row,cx,mZ];rw[hb];unfold lR;rw[ao (show¬m=0 by omega)]
   cases hd:bf (s.net m)with
   |true=>exact bD rfl (fin 1 (by rw[hd];rfl))
   |false=>exact aI af (fin 0 (by rw[hd];rfl))
  ·rintro σ H2 ⟨x3,rfl,s3,e3⟩;have e:(d8 ns).length=ns.length:=ae _;rw[e,bG]at e3;refine⟨_,rfl,k H2 al (s1.trans s3) acJ ?_⟩;rw[e3,<-UN];rfl
inductive N1(c:Cs)(vs:ab V)(H:Hp)(Q:VK):Prop
 |mk (B:BA) (s:Bd) (z:Int) (b:Nat) (q0:vs=[.ref B.ob,.int z]) (q1:bh c H B s) (q2:d6 s b) (q3:b<=900000) (q4:HG Q H (aP s (.soft z)).2)
def G2(c:Cs):Sp:=fun vs H Q _=>N1 c vs H Q
abbrev xU:Stmt:=top 55
theorem uR:bx ["board","net","refusal","tree"] ["board","net"] (aU xU):={}
theorem KG(F:gY K "ask_soft" "ask_soft" xU f fd)(T:Txt K mg c)(jk:bP P w K mg base "tree_refusal" n ["board","net"] (qI c))(lL:bP P w K mg base "soft_tree" n ["board","net"] (AD c G6))(o8:bP P w K mg base "counted" n ["numbers"] (AF c))(fI:bq P w K mg base c.bO "other_takers" n ["self","net","ways"] (DV c)):cZ P w K mg base gZ (n+1) f fd ["board","net"] (G2 c):=by
 refine F.ok uR (fun vs H Q E h=>?_) (fun fR A outer s H vs Q E hr h=>?_);·obtain⟨B,s,z,b,rfl,_⟩:=h;rfl
 ·obtain⟨B,s,z,b,rfl,hB,hR,hb,k⟩:=h;rw[Az]at k;refine⟨_,(ah (cE (i:=2) uR.nd rfl (bj rfl) (cK jk hr (aa (pv 0) (aa (pv 1) ak)))) (ah (cM (bL n4 (pv 2) aN (cJ _)) (ay (aX (cI (aa (pv 2) ak)))) br) (ah (cE (i:=3) uR.nd rfl (bj rfl) (cK lL hr (aa (pv 0) (aa (pv 1) ak)))) (ah (cM (bL yb (pv 3) lr (cJ _)) (ay (aX (cI (aa (cb T.vY) ak)))) br) (ay (aX (dj A8 (cI (aa (aZ (pv 3) rfl) ak)) (cK o8 hr (aa (bR (pv 0) fI hr (aa (pv 1) (aa (aZ (pv 3) rfl) ak))) ak))))))))),?_⟩;refine Yw ?_;intro GN uH oO lG;refine⟨_,rfl,_,rfl,B,s,z,rfl,hB,?_⟩;refine⟨_,rfl,rfl,_,rfl,?_⟩;by_cases h0:tR s z=0
  ·refine aI (mq h0) ?_;rw[aw h0]at k;obtain⟨nt,rfl,⟨h1,h2⟩,hw,hp⟩:=DB h0;rw[aJ,C9]at k;refine⟨_,rfl,_,rfl,B,s,nt,b,rfl,hB,hR,hb,h1,h2,hp,fun e H1 s1=>?_,fun ways x e H1 t s1 ht=>?_⟩;·rw[e]at k;exact⟨_,rfl,rfl,_,rfl,bD rfl ((k.same s1).one rfl)⟩
   ·rw[e]at k;refine⟨_,rfl,rfl,_,rfl,aI (by simp) ?_⟩;have fu:=hB.same s1;obtain⟨dx,wl,q1,q2⟩:=ht.same Ux;have es:gL s nt=some (ways,x,gw s nt ways):=by rw[C9,e];rfl
    obtain⟨good,ho,Al,JX⟩:=hB.good.v9 h1 h2 es;have yN:∀l∈ways,Chain s.g l:=by have:=rR (hB.good.rips _ ho).nets h1 h2 good;rw[(ML (s:=s) (gw s nt ways)).1]at this;exact this
    refine⟨_,rfl,_,_,_,_,_,rfl,q1,T.tC,T.HY,HU,(by show 1<=sizeLine;decide),fun p hp=>?_⟩;have s2:aQ H1 (upd H1 p (.lst [V.int (x:Int)])):=aQ.new hp;have ep:upd H1 p (.lst [V.int (x:Int)]) p=some (.lst [V.int (x:Int)]):=aq;generalize upd H1 p (.lst [V.int (x:Int)])=H2 at s2 ep⊢;have jA:=fu.same s2;refine⟨_,rfl,_,_,_,rfl,jA.at_,tW,_,rfl,_,rfl,_,_,_,_,_,rfl,s2 _ _ q1,T.tC,T.xu,vS,B,s,wl,nt,ways,rfl,jA,q2.same s2,yN,fun H3 ol s3 Ts Tx=>?_⟩;refine⟨ol,_,rfl,Tx,rP _,fun H4 cl s4 ad8 e4=>?_⟩;have T8:=s3.trans s4;refine⟨p,cl,_,_,rfl,rfl,T8 _ _ ep,e4,?_,fun q hq=>?_⟩;·rw[cn,ae,bS];unfold dW Vbpcah.ints;rw[bg,ae];have:(gw s nt ways).length<1000:=rP _;omega
    ·refine k _ q (((s1.trans s2).trans T8).trans (aQ.new hq)) (((s1.trans s2).trans T8).free hq) ?_;rw[aq];rfl
  ·refine bD (ml h0) ?_;rw[ao h0]at k;exact⟨_,rfl,k.one rfl⟩
inductive N4(c:Cs)(vs:ab V)(H:Hp)(Q:VK):Prop
 |mk (B:BA) (s:Bd) (l:Addr) (L x y:Int) (q0:vs=[.ref B.ob,.ref l]) (q1:bh c H B s) (q2:H l=some (.lst [.int L,.int x,.int y])) (q3:HG Q H (aP s (.cell L x y)).2)
def G5(c:Cs):Sp:=fun vs H Q _=>N4 c vs H Q
theorem HG.two(h:HG Q H ys)(e:ys=[x,y]):[V.int x,V.int y].length<=sizeLine/\∀p,H p=none->Q (.ref p) (upd H p (.lst [V.int x,V.int y])):=by subst e;exact⟨by show 2<=sizeLine;decide,fun p hp=>h _ p (aQ.new hp) hp aq⟩
abbrev xX:Stmt:=top 56
theorem uS:bx ["board","spot","refusal","cell"] ["board","spot"] (aU xX):={}
theorem KJ(F:gY K "ask_cell" "ask_cell" xX f fd)(T:Txt K mg c)(jl:bP P w K mg base "spot_refusal" n ["board","spot"] (qJ c))(fc:bq P w K mg base c.d5 "cell_at" n ["self","spot"] (zx c)):cZ P w K mg base gZ (n+1) f fd ["board","spot"] (G5 c):=by
 refine F.ok uS (fun vs H Q E h=>?_) (fun fR A outer s H vs Q E hr h=>?_);·obtain⟨B,s,l,L,x,y,rfl,_⟩:=h;rfl
 ·obtain⟨B,s,l,L,x,y,rfl,hB,hl,k⟩:=h;rw[AB]at k;refine⟨_,(ah (cE (i:=2) uS.nd rfl (bj rfl) (cK jl hr (aa (pv 0) (aa (pv 1) ak)))) (ah (cM (bL n4 (pv 2) aN (cJ _)) (ay (aX (cI (aa (pv 2) ak)))) br) (ah (cE (i:=3) uS.nd rfl (bj rfl) (bR (aZ (pv 0) rfl) fc hr (aa (pv 1) ak))) (ah (cM (bL n4 (cD bA (aZ (pv 0) rfl) (pv 3) (fun _ _=>rfl)) aN (cJ _)) (ay (aX (cI (aa aN (aa (cD bA (aZ (pv 0) rfl) (pv 3) (fun _ _=>rfl)) ak))))) br) (ah (cM (bL n4 (cD bA (aZ (pv 0) rfl) (pv 3) (fun _ _=>rfl)) aN (cJ _)) (ay (aX (cI (aa aN (aa (cD bA (aZ (pv 0) rfl) (pv 3) (fun _ _=>rfl)) ak))))) br) (ah (cM (dQ (cD bA (aZ (pv 0) rfl) (pv 3) (fun _ _=>rfl)) (fun _=>rfl)) (ay (aX (cI (aa aN (aa aN ak))))) br) (ay (aX (cI (aa aN (aa aN ak))))))))))),?_⟩;refine sq6 ?_;intro Vr Og GN uH oO lG;refine⟨_,rfl,_,rfl,B,s,l,L,x,y,rfl,hB,hl,fun H1 s1=>?_⟩;refine⟨_,rfl,rfl,_,rfl,?_⟩;by_cases h0:iz s L x y=0
  ·refine aI (mq h0) ?_;rw[aw h0]at k;have hz:=xF h0;have hv:=Bx hz;have fu:=hB.same s1;obtain⟨gx,nr,si,_⟩:=fu.d5.ex;refine⟨_,rfl,_,_,_,_,_,rfl,fu.at_,T.bC,T.fS,fw,_,_,_,rfl,si,pQ,_,rfl,B.gr,l,s.g,L,x,y,rfl,fu.d5,s1 _ _ hl,?_⟩;rw[vC hz.1.1 hz.2.1.1 hz.2.2.1];have k:=k.same s1;unfold cellOf at k;have Qh:s.g.cell (L.toNat-1) x.toNat y.toNat<s.g.size:=hv;generalize s.g.cell (L.toNat-1) x.toNat y.toNat=v at Qh k;refine⟨_,rfl,_,_,_,_,_,rfl,fu.at_,T.bC,T.j7,j5,_,rfl,_,_,_,_,rfl,rfl,cN.of fu.pn,cA (lJ Qh),rfl,_,rfl,?_⟩;unfold je;by_cases hp:(dB s).getD v 0=0
   ·rw[ao (fun z=>z hp)]at k;refine aI (mq (by rw[show(kq s bc).getD v 0=0 from hp];rfl)) ?_;refine⟨_,rfl,_,_,_,_,_,rfl,fu.at_,T.bC,T.j6,kl,_,rfl,_,_,_,_,rfl,rfl,cN.of fu.tk,cA (lJ Qh),rfl,_,rfl,?_⟩;unfold je;by_cases hw:(cB s).getD v 0=0
    ·rw[ao (fun z=>z hw)]at k;refine aI (mq (by rw[show(kq s (aM s.g)).getD v 0=0 from hw];rfl)) ?_;refine⟨_,rfl,_,_,_,_,_,rfl,fu.at_,T.bC,T.wz,yx,_,rfl,_,_,_,_,rfl,rfl,cN.of fu.bl,cA (lJ Qh),_,rfl,?_⟩;by_cases hb:v∈s.blocked;·rw[aw (by simpa using hb)]at k;exact bD (gD hb) (k.two rfl)
     ·rw[ao (by simpa using hb)]at k;exact aI (by rw[au];exact hb) (k.two rfl)
    ·rw[aw hw]at k;refine bD (ml (fun z=>hw (by exact Int.ofNat_eq_zero.mp z))) ?_;exact⟨_,rfl,_,_,_,_,_,rfl,fu.at_,T.bC,T.j6,kl,_,rfl,_,_,_,_,rfl,rfl,cN.of fu.tk,cA (lJ Qh),k.two rfl⟩
   ·rw[aw hp]at k;refine bD (ml (fun z=>hp (by exact Int.ofNat_eq_zero.mp z))) ?_;exact⟨_,rfl,_,_,_,_,_,rfl,fu.at_,T.bC,T.j7,j5,_,rfl,_,_,_,_,rfl,rfl,cN.of fu.pn,cA (lJ Qh),k.two rfl⟩
  ·refine bD (ml h0) ?_;rw[ao h0]at k;exact⟨_,rfl,(k.same s1).one rfl⟩
end
end Nw
namespace Nw
open PySem PySem.Spec PyProof.Rows L2
open Vbpcah (between)
theorem Aq(g:Gd)(v:Nat):(n9 g v).length<=3:=aD _
section
variable{P:bT}{w:cU}{K:ag}{mg:Str->aY aA}{base:Heap}{c:Cs}{n:Nat}
theorem Oe(h:bh c H B s)(h1:1<=n)(h2:n<=32)(hw:(s.net n).ways=some ws):∃wv wl,H B.wa=some (.lst wv)/\wv[n]? =some (.ref wl)/\gq H wl ws:=by obtain⟨wv,e0,wk⟩:=h.wa;obtain⟨v,hv,we⟩:=wk.2 n h1 h2;rw[hw]at we;obtain⟨wl,rfl,hL⟩:=we;exact⟨wv,wl,e0,hv,hL.same dS⟩
inductive QT(c:Cs)(vs:ab V)(H:Hp)(Q:VK):Prop
 |mk (B:BA) (s:Bd) (z k:Int) (q0:vs=[.ref B.ob,.int z,.int k]) (q1:bh c H B s) (q2:HG Q H (aP s (.way z k)).2)
def Kj(c:Cs):Sp:=fun vs H Q _=>QT c vs H Q
abbrev AR:Stmt:=top 57
theorem pw:bx ["board","net","number","refusal","way","answer","cell"] ["board","net","number"] (aU AR):={}
theorem M0(F:gY K "ask_way" "ask_way" AR f fd)(T:Txt K mg c)(fU:bP P w K mg base "ways_refusal" n ["board","net"] (nO c))(p4:bq P w K mg base c.d5 "spot_of" n ["self","cell"] (Kd c)):cZ P w K mg base gZ (n+1) f fd ["board","net","number"] (Kj c):=by
 refine F.ok pw (fun vs H Q E h=>?_) (fun fR A outer s H vs Q E hr h=>?_);·obtain⟨B,s,z,k,rfl,_⟩:=h;rfl
 ·obtain⟨B,s,z,kn,rfl,hB,k⟩:=h;rw[DM]at k;refine⟨_,(ah (cE (i:=3) pw.nd rfl (bj rfl) (cK fU hr (aa (pv 0) (aa (pv 1) ak)))) (ah (cM (bL n4 (pv 3) aN (cJ _)) (ay (aX (cI (aa (pv 3) ak)))) br) (ah (cM (ia (kK i6 i6 aN (pv 2) (dM dv rfl T.b.len jC (aa (cD bA (aZ (pv 0) rfl) (pv 1) (fun _ _=>rfl)) ak)))) (ay (aX (cI (aa (cb T.FZ) ak)))) br) (ah (cE (i:=4) pw.nd rfl (bj rfl) (cD bA (cD bA (aZ (pv 0) rfl) (pv 1) (fun _ _=>rfl)) (dj qU (pv 2) aN) (fun _ _=>rfl))) (ah (cE (i:=5) pw.nd rfl (bj rfl) (cI (aa (dM dv rfl T.b.len jC (aa (pv 4) ak)) ak))) (ah (gN bJ rfl (dP (pv 4)) (cQ (i:=6) pw.nd rfl (bj rfl)) (ay (da (AZ (pv 5) (aa (bR (aZ (pv 0) rfl) p4 hr (aa (pv 6) ak)) ak))))) (ay (aX (pv 5))))))))),?_⟩;refine sq6 ?_;intro Vr Og GN uH oO lG;refine⟨_,rfl,_,rfl,B,s,z,rfl,hB,?_⟩;refine⟨_,rfl,rfl,_,rfl,?_⟩;by_cases h0:nU s z=0
  ·refine aI (mq h0) ?_;rw[aw h0]at k;obtain⟨nt,rfl,⟨h1,h2⟩,ws,hw⟩:=su h0;rw[aJ,hw]at k;simp only at k;obtain⟨wv,wl,ew,ewn,hL⟩:=Oe hB h1 h2 hw;obtain⟨zs,Di,Fu,OY⟩:=hL.nZ;have el:(eI zs).length=ws.length:=by rw[<-Di];unfold eI;rw[ae,ae]
   obtain⟨gx,nr,si,_⟩:=hB.d5.ex;refine⟨_,rfl,j2 (ws.length:Int) (fun Q' q=>⟨_,rfl,_,_,_,_,_,rfl,hB.at_,T.bC,T.pU,o5,_,rfl,_,_,_,_,rfl,rfl,cN.of ew,cA ewn,wl,_,rfl,.inl (cN.of Fu),by rw[el];exact q⟩) ⟨_,rfl,?_⟩⟩;cases hk:bH kn 1 (ws.length:Int)with
   |false=>rw[hk,ao af]at k;exact bD rfl (k.one rfl)
   |true=>
    rw[hk,aw rfl]at k;refine aI (by simp) ?_;have YS:=gi.mp hk;obtain⟨j,hj⟩:∃j:Nat,kn=(j:Int)+1:=⟨(kn-1).toNat,by omega⟩;subst hj;have hjl:j<zs.length:=by
     have:zs.length=ws.length:=by rw[<-Di,ae]
     omega
    have hzj:zs[j]? =some zs[j]:=aO hjl;generalize zs[j]=zj at hzj;have hwj:ws[j]? =some zj.1:=by rw[<-Di,bp,hzj];rfl
    have e1:((j:Int)+1).toNat-1=j:=by omega
    rw[e1,dF,hwj]at k;simp only[Cg]at k;have W_:=OY zj (aH hzj);have hlen:=(hB.len nt h1 h2 ws hw).2 zj.1 (aH hwj);refine⟨_,rfl,_,_,_,_,_,rfl,hB.at_,T.bC,T.pU,o5,_,rfl,_,_,_,_,rfl,rfl,cN.of ew,cA ewn,_,rfl,_,_,rfl,rfl,_,_,_,_,rfl,rfl,cN.of Fu,at_of (j:=j) (by omega) (by unfold eI;rw[bp,hzj];rfl),?_⟩;refine⟨_,rfl,zj.2,d8 zj.1,rfl,.inl (cN.of W_),(by show 1<=sizeLine;decide),fun al Ny=>?_⟩;rw[ae];have s2:aQ H (upd H al (.lst [V.int (zj.1.length:Int)])):=aQ.new Ny;refine⟨_,rfl,zj.2,rfl,⟨_,cN.of (s2 _ _ W_)⟩,?_⟩;let ac7:Nat->L2.St->Hp->Prop:=fun i σ H'=>∃x6,σ=[some (.ref B.ob),some (vi nt),some (V.int ((j:Int)+1)),some (.int (nU s nt)),some (.ref zj.2),some (.ref al),x6]/\aQ H H'/\H' al=some (.lst (((zj.1.length:Int)::(zj.1.take i).flatMap (n9 s.g)).map V.int));refine e_ (K:=K) (a:=zj.2) (xs:=d8 zj.1) ac7 ⟨none,rfl,s2,aq⟩ (fun i σ H' _⟨_,_,q,_⟩=>cN.of (q _ _ W_)) ?_ ?_
    ·rintro i y σ H2 hi ⟨x6,rfl,s3,e3⟩;obtain⟨v,hv,rfl⟩:=ji hi;have jA:=hB.same s3;refine⟨_,rfl,.inl ⟨rfl,_,cN.of e3⟩,?_⟩;refine⟨_,rfl,_,_,_,_,_,rfl,jA.at_,T.bC,T.fS,fw,_,_,_,rfl,s3 _ _ si,Nz,_,rfl,B.gr,s.g,v,rfl,jA.d5,fun p hp=>?_⟩;refine⟨al,p,_,_,rfl,rfl,aQ.new hp _ _ e3,aq,?_,_,rfl,?_,?_⟩;·rw[ae,bg,ae,bS];have:=n6 (f:=n9 s.g) (m:=3) (l:=zj.1.take i) (fun a _=>Aq _ _);rw[cS]at this;have:=Aq s.g v;omega
     ·exact aQ.put (s3.trans (aQ.new hp)) Ny
     ·rw[aq,take_snoc hv,kY,<-Dt,cz];simp only[kf,Ds,dO]
    ·rintro σ H2 ⟨x6,rfl,s3,e3⟩;have e:(d8 zj.1).length=zj.1.length:=ae _;rw[e,bG]at e3;exact⟨_,rfl,k H2 al s3 Ny e3⟩
  ·refine bD (ml h0) ?_;rw[ao h0]at k;exact⟨_,rfl,k.one rfl⟩
inductive N0(c:Cs)(vs:ab V)(H:Hp)(Q:VK):Prop
 |mk (B:BA) (s:Bd) (z:Int) (q0:vs=[.ref B.ob,.int z]) (q1:bh c H B s) (q2:HG Q H (aP s (.tree z)).2)
def G0(c:Cs):Sp:=fun vs H Q _=>N0 c vs H Q
abbrev xT:Stmt:=top 58
theorem uQ:bx ["board","net","refusal","ways"] ["board","net"] (aU xT):={}
theorem KD(F:gY K "ask_tree" "ask_tree" xT f fd)(T:Txt K mg c)(fU:bP P w K mg base "ways_refusal" n ["board","net"] (nO c))(gU:bq P w K mg base c.bO "ways_cost" n ["self","net"] (xG c))(cR:bq P w K mg base c.d5 "taken_cells" n ["self","ways"] (kh c)):cZ P w K mg base gZ (n+1) f fd ["board","net"] (G0 c):=by
 refine F.ok uQ (fun vs H Q E h=>?_) (fun fR A outer s H vs Q E hr h=>?_);·obtain⟨B,s,z,rfl,_⟩:=h;rfl
 ·obtain⟨B,s,z,rfl,hB,k⟩:=h;rw[Ay]at k;refine⟨_,(ah (cE (i:=2) uQ.nd rfl (bj rfl) (cK fU hr (aa (pv 0) (aa (pv 1) ak)))) (ah (cM (bL n4 (pv 2) aN (cJ _)) (ay (aX (cI (aa (pv 2) ak)))) br) (ah (cE (i:=3) uQ.nd rfl (bj rfl) (cD bA (aZ (pv 0) rfl) (pv 1) (fun _ _=>rfl))) (ay (aX (cI (aa (bR (pv 0) gU hr (aa (pv 1) ak)) (aa (dM dv rfl T.b.len jC (aa (pv 3) ak)) (aa (dM dv rfl T.b.len jC (aa (bR (aZ (pv 0) rfl) cR hr (aa (pv 3) ak)) ak)) ak))))))))),?_⟩;refine MC ?_;intro uH oO lG;refine⟨_,rfl,_,rfl,B,s,z,rfl,hB,?_⟩;refine⟨_,rfl,rfl,_,rfl,?_⟩;by_cases h0:nU s z=0
  ·refine aI (mq h0) ?_;rw[aw h0]at k;obtain⟨nt,rfl,⟨h1,h2⟩,ws,hw⟩:=su h0;have n8:bf (s.net nt)=true:=by unfold bf;rw[hw];rfl
   rw[aJ,hw]at k;simp only at k;obtain⟨wv,wl,ew,ewn,hL⟩:=Oe hB h1 h2 hw;obtain⟨zs,Di,Fu,OY⟩:=hL.nZ;have el:(eI zs).length=ws.length:=by rw[<-Di];unfold eI;rw[ae,ae]
   have yN:=(hB.good.uA nt h1 h2 ws hw).1;refine⟨_,rfl,_,_,_,_,_,rfl,hB.at_,T.bC,T.pU,o5,_,rfl,_,_,_,_,rfl,rfl,cN.of ew,cA ewn,?_⟩;refine⟨_,rfl,_,_,_,rfl,hB.at_,Aa,_,rfl,B,s,nt,rfl,hB,h1,h2,n8,fun H1 s1=>?_⟩;have fu:=hB.same s1;obtain⟨gx,nr,si,_⟩:=fu.d5.ex;refine⟨_,rfl,wl,_,rfl,.inl (cN.of (s1 _ _ Fu)),?_⟩;refine⟨_,rfl,_,_,_,_,_,rfl,fu.at_,T.bC,T.fS,fw,_,_,_,rfl,si,j1,_,rfl,B.gr,wl,s.g,ws,rfl,fu.d5,hL.same s1,yN,fun H2 tl ks s2 VM Nr Al o4=>?_⟩;refine⟨tl,_,rfl,.inl (cN.of Nr),(by show 3<=sizeLine;decide),fun p hp=>?_⟩;refine k _ p ((s1.trans s2).trans (aQ.new hp)) ((s1.trans s2).free hp) ?_;have en:ks.length=((cP s.g.size).filter fun v=>(aM s.g (s.net nt)).contains v).length:=by refine((List.perm_ext_iff_of_nodup Al (List.nodup_range.filter _)).mpr fun v=>?_).length_eq;rw[ba,dr,jU,zU hw v,o4 v];exact⟨fun y=>⟨let⟨w',L_,hc⟩:=y;tq hB.good.UU (yN w' L_) v hc,y⟩,fun y=>y.2⟩
   rw[aq,el,ae,en];rfl
  ·refine bD (ml h0) ?_;rw[ao h0]at k;exact⟨_,rfl,k.one rfl⟩
inductive N3(c:Cs)(vs:ab V)(H:Hp)(Q:VK):Prop
 |mk (B:BA) (s:Bd) (t l m:Addr) (z L x y L2 x2 y2:Int) (q0:vs=[.ref B.ob,.int z,.ref t]) (q1:bh c H B s) (q2:H t=some (.tup [.ref l,.ref m])) (q3:H l=some (.lst [.int L,.int x,.int y])) (q4:H m=some (.lst [.int L2,.int x2,.int y2])) (q5:HG Q H (aP s (.cost z L x y L2 x2 y2)).2)
def G4(c:Cs):Sp:=fun vs H Q _=>N3 c vs H Q
theorem NI(h:Cc s z (iz s L x y) (iz s L2 x2 y2)=0):(∃n:Nat,z=(n:Int)/\1<=n/\n<=32)/\iz s L x y=0/\iz s L2 x2 y2=0:=by
 have h3:∀{L x y:Int},iz s L x y=0\/iz s L x y= -3\/iz s L x y= -6:=fun{L x y}=>by
  unfold iz;split
  ·split;·exact .inl rfl
   ·exact .inr (.inr rfl)
  ·exact .inr (.inl rfl)
 have a:=h3 (L:=L) (x:=x) (y:=y);have b:=h3 (L:=L2) (x:=x2) (y:=y2);unfold Cc at h;split at h;·cases h
 ·cases hn:ij z with
  |false=>rw[hn,ao af]at h;cases h
  |true=>
   rw[hn,aw rfl]at h;split at h;·cases h
   ·refine⟨jG hn,?_,?_⟩<;>omega
abbrev xW:Stmt:=top 59
theorem jV:bx ["board","net","spots","refusal","ends","spot","cell","cost"] ["board","net","spots"] (aU xW):={}
theorem KI(F:gY K "ask_cost" "ask_cost" xW f fd)(T:Txt K mg c)(pY:bP P w K mg base "cost_refusal" n ["board","net","spots"] (xh c))(fc:bq P w K mg base c.d5 "cell_at" n ["self","spot"] (zx c))(fA:bq P w K mg base c.bO "may_use" n ["self","net","cell"] (zt c))(pZ:bP P w K mg base "cost_between" n ["ground","start","goal"] (xi c))(jI:bP P w K mg base "firm_ground" n ["board","net"] (sI c)):cZ P w K mg base gZ (n+1) f fd ["board","net","spots"] (G4 c):=by
 refine F.ok jV (fun vs H Q E h=>?_) (fun fR A outer s H vs Q E hr h=>?_);·obtain⟨B,s,t,l,m,z,L,x,y,L2,x2,y2,rfl,_⟩:=h;rfl
 ·obtain⟨B,s,t,l,m,z,L,x,y,L2,x2,y2,rfl,hB,ht,hl,hm,k⟩:=h;rw[AA]at k;refine⟨_,(ah (cE (i:=3) jV.nd rfl (bj rfl) (cK pY hr (aa (pv 0) (aa (pv 1) (aa (pv 2) ak))))) (ah (cM (bL n4 (pv 3) aN (cJ _)) (ay (aX (cI (aa (pv 3) ak)))) br) (ah (pH (i:=4) (own:=[("spot",5)]) rfl jV.nd rfl rfl (sD rfl rfl rfl rfl) (MR (pv 2)) (eG (by kernel_rfl)) (fun _ _ _ _ _=>cQ (i:=5) jV.nd rfl (bj rfl)) (fun _ _ _ _ _=>jz) (fun _ _ _ _ _=>(bR (De K (pv 0) rfl) fc hr (aa (pv 5) ak)))) (ah (cM (ia (dQ (dM (Jo rfl) rfl T.b.all Jq (aa (oQ (own:=[("cell",6)]) rfl jV.nd (dP (pv 4)) (eG (by kernel_rfl)) (fun _ _ _ _ _=>cQ (i:=6) jV.nd rfl (bj rfl)) (fun _ _ _ _ _=>jz) (fun _ _ _ _ _=>(bR (pv 0) fA hr (aa (pv 1) (aa (pv 6) ak))))) ak)) (fun _=>rfl))) (ay (aX (cI (aa (cb T.vY) ak)))) br) (ah (cE (i:=7) jV.nd rfl (bj rfl) (cK pZ hr (aa (cK jI hr (aa (pv 0) (aa (pv 1) ak))) (aa (cD bA (pv 4) aN (fun _ _=>rfl)) (aa (cD bA (pv 4) aN (fun _ _=>rfl)) ak))))) (ah (cM (bL yb (pv 7) lr (cJ _)) (ay (aX (cI (aa (cb T.vY) ak)))) br) (ay (aX (cI (aa (pv 7) ak)))))))))),?_⟩;refine sq6 ?_;intro Vr Og GN uH oO lG;refine⟨_,rfl,_,rfl,_,rfl,B,s,t,l,m,z,L,x,y,L2,x2,y2,rfl,hB,ht,hl,hm,fun H1 s1=>?_⟩;refine⟨_,rfl,rfl,_,rfl,?_⟩;by_cases h0:Cc s z (iz s L x y) (iz s L2 x2 y2)=0
  ·refine aI (mq h0) ?_;rw[aw h0]at k;obtain⟨⟨nt,rfl,h1,h2⟩,r1,r2⟩:=NI h0;rw[aJ]at k;have z1:=xF r1;have z2:=xF r2;have v1:=Bx z1;have v2:=Bx z2;generalize hu:cellOf s L x y=u at k v1;generalize hv:cellOf s L2 x2 y2=v at k v2;refine⟨_,rfl,t,rfl,⟨_,q_.of (s1 _ _ ht)⟩,fun D hD=>?_⟩;refine Nh (K:=K) (a:=t) (xs:=[.ref l,.ref m]) (fun i H'=>aQ H1 H'/\H' D=some (.lst ((d8 [u,v]).take i))) ⟨aQ.new hD,aq⟩ (fun i H' _ q=>q_.of (q.1 _ _ (s1 _ _ ht))) ?_ ?_
   ·rintro i w H2 hi ⟨s2,e2⟩;have jA:=(hB.same s1).same s2;obtain⟨gx,nr,si,_⟩:=jA.d5.ex;refine⟨rfl,Mg ?_⟩;match i,hi with
    |0,hi=>cases hi;refine⟨_,rfl,_,_,_,_,_,rfl,jA.at_,T.bC,T.fS,fw,_,_,_,rfl,si,pQ,_,rfl,B.gr,l,s.g,L,x,y,rfl,jA.d5,s2 _ _ (s1 _ _ hl),?_⟩;rw[vC z1.1.1 z1.2.1.1 z1.2.2.1,show s.g.cell (L.toNat-1) x.toNat y.toNat=u from hu];exact⟨_,e2,(by show 0<sizeLine;decide),aQ.put s2 hD,aq⟩
    |1,hi=>cases hi;refine⟨_,rfl,_,_,_,_,_,rfl,jA.at_,T.bC,T.fS,fw,_,_,_,rfl,si,pQ,_,rfl,B.gr,m,s.g,L2,x2,y2,rfl,jA.d5,s2 _ _ (s1 _ _ hm),?_⟩;rw[vC z2.1.1 z2.2.1.1 z2.2.2.1,show s.g.cell (L2.toNat-1) x2.toNat y2.toNat=v from hv];exact⟨_,e2,(by show 1<sizeLine;decide),aQ.put s2 hD,aq⟩
    |i+2,hi=>simp at hi
   ·rintro H2 ⟨s2,e2⟩;have e2:H2 D=some (.lst (d8 [u,v])):=e2;have Dc:=s1.trans s2;have jA:=hB.same Dc;refine⟨_,rfl,D,rfl,⟨_,cN.of e2⟩,fun D2 YY=>?_⟩;refine sZ (K:=K) (a:=D) (xs:=d8 [u,v]) (fun x=>match x with| .int z=>.bl (qH s nt z.toNat)|_=>.iG) YY (cN.of e2) (fun _=>by rfl) (by show 2<1000000;decide) (fun x H' Q' hx s3 kk=>?_) fun H3 s3 e3=>?_
    ·obtain⟨a,ha,rfl⟩:=sY hx;have tU:=jA.same s3;have Ny:a<s.g.size:=by
      simp at ha;rcases ha with rfl|rfl;·exact v1
      ·exact v2
     exact⟨_,rfl,_,_,_,rfl,tU.at_,yw,_,rfl,_,rfl,B,s,nt,a,rfl,tU,Ny,fun H4 s4=>kk H4 s4⟩
    have e3:H3 D2=some (.lst ([qH s nt u,qH s nt v].map V.bl)):=e3;refine⟨D2,[qH s nt u,qH s nt v],rfl,cN.of e3,_,rfl,?_⟩;have CA:=Dc.trans s3;have tf:([qH s nt u,qH s nt v].all id)=(qH s nt u&&qH s nt v):=by show(qH s nt u&&(qH s nt v&&true))=_;rw[Bool.and_true]
    rw[tf];cases QZ:(qH s nt u&&qH s nt v)with
    |false=>rw[QZ,ao af]at k;exact bD rfl ((k.same CA).one rfl)
    |true=>
     rw[QZ,aw rfl]at k;refine aI (by simp) ?_;have tU:=hB.same CA;have e2':=s3 _ _ e2;refine⟨_,rfl,_,rfl,B,s,nt,rfl,tU,fun H4 gd s4 hg=>?_⟩;have hE:rZ s.g (vq s nt) (dz s) (en s (vq s nt) fun _=>0):=by rw[Ho];exact Jl hB.good (E0:=0) (fun _=>aD _) (by decide)
     refine⟨_,rfl,_,_,_,_,rfl,rfl,cN.of (s4 _ _ e2'),Gf,_,rfl,_,_,_,_,rfl,rfl,cN.of (s4 _ _ e2'),Vc,?_⟩;refine⟨gd,s.g,_,vq s nt,dz s,u,v,rfl,hg,hE,⟨v1,?_⟩,v2,fun H5 s5=>?_⟩;·rw[bN]at QZ;exact QZ.1
     ·have k:=k.same ((CA.trans s4).trans s5);refine⟨_,rfl,rfl,_,rfl,?_⟩;cases Nq:(dy s.g (az s.g fun v=>(iu s nt).getD v false) (dz s) [u]).at_ v with
      |none=>rw[Nq]at k;exact bD rfl (k.one rfl)
      |some cc=>rw[Nq]at k;exact aI (by simp[II]) ⟨_,rfl,k.one rfl⟩
  ·refine bD (ml h0) ?_;rw[ao h0]at k;exact⟨_,rfl,(k.same s1).one rfl⟩
end
end Nw
namespace Nw
open PySem PySem.Spec PyProof.Rows L2
open Vbpcah (between)
structure Pre(c:Cs)(H:Hp)(B:BA)(s:Bd)(b:Nat):Prop where
 at_:bh c H B s
 rips:d6 s b
 le:b+1000<=900000
 xl:∀a∈B.xs,∃o,H a=some (.lst o)
theorem Pre.same(h:Pre c H B s b)(k:aQ H H'):Pre c H' B s b:=⟨h.at_.same k,h.rips,h.le,fun a ha=>let⟨o,e⟩:=h.xl a ha;⟨o,k _ _ e⟩⟩
abbrev BF(c:Cs)(Q:VK)(H:Hp)(B:BA)(r:Bd×ab Int):Prop:=∀(H':Hp)(B':BA)(l:Addr),bh c H' B' r.1->(B'.ob=B.ob/\B'.xs=B.xs)->Mv B.M H B'.M H'->l∉B'.xs->H' l=some (.lst (r.2.map V.int))->Q (.ref l) H'
section
variable{c:Cs}{Q:VK}{H H1:Hp}{B B1:BA}{s s':Bd}{ys:ab Int}{x:Int}{b:Nat}
theorem BF.Y7(h:BF c Q H B (s',ys))(hB:bh c H1 B1 s')(e:B1.ob=B.ob/\B1.xs=B.xs)(m:Mv B.M H B1.M H1):HG Q H1 ys:=fun H' l s1 hl el=>h H' B1 l (hB.same s1) e (m.trans (Mv.same s1)) (fun q=>by obtain⟨⟨o,ho⟩,_⟩:=hB.xd l q;rw[hl]at ho;cases ho) el
theorem BF.same(h:BF c Q H B r)(k:aQ H H1):BF c Q H1 B r:=fun H' B' l a b m x e=>h H' B' l a b ((Mv.same k).trans m) x e
theorem BF.one(h:BF c Q H B (s',[x]))(hB:bh c H1 B1 s')(e:B1.ob=B.ob/\B1.xs=B.xs)(m:Mv B.M H B1.M H1):[V.int x].length<=sizeLine/\∀p,H1 p=none->Q (.ref p) (upd H1 p (.lst [V.int x])):=(h.Y7 hB e m).one rfl
theorem BF.no(h:BF c Q H B (s,[x]))(hB:bh c H B s)(k:aQ H H1):[V.int x].length<=sizeLine/\∀p,H1 p=none->Q (.ref p) (upd H1 p (.lst [V.int x])):=h.one (hB.same k) ⟨rfl,rfl⟩ (Mv.same k)
theorem Pre.good(h:Pre c H B s b)(k:js):Good (aP s k).1:=(GR h.at_.good h.rips k).1
end
theorem iR{z lo hi:Int}(h:bH z lo hi=true)(h0:0<=lo):∃n:Nat,z=(n:Int)/\lo<=(n:Int)/\(n:Int)<=hi:=by have:=gi.mp h;exact⟨z.toNat,by omega,by omega,by omega⟩
section
variable{P:bT}{w:cU}{K:ag}{mg:Str->aY aA}{base:Heap}{c:Cs}{n:Nat}
inductive Te(c:Cs)(vs:ab V)(H:Hp)(Q:VK):Prop
 |mk (B:BA) (s:Bd) (b:Nat) (x y z:Int) (q0:vs=[.ref B.ob,.int x,.int y,.int z]) (q1:Pre c H B s b) (q2:BF c Q H B (aP s (.begin_ x y z)))
def Ox(c:Cs):Sp:=fun vs H Q _=>Te c vs H Q
abbrev Iw:Stmt:=top 69
theorem Ry:bx ["board","columns","rows","layers"] ["board","columns","rows","layers"] (aU Iw):={}
theorem RU(F:gY K "begin" "begin" Iw f fd)(T:Txt K mg c)(jJ:bq P w K mg base c.bO "renew" n ["self","columns","rows","layers"] (Ic c)):cZ P w K mg base gZ (n+1) f fd ["board","columns","rows","layers"] (Ox c):=by
 refine F.ok Ry (fun vs H Q E h=>?_) (fun fR A outer s H vs Q E hr h=>?_);·obtain⟨B,s,b,x,y,z,rfl,_⟩:=h;rfl
 ·obtain⟨B,s,b,x,y,z,rfl,pre,k⟩:=h;have hB:=pre.at_;rw[DR]at k;refine⟨_,(ah (cM (ia (PW.pt (AV (kK i6 i6 aN (pv 1) (cb T.Eu)) (AV (kK i6 i6 aN (pv 2) (cb T.KR)) (zK (kK i6 i6 aN (pv 3) (cb T.F4))))))) (ay (aX (cI (aa (cb T.M_) ak)))) br) (ah (da (bR (pv 0) jJ hr (aa (pv 1) (aa (pv 2) (aa (pv 3) ak))))) (ay (aX (cI (aa aN ak)))))),?_⟩;refine MD ?_;intro oO lG;refine⟨_,rfl,j2 24 (fun _ q=>q) ⟨_,rfl,?_⟩⟩;cases h1:bH x 1 24 with
  |false=>rw[h1,xp,ao af]at k;exact aI af (bD rfl (k.no hB fun _ _ e=>e))
  |true=>
   rw[h1,lQ]at k;refine bD rfl ⟨_,rfl,j2 24 (fun _ q=>q) ⟨_,rfl,?_⟩⟩;cases h2:bH y 1 24 with
   |false=>rw[h2,xp,ao af]at k;exact aI af (bD rfl (k.no hB fun _ _ e=>e))
   |true=>
    rw[h2,lQ]at k;refine bD rfl ⟨_,rfl,j2 4 (fun _ q=>q) ⟨_,rfl,?_⟩⟩;cases h3:bH z 1 4 with
    |false=>rw[h3,ao af]at k;exact bD rfl (k.no hB fun _ _ e=>e)
    |true=>rw[h3,aw rfl]at k;refine aI (by simp) ?_;obtain⟨x,rfl,x1,x2⟩:=iR h1 (by decide);obtain⟨y,rfl,y1,y2⟩:=iR h2 (by decide);obtain⟨z,rfl,z1,z2⟩:=iR h3 (by decide);rw[aJ,aJ,aJ]at k;refine⟨_,rfl,_,_,_,rfl,hB.at_,SV,_,rfl,_,rfl,_,rfl,B.ob,B.dx,_,x,y,z,B.xs,rfl,hB.at_,.inr ⟨B,s,rfl⟩,by omega,by omega,by omega,pre.xl,fun H1 B1 fu e1 m1=>?_⟩;exact k.one fu e1 (m1.wide (by simp))
inductive Tc(c:Cs)(vs:ab V)(H:Hp)(Q:VK):Prop
 |mk (B:BA) (s:Bd) (b:Nat) (x y z:Int) (q0:vs=[.ref B.ob,.int x,.int y,.int z]) (q1:Pre c H B s b) (q2:BF c Q H B (aP s (.costs x y z)))
def Ov(c:Cs):Sp:=fun vs H Q _=>Tc c vs H Q
theorem LP:d9 "penalty" (vi z) (d9 "wrong" (vi y) (d9 "via" (vi x) (bW B s)))=bW B {s with via:=x,wrong:=y,penalty:=z}:=by kernel_rfl
theorem S0:(bW B s).length<=11:=aD _
abbrev Iu:Stmt:=top 70
theorem D8:bx ["board","via","wrong","penalty","cost"] ["board","via","wrong","penalty"] (aU Iu):={}
theorem RS(F:gY K "costs" "costs" Iu f fd)(T:Txt K mg c):cZ P w K mg base gZ 1 f fd ["board","via","wrong","penalty"] (Ov c):=by
 refine F.ok D8 (fun vs H Q E h=>?_) (fun fR A outer s H vs Q E hr h=>?_);·obtain⟨B,s,b,x,y,z,rfl,_⟩:=h;rfl
 ·obtain⟨B,s,b,x,y,z,rfl,pre,k⟩:=h;have hB:=pre.at_;have i7:=pre.good (.costs x y z);rw[DP]at k i7;refine⟨_,(ah (cM (ia (dQ (dM (Jo rfl) rfl T.b.all Jq (aa (oQ (own:=[("cost",4)]) rfl D8.nd (MR (lp (aa (pv 1) (aa (pv 2) (aa (pv 3) ak))))) (eG (by kernel_rfl)) (fun _ _ _ _ _=>cQ (i:=4) D8.nd rfl (bj rfl)) (fun _ _ _ _ _=>jz) (fun _ _ _ _ _=>(Kx i6 i6 aN (pv 4) (cb T.KU)))) ak)) (fun _=>rfl))) (ay (aX (cI (aa (cb T.Na) ak)))) br) (ah (fK (pv 0) (pv 1) rfl) (ah (fK (pv 0) (pv 2) rfl) (ah (fK (pv 0) (pv 3) rfl) (ay (aX (cI (aa aN ak)))))))),?_⟩;refine Yw ?_;intro GN uH oO lG;refine⟨_,rfl,_,rfl,_,rfl,(by show 3<=sizeLine;decide),fun t ht=>?_⟩;have s1:aQ H (upd H t (.tup [.int x,.int y,.int z])):=aQ.new ht;have et:upd H t (.tup [.int x,.int y,.int z]) t=some (.tup [.int x,.int y,.int z]):=aq;generalize upd H t (.tup [.int x,.int y,.int z])=H1 at s1 et⊢;refine⟨t,rfl,⟨_,q_.of et⟩,fun D hD=>?_⟩;refine UA (K:=K) (a:=t) (xs:=[.int x,.int y,.int z]) (fun v=>match v with| .int i=>.bl (bH i 1 1000)|_=>.iG) hD (q_.of et) (fun H' s'=>q_.of (s' _ _ et)) (fun _=>by rfl) (by show 3<1000000;decide) (fun v H' Q' hv s2 kk=>?_) fun H2 s2 e2=>?_
  ·obtain⟨i,rfl⟩:∃i,v=.int i:=by simp at hv;rcases hv with rfl|rfl|rfl<;>exact⟨_,rfl⟩
   exact⟨_,rfl,j2 1000 (fun _ q=>q) (kk H' fun _ _ e=>e)⟩
  have e2:H2 D=some (.lst ([bH x 1 1000,bH y 1 1000,bH z 1 1000].map V.bl)):=e2;have Dc:=s1.trans s2;refine⟨D,[bH x 1 1000,bH y 1 1000,bH z 1 1000],rfl,cN.of e2,_,rfl,?_⟩;have tf:([bH x 1 1000,bH y 1 1000,bH z 1 1000].all id)=(bH x 1 1000&&(bH y 1 1000&&bH z 1 1000)):=by show(bH x 1 1000&&(bH y 1 1000&&(bH z 1 1000&&true)))=_;rw[Bool.and_true]
  rw[tf];cases hc:(bH x 1 1000&&(bH y 1 1000&&bH z 1 1000))with
  |false=>rw[hc,ao af]at k;exact bD rfl (k.no hB Dc)
  |true=>rw[hc,aw rfl]at k i7;refine aI (by simp) ?_;rw[bN,bN]at hc;obtain⟨x,rfl,x1,x2⟩:=iR hc.1 (by decide);obtain⟨y,rfl,y1,y2⟩:=iR hc.2.1 (by decide);obtain⟨z,rfl,z1,z2⟩:=iR hc.2.2 (by decide);rw[aJ,aJ,aJ]at k i7;have jA:=hB.same Dc;obtain⟨zz,ws,r0,wk,hz,h0⟩:=jA.raw;refine⟨_,rfl,_,rfl,B.ob,_,B.dx,_,rfl,r0.at_,T.bC,T.SY,jq S0,?_⟩;refine⟨_,rfl,_,rfl,B.ob,_,B.dx,_,rfl,aq,T.bC,T.Ju,jq (eK S0),?_⟩;refine⟨_,rfl,_,rfl,B.ob,_,B.dx,_,rfl,aq,T.bC,T.BD,jq (eK (eK S0)),?_⟩;simp only[vR];rw[LP];have r1:=r0.Zr (bW B {s with via:=x,wrong:=y,penalty:=z});have m1:Mv B.M H2 B.M (upd H2 B.ob (.ins c.bO B.dx (bW B {s with via:=x,wrong:=y,penalty:=z}))):=Mv.put (by simp);have tU:bh c (upd H2 B.ob (.ins c.bO B.dx (bW B {s with via:=x,wrong:=y,penalty:=z}))) B {s with via:=x,wrong:=y,penalty:=z}:=Raw.bO (s:={s with via:=x,wrong:=y,penalty:=z}) r1 i7 hB.len (fun _ _=>rfl) (fun _ _=>rfl) (fun _ _=>rfl) (fun _ _=>rfl) (wk.same m1.ib) hz h0;exact k.one tU ⟨rfl,rfl⟩ ((Mv.same Dc).trans m1)
inductive QL(c:Cs)(vs:ab V)(H:Hp)(Q:VK):Prop
 |mk (B:BA) (s:Bd) (b:Nat) (x y:Int) (q0:vs=[.ref B.ob,.int x,.int y]) (q1:Pre c H B s b) (q2:BF c Q H B (aP s (.prefer x y)))
def Kf(c:Cs):Sp:=fun vs H Q _=>QL c vs H Q
abbrev D':Stmt:=top 71
theorem PN:bx ["board","layer","direction"] ["board","layer","direction"] (aU D'):={}
theorem PZ(F:gY K "prefer" "prefer" D' f fd)(T:Txt K mg c):cZ P w K mg base gZ 1 f fd ["board","layer","direction"] (Kf c):=by
 refine F.ok PN (fun vs H Q E h=>?_) (fun fR A outer s H vs Q E hr h=>?_);·obtain⟨B,s,b,x,y,rfl,_⟩:=h;rfl
 ·obtain⟨B,s,b,x,y,rfl,pre,k⟩:=h;have hB:=pre.at_;have i7:=pre.good (.prefer x y);rw[BU]at k i7;obtain⟨gx,nr,si,_⟩:=hB.d5.ex;refine⟨_,(ah (cM (ia (kK i6 i6 aN (pv 1) (aZ (aZ (pv 0) rfl) rfl))) (ay (aX (cI (aa (cb T.j0) ak)))) br) (ah (cM (ia (kK i6 i6 aN (pv 2) aN)) (ay (aX (cI (aa (cb T.CM) ak)))) br) (ah (pI (pv 2) (pJ (aZ (pv 0) rfl) (dj qU (pv 1) aN) set_list)) (ay (aX (cI (aa aN ak))))))),?_⟩;refine MC ?_;intro uH oO lG;refine⟨_,rfl,j2 (s.g.l:Int) (fun Q' q=>⟨_,rfl,_,_,_,_,_,rfl,hB.at_,T.bC,T.fS,fw,_,_,_,_,_,rfl,si,T.gC,T.rT,rS,q⟩) ⟨_,rfl,?_⟩⟩;cases h1:bH x 1 (s.g.l:Int)with
  |false=>rw[h1,ao af]at k;exact bD rfl (k.no hB fun _ _ e=>e)
  |true=>
   rw[h1,aw rfl]at k i7;refine aI (by simp) ⟨_,rfl,j2 2 (fun _ q=>q) ⟨_,rfl,?_⟩⟩;cases h2:bH y 0 2 with
   |false=>rw[h2,ao af]at k;exact bD rfl (k.no hB fun _ _ e=>e)
   |true=>
    rw[h2,aw rfl]at k i7;refine aI (by simp) ?_;obtain⟨x,rfl,x1,x2⟩:=iR h1 (by decide);obtain⟨y,rfl,y1,y2⟩:=iR h2 (by decide);rw[aJ,aJ]at k i7;obtain⟨zz,ws,r0,wk,hz,h0⟩:=hB.raw;have hdl:=hB.good.dirs;refine⟨_,rfl,_,rfl,_,_,_,_,_,rfl,hB.at_,T.bC,T.tE,xn,_,rfl,_,_,rfl,rfl,B.di,_,_,x-1,rfl,rfl,r0.di,?_,?_⟩
    ·rw[ae];have e:(x:Int)-1=((x-1:Nat):Int):=by omega
     rw[e];exact pO (by omega)
    have ev:(d8 s.dirs).set (x-1) (vi y)=d8 (s.dirs.set (x-1) y):=by unfold d8;rw[List.map_set]
    rw[ev];have r1:=r0.Zt (s.dirs.set (x-1) y);have m1:Mv B.M H B.M (upd H B.di (.lst (d8 (s.dirs.set (x-1) y)))):=Mv.put (by simp);have tU:bh c (upd H B.di (.lst (d8 (s.dirs.set (x-1) y)))) B {s with dirs:=s.dirs.set (x-1) y}:=Raw.bO (s:={s with dirs:=s.dirs.set (x-1) y}) r1 i7 hB.len (fun _ _=>rfl) (fun _ _=>rfl) (fun _ _=>rfl) (fun _ _=>rfl) (wk.same m1.ib) hz h0;exact k.one tU ⟨rfl,rfl⟩ m1
inductive Td(c:Cs)(vs:ab V)(H:Hp)(Q:VK):Prop
 |mk (B:BA) (s:Bd) (b:Nat) (l:Addr) (L x1 y1 x2 y2:Int) (q0:vs=[.ref B.ob,.ref l]) (q1:Pre c H B s b) (q2:H l=some (.lst [.int L,.int x1,.int y1,.int x2,.int y2])) (q3:BF c Q H B (aP s (.block L x1 y1 x2 y2)))
def Ow(c:Cs):Sp:=fun vs H Q _=>Td c vs H Q
theorem Hy(h:By s L x1 y1 x2 y2=0):(0<=L/\L<=s.g.l)/\(0<=x1/\x1<=x2/\x2<(s.g.w:Int)/\0<=y1/\y1<=y2/\y2<(s.g.h:Int)):=by
 unfold By at h;cases hL:bH L 0 (s.g.l:Int)with
 |false=>rw[hL,ao af]at h;cases h
 |true=>
  rw[hL,aw rfl]at h;cases hb:mT s x1 y1 x2 y2 with
  |false=>rw[hb,ao af]at h;cases h
  |true=>exact⟨gi.mp hL,uj hb⟩
theorem Jr{s:Bd}:∀v∈dq s L x1 y1 x2 y2,v<s.g.size:=fun v hv=>dr.mp (ba.mp hv).1
theorem Pe{s:Bd}(S:Good s):(dq s L x1 y1 x2 y2).length<=2304:=bZ (iC Hx Jr) S.size
abbrev Iv:Stmt:=top 72
theorem uP:bx ["board","box","refusal","cells","cell"] ["board","box"] (aU Iv):={}
theorem RT(F:gY K "block" "block" Iv f fd)(T:Txt K mg c)(gJ:bP P w K mg base "box_refusal" n ["board","box"] (oW c))(eL:bq P w K mg base c.d5 "box_cells" n ["self","box"] (sJ c))(oG:bq P w K mg base c.bO "is_held" n ["self","cell"] (Kh c))(f_:bq P w K mg base c.bO "set_blocked" n ["self","cells","blocked"] (sF c)):cZ P w K mg base gZ (n+1) f fd ["board","box"] (Ow c):=by
 refine F.ok uP (fun vs H Q E h=>?_) (fun fR A outer s H vs Q E hr h=>?_);·obtain⟨B,s,b,l,L,x1,y1,x2,y2,rfl,_⟩:=h;rfl
 ·obtain⟨B,s,b,l,L,x1,y1,x2,y2,rfl,pre,hl,k⟩:=h;have hB:=pre.at_;have i7:=pre.good (.block L x1 y1 x2 y2);rw[DQ]at k i7;obtain⟨gx,nr,si,_⟩:=hB.d5.ex;refine⟨_,(ah (cE (i:=2) uP.nd rfl (bj rfl) (cK gJ hr (aa (pv 0) (aa (pv 1) ak)))) (ah (cM (bL n4 (pv 2) aN (cJ _)) (ay (aX (cI (aa (pv 2) ak)))) br) (ah (cE (i:=3) uP.nd rfl (bj rfl) (bR (aZ (pv 0) rfl) eL hr (aa (pv 1) ak))) (ah (cM (dQ (dM (X4 rfl) rfl T.b.any X9 (aa (oQ (own:=[("cell",4)]) rfl uP.nd (dP (pv 3)) (eG (by kernel_rfl)) (fun _ _ _ _ _=>cQ (i:=4) uP.nd rfl (bj rfl)) (fun _ _ _ _ _=>jz) (fun _ _ _ _ _=>(bR (pv 0) oG hr (aa (pv 4) ak)))) ak)) (fun _=>rfl)) (ay (aX (cI (aa (cb T.tT) ak)))) br) (ah (da (bR (pv 0) f_ hr (aa (pv 3) (aa vd ak)))) (ay (aX (cI (aa aN ak))))))))),?_⟩;refine Yv ?_;intro Og GN uH oO lG;refine⟨_,rfl,_,rfl,B,s,l,L,x1,y1,x2,y2,rfl,hB,hl,?_⟩;refine⟨_,rfl,rfl,_,rfl,?_⟩;by_cases h0:By s L x1 y1 x2 y2=0
  ·refine aI (mq h0) ?_;rw[aw h0]at k i7;have hz:=Hy h0;refine⟨_,rfl,_,_,_,_,_,rfl,hB.at_,T.bC,T.fS,fw,_,_,_,rfl,si,tj,_,rfl,B.gr,l,s,L,x1,y1,x2,y2,rfl,hB.d5,hl,hz.1.1,hz.1.2,hz.2,fun H1 cl s1 EO SI=>?_⟩;have fu:=hB.same s1;have jQ:=Jr (s:=s) (L:=L) (x1:=x1) (y1:=y1) (x2:=x2) (y2:=y2);have Qk:=Pe hB.good (L:=L) (x1:=x1) (y1:=y1) (x2:=x2) (y2:=y2);unfold EK at k i7;generalize dq s L x1 y1 x2 y2=cells at SI jQ Qk k i7;refine⟨_,rfl,cl,rfl,⟨_,cN.of SI⟩,fun D hD=>?_⟩;let held:Nat->Bool:=fun v=>!((dB s).getD v 0==0&&(cB s).getD v 0==0);refine sZ (K:=K) (a:=cl) (xs:=d8 cells) (fun x=>match x with| .int z=>.bl (held z.toNat)|_=>.iG) hD (cN.of SI) (fun _=>by rfl) (by rw[ae];omega) (fun x H' Q' hx s2 kk=>?_) fun H2 s2 e2=>?_;·obtain⟨v,hv,rfl⟩:=sY hx;have jA:=fu.same s2;exact⟨_,rfl,_,_,_,rfl,jA.at_,NN,_,rfl,B,s,v,rfl,jA,jQ v hv,kk H' fun _ _ e=>e⟩
   have e2:H2 D=some (.lst ((cells.map held).map V.bl)):=by rw[e2];unfold d8;rw[c_,c_];rfl
   refine⟨D,cells.map held,rfl,cN.of e2,_,rfl,?_⟩;have Dc:=s1.trans s2;have ha:(cells.map held).any id=!(cells.all fun v=>(dB s).getD v 0==0&&(cB s).getD v 0==0):=by rw[List.any_map,List.not_all_eq_any_not];rfl
   rw[ha];cases hc:(cells.all fun v=>(dB s).getD v 0==0&&(cB s).getD v 0==0)with
   |false=>rw[hc,ao af]at k;exact bD rfl (k.no hB Dc)
   |true=>
    rw[hc,aw rfl]at k i7;refine aI (by simp) ?_;have jA:=fu.same s2;refine⟨_,rfl,_,_,_,rfl,jA.at_,vD,_,rfl,B,s,cl,cells,_,true,rfl,jA,s2 _ _ SI,hB.not EO,jQ,i7,fun v hv=>?_,fun H3 tU m3=>?_⟩
    ·rw[ba,dr,eQ,jU,jU];split;·rename_i q;exact⟨fun _=>rfl,fun _=>⟨hv,.inr q⟩⟩
     ·rename_i q;exact⟨fun z=>z.2.resolve_right q,fun z=>⟨hv,.inl z⟩⟩
    ·exact k.one tU ⟨rfl,rfl⟩ ((Mv.same Dc).trans m3)
  ·refine bD (ml h0) ?_;rw[ao h0]at k;exact⟨_,rfl,k.no hB fun _ _ e=>e⟩
inductive Vm(c:Cs)(vs:ab V)(H:Hp)(Q:VK):Prop
 |mk (B:BA) (s:Bd) (b:Nat) (l:Addr) (L x1 y1 x2 y2:Int) (q0:vs=[.ref B.ob,.ref l]) (q1:Pre c H B s b) (q2:H l=some (.lst [.int L,.int x1,.int y1,.int x2,.int y2])) (q3:BF c Q H B (aP s (.free L x1 y1 x2 y2)))
def Rr(c:Cs):Sp:=fun vs H Q _=>Vm c vs H Q
abbrev MH:Stmt:=top 73
theorem OA:bx ["board","box","refusal"] ["board","box"] (aU MH):={}
theorem Us(F:gY K "free" "free" MH f fd)(T:Txt K mg c)(gJ:bP P w K mg base "box_refusal" n ["board","box"] (oW c))(eL:bq P w K mg base c.d5 "box_cells" n ["self","box"] (sJ c))(f_:bq P w K mg base c.bO "set_blocked" n ["self","cells","blocked"] (sF c)):cZ P w K mg base gZ (n+1) f fd ["board","box"] (Rr c):=by
 refine F.ok OA (fun vs H Q E h=>?_) (fun fR A outer s H vs Q E hr h=>?_);·obtain⟨B,s,b,l,L,x1,y1,x2,y2,rfl,_⟩:=h;rfl
 ·obtain⟨B,s,b,l,L,x1,y1,x2,y2,rfl,pre,hl,k⟩:=h;have hB:=pre.at_;have i7:=pre.good (.free L x1 y1 x2 y2);rw[GS]at k i7;obtain⟨gx,nr,si,_⟩:=hB.d5.ex;refine⟨_,(ah (cE (i:=2) OA.nd rfl (bj rfl) (cK gJ hr (aa (pv 0) (aa (pv 1) ak)))) (ah (cM (bL n4 (pv 2) aN (cJ _)) (ay (aX (cI (aa (pv 2) ak)))) br) (ah (da (bR (pv 0) f_ hr (aa (bR (aZ (pv 0) rfl) eL hr (aa (pv 1) ak)) (aa vd ak)))) (ay (aX (cI (aa aN ak))))))),?_⟩;refine MC ?_;intro uH oO lG;refine⟨_,rfl,_,rfl,B,s,l,L,x1,y1,x2,y2,rfl,hB,hl,?_⟩;refine⟨_,rfl,rfl,_,rfl,?_⟩;by_cases h0:By s L x1 y1 x2 y2=0
  ·refine aI (mq h0) ?_;rw[aw h0]at k i7;have hz:=Hy h0;refine⟨_,rfl,_,_,_,rfl,hB.at_,vD,_,rfl,_,_,_,_,_,rfl,hB.at_,T.bC,T.fS,fw,_,_,_,rfl,si,tj,_,rfl,B.gr,l,s,L,x1,y1,x2,y2,rfl,hB.d5,hl,hz.1.1,hz.1.2,hz.2,fun H1 cl s1 EO SI=>?_⟩;have fu:=hB.same s1;have jQ:=Jr (s:=s) (L:=L) (x1:=x1) (y1:=y1) (x2:=x2) (y2:=y2);refine⟨B,s,cl,_,_,false,rfl,fu,SI,hB.not EO,jQ,i7,fun v hv=>?_,fun H3 tU m3=>?_⟩
   ·rw[ba,fm,<-Bool.not_eq_true,jU];split;·rename_i q;exact⟨fun z=>bF q z.2,fun z=>by cases z⟩
    ·rename_i q;exact⟨fun z=>z.1,fun z=>⟨z,q⟩⟩
   ·exact k.one tU ⟨rfl,rfl⟩ ((Mv.same s1).trans m3)
  ·refine bD (ml h0) ?_;rw[ao h0]at k;exact⟨_,rfl,k.no hB fun _ _ e=>e⟩
end
end Nw
namespace Nw
open PySem PySem.Spec PyProof.Rows L2
open Vbpcah (between)
theorem PU(h:Kw s z L x1 y1 x2 y2=0):(∃n:Nat,z=(n:Int)/\1<=n/\n<=32)/\(0<=L/\L<=s.g.l)/\(0<=x1/\x1<=x2/\x2<(s.g.w:Int)/\0<=y1/\y1<=y2/\y2<(s.g.h:Int)):=by
 unfold Kw at h;cases hL:bH L 0 (s.g.l:Int)with
 |false=>rw[hL,ao af]at h;cases h
 |true=>
  rw[hL,aw rfl]at h;cases hn:ij z with
  |false=>rw[hn,ao af]at h;cases h
  |true=>
   rw[hn,aw rfl]at h;cases hb:mT s x1 y1 x2 y2 with
   |false=>rw[hb,ao af]at h;cases h
   |true=>exact⟨jG hn,gi.mp hL,uj hb⟩
def CC(s:Bd)(n:Nat):Bd:=if bf (s.net n)=true\/cw s n=false then s else match gQ s n with
 |some t=>eX s n t.1
 |none=>s
theorem oZ:∀(l:ab Nat)(s:Bd),lT s l=l.foldl CC s
 |[],s=>rfl
 |n::l,s=>by
  rw[dg];unfold lT CC;split;·exact oZ l s
  ·cases gQ s n with
   |none=>exact oZ l s
   |some t=>exact oZ l _
section
variable{P:bT}{w:cU}{K:ag}{mg:Str->aY aA}{base:Heap}{c:Cs}{n:Nat}
inductive Yn(c:Cs)(vs:ab V)(H:Hp)(Q:VK):Prop
 |mk (B:BA) (s:Bd) (b:Nat) (l:Addr) (z L x1 y1 x2 y2:Int) (q0:vs=[.ref B.ob,.int z,.ref l]) (q1:Pre c H B s b) (q2:H l=some (.lst [.int L,.int x1,.int y1,.int x2,.int y2])) (q3:BF c Q H B (aP s (.pin z L x1 y1 x2 y2)))
def Vx(c:Cs):Sp:=fun vs H Q _=>Yn c vs H Q
abbrev RA:Stmt:=top 74
theorem D7:bx ["board","net","box","refusal","cells","cell"] ["board","net","box"] (aU RA):={}
theorem WH(F:gY K "pin" "pin" RA f fd)(T:Txt K mg c)(rb:bP P w K mg base "pin_refusal" n ["board","net","box"] (zr c))(eL:bq P w K mg base c.d5 "box_cells" n ["self","box"] (sJ c))(fA:bq P w K mg base c.bO "may_use" n ["self","net","cell"] (zt c))(oH:bq P w K mg base c.bO "add_pin" n ["self","net","cells"] (Kk c)):cZ P w K mg base gZ (n+1) f fd ["board","net","box"] (Vx c):=by
 refine F.ok D7 (fun vs H Q E h=>?_) (fun fR A outer s H vs Q E hr h=>?_);·obtain⟨B,s,b,l,z,L,x1,y1,x2,y2,rfl,_⟩:=h;rfl
 ·obtain⟨B,s,b,l,z,L,x1,y1,x2,y2,rfl,pre,hl,k⟩:=h;have hB:=pre.at_;have i7:=pre.good (.pin z L x1 y1 x2 y2);rw[Kb s hB.good]at k i7;obtain⟨gx,nr,si,_⟩:=hB.d5.ex;refine⟨_,(ah (cE (i:=3) D7.nd rfl (bj rfl) (cK rb hr (aa (pv 0) (aa (pv 1) (aa (pv 2) ak))))) (ah (cM (bL n4 (pv 3) aN (cJ _)) (ay (aX (cI (aa (pv 3) ak)))) br) (ah (cE (i:=4) D7.nd rfl (bj rfl) (bR (aZ (pv 0) rfl) eL hr (aa (pv 2) ak))) (ah (cM (ia (dQ (dM (Jo rfl) rfl T.b.all Jq (aa (oQ (own:=[("cell",5)]) rfl D7.nd (dP (pv 4)) (eG (by kernel_rfl)) (fun _ _ _ _ _=>cQ (i:=5) D7.nd rfl (bj rfl)) (fun _ _ _ _ _=>jz) (fun _ _ _ _ _=>(bR (pv 0) fA hr (aa (pv 1) (aa (pv 5) ak))))) ak)) (fun _=>rfl))) (ay (aX (cI (aa (cb T.tT) ak)))) br) (ah (da (bR (pv 0) oH hr (aa (pv 1) (aa (pv 4) ak)))) (ay (aX (cI (aa (dM dv rfl T.b.len jC (aa (cD bA (aZ (pv 0) rfl) (pv 1) (fun _ _=>rfl)) ak)) ak))))))))),?_⟩;refine Yv ?_;intro Og GN uH oO lG;refine⟨_,rfl,_,rfl,_,rfl,B,s,l,z,L,x1,y1,x2,y2,rfl,hB,hl,?_⟩;refine⟨_,rfl,rfl,_,rfl,?_⟩;by_cases h0:Kw s z L x1 y1 x2 y2=0
  ·refine aI (mq h0) ?_;rw[aw h0]at k i7;obtain⟨⟨nt,rfl,n1,n2⟩,hL,hbx⟩:=PU h0;rw[aJ]at k i7;refine⟨_,rfl,_,_,_,_,_,rfl,hB.at_,T.bC,T.fS,fw,_,_,_,rfl,si,tj,_,rfl,B.gr,l,s,L,x1,y1,x2,y2,rfl,hB.d5,hl,hL.1,hL.2,hbx,fun H1 cl s1 EO SI=>?_⟩;have fu:=hB.same s1;have jQ:=Jr (s:=s) (L:=L) (x1:=x1) (y1:=y1) (x2:=x2) (y2:=y2);have Qk:=Pe hB.good (L:=L) (x1:=x1) (y1:=y1) (x2:=x2) (y2:=y2);generalize dq s L x1 y1 x2 y2=cells at SI jQ Qk k i7;refine⟨_,rfl,cl,rfl,⟨_,cN.of SI⟩,fun D hD=>?_⟩;refine sZ (K:=K) (a:=cl) (xs:=d8 cells) (fun x=>match x with| .int z=>.bl (qH s nt z.toNat)|_=>.iG) hD (cN.of SI) (fun _=>by rfl) (by rw[ae];omega) (fun x H' Q' hx s2 kk=>?_) fun H2 s2 e2=>?_;·obtain⟨v,hv,rfl⟩:=sY hx;have jA:=fu.same s2;exact⟨_,rfl,_,_,_,rfl,jA.at_,yw,_,rfl,_,rfl,B,s,nt,v,rfl,jA,jQ v hv,fun H4 s4=>kk H4 s4⟩
   have e2:H2 D=some (.lst ((cells.map (qH s nt)).map V.bl)):=by rw[e2];unfold d8;rw[c_,c_];rfl
   refine⟨D,cells.map (qH s nt),rfl,cN.of e2,_,rfl,?_⟩;have Dc:=s1.trans s2;have ha:(cells.map (qH s nt)).all id=yG s nt cells:=by rw[List.all_map];rfl
   rw[ha];cases hc:yG s nt cells with
   |false=>rw[hc,ao af]at k;exact bD rfl (k.no hB Dc)
   |true=>
    rw[hc,aw rfl]at k i7;refine aI (by simp) ?_;have jA:=fu.same s2;refine⟨_,rfl,_,_,_,rfl,jA.at_,NO,_,rfl,_,rfl,B,s,cl,nt,cells,rfl,jA,s2 _ _ SI,hB.IY EO,jQ,n1,n2,i7,fun H3 tU m3=>?_⟩;obtain⟨pl,e1,e3⟩:=qt tU n1 n2;obtain⟨zs,Di,Fu,OY⟩:=e3.nZ;have el:((eI zs).length:Int)=((s.net nt).pins.length:Int)+1:=by
     have:(eI zs).length=((qi s nt cells).net nt).pins.length:=by rw[<-Di];unfold eI;rw[ae,ae]
     rw[this,jP hB.good.nets ⟨n1,n2⟩ n1,aw rfl];simp
    refine⟨_,rfl,_,_,_,_,_,rfl,tU.at_,T.bC,T.nH,kW,_,rfl,_,_,_,_,rfl,rfl,cN.of tU.pi,cA e1,pl,_,rfl,.inl (cN.of Fu),?_⟩;rw[el];exact k.one tU ⟨rfl,rfl⟩ ((Mv.same Dc).trans m3)
  ·refine bD (ml h0) ?_;rw[ao h0]at k;exact⟨_,rfl,k.no hB fun _ _ e=>e⟩
inductive Vn(c:Cs)(vs:ab V)(H:Hp)(Q:VK):Prop
 |mk (B:BA) (s:Bd) (b:Nat) (z:Int) (q0:vs=[.ref B.ob,.int z]) (q1:Pre c H B s b) (q2:BF c Q H B (aP s (.drop z)))
def Rt(c:Cs):Sp:=fun vs H Q _=>Vn c vs H Q
abbrev MI:Stmt:=top 75
theorem OB:bx ["board","net","had"] ["board","net"] (aU MI):={}
theorem Ut(F:gY K "drop" "drop" MI f fd)(T:Txt K mg c)(gy:bP P w K mg base "is_net" n ["net"] (sG c))(cg:bq P w K mg base c.bO "is_laid" n ["self","net"] (l8 c))(mJ:bq P w K mg base c.bO "drop_pins" n ["self","net"] (DY c)):cZ P w K mg base gZ (n+1) f fd ["board","net"] (Rt c):=by
 refine F.ok OB (fun vs H Q E h=>?_) (fun fR A outer s H vs Q E hr h=>?_);·obtain⟨B,s,b,z,rfl,_⟩:=h;rfl
 ·obtain⟨B,s,b,z,rfl,pre,k⟩:=h;have hB:=pre.at_;rw[step_drop]at k;refine⟨_,(ah (cM (ia (dQ (cK gy hr (aa (pv 1) ak)) (fun _=>rfl))) (ay (aX (cI (aa (cb T.o7) ak)))) br) (ah (cM (dQ (bR (pv 0) cg hr (aa (pv 1) ak)) (fun _=>rfl)) (ay (aX (cI (aa (cb T.Bg) ak)))) br) (ah (cE (i:=2) OB.nd rfl (bj rfl) (dM dv rfl T.b.len jC (aa (cD bA (aZ (pv 0) rfl) (pv 1) (fun _ _=>rfl)) ak))) (ah (da (bR (pv 0) mJ hr (aa (pv 1) ak))) (ay (aX (cI (aa (pv 2) ak)))))))),?_⟩;refine Yw ?_;intro GN uH oO lG;refine⟨_,rfl,z,rfl,_,rfl,?_⟩;cases hn:ij z with
  |false=>rw[hn,ao af]at k;exact bD rfl (k.no hB fun _ _ e=>e)
  |true=>
   rw[hn,aw rfl]at k;obtain⟨nt,rfl,h1,h2⟩:=jG hn;rw[aJ]at k;refine aI (by simp) ?_;refine⟨_,rfl,_,_,_,rfl,hB.at_,j4,_,rfl,B,s,nt,rfl,hB,h1,h2,_,rfl,?_⟩;cases hd:bf (s.net nt)with
   |true=>rw[hd,aw rfl]at k;exact bD rfl (k.no hB fun _ _ e=>e)
   |false=>
    rw[hd,ao af]at k;refine aI af ?_;obtain⟨pl,e1,e2⟩:=qt hB h1 h2;obtain⟨zs,Di,Fu,OY⟩:=e2.nZ;have el:(eI zs).length=(s.net nt).pins.length:=by rw[<-Di];unfold eI;rw[ae,ae]
    have hw:(s.net nt).ways=none:=by
     cases e:(s.net nt).ways with
     |none=>rfl
     |some w=>unfold bf at hd;rw[e]at hd;cases hd
    refine⟨_,rfl,_,_,_,_,_,rfl,hB.at_,T.bC,T.nH,kW,_,rfl,_,_,_,_,rfl,rfl,cN.of hB.pi,cA e1,pl,_,rfl,.inl (cN.of Fu),?_⟩;rw[el];refine⟨_,rfl,_,_,_,rfl,hB.at_,Js,_,rfl,B,s,nt,rfl,hB,h1,h2,hw,fun H1 B1 fu e3 m1=>?_⟩;exact⟨_,rfl,k.one fu e3 m1⟩
inductive S8(c:Cs)(vs:ab V)(H:Hp)(Q:VK):Prop
 |mk (B:BA) (s:Bd) (b:Nat) (z:Int) (q0:vs=[.ref B.ob,.int z]) (q1:Pre c H B s b) (q2:BF c Q H B (aP s (.route z)))
def Oq(c:Cs):Sp:=fun vs H Q _=>S8 c vs H Q
abbrev Iq:Stmt:=top 76
theorem D6:bx ["board","net","refusal","tree"] ["board","net"] (aU Iq):={}
theorem RP(F:gY K "route" "route" Iq f fd)(T:Txt K mg c)(jk:bP P w K mg base "tree_refusal" n ["board","net"] (qI c))(lM:bP P w K mg base "firm_tree" n ["board","net"] (AD c gQ))(iU:bq P w K mg base c.bO "lay" n ["self","net","ways"] (Ou c)):cZ P w K mg base gZ (n+1) f fd ["board","net"] (Oq c):=by
 refine F.ok D6 (fun vs H Q E h=>?_) (fun fR A outer s H vs Q E hr h=>?_);·obtain⟨B,s,b,z,rfl,_⟩:=h;rfl
 ·obtain⟨B,s,b,z,rfl,pre,k⟩:=h;have hB:=pre.at_;have hle:=pre.le;rw[DN]at k;refine⟨_,(ah (cE (i:=2) D6.nd rfl (bj rfl) (cK jk hr (aa (pv 0) (aa (pv 1) ak)))) (ah (cM (bL n4 (pv 2) aN (cJ _)) (ay (aX (cI (aa (pv 2) ak)))) br) (ah (cE (i:=3) D6.nd rfl (bj rfl) (cK lM hr (aa (pv 0) (aa (pv 1) ak)))) (ah (cM (bL yb (pv 3) lr (cJ _)) (ay (aX (cI (aa (cb T.vY) ak)))) br) (ah (da (bR (pv 0) iU hr (aa (pv 1) (aa (aZ (pv 3) rfl) ak)))) (ay (aX (cI (aa (aZ (pv 3) rfl) ak))))))))),?_⟩;refine Yv ?_;intro Og GN uH oO lG;refine⟨_,rfl,_,rfl,B,s,z,rfl,hB,?_⟩;refine⟨_,rfl,rfl,_,rfl,?_⟩;by_cases h0:tR s z=0
  ·refine aI (mq h0) ?_;rw[aw h0]at k;obtain⟨nt,rfl,⟨h1,h2⟩,hw,hp⟩:=DB h0;rw[aJ]at k;refine⟨_,rfl,_,rfl,B,s,nt,b,rfl,hB,pre.rips,by omega,h1,h2,hp,fun e H1 s1=>?_,fun ways x e H1 t s1 ht=>?_⟩;·rw[e]at k;exact⟨_,rfl,rfl,_,rfl,bD rfl (k.no hB s1)⟩
   ·rw[e]at k;refine⟨_,rfl,rfl,_,rfl,aI (by simp) ?_⟩;have fu:=hB.same s1;obtain⟨dx,wl,q1,q2⟩:=ht.same (M4 hB);have good:=hB.good.v_ h1 h2 e;refine⟨_,rfl,_,_,_,rfl,fu.at_,NM,_,rfl,_,rfl,_,_,_,_,_,rfl,dS _ _ q1,T.tC,T.xu,vS,B,s,wl,nt,ways,rfl,fu,h1,h2,hw,q2,rR hB.good.nets h1 h2 good,good,Ez hB.good.nets hB.len h1 h2 (Lh hB.good h1 h2 e),fun H2 jA m2=>?_⟩;have q1':=dS _ _ (m2.ib (X:=B.xs) _ _ q1);refine⟨_,rfl,_,_,_,_,_,rfl,q1',T.tC,T.HY,HU,?_⟩;exact k.one jA ⟨rfl,rfl⟩ ((Mv.same s1).trans m2)
  ·refine bD (ml h0) ?_;rw[ao h0]at k;exact⟨_,rfl,k.no hB fun _ _ e=>e⟩
inductive Ym(c:Cs)(vs:ab V)(H:Hp)(Q:VK):Prop
 |mk (B:BA) (s:Bd) (b:Nat) (z:Int) (q0:vs=[.ref B.ob,.int z]) (q1:Pre c H B s b) (q2:BF c Q H B (aP s (.rip z)))
def Vw(c:Cs):Sp:=fun vs H Q _=>Ym c vs H Q
abbrev Rz:Stmt:=top 77
theorem Rx:bx ["board","net","refusal"] ["board","net"] (aU Rz):={}
theorem WG(F:gY K "rip" "rip" Rz f fd)(T:Txt K mg c)(fU:bP P w K mg base "ways_refusal" n ["board","net"] (nO c))(gK:bq P w K mg base c.bO "unlay" n ["self","net"] (C8 c)):cZ P w K mg base gZ (n+1) f fd ["board","net"] (Vw c):=by
 refine F.ok Rx (fun vs H Q E h=>?_) (fun fR A outer s H vs Q E hr h=>?_);·obtain⟨B,s,b,z,rfl,_⟩:=h;rfl
 ·obtain⟨B,s,b,z,rfl,pre,k⟩:=h;have hB:=pre.at_;rw[Ka]at k;refine⟨_,(ah (cE (i:=2) Rx.nd rfl (bj rfl) (cK fU hr (aa (pv 0) (aa (pv 1) ak)))) (ah (cM (bL n4 (pv 2) aN (cJ _)) (ay (aX (cI (aa (pv 2) ak)))) br) (ah (da (bR (pv 0) gK hr (aa (pv 1) ak))) (ay (aX (cI (aa aN ak))))))),?_⟩;refine MC ?_;intro uH oO lG;refine⟨_,rfl,_,rfl,B,s,z,rfl,hB,?_⟩;refine⟨_,rfl,rfl,_,rfl,?_⟩;by_cases h0:nU s z=0
  ·refine aI (mq h0) ?_;rw[aw h0]at k;obtain⟨nt,rfl,⟨h1,h2⟩,ws,hw⟩:=su h0;have n8:bf (s.net nt)=true:=by unfold bf;rw[hw];rfl
   rw[aJ]at k;exact⟨_,rfl,_,_,_,rfl,hB.at_,E7,_,rfl,B,s,nt,rfl,hB,h1,h2,n8,fun H1 fu m1=>k.one fu ⟨rfl,rfl⟩ m1⟩
  ·refine bD (ml h0) ?_;rw[ao h0]at k;exact⟨_,rfl,k.no hB fun _ _ e=>e⟩
inductive Vo(c:Cs)(vs:ab V)(H:Hp)(Q:VK):Prop
 |mk (B:BA) (s:Bd) (b:Nat) (z:Int) (q0:vs=[.ref B.ob,.int z]) (q1:Pre c H B s b) (q2:BF c Q H B (aP s (.auto z)))
def Ru(c:Cs):Sp:=fun vs H Q _=>Vo c vs H Q
theorem z_(h:kU z=0):∃k:Nat,z=(k:Int)/\k<=1000:=by
 unfold kU at h;cases hb:bH z 0 1000 with
 |false=>rw[hb,ao af]at h;cases h
 |true=>obtain⟨k,e,h1,h2⟩:=iR hb (by decide);exact⟨k,e,by omega⟩
theorem vz(p:Nat->Bool):(dW (bV.filter p)).length<=1000:=by unfold dW Vbpcah.ints;rw[bg,ae];exact rP p
theorem IK(hB:bh c H B s)(h:HG Q H (x::dW (bX s))):[V.int x].length<=sizeLine/\∀p,H p=none->lI c [.ref B.ob] (upd H p (.lst [V.int x])) (fun y H2=>ZF (.ref p) y H2 Q) E0:=by
 refine⟨by show 1<=sizeLine;decide,fun p hp=>?_⟩;have s1:aQ H (upd H p (.lst [V.int x])):=aQ.new hp;refine⟨B,s,rfl,hB.same s1,fun H2 l s2 Xq e2=>?_⟩;refine⟨p,l,_,_,rfl,rfl,s2 _ _ aq,e2,?_,fun q hq=>?_⟩;·rw[cn,ae,bS];have:(dW (bX s)).length<=1000:=vz _;omega
 ·refine h _ q ((s1.trans s2).trans (aQ.new hq)) ((s1.trans s2).free hq) ?_;rw[aq];rfl
abbrev MJ:Stmt:=top 79
theorem Il:bx ["board","budget","refusal","made"] ["board","budget"] (aU MJ):={}
theorem Uu(F:gY K "auto" "auto" MJ f fd)(T:Txt K mg c)(ip:bP P w K mg base "budget_refusal" n ["budget"] (oh c))(km:bP P w K mg base "make_tries" n ["board","nets","budget"] (uL c))(dG:bq P w K mg base c.bO "unlaid_nets" n ["self"] (ph c bX))(fz:bP P w K mg base "ask_unlaid" n ["board"] (lI c)):cZ P w K mg base gZ (n+1) f fd ["board","budget"] (Ru c):=by
 refine F.ok Il (fun vs H Q E h=>?_) (fun fR A outer s H vs Q E hr h=>?_);·obtain⟨B,s,b,z,rfl,_⟩:=h;rfl
 ·obtain⟨B,s,b,z,rfl,pre,k⟩:=h;have hB:=pre.at_;rw[GU]at k;refine⟨_,(ah (cE (i:=2) Il.nd rfl (bj rfl) (cK ip hr (aa (pv 1) ak))) (ah (cM (bL n4 (pv 2) aN (cJ _)) (ay (aX (cI (aa (pv 2) ak)))) br) (ah (cE (i:=3) Il.nd rfl (bj rfl) (cK km hr (aa (pv 0) (aa (jh (pv 0) dG hr) (aa (pv 1) ak))))) (ay (aX (dj A8 (cI (aa (pv 3) ak)) (cK fz hr (aa (pv 0) ak)))))))),?_⟩;refine MC ?_;intro uH oO lG;refine⟨_,rfl,z,rfl,?_⟩;refine⟨_,rfl,rfl,_,rfl,?_⟩;by_cases h0:kU z=0;·refine aI (mq h0) ?_;rw[aw h0]at k;obtain⟨kb,rfl,hk⟩:=z_ h0;rw[aJ]at k;refine⟨_,rfl,_,rfl,_,_,_,rfl,hB.at_,mG,B,s,rfl,hB,fun H1 l s1 hl e1=>?_⟩;refine⟨_,rfl,B,s,l,_,kb,b,rfl,hB.same s1,e1,xY,pre.rips,pre.le,hk,fun H2 jA m2=>?_⟩;have P7:Mv B.M H B.M H2:=(Mv.same s1).trans m2;obtain⟨q1,q2⟩:=IK (c:=c) (x:=((kb-(c9 kb s (bX s)).2:Nat):Int)) jA (BF.Y7 (c:=c) k jA ⟨rfl,rfl⟩ P7);exact⟨_,rfl,q1,fun p hp=>⟨_,rfl,q2 p hp⟩⟩
  ·refine bD (ml h0) ?_;rw[ao h0]at k;exact⟨_,rfl,k.no hB fun _ _ e=>e⟩
inductive Fh(c:Cs)(vs:ab V)(H:Hp)(Q:VK):Prop
 |mk (B:BA) (s:Bd) (b:Nat) (z:Int) (q0:vs=[.ref B.ob,.int z]) (q1:Pre c H B s b) (q2:BF c Q H B (aP s (.improve z)))
def xg(c:Cs):Sp:=fun vs H Q _=>Fh c vs H Q
abbrev AO:Stmt:=top 80
theorem xO:bx ["board","budget","refusal","stays"] ["board","budget"] (aU AO):={}
theorem MY(F:gY K "improve" "improve" AO f fd)(T:Txt K mg c)(ip:bP P w K mg base "budget_refusal" n ["budget"] (oh c))(lz:bP P w K mg base "improve_by_tries" n ["board","budget"] (GX c))(fz:bP P w K mg base "ask_unlaid" n ["board"] (lI c)):cZ P w K mg base gZ (n+1) f fd ["board","budget"] (xg c):=by
 refine F.ok xO (fun vs H Q E h=>?_) (fun fR A outer s H vs Q E hr h=>?_);·obtain⟨B,s,b,z,rfl,_⟩:=h;rfl
 ·obtain⟨B,s,b,z,rfl,pre,k⟩:=h;have hB:=pre.at_;rw[zh]at k;refine⟨_,(ah (cE (i:=2) xO.nd rfl (bj rfl) (cK ip hr (aa (pv 1) ak))) (ah (cM (bL n4 (pv 2) aN (cJ _)) (ay (aX (cI (aa (pv 2) ak)))) br) (ah (cE (i:=3) xO.nd rfl (bj rfl) (cK lz hr (aa (pv 0) (aa (pv 1) ak)))) (ay (aX (dj A8 (cI (aa (Eg (dQ (pv 3) (fun _=>rfl)) aN aN) ak)) (cK fz hr (aa (pv 0) ak)))))))),?_⟩;refine MC ?_;intro uH oO lG;refine⟨_,rfl,z,rfl,?_⟩;refine⟨_,rfl,rfl,_,rfl,?_⟩;by_cases h0:kU z=0
  ·refine aI (mq h0) ?_;rw[aw h0]at k;obtain⟨kb,rfl,hk⟩:=z_ h0;rw[aJ]at k;refine⟨_,rfl,_,rfl,B,s,kb,b,rfl,hB,pre.rips,pre.le,hk,fun t e H1 fu m1=>?_,fun e H1 B1 fu e1 m1=>?_⟩;·rw[e]at k;obtain⟨q1,q2⟩:=IK (c:=c) (x:=1) fu (BF.Y7 (c:=c) k fu ⟨rfl,rfl⟩ m1);exact⟨_,rfl,_,rfl,bD rfl ⟨q1,fun p hp=>⟨_,rfl,q2 p hp⟩⟩⟩
   ·rw[e]at k;obtain⟨q1,q2⟩:=IK (c:=c) (x:=0) fu (BF.Y7 (c:=c) k fu e1 m1);refine⟨_,rfl,_,rfl,aI af ⟨q1,fun p hp=>⟨_,rfl,?_⟩⟩⟩;have:=q2 p hp;rw[e1.1]at this;exact this
  ·refine bD (ml h0) ?_;rw[ao h0]at k;exact⟨_,rfl,k.no hB fun _ _ e=>e⟩
inductive Ta(c:Cs)(vs:ab V)(H:Hp)(Q:VK):Prop
 |mk (B:BA) (s:Bd) (b:Nat) (l:Addr) (zs:ab Int) (q0:vs=[.ref B.ob,.ref l]) (q1:Pre c H B s b) (q2:H l=some (.lst (zs.map V.int))) (q3:l∉B.M) (q4:zs.length<=1000) (q5:BF c Q H B (aP s (.order zs)))
def Ot(c:Cs):Sp:=fun vs H Q _=>Ta c vs H Q
abbrev Ir:Stmt:=top 78
theorem zA:bx ["board","nets","net"] ["board","nets"] (aU Ir):={}
theorem RQ(F:gY K "order" "order" Ir f fd)(T:Txt K mg c)(gy:bP P w K mg base "is_net" n ["net"] (sG c))(cg:bq P w K mg base c.bO "is_laid" n ["self","net"] (l8 c))(jH:bP P w K mg base "lay_by_tree" n ["board","net"] (uM c))(fz:bP P w K mg base "ask_unlaid" n ["board"] (lI c)):cZ P w K mg base gZ (n+1) f fd ["board","nets"] (Ot c):=by
 refine F.ok zA (fun vs H Q E h=>?_) (fun fR A outer s H vs Q E hr h=>?_);·obtain⟨B,s,b,l,zs,rfl,_⟩:=h;rfl
 ·obtain⟨B,s,b,l,zs,rfl,pre,hl,Se,hzl,k⟩:=h;have hB:=pre.at_;have hle:=pre.le;rw[DO]at k;refine⟨_,(ah (cM (ia (dQ (dM (Jo rfl) rfl T.b.all Jq (aa (oQ (own:=[("net",2)]) rfl zA.nd (dP (pv 1)) (eG (by kernel_rfl)) (fun _ _ _ _ _=>cQ (i:=2) zA.nd rfl (bj rfl)) (fun _ _ _ _ _=>jz) (fun _ _ _ _ _=>(cK gy hr (aa (pv 2) ak)))) ak)) (fun _=>rfl))) (ay (aX (cI (aa (cb T.o7) ak)))) br) (ah (gN bJ rfl (dP (pv 1)) (cQ (i:=2) zA.nd rfl (bj rfl)) (ay (cM (PW.pt (AV (dQ (cD bA (aZ (pv 0) rfl) (pv 2) (fun _ _=>rfl)) (fun _=>rfl)) (zK (ia (dQ (bR (pv 0) cg hr (aa (pv 2) ak)) (fun _=>rfl)))))) (ay (da (cK jH hr (aa (pv 0) (aa (pv 2) ak))))) br))) (ay (aX (cK fz hr (aa (pv 0) ak)))))),?_⟩;refine MD ?_;intro oO lG;refine⟨_,rfl,l,rfl,⟨_,cN.of hl⟩,fun D hD=>?_⟩;refine sZ (K:=K) (a:=l) (xs:=zs.map V.int) (fun x=>match x with| .int z=>.bl (ij z)|_=>.iG) hD (cN.of hl) (fun _=>by rfl) (by rw[ae];omega) (fun x H' Q' hx s2 kk=>?_) fun H1 s1 e1=>?_;·obtain⟨z,hz,rfl⟩:=bB.mp hx;exact⟨_,rfl,z,rfl,kk H' fun _ _ e=>e⟩
  have e1:H1 D=some (.lst ((zs.map ij).map V.bl)):=by rw[e1,c_,c_];rfl
  refine⟨D,zs.map ij,rfl,cN.of e1,_,rfl,?_⟩;have ha:(zs.map ij).all id=zs.all ij:=by rw[List.all_map];rfl
  rw[ha];cases hc:zs.all ij with
  |false=>rw[hc,ao af]at k;exact bD rfl (k.no hB s1)
  |true=>
   rw[hc,aw rfl,oZ]at k;refine aI (by simp) ?_;have Z':∀z∈zs,∃m:Nat,z=(m:Int)/\1<=m/\m<=32:=fun z hz=>jG (eS.mp hc z hz);refine⟨_,rfl,l,rfl,⟨_,cN.of (s1 _ _ hl)⟩,?_⟩;refine e_ (K:=K) (a:=l) (xs:=zs.map V.int) (fun i σ H'=>∃x2,σ=[some (.ref B.ob),some (.ref l),x2]/\bh c H' B (((zs.take i).map kQ).foldl CC s)/\d6 (((zs.take i).map kQ).foldl CC s) b/\Mv B.M H B.M H') ⟨none,rfl,hB.same s1,pre.rips,Mv.same s1⟩ (fun i σ H' _⟨_,_,_,_,m⟩=>cN.of (m.kp _ _ hl Se)) ?_ ?_
   ·rintro i y σ H2 hi ⟨x2,rfl,jA,R2,m2⟩;obtain⟨z,hz,rfl⟩:=ji hi;obtain⟨nt,rfl,h1,h2⟩:=Z' z (aH hz);rw[take_snoc hz,cz,sh];simp only[cx,mZ,dg,List.foldl_nil,aJ];generalize ((zs.take i).map kQ).foldl CC s=s2 at jA R2;obtain⟨pl,p1,p2⟩:=qt jA h1 h2;obtain⟨ps,Di,Fu,OY⟩:=p2.nZ;have ep:cw s2 nt=!(eI ps).isEmpty:=by unfold cw;rw[<-Di];cases ps<;>rfl
    refine⟨_,rfl,_,_,_,_,_,rfl,jA.at_,T.bC,T.nH,kW,_,rfl,_,_,_,_,rfl,rfl,cN.of jA.pi,cA p1,_,.inl ⟨_,cN.of Fu,rfl⟩,?_⟩;rw[<-ep];have skip:CC s2 nt=s2->∃x2,[some (V.ref B.ob),some (V.ref l),some (vi nt)]=[some (.ref B.ob),some (.ref l),x2]/\bh c H2 B (CC s2 nt)/\d6 (CC s2 nt) b/\Mv B.M H B.M H2:=fun e=>by rw[e];exact⟨_,rfl,jA,R2,m2⟩
    cases hp:cw s2 nt with
    |false=>exact aI af (aI af (skip (by unfold CC;rw[aw (.inr hp)])))
    |true=>
     refine bD rfl ⟨_,rfl,_,_,_,rfl,jA.at_,j4,_,rfl,B,s2,nt,rfl,jA,h1,h2,_,rfl,?_⟩;cases hd:bf (s2.net nt)with
     |true=>exact aI (by simp) (skip (by unfold CC;rw[aw (.inl hd)]))
     |false=>
      have eo:CC s2 nt=match gQ s2 nt with|some t=>eX s2 nt t.1|none=>s2:=by
       unfold CC;rw[ao];rintro(z|z);·rw[hd]at z;cases z
       ·rw[hp]at z;cases z
      have hw:(s2.net nt).ways=none:=by
       cases e:(s2.net nt).ways with
       |none=>rfl
       |some w=>unfold bf at hd;rw[e]at hd;cases hd
      have Tr:(s2.net nt).pins≠[]:=fun e=>by unfold cw at hp;rw[e]at hp;cases hp
      refine bD rfl ⟨_,rfl,_,rfl,B,s2,nt,b,rfl,jA,R2,by omega,h1,h2,Tr,hw,fun e H3 s3=>?_,fun t e H3 tU m3=>?_⟩;·rw[e]at eo;rw[eo];exact⟨_,rfl,jA.same s3,R2,m2.trans (Mv.same s3)⟩
      ·rw[e]at eo;rw[eo];exact⟨_,rfl,tU,R2.lay jA.good.nets h1 h2,m2.trans m3⟩
   ·rintro σ H2 ⟨x2,rfl,jA,R2,m2⟩;have el:(zs.map V.int).length=zs.length:=ae _;rw[el,bG]at jA;exact⟨_,rfl,B,_,rfl,jA,BF.Y7 (c:=c) k jA ⟨rfl,rfl⟩ m2⟩
end
end Nw
namespace Nw
open Vbpcah (Call Board)
inductive gB:Int->ab Int->js->Prop
 |begin_ (a b c:Int):gB 0 [a,b,c] (.begin_ a b c)
 |costs (a b c:Int):gB 1 [a,b,c] (.costs a b c)
 |prefer (a b:Int):gB 2 [a,b] (.prefer a b)
 |block (a b c d e:Int):gB 3 [a,b,c,d,e] (.block a b c d e)
 |free (a b c d e:Int):gB 4 [a,b,c,d,e] (.free a b c d e)
 |pin (n a b c d e:Int):gB 5 [n,a,b,c,d,e] (.pin n a b c d e)
 |drop (n:Int):gB 6 [n] (.drop n)
 |route (n:Int):gB 7 [n] (.route n)
 |rip (n:Int):gB 8 [n] (.rip n)
 |soft (n:Int):gB 9 [n] (.soft n)
 |order (m:Int) (r:ab Int) (h:r.length<=100):gB 10 (m::r) (.order r)
 |auto (n:Int):gB 11 [n] (.auto n)
 |improve (n:Int):gB 12 [n] (.improve n)
 |cell (a b c:Int):gB 13 [a,b,c] (.cell a b c)
 |way (n k:Int):gB 14 [n,k] (.way n k)
 |tree (n:Int):gB 15 [n] (.tree n)
 |cost (n a b c d e f:Int):gB 16 [n,a,b,c,d,e,f] (.cost n a b c d e f)
 |nets:gB 17 [] .nets
 |unlaid:gB 18 [] .unlaid
 |total:gB 19 [] .total
def P':ab Nat:=[3,3,2,5,5,6,1,1,1,1,1,1,1,3,2,1,7,0,0,0]
structure Pl(p:Int)(args:ab Int):Prop where
 lo:0<=p
 hi:p<20
 len:∃n:Nat,P'[p.toNat]? =some n/\(p≠10->args.length=n)/\(p=10->∃m r,args=m::r/\m=(r.length:Int)/\n=1)
theorem Wr(h:PyFlat.row r=some (x,t)):∃m:Int,r=m::(x++t)/\m=(x.length:Int):=by
 cases r with
 |nil=>cases h
 |cons m r=>
  simp only[PyFlat.row]at h;by_cases hm:0<=m/\m.toNat<=r.length;·rw[aw hm]at h;cases h;refine⟨m,by rw[oe],?_⟩;rw[cS];omega
  ·rw[ao hm]at h;cases h
theorem Rw:∀j:Fin 20,de (j.val:Int)=if j.val=10 then some (0,1)else some ((P'[j.val]'(by have:=j.2;exact this)),0):=by decide
theorem PM{p:Int}(h:¬(0<=p/\p<20)):de p=none:=by unfold de;iterate 20 rw[ao (by omega)]
theorem Ng{l:ab Int}(h:l.length=1):∃a,l=[a]:=by rcases l with _|⟨a,_|⟨x,r⟩⟩<;>first|exact⟨_,rfl⟩|(simp at h;done)|(simp at h;omega)
theorem Z0{l:ab Int}(h:l.length=2):∃a b,l=[a,b]:=by rcases l with _|⟨a,_|⟨b,_|⟨x,r⟩⟩⟩<;>first|exact⟨_,_,rfl⟩|(simp at h;done)|(simp at h;omega)
theorem WT{l:ab Int}(h:l.length=3):∃a b c,l=[a,b,c]:=by rcases l with _|⟨a,_|⟨b,_|⟨c,_|⟨x,r⟩⟩⟩⟩<;>first|exact⟨_,_,_,rfl⟩|(simp at h;done)|(simp at h;omega)
theorem ZZ{l:ab Int}(h:l.length=5):∃a b c d e,l=[a,b,c,d,e]:=by rcases l with _|⟨a,_|⟨b,_|⟨c,_|⟨d,_|⟨e,_|⟨x,r⟩⟩⟩⟩⟩⟩<;>first|exact⟨_,_,_,_,_,rfl⟩|(simp at h;done)|(simp at h;omega)
theorem abI{l:ab Int}(h:l.length=6):∃a b c d e f,l=[a,b,c,d,e,f]:=by rcases l with _|⟨a,_|⟨b,_|⟨c,_|⟨d,_|⟨e,_|⟨f,_|⟨x,r⟩⟩⟩⟩⟩⟩⟩<;>first|exact⟨_,_,_,_,_,_,rfl⟩|(simp at h;done)|(simp at h;omega)
theorem abH{l:ab Int}(h:l.length=7):∃a b c d e f g,l=[a,b,c,d,e,f,g]:=by rcases l with _|⟨a,_|⟨b,_|⟨c,_|⟨d,_|⟨e,_|⟨f,_|⟨g,_|⟨x,r⟩⟩⟩⟩⟩⟩⟩⟩<;>first|exact⟨_,_,_,_,_,_,_,rfl⟩|(simp at h;done)|(simp at h;omega)
theorem SR{j n:Nat}{args:ab Int}(hj:j<20)(Mb:¬(j:Int)=10)(hlen:P'[j]? =some n)(hl:args.length=n):∃k,gB (j:Int) args k/\mK [(j:Int)::args]=some k:=by
 rcases j with _|_|_|_|_|_|_|_|_|_|_|_|_|_|_|_|_|_|_|_|j;·cases hlen;obtain⟨a,b,c,rfl⟩:=WT hl;exact⟨_,(.begin_ a b c),rfl⟩
 ·cases hlen;obtain⟨a,b,c,rfl⟩:=WT hl;exact⟨_,(.costs a b c),rfl⟩
 ·cases hlen;obtain⟨a,b,rfl⟩:=Z0 hl;exact⟨_,(.prefer a b),rfl⟩
 ·cases hlen;obtain⟨a,b,c,d,e,rfl⟩:=ZZ hl;exact⟨_,(.block a b c d e),rfl⟩
 ·cases hlen;obtain⟨a,b,c,d,e,rfl⟩:=ZZ hl;exact⟨_,(.free a b c d e),rfl⟩
 ·cases hlen;obtain⟨a,b,c,d,e,f,rfl⟩:=abI hl;exact⟨_,(.pin a b c d e f),rfl⟩
 ·cases hlen;obtain⟨a,rfl⟩:=Ng hl;exact⟨_,(.drop a),rfl⟩
 ·cases hlen;obtain⟨a,rfl⟩:=Ng hl;exact⟨_,(.route a),rfl⟩
 ·cases hlen;obtain⟨a,rfl⟩:=Ng hl;exact⟨_,(.rip a),rfl⟩
 ·cases hlen;obtain⟨a,rfl⟩:=Ng hl;exact⟨_,(.soft a),rfl⟩
 ·exact bF rfl Mb
 ·cases hlen;obtain⟨a,rfl⟩:=Ng hl;exact⟨_,(.auto a),rfl⟩
 ·cases hlen;obtain⟨a,rfl⟩:=Ng hl;exact⟨_,(.improve a),rfl⟩
 ·cases hlen;obtain⟨a,b,c,rfl⟩:=WT hl;exact⟨_,(.cell a b c),rfl⟩
 ·cases hlen;obtain⟨a,b,rfl⟩:=Z0 hl;exact⟨_,(.way a b),rfl⟩
 ·cases hlen;obtain⟨a,rfl⟩:=Ng hl;exact⟨_,(.tree a),rfl⟩
 ·cases hlen;obtain⟨a,b,c,d,e,f,g,rfl⟩:=abH hl;exact⟨_,(.cost a b c d e f g),rfl⟩
 ·cases hlen;cases args with|nil=>exact⟨_,.nets,rfl⟩|cons=>cases hl
 ·cases hlen;cases args with|nil=>exact⟨_,.unlaid,rfl⟩|cons=>cases hl
 ·cases hlen;cases args with|nil=>exact⟨_,.total,rfl⟩|cons=>cases hl
 ·omega
theorem U9(h:C2 de (p::r)=some (c,t))(ha:mL c=true):∃args k,gB p args k/\Pl p args/\mK c=some k/\r=args++t:=by
 simp only[C2]at h;by_cases Mb:p=10
 ·subst Mb;have hs:de 10=some (0,1):=by decide
  rw[hs]at h;simp only[List.drop_zero,List.take_zero,Nat.not_lt_zero,mR,PyFlat.rows]at h;cases hr:PyFlat.row r with
  |none=>rw[hr]at h;cases h
  |some q=>
   obtain⟨x,t'⟩:=q;rw[hr]at h;simp only[iJ,nS]at h;obtain⟨rfl,rfl⟩:=h;obtain⟨m,e1,e2⟩:=Wr hr;have hx:x.length<=100:=by have:(decide (x.length<=100)&&x.all VbpcahNeutral.whole)=true:=ha;rw[bN,au]at this;exact this.1
   exact⟨m::x,.order x,.order m x hx,⟨by decide,by decide,1,rfl,fun z=>bF rfl z,fun _=>⟨m,x,rfl,e2,rfl⟩⟩,rfl,by rw[e1];rfl⟩
 ·have key:∀(q:Int)(n:Nat),(if r.length<n then none else match PyFlat.rows 0 (r.drop n)with|none=>none|some (xs,t)=>some ((q::r.take n)::xs,t))=some (c,t)->n<=r.length/\c=[q::r.take n]/\t=r.drop n:=fun q n h=>by
   split at h;·cases h
   ·simp only[PyFlat.rows,iJ,nS]at h;exact⟨by omega,h.1.symm,h.2.symm⟩
  obtain⟨n,k,hs⟩:∃n k,de p=some (n,k):=by
   cases e:de p with
   |none=>rw[e]at h;cases h
   |some q=>exact⟨q.1,q.2,rfl⟩
  rw[hs]at h;simp only at h;have hk:k=0/\0<=p/\p<20/\P'[p.toNat]? =some n:=by
   by_cases g:0<=p/\p<20;·obtain⟨j,rfl⟩:∃j:Nat,p=(j:Int):=⟨p.toNat,by omega⟩;have e:=Rw ⟨j,by omega⟩;rw[ao (by intro z;apply Mb;simp at z;omega)]at e;rw[show de (j:Int)=de ((⟨j,by omega⟩:Fin 20).val:Int)from rfl,e]at hs;cases hs;refine⟨rfl,g.1,g.2,?_⟩;rw[aJ];exact aO _
   ·rw[PM g]at hs;cases hs
  obtain⟨rfl,lo,hi,hlen⟩:=hk;obtain⟨hn,rfl,rfl⟩:=key p n h;have E1:Pl p (r.take n):=⟨lo,hi,n,hlen,fun _=>by rw[cS];omega,fun z=>bF z Mb⟩;refine⟨r.take n,?_⟩;have hrt:r=r.take n++r.drop n:=(oe n r).symm;have hl:(r.take n).length=n:=by rw[cS];omega
  generalize r.take n=args at ha E1 hrt hl;have fin:∀k,gB p args k->mK [p::args]=some k->∃k,gB p args k/\Pl p args/\mK [p::args]=some k/\r=args++r.drop n:=fun k a b=>⟨k,a,E1,b,hrt⟩;obtain⟨j,rfl⟩:∃j:Nat,p=(j:Int):=⟨p.toNat,by omega⟩;have hj:j<20:=by omega
  rw[aJ]at hlen;obtain⟨k,a,b⟩:=SR hj Mb hlen hl;exact fin k a b
theorem Q9(c:ab (ab Int)):PyVbpcah.whole c=c:=by
 rcases c with _|⟨_|⟨p,x⟩,r⟩;·rfl
 ·rcases r with _|⟨_,_⟩<;>rfl
 ·rcases p with k|k;·rcases k with _|_|_|_|_|_|_|_|_|_|_|_|_|_|_|_|_|_|_|_|k<;>rcases x with _|⟨_,_|⟨_,_|⟨_,_|⟨_,_|⟨_,_|⟨_,_|⟨_,_|⟨_,_⟩⟩⟩⟩⟩⟩⟩⟩<;>rcases r with _|⟨_,_|⟨_,_⟩⟩<;>rfl
  ·rcases x with _|⟨_,_|⟨_,_|⟨_,_|⟨_,_|⟨_,_|⟨_,_|⟨_,_|⟨_,_⟩⟩⟩⟩⟩⟩⟩⟩<;>rcases r with _|⟨_,_|⟨_,_⟩⟩<;>rfl
theorem S1(h:lY zs=true):∃cs,ku de zs.length zs=some cs/\cs.length<=140/\(∀c∈cs,mL c=true)/\mU zs=rh (HK g0 VbpcahNeutral.start cs):=by
 unfold lY at h;unfold mU;unfold PyVbpcah.calls at h⊢;cases hc:ku de zs.length zs with
 |none=>rw[hc]at h;cases h
 |some cs=>
  have hm:cs.map PyVbpcah.whole=cs:=by
   conv=>rhs;rw[<-List.map_id cs]
   exact eC fun c _=>Q9 c
  rw[hc]at h;simp only[hm,bN]at h;have h2:(cs.all mL&&(decide (1<=cs.length)&&decide (cs.length<=140)))=true:=h.2;rw[bN,bN,au,au]at h2;refine⟨cs,rfl,h2.2.2,eS.mp h2.1,?_⟩;simp only[hm]
theorem Py(a:ab Int)(l:ab (ab Int)):rh (a::l)=(a.length:Int)::a++rh l:=by unfold rh;rw[kf]
theorem len_one(x:Int):[x].length<=7000:=by show 1<=7000;decide
theorem Rn(S:Good s)(W:E_ s)(k:js):(aP s k).2.length<=7000:=by
 have cu:∀t:fM,(dW (bX t)).length<=1000:=fun t=>vz _;cases k with
 |begin_ a b c=>rw[DR];split<;>exact len_one _
 |costs a b c=>rw[DP];split<;>exact len_one _
 |prefer a b=>rw[BU];split<;>(try split)<;>exact len_one _
 |block a b c d e=>rw[DQ];split<;>(try split)<;>exact len_one _
 |free a b c d e=>rw[GS];split<;>exact len_one _
 |pin n a b c d e=>rw[Kb s S];split<;>(try split)<;>exact len_one _
 |drop n=>rw[step_drop];split<;>(try split)<;>exact len_one _
 |route n=>rw[DN];split<;>(try split)<;>exact len_one _
 |rip n=>rw[Ka];split<;>exact len_one _
 |soft n=>
  rw[Az];simp only;split
  ·split;·rename_i t ht;obtain⟨_,e2⟩:=AG (ws:=t.1) (c:=t.2.1) (os:=t.2.2) ht;rw[e2,bg];have:=vz fun m=>m !=n.toNat&&(t.1.flatMap (dJ s.g)).any fun v=>(cB s).getD v 0==m;omega
   ·exact len_one _
  ·exact len_one _
 |order l=>
  rw[DO];split;·have:=cu (lT s (l.map kQ));simp only;omega
  ·exact len_one _
 |auto n=>
  rw[GU];split;·have:=cu (qd s n.toNat).1;simp only[bg];omega
  ·exact len_one _
 |improve n=>
  rw[zh];split
  ·split;·rename_i t _;have:=cu t;simp only[bg];omega
   ·have:=cu s;simp only[bg];omega
  ·exact len_one _
 |cell a b c=>
  rw[AB];simp only;split
  ·split;·exact(by decide:2<=7000)
   ·split;·exact(by decide:2<=7000)
    ·split<;>exact(by decide:2<=7000)
  ·exact len_one _
 |way n k=>
  rw[DM];simp only;split
  ·rename_i h0;obtain⟨nt,rfl,⟨h1,h2⟩,ws,hw⟩:=su h0;rw[aJ,hw];simp only;split
   ·rw[bg];have h3:=n6 (f:=n9 s.g) (m:=3) (l:=ws.getD (k.toNat-1) []) (fun a _=>Aq _ _);have h4:(ws.getD (k.toNat-1) []).length<=2305:=by
     rw[dF];cases e:ws[k.toNat-1]? with
     |none=>exact cH _
     |some l=>exact(W nt h1 h2 ws hw).2 l (aH e)
    omega
   ·exact len_one _
  ·exact len_one _
 |tree n=>
  rw[Ay];simp only;split
  ·split;·exact(by decide:0<=7000)
   ·exact(by decide:3<=7000)
  ·exact len_one _
 |cost n a b c d e f=>
  rw[AA];simp only;split
  ·split;·split<;>exact len_one _
   ·exact len_one _
  ·exact len_one _
 |nets=>show((((bV.filter (cw s)).length:Int))::(bV.filter (cw s)).flatMap fun(n:Nat)=>[(n:Int),((s.net n).pins.length:Int),(if bf (s.net n)=true then 1 else 0),((s.net n).rips:Int)]).length<=7000;rw[bg];have h3:=n6 (f:=fun(n:Nat)=>[(n:Int),((s.net n).pins.length:Int),(if bf (s.net n)=true then 1 else 0),((s.net n).rips:Int)]) (m:=4) (l:=bV.filter (cw s)) (fun a _=>aD _);have:=rP (cw s);omega
 |unlaid=>exact bZ (cu s) (by decide)
 |total=>exact(by decide:2<=7000)
end Nw
namespace Nw
open PySem PySem.Spec PyProof.Rows L2
def Vf(K:ag)(mg:Str->aY aA)(la:Addr):Prop:=mg "LENGTHS"=some (.ref la)/\∀H:Hp,q_ K H la (d8 P')
theorem bb(h:x≠y):¬decide (V.int x=V.int y)=true:=by rw[au,Bq];exact h
section
variable{P:bT}{w:cU}{K:ag}{mg:Str->aY aA}{base:Heap}{c:Cs}{n:Nat}{la:Addr}
inductive Yp(K:ag)(vs:ab V)(H:Hp)(Q:VK):Prop
 |mk (a:Addr) (zs:ab Int) (i:Nat) (p:Int) (args:ab Int) (q0:vs=[.ref a,vi i]) (q1:cN K H a (zs.map V.int)) (q2:zs[i]? =some p) (q3:Pl p args) (q4:(p=10->zs[i+1]? =args.head?)) (q5:Q (vi (i+1+args.length)) H)
def Vy(K:ag):Sp:=fun vs H Q _=>Yp K vs H Q
abbrev qQ:Stmt:=top 87
theorem pq:bx ["calls","at","number","end"] ["calls","at"] (aU qQ):={}
theorem Em(F:gY K "end_of_call" "end_of_call" qQ f fd)(T:Txt K mg c)(TL:Vf K mg la):cZ P w K mg base gZ 1 f fd ["calls","at"] (Vy K):=by
 refine F.ok pq (fun vs H Q E h=>?_) (fun fR A outer s H vs Q E hr h=>?_);·obtain⟨a,zs,i,p,args,rfl,_⟩:=h;rfl
 ·obtain⟨a,zs,i,p,args,rfl,hS,hp,he,hh,k⟩:=h;obtain⟨m,hm,h1,h2⟩:=he.len;have lo:=he.lo;have hi:=he.hi;refine⟨_,(ah (cE (i:=2) pq.nd rfl (bj rfl) (cD bA (pv 0) (pv 1) (fun _ _=>rfl))) (ah (cM (ia (kK i6 vf aN (pv 2) (dM dv rfl T.b.len jC (aa (IH (v:=.ref la) rfl TL.1 rfl) ak)))) (ay RI) br) (ah (cE (i:=3) pq.nd rfl (bj rfl) (dj gO (dj gO (pv 1) aN) (cD Bo (IH (v:=.ref la) rfl TL.1 rfl) (pv 2) (fun _ _=>rfl)))) (ah (cM (bL iB (pv 2) (cb T.OP) (cJ _)) (ay (aX (dj gO (pv 3) (cD bA (pv 0) (dj gO (pv 1) aN) (fun _ _=>rfl))))) br) (ay (aX (pv 3))))))),?_⟩;refine Yw ?_;intro GN uH oO lG;refine⟨_,rfl,_,rfl,_,_,_,_,rfl,rfl,hS,cA (pN hp),?_⟩;refine⟨_,rfl,_,_,rfl,rfl,_,rfl,bD (gD lo) ⟨la,_,rfl,.inr (TL.2 H),_,_,rfl,rfl,_,rfl,aI ?_ ?_⟩⟩;·have:p<(((d8 P').length:Nat):Int):=hi;rw[gD this];simp
  obtain⟨j,rfl⟩:∃j:Nat,p=(j:Int):=⟨p.toNat,by omega⟩;rw[aJ]at hm;refine⟨_,rfl,_,_,rfl,rfl,_,rfl,la,_,_,_,rfl,rfl,TL.2 H,cA (j:=j) (v:=vi m) (by rw[bp,hm];rfl),_,_,rfl,rfl,?_⟩;refine⟨_,rfl,rfl,_,rfl,?_⟩;by_cases Mb:j=10;·subst Mb;obtain⟨q,r,rfl,rfl,rfl⟩:=h2 rfl;refine bD rfl ?_;refine⟨_,rfl,_,rfl,_,rfl,_,_,rfl,rfl,a,_,_,_,rfl,rfl,hS,cA (j:=i+1) (pN (hh rfl)),_,_,rfl,rfl,?_⟩;show Q (V.int ((i:Int)+1+((1:Nat):Int)+(r.length:Int))) H;rw[show((i:Int)+1+((1:Nat):Int)+(r.length:Int))=((i+1+((r.length:Int)::r).length:Nat):Int) by rw[bg];omega];exact k
  ·refine aI (bb (by omega)) ⟨_,rfl,?_⟩;show Q (V.int ((i:Int)+1+(m:Int))) H;rw[show((i:Int)+1+(m:Int))=((i+1+args.length:Nat):Int) by rw[h1 (by omega)];omega];exact k
inductive QS(c:Cs)(vs:ab V)(H:Hp)(Q:VK):Prop
 |mk (B:BA) (s:Bd) (b:Nat) (l:Addr) (p:Int) (args:ab Int) (k:js) (q0:vs=[.ref B.ob,.int p,.ref l]) (q1:Pre c H B s b) (q2:H l=some (.lst (args.map V.int))) (q3:gB p args k) (q4:(p=9\/13<=p)) (q5:HG Q H (aP s k).2)
def Ki(c:Cs):Sp:=fun vs H Q _=>QS c vs H Q
abbrev k9:Stmt:=top 89
theorem wI:bx ["board","number","given"] ["board","number","given"] (aU k9):={}
theorem wM(F:gY K "answer_of_asking" "answer_of_asking" k9 f fd)(T:Txt K mg c)(yC:bP P w K mg base "ask_soft" n ["board","net"] (G2 c))(yF:bP P w K mg base "ask_cell" n ["board","spot"] (G5 c))(BH:bP P w K mg base "ask_way" n ["board","net","number"] (Kj c))(yB:bP P w K mg base "ask_tree" n ["board","net"] (G0 c))(yE:bP P w K mg base "ask_cost" n ["board","net","spots"] (G4 c))(yD:bP P w K mg base "ask_nets" n ["board"] (G3 c))(fz:bP P w K mg base "ask_unlaid" n ["board"] (lI c))(vH:bP P w K mg base "ask_total" n ["board"] (DZ c)):cZ P w K mg base gZ (n+1) f fd ["board","number","given"] (Ki c):=by
 refine F.ok wI (fun vs H Q E h=>?_) (fun fR A outer s H vs Q E hr h=>?_);·obtain⟨B,s,b,l,p,args,k,rfl,_⟩:=h;rfl
 ·obtain⟨B,s,b,l,p,args,k,rfl,pre,hl,hc,hp,kk⟩:=h;have hB:=pre.at_;have hle:=pre.le;refine⟨_,(ah (cM (bL iB (pv 1) aN (cJ _)) (ay (aX (cK yC hr (aa (pv 0) (aa (cD bA (pv 2) aN (fun _ _=>rfl)) ak))))) br) (ah (cM (bL iB (pv 1) aN (cJ _)) (ay (aX (cK yF hr (aa (pv 0) (aa (pv 2) ak))))) br) (ah (cM (bL iB (pv 1) aN (cJ _)) (ay (aX (cK BH hr (aa (pv 0) (aa (cD bA (pv 2) aN (fun _ _=>rfl)) (aa (cD bA (pv 2) aN (fun _ _=>rfl)) ak)))))) br) (ah (cM (bL iB (pv 1) aN (cJ _)) (ay (aX (cK yB hr (aa (pv 0) (aa (cD bA (pv 2) aN (fun _ _=>rfl)) ak))))) br) (ah (cM (bL iB (pv 1) aN (cJ _)) (ay (aX (cK yE hr (aa (pv 0) (aa (cD bA (pv 2) aN (fun _ _=>rfl)) (aa (lp (aa (nY qk (pv 2) (mr aN) (mr aN)) (aa (nY qk (pv 2) (mr aN) zL) ak))) ak)))))) br) (ah (cM (bL iB (pv 1) aN (cJ _)) (ay (aX (cK yD hr (aa (pv 0) ak)))) br) (ah (cM (bL iB (pv 1) aN (cJ _)) (ay (aX (cK fz hr (aa (pv 0) ak)))) br) (ay (aX (cK vH hr (aa (pv 0) ak))))))))))),?_⟩;refine sq7 ?_;intro u_7 Vr Og GN uH oO lG;cases hc with
  |begin_ _ _ _=>omega
  |costs _ _ _=>omega
  |prefer _ _=>omega
  |block _ _ _ _ _=>omega
  |free _ _ _ _ _=>omega
  |pin _ _ _ _ _ _=>omega
  |drop _=>omega
  |route _=>omega
  |rip _=>omega
  |order _ _ _=>omega
  |auto _=>omega
  |improve _=>omega
  |soft x1=>exact⟨_,rfl,rfl,_,rfl,bD rfl ⟨_,rfl,_,rfl,l,_,_,_,rfl,rfl,cN.of hl,Gf,B,s,x1,b,rfl,hB,pre.rips,by omega,kk⟩⟩
  |cell x1 x2 x3=>refine⟨_,rfl,rfl,_,rfl,aI (bb (by decide)) ?_⟩;exact⟨_,rfl,rfl,_,rfl,bD rfl ⟨_,rfl,_,rfl,B,s,l,x1,x2,x3,rfl,hB,hl,kk⟩⟩
  |way x1 x2=>refine⟨_,rfl,rfl,_,rfl,aI (bb (by decide)) ?_⟩;refine⟨_,rfl,rfl,_,rfl,aI (bb (by decide)) ?_⟩;exact⟨_,rfl,rfl,_,rfl,bD rfl ⟨_,rfl,_,rfl,l,_,_,_,rfl,rfl,cN.of hl,Gf,_,rfl,l,_,_,_,rfl,rfl,cN.of hl,Vc,B,s,x1,x2,rfl,hB,kk⟩⟩
  |tree x1=>refine⟨_,rfl,rfl,_,rfl,aI (bb (by decide)) ?_⟩;refine⟨_,rfl,rfl,_,rfl,aI (bb (by decide)) ?_⟩;refine⟨_,rfl,rfl,_,rfl,aI (bb (by decide)) ?_⟩;exact⟨_,rfl,rfl,_,rfl,bD rfl ⟨_,rfl,_,rfl,l,_,_,_,rfl,rfl,cN.of hl,Gf,B,s,x1,rfl,hB,kk⟩⟩
  |cost x1 x2 x3 x4 x5 x6 x7=>refine⟨_,rfl,rfl,_,rfl,aI (bb (by decide)) ?_⟩;refine⟨_,rfl,rfl,_,rfl,aI (bb (by decide)) ?_⟩;refine⟨_,rfl,rfl,_,rfl,aI (bb (by decide)) ?_⟩;refine⟨_,rfl,rfl,_,rfl,aI (bb (by decide)) ?_⟩;refine⟨_,rfl,rfl,_,rfl,bD rfl ?_⟩;refine⟨_,rfl,_,rfl,l,_,_,_,rfl,rfl,cN.of hl,Gf,_,rfl,_,rfl,_,rfl,l,_,rfl,cN.of hl,fun q1 vp=>?_⟩;have s1:aQ H (upd H q1 (.lst (wV ([x1,x2,x3,x4,x5,x6,x7].map V.int) (some 1) (some 4)))):=aQ.new vp;have e1:upd H q1 (.lst (wV ([x1,x2,x3,x4,x5,x6,x7].map V.int) (some 1) (some 4))) q1=some (.lst [.int x2,.int x3,.int x4]):=aq;generalize upd H q1 (.lst (wV ([x1,x2,x3,x4,x5,x6,x7].map V.int) (some 1) (some 4)))=H1 at s1 e1⊢;refine⟨_,rfl,_,rfl,l,_,rfl,cN.of (s1 _ _ hl),fun q2 JW=>?_⟩;have s2:aQ H1 (upd H1 q2 (.lst (wV ([x1,x2,x3,x4,x5,x6,x7].map V.int) (some 4) none))):=aQ.new JW;have e2:upd H1 q2 (.lst (wV ([x1,x2,x3,x4,x5,x6,x7].map V.int) (some 4) none)) q2=some (.lst [.int x5,.int x6,.int x7]):=aq;generalize upd H1 q2 (.lst (wV ([x1,x2,x3,x4,x5,x6,x7].map V.int) (some 4) none))=H2 at s2 e2⊢;refine⟨(by show 2<=sizeLine;decide),fun t ht=>?_⟩;have s3:aQ H2 (upd H2 t (.tup [.ref q1,.ref q2])):=aQ.new ht;have s03:=(s1.trans s2).trans s3;exact⟨B,s,t,q1,q2,x1,x2,x3,x4,x5,x6,x7,rfl,hB.same s03,aq,s3 _ _ (s2 _ _ e1),s3 _ _ e2,kk.same s03⟩
  |nets=>refine⟨_,rfl,rfl,_,rfl,aI (bb (by decide)) ?_⟩;refine⟨_,rfl,rfl,_,rfl,aI (bb (by decide)) ?_⟩;refine⟨_,rfl,rfl,_,rfl,aI (bb (by decide)) ?_⟩;refine⟨_,rfl,rfl,_,rfl,aI (bb (by decide)) ?_⟩;refine⟨_,rfl,rfl,_,rfl,aI (bb (by decide)) ?_⟩;exact⟨_,rfl,rfl,_,rfl,bD rfl ⟨_,rfl,B,s,rfl,hB,kk⟩⟩
  |unlaid=>refine⟨_,rfl,rfl,_,rfl,aI (bb (by decide)) ?_⟩;refine⟨_,rfl,rfl,_,rfl,aI (bb (by decide)) ?_⟩;refine⟨_,rfl,rfl,_,rfl,aI (bb (by decide)) ?_⟩;refine⟨_,rfl,rfl,_,rfl,aI (bb (by decide)) ?_⟩;refine⟨_,rfl,rfl,_,rfl,aI (bb (by decide)) ?_⟩;refine⟨_,rfl,rfl,_,rfl,aI (bb (by decide)) ?_⟩;exact⟨_,rfl,rfl,_,rfl,bD rfl ⟨_,rfl,B,s,rfl,hB,kk⟩⟩
  |total=>refine⟨_,rfl,rfl,_,rfl,aI (bb (by decide)) ?_⟩;refine⟨_,rfl,rfl,_,rfl,aI (bb (by decide)) ?_⟩;refine⟨_,rfl,rfl,_,rfl,aI (bb (by decide)) ?_⟩;refine⟨_,rfl,rfl,_,rfl,aI (bb (by decide)) ?_⟩;refine⟨_,rfl,rfl,_,rfl,aI (bb (by decide)) ?_⟩;refine⟨_,rfl,rfl,_,rfl,aI (bb (by decide)) ?_⟩;refine⟨_,rfl,rfl,_,rfl,aI (bb (by decide)) ?_⟩;exact⟨_,rfl,B,s,rfl,hB,kk⟩
theorem S2{s:Bd}(h:gB p args k)(hp:p=9\/13<=p):(aP s k).1=s:=by
 cases h with
 |begin_ _ _ _=>omega
 |costs _ _ _=>omega
 |prefer _ _=>omega
 |block _ _ _ _ _=>omega
 |free _ _ _ _ _=>omega
 |pin _ _ _ _ _ _=>omega
 |drop _=>omega
 |route _=>omega
 |rip _=>omega
 |order _ _ _=>omega
 |auto _=>omega
 |improve _=>omega
 |soft x1=>rw[Az]
 |cell x1 x2 x3=>rw[AB]
 |way x1 x2=>rw[DM]
 |tree x1=>rw[Ay]
 |cost x1 x2 x3 x4 x5 x6 x7=>rw[AA]
 |nets=>rfl
 |unlaid=>rfl
 |total=>rfl
inductive L6(c:Cs)(vs:ab V)(H:Hp)(Q:VK):Prop
 |mk (B:BA) (s:Bd) (b:Nat) (l:Addr) (p:Int) (args:ab Int) (k:js) (q0:vs=[.ref B.ob,.int p,.ref l]) (q1:Pre c H B s b) (q2:H l=some (.lst (args.map V.int))) (q3:gB p args k) (q4:BF c Q H B (aP s k))
def D0(c:Cs):Sp:=fun vs H Q _=>L6 c vs H Q
abbrev uY:Stmt:=top 88
theorem Io:bx ["board","number","given"] ["board","number","given"] (aU uY):={}
theorem IS(F:gY K "answer_of" "answer_of" uY f fd)(T:Txt K mg c)(JO:bP P w K mg base "begin" n ["board","columns","rows","layers"] (Ox c))(JM:bP P w K mg base "costs" n ["board","via","wrong","penalty"] (Ov c))(Fl:bP P w K mg base "prefer" n ["board","layer","direction"] (Kf c))(JN:bP P w K mg base "block" n ["board","box"] (Ow c))(N7:bP P w K mg base "free" n ["board","box"] (Rr c))(Tg:bP P w K mg base "pin" n ["board","net","box"] (Vx c))(N8:bP P w K mg base "drop" n ["board","net"] (Rt c))(JK:bP P w K mg base "route" n ["board","net"] (Oq c))(Tf:bP P w K mg base "rip" n ["board","net"] (Vw c))(JL:bP P w K mg base "order" n ["board","nets"] (Ot c))(N9:bP P w K mg base "auto" n ["board","budget"] (Ru c))(BG:bP P w K mg base "improve" n ["board","budget"] (xg c))(lA:bP P w K mg base "answer_of_asking" n ["board","number","given"] (Ki c)):cZ P w K mg base gZ (n+1) f fd ["board","number","given"] (D0 c):=by
 refine F.ok Io (fun vs H Q E h=>?_) (fun fR A outer s H vs Q E hr h=>?_);·obtain⟨B,s,b,l,p,args,k,rfl,_⟩:=h;rfl
 ·obtain⟨B,s,b,l,p,args,k,rfl,pre,hl,hc,kk⟩:=h;have hB:=pre.at_;have asks:∀(hp:p=9\/13<=p),HG Q H (aP s k).2:=fun hp=>by have e:=S2 (s:=s) hc hp;have e2:aP s k=(s,(aP s k).2):=Prod.ext e rfl;rw[e2]at kk;exact BF.Y7 (c:=c) kk hB ⟨rfl,rfl⟩ Mv.refl
  refine⟨_,(ah (cM (bL iB (pv 1) aN (cJ _)) (ay (aX (cK JO hr (aa (pv 0) (aa (cD bA (pv 2) aN (fun _ _=>rfl)) (aa (cD bA (pv 2) aN (fun _ _=>rfl)) (aa (cD bA (pv 2) aN (fun _ _=>rfl)) ak))))))) br) (ah (cM (bL iB (pv 1) aN (cJ _)) (ay (aX (cK JM hr (aa (pv 0) (aa (cD bA (pv 2) aN (fun _ _=>rfl)) (aa (cD bA (pv 2) aN (fun _ _=>rfl)) (aa (cD bA (pv 2) aN (fun _ _=>rfl)) ak))))))) br) (ah (cM (bL iB (pv 1) aN (cJ _)) (ay (aX (cK Fl hr (aa (pv 0) (aa (cD bA (pv 2) aN (fun _ _=>rfl)) (aa (cD bA (pv 2) aN (fun _ _=>rfl)) ak)))))) br) (ah (cM (bL iB (pv 1) aN (cJ _)) (ay (aX (cK JN hr (aa (pv 0) (aa (pv 2) ak))))) br) (ah (cM (bL iB (pv 1) aN (cJ _)) (ay (aX (cK N7 hr (aa (pv 0) (aa (pv 2) ak))))) br) (ah (cM (bL iB (pv 1) aN (cJ _)) (ay (aX (cK Tg hr (aa (pv 0) (aa (cD bA (pv 2) aN (fun _ _=>rfl)) (aa (nY qk (pv 2) (mr aN) zL) ak)))))) br) (ah (cM (bL iB (pv 1) aN (cJ _)) (ay (aX (cK N8 hr (aa (pv 0) (aa (cD bA (pv 2) aN (fun _ _=>rfl)) ak))))) br) (ah (cM (bL iB (pv 1) aN (cJ _)) (ay (aX (cK JK hr (aa (pv 0) (aa (cD bA (pv 2) aN (fun _ _=>rfl)) ak))))) br) (ah (cM (bL iB (pv 1) aN (cJ _)) (ay (aX (cK Tf hr (aa (pv 0) (aa (cD bA (pv 2) aN (fun _ _=>rfl)) ak))))) br) (ah (cM (bL iB (pv 1) (cb T.OP) (cJ _)) (ay (aX (cK JL hr (aa (pv 0) (aa (nY qk (pv 2) (mr aN) zL) ak))))) br) (ah (cM (bL iB (pv 1) aN (cJ _)) (ay (aX (cK N9 hr (aa (pv 0) (aa (cD bA (pv 2) aN (fun _ _=>rfl)) ak))))) br) (ah (cM (bL iB (pv 1) aN (cJ _)) (ay (aX (cK BG hr (aa (pv 0) (aa (cD bA (pv 2) aN (fun _ _=>rfl)) ak))))) br) (ay (aX (cK lA hr (aa (pv 0) (aa (pv 1) (aa (pv 2) ak)))))))))))))))))),?_⟩;refine abq ?_;intro adQ adR abf u_9 u_8 u_7 Vr Og GN uH oO lG;cases hc with
  |begin_ x1 x2 x3=>exact⟨_,rfl,rfl,_,rfl,bD rfl ⟨_,rfl,_,rfl,l,_,_,_,rfl,rfl,cN.of hl,Gf,_,rfl,l,_,_,_,rfl,rfl,cN.of hl,Vc,_,rfl,l,_,_,_,rfl,rfl,cN.of hl,Y8,B,s,b,x1,x2,x3,rfl,pre,kk⟩⟩
  |costs x1 x2 x3=>refine⟨_,rfl,rfl,_,rfl,aI (bb (by decide)) ?_⟩;exact⟨_,rfl,rfl,_,rfl,bD rfl ⟨_,rfl,_,rfl,l,_,_,_,rfl,rfl,cN.of hl,Gf,_,rfl,l,_,_,_,rfl,rfl,cN.of hl,Vc,_,rfl,l,_,_,_,rfl,rfl,cN.of hl,Y8,B,s,b,x1,x2,x3,rfl,pre,kk⟩⟩
  |prefer x1 x2=>refine⟨_,rfl,rfl,_,rfl,aI (bb (by decide)) ?_⟩;refine⟨_,rfl,rfl,_,rfl,aI (bb (by decide)) ?_⟩;exact⟨_,rfl,rfl,_,rfl,bD rfl ⟨_,rfl,_,rfl,l,_,_,_,rfl,rfl,cN.of hl,Gf,_,rfl,l,_,_,_,rfl,rfl,cN.of hl,Vc,B,s,b,x1,x2,rfl,pre,kk⟩⟩
  |block x1 x2 x3 x4 x5=>refine⟨_,rfl,rfl,_,rfl,aI (bb (by decide)) ?_⟩;refine⟨_,rfl,rfl,_,rfl,aI (bb (by decide)) ?_⟩;refine⟨_,rfl,rfl,_,rfl,aI (bb (by decide)) ?_⟩;exact⟨_,rfl,rfl,_,rfl,bD rfl ⟨_,rfl,_,rfl,B,s,b,l,x1,x2,x3,x4,x5,rfl,pre,hl,kk⟩⟩
  |free x1 x2 x3 x4 x5=>refine⟨_,rfl,rfl,_,rfl,aI (bb (by decide)) ?_⟩;refine⟨_,rfl,rfl,_,rfl,aI (bb (by decide)) ?_⟩;refine⟨_,rfl,rfl,_,rfl,aI (bb (by decide)) ?_⟩;refine⟨_,rfl,rfl,_,rfl,aI (bb (by decide)) ?_⟩;exact⟨_,rfl,rfl,_,rfl,bD rfl ⟨_,rfl,_,rfl,B,s,b,l,x1,x2,x3,x4,x5,rfl,pre,hl,kk⟩⟩
  |pin x1 x2 x3 x4 x5 x6=>refine⟨_,rfl,rfl,_,rfl,aI (bb (by decide)) ?_⟩;refine⟨_,rfl,rfl,_,rfl,aI (bb (by decide)) ?_⟩;refine⟨_,rfl,rfl,_,rfl,aI (bb (by decide)) ?_⟩;refine⟨_,rfl,rfl,_,rfl,aI (bb (by decide)) ?_⟩;refine⟨_,rfl,rfl,_,rfl,aI (bb (by decide)) ?_⟩;refine⟨_,rfl,rfl,_,rfl,bD rfl ⟨_,rfl,_,rfl,l,_,_,_,rfl,rfl,cN.of hl,Gf,_,rfl,_,rfl,l,_,rfl,cN.of hl,fun q hq=>?_⟩⟩;rw[Dm];have s1:aQ H (upd H q (.lst (([x1,x2,x3,x4,x5,x6].map V.int).drop 1))):=aQ.new hq;exact⟨B,s,b,q,x1,x2,x3,x4,x5,x6,rfl,pre.same s1,aq,kk.same s1⟩
  |drop x1=>refine⟨_,rfl,rfl,_,rfl,aI (bb (by decide)) ?_⟩;refine⟨_,rfl,rfl,_,rfl,aI (bb (by decide)) ?_⟩;refine⟨_,rfl,rfl,_,rfl,aI (bb (by decide)) ?_⟩;refine⟨_,rfl,rfl,_,rfl,aI (bb (by decide)) ?_⟩;refine⟨_,rfl,rfl,_,rfl,aI (bb (by decide)) ?_⟩;refine⟨_,rfl,rfl,_,rfl,aI (bb (by decide)) ?_⟩;exact⟨_,rfl,rfl,_,rfl,bD rfl ⟨_,rfl,_,rfl,l,_,_,_,rfl,rfl,cN.of hl,Gf,B,s,b,x1,rfl,pre,kk⟩⟩
  |route x1=>refine⟨_,rfl,rfl,_,rfl,aI (bb (by decide)) ?_⟩;refine⟨_,rfl,rfl,_,rfl,aI (bb (by decide)) ?_⟩;refine⟨_,rfl,rfl,_,rfl,aI (bb (by decide)) ?_⟩;refine⟨_,rfl,rfl,_,rfl,aI (bb (by decide)) ?_⟩;refine⟨_,rfl,rfl,_,rfl,aI (bb (by decide)) ?_⟩;refine⟨_,rfl,rfl,_,rfl,aI (bb (by decide)) ?_⟩;refine⟨_,rfl,rfl,_,rfl,aI (bb (by decide)) ?_⟩;exact⟨_,rfl,rfl,_,rfl,bD rfl ⟨_,rfl,_,rfl,l,_,_,_,rfl,rfl,cN.of hl,Gf,B,s,b,x1,rfl,pre,kk⟩⟩
  |rip x1=>refine⟨_,rfl,rfl,_,rfl,aI (bb (by decide)) ?_⟩;refine⟨_,rfl,rfl,_,rfl,aI (bb (by decide)) ?_⟩;refine⟨_,rfl,rfl,_,rfl,aI (bb (by decide)) ?_⟩;refine⟨_,rfl,rfl,_,rfl,aI (bb (by decide)) ?_⟩;refine⟨_,rfl,rfl,_,rfl,aI (bb (by decide)) ?_⟩;refine⟨_,rfl,rfl,_,rfl,aI (bb (by decide)) ?_⟩;refine⟨_,rfl,rfl,_,rfl,aI (bb (by decide)) ?_⟩;refine⟨_,rfl,rfl,_,rfl,aI (bb (by decide)) ?_⟩;exact⟨_,rfl,rfl,_,rfl,bD rfl ⟨_,rfl,_,rfl,l,_,_,_,rfl,rfl,cN.of hl,Gf,B,s,b,x1,rfl,pre,kk⟩⟩
  |order m r adG=>refine⟨_,rfl,rfl,_,rfl,aI (bb (by decide)) ?_⟩;refine⟨_,rfl,rfl,_,rfl,aI (bb (by decide)) ?_⟩;refine⟨_,rfl,rfl,_,rfl,aI (bb (by decide)) ?_⟩;refine⟨_,rfl,rfl,_,rfl,aI (bb (by decide)) ?_⟩;refine⟨_,rfl,rfl,_,rfl,aI (bb (by decide)) ?_⟩;refine⟨_,rfl,rfl,_,rfl,aI (bb (by decide)) ?_⟩;refine⟨_,rfl,rfl,_,rfl,aI (bb (by decide)) ?_⟩;refine⟨_,rfl,rfl,_,rfl,aI (bb (by decide)) ?_⟩;refine⟨_,rfl,rfl,_,rfl,aI (bb (by decide)) ?_⟩;refine⟨_,rfl,rfl,_,rfl,bD rfl ⟨_,rfl,_,rfl,_,rfl,l,_,rfl,cN.of hl,fun q hq=>?_⟩⟩;rw[Dm];have s1:aQ H (upd H q (.lst (((m::r).map V.int).drop 1))):=aQ.new hq;exact⟨B,s,b,q,r,rfl,pre.same s1,aq,hB.not hq,by omega,kk.same s1⟩
  |auto x1=>refine⟨_,rfl,rfl,_,rfl,aI (bb (by decide)) ?_⟩;refine⟨_,rfl,rfl,_,rfl,aI (bb (by decide)) ?_⟩;refine⟨_,rfl,rfl,_,rfl,aI (bb (by decide)) ?_⟩;refine⟨_,rfl,rfl,_,rfl,aI (bb (by decide)) ?_⟩;refine⟨_,rfl,rfl,_,rfl,aI (bb (by decide)) ?_⟩;refine⟨_,rfl,rfl,_,rfl,aI (bb (by decide)) ?_⟩;refine⟨_,rfl,rfl,_,rfl,aI (bb (by decide)) ?_⟩;refine⟨_,rfl,rfl,_,rfl,aI (bb (by decide)) ?_⟩;refine⟨_,rfl,rfl,_,rfl,aI (bb (by decide)) ?_⟩;refine⟨_,rfl,rfl,_,rfl,aI (bb (by decide)) ?_⟩;exact⟨_,rfl,rfl,_,rfl,bD rfl ⟨_,rfl,_,rfl,l,_,_,_,rfl,rfl,cN.of hl,Gf,B,s,b,x1,rfl,pre,kk⟩⟩
  |improve x1=>refine⟨_,rfl,rfl,_,rfl,aI (bb (by decide)) ?_⟩;refine⟨_,rfl,rfl,_,rfl,aI (bb (by decide)) ?_⟩;refine⟨_,rfl,rfl,_,rfl,aI (bb (by decide)) ?_⟩;refine⟨_,rfl,rfl,_,rfl,aI (bb (by decide)) ?_⟩;refine⟨_,rfl,rfl,_,rfl,aI (bb (by decide)) ?_⟩;refine⟨_,rfl,rfl,_,rfl,aI (bb (by decide)) ?_⟩;refine⟨_,rfl,rfl,_,rfl,aI (bb (by decide)) ?_⟩;refine⟨_,rfl,rfl,_,rfl,aI (bb (by decide)) ?_⟩;refine⟨_,rfl,rfl,_,rfl,aI (bb (by decide)) ?_⟩;refine⟨_,rfl,rfl,_,rfl,aI (bb (by decide)) ?_⟩;refine⟨_,rfl,rfl,_,rfl,aI (bb (by decide)) ?_⟩;exact⟨_,rfl,rfl,_,rfl,bD rfl ⟨_,rfl,_,rfl,l,_,_,_,rfl,rfl,cN.of hl,Gf,B,s,b,x1,rfl,pre,kk⟩⟩
  |soft x1=>refine⟨_,rfl,rfl,_,rfl,aI (bb (by decide)) ?_⟩;refine⟨_,rfl,rfl,_,rfl,aI (bb (by decide)) ?_⟩;refine⟨_,rfl,rfl,_,rfl,aI (bb (by decide)) ?_⟩;refine⟨_,rfl,rfl,_,rfl,aI (bb (by decide)) ?_⟩;refine⟨_,rfl,rfl,_,rfl,aI (bb (by decide)) ?_⟩;refine⟨_,rfl,rfl,_,rfl,aI (bb (by decide)) ?_⟩;refine⟨_,rfl,rfl,_,rfl,aI (bb (by decide)) ?_⟩;refine⟨_,rfl,rfl,_,rfl,aI (bb (by decide)) ?_⟩;refine⟨_,rfl,rfl,_,rfl,aI (bb (by decide)) ?_⟩;refine⟨_,rfl,rfl,_,rfl,aI (bb (by decide)) ?_⟩;refine⟨_,rfl,rfl,_,rfl,aI (bb (by decide)) ?_⟩;refine⟨_,rfl,rfl,_,rfl,aI (bb (by decide)) ?_⟩;exact⟨_,rfl,_,rfl,_,rfl,B,s,b,l,_,_,_,rfl,pre,hl,(.soft x1),(by decide),asks (by decide)⟩
  |cell x1 x2 x3=>refine⟨_,rfl,rfl,_,rfl,aI (bb (by decide)) ?_⟩;refine⟨_,rfl,rfl,_,rfl,aI (bb (by decide)) ?_⟩;refine⟨_,rfl,rfl,_,rfl,aI (bb (by decide)) ?_⟩;refine⟨_,rfl,rfl,_,rfl,aI (bb (by decide)) ?_⟩;refine⟨_,rfl,rfl,_,rfl,aI (bb (by decide)) ?_⟩;refine⟨_,rfl,rfl,_,rfl,aI (bb (by decide)) ?_⟩;refine⟨_,rfl,rfl,_,rfl,aI (bb (by decide)) ?_⟩;refine⟨_,rfl,rfl,_,rfl,aI (bb (by decide)) ?_⟩;refine⟨_,rfl,rfl,_,rfl,aI (bb (by decide)) ?_⟩;refine⟨_,rfl,rfl,_,rfl,aI (bb (by decide)) ?_⟩;refine⟨_,rfl,rfl,_,rfl,aI (bb (by decide)) ?_⟩;refine⟨_,rfl,rfl,_,rfl,aI (bb (by decide)) ?_⟩;exact⟨_,rfl,_,rfl,_,rfl,B,s,b,l,_,_,_,rfl,pre,hl,(.cell x1 x2 x3),(by decide),asks (by decide)⟩
  |way x1 x2=>refine⟨_,rfl,rfl,_,rfl,aI (bb (by decide)) ?_⟩;refine⟨_,rfl,rfl,_,rfl,aI (bb (by decide)) ?_⟩;refine⟨_,rfl,rfl,_,rfl,aI (bb (by decide)) ?_⟩;refine⟨_,rfl,rfl,_,rfl,aI (bb (by decide)) ?_⟩;refine⟨_,rfl,rfl,_,rfl,aI (bb (by decide)) ?_⟩;refine⟨_,rfl,rfl,_,rfl,aI (bb (by decide)) ?_⟩;refine⟨_,rfl,rfl,_,rfl,aI (bb (by decide)) ?_⟩;refine⟨_,rfl,rfl,_,rfl,aI (bb (by decide)) ?_⟩;refine⟨_,rfl,rfl,_,rfl,aI (bb (by decide)) ?_⟩;refine⟨_,rfl,rfl,_,rfl,aI (bb (by decide)) ?_⟩;refine⟨_,rfl,rfl,_,rfl,aI (bb (by decide)) ?_⟩;refine⟨_,rfl,rfl,_,rfl,aI (bb (by decide)) ?_⟩;exact⟨_,rfl,_,rfl,_,rfl,B,s,b,l,_,_,_,rfl,pre,hl,(.way x1 x2),(by decide),asks (by decide)⟩
  |tree x1=>refine⟨_,rfl,rfl,_,rfl,aI (bb (by decide)) ?_⟩;refine⟨_,rfl,rfl,_,rfl,aI (bb (by decide)) ?_⟩;refine⟨_,rfl,rfl,_,rfl,aI (bb (by decide)) ?_⟩;refine⟨_,rfl,rfl,_,rfl,aI (bb (by decide)) ?_⟩;refine⟨_,rfl,rfl,_,rfl,aI (bb (by decide)) ?_⟩;refine⟨_,rfl,rfl,_,rfl,aI (bb (by decide)) ?_⟩;refine⟨_,rfl,rfl,_,rfl,aI (bb (by decide)) ?_⟩;refine⟨_,rfl,rfl,_,rfl,aI (bb (by decide)) ?_⟩;refine⟨_,rfl,rfl,_,rfl,aI (bb (by decide)) ?_⟩;refine⟨_,rfl,rfl,_,rfl,aI (bb (by decide)) ?_⟩;refine⟨_,rfl,rfl,_,rfl,aI (bb (by decide)) ?_⟩;refine⟨_,rfl,rfl,_,rfl,aI (bb (by decide)) ?_⟩;exact⟨_,rfl,_,rfl,_,rfl,B,s,b,l,_,_,_,rfl,pre,hl,(.tree x1),(by decide),asks (by decide)⟩
  |cost x1 x2 x3 x4 x5 x6 x7=>refine⟨_,rfl,rfl,_,rfl,aI (bb (by decide)) ?_⟩;refine⟨_,rfl,rfl,_,rfl,aI (bb (by decide)) ?_⟩;refine⟨_,rfl,rfl,_,rfl,aI (bb (by decide)) ?_⟩;refine⟨_,rfl,rfl,_,rfl,aI (bb (by decide)) ?_⟩;refine⟨_,rfl,rfl,_,rfl,aI (bb (by decide)) ?_⟩;refine⟨_,rfl,rfl,_,rfl,aI (bb (by decide)) ?_⟩;refine⟨_,rfl,rfl,_,rfl,aI (bb (by decide)) ?_⟩;refine⟨_,rfl,rfl,_,rfl,aI (bb (by decide)) ?_⟩;refine⟨_,rfl,rfl,_,rfl,aI (bb (by decide)) ?_⟩;refine⟨_,rfl,rfl,_,rfl,aI (bb (by decide)) ?_⟩;refine⟨_,rfl,rfl,_,rfl,aI (bb (by decide)) ?_⟩;refine⟨_,rfl,rfl,_,rfl,aI (bb (by decide)) ?_⟩;exact⟨_,rfl,_,rfl,_,rfl,B,s,b,l,_,_,_,rfl,pre,hl,(.cost x1 x2 x3 x4 x5 x6 x7),(by decide),asks (by decide)⟩
  |nets=>refine⟨_,rfl,rfl,_,rfl,aI (bb (by decide)) ?_⟩;refine⟨_,rfl,rfl,_,rfl,aI (bb (by decide)) ?_⟩;refine⟨_,rfl,rfl,_,rfl,aI (bb (by decide)) ?_⟩;refine⟨_,rfl,rfl,_,rfl,aI (bb (by decide)) ?_⟩;refine⟨_,rfl,rfl,_,rfl,aI (bb (by decide)) ?_⟩;refine⟨_,rfl,rfl,_,rfl,aI (bb (by decide)) ?_⟩;refine⟨_,rfl,rfl,_,rfl,aI (bb (by decide)) ?_⟩;refine⟨_,rfl,rfl,_,rfl,aI (bb (by decide)) ?_⟩;refine⟨_,rfl,rfl,_,rfl,aI (bb (by decide)) ?_⟩;refine⟨_,rfl,rfl,_,rfl,aI (bb (by decide)) ?_⟩;refine⟨_,rfl,rfl,_,rfl,aI (bb (by decide)) ?_⟩;refine⟨_,rfl,rfl,_,rfl,aI (bb (by decide)) ?_⟩;exact⟨_,rfl,_,rfl,_,rfl,B,s,b,l,_,_,_,rfl,pre,hl,(.nets),(by decide),asks (by decide)⟩
  |unlaid=>refine⟨_,rfl,rfl,_,rfl,aI (bb (by decide)) ?_⟩;refine⟨_,rfl,rfl,_,rfl,aI (bb (by decide)) ?_⟩;refine⟨_,rfl,rfl,_,rfl,aI (bb (by decide)) ?_⟩;refine⟨_,rfl,rfl,_,rfl,aI (bb (by decide)) ?_⟩;refine⟨_,rfl,rfl,_,rfl,aI (bb (by decide)) ?_⟩;refine⟨_,rfl,rfl,_,rfl,aI (bb (by decide)) ?_⟩;refine⟨_,rfl,rfl,_,rfl,aI (bb (by decide)) ?_⟩;refine⟨_,rfl,rfl,_,rfl,aI (bb (by decide)) ?_⟩;refine⟨_,rfl,rfl,_,rfl,aI (bb (by decide)) ?_⟩;refine⟨_,rfl,rfl,_,rfl,aI (bb (by decide)) ?_⟩;refine⟨_,rfl,rfl,_,rfl,aI (bb (by decide)) ?_⟩;refine⟨_,rfl,rfl,_,rfl,aI (bb (by decide)) ?_⟩;exact⟨_,rfl,_,rfl,_,rfl,B,s,b,l,_,_,_,rfl,pre,hl,(.unlaid),(by decide),asks (by decide)⟩
  |total=>refine⟨_,rfl,rfl,_,rfl,aI (bb (by decide)) ?_⟩;refine⟨_,rfl,rfl,_,rfl,aI (bb (by decide)) ?_⟩;refine⟨_,rfl,rfl,_,rfl,aI (bb (by decide)) ?_⟩;refine⟨_,rfl,rfl,_,rfl,aI (bb (by decide)) ?_⟩;refine⟨_,rfl,rfl,_,rfl,aI (bb (by decide)) ?_⟩;refine⟨_,rfl,rfl,_,rfl,aI (bb (by decide)) ?_⟩;refine⟨_,rfl,rfl,_,rfl,aI (bb (by decide)) ?_⟩;refine⟨_,rfl,rfl,_,rfl,aI (bb (by decide)) ?_⟩;refine⟨_,rfl,rfl,_,rfl,aI (bb (by decide)) ?_⟩;refine⟨_,rfl,rfl,_,rfl,aI (bb (by decide)) ?_⟩;refine⟨_,rfl,rfl,_,rfl,aI (bb (by decide)) ?_⟩;refine⟨_,rfl,rfl,_,rfl,aI (bb (by decide)) ?_⟩;exact⟨_,rfl,_,rfl,_,rfl,B,s,b,l,_,_,_,rfl,pre,hl,(.total),(by decide),asks (by decide)⟩
end
end Nw
namespace Nw
open PySem PySem.Spec PyProof.Rows L2
theorem U4{zs args t:ab Int}{lo hi:Int}(h:zs.drop i=p::(args++t))(e1:lo=((i+1:Nat):Int))(e2:hi=((i+1+args.length:Nat):Int)):wV (zs.map V.int) (some lo) (some hi)=args.map V.int:=by
 subst e1 e2;have hl:zs.length=i+(1+(args.length+t.length)):=by have:=gh sg h;rw[kH,bg,bo]at this;omega
 have hd:zs.drop (i+1)=args++t:=by rw[<-List.drop_drop,h];rfl
 unfold wV;rw[HT.C_,HT.C_,ae,p7 (show i+1+args.length<=zs.length by omega),p7 (show i+1<=zs.length by omega),<-List.map_drop,hd,cz,show i+1+args.length-(i+1)=args.length by omega,List.take_append_of_le_length (by rw[ae];omega)];rw[uy (by rw[ae];omega)]
theorem NK(h:ku de f (p::r)=some cs):∃f' c t tp,C2 de (p::r)=some (c,t)/\ku de f' t=some tp/\cs=c::tp:=by
 cases f with
 |zero=>cases h
 |succ f=>
  simp only[ku]at h;cases hc:C2 de (p::r)with
  |none=>rw[hc]at h;cases h
  |some q=>
   obtain⟨c,t⟩:=q;rw[hc]at h;simp only at h;cases ht:ku de f t with
   |none=>rw[ht]at h;cases h
   |some tp=>rw[ht]at h;cases h;exact⟨f,c,t,tp,rfl,ht,rfl⟩
theorem QC(h:ku de f []=some cs):cs=[]:=by cases f<;>cases h<;>rfl
section
variable{P:bT}{w:cU}{K:ag}{mg:Str->aY aA}{base:Heap}{c:Cs}{n:Nat}{la:Addr}
inductive JJ(K:ag)(c:Cs)(vs:ab V)(H:Hp)(Q:VK):Prop
 |mk (B:BA) (a:Addr) (zs:ab Int) (q0:vs=[.ref B.ob,.ref a]) (q1:bh c H B Vbpcah.start) (q2:B.xs=[]) (q3:cN K (off B.M H) a (zs.map V.int)) (q4:lY zs=true) (q5:∀(H':Hp)(p:Addr),H' p=some (.lst ((mU zs).map V.int))->Q (.ref p) H')
def B3(K:ag)(c:Cs):Sp:=fun vs H Q _=>JJ K c vs H Q
structure Bt(K:ag)(c:Cs)(zs:ab Int)(ob a sl:Addr)(H:Hp)(i:Nat)(B:BA)(s:Bd)(cs:ab (ab (ab Int)))(acc:ab Int)(j:Nat):Prop where
 bd:bh c H B s
 ob_:B.ob=ob
 xs_:B.xs=[sl]
 sq:cN K (off B.N H) a (zs.map V.int)
 le:i<=zs.length
 cs_:∃f,ku de f (zs.drop i)=some cs
 ok:∀k∈cs,mL k=true
 sl_:H sl=some (.lst (acc.map V.int))
 all:acc++rh (HK g0 s cs)=mU zs
 rips:d6 s (1000*j)
 Q5:j+cs.length<=140
 len:acc.length<=7001*j
abbrev sP:Stmt:=top 86
theorem jF:bx ["board","calls","said","at","end","answer"] ["board","calls"] (aU sP):={}
theorem FV(F:gY K "answers_on" "answers_on" sP f fd)(T:Txt K mg c)(rf:bP P w K mg base "end_of_call" n ["calls","at"] (Vy K))(vI:bP P w K mg base "answer_of" n ["board","number","given"] (D0 c)):cZ P w K mg base gZ (n+1) f fd ["board","calls"] (B3 K c):=by
 refine F.ok jF (fun vs H Q E h=>?_) (fun fR A outer s H vs Q E hr h=>?_);·obtain⟨B,a,zs,rfl,_⟩:=h;rfl
 ·obtain⟨B,a,zs,rfl,hB,YF,hS,Sr,k⟩:=h;obtain⟨cs0,acB,adM,hc1,acI⟩:=S1 Sr;refine⟨_,(ah (cE (i:=2) jF.nd rfl (bj rfl) (cI ak)) (ah (cE (i:=3) jF.nd rfl (bj rfl) aN) (ah (u_ bJ (bL vf (pv 3) (dM dv rfl T.b.len jC (aa (pv 1) ak)) (cJ _)) (ah (cE (i:=4) jF.nd rfl (bj rfl) (cK rf hr (aa (pv 1) (aa (pv 3) ak)))) (ah (cE (i:=5) jF.nd rfl (bj rfl) (cK vI hr (aa (pv 0) (aa (cD bA (pv 1) (pv 3) (fun _ _=>rfl)) (aa (nY qk (pv 1) (mr (dj gO (pv 3) aN)) (mr (pv 4))) ak))))) (ah (da (pK (pv 2) (aa (dM dv rfl T.b.len jC (aa (pv 5) ak)) ak))) (ah (da (AZ (pv 2) (aa (pv 5) ak))) (ay (cE (i:=3) jF.nd rfl (bj rfl) (pv 4)))))))) (ay (aX (pv 2)))))),?_⟩;refine MC ?_;intro uH oO lG;refine⟨cH _,fun sl hsl=>?_⟩;have s1:aQ H (upd H sl (.lst [])):=aQ.new hsl;have bt0:Bt K c zs B.ob a sl (upd H sl (.lst [])) 0 {B with xs:=sl::B.xs} Vbpcah.start cs0 [] 0:=by
   refine⟨hB.guard hsl s1 aq,rfl,by show sl::B.xs=[sl];rw[YF],aQ.seq (fun b o e=>?_) hS,cH _,⟨_,acB⟩,hc1,aq,by rw[acI];rfl,MB.2,by omega,cH _⟩;obtain⟨e1,e2⟩:=nD e;refine eZ (s1 _ _ e2) fun z=>?_;rcases a_.mp z with z|z;·exact e1 z
   ·have z:b∈sl::B.xs:=z;rw[YF,bU]at z;rw[z,hsl]at e2;cases e2
  generalize upd H sl (.lst [])=H1 at bt0⊢;let ac6:Nat->L2.St->Hp->Prop:=fun m σ H'=>∃(x4 x5:aY V)(i:Nat)(B':BA)(s':Bd)(cs:ab (ab (ab Int)))(acc:ab Int)(j:Nat),σ=[some (.ref B.ob),some (.ref a),some (.ref sl),some (vi i),x4,x5]/\Bt K c zs B.ob a sl H' i B' s' cs acc j/\m+i=zs.length;refine⟨ac6,⟨zs.length,none,none,0,_,_,_,_,_,rfl,bt0,rfl⟩,?_⟩;rintro m σ H2 ⟨x4,x5,i,B2,s2,cs,acc,j,rfl,bt,hm⟩;have UT:cN K H2 a (zs.map V.int):=(dS (M:=B2.N)).seq bt.sq;refine⟨_,rfl,_,rfl,a,_,rfl,.inl UT,_,_,rfl,rfl,_,rfl,?_⟩;rw[ae];obtain⟨ff,hcs⟩:=bt.cs_;by_cases hi:i<zs.length
  ·refine bD (by rw[au];omega) ?_;obtain⟨p,r,YM⟩:∃p r,zs.drop i=p::r:=by
    cases e:zs.drop i with
    |nil=>have:=gh sg e;rw[kH,fH]at this;omega
    |cons p r=>exact⟨p,r,rfl⟩
   rw[YM]at hcs;obtain⟨f',cc,t,tp,aax,acC,rfl⟩:=NK hcs;obtain⟨args,kk,acr,aat,acD,rfl⟩:=U9 aax (bt.ok cc (by simp));have Z_:zs[i]? =some p:=by have:=lZ (xs:=zs) (i:=i) (j:=0);rw[YM]at this;exact this.symm
   have Z':p=10->zs[i+1]? =args.head?:=fun Mb=>by obtain⟨nn,_,_,h2⟩:=aat.len;obtain⟨mm,rr,e,_⟩:=h2 Mb;have:=lZ (xs:=zs) (i:=i) (j:=1);rw[YM,e]at this;rw[e];exact this.symm
   have hzl:zs.length=i+(1+(args.length+t.length)):=by have:=gh sg YM;rw[kH,bg,bo]at this;omega
   have CN:zs.drop (i+1+args.length)=t:=by rw[tQ,<-List.drop_drop,YM,vO,List.drop_succ_cons,List.drop_left]
   have hj:=bt.Q5;rw[bg]at hj;let ac5:L2.St->Hp->Prop:=fun σ' H'=>∃(x4 x5:aY V)(i':Nat)(B':BA)(s':Bd)(cs:ab (ab (ab Int)))(acc:ab Int)(j:Nat),σ'=[some (.ref B.ob),some (.ref a),some (.ref sl),some (vi i'),x4,x5]/\Bt K c zs B.ob a sl H' i' B' s' cs acc j/\i<i';refine⟨ac5,?_,?_⟩;·rintro σ' H' ⟨x4,x5,i',B',s',cs,acc,j,q1,q2,q3⟩;have:=q2.le;exact⟨zs.length-i',by omega,x4,x5,i',B',s',cs,acc,j,q1,q2,by omega⟩
   refine⟨_,rfl,_,rfl,a,zs,i,p,args,rfl,UT,Z_,aat,Z',?_⟩;refine⟨_,rfl,_,rfl,_,rfl,a,_,_,_,rfl,rfl,UT,cA (pN Z_),_,rfl,_,rfl,_,_,rfl,rfl,_,rfl,_,rfl,_,rfl,a,_,rfl,UT,fun gl hgl=>?_⟩;rw[U4 YM (by omega) rfl];have s3:aQ H2 (upd H2 gl (.lst (args.map V.int))):=aQ.new hgl;have tU:=bt.bd.same s3;have UJ:Pre c (upd H2 gl (.lst (args.map V.int))) B2 s2 (1000*j):=⟨tU,bt.rips,by omega,fun b hb=>by rw[bt.xs_,bU]at hb;rw[hb];exact⟨_,s3 _ _ bt.sl_⟩⟩;refine⟨B2,s2,1000*j,gl,p,args,kk,(by rw[bt.ob_];rfl),UJ,aq,acr,fun H4 B4 l XG e4 m4 hlx el=>?_⟩;have m24:Mv B2.M H2 B4.M H4:=(Mv.same s3).trans m4;have ab2:sl∉B2.M:=(bt.bd.xd sl (by rw[bt.xs_];simp)).2;have aaH:=m24.kp _ _ bt.sl_ ab2;have UH:sl∈B4.xs:=by rw[e4.2,bt.xs_];simp
   have ack:l≠sl:=fun z=>hlx (z▸UH);have ad':=bt.len;have adT:=Rn bt.bd.good bt.bd.len kk;refine⟨_,rfl,.inl ⟨rfl,_,cN.of aaH⟩,_,rfl,l,_,rfl,.inl (cN.of el),sl,_,_,rfl,rfl,aaH,(by rw[ae,bS];omega),?_⟩;have XF:=XG.Wx UH (.lst (acc.map V.int++[V.int (((aP s2 kk).2.map V.int).length:Int)]));have e5:upd H4 sl (.lst (acc.map V.int++[V.int (((aP s2 kk).2.map V.int).length:Int)])) sl=some (.lst (acc.map V.int++[V.int (((aP s2 kk).2.map V.int).length:Int)])):=aq;have el5:upd H4 sl (.lst (acc.map V.int++[V.int (((aP s2 kk).2.map V.int).length:Int)])) l=some (.lst ((aP s2 kk).2.map V.int)):=by rw[aj ack];exact el
   refine⟨_,rfl,.inl ⟨rfl,_,cN.of e5⟩,_,rfl,sl,l,_,_,rfl,rfl,e5,el5,(by rw[bo,ae,ae,cn,bS];omega),?_⟩;have hB6:=XF.Wx UH (.lst ((acc.map V.int++[V.int (((aP s2 kk).2.map V.int).length:Int)])++(aP s2 kk).2.map V.int));rw[vR]at hB6⊢;have acS:(acc.map V.int++[V.int (((aP s2 kk).2.map V.int).length:Int)])++(aP s2 kk).2.map V.int=(acc++(((aP s2 kk).2.length:Int)::(aP s2 kk).2)).map V.int:=by rw[cz,cx,ae,gk];rfl
   rw[acS]at hB6⊢;have aag:g0 s2 cc=aP s2 kk:=by unfold g0;rw[acD]
   refine⟨_,rfl,_,_,i+1+args.length,B4,(aP s2 kk).1,tp,acc++(((aP s2 kk).2.length:Int)::(aP s2 kk).2),j+1,rfl,⟨hB6,e4.1.trans bt.ob_,e4.2.trans bt.xs_,?_,by omega,⟨f',by rw[CN];exact acC⟩,fun q hq=>bt.ok q (by simp[hq]),aq,?_,?_,by omega,?_⟩,by omega⟩;·have h4:=(m24.ib (X:=B2.xs)).seq bt.sq;rw[show B2.xs=B4.xs from e4.2.symm]at h4;refine aQ.seq (fun b o e=>?_) h4;obtain⟨q1,q2⟩:=nD e;refine eZ ?_ q1;rw[aj (fun z:b=sl=>q1 (z▸c6 _ UH))];exact q2
   ·rw[<-bt.all];show _=acc++rh ((g0 s2 cc).2::HK g0 (g0 s2 cc).1 tp);rw[aag,Py,gk]
   ·have:=(GR bt.bd.good bt.rips kk).2;exact this.mono (by omega)
   ·rw[bo,bg];omega
  ·refine aI (by rw[au];omega) ?_;have aca:zs.drop i=[]:=List.drop_eq_nil_of_le (by omega);rw[aca]at hcs;have hcn:=QC hcs;subst hcn;refine⟨_,rfl,k H2 sl ?_⟩;rw[bt.sl_,<-bt.all];show _=some (HO.lst ((acc++[]).map V.int));rw[dO]
inductive N5(K:ag)(vs:ab V)(H:Hp)(Q:VK):Prop
 |mk (a:Addr) (zs:ab Int) (q0:vs=[.ref a]) (q1:cN K H a (zs.map V.int)) (q2:lY zs=true) (q3:∀(H':Hp)(p:Addr),H' p=some (.lst ((mU zs).map V.int))->Q (.ref p) H')
def vT(K:ag):Sp:=fun vs H Q _=>N5 K vs H Q
abbrev ni:Stmt:=top 85
theorem MG:bx ["calls"] ["calls"] (aU ni):={}
theorem M3(F:gY K "answers" "answers" ni f fd)(T:Txt K mg c)(JP:jN P w K mg base c.bO "Board" n ["self"] (B0 c))(tI:bP P w K mg base "answers_on" (n+1) ["board","calls"] (B3 K c)):cZ P w K mg base gZ (n+2) f fd ["calls"] (vT K):=by
 refine F.ok MG (fun vs H Q E h=>?_) (fun fR A outer s H vs Q E hr h=>?_);·obtain⟨a,zs,rfl,_⟩:=h;rfl
 ·obtain⟨a,zs,rfl,hS,Sr,k⟩:=h;refine⟨_,(ay (aX (cK tI hr (aa (Hc JP hr) (aa (pv 0) ak))))),?_⟩;intro x dx hx hdx oR;refine⟨x,dx,rfl,aq,fun H1 B hB e1 m1=>⟨rfl,?_⟩⟩;refine⟨_,rfl,B,a,zs,(by rw[e1.1];rfl),hB,e1.2,aQ.seq (fun b o e=>?_) hS,Sr,k⟩;have hbx:b≠x:=aE e hx;have e2:upd (upd H dx (.own x)) x (.ins c.bO dx []) b=some o:=by rw[aj hbx,aj (aE e hdx)];exact e
  have hb:b∉[x]:=by simpa using hbx
  refine eZ (m1.kp _ _ e2 hb) fun z=>?_;rcases m1.mem b z with y|y;·exact hb y
  ·rw[e2]at y;cases y
end
end Nw
namespace L2
open PySem PySem.Spec PyProof.Rows
section
variable{P:bT}{w:cU}{K:ag}{mg:Str->aY aA}{base:Heap}{C:Addr}{x m qual:Str}{st:Stmt}{ps:ab Str}{sp:Sp}{j k:Nat}
theorem bP.mn(D:bP P w K mg base x j ps sp)(h:j<=k:=by decide):bP P w K mg base x k ps sp:=let⟨f,fd,a,b⟩:=D.ex;⟨f,fd,a.mono h,b⟩
theorem bq.mn(D:bq P w K mg base C m j ps sp)(h:j<=k:=by decide):bq P w K mg base C m k ps sp:=let⟨f,fd,a,b⟩:=D.ex;⟨f,fd,a.mono h,b⟩
theorem jN.mn(D:jN P w K mg base C x j ps sp)(h:j<=k:=by decide):jN P w K mg base C x k ps sp:=let⟨f,fd,a,b⟩:=D.ex;⟨f,fd,a.mono h,b⟩
structure d_(K:ag)(mg:Str->aY aA)(x qual:Str)(st:Stmt)(ps:ab Str):Prop where
 ex:∃f fd,gY K x qual st f fd/\Binds K fd ps []/\mg x=some (.ref f)/\fi K (.ref f)=true
structure fV(K:ag)(C:Addr)(m qual:Str)(st:Stmt)(ps:ab Str):Prop where
 ex:∃f fd,gY K m qual st f fd/\Binds K fd ps []/\Meth K C m f
structure Cd(K:ag)(mg:Str->aY aA)(C:Addr)(x qual:Str)(st:Stmt)(ps:ab Str):Prop where
 ex:∃f fd,gY K "__init__" qual st f fd/\Binds K fd ps []/\Mk K C f/\mg x=some (.ref C)
theorem d_.ok(t:d_ K mg x qual st ps)(h:∀{f fd},gY K x qual st f fd->cZ P w K mg base gZ k f fd ps sp):bP P w K mg base x k ps sp:=let⟨f,fd,a,b,d,e⟩:=t.ex;⟨f,fd,h a,b,d,e⟩
theorem fV.ok(t:fV K C m qual st ps)(cl:JS K C)(h:∀{f fd},gY K m qual st f fd->cZ P w K mg base gZ k f fd ps sp):bq P w K mg base C m k ps sp:=let⟨f,fd,a,b,d⟩:=t.ex;⟨f,fd,h a,b,d,cl⟩
theorem Cd.ok(t:Cd K mg C x qual st ps)(h:∀{f fd},gY K "__init__" qual st f fd->cZ P w K mg base gZ k f fd ps sp):jN P w K mg base C x k ps sp:=let⟨f,fd,a,b,d,e⟩:=t.ex;⟨f,fd,h a,b,d,e⟩
end
end L2
namespace Nw
open PySem PySem.Spec PyProof.Rows L2
structure Defs(K:ag)(mg:Str->aY aA)(c:Cs):Prop where
 y6:fV K c.d5 "near_cells" "Grid.near_cells" md ["self","cell"]
 Cn:fV K c.d5 "place_of" "Grid.place_of" ou ["self","cell"]
 Av:fV K c.d5 "step_kind" "Grid.step_kind" nk ["self","cell","near"]
 DJ:fV K c.d5 "cell_at" "Grid.cell_at" pF ["self","spot"]
 DI:fV K c.d5 "spot_of" "Grid.spot_of" pE ["self","cell"]
 xC:fV K c.d5 "place_cells" "Grid.place_cells" lg ["self","place"]
 Aw:fV K c.d5 "holds_box" "Grid.holds_box" nq ["self","box"]
 xB:fV K c.d5 "taken_cells" "Grid.taken_cells" lb ["self","ways"]
 Ax:fV K c.d5 "box_cells" "Grid.box_cells" nv ["self","box"]
 Wd:Cd K mg c.d5 "Grid" "Grid.__init__" ow ["self","columns","rows","layers"]
 J8:fV K c.wave "meet" "Wave.meet" uZ ["self","cell","cost"]
 Ia:fV K c.wave "reach" "Wave.reach" sQ ["self","cells"]
 Au:fV K c.wave "step_from" "Wave.step_from" nj ["self","cell"]
 xA:fV K c.wave "cell_before" "Wave.cell_before" k_ ["self","cell"]
 Cm:fV K c.wave "way_back" "Wave.way_back" oo ["self","target"]
 Wb:Cd K mg c.wave "Wave" "Wave.__init__" oq ["self","ground"]
 Wc:Cd K mg c.tree "Tree" "Tree.__init__" ot ["self"]
 Mq:d_ K mg "cells_of" "cells_of" xS ["pins"]
 y4:fV K c.wave "nearest_of" "Wave.nearest_of" l_ ["self","wanted"]
 J5:d_ K mg "find_tree" "find_tree" uW ["ground","pins"]
 Cp:fV K c.bO "is_laid" "Board.is_laid" oy ["self","net"]
 Cq:fV K c.bO "is_held" "Board.is_held" oz ["self","cell"]
 sC:fV K c.bO "may_use_softly" "Board.may_use_softly" jy ["self","net","cell"]
 Co:fV K c.bO "may_use" "Board.may_use" ox ["self","net","cell"]
 xE:fV K c.bO "extra_cost" "Board.extra_cost" lj ["self","net","cell"]
 y9:fV K c.bO "step_cost" "Board.step_cost" mf ["self","kind","cell"]
 sA:fV K c.bO "nets_with_pins" "Board.nets_with_pins" jx ["self"]
 zf:fV K c.bO "laid_nets" "Board.laid_nets" mi ["self"]
 wG:fV K c.bO "unlaid_nets" "Board.unlaid_nets" kE ["self"]
 y8:fV K c.bO "ways_cost" "Board.ways_cost" me ["self","net"]
 xD:fV K c.bO "total_cost" "Board.total_cost" lh ["self"]
 wH:fV K c.bO "set_blocked" "Board.set_blocked" kF ["self","cells","blocked"]
 Cr:fV K c.bO "add_pin" "Board.add_pin" oA ["self","net","cells"]
 zg:fV K c.bO "drop_pins" "Board.drop_pins" mj ["self","net"]
 J9:fV K c.bO "lay" "Board.lay" u0 ["self","net","ways"]
 FK:fV K c.bO "unlay" "Board.unlay" qS ["self","net"]
 rF:fV K c.bO "rip_for_another" "Board.rip_for_another" jg ["self","net"]
 DK:fV K c.bO "laying" "Board.laying" pG ["self"]
 y_:fV K c.bO "lay_again" "Board.lay_again" mh ["self","laying"]
 uI:fV K c.bO "other_takers" "Board.other_takers" jX ["self","net","ways"]
 FN:fV K c.bO "renew" "Board.renew" qT ["self","columns","rows","layers"]
 TV:Cd K mg c.bO "Board" "Board.__init__" ny ["self"]
 y3:d_ K mg "steps_on_layers" "steps_on_layers" l9 ["board","extra","axis"]
 Ck:d_ K mg "layer_changes" "layer_changes" om ["board","extra"]
 Rg:Cd K mg c.ground "Ground" "Ground.__init__" ma ["self","board","extra"]
 FH:d_ K mg "firm_ground" "firm_ground" qP ["board","net"]
 HW:d_ K mg "soft_extra" "soft_extra" sM ["board","net","cell"]
 FE:d_ K mg "soft_ground" "soft_ground" qM ["board","net"]
 DH:d_ K mg "cost_between" "cost_between" pD ["ground","start","goal"]
 J4:d_ K mg "firm_tree" "firm_tree" uV ["board","net"]
 J3:d_ K mg "soft_tree" "soft_tree" uU ["board","net"]
 FG:d_ K mg "lay_by_tree" "lay_by_tree" qO ["board","net"]
 xw:d_ K mg "lay_by_soft_tree" "lay_by_soft_tree" k6 ["board","net"]
 HX:d_ K mg "make_tries" "make_tries" sN ["board","nets","budget"]
 xx:d_ K mg "improve_by_tries" "improve_by_tries" k8 ["board","budget"]
 Rf:d_ K mg "is_net" "is_net" D_ ["net"]
 FJ:d_ K mg "box_refusal" "box_refusal" qR ["board","box"]
 FF:d_ K mg "pin_refusal" "pin_refusal" qN ["board","net","box"]
 DE:d_ K mg "tree_refusal" "tree_refusal" pA ["board","net"]
 DD:d_ K mg "ways_refusal" "ways_refusal" pz ["board","net"]
 As:d_ K mg "budget_refusal" "budget_refusal" nh ["budget"]
 DF:d_ K mg "spot_refusal" "spot_refusal" pB ["board","spot"]
 DG:d_ K mg "cost_refusal" "cost_refusal" pC ["board","net","spots"]
 PD:d_ K mg "counted" "counted" AQ ["numbers"]
 HZ:d_ K mg "ask_unlaid" "ask_unlaid" sO ["board"]
 J6:d_ K mg "ask_total" "ask_total" uX ["board"]
 Mt:d_ K mg "ask_nets" "ask_nets" xV ["board"]
 Ms:d_ K mg "ask_soft" "ask_soft" xU ["board","net"]
 Mw:d_ K mg "ask_cell" "ask_cell" xX ["board","spot"]
 PF:d_ K mg "ask_way" "ask_way" AR ["board","net","number"]
 Mr:d_ K mg "ask_tree" "ask_tree" xT ["board","net"]
 Mu:d_ K mg "ask_cost" "ask_cost" xW ["board","net","spots"]
 TU:d_ K mg "begin" "begin" Iw ["board","columns","rows","layers"]
 TQ:d_ K mg "costs" "costs" Iu ["board","via","wrong","penalty"]
 Rc:d_ K mg "prefer" "prefer" D' ["board","layer","direction"]
 TR:d_ K mg "block" "block" Iv ["board","box"]
 V':d_ K mg "free" "free" MH ["board","box"]
 Zg:d_ K mg "pin" "pin" RA ["board","net","box"]
 V_:d_ K mg "drop" "drop" MI ["board","net"]
 TM:d_ K mg "route" "route" Iq ["board","net"]
 Ze:d_ K mg "rip" "rip" Rz ["board","net"]
 Wa:d_ K mg "auto" "auto" MJ ["board","budget"]
 PB:d_ K mg "improve" "improve" AO ["board","budget"]
 TN:d_ K mg "order" "order" Ir ["board","nets"]
 FI:d_ K mg "end_of_call" "end_of_call" qQ ["calls","at"]
 xy:d_ K mg "answer_of_asking" "answer_of_asking" k9 ["board","number","given"]
 J7:d_ K mg "answer_of" "answer_of" uY ["board","number","given"]
 H_:d_ K mg "answers_on" "answers_on" sP ["board","calls"]
theorem Ye{K:ag}(T:Txt K mg c)(TL:Vf K mg la)(S:Defs K mg c)(F:gY K "answers" "answers" ni f fd):cZ P w K mg base gZ 13 f fd ["calls"] (vT K):=by have mH:bq P w K mg base _ _ 1 _ _:=S.y6.ok T.gC fun F=>ye F T;have gX:bq P w K mg base _ _ 1 _ _:=S.Cn.ok T.gC fun F=>A_ F T;have iq:bq P w K mg base _ _ 2 _ _:=S.Av.ok T.gC fun F=>zP F T gX.mn;have fc:bq P w K mg base _ _ 1 _ _:=S.DJ.ok T.gC fun F=>CK F T;have p4:bq P w K mg base _ _ 1 _ _:=S.DI.ok T.gC fun F=>CJ F T;have lC:bq P w K mg base _ _ 1 _ _:=S.xC.ok T.gC fun F=>wQ F T;have ir:bq P w K mg base _ _ 1 _ _:=S.Aw.ok T.gC fun F=>zQ F T;have cR:bq P w K mg base _ _ 3 _ _:=S.xB.ok T.gC fun F=>wO F T gX.mn iq.mn lC.mn;have eL:bq P w K mg base _ _ 2 _ _:=S.Ax.ok T.gC fun F=>zR F T fc.mn;have N_:jN P w K mg base _ _ 2 _ _:=S.Wd.ok fun F=>IW F T mH.mn;have j8:bq P w K mg base _ _ 1 _ _:=S.J8.ok T.wC fun F=>IT F T;have iT:bq P w K mg base _ _ 2 _ _:=S.Ia.ok T.wC fun F=>FW F T j8.mn;have nJ:bq P w K mg base _ _ 2 _ _:=S.Au.ok T.wC fun F=>zO F T j8.mn;have lB:bq P w K mg base _ _ 1 _ _:=S.xA.ok T.wC fun F=>wN F T;have oF:bq P w K mg base _ _ 2 _ _:=S.Cm.ok T.wC fun F=>A' F T lB.mn;have BI:jN P w K mg base _ _ 1 _ _:=S.Wb.ok fun F=>IU F T;have N':jN P w K mg base _ _ 1 _ _:=S.Wc.ok fun F=>IV F T;have tH:bP P w K mg base _ 1 _ _:=S.Mq.ok fun F=>KC F T;have gT:bq P w K mg base _ _ 3 _ _:=S.y4.ok T.wC fun F=>yd F T nJ.mn;have lN:bP P w K mg base _ 4 _ _:=S.J5.ok fun F=>IP F T N'.mn BI.mn iT.mn gT.mn oF.mn cR.mn tH.mn;have cg:bq P w K mg base _ _ 1 _ _:=S.Cp.ok T.bC fun F=>Bb F T;have oG:bq P w K mg base _ _ 1 _ _:=S.Cq.ok T.bC fun F=>Bc F T;have eN:bq P w K mg base _ _ 1 _ _:=S.sC.ok T.bC fun F=>rN F T;have fA:bq P w K mg base _ _ 2 _ _:=S.Co.ok T.bC fun F=>Ba F T eN.mn;have lD:bq P w K mg base _ _ 1 _ _:=S.xE.ok T.bC fun F=>wU F T;have eA:bq P w K mg base _ _ 1 _ _:=S.y9.ok T.bC fun F=>yg F T;have eM:bq P w K mg base _ _ 1 _ _:=S.sA.ok T.bC fun F=>rM F T;have eB:bq P w K mg base _ _ 2 _ _:=S.zf.ok T.bC fun F=>yi F T cg.mn;have dG:bq P w K mg base _ _ 2 _ _:=S.wG.ok T.bC fun F=>vg F T cg.mn eM.mn;have gU:bq P w K mg base _ _ 3 _ _:=S.y8.ok T.bC fun F=>yf F T eA.mn iq.mn;have fG:bq P w K mg base _ _ 4 _ _:=S.xD.ok T.bC fun F=>wR F T eB.mn gU.mn;have f_:bq P w K mg base _ _ 1 _ _:=S.wH.ok T.bC fun F=>vh F T;have oH:bq P w K mg base _ _ 1 _ _:=S.Cr.ok T.bC fun F=>Be F T;have mJ:bq P w K mg base _ _ 1 _ _:=S.zg.ok T.bC fun F=>yj F T;have iU:bq P w K mg base _ _ 4 _ _:=S.J9.ok T.bC fun F=>IX F T cR.mn;have gK:bq P w K mg base _ _ 4 _ _:=S.FK.ok T.bC fun F=>Ep F T cR.mn;have jm:bq P w K mg base _ _ 5 _ _:=S.rF.ok T.bC fun F=>qV F T gK.mn;have p5:bq P w K mg base _ _ 1 _ _:=S.DK.ok T.bC fun F=>CL F T;have mI:bq P w K mg base _ _ 1 _ _:=S.y_.ok T.bC fun F=>yh F T;have fI:bq P w K mg base _ _ 4 _ _:=S.uI.ok T.bC fun F=>uc F T cR.mn;have jJ:bq P w K mg base _ _ 4 _ _:=S.FN.ok T.bC fun F=>Er F T N_.mn;have JP:jN P w K mg base _ _ 5 _ _:=S.TV.ok fun F=>FX F T jJ.mn;have jR:bP P w K mg base _ 2 _ _:=S.y3.ok fun F=>yc F T eA.mn;have oE:bP P w K mg base _ 2 _ _:=S.Ck.ok fun F=>A9 F T eA.mn;have r8:jN P w K mg base _ _ 3 _ _:=S.Rg.ok fun F=>Eo F T oE.mn jR.mn;have jI:bP P w K mg base _ 5 _ _:=S.FH.ok fun F=>El F T fA.mn r8.mn;have tG:bP P w K mg base _ 2 _ _:=S.HW.ok fun F=>FR F T eN.mn lD.mn;have ra:bP P w K mg base _ 5 _ _:=S.FE.ok fun F=>Ei F T tG.mn r8.mn;have pZ:bP P w K mg base _ 4 _ _:=S.DH.ok fun F=>CI F T BI.mn iT.mn gT.mn;have lM:bP P w K mg base _ 6 _ _:=S.J4.ok fun F=>IM F T lN.mn jI.mn;have lL:bP P w K mg base _ 6 _ _:=S.J3.ok fun F=>IL F T lN.mn ra.mn;have jH:bP P w K mg base _ 7 _ _:=S.FG.ok fun F=>Ek F T lM.mn iU.mn;have lx:bP P w K mg base _ 7 _ _:=S.xw.ok fun F=>wK F T lL.mn iU.mn fI.mn jm.mn;have km:bP P w K mg base _ 8 _ _:=S.HX.ok fun F=>FT F T jH.mn lx.mn;have lz:bP P w K mg base _ 9 _ _:=S.xx.ok fun F=>wL F T p5.mn fG.mn dG.mn eB.mn gK.mn km.mn mI.mn;have gy:bP P w K mg base _ 1 _ _:=S.Rf.ok fun F=>P0 F T;have gJ:bP P w K mg base _ 2 _ _:=S.FJ.ok fun F=>En F T ir.mn;have rb:bP P w K mg base _ 3 _ _:=S.FF.ok fun F=>Ej F T gJ.mn gy.mn cg.mn;have jk:bP P w K mg base _ 2 _ _:=S.DE.ok fun F=>CF F T gy.mn cg.mn;have fU:bP P w K mg base _ 2 _ _:=S.DD.ok fun F=>CD F T gy.mn cg.mn;have ip:bP P w K mg base _ 1 _ _:=S.As.ok fun F=>zN F T;have jl:bP P w K mg base _ 2 _ _:=S.DF.ok fun F=>CG F T ir.mn;have pY:bP P w K mg base _ 3 _ _:=S.DG.ok fun F=>CH F T jl.mn gy.mn;have o8:bP P w K mg base _ 1 _ _:=S.PD.ok fun F=>MZ F T;have fz:bP P w K mg base _ 3 _ _:=S.HZ.ok fun F=>FU F T o8.mn dG.mn;have vH:bP P w K mg base _ 5 _ _:=S.J6.ok fun F=>IQ F T eB.mn fG.mn;have yD:bP P w K mg base _ 2 _ _:=S.Mt.ok fun F=>KH F T eM.mn cg.mn;have yC:bP P w K mg base _ 7 _ _:=S.Ms.ok fun F=>KG F T jk.mn lL.mn o8.mn fI.mn;have yF:bP P w K mg base _ 3 _ _:=S.Mw.ok fun F=>KJ F T jl.mn fc.mn;have BH:bP P w K mg base _ 3 _ _:=S.PF.ok fun F=>M0 F T fU.mn p4.mn;have yB:bP P w K mg base _ 4 _ _:=S.Mr.ok fun F=>KD F T fU.mn gU.mn cR.mn;have yE:bP P w K mg base _ 6 _ _:=S.Mu.ok fun F=>KI F T pY.mn fc.mn fA.mn pZ.mn jI.mn;have JO:bP P w K mg base _ 5 _ _:=S.TU.ok fun F=>RU F T jJ.mn;have JM:bP P w K mg base _ 1 _ _:=S.TQ.ok fun F=>RS F T;have Fl:bP P w K mg base _ 1 _ _:=S.Rc.ok fun F=>PZ F T;have JN:bP P w K mg base _ 3 _ _:=S.TR.ok fun F=>RT F T gJ.mn eL.mn oG.mn f_.mn;have N7:bP P w K mg base _ 3 _ _:=S.V'.ok fun F=>Us F T gJ.mn eL.mn f_.mn;have Tg:bP P w K mg base _ 4 _ _:=S.Zg.ok fun F=>WH F T rb.mn eL.mn fA.mn oH.mn;have N8:bP P w K mg base _ 2 _ _:=S.V_.ok fun F=>Ut F T gy.mn cg.mn mJ.mn;have JK:bP P w K mg base _ 7 _ _:=S.TM.ok fun F=>RP F T jk.mn lM.mn iU.mn;have Tf:bP P w K mg base _ 5 _ _:=S.Ze.ok fun F=>WG F T fU.mn gK.mn;have N9:bP P w K mg base _ 9 _ _:=S.Wa.ok fun F=>Uu F T ip.mn km.mn dG.mn fz.mn;have BG:bP P w K mg base _ 10 _ _:=S.PB.ok fun F=>MY F T ip.mn lz.mn fz.mn;have JL:bP P w K mg base _ 8 _ _:=S.TN.ok fun F=>RQ F T gy.mn cg.mn jH.mn fz.mn;have rf:bP P w K mg base _ 1 _ _:=S.FI.ok fun F=>Em F T TL;have lA:bP P w K mg base _ 8 _ _:=S.xy.ok fun F=>wM F T yC.mn yF.mn BH.mn yB.mn yE.mn yD.mn fz.mn vH.mn;have vI:bP P w K mg base _ 11 _ _:=S.J7.ok fun F=>IS F T JO.mn JM.mn Fl.mn JN.mn N7.mn Tg.mn N8.mn JK.mn Tf.mn JL.mn N9.mn BG.mn lA.mn;have tI:bP P w K mg base _ 12 _ _:=S.H_.ok fun F=>FV F T rf.mn vI.mn;exact M3 F T JP.mn tI.mn
end Nw
namespace L2
open PySem PySem.Spec PyProof.Rows
open PySem.W (WData Codec OpenSpec Well WellAll ReadsW ReadsAllW)
mutual
inductive Dw(K:ag)(H:Hp):V->oK->Prop
 |iG:Dw K H .iG .none
 |bl (b:Bool):Dw K H (.bl b) (.bool b)
 |int (i:Int):Dw K H (.int i) (.int i)
 |str (x:Str):Dw K H (.str x) (.str x)
 |JY (b:i5 UInt8):Dw K H (.JY b) (.bytes b.toList)
 |lst {a:Addr} {xs:ab V} {ds:ab oK}:cN K H a xs->tY K H xs ds->Dw K H (.ref a) (.list ds)
 |tup {a:Addr} {xs:ab V} {ds:ab oK}:q_ K H a xs->tY K H xs ds->Dw K H (.ref a) (.tuple ds)
inductive tY(K:ag)(H:Hp):ab V->ab oK->Prop
 |nil:tY K H [] []
 |cons {v:V} {vs:ab V} {d:oK} {ds:ab oK}:Dw K H v d->tY K H vs ds->tY K H (v::vs) (d::ds)
end
theorem O9{K:ag}:∀ns:ab Int,tY K H (ns.map V.int) (ns.map WData.int)
 |[]=>.nil
 |n::r=>.cons (.int n) (O9 r)
theorem OW{K:ag}:∀(ns:ab Int)(xs:ab V),tY K H xs (ns.map WData.int)->xs=ns.map V.int
 |[],xs,h=>by cases h;rfl
 |n::r,xs,h=>by
  cases h with
  |cons h1 h2=>cases h1;rw[OW r _ h2]<;>rfl
section
variable{P:bT}{w:cU}{K:ag}{H:Hp}{h:Heap}{R:PySem.W.WRecords}{cl:Str->aY Addr}
theorem Wm(gn:vF P w H h)(KX:K.In h)(q:cN K H a xs):∃(dk:ab aA)(o:Obj)(n:Nat),Vals xs dk/\h.get? a=some o/\o.cls=.type "list"/\o.data=.seq dk.toArray n:=by
 rcases q with q|⟨o,dk,n,e,hc,_,hd,_,hv⟩;·obtain⟨_,dk,n,hv,e⟩:=(show iK P w H h a (.lst xs)from q.ok gn);exact⟨dk,_,n,hv,e,rfl,rfl⟩
 ·exact⟨dk.toList,o,n,hv,KX _ _ e,hc,by simp[hd]⟩
theorem Wl(gn:vF P w H h)(KX:K.In h)(q:q_ K H a xs):∃(dk:ab aA)(o:Obj)(n:Nat),Vals xs dk/\h.get? a=some o/\o.cls=.type "tuple"/\o.data=.seq dk.toArray n:=by
 rcases q with q|⟨o,dk,n,e,hc,hd,_,hv⟩;·obtain⟨_,dk,hv,o,e,hc,n,hd⟩:=(show iK P w H h a (.tup xs)from q.ok gn);exact⟨dk,o,n,hv,e,hc,hd⟩
 ·exact⟨dk.toList,o,n,hv,KX _ _ e,hc,by simp[hd]⟩
mutual
theorem Dw.reads(gn:vF P w H h)(KX:K.In h):∀(d:oK)(v:V)(u:aA),Dw K H v d->RelV v u->∃as,ReadsW R cl h u d as
 | .none,_,_,x,r=>by cases x;cases r;exact⟨_,ReadsW.none⟩
 | .bool b,_,_,x,r=>by cases x;cases r;exact⟨_,ReadsW.bool b⟩
 | .int i,_,_,x,r=>by cases x;obtain⟨t,rfl⟩:=r;exact⟨_,ReadsW.int i t⟩
 | .str s,_,_,x,r=>by cases x;obtain⟨t,rfl⟩:=r;exact⟨_,ReadsW.str s t⟩
 | .bytes b,_,_,x,r=>by cases x;obtain⟨t,rfl⟩:=r;exact⟨_,ReadsW.bytes _ t⟩
 | .list ds,_,_,x,r=>by
  cases x with
  |lst hs ha=>cases r;obtain⟨dk,o,n,rv,ho,hc,hd⟩:=Wm gn KX hs;obtain⟨as,hr⟩:=Dw.readsAll gn KX ds _ dk ha rv;exact⟨_,ReadsW.list ho hc hd hr⟩
 | .tuple ds,_,_,x,r=>by
  cases x with
  |tup hs ha=>cases r;obtain⟨dk,o,n,rv,ho,hc,hd⟩:=Wl gn KX hs;obtain⟨as,hr⟩:=Dw.readsAll gn KX ds _ dk ha rv;exact⟨_,ReadsW.tuple ho hc hd hr⟩
 | .float _,_,_,x,_=>by cases x
 | .dict _,_,_,x,_=>by cases x
 | .bytearray _,_,_,x,_=>by cases x
 | .set _,_,_,x,_=>by cases x
 | .frozenset _,_,_,x,_=>by cases x
 | .obj _ _,_,_,x,_=>by cases x
theorem Dw.readsAll(gn:vF P w H h)(KX:K.In h):∀(ds:ab oK)(vs:ab V)(us:ab aA),tY K H vs ds->Vals vs us->∃as,ReadsAllW R cl h us ds as
 |[],_,_,x,r=>by cases x;cases r;exact⟨_,ReadsAllW.nil⟩
 |d::ds,_,_,x,r=>by
  cases x with
  |cons h1 h2=>
   cases r with
   |cons r1 r2=>obtain⟨as,q1⟩:=Dw.reads gn KX d _ _ h1 r1;obtain⟨bs,q2⟩:=Dw.readsAll gn KX ds _ _ h2 r2;exact⟨_,ReadsAllW.cons q1 q2⟩
end
end
mutual
def OF:oK->Bool
 | .none=>true
 | .bool _=>true
 | .int _=>true
 | .str _=>true
 | .bytes _=>true
 | .list xs=>CB xs
 | .tuple xs=>CB xs
 |_=>false
def CB:ab oK->Bool
 |[]=>true
 |x::r=>OF x&&CB r
end
theorem Kv{α:Type}{f:α->oK}(h:∀a,OF (f a)=true):∀l:ab α,CB (l.map f)=true
 |[]=>rfl
 |x::r=>by show(OF (f x)&&CB (r.map f))=true;rw[h x,Kv h r]<;>rfl
theorem va:∀(c:Codec)(a:c.denote),OF (c.enc a)=true
 | .unit,_=>rfl
 | .bool,_=>rfl
 | .int _ _,_=>rfl
 | .nat _ _,_=>rfl
 | .u8,_=>rfl
 | .bytes _ _,_=>rfl
 | .text _ _ _ _,_=>rfl
 | .list _ _ c,a=>Kv (fun x=>va c x) a
 | .pair c d,a=>by show(OF (c.enc a.1)&&(OF (d.enc a.2)&&true))=true;rw[va c a.1,va d a.2]<;>rfl
 | .triple c d e,a=>by show(OF (c.enc a.1)&&(OF (d.enc a.2.1)&&(OF (e.enc a.2.2)&&true)))=true;rw[va c a.1,va d a.2.1,va e a.2.2]<;>rfl
 | .option c,none=>rfl
 | .option c,some x=>va c x
theorem Hb:∀(cs:ab Codec)(a:uv cs),CB (p6 cs a)=true
 |[],_=>rfl
 |c::cs,a=>by show(OF (c.enc a.1)&&CB (p6 cs a.2))=true;rw[va c a.1,Hb cs a.2]<;>rfl
theorem xq:∀{xs:ab oK}{d:oK},d∈xs->d.weight<=uu xs
 |[],d,h=>bF h (by simp)
 |x::r,d,h=>by
  show d.weight<=x.weight+1+uu r;rcases aF.mp h with e|m;·rw[e];omega
  ·have z:=xq m;omega
def toV:aA->V
 | .none=>.iG
 | .bool b=>.bl b
 | .int i _=>.int i
 | .str x _=>.str x
 | .bytes b _=>.JY b
 | .ref a=>.ref a
 |_=>.iG
def QI(A:ab Addr):aA->Prop
 | .none=>True
 | .bool _=>True
 | .int _ _=>True
 | .str _ _=>True
 | .bytes _ _=>True
 | .ref a=>a∈A
 |_=>False
theorem QI.mono(h:∀a∈A,a∈B):∀{u:aA},QI A u->QI B u:=fun{u} x=>by
 cases u with
 |ref a=>exact h a x
 |none=>trivial
 |bool b=>trivial
 |int i t=>trivial
 |str s t=>trivial
 |bytes b t=>trivial
 |_=>exact fJ x
theorem RF(x:QI A u):RelV (toV u) u:=by
 cases u with
 |ref a=>rfl
 |none=>rfl
 |bool b=>rfl
 |int i t=>exact⟨t,rfl⟩
 |str s t=>exact⟨t,rfl⟩
 |bytes b t=>exact⟨t,rfl⟩
 |_=>exact fJ x
theorem rD:∀{vs:ab aA},(∀u∈vs,QI A u)->Vals (vs.map toV) vs
 |[],_=>.nil
 |u::r,h=>.cons (RF (h u (df ..))) (rD fun x hx=>h x (bY _ hx))
def tZ(h:Heap)(A:ab Addr)(a:Addr):Prop:=∃vs:ab aA,vs.length<=sizeLine/\(∀u∈vs,QI A u)/\(h.get? a=some {cls:=.type "list",data:=.seq vs.toArray}\/h.get? a=some {cls:=.type "tuple",data:=.seq vs.toArray})
theorem tZ.mono(k:∀a∈A,a∈B)(x:tZ h A a):tZ h B a:=by obtain⟨vs,h1,h2,h3⟩:=x;exact⟨vs,h1,fun u hu=>(h2 u hu).mono k,h3⟩
theorem qj:∀{vs:ab aA}{ds:ab oK},yJ P h vs ds->vs.length=ds.length
 |_,_,.nil=>rfl
 |_,_,.cons _ b=>by show _+1=_+1;rw[qj b]
theorem GK(x:Well P h v (.list ds)):∃(a:Addr)(vs:ab aA),v=.ref a/\h.get? a=some {cls:=.type "list",data:=.seq vs.toArray}/\yJ P h vs ds:=by
 cases x with
 |list ho tf=>exact⟨_,_,rfl,ho,tf⟩
theorem Dv(x:Well P h v (.tuple ds)):∃(a:Addr)(vs:ab aA),v=.ref a/\h.get? a=some {cls:=.type "tuple",data:=.seq vs.toArray}/\yJ P h vs ds:=by
 cases x with
 |tuple ho tf=>exact⟨_,_,rfl,ho,tf⟩
theorem GL(x:yJ P h us (d::ds)):∃(v:aA)(vs:ab aA),us=v::vs/\Well P h v d/\yJ P h vs ds:=by
 cases x with
 |cons a b=>exact⟨_,_,rfl,a,b⟩
theorem OR(h:n<=1048576):n<=sizeLine:=bZ h (by decide)
section
variable{P:Params}{h:Heap}
mutual
theorem S3:∀(d:oK)(v:aA),Well P h v d->OF d=true->d.weight<=1048576->∃A:ab Addr,QI A v/\∀a∈A,tZ h A a
 | .none,_,x,_,_=>by cases x;exact⟨[],trivial,fun a m=>bF m (by simp)⟩
 | .bool b,_,x,_,_=>by cases x;exact⟨[],trivial,fun a m=>bF m (by simp)⟩
 | .int i,_,x,_,_=>by cases x;exact⟨[],trivial,fun a m=>bF m (by simp)⟩
 | .str s,_,x,_,_=>by cases x;exact⟨[],trivial,fun a m=>bF m (by simp)⟩
 | .bytes b,_,x,_,_=>by cases x;exact⟨[],trivial,fun a m=>bF m (by simp)⟩
 | .list ds,_,x,p,z=>by
  obtain⟨a,vs,rfl,ho,tf⟩:=GK x;have z2:uu ds<=1048576:=z;obtain⟨A,h1,h2⟩:=Ad ds _ tf p fun d hd=>bZ (xq hd) z2;have k:∀b∈A,b∈a::A:=fun b hb=>bY _ hb;refine⟨a::A,df ..,fun b hb=>?_⟩;rcases aF.mp hb with e|m;·rw[e];exact⟨vs,OR (by rw[qj tf];exact bZ (CY ds) z2),fun u hu=>(h1 u hu).mono k,.inl ho⟩
  ·exact(h2 b m).mono k
 | .tuple ds,_,x,p,z=>by
  obtain⟨a,vs,rfl,ho,tf⟩:=Dv x;have z2:uu ds<=1048576:=z;obtain⟨A,h1,h2⟩:=Ad ds _ tf p fun d hd=>bZ (xq hd) z2;have k:∀b∈A,b∈a::A:=fun b hb=>bY _ hb;refine⟨a::A,df ..,fun b hb=>?_⟩;rcases aF.mp hb with e|m;·rw[e];exact⟨vs,OR (by rw[qj tf];exact bZ (CY ds) z2),fun u hu=>(h1 u hu).mono k,.inr ho⟩
  ·exact(h2 b m).mono k
 | .float _,_,_,p,_=>dX (show false=true from p)
 | .dict _,_,_,p,_=>dX (show false=true from p)
 | .bytearray _,_,_,p,_=>dX (show false=true from p)
 | .set _,_,_,p,_=>dX (show false=true from p)
 | .frozenset _,_,_,p,_=>dX (show false=true from p)
 | .obj _ _,_,_,p,_=>dX (show false=true from p)
theorem Ad:∀(ds:ab oK)(vs:ab aA),yJ P h vs ds->CB ds=true->(∀d∈ds,d.weight<=1048576)->∃A:ab Addr,(∀u∈vs,QI A u)/\∀a∈A,tZ h A a
 |[],_,x,_,_=>by cases x;exact⟨[],fun u m=>bF m (by simp),fun a m=>bF m (by simp)⟩
 |d::ds,_,x,p,z=>by
  obtain⟨v,vs,rfl,x1,x2⟩:=GL x;have q:OF d=true/\CB ds=true:=Bool.and_eq_true_iff.mp p;obtain⟨A,a1,a2⟩:=S3 d v x1 q.1 (z d (df ..));obtain⟨B,b1,b2⟩:=Ad ds vs x2 q.2 fun e he=>z e (bY _ he);have kA:∀b∈A,b∈A++B:=fun b hb=>a_.mpr (.inl hb);have kB:∀b∈B,b∈A++B:=fun b hb=>a_.mpr (.inr hb);refine⟨A++B,fun u hu=>?_,fun b hb=>?_⟩
  ·rcases aF.mp hu with e|m;·rw[e];exact a1.mono kA
   ·exact(b1 u m).mono kB
  ·rcases a_.mp hb with m|m;·exact(a2 b m).mono kA
   ·exact(b2 b m).mono kB
end
end
def UL(o:Obj):aY HO:=match o.data with
 | .seq vs _=>if(o.cls==lV "list")=true then some (.qX o (.lst (vs.toList.map toV)))else some (.qX o (.tup (vs.toList.map toV)))
 |_=>none
def tF(K:ag)(h:Heap)(A:ab Addr):Hp:=fun b=>if b∈A then(if(K.lookup b).isNone=true then(h.get? b).bind UL else none)else none
def LQ(H:Hp):Prop:=∀b,H b=none\/∃o u,H b=some (.qX o u)
theorem Lb(vs:ab aA):UL {cls:=.type "list",data:=.seq vs.toArray}=some (.qX {cls:=.type "list",data:=.seq vs.toArray} (.lst (vs.map toV))):=by show(if(lV "list"==lV "list")=true then some (HO.qX {cls:=.type "list",data:=.seq vs.toArray} (.lst (vs.toArray.toList.map toV)))else some (HO.qX {cls:=.type "list",data:=.seq vs.toArray} (.tup (vs.toArray.toList.map toV))))=_;rw[aw (beq_self_eq_true _)]
theorem La(vs:ab aA):UL {cls:=.type "tuple",data:=.seq vs.toArray}=some (.qX {cls:=.type "tuple",data:=.seq vs.toArray} (.tup (vs.map toV))):=by show(if(lV "tuple"==lV "list")=true then some (HO.qX {cls:=.type "tuple",data:=.seq vs.toArray} (.lst (vs.toArray.toList.map toV)))else some (HO.qX {cls:=.type "tuple",data:=.seq vs.toArray} (.tup (vs.toArray.toList.map toV))))=_;rw[ao (by decide)]
section
variable{P:bT}{w:cU}{K:ag}{h:Heap}{A:ab Addr}
theorem Dq(hb:b∈A)(hk:K.lookup b=none)(e:h.get? b=some o):tF K h A b=UL o:=by unfold tF;rw[aw hb,hk,aw (show(none:aY Obj).isNone=true from rfl),e]<;>rfl
theorem Uw(q:tF K h A b=some u):b∈A/\K.lookup b=none:=by
 unfold tF at q;by_cases hb:b∈A
 ·rw[aw hb]at q;cases hk:K.lookup b with
  |none=>exact⟨hb,rfl⟩
  |some o=>rw[hk,ao (by simp)]at q;cases q
 ·rw[ao hb]at q;cases q
theorem Dn(ar:∀a∈A,tZ h A a)(q:tF K h A b=some u):K.lookup b=none/\∃vs:ab aA,vs.length<=sizeLine/\(∀u∈vs,QI A u)/\((h.get? b=some {cls:=.type "list",data:=.seq vs.toArray}/\u=.qX {cls:=.type "list",data:=.seq vs.toArray} (.lst (vs.map toV)))\/(h.get? b=some {cls:=.type "tuple",data:=.seq vs.toArray}/\u=.qX {cls:=.type "tuple",data:=.seq vs.toArray} (.tup (vs.map toV)))):=by
 obtain⟨hb,hk⟩:=Uw q;obtain⟨vs,h1,h2,h3⟩:=ar b hb;refine⟨hk,vs,h1,h2,?_⟩;rcases h3 with e|e;·rw[Dq hb hk e,Lb]at q;exact .inl ⟨e,(bE q).symm⟩
 ·rw[Dq hb hk e,La]at q;exact .inr ⟨e,(bE q).symm⟩
theorem QF(ar:∀a∈A,tZ h A a):LQ (tF K h A):=fun b=>by
 cases q:tF K h A b with
 |none=>exact .inl rfl
 |some u=>
  obtain⟨_,vs,_,_,⟨_,e⟩|⟨_,e⟩⟩:=Dn ar q;·exact .inr ⟨_,_,by rw[e]⟩
  ·exact .inr ⟨_,_,by rw[e]⟩
theorem Va(ar:∀a∈A,tZ h A a):vF P w (tF K h A) h:=fun b u q=>by
 obtain⟨_,vs,h1,h2,⟨e,rfl⟩|⟨e,rfl⟩⟩:=Dn ar q;·exact⟨e,by rw[ae];exact h1,vs,_,rD h2,e⟩
 ·exact⟨e,by rw[ae];exact h1,vs,rD h2,_,e,rfl,_,rfl⟩
theorem C'{vs us:ab aA}(e:(some {cls:=c,data:=.seq vs.toArray}:aY Obj)=some {cls:=c',data:=.seq us.toArray}):c=c'/\vs=us:=by have e1:=bE e;have e2:c=c':=gh Obj.cls e1;have e3:Data.seq vs.toArray=Data.seq us.toArray:=gh Obj.data e1;injection e3 with e4;refine⟨e2,?_⟩;have e5:=gh Array.toList e4;simpa using e5
theorem ac2(KX:K.In h)(ar:∀a∈A,tZ h A a){vs:ab aA}(ha:a∈A)(e:h.get? a=some {cls:=.type "list",data:=.seq vs.toArray}):(∀u∈vs,QI A u)/\cN K (tF K h A) a (vs.map toV):=by
 obtain⟨us,h1,h2,h3⟩:=ar a ha;have hu:us=vs:=by
  rcases h3 with q|q;·rw[e]at q;exact(C' q).2.symm
  ·rw[e]at q;exact bF (Value.type.inj (C' q).1) (by decide)
 subst hu;refine⟨h2,?_⟩;cases hk:K.lookup a with
 |none=>exact .inl (.inr ⟨_,by rw[Dq ha hk e,Lb]⟩)
 |some o=>have e2:=KX a o hk;rw[e]at e2;obtain rfl:=bE e2;exact .inr ⟨_,us.toArray,_,hk,rfl,rfl,rfl,by rw[bz];exact h1,by simpa using rD h2⟩
theorem ac1(KX:K.In h)(ar:∀a∈A,tZ h A a){vs:ab aA}(ha:a∈A)(e:h.get? a=some {cls:=.type "tuple",data:=.seq vs.toArray}):(∀u∈vs,QI A u)/\q_ K (tF K h A) a (vs.map toV):=by
 obtain⟨us,h1,h2,h3⟩:=ar a ha;have hu:us=vs:=by
  rcases h3 with q|q;·rw[e]at q;exact bF (Value.type.inj (C' q).1) (by decide)
  ·rw[e]at q;exact(C' q).2.symm
 subst hu;refine⟨h2,?_⟩;cases hk:K.lookup a with
 |none=>exact .inl (.inr ⟨_,by rw[Dq ha hk e,La]⟩)
 |some o=>have e2:=KX a o hk;rw[e]at e2;obtain rfl:=bE e2;exact .inr ⟨_,us.toArray,_,hk,rfl,rfl,by rw[bz];exact h1,by simpa using rD h2⟩
mutual
theorem XY{Pm:Params}(KX:K.In h)(ar:∀a∈A,tZ h A a):∀(d:oK)(v:aA),Well Pm h v d->OF d=true->QI A v->Dw K (tF K h A) (toV v) d
 | .none,_,x,_,_=>by cases x;exact .iG
 | .bool b,_,x,_,_=>by cases x;exact .bl b
 | .int i,_,x,_,_=>by cases x;exact .int i
 | .str s,_,x,_,_=>by cases x;exact .str s
 | .bytes b,_,x,_,_=>by cases x;have z:=Dw.JY (K:=K) (H:=tF K h A) b.toArray;exact z
 | .list ds,_,x,p,hu=>by obtain⟨a,vs,rfl,ho,tf⟩:=GK x;obtain⟨h2,hs⟩:=ac2 KX ar hu ho;exact .lst hs (Jm KX ar ds _ tf p h2)
 | .tuple ds,_,x,p,hu=>by obtain⟨a,vs,rfl,ho,tf⟩:=Dv x;obtain⟨h2,hs⟩:=ac1 KX ar hu ho;exact .tup hs (Jm KX ar ds _ tf p h2)
 | .float _,_,_,p,_=>dX (show false=true from p)
 | .dict _,_,_,p,_=>dX (show false=true from p)
 | .bytearray _,_,_,p,_=>dX (show false=true from p)
 | .set _,_,_,p,_=>dX (show false=true from p)
 | .frozenset _,_,_,p,_=>dX (show false=true from p)
 | .obj _ _,_,_,p,_=>dX (show false=true from p)
theorem Jm{Pm:Params}(KX:K.In h)(ar:∀a∈A,tZ h A a):∀(ds:ab oK)(vs:ab aA),yJ Pm h vs ds->CB ds=true->(∀u∈vs,QI A u)->tY K (tF K h A) (vs.map toV) ds
 |[],_,x,_,_=>by cases x;exact .nil
 |d::ds,_,x,p,hu=>by obtain⟨v,vs,rfl,x1,x2⟩:=GL x;have q:OF d=true/\CB ds=true:=Bool.and_eq_true_iff.mp p;exact .cons (XY KX ar d v x1 q.1 (hu _ (df ..))) (Jm KX ar ds vs x2 q.2 fun u m=>hu u (bY _ m))
end
end
theorem PJ{P:bT}{w:cU}{K:ag}{mg mb:Str->aY aA}{CX:Ti}{k:Nat}{fa:Addr}{fd:tN}{ps:ab Str}{sp:Sp}{s₁:aS}{vals:ab aA}{ds:ab oK}{R:PySem.W.WRecords}{cl:Str->aY Addr}{d0:oK}(KX:K.In s₁.heap)(UN:s₁.heap.Ns c4 mg)(hb:s₁.heap.Ns builtinsNs mb)(hbb:∀x:Str,x≠"__name__"->mb x=fN x)(acn:s₁.heap.NoLimit)(hg:s₁.gens=#[])(JV:yJ w.params s₁.heap vals ds)(pP:CB ds=true)(hwt:∀d∈ds,d.weight<=1048576)(hr:kO k callerA)(F:∀base:Heap,K.In base->base.Ns c4 mg->cZ P w K mg base CX k fa fd ps sp)(aay:∀(s:aS)(us:ab aA),us.length=ps.length->BindsTo s fd ⟨us,[]⟩ (ps.zip us))(hlen:ds.length=ps.length)(Tq:∀(H:Hp)(xs:ab V),LQ H->tY K H xs ds->sp xs H (fun v H'=>Dw K H' v d0) fun _ _ _=>False)(hCX:∀H e s',CX [] H s₁ (fun _ _ _=>False) e s'->False):ur (bM P w) callerA (.call (.ref fa) ⟨vals,[]⟩) (fun r s'=>∃u as,r=.ok (.ret u)/\ReadsW R cl s'.heap u d0 as/\OldK s₁.heap s'.heap/\s'.os=s₁.os/\GI s'.gens) s₁:=by
 obtain⟨A,ho,ar⟩:=Ad ds vals JV pP hwt;have hO:LQ (tF K s₁.heap A):=QF ar;have gn:vF P w (tF K s₁.heap A) s₁.heap:=Va ar;have hS:=Jm KX ar ds vals JV pP ho;have hV:=rD ho;have hK:∀b u,tF K s₁.heap A b=some u->K.lookup b=none:=fun b u q=>(Dn ar q).1;have Yx:∀{b:Addr}{o:Obj}{es:i5 DictEntry}{ep:Nat},s₁.heap.get? b=some o->o.data=.dict es ep->tF K s₁.heap A b=none:=fun{b o es ep} e d=>by
  cases q:tF K s₁.heap A b with
  |none=>rfl
  |some u=>
   obtain⟨_,vs,_,_,⟨e2,_⟩|⟨e2,_⟩⟩:=Dn ar q;·rw[e2]at e;cases e;have d':Data.seq vs.toArray _=Data.dict es ep:=d;cases d'
   ·rw[e2]at e;cases e;have d':Data.seq vs.toArray _=Data.dict es ep:=d;cases d'
 generalize tF K s₁.heap A=H at hO gn hS hK Yx;have Pf:∀{b:Addr}{o:Obj},s₁.heap.get? b=some o->H b=none->(Ji s₁.heap H).get? b=some o:=fun e n=>Sl e n;have nsK:∀{b:Addr}{m:Str->aY aA},s₁.heap.Ns b m->(Ji s₁.heap H).Ns b m:=fun{b m}⟨o,es,ep,e,d,r⟩=>⟨o,es,ep,Pf e (Yx e d),d,r⟩;have nK:∀b o,K.lookup b=some o->H b=none:=fun b o e=>by
  cases q:H b with
  |none=>rfl
  |some u=>rw[hK b u q]at e;cases e
 have hKb:K.In (Ji s₁.heap H):=fun b o e=>Pf (KX b o e) (nK b o e);have hM:Mod K mg (Ji s₁.heap H):=⟨hKb,nsK UN,⟨mb,nsK hb,hbb⟩,let⟨mc,h1,h2⟩:=acn;⟨mc,nsK h1,h2⟩⟩;have e0:N6 P w K mg (Ji s₁.heap H) callerA [] s₁ H:=⟨rfl,hM,fun b o e=>Uv e,C6 (Qm _ _),trivial,fun b hb=>bF (show b∈([]:ab Addr)from hb) (by simp),gn,.of_eq hg⟩;have hl:vals.length=ps.length:=by rw[qj JV];exact hlen
 refine r_ ((F _ hKb (nsK UN)).run callerA [] s₁ H ⟨vals,[]⟩ vals (vals.map toV) _ _ hr e0 (aay s₁ vals hl) hV (Tq H _ hO hS)) fun r s' x=>?_;cases r with
 |error e=>exact(hCX H e s' x).elim
 |ok fl=>
  cases fl with
  |next=>exact fJ x
  |brk=>exact fJ x
  |cont=>exact fJ x
  |ret u=>
   obtain⟨v,H',os,bare,un,aak,r',q⟩:=x;have kept:∀b o,s₁.heap.get? b=some o->s'.heap.get? b=some o:=fun b o e=>by
    cases q2:H b with
    |none=>exact un.keep b o e q2 (by intro z;exact bF (show b∈([]:ab Addr)from z) (by simp)) (by simp)
    |some u2=>
     rcases hO b with z|⟨ob,u3,z⟩;·rw[q2]at z;cases z
     ·have z2:=un.EV b ob _ z;obtain⟨e1,_⟩:=gn b _ z;obtain⟨e2,_⟩:=aak b _ z2;rw[e]at e1;cases e1;exact e2
   have KX':K.In s'.heap:=fun b o e=>kept b o (KX b o e);obtain⟨as,hrd⟩:=Dw.reads (R:=R) (cl:=cl) aak KX' d0 v u q r';exact⟨u,as,rfl,hrd,OldK.of_keep kept,os,bare⟩
theorem Ey(h:WData.layableAll ds=true):∀d∈ds,d.weight<=1048576:=fun d hd=>(PySem.W.layableW_iff.mp (eS.mp h d hd)).2.2
theorem EX:∀(cs:ab Codec)(a:uv cs),(p6 cs a).length=cs.length
 |[],_=>rfl
 |c::cs,a=>by show(p6 cs a.2).length+1=cs.length+1;rw[EX cs a.2]
theorem Pp{r:OpenSpec}{k:Nat}{q:bT}{loose:ab Str}{XP:(Str->aY aA)->Heap->Prop}{YP:cU->Heap->Prop}{d:DefRec}{K:Params->ag}{CX:cU->Ti}{ps:ab Str}{sp:cU->Sp}(R7:r.wellSaid=true)(hdf:d.params.defaults=[])(hlen:r.args.length=ps.length)(hr:kO k callerA)(hY:∀(w:cU)(h:Heap),YP w h->(K w.params).In h)(F:∀(w:cU)(mg:Str->aY aA)(fa:Addr)(h:Heap),YP w h->(K w.params).In h->h.Ns c4 mg->mg d.name=some (.ref fa)->∃fd:tN,(∀(s:aS)(us:ab aA),us.length=ps.length->BindsTo s fd ⟨us,[]⟩ (ps.zip us))/\∀base:Heap,(K w.params).In base->base.Ns c4 mg->cZ r.prog w (K w.params) mg base (CX w) k fa fd ps (sp w))(Tq:∀(w:cU)(H:Hp)(xs:ab V)(a:uv r.args),LQ H->Codec.withinAll r.args a=true->CZ r.args r.asked a=true->tY (K w.params) H xs (p6 r.args a)->sp w xs H (fun v H'=>Dw (K w.params) H' v (r.ret.enc (CZ r.args r.f a))) fun _ _ _=>False)(hCX:∀(w:cU)(H:Hp)(s:aS)(e:aA)(s':aS),CX w [] H s (fun _ _ _=>False) e s'->False):PySem.W.WalkOS q loose XP YP r d [] (fun f vs=>se f vs):=by
 intro w G8 s₁ mg mb G Y fa o pm cd doc dV kV ho hd UQ hD hmg hg args vals as UJ Xo hrd JV hlo;obtain⟨a,e1,e2⟩:=PySem.W.os_pre_some UJ;obtain⟨e3,YH⟩:=Codec.encAll_of_decAll r.args args a e1;subst e3;have KX:=hY w _ Y;obtain⟨fd,hb,hF⟩:=F w mg fa _ Y KX G.T.g hmg;refine PySem.W.enter_call (r_ (PJ (R:=[]) (cl:=classAt G8.heap) (d0:=r.ret.enc (CZ r.args r.f a)) KX G.T.g G.T.b G.T.builtins G.T.nolimit hg JV (Hb _ _) (Ey Xo) hr hF hb (by rw[EX];exact hlen)
  (fun H xs hO hS=>Tq w H xs a hO YH e2 hS) fun H e s'=>hCX w H s₁ e s') fun r' s' hq=>?_)
 obtain⟨u,as',rfl,h1,h2,h3,h4⟩:=hq;exact⟨.inl ⟨u,_,as',rfl,fun _=>rfl,h1,(OpenSpec.post_iff R7 YH _ _).mpr rfl,fun z=>dX (show false=true from z)⟩,h2,h3,h4⟩
theorem Mi{r:OpenSpec}{k:Nat}{q:bT}{loose:ab Str}{XP:(Str->aY aA)->Heap->Prop}{YP:cU->Heap->Prop}{d:DefRec}{K:Params->ag}{CX:Ti}{ps:ab Str}{sp:ag->Sp}(R7:r.wellSaid=true)(hdf:d.params.defaults=[])(hlen:r.args.length=ps.length)(hr:kO k callerA)(hY:∀(w:cU)(h:Heap),YP w h->(K w.params).In h)(F:∀(w:cU)(mg:Str->aY aA)(fa:Addr)(h:Heap),YP w h->(K w.params).In h->h.Ns c4 mg->mg d.name=some (.ref fa)->∃fd:tN,(∀(s:aS)(us:ab aA),us.length=ps.length->BindsTo s fd ⟨us,[]⟩ (ps.zip us))/\∀base:Heap,(K w.params).In base->base.Ns c4 mg->cZ r.prog w (K w.params) mg base CX k fa fd ps (sp (K w.params)))(Tq:∀(K:ag)(H:Hp)(xs:ab V)(a:uv r.args),LQ H->Codec.withinAll r.args a=true->CZ r.args r.asked a=true->tY K H xs (p6 r.args a)->sp K xs H (fun v H'=>Dw K H' v (r.ret.enc (CZ r.args r.f a))) fun _ _ _=>False)(hCX:∀(H:Hp)(s:aS)(e:aA)(s':aS),CX [] H s (fun _ _ _=>False) e s'->False):PySem.W.WalkOS q loose XP YP r d [] (fun f vs=>se f vs):=Pp (K:=K) (CX:=fun _=>CX) (sp:=fun w=>sp (K w.params)) R7 hdf hlen hr hY F (fun w H xs a h1 h2 h3 h4=>Tq (K w.params) H xs a h1 h2 h3 h4) fun _ H s e s'=>hCX H s e s'
end L2
namespace L2
open PySem PySem.Spec PyProof.Rows
section
variable{K:ag}{h:Heap}{mg:Str->aY aA}{x m qual:Str}{st:Stmt}{ps:ab Str}{f C:Addr}{oc kV dc pm cd ct:aA}{od an:aY Addr}{sl:i5 (aY aA)}
theorem V6(X:K.In h)(G:h.Ns c4 mg)(hb:∀(kV doc pm:aA)(an:aY Addr)(fR ct:aA)(us:ab aA),us.length=ps.length->bindArgs (fW x qual (mD st) (kR st) (aU st) .none kV doc pm an fR ct) ⟨us,[]⟩=pure (ps.zip us))(a:ie K c4 x=some (some (.ref f)))(l:K.lookup f=some ⟨oc,od,.func (fW x qual (mD st) (kR st) (aU st) .none kV dc pm an cd ct),sl⟩)(c:j_ K cd qual=true)(k:fi K (.ref f)=true):d_ K mg x qual st ps:=⟨f,_,yn l c k,(yn l c k).binds hb,rg X G a,k⟩
theorem X7(hb:∀(kV doc pm:aA)(an:aY Addr)(fR ct:aA)(us:ab aA),us.length=ps.length->bindArgs (fW m qual (mD st) (kR st) (aU st) .none kV doc pm an fR ct) ⟨us,[]⟩=pure (ps.zip us))(a:fj K (.ref C) m=some (some (.ref f)))(i:tL K (.ref f)=true)(l:K.lookup f=some ⟨oc,od,.func (fW m qual (mD st) (kR st) (aU st) .none kV dc pm an cd ct),sl⟩)(c:j_ K cd qual=true)(k:fi K (.ref f)=true):fV K C m qual st ps:=⟨f,_,yn l c k,(yn l c k).binds hb,a,i,k⟩
theorem X6(X:K.In h)(G:h.Ns c4 mg)(hb:∀(kV doc pm:aA)(an:aY Addr)(fR ct:aA)(us:ab aA),us.length=ps.length->bindArgs (fW "__init__" qual (mD st) (kR st) (aU st) .none kV doc pm an fR ct) ⟨us,[]⟩=pure (ps.zip us))(aC:ie K c4 x=some (some (.ref C)))(mk:CW K C=true)(kc:fi K (.ref C)=true)(a:fj K (.ref C) "__init__"=some (some (.ref f)))(i:tL K (.ref f)=true)(l:K.lookup f=some ⟨oc,od,.func (fW "__init__" qual (mD st) (kR st) (aU st) .none kV dc pm an cd ct),sl⟩)(c:j_ K cd qual=true)(k:fi K (.ref f)=true):Cd K mg C x qual st ps:=⟨f,_,yn l c k,(yn l c k).binds hb,⟨mk,a,i,kc⟩,rg X G aC⟩
theorem int_is(X:K.In h)(G:h.Ns c4 mg)(a:ie K c4 x=some (some (.int i t))):∃t,mg x=some (.int i t):=⟨t,rg X G a⟩
theorem nQ(X:K.In h)(G:h.Ns c4 mg)(a:ie K c4 x=some none):mg x=none:=PySem.W.mg_none_of X G a
end
theorem bl1{p:ab aA->Prop}(h:∀a,p [a])(us:ab aA)(e:us.length=1):p us:=by rcases us with _|⟨a,_|⟨x,r⟩⟩<;>first|exact h _|(simp at e;done)|(simp at e;omega)
theorem bl2{p:ab aA->Prop}(h:∀a b,p [a,b])(us:ab aA)(e:us.length=2):p us:=by rcases us with _|⟨a,_|⟨b,_|⟨x,r⟩⟩⟩<;>first|exact h _ _|(simp at e;done)|(simp at e;omega)
theorem bl3{p:ab aA->Prop}(h:∀a b c,p [a,b,c])(us:ab aA)(e:us.length=3):p us:=by rcases us with _|⟨a,_|⟨b,_|⟨c,_|⟨x,r⟩⟩⟩⟩<;>first|exact h _ _ _|(simp at e;done)|(simp at e;omega)
theorem bl4{p:ab aA->Prop}(h:∀a b c d,p [a,b,c,d])(us:ab aA)(e:us.length=4):p us:=by rcases us with _|⟨a,_|⟨b,_|⟨c,_|⟨d,_|⟨x,r⟩⟩⟩⟩⟩<;>first|exact h _ _ _ _|(simp at e;done)|(simp at e;omega)
end L2
namespace Nw
open PySem PySem.Spec PyProof.Rows L2
theorem TH{K:ag}(X:K.In h)(G:h.Ns c4 mg)(a:ie K c4 "LENGTHS"=some (some (.ref la)))(l:K.lookup la=some ⟨.type "tuple",od,.seq #[.int 3 t0,.int 3 t1,.int 2 t2,.int 5 t3,.int 5 t4,.int 6 t5,.int 1 t6,.int 1 t7,.int 1 t8,.int 1 t9,.int 1 Ib,.int 1 JT,.int 1 Wk,.int 3 t13,.int 2 t14,.int 1 t15,.int 7 t16,.int 0 t17,.int 0 t18,.int 0 t19] n,sl⟩):Vf K mg la:=⟨rg X G a,fun _=>.inr ⟨_,_,n,l,rfl,rfl,(by show 20<=sizeLine;decide),.cons ⟨t0,rfl⟩ (.cons ⟨t1,rfl⟩ (.cons ⟨t2,rfl⟩ (.cons ⟨t3,rfl⟩ (.cons ⟨t4,rfl⟩ (.cons ⟨t5,rfl⟩ (.cons ⟨t6,rfl⟩ (.cons ⟨t7,rfl⟩ (.cons ⟨t8,rfl⟩ (.cons ⟨t9,rfl⟩ (.cons ⟨Ib,rfl⟩ (.cons ⟨JT,rfl⟩ (.cons ⟨Wk,rfl⟩ (.cons ⟨t13,rfl⟩ (.cons ⟨t14,rfl⟩ (.cons ⟨t15,rfl⟩ (.cons ⟨t16,rfl⟩ (.cons ⟨t17,rfl⟩ (.cons ⟨t18,rfl⟩ (.cons ⟨t19,rfl⟩ (.nil))))))))))))))))))))⟩⟩
theorem XO{K:ag}(X:K.In h)(G:h.Ns c4 mg)(hfa:mg "answers"=some (.ref fa)){oc kV dc pm cd ct:aA}(aG:ie K c4 "Grid"=some (some (.ref g)))(aR:ie K c4 "Ground"=some (some (.ref r)))(aB:ie K c4 "Board"=some (some (.ref b)))(aT:ie K c4 "Tree"=some (some (.ref t)))(aV:ie K c4 "Wave"=some (some (.ref v)))(a:ie K c4 "answers"=some (some (.ref f)))(l:K.lookup f=some ⟨oc,od,.func (fW "answers" "answers" (mD ni) (kR ni) (aU ni) .none kV dc pm an cd ct),sl⟩)(c:j_ K cd "answers"=true)(k:fi K (.ref f)=true)(T:Txt K mg ⟨g,r,b,t,v⟩)(S:Defs K mg ⟨g,r,b,t,v⟩)(TL:Vf K mg la):∃fd:tN,(∀(s:aS)(us:ab aA),us.length=(["calls"]:ab Str).length->BindsTo s fd ⟨us,[]⟩ ((["calls"]:ab Str).zip us))/\∀base:Heap,K.In base->base.Ns c4 mg->cZ P w K mg base gZ 13 fa fd ["calls"] (vT K):=by have e:=hfa.symm.trans (rg X G a);cases e;exact⟨_,fun s us hu=>match us,hu with|[_],_=>.of_eq rfl,fun base _ _=>Ye T TL S (yn (st:=ni) l c k)⟩
end Nw
namespace PySem.W.Fast
def tw13571137000593737958:=0
def tw3415138699997376998:=0
def tw1684735918449465116:=0
def tw15441235115137458867:=0
def tw9447162764992309637:=0
def tw17165949410113740091:=0
def tw15774302645299126061:=0
def tw18014988913901911613:=0
def tw16326599351725760285:=0
def tw7512163043603744016:=0
def tw13092681241930327077:=0
def tw1099772593830337905:=0
def tw9307276511396090649:=0
def tw9265727627976394324:=0
def tw1428341120953490696:=0
def tw4934281598102232554:=0
def tw11024369411366916106:=0
def tw16726931261240966352:=0
def tw3645291640411150864:=0
def tw147809118348470696:=0
def tw16190173098731690082:=0
def tw5583473069933747074:=0
def tw6941849547935723135:=0
def tw13545507818972072895:=0
def tw12022222931782206741:=0
def tw1778787111230119035:=0
def tw12305741494301677783:=0
def tw2373169879377833607:=0
def tw15280059136285143571:=0
def tw5500772526165468392:=0
def tw2633278308216387959:=0
def tw6266243116972620020:=0
def tw16302849783216009125:=0
def tw18001305938531220784:=0
def tw5716402633336831189:=0
def tw11901680253666369484:=0
def tw1832768715170487975:=0
def tw11641037730692546965:=0
def tw4344624281685445073:=0
def tw5218342822579919114:=0
def tw18180520628644440269:=0
def tw15239579618278925523:=0
def tw3677613167670544724:=0
def tw6079230794167651315:=0
def tw5154756560432752872:=0
def tw10545417331199224896:=0
def tw10055534829163465337:=0
def tw3265013644974926523:=0
def tw5807035811297577236:=0
def tw15240247772273033151:=0
def tw4610873836171697105:=0
def tw16346051384677694556:=0
def tw15128419909589597260:=0
def tw17025018551761709834:=0
def tw1524703432064872827:=0
def tw14209916937393049596:=0
def tw17971474311401907163:=0
def tw13542059372622038453:=0
def tw11082386278470878012:=0
def tw16261666772695021370:=0
def tw387258590716714961:=0
def tw7930586046767475077:=0
def tw3153767065798305069:=0
def tw16680290328381251750:=0
def tw2284117862707668804:=0
def tw11408847581436512160:=0
def tw2217263206827363868:=0
def tw1094851877647741881:=0
def tw17131363077860468935:=0
def tw3136686548612507786:=0
def tw865316295555908783:=0
def tw14125497321870163676:=0
def tw15816538813115259933:=0
def tw8152478400556619721:=0
def tw11553195830056903841:=0
def tw8043810769663499548:=0
def tw4865098189331510459:=0
def tw4951509742713382508:=0
def tw14796631371664640276:=0
def tw11182530599769422223:=0
def tw3686565042127349467:=0
def tw18121738615806569001:=0
def tw18335368339308793609:=0
def tw1944671185745295291:=0
def tw13518131325261734646:=0
def tw11887411794641898437:=0
def tw2501933508703672003:=0
def tw5568551803295966119:=0
def tw6657361885679485565:=0
def tw13046539565610461599:=0
def tw9737017673343733036:=0
def tw16317674309376804319:=0
def tw17192312203968617308:=0
def tw7617659667544930855:=0
def tw4718775281338932162:=0
def tw6429926329408679241:=0
def tw16805185547303835705:=0
def tw13080593174993176600:=0
def tw16572131008757729481:=0
def tw17461962665682925451:=0
def tw3717725478344082406:=0
def tw11639285944345852654:=0
def tw14237656511363777172:=0
def tw5786687731369719734:=0
def tw12147272824733627615:=0
def tw13837671767312193218:=0
def tw10210881123690772952:=0
def tw8732248061284930850:=0
def tw5425211569133279511:=0
def tw8978852242836953903:=0
def tw13220933513957756007:=0
def tw8877554394998351265:=0
def tw17131124667417277631:=0
def tw6460385115784784101:=0
def tw12138374923620422237:=0
def tw9117265245598726887:=0
def tw11012361365643841068:=0
def tw6331945973417144104:=0
def tw17706878152356117189:=0
def tw9087863097814237479:=0
def tw13413897628033539863:=0
def tw12994218372016519213:=0
def tw1912309070737935203:=0
def tw8439406681969543197:=0
def tw4542668729686791572:=0
def tw4241561698386394128:=0
def tw4670451728321547916:=0
def tw4626757234943544943:=0
def tw7578823573535827169:=0
def tw10504448254463951566:=0
def tw2961975737396893400:=0
def tw11925621228973384812:=0
def tw7569970469180939076:=0
def tw6221894620085729913:=0
def tw10889702304393017907:=0
def tw11463744168764766459:=0
def tw16749258567102650883:=0
def tw3326776336930446692:=0
def tw12893449673114345949:=0
def tw17031731744560323467:=0
def tw4214879266066274635:=0
def tw13314899372905260406:=0
def tw3095616922893596747:=0
def tw9666167024578632288:=0
def tw1122510396672789636:=0
def tw17562985387020500740:=0
def tw11642296237231764356:=0
def tw6165637133402680308:=0
def tw8962474465991288674:=0
def tw4517273470594765029:=0
def tw12925844680167370169:=0
def tw17452460639874479196:=0
def tw11494889189849679291:=0
def tw13165813203205275835:=0
def tw10778385912907592957:=0
def tw15951214761536266903:=0
def tw1020061099078542425:=0
def tw6518300840237154116:=0
def tw12234357641366035511:=0
def tw16365078631362721376:=0
def tw12959537882201657193:=0
def tw7811565042799247029:=0
def tw11500301935336717729:=0
def tw10666451226231454856:=0
def tw16425966725056222410:=0
def tw11514984574442329855:=0
def tw16616109923177077940:=0
def tw18379650695340726862:=0
def tw12982675065914874798:=0
def tw2601373581449991924:=0
def tw12090087604959310921:=0
def tw2628437562354279436:=0
def tw3429745165884655727:=0
def tw5165884444863596331:=0
def tw8050886594870212863:=0
def tw6809160672224734083:=0
def tw4533571979171013341:=0
def tw5997485333727729767:=0
def tw14934725299797989002:=0
def tw2633772316987029158:=0
def tw16029152359353516596:=0
def tw2266087578075741572:=0
def tw9272517985292232099:=0
def tw4510523044635719396:=0
def tw5422553182908190266:=0
def tw1167289112648196898:=0
def tw2749159851395573061:=0
def tw7320723302550273244:=0
def tw14567601893498537601:=0
def tw2643167120080741706:=0
def tw6722536074194456662:=0
def tw16120956677949807408:=0
def tw5961007125072994178:=0
def tw14726936790555190259:=0
def tw6583154712971343400:=0
def tw9203725419366074237:=0
def tw10929484805300771899:=0
def tw448309923004818425:=0
def tw6201754150464977214:=0
def tw6331806611015792206:=0
def tw12010657947292911403:=0
def tw8711197948946375182:=0
def tw9738654645867894286:=0
def tw2716322271494251366:=0
def tw8655971962931958094:=0
def tw6149877954363887513:=0
def tw12855173867706444629:=0
def tw4028084248612835062:=0
def tw3297641017409080267:=0
def tw6905114004504771060:=0
def tw5559240493698048946:=0
def tw12003001847844050288:=0
def tw6048654513435075143:=0
def tw3600939525980582105:=0
def tw9690396064264172043:=0
def tw17707043027893968696:=0
def tw11048786277446902964:=0
def tw11956944939379528740:=0
def tw4657980977942824462:=0
def tw14514578990764873196:=0
def tw1460426820852035321:=0
def tw11605239364651450281:=0
def tw16244725332986561013:=0
def tw6336281230729034224:=0
def tw10188031363309805015:=0
def tw8126096559495648058:=0
def tw12950249912856489902:=0
def tw18350398373001610336:=0
def tw11056256573287707673:=0
def tw16652922583071948569:=0
def tw16795043160020734756:=0
def tw16968391765827306847:=0
def tw6429086901146529404:=0
def tw2479667864993607408:=0
def tw2042505385363078426:=0
def tw5147638007148813303:=0
def tw3281401193737994605:=0
def tw11912994036570768352:=0
def tw15990672979613695961:=0
def tw2924863458331643250:=0
def tw10293045451198185805:=0
def tw8377579889050487304:=0
def tw16955554645791538812:=0
def tw2644811914597195539:=0
def tw13448178625568773291:=0
def tw10914412601308198465:=0
def tw7676323536847249577:=0
def tw3593480521350382320:=0
def tw15692012365065101721:=0
def tw1302153326707513082:=0
def tw7378750891477862174:=0
def tw16725319076094528479:=0
def tw18251411982732825742:=0
def tw17990193387123239656:=0
def tw8542239099386052048:=0
def tw4265998491663390283:=0
def tw11501010019130251655:=0
def tw15169415913745647635:=0
def tw10195506922853323439:=0
def tw2072462224295978010:=0
def tw6370037351707769651:=0
def tw4696957243270574383:=0
def tw17252512259556152594:=0
def tw8843951745889039794:=0
def tw4434048766694199612:=0
def tw11899663061408945031:=0
def tw16181507591912566746:=0
def tw9022415094780534635:=0
def tw10860797486758971034:=0
def tw13376932697216034340:=0
def tw2371430013143918706:=0
def tw15581658325405453453:=0
def tw664609877037963535:=0
def tw11743988915188557097:=0
def tw9101250444592153042:=0
def tw13444008168346925618:=0
def tw11224703449383928404:=0
def tw899624957374689339:=0
def tw13238112947878895247:=0
def tw14835599217653563333:=0
def tw2982996396778511854:=0
def tw16617953161504843232:=0
def tw14294880247358801682:=0
def tw159569978107760025:=0
def tw10159670311516085449:=0
def tw5060681955295609167:=0
def tw11053345513642145946:=0
def tw7013660433165104647:=0
def tw10560249013881329676:=0
def tw16222680054524371309:=0
def tw5758140580415209587:=0
def tw2287203426105777969:=0
def tw5470597634352189753:=0
def tw7404272897486568231:=0
def tw15914433755293219023:=0
def tw9016509246285099256:=0
def tw11765718597925805044:=0
def tw11705518449779091173:=0
def tw12415564005619545628:=0
def tw11631822755631803592:=0
def tw17656909383894314553:=0
def tw11726275466549504147:=0
def tw17206874260147182821:=0
def tw2876471067514982659:=0
def tw3580699997405034694:=0
def tw11362428540247194409:=0
def tw7184114268640345214:=0
def tw5276260378586909669:=0
def tw10489650404293713426:=0
def tw13765804296881451785:=0
def tw17385007588328947237:=0
def tw11049124379079209408:=0
def tw1030254275066740597:=0
def tw1614592306325019628:=0
def tw12416954181661863856:=0
def tw6461912894231886436:=0
def tw13076503796951458245:=0
def tw13227100288670191556:=0
def tw904454720907887288:=0
def tw14256398654981897497:=0
def tw1469082243097868051:=0
def tw10317937647432590347:=0
def tw8723070818805822762:=0
def tw16339399510986818211:=0
def tw15276659953783312681:=0
def tw17818444465611538033:=0
def tw1619194308966160225:=0
def tw8767472522642278213:=0
def tw15574814862636437983:=0
end PySem.W.Fast
open PySem PySem.W PyProof.Rows
set_option maxRecDepth 100000 in
set_option maxHeartbeats 0 in
theorem PySem.Challenge.cw_netways_s01_answers_holds : PySem.Challenge.rw_netways_s01_answers.Holds := by
 w_on;k_headS;(case hw=>exact⟨[.list [.int 17]],by decide +kernel,by decide +kernel⟩);k_fillS;refine L2.Mi (r:=PySem.Challenge.rw_netways_s01_answers) (k:=13) (CX:=L2.gZ) (ps:=["calls"]) (sp:=Nw.vT) (by decide +kernel) rfl rfl ⟨rfl,by decide,by decide⟩ (fun w h Y=>PySem.W.kIn_of Y) ?F ?S (fun _ _ _ _ z=>z)
 case F=>
  intro w mg fa h Y KX G hmg;refine' Nw.XO KX G hmg ?aG ?aR ?aB ?aT ?aV ?a ?l ?c ?k ?T ?D ?L;(case aG=>k_is);(case aR=>k_is);(case aB=>k_is);(case aT=>k_is);(case aV=>k_is);(case a=>k_is);(case l=>k_is);(case c=>k_is);(case k=>k_is);case L=>refine' Nw.TH KX G ?a ?l;(case a=>k_is);(case l=>k_is)
  case T=>refine' Nw.Txt.mk (L2.Blt.mk (L2.nQ KX G ?_) (L2.nQ KX G ?_) (L2.nQ KX G ?_) (L2.nQ KX G ?_) (L2.nQ KX G ?_) (L2.nQ KX G ?_) (L2.nQ KX G ?_) (L2.nQ KX G ?_) (L2.nQ KX G ?_) (L2.nQ KX G ?_)) ?_ ?_ ?_ ?_ ?_ ?_ ?_ ?_ ?_ ?_ ?_ ?_ ?_ ?_ ?_ ?_ ?_ ?_ ?_ ?_ ?_ ?_ ?_ ?_ ?_ ?_ ?_ ?_ ?_ ?_ ?_ ?_ ?_ ?_ ?_ ?_ ?_ ?_ ?_ ?_ ?_ ?_ ?_ ?_ ?_ ?_ ?_ ?_ ?_ ?_ ?_ ?_ ?_ ?_ ?_;all_goals first|(refine' L2.JS.mk ?za ?zb ?zc ?zd;(case za=>k_is);(case zb=>k_is);(case zc=>k_is);(case zd=>k_is))|(refine' L2.int_is KX G ?za;(case za=>k_is))|(show fj _ _ _=_;k_is)|k_is
  case D=>constructor;all_goals first|(refine' L2.V6 KX G ?zb ?za ?zl ?zc ?zk;(case zb=>first|exact fun _ _ _ _ _ _=>L2.bl2 fun _ _=>rfl|exact fun _ _ _ _ _ _=>L2.bl1 fun _=>rfl|exact fun _ _ _ _ _ _=>L2.bl3 fun _ _ _=>rfl|exact fun _ _ _ _ _ _=>L2.bl4 fun _ _ _ _=>rfl);(case za=>k_is);(case zl=>k_is);(case zc=>k_is);(case zk=>k_is))|(refine' L2.X7 ?zb ?za ?zi ?zl ?zc ?zk;(case zb=>first|exact fun _ _ _ _ _ _=>L2.bl2 fun _ _=>rfl|exact fun _ _ _ _ _ _=>L2.bl1 fun _=>rfl|exact fun _ _ _ _ _ _=>L2.bl3 fun _ _ _=>rfl|exact fun _ _ _ _ _ _=>L2.bl4 fun _ _ _ _=>rfl);(case za=>k_is);(case zi=>k_is);(case zl=>k_is);(case zc=>k_is);(case zk=>k_is))|(refine' L2.X6 KX G ?zb ?zd ?zm ?ze ?za ?zi ?zl ?zc ?zk;(case zb=>first|exact fun _ _ _ _ _ _=>L2.bl2 fun _ _=>rfl|exact fun _ _ _ _ _ _=>L2.bl1 fun _=>rfl|exact fun _ _ _ _ _ _=>L2.bl3 fun _ _ _=>rfl|exact fun _ _ _ _ _ _=>L2.bl4 fun _ _ _ _=>rfl);(case zd=>k_is);(case zm=>k_is);(case ze=>k_is);(case za=>k_is);(case zi=>k_is);(case zl=>k_is);(case zc=>k_is);(case zk=>k_is))
 case S=>
  intro K H xs a hO YH Sr hx;cases hx with
  |cons h1 h2=>
   cases h2;cases h1 with
   |lst hs ha=>have e:=L2.OW a.1 _ ha;subst e;exact⟨_,a.1,rfl,hs,Sr,fun H' p hp=>.lst (L2.cN.of hp) (L2.O9 _)⟩
