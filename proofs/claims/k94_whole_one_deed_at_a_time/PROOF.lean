import PyProof.Rows.All
import Wide.All
import OpenK.AllK
import Wide.FinOn
import Lean
import PyProof.EqAt
import PyProof.EqKinds
import PyProof.TupleCall
import PyProof.StationsW
import PyProof.NsDelKeeps
import PyProof.PassesOwn
import PyProof.ZipIter
import PyProof.NeKinds
import PyProof.CompFree
import KE.KDictList
import PyProof.ConsumeWalk
import PyProof.WalkInts
import PyProof.WalksMore
import PyProof.SumAny
import PyProof.Rows.MinMaxN
import PyProof.Rows.SortWalk
import PyProof.ListRange
import KE.KTupSum
import PyProof.EnumFor
import PyProof.EnumMake
import PyProof.EnumStmt
import OpenK.KMake
import PyProof.DictWalks
import PyProof.FitsBits
import PyProof.CompUse
import KE.KSortTup
import PyProof.MinMaxWalk
import PyProof.SeqI3
import PyProof.DictItems
import KE.KItemsList
import KE.KEqDict
import KE.KDictSum
import PyProof.DictValues
import KE.KLam
import KE.KNestM
import PyProof.ExcClass3
import KE.KRevIter
import PySem.Challenge.RW_wornpages_k94_whole_one_deed_at_a_time
set_option Elab.async false
set_option linter.all false
set_option maxRecDepth 100000
set_option maxHeartbeats 0
set_option tactic.hygienic false
set_option compiler.extract_closed false
noncomputable abbrev hC:=@decide_eq_true
noncomputable abbrev hU:=@if_neg
noncomputable abbrev kB:=@decide_eq_false
noncomputable abbrev kD:=@if_pos
noncomputable abbrev kP:=@of_decide_eq_true
noncomputable abbrev mD:=@decide_eq_true_eq
noncomputable abbrev dU:=@of_decide_eq_false
noncomputable abbrev dW:=@congrArg
noncomputable abbrev rF:=@beq_iff_eq
noncomputable abbrev rV:=@beq_eq_false_iff_ne
noncomputable abbrev wW:=@decide_eq_false_iff_not
noncomputable abbrev cY:=@or_false
open List renaming mem_cons_of_mem->hG, mem_singleton->kE, getElem?_eq_some_iff->kF, length_map->kI, getElem?_eq_getElem->kL, mem_cons->kM, getD_eq_getElem?_getD->kN, mem_cons_self->kY, mem_map->kZ, mem_append_right->mC, length_append->mI, size_toArray->mJ, length_filter_le->mK, mem_filter->mL, getElem?_map->mM, length_cons->mP, take_append_getElem->mR, mem_range->mU, map_cons->mV, length_range->m7, map_append->m8, nodup_cons->gD, length_singleton->gF, mem_append_left->gG, filter_cons->gH, take_length->gL, nil_append->gM, mem_append->gN, getElem_mem->gO, cons_append->gP, mem_of_getElem?->gQ, mem_of_find?_eq_some->gR, pairwise_map->gT, length_set->gU, length_replicate->gW, filter_append->gX, length_take->gZ, append_nil->g0, find?_some->g4, pairwise_cons->g9, find?_eq_none->dA, pairwise_lt_range->dH, not_mem_nil->dL, nodup_append->dO, find?_cons->dR, getElem?_append_right->dY, filterMap_cons->d7, replicate_succ->d8, getElem_of_mem->d9, filter_eq_self->rA, pairwise_iff_getElem->rB, mem_filterMap->rE, lookup_cons->rK, all_eq_true->rL, sum_cons->rN, length_filterMap_le->rO, filter_sublist->rW, ext_getElem->wA, any_eq_true->wC, getElem?_eq_none->wE, getElem?_append_left->wH, drop_eq_getElem_cons->wI, exists_mem_of_ne_nil->wJ, map_congr_left->wS, mergeSort_perm->wT, getElem?_replicate->wU, pairwise_mergeSort->wZ, length_nil->cE, countP_eq_length_filter->cH, flatten_cons->cM, getElem?_set_ne->cN, any_cons->cX, mem_mergeSort->pD, map_replicate->pE, append_assoc->pJ, map_map->pM, filter_congr->pN, countP_mono_left->pO, length_mergeSort->pP, countP_cons->pT, nodup_range->pU, take_append_of_le_length->p8, eq_nil_of_length_eq_zero->sB, of_mem_zip->sD, range_succ->sF, mem_map_of_mem->sJ, map_eq_nil_iff->sK, getElem_range->sV, perm_ext_iff_of_nodup->sY, foldl_append->nK, length_drop->nN, getElem?_cons_succ->nQ, getElem_map->nZ, getElem?_set_self->lC, length_pos_of_mem->lI, countP_singleton->lP, take_append_drop->lQ, length_pos_iff->xB, nil_perm->xG, zip_cons_cons->xL, countP_append->xQ, filterMap_nil->xR, filter_filter->xS, any_eq_false->xX, map_set->aE, find?_append->aH, drop_length->aO, forIn_cons->aV, perm_cons->bH, nodup_nil->bI, all_cons->bU, set_comm->bX, map_nil->bZ, set_set->b9
open PySem renaming wpAny_bind->hX, wpAny_pure->kW, wpAny_holding->g5, sizeLine_eq->dB, mem_of_lookup->dC, wpAny_truthy_bool->dD, wpAny_Call_Name_kw->dG, wpAny_mono->dM, boot_len->dQ, wpAny_tryCatch->d6, wpAny_passesOwn->wK, wpAny_newObj_type->wL, plainId_quiet->wO, wpAny_letGo->cB, codeAny_builtin->cI, wpAny_updateSeq->cJ, wpAny_call->cP, wpAny_field->cQ, wpAny_seqItems->cS, codeAny_mono->cT, wpAny_newList->cZ, tupleKind_room_in1->c9, codeAny_call_builtin->p7, wpAny_execs_nil->sC, wpAny_newFunctionEnv_cells->sS, wpAny_standAt->nL, wpAny_call_entry->nO, seqIndex_neg->lD, wpAny_getItem_list_neg->lF, wpAny_loadPart'->lK, wpAny_isTrue_Compare1->lN, wpAny_loadName_local->lR, seqIndex_of->lT, wpAny_setField->lW, wpAny_newFunctionEnv->lZ, wpAny_loadName_cell->l8, wpAny_attempt->xE, wpAny_assign_Name->xV, wpAny_pyIter_list->xW, wpAny_Name->bC, typeIs_int->bE, call_meets->bG
open PySem.Heap renaming get?_push_of_some->kJ, lt_size->mE, get?_update_other->mF, get?_push_size->mW, get?_update_self->rC, get?_none_of_le->pZ, size_push->sR, size_update->nY
open Nat renaming le_refl->kO, le_trans->mO, ne_of_lt->mY, lt_of_lt_of_le->mZ, zero_le->m9, mul_le_mul_right->g8, le_succ->dN, lt_irrefl->dX, mul_comm->dZ, lt_succ_self->rG, lt_of_le_of_lt->rJ, add_mul->rP, one_mul->rQ, lt_succ_of_lt->rS, ne_of_gt->rZ, div_lt_iff_lt_mul->wG, le_add_right->wX, mod_eq_of_lt->cU, mul_add_mod->c8, le_of_eq->pF, succ_mul->pK, add_le_add_right->p9, div_add_mod->sE, le_of_lt->sL, add_zero->sO, eq_of_mul_eq_mul_right->sZ, not_lt->lG, zero_add->lJ, not_lt_zero->lM, lt_of_succ_lt->x9, le_of_not_lt->aJ, succ_le_succ->aL, mul_mod_left->aN, mul_le_mul->bK
open Int renaming toNat_natCast->kQ, le_refl->gC, natCast_ediv->g7, natCast_mul->dS, le_trans->r9, eq_ofNat_of_zero_le->wV, le_of_lt->pL, mul_le_mul_of_nonneg_right->pX, fdiv_eq_ediv_of_nonneg->sQ, mul_le_mul->nE, mul_ediv_cancel_left->nM, mul_nonneg->lY, toNat_of_nonneg->xC, emod_lt_of_pos->xN, emod_nonneg->aT, natCast_add->aZ, natCast_pow->bA, not_lt->bJ
open Option.some renaming inj->kU
open Bool renaming false_ne_true->kX, and_eq_true->mQ, not_eq_true'->wM, eq_iff_iff->cD, or_eq_true->cF, false_eq_true->pC, true_and->xF, eq_false_iff->aA, not_eq_true->aM, false_or->bV
open Option renaming map_eq_some_iff->mH, isSome_iff_exists->cW, bind_some->pR, isSome_map->nI, map_some->aW
open Array renaming length_toList->gE, getElem?_eq_some_iff->cR, getD_eq_getD_getElem?->sN, perm_iff_toList_perm->sU, toList_inj->nU, toList_map->nV, append_assoc->xJ, map_map->bW
open PySem.F renaming plain_min_loop->gJ, entry_min_loop->d5, slot_list_append->wP, type_list_append->wQ, plainAttrs_list->cA, slot_dict_itemiterator_iter->c7, plainAttrs_dict->nP, slot_dict_items->lB, slot_dict_pop->lO, plain_min->aF, entry_min->aG, kind_min->aP, slot_int_rmul->aS
open List.Pairwise renaming filter->gK, sublist->rD, filterMap->bY
open PySem.W renaming mg_of->gY, kia_one->dJ, callWith_K->rH, methodCall_KW->wD, mg_none_of->wN, looks_findIn->cO, cellsFrom_some->pG, any_some->pQ, plainGet_of->sG, callWith_K0->sI, check_slot->xM, make_core->xY, kitx_list->xZ, kitx_dict->x6, makes_of->aI, codeHd_of_K->aQ
open Decidable renaming byContradiction->dE
open PySem.PassesOwn renaming leaving->dP, never->rT
open Int.ofNat renaming inj->rM
open PySem.Around renaming under_plainId->rR, frames_deeper->lS
open PySem.BindsTo renaming of_defaults->rX
open PySem.Obj renaming isFreed_of_fields->wF, data_mapFields->pA
open PyProof.Rows renaming slot_tuple_getitem->wR, get?_update_seq->cG, listUpdate_at->cK, callWith_type1->cL, seqEpoch_at->nJ, subscriptTail_builtinR->lE, getElem?_mirror_all->xA, size_push'->xP, listItems_at->aB, pairsOf_size->aD, callWith_kw->aR, Subscript_->bD
open Ne renaming symm->cC
open List.Sublist renaming map->cV
open PySem.Calls renaming callWith_builtin->pH, Name_function_global->sP, evalArgs_plain->lU, spliced_cons->xK, spliced_nil->x8
open PySem.SeqAt.EqAt renaming int_int->sT, same->lL, int_str->xH, str_int->xI, of_refs->xO
open List.Perm renaming refl->sX
open Classical renaming byContradiction->nG
open Sum.inl renaming inj->nH
open PySem.Value renaming isStrOf_shape->l7, isInt_shape->xU
open PySem.SeqAt.RcNeAt renaming tuples->l9
open PySem.Paired renaming length->xD
open PySem.Walks renaming list->xT
open PySem.W.Looks renaming ld->aK, of_pure->eC, here->eD
open PySem.SeqAt renaming eq_listAt->aU
open Array.Perm renaming refl->aX
open StateT renaming run_pure->aY
open PySem.EqMixed renaming eq_bool_str->bL, eq_str_bool->bM, ne_bool_str->bN, ne_str_bool->bO, eq_int_str->bQ, eq_str_int->bR, ne_int_str->bS, ne_str_int->bT
open Iff renaming rfl->b8
open PySem.Heap.IsSliceOf renaming new->eE
set_option genSizeOf false
namespace L2
open PySem PySem.Spec PyProof.Rows
noncomputable abbrev Key:=Sum Int Str
noncomputable def q94:Key->Value->Bool
| .inl k,v=>Value.isInt k v
| .inr x,v=>Value.isStrOf x v
noncomputable def keyH(w:World):Key->Int
| .inl k=>hashInt k
| .inr x=>hashStr w x
theorem yG:∀{k:Key} {v:Value},q94 k v=true->(∃i t,k=Sum.inl i/\v=Value.int i t)\/(∃x t,k=Sum.inr x/\v=Value.str x t)
| .inl i,v,h=>by obtain⟨t,e⟩:=xU (k:=i) (v:=v) h;exact .inl ⟨i,t,rfl,e⟩
| .inr x,v,h=>by obtain⟨t,e⟩:=l7 (x:=x) (v:=v) h;exact .inr ⟨x,t,rfl,e⟩
theorem qEQ(i:Int)(t:Tok):q94 (.inl i) (.int i t)=true:=by simp[q94,Value.isInt]
theorem qER(x:Str)(t:Tok):q94 (.inr x) (.str x t)=true:=by simp[q94,Value.isStrOf]
theorem qL2(a b:Int):decide ((Sum.inl a:Key)=Sum.inl b)=(a==b):=by(
by_cases e:a=b
.subst e;simp
simp_all)
theorem qL3(a b:Str):decide ((Sum.inr a:Key)=Sum.inr b)=decide (a=b):=by(
simp)
theorem qL4(a:Int)(b:Str):decide ((Sum.inl a:Key)=Sum.inr b)=false:=kB (λq=>nomatch q)
theorem qL5(a:Str)(b:Int):decide ((Sum.inr a:Key)=Sum.inl b)=false:=kB (λq=>nomatch q)
noncomputable def yF(prog:Program)(w:World):PySem.KeyKind prog w Key where
is:=q94
hash:=keyH w
inj:=λv a b ha hb=>by
 rcases yG ha with⟨i,t,rfl,rfl⟩|⟨x,t,rfl,rfl⟩
 .rcases yG hb with⟨j,u,rfl,e⟩|⟨y,u,rfl,e⟩
  .injection e with e1 _;rw[e1]
  exact nomatch e
 rcases yG hb with⟨j,u,rfl,e⟩|⟨y,u,rfl,e⟩
 .exact nomatch e
 injection e with e1 _;rw[e1]
byValue:=λk v h=>by rcases yG h with⟨i,t,rfl,rfl⟩|⟨x,t,rfl,rfl⟩<;>rfl
pyHash:=λhv h=>by
 rcases yG hv with⟨i,t,rfl,rfl⟩|⟨x,t,rfl,rfl⟩
 .exact wpAny_pyHash_int h
 exact wpAny_pyHash_str h
eqBool:=λhu hv h=>by
 rcases yG hu with⟨i,t,rfl,rfl⟩|⟨x,t,rfl,rfl⟩
 .rcases yG hv with⟨j,u,rfl,rfl⟩|⟨y,u,rfl,rfl⟩
  .rw[qL2]at h;exact wpAny_eqBool_int h
  rw[qL4]at h;exact xH i t y u _ _ _ _ h
 rcases yG hv with⟨j,u,rfl,rfl⟩|⟨y,u,rfl,rfl⟩
 .rw[qL5]at h;exact xI x t j u _ _ _ _ h
 rw[qL3]at h;exact wpAny_eqBool_str h
«strs»:=λk x t v h=>by
 rcases yG h with⟨i,u,rfl,e⟩|⟨y,u,rfl,e⟩
 .exact nomatch e
 injection e with e1 _
 subst e1;cases v<;>rfl
theorem qB0(prog:Program)(w:World)(i:Int)(t:Tok):(yF prog w).is (.inl i) (.int i t)=true:=qEQ i t
theorem qB1(prog:Program)(w:World)(x:Str)(t:Tok):(yF prog w).is (.inr x) (.str x t)=true:=qER x t
inductive V where
|non|bl (b:Bool)|int (i:Int)|str (x:Str)|byt (b:Array UInt8)|flt (b:UInt64)|ref (a:Addr)|ty (n:String)
deriving DecidableEq
noncomputable def RelV:V->Value->Prop
| .non,u=>u=Value.none
| .bl b,u=>u=Value.bool b
| .int i,u=>∃t,u=Value.int i t
| .str x,u=>∃t,u=Value.str x t
| .byt b,u=>∃t,u=Value.bytes b t
| .flt b,u=>∃t,u=Value.float b t
| .ref a,u=>u=Value.ref a
| .ty n,u=>u=Value.type n
noncomputable abbrev Vals:List V->List Value->Prop:=Paired RelV
theorem Vals.length(r:Vals xs us):xs.length=us.length:=xD r
theorem Vals.get:∀{xs:List V} {us:List Value} {i:Nat} {x:V},Vals xs us->xs[i]?=some x->∃u,us[i]?=some u/\RelV x u
|_,_,_,_,.nil,e=>by simp at e
|_,_,0,_,.cons r _,e=>by simp at e;subst e;exact⟨_,rfl,r⟩
|_,_,i+1,x,.cons _ t,e=>by obtain⟨u,h1,h2⟩:=Vals.get (i:=i) (x:=x) t (by simpa using e);exact⟨u,by simpa using h1,h2⟩
theorem Vals.set{x:V}(r:RelV x u):∀{xs:List V} {us:List Value} (i:Nat),Vals xs us->Vals (xs.set i x) (us.set i u)
|_,_,_,.nil=>.nil
|_,_,0,.cons _ t=>.cons r t
|_,_,i+1,.cons q t=>.cons q (Vals.set r i t)
theorem Vals.append:∀{xs ys:List V} {us ws:List Value},Vals xs us->Vals ys ws->Vals (xs++ys) (us++ws)
|_,_,_,_,.nil,s=>s
|_,_,_,_,.cons r t,s=>.cons r (Vals.append t s)
theorem Vals.take:∀{xs:List V} {us:List Value} (n:Nat),Vals xs us->Vals (xs.take n) (us.take n)
|_,_,0,_=>.nil
|_,_,_ +1,.nil=>.nil
|_,_,n+1,.cons r t=>.cons r (Vals.take n t)
theorem Vals.drop:∀{xs:List V} {us:List Value} (n:Nat),Vals xs us->Vals (xs.drop n) (us.drop n)
|_,_,0,r=>r
|_,_,_ +1,.nil=>.nil
|_,_,n+1,.cons _ t=>Vals.drop n t
noncomputable def RelO:Option V->Option Value->Prop
|some v,some u=>RelV v u
|none,none=>True
|_,_=>False
noncomputable def KV{κ:Type}:List (κ×V)->List (κ×Value)->Prop:=Paired λ(p:κ×V) (q:κ×Value)=>p.1=q.1/\RelV p.2 q.2
noncomputable def kV:Key->V
| .inl i=>.int i
| .inr x=>.str x
inductive HO where
|lst (xs:List V)
|tup (xs:List V)
|dK (kvs:List (Key×V))|dT (kvs:List (List Key×V))
|set (S:Int->Bool) (n:Nat)
|ins (C dx:Addr) (fs:List (Str×V))
|own (x:Addr)
|xd (fs:List (Str×V))
|met (f x:Addr)
|rng (lo hi:Int)
|frz (o:Obj) (u:HO)
|tbl (ps:Array Value)
|ext (φ:Heap->Prop)
noncomputable abbrev Hp:=Addr->Option HO
noncomputable def upd(H:Hp)(a:Addr)(o:HO):Hp:=λb=>if b=a then some o else H b
theorem qI{a:Addr}{o:HO}:upd H a o a=some o:=by unfold upd;rw[kD rfl]
theorem qE{a b:Addr}{o:HO}(h:b≠a):upd H a o b=H b:=by unfold upd;rw[hU h]
theorem qA1{a:Addr}{o:HO}:upd (upd H a o) a u=upd H a u:=by funext b;unfold upd;simp_all
theorem jQ{H:Hp}{a b:Addr}{o u:HO}(h:H a=some o)(h':H b=some u)(d:o≠u):a≠b:=by intro e;subst e;rw[h]at h';exact d (kU h')
theorem qH{H:Hp}{a b:Addr}{o:HO}(h:H a=some o)(h':H b=none):a≠b:=by lia
section
variable(P:Program)(w:World)
noncomputable def jM(H:Hp)(h:Heap)(a:Addr):HO->Prop
| .lst xs=>xs.length<=sizeLine/\∃(its:List Value) (n:Nat),Vals xs its/\h.get? a=some { cls:=.type "list",data:=.seq its.toArray n }
| .tup xs=>xs.length<=sizeLine/\∃its:List Value,Vals xs its/\IsTup h a its.toArray
| .dK kvs=>kvs.length<=sizeLine/\(a==sysModules)=false/\∃vs,KV kvs vs/\h.DictOf (yF P w) a vs
| .dT kvs=>kvs.length<=sizeLine/\(a==sysModules)=false/\∃xs:List (List Key×Addr×Value),Paired (λ(p:List Key×V) (q:List Key×Addr×Value)=>p.1=q.1/\H q.2.1=some (.tup (p.1.map kV))/\RelV p.2 q.2.2) kvs xs/\∃o es ep,h.get? a=some o/\o.ExactDict/\o.data=.dict es ep/\es.toList=xs.map (entryOfKey (tupleKind (yF P w)))/\(xs.map (·.1)).Nodup
| .set S n=>h.SetOf (intKind P w) a S n
| .ins C dx fs=>H dx=some (.own a)/\fs.length<=1000/\dx≠a/\h.get? a=some (PySem.W.instObj C dx)/\∃mA,h.Ns1 dx mA/\(∀f,RelO (fs.lookup f) (mA f))/\PySem.Within mA (fs.map (·.1))
| .own _=>∃o,h.get? a=some o
| .xd fs=>∃mA,h.Ns1 a mA/\∀f,RelO (fs.lookup f) (mA f)
| .rng lo hi=>∃t u v,h.get? a=some { cls:=.type "range",data:=.fields #[.int lo t,.int hi u,.int 1 v] }
| .frz o u=>h.get? a=some o/\jM H h a u
| .tbl ps=>h.get? a=some { cls:=.none,data:=.fields ps }
| .met f x=>h.get? a=some (PySem.W.methodObj (.ref f) (.ref x))
| .ext φ=>φ h/\(∃o,h.get? a=some o)/\∀h1 h2:Heap,φ h1->(∀o,h1.get? a=some o->h2.get? a=some o)->φ h2
noncomputable def HOk(H:Hp)(h:Heap):Prop:=∀a o,H a=some o->jM P w H h a o
end
section
variable{P:Program}{w:World}{H H':Hp}{h h':Heap}{a:Addr}{o:HO}
theorem jM.lt(x:jM P w H h a o):a<h.objs.size:=by(
cases o with
|lst xs=>obtain⟨_,_,_,_,e⟩:=x;exact mE e
|tup xs=>obtain⟨_,_,_,p⟩:=x;exact p.lt
|dK kvs=>obtain⟨_,_,_,_,o,_,_,e,_⟩:=x;exact mE e
|dT kvs=>obtain⟨_,_,_,_,o,_,_,e,_⟩:=x;exact mE e
|set S n=>obtain⟨o,_,_,_,e,_⟩:=x;exact mE e
|ins C dx fs=>obtain⟨_,_,_,e,_⟩:=x;exact mE e
|own y=>obtain⟨_,e⟩:=x;exact mE e
|xd fs=>obtain⟨_,⟨_,_,_,e,_⟩,_⟩:=x;exact mE e
|rng lo hi=>obtain⟨_,_,_,e⟩:=x;exact mE e
|frz d u=>obtain⟨e,_⟩:=x;exact mE e
|tbl ps=>exact mE (show h.get? a=some _ from x)
|met f y=>exact mE (show h.get? a=some _ from x)
|ext φ=>obtain⟨_,⟨_,e⟩,_⟩:=x;exact mE e)
theorem Paired.mapP{α β:Type}{F G:α->β->Prop}:∀{l₁:List α} {l₂:List β},Paired F l₁ l₂->(∀a b,F a b->G a b)->Paired G l₁ l₂
|_,_,.nil,_=>.nil
|_,_,.cons r t,f=>.cons (f _ _ r) (Paired.mapP t f)
theorem jM.stay(x:jM P w H h a o)(k:∀b u,(b=a\/H b=some (.own a))->h.get? b=some u->h'.get? b=some u)
 (ho:∀b,H b=some (.own a)->H' b=some (.own a)) (ht:∀b xs,H b=some (.tup xs)->H' b=some (.tup xs)):jM P w H' h' a o:=by(
induction o with
|lst xs=>obtain⟨z,J,n,r,e⟩:=x;exact⟨z,J,n,r,k _ _ (.inl rfl) e⟩
|tup xs=>obtain⟨z,J,r,D,e,c⟩:=x;exact⟨z,J,r,D,k _ _ (.inl rfl) e,c⟩
|dK kvs=>obtain⟨z,y,N,r,D,es,I,e,c⟩:=x;exact⟨z,y,N,r,D,es,I,k _ _ (.inl rfl) e,c⟩
|dT kvs=>obtain⟨z,y,xs,r,D,es,I,e,c⟩:=x;exact⟨z,y,xs,Paired.mapP r λp q z=>⟨z.1,ht _ _ z.2.1,z.2.2⟩,D,es,I,k _ _ (.inl rfl) e,c⟩
|set S n=>obtain⟨D,es,I,t,e,c⟩:=x;exact⟨D,es,I,t,k _ _ (.inl rfl) e,c⟩
|ins C dx fs=>obtain⟨d,z,ne,e,mA,⟨od,es,I,O,c⟩,r⟩:=x;exact⟨ho _ d,z,ne,k _ _ (.inl rfl) e,mA,⟨od,es,I,k _ _ (.inr d) O,c⟩,r⟩
|own y=>obtain⟨D,e⟩:=x;exact⟨D,k _ _ (.inl rfl) e⟩
|xd fs=>obtain⟨mA,⟨od,es,I,e,c⟩,r⟩:=x;exact⟨mA,⟨od,es,I,k _ _ (.inl rfl) e,c⟩,r⟩
|rng lo hi=>obtain⟨t,u,v,e⟩:=x;exact⟨t,u,v,k _ _ (.inl rfl) e⟩
|frz D u Z=>obtain⟨e,q⟩:=x;exact⟨k _ _ (.inl rfl) e,Z q⟩
|tbl ps=>have e:h.get? a=some { cls:=.none,data:=.fields ps }:=x;show h'.get? a=some { cls:=.none,data:=.fields ps };exact k a _ (.inl rfl) e
|met f y=>have e:h.get? a=some (PySem.W.methodObj (.ref f) (.ref y)):=x;show h'.get? a=some (PySem.W.methodObj (.ref f) (.ref y));exact k a _ (.inl rfl) e
|ext φ=>obtain⟨p,⟨o,e⟩,st⟩:=x;exact⟨st _ _ p λo q=>k _ _ (.inl rfl) q,⟨o,k _ _ (.inl rfl) e⟩,st⟩)
theorem HOk.lt(x:HOk P w H h)(e:H a=some o):a<h.objs.size:=(x a o e).lt
theorem HOk.fresh(x:HOk P w H h)(e:h.objs.size<=a):H a=none:=by(
cases q:H a with
|none=>rfl
|some u=>exact absurd (mZ (x.lt q) e) (dX _))
theorem HOk.kept(x:HOk P w H h)(k:∀b u,h.get? b=some u->h'.get? b=some u):HOk P w H h':=λa o e=>(x a o e).stay (λb u z q=>k b u q) (λz q=>q) λz z q=>q
theorem HOk.laid(x:HOk P w H h)(k:∀b u,h.get? b=some u->h'.get? b=some u)(hp:h.objs.size<=a)(new:jM P w (upd H a o) h' a o):HOk P w (upd H a o) h':=λb u e=>by(
have hn:=x.fresh hp
by_cases hb:b=a
.subst hb;rw[qI]at e;lia
rw[qE hb]at e
exact(x b u e).stay (λc v z q=>k c v q) (λc q=>by rw[qE (qH q hn)];exact q) λc xs q=>by rw[qE (qH q hn)];exact q)
end
noncomputable def Rd(H:Hp)(a:Addr)(u:HO):Prop:=H a=some u\/∃o,H a=some (.frz o u)
theorem Rd.ok{P:Program}{w:World}{H:Hp}{h:Heap}{a:Addr}{u:HO}(r:Rd H a u)(x:HOk P w H h):jM P w H h a u:=by(
rcases r with r|⟨o,r⟩
.exact x a u r
obtain⟨_,q⟩:=x a _ r
exact q)
noncomputable def Mut:Option HO->Prop
|some (.lst _)=>True
|some (.dK _)=>True
|some (.dT _)=>True
|some (.set _ _)=>True
|some (.ins _ _ _)=>True
|some (.ext _)=>True
|_=>False
section
variable{P:Program}{w:World}{H:Hp}{h h':Heap}{x e:Addr}{o':HO}
theorem HOk.write(ok:HOk P w H h)(mu:Mut (H x))(he:e=x\/H e=some (.own x))(k:∀b u,b≠e->h.get? b=some u->h'.get? b=some u)(heo:∃u,h'.get? e=some u)
 (new:jM P w (upd H x o') h' x o'):HOk P w (upd H x o') h':=λb u q=>by(
have nown:∀c y,H c=some (.own y)->c≠x:=λc y r z=>by subst z;rw[r]at mu;exact mu
have ntup:∀c xs,H c=some (.tup xs)->c≠x:=λc xs r z=>by subst z;rw[r]at mu;exact mu
by_cases hb:b=x
.subst hb;rw[qI]at q;cases q;exact new
rw[qE hb]at q
by_cases hbe:b=e
.have q':H b=some (.own x):=by
  rcases he with z|z
  .exact absurd (hbe.trans z) hb
  rw[hbe];exact z
 rw[q]at q';cases q';obtain⟨v,hv⟩:=heo;exact⟨v,by rw[hbe];exact hv⟩
refine(ok b u q).stay (λc v hc r=>k c v ?_ r) (λc r=>by rw[qE (nown c b r)];exact r) λc xs r=>by rw[qE (ntup c xs r)];exact r
grind)
end
structure Un(fs ex:List Addr)(H H':Hp)(h h':Heap):Prop where
keep:∀b o,h.get? b=some o->H b=none->b∉fs->b∉ex->h'.get? b=some o
slot:∀b o,h.get? b=some o->H b=none->b∈fs->b∉ex->∃sl,h'.get? b=some { o with slots:=sl }
free:∀b o,h.get? b=some o->H b=none->b∉ex->H' b=none
there:∀b o,h.get? b=some o->b∉ex->∃o',h'.get? b=some o'
tups:∀b xs,H b=some (.tup xs)->H' b=some (.tup xs)
frzs:∀b o u,H b=some (.frz o u)->H' b=some (.frz o u)
tbls:∀b ps,H b=some (.tbl ps)->∃more,H' b=some (.tbl (ps++more))
section
variable{fs fs' ex ex':List Addr}{H H1 H2:Hp}{h h1 h2 h':Heap}{a x e:Addr}{o:HO}
theorem Un.any(u:Un fs ex H H1 h h1){b:Addr}(q:h.get? b=some ob)(n:H b=none)(hx:b∉ex):∃sl,h1.get? b=some { ob with slots:=sl }:=by(
by_cases d:b∈fs
.exact u.slot b ob q n d hx
exact⟨ob.slots,u.keep b ob q n d hx⟩)
theorem Un.trans(a:Un fs ex H H1 h h1)(b:Un fs ex H1 H2 h1 h2):Un fs ex H H2 h h2 where
keep:=λc ob q n hc hx=>b.keep c ob (a.keep c ob q n hc hx) (a.free c ob q n hx) hc hx
slot:=λc ob q n hc hx=>by obtain⟨sl,e1⟩:=a.slot c ob q n hc hx;obtain⟨sl',e2⟩:=b.slot c _ e1 (a.free c ob q n hx) hc hx;exact⟨sl',e2⟩
free:=λc ob q n hx=>by obtain⟨o',e1⟩:=a.there c ob q hx;exact b.free c o' e1 (a.free c ob q n hx) hx
there:=λc ob q hx=>by obtain⟨o',e1⟩:=a.there c ob q hx;exact b.there c o' e1 hx
tups:=λc xs q=>b.tups c xs (a.tups c xs q)
frzs:=λc ob xs q=>b.frzs c ob xs (a.frzs c ob xs q)
tbls:=λc ps q=>by obtain⟨m1,e1⟩:=a.tbls c ps q;obtain⟨m2,e2⟩:=b.tbls c _ e1;exact⟨m1++m2,by rw[e2,xJ]⟩
theorem Un.kept(k:∀b u,h.get? b=some u->h'.get? b=some u):Un fs ex H H h h':=⟨λb ob q z z z=>k b ob q,λb ob q z z z=>⟨ob.slots,k b ob q⟩,λz z z n z=>n,λb ob q z=>⟨ob,k b ob q⟩,λz z q=>q,λz z z q=>q,λz ps q=>⟨#[],by simp_all⟩⟩
theorem Un.refl:Un fs ex H H h h:=Un.kept λz z q=>q
theorem Un.laid(k:∀b u,h.get? b=some u->h'.get? b=some u)(hp:h.objs.size<=a)(hn:H a=none):Un fs ex H (upd H a o) h h' where
keep:=λb u q z z z=>k b u q
slot:=λb u q z z z=>⟨u.slots,k b u q⟩
free:=λb u q n z=>by rw[qE (mY (mZ (mE q) hp))];exact n
there:=λb u q z=>⟨u,k b u q⟩
tups:=λb xs q=>by rw[qE (qH q hn)];exact q
frzs:=λb u xs q=>by rw[qE (qH q hn)];exact q
tbls:=λb ps q=>⟨#[],by rw[qE (qH q hn),q];simp⟩
theorem Un.write(mu:Mut (H x))(he:e=x\/H e=some (.own x))(k:∀b u,b≠e->h.get? b=some u->h'.get? b=some u)(heo:∃u,h'.get? e=some u):Un fs ex H (upd H x o) h h':=by(
have J:∀b,H b=none->b≠x:=λb n z=>by subst z;rw[n]at mu;exact mu
have I:∀b,H b=none->b≠e:=λb n z=>by
 lia
have d:∀b u,H b=some u->¬Mut (some u)->b≠x:=λb u q nm z=>by simp_all
refine⟨λb u q n Z Z=>k b u (I b n) q,λb u q n Z Z=>⟨u.slots,k b u (I b n) q⟩,λb u q n Z=>by rw[qE (J b n)];exact n,λb u q Z=>?_,λb xs q=>by rw[qE (d b _ q λz=>z)];exact q,λb u xs q=>by rw[qE (d b _ q λz=>z)];exact q,λb ps q=>⟨#[],by rw[qE (d b _ q λz=>z),q];simp⟩⟩
by_cases D:b=e
.simp_all
exact⟨u,k b u D q⟩)
end
noncomputable def trk(h:Heap)(H:Hp):List Addr:=(List.range h.objs.size).filter λa=>(H a).isSome
noncomputable def hidT(h:Heap)(H:Hp):Heap:=PySem.W.hideAll h (trk h H)
theorem q95(h:Heap)(H:Hp):(hidT h H).objs.size=h.objs.size:=PySem.W.hideAll_size _ _
theorem q78{h:Heap}{b:Addr}{o:Obj}(e:h.get? b=some o)(n:H b=none):(hidT h H).get? b=some o:=PySem.W.hideAll_get _ e λhm=>by  have q:=(mL.mp hm).2;rw[n]at q;simp_all
theorem qDE{b:Addr}{o:Obj}(e:(hidT h H).get? b=some o):h.get? b=some o/\H b=none:=by(
have d:=PySem.W.of_hideAll _ e
refine⟨d,?_⟩
cases q:H b with
|none=>rfl
|some x=>have D:b∈trk h H:=mL.mpr ⟨mU.mpr (mE d),by simp[q]⟩;have z:(hidT h H).get? b=none:=PySem.W.hideAll_none _ D;lia)
structure Mod(K:PySem.W.Frag)(mg:Str->Option Value)(base:Heap):Prop where
kin:K.In base
glob:base.Ns mainGlobals mg
blt:∃mb,base.Ns builtinsNs mb/\∀x:Str,x≠"__name__"->mb x=bootBuiltins x
nolimit:base.NoLimit
structure Cx where
prog:Program
w:World
K:PySem.W.Frag
mg:Str->Option Value
base:Heap
A:Around
N:List Str
s₀:Shared
H₀:Hp
env:Env
outer:List Env
stack:List Env
ex:List Addr
fn:Str->Bool
calm:Bool
pn:List (Addr×Obj)
xe:Value->Shared->Prop
noncomputable def frs(l:List Env):List Addr:=l.filterMap (·.frame)
noncomputable abbrev Cx.fs(X:Cx):List Addr:=frs X.outer
noncomputable def Vis(sc:Scope)(x:Str):Prop:=sc.names.lookup x=some .local\/sc.names.lookup x=some .cell\/sc.names.lookup x=some .free
noncomputable def Loc(sc:Scope)(x:Str):Prop:=sc.names.lookup x=some .local\/sc.names.lookup x=some .cell
noncomputable def Look(env:Env)(h:Heap)(m:Str->Option Value)(x:Str)(u:Value):Prop:=(env.kindOf x=some .local/\m x=some u)\/((env.kindOf x=some .cell\/env.kindOf x=some .free)/\∃c,env.cells.lookup x=some c/\h.IsCell c (some u))
structure Cx.Ok(X:Cx):Prop where
mod:Mod X.K X.mg X.base
kind:X.env.scope.kind=.function
glob:X.env.globals=mainGlobals
blt:X.env.builtins=builtinsNs
above:X.s₀.heap.objs.size<=X.env.locals
inj:∀x y c,X.env.cells.lookup x=some c->X.env.cells.lookup y=some c->x=y
has:∀x,(X.env.kindOf x=some .cell\/X.env.kindOf x=some .free)->∃c,X.env.cells.lookup x=some c
cab:∀x c,X.fn x=true->X.env.cells.lookup x=some c->X.s₀.heap.objs.size<=c
hd:X.calm=true->X.A.handled=none
frames:X.A.frames=some X.stack
stk:X.stack=X.outer\/(X.stack=X.env::X.outer/\X.env.frame=some X.env.locals)
exf:∀b∈X.ex,b≠X.env.locals/\∀x c,X.env.cells.lookup x=some c->c≠b
bs:∀b o,X.base.get? b=some o->X.s₀.heap.get? b=some o/\X.H₀ b=none
bsz:X.base.objs.size<=X.s₀.heap.objs.size
noex:∀b o,X.base.get? b=some o->b∉X.ex
exfs:∀b∈X.ex,b∉X.fs
funs:X.s₀.heap.FunFrames X.base X.outer
frf:∀b∈X.fs,X.H₀ b=none
structure Inv(X:Cx)(pins:List (Addr×Obj))(σ:List (Option V))(H:Hp)(s:Shared):Prop where
ok:X.Ok
os:s.os=X.s₀.os
bare:AllBare s.gens
base:Un X.fs X.ex X.H₀ H X.s₀.heap s.heap
loc:∃m,s.heap.Ns X.env.locals m/\∀(i:Nat) (x:Str) (v:V),X.N[i]?=some x->σ[i]?=some (some v)->Vis X.env.scope x->∃u,RelV v u/\Look X.env s.heap m x u
cell:∀x c,X.env.cells.lookup x=some c->∃v,s.heap.IsCell c v
free:H X.env.locals=none
freeC:∀x c,X.env.cells.lookup x=some c->H c=none
pin:∀p∈X.pn++pins,s.heap.get? p.1=some p.2/\H p.1=none/\p.1≠X.env.locals/\p.1∉X.fs/\∀v,p.2.data≠ .cell v
hok:HOk X.prog X.w H s.heap
len:σ.length=X.N.length
section
variable{X:Cx}{pins:List (Addr×Obj)}{σ:List (Option V)}{H H':Hp}{s:Shared}{h':Heap}
theorem Cx.Ok.nofr(ok:X.Ok){b:Addr}{o:Obj}(e:X.base.get? b=some o):b∉X.fs:=λhb=>by have:=(ok.funs.mem hb).1;lia
theorem Inv.bs(I:Inv X pins σ H s):∀b o,X.base.get? b=some o->s.heap.get? b=some o/\H b=none:=λb o e=>⟨I.base.keep b o (I.ok.bs b o e).1 (I.ok.bs b o e).2 (I.ok.nofr e) (I.ok.noex b o e),I.base.free b o (I.ok.bs b o e).1 (I.ok.bs b o e).2 (I.ok.noex b o e)⟩
theorem Inv.bk(I:Inv X pins σ H s):∀b o,X.base.get? b=some o->s.heap.get? b=some o:=λb o e=>(I.bs b o e).1
theorem Inv.mod(I:Inv X pins σ H s):Mod X.K X.mg X.base:=I.ok.mod
theorem Inv.kIn(I:Inv X pins σ H s):X.K.In s.heap:=I.ok.mod.kin.keeps I.bk
theorem Inv.fr(I:Inv X pins σ H s):∃m,Fr X.base X.env.locals s.heap m:=let⟨m,hn,_⟩:=I.loc
 ⟨m,hn,I.bk,mO I.ok.bsz I.ok.above⟩
theorem Inv.lt(I:Inv X pins σ H s):X.env.locals<s.heap.objs.size:=let⟨_,hn,_⟩:=I.loc;hn.lt
theorem Inv.sz(I:Inv X pins σ H s):X.s₀.heap.objs.size<=s.heap.objs.size:=mO I.ok.above (sL I.lt)
theorem Inv.nofs(I:Inv X pins σ H s){a:Addr}(h:s.heap.objs.size<=a):a∉X.fs:=λhb=>by obtain⟨_,o,ho,_⟩:=I.ok.funs.mem hb;exact absurd (mZ (mE ho) (mO I.sz h)) (dX _)
theorem Inv.cne(I:Inv X pins σ H s):∀x c,X.env.cells.lookup x=some c->c≠X.env.locals:=λx c e z=>by obtain⟨v,o,ho,hd⟩:=I.cell x c e;obtain⟨m,⟨o',es,ep,ho',hd',_⟩,_⟩:=I.loc;lia
theorem Inv.funs(I:Inv X pins σ H s):s.heap.FunFrames X.base X.outer:=by(
have all:∀(l:List Env),(∀b∈frs l,b∈X.fs)->X.s₀.heap.FunFrames X.base l->s.heap.FunFrames X.base l:=by
 intro l;induction l with
 |nil=>intro _ _;trivial
 |cons env r ih=>intro N hl;obtain⟨Z,⟨L,o,d,S,O,hd⟩,hr⟩:=hl;have J:=N L (by unfold frs;rw[d7,d];exact kY);obtain⟨sl,e⟩:=I.base.slot L o O (I.ok.frf L J) J λz=>I.ok.exfs L z J;exact⟨Z,⟨L,_,d,S,e,hd⟩,ih (λb D=>N b (by unfold frs;rw[d7,d];exact hG _ D)) hr⟩
exact all _ (λz D=>D) I.ok.funs)
theorem Inv.stack(I:Inv X pins σ H s):s.heap.FunFrames X.base X.stack:=by(
rcases I.ok.stk with e|⟨e,d⟩
.rw[e];exact I.funs
rw[e]
obtain⟨m,z,_⟩:=I.loc
refine .cons (by rw[I.ok.kind];decide) d z ?_ I.funs
exact pZ (mO I.ok.bsz I.ok.above))
theorem Inv.stkSub(I:Inv X pins σ H s):∀b∈frs X.stack,b∈X.env.locals::X.fs:=λb hb=>by(
rcases I.ok.stk with e|⟨e,hf⟩
.rw[e]at hb;exact hG _ hb
rw[e]at hb
unfold frs at hb
rw[d7,hf]at hb
exact hb)
theorem Inv.stkFree(I:Inv X pins σ H s):∀b∈frs X.stack,H b=none:=λb hb=>by(
rcases kM.mp (I.stkSub b hb)with e|hb
.rw[e];exact I.free
obtain⟨_,o,ho,_⟩:=I.ok.funs.mem hb
exact I.base.free b o ho (I.ok.frf b hb) λz=>I.ok.exfs b z hb)
theorem Inv.step{ch:List Addr}(I:Inv X pins σ H s)
 (hch:∀b∈ch,(b∈X.ex\/X.s₀.heap.objs.size<=b)/\b≠X.env.locals/\(∀x c,X.env.cells.lookup x=some c->c≠b)/\∀p∈X.pn++pins,p.1≠b)
 (keep:∀b o,b≠X.env.locals->b∉X.fs->b∉ch->s.heap.get? b=some o->H b=none->h'.get? b=some o)
 (slot:∀b o,b≠X.env.locals->b∈X.fs->b∉ch->s.heap.get? b=some o->H b=none->∃sl,h'.get? b=some { o with slots:=sl }) (free:∀b o,b∉ch->s.heap.get? b=some o->H b=none->H' b=none)
 (there:∀b o,b∉ch->s.heap.get? b=some o->∃o',h'.get? b=some o')
 (tups:∀b xs,H b=some (.tup xs)->H' b=some (.tup xs)) (frzs:∀b o u,H b=some (.frz o u)->H' b=some (.frz o u)) (tbls:∀b ps,H b=some (.tbl ps)->∃more,H' b=some (.tbl (ps++more)))
 (ns:∀m,s.heap.Ns X.env.locals m->h'.Ns X.env.locals m) (hok:HOk X.prog X.w H' h') (hg:AllBare g'):
 Inv X pins σ H' { s with heap:=h',gens:=g',drawn:=d',toks:=t' }:=by(
have ac:∀b o,X.s₀.heap.get? b=some o->b≠X.env.locals:=λb o e=>mY (mZ (mE e) I.ok.above)
have O:∀b o,X.s₀.heap.get? b=some o->b∉X.ex->b∉ch:=λb o e D Z=>by
 rcases(hch b Z).1 with z|z
 .exact D z
 exact absurd (mZ (mE e) z) (dX _)
have N:∀x c,X.env.cells.lookup x=some c->∀v,s.heap.IsCell c v->h'.IsCell c v:=λx c e v ⟨o,ho,hd⟩=>by
 have J:c∉ch:=λz=>(hch c z).2.2.1 x c e rfl;by_cases hc:c∈X.fs
 .obtain⟨sl,q⟩:=slot c o (I.cne x c e) hc J ho (I.freeC x c e);exact⟨_,q,hd⟩
 exact⟨o,keep c o (I.cne x c e) hc J ho (I.freeC x c e),hd⟩
refine⟨I.ok,I.os,hg,⟨λb o e n Z D=>?_,λb o e n Z D=>?_,λb o e n D=>?_,λb o e D=>?_,λb xs e=>tups b xs (I.base.tups b xs e),λb o xs e=>frzs b o xs (I.base.frzs b o xs e),λb ps e=>?_⟩,?_,λx c e=>?_,?_,λx c e=>?_,λp hp=>?_,hok,I.len⟩
.exact keep b o (ac b o e) Z (O b o e D) (I.base.keep b o e n Z D) (I.base.free b o e n D)
.obtain⟨sl,S⟩:=I.base.slot b o e n Z D;obtain⟨ad,e2⟩:=slot b _ (ac b o e) Z (O b o e D) S (I.base.free b o e n D);exact⟨ad,e2⟩
.obtain⟨o',S⟩:=I.base.there b o e D;exact free b o' (O b o e D) S (I.base.free b o e n D)
.obtain⟨o',S⟩:=I.base.there b o e D;exact there b o' (O b o e D) S
.obtain⟨m1,S⟩:=I.base.tbls b ps e;obtain⟨m2,e2⟩:=tbls b _ S;exact⟨m1++m2,by rw[e2,xJ]⟩
.obtain⟨m,hn,hl⟩:=I.loc;refine⟨m,ns m hn,λi x v S e2 e3=>?_⟩;obtain⟨u,r,l⟩:=hl i x v S e2 e3;refine⟨u,r,?_⟩;rcases l with l|⟨k,c,e,z⟩
 .exact .inl l
 exact .inr ⟨k,c,e,N x c e _ z⟩
.obtain⟨v,z⟩:=I.cell x c e;exact⟨v,N x c e v z⟩
.obtain⟨m,⟨o,_,_,ho,_⟩,_⟩:=I.loc;exact free _ o (λz=>(hch _ z).2.1 rfl) ho I.free
.obtain⟨v,o,ho,hd⟩:=I.cell x c e;exact free c o (λz=>(hch c z).2.2.1 x c e rfl) ho (I.freeC x c e)
obtain⟨e,n,ne,nf,d⟩:=I.pin p hp
have J:p.1∉ch:=λz=>(hch p.1 z).2.2.2 p hp rfl
exact⟨keep p.1 p.2 ne nf J e n,free p.1 p.2 J e n,ne,nf,d⟩)
theorem Inv.un(I:Inv X pins σ H s)(u:Un X.fs [] H H' s.heap h')(hok:HOk X.prog X.w H' h'):Inv X pins σ H' { s with heap:=h',toks:=t' }:=by obtain⟨m,⟨o,es,ep,O,r⟩,_⟩:=id I.loc;obtain⟨sl,hL⟩:=u.any O I.free (by simp);exact I.step   (ch:=[]) (λd z=>nomatch z) (λb o z J z e n=>u.keep b o e n J (by simp)) (λb o z J z e n=>u.slot b o e n J (by simp)) (λb o z e n=>u.free b o e n (by simp)) (λb o z e=>u.there b o e (by simp)) u.tups u.frzs u.tbls (λm' Z=>by obtain⟨o',N,D,d,S⟩:=Z;rw[O]at d;cases d;exact⟨_,N,D,hL,S⟩) hok I.bare
theorem Inv.call{ch:List Addr}(I:Inv X pins σ H s)(u:Un (frs X.stack) ch H H' s.heap h')(hok:HOk X.prog X.w H' h')(hg:AllBare g')
 (hch:∀b∈ch,(b∈X.ex\/X.s₀.heap.objs.size<=b)/\b≠X.env.locals/\(∀x c,X.env.cells.lookup x=some c->c≠b)/\∀p∈X.pn++pins,p.1≠b):
 Inv X pins σ H' { s with heap:=h',gens:=g',drawn:=d',toks:=t' }:=by obtain⟨m,⟨o,es,ep,S,r⟩,_⟩:=id I.loc;obtain⟨sl,O⟩:=u.any S I.free λz=>(hch _ z).2.1 rfl;exact I.step  hch (λb o O hb d e n=>u.keep b o e n (λz=>(kM.mp (I.stkSub b z)).elim O hb) d) (λb o z z d e n=>u.any e n d) (λb o d e n=>u.free b o e n d) (λb o d e=>u.there b o e d) u.tups u.frzs u.tbls (λm' hm=>by obtain⟨o',N,J,D,Z⟩:=hm;rw[S]at D;cases D;exact⟨_,N,J,O,Z⟩) hok hg
theorem Inv.turned(I:Inv X pins σ H s)(k:∀b o,b≠it->s.heap.get? b=some o->h'.get? b=some o)(hn:H it=none)(hL:it≠X.env.locals)
 (h1:it∈X.ex\/X.s₀.heap.objs.size<=it) (h2:∀x c,X.env.cells.lookup x=some c->c≠it) (h3:∀p∈X.pn++pins,p.1≠it):Inv X pins σ H { s with heap:=h',toks:=t' }:=by(
have D:∀b u,H b=some u->b≠it:=λb u e z=>by lia
refine I.step   (ch:=[it]) (λb O=>?_) (λb o Z Z d e Z=>k b o (λz=>d (by simp[z])) e) (λb o Z Z d e Z=>⟨o.slots,k b o (λz=>d (by simp[z])) e⟩) (λZ Z Z Z n=>n)
 (λb o d e=>⟨o,k b o (λz=>d (by simp[z])) e⟩) (λZ Z e=>e) (λZ Z Z e=>e) (λb ps e=>⟨#[],by rw[e];simp⟩) (λm S=>?_) (λb u e=>?_) I.bare
.have e:b=it:=by simpa using O
 subst e;exact⟨h1,hL,h2,h3⟩
.obtain⟨o,es,J,N,r⟩:=S;exact⟨o,es,J,k _ o (cC hL) N,r⟩
refine(I.hok b u e).stay (λc v d q=>k c v ?_ q) (λZ q=>q) λZ Z q=>q
rcases d with z|z
.rw[z];exact D b u e
exact D c _ z)
theorem Inv.tok(I:Inv X pins σ H s)(t:Nat):Inv X pins σ H { s with toks:=t }:=I.un   Un.refl I.hok
theorem Inv.kept(I:Inv X pins σ H s)(k:∀b u,s.heap.get? b=some u->h'.get? b=some u):Inv X pins σ H { s with heap:=h',toks:=t' }:=I.un (Un.kept k) (I.hok.kept k)
theorem Inv.laid{a:Addr}{o:HO}(I:Inv X pins σ H s)(k:∀b u,s.heap.get? b=some u->h'.get? b=some u)(hp:s.heap.objs.size<=a)(new:jM X.prog X.w (upd H a o) h' a o):
 Inv X pins σ (upd H a o) { s with heap:=h',toks:=t' }:=I.un (Un.laid k hp (I.hok.fresh hp)) (I.hok.laid k hp new)
theorem Inv.write{x:Addr}{o:HO}(I:Inv X pins σ H s)(mu:Mut (H x))(he:e=x\/H e=some (.own x))(k:∀b u,b≠e->s.heap.get? b=some u->h'.get? b=some u)(heo:∃u,h'.get? e=some u)
 (new:jM X.prog X.w (upd H x o) h' x o):Inv X pins σ (upd H x o) { s with heap:=h',toks:=t' }:=I.un (Un.write mu he k heo) (I.hok.write mu he k heo new)
theorem Inv.weak{σ':List (Option V)}(I:Inv X pins σ H s)(hl:σ'.length=σ.length)(w:∀(i:Nat) v,σ'[i]?=some (some v)->σ[i]?=some (some v)):Inv X pins σ' H s:=⟨I.ok,I.os,I.bare,I.base,let⟨m,hn,hl'⟩:=I.loc;⟨m,hn,λi x v e1 e2 e3=>hl' i x v e1 (w i v e2) e3⟩,I.cell,I.free,I.freeC,I.pin,I.hok,hl.trans I.len⟩
theorem Inv.pins_of(I:Inv X pins σ H s)(h:∀p∈pins',s.heap.get? p.1=some p.2/\H p.1=none/\p.1≠X.env.locals/\p.1∉X.fs/\∀v,p.2.data≠ .cell v):Inv X pins' σ H s:=⟨I.ok,I.os,I.bare,I.base,I.loc,I.cell,I.free,I.freeC,λp hp=>(gN.mp hp).elim (λz=>I.pin p (gG _ z)) (h p),I.hok,I.len⟩
theorem qB2{N:List Str}(hN:N.Nodup){i j:Nat}{x:Str}(a:N[i]?=some x)(b:N[j]?=some x):i=j:=by obtain⟨h1,z⟩:=kF.mp a;obtain⟨h2,d⟩:=kF.mp b;exact(List.getElem_inj hN).mp (z.trans d.symm)
theorem q96{i:Nat}{x:Str}{v:V}(I:Inv X pins σ H s)(hN:X.N.Nodup)(hi:X.N[i]?=some x)(hx:Loc X.env.scope x)(r:RelV v u)
 (h:∀s',Inv X pins (σ.set i (some v)) H s'->(∃a,Heap.SameBut a s.heap s'.heap/\(a=X.env.locals\/X.env.cells.lookup x=some a))->Q () s') (hf:X.fn x=true\/X.env.scope.names.lookup x=some .local:=by first|exact .inl rfl|exact .inr rfl|assumption):wpAny M A (storeName X.env x u) Q E s:=by(
obtain⟨m,hn,hl⟩:=id I.loc
have ag:(X.env.scope.kind== .class||(X.env.scope.kind== .module&&X.env.locals !=X.env.globals))=false:=by rw[I.ok.kind];rfl
have aj:i<σ.length:=by rw[I.len];exact(kF.mp hi).1
have cne:=I.cne
have O:∀{a:Addr} {h':Heap},(∃o,s.heap.get? a=some o/\H a=none)->Heap.SameBut a s.heap h'->HOk X.prog X.w H h':=fun {a h'} ha D b ob e=>by
 obtain⟨_,_,Z⟩:=ha;refine(I.hok b ob e).stay (λc w' S q=>(D.2 c ?_).trans q) (λz q=>q) λ_ _ q=>q;rintro rfl
 rcases S with rfl|S
 .rw[Z]at e;cases e
 rw[Z]at S;cases S
rcases hx with hk|hk
.refine wpAny_storeName_local hk hn (λh' aw D=>?_) ag;obtain⟨oL,_,_,ax,_⟩:=id hn;refine h _ ⟨I.ok,I.os,I.bare,⟨λb o e n hb hx=>?_,λb o e n hb hx=>?_,I.base.free,λb o e hx=>?_,I.base.tups,I.base.frzs,I.base.tbls⟩,⟨_,aw,λj y v' J e2 e3=>?_⟩,λy c e=>?_,I.free,I.freeC,λp hp=>?_,O ⟨oL,ax,I.free⟩ D,by simpa using I.len⟩ ⟨_,D,.inl rfl⟩
 .exact(D.2 b (mY (mZ (mE e) I.ok.above))).trans (I.base.keep b o e n hb hx)
 .obtain⟨sl,J⟩:=I.base.slot b o e n hb hx;exact⟨sl,(D.2 b (mY (mZ (mE e) I.ok.above))).trans J⟩
 .obtain⟨o',J⟩:=I.base.there b o e hx;exact⟨o',(D.2 b (mY (mZ (mE e) I.ok.above))).trans J⟩
 .by_cases hj:j=i
  .subst hj;rw[hi]at J;cases J;rw[lC aj]at e2;cases e2;exact⟨u,r,.inl ⟨hk,by simp⟩⟩
  rw[cN (cC hj)]at e2;obtain⟨u',r',q⟩:=hl j y v' J e2 e3;refine⟨u',r',?_⟩;rcases q with⟨k,e⟩|⟨k,c,e,z⟩
  .refine .inl ⟨k,?_⟩;have:y≠x:=λe=>hj (qB2 hN J (e▸hi));simp[this,e]
  exact .inr ⟨k,c,e,z.sameBut D (cne y c e)⟩
 .obtain⟨w',z⟩:=I.cell y c e;exact⟨w',z.sameBut D (cne y c e)⟩
 obtain⟨e,n,ne,nf,d⟩:=I.pin p hp;exact⟨(D.2 p.1 ne).trans e,n,ne,nf,d⟩
have ac:X.fn x=true:=by
 rcases hf with z|z
 .exact z
 rw[z]at hk;cases hk
obtain⟨c,S⟩:=I.ok.has x (.inl hk)
obtain⟨w',z⟩:=I.cell x c S
refine wpAny_storeName_cell I.ok.kind hk S z (λh' ai D=>?_)
obtain⟨oc,ah,af⟩:=id z
refine h { s with heap:=h' } ⟨I.ok,I.os,I.bare,⟨λb o e n hb hx=>?_,λb o e n hb hx=>?_,I.base.free,λb o e hx=>?_,I.base.tups,I.base.frzs,I.base.tbls⟩,⟨m,hn.sameBut D (cC (cne x c S)),λj y v' J e2 e3=>?_⟩,λy c' e=>?_,I.free,I.freeC,λp hp=>?_,O ⟨oc,ah,I.freeC x c S⟩ D,by simpa using I.len⟩ ⟨c,D,.inr S⟩
.exact(D.2 b (mY (mZ (mE e) (I.ok.cab x c ac S)))).trans (I.base.keep b o e n hb hx)
.obtain⟨sl,J⟩:=I.base.slot b o e n hb hx;exact⟨sl,(D.2 b (mY (mZ (mE e) (I.ok.cab x c ac S)))).trans J⟩
.obtain⟨o',J⟩:=I.base.there b o e hx;exact⟨o',(D.2 b (mY (mZ (mE e) (I.ok.cab x c ac S)))).trans J⟩
.by_cases hj:j=i
 .subst hj;rw[hi]at J;cases J;rw[lC aj]at e2;cases e2;exact⟨u,r,.inr ⟨.inl hk,c,S,ai⟩⟩
 rw[cN (cC hj)]at e2;obtain⟨u',r',q⟩:=hl j y v' J e2 e3;refine⟨u',r',?_⟩;rcases q with q|⟨k,c',e,z'⟩
 .exact .inl q
 refine .inr ⟨k,c',e,z'.sameBut D ?_⟩;rintro rfl
 exact hj (qB2 hN J (I.ok.inj _ _ _ e S▸hi))
.by_cases al:c'=c
 .subst al;exact⟨_,ai⟩
 obtain⟨w2,z2⟩:=I.cell y c' e;exact⟨w2,z2.sameBut D al⟩
obtain⟨e,n,ne,nf,d⟩:=I.pin p hp
refine⟨(D.2 p.1 ?_).trans e,n,ne,nf,d⟩
intro q
rw[q,ah]at e
have q':oc=p.2:=kU e
exact d w' (by rw[<-q'];exact af))
theorem q79{i:Nat}{x:Str}{v:V}(I:Inv X pins σ H s)(hN:X.N.Nodup)(hi:X.N[i]?=some x)(hx:Loc X.env.scope x)(r:RelV v u)
 (h:∀s',Inv X pins (σ.set i (some v)) H s'->Q () s') (hf:X.fn x=true\/X.env.scope.names.lookup x=some .local:=by first|exact .inl rfl|exact .inr rfl|assumption):wpAny M A (storeName X.env x u) Q E s:=q96 I hN hi hx r (λs' I' z=>h s' I') hf
theorem Inv.call'{s':Shared}{ch:List Addr}(I:Inv X pins σ H s)(ho:s'.os=s.os)(u:Un (frs X.stack) ch H H' s.heap s'.heap)(hok:HOk X.prog X.w H' s'.heap)(hg:AllBare s'.gens)
 (hch:∀b∈ch,(b∈X.ex\/X.s₀.heap.objs.size<=b)/\b≠X.env.locals/\(∀x c,X.env.cells.lookup x=some c->c≠b)/\∀p∈X.pn++pins,p.1≠b):Inv X pins σ H' s':=by(
obtain⟨h',g',d,z,o'⟩:=s'
have e:o'=s.os:=ho
subst e
exact I.call    u hok hg hch)
end
noncomputable abbrev XK:=Value->Option Addr->Hp->Prop
noncomputable abbrev St:=List (Option V)
noncomputable abbrev VK:=V->Hp->Prop
noncomputable abbrev TE:=St->Hp->VK->Prop
noncomputable abbrev TT:=St->Hp->(Bool->Hp->Prop)->Prop
noncomputable abbrev TA:=St->Hp->(List V->Hp->Prop)->Prop
structure Ends where
nx:St->Hp->Prop
rt:VK
bk:St->Hp->Prop:=λ_ _=>False
ct:St->Hp->Prop:=λ_ _=>False
noncomputable abbrev TS:=Ends->St->Hp->Prop
inductive EP(X:Cx)(pins:List (Addr×Obj))(σ:St)(Q:VK)(u:Value)(s':Shared):Prop|mk (v) (H') (I:Inv X pins σ H' s') (r:RelV v u) (q:Q v H'):EP X pins σ Q u s'
inductive TP(X:Cx)(pins:List (Addr×Obj))(σ:St)(Q:Bool->Hp->Prop)(b:Bool)(s':Shared):Prop|mk (H') (I:Inv X pins σ H' s') (q:Q b H'):TP X pins σ Q b s'
inductive AP(X:Cx)(pins:List (Addr×Obj))(σ:St)(Q:List V->Hp->Prop)(us:List Value)(s':Shared):Prop|mk (vs) (H') (I:Inv X pins σ H' s') (r:Vals vs us) (q:Q vs H'):AP X pins σ Q us s'
noncomputable def SP(X:Cx)(pins:List (Addr×Obj))(D:Ends)(f:Flow)(s':Shared):Prop:=match f with
| .next=>∃σ' H',Inv X pins σ' H' s'/\D.nx σ' H'
| .brk=>∃σ' H',Inv X pins σ' H' s'/\D.bk σ' H'
| .cont=>∃σ' H',Inv X pins σ' H' s'/\D.ct σ' H'
| .ret u=>∃v σ' H',Inv X pins σ' H' s'/\RelV v u/\D.rt v H'
noncomputable def PE(X:Cx)(e:Expr)(t:TE):Prop:=∀(pins:List (Addr×Obj)) (s:Shared) (σ:St) (H:Hp) (Q:VK),Inv X pins σ H s->t σ H Q->wpAny (model X.prog X.w) X.A (eval e X.env) (EP X pins σ Q) X.xe s
noncomputable def PT(X:Cx)(e:Expr)(t:TT):Prop:=∀(pins:List (Addr×Obj)) (s:Shared) (σ:St) (H:Hp) (Q:Bool->Hp->Prop),Inv X pins σ H s->t σ H Q->wpAny (model X.prog X.w) X.A (isTrue e X.env (eval e X.env)) (TP X pins σ Q) X.xe s
noncomputable def PW(X:Cx)(e:Expr)(t:TT):Prop:=∀(whole:Sem Value) (pins:List (Addr×Obj)) (s:Shared) (σ:St) (H:Hp) (Q:Bool->Hp->Prop),Inv X pins σ H s->t σ H Q->wpAny (model X.prog X.w) X.A (isTrue e X.env whole) (TP X pins σ Q) X.xe s
theorem PW.pt{t:TT}(h:PW X e t):PT X e t:=h _
noncomputable def PA(X:Cx)(es:List Expr)(t:TA):Prop:=∀(pos:Pos) (pins:List (Addr×Obj)) (s:Shared) (σ:St) (H:Hp) (Q:List V->Hp->Prop),Inv X pins σ H s->t σ H Q->wpAny (model X.prog X.w) X.A (spliced (backTo pos (starEach es X.env))) (AP X pins σ Q) X.xe s
noncomputable def PS(X:Cx)(st:Stmt)(t:TS):Prop:=∀(pins:List (Addr×Obj)) (s:Shared) (σ:St) (H:Hp) (D:Ends),Inv X pins σ H s->t D σ H->wpAny (model X.prog X.w) X.A (exec st X.env) (SP X pins D) X.xe s
noncomputable def PSs(X:Cx)(st:List Stmt)(t:TS):Prop:=∀(pins:List (Addr×Obj)) (s:Shared) (σ:St) (H:Hp) (D:Ends),Inv X pins σ H s->t D σ H->wpAny (model X.prog X.w) X.A (execs st X.env) (SP X pins D) X.xe s
theorem thn{α:Type}{t:Sem α}{Q Q':α->Shared->Prop}{M:Model}{A:Around}{E:Value->Shared->Prop}{s:Shared}(h:wpAny M A t Q E s)(hQ:∀a s,Q a s->Q' a s):wpAny M A t Q' E s:=dM h hQ λz z x=>x
section
variable{X:Cx}
theorem bin{a b:Expr}{ta tb:TE}(ha:PE X a ta)(hb:PE X b tb){pins:List (Addr×Obj)}{s:Shared}{σ:St}{H:Hp}{R:V->V->Hp->Prop}(I:Inv X pins σ H s)(h:ta σ H λx H1=>tb σ H1 λy H2=>R x y H2)
 {α:Type} {Q:α->Shared->Prop} {f:Value->Value->Sem α}
 (hf:∀v u s2 x y H2,Inv X pins σ H2 s2->RelV x v->RelV y u->R x y H2->wpAny (model X.prog X.w) X.A (f v u) Q X.xe s2):
 wpAny (model X.prog X.w) X.A (eval a X.env) (λv s₁=>wpAny (model X.prog X.w) X.A (eval b X.env) (λu s₂=>wpAny (model X.prog X.w) X.A (f v u) Q X.xe s₂) X.xe s₁) X.xe s:=by(
refine thn (ha _ s σ H _ I h) λv N d=>?_
obtain⟨x,H1,S,D,z⟩:=d
refine thn (hb _ N σ H1 _ S z) λu s2 d=>?_
obtain⟨y,H2,O,r2,J⟩:=d
exact hf v u s2 x y H2 O D r2 J)
noncomputable def tVar(i:Nat):TE:=λσ H Q=>∃v,σ[i]?=some (some v)/\Q v H
noncomputable def tC(v:V):TE:=λz H Q=>Q v H
theorem qL6{i:Nat}{x:Str}(hN:X.N[i]?=some x)(hv:Vis X.env.scope x)(hd:(x==("__debug__":Str))=false:=by decide)(hcd:(x==("__classdict__":Str))=false:=by decide):PE X (.Name x pos) (tVar i):=by(
intro pins s σ H Q I h
obtain⟨v,e,h⟩:=h
obtain⟨m,z,hl⟩:=I.loc
obtain⟨u,r,l⟩:=hl i x v hN e hv
have fin:EP X _ σ Q u s:=⟨v,H,I,r,h⟩
rcases l with⟨d,hm⟩|⟨d,c,hc,hcell⟩
.exact bC (lR I.ok.kind d z hm fin) hd
rcases d with d|d
.exact bC (l8 I.ok.kind d hc hcell fin) hd
exact bC (wpAny_loadName_free I.ok.kind d hc hcell fin hcd) hd)
theorem qG{i j pos}:PE X (.Constant (.int i) j pos) (tC (.int i)):=λz z z H z I h=>wpAny_Constant_int ⟨.int i,H,I.tok _,⟨_,rfl⟩,h⟩
theorem q7A{b j pos}:PE X (.Constant (.bool b) j pos) (tC (.bl b)):=λz z z H z I h=>Constant_bool ⟨.bl b,H,I,rfl,h⟩
theorem yZ{j pos}:PE X (.Constant .none j pos) (tC .non):=λz z z H z I h=>Constant_none ⟨.non,H,I,rfl,h⟩
theorem uQ{x j pos}:PE X (.Constant (.str x) j pos) (tC (.str x)):=λz z z H z I h=>Calls.Constant_str ⟨.str x,H,I.tok _,⟨_,rfl⟩,h⟩
noncomputable def Gl(X:Cx)(x:Str):Prop:=X.env.kindOf x=some .globalImplicit
theorem q0E{s:Shared}{x:Str}(I:Inv X pins σ H s)(hg:Gl X x)(hm:X.mg x=some u)(h:Q u s)
 (hd:(x==("__debug__":Str))=false:=by decide):wpAny (model X.prog X.w) X.A (eval (.Name x pos) X.env) Q E s:=sP I.ok.kind hg (Calls.loadGlobal_global (by rw[I.ok.glob];exact I.mod.glob.keeps I.bk) hm h) hd
theorem q26{s:Shared}{x:Str}(I:Inv X pins σ H s)(hg:Gl X x)(hm:X.mg x=none)(hv:bootBuiltins x=some u)(h:Q u s)
 (hn:x≠"__name__":=by decide) (hd:(x==("__debug__":Str))=false:=by decide):wpAny (model X.prog X.w) X.A (eval (.Name x pos) X.env) Q E s:=by obtain⟨d,h1,h2⟩:=I.mod.blt;exact sP I.ok.kind hg (Calls.loadGlobal_builtin (by rw[I.ok.glob];exact I.mod.glob.keeps I.bk) hm (by rw[I.ok.blt];exact h1.keeps I.bk) ((h2 x hn).trans hv) h) hd
theorem yO{x:Str}{v:V}(hg:Gl X x)(hm:X.mg x=some u)(r:RelV v u)(hd:(x==("__debug__":Str))=false:=by decide):PE X (.Name x pos) (tC v):=λz z z H z I h=>q0E I hg hm ⟨v,H,I,r,h⟩ hd
theorem qDF{x:Str}{v:V}(hg:Gl X x)(hm:X.mg x=none)(hv:bootBuiltins x=some u)(r:RelV v u)(hn:x≠"__name__":=by decide)(hd:(x==("__debug__":Str))=false:=by decide):PE X (.Name x pos) (tC v):=λz z z H z I h=>q26 I hg hm hv ⟨v,H,I,r,h⟩ hn hd
variable{a b:Expr}{ta tb:TE}{pos:Pos}
noncomputable def PC(X:Cx)(op:CmpOp)(a b:Expr)(t:TE):Prop:=∀(pins:List (Addr×Obj)) (s:Shared) (σ:St) (H:Hp) (Q:VK),Inv X pins σ H s->t σ H Q->wpAny (model X.prog X.w) X.A (eval a X.env) (λv s₁=>wpAny (model X.prog X.w) X.A (eval b X.env) (λu s₂=>wpAny (model X.prog X.w) X.A (compareOp op v u) (EP X pins σ Q) X.xe s₂) X.xe s₁) X.xe s
noncomputable def tB(t:TE):TT:=λσ H Q=>t σ H λx H1=>∃c,x=.bl c/\Q c H1
theorem qL7{t:TE}(h:PC X op a b t)(h1:behindInMarks op b=false:=by first|exact nobehind _ (by decide) (by decide)|rfl):PE X (.Compare a [op] [b] pos) t:=λpins s σ H Q I hw=>wpAny_Compare1 (h _ s σ H Q I hw) h1
theorem qFH{t:TE}(h:PC X op a b t)(h1:behindInMarks op b=false:=by first|exact nobehind _ (by decide) (by decide)|rfl):PT X (.Compare a [op] [b] pos) (tB t):=by(
intro pins s σ H Q I N
refine lN (thn (h _ s σ H _ I N) λv s1 h1=>thn h1 λu S h2=>thn h2 λc Z D=>?_) h1
obtain⟨x,H1,O,J,z⟩:=D
obtain⟨d,rfl,q⟩:=z
cases J
exact dD ⟨H1,O,q⟩)
theorem yJ{t:TE}(h:PE X e t)(he:∀whole,isTrue e X.env whole=(do let v<-whole;standAt e.pos;holding [v] (truthy v)):=by intro _;rfl):PT X e (tB t):=by(
intro pins s σ H Q I J
refine isTrue_plain (thn (h _ s σ H _ I J) λv S N=>?_) (he _)
obtain⟨x,H1,O,D,z⟩:=N
obtain⟨d,rfl,q⟩:=z
cases D
exact dD ⟨H1,O,q⟩)
variable{tA tB':TT}{rest:List Expr}
noncomputable def tAnd(t u:TT):TT:=λσ H Q=>t σ H λc H1=>if c=true then u σ H1 Q else Q false H1
noncomputable def tOr(t u:TT):TT:=λσ H Q=>t σ H λc H1=>if c=true then Q true H1 else u σ H1 Q
noncomputable def tNot(t:TT):TT:=λσ H Q=>t σ H λc H1=>Q (!c) H1
theorem q6T(ha:PT X a tA):PW X (.BoolOp .And [a] pos) tA:=by(
intro z pins s σ H Q I h
refine isTrue_and (thn (ha _ s σ H Q I h) λc d e=>?_)
cases c with
|true=>exact isTrue_and_nil e
|false=>exact e)
theorem qCG(ha:PT X a tA):PW X (.BoolOp .Or [a] pos) tA:=by(
intro z pins s σ H Q I h
refine isTrue_or (thn (ha _ s σ H Q I h) λc d e=>?_)
cases c with
|false=>exact isTrue_or_nil e
|true=>exact e)
theorem qA2(ha:PT X a tA)(hb:PW X (.BoolOp .And (b::rest) pos) tB'):PW X (.BoolOp .And (a::b::rest) pos) (tAnd tA tB'):=by(
intro D pins s σ H Q I h
refine isTrue_and (thn (ha _ s σ H _ I h) λc N J=>?_)
obtain⟨H1,z,d⟩:=J
cases c with
|true=>exact hb D _ N σ H1 Q z d
|false=>exact⟨H1,z,d⟩)
theorem qDG(ha:PT X a tA)(hb:PW X (.BoolOp .Or (b::rest) pos) tB'):PW X (.BoolOp .Or (a::b::rest) pos) (tOr tA tB'):=by(
intro D pins s σ H Q I h
refine isTrue_or (thn (ha _ s σ H _ I h) λc N J=>?_)
obtain⟨H1,z,d⟩:=J
cases c with
|true=>exact⟨H1,z,d⟩
|false=>exact hb D _ N σ H1 Q z d)
theorem uR(ha:PT X a tA):PT X (.UnaryOp .Not a pos) (tNot tA):=by intro pins s σ H Q I h;exact isTrue_not (thn (ha _ s σ H _ I h) λc z ⟨H1,d,q⟩=>⟨H1,d,q⟩)
noncomputable def qN2(ta tb:TE):TE:=λσ H Q=>ta σ H λx H1=>∃c,x=.bl c/\if c=true then tb σ H1 Q else Q (.bl false) H1
noncomputable def tOrV(ta tb:TE):TE:=λσ H Q=>ta σ H λx H1=>∃c,x=.bl c/\if c=true then Q (.bl true) H1 else tb σ H1 Q
noncomputable def qN3(ta:TE):TE:=λσ H Q=>ta σ H λx H1=>∃c,x=.bl c/\Q (.bl (!c)) H1
theorem q3U{op}{t:TE}(h:PE X a t):PE X (.BoolOp op [a] pos) t:=λpins s σ H Q I hw=>BoolOp_one (h _ s σ H Q I hw)
theorem q7B(ha:PE X a ta)(hb:PE X (.BoolOp .And (b::rest) pos) tb):PE X (.BoolOp .And (a::b::rest) pos) (qN2 ta tb):=by(
intro pins s σ H Q I h
refine BoolOp_and (thn (ha _ s σ H _ I h) λv N J=>?_)
obtain⟨x,H1,z,D,d⟩:=J
obtain⟨c,rfl,d⟩:=d
cases D
refine dD ?_
cases c with
|true=>exact hb _ N σ H1 Q z d
|false=>exact⟨.bl _,H1,z,rfl,d⟩)
theorem qKN(ha:PE X a ta)(hb:PE X (.BoolOp .Or (b::rest) pos) tb):PE X (.BoolOp .Or (a::b::rest) pos) (tOrV ta tb):=by(
intro pins s σ H Q I h
refine BoolOp_or (thn (ha _ s σ H _ I h) λv N J=>?_)
obtain⟨x,H1,z,D,d⟩:=J
obtain⟨c,rfl,d⟩:=d
cases D
refine dD ?_
cases c with
|false=>exact hb _ N σ H1 Q z d
|true=>exact⟨.bl _,H1,z,rfl,d⟩)
theorem qFI(ha:PE X a ta):PE X (.UnaryOp .Not a pos) (qN3 ta):=by(
intro pins s σ H Q I h
refine UnaryOp_ (thn (ha _ s σ H _ I h) λv N D=>?_)
obtain⟨x,H1,J,z,d⟩:=D
obtain⟨c,rfl,d⟩:=d
cases z
exact not_of (dD ⟨.bl _,H1,J,rfl,d⟩))
noncomputable def tIf(t:TT)(ta tb:TE):TE:=λσ H Q=>t σ H λc H1=>if c=true then ta σ H1 Q else tb σ H1 Q
theorem qFJ{c:Expr}(hc:PT X c tA)(ha:PE X a ta)(hb:PE X b tb):PE X (.IfExp c a b pos) (tIf tA ta tb):=by(
intro pins s σ H Q I h
refine wpAny_IfExp (thn (hc _ s σ H _ I h) λd D N=>?_)
obtain⟨H1,z,J⟩:=N
cases d with
|true=>exact ha _ D σ H1 Q z J
|false=>exact hb _ D σ H1 Q z J)
end
noncomputable def SqL(K:PySem.W.Frag)(H:Hp)(a:Addr)(xs:List V):Prop:=Rd H a (.lst xs)\/∃(o:Obj) (its:Array Value) (n:Nat),K.lookup a=some o/\o.cls=.type "list"/\o.dict=none/\o.data=.seq its n/\its.size<=sizeLine/\Vals xs its.toList
noncomputable def SqT(K:PySem.W.Frag)(H:Hp)(a:Addr)(xs:List V):Prop:=Rd H a (.tup xs)\/∃(o:Obj) (its:Array Value) (n:Nat),K.lookup a=some o/\o.cls=.type "tuple"/\o.data=.seq its n/\its.size<=sizeLine/\Vals xs its.toList
noncomputable def absV:Value->Option V
| .none=>some .non
| .bool b=>some (.bl b)
| .int i _=>some (.int i)
| .str x _=>some (.str x)
| .bytes b _=>some (.byt b)
| .float b _=>some (.flt b)
| .ref a=>some (.ref a)
| .type n=>some (.ty n)
|_=>none
theorem RelV.abs{x:V}(r:RelV x u):absV u=some x:=by(
cases x with
|non=>cases r;rfl
|bl _=>cases r;rfl
|int _=>obtain⟨t,rfl⟩:=r;rfl
|str _=>obtain⟨t,rfl⟩:=r;rfl
|byt _=>obtain⟨t,rfl⟩:=r;rfl
|flt _=>obtain⟨t,rfl⟩:=r;rfl
|ref _=>cases r;rfl
|ty _=>cases r;rfl)
theorem RelV.inj{x y:V}(r:RelV x u)(q:RelV y u):x=y:=kU (r.abs.symm.trans q.abs)
theorem Vals.inj(h:Vals xs us):Vals ys us->xs=ys:=by(
induction h generalizing ys with
|nil=>exact λg=>by cases g;rfl
|cons r t d=>
 intro g;cases g with
 |cons z D=>rw[r.inj z,d D])
section
variable{X:Cx}{pins:List (Addr×Obj)}{σ:St}{H:Hp}{s:Shared}{a:Addr}{xs ys:List V}
theorem SqL.of{K:PySem.W.Frag}(h:H a=some (.lst xs)):SqL K H a xs:=.inl (.inl h)
theorem SqT.of{K:PySem.W.Frag}(h:H a=some (.tup xs)):SqT K H a xs:=.inl (.inl h)
theorem Inv.list(I:Inv X pins σ H s)(h:SqL X.K H a xs):∃its:List Value,Vals xs its/\PlainL s.heap a its.toArray/\xs.length<=sizeLine:=by(
rcases h with h|⟨o,its,n,d,J,D,O,N,r⟩
.obtain⟨z,its,n,r,e⟩:=h.ok I.hok;exact⟨its,r,⟨_,n,e,rfl,rfl,rfl⟩,z⟩
refine⟨its.toList,r,⟨o,n,I.kIn a o d,J,D,by assumption⟩,?_⟩
have e:=r.length
simp_all)
theorem Inv.tuple(I:Inv X pins σ H s)(h:SqT X.K H a xs):∃its:List Value,Vals xs its/\IsTup s.heap a its.toArray/\xs.length<=sizeLine:=by(
rcases h with h|⟨o,its,n,d,D,N,J,r⟩
.obtain⟨z,its,r,p⟩:=h.ok I.hok;exact⟨its,r,p,z⟩
refine⟨its.toList,r,⟨o,I.kIn a o d,D,n,by assumption⟩,?_⟩
have e:=r.length
simp_all)
theorem Inv.list_inj(I:Inv X pins σ H s)(h:SqL X.K H a xs)(h':SqL X.K H a ys):xs=ys:=by(
obtain⟨N,r,⟨o,n,e,_,_,d⟩,_⟩:=I.list h
obtain⟨J,O,⟨o',S,z,_,_,D⟩,_⟩:=I.list h'
rw[e]at z;cases z
rw[d]at D
injection D with d1 _
have:=by simpa using dW Array.toList d1
subst this
exact r.inj O)
end
noncomputable abbrev Cx.wish(X:Cx)(E:Value->Shared->Prop):Cx:={ X with xe:=E }
noncomputable abbrev Cx.nox(X:Cx):Cx:=X.wish λz z=>False
theorem Cx.Ok.wish{X:Cx}(ok:X.Ok)(E:Value->Shared->Prop):(X.wish E).Ok:=⟨ok.mod,ok.kind,ok.glob,ok.blt,ok.above,ok.inj,ok.has,ok.cab,ok.hd,ok.frames,ok.stk,ok.exf,ok.bs,ok.bsz,ok.noex,ok.exfs,ok.funs,ok.frf⟩
theorem Cx.Ok.unwish{X:Cx}(ok:(X.wish E).Ok):X.Ok:=⟨ok.mod,ok.kind,ok.glob,ok.blt,ok.above,ok.inj,ok.has,ok.cab,ok.hd,ok.frames,ok.stk,ok.exf,ok.bs,ok.bsz,ok.noex,ok.exfs,ok.funs,ok.frf⟩
section
variable{X:Cx}{pins:List (Addr×Obj)}{σ:St}{H:Hp}{s:Shared}{E:Value->Shared->Prop}
theorem Inv.wish(I:Inv X pins σ H s)(E:Value->Shared->Prop):Inv (X.wish E) pins σ H s:=⟨I.ok.wish E,I.os,I.bare,I.base,I.loc,I.cell,I.free,I.freeC,I.pin,I.hok,I.len⟩
theorem Inv.unwish(I:Inv (X.wish E) pins σ H s):Inv X pins σ H s:=⟨I.ok.unwish,I.os,I.bare,I.base,I.loc,I.cell,I.free,I.freeC,I.pin,I.hok,I.len⟩
theorem SP.unwish{f:Flow}(h:SP (X.wish E) pins D f s'):SP X pins D f s':=by(
cases f with
|next=>obtain⟨d,H',I,q⟩:=h;exact⟨d,H',I.unwish,q⟩
|brk=>obtain⟨d,H',I,q⟩:=h;exact⟨d,H',I.unwish,q⟩
|cont=>obtain⟨d,H',I,q⟩:=h;exact⟨d,H',I.unwish,q⟩
|ret u=>obtain⟨v,d,H',I,r,q⟩:=h;exact⟨v,d,H',I.unwish,r,q⟩)
theorem PSs.nox{st:List Stmt}{t:TS}(h:PSs X.nox st t):PSs X st t:=λpins s σ H D I hw=>dM (h _ s σ H D (I.wish _) hw) (λd d q=>q.unwish) λd d z=>False.elim z
end
section
variable{X:Cx}{st:Stmt}{rest:List Stmt}{t u:TS}{e:Expr}{te:TE}{pos:Pos}
noncomputable def qN4:TS:=λD σ H=>D.nx σ H
noncomputable def tSeq(t u:TS):TS:=λD σ H=>t { D with nx:=u D } σ H
theorem qT:PSs X [] qN4:=λz z σ H z I h=>sC ⟨σ,H,I,h⟩
theorem qB(h1:PS X st t)(h2:PSs X rest u):PSs X (st::rest) (tSeq t u):=by(
intro pins s σ H D I h
refine wpAny_execs_cons (thn (h1 _ s σ H _ I h) λf J q=>?_)
cases f with
|next=>obtain⟨z,H',d,q⟩:=q;exact h2 _ J z H' D d q
|ret v=>exact q
|brk=>exact q
|cont=>exact q)
theorem qC(h1:PS X st t):PSs X [st] t:=by(
intro pins s σ H D I h
refine wpAny_execs_cons (thn (h1 _ s σ H D I h) λf d q=>?_)
cases f with
|next=>exact sC q
|ret v=>exact q
|brk=>exact q
|cont=>exact q)
theorem Inv.quiet{s:Shared}(I:Inv X pins σ H s):interactive X.env=false:=by simp[interactive,I.ok.kind]
noncomputable def qN5(te:TE):TS:=λD σ H=>te σ H λz H1=>D.nx σ H1
theorem j8(he:PE X e te)(hs:swapsWith e none pos.line X.env=pure false:=by rfl):PS X (.Expr e pos) (qN5 te):=by intro pins s σ H D I h;exact wpAny_Expr_any (thn (he _ s σ H _ I h) λv N ⟨x,H1,d,J,z⟩=>⟨σ,H1,d,z⟩) I.quiet hs
noncomputable def tRet(te:TE):TS:=λD σ H=>te σ H D.rt
theorem qL(he:PE X e te):PS X (.Return (some e) pos) (tRet te):=by intro pins s σ H D I h;exact wpAny_Return_some (thn (he _ s σ H _ I h) λv N ⟨x,H1,z,d,J⟩=>⟨x,σ,H1,z,d,J⟩)
noncomputable def tIfS(c:TT)(t u:TS):TS:=λD σ H=>c σ H λb H1=>if b=true then t D σ H1 else u D σ H1
theorem jG{c:Expr}{a b:List Stmt}(hc:PT X c tc)(ha:PSs X a t)(hb:PSs X b u):PS X (.If c a b pos) (tIfS tc t u):=by(
intro pins s σ H D I h
refine wpAny_If (thn (hc _ s σ H _ I h) λd J O=>?_)
obtain⟨H1,z,N⟩:=O
cases d with
|true=>exact ha _ J σ H1 D z N
|false=>exact hb _ J σ H1 D z N)
noncomputable def qL8:TS:=λz z z=>False
theorem jD:PS X st qL8:=λz z z z z z h=>h.elim
end
noncomputable abbrev TG:=V->St->Hp->(St->Hp->Prop)->Prop
noncomputable abbrev TGs:=List V->St->Hp->(St->Hp->Prop)->Prop
noncomputable def PG(X:Cx)(target:Expr)(t:TG):Prop:=∀(pins:List (Addr×Obj)) (s:Shared) (σ:St) (H:Hp) (v:V) (u:Value) (Q:St->Hp->Prop),Inv X pins σ H s->RelV v u->t v σ H Q->wpAny (model X.prog X.w) X.A (assign target X.env u) (λz s'=>∃σ' H',Inv X pins σ' H' s'/\Q σ' H') X.xe s
noncomputable def PGs(X:Cx)(ts:List Expr)(t:TGs):Prop:=∀(pins:List (Addr×Obj)) (s:Shared) (σ:St) (H:Hp) (vs:List V) (us:List Value) (Q:St->Hp->Prop),Inv X pins σ H s->Vals vs us->t vs σ H Q->wpAny (model X.prog X.w) X.A (assignInOrder ((assignEach ts X.env).map (·.2)) us) (λz s'=>∃σ' H',Inv X pins σ' H' s'/\Q σ' H') X.xe s
noncomputable abbrev TSet:=V->V->V->Hp->(Hp->Prop)->Prop
noncomputable def PSet(X:Cx)(t:TSet):Prop:=∀(pins:List (Addr×Obj)) (s:Shared) (σ:St) (H:Hp) (o i v:V) (ov iv u:Value) (Q:Hp->Prop),Inv X pins σ H s->RelV o ov->RelV i iv->RelV v u->t o i v H Q->wpAny (model X.prog X.w) X.A (setItem ov iv u) (λz s'=>∃H',Inv X pins σ H' s'/\Q H') X.xe s
noncomputable abbrev TIp:=V->V->Hp->VK->Prop
noncomputable def PIp(X:Cx)(op:Operator)(t:TIp):Prop:=∀(pins:List (Addr×Obj)) (s:Shared) (σ:St) (H:Hp) (x y:V) (v u:Value) (Q:VK),Inv X pins σ H s->RelV x v->RelV y u->t x y H Q->wpAny (model X.prog X.w) X.A (inplaceOp op v u) (EP X pins σ Q) X.xe s
section
variable{X:Cx}{pos:Pos}
noncomputable def q3N(i:Nat):TG:=λv σ H Q=>Q (σ.set i (some v)) H
theorem jE{i:Nat}{x:Str}(hN:X.N.Nodup)(hi:X.N[i]?=some x:=by rfl)(hx:Loc X.env.scope x:=by first|exact Or.inl rfl|exact Or.inr rfl)(hf:X.fn x=true\/X.env.scope.names.lookup x=some .local:=by first|exact .inl rfl|exact .inr rfl|assumption):PG X (.Name x pos) (q3N i):=by intro pins s σ H v u Q I r h;exact xV (q79 I hN hi hx r (λs' d=>⟨_,H,d,h⟩) hf)
noncomputable def gNil:TGs:=λvs σ H Q=>vs=[]/\Q σ H
noncomputable def qKO(t:TG)(u:TGs):TGs:=λvs σ H Q=>∃v r,vs=v::r/\t v σ H λσ' H'=>u r σ' H' Q
theorem q6U:PGs X [] gNil:=by(
intro pins s σ H d z Q I r h
obtain⟨e,h⟩:=h
subst e
exact assignInOrder_nil ⟨σ,H,I,h⟩)
theorem zB{e:Expr}{t:TG}(h1:PG X e t)(h2:PGs X es u)
 (hs:(assignEach (e::es) X.env).map (·.2)=assign e X.env::(assignEach es X.env).map (·.2):=by rfl):PGs X (e::es) (qKO t u):=by(
intro pins s σ H Z us Q I r h
obtain⟨v,vr,O,h⟩:=h
subst O
cases r with
|cons r J=>rw[hs];refine assignInOrder_cons (thn (h1 _ s σ H _ _ _ I r h) λ_ z N=>?_);obtain⟨D,H1,S,d⟩:=N;exact h2 _ z D H1 _ _ Q S J d)
noncomputable def gTup(K:PySem.W.Frag)(n:Nat)(t:TGs):TG:=λv σ H Q=>∃a xs,v=.ref a/\SqT K H a xs/\xs.length=n/\t xs σ H Q
theorem qA3{k:Nat}{t:TGs}{n:Nat}(hc:X.calm=true)(h:PGs X es t)
 (hn:(assignEach es X.env).length=n:=by rfl) (hst:(assignEach es X.env).findIdx? (·.1)=none:=by rfl):PG X (.Tuple es k pos) (gTup X.K n t):=by(
intro pins s σ H v u Q I r d
obtain⟨a,xs,O,D,hl,d⟩:=d
subst O
cases r
obtain⟨z,S,N,hz⟩:=I.tuple D
refine assign_Tuple_tuple (I.ok.hd hc) N (by simp[hn,<-hl,S.length]) hst λh' J=>?_
have Z:=I.kept (t':=s.toks) λb o e=>J b o (mY (mE e)) e
exact h pins _ σ H xs _ Q Z (by simp_all) d)
noncomputable def gSub(to ti:TE)(t:TSet):TG:=λv σ H Q=>to σ H λo H1=>ti σ H1 λi H2=>t o i v H2 λH3=>Q σ H3
theorem q7C{o i:Expr}{t:TSet}(ho:PE X o to)(hi:PE X i ti)(hs:PSet X t)
 (ha:∀v,assign (.Subscript o i pos) X.env v=(do
  let ov<-holding [v] (eval o X.env)
  let iv<-holding [v,ov] (eval i X.env)
  standAt pos
  holding [v,ov,iv] (setItem ov iv v)
  release [v,ov,iv] []):=by intro _;rfl):PG X (.Subscript o i pos) (gSub to ti t):=by(
intro pins s σ H v u Q I r h
rw[ha]
refine hX (g5 (thn (ho _ s σ H _ I h) λov s1 d=>?_))
obtain⟨x,H1,I1,J,D⟩:=d
refine hX (g5 (thn (hi _ s1 σ H1 _ I1 D) λiv Z d=>?_))
obtain⟨y,H2,I2,r2,O⟩:=d
refine hX (nL (hX (g5 (thn (hs _ Z σ H2 x y v ov iv u _ I2 J r2 r O) λ_ s3 d=>?_))))
obtain⟨z,N,S⟩:=d
exact wpAny_release ⟨σ,z,N,S⟩)
noncomputable def tAsg(te:TE)(g:TG):TS:=λD σ H=>te σ H λx H1=>g x σ H1 D.nx
theorem q7D(he:PE X e te)(hg:PG X tg g)(hs:swapsWithSole [tg] e pos.line X.env=pure false:=by rfl)(hw:swappedStores [tg] e X.env=pure none:=by rfl)
 (h1:(assignEach [tg] X.env).map (·.2)=[assign tg X.env]:=by rfl):PS X (.Assign [tg] e pos) (tAsg te g):=by(
intro pins s σ H D I h
refine wpAny_Assign_stores (thn (he _ s σ H _ I h) λv N J=>?_) hs hw
obtain⟨x,H1,O,z,d⟩:=J
rw[h1]
exact thn (hg _ N σ H1 x v _ O z d) λZ S q=>q)
theorem qO{i:Nat}{x:Str}(hN:X.N.Nodup)(he:PE X e te)(hi:X.N[i]?=some x:=by rfl)(hx:Loc X.env.scope x:=by first|exact Or.inl rfl|exact Or.inr rfl)(hs:swapsWith e (some (.Name x pos')) pos.line X.env=pure false:=by rfl)(hf:X.fn x=true\/X.env.scope.names.lookup x=some .local:=by first|exact .inl rfl|exact .inr rfl|assumption):
 PS X (.Assign [.Name x pos'] e pos) (tAsg te (q3N i)):=by(
intro pins s σ H D I h
refine wpAny_Assign_Name (thn (he _ s σ H _ I h) λv s1 J=>?_) hs
obtain⟨y,H1,S,z,d⟩:=J
exact q79 S hN hi hx z (λZ O=>⟨_,H1,O,d⟩) hf)
noncomputable def tAug(i:Nat)(te:TE)(ti:TIp):TS:=λD σ H=>∃x,σ[i]?=some (some x)/\te σ H λy H1=>ti x y H1 λz H2=>D.nx (σ.set i (some z)) H2
theorem qL9{i:Nat}{x:Str}(hN:X.N.Nodup)(hi:X.N[i]?=some x)(hx:Loc X.env.scope x)(he:PE X e te)(ho:PIp X op ti)(hf:X.fn x=true\/X.env.scope.names.lookup x=some .local:=by first|exact .inl rfl|exact .inr rfl|assumption):
 PS X (.AugAssign (.Name x pos') op e pos) (tAug i te ti):=by(
intro pins s σ H D I h
obtain⟨v,e1,h⟩:=h
obtain⟨m,hn,hl⟩:=I.loc
have J:Vis X.env.scope x:=by rcases hx with k|k;exact .inl k;exact .inr (.inl k)
obtain⟨u,r,l⟩:=hl i x v hi e1 J
refine wpAny_AugAssign_Name ?_
have S:wpAny (model X.prog X.w) X.A (eval e X.env) (λw ai=>wpAny (model X.prog X.w) X.A (inplaceOp op u w) (λr Z=>wpAny (model X.prog X.w) X.A (storeName X.env x r) (λz=>SP X pins D .next) X.xe Z) X.xe ai) X.xe s:=by refine thn (he pins s σ H _ I h) λw s1 O=>?_;obtain⟨y,H1,I1,r1,q1⟩:=O;refine thn (ho pins s1 σ H1 v y u w _ I1 r r1 q1) λz s2 O=>?_;obtain⟨zv,H2,I2,r2,q2⟩:=O;exact q79 I2 hN hi hx r2 (λs3 I3=>⟨_,H2,I3,q2⟩) hf
rcases l with⟨d,hm⟩|⟨d,c,hc,hcell⟩
.exact lR I.ok.kind d hn hm S
rcases d with d|d
.exact l8 I.ok.kind d hc hcell S
rcases hx with k|k
.have:X.env.scope.names.lookup x=some .free:=d;rw[k]at this;cases this
have:X.env.scope.names.lookup x=some .free:=d
rw[k]at this;cases this)
noncomputable def qN6(to ti te:TE)(tget:V->V->Hp->VK->Prop)(tip:TIp)(tset:TSet):TS:=λD σ H=>to σ H λo H1=>ti σ H1 λi H2=>tget o i H2 λx H3=>te σ H3 λy H4=>tip x y H4 λz H5=>tset o i z H5 λH6=>D.nx σ H6
noncomputable def PGet(X:Cx)(t:V->V->Hp->VK->Prop):Prop:=∀(pins:List (Addr×Obj)) (s:Shared) (σ:St) (H:Hp) (o i:V) (ov iv:Value) (Q:VK),Inv X pins σ H s->RelV o ov->RelV i iv->t o i H Q->wpAny (model X.prog X.w) X.A (getItem ov iv) (EP X pins σ Q) X.xe s
theorem q4M{o i:Expr}(ho:PE X o to)(hi:PE X i ti)(hg:PGet X tget)(he:PE X e te)(hp:PIp X op tip)(hs:PSet X tset)
 (ha:∀ov iv new,augStore i ov iv new=(do holding [new,ov,iv] (setItem ov iv new);release [new,ov,iv] [];pure .next):=by intros;rfl):PS X (.AugAssign (.Subscript o i tpos) op e pos) (qN6 to ti te tget tip tset):=by(
intro pins s σ H D I h
refine wpAny_AugAssign_SubscriptAny (thn (ho _ s σ H _ I h) λov s1 d=>?_) ha
obtain⟨J,H1,I1,N,q1⟩:=d
refine thn (hi _ s1 σ H1 _ I1 q1) λiv s2 d=>?_
obtain⟨O,H2,I2,r2,Z⟩:=d
refine thn (hg _ s2 σ H2 J O ov iv _ I2 N r2 Z) λz s3 d=>?_
obtain⟨x3,H3,I3,r3,q3⟩:=d
refine thn (he _ s3 σ H3 _ I3 q3) λv s4 d=>?_
obtain⟨x4,H4,I4,r4,q4⟩:=d
refine thn (hp _ s4 σ H4 x3 x4 z v _ I4 r3 r4 q4) λnew s5 d=>?_
obtain⟨x5,H5,I5,r5,q5⟩:=d
exact thn (hs _ s5 σ H5 J O x5 ov iv new _ I5 N r2 r5 q5) λ_ s6 ⟨H6,I6,S⟩=>⟨σ,H6,I6,S⟩)
noncomputable def ipI(f:Int->Int->Int):TIp:=λx y H Q=>∃i j,x=.int i/\y=.int j/\Q (.int (f i j)) H
theorem q7E:PIp X .Add (ipI λi j=>i+j):=by(
intro pins s σ H x y v u Q I d r2 h
obtain⟨i,j,D,z,q⟩:=h
subst D;subst z
obtain⟨t,rfl⟩:=d
obtain⟨J,rfl⟩:=r2
exact iadd_int ⟨.int _,H,I.tok _,⟨_,rfl⟩,q⟩)
theorem qLA:PIp X .Sub (ipI λi j=>i-j):=by(
intro pins s σ H x y v u Q I d r2 h
obtain⟨i,j,D,z,q⟩:=h
subst D;subst z
obtain⟨t,rfl⟩:=d
obtain⟨J,rfl⟩:=r2
exact isub_int ⟨.int _,H,I.tok _,⟨_,rfl⟩,q⟩)
end
section
variable{X:Cx}{pos:Pos}
noncomputable def qLB(c:TT)(tb:TS):TS:=λD σ H=>∃W:Nat->St->Hp->Prop,(∃m,W m σ H)/\∀m σ H,W m σ H->c σ H λb H1=>if b=true then ∃N:St->Hp->Prop,(∀σ' H',N σ' H'->∃m',m'<m/\W m' σ' H')/\tb { D with nx:=N,ct:=N,bk:=D.nx } σ H1 else D.nx σ H1
theorem q4N{c:Expr}{tb:TS}(hp:PassesOwn (model X.prog X.w) X.A X.env X.xe)(hc:PT X c tc)(hb:PSs X body tb):PS X (.While c body [] pos) (qLB tc tb):=by(
intro pins s σ H D I h
obtain⟨W,⟨m0,w0⟩,turn⟩:=h
refine wpAny_While (codeAny_whileLoop (λn s'=>∃σ' H',Inv X pins σ' H' s'/\W n σ' H') ?_ m0 ⟨σ,H,I,w0⟩)
rintro n s1 ⟨O,H1,I1,w1⟩
refine wK hp (thn (hc pins s1 O H1 _ I1 (turn n O H1 w1)) λb s2 hZ=>?_)
obtain⟨H2,I2,J⟩:=hZ
cases b with
|true=>
 obtain⟨N,hN,J⟩:=J;rw[kD rfl];refine wK hp (thn (hb pins s2 O H2 _ I2 J) λf s3 S=>?_);cases f with
 |next=>obtain⟨d,z,I3,n3⟩:=S;obtain⟨Z,hm,w3⟩:=hN d z n3;exact⟨Z,hm,d,z,I3,w3⟩
 |cont=>obtain⟨d,z,I3,n3⟩:=S;obtain⟨Z,hm,w3⟩:=hN d z n3;exact⟨Z,hm,d,z,I3,w3⟩
 |brk=>exact S
 |ret v=>exact S
|false=>rw[hU kX];exact sC ⟨O,H2,I2,J⟩)
end
structure It where
go:Nat->Hp->Prop
yld:Nat->Hp->V->Hp->Prop
stop:Nat->Hp->Prop
noncomputable def FpOk(X:Cx)(pins:List (Addr×Obj))(H:Hp)(b:Addr):Prop:=H b=none/\b≠X.env.locals/\b∉X.fs/\(b∈X.ex\/X.s₀.heap.objs.size<=b)/\(∀x c,X.env.cells.lookup x=some c->c≠b)/\∀p∈X.pn++pins,p.1≠b
theorem Inv.fpOk{s:Shared}{b:Addr}(I:Inv X pins σ H s)(hb:s.heap.objs.size<=b)(hn:H' b=none):FpOk X pins H' b:=by(
refine⟨hn,rZ (mZ I.lt hb),I.nofs hb,.inr (mO I.sz hb),λx c e z=>?_,λp d z=>?_⟩
.obtain⟨v,q⟩:=I.cell x c e;exact absurd (mZ q.lt (by simp_all)) (dX _)
exact absurd (mZ (mE (I.pin p d).1) (by simp_all)) (dX _))
structure Turn(P:Program)(w:World)(K:PySem.W.Frag)(tg:Expr)(J:It)(fp:List Addr)(it:Addr)(tn:Nat->Heap->Prop):Prop where
mem:it∈fp
obj:∀i h,tn i h->∀b∈fp,∃o,h.get? b=some o/\∀v,o.data≠ .cell v
keep:∀i h h',tn i h->(∀b∈fp,∀o,h.get? b=some o->h'.get? b=some o)->tn i h'
item:∀(X:Cx),X.prog=P->X.w=w->X.K=K->X.calm=true->∀(i:Nat) (pins:List (Addr×Obj)) (s:Shared) (σ:St) (H:Hp) (E:Value->Shared->Prop),Inv X pins σ H s->(∀b∈fp,FpOk X pins H b)->tn i s.heap->J.go i H->wpAny (model P w) X.A (pyNext (.ref it)) (λr s1=>∃u,r=some u/\wpAny (model P w) X.A (letOwnedTupleGo tg (.ref it) u) (λ_ s2=>∃x H',Inv X pins σ H' s2/\RelV x u/\J.yld i H x H'/\tn (i+1) s2.heap/\∀b∈fp,H' b=none) E s1) E s
done:∀(X:Cx),X.prog=P->X.w=w->X.K=K->X.calm=true->∀(i:Nat) (pins:List (Addr×Obj)) (s:Shared) (σ:St) (H:Hp) (E:Value->Shared->Prop),Inv X pins σ H s->(∀b∈fp,FpOk X pins H b)->tn i s.heap->J.stop i H->wpAny (model P w) X.A (pyNext (.ref it)) (λr s1=>r=none/\Inv X pins σ H s1) E s
self:∀(A:Around) (i:Nat) (s:Shared) (Q:Value->Shared->Prop) (E:Value->Shared->Prop),tn i s.heap->Q (.ref it) s->wpAny (model P w) A (pyIter (.ref it)) Q E s
noncomputable abbrev TI:=St->Hp->(It->Hp->Prop)->Prop
noncomputable def PIE(X:Cx)(pins:List (Addr×Obj))(σ:St)(tg:Expr)(R:It->Hp->Prop)(itv:Value)(s2:Shared):Prop:=∃(it:Addr) (fp:List Addr) (tn:Nat->Heap->Prop) (J:It) (H':Hp),itv=.ref it/\Inv X pins σ H' s2/\Turn X.prog X.w X.K tg J fp it tn/\tn 0 s2.heap/\(∀b∈fp,FpOk X pins H' b)/\R J H'
noncomputable def PI(X:Cx)(tg iter:Expr)(wi:TI):Prop:=∀(pins:List (Addr×Obj)) (s:Shared) (σ:St) (H:Hp) (R:It->Hp->Prop),Inv X pins σ H s->wi σ H R->wpAny (model X.prog X.w) X.A (eval iter X.env) (λv s1=>wpAny (model X.prog X.w) X.A (pyIter v) (PIE X pins σ tg R) X.xe s1) X.xe s
theorem qFK{s:Shared}{o:Obj}{n:String}(ho:s.heap.get? it=some o)(hc:o.cls=.type n)(hd:o.data=.fields vs)
 (hn:["enumerate","zip","dict_itemiterator","dict_reverseitemiterator","odict_iterator","itertools.zip_longest","itertools.pairwise"].contains n=false) (hQ:Q () s):wpAny M A (letOwnedTupleGo tg (.ref it) u) Q E s:=by(
unfold letOwnedTupleGo
cases tg<;>first
 |exact kW hQ
 |(cases u<;>first
  |exact kW hQ
  |(refine hX (wpAny_load ho ?_)
    rw[hc,hd];show wpAny M A (if(["enumerate","zip","dict_itemiterator","dict_reverseitemiterator","odict_iterator","itertools.zip_longest","itertools.pairwise"].contains n&&vs[0]?==some (rawInt _))=true then _ else _) Q E s;rw[hU (by intro h;rw[hn,Bool.false_and]at h;cases h)];exact kW hQ)))
noncomputable def Itl(K:PySem.W.Frag)(a:Addr):It:=⟨λi H=>∃xs x,SqL K H a xs/\xs[i]?=some x,λi H x H'=>H'=H/\∀xs,SqL K H a xs->xs[i]?=some x,λi H=>∃xs,SqL K H a xs/\xs.length<=i⟩
noncomputable def Itr(lo:Int)(n:Nat):It:=⟨λi z=>i<n,λi H x H'=>H'=H/\x=.int (lo+i),λi z=>n<=i⟩
theorem qES{P:Program}{w:World}{K:PySem.W.Frag}(a it:Addr):Turn P w K tg (Itl K a) [it] it (λi h=>h.IsListIter it a i) where
mem:=by simp
obj:=λi h st b D=>by
 have e:b=it:=by simpa using D
 subst e;obtain⟨o,e,c,d⟩:=st;exact⟨o,e,λv z=>by rw[d]at z;cases z⟩
keep:=λi h h' st k=>st.at λo e=>k it (by simp) o e
item:=by intro X hP hw S hc i pins s σ H E I O st hg;subst hP hw S;obtain⟨xs,x,N,hx⟩:=hg;obtain⟨aa,rv,p,hz⟩:=I.list N;obtain⟨u,hu,ru⟩:=rv.get hx;obtain⟨f0,f1,f2,Z,f4,f5⟩:=O it (by simp);refine wpAny_pyNext_list_item st p.isList (x:=u) (by simpa using hu) λh' J sb=>?_;have I1:Inv X pins σ H { s with heap:=h' }:=I.turned (t':=s.toks) (λb o D e=>(sb.2 b D).trans e) f0 f1 Z f4 f5;obtain⟨o,e,c,d⟩:=id J;exact⟨u,rfl,qFK (s:={ s with heap:=h' }) e c d (by decide) ⟨x,H,I1,ru,⟨rfl,λys hy=>by rw[I.list_inj hy N];exact hx⟩,J,λb D=>(O b D).1⟩⟩
done:=by intro X hP hw S hc i pins s σ H E I O st hg;subst hP hw S;obtain⟨xs,N,hx⟩:=hg;obtain⟨aa,rv,p,hz⟩:=I.list N;obtain⟨f0,f1,f2,Z,f4,f5⟩:=O it (by simp);have hl:=rv.length;exact wpAny_pyNext_list_end (I.ok.hd hc) st p.isList (by simp;lia) λh' eb=>⟨rfl,I.turned (t':=s.toks) (λb o D e=>eb b o D e) f0 f1 Z f4 f5⟩
self:=λz z z z z st h=>wpAny_pyIter_listiter st h
theorem qCH{P:Program}{w:World}{K:PySem.W.Frag}(it:Addr)(lo:Int)(n:Nat):Turn P w K tg (Itr lo n) [it] it (λi h=>IsRangeIter h it (lo+(i:Nat)*1) ((n:Int)-(i:Nat)) 1) where
mem:=by simp
obj:=λi h st b d=>by
 have e:b=it:=by simpa using d
 subst e;exact⟨_,st,λv z=>by have z':Data.fields _=Data.cell v:=z;cases z'⟩
keep:=λi h h' st k=>k it (by simp) _ st
item:=by intro X hP hw hK hc i pins s σ H E I J st hg;subst hP hw hK;obtain⟨f0,O,f2,N,S,Z⟩:=J it (by simp);have W:=Walks.range (prog:=X.prog) (w:=X.w) (I.ok.hd hc) it lo 1 n;refine W.item i s _ _ hg st λv h' tk hv D kk=>?_;obtain⟨t,rfl⟩:=hv;have I1:Inv X pins σ H { s with heap:=h',toks:=tk }:=I.turned (λb o d e=>kk b o (by simpa using d) e) f0 O N S Z;refine⟨_,rfl,qFK (s:={ s with heap:=h',toks:=tk }) (n:="range_iterator") D rfl rfl (by decide) ⟨.int (lo+i),H,I1,⟨t,?_⟩,⟨rfl,rfl⟩,D,λb d=>(J b d).1⟩⟩;rw[Int.mul_one]
done:=by intro X hP hw hK hc i pins s σ H E I J st hg;subst hP hw hK;obtain⟨f0,O,f2,N,S,Z⟩:=J it (by simp);exact wpAny_pyNext_range_end (I.ok.hd hc) st (by have:n<=i:=hg;lia) λh' eb=>⟨rfl,I.turned (t':=s.toks) (λb o d e=>eb b o d e) f0 O N S Z⟩
self:=λz z z z z st h=>wpAny_pyIter_rangeiter st h
section
variable{X:Cx}{tg:Expr}
noncomputable def qN7(K:PySem.W.Frag)(tl:TE):TI:=λσ H R=>tl σ H λx H1=>∃a,x=.ref a/\(∃xs,SqL K H1 a xs)/\R (Itl K a) H1
theorem yA{l:Expr}{tl:TE}(hl:PE X l tl):PI X tg l (qN7 X.K tl):=by(
intro pins s σ H R I h
refine thn (hl _ s σ H _ I h) λv z Z=>?_
obtain⟨x,H1,d,O,D⟩:=Z
obtain⟨a,e,⟨xs,N⟩,q⟩:=D
subst e
cases O
obtain⟨J,rv,p,hz⟩:=d.list N
refine xW p.isList ?_
refine⟨z.heap.objs.size,[z.heap.objs.size],_,_,H1,rfl,d.kept  λb o e=>kJ _ e,qES a _,⟨_,mW _ rfl,rfl,rfl⟩,λb S=>?_,q⟩
have e:=by simpa using S
subst e
exact d.fpOk (kO _) (d.hok.fresh (kO _)))
theorem qB3{pins:List (Addr×Obj)}{σ:St}{H:Hp}{s:Shared}{R:It->Hp->Prop}{E:Value->Shared->Prop}{lo hi:Int}{t u v:Tok}{tk:Nat}(I:Inv X pins σ H s)(h1:-(2 ^ 62)<=lo)(h2:lo<2 ^ 62)(h3:-(2 ^ 62)<=hi)(h4:hi<2 ^ 62)
 (q:R (Itr lo (hi-lo).toNat) H):wpAny (model X.prog X.w) X.A (pyIter (.ref s.heap.objs.size)) (PIE X pins σ tg R) E { s with heap:=s.heap.push { cls:=.type "range",data:=.fields #[.int lo t,.int hi u,.int 1 v] },toks:=tk }:=by(
refine wpAny_pyIter_range (IsRange.new ..) (small_one h1 h2 h3 h4) ?_
have d:Inv X pins σ H { s with heap:=s.heap.push { cls:=.type "range",data:=.fields #[.int lo t,.int hi u,.int 1 v] },toks:=tk }:=I.kept λb o e=>kJ _ e
refine⟨(s.heap.push _).objs.size,[(s.heap.push _).objs.size],_,_,H,rfl,d.kept (t':=tk) λb o e=>kJ _ e,qCH _ lo (hi-lo).toNat,?_,λb J=>?_,q⟩
.have D:lo+((0:Nat):Int)*1=lo:=by simp
 have z:(((hi-lo).toNat:Nat):Int)-((0:Nat):Int)=Builtin.Range.rangeSize lo hi 1:=by rw[rangeSize_one];split<;>lia
 rw[D,z];exact mW _ rfl
have e:b=(s.heap.push { cls:=.type "range",data:=.fields #[.int lo t,.int hi u,.int 1 v] }).objs.size:=by simpa using J
subst e
exact d.fpOk (kO _) (d.hok.fresh (kO _)))
noncomputable def qN8(ta:TA):TI:=λσ H R=>ta σ H λvs H1=>∃j:Int,vs=[.int j]/\-(2 ^ 62)<=j/\j<2 ^ 62/\R (Itr 0 j.toNat) H1
noncomputable def qN9(ta:TA):TI:=λσ H R=>ta σ H λvs H1=>∃i j:Int,vs=[.int i,.int j]/\(-(2 ^ 62)<=i/\i<2 ^ 62/\-(2 ^ 62)<=j/\j<2 ^ 62)/\R (Itr i (j-i).toNat) H1
theorem q39{a:Expr}{p:Pos}(hg:Gl X "range")(hm:X.mg "range"=none)(ha:PA X [a] ta)(hs:starEach [a] X.env=[(false,eval a X.env)]:=by rfl):PI X tg (.Call (.Name "range" p) [a] [] pos) (qN8 ta):=by(
intro pins s σ H R I h
refine Call_ (q26 I hg hm boot_range (cL (thn (ha pos pins s σ H _ I h) λZ s1 N=>?_) hs rfl))
obtain⟨S,H1,O,z,d⟩:=N
obtain⟨j,e,d,D,q⟩:=d
subst e
cases z with
|cons r J=>cases J;obtain⟨t,rfl⟩:=r;exact call_range_1 (qB3 O (by lia) (by lia) d D (by simp_all)))
theorem q97{a b:Expr}{p:Pos}(hg:Gl X "range")(hm:X.mg "range"=none)(ha:PA X [a,b] ta)(hs:starEach [a,b] X.env=[(false,eval a X.env),(false,eval b X.env)]:=by rfl)(hs2:starEach [b] X.env=[(false,eval b X.env)]:=by rfl):
 PI X tg (.Call (.Name "range" p) [a,b] [] pos) (qN9 ta):=by(
intro pins s σ H R I h
refine Call_ (q26 I hg hm boot_range (cL (thn (ha pos pins s σ H _ I h) λus s1 ⟨vs,H1,S,D,d⟩=>?_) (by rw[hs,hs2]) (by rw[hs2];rfl)))
obtain⟨i,j,e,⟨d,J,O,Z⟩,q⟩:=d
subst e
cases D with
|cons r z=>
 cases z with
 |cons N z=>cases z;obtain⟨t,rfl⟩:=r;obtain⟨t',rfl⟩:=N;exact call_range_2 (qB3 S d J O Z q))
noncomputable def tFor(wi:TI)(g:TG)(tb:TS):TS:=λD σ H=>wi σ H λJ H1=>∃W:Nat->Nat->St->Hp->Prop,(∃m,W 0 m σ H1)/\∀i m σ H,W i m σ H->(J.stop i H/\D.nx σ H)\/(J.go i H/\∃N:St->Hp->Prop,(∀σ' H',N σ' H'->∃m',m'<m/\W (i+1) m' σ' H')/\∀x H',J.yld i H x H'->g x σ H' λσ2 H2=>tb { D with nx:=N,ct:=N,bk:=D.nx } σ2 H2)
noncomputable def q7F(fp:List Addr)(h:Heap):List (Addr×Obj):=fp.filterMap λb=>(h.get? b).map λo=>(b,o)
theorem yI{h:Heap}{b:Addr}{o:Obj}(hb:b∈fp)(e:h.get? b=some o):(b,o)∈q7F fp h:=rE.mpr ⟨b,hb,by rw[e];rfl⟩
theorem qET{p:Addr×Obj}(hp:p∈q7F fp h):p.1∈fp/\h.get? p.1=some p.2:=by(
obtain⟨b,z,e⟩:=rE.mp hp
cases q:h.get? b with
|none=>simp_all
|some o=>rw[q]at e;have d:=kU e;subst d;exact⟨z,q⟩)
theorem Inv.pinned{s:Shared}(I:Inv X pins σ H s)(hf:∀b∈fp,FpOk X pins H b)(ho:∀b∈fp,∃o,s.heap.get? b=some o/\∀v,o.data≠ .cell v):Inv X (pins++q7F fp s.heap) σ H s:=I.pins_of λp hp=>(gN.mp hp).elim (λz=>I.pin p (mC _ z)) λz=>by  obtain⟨hb,e⟩:=qET z;obtain⟨f0,f1,f2,_⟩:=hf p.1 hb;obtain⟨o,e',d⟩:=ho p.1 hb;rw[e]at e';simp_all
theorem Inv.unpinned{s:Shared}(I:Inv X (pins++pl) σ H s):Inv X pins σ H s:=I.pins_of λp hp=>I.pin p (mC _ (gG _ hp))
theorem vS{tb:TS}(hp:PassesOwn (model X.prog X.w) X.A X.env X.xe)(hc:X.calm=true)(hi:PI X tg iter wi)(hg:PG X tg g)(hb:PSs X body tb)
 (hs:∀x,foldedSetIterable iter X.env x=pure x:=by intro _;rfl):PS X (.For tg iter body [] pos) (tFor wi g tb):=by(
intro pins s σ H D I h
refine wpAny_For (thn (hi pins s σ H _ I h) λv s1 h1=>thn h1 λay s2 h2=>?_) hs
obtain⟨it,fp,tn,J,H2,e,I2,T,ao,f2,W,⟨m0,w0⟩,turn⟩:=h2
subst e
have S:∀{H':Hp},(∀b∈fp,H' b=none)->∀b∈fp,FpOk X pins H' b:=λhn b hb=>⟨hn b hb,(f2 b hb).2⟩
refine codeAny_forLoop_any (λn s'=>∃i σ' H',Inv X pins σ' H' s'/\tn i s'.heap/\(∀b∈fp,H' b=none)/\W i n σ' H') ?_ m0 ⟨0,σ,H2,I2,ao,λb hb=>(f2 b hb).1,w0⟩
rintro n s3 ⟨i,ah,H3,I3,ae,af,w3⟩
rcases turn i n ah H3 w3 with⟨stop,qn⟩|⟨go,N,hN,step⟩
.refine wK hp (thn (T.done X rfl rfl rfl hc i pins s3 ah H3 X.xe I3 (S af) ae stop) λr s4 hZ=>?_);obtain⟨hr,I4⟩:=hZ;subst hr;exact sC ⟨ah,H3,I4,qn⟩
refine wK hp (thn (T.item X rfl rfl rfl hc i pins s3 ah H3 X.xe I3 (S af) ae go) λr s4 hZ=>?_)
obtain⟨u,hr,h4⟩:=hZ
subst hr
refine wK hp (thn h4 λ_ s5 hZ=>?_)
obtain⟨x,H5,I5,r5,y5,ad,ap⟩:=hZ
have al:=I5.pinned (S ap) (T.obj _ _ ad)
refine wK hp (thn (hg _ s5 ah H5 x u _ al r5 (step x H5 y5)) λ_ s6 hZ=>?_)
obtain⟨a0,H6,I6,q6⟩:=hZ
refine wK hp (thn (hb _ s6 a0 H6 _ I6 q6) λf s7 q7=>?_)
have Z:∀{z:St} {H7:Hp},Inv X (pins++q7F fp s5.heap) z H7 s7->N z H7->∃m,m<n/\∃i σ' H',Inv X pins σ' H' s7/\tn i s7.heap/\(∀b∈fp,H' b=none)/\W i m σ' H':=fun {z H7} O n7=>by obtain⟨m',hm,w7⟩:=hN z H7 n7;refine⟨m',hm,i+1,z,H7,O.unpinned,T.keep _ _ _ ad λb hb o e=>(O.pin (b,o) (mC _ (mC _ (yI hb e)))).1,λb hb=>?_,w7⟩;obtain⟨o,e,d⟩:=T.obj _ _ ad b hb;exact(O.pin (b,o) (mC _ (mC _ (yI hb e)))).2.1
cases f with
|next=>obtain⟨z,H7,O,n7⟩:=q7;exact Z O n7
|cont=>obtain⟨z,H7,O,n7⟩:=q7;exact Z O n7
|brk=>obtain⟨z,H7,O,q7⟩:=q7;exact⟨z,H7,O.unpinned,q7⟩
|ret v=>obtain⟨x7,z,H7,O,r7,q7⟩:=q7;exact⟨x7,z,H7,O.unpinned,r7,q7⟩)
end
theorem v8{K:PySem.W.Frag}{a:Addr}{xs:List V}{g:TG}{tb:TS}{D:Ends}{σ:St}{H:Hp}(Pv:Nat->St->Hp->Prop)(h0:Pv 0 σ H)(hl:∀i σ H,i<=xs.length->Pv i σ H->SqL K H a xs)
 (hs:∀i x σ H,xs[i]?=some x->Pv i σ H->g x σ H λσ2 H2=>tb { D with nx:=Pv (i+1),ct:=Pv (i+1),bk:=D.nx } σ2 H2) (hd:∀σ H,Pv xs.length σ H->D.nx σ H):
 ∃W:Nat->Nat->St->Hp->Prop,(∃m,W 0 m σ H)/\∀i m σ H,W i m σ H->((Itl K a).stop i H/\D.nx σ H)\/((Itl K a).go i H/\∃N:St->Hp->Prop,(∀σ' H',N σ' H'->∃m',m'<m/\W (i+1) m' σ' H')/\∀x H',(Itl K a).yld i H x H'->g x σ H' λσ2 H2=>tb { D with nx:=N,ct:=N,bk:=D.nx } σ2 H2):=by(
refine⟨λi m σ H=>m=xs.length-i/\i<=xs.length/\Pv i σ H,⟨xs.length,by simp,m9 _,h0⟩,?_⟩
rintro i m σ H ⟨rfl,hi,p⟩
have q:=hl i σ H hi p
by_cases d:i<xs.length
.refine .inr ⟨⟨xs,xs[i],q,by simp⟩,Pv (i+1),λσ' H' z=>⟨xs.length-(i+1),by lia,rfl,d,z⟩,λx H' y=>?_⟩;obtain⟨e,y⟩:=y;subst e;exact hs i x σ _ (y xs q) p
have e:i=xs.length:=by lia
subst e
exact .inl ⟨⟨xs,q,kO _⟩,hd σ H p⟩)
theorem q3A{lo:Int}{n:Nat}{g:TG}{tb:TS}{D:Ends}{σ:St}{H:Hp}(Pv:Nat->St->Hp->Prop)(h0:Pv 0 σ H)
 (hs:∀i σ H,i<n->Pv i σ H->g (.int (lo+i)) σ H λσ2 H2=>tb { D with nx:=Pv (i+1),ct:=Pv (i+1),bk:=D.nx } σ2 H2) (hd:∀σ H,Pv n σ H->D.nx σ H):
 ∃W:Nat->Nat->St->Hp->Prop,(∃m,W 0 m σ H)/\∀i m σ H,W i m σ H->((Itr lo n).stop i H/\D.nx σ H)\/((Itr lo n).go i H/\∃N:St->Hp->Prop,(∀σ' H',N σ' H'->∃m',m'<m/\W (i+1) m' σ' H')/\∀x H',(Itr lo n).yld i H x H'->g x σ H' λσ2 H2=>tb { D with nx:=N,ct:=N,bk:=D.nx } σ2 H2):=by(
refine⟨λi m σ H=>m=n-i/\i<=n/\Pv i σ H,⟨n,by simp,m9 _,h0⟩,?_⟩
rintro i m σ H ⟨rfl,hi,p⟩
by_cases d:i<n
.refine .inr ⟨d,Pv _,λσ' H' z=>⟨n-(i+1),by lia,rfl,d,z⟩,λx H' y=>?_⟩;obtain⟨e,y⟩:=y;subst e y;exact hs i σ _ d p
have e:i=n:=by lia
subst e
exact .inl ⟨kO _,hd σ H p⟩)
noncomputable abbrev R2:=V->V->Hp->VK->Prop
noncomputable def OpR(X:Cx)(f:Value->Value->Sem Value)(r:R2):Prop:=∀(pins:List (Addr×Obj)) (s:Shared) (σ:St) (H:Hp) (x y:V) (v u:Value) (Q:VK),Inv X pins σ H s->RelV x v->RelV y u->r x y H Q->wpAny (model X.prog X.w) X.A (f v u) (EP X pins σ Q) X.xe s
noncomputable def UnR(X:Cx)(f:Value->Sem Value)(r:V->Hp->VK->Prop):Prop:=∀(pins:List (Addr×Obj)) (s:Shared) (σ:St) (H:Hp) (x:V) (v:Value) (Q:VK),Inv X pins σ H s->RelV x v->r x H Q->wpAny (model X.prog X.w) X.A (f v) (EP X pins σ Q) X.xe s
noncomputable def q3O(X:Cx)(f:Value)(r:List V->Hp->VK->Prop):Prop:=∀(pins:List (Addr×Obj)) (s:Shared) (σ:St) (H:Hp) (xs:List V) (us:List Value) (Q:VK),Inv X pins σ H s->Vals xs us->r xs H Q->wpAny (model X.prog X.w) X.A (call f us) (EP X pins σ Q) X.xe s
noncomputable def tOp(r:R2)(ta tb:TE):TE:=λσ H Q=>ta σ H λx H1=>tb σ H1 λy H2=>r x y H2 Q
noncomputable def tUn(r:V->Hp->VK->Prop)(ta:TE):TE:=λσ H Q=>ta σ H λx H1=>r x H1 Q
noncomputable def rI(C:Int->Int->Prop)(g:Int->Int->V):R2:=λx y H Q=>∃i j,x=.int i/\y=.int j/\C i j/\Q (g i j) H
noncomputable def rI0(g:Int->Int->V):R2:=λx y H Q=>∃i j,x=.int i/\y=.int j/\Q (g i j) H
noncomputable def rU(g:Int->V):V->Hp->VK->Prop:=λx H Q=>∃i,x=.int i/\Q (g i) H
section
variable{X:Cx}{a b c:Expr}{ta tb tc:TE}{pos:Pos}
theorem binT(ha:PE X a ta)(hb:PE X b tb){pins:List (Addr×Obj)}{s:Shared}{σ:St}{H:Hp}{R:V->V->Hp->Prop}(I:Inv X pins σ H s)
 (h:ta σ H λx H1=>tb σ H1 λy H2=>R x y H2) {Q:Value->Shared->Prop} {f:Value->Value->Sem Value}
 (hf:∀v u s2 x y H2,Inv X pins σ H2 s2->RelV x v->RelV y u->R x y H2->wpAny (model X.prog X.w) X.A (f v u) Q X.xe s2):
 wpAny (model X.prog X.w) X.A (eval a X.env) (λv s₁=>wpAny (model X.prog X.w) X.A (eval b X.env) (λu s₂=>wpAny (model X.prog X.w) X.A (f v u) Q X.xe s₂) X.xe s₁) X.xe s:=by(
refine thn (ha _ s σ H _ I h) λv N d=>?_
obtain⟨x,H1,S,D,z⟩:=d
refine thn (hb _ N σ H1 _ S z) λu s2 d=>?_
obtain⟨y,H2,O,r2,J⟩:=d
exact hf v u s2 x y H2 O D r2 J)
theorem qN(ho:OpR X (binaryOp op) r)(ha:PE X a ta)(hb:PE X b tb):PE X (.BinOp a op b pos) (tOp r ta tb):=by intro pins s σ H Q I h;exact wpAny_BinOp (binT ha hb I h λv u J x y H2 D d z q=>ho _ J σ H2 x y v u Q D d z q)
theorem qFL(ho:UnR X (unaryOp op) r)(ha:PE X a ta):PE X (.UnaryOp op a pos) (tUn r ta):=by intro pins s σ H Q I h;exact UnaryOp_ (thn (ha _ s σ H _ I h) λv D ⟨x,H1,z,d,J⟩=>ho _ D σ H1 x v Q z d J)
theorem opI{f:Value->Value->Sem Value}{C:Int->Int->Prop}{g:Int->Int->Int}
 (rule:∀(i j:Int) (t u:Tok) (s:Shared) (Q:Value->Shared->Prop) (E:Value->Shared->Prop),C i j->Q (.int (g i j) s.toks) { s with toks:=s.toks+1 }->wpAny (model X.prog X.w) X.A (f (.int i t) (.int j u)) Q E s):
 OpR X f (rI C λi j=>.int (g i j)):=by(
intro pins s σ H x y v u Q I d z h
obtain⟨i,j,rfl,rfl,D,q⟩:=h
obtain⟨t,rfl⟩:=d
obtain⟨J,rfl⟩:=z
exact rule i j t J s _ _ D ⟨.int _,H,I.tok _,⟨_,rfl⟩,q⟩)
theorem opI0{f:Value->Value->Sem Value}{g:Int->Int->Int}
 (rule:∀(i j:Int) (t u:Tok) (s:Shared) (Q:Value->Shared->Prop) (E:Value->Shared->Prop),Q (.int (g i j) s.toks) { s with toks:=s.toks+1 }->wpAny (model X.prog X.w) X.A (f (.int i t) (.int j u)) Q E s):
 OpR X f (rI0 λi j=>.int (g i j)):=by(
intro pins s σ H x y v u Q I d z h
obtain⟨i,j,rfl,rfl,q⟩:=h
obtain⟨t,rfl⟩:=d
obtain⟨D,rfl⟩:=z
exact rule i j t D s _ _ ⟨.int _,H,I.tok _,⟨_,rfl⟩,q⟩)
theorem opB0{f:Value->Value->Sem Value}{g:Int->Int->Bool}
 (rule:∀(i j:Int) (t u:Tok) (s:Shared) (Q:Value->Shared->Prop) (E:Value->Shared->Prop),Q (.bool (g i j)) s->wpAny (model X.prog X.w) X.A (f (.int i t) (.int j u)) Q E s):
 OpR X f (rI0 λi j=>.bl (g i j)):=by(
intro pins s σ H x y v u Q I d z h
obtain⟨i,j,rfl,rfl,q⟩:=h
obtain⟨t,rfl⟩:=d
obtain⟨D,rfl⟩:=z
exact rule i j t D s _ _ ⟨.bl _,H,I,rfl,q⟩)
noncomputable def CDiv(i j:Int):Prop:=0<j/\j<1073741824
noncomputable def CPow(i j:Int):Prop:=0<=j/\j<=1000000/\i.natAbs<2 ^ 64
noncomputable def CMul(i j:Int):Prop:=(-(2 ^ 64)<i/\i<2 ^ 64)\/(-(2 ^ 64)<j/\j<2 ^ 64)
theorem CMul.ok{i j:Int}(h:CMul i j):IntMulOk i j:=by(
rcases h with⟨h1,h2⟩|⟨h1,h2⟩
.exact .of_left (intBits_le_64 h1 h2)
exact .of_right (intBits_le_64 h1 h2))
theorem qCI(k:Nat):(0:Int)<=2 ^ k:=by exact Int.natCast_nonneg _
theorem uS:OpR X (binaryOp .Add) (rI0 λi j=>.int (i+j)):=opI0 λz z z z z z z q=>add_int q
theorem yC:OpR X (binaryOp .Sub) (rI0 λi j=>.int (i-j)):=opI0 λz z z z z z z q=>sub_int q
theorem u7:OpR X (binaryOp .Mult) (rI CMul λi j=>.int (i*j)):=opI λz z z z z z z hc q=>mul_int q hc.ok
theorem vZ:OpR X (binaryOp .FloorDiv) (rI CDiv λi j=>.int (i / j)):=opI λi j z z z z z hc q=>by have h1:(0:Int)<j:=hc.1;have h2:j<1073741824:=hc.2;exact floordiv_int (by lia) (by rw[sQ i (by lia)];exact q) (.inl (PyProof.noPylong_small (by lia)))
theorem yK:OpR X (binaryOp .Mod) (rI (λz j=>0<j) λi j=>.int (i%j)):=opI λi j z z z z z hc q=>by exact mod_int' (by lia) (by rw[Int.fmod_eq_emod_of_nonneg i (by lia)];exact q)
theorem qFM:OpR X (binaryOp .Pow) (rI CPow λi j=>.int (i ^ j.toNat)):=opI λz z z z z z z hc q=>pow_int_small hc.1 hc.2.1 hc.2.2 q
theorem qLC:OpR X (binaryOp .LShift) (rI CPow λi j=>.int (i*2 ^ j.toNat)):=opI λz z z z z z z hc q=>lshift_int_small hc.1 hc.2.1 hc.2.2 q
theorem qLD:OpR X (binaryOp .RShift) (rI (λz j=>0<=j) λi j=>.int (i / 2 ^ j.toNat)):=opI λi j z z z z z hc q=>rshift_int hc (by rw[sQ i (qCI _)];exact q)
theorem qLE:OpR X (binaryOp .BitAnd) (rI0 λi j=>.int (Builtin.bitAnd i j)):=opI0 λz z z z z z z q=>and_int q
theorem qNA:OpR X (binaryOp .BitOr) (rI0 λi j=>.int (Builtin.bitOr i j)):=opI0 λz z z z z z z q=>or_int q
theorem unI{f:Value->Sem Value}{g:Int->Int}
 (rule:∀(i:Int) (t:Tok) (s:Shared) (Q:Value->Shared->Prop) (E:Value->Shared->Prop),Q (.int (g i) s.toks) { s with toks:=s.toks+1 }->wpAny (model X.prog X.w) X.A (f (.int i t)) Q E s):
 UnR X f (rU λi=>.int (g i)):=by(
intro pins s σ H x v Q I d h
obtain⟨i,rfl,q⟩:=h
obtain⟨t,rfl⟩:=d
exact rule i t s _ _ ⟨.int _,H,I.tok _,⟨_,rfl⟩,q⟩)
theorem qCJ:UnR X (unaryOp .USub) (rU λi=>.int (-i)):=unI λz z z z z q=>neg_int q
end
noncomputable def scal:V->V->Bool
| .non,.non=>true| .non,.int _=>true| .int _,.non=>true| .non,.bl _=>true| .bl _,.non=>true| .non,.str _=>true| .str _,.non=>true
| .int _,.int _=>true| .bl _,.bl _=>true| .str _,.str _=>true| .byt _,.byt _=>true
| .int _,.str _=>true| .str _,.int _=>true| .bl _,.str _=>true| .str _,.bl _=>true
|_,_=>false
noncomputable def rEq:R2:=λx y H Q=>scal x y=true/\Q (.bl (decide (x=y))) H
noncomputable def rNe:R2:=λx y H Q=>scal x y=true/\Q (.bl (!decide (x=y))) H
theorem qDH{i j:Int}:decide (V.int i=V.int j)=(i==j):=by rw[cD];simp
theorem qFN{i j:Bool}:decide (V.bl i=V.bl j)=(i==j):=by rw[cD];simp
theorem qDI{i j:Str}:decide (V.str i=V.str j)=(i==j):=by rw[cD];simp
theorem qDJ{i j:Array UInt8}:decide (V.byt i=V.byt j)=(i.toList==j.toList):=by(
rw[cD]
simp)
section
variable{X:Cx}{a b c:Expr}{ta tb tc:TE}{pos:Pos}
theorem jJ{s:Shared}{k:Bool}(I:Inv X pins σ H s)(q:Q (.bl k) H)(e:k=k'):EP X pins σ Q (.bool k') s:=by subst e;exact⟨.bl k,H,I,rfl,q⟩
theorem zV:OpR X (compareOp .Eq) rEq:=by(
intro pins s σ H x y v u Q I J d h
obtain⟨D,q⟩:=h
cases x with
|non=>
 cases J;cases y with
 |non=>cases d;exact PySem.EqNone.eq_none_none (jJ I q (by simp))
 |bl j=>cases d;exact PySem.EqNone.eq_none_bool (jJ I q (by simp))
 |int j=>obtain⟨z,rfl⟩:=d;exact PySem.EqNone.eq_none_int (jJ I q (by simp))
 |str j=>obtain⟨z,rfl⟩:=d;exact PySem.EqNone.eq_none_str (jJ I q (by simp))
 |_=>exact absurd (show false=true from D) kX
|bl i=>
 cases J;cases y with
 |non=>cases d;exact PySem.EqNone.eq_bool_none (jJ I q (by simp))
 |bl j=>cases d;exact eq_bool (jJ I q qFN)
 |str j=>obtain⟨z,rfl⟩:=d;exact bL (jJ I q (by simp))
 |_=>exact absurd (show false=true from D) kX
|int i=>
 obtain⟨t,rfl⟩:=J;cases y with
 |non=>cases d;exact PySem.EqNone.eq_int_none (jJ I q (by simp))
 |int j=>obtain⟨z,rfl⟩:=d;exact eq_int (jJ I q qDH)
 |str j=>obtain⟨z,rfl⟩:=d;exact bQ (jJ I q (by simp))
 |_=>exact absurd (show false=true from D) kX
|str i=>
 obtain⟨t,rfl⟩:=J;cases y with
 |non=>cases d;exact PySem.EqNone.eq_str_none (jJ I q (by simp))
 |bl j=>cases d;exact bM (jJ I q (by simp))
 |int j=>obtain⟨z,rfl⟩:=d;exact bR (jJ I q (by simp))
 |str j=>obtain⟨z,rfl⟩:=d;exact eq_str (jJ I q qDI)
 |_=>exact absurd (show false=true from D) kX
|byt i=>
 obtain⟨t,rfl⟩:=J;cases y with
 |byt j=>obtain⟨z,rfl⟩:=d;exact PySem.W.eq_bytes (jJ I q qDJ)
 |_=>exact absurd (show false=true from D) kX
|_=>cases y<;>exact absurd (show false=true from D) kX)
theorem q68:OpR X (compareOp .NotEq) rNe:=by(
intro pins s σ H x y v u Q I J d h
obtain⟨D,q⟩:=h
cases x with
|non=>
 cases J;cases y with
 |non=>cases d;exact PySem.EqNone.ne_none_none (jJ I q (by simp))
 |bl j=>cases d;exact PySem.EqNone.ne_none_bool (jJ I q (by simp))
 |int j=>obtain⟨z,rfl⟩:=d;exact PySem.EqNone.ne_none_int (jJ I q (by simp))
 |str j=>obtain⟨z,rfl⟩:=d;exact PySem.EqNone.ne_none_str (jJ I q (by simp))
 |_=>exact absurd (show false=true from D) kX
|bl i=>
 cases J;cases y with
 |non=>cases d;exact PySem.EqNone.ne_bool_none (jJ I q (by simp))
 |bl j=>cases d;exact ne_bool (jJ I q (dW not qFN))
 |str j=>obtain⟨z,rfl⟩:=d;exact bN (jJ I q (by simp))
 |_=>exact absurd (show false=true from D) kX
|int i=>
 obtain⟨t,rfl⟩:=J;cases y with
 |non=>cases d;exact PySem.EqNone.ne_int_none (jJ I q (by simp))
 |int j=>obtain⟨z,rfl⟩:=d;exact ne_int (jJ I q (dW not qDH))
 |str j=>obtain⟨z,rfl⟩:=d;exact bS (jJ I q (by simp))
 |_=>exact absurd (show false=true from D) kX
|str i=>
 obtain⟨t,rfl⟩:=J;cases y with
 |non=>cases d;exact PySem.EqNone.ne_str_none (jJ I q (by simp))
 |bl j=>cases d;exact bO (jJ I q (by simp))
 |int j=>obtain⟨z,rfl⟩:=d;exact bT (jJ I q (by simp))
 |str j=>obtain⟨z,rfl⟩:=d;exact ne_str (jJ I q (dW not qDI))
 |_=>exact absurd (show false=true from D) kX
|byt i=>
 obtain⟨t,rfl⟩:=J;cases y with
 |byt j=>obtain⟨z,rfl⟩:=d;exact PySem.W.ne_bytes (jJ I q (dW not qDJ))
 |_=>exact absurd (show false=true from D) kX
|_=>cases y<;>exact absurd (show false=true from D) kX)
theorem q3P:OpR X (compareOp .Lt) (rI0 λi j=>.bl (decide (i<j))):=opB0 λz z z z z z z q=>lt_int q
theorem qFO:OpR X (compareOp .LtE) (rI0 λi j=>.bl (decide (i<=j))):=opB0 λz z z z z z z q=>le_int q
theorem qFP:OpR X (compareOp .Gt) (rI0 λi j=>.bl (decide (j<i))):=opB0 λz z z z z z z q=>gt_int q
theorem qDK:OpR X (compareOp .GtE) (rI0 λi j=>.bl (decide (j<=i))):=opB0 λz z z z z z z q=>ge_int q
theorem qA4:OpR X (compareOp .Is) (λx y H Q=>y=.non/\Q (.bl (decide (x=.non))) H):=by(
intro pins s σ H x y v u Q I d z h
obtain⟨rfl,q⟩:=h
cases z
refine is_none_gen (jJ I q ?_)
cases x<;>first
 |lia
 |(obtain⟨t,rfl⟩:=d;rfl))
theorem q4O:OpR X (compareOp .IsNot) (λx y H Q=>y=.non/\Q (.bl (!decide (x=.non))) H):=by(
intro pins s σ H x y v u Q I d z h
obtain⟨rfl,q⟩:=h
cases z
refine isnot_none_gen (jJ I q ?_)
cases x<;>first
 |lia
 |(obtain⟨t,rfl⟩:=d;rfl))
theorem qV(b:Expr)(h:op≠ .In:=by decide)(h2:op≠ .NotIn:=by decide):behindInMarks op b=false:=by(
have z:(op==CmpOp.In)=false:=by lia
have d:(op==CmpOp.NotIn)=false:=by lia
cases b<;>simp[behindInMarks,z,d])
theorem v9(ho:OpR X (compareOp op) r)(ha:PE X a ta)(hb:PE X b tb)(hm:behindInMarks op b=false):PE X (.Compare a [op] [b] pos) (tOp r ta tb):=by intro pins s σ H Q I h;exact wpAny_Compare1 (binT ha hb I h λv u J x y H2 D d z q=>ho _ J σ H2 x y v u Q D d z q) hm
noncomputable def qKP(t:TE):TT:=λσ H Q=>t σ H λx H'=>∃k,x=.bl k/\Q k H'
theorem qS(ho:OpR X (compareOp op) r)(ha:PE X a ta)(hb:PE X b tb)(hm:behindInMarks op b=false):PT X (.Compare a [op] [b] pos) (qKP (tOp r ta tb)):=by(
intro pins s σ H Q I h
refine lN (thn (ha _ s σ H _ I h) λv s1 ⟨x,H1,I1,J,D⟩=>thn (hb _ s1 σ H1 _ I1 D) λu Z ⟨y,H2,I2,r2,O⟩=>thn (ho _ Z σ H2 x y v u _ I2 J r2 O) λc s3 ⟨z,d,N,r3,k,e,S⟩=>?_) hm
subst e
cases r3
exact dD ⟨d,N,S⟩)
noncomputable def qFQ(r r':R2)(ta tb tc:TE):TE:=λσ H Q=>ta σ H λx H1=>tb σ H1 λy H2=>r x y H2 λz H3=>∃k,z=.bl k/\(if k=true then tc σ H3 λw' H4=>r' y w' H4 Q else Q (.bl false) H3)
theorem qFR(ho:OpR X (compareOp op) r)(ho':OpR X (compareOp op') r')(ha:PE X a ta)(hb:PE X b tb)(hc:PE X c tc)
 (hm:lastMarks [op,op'] [b,c]=false:=by with_unfolding_all rfl):PE X (.Compare a [op,op'] [b,c] pos) (qFQ r r' ta tb tc):=by(
intro pins s σ H Q I h
refine Compare_chain (thn (ha _ s σ H _ I h) λv s1 ⟨x,H1,I1,r1,S⟩=>chain_link (thn (hb pins s1 σ H1 _ I1 S) λu s2 ⟨y,H2,I2,r2,q2⟩=>thn (ho pins s2 σ H2 x y v u _ I2 r1 r2 q2) λd s3 ⟨z,D,J,r3,k,e,N⟩=>?_)) hm
subst e
cases r3
refine dD ?_
cases k with
|false=>exact ite_ff ⟨.bl _,D,J,rfl,N⟩
|true=>exact ite_tt (chain_last (thn (hc pins s3 σ D _ J N) λw' s4 ⟨z',Z,O,r4,q4⟩=>ho' _ s4 σ Z y z' u w' Q O r2 r4 q4)))
theorem qFS(ho:OpR X (compareOp op) r)(ho':OpR X (compareOp op') r')(ha:PE X a ta)(hb:PE X b tb)(hc:PE X c tc)
 (hm:lastMarks [op,op'] [b,c]=false:=by with_unfolding_all rfl):PT X (.Compare a [op,op'] [b,c] pos) (qKP (qFQ r r' ta tb tc)):=by(
intro pins s σ H Q I h
refine isTrue_chain (thn (ha pins s σ H _ I h) λv s1 ⟨x,H1,I1,r1,q1⟩=>test_link (thn (hb pins s1 σ H1 _ I1 q1) λu s2 ⟨y,H2,I2,r2,S⟩=>thn (ho pins s2 σ H2 x y v u _ I2 r1 r2 S) λd s3 ⟨z,N,D,r3,k,e,J⟩=>?_)) hm
subst e
cases r3
refine dD ?_
cases k with
|false=>obtain⟨k',e',q'⟩:=J;cases e';exact ite_ff ⟨N,D,q'⟩
|true=>refine ite_tt (test_last (thn (hc pins s3 σ N _ D J) λO s4 ⟨z',H4,I4,r4,q4⟩=>thn (ho' pins s4 σ H4 y z' u O _ I4 r2 r4 q4) λd' s5 hZ=>?_));obtain⟨z2,H5,Z,r5,k2,e2,q5⟩:=hZ;subst e2;cases r5;exact dD ⟨H5,Z,q5⟩)
theorem q7G:(sizeLine:Nat)<2 ^ 63:=by rw[dB];decide
theorem q27{x:V}(r:Vals [x] us):∃u,us=[u]/\RelV x u:=by
 cases r with
 |cons d r2=>cases r2;exact⟨_,rfl,d⟩
theorem qFT{x y:V}(r:Vals [x,y] us):∃u w',us=[u,w']/\RelV x u/\RelV y w':=by(
cases r with
|cons d r2=>
 cases r2 with
 |cons r3 r4=>cases r4;exact⟨_,_,rfl,d,r3⟩)
theorem q98(hc:X.calm=true):q3O X (.builtin "max") (λxs H Q=>∃i j,xs=[.int i,.int j]/\Q (.int (if j>i then j else i)) H):=by(
intro pins s σ H xs z Q I r h
obtain⟨i,j,rfl,q⟩:=h
obtain⟨u,D,rfl,⟨t,rfl⟩,⟨t',rfl⟩⟩:=qFT r
refine max_two_ints (I.ok.hd hc) λh' tk k=>⟨_,H,I.kept k,?_,q⟩
by_cases d:j>i
.rw[kD d,kD d];exact⟨_,rfl⟩
rw[hU d,hU d];exact⟨_,rfl⟩)
theorem qEU(hc:X.calm=true):q3O X (.builtin "min") (λxs H Q=>∃i j,xs=[.int i,.int j]/\Q (.int (if j<i then j else i)) H):=by(
intro pins s σ H xs z Q I r h
obtain⟨i,j,rfl,q⟩:=h
obtain⟨u,D,rfl,⟨t,rfl⟩,⟨t',rfl⟩⟩:=qFT r
refine min_two_ints (I.ok.hd hc) λh' tk k=>⟨_,H,I.kept k,?_,q⟩
by_cases d:j<i
.rw[kD d,kD d];exact⟨_,rfl⟩
rw[hU d,hU d];exact⟨_,rfl⟩)
end
structure ObjM(h:Heap)(x dx C:Addr)(mA:Str->Option Value):Prop where
obj:h.get? x=some (PySem.W.instObj C dx)
ns:h.Ns1 dx mA
ne:dx≠x
set_option tactic.hygienic true in
theorem q99{h:Heap}(n:h.Ns1 dx mA):∃od,h.get? dx=some od/\∀name,PySem.W.lookIn name od=some (mA name):=by(
obtain⟨o,es,Z,D,J,N,_,S⟩:=n
refine⟨o,D,λname=>?_⟩
have e:=S name
unfold nsFind findBy at e
rw[<-Array.find?_toList]at e
unfold PySem.W.lookIn
rw[J]
dsimp only
split
.rename_i y q;rw[q]at e;exact dW _ e
rename_i q
rw[q]at e
have a:es.toList.any (·.refKey)=false:=by rw[xX];intro y O;obtain⟨z,t,d⟩:=N y (Array.mem_toList_iff.mp O);simp[DictEntry.refKey,d]
have I:¬es.toList.any (·.refKey)=true:=by rw[a];exact kX
rw[hU I]
exact dW _ e)
theorem ObjM.look{x:Addr}(I:ObjM h x dx C mA):∃od,PySem.W.InstAt h x (PySem.W.instObj C dx) C (some od)/\∀name,PySem.W.lookIn name od=some (mA name):=let⟨od,ho,hl⟩:=q99 I.ns
 ⟨od,⟨I.obj,rfl,rfl,ho⟩,hl⟩
section
variable{prog:Program}{w:World}{A:Around}{E:Value->Shared->Prop}{s:Shared}{K:PySem.W.Frag}{x dx C f:Addr}{mA:Str->Option Value}{name:Str}{v:Value}
theorem qII(X:K.In s.heap)(I:ObjM s.heap x dx C mA)(hg:PySem.W.plainGet K C name=true)(hh:PySem.W.hasDictIn K C=true)
 (ha:PySem.W.findIn K (.ref C) name=some none) (hv:mA name=some v) (hv':PySem.W.handedIn v=true) (h:Q v { s with toks:=s.toks+1 }):
 wpAny (model prog w) A (getAttr (.ref x) name expr) Q E s:=by obtain⟨od,J,hl⟩:=I.look;exact PySem.W.get_value X J (sG hg).1 (PySem.W.findObj_own hh ha rfl (by simp_all)) hv' h
theorem qFU(X:K.In s.heap)(I:ObjM s.heap x dx C mA)(hg:PySem.W.plainGet K C name=true)
 (hf:PySem.W.findIn K (.ref C) name=some (some (.ref f))) (ht:PySem.W.isFn K (.ref f)=true) (hv:mA name=none) (h:Q (.ref f,[.ref x]) s):
 wpAny (model prog w) A (getMethod (.ref x) name pl) Q E s:=by obtain⟨od,J,hl⟩:=I.look;exact PySem.W.method_fn X J (sG hg).1 (sG hg).2 hf (rF.mp ht) (by show(PySem.W.lookIn _ od).map _=some _;simp_all) h
theorem qIJ{ns:List Str}(X:K.In s.heap)(I:ObjM s.heap x dx C mA)
 (hs:PySem.W.findIn K (.ref C) "__setattr__"=some (some (.builtin "object.__setattr__"))) (hp:PySem.W.plainOver K C=true) (ht:PySem.W.takerIn K C name=some none) (hh:PySem.W.hasDictIn K C=true)
 (hw:PySem.Within mA ns) (hsz:ns.length<=sizeLine)
 (h:∀h',ObjM h' x dx C (λy=>if y=name then some v else mA y)->Heap.SameBut dx s.heap h'->Q () { s with heap:=h',toks:=s.toks+2 }):
 wpAny (model prog w) A (setAttr (.ref x) name v) Q E s:=by(
obtain⟨od,J,hl⟩:=I.look
refine PySem.W.set_plain X J hs (PySem.W.osa_open (s:={ s with toks:=s.toks+1 }) (r:=none) X J hp ht λb=>?_)
obtain⟨cd,hc,S⟩:=pQ hh
have Z:s.heap.get? x=some ⟨.ref C,some dx,.plain,#[]⟩:=I.obj
refine hX (kW (hX (hX (wpAny_loadPart Z (hX (eD (s:={ s with toks:=s.toks+1 }) (PySem.W.looks_clsIn X hc) ?_))))))
rw[S]
refine kW (a:=some dx) (hX (kW (hX ?_)))
refine wpAny_nsSet1 (s:={ s with toks:=s.toks+1 }) I.ns λh' d z=>?_
obtain⟨oD,aa,ab,N,D,O⟩:=d.count (PySem.Within.cons name v hw)
refine hX (wpAny_lookBehind N (by rw[D];exact pastItsLine_dict (mO O (by rw[mP];lia))) ?_)
exact kW (h _ ⟨(z.2 _ (cC I.ne)).trans I.obj,d,I.ne⟩ z))
theorem qB4(X:K.In s.heap)(hm:PySem.W.makesIn K C=true)
 (hi:PySem.W.findIn K (.ref C) "__init__"=some (some (.ref f))) (hf:PySem.W.typeIn K (.ref f)=some (.type "function"))
 (h:codeAny (model prog w) (A.under (.builtin "type.__call__" ⟨.ref C::vs,kw⟩)) (.call (.ref f) ⟨.ref (s.heap.objs.size+1)::vs,kw⟩) (PySem.W.InitBack (s.heap.objs.size+1) R)
  { s with heap:=(s.heap.push PySem.W.emptyDict).push (PySem.W.instObj C s.heap.objs.size) }):
 codeAny (model prog w) A (.call (.ref C) ⟨vs,kw⟩) R s:=by exact xY (aI X hm) (cO X hi) (λd=>PySem.W.bind_fn X _ hf) (.inl rfl) h
end
noncomputable def putF(f:Str)(v:V):List (Str×V)->List (Str×V)
| []=>[(f,v)]
|(g,x)::r=>if g=f then(g,v)::r else(g,x)::putF f v r
theorem q69(f g:Str)(v:V):∀fs:List (Str×V),(putF f v fs).lookup g=if g=f then some v else fs.lookup g
| []=>by
 show List.lookup g [(f,v)]=_;by_cases h:g=f
 .have hb:(g==f)=true:=rF.mpr h;simp only[List.lookup,hb,kD h]
 have hb:(g==f)=false:=rV.mpr h;simp only[List.lookup,hb,hU h]
|(k,x)::r=>by
 have ih:=q69 f g v r;rw[show putF f v ((k,x)::r)=(if k=f then(k,v)::r else(k,x)::putF f v r)from rfl];by_cases hk:k=f
 .rw[kD hk];by_cases h:g=k
  .have hb:(g==k)=true:=rF.mpr h;simp only[List.lookup,hb,kD (h.trans hk)]
  have hb:(g==k)=false:=rV.mpr h;simp only[List.lookup,hb,hU (λe:g=f=>h (e.trans hk.symm))]
 rw[hU hk];by_cases h:g=k
 .have hb:(g==k)=true:=rF.mpr h;simp only[List.lookup,hb,hU (λe:g=f=>hk (h.symm.trans e))]
 have hb:(g==k)=false:=rV.mpr h;simp only[List.lookup,hb];exact ih
theorem q5G(f:Str)(v:V):∀fs:List (Str×V),f∈(putF f v fs).map (·.1)/\∀g,g∈fs.map (·.1)->g∈(putF f v fs).map (·.1)
| []=>⟨by simp[putF],λg h=>by simp at h⟩
|(k,x)::r=>by
 obtain⟨i1,i2⟩:=q5G f v r;rw[show putF f v ((k,x)::r)=(if k=f then(k,v)::r else(k,x)::putF f v r)from rfl];by_cases hk:k=f
 .rw[kD hk];subst hk;exact⟨by simp,λg h=>by simpa using h⟩
 rw[hU hk];refine⟨?_,λg h=>?_⟩
 .rw[mV];exact hG _ i1
 rw[mV]at h ⊢;rcases kM.mp h with e|e
 .exact kM.mpr (.inl e)
 exact hG _ (i2 g e)
theorem q6A(f:Str)(v:V):∀fs:List (Str×V),(putF f v fs).length<=fs.length+1
| []=>by simp[putF]
|(k,x)::r=>by
 have ih:=q6A f v r;rw[show putF f v ((k,x)::r)=(if k=f then(k,v)::r else(k,x)::putF f v r)from rfl];by_cases hk:k=f
 .rw[kD hk,mP,mP];lia
 rw[hU hk,mP,mP];lia
theorem RelO.some_of{v:V}{o:Option Value}(r:RelO (some v) o):∃u,o=some u/\RelV v u:=by(
cases o with
|none=>exact(show False from r).elim
|some u=>exact⟨u,rfl,r⟩)
theorem RelO.none_of{o:Option Value}(r:RelO none o):o=none:=by(
cases o with
|none=>rfl
|some u=>exact(show False from r).elim)
theorem qEV{v:V}(r:RelV v u):PySem.W.handedIn u=true:=by(
cases v with
|non=>cases(show u=Value.none from r);rfl
|bl b=>cases(show u=Value.bool b from r);rfl
|int i=>obtain⟨t,e⟩:=(show ∃t,u=Value.int i t from r);cases e;rfl
|str x=>obtain⟨t,e⟩:=(show ∃t,u=Value.str x t from r);cases e;rfl
|byt b=>obtain⟨t,e⟩:=(show ∃t,u=Value.bytes b t from r);cases e;rfl
|flt b=>obtain⟨t,e⟩:=(show ∃t,u=Value.float b t from r);cases e;rfl
|ref a=>cases(show u=Value.ref a from r);rfl
|ty n=>cases(show u=Value.type n from r);rfl)
section
variable{P:Program}{w:World}{H H':Hp}{h h':Heap}{a C dx:Addr}{fs fs':List (Str×V)}
theorem q6V(hok:HOk P w H h)(e:H a=some (.ins C dx fs)):∃mA,ObjM h a dx C mA/\(∀f,RelO (fs.lookup f) (mA f))/\PySem.Within mA (fs.map (·.1))/\fs.length<=1000/\H dx=some (.own a):=by obtain⟨d,z,ne,D,mA,n,r,q⟩:=(show jM P w H h a (.ins C dx fs)from hok a _ e);exact⟨mA,⟨D,n,ne⟩,r,q,z,d⟩
end
structure Cls(K:PySem.W.Frag)(C:Addr):Prop where
pg:PySem.W.plainGet K C Str.empty=true
hd:PySem.W.hasDictIn K C=true
po:PySem.W.plainOver K C=true
sa:PySem.W.findIn K (.ref C) "__setattr__"=some (some (.builtin "object.__setattr__"))
theorem Cls.get{K:PySem.W.Frag}(c:Cls K C)(f:Str):PySem.W.plainGet K C f=true:=c.pg
noncomputable def qQ(K:PySem.W.Frag)(C:Addr)(f:Str):Prop:=PySem.W.findIn K (.ref C) f=some none
theorem qQ.taker{K:PySem.W.Frag}{f:Str}(n:qQ K C f):PySem.W.takerIn K C f=some none:=by unfold PySem.W.takerIn;rw[show PySem.W.findIn K _ f=some _ from n];rfl
structure Meth(K:PySem.W.Frag)(C:Addr)(m:Str)(f:Addr):Prop where
at_:PySem.W.findIn K (.ref C) m=some (some (.ref f))
fn:PySem.W.isFn K (.ref f)=true
kp:PySem.W.keepIn K (.ref f)=true
section
variable{X:Cx}{pins:List (Addr×Obj)}{σ:St}{H:Hp}{s:Shared}{a C dx:Addr}{fs:List (Str×V)}{f:Str}{v:V}{A:Around}{E:Value->Shared->Prop}
theorem q7H{b:Bool}(I:Inv X pins σ H s)(e:H a=some (.ins C dx fs))(c:Cls X.K C)(n:qQ X.K C f)(l:fs.lookup f=some v)
 (h:∀u s',Inv X pins σ H s'->RelV v u->Q u s'):wpAny (model X.prog X.w) A (getAttr (.ref a) f b) Q E s:=by obtain⟨mA,O,r,_,_,_⟩:=q6V I.hok e;obtain⟨u,d,ru⟩:=RelO.some_of   (by rw[<-l];exact r f);exact qII I.kIn O (c.get f) c.hd n d (qEV ru) (h u _ (I.tok _) ru)
theorem q1F{m:Str}(I:Inv X pins σ H s)(e:H a=some (.ins C dx fs))(c:Cls X.K C)(k:Meth X.K C m g)(l:fs.lookup m=none)
 (h:Q (.ref g,[.ref a]) s):wpAny (model X.prog X.w) A (getMethod (.ref a) m pl) Q E s:=by obtain⟨mA,O,r,_,_,_⟩:=q6V I.hok e;have d:=RelO.none_of (by rw[<-l];exact r m);exact qFU I.kIn O (c.get m) k.at_ k.fn d h
theorem q7I{y:V}(I:Inv X pins σ H s)(e:H a=some (.ins C dx fs))(c:Cls X.K C)(n:qQ X.K C f)(hl:fs.length<1000)(ry:RelV y u)
 (h:∀s',Inv X pins σ (upd H a (.ins C dx (putF f y fs))) s'->Q () s'):wpAny (model X.prog X.w) A (setAttr (.ref a) f u) Q E s:=by(
obtain⟨mA,O,r,J,_,D⟩:=q6V I.hok e
have N:(fs.map (·.1)).length<=sizeLine:=by rw[kI,dB];lia
refine qIJ I.kIn O c.sa c.po n.taker c.hd J N λh' d S=>h _ ?_
have hd:∃o,h'.get? dx=some o:=let⟨o,_,_,e',_⟩:=d.ns;⟨o,e'⟩
refine I.write (x:=a) (e:=dx) (by rw[e];exact True.intro) (.inr D) (λb q hb z=>(S.2 b hb).trans z) hd ?_
refine⟨by rw[qE O.ne];exact D,?_,O.ne,d.obj,_,d.ns,λg=>?_,λg Z=>?_⟩
.have:=q6A f y fs;lia
.rw[q69];by_cases q:g=f
 .rw[kD q,kD q];exact ry
 rw[hU q,hU q];exact r g
by_cases q:g=f
.rw[q];exact(q5G f y fs).1
refine(q5G f y fs).2 g (J g λz=>Z ?_)
show(if g=f then some u else mA g)=none
rw[hU q];exact z)
theorem Inv.made(I:Inv X pins σ H s):Inv X pins σ (upd (upd H s.heap.objs.size (.own (s.heap.objs.size+1))) (s.heap.objs.size+1) (.ins C s.heap.objs.size []))
 { s with heap:=(s.heap.push PySem.W.emptyDict).push (PySem.W.instObj C s.heap.objs.size) }:=by(
have d:(s.heap.push _).get? _=some PySem.W.emptyDict:=mW s.heap rfl
have J:=by have:=mW (s.heap.push PySem.W.emptyDict) (o:=PySem.W.instObj C s.heap.objs.size) rfl;rwa [sR]at this
have D:(s.heap.push _).Ns _ (λZ=>none):=⟨PySem.W.emptyDict,#[],_,d,rfl,(λe z=>absurd z (by simp)),λZ=>rfl⟩
have O:=I.laid  (o:=.own (s.heap.objs.size+1))  (t':=s.toks) (λb u q=>kJ _ q) (kO _) ⟨_,d⟩
refine O.laid    (λb u q=>kJ _ q) (pF (sR _ _)) ?_
have ne:s.heap.objs.size≠s.heap.objs.size+1:=mY (rG _)
refine⟨by rw[qE ne,qI],m9 _,ne,J,λZ=>none,(Heap.Ns1.of_empty D).at λo q=>kJ _ q,λZ=>True.intro,λy N=>absurd rfl N⟩)
theorem qIK{w:World}{env:Env}{f:Str}{s:Shared}(hb:attributeBase e f env (eval e env)=eval e env)
 (h:wpAny (model prog w) A (eval e env) (λo s₁=>wpAny (model prog w) A (getAttr o f true) Q E s₁) E s):wpAny (model prog w) A (eval (.Attribute e f pos) env) Q E s:=Attribute_any_ h (by rw[arm_eval_Attribute,hb])
end
noncomputable def tFld(K:PySem.W.Frag)(ta:TE)(f:Str):TE:=λσ H Q=>ta σ H λx H1=>∃a C dx fs v,x=.ref a/\H1 a=some (.ins C dx fs)/\Cls K C/\qQ K C f/\fs.lookup f=some v/\Q v H1
noncomputable def sFld(K:PySem.W.Frag)(ta tv:TE)(f:Str):TS:=λD σ H=>tv σ H λy H1=>ta σ H1 λx H2=>∃a C dx fs,x=.ref a/\H2 a=some (.ins C dx fs)/\Cls K C/\qQ K C f/\fs.length<1000/\D.nx σ (upd H2 a (.ins C dx (putF f y fs)))
noncomputable def InOp(X:Cx)(op:Operator)(rd:V->V->Hp->VK->Prop):Prop:=∀(pins:List (Addr×Obj)) (s:Shared) (σ:St) (H:Hp) (x y:V) (u v:Value) (Q:VK),Inv X pins σ H s->RelV x u->RelV y v->rd x y H Q->wpAny (model X.prog X.w) X.A (inplaceOp op u v) (EP X pins σ Q) X.xe s
noncomputable def qIL(K:PySem.W.Frag)(ta tv:TE)(rd:V->V->Hp->VK->Prop)(f:Str):TS:=λD σ H=>ta σ H λx H1=>∃a C dx fs v,x=.ref a/\H1 a=some (.ins C dx fs)/\Cls K C/\qQ K C f/\fs.lookup f=some v/\tv σ H1 λy H2=>rd v y H2 λz H3=>∃dx' fs',H3 a=some (.ins C dx' fs')/\fs'.length<1000/\D.nx σ (upd H3 a (.ins C dx' (putF f z fs')))
section
variable{X:Cx}{o e value:Expr}{f:Str}{pos pos' tpos:Pos}{ta tv:TE}
theorem qJ(he:PE X e ta)(hb:attributeBase e f X.env (eval e X.env)=eval e X.env):PE X (.Attribute e f pos) (tFld X.K ta f):=by(
intro pins s σ H Q I h
refine qIK hb (thn (he _ s σ H _ I h) λu S z=>?_)
obtain⟨x,H1,J,d,a,C,dx,fs,v,ex,ea,c,n,l,q⟩:=z
subst ex
obtain rfl:u=Value.ref a:=d
exact q7H J ea c n l λN O D ru=>⟨v,H1,D,ru,q⟩)
theorem jK(ha:PE X o ta)(hv:PE X value tv)(hs:swapsWith value (some (.Attribute o f pos')) pos.line X.env=pure false):PS X (.Assign [.Attribute o f pos'] value pos) (sFld X.K ta tv f):=by(
intro pins s σ H D I h
refine plainObj_wpAny_Assign_Attribute (thn (hv _ s σ H _ I h) λu Z ⟨y,H1,I1,z,q⟩=>thn (ha _ Z σ H1 _ I1 q) λd s2 N=>?_) hs
obtain⟨x,H2,I2,J,a,C,dx,fs,ex,ea,c,n,l,S⟩:=N
subst ex
obtain rfl:d=Value.ref a:=J
exact q7I I2 ea c n l z λs3 O=>⟨σ,_,O,S⟩)
theorem q9A{rd:V->V->Hp->VK->Prop}(ha:PE X o ta)(hv:PE X value tv)(hop:InOp X op rd):PS X (.AugAssign (.Attribute o f tpos) op value pos) (qIL X.K ta tv rd f):=by(
intro pins s σ H D I h
refine wpAny_AugAssign_AttributeAny (thn (ha _ s σ H _ I h) λov s1 J=>?_)
obtain⟨x,H1,I1,N,a,C,dx,fs,v,ex,ea,c,n,l,q⟩:=J
subst ex
obtain rfl:ov=Value.ref a:=N
refine q7H I1 ea c n l λu s2 I2 ru=>thn (hv _ s2 σ H1 _ I2 q) λw3 s3 ⟨y,H2,Z,ry,q3⟩=>thn (hop _ s3 σ H2 v y u w3 _ Z ru ry q3) λw4 s4 J=>?_
obtain⟨z,H3,S,rz,al,fs',d,l',q4⟩:=J
exact q7I S d c n l' rz λs5 O=>⟨σ,_,O,q4⟩)
noncomputable def rAdd:V->V->Hp->VK->Prop:=λx y H Q=>∃i j,x=.int i/\y=.int j/\Q (.int (i+j)) H
noncomputable def rSub:V->V->Hp->VK->Prop:=λx y H Q=>∃i j,x=.int i/\y=.int j/\Q (.int (i-j)) H
theorem qLF:InOp X .Add rAdd:=by(
rintro pins s σ H x y u v Q I z D ⟨i,j,rfl,rfl,q⟩
obtain⟨t,rfl⟩:=(show ∃t,u=Value.int i t from z)
obtain⟨d,rfl⟩:=(show ∃d,v=Value.int j d from D)
exact PyProof.Rows.iadd_int ⟨.int _,H,I.tok _,⟨_,rfl⟩,q⟩)
theorem qLG:InOp X .Sub rSub:=by(
rintro pins s σ H x y u v Q I z D ⟨i,j,rfl,rfl,q⟩
obtain⟨t,rfl⟩:=(show ∃t,u=Value.int i t from z)
obtain⟨d,rfl⟩:=(show ∃d,v=Value.int j d from D)
exact PyProof.Rows.isub_int ⟨.int _,H,I.tok _,⟨_,rfl⟩,q⟩)
end
section
variable{X:Cx}{pins:List (Addr×Obj)}{σ:St}{H:Hp}{s:Shared}{A:Around}{E:Value->Shared->Prop}{Q:Value->Shared->Prop}{c:Value}{b:Bool}
inductive TyOf(K:PySem.W.Frag)(H:Hp):V->Value->Prop where
|non:TyOf K H .non (.type "NoneType")
|bl (x:Bool):TyOf K H (.bl x) (.type "bool")
|int (i:Int):TyOf K H (.int i) (.type "int")
|str (x:Str):TyOf K H (.str x) (.type "str")
|flt (x:UInt64):TyOf K H (.flt x) (.type "float")
|lst {a:Addr} {xs:List V} (e:H a=some (.lst xs)):TyOf K H (.ref a) (.type "list")
|frz {a:Addr} {o:Obj} {xs:List V} (e:H a=some (.frz o (.lst xs))):TyOf K H (.ref a) (.type "list")
|tup {a:Addr} {xs:List V} (e:H a=some (.tup xs)):TyOf K H (.ref a) (.type "tuple")
|dK {a:Addr} {kvs:List (Key×V)} (e:H a=some (.dK kvs)):TyOf K H (.ref a) (.type "dict")
|dT {a:Addr} {kvs:List (List Key×V)} (e:H a=some (.dT kvs)):TyOf K H (.ref a) (.type "dict")
|ins {a C dx:Addr} {fs:List (Str×V)} (e:H a=some (.ins C dx fs)) (cl:Cls K C) (ha:PySem.W.findIn K (.ref C) "__class__"=some (some (.builtin "object.__class__")))
 (hn:PySem.W.specialIn K (.builtin "object.__class__") "__get__"=some (some (.builtin "getset_descriptor.__get__"))) (htk:PySem.W.takesIn K (.builtin "object.__class__")=some true)
 (hm:PySem.W.mroIn K C (.type "object")=some true):TyOf K H (.ref a) (.ref C)
theorem qEW{x:V}{t:Value}(I:Inv X pins σ H s)(rx:RelV x u)(ty:TyOf X.K H x t)(e:PySem.W.kitOne X.K t c=some b)(h:∀tk,Q (.bool b) { s with toks:=tk }):
 wpAny (model X.prog X.w) A (call (.builtin "isinstance") [u,c]) Q E s:=by(
cases ty with
|non=>cases(show u=Value.none from rx);exact dJ PySem.W.kitx_none I.kIn True.intro e (λz=>nomatch z) h
|bl y=>cases(show u=Value.bool y from rx);exact dJ PySem.W.kitx_bool I.kIn True.intro e (λz=>nomatch z) h
|int i=>obtain⟨t,q⟩:=(show ∃t,u=Value.int i t from rx);cases q;exact dJ PySem.W.kitx_int I.kIn True.intro e (λz=>nomatch z) h
|str y=>obtain⟨t,q⟩:=(show ∃t,u=Value.str y t from rx);cases q;exact dJ PySem.W.kitx_str I.kIn True.intro e (λz=>nomatch z) h
|flt y=>obtain⟨t,q⟩:=(show ∃t,u=Value.float y t from rx);cases q;exact dJ PySem.W.kitx_float I.kIn True.intro e (λz=>nomatch z) h
|@lst a xs ea=>cases(show u=Value.ref a from rx);obtain⟨_,_,n,_,h1⟩:=(show jM X.prog X.w H s.heap a (.lst xs)from I.hok a _ ea);exact dJ xZ I.kIn ⟨_,h1,rfl⟩ e (λz=>nomatch z) h
|@frz a ob xs ea=>cases(show u=Value.ref a from rx);obtain⟨_,_,_,n,_,h1⟩:=(show jM X.prog X.w H s.heap a (.frz ob (.lst xs))from I.hok a _ ea);exact dJ xZ I.kIn ⟨_,h1,rfl⟩ e (λz=>nomatch z) h
|@tup a xs ea=>cases(show u=Value.ref a from rx);obtain⟨_,_,_,p⟩:=(show jM X.prog X.w H s.heap a (.tup xs)from I.hok a _ ea);obtain⟨o,h1,h2,_⟩:=p;exact dJ PySem.W.kitx_tuple I.kIn ⟨o,h1,h2⟩ e (λz=>nomatch z) h
|@dK a kvs ea=>cases(show u=Value.ref a from rx);obtain⟨_,_,D,_,p⟩:=(show jM X.prog X.w H s.heap a (.dK kvs)from I.hok a _ ea);obtain⟨o,es,d,h1,h2,_⟩:=p;exact dJ x6 I.kIn ⟨o,h1,h2.1⟩ e (λz=>nomatch z) h
|@dT a kvs ea=>cases(show u=Value.ref a from rx);obtain⟨_,_,xs,_,o,es,d,h1,h2,_⟩:=(show jM X.prog X.w H s.heap a (.dT kvs)from I.hok a _ ea);exact dJ x6 I.kIn ⟨o,h1,h2.1⟩ e (λz=>nomatch z) h
|@ins a C dx fs ea cl ha hn htk hm=>cases(show u=Value.ref a from rx);obtain⟨mA,O,_⟩:=q6V I.hok ea;obtain⟨od,J,_⟩:=O.look;exact dJ (PySem.W.kitx_own (cl.get _) cl.hd ha hn htk hm) I.kIn J e (λz=>nomatch z) h)
end
structure Room(k:Nat)(A:Around):Prop where
hd:A.handled=none
dp:A.depth+3*k+5<recursionLimit
un:A.units+16*k+200<cLine
theorem Room.mono{j k:Nat}(r:Room k A)(h:j<=k):Room j A:=⟨r.hd,by have:=r.dp;lia,by have:=r.un;lia⟩
theorem Room.deeper{k:Nat}(r:Room (k+1) A)(env:Env):Room k (A.deeper env):=⟨r.hd,by have:=r.dp;show A.depth+1+3*k+5< _;lia,by have:=r.un;show A.units+3+16*k+200< _;lia⟩
theorem Room.in1{k:Nat}(r:Room (k+1) A):Room k A.in1:=⟨r.hd,by have:=r.dp;lia,by have:=r.un;lia⟩
theorem qCK{A:Around}:(A.under (.builtin "type.__call__" ⟨.ref C::us,kw⟩)).depth=A.depth+1:=by rfl
theorem qCL{A:Around}:(A.under (.builtin "type.__call__" ⟨.ref C::us,kw⟩)).units=A.units+1:=by rfl
theorem Room.make{k:Nat}(r:Room (k+1) A)(C:Addr)(us:List Value)(kw:List (Str×Value)):Room k (A.under (.builtin "type.__call__" ⟨.ref C::us,kw⟩)):=⟨r.hd,by have:=r.dp;rw[qCK];lia,by have:=r.un;rw[qCL];lia⟩
theorem Room.depth{k:Nat}(r:Room k A):A.depth<recursionLimit:=by have:=r.dp;lia
theorem Room.units{k:Nat}(r:Room k A):A.units+64<cLine:=by have:=r.un;lia
noncomputable def tNil:TA:=λz H Q=>Q [] H
noncomputable def qB5(ta:TE)(tr:TA):TA:=λσ H Q=>ta σ H λx H1=>tr σ H1 λxs H2=>Q (x::xs) H2
section
variable{X:Cx}{e:Expr}{es:List Expr}{te:TE}{t:TA}{pos:Pos}
theorem qD:PA X [] tNil:=λz z z z H Q I h=>x8 ⟨[],H,I,.nil,h⟩
theorem qA(ha:PE X e te)(hr:PA X es t)(hs:starEach (e::es) X.env=(false,eval e X.env)::starEach es X.env:=by rfl):PA X (e::es) (qB5 te t):=by(
intro pos pins s σ H Q I h
rw[hs]
show wpAny _ _ (spliced ((false,eval e _)::backTo pos _)) _ _ s
refine xK (thn (ha _ s σ H _ I h) λu N J=>?_)
obtain⟨x,H1,S,z,d⟩:=J
exact thn (hr pos _ N σ H1 _ S d) λZ s2 ⟨xs,H2,O,r2,D⟩=>⟨x::xs,H2,O,.cons z r2,D⟩)
end
noncomputable abbrev Sp:=List V->Hp->VK->XK->Prop
noncomputable abbrev CXT:=List Env->Hp->Shared->XK->Value->Shared->Prop
structure Env0(P:Program)(w:World)(K:PySem.W.Frag)(mg:Str->Option Value)(base:Heap)(A:Around)(outer:List Env)(s:Shared)(H:Hp):Prop where
frames:A.frames=some outer
mod:Mod K mg base
bs:∀b o,base.get? b=some o->s.heap.get? b=some o/\H b=none
bsz:base.objs.size<=s.heap.objs.size
funs:s.heap.FunFrames base outer
frf:∀b∈frs outer,H b=none
hok:HOk P w H s.heap
bare:AllBare s.gens
noncomputable def CE(outer:List Env)(P:Program)(w:World)(H:Hp)(s:Shared)(Q:VK)(u:Value)(s':Shared):Prop:=∃v H',s'.os=s.os/\AllBare s'.gens/\Un (frs outer) [] H H' s.heap s'.heap/\HOk P w H' s'.heap/\RelV v u/\Q v H'
noncomputable def CR(CX:CXT)(outer:List Env)(P:Program)(w:World)(H:Hp)(s:Shared)(Q:VK)(E:XK)(r:Result)(s':Shared):Prop:=match r with
| .ok (.ret u)=>CE outer P w H s Q u s'
| .ok _=>False
| .error e=>CX outer H s E e s'
structure FnOk(P:Program)(w:World)(K:PySem.W.Frag)(mg:Str->Option Value)(base:Heap)(CX:CXT)(k:Nat)(f:Addr)(fd:FuncData)(ps:List Str)(sp:Sp):Prop where
len:∀vs H Q E,sp vs H Q E->vs.length=ps.length
run:∀(A:Around) (outer:List Env) (s:Shared) (H:Hp) (args:Args) (us:List Value) (vs:List V) (Q:VK) (E:XK),Room k A->Env0 P w K mg base A outer s H->BindsTo s fd args (ps.zip us)->Vals vs us->sp vs H Q E->codeAny (model P w) A (.call (.ref f) args) (CR CX outer P w H s Q E) s
theorem FnOk.mono{P:Program}{w:World}{K:PySem.W.Frag}{mg:Str->Option Value}{j k:Nat}{f:Addr}{fd:FuncData}{sp:Sp}(F:FnOk P w K mg base CX j f fd ps sp)(h:j<=k:=by decide):
 FnOk P w K mg base CX k f fd ps sp:=⟨F.len,λA outer s H args us vs Q E hr=>F.run A _ s H _ us vs Q E (hr.mono h)⟩
theorem Env0.make{P:Program}{w:World}{K:PySem.W.Frag}{mg:Str->Option Value}{s:Shared}(e:Env0 P w K mg base A outer s H)(C:Addr)(us:List Value)(kw:List (Str×Value)):
 Env0 P w K mg base (A.under (.builtin "type.__call__" ⟨.ref C::us,kw⟩)) outer s H:=⟨by first|exact e.frames|lia,e.mod,e.bs,e.bsz,e.funs,e.frf,e.hok,e.bare⟩
section
variable{X:Cx}{pins:List (Addr×Obj)}{σ:St}{H:Hp}{s s':Shared}
theorem Inv.env0(I:Inv X pins σ H s):Env0 X.prog X.w X.K X.mg X.base X.A X.stack s H:=⟨I.ok.frames,I.ok.mod,I.bs,mO I.ok.bsz I.sz,I.stack,I.stkFree,I.hok,I.bare⟩
theorem Inv.after(I:Inv X pins σ H s)(h:CE X.stack X.prog X.w H s Q u s'):EP X pins σ Q u s':=by(
obtain⟨v,H',os,D,un,J,r,q⟩:=h
obtain⟨O,g,d,t,N⟩:=s'
obtain rfl:N=s.os:=os
exact⟨v,H',I.call      un J D (λb z=>absurd z (by simp)),r,q⟩)
end
noncomputable def qNB(sp:Sp)(dvs:List V)(E:XK)(t:TA):TE:=λσ H Q=>t σ H λvs H1=>sp (vs++dvs) H1 Q E
noncomputable def qKQ(C:Addr)(m:Str)(sp:Sp)(dvs:List V)(E:XK)(ta:TE)(t:TA):TE:=λσ H Q=>ta σ H λx H1=>∃a dx fs,x=.ref a/\H1 a=some (.ins C dx fs)/\fs.lookup m=none/\t σ H1 λvs H2=>sp (x::(vs++dvs)) H2 Q E
noncomputable def qNC(C:Addr)(sp:Sp)(dvs:List V)(E:XK)(t:TA):TE:=λσ H Q=>t σ H λvs H1=>∀x dx,H1 x=none->H1 dx=none->dx≠x->sp (.ref x::(vs++dvs)) (upd (upd H1 dx (.own x)) x (.ins C dx [])) (λv H2=>v=.non/\Q (.ref x) H2) E
noncomputable def jT(K:PySem.W.Frag)(fd:FuncData)(ps:List Str)(ds:List Value):Prop:=∀(s:Shared) (us:List Value),K.In s.heap->(us++ds).length=ps.length->BindsTo s fd ⟨us,[]⟩ (ps.zip (us++ds))
theorem jT.all{K:PySem.W.Frag}{fd:FuncData}{ps:List Str}(h:∀us:List Value,us.length=ps.length->bindArgs fd ⟨us,[]⟩=pure (ps.zip us)):jT K fd ps []:=λs us z hl=>by rw[g0]at hl ⊢;exact .of_eq (h us hl)
noncomputable def q28(CX:CXT)(X:Cx)(E:XK):Prop:=∀(pins:List (Addr×Obj)) (σ:St) (H:Hp) (s:Shared) (e:Value) (s':Shared),Inv X pins σ H s->CX X.stack H s E e s'->X.xe e s'
section
variable{X:Cx}{CX:CXT}{k:Nat}{f C:Addr}{fd:FuncData}{ps:List Str}{sp:Sp}{dvs:List V}{ds:List Value}{E:XK}{x m:Str}{p pos apos:Pos}{e o:Expr}{es:List Expr}{ta:TE}{t:TA}
theorem qCM{s:Shared}(F:FnOk X.prog X.w X.K X.mg X.base CX k f fd ps sp)(hr:Room k X.A)(hb:jT X.K fd ps ds)(hd:Vals dvs ds)(hx:q28 CX X E)
 (I:Inv X pins σ H s) (r:Vals vs us) (h:sp (vs++dvs) H Q E):wpAny (model X.prog X.w) X.A (call (.ref f) us) (EP X pins σ Q) X.xe s:=by(
have r2:=r.append hd
have hl:(us++ds).length=ps.length:=by rw[<-r2.length];exact F.len _ _ _ _ h
refine cP (cT (F.run X.A _ s H _ _ _ Q E hr I.env0 (hb s us I.kIn hl) r2 h) λr s' d=>?_)
cases r with
|error e=>exact hx _ σ H s e s' I d
|ok z=>
 cases z with
 |ret u=>exact I.after d
 |next=>assumption
 |brk=>assumption
 |cont=>assumption)
theorem qU(F:FnOk X.prog X.w X.K X.mg X.base CX k f fd ps sp)(hr:Room k X.A)(hg:Gl X x)(hm:X.mg x=some (.ref f))(hk:PySem.W.keepIn X.K (.ref f)=true)(hb:jT X.K fd ps ds)(hd:Vals dvs ds)(hx:q28 CX X E)
 (ha:PA X (e::es) t) (hdb:(x==("__debug__":Str))=false:=by decide) (he:starEach (e::es) X.env=(false,eval e X.env)::starEach es X.env:=by rfl) (hpl:(backTo pos (starEach es X.env)).any (·.1)=false:=by rfl):
 PE X (.Call (.Name x p) (e::es) [] pos) (qNB sp dvs E t):=by(
intro pins s σ H Q I h
refine dG (q0E I hg hm ?_ hdb)
refine rH  I.ok.mod.kin hk (thn (ha pos _ s σ H _ I h) λJ z ⟨D,H1,d,r,q⟩=>⟨d.kIn,?_⟩) he hpl
exact qCM F hr hb hd hx d r q)
theorem j9(he:PE X o ta)(c:Cls X.K C)(hm:Meth X.K C m f)(F:FnOk X.prog X.w X.K X.mg X.base CX k f fd ps sp)(hr:Room k X.A)(hb:jT X.K fd ps ds)(hd:Vals dvs ds)(hx:q28 CX X E)(ha:PA X (e::es) t)
 (hst:starEach (e::es) X.env=(false,eval e X.env)::starEach es X.env:=by rfl) (hpl:(backTo pos (starEach es X.env)).any (·.1)=false:=by rfl)
 (ht:eval (.Call (.Attribute o m apos) (e::es) [] pos) X.env=(do
  let ov<-eval o X.env
  standAt apos.atName
  let(f,first)<-holding [ov] (getMethod ov m pl)
  callWith pos f first (backTo pos (starEach (e::es) X.env)) (backToKw pos (keywordEach [] X.env))):=by rfl):
 PE X (.Call (.Attribute o m apos) (e::es) [] pos) (qKQ C m sp dvs E ta t):=by(
intro pins s σ H Q I h
refine wD (pl:=pl) (thn (he pins s σ H _ I h) λu O N=>?_) ht
obtain⟨x,H1,z,D,a,dx,fs,ex,ea,l,q⟩:=N
subst ex
obtain rfl:u=Value.ref a:=D
refine q1F z ea c hm l ?_
refine rH  (h₀:=X.base) I.ok.mod.kin hm.kp (thn (ha pos pins O σ H1 _ z q) λS Z ⟨vs,H2,d,r,J⟩=>⟨d.kIn,?_⟩) hst hpl
exact qCM  (vs:=.ref a::vs) F hr hb hd hx d (.cons rfl r) J)
theorem qR(he:PE X o ta)(c:Cls X.K C)(hm:Meth X.K C m f)(F:FnOk X.prog X.w X.K X.mg X.base CX k f fd ps sp)(hr:Room k X.A)(hb:jT X.K fd ps ds)(hd:Vals dvs ds)(hx:q28 CX X E)
 (ht:eval (.Call (.Attribute o m apos) [] [] pos) X.env=(do
  let ov<-eval o X.env
  standAt apos.atName
  let(f,first)<-holding [ov] (getMethod ov m pl)
  callWith pos f first (backTo pos (starEach [] X.env)) (backToKw pos (keywordEach [] X.env))):=by rfl):
 PE X (.Call (.Attribute o m apos) [] [] pos) (qKQ C m sp dvs E ta tNil):=by(
intro pins s σ H Q I h
refine wD  (thn (he _ s σ H _ I h) λu J D=>?_) ht
obtain⟨x,H1,d,z,a,dx,fs,ex,ea,l,q⟩:=D
subst ex
obtain rfl:u=Value.ref a:=z
refine q1F d ea c hm l ?_
exact sI  d.kIn hm.kp (qCM (us:=[.ref a]) (vs:=[.ref a]) F hr hb hd hx d (.cons rfl .nil) q))
structure Mk(K:PySem.W.Frag)(C f:Addr):Prop where
makes:PySem.W.makesIn K C=true
init:PySem.W.findIn K (.ref C) "__init__"=some (some (.ref f))
fn:PySem.W.isFn K (.ref f)=true
kp:PySem.W.keepIn K (.ref C)=true
theorem qFV{s:Shared}(M:Mk X.K C f)(F:FnOk X.prog X.w X.K X.mg X.base CX k f fd ps sp)(hr:Room (k+1) X.A)(hb:jT X.K fd ps ds)(hd:Vals dvs ds)
 (hx:q28 CX X E) (I:Inv X pins σ H s) (r:Vals vs us)
 (h:∀x dx,H x=none->H dx=none->dx≠x->sp (.ref x::(vs++dvs)) (upd (upd H dx (.own x)) x (.ins C dx [])) (λv H2=>v=.non/\Q (.ref x) H2) E):
 wpAny (model X.prog X.w) X.A (call (.ref C) us) (EP X pins σ Q) X.xe s:=by(
have D:=h (s.heap.objs.size+1) s.heap.objs.size (I.hok.fresh (dN _)) (I.hok.fresh (kO _)) (mY (rG _))
have z:=Inv.made (C:=C) I
have r2:Vals (V.ref (s.heap.objs.size+1)::(vs++dvs)) (Value.ref (s.heap.objs.size+1)::(us++ds)):=.cons rfl (r.append hd)
have hl:=by have e:=r2.length;rw[F.len _ _ _ _ D]at e;exact e.symm
refine cP (qB4 (f:=f) I.kIn M.makes M.init (rF.mp M.fn) (cT (F.run _ X.stack _ _ _ (Value.ref (s.heap.objs.size+1)::(us++ds)) _ _ E (hr.make C us [])
 (z.env0.make C us []) (hb _ (Value.ref (s.heap.objs.size+1)::us) z.kIn hl) r2 D) λr s' d=>?_))
cases r with
|error e=>exact hx pins σ _ _ e s' z d
|ok S=>
 cases S with
 |ret u=>obtain⟨v,H',N,Z,J,O⟩:=z.after d;subst J;exact⟨Z,⟨V.ref (s.heap.objs.size+1),H',N,rfl,O⟩⟩
 |next=>exact False.elim d
 |brk=>exact False.elim d
 |cont=>exact False.elim d)
theorem q4P(M:Mk X.K C f)(F:FnOk X.prog X.w X.K X.mg X.base CX k f fd ps sp)(hr:Room (k+1) X.A)(hg:Gl X x)(hm:X.mg x=some (.ref C))(hb:jT X.K fd ps ds)(hd:Vals dvs ds)(hx:q28 CX X E)
 (ha:PA X (e::es) t) (hdb:(x==("__debug__":Str))=false:=by decide) (he:starEach (e::es) X.env=(false,eval e X.env)::starEach es X.env:=by rfl) (hpl:(backTo pos (starEach es X.env)).any (·.1)=false:=by rfl):
 PE X (.Call (.Name x p) (e::es) [] pos) (qNC C sp dvs E t):=by(
intro pins s σ H Q I h
refine dG (q0E I hg hm ?_ hdb)
refine rH  I.ok.mod.kin M.kp (thn (ha pos _ s σ H _ I h) λJ z ⟨D,H1,d,r,q⟩=>⟨d.kIn,?_⟩) he hpl
exact qFV M F hr hb hd hx d r q)
end
noncomputable def PK(X:Cx)(kws:List Keyword)(t:TA):Prop:=∀(pos:Pos) (pins:List (Addr×Obj)) (s:Shared) (σ:St) (H:Hp) (Q:List V->Hp->Prop),Inv X pins σ H s->t σ H Q->wpAny (model X.prog X.w) X.A (evalAll ((backToKw pos (keywordEach kws X.env)).map (·.2))) (AP X pins σ Q) X.xe s
section
variable{X:Cx}{CX:CXT}{k:Nat}{f C:Addr}{fd:FuncData}{ps ks:List Str}{sp:Sp}{E:XK}{x m:Str}{p pos apos kpos:Pos}{e o:Expr}{es:List Expr}{kws:List Keyword}{te ta:TE}{t tk:TA}{nm:Option Str}
theorem qCN:PK X [] tNil:=λz z z z H Q I h=>wpAny_evalAll_nil ⟨[],H,I,.nil,h⟩
theorem qA5(ha:PE X e te)(hr:PK X kws t):PK X (⟨nm,e,kpos⟩::kws) (qB5 te t):=by(
intro pos pins s σ H Q I h
refine wpAny_evalAll_cons (hX (thn (ha _ s σ H _ I h) λu J ⟨x,H1,O,z,d⟩=>hX (nL (kW ?_))))
exact thn (hr pos _ J σ H1 _ O d) λS Z ⟨xs,H2,N,r2,D⟩=>⟨x::xs,H2,N,.cons z r2,D⟩)
variable{g:List Value->List Value->List Value}{gV:List V->List V->List V}
end
structure FnScope(N P:List Str)(sc:Scope):Prop where
kind:sc.kind=.function
co:sc.isCoroutine=false
gen:sc.isGenerator=false
nd:N.Nodup
pre:N.take P.length=P
par:∀x∈P,sc.names.lookup x=some .local\/sc.names.lookup x=some .cell
nofree:∀y∈sc.names,y.2≠ .free
theorem q9B{kindOf:Str->Option NameKind}{x:Str}:∀{binds:List (Str×Value)} {m:Str->Option Value},(∀v,(x,v)∉binds)->bindL kindOf binds m x=m x
| [],_,_=>rfl
|(n,v)::r,m,h=>by
 unfold bindL;rw[q9B λw hw=>h w (hG _ hw)];split
 .have:x≠n:=by rintro rfl;exact h v kY
  simp[this]
 rfl
theorem q9C{kindOf:Str->Option NameKind}{x:Str}:∀{binds:List (Str×Value)} {m:Str->Option Value},(∀v,(x,v)∉binds)->bindC kindOf binds m x=m x
| [],_,_=>rfl
|(n,v)::r,m,h=>by
 unfold bindC;rw[q9C λw hw=>h w (hG _ hw)];split
 .rfl
 have:x≠n:=by rintro rfl;exact h v kY
 simp[this]
theorem q9D{kindOf:Str->Option NameKind}{x:Str}{v:Value}:∀{P:List Str} {vs:List Value} {i:Nat} {m:Str->Option Value},P.Nodup->P[i]?=some x->vs[i]?=some v->kindOf x=some .local->bindL kindOf (P.zip vs) m x=some v
| [],_,_,_,_,h,_,_=>by simp at h
|_::_,[],_,_,_,_,h,_=>by simp at h
|p::P,w::vs,0,m,nd,h1,h2,hk=>by simp at h1 h2;subst h1;subst h2;show bindL kindOf ((p,w)::P.zip vs) m p=_;unfold bindL;rw[q9B λv hv=>(gD.mp nd).1 (sD hv).1,kD hk];simp
|p::P,w::vs,i+1,m,nd,h1,h2,hk=>by show bindL kindOf ((p,w)::P.zip vs) m x=_;unfold bindL;exact q9D (i:=i) (gD.mp nd).2 (by simpa using h1) (by simpa using h2) hk
theorem q9E{kindOf:Str->Option NameKind}{x:Str}{v:Value}:∀{P:List Str} {vs:List Value} {i:Nat} {m:Str->Option Value},P.Nodup->P[i]?=some x->vs[i]?=some v->kindOf x≠some .local->bindC kindOf (P.zip vs) m x=some v
| [],_,_,_,_,h,_,_=>by simp at h
|_::_,[],_,_,_,_,h,_=>by simp at h
|p::P,w::vs,0,m,nd,h1,h2,hk=>by simp at h1 h2;subst h1;subst h2;show bindC kindOf ((p,w)::P.zip vs) m p=_;unfold bindC;rw[q9C λv hv=>(gD.mp nd).1 (sD hv).1,hU hk];simp
|p::P,w::vs,i+1,m,nd,h1,h2,hk=>by show bindC kindOf ((p,w)::P.zip vs) m x=_;unfold bindC;exact q9E (i:=i) (gD.mp nd).2 (by simpa using h1) (by simpa using h2) hk
noncomputable def q0F(N:List Str)(vs:List V):St:=vs.map some++List.replicate (N.length-vs.length) none
noncomputable def cxOf(CX:CXT)(P:Program)(w:World)(K:PySem.W.Frag)(mg:Str->Option Value)(base:Heap)(N:List Str)(qual:Str)(scope:Scope)(f:Addr)(cd:Value)(A:Around)(outer:List Env)(s:Shared)(H:Hp)(E:XK):Cx where
prog:=P
w:=w
K:=K
mg:=mg
base:=base
A:=A.deeper (envOfC qual scope s.heap.objs.size f cd)
N:=N
s₀:=s
H₀:=H
env:=envOfC qual scope s.heap.objs.size f cd
outer:=outer
stack:=envOfC qual scope s.heap.objs.size f cd::outer
ex:=[]
calm:=true
fn:=λz=>true
pn:=[]
xe:=λe s'=>wpAny (model P w) (A.deeper (envOfC qual scope s.heap.objs.size f cd)) (leaving (envOfC qual scope s.heap.objs.size f cd) e) (λz s''=>CX outer H s E e s'') (λe' s''=>CX outer H s E e' s'') s'
theorem qB6{sc:Scope}{n:Nat}{x:Str}(h:sc.names.lookup x=some .cell):∃c,(cellsFrom n sc.names []).lookup x=some c:=by have q:=pG _ n [] (.inl h);exact cW.mp q
theorem q9F{P:Program}{w:World}{K:PySem.W.Frag}{mg:Str->Option Value}{f:Addr}{A:Around}{s:Shared}{vs:List V}
 (S:FnScope N ps scope) (hd:A.handled=none) (e0:Env0 P w K mg base A outer s H) (hl:vs.length=ps.length) (r:Vals vs us)
 (x:InCallC s s.heap.objs.size (bindL (envOfC qual scope s.heap.objs.size f cd).kindOf (ps.zip us) λz=>none) (cellsFrom (s.heap.objs.size+1) scope.names []) (bindC (envOfC qual scope s.heap.objs.size f cd).kindOf (ps.zip us) λz=>none) s1):
 Inv (cxOf CX P w K mg base N qual scope f cd A outer s H E) [] (q0F N vs) H s1:=by(
have aa:ps.length<=N.length:=by have:=dW List.length S.pre;rw[gZ]at this;lia
obtain⟨h1,tk,rfl,Z⟩:=x.done
have d:∀b:Addr,b∉(cxOf CX P w K mg base N qual scope f cd A outer s H E).ex:=λb z=>absurd (show b∈([]:List Addr)from z) (by simp)
refine⟨⟨e0.mod,S.kind,rfl,rfl,kO _,λy z c h1 h2=>?_,λy D=>?_,λy c _ h=>?_,λZ=>hd,lS e0.frames,.inr ⟨rfl,rfl⟩,λb z=>absurd z (d b),e0.bs,e0.bsz,λb Z Z=>d b,λb z=>absurd z (d b),e0.funs,e0.frf⟩,rfl,e0.bare,Un.kept Z,⟨_,x.toInCall.ns,λi y v h1 h2 h3=>?_⟩,λy c h=>⟨_,x.cell y c h⟩,e0.hok.fresh (kO _),λy c h=>?_,λp I=>absurd (show p∈([]:List (Addr×Obj))from I) (by simp),e0.hok.kept Z,?_⟩
.exact name_of_addr x.apart (dC h1) (dC h2)
.have D:scope.names.lookup y=some .cell\/scope.names.lookup y=some .free:=D;rcases D with D|D
 .exact qB6 D
 exact absurd rfl (S.nofree _ (dC D))
.exact sL (x.above y c (dC h))
.have hi:i<vs.length:=by
  unfold q0F at h2;by_cases hi:i<vs.length
  .exact hi
  rw[dY (by simpa using hi)]at h2;rw[wU]at h2;split at h2<;>cases h2
 have ha:vs[i]?=some v:=by
  unfold q0F at h2;rw[wH (by simpa using hi),mM]at h2;cases e:vs[i]? with
  |none=>rw[e]at h2;cases h2
  |some a=>rw[e]at h2;cases h2;rfl
 obtain⟨u,O,rv⟩:=r.get ha;have I:ps[i]?=some y:=by rw[<-S.pre,List.getElem?_take_of_lt (by lia)];exact h1
 have J:ps.Nodup:=by rw[<-S.pre];exact S.nd.sublist (List.take_sublist _ _)
 refine⟨u,rv,?_⟩;rcases S.par y (gQ I)with k|k
 .exact .inl ⟨k,q9D J I O k⟩
 obtain⟨c,e⟩:=qB6 (n:=s.heap.objs.size+1) k;refine .inr ⟨.inl k,c,e,?_⟩;have q:=x.cell y c e;rw[q9E J I O (by show scope.names.lookup y≠_;rw[k];decide)]at q;exact q
.exact e0.hok.fresh (sL (x.above y c (dC h)))
unfold q0F
show _=N.length
rw[mI,kI,gW]
lia)
theorem qDL{P:Program}{w:World}{K:PySem.W.Frag}{mg:Str->Option Value}{k:Nat}{f:Addr}{kV:Value}
   {sp:Sp} (lk:K.lookup f=some ⟨oc,od,.func (PySem.W.fnOf name qual params body scope dV kV doc pm an cdv ct),osl⟩) (hcd:PySem.W.codeIn K cdv qual=true) (S:FnScope N ps scope)
 (len:∀vs H Q E,sp vs H Q E->vs.length=ps.length)
 (hbody:∀(A:Around) (outer:List Env) (s:Shared) (H:Hp) (vs:List V) (Q:VK) (E:XK),Room k (A.deeper (envOfC qual scope s.heap.objs.size f cdv))->sp vs H Q E->∃t,PSs (cxOf CX P w K mg base N qual scope f cdv A outer s H E) body t/\t { nx:=λz H'=>Q .non H',rt:=Q } (q0F N vs) H):
 FnOk P w K mg base CX (k+1) f (PySem.W.fnOf name qual params body scope dV kV doc pm an cdv ct) ps sp:=by(
refine⟨len,λA outer s H ae us vs Q E hr O hb r D=>?_⟩
have hl:=len _ _ _ _ D
have KX:K.In s.heap:=O.mod.kin.keeps λb o e=>(O.bs b o e).1
have ab:s.heap.NoLimit:=O.mod.nolimit.keeps λb o e=>(O.bs b o e).1
have d:∀y∈ps.zip us,scope.names.lookup y.1=some .local\/(scope.names.lookup y.1=some .cell/\((cellsFrom (s.heap.objs.size+1) scope.names []).lookup y.1).isSome=true):=λ⟨n,v⟩ hy=>by
 rcases S.par n (sD hy).1 with q|q
 .exact .inl q
 exact .inr ⟨q,pG _ _ _ (.inl q)⟩
refine codeAny_call_function hr.depth (KX _ _ lk) rfl S.co S.gen rfl (PySem.W.codeRec_of KX hcd) (hb _ _ _ _ ?_)
refine sS S.kind d λenv he s1 x=>?_
subst he
refine⟨ab.keeps x.toInCall.keep,codeAny_func ?_⟩
obtain⟨t,ht,hq⟩:=hbody A outer s H vs Q E (hr.deeper _) D
have I:Inv (cxOf CX P w K mg base N qual scope f cdv A outer s H E) [] (q0F N vs) H s1:=q9F S hr.hd O hl r x
refine dM (ht [] s1 (q0F N vs) H _ I hq) (λfl s' z=>?_) λe s' z=>z
have fin:∀{Z:St} {H':Hp} {v:V} {u:Value},Inv (cxOf CX P w K mg base N qual scope f cdv A outer s H E) [] Z H' s'->RelV v u->Q v H'->CE outer P w H s Q u s':=fun {Z H' v u} J rv q=>⟨v,H',J.os,J.bare,J.base,J.hok,rv,q⟩
cases fl with
|ret u=>obtain⟨v,Z,H',J,rv,q⟩:=z;exact fin J rv q
|next=>obtain⟨Z,H',J,q⟩:=z;exact fin (v:=V.non) (u:=Value.none) J rfl q
|brk=>obtain⟨_,_,_,q⟩:=z;exact False.elim q
|cont=>obtain⟨_,_,_,q⟩:=z;exact False.elim q)
section
variable{X:Cx}{x:Str}{p pos:Pos}{e:Expr}{es:List Expr}{t:TA}{id T:String}{r:List V->Hp->VK->Prop}
noncomputable def tCB(r:List V->Hp->VK->Prop)(t:TA):TE:=λσ H Q=>t σ H λvs H1=>r vs H1 Q
theorem jR(hc:q3O X (.builtin id) r)(hg:Gl X x)(hm:X.mg x=none)(hv:bootBuiltins x=some (.builtin id))(ha:PA X (e::es) t)(hn:x≠"__name__":=by decide)(hdb:(x==("__debug__":Str))=false:=by decide)
 (he:starEach (e::es) X.env=(false,eval e X.env)::starEach es X.env:=by rfl) (hpl:(backTo pos (starEach es X.env)).any (·.1)=false:=by rfl):PE X (.Call (.Name x p) (e::es) [] pos) (tCB r t):=by intro pins s σ H Q I h;refine dG (q26 I hg hm hv ?_ hn hdb);exact PyProof.Rows.callWith_builtin1 (thn (ha pos _ s σ H _ I h) λD N ⟨z,H1,O,J,d⟩=>hc _ N σ H1 z D Q O J d) he hpl
theorem q5H(hc:q3O X (.type T) r)(hg:Gl X x)(hm:X.mg x=none)(hv:bootBuiltins x=some (.type T))(ha:PA X (e::es) t)(hn:x≠"__name__":=by decide)(hdb:(x==("__debug__":Str))=false:=by decide)
 (he:starEach (e::es) X.env=(false,eval e X.env)::starEach es X.env:=by rfl) (hpl:(backTo pos (starEach es X.env)).any (·.1)=false:=by rfl):PE X (.Call (.Name x p) (e::es) [] pos) (tCB r t):=by intro pins s σ H Q I h;refine dG (q26 I hg hm hv ?_ hn hdb);exact cL (thn (ha pos _ s σ H _ I h) λD N ⟨z,H1,O,J,d⟩=>hc _ N σ H1 z D Q O J d) he hpl
end
end L2
namespace HT
open PySem PyProof.Rows
noncomputable def lexLt:List Int->List Int->Bool
| [],[]=>false
| [],_::_=>true
|_::_,[]=>false
|x::xs,y::ys=>if x=y then lexLt xs ys else decide (x<y)
theorem qCO(x y:Int)(xs ys:List Int):lexLt (x::xs) (y::ys)=if x=y then lexLt xs ys else decide (x<y):=rfl
theorem q8O:lexLt [] []=false:=rfl
theorem q7J(y:Int)(ys:List Int):lexLt [] (y::ys)=true:=rfl
theorem q7K(x:Int)(xs:List Int):lexLt (x::xs) []=false:=rfl
theorem qFW(A:Around)(s:Shared)(a:Int)(t:Tok)(c:Int)(u:Tok):∃e,SeqAt.EqAt A s (.int a t) (.int c u) e/\(e=true↔a=c):=⟨(a==c),sT a t c u,by simp⟩
theorem qFX(A:Around)(s:Shared)(a:Int)(t:Tok)(c:Int)(u:Tok)(prog:Program)(w:World)(E:Value->Shared->Prop)(Q:Value->Shared->Prop)(h:Q (.bool (decide (a<c))) s):
 wpAny (model prog w) A (richCompare .Lt (.int a t) (.int c u)) Q E s:=(PyProof.Rows.lt_int h)
section
open PySem.SeqAt
open PySem.AutoSeq1 (wpAny_loadPart')
open PySem.MeetsSeq PySem.MeetsSeq2 PySem.MeetsSeq3
theorem q8P(l b:Addr)(items items2:Array Value)(n n2:Nat)(dd dd2:Option Addr)(sl sl2:Array (Option Value))(ns ms:List Int)(hi:IntsAre items.toList ns)(hj:IntsAre items2.toList ms):
 Meets (Builtin.«tuple.__lt__» ⟨[.ref l,.ref b],[]⟩)
  (λz R s=>s.heap.get? l=some { cls:=.type "tuple",dict:=dd,data:=.seq items n,slots:=sl }/\s.heap.get? b=some { cls:=.type "tuple",dict:=dd2,data:=.seq items2 n2,slots:=sl2 }/\R (.ok (.ret (.bool (lexLt ns ms)))) s):=.of_wp λprog w A R s h=>by(
 obtain⟨hp,g,d,tk,os⟩:=s;obtain⟨hl,hb,h⟩:=h;have f2:=AutoSeq1.sub_tuple_tuple;have z1:items.size=ns.length:=by rw[<-hi.length];simp
 have z2:items2.size=ms.length:=by rw[<-hj.length];simp
 wp_walk using lK hl,lK hb,wpAny_forIn_list _ (λrest b s'=>b.1=none/\s'=⟨hp,g,d,tk,os⟩/\∃(vs ws:List Value) (ns' ms':List Int),rest=vs.zip ws/\IntsAre vs ns'/\IntsAre ws ms'/\ns'.length+items2.size=ms'.length+items.size/\R (.ok (.ret (.bool (lexLt ns' ms')))) ⟨hp,g,d,tk,os⟩) _
 case turn=>
  rintro⟨y,x⟩ rest b s' ⟨hb',rfl,vs,ws,ns',ms',hz,hvi,hwi,hlen,hR⟩
  cases hvi with
  |nil=>rw[List.zip_nil_left]at hz;cases hz
  |cons a t hvi'=>
   cases hwi with
   |nil=>rw[List.zip_nil_right]at hz;cases hz
   |cons c u hwi'=>
    rw[xL]at hz;injection hz with hyx hrest
    injection hyx with hy hx
    subst hy hx;rw[qCO]at hR;simp only[mP]at hlen;obtain⟨e,he,hiff⟩:=qFW A.in1 ⟨hp,g,d,tk,os⟩ a t c u;refine hX (he prog w _ _ ?_);cases e with
    |true=>
     rw[kD (hiff.mp rfl)]at hR;wp_walk
     exact⟨rfl,rfl,_,_,_,_,hrest,hvi',hwi',by lia,hR⟩
    |false=>
     rw[hU (λq=>absurd (hiff.mpr q) kX)]at hR;have hri:=qFX A.in1 ⟨hp,g,d,tk,os⟩ a t c u prog w;wp_walk using hri
     exact⟨_,rfl,by simpa using hR⟩
 case fin=>
  rintro⟨b1,b2⟩ s' ⟨hb',rfl,vs,ws,ns',ms',hz,hvi,hwi,hlen,hR⟩
  simp only at hb';subst hb';have hv:lexLt ns' ms'=decide (items.size<items2.size):=by
   cases hvi with
   |nil=>
    cases hwi with
    |nil=>simp only[cE]at hlen;rw[q8O];exact(kB (by lia)).symm
    |cons c u hw=>simp only[cE,mP]at hlen;rw[q7J];exact(hC (by lia)).symm
   |cons a t hv=>
    cases hwi with
    |nil=>simp only[cE,mP]at hlen;rw[q7K];exact(kB (by lia)).symm
    |cons c u hw=>rw[xL]at hz;cases hz
  rw[hv]at hR;wp_walk
  exact⟨_,rfl,by simpa[Builtin.Tuple.tupleCompareSizes]using hR⟩
 case h=>exact⟨rfl,rfl,items.toList,items2.toList,ns,ms,rfl,hi,hj,by lia,h⟩)
end
section
variable{prog:Program}{w:World}{A:Around}{E:Value->Shared->Prop}{s:Shared}
theorem lt_tupInts{l b:Addr}{ns:List Int}(hl:IsTup s.heap l items)(hb:IsTup s.heap b items2)(hi:IntsAre items.toList ns)(hj:IntsAre items2.toList ms)
 (hu:A.units<cLine) (h:Q (.bool (lexLt ns ms)) s):wpAny (model prog w) A (compareOp .Lt (.ref l) (.ref b)) Q E s:=by(
obtain⟨⟨S,N,I,O⟩,ho,hc,n,hd⟩:=id hl
obtain⟨⟨J,d,D,z⟩,ho2,hc2,n2,hd2⟩:=id hb
simp only at hc hd hc2 hd2
subst hc hd hc2 hd2
exact richCompare_meets_room (op:=.Lt) ⟨_,ho,rfl⟩ ⟨_,ho2,rfl⟩ PySem.F.slot_tuple_lt PySem.F.entry_tuple_lt (PySem.F.args_tuple_lt_2 _ _) (q8P l b _ _ n n2 N d O z ns ms hi hj)
 ⟨ho,ho2,show Value.bool _≠Value.notImplemented/\Q _ s from⟨(λx=>nomatch x),h⟩⟩ hu)
noncomputable def sIx(n d:Nat):Option Int->Nat
|none=>d
|some v=>if v<0 then(v+(n:Int)).toNat else min v.toNat n
theorem qLH(n d:Nat)(hd:d<=n)(o:Option Int):sIx n d o<=n:=by(
cases o with
|none=>exact hd
|some v=>
 show(if v<0 then(v+(n)).toNat else min _ n)<=n;by_cases z:v<0
 .rw[kD z];lia
 rw[hU z];exact Nat.min_le_right _ _)
theorem qDM(v:Int)(n d:Nat):(if v<0 then max (v+(n:Int)) 0 else min v (n:Int))=((sIx n d (some v):Nat):Int):=by(
show(if v<0 then max _ 0 else min v _)=(((if v<0 then(v+(n)).toNat else min _ n):Nat))
grind)
theorem qCP(lo hi:Option Int)(n:Nat):Builtin.Slice.sliceAdjust lo hi 1 (n:Int)=(((sIx n 0 lo:Nat):Int),((sIx n n hi:Nat):Int)):=by(
have h1:¬((1:Int)<0):=by lia
unfold Builtin.Slice.sliceAdjust
refine Prod.ext ?_ ?_
.cases lo with
 |none=>rfl
 |some v=>exact qDM v n 0
cases hi with
|none=>rfl
|some v=>exact qDM v n n)
theorem qCQ(i j:Nat):Builtin.Slice.slicePlaces (i:Int) (j:Int) 1=j-i:=by(
unfold Builtin.Slice.slicePlaces
have h1:(1:Int)>0:=by lia
simp only[h1,if_true,Int.ediv_one]
split<;>lia)
theorem q7L{v:Value}{o:Option Int}(p:IsPart v o)(h:Q o s):wpAny (model prog w) A (Builtin.Slice.slicePartIndex v) Q E s:=by(
cases p with
|none=>exact slicePart_none h
|int i t=>exact slicePart_int h)
theorem q5I{sl:Addr}{vl vu:Value}{lo hi:Option Int}{n:Nat}{Q:Int×Int×Nat->Shared->Prop}(hs:s.heap.IsSliceOf sl vl vu .none)(pl:IsPart vl lo)(pu:IsPart vu hi)
 (h:Q (((sIx n 0 lo:Nat):Int),1,sIx n n hi-sIx n 0 lo) s):wpAny (model prog w) A (Builtin.Slice.sliceApplied (.ref sl) (pure (n:Int))) Q E s:=by(
obtain⟨os,d,D,z⟩:=id hs
refine hX (hX (cQ d z (x:=vl) rfl (hX (cQ d z (x:=vu) rfl (hX (cQ d z (x:=.none) rfl (kW ?_)))))))
refine hX (slicePart_none ?_)
rw[hU (by decide)]
refine hX (q7L pl (hX (q7L pu (hX (kW ?_)))))
show wpAny _ _ (match Builtin.Slice.sliceAdjust lo hi 1 (n:Int)with|(lo,hi)=>pure (lo,(1:Int),Builtin.Slice.slicePlaces lo hi 1)) _ _ s
rw[qCP lo hi n]
show wpAny _ _ (pure _) _ _ s
rw[qCQ]
exact kW h)
theorem qFY(xs:Array Value)(i k:Nat):((List.range k).filterMap λ(m:Nat)=>xs[((i:Int)+(m:Int)*1).toNat]?).toArray=((xs.toList.drop i).take k).toArray:=by(
have e:(λ(m:Nat)=>xs[((i)+(m:Int)*1).toNat]?)=λm=>xs[i+m]?:=by
 funext m;have:((i)+(m:Int)*1).toNat=i+m:=by lia
 rw[this]
rw[e]
have:=pick_run xs i k
rw[List.filterMap_map]at this
have d:((λx=>xs[x]?) ∘ λx=>i+x)=λm=>xs[i+m]?:=rfl
rw[d]at this
rw[this])
theorem getItem_tuple_cut{t sl:Addr}{items:Array Value}{vl vu:Value}{lo hi:Option Int}{Q:Value->Shared->Prop}(ht:IsTup s.heap t items)(hs:s.heap.IsSliceOf sl vl vu .none)(pl:IsPart vl lo)(pu:IsPart vu hi)
 (hw:¬(sIx items.size 0 lo=0/\sIx items.size items.size hi=items.size))
 (h:Q (.ref s.heap.objs.size) { s with heap:=s.heap.push { cls:=.type "tuple",data:=.seq ((items.toList.drop (sIx items.size 0 lo)).take (sIx items.size items.size hi-sIx items.size 0 lo)).toArray } })
 (hsz:items.size<=sizeLine):wpAny (model prog w) A (getItem (.ref t) (.ref sl)) Q E s:=by(
have d:sizeOk (.seq ((items.toList.drop (sIx items.size 0 lo)).take (sIx items.size items.size hi-sIx items.size 0 lo)).toArray):=by show((items.toList.drop (sIx items.size 0 lo)).take (sIx items.size items.size hi-sIx items.size 0 lo)).toArray.size<=sizeLine;rw[mJ,gZ,nN,gE];lia
have Z:sIx items.size items.size hi<=items.size:=qLH _ _ (kO _) hi
obtain⟨os,D,z,N⟩:=id hs
have I:s.TypeIs (.ref sl) "slice":=⟨os,D,z⟩
unfold getItem
try with_reducible refine g5 ?_
first|refine hX (kW ?_)|skip
refine hX (wpAny_sequenceKey ht.typeIs (by decide) ?_)
refine hX (wpAny_callSpecial?_slot (name:=Str.ofString "__getitem__") ht.typeIs wR
 (nO wR ht.typeIs entry_tuple_getitem ?_ (args_tuple_getitem _ _)))
show wpAny _ _ (Builtin.Tuple.tupleItemsOf (.ref t) >>= _) _ _ s
refine hX (tupleItemsOf_ ht ?_)
refine hX (wpAny_typeOf I ?_)
rw[kD (by decide)]
refine hX (q5I hs pl pu ?_)
have J:¬((((sIx items.size 0 lo:Nat):Int)==0&&(1:Int)==1&&(sIx items.size items.size hi-sIx items.size 0 lo)==items.size)=true):=by intro q;rw[mQ,mQ]at q;have O:((sIx items.size 0 lo:Nat):Int)=0:=eq_of_beq q.1.1;have S:sIx items.size items.size hi-sIx items.size 0 lo=items.size:=eq_of_beq q.2;exact hw ⟨by lia,by lia⟩
show wpAny _ _ (if(((sIx items.size 0 lo:Nat):Int)==0&&(1:Int)==1&&(sIx items.size items.size hi-sIx items.size 0 lo)==items.size)=true then _ else _) _ _ s
rw[hU J,qFY]
first
 |exact hX (m:=Builtin.Tuple.tupleExact _) (wL (kW ⟨_,rfl,kW h⟩) d)
 |exact hX (m:=Builtin.Tuple.tupleExact _) (wL (hX (kW (kW ⟨_,rfl,kW h⟩))) d)
 |exact hX (hX (m:=Builtin.Tuple.tupleExact _) (wL (kW (kW ⟨_,rfl,kW h⟩)) d))
 |exact hX (hX (m:=Builtin.Tuple.tupleExact _) (wL (kW ⟨_,rfl,kW h⟩) d)))
end
end HT
namespace L2
open PySem PySem.Spec PyProof.Rows
noncomputable abbrev TO:=St->Hp->(Option Int->Hp->Prop)->Prop
noncomputable def PO(X:Cx)(e:Option Expr)(t:TO):Prop:=∀(pins:List (Addr×Obj)) (s:Shared) (σ:St) (H:Hp) (Q:Option Int->Hp->Prop),Inv X pins σ H s->t σ H Q->wpAny (model X.prog X.w) X.A (evalPart e X.env) (λu s'=>∃o H',Inv X pins σ H' s'/\IsPart u o/\Q o H') X.xe s
noncomputable def qIM:TO:=λz H Q=>Q none H
noncomputable def qND(t:TE):TO:=λσ H Q=>t σ H λx H1=>∃i,x=.int i/\Q (some i) H1
section
variable{X:Cx}{e:Expr}{te:TE}{lo hi:Option Expr}{tl th:TO}{pos p2:Pos}
theorem qIN:PO X none qIM:=by intro pins s σ H Q I h;exact kW ⟨none,H,I,.none,h⟩
theorem qIO(h:PE X e te):PO X (some e) (qND te):=by(
intro pins s σ H Q I D
refine thn (h _ s σ H _ I D) λu O J=>?_
obtain⟨x,H1,N,z,d⟩:=J
obtain⟨i,rfl,q⟩:=d
obtain⟨t,rfl⟩:=z
exact⟨some i,H1,N,.int i t,q⟩)
noncomputable def SlR(X:Cx)(r:V->Option Int->Option Int->Hp->VK->Prop):Prop:=∀(pins:List (Addr×Obj)) (s:Shared) (σ:St) (H:Hp) (x:V) (v vl vu:Value) (lo hi:Option Int) (sl:Addr) (Q:VK),Inv X pins σ H s->RelV x v->s.heap.IsSliceOf sl vl vu .none->IsPart vl lo->IsPart vu hi->r x lo hi H Q->∃T id,typeLookup (.type T) "__getitem__"=pure (some (.builtin id))/\s.TypeIs v T/\wpAny (model X.prog X.w) X.A (getItem v (.ref sl)) (EP X pins σ Q) X.xe s
noncomputable def tSl(r:V->Option Int->Option Int->Hp->VK->Prop)(te:TE)(tl th:TO):TE:=λσ H Q=>te σ H λx H1=>tl σ H1 λl H2=>th σ H2 λu H3=>r x l u H3 Q
theorem qFZ(hr:SlR X r)(he:PE X e te)(hl:PO X lo tl)(hu:PO X hi th):PE X (.Subscript e (.Slice lo hi none p2) pos) (tSl r te tl th):=by(
intro pins s σ H Q I h
refine bD (thn (he pins s σ H _ I h) λv s1 z=>?_)
obtain⟨x,H1,I1,r1,q1⟩:=z
refine wpAny_Slice (thn (hl pins s1 σ H1 _ I1 q1) λN s2 ⟨l,H2,I2,S,Z⟩=>thn (hu pins s2 σ H2 _ I2 Z) λD d z=>?_)
obtain⟨u,J,I3,O,q3⟩:=z
rw[evalPart_none]
refine kW ?_
have I4:Inv X pins σ J { d with heap:=d.heap.push { cls:=.type "slice",data:=.fields #[N,D,.none] } }:=I3.kept (t':=d.toks) λb ob q=>kJ _ q
obtain⟨T,id,hT,ht,hg⟩:=hr pins _ σ J x v N D l u d.heap.objs.size Q I4 r1 (eE ..) S O q3
exact tail_any  ht hT hg (by with_unfolding_all rfl))
noncomputable def cutV(xs:List V)(lo hi:Option Int):List V:=(xs.drop (HT.sIx xs.length 0 lo)).take (HT.sIx xs.length xs.length hi-HT.sIx xs.length 0 lo)
theorem qB7(xs:List V)(lo hi:Option Int):(cutV xs lo hi).length<=xs.length:=by unfold cutV;rw[gZ,nN];lia
noncomputable def rSlT(K:PySem.W.Frag):V->Option Int->Option Int->Hp->VK->Prop:=λx lo hi H Q=>∃a xs,x=.ref a/\SqT K H a xs/\¬(HT.sIx xs.length 0 lo=0/\HT.sIx xs.length xs.length hi=xs.length)/\∀p,H p=none->Q (.ref p) (upd H p (.tup (cutV xs lo hi)))
theorem qLI:SlR X (rSlT X.K):=by(
intro pins s σ H x v vl vu lo hi sl Q I Z O S N h
obtain⟨a,xs,rfl,hx,hw,q⟩:=h
cases Z
obtain⟨z,r,J,D⟩:=I.tuple hx
have d:z.toArray.size=xs.length:=by rw[mJ];exact r.length.symm
refine⟨"tuple",_,wR.lookup,J.typeIs,?_⟩
refine HT.getItem_tuple_cut J O S N (by rw[d];exact hw) ?_ (by rw[d];exact D)
rw[d]
refine⟨.ref s.heap.objs.size,_,I.laid (t':=s.toks)  (λb ob q=>kJ _ q) (kO _) ?_,rfl,q _ (I.hok.fresh (kO _))⟩
exact⟨mO (qB7 xs lo hi) D,_,(r.drop _).take _,IsTup.new _ _⟩)
end
noncomputable def ixN(n:Nat)(i:Int):Option Nat:=if 0<=i then(if i<n then some i.toNat else none)else if-(n:Int)<=i then some (i+n).toNat else none
noncomputable def atI{α:Type}(xs:List α)(i:Int):Option α:=(ixN xs.length i).bind λj=>xs[j]?
theorem qDN{n:Nat}{i:Int}{j:Nat}(h:ixN n i=some j):seqIndex? i n=some j/\j<n/\-(n:Int)<=i/\i<n:=by(
unfold ixN at h
by_cases d:0<=i
.rw[kD d]at h;by_cases h1:i<n
 .rw[kD h1]at h;have e:i.toNat=j:=kU h;exact⟨by rw[lT d h1,e],by lia,by lia,h1⟩
 rw[hU h1]at h;cases h
rw[hU d]at h
by_cases h1:-(n:Int)<=i
.rw[kD h1]at h;have e:(i+n).toNat=j:=kU h;exact⟨by rw[lD (by lia) h1,e],by lia,h1,by lia⟩
rw[hU h1]at h;cases h)
theorem qA6{α:Type}{xs:List α}{i:Int}{v:α}(h:atI xs i=some v):∃j,seqIndex? i xs.length=some j/\xs[j]?=some v/\j<xs.length/\-(xs.length:Int)<=i/\i<xs.length:=by(
unfold atI at h
cases e:ixN xs.length i with
|none=>simp_all
|some j=>rw[e]at h;obtain⟨h1,h2,d,z⟩:=qDN e;exact⟨j,h1,h,h2,d,z⟩)
theorem zO{α:Type}{xs:List α}{j:Nat}{v:α}(h:xs[j]?=some v):atI xs (j:Int)=some v:=by
 have d:=(kF.mp h).1;have e:ixN xs.length (j)=some j:=by unfold ixN;simp_all
 unfold atI;rw[e];exact h
noncomputable def qIP(b:Expr):Prop:=∀o i,subscripted b false o i=operate [o,i] (getItem o i)
noncomputable def IxR(X:Cx)(r:R2):Prop:=∀(value slice:Expr) (pins:List (Addr×Obj)) (s:Shared) (σ:St) (H:Hp) (x y:V) (v u:Value) (Q:VK),Inv X pins σ H s->RelV x v->RelV y u->r x y H Q->subscripted slice false v u=operate [v,u] (getItem v u)->wpAny (model X.prog X.w) X.A (subscriptTail value slice v u) (EP X pins σ Q) X.xe s
noncomputable def MtR(X:Cx)(id:String)(r:V->List V->Hp->VK->Prop):Prop:=∀(pins:List (Addr×Obj)) (s:Shared) (σ:St) (H:Hp) (x:V) (xs:List V) (v:Value) (us:List Value) (Q:VK),Inv X pins σ H s->RelV x v->Vals xs us->r x xs H Q->wpAny (model X.prog X.w) X.A (call (.builtin id) (v::us)) (EP X pins σ Q) X.xe s
section
variable{X:Cx}{a b:Expr}{ta tb:TE}{pos:Pos}
theorem qX(hr:IxR X r)(ha:PE X a ta)(hb:PE X b tb)(hs:qIP b):PE X (.Subscript a b pos) (tOp r ta tb):=by intro pins s σ H Q I h;exact bD (binT ha hb I h λv u J x y H2 D d z q=>hr a b _ J σ H2 x y v u Q D d z q (hs _ _))
noncomputable def rIxL(K:PySem.W.Frag):R2:=λx y H Q=>∃p xs i v,x=.ref p/\y=.int i/\SqL K H p xs/\atI xs i=some v/\Q v H
noncomputable def rIxT(K:PySem.W.Frag):R2:=λx y H Q=>∃p xs i v,x=.ref p/\y=.int i/\SqT K H p xs/\atI xs i=some v/\Q v H
theorem jC:IxR X (rIxL X.K):=by(
intro value O pins s σ H x y v u Q I rx ry h S
obtain⟨p,xs,i,z,rfl,rfl,hq,he,q⟩:=h
cases rx
obtain⟨t,rfl⟩:=ry
obtain⟨D,r,d,hz⟩:=I.list hq
obtain⟨j,h1,h2,h3,h4,h5⟩:=qA6 he
obtain⟨w,ew,N⟩:=r.get h2
have hl:=r.length
have hn:=q7G
have fin:EP X pins σ Q w s:=⟨z,H,I,N,q⟩
by_cases Z:0<=i
.have J:i.toNat=j:=by rw[lT Z h5]at h1;exact kU h1
 exact item_listR d.isList Z (by lia) (by rw[J];simpa using ew) fin S
have J:(i+(D.toArray.size:Int)).toNat=j:=by rw[lD (by lia) h4]at h1;rw[mJ,<-hl];exact kU h1
exact lE (x:=w) d.isList.typeIs slot_list_getitem.lookup
 (lF (Q:=λr s'=>r=w/\EP X pins σ Q r s') d.isList (by lia) (by rw[mJ]<;>lia) (by lia) (by rw[J];simpa using ew) ⟨rfl,fin⟩) S)
theorem jO:IxR X (rIxT X.K):=by(
intro value D pins s σ H x y v u Q I Z S h O
obtain⟨p,xs,i,z,rfl,rfl,hq,N,q⟩:=h
cases Z
obtain⟨t,rfl⟩:=S
obtain⟨aa,r,J,hz⟩:=I.tuple hq
obtain⟨j,h1,h2,h3,h4,h5⟩:=qA6 N
obtain⟨w,ew,d⟩:=r.get h2
have hl:=r.length
have hn:=q7G
have fin:EP X pins σ Q w s:=⟨z,H,I,d,q⟩
exact lE  J.typeIs slot_tuple_getitem.lookup
 (getItem_tuple (j:=j)  J (by lia) (by lia) (by rw[mJ,<-hl];exact h1) (by simpa using ew) ⟨rfl,fin⟩) O)
theorem qCR(its:List Value)(n j:Nat)(u:Value):Obj.mapSeq (·.setIfInBounds j u) { cls:=.type "list",data:=.seq its.toArray n } = { cls:=.type "list",data:=.seq (its.set j u).toArray n }:=by simp[Obj.mapSeq]
theorem Inv.lst{pins:List (Addr×Obj)}{σ:St}{H:Hp}{s:Shared}{p:Addr}{xs:List V}(I:Inv X pins σ H s)(h:H p=some (.lst xs)):
 ∃(its:List Value) (n:Nat),Vals xs its/\s.heap.get? p=some { cls:=.type "list",data:=.seq its.toArray n }/\xs.length<=sizeLine:=by obtain⟨z,its,n,r,e⟩:=I.hok p _ h;exact⟨its,n,r,e,z⟩
theorem Inv.lstUpd{s:Shared}{p:Addr}{its its':List Value}{n:Nat}{f:Obj->Obj}(I:Inv X pins σ H s)(h:H p=some (.lst xs))
 (ho:s.heap.get? p=some { cls:=.type "list",data:=.seq its.toArray n }) (hf:f { cls:=.type "list",data:=.seq its.toArray n } = { cls:=.type "list",data:=.seq its'.toArray n' }) (r:Vals ys its') (hz:ys.length<=sizeLine) (t:Nat):
 Inv X pins σ (upd H p (.lst ys)) { s with heap:=s.heap.update p f,toks:=t }:=by
 have e:(s.heap.update p f).get? p=some { cls:=.type "list",data:=.seq its'.toArray n' }:=by rw[rC f ho (by rw[hf]<;>rfl),hf]
 refine I.write   (by rw[h];trivial) (.inl rfl) (λb u d q=>(mF _ _ (cC d)).trans q) ⟨_,e⟩ ?_;exact⟨hz,its',n',r,e⟩
noncomputable def qNE:V->V->V->Hp->(Hp->Prop)->Prop:=λo i v H Q=>∃p xs k j,o=.ref p/\i=.int k/\H p=some (.lst xs)/\ixN xs.length k=some j/\Q (upd H p (.lst (xs.set j v)))
theorem uJ:PSet X qNE:=by(
intro pins s σ H o i v ov iv u Q I ro ri rv h
obtain⟨p,xs,k,j,rfl,rfl,O,hj,q⟩:=h
cases ro
obtain⟨t,rfl⟩:=ri
obtain⟨d,n,r,z,hz⟩:=I.lst O
obtain⟨h1,h2,J,S⟩:=qDN hj
have hl:=r.length
have hn:=q7G
have Z:=I.lstUpd O z (qCR d n j u) (r.set rv j) (by rw[gU];exact hz) s.toks
by_cases N:0<=k
.have D:k.toNat=j:=by rw[lT N S]at h1;exact kU h1
 exact PySem.W.ki_setAt z N (by lia) (by rw[mJ,<-hl];exact S) (by rw[D];exact⟨_,Z,q⟩)
have D:(k+(d.toArray.size:Int)).toNat=j:=by rw[lD (by lia) J]at h1;rw[mJ,<-hl];exact kU h1
exact PySem.W.ki_setBack z (by lia) (by rw[mJ,<-hl];exact J) (by lia) (by rw[D];exact⟨_,Z,q⟩))
noncomputable def zW:V->Bool
| .non=>true
| .bl _=>true
| .int _=>true
| .str _=>true
|_=>false
noncomputable def eqV:V->V->Bool
| .non,.non=>true
| .bl a,.bl b=>a==b
| .bl a,.int b=>(if a then 1 else 0)==b
| .int a,.bl b=>a==(if b then 1 else 0)
| .int a,.int b=>a==b
| .str a,.str b=>a==b
|_,_=>false
theorem qG0{s:Shared}{y x:V}{v:Value}(ry:RelV y u)(rx:RelV x v)(fy:zW y=true)(fx:zW x=true):SeqAt.EqAt A s u v (eqV y x):=by(
cases y with
|non=>
 cases ry;cases x with
 |non=>cases rx;exact lL _
 |bl b=>cases rx;exact SeqAt.EqAt.none_bool b
 |int b=>obtain⟨t,rfl⟩:=rx;exact SeqAt.EqAt.none_int b t
 |str b=>obtain⟨t,rfl⟩:=rx;exact SeqAt.EqAt.none_str b t
 |_=>exact absurd (show false=true from fx) kX
|bl a=>
 cases ry;cases x with
 |non=>cases rx;exact SeqAt.EqAt.bool_none a
 |bl b=>cases rx;exact SeqAt.EqAt.bool_bool a b
 |int b=>obtain⟨t,rfl⟩:=rx;exact SeqAt.EqAt.bool_int a b t
 |str b=>obtain⟨t,rfl⟩:=rx;exact SeqAt.EqAt.bool_str a b t
 |_=>exact absurd (show false=true from fx) kX
|int a=>
 obtain⟨d,rfl⟩:=ry;cases x with
 |non=>cases rx;exact SeqAt.EqAt.int_none a d
 |bl b=>cases rx;exact SeqAt.EqAt.int_bool a d b
 |int b=>obtain⟨t,rfl⟩:=rx;exact sT a d b t
 |str b=>obtain⟨t,rfl⟩:=rx;exact xH a d b t
 |_=>exact absurd (show false=true from fx) kX
|str a=>
 obtain⟨d,rfl⟩:=ry;cases x with
 |non=>cases rx;exact SeqAt.EqAt.str_none a d
 |bl b=>cases rx;exact SeqAt.EqAt.str_bool a d b
 |int b=>obtain⟨t,rfl⟩:=rx;exact xI a d b t
 |str b=>obtain⟨t,rfl⟩:=rx;exact SeqAt.EqAt.str_str a d b t
 |_=>exact absurd (show false=true from fx) kX
|_=>exact absurd (show false=true from fy) kX)
noncomputable def eqU(x:V)(u:Value):Bool:=match u with
| .none=>eqV .non x
| .bool b=>eqV (.bl b) x
| .int i _=>eqV (.int i) x
| .str z _=>eqV (.str z) x
|_=>false
theorem qG1{x y:V}(r:RelV y u)(f:zW y=true):eqU x u=eqV y x:=by(
cases y with
|non=>cases r;rfl
|bl b=>cases r;rfl
|int i=>obtain⟨t,rfl⟩:=r;rfl
|str z=>obtain⟨t,rfl⟩:=r;rfl
|_=>exact absurd (show false=true from f) kX)
theorem q4Q{x:V}:∀{xs:List V} {us:List Value},Vals xs us->xs.all zW=true->us.any (eqU x)=xs.any λy=>eqV y x
|_,_,.nil,_=>rfl
|y::xs,u::us,.cons r t,f=>by rw[bU,mQ]at f;rw[cX,cX,qG1 r f.1,q4Q t f.2]
theorem q29{s:Shared}{x:V}{v:Value}(rx:RelV x v)(fx:zW x=true):∀{xs:List V} {us:List Value},Vals xs us->xs.all zW=true->∀u∈us,SeqAt.EqAt A s u v (eqU x u)
|_,_,.nil,_=>λu hu=>by cases hu
|y::xs,u::us,.cons r t,f=>λu' hu=>by
 rw[bU,mQ]at f;rcases kM.mp hu with rfl|hu
 .rw[qG1 r f.1];exact qG0 r rx f.1 fx
 exact q29 rx fx t f.2 u' hu
noncomputable def inV(x:V)(xs:List V):Bool:=xs.any λy=>eqV y x
noncomputable def rIn(K:PySem.W.Frag)(neg:Bool):R2:=λx y H Q=>∃p xs,y=.ref p/\(SqL K H p xs\/SqT K H p xs)/\zW x=true/\xs.all zW=true/\Q (.bl (if neg then !inV x xs else inV x xs)) H
theorem qEX:OpR X (compareOp .In) (rIn X.K false):=by(
intro pins s σ H x y v u Q I N S h
obtain⟨p,xs,rfl,z,fx,fs,q⟩:=h
cases S
rcases z with z|z
.obtain⟨d,r,D,O⟩:=I.list z;refine SeqAt.in_listAt (eqU x) D.isList (λw J=>q29 N fx r fs w (by simpa using J)) ⟨.bl _,H,I,rfl,?_⟩;rw[show d.toArray.any (eqU x)=d.any (eqU x) by simp,q4Q r fs];exact q
obtain⟨d,r,D,O⟩:=I.tuple z
refine SeqAt.in_tupleAt (eqU x) D (λw J=>q29 N fx r fs w (by simpa using J)) ⟨.bl _,H,I,rfl,?_⟩
rw[show d.toArray.any (eqU x)=d.any (eqU x) by simp,q4Q r fs]
exact q)
theorem q1G:OpR X (compareOp .NotIn) (rIn X.K true):=by(
intro pins s σ H x y v u Q I N S h
obtain⟨p,xs,rfl,z,fx,fs,q⟩:=h
cases S
rcases z with z|z
.obtain⟨d,r,D,O⟩:=I.list z;refine SeqAt.notIn_listAt (eqU x) D.isList (λw J=>q29 N fx r fs w (by simpa using J)) ⟨.bl _,H,I,rfl,?_⟩;rw[show d.toArray.any (eqU x)=d.any (eqU x) by simp,q4Q r fs];exact q
obtain⟨d,r,D,O⟩:=I.tuple z
refine SeqAt.notIn_tupleAt (eqU x) D (λw J=>q29 N fx r fs w (by simpa using J)) ⟨.bl _,H,I,rfl,?_⟩
rw[show d.toArray.any (eqU x)=d.any (eqU x) by simp,q4Q r fs]
exact q)
theorem jS:q3O X (.builtin "len") (λxs H Q=>∃p ys,xs=[.ref p]/\(SqL X.K H p ys\/SqT X.K H p ys)/\Q (.int ys.length) H):=by(
intro pins s σ H xs us Q I r h
obtain⟨p,ys,rfl,z,q⟩:=h
obtain⟨u,rfl,S⟩:=q27 r
cases S
have Z:=q7G
rcases z with z|z
.obtain⟨J,N,D,O⟩:=I.list z;have d:=N.length;exact Calls.call_len_list D.isList (by simp only[mJ]<;>lia) ⟨.int _,H,I.tok _,⟨s.toks+1,by rw[mJ,d]⟩,q⟩
obtain⟨J,N,D,O⟩:=I.tuple z
have d:=N.length
exact len_tuple D (by simp only[mJ]<;>lia) ⟨.int _,H,I.tok _,⟨s.toks+1,by rw[mJ,d]⟩,q⟩)
theorem qA7:q3O X (.type "list") (λxs H Q=>∃p ys,xs=[.ref p]/\(SqL X.K H p ys\/SqT X.K H p ys)/\∀l,H l=none->Q (.ref l) (upd H l (.lst ys))):=by(
intro pins s σ H xs us Q I r h
obtain⟨p,ys,rfl,O,q⟩:=h
obtain⟨u,rfl,rx⟩:=q27 r
cases rx
have fin:∀(d:List Value),Vals ys d->ys.length<=sizeLine->∀(h':Heap) (D:Nat),(∀b o',s.heap.get? b=some o'->h'.get? b=some o')->h'.get? _=some _->EP X pins σ Q _ _:=λd z J h' D kp e=>⟨.ref _,_,I.laid (t':=s.toks) kp (kO _) (show jM X.prog X.w _ h' _ (.lst ys)from⟨J,d,D,z,e⟩),rfl,q _ (I.hok.fresh (kO _))⟩
rcases O with O|O
.obtain⟨d,z,S,J⟩:=I.list O;have N:=z.length;obtain⟨o,Z,hc,n,hd⟩:=S.isList;exact call_list_seq p (.inl rfl) Z hc hd (λh' D kp e=>fin d z J h' D kp e) (by simp only[mJ]<;>lia)
obtain⟨d,z,S,J⟩:=I.tuple O
have N:=z.length
obtain⟨o,Z,hc,n,hd⟩:=S
exact call_list_seq p (.inr rfl) Z hc hd (λh' D kp e=>fin d z J h' D kp e) (by simp only[mJ]<;>lia))
noncomputable def tyV(K:PySem.W.Frag)(T:String)(x:V)(H:Hp):Prop:=match x with
| .str _=>T="str"
| .int _=>T="int"
| .ref p=>(T="list"/\∃xs,SqL K H p xs)\/(T="tuple"/\∃o,K.lookup p=some o/\o.cls=.type "tuple"/\o.dict=none)\/(T="dict"/\((∃kvs,H p=some (.dK kvs))\/∃kvs,H p=some (.dT kvs)))\/(T="set"/\∃S n,H p=some (.set S n))
|_=>False
theorem qG2{s:Shared}{T:String}{x:V}{v:Value}(I:Inv X pins σ H s)(r:RelV x v)(ty:tyV X.K T x H):
 s.TypeIs v T/\∀a,v=.ref a->∃ob,s.heap.get? a=some ob/\ob.dict=none:=by(
cases x with
|str z=>obtain⟨t,rfl⟩:=r;cases(show T="str" from ty);exact⟨typeIs_str s z t,λZ e=>nomatch e⟩
|int i=>obtain⟨t,rfl⟩:=r;cases(show T="int" from ty);exact⟨bE s i t,λZ e=>nomatch e⟩
|ref p=>
 cases r;rcases ty with⟨rfl,xs,hq⟩|⟨rfl,o,hk,hc,D⟩|⟨rfl,hk⟩|⟨rfl,S,n,hk⟩
 .obtain⟨N,_,J,_⟩:=I.list hq;refine⟨J.isList.typeIs,λa e=>?_⟩;cases e;obtain⟨o,n,e,c,D,_⟩:=J;exact⟨o,e,D⟩
 .refine⟨⟨o,I.kIn p o hk,hc⟩,λa e=>?_⟩;cases e;exact⟨o,I.kIn _ o hk,D⟩
 .have z:∃o,s.heap.get? p=some o/\o.ExactDict:=by
   rcases hk with⟨kvs,hk⟩|⟨kvs,hk⟩
   .obtain⟨_,_,_,_,o,_,_,e,ex,_⟩:=I.hok p _ hk;exact⟨o,e,ex⟩
   obtain⟨_,_,_,_,o,_,_,e,ex,_⟩:=I.hok p _ hk;exact⟨o,e,ex⟩
  obtain⟨o,e,ex⟩:=z;refine⟨⟨o,e,ex.1⟩,λa d=>?_⟩;cases d;exact⟨o,e,ex.2.1⟩
 obtain⟨o,_,_,_,e,ex,_⟩:=I.hok p _ hk;refine⟨⟨o,e,ex.1⟩,λa d=>?_⟩;cases d;exact⟨o,e,ex.2.1⟩
|_=>exact False.elim ty)
noncomputable def tBM0(K:PySem.W.Frag)(T:String)(r:V->List V->Hp->VK->Prop)(to:TE):TE:=λσ H Q=>to σ H λx H1=>tyV K T x H1/\r x [] H1 Q
noncomputable def tBM(K:PySem.W.Frag)(T:String)(r:V->List V->Hp->VK->Prop)(to:TE)(t:TA):TE:=λσ H Q=>to σ H λx H1=>tyV K T x H1/\t σ H1 λxs H2=>r x xs H2 Q
variable{o e:Expr}{es:List Expr}{to:TE}{t:TA}{name:Str}{apos cpos:Pos}{T id:String}{r:V->List V->Hp->VK->Prop}
theorem qG3(pa:PlainAttrs T)(slot:Slot T name id)(hty:typeOf (.builtin id)=pure (.type "method_descriptor"))(hm:MtR X id r)(ho:PE X o to)
 (hbase:attributeBase o name X.env (eval o X.env)=eval o X.env:=by rfl) (hline:(apos.endLine==cpos.line)=true:=by rfl):PE X (.Call (.Attribute o name apos) [] [] cpos) (tBM0 X.K T r to):=by(
intro pins s σ H Q I h
refine wpAny_Call_method0_late hbase hline (thn (ho _ s σ H _ I h) λv N J=>?_)
obtain⟨x,H1,z,d,ty,D⟩:=J
obtain⟨h1,h2⟩:=qG2 z d ty
exact⟨T,id,pa,slot,hty,h1,h2,pH rfl (PySem.evalArgs_none (hm _ N σ H1 x [] v [] Q z d .nil D))⟩)
theorem qDO(pa:PlainAttrs T)(slot:Slot T name id)(hty:typeOf (.builtin id)=pure (.type "method_descriptor"))(hm:MtR X id r)(ho:PE X o to)(ha:PA X (e::es) t)
 (hbase:attributeBase o name X.env (eval o X.env)=eval o X.env:=by rfl)
 (hfew:((backTo cpos (starEach (e::es) X.env)).all (λx=>!x.1)&&(backToKw cpos (keywordEach [] X.env)).all (λx=>x.1.isSome)
  &&decide ((e::es).length+([]:List Keyword).length+(if([]:List Keyword).isEmpty then 0 else 1)<30))=true:=by rfl)
 (hline:(apos.endLine==cpos.line)=true:=by rfl) (hs:starEach (e::es) X.env=(false,eval e X.env)::starEach es X.env:=by rfl) (hplain:(backTo cpos (starEach es X.env)).any (·.1)=false:=by rfl):
 PE X (.Call (.Attribute o name apos) (e::es) [] cpos) (tBM X.K T r to t):=by(
intro pins s σ H Q I h
refine wpAny_Call_method_late hbase hfew hline rfl (thn (ho pins s σ H _ I h) λv s1 hZ=>?_)
obtain⟨x,H1,D,d,ty,J⟩:=hZ
obtain⟨h1,h2⟩:=qG2 D d ty
refine⟨T,id,pa,slot,hty,h1,h2,?_⟩
have z:=ha cpos pins s1 σ H1 _ D J
rw[hs]at z ⊢
refine pH (by assumption) (lU ?_)
exact thn z λO Z ⟨N,H2,I2,r2,S⟩=>hm pins Z σ H2 x N v O Q I2 d r2 S)
end
noncomputable def MtM(X:Cx)(id:String)(r:V->List V->Hp->VK->Prop):Prop:=∀(pins:List (Addr×Obj)) (s:Shared) (σ:St) (H:Hp) (x:V) (xs:List V) (v:Value) (us:List Value) (Q:VK),Inv X pins σ H s->RelV x v->Vals xs us->r x xs H Q->wpAny (model X.prog X.w) X.A (call (.builtin id) (v::us)) (EP X pins σ Q) X.xe s
theorem Vals.one{x:V}(h:Vals [x] us):∃u,us=[u]/\RelV x u:=by
 cases h with
 |cons r t=>cases t;exact⟨_,rfl,r⟩
theorem Vals.zero:∀{us:List Value},Vals [] us->us=[]
|_,.nil=>rfl
theorem Vals.rep(h:Vals xs us):∀k:Nat,Vals (List.replicate k xs).flatten (List.replicate k us).flatten
|0=>.nil
|k+1=>by rw[d8,d8,cM,cM];exact Vals.append h (Vals.rep h k)
theorem q9G(its:List Value):∀(k:Nat) (acc:List Value),List.foldl (λx1 x2=>x1++x2) acc.toArray (List.replicate k its.toArray)=(acc++(List.replicate k its).flatten).toArray
|0,acc=>by simp
|k+1,acc=>by
 have e:acc.toArray++its.toArray=(acc++its).toArray:=by simp
 have d:(acc++its)++(List.replicate k its).flatten=acc++(List.replicate (k+1) its).flatten:=by rw[d8,cM,pJ]
 rw[<-d,<-q9G its k (acc++its),<-e,d8,List.foldl_cons]
section
variable{X:Cx}{pins:List (Addr×Obj)}{σ:St}{H:Hp}{s:Shared}{l b:Addr}{xs ys zs:List V}
theorem Inv.lset{its its':List Value}{n:Nat}{f:Array Value->Array Value}(I:Inv X pins σ H s)(hH:H l=some (.lst xs))
 (e:s.heap.get? l=some { cls:=.type "list",data:=.seq its.toArray n }) (hf:f its.toArray=its'.toArray) (hv:Vals ys its') (hz:ys.length<=sizeLine):
 Inv X pins σ (upd H l (.lst ys)) { s with heap:=s.heap.update l (Obj.mapSeq f),toks:=t' }:=by(
have q:=PySem.IsL.update e f
rw[hf]at q
refine I.write   (by rw[hH];exact trivial) (.inl rfl) (λD u z d=>(mF _ _ (cC z)).trans d) ⟨_,q⟩ ?_
exact⟨hz,its',_,hv,q⟩)
theorem Inv.lnew(I:Inv X pins σ H s)(hv:Vals ys its)(hz:ys.length<=sizeLine):
 Inv X pins σ (upd H s.heap.objs.size (.lst ys)) { s with heap:=s.heap.push { cls:=.type "list",data:=.seq its.toArray },toks:=t' }:=I.laid (λz z q=>kJ _ q) (kO _) ⟨hz,its,0,hv,mW _ rfl⟩
theorem Inv.fresh(I:Inv X pins σ H s):H s.heap.objs.size=none:=I.hok.fresh (kO _)
theorem Inv.lstM(I:Inv X pins σ H s)(hH:H l=some (.lst xs)):xs.length<=sizeLine/\∃(its:List Value) (n:Nat),Vals xs its/\xs.length=its.length/\s.heap.get? l=some { cls:=.type "list",data:=.seq its.toArray n }:=by obtain⟨z,its,n,r,e⟩:=I.hok l _ hH;exact⟨z,its,n,r,r.length,e⟩
theorem qG4{n:Nat}(h:n<=sizeLine):Builtin.List.listTooLong n=false:=by exact kB (by lia)
end
section
variable{X:Cx}
noncomputable def qIQ:V->List V->Hp->VK->Prop:=λx vs H Q=>∃l xs y,x=.ref l/\vs=[y]/\H l=some (.lst xs)/\xs.length<sizeLine/\Q .non (upd H l (.lst (xs++[y])))
theorem q13:MtM X "list.append" qIQ:=by(
intro pins s σ H x S v Z Q I D N h
obtain⟨l,xs,y,rfl,rfl,d,O,q⟩:=h
cases D
obtain⟨u,rfl,ru⟩:=N.one
obtain⟨z,J,n,r,hl,e⟩:=I.lstM d
refine bG F.slot_list_append ⟨_,e,rfl⟩ F.entry_list_append (F.args_list_append_2 _ _) (PySem.list_append l _ n u (by simp_all)) ⟨e,?_⟩
refine⟨.non,_,I.lset  d e (by simp) (r.append (.cons ru .nil)) ?_,rfl,q⟩
rw[mI,gF]
lia)
noncomputable def rRep:R2:=λx y H Q=>∃l k xs,x=.ref l/\y=.int k/\H l=some (.lst xs)/\-(2 ^ 63)<=k/\k<2 ^ 63/\xs.length*k.toNat<=sizeLine/\∀p,H p=none->Q (.ref p) (upd H p (.lst (List.replicate k.toNat xs).flatten))
theorem qIR{α:Type}(xs:List α)(k:Nat):(List.replicate k xs).flatten.length=k*xs.length:=by(
simp)
theorem qLJ:OpR X (binaryOp .Mult) rRep:=by(
intro pins s σ H x y v u Q I rx ry h
obtain⟨l,k,xs,rfl,rfl,hH,h1,h2,Z,q⟩:=h
cases rx
obtain⟨t,rfl⟩:=ry
obtain⟨z,d,n,r,hl,e⟩:=I.lstM hH
have J:d.toArray.size*k.toNat<=sizeLine:=by rw[mJ,<-hl];exact Z
have N:¬d.toArray.size*k.toNat>(2 ^ 63-1) / 8:=by
 have:(sizeLine:Nat)<=(2 ^ 63-1) / 8:=by decide
 lia
have S:¬(!Builtin.List.listFitsIndex k)=true:=by rw[fitsIndex_both h1 h2];exact kX
have D:¬Builtin.List.listTooLong (d.toArray.size*k.toNat)=true:=by rw[qG4 J];exact kX
have O:List.foldl (λx1 x2=>x1++x2) #[] (List.replicate (if d.toArray.isEmpty=true then 0 else k.toNat) d.toArray)=(List.replicate k.toNat d).flatten.toArray:=by
 have f0:=λm=>by have:=q9G d m [];rw[gM]at this;exact this
 rw[f0];cases d with
 |nil=>simp
 |cons a r'=>rw[hU (by simp)]
refine wpAny_binaryOp_repeat_ref (T:="list") (U:="int") (by decide) ⟨_,e,rfl⟩ (λs'=>bE s' k t) noFill_list_mul F.fills_int_mul aS repeat_list F.slot_int_index.lookup
 (bG aS (bE s k t) F.entry_int_rmul (F.args_int_rmul_2 _ _) (int___rmul___int_list k t l d.toArray n)
  ⟨e,rfl,⟨_,e,rfl⟩,bG F.slot_list_mul ⟨_,e,rfl⟩ F.entry_list_mul (F.args_list_mul_2 _ _) (AutoListH.list___mul___list_int_3 l d.toArray n k t S N D) ⟨e,?_⟩⟩)
rw[O]
exact⟨.ref _,_,I.lnew (t':=s.toks) (r.rep k.toNat) (by rw[qIR,dZ];exact Z),rfl,q _ I.fresh⟩)
end
section
variable{κ:Type}[DecidableEq κ]
noncomputable def valV(kvs:List (κ×V))(k:κ):Option V:=(kvs.find? λkv=>decide (kv.1=k)).map (·.2)
noncomputable def putK(kvs:List (κ×V))(k:κ)(v:V):List (κ×V):=if(kvs.any λkv=>decide (kv.1=k))=true then kvs.map (λkv=>if kv.1=k then(kv.1,v)else kv)else kvs++[(k,v)]
noncomputable def q7M(kvs:List (κ×V))(k:κ):List (κ×V):=kvs.filter λkv=>decide (kv.1≠k)
theorem q4R{p:κ×V}{k:κ}(e:p.1=k):valV (p::r) k=some p.2:=by simp[valV,dR,e]
theorem q2A{p:κ×V}{k:κ}(e:¬p.1=k):valV (p::r) k=valV r k:=by simp[valV,dR,e]
theorem qB8(k:κ):∀kvs:List (κ×V),(kvs.any λkv=>decide (kv.1=k))=(valV kvs k).isSome
| []=>rfl
|p::r=>by
 rw[cX];by_cases e:p.1=k
 .simp only[q4R e,hC e,Bool.true_or,Option.isSome_some]
 rw[q2A e,kB e,bV];exact qB8 k r
theorem q6B(kvs:List (κ×V))(k:κ)(v:V):(putK kvs k v).length<=kvs.length+1:=by(
unfold putK
split
.simp
simp)
theorem RelO.isSome_eq{o:Option V}(r:RelO o u):o.isSome=u.isSome:=by(
cases o with
|none=>cases u with
 |none=>rfl
 |some _=>exact(show False from r).elim
|some _=>cases u with
 |none=>exact(show False from r).elim
 |some _=>rfl)
theorem KV.val(r:KV kvs vs)(k:κ):RelO (valV kvs k) (valueAt vs k):=by(
induction r with
|nil=>exact True.intro
|@cons p q ps qs h t ih=>
 obtain⟨h1,h2⟩:=h;by_cases e:p.1=k
 .have d:=h1.symm.trans e;have b:valueAt (q::qs) k=some q.2:=by simp[valueAt,dR,d]
  rw[q4R e,b];exact h2
 have d:¬q.1=k:=λz=>e (h1.trans z);have b:valueAt (q::qs) k=valueAt qs k:=by simp[valueAt,dR,d]
 rw[q2A e,b];exact ih)
theorem KV.any(r:KV kvs vs)(k:κ):(kvs.any λkv=>decide (kv.1=k))=vs.any λkv=>decide (kv.1=k):=by(
induction r with
|nil=>rfl
|cons h t d=>simp_all)
theorem KV.repl(r:KV kvs vs)(k:κ){y:V}(ry:RelV y u):
 KV (kvs.map λkv=>if kv.1=k then(kv.1,y)else kv) (vs.map λkv=>if kv.1=k then(kv.1,u)else kv):=by(
induction r with
|nil=>exact .nil
|@cons p q ps qs h t ih=>
 rw[mV,mV];refine .cons ?_ ih;obtain⟨h1,h2⟩:=h;by_cases e:p.1=k
 .rw[kD e,kD (h1.symm.trans e)];exact⟨h1,ry⟩
 rw[hU e,hU (λz=>e (h1.trans z))];exact⟨h1,h2⟩)
theorem KV.put(r:KV kvs vs)(k:κ){y:V}(ry:RelV y u):KV (putK kvs k y) (stored vs k u):=by(
unfold putK stored
rw[r.any k]
by_cases e:(vs.any λd=>decide (d.1=k))=true
.rw[kD e,kD e];exact r.repl k ry
rw[hU e,hU e];exact Paired.snoc r ⟨rfl,ry⟩)
theorem KV.drop(r:KV kvs vs)(k:κ):KV (q7M kvs k) (without vs k):=by(
unfold q7M without
induction r with
|nil=>exact .nil
|@cons p q ps qs h t ih=>
 obtain⟨h1,h2⟩:=h;rw[gH,gH];by_cases e:p.1=k
 .have a:¬decide (p.1≠k)=true:=by simp[e]
  have b:¬decide (q.1≠k)=true:=by simp_all
  rw[hU a,hU b];exact ih
 have d:¬q.1=k:=λz=>e (h1.trans z);have a:decide (p.1≠k)=true:=by simp[e]
 have b:decide (q.1≠k)=true:=by simp[d]
 rw[kD a,kD b];exact .cons ⟨h1,h2⟩ ih)
theorem KV.keys{kvs:List (κ×V)}{vs:List (κ×Value)}(r:KV kvs vs):kvs.map (·.1)=vs.map (·.1):=by(
induction r with
|nil=>rfl
|cons h t d=>simp_all)
theorem KV.length(r:KV kvs vs):kvs.length=vs.length:=xD r
theorem qG5(kvs:List (κ×V))(k:κ):(q7M kvs k).length<=kvs.length:=mK _ _
end
theorem q9H{P:Program}{w:World}{k:Key}(r:RelV (kV k) u):(yF P w).is k u=true:=by(
cases k with
|inl i=>obtain⟨t,e⟩:=(show ∃t,u=Value.int i t from r);subst e;exact qB0 P w i t
|inr x=>obtain⟨t,e⟩:=(show ∃t,u=Value.str x t from r);subst e;exact qB1 P w x t)
theorem q9I{P:Program}{w:World}:∀{ks:List Key} {us:List Value},Vals (ks.map kV) us->ItemsAre (yF P w) ks us
| [],_,r=>by rw[bZ]at r;cases r;exact .nil
|k::ks,_,r=>by
 rw[mV]at r;cases r with
 |cons h t=>exact .cons (q9H h) (q9I t)
noncomputable abbrev KT(H:Hp):List (List Key×V)->List (List Key×Addr×Value)->Prop:=Paired λp q=>p.1=q.1/\H q.2.1=some (.tup (p.1.map kV))/\RelV p.2 q.2.2
theorem KT.val(r:KT H kvs xs)(k:List Key):RelO (valV kvs k) ((atKey xs k).map (·.2)):=by(
induction r with
|nil=>exact True.intro
|@cons p q ps qs h t ih=>
 obtain⟨h1,_,h2⟩:=h;by_cases e:p.1=k
 .have d:=h1.symm.trans e;have b:atKey (q::qs) k=some q.2:=by simp[atKey,dR,d]
  rw[q4R e,b];exact h2
 have d:¬q.1=k:=λz=>e (h1.trans z);have b:atKey (q::qs) k=atKey qs k:=by simp[atKey,dR,d]
 rw[q2A e,b];exact ih)
theorem KT.repl(r:KT H kvs xs)(k:List Key){y:V}(ry:RelV y u):
 KT H (kvs.map λkv=>if kv.1=k then(kv.1,y)else kv) (xs.map (putAt k u)):=by(
induction r with
|nil=>exact .nil
|@cons p q ps qs h t ih=>
 rw[mV];refine .cons ?_ ih;obtain⟨h1,h2,d⟩:=h;unfold putAt;by_cases e:p.1=k
 .rw[kD e,kD (h1.symm.trans e)];exact⟨h1,h2,ry⟩
 rw[hU e,hU (λz=>e (h1.trans z))];exact⟨h1,h2,d⟩)
theorem KT.put(r:KT H kvs xs)(k:List Key){b:Addr}{y:V}(hb:H b=some (.tup (k.map kV)))(ry:RelV y u):
 KT H (putK kvs k y) (storedH xs k b u):=by(
have e:(kvs.any λd=>decide (d.1=k))=(atKey xs k).isSome:=by rw[qB8,(r.val k).isSome_eq,nI]
unfold putK storedH
rw[e]
by_cases q:(atKey xs k).isSome=true
.rw[kD q,kD q];exact r.repl k ry
rw[hU q,hU q];exact Paired.snoc r ⟨rfl,hb,ry⟩)
theorem KT.keeps(r:KT H kvs xs)(ht:∀b ys,H b=some (.tup ys)->H' b=some (.tup ys)):KT H' kvs xs:=Paired.mapP r λd d z=>⟨z.1,ht _ _ z.2.1,z.2.2⟩
section
variable{P:Program}{w:World}{H:Hp}{h:Heap}{a:Addr}
theorem qKR(ok:HOk P w H h)(e:Rd H a u):jM P w H h a u:=e.ok ok
theorem q9J(ok:HOk P w H h)(e:Rd H a (.dK kvs)):kvs.length<=sizeLine/\(a==sysModules)=false/\∃vs,KV kvs vs/\h.DictOf (yF P w) a vs:=show jM P w H h a (.dK kvs)from qKR ok e
theorem qB9(ok:HOk P w H h)(e:H a=some (.dK kvs)):kvs.length<=sizeLine/\(a==sysModules)=false/\∃vs,KV kvs vs/\h.DictOf (yF P w) a vs:=q9J ok (.inl e)
theorem q7N{ks:List Key}(ok:HOk P w H h)(e:H a=some (.tup (ks.map kV))):(tupleKind (yF P w)).is h ks a:=by obtain⟨_,d,r,o,h1,h2,n,z⟩:=(show jM P w H h a (.tup _)from ok a _ e);exact⟨o,d.toArray,n,h1,h2,z,by simpa using q9I r⟩
theorem q9K(ok:HOk P w H h)(e:Rd H a (.dT kvs)):kvs.length<=sizeLine/\(a==sysModules)=false/\∃xs,KT H kvs xs/\h.DictOfH (tupleKind (yF P w)) a xs:=by(
obtain⟨z,y,xs,r,o,es,I,h1,h2,D,N,J⟩:=(show jM P w H h a (.dT kvs)from qKR ok e)
refine⟨z,y,xs,r,o,es,I,h1,h2,D,N,λx d=>?_,J⟩
have all:∀{l:List (List Key×V)} {m:List _},KT H l m->∀x∈m,(tupleKind (yF P w)).is h x.1 x.2.1:=by
 intro l m q;induction q with
 |nil=>simp
 |@cons p q ps qs hq t ih=>
  intro x d;rcases kM.mp d with e|d
  .subst e;exact q7N ok (by simp_all)
  exact ih x d
exact all r x d)
theorem qNF(ok:HOk P w H h)(e:H a=some (.dT kvs)):kvs.length<=sizeLine/\(a==sysModules)=false/\∃xs,KT H kvs xs/\h.DictOfH (tupleKind (yF P w)) a xs:=q9K ok (.inl e)
end
noncomputable def DGet(H:Hp)(a:Addr)(y:V)(r:Option V):Prop:=(∃kvs k,Rd H a (.dK kvs)/\y=kV k/\r=valV kvs k)\/∃kvs k b,Rd H a (.dT kvs)/\y=.ref b/\H b=some (.tup (k.map kV))/\r=valV kvs k
noncomputable def DPut(H:Hp)(a:Addr)(y v:V)(H':Hp):Prop:=(∃kvs k,H a=some (.dK kvs)/\y=kV k/\kvs.length<sizeLine/\H'=upd H a (.dK (putK kvs k v)))\/∃kvs k b,H a=some (.dT kvs)/\y=.ref b/\H b=some (.tup (k.map kV))/\kvs.length<sizeLine/\H'=upd H a (.dT (putK kvs k v))
theorem DGet.k{a:Addr}{k:Key}(e:H a=some (.dK kvs)):DGet H a (kV k) (valV kvs k):=.inl ⟨kvs,k,.inl e,rfl,rfl⟩
section
variable{X:Cx}{pins:List (Addr×Obj)}{σ:St}{H:Hp}{s:Shared}{a:Addr}{y v:V}{u r:Value}{o:Option V}{A:Around}{E:Value->Shared->Prop}
theorem Inv.big(I:Inv X pins σ H s):sysModules<s.heap.objs.size:=by have h:=(I.mod.glob.keeps I.bk).lt;exact Nat.lt_trans (by decide) h
theorem qEY(hu:A.units+1<cLine)(I:Inv X pins σ H s)(g:DGet H a y (some v))(ry:RelV y u)(h:∀w' s',Inv X pins σ H s'->RelV v w'->Q w' s'):
 wpAny (model X.prog X.w) A (getItem (.ref a) u) Q E s:=by(
rcases g with⟨kvs,k,e,ey,l⟩|⟨kvs,k,b,e,ey,eb,l⟩
.subst ey;obtain⟨z,hd,Z,d,J⟩:=q9J I.hok e;obtain⟨w',N,D⟩:=RelO.some_of (v:=v) (o:=valueAt Z k) (by rw[l];exact d.val k);exact wpAny_getItem_of (q9H ry) J.mapOf N (h w' _ (I.tok _) D)
subst ey
cases(show u=Value.ref b from ry)
obtain⟨z,hd,xs,d,J⟩:=q9K I.hok e
obtain⟨w',N,D⟩:=RelO.some_of (v:=v)  (by rw[l];exact d.val k)
obtain⟨p,S,O⟩:=mH.mp N
refine wpAny_getItem_heap (c9 hu) (q7N I.hok eb) J S ?_
rw[O]
exact h w' _ (I.tok _) D)
theorem d_in(hu:A.units+1<cLine)(I:Inv X pins σ H s)(g:DGet H a y o)(ry:RelV y u)(h:∀s',Inv X pins σ H s'->Q (.bool o.isSome) s'):
 wpAny (model X.prog X.w) A (compareOp .In u (.ref a)) Q E s:=by(
rcases g with⟨kvs,k,e,ey,l⟩|⟨kvs,k,b,e,ey,eb,l⟩
.subst ey;obtain⟨z,J,N,d,D⟩:=q9J I.hok e;refine wpAny_in_of (q9H ry) J D.mapOf ?_;rw[<-(d.val k).isSome_eq,<-l];exact h _ (I.tok _)
subst ey
cases(show u=Value.ref b from ry)
obtain⟨z,J,xs,d,D⟩:=q9K I.hok e
refine wpAny_in_heap (c9 hu) (q7N I.hok eb) J D ?_
have q:=(d.val k).isSome_eq
rw[nI]at q
rw[<-q,<-l]
exact h _ (I.tok _))
theorem qIS(hu:A.units+1<cLine)(I:Inv X pins σ H s)(g:DGet H a y o)(ry:RelV y u)(h:∀s',Inv X pins σ H s'->Q (.bool (!o.isSome)) s'):
 wpAny (model X.prog X.w) A (compareOp .NotIn u (.ref a)) Q E s:=by(
rcases g with⟨kvs,k,e,ey,l⟩|⟨kvs,k,b,e,ey,eb,l⟩
.subst ey;obtain⟨z,J,N,d,D⟩:=q9J I.hok e;refine wpAny_notIn_of (q9H ry) J D.mapOf ?_;rw[<-(d.val k).isSome_eq,<-l];exact h _ (I.tok _)
subst ey
cases(show u=Value.ref b from ry)
obtain⟨z,J,xs,d,D⟩:=q9K I.hok e
refine wpAny_notIn_heap (c9 hu) (q7N I.hok eb) J D ?_
have q:=(d.val k).isSome_eq
rw[nI]at q
rw[<-q,<-l]
exact h _ (I.tok _))
theorem qA8(I:Inv X pins σ H s)(mu:Mut (H a))(hs:Heap.SameBut a s.heap h')(he:∃q,h'.get? a=some q)(new:jM X.prog X.w (upd H a ob) h' a ob):
 Inv X pins σ (upd H a ob) { s with heap:=h',toks:=t' }:=I.write   mu (.inl rfl) (λb q hb z=>(hs.2 b hb).trans z) he new
theorem qG6{P:Program}{w:World}{h':Heap}{kvs:List (Key×V)}(z:kvs.length<=sizeLine)(hd:(a==sysModules)=false)(rel:KV kvs vs)(dd:h'.DictOf (yF P w) a vs):
 jM P w H' h' a (.dK kvs):=⟨z,hd,vs,rel,dd⟩
theorem qEZ(hu:A.units+1<cLine)(I:Inv X pins σ H s)(g:DPut H a y v H')(ry:RelV y u)(rv:RelV v r)(h:∀s',Inv X pins σ H' s'->Q () s'):
 wpAny (model X.prog X.w) A (setItem (.ref a) u r) Q E s:=by(
rcases g with⟨kvs,k,e,ey,l,eH⟩|⟨kvs,k,b,e,ey,eb,l,eH⟩
.subst ey eH;obtain⟨z,Z,vs,d,S⟩:=qB9 I.hok e;have N:vs.length<=sizeLine:=by rw[<-d.length];exact z
 have hl:(putK kvs k v).length<=sizeLine:=by have:=q6B kvs k v;lia
 refine wpAny_setItem_pairs (hsz:=N) (q9H ry) S λh' D O=>h _ ?_;have he:∃q,h'.get? a=some q:=let⟨q,_,_,J,_⟩:=D;⟨q,J⟩
 exact qA8 I (by rw[e];exact True.intro) O he (qG6 hl Z (d.put k rv) D)
subst ey eH
cases(show u=Value.ref b from ry)
obtain⟨z,Z,xs,d,S⟩:=qNF I.hok e
have N:xs.length<=sizeLine:=by rw[<-xD d];exact z
have hl:(putK kvs k v).length<=sizeLine:=by have:=q6B kvs k v;lia
refine wpAny_setItem_heap (hsz:=N) (c9 hu) (q7N I.hok eb) S λh' D O=>h _ ?_
obtain⟨q,es,ep,J,h2,h3,h4,_,h5⟩:=D
refine qA8 I (by rw[e];exact True.intro) O ⟨q,J⟩ ⟨hl,Z,_,(d.put k eb rv).keeps λc ys ec=>?_,q,es,ep,J,h2,h3,h4,h5⟩
rw[qE (jQ ec e (λz=>nomatch z))]
exact ec)
end
section
variable{X:Cx}{pins:List (Addr×Obj)}{σ:St}{H:Hp}{s:Shared}{a:Addr}{kvs:List (Key×V)}{k:Key}{u:Value}{A:Around}{E:Value->Shared->Prop}
theorem qNG{v:V}{more:List Value}(I:Inv X pins σ H s)(e:H a=some (.dK kvs))(ry:RelV (kV k) u)(l:valV kvs k=some v)(hm:more=[]\/∃x,more=[x])
 (h:∀w' s',Inv X pins σ (upd H a (.dK (q7M kvs k))) s'->RelV v w'->Q w' s'):wpAny (model X.prog X.w) A (call (.builtin "dict.pop") (.ref a::u::more)) Q E s:=by(
obtain⟨z,hd,O,d,N⟩:=qB9 I.hok e
obtain⟨w',hw,J⟩:=RelO.some_of (v:=v) (o:=valueAt O k) (by rw[<-l];exact d.val k)
have hp:(keyPart u).isSome=true:=by
 cases k with
 |inl i=>obtain⟨t,q⟩:=(show ∃t,u=Value.int i t from ry);subst q;rfl
 |inr x=>obtain⟨t,q⟩:=(show ∃t,u=Value.str x t from ry);subst q;rfl
have ha:argsOk "dict.pop" ⟨.ref a::u::more,[]⟩:=by
 rcases hm with q|⟨x,q⟩
 .subst q;exact PySem.F.args_dict_pop_2 _ _
 subst q;exact PySem.F.args_dict_pop_3 _ _ _
refine call_meetsIn lO N.typeIs PySem.F.entry_dict_pop ha (meets_dict_pop_there (yF X.prog X.w) a (q9H ry) more hm hp)
 ⟨O,w',N,by rw[<-d.length];exact z,hw,λh' D Z=>h w' _ ?_ J⟩
have S:∃q,h'.get? a=some q:=let⟨q,_,_,hq,_⟩:=D;⟨q,hq⟩
exact qA8 I (by rw[e];exact True.intro) Z S (qG6 (mO (qG5 kvs k) z) hd (d.drop k) D))
end
noncomputable def NoSl(i:Expr):Prop:=∀ov iv,subscripted i false ov iv=operate [ov,iv] (getItem ov iv)
theorem qIT{prog:Program}{w:World}{A:Around}{E:Value->Shared->Prop}{s:Shared}{env:Env}{value slice:Expr}{pos:Pos}{T id:String}{Q:Value->Shared->Prop}
 (hl:typeLookup (.type T) "__getitem__"=pure (some (.builtin id))) (hs:NoSl slice)
 (h:wpAny (model prog w) A (eval value env) (λo s₁=>wpAny (model prog w) A (eval slice env) (λi s₂=>s₂.TypeIs o T/\wpAny (model prog w) A (getItem o i) Q E s₂) E s₁) E s):
 wpAny (model prog w) A (eval (.Subscript value slice pos) env) Q E s:=by(
refine bD (dM h (λo s₁ I=>dM I (λi s₂ d=>?_) λZ Z x=>x) λZ Z x=>x)
obtain⟨hT,d⟩:=d
refine hX ?_
refine hX (wpAny_specialOf hT hl ?_)
have fin:wpAny (model prog w) A (subscripted slice false o i) (λr z=>wpAny (model prog w) A (letTemporaryGo value o r >>= λZ=>pure r) Q E z) E s₂:=by rw[hs o i];exact wpAny_operating (dM d (λr z D=>hX (wpAny_letTemporaryGo (kW D))) λZ Z x=>x)
first
 |exact kW (hX fin)
 |rfl
 |lia)
theorem qBA{s:Shared}{a:Addr}{y:V}{o:Option V}(I:Inv X pins σ H s)(g:DGet H a y o):s.TypeIs (.ref a) "dict":=by(
rcases g with⟨kvs,k,e,_,_⟩|⟨kvs,k,b,e,_,_,_⟩
.obtain⟨_,_,z,_,d⟩:=q9J I.hok e;exact d.typeIs
obtain⟨_,_,xs,_,d⟩:=q9K I.hok e
exact d.typeIs)
noncomputable def qNH(td ty:TE):TE:=λσ H Q=>td σ H λx H1=>ty σ H1 λy H2=>∃a v,x=.ref a/\DGet H2 a y (some v)/\Q v H2
noncomputable def tDIn(ty td:TE):TE:=λσ H Q=>ty σ H λy H1=>td σ H1 λx H2=>∃a o,x=.ref a/\DGet H2 a y o/\Q (.bl o.isSome) H2
noncomputable def qIU(ty td:TE):TE:=λσ H Q=>ty σ H λy H1=>td σ H1 λx H2=>∃a o,x=.ref a/\DGet H2 a y o/\Q (.bl (!o.isSome)) H2
noncomputable def qNI(td ty tv:TE):TS:=λD σ H=>tv σ H λv H1=>td σ H1 λx H2=>ty σ H2 λy H3=>∃a H4,x=.ref a/\DPut H3 a y v H4/\D.nx σ H4
section
variable{X:Cx}{o i e value:Expr}{pos pos' tpos:Pos}{td ty tv:TE}
theorem q6W(hu:X.A.units+1<cLine)(ho:PE X o td)(hi:PE X i ty)(hs:NoSl i):PE X (.Subscript o i pos) (qNH td ty):=by(
intro pins s σ H Q I h
refine qIT PySem.F.slot_dict_getitem.lookup hs (thn (ho _ s σ H _ I h) λu s1 ⟨x,H1,I1,N,J⟩=>thn (hi _ s1 σ H1 _ I1 J) λiv s2 O=>?_)
obtain⟨y,H2,z,D,a,v,ex,g,Z⟩:=O
subst ex
obtain rfl:u=Value.ref a:=N
exact⟨qBA z g,qEY hu z g D λw' s3 S d=>⟨v,H2,S,d,Z⟩⟩)
theorem qG7(hu:X.A.units+1<cLine)(hi:PE X i ty)(ho:PE X o td):PC X .In i o (tDIn ty td):=by(
intro pins s σ H Q I h
refine thn (hi _ s σ H _ I h) λiv S ⟨y,H1,I1,d,z⟩=>thn (ho _ S σ H1 _ I1 z) λu s2 J=>?_
obtain⟨x,H2,Z,D,a,ov,ex,g,O⟩:=J
subst ex
obtain rfl:u=Value.ref a:=D
exact d_in hu Z g d λs3 N=>⟨.bl _,H2,N,rfl,O⟩)
theorem qF0(hu:X.A.units+1<cLine)(hi:PE X i ty)(ho:PE X o td):PC X .NotIn i o (qIU ty td):=by(
intro pins s σ H Q I h
refine thn (hi _ s σ H _ I h) λiv S ⟨y,H1,I1,d,z⟩=>thn (ho _ S σ H1 _ I1 z) λu s2 J=>?_
obtain⟨x,H2,Z,D,a,ov,ex,g,O⟩:=J
subst ex
obtain rfl:u=Value.ref a:=D
exact qIS hu Z g d λs3 N=>⟨.bl _,H2,N,rfl,O⟩)
theorem qIV(hu:X.A.units+1<cLine)(ho:PE X o td)(hi:PE X i ty)(hv:PE X value tv)(hs:swapsWith value (some (.Subscript o i pos')) pos.line X.env=pure false):
 PS X (.Assign [.Subscript o i pos'] value pos) (qNI td ty tv):=by(
intro pins s σ H D I h
refine wpAny_Assign_Subscript (thn (hv _ s σ H _ I h) λr s1 ⟨v,H1,I1,rv,z⟩=>thn (ho _ s1 σ H1 _ I1 z) λu s2 ⟨x,H2,N,J,q2⟩=>thn (hi _ s2 σ H2 _ N q2) λiv s3 S=>?_) hs
obtain⟨y,H3,Z,d,a,O,ex,g,q3⟩:=S
subst ex
obtain rfl:u=Value.ref a:=J
exact qEZ hu Z g d rv λs4 I4=>⟨σ,O,I4,q3⟩)
end
theorem qG8{P:Program}{w:World}(h:Heap)(hb:sysModules<h.objs.size):jM P w H (h.push { cls:=.type "dict",data:=.dict #[] }) h.objs.size (.dK []):=⟨m9 _,rV.mpr (cC (mY hb)),[],.nil,Heap.DictOf.new h⟩
noncomputable def qLK:TE:=λz H Q=>∀p,H p=none->Q (.ref p) (upd H p (.dK []))
section
variable{X:Cx}{pos:Pos}
theorem qBB:PE X (.Dict [] [] pos) qLK:=λpins s σ H Q I h=>wpAny_Dict_empty ⟨.ref _,_,I.laid    (λz z q=>kJ _ q) (kO _) (qG8 _ I.big),rfl,h _ (I.hok.fresh (kO _))⟩
end
structure M1(X:Cx)(o:Expr)(m:Str)(apos:Pos)(e:Expr)(cpos:Pos):Prop where
base:attributeBase o m X.env (eval o X.env)=eval o X.env
few:((backTo cpos (starEach [e] X.env)).all (λx=>!x.1)&&(backToKw cpos (keywordEach [] X.env)).all (λx=>x.1.isSome)
 &&decide (([e]:List Expr).length+([]:List Keyword).length+(if([]:List Keyword).isEmpty then 0 else 1)<30))=true
line:(apos.endLine==cpos.line)=true
trees:backTo cpos (starEach [e] X.env)=[(false,eval e X.env)]
noncomputable def IsD(H:Hp)(a:Addr):Prop:=(∃kvs,Rd H a (.dK kvs))\/∃kvs,Rd H a (.dT kvs)
theorem qLL{s:Shared}{a:Addr}(I:Inv X pins σ H s)(d:IsD H a):
 s.TypeIs (.ref a) "dict"/\(∀b,Value.ref a=.ref b->∃ob,s.heap.get? b=some ob/\ob.dict=none)/\(a==sysModules)=false:=by(
rcases d with⟨kvs,e⟩|⟨kvs,e⟩
.obtain⟨_,D,J,_,z⟩:=q9J I.hok e;refine⟨z.typeIs,λb q=>?_,D⟩;cases q;obtain⟨ob,_,_,h1,h2,_⟩:=z;exact⟨ob,h1,h2.2.1⟩
obtain⟨_,D,xs,_,z⟩:=q9K I.hok e
refine⟨z.typeIs,λb q=>?_,D⟩
cases q
obtain⟨ob,_,_,h1,h2,_⟩:=z
exact⟨ob,h1,h2.2.1⟩)
noncomputable def qLM(td ty:TE):TE:=λσ H Q=>td σ H λx H1=>∃a,x=.ref a/\IsD H1 a/\ty σ H1 λy H2=>∃kvs k v,H2 a=some (.dK kvs)/\y=kV k/\valV kvs k=some v/\Q v (upd H2 a (.dK (q7M kvs k)))
section
variable{X:Cx}{o e f:Expr}{apos cpos:Pos}{td ty tx:TE}
theorem qG9(ho:PE X o td)(he:PE X e ty)(m:M1 X o "pop" apos e cpos):PE X (.Call (.Attribute o "pop" apos) [e] [] cpos) (qLM td ty):=by(
intro pins s σ H Q I h
refine wpAny_Call_method m.base m.few m.line nP lO PySem.F.type_dict_pop (thn (ho _ s σ H _ I h) λu s1 hZ=>?_)
obtain⟨x,H1,D,Z,a,ex,d,S⟩:=hZ
subst ex
obtain rfl:u=Value.ref a:=Z
obtain⟨t1,J,_⟩:=qLL D d
refine⟨t1,J,?_⟩
rw[m.trees]
refine pH rfl (lU (xK (thn (he _ s1 σ H1 _ D S) λiv s2 ⟨y,H2,I2,O,kvs,k,v,ea,N,l,q2⟩=>x8 ?_)))
subst N
exact qNG I2 ea O l (.inl rfl) λw' s3 I3 z=>⟨v,_,I3,z,q2⟩)
end
end L2
namespace Att
open PySem PySem.W PySem.Calls PyProof.Rows
theorem q6H{P:Params}:∀(ns:List Int) (vs:List Value),WellAll P h vs (ns.map WData.int)->IntsAre vs ns:=by(
intro ns
induction ns with
|nil=>intro vs w;cases w;exact .nil
|cons n ns d=>
 intro vs w;cases w with
 |cons a b=>cases a;exact .cons _ _ (d _ b))
theorem qF1{l:OpenLaw}{n:Nat}(hn:l.most=some n){P:Params}
 (hpre:l.row.toRowW.claim.pre args=true) (hwl:WellAll P h vals args):
 ∃a vs ns,vals=[Value.ref a]/\args=[WData.list (ns.map WData.int)]/\h.get? a=some { cls:=.type "list",data:=.seq vs.toArray }/\IntsAre vs ns/\ns.length<=n:=by(
have J:WShape.hasAll [] args [.list .int]=true:=(pre_splitW hpre).1
have N:l.pre.holds [] { args:=args } =true:=(pre_splitW hpre).2
obtain⟨d,r,rfl,h1,h2⟩:=hasAllW_cons J
obtain rfl:=hasAllW_nil h2
obtain⟨xs,rfl,O⟩:=hasW_list h1
obtain⟨ns,rfl⟩:=items_int O
have z:ns.length<=n:=by
 unfold OpenLaw.pre at N;have I:=by have I:=(holds_andW N).1;rw[hn]at I;exact I
 have h5:=condW_of I (w_not (w_lt w_lit (w_len_list (w_arg rfl))));grind
cases hwl with
|cons S w2=>
 cases w2;cases S with
 |list Z D=>exact⟨_,_,ns,rfl,rfl,Z,q6H ns _ D,z⟩)
theorem qF2(l:OpenLaw)(args:List WData):l.row.toRowW.claim.post args (.bool true) args=true:=postW_of  
  (show WShape.has [] _ _=true by rfl)
  (show(WTm.eq _ _).value [] _ =some (.bool _)from w_eq_bool (w_res rfl) w_lit) rfl
theorem attach_call{l:OpenLaw}{n:Nat}{d:DefRec}
 (hn:l.most=some n) (hdf:d.params.defaults=[])
 (call:∀(w:World) (s₀ s₁:Shared) (mg mb:Str->Option Value) (fa:Addr) (o:Obj) (pm cd doc:Value) (a:Addr) (vs:List Value) (ns:List Int),Ground q loose [] XP w s₀ mg mb s₁.heap->YP w s₁.heap->s₁.heap.get? fa=some o->o.data=.func (docDef d.name d.params d.body d.scope pm cd doc)->s₁.heap.CodeRec cd d.name->mg d.name=some (.ref fa)->s₁.heap.get? a=some { cls:=.type "list",data:=.seq vs.toArray }->IntsAre vs ns->ns.length<=n->s₁.gens=#[]->codeAny (model l.prog w) callerA (.call (.ref fa) ⟨[.ref a],[]⟩) (λr s'=>r=.ok (.ret (.bool true))/\OldK s₁.heap s'.heap/\s'.os=s₁.os/\AllBare s'.gens) s₁):
 WalkO q loose XP YP l.row.toRowW d [] (λf vs=>PySem.call f vs):=by(
intro w s₀ s₁ mg mb G Y fa o pm cd doc dV kV ho hd N hD S hg ac Z as I ab aj O ag
obtain rfl:dV=.none:=Dflts.none hD hdf
obtain rfl:kV=.none:=Dflts.noKw hD
obtain⟨a,vs,ns,rfl,rfl,D,z,J⟩:=qF1 hn I O
refine enter_call (cT (call w s₀ s₁ mg mb fa o pm cd doc a vs ns G Y ho (fd_plain hd) N S D z J hg) λr s' hq=>?_)
obtain⟨rfl,h2,h3,h4⟩:=hq
exact⟨.inl ⟨.bool true,.bool true,[],rfl,λz=>rfl,.bool _,qF2 l _,λz=>⟨List.Pairwise.nil,λz hm=>(nomatch hm)⟩⟩,h2,h3,h4⟩)
end Att
namespace L2
open PySem PySem.Spec PyProof.Rows
theorem q9L:∀{vs:List Value} {ns:List Int},IntsAre vs ns->Vals (ns.map V.int) vs
|_,_,.nil=>.nil
|_,_,.cons n t h=>.cons ⟨t,rfl⟩ (q9L h)
noncomputable def qM(s:Stmt)(j:Nat):Stmt:=match s with
| .ClassDef _ _ _ body _ _ _ _ _ _ _=>body.getD j (.Pass ⟨0,0,0,0⟩)
|_=>.Pass ⟨0,0,0,0⟩
noncomputable def yH(s:Stmt):Arguments:=match s with
| .FunctionDef _ a _ _ _ _ _ _ _ _=>a
|_=>{ posonlyargs:=[],args:=[],vararg:=none,kwonlyargs:=[],kw_defaults:=[],kwarg:=none,defaults:=[] }
noncomputable def jV(s:Stmt):List Stmt:=match s with
| .FunctionDef _ _ b _ _ _ _ _ _ _=>b
|_=>[]
noncomputable def qF(s:Stmt):Scope:=match s with
| .FunctionDef _ _ _ _ _ _ sc _ _ _=>sc
|_=>{ kind:=.function,names:=[],isGenerator:=false,isCoroutine:=false }
noncomputable abbrev CX0:CXT:=λz z z z z z=>False
noncomputable abbrev E0:XK:=λz z z=>False
theorem qK:q28 CX0 X E0:=λz z z z z z z h=>h.elim
theorem q6C{k:Nat}(hr:Room k A):A.units+1<cLine:=rJ (Nat.add_le_add_left (by simp) _) hr.units
section
variable{X:Cx}
theorem pv(i:Nat){x:Str}(hN:X.N[i]?=some x:=by rfl)(hv:Vis X.env.scope x:=by first|exact Or.inl rfl|exact Or.inr (Or.inl rfl)|exact Or.inr (Or.inr rfl))(hd:(x==("__debug__":Str))=false:=by decide)
 (hcd:(x==("__classdict__":Str))=false:=by decide):PE X (.Name x pos) (tVar i):=qL6 hN hv hd hcd
end
theorem iteF{A B:Prop}(h:B):if false=true then A else B:=by exact h
theorem iteT{A B:Prop}(h:A):if true=true then A else B:=by exact h
theorem ite2{c A B:Prop}[Decidable c](h1:c->A)(h2:¬c->B):if c then A else B:=by(
simp_all)
noncomputable def Same(H H':Hp):Prop:=∀b o,H b=some o->H' b=some o
theorem Same.refl(H:Hp):Same H H:=λz z h=>h
theorem Same.trans(a:Same H H1)(b:Same H1 H2):Same H H2:=λc o h=>b c o (a c o h)
theorem Same.free(e:Same H H'){l:Addr}(h:H' l=Option.none):H l=Option.none:=by(
cases q:H l with
|none=>rfl
|some o=>rw[e l o q]at h;lia)
theorem Same.seq{K:PySem.W.Frag}{a:Addr}(e:Same H H')(h:SqL K H a xs):SqL K H' a xs:=by(
rcases h with(h|⟨o,h⟩)|h
.exact .inl (.inl (e _ _ h))
.exact .inl (.inr ⟨o,e _ _ h⟩)
exact .inr h)
section
variable{X:Cx}
theorem q2B:PGet X (rIxL X.K):=by(
intro pins s σ H o i ov iv Q I ro ri h
obtain⟨p,xs,k,z,rfl,rfl,hq,Z,q⟩:=h
cases ro
obtain⟨t,rfl⟩:=ri
obtain⟨d,r,N,hz⟩:=I.list hq
obtain⟨j,h1,h2,h3,h4,h5⟩:=qA6 Z
obtain⟨w,S,J⟩:=r.get h2
have hl:=r.length
have hn:=q7G
have fin:EP X pins σ Q w s:=⟨z,H,I,J,q⟩
by_cases O:0<=k
.have D:k.toNat=j:=by rw[lT O h5]at h1;exact kU h1
 exact wpAny_getItem_list N.isList O (by lia) (by rw[D];simpa using S) fin
have D:(k+(d.toArray.size:Int)).toNat=j:=by rw[lD (by lia) h4]at h1;rw[mJ,<-hl];exact kU h1
exact lF N.isList (by lia) (by rw[mJ]<;>lia) (by lia) (by rw[D];simpa using S) fin)
end
noncomputable def isW:V->Bool
| .int _=>true
|_=>false
noncomputable def isI:V->Bool
| .int _=>true
| .bl _=>true
|_=>false
noncomputable def isB:V->Bool
| .bl _=>true
|_=>false
noncomputable def isS:V->Bool
| .str _=>true
|_=>false
inductive Knd(H:Hp):V->Prop where
|non:Knd H .non
|bl (b:Bool):Knd H (.bl b)
|int (i:Int):Knd H (.int i)
|str (x:Str):Knd H (.str x)
|lst {a:Addr} {xs:List V} (e:H a=some (.lst xs)):Knd H (.ref a)
|tup {a:Addr} {xs:List V} (e:H a=some (.tup xs)):Knd H (.ref a)
section
variable{K:PySem.W.Frag}{H:Hp}{x:V}
theorem qLN:PySem.W.kitOne K (.type "NoneType") (.type "int")=some false:=by rfl
theorem qLO:PySem.W.kitOne K (.type "bool") (.type "int")=some true:=by rfl
theorem qLP:PySem.W.kitOne K (.type "int") (.type "int")=some true:=by rfl
theorem qLQ:PySem.W.kitOne K (.type "str") (.type "int")=some false:=by rfl
theorem qLR:PySem.W.kitOne K (.type "list") (.type "int")=some false:=by rfl
theorem qLS:PySem.W.kitOne K (.type "tuple") (.type "int")=some false:=by rfl
theorem qLT:PySem.W.kitOne K (.type "NoneType") (.type "bool")=some false:=by rfl
theorem qLU:PySem.W.kitOne K (.type "bool") (.type "bool")=some true:=by rfl
theorem qLV:PySem.W.kitOne K (.type "int") (.type "bool")=some false:=by rfl
theorem qLW:PySem.W.kitOne K (.type "str") (.type "bool")=some false:=by rfl
theorem qLX:PySem.W.kitOne K (.type "list") (.type "bool")=some false:=by rfl
theorem qLY:PySem.W.kitOne K (.type "tuple") (.type "bool")=some false:=by rfl
theorem qLZ:PySem.W.kitOne K (.type "NoneType") (.type "str")=some false:=by rfl
theorem qM0:PySem.W.kitOne K (.type "bool") (.type "str")=some false:=by rfl
theorem qM1:PySem.W.kitOne K (.type "int") (.type "str")=some false:=by rfl
theorem qM2:PySem.W.kitOne K (.type "str") (.type "str")=some true:=by rfl
theorem qM3:PySem.W.kitOne K (.type "list") (.type "str")=some false:=by rfl
theorem qM4:PySem.W.kitOne K (.type "tuple") (.type "str")=some false:=by rfl
theorem Knd.ty(k:Knd H x):∃t,TyOf K H x t/\PySem.W.kitOne K t (.type "int")=some (isI x)/\PySem.W.kitOne K t (.type "bool")=some (isB x)/\PySem.W.kitOne K t (.type "str")=some (isS x):=by(
cases k with
|non=>exact⟨_,.non,qLN,qLT,qLZ⟩
|bl b=>exact⟨_,.bl b,qLO,qLU,qM0⟩
|int i=>exact⟨_,.int i,qLP,qLV,qM1⟩
|str y=>exact⟨_,.str y,qLQ,qLW,qM2⟩
|lst e=>exact⟨_,.lst e,qLR,qLX,qM3⟩
|tup e=>exact⟨_,.tup e,qLS,qLY,qM4⟩)
theorem qM5(x:V):(if isI x=true then !isB x else false)=isW x:=by cases x<;>rfl
end
noncomputable def q3V(ns:List Int)(k:Int):Int:=ns.getD k.toNat 0
theorem qF3{ns:List Int}{k:Int}(h0:0<=k)(h:k<ns.length):atI (ns.map V.int) k=some (.int (q3V ns k)):=by(
obtain⟨j,rfl⟩:=wV h0
refine zO ?_
have d:j<ns.length:=by lia
unfold q3V
simp[d])
theorem qCS{ns:List Int}{k:Int}(h0:0<=k)(h:¬k<ns.length):q3V ns k=0:=by unfold q3V;simp_all
theorem Same.upd{p:Addr}{o:HO}(h:H p=none):Same H (upd H p o):=λb u e=>by rw[qE (qH e h)];exact e
noncomputable abbrev NewO(H:Hp)(o:HO)(Q:VK):Prop:=∀p H',H p=none->Same H H'->H' p=some o->Q (.ref p) H'
theorem NewO.at{o:HO}(q:NewO H o Q)(p:Addr)(n:H p=none):Q (.ref p) (upd H p o):=q p _ n (Same.upd n) qI
section
variable{X:Cx}{e:Expr}{es:List Expr}{t:TA}{pos:Pos}
noncomputable def qNJ(t:TA):TE:=λσ H Q=>t σ H λxs H1=>xs.length<=sizeLine/\NewO H1 (.tup xs) Q
noncomputable def qNK(t:TA):TE:=λσ H Q=>t σ H λxs H1=>xs.length<=sizeLine/\NewO H1 (.lst xs) Q
theorem yP{x1}(h:PA X es t):PE X (.Tuple es x1 pos) (qNJ t):=by(
intro pins s σ H Q I D
refine wpAny_Tuple_spliced (thn (h pos _ s σ H _ I D) λJ O ⟨xs,H1,d,r,z,q⟩=>⟨by rw[<-r.length];exact z,?_⟩)
have N:=d.hok.fresh (kO _)
refine⟨.ref _,upd H1 _ _,d.laid  (λb u e=>kJ _ e) (kO _) ?_,rfl,q.at _ N⟩
exact⟨z,J,r,_,mW _ rfl,rfl,_,rfl⟩)
theorem jY(h:PA X es t):PE X (.List es pos) (qNK t):=by(
intro pins s σ H Q I D
refine wpAny_List_spliced (thn (h pos _ s σ H _ I D) λJ O ⟨xs,H1,d,r,z,q⟩=>⟨by rw[<-r.length];exact z,?_⟩)
have N:=d.hok.fresh (kO _)
refine⟨.ref _,upd H1 _ _,d.laid  (λb u e=>kJ _ e) (kO _) ?_,rfl,q.at _ N⟩
exact⟨z,J,0,r,mW _ rfl⟩)
noncomputable def qNL:R2:=λx y H Q=>∃l k v,x=.ref l/\y=.int k/\H l=some (.lst [v])/\0<=k/\k<=100000/\NewO H (.lst (List.replicate k.toNat v)) Q
theorem qBC{α:Type}(v:α):∀k:Nat,(List.replicate k [v]).flatten=List.replicate k v
|0=>rfl
|k+1=>by rw[d8,cM,qBC v k,d8];rfl
theorem q1H:OpR X (binaryOp .Mult) qNL:=by(
intro pins s σ H x y v u Q I D d N
obtain⟨l,k,z,O,J,h1,h2,S,q⟩:=N
refine qLJ _ s σ H x y v u Q I D d ⟨l,k,[z],O,J,h1,by lia,by lia,?_,?_⟩
.rw[dB,gF];lia
rw[qBC]
exact q.at)
theorem q0M:q3O X (.type "list") (λxs H Q=>∃p ys,xs=[.ref p]/\(SqL X.K H p ys\/SqT X.K H p ys)/\NewO H (.lst ys) Q):=by intro pins s σ H xs z Q I r d;obtain⟨p,ys,e,h,q⟩:=d;exact qA7 _ s σ H xs z Q I r ⟨p,ys,e,h,q.at⟩
end
noncomputable def qIW:Sp:=λvs H Q z=>∃x,vs=[x]/\Knd H x/\Q (.bl (isW x)) H
noncomputable def inB(x:V)(lo hi:Int):Bool:=match x with
| .int i=>decide (lo<=i)&&decide (i<=hi)
|_=>false
noncomputable def qGA:Sp:=λvs H Q z=>∃x lo hi,vs=[x,.int lo,.int hi]/\Knd H x/\Q (.bl (inB x lo hi)) H
noncomputable def qM6(K:PySem.W.Frag):Sp:=λvs H Q z=>∃a ns k,vs=[.ref a,.int k]/\SqL K H a (ns.map V.int)/\0<=k/\Q (.int (q3V ns k)) H
end L2
namespace L2
open PySem
theorem lt2{vs:Array Value}{v:Value}(h:vs[2]?=some v):1<vs.size:=x9 (cR.mp h).1
noncomputable def ExO(h:Heap)(e:Addr)(C:Value)(od:Option Addr)(vs:Array Value):Prop:=∃oe,h.get? e=some oe/\oe.cls=C/\oe.dict=od/\oe.data=.fields vs/\vs[2]?=some .none
noncomputable def TrO(h:Heap)(e T:Addr)(vs:Array Value)(f:Value):Prop:=vs[1]?=some (.ref T)/\T≠e/\∃oT ts,h.get? T=some oT/\oT.data=.fields ts/\ts[3]?=some f
noncomputable def Air(L:Addr)(h:Heap)(e:Addr)(C:Value)(od:Option Addr):Option Addr->Prop
|none=>∃vs,ExO h e C od vs/\vs[1]?=some .none
|some T=>∃vs f,ExO h e C od vs/\TrO h e T vs f/\(f=.none\/f=rawInt L)
noncomputable def Held(f:Value)(h:Heap)(e T:Addr)(C:Value)(od:Option Addr):Prop:=∃vs,ExO h e C od vs/\TrO h e T vs f
structure Chg(fr rs:List Addr)(h h':Heap):Prop where
keep:∀b o,b∉fr->b∉rs->h.get? b=some o->h'.get? b=some o
slot:∀b o,b∉rs->h.get? b=some o->∃sl,h'.get? b=some { o with slots:=sl }
there:∀b o,h.get? b=some o->∃o',h'.get? b=some o'
theorem Chg.refl{fr:List Addr}:Chg fr rs h h:=⟨λz z z z e=>e,λz o z e=>⟨o.slots,e⟩,λz o e=>⟨o,e⟩⟩
theorem Chg.trans{fr:List Addr}(x:Chg fr rs h h1)(y:Chg fr rs h1 h2):Chg fr rs h h2:=⟨λb o f r e=>y.keep b o f r (x.keep b o f r e),λb o r e=>let⟨_,e1⟩:=x.slot b o r e;let⟨sl,e2⟩:=y.slot b _ r e1;⟨sl,e2⟩,λb o e=>let⟨_,e1⟩:=x.there b o e;y.there b _ e1⟩
theorem Chg.fresh{fr:List Addr}(x:Chg fr rs h h1)(y:Chg fr rs' h1 h2)(n:∀b∈rs',b∈rs\/h.get? b=none):Chg fr rs h h2:=by
 have m:∀b o,b∉rs->h.get? b=some o->b∉rs':=λb o r e z=>(n b z).elim r λq=>by lia
 exact⟨λb o f r e=>y.keep b o f (m b o r e) (x.keep b o f r e),λb o r e=>let⟨_,e1⟩:=x.slot b o r e;let⟨sl,e2⟩:=y.slot b _ (m b o r e) e1;⟨sl,e2⟩,λb o e=>let⟨_,e1⟩:=x.there b o e;y.there b _ e1⟩
theorem Chg.slots{fr:List Addr}(x:Heap.SlotsOnly fr h h'):Chg fr rs h h':=⟨λb o f z e=>(x.2.1 b f).trans e,λb o z e=>x.2.2 b o e,λb o e=>let⟨sl,q⟩:=x.2.2 b o e;⟨_,q⟩⟩
theorem Chg.upd{fr:List Addr}{h:Heap}{a:Addr}{f:Obj->Obj}(ha:a∈rs)(hf:∀o,h.get? a=some o->(f o).isFreed=false):Chg fr rs h (h.update a f):=by(
have k:∀b o,b∉rs->h.get? b=some o->(h.update a f).get? b=some o:=λb o r e=>by exact(mF h f (λ(q:a=b)=>r (q▸ha))).trans e
refine⟨λb o z r e=>k b o r e,λb o r e=>⟨o.slots,k b o r e⟩,λb o e=>?_⟩
by_cases q:b=a
.subst q;exact⟨_,rC f e (hf o e)⟩
exact⟨o,by rw[mF h f (cC q)];exact e⟩)
theorem Chg.push{fr:List Addr}{o:Obj}:Chg fr rs h (h.push o):=⟨λb u z z e=>kJ _ e,λb u z e=>⟨u.slots,kJ _ e⟩,λb u e=>⟨u,kJ _ e⟩⟩
theorem qF4(o:Obj)(f:Array Value->Array Value):(o.mapFields f).dict=o.dict:=by obtain⟨c,d,z,D⟩:=o;cases z<;>rfl
theorem ExO.set(x:ExO h e C od vs)(i:Nat)(v:Value)(hi:i≠2:=by decide):ExO (h.update e (Obj.mapFields (·.setIfInBounds i v))) e C od (vs.setIfInBounds i v):=by obtain⟨J,h1,h2,z,I,D⟩:=x;have d:=pA I (·.setIfInBounds i v);exact⟨_,rC _ h1 (wF d),(Obj.cls_mapFields _ _).trans h2,(qF4 _ _).trans z,d,(Array.getElem?_setIfInBounds_ne hi).trans D⟩
theorem ExO.of{h':Heap}(x:ExO h e C od vs)(k:∀o,h.get? e=some o->h'.get? e=some o):ExO h' e C od vs:=let⟨oe,h1,r⟩:=x;⟨oe,k _ h1,r⟩
section
variable{M:Model}{A:Around}{E:Value->Shared->Prop}{s:Shared}{env:Env}{outer:List Env}{L e T:Addr}{C:Value}{od:Option Addr}{base:Heap}
theorem ExO.nofr{l:List Env}(x:ExO h e C od vs)(hl:h.FunFrames base l):e∉l.filterMap (·.frame):=λhm=>by(
obtain⟨_,o,ho,hn⟩:=hl.mem hm
obtain⟨oe,h1,_,_,h4,_⟩:=x
grind)
theorem qBD(hfr:A.frames=some (env::outer))(hl:s.heap.FunFrames base (env::outer))(hf:env.frame=some L)(x:ExO s.heap e C od vs)
 (q:∀h' T,Chg ((env::outer).filterMap (·.frame)) [e] s.heap h'->Held (rawInt L) h' e T C od->s.heap.objs.size<=T->Q () { s with heap:=h' }):
 wpAny M A (do let a<-frameOf env;let pl<-entryPlaceOf L hn;let b<-EntryCells.newEntry head a .none (rawInt L) .none pl;setField (.ref e) 1 b) Q E s:=by(
have ne:=x.nofr hl
refine hX (wpAny_frameOf_fun hfr hl hf λh1 D=>hX (wpAny_entryPlaceOf λpl Z=>?_))
unfold EntryCells.newEntry newFields
refine hX (wL ?_ (Z.sizeOk5 _ _ _ _ _))
have I:ExO h1 e C od vs:=x.of λo z=>(D.2.1 e ne).trans z
have O:=I.of (h':=h1.push _) λo z=>kJ { cls:=.type "traceback",dict:=none,data:=.fields ([head,.ref L,.none,rawInt L,.none]++(if pl.isEmpty then List.replicate 6 Value.none else pl)).toArray } z
obtain⟨oe,S,a2,a3,N,J⟩:=id O
refine lW S N (lt2 J) ?_
have d:e<h1.objs.size:=let⟨_,z,_⟩:=I;mE z
have fresh:s.heap.objs.size<=h1.objs.size:=pF D.1.symm
refine q _ h1.objs.size (((Chg.slots D).trans Chg.push).trans (Chg.upd (kE.mpr rfl) λo z=>?_)) ⟨_,O.set 1 _,?_,rZ d,{ cls:=.type "traceback",dict:=none,data:=.fields ([head,.ref L,.none,rawInt L,.none]++(if pl.isEmpty then List.replicate 6 Value.none else pl)).toArray },_,?_,rfl,?_⟩ fresh
.rw[S]at z;cases z;exact wF (pA N _)
.simp[lt2 J]
.rw[mF _ _ (mY d)];exact mW h1 rfl
rfl)
theorem qDP{tr:Option Addr}(hfr:A.frames=some (env::outer))(hl:s.heap.FunFrames base (env::outer))(hf:env.frame=some L)(x:Air L s.heap e C od tr)
 (q:∀h' T,Chg ((env::outer).filterMap (·.frame)) (e::tr.toList) s.heap h'->Held (rawInt L) h' e T C od->(T∈tr\/s.heap.objs.size<=T)->Q () { s with heap:=h' }):
 wpAny M A (noteFrame (.ref e) env) Q E s:=by(
unfold noteFrame
simp only[hf]
cases tr with
|none=>obtain⟨vs,x,h1⟩:=x;obtain⟨oe,O,a2,a3,J,a5⟩:=id x;refine hX (cQ O J h1 ?_);rw[hU (by decide)];exact qBD hfr hl hf x λh' T c N n=>q h' T c N (.inr n)
|some T=>
 obtain⟨vs,f,x,⟨t1,Z,oT,ts,d,D,S⟩,hfl⟩:=x;obtain⟨oe,O,a2,a3,J,a5⟩:=id x;refine hX (cQ O J t1 ?_);rw[kD (by simp)];refine hX (cQ d D S ?_);rcases hfl with rfl|rfl
 .rw[hU (by simp[rawInt])];refine hX (lW d D (cR.mp S).1 ?_);have k:∀b o,b≠T->s.heap.get? b=some o->(s.heap.update T (Obj.mapFields (·.setIfInBounds 3 Value.none))).get? b=some o:=λb o n z=>(mF _ _ (cC n)).trans z;have I:(s.heap.update T (Obj.mapFields (·.setIfInBounds 3 Value.none))).FunFrames base (env::outer):=hl.of_keeps λb o z nf=>⟨o,k b o (λw=>by subst w;rw[d]at z;cases z;exact nf _ D) z,rfl⟩;refine qBD (s:={ s with heap:=s.heap.update T (Obj.mapFields (·.setIfInBounds 3 Value.none)) }) hfr I hf (x.of λo z=>k e o (cC Z) z) λh' T' c N n=>q h' T' ?_ N ?_
  .refine(Chg.upd (a:=T) (by simp) λo z=>?_).fresh c λb hb=>.inl ?_
   .rw[d]at z;cases z;exact wF (pA D _)
   rw[kE.mp hb];exact kY
  exact .inr (mO (pF (Heap.size_after_update ..).symm) n)
 rw[kD (by simp)];exact kW (q _ T .refl ⟨vs,x,t1,Z,oT,ts,d,D,S⟩ (.inl rfl)))
theorem q3B{f:Value}{fr:Option Addr}(x:Held f s.heap e T C od)
 (q:∀h',Chg [] [T] s.heap h'->Held (fr.elim .none λf=>rawInt f) h' e T C od->Q () { s with heap:=h' }):wpAny M A (setFlight (.ref e) fr) Q E s:=by(
obtain⟨S,x,N,J,oT,ts,d,O,t5⟩:=x
obtain⟨oe,a1,a2,a3,Z,a5⟩:=id x
have I:=(cR.mp t5).1
refine hX (cQ a1 Z N ?_)
have D:=pA O (·.setIfInBounds 3 (fr.elim .none λf=>rawInt f))
refine lW d O I (q _ (Chg.upd (by simp) λo z=>?_) ⟨S,x.of λo z=>?_,N,J,_,_,rC _ d (wF D),D,by simp[I]⟩)
.rw[d]at z;cases z;exact wF D
exact(mF _ _ J).trans z)
theorem Held.air{f:Value}(x:Held f h e T C od)(hf:f=.none\/f=rawInt L):Air L h e C od (some T):=let⟨vs,a,b⟩:=x;⟨vs,f,a,b,hf⟩
theorem qGB{tr:Option Addr}(hfr:A.frames=some (env::outer))(hl:s.heap.FunFrames base (env::outer))(hf:env.frame=some L)(x:Air L s.heap e C od tr)
 (q:∀h' T,Chg ((env::outer).filterMap (·.frame)) (e::tr.toList) s.heap h'->Held .none h' e T C od->(T∈tr\/s.heap.objs.size<=T)->Q () { s with heap:=h' }):wpAny M A (leaving env (.ref e)) Q E s:=by(
refine hX (qDP hfr hl hf x λh' T c I n=>q3B I λh2 D d=>q h2 T ?_ d n)
refine c.fresh  ⟨λb o Z r z=>D.keep b o (by simp) r z,D.slot,D.there⟩ λb J=>?_
rw[kE.mp J]
exact n.imp (λz=>hG _ (by simp_all)) pZ)
end
end L2
namespace L2
open PySem PySem.Spec PyProof.Rows
section
variable{P:Program}{w:World}{H:Hp}{h h':Heap}{a:Addr}{o:HO}
theorem jM.there(x:jM P w H h a o):∃ob,h.get? a=some ob:=by(
cases o with
|lst xs=>obtain⟨_,_,_,_,e⟩:=x;exact⟨_,e⟩
|tup xs=>obtain⟨_,_,_,_,e,_⟩:=x;exact⟨_,e⟩
|dK kvs=>obtain⟨_,_,_,_,o,_,_,e,_⟩:=x;exact⟨_,e⟩
|dT kvs=>obtain⟨_,_,_,_,o,_,_,e,_⟩:=x;exact⟨_,e⟩
|set S n=>obtain⟨o,_,_,_,e,_⟩:=x;exact⟨_,e⟩
|ins C dx fs=>obtain⟨_,_,_,e,_⟩:=x;exact⟨_,e⟩
|own y=>exact x
|xd fs=>obtain⟨_,⟨_,_,_,e,_⟩,_⟩:=x;exact⟨_,e⟩
|rng lo hi=>obtain⟨_,_,_,e⟩:=x;exact⟨_,e⟩
|frz ob u=>exact⟨_,x.1⟩
|tbl ps=>exact⟨_,show h.get? a=some _ from x⟩
|met f y=>exact⟨_,show h.get? a=some _ from x⟩
|ext φ=>exact x.2.1)
theorem HOk.free(x:HOk P w H h)(e:h.get? a=none):H a=none:=by(
cases q:H a with
|none=>rfl
|some o=>obtain⟨_,z⟩:=(x a o q).there;lia)
theorem HOk.chg{fr:List Addr}(x:HOk P w H h)(c:Chg fr rs h h')(hf:∀b∈fr,H b=none)(hr:∀b∈rs,H b=none):HOk P w H h':=by(
intro a o e
refine(x a o e).stay (λb u d z=>?_) (λZ q=>q) λZ Z q=>q
have n:H b≠none:=by
 lia
exact c.keep b u (λm=>n (hf b m)) (λm=>n (hr b m)) z)
end
noncomputable def Recs(h:Heap)(rs:List Addr):Prop:=∀b∈rs,∃o vs,h.get? b=some o/\o.data=.fields vs
theorem Air.recs{e:Addr}{tr:Option Addr}(x:Air L h e C od tr):Recs h (e::tr.toList):=by(
intro b I
cases tr with
|none=>
 obtain⟨N,⟨J,D,_,_,d,_⟩,_⟩:=x;have z:=by simpa using I
 subst z;exact⟨_,_,D,d⟩
|some T=>
 obtain⟨N,f,⟨J,D,_,_,d,_⟩,⟨_,_,oT,ts,t3,t4,_⟩,_⟩:=x;have z:=by simpa using I
 rcases z with rfl|rfl
 .exact⟨_,_,D,d⟩
 exact⟨_,_,t3,t4⟩)
noncomputable def Ours(X:Cx)(pins:List (Addr×Obj))(H:Hp)(rs:List Addr):Prop:=∀b∈rs,(X.s₀.heap.get? b=none\/b∈X.ex)/\H b=none/\∀p∈X.pn++pins,p.1≠b
section
variable{X:Cx}{pins:List (Addr×Obj)}{σ:St}{H:Hp}{s:Shared}{h':Heap}{rs:List Addr}
theorem Inv.chg(I:Inv X pins σ H s)(c:Chg (frs X.stack) rs s.heap h')(o:Ours X pins H rs)(rc:Recs s.heap rs):Inv X pins σ H { s with heap:=h',toks:=t' }:=by(
obtain⟨m,hn,hv⟩:=I.loc
have nl:X.env.locals∉rs:=λz=>by obtain⟨D,vs,e,d⟩:=rc _ z;obtain⟨o',es,ep,N,O,_⟩:=hn;rw[e]at N;cases N;rw[d]at O;cases O
have nc:∀c v,s.heap.IsCell c v->c∉rs:=λc v q z=>by obtain⟨D,vs,e,d⟩:=rc _ z;obtain⟨o',N,O⟩:=q;rw[e]at N;cases N;rw[d]at O;cases O
have J:∀c v,s.heap.IsCell c v->h'.IsCell c v:=λa v q=>by have n:=nc a v q;obtain⟨o',N,O⟩:=q;obtain⟨sl,z⟩:=c.slot a o' n N;exact⟨_,z,O⟩
have S:∀b D,X.s₀.heap.get? b=some D->b∉X.ex->b∉rs:=λb D q ne z=>by
 rcases(o b z).1 with y|y
 .rw[q]at y;cases y
 exact ne y
have Z:h'.Ns X.env.locals m:=by obtain⟨o',es,ep,N,r⟩:=hn;obtain⟨sl,z⟩:=c.slot _ o' nl N;exact⟨_,es,ep,z,r⟩
refine⟨I.ok,I.os,I.bare,⟨λb D q n nf ne=>?_,λb D q n hf ne=>?_,I.base.free,λb D q ne=>?_,I.base.tups,I.base.frzs,I.base.tbls⟩,⟨m,Z,λi x v e1 e2 e3=>?_⟩,λx a e=>?_,I.free,I.freeC,λp hp=>?_,I.hok.chg c I.stkFree λb hb=>(o b hb).2.1,I.len⟩
.refine c.keep b D (λz=>?_) (S b D q ne) (I.base.keep b D q n nf ne);rcases kM.mp (I.stkSub b z)with rfl|y
 .exact absurd (mE q) (lG.mpr I.ok.above)
 exact nf y
.obtain⟨sl,z⟩:=I.base.slot b D q n hf ne;obtain⟨aa,z'⟩:=c.slot b _ (S b D q ne) z;exact⟨aa,z'⟩
.obtain⟨o',z⟩:=I.base.there b D q ne;exact c.there b o' z
.obtain⟨u,r,lk⟩:=hv i x v e1 e2 e3;refine⟨u,r,lk.imp id λ⟨k,cc,l,q⟩=>⟨k,cc,l,J _ _ q⟩⟩
.obtain⟨v,q⟩:=I.cell x a e;exact⟨v,J _ _ q⟩
obtain⟨p1,p2,p3,p4,p5⟩:=I.pin p hp
refine⟨c.keep _ _ (λz=>?_) (λz=>(o _ z).2.2 p hp rfl) p1,p2,p3,p4,p5⟩
rcases kM.mp (I.stkSub _ z)with y|y
.exact p3 y
exact p4 y)
end
noncomputable def CXe(P:Program)(w:World):CXT:=λouter H s E e s'=>∃ea T C od H',e=.ref ea/\s'.os=s.os/\AllBare s'.gens/\Un (frs outer) [] H H' s.heap s'.heap/\HOk P w H' s'.heap/\Held .none s'.heap ea T C od/\(s.heap.get? ea=none/\s.heap.get? T=none)/\(H' ea=none/\H' T=none)/\E C od H'
noncomputable def q0G(X:Cx)(ES:St->XK):Prop:=∀(pins:List (Addr×Obj)) (σ:St) (H:Hp) (s:Shared) (ea:Addr) (tr:Option Addr) (C:Value) (od:Option Addr),Inv X pins σ H s->Air X.env.locals s.heap ea C od tr->Ours X pins H (ea::tr.toList)->ES σ C od H->X.xe (.ref ea) s
noncomputable def qIX(CX:CXT)(X:Cx)(ES:St->XK):Prop:=∀(pins:List (Addr×Obj)) (σ:St) (H:Hp) (s:Shared) (e:Value) (s':Shared),Inv X pins σ H s->CX X.stack H s (ES σ) e s'->X.xe e s'
theorem q0G.passes(t:q0G X ES):qIX (CXe X.prog X.w) X ES:=by(
intro pins σ H s e s' I hZ
obtain⟨ea,T,C,od,H',e1,S,Z,u,D,hd,⟨O,f2⟩,⟨g1,g2⟩,q⟩:=hZ
subst e1
refine t pins σ H' s' ea (some T) C od (I.call' S u D Z λb J=>by cases J) (hd.air (.inl rfl)) (λb J=>?_) q
have d:∀b,s.heap.get? b=none->H' b=none->(X.s₀.heap.get? b=none\/b∈X.ex)/\H' b=none/\∀p∈X.pn++pins,p.1≠b:=λb f g=>by
 refine⟨?_,g,λp N z=>?_⟩
 .by_cases y:b∈X.ex
  .exact .inr y
  refine .inl ?_;cases z:X.s₀.heap.get? b with
  |none=>rfl
  |some ob=>obtain⟨o',z'⟩:=I.base.there b ob z y;lia
 have y:=(I.pin p N).1;lia
have e':b=ea\/b=T:=by simpa using J
rcases e' with rfl|rfl
.exact d _ O g1
exact d _ f2 g2)
theorem qZ{P:Program}{w:World}{K:PySem.W.Frag}{mg:Str->Option Value}{f:Addr}{s:Shared}:
 q0G (cxOf (CXe P w) P w K mg base N qual scope f cd A outer s H E) (λz=>E):=by(
intro pins σ H' s' ea tr C od I air d q
refine qGB  I.ok.frames I.stack rfl air λh' T c hd n=>?_
have S:=I.chg (t':=s'.toks) c d air.recs
have J:∀b,s'.heap.objs.size<=b->s.heap.get? b=none:=λb z=>by
 cases y:s.heap.get? b with
 |none=>rfl
 |some ob=>obtain⟨o',Z⟩:=I.base.there b ob y (by intro m;cases m);exact absurd (mE Z) (lG.mpr z)
have D:∀b,b∈ea::tr.toList->s.heap.get? b=none/\H' b=none:=λb O=>⟨(d b O).1.elim id (λz=>by cases z),(d b O).2.1⟩
have hT:s.heap.get? T=none/\H' T=none:=by
 rcases n with z|z
 .simp_all
 exact⟨J T z,I.hok.fresh z⟩
exact⟨ea,T,C,od,H',rfl,I.os,I.bare,S.base,S.hok,hd,⟨(D ea (kY)).1,hT.1⟩,⟨(D ea (kY)).2,hT.2⟩,q⟩)
noncomputable def qGC(sp:Sp)(dvs:List V)(ES:St->XK)(t:TA):TE:=λσ H Q=>t σ H λvs H1=>sp (vs++dvs) H1 Q (ES σ)
noncomputable def qGD(C:Addr)(m:Str)(sp:Sp)(dvs:List V)(ES:St->XK)(ta:TE)(t:TA):TE:=λσ H Q=>ta σ H λx H1=>∃a dx fs,x=.ref a/\H1 a=some (.ins C dx fs)/\fs.lookup m=none/\t σ H1 λvs H2=>sp (x::(vs++dvs)) H2 Q (ES σ)
noncomputable def qM7(C:Addr)(sp:Sp)(dvs:List V)(ES:St->XK)(t:TA):TE:=λσ H Q=>t σ H λvs H1=>∀x dx,H1 x=none->H1 dx=none->dx≠x->sp (.ref x::(vs++dvs)) (upd (upd H1 dx (.own x)) x (.ins C dx [])) (λv H2=>v=.non/\Q (.ref x) H2) (ES σ)
theorem jX:q0G X (λz z z z=>False):=λz z z z z z z z z z z h=>h.elim
section
variable{X:Cx}{k:Nat}{f C:Addr}{fd:FuncData}{ps:List Str}{sp:Sp}{dvs:List V}{ds:List Value}{E:XK}{ES:St->XK}{x m:Str}{p pos apos:Pos}{e o:Expr}{es:List Expr}{ta:TE}{t:TA}
theorem q6X{s:Shared}(F:FnOk X.prog X.w X.K X.mg X.base (CXe X.prog X.w) k f fd ps sp)(hr:Room k X.A)(hb:jT X.K fd ps ds)(hd:Vals dvs ds)(tk:q0G X ES)
 (I:Inv X pins σ H s) (r:Vals vs us) (h:sp (vs++dvs) H Q (ES σ)):wpAny (model X.prog X.w) X.A (call (.ref f) us) (EP X pins σ Q) X.xe s:=by(
have r2:=r.append hd
have hl:(us++ds).length=ps.length:=by rw[<-r2.length];exact F.len _ _ _ _ h
refine cP (cT (F.run X.A _ s H _ _ _ Q _ hr I.env0 (hb s us I.kIn hl) r2 h) λr s' d=>?_)
cases r with
|error e=>exact tk.passes _ σ H s e s' I d
|ok z=>
 cases z with
 |ret u=>exact I.after d
 |next=>assumption
 |brk=>assumption
 |cont=>assumption)
theorem q2C(tk:q0G X ES)(F:FnOk X.prog X.w X.K X.mg X.base (CXe X.prog X.w) k f fd ps sp)(hr:Room k X.A)(hg:Gl X x)(hm:X.mg x=some (.ref f))(hk:PySem.W.keepIn X.K (.ref f)=true)(hb:jT X.K fd ps ds)(hd:Vals dvs ds)
 (ha:PA X (e::es) t) (hdb:(x==("__debug__":Str))=false:=by decide) (he:starEach (e::es) X.env=(false,eval e X.env)::starEach es X.env:=by rfl) (hpl:(backTo pos (starEach es X.env)).any (·.1)=false:=by rfl):
 PE X (.Call (.Name x p) (e::es) [] pos) (qGC sp dvs ES t):=by(
intro pins s σ H Q I h
refine dG (q0E I hg hm ?_ hdb)
refine rH  I.ok.mod.kin hk (thn (ha pos _ s σ H _ I h) λJ z ⟨D,H1,d,r,q⟩=>⟨d.kIn,?_⟩) he hpl
exact q6X F hr hb hd tk d r q)
theorem jF(tk:q0G X ES)(he:PE X o ta)(c:Cls X.K C)(hm:Meth X.K C m f)(F:FnOk X.prog X.w X.K X.mg X.base (CXe X.prog X.w) k f fd ps sp)(hr:Room k X.A)(hb:jT X.K fd ps ds)(hd:Vals dvs ds)(ha:PA X (e::es) t)
 (hst:starEach (e::es) X.env=(false,eval e X.env)::starEach es X.env:=by rfl) (hpl:(backTo pos (starEach es X.env)).any (·.1)=false:=by rfl)
 (ht:eval (.Call (.Attribute o m apos) (e::es) [] pos) X.env=(do
  let ov<-eval o X.env
  standAt apos.atName
  let(f,first)<-holding [ov] (getMethod ov m pl)
  callWith pos f first (backTo pos (starEach (e::es) X.env)) (backToKw pos (keywordEach [] X.env))):=by rfl):
 PE X (.Call (.Attribute o m apos) (e::es) [] pos) (qGD C m sp dvs ES ta t):=by(
intro pins s σ H Q I h
refine wD (pl:=pl) (thn (he pins s σ H _ I h) λu O N=>?_) ht
obtain⟨x,H1,z,D,a,dx,fs,ex,ea,l,q⟩:=N
subst ex
obtain rfl:u=Value.ref a:=D
refine q1F z ea c hm l ?_
refine rH  (h₀:=X.base) I.ok.mod.kin hm.kp (thn (ha pos pins O σ H1 _ z q) λS Z ⟨vs,H2,d,r,J⟩=>⟨d.kIn,?_⟩) hst hpl
exact q6X  (vs:=.ref a::vs) F hr hb hd tk d (.cons rfl r) J)
theorem v4(tk:q0G X ES)(he:PE X o ta)(c:Cls X.K C)(hm:Meth X.K C m f)(F:FnOk X.prog X.w X.K X.mg X.base (CXe X.prog X.w) k f fd ps sp)(hr:Room k X.A)(hb:jT X.K fd ps ds)(hd:Vals dvs ds)
 (ht:eval (.Call (.Attribute o m apos) [] [] pos) X.env=(do
  let ov<-eval o X.env
  standAt apos.atName
  let(f,first)<-holding [ov] (getMethod ov m pl)
  callWith pos f first (backTo pos (starEach [] X.env)) (backToKw pos (keywordEach [] X.env))):=by rfl):
 PE X (.Call (.Attribute o m apos) [] [] pos) (qGD C m sp dvs ES ta tNil):=by(
intro pins s σ H Q I h
refine wD  (thn (he _ s σ H _ I h) λu J D=>?_) ht
obtain⟨x,H1,d,z,a,dx,fs,ex,ea,l,q⟩:=D
subst ex
obtain rfl:u=Value.ref a:=z
refine q1F d ea c hm l ?_
exact sI  d.kIn hm.kp (q6X (us:=[.ref a]) (vs:=[.ref a]) F hr hb hd tk d (.cons rfl .nil) q))
theorem qF5{s:Shared}(M:Mk X.K C f)(F:FnOk X.prog X.w X.K X.mg X.base (CXe X.prog X.w) k f fd ps sp)(hr:Room (k+1) X.A)(hb:jT X.K fd ps ds)(hd:Vals dvs ds)
 (tk:q0G X ES) (I:Inv X pins σ H s) (r:Vals vs us)
 (h:∀x dx,H x=none->H dx=none->dx≠x->sp (.ref x::(vs++dvs)) (upd (upd H dx (.own x)) x (.ins C dx [])) (λv H2=>v=.non/\Q (.ref x) H2) (ES σ)):
 wpAny (model X.prog X.w) X.A (call (.ref C) us) (EP X pins σ Q) X.xe s:=by(
have D:=h (s.heap.objs.size+1) s.heap.objs.size (I.hok.fresh (dN _)) (I.hok.fresh (kO _)) (mY (rG _))
have z:=Inv.made (C:=C) I
have r2:Vals (V.ref (s.heap.objs.size+1)::(vs++dvs)) (Value.ref (s.heap.objs.size+1)::(us++ds)):=.cons rfl (r.append hd)
have hl:=by have e:=r2.length;rw[F.len _ _ _ _ D]at e;exact e.symm
refine cP (qB4 (f:=f) I.kIn M.makes M.init (rF.mp M.fn) (cT (F.run _ X.stack _ _ _ (Value.ref (s.heap.objs.size+1)::(us++ds)) _ _ (ES σ) (hr.make C us [])
 (z.env0.make C us []) (hb _ (Value.ref (s.heap.objs.size+1)::us) z.kIn hl) r2 D) λr s' d=>?_))
cases r with
|error e=>exact tk.passes pins σ _ _ e s' z d
|ok S=>
 cases S with
 |ret u=>obtain⟨v,H',N,Z,J,O⟩:=z.after d;subst J;exact⟨Z,⟨V.ref (s.heap.objs.size+1),H',N,rfl,O⟩⟩
 |next=>exact False.elim d
 |brk=>exact False.elim d
 |cont=>exact False.elim d)
theorem qBE(tk:q0G X ES)(M:Mk X.K C f)(F:FnOk X.prog X.w X.K X.mg X.base (CXe X.prog X.w) k f fd ps sp)(hr:Room (k+1) X.A)(hg:Gl X x)(hm:X.mg x=some (.ref C))(hb:jT X.K fd ps ds)(hd:Vals dvs ds)
 (ha:PA X (e::es) t) (hdb:(x==("__debug__":Str))=false:=by decide) (he:starEach (e::es) X.env=(false,eval e X.env)::starEach es X.env:=by rfl) (hpl:(backTo pos (starEach es X.env)).any (·.1)=false:=by rfl):
 PE X (.Call (.Name x p) (e::es) [] pos) (qM7 C sp dvs ES t):=by(
intro pins s σ H Q I h
refine dG (q0E I hg hm ?_ hdb)
refine rH  I.ok.mod.kin M.kp (thn (ha pos _ s σ H _ I h) λJ z ⟨D,H1,d,r,q⟩=>⟨d.kIn,?_⟩) he hpl
exact qF5 M F hr hb hd tk d r q)
end
structure FunD(K:PySem.W.Frag)(x qual:Str)(st:Stmt)(dV:Value)(f:Addr)(fd:FuncData):Prop where
ex:∃(oc:Value) (od:Option Addr) (kV doc pm:Value) (an:Option Addr) (cdv ct:Value) (osl:Array (Option Value)),fd=PySem.W.fnOf x qual (yH st) (jV st) (qF st) dV kV doc pm an cdv ct/\K.lookup f=some ⟨oc,od,.func fd,osl⟩/\PySem.W.codeIn K cdv qual=true
section
variable{P:Program}{w:World}{K:PySem.W.Frag}{mg:Str->Option Value}{base:Heap}{dV:Value}
theorem FunD.mk'{x qual:Str}{st:Stmt}{f:Addr}{oc:Value}{od an:Option Addr}{osl:Array (Option Value)}{kV doc pm cdv ct:Value}(l:K.lookup f=some ⟨oc,od,.func (PySem.W.fnOf x qual (yH st) (jV st) (qF st) dV kV doc pm an cdv ct),osl⟩)
 (c:PySem.W.codeIn K cdv qual=true):FunD K x qual st dV f (PySem.W.fnOf x qual (yH st) (jV st) (qF st) dV kV doc pm an cdv ct):=⟨oc,od,kV,doc,pm,an,cdv,ct,osl,rfl,l,c⟩
theorem FunD.okE{x qual:Str}{st:Stmt}{f:Addr}{fd:FuncData}{N ps:List Str}{k:Nat}{sp:Sp}(F:FunD K x qual st dV f fd)(S:FnScope N ps (qF st))
 (hbody:∀(cdv:Value) (A:Around) (outer:List Env) (s:Shared) (H:Hp) (vs:List V) (Q:VK) (E:XK),Room k (A.deeper (envOfC qual (qF st) s.heap.objs.size f cdv))->sp vs H Q E->∃t,PSs (cxOf (CXe P w) P w K mg base N qual (qF st) f cdv A outer s H E) (jV st) t/\t { nx:=λz H'=>Q .non H',rt:=Q } (q0F N vs) H)(len:∀vs H Q E,sp vs H Q E->vs.length=ps.length:=by intro _ _ _ _ h;first|(cases h;subst_vars;rfl)|((repeat obtain⟨_,h⟩:=h);all_goals subst_vars;rfl)):FnOk P w K mg base (CXe P w) (k+1) f fd ps sp:=by obtain⟨Z,od,kV,I,pm,an,cdv,ct,D,rfl,J,z⟩:=F.ex;exact qDL J z S len λA outer s H vs Q E O d=>hbody cdv A _ s H vs Q E O d
theorem FunD.ok0{x qual:Str}{st:Stmt}{f:Addr}{fd:FuncData}{N ps:List Str}{k:Nat}{sp:Sp}(F:FunD K x qual st dV f fd)(S:FnScope N ps (qF st))
 (hbody:∀(cdv:Value) (A:Around) (outer:List Env) (s:Shared) (H:Hp) (vs:List V) (Q:VK) (E:XK),Room k (A.deeper (envOfC qual (qF st) s.heap.objs.size f cdv))->sp vs H Q E->∃t,PSs (cxOf CX0 P w K mg base N qual (qF st) f cdv A outer s H E).nox (jV st) t/\t { nx:=λz H'=>Q .non H',rt:=Q } (q0F N vs) H)(len:∀vs H Q E,sp vs H Q E->vs.length=ps.length:=by intro _ _ _ _ h;first|(cases h;subst_vars;rfl)|((repeat obtain⟨_,h⟩:=h);all_goals subst_vars;rfl)):FnOk P w K mg base CX0 (k+1) f fd ps sp:=by(
obtain⟨Z,od,kV,I,pm,an,cdv,ct,D,rfl,J,z⟩:=F.ex
refine qDL J z S len λA outer s H vs Q E O d=>?_
obtain⟨t,h,q⟩:=hbody cdv A _ s H vs Q E O d
exact⟨t,h.nox,q⟩)
end
noncomputable abbrev bmVE:List Value:=[.type "ValueError",.type "Exception",.type "BaseException",.type "object"]
noncomputable abbrev XCls(K:PySem.W.Frag)(C:Addr):Prop:=PySem.W.excIn K C bmVE "ValueError.__new__"=true
set_option tactic.hygienic true in
theorem qIY{K:PySem.W.Frag}(q:XCls K C):∃bm N nm qn bs hd sn sub ab col dd k0 k1 k2 k3 k5,K.lookup C=some (excClassObj nm qn C N bs bm hd sn sub ab col dd k0 k1 k2 k3 k5 "ValueError.__new__")/\PySem.W.tailIn K bmVE bm=true/\PySem.W.nsOkIn K N=true/\PySem.W.nsIn K N "__init__"=some none:=by(
unfold XCls PySem.W.excIn at q
split at q
.rename_i dd cd O I;split at q
 .rename_i C' bm k0 k1 k2 k3 n k5 z d;obtain⟨nm,bs,D,ns,qn,hd,sn,sub,ab,col,J⟩:=cd;obtain⟨l⟩:=O;simp only[mQ,rF,wM]at q z d;obtain⟨⟨⟨⟨⟨Z,S⟩,e3⟩,e4⟩,e5⟩,e6⟩:=q;subst Z S e3 z d;exact⟨bm,ns,nm,qn,bs,hd,sn,sub,ab,col,dd,k0,k1,k2,k3,k5,I,e4,e5,e6⟩
 cases q
cases q)
noncomputable def qM8(ES:St->XK)(C:Addr)(t:TA):TS:=λz σ H=>t σ H λvs H1=>vs.length<=sizeLine/\ES σ (.ref C) none H1
section
variable{X:Cx}{ES:St->XK}{C:Addr}{x:Str}{np cpos pos:Pos}{e:Expr}{es:List Expr}{t:TA}
theorem qGE{pins:List (Addr×Obj)}{σ:St}{H:Hp}{s:Shared}{h':Heap}{ea:Addr}{C:Value}{vs:List Value}(I:Inv X pins σ H s)(m:Heap.MadeExcOf s.heap h' ea C vs):
 Air X.env.locals h' ea C none none/\Ours X pins H [ea]:=by(
obtain⟨t,D,Z,S⟩:=m.there
refine⟨⟨_,⟨_,D,rfl,rfl,rfl,by rfl⟩,rfl⟩,λb O=>?_⟩
rw[kE.mp O]
refine⟨?_,I.hok.free m.new,λp d z=>?_⟩
.by_cases y:ea∈X.ex
 .exact .inr y
 refine .inl ?_;cases z:X.s₀.heap.get? ea with
 |none=>rfl
 |some J=>obtain⟨o',N⟩:=I.base.there ea J z y;rw[m.new]at N;lia
have y:=(I.pin p d).1
rw[z,m.new]at y
lia)
theorem q4S(tk:q0G X ES)(hc:X.calm=true)(hg:Gl X x)(hm:X.mg x=some (.ref C))(hx:XCls X.K C)(ha:PA X (e::es) t)(hdb:(x==("__debug__":Str))=false:=by decide)
 (he:starEach (e::es) X.env=(false,eval e X.env)::starEach es X.env:=by rfl) (hpl:(backTo cpos (starEach es X.env)).any (·.1)=false:=by rfl):
 PS X (.Raise (some (.Call (.Name x np) (e::es) [] cpos)) none pos) (qM8 ES C t):=by(
intro pins s σ H D I hq
obtain⟨bm,N,nm,qn,bs,hd,sn,sub,ab,col,dd,k0,k1,k2,k3,k5,lk,tl,ok,ni⟩:=qIY hx
have S:=I.mod.kin
have T0:=PySem.W.tail_of_in S tl
have hN:X.base.Ns N (X.base.nsMap N):=.of_isNs (PySem.W.isNs_of_in S ok)
have aa:=PySem.W.nsMap_none_of_in S ok ni
have d:(backTo cpos (starEach (e::es) X.env)).any (·.1)=false:=by rw[he];show(false||(backTo cpos (starEach es X.env)).any (·.1))=false;rw[hpl];rfl
refine wpAny_Raise_call_subT (C:=C) (nm:=nm) (q:=qn) (N:=N) (bs:=bs) (bm:=bm) (hdct:=hd) (sn:=sn) (sub:=sub) (ab:=ab) (col:=col) (dd:=dd) (k0:=k0) (k1:=k1) (k2:=k2) (k3:=k3) (k5:=k5) (mN:=X.base.nsMap N)
 PySem.F.excBase_ValueError (T0.hasType (by decide)) (I.ok.hd hc) d aa (q0E I hg hm ⟨rfl,?_⟩ hdb)
have h0:=ha cpos pins s σ H _ I hq
rw[he]at h0 ⊢
refine PySem.Calls.evalArgs_plain (dM h0 (λus s1 h1=>?_) λz z y=>y)
obtain⟨vs,H1,O,r,hz,hE⟩:=h1
refine⟨rfl,by rw[<-r.length];exact hz,O.bk _ _ (S _ _ lk),?_,T0.keeps O.bk,λh' ea m=>?_⟩
.obtain⟨o',ac,Z,z,rr⟩:=hN;exact⟨o',ac,Z,O.bk _ _ z,rr⟩
obtain⟨air,J⟩:=qGE O m
refine tk pins σ H1 { s1 with heap:=h' } ea none (.ref C) none (O.kept (t':=s1.toks) m.keeps) air J hE)
end
noncomputable abbrev Cx.tr(X:Cx)(pins:List (Addr×Obj))(XE:Value->Shared->Prop):Cx:={ X with pn:=X.pn++pins,xe:=XE }
noncomputable abbrev Cx.sui(X:Cx)(e:Addr):Cx:={ X with A:=X.A.mark (some (.ref e)),calm:=false,xe:=λz z=>False }
theorem Chg.mono{fr:List Addr}(c:Chg fr rs h h')(f:∀b∈fr,b∈fr')(r:∀b∈rs,b∈rs'):Chg fr' rs' h h':=⟨λb o a z e=>c.keep b o (λy=>a (f b y)) (λy=>z (r b y)) e,λb o z e=>c.slot b o (λy=>z (r b y)) e,c.there⟩
theorem Held.recs{f:Value}{T:Addr}(x:Held f h e T C od):Recs h [e,T]:=by(
obtain⟨N,⟨J,I,_,_,d,_⟩,_,_,oT,ts,t3,t4,_⟩:=x
intro b D
have z:=by simpa using D
rcases z with rfl|rfl
.exact⟨_,_,I,d⟩
exact⟨_,_,t3,t4⟩)
section
variable{X:Cx}{pins:List (Addr×Obj)}{σ:St}{H:Hp}{s:Shared}{XE:Value->Shared->Prop}
theorem Inv.tr(I:Inv X pins σ H s)(XE:Value->Shared->Prop):Inv (X.tr pins XE) [] σ H s:=have ok:=I.ok
 ⟨⟨ok.mod,ok.kind,ok.glob,ok.blt,ok.above,ok.inj,ok.has,ok.cab,ok.hd,ok.frames,ok.stk,ok.exf,ok.bs,ok.bsz,ok.noex,ok.exfs,ok.funs,ok.frf⟩,I.os,I.bare,I.base,I.loc,I.cell,I.free,I.freeC,λp hp=>I.pin p (by simp_all),I.hok,I.len⟩
theorem Inv.untr(I:Inv (X.tr pins XE) ps σ H s):Inv X pins σ H s:=have ok:=I.ok
 ⟨⟨ok.mod,ok.kind,ok.glob,ok.blt,ok.above,ok.inj,ok.has,ok.cab,ok.hd,ok.frames,ok.stk,ok.exf,ok.bs,ok.bsz,ok.noex,ok.exfs,ok.funs,ok.frf⟩,I.os,I.bare,I.base,I.loc,I.cell,I.free,I.freeC,λp hp=>I.pin p (gG _ hp),I.hok,I.len⟩
theorem Inv.sui(I:Inv X pins σ H s)(e:Addr):Inv (X.sui e) pins σ H s:=have ok:=I.ok
 ⟨⟨ok.mod,ok.kind,ok.glob,ok.blt,ok.above,ok.inj,ok.has,ok.cab,(λz=>by cases z),ok.frames,ok.stk,ok.exf,ok.bs,ok.bsz,ok.noex,ok.exfs,ok.funs,ok.frf⟩,I.os,I.bare,I.base,I.loc,I.cell,I.free,I.freeC,I.pin,I.hok,I.len⟩
theorem Inv.unsui(hc:X.calm=true->X.A.handled=none)(I:Inv (X.sui e) pins σ H s):Inv X pins σ H s:=have ok:=I.ok
 ⟨⟨ok.mod,ok.kind,ok.glob,ok.blt,ok.above,ok.inj,ok.has,ok.cab,hc,ok.frames,ok.stk,ok.exf,ok.bs,ok.bsz,ok.noex,ok.exfs,ok.funs,ok.frf⟩,I.os,I.bare,I.base,I.loc,I.cell,I.free,I.freeC,I.pin,I.hok,I.len⟩
theorem SP.untr{f:Flow}(h:SP (X.tr pins XE) [] D f s'):SP X pins D f s':=by(
cases f with
|next=>obtain⟨d,H',I,q⟩:=h;exact⟨d,H',I.untr,q⟩
|brk=>obtain⟨d,H',I,q⟩:=h;exact⟨d,H',I.untr,q⟩
|cont=>obtain⟨d,H',I,q⟩:=h;exact⟨d,H',I.untr,q⟩
|ret u=>obtain⟨v,d,H',I,r,q⟩:=h;exact⟨v,d,H',I.untr,r,q⟩)
theorem SP.unsui{f:Flow}(hc:X.calm=true->X.A.handled=none)(h:SP (X.sui e) pins D f s'):SP X pins D f s':=by(
cases f with
|next=>obtain⟨d,H',I,q⟩:=h;exact⟨d,H',I.unsui hc,q⟩
|brk=>obtain⟨d,H',I,q⟩:=h;exact⟨d,H',I.unsui hc,q⟩
|cont=>obtain⟨d,H',I,q⟩:=h;exact⟨d,H',I.unsui hc,q⟩
|ret u=>obtain⟨v,d,H',I,r,q⟩:=h;exact⟨v,d,H',I.unsui hc,r,q⟩)
end
noncomputable def qNM(ea:Addr)(C:Value)(od:Option Addr):Heap->Prop:=λh=>∃o vs,h.get? ea=some o/\o.cls=C/\o.dict=od/\o.data=.fields vs
noncomputable abbrev XO(ea:Addr)(C:Value)(od:Option Addr):HO:=.ext (qNM ea C od)
noncomputable abbrev TH:=Ends->St->Hp->Addr->Value->Option Addr->Prop
noncomputable def PHs(X:Cx)(hs:List ExceptHandler)(t:TH):Prop:=∀(pins:List (Addr×Obj)) (s:Shared) (σ:St) (H:Hp) (D:Ends) (ea T:Addr) (C:Value) (od:Option Addr),Inv X pins σ H s->Held .none s.heap ea T C od->Ours X pins H [ea,T]->t D σ H ea C od->wpAny (model X.prog X.w) X.A (handleBy (.ref ea) X.env hs) (SP X pins D) X.xe s
section
variable{X:Cx}{ES:St->XK}
theorem qCT(tk:q0G X ES)(hf:X.env.frame=some X.env.locals:=by rfl):PHs X [] (λz σ H z C od=>ES σ C od H):=by(
intro pins s σ H D ea T C od I J d q
refine wpAny_handleBy_nil ?_
have rc:=J.recs
obtain⟨vs,x,N,t2,oT,ts,t3,t4,t5⟩:=id J
obtain⟨oe,S,Z,a3,O,a5⟩:=id x
refine hX (cQ S O N ?_)
refine hX (q3B J λh' c z=>wpAny_throw ?_)
rw[hf]at z
exact tk pins σ H _ ea (some T) C od (I.chg (t':=s.toks)  (c.mono (by simp) (by simp)) d rc) (z.air (.inr rfl)) d q)
theorem Inv.pinX{s:Shared}{T:Addr}{f:Value}(I:Inv X pins σ H s)(hd:Held f s.heap ea T C od)(ours:Ours X pins H [ea,T]):
 ∃oe oT,Inv X (pins++[(ea,oe),(T,oT)]) σ H s/\∀h':Heap,h'.get? ea=some oe->h'.get? T=some oT->Held f h' ea T C od:=by(
have rc:=hd.recs
obtain⟨vs,⟨oe,O,a2,a3,D,a5⟩,t1,t2,oT,ts,t3,t4,t5⟩:=hd
refine⟨oe,oT,I.pins_of λp hp=>?_,λh' Z z2=>⟨vs,⟨oe,Z,a2,a3,D,a5⟩,t1,t2,oT,ts,z2,t4,t5⟩⟩
have J:∀b o S,s.heap.get? b=some o->o.data=.fields S->b≠X.env.locals/\b∉X.fs:=λb o S e d=>by
 refine⟨λz=>?_,λz=>?_⟩
 .obtain⟨m,⟨o',es,ep,N,ah,_⟩,_⟩:=I.loc;lia
 obtain⟨_,o',N,hn⟩:=I.funs.mem z;rw[e]at N;cases N;exact hn _ d
rcases gN.mp hp with z|z
.exact I.pin p (mC _ z)
have z:p=(ea,oe)\/p=(T,oT):=by simpa using z
rcases z with rfl|rfl
.exact⟨O,(ours ea (by simp)).2.1,(J _ _ _ O D).1,(J _ _ _ O D).2,λv q=>by rw[D]at q;cases q⟩
exact⟨t3,(ours T (by simp)).2.1,(J _ _ _ t3 t4).1,(J _ _ _ t3 t4).2,λv q=>by rw[t4]at q;cases q⟩)
theorem qBF{ty:Expr}{c:V}{s:Shared}{T:Addr}{b:Bool}(hc:PE (X.sui ea) ty (tC c))(rc:RelV c cv)
 (I:Inv X pins σ H s) (hh:X.calm=true->X.A.handled=none) (hd:Held .none s.heap ea T C od) (ours:Ours X pins H [ea,T]) (hx:PySem.W.exmOne X.K C cv=some b) (q:∀s',Inv X pins σ H s'->Held .none s'.heap ea T C od->R (.ok (if b then .brk else .next)) s'):
 codeAny (model X.prog X.w) (X.A.mark (some (.ref ea))) (.handlers (.ref ea) [.ExceptHandler (some ty) none [] pos] X.env) R s:=by(
obtain⟨Z,oT,I1,J⟩:=I.pinX hd ours
refine codeAny_handlers_test (dM (hc _ s σ H (λv H'=>v=c/\H'=H) (I1.sui ea) ⟨rfl,rfl⟩) (λu O h1=>?_) λd d z=>z.elim)
obtain⟨v,H',N,r,e1,e2⟩:=h1
subst e1 e2
have e3:u=cv:=by
 cases v with
 |non=>exact r.trans rc.symm
 |bl b=>exact r.trans rc.symm
 |ref a=>exact r.trans rc.symm
 |ty n=>exact r.trans rc.symm
 |int i=>obtain⟨t,e⟩:=r;obtain⟨S,d⟩:=rc;subst d;unfold PySem.W.exmOne at hx;split at hx<;>cases hx
 |str i=>obtain⟨t,e⟩:=r;obtain⟨S,d⟩:=rc;subst d;unfold PySem.W.exmOne at hx;split at hx<;>cases hx
 |byt i=>obtain⟨t,e⟩:=r;obtain⟨S,d⟩:=rc;subst d;unfold PySem.W.exmOne at hx;split at hx<;>cases hx
 |flt i=>obtain⟨t,e⟩:=r;obtain⟨S,d⟩:=rc;subst d;unfold PySem.W.exmOne at hx;split at hx<;>cases hx
subst e3
have p1:=(N.pin (ea,Z) (by simp)).1
have p2:=(N.pin (T,oT) (by simp)).1
have D:=J _ p1 p2
obtain⟨vs,⟨ab,z1,z2,_⟩,_⟩:=id D
have LT:PySem.W.Looks (model X.prog X.w) O.heap (typeOf (.ref ea)) C:=by rw[<-z2];exact(aK z1).andThen .now
have I3:Inv X pins σ H' O:=(Inv.unsui hh N).unpinned
exact(PySem.W.exm_one N.kIn LT hx).here (q O I3 D))
theorem q6Y{ty:Expr}{c:V}{b₀:Stmt}{tr:TH}(hc:∀ea,PE (X.sui ea) ty (tC c))(rc:RelV c cv)(hs:∀ea,PSs (X.sui ea) (b₀::suite) ts)(hr:PHs X rest tr):
 PHs X (.ExceptHandler (some ty) none (b₀::suite) pos::rest) (λD σ H ea C od=>∃b,PySem.W.exmOne X.K C cv=some b/\if b=true then ts D σ H else tr D σ H ea C od):=by(
intro pins s σ H D ea T C od I Z d O
obtain⟨b,S,q⟩:=O
refine wpAny_handleBy_cons (qBF (hc ea) rc I I.ok.hd Z d S λs' N J=>?_) (by intro z;cases z)
cases b with
|false=>exact hr pins s' σ H D ea T C od N J d q
|true=>refine codeAny_handlers_suite (q3B J λh' c ab=>?_);have I2:=N.chg (t':=s'.toks) (rs:=[ea,T]) (c.mono (by simp) (by simp)) d J.recs;exact dM (hs ea pins _ σ H D (I2.sui ea) q) (λf s2 z=>z.unsui I.ok.hd) λd d z=>z.elim)
noncomputable def tTry(tb:(St->XK)->TS)(th:TH):TS:=λD σ H=>tb (λσ' C od H'=>∀ea,H' ea=none->th D σ' H' ea C od) D σ H
theorem qCU{h₀:ExceptHandler}{tb:(St->XK)->TS}
 (hb:∀(pins:List (Addr×Obj)) (XE:Value->Shared->Prop) (ES:St->XK),q0G (X.tr pins XE) ES->PassesOwn (model X.prog X.w) X.A X.env XE->PSs (X.tr pins XE) body (tb ES)) (hh:PHs X (h₀::hs) th)
 (hfs:∃fr,X.stack=X.env::fr:=by exact⟨_,rfl⟩) (hf:X.env.frame=some X.env.locals:=by rfl):PS X (.Try body (h₀::hs) [] [] pos) (tTry tb th):=by(
intro pins s σ H D I q
refine wpAny_Try_except (dM (hb pins _
 (λS C od H'=>∀ea,H' ea=none->th D S H' ea C od) ?_ PassesOwn.looking [] s σ H D (I.tr _) q) (λf s1 z=>?_) λe s1 z=>z)
.intro J S H' s' ea tr C od O air d y;obtain⟨fr,ek⟩:=hfs;have N:X.A.frames=some (X.env::fr):=by rw[I.ok.frames,ek]
 have ff:s'.heap.FunFrames X.base (X.env::fr):=by rw[<-ek];exact O.stack
 refine qDP N ff hf air λh' T c hd n=>?_;have en:frs X.stack=(X.env::fr).filterMap (·.frame):=by rw[ek];rfl
 have I2:Inv (X.tr pins _) J S H' { s' with heap:=h' }:=O.chg (t':=s'.toks) (by show Chg (frs X.stack) _ _ _;rw[en];exact c) d air.recs;have Z:Ours (X.tr pins λe s1=>wpAny (model X.prog X.w) X.A (noteFrame e X.env) (λz s2=>wpAny (model X.prog X.w) X.A (setFlight e none) (λz s3=>wpAny (model X.prog X.w) X.A (handleBy e X.env (h₀::hs)) (SP X pins D) X.xe s3) X.xe s2) X.xe s1) J H' [ea,T]:=by
  intro b hb;have hb:b=ea\/b=T:=by simpa using hb
  rcases hb with rfl|rfl
  .exact d b (by simp)
  rcases n with z|z
  .exact d b (hG _ (by cases tr with|none=>cases z|some t=>cases z;exact kE.mpr rfl))
  refine⟨?_,O.hok.fresh z,λp hp w=>?_⟩
  .by_cases y:b∈X.ex
   .exact .inr y
   refine .inl ?_;cases w:X.s₀.heap.get? b with
   |none=>rfl
   |some ob=>obtain⟨o',w'⟩:=O.base.there b ob w y;exact absurd (mE w') (lG.mpr z)
  have w':=(O.pin p hp).1;rw[w]at w';exact absurd (mE w') (lG.mpr z)
 refine q3B hd λh2 c2 ac=>?_;have I3:=I2.chg (t':=s'.toks) (rs:=[ea,T]) (c2.mono (by simp) (by simp)) Z hd.recs;exact hh pins _ S H' D ea T C od I3.untr ac (λb hb=>⟨(Z b hb).1,(Z b hb).2.1,λp hp=>(Z b hb).2.2 p (gG _ hp)⟩) (y ea (d ea (by simp)).2.1)
have z:=z.untr
cases f with
|next=>obtain⟨S,H',O,y⟩:=z;exact qT pins s1 S H' D O y
|_=>exact z)
end
noncomputable def NewX(ea:Addr)(C:Value)(od:Option Addr):Heap->Prop:=λh=>∃vs sl,h.get? ea=some ⟨C,od,.fields vs,sl⟩/\vs[2]?=some .none/\vs[1]?=some .none
noncomputable abbrev XN(ea:Addr)(C:Value)(od:Option Addr):HO:=.ext (NewX ea C od)
noncomputable def qKS(X:Cx)(pins:List (Addr×Obj))(a:Addr):Prop:=(X.s₀.heap.get? a=none\/a∈X.ex)/\∀p∈X.pn++pins,p.1≠a
section
variable{X:Cx}{pins:List (Addr×Obj)}{σ:St}{H:Hp}{s:Shared}{a:Addr}
theorem Inv.young(I:Inv X pins σ H s)(e:s.heap.get? a=none):qKS X pins a:=by(
refine⟨?_,λp d z=>?_⟩
.by_cases y:a∈X.ex
 .exact .inr y
 refine .inl ?_;cases z:X.s₀.heap.get? a with
 |none=>rfl
 |some D=>obtain⟨o',J⟩:=I.base.there a D z y;lia
have y:=(I.pin p d).1
lia)
theorem Inv.trackG{o:HO}(I:Inv X pins σ H s)(n:H a=none)(y:qKS X pins a)(nl:a≠X.env.locals)(nc:∀x c,X.env.cells.lookup x=some c->c≠a)(new:jM X.prog X.w (upd H a o) s.heap a o):Inv X pins σ (upd H a o) s:=by(
have ne:∀b o',X.s₀.heap.get? b=some o'->b∉X.ex->b≠a:=λb o' z x q=>by
 subst q;rcases y.1 with w|w
 .rw[z]at w;cases w
 exact x w
have d:∀b u,H b=some u->b≠a:=λb u z q=>by rw[q,n]at z;cases z
refine⟨I.ok,I.os,I.bare,⟨I.base.keep,I.base.slot,λb o' z m x=>?_,I.base.there,λb xs z=>?_,λb o' u z=>?_,λb ps z=>?_⟩,I.loc,I.cell,?_,λx c z=>?_,λp D=>?_,λb u z=>?_,I.len⟩
.rw[qE (ne b o' z x)];exact I.base.free b o' z m x
.have w:=I.base.tups b xs z;rw[qE (d _ _ w)];exact w
.have w:=I.base.frzs b o' u z;rw[qE (d _ _ w)];exact w
.obtain⟨more,w⟩:=I.base.tbls b ps z;exact⟨more,by rw[qE (d _ _ w)];exact w⟩
.rw[qE (cC nl)];exact I.free
.rw[qE (nc x c z)];exact I.freeC x c z
.obtain⟨J,p2,S,N,O⟩:=I.pin p D;exact⟨J,by rw[qE (y.2 p D)];exact p2,S,N,O⟩
by_cases q:b=a
.subst q;rw[qI]at z;cases z;exact new
rw[qE q]at z
refine(I.hok b u z).stay (λZ Z Z g=>g) (λc g=>?_) λc xs g=>?_
.rw[qE (d _ _ g)];exact g
rw[qE (d _ _ g)];exact g)
end
noncomputable def qGF:List Value->Bool
| .ref _::r=>qGF r
|l=>l==bmVE
noncomputable def veIn(K:PySem.W.Frag)(C:Addr):Bool:=(PySem.W.clsIn K C).any (λcd=>qGF cd.mro)
structure XAt(K:PySem.W.Frag)(C:Addr):Prop where
hd:PySem.W.hasDictIn K C=true
sa:PySem.W.findIn K (.ref C) "__setattr__"=some (some (.builtin "object.__setattr__"))
mro:veIn K C=true
structure XRd(K:PySem.W.Frag)(C:Addr):Prop where
ga:PySem.W.findIn K (.ref C) "__getattribute__"=some (some (.builtin "BaseException.__getattribute__"))
gn:PySem.W.findIn K (.ref C) "__getattr__"=some none
mb:PySem.W.mroIn K C (.type "BaseException")=some true
hd:PySem.W.hasDictIn K C=true
cls:PySem.W.findIn K (.ref C) "__class__"=some (some (.builtin "object.__class__"))
cget:PySem.W.specialIn K (.builtin "object.__class__") "__get__"=some (some (.builtin "getset_descriptor.__get__"))
ctk:PySem.W.takesIn K (.builtin "object.__class__")=some true
mo:PySem.W.mroIn K C (.type "object")=some true
noncomputable def XAny(H:Hp)(ea:Addr)(C:Value)(od:Option Addr):Prop:=H ea=some (XO ea C od)\/H ea=some (XN ea C od)
section
variable{X:Cx}{pins:List (Addr×Obj)}{σ:St}{H:Hp}{s:Shared}{ea C:Addr}{od:Option Addr}
theorem XAny.at{C:Value}(x:XAny H ea C od)(I:Inv X pins σ H s):∃o vs,s.heap.get? ea=some o/\o.cls=C/\o.dict=od/\o.data=.fields vs:=by(
rcases x with e|e
.exact(I.hok ea _ e).1
obtain⟨vs,d,z,_⟩:=(I.hok ea _ e).1
exact⟨_,vs,z,rfl,rfl,rfl⟩)
theorem qIZ{A:Around}{E:Value->Shared->Prop}{K:PySem.W.Frag}{prog:Program}{w:World}{s:Shared}{x:Addr}{ox:Obj}{od:Option Obj}{name:Str}{tk:Tok}{fill b:Bool}{Q:Value->Shared->Prop}(X:K.In s.heap)(J:PySem.W.InstAt s.heap x ox C od)(c:XRd K C)
 (h:∀A',wpAny (model prog w) A' (Builtin.«object.__getattribute__» ⟨[.ref x,.str name tk],[]⟩) (λfin s'=>∃v,fin=.done (.ret v)/\PySem.W.handedIn v=true/\Q v s') (λz z=>False) s):wpAny (model prog w) A (getAttrBy (.ref x) (.str name tk) fill b) Q E s:=by(
obtain⟨I,g,d,t,os⟩:=s
have L0:=J.type (M:=model prog w)
have L1:=cO (M:=model prog w) X c.ga
have O:=cO (M:=model prog w) X c.gn
have D:=PySem.F.excAttr_ValueError.ga
unfold getAttrBy
refine g5 (hX (L0.at (hX (L1.at ?_))))
show wpAny _ _ (getAttrByItsOwn (.ref x) (.str name tk) (.ref C) (.builtin "BaseException.__getattribute__") fill b) _ _ _
unfold getAttrByItsOwn
refine hX ?_
show wpAny _ _ (typeLookup (.ref C) "__getattr__") _ _ _
refine O.at ?_
refine hX (xE (g5 ?_))
have e1:callGetattribute (.ref x) (.str name tk) (.builtin "BaseException.__getattribute__") b=boundAndCalled (.builtin "BaseException.__getattribute__") (.ref x) (.str name tk):=by unfold callGetattribute;rw[hU (by cases b<;>exact Bool.noConfusion)]
rw[e1]
unfold boundAndCalled
rw[D.bind (.ref x)]
refine hX (kW ?_)
refine cP (p7 D.plain PySem.F.entry_bexc_ga ?_)
have S:PySem.W.Looks (model prog w) I (isInstance (.ref x) (.type "BaseException")) true:=J.type.andThen (PySem.W.looks_mroIn X c.mb)
have hk:builtinKind "BaseException.__getattribute__"=some .slot:=by decide+kernel
have Z:splitId "BaseException.__getattribute__"=some ("BaseException","__getattribute__"):=by decide+kernel
refine @xM (model prog w) _ _ ⟨I,g,d,t,os⟩ "BaseException.__getattribute__" "BaseException" "__getattribute__" (.ref x) [.str name tk] [] _ hk Z S (PySem.F.args_bexc_ga (.ref x) (.str name tk)) ?_
refine dM (h _) (λfin s' z=>?_) (λd d z=>z.elim)
obtain⟨v,rfl,N,z2⟩:=z
exact PySem.W.handed_on N z2)
end
noncomputable def clsV:V->Option Value
| .ref a=>some (.ref a)
| .ty n=>some (.type n)
|_=>none
theorem qGG{c:V}(h:clsV c=some cv)(r:RelV c u):u=cv:=by cases c<;>first|(cases h;exact r)|cases h
noncomputable def KndT(K:PySem.W.Frag)(H:Hp)(x:V)(t:Value):Prop:=TyOf K H x t\/∃ea C od,x=.ref ea/\t=.ref C/\XAny H ea (.ref C) od/\XRd K C/\(od=none\/∃dx fs,od=some dx/\H dx=some (.xd fs))
set_option tactic.hygienic true in
theorem qM9{K:PySem.W.Frag}{x:Addr}(c:XRd K D):PySem.W.KitX K (.ref x) (.ref D) (λh=>PySem.W.InstAt h x ox D od) where
ty:=λZ Z Z I=>I.type
it:=λZ Z X Z=>by
 obtain⟨cd,hc,_⟩:=pQ c.hd;unfold PySem.W.clsIn at hc;split at hc
 .rename_i ho;intro A' Q' E' s' k q;unfold isType loadHead;exact hX (wpAny_loadPart (k _ _ (X _ _ ho)) (kW q))
 cases hc
ne:=λh tp dd its n sl X htp=>by
 obtain⟨cd,hc,_⟩:=pQ c.hd;refine aA.mpr λq=>?_;have e:D=tp:=Value.ref.inj (rF.mp q);subst e;unfold PySem.W.clsIn at hc;split at hc
 .rename_i ho;have z:=(X _ _ ho).symm.trans htp;cases z
 cases hc
ca:=fun {prog w _ _ _ s} X I k=>by
 have hf:PySem.W.findObj K D od "__class__"=some (.bind (.builtin "getset_descriptor.__get__") (.builtin "object.__class__")):=by obtain⟨cd,hc,_⟩:=pQ c.hd;unfold PySem.W.findObj;rw[hc,pR,c.cls,pR];dsimp only;rw[c.cget,pR];dsimp only;rw[c.ctk,pR]
 unfold getAttr? getAttrBy?;refine hX (wpAny_mkText (hX (xE (qIZ (s:={ s with toks:=s.toks+1 }) X I c λA'=>?_))));have L0:=I.type (M:=model prog w);have L1:=PySem.W.looks_find (M:=model prog w) X I hf;obtain⟨hh,gg,d,t,os⟩:=s;refine hX (kW (hX (kW (hX (L0.at (hX (L1.at ?_)))))));show wpAny _ _ (holding [.builtin "object.__class__"] (call (.builtin "getset_descriptor.__get__") [.builtin "object.__class__",.ref x,.ref D]) >>= ret) _ _ _;exact hX (g5 (cP (PySem.W.class_get (s:=⟨hh,gg,d,t+1,os⟩) (ox:=ox) (od:=od) X I c.mo (kW ⟨_,rfl,rfl,kW k⟩))))
theorem q4T:q3O X (.builtin "isinstance") (λxs H Q=>∃x c cv t b,xs=[x,c]/\clsV c=some cv/\KndT X.K H x t/\PySem.W.kitOne X.K t cv=some b/\Q (.bl b) H):=by(
intro pins s σ H xs us Q I r h
obtain⟨x,c,cv,t,b,rfl,hc,ty,e,q⟩:=h
obtain⟨u,w',rfl,ru,O⟩:=qFT r
cases qGG hc O
rcases ty with ty|⟨ea,C,od,rfl,rfl,hx,ca,hd⟩
.exact qEW I ru ty e λtk=>⟨.bl b,H,I.tok tk,rfl,q⟩
obtain rfl:u=Value.ref ea:=ru
obtain⟨o,vs,Z,S,e3,e4⟩:=hx.at I
have d:PySem.W.notCls o=true:=by rw[PySem.W.notCls,e4]
have J:∃D,PySem.W.InstAt s.heap ea o C D:=by
 rcases hd with rfl|⟨dx,fs,rfl,N⟩
 .exact⟨none,Z,S,d,by simp_all⟩
 obtain⟨mA,n1,rl⟩:=I.hok dx _ N;obtain⟨D,g1,g2⟩:=q99 n1;exact⟨some D,Z,S,d,by rw[e3];exact g1⟩
obtain⟨D,J⟩:=J
exact dJ (qM9 ca) I.kIn J e (λz=>nomatch z) λtk=>⟨.bl b,H,I.tok tk,rfl,q⟩)
structure BIni(K:PySem.W.Frag)(W:Addr):Prop where
rd:PySem.W.readsIn K W (.type "type")=true
fd:PySem.W.findCls K (.ref W) (.type "type") "__init__"=some (.val (.builtin "ValueError.__init__"))
ga:PySem.W.specialIn K (.ref W) "__getattribute__"=some (some (.builtin "type.__getattribute__"))
end L2
namespace L2
open PySem
structure Keep(F:List Addr)(H H':Hp):Prop where
k:∀b o,b∉F->H b=some o->H' b=some o
tp:∀b xs,H b=some (.tup xs)->H' b=some (.tup xs)
theorem Keep.refl{F:List Addr}:Keep F H H:=⟨λz z z e=>e,λz z e=>e⟩
theorem Keep.trans{F:List Addr}(a:Keep F H H1)(b:Keep F H1 H2):Keep F H H2:=⟨λx o n e=>b.k x o n (a.k x o n e),λx xs e=>b.tp x xs (a.tp x xs e)⟩
theorem Keep.mono{F:List Addr}(a:Keep F H H')(s:∀b∈F,b∈F'):Keep F' H H':=⟨λx o n e=>a.k x o (λm=>n (s x m)) e,a.tp⟩
theorem Keep.upd{F:List Addr}{p:Addr}{o:HO}(h:H p=some u)(nt:∀xs,u≠ .tup xs)(m:p∈F):Keep F H (upd H p o):=by(
refine⟨λb x n e=>?_,λb xs e=>?_⟩
.rw[qE (λ(z:b=p)=>n (z▸m))];exact e
rw[qE (jQ e h (λz=>nt xs z.symm))];exact e)
theorem Keep.same{F:List Addr}(s:Same H H'):Keep F H H':=⟨λb o z e=>s b o e,λb xs e=>s b _ e⟩
theorem Keep.none{F:List Addr}(a:Keep F H H'){b:Addr}(n:b∉F)(e:H' b=Option.none):H b=Option.none:=by(
cases q:H b with
|none=>rfl
|some o=>rw[a.k b o n q]at e;lia)
structure CM where
bl:Int
pg:Int
mo:Int
lim:List (Key×V)
bo:List V
cl:List Int
dc:List Int
br:List Bool
lf:Option Int
rc:List (Str×Int×Bool)
structure CA where
dx:Addr
li:Addr
bo:Addr
cl:Addr
dc:Addr
br:Addr
rc:Addr
noncomputable def lfV:Option Int->V
| .none=>.non
| .some i=>.int i
noncomputable def chF(a:CA)(m:CM):List (Str×V):=[("blocks",.int m.bl),("pages",.int m.pg),("most",.int m.mo),("limits",.ref a.li),("borne",.ref a.bo),("clearings",.ref a.cl),("deed_counts",.ref a.dc),("broken",.ref a.br),("deeds_left",lfV m.lf),("record",.ref a.rc)]
noncomputable def trip(H:Hp)(v:V)(d:Str×Int×Bool):Prop:=∃p,v=.ref p/\H p=some (.tup [.str d.1,.int d.2.1,.bl d.2.2])
noncomputable abbrev Recd(H:Hp):List V->List (Str×Int×Bool)->Prop:=Paired (trip H)
theorem Recd.keep{F:List Addr}(k:Keep F H H')(r:Recd H rs ds):Recd H' rs ds:=Paired.mapP r λv d ⟨p,e,h⟩=>⟨p,e,k.tp _ _ h⟩
theorem _root_.PySem.Paired.len{α β:Type}{F:α->β->Prop}:∀{l₁:List α} {l₂:List β},Paired F l₁ l₂->l₁.length=l₂.length
|_,_,.nil=>rfl
|_,_,.cons _ t=>dW (· + 1) t.len
theorem Paired.snoc{α β:Type}{F:α->β->Prop}:∀{l₁:List α} {l₂:List β} {a:α} {b:β},Paired F l₁ l₂->F a b->Paired F (l₁++[a]) (l₂++[b])
|_,_,_,_,.nil,h=>.cons h .nil
|_,_,_,_,.cons r t,h=>.cons r (Paired.snoc t h)
noncomputable def foot(c:Addr)(a:CA):List Addr:=[c,a.bo,a.cl,a.dc,a.br,a.rc]
structure ChipAt(C:Addr)(H:Hp)(c:Addr)(a:CA)(m:CM):Prop where
ins:H c=some (.ins C a.dx (chF a m))
li:H a.li=some (.dK m.lim)
bo:H a.bo=some (.lst m.bo)
cl:H a.cl=some (.lst (m.cl.map V.int))
dc:H a.dc=some (.lst (m.dc.map V.int))
br:H a.br=some (.lst (m.br.map V.bl))
rc:∃rs,H a.rc=some (.lst rs)/\Recd H rs m.rc
nd:[a.bo,a.cl,a.dc,a.br,a.rc].Nodup
structure CM.Ok(m:CM):Prop where
bl1:2<=m.bl
bl2:m.bl<=16
pg1:1<=m.pg
pg2:m.pg<=16
nbo:(m.bo.length:Int)=m.bl*m.pg
ncl:(m.cl.length:Int)=m.bl
ndc:(m.dc.length:Int)=m.bl
nbr:(m.br.length:Int)=m.bl
lim:∀b v,valV m.lim (Sum.inl b)=some v->∃n,v=.int n
nrc:m.rc.length<=1000000
section
variable{C c:Addr}{a:CA}{m:CM}{H H':Hp}
theorem ChipAt.ne(h:ChipAt C H c a m):c≠a.bo/\c≠a.cl/\c≠a.dc/\c≠a.br/\c≠a.rc:=by obtain⟨rs,e,_⟩:=h.rc;exact⟨jQ h.ins h.bo (by simp),jQ h.ins h.cl (by simp),jQ h.ins h.dc (by simp),jQ h.ins h.br (by simp),jQ h.ins e (by simp)⟩
theorem ChipAt.nel(h:ChipAt C H c a m):a.li≠c/\a.li≠a.bo/\a.li≠a.cl/\a.li≠a.dc/\a.li≠a.br/\a.li≠a.rc:=by obtain⟨rs,e,_⟩:=h.rc;exact⟨jQ h.li h.ins (by simp),jQ h.li h.bo (by simp),jQ h.li h.cl (by simp),jQ h.li h.dc (by simp),jQ h.li h.br (by simp),jQ h.li e (by simp)⟩
theorem ChipAt.dst(h:ChipAt C H c a m):(a.bo≠a.cl/\a.bo≠a.dc/\a.bo≠a.br/\a.bo≠a.rc)/\(a.cl≠a.dc/\a.cl≠a.br/\a.cl≠a.rc)/\(a.dc≠a.br/\a.dc≠a.rc)/\a.br≠a.rc:=by(
have:=h.nd
grind)
theorem ChipAt.keep{F:List Addr}(h:ChipAt C H c a m)(k:Keep F H H')(n:∀b∈a.li::foot c a,b∉F):ChipAt C H' c a m:=by obtain⟨rs,e,r⟩:=h.rc;exact⟨k.k _ _ (n _ (by simp[foot])) h.ins,k.k _ _ (n _ (by simp)) h.li,k.k _ _ (n _ (by simp[foot])) h.bo,k.k _ _ (n _ (by simp[foot])) h.cl,k.k _ _ (n _ (by simp[foot])) h.dc,k.k _ _ (n _ (by simp[foot])) h.br,⟨rs,k.k _ _ (n _ (by simp[foot])) e,r.keep k⟩,h.nd⟩
theorem ChipAt.same(h:ChipAt C H c a m)(s:Same H H'):ChipAt C H' c a m:=h.keep (F:=[]) (Keep.same s) (by simp)
theorem ChipAt.setLf(h:ChipAt C H c a m)(v:Option Int):ChipAt C (upd H c (.ins C a.dx (chF a { m with lf:=v }))) c a { m with lf:=v }:=by(
obtain⟨I,d,N,O,D⟩:=h.ne
obtain⟨J,_⟩:=h.nel
obtain⟨rs,e,r⟩:=h.rc
have k:Keep [c] H (upd H c (.ins C a.dx (chF a { m with lf:=v }))):=Keep.upd h.ins (λZ z=>by cases z) (by simp)
exact⟨qI,by rw[qE J];exact h.li,by rw[qE I.symm];exact h.bo,by rw[qE d.symm];exact h.cl,by rw[qE N.symm];exact h.dc,by rw[qE O.symm];exact h.br,⟨rs,by rw[qE D.symm];exact e,r.keep k⟩,h.nd⟩)
theorem ChipAt.setBo(h:ChipAt C H c a m)(v:List V):ChipAt C (upd H a.bo (.lst v)) c a { m with bo:=v }:=by(
obtain⟨I,n2,n3,n4,n5⟩:=h.ne
obtain⟨l0,J,S,l3,l4,Z⟩:=h.nel
obtain⟨⟨O,d,D,N⟩,⟨b1,b2,b3⟩,⟨c1,c2⟩,d1⟩:=h.dst
obtain⟨rs,e,r⟩:=h.rc
have k:Keep [a.bo] H (upd H _ (.lst v)):=Keep.upd h.bo (λd z=>by cases z) (by simp)
exact⟨by rw[qE I];exact h.ins,by rw[qE J];exact h.li,qI,by rw[qE O.symm];exact h.cl,by rw[qE d.symm];exact h.dc,by rw[qE D.symm];exact h.br,⟨rs,by rw[qE N.symm];exact e,r.keep k⟩,h.nd⟩)
theorem ChipAt.setCl(h:ChipAt C H c a m)(v:List Int):ChipAt C (upd H a.cl (.lst (v.map V.int))) c a { m with cl:=v }:=by(
obtain⟨n1,D,n3,n4,Z⟩:=h.ne
obtain⟨S,l1,d,l3,l4,O⟩:=h.nel
obtain⟨⟨I,J,N,a4⟩,⟨b1,b2,b3⟩,⟨c1,c2⟩,d1⟩:=h.dst
obtain⟨rs,e,r⟩:=h.rc
have k:Keep [a.cl] H (upd H _ (.lst (v.map V.int))):=Keep.upd h.cl (λd z=>by cases z) (by simp)
exact⟨by rw[qE D];exact h.ins,by rw[qE d];exact h.li,by rw[qE I];exact h.bo,qI,by rw[qE b1.symm];exact h.dc,by rw[qE b2.symm];exact h.br,⟨rs,by rw[qE b3.symm];exact e,r.keep k⟩,h.nd⟩)
theorem ChipAt.setDc(h:ChipAt C H c a m)(v:List Int):ChipAt C (upd H a.dc (.lst (v.map V.int))) c a { m with dc:=v }:=by(
obtain⟨n1,Z,D,n4,n5⟩:=h.ne
obtain⟨S,l1,N,I,l4,O⟩:=h.nel
obtain⟨⟨a1,d,J,a4⟩,⟨b1,b2,b3⟩,⟨c1,c2⟩,d1⟩:=h.dst
obtain⟨rs,e,r⟩:=h.rc
have k:Keep [a.dc] H (upd H _ (.lst (v.map V.int))):=Keep.upd h.dc (λd z=>by cases z) (by simp)
exact⟨by rw[qE D];exact h.ins,by rw[qE I];exact h.li,by rw[qE d];exact h.bo,by rw[qE b1];exact h.cl,qI,by rw[qE c1.symm];exact h.br,⟨rs,by rw[qE c2.symm];exact e,r.keep k⟩,h.nd⟩)
theorem ChipAt.addRc{p:Addr}{d:Str×Int×Bool}(h:ChipAt C H c a m)(e:H a.rc=some (.lst rs))(hp:H p=some (.tup [.str d.1,.int d.2.1,.bl d.2.2])):ChipAt C (upd H a.rc (.lst (rs++[.ref p]))) c a { m with rc:=m.rc++[d] }:=by(
obtain⟨n1,n2,n3,n4,J⟩:=h.ne
obtain⟨l0,l1,l2,l3,l4,I⟩:=h.nel
obtain⟨⟨a1,S,Z,N⟩,⟨b1,b2,b3⟩,⟨c1,c2⟩,d1⟩:=h.dst
obtain⟨O,D,r⟩:=h.rc
rw[e]at D
cases D
have k:Keep [a.rc] H (upd H a.rc (.lst (rs++[.ref p]))):=Keep.upd e (λd z=>by cases z) (by simp)
exact⟨by rw[qE J];exact h.ins,by rw[qE I];exact h.li,by rw[qE N];exact h.bo,by rw[qE b3];exact h.cl,by rw[qE c2];exact h.dc,by rw[qE d1];exact h.br,⟨_,qI,Paired.snoc (r.keep k) ⟨p,rfl,k.tp _ _ hp⟩⟩,h.nd⟩)
end
noncomputable def CM.deed(m:CM)(w:Str)(pl b:Int)(f:Bool):CM:={ m with lf:=m.lf.map (· - 1),dc:=m.dc.set b.toNat (m.dc.getD b.toNat 0+1),rc:=m.rc++[(w,pl,!f)],br:=if f then m.br.set b.toNat true else m.br }
noncomputable def clr(xs:List V)(i n:Nat):List V:=match n with
|0=>xs
|n+1=>(clr xs i n).set (i+n) .non
noncomputable def CM.new(bl pg mo:Int)(lim:List (Key×V)):CM:=⟨bl,pg,mo,lim,List.replicate (bl*pg).toNat .non,List.replicate bl.toNat 0,List.replicate bl.toNat 0,List.replicate bl.toNat false,none,[]⟩
theorem qJ0{x:V}(h:inB x lo hi=true):∃p,x=.int p/\lo<=p/\p<=hi:=by(
cases x with
|int p=>have h:(decide _&&decide _)=true:=h;rw[mQ]at h;exact⟨p,rfl,kP h.1,kP h.2⟩
|_=>cases h)
theorem qMA{m:CM}{p:Int}(ok:m.Ok)(p0:0<=p)(p1:p<=m.bl*m.pg-1):0<=p / m.pg/\p / m.pg<m.bl:=by have:=ok.pg1;exact⟨Int.ediv_nonneg p0 (by lia),Int.ediv_lt_of_lt_mul (by lia) (by lia)⟩
theorem lf0{m:CM}:decide (lfV m.lf=V.int 0)=decide (m.lf=some 0):=by(
cases e:m.lf with
|none=>rfl
|some i=>
 show decide (V.int i=V.int 0)=_;simp)
theorem qJ1{m:CM}:scal (lfV m.lf) (.int 0)=true:=by cases m.lf<;>rfl
theorem getB{m:CM}{b:Int}(h0:0<=b)(h:b<(m.br.length:Int)):atI (m.br.map V.bl) b=some (.bl (m.br.getD b.toNat false)):=by(
obtain⟨j,rfl⟩:=wV h0
refine zO ?_
simp_all)
theorem getI{xs:List Int}{b:Int}(h0:0<=b)(h:b<(xs.length:Int)):atI (xs.map V.int) b=some (.int (xs.getD b.toNat 0)):=by(
obtain⟨j,rfl⟩:=wV h0
refine zO ?_
simp_all)
theorem getV{xs:List V}{b:Int}(h0:0<=b)(h:b<(xs.length:Int)):atI xs b=some (xs.getD b.toNat .non):=by(
obtain⟨j,rfl⟩:=wV h0
refine zO ?_
simp_all)
theorem ixOk{n:Nat}{b:Int}(h0:0<=b)(h:b<(n:Int)):ixN n b=some b.toNat:=by unfold ixN;simp_all
theorem CM.Ok.deed{m:CM}(ok:m.Ok){w:Str}{b:Int}{f:Bool}(h:m.rc.length<1000000):(m.deed w pl b f).Ok:=by(
refine⟨ok.bl1,ok.bl2,ok.pg1,ok.pg2,ok.nbo,ok.ncl,?_,?_,ok.lim,?_⟩
.show((m.dc.set _ _).length)=m.bl;rw[gU];exact ok.ndc
.show(((if f then m.br.set _ _ else m.br)).length)=m.bl;cases f with
 |true=>rw[kD rfl,gU];exact ok.nbr
 |false=>exact ok.nbr
show(m.rc++[_]).length<=1000000
rw[mI,gF]
lia)
noncomputable def qJ2:Sp:=λvs H Q z=>∃x y,vs=[x,y]/\Knd H x/\Knd H y/\Q (.bl (inB x 2 16&&inB y 1 16)) H
theorem Paired.at{α β:Type}{F:α->β->Prop}:∀{l₁:List α} {l₂:List β} {i:Nat} {a:α},Paired F l₁ l₂->l₁[i]?=some a->∃b,l₂[i]?=some b/\F a b
|_,_,0,_,.cons r _,e=>by simp at e;subst e;exact⟨_,rfl,r⟩
|_,_,i+1,_,.cons _ t,e=>by have e2:=nQ.symm.trans e;obtain⟨b,h1,h2⟩:=Paired.at t e2;exact⟨b,nQ.trans h1,h2⟩
|_,_,_,_,.nil,e=>by simp at e
theorem q6Z(xs:List V)(i:Nat):∀n,(clr xs i n).length=xs.length
|0=>rfl
|n+1=>by show((clr xs i n).set (i+n) .non).length=xs.length;rw[gU,q6Z xs i n]
theorem qGH{bl:Int}(b1:2<=bl)(b2:bl<=16)(p1:1<=pg)(p2:pg<=16)(hl:∀b v,valV lim (Sum.inl b)=some v->∃n,v=V.int n):(CM.new bl pg mo lim).Ok:=by(
have h:0<=bl*pg:=lY (by lia) (by lia)
refine⟨b1,b2,p1,p2,?_,?_,?_,?_,hl,by show 0<=1000000;decide⟩
.show((List.replicate _ V.non).length:Int)=bl*pg;rw[gW];lia
.show((List.replicate _ (0:Int)).length:Int)=bl;rw[gW];lia
.show((List.replicate bl.toNat (0:Int)).length:Int)=bl;rw[gW];lia
show((List.replicate bl.toNat false).length:Int)=bl
rw[gW]
lia)
noncomputable def Up(x:Addr)(H H':Hp):Prop:=∀b o,b≠x->H b=some o->H' b=some o
section
variable{x C dx:Addr}{fs:List (Str×V)}{H H':Hp}
theorem Up.of{o:HO}(s:Same H H'):Up x H (upd H' x o):=λb u n e=>by rw[qE n];exact s b u e
theorem Up.free(u:Up x H H'){b:Addr}(n:b≠x)(e:H' b=none):H b=none:=by(
cases q:H b with
|none=>rfl
|some o=>rw[u b o n q]at e;lia)
end
end L2
namespace L2
open PySem PySem.Spec PyProof.Rows
noncomputable def tMid(t u:TS):TS:=λD σ H=>∃M:St->Hp->Prop,t { D with nx:=M } σ H/\∀σ' H',M σ' H'->u D σ' H'
noncomputable def qNN(t:TT):TT:=λσ H Q=>∃M:Bool->Hp->Prop,t σ H M/\∀b H',M b H'->Q b H'
noncomputable def qNO(t:TE):TE:=λσ H Q=>∃M:VK,t σ H M/\∀v H',M v H'->Q v H'
section
variable{X:Cx}{st:Stmt}{rest:List Stmt}{t u:TS}{e:Expr}{te:TE}{tt:TT}
theorem qA9(h1:PS X st t)(h2:PSs X rest u):PSs X (st::rest) (tMid t u):=by(
intro pins s σ H D I O
obtain⟨M,a,b⟩:=O
refine hX (thn (h1 _ s σ H _ I a) λf N z=>?_)
cases f with
|next=>obtain⟨d,H',J,q⟩:=z;exact h2 _ N d H' D J (b d H' q)
|brk=>exact kW z
|cont=>exact kW z
|ret v=>exact kW z)
theorem qGI(h:PT X e tt):PT X e (qNN tt):=λpins s σ H Q I ⟨M,a,b⟩=>thn (h _ s σ H M I a) λc s1 ⟨H',I',q⟩=>⟨H',I',b c H' q⟩
theorem qGJ(h:PE X e te):PE X e (qNO te):=λpins s σ H Q I ⟨M,a,b⟩=>thn (h _ s σ H M I a) λc s1 ⟨v,H',I',r,q⟩=>⟨v,H',I',r,b v H' q⟩
end
theorem zX{a b:Int}:decide (V.int a=V.int b)=decide (a=b):=by(
simp)
theorem uT(x n:Int)(h:0<n):0<=x%n/\x%n<n:=⟨aT _ (by lia),xN _ h⟩
section
variable{X:Cx}{pins:List (Addr×Obj)}{σ:St}{H:Hp}{s:Shared}{h':Heap}
theorem Inv.turnedN{t':Nat}{fp:List Addr}(I:Inv X pins σ H s)(k:∀b o,b∉fp->s.heap.get? b=some o->h'.get? b=some o)(hf:∀b∈fp,FpOk X pins H b):Inv X pins σ H { s with heap:=h',toks:=t' }:=by(
have D:∀b u,H b=some u->b∉fp:=λb u e z=>by rw[(hf b z).1]at e;lia
refine I.step    (λb hb=>?_) (λb o z z d e z=>k b o d e) (λb o z z d e z=>⟨o.slots,k b o d e⟩) (λz z z z n=>n)
 (λb o d e=>⟨o,k b o d e⟩) (λz z e=>e) (λz z z e=>e) (λb ps e=>⟨#[],by simp_all⟩) (λm hm=>?_) (λb u e=>?_) I.bare
.obtain⟨f0,N,f2,J,f4,O⟩:=hf b hb;exact⟨J,N,f4,O⟩
.obtain⟨o,es,S,Z,r⟩:=hm;exact⟨o,es,S,k _ o (λz=>(hf _ z).2.1 rfl) Z,r⟩
refine(I.hok b u e).stay (λc v d q=>k c v ?_ q) (λz q=>q) λZ Z q=>q
rcases d with z|z
.rw[z];exact D b u e
exact D c _ z)
end
end L2
namespace L2
open PySem
theorem q4U{x1}{p:Pos}{env:Env}:starEach (.Tuple es x1 p::rest) env=(false,eval (.Tuple es x1 p) env)::starEach rest env:=rfl
theorem qGK{p:Pos}{env:Env}:starEach (.List es p::rest) env=(false,eval (.List es p) env)::starEach rest env:=rfl
end L2
namespace L2
open PySem PySem.Spec PyProof.Rows
inductive Eqv(K:PySem.W.Frag)(H:Hp):Nat->V->V->Prop where
|flat {n:Nat} {x:V} (f:zW x=true):Eqv K H n x x
|lst {n:Nat} {a b:Addr} {xs ys:List V} (ha:SqL K H a xs) (hb:SqL K H b ys) (hl:xs.length=ys.length) (hi:∀(i:Nat) x y,xs[i]?=some x->ys[i]?=some y->Eqv K H n x y):Eqv K H (n+1) (.ref a) (.ref b)
|tup {n:Nat} {a b:Addr} {xs ys:List V} (ha:SqT K H a xs) (hb:SqT K H b ys) (hl:xs.length=ys.length) (hi:∀(i:Nat) x y,xs[i]?=some x->ys[i]?=some y->Eqv K H n x y):Eqv K H (n+1) (.ref a) (.ref b)
theorem qGL{x:V}(f:zW x=true):eqV x x=true:=by(
cases x with
|non=>rfl
|bl b=>cases b<;>rfl
|int i=>exact beq_self_eq_true i
|str z=>exact beq_self_eq_true z
|_=>assumption)
theorem zY{n:Nat}:(List.range n).all (λz=>true)=true:=by simp
section
variable{X:Cx}{pins:List (Addr×Obj)}{σ:St}{H:Hp}{s:Shared}
theorem Vals.atN(r:Vals xs us){j:Nat}(h:j<us.length):∃x,xs[j]?=some x/\RelV x us[j]:=by(
have e:xs[j]?=some (xs[j]'(by rw[r.length];exact h)):=kL _
obtain⟨u,d,ru⟩:=r.get e
rw[kL h]at d
cases d
exact⟨_,e,ru⟩)
theorem Eqv.at(I:Inv X pins σ H s){n:Nat}{y x:V}(h:Eqv X.K H n y x):∀{A:Around} {u v:Value},RelV y u->RelV x v->A.units+n<cLine->SeqAt.EqAt A s u v true:=by(
induction h with
|flat f=>intro A u v ru D _;have e:=qG0 (A:=A) (s:=s) ru D f f;rw[qGL f]at e;exact e
|@lst n a b xs ys ha hb hl hi ih=>
 intro A u v ru D hu;cases ru;cases D;by_cases d:a=b
 .subst d;exact lL _
 obtain⟨O,z,N,_⟩:=I.list ha;obtain⟨Z,r2,p2,_⟩:=I.list hb;have l1:=z.length;have l2:=r2.length;refine xO d ?_;have e:=SeqAt.RcAt.lists (A:=A) (e:=λz=>true) N.isList p2.isList (by simp;lia) (by lia) (λj h1 h2=>?_)
 .rw[zY]at e;exact e
 obtain⟨J,e1,S⟩:=z.atN (j:=j) (by simpa using h1);obtain⟨x2,e2,q2⟩:=r2.atN (j:=j) (by simpa using h2);exact ih j J x2 e1 e2 (by simpa using S) (by simpa using q2) (by show A.units+1+n<cLine;lia)
|@tup n a b xs ys ha hb hl hi ih=>
 intro A u v ru D hu;cases ru;cases D;by_cases d:a=b
 .subst d;exact lL _
 obtain⟨O,z,N,_⟩:=I.tuple ha;obtain⟨Z,r2,p2,_⟩:=I.tuple hb;have l1:=z.length;have l2:=r2.length;refine xO d ?_;have e:=SeqAt.RcAt.tuples (A:=A) (e:=λz=>true) (show s.heap.IsTuple a O.toArray from N) (show s.heap.IsTuple b Z.toArray from p2) (by lia) (λj h1 h2=>?_)
 .rw[zY,xF,show(O.toArray.size==Z.toArray.size)=true by simp;lia]at e;exact e
 obtain⟨J,e1,S⟩:=z.atN (j:=j) (by simpa using h1);obtain⟨x2,e2,q2⟩:=r2.atN (j:=j) (by simpa using h2);exact ih j J x2 e1 e2 (by simpa using S) (by simpa using q2) (by show A.units+1+n<cLine;lia))
theorem q9M{x:V}(f:zW x=true):scal x x=true:=by(
cases x with
|non=>rfl
|bl b=>rfl
|int i=>rfl
|str z=>rfl
|_=>exact absurd (show false=true from f) kX)
noncomputable def qKT(K:PySem.W.Frag)(r:Bool):R2:=λx y H Q=>Eqv K H 6 x y/\Q (.bl r) H
theorem qMB(hu:X.A.units+64<cLine):OpR X (compareOp .Eq) (qKT X.K true):=by(
intro pins s σ H x y v u Q I S O hZ
obtain⟨h,q⟩:=hZ
cases h with
|flat f=>exact zV pins s σ H x x v u Q I S O ⟨q9M f,by rw[hC rfl];exact q⟩
|@lst _ a b xs ys ha hb hl hi=>cases S;cases O;obtain⟨J,d,D,_⟩:=I.list ha;obtain⟨Z,r2,p2,_⟩:=I.list hb;have l1:=d.length;have l2:=r2.length;refine aU (e:=λz=>true) D.isList p2.isList (by simp;lia) (by lia) (λj h1 h2=>?_) ⟨.bl true,H,I,by rw[zY];rfl,q⟩;obtain⟨z,e1,N⟩:=d.atN (j:=j) (by simpa using h1);obtain⟨x2,e2,q2⟩:=r2.atN (j:=j) (by simpa using h2);exact(hi j z x2 e1 e2).at I (by simpa using N) (by simpa using q2) (by show X.A.units+1+5<cLine;lia)
|@tup _ a b xs ys ha hb hl hi=>cases S;cases O;obtain⟨J,d,D,_⟩:=I.tuple ha;obtain⟨Z,r2,p2,_⟩:=I.tuple hb;have l1:=d.length;have l2:=r2.length;refine SeqAt.eq_tupleAt (e:=λz=>true) (show s.heap.IsTuple a J.toArray from D) (show s.heap.IsTuple b Z.toArray from p2) (by lia) (λj h1 h2=>?_) ⟨.bl true,H,I,by rw[zY,xF,show(J.toArray.size==Z.toArray.size)=true by simp;lia];rfl,q⟩;obtain⟨z,e1,N⟩:=d.atN (j:=j) (by simpa using h1);obtain⟨x2,e2,q2⟩:=r2.atN (j:=j) (by simpa using h2);exact(hi j z x2 e1 e2).at I (by simpa using N) (by simpa using q2) (by show X.A.units+1+5<cLine;lia))
theorem qGM(hu:X.A.units+64<cLine):OpR X (compareOp .NotEq) (qKT X.K false):=by(
intro pins s σ H x y v u Q I S O hZ
obtain⟨h,q⟩:=hZ
cases h with
|flat f=>exact q68 pins s σ H x x v u Q I S O ⟨q9M f,by rw[hC rfl];exact q⟩
|@lst _ a b xs ys ha hb hl hi=>cases S;cases O;obtain⟨J,d,D,_⟩:=I.list ha;obtain⟨Z,r2,p2,_⟩:=I.list hb;have l1:=d.length;have l2:=r2.length;refine SeqAt.RcNeAt.lists (e:=λz=>true) D.isList p2.isList (by simp;lia) (by lia) (λj h1 h2=>?_) _ _ _ _ ⟨.bl false,H,I,by rw[zY];rfl,q⟩;obtain⟨z,e1,N⟩:=d.atN (j:=j) (by simpa using h1);obtain⟨x2,e2,q2⟩:=r2.atN (j:=j) (by simpa using h2);exact(hi j z x2 e1 e2).at I (by simpa using N) (by simpa using q2) (by show X.A.units+1+5<cLine;lia)
|@tup _ a b xs ys ha hb hl hi=>cases S;cases O;obtain⟨J,d,D,_⟩:=I.tuple ha;obtain⟨Z,r2,p2,_⟩:=I.tuple hb;have l1:=d.length;have l2:=r2.length;refine l9 (e:=λz=>true) (show s.heap.IsTuple a J.toArray from D) (show s.heap.IsTuple b Z.toArray from p2) (by lia) (λj h1 h2=>?_) _ _ _ _ ⟨.bl false,H,I,by rw[zY,xF,show(J.toArray.size==Z.toArray.size)=true by simp;lia];rfl,q⟩;obtain⟨z,e1,N⟩:=d.atN (j:=j) (by simpa using h1);obtain⟨x2,e2,q2⟩:=r2.atN (j:=j) (by simpa using h2);exact(hi j z x2 e1 e2).at I (by simpa using N) (by simpa using q2) (by show X.A.units+1+5<cLine;lia))
end
end L2
namespace L2
open PySem
theorem q9N{K:PySem.W.Frag}{n:Nat}{a b:Addr}(ha:SqT K H a xs)(hb:SqT K H b xs)(f:∀x∈xs,zW x=true):Eqv K H (n+1) (.ref a) (.ref b):=.tup ha hb rfl λi x y hx hy=>by  have e:=kU (hx.symm.trans hy);subst e;exact .flat (f x (gQ hx))
end L2
namespace L2
open PySem PySem.Spec PyProof.Rows
noncomputable def clOf(env:Env):List (Str×NameKind)->List (Str×Addr)->List (Str×Addr)
| [],cs=>cs
|(n,k)::r,cs=>clOf env r (if(k==NameKind.free)=true then(match env.cells.lookup n with|some a=>(n,a)::cs|none=>cs)else cs)
theorem q7O{scope:Scope}{env:Env}(h:∀y∈scope.names,y.2=.free->∃c,env.cells.lookup y.1=some c):closureFor scope env=pure (clOf env scope.names []):=by(
unfold closureFor
have go:∀(l:List (Str×NameKind)) (cs:List (Str×Addr)),(∀y∈l,y.2=.free->∃c,env.cells.lookup y.1=some c)->(forIn l cs λx r=>(match x with|(name,kind)=>if(kind==NameKind.free)=true then do let a<-cellOf env name;pure (ForInStep.yield ((name,a)::r))else pure (ForInStep.yield r):Sem (ForInStep (List (Str×Addr)))))=pure (clOf env l cs):=by
 intro l;induction l with
 |nil=>intro cs _;rfl
 |cons y r ih=>
  intro cs hl;obtain⟨n,k⟩:=y;rw[aV];by_cases hk:(k==NameKind.free)=true
  .obtain⟨c,e⟩:=hl (n,k) kY (by simpa using hk);have e2:cellOf env n=pure c:=by unfold cellOf;rw[e]
   show(bind (if(k==NameKind.free)=true then _ else _) _:Sem _)=_;rw[kD hk,e2];show(forIn r ((n,c)::cs) _:Sem _)=pure (clOf env r _);rw[kD hk,e];exact ih _ λy hy=>hl y (hG _ hy)
  show(bind (if(k==NameKind.free)=true then _ else _) _:Sem _)=_;rw[hU hk];show(forIn r cs _:Sem _)=pure (clOf env r (if(k==NameKind.free)=true then(match env.cells.lookup n with|some a=>(n,a)::cs|none=>cs)else cs));rw[hU hk];exact ih _ λy hy=>hl y (hG _ hy)
exact(dW (λz:Sem (List (Str×Addr))=>z >>= λs=>pure s) (go scope.names [] h)).trans rfl)
theorem q7P{env:Env}{x:Str}{c:Addr}:∀(l:List (Str×NameKind)) (cs:List (Str×Addr)),(cs.lookup x=some c->env.cells.lookup x=some c)->(clOf env l cs).lookup x=some c->env.cells.lookup x=some c
| [],cs,hcs,h=>hcs h
|(n,k)::r,cs,hcs,h=>by
 refine q7P r _ ?_ h;intro q;split at q
 .cases e:env.cells.lookup n with
  |none=>rw[e]at q;exact hcs q
  |some a=>
   rw[e]at q;have q:List.lookup x ((n,a)::cs)=some c:=q;rw[rK]at q;cases z:x==n with
   |true=>
    rw[z]at q;have z':x=n:=by simpa using z
    rw[z',e,<-q]
   |false=>rw[z]at q;exact hcs q
 exact hcs q
theorem q7Q{env:Env}{x:Str}{c:Addr}(e:env.cells.lookup x=some c):∀(l:List (Str×NameKind)) (cs:List (Str×Addr)),((x,NameKind.free)∈l\/cs.lookup x=some c)->(clOf env l cs).lookup x=some c
| [],cs,h=>h.resolve_left (by simp)
|(n,k)::r,cs,h=>by
 refine q7Q e r _ ?_;by_cases hn:(x==n)=true
 .have z':x=n:=by simpa using hn
  by_cases d:(k==NameKind.free)=true
  .refine .inr ?_;rw[kD d,<-z',e];show List.lookup x ((x,c)::cs)=some c;simp
  rcases h with h|h
  .rcases kM.mp h with q|q
   .cases q;exact absurd (by simp) d
   exact .inl q
  rw[hU d];exact .inr h
 have D:x≠n:=λz=>hn (by simp[z]);rcases h with h|h
 .rcases kM.mp h with q|q
  .cases q;exact absurd rfl D
  exact .inl q
 refine .inr ?_;split
 .cases en:env.cells.lookup n with
  |none=>exact h
  |some a=>
   show List.lookup x ((n,a)::cs)=some c;have hn:(x==n)=false:=by simpa using D
   rw[rK,hn];exact h
 exact h
theorem qBG{env:Env}{x:Str}:∀{names:List (Str×NameKind)},(∀y∈names,y.2≠ .cell)->((names.map λ(n,k)=>if(k==NameKind.free&&env.scope.kind== .function&&env.kindOf n==some .cell)then(n,NameKind.cell)else(n,k)).lookup x=some .cell\/(names.map λ(n,k)=>if(k==NameKind.free&&env.scope.kind== .function&&env.kindOf n==some .cell)then(n,NameKind.cell)else(n,k)).lookup x=some .free)->(x,NameKind.free)∈names
| [],_,h=>by simp at h
|(n,k)::r,hc,h=>by
 have ih:=@qBG env x r λy hy=>hc y (hG _ hy);rw[mV]at h;by_cases hq:(k==NameKind.free&&env.scope.kind== .function&&env.kindOf n==some .cell)=true
 .have hk:k=.free:=by rw[mQ,mQ]at hq;simpa using hq.1.1
  simp only[kD hq,rK]at h;cases hx:x==n with
  |true=>
   have e:x=n:=by simpa using hx
   rw[e,hk];exact kY
  |false=>simp only[hx]at h;exact hG _ (ih h)
 simp only[hU hq,rK]at h;cases hx:x==n with
 |true=>
  simp only[hx]at h;have e:x=n:=by simpa using hx
  rcases h with h|h
  .cases h;exact absurd rfl (hc _ kY)
  cases h;rw[e];exact kY
 |false=>simp only[hx]at h;exact hG _ (ih h)
theorem qBH{env:Env}{x:Str}(hk:env.scope.kind=.function)(he:env.kindOf x=some .cell):∀{names:List (Str×NameKind)},names.lookup x=some .free->(names.map λ(n,k)=>if(k==NameKind.free&&env.scope.kind== .function&&env.kindOf n==some .cell)then(n,NameKind.cell)else(n,k)).lookup x=some .cell
| [],h=>by simp at h
|(n,k)::r,h=>by
 have ih:=@qBH env x hk he r;rw[mV];rw[rK]at h;cases hx:x==n with
 |true=>
  simp only[hx]at h;have e:x=n:=by simpa using hx
  cases h;subst e;show List.lookup x ((if(NameKind.free==NameKind.free&&env.scope.kind==ScopeKind.function&&env.kindOf x==some NameKind.cell)=true then(x,NameKind.cell)else(x,NameKind.free))::_)=_;rw[kD (by rw[hk,he];rfl),rK];simp
 |false=>
  simp only[hx]at h;show List.lookup x ((if(k==NameKind.free&&env.scope.kind==ScopeKind.function&&env.kindOf n==some NameKind.cell)=true then(n,NameKind.cell)else(n,k))::_)=_;by_cases hq:(k==NameKind.free&&env.scope.kind== .function&&env.kindOf n==some .cell)=true
  .rw[kD hq,rK];simp only[hx];exact ih h
  rw[hU hq,rK];simp only[hx];exact ih h
noncomputable abbrev zC(X:Cx)(N:List Str)(scope:Scope)(C:Addr)(fp:List Addr)(s:Shared)(H:Hp)(xe:Value->Shared->Prop):Cx:={ X with N:=N,s₀:=s,H₀:=H,env:=compEnvC scope (clOf X.env scope.names []) C X.env,outer:=X.stack,ex:=fp,fn:=λz=>false,xe:=xe }
noncomputable def pick(ix:List Nat)(σ:St):St:=ix.map λi=>σ.getD i none
noncomputable def q9O(XN:List Str)(kd:Str->Option NameKind)(names:List (Str×NameKind))(N:List Str)(ix:List Nat):Bool:=(List.range ix.length).all λj=>match N[j]?,ix[j]? with
 |some x,some i=>decide (XN[i]?=some x)&&decide (names.lookup x=some .free)&&decide (kd x=some .cell)
 |_,_=>false
theorem qGN{XN:List Str}(h:q9O XN kd names N ix=true){j:Nat}(hj:j<ix.length){x:Str}(hx:N[j]?=some x):
 ∃i,ix[j]?=some i/\XN[i]?=some x/\names.lookup x=some .free/\kd x=some .cell:=by(
unfold q9O at h
rw[rL]at h
have q:=h j (mU.mpr hj)
rw[hx,kL hj]at q
simp only[mQ,mD]at q
exact⟨_,kL hj,q.1.1,q.1.2,q.2⟩)
theorem qJ3{s:Shared}(I:Inv X pins σ H s){scope:Scope}(hf:∀b∈fp,FpOk X pins H b)(ho:∀b∈fp,∃o,s.heap.get? b=some o)
 (hk:scope.kind=.function) (hc:∀y∈scope.names,y.2≠ .cell) (hfr:∀y∈scope.names,y.2=.free->X.env.kindOf y.1=some .cell) (hcap:q9O X.N X.env.kindOf scope.names N ix=true) (hN:ix.length<=N.length) {h₁:Heap} {tk n:Nat} {m:Str->Option Value}
 (hn:h₁.Ns (s.heap.objs.size+1) m) (hkp:∀b u,s.heap.get? b=some u->h₁.get? b=some u) (hD:h₁.get? s.heap.objs.size=some { cls:=.type "list",data:=.seq ([]:List Value).toArray n }):
 Inv (zC X N scope (s.heap.objs.size+1) fp s H xe) [] (pick ix σ++List.replicate (N.length-ix.length) none) (upd H s.heap.objs.size (.lst [])) { s with heap:=h₁,toks:=tk }:=by(
have fresh:H s.heap.objs.size=none:=I.hok.fresh (kO _)
have O:H (s.heap.objs.size+1)=none:=I.hok.fresh (dN _)
have J:∀x c,(clOf X.env scope.names []).lookup x=some c->X.env.cells.lookup x=some c:=λx c e=>q7P _ _ (by intro q;simp at q) e
have ab:∀x c,(clOf X.env scope.names []).lookup x=some c->c<s.heap.objs.size:=λx c e=>by obtain⟨v,q⟩:=I.cell x c (J x c e);exact q.lt
refine⟨⟨I.ok.mod,hk,I.ok.glob,I.ok.blt,dN _,λx y c h1 h2=>I.ok.inj x y c (J x c h1) (J y c h2),λx hx=>?_,λx c h=>absurd h kX,I.ok.hd,I.ok.frames,.inl rfl,λb S=>⟨?_,λx c e=>?_⟩,I.bs,mO I.ok.bsz I.sz,λb o e S=>?_,λb S z=>?_,I.stack,I.stkFree⟩,rfl,I.bare,Un.laid hkp (kO _) fresh,⟨m,hn,λi x v e1 D e3=>?_⟩,λx c e=>?_,?_,λx c e=>?_,λp hp=>?_,I.hok.laid hkp (kO _) ⟨by simp,[],n,.nil,hD⟩,?_⟩
.have hx:(x,NameKind.free)∈scope.names:=qBG hc hx;obtain⟨c,e⟩:=I.ok.has x (.inl (hfr _ hx rfl));exact⟨c,q7Q e _ _ (.inl hx)⟩
.obtain⟨o,e⟩:=ho b S;exact mY (rS (mE e))
.exact(hf b S).2.2.2.2.1 x c (J x c e)
.rcases(hf b S).2.2.2.1 with z|z
 .exact I.ok.noex b o e z
 exact absurd (mZ (mE e) (mO I.ok.bsz z)) (dX _)
.rcases kM.mp (I.stkSub b z)with z|z
 .exact(hf b S).2.1 z
 exact(hf b S).2.2.1 z
.have hi:i<ix.length:=by
  by_cases hi:i<ix.length
  .exact hi
  rw[dY (by simpa[pick]using hi),wU]at D;split at D<;>cases D
 obtain⟨Z,q1,q2,q3,q4⟩:=qGN hcap hi e1;rw[wH (by simpa[pick]using hi)]at D;have D:σ[Z]?=some (some v):=by
  unfold pick at D;rw[mM,q1]at D;have D:σ.getD Z none=some v:=kU D;rw[kN]at D;cases z:σ[Z]? with
  |none=>rw[z]at D;cases D
  |some y=>rw[z]at D;exact dW some D
 obtain⟨mX,_,lX⟩:=I.loc;obtain⟨u,r,l⟩:=lX Z x v q2 D (.inr (.inl q4));refine⟨u,r,.inr ⟨.inl (qBH I.ok.kind q4 q3),?_⟩⟩;rcases l with⟨l,_⟩|⟨_,c,e,z⟩
 .rw[q4]at l;cases l
 obtain⟨o,e',d⟩:=z;exact⟨c,q7Q e _ _ (.inl (dC q3)),o,hkp _ _ e',d⟩
.obtain⟨v,o,e',d⟩:=I.cell x c (J x c e);exact⟨v,o,hkp _ _ e',d⟩
.show upd H s.heap.objs.size (.lst []) (s.heap.objs.size+1)=none;rw[qE (rZ (rG _))];exact O
.rw[qE (mY (ab x c e))];exact I.freeC x c (J x c e)
.obtain⟨p1,p2,p3,p4,p5⟩:=I.pin p (gG _ (by simpa using hp));have lt:=mE p1;exact⟨hkp _ _ p1,by rw[qE (mY lt)];exact p2,mY (rS lt),λz=>(kM.mp (I.stkSub _ z)).elim p3 p4,p5⟩
show _=N.length
rw[mI,gW]
simp only[pick,kI]
lia)
noncomputable def PIf(X:Cx)(ifs:List Expr)(t:TT):Prop:=∀(pins:List (Addr×Obj)) (s:Shared) (σ:St) (H:Hp) (Q:Bool->Hp->Prop),Inv X pins σ H s->t σ H Q->wpAny (model X.prog X.w) X.A (forIn ifs true λc r=>if r=true then do let ok<-isTrue c X.env (eval c X.env);pure (ForInStep.yield ok)else pure (ForInStep.yield r)) (TP X pins σ Q) X.xe s
noncomputable def qBI:TT:=λz H Q=>Q true H
theorem qGO{A B:Hp->Prop}{σ:St}{H:Hp}(h:A H):qBI σ H (λb H6=>if b=true then A H6 else B H6):=by assumption
theorem qDQ:PIf X [] qBI:=λpins s σ H Q I h=>kW ⟨H,I,h⟩
theorem uM{c:Expr}{t:TT}(hc:PT X c t):PIf X [c] t:=λpins s σ H Q I h=>by(
rw[aV]
refine hX (hX (thn (hc _ s σ H Q I h) λb s1 q=>?_))
exact kW (kW q))
noncomputable def tLC(wi:TI)(g:TG)(tc:TT)(te:TE)(ix:List Nat)(k:Nat):TE:=λσ H Q=>wi σ H λJ H1=>∀D H2,H1 D=none->Same H1 H2->H2 D=some (.lst [])->∃W:Nat->Nat->Hp->Prop,(∃m,W 0 m H2)/\∀i m H3,W i m H3->(J.stop i H3/\Q (.ref D) H3)\/(J.go i H3/\∃N:Hp->Prop,(∀H',N H'->∃m',m'<m/\W (i+1) m' H')/\∀x H4,J.yld i H3 x H4->g x (pick ix σ++List.replicate k none) H4 λσ5 H5=>tc σ5 H5 λb H6=>
   if b=true then te σ5 H6 (λv H7=>∃vs,H7 D=some (.lst vs)/\vs.length<sizeLine/\N (upd H7 D (.lst (vs++[v]))))else N H6)
noncomputable def Own(g:TG)(k:Nat):Prop:=∀x σ H Q,g x σ H Q->g x σ H λσ' H'=>Q σ' H'/\σ'.length=σ.length/\∀j,j<k->σ'[j]?=σ[j]?
noncomputable def OwnS(g:TGs)(k:Nat):Prop:=∀(xs:List V) (σ:St) (H:Hp) (Q:St->Hp->Prop) (σ0:St),σ.length=σ0.length->(∀j,j<k->σ[j]?=σ0[j]?)->g xs σ H Q->g xs σ H λσ' H'=>Q σ' H'/\σ'.length=σ0.length/\∀j,j<k->σ'[j]?=σ0[j]?
theorem qJ4{k:Nat}:OwnS gNil k:=λxs σ H Q σ0 h1 h2 ⟨e,q⟩=>⟨e,q,h1,h2⟩
theorem qBJ{i k:Nat}(h:k<=i)(hu:OwnS u k):OwnS (qKO (q3N i) u) k:=λxs σ H Q σ0 h1 h2 ⟨v,r,e,q⟩=>⟨v,r,e,hu r _ H Q σ0 (gU.trans h1) (λj hj=>by rw[cN (by lia)];exact h2 j hj) q⟩
theorem qJ5{K:PySem.W.Frag}{n k:Nat}(h:OwnS g k):Own (gTup K n g) k:=λx σ H Q ⟨a,xs,e1,e2,e3,q⟩=>⟨a,xs,e1,e2,e3,h xs σ H Q σ rfl (λz z=>rfl) q⟩
theorem yL{i k:Nat}(h:k<=i):Own (q3N i) k:=λx σ H Q q=>⟨q,gU,λj hj=>by rw[cN (by lia)]⟩
theorem qJ6{P:Program}{w:World}{s:Shared}{env:Env}(J:Nat->Shared->Prop)
 (turn:∀n s1,J n s1->wpAny (model P w) A (pyNext it) (λr s2=>match r with
  |none=>R (.ok .next) s2
  |some v=>wpAny (model P w) A (letOwnedTupleGo tg it v) (λZ s3=>wpAny (model P w) A (assign tg env v) (λZ s4=>
   wpAny (model P w) A (forIn ifs true λc r=>if r=true then do let ok<-isTrue c env (eval c env);pure (ForInStep.yield ok)else pure (ForInStep.yield r)) (λok s5=>
    if ok=true then wpAny (model P w) A (eval elt env) (λx s6=>wpAny (model P w) A (call (.builtin "list.append") [acc,x]) (λZ s7=>∃m,m<n/\J m s7) (notedBy (model P w) A env λe s'=>R (.error e) s') s6) (notedBy (model P w) A env λe s'=>R (.error e) s') s5
    else ∃m,m<n/\J m s5) (notedBy (model P w) A env λe s'=>R (.error e) s') s4) (notedBy (model P w) A env λe s'=>R (.error e) s') s3) (notedBy (model P w) A env λe s'=>R (.error e) s') s2) (notedBy (model P w) A env λe s'=>R (.error e) s') s1)
 (n:Nat) (h:J n s):codeAny (model P w) A (.compLoop (.ListComp elt [⟨tg,iter,ifs,0⟩] sc pos) 0 it acc env) R s:=by(
refine codeAny_loop rfl J (λm s1 I=>?_) n h
show wpAny _ A ((compTurn _ 0 it acc env).onRaise (λx=>do noteFrame x env;theTreesLotGoes x)) _ _ s1
refine wpAny_noted ?_
rw[compTurn_list]
refine hX (nL (hX (thn (turn m s1 I) λr s2 h2=>?_)))
cases r with
|none=>exact kW h2
|some v=>
 refine hX (thn h2 λZ s3 z=>hX (thn z λZ s4 N=>hX (thn N λok s5 d=>?_)));cases ok with
 |false=>exact kW ⟨rfl,d⟩
 |true=>exact hX (hX (thn d λx s6 D=>hX (thn D λZ s7 O=>kW (kW ⟨rfl,O⟩)))))
structure TurnC(ok:Cx->Prop)(P:Program)(w:World)(K:PySem.W.Frag)(tg:Expr)(J:It)(fp:List Addr)(it:Addr)(tn:Nat->Heap->Prop):Prop where
obj:∀i h,tn i h->∀b∈fp,∃o,h.get? b=some o/\∀v,o.data≠ .cell v
keep:∀i h h',tn i h->(∀b∈fp,∀o,h.get? b=some o->h'.get? b=some o)->tn i h'
item:∀(X:Cx),X.prog=P->X.w=w->X.K=K->ok X->∀(i:Nat) (pins:List (Addr×Obj)) (s:Shared) (σ:St) (H:Hp) (E:Value->Shared->Prop),Inv X pins σ H s->(∀b∈fp,FpOk X pins H b)->tn i s.heap->J.go i H->wpAny (model P w) X.A (pyNext (.ref it)) (λr s1=>∃u,r=some u/\wpAny (model P w) X.A (letOwnedTupleGo tg (.ref it) u) (λ_ s2=>∃x H',Inv X pins σ H' s2/\RelV x u/\J.yld i H x H'/\tn (i+1) s2.heap/\∀b∈fp,H' b=none) E s1) E s
done:∀(X:Cx),X.prog=P->X.w=w->X.K=K->ok X->∀(i:Nat) (pins:List (Addr×Obj)) (s:Shared) (σ:St) (H:Hp) (E:Value->Shared->Prop),Inv X pins σ H s->(∀b∈fp,FpOk X pins H b)->tn i s.heap->J.stop i H->wpAny (model P w) X.A (pyNext (.ref it)) (λr s1=>r=none/\Inv X pins σ H s1) E s
self:∀(A:Around) (i:Nat) (s:Shared) (Q:Value->Shared->Prop) (E:Value->Shared->Prop),tn i s.heap->Q (.ref it) s->wpAny (model P w) A (pyIter (.ref it)) Q E s
noncomputable def PIc(ok:Cx->Prop)(X:Cx)(tg iter:Expr)(wi:TI):Prop:=∀(pins:List (Addr×Obj)) (s:Shared) (σ:St) (H:Hp) (R:It->Hp->Prop),Inv X pins σ H s->wi σ H R->wpAny (model X.prog X.w) X.A (eval iter X.env) (λv s1=>wpAny (model X.prog X.w) X.A (pyIter v) (λitv s2=>∃(it:Addr) (fp:List Addr) (tn:Nat->Heap->Prop) (J:It) (H':Hp),itv=.ref it/\Inv X pins σ H' s2/\TurnC ok X.prog X.w X.K tg J fp it tn/\tn 0 s2.heap/\(∀b∈fp,FpOk X pins H' b)/\R J H') X.xe s1) X.xe s
theorem PI.c(h:PI X tg iter wi):PIc (λX=>X.calm=true) X tg iter wi:=λpins s σ H R I q=>thn (h _ s σ H R I q) λv s1 h1=>thn h1 λitv s2 ⟨it,fp,tn,J,H',a,b,T,r⟩=>⟨it,fp,tn,J,H',a,b,⟨T.obj,T.keep,T.item,T.done,T.self⟩,r⟩
theorem qDR{s:Shared}(N:List Str)(ix:List Nat)(ok:Cx->Prop)(hok:∀C fp s H xe,ok (zC X N scope C fp s H xe))(hi:PIc ok X tg iter wi)
 (hg:∀C fp s H xe,PG (zC X N scope C fp s H xe) tg g) (hif:∀C fp s H xe,PIf (zC X N scope C fp s H xe) ifs tc) (he:∀C fp s H xe,PE (zC X N scope C fp s H xe) elt te)
 (hk:scope.kind=.function) (hc:∀y∈scope.names,y.2≠ .cell) (hfr:∀y∈scope.names,y.2=.free->X.env.kindOf y.1=some .cell) (hcap:q9O X.N X.env.kindOf scope.names N ix=true) (hN:ix.length<=N.length)
 (hnames:∀x∈scope.names,x.2=.local->scope.names.lookup x.1=some .local) (hown:Own g ix.length) (I:Inv X pins σ H s) (h:tLC wi g tc te ix (N.length-ix.length) σ H Q)
 (hfin:∀(C D:Addr) (H':Hp) (s':Shared) (m:Str->Option Value),s'.heap.Ns C m->FpOk X pins H' C->(∀h',Heap.SameBut C s'.heap h'->Inv X pins σ H' { s' with heap:=h' })->Q (.ref D) H'->compPost (model X.prog X.w) X.A X.xe use QQ (.ref D) C (.ok .next) s')
 (hs:∀x,foldedSetIterable iter X.env x=pure x:=by intro _;rfl):
 wpAny (model X.prog X.w) X.A (comprehension (.ListComp elt [⟨tg,iter,ifs,0⟩] scope pos) scope X.env cp (newList []) false (eval iter X.env) use) QQ X.xe s:=by(
refine wpAny_comprehension_free (use:=use) (cl:=clOf X.env scope.names []) rfl hs (q7O λy hy be=>I.ok.has _ (.inl (hfr y hy be))) hk hnames (thn (hi pins s σ H _ I h) λv s1 h1=>thn h1 λb7 O h2=>?_)
obtain⟨it,fp,tn,J,H2,e,I2,T,am,f2,q2⟩:=h2
subst e
refine wL (lZ hc (by intro y hy;simp at hy) (λa9 ac Z=>?_) hk)
dsimp only at ac Z ⊢
rw[sR]at ac Z ⊢
have al:∀b o,O.heap.get? b=some o->a9.get? b=some o:=λb o e=>Z.extBut b o (mY (rS (mE e))) (kJ _ (kJ _ e))
have a0:a9.get? O.heap.objs.size=some { cls:=.type "list",data:=.seq ([]:List Value).toArray }:=Z.extBut _ _ (mY (rG _)) (kJ _ (mW _ rfl))
have aj:∀b∈fp,∃o,O.heap.get? b=some o:=λb S=>let⟨o,e,_⟩:=T.obj _ _ am b S;⟨o,e⟩
have fresh:H2 O.heap.objs.size=none:=I2.hok.fresh (kO _)
obtain⟨W,⟨m0,w0⟩,turn⟩:=q2 O.heap.objs.size (upd H2 O.heap.objs.size (.lst [])) fresh (Same.upd fresh) qI
have fin:∀{pY σ' H' s'},Inv (zC X N scope (O.heap.objs.size+1) fp O H2 (notedBy (model X.prog X.w) X.A (compEnvC scope (clOf X.env scope.names []) (O.heap.objs.size+1) X.env) λe s'=>compPost (model X.prog X.w) X.A X.xe use QQ (.ref O.heap.objs.size) (O.heap.objs.size+1) (.error e) s')) pY σ' H' s'->Q (.ref O.heap.objs.size) H'->compPost (model X.prog X.w) X.A X.xe use QQ (.ref O.heap.objs.size) (O.heap.objs.size+1) (.ok .next) s':=fun {pY σ' H' s'} J q=>by
 obtain⟨m,hm,_⟩:=id J.loc;refine hfin (O.heap.objs.size+1) O.heap.objs.size H' s' m hm (I2.fpOk (dN _) J.free) (λh' sb=>?_) q;have eb:∀b o,b≠O.heap.objs.size+1->s'.heap.get? b=some o->h'.get? b=some o:=λb o nb e=>sb.extBut b o nb e;have an:∀b o,O.heap.get? b=some o->b≠O.heap.objs.size+1:=λb o e=>mY (rS (mE e));have u:=J.base;have nC:H' (O.heap.objs.size+1)=none:=J.free;refine I2.call' (ch:=fp) (s':={ s' with heap:=h' }) J.os ⟨λb o e n1 n2 n3=>eb b o (an b o e) (u.keep b o e n1 n2 n3),λb o e n1 n2 n3=>?_,u.free,λb o e n1=>?_,u.tups,u.frzs,u.tbls⟩ (λb o e=>?_) J.bare λb S=>⟨(f2 b S).2.2.2.1,(f2 b S).2.1,(f2 b S).2.2.2.2.1,(f2 b S).2.2.2.2.2⟩
 .obtain⟨sl,q1⟩:=u.slot b o e n1 n2 n3;exact⟨sl,eb b _ (an b o e) q1⟩
 .obtain⟨o',q1⟩:=u.there b o e n1;exact⟨o',eb b _ (an b o e) q1⟩
 refine(J.hok b o e).stay (λc v hc q1=>eb c v ?_ q1) (λz q1=>q1) λ_ _ q1=>q1;rcases hc with rfl|z
 .exact qH e nC
 exact qH z nC
have IY:Inv (zC X N scope (O.heap.objs.size+1) fp O H2 (notedBy (model X.prog X.w) X.A (compEnvC scope (clOf X.env scope.names []) (O.heap.objs.size+1) X.env) λe s'=>compPost (model X.prog X.w) X.A X.xe use QQ (.ref O.heap.objs.size) (O.heap.objs.size+1) (.error e) s')) [] (pick ix σ++List.replicate (N.length-ix.length) none) (upd H2 O.heap.objs.size (.lst [])) { O with heap:=a9,toks:=O.toks+([]:List (Str×Value)).length }:=qJ3 I2 f2 aj hk hc hfr hcap hN ac al a0
generalize hY:zC X N scope (O.heap.objs.size+1) fp O H2 (notedBy (model X.prog X.w) X.A (compEnvC scope (clOf X.env scope.names []) (O.heap.objs.size+1) X.env) λe s'=>compPost (model X.prog X.w) X.A X.xe use QQ (.ref O.heap.objs.size) (O.heap.objs.size+1) (.error e) s')=Y at IY fin
have bi:PG Y tg g:=hY▸hg _ _ _ _ _
have au:PIf Y ifs tc:=hY▸hif _ _ _ _ _
have bh:PE Y elt te:=hY▸he _ _ _ _ _
have hP:Y.prog=X.prog:=by rw[<-hY]
have hw:Y.w=X.w:=by rw[<-hY]
have hK:Y.K=X.K:=by rw[<-hY]
have aw:ok Y:=hY▸hok _ _ _ _ _
have ab:∀{H':Hp},(∀b∈fp,H' b=none)->∀b∈fp,FpOk Y [] H' b:=fun {H'} hn b S=>by
 rw[<-hY];refine⟨hn b S,?_,λz=>?_,.inl S,λx c e=>?_,λp hp=>(f2 b S).2.2.2.2.2 p (gG _ (by simpa using hp))⟩
 .obtain⟨o,e⟩:=aj b S;exact mY (rS (mE e))
 .rcases kM.mp (I2.stkSub b z)with z|z
  .exact(f2 b S).2.1 z
  exact(f2 b S).2.2.1 z
 exact(f2 b S).2.2.2.2.1 x c (q7P _ _ (by intro q;simp at q) e)
have ah:codeAny (model X.prog X.w) X.A (.compLoop (.ListComp elt [⟨tg,iter,ifs,0⟩] scope pos) 0 (.ref it) (.ref O.heap.objs.size) (compEnvC scope (clOf X.env scope.names []) (O.heap.objs.size+1) X.env))
 (compPost (model X.prog X.w) X.A X.xe use QQ (.ref O.heap.objs.size) (O.heap.objs.size+1)) { O with heap:=a9,toks:=O.toks+([]:List (Str×Value)).length }:=by
 refine qJ6 (λn s'=>∃i H',Inv Y [] (pick ix σ++List.replicate (N.length-ix.length) none) H' s'/\tn i s'.heap/\(∀b∈fp,H' b=none)/\W i n H') ?_ m0
  ⟨0,_,IY,T.keep _ _ _ am (λb S o e=>al b o e),λb S=>by obtain⟨o,e⟩:=aj b S;rw[qE (mY (mE e))];exact(f2 b S).1,w0⟩
 rintro n s3 ⟨i,H3,I3,az,a1,w3⟩
 rcases turn i n H3 w3 with⟨stop,qn⟩|⟨go,NN,hNN,step⟩
 .have d:=T.done Y hP hw hK aw i [] s3 _ H3 Y.xe I3 (ab a1) az stop;subst hY;refine thn d λr s4 hZ=>?_;obtain⟨hr,I4⟩:=hZ;subst hr;exact fin I4 qn
 have d:=T.item Y hP hw hK aw i [] s3 _ H3 Y.xe I3 (ab a1) az go;have ae:∀{p5:List (Addr×Obj)} {s5 s8:Shared} {ai:St} {H8:Hp},p5=q7F fp s5.heap->tn (i+1) s5.heap->ai.length=(pick ix σ++List.replicate (N.length-ix.length) none).length->(∀j,j<ix.length->ai[j]?=(pick ix σ++List.replicate (N.length-ix.length) none)[j]?)->Inv Y ([]++p5) ai H8 s8->NN H8->∃m',m'<n/\∃i H',Inv Y [] (pick ix σ++List.replicate (N.length-ix.length) none) H' s8/\tn i s8.heap/\(∀b∈fp,H' b=none)/\W i m' H':=fun {p5 s5 s8 ai H8} e5 aa l6 k6 I8 q8=>by
  subst e5;obtain⟨m',hm,w8⟩:=hNN _ q8;refine⟨m',hm,i+1,H8,I8.unpinned.weak l6.symm (λj v e=>?_),T.keep _ _ _ aa λb S o e=>(I8.pin (b,o) (mC _ (mC _ (yI S e)))).1,λb S=>?_,w8⟩
  .by_cases hj:j<ix.length
   .rw[k6 j hj];exact e
   rw[dY (by simpa[pick]using hj),wU]at e;split at e<;>cases e
  obtain⟨o,e,_⟩:=T.obj _ _ aa b S;exact(I8.pin (b,o) (mC _ (mC _ (yI S e)))).2.1
 have a2:∀(r:Option Value) (s4:Shared),(∃u,r=some u/\wpAny (model Y.prog Y.w) Y.A (letOwnedTupleGo tg (.ref it) u) (λz O=>∃x H',Inv Y [] (pick ix σ++List.replicate (N.length-ix.length) none) H' O/\RelV x u/\J.yld i H3 x H'/\tn (i+1) O.heap/\∀b∈fp,H' b=none) Y.xe s4)->(match r with
  |none=>compPost (model X.prog X.w) X.A X.xe use QQ (.ref O.heap.objs.size) (O.heap.objs.size+1) (.ok .next) s4
  |some v=>wpAny (model Y.prog Y.w) Y.A (letOwnedTupleGo tg (.ref it) v) (λz ci=>wpAny (model Y.prog Y.w) Y.A (assign tg Y.env v) (λz cw=>
   wpAny (model Y.prog Y.w) Y.A (forIn ifs true λc r=>if r=true then do let ok<-isTrue c Y.env (eval c Y.env);pure (ForInStep.yield ok)else pure (ForInStep.yield r)) (λok bj=>
    if ok=true then wpAny (model Y.prog Y.w) Y.A (eval elt Y.env) (λx cr=>wpAny (model Y.prog Y.w) Y.A (call (.builtin "list.append") [.ref O.heap.objs.size,x]) (λz b0=>∃m,m<n/\∃i H',Inv Y [] (pick ix σ++List.replicate (N.length-ix.length) none) H' b0/\tn i b0.heap/\(∀b∈fp,H' b=none)/\W i m H') Y.xe cr) Y.xe bj
    else ∃m,m<n/\∃i H',Inv Y [] (pick ix σ++List.replicate (N.length-ix.length) none) H' bj/\tn i bj.heap/\(∀b∈fp,H' b=none)/\W i m H') Y.xe cw) Y.xe ci) Y.xe s4):=by
  rintro r s4 ⟨u,rfl,h4⟩
  dsimp only;refine thn h4 λ_ s5 hZ=>?_;obtain⟨x,H5,I5,r5,y5,aa,bb⟩:=hZ;have ba:=I5.pinned (ab bb) (T.obj _ _ aa);refine thn (bi _ s5 _ H5 x u _ ba r5 (hown _ _ _ _ (step x H5 y5))) λ_ s6 hZ=>?_;obtain⟨ai,H6,I6,q6,l6,k6⟩:=hZ;refine thn (au _ s6 ai H6 _ I6 q6) λb s7 hZ=>?_;obtain⟨H7,I7,q7⟩:=hZ;cases b with
  |false=>rw[hU (by decide)]at q7 ⊢;exact ae rfl aa l6 k6 I7 q7
  |true=>rw[kD rfl]at q7 ⊢;refine thn (bh _ s7 ai H7 _ I7 q7) λy s8 hZ=>?_;obtain⟨v,H8,I8,r8,vs,e8,hz,q8⟩:=hZ;refine thn (q13 (X:=Y) _ s8 ai H8 (.ref O.heap.objs.size) [v] (.ref O.heap.objs.size) [y] (λz H9=>NN H9) I8 rfl (.cons r8 .nil) ⟨O.heap.objs.size,vs,v,rfl,rfl,e8,hz,q8⟩) λ_ s9 hZ=>?_;obtain⟨_,H9,I9,_,q9⟩:=hZ;exact ae rfl aa l6 k6 I9 q9
 subst hY;exact thn d a2
exact codeAny_compStart_list ah (T.self X.A 0 _ _ _ (T.keep _ _ _ am λb S o e=>al b o e) ah))
theorem qNP{X:Cx}(N:List Str)(ix:List Nat)(hcalm:X.calm=true)(hi:PI X tg iter wi)
 (hg:∀C fp s H xe,PG (zC X N scope C fp s H xe) tg g) (hif:∀C fp s H xe,PIf (zC X N scope C fp s H xe) ifs tc) (he:∀C fp s H xe,PE (zC X N scope C fp s H xe) elt te)
 (hk:scope.kind=.function) (hc:∀y∈scope.names,y.2≠ .cell) (hfr:∀y∈scope.names,y.2=.free->X.env.kindOf y.1=some .cell) (hcap:q9O X.N X.env.kindOf scope.names N ix=true) (hN:ix.length<=N.length)
 (hnames:∀x∈scope.names,x.2=.local->scope.names.lookup x.1=some .local) (hown:Own g ix.length) (hs:∀x,foldedSetIterable iter X.env x=pure x:=by intro _;rfl):
 PE X (.ListComp elt [⟨tg,iter,ifs,0⟩] scope pos) (tLC wi g tc te ix (N.length-ix.length)):=by intro pins s σ H Q I h;exact qDR N ix _ (λZ Z Z Z Z=>hcalm) hi.c hg hif he hk hc hfr hcap hN hnames hown I h (λC D H' s' m J O d q=>⟨m,J,λh' z=>⟨.ref D,H',d h' z,rfl,q⟩⟩) hs
noncomputable def qDS(XN:List Str)(kd:Str->Option NameKind)(sc:Scope)(N:List Str)(ix:List Nat):Bool:=decide (sc.kind=.function)&&sc.names.all (λy=>decide (y.2≠ .cell)&&(decide (y.2≠ .free)||decide (kd y.1=some .cell))&&(decide (y.2≠ .local)||decide (sc.names.lookup y.1=some .local)))&&q9O XN kd sc.names N ix&&decide (ix.length<=N.length)
theorem vA{X:Cx}(N:List Str)(ix:List Nat)(hcalm:X.calm=true)(hi:PI X tg iter wi)
 (hg:∀C fp s H xe,PG (zC X N scope C fp s H xe) tg g) (hif:∀C fp s H xe,PIf (zC X N scope C fp s H xe) ifs tc) (he:∀C fp s H xe,PE (zC X N scope C fp s H xe) elt te)
 (ok:qDS X.N X.env.kindOf scope N ix=true) (hown:Own g ix.length) (hs:∀x,foldedSetIterable iter X.env x=pure x:=by intro _;rfl):
 PE X (.ListComp elt [⟨tg,iter,ifs,0⟩] scope pos) (tLC wi g tc te ix (N.length-ix.length)):=by(
unfold qDS at ok
rw[mQ,mQ,mQ,rL]at ok
obtain⟨⟨⟨h1,h2⟩,h3⟩,h4⟩:=ok
have d:∀y∈scope.names,y.2≠ .cell/\(y.2≠ .free\/X.env.kindOf y.1=some _)/\(y.2≠ .local\/scope.names.lookup y.1=some _):=λy D=>by have q:=h2 y D;rw[mQ,mQ,cF,cF,mD,mD,mD,mD,mD]at q;exact⟨q.1.1,q.1.2,q.2⟩
exact qNP N ix hcalm hi hg hif he (kP h1) (λy D=>(d y D).1) (λy D e=>(d y D).2.1.resolve_left (λz=>z e)) h3 (kP h4) (λy D e=>(d y D).2.2.resolve_left (λz=>z e)) hown hs)
theorem qBK{lo:Int}{n:Nat}{D:Addr}{H2:Hp}{g:TG}{tc:TT}{te:TE}{σ0:St}{Q:VK}(Pv:Nat->Hp->Prop)(h0:Pv 0 H2)
 (hs:∀(i:Nat) H,i<n->Pv i H->g (.int (lo+i)) σ0 H λσ5 H5=>tc σ5 H5 λb H6=>if b=true then te σ5 H6 (λv H7=>∃vs,H7 D=some (.lst vs)/\vs.length<sizeLine/\Pv (i+1) (upd H7 D (.lst (vs++[v]))))else Pv (i+1) H6) (hd:∀H,Pv n H->Q (.ref D) H):
 ∃W:Nat->Nat->Hp->Prop,(∃m,W 0 m H2)/\∀i m H3,W i m H3->((Itr lo n).stop i H3/\Q (.ref D) H3)\/((Itr lo n).go i H3/\∃N:Hp->Prop,(∀H',N H'->∃m',m'<m/\W (i+1) m' H')/\∀x H4,(Itr lo n).yld i H3 x H4->g x σ0 H4 λσ5 H5=>tc σ5 H5 λb H6=>
   if b=true then te σ5 H6 (λv H7=>∃vs,H7 D=some (.lst vs)/\vs.length<sizeLine/\N (upd H7 D (.lst (vs++[v]))))else N H6):=by(
refine⟨λi m H=>m=n-i/\i<=n/\Pv i H,⟨n,by simp,m9 _,h0⟩,?_⟩
rintro i m H ⟨rfl,hi,p⟩
by_cases d:i<n
.refine .inr ⟨d,Pv (i+1),λH' z=>⟨n-(i+1),by lia,rfl,by lia,z⟩,?_⟩;rintro x H4 ⟨rfl,rfl⟩
 exact hs i _ d p
obtain rfl:i=n:=by lia
exact .inl ⟨kO _,hd _ p⟩)
theorem qDT{K:PySem.W.Frag}{a:Addr}{xs:List V}{D:Addr}{H2:Hp}{g:TG}{tc:TT}{te:TE}{σ0:St}{Q:VK}(Pv:Nat->Hp->Prop)(h0:Pv 0 H2)(hl:∀i H,Pv i H->SqL K H a xs)
 (hs:∀(i:Nat) x H,xs[i]?=some x->Pv i H->g x σ0 H λσ5 H5=>tc σ5 H5 λb H6=>if b=true then te σ5 H6 (λv H7=>∃vs,H7 D=some (.lst vs)/\vs.length<sizeLine/\Pv (i+1) (upd H7 D (.lst (vs++[v]))))else Pv (i+1) H6) (hd:∀H,Pv xs.length H->Q (.ref D) H):
 ∃W:Nat->Nat->Hp->Prop,(∃m,W 0 m H2)/\∀i m H3,W i m H3->((Itl K a).stop i H3/\Q (.ref D) H3)\/((Itl K a).go i H3/\∃N:Hp->Prop,(∀H',N H'->∃m',m'<m/\W (i+1) m' H')/\∀x H4,(Itl K a).yld i H3 x H4->g x σ0 H4 λσ5 H5=>tc σ5 H5 λb H6=>
   if b=true then te σ5 H6 (λv H7=>∃vs,H7 D=some (.lst vs)/\vs.length<sizeLine/\N (upd H7 D (.lst (vs++[v]))))else N H6):=by(
refine⟨λi m H=>m=xs.length-i/\i<=xs.length/\Pv i H,⟨xs.length,by simp,m9 _,h0⟩,?_⟩
rintro i m H ⟨rfl,hi,p⟩
have d:=hl i H p
by_cases I:i<xs.length
.have O:xs[i]?=some xs[i]:=kL I;refine .inr ⟨⟨xs,_,d,O⟩,Pv (i+1),λH' z=>⟨xs.length-(i+1),by lia,rfl,by lia,z⟩,?_⟩;rintro x H4 ⟨rfl,J⟩
 exact hs i x _ (J xs d) p
obtain rfl:i=xs.length:=by lia
exact .inl ⟨⟨xs,d,kO _⟩,hd _ p⟩)
theorem qGP{K:PySem.W.Frag}{a:Addr}{xs:List V}{k:Nat}{D:Addr}{H2:Hp}{te:TE}{σ0:St}{Q:VK}(Pv:Nat->Hp->Prop)(h0:Pv 0 H2)(hl:∀i H,Pv i H->SqL K H a xs)
 (hs:∀(i:Nat) x H,xs[i]?=some x->Pv i H->te (σ0.set k (some x)) H (λv H7=>∃vs,H7 D=some (.lst vs)/\vs.length<sizeLine/\Pv (i+1) (upd H7 D (.lst (vs++[v]))))) (hd:∀H,Pv xs.length H->Q (.ref D) H):
 ∃W:Nat->Nat->Hp->Prop,(∃m,W 0 m H2)/\∀i m H3,W i m H3->((Itl K a).stop i H3/\Q (.ref D) H3)\/((Itl K a).go i H3/\∃N:Hp->Prop,(∀H',N H'->∃m',m'<m/\W (i+1) m' H')/\∀x H4,(Itl K a).yld i H3 x H4->q3N k x σ0 H4 λσ5 H5=>qBI σ5 H5 λb H6=>if b=true then te σ5 H6 (λv H7=>∃vs,H7 D=some (.lst vs)/\vs.length<sizeLine/\N (upd H7 D (.lst (vs++[v]))))else N H6):=qDT   Pv h0 hl (λi x H hx p=>qGO (σ:=σ0.set k (some x)) (A:=λH6=>te _ H6 _) (B:=λH6=>Pv (i+1) H6) (hs i x H hx p)) hd
noncomputable def rEmp(K:PySem.W.Frag):R2:=λx y H Q=>∃p xs e,x=.ref p/\y=.ref e/\SqL K H p xs/\SqL K H e []/\Q (.bl (decide (xs=[]))) H
theorem qAA{X:Cx}(hu:X.A.units+64<cLine):OpR X (compareOp .Eq) (rEmp X.K):=by(
intro pins s σ H x y v u Q I rx S hZ
obtain⟨p,xs,e,ex,O,N,J,q⟩:=hZ
subst ex O
cases rx
cases S
obtain⟨i1,r1,d,_⟩:=I.list N
obtain⟨i2,r2,p2,_⟩:=I.list J
have D:=r1.length
have Z:=r2.length
cases xs with
|nil=>exact aU  d.isList p2.isList (by grind) (by lia) (λj h1 h2=>by simp at D h1;lia) ⟨.bl true,H,I,by rw[zY];rfl,q⟩
|cons z zs=>exact SeqAt.eq_list_lengthsAt d.isList p2.isList (by simp at D Z ⊢;lia) (by lia) ⟨.bl false,H,I,rfl,q⟩)
section
variable{X:Cx}{o e f:Expr}{apos cpos:Pos}{td ty tx:TE}
theorem qKU{P:Program}{w:World}{k:Key}(h:(yF P w).is k u=true):RelV (kV k) u:=by(
cases k with
|inl i=>exact xU h
|inr x=>exact l7 h)
theorem q9P{α β:Type}{F:α->β->Prop}:∀{l₁:List α} {l₂:List β},l₁.length=l₂.length->(∀(j:Nat) a b,l₁[j]?=some a->l₂[j]?=some b->F a b)->Paired F l₁ l₂
| [],[],_,_=>.nil
|a::l,b::l',h,k=>.cons (k 0 a b rfl rfl) (q9P (by simpa using h) λj x y hx hy=>k (j+1) x y (by simpa using hx) (by simpa using hy))
| [],_::_,h,_=>by simp at h
|_::_,[],h,_=>by simp at h
end
theorem q70:∀{ns:List Int} {vs:List Value},Vals (ns.map V.int) vs->IntsAre vs ns
| [],_,.nil=>.nil
|n::ns,_,.cons h t=>by obtain⟨t0,rfl⟩:=h;exact .cons n t0 (q70 t)
section
variable{X:Cx}
theorem q4V:∀{vs:List Value} {ns:List Int},IntsAre vs ns->Vals (ns.map V.int) vs
|_,_,.nil=>.nil
|_,_,.cons n t h=>.cons ⟨t,rfl⟩ (q4V h)
theorem qAB:q3O X (.builtin "sorted") (λxs H Q=>∃(p:Addr) (ns:List Int),xs=[.ref p]/\SqL X.K H p (ns.map V.int)/\ns.length<64/\∀ns':List Int,ns'.Perm ns->ns'.Pairwise (·<=·)->NewO H (.lst (ns'.map V.int)) Q):=by(
intro pins s σ H xs us Q I r hZ
obtain⟨p,ns,ex,hq,h64,q⟩:=hZ
subst ex
obtain⟨u,rfl,rx⟩:=q27 r
cases rx
obtain⟨z,O,Z,hz⟩:=I.list hq
have hi:=q70 O
have d:z.length<64:=by rw[<-O.length,kI];exact h64
refine sorted_ints Z.isList hi d λD ns' a1 N S=>?_
obtain⟨e,he⟩:=sortedAll_at s.heap z D
have J:(ns'.map V.int).length<=sizeLine:=by rw[kI,N.length_eq,dB];lia
exact⟨.ref _,_,I.laid  (λz z h=>sortedAll_old h) (dN _) (show jM X.prog X.w _ _ _ (.lst _)from⟨J,D.toList,e,q4V a1,by assumption⟩),rfl,(q ns' N S).at _ (I.hok.fresh (dN _))⟩)
end
structure Mk0(K:PySem.W.Frag)(C:Addr):Prop where
makes:PySem.W.makesIn K C=true
init:PySem.W.findIn K (.ref C) "__init__"=some (some (.builtin "object.__init__"))
kp:PySem.W.keepIn K (.ref C)=true
section
variable{X:Cx}{C:Addr}{x:Str}{p pos:Pos}
noncomputable def tMk0(C:Addr):TE:=λσ H Q=>∀x dx,H x=none->H dx=none->dx≠x->Q (.ref x) (upd (upd H dx (.own x)) x (.ins C dx []))
theorem qGQ{s:Shared}(M:Mk0 X.K C)(I:Inv X pins σ H s)(h:tMk0 C σ H Q):wpAny (model X.prog X.w) X.A (call (.ref C) []) (EP X pins σ Q) X.xe s:=by(
have N:=h (s.heap.objs.size+1) s.heap.objs.size (I.hok.fresh (dN _)) (I.hok.fresh (kO _)) (mY (rG _))
have S:=Inv.made (C:=C) I
have D:=I.kIn
obtain⟨z,g,d,t,os⟩:=s
have Y:=aI (M:=model X.prog X.w) D M.makes
have O:=by have:=mW (z.push PySem.W.emptyDict) (o:=PySem.W.instObj C z.objs.size) rfl;rwa [sR]at this
have ty:PySem.W.Looks (model X.prog X.w) ((z.push PySem.W.emptyDict).push (PySem.W.instObj C z.objs.size)) (typeOf (.ref (z.objs.size+1))) (.ref C):=(aK O).andThen .now
have top:PySem.W.Looks (model X.prog X.w) ((z.push PySem.W.emptyDict).push (PySem.W.instObj C z.objs.size)) (isInstance (.ref (z.objs.size+1)) (.type "object")) true:=ty.andThen (Y.top.keeps λb o e=>kJ _ (kJ _ e))
refine cP (xY Y (cO D M.init) (λJ=>eC (PySem.W.oi_bind J)) (.inr ⟨rfl,rfl⟩) ?_)
refine p7 PySem.W.oi_plain PySem.W.entry_oi (@xM (model X.prog X.w) _ _ _ "object.__init__" "object" "__init__" (.ref (z.objs.size+1)) [] [] _ PySem.W.oi_kind PySem.W.oi_split top (PySem.W.oi_args (.ref (z.objs.size+1))) ?_)
rw[PySem.W.oi_run]
exact kW ⟨rfl,⟨.ref (z.objs.size+1),_,S,rfl,N⟩⟩)
theorem qAC(M:Mk0 X.K C)(hg:Gl X x)(hm:X.mg x=some (.ref C))(hdb:(x==("__debug__":Str))=false:=by decide):PE X (.Call (.Name x p) [] [] pos) (tMk0 C):=by intro pins s σ H Q I h;exact dG (q0E I hg hm (sI I.kIn M.kp (qGQ M I h)) hdb)
theorem q5J(h1:PE X e t1)(h2:PE X e t2):PE X e (λσ H Q=>t1 σ H Q\/t2 σ H Q):=λpins s σ H Q I h=>h.elim (h1 _ s σ H Q I) (h2 _ s σ H Q I)
end
section
variable{X:Cx}{pins:List (Addr×Obj)}{σ:St}{H:Hp}{s:Shared}{a:Addr}
theorem Inv.freeze{o:Obj}(I:Inv X pins σ H s)(e:H a=some (.dK kvs))(ho:s.heap.get? a=some o):Inv X pins σ (upd H a (.frz o (.dK kvs))) s:=by(
have ne:∀b u,H b=some u->u≠ .dK kvs->b≠a:=λb u q n z=>by rw[z,e]at q;exact n (kU q).symm
have d:∀b,H b=none->b≠a:=λb q z=>by rw[z,e]at q;cases q
refine⟨I.ok,I.os,I.bare,I.base.trans ⟨λb u q Z Z Z=>q,λb u q Z Z Z=>⟨u.slots,q⟩,λb u q n Z=>by rw[qE (d b n)];exact n,λb u q Z=>⟨u,q⟩,λb xs q=>by rw[qE (ne b _ q (by intro z;cases z))];exact q,λb u v q=>by rw[qE (ne b _ q (by intro z;cases z))];exact q,λb ps q=>⟨#[],by rw[qE (ne b _ q (by intro z;cases z)),q];simp⟩⟩,I.loc,I.cell,by rw[qE (d _ I.free)];exact I.free,λx c q=>by rw[qE (d _ (I.freeC x c q))];exact I.freeC x c q,λp N=>?_,λb u q=>?_,I.len⟩
.obtain⟨O,D,S⟩:=I.pin p N;exact⟨O,by rw[qE (d _ D)];exact D,S⟩
have st:∀b u,jM X.prog X.w H s.heap b u->jM X.prog X.w (upd H a (.frz o (.dK kvs))) s.heap b u:=λb u q=>q.stay (λZ Z Z z=>z) (λc z=>by rw[qE (ne c _ z (by intro z;cases z))];exact z) (λc xs z=>by rw[qE (ne c _ z (by intro z;cases z))];exact z)
by_cases J:b=a
.subst J;rw[qI]at q;cases q;exact⟨ho,st b _ (I.hok b _ e)⟩
rw[qE J]at q
exact st b u (I.hok b u q))
theorem Inv.thaw{o:Obj}(I:Inv X pins σ H s)(hne:∀o u,X.H₀ a≠some (.frz o u))(e:H a=some (.frz o u)):Inv X pins σ (upd H a u) s:=by(
have ne:∀b v,H b=some v->v≠ .frz o u->b≠a:=λb v q n z=>by rw[z,e]at q;exact n (kU q).symm
have D:∀b,H b=none->b≠a:=λb q z=>by rw[z,e]at q;cases q
have nf:∀b v,X.H₀ b=some v->(∃o' J,v=.frz o' J)->b≠a:=λb v q ⟨o',J,z⟩ w=>by rw[w,z]at q;exact hne o' J q
refine⟨I.ok,I.os,I.bare,⟨I.base.keep,I.base.slot,λb v q n Z=>?_,I.base.there,λb xs q=>?_,λb v w q=>?_,λb ps q=>?_⟩,I.loc,I.cell,by rw[qE (D _ I.free)];exact I.free,λx c q=>by rw[qE (D _ (I.freeC x c q))];exact I.freeC x c q,λp O=>?_,λb v q=>?_,I.len⟩
.have:=I.base.free b v q n Z;rw[qE (D b this)];exact this
.have:=I.base.tups b xs q;rw[qE (ne b _ this (by intro z;cases z))];exact this
.rw[qE (nf b _ q ⟨_,_,rfl⟩)];exact I.base.frzs b v w q
.obtain⟨more,d⟩:=I.base.tbls b ps q;exact⟨more,by rw[qE (ne b _ d (by intro z;cases z))];exact d⟩
.obtain⟨S,d,q3⟩:=I.pin p O;exact⟨S,by rw[qE (D _ d)];exact d,q3⟩
have st:∀b v,jM X.prog X.w H s.heap b v->jM X.prog X.w (upd H a u) s.heap b v:=λb v q=>q.stay (λd d d z=>z) (λc z=>by rw[qE (ne c _ z (by intro z;cases z))];exact z) (λc xs z=>by rw[qE (ne c _ z (by intro z;cases z))];exact z)
by_cases N:b=a
.subst N;rw[qI]at q;cases q;exact st b _ (I.hok b _ e).2
rw[qE N]at q
exact st b v (I.hok b v q))
end
noncomputable def Itd(a:Addr)(o:Obj)(kvs:List (Key×V)):It:=⟨λi H=>H a=some (.frz o (.dK kvs))/\i<kvs.length,λi H x H'=>H'=H/\∃kv,kvs[i]?=some kv/\x=kV kv.1,λi H=>H a=some (.frz o (.dK kvs))/\kvs.length<=i⟩
theorem qF6{P:Program}{w:World}{K:PySem.W.Frag}(a it:Addr)(o:Obj)(rel:KV kvs vs)(hD:∀h:Heap,h.get? a=some o->h.DictAt (yF P w) a vs ep):
 Turn P w K tg (Itd a o kvs) [it] it (λi h=>h.IsKeyIter it a i vs.length ep) where
mem:=by simp
obj:=λi h st b D=>by
 have e:b=it:=by simpa using D
 subst e;obtain⟨o',e,c,d⟩:=st;exact⟨o',e,λv z=>by rw[d]at z;cases z⟩
keep:=λi h h' st k=>st.at λo e=>k it (by simp) o e
item:=by
 intro X hP hw hK hc i pins s σ H E I O st hg;subst hP hw hK;obtain⟨ha,hi⟩:=hg;obtain⟨Z,_⟩:=I.hok a _ ha;have hl:=rel.length;have J:i<vs.length:=by lia
 obtain⟨f0,f1,f2,f3,f4,f5⟩:=O it (by simp);refine wpAny_pyNext_dict_item (k:=vs[i].1) (v:=vs[i].2) st (hD _ Z) (kL J) λS h' hk N sb=>?_;have I1:Inv X pins σ H { s with heap:=h' }:=I.turned (t':=s.toks) (λb o D e=>(sb.2 b D).trans e) f0 f1 f3 f4 f5;obtain⟨o',e',c',d'⟩:=id N;refine⟨S,rfl,qFK (s:={ s with heap:=h' }) e' c' d' (by decide) ⟨kV kvs[i].1,H,I1,?_,⟨rfl,kvs[i],kL hi,rfl⟩,N,λb D=>(O b D).1⟩⟩;have ek:=dW (λl=>l[i]?) rel.keys;simp only[mM,kL hi,kL J,aW]at ek;rw[kU ek];exact qKU hk
done:=by intro X hP hw hK hc i pins s σ H E I O st hg;subst hP hw hK;obtain⟨ha,hi⟩:=hg;obtain⟨Z,_⟩:=I.hok a _ ha;have hl:=rel.length;obtain⟨f0,f1,f2,f3,f4,f5⟩:=O it (by simp);exact wpAny_pyNext_dict_end (I.ok.hd hc) st (hD _ Z) (wE (by lia)) λh' eb=>⟨rfl,I.turned (t':=s.toks) (λb o D e=>eb b o D e) f0 f1 f3 f4 f5⟩
self:=λz z z z z st h=>wpAny_pyIter_keyiter st h
section
variable{X:Cx}{tg:Expr}
noncomputable def iDct(td:TE):TI:=λσ H R=>td σ H λx H1=>∃a kvs,x=.ref a/\H1 a=some (.dK kvs)/\∀o,R (Itd a o kvs) (upd H1 a (.frz o (.dK kvs)))
theorem qJ7(hd:PE X d td):PI X tg d (iDct td):=by(
intro pins s σ H R I h
refine thn (hd _ s σ H _ I h) λv S hZ=>?_
obtain⟨x,H1,Z,r1,q1⟩:=hZ
obtain⟨a,kvs,e,O,q⟩:=q1
subst e
cases r1
obtain⟨z,lo,vs,J,dd⟩:=qB9 Z.hok O
obtain⟨ep,D⟩:=dd.dictAt
obtain⟨o,es,ho,hr⟩:=id D
have N:=Z.freeze O ho
refine wpAny_pyIter_dict lo D ?_
refine⟨S.heap.objs.size,[S.heap.objs.size],_,_,_,rfl,N.kept  λb o e=>kJ _ e,qF6 a _ o J (λh' h=>⟨o,es,h,hr⟩),⟨_,mW _ rfl,rfl,rfl⟩,λb hb=>?_,q o⟩
have e:=by simpa using hb
subst e
exact N.fpOk (kO _) (N.hok.fresh (kO _)))
theorem qMC{s:Shared}{a:Addr}(I:Inv X pins σ H s)(e:H a=some (.dK kvs)):∀o u,X.H₀ a≠some (.frz o u):=λo u q=>by have:=I.base.frzs a o u q;lia
noncomputable def qNQ(t:TE):TE:=λσ H Q=>∃a kvs,H a=some (.dK kvs)/\t σ H λv H'=>∃o u,H' a=some (.frz o u)/\Q v (upd H' a u)
theorem qDU{t:TE}(h:PE X e t):PE X e (qNQ t):=by(
intro pins s σ H Q I z
obtain⟨a,kvs,D,q⟩:=z
have J:=qMC I D
refine thn (h _ s σ H _ I q) λu s' ⟨v,H',d,r,o,w,e,q⟩=>⟨v,_,d.thaw J e,r,q⟩)
theorem qJ8{a:Addr}{o:Obj}{kvs:List (Key×V)}{D:Addr}{H2:Hp}{g:TG}{tc:TT}{te:TE}{σ0:St}{Q:VK}(Pv:Nat->Hp->Prop)(h0:Pv 0 H2)(hl:∀i H,Pv i H->H a=some (.frz o (.dK kvs)))
 (hs:∀(i:Nat) kv H,kvs[i]?=some kv->Pv i H->g (kV kv.1) σ0 H λσ5 H5=>tc σ5 H5 λb H6=>if b=true then te σ5 H6 (λv H7=>∃vs,H7 D=some (.lst vs)/\vs.length<sizeLine/\Pv (i+1) (upd H7 D (.lst (vs++[v]))))else Pv (i+1) H6) (hd:∀H,Pv kvs.length H->Q (.ref D) H):
 ∃W:Nat->Nat->Hp->Prop,(∃m,W 0 m H2)/\∀i m H3,W i m H3->((Itd a o kvs).stop i H3/\Q (.ref D) H3)\/((Itd a o kvs).go i H3/\∃N:Hp->Prop,(∀H',N H'->∃m',m'<m/\W (i+1) m' H')/\∀x H4,(Itd a o kvs).yld i H3 x H4->g x σ0 H4 λσ5 H5=>tc σ5 H5 λb H6=>
   if b=true then te σ5 H6 (λv H7=>∃vs,H7 D=some (.lst vs)/\vs.length<sizeLine/\N (upd H7 D (.lst (vs++[v]))))else N H6):=by(
refine⟨λi m H=>m=kvs.length-i/\i<=kvs.length/\Pv i H,⟨kvs.length,by simp,m9 _,h0⟩,?_⟩
rintro i m H ⟨rfl,hi,p⟩
have q:=hl i H p
by_cases d:i<kvs.length
.refine .inr ⟨⟨q,d⟩,Pv (i+1),λH' z=>⟨kvs.length-(i+1),by lia,rfl,by lia,z⟩,?_⟩;rintro v H' ⟨rfl,kv,I,rfl⟩
 exact hs i kv _ I p
obtain rfl:i=kvs.length:=by lia
exact .inl ⟨⟨q,kO _⟩,hd _ p⟩)
end
section
variable{X:Cx}
theorem qBL{ns:List Int}(r:Vals (ns.map V.int) us){j:Nat}(h:j<us.length):∃t,us[j]=.int (ns.getD j 0) t:=by(
obtain⟨x,e,q⟩:=r.atN h
rw[mM]at e
cases z:ns[j]? with
|none=>simp_all
|some i=>rw[z]at e;obtain rfl:V.int i=x:=kU e;obtain⟨t,q⟩:=q;refine⟨t,?_⟩;rw[kN,z];exact q)
theorem qGR{ns ms:List Int}(h:ns.length=ms.length):(List.range ns.length).all (λj=>ns.getD j 0==ms.getD j 0)=decide (ns=ms):=by(
rw[cD,rL,mD]
constructor
.intro z;refine wA h λj h1 h2=>?_;have:=z j (mU.mpr h1);rw[rF,kN,kN,kL h1,kL h2]at this;exact this
rintro rfl j _
exact beq_self_eq_true _)
noncomputable def qNR(K:PySem.W.Frag):R2:=λx y H Q=>∃(a b:Addr) (ns ms:List Int),x=.ref a/\y=.ref b/\SqT K H a (ns.map V.int)/\SqT K H b (ms.map V.int)/\ns.length=ms.length/\Q (.bl (!decide (ns=ms))) H
theorem qJ9(hu:X.A.units+64<cLine):OpR X (compareOp .NotEq) (qNR X.K):=by(
intro pins s σ H x y v u Q I rx Z h
obtain⟨a,b,ns,ms,rfl,rfl,ha,hb,hl,q⟩:=h
cases rx
cases Z
obtain⟨d,J,N,_⟩:=I.tuple ha
obtain⟨D,r2,p2,_⟩:=I.tuple hb
have l1:=J.length
have O:=r2.length
rw[kI]at l1 O
refine l9 (e:=λj=>ns.getD j 0==ms.getD j 0) (show s.heap.IsTuple a d.toArray from N) (show s.heap.IsTuple b D.toArray from p2) (by lia) (λj h1 h2=>?_) _ _ _ _ ⟨.bl _,H,I,?_,q⟩
.obtain⟨t1,e1⟩:=qBL J (j:=j) (by simpa using h1);obtain⟨S,e2⟩:=qBL r2 (j:=j) (by simpa using h2);have z:=sT (A:=X.A.in1) (s:=s) (ns.getD j 0) t1 (ms.getD j 0) S;simp_all
rw[show min d.toArray.size D.toArray.size=ns.length by simp;lia,qGR hl,show(d.toArray.size==D.toArray.size)=true by simp;lia,Bool.and_true]
rfl)
theorem qJA{a:Int}{n:Nat}(h:a.natAbs<2 ^ n):Builtin.Int.intBits a<=n:=by(
unfold Builtin.Int.intBits
split
.simp
have:a.natAbs≠0:=by lia
have:=(Nat.log2_lt this).mpr h
lia)
end
end L2
namespace W1
open PySem L2
structure Tl where
b:Int
lv:Int
cl:Int
bo:Int
noncomputable abbrev Tl.ns(T:Tl):List Int:=[T.b,T.lv,T.cl,T.bo]
noncomputable def TlAt(H:Hp)(v:V)(T:Tl):Prop:=∃a,v=.ref a/\H a=some (.tup (T.ns.map V.int))
theorem TlAt.same{v:V}{T:Tl}(s:Same H H')(h:TlAt H v T):TlAt H' v T:=let⟨a,e,z⟩:=h;⟨a,e,s _ _ z⟩
noncomputable abbrev Tls(H:Hp):List V->List Tl->Prop:=Paired (TlAt H)
theorem Tls.same(s:Same H H')(h:Tls H vs ts):Tls H' vs ts:=Paired.mapP h λd d z=>z.same s
theorem Tl.eq_of{A B:Tl}(h:A.ns=B.ns):A=B:=by cases A;simp_all
structure Tl.Ok(pg nw:Int)(T:Tl):Prop where
b0:0<=T.b
b1:T.b<16
l0:0<=T.lv
l1:T.lv<=pg
c0:0<=T.cl
c1:T.cl<10 ^ 30
o0:0<=T.bo
o1:T.bo<nw
noncomputable def unb(f:Tl->Int)(ts:List Tl)(T:Tl):Bool:=ts.all λo=>!decide (f o<f T)
theorem q7R(f:Tl->Int):∀ts:List Tl,ts≠[]->∃T∈ts,∀o∈ts,f T<=f o
| [],h=>absurd rfl h
| [T],_=>⟨T,kE.mpr rfl,λo ho=>by rw[kE.mp ho];exact gC _⟩
|T::U::r,_=>by
 obtain⟨M,hm,hl⟩:=q7R f (U::r) (by simp);by_cases h:f T<=f M
 .refine⟨T,kY ..,λo ho=>?_⟩;rcases kM.mp ho with rfl|ho
  .exact gC _
  have:=hl o ho;lia
 refine⟨M,hG _ hm,λo ho=>?_⟩;rcases kM.mp ho with rfl|ho
 .lia
 exact hl o ho
theorem zP{f:Tl->Int}{T:Tl}:unb f ts T=true↔∀o∈ts,f T<=f o:=by(
unfold unb
simp)
theorem q3W(f:Tl->Int)(ts:List Tl)(h:ts≠[]):∃i,∃hi:i<ts.length,unb f ts ts[i]=true/\∀j,∀hj:j<i,unb f ts (ts[j]'(by lia))=false:=by(
obtain⟨T,hT,N⟩:=q7R f ts h
obtain⟨k,D,e⟩:=d9 hT
have d:∀n,n<ts.length->(∃z:n<ts.length,unb f ts ts[n]=true)->∃i,∃hi:i<ts.length,unb f ts ts[i]=true/\∀j,∀hj:j<i,unb f ts (ts[j]'(by lia))=false:=by
 intro n;induction n using Nat.strongRecOn with
 |ind n S=>
  intro J O;obtain⟨z,I⟩:=O;by_cases g:∃j,∃hj:j<n,unb f ts (ts[j]'(by lia))=true
  .obtain⟨j,hj,u⟩:=g;exact S j hj (by lia) ⟨by lia,u⟩
  refine⟨n,J,I,λj hj=>?_⟩;cases u:unb f ts (ts[j]'(by lia))with
  |false=>rfl
  |true=>exact absurd ⟨j,hj,u⟩ g
exact d k D ⟨D,zP.mpr (by rw[e];exact N)⟩)
noncomputable def pk(f:Tl->Int)(ts:List Tl):Int:=((ts.find? (unb f ts)).map Tl.b).getD 0
theorem qDV{f:Tl->Int}{ts:List Tl}{i:Nat}(hi:i<ts.length)(u:unb f ts ts[i]=true)(n:∀j,∀hj:j<i,unb f ts (ts[j]'(by lia))=false):pk f ts=ts[i].b:=by(
have e:ts.find? (unb f ts)=some ts[i]:=by rw[List.find?_eq_some_iff_getElem];exact⟨u,i,hi,rfl,λj hj=>by rw[n j hj];rfl⟩
unfold pk
rw[e]
rfl)
theorem q0H{x:Addr}(nx:H x=none)(nd:H dx=none):Same H (upd (upd H dx (.own x)) x (.ins C dx [])):=λb o e=>by rw[qE (qH e nx),qE (qH e nd)];exact e
end W1
namespace L2
open PySem PySem.Spec PyProof.Rows
theorem q4W{X:Cx}{K:PySem.W.Frag}(e:X.K=K):IxR X (rIxT K):=by subst e;exact jO
theorem q2D{X:Cx}{K:PySem.W.Frag}(e:X.K=K):IxR X (rIxL K):=by subst e;exact jC
theorem qCV{X:Cx}{K:PySem.W.Frag}(e:X.K=K):OpR X (compareOp .In) (rIn K false):=by subst e;exact qEX
theorem q3Q{X:Cx}{K:PySem.W.Frag}(e:X.K=K):OpR X (compareOp .NotIn) (rIn K true):=by subst e;exact q1G
theorem q7S{X:Cx}{spos:Pos}{i:Nat}{y:Str}(N:List Str)(ix:List Nat)(hcalm:X.calm=true)(hi:PI X tg iter wi)
 (hg:∀C fp s H xe,PG (zC X N scope C fp s H xe) tg g) (hif:∀C fp s H xe,PIf (zC X N scope C fp s H xe) ifs tc) (he:∀C fp s H xe,PE (zC X N scope C fp s H xe) elt te)
 (ok:qDS X.N X.env.kindOf scope N ix=true) (hown:Own g ix.length) (hN:X.N.Nodup) (hy:X.N[i]?=some y) (hl:Loc X.env.scope y)
 (hsw:swapsWith (.ListComp elt [⟨tg,iter,ifs,0⟩] scope pos) (some (.Name y py)) spos.line X.env=pure true:=by rfl) (hf:X.fn y=true\/X.env.scope.names.lookup y=some .local:=by first|exact .inl rfl|exact .inr rfl|assumption)
 (hs:∀x,foldedSetIterable iter X.env x=pure x:=by intro _;rfl):
 PS X (.Assign [.Name y py] (.ListComp elt [⟨tg,iter,ifs,0⟩] scope pos) spos) (tAsg (tLC wi g tc te ix (N.length-ix.length)) (q3N i)):=by(
unfold qDS at ok
rw[mQ,mQ,mQ,rL]at ok
obtain⟨⟨⟨h1,h2⟩,h3⟩,h4⟩:=ok
have d:∀y∈scope.names,y.2≠ .cell/\(y.2≠ .free\/X.env.kindOf y.1=some .cell)/\(y.2≠ .local\/scope.names.lookup y.1=some .local):=λy hy=>by have q:=h2 y hy;rw[mQ,mQ,cF,cF,mD,mD,mD,mD,mD]at q;exact⟨q.1.1,q.1.2,q.2⟩
intro pins s σ H D I h
rw[exec_Assign_Name_used _ _ _ _ hsw]
refine hX (nL (hX ?_))
refine hX (dM (qDR (use:=some (assign (.Name y py) X.env)) (QQ:=λz s'=>∃σ' H',Inv X pins σ' H' s'/\D.nx σ' H') N ix _ (λz z z z z=>hcalm) hi.c hg hif he (kP h1) (λy hy=>(d y hy).1) (λy hy e=>(d y hy).2.1.resolve_left (λz=>z e)) h3 (kP h4) (λy hy e=>(d y hy).2.2.resolve_left (λz=>z e)) hown I h
 (λC Dl H' s' m hm fp O q=>?_) hs) (λz s' hq=>kW (kW hq)) λz z e=>e)
have I':Inv X pins σ H' s':=O s'.heap (Heap.SameBut.refl _ _)
show wpAny _ _ (assign (.Name y py) X.env (.ref Dl)) _ _ _
refine xV (q96 (v:=.ref Dl) I' hN hy hl rfl (λZ aa hZ=>?_) hf)
obtain⟨a,sb,J⟩:=hZ
have aC:C≠a:=λz=>by
 rcases J with J|J
 .exact fp.2.1 (z.trans J)
 exact fp.2.2.2.2.1 _ _ J z.symm
refine⟨m,hm.sameBut sb aC,λh' ab=>⟨_,H',aa.turnedN (t':=Z.toks) (fp:=[C]) (λb o S e=>ab.extBut b o (λz=>S (kE.mpr z)) e) (λb S=>by rw[kE.mp S];exact fp),q⟩⟩)
theorem zD{K:PySem.W.Frag}{a:Addr}{xs:List V}{D:Addr}{H2:Hp}{g:TG}{tc:TT}{te:TE}{σ0:St}{R:Hp->Prop}(Pv:Nat->Hp->Prop)(h0:Pv 0 H2)(hl:∀i H,Pv i H->SqL K H a xs)
 (hs:∀(i:Nat) x H,xs[i]?=some x->Pv i H->g x σ0 H λσ5 H5=>tc σ5 H5 λb H6=>if b=true then te σ5 H6 (λv H7=>∃vs,H7 D=some (.lst vs)/\vs.length<sizeLine/\Pv (i+1) (upd H7 D (.lst (vs++[v]))))else Pv (i+1) H6) (hd:∀H,Pv xs.length H->R H):
 ∃W:Nat->Nat->Hp->Prop,(∃m,W 0 m H2)/\∀i m H3,W i m H3->((Itl K a).stop i H3/\R H3)\/((Itl K a).go i H3/\∃N:Hp->Prop,(∀H',N H'->∃m',m'<m/\W (i+1) m' H')/\∀x H4,(Itl K a).yld i H3 x H4->g x σ0 H4 λσ5 H5=>tc σ5 H5 λb H6=>if b=true then te σ5 H6 (λv H7=>∃vs,H7 D=some (.lst vs)/\vs.length<sizeLine/\N (upd H7 D (.lst (vs++[v]))))else N H6):=qDT (Q:=λz H=>R H) Pv h0 hl hs hd
theorem qBM{K:PySem.W.Frag}{a:Addr}{xs:List V}{k:Nat}{D:Addr}{H2:Hp}{te:TE}{σ0:St}{R:Hp->Prop}(Pv:Nat->Hp->Prop)(h0:Pv 0 H2)(hl:∀i H,Pv i H->SqL K H a xs)
 (hs:∀(i:Nat) x H,xs[i]?=some x->Pv i H->te (σ0.set k (some x)) H (λv H7=>∃vs,H7 D=some (.lst vs)/\vs.length<sizeLine/\Pv (i+1) (upd H7 D (.lst (vs++[v]))))) (hd:∀H,Pv xs.length H->R H):
 ∃W:Nat->Nat->Hp->Prop,(∃m,W 0 m H2)/\∀i m H3,W i m H3->((Itl K a).stop i H3/\R H3)\/((Itl K a).go i H3/\∃N:Hp->Prop,(∀H',N H'->∃m',m'<m/\W (i+1) m' H')/\∀x H4,(Itl K a).yld i H3 x H4->q3N k x σ0 H4 λσ5 H5=>qBI σ5 H5 λb H6=>if b=true then te σ5 H6 (λv H7=>∃vs,H7 D=some (.lst vs)/\vs.length<sizeLine/\N (upd H7 D (.lst (vs++[v]))))else N H6):=qGP (Q:=λz H=>R H) Pv h0 hl hs hd
end L2
namespace L2
open PySem PySem.W PyProof.Rows
noncomputable def hT{α:Type}(c:Nat->Nat->Bool)(n:Nat):KasT α->(α->Prop)->Prop
| .ret a,Q=>Q a
| .ask i j k,Q=>i<n/\j<n/\hT c n (k (c i j)) Q
theorem yY{α:Type}{c:Nat->Nat->Bool}{n:Nat}{Q Q':α->Prop}(h:∀a,Q a->Q' a):∀t:KasT α,hT c n t Q->hT c n t Q'
| .ret a,q=>h a q
| .ask i j k,q=>⟨q.1,q.2.1,yY h (k (c i j)) q.2.2⟩
theorem q3C{α β:Type}{c:Nat->Nat->Bool}{n:Nat}{f:α->KasT β}{Q:β->Prop}:∀t:KasT α,hT c n t (λa=>hT c n (f a) Q)->hT c n (t.bind f) Q
| .ret a,q=>q
| .ask i j k,q=>⟨q.1,q.2.1,q3C (k (c i j)) q.2.2⟩
theorem qGS{α:Type}{c:Nat->Nat->Bool}{n:Nat}{cmp:Nat->Nat->(Bool->Shared->Prop)->Shared->Prop}{G:α->Shared->Prop}{s:Shared}(hc:∀i j C,i<n->j<n->C (c i j) s->cmp i j C s):
 ∀t:KasT α,hT c n t (λa=>G a s)->t.kasWp cmp G s
| .ret a,q=>q
| .ask i j k,q=>hc i j _ q.1 q.2.1 (qGS hc (k (c i j)) q.2.2)
section
variable{r:Nat->Int}{n:Nat}
noncomputable abbrev rc(r:Nat->Int):Nat->Nat->Bool:=λi j=>decide (r i<r j)
noncomputable abbrev kk(r:Nat->Int)(p:Array Nat)(i:Nat):Int:=r (p.getD i 0)
noncomputable def Srt(r:Nat->Int)(p:Array Nat)(m:Nat):Prop:=∀i j,i<=j->j<m->kk r p i<=kk r p j
noncomputable def Dec(r:Nat->Int)(p:Array Nat)(m:Nat):Prop:=∀i j,i<=j->j<m->kk r p j<=kk r p i
noncomputable def Gp(n:Nat)(p:Array Nat):Prop:=p.Perm (List.range n).toArray
theorem Gp.size{p:Array Nat}(g:Gp n p):p.size=n:=by have:=g.size_eq;simpa using this
theorem Gp.lt{p:Array Nat}(g:Gp n p){i:Nat}(h:i<n):p.getD i 0<n:=by(
have hi:i<p.size:=by rw[g.size];exact h
have e:p.getD i 0=p[i]:=by simp[Array.getD,hi]
have:=g.mem_iff.mp (Array.getElem_mem hi)
rw[e]
simp_all)
theorem Srt.more{p:Array Nat}{m:Nat}(h:Srt r p m)(e:kk r p (m-1)<=kk r p m):Srt r p (m+1):=λi j hij hj=>by(
by_cases z:j<m
.exact h i j hij z
have ej:j=m:=by lia
subst ej
by_cases z2:i=j
.simp_all
exact r9 (h i _ (by lia) (by lia)) e)
theorem Dec.more{p:Array Nat}{m:Nat}(h:Dec r p m)(e:kk r p m<=kk r p (m-1)):Dec r p (m+1):=λi j hij hj=>by(
by_cases z:j<m
.exact h i j hij z
have ej:j=m:=by lia
subst ej
by_cases z2:i=j
.simp_all
exact r9 e (h i _ (by lia) (by lia)))
theorem q4X{p q:Array Nat}{i j:Nat}(h:p[i]?=q[j]?):p.getD i 0=q.getD j 0:=by simp_all
theorem qCW{p:Array Nat}{i j:Nat}(hj:j<=p.size)(k:Nat):(kas_rev p i j).getD k 0=if i<=k/\k<j then p.getD (i+j-1-k) 0 else p.getD k 0:=by(
unfold kas_rev
by_cases h:i<=k/\k<j
.rw[kD h];exact q4X (by rw[xA hj,kD h])
rw[hU h]
exact q4X (by rw[xA hj,hU h]))
theorem Gp.rev{p:Array Nat}(g:Gp n p)(i j:Nat):Gp n (kas_rev p i j):=(mirror_perm _ _ _ _).trans g
theorem qCX{p:Array Nat}(g:Gp n p):∀(f m:Nat),1<=m->m+f<=n->Srt r p m->hT (rc r) n (kas_asc p f m) (λe=>m<=e/\e<=m+f/\Srt r p e/\(e<m+f->kk r p e<kk r p (e-1)))
|0,m,h1,hz,h=>⟨kO _,kO _,h,λz=>absurd z (dX _)⟩
|f+1,m,h1,hz,h=>by
 refine⟨g.lt (by lia),g.lt (by lia),?_⟩;by_cases e:r (p.getD m 0)<r (p.getD (m-1) 0)
 .rw[show rc r (p.getD m 0) (p.getD (m-1) 0)=true from hC e];dsimp only;rw[kD rfl];exact⟨kO _,by lia,h,λd=>e⟩
 rw[show rc r (p.getD m 0) (p.getD (m-1) 0)=false from kB e];dsimp only;rw[hU kX];refine yY ?_ _ (qCX g f (m+1) (by lia) (by lia) (h.more (by show r _<=r _;lia)));rintro a ⟨a1,a2,a3,a4⟩
 exact⟨by lia,by lia,a3,λz=>a4 (by lia)⟩
noncomputable def Eql(r:Nat->Int)(p:Array Nat)(a b:Nat):Prop:=∀k,a<=k->k<b->kk r p k=kk r p (b-1)
theorem qAD{p:Array Nat}{i j:Nat}(hj:j<=p.size)(h:Eql r p i j)(k:Nat):kk r (kas_rev p i j) k=kk r p k:=by(
show r _=r _
rw[qCW hj]
by_cases z:i<=k/\k<j
.rw[kD z];exact(h _ (by lia) (by lia)).trans (h k z.1 z.2).symm
rw[hU z])
theorem q71:∀(f:Nat) (p:Array Nat) (m q:Nat),Gp n p->q+1<=m->m+f<=n->Dec r p m->Eql r p (m-(q+1)) m->hT (rc r) n (kas_desc f p m q) (λz=>Gp n z.1/\m<=z.2.1/\z.2.1<=m+f/\Dec r z.1 z.2.1/\z.2.2+1<=z.2.1/\Eql r z.1 (z.2.1-(z.2.2+1)) z.2.1)
|0,p,m,q,g,hq,hz,d,e=>⟨g,kO _,kO _,d,hq,e⟩
|f+1,p,m,q,g,hq,hz,d,e=>by
 have hs:=g.size;refine⟨g.lt (by lia),g.lt (by lia),?_⟩;by_cases c:r (p.getD m 0)<r (p.getD (m-1) 0)
 .rw[show rc r (p.getD m 0) (p.getD (m-1) 0)=true from hC c];dsimp only;rw[kD rfl];by_cases q0:q>0
  .rw[kD q0];have kq:=qAD (r:=r) (p:=p) (i:=m-(q+1)) (j:=m) (by lia) e;have d1:Dec r (kas_rev p (m-(q+1)) m) (m+1):=λi j hij hj=>by rw[kq,kq];exact d.more (pL c) i j hij hj
   refine yY ?_ _ (q71 f _ (m+1) 0 (g.rev _ _) (by lia) (by lia) d1 λk h1 h2=>by rw[show k=m by lia];rfl);rintro a ⟨a1,a2,a3,a4⟩
   exact⟨a1,by lia,by lia,a4⟩
  rw[hU q0];refine yY ?_ _ (q71 f p (m+1) 0 g (by lia) (by lia) (d.more (pL c)) λk h1 h2=>by rw[show k=m by lia];rfl);rintro a ⟨a1,a2,a3,a4⟩
  exact⟨a1,by lia,by lia,a4⟩
 rw[show rc r (p.getD m 0) (p.getD (m-1) 0)=false from kB c];dsimp only;rw[hU kX];refine⟨g.lt (by lia),g.lt (by lia),?_⟩;by_cases c2:r (p.getD (m-1) 0)<r (p.getD m 0)
 .rw[show rc r (p.getD (m-1) 0) (p.getD m 0)=true from hC c2];dsimp only;rw[kD rfl];exact⟨g,kO _,wX _ _,d,hq,e⟩
 rw[show rc r (p.getD (m-1) 0) (p.getD m 0)=false from kB c2];dsimp only;rw[hU kX];have ee:r (p.getD m 0)=r (p.getD (m-1) 0):=by lia
 refine yY ?_ _ (q71 f p (m+1) (q+1) g (by lia) (by lia) (d.more (Int.le_of_eq ee)) λk h1 h2=>?_)
 .rintro a ⟨a1,a2,a3,a4⟩
  exact⟨a1,by lia,by lia,a4⟩
 show r (p.getD k 0)=r (p.getD m 0);by_cases z:k=m
 .rw[z]
 rw[ee];exact e k (by lia) (by lia)
theorem qDW{p:Array Nat}{m:Nat}(g:Gp n p)(h1:1<=m)(hm:m<=n)(d:Dec r p m):hT (rc r) n (kas_tail3 m n p) (λz=>Gp n z.2/\1<=z.1/\z.1<=n/\Srt r z.2 z.1):=by(
have O:=g.size
have sr:Srt r (kas_rev p 0 m) m:=λi j I J=>by show r _<=r _;rw[qCW (by lia),qCW (by lia),kD ⟨m9 _,by lia⟩,kD ⟨m9 _,J⟩];exact d _ _ (by lia) (by lia)
refine q3C _ (yY ?_ _ (qCX (g.rev 0 m) (n-m) m h1 (by lia) sr))
rintro a ⟨S,N,D,_⟩
exact⟨g.rev _ _,by lia,by lia,D⟩)
theorem qDX{p:Array Nat}{m:Nat}(g:Gp n p)(hm:m+1<=n)(d:Dec r p (m+1)):hT (rc r) n (kas_descPart m n p) (λz=>Gp n z.2/\1<=z.1/\z.1<=n/\Srt r z.2 z.1):=by(
refine q3C _ (yY ?_ _ (q71 (n-(m+1)) p (m+1) 0 g (by lia) (by lia) d λk h1 h2=>by rw[show k=m by lia];rfl))
rintro⟨p',m',q'⟩ ⟨a1,a2,a3,a4,a5,a6⟩
dsimp only at a1 a2 a3 a4 a5 a6 ⊢
have N:=a1.size
by_cases q0:q'>0
.rw[kD q0];have I:=qAD (r:=r) (p:=p') (i:=m'-(q'+1)) (j:=m') (by lia) a6;exact qDW (a1.rev _ _) (by lia) (by lia) λi j D J=>by rw[I,I];exact a4 i j D J
rw[hU q0]
exact qDW a1 (by lia) (by lia) a4)
theorem qGT{p:Array Nat}(g:Gp n p)(h1:1<=n):hT (rc r) n (kas_count n p) (λz=>Gp n z.2/\1<=z.1/\z.1<=n/\Srt r z.2 z.1):=by(
have hs:=g.size
have s1:Srt r p 1:=λi j d D=>by rw[show i=j by lia];exact gC _
refine q3C _ (yY ?_ _ (qCX g (n-1) 1 (kO _) (by lia) s1))
rintro m ⟨O,a2,I,a4⟩
try dsimp only
by_cases e:m=n
.rw[kD (by rw[rF];exact e)];exact⟨g,O,by lia,I⟩
rw[hU (by rw[rF];exact e)]
have lt:=a4 (by lia)
by_cases Z:m>1
.rw[kD Z];refine⟨g.lt (by lia),g.lt (by lia),?_⟩;by_cases c:r (p.getD 0 0)<r (p.getD (m-1) 0)
 .rw[show rc r (p.getD 0 0) (p.getD (m-1) 0)=true from hC c];dsimp only;rw[kD rfl];exact⟨g,O,by lia,I⟩
 rw[show rc r (p.getD 0 0) (p.getD (m-1) 0)=false from kB c];dsimp only;rw[hU kX];have eq:Eql r p 0 m:=λk _ hk=>by have J:=I 0 k (m9 _) hk;have S:=I k (m-1) (by lia) (by lia);show r _=r _;have J:r (p.getD 0 0)<=r (p.getD k 0):=J;have S:r (p.getD k 0)<=r (p.getD (m-1) 0):=S;lia
 have N:=qAD (r:=r) (p:=p) (i:=0) (j:=m) (by lia) eq;refine qDX (g.rev _ _) (by lia) λi j d D=>?_;rw[N,N];refine Dec.more (m:=m) (λi j d D=>?_) (pL lt) i j d D;rw[eq i (m9 _) (by lia),eq j (m9 _) D];exact gC _
rw[hU Z]
have:m=1:=by lia
subst this
refine qDX g (by lia) (Dec.more (λi j d D=>?_) (pL lt))
rw[show i=j by lia]
exact gC _)
theorem q7T{p:Array Nat}(g:Gp n p){k:Nat}(hk:k<n)(sr:Srt r p k):∀(f l u:Nat),u-l<=f->l<=u->u<=k->(∀i,i<l->kk r p i<=kk r p k)->(∀i,u<=i->i<k->kk r p k<kk r p i)->hT (rc r) n (kas_place p k f l u) (λm=>m<=k/\(∀i,i<m->kk r p i<=kk r p k)/\∀i,m<=i->i<k->kk r p k<kk r p i)
|0,l,u,hf,hl,hu,a,b=>⟨by lia,a,λi h1 h2=>b i (by lia) h2⟩
|f+1,l,u,hf,hl,hu,a,b=>by
 unfold kas_place;by_cases e:l>=u
 .rw[kD e];exact⟨by lia,a,λi h1 h2=>b i (by lia) h2⟩
 rw[hU e];refine⟨g.lt hk,g.lt (by lia),?_⟩;by_cases c:r (p.getD k 0)<r (p.getD ((l+u) / 2) 0)
 .rw[show rc r (p.getD k 0) (p.getD ((l+u) / 2) 0)=true from hC c];dsimp only;rw[kD rfl];refine q7T g hk sr f l ((l+u) / 2) (by lia) (by lia) (by lia) a λi h1 h2=>?_;exact Int.lt_of_lt_of_le c (sr _ _ h1 h2)
 rw[show rc r (p.getD k 0) (p.getD ((l+u) / 2) 0)=false from kB c];dsimp only;rw[hU kX];refine q7T g hk sr f ((l+u) / 2+1) u (by lia) (by lia) hu (λi h1=>?_) b;exact r9 (sr i ((l+u) / 2) (by lia) (by lia)) (by show r _<=r _;lia)
theorem qMD{p:Array Nat}{k l:Nat}(hk:k<p.size)(hl:l<=k)(i:Nat):(bubble p k (k-l)).getD i 0=if i=l then p.getD k 0 else if l<i/\i<=k then p.getD (i-1) 0 else p.getD i 0:=by(
have e:=getElem?_bubble hk (k-l) (by lia) i
rw[show k-(k-l)=l by lia]at e
by_cases h1:i=l
.rw[kD h1]at e ⊢;exact q4X e
rw[hU h1]at e ⊢
by_cases h2:l<i/\i<=k
.rw[kD h2]at e ⊢;exact q4X e
rw[hU h2]at e ⊢
exact q4X e)
theorem qGU:∀(f:Nat) (p:Array Nat) (k:Nat),Gp n p->k+f<=n->Srt r p k->hT (rc r) n (kas_bin f p k) (λq=>Gp n q/\Srt r q (k+f))
|0,p,k,g,hz,sr=>⟨g,sr⟩
|f+1,p,k,g,hz,sr=>by
 have hs:=g.size;refine q3C _ (yY ?_ _ (q7T g (show k<n by lia) sr k 0 k (by lia) (m9 _) (kO _) (λi h=>absurd h (lM _)) λi h1 h2=>absurd h2 (by lia)));rintro l ⟨a1,a2,a3⟩
 have at':=qMD (p:=p) (k:=k) (l:=l) (by lia) a1;refine yY ?_ _ (qGU f _ (k+1) ((bubble_perm _ _ _).trans g) (by lia) λi j hij hj=>?_)
 .rintro q ⟨b1,b2⟩
  exact⟨b1,by rw[show k+(f+1)=k+1+f by lia];exact b2⟩
 show r _<=r _;rw[at',at'];by_cases i1:i=l
 .rw[kD i1];by_cases j1:j=l
  .rw[kD j1];exact gC _
  rw[hU j1,kD ⟨by lia,by lia⟩];exact pL (a3 (j-1) (by lia) (by lia))
 rw[hU i1];by_cases i2:l<i/\i<=k
 .rw[kD i2,hU (by lia),kD ⟨by lia,by lia⟩];exact sr _ _ (by lia) (by lia)
 rw[hU i2];by_cases j1:j=l
 .rw[kD j1];exact a2 i (by lia)
 rw[hU j1];by_cases j2:l<j/\j<=k
 .rw[kD j2];exact sr _ _ (by lia) (by lia)
 rw[hU j2];exact sr _ _ hij (by lia)
theorem qDY(h1:1<=n):hT (rc r) n (kas_sort n) (λp=>Gp n p/\Srt r p n):=by(
refine q3C _ (yY ?_ _ (qGT  (aX _) h1))
rintro⟨m,p⟩ ⟨a1,a2,a3,a4⟩
dsimp only at a1 a2 a3 a4 ⊢
by_cases e:m<n
.rw[kD e];refine yY ?_ _ (qGU _ p _ a1 (by lia) (by simp_all));simp_all
rw[hU e]
have:m=n:=by lia
subst this
exact⟨a1,a4⟩)
end
end L2
namespace L2
open PySem PySem.W PySem.Spec PyProof.Rows
section
variable{prog:Program}{w:World}{A:Around}{E:Value->Shared->Prop}{s:Shared}
noncomputable abbrev q7U(vs:List Value)(p:Array Nat):Array Value:=List.toArray (p.toList.map λi=>vs.getD i Value.none)
structure RkAt(prog:Program)(w:World)(A:Around)(vs:List Value)(κ:SortKind)(r:Nat->Int)(s:Shared):Prop where
kind:∀(Q:SortKind->Shared->Prop) (E:Value->Shared->Prop),Q κ s->wpAny (model prog w) A (keyKind' vs.toArray) Q E s
lt:∀i j (C:Bool->Shared->Prop),i<vs.length->j<vs.length->C (decide (r i<r j)) s->wpAny (model prog w) A (keyLt' κ (vs.getD i Value.none) (vs.getD j Value.none)) C (λ_ _=>False) s
theorem qCY{a:Addr}{vs:List Value}{n:Nat}{κ:SortKind}{P:PySem.Fin->Shared->Prop}(ho:s.heap.get? a=some (seqObj "list" vs.toArray n))(h64:vs.length<64)
 (hr:2<=vs.length->∀h',(∀b o,b≠a->s.heap.get? b=some o->h'.get? b=some o)->RkAt prog w A vs κ r { s with heap:=h' })
 (h:∀p:Array Nat,Gp vs.length p->Srt r p vs.length->P (.done (.ret .none)) { s with heap:=sortedHeap s.heap a vs (q7U vs p) }):wpAny (model prog w) A (Builtin.«list.sort» ⟨[.ref a],[]⟩) P E s:=by(
have ha:a<s.heap.objs.size:=mE ho
have O:vs.toArray.size=vs.length:=mJ ..
obtain⟨e1,g1⟩:∃e1,(s.heap.update a (Obj.mapSeq λz=>(#[]:Array Value))).get? a=some (seqObj "list" #[] e1):=⟨_,cG ho λz=>#[]⟩
have N:=kJ (seqObj "list" #[] 0) (kJ (seqObj "tuple" vs.toArray 0) g1)
rw[list_sort_plain]
refine hX (aB ho rfl (hX (cK ho rfl (hX (nJ g1 rfl ?_)) (by rw[O,dB];lia) (m9 _))))
refine hX (wpAny_newTuple (hX (cZ (g5 ?_) (m9 _))) (by show vs.length<=_;rw[dB];lia))
show wpAny (model prog w) A _ P E { s with heap:=((s.heap.update a (Obj.mapSeq λz=>(#[]:Array Value))).push (seqObj "tuple" vs.toArray 0)).push (seqObj "list" #[] 0) }
dsimp only
by_cases h2:vs.toArray.size<2
.rw[kD h2,kD h2];refine hX (kW ?_);rw[aY];refine hX (kW ?_);dsimp only;have fin:=h (List.range vs.length).toArray (aX _) λi j ag hj=>by rw[show i=j by lia];exact gC _
 have eo:(pairsOf vs).map (·.2)=q7U vs (List.range vs.length).toArray:=by
  have em:(pairsOf vs)=(List.toArray (List.range vs.length)).map (kas_item (pairsOf vs)):=by have e:=kas_range (pairsOf vs);rw[aD]at e;exact e.symm
  apply nU.mp;rw[em,bW,nV];exact wS λi _=>by show(kas_item (pairsOf vs) i).2=_;rw[kas_item_eq]
 refine hX (nJ N rfl ?_);refine hX (cK N rfl ?_ (m9 _) (by rw[Array.size_map];show(pairsOf vs).size<=_;rw[aD,dB];lia));simp only[bne_self_eq_false,pC,if_false];refine kW ?_;rw[<-eo]at fin;exact fin
rw[hU h2,hU h2]
have z:2<=vs.length:=by lia
have K:=hr z (((s.heap.update a (Obj.mapSeq λz=>(#[]:Array Value))).push (seqObj "tuple" vs.toArray 0)).push (seqObj "list" #[] 0)) λb o nb e=>kJ _ (kJ _ ((mF _ _ (cC nb)).trans e))
refine hX (K.kind _ _ ?_)
have S:SortSt.mk' κ (vs.toArray.zip vs.toArray) #[] 7 none=kas_st κ (pairsOf vs) (List.toArray (List.range vs.length)):=by have e:=kas_range (pairsOf vs);rw[aD]at e;unfold kas_st;rw[e];rfl
have D:(kas_sort vs.length).kasWp (kas_cmp prog w A κ (pairsOf vs)) (λp s'=>s'= { s with heap:=((s.heap.update a (Obj.mapSeq λz=>(#[]:Array Value))).push (seqObj "tuple" vs.toArray 0)).push (seqObj "list" #[] 0) }/\Gp vs.length p/\Srt r p vs.length) { s with heap:=((s.heap.update a (Obj.mapSeq λz=>(#[]:Array Value))).push (seqObj "tuple" vs.toArray 0)).push (seqObj "list" #[] 0) }:=by rw[<-kas_ask_eq];exact qGS (c:=rc r) (n:=vs.length) (λi j C hi hj c=>K.lt i j C hi hj c) _ (yY (λp q=>⟨rfl,q⟩) _ (qDY (by lia)))
have J:=kas_runs (E:=E) (Q:=λz d s'=>∃p:Array Nat,arrOf d=p.map (kas_item (pairsOf vs))/\failedOf d=none/\s'= { s with heap:=((s.heap.update a (Obj.mapSeq λz=>(#[]:Array Value))).push (seqObj "tuple" vs.toArray 0)).push (seqObj "list" #[] 0) }/\Gp vs.length p/\Srt r p vs.length) z h64 (λp' d s' z a2 a3 a4=>⟨p',a2,a3,a4⟩) D
rw[<-S]at J
refine hX (dM J ?_ λz z e=>e)
rintro⟨⟨⟩,d⟩ s' ⟨p,har,hf,rfl,gp,sr⟩
dsimp only
have I:(arrOf d).map (·.2)=q7U vs p:=by apply nU.mp;rw[har,bW,nV];exact wS λi _=>by show(kas_item (pairsOf vs) i).2=_;rw[kas_item_eq]
have Z:(q7U vs p).size=vs.length:=by rw[mJ,kI,gE,gp.size]
rw[I]
refine hX (nJ N rfl ?_)
refine hX (cK N rfl ?_ (m9 _) (mO (pF Z) (by rw[dB];lia)))
rw[hf]
simp only[bne_self_eq_false,pC,if_false]
exact kW (h p gp sr))
theorem qAE{l:Addr}{vs:List Value}{κ:SortKind}(hl:s.heap.IsList l vs.toArray)(h64:vs.length<64)
 (hr:2<=vs.length->∀h',(∀b o,s.heap.get? b=some o->h'.get? b=some o)->RkAt prog w A.in1.in1 vs κ r { s with heap:=h' })
 (h:∀p:Array Nat,Gp vs.length p->Srt r p vs.length->Q (.ref (s.heap.objs.size+1)) { s with heap:=sortedAll s.heap vs (q7U vs p) }):
 wpAny (model prog w) A (call (.builtin "sorted") [.ref l]) Q E s:=by(
refine Calls.call_function_entry kind_sorted plain_sorted entry_sorted (args_sorted1 _) ?_
unfold Builtin.«sorted»
refine hX (m:=checkCount "sorted" 1 1 _) (kW (hX (collect_list hl (hX (cZ ?_ (by rw[dB];show vs.length<=_;lia))))))
have d:((s.heap.push (seqObj "list" #[] 0)).update s.heap.objs.size (Obj.mapSeq (· ++vs.toArray))).objs.size=s.heap.objs.size+1:=by rw[nY,xP]
have g:(((s.heap.push (seqObj "list" #[] 0)).update s.heap.objs.size (Obj.mapSeq (· ++vs.toArray))).push (seqObj "list" vs.toArray 0)).get? (s.heap.objs.size+1)=some (seqObj "list" vs.toArray 0):=by rw[<-d];exact mW _ rfl
rw[d]
refine hX (g5 (nO slot_list_sort ⟨_,g,rfl⟩ entry_list_sort (qCY (κ:=κ) (r:=r) g h64 (λh2 h' k=>hr h2 h' λb o e=>k b o (mY (rS (mE e))) (kJ _ ((mF _ _ (rZ (mE e))).trans (kJ _ e)))) λp D z=>⟨_,rfl,?_⟩) (args_list_sort _)))
exact kW ⟨_,rfl,h p D z⟩)
end
noncomputable def lx:List Int->List Int->Bool
|a::r,b::s=>if a=b then lx r s else decide (a<b)
| [],_::_=>true
|_,[]=>false
theorem q3X:∀a:List Int,lx a a=false
| []=>rfl
|a::r=>by show(if a=a then lx r r else decide (a<a))=false;rw[kD rfl];exact q3X r
theorem q14:∀a b c:List Int,lx a b=true->lx b c=true->lx a c=true
| [],[],c,h,_=>by cases h
| [],_::_,[],_,h=>by cases h
| [],_::_,_::_,_,_=>rfl
|_::_,[],c,h,_=>by cases h
|_::_,_::_,[],_,h=>by cases h
|a::r,b::s,c::t,h,g=>by
 have h:(if a=b then lx r s else decide (a<b))=true:=h;have g:(if b=c then lx s t else decide (b<c))=true:=g;show(if a=c then lx r t else decide (a<c))=true;by_cases e1:a=b
 .subst e1;rw[kD rfl]at h;by_cases e2:a=c
  .subst e2;rw[kD rfl]at g ⊢;exact q14 r s t h g
  rw[hU e2]at g ⊢;exact g
 rw[hU e1,mD]at h;by_cases e2:b=c
 .subst e2;rw[hU e1];exact hC h
 rw[hU e2,mD]at g;rw[hU (by lia)];exact hC (by lia)
theorem q5K:∀a b:List Int,lx a b=false->lx b a=false->a=b
| [],[],_,_=>rfl
| [],_::_,h,_=>by cases h
|_::_,[],_,h=>by cases h
|a::r,b::s,h,g=>by
 have h:(if a=b then lx r s else decide (a<b))=false:=h;have g:(if b=a then lx s r else decide (b<a))=false:=g;by_cases e:a=b
 .subst e;rw[kD rfl]at h g;rw[q5K r s h g]
 rw[hU e,wW]at h;rw[hU (λz=>e z.symm),wW]at g;lia
theorem qBN{α:Type}{p q:α->Bool}:∀{l:List α} {x:α},(∀y∈l,p y=true->q y=true)->x∈l->q x=true->p x=false->l.countP p<l.countP q
|a::l,x,h,hx,h1,h2=>by
 have ml:l.countP p<=l.countP q:=pO λy hy=>h y (hG _ hy);rw[pT,pT];rcases kM.mp hx with e|hx
 .subst e;rw[h1,h2,hU kX,kD rfl];lia
 have ih:=qBN (λy hy=>h y (hG _ hy)) hx h1 h2;have ha:=h a (kY ..);cases pa:p a with
 |false=>rw[hU kX];lia
 |true=>rw[ha pa];lia
noncomputable def rkOf(ks:List (List Int))(k:List Int):Int:=((ks.countP λy=>lx y k:Nat):Int)
theorem qCZ{k:List Int}(h:k∈ks)(h':k'∈ks):rkOf ks k<rkOf ks k'↔lx k k'=true:=by(
constructor
.intro lt;cases e:lx k k' with
 |true=>rfl
 |false=>
  have:ks.countP _<=ks.countP (λy=>lx y k):=pO λy z d=>by
   cases g:lx k' k with
   |true=>exact q14 _ _ _ d g
   |false=>rw[q5K k k' e g];exact d
  unfold rkOf at lt;lia
intro e
have:=qBN (p:=λy=>lx y k)    (λy z d=>q14 _ _ _ d e) h e (q3X k)
unfold rkOf
lia)
section
variable{prog:Program}{w:World}{A:Around}{E:Value->Shared->Prop}{s:Shared}
theorem qJB{b:Bool}{x y:Int}{t:Tok}(h:Q (decide (x<y)) s):wpAny (model prog w) A (oneLt' b (.int x t) (.int y u)) Q E s:=by(
cases b with
|true=>have z:=kat_lt_int (prog:=prog) (w:=w) (A:=A) (E:=E) (t:=t) (u:=u) h;rw[keyLt'_oneType]at z;exact z
|false=>refine kat_one _ _ ?_;exact lt_int h)
theorem qBO{b:Bool}:∀{ns ms:List Int} {us vs:List Value} (i:Nat),IntsAre us ns->IntsAre vs ms->ns.length=ms.length->Q (lx ns ms) s->KatLex prog w A b false Q (us.zip vs) i s
| [],[],_,_,i,.nil,.nil,_,h=>h
|n::ns,m::ms,_,_,i,.cons _ t hn,.cons _ u hm,hl,h=>by
 refine kat_cons (wpAny_eqBool_int ?_);have h:Q (if n=m then lx ns ms else decide (n<m)) s:=h;by_cases e:n=m
 .rw[kD e]at h;rw[show(n==m)=true by rw[rF];exact e];exact kat_yes (qBO (i+1) hn hm (by simpa using hl) h)
 rw[hU e]at h;rw[show(n==m)=false by rw[rV];exact e];exact kat_no (qJB h)
| [],_::_,_,_,_,_,_,hl,_=>by simp at hl
|_::_,[],_,_,_,_,_,hl,_=>by simp at hl
noncomputable def IsTI(h:Heap)(v:Value)(k:List Int):Prop:=∃a us,v=.ref a/\h.IsTuple a us.toArray/\IntsAre us k
theorem IsTI.at{h':Heap}{v:Value}{k:List Int}(x:IsTI h v k)(e:∀b o,h.get? b=some o->h'.get? b=some o):IsTI h' v k:=let⟨a,us,e1,⟨o,e2,r⟩,i⟩:=x
 ⟨a,us,e1,⟨o,e _ _ e2,r⟩,i⟩
theorem qDZ:∀{vs:List Value} {ks:List (List Int)},Paired (IsTI h) vs ks->(∀k∈ks,0<k.length)->∃fs,KatTups h vs fs/\fs.length=ks.length/\∀v∈fs,∃i t,v=.int i t
| [],[],.nil,_=>⟨[],trivial,rfl,λv hv=>by cases hv⟩
|v::vs,k::ks,.cons x t,hp=>by
 obtain⟨fs,r,hl,hi⟩:=qDZ t λk hk=>hp k (hG _ hk);obtain⟨a,us,rfl,⟨o,ho,hc,n,hd⟩,iu⟩:=x;have h0:=hp k (kY ..);cases iu with
 |nil=>simp at h0
 |cons i t0 hr=>
  refine⟨.int i t0::fs,KatTups.cons ho hc hd (by simp) r,by simp[hl],λv hv=>?_⟩;rcases kM.mp hv with rfl|hv
  .exact⟨i,t0,rfl⟩
  exact hi v hv
theorem qE0{m:Nat}(h:Paired (IsTI s.heap) vs ks)(hw:∀k∈ks,k.length=m)(hm:0<m)(h2:2<=vs.length):RkAt prog w A vs (tuples' true) (λi=>rkOf ks (ks.getD i [])) s:=by(
have hl:=h.len
constructor
.intro Q E' q;obtain⟨fs,t,e,hi⟩:=qDZ h λk hk=>by rw[hw k hk];exact hm
 exact kat_kind (T:=Value.type "int") t (by lia) (λv hv=>by obtain⟨i,t0,rfl⟩:=hi v hv;exact .now) rfl q
intro i j C hi S c
have e1:vs[i]?=some (vs.getD i Value.none):=by rw[kL hi];simp[hi]
have e2:vs[j]?=some (vs.getD j Value.none):=by rw[kL S];simp[S]
obtain⟨z,g1,a1,J,q1,⟨o1,D,_,n1,d1⟩,i1⟩:=Paired.at h e1
obtain⟨d,O,a2,I,q2,⟨o2,N,_,n2,d2⟩,i2⟩:=Paired.at h e2
have Z:z∈ks:=gQ g1
have m2:d∈ks:=gQ O
have z1:ks.getD i []=z:=by rw[kN,g1];rfl
have z2:ks.getD j []=d:=by rw[kN,O];rfl
have ll:z.length=d.length:=by rw[hw _ Z,hw _ m2]
have c:C (lx z d) s:=by
 have y:decide (rkOf ks (ks.getD i [])<rkOf ks (ks.getD j []))=lx z d:=by rw[z1,z2,cD,mD];exact qCZ Z m2
 rw[<-y];exact c
rw[q1,q2]
refine kat_lt D d1 N d2 ?_
have f:decide (J.toArray.size<I.toArray.size)=false:=by rw[mJ,mJ,i1.length,i2.length,ll];exact kB (dX _)
rw[f]
exact qBO 0 i1 i2 ll c)
end
section
variable{X:Cx}
noncomputable def TupI(K:PySem.W.Frag)(H:Hp)(v:V)(k:List Int):Prop:=∃a,v=.ref a/\SqT K H a (k.map V.int)
theorem q4Y{s:Shared}(I:Inv X pins σ H s):∀{xs:List V} {us:List Value} {ks:List (List Int)},Vals xs us->Paired (TupI X.K H) xs ks->Paired (IsTI s.heap) us ks
| [],_,_,.nil,.nil=>.nil
|x::xs,u::us,_,.cons r t,.cons ⟨a,e,h⟩ y=>by subst e;obtain rfl:u=Value.ref a:=r;obtain⟨its,rv,p,_⟩:=I.tuple h;exact .cons ⟨a,its,rfl,p,q70 rv⟩ (q4Y I t y)
theorem q5L(r:Vals xs us):∀{q:List Nat},(∀i∈q,i<xs.length)->Vals (q.map λi=>xs.getD i .non) (q.map λi=>us.getD i Value.none)
| [],_=>.nil
|i::q,h=>by have hi:=h i (kY ..);have hl:=r.length;refine .cons ?_ (q5L r λj hj=>h j (hG _ hj));obtain⟨x,e,z⟩:=r.atN (j:=i) (by lia);show RelV (xs.getD i .non) (us.getD i Value.none);rw[kN,e,kN,kL (by lia)];exact z
theorem q4Z:q3O X (.builtin "sorted") (λxs H Q=>∃(p:Addr) (us:List V) (ks:List (List Int)) (m:Nat),xs=[.ref p]/\SqL X.K H p us/\Paired (TupI X.K H) us ks/\(∀k∈ks,k.length=m)/\0<m/\us.length<64/\∀q:List Nat,q.Perm (List.range us.length)->(q.map λi=>ks.getD i []).Pairwise (λa b=>lx b a=false)->NewO H (.lst (q.map λi=>us.getD i .non)) Q):=by(
intro pins s σ H xs us Q I r hZ
obtain⟨p,aa,ks,m,ex,hq,hk,hw,hm,h64,q⟩:=hZ
subst ex
obtain⟨u,rfl,rx⟩:=q27 r
cases rx
obtain⟨d,Z,pl,hz⟩:=I.list hq
have J:=Z.length
have S:=q4Y I Z hk
refine qAE (κ:=tuples' true) (r:=λi=>rkOf ks (ks.getD i [])) pl.isList (by lia) (λh2 h' k=>qE0 (Paired.mapP S λd d z=>z.at k) hw hm h2) λa D sr=>?_
have pp:a.toList.Perm (List.range d.length):=by have:=sU.mp D;simpa using this
obtain⟨e,he⟩:=sortedAll_at s.heap d (q7U d a)
have N:∀i∈a.toList,i<aa.length:=λi hi=>by rw[J];exact mU.mp (pp.mem_iff.mp hi)
have kl:=hk.len
have pw:(a.toList.map λi=>ks.getD i []).Pairwise (λx y=>lx y x=false):=by
 rw[gT,rB];intro i j hi O ah;rw[gE,D.size]at hi O;have z:rkOf ks (ks.getD (a.getD i 0) [])<=rkOf ks (ks.getD (a.getD j 0) []):=sr i j (by lia) O;have gi:a.getD i 0=a.toList[i]'(by rw[gE,D.size];exact hi):=by simp[Array.getD,D.size,hi]
 have gj:a.getD j 0=a.toList[j]'(by rw[gE,D.size];exact O):=by simp[Array.getD,D.size,O]
 rw[gi,gj]at z;have mem:∀x,x<ks.length->ks.getD x []∈ks:=λx hx=>by rw[kN,kL hx];exact gO hx
 cases g:lx (ks.getD (a.toList[j]'(by rw[gE,D.size];exact O)) []) (ks.getD (a.toList[i]'(by rw[gE,D.size];exact hi)) [])with
 |false=>rfl
 |true=>have lt:=(qCZ (mem _ (by rw[<-kl];exact N _ (gO _))) (mem _ (by rw[<-kl];exact N _ (gO _)))).mpr g;lia
refine⟨.ref (s.heap.objs.size+1),_,I.laid (t':=s.toks) (λz z h=>sortedAll_old h) (dN _) (show jM X.prog X.w _ _ _ (.lst _)from⟨?_,(q7U d a).toList,e,?_,he⟩),rfl,(q a.toList (by rw[J];exact pp) pw).at _ (I.hok.fresh (dN _))⟩
.rw[kI,pp.length_eq,m7,dB];lia
exact q5L Z N)
end
section
variable{X:Cx}{pins:List (Addr×Obj)}{σ:St}{H:Hp}{s:Shared}
theorem Inv.adopt{o:HO}(I:Inv X pins σ H s)(f:FpOk X pins H D)(hD:X.s₀.heap.objs.size<=D)(ok:jM X.prog X.w (upd H D o) s.heap D o):Inv X pins σ (upd H D o) s:=by(
have J:∀b d,X.s₀.heap.get? b=some d->b≠D:=λb d e=>mY (mZ (mE e) hD)
have trk:∀b u,H b=some u->b≠D:=λb u e=>qH e f.1
refine⟨I.ok,I.os,I.bare,⟨I.base.keep,I.base.slot,λb d e n x=>?_,I.base.there,λb xs e=>?_,λb d u e=>?_,λb ps e=>?_⟩,I.loc,I.cell,?_,λx c e=>?_,λp N=>?_,λb u e=>?_,I.len⟩
.rw[qE (J b d e)];exact I.base.free b d e n x
.have z:=I.base.tups b xs e;rw[qE (trk _ _ z)];exact z
.have z:=I.base.frzs b d u e;rw[qE (trk _ _ z)];exact z
.obtain⟨m,z⟩:=I.base.tbls b ps e;exact⟨m,by rw[qE (trk _ _ z)];exact z⟩
.rw[qE (λz=>f.2.1 z.symm)];exact I.free
.rw[qE (f.2.2.2.2.1 x c e)];exact I.freeC x c e
.obtain⟨a1,S,Z⟩:=I.pin p N;exact⟨a1,by rw[qE (f.2.2.2.2.2 p N)];exact S,Z⟩
by_cases O:b=D
.subst O;rw[qI]at e;cases e;exact ok
rw[qE O]at e
exact(I.hok b u e).stay (λz z z q=>q) (λc q=>by rw[qE (trk _ _ q)];exact q) λc xs q=>by rw[qE (trk _ _ q)];exact q)
theorem Inv.near(I:Inv X pins σ H s){A':Around}(h1:A'.handled=X.A.handled)(h2:A'.frames=X.A.frames)(xe:Value->Shared->Prop):Inv { X with A:=A',xe:=xe } pins σ H s:=⟨{ mod:=I.ok.mod,kind:=I.ok.kind,glob:=I.ok.glob,blt:=I.ok.blt,above:=I.ok.above,inj:=I.ok.inj,has:=I.ok.has,cab:=I.ok.cab,hd:=λc=>h1.trans (I.ok.hd c),frames:=h2.trans I.ok.frames,stk:=I.ok.stk,exf:=I.ok.exf,bs:=I.ok.bs,bsz:=I.ok.bsz,noex:=I.ok.noex,exfs:=I.ok.exfs,funs:=I.ok.funs,frf:=I.ok.frf },I.os,I.bare,I.base,I.loc,I.cell,I.free,I.freeC,I.pin,I.hok,I.len⟩
theorem qBP{P:PySem.Fin->Shared->Prop}{a:Addr}{st:SortSt}{ks:List Value}{out:List Value}(I:Inv X pins σ H s)(fa:FpOk X pins H a)(fk:FpOk X pins H kS)(ha:X.s₀.heap.objs.size<=a)(ne:kS≠a)
 (ga:s.heap.get? a=some (seqObj "list" #[] e1)) (gk:s.heap.get? kS=some (seqObj "list" ks.toArray e)) (hk:ks.length<64) (hout:(arrOf st).map (·.2)=out.toArray) (ho:out.length<64) (hf:failedOf st=none) (rv:Vals us out)
 (h:∀s',Inv X pins σ (upd H a (.lst us)) s'->P (.done (.ret .none)) s'):wpAny (model X.prog X.w) A (ksk_tail a false e1 (.ref kS) st) P EE s:=by(
unfold ksk_tail
try dsimp only
rw[hout]
refine hX (cK gk rfl ?_ (by rw[mJ,dB];lia) (m9 _))
refine hX (cB ?_)
have d:(s.heap.update kS (Obj.mapSeq λZ=>(#[]:Array Value))).get? a=some (seqObj "list" #[] e1):=(mF _ _ ne).trans ga
refine hX (nJ d rfl ?_)
refine hX (cK d rfl ?_ (m9 _) (by rw[hU kX,mJ,dB];lia))
rw[hf]
simp only[bne_self_eq_false,pC,if_false]
refine kW (h _ ?_)
obtain⟨D,J⟩:∃D,((s.heap.update kS (Obj.mapSeq λZ=>(#[]:Array Value))).update a (Obj.mapSeq λZ=>out.toArray)).get? a=some (seqObj "list" out.toArray D):=⟨_,cG d λZ=>out.toArray⟩
have O:Inv X pins σ H { s with heap:=(s.heap.update kS (Obj.mapSeq λZ=>(#[]:Array Value))).update a (Obj.mapSeq λZ=>out.toArray),toks:=s.toks }:=I.turnedN (fp:=[kS,a]) (λb o z N=>by
  simp only[kM,dL,cY,not_or]at z;exact(mF _ _ (cC z.2)).trans ((mF _ _ (cC z.1)).trans N)) (λb z=>by
  grind)
exact O.adopt fa ha (show jM X.prog X.w _ _ _ (.lst us)from⟨by rw[rv.length,dB];lia,out,D,rv,J⟩))
theorem qJC{P:PySem.Fin->Shared->Prop}{a:Addr}{ks:List Value}{kk:List (List Int)}{m:Nat}(I:Inv X pins σ H s)(fa:FpOk X pins H a)(fk:FpOk X pins H kS)(ha:X.s₀.heap.objs.size<=a)(ne:kS≠a)
 (ga:s.heap.get? a=some (seqObj "list" #[] e1)) (gk:s.heap.get? kS=some (seqObj "list" ks.toArray e)) (rz:Vals zs ks) (rv:Vals us vs) (hl:zs.length=us.length) (h64:us.length<64) (hti:Paired (TupI X.K H) zs kk) (hw:∀k∈kk,k.length=m) (hm:0<m)
 (h:∀q:List Nat,q.Perm (List.range us.length)->(q.map λi=>kk.getD i []).Pairwise (λa b=>lx b a=false)->∀s',Inv X pins σ (upd H a (.lst (q.map λi=>us.getD i .non))) s'->P (.done (.ret .none)) s'):
 wpAny (model X.prog X.w) A (ksk_end a false vs.toArray e1 (.ref kS) ks.toArray) P EE s:=by(
have l1:=rz.length
have l2:=rv.length
have l3:=hti.len
have N:ks.length=vs.length:=by lia
unfold ksk_end
try dsimp only
rw[hU kX]
by_cases h2:vs.toArray.size<2
.rw[kD h2,kD h2];refine hX (kW ?_);rw[aY];refine hX (kW ?_);try dsimp only
 have ag:vs.length<2:=by rw[mJ]at h2;exact h2
 refine qBP (out:=vs) (us:=us) I fa fk ha ne ga gk (by lia) ?_ (by lia) rfl rv λs' Z=>?_
 .rw[hU kX];show(ks.toArray.zip vs.toArray).map (·.2)=vs.toArray;apply nU.mp;rw[nV,Array.toList_zip];show(ks.zip vs).map Prod.snd=vs;exact List.map_snd_zip (by lia)
 have e:(List.range us.length).map (λi=>us.getD i .non)=us:=by refine wA (by simp) λi h1 h3=>?_;rw[nZ,sV,kN,kL h3];rfl
 have z:=h (List.range us.length) (sX _) (by rw[gT,rB];intro i j hi D S;rw[m7]at hi D;lia);rw[e]at z;exact z s' Z
rw[hU h2,hU h2]
have O:2<=ks.length:=by rw[mJ]at h2;lia
have K:=qE0 (prog:=X.prog) (w:=X.w) (A:=A) (s:=s) (q4Y I rz hti) hw hm O
refine hX (K.kind _ _ ?_)
rw[hU kX]
refine hX (dM (kat_run (κ:=tuples' true) (G:=λp s'=>s'=s/\Gp vs.length p/\Srt (λi=>rkOf kk (kk.getD i [])) p vs.length) (Q:=λd s'=>∃p:Array Nat,arrOf d=p.map (kas_item (ks.toArray.zip vs.toArray))/\failedOf d=none/\s'=s/\Gp vs.length p/\Srt (λi=>rkOf kk (kk.getD i [])) p vs.length) N (by lia) (by lia) (λp' d s' z a2 a3 a4=>⟨p',a2,a3,a4⟩) ?_) ?_ λz z x=>x)
.refine qGS (c:=rc λi=>rkOf kk (kk.getD i [])) (n:=vs.length) (λi j C hi D c=>K.lt i j C (by lia) (by lia) c) _ (yY (λp q=>⟨rfl,q⟩) _ (qDY (by lia)))
rintro⟨⟨⟩,d⟩ s' ⟨p,har,hf,rfl,gp,sr⟩
try dsimp only
have pp:p.toList.Perm (List.range vs.length):=by have:=sU.mp gp;simpa using this
have J:∀i∈p.toList,i<us.length:=λi hi=>by rw[l2];exact mU.mp (pp.mem_iff.mp hi)
have pw:(p.toList.map λi=>kk.getD i []).Pairwise (λx y=>lx y x=false):=by
 rw[gT,rB];intro i j hi D S;rw[gE,gp.size]at hi D;have z:rkOf kk (kk.getD (p.getD i 0) [])<=rkOf kk (kk.getD (p.getD j 0) []):=sr i j (by lia) D;have gi:p.getD i 0=p.toList[i]'(by rw[gE,gp.size];exact hi):=by simp[Array.getD,gp.size,hi]
 have gj:p.getD j 0=p.toList[j]'(by rw[gE,gp.size];exact D):=by simp[Array.getD,gp.size,D]
 rw[gi,gj]at z;have mem:∀x,x<kk.length->kk.getD x []∈kk:=λx hx=>by rw[kN,kL hx];exact gO hx
 cases g:lx (kk.getD (p.toList[j]'(by rw[gE,gp.size];exact D)) []) (kk.getD (p.toList[i]'(by rw[gE,gp.size];exact hi)) [])with
 |false=>rfl
 |true=>have b1:=J _ (gO (show j<p.toList.length by rw[gE,gp.size];exact D));have b2:=J _ (gO (show i<p.toList.length by rw[gE,gp.size];exact hi));have lt:=(qCZ (mem _ (by lia)) (mem _ (by lia))).mpr g;lia
exact qBP (out:=p.toList.map λi=>vs.getD i Value.none) (us:=p.toList.map λi=>us.getD i .non) I fa fk ha ne ga gk (by lia) (kat_snds N har) (by rw[kI,pp.length_eq,m7];lia) hf (q5L rv J) λs' Z=>h p.toList (by rw[l2];exact pp) pw s' Z)
end
theorem qBQ:∀a b:List Int,HT.lexLt a b=lx a b
| [],[]=>rfl
| [],_::_=>rfl
|_::_,[]=>rfl
|x::xs,y::ys=>by show(if x=y then HT.lexLt xs ys else decide (x<y))=(if x=y then lx xs ys else decide (x<y));rw[qBQ xs ys]
end L2
namespace W1
open PySem L2
theorem lx2{a b c:Int}:lx [a,b] [c,d]=(if a=c then(if b=d then false else decide (b<d))else decide (a<c)):=rfl
end W1
namespace L2
open PySem PySem.Spec PyProof.Rows
theorem qJD{X:Cx}{K:PySem.W.Frag}{k:Nat}{t:TGs}{n:Nat}(e:X.K=K)(hc:X.calm=true)(h:PGs X es t)(hn:(assignEach es X.env).length=n)(hst:(assignEach es X.env).findIdx? (·.1)=none):PG X (.Tuple es k pos) (gTup K n t):=by subst e;exact qA3 hc h hn hst
noncomputable def q6D(v a:Addr):HO:=.ext λh=>h.IsItemsView v a
theorem qGV{P:Program}{w:World}{h:Heap}{v a:Addr}(e:h.IsItemsView v a):jM P w H h v (q6D v a):=by obtain⟨o,D,J,I⟩:=id e;exact⟨e,⟨_,D⟩,λ_ _ ⟨o,z,d⟩ k=>⟨o,k _ z,d⟩⟩
theorem qGW{P:Program}{w:World}{v a:Addr}(ok:HOk P w H h)(e:H v=some (q6D v a)):h.IsItemsView v a:=(ok v _ e).1
noncomputable def qME:V->List V->Hp->VK->Prop:=λx vs H Q=>∃a kvs,x=.ref a/\vs=[]/\H a=some (.dK kvs)/\∀v,H v=none->Q (.ref v) (upd H v (q6D v a))
theorem qGX:MtR X "dict.items" qME:=by(
intro pins s σ H x vs v us Q I O rv Z
obtain⟨a,kvs,ex,J,ha,q⟩:=Z
subst ex J
cases O
have d:=rv.zero
subst d
obtain⟨z,lo,N,S,D⟩:=qB9 I.hok ha
refine call_meetsIn lB D.typeIs PySem.F.entry_dict_items (PySem.F.args_dict_items_1 _) (meets_dict_items _ a lo) ⟨⟨N,D⟩,?_⟩
exact⟨.ref _,_,I.laid  (λb o e=>kJ _ e) (kO _) (qGV ⟨_,mW _ rfl,rfl,rfl⟩),rfl,q _ (I.hok.fresh (kO _))⟩)
theorem q7V:entryFor table "dict_itemiterator.__iter__"=some Builtin.«dict_keyiterator.__iter__»:=entryFor_alias (id':="dict_keyiterator.__iter__") (by kernel_rfl) (by rfl) (by decide+kernel) (by kernel_rfl)
noncomputable def Iti(a:Addr)(o:Obj)(kvs:List (Key×V)):It:=⟨λi H=>H a=some (.frz o (.dK kvs))/\i<kvs.length,λi H v H'=>∃T kv,v=.ref T/\H T=none/\H'=upd H T (.tup [kV kv.1,kv.2])/\kvs[i]?=some kv,λi H=>H a=some (.frz o (.dK kvs))/\kvs.length<=i⟩
theorem qD0{P:Program}{w:World}{K:PySem.W.Frag}{x1}(a it:Addr)(o:Obj)(rel:KV kvs vs)(hD:∀h:Heap,h.get? a=some o->h.DictAt (yF P w) a vs ep):
 Turn P w K (.Tuple elts x1 pos) (Iti a o kvs) [it] it (λi h=>∃k0 v0,IsItemIter h it a i vs.length ep k0 v0) where
mem:=by simp
obj:=λi h st b d=>by
 have e:b=it:=by simpa using d
 subst e;obtain⟨k0,v0,e⟩:=st;exact⟨_,e,λv z=>by cases z⟩
keep:=λi h h' st k=>let⟨k0,v0,e⟩:=st;⟨k0,v0,k it (by simp) _ e⟩
item:=by
 intro X hP hw hK hc i pins s σ H E I Z st hg;subst hP hw hK;obtain⟨ha,hi⟩:=hg;obtain⟨N,_⟩:=I.hok a _ ha;have hl:=rel.length;have D:i<vs.length:=by lia
 obtain⟨k0,v0,st⟩:=st;obtain⟨f0,f1,f2,f3,f4,f5⟩:=Z it (by simp);refine wpAny_pyNext_items_item (k:=vs[i].1) (v:=vs[i].2) st (hD _ N) (kL D) λJ h' hk b1 b5 b6 b7=>?_;refine⟨_,rfl,wpAny_letOwnedTupleGo_items (s:={ s with heap:=h' }) b1 λS c1 c2=>?_⟩;have kk:∀b o,b∉[it]->s.heap.get? b=some o->S.get? b=some o:=λb o d e=>by have nb:b≠it:=λz=>d (kE.mpr z);exact c2.extBut _ _ nb (b7 b o nb e)
 have I1:Inv X pins σ H { s with heap:=S }:=I.turnedN (t':=s.toks) kk Z;have fr:H s.heap.objs.size=none:=I.hok.fresh (kO _);have yg:=I.young (a:=s.heap.objs.size) (pZ (kO _));have O:s.heap.objs.size≠it:=rZ (mE st);have ek:=dW (λl=>l[i]?) rel.keys;simp only[mM,kL hi,kL D,aW]at ek;have rk:RelV (kV kvs[i].1) J:=by rw[kU ek];exact qKU hk
 have rv:RelV kvs[i].2 vs[i].2:=by obtain⟨q,hq,z1,z2⟩:=Paired.at rel (kL hi);rw[kL D]at hq;rw[kU hq];exact z2
 have I2:=I1.trackG (o:=.tup [kV kvs[i].1,kvs[i].2]) fr yg (rZ I.lt) (λx' c' w q'=>by obtain⟨v,o',N,_⟩:=I.cell x' c' w;exact absurd (mE N) (by rw[q'];exact dX _)) ⟨by rw[dB,mP,mP,cE];lia,[J,vs[i].2],.cons rk (.cons rv .nil),⟨_,c2.extBut _ _ O b5,rfl,_,rfl⟩⟩;refine⟨.ref s.heap.objs.size,_,I2,rfl,⟨_,kvs[i],rfl,fr,rfl,kL hi⟩,⟨_,_,c1⟩,λb d=>?_⟩;have e:b=it:=by simpa using d
 subst e;rw[qE (cC O)];exact(Z b d).1
done:=by intro X hP hw hK hc i pins s σ H E I Z st hg;subst hP hw hK;obtain⟨ha,hi⟩:=hg;obtain⟨N,_⟩:=I.hok a _ ha;have hl:=rel.length;obtain⟨k0,v0,st⟩:=st;obtain⟨f0,f1,f2,f3,f4,f5⟩:=Z it (by simp);exact wpAny_pyNext_items_end (I.ok.hd hc) st (hD _ N) (wE (by lia)) λh' eb=>⟨rfl,I.turned (t':=s.toks) (λb o d e=>eb b o d e) f0 f1 f3 f4 f5⟩
self:=λA i s Q E ⟨k0,v0,st⟩ h=>by have ty:s.TypeIs (.ref it) "dict_itemiterator":=⟨_,st,rfl⟩;refine wpAny_pyIter_slot ty c7 (nO c7 ty q7V ?_ (PySem.F.args_dict_itemiterator_iter_1 _));show wpAny _ _ (ret (.ref it)) _ _ s;exact kW ⟨_,rfl,"dict_itemiterator",_,ty,PySem.F.slot_dict_itemiterator_next.lookup,h⟩
section
variable{X:Cx}
noncomputable def iItm(td:TE):TI:=λσ H R=>td σ H λx H1=>∃v a kvs,x=.ref v/\H1 v=some (q6D v a)/\H1 a=some (.dK kvs)/\∀o,R (Iti a o kvs) (upd H1 a (.frz o (.dK kvs)))
theorem qMF{x1}(hd:PE X d td):PI X (.Tuple elts x1 pos) d (iItm td):=by(
intro pins s σ H R I h
refine thn (hd _ s σ H _ I h) λv Z hZ=>?_
obtain⟨x,H1,O,r1,q1⟩:=hZ
obtain⟨vw,a,kvs,e,hv,S,q⟩:=q1
subst e
cases r1
obtain⟨z,lo,vs,J,dd⟩:=qB9 O.hok S
obtain⟨ep,D⟩:=dd.dictAt
obtain⟨o,es,ho,hr⟩:=id D
have N:=O.freeze S ho
refine wpAny_pyIter_items (qGW O.hok hv) D ?_
refine⟨Z.heap.objs.size,[Z.heap.objs.size],_,_,_,rfl,N.kept  λb o e=>kJ _ e,qD0 a _ o J (λh' h=>⟨o,es,h,hr⟩),⟨_,_,mW _ rfl⟩,λb hb=>?_,q o⟩
have e:=by simpa using hb
subst e
exact N.fpOk (kO _) (N.hok.fresh (kO _)))
end
theorem qJE{a:Addr}{o:Obj}{kvs:List (Key×V)}{D:Addr}{H2:Hp}{g:TG}{tc:TT}{te:TE}{σ0:St}{R:Hp->Prop}(Pv:Nat->Hp->Prop)(h0:Pv 0 H2)(hl:∀i H,Pv i H->H a=some (.frz o (.dK kvs)))
 (hs:∀(i:Nat) kv T H,kvs[i]?=some kv->Pv i H->H T=none->g (.ref T) σ0 (upd H T (.tup [kV kv.1,kv.2])) λσ5 H5=>tc σ5 H5 λb H6=>if b=true then te σ5 H6 (λv H7=>∃vs,H7 D=some (.lst vs)/\vs.length<sizeLine/\Pv (i+1) (upd H7 D (.lst (vs++[v]))))else Pv (i+1) H6) (hd:∀H,Pv kvs.length H->R H):
 ∃W:Nat->Nat->Hp->Prop,(∃m,W 0 m H2)/\∀i m H3,W i m H3->((Iti a o kvs).stop i H3/\R H3)\/((Iti a o kvs).go i H3/\∃N:Hp->Prop,(∀H',N H'->∃m',m'<m/\W (i+1) m' H')/\∀x H4,(Iti a o kvs).yld i H3 x H4->g x σ0 H4 λσ5 H5=>tc σ5 H5 λb H6=>
   if b=true then te σ5 H6 (λv H7=>∃vs,H7 D=some (.lst vs)/\vs.length<sizeLine/\N (upd H7 D (.lst (vs++[v]))))else N H6):=by(
refine⟨λi m H=>m=kvs.length-i/\i<=kvs.length/\Pv i H,⟨kvs.length,by simp,m9 _,h0⟩,?_⟩
rintro i m H ⟨rfl,hi,p⟩
have q:=hl i H p
by_cases d:i<kvs.length
.refine .inr ⟨⟨q,d⟩,Pv (i+1),λH' z=>⟨kvs.length-(i+1),by lia,rfl,by lia,z⟩,?_⟩;rintro v H' ⟨T,kv,rfl,nT,rfl,I⟩
 exact hs i kv T _ I p nT
obtain rfl:i=kvs.length:=by lia
exact .inl ⟨⟨q,kO _⟩,hd _ p⟩)
end L2
namespace L2
open PySem PySem.W PySem.Spec PyProof.Rows
section
variable{X:Cx}{pins:List (Addr×Obj)}{σ:St}
noncomputable def TupD(H:Hp)(v:V)(k:List Int):Prop:=∃a,v=.ref a/\H a=some (.tup (k.map V.int))
theorem TupD.i{K:PySem.W.Frag}{v:V}{k:List Int}(h:TupD H v k):TupI K H v k:=let⟨a,e,z⟩:=h;⟨a,e,SqT.of z⟩
theorem TupD.same{v:V}{k:List Int}(h:TupD H v k)(s:Same H H'):TupD H' v k:=let⟨a,e,z⟩:=h;⟨a,e,s _ _ z⟩
theorem TupD.upd{v:V}{k:List Int}{o:HO}(h:TupD H v k)(hd:H D=some u)(n:∀ys,u≠ .tup ys):TupD (L2.upd H D o) v k:=let⟨a,e,z⟩:=h;⟨a,e,by rw[qE (jQ z hd (λq=>n _ q.symm))];exact z⟩
noncomputable def dI(ks:List (Int×Int)):List (Key×V):=ks.map λp=>((.inl p.1:Key),V.int p.2)
theorem q1I:∀{ks:List (Int×Int)} {n m:Int},(ks.map (·.1)).Nodup->(n,m)∈ks->valV (dI ks) (.inl n:Key)=some (.int m)
|p::ks,n,m,nd,h=>by
 obtain⟨n1,n2⟩:=gD.mp nd;show valV (((.inl p.1:Key),V.int p.2)::dI ks) (.inl n)=_;rcases kM.mp h with rfl|h
 .exact q4R rfl
 have ne:p.1≠n:=λe=>n1 (by show p.1∈_;rw[e];exact sJ (f:=λx:Int×Int=>x.1) h);rw[q2A (λe=>ne (nH e))];exact q1I n2 h
theorem q3Y:∀{ks:List (Int×Int)} {n:Int},n∉ks.map (·.1)->valV (dI ks) (.inl n:Key)=none
| [],n,_=>rfl
|p::ks,n,h=>by
 show valV (((.inl p.1:Key),V.int p.2)::dI ks) (.inl n)=_;have h':n≠p.1/\n∉ks.map (·.1):=by simpa using h
 rw[q2A (λe=>h'.1 (nH e).symm)];exact q3Y h'.2
end
end L2
namespace W1
theorem jA{α:Type}(l:List α)(i j:Nat)(x d:α):(l.set i x).getD j d=if i=j/\i<l.length then x else l.getD j d:=by(
rw[kN,List.getElem?_set,kN]
by_cases h:i=j
.subst h;rw[kD rfl];by_cases h2:i<l.length
 .rw[kD h2,kD ⟨rfl,h2⟩];rfl
 rw[hU h2,hU (λz=>h2 z.2),wE (by lia)]
rw[hU h,hU (λz=>h z.1)])
theorem jZ{P b j:Nat}(h:j<P):(b*P+j) / P=b:=by rw[dZ,Nat.mul_add_div (by lia),Nat.div_eq_of_lt h,sO]
theorem q1J{α:Type}[DecidableEq α]:∀{l m:List α},l.Nodup->m.Nodup->(∀x,x∈l↔x∈m)->l.Perm m
| [],m,_,_,h=>by
 cases m with
 |nil=>exact .nil
 |cons a m=>exact absurd ((h a).mpr kY) (by simp)
|a::l,m,h1,h2,h=>by
 have ha:=(h a).mp kY;obtain⟨n1,n2⟩:=gD.mp h1;refine List.Perm.trans (List.Perm.cons a (q1J n2 (h2.erase a) λx=>?_)) (List.perm_cons_erase ha).symm;rw[List.Nodup.mem_erase_iff h2];constructor
 .intro hx;exact⟨λe=>n1 (e▸hx),(h x).mp (hG _ hx)⟩
 rintro⟨ne,hx⟩
 exact(kM.mp ((h x).mpr hx)).resolve_left ne
theorem q9Q{α:Type}[DecidableEq α]:∀{l m:List α},l.Nodup->(∀x∈l,x∈m)->l.length<=m.length
| [],_,_,_=>m9 _
|a::l,m,h1,h=>by obtain⟨n1,n2⟩:=gD.mp h1;have ha:=h a kY;have:=q9Q (m:=m.erase a) n2 λx hx=>(List.mem_erase_of_ne (show x≠a from λe=>n1 (e▸hx))).mpr (h x (hG _ hx));rw[List.length_erase_of_mem ha]at this;have h0:=lI ha;rw[mP];lia
noncomputable abbrev Mp:=List (Int×Int)
noncomputable def jB(W:Mp)(n:Int):Mp:=W.filter λq=>decide (q.1≠n)
noncomputable def putW(W:Mp)(n p:Int):Mp:=if(W.any λq=>decide (q.1=n))=true then W.map (λq=>if q.1=n then(q.1,p)else q)else W++[(n,p)]
theorem qY{n:Int}:q∈jB W n↔q∈W/\q.1≠n:=by unfold jB;rw[mL,mD]
theorem qE1{W:Mp}(h:(W.map (·.1)).Nodup):W.Nodup:=(gT.mp h).imp λz e=>z (dW _ e)
theorem qMG{W:Mp}(h:(W.map (·.1)).Nodup)(hq:q∈W)(hr:r∈W)(e:q.1=r.1):q=r:=by(
induction W with
|nil=>grind
|cons a W J=>
 obtain⟨d,D⟩:=gD.mp h;rcases kM.mp hq with I|h1
 .rcases kM.mp hr with z|h2
  .simp_all
  exact absurd (by show a.1∈_;rw[<-I,e];exact sJ  h2) d
 rcases kM.mp hr with z|h2
 .exact absurd (by show a.1∈_;rw[<-z,<-e];exact sJ  h1) d
 exact J D h1 h2)
theorem q50{W:Mp}{n:Int}(h:(W.map (·.1)).Nodup):((jB W n).map (·.1)).Nodup:=(h.sublist ((rW ..).map _))
theorem qGY{W:Mp}{n p:Int}(h:(W.map (·.1)).Nodup):q∈putW W n p↔q=(n,p)\/q∈jB W n:=by(
unfold putW
by_cases e:(W.any λq=>decide (q.1=n))=true
.rw[kD e,kZ];obtain⟨r,J,d⟩:=wC.mp e;have d:=kP d;constructor
 .rintro⟨x,D,rfl⟩
  by_cases ex:x.1=n
  .rw[kD ex];exact .inl (by rw[ex])
  rw[hU ex];exact .inr (qY.mpr ⟨D,ex⟩)
 rintro(rfl|h2)
 .exact⟨r,J,by rw[kD d,d]⟩
 obtain⟨a,b⟩:=qY.mp h2;exact⟨q,a,hU b⟩
rw[hU e,gN,kE]
have I:=λx D z=>e (wC.mpr ⟨x,D,hC z⟩)
constructor
.rintro(h1|h1)
 .exact .inr (qY.mpr ⟨h1,I _ h1⟩)
 exact .inl h1
rintro(h1|h1)
.exact .inr h1
exact .inl (qY.mp h1).1)
theorem q9R{W:Mp}{n p:Int}(h:(W.map (·.1)).Nodup):((putW W n p).map (·.1)).Nodup:=by(
unfold putW
by_cases e:(W.any λq=>decide (q.1=n))=true
.rw[kD e,pM];have:(λx=>x.1) ∘ (λq=>if q.1=n then(q.1,p)else q)=λx=>x.1:=by funext x;show(if x.1=n then(x.1,p)else x).1=x.1;split<;>rfl
 rw[this];exact h
rw[hU e,m8]
refine dO.mpr ⟨h,by simp,λa I b d z=>e ?_⟩
obtain⟨x,D,rfl⟩:=kZ.mp I
have d:=by simpa using d
exact wC.mpr ⟨x,D,hC (by rw[z,d])⟩)
theorem qGZ{W V:Mp}{n p:Int}(h:(W.map (·.1)).Nodup)(pm:V.Perm W):(jB V n++[(n,p)]).Perm (putW W n p):=by(
have D:=(pm.map _).nodup_iff.mpr h
refine q1J ?_ (qE1 (q9R h)) λx=>?_
.refine dO.mpr ⟨qE1 (q50 D),by simp,λa I b d z=>?_⟩;have d:=by simpa using d
 exact(qY.mp I).2 (by rw[z,d])
rw[qGY h,gN,kE,qY,qY,pm.mem_iff]
constructor
.rintro(a|a)
 .exact .inr a
 exact .inl a
rintro(a|a)
.exact .inr a
exact .inl a)
noncomputable def cntB(P:Nat)(W:Mp)(b:Nat):Nat:=W.countP λq=>decide (q.2 / (P:Int)=(b:Int))
theorem q51{P:Nat}{W:Mp}{n p:Int}{b:Nat}(nd:(W.map (·.1)).Nodup)(h:(n,p)∈W):cntB P W b=cntB P (jB W n) b+if p / (P:Int)=(b:Int)then 1 else 0:=by(
have D:W.Perm ((n,p)::jB W n):=q1J (qE1 nd) (gD.mpr ⟨λz=>(qY.mp z).2 rfl,qE1 (q50 nd)⟩) λx=>by
 rw[kM,qY];constructor
 .intro d;by_cases e:x.1=n
  .exact .inl (qMG nd d h e)
  exact .inr ⟨d,e⟩
 rintro(rfl|d)
 .exact h
 exact d.1
unfold cntB
rw[D.countP_eq,pT]
lia)
theorem qJF{n:Int}(h:∀q∈W,q.1≠n):jB W n=W:=rA.mpr λq hq=>hC (h q hq)
structure BM where
P:Nat
B:Nat
ns:List Int
W:Mp
V:Mp
nx:Int
bs:List (Option Int)
ss:List Int
lv:List Int
fi:List Int
bo:List Int
namespace BM
variable{m:BM}
noncomputable def lvF(P:Nat)(V:Mp)(lv:List Int)(n:Int):List Int:=match V.find? λq=>decide (q.1=n)with
|some q=>lv.set (q.2 / (P:Int)).toNat (lv.getD (q.2 / (P:Int)).toNat 0-1)
|none=>lv
end BM
end W1
namespace L2
open PySem PySem.Spec PyProof.Rows
theorem q5M{n j:Nat}(h:j<n):ixN n (j:Int)=some j:=by(
unfold ixN
simp_all)
theorem qH0{V:List (Int×Int)}{n:Int}:q7M (dI V) (Sum.inl n:Key)=dI (W1.jB V n):=by(
unfold q7M dI W1.jB
rw[List.filter_map]
congr 1
apply pN
simp)
theorem qJG{n p:Int}:putK (dI W) (Sum.inl n:Key) (.int p)=dI (W1.putW W n p):=by(
unfold putK dI W1.putW
have e:((W.map λp=>((Sum.inl p.1:Key),V.int p.2)).any λd=>decide (d.1=Sum.inl n))=W.any λq=>decide (q.1=n):=by
 rw[List.any_map];congr 1;funext q;simp
rw[e]
by_cases h:(W.any λq=>decide (q.1=n))=true
.rw[kD h,kD h,pM,pM];apply wS;intro q _;show(if(Sum.inl q.1:Key)=Sum.inl n then((Sum.inl q.1:Key),V.int p)else((Sum.inl q.1:Key),V.int q.2))=_;by_cases e:q.1=n
 .rw[kD (by rw[e])];show _=(λp=>((Sum.inl p.1:Key),V.int p.2)) (if q.1=n then(q.1,p)else q);rw[kD e]
 rw[hU (λz=>e (nH z))];show _=(λp:Int×Int=>((Sum.inl p.1:Key),V.int p.2)) (if q.1=n then(q.1,p)else q);rw[hU e]
rw[hU h,hU h,m8]
rfl)
theorem qF7{V:List (Int×Int)}{n p:Int}:W1.putW (W1.jB V n) n p=W1.jB V n++[(n,p)]:=by(
unfold W1.putW
rw[hU]
intro h
obtain⟨q,d,e⟩:=wC.mp h
exact(W1.qY.mp d).2 (kP e))
theorem setV{ns:List Int}{c:Nat}{x:Int}:(ns.map V.int).set c (.int x)=(ns.set c x).map V.int:=by simp
theorem atV{ns:List Int}{c:Nat}(h:c<ns.length):atI (ns.map V.int) (c:Int)=some (.int (ns.getD c 0)):=by refine zO ?_;rw[mM,kN,kL h];rfl
theorem qD1:∀{A B:List (List Int)},A.Perm B->A.Pairwise (λa b=>lx b a=false)->B.Pairwise (λa b=>lx b a=false)->A=B
| [],B,p,_,_=>(xG.mp p).symm▸rfl
|a::A,[],p,_,_=>absurd p.length_eq (by simp)
|a::A,b::B,p,h1,h2=>by
 have e:a=b:=by
  by_cases e:a=b
  .exact e
  have D:b∈A:=(kM.mp (p.mem_iff.mpr kY)).resolve_left (λz=>e z.symm);have d:a∈B:=(kM.mp (p.mem_iff.mp kY)).resolve_left e;exact q5K a b ((g9.mp h2).1 a d) ((g9.mp h1).1 b D)
 subst e;rw[qD1 ((bH a).mp p) (g9.mp h1).2 (g9.mp h2).2]
theorem q52:∀{A B:List Int},A.Perm B->A.Pairwise (·<=·)->B.Pairwise (·<=·)->A=B
| [],B,p,_,_=>(xG.mp p).symm▸rfl
|a::A,[],p,_,_=>absurd p.length_eq (by simp)
|a::A,b::B,p,h1,h2=>by
 have e:a=b:=by
  by_cases e:a=b
  .exact e
  have D:b∈A:=(kM.mp (p.mem_iff.mpr kY)).resolve_left (λz=>e z.symm);have d:a∈B:=(kM.mp (p.mem_iff.mp kY)).resolve_left e;have:=(g9.mp h2).1 a d;have:=(g9.mp h1).1 b D;lia
 subst e;rw[q52 ((bH a).mp p) (g9.mp h1).2 (g9.mp h2).2]
theorem qH1{a:Addr}{o:Obj}{kvs:List (Key×V)}{D:Addr}{H2:Hp}{g:TG}{tc:TT}{te:TE}{σ0:St}{R:Hp->Prop}(Pv:Nat->Hp->Prop)(h0:Pv 0 H2)(hl:∀i H,Pv i H->H a=some (.frz o (.dK kvs)))
 (hs:∀(i:Nat) kv H,kvs[i]?=some kv->Pv i H->g (kV kv.1) σ0 H λσ5 H5=>tc σ5 H5 λb H6=>if b=true then te σ5 H6 (λv H7=>∃vs,H7 D=some (.lst vs)/\vs.length<sizeLine/\Pv (i+1) (upd H7 D (.lst (vs++[v]))))else Pv (i+1) H6) (hd:∀H,Pv kvs.length H->R H):
 ∃W:Nat->Nat->Hp->Prop,(∃m,W 0 m H2)/\∀i m H3,W i m H3->((Itd a o kvs).stop i H3/\R H3)\/((Itd a o kvs).go i H3/\∃N:Hp->Prop,(∀H',N H'->∃m',m'<m/\W (i+1) m' H')/\∀x H4,(Itd a o kvs).yld i H3 x H4->g x σ0 H4 λσ5 H5=>tc σ5 H5 λb H6=>if b=true then te σ5 H6 (λv H7=>∃vs,H7 D=some (.lst vs)/\vs.length<sizeLine/\N (upd H7 D (.lst (vs++[v]))))else N H6):=qJ8 (Q:=λz H=>R H) Pv h0 hl hs hd
theorem q7W{ks:List (List Int)}{q:List Nat}{n:Nat}(hn:ks.length=n)(p:q.Perm (List.range n)):(q.map λi=>ks.getD i []).Perm ks:=by(
refine(p.map _).trans ?_
have e:(List.range n).map (λi=>ks.getD i [])=ks:=by
 apply wA
 .rw[kI,m7,hn]
 intro i h1 h2;rw[nZ,sV,kN,kL h2];rfl
rw[e])
theorem q7X{F:V->List Int->Prop}{us:List V}{ks:List (List Int)}{q:List Nat}(h:Paired F us ks)(hq:∀i∈q,i<us.length):Paired F (q.map λi=>us.getD i .non) (q.map λi=>ks.getD i []):=by(
refine q9P (by rw[kI,kI]) λj x k I d=>?_
rw[mM]at I d
obtain⟨i,hi,rfl⟩:=mH.mp I
rw[hi]at d
obtain rfl:=kU d
have hl:=hq i (gQ hi)
have J:us[i]?=some (us.getD i .non):=by rw[kN,kL hl];rfl
obtain⟨k,D,z⟩:=Paired.at h J
show F _ (ks.getD i [])
rw[show ks.getD i []=k from by rw[kN,D];rfl]
exact z)
theorem vT(h:Paired (TupD H) us ks)(s:Same H H'):Paired (TupD H') us ks:=Paired.mapP h λd d z=>z.same s
theorem qE2{K:PySem.W.Frag}(h:Paired (TupD H) us ks):Paired (TupI K H) us ks:=Paired.mapP h λd d z=>z.i
theorem qF8{lo:Int}{n:Nat}{D:Addr}{H2:Hp}{g:TG}{tc:TT}{te:TE}{σ0:St}{R:Hp->Prop}(Pv:Nat->Hp->Prop)(h0:Pv 0 H2)
 (hs:∀(i:Nat) H,i<n->Pv i H->g (.int (lo+i)) σ0 H λσ5 H5=>tc σ5 H5 λb H6=>if b=true then te σ5 H6 (λv H7=>∃vs,H7 D=some (.lst vs)/\vs.length<sizeLine/\Pv (i+1) (upd H7 D (.lst (vs++[v]))))else Pv (i+1) H6) (hd:∀H,Pv n H->R H):
 ∃W:Nat->Nat->Hp->Prop,(∃m,W 0 m H2)/\∀i m H3,W i m H3->((Itr lo n).stop i H3/\R H3)\/((Itr lo n).go i H3/\∃N:Hp->Prop,(∀H',N H'->∃m',m'<m/\W (i+1) m' H')/\∀x H4,(Itr lo n).yld i H3 x H4->g x σ0 H4 λσ5 H5=>tc σ5 H5 λb H6=>if b=true then te σ5 H6 (λv H7=>∃vs,H7 D=some (.lst vs)/\vs.length<sizeLine/\N (upd H7 D (.lst (vs++[v]))))else N H6):=qBK (Q:=λz H=>R H) Pv h0 hs hd
theorem qH2{a:Addr}(ha:H a=some u)(k:∀b o,b≠a->H b=some o->H3 b=some o):Same H (upd H3 a u):=λb o e=>by(
by_cases z:b=a
.rw[z,qI,<-ha,<-z];exact e
rw[qE z]
exact k b o z e)
theorem uN{X:Cx}{K:PySem.W.Frag}{f:Str}(eK:X.K=K)(he:PE X e ta)(hb:attributeBase e f X.env (eval e X.env)=eval e X.env):PE X (.Attribute e f pos) (tFld K ta f):=by subst eK;exact qJ he hb
end L2
namespace L2
open PySem PySem.W PySem.Spec PyProof.Rows
noncomputable def BmIn(base:Heap)(mg:Str->Option Value):Prop:=∃bm o,mg "__builtins__"=some (.ref bm)/\bm≠builtinsNs/\base.get? bm=some o/\o.cls=.type "module"/\o.dict=some builtinsNs/\o.data=.plain
theorem qF9{P:Program}{w:World}{K:PySem.W.Frag}{mg:Str->Option Value}{k:Nat}{a:Addr}{fd:FuncData}{x:Str}{sp:Sp}{s₁:Shared}{vs:List Value}{ns:List Int}(ts:List Addr)
 (KX:K.In s₁.heap) (hts:∀T∈ts,s₁.heap.get? T=some (tabObj #[])/\K.lookup T=none/\∃c,codeHdIn K c T=true) (hns:s₁.heap.Ns mainGlobals mg) (hb:s₁.heap.Ns builtinsNs mb) (hbb:∀x:Str,x≠"__name__"->mb x=bootBuiltins x) (hlim:s₁.heap.NoLimit) (hbm:BmIn s₁.heap mg) (hg:s₁.gens=#[])
 (ha:s₁.heap.get? a=some { cls:=.type "list",data:=.seq vs.toArray }) (hi:IntsAre vs ns) (hl:ns.length<=sizeLine) (hr:Room k callerA)
 (F:∀base:Heap,K.In base->base.Ns mainGlobals mg->BmIn base mg->FnOk P w K mg base CX k fa fd [x] sp) (hbind:∀(s:Shared) (u:Value),BindsTo s fd ⟨[u],[]⟩ [(x,u)])
 (hsp:∀H:Hp,SqL K H a (ns.map V.int)->(∀T∈ts,H T=some (.tbl #[]))->sp [.ref a] H (λv z=>v=.bl true) λz z z=>False)
 (hCX:∀H e s',CX [] H s₁ (λz z z=>False) e s'->False):
 codeAny (model P w) callerA (.call (.ref fa) ⟨[.ref a],[]⟩) (λr s'=>r=.ok (.ret (.bool true))/\OldK s₁.heap s'.heap/\s'.os=s₁.os/\AllBare s'.gens) s₁:=by(
have rv:=q9L hi
have lenV:=hi.length
have aj:a∉ts:=λz=>by have e:=(hts a z).1;rw[ha]at e;cases e
have S:∀H:Hp,SqL K H a (ns.map V.int)->HOk P w H s₁.heap->(∀b,H b=none\/(b=a/\K.lookup a=none/\∃o xs,H b=some (.frz o (.lst xs)))\/(b∈ts/\H b=some (.tbl #[])))->(∀T∈ts,H T=some (.tbl #[]))->codeAny (model P w) callerA (.call (.ref fa) ⟨[.ref a],[]⟩) (λr s'=>r=.ok (.ret (.bool true))/\OldK s₁.heap s'.heap/\s'.os=s₁.os/\AllBare s'.gens) s₁:=by
 intro H hS af hO hT;have I:∀{b:Addr} {o:Obj},s₁.heap.get? b=some o->H b=none->(hidT s₁.heap H).get? b=some o:=λe n=>q78 e n;have ah:∀{b:Addr} {o:Obj} {es:Array DictEntry} {ep:Nat},s₁.heap.get? b=some o->o.data=.dict es ep->H b=none:=fun {b o es ep} e d=>by
  rcases hO b with z|⟨rfl,_⟩|⟨z,_⟩
  .exact z
  .rw[ha]at e;cases e;cases d
  rw[(hts b z).1]at e;cases e;cases d
 have O:∀{b:Addr} {m:Str->Option Value},s₁.heap.Ns b m->(hidT s₁.heap H).Ns b m:=fun {b m} ⟨o,es,ep,e,d,r⟩=>⟨o,es,ep,I e (ah e d),d,r⟩
 have ab:K.In (hidT s₁.heap H):=λb o e=>I (KX b o e) (by
  rcases hO b with z|⟨rfl,z,_⟩|⟨z,_⟩
  .exact z
  .rw[z]at e;cases e
  rw[(hts b z).2.1]at e;cases e)
 have hM:Mod K mg (hidT s₁.heap H):=⟨ab,O hns,⟨mb,O hb,hbb⟩,let⟨mc,h1,h2⟩:=hlim;⟨mc,O h1,h2⟩⟩;have hB:BmIn (hidT s₁.heap H) mg:=by
  obtain⟨bm,o,b1,b2,b3,b4,b5,b6⟩:=hbm;refine⟨bm,o,b1,b2,I b3 ?_,b4,b5,b6⟩;rcases hO bm with z|⟨rfl,_⟩|⟨z,_⟩
  .exact z
  .rw[ha]at b3;cases b3;exact absurd (Value.type.inj b4) (by decide)
  rw[(hts bm z).1]at b3;cases b3;cases b4
 have e0:Env0 P w K mg (hidT s₁.heap H) callerA [] s₁ H:=⟨rfl,hM,λb o e=>qDE e,pF (q95 _ _),trivial,λb hb=>absurd (show b∈([]:List Addr)from hb) (by simp),af,.of_eq hg⟩;refine cT ((F _ ab (O hns) hB).run callerA [] s₁ H ⟨[.ref a],[]⟩ [.ref a] [.ref a] _ _ hr e0 (hbind s₁ (.ref a)) (.cons rfl .nil) (hsp H hS hT)) λr s' h=>?_;cases r with
 |error e=>exact(hCX H e s' h).elim
 |ok fl=>
  cases fl with
  |next=>exact False.elim h
  |brk=>exact False.elim h
  |cont=>exact False.elim h
  |ret u=>
   obtain⟨v,H',os,ac,un,N,r',q⟩:=h;have q':v=.bl true:=q;subst q';obtain rfl:u=Value.bool true:=r';have kept:∀b o,s₁.heap.get? b=some o->b∉ts->s'.heap.get? b=some o:=λb o e Z=>by
    rcases hO b with z|⟨rfl,_,ob,xs,z⟩|⟨z,_⟩
    .exact un.keep b o e z (by intro z;exact absurd (show b∈([]:List Addr)from z) (by simp)) (by simp)
    .have z2:=un.frzs _ ob _ z;obtain⟨e1,_⟩:=af _ _ z;obtain⟨e2,_⟩:=N _ _ z2;rw[e]at e1;cases e1;exact e2
    exact absurd z Z
   refine⟨rfl,⟨λb o e=>?_,λb o e=>?_⟩,os,ac⟩
   .by_cases Z:b∈ts
    .obtain⟨g,_,c,hc⟩:=hts b Z;obtain⟨more,z2⟩:=un.tbls b _ (hT b Z);have g2:s'.heap.get? b=some { cls:=.none,data:=.fields (#[]++more) }:=N _ _ z2;rw[g]at e;cases e;exact .inr (.inl ⟨((aQ KX hc).tab g).isCodeTable,rfl,#[],more,rfl,g2⟩)
    exact .inl (kept b o e Z)
   by_cases Z:b∈ts
   .obtain⟨more,z2⟩:=un.tbls b _ (hT b Z);exact⟨_,N _ _ z2⟩
   exact⟨o,kept b o e Z⟩
have tb:∀T∈ts,∀H:Hp,H T=some (.tbl #[])->∀u,H T=some u->jM P w H s₁.heap T u:=λT hT H e u e'=>by rw[e]at e';cases e';exact(hts T hT).1
cases hk:K.lookup a with
|some o=>
 have e:=KX a o hk;rw[ha]at e;cases e;refine S (λb=>if b∈ts then some (.tbl #[])else none) (.inr ⟨_,vs.toArray,_,hk,rfl,rfl,rfl,by rw[mJ,lenV];exact hl,by simpa using rv⟩) (λb u z=>?_) (λb=>?_) λT hT=>kD hT
 .by_cases D:b∈ts
  .exact tb b D _ (kD D) u z
  have z':=(hU D).symm.trans z;cases z'
 by_cases D:b∈ts
 .exact .inr (.inr ⟨D,kD D⟩)
 exact .inl (hU D)
|none=>
 refine S (λb=>if b=a then some (.frz { cls:=.type "list",data:=.seq vs.toArray } (.lst (ns.map V.int)))else if b∈ts then some (.tbl #[])else none) (.inl (.inr ⟨{ cls:=.type "list",data:=.seq vs.toArray },kD rfl⟩)) (λb u z=>?_) (λb=>?_) λT hT=>?_
 .by_cases D:b=a
  .have z':=(kD D).symm.trans z;cases z';subst D;exact⟨ha,by rw[kI];exact hl,vs,_,rv,ha⟩
  by_cases J:b∈ts
  .exact tb b J _ ((hU D).trans (kD J)) u z
  have z':=((hU D).trans (hU J)).symm.trans z;cases z'
 .by_cases D:b=a
  .exact .inr (.inl ⟨D,hk,_,_,kD D⟩)
  by_cases J:b∈ts
  .exact .inr (.inr ⟨J,(hU D).trans (kD J)⟩)
  exact .inl ((hU D).trans (hU J))
 have:T≠a:=λz=>aj (z▸hT);exact(hU this).trans (kD hT))
theorem qH3{l:PySem.W.OpenLaw}{n k:Nat}{q:Program}{loose:List Str}{XP:(Str->Option Value)->Heap->Prop}{YP:World->Heap->Prop}{d:DefRec}{K:Params->PySem.W.Frag}{CX:World->CXT}{sp:World->Sp}{x:Str}(ts:List Addr)
 (hn:l.most=some n) (hn2:n<=sizeLine) (hdf:d.params.defaults=[]) (hr:Room k callerA)
 (hY:∀(w:World) (h:Heap),YP w h->(K w.params).In h/\∀T∈ts,h.get? T=some (tabObj #[])) (hT:∀w:World,∀T∈ts,(K w.params).lookup T=none/\∃c,codeHdIn (K w.params) c T=true)
 (F:∀(w:World) (mg:Str->Option Value) (fa:Addr) (h:Heap),(K w.params).In h->h.Ns mainGlobals mg->mg d.name=some (.ref fa)->∃fd:FuncData,(∀(s:Shared) (u:Value),BindsTo s fd ⟨[u],[]⟩ [(x,u)])/\∀base:Heap,(K w.params).In base->base.Ns mainGlobals mg->BmIn base mg->FnOk l.prog w (K w.params) mg base (CX w) k fa fd [x] (sp w))
 (hsp:∀(w:World) (H:Hp) (a:Addr) (ns:List Int),ns.length<=n->SqL (K w.params) H a (ns.map V.int)->(∀T∈ts,H T=some (.tbl #[]))->sp w [.ref a] H (λv z=>v=.bl true) λz z z=>False)
 (hCX:∀(w:World) (H:Hp) (s:Shared) (e:Value) (s':Shared),CX w [] H s (λz z z=>False) e s'->False):
 PySem.W.WalkO q loose XP YP l.row.toRowW d [] (λf vs=>PySem.call f vs):=by(
refine Att.attach_call hn hdf λw ah ae mg mb fa o pm cd O a vs ns G Y ho hd S J I D z hg=>?_
obtain⟨N,KT⟩:=hY w _ Y
obtain⟨fd,hb,Z⟩:=F w mg fa _ N G.T.g J
exact qF9 ts N (λT h=>⟨KT T h,hT w T h⟩) G.T.g G.T.b G.T.builtins G.T.nolimit (let⟨bm,ob,b1,b2,b3,b4,b5,b6⟩:=G.T.bmain;⟨bm,ob,b1,b2,b3,b4,b5,b6⟩) hg I D (mO z hn2) hr Z hb (λH hS hH=>hsp w H a ns z hS hH) λH e s'=>hCX w H _ e s')
structure FunT(K:PySem.W.Frag)(x qual:Str)(st:Stmt)(c f:Addr)(fd:FuncData):Prop where
ex:∃(oc:Value) (od:Option Addr) (kV doc pm:Value) (an:Option Addr) (ct:Value) (osl:Array (Option Value)),fd=PySem.W.fnOf x qual (yH st) (jV st) (qF st) .none kV doc pm an (.ref c) ct/\K.lookup f=some ⟨oc,od,.func fd,osl⟩/\PySem.W.codeIn K (.ref c) qual=true
section
variable{P:Program}{w:World}{K:PySem.W.Frag}{mg:Str->Option Value}{base:Heap}
theorem FunT.mk'{x qual:Str}{st:Stmt}{c f:Addr}{oc:Value}{od an:Option Addr}{osl:Array (Option Value)}{kV doc pm ct:Value}(l:K.lookup f=some ⟨oc,od,.func (PySem.W.fnOf x qual (yH st) (jV st) (qF st) .none kV doc pm an (.ref c) ct),osl⟩)
 (h:PySem.W.codeIn K (.ref c) qual=true):FunT K x qual st c f (PySem.W.fnOf x qual (yH st) (jV st) (qF st) .none kV doc pm an (.ref c) ct):=⟨oc,od,kV,doc,pm,an,ct,osl,rfl,l,h⟩
theorem FunT.okE{x qual:Str}{st:Stmt}{c f:Addr}{fd:FuncData}{N ps:List Str}{k:Nat}{sp:Sp}(F:FunT K x qual st c f fd)(S:FnScope N ps (qF st))
 (hbody:∀(A:Around) (outer:List Env) (s:Shared) (H:Hp) (vs:List V) (Q:VK) (E:XK),Room k (A.deeper (envOfC qual (qF st) s.heap.objs.size f (.ref c)))->sp vs H Q E->∃t,PSs (cxOf (CXe P w) P w K mg base N qual (qF st) f (.ref c) A outer s H E) (jV st) t/\t { nx:=λz H'=>Q .non H',rt:=Q } (q0F N vs) H)(len:∀vs H Q E,sp vs H Q E->vs.length=ps.length:=by intro _ _ _ _ h;first|(cases h;subst_vars;rfl)|((repeat obtain⟨_,h⟩:=h);all_goals subst_vars;rfl)):FnOk P w K mg base (CXe P w) (k+1) f fd ps sp:=by obtain⟨Z,od,kV,I,pm,an,ct,D,rfl,J,z⟩:=F.ex;exact qDL J z S len λA outer s H vs Q E O d=>hbody A _ s H vs Q E O d
theorem FunT.ok0{x qual:Str}{st:Stmt}{c f:Addr}{fd:FuncData}{N ps:List Str}{k:Nat}{sp:Sp}(F:FunT K x qual st c f fd)(S:FnScope N ps (qF st))
 (hbody:∀(A:Around) (outer:List Env) (s:Shared) (H:Hp) (vs:List V) (Q:VK) (E:XK),Room k (A.deeper (envOfC qual (qF st) s.heap.objs.size f (.ref c)))->sp vs H Q E->∃t,PSs (cxOf CX0 P w K mg base N qual (qF st) f (.ref c) A outer s H E).nox (jV st) t/\t { nx:=λz H'=>Q .non H',rt:=Q } (q0F N vs) H)(len:∀vs H Q E,sp vs H Q E->vs.length=ps.length:=by intro _ _ _ _ h;first|(cases h;subst_vars;rfl)|((repeat obtain⟨_,h⟩:=h);all_goals subst_vars;rfl)):FnOk P w K mg base CX0 (k+1) f fd ps sp:=by(
obtain⟨Z,od,kV,I,pm,an,ct,D,rfl,J,z⟩:=F.ex
refine qDL J z S len λA outer s H vs Q E O d=>?_
obtain⟨t,h,q⟩:=hbody A _ s H vs Q E O d
exact⟨t,h.nox,q⟩)
noncomputable def q5N(K:PySem.W.Frag)(ts:List Addr):Sp:=λvs H Q z=>∃(a:Addr) (ns:List Int),vs=[.ref a]/\SqL K H a (ns.map V.int)/\ns.length<=63/\(∀T∈ts,H T=some (.tbl #[]))/\∀H',Q (.bl true) H'
end
noncomputable def qO6(K:PySem.W.Frag)(C:Addr):Prop:=PySem.W.findIn K (.ref C) "__class__"=some (some (.builtin "object.__class__"))/\PySem.W.specialIn K (.builtin "object.__class__") "__get__"=some (some (.builtin "getset_descriptor.__get__"))/\PySem.W.takesIn K (.builtin "object.__class__")=some true/\PySem.W.mroIn K C (.type "object")=some true
noncomputable def fnOb(fd:FuncData):Obj:={ cls:=.type "function",data:=.func fd }
noncomputable def fnO(f:Addr)(fd:FuncData):HO:=.ext λh=>h.get? f=some (fnOb fd)
noncomputable def cdO(c:Addr)(q:Str):HO:=.ext λh=>∃o vs t,h.get? c=some o/\o.data=.fields vs/\vs[1]?=some (.str q t)
theorem qH4{P:Program}{w:World}{h:Heap}{f:Addr}{fd:FuncData}(e:h.get? f=some (fnOb fd)):jM P w H h f (fnO f fd):=⟨e,⟨_,e⟩,λz z a b=>b _ a⟩
theorem qMH{P:Program}{w:World}{h:Heap}{c:Addr}(e:h.CodeRec (.ref c) q):jM P w H h c (cdO c q):=by obtain⟨N,o,d,t,I,z,J,D⟩:=e;cases I;exact⟨⟨o,d,t,z,J,D⟩,⟨_,z⟩,λ_ _ ⟨o,d,t,a,b⟩ k=>⟨o,d,t,k _ a,b⟩⟩
theorem qH5{P:Program}{w:World}{f:Addr}{fd:FuncData}(ok:HOk P w H h)(e:H f=some (fnO f fd)):h.get? f=some (fnOb fd):=(ok f _ e).1
theorem qH6{P:Program}{w:World}{c:Addr}(ok:HOk P w H h)(e:H c=some (cdO c q)):h.CodeRec (.ref c) q:=let⟨o,vs,t,a,b⟩:=(ok c _ e).1
 ⟨c,o,vs,t,rfl,a,b⟩
theorem qMI{P:Program}{w:World}{K:PySem.W.Frag}{mg:Str->Option Value}{k:Nat}{f c:Addr}{sp:Sp}(S:FnScope N ps scope)
 (len:∀vs H Q E,sp vs H Q E->vs.length=ps.length) (hf:∀vs H Q E,sp vs H Q E->H f=some (fnO f (kla_fn name qual params body scope [] pm (.ref c) ct))/\H c=some (cdO c qual))
 (hbody:∀(A:Around) (outer:List Env) (s:Shared) (H:Hp) (vs:List V) (Q:VK) (E:XK),Room k (A.deeper (envOfC qual scope s.heap.objs.size f (.ref c)))->sp vs H Q E->∃t,PE (cxOf CX P w K mg base N qual scope f (.ref c) A outer s H E) body t/\t (q0F N vs) H Q):
 FnOk P w K mg base CX (k+1) f (kla_fn name qual params body scope [] pm (.ref c) ct) ps sp:=by(
refine⟨len,λA outer s H ac us vs Q E O D hb r d=>?_⟩
have hl:=len _ _ _ _ d
have ab:=D.mod.nolimit.keeps λb o e=>(D.bs b o e).1
have z:∀y∈ps.zip us,scope.names.lookup y.1=some .local\/(scope.names.lookup y.1=some .cell/\((cellsFrom (s.heap.objs.size+1) _ []).lookup y.1).isSome=true):=λ⟨n,v⟩ hy=>by
 rcases S.par n (sD hy).1 with q|q
 .exact .inl q
 exact .inr ⟨q,pG _ _ _ (.inl q)⟩
obtain⟨aa,Z⟩:=hf _ _ _ _ d
refine kla_callFunE O.depth (qH5 D.hok aa) rfl S.co S.gen rfl (qH6 D.hok Z) (hb _ _ _ _ ?_)
refine sS S.kind z λenv he s1 x=>?_
subst he
refine⟨ab.keeps x.toInCall.keep,kla_codeExpr ?_⟩
obtain⟨t,ht,hq⟩:=hbody A outer s H vs Q E (O.deeper _) d
have I:Inv (cxOf CX P w K mg base N qual scope f (.ref c) A outer s H E) [] (q0F N vs) H s1:=q9F S O.hd D hl r x
exact dM (ht [] s1 (q0F N vs) H _ I hq) (λu s' ⟨v,H',J,rv,q⟩=>⟨v,H',J.os,J.bare,J.base,J.hok,rv,q⟩) λe s' hs=>hs)
noncomputable def zE(base:Heap)(cs:List Addr):Hp:=λb=>if(base.get? b).isSome=true\/b∈cs then none else some (.lst [])
theorem q2E{h base':Heap}:∀{l:List Env},h.FunFrames base l->(∀L∈frs l,base.get? L=none->base'.get? L=none)->h.FunFrames base' l
| [],_,_=>trivial
|env::r,⟨hk,⟨L,o,hf,hn,ho,hd⟩,hr⟩,k=>by
 have hL:L∈frs (env::r):=by unfold frs;rw[d7,hf];exact kY
 exact⟨hk,⟨L,o,hf,k L hL hn,ho,hd⟩,q2E hr λb d=>k b (by unfold frs;rw[d7,hf];exact hG _ d)⟩
theorem Inv.env0C{s:Shared}(I:Inv X pins σ H s)(cs:List Addr)(hcs:∀c∈cs,∃x,X.fn x=true/\X.env.cells.lookup x=some c):
 Env0 X.prog X.w X.K X.mg (hidT s.heap (zE X.base cs)) X.A X.stack s H/\(∀b o,X.base.get? b=some o->(hidT s.heap (zE X.base cs)).get? b=some o)/\∀c∈cs,∀o,s.heap.get? c=some o->(hidT s.heap (zE X.base cs)).get? c=some o:=by(
have D:∀b o,X.base.get? b=some o->(hidT s.heap (zE X.base cs)).get? b=some o:=λb o e=>q78 (I.bk b o e) (kD (.inl (by rw[e];rfl)))
have d:∀{b:Addr} {o:Obj},(hidT s.heap (zE X.base cs)).get? b=some o->s.heap.get? b=some o/\((∃o',X.base.get? b=some o')\/b∈cs):=fun {b o} e=>by
 obtain⟨J,n⟩:=qDE e;refine⟨J,?_⟩;by_cases z:(X.base.get? b).isSome=true\/b∈cs
 .rcases z with z|z
  .exact .inl (cW.mp z)
  exact .inr z
 rw[show zE X.base cs b=some (.lst [])from hU z]at n;cases n
obtain⟨Z,O,S⟩:=I.ok.mod.blt
refine⟨⟨I.ok.frames,⟨I.ok.mod.kin.keeps D,I.ok.mod.glob.keeps D,⟨Z,O.keeps D,S⟩,I.ok.mod.nolimit.keeps D⟩,λb o e=>?_,by rw[q95];exact kO _,q2E I.stack λL hL n=>?_,I.stkFree,I.hok,I.bare⟩,D,λc hc o e=>q78 e (kD (.inr hc))⟩
.obtain⟨J,z⟩:=d e;rcases z with⟨o',z⟩|z
 .exact⟨J,(I.bs b o' z).2⟩
 obtain⟨x,_,N⟩:=hcs b z;exact⟨J,I.freeC x b N⟩
cases e:(hidT s.heap (zE X.base cs)).get? L with
|none=>rfl
|some o=>
 obtain⟨J,z⟩:=d e;rcases z with⟨o',z⟩|z
 .rw[n]at z;cases z
 obtain⟨x,hf,N⟩:=hcs L z;rcases kM.mp (I.stkSub L hL)with y|y
 .exact absurd y (I.cne x L N)
 obtain⟨_,o2,ho,_⟩:=I.ok.funs.mem y;exact absurd (mE ho) (lG.mpr (I.ok.cab x L hf N)))
noncomputable def q2F(cells:List (Str×Addr))(σ:St)(base':Heap)(ix:List (Nat×Str)):Prop:=∀p∈ix,∀v,σ[p.1]?=some (some v)->∃c u,cells.lookup p.2=some c/\RelV v u/\base'.IsCell c (some u)
noncomputable def qNS(T:Addr)(pos:Pos)(qual:Str)(params:Arguments)(body:Expr)(scope:Scope)(clos:List (Str×Addr))(pm:Value):TE:=λσ H Q=>∃ps,H T=some (.tbl ps)/\TriplesOk ps.toList/\codeAmong pos ps.toList=none/\∀(f c':Addr) (ctv:Value),H f=none->H c'=none->f≠c'->Q (.ref f) (upd (upd (upd H T (.tbl (ps++#[rawInt pos.line,rawInt pos.col,.ref c']))) c' (cdO c' qual)) f (fnO f (kla_fn "<lambda>" qual params body scope clos pm (.ref c') ctv)))
theorem qJH{X:Cx}{c T:Addr}(hcode:X.env.code=.ref c)(hcd:codeHdIn X.K c T=true)(B:BmIn X.base X.mg)(hcl:closureFor scope X.env=pure clos)(hdef:defaultsOf params X.env=([],[])):
 PE X (.Lambda params body scope pos) (qNS T pos (X.env.qual++"<lambda>") params body scope clos ((X.mg "__name__").getD .none)):=by(
intro pins s σ H Q I hZ
obtain⟨ps,hT,ht,aj,q⟩:=hZ
have hP:s.heap.get? T=some (tabObj ps):=I.hok T _ hT
have aa:s.heap.Ns mainGlobals X.mg:=I.ok.mod.glob.keeps I.bk
obtain⟨bm,ob,b1,b2,b3,b4,b5,b6⟩:=B
have D:=I.bk _ _ b3
have ah:mainGlobals≠T:=λz=>by obtain⟨o,es,ep,e,N,_⟩:=aa;rw[z,hP]at e;cases e;cases N
have an:bm≠T:=λz=>by rw[z,hP]at D;cases D;cases b4
have ao:bm≠mainGlobals:=λz=>by obtain⟨o,es,ep,e,N,_⟩:=aa;rw[z,e]at D;cases D;rw[N]at b6;cases b6
refine kla_eval hdef (kla_makeFunction (clos:=clos) hcl I.ok.glob aa hcode (aQ I.kIn hcd) hP ht aj ah ⟨bm,ob,b1,b2,ao,an,D,b4,b5,b6⟩ λJ ad h' tk hx O ae ac ag=>?_)
have trk:∀b u,s.heap.get? b=some u->b≠T->∀o,(h'.push o).get? b=some u:=λb u e n o=>kJ _ (hx b u n e)
have sz:s.heap.objs.size<=h'.objs.size:=mO O (sL ae)
have S:H h'.objs.size=none:=I.hok.fresh sz
have Z:H J=none:=I.hok.fresh O
have fc:h'.objs.size≠J:=rZ ae
have other:∀{b:Addr},b≠T->b≠J->b≠h'.objs.size->∀u:HO,(upd (upd (upd H T (.tbl (ps++#[rawInt pos.line,rawInt pos.col,.ref J]))) J (cdO J (X.env.qual++"<lambda>"))) h'.objs.size (fnO h'.objs.size (kla_fn "<lambda>" (X.env.qual++"<lambda>") params body scope clos ((X.mg "__name__").getD .none) (.ref J) ad))) b=H b:=fun {b} z1 z2 z3 _=>by rw[qE z3,qE z2,qE z1]
refine⟨.ref h'.objs.size,_,?_,rfl,q _ J ad S Z fc⟩
refine I.un (t':=tk) ⟨λb o e n _ _=>trk b o e (qH hT n).symm _,λb o e n _ _=>⟨o.slots,trk b o e (qH hT n).symm _⟩,λb o e n _=>?_,λb o e _=>?_,λb xs e=>?_,λb o u e=>?_,λb qs e=>?_⟩ λb u e=>?_
.have hb:b<s.heap.objs.size:=mE e;rw[other (qH hT n).symm (mY (mZ hb O)) (mY (mZ hb sz)) (.lst [])];exact n
.by_cases z:b=T
 .subst z;exact⟨_,kJ _ ag⟩
 exact⟨o,trk b o e z _⟩
.rw[other (λz=>by rw[z,hT]at e;cases e) (qH e Z) (qH e S) (.lst [])];exact e
.rw[other (λz=>by rw[z,hT]at e;cases e) (qH e Z) (qH e S) (.lst [])];exact e
.by_cases z:b=T
 .subst z;rw[hT]at e;cases e;refine⟨#[rawInt pos.line,rawInt pos.col,.ref J],?_⟩;rw[qE (qH hT S),qE (qH hT Z)];exact qI
 exact⟨#[],by rw[other z (qH e Z) (qH e S) (.lst []),e];simp⟩
by_cases z3:b=h'.objs.size
.subst z3;rw[qI]at e;cases e;exact qH4 (mW _ rfl)
by_cases z2:b=J
.subst z2;rw[qE z3,qI]at e;cases e;exact qMH (ac.push _)
by_cases z:b=T
.subst z;rw[qE z3,qE z2,qI]at e;cases e;exact kJ _ ag
rw[other z z2 z3 (.lst [])]at e
refine(I.hok b u e).stay (λd v N r=>trk d v r (λy=>?_) _) (λd r=>?_) λd xs r=>?_
.rcases N with N|N
 .exact z (N▸y)
 rw[y,hT]at N;cases N
.rw[other (λy=>by rw[y,hT]at r;cases r) (qH r Z) (qH r S) (.lst [])];exact r
rw[other (λy=>by rw[y,hT]at r;cases r) (qH r Z) (qH r S) (.lst [])];exact r)
noncomputable abbrev envL(qual:Str)(scope:Scope)(clos:List (Str×Addr))(L f:Addr)(cd:Value):Env:=newEnv scope L mainGlobals clos (qual++".<locals>.") (some f) cd none builtinsNs
noncomputable def qH7(CX:CXT)(P:Program)(w:World)(K:PySem.W.Frag)(mg:Str->Option Value)(base:Heap)(N:List Str)(qual:Str)(scope:Scope)(clos:List (Str×Addr))(f:Addr)(cd:Value)(A:Around)(outer:List Env)(s:Shared)(H:Hp)(E:XK):Cx where
prog:=P
w:=w
K:=K
mg:=mg
base:=base
A:=A.deeper (envL qual scope clos s.heap.objs.size f cd)
N:=N
s₀:=s
H₀:=H
env:=envL qual scope clos s.heap.objs.size f cd
outer:=outer
stack:=envL qual scope clos s.heap.objs.size f cd::outer
ex:=[]
calm:=true
fn:=λz=>false
pn:=[]
xe:=λe s'=>wpAny (model P w) (A.deeper (envL qual scope clos s.heap.objs.size f cd)) (leaving (envL qual scope clos s.heap.objs.size f cd) e) (λz s''=>CX outer H s E e s'') (λe' s''=>CX outer H s E e' s'') s'
structure LamSc(scope:Scope)(x0:Str)(clos:List (Str×Addr))(fvs:List V)(base:Heap):Prop where
kind:scope.kind=.function
co:scope.isCoroutine=false
gen:scope.isGenerator=false
par:scope.names.lookup x0=some .local
nocell:∀y∈scope.names,y.2≠ .cell
free:∀y,scope.names.lookup y=some .free->∃c,clos.lookup y=some c
inj:∀x y c,clos.lookup x=some c->clos.lookup y=some c->x=y
at':∀(j:Nat) (x:Str) (c:Addr),clos[j]?=some (x,c)->scope.names.lookup x=some .free/\clos.lookup x=some c/\∃v u,fvs[j]?=some v/\RelV v u/\base.IsCell c (some u)
len:fvs.length=clos.length
theorem qJI{P:Program}{w:World}{K:PySem.W.Frag}{mg:Str->Option Value}{k:Nat}{f c:Addr}{x0:Str}{sp:Sp}(S:LamSc scope x0 clos fvs base)
 (len:∀vs H Q E,sp vs H Q E->vs.length=1) (hf:∀vs H Q E,sp vs H Q E->H f=some (fnO f (kla_fn name qual params body scope clos pm (.ref c) ct))/\H c=some (cdO c qual))
 (hbody:∀(A:Around) (outer:List Env) (s:Shared) (H:Hp) (v0:V) (Q:VK) (E:XK),Room k (A.deeper (envL qual scope clos s.heap.objs.size f (.ref c)))->sp [v0] H Q E->∃t,PE (qH7 CX P w K mg base (x0::clos.map (·.1)) qual scope clos f (.ref c) A outer s H E) body t/\t (some v0::fvs.map some) H Q):
 FnOk P w K mg base CX (k+1) f (kla_fn name qual params body scope clos pm (.ref c) ct) [x0] sp:=by(
refine⟨len,λA outer s H al us vs Q E hr D hb r Z=>?_⟩
have hl:=len _ _ _ _ Z
obtain⟨v0,rfl⟩:∃v0,vs=[v0]:=match vs,hl with| [v],_=>⟨v,rfl⟩
obtain⟨u0,rfl,r0⟩:=q27 r
have ah:s.heap.NoLimit:=D.mod.nolimit.keeps λb o e=>(D.bs b o e).1
obtain⟨ag,ai⟩:=hf _ _ _ _ Z
refine kla_callFunE hr.depth (qH5 D.hok ag) rfl S.co S.gen rfl (qH6 D.hok ai) (hb _ _ _ _ ?_)
refine lZ S.nocell (λy N=>?_) (λh' hn hs=>?_) S.kind
.obtain rfl:y=(x0,u0):=by simpa using N
 exact S.par
have hk:∀b o,s.heap.get? b=some o->h'.get? b=some o:=λb o e=>by have:=hs.2 b (mY (mE e));rw[this];exact kJ _ e
refine⟨ah.keeps hk,kla_codeExpr ?_⟩
obtain⟨t,ht,hq⟩:=hbody A outer s H v0 Q E (hr.deeper _) Z
have O:∀b:Addr,b∉(qH7 CX P w K mg base (x0::clos.map (·.1)) qual scope clos f (.ref c) A outer s H E).ex:=λb z=>absurd (show b∈([]:List Addr)from z) (by simp)
have aa:∀y d,clos.lookup y=some d->∃u,base.IsCell d (some u):=λy d e=>by obtain⟨j,hj,ej⟩:=d9 (dC e);obtain⟨_,_,v,u,_,_,hu⟩:=S.at' j y d (kF.mpr ⟨hj,ej⟩);exact⟨u,hu⟩
have I:Inv (qH7 CX P w K mg base (x0::clos.map (·.1)) qual scope clos f (.ref c) A outer s H E) [] (some v0::fvs.map some) H { s with heap:=h',toks:=s.toks + [(x0,u0)].length }:=by
 refine⟨⟨D.mod,S.kind,rfl,rfl,kO _,S.inj,λy N=>?_,λy c z d=>absurd (show false=true from z) (by decide),λd=>hr.hd,lS D.frames,.inr ⟨rfl,rfl⟩,λb z=>absurd z (O b),D.bs,D.bsz,λb d d=>O b,λb z=>absurd z (O b),D.funs,D.frf⟩,rfl,D.bare,Un.kept hk,⟨_,hn,λi y v h1 h2 h3=>?_⟩,λy d e=>?_,D.hok.fresh (kO _),λy d e=>?_,λp hp=>absurd (show p∈([]:List (Addr×Obj))from hp) (by simp),D.hok.kept hk,?_⟩
 .have N:scope.names.lookup y=some .cell\/scope.names.lookup y=some .free:=N;rcases N with N|N
  .exact absurd rfl (S.nocell _ (dC N))
  exact S.free y N
 .cases i with
  |zero=>obtain rfl:=kU h1;obtain rfl:=kU (kU h2);refine⟨u0,r0,.inl ⟨S.par,?_⟩⟩;show([(x0,u0)]:List (Str×Value)).reverse.lookup x0=some u0;simp
  |succ j=>have h1:(clos.map (·.1))[j]?=some y:=h1;have h2:(fvs.map some)[j]?=some (some v):=h2;rw[mM]at h1 h2;obtain⟨⟨y',d⟩,hd,rfl⟩:=mH.mp h1;obtain⟨v',hv,ev⟩:=mH.mp h2;obtain rfl:=kU ev;obtain⟨a1,a2,v2,u,a3,a4,a5⟩:=S.at' j _ d hd;rw[hv]at a3;obtain rfl:=kU a3;exact⟨u,a4,.inr ⟨.inr a1,d,a2,a5.keeps λb o e=>hk b o (D.bs b o e).1⟩⟩
 .obtain⟨u,hu⟩:=aa y d e;exact⟨_,hu.keeps λb o e=>hk b o (D.bs b o e).1⟩
 .obtain⟨u,o,ho,_⟩:=aa y d e;exact(D.bs _ _ ho).2
 show(some v0::fvs.map some).length=(x0::clos.map (·.1)).length;rw[mP,mP,kI,kI,S.len]
exact dM (ht [] _ _ H _ I hq) (λu s' ⟨v,H',J,rv,q⟩=>⟨v,H',J.os,J.bare,J.base,J.hok,rv,q⟩) λe s' hs=>hs)
theorem qJJ{scope:Scope}{env:Env}(h:(scope.names.all λy=>decide (y.2≠ .free)||(env.cells.lookup y.1).isSome)=true):closureFor scope env=pure (clOf env scope.names []):=q7O λy hy hf=>by(
 have q:=rL.mp h y hy;rw[cF,mD]at q;rcases q with q|q
 .exact absurd hf q
 exact cW.mp q)
theorem qFA{scope:Scope}{y:Str}{v:V}{base:Heap}(hk:scope.kind=.function)(hco:scope.isCoroutine=false)(hg:scope.isGenerator=false)(hp:scope.names.lookup x0=some .local)
 (hn:(scope.names.all λz=>decide (z.2≠ .cell)&&(decide (z.2≠ .free)||decide (z.1=y)))=true) (hf:scope.names.lookup y=some .free) (r:RelV v u) (hc:base.IsCell ca (some u)):LamSc scope x0 [(y,ca)] [v] base:=by(
have D:=λz d=>by have q:=rL.mp hn z d;rw[mQ,cF,mD,mD,mD]at q;exact q
have I:([(y,ca)]:List (Str×Addr)).lookup y=some ca:=by simp
have one:∀x c,([(y,ca)]:List (Str×Addr)).lookup x=some c->x=y/\c=ca:=λx c e=>by have m:=dC e;simpa using m
refine⟨hk,hco,hg,hp,λz d=>(D z d).1,λz d=>?_,λa b c h1 h2=>?_,λj x c h=>?_,rfl⟩
.have m:=(D _ (dC d)).2;rcases m with m|m
 .exact absurd rfl m
 exact⟨ca,by rw[show z=y from m];exact I⟩
.rw[(one _ _ h1).1,(one _ _ h2).1]
match j,h with
|0,h=>
 obtain⟨rfl,rfl⟩:y=x/\ca=c:=by simpa using h
 exact⟨hf,I,v,u,rfl,r,hc⟩
|j+1,h=>exact absurd h (by simp))
theorem qBR{env:Env}{y:Str}(e:env.cells.lookup y=some ca)(h:clOf env names []=match env.cells.lookup y with|some a=>[(y,a)] |none=>[]):clOf env names []=[(y,ca)]:=by rw[h,e]
noncomputable def qMJ(T:Addr)(pos:Pos)(qual:Str)(params:Arguments)(body:Expr)(scope:Scope)(clos:List (Str×Addr))(pm:Value):TE:=λσ H Q=>∃ps c',H T=some (.tbl ps)/\TriplesOk ps.toList/\codeAmong pos ps.toList=some (.ref c')/\∀(f:Addr) (ctv:Value),H f=none->Q (.ref f) (upd H f (fnO f (kla_fn "<lambda>" qual params body scope clos pm (.ref c') ctv)))
theorem qH8{X:Cx}{c T:Addr}(hcode:X.env.code=.ref c)(hcd:codeHdIn X.K c T=true)(B:BmIn X.base X.mg)(hcl:closureFor scope X.env=pure clos)(hdef:defaultsOf params X.env=([],[])):
 PE X (.Lambda params body scope pos) (qMJ T pos (X.env.qual++"<lambda>") params body scope clos ((X.mg "__name__").getD .none)):=by(
intro pins s σ H Q I hZ
obtain⟨ps,c',hT,ht,S,q⟩:=hZ
have hP:s.heap.get? T=some (tabObj ps):=I.hok T _ hT
have J:s.heap.Ns mainGlobals X.mg:=I.ok.mod.glob.keeps I.bk
obtain⟨N,ob,b1,b2,b3,b4,b5,b6⟩:=B
have O:=I.bk _ _ b3
have aa:N≠T:=λz=>by lia
have ab:N≠mainGlobals:=λz=>by obtain⟨o,es,ep,e,hd,_⟩:=J;lia
refine kla_eval hdef (kla_makeFunctionHit (clos:=clos) hcl I.ok.glob J hcode (aQ I.kIn hcd) hP ht S ⟨N,ob,b1,b2,ab,aa,O,b4,b5,b6⟩ λZ h' tk hx sz=>?_)
have trk:∀b u,s.heap.get? b=some u->∀o,(h'.push o).get? b=some u:=λb u e o=>kJ _ (hx b u e)
have D:H h'.objs.size=none:=I.hok.fresh sz
refine⟨.ref h'.objs.size,_,?_,rfl,q _ Z D⟩
refine I.un (t':=tk) ⟨λb o e n _ _=>trk b o e _,λb o e n _ _=>⟨o.slots,trk b o e _⟩,λb o e n _=>?_,λb o e _=>⟨o,trk b o e _⟩,λb xs e=>?_,λb o u e=>?_,λb qs e=>?_⟩ λb u e=>?_
.rw[qE (mY (mZ (mE e) sz))];exact n
.rw[qE (qH e D)];exact e
.rw[qE (qH e D)];exact e
.exact⟨#[],by rw[qE (qH e D),e];simp⟩
by_cases z3:b=h'.objs.size
.subst z3;rw[qI]at e;cases e;exact qH4 (mW _ rfl)
rw[qE z3]at e
refine(I.hok b u e).stay (λd v hd r=>trk d v r _) (λd r=>?_) λd xs r=>?_
.rw[qE (qH r D)];exact r
rw[qE (qH r D)];exact r)
noncomputable def qNT(T:Addr)(pos:Pos)(qual:Str)(params:Arguments)(body:Expr)(scope:Scope)(clos:List (Str×Addr))(pm:Value):TE:=λσ H Q=>∃ps,H T=some (.tbl ps)/\TriplesOk ps.toList/\((codeAmong pos ps.toList=none/\∀(f c':Addr) (ctv:Value) (H':Hp),H f=none->H' f=some (fnO f (kla_fn "<lambda>" qual params body scope clos pm (.ref c') ctv))->H' c'=some (cdO c' qual)->H' T=some (.tbl (ps++#[rawInt pos.line,rawInt pos.col,.ref c']))->(∀b o,b≠T->H b=some o->H' b=some o)->Q (.ref f) H')\/∃c',codeAmong pos ps.toList=some (.ref c')/\∀(f:Addr) (ctv:Value) (H':Hp),H f=none->H' f=some (fnO f (kla_fn "<lambda>" qual params body scope clos pm (.ref c') ctv))->Same H H'->Q (.ref f) H')
theorem qE3{X:Cx}{c T:Addr}(hcode:X.env.code=.ref c)(hcd:codeHdIn X.K c T=true)(B:BmIn X.base X.mg)(hcl:closureFor scope X.env=pure clos)(hdef:defaultsOf params X.env=([],[])):
 PE X (.Lambda params body scope pos) (qNT T pos (X.env.qual++"<lambda>") params body scope clos ((X.mg "__name__").getD .none)):=λpins s σ H Q I ⟨ps,hT,ht,h⟩=>by(
rcases h with⟨hn,q⟩|⟨c',hn,q⟩
.exact qJH hcode hcd B hcl hdef _ s σ H Q I ⟨ps,hT,ht,hn,λf c' ctv nf nc fc=>q f c' ctv _ nf qI (by rw[qE fc.symm];exact qI) (by rw[qE (qH hT nf),qE (qH hT nc)];exact qI) λb o nb e=>by rw[qE (qH e nf),qE (qH e nc),qE nb];exact e⟩
exact qH8 hcode hcd B hcl hdef _ s σ H Q I ⟨ps,c',hT,ht,hn,λf ctv nf=>q f ctv _ nf qI (Same.upd nf)⟩)
theorem qE4{X:Cx}{k:Nat}{f:Addr}{fd:FuncData}{sp:Heap->Sp}{s:Shared}(ix:List (Nat×Str))
 (hix:∀p∈ix,X.N[p.1]?=some p.2/\X.env.scope.names.lookup p.2=some .cell/\X.fn p.2=true)
 (F:∀base',(∀b o,X.base.get? b=some o->base'.get? b=some o)->q2F X.env.cells σ base' ix->FnOk X.prog X.w X.K X.mg base' CX k f fd ps (sp base')) (hr:Room k X.A) (hb:jT X.K fd ps ds) (hd:Vals dvs ds) (hx:q28 CX X E)
 (I:Inv X pins σ H s) (r:Vals vs us) (h:∀base',(∀b o,X.base.get? b=some o->base'.get? b=some o)->q2F X.env.cells σ base' ix->sp base' (vs++dvs) H Q E):wpAny (model X.prog X.w) X.A (call (.ref f) us) (EP X pins σ Q) X.xe s:=by(
have r2:Vals (vs++dvs) (us++ds):=r.append hd
obtain⟨e0,Z,O⟩:=I.env0C (ix.filterMap λp=>X.env.cells.lookup p.2) (λc J=>by obtain⟨p,D,e⟩:=rE.mp J;exact⟨p.2,(hix p D).2.2,e⟩)
have S:q2F X.env.cells σ (hidT s.heap (zE X.base (ix.filterMap λp=>X.env.cells.lookup p.2))) ix:=λp D v hv=>by
 obtain⟨h1,h2,h3⟩:=hix p D;obtain⟨m,_,hl⟩:=I.loc;obtain⟨u,ru,lk⟩:=hl p.1 p.2 v h1 hv (.inr (.inl h2));rcases lk with⟨z,_⟩|⟨_,c,J,o,ho,hd⟩
 .have z:X.env.scope.names.lookup p.2=some .local:=z;rw[h2]at z;cases z
 exact⟨c,u,J,ru,o,O c (rE.mpr ⟨p,D,J⟩) o ho,hd⟩
have q:=h _ Z S
have hl:(us++ds).length=ps.length:=by rw[<-r2.length];exact(F _ Z S).len _ _ _ _ q
refine cP (cT ((F _ Z S).run X.A X.stack s H ⟨us,[]⟩ (us++ds) (vs++dvs) Q E hr e0 (hb s us I.kIn hl) r2 q) λr s' d=>?_)
cases r with
|error e=>exact hx pins σ H s e s' I d
|ok fl=>
 cases fl with
 |ret u=>exact I.after d
 |next=>exact False.elim d
 |brk=>exact False.elim d
 |cont=>exact False.elim d)
section
variable{X:Cx}{pins:List (Addr×Obj)}{σ:St}{H:Hp}{s:Shared}
theorem qFB{P:PySem.Fin->Shared->Prop}{a f:Addr}{n:Nat}{vs:List Value}(I:Inv X pins σ H s)
 (ho:s.heap.get? a=some (seqObj "list" vs.toArray n)) (fa:FpOk X pins H a) (ha:X.s₀.heap.objs.size<=a) (rv:Vals us vs) (h64:us.length<64)
 (Pv:Nat->List V->Hp->Prop) (h0:Pv 0 [] H) (hs:∀i x zs H' pins' s' u,us[i]?=some x->RelV x u->Pv i zs H'->Inv { X with A:=X.A.in1.in1,xe:=λz z=>False } pins' σ H' s'->wpAny (model X.prog X.w) X.A.in1.in1 (call (.ref f) [u]) (EP { X with A:=X.A.in1.in1,xe:=λz z=>False } pins' σ (λz H''=>Pv (i+1) (zs++[z]) H'')) (λz z=>False) s')
 (hd:∀zs H',H' a=none->zs.length=us.length->Pv us.length zs H'->∃kk m,Paired (TupI X.K H') zs kk/\(∀k∈kk,k.length=m)/\0<m/\∀q:List Nat,q.Perm (List.range us.length)->(q.map λi=>kk.getD i []).Pairwise (λa b=>lx b a=false)->∀s',Inv X pins σ (upd H' a (.lst (q.map λi=>us.getD i .non))) s'->P (.done (.ret .none)) s'):
 wpAny (model X.prog X.w) X.A.in1.in1 (ksk_tree a (.ref f) false) P EE s:=by(
have ag:a<s.heap.objs.size:=mE ho
have hl:=rv.length
obtain⟨e1,g1⟩:∃e1,(s.heap.update a (Obj.mapSeq λz=>(#[]:Array Value))).get? a=some (seqObj "list" #[] e1):=⟨_,cG ho λz=>#[]⟩
unfold ksk_tree
refine hX (aB ho rfl (hX (cK ho rfl (hX (nJ g1 rfl ?_)) (by rw[mJ,dB];lia) (m9 _))))
refine hX (wpAny_newTuple (hX (cZ (g5 ?_) (m9 _))) (by show vs.length<=_;rw[dB];lia))
have al:((s.heap.update a (Obj.mapSeq λz=>(#[]:Array Value))).push (seqObj "tuple" vs.toArray 0)).objs.size=s.heap.objs.size+1:=by rw[xP,nY]
obtain⟨D,S⟩:∃D:Addr,D=((s.heap.update a (Obj.mapSeq λz=>(#[]:Array Value))).push (seqObj "tuple" vs.toArray 0)).objs.size:=⟨_,rfl⟩
have O:s.heap.objs.size<=D:=by rw[S,al];exact dN _
have ne:D≠a:=rZ (mZ ag O)
show wpAny (model X.prog X.w) X.A.in1.in1 (ksk_rest a (.ref f) false vs.toArray e1 (.ref ((s.heap.update a (Obj.mapSeq λz=>(#[]:Array Value))).push (seqObj "tuple" vs.toArray 0)).objs.size)) P EE { s with heap:=((s.heap.update a (Obj.mapSeq λz=>(#[]:Array Value))).push (seqObj "tuple" vs.toArray 0)).push (seqObj "list" #[] 0) }
rw[<-S]
have ah:(((s.heap.update a (Obj.mapSeq λz=>(#[]:Array Value))).push (seqObj "tuple" vs.toArray 0)).push (seqObj "list" #[] 0)).get? D=some (seqObj "list" #[] 0):=by rw[S];exact mW _ rfl
have af:=kJ (seqObj "list" #[] 0) (kJ (seqObj "tuple" vs.toArray 0) g1)
have I0:Inv X pins σ H { s with heap:=((s.heap.update a (Obj.mapSeq λz=>(#[]:Array Value))).push (seqObj "tuple" vs.toArray 0)).push (seqObj "list" #[] 0),toks:=s.toks }:=I.turnedN (fp:=[a]) (λb o d e=>kJ _ (kJ _ ((mF _ _ (λz=>d (kE.mpr z.symm))).trans e))) (λb d=>by rw[kE.mp d];exact fa)
have N:FpOk X pins H D:=I.fpOk O (I.hok.fresh O)
have fp:∀{H':Hp} {b:Addr},FpOk X pins H b->H' b=none->FpOk X pins H' b:=λf e=>⟨e,f.2⟩
unfold ksk_rest
refine hX (wpAny_rule ?_)
first
 |rw[List.forIn_toArray]
 |(rw[<-Array.forIn_toList];simp only[List.toList_toArray])
refine hX (ksk_fold (I:=λi s'=>∃H' zs ks e,Inv X pins σ H' s'/\s'.heap.get? a=some (seqObj "list" #[] e1)/\s'.heap.get? D=some (seqObj "list" (List.toArray ks) e)/\Vals zs ks/\zs.length=i/\Pv i zs H'/\H' a=none/\H' D=none) vs 0 _ ⟨H,[],[],0,I0,af,ah,.nil,rfl,h0,fa.1,N.1⟩ (λj x s' hx hJ=>?_) λs' hJ=>?_)
.obtain⟨H',zs,ks,e,I1,ga,gk,rz,Z,pv,na,nk⟩:=hJ;rw[lJ]at Z pv ⊢;have hj:j<vs.length:=(kF.mp hx).1;obtain⟨y,ey,ry⟩:=rv.atN (j:=j) hj;obtain rfl:vs[j]=x:=(kF.mp hx).2;have I2:=(I1.near (A':=X.A.in1.in1) rfl rfl λz z=>False).pinned (fp:=[a,D]) (λb d=>by
  simp only[kM,dL,cY]at d;rcases d with rfl|rfl
  .exact fp fa na
  .exact fp N nk) (λb d=>by
  simp only[kM,dL,cY]at d;rcases d with rfl|rfl
  .exact⟨_,ga,λv z=>by cases z⟩
  exact⟨_,gk,λv z=>by cases z⟩)
 refine hX (xE (dM (hs j y zs H' _ _ _ ey ry pv I2) (λu J hq=>?_) λd d z=>z.elim));obtain⟨z,H'',I3,ru,q⟩:=hq;have pa:=I3.pin (a,seqObj "list" #[] e1) (mC _ (mC _ (yI (by simp) ga)));have pk:=I3.pin (D,seqObj "list" (List.toArray ks) e) (mC _ (mC _ (yI (by simp) gk)));have lk:=rz.length;have ea:(List.toArray ks).push u=List.toArray (ks++[u]):=by simp
 obtain⟨c2,g2⟩:∃c2,(J.heap.update D (Obj.mapSeq (·.push u))).get? D=some (seqObj "list" (List.toArray (ks++[u])) c2):=⟨_,by rw[<-ea];exact cG pk.1 (·.push u)⟩;try dsimp only
 refine hX (cK pk.1 rfl ?_ (by rw[mJ,dB];lia) (mO (pF (Array.size_push ..)) (by rw[mJ,dB];lia)));have I4:Inv X pins σ H'' J:=(I3.unpinned).near (A':=X.A) rfl rfl X.xe;have I5:Inv X pins σ H'' { J with heap:=J.heap.update D (Obj.mapSeq (·.push u)),toks:=J.toks }:=I4.turnedN (fp:=[D]) (λb o d e=>(mF _ _ (λz=>d (kE.mpr z.symm))).trans e) (λb d=>by rw[kE.mp d];exact fp N pk.2.1);exact kW ⟨rfl,H'',zs++[z],ks++[u],c2,I5,(mF _ _ ne).trans pa.1,g2,rz.append (.cons ru .nil),by rw[mI,Z];rfl,q,pa.2.1,pk.2.1⟩
obtain⟨H',zs,ks,e,I1,ga,gk,rz,Z,pv,na,nk⟩:=hJ
rw[lJ,<-hl]at Z pv
obtain⟨kk,m,ai,hw,hm,fin⟩:=hd zs H' na Z pv
try dsimp only
refine hX (aB gk rfl ?_)
exact qJC I1 (fp fa na) (fp N nk) ha ne ga gk rz rv Z h64 ai hw hm fin)
end
noncomputable def oneQ(R:V->Hp->Prop):List V->Hp->Prop
| [v],H=>R v H
|_,_=>False
theorem qE5:∀{xs:List V} {H:Hp},oneQ R xs H->∃v,xs=[v]/\R v H
| [v],_,h=>⟨v,rfl,h⟩
| [],_,h=>h.elim
|_::_::_,_,h=>h.elim
noncomputable def tSL(P:Program)(w:World)(K:PySem.W.Frag)(mg:Str->Option Value)(base:Heap)(cells:List (Str×Addr))(ix:List (Nat×Str))(k:Nat)(x:Str)(tl:TE)(ta:TA):TE:=λσ H Q=>ta σ H λvs H1=>tl σ H1 λfv H2=>∃(f:Addr) (fd:FuncData) (sp:Heap->Sp),fv=.ref f/\(∀base',(∀b o,base.get? b=some o->base'.get? b=some o)->q2F cells σ base' ix->FnOk P w K mg base' CX0 k f fd [x] (sp base'))/\jT K fd [x] []/\∃(l:Addr) (us:List V) (Pv:Nat->List V->Hp->Prop),vs=[.ref l]/\SqL K H2 l us/\us.length<64/\Pv 0 [] H2/\(∀base' i x zs H',q2F cells σ base' ix->us[i]?=some x->Pv i zs H'->sp base' [x] H' (λz H''=>Pv (i+1) (zs++[z]) H'') E0)/\∀zs H',zs.length=us.length->Pv us.length zs H'->∃kk m,Paired (TupI K H') zs kk/\(∀k∈kk,k.length=m)/\0<m/\∀q:List Nat,q.Perm (List.range us.length)->(q.map λi=>kk.getD i []).Pairwise (λa b=>lx b a=false)->NewO H' (.lst (q.map λi=>us.getD i .non)) Q
theorem qD2{X:Cx}{k:Nat}{x:Str}{le:Expr}{tl:TE}{p kp:Pos}(ix:List (Nat×Str))(hix:∀p∈ix,X.N[p.1]?=some p.2/\X.env.scope.names.lookup p.2=some .cell/\X.fn p.2=true)(hr:Room (k+2) X.A)(hg:Gl X "sorted")(hm:X.mg "sorted"=none)(hl:PE X le tl)(ha:PA X [e] ta)
 (he:starEach [e] X.env=[(false,eval e X.env)]:=by rfl) (hse:starEach ([]:List Expr) X.env=[]:=by rfl):
 PE X (.Call (.Name "sorted" p) [e] [⟨some "key",le,kp⟩] pos) (tSL X.prog X.w X.K X.mg X.base X.env.cells ix k x tl ta):=by(
intro pins s σ H Q I h
refine dG (q26 I hg hm (u:=.builtin "sorted") (by kernel_rfl) ?_ (by decide) (by decide))
refine aR (thn (ha pos pins s σ H _ I h) λus s1 ⟨vs,H1,I1,r1,q1⟩=>?_) (by rw[he,hse];rfl) (by rw[he];rfl)
have pk:PK X [⟨some "key",le,kp⟩] (qB5 tl tNil):=qA5 hl qCN
refine thn (pk pos pins s1 σ H1 (oneQ _) I1 q1) λws z hZ=>?_
obtain⟨xs,H2,O,r2,Z⟩:=hZ
obtain⟨v,rfl,f,fd,sp,rfl,F,hb,Z⟩:=qE5 Z
obtain⟨w,rfl,rw⟩:=q27 r2
obtain rfl:w=Value.ref f:=rw
obtain⟨l,ap,Pv,ev,hq,h64,p0,hs,hd⟩:=Z
subst ev
obtain⟨u,rfl,ru⟩:=q27 r1
obtain rfl:u=Value.ref l:=ru
obtain⟨d,rv,pl,hz⟩:=O.list hq
have ac:=rv.length
show wpAny (model X.prog X.w) X.A (call (.builtin "sorted") [.ref l] [(Str.ofString "key",.ref f)]) _ _ _
refine call_function_entry_kw kind_sorted plain_sorted entry_sorted (ksk_s1 _ _) ?_
unfold Builtin.«sorted»
refine hX (m:=checkCount "sorted" 1 1 _) (kW (hX (collect_list pl.isList (hX (cZ ?_ (by rw[dB];show d.length<=_;lia))))))
have J:((z.heap.push (seqObj "list" #[] 0)).update z.heap.objs.size (Obj.mapSeq (· ++d.toArray))).objs.size=z.heap.objs.size+1:=by rw[nY,xP]
have g:(((z.heap.push (seqObj "list" #[] 0)).update z.heap.objs.size (Obj.mapSeq (· ++d.toArray))).push (seqObj "list" d.toArray 0)).get? (z.heap.objs.size+1)=some (seqObj "list" d.toArray 0):=by rw[<-J];exact mW _ rfl
show wpAny _ _ _ _ _ { z with heap:=((z.heap.push (seqObj "list" #[] 0)).update z.heap.objs.size (Obj.mapSeq (· ++d.toArray))).push (seqObj "list" d.toArray 0) }
rw[J]
have I3:Inv X pins σ H2 { z with heap:=((z.heap.push (seqObj "list" #[] 0)).update z.heap.objs.size (Obj.mapSeq (· ++d.toArray))).push (seqObj "list" d.toArray 0),toks:=z.toks }:=O.kept (t':=z.toks) λb o e=>kJ _ ((mF _ _ (rZ (mE e))).trans (kJ _ e))
refine hX (g5 (wpAny_call_entry_kw slot_list_sort ⟨_,g,rfl⟩ entry_list_sort ?_ (ksk_l1 _ _)))
rw[ksk_t1]
have fr:z.heap.objs.size<=z.heap.objs.size+1:=dN _
refine qFB I3 g (O.fpOk fr (O.hok.fresh fr)) (mO O.sz fr) rv h64 Pv p0 (λi x zs H' S s' u hx rx pv I'=>qE4 (X:={ X with A:=X.A.in1.in1,xe:=λz z=>False }) (dvs:=[]) (ds:=[]) (E:=E0) ix hix F hr.in1.in1 hb .nil qK I' (.cons rx .nil) (λD up cv=>hs D i x zs H' cv hx pv)) λzs H' na lz pv=>?_
obtain⟨kk,m,a1,a2,a3,a4⟩:=hd zs H' lz pv
refine⟨kk,m,a1,a2,a3,λq b1 b2 s' I'=>⟨_,rfl,kW ⟨_,rfl,.ref _,_,I',rfl,(a4 q b1 b2).at _ na⟩⟩⟩)
end L2
namespace W1
open PySem L2
structure QM where
P:Nat
B:Nat
nx:Int
V:Mp
lv:List Int
fi:List Int
bo:List Int
namespace QM
structure Ok(m:QM):Prop where
p1:1<=m.P
p2:m.P<=16
b2:m.B<=16
ll:m.lv.length=m.B
lf:m.fi.length=m.B
lo:m.bo.length=m.B
nd:(m.V.map (·.1)).Nodup
nm:∀q∈m.V,0<=q.1/\q.1<=64
blk:∀q∈m.V,∃b:Nat,b<m.B/\q.2 / (m.P:Int)=(b:Int)
wr:∀b,b<m.B->∃f:Nat,m.fi.getD b 0=(f:Int)/\f<=m.P
variable{m:QM}
theorem Ok.lenV(h:m.Ok):m.V.length<=65:=by
 have:=q9Q  (m:=(List.range 65).map λi:Nat=>(i:Int)) h.nd λx d=>by obtain⟨q,z,rfl⟩:=kZ.mp d;have:=h.nm q z;exact kZ.mpr ⟨q.1.toNat,mU.mpr (by lia),by lia⟩
 simp_all
noncomputable def forget(m:QM)(n:Int):QM:={ m with V:=jB m.V n,lv:=BM.lvF m.P m.V m.lv n }
theorem find_V{n:Int}:(∃p,(n,p)∈m.V/\m.V.find? (λq=>decide (q.1=n))=some (n,p))\/((∀q∈m.V,q.1≠n)/\m.V.find? (λq=>decide (q.1=n))=none):=by(
cases e:m.V.find? (λq=>decide (q.1=n))with
|none=>refine .inr ⟨λq d z=>?_,rfl⟩;have:=dA.mp e q d;exact this (hC z)
|some q=>
 have h1:=by have:=g4 e;simpa using this
 have h2:=gR e;refine .inl ⟨q.2,by rw[<-h1];exact h2,by rw[<-h1]⟩)
theorem lvF_len{n:Int}:(BM.lvF m.P m.V m.lv n).length=m.lv.length:=by(
unfold BM.lvF
split
.rw[gU]
rfl)
theorem Ok.forget(h:m.Ok)(n:Int):(m.forget n).Ok:={ h with ll:=by show(BM.lvF m.P m.V _ n).length=m.B;rw[lvF_len];exact h.ll,nd:=q50 h.nd,nm:=λq hq=>h.nm q (qY.mp hq).1,blk:=λq hq=>h.blk q (qY.mp hq).1 }
noncomputable def put(m:QM)(b f:Nat)(n:Int):QM:={ m with V:=jB m.V n++[(n,((b*m.P+f:Nat):Int))],lv:=(BM.lvF m.P m.V m.lv n).set b ((BM.lvF m.P m.V m.lv n).getD b 0+1),bo:=if m.fi.getD b 0=0 then m.bo.set b m.nx else m.bo,fi:=m.fi.set b (m.fi.getD b 0+1),nx:=m.nx+1 }
theorem Ok.put(h:m.Ok){b f:Nat}{n:Int}(hb:b<m.B)(hf:f<m.P)(ef:m.fi.getD b 0=(f:Int))(n0:0<=n)(n1:n<=64):(m.put b f n).Ok where
p1:=h.p1
p2:=h.p2
b2:=h.b2
ll:=by show(List.set _ _ _).length=m.B;rw[gU,lvF_len];exact h.ll
lf:=by show(List.set _ _ _).length=m.B;rw[gU];exact h.lf
lo:=by
 show(if m.fi.getD b 0=0 then m.bo.set b m.nx else m.bo).length=m.B;split
 .rw[gU];exact h.lo
 exact h.lo
nd:=by
 show((jB m.V n++[(n,((b*m.P+f:Nat):Int))]).map (·.1)).Nodup;rw[m8];refine dO.mpr ⟨q50 h.nd,by simp,λa ha c hc=>?_⟩;obtain⟨q,hq,rfl⟩:=kZ.mp ha;have hc:c=n:=by simpa using hc
 rw[hc];exact(qY.mp hq).2
nm:=λq hq=>by
 rcases gN.mp hq with hq|hq
 .exact h.nm q (qY.mp hq).1
 rw[kE.mp hq];exact⟨n0,n1⟩
blk:=λq hq=>by
 rcases gN.mp hq with hq|hq
 .exact h.blk q (qY.mp hq).1
 rw[kE.mp hq];refine⟨b,hb,?_⟩;show((b*m.P+f:Nat):Int) / (m.P:Int)=_;rw[<-g7,jZ hf]
wr:=λc hc=>by
 show ∃g:Nat,(m.fi.set b (m.fi.getD b 0+1)).getD c 0=(g:Int)/\g<=m.P;rw[jA];split
 .exact⟨f+1,by rw[ef];rfl,hf⟩
 exact h.wr c hc
end QM
noncomputable def vn(b:Nat):V:=.int (b:Int)
noncomputable def uK(B:Nat)(br:List Bool):List Nat:=(List.range B).filter λb=>!(br.getD b false)
noncomputable def u8(B:Nat)(br:List Bool)(fi:List Int):List Nat:=(uK B br).filter λb=>decide (fi.getD b 0=0)
noncomputable def keyN(cl:List Int)(b:Nat):List Int:=[cl.getD b 0,(b:Int)]
structure FreeIs(B:Nat)(br:List Bool)(cl fi:List Int)(l:List Nat):Prop where
pm:l.Perm (u8 B br fi)
so:(l.map (keyN cl)).Pairwise λa b=>lx b a=false
theorem qJK{a b:Nat}(h:keyN cl a=keyN cl b):a=b:=by(
unfold keyN at h
lia)
theorem zZ{b:Nat}:b∈uK B br↔b<B/\br.getD b false=false:=by unfold uK;rw[mL,mU,wM]
theorem q9S{b:Nat}:b∈u8 B br fi↔(b<B/\br.getD b false=false)/\fi.getD b 0=0:=by unfold u8;rw[mL,zZ,mD]
theorem q2G:(uK B br).length<=B:=mO (mK _ _) (by rw[m7];exact kO _)
theorem qFC:(u8 B br fi).length<=B:=mO (mK _ _) q2G
theorem FreeIs.mem{l:List Nat}(h:FreeIs B br cl fi l){b:Nat}(hb:b∈l):b<B/\br.getD b false=false/\fi.getD b 0=0:=by have:=q9S.mp (h.pm.mem_iff.mp hb);exact⟨this.1.1,this.1.2,this.2⟩
noncomputable def jU(P:Nat)(fi:List Int)(b:Nat):Bool:=decide (0<fi.getD b 0)&&decide (fi.getD b 0<(P:Int))
noncomputable def jP(B P:Nat)(br:List Bool)(fi:List Int):Option Nat:=(uK B br).find? (jU P fi)
theorem q1K{P:Nat}{b:Nat}(h:jP B P br fi=some b):b<B/\br.getD b false=false/\0<fi.getD b 0/\fi.getD b 0<(P:Int):=by(
have h1:=zZ.mp (gR h)
have h2:=g4 h
unfold jU at h2
rw[mQ,mD,mD]at h2
exact⟨h1.1,h1.2,h2.1,h2.2⟩)
noncomputable def q22(B P:Nat)(br:List Bool)(fi:List Int)(l:List Nat):Option Nat:=match jP B P br fi with
|some b=>some b
|none=>l.head?
set_option tactic.hygienic true in
theorem qBS{P:Nat}{l:List Nat}(hl:FreeIs B br cl fi l)(hP:1<=P){b:Nat}(h:q22 B P br fi l=some b):b<B/\br.getD b false=false/\0<=fi.getD b 0/\fi.getD b 0<(P:Int):=by(
unfold q22 at h
split at h
.rename_i d e;cases h;have:=q1K e;exact⟨this.1,this.2.1,by lia,this.2.2.2⟩
cases l with
|nil=>cases h
|cons c r=>cases h;have:=hl.mem kY;exact⟨this.1,this.2.1,by lia,by lia⟩)
noncomputable def pgV(P:Nat)(fi:List Int):Option Nat->V
|none=>.non
|some b=>.int ((b:Int)*(P:Int)+fi.getD b 0)
noncomputable def oV:Option Nat->V
|none=>.non
|some b=>.int (b:Int)
theorem q7Y{α β:Type}{L:List α}{f:α->β}{d:β}{e:α}:∀{q:List Nat},(∀i∈q,i<L.length)->(q.map λi=>(L.map f).getD i d)=(q.map λi=>L.getD i e).map f
| [],_=>rfl
|i::q,h=>by have hi:=h i kY;rw[mV,mV,mV,q7Y (q:=q) λj hj=>h j (hG _ hj)];congr 1;rw[kN,kN,mM,kL hi];rfl
theorem qD3{α:Type}{L:List α}{e:α}{q:List Nat}(h:q.Perm (List.range L.length)):(q.map λi=>L.getD i e).Perm L:=by(
have:=h.map λi=>L.getD i e
refine this.trans ?_
have eq:(List.range L.length).map (λi=>L.getD i e)=L:=by refine wA (by simp) λi h1 h2=>?_;rw[nZ,sV,kN,kL h2];rfl
rw[eq])
theorem qJL{q:List Nat}(h:q.Perm (List.range (u8 B br fi).length))(so:(q.map λi=>((u8 B br fi).map (keyN cl)).getD i []).Pairwise λa b=>lx b a=false):FreeIs B br cl fi (q.map λi=>(u8 B br fi).getD i 0):=by(
have d:∀i∈q,i<(u8 B br fi).length:=λi hi=>mU.mp (h.mem_iff.mp hi)
refine⟨qD3 h,?_⟩
rw[q7Y  d]at so
exact so)
theorem q9T{α β:Type}{L:List α}{f:α->β}{i:Nat}{x:α}(h:L[i]?=some x):(L.take (i+1)).map f=(L.take i).map f++[f x]:=by(
have hi:=(kF.mp h).1
obtain rfl:L[i]=x:=(kF.mp h).2
rw[<-mR hi,m8]
rfl)
theorem qJM{a b:List Int}(h:lx a b=true):lx b a=false:=by(
cases z:lx b a with
|false=>rfl
|true=>have:=q14 a b a h z;rw[q3X]at this;lia)
theorem qKV{a b c:List Int}(h1:lx b a=false)(h2:lx c b=false):lx c a=false:=by(
cases z:lx c a with
|false=>rfl
|true=>
 cases y:lx a b with
 |true=>have:=q14 c a b z y;lia
 |false=>have e:=q5K a b y h1;lia)
theorem FreeIs.ex(B:Nat)(br:List Bool)(cl fi:List Int):∃l,FreeIs B br cl fi l:=by(
refine⟨(u8 B br fi).mergeSort λa b=>!(lx (keyN cl b) (keyN cl a)),wT _ _,?_⟩
have:=wZ (le:=λa b=>!(lx (keyN cl b) (keyN cl a))) (λa b c h1 h2=>by
 rw[wM]at h1 h2 ⊢;exact qKV h1 h2) (λa b=>by
 cases z:lx _ (keyN cl a)with
 |false=>rfl
 |true=>rw[qJM z];rfl) (u8 B br fi)
rw[gT]
exact this.imp λh=>by rw[wM]at h;exact h)
theorem rep8{α:Type}{n i:Nat}{y:α}:(List.replicate n y).getD i y=y:=by rw[kN,wU];split<;>rfl
end W1
namespace W1
noncomputable def orB:List Nat->Nat->Nat
| [],b=>b
|s::r,b=>orB r (b|||2 ^ s)
theorem qBT(k:Nat):∀(l:List Nat) (b:Nat),(orB l b).testBit k=(b.testBit k||decide (k∈l))
| [],b=>by simp[orB]
|s::r,b=>by
 show(orB r (b|||2 ^ s)).testBit k=_;rw[qBT k r,Nat.testBit_or,Nat.testBit_two_pow];by_cases h:s=k
 .simp[h]
 have:¬k=s:=λz=>h z.symm;simp[h,this]
theorem qH9(n:Nat):∀(l:List Nat) (b:Nat),b<2 ^ n->(∀s∈l,s<n)->orB l b<2 ^ n
| [],b,h,_=>h
|s::r,b,h,hs=>qH9 n r _ (Nat.or_lt_two_pow h (Nat.pow_lt_pow_right (by decide) (hs s (kY ..)))) λx hx=>hs x (hG _ hx)
end W1
namespace W1
open PySem L2
theorem yD:uK B (List.replicate B false)=List.range B:=by(
refine rA.mpr λb z=>?_
rw[rep8]
rfl)
end W1
namespace L2
open PySem PySem.Spec PyProof.Rows
structure ClM(K:PySem.W.Frag)(W:Addr)(m:Str)(f:Addr):Prop where
rd:PySem.W.readsIn K W (.type "type")=true
fd:PySem.W.findCls K (.ref W) (.type "type") m=some (.val (.ref f))
ga:PySem.W.specialIn K (.ref W) "__getattribute__"=some (some (.builtin "type.__getattribute__"))
kp:PySem.W.keepIn K (.ref f)=true
section
variable{X:Cx}{k:Nat}{f W:Addr}{fd:FuncData}{ps:List Str}{sp:Sp}{dvs:List V}{ds:List Value}{ES:St->XK}{x m:Str}{p pos apos:Pos}{e:Expr}{es:List Expr}{t:TA}
theorem qJN(tk:q0G X ES)(b:ClM X.K W m f)(F:FnOk X.prog X.w X.K X.mg X.base (CXe X.prog X.w) k f fd ps sp)(hr:Room k X.A)(hg:Gl X x)(hm:X.mg x=some (.ref W))(hb:jT X.K fd ps ds)(hd:Vals dvs ds)(ha:PA X (e::es) t)(hdb:(x==("__debug__":Str))=false:=by decide)
 (he:starEach (e::es) X.env=(false,eval e X.env)::starEach es X.env:=by rfl) (hpl:(backTo pos (starEach es X.env)).any (·.1)=false:=by rfl) 
 (ht:eval (.Call (.Attribute (.Name x p) m apos) (e::es) [] pos) X.env=(do
  let ov<-eval (.Name x p) X.env
  standAt apos.atName
  let(f,first)<-holding [ov] (getMethod ov m pl)
  callWith pos f first (backTo pos (starEach (e::es) X.env)) (backToKw pos (keywordEach [] X.env))):=by rfl):
 PE X (.Call (.Attribute (.Name x p) m apos) (e::es) [] pos) (qGC sp dvs ES t):=by(
intro pins s σ H Q I h
refine wD (pl:=pl) (q0E I hg hm ?_ hdb) ht
refine PySem.W.method_cls I.kIn b.ga (PySem.W.cls_value I.kIn b.rd b.fd rfl ?_)
refine rH (first:=[])  I.ok.mod.kin b.kp (thn (ha pos pins _ σ H _ (I.tok _) h) λJ N ⟨D,H2,d,r,z⟩=>⟨d.kIn,?_⟩) he hpl
exact q6X F hr hb hd tk d r z)
end
end L2
namespace W1
open PySem L2
noncomputable def rdy(ie:Int)(l:List Nat)(p:Option Nat):Bool:=decide ((l.length:Int)-(1+ie)>0)||(decide ((l.length:Int)-(1+ie)=0)&&p.isSome)
noncomputable abbrev tyL(m:CM)(q:QM)(b:Nat):List V:=[.int (b:Int),.int (q.lv.getD b 0),.int (m.cl.getD b 0),.int (q.bo.getD b 0)]
noncomputable def spcN(ie:Int)(l:List Nat)(P:Nat)(fi:List Int)(p:Option Nat):Int:=if 1+ie<=(l.length:Int)then(P:Int)else match p with|none=>0|some b=>(P:Int)-fi.getD b 0
noncomputable def y6(B P:Nat)(br:List Bool)(fi:List Int):List Nat:=(uK B br).filter λb=>decide (fi.getD b 0=(P:Int))
noncomputable def optN(ie:Int)(m:CM)(q:QM)(l:List Nat):List Nat:=((y6 q.B q.P m.br q.fi).filter λb=>decide (q.lv.getD b 0<=spcN ie l q.P q.fi (jP q.B q.P m.br q.fi))).filter λb=>decide (q.lv.getD b 0<(q.P:Int))
noncomputable def q53(q:QM)(r:Int×Nat×Int):QM:={ q with nx:=r.1 }.put (r.2.1 / q.P) (r.2.1%q.P) r.2.2
structure Fits(q:QM)(r:Int×Nat×Int):Prop where
b:r.2.1 / q.P<q.B
f:q.fi.getD (r.2.1 / q.P) 0=((r.2.1%q.P:Nat):Int)
s:q.nx<=r.1
n0:0<=r.2.2
n1:r.2.2<=64
inductive Rows(q0:QM):List (Int×Nat×Int)->QM->Prop
|nil:Rows q0 [] q0
|snoc {R q r}:Rows q0 R q->Fits q r->Rows q0 (R++[r]) (q53 q r)
theorem q9U:∀{R:List (Int×Nat×Int)} {a b:Int×Nat×Int},(R.map (·.2.1)).Nodup->a∈R->b∈R->a.2.1=b.2.1->a=b
| [],_,_,_,h,_,_=>absurd h (by simp)
|x::R,a,b,nd,ha,hb,e=>by
 rw[mV]at nd;obtain⟨n1,n2⟩:=gD.mp nd;rcases kM.mp ha with e1|ha'<;>rcases kM.mp hb with e2|hb'
 .rw[e1,e2]
 .rw[e1]at e;exact(n1 (kZ.mpr ⟨b,hb',e.symm⟩)).elim
 .rw[e2]at e;exact(n1 (kZ.mpr ⟨a,ha',e⟩)).elim
 exact q9U n2 ha' hb' e
section
variable{q q0:QM}{r:Int×Nat×Int}{R:List (Int×Nat×Int)}
theorem Fits.ok(h:Fits q r)(ok:q.Ok):(q53 q r).Ok:=by have d:QM.Ok { q with nx:=r.1 }:={ ok with };exact d.put h.b (Nat.mod_lt _ ok.p1) h.f h.n0 h.n1
structure QS(q:QM):Prop where
ok:q.Ok
lv:∀b,b<q.B->q.lv.getD b 0=(cntB q.P q.V b:Nat)
theorem qE6(h:QS q)(n:Int){b:Nat}(hb:b<q.B):(BM.lvF q.P q.V q.lv n).getD b 0=(cntB q.P (jB q.V n) b:Nat):=by(
unfold BM.lvF
rcases QM.find_V (m:=q) (n:=n)with⟨p,hp,e⟩|⟨no,e⟩
.rw[e];obtain⟨c,N,d⟩:=h.ok.blk _ hp;have d:p / (q.P:Int)=(c:Int):=d;have D:=q51 (P:=q.P) (b:=b) h.ok.nd hp;show(q.lv.set (p / (q.P:Int)).toNat _).getD b 0=_;rw[d,kQ,jA];rw[d]at D;have I:=h.lv b hb;by_cases z:c=b
 .subst z;rw[kD rfl]at D;rw[kD ⟨rfl,by rw[h.ok.ll];exact hb⟩,I];lia
 rw[hU (by lia)]at D;rw[hU (λy=>z y.1),I];lia
rw[e,h.lv b hb,show jB q.V n=q.V from rA.mpr λy J=>hC (no y J)])
theorem Fits.qs(h:Fits q r)(qs:QS q):QS (q53 q r):=by(
refine⟨h.ok qs.ok,λb d=>?_⟩
have d:b<q.B:=d
have D:=qE6 qs r.2.2 d
show((BM.lvF q.P q.V q.lv r.2.2).set (r.2.1 / q.P) ((BM.lvF q.P q.V q.lv r.2.2).getD (r.2.1 / q.P) 0+1)).getD b 0=((cntB q.P (jB q.V r.2.2++[(r.2.2,((r.2.1 / q.P*q.P+r.2.1%q.P:Nat):Int))]) b:Nat):Int)
have I:r.2.1 / q.P*q.P+r.2.1%q.P=r.2.1:=by rw[dZ];exact sE _ _
have ea:cntB q.P (jB q.V r.2.2++[(r.2.2,(r.2.1:Int))]) b=cntB q.P (jB q.V r.2.2) b+(if r.2.1 / q.P=b then 1 else 0):=by
 unfold cntB;rw[xQ,lP,<-g7];by_cases z:r.2.1 / q.P=b
 .rw[kD z,z,hC rfl];rfl
 rw[hU z,kB (by lia)];rfl
rw[I,ea,jA]
by_cases z:r.2.1 / q.P=b
.rw[kD z,kD ⟨z,by rw[QM.lvF_len,qs.ok.ll];lia⟩,z,D];lia
simp_all)
theorem Rows.qs(h:Rows q0 R q)(qs:QS q0):QS q:=by(
induction h with
|nil=>exact qs
|snoc _ f d=>exact f.qs d)
theorem Rows.sh(h:Rows q0 R q):q.B=q0.B/\q.P=q0.P:=by(
induction h with
|nil=>exact⟨rfl,rfl⟩
|snoc _ f d=>exact d)
noncomputable def mkR(r:Int×Nat×Int):Int:=r.1*128+r.2.2
theorem Rows.marks(h:Rows q0 R q):(∀r∈R,mkR r<q.nx*128)/\R.Pairwise (λa b=>mkR a<mkR b):=by(
induction h with
|nil=>simp
|@snoc R q r h f ih=>
 have e:(q53 q r).nx=r.1+1:=rfl;have s:=f.s;have J:=f.n0;have I:=f.n1;refine⟨λx d=>?_,List.pairwise_append.mpr ⟨ih.2,by simp,λa D b z=>?_⟩⟩
 .rw[e];rcases gN.mp d with d|d
  .have:=ih.1 x d;lia
  rw[kE.mp d];unfold mkR;lia
 rw[kE.mp z];have:=ih.1 a D;unfold mkR at this ⊢;lia)
theorem Rows.pages(h:Rows q0 R q)(p1:1<=q0.P)(lf:q0.fi.length=q0.B):(∀r∈R,r.2.1 / q.P<q.B/\((r.2.1%q.P:Nat):Int)<q.fi.getD (r.2.1 / q.P) 0)/\(R.map (·.2.1)).Nodup/\q.fi.length=q.B:=by(
induction h with
|nil=>exact⟨λr Z=>absurd Z (by simp),bI,lf⟩
|@snoc R q r h f ih=>
 obtain⟨I,S,O⟩:=ih;have J:=f.f;have N:=f.b;refine⟨λx d=>?_,?_,by show(q.fi.set _ _).length=q.B;rw[gU];exact O⟩
 .show x.2.1 / q.P<q.B/\((x.2.1%q.P:Nat):Int)<(q.fi.set (r.2.1 / q.P) (q.fi.getD (r.2.1 / q.P) 0+1)).getD (x.2.1 / q.P) 0;rw[jA];rcases gN.mp d with d|d
  .obtain⟨a,b⟩:=I x d;refine⟨a,?_⟩;by_cases z:r.2.1 / q.P=x.2.1 / q.P
   .rw[kD ⟨z,by lia⟩,z];lia
   rw[hU λy=>z y.1];exact b
  rw[kE.mp d,kD ⟨rfl,by lia⟩,J];exact⟨N,by lia⟩
 rw[m8];refine dO.mpr ⟨S,by simp,λa ha b D e=>?_⟩;obtain⟨x,d,rfl⟩:=kZ.mp ha;have D:b=r.2.1:=by simpa using D
 have i:=(I x d).2;rw[e,D,J]at i;lia)
noncomputable def newW(R:List (Int×Nat×Int)):Mp:=R.foldl (λW r=>putW W r.2.2 (r.2.1:Int)) []
theorem q9V:newW (R++[r])=putW (newW R) r.2.2 (r.2.1:Int):=by unfold newW;simp
theorem Rows.newest(h:Rows q0 R q)(e:q0.V=[]):q.V.Perm (newW R)/\((newW R).map (·.1)).Nodup:=by(
induction h with
|nil=>exact⟨by rw[e];rfl,bI⟩
|@snoc R q r h f ih=>
 rw[q9V];refine⟨?_,q9R ih.2⟩;have d:r.2.1 / q.P*q.P+r.2.1%q.P=r.2.1:=by rw[dZ];exact sE _ _
 show(jB q.V _++[(r.2.2,((r.2.1 / q.P*q.P+r.2.1%q.P:Nat):Int))]).Perm _;rw[d];exact qGZ ih.2 ih.1)
noncomputable def pr61(r:Int×Nat×Int):List Int:=[mkR r,(r.2.1:Int)]
noncomputable def pgL(R:List (Int×Nat×Int))(i:Nat):List (List Int):=(List.range i).filterMap λp=>(R.find? λr=>decide (r.2.1=p)).map pr61
theorem qHA{i:Nat}:pgL R (i+1)=pgL R i++((R.find? λr=>decide (r.2.1=i)).map pr61).toList:=by(
unfold pgL
rw[sF,List.filterMap_append]
rfl)
theorem qMK{i:Nat}(nd:(R.map (·.2.1)).Nodup)(hr:r∈R)(e:r.2.1=i):R.find? (λr=>decide (r.2.1=i))=some r:=by(
cases h:R.find? (λr=>decide (r.2.1=i))with
|none=>exact absurd (hC e) (dA.mp h r hr)
|some d=>have h1:=gR h;have h2:=kP (g4 (p:=λr:Int×Nat×Int=>decide _) h);rw[q9U nd h1 hr (h2.trans e.symm)])
theorem qHB(nd:(R.map (·.2.1)).Nodup)(hN:∀r∈R,r.2.1<N):(pgL R N).Perm (R.map pr61):=by(
have O:(R.map pr61).Nodup:=by
 refine gT.mpr ((gT.mp nd).imp fun {a b} h e=>h ?_);unfold pr61 at e;injection e with _ e
 injection e with e _
 exact rM e
have S:(pgL R N).Nodup:=by
 unfold pgL;refine bY _ ?_ (pU (n:=N));intro p J z v Z v' D e;obtain⟨x,d,rfl⟩:=mH.mp Z;obtain⟨x',I,rfl⟩:=mH.mp D;have h1:x.2.1=p:=kP (g4 (p:=λr:Int×Nat×Int=>decide (r.2.1=p)) d);have h2:x'.2.1=J:=kP (g4 (p:=λr:Int×Nat×Int=>decide (r.2.1=J)) I);injection e with _ e
 injection e with e _
 exact z (by rw[<-h1,<-h2];exact rM e)
refine(sY S O).mpr λv=>⟨λh=>?_,λh=>?_⟩
.obtain⟨p,_,z⟩:=rE.mp h;obtain⟨x,d,rfl⟩:=mH.mp z;exact kZ.mpr ⟨x,gR d,rfl⟩
obtain⟨x,d,rfl⟩:=kZ.mp h
exact rE.mpr ⟨x.2.1,mU.mpr (hN x d),by rw[qMK nd d rfl];rfl⟩)
theorem Rows.sorted(h:Rows q0 R q):(R.map pr61).Pairwise λa b=>lx b a=false:=by(
refine gT.mpr (h.marks.2.imp fun {a b} l=>?_)
unfold pr61
rw[lx2,hU (by lia)]
exact kB (by lia))
theorem Rows.at(h:Rows q0 R q):∀{i:Nat} (hi:i<R.length),∃qi,Rows q0 (R.take i) qi/\Fits qi R[i]:=by(
induction h with
|nil=>exact λhi=>absurd hi (lM _)
|@snoc R q r h f ih=>
 intro i hi;by_cases z:i<R.length
 .obtain⟨qi,a,b⟩:=ih z;refine⟨qi,?_,?_⟩
  .rw[p8 (by lia)];exact a
  simp_all
 have e:i=R.length:=by rw[mI]at hi;have hi:i<R.length+1:=hi;lia
 subst e;refine⟨q,?_,?_⟩
 .simp_all
 rw[List.getElem_append_right (kO _)];simpa using f)
theorem Rows.one(h:Rows q0 R q)(g:Rows q0 R q'):q=q':=by(
induction h generalizing q' with
|nil=>
 generalize e:([])=L at g;cases g with
 |nil=>rfl
 |snoc _ _=>simp_all
|@snoc R q r h f ih=>
 generalize e:R++[r]=L at g;cases g with
 |nil=>simp_all
 |@snoc R' q'' r' h' f'=>
  obtain⟨rfl,d⟩:=List.append_inj' e rfl;obtain rfl:r=r':=by simpa using d
  rw[ih h'])
noncomputable def lvW(B P:Nat)(W:Mp):List Int:=(List.range B).map λb=>((cntB P W b:Nat):Int)
theorem q72{P:Nat}:(lvW B P W).length=B:=by unfold lvW;simp
theorem qD4{P b:Nat}(h:b<B):(lvW B P W).getD b 0=(cntB P W b:Nat):=by unfold lvW;rw[kN,mM,List.getElem?_range h];rfl
theorem qHC{l m:List Int}(h:l.length=m.length)(e:∀b,b<l.length->l.getD b 0=m.getD b 0):l=m:=by(
refine wA h λi h1 h2=>?_
have:=e i h1
rw[kN,kN,kL h1,kL h2]at this
exact this)
theorem qHD{P:Nat}{W V:Mp}(h:W.Perm V):lvW B P W=lvW B P V:=by(
refine qHC (by rw[q72,q72]) λc d=>?_
rw[q72]at d
rw[qD4 d,qD4 d]
unfold cntB
rw[h.countP_eq])
theorem QS.lvW(h:QS q):q.lv=lvW q.B q.P q.V:=by refine qHC (by rw[q72,h.ok.ll]) λc d=>?_;rw[h.ok.ll]at d;rw[qD4 d,h.lv c d]
theorem Rows.lenV(h:Rows q0 R q)(e:q0.V=[]):(newW R).length<=R.length:=by(
induction h with
|nil=>exact kO _
|@snoc R q r h f ih=>
 rw[q9V,mI];unfold putW;split
 .rw[kI];exact Nat.le_succ_of_le ih
 rw[mI];exact aL ih)
end
noncomputable def OneP(B P:Nat)(fi:List Int):Prop:=∀b c,b<B->c<B->jU P fi b=true->jU P fi c=true->b=c
noncomputable def clr1(P:Nat)(fi:List Int)(b:Nat):Nat:=P-(fi.getD b 0).toNat
noncomputable def rm(B P:Nat)(fi:List Int):Nat:=((List.range B).map (clr1 P fi)).sum
theorem qE7{L:List Nat}{f:Nat->Nat}:(L.map λb=>f b+g b).sum=(L.map f).sum+(L.map g).sum:=by(
induction L with
|nil=>rfl
|cons x L d=>rw[mV,mV,mV,rN,rN,rN,d];lia)
theorem q15{L:List Nat}{f g:Nat->Nat}(h:∀b∈L,f b=g b):(L.map f).sum=(L.map g).sum:=by rw[wS h]
theorem qML{L:List Nat}{p:Nat->Bool}{c:Nat}:(L.map λb=>if p b=true then c else 0).sum=(L.filter p).length*c:=by(
induction L with
|nil=>simp
|cons x L d=>
 rw[mV,rN,d,gH];by_cases h:p x=true
 .rw[kD h,kD h,mP,pK];lia
 rw[hU h,hU h];lia)
theorem qE8{L:List Nat}{p:Nat->Bool}{h:Nat->Nat}(nd:L.Nodup)(one:∀a∈L,∀b∈L,p a=true->p b=true->a=b):(L.map λb=>if p b=true then h b else 0).sum=match L.find? p with|some b=>h b|none=>0:=by(
induction L with
|nil=>rfl
|cons x L I=>
 obtain⟨N,J⟩:=gD.mp nd;rw[mV,rN,dR];by_cases d:p x=true
 .rw[d,kD rfl];have:(L.map λb=>if p b=true then h b else 0).sum=(L.map λZ=>0).sum:=q15 λb D=>by rw[hU];intro z;exact N (by rw[one x (by simp) b (hG _ D) d z];exact D)
  rw[this];have z:(L.map λZ=>0).sum=0:=by
   clear this I nd one N J;induction L with
   |nil=>rfl
   |cons y L I=>rw[mV,rN,I]
  rw[z];rfl
 rw[hU d];rw[aM]at d;rw[d];rw[lJ];exact I J λa O b D=>one a (hG _ O) b (hG _ D))
section
variable{B P:Nat}{fi cl:List Int}{l:List Nat}
noncomputable abbrev noB(B:Nat):List Bool:=List.replicate B false
theorem qKW(on:OneP B P fi)(wr:∀b,b<B->∃f:Nat,fi.getD b 0=(f:Int)/\f<=P)(p1:1<=P)(hl:FreeIs B (noB B) cl fi l):
 rm B P fi=l.length*P+(match jP B P (noB B) fi with|some b=>P-(fi.getD b 0).toNat|none=>0):=by(
have h1:l.length=((List.range B).filter λb=>decide (fi.getD b 0=0)).length:=by rw[hl.pm.length_eq];unfold u8;rw[yD]
unfold rm jP
rw[yD,h1,<-qML,<-qE8   pU (λa D b d=>on a b (mU.mp D) (mU.mp d)),<-qE7]
refine q15 λb d=>?_
obtain⟨f,z,I⟩:=wr b (mU.mp d)
unfold clr1 jU
rw[z,kQ]
lia)
theorem q2H{b:Nat}(h:jP B P (noB B) fi=some b):b<B/\0<fi.getD b 0/\fi.getD b 0<(P:Int):=by have:=q1K h;exact⟨this.1,this.2.2⟩
theorem q2I(on:OneP B P fi)(wr:∀b,b<B->∃f:Nat,fi.getD b 0=(f:Int)/\f<=P)(p1:1<=P)(hl:FreeIs B (noB B) cl fi l):
 (jP B P (noB B) fi=none/\rm B P fi=l.length*P)\/∃b e,jP B P (noB B) fi=some b/\1<=e/\e<P/\rm B P fi=l.length*P+e/\fi.getD b 0+(e:Int)=(P:Int):=by(
have h:=qKW on wr p1 hl
cases hp:jP B P _ fi with
|none=>rw[hp]at h;exact .inl ⟨rfl,h⟩
|some b=>rw[hp]at h;obtain⟨a,c,d⟩:=q2H hp;exact .inr ⟨b,P-(fi.getD b 0).toNat,rfl,by lia,by lia,h,by lia⟩)
theorem qJO{ie:Nat}(on:OneP B P fi)(wr:∀b,b<B->∃f:Nat,fi.getD b 0=(f:Int)/\f<=P)(p1:1<=P)(hl:FreeIs B (noB B) cl fi l):
 rdy (ie:Int) l (jP B P (noB B) fi)=decide ((1+ie)*P<rm B P fi):=by(
have d:∀e,e<P->((1+ie)*P<l.length*P+e↔(1+ie<l.length\/(1+ie=l.length/\0<e))):=λe D=>by
 rcases Nat.lt_trichotomy (1+ie) l.length with h|h|h
 .have:=g8 P (show 1+ie+1<=l.length from h);rw[pK]at this;exact⟨λZ=>.inl h,λZ=>by lia⟩
 .rw[h];exact⟨λz=>.inr ⟨rfl,by lia⟩,λz=>by lia⟩
 have:=g8 P (show l.length+1<=1+ie from h);rw[pK]at this;exact⟨λz=>by lia,λz=>by lia⟩
unfold rdy
rcases q2I on wr p1 hl with⟨h1,h2⟩|⟨b,e,h1,e1,e2,h2,_⟩
.rw[h1,h2];have k:=d 0 (by lia);rw[sO]at k;by_cases z:(1+ie)*P<l.length*P
 .rw[hC z,hC (show(l.length:Int)-(1+(ie:Int))>0 by rcases k.mp z with h|h<;>lia)];rfl
 rw[kB z,kB (show ¬(l.length:Int)-(1+(ie:Int))>0 by intro y;exact z (k.mpr (.inl (by lia))))];simp
rw[h1,h2]
have k:=d e e2
by_cases z:(1+ie)*P<l.length*P+e
.rw[hC z];rcases k.mp z with h|h
 .rw[hC (show(l.length:Int)-(1+(ie:Int))>0 by lia)];rfl
 rw[hC (show(l.length:Int)-(1+(ie:Int))=0 by lia)];simp
rw[kB z,kB (show ¬(l.length:Int)-(1+(ie:Int))>0 by intro y;exact z (k.mpr (.inl (by lia)))),kB (show ¬(l.length:Int)-(1+(ie:Int))=0 by intro y;exact z (k.mpr (.inr ⟨by lia,by lia⟩)))]
rfl)
theorem q9W(on:OneP B P fi)(wr:∀b,b<B->∃f:Nat,fi.getD b 0=(f:Int)/\f<=P)(p1:1<=P)(hl:FreeIs B (noB B) cl fi l)(h:0<rm B P fi):∃b,q22 B P (noB B) fi l=some b/\((jP B P (noB B) fi=some b)\/(jP B P (noB B) fi=none/\fi.getD b 0=0)):=by(
unfold q22
rcases q2I on wr p1 hl with⟨h1,h2⟩|⟨b,e,h1,_⟩
.rw[h1];cases l with
 |nil=>simp_all
 |cons x l=>exact⟨x,rfl,.inr ⟨rfl,(hl.mem (by simp)).2.2⟩⟩
rw[h1]
exact⟨b,rfl,.inl rfl⟩)
theorem qJP{L:List Nat}{f:Nat->Nat}{b:Nat}(nd:L.Nodup)(hb:b∈L)(h:∀c∈L,c≠b->f c=g c):(L.map f).sum+g b=(L.map g).sum+f b:=by(
induction L with
|nil=>simp_all
|cons x L J=>
 obtain⟨D,I⟩:=gD.mp nd;rw[mV,mV,rN,rN];rcases kM.mp hb with rfl|hb
 .rw[q15    λc d=>h c (hG _ d) λz=>D (by simp_all)];lia
 have:=J I hb λc d=>h c (hG _ d);have e:=h x (by simp) λz=>D (by rw[z];exact hb);lia)
theorem qHE{b:Nat}{v:Int}(hb:b<B)(lf:fi.length=B):rm B P (fi.set b v)+(P-(fi.getD b 0).toNat)=rm B P fi+(P-v.toNat):=by(
have:=qJP  (f:=clr1 P (fi.set b v)) (g:=clr1 P fi)  pU (mU.mpr hb) λc Z d=>by unfold clr1;rw[jA,hU (λz=>d z.1.symm)]
have e:clr1 P (fi.set b v) b=P-v.toNat:=by unfold clr1;simp_all
rw[e]at this
exact this)
theorem qHF{b f:Nat}(hb:b<B)(lf:fi.length=B)(ef:fi.getD b 0=(f:Int))(hf:f<P):rm B P (fi.set b (fi.getD b 0+1))+1=rm B P fi:=by(
have:=qHE (P:=P) (v:=fi.getD b 0+1) hb lf
rw[ef]at this ⊢
have d:=kQ f
lia)
theorem qJQ{b:Nat}(hb:b<B)(lf:fi.length=B)(ef:fi.getD b 0=(P:Int)):rm B P (fi.set b 0)=rm B P fi+P:=by(
have:=qHE (P:=P) (v:=0) hb lf
rw[ef]at this
simp_all)
theorem qE9{b:Nat}(on:OneP B P fi)(hb:b<B)(lf:fi.length=B)(h:(jP B P (noB B) fi=some b)\/(jP B P (noB B) fi=none/\fi.getD b 0=0)):OneP B P (fi.set b (fi.getD b 0+1)):=by(
have other:∀c,c<B->c≠b->jU P (fi.set b (fi.getD b 0+1)) c=true->False:=λc I N J=>by
 have D:jU P fi c=true:=by unfold jU at J ⊢;rw[jA,hU (λz=>N z.1.symm)]at J;exact J
 rcases h with h|⟨h,_⟩
 .have h2:=g4 h;exact N (on c b I hb D h2)
 have:=dA.mp h c (by rw[yD];exact mU.mpr I);exact this D
intro c d I Z S O
by_cases e1:c=b
.by_cases e2:d=b
 .simp_all
 exact(other d Z e2 O).elim
exact(other c I e1 S).elim)
theorem qHG{b:Nat}(on:OneP B P fi):OneP B P (fi.set b 0):=by(
have z:∀c,c<B->jU P (fi.set b 0) c=true->jU P fi c=true:=λc I D=>by
 unfold jU at D ⊢;rw[jA]at D;split at D
 .simp_all
 exact D
exact λc d I J O N=>on c d I J (z c I O) (z d J N))
theorem qJR{V:Mp}:∀{L:List Nat},L.Nodup->(L.map (cntB P V)).sum<=V.length:=by(
induction V with
|nil=>
 intro L _;have:(L.map (cntB P [])).sum=(L.map λZ=>0).sum:=q15 λb Z=>rfl;rw[this];clear this;induction L with
 |nil=>exact kO _
 |cons x L z=>simp_all
|cons x V z=>
 intro L d;have e:(L.map (cntB P (x::V))).sum=(L.map (cntB P V)).sum+(L.map λb=>if(λb:Nat=>decide (x.2 / (P:Int)=(b:Int))) b=true then 1 else 0).sum:=by rw[<-qE7];refine q15 λb Z=>?_;unfold cntB;rw[pT]
 rw[e,qE8 (h:=λZ=>1) d λa Z b Z D I=>by have h1:=kP D;have h2:=kP I;lia];have:=z d;rw[mP];cases L.find? (λb:Nat=>decide (x.2 / (P:Int)=(b:Int)))with
 |none=>show _ +0<=_;lia
 |some b=>show _ +1<=_;lia)
theorem qHH{L:List Nat}{f:Nat->Nat}{k:Nat}(h:∀b∈L,k<=f b):L.length*k<=(L.map f).sum:=by(
induction L with
|nil=>simp
|cons x L z=>rw[mP,mV,rN];have:=z λb d=>h b (hG _ d);have:=h x (by simp);lia)
theorem qBU(on:OneP B P fi)(wr:∀b,b<B->∃f:Nat,fi.getD b 0=(f:Int)/\f<=P)(p1:1<=P)(hl:FreeIs B (noB B) cl fi l)(hp:jP B P (noB B) fi=none):(y6 B P (noB B) fi).length+l.length=B:=by(
have h1:l.length=((List.range B).filter λb=>decide (fi.getD b 0=0)).length:=by rw[hl.pm.length_eq];unfold u8;rw[yD]
have h2:y6 B P (noB B) fi=(List.range B).filter λb=>!decide (fi.getD b 0=0):=by
 unfold y6;rw[yD];refine pN λb d=>?_;obtain⟨f,D,I⟩:=wr b (mU.mp d);have np:=dA.mp hp b (by rw[yD];exact d);unfold jU at np;rw[D]at np ⊢;by_cases z:f=0
 .subst z;rw[hC (show((0:Nat):Int)=0 from rfl),kB (by lia)];rfl
 rw[kB (show ¬(f:Int)=0 by lia)];by_cases y:f<P
 .exact(np (by rw[hC (show(0:Int)<(f:Int) by lia),hC (show(f:Int)<(P:Int) by lia)];rfl)).elim
 exact hC (by lia)
rw[h1,h2]
have e:∀{L:List Nat} {p:Nat->Bool},(L.filter λb=>!p b).length+(L.filter p).length=L.length:=by
 intro L p;induction L with
 |nil=>rfl
 |cons x L J=>rw[gH,gH];cases p x<;>simp<;>lia
have:=e (L:=List.range B) (p:=λb=>decide (fi.getD b 0=0))
rw[m7]at this
exact this)
end
section
variable{q:QM}{m:CM}{l:List Nat}
theorem qHI{b f:Nat}{n:Int}(hf:f<q.P):q53 q (q.nx,b*q.P+f,n)=q.put b f n:=by show({ q with nx:=q.nx }).put ((b*q.P+f) / q.P) ((b*q.P+f)%q.P) n=_;rw[jZ hf,dZ,c8,cU hf]
theorem QS.put{b f:Nat}{n:Int}(h:QS q)(hb:b<q.B)(hf:f<q.P)(ef:q.fi.getD b 0=(f:Int))(n0:0<=n)(n1:n<=64):QS (q.put b f n):=by(
have d:Fits q (q.nx,b*q.P+f,n):=by
 refine⟨?_,?_,gC _,n0,n1⟩
 .rw[jZ hf];exact hb
 rw[jZ hf,ef,dZ,c8,cU hf]
have:=d.qs h
rw[qHI hf]at this
simp_all)
theorem jH{b f:Nat}{n:Int}{x:Int×Int}:x∈(q.put b f n).V↔x=(n,((b*q.P+f:Nat):Int))\/(x∈q.V/\x.1≠n):=by show x∈jB q.V n++[(n,((b*q.P+f:Nat):Int))]↔_;rw[gN,qY,kE];exact⟨λh=>h.symm,λh=>h.symm⟩
theorem QS.forget(h:QS q)(n:Int):QS (q.forget n):=⟨h.ok.forget n,λb hb=>qE6 h n hb⟩
noncomputable def QM.emptied(q:QM)(b:Nat):QM:={ q with fi:=q.fi.set b 0,bo:=q.bo.set b 0 }
theorem QS.emptied(h:QS q)(b:Nat):QS (q.emptied b):=by(
refine⟨{ h.ok with lf:=by show(q.fi.set b 0).length=q.B;rw[gU];exact h.ok.lf,lo:=by show(q.bo.set b 0).length=q.B;rw[gU];exact h.ok.lo,wr:=λc d=>?_ },h.lv⟩
show ∃f:Nat,(q.fi.set b 0).getD c 0=(f)/\f<=q.P
rw[jA]
split
.exact⟨0,rfl,m9 _⟩
exact h.ok.wr c d)
noncomputable def tlOf(m:CM)(q:QM)(b:Nat):Tl:=⟨(b:Int),q.lv.getD b 0,m.cl.getD b 0,q.bo.getD b 0⟩
theorem qHJ{f:Tl->Int}(h:ts≠[]):∃T∈ts,pk f ts=T.b/\∀o∈ts,f T<=f o:=by obtain⟨i,hi,d,D⟩:=q3W f ts h;exact⟨ts[i],gO hi,qDV hi d D,λo z=>by have:=zP.mp d o z;lia⟩
theorem qHK{ie:Nat}(h:QS q)(on:OneP q.B q.P q.fi)(br:m.br=noB q.B)(hl:FreeIs q.B (noB q.B) m.cl q.fi l)(hr:rm q.B q.P q.fi=(1+ie)*q.P)(hv:q.V.length<(q.B-(1+ie))*q.P):
 optN (ie:Int) m q l≠[]/\∀b∈optN (ie:Int) m q l,(∀c∈optN (ie:Int) m q l,q.lv.getD b 0<=q.lv.getD c 0)->cntB q.P q.V b*(q.B-(1+ie))<=q.V.length:=by(
have Z:=h.ok.p1
have ll:jP q.B q.P (noB q.B) q.fi=none/\l.length=1+ie:=by
 rcases q2I on h.ok.wr Z hl with⟨h1,h2⟩|⟨b,e,h1,e1,e2,h2,_⟩
 .refine⟨h1,?_⟩;rw[hr]at h2;exact(sZ (by lia) h2).symm
 exfalso;rw[hr]at h2;have k:(1+ie)*q.P%q.P=e:=by rw[h2,dZ,c8,cU e2]
 rw[aN]at k;lia
have fl:=qBU on h.ok.wr Z hl ll.1
have I:(y6 q.B q.P (noB q.B) q.fi).length=q.B-(1+ie):=by lia
have O:spcN (ie:Int) l q.P q.fi (jP q.B q.P (noB q.B) q.fi)=(q.P:Int):=by unfold spcN;rw[kD (by lia)]
have S:(y6 q.B q.P (noB q.B) q.fi).Nodup:=by unfold y6;rw[yD];exact gK _ pU
have N:∀b∈y6 q.B q.P (noB q.B) q.fi,b<q.B:=λb D=>by unfold y6 at D;rw[yD]at D;exact mU.mp (mL.mp D).1
have d:∀b,b∈optN (ie:Int) m q l↔b∈y6 q.B q.P (noB q.B) q.fi/\cntB q.P q.V b<q.P:=λb=>by
 unfold optN;rw[br,O,mL,mL,mD,mD];constructor
 .rintro⟨⟨a,_⟩,c⟩
  rw[h.lv b (N b a)]at c;exact⟨a,by lia⟩
 rintro⟨a,c⟩
 rw[h.lv b (N b a)];exact⟨⟨a,by lia⟩,by lia⟩
have cs:=qJR (P:=q.P) (V:=q.V) S
constructor
.intro z;have:(y6 q.B q.P (noB q.B) q.fi).length*q.P<=((y6 q.B q.P (noB q.B) q.fi).map (cntB q.P q.V)).sum:=qHH λb D=>by refine dE λy=>?_;have:b∈optN (ie:Int) m q l:=(d b).mpr ⟨D,by lia⟩;rw[z]at this;cases this
 rw[I]at this;lia
intro b D J
obtain⟨bF,bP⟩:=(d b).mp D
have:(y6 q.B q.P (noB q.B) q.fi).length*cntB q.P q.V b<=((y6 q.B q.P (noB q.B) q.fi).map (cntB q.P q.V)).sum:=qHH λc hc=>by
 by_cases y:cntB q.P q.V c<q.P
 .have:=J c ((d c).mpr ⟨hc,y⟩);rw[h.lv b (N b bF),h.lv c (N c hc)]at this;lia
 lia
rw[I,dZ]at this
lia)
end
theorem qMM{V:Mp}(nd:(V.map (·.1)).Nodup):V.length<=((V.map (·.1)).filter λn=>decide (n≠64)).length+1:=by(
have e:∀{L:List Int},L.Nodup->L.length<=(L.filter λn=>decide (n≠64)).length+1:=by
 intro L;induction L with
 |nil=>intro _;exact m9 _
 |cons y L J=>
  intro nd;obtain⟨d,I⟩:=gD.mp nd;rw[gH];by_cases z:y=64
  .rw[hU (by simp[z])];have:L.filter (λn=>decide (n≠64))=L:=rA.mpr λw D=>hC λe=>d (by rw[z,<-e];exact D);rw[this];exact kO _
  simp_all
have:=e nd
rw[kI]at this
exact this)
inductive Rl where
|rk (f:Int->Int->Tl->Int)
|win (m:Int)
|fol (row:List Int) (u:Nat)
noncomputable def Rl.Ok:Rl->Prop
| .win m=>1<=m
|_=>True
noncomputable def leL(k:Tl->List Int)(a b:Tl):Bool:=!lx (k b) (k a)
noncomputable def winC(m:Int)(ts:List Tl):List Tl:=((ts.mergeSort (leL λT=>[T.bo,T.b])).take m.toNat).mergeSort (leL Tl.ns)
theorem qJS{m:Int}:∀o∈winC m ts,o∈ts:=λo ho=>pD.mp (List.mem_of_mem_take (pD.mp ho))
theorem qJT{m:Int}(m1:1<=m)(h:ts≠[]):winC m ts≠[]:=λz=>by(
have:=dW List.length z
unfold winC at this
rw[pP,gZ,pP]at this
grind)
noncomputable def fo(row:List Int)(u:Nat)(ts:List Tl):Int:=match row[u]? with
|some n=>if n∈ts.map Tl.b then n else(ts.map Tl.b).headD 0
|none=>(ts.map Tl.b).headD 0
noncomputable def Rl.ch:Rl->Int->Int->List Tl->Int×Rl
| .rk f,pg,nw,ts=>(pk (f pg nw) ts,.rk f)
| .win m,_,_,ts=>(pk Tl.lv (winC m ts),.win m)
| .fol row u,_,_,ts=>(fo row u ts,.fol row (min (u+1) row.length))
noncomputable def minF(cl:List Int):List Nat->Option Nat
| []=>none
|b::L=>match minF cl L with
 |none=>some b
 |some c=>if cl.getD c 0<cl.getD b 0 then some c else some b
noncomputable def spF(q:QM)(cl:List Int):Nat:=match(List.range q.B).find? (jU q.P q.fi)with
|some b=>b
|none=>(minF cl ((List.range q.B).filter λb=>decide (q.fi.getD b 0=0))).getD 0
section
variable{B P:Nat}{q:QM}{m:CM}{cl fi:List Int}{l:List Nat}
theorem q3D:∀{L:List Nat},L.Pairwise (· < ·)->(minF cl L=none->L=[])/\∀b,minF cl L=some b->b∈L/\∀c∈L,lx (keyN cl c) (keyN cl b)=false
| [],_=>⟨λZ=>rfl,λb h=>by cases h⟩
|a::L,pw=>by
 obtain⟨p1,p2⟩:=g9.mp pw;obtain⟨h1,h2⟩:=q3D p2;unfold minF;cases z:minF cl L with
 |none=>
  have:=h1 z;subst this;refine⟨λy=>(by cases y),λb h=>?_⟩;injection h with h
  subst h;exact⟨by simp,λc hc=>by rw[kE.mp hc];exact q3X _⟩
 |some c=>
  obtain⟨g1,g2⟩:=h2 c z;have hac:=p1 c g1;dsimp only;by_cases y:cl.getD c 0<cl.getD a 0
  .rw[kD y];refine⟨λw=>(by cases w),λb h=>?_⟩;injection h with h
   subst h;refine⟨hG _ g1,λd hd=>?_⟩;rcases kM.mp hd with e|e
   .subst e;unfold keyN lx;rw[hU (by omega)];exact kB (by omega)
   exact g2 d e
  rw[hU y];refine⟨λw=>(by cases w),λb h=>?_⟩;injection h with h
  subst h;refine⟨by simp,λd hd=>?_⟩;rcases kM.mp hd with e|e
  .subst e;exact q3X _
  refine qKV (b:=keyN cl c) ?_ (g2 d e);unfold keyN lx;by_cases w:cl.getD c 0=cl.getD a 0
  .rw[kD w];unfold lx;rw[hU (by omega)];exact kB (by omega)
  rw[hU w];exact kB (by omega)
theorem qFD(hl:FreeIs B (noB B) cl fi l):l.head?=minF cl ((List.range B).filter λb=>decide (fi.getD b 0=0)):=by(
have d:=hl.pm
unfold u8 at d
rw[yD]at d
have I:((List.range B).filter λb=>decide (fi.getD b 0=0)).Pairwise (· < ·):=gK _ dH
obtain⟨h1,h2⟩:=q3D (cl:=cl) I
cases l with
|nil=>rw[xG.mp d];rfl
|cons a r=>
 cases z:minF cl ((List.range B).filter λb=>decide (fi.getD b 0=0))with
 |none=>rw[h1 z]at d;have:=d.length_eq;cases this
 |some b=>
  obtain⟨O,J⟩:=h2 b z;have D:=hl.so;rw[mV]at D;have D:=(g9.mp D).1;have N:=d.mem_iff.mpr O;have e:a=b:=by
   rcases kM.mp N with e|e
   .exact e.symm
   exact qJK (q5K _ _ (J a (d.mem_iff.mp (by simp))) (D _ (kZ.mpr ⟨b,e,rfl⟩)))
  rw[e];rfl)
theorem qMN(on:OneP q.B q.P q.fi)(wr:∀b,b<q.B->∃f:Nat,q.fi.getD b 0=(f:Int)/\f<=q.P)(p1:1<=q.P)(hl:FreeIs q.B (noB q.B) cl q.fi l)(h:0<rm q.B q.P q.fi):q22 q.B q.P (noB q.B) q.fi l=some (spF q cl):=by(
obtain⟨b,d,_⟩:=q9W on wr p1 hl h
rw[d]
unfold q22 jP at d
unfold spF
rw[yD]at d
cases z:(List.range q.B).find? (jU q.P _)with
|some c=>rw[z]at d;exact d.symm
|none=>rw[<-qFD hl];simp_all)
noncomputable def lvP(P b:Nat)(V:Mp):List (List Int):=(List.range P).filterMap λf=>(V.find? λy=>decide (y.2=((b*P+f:Nat):Int))).map λy=>[y.2,y.1]
theorem q3E{P b:Nat}{V:Mp}(hP:1<=P)(pd:(V.map (·.2)).Nodup){k:List Int}:k∈lvP P b V↔∃y∈V,y.2 / (P:Int)=(b:Int)/\k=[y.2,y.1]:=by(
unfold lvP
rw[rE]
constructor
.rintro⟨f,J,e⟩
 have J:=mU.mp J;cases z:V.find? λy=>decide (y.2=((b*P+f:Nat):Int))with
 |none=>rw[z]at e;cases e
 |some y=>
  rw[z]at e;have D:=gR z;have d:y.2=((b*P+f:Nat):Int):=by simpa using g4 z
  refine⟨y,D,?_,(kU e).symm⟩;rw[d,<-g7,jZ J]
rintro⟨y,hy,hb,rfl⟩
have Z:0<=y.2:=by refine dE λz=>?_;have:=Int.ediv_neg_of_neg_of_pos (a:=y.2) (b:=(P:Int)) (by omega) (by omega);omega
have e:=Int.mul_ediv_add_emod y.2 (P:Int)
have m0:=aT y.2 (show(P:Int)≠0 by omega)
have m1:=xN y.2 (show(0:Int)<(P:Int) by omega)
refine⟨(y.2%(P:Int)).toNat,mU.mpr (by omega),?_⟩
have I:y.2=((b*P+(y.2%(P:Int)).toNat:Nat):Int):=by rw[aZ,dS,<-hb,Int.mul_comm];omega
cases z:V.find? λw=>decide (w.2=((b*P+(y.2%(P:Int)).toNat:Nat):Int))with
|none=>exact absurd (hC I) (dA.mp z y hy)
|some w=>
 have D:=gR z;have d:w.2=((b*P+(y.2%(P:Int)).toNat:Nat):Int):=by simpa using g4 z
 have:w=y:=by
  clear z;induction V with
  |nil=>cases D
  |cons v V S=>
   rw[mV]at pd;obtain⟨N,O⟩:=gD.mp pd;rcases kM.mp D with a|a<;>rcases kM.mp hy with c|c
   .rw[a,c]
   .exact(N (by rw[<-a,d,<-I];exact kZ.mpr ⟨y,c,rfl⟩)).elim
   .exact(N (by rw[<-c,I,<-d];exact kZ.mpr ⟨w,a,rfl⟩)).elim
   exact S O c a
 rw[this];rfl)
theorem qAF{P b:Nat}{V:Mp}:(lvP P b V).Pairwise λa c=>lx c a=false/\a≠c:=by(
refine List.pairwise_filterMap.mpr (dH.imp fun {f g} hfg k hk k' hk'=>?_)
cases z:V.find? λy=>decide (y.2=((b*P+f:Nat):Int))with
|none=>rw[z]at hk;cases hk
|some y=>
 cases z':V.find? λy=>decide (y.2=((b*P+g:Nat):Int))with
 |none=>rw[z']at hk';cases hk'
 |some d=>
  rw[z]at hk;rw[z']at hk';have I:=by simpa using g4 z
  have D:=by simpa using g4 z'
  obtain rfl:[y.2,y.1]=k:=kU hk;obtain rfl:[d.2,d.1]=k':=kU hk';refine⟨?_,λw=>?_⟩
  .unfold lx;rw[hU (by omega)];exact kB (by omega)
  injection w with w _
  omega)
theorem qEA{P b:Nat}{V:Mp}{rs:List (List Int)}(hP:1<=P)(pd:(V.map (·.2)).Nodup)(nd:rs.Nodup)(mm:∀k,k∈rs↔∃n p,k=[p,n]/\(n,p)∈V/\p / (P:Int)=(b:Int))(so:rs.Pairwise λa b=>lx b a=false):rs=lvP P b V:=by(
refine qD1 (q1J nd (qAF.imp λz=>z.2) λk=>?_) so (qAF.imp λz=>z.1)
rw[mm,q3E hP pd]
constructor
.rintro⟨n,p,rfl,h1,h2⟩
 exact⟨(n,p),h1,h2,rfl⟩
rintro⟨y,h1,h2,rfl⟩
exact⟨y.1,y.2,rfl,h1,h2⟩)
end
structure XS where
q:QM
cl:List Int
pg:Nat->Option (Int×Int)
lf:Option Int
rc:List (Str×Int×Bool)
structure Tm where
ie:Nat
sp:Int
ev:Bool
noncomputable def mnL:List Int->Option Int
| []=>none
|a::l=>match mnL l with
 |none=>some a
 |some m=>some (if a<=m then a else m)
theorem qAG:∀{l:List Int},l≠[]->∃m,mnL l=some m/\m∈l/\∀a∈l,m<=a
| [],h=>absurd rfl h
| [a],_=>⟨a,rfl,by simp,λb hb=>by rw[kE.mp hb];exact gC _⟩
|a::b::l,_=>by
 obtain⟨m,e,h1,h2⟩:=qAG (l:=b::l) (by simp);unfold mnL;rw[e];by_cases z:a<=m
 .refine⟨a,by dsimp only;rw[kD z],by simp,λc hc=>?_⟩;rcases kM.mp hc with e|hc
  .rw[e];exact gC _
  exact r9 z (h2 c hc)
 refine⟨m,by dsimp only;rw[hU z],hG _ h1,λc hc=>?_⟩;rcases kM.mp hc with e|hc
 .rw[e];lia
 exact h2 c hc
namespace XS
variable(s:XS)
noncomputable def pb:Nat:=spF s.q s.cl
noncomputable def pf:Nat:=(s.q.fi.getD s.pb 0).toNat
noncomputable def np:Nat:=s.pb*s.q.P+s.pf
noncomputable def put(n v:Int):XS:=⟨s.q.put s.pb s.pf n,s.cl,λi=>if i=s.np then some (s.q.nx*128+n,v)else s.pg i,s.lf.map (· - 1),s.rc++[(Str.ofString "put",(s.np:Int),true)]⟩
noncomputable def wip(b:Nat):XS:=⟨s.q.emptied b,s.cl.set b (s.cl.getD b 0+1),λi=>if i / s.q.P=b then none else s.pg i,s.lf.map (· - 1),s.rc++[(Str.ofString "wipe",(b:Int),true)]⟩
noncomputable def forg(n:Int):XS:={ s with q:=s.q.forget n }
noncomputable def rmX:Nat:=rm s.q.B s.q.P s.q.fi
noncomputable def hl:List Int:=((s.q.V.map (·.1)).filter λn=>decide (n≠64)).mergeSort λa b=>decide (a<=b)
noncomputable def bits(ns:List Int):Int:=((orB (ns.map Int.toNat) 0:Nat):Int)
noncomputable def val(p n:Int):Int:=if n=64 then bits s.hl else((s.pg p.toNat).getD (0,0)).2
noncomputable def mvs:List (List Int)->XS->XS×Option (List (List Int))
| [],s=>(s,some [])
|k::r,s=>if s.lf=some 0 then(s,none)else
 match mvs r (s.put (k.getD 1 0) (s.val (k.getD 0 0) (k.getD 1 0)))with
 |(s',none)=>(s',none)
 |(s',some ms)=>(s',some ([k.getD 1 0,k.getD 0 0,(s.np:Int)]::ms))
noncomputable def spc(k:Tm):Int:=if(1+k.ie)*s.q.P<=s.rmX then(s.q.P:Int)else(s.rmX:Int)-(k.ie*s.q.P:Nat)
noncomputable def ful(k:Tm):List Nat:=(List.range s.q.B).filter λb=>decide (s.q.fi.getD b 0=(s.q.P:Int))&&decide (s.q.lv.getD b 0<=s.spc k)
noncomputable def ded(k:Tm):List Nat:=(s.ful k).filter λb=>decide (s.q.lv.getD b 0<(s.q.P:Int))
noncomputable def lst:Int:=(mnL s.cl).getD 0
noncomputable def clb(k:Tm)(L:List Nat):List Nat:=L.filter λb=>decide (s.cl.getD b 0<s.lst+k.sp)
noncomputable def opt(k:Tm):List Nat:=if k.ev then s.clb k (s.ded k)else s.ded k
noncomputable def tl(b:Nat):Tl:=⟨(b:Int),s.q.lv.getD b 0,s.cl.getD b 0,s.q.bo.getD b 0⟩
noncomputable def ots(k:Tm):List Tl:=(s.opt k).map s.tl
noncomputable def chg(k:Tm):Option Nat:=minF s.cl (s.clb k (s.ful k))
noncomputable def rd(k:Tm):Bool:=decide ((1+k.ie)*s.q.P<s.rmX)
noncomputable def tk(k:Tm)(g:Rl):Option (Str×Nat×Rl):=if s.opt k=[]then(if k.ev then(s.chg k).map λb=>("even",b,g)else none)
 else some ("rule",(g.ch (s.q.P:Int) s.q.nx (s.ots k)).1.toNat,(g.ch (s.q.P:Int) s.q.nx (s.ots k)).2)
end XS
inductive Rf where
|dark|room
structure Pa where
why:Str
ts:List Tl
b:Nat
mv:List (List Int)
structure Sx where
s:XS
g:Rl
ps:List Pa
namespace Sx
noncomputable def room(k:Tm)(X:Sx):Sx×Except Rf Pa:=match X.s.tk k X.g with
|none=>(X,.error .room)
|some (y,b,g)=>match XS.mvs (lvP X.s.q.P b X.s.q.V) X.s with
 |(s,none)=>(⟨s,g,X.ps⟩,.error .dark)
 |(s,some ms)=>if s.lf=some 0 then(⟨s,g,X.ps⟩,.error .dark)else(⟨s.wip b,g,X.ps++[⟨y,X.s.ots k,b,ms⟩]⟩,.ok ⟨y,X.s.ots k,b,ms⟩)
noncomputable def rooms(k:Tm):Nat->Sx->Option (Sx×Except Rf Unit)
|0,X=>if X.s.rd k then some (X,.ok ())else none
|i+1,X=>if X.s.rd k then some (X,.ok ())else match X.room k with
 |(Y,.error e)=>some (Y,.error e)
 |(Y,.ok _)=>rooms k i Y
noncomputable def ask(k:Tm)(i:Nat)(X:Sx)(n v:Int):Option (Sx×Except Rf Nat):=match X.rooms k i with
|none=>none
|some (Y,.error e)=>some (Y,.error e)
|some (Y,.ok _)=>if Y.s.lf=some 0 then some (Y,.error .dark)else some (⟨Y.s.put n v,Y.g,Y.ps⟩,.ok Y.s.np)
end Sx
structure WX(k:Tm)(s:XS):Prop where
qs:QS s.q
on:OneP s.q.B s.q.P s.q.fi
lc:s.cl.length=s.q.B
cr:∀b f:Nat,b<s.q.B->s.q.fi.getD b 0<=(f:Int)->f<s.q.P->s.pg (b*s.q.P+f)=none
vl:∀y∈s.q.V,∃b f:Nat,∃v:Int×Int,b<s.q.B/\f<s.q.P/\y.2=((b*s.q.P+f:Nat):Int)/\(f:Int)<s.q.fi.getD b 0/\s.pg (b*s.q.P+f)=some v
pd:(s.q.V.map (·.2)).Nodup
c0:∀b,0<=s.cl.getD b 0/\s.cl.getD b 0<=(s.rc.length:Int)
bo:∀b,0<=s.q.bo.getD b 0/\s.q.bo.getD b 0<s.q.nx
nx:1<=s.q.nx
sl:k.ie*s.q.P<=s.rmX
l6:s.q.V.length<60
l0:∀i,s.lf=some i->0<=i
theorem q5O{P b f c:Nat}(hf:f<P)(hg:g<P)(e:b*P+f=c*P+g):b=c/\f=g:=by(
have h1:=jZ (b:=b) hf
have h2:=jZ (b:=c) hg
simp_all)
theorem q16{V:Mp}{n:Int}(nd:(V.map (·.1)).Nodup):(jB V n).length<=V.length/\∀p,(n,p)∈V->(jB V n).length+1=V.length:=by(
refine⟨mK _ _,λp h=>?_⟩
induction V with
|nil=>simp_all
|cons y V J=>
 obtain⟨d,D⟩:=gD.mp nd;unfold jB;rw[gH];rcases kM.mp h with e|h
 .subst e;rw[hU (by simp),mP];have:V.filter (λq=>decide (q.1≠n))=V:=rA.mpr λz I=>hC λe=>d (kZ.mpr ⟨z,I,e⟩);rw[this]
 have ne:y.1≠n:=λe=>d (kZ.mpr ⟨_,h,e.symm⟩);rw[kD (hC ne),mP,mP];have:=J D h;unfold jB at this;lia)
section
variable{k:Tm}{s:XS}
theorem WX.spot(h:WX k s)(hr:0<s.rmX):s.pb<s.q.B/\s.pf<s.q.P/\s.q.fi.getD s.pb 0=(s.pf:Int)/\((jP s.q.B s.q.P (noB s.q.B) s.q.fi=some s.pb)\/(jP s.q.B s.q.P (noB s.q.B) s.q.fi=none/\s.q.fi.getD s.pb 0=0))/\∀l,FreeIs s.q.B (noB s.q.B) s.cl s.q.fi l->q22 s.q.B s.q.P (noB s.q.B) s.q.fi l=some s.pb:=by(
have z:=h.qs.ok.p1
have sp:∀l,FreeIs _ _ _ _ l->q22 _ _ _ _ l=some s.pb:=λl hl=>qMN h.on h.qs.ok.wr z hl hr
obtain⟨l,hl⟩:=FreeIs.ex _ _ _ _
have d:=sp l hl
obtain⟨b,D,I⟩:=q9W h.on h.qs.ok.wr z hl hr
rw[d]at D
obtain rfl:=kU D
obtain⟨J,_,O,N⟩:=qBS hl z d
have:(s.pf)=s.q.fi.getD s.pb 0:=by unfold XS.pf;lia
exact⟨J,by lia,this.symm,I,sp⟩)
theorem q7Z{b f:Nat}{n:Int}{q:QM}(lf:q.fi.length=q.B)(hb:b<q.B)(ef:q.fi.getD b 0=(f:Int))(c:Nat):(q.put b f n).fi.getD c 0=if b=c then(f:Int)+1 else q.fi.getD c 0:=by(
show(q.fi.set b _).getD c 0=_
rw[ef,jA]
simp_all)
theorem WX.put(h:WX k s){n v:Int}(hr:k.ie*s.q.P<s.rmX)(n0:0<=n)(n1:n<=64)(hl:(∃p,(n,p)∈s.q.V)\/s.q.V.length<59)(dk:s.lf≠some 0):WX k (s.put n v)/\(s.put n v).rmX+1=s.rmX:=by(
obtain⟨S,N,O,sp,_⟩:=h.spot (by lia)
have D:=h.qs.ok
have I:∀c,(s.put n v).q.fi.getD c 0=if s.pb=c then(s.pf:Int)+1 else s.q.fi.getD c 0:=q7Z D.lf S O
have ae:(s.put n v).rmX+1=s.rmX:=qHF S D.lf O N
refine⟨⟨h.qs.put S N O n0 n1,qE9 h.on S D.lf sp,h.lc,λc g J hg d=>?_,λy Z=>?_,?_,λc=>?_,λc=>?_,?_,?_,?_,λi e=>?_⟩,ae⟩
.have d:g<s.q.P:=d;rw[I]at hg;show(if c*s.q.P+g=s.np then some (s.q.nx*128+n,v)else s.pg (c*s.q.P+g))=none;by_cases e:s.pb=c
 .subst e;rw[kD rfl]at hg;rw[hU (by unfold XS.np;lia)];exact h.cr _ g J (by lia) d
 rw[hU e]at hg;rw[hU (λ(z:c*s.q.P+g=s.np)=>e (q5O d N z).1.symm)];exact h.cr c g J hg d
.rcases jH.mp Z with e|⟨Z,ai⟩
 .rw[e];refine⟨s.pb,s.pf,_,S,N,rfl,?_,kD rfl⟩;rw[I,kD rfl];lia
 obtain⟨c,g,w,a1,a2,a3,a4,a5⟩:=h.vl y Z;refine⟨c,g,w,a1,a2,a3,?_,?_⟩
 .rw[I];by_cases e:s.pb=c
  .subst e;rw[kD rfl];lia
  rw[hU e];exact a4
 show(if c*s.q.P+g=s.np then some (s.q.nx*128+n,v)else s.pg (c*s.q.P+g))=some w;rw[hU (λ(z:c*s.q.P+g=s.np)=>?_)]
 .exact a5
 obtain⟨e1,e2⟩:=q5O a2 N z;rw[e1,O]at a4;lia
.show((jB s.q.V n++[(n,((s.pb*s.q.P+s.pf:Nat):Int))]).map (·.2)).Nodup;rw[m8];refine dO.mpr ⟨?_,by simp,λa ha c J=>?_⟩
 .exact rD (cV _ rW) h.pd
 obtain⟨y,Z,rfl⟩:=kZ.mp ha;have J:c=((s.pb*s.q.P+s.pf:Nat):Int):=by simpa using J
 rw[J];intro z;obtain⟨c',g,w,a1,a2,a3,a4,a5⟩:=h.vl y (qY.mp Z).1;rw[a3]at z;obtain⟨e1,e2⟩:=q5O a2 N (by exact rM z);rw[e1,O]at a4;lia
.show 0<=s.cl.getD c 0/\s.cl.getD c 0<=((s.rc++[_]).length:Int);have:=h.c0 c;rw[mI,gF];lia
.show 0<=(if s.q.fi.getD s.pb 0=0 then s.q.bo.set s.pb s.q.nx else s.q.bo).getD c 0/\(if s.q.fi.getD s.pb 0=0 then s.q.bo.set s.pb s.q.nx else s.q.bo).getD c 0<s.q.nx+1;have:=h.bo c;have:=h.nx;split
 .rw[jA];split<;>lia
 lia
.show 1<=s.q.nx+1;have:=h.nx;lia
.show k.ie*s.q.P<=(s.put n v).rmX;lia
.show(jB s.q.V n++[_]).length<60;rw[mI,gF];obtain⟨d1,d2⟩:=q16 (V:=s.q.V) (n:=n) D.nd;have:=h.l6;rcases hl with⟨p,hp⟩|hl
 .have:=d2 p hp;lia
 lia
have e:s.lf.map (· - 1)=some i:=e
cases z:s.lf with
|none=>rw[z]at e;cases e
|some j=>rw[z]at e;have e:j-1=i:=kU e;have:=h.l0 j z;have:j≠0:=λy=>dk (by rw[z,y]);lia)
theorem WX.wip(h:WX k s){b:Nat}(hb:b<s.q.B)(ef:s.q.fi.getD b 0=(s.q.P:Int))(nl:∀y∈s.q.V,¬y.2 / (s.q.P:Int)=(b:Int))(dk:s.lf≠some 0):WX k (s.wip b)/\(s.wip b).rmX=s.rmX+s.q.P:=by(
have D:=h.qs.ok
have N:(s.wip b).rmX=s.rmX+s.q.P:=qJQ hb D.lf ef
have I:∀c,(s.wip b).q.fi.getD c 0=if b=c then 0 else s.q.fi.getD c 0:=λc=>by
 show(s.q.fi.set b 0).getD c 0=_;rw[jA,D.lf];by_cases e:b=c
 .rw[kD ⟨e,hb⟩,kD e]
 rw[hU (λz=>e z.1),hU e]
refine⟨⟨h.qs.emptied b,qHG h.on,?_,λc g hc Z d=>?_,λy hy=>?_,h.pd,λc=>?_,λc=>?_,h.nx,?_,h.l6,λi e=>?_⟩,N⟩
.show(s.cl.set _ _).length=_;rw[gU];exact h.lc
.show(if(c*s.q.P+g) / s.q.P=b then none else s.pg (c*s.q.P+g))=none;have d:g<s.q.P:=d;rw[jZ d];by_cases e:c=b
 .rw[kD e]
 rw[hU e];rw[I,hU (λz=>e z.symm)]at Z;exact h.cr c g hc Z d
.obtain⟨c,g,w,a1,J,O,a4,a5⟩:=h.vl y hy;have S:c≠b:=λz=>nl _ hy (by rw[O,<-g7,jZ J,z]);refine⟨c,g,w,a1,J,O,?_,?_⟩
 .rw[I,hU (λz=>S z.symm)];exact a4
 show(if(c*s.q.P+g) / s.q.P=b then none else s.pg (c*s.q.P+g))=_;rw[jZ J,hU S];exact a5
.show 0<=(s.cl.set b (s.cl.getD b 0+1)).getD c 0/\(s.cl.set b (s.cl.getD b 0+1)).getD c 0<=((s.rc++[_]).length:Int);have h1:=h.c0 c;have h2:=h.c0 b;rw[mI,gF,jA];split<;>lia
.show 0<=(s.q.bo.set b 0).getD c 0/\(s.q.bo.set b 0).getD c 0<s.q.nx;have h1:=h.bo c;have h2:=h.nx;rw[jA];split<;>lia
.show k.ie*s.q.P<=(s.wip b).rmX;have:=h.sl;lia
have e:s.lf.map (· - 1)=some i:=e
cases z:s.lf with
|none=>rw[z]at e;cases e
|some j=>rw[z]at e;have e:j-1=i:=kU e;have:=h.l0 j z;have:j≠0:=λy=>dk (by rw[z,y]);lia)
theorem WX.forg(h:WX k s)(n:Int):WX k (s.forg n):=by(
refine⟨h.qs.forget n,h.on,h.lc,h.cr,λy d=>h.vl y (qY.mp d).1,?_,h.c0,h.bo,h.nx,h.sl,?_,h.l0⟩
.exact rD (cV _ rW) h.pd
have:=(q16  (n:=n) h.qs.ok.nd).1
have:=h.l6
show(jB _ n).length<60
lia)
end
theorem qHL{V:Mp}{n p:Int}(nd:(V.map (·.1)).Nodup)(h:(n,p)∈V)(h':(n,p')∈V):p=p':=by(
induction V with
|nil=>simp_all
|cons y V I=>
 obtain⟨z,D⟩:=gD.mp nd;rcases kM.mp h with e|h<;>rcases kM.mp h' with d|h'
 .rw[<-e]at d;injection d with _ d
  exact d.symm
 .exact(z (kZ.mpr ⟨_,h',by rw[<-e]⟩)).elim
 .exact(z (kZ.mpr ⟨_,h,by rw[<-d]⟩)).elim
 exact I D h h')
theorem q5P{P b:Nat}{V:Mp}:(lvP P b V).Nodup:=qAF.imp λz=>z.2
theorem q1L{b:Nat}(h:QS q)(pd:(q.V.map (·.2)).Nodup)(hb:b<q.B):((lvP q.P b q.V).length:Int)=q.lv.getD b 0:=by(
rw[h.lv b hb]
have D:=h.ok.nd
have:(lvP q.P b q.V).Perm _:=q1J q5P (gT.mpr (((gT.mp D).imp fun {a c} hne z=>hne (by
 injection z with _ z
 injection z with z _)).filter _)) λk=>by
 rw[q3E h.ok.p1 pd,kZ];constructor
 .rintro⟨y,h1,h2,rfl⟩
  exact⟨y,mL.mpr ⟨h1,hC h2⟩,rfl⟩
 rintro⟨y,hy,rfl⟩
 obtain⟨I,d⟩:=mL.mp hy;exact⟨y,I,kP d,rfl⟩
rw[this.length_eq,kI]
unfold cntB
rw[cH])
structure MvI(k:Tm)(s0:XS)(b:Nat)(rs:List (List Int))(i:Nat)(s:XS)(ms:List (List Int)):Prop where
w:WX k s
e:XS.mvs rs s0=(match XS.mvs (rs.drop i) s with|(s',none)=>(s',none)|(s',some m)=>(s',some (ms++m)))
l:ms.length=i
rc:s.rc.length=s0.rc.length+i
rm:s.rmX+i=s0.rmX
eB:s.q.B=s0.q.B
eP:s.q.P=s0.q.P
ec:s.cl=s0.cl
fb:s.q.fi.getD b 0=(s0.q.P:Int)
fm:∀c,s0.q.fi.getD c 0<=s.q.fi.getD c 0/\(s0.q.fi.getD c 0=(s0.q.P:Int)->s.q.fi.getD c 0=(s0.q.P:Int))
nm:∀n,(∃p,(n,p)∈s.q.V)↔∃p,(n,p)∈s0.q.V
dr:∀kk∈rs.drop i,∃n p,kk=[p,n]/\(n,p)∈s.q.V/\p / (s0.q.P:Int)=(b:Int)
dl:∀y∈s.q.V,y.2 / (s0.q.P:Int)=(b:Int)->[y.2,y.1]∈rs.drop i
lV:s.q.V.length=s0.q.V.length
section
variable{k:Tm}{s0 s:XS}{b i:Nat}{ms:List (List Int)}
theorem MvI.zero(w:WX k s0)(fb:s0.q.fi.getD b 0=(s0.q.P:Int)):MvI k s0 b (lvP s0.q.P b s0.q.V) 0 s0 []:=by(
refine⟨w,?_,rfl,rfl,rfl,rfl,rfl,rfl,fb,λc=>⟨gC _,λz=>z⟩,λn=>b8,λkk I=>?_,λy d D=>(q3E w.qs.ok.p1 w.pd).mpr ⟨y,d,D,rfl⟩,rfl⟩
.rw[List.drop_zero];cases XS.mvs _ s0 with
 |mk s' o=>cases o<;>rfl
obtain⟨y,d,D,rfl⟩:=(q3E w.qs.ok.p1 w.pd).mp I
exact⟨y.1,y.2,rfl,d,D⟩)
variable{rs:List (List Int)}
theorem MvI.at(h:MvI k s0 b rs i s ms)(hi:i<rs.length):∃n p,rs[i]=[p,n]/\(n,p)∈s.q.V/\0<=n/\n<=64:=by obtain⟨n,p,z,d,_⟩:=h.dr _ (by rw[wI hi];exact kY);have:=h.w.qs.ok.nm _ d;exact⟨n,p,z,d,this.1,this.2⟩
theorem MvI.dark(h:MvI k s0 b rs i s ms)(hi:i<rs.length)(dk:s.lf=some 0):XS.mvs rs s0=(s,none):=by rw[h.e,wI hi];unfold XS.mvs;rw[kD dk]
theorem MvI.fin(h:MvI k s0 b rs i s ms)(hi:i=rs.length):XS.mvs rs s0=(s,some ms)/\∀y∈s.q.V,¬y.2 / (s.q.P:Int)=(b:Int):=by(
subst hi
refine⟨?_,λy d z=>?_⟩
.rw[h.e,aO];show(s,some _)=_;rw[g0]
have:=h.dl y d (by rw[<-h.eP];exact z)
grind)
theorem MvI.step(h:MvI k s0 b rs i s ms)(nd:rs.Nodup)(hi:i<rs.length)(hr:k.ie*s0.q.P+rs.length<=s0.rmX)(dk:s.lf≠some 0){n p:Int}(er:rs[i]=[p,n]):
 MvI k s0 b rs (i+1) (s.put n (s.val p n)) (ms++[[n,p,(s.np:Int)]]):=by(
have I:rs.drop i=[p,n]::rs.drop (i+1):=by rw[wI hi,er]
obtain⟨n',p',e0,D,ar⟩:=h.dr [p,n] (by rw[I];simp)
obtain⟨rfl,rfl⟩:p=p'/\n=n':=by
 injection e0 with e1 e0
 injection e0 with e2 _
 exact⟨e1,e2⟩
have nb:=h.w.qs.ok.nm _ D
have ao:=h.rm
have Z:=h.eP
have ad:k.ie*s.q.P<s.rmX:=by rw[Z];lia
obtain⟨w',aq⟩:=h.w.put (n:=n) (v:=s.val p n) ad nb.1 nb.2 (.inl ⟨p,D⟩) dk
obtain⟨hb,hf,ef,_,_⟩:=h.w.spot (by lia)
have O:∀c,(s.put n (s.val p n)).q.fi.getD c 0=if s.pb=c then(s.pf:Int)+1 else s.q.fi.getD c 0:=q7Z h.w.qs.ok.lf hb ef
have cb:s.pb≠b:=λz=>by rw[z,h.fb,<-Z]at ef;lia
have S:((s.np:Nat):Int) / (s0.q.P:Int)=(s.pb:Int):=by rw[<-Z];unfold XS.np;rw[<-g7,jZ hf]
refine⟨w',?_,?_,?_,by lia,h.eB,h.eP,h.ec,?_,λc=>?_,λm=>?_,λkq N=>?_,λy hy d=>?_,?_⟩
.rw[h.e,I];rw[XS.mvs,hU dk];show(match(match XS.mvs (rs.drop (i+1)) (s.put n (s.val p n))with|(s',none)=>(s',none)|(s',some m)=>(s',some ([n,p,(s.np:Int)]::m)))with|(s',none)=>(s',none)|(s',some m)=>(s',some (ms++m)))=_;cases XS.mvs (rs.drop (i+1)) (s.put n (s.val p n))with
 |mk s' o=>
  cases o with
  |none=>rfl
  |some m=>show(s',some (ms++([n,p,(s.np:Int)]::m)))=(s',some ((ms++[[n,p,(s.np:Int)]])++m));rw[pJ];rfl
.rw[mI,h.l];rfl
.show(s.rc++[_]).length=_;rw[mI,h.rc];rfl
.rw[O,hU cb];exact h.fb
.obtain⟨m1,m2⟩:=h.fm c;rw[O];by_cases e:s.pb=c
 .subst e;rw[kD rfl];refine⟨by lia,λz=>?_⟩;have:=m2 z;rw[ef,<-Z]at this;lia
 rw[hU e];exact⟨m1,m2⟩
.rw[<-h.nm m];constructor
 .rintro⟨p1,h1⟩
  rcases jH.mp h1 with e|⟨h1,_⟩
  .cases e;exact⟨p,D⟩
  exact⟨p1,h1⟩
 rintro⟨p1,h1⟩
 by_cases e:m=n
 .exact⟨_,jH.mpr (.inl (by rw[e]))⟩
 exact⟨p1,jH.mpr (.inr ⟨h1,e⟩)⟩
.have J:kq∈rs.drop i:=by rw[I];exact hG _ N
 obtain⟨n',p',rfl,h',ah⟩:=h.dr kq J;refine⟨n',p',rfl,jH.mpr (.inr ⟨h',λe=>?_⟩),ah⟩;have e:n'=n:=e;subst e;have:=qHL h.w.qs.ok.nd h' D;subst this;have nn:=nd;rw[<-lQ i rs,I]at nn;have:=(dO.mp nn).2.1;exact(gD.mp this).1 N
.rcases jH.mp hy with e|⟨hy,ab⟩
 .rw[e]at d;have d:((s.np:Nat):Int) / (s0.q.P:Int)=(b:Int):=d;rw[S]at d;exact(cb (by lia)).elim
 have:=h.dl y hy d;rw[I]at this;rcases kM.mp this with e|e
 .injection e with _ e
  injection e with e _
  exact(ab e).elim
 exact e
show(jB s.q.V n++[_]).length=_
rw[mI,gF,(q16 (V:=s.q.V) (n:=n) h.w.qs.ok.nd).2 p D]
exact h.lV)
structure Mvd(k:Tm)(s0:XS)(b:Nat)(s:XS)(n:Nat):Prop where
w:WX k s
rc:s.rc.length=s0.rc.length+n
rm:s.rmX+n=s0.rmX
eB:s.q.B=s0.q.B
eP:s.q.P=s0.q.P
ec:s.cl=s0.cl
fb:s.q.fi.getD b 0=(s0.q.P:Int)
fm:∀c,s0.q.fi.getD c 0<=s.q.fi.getD c 0/\(s0.q.fi.getD c 0=(s0.q.P:Int)->s.q.fi.getD c 0=(s0.q.P:Int))
nm:∀n,(∃p,(n,p)∈s.q.V)↔∃p,(n,p)∈s0.q.V
lV:s.q.V.length=s0.q.V.length
lb:b<s0.q.B->s.q.lv.getD b 0+n=(lvP s0.q.P b s0.q.V).length
theorem MvI.mvd(h:MvI k s0 b (lvP s0.q.P b s0.q.V) i s ms)(hi:i<=(lvP s0.q.P b s0.q.V).length):Mvd k s0 b s i:=by(
refine⟨h.w,h.rc,h.rm,h.eB,h.eP,h.ec,h.fb,h.fm,h.nm,h.lV,λz=>?_⟩
rw[<-q1L h.w.qs h.w.pd (by rw[h.eB];exact z)]
have:=q1J q5P (rD (List.drop_sublist _ _) q5P) λk=>by
 rw[q3E h.w.qs.ok.p1 h.w.pd,h.eP];constructor
 .rintro⟨y,h1,h2,rfl⟩
  exact h.dl y h1 h2
 intro d;obtain⟨n,p,rfl,h1,h2⟩:=h.dr k d;exact⟨_,h1,h2,rfl⟩
rw[this.length_eq,nN]
lia)
end
section
variable{k:Tm}{s:XS}{l:List Nat}{m:CM}
theorem qMO(h:WX k s)(hl:FreeIs s.q.B (noB s.q.B) s.cl s.q.fi l):spcN (k.ie:Int) l s.q.P s.q.fi (jP s.q.B s.q.P (noB s.q.B) s.q.fi)=s.spc k:=by(
have D:=h.qs.ok.p1
have d:=h.sl
unfold spcN XS.spc
unfold XS.rmX at d ⊢
rcases q2I h.on h.qs.ok.wr D hl with⟨h1,h2⟩|⟨b,e,h1,e1,e2,h2,e3⟩
.rw[h2]at d;rw[h1,h2];by_cases z:1+k.ie<=l.length
 .rw[kD (by lia),kD (g8 _ z)]
 have le:l.length=k.ie:=by
  have:¬l.length<k.ie:=λy=>by have:=g8 s.q.P (show l.length+1<=k.ie by lia);rw[rP,rQ]at this;lia
  lia
 rw[hU (by lia),hU (by rw[le,rP,rQ];lia),le];show(0:Int)=_;lia
rw[h2]at d
rw[h1,h2]
by_cases z:1+k.ie<=l.length
.have:=g8 s.q.P z;rw[kD (by lia),kD (by lia)]
have le:l.length=k.ie:=by
 have:¬l.length<k.ie:=λy=>by have:=g8 s.q.P (show l.length+1<=k.ie by lia);rw[rP,rQ]at this;lia
 lia
rw[hU (by lia),hU (by rw[le,rP,rQ];lia),le]
show(s.q.P:Int)-s.q.fi.getD b 0=_
lia)
theorem qHM(h:WX k s)(hl:FreeIs s.q.B (noB s.q.B) s.cl s.q.fi l):((y6 s.q.B s.q.P (noB s.q.B) s.q.fi).filter λb=>decide (s.q.lv.getD b 0<=spcN (k.ie:Int) l s.q.P s.q.fi (jP s.q.B s.q.P (noB s.q.B) s.q.fi)))=s.ful k:=by(
unfold y6 XS.ful
rw[yD,qMO h hl,xS]
refine pN λb z=>?_
rw[Bool.and_comm])
theorem qHN(h:WX k s)(br:m.br=noB s.q.B)(hl:FreeIs s.q.B (noB s.q.B) s.cl s.q.fi l):optN (k.ie:Int) m s.q l=s.ded k:=by unfold optN XS.ded;rw[br,qHM h hl]
theorem qKX(e:m.cl=s.cl):tlOf m s.q=s.tl:=by unfold tlOf XS.tl;rw[e]
theorem qMP(h:WX k s)(hl:FreeIs s.q.B (noB s.q.B) s.cl s.q.fi l):rdy (k.ie:Int) l (jP s.q.B s.q.P (noB s.q.B) s.q.fi)=s.rd k:=qJO h.on h.qs.ok.wr h.qs.ok.p1 hl
structure Full(k:Tm)(s:XS)(c:Nat):Prop where
b:c<s.q.B
f:s.q.fi.getD c 0=(s.q.P:Int)
l:s.q.lv.getD c 0<=s.spc k
theorem q73{b:Nat}:b∈s.ful k↔Full k s b:=by unfold XS.ful;rw[mL,mU,mQ,mD,mD];exact⟨λ⟨a,b,c⟩=>⟨a,b,c⟩,λh=>⟨h.b,h.f,h.l⟩⟩
theorem q3F{b:Nat}:b∈s.ded k↔Full k s b/\s.q.lv.getD b 0<(s.q.P:Int):=by unfold XS.ded;rw[mL,q73,mD]
theorem yQ{b:Nat}:b∈s.opt k↔(Full k s b/\s.q.lv.getD b 0<(s.q.P:Int))/\(k.ev=true->s.cl.getD b 0<s.lst+k.sp):=by(
unfold XS.opt XS.clb
cases k.ev with
|false=>rw[hU (by decide),q3F];exact⟨λh=>⟨h,λz=>by lia⟩,λh=>h.1⟩
|true=>rw[kD rfl,mL,q3F,mD];exact⟨λh=>⟨h.1,λd=>h.2⟩,λh=>⟨h.1,h.2 rfl⟩⟩)
theorem Full.sp(h:WX k s){b:Nat}(f:Full k s b):k.ie*s.q.P+(lvP s.q.P b s.q.V).length<=s.rmX:=by(
have e:=q1L h.qs h.pd f.b
have l:=f.l
unfold XS.spc at l
split at l
.lia
lia)
theorem qJU{L:List Nat}:∀a∈L.map s.tl,∀c∈L.map s.tl,a.b=c.b->a=c:=λa ha c hc e=>by(
obtain⟨x,_,rfl⟩:=kZ.mp ha
obtain⟨y,_,rfl⟩:=kZ.mp hc
have e:(x:Int)=(y):=e
rw[show x=y by lia])
theorem qHO(h:WX k s){b:Nat}(hb:b<s.q.B):0<=s.q.lv.getD b 0/\s.q.lv.getD b 0<=(s.q.P:Int):=by
 have e:=q1L h.qs h.pd hb;have d:(lvP s.q.P b s.q.V).length<=s.q.P:=by refine mO (rO _ _) ?_;rw[m7];exact kO _
 lia
theorem qNU(h:WX k s)(rc:s.rc.length<1000000){b:Nat}(hb:b<s.q.B):(s.tl b).Ok (s.q.P:Int) s.q.nx:=by(
have z:=h.qs.ok.b2
have c:=h.c0 b
have d:=h.bo b
have e:=qHO h hb
refine⟨?_,?_,e.1,e.2,c.1,?_,d.1,d.2⟩
.show(0)<=(b:Int);lia
.show(b:Int)<16;lia
show s.cl.getD b 0<10 ^ 30
lia)
theorem qMQ(h:WX k s):(s.opt k).length<=16:=by(
have d:=h.qs.ok.b2
have:(s.ded k).length<=16:=by refine mO (mK _ _) (mO (mK _ _) ?_);rw[m7];exact d
unfold XS.opt XS.clb
split
.exact mO (mK _ _) this
simp_all)
end
structure Kp(s s':XS):Prop where
eB:s'.q.B=s.q.B
eP:s'.q.P=s.q.P
nm:∀n,(∃p,(n,p)∈s'.q.V)↔∃p,(n,p)∈s.q.V
lV:s'.q.V.length=s.q.V.length
theorem Kp.refl{s:XS}:Kp s s:=⟨rfl,rfl,λz=>b8,rfl⟩
theorem Kp.trans{a b c:XS}(h:Kp a b)(g:Kp b c):Kp a c:=⟨g.eB.trans h.eB,g.eP.trans h.eP,λn=>(g.nm n).trans (h.nm n),g.lV.trans h.lV⟩
section
variable{k:Tm}{s:XS}{b:Nat}
theorem q5Q{P b:Nat}{V:Mp}:(lvP P b V).length<=P:=by(
refine mO (rO _ _) ?_
rw[m7]
exact kO _)
theorem q54(R:XS->List (List Int)->Prop)(w:WX k s)(f:Full k s b)(r0:R s [])(rs:∀s' ms n p,WX k s'->Kp s s'->s'.cl=s.cl->s'.q.fi.getD b 0=(s.q.P:Int)->(n,p)∈s'.q.V->p / (s.q.P:Int)=(b:Int)->k.ie*s'.q.P<s'.rmX->s'.lf≠some 0->R s' ms->R (s'.put n (s'.val p n)) (ms++[[n,p,(s'.np:Int)]])):∃s' n ms,Mvd k s b s' n/\ms.length=n/\R s' ms/\((XS.mvs (lvP s.q.P b s.q.V) s=(s',none)/\n<(lvP s.q.P b s.q.V).length/\s'.lf=some 0)\/(XS.mvs (lvP s.q.P b s.q.V) s=(s',some ms)/\n=(lvP s.q.P b s.q.V).length/\∀y∈s'.q.V,¬y.2 / (s'.q.P:Int)=(b:Int))):=by(
have sp:=f.sp w
have N:∀d i,i+d=(lvP s.q.P b s.q.V).length->∀s' ms,MvI k s b (lvP s.q.P b s.q.V) i s' ms->R s' ms->∃s' n ms,Mvd k s b s' n/\ms.length=n/\R s' ms/\((XS.mvs (lvP s.q.P b s.q.V) s=(s',none)/\n<(lvP s.q.P b s.q.V).length/\s'.lf=some 0)\/(XS.mvs (lvP s.q.P b s.q.V) s=(s',some ms)/\n=(lvP s.q.P b s.q.V).length/\∀y∈s'.q.V,¬y.2 / (s'.q.P:Int)=(b:Int))):=by
 intro d;induction d with
 |zero=>intro i hi s' ms z I;obtain⟨e,nl⟩:=z.fin (by lia);exact⟨s',i,ms,z.mvd (by lia),z.l,I,.inr ⟨e,by lia,nl⟩⟩
 |succ d ih=>
  intro i hi s' ms z I;have D:i<(lvP s.q.P b s.q.V).length:=by lia
  by_cases J:s'.lf=some 0
  .exact⟨s',i,ms,z.mvd (by lia),z.l,I,.inl ⟨z.dark D J,D,J⟩⟩
  obtain⟨n,p,Z,O,_⟩:=z.at D;have ab:=z.rm;obtain⟨n',p',e0,_,S⟩:=z.dr [p,n] (by rw[wI D,Z];exact kY);have e1:p=p':=by injection e0
  refine ih (i+1) (by lia) _ _ (z.step q5P D sp J Z) (rs s' ms n p z.w ⟨z.eB,z.eP,z.nm,z.lV⟩ z.ec z.fb O (by rw[e1];exact S) (by rw[z.eP];lia) J I)
exact N _ 0 (lJ _) s [] (MvI.zero w f.f) r0)
end
theorem qHP{g:Rl}{nw:Int}(ok:g.Ok)(h:ts≠[]):(g.ch pg nw ts).1∈ts.map Tl.b:=by(
cases g with
|rk f=>obtain⟨A,z,e,_⟩:=qHJ  h;show pk _ ts∈_;rw[e];exact kZ.mpr ⟨A,z,rfl⟩
|win m=>obtain⟨A,z,e,_⟩:=qHJ  (qJT ok h);show pk _ _∈_;rw[e];exact kZ.mpr ⟨A,qJS A z,rfl⟩
|fol d u=>
 have D:(ts.map Tl.b).headD 0∈ts.map Tl.b:=by
  cases ts with
  |nil=>exact absurd rfl h
  |cons a r=>simp
 show fo d u ts∈_;unfold fo;split
 .split
  .assumption
  exact D
 exact D)
theorem qNV{g:Rl}{nw:Int}(ok:g.Ok):(g.ch pg nw ts).2.Ok:=by(
cases g with
|rk f=>trivial
|win m=>exact ok
|fol d u=>trivial)
section
variable{k:Tm}{s:XS}{g g':Rl}{y:Str}{b:Nat}
set_option tactic.hygienic true in
theorem vB(ok:g.Ok)(h:s.tk k g=some (y,b,g')):(y=Str.ofString "rule"/\b∈s.opt k/\(b:Int)=(g.ch (s.q.P:Int) s.q.nx (s.ots k)).1/\g'=(g.ch (s.q.P:Int) s.q.nx (s.ots k)).2)\/(y=Str.ofString "even"/\k.ev=true/\s.opt k=[]/\g'=g/\s.chg k=some b/\b∈s.clb k (s.ful k)/\∀c∈s.clb k (s.ful k),s.cl.getD b 0<=s.cl.getD c 0):=by(
unfold XS.tk at h
split at h
.rename_i S;split at h
 .rename_i ev;cases z:s.chg k with
  |none=>rw[z]at h;cases h
  |some c=>
   rw[z]at h;cases h;have N:(s.clb k (s.ful k)).Pairwise (· < ·):=by unfold XS.clb XS.ful;exact gK _ (gK _ dH)
   obtain⟨J,m2⟩:=(q3D (cl:=s.cl) N).2 b z;refine .inr ⟨rfl,ev,S,rfl,rfl,J,λc I=>?_⟩;have:=m2 c I;unfold keyN lx at this;lia
 cases h
rename_i ne
have d:s.ots k≠[]:=λz=>ne (sK.mp z)
have Z:=qHP (pg:=(s.q.P:Int)) (nw:=s.q.nx) ok d
injection h with h
injection h with h1 h
injection h with h h2
obtain⟨c,I,e⟩:=kZ.mp Z
obtain⟨O,D,rfl⟩:=kZ.mp I
have e:(O:Int)=(g.ch (s.q.P:Int) s.q.nx (s.ots k)).1:=e
rw[<-e,kQ]at h
subst h
exact .inl ⟨h1.symm,D,e,h2.symm⟩)
theorem zQ(ok:g.Ok)(h:s.tk k g=some (y,b,g')):Full k s b:=by(
rcases vB ok h with⟨_,h1,_⟩|⟨_,_,_,_,_,h1,_⟩
.exact(yQ.mp h1).1.1
exact q73.mp (mL.mp h1).1)
theorem qHQ(ok:g.Ok)(h:s.tk k g=some (y,b,g')):g'.Ok:=by(
rcases vB ok h with⟨_,_,_,e⟩|⟨_,_,_,e,_⟩
.rw[e];exact qNV ok
rw[e];exact ok)
end
section
variable{k:Tm}{X Y:Sx}
inductive RoomR(k:Tm)(X:Sx):Sx×Except Rf Pa->Prop
|no:X.s.tk k X.g=none->RoomR k X (X,.error .room)
|dark {y b g' s' n}:X.s.tk k X.g=some (y,b,g')->Mvd k X.s b s' n->n<=(lvP X.s.q.P b X.s.q.V).length->s'.lf=some 0->RoomR k X (⟨s',g',X.ps⟩,.error .dark)
|ok {y b g' s' ms}:X.s.tk k X.g=some (y,b,g')->XS.mvs (lvP X.s.q.P b X.s.q.V) X.s=(s',some ms)->Mvd k X.s b s' (lvP X.s.q.P b X.s.q.V).length->ms.length=(lvP X.s.q.P b X.s.q.V).length->s'.lf≠some 0->WX k (s'.wip b)->(s'.wip b).rmX=s'.rmX+X.s.q.P->RoomR k X (⟨s'.wip b,g',X.ps++[⟨y,X.s.ots k,b,ms⟩]⟩,.ok ⟨y,X.s.ots k,b,ms⟩)
theorem q80(w:WX k X.s)(ok:X.g.Ok):RoomR k X (X.room k):=by(
unfold Sx.room
cases htk:X.s.tk k X.g with
|none=>exact .no htk
|some I=>
 obtain⟨y,b,g'⟩:=I;have f:=zQ ok htk;obtain⟨s',n,ms,d,N,_,h|h⟩:=q54 (λZ Z=>True) w f trivial (λZ Z Z Z Z Z Z Z Z Z Z Z Z=>trivial)
 .obtain⟨e,J,z⟩:=h;dsimp only;rw[e];exact .dark htk d (by lia) z
 obtain⟨e,J,O⟩:=h;dsimp only;rw[e];dsimp only;subst J;by_cases z:s'.lf=some 0
 .rw[kD z];exact .dark htk d (kO _) z
 rw[hU z];obtain⟨S,D⟩:=d.w.wip (b:=b) (by rw[d.eB];exact f.b) (by rw[d.eP];exact d.fb) O z;exact .ok htk e d N z S (by rw[D,d.eP]))
theorem qHR{p:Pa}(w:WX k X.s)(ok:X.g.Ok)(h:X.room k=(Y,.ok p)):Y.s.rc.length<=X.s.rc.length+17/\Y.ps.length=X.ps.length+1:=by(
have r:=q80 w ok
rw[h]at r
have d:∀b,(lvP _ b X.s.q.V).length<=X.s.q.P:=λb=>q5Q
have p2:=w.qs.ok.p2
cases r with
|@ok y b g' s' ms htk e md lm dk w' rm'=>have:=d b;refine⟨?_,mI⟩;show(_++[_]).length<=_;rw[mI,md.rc,gF];lia)
theorem Mvd.kp{s:XS}{b n:Nat}(h:Mvd k s b s' n):Kp s s':=⟨h.eB,h.eP,h.nm,h.lV⟩
theorem q1M(w:WX k X.s)(ok:X.g.Ok)(h:X.room k=(Y,r)):WX k Y.s/\Y.g.Ok/\Kp X.s Y.s/\Y.s.rc.length<=X.s.rc.length+17/\Y.ps.length<=X.ps.length+1:=by(
have D:=q80 w ok
rw[h]at D
have z:∀b,(lvP X.s.q.P b X.s.q.V).length<=X.s.q.P:=λb=>q5Q
have p2:=w.qs.ok.p2
cases D with
|no d=>exact⟨w,ok,Kp.refl,by lia,by lia⟩
|@dark y b g' s' n d md hn dk=>have:=z b;refine⟨md.w,qHQ ok d,md.kp,?_,dN _⟩;show s'.rc.length<=_;rw[md.rc];lia
|@ok y b g' s' ms d e md lm dk w' rm'=>
 have:=z b;refine⟨w',qHQ ok d,md.kp.trans ⟨rfl,rfl,λZ=>b8,rfl⟩,?_,?_⟩
 .show(_++[_]).length<=_;rw[mI,md.rc,gF];lia
 rw[mI];exact kO _)
set_option tactic.hygienic true in
theorem uB:∀{i:Nat} {X Y:Sx} {r:Except Rf Unit},WX k X.s->X.g.Ok->X.rooms k i=some (Y,r)->WX k Y.s/\Y.g.Ok/\Kp X.s Y.s/\Y.s.rc.length<=X.s.rc.length+17*i/\Y.ps.length<=X.ps.length+i/\(r=.ok ()->Y.s.rd k=true)
|0,X,Y,r,w,ok,h=>by
 unfold Sx.rooms at h;split at h
 .rename_i z;cases h;exact⟨w,ok,Kp.refl,kO _,kO _,λd=>z⟩
 cases h
|i+1,X,Y,r,w,ok,h=>by
 unfold Sx.rooms at h;split at h
 .rename_i z;cases h;exact⟨w,ok,Kp.refl,wX _ _,wX _ _,λd=>z⟩
 cases e:X.room k with
 |mk W o=>
  rw[e]at h;obtain⟨a1,a2,a3,a4,a5⟩:=q1M w ok e;cases o with
  |error x=>cases h;exact⟨a1,a2,a3,by lia,by lia,λz=>by cases z⟩
  |ok p=>obtain⟨b1,b2,b3,b4,b5,b6⟩:=uB a1 a2 h;exact⟨b1,b2,a3.trans b3,by lia,by lia,b6⟩
noncomputable def gvn(ns ss:List Int):List Int:=ns.filter λn=>decide (n∈ss)
noncomputable def rst(ns g:List Int):List Int:=ns.filter λn=>!decide (n∈g)
noncomputable def XS.forgs(s:XS)(g:List Int):XS:=g.foldl XS.forg s
theorem qD5{s:XS}{g:List Int}{i:Nat}{n:Int}(h:g[i]?=some n):s.forgs (g.take (i+1))=(s.forgs (g.take i)).forg n:=by(
have hi:=(kF.mp h).1
obtain rfl:g[i]=n:=(kF.mp h).2
unfold XS.forgs
rw[<-mR hi,nK]
rfl)
end
noncomputable def Hv(s:XS)(n v:Int):Prop:=∃p mk,(n,p)∈s.q.V/\s.pg p.toNat=some (mk,v)
noncomputable def putR(m:List Int):Str×Int×Bool:=(Str.ofString "put",m.getD 2 0,true)
section
variable{k:Tm}{s s':XS}{n m v u:Int}{b:Nat}
theorem Hv.put(w:WX k s)(hr:0<s.rmX)(ne:m≠n)(h:Hv s m u):Hv (s.put n v) m u:=by(
obtain⟨p,J,D,e⟩:=h
obtain⟨c,g,x,a1,I,d,Z,S⟩:=w.vl _ D
obtain⟨hb,N,O,_⟩:=w.spot hr
have d:p=_:=d
refine⟨p,J,jH.mpr (.inr ⟨D,ne⟩),?_⟩
show(if p.toNat=s.np then _ else s.pg _)=_
rw[hU]
.exact e
rw[d]
intro z
obtain⟨e1,e2⟩:=q5O I N z
simp_all)
theorem Hv.new:Hv (s.put n v) n v:=⟨(s.np),_,jH.mpr (.inl rfl),by
 show(if((s.np):Int).toNat=s.np then _ else _)=_;rw[kQ,kD rfl]⟩
theorem Hv.wip(w:WX k s)(nl:∀y∈s.q.V,¬y.2 / (s.q.P:Int)=(b:Int))(h:Hv s m u):Hv (s.wip b) m u:=by(
obtain⟨p,J,D,e⟩:=h
obtain⟨c,g,x,S,I,d,O,N⟩:=w.vl _ D
have d:p=_:=d
refine⟨p,J,D,?_⟩
show(if p.toNat / s.q.P=b then none else s.pg _)=_
rw[hU]
.exact e
have:=nl _ D
rw[d,kQ,jZ I]
rw[d,<-g7,jZ I]at this
intro z
exact this (by rw[z]))
theorem Hv.forg(ne:m≠n)(h:Hv s m u):Hv (s.forg n) m u:=by obtain⟨p,d,z,e⟩:=h;exact⟨p,d,qY.mpr ⟨z,ne⟩,e⟩
theorem Hv.val(w:WX k s){p:Int}(hp:(n,p)∈s.q.V)(n6:n≠64)(h:Hv s n u):s.val p n=u:=by(
obtain⟨z,D,d,e⟩:=h
rw[qHL w.qs.ok.nd hp d]
unfold XS.val
rw[hU n6,e]
rfl)
theorem qAH(w:WX k s){c:Nat}(hc:c<s.q.B):s.lst<=s.cl.getD c 0:=by(
have d:c<s.cl.length:=by rw[w.lc];exact hc
obtain⟨m,e,h1,h2⟩:=qAG (l:=s.cl) (λz=>by simp_all)
unfold XS.lst
rw[e,kN,kL d]
exact h2 _ (gO _))
theorem qHS(w:WX k s)(hb:0<s.q.B):∃c,c<s.q.B/\s.cl.getD c 0=s.lst:=by(
have d:0<s.cl.length:=by rw[w.lc];exact hb
obtain⟨m,e,h1,h2⟩:=qAG (l:=s.cl) (λz=>by simp_all)
obtain⟨c,D,I⟩:=d9 h1
refine⟨c,by rw[<-w.lc];exact D,?_⟩
unfold XS.lst
simp_all)
theorem qHT(w:WX k s)(hr:0<s.rmX)(z:s.q.fi.getD s.pb 0=0){c:Nat}(hc:c<s.q.B)(fc:s.q.fi.getD c 0=0):s.cl.getD s.pb 0<=s.cl.getD c 0:=by(
have e:s.pb=spF s.q s.cl:=rfl
unfold spF at e
cases q:(List.range s.q.B).find? (jU s.q.P s.q.fi)with
|some d=>rw[q]at e;have h2:=g4 q;unfold jU at h2;rw[mQ,mD]at h2;rw[show s.pb=d from e]at z;lia
|none=>
 rw[q]at e;have I:((List.range s.q.B).filter λb=>decide (s.q.fi.getD b 0=0)).Pairwise (· < ·):=gK _ dH;have D:c∈(List.range s.q.B).filter λb=>decide (s.q.fi.getD b 0=0):=mL.mpr ⟨mU.mpr hc,hC fc⟩;obtain⟨h1,h2⟩:=q3D (cl:=s.cl) I;cases y:minF s.cl ((List.range s.q.B).filter λb=>decide (s.q.fi.getD b 0=0))with
 |none=>rw[h1 y]at D;cases D
 |some d=>
  rw[y]at e;have e:s.pb=d:=e;have:=(h2 d y).2 c D;rw[e];unfold keyN lx at this;lia)
structure Ix(k:Tm)(s:XS):Prop where
w:WX k s
sh:s.q.V.length<(s.q.B-(1+k.ie))*s.q.P
s1:1<=k.sp
gp:k.ev=true->∀b c,b<s.q.B->c<s.q.B->s.cl.getD b 0<=s.cl.getD c 0+k.sp
e2:k.ev=true->∀d c,d<s.q.B->c<s.q.B->s.q.fi.getD d 0≠0->s.q.fi.getD c 0=0->s.cl.getD d 0<s.cl.getD c 0+k.sp
noncomputable def Wt(k:Tm)(s:XS):Prop:=s.rmX<(1+k.ie)*s.q.P->∃b,b<s.q.B/\s.q.fi.getD b 0=(s.q.P:Int)/\s.q.lv.getD b 0<(s.q.P:Int)/\s.q.lv.getD b 0+((1+k.ie)*s.q.P:Nat)<=(s.rmX:Int)+(s.q.P:Int)/\(k.ev=true->s.cl.getD b 0<s.lst+k.sp)
theorem Ix.put(x:Ix k s)(hr:k.ie*s.q.P<s.rmX)(w':WX k (s.put n v))(hs:(s.put n v).q.V.length<(s.q.B-(1+k.ie))*s.q.P):Ix k (s.put n v):=by(
obtain⟨hb,hf,ef,_⟩:=x.w.spot (by lia)
have s1:=x.s1
have N:∀c,(s.put n v).q.fi.getD c 0=if s.pb=c then(s.pf:Int)+1 else s.q.fi.getD c 0:=q7Z x.w.qs.ok.lf hb ef
refine⟨w',hs,x.s1,x.gp,λO d c J I fd D=>?_⟩
rw[N]at fd D
have I:c<s.q.B:=I
have J:d<s.q.B:=J
show s.cl.getD d 0<s.cl.getD c 0+k.sp
by_cases S:s.pb=c
.rw[kD S]at D;lia
rw[hU S]at D
by_cases Z:s.pb=d
.subst Z;by_cases z:s.q.fi.getD s.pb 0=0
 .have:=qHT x.w (by lia) z I D;lia
 exact x.e2 O _ _ J I z D
rw[hU Z]at fd
exact x.e2 O _ _ J I fd D)
theorem Ix.wip(x:Ix k s)(hb:b<s.q.B)(w':WX k (s.wip b))(cb:k.ev=true->s.cl.getD b 0<s.lst+k.sp):Ix k (s.wip b):=by(
have lc:=x.w.lc
have D:∀c,(s.wip b).cl.getD c 0=if b=c then s.cl.getD b 0+1 else s.cl.getD c 0:=λc=>by
 show(s.cl.set b (s.cl.getD b 0+1)).getD c 0=_;rw[jA,lc];by_cases e:b=c
 .rw[kD ⟨e,hb⟩,kD e]
 rw[hU (λz=>e z.1),hU e]
have O:∀c,(s.wip b).q.fi.getD c 0=if b=c then 0 else s.q.fi.getD c 0:=λc=>by
 show(s.q.fi.set b 0).getD c 0=_;rw[jA,x.w.qs.ok.lf];by_cases e:b=c
 .rw[kD ⟨e,hb⟩,kD e]
 rw[hU (λz=>e z.1),hU e]
refine⟨w',x.sh,x.s1,λev c d J I=>?_,λev d c I J fd N=>?_⟩
.have J:c<s.q.B:=J;have I:d<s.q.B:=I;rw[D,D];have:=cb ev;have:=x.gp ev c d J I;have:=x.gp ev c b J hb;have:=qAH x.w I;have:=x.s1;split<;>split<;>lia
have J:c<s.q.B:=J
have I:d<s.q.B:=I
rw[O]at fd N
rw[D,D]
by_cases Z:b=d
.rw[kD Z]at fd;exact absurd rfl fd
rw[hU Z]at fd ⊢
by_cases S:b=c
.rw[kD S];have:=x.gp ev d b I hb;lia
rw[hU S]at N ⊢
exact x.e2 ev d c I J fd N)
end
section
variable{k:Tm}{X Y:Sx}
structure RmX(k:Tm)(X Y:Sx):Prop where
x:Ix k Y.s
wt:Wt k Y.s
ok:Y.g.Ok
kp:Kp X.s Y.s
hv:∀m u,m≠64->Hv X.s m u->Hv Y.s m u
theorem qEB(x:Ix k X.s)(wt:Wt k X.s)(ok:X.g.Ok)(h:X.room k=(Y,r)):RmX k X Y/\(match r with
 | .ok p=>Y.ps=X.ps++[p]/\Y.s.rc=X.s.rc++p.mv.map putR++[(Str.ofString "wipe",(p.b:Int),true)]/\(1+k.ie)*X.s.q.P<=Y.s.rmX/\Y.s.rmX+p.mv.length=X.s.rmX+X.s.q.P/\(∃g',X.s.tk k X.g=some (p.why,p.b,g'))/\p.mv.length=(lvP X.s.q.P p.b X.s.q.V).length/\p.ts=X.s.ots k/\(∃s',XS.mvs (lvP X.s.q.P p.b X.s.q.V) X.s=(s',some p.mv)/\Y.s=s'.wip p.b/\Mvd k X.s p.b s' p.mv.length)
 | .error .dark=>Y.s.lf=some 0/\Y.ps=X.ps/\∃ms,Y.s.rc=X.s.rc++List.map putR ms
 | .error .room=>Y=X/\X.s.tk k X.g=none):=by(
unfold Sx.room at h
cases htk:X.s.tk k X.g with
|none=>rw[htk]at h;cases h;exact⟨⟨x,wt,ok,Kp.refl,λd d d z=>z⟩,rfl,rfl⟩
|some ag=>
 obtain⟨y,b,g'⟩:=ag;rw[htk]at h;dsimp only at h;have f:=zQ ok htk;have I:=qHQ ok htk;have spc:=f.l;have ar:=q1L x.w.qs x.w.pd f.b;have sl:=x.w.sl;have clb:k.ev=true->X.s.cl.getD b 0<X.s.lst+k.sp:=λev=>by
  rcases vB ok htk with⟨_,h1,_⟩|⟨_,_,_,_,_,h1,_⟩
  .exact(yQ.mp h1).2 ev
  unfold XS.clb at h1;exact kP (mL.mp h1).2
 obtain⟨s',n,ms,d,lm,⟨S,hv,D⟩,hh⟩:=q54 (λs' ms=>Ix k s'/\(∀m u,m≠64->Hv X.s m u->Hv s' m u)/\s'.rc=X.s.rc++ms.map putR) x.w f ⟨x,λd d d z=>z,by simp⟩ (λs' ms n p Z kp ec fb N as hr O ⟨S,hv,D⟩=>by
  have nb:=Z.qs.ok.nm _ N;obtain⟨w2,_⟩:=Z.put (v:=s'.val p n) hr nb.1 nb.2 (.inl ⟨p,N⟩) O;refine⟨S.put hr w2 ?_,λm u m6 hm=>?_,?_⟩
  .show(jB s'.q.V n++[_]).length< _;rw[mI,gF,(q16 (V:=s'.q.V) (n:=n) Z.qs.ok.nd).2 p N];exact S.sh
  .have:=hv m u m6 hm;by_cases e:m=n
   .subst e;have z:=Hv.new (s:=s') (n:=m) (v:=s'.val p m);rw[this.val Z N m6]at z ⊢;exact z
   exact this.put Z (by lia) e
  show s'.rc++[_]=_;rw[D,m8,pJ];rfl)
 have kp:Kp X.s s':=⟨d.eB,d.eP,d.nm,d.lV⟩;have ap:=d.rm;have ao:=d.lb f.b;have ec:=d.ec;have ad:Wt k s':=λJ=>by
  rw[d.eP]at J;refine⟨b,by rw[d.eB];exact f.b,by rw[d.eP];exact d.fb,?_,?_,λev=>?_⟩
  .rw[d.eP];by_cases n0:n=0
   .have:X.s.rmX<(1+k.ie)*X.s.q.P:=by lia
    have lt:X.s.q.lv.getD b 0<(X.s.q.P:Int):=by
     rcases vB ok htk with⟨_,h1,_⟩|⟨_,_,e0,_⟩
     .exact(yQ.mp h1).1.2
     exfalso;obtain⟨c,c1,c2,c3,c4,c5⟩:=wt this;have:c∈X.s.opt k:=yQ.mpr ⟨⟨⟨c1,c2,by unfold XS.spc;rw[hU (by lia)];rw[rP,rQ]at c4;lia⟩,c3⟩,c5⟩;rw[e0]at this;cases this
    lia
   have:=q5Q (P:=X.s.q.P) (b:=b) (V:=X.s.q.V);lia
  .rw[d.eP];unfold XS.spc at spc;rw[rP,rQ]at *;split at spc<;>lia
  have e1:s'.lst=X.s.lst:=by unfold XS.lst;rw[ec]
  rw[ec,e1];exact clb ev
 rcases hh with⟨e,hn,O⟩|⟨e,hn,nl⟩
 .rw[e]at h;cases h;exact⟨⟨S,ad,I,kp,hv⟩,O,rfl,ms,D⟩
 rw[e]at h;dsimp only at h;by_cases O:s'.lf=some 0
 .rw[kD O]at h;cases h;exact⟨⟨S,ad,I,kp,hv⟩,O,rfl,ms,D⟩
 rw[hU O]at h;cases h;obtain⟨w2,ac⟩:=d.w.wip (b:=b) (by rw[d.eB];exact f.b) (by rw[d.eP];exact d.fb) nl O;have e1:s'.lst=X.s.lst:=by unfold XS.lst;rw[ec]
 have ge:(1+k.ie)*X.s.q.P<=(s'.wip b).rmX:=by rw[ac,d.eP];unfold XS.spc at spc;rw[rP,rQ]at *;split at spc<;>lia
 refine⟨⟨S.wip (by rw[d.eB];exact f.b) w2 (λev=>by rw[ec,e1];exact clb ev),λJ=>?_,I,kp.trans ⟨rfl,rfl,λz=>b8,rfl⟩,λm u m6 hm=>(hv m u m6 hm).wip d.w nl⟩,rfl,?_,ge,?_,⟨g',rfl⟩,by rw[lm,hn],rfl,s',e,rfl,by rw[lm];exact d⟩
 .have J:(s'.wip b).rmX<(1+k.ie)*s'.q.P:=J;rw[d.eP]at J;lia
 .show s'.rc++[_]=_;rw[D]
 show(s'.wip b).rmX+ms.length=_;rw[ac,d.eP,lm];lia)
end
section
variable{k:Tm}{s:XS}
theorem q5R(w:WX k s)(hr:s.rmX=(1+k.ie)*s.q.P):(∀b,b<s.q.B->s.q.fi.getD b 0=0\/s.q.fi.getD b 0=(s.q.P:Int))/\((List.range s.q.B).filter λb=>decide (s.q.fi.getD b 0=(s.q.P:Int))).length=s.q.B-(1+k.ie):=by(
have d:=w.qs.ok.p1
obtain⟨l,hl⟩:=FreeIs.ex s.q.B (noB s.q.B) s.cl s.q.fi
have z:jP s.q.B s.q.P (noB s.q.B) s.q.fi=none/\l.length=1+k.ie:=by
 rcases q2I w.on w.qs.ok.wr d hl with⟨h1,h2⟩|⟨b,e,h1,e1,e2,h2,_⟩
 .refine⟨h1,?_⟩;unfold XS.rmX at hr;rw[hr]at h2;exact(sZ (by lia) h2).symm
 exfalso;unfold XS.rmX at hr;rw[hr]at h2;have k:(1+k.ie)*s.q.P%s.q.P=e:=by rw[h2,dZ,c8,cU e2]
 rw[aN]at k;lia
have I:=qBU w.on w.qs.ok.wr d hl z.1
unfold y6 at I
rw[yD]at I
refine⟨λb D=>?_,by lia⟩
have np:=z.1
unfold jP at np
rw[yD]at np
have:=dA.mp np b (mU.mpr D)
obtain⟨f,J,N⟩:=w.qs.ok.wr b D
unfold jU at this
rw[mQ,mD,mD]at this
lia)
theorem zU(x:Ix k s)(hr:s.rmX=(1+k.ie)*s.q.P):s.ded k≠[]:=by(
obtain⟨l,hl⟩:=FreeIs.ex _ _ s.cl _
have:=(qHK (m:=⟨0,0,0,[],[],s.cl,[],noB _,none,[]⟩)  x.w.qs x.w.on rfl hl hr x.sh).1
rw[qHN x.w rfl hl]at this
exact this)
theorem qHU(wt:Wt k s)(hr:s.rmX<(1+k.ie)*s.q.P):s.opt k≠[]:=λz=>by(
obtain⟨b,b1,b2,b3,b4,b5⟩:=wt hr
have:=yQ.mpr ⟨⟨⟨b1,b2,by unfold XS.spc;rw[hU (by lia)];rw[rP,rQ]at b4;lia⟩,b3⟩,b5⟩
grind)
theorem q9X(x:Ix k s)(hr:s.rmX=(1+k.ie)*s.q.P)(ev:k.ev=true)(e0:s.opt k=[]):(∀c,c<s.q.B->s.q.fi.getD c 0=0->s.lst<s.cl.getD c 0)/\∃b,s.chg k=some b/\b<s.q.B/\s.q.fi.getD b 0=(s.q.P:Int)/\s.cl.getD b 0=s.lst/\s.q.lv.getD b 0=(s.q.P:Int):=by(
have s1:=x.s1
have p1:=x.w.qs.ok.p1
have N:∀d,Full k s d->s.q.lv.getD d 0<(s.q.P:Int)->s.lst+k.sp<=s.cl.getD d 0:=λd fd S=>by refine bJ.mp λz=>?_;have:d∈s.opt k:=yQ.mpr ⟨⟨fd,S⟩,λd=>z⟩;rw[e0]at this;cases this
have fr:∀c,c<s.q.B->s.q.fi.getD c 0=0->s.lst<s.cl.getD c 0:=λc J Z=>by obtain⟨d,hd⟩:=wJ _ (zU x hr);obtain⟨fd,S⟩:=q3F.mp hd;have h1:=N d fd S;have h2:=x.e2 ev d c fd.b J (by rw[fd.f];lia) Z;lia
refine⟨fr,?_⟩
obtain⟨rp,_⟩:=q5R x.w hr
have hB:0<s.q.B:=by obtain⟨d,hd⟩:=wJ _ (zU x hr);have:=(q3F.mp hd).1.b;lia
obtain⟨c,J,ec⟩:=qHS x.w hB
have Z:s.q.fi.getD c 0=(s.q.P:Int):=by
 rcases rp c J with z|z
 .have:=fr c J z;lia
 exact z
have spc:s.spc k=(s.q.P:Int):=by unfold XS.spc;rw[kD (by lia)]
have I:c∈s.clb k (s.ful k):=by unfold XS.clb;exact mL.mpr ⟨q73.mpr ⟨J,Z,by rw[spc];exact(qHO x.w J).2⟩,hC (by lia)⟩
have pw:(s.clb k (s.ful k)).Pairwise (· < ·):=by unfold XS.clb XS.ful;exact gK _ (gK _ dH)
obtain⟨h1,h2⟩:=q3D (cl:=s.cl) pw
cases z:s.chg k with
|none=>rw[h1 z]at I;cases I
|some b=>
 obtain⟨m1,m2⟩:=h2 b z;have O:=m1;unfold XS.clb at O;obtain⟨D,_⟩:=mL.mp O;have D:=q73.mp D;have:=m2 c I;have le:s.cl.getD b 0<=s.cl.getD c 0:=by
  unfold keyN lx at this;by_cases q:s.cl.getD c 0=s.cl.getD b 0
  .lia
  rw[hU q]at this;have:=dU this;lia
 have cb:s.cl.getD b 0=s.lst:=by have:=qAH x.w D.b;lia
 refine⟨b,rfl,D.b,D.f,cb,?_⟩;have:=qHO x.w D.b;have:¬s.q.lv.getD b 0<(s.q.P:Int):=λy=>by have:=N b D y;lia
 lia)
noncomputable def nlc(s:XS):Nat:=((List.range s.q.B).filter λb=>decide (s.q.fi.getD b 0=(s.q.P:Int))&&decide (s.cl.getD b 0=s.lst)).length
noncomputable def need(k:Tm)(s:XS):Nat:=if s.rd k=true then 0 else if s.rmX<(1+k.ie)*s.q.P then 1+(if k.ev=true then s.q.B-(1+k.ie)else 1)else if s.opt k≠[]then 1 else nlc s+1
theorem qD6{α:Type}{p p':α->Bool}:∀{l:List α},(∀x∈l,p' x=true->p x=true)->(∃x∈l,p x=true/\p' x=false)->(l.filter p').length<(l.filter p).length
| [],_,h=>by obtain⟨x,hx,_⟩:=h;cases hx
|a::l,h,g=>by
 have le:(l.filter p').length<=(l.filter p).length:=by
  have:(l.filter p').length<=(l.filter p).length:=by rw[<-cH,<-cH];exact pO λx hx=>h x (hG _ hx)
  exact this
 rw[gH,gH];obtain⟨x,hx,h1,h2⟩:=g;rcases kM.mp hx with e|hx
 .subst e;rw[kD h1,hU (by rw[h2];decide),mP];lia
 have ih:=qD6 (λy hy=>h y (hG _ hy)) ⟨x,hx,h1,h2⟩;by_cases z:p' a=true
 .rw[kD z,kD (h a (by simp) z),mP,mP];lia
 rw[hU z];split
 .rw[mP];lia
 exact ih
theorem qMR(x:Ix k s)(hr:s.rmX=(1+k.ie)*s.q.P)(ev:k.ev=true)(e0:s.opt k=[]):nlc s+1<=s.q.B-(1+k.ie):=by(
obtain⟨_,J⟩:=q5R x.w hr
rw[<-J]
obtain⟨d,N⟩:=wJ _ (zU x hr)
obtain⟨fd,I⟩:=q3F.mp N
refine qD6 (λy Z D=>?_) ⟨d,mU.mpr fd.b,hC fd.f,?_⟩
.rw[mQ]at D;exact D.1
have:¬s.cl.getD d 0<s.lst+k.sp:=λz=>by have:d∈s.opt k:=yQ.mpr ⟨⟨fd,I⟩,λZ=>z⟩;grind
have O:=x.s1
lia)
set_option tactic.hygienic true in
theorem qEC(x:Ix k s)(hr:(1+k.ie)*s.q.P<=s.rmX):need k s<=if k.ev=true then s.q.B-(1+k.ie)else 1:=by(
have D:1<=s.q.B-(1+k.ie):=by have:=x.sh;refine Nat.pos_of_ne_zero λz=>?_;rw[z,Nat.zero_mul]at this;cases this
unfold need
split
.exact m9 _
rename_i d
have e:s.rmX=(1+k.ie)*s.q.P:=by unfold XS.rd at d;have:=dU (aA.mpr d);lia
rw[hU (by lia)]
split
.split<;>lia
rename_i z
have z:s.opt k=[]:=dE z
cases ev:k.ev with
|true=>rw[kD rfl];exact qMR x e ev z
|false=>exfalso;have:=zU x e;unfold XS.opt at z;rw[ev]at z;exact this z)
end
section
variable{k:Tm}{X Y:Sx}
theorem qJV(x:Ix k X.s)(wt:Wt k X.s)(nr:X.s.rd k=false):∃ybg,X.s.tk k X.g=some ybg:=by(
unfold XS.tk
by_cases z:X.s.opt k=[]
.rw[kD z];have d:=dU nr;have e:X.s.rmX=(1+k.ie)*X.s.q.P:=by have:¬X.s.rmX<(1+k.ie)*X.s.q.P:=λy=>qHU wt y z;lia
 cases ev:k.ev with
 |true=>obtain⟨_,b,D,_⟩:=q9X x e ev z;rw[D];exact⟨_,rfl⟩
 |false=>exfalso;have:=zU x e;unfold XS.opt at z;rw[ev]at z;exact this z
rw[hU z]
exact⟨_,rfl⟩)
set_option tactic.hygienic true in
theorem qJW{p:Pa}(x:Ix k X.s)(wt:Wt k X.s)(ok:X.g.Ok)(nr:X.s.rd k=false)(h:X.room k=(Y,.ok p)):need k Y.s<need k X.s:=by(
obtain⟨S,hp,_,ge,an,⟨g',Z⟩,lm,_,s',emv,eY,md⟩:=qEB x wt ok h
have O:=S.kp.eP
have eB:=S.kp.eB
have fb:=zQ ok Z
have au:=q1L x.w.qs x.w.pd fb.b
have aw:=dU nr
have ac:(1+k.ie)*Y.s.q.P<=Y.s.rmX:=by rw[O];exact ge
have nl:=qEC S.x ac
rw[eB]at nl
have p1:=x.w.qs.ok.p1
have eX:need k X.s=if X.s.rmX<(1+k.ie)*X.s.q.P then 1+(if k.ev=true then X.s.q.B-(1+k.ie)else 1)else if X.s.opt k≠[]then 1 else nlc X.s+1:=by rw[need,nr,hU (by decide)]
rw[eX]
by_cases lk:X.s.rmX<(1+k.ie)*X.s.q.P
.rw[kD lk];lia
rw[hU lk]
have eR:X.s.rmX=(1+k.ie)*X.s.q.P:=by lia
rcases vB ok Z with⟨_,h1,_⟩|⟨_,ev,e0,_,D,h1,_⟩
.have ne:X.s.opt k≠[]:=λz=>by rw[z]at h1;cases h1
 rw[kD ne];have lt:=(yQ.mp h1).1.2;have:Y.s.rd k=true:=hC (by rw[O];lia);rw[need,kD this];decide
rw[hU (λz=>z e0)]
obtain⟨fr,b,hb,N,b2,b3,b4⟩:=q9X x eR ev e0
rw[D]at hb
obtain rfl:=kU hb
have rY:Y.s.rmX=(1+k.ie)*Y.s.q.P:=by rw[O];lia
have af:¬Y.s.rd k=true:=λz=>by have:=kP z;lia
rw[need,hU af,hU (by lia)]
have bin:p.b∈(List.range X.s.q.B).filter λb=>decide (X.s.q.fi.getD b 0=(X.s.q.P:Int))&&decide (X.s.cl.getD b 0=X.s.lst):=mL.mpr ⟨mU.mpr N,by rw[hC b2,hC b3];rfl⟩
have n1:1<=nlc X.s:=lI bin
split
.lia
rename_i z
have z:Y.s.opt k=[]:=dE z
have J:∀c,Y.s.cl.getD c 0=if p.b=c then X.s.cl.getD p.b 0+1 else X.s.cl.getD c 0:=λc=>by
 rw[eY];show(s'.cl.set p.b (s'.cl.getD p.b 0+1)).getD c 0=_;rw[md.ec,jA,x.w.lc];by_cases e:p.b=c
 .rw[kD ⟨e,N⟩,kD e]
 rw[hU (λz=>e z.1),hU e]
have I:∀c,Y.s.q.fi.getD c 0=if p.b=c then 0 else s'.q.fi.getD c 0:=λc=>by
 rw[eY];show(s'.q.fi.set p.b 0).getD c 0=_;rw[jA,md.w.qs.ok.lf,md.eB];by_cases e:p.b=c
 .rw[kD ⟨e,N⟩,kD e]
 rw[hU (λz=>e z.1),hU e]
have ae:X.s.lst<=Y.s.lst:=by obtain⟨c,D,ec⟩:=qHS S.x.w (by rw[eB];lia);rw[eB]at D;rw[<-ec,J];have:=qAH x.w D;have:=qAH x.w N;split<;>lia
have ad:Y.s.lst=X.s.lst:=by
 refine Int.le_antisymm (bJ.mp λy=>?_) ae;obtain⟨d,hd⟩:=wJ _ (zU S.x rY);obtain⟨fd,ld⟩:=q3F.mp hd;have nc:¬Y.s.cl.getD d 0<Y.s.lst+k.sp:=λy=>by have:d∈Y.s.opt k:=yQ.mpr ⟨⟨fd,ld⟩,λz=>y⟩;rw[z]at this;cases this
 have ne:p.b≠d:=λy=>by have:=fd.f;rw[I,kD y,O]at this;lia
 rw[J,hU ne]at nc;have aa:=fd.b;rw[eB]at aa;have:=x.gp ev d p.b aa N;lia
refine Nat.succ_lt_succ ?_
unfold nlc
rw[eB,O,ad]
refine qD6 (λc D y=>?_) ⟨p.b,mU.mpr N,by rw[hC b2,hC b3];rfl,?_⟩
.have D:=mU.mp D;rw[mQ,mD,mD]at y ⊢;obtain⟨y1,y2⟩:=y;have ne:p.b≠c:=λw=>by rw[I,kD w]at y1;lia
 rw[J,hU ne]at y2;refine⟨?_,y2⟩;rcases(q5R x.w eR).1 c D with q|q
 .have:=fr c D q;lia
 exact q
rw[I,kD rfl,kB (by lia)]
rfl)
noncomputable def dOf(p:Pa):List (Str×Int×Bool):=p.mv.map putR++[(Str.ofString "wipe",(p.b:Int),true)]
structure Rms(k:Tm)(X Y:Sx)(qs:List Pa):Prop extends RmX k X Y where
ps:Y.ps=X.ps++qs
ln:qs.length<=need k X.s
theorem q9Y:∀{i:Nat} {X:Sx},Ix k X.s->Wt k X.s->X.g.Ok->need k X.s<=i->∃Y ps ms,Rms k X Y ps/\Y.s.rc=X.s.rc++ps.flatMap dOf++ms.map putR/\((X.rooms k i=some (Y,.ok ())/\Y.s.rd k=true/\ms=[])\/(X.rooms k i=some (Y,.error .dark)/\Y.s.lf=some 0))
|i,X,x,wt,ok,hi=>by
 cases rd:X.s.rd k with
 |true=>
  refine⟨X,[],[],⟨⟨x,wt,ok,Kp.refl,λd d d z=>z⟩,by simp,m9 _⟩,by simp,.inl ⟨?_,rd,rfl⟩⟩;cases i with
  |zero=>unfold Sx.rooms;rw[rd,kD rfl]
  |succ i=>unfold Sx.rooms;rw[rd,kD rfl]
 |false=>
  cases i with
  |zero=>
   exfalso;unfold need at hi;rw[rd,hU (by decide)]at hi;split at hi
   .lia
   split at hi<;>lia
  |succ i=>
   cases e:X.room k with
   |mk W o=>
    obtain⟨rx,hh⟩:=qEB x wt ok e;cases o with
    |error q=>
     cases q with
     |room=>obtain⟨_,h⟩:=hh;obtain⟨ybg,h'⟩:=qJV x wt rd;rw[h]at h';cases h'
     |dark=>obtain⟨dk,eps,ms,erc⟩:=hh;refine⟨W,[],ms,⟨rx,by rw[eps];simp,m9 _⟩,by rw[erc];simp,.inr ⟨?_,dk⟩⟩;unfold Sx.rooms;rw[rd,hU (by decide),e]
    |ok p=>
     have lt:=qJW x wt ok rd e;obtain⟨eps,erc,_⟩:=hh;obtain⟨Y,ps,ms,ry,hrc,hr⟩:=q9Y (i:=i) rx.x rx.wt rx.ok (by lia);refine⟨Y,p::ps,ms,⟨⟨ry.x,ry.wt,ry.ok,rx.kp.trans ry.kp,λm u m6 z=>ry.hv m u m6 (rx.hv m u m6 z)⟩,?_,?_⟩,?_,?_⟩
     .rw[ry.ps,eps,pJ];rfl
     .have:=ry.ln;rw[mP];lia
     .rw[hrc,erc,List.flatMap_cons];simp[dOf]
     have er:X.rooms k (i+1)=W.rooms k i:=by rw[Sx.rooms,rd,hU (by decide),e]
     rw[er];exact hr
end
structure AskO(k:Tm)(i:Nat)(X:Sx)(n v:Int)(Y:Sx)(qs:List Pa)(p:Nat):Prop where
rl:Y.s.rc.length<=X.s.rc.length+17*i+1
x:Ix k Y.s
ge:(1+k.ie)*Y.s.q.P<=Y.s.rmX
ok:Y.g.Ok
ps:Y.ps=X.ps++qs
ln:qs.length<=need k X.s
eB:Y.s.q.B=X.s.q.B
eP:Y.s.q.P=X.s.q.P
nm:∀m,(∃p,(m,p)∈Y.s.q.V)↔m=n\/∃p,(m,p)∈X.s.q.V
hv:∀m u,m≠64->m≠n->Hv X.s m u->Hv Y.s m u
hn:Hv Y.s n v
rc:Y.s.rc=X.s.rc++qs.flatMap dOf++[(Str.ofString "put",(p:Int),true)]
structure AskD(k:Tm)(i:Nat)(X:Sx)(Y:Sx)(qs:List Pa):Prop where
rl:Y.s.rc.length<=X.s.rc.length+17*i+1
x:Ix k Y.s
wt:Wt k Y.s
ok:Y.g.Ok
ps:Y.ps=X.ps++qs
ln:qs.length<=need k X.s
kp:Kp X.s Y.s
hv:∀m u,m≠64->Hv X.s m u->Hv Y.s m u
lf:Y.s.lf=some 0
rc:∃ms,Y.s.rc=X.s.rc++qs.flatMap dOf++List.map putR ms
section
variable{k:Tm}{X:Sx}{n v:Int}
theorem q74{i:Nat}(x:Ix k X.s)(wt:Wt k X.s)(ok:X.g.Ok)(hi:need k X.s<=i)(n0:0<=n)(n1:n<=64)(hl:(∃p,(n,p)∈X.s.q.V)\/(X.s.q.V.length<59/\X.s.q.V.length+1<(X.s.q.B-(1+k.ie))*X.s.q.P)):(∃Y qs p,X.ask k i n v=some (Y,.ok p)/\AskO k i X n v Y qs p)\/∃Y qs,X.ask k i n v=some (Y,.error .dark)/\AskD k i X Y qs:=by(
obtain⟨Y,ps,ms,r,d,⟨I,rd,e0⟩|⟨I,D⟩⟩:=q9Y x wt ok hi
.have rl:=(uB x.w ok I).2.2.2.1;have rd:=kP rd;unfold Sx.ask;rw[I];dsimp only;by_cases D:Y.s.lf=some 0
 .rw[kD D];exact .inr ⟨Y,ps,rfl,by lia,r.x,r.wt,r.ok,r.ps,r.ln,r.kp,r.hv,D,ms,d⟩
 rw[hU D];have J:=rd;rw[rP,rQ]at J;have N:(∃p,(n,p)∈Y.s.q.V)\/Y.s.q.V.length<59:=by rw[r.kp.lV];exact hl.imp (λz=>(r.kp.nm n).mpr z) λz=>z.1
 obtain⟨Z,O⟩:=r.x.w.put (n:=n) (v:=v) (by lia) n0 n1 N D;refine .inl ⟨_,ps,_,rfl,?_,r.x.put (by lia) Z ?_,?_,r.ok,r.ps,r.ln,r.kp.eB,r.kp.eP,λm=>?_,λm u m6 mn z=>(r.hv m u m6 z).put r.x.w (by lia) mn,Hv.new,?_⟩
 .show(Y.s.rc++[_]).length<=_;rw[mI,gF];lia
 .show(jB Y.s.q.V n++[_]).length< _;rw[mI,gF];obtain⟨d1,d2⟩:=q16 (V:=Y.s.q.V) (n:=n) r.x.w.qs.ok.nd;have lV:=r.kp.lV;rcases hl with z|⟨_,z⟩
  .obtain⟨p,S⟩:=(r.kp.nm n).mpr z;rw[d2 p S];exact r.x.sh
  rw[r.kp.eB,r.kp.eP];lia
 .show(1+k.ie)*Y.s.q.P<=(Y.s.put n v).rmX;lia
 .rw[<-r.kp.nm m];constructor
  .rintro⟨p,h⟩
   rcases jH.mp h with e|⟨h,_⟩
   .cases e;exact .inl rfl
   exact .inr ⟨p,h⟩
  intro z;by_cases e:m=n
  .exact⟨_,jH.mpr (.inl (by rw[e]))⟩
  rcases z with z|⟨p,h⟩
  .exact absurd z e
  exact⟨p,jH.mpr (.inr ⟨h,e⟩)⟩
 show Y.s.rc++[_]=_;rw[d,e0];simp
have rl:=(uB x.w ok I).2.2.2.1
unfold Sx.ask
rw[I]
exact .inr ⟨Y,ps,rfl,by lia,r.x,r.wt,r.ok,r.ps,r.ln,r.kp,r.hv,D,ms,d⟩)
end
section
variable{k:Tm}{s:XS}
theorem WX.lf(w:WX k s){l:Option Int}(h:∀i,l=some i->0<=i):WX k { s with lf:=l }:={ w with l0:=h }
theorem Ix.lf(x:Ix k s){l:Option Int}(h:∀i,l=some i->0<=i):Ix k { s with lf:=l }:=⟨x.w.lf h,x.sh,x.s1,x.gp,x.e2⟩
theorem Ix.forg(x:Ix k s)(n:Int):Ix k (s.forg n):=by(
refine⟨x.w.forg n,?_,x.s1,x.gp,x.e2⟩
have:=(q16  (n:=n) x.w.qs.ok.nd).1
have:=x.sh
show(jB _ n).length< _
show _ <(s.q.B-(1+k.ie))*s.q.P
lia)
theorem qD7(x:Ix k s):∀(g:List Int),Ix k (s.forgs g)/\(s.forgs g).rmX=s.rmX/\(s.forgs g).rc=s.rc/\(s.forgs g).cl=s.cl/\(s.forgs g).lf=s.lf/\(s.forgs g).q.B=s.q.B/\(s.forgs g).q.P=s.q.P/\(∀m,(∃p,(m,p)∈(s.forgs g).q.V)↔m∉g/\∃p,(m,p)∈s.q.V)/\∀m u,m∉g->Hv s m u->Hv (s.forgs g) m u:=by(
intro g
induction g generalizing s with
|nil=>exact⟨x,rfl,rfl,rfl,rfl,rfl,rfl,λm=>by simp[XS.forgs],λm u z h=>h⟩
|cons n g ih=>
 obtain⟨a1,D,I,a4,Z,N,O,a8,S⟩:=ih (x.forg n);refine⟨a1,D,I,a4,Z,N,O,λm=>?_,λm u d h=>?_⟩
 .show(∃p,(m,p)∈((s.forg n).forgs g).q.V)↔_;rw[a8];constructor
  .rintro⟨h1,p,hp⟩
   obtain⟨h2,J⟩:=qY.mp hp;exact⟨λz=>(kM.mp z).elim J h1,p,h2⟩
  rintro⟨h1,p,hp⟩
  exact⟨λz=>h1 (hG _ z),p,qY.mpr ⟨hp,λz=>h1 (by rw[show m=n from z];exact kY)⟩⟩
 exact S m u (λz=>d (hG _ z)) (h.forg λz=>d (by rw[z];exact kY)))
theorem Wt.of(h:(1+k.ie)*s.q.P<=s.rmX):Wt k s:=λz=>by lia
theorem uU{n:Int}:n∈s.hl↔n≠64/\∃p,(n,p)∈s.q.V:=by(
unfold XS.hl
rw[pD,mL,kZ]
constructor
.rintro⟨⟨y,h,e⟩,h2⟩
 refine⟨kP h2,y.2,?_⟩;rw[<-e];exact h
rintro⟨h1,p,hp⟩
exact⟨⟨_,hp,rfl⟩,hC h1⟩)
end
noncomputable def newX(B P:Nat):XS:=⟨⟨P,B,1,[],List.replicate B 0,List.replicate B 0,List.replicate B 0⟩,List.replicate B 0,λz=>none,none,[]⟩
theorem qJX{k:Tm}{P:Nat}(b2:B<=16)(p1:1<=P)(p2:P<=16)(hk:1+k.ie<B)(s1:1<=k.sp):Ix k (newX B P)/\(1+k.ie)*P<=(newX B P).rmX:=by(
have z:∀n i:Nat,(List.replicate n (0:Int)).getD i 0=0:=λn i=>rep8
have D:(newX B P).rmX=B*P:=by
 unfold XS.rmX newX rm clr1;dsimp only;have:∀n,((List.range n).map λb=>P-((List.replicate B (0:Int)).getD b 0).toNat).sum=n*P:=λn=>by
  induction n with
  |zero=>simp
  |succ n O=>rw[sF,m8,List.sum_append,O,pK,List.map_singleton,z];simp
 exact this B
have le:(1+k.ie)*P<=B*P:=g8 _ (by lia)
have ok:(newX B P).q.Ok:=by refine⟨p1,p2,b2,gW,gW,gW,by simp[newX],λq I=>absurd (show q∈([]:Mp)from I) (by simp),λq I=>absurd (show q∈([]:Mp)from I) (by simp),λb N=>⟨0,z _ _,m9 _⟩⟩
refine⟨⟨⟨⟨ok,λb N=>?_⟩,λb c Z Z h1 Z=>?_,gW,λZ Z Z Z Z=>rfl,λy J=>absurd (show y∈([]:Mp)from J) (by simp),by simp[newX],λb=>?_,λb=>?_,gC _,?_,?_,λi e=>by cases e⟩,?_,s1,λZ b c Z Z=>?_,λZ d c Z Z h Z=>absurd (z _ _) h⟩,?_⟩
.rw[show(newX B P).q.lv=List.replicate B 0 from rfl,z];rfl
.unfold jU at h1;rw[show(newX B P).q.fi=List.replicate B 0 from rfl,z]at h1;simp at h1
.rw[show(newX B P).cl=List.replicate B 0 from rfl,z];exact⟨gC _,gC _⟩
.rw[show(newX B P).q.bo=List.replicate B 0 from rfl,z];exact⟨gC _,by show(0:Int)<1;decide⟩
.rw[D];show k.ie*P<=B*P;exact g8 _ (by lia)
.show 0<60;decide
.show 0<(B-(1+k.ie))*P;exact Nat.mul_pos (by lia) p1
.rw[show(newX B P).cl=List.replicate B 0 from rfl,z,z];lia
rw[D]
exact le)
section
variable{k:Tm}{sh:Int}{sr:Nat}{X Y:Sx}{KD:Mp}{n v:Int}{i:Nat}{qs:List Pa}{p:Nat}
theorem q75{s:XS}(x:Ix k s):need k s<=17:=by(
have d:=x.w.qs.ok.b2
by_cases z:(1+k.ie)*s.q.P<=s.rmX
.have:=qEC x z;split at this<;>lia
unfold need
split
.lia
split<;>lia)
end
theorem qJY{k:Tm}{X:Sx}(R:XS->Prop)(hp:∀s n v,R s->R (s.put n v))(hw:∀s b,R s->R (s.wip b))(w:WX k X.s)(ok:X.g.Ok)(h:X.room k=(Y,r))(c:R X.s):R Y.s:=by(
unfold Sx.room at h
cases htk:X.s.tk k X.g with
|none=>simp_all
|some z=>
 rw[htk]at h;dsimp only at h;have f:=zQ ok htk;obtain⟨s',n,ms,I,J,N,d⟩:=q54 (λs' Z=>R s') w f c (λs' ms n p Z Z Z Z Z Z Z Z D=>hp _ _ _ D);rcases d with⟨e,_⟩|⟨e,_⟩
 .lia
 rw[e]at h;grind)
theorem qBV{k:Tm}(R:XS->Prop)(hp:∀s n v,R s->R (s.put n v))(hw:∀s b,R s->R (s.wip b)):∀{i:Nat} {X Y:Sx} {r:Except Rf Unit},WX k X.s->X.g.Ok->X.rooms k i=some (Y,r)->R X.s->R Y.s
|0,X,Y,r,w,ok,h,c=>by
 unfold Sx.rooms at h;split at h
 .cases h;exact c
 cases h
|i+1,X,Y,r,w,ok,h,c=>by
 unfold Sx.rooms at h;split at h
 .cases h;exact c
 cases hr:X.room k with
 |mk Z q=>
  rw[hr]at h;obtain⟨w2,ok2,_⟩:=q1M w ok hr;have c2:=qJY R hp hw w ok hr c;cases q with
  |error e=>dsimp only at h;cases h;exact c2
  |ok p=>exact qBV R hp hw w2 ok2 h c2
theorem qMS{k:Tm}{X:Sx}{i:Nat}{n v:Int}(R:XS->Prop)(hp:∀s n v,R s->R (s.put n v))(hw:∀s b,R s->R (s.wip b))(w:WX k X.s)(ok:X.g.Ok)(h:X.ask k i n v=some (Y,r))(c:R X.s):R Y.s:=by(
unfold Sx.ask at h
cases hr:X.rooms k i with
|none=>simp_all
|some d=>
 obtain⟨Z,q⟩:=d;rw[hr]at h;have z:=qBV R hp hw w ok hr c;cases q with
 |error e=>lia
 |ok u=>
  grind)
theorem q76{k:Tm}{X:Sx}{i:Nat}{n v:Int}(w:WX k X.s)(ok:X.g.Ok)(h:X.ask k i n v=some (Y,r))(c:X.s.lf=none):Y.s.lf=none:=qMS (λs=>s.lf=none) (λs n v e=>by show s.lf.map _=none;rw[e];rfl) (λs b e=>by show s.lf.map _=none;rw[e];rfl) w ok h c
structure Pgs(s:XS):Prop where
wr:∀b f:Nat,b<s.q.B->f<s.q.P->(f:Int)<s.q.fi.getD b 0->∃v,s.pg (b*s.q.P+f)=some v
mr:∀i v,s.pg i=some v->128<=v.1/\v.1<s.q.nx*128/\v.1%128<=64
one:∀i j a b,s.pg i=some a->s.pg j=some b->a.1 / 128=b.1 / 128->i=j
nw:∀y∈s.q.V,∃v,s.pg y.2.toNat=some v/\v.1%128=y.1/\∀j w,s.pg j=some w->w.1%128=y.1->w.1<=v.1
rl:(∃i v,s.pg i=some v/\v.1%128=64)->∃p,((64:Int),p)∈s.q.V
bn:∀b,b<s.q.B->(s.q.fi.getD b 0=0->s.q.bo.getD b 0=0)/\(0<s.q.fi.getD b 0->∃v,s.pg (b*s.q.P)=some v/\s.q.bo.getD b 0=v.1 / 128)
section
variable{k:Tm}{s:XS}{n v:Int}{b:Nat}
set_option tactic.hygienic true in
theorem Pgs.put(h:Pgs s)(w:WX k s)(hr:0<s.rmX)(n0:0<=n)(n1:n<=64):Pgs (s.put n v):=by(
obtain⟨hb,hf,J,_⟩:=w.spot hr
have nx1:=w.nx
have S:∀c,(s.put n v).q.fi.getD c 0=if s.pb=c then(s.pf:Int)+1 else s.q.fi.getD c 0:=q7Z w.qs.ok.lf hb J
have d:∀i,(s.put n v).pg i=if i=s.np then some (s.q.nx*128+n,v)else s.pg i:=λi=>rfl
have ab:s.pg s.np=none:=w.cr s.pb s.pf hb (by rw[J];exact gC _) hf
have Z:∀{c f:Nat},f<s.q.P->c*s.q.P+f=s.np->c=s.pb/\f=s.pf:=λD e=>q5O D hf e
have af:(s.put n v).q.nx=s.q.nx+1:=rfl
refine⟨λc f I D lt=>?_,λi u e=>?_,λi j a c ea N eq=>?_,λy hy=>?_,λ⟨i,u,e,e6⟩=>?_,λc I=>?_⟩
.have I:c<s.q.B:=I;have D:f<s.q.P:=D;show ∃u,(s.put n v).pg (c*s.q.P+f)=some u;rw[d];split
 .exact⟨_,rfl⟩
 rename_i ne;rw[S]at lt;refine h.wr c f I D ?_;split at lt
 .rename_i z;have:f≠s.pf:=λz2=>ne (by unfold XS.np;rw[z,z2]);rw[<-z,J];lia
 exact lt
.rw[d]at e;rw[af];split at e
 .cases e;show 128<=s.q.nx*128+n/\s.q.nx*128+n< _/\(s.q.nx*128+n)%128<=64;lia
 obtain⟨a1,a2,a3⟩:=h.mr i u e;exact⟨a1,by lia,a3⟩
.rw[d]at ea N;split at ea
 .rename_i zi;cases ea;split at N
  .rename_i zj;rw[zi,zj]
  obtain⟨_,a2,_⟩:=h.mr j c N;have eq:(s.q.nx*128+n) / 128=c.1 / 128:=eq;lia
 split at N
 .cases N;obtain⟨_,a2,_⟩:=h.mr i a ea;have eq:a.1 / 128=(s.q.nx*128+n) / 128:=eq;lia
 exact h.one i j a c ea N eq
.rcases jH.mp hy with e|⟨hy,ne⟩
 .subst e;refine⟨(s.q.nx*128+n,v),?_,?_,λj u e _=>?_⟩
  .rw[d,kD (by show((s.pb*s.q.P+s.pf:Nat):Int).toNat=s.np;rw[kQ];rfl)]
  .show(s.q.nx*128+n)%128=n;lia
  rw[d]at e;split at e
  .cases e;exact gC _
  obtain⟨_,a2,_⟩:=h.mr j u e;show u.1<=s.q.nx*128+n;lia
 obtain⟨u,e1,e2,e3⟩:=h.nw y hy;refine⟨u,?_,e2,λj x e ex=>?_⟩
 .rw[d,hU λz=>by rw[z,ab]at e1;cases e1];exact e1
 rw[d]at e;split at e
 .cases e;have ex:(s.q.nx*128+n)%128=y.1:=ex;exact absurd (show y.1=n by lia) ne
 exact e3 j x e ex
.by_cases z:n=64
 .exact⟨_,jH.mpr (.inl (by rw[z]))⟩
 rw[d]at e;split at e
 .cases e;have e6:(s.q.nx*128+n)%128=64:=e6;lia
 obtain⟨p,hp⟩:=h.rl ⟨i,u,e,e6⟩;exact⟨p,jH.mpr (.inr ⟨hp,λy=>z y.symm⟩)⟩
have I:c<s.q.B:=I
have lo:=w.qs.ok.lo
have O:(s.put n v).q.bo=if s.q.fi.getD s.pb 0=0 then s.q.bo.set s.pb s.q.nx else s.q.bo:=rfl
rw[S]
show(_->(s.put n v).q.bo.getD c 0=0)/\(_->∃u,(s.put n v).pg (c*s.q.P)=some u/\(s.put n v).q.bo.getD c 0=_)
obtain⟨b1,b2⟩:=h.bn c I
by_cases z:s.pb=c
.rw[kD z];refine⟨λe=>by lia,λ_=>?_⟩;rw[d,O];by_cases y:s.q.fi.getD s.pb 0=0
 .have aa:s.pf=0:=by rw[J]at y;lia
  rw[kD (by unfold XS.np;rw[z,aa];rfl),kD y];refine⟨_,rfl,?_⟩;rw[jA,kD ⟨z,by rw[lo];exact hb⟩];show s.q.nx=(s.q.nx*128+n) / 128;lia
 rw[hU λq=>y (by have:=(Z (c:=c) (f:=0) (by lia) (by rw[sO];exact q)).2;rw[J,<-this];rfl),hU y];exact b2 (by rw[<-z];rw[J]at y ⊢;lia)
rw[hU z]
have nz:¬c*s.q.P=s.np:=λq=>z (Z (c:=c) (f:=0) (by lia) (by rw[sO];exact q)).1.symm
have eb:(s.put n v).q.bo.getD c 0=s.q.bo.getD c 0:=by
 rw[O];split
 .rw[jA,hU λq=>z q.1]
 rfl
rw[eb,d,hU nz]
exact⟨b1,b2⟩)
theorem Pgs.wip(h:Pgs s)(w:WX k s)(hb:b<s.q.B)(nl:∀y∈s.q.V,¬y.2 / (s.q.P:Int)=(b:Int)):Pgs (s.wip b):=by(
have p1:=w.qs.ok.p1
have J:∀c,(s.wip b).q.fi.getD c 0=if b=c then 0 else s.q.fi.getD c 0:=λc=>by
 show(s.q.fi.set b 0).getD c 0=_;rw[jA,w.qs.ok.lf];by_cases e:b=c
 .rw[kD ⟨e,hb⟩,kD e]
 rw[hU (λz=>e z.1),hU e]
have N:∀c,(s.wip b).q.bo.getD c 0=if b=c then 0 else s.q.bo.getD c 0:=λc=>by
 show(s.q.bo.set b 0).getD c 0=_;rw[jA,w.qs.ok.lo];by_cases e:b=c
 .rw[kD ⟨e,hb⟩,kD e]
 rw[hU (λz=>e z.1),hU e]
have D:∀i,(s.wip b).pg i=if i / s.q.P=b then none else s.pg i:=λi=>rfl
have d:∀{i u},(s.wip b).pg i=some u->s.pg i=some u:=fun {i u} e=>by
 rw[D]at e;split at e
 .cases e
 exact e
have Z:∀{c f:Nat},f<s.q.P->(c*s.q.P+f) / s.q.P=c:=λI=>jZ I
refine⟨λc f S I lt=>?_,λi u e=>h.mr i u (d e),λi j a c ea ec=>h.one i j a c (d ea) (d ec),λy O=>?_,λ⟨i,u,e,e6⟩=>h.rl ⟨i,u,d e,e6⟩,λc S=>?_⟩
.have I:f<s.q.P:=I;rw[J]at lt;show ∃u,(s.wip b).pg (c*s.q.P+f)=some u;rw[D,Z I];by_cases z:b=c
 .rw[kD z]at lt;lia
 rw[hU z]at lt;rw[hU (λq=>z q.symm)];exact h.wr c f S I lt
.obtain⟨u,e1,e2,e3⟩:=h.nw y O;refine⟨u,?_,e2,λj x e=>e3 j x (d e)⟩;obtain⟨c,f,_,_,I,e,_⟩:=w.vl y O;rw[D,hU λq=>nl y O (by rw[e,kQ]at q;rw[e,<-g7,q])];exact e1
rw[J,N]
show _/\(_->∃u,(s.wip b).pg (c*s.q.P)=some u/\_)
obtain⟨b1,b2⟩:=h.bn c S
by_cases z:b=c
.rw[kD z,kD z];exact⟨λz=>rfl,λq=>by lia⟩
rw[hU z,hU z,D,hU λq=>z (by have:=Z (c:=c) (f:=0) (by lia);rw[sO]at this;rw[<-q,this])]
exact⟨b1,b2⟩)
theorem Pgs.forg(h:Pgs s){m:Int}(ne:m≠64):Pgs (s.forg m):=⟨h.wr,h.mr,h.one,λy hy=>h.nw y (qY.mp hy).1,λz=>let⟨p,hp⟩:=h.rl z;⟨p,qY.mpr ⟨hp,λy=>ne y.symm⟩⟩,h.bn⟩
theorem Pgs.forgs:∀{g:List Int} {s:XS},Pgs s->(∀m∈g,m≠64)->Pgs (s.forgs g)
| [],_,h,_=>h
|m::g,s,h,ne=>Pgs.forgs (g:=g) (h.forg (ne m kY)) λx hx=>ne x (hG _ hx)
end
theorem qHV{P:Nat}:Pgs (newX B P):=by(
have d:∀n i,(List.replicate n (0:Int)).getD i 0=0:=λn i=>rep8
refine⟨λb f Z Z lt=>?_,λi v e=>(by cases e),λi j a b e=>(by cases e),λy z=>absurd (show y∈([])from z) (by simp),λ⟨_,_,e,_⟩=>(by cases e),λb Z=>⟨λZ=>d _ _,λlt=>?_⟩⟩
.rw[show(newX B P).q.fi=List.replicate B 0 from rfl,d]at lt;lia
rw[show(newX B P).q.fi=List.replicate B 0 from rfl,d]at lt
lia)
structure Kpr(k:Tm)(R:XS->Prop):Prop where
p:∀s n v,WX k s->0<s.rmX->0<=n->n<=64->R s->R (s.put n v)
w:∀s b,WX k s->b<s.q.B->(∀y∈s.q.V,¬y.2 / (s.q.P:Int)=(b:Int))->R s->R (s.wip b)
section
variable{k:Tm}{R:XS->Prop}
theorem Kpr.room(K:Kpr k R){X:Sx}(w:WX k X.s)(ok:X.g.Ok)(h:X.room k=(Y,r))(p:R X.s):R Y.s:=by(
unfold Sx.room at h
cases htk:X.s.tk k X.g with
|none=>simp_all
|some z=>
 obtain⟨y,b,g'⟩:=z;rw[htk]at h;dsimp only at h;have f:=zQ ok htk;obtain⟨s',n,ms,I,Z,pg,N⟩:=q54 (λs' z=>R s') w f p (λs' ms n q D kp O S d J hr dk pg=>K.p s' n _ D (by lia) (D.qs.ok.nm _ d).1 (D.qs.ok.nm _ d).2 pg);rcases N with⟨e,_,_⟩|⟨e,_,nl⟩
 .rw[e]at h;lia
 rw[e]at h;dsimp only at h;split at h
 .lia
 cases h;exact K.w s' b I.w (by rw[I.eB];exact f.b) nl pg)
theorem Kpr.rooms(K:Kpr k R):∀{i:Nat} {X Y:Sx} {r:Except Rf Unit},WX k X.s->X.g.Ok->X.rooms k i=some (Y,r)->R X.s->R Y.s
|0,X,Y,r,w,ok,h,p=>by
 unfold Sx.rooms at h;split at h
 .cases h;exact p
 cases h
|i+1,X,Y,r,w,ok,h,p=>by
 unfold Sx.rooms at h;split at h
 .cases h;exact p
 cases e:X.room k with
 |mk W o=>
  obtain⟨w',ok',_⟩:=q1M w ok e;have p':=K.room w ok e p;rw[e]at h;cases o with
  |error q=>cases h;exact p'
  |ok q=>exact Kpr.rooms K w' ok' h p'
theorem Kpr.ask(K:Kpr k R){i:Nat}{X:Sx}{n v:Int}(w:WX k X.s)(ok:X.g.Ok)(n0:0<=n)(n1:n<=64)(h:X.ask k i n v=some (Y,r))(p:R X.s):R Y.s:=by(
unfold Sx.ask at h
cases e:X.rooms k i with
|none=>simp_all
|some z=>
 obtain⟨Z,o⟩:=z;obtain⟨D,_,_,_,_,rd⟩:=uB w ok e;have d:=K.rooms w ok e p;rw[e]at h;cases o with
 |error q=>lia
 |ok u=>
  dsimp only at h;split at h
  .lia
  cases h;exact K.p _ n v D (by have:=kP (rd rfl);lia) n0 n1 d)
end
section
variable{k:Tm}{s:XS}
noncomputable def TopN(s:XS)(n:Int):Prop:=∃p v,(n,p)∈s.q.V/\s.pg p.toNat=some v/\v.1 / 128=s.q.nx-1
noncomputable def Top(s:XS):Prop:=s.q.nx=1\/∃n,TopN s n
theorem qED{n v:Int}(n0:0<=n)(n1:n<=64):TopN (s.put n v) n:=⟨(s.np),_,jH.mpr (.inl rfl),by
 show(if(s.np:Int).toNat=s.np then _ else _)=_;rw[kQ,kD rfl],by
 show(s.q.nx*128+n) / 128=s.q.nx+1-1;lia⟩
theorem qJZ:Kpr k Top:=⟨λs n v w hr n0 n1 h=>.inr ⟨n,qED n0 n1⟩,λs b w hb nl h=>h.imp id λ⟨n,p,v,h1,h2,h3⟩=>⟨n,p,v,h1,by
 show(if p.toNat / s.q.P=b then none else s.pg _)=some v;rw[hU,h2];intro z;obtain⟨c,g,_,_,_,a3,_⟩:=w.vl _ h1;have a3:p=_:=a3;refine nl _ h1 ?_;rw[<-z,g7,xC (by rw[a3];lia)],h3⟩⟩
theorem qEE{i:Nat}{X:Sx}{n v:Int}{p:Nat}(n0:0<=n)(n1:n<=64)(h:X.ask k i n v=some (Y,.ok p)):TopN Y.s n:=by(
unfold Sx.ask at h
split at h
.cases h
.lia
split at h
.lia
cases h
exact qED n0 n1)
theorem TopN.forgs:∀{g:List Int} {s:XS} {n:Int},TopN s n->n∉g->TopN (s.forgs g) n
| [],_,_,h,_=>h
|m::g,s,n,h,ng=>by refine TopN.forgs (g:=g) (s:=s.forg m) ?_ (λz=>ng (hG _ z));obtain⟨p,v,h1,h2,h3⟩:=h;exact⟨p,v,qY.mpr ⟨h1,λz=>ng (by rw[<-z];exact kY)⟩,h2,h3⟩
end
end W1
namespace L2
open PySem PySem.Spec PyProof.Rows
section
variable{prog:Program}{w:World}{A:Around}{E:Value->Shared->Prop}
theorem qEF{s:Shared}{f:Builtin}(h1:builtinKind nm=none)(h2:plainId nm=true)(h3:entryFor table nm=some f)(h4:argsOk nm ⟨us,ks⟩)
 (go:wpAny (model prog w) A.in1 (f ⟨us,ks⟩) (λfin s'=>match fin with| .done r=>(match(Except.ok r:Result)with| .ok (.ret v)=>Q v s'| .ok _=>False| .error e=>E e s')| .again c=>c.quiet=true/\codeAny (model prog w) A c (λr s'=>match r with| .ok (.ret v)=>Q v s'| .ok _=>False| .error e=>E e s') s') E s):
 wpAny (model prog w) A (call (.builtin nm) us ks) Q E s:=cP (p7 h2 h3 (by simp only[checkBuiltinCall,h1];unfold argsOk at h4;cases e:Manifest.signature? nm with
 |none=>exact kW go
 |some sg=>rw[e]at h4;simp only[h4];exact kW go))
theorem qK0(a d:Value):argsOk "min" ⟨[a],[(Str.ofString "default",d)]⟩:=by rfl
theorem qHW{n:Nat}{P:Nat->Value->Prop}{St:Nat->Heap->Prop}(val:Nat->Int)(hval:∀i v,P i v->∃t,v=.int (val i) t)
 (W:Walks prog w A.in1 I fp wr n P St) (nB:B∉fp):∀(r j i0:Nat) (s:Shared) (v0:Value) (c:Nat),j+r=n->St j s.heap->P i0 v0->i0<j->(∀i,i<j->val i0<=val i)->s.heap.get? B=some { cls:=.type "list",dict:=none,data:=.seq #[v0,v0] c,slots:=#[] }->(∀i v h' tk,P i v->i<n->(∀i',i'<n->val i<=val i')->(∀b o,b∉wr->b≠B->s.heap.get? b=some o->h'.get? b=some o)->R (.ok (.ret v)) { s with heap:=h',toks:=tk })->codeAny (model prog w) A (.builtin "min.loop" ⟨[.ref I,.none,.ref B],kw⟩) R s:=by(
have wB:B∉wr:=λz=>nB (W.sub _ z)
have nm:(toString "min"++toString ".loop":String)="min.loop":=by decide
intro r
induction r with
|zero=>intro j i0 s v0 c ej st Z l0 le S fin;obtain rfl:j=n:=ej;refine cI d5 (id ?_);rw[rR gJ _];show wpAny _ A.in1 (seqItems? (.ref B) >>= _) _ (λz z=>_) _;refine hX (cS S rfl ?_);show wpAny _ A.in1 (tryCatch (pyNext (.ref I)) _ >>= _) _ (λz z=>_) _;refine hX (d6 (W.done s _ _ st λh1 t1 kp=>?_));show wpAny _ A.in1 (updateSeq B (λz=>#[]) >>= _) _ (λz z=>_) _;refine hX ?_;exact cJ (kp B _ wB S) rfl (hX (cB (kW (fin i0 v0 _ t1 Z l0 le λb o d J e=>(mF _ _ J.symm).trans (kp b o d e)))))
|succ r ih=>
 intro j i0 s v0 c ej st Z l0 le S fin;refine cI d5 (id ?_);rw[rR gJ _];show wpAny _ A.in1 (seqItems? (.ref B) >>= _) _ (λz z=>_) _;refine hX (cS S rfl ?_);show wpAny _ A.in1 (tryCatch (pyNext (.ref I)) _ >>= _) _ (λz z=>_) _;refine hX (d6 (W.item j s _ _ (by omega) st λO h1 t1 p1 N kp=>?_));have D:=kp B _ wB S;show wpAny _ A.in1 (tryCatch (holding [O,O] (richCompare .Lt O v0 >>= _)) _ >>= _) _ (λz z=>_) _;refine hX (d6 (g5 (hX (CmpOf.ints_lt val hval j i0 O v0 _ _ _ p1 Z (hX (g5 (dD (hX (cB (kW ?_))))))))));dsimp only;by_cases z:val j<val i0
 .rw[hC z];rw[kD rfl];refine hX (cJ D rfl (hX (cB ?_)));rw[nm];refine kW ⟨wO gJ _,ih (j+1) j _ O _ (by omega) (W.frame _ _ _ N λb hb o e=>(mF _ _ λy:B=b=>nB (by rw[y];exact hb)).trans e) p1 (by omega) (λi hi=>?_) (rC _ D rfl) λi v h2 t2 a1 a2 a3 a4=>fin i v h2 t2 a1 a2 a3 λb o d J e=>a4 b o d J ((mF _ _ J.symm).trans (kp b o d e))⟩;by_cases y:i=j
  .rw[y];omega
  have:=le i (by omega);omega
 rw[kB z];rw[hU (by decide)];refine hX (cB ?_);rw[nm];refine kW ⟨wO gJ _,ih (j+1) i0 _ v0 c (by omega) N Z (by omega) (λi hi=>?_) D λi v h2 t2 a1 a2 a3 a4=>fin i v h2 t2 a1 a2 a3 λb o d J e=>a4 b o d J (kp b o d e)⟩;by_cases y:i=j
 .rw[y];omega
 exact le i (by omega))
theorem qHX{s:Shared}{l:Addr}(hh:A.handled=none)(hl:s.heap.IsList l (intItems xs))(h0:xs.size=0->∀h' tk,(∀b o,s.heap.get? b=some o->h'.get? b=some o)->Q d { s with heap:=h',toks:=tk })
 (h1':∀i v h' tk,(intItems xs)[i]?=some v->i<xs.size->(∀i',i'<xs.size->numAt xs i<=numAt xs i')->(∀b o,s.heap.get? b=some o->h'.get? b=some o)->Q v { s with heap:=h',toks:=tk }):
 wpAny (model prog w) A (call (.builtin "min") [.ref l] [(Str.ofString "default",d)]) Q E s:=by(
have nm:(toString "min"++toString ".loop":String)="min.loop":=by decide
have zs:(intItems xs).size=xs.size:=by simp[intItems]
refine qEF aP aF aG (qK0 _ _) ?_
refine hX (m:=Builtin.Builtins.bindParams "min" ["key","default"] 0 ⟨[],[(Str.ofString "default",d)]⟩) (wpAny_of_eq (a:=[none,some d]) rfl ?_)
refine hX (kW (hX (iter_intList hl λs2 e st N ne=>?_)))
subst e
refine hX (cZ ?_ (m9 _))
rw[nm]
refine kW ⟨wO gJ _,?_⟩
have W:=xT (prog:=prog) (w:=w) (A:=A.in1) hh s.heap.objs.size l ne (intItems xs)
have gB:=mW (o:={ cls:=.type "list",data:=.seq #[] }) (s.heap.push { cls:=.type "list_iterator",data:=.fields #[.ref l,.int 0 0] }) rfl
have Z:(s.heap.push { cls:=.type "list_iterator",data:=.fields #[.ref l,.int 0 0] }).objs.size∉[s.heap.objs.size,l]:=λz=>dX _ (N _ z)
have D:∀{b:Addr} {o:Obj},s.heap.get? b=some o->b≠s.heap.objs.size/\b≠(s.heap.push { cls:=.type "list_iterator",data:=.fields #[.ref l,.int 0 0] }).objs.size:=fun {b o} e=>⟨mY (mE e),mY (mE (kJ _ e))⟩
refine cI d5 (id ?_)
rw[rR gJ _]
show wpAny _ A.in1 (seqItems? (.ref (s.heap.push { cls:=.type "list_iterator",data:=.fields #[.ref l,.int 0 0] }).objs.size) >>= _) _ (λz z=>_) _
refine hX (cS gB rfl ?_)
show wpAny _ A.in1 (tryCatch (pyNext (.ref s.heap.objs.size)) _ >>= _) _ (λz z=>_) _
refine hX (d6 ?_)
have I:=W.frame 0 _ (Heap.push (Heap.push s.heap { cls:=.type "list_iterator",data:=.fields #[.ref l,.int 0 0] }) ({ cls:=.type "list",data:=.seq #[] }:Obj)) st λb _ o e=>kJ _ e
have wB:(s.heap.push { cls:=.type "list_iterator",data:=.fields #[.ref l,.int 0 0] }).objs.size∉[s.heap.objs.size]:=λz=>Z (W.sub _ z)
by_cases z:xs.size=0
.refine W.done _ _ _ (by rw[zs,z];exact I) λh1 t1 kp=>?_;exact hX (wpAny_rule (kW (h0 z h1 t1 λb o e=>kp b o (by simpa using(D e).1) (kJ _ (kJ _ e)))))
refine W.item 0 _ _ _ (by rw[zs];omega) I λS h1 t1 p1 O kp=>?_
have J:=kp (s.heap.push { cls:=.type "list_iterator",data:=.fields #[.ref l,.int 0 0] }).objs.size _ wB gB
show wpAny _ A.in1 (updateSeq (s.heap.push { cls:=.type "list_iterator",data:=.fields #[.ref l,.int 0 0] }).objs.size (λz=>#[S,S]) >>= _) _ (λz z=>_) _
refine hX (cJ J rfl ?_)
rw[nm]
refine kW ⟨wO gJ _,qHW (numAt xs) (λz z=>intItems_at) W Z (xs.size-1) 1 0 _ S _ (by rw[zs];omega) (W.frame _ _ _ O λb hb o e=>(mF _ _ λy:(s.heap.push { cls:=.type "list_iterator",data:=.fields #[.ref l,.int 0 0] }).objs.size=b=>Z (by rw[y];exact hb)).trans e) p1 (by omega) (λi hi=>?_) (rC _ J rfl) λi v h2 t2 a1 a2 a3 a4=>?_⟩
.rw[show i=0 by omega];exact gC _
rw[zs]at a2 a3
exact h1' i v h2 t2 a1 a2 a3 λb o e=>a4 b o (by simpa using(D e).1) (D e).2 ((mF _ _ (D e).2.symm).trans (kp b o (by simpa using(D e).1) (kJ _ (kJ _ e)))))
end
noncomputable def qNW(K:PySem.W.Frag)(d:Int)(ta:TA):TE:=λσ H Q=>ta σ H λvs H1=>∃(p:Addr) (ns:List Int),vs=[.ref p]/\SqL K H1 p (ns.map V.int)/\(ns=[]->Q (.int d) H1)/\∀M,M∈ns->(∀a∈ns,M<=a)->Q (.int M) H1
theorem qK1{X:Cx}{c:Expr}{p kp:Pos}(hc:X.calm=true)(hg:Gl X "min")(hm:X.mg "min"=none)(hd:PE X c (tC (.int d)))(ha:PA X [e] ta)(he:starEach [e] X.env=[(false,eval e X.env)]:=by rfl)(hse:starEach ([]:List Expr) X.env=[]:=by rfl):
 PE X (.Call (.Name "min" p) [e] [⟨some "default",c,kp⟩] pos) (qNW X.K d ta):=by(
intro pins s σ H Q I h
refine dG (q26 I hg hm (u:=.builtin "min") (by kernel_rfl) ?_ (by decide) (by decide))
refine aR (thn (ha pos pins s σ H _ I h) λus s1 ⟨vs,H1,I1,r1,q1⟩=>?_) (by rw[he,hse];rfl) (by rw[he];rfl)
have pk:PK X [⟨some "default",c,kp⟩] (qB5 (tC (.int d)) tNil):=qA5 hd qCN
refine thn (pk pos pins s1 σ H1 (λxs H2=>xs=[.int d]/\H2=H1) I1 ⟨rfl,rfl⟩) λws s2 hZ=>?_
obtain⟨xs,H2,J,r2,ex,eH⟩:=hZ
subst ex eH
obtain⟨w,rfl,td,rfl⟩:=q27 r2
obtain⟨l,ns,ev,S,Z,h1⟩:=q1
subst ev
obtain⟨u,rfl,ru⟩:=q27 r1
obtain rfl:u=Value.ref l:=ru
obtain⟨ab,rv,O,hz⟩:=J.list S
have hi:=q70 rv
obtain⟨xs,e⟩:=hi.allInts.items
have D:ns=xs.toList.map (·.1):=by rw[<-hi.numsOf,<-nums_intItems,<-e]
have hl:=O.isList
rw[e]at hl
refine qHX (J.ok.hd hc) hl (λz h' tk kp=>⟨.int d,_,J.kept kp,⟨_,rfl⟩,Z ?_⟩) (λi v h' tk hv hi le kp=>?_)
.rw[D,Array.eq_empty_of_size_eq_zero z];rfl
obtain⟨t,rfl⟩:=intItems_at hv
refine⟨.int _,_,J.kept kp,⟨t,rfl⟩,h1 _ ?_ λa ha=>?_⟩
.rw[D,numAt_eq];exact getD_mem (by rw[kI,gE];omega)
rw[D]at ha
obtain⟨j,N,rfl⟩:=mem_getD ha
rw[kI,gE]at N
rw[<-numAt_eq]
exact le j N)
end L2
namespace L2
open PySem PySem.W PySem.Spec PyProof.Rows
theorem qK2(a d:Value):argsOk "min" ⟨[a],[(Str.ofString "key",d)]⟩:=by rfl
noncomputable def KeyI(K:PySem.W.Frag)(kf:Nat->List Int)(H:Hp)(zs:List V):Prop:=∀j z,zs[j]?=some z->TupI K H z (kf j)
section
variable{X:Cx}{pins:List (Addr×Obj)}{σ:St}
theorem qK3{A:Around}{s:Shared}(I:Inv X pins σ H s)(hu:A.units+1<cLine)(t1:TupI X.K H z1 k1)(t2:TupI X.K H z2 k2)(r1:RelV z1 u1)(r2:RelV z2 u2)(c:Q (.bool (lx k1 k2)) s):wpAny (model X.prog X.w) A (richCompare .Lt u1 u2) Q E s:=by(
have d:=q4Y I (.cons r1 .nil) (.cons t1 .nil)
have p2:=q4Y I (.cons r2 .nil) (.cons t2 .nil)
obtain⟨J,g1,a1,z,rfl,D,i1⟩:=Paired.at (i:=0) d rfl
obtain⟨O,S,a2,Z,rfl,N,i2⟩:=Paired.at (i:=0) p2 rfl
cases g1
cases S
rw[<-qBQ]at c
exact HT.lt_tupInts   D N (by simp_all) (by simp_all) (x9 hu) c)
theorem qK4{l f:Addr}(hc:X.A.handled=none)(hu:X.A.units+64<cLine)(Pv:Nat->List V->Hp->Prop)
 (hq:∀i zs H',Pv i zs H'->SqL X.K H' l us/\zs.length=i/\KeyI X.K kf H' zs) (nl:l≠I) (nS:S≠I) (nlS:l≠S)
 (hI:∀H',H' I=none->FpOk X pins H' I) (hS:∀H',H' S=none->FpOk X pins H' S)
 (hs:∀i x zs H' pins' s' u,us[i]?=some x->RelV x u->Pv i zs H'->Inv { X with A:=X.A.in1,xe:=λz z=>False } pins' σ H' s'->wpAny (model X.prog X.w) X.A.in1 (call (.ref f) [u]) (EP { X with A:=X.A.in1,xe:=λz z=>False } pins' σ (λz H''=>Pv (i+1) (zs++[z]) H'')) (λz z=>False) s')
 (hR:∀i v zs H' s',i<us.length->RelV (us.getD i .non) v->(∀j,j<us.length->lx (kf j) (kf i)=false)->Pv us.length zs H'->Inv X pins σ H' s'->R (.ok (.ret v)) s'):
 ∀(r j i:Nat) (s:Shared) (H:Hp) (zs:List V) (vb kb:Value) (c:Nat),j+r=us.length->i<j->Inv X pins σ H s->Pv j zs H->H I=none->H S=none->s.heap.IsListIter I l j->s.heap.get? S=some (seqObj "list" #[vb,kb] c)->RelV (us.getD i .non) vb->RelV (zs.getD i .non) kb->(∀j',j'<j->lx (kf j') (kf i)=false)->codeAny (model X.prog X.w) X.A (.builtin "min.loop" ⟨[.ref I,.ref f,.ref S],[]⟩) R s:=by(
have nm:(toString "min"++toString ".loop":String)="min.loop":=by decide
intro r
induction r with
|zero=>intro j i s H zs vb kb c ej ij J pv n1 n2 it gS rb rk D;obtain rfl:j=us.length:=ej;obtain⟨sq,lz,ky⟩:=hq _ _ _ pv;obtain⟨d,rv,pl,hz⟩:=J.list sq;have aa:=rv.length;have W:=xT (prog:=X.prog) (w:=X.w) (A:=X.A.in1) hc I l nl d.toArray;refine cI d5 (id ?_);rw[rR gJ _];show wpAny _ X.A.in1 (seqItems? (.ref S) >>= _) _ (λz z=>_) _;refine hX (cS gS rfl ?_);show wpAny _ X.A.in1 (tryCatch (pyNext (.ref I)) _ >>= _) _ (λz z=>_) _;refine hX (d6 (W.done s _ _ ⟨by rw[mJ,<-aa];exact it,pl.isList⟩ λh1 t1 kp=>?_));have J1:Inv X pins σ H { s with heap:=h1,toks:=t1 }:=J.turnedN (fp:=[I]) kp (λb N=>by rw[kE.mp N];exact hI _ n1);have Z:=kp S _ (λz=>nS (kE.mp z)) gS;show wpAny _ X.A.in1 (updateSeq S (λz=>#[]) >>= _) _ (λz z=>_) _;refine hX (cJ Z rfl (hX (cB (kW ?_))));exact hR i vb zs H _ ij rb D pv (J1.turnedN (fp:=[S]) (λb o N e=>(mF _ _ (λz=>N (kE.mpr z.symm))).trans e) (λb N=>by rw[kE.mp N];exact hS _ n2))
|succ r ih=>
 intro j i s H zs vb kb c ej ij J pv n1 n2 it gS rb rk D;have lt:j<us.length:=by omega
 obtain⟨sq,lz,ky⟩:=hq _ _ _ pv;obtain⟨d,rv,pl,hz⟩:=J.list sq;have aa:=rv.length;have W:=xT (prog:=X.prog) (w:=X.w) (A:=X.A.in1) hc I l nl d.toArray;refine cI d5 (id ?_);rw[rR gJ _];show wpAny _ X.A.in1 (seqItems? (.ref S) >>= _) _ (λz z=>_) _;refine hX (cS gS rfl ?_);show wpAny _ X.A.in1 (tryCatch (pyNext (.ref I)) _ >>= _) _ (λz z=>_) _;refine hX (d6 (W.item j s _ _ (by rw[mJ];omega) ⟨it,pl.isList⟩ λv h1 t1 ay an kp=>?_));have hv:d[j]?=some v:=by simpa using ay
 obtain⟨x,ex,rx⟩:=rv.atN (j:=j) (by omega);obtain rfl:d[j]=v:=(kF.mp hv).2;have J1:Inv X pins σ H { s with heap:=h1,toks:=t1 }:=J.turnedN (fp:=[I]) kp (λb N=>by rw[kE.mp N];exact hI _ n1);have Z:=kp S _ (λz=>nS (kE.mp z)) gS;obtain⟨oI,gI,ag,ab⟩:=id an.1;have J2:=(J1.near (A':=X.A.in1) rfl rfl λz z=>False).pinned (fp:=[I,S]) (λb O=>by
  simp only[kM,dL,cY]at O;rcases O with rfl|rfl
  .exact hI _ n1
  .exact hS _ n2) (λb O=>by
  simp only[kM,dL,cY]at O;rcases O with rfl|rfl
  .exact⟨_,gI,λv z=>by rw[ab]at z;cases z⟩
  exact⟨_,Z,λv z=>by cases z⟩)
 show wpAny _ X.A.in1 (tryCatch (holding [d[j]] (call (.ref f) [d[j]])) _ >>= _) _ (λz z=>_) _;refine hX (d6 (g5 (dM (hs j x zs H _ _ _ ex rx pv J2) (λu s2 a3=>?_) λd d z=>z.elim)));obtain⟨z,H2,J3,ru,ac⟩:=a3;have pI:=J3.pin (I,oI) (mC _ (mC _ (yI (by simp) gI)));have pS:=J3.pin (S,seqObj "list" #[vb,kb] c) (mC _ (mC _ (yI (by simp) Z)));have J4:Inv X pins σ H2 s2:=(J3.unpinned).near (A':=X.A) rfl rfl X.xe;obtain⟨bh,bc,af⟩:=hq _ _ _ ac;have kz:TupI X.K H2 z (kf j):=af j z (by rw[dY (by omega),lz,Nat.sub_self];rfl);have gi:zs[i]?=some (zs.getD i .non):=by rw[kN,kL (by omega)];rfl
 have ki:TupI X.K H2 (zs.getD i .non) (kf i):=af i _ (by rw[wH (by omega)];exact gi);have av:s2.heap.IsListIter I l (j+1):=⟨oI,pI.1,ag,ab⟩;show wpAny _ X.A.in1 (tryCatch (holding [d[j],u] (richCompare .Lt u kb >>= _)) _ >>= _) _ (λz z=>_) _;refine hX (d6 (g5 (hX (qK3 J4 (by show X.A.units+1+1<cLine;omega) kz ki ru rk ?_))));refine hX (g5 (dD (hX (cB (kW ?_)))));cases e:lx (kf j) (kf i)with
 |true=>
  simp only[if_true];refine hX (cJ pS.1 rfl (hX (cB ?_)));rw[nm];obtain⟨c2,g2⟩:∃c2,(s2.heap.update S (Obj.mapSeq λz=>#[d[j],u])).get? S=some (seqObj "list" #[d[j],u] c2):=⟨_,cG pS.1 λz=>#[d[j],u]⟩;have J5:Inv X pins σ H2 { s2 with heap:=s2.heap.update S (Obj.mapSeq λz=>#[d[j],u]),toks:=s2.toks }:=J4.turnedN (fp:=[S]) (λb o N e=>(mF _ _ (λz=>N (kE.mpr z.symm))).trans e) (λb N=>by rw[kE.mp N];exact hS _ pS.2.1);refine kW ⟨wO gJ _,ih (j+1) j _ H2 _ _ u c2 (by omega) (by omega) J5 ac pI.2.1 pS.2.1 ⟨oI,(mF _ _ nS).trans pI.1,ag,ab⟩ g2 ?_ ?_ λj' au=>?_⟩
  .rw[kN,ex];exact rx
  .rw[kN,dY (by omega),lz,Nat.sub_self];exact ru
  by_cases y:j'=j
  .rw[y];exact q3X _
  cases g:lx (kf j') (kf j)with
  |false=>rfl
  |true=>have:=q14 _ _ _ g e;rw[D j' (by omega)]at this;cases this
 |false=>
  simp only[pC,if_false];refine hX (cB ?_);rw[nm];refine kW ⟨wO gJ _,ih (j+1) i _ H2 _ vb kb c (by omega) (by omega) J4 ac pI.2.1 pS.2.1 av pS.1 rb ?_ λj' au=>?_⟩
  .rw[kN,wH (by omega),gi];exact rk
  by_cases y:j'=j
  .rw[y];exact e
  exact D j' (by omega))
end
noncomputable def tML(P:Program)(w:World)(K:PySem.W.Frag)(mg:Str->Option Value)(base:Heap)(cells:List (Str×Addr))(ix:List (Nat×Str))(k:Nat)(x:Str)(tl:TE)(ta:TA):TE:=λσ H Q=>ta σ H λvs H1=>tl σ H1 λfv H2=>∃(f:Addr) (fd:FuncData) (sp:Heap->Sp),fv=.ref f/\(∀base',(∀b o,base.get? b=some o->base'.get? b=some o)->q2F cells σ base' ix->FnOk P w K mg base' CX0 k f fd [x] (sp base'))/\jT K fd [x] []/\∃(l:Addr) (us:List V) (kf:Nat->List Int) (Pv:Nat->List V->Hp->Prop),vs=[.ref l]/\0<us.length/\Pv 0 [] H2/\(∀i zs H',Pv i zs H'->SqL K H' l us/\zs.length=i/\KeyI K kf H' zs)/\(∀base' i x zs H',q2F cells σ base' ix->us[i]?=some x->Pv i zs H'->sp base' [x] H' (λz H''=>Pv (i+1) (zs++[z]) H'') E0)/\∀i zs H',i<us.length->(∀j,j<us.length->lx (kf j) (kf i)=false)->Pv us.length zs H'->Q (us.getD i .non) H'
theorem qK5{X:Cx}{k:Nat}{x:Str}{le:Expr}{tl:TE}{p kp:Pos}(ix:List (Nat×Str))(hix:∀p∈ix,X.N[p.1]?=some p.2/\X.env.scope.names.lookup p.2=some .cell/\X.fn p.2=true)(hc:X.calm=true)(hu:X.A.units+64<cLine)(hr:Room (k+1) X.A)(hg:Gl X "min")(hm:X.mg "min"=none)(hl:PE X le tl)(ha:PA X [e] ta)
 (he:starEach [e] X.env=[(false,eval e X.env)]:=by rfl) (hse:starEach ([]:List Expr) X.env=[]:=by rfl):
 PE X (.Call (.Name "min" p) [e] [⟨some "key",le,kp⟩] pos) (tML X.prog X.w X.K X.mg X.base X.env.cells ix k x tl ta):=by(
intro pins s σ H Q I h
have nm:(toString "min"++toString ".loop":String)="min.loop":=by decide
refine dG (q26 I hg hm (u:=.builtin "min") (by kernel_rfl) ?_ (by decide) (by decide))
refine aR (thn (ha pos pins s σ H _ I h) λus s1 ⟨vs,H1,I1,r1,q1⟩=>?_) (by rw[he,hse];rfl) (by rw[he];rfl)
have pk:PK X [⟨some "key",le,kp⟩] (qB5 tl tNil):=qA5 hl qCN
refine thn (pk pos pins s1 σ H1 (oneQ _) I1 q1) λws D hZ=>?_
obtain⟨xs,H2,I2,r2,q2⟩:=hZ
obtain⟨v,rfl,f,fd,sp,rfl,F,hb,q2⟩:=qE5 q2
obtain⟨w,rfl,rw⟩:=q27 r2
obtain rfl:w=Value.ref f:=rw
obtain⟨l,ah,kf,Pv,ev,hn,p0,hq,hs,hd⟩:=q2
subst ev
obtain⟨u,rfl,ru⟩:=q27 r1
obtain rfl:u=Value.ref l:=ru
obtain⟨sq,_,_⟩:=hq _ _ _ p0
obtain⟨d,rv,pl,hz⟩:=I2.list sq
have aq:=rv.length
have bg:=I2.ok.hd hc
have ai:l<D.heap.objs.size:=by obtain⟨_,e,_⟩:=pl.isList;exact mE e
show wpAny (model X.prog X.w) X.A (call (.builtin "min") [.ref l] [(Str.ofString "key",.ref f)]) _ _ _
refine qEF aP aF aG (qK2 _ _) ?_
refine hX (m:=Builtin.Builtins.bindParams "min" ["key","default"] 0 ⟨[],[(Str.ofString "key",.ref f)]⟩) (wpAny_of_eq (a:=[some (.ref f),none]) rfl ?_)
refine hX (kW (hX (xW pl.isList ?_)))
refine hX (cZ ?_ (m9 _))
rw[nm]
refine kW ⟨wO gJ _,?_⟩
have hS:(D.heap.push { cls:=.type "list_iterator",data:=.fields #[.ref l,.int 0 0] }).objs.size=D.heap.objs.size+1:=xP ..
have gS:=mW (o:=seqObj "list" #[] 0) (D.heap.push { cls:=.type "list_iterator",data:=.fields #[.ref l,.int 0 0] }) rfl
have gI:((D.heap.push { cls:=.type "list_iterator",data:=.fields #[.ref l,.int 0 0] }).push (seqObj "list" #[] 0)).get? D.heap.objs.size=some { cls:=.type "list_iterator",data:=.fields #[.ref l,.int 0 0] }:=kJ _ (mW _ rfl)
have I3:Inv X pins σ H2 { D with heap:=(D.heap.push { cls:=.type "list_iterator",data:=.fields #[.ref l,.int 0 0] }).push (seqObj "list" #[] 0),toks:=D.toks }:=I2.kept (t':=D.toks) λb o e=>kJ _ (kJ _ e)
obtain⟨S,eS⟩:∃S:Addr,S=(D.heap.push { cls:=.type "list_iterator",data:=.fields #[.ref l,.int 0 0] }).objs.size:=⟨_,rfl⟩
obtain⟨J,eJ⟩:∃J:Addr,J=D.heap.objs.size:=⟨_,rfl⟩
have fJ:FpOk X pins H2 J:=by rw[eJ];exact I2.fpOk (kO _) (I2.hok.fresh (kO _))
have fS:FpOk X pins H2 S:=by rw[eS,hS];exact I2.fpOk (dN _) (I2.hok.fresh (dN _))
have hJ:∀H',H' J=none->FpOk X pins H' J:=λH' e=>⟨e,fJ.2⟩
have ao:∀H',H' S=none->FpOk X pins H' S:=λH' e=>⟨e,fS.2⟩
have nl:l≠J:=by rw[eJ];exact mY ai
have ad:S≠J:=by rw[eS,eJ,hS];exact rZ (rG _)
have bl:l≠S:=by rw[eS,hS];exact mY (rS ai)
have am:X.A.handled=none:=bg
rw[<-eS]at gS
show codeAny (model X.prog X.w) X.A (.builtin "min.loop" ⟨[.ref D.heap.objs.size,.ref f,.ref (D.heap.push { cls:=.type "list_iterator",data:=.fields #[.ref l,.int 0 0] }).objs.size],[]⟩) _ _
rw[<-eS,<-eJ]
rw[<-eJ]at gI
clear hS eS eJ
obtain⟨h3,eh⟩:∃h3,h3=(D.heap.push { cls:=.type "list_iterator",data:=.fields #[.ref l,.int 0 0] }).push (seqObj "list" #[] 0):=⟨_,rfl⟩
rw[<-eh]at gS gI I3
show codeAny _ _ _ _ { D with heap:=(D.heap.push { cls:=.type "list_iterator",data:=.fields #[.ref l,.int 0 0] }).push (seqObj "list" #[] 0) }
rw[<-eh]
clear eh
obtain⟨d,rv,pl,hz⟩:=I3.list sq
have aq:=rv.length
have W:=xT (prog:=X.prog) (w:=X.w) (A:=X.A.in1) am J l nl d.toArray
refine cI d5 (id ?_)
rw[rR gJ _]
show wpAny _ X.A.in1 (seqItems? (.ref S) >>= _) _ (λz z=>_) _
refine hX (cS gS rfl ?_)
show wpAny _ X.A.in1 (tryCatch (pyNext (.ref J)) _ >>= _) _ (λz z=>_) _
refine hX (d6 (W.item 0 _ _ _ (by rw[mJ];omega) ⟨⟨_,gI,rfl,rfl⟩,pl.isList⟩ λv h1 t1 bh ba kp=>?_))
have hv:d[0]?=some v:=by simpa using bh
obtain⟨x0,ex,rx⟩:=rv.atN (j:=0) (by omega)
obtain rfl:d[0]=v:=(kF.mp hv).2
have J1:Inv X pins σ H2 { D with heap:=h1,toks:=t1 }:=Inv.turnedN (s:={ D with heap:=h3 }) (fp:=[J]) I3 kp (λb hb=>by rw[kE.mp hb];exact fJ)
have ap:=kp S _ (λz=>ad (kE.mp z)) gS
obtain⟨oI,an,bc,ag⟩:=id ba.1
have J2:=(J1.near (A':=X.A.in1) rfl rfl λz z=>False).pinned (fp:=[J,S]) (λb Z=>by
 simp only[kM,dL,cY]at Z;rcases Z with rfl|rfl
 .exact fJ
 .exact fS) (λb Z=>by
 simp only[kM,dL,cY]at Z;rcases Z with rfl|rfl
 .exact⟨_,an,λv z=>by rw[ag]at z;cases z⟩
 exact⟨_,ap,λv z=>by cases z⟩)
have aj:∀i x zs H' O s' u,ah[i]?=some x->RelV x u->Pv i zs H'->Inv { X with A:=X.A.in1,xe:=λz z=>False } O σ H' s'->wpAny (model X.prog X.w) X.A.in1 (call (.ref f) [u]) (EP { X with A:=X.A.in1,xe:=λz z=>False } O σ (λz a7=>Pv (i+1) (zs++[z]) a7)) (λz z=>False) s':=λi x zs H' O s' u hx rx pv I'=>qE4 (X:={ X with A:=X.A.in1,xe:=λz z=>False }) (dvs:=[]) (ds:=[]) (E:=E0) ix hix F hr.in1 hb .nil qK I' (.cons rx .nil) (λaa up cv=>hs aa i x zs H' cv hx pv)
show wpAny _ X.A.in1 (tryCatch (holding [d[0]] (call (.ref f) [d[0]])) _ >>= _) _ (λz z=>_) _
refine hX (d6 (g5 (dM (aj 0 x0 [] H2 _ _ _ ex rx p0 J2) (λu s3 bm=>?_) λd d z=>z.elim)))
obtain⟨z,H3,J3,ru,bd⟩:=bm
have pI:=J3.pin (J,oI) (mC _ (mC _ (yI (by simp) an)))
have pS:=J3.pin (S,seqObj "list" #[] 0) (mC _ (mC _ (yI (by simp) ap)))
have J4:Inv X pins σ H3 s3:=(J3.unpinned).near (A':=X.A) rfl rfl X.xe
show wpAny _ X.A.in1 (updateSeq S (λz=>#[d[0],u]) >>= _) _ (λz z=>_) _
refine hX (cJ pS.1 rfl ?_)
rw[nm]
obtain⟨c2,g2⟩:∃c2,(s3.heap.update S (Obj.mapSeq λz=>#[d[0],u])).get? S=some (seqObj "list" #[d[0],u] c2):=⟨_,cG pS.1 λz=>#[d[0],u]⟩
have J5:Inv X pins σ H3 { s3 with heap:=s3.heap.update S (Obj.mapSeq λz=>#[d[0],u]),toks:=s3.toks }:=J4.turnedN (fp:=[S]) (λb o hb e=>(mF _ _ (λz=>hb (kE.mpr z.symm))).trans e) (λb hb=>by rw[kE.mp hb];exact ao _ pS.2.1)
refine kW ⟨wO gJ _,qK4 am hu Pv hq nl ad bl hJ ao aj (λi v zs H' s' a1 a2 a3 a4 a5=>?_) (ah.length-1) 1 0 _ H3 _ d[0] u c2 (by omega) (by omega) J5 bd pI.2.1 pS.2.1 ⟨oI,(mF _ _ ad).trans pI.1,bc,ag⟩ g2 ?_ ?_ λj' bu=>?_⟩
.exact⟨_,H',a5,a2,hd i zs H' a1 a3 a4⟩
.rw[kN,ex];exact rx
.exact ru
obtain rfl:j'=0:=by omega
exact q3X _)
end L2
namespace L2
open PySem
theorem q81{lo:Int}{n:Nat}{g:TG}{tb:TS}{D:Ends}{σ:St}{H:Hp}(Pv:Nat->St->Hp->Prop)(h0:Pv 0 σ H)
 (hs:∀i σ H (D':Ends),(∀σ' H',Pv (i+1) σ' H'->D'.nx σ' H')->i<n->Pv i σ H->g (.int (lo+i)) σ H λσ2 H2=>tb D' σ2 H2) (hd:∀σ H,Pv n σ H->D.nx σ H):
 ∃W:Nat->Nat->St->Hp->Prop,(∃m,W 0 m σ H)/\∀i m σ H,W i m σ H->((Itr lo n).stop i H/\D.nx σ H)\/((Itr lo n).go i H/\∃N:St->Hp->Prop,(∀σ' H',N σ' H'->∃m',m'<m/\W (i+1) m' σ' H')/\∀x H',(Itr lo n).yld i H x H'->g x σ H' λσ2 H2=>tb { D with nx:=N,ct:=N,bk:=D.nx } σ2 H2):=q3A Pv h0 (λi σ H hx p=>hs i σ H _ (λz z q=>q) hx p) hd
theorem iV{σ:St}{i:Nat}{v:V}{Q:V->Prop}(e:σ[i]?=some (some v))(q:Q v):∃v,σ[i]?=some (some v)/\Q v:=⟨v,e,q⟩
theorem iF{K:PySem.W.Frag}{H:Hp}{f:Str}{a C d:Addr}{fs:List (Str×V)}{v:V}{Q:V->Prop}(o:H a=some (.ins C d fs))(cl:Cls K C)(na:qQ K C f)(lk:fs.lookup f=some v)(q:Q v):
 ∃a' C dx fs v,V.ref a=.ref a'/\H a'=some (.ins C dx fs)/\Cls K C/\qQ K C f/\fs.lookup f=some v/\Q v:=⟨a,C,d,fs,v,rfl,o,cl,na,lk,q⟩
theorem iM{H:Hp}{m:Str}{a C d:Addr}{fs:List (Str×V)}{q:Prop}(o:H a=some (.ins C d fs))(lk:fs.lookup m=none)(k:q):
 ∃a' dx fs,V.ref a=.ref a'/\H a'=some (.ins C dx fs)/\fs.lookup m=none/\q:=⟨a,d,fs,rfl,o,lk,k⟩
theorem iI{i j:Int}{Q:Int->Int->Prop}(q:Q i j):∃i' j',V.int i=.int i'/\V.int j=.int j'/\Q i' j':=⟨i,j,rfl,rfl,q⟩
theorem iL{K:PySem.W.Frag}{H:Hp}{p:Addr}{xs:List V}{k:Int}{v:V}{Q:V->Prop}(h:SqL K H p xs)(e:atI xs k=some v)(q:Q v):∃p' xs k' v,V.ref p=.ref p'/\V.int k=.int k'/\SqL K H p' xs/\atI xs k'=some v/\Q v:=⟨p,xs,k,v,rfl,rfl,h,e,q⟩
theorem iT{K:PySem.W.Frag}{H:Hp}{p:Addr}{xs:List V}{k:Int}{v:V}{Q:V->Prop}(h:SqT K H p xs)(e:atI xs k=some v)(q:Q v):∃p' xs k' v,V.ref p=.ref p'/\V.int k=.int k'/\SqT K H p' xs/\atI xs k'=some v/\Q v:=⟨p,xs,k,v,rfl,rfl,h,e,q⟩
end L2
namespace W1
open PySem L2
noncomputable def vlP(pg:Nat->Option (Int×Int))(V:Mp)(n:Int):Int×Int:=((V.find? λx=>decide (x.1=n)).bind λx=>pg x.2.toNat).getD (0,0)
theorem q55{V:Mp}{n p:Int}(nd:(V.map (·.1)).Nodup)(h:(n,p)∈V):(V.find? λx=>decide (x.1=n))=some (n,p):=by(
induction V with
|nil=>simp_all
|cons y V D=>
 obtain⟨z,d⟩:=gD.mp nd;rw[dR];rcases kM.mp h with e|h
 .subst e;simp
 have:y.1≠n:=λe=>z (kZ.mpr ⟨_,h,e.symm⟩);rw[kB this];exact D d h)
theorem qAI{V:Mp}{n p:Int}{w:Int×Int}(nd:(V.map (·.1)).Nodup)(h:(n,p)∈V)(e:pg p.toNat=some w):vlP pg V n=w:=by(
unfold vlP
rw[q55 nd h]
simp_all)
noncomputable def gnB(pg:Nat->Option (Int×Int))(V:Mp)(n:Int):Bool:=(V.any λx=>decide (x.1=64))&&(!((vlP pg V 64).2.toNat.testBit n.toNat)&&decide ((vlP pg V n).1<(vlP pg V 64).1))
noncomputable def jI(q:QM)(l:List Int):QM:=l.foldl QM.forget q
theorem qAJ{l:List Int}{n:Int}:jI q (l++[n])=(jI q l).forget n:=by unfold jI;simp
theorem q9Z:∀{l:List Int} {q:QM},(jI q l).V=q.V.filter λx=>decide (x.1∉l)
| [],q=>by show q.V=_;rw[rA.mpr];exact λx d=>hC (by simp)
|n::l,q=>by show(jI (q.forget n) l).V=_;rw[q9Z];show(jB q.V n).filter _=_;unfold jB;rw[xS];refine pN λx hx=>?_;by_cases z:x.1=n<;>by_cases y:x.1∈l<;>simp[z,y]
theorem q1N:∀{l:List Int} {q:QM},QS q->QS (jI q l)/\(jI q l).B=q.B/\(jI q l).P=q.P/\(jI q l).fi=q.fi/\(jI q l).bo=q.bo/\(jI q l).nx=q.nx
| [],q,h=>⟨h,rfl,rfl,rfl,rfl,rfl⟩
|n::l,q,h=>q1N (l:=l) (h.forget n)
noncomputable def hdN(W:Mp):List Int:=(W.map (·.1)).filter λn=>decide (n≠64)
theorem uO{V:Mp}{n:Int}:n∈hdN V↔n≠64/\∃p,(n,p)∈V:=by(
unfold hdN
rw[mL,mD,kZ]
constructor
.rintro⟨⟨x,hx,rfl⟩,h⟩;exact⟨h,x.2,hx⟩
rintro⟨h,p,hp⟩;exact⟨⟨_,hp,rfl⟩,h⟩)
theorem Rows.wip{b:Nat}(h:Rows q0 R q)(f0:q0.fi.set b 0=q0.fi)(b0:q0.bo.set b 0=q0.bo):∃q',Rows q0 (R.filter λr=>decide (r.2.1 / q0.P≠b)) q'/\q'.fi=q.fi.set b 0/\q'.bo=q.bo.set b 0/\q'.nx<=q.nx:=by(
induction h with
|nil=>exact⟨q0,.nil,f0.symm,b0.symm,gC _⟩
|@snoc R q r h f ih=>
 obtain⟨q',h',N,O,Z⟩:=ih;obtain⟨S,D⟩:=h.sh;obtain⟨I,d⟩:=h'.sh;have fs:=f.s;rw[gX];by_cases z:r.2.1 / q0.P=b
 .rw[show List.filter (λr:Int×Nat×Int=>decide (r.2.1 / q0.P≠b)) [r]=[] by simp[z],g0];refine⟨q',h',?_,?_,?_⟩
  .rw[N];show _=(q.fi.set (r.2.1 / q.P) _).set b 0;rw[D,z,b9]
  .rw[O];show _=(if q.fi.getD (r.2.1 / q.P) 0=0 then q.bo.set (r.2.1 / q.P) r.1 else q.bo).set b 0;rw[D,z];split
   .rw[b9]
   rfl
  show q'.nx<=r.1+1;lia
 rw[show List.filter (λr:Int×Nat×Int=>decide (r.2.1 / q0.P≠b)) [r]=[r] by simp[z]];have J:q'.fi.getD (r.2.1 / q0.P) 0=q.fi.getD (r.2.1 / q0.P) 0:=by rw[N,jA,hU λy=>z y.1.symm]
 refine⟨q53 q' r,.snoc h' ⟨?_,?_,by lia,f.n0,f.n1⟩,?_,?_,gC _⟩
 .rw[I,d,<-S,<-D];exact f.b
 .have:=f.f;rw[D]at this;rw[d,J];exact this
 .show q'.fi.set (r.2.1 / q'.P) (q'.fi.getD (r.2.1 / q'.P) 0+1)=(q.fi.set (r.2.1 / q.P) (q.fi.getD (r.2.1 / q.P) 0+1)).set b 0;rw[D,d,J,N,bX _ _ (λy=>z y.symm)]
 show(if q'.fi.getD (r.2.1 / q'.P) 0=0 then q'.bo.set (r.2.1 / q'.P) r.1 else q'.bo)=(if q.fi.getD (r.2.1 / q.P) 0=0 then q.bo.set (r.2.1 / q.P) r.1 else q.bo).set b 0;rw[D,d,J,O];split
 .rw[bX _ _ (λy=>z y.symm)]
 rfl)
theorem Rows.nx1(h:Rows q0 R q)(h1:1<=q0.nx):1<=q.nx:=by(
induction h with
|nil=>exact h1
|@snoc R q r h f ih=>have:=f.s;show 1<=r.1+1;lia)
structure Fb(s:XS)(R:List (Int×Nat×Int))(q:QM):Prop where
rows:Rows ((newX s.q.B s.q.P).q) R q
rp:∀i v,s.pg i=some v->∃r∈R,r.2.1=i/\mkR r=v.1
pr:∀r∈R,∃u,s.pg r.2.1=some (mkR r,u)
fi:q.fi=s.q.fi
bo:q.bo=s.q.bo
nx:q.nx<=s.q.nx
section
variable{k:Tm}{s:XS}{n v:Int}{b:Nat}{R:List (Int×Nat×Int)}{q:QM}
set_option tactic.hygienic true in
theorem Fb.put(h:Fb s R q)(w:WX k s)(hr:0<s.rmX)(n0:0<=n)(n1:n<=64):Fb (s.put n v) (R++[(s.q.nx,s.np,n)]) (q53 q (s.q.nx,s.np,n)):=by(
obtain⟨hb,O,Z,_⟩:=w.spot hr
obtain⟨S,D⟩:=h.rows.sh
have S:q.B=s.q.B:=S
have D:q.P=s.q.P:=D
have J:s.np / s.q.P=s.pb:=jZ O
have d2:s.np%s.q.P=s.pf:=by unfold XS.np;rw[dZ,c8,cU O]
have N:s.pg s.np=none:=w.cr s.pb s.pf hb (by rw[Z];exact gC _) O
have I:∀i,(s.put n v).pg i=if i=s.np then some (s.q.nx*128+n,v)else s.pg i:=λi=>rfl
refine⟨.snoc h.rows ⟨?_,?_,h.nx,n0,n1⟩,λi u e=>?_,λr d=>?_,?_,?_,gC _⟩
.rw[S,D];show s.np / s.q.P< _;rw[J];exact hb
.rw[D,h.fi];show s.q.fi.getD (s.np / s.q.P) 0=((s.np%s.q.P:Nat):Int);rw[J,d2];exact Z
.rw[I]at e;split at e
 .rename_i z;cases e;exact⟨(s.q.nx,s.np,n),by simp,z.symm,rfl⟩
 obtain⟨r,h1,h2⟩:=h.rp i u e;exact⟨r,gG _ h1,h2⟩
.rw[I];rcases gN.mp d with d|d
 .obtain⟨u,e⟩:=h.pr r d;rw[hU λz=>by rw[z,N]at e;cases e];exact⟨u,e⟩
 rw[kE.mp d,kD rfl];exact⟨v,rfl⟩
.show q.fi.set (s.np / q.P) (q.fi.getD (s.np / q.P) 0+1)=s.q.fi.set s.pb (s.q.fi.getD s.pb 0+1);rw[D,J,h.fi]
show(if q.fi.getD (s.np / q.P) 0=0 then q.bo.set (s.np / q.P) s.q.nx else q.bo)=if s.q.fi.getD s.pb 0=0 then s.q.bo.set s.pb s.q.nx else s.q.bo
rw[D,J,h.fi,h.bo])
theorem qEG{b:Nat}:(List.replicate B (0:Int)).set b 0=List.replicate B 0:=by(
simp)
set_option tactic.hygienic true in
theorem Fb.wip(h:Fb s R q)(w:WX k s):∃R' q',Fb (s.wip b) R' q':=by(
obtain⟨q',h1,h2,N,S⟩:=h.rows.wip  qEG qEG
have d:∀i,(s.wip b).pg i=if i / s.q.P=b then none else s.pg i:=λi=>rfl
refine⟨_,q',h1,λi u e=>?_,λr O=>?_,by rw[h2,h.fi];rfl,by rw[N,h.bo];rfl,r9 S h.nx⟩
.rw[d]at e;split at e
 .lia
 rename_i z;obtain⟨r,J,D,I⟩:=h.rp i u e;exact⟨r,mL.mpr ⟨J,hC (by rw[D];exact z)⟩,D,I⟩
obtain⟨J,D⟩:=mL.mp O
have I:¬r.2.1 / s.q.P=b:=kP D
rw[d,hU I]
exact h.pr r J)
end
structure Ro(s:XS):Prop where
v6:∀i v,s.pg i=some v->v.1%128=64->0<=v.2/\v.2<2 ^ 64
on:∀n p w p' w',((64:Int),p)∈s.q.V->s.pg p.toNat=some w->(n,p')∈s.q.V->n≠64->s.pg p'.toNat=some w'->w.2.toNat.testBit n.toNat=true\/w.1<w'.1
of:∀i w',s.pg i=some w'->w'.1%128≠64->(∀p,(w'.1%128,p)∉s.q.V)->∃p w,((64:Int),p)∈s.q.V/\s.pg p.toNat=some w/\w.2.toNat.testBit (w'.1%128).toNat=false/\w'.1<w.1
section
variable{k:Tm}{s:XS}{n v:Int}{b:Nat}
theorem q17:∀{g:List Int} {s:XS} {y:Int×Int},y∈(s.forgs g).q.V↔y∈s.q.V/\y.1∉g
| [],s,y=>⟨λh=>⟨h,by simp⟩,λh=>h.1⟩
|m::g,s,y=>by show y∈((s.forg m).forgs g).q.V↔_;rw[q17 (g:=g)];show y∈jB s.q.V m/\_↔_;rw[qY,kM,not_or];exact⟨λh=>⟨h.1.1,h.1.2,h.2⟩,λh=>⟨⟨h.1,h.2.1⟩,h.2.2⟩⟩
theorem qBW:∀{g:List Int} {s:XS},(s.forgs g).pg=s.pg
| [],_=>rfl
|m::g,s=>qBW (g:=g) (s:=s.forg m)
theorem Ro.sheet(h:Ro s)(p:Pgs s)(w:WX k s)(hr:0<s.rmX)(n0:0<=n)(n1:n<64):Ro (s.put n v):=by(
obtain⟨hb,hf,ef,_⟩:=w.spot hr
have I:s.pg s.np=none:=w.cr s.pb s.pf hb (by rw[ef];exact gC _) hf
have d:∀i,(s.put n v).pg i=if i=s.np then some (s.q.nx*128+n,v)else s.pg i:=λi=>rfl
have D:∀{y:Int×Int},y∈s.q.V->∀{u},(s.put n v).pg y.2.toNat=some u->s.pg y.2.toNat=some u:=fun {y} hy {u} e=>by obtain⟨u',e',_⟩:=p.nw y hy;rw[d,hU λz=>by rw[z,I]at e';cases e']at e;exact e
have nw:∀{i u},s.pg i=some u->(s.put n v).pg i=some u:=fun {i u} e=>by rw[d,hU λz=>by rw[z,I]at e;cases e];exact e
refine⟨λi u e J=>?_,λm S Z p2 w2 O e1 h2 m6 N=>?_,λi u e J no=>?_⟩
.rw[d]at e;split at e
 .cases e;have J:(s.q.nx*128+n)%128=64:=J;lia
 exact h.v6 i u e J
.have O:((64:Int),S)∈s.q.V:=by
  rcases jH.mp O with e|⟨e,_⟩
  .injection e with e _
   lia
  exact e
 have e3:=D O e1;rcases jH.mp h2 with e|⟨h2,ne⟩
 .injection e with ea eb
  subst ea;subst eb;refine .inr ?_;have N:(s.put m v).pg ((s.pb*s.q.P+s.pf:Nat):Int).toNat=some w2:=N;rw[d,kD (by rw[kQ];rfl)]at N;cases N;have:=(p.mr _ _ e3).2.1;show Z.1<s.q.nx*128+m;lia
 exact h.on m S Z p2 w2 O e3 h2 m6 (D h2 N)
rw[d]at e
split at e
.cases e;have en:(s.q.nx*128+n)%128=n:=by lia
 exact(no _ (jH.mpr (.inl (by show((s.q.nx*128+n)%128,_)=_;rw[en])))).elim
obtain⟨S,Z,a1,a2,a3,a4⟩:=h.of i u e J λp' aa=>by
 by_cases z:u.1%128=n
 .exact no _ (jH.mpr (.inl (by rw[z])))
 exact no p' (jH.mpr (.inr ⟨aa,z⟩))
exact⟨S,Z,jH.mpr (.inr ⟨a1,λz=>by have z:(64:Int)=n:=z;lia⟩),nw a2,a3,a4⟩)
theorem Ro.roll(h:Ro s)(p:Pgs s)(w:WX k s)(hr:0<s.rmX)(v0:0<=v)(v1:v<2 ^ 64)(g6:(64:Int)∉g)(c1:∀m p',(m,p')∈s.q.V->m≠64->m∉g->v.toNat.testBit m.toNat=true)(c2:∀m,0<=m->m<64->(∀p',(m,p')∉s.q.V)\/m∈g->v.toNat.testBit m.toNat=false):Ro ((s.put 64 v).forgs g):=by(
obtain⟨hb,hf,S,_⟩:=w.spot hr
have aa:s.pg s.np=none:=w.cr s.pb s.pf hb (by rw[S];exact gC _) hf
have d:∀i,((s.put 64 v).forgs g).pg i=if i=s.np then some (s.q.nx*128+64,v)else s.pg i:=λi=>by rw[qBW];rfl
have D:((s.pb*s.q.P+s.pf:Nat):Int).toNat=s.np:=by rw[kQ];rfl
refine⟨λi u e I=>?_,λm p1 w1 p2 w2 h6 O h2 N e2=>?_,λi u e I Z=>?_⟩
.rw[d]at e;split at e
 .cases e;exact⟨v0,v1⟩
 exact h.v6 i u e I
.rcases jH.mp (q17.mp h6).1 with e|⟨_,ne⟩
 .injection e with _ e
  subst e;rw[d,kD D]at O;cases O;obtain⟨h2,ng⟩:=q17.mp h2;rcases jH.mp h2 with e|⟨h2,_⟩
  .injection e with e _
   exact(N e).elim
  exact .inl (c1 m p2 h2 N ng)
 exact(ne rfl).elim
rw[d]at e
split at e
.cases e;have I:(s.q.nx*128+64)%128≠64:=I;lia
have mr:=p.mr i u e
refine⟨_,(s.q.nx*128+64,v),q17.mpr ⟨jH.mpr (.inl rfl),g6⟩,by rw[d,kD D],c2 _ (by lia) (by lia) ?_,by show u.1<s.q.nx*128+64;lia⟩
by_cases z:u.1%128∈g
.exact .inr z
exact .inl λp' J=>Z p' (q17.mpr ⟨jH.mpr (.inr ⟨J,I⟩),z⟩))
theorem Ro.wip(h:Ro s)(w:WX k s)(nl:∀y∈s.q.V,¬y.2 / (s.q.P:Int)=(b:Int)):Ro (s.wip b):=by(
have D:∀i,(s.wip b).pg i=if i / s.q.P=b then none else s.pg i:=λi=>rfl
have d:∀{i u},(s.wip b).pg i=some u->s.pg i=some u:=fun {i u} e=>by
 grind
refine⟨λi u e=>h.v6 i u (d e),λm z I p2 w2 h6 e1 h2 m6 Z=>h.on m z I p2 w2 h6 (d e1) h2 m6 (d Z),λi u e e6 S=>?_⟩
obtain⟨z,I,J,N,O⟩:=h.of i u (d e) e6 S
obtain⟨c,f,_,_,hf,e,_⟩:=w.vl _ J
have e:z=_:=e
refine⟨z,I,J,?_,O⟩
rw[D,hU λq=>nl _ J (by rw[e,kQ]at q;rw[e,<-g7,q])]
exact N)
end
theorem q3G{ns:List Int}(h:∀y∈ns,0<=y/\y<64){m:Int}(m0:0<=m):(XS.bits ns).toNat.testBit m.toNat=decide (m∈ns):=by(
unfold XS.bits
rw[kQ,qBT,Nat.zero_testBit]
by_cases z:m∈ns
.rw[hC z];exact hC (kZ.mpr ⟨m,z,rfl⟩)
rw[kB z]
refine kB λy=>z ?_
obtain⟨x,d,e⟩:=kZ.mp y
grind)
theorem qEH{ns:List Int}(h:∀y∈ns,0<=y/\y<64):0<=XS.bits ns/\XS.bits ns<2 ^ 64:=by
 unfold XS.bits;have:=qH9 64 (ns.map Int.toNat) 0 (by simp) λu d=>by obtain⟨y,z,rfl⟩:=kZ.mp d;simp_all
 lia
structure Fd(s:XS):Prop where
pg:Pgs s
ro:Ro s
q0:QS (newX s.q.B s.q.P).q
fb:∃R q,Fb s R q
section
variable{k:Tm}{s:XS}{n v:Int}{b:Nat}
theorem qHY(w:WX k s):∀y∈s.hl,0<=y/\y<64:=λy hy=>by(
obtain⟨h6,p,hp⟩:=uU.mp hy
have:=w.qs.ok.nm _ hp
lia)
theorem Fd.put(h:Fd s)(w:WX k s)(hr:0<s.rmX)(n0:0<=n)(n1:n<=64)(r:Ro (s.put n v)):Fd (s.put n v):=by obtain⟨R,q,d⟩:=h.fb;exact⟨h.pg.put w hr n0 n1,r,h.q0,_,_,d.put w hr n0 n1⟩
theorem Fd.mv(h:Fd s)(w:WX k s)(hr:0<s.rmX){p:Int}(hn:(n,p)∈s.q.V):Fd (s.put n (s.val p n)):=by(
obtain⟨I,S⟩:=w.qs.ok.nm _ hn
refine h.put w hr I S ?_
by_cases z:n=64
.subst z;have hi:=qHY w;obtain⟨N,O⟩:=qEH hi;have J:s.val p 64=XS.bits _:=kD rfl;rw[J];refine Ro.roll (g:=[]) h.ro h.pg w hr N O (by simp) (λm D d m6 _=>?_) (λm Z m1 d=>?_)
 .have:=w.qs.ok.nm _ d;rw[q3G hi this.1];exact hC (uU.mpr ⟨m6,D,d⟩)
 rw[q3G hi Z];refine kB λy=>?_;obtain⟨_,D,hp⟩:=uU.mp y;simp_all
exact h.ro.sheet h.pg w hr I (by lia))
theorem Fd.wip(h:Fd s)(w:WX k s)(hb:b<s.q.B)(nl:∀y∈s.q.V,¬y.2 / (s.q.P:Int)=(b:Int)):Fd (s.wip b):=by obtain⟨R,q,d⟩:=h.fb;exact⟨h.pg.wip w hb nl,h.ro.wip w nl,h.q0,d.wip w⟩
theorem Fb.forgs:∀{g:List Int} {s:XS},Fb s R q->Fb (s.forgs g) R q
| [],_,h=>h
|m::g,s,h=>Fb.forgs (g:=g) (s:=s.forg m) ⟨h.rows,h.rp,h.pr,h.fi,h.bo,h.nx⟩
theorem qEI:∀{g:List Int} {s:XS},(s.forgs g).q.B=s.q.B/\(s.forgs g).q.P=s.q.P
| [],_=>⟨rfl,rfl⟩
|m::g,s=>qEI (g:=g) (s:=s.forg m)
theorem Fd.room{X:Sx}(w:WX k X.s)(ok:X.g.Ok)(h:X.room k=(Y,r))(p:Fd X.s):Fd Y.s:=by(
unfold Sx.room at h
cases htk:X.s.tk k X.g with
|none=>simp_all
|some D=>
 rw[htk]at h;dsimp only at h;have f:=zQ ok htk;obtain⟨s',n,ms,z,Z,pg,N⟩:=q54 (λs' z=>Fd s') w f p (λs' ms n q I kp O S d J hr dk pg=>pg.mv I (by lia) d);rcases N with⟨e,_,_⟩|⟨e,_,nl⟩
 .rw[e]at h;cases h;exact pg
 rw[e]at h;dsimp only at h;split at h
 .lia
 cases h;exact pg.wip z.w (by rw[z.eB];exact f.b) nl)
theorem Fd.rooms:∀{i:Nat} {X Y:Sx} {r:Except Rf Unit},WX k X.s->X.g.Ok->X.rooms k i=some (Y,r)->Fd X.s->Fd Y.s
|0,X,Y,r,w,ok,h,p=>by
 unfold Sx.rooms at h;split at h
 .cases h;exact p
 cases h
|i+1,X,Y,r,w,ok,h,p=>by
 unfold Sx.rooms at h;split at h
 .cases h;exact p
 cases e:X.room k with
 |mk W o=>
  obtain⟨w',ok',_⟩:=q1M w ok e;have p':=Fd.room w ok e p;rw[e]at h;cases o with
  |error q=>cases h;exact p'
  |ok q=>exact Fd.rooms w' ok' h p'
theorem Fd.sheet{i:Nat}{X:Sx}(w:WX k X.s)(ok:X.g.Ok)(n0:0<=n)(n1:n<64)(h:X.ask k i n v=some (Y,r))(p:Fd X.s):Fd Y.s:=by(
unfold Sx.ask at h
cases e:X.rooms k i with
|none=>simp_all
|some I=>
 obtain⟨Z,o⟩:=I;obtain⟨D,_,_,_,_,rd⟩:=uB w ok e;have d:=Fd.rooms w ok e p;rw[e]at h;cases o with
 |error q=>lia
 |ok u=>
  dsimp only at h;split at h
  .lia
  cases h;have z:0<Z.s.rmX:=by have:=kP (rd rfl);lia
  exact d.put D z n0 (by lia) (d.ro.sheet d.pg D z n0 n1))
theorem Fd.roll{i:Nat}{X:Sx}{c:Nat}(w:WX k X.s)(ok:X.g.Ok)(hg:∀m∈g,m∈X.s.hl)(h:X.ask k i 64 (XS.bits (rst X.s.hl g))=some (Y,.ok c))(p:Fd X.s):Fd (Y.s.forgs g):=by(
unfold Sx.ask at h
cases e:X.rooms k i with
|none=>rw[e]at h;cases h
|some Zr=>
 obtain⟨Z,o⟩:=Zr;obtain⟨I,_,kp,_,_,rd⟩:=uB w ok e;have D:=Fd.rooms w ok e p;rw[e]at h;cases o with
 |error q=>cases h
 |ok u=>
  dsimp only at h;split at h
  .cases h
  cases h;have J:0<Z.s.rmX:=by have:=kP (rd rfl);lia
  have hi:∀y∈rst X.s.hl g,0<=y/\y<64:=λy hy=>qHY w y (mL.mp hy).1;have S:(64:Int)∉g:=λz=>(uU.mp (hg _ z)).1 rfl;obtain⟨v0,v1⟩:=qEH hi;obtain⟨R,q,O⟩:=D.fb;have O:=(O.put (v:=XS.bits (rst X.s.hl g)) I J (by decide) (gC 64)).forgs (g:=g);obtain⟨f1,f2⟩:=qEI (g:=g) (s:=Z.s.put 64 (XS.bits (rst X.s.hl g)));refine⟨(D.pg.put I J (by decide) (gC 64)).forgs λm d z=>S (z▸d),D.ro.roll D.pg I J v0 v1 S (λm N d m6 ng=>?_) (λm m0 m1 d=>?_),?_,_,_,O⟩
  .have:=I.qs.ok.nm _ d;rw[q3G hi this.1];refine hC (mL.mpr ⟨uU.mpr ⟨m6,(kp.nm m).mp ⟨N,d⟩⟩,?_⟩);rw[kB ng];rfl
  .rw[q3G hi m0];refine kB λy=>?_;obtain⟨y1,y2⟩:=mL.mp y;rcases d with d|d
   .obtain⟨N,hq⟩:=(kp.nm m).mpr (uU.mp y1).2;exact d N hq
   rw[hC d]at y2;cases y2
  show QS (newX ((Z.s.put 64 _).forgs g).q.B ((Z.s.put 64 _).forgs g).q.P).q;rw[f1,f2];exact D.q0)
end
theorem qK6{P:Nat}(h:QS (newX B P).q):Fd (newX B P):=⟨qHV,⟨λi v e=>(by cases e),λn p w p' w' h=>absurd (show _∈([])from h) (by simp),λi w e=>(by cases e)⟩,h,[],_,.nil,λi v e=>(by cases e),λr hr=>absurd hr (by simp),rfl,rfl,gC _⟩
theorem Rows.new(h:Rows q0 R q)(e:q0.V=[]):(∀y∈q.V,∃r∈R,y=(r.2.2,(r.2.1:Int))/\∀r'∈R,r'.2.2=y.1->mkR r'<=mkR r)/\(∀r∈R,∃p,(r.2.2,p)∈q.V)/\∀r∈R,0<=r.2.2/\r.2.2<=64:=by(
induction h with
|nil=>exact⟨by rw[e];exact λy D=>absurd D (by simp),λr d=>absurd d (by simp),λr d=>absurd d (by simp)⟩
|@snoc R q r h f ih=>
 obtain⟨S,i2,Z⟩:=ih;have ep:r.2.1 / q.P*q.P+r.2.1%q.P=r.2.1:=by rw[dZ];exact sE _ _
 have eV:(q53 q r).V=jB q.V r.2.2++[(r.2.2,(r.2.1:Int))]:=by show jB q.V r.2.2++[(r.2.2,((r.2.1 / q.P*q.P+r.2.1%q.P:Nat):Int))]=_;rw[ep]
 have mk:=h.marks.1;have fs:=f.s;have n0:=f.n0;rw[eV];refine⟨λy D=>?_,λr' d=>?_,λr' d=>?_⟩
 .rcases gN.mp D with D|D
  .obtain⟨D,ne⟩:=qY.mp D;obtain⟨r1,a1,J,N⟩:=S y D;refine⟨r1,gG _ a1,J,λr' d I=>?_⟩;rcases gN.mp d with d|d
   .exact N r' d I
   rw[kE.mp d]at I;exact(ne I.symm).elim
  refine⟨r,by simp,kE.mp D,λr' d _=>?_⟩;rcases gN.mp d with d|d
  .have:=mk r' d;unfold mkR at this ⊢;lia
  rw[kE.mp d];exact gC _
 .by_cases z:r'.2.2=r.2.2
  .exact⟨(r.2.1:Int),mC _ (by rw[z];simp)⟩
  rcases gN.mp d with d|d
  .obtain⟨p,O⟩:=i2 r' d;exact⟨p,gG _ (qY.mpr ⟨O,z⟩)⟩
  exact(z (by rw[kE.mp d])).elim
 rcases gN.mp d with d|d
 .exact Z r' d
 rw[kE.mp d];exact⟨f.n0,f.n1⟩)
theorem q77{V:Mp}{n p:Int}(nd:(V.map (·.1)).Nodup)(h:(n,p)∈V)(h':(n,p')∈V):p=p':=by
 have:=(q55 nd h).symm.trans (q55 nd h');injection this with this
 injection this
theorem Fb.found{k:Tm}{s:XS}(h:Fb s R q)(d:Fd s)(w:WX k s)(tp:Top s){gl:List Int}(hg:gl.Perm ((hdN q.V).filter (gnB s.pg q.V))):(jI q gl).V.Perm s.q.V/\(jI q gl).lv=s.q.lv/\(jI q gl).fi=s.q.fi/\(jI q gl).bo=s.q.bo/\(jI q gl).nx=s.q.nx:=by(
have qs:=h.rows.qs d.q0
obtain⟨N1,N2,N3⟩:=h.rows.new rfl
have J:∀r∈R,mkR r%128=r.2.2:=λr D=>by have:=N3 r D;unfold mkR;lia
have A:∀y∈s.q.V,y∈q.V:=λy N=>by
 obtain⟨u,e1,e2,e3⟩:=d.pg.nw y N;obtain⟨r,D,er,em⟩:=h.rp _ _ e1;have Z:r.2.2=y.1:=by rw[<-J r D,em,e2]
 obtain⟨p,hp⟩:=N2 r D;obtain⟨r2,ac,ep,nw⟩:=N1 _ hp;injection ep with ep1 ep2
 obtain⟨u2,af⟩:=h.pr r2 ac;have l1:=nw r D rfl;have l2:=e3 _ _ af (by show mkR r2%128=_;rw[J r2 ac,<-ep1,Z]);have l2:mkR r2<=u.1:=l2;have:=d.pg.one _ _ _ _ af e1 (by show mkR r2 / 128=u.1 / 128;rw[show mkR r2=u.1 by lia]);obtain⟨c,f,_,_,_,ey,_⟩:=w.vl y N;have e5:p=y.2:=by rw[ep2,this];lia
 rw[show y=(r.2.2,p) by rw[Z,e5]];exact hp
have S:∀n,n∈gl↔n∈hdN q.V/\gnB s.pg q.V n=true:=λn=>by rw[hg.mem_iff,mL]
have val:∀{n p},(n,p)∈q.V->∃r∈R,p=(r.2.1:Int)/\n=r.2.2/\∃u,s.pg p.toNat=some (mkR r,u)/\vlP s.pg q.V n=(mkR r,u):=fun {n p} hp=>by
 obtain⟨r,D,ep,_⟩:=N1 _ hp;injection ep with ep1 ep2
 obtain⟨u,I⟩:=h.pr r D;have I:s.pg p.toNat=some (mkR r,u):=by rw[ep2,kQ];exact I
 exact⟨r,D,ep2,ep1,u,I,qAI qs.ok.nd hp I⟩
have pm:(jI q gl).V.Perm s.q.V:=by
 rw[q9Z];refine q1J (gK _ ((gT.mp qs.ok.nd).imp fun {a b} ne e=>ne (by rw[e]))) ((gT.mp w.qs.ok.nd).imp fun {a b} ne e=>ne (by rw[e])) λy=>?_;rw[mL,mD];constructor
 .rintro⟨N,ng⟩
  obtain⟨n,p⟩:=y;obtain⟨r,D,ep,Z,u,I,ev⟩:=val N;have ex:(∃p',(n,p')∈s.q.V)->(n,p)∈s.q.V:=λ⟨p',O⟩=>by rw[q77 qs.ok.nd N (A _ O)];exact O
  by_cases z:n=64
  .refine ex ?_;rw[z];exact d.pg.rl ⟨_,_,I,by show mkR r%128=64;rw[J r D,<-Z,z]⟩
  refine nG λno=>?_;have nm:mkR r%128=n:=by rw[J r D,<-Z]
  obtain⟨p6,w6,a1,a2,a3,a4⟩:=d.ro.of _ _ I (by show mkR r%128≠64;rw[nm];exact z) (λp' O=>no (ex ⟨p',by rw[<-nm];exact O⟩));refine ng ((S n).mpr ⟨uO.mpr ⟨z,p,N⟩,?_⟩);have a3:w6.2.toNat.testBit (mkR r%128).toNat=false:=a3;have a4:mkR r<w6.1:=a4;rw[nm]at a3;unfold gnB;rw[qAI qs.ok.nd (A _ a1) a2,ev,a3,hC a4,wC.mpr ⟨_,A _ a1,hC rfl⟩];rfl
 intro N;refine⟨A y N,λz=>?_⟩;obtain⟨n,p⟩:=y;obtain⟨z1,z2⟩:=(S n).mp z;have n6:=(uO.mp z1).1;obtain⟨r,D,ep,Z,u,I,ev⟩:=val (A _ N);unfold gnB at z2;rw[mQ,mQ]at z2;obtain⟨z2,z3,z4⟩:=z2;obtain⟨x,hx,ex⟩:=wC.mp z2;obtain⟨x1,x2⟩:=x;have ex:x1=64:=kP ex;subst ex;obtain⟨r6,aq,_,e6,u6,ae,an⟩:=val hx;obtain⟨p6,ad⟩:=d.pg.rl ⟨_,_,ae,by show mkR r6%128=64;rw[J r6 aq,<-e6]⟩;have:x2=p6:=q77 qs.ok.nd hx (A _ ad);subst this;rw[an]at z3 z4;rw[ev]at z4;have z4:=kP z4;rcases d.ro.on n x2 _ p _ ad ae N n6 I with y|y
 .rw[show((mkR r6,u6):Int×Int).2.toNat.testBit n.toNat=true from y]at z3;cases z3
 have y:mkR r6<mkR r:=y;have z4:mkR r<mkR r6:=z4;lia
obtain⟨f1,f2,f3,f4,f5,f6⟩:=q1N (l:=gl) qs
refine⟨pm,?_,f4.trans h.fi,f5.trans h.bo,f6.trans ?_⟩
.rw[f1.lvW,w.qs.lvW,f2,f3,show q.B=s.q.B from h.rows.sh.1,show q.P=s.q.P from h.rows.sh.2];exact qHD pm
have h1:=h.nx
rcases tp with e|⟨n,p,u,hp,I,et⟩
.have:=(Rows.nx1 h.rows (gC 1));lia
obtain⟨r,D,_,em⟩:=h.rp _ _ I
have:=h.rows.marks.1 r D
lia)
end W1
namespace L2
open PySem PySem.Spec PyProof.Rows
section
variable{X:Cx}
theorem qFE:MtR X "int.bit_length" (λx vs H Q=>∃i,x=.int i/\vs=[]/\Q (.int (Builtin.Int.intBits i)) H):=by(
intro pins s σ H x xs v D Q I d z h
obtain⟨i,rfl,rfl,q⟩:=h
obtain⟨t,rfl⟩:=d
cases z
exact PyProof.Rows.call_int_bit_length ⟨.int _,H,I.tok _,⟨_,rfl⟩,q⟩)
end
end L2
namespace W1
open PySem L2
structure R8(k:Tm)(sh:Int)(sr:Nat)(X:Sx)(j:Nat):Prop where
x:Ix k X.s
ge:(1+k.ie)*X.s.q.P<=X.s.rmX
ok:X.g.Ok
lf:X.s.lf=none
fd:Fd X.s
tp:Top X.s
nm:∀m∈hdN X.s.q.V,0<=m/\m<sh
hd:(hdN X.s.q.V).length<=sr
hs:sr+2<=(X.s.q.B-(1+k.ie))*X.s.q.P
s5:sr<=50
s6:sh<=64
rcn:X.s.rc.length<=300*j
psn:X.ps.length<=20*j
section
variable{k:Tm}{sh:Int}{sr:Nat}{X:Sx}{j:Nat}{n v:Int}
theorem qD8{s:XS}(w:WX k s):(hdN s.q.V).Nodup:=gK _ w.qs.ok.nd
theorem qEJ{V:Mp}(nd:(V.map (·.1)).Nodup):V.length<=(hdN V).length+1/\((∃p,((64:Int),p)∈V)\/V.length<=(hdN V).length):=by(
refine⟨qMM nd,?_⟩
by_cases z:∃p,((64),p)∈V
.exact .inl z
refine .inr ?_
unfold hdN
rw[rA.mpr,kI]
.exact kO _
intro a d
obtain⟨y,D,rfl⟩:=kZ.mp d
exact hC λe=>z ⟨y.2,by rw[<-e];exact D⟩)
theorem R8.asked(h:R8 k sh sr X j)(n0:0<=n)(n1:n<=64)(hl:(∃p,(n,p)∈X.s.q.V)\/X.s.q.V.length<=sr):((∃p,(n,p)∈X.s.q.V)\/X.s.q.V.length<59)/\∃Y qs p,X.ask k 17 n v=some (Y,.ok p)/\AskO k 17 X n v Y qs p/\Y.s.lf=none/\Y.s.rc.length<=300*(j+1)/\Y.ps.length<=20*(j+1):=by(
have d:=h.hs
have J:=h.s5
refine⟨hl.imp id λz=>by lia,?_⟩
rcases q74 (n:=n) (v:=v) h.x (Wt.of h.ge) h.ok (q75 h.x) n0 n1 (hl.imp id λz=>⟨by lia,by lia⟩)with⟨Y,qs,p,hZ,a⟩|⟨Y,qs,hZ,a⟩
.have I:=a.rl;have D:=a.ln;have O:=q75 h.x;have N:=h.rcn;have r2:=h.psn;refine⟨Y,qs,p,hZ,a,q76 h.x.w h.ok hZ h.lf,by lia,?_⟩;rw[a.ps,mI];lia
have:=q76 h.x.w h.ok hZ h.lf
rw[a.lf]at this
cases this)
theorem R8.sheet(h:R8 k sh sr X j)(n0:0<=n)(n1:n<sh)(nf:¬(n∉hdN X.s.q.V/\sr<=(hdN X.s.q.V).length)):((∃p,(n,p)∈X.s.q.V)\/X.s.q.V.length<59)/\∃Y p,X.ask k 17 n v=some (Y,.ok p)/\R8 k sh sr Y (j+1)/\Y.s.q.B=X.s.q.B/\Y.s.q.P=X.s.q.P:=by(
have J:=h.s6
have N:=h.hd
obtain⟨S,O⟩:=qEJ h.x.w.qs.ok.nd
obtain⟨hl,Y,qs,p,D,a,lf,rc,ps⟩:=h.asked (n:=n) (v:=v) n0 (by lia) (by
 by_cases z:n∈hdN X.s.q.V
 .exact .inl (uO.mp z).2
 have:¬sr<=(hdN X.s.q.V).length:=λy=>nf ⟨z,y⟩;exact .inr (by lia))
have I:∀m,m∈hdN Y.s.q.V↔m=n\/m∈hdN X.s.q.V:=λm=>by
 rw[uO,uO,a.nm m];constructor
 .rintro⟨m6,e|e⟩
  .exact .inl e
  exact .inr ⟨m6,e⟩
 rintro(e|⟨m6,e⟩)
 .exact⟨by lia,.inl e⟩
 exact⟨m6,.inr e⟩
refine⟨hl,Y,p,D,⟨a.x,a.ge,a.ok,lf,Fd.sheet h.x.w h.ok n0 (by lia) D h.fd,.inr ⟨n,qEE n0 (by lia) D⟩,λm d=>?_,?_,by rw[a.eB,a.eP];exact h.hs,h.s5,J,rc,ps⟩,a.eB,a.eP⟩
.rcases(I m).mp d with e|d
 .lia
 exact h.nm m d
by_cases z:n∈hdN X.s.q.V
.exact mO (q9Q (qD8 a.x.w) λm d=>by
  rcases(I m).mp d with e|d
  .rw[e];exact z
  exact d) N
have:¬sr<=(hdN X.s.q.V).length:=λy=>nf ⟨z,y⟩
have:=q9Q (m:=n::hdN X.s.q.V) (qD8 a.x.w) λm d=>by
 rcases(I m).mp d with e|d
 .rw[e];exact kY
 exact hG _ d
rw[mP]at this
lia)
theorem R8.give(h:R8 k sh sr X j)(hg:∀m∈g,m∈X.s.hl):((∃p,((64:Int),p)∈X.s.q.V)\/X.s.q.V.length<59)/\∃Y p,X.ask k 17 64 (XS.bits (rst X.s.hl g))=some (Y,.ok p)/\R8 k sh sr ⟨Y.s.forgs g,Y.g,Y.ps⟩ (j+1)/\(Y.s.forgs g).q.B=X.s.q.B/\(Y.s.forgs g).q.P=X.s.q.P:=by(
have hd:=h.hd
obtain⟨l1,Z⟩:=qEJ h.x.w.qs.ok.nd
obtain⟨hl,Y,qs,p,I,a,lf,rc,ps⟩:=h.asked (n:=64) (v:=XS.bits (rst X.s.hl g)) (by decide) (by decide) (Z.imp id λz=>by lia)
obtain⟨N,f2,f3,f4,f5,O,D,f8,_⟩:=qD7 a.x g
have g6:(64:Int)∉g:=λz=>(uU.mp (hg _ z)).1 rfl
have d:∀m∈hdN (Y.s.forgs g).q.V,m∈hdN X.s.q.V:=λm J=>by
 obtain⟨S,e⟩:=uO.mp J;rcases(a.nm m).mp ((f8 m).mp e).2 with e|e
 .exact(S e).elim
 exact uO.mpr ⟨S,e⟩
refine⟨hl,Y,p,I,⟨N,?_,a.ok,f5.trans lf,Fd.roll h.x.w h.ok hg I h.fd,.inr ⟨64,(qEE (by decide) (by decide) I).forgs g6⟩,λm J=>h.nm m (d m J),mO (q9Q (qD8 N.w) d) hd,?_,h.s5,h.s6,by show(Y.s.forgs g).rc.length<=_;rw[f3];exact rc,ps⟩,O.trans a.eB,D.trans a.eP⟩
.show(1+k.ie)*(Y.s.forgs g).q.P<=(Y.s.forgs g).rmX;rw[f2,D];exact a.ge
rw[O,D,a.eB,a.eP]
exact h.hs)
end
theorem R8.new{k:Tm}{sh:Int}{P:Nat}{g:Rl}(b2:B<=16)(p1:1<=P)(p2:P<=16)(hk:1+k.ie<B)(s1:1<=k.sp)(ok:g.Ok)(hs:sr+2<=(B-(1+k.ie))*P)(s5:sr<=50)(s6:sh<=64):R8 k sh sr ⟨newX B P,g,[]⟩ 0:=by obtain⟨x,z⟩:=qJX  b2 p1 p2 hk s1;exact⟨x,z,ok,rfl,qK6 x.w.qs,.inl rfl,λm d=>absurd d (by simp[hdN,newX]),by simp[hdN,newX],hs,s5,s6,kO _,kO _⟩
noncomputable def XS.vv(s:XS)(V:Mp):XS:={ s with q:={ s.q with V:=V } }
section
variable{k:Tm}{s:XS}{V:Mp}{n v:Int}{b:Nat}
theorem qEK{V W:Mp}(nd:(W.map (·.1)).Nodup)(pm:V.Perm W)(n:Int):(V.find? λx=>decide (x.1=n))=W.find? λx=>decide (x.1=n):=by(
have d:=(pm.map _).nodup_iff.mpr nd
cases e:W.find? λx=>decide (x.1=n)with
|none=>rw[dA]at e ⊢;exact λx z=>e x (pm.mem_iff.mp z)
|some y=>have h1:=kP (g4 (p:=λx:Int×Int=>decide _) e);have h2:=pm.mem_iff.mpr (gR e);obtain⟨D,I⟩:=y;subst h1;exact q55 d h2)
theorem qHZ(nd:(s.q.V.map (·.1)).Nodup)(pm:V.Perm s.q.V):∃W,(s.vv V).put n v=(s.put n v).vv W/\W.Perm (s.put n v).q.V:=by(
refine⟨jB V n++[(n,(s.np:Int))],?_,(pm.filter _).append_right _⟩
have e:BM.lvF s.q.P V s.q.lv n=BM.lvF s.q.P s.q.V s.q.lv n:=by unfold BM.lvF;rw[qEK nd pm]
unfold XS.put XS.vv QM.put
rw[e]
rfl)
theorem qI0(nd:(s.q.V.map (·.1)).Nodup):((s.put n v).q.V.map (·.1)).Nodup:=by(
show((jB _ n++[(n,((s.pb*s.q.P+s.pf):Int))]).map _).Nodup
rw[m8]
refine dO.mpr ⟨rD (cV _ rW) nd,by simp,λa z c d e=>?_⟩
obtain⟨y,D,rfl⟩:=kZ.mp z
have d:=by simpa using d
exact(qY.mp D).2 (e.trans d))
theorem q82(pm:V.Perm s.q.V):(s.vv V).hl=s.hl:=by(
have d:=λl=>by
 have:=wZ (le:=λa b=>decide (a<=b)) (λa b c h1 h2=>hC (r9 (kP h1) (kP h2))) (λa b=>by
  by_cases z:a<=b
  .rw[hC z];rfl
  rw[kB z,hC (show b<=a by lia)];rfl) l
 exact this.imp λz=>kP z
exact q52 ((wT _ _).trans (((pm.map _).filter _).trans (wT _ _).symm)) (d _) (d _))
theorem qI1:∀{L:List (List Int)} {s:XS} {V:Mp},(s.q.V.map (·.1)).Nodup->V.Perm s.q.V->∃W,XS.mvs L (s.vv V)=((XS.mvs L s).1.vv W,(XS.mvs L s).2)/\W.Perm (XS.mvs L s).1.q.V
| [],s,V,nd,pm=>⟨V,rfl,pm⟩
|y::L,s,V,nd,pm=>by
 unfold XS.mvs;by_cases z:s.lf=some 0
 .rw[kD z,kD (show(s.vv V).lf=some 0 from z)];exact⟨V,rfl,pm⟩
 rw[hU z,hU (show ¬(s.vv V).lf=some 0 from z)];have ev:(s.vv V).val (y.getD 0 0) (y.getD 1 0)=s.val (y.getD 0 0) (y.getD 1 0):=by unfold XS.val;rw[q82 pm];rfl
 rw[ev];obtain⟨W,e,J⟩:=qHZ (n:=y.getD 1 0) (v:=s.val (y.getD 0 0) (y.getD 1 0)) nd pm;rw[e];obtain⟨D,I,d⟩:=qI1 (L:=L) (s:=s.put (y.getD 1 0) (s.val (y.getD 0 0) (y.getD 1 0))) (qI0 nd) J;rw[I];cases h:XS.mvs L (s.put (y.getD 1 0) (s.val (y.getD 0 0) (y.getD 1 0)))with
 |mk a o=>
  rw[h]at d;cases o with
  |none=>exact⟨D,rfl,d⟩
  |some ms=>exact⟨D,rfl,d⟩
theorem qMT{P b:Nat}{V W:Mp}(pd:(W.map (·.2)).Nodup)(pm:V.Perm W):lvP P b V=lvP P b W:=by(
unfold lvP
refine dW (λf=>(List.range P).filterMap f) (funext λf=>?_)
refine dW _ ?_
generalize ((b*P+f:Nat):Int)=c
cases e:W.find? λy=>decide (y.2=c)with
|none=>rw[dA]at e ⊢;exact λx N=>e x (pm.mem_iff.mp N)
|some y=>
 have h1:y.2=c:=kP (g4 (p:=λx:Int×Int=>decide (x.2=c)) e);have h2:=gR e;cases e':V.find? λy=>decide (y.2=c)with
 |none=>exact absurd (hC h1) (dA.mp e' _ (pm.mem_iff.mpr h2))
 |some z=>
  have d:z.2=c:=kP (g4 (p:=λx:Int×Int=>decide (x.2=c)) e');have O:=pm.mem_iff.mp (gR e');congr 1;have:∀{W:Mp},(W.map (·.2)).Nodup->y∈W->z∈W->z=y:=by
   intro W;induction W with
   |nil=>intro _ h;exact absurd h (by simp)
   |cons w W S=>
    intro D a b;rw[mV]at D;obtain⟨I,J⟩:=gD.mp D;rcases kM.mp a with a|a<;>rcases kM.mp b with b|b
    .rw[a,b]
    .exact(I (kZ.mpr ⟨_,b,by rw[<-a,h1,d]⟩)).elim
    .exact(I (kZ.mpr ⟨_,a,by rw[<-b,h1,d]⟩)).elim
    exact S J a b
  exact this pd h2 O)
structure Sm(X X':Sx):Prop where
s:∃V,X'.s=X.s.vv V/\V.Perm X.s.q.V
g:X'.g=X.g
theorem qNX:(s.vv V).tk k g=s.tk k g:=rfl
theorem Sm.room(h:Sm X X')(w:WX k X.s)(e:X.room k=(Y,r)):∃Y',X'.room k=(Y',r)/\Sm Y Y':=by(
obtain⟨⟨V,es,I⟩,eg⟩:=h
unfold Sx.room at e ⊢
rw[es,eg,qNX]
cases htk:X.s.tk k X.g with
|none=>rw[htk]at e;cases e;exact⟨_,rfl,⟨V,es,I⟩,eg⟩
|some D=>
 obtain⟨y,b,g'⟩:=D;rw[htk]at e;dsimp only at e ⊢;have N:lvP (X.s.vv V).q.P b (X.s.vv V).q.V=lvP X.s.q.P b X.s.q.V:=qMT w.pd I;rw[N];obtain⟨W,J,d⟩:=qI1 (L:=lvP X.s.q.P b X.s.q.V) w.qs.ok.nd I;rw[J];cases hm:XS.mvs (lvP X.s.q.P b X.s.q.V) X.s with
 |mk s' o=>
  rw[hm]at e d;cases o with
  |none=>cases e;exact⟨_,rfl,⟨W,rfl,d⟩,rfl⟩
  |some ms=>
   dsimp only at e ⊢;by_cases z:s'.lf=some 0
   .rw[kD z]at e;rw[kD (show(s'.vv W).lf=some 0 from z)];cases e;exact⟨_,rfl,⟨W,rfl,d⟩,rfl⟩
   rw[hU z]at e;rw[hU (show ¬(s'.vv W).lf=some 0 from z)];cases e;exact⟨_,rfl,⟨W,rfl,d⟩,rfl⟩)
theorem Sm.rd(h:Sm X X'):X'.s.rd k=X.s.rd k:=by obtain⟨⟨V,es,_⟩,_⟩:=h;rw[es];rfl
set_option tactic.hygienic true in
theorem Sm.rooms:∀{i:Nat} {X X' Y:Sx} {r:Except Rf Unit},Sm X X'->WX k X.s->X.g.Ok->X.rooms k i=some (Y,r)->∃Y',X'.rooms k i=some (Y',r)/\Sm Y Y'
|0,X,X',Y,r,h,w,ok,e=>by
 unfold Sx.rooms at e ⊢;rw[h.rd];split at e
 .rename_i z;cases e;rw[kD z];exact⟨_,rfl,h⟩
 cases e
|i+1,X,X',Y,r,h,w,ok,e=>by
 unfold Sx.rooms at e ⊢;rw[h.rd];split at e
 .rename_i z;cases e;rw[kD z];exact⟨_,rfl,h⟩
 rename_i z;rw[hU z];cases er:X.room k with
 |mk Z o=>
  obtain⟨Z',e',h'⟩:=h.room w er;obtain⟨w',ok',_⟩:=q1M w ok er;rw[er]at e;rw[e'];cases o with
  |error q=>cases e;exact⟨_,rfl,h'⟩
  |ok q=>exact Sm.rooms h' w' ok' e
theorem Sm.ask{i:Nat}(h:Sm X X')(w:WX k X.s)(ok:X.g.Ok)(e:X.ask k i n v=some (Y,r)):∃Y',X'.ask k i n v=some (Y',r)/\Sm Y Y':=by(
unfold Sx.ask at e ⊢
cases er:X.rooms k i with
|none=>rw[er]at e;cases e
|some O=>
 obtain⟨Z,o⟩:=O;obtain⟨S,N,h'⟩:=h.rooms w ok er;obtain⟨J,_⟩:=uB w ok er;rw[er]at e;rw[N];cases o with
 |error q=>grind
 |ok u=>
  obtain⟨⟨V,es,d⟩,eg⟩:=h';dsimp only at e ⊢;rw[es];by_cases z:Z.s.lf=some 0
  .rw[kD z]at e;rw[kD (show(Z.s.vv V).lf=some 0 from z)];cases e;exact⟨_,rfl,⟨V,es,d⟩,eg⟩
  rw[hU z]at e;rw[hU (show ¬(Z.s.vv V).lf=some 0 from z)];cases e;obtain⟨W,D,I⟩:=qHZ (n:=n) (v:=v) J.qs.ok.nd d;exact⟨_,rfl,⟨W,D,I⟩,eg⟩)
end
section
variable{k:Tm}{s:XS}{n v p:Int}{b:Nat}
theorem qI2(nr:s.rmX<=(1+k.ie)*s.q.P):s.spc k=(s.rmX:Int)-(k.ie*s.q.P:Nat):=by(
unfold XS.spc
by_cases z:(1+k.ie)*s.q.P<=s.rmX
.rw[kD z];have e:=Nat.le_antisymm nr z;rw[e,rP,rQ];lia
rw[hU z])
structure Mv1(k:Tm)(s s':XS)(b:Nat):Prop where
nr:s'.rmX<=(1+k.ie)*s'.q.P/\s'.rd k=false
sp:s'.spc k=s.spc k-1
fu:Full k s' b/\s'.q.lv.getD b 0<(s'.q.P:Int)
l1:1<=s.q.lv.getD b 0
lb:s'.q.lv.getD b 0=s.q.lv.getD b 0-1
bb:s'.q.bo.getD b 0=s.q.bo.getD b 0
ot:∀c,c≠b->Full k s' c->Full k s c/\s'.q.lv.getD c 0=s.q.lv.getD c 0/\s'.q.bo.getD c 0=s.q.bo.getD c 0
nx:s'.q.nx=s.q.nx+1
cl:s'.cl=s.cl
eP:s'.q.P=s.q.P
theorem mv_1(w:WX k s)(f:Full k s b)(hn:(n,p)∈s.q.V)(hp:p / (s.q.P:Int)=(b:Int))(nr:s.rmX<=(1+k.ie)*s.q.P):Mv1 k s (s.put n v) b:=by(
have p1:=w.qs.ok.p1
have spc:=qI2 (k:=k) nr
have fl:=f.l
have nm:=w.qs.ok.nm _ hn
have cn:1<=cntB s.q.P s.q.V b:=by rw[q51 w.qs.ok.nd hn,kD hp];lia
have az:=w.qs.lv b f.b
have h0:0<s.rmX:=by lia
obtain⟨hb,hf,ef,sp,_⟩:=w.spot h0
have a0:(s.put n v).rmX+1=s.rmX:=qHF hb w.qs.ok.lf ef hf
have J:∀c,(s.put n v).q.fi.getD c 0=if s.pb=c then(s.pf:Int)+1 else s.q.fi.getD c 0:=q7Z w.qs.ok.lf hb ef
have D:s.pb≠b:=λz=>by have:=f.f;rw[<-z,ef]at this;lia
have ad:=w.qs.put (n:=n) hb hf ef nm.1 nm.2
have S:∀c,c<s.q.B->(s.put n v).q.lv.getD c 0=s.q.lv.getD c 0-(if c=b then 1 else 0)+(if c=s.pb then 1 else 0):=λc I=>by
 have e1:(s.put n v).q.lv.getD c 0=(cntB s.q.P (jB s.q.V n++[(n,((s.pb*s.q.P+s.pf:Nat):Int))]) c:Nat):=ad.lv c I;have e2:=w.qs.lv c I;have e3:=q51 (P:=s.q.P) (b:=c) w.qs.ok.nd hn;have e4:cntB s.q.P (jB s.q.V n++[(n,((s.pb*s.q.P+s.pf:Nat):Int))]) c=cntB s.q.P (jB s.q.V n) c+if s.pb=c then 1 else 0:=by
  unfold cntB;rw[xQ,lP,<-g7,jZ hf];by_cases z:s.pb=c
  .rw[kD z,hC (by rw[z])];rfl
  rw[hU z,kB (λy=>z (by exact rM y))];rfl
 rw[e1,e2,e4,e3,hp];by_cases O:c=b<;>by_cases Z:c=s.pb
 .exact(D (Z.symm.trans O)).elim
 .rw[kD O,hU Z,hU (λy=>Z y.symm),kD (by rw[O])];lia
 .rw[hU O,kD Z,kD Z.symm,hU (λy=>O (by exact(rM y).symm))];lia
 rw[hU O,hU Z,hU (λy=>Z y.symm),hU (λy=>O (by exact(rM y).symm))];lia
have ab:(s.put n v).rmX<=(1+k.ie)*(s.put n v).q.P:=by show(s.put n v).rmX<=(1+k.ie)*s.q.P;lia
have N:=qI2 (k:=k) ab
have aa:(s.put n v).spc k=s.spc k-1:=by rw[N,spc];show((s.put n v).rmX:Int)-(k.ie*s.q.P:Nat)=_;lia
have ac:∀c,c≠s.pb->(s.put n v).q.bo.getD c 0=s.q.bo.getD c 0:=λc I=>by
 show(if s.q.fi.getD s.pb 0=0 then s.q.bo.set s.pb s.q.nx else s.q.bo).getD c 0=_;split
 .rw[jA,hU λz=>I z.1.symm]
 rfl
have lb:(s.put n v).q.lv.getD b 0=s.q.lv.getD b 0-1:=by rw[S b f.b,kD rfl,hU (λz=>D z.symm)];lia
have lp:=q1L w.qs w.pd f.b
have a6:=q5Q (P:=s.q.P) (b:=b) (V:=s.q.V)
refine⟨⟨ab,?_⟩,aa,⟨⟨f.b,?_,by rw[lb,aa];lia⟩,by rw[lb];show _ <(s.q.P:Int);lia⟩,by lia,lb,ac b λz=>D z.symm,λc cb fc=>?_,rfl,rfl,rfl⟩
.exact kB (by show ¬(1+k.ie)*s.q.P<(s.put n v).rmX;lia)
.rw[J,hU D];exact f.f
have I:c<s.q.B:=fc.b
have ff:=fc.f
have ll:=fc.l
have cp:c≠s.pb:=λz=>by
 rw[J,kD z.symm]at ff;have ff:(s.pf:Int)+1=(s.q.P:Int):=ff;have aq:=ad.ok.wr;obtain⟨l,hl⟩:=FreeIs.ex s.q.B (noB s.q.B) s.cl (s.put n v).q.fi;have al:OneP s.q.B s.q.P (s.put n v).q.fi:=qE9 w.on hb w.qs.ok.lf sp;have re:=qKW (B:=s.q.B) (P:=s.q.P) (fi:=(s.put n v).q.fi) al aq p1 hl;have pn:jP s.q.B s.q.P (noB s.q.B) (s.put n v).q.fi=none:=by
  cases e:jP s.q.B s.q.P (noB s.q.B) (s.put n v).q.fi with
  |none=>rfl
  |some d=>
   obtain⟨d1,d2,d3⟩:=q2H e;rw[J]at d2 d3;by_cases y:s.pb=d
   .rw[kD y]at d3;lia
   rw[hU y]at d2 d3;have pd:jU s.q.P s.q.fi d=true:=by unfold jU;rw[hC d2,hC d3];rfl
   rcases sp with sp|⟨sp,_⟩
   .obtain⟨q1,q2,q3⟩:=q2H sp;exact(y (w.on _ _ q1 d1 (by unfold jU;rw[hC q2,hC q3];rfl) pd)).elim
   unfold jP at sp;have:=dA.mp sp d (zZ.mpr ⟨d1,rep8⟩);exact(this pd).elim
 rw[pn]at re;have re:(s.put n v).rmX=l.length*s.q.P:=re;have lt:l.length*s.q.P<(1+k.ie)*s.q.P:=by rw[<-re];lia
 have lt:=Nat.lt_of_mul_lt_mul_right lt;have le:=g8 s.q.P (show l.length<=k.ie by lia);rw[N]at ll;have ll:(s.put n v).q.lv.getD c 0<=((s.put n v).rmX:Int)-(k.ie*s.q.P:Nat):=ll;have h1:=S c I;rw[hU cb,kD z]at h1;have h2:=w.qs.lv c I;lia
have h1:=S c I
rw[hU cb,hU cp]at h1
refine⟨⟨I,?_,?_⟩,by rw[h1];lia,ac c cp⟩
.rw[J,hU λz=>cp z.symm]at ff;exact ff
rw[h1,aa]at ll
lia)
theorem qNY{f:Tl->Int}{C:List Tl}(so:C.Pairwise λa c=>a.b<c.b)(hA:A∈C)(le:∀o∈C,f A<f o\/(f A<=f o/\A.b<=o.b)):pk f C=A.b:=by(
obtain⟨i,hi,rfl⟩:=d9 hA
refine qDV hi (zP.mpr λo d=>by rcases le o d with h|h<;>lia) λj D=>?_
cases z:unb f C (C[j]'(by lia))with
|false=>rfl
|true=>exfalso;have h1:=zP.mp z C[i] (gO _);have h2:=rB.mp so j i (by lia) hi D;rcases le (C[j]'(by lia)) (gO _)with h|h<;>lia)
theorem qI3{f:Tl->Int}{C:List Tl}(so:C.Pairwise λa c=>a.b<c.b)(ne:C≠[]):∃A∈C,pk f C=A.b/\∀o∈C,f A<f o\/(f A<=f o/\A.b<=o.b):=by(
obtain⟨i,hi,u,D⟩:=q3W f C ne
refine⟨C[i],gO _,qDV hi u D,λo d=>?_⟩
obtain⟨j,I,rfl⟩:=d9 d
have h1:=zP.mp u C[j] (gO _)
by_cases z:i<=j
.refine .inr ⟨h1,?_⟩;by_cases y:i=j
 .subst y;exact gC _
 have:=rB.mp so i j hi I (by lia);lia
refine .inl ?_
have J:=D j (by lia)
refine dE λy=>?_
have:unb f C C[j]=true:=zP.mpr λo d=>r9 (by lia) (zP.mp u o d)
simp_all)
theorem qI4:(s.ots k).Pairwise λa c=>a.b<c.b:=by(
unfold XS.ots
rw[gT]
have:(s.opt k).Pairwise (· < ·):=by
 unfold XS.opt XS.clb XS.ded XS.ful;split
 .exact gK _ (gK _ (gK _ dH))
 exact gK _ (gK _ dH)
refine this.imp fun {a c} h=>?_
show(a:Int)<(c)
lia)
theorem Rows.age(h:Rows q0 R q)(qs:QS q0)(h0:∀b,q0.fi.getD b 0=0):∀b,0<q.fi.getD b 0->q.bo.getD b 0+q.fi.getD b 0<=q.nx:=by(
induction h with
|nil=>exact λb d=>by rw[h0]at d;lia
|@snoc R q r h f ih=>
 intro b d;have fs:=f.s;have ok:=(h.qs qs).ok;have I:=f.b;have d:0<(q.fi.set (r.2.1 / q.P) (q.fi.getD (r.2.1 / q.P) 0+1)).getD b 0:=d;show(if q.fi.getD (r.2.1 / q.P) 0=0 then q.bo.set (r.2.1 / q.P) r.1 else q.bo).getD b 0+(q.fi.set (r.2.1 / q.P) (q.fi.getD (r.2.1 / q.P) 0+1)).getD b 0<=r.1+1;have N:=f.f;have J:(q.fi.set (r.2.1 / q.P) (q.fi.getD (r.2.1 / q.P) 0+1)).getD b 0=if r.2.1 / q.P=b then q.fi.getD b 0+1 else q.fi.getD b 0:=by
  rw[jA];by_cases z:r.2.1 / q.P=b
  .rw[kD ⟨z,by rw[ok.lf];exact I⟩,kD z,z]
  rw[hU λy=>z y.1,hU z]
 have D:(q.bo.set (r.2.1 / q.P) r.1).getD b 0=if r.2.1 / q.P=b then r.1 else q.bo.getD b 0:=by
  rw[jA];by_cases z:r.2.1 / q.P=b
  .rw[kD ⟨z,by rw[ok.lo];exact I⟩,kD z]
  rw[hU λy=>z y.1,hU z]
 rw[J]at d ⊢;by_cases z:r.2.1 / q.P=b
 .rw[kD z,z];rw[z]at N D;by_cases y:q.fi.getD b 0=0
  .rw[kD y,D,kD rfl,y];lia
  rw[hU y];have:=ih b (by lia);lia
 rw[hU z]at d ⊢;have:=ih b d;split
 .rw[D,hU z];lia
 lia)
theorem Fd.age(h:Fd s)(hb:0<s.q.fi.getD b 0):s.q.bo.getD b 0+s.q.fi.getD b 0<=s.q.nx:=by(
obtain⟨R,q,d⟩:=h.fb
have:=d.rows.age h.q0 (λb=>rep8) b (by rw[d.fi];exact hb)
rw[d.fi,d.bo]at this
exact r9 this d.nx)
theorem qI5{P a c:Int}(p1:1<=P)(p3:P<=3)(l1:1<=lb)(l2:lb<P)(c0:0<=lc)(c1:lc<=P)(ap:P<=a)(cp:0<=c)(h:(P-lc)*c*(P+lb)<=(P-lb)*a*(P+lc)):(P-lc)*(c+1)*(P+(lb-1))<(P-(lb-1))*(a+1)*(P+lc):=by(
have d:P=2\/P=3:=by lia
have hl:lb=1\/lb=2:=by lia
have z:lc=0\/lc=1\/lc=2\/lc=3:=by lia
rcases d with rfl|rfl<;>rcases hl with rfl|rfl<;>rcases z with rfl|rfl|rfl|rfl<;>lia)
noncomputable def Ahd(k:Tm)(f:Int->Int->Tl->Int):Prop:=∀s s':XS,∀b c,WX k s->Fd s->Full k s b->s.q.lv.getD b 0<(s.q.P:Int)->s.q.P<=3->Mv1 k s s' b->c≠b->Full k s c->s'.q.lv.getD c 0=s.q.lv.getD c 0->s'.q.bo.getD c 0=s.q.bo.getD c 0->(f s.q.P s.q.nx (s.tl b)<f s.q.P s.q.nx (s.tl c)\/(f s.q.P s.q.nx (s.tl b)<=f s.q.P s.q.nx (s.tl c)/\b<=c))->f s'.q.P s'.q.nx (s'.tl b)<f s'.q.P s'.q.nx (s'.tl c)\/(f s'.q.P s'.q.nx (s'.tl b)<=f s'.q.P s'.q.nx (s'.tl c)/\b<=c)
theorem tk_1{f:Int->Int->Tl->Int}{y:Str}(ah:Ahd k f)(p3:s.q.P<=3)(w:WX k s)(pg:Fd s)(h:s.tk k (.rk f)=some (y,b,g'))(m:Mv1 k s s' b):∃y',s'.tk k (.rk f)=some (y',b,.rk f):=by(
have fb:=zQ (g:=.rk f) trivial h
have S:s'.lst=s.lst:=by unfold XS.lst;rw[m.cl]
have Z:k.ev=true->s.cl.getD b 0<s.lst+k.sp:=by
 rcases vB (g:=.rk f) trivial h with⟨_,h1,_⟩|⟨_,_,_,_,_,h1,_⟩
 .exact(yQ.mp h1).2
 unfold XS.clb at h1;exact λ_=>kP (mL.mp h1).2
have N:b∈s'.opt k:=yQ.mpr ⟨m.fu,λe=>by rw[m.cl,S];exact Z e⟩
have oo:∀c,c∈s'.opt k->c≠b->c∈s.opt k/\Full k s c/\s'.q.lv.getD c 0=s.q.lv.getD c 0/\s'.q.bo.getD c 0=s.q.bo.getD c 0:=λc O ne=>by
 obtain⟨⟨h1,h2⟩,h3⟩:=yQ.mp O;obtain⟨d,D,I⟩:=m.ot c ne h1;refine⟨yQ.mpr ⟨⟨d,?_⟩,λe=>?_⟩,d,D,I⟩
 .rw[<-D,<-m.eP];exact h2
 have:=h3 e;rw[m.cl,S]at this;exact this
have ne:s'.opt k≠[]:=λz=>by rw[z]at N;cases N
have J:pk (f (s'.q.P:Int) s'.q.nx) (s'.ots k)=(b:Int):=by
 refine qNY (A:=s'.tl b) qI4 (kZ.mpr ⟨b,N,rfl⟩) λo ho=>?_;obtain⟨c,O,rfl⟩:=kZ.mp ho;by_cases z:c=b
 .subst z;exact .inr ⟨gC _,gC _⟩
 obtain⟨d,D,I,o4⟩:=oo c O z;rcases vB (g:=.rk f) trivial h with⟨_,h1,h2,_⟩|⟨_,_,e0,_⟩
 .have h2:(b:Int)=pk (f (s.q.P:Int) s.q.nx) (s.ots k):=h2;obtain⟨A,hA,eA,lA⟩:=qI3 (f:=f (s.q.P:Int) s.q.nx) (qI4 (s:=s) (k:=k)) (λz=>by have:s.tl b∈s.ots k:=kZ.mpr ⟨b,h1,rfl⟩;rw[z]at this;cases this);obtain⟨a,ha,rfl⟩:=kZ.mp hA;have:a=b:=by have e:(a:Int)=(b:Int):=eA.symm.trans h2.symm;exact rM e
  subst this;have:=lA _ (kZ.mpr ⟨c,d,rfl⟩);have q:=ah s s' a c w pg fb (yQ.mp h1).1.2 p3 m z D I o4 (this.imp id λy=>⟨y.1,by have:=y.2;have:(a:Int)<=(c:Int):=this;lia⟩);exact q.imp id λy=>⟨y.1,by show(a:Int)<=(c:Int);have:=y.2;lia⟩
 rw[e0]at d;cases d
refine⟨"rule",?_⟩
unfold XS.tk
rw[hU ne]
show some (Str.ofString "rule",(pk (f (s'.q.P:Int) s'.q.nx) (s'.ots k)).toNat,Rl.rk f)=_
rw[J,kQ])
theorem qK7:Ahd k (λz z=>Tl.lv):=λs s' b c z z z z z m ne z e1 z h=>by(
have lb:=m.lb
have h:s.q.lv.getD b 0<s.q.lv.getD c 0\/(s.q.lv.getD b 0<=s.q.lv.getD c 0/\b<=c):=h
refine .inl ?_
show s'.q.lv.getD b 0<s'.q.lv.getD c 0
lia)
theorem qK8:Ahd k (λz z=>Tl.bo):=λs s' b c z z z z z m ne z z e2 h=>by(
have bb:=m.bb
show s'.q.bo.getD b 0<s'.q.bo.getD c 0\/(s'.q.bo.getD b 0<=s'.q.bo.getD c 0/\b<=c)
rw[bb,e2]
exact h)
theorem qK9:Ahd k (λz z z=>0):=λs s' b c z z z z z m ne z z z h=>h
set_option tactic.hygienic true in
theorem qI6(w:WX k s)(f:Full k s b)(h:lvP s.q.P b s.q.V=k0::L):(∃n p,k0=[p,n]/\(n,p)∈s.q.V/\p / (s.q.P:Int)=(b:Int))/\∀v,lvP s.q.P b (s.put (k0.getD 1 0) v).q.V=L:=by(
have p1:=w.qs.ok.p1
have mem:∀{d:List Int},d∈lvP s.q.P b s.q.V↔∃y∈s.q.V,y.2 / (s.q.P:Int)=(b:Int)/\d=[y.2,y.1]:=q3E p1 w.pd
have nd:=q5P (P:=s.q.P) (b:=b) (V:=s.q.V)
have so:=qAF (P:=s.q.P) (b:=b) (V:=s.q.V)
rw[h]at nd so
obtain⟨n1,n2⟩:=gD.mp nd
obtain⟨y,D,hp,e⟩:=mem.mp (show k0∈lvP s.q.P b s.q.V by rw[h];exact kY)
obtain⟨n,p⟩:=y
have e:k0=[p,n]:=e
refine⟨⟨n,p,e,D,hp⟩,λv=>?_⟩
have eg:k0.getD 1 0=n:=by rw[e];rfl
rw[eg]
have cn:1<=cntB s.q.P s.q.V b:=by rw[q51 w.qs.ok.nd D,kD hp];lia
have ar:=w.qs.lv b f.b
have fl:=f.l
have h0:0<s.rmX:=by
 unfold XS.spc at fl;split at fl
 .rename_i z;have:=g8 s.q.P (show 1<=1+k.ie by lia);lia
 lia
obtain⟨hb,hf,ef,_⟩:=w.spot h0
have J:s.pb≠b:=λz=>by have:=f.f;rw[<-z,ef]at this;lia
have S:((s.put n v).q.V.map (λy:Int×Int=>y.2)).Nodup:=by
 show((jB s.q.V n++[(n,((s.pb*s.q.P+s.pf:Nat):Int))]).map (λy:Int×Int=>y.2)).Nodup;rw[m8];refine dO.mpr ⟨rD (cV _ rW) w.pd,by simp,λa ha c O=>?_⟩;obtain⟨y,D,rfl⟩:=kZ.mp ha;have O:c=((s.pb*s.q.P+s.pf:Nat):Int):=by simpa using O
 rw[O];intro z;obtain⟨c',g,w',a1,a2,a3,a4,a5⟩:=w.vl y (qY.mp D).1;rw[a3]at z;obtain⟨e1,I⟩:=q5O a2 hf (by exact rM z);rw[e1,ef]at a4;lia
refine(qEA (V:=(s.put n v).q.V) p1 S n2 (λd=>?_) ((g9.mp so).2.imp λz=>z.1)).symm
constructor
.intro hk;have N:d∈lvP s.q.P b s.q.V:=by rw[h];exact hG _ hk
 obtain⟨z,hz,Z,ez⟩:=mem.mp N;refine⟨z.1,z.2,ez,jH.mpr (.inr ⟨hz,λq=>?_⟩),Z⟩;have:z.2=p:=q77 w.qs.ok.nd (show(n,z.2)∈s.q.V by rw[<-q];exact hz) D;exact n1 (by rw[e,<-this,<-q,<-ez];exact hk)
rintro⟨n',p',e',hm,hq⟩
rcases jH.mp hm with z|⟨hm,ne⟩
.injection z with z1 z2
 rw[z2,<-g7,jZ hf]at hq;exact(J (rM hq)).elim
have:d∈lvP s.q.P b s.q.V:=mem.mpr ⟨(n',p'),hm,hq,e'⟩
rw[h]at this
rcases kM.mp this with z|z
.rw[z,e]at e';injection e' with e1 I
 injection I with I _
 exact(ne I.symm).elim
exact z)
theorem Sm.refl:Sm X ⟨X.s,X.g,ps⟩:=⟨⟨X.s.q.V,rfl,sX _⟩,rfl⟩
set_option tactic.hygienic true in
theorem q3Z:∀{i:Nat} {X:Sx} {z:Sx×Except Rf Unit},X.rooms k i=some z->X.rooms k (i+1)=some z
|0,X,z,h=>by
 unfold Sx.rooms at h ⊢;split at h
 .rename_i y;rw[kD y];exact h
 cases h
|i+1,X,z,h=>by
 unfold Sx.rooms at h;unfold Sx.rooms;split at h
 .rename_i y;rw[kD y];exact h
 rename_i y;rw[hU y];cases e:X.room k with
 |mk W o=>
  rw[e]at h;cases o with
  |error q=>exact h
  |ok q=>exact q3Z (i:=i) h
noncomputable def XS.wl(s:XS)(l:Option Int):XS:={ s with lf:=l }
noncomputable def Sx.wl(X:Sx)(l:Option Int):Sx:=⟨X.s.wl l,X.g,X.ps⟩
theorem qI7{i:Nat}{X:Sx}(h:X.rooms k i=some (Y,.ok u)):∃Z,(X.wl (some 0)).ask k i n v=some (Z,.error .dark)/\Z.s=X.s.wl (some 0)/\Z.s.rc=X.s.rc:=by(
have z:∃Z o,(X.wl (some 0)).rooms k i=some (Z,o)/\Z.s=X.s.wl (some 0)/\(o=.ok ()\/o=.error .dark):=by
 by_cases rd:X.s.rd k=true
 .refine⟨X.wl (some 0),.ok (),?_,rfl,.inl rfl⟩;cases i<;>(unfold Sx.rooms;rw[kD (show(X.wl (some 0)).s.rd k=true from rd)])
 cases i with
 |zero=>unfold Sx.rooms at h;rw[hU rd]at h;cases h
 |succ i=>
  unfold Sx.rooms at h ⊢;rw[hU rd]at h;rw[hU (show ¬(X.wl (some 0)).s.rd k=true from rd)];unfold Sx.room at h ⊢;rw[show(X.wl (some 0)).s.tk k (X.wl (some 0)).g=X.s.tk k X.g from rfl];cases htk:X.s.tk k X.g with
  |none=>rw[htk]at h;cases h
  |some d=>
   obtain⟨y,b,g'⟩:=d;dsimp only;rw[show lvP (X.wl (some 0)).s.q.P b (X.wl (some 0)).s.q.V=lvP X.s.q.P b X.s.q.V from rfl];cases lvP X.s.q.P b X.s.q.V with
   |nil=>exact⟨_,_,rfl,rfl,.inr rfl⟩
   |cons I L=>exact⟨_,_,rfl,rfl,.inr rfl⟩
obtain⟨Z,o,e,es,D⟩:=z
unfold Sx.ask
rw[e]
rcases D with rfl|rfl
.dsimp only;rw[kD (by rw[es];rfl)];exact⟨Z,rfl,es,by rw[es];rfl⟩
exact⟨Z,rfl,es,by rw[es];rfl⟩)
theorem qI8{i:Nat}{X:Sx}{c:Nat}(h:X.rooms k i=some (Y0,.ok ()))(e:(if Y0.s.lf=some 0 then some (Y0,Except.error Rf.dark)else some ((⟨Y0.s.put n v,Y0.g,Y0.ps⟩:Sx),Except.ok Y0.s.np))=some (Y,Except.ok c)):X.ask k i n v=some (Y,.ok c):=by unfold Sx.ask;rw[h];exact e
theorem qKA{i c:Nat}{X:Sx}{f:Int->Int->Tl->Int}(ah:Ahd k f)(p3:X.s.q.P<=3)(eg:X.g=.rk f)(w:WX k X.s)(pg:Fd X.s)(lf:X.s.lf=none)(h:X.ask k i n v=some (Y,.ok c)):∃Z r,(X.wl (some 1)).ask k i n v=some (Z,r)/\((r=.ok c/\Z.s=Y.s.wl (some 0)/\Y.s.rc.length=X.s.rc.length+1)\/(r=.error .dark/\(∃d,Z.s.rc=X.s.rc++[d])/\∀ps,∃Y',(⟨Z.s.wl none,.rk f,ps⟩:Sx).ask k i n v=some (Y',.ok c)/\Sm Y Y')):=by(
have h0:=h
unfold Sx.ask at h
cases N:X.rooms k i with
|none=>rw[N]at h;cases h
|some Zr=>
 obtain⟨Y0,o⟩:=Zr;rw[N]at h;cases o with
 |error q=>cases h
 |ok u=>
  dsimp only at h;have ao:X.g.Ok:=by rw[eg];trivial
  by_cases rd:X.s.rd k=true
  .have e0:X.rooms k i=some (X,.ok ()):=by cases i<;>(unfold Sx.rooms;rw[kD rd])
   rw[e0]at N;cases N;have S:(X.wl (some 1)).rooms k i=some (X.wl (some 1),.ok ()):=by cases i<;>(unfold Sx.rooms;rw[kD (show(X.wl (some 1)).s.rd k=true from rd)])
   rw[hU (by rw[lf];intro z;cases z)]at h;cases h;unfold Sx.ask;rw[S];refine⟨_,_,rfl,.inl ⟨rfl,rfl,?_⟩⟩;show(X.s.rc++[_]).length=_;rw[mI,gF]
  have nr:X.s.rmX<=(1+k.ie)*X.s.q.P:=by have:¬(1+k.ie)*X.s.q.P<X.s.rmX:=λz=>rd (hC z);lia
  cases i with
  |zero=>unfold Sx.rooms at N;rw[hU rd]at N;cases N
  |succ i=>
   have az:=N;unfold Sx.rooms at N;rw[hU rd]at N;cases D:X.room k with
   |mk W o=>
    rw[D]at N;cases o with
    |error q=>cases N
    |ok q=>
     have N:W.rooms k i=some (Y0,.ok u):=N;have wk:=q1M w ao D;have ag:=D;unfold Sx.room at D;cases htk:X.s.tk k X.g with
     |none=>rw[htk]at D;cases D
     |some am=>
      obtain⟨y,b,g'⟩:=am;rw[htk]at D;dsimp only at D;have O:X.s.tk k (.rk f)=some (y,b,g'):=by rw[<-eg];exact htk
      have fb:=zQ (g:=.rk f) trivial O;have ac:g'=.rk f:=by
       rcases vB (g:=.rk f) trivial O with⟨_,_,_,h4⟩|⟨_,_,_,h4,_⟩
       .exact h4
       exact h4
      cases hL:lvP X.s.q.P b X.s.q.V with
      |nil=>
       rw[hL]at D;have D:(if X.s.lf=some 0 then((⟨X.s,g',X.ps⟩:Sx),Except.error Rf.dark)else(⟨X.s.wip b,g',X.ps++[⟨y,X.s.ots k,b,[]⟩]⟩,Except.ok ⟨y,X.s.ots k,b,[]⟩))=(W,Except.ok q):=D;rw[hU (by rw[lf];intro z;cases z)]at D;cases D;obtain⟨Z,S,e2,e3⟩:=qI7 (n:=n) (v:=v) N;refine⟨Z,.error .dark,?_,.inr ⟨rfl,⟨(Str.ofString "wipe",(b:Int),true),by rw[e3];rfl⟩,λps=>?_⟩⟩
       .unfold Sx.ask at S ⊢;unfold Sx.rooms;rw[hU (show ¬(X.wl (some 1)).s.rd k=true from rd)];unfold Sx.room;rw[show(X.wl (some 1)).s.tk k (X.wl (some 1)).g=X.s.tk k X.g from rfl,htk];dsimp only;rw[show lvP (X.wl (some 1)).s.q.P b (X.wl (some 1)).s.q.V=lvP X.s.q.P b X.s.q.V from rfl,hL];exact S
       have es:Z.s.wl none=X.s.wip b:=by
        rw[e2];show(X.s.wip b).wl none=X.s.wip b;have:(X.s.wip b).lf=none:=by show X.s.lf.map _=none;rw[lf];rfl
        unfold XS.wl;rw[<-this]
       have aw:(⟨X.s.wip b,.rk f,ps⟩:Sx).rooms k (i+1)=(⟨X.s.wip b,.rk f,ps⟩:Sx).rooms k (i+1):=rfl;have hW:=qI8 (n:=n) (v:=v) (q3Z N) h;rw[es];obtain⟨Y',ea,sm⟩:=(Sm.refl (X:=⟨X.s.wip b,g',X.ps++[⟨y,X.s.ots k,b,[]⟩]⟩) (ps:=ps)).ask wk.1 wk.2.1 hW;rw[<-ac];exact⟨Y',ea,sm⟩
      |cons I L=>
       obtain⟨⟨n0,p0,ek,hm,hp⟩,lt⟩:=qI6 w fb hL;have S:I.getD 1 0=n0:=by rw[ek];rfl
       obtain⟨J,ad⟩:∃J,J=X.s.val (I.getD 0 0) (I.getD 1 0):=⟨_,rfl⟩;have m:Mv1 k X.s (X.s.put (I.getD 1 0) J) b:=by rw[S];exact mv_1 w fb hm hp nr
       have lt:=lt J;obtain⟨y',aa⟩:=tk_1 ah p3 w pg O m;rw[hL]at D;unfold XS.mvs at D;rw[hU (by rw[lf];intro z;cases z),<-ad]at D;have al:(X.s.put (I.getD 1 0) J).lf=none:=by show X.s.lf.map _=none;rw[lf];rfl
       have ab:(X.wl (some 1)).room k=(⟨(X.s.put (I.getD 1 0) J).wl (some 0),g',X.ps⟩,.error .dark):=by
        unfold Sx.room;rw[show(X.wl (some 1)).s.tk k (X.wl (some 1)).g=X.s.tk k X.g from rfl,htk];dsimp only;rw[show lvP (X.wl (some 1)).s.q.P b (X.wl (some 1)).s.q.V=lvP X.s.q.P b X.s.q.V from rfl,hL];unfold XS.mvs;rw[hU (show ¬(X.wl (some 1)).s.lf=some 0 by intro z;cases z)];rw[show(X.wl (some 1)).s.val (I.getD 0 0) (I.getD 1 0)=J from ad.symm];cases L with
        |nil=>rfl
        |cons k1 L=>rfl
       refine⟨⟨(X.s.put (I.getD 1 0) J).wl (some 0),g',X.ps⟩,.error .dark,?_,.inr ⟨rfl,⟨(Str.ofString "put",(X.s.np:Int),true),rfl⟩,λps=>?_⟩⟩
       .unfold Sx.ask;unfold Sx.rooms;rw[hU (show ¬(X.wl (some 1)).s.rd k=true from rd),ab]
       rw[show((X.s.put (I.getD 1 0) J).wl (some 0)).wl none=X.s.put (I.getD 1 0) J by show(X.s.put (I.getD 1 0) J).wl none=_;unfold XS.wl;rw[<-al]];cases hm2:XS.mvs L (X.s.put (I.getD 1 0) J)with
       |mk s2 o2=>
        rw[hm2]at D;cases o2 with
        |none=>cases D
        |some ms=>
         dsimp only at D;by_cases z:s2.lf=some 0
         .rw[kD z]at D;cases D
         rw[hU z]at D;cases D;have aj:(⟨X.s.put (I.getD 1 0) J,.rk f,ps⟩:Sx).room k=(⟨s2.wip b,.rk f,ps++[⟨y',(X.s.put (I.getD 1 0) J).ots k,b,ms⟩]⟩,.ok ⟨y',(X.s.put (I.getD 1 0) J).ots k,b,ms⟩):=by unfold Sx.room;rw[show(⟨X.s.put (I.getD 1 0) J,.rk f,ps⟩:Sx).s.tk k (⟨X.s.put (I.getD 1 0) J,.rk f,ps⟩:Sx).g=(X.s.put (I.getD 1 0) J).tk k (.rk f)from rfl,aa];dsimp only;rw[show lvP (X.s.put (I.getD 1 0) J).q.P b (X.s.put (I.getD 1 0) J).q.V=L from lt,hm2];dsimp only;rw[hU z]
         have hW:=qI8 (n:=n) (v:=v) N h;obtain⟨Y',ea,sm⟩:=(Sm.refl (X:=⟨s2.wip b,g',X.ps++[⟨y,X.s.ots k,b,[I.getD 1 0,I.getD 0 0,(X.s.np:Int)]::ms⟩]⟩) (ps:=ps++[⟨y',(X.s.put (I.getD 1 0) J).ots k,b,ms⟩])).ask wk.1 wk.2.1 hW;refine⟨Y',?_,sm⟩;rw[<-ea];unfold Sx.ask;have:(⟨X.s.put (I.getD 1 0) J,.rk f,ps⟩:Sx).rooms k (i+1)=(⟨s2.wip b,g',ps++[⟨y',(X.s.put (I.getD 1 0) J).ots k,b,ms⟩]⟩:Sx).rooms k i:=by rw[ac];show(if(X.s.put (I.getD 1 0) J).rd k=true then _ else _)=_;rw[m.nr.2,hU (by decide),aj]
         rw[this])
end
section
variable{k:Tm}{s:XS}{V:Mp}{l:Option Int}
theorem QS.vv(h:QS q)(pm:V.Perm q.V):QS { q with V:=V }:=by(
refine⟨{ h.ok with nd:=(pm.map _).nodup_iff.mpr h.ok.nd,nm:=λy d=>h.ok.nm y (pm.mem_iff.mp d),blk:=λy d=>h.ok.blk y (pm.mem_iff.mp d) },λb z=>?_⟩
show q.lv.getD b 0=(cntB q.P V b)
rw[h.lv b z]
unfold cntB
rw[pm.countP_eq])
theorem WX.vv(w:WX k s)(pm:V.Perm s.q.V):WX k (s.vv V):=⟨w.qs.vv pm,w.on,w.lc,w.cr,λy hy=>w.vl y (pm.mem_iff.mp hy),(pm.map _).nodup_iff.mpr w.pd,w.c0,w.bo,w.nx,w.sl,by show V.length<60;rw[pm.length_eq];exact w.l6,w.l0⟩
theorem Ix.vv(x:Ix k s)(pm:V.Perm s.q.V):Ix k (s.vv V):=⟨x.w.vv pm,by show V.length< _;rw[pm.length_eq];exact x.sh,x.s1,x.gp,x.e2⟩
theorem Pgs.vv(h:Pgs s)(pm:V.Perm s.q.V):Pgs (s.vv V):=⟨h.wr,h.mr,h.one,λy hy=>h.nw y (pm.mem_iff.mp hy),λz=>let⟨p,hp⟩:=h.rl z;⟨p,pm.mem_iff.mpr hp⟩,h.bn⟩
theorem Ro.vv(h:Ro s)(pm:V.Perm s.q.V):Ro (s.vv V):=⟨h.v6,λn p w p' w' a b c=>h.on n p w p' w' (pm.mem_iff.mp a) b (pm.mem_iff.mp c),λi w' e n6 no=>by
 obtain⟨p,w,a,b⟩:=h.of i w' e n6 λp hp=>no p (pm.mem_iff.mpr hp);exact⟨p,w,pm.mem_iff.mpr a,b⟩⟩
theorem Fd.vv(h:Fd s)(pm:V.Perm s.q.V):Fd (s.vv V):=by obtain⟨R,q,f⟩:=h.fb;exact⟨h.pg.vv pm,h.ro.vv pm,h.q0,R,q,f.rows,f.rp,f.pr,f.fi,f.bo,f.nx⟩
theorem Top.vv(h:Top s)(pm:V.Perm s.q.V):Top (s.vv V):=h.imp id λ⟨n,p,v,a,b⟩=>⟨n,p,v,pm.mem_iff.mpr a,b⟩
theorem Fd.wl(h:Fd s):Fd (s.wl l):=by obtain⟨R,q,f⟩:=h.fb;exact⟨⟨h.pg.wr,h.pg.mr,h.pg.one,h.pg.nw,h.pg.rl,h.pg.bn⟩,⟨h.ro.v6,h.ro.on,h.ro.of⟩,h.q0,R,q,f.rows,f.rp,f.pr,f.fi,f.bo,f.nx⟩
theorem Top.wl(h:Top s):Top (s.wl l):=h
theorem Sm.trans(h:Sm X X')(h':Sm X' X''):Sm X X'':=by(
obtain⟨⟨V,e,D⟩,g⟩:=h
obtain⟨⟨W,z,d⟩,g'⟩:=h'
rw[e]at z d
exact⟨⟨W,z,d.trans D⟩,g'.trans g⟩)
theorem Fd.broken{i:Nat}{X:Sx}{n v:Int}(w:WX k X.s)(ok:X.g.Ok)(h:X.ask k i n v=some (Y,.error e))(p:Fd X.s):Fd Y.s:=by(
unfold Sx.ask at h
cases er:X.rooms k i with
|none=>lia
|some d=>
 obtain⟨Z,o⟩:=d;have z:=Fd.rooms w ok er p;lia)
structure Ty(k:Tm)(s:XS):Prop where
x:Ix k s
wt:Wt k s
lf:s.lf=none
fd:Fd s
tp:Top s
theorem Hv.vv{m:Int}(h:Hv s m u)(pm:V.Perm s.q.V):Hv (s.vv V) m u:=by obtain⟨p,w,a,b⟩:=h;exact⟨p,w,pm.mem_iff.mpr a,b⟩
theorem Ty.once{f:Int->Int->Tl->Int}{n v:Int}{c:Nat}(h:Ty k s)(ah:Ahd k f)(p3:s.q.P<=3)(n0:0<=n)(n1:n<=64)(pm:V.Perm s.q.V)(hl:(∃p,(n,p)∈s.q.V)\/(s.q.V.length<59/\s.q.V.length+1<(s.q.B-(1+k.ie))*s.q.P))(ha:(⟨s,.rk f,[]⟩:Sx).ask k 17 n v=some (Y,.ok c)):∃Z r,(⟨(s.vv V).wl (some 1),.rk f,ps⟩:Sx).ask k 17 n v=some (Z,r)/\((r=.ok c/\(∃W,Z.s=(Y.s.vv W).wl (some 0)/\W.Perm Y.s.q.V)/\Y.s.rc.length=s.rc.length+1)\/(r=.error .dark/\Ty k (Z.s.wl none)/\(∃d,Z.s.rc=s.rc++[d])/\(∃Y',(⟨Z.s.wl none,.rk f,[]⟩:Sx).ask k 17 n v=some (Y',.ok c)/\Sm Y Y')/\(∀m u,m≠64->Hv s m u->Hv (Z.s.wl none) m u)/\(∀m,(∃p,(m,p)∈Z.s.q.V)↔∃p,(m,p)∈s.q.V)/\Z.s.q.V.length=s.q.V.length/\Z.s.q.B=s.q.B/\Z.s.q.P=s.q.P)):=by(
have sm:Sm ⟨s,.rk f,[]⟩ ⟨s.vv V,.rk f,ps⟩:=⟨⟨V,rfl,pm⟩,rfl⟩
obtain⟨Y1,h1,s1⟩:=sm.ask h.x.w trivial ha
obtain⟨Z,r,z,hr⟩:=qKA (X:=⟨s.vv V,.rk f,ps⟩) ah p3 rfl (h.x.w.vv pm) (h.fd.vv pm) h.lf h1
have z:(⟨(s.vv V).wl (some 1),.rk f,ps⟩:Sx).ask k 17 n v=some (Z,r):=z
refine⟨Z,r,z,?_⟩
rcases hr with⟨rfl,e1,e2⟩|⟨rfl,⟨d,e1⟩,e2⟩
.refine .inl ⟨rfl,?_,?_⟩
 .obtain⟨⟨W,J,pW⟩,_⟩:=s1;exact⟨W,by rw[e1,J],pW⟩
 obtain⟨⟨W,J,_⟩,_⟩:=s1;rw[J]at e2;exact e2
have I:Ix k ((s.vv V).wl (some 1)):=(h.x.vv pm).lf λi e=>by cases e;decide
have ac:Wt k ((s.vv V).wl (some 1)):=h.wt
have S:(∃p,(n,p)∈V)\/(V.length<59/\V.length+1<(s.q.B-(1+k.ie))*s.q.P):=by rw[pm.length_eq];exact hl.imp (λ⟨p,D⟩=>⟨p,pm.mem_iff.mpr D⟩) id
have N:∃qs,AskD k 17 (⟨(s.vv V).wl (some 1),.rk f,ps⟩:Sx) Z qs:=by
 rcases q74 (X:=⟨(s.vv V).wl (some 1),.rk f,ps⟩) (n:=n) (v:=v) I ac trivial (q75 I) n0 n1 S with⟨Y2,qs,p,h2,_⟩|⟨Y2,qs,h2,a⟩
 .rw[z]at h2;cases h2
 rw[z]at h2;cases h2;exact⟨qs,a⟩
obtain⟨qs,a⟩:=N
have O:Fd Z.s:=Fd.broken (X:=⟨(s.vv V).wl (some 1),.rk f,ps⟩) I.w trivial z ((h.fd.vv pm).wl)
have aa:Top Z.s:=Kpr.ask qJZ (X:=⟨(s.vv V).wl (some 1),.rk f,ps⟩) I.w trivial n0 n1 z ((h.tp.vv pm).wl (l:=some 1))
obtain⟨Y',e3,s3⟩:=e2 []
refine .inr ⟨rfl,⟨a.x.lf λi e=>(by cases e),a.wt,rfl,O.wl,aa⟩,⟨d,e1⟩,⟨Y',e3,s1.trans s3⟩,λm u m6 hv=>?_,λm=>?_,?_,a.kp.eB,a.kp.eP⟩
.exact a.hv m u m6 (hv.vv pm)
.rw[a.kp.nm m];exact⟨λ⟨p,D⟩=>⟨p,pm.mem_iff.mp D⟩,λ⟨p,D⟩=>⟨p,pm.mem_iff.mpr D⟩⟩
rw[a.kp.lV]
exact pm.length_eq)
end
noncomputable def gA(c sh:Int)(hl:List Int):List Int:=if c%5=4 then gvn hl [c / 5%sh,c / 64%sh]else[]
noncomputable def whA(sh sr c:Int)(hl:List Int):Sum (Str×Int) (Int×Int):=if c%5=4 then(if gvn hl [c / 5%sh,c / 64%sh]=[]then .inl ("done",0)else .inr (64,XS.bits (rst hl (gvn hl [c / 5%sh,c / 64%sh]))))else if c / 5%sh∉hl/\sr<=(hl.length:Int)then .inl ("full",-1)else .inr (c / 5%sh,c%10 ^ 30)
inductive AkR(k:Tm)(sh sr c:Int)(X:Sx):Sx->Str->Int->Prop
|im {w:Str} {f:Int} (h:whA sh sr c X.s.hl=.inl (w,f)):AkR k sh sr c X X w f
|ok {n v:Int} {Y:Sx} {p:Nat} (h:whA sh sr c X.s.hl=.inr (n,v)) (a:X.ask k 17 n v=some (Y,.ok p)):AkR k sh sr c X ⟨Y.s.forgs (gA c sh X.s.hl),Y.g,Y.ps⟩ "done" (if c%5=4 then((gA c sh X.s.hl).length:Int)else(p:Int))
|dk {n v:Int} {Y:Sx} (h:whA sh sr c X.s.hl=.inr (n,v)) (a:X.ask k 17 n v=some (Y,.error .dark)):AkR k sh sr c X Y "dark" (-1)
section
variable{k:Tm}{s:XS}{sh c:Int}{sr:Nat}{V:Mp}{l:Option Int}{g:List Int}
theorem q2J:s.hl.length=(hdN s.q.V).length:=pP _
theorem qEL(e:s.lf=l):s.wl l=s:=by cases s;cases e;rfl
theorem qBX:∀{g:List Int} {s:XS},(s.wl l).forgs g=(s.forgs g).wl l
| [],_=>rfl
|n::g,s=>qBX (g:=g) (s:=s.forg n)
theorem qKB{n:Int}(nd:(s.q.V.map (·.1)).Nodup)(pm:V.Perm s.q.V):∃W,(s.vv V).forg n=(s.forg n).vv W/\W.Perm (s.forg n).q.V:=by(
refine⟨jB V n,?_,pm.filter _⟩
have e:BM.lvF s.q.P V s.q.lv n=BM.lvF s.q.P s.q.V s.q.lv n:=by unfold BM.lvF;rw[qEK nd pm]
unfold XS.forg XS.vv QM.forget
simp_all)
theorem q56:∀{g:List Int} {s:XS} {V:Mp},(s.q.V.map (·.1)).Nodup->V.Perm s.q.V->∃W,(s.vv V).forgs g=(s.forgs g).vv W/\W.Perm (s.forgs g).q.V
| [],s,V,nd,pm=>⟨V,rfl,pm⟩
|n::g,s,V,nd,pm=>by obtain⟨W,e,pw⟩:=qKB (n:=n) nd pm;obtain⟨W',e',pw'⟩:=q56 (g:=g) (s:=s.forg n) (V:=W) (rD (cV _ rW) nd) pw;refine⟨W',?_,pw'⟩;show((s.vv V).forg n).forgs g=_;rw[e,e'];rfl
theorem qI9{s':XS}(nd:(s.q.V.map (·.1)).Nodup)(nd':(s'.q.V.map (·.1)).Nodup)(h:∀m,(∃p,(m,p)∈s'.q.V)↔∃p,(m,p)∈s.q.V):s'.hl=s.hl:=by(
have D:=λl=>by
 have:=wZ (le:=λa b=>decide (a<=b)) (λa b c h1 h2=>hC (r9 (kP h1) (kP h2))) (λa b=>by
  by_cases z:a<=b
  .rw[hC z];rfl
  rw[kB z,hC (show b<=a by lia)];rfl) l
 exact this.imp λz=>kP z
have d:∀{s:XS},(s.q.V.map _).Nodup->s.hl.Nodup:=fun {s} nd=>(wT _ _).nodup_iff.mpr (gK _ nd)
refine q52 ((sY (d nd') (d nd)).mpr λm=>?_) (D _) (D _)
rw[uU,uU,h m])
set_option tactic.hygienic true in
theorem qKY{n v:Int}(w:WX k s)(sh1:1<=sh)(sh6:sh<=64)(hd:s.hl.length<=sr)(hs:sr+2<=(s.q.B-(1+k.ie))*s.q.P)(s5:sr<=50)(h:whA sh sr c s.hl=.inr (n,v)):0<=n/\n<=64/\((∃p,(n,p)∈s.q.V)\/(s.q.V.length<59/\s.q.V.length+1<(s.q.B-(1+k.ie))*s.q.P)):=by(
obtain⟨D,d⟩:=qEJ w.qs.ok.nd
rw[<-q2J]at D d
unfold whA at h
split at h
.split at h
 .cases h
 cases h;exact⟨by decide,by decide,d.imp id λz=>⟨by lia,by lia⟩⟩
split at h
.cases h
rename_i z
cases h
have:=uT (c / 5) sh (by lia)
refine⟨this.1,by lia,?_⟩
by_cases y:c / 5%sh∈s.hl
.exact .inl (uU.mp y).2
lia)
theorem qKC{f:Int->Int->Tl->Int}{X:Sx}(e:X.g=.rk f)(h:X.room k=(Y,r)):Y.g=.rk f:=by(
unfold Sx.room at h
cases htk:X.s.tk k X.g with
|none=>lia
|some z=>
 obtain⟨y,b,g'⟩:=z;have d:=htk;rw[e]at d;have D:g'=.rk f:=by
  rcases vB (g:=.rk f) trivial d with⟨_,_,_,h4⟩|⟨_,_,_,h4,_⟩
  .exact h4
  exact h4
 lia)
theorem qBY{f:Int->Int->Tl->Int}:∀{i:Nat} {X Y:Sx} {r:Except Rf Unit},X.g=.rk f->X.rooms k i=some (Y,r)->Y.g=.rk f
|0,X,Y,r,e,h=>by
 unfold Sx.rooms at h;split at h
 .cases h;exact e
 cases h
|i+1,X,Y,r,e,h=>by
 unfold Sx.rooms at h;split at h
 .cases h;exact e
 cases er:X.room k with
 |mk W o=>
  rw[er]at h;have:=qKC e er;cases o with
  |error x=>cases h;exact this
  |ok p=>exact qBY this h
theorem qIA{f:Int->Int->Tl->Int}{i:Nat}{X:Sx}{n v:Int}(e:X.g=.rk f)(h:X.ask k i n v=some (Y,r)):Y.g=.rk f:=by(
unfold Sx.ask at h
cases er:X.rooms k i with
|none=>lia
|some d=>
 obtain⟨Z,o⟩:=d;have:=qBY e er;lia)
theorem R8.ak{j:Nat}{f:Int->Int->Tl->Int}(h:R8 k sh sr X j)(sh1:1<=sh)(eg:X.g=.rk f)(c:Int):∃Y w a,AkR k sh sr c X Y w a/\w≠"dark"/\R8 k sh sr Y (j+1)/\Y.s.q.B=X.s.q.B/\Y.s.q.P=X.s.q.P/\Y.g=.rk f:=by(
have rcn:=h.rcn
have psn:=h.psn
have h':R8 k sh sr X (j+1):={ h with rcn:=by lia,psn:=by lia }
have N:(Str.ofString "done")≠"dark":=by decide
by_cases D:c%5=4
.by_cases e:gvn X.s.hl [c / 5%sh,c / 64%sh]=[]
 .exact⟨X,_,_,.im (by unfold whA;rw[kD D,kD e]),N,h',rfl,rfl,eg⟩
 obtain⟨_,Y,p,I,S,Z,J⟩:=h.give (g:=gvn X.s.hl [c / 5%sh,c / 64%sh]) λm hm=>(mL.mp hm).1;have O:gA c sh X.s.hl=gvn X.s.hl [c / 5%sh,c / 64%sh]:=kD D;have a:=AkR.ok (k:=k) (sh:=sh) (sr:=sr) (c:=c) (X:=X) (by unfold whA;rw[kD D,hU e]) I;rw[O]at a;have d:=qIA eg I;exact⟨_,_,_,a,N,S,Z,J,d⟩
by_cases e:c / 5%sh∉X.s.hl/\(sr:Int)<=(X.s.hl.length:Int)
.exact⟨X,_,_,.im (by unfold whA;rw[hU D,kD e]),by decide,h',rfl,rfl,eg⟩
have y1:=uT (c / 5) sh (by lia)
obtain⟨_,Y,p,I,S,Z,J⟩:=h.sheet (n:=c / 5%sh) (v:=c%10 ^ 30) y1.1 y1.2 λz=>e ⟨λq=>z.1 (uO.mpr (uU.mp q)),by have:=z.2;rw[q2J];lia⟩
have O:gA c sh X.s.hl=[]:=hU D
have a:=AkR.ok (k:=k) (sh:=sh) (sr:=sr) (c:=c) (X:=X) (by unfold whA;rw[hU D,hU e]) I
rw[O]at a
have d:=qIA eg I
exact⟨_,_,_,a,N,S,Z,J,d⟩)
structure Tz(k:Tm)(sr:Nat)(s:XS):Prop where
t:Ty k s
hd:s.hl.length<=sr
hs:sr+2<=(s.q.B-(1+k.ie))*s.q.P
theorem R8.tz{j:Nat}(h:R8 k sh sr X j)(pm:V.Perm X.s.q.V):Tz k sr (X.s.vv V):=⟨⟨h.x.vv pm,Wt.of  h.ge,h.lf,h.fd.vv pm,h.tp.vv pm⟩,by rw[q82 pm,q2J];exact h.hd,h.hs⟩
theorem Tz.once{f:Int->Int->Tl->Int}{w:Str}{a:Int}(h:Tz k sr s)(ah:Ahd k f)(p3:s.q.P<=3)(sh1:1<=sh)(sh6:sh<=64)(s5:sr<=50)(pm:V.Perm s.q.V)(ha:AkR k sh sr c ⟨s,.rk f,[]⟩ Y w a)(wd:w≠"dark"):∃Z w' a',AkR k sh sr c ⟨(s.vv V).wl (some 1),.rk f,[]⟩ Z w' a'/\((w'=w/\a'=a/\(∃W,Z.s.wl none=Y.s.vv W/\W.Perm Y.s.q.V)/\(Y.s.rc.length=s.rc.length+1\/(Y.s.rc.length=s.rc.length/\∃y,whA sh sr c s.hl=.inl y)))\/(w'="dark"/\a'= -1/\Tz k sr (Z.s.wl none)/\(∃y,whA sh sr c s.hl=.inr y)/\Z.s.hl=s.hl/\Z.s.rc.length=s.rc.length+1/\Z.s.q.B=s.q.B/\Z.s.q.P=s.q.P/\(∀m u,m≠64->Hv s m u->Hv (Z.s.wl none) m u)/\∃Y',AkR k sh sr c ⟨Z.s.wl none,.rk f,[]⟩ Y' w a/\Sm Y Y')):=by(
have nd:=h.t.x.w.qs.ok.nd
have N:((s.vv V).wl (some 1)).hl=s.hl:=q82 pm
have lf:=h.t.lf
cases ha with
|dk _ _=>exact(wd rfl).elim
|im e=>refine⟨_,w,a,.im (by rw[N];exact e),.inl ⟨rfl,rfl,⟨V,qEL (s:=s.vv V) lf,pm⟩,.inr ⟨rfl,_,e⟩⟩⟩
|@ok n v Y p e hY=>
 obtain⟨n0,n1,hl⟩:=qKY h.t.x.w sh1 sh6 h.hd h.hs s5 e;have ly:=q76 h.t.x.w (X:=⟨s,.rk f,[]⟩) trivial hY lf;obtain⟨wY,_⟩:WX k Y.s/\True:=by
  rcases q74 (X:=⟨s,.rk f,[]⟩) (n:=n) (v:=v) h.t.x h.t.wt trivial (q75 h.t.x) n0 n1 hl with⟨Y2,qs,p2,h2,a⟩|⟨Y2,qs,h2,a⟩
  .rw[hY]at h2;cases h2;exact⟨a.x.w,trivial⟩
  rw[hY]at h2;cases h2
 obtain⟨Z,r,hZ,hr⟩:=h.t.once (ps:=[]) ah p3 n0 n1 pm hl hY;have fr:∀{t:XS} {g:List Int},(t.forgs g).rc=t.rc:=fun {t g}=>by
  induction g generalizing t with
  |nil=>rfl
  |cons n g ih=>exact ih (t:=t.forg n)
 have fl:∀{t:XS} {g:List Int},(t.forgs g).lf=t.lf:=fun {t g}=>by
  induction g generalizing t with
  |nil=>rfl
  |cons n g ih=>exact ih (t:=t.forg n)
 rcases hr with⟨rfl,⟨W,S,pW⟩,e2⟩|⟨rfl,t2,⟨d,e3⟩,⟨Y',e4,sm⟩,hv,nm,lV,eB,eP⟩
 .have D:=AkR.ok (k:=k) (sh:=sh) (sr:=sr) (c:=c) (X:=⟨(s.vv V).wl (some 1),.rk f,[]⟩) (by rw[N];exact e) hZ;rw[N]at D;refine⟨_,_,_,D,.inl ⟨rfl,rfl,?_,.inl ?_⟩⟩
  .obtain⟨I,e',z⟩:=q56 (g:=gA c sh s.hl) wY.qs.ok.nd pW;refine⟨I,?_,z⟩;show(Z.s.forgs (gA c sh s.hl)).wl none=(Y.s.forgs (gA c sh s.hl)).vv I;rw[S,qBX,e'];exact qEL (s:=(Y.s.forgs (gA c sh s.hl)).vv I) (fl.trans ly)
  show(Y.s.forgs _).rc.length=_;rw[fr];exact e2
 have O:Z.s.hl=s.hl:=qI9 nd t2.x.w.qs.ok.nd nm;refine⟨Z,_,_,.dk (by rw[N];exact e) hZ,.inr ⟨rfl,rfl,⟨t2,?_,?_⟩,⟨_,e⟩,O,by rw[e3,mI,gF],eB,eP,hv,?_⟩⟩
 .show Z.s.hl.length<=sr;rw[O];exact h.hd
 .show sr+2<=(Z.s.q.B-(1+k.ie))*Z.s.q.P;rw[eB,eP];exact h.hs
 have J:(Z.s.wl none).hl=s.hl:=O;have D:=AkR.ok (k:=k) (sh:=sh) (sr:=sr) (c:=c) (X:=⟨Z.s.wl none,.rk f,[]⟩) (by rw[J];exact e) e4;rw[J]at D;refine⟨_,D,?_,sm.g⟩;obtain⟨W,S,pW⟩:=sm.s;obtain⟨I,e',z⟩:=q56 (g:=gA c sh s.hl) wY.qs.ok.nd pW;refine⟨I,?_,z⟩;show Y'.s.forgs _=_;rw[S,e'])
theorem qKD{X:Sx}(w:WX k X.s)(ok:X.g.Ok)(h:X.room k=(Y,r)):Y.s.rc.length<=X.s.rc.length+(X.s.q.P+1):=by(
have D:=q80 w ok
rw[h]at D
have d:∀b,(lvP _ b X.s.q.V).length<=X.s.q.P:=λb=>q5Q
cases D with
|no z=>exact wX _ _
|@dark y b g' s' n z md hn dk=>have:=d b;rw[md.rc];lia
|@ok y b g' s' ms z e md lm dk w' rm'=>have:=d b;show(_++[_]).length<=_;rw[mI,md.rc,gF];lia)
theorem qBZ:∀{i:Nat} {X Y:Sx} {r:Except Rf Unit},WX k X.s->X.g.Ok->X.s.q.P<=3->X.rooms k i=some (Y,r)->Y.s.rc.length<=X.s.rc.length+4*i
|0,X,Y,r,w,ok,p3,h=>by
 unfold Sx.rooms at h;split at h
 .cases h;exact kO _
 cases h
|i+1,X,Y,r,w,ok,p3,h=>by
 unfold Sx.rooms at h;split at h
 .cases h;exact wX _ _
 cases e:X.room k with
 |mk W o=>
  rw[e]at h;have a:=qKD w ok e;obtain⟨a1,a2,a3,_⟩:=q1M w ok e;cases o with
  |error x=>cases h;lia
  |ok p=>have:=qBZ a1 a2 (by rw[a3.eP];exact p3) h;lia
theorem q83{X:Sx}{i:Nat}(h:X.rooms k i=some Z):∀j,X.rooms k (i+j)=some Z
|0=>h
|j+1=>q3Z (q83 h j)
theorem qNZ:nlc s<=s.q.B:=by exact mO (mK _ _) (by rw[m7];exact kO _)
theorem AkR.le{f:Int->Int->Tl->Int}{w:Str}{a:Int}(h:Tz k sr s)(b4:s.q.B<=4)(p3:s.q.P<=3)(sh1:1<=sh)(sh6:sh<=64)(s5:sr<=50)(ha:AkR k sh sr c ⟨s,.rk f,[]⟩ Y w a)(wd:w≠"dark"):s.rc.length<=Y.s.rc.length/\Y.s.rc.length<=s.rc.length+21:=by(
cases ha with
|dk _ _=>exact(wd rfl).elim
|im e=>exact⟨kO _,wX _ _⟩
|@ok n v Y p e hY=>
 obtain⟨N,J,hl⟩:=qKY h.t.x.w sh1 sh6 h.hd h.hs s5 e;have fr:∀{t:XS} {g:List Int},(t.forgs g).rc=t.rc:=fun {t g}=>by
  induction g generalizing t with
  |nil=>rfl
  |cons n g ih=>exact ih (t:=t.forg n)
 have I:need k s<=5:=by
  have:=qNZ (s:=s);unfold need;split
  .exact m9 _
  split
  .split<;>lia
  split<;>lia
 show s.rc.length<=(Y.s.forgs _).rc.length/\(Y.s.forgs _).rc.length<=_;rw[fr];have d:=hY;unfold Sx.ask at d;cases er:(⟨s,.rk f,[]⟩:Sx).rooms k 17 with
 |none=>rw[er]at d;cases d
 |some O=>
  obtain⟨Z,o⟩:=O;rw[er]at d;cases o with
  |error q=>cases d
  |ok u=>
   dsimp only at d;split at d
   .cases d
   cases d;rcases q74 (X:=⟨s,.rk f,[]⟩) (n:=n) (v:=v) (i:=5) h.t.x h.t.wt trivial I N J hl with⟨Y2,qs,p2,h2,a⟩|⟨Y2,qs,h2,a⟩
   .have z:=h2;unfold Sx.ask at z;cases e5:(⟨s,.rk f,[]⟩:Sx).rooms k 5 with
    |none=>rw[e5]at z;cases z
    |some Z5=>
     have:=q83 e5 12;rw[er]at this;cases this;have:=qBZ (X:=⟨s,.rk f,[]⟩) h.t.x.w trivial p3 e5;rw[e5]at z;dsimp only at z;split at z
     .cases z
     cases z;have D:=dW List.length a.rc;show s.rc.length<=(Z.s.rc++[_]).length/\(Z.s.rc++[_]).length<=_;have S:(Z.s.put n v).rc.length=(Z.s.rc++[(Str.ofString "put",(Z.s.np:Int),true)]).length:=rfl;have D:(Z.s.put n v).rc.length=(s.rc++qs.flatMap dOf++[(Str.ofString "put",(Z.s.np:Int),true)]).length:=D;rw[S]at D;simp only[mI,gF]at D ⊢;dsimp only at this;lia
   have:=q76 (X:=⟨s,.rk f,[]⟩) h.t.x.w trivial h2 h.t.lf;rw[a.lf]at this;cases this)
end
section
variable{k:Tm}{s s0:XS}{sh c:Int}{sr:Nat}{U:Mp}{f:Int->Int->Tl->Int}
theorem qMU{X:Sx}{i:Nat}{n v:Int}{p:Nat}(w:WX k X.s)(ok:X.g.Ok)(h:X.ask k i n v=some (Y,.ok p)):(Y.s.q.V.map (·.1)).Nodup:=by(
unfold Sx.ask at h
cases er:X.rooms k i with
|none=>simp_all
|some d=>
 obtain⟨Z,o⟩:=d;rw[er]at h;cases o with
 |error q=>lia
 |ok u=>
  dsimp only at h;split at h
  .lia
  cases h;exact qI0 (uB w ok er).1.qs.ok.nd)
theorem AkR.sm{w:Str}{a:Int}(sm:Sm X X')(wx:WX k X.s)(ok:X.g.Ok)(wd:w≠"dark")(h:AkR k sh sr c X Y w a):∃Y',AkR k sh sr c X' Y' w a/\Sm Y Y':=by(
have d:X'.s.hl=X.s.hl:=by obtain⟨⟨V,e,N⟩,_⟩:=sm;rw[e];exact q82 N
cases h with
|dk _ _=>exact(wd rfl).elim
|im e=>exact⟨X',.im (by rw[d];exact e),sm⟩
|@ok n v Y p e hY=>obtain⟨Y',h',s'⟩:=sm.ask wx ok hY;have z:=AkR.ok      (by rw[d];exact e) h';rw[d]at z;obtain⟨V,I,O⟩:=s'.s;obtain⟨W,D,J⟩:=q56  (qMU wx ok hY) O;refine⟨_,z,⟨W,?_,J⟩,s'.g⟩;rw[I];exact D)
noncomputable def trN(s0:XS)(Y:Sx):Int:=if(Y.s.rc.length:Int)-s0.rc.length>1 then(Y.s.rc.length:Int)-s0.rc.length else 1
structure Tu(k:Tm)(sh:Int)(sr:Nat)(c:Int)(f:Int->Int->Tl->Int)(s0:XS)(Y:Sx)(w:Str)(a:Int)(u:Nat)(s:XS):Prop where
z:Tz k sr s
ak:∃Y',AkR k sh sr c ⟨s,.rk f,[]⟩ Y' w a/\Sm Y Y'
hl:s.hl=s0.hl
hv:∀m v,m≠64->Hv s0 m v->Hv s m v
rc:s.rc.length=s0.rc.length+u
eB:s.q.B=s0.q.B
eP:s.q.P=s0.q.P
nt:0<u->∃y,whA sh sr c s0.hl=.inr y
theorem Tu.few{w:Str}{a:Int}(h:Tu k sh sr c f s0 Y w a u s)(b4:s.q.B<=4)(p3:s.q.P<=3)(sh1:1<=sh)(sh6:sh<=64)(s5:sr<=50)(wd:w≠"dark"):s0.rc.length+u<=Y.s.rc.length/\Y.s.rc.length<=s0.rc.length+u+21:=by(
obtain⟨N,J,⟨⟨W,I,_⟩,_⟩⟩:=h.ak
obtain⟨D,d⟩:=AkR.le h.z b4 p3 sh1 sh6 s5 J wd
rw[I,h.rc]at D d
exact⟨D,d⟩)
theorem Tu.once{w:Str}{a:Int}{u:Nat}(h:Tu k sh sr c f s0 Y w a u s)(ah:Ahd k f)(p3:s.q.P<=3)(sh1:1<=sh)(sh6:sh<=64)(s5:sr<=50)(pm:U.Perm s.q.V)(wd:w≠"dark"):∃Z w' a',AkR k sh sr c ⟨(s.vv U).wl (some 1),.rk f,[]⟩ Z w' a'/\((w'=w/\a'=a/\(∃W,Z.s.wl none=Y.s.vv W/\W.Perm Y.s.q.V)/\(u:Int)+1=trN s0 Y)\/(w'="dark"/\a'= -1/\Tu k sh sr c f s0 Y w a (u+1) (Z.s.wl none)/\Z.s.rc.length=s.rc.length+1)):=by(
obtain⟨Y',a1,⟨⟨W1,I,O⟩,g1⟩⟩:=h.ak
have N:Y'.s.rc=Y.s.rc:=by rw[I];rfl
obtain⟨Z,w',a',hz,hr⟩:=h.z.once ah p3 sh1 sh6 s5 pm a1 wd
refine⟨Z,w',a',hz,?_⟩
have rc:=h.rc
rcases hr with⟨rfl,rfl,⟨W,eW,pW⟩,D⟩|⟨rfl,rfl,tz,⟨y,d⟩,ehl,erc2,eB,eP,hv,Y2,a2,sm⟩
.refine .inl ⟨rfl,rfl,⟨W,?_,?_⟩,?_⟩
 .rw[eW,I];rfl
 .refine pW.trans ?_;rw[I];exact O
 unfold trN;rw[N]at D;rcases D with D|⟨D,y,d⟩
 .split<;>lia
 have u0:u=0:=by
  rcases Nat.eq_zero_or_pos u with e|e
  .exact e
  obtain⟨y',J⟩:=h.nt e;rw[h.hl,J]at d;cases d
 split<;>lia
refine .inr ⟨rfl,rfl,⟨tz,⟨Y2,a2,Sm.trans ⟨⟨W1,I,O⟩,g1⟩ sm⟩,ehl.trans h.hl,λm v S q=>hv m v S (h.hv m v S q),?_,eB.trans h.eB,eP.trans h.eP,λ_=>⟨y,?_⟩⟩,erc2⟩
.show Z.s.rc.length=_;lia
rw[<-h.hl]
exact d)
noncomputable def Rdv(s:XS)(n:Int)(v:V):Prop:=(n∉s.hl/\v=.non)\/∃u,Hv s n u/\n∈s.hl/\v=.int u
theorem Rdv.eq{n:Int}{v:V}(w:WX k s)(h:Rdv s n v)(g:Rdv s n v'):v=v':=by(
rcases h with⟨h,e⟩|⟨u,⟨p,m,h1,h2⟩,h3,e⟩<;>rcases g with⟨g,e'⟩|⟨u',⟨p',m',g1,g2⟩,g3,e'⟩
.rw[e,e']
.exact(h g3).elim
.exact(g h3).elim
have:=q77 w.qs.ok.nd h1 g1
lia)
theorem Fb.is(h:Fb s R q)(d:Fd s)(w:WX k s)(tp:Top s){gl:List Int}(hg:gl.Perm ((hdN q.V).filter (gnB s.pg q.V))):(jI q gl).V.Perm s.q.V/\jI q gl=(s.vv (jI q gl).V).q:=by(
obtain⟨e1,J,D,O,I⟩:=h.found d w tp hg
obtain⟨_,eB,S,_⟩:=q1N  (h.rows.qs d.q0)
have N:(jI q gl).B=s.q.B:=eB.trans h.rows.sh.1
have z:(jI q gl).P=s.q.P:=S.trans h.rows.sh.2
refine⟨e1,?_⟩
generalize jI q gl=Z at *
cases Z
dsimp only at J D O I N z
subst J D O I N z
rfl)
theorem Tu.rdv{w:Str}{a n:Int}{v:V}(h:Tu k sh sr c f s0 Y w a u s)(n6:n≠64)(r:Rdv s0 n v):Rdv s n v:=by(
rcases r with⟨r,e⟩|⟨x,r,m,e⟩
.exact .inl ⟨by rw[h.hl];exact r,e⟩
exact .inr ⟨x,h.hv _ _ n6 r,by rw[h.hl];exact m,e⟩)
theorem Rdv.vv'{n:Int}{v:V}(h:Rdv (s.vv W) n v)(pm:W.Perm s.q.V):Rdv s n v:=by(
rcases h with⟨r,e⟩|⟨x,⟨p,m,r1,r2⟩,m1,e⟩
.exact .inl ⟨by rw[<-q82 pm];exact r,e⟩
exact .inr ⟨x,⟨p,m,pm.mem_iff.mp r1,r2⟩,by rw[<-q82 pm];exact m1,e⟩)
theorem R8.tu{w:Str}{a:Int}{j:Nat}(h:R8 k sh sr X j)(eg:X.g=.rk f)(pm:U.Perm X.s.q.V)(ha:AkR k sh sr c X Y w a)(wd:w≠"dark"):Tu k sh sr c f (X.s.vv U) Y w a 0 (X.s.vv U):=by obtain⟨d,D,sm⟩:=AkR.sm (X':=⟨X.s.vv U,.rk f,[]⟩) ⟨⟨U,rfl,pm⟩,eg.symm⟩ h.x.w h.ok wd ha;exact⟨h.tz pm,⟨d,D,sm⟩,rfl,λZ Z Z h=>h,rfl,rfl,rfl,λz=>absurd z (dX 0)⟩
set_option tactic.hygienic true in
theorem AkR.give{X:Sx}{w:Str}{a:Int}(eG:G=gvn X.s.hl [c / 5%sh,c / 64%sh])(h:AkR k sh sr c X Y w a)(c4:c%5=4):(G=[]/\Y=X/\w="done"/\a=0)\/(G≠[]/\∃Z r,X.ask k 17 64 (XS.bits (rst X.s.hl G))=some (Z,r)/\((∃p,r=.ok p/\Y=⟨Z.s.forgs G,Z.g,Z.ps⟩/\w="done"/\a=(G.length:Nat))\/(r=.error .dark/\Y=Z/\w="dark"/\a= -1))):=by(
have D:gA c sh X.s.hl=G:=by rw[eG];exact kD c4
have d:whA sh sr c X.s.hl=if G=[]then .inl ("done",0)else .inr (64,XS.bits (rst X.s.hl G)):=by rw[eG];exact kD c4
cases h with
|im e=>
 rw[d]at e;split at e
 .rename_i z;cases e;exact .inl ⟨z,rfl,rfl,rfl⟩
 cases e
|@ok n v Z p e hY=>
 rw[d]at e;split at e
 .cases e
 rename_i z;cases e;exact .inr ⟨z,Z,.ok p,hY,.inl ⟨p,rfl,by rw[D],rfl,by rw[kD c4,D]⟩⟩
|@dk n v _ e hY=>
 rw[d]at e;split at e
 .cases e
 rename_i z;cases e;exact .inr ⟨z,Y,_,hY,.inr ⟨rfl,rfl,rfl,rfl⟩⟩)
set_option tactic.hygienic true in
theorem AkR.write{w:Str}{a:Int}(h:AkR k sh sr c X Y w a)(c4:¬c%5=4):((c / 5%sh∉X.s.hl/\(sr:Int)<=(X.s.hl.length:Int))/\Y=X/\w="full"/\a= -1)\/(¬(c / 5%sh∉X.s.hl/\(sr:Int)<=(X.s.hl.length:Int))/\∃Z r,X.ask k 17 (c / 5%sh) (c%10 ^ 30)=some (Z,r)/\((∃p:Nat,r=.ok p/\Y=Z/\w="done"/\a=(p:Int))\/(r=.error .dark/\Y=Z/\w="dark"/\a= -1))):=by(
have D:gA c sh X.s.hl=[]:=hU c4
have d:whA sh sr c X.s.hl=if c / 5%sh∉X.s.hl/\(sr:Int)<=(X.s.hl.length:Int)then .inl ("full",-1)else .inr (c / 5%sh,c%10 ^ 30):=hU c4
cases h with
|im e=>
 rw[d]at e;split at e
 .rename_i z;cases e;exact .inl ⟨z,rfl,rfl,rfl⟩
 cases e
|@ok n v Z p e hY=>
 rw[d]at e;split at e
 .cases e
 rename_i z;cases e;exact .inr ⟨z,Z,.ok p,hY,.inl ⟨p,rfl,by rw[D];rfl,rfl,hU c4⟩⟩
|@dk n v _ e hY=>
 rw[d]at e;split at e
 .cases e
 rename_i z;cases e;exact .inr ⟨z,Y,_,hY,.inr ⟨rfl,rfl,rfl,rfl⟩⟩)
end
end W1
namespace L2
open PySem PySem.Spec PyProof.Rows
abbrev Fn1(K:PySem.W.Frag)(x q:Str)(st:Stmt)(f:Addr)(ps:List Str):Prop:=∃fd,FunD K x q st .none f fd/\jT K fd ps []
noncomputable def Fn1.fd{K:PySem.W.Frag}{x q:Str}{st:Stmt}{f:Addr}{ps:List Str}(h:Fn1 K x q st f ps):FuncData:=Classical.choose h
theorem Fn1.F{K:PySem.W.Frag}{x q:Str}{st:Stmt}{f:Addr}{ps:List Str}(h:Fn1 K x q st f ps):FunD K x q st .none f h.fd:=(Classical.choose_spec h).1
theorem Fn1.b{K:PySem.W.Frag}{x q:Str}{st:Stmt}{f:Addr}{ps:List Str}(h:Fn1 K x q st f ps):jT K h.fd ps []:=(Classical.choose_spec h).2
noncomputable abbrev Fn1.Ok0{K:PySem.W.Frag}{x q:Str}{st:Stmt}{f:Addr}{ps:List Str}(F:Fn1 K x q st f ps)(P:Program)(w:World)(mg:Str->Option Value)(base:Heap)(k:Nat)(sp:Sp):Prop:=FnOk P w K mg base CX0 k f F.fd ps sp
noncomputable abbrev Fn1.OkE{K:PySem.W.Frag}{x q:Str}{st:Stmt}{f:Addr}{ps:List Str}(F:Fn1 K x q st f ps)(P:Program)(w:World)(mg:Str->Option Value)(base:Heap)(k:Nat)(sp:Sp):Prop:=FnOk P w K mg base (CXe P w) k f F.fd ps sp
noncomputable abbrev FnX(K:PySem.W.Frag)(x q:Str)(st:Stmt)(f:Addr):Prop:=∃fd,FunD K x q st .none f fd
section
variable{K:PySem.W.Frag}{x q:Str}{st:Stmt}{f:Addr}{ps:List Str}
noncomputable def BnX(x q:Str)(st:Stmt)(ps:List Str):Prop:=∀(kV doc pm:Value) (an:Option Addr) (cdv ct:Value) (us:List Value),us.length=ps.length->bindArgs (PySem.W.fnOf x q (yH st) (jV st) (qF st) .none kV doc pm an cdv ct) ⟨us,[]⟩=pure (ps.zip us)
theorem fn1b(h:BnX x q st ps){fd:FuncData}(F:FunD K x q st .none f fd):jT K fd ps []:=by obtain⟨oc,od,kV,d,J,N,z,O,D,rfl,Z,S⟩:=F.ex;exact jT.all λI hl=>h kV d J N z O I hl
theorem lnx{us:List Value}{n:Nat}(h:us.length=n):us=(List.range n).map (us.getD · .none):=by subst h;refine wA (by simp) λi h1 h2=>?_;simp[kL h1]
theorem bnx(h:∀kV doc pm an cdv ct (g:Nat->Value),bindArgs (PySem.W.fnOf x q (yH st) (jV st) (qF st) .none kV doc pm an cdv ct) ⟨(List.range ps.length).map g,[]⟩=pure (ps.zip ((List.range ps.length).map g))):BnX x q st ps:=λkV doc pm an cdv ct us hl=>by rw[lnx hl];exact h ..
theorem fn1 (l:FnX K x q st f) (h:∀kV doc pm an cdv ct (g:Nat->Value),bindArgs (PySem.W.fnOf x q (yH st) (jV st) (qF st) .none kV doc pm an cdv ct) ⟨(List.range ps.length).map g,[]⟩=pure (ps.zip ((List.range ps.length).map g)):=by intros;rfl):Fn1 K x q st f ps:=⟨l.choose,l.choose_spec,fn1b (bnx h) l.choose_spec⟩
theorem FnX.bind1{a:Str}{fd:FuncData}(h:∀kV doc pm an cdv ct u,bindArgs (PySem.W.fnOf x q (yH st) (jV st) (qF st) .none kV doc pm an cdv ct) ⟨[u],[]⟩=pure [(a,u)])(F:FunD K x q st .none f fd)(s:Shared)(v:Value):BindsTo s fd ⟨[v],[]⟩ [(a,v)]:=by obtain⟨I,od,kV,doc,pm,an,cdv,ct,d,rfl,D,z⟩:=F.ex;exact .of_eq (h kV doc pm an cdv ct v)
theorem FnX.of{kV:Value}(l:K.lookup f=some ⟨oc,od,.func (PySem.W.fnOf x q (yH st) (jV st) (qF st) .none kV doc pm an cdv ct),osl⟩)(c:PySem.W.codeIn K cdv q=true):FnX K x q st f:=⟨_,FunD.mk' l c⟩
theorem qP{N P:List Str}{sc:Scope}(h:(sc.kind=.function/\sc.isCoroutine=false/\sc.isGenerator=false)/\N.Nodup/\N.take P.length=P/\(∀x∈P,sc.names.lookup x=some .local\/sc.names.lookup x=some .cell)/\∀y∈sc.names,y.2≠ .free:=by decide+kernel):FnScope N P sc:=⟨h.1.1,h.1.2.1,h.1.2.2,h.2.1,h.2.2.1,h.2.2.2.1,h.2.2.2.2⟩
end
noncomputable abbrev GFn(K:PySem.W.Frag)(n:Str)(f:Addr):Prop:=PySem.W.nsIn K mainGlobals n=some (some (.ref f))/\PySem.W.keepIn K (.ref f)=true
theorem sz0:0<=sizeLine:=by decide
theorem sz1:1<=sizeLine:=by decide
theorem sz2:2<=sizeLine:=by decide
theorem sz3:3<=sizeLine:=by decide
theorem sz4:4<=sizeLine:=by decide
theorem sz5:5<=sizeLine:=by decide
end L2
namespace W1
open PySem L2
noncomputable def top(i:Nat):Stmt:=PySem.Challenge.pw_wornpages_k94_whole_one_deed_at_a_time.main.body.getD i (.Pass ⟨0,0,0,0⟩)
noncomputable abbrev jW:Stmt:=(qM (top 31) 2)
noncomputable abbrev qW:Stmt:=(qM (top 36) 5)
noncomputable abbrev v5:Stmt:=(qM (top 46) 0)
noncomputable abbrev uC:Stmt:=(qM (top 55) 0)
set_option genInjectivity false in
structure Adr where
(gh gm gq gr gs gu gv gy gz je jf jg jh ji jk jl jm jn jo hV jp jq jr js jt ju jv jw jx jy i3 jz kc ke kg kh kj km ko kr ku l5 lg lh lj lq ia ls lw me mf mh mi mj mq ig ii ik il io ip mt mw my mz nh nj nq nu og oh oi oj om ou ow iq iw oy fw oz pc pe iy ph iz j0 ja jb jc jd pj dt pi ck bw f7 fg fj fq dj dy gf gb ei gc:Addr)
oY:Tok
aDG:Tok
aCE:Tok
aB8:Addr
eI:Addr
iQ:Addr
eL:Addr
structure Txt(K:W.Frag)(mg:Str->Option Value)(t:Adr):Prop where
aE5:mg "Book"=some (.ref t.dt)
eT:Cls K t.dt
aC8:qQ K t.dt "blocks"
i9:qQ K t.dt "pages"
fH:qQ K t.dt "stamp"
fF:qQ K t.dt "where"
oX:qQ K t.dt "live"
fE:qQ K t.dt "filled"
o8:qQ K t.dt "born"
aEM:Meth K t.dt "mark" t.jf
aCP:Meth K t.dt "note" t.jg
tT:Meth K t.dt "forget" t.jh
aC5:Meth K t.dt "emptied" t.ji
aCX:Meth K t.dt "start_at" t.jk
aBU:Meth K t.dt "live_pages" t.jl
aCQ:Meth K t.dt "held" t.jm
aFC:Mk K t.dt t.je
aFN:mg "Plain"=some (.ref t.pi)
aFD:mg "Sure"=some (.ref t.ck)
eO:Cls K t.ck
fK:qQ K t.ck "chip"
eU:qQ K t.ck "terms"
eZ:qQ K t.ck "book"
i5:qQ K t.ck "rule"
aA0:qQ K t.ck "papers"
aAG:Meth K t.ck "failures" t.ls
aEF:Meth K t.ck "worn" t.lw
aAT:Meth K t.ck "reserve" t.me
aB2:Meth K t.ck "lay" t.mf
tO:Meth K t.ck "set_down_or_fail" t.mh
aD8:Meth K t.ck "wiped" t.mi
tK:Meth K t.ck "make_ready" t.mj
aB0:Meth K t.ck "check_worn" t.mq
aEB:Meth K t.ck "least" t.lg
t7:Meth K t.ck "clearable" t.lh
aA2:Meth K t.ck "options" t.lj
aDO:Meth K t.ck "choice" t.lq
aAA:Meth K t.ck "block_to_change" t.ia
aDT:Meth K t.ck "tally" t.kc
aEA:Meth K t.ck "space" t.ke
t6:Meth K t.ck "full_ones" t.kg
aAD:Meth K t.ck "with_dead_page" t.kh
aAM:Meth K t.ck "choice_by_rule" t.kj
aDY:Meth K t.ck "moved" t.km
aAS:Meth K t.ck "value_to_move" t.ko
aCB:Meth K t.ck "clear_out" t.kr
aCD:Meth K t.ck "make_room" t.ku
aBV:Meth K t.ck "make_rooms" t.l5
oK:Meth K t.ck "good" t.jo
aBF:Meth K t.ck "free" t.hV
aA8:Meth K t.ck "part" t.jp
aEE:Meth K t.ck "spot" t.jq
aD3:Meth K t.ck "ready" t.jr
aCN:Meth K t.ck "set_down" t.js
aD9:Meth K t.ck "write" t.jt
aC7:Meth K t.ck "give_up" t.ju
tW:Meth K t.ck "read" t.jv
iS:Meth K t.ck "held" t.jw
iO:Meth K t.ck "check_sheet" t.jx
aBK:Meth K t.ck "check_share" t.jy
aFF:Mk K t.ck t.jz
aE6:mg "Chip"=some (.ref t.bw)
eQ:Cls K t.bw
fM:qQ K t.bw "blocks"
fI:qQ K t.bw "pages"
aB7:qQ K t.bw "most"
aAV:qQ K t.bw "limits"
iK:qQ K t.bw "borne"
fU:qQ K t.bw "clearings"
oR:qQ K t.bw "deed_counts"
tI:qQ K t.bw "broken"
fG:qQ K t.bw "deeds_left"
tG:qQ K t.bw "record"
aEV:Meth K t.bw "put" t.mt
aEI:Meth K t.bw "wipe" t.mw
oP:Meth K t.bw "read" t.my
aCA:Meth K t.bw "cut_after" t.mz
aC3:Meth K t.bw "power_on" t.nh
aDB:Meth K t.bw "is_dark" t.nj
tD:Meth K t.bw "cleared" t.nq
aDR:Meth K t.bw "failed" t.nu
iB:Meth K t.bw "deeds" t.og
tJ:Meth K t.bw "check_page" t.oh
iJ:Meth K t.bw "check_block" t.oi
o6:Meth K t.bw "check_power" t.oj
tL:Meth K t.bw "check_deed" t.om
aAO:Meth K t.bw "is_spent" t.ou
aAX:Meth K t.bw "do_deed" t.ow
aE3:Mk K t.bw t.ip
aFU:mg "Rule"=some (.ref t.f7)
aE7:Cls K t.f7
aBT:Meth K t.f7 "goes_ahead" t.oy
aDH:Meth K t.f7 "choose" t.fw
aFP:Mk0 K t.f7
aE8:mg "Fewest"=some (.ref t.fg)
aDW:Cls K t.fg
aBA:Meth K t.fg "goes_ahead" t.oz
aCK:Meth K t.fg "choose" t.fw
aE0:Mk0 K t.fg
aFE:mg "Eldest"=some (.ref t.fj)
aD6:Cls K t.fj
aA6:Meth K t.fj "goes_ahead" t.pc
aC0:Meth K t.fj "choose" t.fw
aEU:Mk0 K t.fj
aFS:mg "Worth"=some (.ref t.fq)
aES:Cls K t.fq
aBO:Meth K t.fq "goes_ahead" t.pe
aC9:Meth K t.fq "choose" t.fw
aFA:Mk0 K t.fq
aFM:mg "Terms"=some (.ref t.dj)
fA:Cls K t.dj
fR:qQ K t.dj "blocks"
e9:qQ K t.dj "pages"
aAB:qQ K t.dj "sheets"
aA1:qQ K t.dj "share"
o9:qQ K t.dj "ill"
aAL:qQ K t.dj "spread"
aDA:Meth K t.dj "closed" t.ph
aFO:Mk K t.dj t.iy
aB6:mg "PowerGone"=some (.ref t.dy)
aEL:XCls K t.dy
aAU:mg "BlockFailed"=some (.ref t.gf)
aEZ:mg "NoTerms"=some (.ref t.gb)
aE4:XCls K t.gb
aFG:mg "Full"=some (.ref t.ei)
aFY:XCls K t.ei
aE9:mg "NoRoom"=some (.ref t.gc)
aFL:XCls K t.gc
aFR:ClM K t.pi "__init__" t.jn
fZ:W.exmOne K (.ref t.dy) (.ref t.gf)=some false
tM:W.exmOne K (.ref t.dy) (.ref t.ei)=some false
iP:W.exmOne K (.ref t.dy) (.ref t.dy)=some true
aDX:W.exmOne K (.ref t.ei) (.ref t.ei)=some true
aDK:W.codeHdIn K t.aB8 t.eI=true
tX:W.codeHdIn K t.iQ t.eL=true
aA4:t.eI≠t.eL
aEG:mg "is_whole"=some (.ref t.gh)
aEJ:W.keepIn K (.ref t.gh)=true
fD:mg "is_within"=some (.ref t.gm)
fB:W.keepIn K (.ref t.gm)=true
aCJ:mg "is_shape"=some (.ref t.gq)
aC2:W.keepIn K (.ref t.gq)=true
aEP:mg "is_value"=some (.ref t.gr)
aEH:W.keepIn K (.ref t.gr)=true
aEY:mg "mark_of"=some (.ref t.gs)
aE2:W.keepIn K (.ref t.gs)=true
aEO:mg "stamp_of"=some (.ref t.gu)
aEN:W.keepIn K (.ref t.gu)=true
aET:mg "name_of"=some (.ref t.gv)
aEW:W.keepIn K (.ref t.gv)=true
aDC:mg "bits_of"=some (.ref t.gy)
aDD:W.keepIn K (.ref t.gy)=true
aDZ:mg "sheets_of"=some (.ref t.gz)
aD1:W.keepIn K (.ref t.gz)=true
aCU:mg "paper_of"=some (.ref t.i3)
aCY:W.keepIn K (.ref t.i3)=true
aCS:mg "marked_pages"=some (.ref t.ig)
aCM:W.keepIn K (.ref t.ig)=true
aBH:mg "sheets_given_up"=some (.ref t.ii)
aBJ:W.keepIn K (.ref t.ii)=true
aEX:mg "book_of"=some (.ref t.ik)
aE1:W.keepIn K (.ref t.ik)=true
aBY:mg "come_up"=some (.ref t.il)
aB4:W.keepIn K (.ref t.il)=true
aD4:mg "limits_of"=some (.ref t.io)
aDV:W.keepIn K (.ref t.io)=true
aC6:mg "is_unbeaten"=some (.ref t.iq)
aC4:W.keepIn K (.ref t.iq)=true
aB3:mg "first_unbeaten"=some (.ref t.iw)
aB1:W.keepIn K (.ref t.iw)=true
aAY:mg "_law_cell_at"=some (.ref t.iz)
aAW:W.keepIn K (.ref t.iz)=true
oE:mg "_law_mix"=some (.ref t.j0)
oG:W.keepIn K (.ref t.j0)=true
aCC:mg "_law_terms_row"=some (.ref t.ja)
aB9:W.keepIn K (.ref t.ja)=true
tP:mg "_law_rule"=some (.ref t.jb)
tQ:W.keepIn K (.ref t.jb)=true
aDE:mg "_law_ask"=some (.ref t.jc)
aDF:W.keepIn K (.ref t.jc)=true
aD5:mg "_law_tried"=some (.ref t.jd)
aD0:W.keepIn K (.ref t.jd)=true
aAJ:mg "MOST_TOLD"=some (.int 1000000 t.oY)
aCI:mg "ROLL"=some (.int 64 t.aDG)
aDI:mg "NAMES"=some (.int 128 t.aCE)
aFX:mg "bool"=none
aF0:mg "int"=none
aB5:mg "isinstance"=none
aCT:mg "len"=none
aFB:mg "list"=none
aFZ:mg "max"=none
aFW:mg "min"=none
aBX:mg "range"=none
aCG:mg "sorted"=none
set_option genInjectivity false
structure Fn9(K:W.Frag)(t:Adr):Prop where
aDM:Fn1 K "is_whole" "is_whole" (top 3) t.gh ["thing"]
fL:Fn1 K "is_within" "is_within" (top 4) t.gm ["thing","low","high"]
aCH:Fn1 K "is_shape" "is_shape" (top 5) t.gq ["blocks","pages"]
aDQ:Fn1 K "is_value" "is_value" (top 6) t.gr ["thing"]
aEQ:Fn1 K "mark_of" "mark_of" (top 10) t.gs ["stamp","name"]
aDN:Fn1 K "stamp_of" "stamp_of" (top 11) t.gu ["mark"]
aER:Fn1 K "name_of" "name_of" (top 12) t.gv ["mark"]
aDL:Fn1 K "bits_of" "bits_of" (top 13) t.gy ["sheets"]
aCL:Fn1 K "sheets_of" "sheets_of" (top 14) t.gz ["bits"]
aBL:Fn1 K "__init__" "Book.__init__" (qM (top 16) 0) t.je ["self","blocks","pages"]
aCW:Fn1 K "mark" "Book.mark" (qM (top 16) 1) t.jf ["self","name"]
aBQ:Fn1 K "note" "Book.note" (qM (top 16) 2) t.jg ["self","page","name"]
oO:Fn1 K "forget" "Book.forget" (qM (top 16) 3) t.jh ["self","name"]
aAI:Fn1 K "emptied" "Book.emptied" (qM (top 16) 4) t.ji ["self","block"]
tR:Fn1 K "start_at" "Book.start_at" (qM (top 16) 5) t.jk ["self","stamp"]
oQ:Fn1 K "live_pages" "Book.live_pages" (qM (top 16) 6) t.jl ["self","block"]
aBP:Fn1 K "held" "Book.held" (qM (top 16) 7) t.jm ["self"]
aBW:Fn1 K "__init__" "Plain.__init__" (qM (top 31) 0) t.jn ["self","chip","terms"]
iY:Fn1 K "good" "Plain.good" (qM (top 31) 1) t.jo ["self"]
tN:Fn1 K "part" "Plain.part" (qM (top 31) 3) t.jp ["self"]
aBS:Fn1 K "spot" "Plain.spot" (qM (top 31) 4) t.jq ["self"]
aBB:Fn1 K "ready" "Plain.ready" (qM (top 31) 6) t.jr ["self"]
tF:Fn1 K "set_down" "Plain.set_down" (qM (top 31) 8) t.js ["self","name","value"]
aA9:Fn1 K "write" "Plain.write" (qM (top 31) 10) t.jt ["self","sheet","value"]
tU:Fn1 K "give_up" "Plain.give_up" (qM (top 31) 11) t.ju ["self","sheets"]
oF:Fn1 K "read" "Plain.read" (qM (top 31) 12) t.jv ["self","sheet"]
f9:Fn1 K "held" "Plain.held" (qM (top 31) 13) t.jw ["self"]
fN:Fn1 K "check_sheet" "Plain.check_sheet" (qM (top 31) 14) t.jx ["self","sheet"]
iW:Fn1 K "check_share" "Plain.check_share" (qM (top 31) 15) t.jy ["self","sheet"]
aCF:Fn1 K "paper_of" "paper_of" (top 33) t.i3 ["why","options","block","moved","wiped"]
aAR:Fn1 K "__init__" "Store.__init__" (qM (top 34) 0) t.jz ["self","chip","terms","rule"]
aBC:Fn1 K "tally" "Store.tally" (qM (top 34) 3) t.kc ["self","block"]
aBD:Fn1 K "space" "Store.space" (qM (top 34) 4) t.ke ["self"]
iG:Fn1 K "full_ones" "Store.full_ones" (qM (top 34) 5) t.kg ["self"]
fV:Fn1 K "with_dead_page" "Store.with_dead_page" (qM (top 34) 6) t.kh ["self"]
fW:Fn1 K "choice_by_rule" "Store.choice_by_rule" (qM (top 34) 9) t.kj ["self","options"]
aBE:Fn1 K "moved" "Store.moved" (qM (top 34) 10) t.km ["self","block"]
fY:Fn1 K "value_to_move" "Store.value_to_move" (qM (top 34) 11) t.ko ["self","page","name"]
oM:Fn1 K "clear_out" "Store.clear_out" (qM (top 34) 13) t.kr ["self","block"]
oN:Fn1 K "make_room" "Store.make_room" (qM (top 34) 14) t.ku ["self"]
i8:Fn1 K "make_rooms" "Store.make_rooms" (qM (top 34) 16) t.l5 ["self"]
aBZ:Fn1 K "least" "Even.least" (qM (top 36) 0) t.lg ["self"]
iZ:Fn1 K "clearable" "Even.clearable" (qM (top 36) 2) t.lh ["self","tallies"]
oW:Fn1 K "options" "Even.options" (qM (top 36) 3) t.lj ["self"]
aBG:Fn1 K "choice" "Even.choice" (qM (top 36) 4) t.lq ["self"]
oC:Fn1 K "failures" "Sure.failures" (qM (top 38) 0) t.ls ["self"]
aC1:Fn1 K "worn" "Sure.worn" (qM (top 38) 1) t.lw ["self"]
oZ:Fn1 K "reserve" "Sure.reserve" (qM (top 38) 2) t.me ["self"]
aBM:Fn1 K "lay" "Sure.lay" (qM (top 38) 3) t.mf ["self","name","value"]
fT:Fn1 K "set_down_or_fail" "Sure.set_down_or_fail" (qM (top 38) 4) t.mh ["self","name","value"]
aBR:Fn1 K "wiped" "Sure.wiped" (qM (top 38) 5) t.mi ["self","block"]
iH:Fn1 K "make_ready" "Sure.make_ready" (qM (top 38) 6) t.mj ["self"]
oH:Fn1 K "check_worn" "Sure.check_worn" (qM (top 38) 7) t.mq ["self"]
aAH:Fn1 K "marked_pages" "marked_pages" (top 40) t.ig ["chip"]
oS:Fn1 K "sheets_given_up" "sheets_given_up" (top 41) t.ii ["chip","book"]
aED:Fn1 K "book_of" "book_of" (top 42) t.ik ["chip"]
aCZ:Fn1 K "come_up" "come_up" (top 43) t.il ["chip","terms","rule"]
aCV:Fn1 K "limits_of" "limits_of" (top 45) t.io ["ills","blocks"]
aDJ:Fn1 K "put" "Chip.put" (qM (top 46) 1) t.mt ["self","page","stuff"]
aCO:Fn1 K "wipe" "Chip.wipe" (qM (top 46) 2) t.mw ["self","block"]
oJ:Fn1 K "read" "Chip.read" (qM (top 46) 3) t.my ["self","page"]
tH:Fn1 K "cut_after" "Chip.cut_after" (qM (top 46) 4) t.mz ["self","deeds"]
tY:Fn1 K "power_on" "Chip.power_on" (qM (top 46) 5) t.nh ["self"]
aAK:Fn1 K "is_dark" "Chip.is_dark" (qM (top 46) 6) t.nj ["self"]
i6:Fn1 K "cleared" "Chip.cleared" (qM (top 46) 7) t.nq ["self","block"]
aA7:Fn1 K "failed" "Chip.failed" (qM (top 46) 8) t.nu ["self","block"]
iA:Fn1 K "deeds" "Chip.deeds" (qM (top 46) 9) t.og ["self"]
iE:Fn1 K "check_page" "Chip.check_page" (qM (top 46) 10) t.oh ["self","page"]
fQ:Fn1 K "check_block" "Chip.check_block" (qM (top 46) 11) t.oi ["self","block"]
fX:Fn1 K "check_power" "Chip.check_power" (qM (top 46) 12) t.oj ["self"]
iD:Fn1 K "check_deed" "Chip.check_deed" (qM (top 46) 13) t.om ["self","block"]
oA:Fn1 K "is_spent" "Chip.is_spent" (qM (top 46) 14) t.ou ["self","block"]
o7:Fn1 K "do_deed" "Chip.do_deed" (qM (top 46) 15) t.ow ["self","word","place","block","fails"]
aA5:Fn1 K "is_unbeaten" "is_unbeaten" (top 48) t.iq ["rule","tally","tallies","pages","now"]
tE:Fn1 K "first_unbeaten" "first_unbeaten" (top 49) t.iw ["rule","tallies","pages","now"]
oU:Fn1 K "goes_ahead" "Rule.goes_ahead" (qM (top 50) 0) t.oy ["self","one","other","pages","now"]
iR:Fn1 K "choose" "Rule.choose" (qM (top 50) 1) t.fw ["self","tallies","pages","now"]
iX:Fn1 K "goes_ahead" "Fewest.goes_ahead" (qM (top 51) 0) t.oz ["self","one","other","pages","now"]
iU:Fn1 K "goes_ahead" "Eldest.goes_ahead" (qM (top 52) 0) t.pc ["self","one","other","pages","now"]
i7:Fn1 K "goes_ahead" "Worth.goes_ahead" (qM (top 53) 0) t.pe ["self","one","other","pages","now"]
aAN:Fn1 K "closed" "Terms.closed" (qM (top 55) 1) t.ph ["self"]
tV:Fn1 K "_law_cell_at" "_law_cell_at" (top 57) t.iz ["_law_script","_law_k"]
aAP:Fn1 K "_law_mix" "_law_mix" (top 58) t.j0 ["_law_cell","_law_k"]
tS:Fn1 K "_law_terms_row" "_law_terms_row" (top 59) t.ja ["_law_cell"]
aAQ:Fn1 K "_law_rule" "_law_rule" (top 60) t.jb ["_law_cell"]
aDP:Fn1 K "_law_ask" "_law_ask" (top 61) t.jc ["_law_store","_law_row","_law_cell"]
aCR:Fn1 K "_law_tried" "_law_tried" (top 62) t.jd ["_law_chip","_law_terms","_law_row","_law_way","_law_cell"]
law:Fn1 K "law" "law" (top 63) t.pj ["_law_script"]
structure Fns(K:W.Frag)(t:Adr) extends Fn9 K t where
tZ:FuncData
aEC:FunT K "free" "Plain.free" jW t.aB8 t.hV tZ
aAE:jT K tZ ["self"] []
fP:FuncData
t9:FunT K "block_to_change" "Even.block_to_change" qW t.iQ t.ia fP
t8:jT K fP ["self"] []
i4:FuncData
aDU:Value
aEK:FunD K "__init__" "Chip.__init__" v5 aDU t.ip i4
aFV:jT K i4 ["self","blocks","pages","most","ills"] []
aA3:List Value
aFT:jT K i4 ["self","blocks","pages","most","ills"] aA3
aFQ:Vals [.non] aA3
aAZ:List Value
aBI:jT K i4 ["self","blocks","pages","most","ills"] aAZ
aBN:Vals [.int 1000000,.non] aAZ
iC:FuncData
aDS:Value
aD2:FunD K "__init__" "Terms.__init__" uC aDS t.iy iC
aD7:jT K iC ["self","blocks","pages","sheets","share","ill","spread"] []
aAF:List Value
aFH:jT K iC ["self","blocks","pages","sheets","share","ill","spread"] aAF
aFK:Vals [.int 1000000] aAF
aAC:List Value
aFI:jT K iC ["self","blocks","pages","sheets","share","ill","spread"] aAC
aFJ:Vals [.int 0,.int 1000000] aAC
structure HkE where
P:Program
w:World
K:W.Frag
mg:Str->Option Value
t:Adr
noncomputable def hkB(e:HkE):Prop:=∃(S:Fns e.K e.t) (base:Heap),Txt e.K e.mg e.t/\BmIn base e.mg/\¬S.law.Ok0 e.P e.w e.mg base 20 (q5N e.K [e.t.eI,e.t.eL])
instance:Nonempty HkE:=⟨⟨PySem.Challenge.pw_wornpages_k94_whole_one_deed_at_a_time,⟨λ_ _=>0,{ strHash:=λ_=>0,shareClass:=λ_=>0,mergeTok:=id,idOf:=λ_=>0,idOfShared:=λ_ _=>0,followText:=λ_=>false,idOfImm:=λ_=>0 }⟩,[],λ_=>none,by constructor<;>exact(0:Nat)⟩⟩
@[irreducible] noncomputable def hkE:HkE:=Classical.epsilon hkB
noncomputable def P:Program:=hkE.P
noncomputable def w:World:=hkE.w
noncomputable def K:W.Frag:=hkE.K
noncomputable def mg:Str->Option Value:=hkE.mg
noncomputable def t:Adr:=hkE.t
abbrev tXx:=Txt K mg t
abbrev tFf:=Fns K t
section
variable{base:Heap}
theorem qC0:FnScope ["thing"] ["thing"] (qF (top 3)):=qP
theorem qAK:FnScope ["thing","low","high"] ["thing","low","high"] (qF (top 4)):=qP
theorem qC1:FnScope ["blocks","pages"] ["blocks","pages"] (qF (top 5)):=qP
theorem qC2:FnScope ["thing"] ["thing"] (qF (top 6)):=qP
theorem qD9:FnScope ["stamp","name"] ["stamp","name"] (qF (top 10)):=qP
theorem qC3:FnScope ["mark"] ["mark"] (qF (top 11)):=qP
theorem qDA:FnScope ["mark"] ["mark"] (qF (top 12)):=qP
theorem q1Y:FnScope ["sheets","bits","sheet"] ["sheets"] (qF (top 13)):=qP
theorem qAL:FnScope ["bits"] ["bits"] (qF (top 14)):=qP
theorem qAM:FnScope ["self","blocks","pages"] ["self","blocks","pages"] (qF (qM (top 16) 0)):=qP
theorem qAN:FnScope ["self","name"] ["self","name"] (qF (qM (top 16) 1)):=qP
theorem q57:FnScope ["self","page","name","block"] ["self","page","name"] (qF (qM (top 16) 2)):=qP
theorem q2V:FnScope ["self","name","page"] ["self","name"] (qF (qM (top 16) 3)):=qP
theorem q6I:FnScope ["self","block"] ["self","block"] (qF (qM (top 16) 4)):=qP
theorem q5Z:FnScope ["self","stamp"] ["self","stamp"] (qF (qM (top 16) 5)):=qP
theorem q48:FnScope ["self","block"] ["self","block"] (qF (qM (top 16) 6)):=qP
theorem qAO:FnScope ["self"] ["self"] (qF (qM (top 16) 7)):=qP
theorem q8Q:FnScope ["self","chip","terms"] ["self","chip","terms"] (qF (qM (top 31) 0)):=qP
theorem q8R:FnScope ["self"] ["self"] (qF (qM (top 31) 1)):=qP
theorem q3R:FnScope ["self","clear"] ["self"] (qF jW):=qP
theorem q3S:FnScope ["self","block"] ["self"] (qF (qM (top 31) 3)):=qP
theorem q0Y:FnScope ["self","part","free"] ["self"] (qF (qM (top 31) 4)):=qP
theorem q2W:FnScope ["self","spare"] ["self"] (qF (qM (top 31) 6)):=qP
theorem q0I:FnScope ["self","name","value","page"] ["self","name","value"] (qF (qM (top 31) 8)):=qP
theorem q84:FnScope ["self","sheet","value"] ["self","sheet","value"] (qF (qM (top 31) 10)):=qP
theorem yN:FnScope ["self","sheets","sheet","held","gone"] ["self","sheets"] (qF (qM (top 31) 11)):=qP
theorem q8S:FnScope ["self","sheet"] ["self","sheet"] (qF (qM (top 31) 12)):=qP
theorem q8T:FnScope ["self"] ["self"] (qF (qM (top 31) 13)):=qP
theorem q2X:FnScope ["self","sheet"] ["self","sheet"] (qF (qM (top 31) 14)):=qP
theorem zF:FnScope ["self","sheet","held"] ["self","sheet"] (qF (qM (top 31) 15)):=qP
theorem qC4:FnScope ["why","options","block","moved","wiped"] ["why","options","block","moved","wiped"] (qF (top 33)):=qP
theorem q8U:FnScope ["self","chip","terms","rule"] ["self","chip","terms","rule"] (qF (qM (top 34) 0)):=qP
theorem q85:FnScope ["self","block"] ["self","block"] (qF (qM (top 34) 3)):=qP
theorem q2Y:FnScope ["self","part"] ["self"] (qF (qM (top 34) 4)):=qP
theorem yT:FnScope ["self","space","full","tallies"] ["self"] (qF (qM (top 34) 5)):=qP
theorem q18:FnScope ["self"] ["self"] (qF (qM (top 34) 6)):=qP
theorem q19:FnScope ["self","options"] ["self","options"] (qF (qM (top 34) 9)):=qP
theorem vM:FnScope ["self","block","moves","page","name"] ["self","block"] (qF (qM (top 34) 10)):=qP
theorem q1Z:FnScope ["self","page","name"] ["self","page","name"] (qF (qM (top 34) 11)):=qP
theorem q49:FnScope ["self","block"] ["self","block"] (qF (qM (top 34) 13)):=qP
theorem yE:FnScope ["self","options","chosen","moved","wiped"] ["self"] (qF (qM (top 34) 14)):=qP
theorem q3I:FnScope ["self"] ["self"] (qF (qM (top 34) 16)):=qP
theorem q8V:FnScope ["self"] ["self"] (qF (qM (top 36) 0)):=qP
theorem q0J:FnScope ["self","tallies","bound"] ["self","tallies"] (qF (qM (top 36) 2)):=qP
theorem q6J:FnScope ["self"] ["self"] (qF (qM (top 36) 3)):=qP
theorem q2Z:FnScope ["self","options"] ["self"] (qF (qM (top 36) 4)):=qP
theorem v7:FnScope ["self","tallies"] ["self"] (qF qW):=qP
theorem q60:FnScope ["self"] ["self"] (qF (qM (top 38) 0)):=qP
theorem qAP:FnScope ["self"] ["self"] (qF (qM (top 38) 1)):=qP
theorem q6K:FnScope ["self"] ["self"] (qF (qM (top 38) 2)):=qP
theorem q30:FnScope ["self","name","value","page"] ["self","name","value"] (qF (qM (top 38) 3)):=qP
theorem q0Z:FnScope ["self","name","value"] ["self","name","value"] (qF (qM (top 38) 4)):=qP
theorem q8W:FnScope ["self","block"] ["self","block"] (qF (qM (top 38) 5)):=qP
theorem q4A:FnScope ["self"] ["self"] (qF (qM (top 38) 6)):=qP
theorem q4B:FnScope ["self"] ["self"] (qF (qM (top 38) 7)):=qP
theorem uP:FnScope ["chip","marked","page","stuff"] ["chip"] (qF (top 40)):=qP
theorem uZ:FnScope ["chip","book","roll","named"] ["chip","book"] (qF (top 41)):=qP
theorem q08:FnScope ["chip","book","mark","page","sheet"] ["chip"] (qF (top 42)):=qP
theorem q86:FnScope ["chip","terms","rule","store"] ["chip","terms","rule"] (qF (top 43)):=qP
theorem zR:FnScope ["ills","blocks","limits","block","deeds"] ["ills","blocks"] (qF (top 45)):=qP
theorem qAQ:FnScope ["self","blocks","pages","most","ills"] ["self","blocks","pages","most","ills"] (qF v5):=qP
theorem q6E:FnScope ["self","page","stuff","block"] ["self","page","stuff"] (qF (qM (top 46) 1)):=qP
theorem zS:FnScope ["self","block","fails","first","page"] ["self","block"] (qF (qM (top 46) 2)):=qP
theorem qAR:FnScope ["self","page"] ["self","page"] (qF (qM (top 46) 3)):=qP
theorem q58:FnScope ["self","deeds"] ["self","deeds"] (qF (qM (top 46) 4)):=qP
theorem q61:FnScope ["self"] ["self"] (qF (qM (top 46) 5)):=qP
theorem q6L:FnScope ["self"] ["self"] (qF (qM (top 46) 6)):=qP
theorem q6M:FnScope ["self","block"] ["self","block"] (qF (qM (top 46) 7)):=qP
theorem q87:FnScope ["self","block"] ["self","block"] (qF (qM (top 46) 8)):=qP
theorem q8X:FnScope ["self"] ["self"] (qF (qM (top 46) 9)):=qP
theorem q4C:FnScope ["self","page"] ["self","page"] (qF (qM (top 46) 10)):=qP
theorem q3J:FnScope ["self","block"] ["self","block"] (qF (qM (top 46) 11)):=qP
theorem q3K:FnScope ["self"] ["self"] (qF (qM (top 46) 12)):=qP
theorem q4D:FnScope ["self","block"] ["self","block"] (qF (qM (top 46) 13)):=qP
theorem q62:FnScope ["self","block"] ["self","block"] (qF (qM (top 46) 14)):=qP
theorem q6N:FnScope ["self","word","place","block","fails"] ["self","word","place","block","fails"] (qF (qM (top 46) 15)):=qP
theorem q31:FnScope ["rule","tally","tallies","pages","now","other"] ["rule","tally","tallies","pages","now"] (qF (top 48)):=qP
theorem vO:FnScope ["rule","tallies","pages","now","place"] ["rule","tallies","pages","now"] (qF (top 49)):=qP
theorem q4E:FnScope ["self","one","other","pages","now"] ["self","one","other","pages","now"] (qF (qM (top 50) 0)):=qP
theorem q88:FnScope ["self","tallies","pages","now"] ["self","tallies","pages","now"] (qF (qM (top 50) 1)):=qP
theorem q32:FnScope ["self","one","other","pages","now"] ["self","one","other","pages","now"] (qF (qM (top 51) 0)):=qP
theorem q33:FnScope ["self","one","other","pages","now"] ["self","one","other","pages","now"] (qF (qM (top 52) 0)):=qP
theorem uH:FnScope ["self","one","other","pages","now","gain_of_one","gain_of_other"] ["self","one","other","pages","now"] (qF (qM (top 53) 0)):=qP
theorem q8Y:FnScope ["self","blocks","pages","sheets","share","ill","spread"] ["self","blocks","pages","sheets","share","ill","spread"] (qF uC):=qP
theorem q6O:FnScope ["self"] ["self"] (qF (qM (top 55) 1)):=qP
theorem q89:FnScope ["_law_script","_law_k"] ["_law_script","_law_k"] (qF (top 57)):=qP
theorem q8A:FnScope ["_law_cell","_law_k","_law_m"] ["_law_cell","_law_k"] (qF (top 58)):=qP
theorem jN:FnScope ["_law_cell","_law_blocks","_law_pages","_law_ill","_law_most","_law_share","_law_spread"] ["_law_cell"] (qF (top 59)):=qP
theorem qC5:FnScope ["_law_cell"] ["_law_cell"] (qF (top 60)):=qP
theorem v3:FnScope ["_law_store","_law_row","_law_cell","_law_word","_law_found"] ["_law_store","_law_row","_law_cell"] (qF (top 61)):=qP
theorem yB:FnScope ["_law_chip","_law_terms","_law_row","_law_way","_law_cell","_law_sheet","_law_tries","_law_answer","_law_before","_law_many","_law_store"] ["_law_chip","_law_terms","_law_row","_law_way","_law_cell"] (qF (top 62)):=qP
theorem vP:FnScope ["_law_script","_law_row","_law_way","_law_terms","_law_chip","_law_other","_law_store","_law_k","_law_many","_law_due","_law_tried_here","_law_deeds","_law_again","_law_sheet"] ["_law_script"] (qF (top 63)):=qP
local macro_rules| `(tactic|walk_at "r")=>`(tactic|repeat (first|with_reducible refine⟨_,rfl,?_⟩|refine⟨_,rfl,?_⟩|refine(iI ?_)))
theorem qC6(T:tXx)(S:tFf):S.aDM.Ok0 P w mg base 1 qIW:=by(
refine S.aDM.F.ok0 qC0 λN A _ s H O Q E Z h=>?_
obtain⟨x,rfl,J,k⟩:=h
refine⟨_,(qC (qL (q7B (jR q4T (by rfl) T.aB5 (by kernel_rfl) (qA (pv 0) (qA (qDF rfl T.aF0 (by kernel_rfl) rfl (v:=.ty "int")) qD))) (q3U (qFI (jR q4T (by rfl) T.aB5 (by kernel_rfl) (qA (pv 0) (qA (qDF rfl T.aFX (by kernel_rfl) rfl (v:=.ty "bool")) qD)))))))),?_⟩
try dsimp-beta-proj-iota-zeta-eta only[wishK,cxK]
obtain⟨ty,q,D,I,_⟩:=J.ty (K:=K)
refine⟨_,rfl,x,_,_,ty,_,rfl,rfl,.inl q,D,_,rfl,?_⟩
have z:=qM5 x
cases qi:isI x with
|true=>rw[qi,kD rfl]at z;refine iteT ?_;refine⟨_,rfl,x,_,_,ty,_,rfl,rfl,.inl q,I,_,rfl,?_⟩;rw[z];exact k
|false=>rw[qi]at z;refine iteF ?_;have d:false=isW x:=z;rw[d];exact k)
theorem jL(T:tXx)(S:tFf):S.fL.Ok0 P w mg base 2 qGA:=by(
refine S.fL.F.ok0 qAK λI A Z s H J Q E z h=>?_
obtain⟨x,lo,hi,rfl,D,k⟩:=h
refine⟨_,(qC (qL (q7B (qU (qC6 T S).mono z rfl T.aEG T.aEJ S.aDM.b .nil qK (qA (pv 0) qD)) (q3U (qFR qFO qFO (pv 1) (pv 0) (pv 2)))))),?_⟩
try dsimp-beta-proj-iota-zeta-eta only[wishK,cxK]
refine⟨_,rfl,x,rfl,D,_,rfl,?_⟩
cases x with
|int i=>
 refine iteT ?_;refine⟨_,rfl,_,rfl,iI ⟨_,rfl,?_⟩⟩;have d:Q (V.bl (decide (lo<=i)&&decide (i<=hi))) H:=k;by_cases h1:lo<=i
 .rw[hC h1]at d ⊢;refine iteT ?_;exact⟨_,rfl,iI d⟩
 rw[kB h1]at d ⊢;refine iteF ?_;exact d
|_=>exact iteF k)
theorem q6F(T:tXx)(S:tFf):S.aCH.Ok0 P w mg base 3 qJ2:=by(
refine S.aCH.F.ok0 qC1 λI A Z s H J Q E d h=>?_
obtain⟨x,y,rfl,z,D,k⟩:=h
refine⟨_,(qC (qL (q7B (qU (jL T S).mono d rfl T.fD T.fB S.fL.b .nil qK (qA (pv 0) (qA qG (qA qG qD)))) (q3U (qU (jL T S).mono d rfl T.fD T.fB S.fL.b .nil qK (qA (pv 1) (qA qG (qA qG qD)))))))),?_⟩
try dsimp-beta-proj-iota-zeta-eta only[wishK,cxK]
refine⟨_,rfl,x,_,_,rfl,z,_,rfl,?_⟩
cases q:inB x 2 16 with
|true=>rw[q]at k;refine iteT ⟨_,rfl,y,_,_,rfl,D,k⟩
|false=>rw[q]at k;exact iteF k)
structure Gd(m:CM):Prop where
br:∀b,m.br.getD b false=false
li:∀b,valV m.lim (Sum.inl b)=none
theorem inBi{v:Int}(h1:lo<=v)(h2:v<=hi):inB (.int v) lo hi=true:=by show(decide _&&decide _)=true;rw[hC h1,hC h2];rfl
noncomputable def putC(m:CM)(p:Nat)(st:V):CM:={ m.deed "put" (p:Int) ((p:Int) / m.pg) false with bo:=m.bo.set p st }
noncomputable def wipC(m:CM)(b:Nat):CM:={ m.deed "wipe" (b:Int) (b:Int) false with bo:=clr m.bo ((b:Int)*m.pg).toNat m.pg.toNat,cl:=m.cl.set b (m.cl.getD b 0+1) }
inductive spCP(t:Adr)(vs:List V)(H:Hp)(Q:VK)(E:XK):Prop
|mk:∀c a m,∀p:Int,vs=[.ref c,.int p]->ChipAt t.bw H c a m->m.Ok->0<=p->p<=m.bl*m.pg-1->Q .non H->spCP t vs H Q E
theorem q09(T:tXx)(S:tFf):S.iE.Ok0 P w mg base 3 (spCP t):=by(
refine S.iE.F.ok0 q4C λJ A _ s H O Q E I h=>?_
obtain⟨c,a,m,p,rfl,d,ok,D,z,q⟩:=h
refine⟨_,(qC (jG (uR (yJ (qU (jL T S).mono I rfl T.fD T.fB S.fL.b .nil qK (qA (pv 1) (qA qG (qA (qN yC (qN u7 (qJ (pv 0) rfl) (qJ (pv 0) rfl)) qG) qD)))))) (qC jD) qT)),?_⟩
try dsimp-beta-proj-iota-zeta-eta only[wishK,cxK]
have Z:=ok.bl1
have N:=ok.bl2
refine⟨_,rfl,iV rfl (iF d.ins T.eQ T.fM rfl (iV rfl (iF d.ins T.eQ T.fI rfl ?_)))⟩
refine(iI ⟨.inl ⟨by lia,by lia⟩,iI ⟨.int p,_,_,rfl,.int p,_,rfl,?_⟩⟩)
rw[inBi D z]
exact iteF q)
inductive spCB(t:Adr)(vs:List V)(H:Hp)(Q:VK)(E:XK):Prop
|mk:∀c a m,∀p:Int,vs=[.ref c,.int p]->ChipAt t.bw H c a m->0<=p->p<=m.bl-1->Q .non H->spCB t vs H Q E
theorem uI(T:tXx)(S:tFf):S.fQ.Ok0 P w mg base 3 (spCB t):=by(
refine S.fQ.F.ok0 q3J λJ A Z s H N Q E D h=>?_
obtain⟨c,a,m,p,rfl,I,z,d,q⟩:=h
refine⟨_,(qC (jG (uR (yJ (qU (jL T S).mono D rfl T.fD T.fB S.fL.b .nil qK (qA (pv 1) (qA qG (qA (qN yC (qJ (pv 0) rfl) qG) qD)))))) (qC jD) qT)),?_⟩
try dsimp-beta-proj-iota-zeta-eta only[wishK,cxK]
refine⟨_,rfl,iV rfl (iF I.ins T.eQ T.fM rfl (iI ⟨.int p,_,_,rfl,.int p,_,rfl,?_⟩))⟩
rw[inBi z d]
exact iteF q)
inductive spID(t:Adr)(vs:List V)(H:Hp)(Q:VK)(E:XK):Prop
|mk:∀c a m,vs=[.ref c]->ChipAt t.bw H c a m->Q (.bl (decide (m.lf=some 0))) H->spID t vs H Q E
theorem q6P(T:tXx)(S:tFf):S.aAK.Ok0 P w mg base 1 (spID t):=by(
refine S.aAK.F.ok0 q6L λz A Z s H I Q E D h=>?_
obtain⟨c,a,m,rfl,d,q⟩:=h
refine⟨_,(qC (qL (v9 zV (qJ (pv 0) rfl) qG (qV _)))),?_⟩
refine⟨_,rfl,c,_,a.dx,_,_,rfl,d.ins,T.eQ,T.fG,rfl,qJ1,?_⟩
rw[lf0]
exact q)
inductive spPW(t:Adr)(vs:List V)(H:Hp)(Q:VK)(E:XK):Prop
|mk:∀c a m,vs=[.ref c]->ChipAt t.bw H c a m->(if m.lf=some 0 then E (.ref t.dy) none H else Q .non H)->spPW t vs H Q E
theorem zN(T:tXx)(S:tFf):S.fX.OkE P w mg base 2 (spPW t):=by(
refine S.fX.F.okE q3K λJ A outer s H I Q E D h=>?_
obtain⟨c,a,m,rfl,d,q⟩:=h
refine⟨_,(qC (jG (yJ (qR (pv 0) T.eQ T.aDB (q6P T S).mono D S.aAK.b .nil qK)) (qC (q4S qZ rfl rfl T.aB6 T.aEL (qA uQ qD))) qT)),?_⟩
try dsimp-beta-proj-iota-zeta-eta only[wishK,cxK]
refine(iV rfl (iM d.ins rfl ⟨c,a,m,rfl,d,_,rfl,?_⟩))
by_cases z:m.lf=some 0
.rw[kD z]at q;rw[hC z];exact iteT ⟨sz1,q⟩
rw[hU z]at q
rw[kB z]
exact iteF q)
inductive spCD(t:Adr)(vs:List V)(H:Hp)(Q:VK)(E:XK):Prop
|mk:∀c a m b,vs=[.ref c,.int b]->ChipAt t.bw H c a m->m.Ok->Gd m->0<=b->b<m.bl->(if m.lf=some 0 then E (.ref t.dy) none H else Q .non H)->spCD t vs H Q E
set_option tactic.hygienic true in
theorem q0A(T:tXx)(S:tFf):S.iD.OkE P w mg base 3 (spCD t):=by(
refine S.iD.F.okE q4D λN A outer s H D Q E I h=>?_
obtain⟨c,a,m,b,rfl,d,ok,g,J,Z,q⟩:=h
refine⟨_,(qB (j8 (v4 qZ (pv 0) T.eQ T.o6 (zN T S).mono I S.fX.b .nil)) (qC (jG (yJ (qX jC (qJ (pv 0) rfl) (pv 1) (λz z=>rfl))) (qC jD) qT))),?_⟩
try dsimp-beta-proj-iota-zeta-eta only[wishK,cxK]
have O:=ok.nbr
refine(iV rfl (iM d.ins rfl ⟨c,a,m,rfl,d,?_⟩))
split
.rename_i z;rw[kD z]at q;exact q
rename_i z
rw[hU z]at q
refine(iV rfl (iF d.ins T.eQ T.tI rfl ⟨_,rfl,iL (k:=b) (v:=_) (SqL.of d.br) (getB J (by lia)) ⟨_,rfl,?_⟩⟩))
rw[g.br]
exact iteF q)
inductive spIS(t:Adr)(vs:List V)(H:Hp)(Q:VK)(E:XK):Prop
|mk:∀c a m b,vs=[.ref c,.int b]->ChipAt t.bw H c a m->Gd m->Q (.bl false) H->spIS t vs H Q E
theorem q1A(T:tXx)(S:tFf):S.oA.Ok0 P w mg base 1 (spIS t):=by(
refine S.oA.F.ok0 q62 λI A Z s H J Q E D h=>?_
obtain⟨c,a,m,b,rfl,z,g,q⟩:=h
have d:=q6C D
refine⟨_,(qC (qL (q7B (qL7 (qG7 d (pv 1) (qJ (pv 0) rfl))) (q3U (v9 qDK (qX jC (qJ (pv 0) rfl) (pv 1) (λZ Z=>rfl)) (q6W d (qJ (pv 0) rfl) (pv 1) (λZ Z=>rfl)) (qV _)))))),?_⟩
try dsimp-beta-proj-iota-zeta-eta only[wishK,cxK]
refine⟨_,rfl,iV rfl (iF z.ins T.eQ T.aAV rfl ⟨a.li,_,rfl,DGet.k (k:=Sum.inl b) z.li,_,rfl,?_⟩)⟩
rw[g.li]
exact iteF q)
inductive spDD(t:Adr)(vs:List V)(H:Hp)(Q:VK)(E:XK):Prop
|mk:∀c a m w pl b,vs=[.ref c,.str w,.int pl,.int b,.bl false]->ChipAt t.bw H c a m->m.Ok->m.rc.length<1000000->0<=b->b<m.bl->(∀H',ChipAt t.bw H' c a (m.deed w pl b false)->Keep (foot c a) H H'->Q .non H')->spDD t vs H Q E
theorem q23(T:tXx)(S:tFf):S.o7.Ok0 P w mg base 3 (spDD t):=by(
refine S.o7.F.ok0 q6N λad A _ s H vs Q E hr h=>?_
obtain⟨c,a,m,w,Z,b,rfl,N,ok,O,b0,b1,q⟩:=h
refine⟨_,(qA9 (jG (qS q4O (qJ (pv 0) rfl) yZ (qV _)) (qC (q9A (pv 0) qG qLG)) qT) (qB (q4M (qJ (pv 0) rfl) (pv 3) q2B qG q7E uJ) (qB (j8 (qDO cA wP wQ q13 (qJ (pv 0) rfl) (qA (yP (qA (pv 1) (qA (pv 2) (qA (qFI (pv 4)) qD)))) qD q4U))) (qC (jG (yJ (pv 4)) (qB jD (qC jD)) qT))))),?_⟩
try dsimp-beta-proj-iota-zeta-eta only[wishK,cxK]
have nd:=ok.ndc
refine⟨λae H1=>ae=[some (.ref c),some (.str w),some (.int Z),some (.int b),some (.bl false)]/\ChipAt t.bw H1 c a { m with lf:=m.lf.map (· - 1) }/\Keep (foot c a) H H1,?_,?_⟩
.refine⟨_,rfl,c,_,a.dx,_,_,rfl,N.ins,T.eQ,T.fG,rfl,rfl,_,rfl,?_⟩;cases hl:m.lf with
 |none=>refine iteF ⟨rfl,?_,Keep.refl⟩;show ChipAt t.bw H c a { m with lf:=none };rw[<-hl];exact N
 |some i=>refine iteT ?_;refine⟨_,rfl,c,_,a.dx,_,_,rfl,N.ins,T.eQ,T.fG,(by unfold chF;rw[hl];rfl),iI ⟨a.dx,_,N.ins,by show 10<1000;decide,?_⟩⟩;refine⟨rfl,N.setLf (some (i-1)),Keep.upd N.ins (λd z=>by cases z) (by simp[foot])⟩
rintro _ H1 ⟨rfl,D,k1⟩
refine(iV rfl (iF D.ins T.eQ T.oR rfl ⟨_,rfl,iL (k:=b) (v:=_) (SqL.of D.dc) (getI b0 (by show b<(m.dc.length:Int);lia)) (iI ⟨a.dc,_,b,b.toNat,rfl,rfl,D.dc,by rw[kI];exact ixOk b0 (by show b<(m.dc.length:Int);lia),?_⟩)⟩))
rw[<-aE]
have I:=D.setDc (m.dc.set b.toNat (m.dc.getD b.toNat 0+1))
have k2:Keep (foot c a) H (upd H1 a.dc (.lst ((m.dc.set b.toNat (m.dc.getD b.toNat 0+1)).map V.int))):=k1.trans (Keep.upd D.dc (λd z=>by cases z) (by simp[foot]))
generalize upd H1 a.dc (.lst ((m.dc.set b.toNat (m.dc.getD b.toNat 0+1)).map V.int))=H2 at I k2 ⊢
obtain⟨rs,er,pr⟩:=I.rc
have ln:rs.length<=1000000:=by rw[pr.len];exact sL O
refine(iV rfl (iF I.ins T.eQ T.tG rfl ⟨.inl ⟨rfl,_,SqL.of er⟩,_,rfl,_,rfl,_,rfl,_,rfl,sz3,λp H3 np sm hp=>?_⟩))
have J:=sm _ _ er
refine⟨a.rc,rs,_,rfl,rfl,J,rJ ln (by decide),?_⟩
exact⟨_,rfl,_,rfl,iteF (q _ ((I.same sm).addRc (d:=(w,Z,!false)) J hp) ((k2.trans (Keep.same sm)).trans (Keep.upd (o:=.lst (rs++[.ref p])) J (λd z=>by cases z) (by simp[foot]))))⟩)
inductive spPut(t:Adr)(vs:List V)(H:Hp)(Q:VK)(E:XK):Prop
|mk:∀c a m,∀p:Nat,∀st,vs=[.ref c,.int (p:Int),st]->ChipAt t.bw H c a m->m.Ok->m.rc.length<1000000->Gd m->(p:Int)<=m.bl*m.pg-1->m.bo.getD p .non=.non->(m.lf=some 0->E (.ref t.dy) none H)->(m.lf≠some 0->∀H',ChipAt t.bw H' c a (putC m p st)->Keep (foot c a) H H'->Q .non H')->spPut t vs H Q E
theorem qC7(T:tXx)(S:tFf):S.aDJ.OkE P w mg base 4 (spPut t):=by(
refine S.aDJ.F.okE q6E λai A outer s H vs Q E J h=>?_
obtain⟨c,a,m,p,st,rfl,d,ok,N,g,O,hw,dk,q⟩:=h
refine⟨_,(qB (j8 (j9 (pv 0) T.eQ T.tJ (q09 T S).mono J S.iE.b .nil qK (qA (pv 1) qD))) (qB (qO (i:=3) q6E.nd (qN vZ (pv 1) (qJ (pv 0) rfl))) (qB (j8 (jF qZ (pv 0) T.eQ T.tL (q0A T S).mono J S.iD.b .nil (qA (pv 3) qD))) (qB (jG (qS q4O (qX jC (qJ (pv 0) rfl) (pv 1) (λz z=>rfl)) yZ (qV _)) (qC jD) qT) (qB (j8 (j9 (pv 0) T.eQ T.aAX (q23 T S).mono J S.o7.b .nil qK (qA uQ (qA (pv 1) (qA (pv 3) (qA (j9 (pv 0) T.eQ T.aAO (q1A T S).mono J S.oA.b .nil qK (qA (pv 3) qD)) qD)))))) (qC (q7D (pv 2) (q7C (qJ (pv 0) rfl) (pv 1) uJ)))))))),?_⟩
try dsimp-beta-proj-iota-zeta-eta only[wishK,cxK]
have ae:=ok.pg1
have ah:=ok.pg2
have ab:=ok.nbo
have I:(0:Int)<=p:=by lia
obtain⟨Z,b1⟩:=qMA ok I O
refine(iV rfl (iM d.ins rfl ⟨_,rfl,c,a,m,p,rfl,d,ok,I,O,?_⟩))
refine⟨_,rfl,iV rfl (iF d.ins T.eQ T.fI rfl (iI ⟨⟨by lia,by lia⟩,?_⟩))⟩
refine(iV rfl (iM d.ins rfl ⟨_,rfl,c,a,m,_,rfl,d,ok,g,Z,b1,?_⟩))
by_cases z:m.lf=some 0
.rw[kD z];exact dk z
rw[hU z]
have q:=q z
refine(iV rfl (iF d.ins T.eQ T.iK rfl ⟨_,rfl,iL (k:=p) (v:=_) (SqL.of d.bo) (getV I (by lia)) ⟨rfl,_,rfl,?_⟩⟩))
rw[kQ,hC hw]
refine iteF ?_
refine(iV rfl (iM d.ins rfl ⟨_,rfl,_,rfl,iV rfl (iM d.ins rfl ⟨_,rfl,c,a,m,_,rfl,d,g,?_⟩)⟩))
refine⟨c,a,m,"put",p,_,rfl,d,ok,N,Z,b1,λH' D k'=>?_⟩
refine⟨_,rfl,iV rfl (iF D.ins T.eQ T.iK rfl ⟨_,rfl,a.bo,_,p,p,rfl,rfl,D.bo,ixOk I (by show(p:Int)<(m.bo.length:Int);lia),?_⟩)⟩
exact q _ (D.setBo (m.bo.set p st)) (k'.trans (Keep.upd D.bo (λd z=>by cases z) (by simp[foot]))))
inductive spRead(t:Adr)(vs:List V)(H:Hp)(Q:VK)(E:XK):Prop
|mk:∀c a m,∀p:Int,vs=[.ref c,.int p]->ChipAt t.bw H c a m->m.Ok->0<=p->p<=m.bl*m.pg-1->(m.lf=some 0->E (.ref t.dy) none H)->(m.lf≠some 0->Q (m.bo.getD p.toNat .non) H)->spRead t vs H Q E
theorem vQ(T:tXx)(S:tFf):S.oJ.OkE P w mg base 4 (spRead t):=by(
refine S.oJ.F.okE qAR λaa A outer s H O Q E I h=>?_
obtain⟨c,a,m,p,rfl,d,ok,D,N,Z,q⟩:=h
refine⟨_,(qB (j8 (j9 (pv 0) T.eQ T.tJ (q09 T S).mono I S.iE.b .nil qK (qA (pv 1) qD))) (qB (j8 (v4 qZ (pv 0) T.eQ T.o6 (zN T S).mono I S.fX.b .nil)) (qC (qL (qX jC (qJ (pv 0) rfl) (pv 1) (λz z=>rfl)))))),?_⟩
try dsimp-beta-proj-iota-zeta-eta only[wishK,cxK]
have J:=ok.nbo
refine(iV rfl (iM d.ins rfl ⟨_,rfl,c,a,m,p,rfl,d,ok,D,N,iV rfl (iM d.ins rfl ⟨c,a,m,rfl,d,?_⟩)⟩))
by_cases z:m.lf=some 0
.rw[kD z];exact Z z
rw[hU z]
exact(iV rfl (iF d.ins T.eQ T.iK rfl ⟨_,rfl,iL (k:=p) (v:=_) (SqL.of d.bo) (getV D (by lia)) (q z)⟩)))
inductive spCl(t:Adr)(vs:List V)(H:Hp)(Q:VK)(E:XK):Prop
|mk:∀c a m b,vs=[.ref c,.int b]->ChipAt t.bw H c a m->m.Ok->0<=b->b<=m.bl-1->Q (.int (m.cl.getD b.toNat 0)) H->spCl t vs H Q E
theorem zM(T:tXx)(S:tFf):S.i6.Ok0 P w mg base 4 (spCl t):=by(
refine S.i6.F.ok0 q6M λJ A Z s H N Q E D h=>?_
obtain⟨c,a,m,b,rfl,d,ok,z,I,q⟩:=h
refine⟨_,(qB (j8 (j9 (pv 0) T.eQ T.iJ (uI T S).mono D S.fQ.b .nil qK (qA (pv 1) qD))) (qC (qL (qX jC (qJ (pv 0) rfl) (pv 1) (λZ Z=>rfl))))),?_⟩
try dsimp-beta-proj-iota-zeta-eta only[wishK,cxK]
have n:=ok.ncl
exact(iV rfl (iM d.ins rfl ⟨_,rfl,c,a,m,b,rfl,d,z,I,iV rfl (iF d.ins T.eQ T.fU rfl ⟨_,rfl,iL (k:=b) (v:=_) (SqL.of d.cl) (getI z (by lia)) q⟩)⟩)))
inductive spFa(t:Adr)(vs:List V)(H:Hp)(Q:VK)(E:XK):Prop
|mk:∀c a m b,vs=[.ref c,.int b]->ChipAt t.bw H c a m->m.Ok->0<=b->b<=m.bl-1->Q (.bl (m.br.getD b.toNat false)) H->spFa t vs H Q E
theorem q8B(T:tXx)(S:tFf):S.aA7.Ok0 P w mg base 4 (spFa t):=by(
refine S.aA7.F.ok0 q87 λJ A Z s H N Q E D h=>?_
obtain⟨c,a,m,b,rfl,d,ok,z,I,q⟩:=h
refine⟨_,(qB (j8 (j9 (pv 0) T.eQ T.iJ (uI T S).mono D S.fQ.b .nil qK (qA (pv 1) qD))) (qC (qL (qX jC (qJ (pv 0) rfl) (pv 1) (λZ Z=>rfl))))),?_⟩
try dsimp-beta-proj-iota-zeta-eta only[wishK,cxK]
have n:=ok.nbr
exact(iV rfl (iM d.ins rfl ⟨_,rfl,c,a,m,b,rfl,d,z,I,iV rfl (iF d.ins T.eQ T.tI rfl ⟨_,rfl,iL (k:=b) (v:=_) (SqL.of d.br) (getB z (by lia)) q⟩)⟩)))
inductive spDe(t:Adr)(vs:List V)(H:Hp)(Q:VK)(E:XK):Prop
|mk:∀c a m,vs=[.ref c]->ChipAt t.bw H c a m->(∀rs,H a.rc=some (.lst rs)->Recd H rs m.rc->NewO H (.lst rs) Q)->spDe t vs H Q E
theorem yU(T:tXx)(S:tFf):S.iA.Ok0 P w mg base 1 (spDe t):=by(
refine S.iA.F.ok0 q8X λD A Z s H J Q E N h=>?_
obtain⟨c,a,m,rfl,z,q⟩:=h
refine⟨_,(qC (qL (q5H q0M (by rfl) T.aFB (by kernel_rfl) (qA (qJ (pv 0) rfl) qD)))),?_⟩
try dsimp-beta-proj-iota-zeta-eta only[wishK,cxK]
obtain⟨rs,d,I⟩:=z.rc
exact(iV rfl (iF z.ins T.eQ T.tG rfl ⟨a.rc,rs,rfl,.inl (SqL.of d),q rs d I⟩)))
inductive spOn(t:Adr)(vs:List V)(H:Hp)(Q:VK)(E:XK):Prop
|mk:∀c a m,vs=[.ref c]->ChipAt t.bw H c a m->(∀H',ChipAt t.bw H' c a { m with lf:=none }->Keep (foot c a) H H'->Q .non H')->spOn t vs H Q E
theorem q63(T:tXx)(S:tFf):S.tY.Ok0 P w mg base 1 (spOn t):=by(
refine S.tY.F.ok0 q61 λD A Z s H J Q E I h=>?_
obtain⟨c,a,m,rfl,d,q⟩:=h
refine⟨_,(qC (jK (pv 0) yZ rfl)),?_⟩
refine⟨_,rfl,c,_,a.dx,_,rfl,d.ins,T.eQ,T.fG,(by show 10<1000;decide),?_⟩
exact q _ (d.setLf none) (Keep.upd d.ins (λZ z=>by cases z) (by simp[foot])))
inductive spCut(t:Adr)(vs:List V)(H:Hp)(Q:VK)(E:XK):Prop
|mk:∀c a m,∀i:Int,vs=[.ref c,.int i]->ChipAt t.bw H c a m->0<=i->i<=1000000->(∀H',ChipAt t.bw H' c a { m with lf:=some i }->Keep (foot c a) H H'->Q .non H')->spCut t vs H Q E
theorem q59(T:tXx)(S:tFf):S.tH.Ok0 P w mg base 3 (spCut t):=by(
refine S.tH.F.ok0 q58 λN A Z s H O Q E J h=>?_
obtain⟨c,a,m,i,rfl,d,I,D,q⟩:=h
refine⟨_,(qB (jG (uR (yJ (qU (jL T S).mono J rfl T.fD T.fB S.fL.b .nil qK (qA (pv 1) (qA qG (qA (yO rfl T.aAJ ⟨_,rfl⟩ (v:=.int 1000000)) qD)))))) (qC jD) qT) (qC (jK (pv 0) (pv 1) rfl))),?_⟩
try dsimp-beta-proj-iota-zeta-eta only[wishK,cxK]
refine⟨_,rfl,.int i,_,_,rfl,.int i,_,rfl,?_⟩
rw[inBi I D]
exact iteF ⟨_,rfl,_,rfl,c,_,a.dx,_,rfl,d.ins,T.eQ,T.fG,by show 10<1000;decide,q _ (d.setLf (some i)) (Keep.upd d.ins (λZ z=>by cases z) (by simp[foot]))⟩)
inductive spWipe(t:Adr)(vs:List V)(H:Hp)(Q:VK)(E:XK):Prop
|mk:∀c a m,∀b:Nat,vs=[.ref c,.int (b:Int)]->ChipAt t.bw H c a m->m.Ok->m.rc.length<1000000->Gd m->(b:Int)<=m.bl-1->m.cl.getD b 0<m.mo->(m.lf=some 0->E (.ref t.dy) none H)->(m.lf≠some 0->∀H',ChipAt t.bw H' c a (wipC m b)->Keep (foot c a) H H'->Q .non H')->spWipe t vs H Q E
theorem qAS(T:tXx)(S:tFf):S.aCO.OkE P w mg base 4 (spWipe t):=by(
refine S.aCO.F.okE zS λag A outer s H vs Q E J h=>?_
obtain⟨c,a,m,b,rfl,d,ok,ac,g,b1,hm,dk,q⟩:=h
refine⟨_,(qB (j8 (j9 (pv 0) T.eQ T.iJ (uI T S).mono J S.fQ.b .nil qK (qA (pv 1) qD))) (qB (j8 (jF qZ (pv 0) T.eQ T.tL (q0A T S).mono J S.iD.b .nil (qA (pv 1) qD))) (qB (qO (i:=2) zS.nd (qKN (j9 (pv 0) T.eQ T.aAO (q1A T S).mono J S.oA.b .nil qK (qA (pv 1) qD)) (q3U (v9 qDK (qX jC (qJ (pv 0) rfl) (pv 1) (λz z=>rfl)) (qJ (pv 0) rfl) (qV _))))) (qB (j8 (j9 (pv 0) T.eQ T.aAX (q23 T S).mono J S.o7.b .nil qK (qA uQ (qA (pv 1) (qA (pv 1) (qA (pv 2) qD)))))) (qB (qO (i:=3) zS.nd (qN u7 (pv 1) (qJ (pv 0) rfl))) (qB (vS dP rfl (q97 rfl T.aBX (qA (pv 3) (qA (qN uS (pv 3) (qJ (pv 0) rfl)) qD))) (jE (i:=4) zS.nd) (qC (q7D yZ (q7C (qJ (pv 0) rfl) (pv 4) uJ)))) (qC (q4M (qJ (pv 0) rfl) (pv 1) q2B qG q7E uJ)))))))),?_⟩
try dsimp-beta-proj-iota-zeta-eta only[wishK,cxK]
have D:(0:Int)<=b:=by lia
have am:=ok.pg1
have aa:=ok.pg2
have N:=ok.bl2
have al:=ok.nbo
have an:=ok.ncl
refine(iV rfl (iM d.ins rfl ⟨_,rfl,c,a,m,b,rfl,d,D,b1,?_⟩))
refine(iV rfl (iM d.ins rfl ⟨_,rfl,c,a,m,b,rfl,d,ok,g,D,by lia,?_⟩))
by_cases z:m.lf=some 0
.rw[kD z];exact dk z
rw[hU z]
have q:=q z
refine(iV rfl (iM d.ins rfl ⟨_,rfl,c,a,m,b,rfl,d,g,_,rfl,iteF ?_⟩))
refine(iV rfl (iF d.ins T.eQ T.fU rfl ⟨_,rfl,iL (k:=b) (v:=_) (SqL.of d.cl) (getI D (by lia)) (iV rfl (iF d.ins T.eQ T.aB7 rfl (iI ?_)))⟩))
show q3N 2 (V.bl (decide (m.mo<=m.cl.getD b 0))) _ _ _
rw[kB (by lia)]
refine(iV rfl (iM d.ins rfl ⟨_,rfl,_,rfl,_,rfl,c,a,m,"wipe",b,b,rfl,d,ok,ac,D,by lia,λH' I k'=>?_⟩))
have bp:b*m.pg+m.pg<=m.bl*m.pg:=by have:=pX (show(b:Int)+1<=m.bl by lia) (show 0<=m.pg by lia);rw[Int.add_mul,Int.one_mul]at this;exact this
have bq:0<=b*m.pg:=lY D (by lia)
have ad:m.bl*m.pg<=256:=by have:=nE N aa (by lia) (by decide);lia
refine⟨_,rfl,_,rfl,c,_,a.dx,_,.int m.pg,rfl,I.ins,T.eQ,T.fI,rfl,iI ⟨.inl ⟨by lia,by lia⟩,?_⟩⟩
refine⟨_,rfl,_,rfl,_,rfl,c,_,a.dx,_,.int m.pg,rfl,I.ins,T.eQ,T.fI,rfl,iI ⟨_,_,rfl,⟨by lia,by lia,by lia,by lia⟩,?_⟩⟩
refine q3A (λi O H1=>∃y,O=[some (.ref c),some (.int b),some (.bl false),some (.int (b*m.pg)),y]/\ChipAt t.bw H1 c a { m.deed "wipe" b b false with bo:=clr m.bo (b*m.pg).toNat i }/\Keep (foot c a) H H1) ⟨_,rfl,I,k'⟩ (λi O H1 hi hp=>?_) (λO H1 hp=>?_)
.obtain⟨y,rfl,h1,Z⟩:=hp;have ae:(i:Int)<m.pg:=by have:i<(b*m.pg+m.pg-b*m.pg).toNat:=hi;lia
 refine(iV rfl (iF h1.ins T.eQ T.iK rfl ⟨_,rfl,a.bo,_,_,(b*m.pg+i).toNat,rfl,rfl,h1.bo,ixOk (by lia) (by rw[q6Z];lia),?_⟩));have e:(b*m.pg+(i:Int)).toNat=(b*m.pg).toNat+i:=by lia
 rw[e];exact⟨_,rfl,h1.setBo _,Z.trans (Keep.upd h1.bo (λd z=>by cases z) (by simp[foot]))⟩
obtain⟨y,rfl,h1,Z⟩:=hp
have e:(b*m.pg+m.pg-b*m.pg).toNat=m.pg.toNat:=by lia
rw[e]at h1
refine(iV rfl (iF h1.ins T.eQ T.fU rfl ⟨_,rfl,iL (k:=b) (v:=_) (SqL.of h1.cl) (getI D (by show(b:Int)<(m.cl.length:Int);lia)) (iI ⟨a.cl,_,b,b,rfl,rfl,h1.cl,by rw[kI];exact ixOk D (by show(b:Int)<(m.cl.length:Int);lia),?_⟩)⟩))
rw[<-aE]
exact q _ (h1.setCl _) (Z.trans (Keep.upd h1.cl (λd z=>by cases z) (by simp[foot]))))
inductive spLim(K:W.Frag)(vs:List V)(H:Hp)(Q:VK)(E:XK):Prop
|mk:∀l bl,vs=[.ref l,.int bl]->SqL K H l []->NewO H (.dK []) Q->spLim K vs H Q E
theorem qAT(T:tXx)(S:tFf):S.aCV.Ok0 P w mg base 3 (spLim K):=by(
refine S.aCV.F.ok0 zR λN A _ s H O Q E Z h=>?_
obtain⟨l,J,rfl,sq,q⟩:=h
refine⟨_,(qB (qO (i:=2) zR.nd qBB) (qB (vS rT rfl (yA (pv 0)) (qA3 rfl (zB (jE (i:=3) zR.nd) (zB (jE (i:=4) zR.nd) q6U))) (qB jD (qB jD (qB jD (qC jD))))) (qC (qL (pv 2))))),?_⟩
try dsimp-beta-proj-iota-zeta-eta only[wishK,cxK]
refine λp np=>?_
have s0:Same H (upd H p (.dK [])):=Same.upd np
refine⟨_,rfl,l,rfl,⟨[],s0.seq sq⟩,v8 (K:=K) (xs:=[]) (λZ d H1=>(∃y z,d=[some (.ref l),some (.int J),some (.ref p),y,z])/\H1=upd H p (.dK [])) ⟨⟨_,_,rfl⟩,rfl⟩ (λi d H1 z D=>by rw[D.2];exact s0.seq sq) (λi x d H1 I z=>by simp at I) (λd H1 D=>?_)⟩
obtain⟨⟨y,z,rfl⟩,rfl⟩:=D
exact⟨_,rfl,q p _ np s0 qI⟩)
structure Wm(C x dx:Addr)(H G:Hp)(fs:List (Str×V))(os:List (Addr×HO)):Prop where
i:G x=some (.ins C dx fs)
u:Up x H G
o:∀p∈os,G p.1=some p.2/\H p.1=none/\p.1≠x
n:(os.map (·.1)).Nodup
section
variable{C x dx:Addr}{H G B:Hp}{fs fs':List (Str×V)}{os:List (Addr×HO)}
theorem Wm.same(h:Wm C x dx H G fs os)(s:Same G B):Wm C x dx H B fs os:=⟨s _ _ h.i,λb o n e=>s _ _ (h.u b o n e),λp hp=>⟨s _ _ (h.o p hp).1,(h.o p hp).2⟩,h.n⟩
theorem Wm.add(h:Wm C x dx H G fs os){a:Addr}{o:HO}(na:G a=none)(s:Same G B)(e:B a=some o):Wm C x dx H B fs (os++[(a,o)]):=by(
have D:a≠x:=λz=>by rw[z,h.i]at na;lia
have w:=h.same s
refine⟨w.i,w.u,λp d=>?_,?_⟩
.rcases gN.mp d with d|d
 .exact w.o p d
 rw[kE.mp d];exact⟨e,Up.free h.u D na,D⟩
rw[m8]
refine dO.mpr ⟨h.n,by simp,λb J c I=>?_⟩
obtain⟨p,d,rfl⟩:=kZ.mp J
obtain rfl:c=a:=by simpa using I
exact qH (h.o p d).1 na)
theorem Wm.set(h:Wm C x dx H G fs os):Wm C x dx H (upd G x (.ins C dx fs')) fs' os:=⟨qI,λb o n e=>by rw[qE n];exact h.u b o n e,λp hp=>⟨by rw[qE (h.o p hp).2.2];exact(h.o p hp).1,(h.o p hp).2⟩,h.n⟩
theorem Wm.fr(h:Wm C x dx H G fs os)(a:Addr)(ha:a∈os.map (·.1)):H a=none:=by obtain⟨p,d,rfl⟩:=kZ.mp ha;exact(h.o p d).2.1
theorem Wm.put(h:Wm C x dx H G fs os)(f:Str)(v:V):Wm C x dx H (upd G x (.ins C dx (putF f v fs))) (putF f v fs) os:=h.set
end
inductive spMk(t:Adr)(vs:List V)(H:Hp)(Q:VK)(E:XK):Prop
|mk:∀x dx,∀b p m:Int,vs=[.ref x,.int b,.int p,.int m,.non]->H x=some (.ins t.bw dx [])->2<=b->b<=16->1<=p->p<=16->0<=m->m<=1000000->(∀a H',ChipAt t.bw H' x a (CM.new b p m [])->(∀b∈[a.li,a.bo,a.cl,a.dc,a.br,a.rc],H b=none)->Up x H H'->Q .non H')->spMk t vs H Q E
theorem q5A(T:tXx)(S:tFf):FnOk P w K mg base (CX0) 4 t.ip S.i4 ["self","blocks","pages","most","ills"] (spMk t):=by(
refine S.aEK.ok0 qAQ λax A _ s H vs Q E hr h=>?_
obtain⟨x,dx,b,p,m,rfl,hx,b1,b2,p1,p2,m1,m2,q⟩:=h
refine⟨_,(qB (jG (uR (yJ (qU (q6F T S).mono hr rfl T.aCJ T.aC2 S.aCH.b .nil qK (qA (pv 1) (qA (pv 2) qD))))) (qC jD) qT) (qB (jG (uR (yJ (qU (jL T S).mono hr rfl T.fD T.fB S.fL.b .nil qK (qA (pv 3) (qA qG (qA (yO rfl T.aAJ ⟨_,rfl⟩ (v:=.int 1000000)) qD)))))) (qC jD) qT) (qB (jK (pv 0) (pv 1) rfl) (qB (jK (pv 0) (pv 2) rfl) (qB (jK (pv 0) (pv 3) rfl) (qB (jK (pv 0) (qU (qAT T S).mono hr rfl T.aD4 T.aDV S.aCV.b .nil qK (qA (qFJ (qS qA4 (pv 4) yZ (qV _)) (jY qD) (pv 4)) (qA (pv 1) qD))) rfl) (qB (jK (pv 0) (qN q1H (jY (qA yZ qD)) (qN u7 (pv 1) (pv 2))) rfl) (qB (jK (pv 0) (qN q1H (jY (qA qG qD)) (pv 1)) rfl) (qB (jK (pv 0) (qN q1H (jY (qA qG qD)) (pv 1)) rfl) (qB (jK (pv 0) (qN q1H (jY (qA q7A qD)) (pv 1)) rfl) (qB (jK (pv 0) yZ rfl) (qC (jK (pv 0) (jY qD) rfl))))))))))))),?_⟩
try dsimp-beta-proj-iota-zeta-eta only[wishK,cxK]
refine⟨_,rfl,_,rfl,.int b,.int p,rfl,.int b,.int p,_,rfl,?_⟩
rw[inBi b1 b2,inBi p1 p2]
refine iteF ?_
refine⟨_,rfl,.int m,_,_,rfl,.int m,_,rfl,?_⟩
rw[inBi m1 m2]
refine iteF ?_
have bp:b*p<=256:=nE b2 p2 (by lia) (by decide)
have a6:0<=b*p:=lY (by lia) (by lia)
refine⟨_,rfl,_,rfl,x,_,dx,_,rfl,hx,T.eQ,T.fM,by simp,?_⟩
have w1:Wm t.bw x dx H (upd H x (.ins t.bw dx (putF "blocks" (.int b) []))) (putF "blocks" (.int b) []) []:=⟨qI,Up.of (Same.refl H),by simp,by simp⟩
refine⟨_,rfl,_,rfl,x,_,dx,_,rfl,w1.i,T.eQ,T.fI,by show 1<1000;decide,?_⟩
have w2:=w1.put "pages" (.int p)
refine⟨_,rfl,_,rfl,x,_,dx,_,rfl,w2.i,T.eQ,T.aB7,by show 2<1000;decide,?_⟩
have w3:=w2.put "most" (.int m)
refine⟨_,rfl,rfl,_,rfl,iteT ⟨sz0,λl0 H2 n0 s0 e0=>?_⟩⟩
refine⟨_,rfl,l0,b,rfl,SqL.of e0,λI H3 n1 s1 e1=>?_⟩
have O:=(w3.same s0).add n1 s1 e1
refine⟨_,rfl,x,_,dx,_,rfl,O.i,T.eQ,T.aAV,by show 3<1000;decide,?_⟩
have O:=O.put "limits" (.ref I)
refine⟨sz1,λd A1 n1 s1 e1=>⟨_,rfl,_,rfl,iI ⟨.inl ⟨by lia,by lia⟩,d,_,_,rfl,rfl,e1,by lia,by lia,λD B1 m1 r1 ae=>?_⟩⟩⟩
have w5:=(O.same s1).add m1 r1 ae
refine⟨_,rfl,x,_,dx,_,rfl,w5.i,T.eQ,T.iK,by show 4<1000;decide,?_⟩
have w5:=w5.put "borne" (.ref D)
refine⟨sz1,λd A2 n2 s2 e2=>⟨_,rfl,d,_,_,rfl,rfl,e2,by lia,by lia,λcl B2 m2 r2 al=>?_⟩⟩
have w6:=(w5.same s2).add m2 r2 al
refine⟨_,rfl,x,_,dx,_,rfl,w6.i,T.eQ,T.fU,by show 5<1000;decide,?_⟩
have w6:=w6.put "clearings" (.ref cl)
refine⟨sz1,λd A3 n3 s3 e3=>⟨_,rfl,d,_,_,rfl,rfl,e3,by lia,by lia,λz B3 m3 r3 ac=>?_⟩⟩
have Z:=(w6.same s3).add m3 r3 ac
refine⟨_,rfl,x,_,dx,_,rfl,Z.i,T.eQ,T.oR,by show 6<1000;decide,?_⟩
have Z:=Z.put "deed_counts" (.ref z)
refine⟨sz1,λd A4 n4 s4 e4=>⟨_,rfl,d,_,_,rfl,rfl,e4,by lia,by lia,λN B4 m4 r4 aj=>?_⟩⟩
have J:=(Z.same s4).add m4 r4 aj
refine⟨_,rfl,x,_,dx,_,rfl,J.i,T.eQ,T.tI,by show 7<1000;decide,?_⟩
have J:=J.put "broken" (.ref N)
refine⟨_,rfl,x,_,dx,_,rfl,J.i,T.eQ,T.fG,by show 8<1000;decide,?_⟩
have w9:=J.put "deeds_left" .non
refine⟨sz0,λrc B5 m5 r5 am=>?_⟩
have w:=w9.add m5 r5 am
refine⟨_,rfl,x,_,dx,_,rfl,w.i,T.eQ,T.tG,by show 9<1000;decide,?_⟩
have w:=w.set (fs':=chF ⟨dx,I,D,cl,z,N,rc⟩ (CM.new b p m []))
refine q ⟨dx,I,D,cl,z,N,rc⟩ _ ⟨w.i,(w.o (I,.dK []) (by simp)).1,(w.o (D,.lst (List.replicate (b*p).toNat .non)) (by simp)).1,?_,?_,?_,⟨[],(w.o (rc,.lst []) (by simp)).1,.nil⟩,(gD.mp (show(I::[D,cl,z,N,rc]).Nodup from w.n)).2⟩ (λb' ag=>w.fr b' ag) w.u
.show _=some (HO.lst ((List.replicate b.toNat (0:Int)).map V.int));rw[pE];exact(w.o (cl,.lst (List.replicate b.toNat (.int 0))) (by simp)).1
.show _=some (HO.lst ((List.replicate b.toNat (0:Int)).map V.int));rw[pE];exact(w.o (z,.lst (List.replicate b.toNat (.int 0))) (by simp)).1
show _=some (HO.lst ((List.replicate b.toNat false).map V.bl))
rw[pE]
exact(w.o (N,.lst (List.replicate b.toNat (.bl false))) (by simp)).1)
theorem q34(T:tXx)(S:tFf):S.tV.Ok0 P w mg base 1 (qM6 K):=by(
refine S.tV.F.ok0 q89 λD A Z s H I Q E J h=>?_
obtain⟨a,ns,k,rfl,z,d,q⟩:=h
refine⟨_,(qB (jG (qS q3P (pv 1) (jR jS (by rfl) T.aCT dQ (qA (pv 0) qD)) (qV _)) (qC (qL (qX jC (pv 0) (pv 1) (λZ Z=>rfl)))) qT) (qC (qL qG))),?_⟩
try dsimp-beta-proj-iota-zeta-eta only[wishK,cxK]
refine⟨_,rfl,_,rfl,a,_,rfl,.inl z,_,_,rfl,rfl,_,rfl,?_⟩
rw[kI]
by_cases h1:k<(ns.length:Int)
.rw[hC h1];refine iteT ?_;exact⟨_,rfl,_,rfl,a,_,k,_,rfl,rfl,z,qF3 d h1,q⟩
rw[kB h1]
refine iteF ?_
have e:=qCS d h1
rw[e]at q
exact q)
theorem qKZ{H:Hp}{bl pg mo:Int}{Q:Addr->Hp->Prop}{E:XK}(b1:2<=bl)(b2:bl<=16)(p1:1<=pg)(p2:pg<=16)(m1:0<=mo)(m2:mo<=1000000)
 (q:∀x a H',ChipAt t.bw H' x a (CM.new bl pg mo [])->Same H H'->(∀b∈a.li::foot x a,H b=none)->Q x H') (x dx:Addr) (nx:H x=none) (ndx:H dx=none) (ne:dx≠x):
 spMk t [.ref x,.int bl,.int pg,.int mo,.non] (upd (upd H dx (.own x)) x (.ins t.bw dx [])) (λv H2=>v=.non/\Q x H2) E:=by(
have s0:Same H (upd (upd H dx (.own x)) x (.ins t.bw dx [])):=λb o e=>by rw[qE (qH e nx),qE (qH e ndx)];exact e
refine⟨x,dx,bl,pg,mo,rfl,qI,b1,b2,p1,p2,m1,m2,λa H' z fr u=>⟨rfl,q x a H' z (λb o e=>u b o (qH e nx) (s0 b o e)) λb d=>?_⟩⟩
have d:b=x\/b∈[a.li,a.bo,a.cl,a.dc,a.br,a.rc]:=by simp[foot]at d ⊢;lia
rcases d with rfl|d
.exact nx
exact s0.free (fr _ d))
inductive spClo(t:Adr)(vs:List V)(H:Hp)(Q:VK)(E:XK):Prop
|mk:∀x dx fs b e,vs=[.ref x]->H x=some (.ins t.dj dx fs)->fs.lookup (Str.ofString "blocks")=some (.int b)->fs.lookup (Str.ofString "ill")=some (.int e)->Q (.int (b-1-e)) H->spClo t vs H Q E
theorem q6Q(T:tXx)(S:tFf):S.aAN.Ok0 P w mg base 1 (spClo t):=by(
refine S.aAN.F.ok0 q6O λI A Z s H J Q E N h=>?_
obtain⟨x,dx,fs,b,e,rfl,d,D,z,q⟩:=h
refine⟨_,(qC (qL (qN yC (qN yC (qJ (pv 0) rfl) qG) (qJ (pv 0) rfl)))),?_⟩
try dsimp-beta-proj-iota-zeta-eta only[wishK,cxK]
exact(iV rfl (iF d T.fA T.fR D (iI (iV rfl (iF d T.fA T.o9 z (iI q)))))))
noncomputable def teF(r0 r1 r2 r3 r4 r5:V):List (Str×V):=[("blocks",r0),("pages",r1),("sheets",r2),("share",r3),("ill",r4),("spread",r5)]
inductive spTm(t:Adr)(vs:List V)(H:Hp)(Q:VK)(E:XK):Prop
|mk:∀x dx,∀b p s r e d:Int,vs=[.ref x,.int b,.int p,.int s,.int r,.int e,.int d]->H x=some (.ins t.dj dx [])->2<=b->b<=16->1<=p->p<=16->1<=s->s<=64->1<=r->r<=(b-1-e)*p-2->0<=e->e<=b-2->1<=d->d<=1000000->(∀H',H' x=some (.ins t.dj dx (teF (.int b) (.int p) (.int s) (.int r) (.int e) (.int d)))->Up x H H'->Q .non H')->spTm t vs H Q E
theorem q8Z(T:tXx)(S:tFf):FnOk P w K mg base (CX0) 4 t.iy S.iC ["self","blocks","pages","sheets","share","ill","spread"] (spTm t):=by(
refine S.aD2.ok0 q8Y λaa A _ s H vs Q E z h=>?_
obtain⟨x,dx,b,p,s',r,e,d,rfl,hx,Z,b2,p1,p2,s1,s2,r1,r2,e1,e2,d1,d2,q⟩:=h
refine⟨_,(qB (jG (uR (yJ (qU (q6F T S).mono z rfl T.aCJ T.aC2 S.aCH.b .nil qK (qA (pv 1) (qA (pv 2) qD))))) (qC jD) qT) (qB (jG (uR (yJ (qU (jL T S).mono z rfl T.fD T.fB S.fL.b .nil qK (qA (pv 3) (qA qG (qA qG qD)))))) (qC jD) qT) (qB (jG (uR (yJ (qU (jL T S).mono z rfl T.fD T.fB S.fL.b .nil qK (qA (pv 5) (qA qG (qA (qN yC (pv 1) qG) qD)))))) (qC jD) qT) (qB (jG (uR (yJ (qU (jL T S).mono z rfl T.fD T.fB S.fL.b .nil qK (qA (pv 6) (qA qG (qA (yO rfl T.aAJ ⟨_,rfl⟩ (v:=.int 1000000)) qD)))))) (qC jD) qT) (qB (jK (pv 0) (pv 1) rfl) (qB (jK (pv 0) (pv 2) rfl) (qB (jK (pv 0) (pv 3) rfl) (qB (jK (pv 0) (pv 4) rfl) (qB (jK (pv 0) (pv 5) rfl) (qB (jK (pv 0) (pv 6) rfl) (qC (jG (uR (yJ (qU (jL T S).mono z rfl T.fD T.fB S.fL.b .nil qK (qA (pv 4) (qA qG (qA (qN yC (qN u7 (qR (pv 0) T.fA T.aDA (q6Q T S).mono z S.aAN.b .nil qK) (pv 2)) qG) qD)))))) (qC jD) qT)))))))))))),?_⟩
try dsimp-beta-proj-iota-zeta-eta only[wishK,cxK]
refine⟨_,rfl,_,rfl,.int b,.int p,rfl,.int b,.int p,_,rfl,?_⟩
rw[inBi Z b2,inBi p1 p2]
refine iteF ⟨_,rfl,.int s',_,_,rfl,.int s',_,rfl,?_⟩
rw[inBi s1 s2]
refine iteF ⟨_,rfl,_,rfl,iI ⟨.int e,_,_,rfl,.int e,_,rfl,?_⟩⟩
rw[inBi e1 e2]
refine iteF ⟨_,rfl,.int d,_,_,rfl,.int d,_,rfl,?_⟩
rw[inBi d1 d2]
refine iteF ⟨_,rfl,_,rfl,x,_,dx,_,rfl,hx,T.fA,T.fR,by simp,?_⟩
have J:Wm t.dj x dx H (upd H x (.ins t.dj dx (putF "blocks" (.int b) []))) (putF "blocks" (.int b) []) []:=⟨qI,Up.of (Same.refl H),by simp,by simp⟩
refine⟨_,rfl,_,rfl,x,_,dx,_,rfl,J.i,T.fA,T.e9,by show 1<1000;decide,?_⟩
have I:=J.put "pages" (.int p)
refine⟨_,rfl,_,rfl,x,_,dx,_,rfl,I.i,T.fA,T.aAB,by show 2<1000;decide,?_⟩
have O:=I.put "sheets" (.int s')
refine⟨_,rfl,_,rfl,x,_,dx,_,rfl,O.i,T.fA,T.aA1,by show 3<1000;decide,?_⟩
have D:=O.put "share" (.int r)
refine⟨_,rfl,_,rfl,x,_,dx,_,rfl,D.i,T.fA,T.o9,by show 4<1000;decide,?_⟩
have N:=D.put "ill" (.int e)
refine⟨_,rfl,_,rfl,x,_,dx,_,rfl,N.i,T.fA,T.aAL,by show 5<1000;decide,?_⟩
have w:=N.put "spread" (.int d)
refine⟨_,rfl,_,rfl,x,dx,_,rfl,w.i,rfl,x,dx,_,b,e,rfl,w.i,rfl,rfl,_,rfl,iI ⟨.inr ⟨by lia,by lia⟩,iI ⟨.int r,_,_,rfl,.int r,_,rfl,?_⟩⟩⟩
rw[inBi r1 r2]
exact iteF (q _ w.i w.u))
theorem qO0{H:Hp}{b p s r e d:Int}{Q:Addr->Hp->Prop}{E:XK}(b1:2<=b)(b2:b<=16)(p1:1<=p)(p2:p<=16)(s1:1<=s)(s2:s<=64)(r1:1<=r)(r2:r<=(b-1-e)*p-2)(e1:0<=e)(e2:e<=b-2)(d1:1<=d)(d2:d<=1000000)
 (q:∀x dx H',Same H H'->H' x=some (.ins t.dj dx (teF (.int b) (.int p) (.int s) (.int r) (.int e) (.int d)))->Q x H') (x dx:Addr) (nx:H x=none) (ndx:H dx=none) (ne:dx≠x):
 spTm t [.ref x,.int b,.int p,.int s,.int r,.int e,.int d] (upd (upd H dx (.own x)) x (.ins t.dj dx [])) (λv H2=>v=.non/\Q x H2) E:=by
 have s0:Same H (upd (upd H dx (.own x)) x (.ins t.dj dx [])):=λb o e=>by rw[qE (qH e nx),qE (qH e ndx)];exact e
 exact⟨x,dx,b,p,s,r,e,d,rfl,qI,b1,b2,p1,p2,s1,s2,r1,r2,e1,e2,d1,d2,λH' h u=>⟨rfl,q x dx H' (λb o e=>u b o (qH e nx) (s0 b o e)) h⟩⟩
inductive spMkO(vs:List V)(H:Hp)(Q:VK)(E_:XK):Prop
|mk:∀s n,vs=[.int s,.int n]->Q (.int (s*128+n)) H->spMkO vs H Q E_
theorem qDB(T:tXx)(S:tFf):S.aEQ.Ok0 P w mg base 1 spMkO:=by(
refine S.aEQ.F.ok0 qD9 λd A Z s H z Q E D h=>?_
obtain⟨s',n,rfl,q⟩:=h
refine⟨_,(qC (qL (qN uS (qN u7 (pv 0) (yO rfl T.aDI ⟨_,rfl⟩ (v:=.int 128))) (pv 1)))),?_⟩
exact⟨_,rfl,iI ⟨.inr ⟨by decide,by decide⟩,_,rfl,iI q⟩⟩)
structure BkA where
bk:Addr
dx:Addr
wv:Addr
lv:Addr
fi:Addr
bo:Addr
structure BkAt(t:Adr)(H:Hp)(a:BkA)(m:QM):Prop where
o:H a.bk=some (.ins t.dt a.dx [("blocks",.int (m.B:Int)),("pages",.int (m.P:Int)),("stamp",.int m.nx),("where",.ref a.wv),("live",.ref a.lv),("filled",.ref a.fi),("born",.ref a.bo)])
w:H a.wv=some (.dK (dI m.V))
l:H a.lv=some (.lst (m.lv.map V.int))
f:H a.fi=some (.lst (m.fi.map V.int))
b:H a.bo=some (.lst (m.bo.map V.int))
structure Dst(a:BkA):Prop where
lf:a.lv≠a.fi
lb:a.lv≠a.bo
fb:a.fi≠a.bo
theorem BkAt.same{t:Adr}{a:BkA}{m:QM}(h:BkAt t H a m)(s:Same H H'):BkAt t H' a m:=⟨s _ _ h.o,s _ _ h.w,s _ _ h.l,s _ _ h.f,s _ _ h.b⟩
theorem BkAt.keep{t:Adr}{a:BkA}{m:QM}{F:List Addr}(h:BkAt t H a m)(k:Keep F H H')(n:∀b∈[a.bk,a.wv,a.lv,a.fi,a.bo],b∉F):BkAt t H' a m:=⟨k.k _ _ (n _ (by simp)) h.o,k.k _ _ (n _ (by simp)) h.w,k.k _ _ (n _ (by simp)) h.l,k.k _ _ (n _ (by simp)) h.f,k.k _ _ (n _ (by simp)) h.b⟩
noncomputable def bk0(B P:Nat):QM:=⟨P,B,1,[],List.replicate B 0,List.replicate B 0,List.replicate B 0⟩
inductive spBkI(t:Adr)(vs:List V)(H:Hp)(Q:VK)(E_:XK):Prop
|mk:∀x dx B P,vs=[.ref x,.int (B:Nat),.int (P:Nat)]->B<=16->H x=some (.ins t.dt dx [])->(∀(a:BkA) H',a.bk=x->a.dx=dx->BkAt t H' a (bk0 B P)->Dst a->(∀b∈[a.wv,a.lv,a.fi,a.bo],H b=none)->(∀b o,b≠x->H b=some o->H' b=some o)->Q .non H')->spBkI t vs H Q E_
theorem q5B(T:tXx)(S:tFf):S.aBL.Ok0 P w mg base 1 (spBkI t):=by(
refine S.aBL.F.ok0 qAM λah A _ s H vs Q E hr h=>?_
obtain⟨x,dx,B,P,rfl,hB,hx,q⟩:=h
refine⟨_,(qB (jK (pv 0) (pv 1) rfl) (qB (jK (pv 0) (pv 2) rfl) (qB (jK (pv 0) qG rfl) (qB (jK (pv 0) qBB rfl) (qB (jK (pv 0) (qN q1H (jY (qA qG qD)) (pv 1)) rfl) (qB (jK (pv 0) (qN q1H (jY (qA qG qD)) (pv 1)) rfl) (qC (jK (pv 0) (qN q1H (jY (qA qG qD)) (pv 1)) rfl)))))))),?_⟩
try dsimp-beta-proj-iota-zeta-eta only[wishK,cxK]
refine⟨_,rfl,_,rfl,x,_,dx,_,rfl,hx,T.eT,T.aC8,by decide,?_⟩
refine⟨_,rfl,_,rfl,x,_,dx,_,rfl,qI,T.eT,T.i9,by show 1<1000;decide,?_⟩
refine⟨_,rfl,x,_,dx,_,rfl,qI,T.eT,T.fH,by show 2<1000;decide,?_⟩
rw[qA1,qA1]
have w1:Wm t.dt x dx H (upd H x (.ins t.dt dx (putF "stamp" (.int 1) (putF "pages" (.int (P:Int)) (putF "blocks" (.int (B:Int)) []))))) (putF "stamp" (.int 1) (putF "pages" (.int (P:Int)) (putF "blocks" (.int (B:Int)) []))) []:=⟨qI,Up.of (Same.refl H),by simp,by simp⟩
have rep:∀n:Nat,List.replicate n (V.int 0)=(List.replicate n (0:Int)).map V.int:=λn=>by rw[pE]
have eB:((B:Int)).toNat=B:=by lia
refine λZ z=>?_
have w2:=w1.add z (Same.upd (o:=.dK []) z) qI
refine⟨_,rfl,x,_,dx,_,rfl,w2.i,T.eT,T.fF,by show 3<1000;decide,?_⟩
have w2:=w2.put "where" (.ref Z)
refine⟨sz1,λN A3 n3 s3 e3=>⟨_,rfl,N,_,_,rfl,rfl,e3,by lia,by lia,λlv B3 m3 r3 J=>?_⟩⟩
rw[eB,rep]at J
have w3:=(w2.same s3).add m3 r3 J
refine⟨_,rfl,x,_,dx,_,rfl,w3.i,T.eT,T.oX,by show 4<1000;decide,?_⟩
have w3:=w3.put "live" (.ref lv)
refine⟨sz1,λN A4 n4 s4 e4=>⟨_,rfl,N,_,_,rfl,rfl,e4,by lia,by lia,λfi B4 m4 r4 I=>?_⟩⟩
rw[eB,rep]at I
have w4:=(w3.same s4).add m4 r4 I
refine⟨_,rfl,x,_,dx,_,rfl,w4.i,T.eT,T.fE,by show 5<1000;decide,?_⟩
have w4:=w4.put "filled" (.ref fi)
refine⟨sz1,λN A5 n5 s5 e5=>⟨_,rfl,N,_,_,rfl,rfl,e5,by lia,by lia,λO B5 m5 r5 D=>?_⟩⟩
rw[eB,rep]at D
have d:=(w4.same s5).add m5 r5 D
refine⟨_,rfl,x,_,dx,_,rfl,d.i,T.eT,T.o8,by show 6<1000;decide,?_⟩
have d:=d.put "born" (.ref O)
have nd:[Z,lv,fi,O].Nodup:=d.n
simp only[gD,kM,dL,not_or,cY]at nd
exact q ⟨x,dx,Z,lv,fi,O⟩ _ rfl rfl ⟨d.i,(d.o (Z,.dK []) (by simp)).1,(d.o (lv,.lst ((List.replicate B (0:Int)).map V.int)) (by simp)).1,(d.o (fi,.lst ((List.replicate B (0:Int)).map V.int)) (by simp)).1,(d.o (O,.lst ((List.replicate B (0:Int)).map V.int)) (by simp)).1⟩ ⟨nd.2.1.1,nd.2.1.2,nd.2.2.1⟩ (λb' af=>d.fr b' af) d.u)
inductive spMark(t:Adr)(vs:List V)(H:Hp)(Q:VK)(E_:XK):Prop
|mk:∀a,∀m:QM,∀n,vs=[.ref a.bk,.int n]->BkAt t H a m->Q (.int (m.nx*128+n)) H->spMark t vs H Q E_
theorem qAU(T:tXx)(S:tFf):S.aCW.Ok0 P w mg base 2 (spMark t):=by(
refine S.aCW.F.ok0 qAN λD A Z s H I Q E d h=>?_
obtain⟨a,m,n,rfl,z,q⟩:=h
refine⟨_,(qC (qL (qU (qDB T S).mono d rfl T.aEY T.aE2 S.aEQ.b .nil qK (qA (qJ (pv 0) rfl) (qA (pv 1) qD))))),?_⟩
exact(iV rfl (iF z.o T.eT T.fH rfl ⟨_,rfl,_,_,rfl,q⟩)))
inductive spFg(t:Adr)(vs:List V)(H:Hp)(Q:VK)(E_:XK):Prop
|mk:∀a,∀m:QM,∀n,vs=[.ref a.bk,.int n]->BkAt t H a m->m.Ok->Dst a->(∀H',BkAt t H' a (m.forget n)->Keep [a.wv,a.lv] H H'->Q .non H')->spFg t vs H Q E_
theorem q0B(T:tXx)(S:tFf):S.oO.Ok0 P w mg base 1 (spFg t):=by(
refine S.oO.F.ok0 q2V λai A _ s H vs Q E hr h=>?_
obtain⟨a,m,n,rfl,d,ok,ds,q⟩:=h
have hu:=q6C hr
have p1:=ok.p1
have p2:=ok.p2
have Z:a.bk≠a.wv:=jQ d.o d.w (by intro z;cases z)
have ol:a.bk≠a.lv:=jQ d.o d.l (by intro z;cases z)
have wl:a.wv≠a.lv:=jQ d.w d.l (by intro z;cases z)
have wf:a.fi≠a.wv:=jQ d.f d.w (by intro z;cases z)
have wb:a.bo≠a.wv:=jQ d.b d.w (by intro z;cases z)
refine⟨_,(qC (jG (qFH (qG7 hu (pv 1) (qJ (pv 0) rfl))) (qB (qO (i:=2) q2V.nd (qG9 (qJ (pv 0) rfl) (pv 1) ⟨rfl,rfl,rfl,rfl⟩)) (qC (q4M (qJ (pv 0) rfl) (qN vZ (pv 2) (qJ (pv 0) rfl)) q2B qG qLA uJ))) qT)),?_⟩
try dsimp-beta-proj-iota-zeta-eta only[wishK,cxK]
refine⟨_,rfl,iV rfl (iF d.o T.eT T.fF rfl ⟨a.wv,_,rfl,DGet.k (k:=Sum.inl n) d.w,_,rfl,?_⟩)⟩
rcases QM.find_V (m:=m) (n:=n)with⟨p,hp,ef⟩|⟨hn,ef⟩
.have hv:(n,p)∈m.V:=hp;rw[q1I ok.nd hv];refine iteT ?_;refine(iV rfl (iF d.o T.eT T.fF rfl ⟨a.wv,rfl,.inl ⟨_,.inl d.w⟩,_,rfl,_,Sum.inl n,_,d.w,rfl,q1I ok.nd hv,?_⟩));rw[qH0];have k1:Keep [a.wv,a.lv] H (upd H a.wv (.dK (dI (jB m.V n)))):=Keep.upd d.w (λd z=>by cases z) (by simp);have w1:(upd H a.wv (.dK (dI (jB m.V n)))) a.wv=some (.dK (dI (jB m.V n))):=qI;have D:∀b o,b≠a.wv->H b=some o->(upd H a.wv (.dK (dI (jB m.V n)))) b=some o:=λb o nb e=>by rw[qE nb];exact e
 generalize upd H a.wv (.dK (dI (jB m.V n)))=H1 at k1 w1 D ⊢;obtain⟨c,hc,J⟩:=ok.blk _ hp;have J:p / (m.P:Int)=(c:Int):=J;have N:c<m.lv.length:=by rw[ok.ll];exact hc
 have O:=D _ _ wl.symm d.l;refine(iV rfl (iF (D _ _ Z d.o) T.eT T.oX rfl ⟨_,rfl,iV rfl (iF (D _ _ Z d.o) T.eT T.i9 rfl (iI ⟨⟨by lia,by lia⟩,iL (k:=_) (v:=_) (SqL.of O) (by rw[J];exact atV N) (iI ⟨a.lv,_,_,c,rfl,rfl,O,(by rw[J];exact q5M (by rw[kI];exact N)),?_⟩)⟩))⟩));rw[setV];have el:(m.forget n).lv=m.lv.set c (m.lv.getD c 0-1):=by show BM.lvF m.P m.V m.lv n=_;unfold BM.lvF;rw[ef];show m.lv.set (p / (m.P:Int)).toNat (m.lv.getD (p / (m.P:Int)).toNat 0-1)=_;rw[J,show((c:Int)).toNat=c by lia]
 refine q _ ⟨?_,?_,?_,?_,?_⟩ (k1.trans (Keep.upd O (λd z=>by cases z) (by simp)))
 .rw[qE ol];exact D _ _ Z d.o
 .rw[qE wl];exact w1
 .rw[el];exact qI
 .rw[qE ds.lf.symm];exact D _ _ wf d.f
 rw[qE ds.lb.symm];exact D _ _ wb d.b
rw[q3Y (λz=>by obtain⟨r,I,e⟩:=kZ.mp z;exact hn r I e)]
refine iteF ?_
have el:(m.forget n).lv=m.lv:=by show BM.lvF m.P m.V m.lv n=_;unfold BM.lvF;rw[ef]
have eV:(m.forget n).V=m.V:=qJF λr I=>hn r I
exact q H ⟨d.o,by rw[eV];exact d.w,by rw[el];exact d.l,d.f,d.b⟩ Keep.refl)
theorem q8C{V:Mp}:(dI V).length=V.length:=by unfold dI;rw[kI]
inductive spNt(t:Adr)(vs:List V)(H:Hp)(Q:VK)(E_:XK):Prop
|mk:∀a,∀m:QM,∀b f n,vs=[.ref a.bk,.int ((b*m.P+f:Nat):Int),.int n]->BkAt t H a m->m.Ok->Dst a->b<m.B->f<m.P->m.fi.getD b 0=(f:Int)->(∀H',BkAt t H' a (m.put b f n)->Keep [a.bk,a.wv,a.lv,a.fi,a.bo] H H'->Q .non H')->spNt t vs H Q E_
theorem q5C(T:tXx)(S:tFf):S.aBQ.Ok0 P w mg base 2 (spNt t):=by(
refine S.aBQ.F.ok0 q57 λa7 A _ s H vs Q E hr h=>?_
obtain⟨a,m,b,f,n,rfl,d,ok,ds,hB,hf,ef,q⟩:=h
have hu:=q6C hr
have p1:=ok.p1
have p2:=ok.p2
have ob:a.bk≠a.wv:=jQ d.o d.w (by intro z;cases z)
have ol:a.bk≠a.lv:=jQ d.o d.l (by intro z;cases z)
have O:a.bk≠a.fi:=jQ d.o d.f (by intro z;cases z)
have oo:a.bk≠a.bo:=jQ d.o d.b (by intro z;cases z)
have wl:a.wv≠a.lv:=jQ d.w d.l (by intro z;cases z)
have wf:a.fi≠a.wv:=jQ d.f d.w (by intro z;cases z)
have wb:a.bo≠a.wv:=jQ d.b d.w (by intro z;cases z)
have eb:((b*m.P+f:Nat):Int) / (m.P:Int)=(b:Int):=by rw[<-g7,jZ hf]
refine⟨_,(qB (qO (i:=3) q57.nd (qN vZ (pv 1) (qJ (pv 0) rfl))) (qB (j8 (j9 (pv 0) T.eT T.tT (q0B T S).mono hr S.oO.b .nil qK (qA (pv 2) qD))) (qB (qIV hu (qJ (pv 0) rfl) (pv 2) (pv 1) rfl) (qB (q4M (qJ (pv 0) rfl) (pv 3) q2B qG q7E uJ) (qA9 (jG (qS zV (qX jC (qJ (pv 0) rfl) (pv 3) (λz z=>rfl)) qG (qV _)) (qC (q7D (qJ (pv 0) rfl) (q7C (qJ (pv 0) rfl) (pv 3) uJ))) qT) (qB (q4M (qJ (pv 0) rfl) (pv 3) q2B qG q7E uJ) (qC (q9A (pv 0) qG qLF)))))))),?_⟩
try dsimp-beta-proj-iota-zeta-eta only[wishK,cxK]
refine⟨_,rfl,iV rfl (iF d.o T.eT T.i9 rfl (iI ⟨⟨by lia,by lia⟩,?_⟩))⟩
try dsimp only
rw[eb]
refine(iV rfl (iM d.o rfl ⟨_,rfl,a,m,n,rfl,d,ok,ds,λH1 D k1=>?_⟩))
have k1:Keep [a.bk,a.wv,a.lv,a.fi,a.bo] H H1:=k1.mono (by intro x hx;simp at hx ⊢;rcases hx with rfl|rfl<;>simp)
have bd:(jB m.V n).length<=65:=mO (mK _ _) ok.lenV
have w0:H1 a.wv=some (.dK (dI (jB m.V n))):=D.w
refine⟨_,rfl,iV rfl (iF D.o T.eT T.fF rfl ⟨_,rfl,a.wv,_,rfl,.inl ⟨_,Sum.inl n,w0,rfl,(by rw[q8C];exact rJ (m:=65) (by lia) (by decide)),rfl⟩,?_⟩)⟩
rw[qJG,qF7]
have k2:Keep [a.bk,a.wv,a.lv,a.fi,a.bo] H1 (upd H1 a.wv (.dK (dI (jB m.V n++[(n,((b*m.P+f:Nat):Int))])))):=Keep.upd w0 (λd z=>by cases z) (by simp)
have w2:(upd H1 a.wv (.dK (dI (jB m.V n++[(n,((b*m.P+f:Nat):Int))])))) a.wv=some (.dK (dI (jB m.V n++[(n,((b*m.P+f:Nat):Int))]))):=qI
have u2:∀x o,x≠a.wv->H1 x=some o->(upd H1 a.wv (.dK (dI (jB m.V n++[(n,((b*m.P+f:Nat):Int))])))) x=some o:=λx o I e=>by rw[qE I];exact e
generalize upd H1 a.wv (.dK (dI (jB m.V n++[(n,((b*m.P+f:Nat):Int))])))=H2 at k2 w2 u2 ⊢
have o2:=u2 _ _ ob D.o
have l2:H2 a.lv=some (.lst ((BM.lvF m.P m.V m.lv n).map V.int)):=u2 _ _ wl.symm D.l
have f2:H2 a.fi=some (.lst (m.fi.map V.int)):=u2 _ _ wf D.f
have b2:H2 a.bo=some (.lst (m.bo.map V.int)):=u2 _ _ wb D.b
have Z:b<(BM.lvF m.P m.V m.lv n).length:=by rw[show(BM.lvF m.P m.V m.lv n).length=m.B from(ok.forget n).ll];exact hB
have J:b<m.fi.length:=by rw[ok.lf];exact hB
have ah:b<m.bo.length:=by rw[ok.lo];exact hB
refine(iV rfl (iF o2 T.eT T.oX rfl ⟨_,rfl,iL (k:=_) (v:=_) (SqL.of l2) (atV Z) (iI ⟨a.lv,_,_,b,rfl,rfl,l2,q5M (by rw[kI];exact Z),?_⟩)⟩))
rw[setV]
have k3:Keep [a.bk,a.wv,a.lv,a.fi,a.bo] H2 (upd H2 a.lv (.lst (((BM.lvF m.P m.V m.lv n).set b ((BM.lvF m.P m.V m.lv n).getD b 0+1)).map V.int))):=Keep.upd l2 (λd z=>by cases z) (by simp)
have l3:(upd H2 a.lv (.lst (((BM.lvF m.P m.V m.lv n).set b ((BM.lvF m.P m.V m.lv n).getD b 0+1)).map V.int))) a.lv=some (.lst (((BM.lvF m.P m.V m.lv n).set b ((BM.lvF m.P m.V m.lv n).getD b 0+1)).map V.int)):=qI
have u3:∀x o,x≠a.lv->H2 x=some o->(upd H2 a.lv (.lst (((BM.lvF m.P m.V m.lv n).set b ((BM.lvF m.P m.V m.lv n).getD b 0+1)).map V.int))) x=some o:=λx o I e=>by rw[qE I];exact e
generalize upd H2 a.lv (.lst (((BM.lvF m.P m.V m.lv n).set b ((BM.lvF m.P m.V m.lv n).getD b 0+1)).map V.int))=H3 at k3 l3 u3 ⊢
have o3:=u3 _ _ ol o2
have w3:=u3 _ _ wl w2
have f3:=u3 _ _ ds.lf.symm f2
have b3:=u3 _ _ ds.lb.symm b2
refine⟨λas H'=>as=[some (.ref a.bk),some (.int ((b*m.P+f:Nat):Int)),some (.int n),some (.int (b:Int))]/\Keep [a.bk,a.wv,a.lv,a.fi,a.bo] H3 H'/\H' a.bo=some (.lst ((m.put b f n).bo.map V.int))/\∀x o,x≠a.bo->H3 x=some o->H' x=some o,?_,?_⟩
.refine(iV rfl (iF o3 T.eT T.fE rfl ⟨_,rfl,iL (k:=_) (v:=_) (SqL.of f3) (atV J) ⟨rfl,_,rfl,?_⟩⟩));rw[zX];by_cases z:m.fi.getD b 0=0
 .rw[hC z];refine iteT ?_;refine(iV rfl (iF o3 T.eT T.fH rfl (iV rfl (iF o3 T.eT T.o8 rfl ⟨_,rfl,a.bo,_,_,b,rfl,rfl,b3,q5M (by rw[kI];exact ah),?_⟩))));rw[setV];refine⟨rfl,Keep.upd b3 (λd z=>by cases z) (by simp),?_,λx o I e=>by rw[qE I];exact e⟩;rw[qI];show _=some (HO.lst ((if m.fi.getD b 0=0 then m.bo.set b m.nx else m.bo).map V.int));rw[kD z];rfl
 rw[kB z];refine iteF ⟨rfl,Keep.refl,?_,λx o z e=>e⟩;show _=some (HO.lst ((if m.fi.getD b 0=0 then m.bo.set b m.nx else m.bo).map V.int));rw[hU z];exact b3
rintro as N ⟨rfl,k4,b4,u4⟩
have o4:=u4 _ _ oo o3
have w4:=u4 _ _ wb.symm w3
have l4:=u4 _ _ ds.lb l3
have f4:=u4 _ _ ds.fb f3
refine(iV rfl (iF o4 T.eT T.fE rfl ⟨_,rfl,iL (k:=_) (v:=_) (SqL.of f4) (atV J) (iI ⟨a.fi,_,_,b,rfl,rfl,f4,q5M (by rw[kI];exact J),?_⟩)⟩))
rw[setV]
have k5:Keep [a.bk,a.wv,a.lv,a.fi,a.bo] N (upd N a.fi (.lst ((m.fi.set b (m.fi.getD b 0+1)).map V.int))):=Keep.upd f4 (λd z=>by cases z) (by simp)
have f5:(upd N a.fi (.lst ((m.fi.set b (m.fi.getD b 0+1)).map V.int))) a.fi=some (.lst ((m.fi.set b (m.fi.getD b 0+1)).map V.int)):=qI
have u5:∀x o,x≠a.fi->N x=some o->(upd N a.fi (.lst ((m.fi.set b (m.fi.getD b 0+1)).map V.int))) x=some o:=λx o I e=>by rw[qE I];exact e
generalize upd N a.fi (.lst ((m.fi.set b (m.fi.getD b 0+1)).map V.int))=H5 at k5 f5 u5 ⊢
have o5:=u5 _ _ O o4
refine⟨_,rfl,a.bk,_,a.dx,_,_,rfl,o5,T.eT,T.fH,rfl,_,_,rfl,rfl,a.dx,_,o5,by show 7<1000;decide,?_⟩
refine q _ ⟨?_,?_,?_,?_,?_⟩ ((((k1.trans k2).trans k3).trans k4).trans (k5.trans (Keep.upd o5 (λd z=>by cases z) (by simp))))
.exact qI
.rw[qE ob.symm];exact u5 _ _ wf.symm w4
.rw[qE ol.symm];exact u5 _ _ ds.lf l4
.rw[qE O.symm];exact f5
rw[qE oo.symm]
exact u5 _ _ ds.fb.symm b4)
noncomputable def lamE:Expr:=match((jV jW).getLast?:Option Stmt)with
|some (Stmt.Return (some (Expr.Call _ _ (k::_) _)) _)=>k.value
|_=>Expr.Name "" ⟨0,0,0,0⟩
noncomputable abbrev lamA:Arguments:=match lamE with
| .Lambda a _ _ _=>a
|_=>yH jW
noncomputable abbrev lamB:Expr:=match lamE with
| .Lambda _ b _ _=>b
|_=>lamE
noncomputable abbrev qIC:Scope:=match lamE with
| .Lambda _ _ s _=>s
|_=>qF jW
noncomputable abbrev lamP:Pos:=match lamE with
| .Lambda _ _ _ p=>p
|_=>⟨0,0,0,0⟩
noncomputable abbrev lamQ:Str:=(PyProof.Rows.envOfC "Plain.free" (qF jW) 0 0 .none).qual++"<lambda>"
noncomputable abbrev q8D(clos:List (Str×Addr))(pm ct:Value)(c:Addr):FuncData:=W.kla_fn "<lambda>" lamQ lamA lamB qIC clos pm (.ref c) ct
noncomputable def tri(c:Addr):Array Value:=#[rawInt lamP.line,rawInt lamP.col,.ref c]
noncomputable def lbE:Expr:=match((jV qW).getLast?:Option Stmt)with
|some (Stmt.Return (some (Expr.Subscript (Expr.Call _ _ (k::_) _) _ _)) _)=>k.value
|_=>Expr.Name "" ⟨0,0,0,0⟩
noncomputable abbrev lbA:Arguments:=match lbE with
| .Lambda a _ _ _=>a
|_=>yH qW
noncomputable abbrev lbB:Expr:=match lbE with
| .Lambda _ b _ _=>b
|_=>lbE
noncomputable abbrev lbSc:Scope:=match lbE with
| .Lambda _ _ s _=>s
|_=>qF qW
noncomputable abbrev lbP:Pos:=match lbE with
| .Lambda _ _ _ p=>p
|_=>⟨0,0,0,0⟩
noncomputable abbrev lbQ:Str:=(PyProof.Rows.envOfC "Even.block_to_change" (qF qW) 0 0 .none).qual++"<lambda>"
noncomputable abbrev lbFd(pm ct:Value)(c:Addr):FuncData:=W.kla_fn "<lambda>" lbQ lbA lbB lbSc [] pm (.ref c) ct
noncomputable def triB(c:Addr):Array Value:=#[rawInt lbP.line,rawInt lbP.col,.ref c]
noncomputable def TbB(t:Adr)(H:Hp):Prop:=∃ps,H t.eL=some (.tbl ps)/\(ps=#[]\/∃c,ps=triB c/\H c=some (cdO c lbQ))
noncomputable def TbF(t:Adr)(H:Hp):Prop:=∃ps,H t.eI=some (.tbl ps)/\(ps=#[]\/∃c,ps=tri c/\H c=some (cdO c lamQ))/\TbB t H
noncomputable def Tex(o:HO):Prop:=(∃ps,o=.tbl ps)\/∃p,o=.ext p
theorem TbB.gen{t:Adr}(h:TbB t H)(k:∀b o,Tex o->H b=some o->H' b=some o):TbB t H':=by(
obtain⟨ps,hT,h⟩:=h
refine⟨ps,k _ _ (.inl ⟨_,rfl⟩) hT,?_⟩
rcases h with h|⟨c,h,a⟩
.exact .inl h
exact .inr ⟨c,h,k _ _ (.inr ⟨_,rfl⟩) a⟩)
theorem TbF.gen{t:Adr}(h:TbF t H)(k:∀b o,Tex o->H b=some o->H' b=some o):TbF t H':=by(
obtain⟨ps,hT,h,d⟩:=h
refine⟨ps,k _ _ (.inl ⟨_,rfl⟩) hT,?_,d.gen k⟩
rcases h with h|⟨c,h,a⟩
.exact .inl h
exact .inr ⟨c,h,k _ _ (.inr ⟨_,rfl⟩) a⟩)
theorem TbF.same{t:Adr}(s:Same H H')(h:TbF t H):TbF t H':=h.gen λz z z e=>s _ _ e
theorem yX{H:Hp}{b c:Addr}{o o':HO}(x:Tex o)(e:H b=some o)(e':H c=some o')(n:¬Tex o'):b≠c:=λz=>by rw[z,e']at e;exact n (by rw[kU e];exact x)
theorem q20{fs:List (Str×V)}:¬Tex (.ins C d fs):=λz=>by rcases z with⟨_,z⟩|⟨_,z⟩<;>cases z
theorem zT:¬Tex (.lst xs):=λz=>by rcases z with⟨_,z⟩|⟨_,z⟩<;>cases z
structure Sto where
s:Addr
sd:Addr
tm:Addr
td:Addr
c:Addr
a:CA
k:BkA
ru:V
pa:V
noncomputable def bf(k:BkA):List Addr:=[k.bk,k.wv,k.lv,k.fi,k.bo]
noncomputable def sf(x:Sto):List Addr:=foot x.c x.a++bf x.k
structure Fit(m:CM)(q:QM):Prop where
ok:m.Ok
oq:q.Ok
eB:m.bl=(q.B:Int)
eP:m.pg=(q.P:Int)
br:m.br=noB q.B
structure StAt(t:Adr)(H:Hp)(x:Sto)(r2 r3 r4 r5:V)(m:CM)(q:QM):Prop where
o:H x.s=some (.ins t.ck x.sd [("chip",.ref x.c),("terms",.ref x.tm),("book",.ref x.k.bk),("rule",x.ru),("papers",x.pa)])
te:H x.tm=some (.ins t.dj x.td (teF (.int m.bl) (.int m.pg) r2 r3 r4 r5))
ch:ChipAt t.bw H x.c x.a m
bk:BkAt t H x.k q
tb:TbF t H
ds:Dst x.k
d1:∀b∈x.a.li::foot x.c x.a,b∉bf x.k
d2:∀b∈[x.s,x.tm],b∉sf x
section
variable{H H':Hp}{x:Sto}{r2 r3 r4 r5:V}{m:CM}{q:QM}
theorem StAt.same(h:StAt t H x r2 r3 r4 r5 m q)(s:Same H H'):StAt t H' x r2 r3 r4 r5 m q:=⟨s _ _ h.o,s _ _ h.te,h.ch.same s,h.bk.same s,h.tb.same s,h.ds,h.d1,h.d2⟩
theorem TbF.ne(h:TbF t H){b:Addr}{o:HO}(e:H b=some o)(n:∀ps,o≠ .tbl ps):b≠t.eI:=λz=>by obtain⟨ps,hT,_⟩:=h;rw[z,hT]at e;exact n ps (kU e).symm
theorem StAt.nT(h:StAt t H x r2 r3 r4 r5 m q):∀b∈[x.s,x.tm]++(x.a.li::sf x),b∉[t.eI]:=by(
intro b d z
have z:b=t.eI:=by simpa using z
have ne:∀{b:Addr} {o:HO},H b=some o->(∀ps,o≠ .tbl ps)->b≠t.eI:=λe n=>h.tb.ne e n
obtain⟨rs,D,_⟩:=h.ch.rc
have d:=by simpa[sf,bf,foot]using d
rcases d with y|y|y|y|y|y|y|y|y|y|y|y|y|y<;>rw[y]at z
.exact ne h.o (λZ z=>by cases z) z
.exact ne h.te (λZ z=>by cases z) z
.exact ne h.ch.li (λZ z=>by cases z) z
.exact ne h.ch.ins (λZ z=>by cases z) z
.exact ne h.ch.bo (λZ z=>by cases z) z
.exact ne h.ch.cl (λZ z=>by cases z) z
.exact ne h.ch.dc (λZ z=>by cases z) z
.exact ne h.ch.br (λZ z=>by cases z) z
.exact ne D (λZ z=>by cases z) z
.exact ne h.bk.o (λZ z=>by cases z) z
.exact ne h.bk.w (λZ z=>by cases z) z
.exact ne h.bk.l (λZ z=>by cases z) z
.exact ne h.bk.f (λZ z=>by cases z) z
exact ne h.bk.b (λZ z=>by cases z) z)
theorem StAt.nX(h:StAt t H x r2 r3 r4 r5 m q){b:Addr}{o:HO}(e:H b=some o)(to:Tex o):b∉[x.s,x.tm]++(x.a.li::sf x):=λhb=>by(
obtain⟨rs,er,_⟩:=h.ch.rc
have hb:=by simpa[sf,bf,foot]using hb
rcases hb with y|y|y|y|y|y|y|y|y|y|y|y|y|y
.exact yX to e h.o q20 y
.exact yX to e h.te q20 y
.exact yX to e h.ch.li (λz=>by rcases z with⟨_,z⟩|⟨_,z⟩<;>cases z) y
.exact yX to e h.ch.ins q20 y
.exact yX to e h.ch.bo zT y
.exact yX to e h.ch.cl zT y
.exact yX to e h.ch.dc zT y
.exact yX to e h.ch.br zT y
.exact yX to e er zT y
.exact yX to e h.bk.o q20 y
.exact yX to e h.bk.w (λz=>by rcases z with⟨_,z⟩|⟨_,z⟩<;>cases z) y
.exact yX to e h.bk.l zT y
.exact yX to e h.bk.f zT y
exact yX to e h.bk.b zT y)
theorem StAt.keep(h:StAt t H x r2 r3 r4 r5 m q){F:List Addr}(k:Keep F H H')(n:∀b∈[x.s,x.tm]++(x.a.li::sf x),b∉F)(tb:TbF t H'):StAt t H' x r2 r3 r4 r5 m q:=⟨k.k _ _ (n _ (by simp)) h.o,k.k _ _ (n _ (by simp)) h.te,h.ch.keep k (λb hb=>n b (by
  rcases kM.mp hb with rfl|hb
  .simp
  .simp[sf,hb])),h.bk.keep k (λb hb=>n b (by
  have hb:b∈bf x.k:=hb;simp[sf,hb])),tb,h.ds,h.d1,h.d2⟩
theorem StAt.kT(h:StAt t H x r2 r3 r4 r5 m q)(k:Keep [t.eI] H H')(tb:TbF t H'):StAt t H' x r2 r3 r4 r5 m q:=h.keep k h.nT tb
end
inductive spGd(t:Adr)(vs:List V)(H:Hp)(Q:VK)(E_:XK):Prop
|mk:∀x r2 r3 r4 r5 m q,vs=[.ref x.s]->StAt t H x r2 r3 r4 r5 m q->Fit m q->NewO H (.lst ((uK q.B m.br).map vn)) Q->spGd t vs H Q E_
theorem uL(T:tXx)(S:tFf):S.iY.Ok0 P w mg base 5 (spGd t):=by(
refine S.iY.F.ok0 q8R λae A _ s H vs Q E hr h=>?_
obtain⟨x,r2,r3,r4,r5,m,q,rfl,J,Z,k⟩:=h
have b2:=Z.oq.b2
have eB:=Z.eB
refine⟨_,(qC (qL (vA ["self","block"] [0] rfl (q39 rfl T.aBX (qA (qJ (qJ (pv 0) rfl) rfl) qD)) (λz z z z z=>(jE (i:=1) (show List.Nodup (["self","block"]:List Str)from by decide))) (λz z z z z=>(uM (uR (yJ (j9 (uN (K:=K) rfl (pv 0) rfl) T.eQ T.aDR (q8B T S).mono hr S.aA7.b .nil qK (qA (pv 1) qD)))))) (λz z z z z=>(pv 1)) (by kernel_rfl) (yL (by decide))))),?_⟩
try dsimp-beta-proj-iota-zeta-eta only[wishK,cxK]
refine(iV rfl (iF J.o T.eO T.eU rfl (iF J.te T.fA T.fR rfl ⟨m.bl,rfl,by lia,by lia,λD H2 nD s2 hD=>?_⟩)))
refine qF8 (D:=D) (λi d=>Same H d/\d D=some (.lst (((List.range i).filter λb=>!(m.br.getD b false)).map vn))) ⟨s2,hD⟩ (λi d hi O=>?_) (λd O=>?_)
.obtain⟨sm,I⟩:=O;have hi:i<q.B:=by lia
 have N:=J.same sm;refine(iV rfl (iF N.o T.eO T.fK rfl (iM N.ch.ins rfl ⟨_,rfl,x.c,x.a,m,_,rfl,N.ch,Z.ok,by lia,by lia,?_⟩)));rw[show(0+(i:Int)).toNat=i by lia,Int.zero_add];refine⟨_,rfl,?_⟩;rw[sF,gX,m8];cases z:m.br.getD i false with
 |true=>refine iteF ⟨sm,?_⟩;rw[I,gH,z];simp
 |false=>
  refine iteT ?_;refine⟨_,rfl,_,I,?_,λb o e=>?_,?_⟩
  .rw[kI];have:((List.range i).filter λb=>!(m.br.getD b false)).length<=i:=mO (mK _ _) (by rw[m7];exact kO _);have:(16:Nat)<sizeLine:=by decide
   lia
  .rw[qE (qH e nD)];exact sm _ _ e
  rw[qI,gH,z];rfl
obtain⟨sm,I⟩:=O
rw[show m.bl.toNat=q.B by lia]at I
exact k D d nD sm I)
inductive spLm(t:Adr)(x:Sto)(g c:Addr)(fd:FuncData)(vs:List V)(H:Hp)(Q:VK)(E_:XK):Prop
|mk:∀r2 r3 r4 r5,∀m:CM,∀q:QM,∀b:Nat,vs=[.int (b:Int)]->StAt t H x r2 r3 r4 r5 m q->Fit m q->b<q.B->H g=some (fnO g fd)->H c=some (cdO c lamQ)->(∀tp H',H tp=none->Same H H'->H' tp=some (.tup [.int (m.cl.getD b 0),.int (b:Int)])->Q (.ref tp) H')->spLm t x g c fd vs H Q E_
theorem qMV(T:tXx)(S:tFf){c:Addr}{x:Sto}(hc:base.IsCell ca (some (.ref x.s))):
 FnOk P w K mg base CX0 5 g (q8D [("self",ca)] pm ct c) ["block"] (spLm t x g c (q8D [("self",ca)] pm ct c)):=by(
refine qJI (k:=4) (x0:="block") (fvs:=[.ref x.s]) (qFA (u:=.ref x.s) rfl rfl rfl (by decide+kernel) (by decide+kernel) (by decide+kernel) rfl hc) (λJ H Q E h=>?_) (λJ H Q E h=>?_) (λA outer s H I Q E N h=>?_)
.repeat obtain⟨_,h⟩:=h
 all_goals subst_vars;rfl
.obtain⟨r2,r3,r4,r5,m,q,b,rfl,_,_,_,a,d,_⟩:=h;exact⟨a,d⟩
obtain⟨r2,r3,r4,r5,m,q,b,e,z,D,O,_,_,k⟩:=h
obtain rfl:I=.int (b:Int):=by simpa using e
have Z:=D.eB
refine⟨_,yP (qA (j9 (qJ (pv 1) rfl) T.eQ T.tD (zM T S).mono N S.i6.b .nil qK (qA (pv 0) qD)) (qA (pv 0) qD)),?_⟩
refine(iV rfl (iF z.o T.eO T.fK rfl (iM z.ch.ins rfl ⟨_,rfl,x.c,x.a,m,_,rfl,z.ch,D.ok,by lia,by lia,?_⟩)))
rw[kQ]
exact⟨_,rfl,sz2,k⟩)
theorem qFF{c:Addr}:jT K (q8D clos pm ct c) ["block"] []:=jT.all λus hl=>match us,hl with| [_],_=>rfl
theorem qKE(T:tXx)(h:TbF t H):∃ps,H t.eI=some (.tbl ps)/\TriplesOk ps.toList/\((codeAmong lamP ps.toList=none/\∀c H',H' t.eI=some (.tbl (ps++tri c))->H' c=some (cdO c lamQ)->(∀b o,b≠t.eI->H b=some o->H' b=some o)->TbF t H')\/∃c,codeAmong lamP ps.toList=some (.ref c)/\H c=some (cdO c lamQ)):=by(
obtain⟨ps,hT,h,S⟩:=h
rcases h with rfl|⟨c,rfl,a⟩
.refine⟨_,hT,trivial,.inl ⟨rfl,λc H' O N k=>⟨_,O,.inr ⟨c,rfl,N⟩,?_⟩⟩⟩;obtain⟨I,d,h'⟩:=S;refine⟨I,k _ _ (T.aA4.symm) d,?_⟩;rcases h' with h'|⟨J,h',D⟩
 .exact .inl h'
 exact .inr ⟨J,h',k _ _ (λz=>by rw[z,hT]at D;cases D) D⟩
exact⟨_,hT,trivial,.inr ⟨c,rfl,a⟩⟩)
theorem qA0(T:tXx)(S:tFf){cells:List (Str×Addr)}{f:Addr}{x:Sto}{m:CM}(hσ:σ[0]?=some (some (.ref x.s)))(hcl:∀ca,cells.lookup ("self":Str)=some ca->clos=[(("self":Str),ca)])
 (hs:StAt t H4 x r2 r3 r4 r5 m q) (ft:Fit m q) (hD:H4 D=some (.lst ((u8 q.B m.br q.fi).map vn))) (hf:H4 f=some (fnO f (q8D clos pm ct c'))) (hc:H4 c'=some (cdO c' lamQ)) (k:∀l p H',FreeIs q.B m.br m.cl q.fi l->H4 p=none->Same H4 H'->H' p=some (.lst (l.map vn))->Q (.ref p) H'):
 ∃(f':Addr) (fd:FuncData) (sp:Heap->Sp),V.ref f=.ref f'/\(∀base',(∀b o,base.get? b=some o->base'.get? b=some o)->q2F cells σ base' [(0,"self")]->FnOk P w K mg base' CX0 5 f' fd ["block"] (sp base'))/\jT K fd ["block"] []/\∃(l:Addr) (us:List V) (Pv:Nat->List V->Hp->Prop),[V.ref D]=[.ref l]/\SqL K H4 l us/\us.length<64/\Pv 0 [] H4/\(∀base' i x zs H',q2F cells σ base' [(0,"self")]->us[i]?=some x->Pv i zs H'->sp base' [x] H' (λz H''=>Pv (i+1) (zs++[z]) H'') E0)/\∀zs H',zs.length=us.length->Pv us.length zs H'->∃kk m,Paired (TupI K H') zs kk/\(∀k∈kk,k.length=m)/\0<m/\∀q:List Nat,q.Perm (List.range us.length)->(q.map λi=>kk.getD i []).Pairwise (λa b=>lx b a=false)->NewO H' (.lst (q.map λi=>us.getD i .non)) Q:=by(
have b2:=ft.oq.b2
have ln:=qFC (B:=q.B) (br:=m.br) (fi:=q.fi)
refine⟨f,q8D clos pm ct c',λ_=>spLm t x f c' (q8D clos pm ct c'),rfl,λbase' _ cv=>?_,qFF,D,_,λi zs H'=>Same H4 H'/\Paired (TupD H') zs (((u8 q.B m.br q.fi).take i).map (keyN m.cl)),rfl,SqL.of hD,by rw[kI];lia,⟨Same.refl H4,.nil⟩,λbase' i y zs H' _ hy hp=>?_,λzs H' lz hp=>?_⟩
.obtain⟨ca,u,hk,ru,d⟩:=cv (0,"self") (kE.mpr rfl) (.ref x.s) hσ;obtain rfl:u=Value.ref x.s:=ru;rw[hcl ca hk];exact qMV T S d
.obtain⟨sm,N⟩:=hp;rw[mM]at hy;obtain⟨b,hb,rfl⟩:=mH.mp hy;have mb:=q9S.mp (gQ hb);refine⟨r2,r3,r4,r5,m,q,b,rfl,hs.same sm,ft,mb.1.1,sm _ _ hf,sm _ _ hc,λtp H5 af I J=>⟨sm.trans I,?_⟩⟩;rw[q9T (f:=keyN m.cl) hb];exact L2.Paired.snoc (vT N I) ⟨tp,rfl,J⟩
obtain⟨sm,N⟩:=hp
rw[kI,gL]at N
refine⟨_,2,qE2 N,λk hk=>?_,by decide,λq' Z p2 p H5 np I J=>?_⟩
.obtain⟨b,_,rfl⟩:=kZ.mp hk;rfl
rw[kI]at Z
have O:∀i∈q',i<(u8 q.B m.br q.fi).length:=λi hi=>mU.mp (Z.mem_iff.mp hi)
rw[q7Y (e:=0) O]at J
exact k _ p H5 (qJL Z p2) (Same.free sm np) (sm.trans I) J)
inductive spFr(t:Adr)(vs:List V)(H:Hp)(Q:VK)(E_:XK):Prop
|mk:∀x r2 r3 r4 r5 m q,vs=[.ref x.s]->StAt t H x r2 r3 r4 r5 m q->Fit m q->(∀l p H',FreeIs q.B m.br m.cl q.fi l->H p=none->Keep [t.eI] H H'->TbF t H'->H' p=some (.lst (l.map vn))->Q (.ref p) H')->spFr t vs H Q E_
theorem q10(T:tXx)(S:tFf)(B:BmIn base mg):FnOk P w K mg base (CX0) 8 t.hV S.tZ ["self"] (spFr t):=by(
refine S.aEC.ok0 q3R λA _ s H vs Q E hr h=>?_
obtain⟨x,r2,r3,r4,r5,m,q,rfl,hs,ft,k⟩:=h
have b2:=ft.oq.b2
have eB:=ft.eB
refine⟨_,(qB (q7S (i:=1) ["self","block"] [0] rfl (yA (qR (pv 0) T.eO T.oK (uL T S).mono hr S.iY.b .nil qK)) (λz z z z z=>(jE (i:=1) (show List.Nodup (["self","block"]:List Str)from by decide))) (λz z z z z=>(uM (qS zV (qX (q2D (K:=K) rfl) (uN (K:=K) rfl (uN (K:=K) rfl (pv 0) rfl) rfl) (pv 1) (λz z=>rfl)) qG (qV _)))) (λz z z z z=>(pv 1)) (by kernel_rfl) (yL (by decide)) q3R.nd rfl (Or.inl rfl)) (qC (qL (qD2 (k:=5) (x:="block") [(0,"self")] (by intro p hp;simp only[kM,dL,cY]at hp;rcases hp with rfl<;>exact⟨rfl,by kernel_rfl,rfl⟩) hr (by rfl) T.aCG (qE3 rfl T.aDK B (qJJ (by kernel_rfl)) rfl) (qA (pv 1) qD))))),?_⟩
try dsimp-beta-proj-iota-zeta-eta only[wishK,cxK]
refine(iV rfl (iM hs.o rfl ⟨x,r2,r3,r4,r5,m,q,rfl,hs,ft,λp H1 n1 s1 h1=>?_⟩))
refine⟨p,rfl,⟨_,SqL.of h1⟩,λD H2 nD s2 hD=>?_⟩
refine zD (K:=K) (xs:=(uK q.B m.br).map vn) (D:=D) (λi H3=>Same H1 H3/\H3 D=some (.lst ((((uK q.B m.br).take i).filter λb=>decide (q.fi.getD b 0=0)).map vn))) ⟨s2,hD⟩ (λi H3 hp=>SqL.of (hp.1 _ _ h1)) (λi y H3 hy hp=>?_) (λH3 hp=>?_)
.obtain⟨sm,O⟩:=hp;have J:=(hs.same s1).same sm;rw[mM]at hy;obtain⟨b,hb,rfl⟩:=mH.mp hy;have hi:=(kF.mp hb).1;have mb:=zZ.mp (gQ hb);refine(iV rfl (iF J.o T.eO T.eZ rfl (iF J.bk.o T.eT T.fE rfl ⟨_,rfl,iL (k:=_) (v:=_) (SqL.of J.bk.f) (atV (by rw[ft.oq.lf];exact mb.1)) ⟨rfl,_,rfl,?_⟩⟩)));rw[zX,<-mR hi,gX,m8];obtain rfl:(uK q.B m.br)[i]=b:=(kF.mp hb).2;by_cases z:q.fi.getD (uK q.B m.br)[i] 0=0
 .rw[hC z];refine iteT ?_;refine⟨_,rfl,_,O,?_,λb o e=>?_,?_⟩
  .rw[kI];have l1:(((uK q.B m.br).take i).filter λb=>decide (q.fi.getD b 0=0)).length<=q.B:=mO (mK _ _) (mO (by rw[gZ];lia) (q2G (B:=q.B) (br:=m.br)));have:(16:Nat)<sizeLine:=by decide
   lia
  .rw[qE (qH e nD)];exact sm _ _ e
  rw[qI,gH,hC z];rfl
 rw[kB z];refine iteF ⟨sm,?_⟩;rw[O,gH,kB z];simp
obtain⟨sm,O⟩:=hp
rw[kI,gL]at O
have O:H3 D=some (.lst ((u8 q.B m.br q.fi).map vn)):=O
have J:=(hs.same s1).same sm
refine⟨_,rfl,?_⟩
obtain⟨ps,hT,ht,hc⟩:=qKE T J.tb
have nT:D≠t.eI:=J.tb.ne O (λd z=>by cases z)
have keep:∀(f c':Addr) (I pm:Value) (Z:List (Str×Addr)) (N:Hp),N f=some (fnO f (q8D Z pm I c'))->N c'=some (cdO c' lamQ)->TbF t N->(∀b o,b≠t.eI->H3 b=some o->N b=some o)->Keep [t.eI] H3 N:=λf c' I pm Z N _ _ d kp=>⟨λb o nb e=>kp b o (λz=>nb (by rw[z];simp)) e,λb xs e=>kp b _ (J.tb.ne e (λd z=>by cases z)) e⟩
refine⟨ps,hT,ht,?_⟩
rcases hc with⟨hn,tb⟩|⟨c0,hn,hc0⟩
.refine .inl ⟨hn,λf c' I N nf hf ad ar kp=>?_⟩;have d:=tb c' N ar ad kp;have k4:=keep f c' I _ _ N hf ad d kp;refine qA0 T S rfl (λca hk=>qBR (names:=qIC.names) hk rfl) (J.kT k4 d) ft (kp _ _ nT O) hf ad (λl p' H5 hl np s5 e5=>k l p' H5 hl ?_ ?_ (d.same s5) e5)
 .refine Same.free s1 (Same.free sm (k4.none (λz=>?_) np));obtain⟨a4,aq,_⟩:=d;rw[kE.mp z,aq]at np;cases np
 exact((Keep.same s1).trans (Keep.same sm)).trans (k4.trans (Keep.same s5))
refine .inr ⟨c0,hn,λf I N nf hf s4=>?_⟩
refine qA0 T S rfl (λca hk=>qBR (names:=qIC.names) hk rfl) (J.same s4) ft (s4 _ _ O) hf (s4 _ _ hc0) (λl p' H5 hl np s5 e5=>k l p' H5 hl ?_ ?_ ((J.tb.same s4).same s5) e5)
.exact Same.free s1 (Same.free sm (Same.free s4 np))
exact Keep.same (((s1.trans sm).trans s4).trans s5))
inductive spPt(t:Adr)(vs:List V)(H:Hp)(Q:VK)(E_:XK):Prop
|mk:∀x r2 r3 r4 r5 m q,vs=[.ref x.s]->StAt t H x r2 r3 r4 r5 m q->Fit m q->(∀H',Same H H'->Q (oV (jP q.B q.P m.br q.fi)) H')->spPt t vs H Q E_
theorem qFG{α:Type}{p:α->Bool}{L:List α}{i:Nat}{x:α}(h:L[i]?=some x)(n:(L.take i).find? p=none):(p x=true->L.find? p=some x)/\(p x=false->(L.take (i+1)).find? p=none):=by(
have hi:=(kF.mp h).1
obtain rfl:L[i]=x:=(kF.mp h).2
constructor
.intro d;have e:L=L.take i++L[i]::L.drop (i+1):=by simp
 conv=>lhs;arg 2;rw[e]
 rw[aH,n,dR,d];rfl
intro d
rw[<-mR hi,aH,n,dR,d]
rfl)
theorem q11(T:tXx)(S:tFf):S.tN.Ok0 P w mg base 6 (spPt t):=by(
refine S.tN.F.ok0 q3S λah A _ s H vs Q E hr h=>?_
obtain⟨x,r2,r3,r4,r5,m,q,rfl,hs,J,k⟩:=h
refine⟨_,(qB (vS rT rfl (yA (qR (pv 0) T.eO T.oK (uL T S).mono hr S.iY.b .nil qK)) (jE (i:=1) q3S.nd) (qC (jG (qFS q3P q3P qG (qX jC (qJ (qJ (pv 0) rfl) rfl) (pv 1) (λz z=>rfl)) (qJ (qJ (pv 0) rfl) rfl)) (qC (qL (pv 1))) qT))) (qC (qL yZ))),?_⟩
try dsimp-beta-proj-iota-zeta-eta only[wishK,cxK]
refine(iV rfl (iM hs.o rfl ⟨x,r2,r3,r4,r5,m,q,rfl,hs,J,λp H1 n1 s1 h1=>?_⟩))
refine⟨p,rfl,⟨_,SqL.of h1⟩,?_⟩
refine v8 (K:=K) (xs:=(uK q.B m.br).map vn) (λi N H2=>∃y,N=[some (.ref x.s),y]/\Same H1 H2/\((uK q.B m.br).take i).find? (jU q.P q.fi)=none) ⟨_,rfl,Same.refl H1,rfl⟩ (λi N H2 hi I=>?_) (λi y N H2 hy I=>?_) (λN H2 I=>?_)
.obtain⟨y,rfl,sm,_⟩:=I;exact SqL.of (sm _ _ h1)
.obtain⟨y',rfl,sm,Z⟩:=I;have d:=(hs.same s1).same sm;rw[mM]at hy;obtain⟨b,hb,rfl⟩:=mH.mp hy;have mb:=zZ.mp (gQ hb);obtain⟨y1,y2⟩:=qFG hb Z;refine(iV rfl (iF d.o T.eO T.eZ rfl (iF d.bk.o T.eT T.fE rfl ⟨_,rfl,iL (k:=_) (v:=_) (SqL.of d.bk.f) (atV (by rw[J.oq.lf];exact mb.1)) ?_⟩)));refine(iI ⟨_,rfl,?_⟩);by_cases D:0<q.fi.getD b 0
 .rw[hC D];refine iteT ?_;refine(iV rfl (iF d.o T.eO T.eU rfl (iF d.te T.fA T.e9 rfl (iI ⟨_,rfl,?_⟩))));by_cases O:q.fi.getD b 0<m.pg
  .rw[hC O];have z:=k H2 (s1.trans sm);unfold jP at z;rw[y1 (by unfold jU;rw[hC D,hC (by rw[<-J.eP];exact O)];rfl)]at z;exact iteT ⟨_,rfl,z⟩
  rw[kB O];exact iteF ⟨_,rfl,sm,y2 (by unfold jU;rw[hC D,kB (by rw[<-J.eP];exact O)];rfl)⟩
 rw[kB D];exact iteF ⟨_,rfl,iteF ⟨_,rfl,sm,y2 (by unfold jU;rw[kB D];rfl)⟩⟩
obtain⟨y',rfl,sm,Z⟩:=I
rw[kI,gL]at Z
have z:=k H2 (s1.trans sm)
unfold jP at z
rw[Z]at z
exact z)
inductive spSp(t:Adr)(vs:List V)(H:Hp)(Q:VK)(E_:XK):Prop
|mk:∀x r2 r3 r4 r5 m q,vs=[.ref x.s]->StAt t H x r2 r3 r4 r5 m q->Fit m q->(∀l H',FreeIs q.B m.br m.cl q.fi l->Keep [t.eI] H H'->TbF t H'->Q (pgV q.P q.fi (q22 q.B q.P m.br q.fi l)) H')->spSp t vs H Q E_
theorem q90(T:tXx)(S:tFf)(B:BmIn base mg):S.aBS.Ok0 P w mg base 9 (spSp t):=by(
refine S.aBS.F.ok0 q0Y λaf A _ s H vs Q E O h=>?_
obtain⟨x,r2,r3,r4,r5,m,q,rfl,J,d,k⟩:=h
refine⟨_,(qB (qO (i:=1) q0Y.nd (qR (pv 0) T.eO T.aA8 (q11 T S).mono O S.tN.b .nil qK)) (qB (jG (qS q4O (pv 1) yZ (qV _)) (qC (qL (qN uS (qN u7 (pv 1) (qJ (qJ (pv 0) rfl) rfl)) (qX jC (qJ (qJ (pv 0) rfl) rfl) (pv 1) (λz z=>rfl))))) qT) (qB (qO (i:=2) q0Y.nd (qR (pv 0) T.eO T.aBF (q10 T S B).mono O S.aAE .nil qK)) (qB (jG (qS (qAA O.units) (pv 2) (jY qD) (qV _)) (qC (qL yZ)) qT) (qC (qL (qN u7 (qX jC (pv 2) qG (λz z=>rfl)) (qJ (qJ (pv 0) rfl) rfl)))))))),?_⟩
try dsimp-beta-proj-iota-zeta-eta only[wishK,cxK]
refine(iV rfl (iM J.o rfl ⟨x,r2,r3,r4,r5,m,q,rfl,J,d,λH1 s1=>?_⟩))
have h1:=J.same s1
have b2:=d.oq.b2
have p2:=d.oq.p2
have eP:=d.eP
cases hpn:jP q.B q.P m.br q.fi with
|some b=>
 have Z:=q1K hpn;refine⟨_,rfl,rfl,_,rfl,iteT ?_⟩;refine⟨_,rfl,iV rfl (iF h1.o T.eO T.eU rfl (iF h1.te T.fA T.e9 rfl (iI ⟨.inl ⟨by lia,by lia⟩,?_⟩)))⟩;refine(iV rfl (iF h1.o T.eO T.eZ rfl (iF h1.bk.o T.eT T.fE rfl ⟨_,rfl,iL (k:=_) (v:=_) (SqL.of h1.bk.f) (atV (by rw[d.oq.lf];exact Z.1)) (iI ?_)⟩)));obtain⟨l,hl⟩:=FreeIs.ex q.B m.br m.cl q.fi;have kk:=k l H1 hl (Keep.same s1) h1.tb;unfold q22 at kk;rw[hpn]at kk;have e:pgV q.P q.fi (some b)=V.int ((b:Int)*m.pg+q.fi.getD b 0):=by rw[eP];rfl
 have kk:Q (pgV q.P q.fi (some b)) H1:=kk;rw[e]at kk;exact kk
|none=>
 refine⟨_,rfl,rfl,_,rfl,iteF ?_⟩;refine(iV rfl (iM h1.o rfl ⟨x,r2,r3,r4,r5,m,q,rfl,h1,d,λl p H2 hl np k2 D h2=>?_⟩));have N:=h1.kT k2 D;refine⟨_,rfl,sz0,λe H3 n3 I h3=>⟨p,_,e,rfl,rfl,SqL.of (I _ _ h2),SqL.of h3,_,rfl,?_⟩⟩;have z:=N.same I;have kk:=k l H3 hl (((Keep.same s1).trans k2).trans (Keep.same I)) (D.same I);unfold q22 at kk;rw[hpn]at kk;cases l with
 |nil=>refine iteT ?_;exact kk
 |cons b r=>
  refine iteF ?_;have Z:=hl.mem (kY (a:=b) (l:=r));refine⟨_,rfl,iL (k:=0) (v:=.int (b:Int)) (SqL.of (I _ _ h2)) (zO (j:=0) rfl) (iV rfl (iF z.o T.eO T.eU rfl (iF z.te T.fA T.e9 rfl (iI ⟨.inl ⟨by lia,by lia⟩,?_⟩))))⟩;have e:pgV q.P q.fi ((b::r).head?)=V.int ((b:Int)*m.pg):=by show V.int ((b:Int)*(q.P:Int)+q.fi.getD b 0)=_;rw[Z.2.2,eP,Int.add_zero]
  have kk:Q (pgV q.P q.fi ((b::r).head?)) H3:=kk;rw[e]at kk;exact kk)
noncomputable def qC8(t:Adr):Sp:=λvs H Q E=>∃x r2 r3 r4 r5 m q n v,vs=[.ref x.s,.int n,.int v]/\StAt t H x r2 r3 r4 r5 m q/\Fit m q/\Gd m/\m.rc.length<1000000/\∀l,FreeIs q.B m.br m.cl q.fi l->∃b f:Nat,q22 q.B q.P m.br q.fi l=some b/\q.fi.getD b 0=(f:Int)/\m.bo.getD (b*q.P+f) .non=.non/\(m.lf=some 0->∀H',Keep (t.eI::sf x) H H'->StAt t H' x r2 r3 r4 r5 m q->E (.ref t.dy) none H')/\(m.lf≠some 0->∀tp H',H' tp=some (.tup [.int (q.nx*128+n),.int v])->Keep (t.eI::sf x) H H'->StAt t H' x r2 r3 r4 r5 (putC m (b*q.P+f) (.ref tp)) (q.put b f n)->Q (.int ((b*q.P+f:Nat):Int)) H')
theorem StAt.put{x:Sto}{m:CM}(h:StAt t H x r2 r3 r4 r5 m q)(hc:ChipAt t.bw H' x.c x.a m')(k:Keep (foot x.c x.a) H H')(e1:m'.bl=m.bl)(e2:m'.pg=m.pg):StAt t H' x r2 r3 r4 r5 m' q:=by have I:=λb d z=>h.d1 b (hG _ z) d;have D:=λb d z=>h.d2 b d (by exact gG _ z);refine⟨k.k _ _ (D _ (by simp)) h.o,by rw[e1,e2];exact k.k _ _ (D _ (by simp)) h.te,hc,h.bk.keep k I,h.tb.gen λb o to e=>k.k _ _ (λz=>h.nX e to (mC _ (hG _ (by exact gG _ z)))) e,h.ds,h.d1,h.d2⟩
theorem StAt.note{x:Sto}{m:CM}(h:StAt t H x r2 r3 r4 r5 m q)(hb:BkAt t H' x.k q')(k:Keep (bf x.k) H H'):StAt t H' x r2 r3 r4 r5 m q':=by have d:=λb hb z=>h.d2 b hb (by exact mC _ z);refine⟨k.k _ _ (d _ (by simp)) h.o,k.k _ _ (d _ (by simp)) h.te,h.ch.keep k h.d1,hb,h.tb.gen λb o to e=>k.k _ _ (λz=>h.nX e to (mC _ (hG _ (by exact mC _ z)))) e,h.ds,h.d1,h.d2⟩
theorem q5D(T:tXx)(S:tFf)(B:BmIn base mg):S.tF.OkE P w mg base 10 (qC8 t):=by(
refine S.tF.F.okE q0I λaq A outer s H vs Q E O h=>?_
obtain⟨x,r2,r3,r4,r5,m,q,n,v,rfl,Z,J,gd,al,k⟩:=h
refine⟨_,(qB (qO (i:=3) q0I.nd (qR (pv 0) T.eO T.aEE (q90 T S B).mono O S.aBS.b .nil qK)) (qB (jG (qS qA4 (pv 3) yZ (qV _)) (qC jD) qT) (qB (j8 (jF qZ (qJ (pv 0) rfl) T.eQ T.aEV (qC7 T S).mono O S.aDJ.b .nil (qA (pv 3) (qA (yP (qA (j9 (qJ (pv 0) rfl) T.eT T.aEM (qAU T S).mono O S.aCW.b .nil qK (qA (pv 1) qD)) (qA (pv 2) qD))) qD q4U)))) (qB (j8 (j9 (qJ (pv 0) rfl) T.eT T.aCP (q5C T S).mono O S.aBQ.b .nil qK (qA (pv 3) (qA (pv 1) qD)))) (qC (qL (pv 3))))))),?_⟩
try dsimp-beta-proj-iota-zeta-eta only[wishK,cxK]
refine(iV rfl (iM Z.o rfl ⟨x,r2,r3,r4,r5,m,q,rfl,Z,J,λl H1 hl k1 aa=>?_⟩))
have d:=Z.kT k1 aa
obtain⟨b,f,N,ef,hn,dk,kk⟩:=k l hl
rw[N]
obtain⟨hB,au,f0,f1⟩:=qBS hl J.oq.p1 N
have hf:f<q.P:=by lia
have ad:pgV q.P q.fi (some b)=V.int ((b*q.P+f:Nat):Int):=by show V.int ((b:Int)*(q.P:Int)+q.fi.getD b 0)=_;rw[ef,aZ,dS]
rw[ad]
refine⟨_,rfl,rfl,_,rfl,iteF ?_⟩
refine(iV rfl (iF d.o T.eO T.fK rfl (iM d.ch.ins rfl ⟨_,rfl,?_⟩)))
refine(iV rfl (iF d.o T.eO T.eZ rfl (iM d.bk.o rfl ⟨_,rfl,x.k,q,n,rfl,d.bk,_,rfl,sz2,λtp H2 n2 s2 e2=>?_⟩)))
have I:=d.same s2
have ac:((b*q.P+f:Nat):Int)<=m.bl*m.pg-1:=by rw[J.eB,J.eP,<-dS];have:b*q.P+f<q.B*q.P:=(wG (by lia)).mp (by rw[jZ hf];exact hB);lia
refine⟨x.c,x.a,m,_,.ref tp,rfl,I.ch,J.ok,al,gd,ac,hn,λz=>dk z H2 ((k1.mono (by simp)).trans (Keep.same s2)) I,λz H3 ae k3=>?_⟩
have D:=I.put ae k3 rfl rfl
refine(iV rfl (iF D.o T.eO T.eZ rfl (iM D.bk.o rfl ⟨_,rfl,_,rfl,x.k,q,b,f,n,rfl,D.bk,J.oq,D.ds,hB,hf,ef,λH4 ab k4=>⟨_,rfl,?_⟩⟩)))
exact kk z tp H4 (k4.tp _ _ (k3.tp _ _ e2)) ((((k1.mono (by simp)).trans (Keep.same s2)).trans (k3.mono (λb hb=>by unfold sf;exact hG _ (gG _ hb)))).trans (k4.mono (λb hb=>by unfold sf;exact hG _ (mC _ hb)))) (D.note ab k4))
theorem q12(T:tXx)(S:tFf)(B:BmIn base mg):S.fT.OkE P w mg base 11 (qC8 t):=by(
refine S.fT.F.okE q0Z λag A outer s H J Q E hr h=>?_
obtain⟨x,r2,r3,r4,r5,m,q,n,v,rfl,I,k⟩:=h
refine⟨_,(qC (qCU (λpins XE ES d N=>(qC (qL (jF d (pv 0) T.eO T.aCN (q5D T S B).mono hr S.tF.b .nil (qA (pv 1) (qA (pv 2) qD)))))) (q6Y (λea=>(yO rfl T.aAU rfl (v:=.ref t.gf))) rfl (λea=>(qB jD (qC jD))) (qCT qZ)))),?_⟩
try dsimp-beta-proj-iota-zeta-eta only[wishK,cxK]
obtain⟨O,gd,rc,k⟩:=k
refine(iV rfl (iM I.o rfl ⟨_,rfl,_,rfl,x,r2,r3,r4,r5,m,q,n,v,rfl,I,O,gd,rc,λl hl=>?_⟩))
obtain⟨b,f,e1,e2,Z,dk,kk⟩:=k l hl
exact⟨b,f,e1,e2,Z,λz H' k' D ea ae=>⟨_,T.fZ,iteF (dk z H' k' D)⟩,kk⟩)
theorem q35(T:tXx)(S:tFf)(B:BmIn base mg):S.aBM.OkE P w mg base 12 (qC8 t):=by(
refine S.aBM.F.okE q30 λag A outer s H J Q E hr h=>?_
obtain⟨x,r2,r3,r4,r5,m,q,n,v,rfl,I,k⟩:=h
refine⟨_,(qB (qO (i:=3) q30.nd yZ) (qB (q4N dP (qS qA4 (pv 3) yZ (qV _)) (qC (qO (i:=3) q30.nd (jF qZ (pv 0) T.eO T.tO (q12 T S B).mono hr S.fT.b .nil (qA (pv 1) (qA (pv 2) qD)))))) (qC (qL (pv 3))))),?_⟩
try dsimp-beta-proj-iota-zeta-eta only[wishK,cxK]
obtain⟨N,gd,rc,k⟩:=k
refine⟨λi d H'=>∃pg,d=[some (.ref x.s),some (.int n),some (.int v),some pg]/\((pg≠ .non/\Q pg H')\/(pg=.non/\i=1/\H'=H)),⟨1,_,rfl,.inr ⟨rfl,rfl,rfl⟩⟩,?_⟩
rintro i d H1 ⟨pg,rfl,h⟩
refine⟨_,rfl,rfl,_,rfl,?_⟩
rcases h with⟨np,hq⟩|⟨rfl,rfl,rfl⟩
.rw[kB np];exact iteF ⟨_,rfl,hq⟩
rw[hC rfl]
refine iteT ⟨_,λd H' z=>z,?_⟩
refine(iV rfl (iM I.o rfl ⟨_,rfl,_,rfl,x,r2,r3,r4,r5,m,q,n,v,rfl,I,N,gd,rc,λl hl=>?_⟩))
obtain⟨b,f,e1,Z,O,dk,kk⟩:=k l hl
exact⟨b,f,e1,Z,O,dk,λz tp H2 ht k2 D=>⟨0,by lia,_,rfl,.inl ⟨(λz=>by cases z),kk z tp H2 ht k2 D⟩⟩⟩)
theorem bor(a b:Nat):Builtin.bitOr (a:Int) (b:Int)=((a|||b:Nat):Int):=by(
have e:∀c:Nat,Builtin.bitNot (Builtin.bitNot (c))=(c):=λc=>by unfold Builtin.bitNot;lia
have n:∀c:Nat,decide (0<=Builtin.bitNot (c))=false:=λc=>kB (by unfold Builtin.bitNot;lia)
unfold Builtin.bitOr Builtin.bitAnd
rw[n a,n b]
simp_all)
noncomputable abbrev vN(ks:List Nat):List V:=ks.map λ(k:Nat)=>V.int (k:Int)
inductive spBo(K:W.Frag)(vs:List V)(H:Hp)(Q:VK)(E_:XK):Prop
|mk:∀l ss,vs=[.ref l]->SqL K H l (vN ss)->(∀s∈ss,s<64)->Q (.int ((orB ss 0:Nat):Int)) H->spBo K vs H Q E_
theorem qC9(s:Nat):∀(l:List Nat) (b:Nat),orB (l++[s]) b=orB l b|||2 ^ s
| [],b=>rfl
|x::r,b=>qC9 s r _
theorem q8E(T:tXx)(S:tFf):S.aDL.Ok0 P w mg base 1 (spBo K):=by(
refine S.aDL.F.ok0 q1Y λO A _ s H Z Q E hr h=>?_
obtain⟨l,d,rfl,hl,J,q⟩:=h
refine⟨_,(qB (qO (i:=1) q1Y.nd qG) (qB (vS rT rfl (yA (pv 0)) (jE (i:=2) q1Y.nd) (qC (qO (i:=1) q1Y.nd (qN qNA (pv 1) (qN qLC qG (pv 2)))))) (qC (qL (pv 1))))),?_⟩
try dsimp-beta-proj-iota-zeta-eta only[wishK,cxK]
refine⟨_,rfl,l,rfl,⟨_,hl⟩,?_⟩
refine v8 (K:=K) (xs:=vN d) (λi D H2=>∃y,D=[some (.ref l),some (.int ((orB (d.take i) 0:Nat):Int)),y]/\H2=H) ⟨_,rfl,rfl⟩ (λi D H2 hi z=>?_) (λi x D H2 I z=>?_) (λD H2 z=>?_)
.obtain⟨y,rfl,rfl⟩:=z;exact hl
.obtain⟨y,rfl,rfl⟩:=z;rw[mM]at I;obtain⟨n,N,rfl⟩:=mH.mp I;obtain⟨hi,rfl⟩:=kF.mp N;have:=J _ (gO hi);refine⟨_,rfl,_,rfl,iI ⟨⟨by lia,by lia,by decide⟩,iI ?_⟩⟩;have e:(1:Int)*2 ^ ((d[i]:Nat):Int).toNat=((2 ^ d[i]:Nat):Int):=by rw[Int.one_mul,kQ];exact(bA 2 _).symm
 try dsimp only
 rw[e,bor];refine⟨some (.int ((d[i]:Nat):Int)),?_,rfl⟩;rw[<-mR hi,qC9];rfl
obtain⟨y,rfl,rfl⟩:=z
rw[show(vN d).length=d.length by simp[vN],gL]
exact⟨_,rfl,q⟩)
inductive spHe(t:Adr)(vs:List V)(H:Hp)(Q:VK)(E_:XK):Prop
|mk:∀a,∀m:QM,vs=[.ref a.bk]->BkAt t H a m->m.Ok->(hdN m.V).length<64->(∀l ns H',Same H H'->H l=none->H' l=some (.lst (List.map V.int ns))->ns.Perm (hdN m.V)->ns.Pairwise (·<=·)->Q (.ref l) H')->spHe t vs H Q E_
theorem q5E(T:tXx)(S:tFf):S.aBP.Ok0 P w mg base 1 (spHe t):=by(
refine S.aBP.F.ok0 qAO λap A _ s H vs Q E hr h=>?_
obtain⟨a,m,rfl,Z,ok,aj,q⟩:=h
have hu:=q6C hr
have lV:m.V.length<=65:=ok.lenV
refine⟨_,(qC (qL (jR qAB (by rfl) T.aCG (by kernel_rfl) (qA (qDU (vA ["name"] [] rfl (qJ7 (qJ (pv 0) rfl)) (λz z z z z=>(jE (i:=0) (show List.Nodup (["name"]:List Str)from by decide))) (λz z z z z=>(uM (qS q68 (pv 0) (yO rfl T.aCI ⟨_,rfl⟩ (v:=.int 64)) (qV _)))) (λz z z z z=>(pv 0)) (by kernel_rfl) (yL (by decide)))) qD)))),?_⟩
try dsimp-beta-proj-iota-zeta-eta only[wishK,cxK]
refine⟨a.wv,_,Z.w,iV rfl (iF Z.o T.eT T.fF rfl ⟨a.wv,_,rfl,Z.w,λo D H2 nD s2 hD=>?_⟩)⟩
have kk:∀x u,x≠a.wv->H x=some u->H2 x=some u:=λx u nx e=>s2 _ _ (by rw[qE nx];exact e)
have fz:H2 a.wv=some (.frz o (.dK (dI m.V))):=s2 _ _ qI
have Dw:D≠a.wv:=λz=>by rw[z,fz]at hD;cases hD
have ae:H D=none:=by rw[qE Dw]at nD;exact nD
refine qH1 (D:=D) (λi I=>I a.wv=some (.frz o (.dK (dI m.V)))/\(∀x u,x≠a.wv->H x=some u->I x=some u)/\I D=some (.lst ((hdN (m.V.take i)).map V.int))) ⟨fz,kk,hD⟩ (λi I N=>N.1) (λi kv I hk N=>?_) (λI N=>?_)
.obtain⟨d,k3,J⟩:=N;have hi:i<m.V.length:=by have:=(kF.mp hk).1;rw[q8C]at this;exact this
 obtain rfl:((Sum.inl m.V[i].1:Key),V.int m.V[i].2)=kv:=by
  have e:(dI m.V)[i]?=some ((Sum.inl m.V[i].1:Key),V.int m.V[i].2):=by unfold dI;rw[mM,kL hi];rfl
  rw[e]at hk;exact kU hk
 have tk:m.V.take (i+1)=m.V.take i++[m.V[i]]:=(mR hi).symm;show q3N _ (V.int m.V[i].1) _ _ _;refine⟨_,rfl,rfl,_,rfl,?_⟩;rw[zX];by_cases e:m.V[i].1=64
 .rw[hC e];refine iteF ?_;refine⟨d,k3,?_⟩;have:hdN (m.V.take (i+1))=hdN (m.V.take i):=by unfold hdN;rw[tk,m8,gX];simp[e]
  rw[this];exact J
 rw[kB e];refine iteT ?_;refine⟨_,rfl,_,J,?_,?_,λx u nx e'=>?_,?_⟩
 .rw[kI];have l2:(hdN (m.V.take i)).length<=65:=by unfold hdN;refine mO (mK _ _) ?_;rw[kI,gZ];lia
  have:(65:Nat)<sizeLine:=by decide
  lia
 .rw[qE Dw.symm];exact d
 .rw[qE (qH e' ae)];exact k3 _ _ nx e'
 have:hdN (m.V.take (i+1))=hdN (m.V.take i)++[m.V[i].1]:=by unfold hdN;rw[tk,m8,gX];simp[e]
 rw[qI,this,m8];rfl
obtain⟨d,k3,J⟩:=N
rw[q8C,gL]at J
refine⟨o,_,d,?_⟩
have sH:Same H (upd I a.wv (.dK (dI m.V))):=qH2 Z.w k3
have O:(upd I a.wv (.dK (dI m.V))) D=some (.lst ((hdN m.V).map V.int)):=by rw[qE Dw];exact J
generalize upd I a.wv (.dK (dI m.V))=H4 at sH O ⊢
refine⟨D,hdN m.V,rfl,SqL.of O,by lia,λns pp pw l H5 n5 s5 h5=>?_⟩
exact q l ns H5 (sH.trans s5) (sH.free n5) h5 pp pw)
structure HeldIs(q:QM)(ns:List Int):Prop where
pm:ns.Perm (hdN q.V)
so:ns.Pairwise (·<=·)
theorem HeldIs.one{ns:List Int}(h:HeldIs q ns)(g:HeldIs q ms):ns=ms:=q52 (h.pm.trans g.pm.symm) h.so g.so
inductive spHd(t:Adr)(vs:List V)(H:Hp)(Q:VK)(E_:XK):Prop
|mk:∀x r2 r3 r4 r5 m q,vs=[.ref x.s]->StAt t H x r2 r3 r4 r5 m q->Fit m q->(hdN q.V).length<64->(∀l ns H',HeldIs q ns->Same H H'->H l=none->H' l=some (.lst (List.map V.int ns))->Q (.ref l) H')->spHd t vs H Q E_
theorem yV(T:tXx)(S:tFf):S.f9.Ok0 P w mg base 2 (spHd t):=by(
refine S.f9.F.ok0 q8T λO A _ s H Z Q E I h=>?_
obtain⟨x,r2,r3,r4,r5,m,q,rfl,d,z,h64,k⟩:=h
refine⟨_,(qC (qL (qR (qJ (pv 0) rfl) T.eT T.aCQ (q5E T S).mono I S.aBP.b .nil qK))),?_⟩
exact(iV rfl (iF d.o T.eO T.eZ rfl (iM d.bk.o rfl ⟨x.k,q,rfl,d.bk,z.oq,h64,λl ns H' s' N h' D J=>k l ns H' ⟨D,J⟩ s' N h'⟩))))
inductive spCs(t:Adr)(vs:List V)(H:Hp)(Q:VK)(E:XK):Prop
|mk:∀x r3 r4 r5 m q v,∀sh:Int,vs=[.ref x.s,v]->StAt t H x (.int sh) r3 r4 r5 m q->Knd H v->(if inB v 0 (sh-1)=true then Q .non H else False)->spCs t vs H Q E
theorem u9(T:tXx)(S:tFf):S.fN.Ok0 P w mg base 3 (spCs t):=by(
refine S.fN.F.ok0 q2X λJ A Z s H N Q E D h=>?_
obtain⟨x,r3,r4,r5,m,q,v,sh,rfl,d,I,k⟩:=h
refine⟨_,(qC (jG (uR (yJ (qU (jL T S).mono D rfl T.fD T.fB S.fL.b .nil qK (qA (pv 1) (qA qG (qA (qN yC (qJ (qJ (pv 0) rfl) rfl) qG) qD)))))) (qC jD) qT)),?_⟩
try dsimp-beta-proj-iota-zeta-eta only[wishK,cxK]
refine⟨_,rfl,iV rfl (iF d.o T.eO T.eU rfl (iF d.te T.fA T.aAB rfl (iI ⟨v,_,_,rfl,I,_,rfl,?_⟩)))⟩
cases z:inB v 0 (sh-1)with
|true=>rw[z,kD rfl]at k;exact iteF k
|false=>rw[z,hU (by decide)]at k;exact k.elim)
theorem qCA(T:tXx)(S:tFf):S.aDQ.Ok0 P w mg base 3 (λvs H Q Z=>∃v,vs=[v]/\Knd H v/\Q (.bl (inB v 0 (10 ^ 30-1))) H):=by(
refine S.aDQ.F.ok0 qC2 λD A Z s H vs Q E z h=>?_
obtain⟨v,rfl,d,k⟩:=h
refine⟨_,(qC (qL (qU (jL T S).mono z rfl T.fD T.fB S.fL.b .nil qK (qA (pv 0) (qA qG (qA (qN yC (qN qFM qG qG) qG) qD)))))),?_⟩
try dsimp-beta-proj-iota-zeta-eta only[wishK,cxK]
exact⟨_,rfl,iI ⟨⟨by decide,by decide,by decide⟩,iI ⟨v,_,_,rfl,d,k⟩⟩⟩)
noncomputable def hold(q:QM)(s:Int):Bool:=decide (s∈hdN q.V)
theorem q3H{s:Int}:∀{ns:List Int},inV (.int s) (ns.map V.int)=decide (s∈ns)
| []=>rfl
|n::r=>by
 have ih:=q3H (s:=s) (ns:=r);unfold inV at ih ⊢;rw[mV,cX,ih];by_cases e:n=s
 .subst e;simp[eqV]
 have e':¬s=n:=λz=>e z.symm;simp[eqV,e,e']
theorem qCB{ns:List Int}:(ns.map V.int).all zW=true:=by(
rw[rL]
intro v d
obtain⟨n,_,rfl⟩:=kZ.mp d
rfl)
theorem HeldIs.hold{ns:List Int}(h:HeldIs q ns)(s:Int):decide (s∈ns)=hold q s:=by(
unfold W1.hold
by_cases z:s∈ns
.rw[hC z,hC (h.pm.mem_iff.mp z)]
rw[kB z,kB (λy=>z (h.pm.mem_iff.mpr y))])
inductive spSh(t:Adr)(vs:List V)(H:Hp)(Q:VK)(E:XK):Prop
|mk:∀x r2 r4 r5 m q,∀s sr:Int,vs=[.ref x.s,.int s]->StAt t H x r2 (.int sr) r4 r5 m q->Fit m q->(hdN q.V).length<64->(∀H',Same H H'->if hold q s=false/\sr<=((hdN q.V).length:Int)then E (.ref t.ei) none H' else Q .non H')->spSh t vs H Q E
theorem q36(T:tXx)(S:tFf):S.iW.OkE P w mg base 3 (spSh t):=by(
refine S.iW.F.okE zF λZ A outer s H J Q E O h=>?_
obtain⟨x,r2,r4,r5,m,q,s,sr,rfl,d,N,h64,k⟩:=h
refine⟨_,(qB (qO (i:=2) zF.nd (qR (pv 0) T.eO T.iS (yV T S).mono O S.f9.b .nil qK)) (qC (jG (PW.pt (qA2 (qS q1G (pv 1) (pv 2) rfl) (q6T (qS qDK (jR jS (by rfl) T.aCT dQ (qA (pv 2) qD)) (qJ (qJ (pv 0) rfl) rfl) (qV _))))) (qC (q4S qZ rfl rfl T.aFG T.aFY (qA uQ qD))) qT))),?_⟩
try dsimp-beta-proj-iota-zeta-eta only[wishK,cxK]
refine(iV rfl (iM d.o rfl ⟨x,r2,.int sr,r4,r5,m,q,rfl,d,N,h64,λl ns H1 I D n1 h1=>?_⟩))
refine⟨_,rfl,_,rfl,?_⟩
refine⟨l,_,rfl,.inl (SqL.of h1),rfl,qCB,_,rfl,?_⟩
have kk:=k H1 D
have e:inV (.int s) (ns.map V.int)=hold q s:=by rw[q3H];exact I.hold s
show if(!inV (.int s) (ns.map V.int))=true then _ else _
rw[e]
cases z:hold q s with
|true=>rw[z,hU (λy=>by cases y.1)]at kk;exact iteF kk
|false=>
 refine iteT ?_;refine⟨_,rfl,l,_,rfl,.inl (SqL.of h1),iV rfl (iF (d.same D).o T.eO T.eU rfl (iF (d.same D).te T.fA T.aA1 rfl (iI ⟨_,rfl,?_⟩)))⟩;rw[kI,I.pm.length_eq];by_cases y:sr<=((hdN q.V).length:Int)
 .rw[hC y];rw[kD ⟨z,y⟩]at kk;exact iteT ⟨sz1,kk⟩
 rw[kB y];rw[hU (λw=>y w.2)]at kk;exact iteF kk)
theorem Same.keepF{F:List Addr}(s:Same H Hi)(k:Keep F Hi Hj)(f:∀b∈F,H b=none):Same H Hj:=λb o e=>k.k b o (λz=>by simp_all) (s b o e)
inductive spFl(t:Adr)(vs:List V)(H:Hp)(Q:VK)(E_:XK):Prop
|mk:∀x r2 r3 r4 r5 m q,vs=[.ref x.s]->StAt t H x r2 r3 r4 r5 m q->Fit m q->(∀H',Same H H'->Q (.int 0) H')->spFl t vs H Q E_
theorem q1B(T:tXx)(S:tFf):S.oC.Ok0 P w mg base 6 (spFl t):=by(
refine S.oC.F.ok0 q60 λJ A Z s H O Q E D h=>?_
obtain⟨x,r2,r3,r4,r5,m,q,rfl,d,z,k⟩:=h
refine⟨_,(qC (qL (qN yC (qJ (qJ (pv 0) rfl) rfl) (jR jS (by rfl) T.aCT dQ (qA (qR (pv 0) T.eO T.oK (uL T S).mono D S.iY.b .nil qK) qD))))),?_⟩
try dsimp-beta-proj-iota-zeta-eta only[wishK,cxK]
refine(iV rfl (iF d.o T.eO T.eU rfl (iF d.te T.fA T.fR rfl ?_)))
refine(iV rfl (iM d.o rfl ⟨x,r2,r3,r4,r5,m,q,rfl,d,z,λl H1 N I h1=>?_⟩))
refine⟨l,_,rfl,.inl (SqL.of h1),iI ?_⟩
rw[kI,z.eB,z.br,yD,m7]
show Q (.int ((q.B:Int)-(q.B:Int))) H1
rw[Int.sub_self]
exact k H1 I)
inductive spWn(t:Adr)(vs:List V)(H:Hp)(Q:VK)(E_:XK):Prop
|mk:∀x r2 r3 r5 m q,∀ie:Int,vs=[.ref x.s]->StAt t H x r2 r3 (.int ie) r5 m q->Fit m q->0<=ie->(∀H',Same H H'->Q (.bl false) H')->spWn t vs H Q E_
theorem qAV(T:tXx)(S:tFf):S.aC1.Ok0 P w mg base 7 (spWn t):=by(
refine S.aC1.F.ok0 qAP λO A _ s H Z Q E N h=>?_
obtain⟨x,r2,r3,r5,m,q,J,rfl,z,I,le,k⟩:=h
refine⟨_,(qC (qL (v9 qFP (qR (pv 0) T.eO T.aAG (q1B T S).mono N S.oC.b .nil qK) (qJ (qJ (pv 0) rfl) rfl) (qV _)))),?_⟩
try dsimp-beta-proj-iota-zeta-eta only[wishK,cxK]
refine(iV rfl (iM z.o rfl ⟨x,r2,r3,_,r5,m,q,rfl,z,I,λH1 D=>?_⟩))
have d:=z.same D
refine(iV rfl (iF d.o T.eO T.eU rfl (iF d.te T.fA T.o9 rfl (iI ?_))))
show Q (.bl (decide (J<0))) H1
rw[kB (by lia)]
exact k H1 D)
inductive spCw(t:Adr)(vs:List V)(H:Hp)(Q:VK)(E_:XK):Prop
|mk:∀x r2 r3 r5 m q,∀ie:Int,vs=[.ref x.s]->StAt t H x r2 r3 (.int ie) r5 m q->Fit m q->0<=ie->(∀H',Same H H'->Q .non H')->spCw t vs H Q E_
theorem q4F(T:tXx)(S:tFf):S.oH.Ok0 P w mg base 8 (spCw t):=by(
refine S.oH.F.ok0 q4B λN A Z s H O Q E I h=>?_
obtain⟨x,r2,r3,r5,m,q,D,rfl,d,z,le,k⟩:=h
refine⟨_,(qC (jG (yJ (qR (pv 0) T.eO T.aEF (qAV T S).mono I S.aC1.b .nil qK)) (qC jD) qT)),?_⟩
try dsimp-beta-proj-iota-zeta-eta only[wishK,cxK]
exact(iV rfl (iM d.o rfl ⟨x,r2,r3,r5,m,q,D,rfl,d,z,le,λH1 J=>⟨_,rfl,iteF (k H1 J)⟩⟩)))
inductive spRs(t:Adr)(vs:List V)(H:Hp)(Q:VK)(E_:XK):Prop
|mk:∀x r2 r3 r5 m q,∀ie:Int,vs=[.ref x.s]->StAt t H x r2 r3 (.int ie) r5 m q->Fit m q->(∀H',Same H H'->Q (.int (1+ie)) H')->spRs t vs H Q E_
theorem q24(T:tXx)(S:tFf):S.oZ.Ok0 P w mg base 7 (spRs t):=by(
refine S.oZ.F.ok0 q6K λN A Z s H O Q E I h=>?_
obtain⟨x,r2,r3,r5,m,q,z,rfl,d,D,k⟩:=h
refine⟨_,(qC (qL (qN yC (qN uS qG (qJ (qJ (pv 0) rfl) rfl)) (qR (pv 0) T.eO T.aAG (q1B T S).mono I S.oC.b .nil qK)))),?_⟩
try dsimp-beta-proj-iota-zeta-eta only[wishK,cxK]
refine(iV rfl (iF d.o T.eO T.eU rfl (iF d.te T.fA T.o9 rfl (iI ?_))))
refine(iV rfl (iM d.o rfl ⟨x,r2,r3,_,r5,m,q,rfl,d,D,λH1 J=>(iI ?_)⟩))
have:=k H1 J
rwa [show(1+z:Int)=1+z-0 by lia]at this)
inductive spRd(t:Adr)(vs:List V)(H:Hp)(Q:VK)(E_:XK):Prop
|mk:∀x r2 r3 r5 m q,∀ie:Int,vs=[.ref x.s]->StAt t H x r2 r3 (.int ie) r5 m q->Fit m q->(∀l H',FreeIs q.B m.br m.cl q.fi l->Keep [t.eI] H H'->TbF t H'->Q (.bl (rdy ie l (jP q.B q.P m.br q.fi))) H')->spRd t vs H Q E_
theorem q8F(T:tXx)(S:tFf)(B:BmIn base mg):S.aBB.Ok0 P w mg base 9 (spRd t):=by(
refine S.aBB.F.ok0 q2W λaf A _ s H vs Q E hr h=>?_
obtain⟨x,r2,r3,r5,m,q,Z,rfl,N,O,k⟩:=h
refine⟨_,(qB (qO (i:=1) q2W.nd (qN yC (jR jS (by rfl) T.aCT dQ (qA (qR (pv 0) T.eO T.aBF (q10 T S B).mono hr S.aAE .nil qK) qD)) (qR (pv 0) T.eO T.aAT (q24 T S).mono hr S.oZ.b .nil qK))) (qC (qL (qKN (v9 qFP (pv 1) qG (qV _)) (q3U (q7B (v9 zV (pv 1) qG (qV _)) (q3U (v9 q4O (qR (pv 0) T.eO T.aA8 (q11 T S).mono hr S.tN.b .nil qK) yZ (qV _))))))))),?_⟩
try dsimp-beta-proj-iota-zeta-eta only[wishK,cxK]
refine(iV rfl (iM N.o rfl ⟨x,r2,r3,_,r5,m,q,rfl,N,O,λl p H1 hl np k1 D h1=>?_⟩))
have d:=N.kT k1 D
refine⟨p,_,rfl,.inl (SqL.of h1),iV rfl (iM d.o rfl ⟨x,r2,r3,r5,m,q,Z,rfl,d,O,λH2 s2=>(iI ?_)⟩)⟩
have I:=d.same s2
refine⟨_,rfl,_,_,rfl,rfl,_,rfl,?_⟩
have kk:=λH' s'=>k l H' hl (k1.trans (Keep.same (s2.trans s'))) (D.same (s2.trans s'))
unfold rdy at kk
rw[kI]
by_cases z:(l.length:Int)-(1+Z)>0
.rw[hC z];refine iteT ?_;have:=kk H2 (Same.refl H2);rw[hC z]at this;exact this
rw[kB z]
refine iteF ?_
rw[kB z]at kk
refine⟨_,rfl,rfl,_,rfl,?_⟩
rw[zX]
by_cases J:(l.length:Int)-(1+Z)=0
.rw[hC J];rw[hC J]at kk;refine iteT ?_;refine(iV rfl (iM I.o rfl ⟨x,r2,r3,_,r5,m,q,rfl,I,O,λH3 s3=>⟨rfl,?_⟩⟩));have:=kk H3 s3;cases hp:jP q.B q.P m.br q.fi with
 |none=>rw[hp]at this;exact this
 |some b=>rw[hp]at this;exact this
rw[kB J]
rw[kB J]at kk
refine iteF ?_
exact kk H2 (Same.refl H2))
inductive spTy(t:Adr)(vs:List V)(H:Hp)(Q:VK)(E_:XK):Prop
|mk:∀x r2 r3 r4 r5 m q,∀b:Nat,vs=[.ref x.s,.int (b:Int)]->StAt t H x r2 r3 r4 r5 m q->Fit m q->b<q.B->NewO H (.tup (tyL m q b)) Q->spTy t vs H Q E_
theorem q8G(T:tXx)(S:tFf):S.aBC.Ok0 P w mg base 5 (spTy t):=by(
refine S.aBC.F.ok0 q85 λJ A Z s H N Q E I h=>?_
obtain⟨x,r2,r3,r4,r5,m,q,b,rfl,d,z,D,k⟩:=h
have O:=z.eB
refine⟨_,(qC (qL (yP (qA (pv 1) (qA (qX jC (qJ (qJ (pv 0) rfl) rfl) (pv 1) (λZ Z=>rfl)) (qA (j9 (qJ (pv 0) rfl) T.eQ T.tD (zM T S).mono I S.i6.b .nil qK (qA (pv 1) qD)) (qA (qX jC (qJ (qJ (pv 0) rfl) rfl) (pv 1) (λZ Z=>rfl)) qD))))))),?_⟩
try dsimp-beta-proj-iota-zeta-eta only[wishK,cxK]
refine⟨_,rfl,iV rfl (iF d.o T.eO T.eZ rfl (iF d.bk.o T.eT T.oX rfl ⟨_,rfl,iL (k:=_) (v:=_) (SqL.of d.bk.l) (atV (by rw[z.oq.ll];exact D)) ?_⟩))⟩
refine(iV rfl (iF d.o T.eO T.fK rfl (iM d.ch.ins rfl ⟨_,rfl,x.c,x.a,m,_,rfl,d.ch,z.ok,by lia,by lia,?_⟩)))
rw[kQ]
refine(iV rfl (iF d.o T.eO T.eZ rfl (iF d.bk.o T.eT T.o8 rfl ⟨_,rfl,iL (k:=_) (v:=_) (SqL.of d.bk.b) (atV (by rw[z.oq.lo];exact D)) ?_⟩)))
exact⟨sz4,k⟩)
inductive spSc(t:Adr)(vs:List V)(H:Hp)(Q:VK)(E_:XK):Prop
|mk:∀x r2 r3 r5 m q,∀ie:Int,vs=[.ref x.s]->StAt t H x r2 r3 (.int ie) r5 m q->Fit m q->(∀l H',FreeIs q.B m.br m.cl q.fi l->Keep [t.eI] H H'->TbF t H'->Q (.int (spcN ie l q.P q.fi (jP q.B q.P m.br q.fi))) H')->spSc t vs H Q E_
theorem q8H(T:tXx)(S:tFf)(B:BmIn base mg):S.aBD.Ok0 P w mg base 9 (spSc t):=by(
refine S.aBD.F.ok0 q2Y λaf A _ s H vs Q E Z h=>?_
obtain⟨x,r2,r3,r5,m,q,N,rfl,O,J,k⟩:=h
have eP:=J.eP
refine⟨_,(qB (jG (qS qDK (jR jS (by rfl) T.aCT dQ (qA (qR (pv 0) T.eO T.aBF (q10 T S B).mono Z S.aAE .nil qK) qD)) (qR (pv 0) T.eO T.aAT (q24 T S).mono Z S.oZ.b .nil qK) (qV _)) (qC (qL (qJ (qJ (pv 0) rfl) rfl))) qT) (qB (qO (i:=1) q2Y.nd (qR (pv 0) T.eO T.aA8 (q11 T S).mono Z S.tN.b .nil qK)) (qB (jG (qS qA4 (pv 1) yZ (qV _)) (qC (qL qG)) qT) (qC (qL (qN yC (qJ (qJ (pv 0) rfl) rfl) (qX jC (qJ (qJ (pv 0) rfl) rfl) (pv 1) (λz z=>rfl)))))))),?_⟩
try dsimp-beta-proj-iota-zeta-eta only[wishK,cxK]
refine(iV rfl (iM O.o rfl ⟨x,r2,r3,_,r5,m,q,rfl,O,J,λl p H1 hl np k1 I h1=>?_⟩))
have d:=O.kT k1 I
refine⟨p,_,rfl,.inl (SqL.of h1),iV rfl (iM d.o rfl ⟨x,r2,r3,r5,m,q,N,rfl,d,J,λH2 s2=>(iI ⟨_,rfl,?_⟩)⟩)⟩
have kk:=λH' s'=>k l H' hl (k1.trans (Keep.same (s2.trans s'))) (I.same (s2.trans s'))
have d:=d.same s2
clear h1
unfold spcN at kk
rw[kI]
by_cases z:1+N<=(l.length:Int)
.rw[hC (show(l.length:Int)>=1+N from z)];refine iteT ?_;refine(iV rfl (iF d.o T.eO T.eU rfl (iF d.te T.fA T.e9 rfl ?_)));have:=kk H2 (Same.refl H2);rw[kD z,<-eP]at this;exact this
rw[kB (show ¬(l.length:Int)>=1+N from z)]
refine iteF ?_
refine(iV rfl (iM d.o rfl ⟨x,r2,r3,_,r5,m,q,rfl,d,J,λH3 s3=>?_⟩))
have kk:=kk H3 s3
rw[hU z]at kk
cases hp:jP q.B q.P m.br q.fi with
|none=>rw[hp]at kk;exact⟨_,rfl,rfl,_,rfl,iteT kk⟩
|some b=>rw[hp]at kk;have D:=d.same s3;refine⟨_,rfl,rfl,_,rfl,iteF ?_⟩;refine(iV rfl (iF D.o T.eO T.eU rfl (iF D.te T.fA T.e9 rfl (iV rfl (iF D.o T.eO T.eZ rfl (iF D.bk.o T.eT T.fE rfl ⟨_,rfl,iL (k:=_) (v:=_) (SqL.of D.bk.f) (atV (by rw[J.oq.lf];exact(q1K hp).1)) (iI ?_)⟩))))));rw[eP];exact kk)
noncomputable abbrev Tys(H:Hp)(m:CM)(q:QM):List V->List Nat->Prop:=Paired λv b=>∃p,v=.ref p/\H p=some (.tup (tyL m q b))
theorem qCC{F:List Addr}{m:CM}(k:Keep F H H')(r:Tys H m q rs L):Tys H' m q rs L:=Paired.mapP r λv d ⟨p,e,h⟩=>⟨p,e,k.tp _ _ h⟩
inductive spFo(t:Adr)(vs:List V)(H:Hp)(Q:VK)(E_:XK):Prop
|mk:∀x r2 r3 r5 m q,∀ie:Int,vs=[.ref x.s]->StAt t H x r2 r3 (.int ie) r5 m q->Fit m q->(∀l p rs H',FreeIs q.B m.br m.cl q.fi l->H p=none->Keep [t.eI] H H'->TbF t H'->H' p=some (.lst rs)->Tys H' m q rs ((y6 q.B q.P m.br q.fi).filter λb=>decide (q.lv.getD b 0<=spcN ie l q.P q.fi (jP q.B q.P m.br q.fi)))->Q (.ref p) H')->spFo t vs H Q E_
theorem q0C(T:tXx)(S:tFf)(B:BmIn base mg):S.iG.Ok0 P w mg base 10 (spFo t):=by(
refine S.iG.F.ok0 yT λbd A _ s H vs Q E hr h=>?_
obtain⟨x,r2,r3,r5,m,q,ie,rfl,hs,ft,k⟩:=h
have b2:=ft.oq.b2
have eP:=ft.eP
have sz:(16:Nat)<sizeLine:=by decide
have fl:(y6 q.B q.P m.br q.fi).length<=16:=mO (mK _ _) (mO (q2G (B:=q.B) (br:=m.br)) b2)
refine⟨_,(qB (qO (i:=1) yT.nd (qR (pv 0) T.eO T.aEA (q8H T S B).mono hr S.aBD.b .nil qK)) (qB (q7S (i:=2) ["self","block"] [0] rfl (yA (qR (pv 0) T.eO T.oK (uL T S).mono hr S.iY.b .nil qK)) (λz z z z z=>(jE (i:=1) (show List.Nodup (["self","block"]:List Str)from by decide))) (λz z z z z=>(uM (qS zV (qX (q2D (K:=K) rfl) (uN (K:=K) rfl (uN (K:=K) rfl (pv 0) rfl) rfl) (pv 1) (λz z=>rfl)) (uN (K:=K) rfl (uN (K:=K) rfl (pv 0) rfl) rfl) (qV _)))) (λz z z z z=>(pv 1)) (by kernel_rfl) (yL (by decide)) yT.nd rfl (Or.inl rfl)) (qB (q7S (i:=3) ["self","block"] [0] rfl (yA (pv 2)) (λz z z z z=>(jE (i:=1) (show List.Nodup (["self","block"]:List Str)from by decide))) (λz z z z z=>qDQ) (λz z z z z=>(j9 (pv 0) T.eO T.aDT (q8G T S).mono hr S.aBC.b .nil qK (qA (pv 1) qD))) (by kernel_rfl) (yL (by decide)) yT.nd rfl (Or.inl rfl)) (qC (qL (vA ["space","tally"] [1] rfl (yA (pv 3)) (λz z z z z=>(jE (i:=1) (show List.Nodup (["space","tally"]:List Str)from by decide))) (λz z z z z=>(uM (qS qFO (qX (q4W (K:=K) rfl) (pv 1) qG (λz z=>rfl)) (pv 0) (qV _)))) (λz z z z z=>(pv 1)) (by kernel_rfl) (yL (by decide)))))))),?_⟩
try dsimp-beta-proj-iota-zeta-eta only[wishK,cxK]
refine(iV rfl (iM hs.o rfl ⟨x,r2,r3,r5,m,q,ie,rfl,hs,ft,λl H1 hl k1 al=>?_⟩))
have ab:=hs.kT k1 al
have kk:=λp rs H' np k'=>k l p rs H' hl np (k1.trans k')
generalize spcN ie l q.P q.fi (jP q.B q.P m.br q.fi)=sp at kk
refine(iV rfl (iM ab.o rfl ⟨x,r2,r3,_,r5,m,q,rfl,ab,ft,λp H2 n2 s2 h2=>?_⟩))
refine⟨p,rfl,⟨_,SqL.of h2⟩,λD H3 nD s3 hD=>?_⟩
refine zD (K:=K) (xs:=(uK q.B m.br).map vn) (D:=D) (λi H3=>Same H2 H3/\H3 D=some (.lst ((((uK q.B m.br).take i).filter λb=>decide (q.fi.getD b 0=(q.P:Int))).map vn))) ⟨s3,hD⟩ (λi H3 J=>SqL.of (J.1 _ _ h2)) (λi y H3 hy J=>?_) (λH3 J=>?_)
.obtain⟨sm,hd⟩:=J;have h3:=(ab.same s2).same sm;rw[mM]at hy;obtain⟨b,hb,rfl⟩:=mH.mp hy;have hi:=(kF.mp hb).1;have mb:=zZ.mp (gQ hb);refine(iV rfl (iF h3.o T.eO T.eZ rfl (iF h3.bk.o T.eT T.fE rfl ⟨_,rfl,iL (k:=_) (v:=_) (SqL.of h3.bk.f) (atV (by rw[ft.oq.lf];exact mb.1)) (iV rfl (iF h3.o T.eO T.eU rfl (iF h3.te T.fA T.e9 rfl ⟨rfl,_,rfl,?_⟩)))⟩)));rw[zX,eP,<-mR hi,gX,m8];obtain rfl:(uK q.B m.br)[i]=b:=(kF.mp hb).2;by_cases z:q.fi.getD (uK q.B m.br)[i] 0=(q.P:Int)
 .rw[hC z];refine iteT ?_;refine⟨_,rfl,_,hd,?_,λb o e=>?_,?_⟩
  .rw[kI];have l1:(((uK q.B m.br).take i).filter λb=>decide (q.fi.getD b 0=(q.P:Int))).length<=q.B:=mO (mK _ _) (mO (by rw[gZ];lia) (q2G (B:=q.B) (br:=m.br)));lia
  .rw[qE (qH e nD)];exact sm _ _ e
  rw[qI,gH,hC z];rfl
 rw[kB z];refine iteF ⟨sm,?_⟩;rw[hd,gH,kB z];simp
obtain⟨sm,hd⟩:=J
rw[kI,gL]at hd
have hd:H3 D=some (.lst ((y6 q.B q.P m.br q.fi).map vn)):=hd
have aq:=s2.trans sm
have h3:=ab.same aq
refine⟨_,rfl,D,rfl,⟨_,SqL.of hd⟩,λD2 H4 a4 s4 a2=>?_⟩
refine qBM (K:=K) (xs:=(y6 q.B q.P m.br q.fi).map vn) (D:=D2) (λi H5=>∃rs,Same H3 H5/\H5 D2=some (.lst rs)/\Tys H5 m q rs ((y6 q.B q.P m.br q.fi).take i)) ⟨_,s4,a2,.nil⟩ (λi H5 J=>by obtain⟨rs,N,_⟩:=J;exact SqL.of (N _ _ hd)) (λi y H5 hy J=>?_) (λH5 J=>?_)
.obtain⟨rs,N,aa,ty⟩:=J;have h5:=h3.same N;rw[mM]at hy;obtain⟨b,hb,rfl⟩:=mH.mp hy;have hi:=(kF.mp hb).1;have mb:=zZ.mp (mL.mp (gQ hb)).1;obtain rfl:(y6 q.B q.P m.br q.fi)[i]=b:=(kF.mp hb).2;have ln:=ty.len;rw[gZ]at ln;refine(iV rfl (iM h5.o rfl ⟨_,rfl,x,r2,r3,_,r5,m,q,_,rfl,h5,ft,mb.1,λtp H6 n6 s6 h6=>⟨_,s6 _ _ aa,by lia,?_⟩⟩));have ne:∀b o,H6 b=some (.tup o)->b≠D2:=λb o e z=>by rw[z,s6 _ _ aa]at e;cases e
 refine⟨_,λb o e=>?_,qI,?_⟩
 .rw[qE (qH e a4)];exact s6 _ _ (N _ _ e)
 rw[<-mR hi];refine L2.Paired.snoc (Paired.mapP ty λv d ⟨p,e,h⟩=>⟨p,e,?_⟩) ⟨tp,rfl,?_⟩
 .rw[qE (ne _ _ (s6 _ _ h))];exact s6 _ _ h
 rw[qE (ne _ _ h6)];exact h6
obtain⟨rs,N,aa,ty⟩:=J
rw[kI,gL]at ty
have ae:=aq.trans N
have h5:=ab.same ae
refine⟨_,rfl,D2,rfl,⟨_,SqL.of aa⟩,λD3 H6 ad s6 a3=>?_⟩
refine zD (K:=K) (xs:=rs) (D:=D3) (λi H7=>∃O,Same H5 H7/\H7 D3=some (.lst O)/\O.length<=i/\Tys H5 m q O (((y6 q.B q.P m.br q.fi).take i).filter λb=>decide (q.lv.getD b 0<=sp))) ⟨_,s6,a3,kO _,.nil⟩ (λi H7 J=>by obtain⟨_,I,_⟩:=J;exact SqL.of (I _ _ aa)) (λi y H7 hy J=>?_) (λH7 J=>?_)
.obtain⟨O,I,af,ln,Z⟩:=J;obtain⟨b,hb,tp,rfl,as⟩:=Paired.at ty hy;have hi:=(kF.mp hb).1;obtain rfl:(y6 q.B q.P m.br q.fi)[i]=b:=(kF.mp hb).2;refine⟨_,rfl,iT (k:=_) (v:=_) (SqT.of (I _ _ as)) rfl ⟨_,rfl,iI ⟨_,rfl,?_⟩⟩⟩;have bi:=ty.len;have bn:=(kF.mp hy).1;have e1:((y6 q.B q.P m.br q.fi).take (i+1)).filter (λb=>decide (q.lv.getD b 0<=sp))=((y6 q.B q.P m.br q.fi).take i).filter (λb=>decide (q.lv.getD b 0<=sp))++(if q.lv.getD (y6 q.B q.P m.br q.fi)[i] 0<=sp then[(y6 q.B q.P m.br q.fi)[i]]else[]):=by
  rw[<-mR hi,gX,gH];by_cases z:q.lv.getD (y6 q.B q.P m.br q.fi)[i] 0<=sp
  .rw[hC z,kD z];rfl
  rw[kB z,hU z];rfl
 rw[e1];by_cases z:q.lv.getD (y6 q.B q.P m.br q.fi)[i] 0<=sp
 .rw[hC z,kD z];refine iteT ?_;refine⟨_,rfl,_,af,by lia,_,λb o e=>?_,qI,?_,L2.Paired.snoc Z ⟨tp,rfl,as⟩⟩
  .rw[qE (qH e ad)];exact I _ _ e
  rw[mI];exact p9 ln 1
 rw[kB z,hU z,g0];exact iteF ⟨_,I,af,by lia,Z⟩
obtain⟨O,I,af,ln,Z⟩:=J
rw[ty.len,gL]at Z
have ar:=ae.trans I
refine kk D3 O H7 ?_ (Keep.same ar) (al.same ar) af (qCC (Keep.same (F:=[]) I) Z)
refine k1.none (λz=>?_) (Same.free ae ad)
obtain⟨bm,a5,_⟩:=al.same ae
rw[kE.mp z,a5]at ad
cases ad)
theorem qCD{L:List Nat}{p:Nat->Bool}{i:Nat}(hi:i<L.length):(L.take (i+1)).filter p=(L.take i).filter p++(if p L[i]=true then[L[i]]else[]):=by rw[<-mR hi,gX,gH];rfl
inductive spOp(t:Adr)(vs:List V)(H:Hp)(Q:VK)(E_:XK):Prop
|mk:∀x r2 r3 r5 m q,∀ie:Int,vs=[.ref x.s]->StAt t H x r2 r3 (.int ie) r5 m q->Fit m q->(∀l p rs H',FreeIs q.B m.br m.cl q.fi l->H p=none->Keep [t.eI] H H'->TbF t H'->H' p=some (.lst rs)->Tys H' m q rs (optN ie m q l)->Q (.ref p) H')->spOp t vs H Q E_
theorem q1C(T:tXx)(S:tFf)(B:BmIn base mg):S.fV.Ok0 P w mg base 11 (spOp t):=by(
refine S.fV.F.ok0 q18 λav A _ s H vs Q E hr h=>?_
obtain⟨x,r2,r3,r5,m,q,ie,rfl,hs,ft,k⟩:=h
have b2:=ft.oq.b2
have eP:=ft.eP
have sz:(16:Nat)<sizeLine:=by decide
have fl:(y6 q.B q.P m.br q.fi).length<=16:=mO (mK _ _) (mO (q2G (B:=q.B) (br:=m.br)) b2)
refine⟨_,(qC (qL (vA ["self","tally"] [0] rfl (yA (qR (pv 0) T.eO T.t6 (q0C T S B).mono hr S.iG.b .nil qK)) (λz z z z z=>(jE (i:=1) (show List.Nodup (["self","tally"]:List Str)from by decide))) (λz z z z z=>(uM (qS q3P (qX (q4W (K:=K) rfl) (pv 1) qG (λz z=>rfl)) (uN (K:=K) rfl (uN (K:=K) rfl (pv 0) rfl) rfl) (qV _)))) (λz z z z z=>(pv 1)) (by kernel_rfl) (yL (by decide))))),?_⟩
try dsimp-beta-proj-iota-zeta-eta only[wishK,cxK]
refine(iV rfl (iM hs.o rfl ⟨x,r2,r3,r5,m,q,ie,rfl,hs,ft,λl p0 rs H5 hl np k1 Z ab ty=>?_⟩))
have h5:=hs.kT k1 Z
have kk:=λp rs H' np=>k l p rs H' hl np
unfold optN at kk
have am:=mO (mK (λb=>decide (q.lv.getD b 0<=spcN ie l q.P q.fi (jP q.B q.P m.br q.fi))) _) fl
generalize (y6 q.B q.P m.br q.fi).filter (λb=>decide (q.lv.getD b 0<=spcN ie l q.P q.fi (jP q.B q.P m.br q.fi)))=L at kk ty am
refine⟨p0,rfl,⟨_,SqL.of ab⟩,λD3 H6 N s6 ai=>?_⟩
refine zD (K:=K) (xs:=rs) (D:=D3) (λi H7=>∃I,Same H5 H7/\H7 D3=some (.lst I)/\I.length<=i/\Tys H5 m q I ((L.take i).filter λb=>decide (q.lv.getD b 0<(q.P:Int)))) ⟨_,s6,ai,kO _,.nil⟩ (λi H7 hp=>by obtain⟨_,d,_⟩:=hp;exact SqL.of (d _ _ ab)) (λi y H7 hy hp=>?_) (λH7 hp=>?_)
.obtain⟨I,d,O,ln,J⟩:=hp;obtain⟨b,hb,tp,rfl,ad⟩:=Paired.at ty hy;have hi:=(kF.mp hb).1;obtain rfl:L[i]=b:=(kF.mp hb).2;have h7:=h5.same d;refine⟨_,rfl,iT (k:=_) (v:=_) (SqT.of (d _ _ ad)) rfl (iV rfl (iF h7.o T.eO T.eU rfl (iF h7.te T.fA T.e9 rfl (iI ⟨_,rfl,?_⟩))))⟩;rw[eP,qCD hi];by_cases z:q.lv.getD L[i] 0<(q.P:Int)
 .rw[hC z,kD rfl];refine iteT ?_;refine⟨_,rfl,_,O,by lia,_,λb o e=>?_,qI,?_,L2.Paired.snoc J ⟨tp,rfl,ad⟩⟩
  .rw[qE (qH e N)];exact d _ _ e
  rw[mI];exact p9 ln 1
 rw[kB z,hU (by decide),g0];exact iteF ⟨_,d,O,by lia,J⟩
obtain⟨I,d,O,ln,J⟩:=hp
rw[ty.len,gL]at J
refine kk D3 I H7 ?_ (k1.trans (Keep.same d)) (Z.same d) O (qCC (Keep.same (F:=[]) d) J)
refine k1.none (λz=>?_) N
obtain⟨a0,aj,_⟩:=Z
rw[kE.mp z,aj]at N
cases N)
theorem _root_.L2.ChipAt.has{c:Addr}{a:CA}{m:CM}(h:ChipAt C H c a m){b:Addr}(hb:b∈a.li::foot c a):∃o,H b=some o/\(b≠c->∀C d f,o≠ .ins C d f):=by(
obtain⟨rs,D,_⟩:=h.rc
have hb:b=a.li\/b=c\/b=a.bo\/b=a.cl\/b=a.dc\/b=a.br\/b=a.rc:=by simpa[foot]using hb
rcases hb with rfl|rfl|rfl|rfl|rfl|rfl|rfl
.exact⟨_,h.li,λZ Z Z Z z=>by cases z⟩
.exact⟨_,h.ins,λn=>absurd rfl n⟩
.exact⟨_,h.bo,λZ Z Z Z z=>by cases z⟩
.exact⟨_,h.cl,λZ Z Z Z z=>by cases z⟩
.exact⟨_,h.dc,λZ Z Z Z z=>by cases z⟩
.exact⟨_,h.br,λZ Z Z Z z=>by cases z⟩
exact⟨_,D,λZ Z Z Z z=>by cases z⟩)
theorem StAt.off{x:Sto}{m:CM}(h:StAt t H x r2 r3 r4 r5 m q){p:Addr}(n:H p=none):p∉t.eI::sf x:=λz=>by(
obtain⟨rs,er,_⟩:=h.ch.rc
obtain⟨ps,hT,_⟩:=h.tb
have z:=by simpa[sf,bf,foot]using z
rcases z with rfl|rfl|rfl|rfl|rfl|rfl|rfl|rfl|rfl|rfl|rfl|rfl
.lia
.rw[h.ch.ins]at n;cases n
.rw[h.ch.bo]at n;cases n
.rw[h.ch.cl]at n;cases n
.rw[h.ch.dc]at n;cases n
.rw[h.ch.br]at n;cases n
.lia
.rw[h.bk.o]at n;cases n
.rw[h.bk.w]at n;cases n
.rw[h.bk.l]at n;cases n
.rw[h.bk.f]at n;cases n
rw[h.bk.b]at n;cases n)
inductive spPi(t:Adr)(vs:List V)(H:Hp)(Q:VK)(E:XK):Prop
|mk:∀x dx tm td c a r2 r3 r4 r5,∀m:CM,∀B P:Nat,vs=[.ref x,.ref c,.ref tm]->H x=some (.ins t.ck dx [])->H tm=some (.ins t.dj td (teF (.int (B:Int)) (.int (P:Int)) r2 r3 r4 r5))->ChipAt t.bw H c a m->(¬(m.bl=(B:Int)/\m.pg=(P:Int))->E (.ref t.gb) none H)->(m.bl=(B:Int)->m.pg=(P:Int)->B<=16/\TbF t H/\∀k H',H' x=some (.ins t.ck dx [("chip",.ref c),("terms",.ref tm),("book",.ref k.bk)])->(∀ru pa H2,Keep [x] H' H2->H2 x=some (.ins t.ck dx [("chip",.ref c),("terms",.ref tm),("book",.ref k.bk),("rule",ru),("papers",pa)])->StAt t H2 ⟨x,dx,tm,td,c,a,k,ru,pa⟩ r2 r3 r4 r5 m (bk0 B P))->(∀b∈bf k,H b=none)->(∀b o,b≠x->H b=some o->H' b=some o)->Q .non H')->spPi t vs H Q E
theorem q91(T:tXx)(S:tFf):S.aBW.OkE P w mg base 3 (spPi t):=by(
refine S.aBW.F.okE q8Q λa4 A outer s H vs Q E hr h=>?_
obtain⟨x,dx,tm,td,c,a,r2,r3,r4,r5,m,B,P',rfl,hx,D,Z,kn,k⟩:=h
refine⟨_,(qB (jG (PW.pt (qDG (qS q68 (qJ (pv 2) rfl) (qJ (pv 1) rfl) (qV _)) (qCG (qS q68 (qJ (pv 2) rfl) (qJ (pv 1) rfl) (qV _))))) (qC (q4S qZ rfl rfl T.aEZ T.aE4 (qA uQ qD))) qT) (qB (jK (pv 0) (pv 1) rfl) (qB (jK (pv 0) (pv 2) rfl) (qC (jK (pv 0) (q4P T.aFC (q5B T S).mono hr rfl T.aE5 S.aBL.b .nil qK (qA (qJ (pv 1) rfl) (qA (qJ (pv 1) rfl) qD))) rfl))))),?_⟩
try dsimp-beta-proj-iota-zeta-eta only[wishK,cxK]
refine(iV rfl (iF D T.fA T.fR rfl (iV rfl (iF Z.ins T.eQ T.fM rfl ⟨rfl,_,rfl,?_⟩))))
by_cases eB:m.bl=(B:Int)
rotate_left
.rw[show(!decide (V.int (B:Int)=V.int m.bl))=true by rw[kB (λz=>eB (by injection z with z;exact z.symm))];rfl];refine iteT ?_;exact iteT ⟨sz1,kn λz=>eB z.1⟩
rw[show(!decide (V.int (B:Int)=V.int m.bl))=false by rw[eB];simp]
refine iteF ?_
refine(iV rfl (iF D T.fA T.e9 rfl (iV rfl (iF Z.ins T.eQ T.fI rfl ⟨rfl,_,rfl,?_⟩))))
by_cases eP:m.pg=(P':Int)
rotate_left
.rw[show(!decide (V.int (P':Int)=V.int m.pg))=true by rw[kB (λz=>eP (by injection z with z;exact z.symm))];rfl];refine iteT ?_;exact⟨sz1,kn λz=>eP z.2⟩
rw[show(!decide (V.int (P':Int)=V.int m.pg))=false by rw[eP];simp]
refine iteF ?_
obtain⟨hB,tb,k⟩:=k eB eP
refine⟨_,rfl,_,rfl,x,_,dx,_,rfl,hx,T.eO,T.fK,by decide,?_⟩
refine⟨_,rfl,_,rfl,x,_,dx,_,rfl,qI,T.eO,T.eU,by show 1<1000;decide,?_⟩
rw[qA1]
have tx:tm≠x:=jQ D hx (by intro z;injection z with z1 z2 z3;unfold teF at z3;cases z3)
have cx:c≠x:=jQ Z.ins hx (by intro z;injection z with z1 z2 z3;unfold chF at z3;cases z3)
have k1:∀b o,b≠x->H b=some o->(upd H x (.ins t.ck dx [("chip",.ref c),("terms",.ref tm)])) b=some o:=λb o N e=>by rw[qE N];exact e
have o1:(upd H x (.ins t.ck dx [("chip",.ref c),("terms",.ref tm)])) x=some (.ins t.ck dx [("chip",.ref c),("terms",.ref tm)]):=qI
have f1:∀b,(upd H x (.ins t.ck dx [("chip",.ref c),("terms",.ref tm)])) b=none->H b=none:=λb e=>by
 by_cases z:b=x
 .rw[z,qI]at e;cases e
 rw[qE z]at e;exact e
rw[show putF "terms" (.ref tm) (putF "chip" (.ref c) ([]:List (Str×V)))=([("chip",V.ref c),("terms",V.ref tm)]:List (Str×V))from rfl]
generalize upd H x (.ins t.ck dx [("chip",.ref c),("terms",.ref tm)])=H1 at k1 o1 f1 ⊢
have am:=k1 _ _ cx Z.ins
refine(iV rfl (iF am T.eQ T.fM rfl (iV rfl (iF am T.eQ T.fI rfl (λk' kd nk az nn=>?_)))))
rw[eB,eP]
refine⟨k',kd,B,P',rfl,hB,qI,λka H3 e1 e2 I ds fr up=>⟨rfl,?_⟩⟩
have s0:Same H1 (upd (upd H1 kd (.own k')) k' (.ins t.dt kd [])):=q0H nk az
have ad:∀b o,H1 b=some o->H3 b=some o:=λb o e=>up b o (qH e nk) (s0 b o e)
refine⟨_,rfl,x,_,dx,_,rfl,ad _ _ o1,T.eO,T.eZ,by show 2<1000;decide,?_⟩
have aw:=ad _ _ o1
have kx:ka.bk≠x:=by rw[e1];exact(qH o1 nk).symm
have lH:∀b∈bf ka,H b=none:=λb J=>by
 have J:b=ka.bk\/b∈[ka.wv,ka.lv,ka.fi,ka.bo]:=by simpa[bf]using J
 rcases J with rfl|J
 .rw[e1];exact f1 _ nk
 exact f1 _ (Same.free s0 (fr b J))
have aj:∀b o,b≠x->H3 b=some o->(upd H3 x (.ins t.ck dx (putF "book" (.ref k') [("chip",V.ref c),("terms",V.ref tm)]))) b=some o:=λb o N e=>by rw[qE N];exact e
have al:∀b o,b≠x->H b=some o->(upd H3 x (.ins t.ck dx (putF "book" (.ref k') [("chip",V.ref c),("terms",V.ref tm)]))) b=some o:=λb o N e=>aj b o N (ad b o (k1 b o N e))
have nx:∀{b:Addr} {o:HO},H3 b=some o->(∀C d fs,o≠ .ins C d fs)->b≠x:=fun {b o} e n z=>by rw[z,aw]at e;exact n _ _ _ (kU e).symm
have ah:∀b∈a.li::foot c a,b≠x:=λb J z=>by
 obtain⟨o,e,no⟩:=Z.has J;by_cases y:b=c
 .exact cx (y.symm.trans z)
 rw[z,hx]at e;exact no y _ _ _ (kU e).symm
refine k ka _ (by rw[e1];exact qI) (λru pa H2 kk as=>?_) lH al
have O:∀b o,b≠x->H3 b=some o->H2 b=some o:=λb o N e=>kk.k b o (by simpa using N) (aj b o N e)
have aa:∀b o,b≠x->H b=some o->H2 b=some o:=λb o N e=>kk.k b o (by simpa using N) (al b o N e)
have kK:Keep [x] H H2:=⟨λb o N e=>aa b o (λz=>N (by rw[z];simp)) e,λb xs e=>aa b _ (λz=>by rw[z,hx]at e;cases e) e⟩
refine⟨as,?_,?_,?_,?_,ds,?_,?_⟩
.rw[eB,eP];exact aa _ _ tx D
.exact Z.keep kK (λb J z=>ah b J (kE.mp z))
.exact⟨O _ _ kx I.o,O _ _ (nx I.w (λd d d z=>by cases z)) I.w,O _ _ (nx I.l (λd d d z=>by cases z)) I.l,O _ _ (nx I.f (λd d d z=>by cases z)) I.f,O _ _ (nx I.b (λd d d z=>by cases z)) I.b⟩
.exact tb.gen λb o to e=>aa _ _ (yX to e hx q20) e
.intro b J z;obtain⟨o,e,_⟩:=Z.has J;rw[lH b z]at e;cases e
intro b J z
have J:b=x\/b=tm:=by simpa using J
have y0:b∈foot c a\/b∈bf ka:=by simpa[sf]using z
clear z
rcases y0 with z|z
.rcases J with rfl|rfl
 .exact ah _ (hG _ z) rfl
 obtain⟨o,e,no⟩:=Z.has (hG _ z);by_cases y:b=c
 .rw[y,Z.ins]at D;have D:=kU D;injection D with z1 z2 z3
  unfold chF teF at z3;have:=dW List.length z3;simp at this
 rw[D]at e;exact no y _ _ _ (kU e).symm
have n:=lH b z
rcases J with rfl|rfl
.rw[hx]at n;cases n
rw[D]at n;cases n)
inductive spSi(t:Adr)(vs:List V)(H:Hp)(Q:VK)(E:XK):Prop
|mk:∀x dx tm td c a r2 r3 r4 r5 ru,∀m:CM,∀B P:Nat,vs=[.ref x,.ref c,.ref tm,ru]->H x=some (.ins t.ck dx [])->H tm=some (.ins t.dj td (teF (.int (B:Int)) (.int (P:Int)) r2 r3 r4 r5))->ChipAt t.bw H c a m->(¬(m.bl=(B:Int)/\m.pg=(P:Int))->E (.ref t.gb) none H)->(m.bl=(B:Int)->m.pg=(P:Int)->B<=16/\TbF t H/\∀k p H',StAt t H' ⟨x,dx,tm,td,c,a,k,ru,.ref p⟩ r2 r3 r4 r5 m (bk0 B P)->H' p=some (.lst [])->H p=none->(∀b∈bf k,H b=none)->p∉t.eI::sf ⟨x,dx,tm,td,c,a,k,ru,.ref p⟩->(∀b o,b≠x->H b=some o->H' b=some o)->Q .non H')->spSi t vs H Q E
theorem q3T(T:tXx)(S:tFf):S.aAR.OkE P w mg base 4 (spSi t):=by(
refine S.aAR.F.okE q8U λah A outer s H vs Q E hr h=>?_
obtain⟨x,dx,tm,td,c,a,r2,r3,r4,r5,ru,m,B,P',rfl,hx,J,hc,kn,k⟩:=h
refine⟨_,(qB (j8 (qJN qZ T.aFR (q91 T S).mono hr rfl T.aFN S.aBW.b .nil (qA (pv 0) (qA (pv 1) (qA (pv 2) qD))))) (qB (jK (pv 0) (pv 3) rfl) (qC (jK (pv 0) (jY qD) rfl)))),?_⟩
try dsimp-beta-proj-iota-zeta-eta only[wishK,cxK]
refine⟨_,rfl,_,rfl,_,rfl,x,dx,tm,td,c,a,r2,r3,r4,r5,m,B,P',rfl,hx,J,hc,kn,λeB eP=>?_⟩
obtain⟨hB,tb,k⟩:=k eB eP
refine⟨hB,tb,λO H1 d st fk up=>?_⟩
refine⟨_,rfl,_,rfl,x,_,dx,_,rfl,d,T.eO,T.i5,by show 3<1000;decide,?_⟩
refine⟨sz0,λp H2 np s2 h2=>?_⟩
have I:p≠x:=λz=>by rw[z,qI]at np;cases np
rw[qE I]at np
have D:=s2 _ _ qI
refine⟨_,rfl,x,_,dx,_,rfl,D,T.eO,T.aA0,by show 4<1000;decide,?_⟩
have N:=st ru .non (upd H1 x (.ins t.ck dx [("chip",.ref c),("terms",.ref tm),("book",.ref O.bk),("rule",ru),("papers",.non)])) (Keep.upd d (λd z=>by cases z) (by simp)) qI
have off:=N.off (p:=p) (by rw[qE I];exact np)
have Z:Keep [x] H1 (upd H2 x (.ins t.ck dx (putF "papers" (.ref p) (putF "rule" ru [("chip",.ref c),("terms",.ref tm),("book",.ref O.bk)])))):=((Keep.upd d (λd z=>by cases z) (by simp)).trans (Keep.same s2)).trans (Keep.upd D (λd z=>by cases z) (by simp))
refine k O p _ (st ru (.ref p) _ Z qI) (by rw[qE I];exact h2) ?_ fk off (λb o nb e=>Z.k b o (by simpa using nb) (up b o nb e))
cases e:H p with
|none=>rfl
|some o=>rw[up p o I e]at np;cases np)
inductive spEm(t:Adr)(vs:List V)(H:Hp)(Q:VK)(E_:XK):Prop
|mk:∀a,∀m:QM,∀b,vs=[.ref a.bk,.int ((b:Nat):Int)]->BkAt t H a m->m.Ok->Dst a->b<m.B->(∀H',BkAt t H' a (m.emptied b)->Keep [a.fi,a.bo] H H'->Q .non H')->spEm t vs H Q E_
theorem q6R(T:tXx)(S:tFf):S.aAI.Ok0 P w mg base 1 (spEm t):=by(
refine S.aAI.F.ok0 q6I λae A _ s H vs Q E hr h=>?_
obtain⟨a,m,b,rfl,d,ok,ds,hB,q⟩:=h
have D:a.bk≠a.fi:=jQ d.o d.f (by intro z;cases z)
have oo:a.bk≠a.bo:=jQ d.o d.b (by intro z;cases z)
have wf:a.wv≠a.fi:=jQ d.w d.f (by intro z;cases z)
have wb:a.wv≠a.bo:=jQ d.w d.b (by intro z;cases z)
have N:b<m.fi.length:=by rw[ok.lf];exact hB
have J:b<m.bo.length:=by rw[ok.lo];exact hB
refine⟨_,(qB (q7D qG (q7C (qJ (pv 0) rfl) (pv 1) uJ)) (qC (q7D qG (q7C (qJ (pv 0) rfl) (pv 1) uJ)))),?_⟩
try dsimp-beta-proj-iota-zeta-eta only[wishK,cxK]
refine(iV rfl (iF d.o T.eT T.fE rfl ⟨_,rfl,a.fi,_,_,b,rfl,rfl,d.f,q5M (by rw[kI];exact N),?_⟩))
rw[setV]
have Z:(upd H a.fi (.lst ((m.fi.set b 0).map V.int))) a.bo=some (.lst (m.bo.map V.int)):=by rw[qE ds.fb.symm];exact d.b
have I:∀o,H a.bk=some o->(upd H a.fi (.lst ((m.fi.set b 0).map V.int))) a.bk=some o:=λo e=>by rw[qE D];exact e
have O:=I _ d.o
refine(iV rfl (iF O T.eT T.o8 rfl ⟨_,rfl,a.bo,_,_,b,rfl,rfl,Z,q5M (by rw[kI];exact J),?_⟩))
rw[setV]
refine q _ ⟨?_,?_,?_,?_,?_⟩ (Keep.trans (H1:=upd H a.fi (.lst ((m.fi.set b 0).map V.int))) (Keep.upd d.f (λd z=>by cases z) (by simp)) (Keep.upd Z (λd z=>by cases z) (by simp)))
.rw[qE oo];exact O
.rw[qE wb,qE wf];exact d.w
.rw[qE ds.lb,qE ds.lf];exact d.l
.rw[qE ds.fb];exact qI
exact qI)
noncomputable def lpK(P b:Nat)(V:Mp):List (List Int):=(V.filter λq=>decide (q.2 / (P:Int)=(b:Int))).map λq=>[q.2,q.1]
theorem qCE{P b:Nat}{V:Mp}:lpK P b (V++[q])=if q.2 / (P:Int)=(b:Int)then lpK P b V++[[q.2,q.1]]else lpK P b V:=by(
unfold lpK
by_cases e:q.2 / (P)=(b)
.simp[e]
simp[e])
inductive spLp(t:Adr)(vs:List V)(H:Hp)(Q:VK)(E_:XK):Prop
|mk:∀a,∀m:QM,∀b,vs=[.ref a.bk,.int ((b:Nat):Int)]->BkAt t H a m->m.Ok->m.V.length<64->(∀l us rs H',Same H H'->H l=none->H' l=some (.lst us)->Paired (TupD H') us rs->rs.Perm (lpK m.P b m.V)->(rs.Pairwise λa b=>lx b a=false)->Q (.ref l) H')->spLp t vs H Q E_
theorem q4G(T:tXx)(S:tFf):S.oQ.Ok0 P w mg base 1 (spLp t):=by(
refine S.oQ.F.ok0 q48 λa2 A _ s H vs Q E hr h=>?_
obtain⟨a,m,b,rfl,Z,ok,lV,q⟩:=h
have hu:=q6C hr
have p1:=ok.p1
have p2:=ok.p2
have ob:a.bk≠a.wv:=jQ Z.o Z.w (by intro z;cases z)
refine⟨_,(qC (qL (jR q4Z (by rfl) T.aCG (by kernel_rfl) (qA (qDU (vA ["self","block","name","page"] [0,1] rfl (qMF (qG3 nP lB PySem.F.type_dict_items qGX (qJ (pv 0) rfl))) (λz z z z z=>(qJD (K:=K) (n:=2) rfl rfl (zB (jE (i:=2) (show List.Nodup (["self","block","name","page"]:List Str)from by decide)) (zB (jE (i:=3) (show List.Nodup (["self","block","name","page"]:List Str)from by decide)) q6U)) rfl rfl)) (λz z z z z=>(uM (qS zV (qN vZ (pv 3) (uN (K:=K) rfl (pv 0) rfl)) (pv 1) (qV _)))) (λz z z z z=>(yP (qA (pv 3) (qA (pv 2) qD)))) (by kernel_rfl) (qJ5 (qBJ (by decide) (qBJ (by decide) qJ4))))) qD)))),?_⟩
try dsimp-beta-proj-iota-zeta-eta only[wishK,cxK]
refine⟨a.wv,_,Z.w,iV rfl (iF Z.o T.eT T.fF rfl ⟨.inr (.inr (.inl ⟨rfl,.inl ⟨_,Z.w⟩⟩)),a.wv,_,rfl,rfl,Z.w,λv nv=>?_⟩)⟩
have sv:Same H (upd H v (q6D v a.wv)):=Same.upd nv
have vv:(upd H v (q6D v a.wv)) v=some (q6D v a.wv):=qI
generalize upd H v (q6D v a.wv)=H1 at sv vv ⊢
refine⟨v,a.wv,_,rfl,vv,sv _ _ Z.w,λo D H2 nD s2 hD=>?_⟩
have kk:∀x u,x≠a.wv->H x=some u->H2 x=some u:=λx u nx e=>s2 _ _ (by rw[qE nx];exact sv _ _ e)
have fz:H2 a.wv=some (.frz o (.dK (dI m.V))):=s2 _ _ qI
have aq:H D=none:=by
 cases z:H D with
 |none=>rfl
 |some u=>
  by_cases y:D=a.wv
  .rw[y,qI]at nD;cases nD
  rw[qE y,sv _ _ z]at nD;cases nD
have Dw:D≠a.wv:=λz=>by rw[z,fz]at hD;cases hD
refine qJE (D:=D) (λi d=>d a.wv=some (.frz o (.dK (dI m.V)))/\(∀x u,x≠a.wv->H x=some u->d x=some u)/\∃J,d D=some (.lst J)/\Paired (TupD d) J (lpK m.P b (m.V.take i))) ⟨fz,kk,[],hD,.nil⟩ (λi d hp=>hp.1) (λi kv W d hk hp nW=>?_) (λd hp=>?_)
.obtain⟨I,k3,J,hd,pr⟩:=hp;have hi:i<m.V.length:=by have:=(kF.mp hk).1;rw[q8C]at this;exact this
 obtain rfl:((Sum.inl m.V[i].1:Key),V.int m.V[i].2)=kv:=by
  have e:(dI m.V)[i]?=some ((Sum.inl m.V[i].1:Key),V.int m.V[i].2):=by unfold dI;rw[mM,kL hi];rfl
  rw[e]at hk;exact kU hk
 have sW:Same d (upd d W (.tup [.int m.V[i].1,.int m.V[i].2])):=Same.upd nW;have hW:(upd d W (.tup [.int m.V[i].1,.int m.V[i].2])) W=some (.tup [.int m.V[i].1,.int m.V[i].2]):=qI;show gTup _ _ _ _ _ (upd d W (.tup [.int m.V[i].1,.int m.V[i].2])) _;generalize upd d W (.tup [.int m.V[i].1,.int m.V[i].2])=H4 at sW hW ⊢;refine⟨W,_,rfl,SqT.of hW,rfl,_,_,rfl,_,_,rfl,rfl,?_⟩;refine⟨_,rfl,iV rfl (iF (sW _ _ (k3 _ _ ob Z.o)) T.eT T.i9 rfl (iI ⟨⟨by lia,by lia⟩,_,rfl,rfl,_,rfl,?_⟩))⟩;rw[zX];have tk:m.V.take (i+1)=m.V.take i++[m.V[i]]:=(mR hi).symm;by_cases e:m.V[i].2 / (m.P:Int)=(b:Int)
 .rw[hC e];refine iteT ?_;refine⟨_,rfl,_,rfl,sz2,λtp H5 n5 s5 h5=>?_⟩;have O:=sW.trans s5;have aa:=O _ _ hd;have lu:J.length<=64:=by
   have:=pr.len;have l2:(lpK m.P b (m.V.take i)).length<=(m.V.take i).length:=by unfold lpK;rw[kI];exact mK _ _
   rw[gZ]at l2;lia
  refine⟨J,aa,(by exact rJ (m:=64) (by lia) (by decide)),?_,λx u nx e'=>?_,J++[.ref tp],qI,?_⟩
  .rw[qE Dw.symm];exact O _ _ I
  .rw[qE (qH e' aq)];exact O _ _ (k3 _ _ nx e')
  rw[tk,qCE,kD e];exact L2.Paired.snoc (Paired.mapP (vT pr O) λx k z=>z.upd aa (λz q=>by cases q)) (TupD.upd ⟨tp,rfl,h5⟩ aa (λz q=>by cases q))
 rw[kB e];refine iteF ?_;refine⟨sW _ _ I,λx u nx e'=>sW _ _ (k3 _ _ nx e'),J,sW _ _ hd,?_⟩;rw[tk,qCE,hU e];exact vT pr sW
obtain⟨I,k3,J,hd,pr⟩:=hp
rw[q8C,gL]at pr
refine⟨o,_,I,?_⟩
have sH:Same H (upd d a.wv (.dK (dI m.V))):=qH2 Z.w k3
have ah:(upd d a.wv (.dK (dI m.V))) D=some (.lst J):=by rw[qE Dw];exact hd
have N:Paired (TupD (upd d a.wv (.dK (dI m.V)))) J (lpK m.P b m.V):=Paired.mapP pr λx k z=>z.upd I (λz q=>by cases q)
generalize upd d a.wv (.dK (dI m.V))=H4 at sH ah N ⊢
have hl:(lpK m.P b m.V).length<64:=by unfold lpK;rw[kI];exact rJ (mK _ _) lV
have ul:=N.len
refine⟨D,J,lpK m.P b m.V,2,rfl,SqL.of ah,qE2 N,λk hk=>?_,by decide,by lia,λqs pp pw l H5 n5 s5 h5=>?_⟩
.unfold lpK at hk;obtain⟨x,_,rfl⟩:=kZ.mp hk;rfl
refine q l _ _ H5 (sH.trans s5) (sH.free n5) h5 (q7X (vT N s5) λi hi=>mU.mp (pp.mem_iff.mp hi)) (q7W ul.symm pp) pw)
theorem qEM(xs:List V)(i:Nat):∀n p,(clr xs i n).getD p .non=if i<=p/\p<i+n then .non else xs.getD p .non
|0,p=>by rw[hU (by lia)];rfl
|n+1,p=>by
 show((clr xs i n).set (i+n) .non).getD p .non=_;rw[jA,qEM xs i n p];by_cases e:i+n=p
 .subst e;rw[kD (show i<=i+n/\i+n<i+(n+1) by lia),hU (show ¬(i<=i+n/\i+n<i+n) by lia)];by_cases z:i+n<(clr xs i n).length
  .rw[kD ⟨rfl,z⟩]
  rw[hU (λy=>z y.2)];rw[q6Z]at z;rw[kN,wE (by lia)];rfl
 rw[hU (λy=>e y.1)];by_cases z:i<=p/\p<i+n
 .rw[kD z,kD (by lia)]
 rw[hU z,hU (by lia)]
structure PgAt(H:Hp)(bs:List V)(pg:Nat->Option (Int×Int)):Prop where
n:∀i,pg i=none->bs.getD i .non=.non
v:∀i v,pg i=some v->∃tp,bs.getD i .non=.ref tp/\H tp=some (.tup [.int v.1,.int v.2])
theorem PgAt.keep{F:List Addr}{bs:List V}(h:PgAt H bs pg)(k:Keep F H H'):PgAt H' bs pg:=⟨h.n,λi v e=>by
 obtain⟨tp,e1,e2⟩:=h.v i v e;exact⟨tp,e1,k.tp _ _ e2⟩⟩
structure Cm(m:CM)(s:XS):Prop where
ft:Fit m s.q
br:m.br=noB s.q.B
li:∀b,valV m.lim (Sum.inl b)=none
mo:m.mo=1000000
cl:m.cl=s.cl
lf:m.lf=s.lf
rc:m.rc=s.rc
theorem Cm.gd{m:CM}{s:XS}(h:Cm m s):Gd m:=⟨λb=>by rw[h.br];exact rep8,h.li⟩
structure XR(t:Adr)(H:Hp)(x:Sto)(k:Tm)(sh sr:Int)(s:XS):Prop where
e:∃m:CM,StAt t H x (.int sh) (.int sr) (.int (k.ie:Int)) (.int k.sp) m s.q/\Cm m s/\PgAt H m.bo s.pg
w:WX k s
theorem Cm.pgs{m:CM}{s:XS}(h:Cm m s){b f:Nat}(hb:b<s.q.B)(hf:f<s.q.P):((b*s.q.P+f:Nat):Int)<=m.bl*m.pg-1/\b*s.q.P+f<m.bo.length:=by(
have d:=h.ft.ok.nbo
rw[h.ft.eB,h.ft.eP]at *
have:b*s.q.P+f<s.q.B*s.q.P:=(wG (by lia)).mp (by rw[jZ hf];exact hb)
lia)
section
variable{H H':Hp}{x:Sto}{k:Tm}{sh sr:Int}{s:XS}
theorem XR.keep(j:XR t H x k sh sr s){F:List Addr}(kk:Keep F H H')(n:∀b∈[x.s,x.tm]++(x.a.li::sf x),b∉F)(tb:TbF t H'):XR t H' x k sh sr s:=by obtain⟨m,st,c,pg⟩:=j.e;exact⟨⟨m,st.keep kk n tb,c,pg.keep kk⟩,j.w⟩
theorem XR.kT(j:XR t H x k sh sr s)(kk:Keep [t.eI] H H')(tb:TbF t H'):XR t H' x k sh sr s:=by obtain⟨m,st,c,pg⟩:=j.e;exact⟨⟨m,st.kT kk tb,c,pg.keep kk⟩,j.w⟩
theorem XR.tb(j:XR t H x k sh sr s):TbF t H:=by obtain⟨m,st,c,pg⟩:=j.e;exact st.tb
theorem XR.same(j:XR t H x k sh sr s)(ss:Same H H'):XR t H' x k sh sr s:=by obtain⟨m,st,c,pg⟩:=j.e;exact⟨⟨m,st.same ss,c,pg.keep (F:=[]) (Keep.same ss)⟩,j.w⟩
theorem XR.o(j:XR t H x k sh sr s):H x.s=some (.ins t.ck x.sd [("chip",.ref x.c),("terms",.ref x.tm),("book",.ref x.k.bk),("rule",x.ru),("papers",x.pa)]):=by obtain⟨m,st,c,pg⟩:=j.e;exact st.o
theorem XR.inH(j:XR t H x k sh sr s):∀y∈t.eI::sf x,∃o,H y=some o:=λy hy=>by(
obtain⟨m,hs,_⟩:=j.e
rcases kM.mp hy with e|e
.obtain⟨pt,hT,_⟩:=hs.tb;exact⟨_,by rw[e];exact hT⟩
rcases gN.mp e with e|e
.obtain⟨o,ho,_⟩:=hs.ch.has (hG _ e);exact⟨o,ho⟩
have e:=by simpa[bf]using e
rcases e with rfl|rfl|rfl|rfl|rfl
.exact⟨_,hs.bk.o⟩
.exact⟨_,hs.bk.w⟩
.exact⟨_,hs.bk.l⟩
.exact⟨_,hs.bk.f⟩
exact⟨_,hs.bk.b⟩)
theorem XR.off(j:XR t H x k sh sr s){p:Addr}(n:H p=none):p∉t.eI::sf x:=λz=>by obtain⟨o,e⟩:=j.inH p z;lia
theorem TbF.updL{p:Addr}{o:HO}(h:TbF t H)(e:H p=some (.lst xs)):TbF t (upd H p o):=by exact h.gen λb o' to d=>by rw[qE (yX to d e zT)];exact d
theorem XR.lst(j:XR t H x k sh sr s){p:Addr}{xs:List V}{o:HO}(e:H p=some (.lst xs))(np:p∉t.eI::sf x):XR t (upd H p o) x k sh sr s:=by(
obtain⟨m,st,_⟩:=j.e
have k:=Keep.upd (F:=[p]) (o:=o) e (λZ z=>by lia) (by simp)
refine j.keep k (λy d z=>?_) (TbF.updL st.tb e)
rw[kE.mp z]at d
rcases gN.mp d with d|d
.have d:=by simpa using d
 rcases d with h|h
 .rw[h,st.o]at e;lia
 rw[h,st.te]at e;lia
rcases kM.mp d with h|h
.rw[h,st.ch.li]at e;lia
exact np (hG _ h))
theorem XR.set(j:XR t H x k sh sr s){n v:Int}(n0:0<=n)(n1:n<=64)(rc:s.rc.length<1000000)(hr:k.ie*s.q.P<s.rmX)(hl:(∃p,(n,p)∈s.q.V)\/s.q.V.length<59)
 (dk:s.lf=some 0->∀H',XR t H' x k sh sr s->Keep (t.eI::sf x) H H'->E (.ref t.dy) none H')
 (kk:s.lf≠some 0->∀H',XR t H' x k sh sr (s.put n v)->Keep (t.eI::sf x) H H'->Q (.int (s.np:Int)) H'):qC8 t [.ref x.s,.int n,.int v] H Q E:=by(
obtain⟨m,st,c,pg⟩:=j.e
obtain⟨hb,hf,ef,_,sp⟩:=j.w.spot (by lia)
obtain⟨ag,S⟩:=c.pgs hb hf
refine⟨x,_,_,_,_,m,s.q,n,v,rfl,st,c.ft,c.gd,by rw[c.rc];exact rc,λl D=>⟨s.pb,s.pf,?_,ef,pg.n _ (j.w.cr _ _ hb (by lia) hf),λz H' J I=>dk (by rw[<-c.lf];exact z) H' ⟨⟨m,I,c,pg.keep J⟩,j.w⟩ J,λz tp H' Z J I=>?_⟩⟩
.rw[c.br]at D ⊢;rw[c.cl]at D;exact sp l D
have N:s.lf≠some 0:=by rw[<-c.lf];exact z
obtain⟨w',_⟩:=j.w.put (v:=v) hr n0 n1 hl N
have d:(m.deed "put" ((s.pb*s.q.P+s.pf:Nat):Int) (((s.pb*s.q.P+s.pf:Nat):Int) / m.pg) false).Ok:=c.ft.ok.deed (by rw[c.rc];exact rc)
refine kk N H' ⟨⟨_,I,⟨⟨⟨d.bl1,d.bl2,d.pg1,d.pg2,?_,d.ncl,d.ndc,d.nbr,d.lim,d.nrc⟩,w'.qs.ok,c.ft.eB,c.ft.eP,c.br⟩,c.br,c.li,c.mo,c.cl,?_,?_⟩,⟨λi e=>?_,λi w e=>?_⟩⟩,w'⟩ J
.show((m.bo.set _ _).length:Int)=_;rw[gU];exact c.ft.ok.nbo
.show m.lf.map _=_;rw[c.lf];rfl
.show m.rc++[_]=_;rw[c.rc];rfl
.have e:(if i=s.np then some (s.q.nx*128+n,v)else s.pg i)=none:=e;show(m.bo.set (s.pb*s.q.P+s.pf) (.ref tp)).getD i .non=.non;by_cases z:i=s.np
 .rw[kD z]at e;cases e
 rw[hU z]at e;rw[jA,hU (λy=>z y.1.symm)];exact pg.n i e
have e:(if i=s.np then some (s.q.nx*128+n,v)else s.pg i)=some w:=e
show ∃O,(m.bo.set (s.pb*s.q.P+s.pf) (.ref tp)).getD i .non=.ref O/\_
by_cases z:i=s.np
.rw[kD z]at e;cases e;exact⟨tp,by rw[jA,kD ⟨z.symm,S⟩],Z⟩
rw[hU z]at e
obtain⟨O,e1,e2⟩:=pg.v i w e
exact⟨O,by rw[jA,hU (λy=>z y.1.symm)];exact e1,J.tp _ _ e2⟩)
end
inductive spCo(t:Adr)(vs:List V)(H:Hp)(Q:VK)(E:XK):Prop
|mk:∀x k sh sr s,∀b:Nat,vs=[.ref x.s,.int (b:Int)]->XR t H x k sh sr s->b<s.q.B->s.q.fi.getD b 0=(s.q.P:Int)->s.rc.length<1000000->(∀y∈s.q.V,¬y.2 / (s.q.P:Int)=(b:Int))->(s.lf=some 0->E (.ref t.dy) none H)->(s.lf≠some 0->∀H',XR t H' x k sh sr (s.wip b)->Keep (t.eI::sf x) H H'->Q .non H')->spCo t vs H Q E
theorem q4H(T:tXx)(S:tFf):S.oM.OkE P w mg base 5 (spCo t):=by(
refine S.oM.F.okE q49 λal A outer s H vs Q E hr h=>?_
obtain⟨x,k,sh,sr,s,b,rfl,j,hb,ef,rc,nl,dk,kk⟩:=h
obtain⟨m,Z,c,pg⟩:=j.e
have eB:=c.ft.eB
have clb:=(j.w.c0 b).2
refine⟨_,(qB (j8 (jF qZ (qJ (pv 0) rfl) T.eQ T.aEI (qAS T S).mono hr S.aCO.b .nil (qA (pv 1) qD))) (qC (j8 (j9 (qJ (pv 0) rfl) T.eT T.aC5 (q6R T S).mono hr S.aAI.b .nil qK (qA (pv 1) qD))))),?_⟩
try dsimp-beta-proj-iota-zeta-eta only[wishK,cxK]
refine(iV rfl (iF Z.o T.eO T.fK rfl (iM Z.ch.ins rfl ⟨_,rfl,x.c,x.a,m,_,rfl,Z.ch,c.ft.ok,by rw[c.rc];exact rc,c.gd,by lia,by rw[c.mo,c.cl];lia,λz=>dk (by rw[<-c.lf];exact z),λz H1 ac k1=>?_⟩)))
have O:s.lf≠some 0:=by rw[<-c.lf];exact z
have D:=Z.put ac k1 rfl rfl
refine(iV rfl (iF D.o T.eO T.eZ rfl (iM D.bk.o rfl ⟨_,rfl,x.k,s.q,b,rfl,D.bk,j.w.qs.ok,D.ds,hb,λH2 aa k2=>?_⟩)))
have J:Keep (bf x.k) H1 H2:=k2.mono (by intro y I;simp[bf]at I ⊢;rcases I with rfl|rfl<;>simp)
have kA:Keep (t.eI::sf x) H H2:=(k1.mono (λy I=>by unfold sf;exact hG _ (gG _ I))).trans (J.mono (λy I=>by unfold sf;exact hG _ (mC _ I)))
have ab:=D.note aa J
obtain⟨w',_⟩:=j.w.wip hb ef nl O
have d:(m.deed "wipe" (b:Int) (b:Int) false).Ok:=c.ft.ok.deed (by rw[c.rc];exact rc)
have N:∀p,(wipC m b).bo.getD p .non=if p / s.q.P=b then .non else m.bo.getD p .non:=λp=>by
 show(clr m.bo ((b:Int)*m.pg).toNat m.pg.toNat).getD p .non=_;have p1:=j.w.qs.ok.p1;rw[c.ft.eP,<-dS,kQ,kQ,qEM];have:(b*s.q.P<=p/\p<b*s.q.P+s.q.P)↔p / s.q.P=b:=by rw[Nat.div_eq_iff (by lia)];generalize b*s.q.P=z;lia
 by_cases z:p / s.q.P=b
 .rw[kD z,kD (this.mpr z)]
 rw[hU z,hU (λy=>z (this.mp y))]
refine kk O H2 ⟨⟨_,ab,⟨⟨⟨d.bl1,d.bl2,d.pg1,d.pg2,?_,?_,d.ndc,d.nbr,d.lim,d.nrc⟩,w'.qs.ok,c.ft.eB,c.ft.eP,c.br⟩,c.br,c.li,c.mo,?_,?_,?_⟩,⟨λi e=>?_,λi w e=>?_⟩⟩,w'⟩ kA
.show((clr m.bo _ _).length:Int)=_;rw[q6Z];exact c.ft.ok.nbo
.show((m.cl.set _ _).length:Int)=_;rw[gU];exact c.ft.ok.ncl
.show m.cl.set b (m.cl.getD b 0+1)=_;rw[c.cl];rfl
.show m.lf.map _=_;rw[c.lf];rfl
.show m.rc++[_]=_;rw[c.rc];rfl
.have e:(if i / s.q.P=b then none else s.pg i)=none:=e;rw[N];by_cases z:i / s.q.P=b
 .rw[kD z]
 rw[hU z]at e ⊢;exact pg.n i e
have e:(if i / s.q.P=b then none else s.pg i)=some w:=e
rw[N]
by_cases z:i / s.q.P=b
.rw[kD z]at e;cases e
rw[hU z]at e ⊢
obtain⟨tq,e1,e2⟩:=pg.v i w e
exact⟨tq,e1,kA.tp _ _ e2⟩)
theorem q92(T:tXx)(S:tFf):S.aBR.OkE P w mg base 9 (λvs H Q E=>spCo t vs H (λv H'=>v=.non/\Q (.bl true) H') E):=by(
refine S.aBR.F.okE q8W λad A outer s H vs Q E O h=>?_
obtain⟨x,k,sh,sr,s,b,rfl,j,hb,D,rc,N,Z,kk⟩:=h
refine⟨_,(qB (qCU (λpins XE ES d J=>(qC (j8 (jF d (pv 0) T.eO T.aCB (q4H T S).mono O S.oM.b .nil (qA (pv 1) qD))))) (q6Y (λea=>(yO rfl T.aAU rfl (v:=.ref t.gf))) rfl (λea=>(qB jD (qC jD))) (qCT qZ))) (qC (qL q7A))),?_⟩
try dsimp-beta-proj-iota-zeta-eta only[wishK,cxK]
exact(iV rfl (iM j.o rfl ⟨_,rfl,x,k,sh,sr,s,b,rfl,j,hb,D,rc,N,λz ea ac=>⟨_,T.fZ,iteF (Z z)⟩,λz H' j' I=>(kk z H' j' I).2⟩)))
theorem qID{s:XS}{ns:List Int}(h:HeldIs s.q ns):ns=s.hl:=by(
refine q52 (h.pm.trans (wT _ _).symm) h.so ?_
have:=wZ (le:=λa b=>decide (a<=b)) (λa b c h1 h2=>hC (r9 (kP h1) (kP h2))) (λa b=>by
 by_cases z:a<=b
 .rw[hC z];rfl
 rw[kB z,hC (show b<=a by lia)];rfl) (hdN s.q.V)
exact this.imp λz=>kP z)
theorem hd64{k:Tm}{s:XS}(w:WX k s):(hdN s.q.V).length<64:=by(
refine rJ (mK _ _) ?_
have:=w.l6
rw[kI]
lia)
theorem qL0{k:Tm}{s:XS}(w:WX k s):∀y∈s.hl,0<=y/\y<64:=λy hy=>by(
have hy:=pD.mp hy
obtain⟨a1,a2⟩:=mL.mp hy
obtain⟨y',hy',rfl⟩:=kZ.mp a1
have:=w.qs.ok.nm y' hy'
lia)
theorem qL1{ns:List Int}(h:∀y∈ns,0<=y/\y<64):ns.map V.int=vN (ns.map Int.toNat)/\∀u∈ns.map Int.toNat,u<64:=by(
refine⟨?_,λu z=>?_⟩
.unfold vN;rw[pM];refine wS λy d=>?_;have:=h y d;grind
obtain⟨y,d,rfl⟩:=kZ.mp z
simp_all)
inductive spVm(t:Adr)(vs:List V)(H:Hp)(Q:VK)(E:XK):Prop
|mk:∀x k sh sr s,∀n p:Int,vs=[.ref x.s,.int p,.int n]->XR t H x k sh sr s->(n,p)∈s.q.V->(s.lf=some 0->E (.ref t.dy) none H)->(∀H',Same H H'->Q (.int (s.val p n)) H')->spVm t vs H Q E
theorem q21(T:tXx)(S:tFf):S.fY.OkE P w mg base 6 (spVm t):=by(
refine S.fY.F.okE q1Z λO A outer s H Z Q E I h=>?_
obtain⟨x,k,sh,sr,s,n,p,rfl,j,hm,dk,kk⟩:=h
obtain⟨m,D,c,pg⟩:=j.e
refine⟨_,(qB (jG (qS zV (pv 2) (yO rfl T.aCI ⟨_,rfl⟩ (v:=.int 64)) (qV _)) (qC (qL (qU (q8E T S).mono I rfl T.aDC T.aDD S.aDL.b .nil qK (qA (qR (pv 0) T.eO T.iS (yV T S).mono I S.f9.b .nil qK) qD)))) qT) (qC (qL (qX jO (jF qZ (qJ (pv 0) rfl) T.eQ T.oP (vQ T S).mono I S.oJ.b .nil (qA (pv 1) qD)) qG (λz z=>rfl))))),?_⟩
try dsimp-beta-proj-iota-zeta-eta only[wishK,cxK]
refine⟨_,rfl,rfl,_,rfl,?_⟩
rw[zX]
by_cases z:n=64
.rw[hC z];refine iteT ?_;refine(iV rfl (iM D.o rfl ⟨x,_,_,_,_,m,s.q,rfl,D,c.ft,hd64 j.w,λl ns H1 hn s1 n1 h1=>?_⟩));obtain rfl:=qID hn;obtain⟨N,lt⟩:=qL1 (qL0 j.w);rw[N]at h1;refine⟨l,_,rfl,SqL.of h1,lt,?_⟩;have:=kk H1 s1;unfold XS.val at this;rw[kD z]at this;exact this
rw[kB z]
refine iteF ?_
obtain⟨b,f,v,a1,a2,d,a4,J⟩:=j.w.vl _ hm
have d:p=_:=d
obtain⟨tp,e1,e2⟩:=pg.v _ _ J
have hp:=(c.pgs a1 a2).1
refine(iV rfl (iF D.o T.eO T.fK rfl (iM D.ch.ins rfl ⟨_,rfl,x.c,x.a,m,_,rfl,D.ch,c.ft.ok,by rw[d];lia,by rw[d];exact hp,λy=>dk (by rw[<-c.lf];exact y),λ_=>?_⟩)))
have:=kk H (Same.refl H)
unfold XS.val at this
rw[hU z]at this
rw[d,kQ,e1]
rw[d,kQ,J]at this
exact(iT (k:=1) (v:=_) (SqT.of e2) rfl this))
inductive spGaP(vs:List V)(H:Hp)(Q:VK)(E_:XK):Prop
|mk:∀x a b p n,vs=[x,a,b,p,n]->Q (.bl false) H->spGaP vs H Q E_
theorem q4I(T:tXx)(S:tFf):S.oU.Ok0 P w mg base 1 spGaP:=by(
refine S.oU.F.ok0 q4E λd A Z s H D Q E z h=>?_
obtain⟨x,a,b,p,n,rfl,q⟩:=h
refine⟨_,(qC (qL q7A)),?_⟩
exact q)
inductive spGa(f:Tl->Int)(vs:List V)(H:Hp)(Q:VK)(E_:XK):Prop
|mk:∀x a b p n A B,vs=[x,a,b,p,n]->TlAt H a A->TlAt H b B->Q (.bl (decide (f A<f B))) H->spGa f vs H Q E_
theorem q37(T:tXx)(S:tFf):S.iX.Ok0 P w mg base 1 (spGa Tl.lv):=by(
refine S.iX.F.ok0 q32 λz A Z s H D Q E I h=>?_
obtain⟨x,a,b,p,n,A,B,rfl,⟨J,rfl,d⟩,⟨bd,rfl,hb⟩,q⟩:=h
refine⟨_,(qC (qL (v9 q3P (qX jO (pv 1) qG (λZ Z=>rfl)) (qX jO (pv 2) qG (λZ Z=>rfl)) (qV _)))),?_⟩
exact⟨_,rfl,iT (k:=1) (v:=_) (SqT.of d) rfl ⟨_,rfl,iT (k:=1) (v:=_) (SqT.of hb) rfl (iI q)⟩⟩)
theorem q38(T:tXx)(S:tFf):S.iU.Ok0 P w mg base 1 (spGa Tl.bo):=by(
refine S.iU.F.ok0 q33 λz A Z s H D Q E I h=>?_
obtain⟨x,a,b,p,n,A,B,rfl,⟨J,rfl,d⟩,⟨bd,rfl,hb⟩,q⟩:=h
refine⟨_,(qC (qL (v9 q3P (qX jO (pv 1) qG (λZ Z=>rfl)) (qX jO (pv 2) qG (λZ Z=>rfl)) (qV _)))),?_⟩
exact⟨_,rfl,iT (k:=3) (v:=_) (SqT.of d) rfl ⟨_,rfl,iT (k:=3) (v:=_) (SqT.of hb) rfl (iI q)⟩⟩)
noncomputable def gain(pg nw:Int)(T:Tl):Int:=(pg-T.lv)*(nw-T.bo)
inductive spGaW(vs:List V)(H:Hp)(Q:VK)(E_:XK):Prop
|mk:∀x a b pg nw A B,vs=[x,a,b,.int pg,.int nw]->TlAt H a A->TlAt H b B->A.Ok pg nw->B.Ok pg nw->pg<=16->Q (.bl (decide (gain pg nw A*(pg+B.lv)>gain pg nw B*(pg+A.lv)))) H->spGaW vs H Q E_
theorem q3L(T:tXx)(S:tFf):S.i7.Ok0 P w mg base 1 spGaW:=by(
refine S.i7.F.ok0 uH λz A _ s H D Q E J h=>?_
obtain⟨x,a,b,pg,nw,A,B,rfl,⟨Z,rfl,d⟩,⟨bd,rfl,hb⟩,oa,ob,hp,q⟩:=h
have a0:=oa.l0
have N:=oa.l1
have I:=ob.l0
have O:=ob.l1
refine⟨_,(qB (qO (i:=5) uH.nd (qN u7 (qN yC (pv 3) (qX jO (pv 1) qG (λz z=>rfl))) (qN yC (pv 4) (qX jO (pv 1) qG (λz z=>rfl))))) (qB (qO (i:=6) uH.nd (qN u7 (qN yC (pv 3) (qX jO (pv 2) qG (λz z=>rfl))) (qN yC (pv 4) (qX jO (pv 2) qG (λz z=>rfl))))) (qC (qL (v9 qFP (qN u7 (pv 5) (qN uS (pv 3) (qX jO (pv 2) qG (λz z=>rfl)))) (qN u7 (pv 6) (qN uS (pv 3) (qX jO (pv 1) qG (λz z=>rfl)))) (qV _)))))),?_⟩
try dsimp-beta-proj-iota-zeta-eta only[wishK,cxK]
refine⟨_,rfl,_,rfl,iT (k:=1) (v:=_) (SqT.of d) rfl (iI ⟨_,rfl,_,rfl,iT (k:=3) (v:=_) (SqT.of d) rfl (iI (iI ⟨.inl ⟨by lia,by lia⟩,?_⟩))⟩)⟩
refine⟨_,rfl,_,rfl,iT (k:=1) (v:=_) (SqT.of hb) rfl (iI ⟨_,rfl,_,rfl,iT (k:=3) (v:=_) (SqT.of hb) rfl (iI (iI ⟨.inl ⟨by lia,by lia⟩,?_⟩))⟩)⟩
refine⟨_,rfl,_,rfl,_,rfl,iT (k:=1) (v:=_) (SqT.of hb) rfl (iI (iI ⟨.inr ⟨by lia,by lia⟩,?_⟩))⟩
exact⟨_,rfl,_,rfl,_,rfl,iT (k:=1) (v:=_) (SqT.of d) rfl (iI (iI ⟨.inr ⟨by lia,by lia⟩,iI q⟩))⟩)
noncomputable def Mny(pg many:Int):Prop:=1<=pg/\0<many/\∀j:Int,0<=j->j<=pg->(pg+j) ∣ many
noncomputable def rkW(pg nw many:Int)(T:Tl):Int:=0-(pg-T.lv)*(nw-T.bo)*(many / (pg+T.lv))
theorem q8I{x y m:Int}(h:0<m):x*m<y*m↔x<y:=by(
simp_all)
theorem q64{nw:Int}{A B:Tl}(m:Mny pg many)(oa:A.Ok pg nw)(ob:B.Ok pg nw):(gain pg nw A*(pg+B.lv)>gain pg nw B*(pg+A.lv))↔rkW pg nw many A<rkW pg nw many B:=by(
obtain⟨p1,O,D⟩:=m
have a0:=oa.l0
have b0:=ob.l0
obtain⟨z,ea⟩:=D A.lv oa.l0 oa.l1
obtain⟨d,I⟩:=D B.lv ob.l0 ob.l1
have Z:many / (pg+A.lv)=z:=by rw[ea];exact nM _ (by lia)
have N:many / (pg+B.lv)=d:=by rw[I];exact nM _ (by lia)
unfold rkW
rw[Z,N]
show gain pg nw B*(pg+A.lv)<gain pg nw A*(pg+B.lv)↔0-gain pg nw A*z<0-gain pg nw B*d
have J:0<pg+A.lv:=by lia
have pb:0<pg+B.lv:=by lia
have e:(0-gain pg nw A*z<0-gain pg nw B*d)↔gain pg nw B*d<gain pg nw A*z:=by lia
rw[e,<-q8I  O,<-q8I (x:=gain pg nw B*d) (Int.mul_pos J pb)]
have e1:gain pg nw B*(pg+A.lv)*many=gain pg nw B*d*((pg+A.lv)*(pg+B.lv)):=by rw[I];ac_rfl
have S:gain pg nw A*(pg+B.lv)*many=gain pg nw A*z*((pg+A.lv)*(pg+B.lv)):=by rw[ea];ac_rfl
rw[e1,S])
noncomputable def RuAt(t:Adr)(H:Hp)(r:Addr)(pg nw:Int)(f:Tl->Int):Prop:=(∃dx,H r=some (.ins t.f7 dx [])/\f=λz=>0)\/(∃dx,H r=some (.ins t.fg dx [])/\f=Tl.lv)\/(∃dx,H r=some (.ins t.fj dx [])/\f=Tl.bo)\/(∃dx many,H r=some (.ins t.fq dx [])/\f=rkW pg nw many/\Mny pg many)
inductive spUn(t:Adr)(K:W.Frag)(vs:List V)(H:Hp)(Q:VK)(E_:XK):Prop
|mk:∀r v l pg nw T us ts f,vs=[.ref r,v,.ref l,.int pg,.int nw]->RuAt t H r pg nw f->TlAt H v T->SqL K H l us->Tls H us ts->T.Ok pg nw->(∀o∈ts,o.Ok pg nw)->pg<=16->Q (.bl (unb f ts T)) H->spUn t K vs H Q E_
theorem q8J(T:tXx)(S:tFf):S.aA5.Ok0 P w mg base 2 (spUn t K):=by(
refine S.aA5.F.ok0 q31 λap A _ s H vs Q E J h=>?_
obtain⟨r,v,l,pg,nw,A,us,d,f,rfl,hR,hv,hl,N,oa,os,ae,q⟩:=h
obtain⟨va,rfl,af⟩:=id hv
have an:=N.len
refine⟨_,(qB (vS rT rfl (yA (pv 2)) (jE (i:=5) q31.nd) (qC (jG (PW.pt (qA2 (qS (qJ9 J.units) (pv 5) (pv 1) (qV _)) (q6T (yJ (qGJ (q5J (j9 (pv 0) T.aE7 T.aBT (q4I T S).mono J S.oU.b .nil qK (qA (pv 5) (qA (pv 1) (qA (pv 3) (qA (pv 4) qD))))) (q5J (j9 (pv 0) T.aDW T.aBA (q37 T S).mono J S.iX.b .nil qK (qA (pv 5) (qA (pv 1) (qA (pv 3) (qA (pv 4) qD))))) (q5J (j9 (pv 0) T.aD6 T.aA6 (q38 T S).mono J S.iU.b .nil qK (qA (pv 5) (qA (pv 1) (qA (pv 3) (qA (pv 4) qD))))) (j9 (pv 0) T.aES T.aBO (q3L T S).mono J S.i7.b .nil qK (qA (pv 5) (qA (pv 1) (qA (pv 3) (qA (pv 4) qD))))))))))))) (qC (qL q7A)) qT))) (qC (qL q7A))),?_⟩
try dsimp-beta-proj-iota-zeta-eta only[wishK,cxK]
refine⟨_,rfl,l,rfl,⟨us,hl⟩,?_⟩
refine v8 (K:=K) (xs:=us) (λi aa H2=>∃y,aa=[some (.ref r),some (.ref va),some (.ref l),some (.int pg),some (.int nw),y]/\H2=H/\∀j,∀I:j<d.length,j<i->¬f d[j] <f A) ⟨_,rfl,rfl,λj d z=>absurd z (lM _)⟩ (λi aa H2 hi Z=>?_) (λi x aa H2 hx Z=>?_) (λaa H2 Z=>?_)
.obtain⟨y,rfl,rfl,_⟩:=Z;exact hl
.obtain⟨y,rfl,rfl,hm⟩:=Z;obtain⟨O,hO,D⟩:=Paired.at N hx;obtain⟨xa,rfl,ad⟩:=id D;have hi:i<d.length:=(kF.mp hO).1;obtain rfl:d[i]=O:=(kF.mp hO).2;have ok:(d[i]).Ok pg nw:=os _ (gO hi);refine⟨_,rfl,_,rfl,xa,va,(d[i]).ns,A.ns,rfl,rfl,SqT.of ad,SqT.of af,rfl,_,rfl,?_⟩;by_cases e:(d[i]).ns=A.ns
 .rw[hC e];refine iteF (iteF ⟨_,rfl,rfl,λj I z=>?_⟩);by_cases ej:j=i
  .subst ej;rw[Tl.eq_of e];exact Int.lt_irrefl _
  exact hm j I (by lia)
 rw[kB e];refine iteT ?_;refine⟨λv' H'=>v'=.bl (decide (f d[i] <f A))/\H'=H2,?_,?_⟩
 .rcases hR with⟨dx,hins,rfl⟩|⟨dx,hins,rfl⟩|⟨dx,hins,rfl⟩|⟨dx,many,hins,rfl,mm⟩
  .exact .inl ⟨_,rfl,r,dx,_,rfl,hins,rfl,_,rfl,_,rfl,_,rfl,_,rfl,_,_,_,_,_,rfl,rfl,rfl⟩
  .exact .inr (.inl ⟨_,rfl,r,dx,_,rfl,hins,rfl,_,rfl,_,rfl,_,rfl,_,rfl,_,_,_,_,_,d[i],A,rfl,D,hv,rfl,rfl⟩)
  .exact .inr (.inr (.inl ⟨_,rfl,r,dx,_,rfl,hins,rfl,_,rfl,_,rfl,_,rfl,_,rfl,_,_,_,_,_,d[i],A,rfl,D,hv,rfl,rfl⟩))
  refine .inr (.inr (.inr (⟨_,rfl,r,dx,_,rfl,hins,rfl,_,rfl,_,rfl,_,rfl,_,rfl,_,_,_,pg,nw,d[i],A,rfl,D,hv,ok,oa,ae,?_,rfl⟩)));exact dW V.bl (decide_eq_decide.mpr (q64 mm ok oa))
 rintro v' H' ⟨rfl,rfl⟩
 refine⟨_,rfl,?_⟩;by_cases g:f d[i] <f A
 .rw[hC g];refine iteT ?_;have z:unb f d A=false:=by
   cases z:unb f d A with
   |false=>rfl
   |true=>exact absurd (zP.mp z _ (gO hi)) (by lia)
  rw[z]at q;exact q
 rw[kB g];refine iteF ⟨_,rfl,rfl,λj I z=>?_⟩;by_cases ej:j=i
 .subst ej;exact g
 exact hm j I (by lia)
obtain⟨y,rfl,rfl,hm⟩:=Z
have z:unb f d A=true:=zP.mpr λo D=>by obtain⟨j,I,rfl⟩:=d9 D;have:=hm j I (by lia);lia
rw[z]at q
exact q)
noncomputable def spFu(t:Adr)(K:W.Frag):Sp:=λvs H Q z=>∃r l pg nw us ts f,vs=[.ref r,.ref l,.int pg,.int nw]/\RuAt t H r pg nw f/\SqL K H l us/\Tls H us ts/\(∀o∈ts,o.Ok pg nw)/\pg<=16/\ts≠[]/\Q (.int (pk f ts)) H
theorem q5F(T:tXx)(S:tFf):S.tE.Ok0 P w mg base 3 (spFu t K):=by(
refine S.tE.F.ok0 vO λai A _ s H vs Q E hr h=>?_
obtain⟨r,l,pg,nw,I,D,f,rfl,hR,hl,d,os,Z,J,q⟩:=h
have ae:=d.len
obtain⟨i,hi,hu,hn⟩:=q3W f D J
have aa:∀j,∀hj:j<D.length,∃x,I[j]?=some x/\TlAt H x D[j]:=λj hj=>by have e:I[j]?=some (I[j]'(by lia)):=kL (by lia);obtain⟨O,hO,ho⟩:=Paired.at d e;obtain rfl:D[j]=O:=(kF.mp hO).2;exact⟨_,e,ho⟩
refine⟨_,(qB (qO (i:=4) vO.nd qG) (qB (q4N rT (uR (yJ (qU (q8J T S).mono hr rfl T.aC6 T.aC4 S.aA5.b .nil qK (qA (pv 0) (qA (qX jC (pv 1) (pv 4) (λz z=>rfl)) (qA (pv 1) (qA (pv 2) (qA (pv 3) qD)))))))) (qC (qL9 (i:=4) vO.nd rfl (Or.inl rfl) qG q7E))) (qC (qL (qX jO (qX jC (pv 1) (pv 4) (λz z=>rfl)) qG (λz z=>rfl)))))),?_⟩
try dsimp-beta-proj-iota-zeta-eta only[wishK,cxK]
refine⟨λm ac H2=>H2=H/\∃p:Nat,ac=[some (.ref r),some (.ref l),some (.int pg),some (.int nw),some (.int p)]/\p<=i/\m=i-p,⟨i,rfl,0,rfl,m9 _,rfl⟩,?_⟩
rintro m ac H2 ⟨rfl,p,rfl,an,rfl⟩
obtain⟨x,hx,tx⟩:=aa p (by lia)
refine⟨_,rfl,_,rfl,_,rfl,l,I,p,x,rfl,rfl,hl,zO hx,_,rfl,_,rfl,_,rfl,r,x,l,pg,nw,D[p],I,D,f,rfl,hR,tx,hl,d,os _ (gO _),os,Z,?_⟩
by_cases e:p=i
.subst e;rw[hu];refine⟨_,rfl,iteF ?_⟩;obtain⟨xa,rfl,N⟩:=tx;refine⟨_,rfl,_,rfl,l,I,p,_,rfl,rfl,hl,zO hx,iT (k:=0) (v:=_) (SqT.of N) rfl ?_⟩;rw[qDV hi hu hn]at q;exact q
rw[hn p (by lia)]
refine⟨_,rfl,iteT ⟨_,λ_ _ z=>z,?_⟩⟩
exact⟨_,rfl,iI ⟨i-(p+1),by lia,rfl,p+1,rfl,by lia,rfl⟩⟩)
theorem vR(T:tXx)(S:tFf):S.iR.Ok0 P w mg base 4 (spFu t K):=by(
refine S.iR.F.ok0 q88 λJ A Z s H N Q E I h=>?_
obtain⟨r,l,pg,nw,D,d,f,rfl,z⟩:=h
refine⟨_,(qC (qL (qU (q5F T S).mono I rfl T.aB3 T.aB1 S.tE.b .nil qK (qA (pv 0) (qA (pv 1) (qA (pv 2) (qA (pv 3) qD))))))),?_⟩
exact⟨_,rfl,_,rfl,_,rfl,_,rfl,r,l,pg,nw,D,d,f,rfl,z⟩)
theorem qAW{m:CM}:∀{rs:List V} {L:List Nat},Tys H m q rs L->Tls H rs (L.map (tlOf m q))
|_,_,.nil=>.nil
|_,_,.cons ⟨p,e,h⟩ r=>.cons ⟨p,e,h⟩ (qAW r)
noncomputable def mnC:Int:=144403552893600
theorem qIE(p1:1<=pg)(p2:pg<=16):Mny pg mnC:=by(
refine⟨p1,by decide,λj D z=>?_⟩
have d:∀n,n<33->0<n->n ∣ 144403552893600:=by decide+kernel
have:=d (pg+j).toNat (by lia) (by lia)
rw[show pg+j=(((pg+j).toNat)) by lia]
exact Int.natCast_dvd_natCast.mpr this)
noncomputable def RuX(t:Adr)(H:Hp)(r:Addr)(rl:List Addr):Rl->Prop
| .rk f=>(∃dx,H r=some (.ins t.f7 dx [])/\f=λz z z=>0)\/(∃dx,H r=some (.ins t.fg dx [])/\f=λz z=>Tl.lv)\/(∃dx,H r=some (.ins t.fj dx [])/\f=λz z=>Tl.bo)\/(∃dx,H r=some (.ins t.fq dx [])/\f=λpg nw=>rkW pg nw mnC)
|_=>False
theorem RuX.ok{H:Hp}{r:Addr}{rl:List Addr}{g:Rl}(h:RuX t H r rl g):g.Ok:=by(
cases g with
|rk f=>trivial
|win m=>exact h.elim
|fol d u=>exact h.elim)
theorem RuX.map(h:RuX t H r rl g)(h1:∀y∈r::rl,∀o,H y=some o->H' y=some o):RuX t H' r rl g:=by(
have h1:=h1 r kY
cases g with
|rk f=>
 rcases h with⟨dx,a,b⟩|⟨dx,a,b⟩|⟨dx,a,b⟩|⟨dx,a,b⟩
 .exact .inl ⟨dx,h1 _ a,b⟩
 .exact .inr (.inl ⟨dx,h1 _ a,b⟩)
 .exact .inr (.inr (.inl ⟨dx,h1 _ a,b⟩))
 exact .inr (.inr (.inr (⟨dx,h1 _ a,b⟩)))
|win m=>assumption
|fol d u=>assumption)
theorem RuX.keep{F:List Addr}(h:RuX t H r rl g)(k:Keep F H H')(n:∀y∈r::rl,y∉F):RuX t H' r rl g:=h.map λy hy o e=>k.k _ _ (n y hy) e
theorem RuX.ins{H:Hp}{r:Addr}{rl:List Addr}{g:Rl}(h:RuX t H r rl g):∃C d fs,H r=some (.ins C d fs):=by(
cases g with
|rk f=>
 rcases h with⟨dx,a,b⟩|⟨dx,a,b⟩|⟨dx,a,b⟩|⟨dx,a,b⟩
 .exact⟨_,_,_,a⟩
 .exact⟨_,_,_,a⟩
 .exact⟨_,_,_,a⟩
 exact⟨_,_,_,a⟩
|win m=>exact h.elim
|fol z u=>exact h.elim)
inductive spCr(t:Adr)(K:W.Frag)(vs:List V)(H:Hp)(Q:VK)(E_:XK):Prop
|mk:∀x r2 r3 r4 r5 m q r rl g op rs ts,vs=[.ref x.s,.ref op]->StAt t H x r2 r3 r4 r5 m q->Fit m q->x.ru=.ref r->RuX t H r rl g->H op=some (.lst rs)->Tls H rs ts->ts≠[]->ts.length<=16->(∀o∈ts,o.Ok (q.P:Int) q.nx)->(∀a∈ts,∀c∈ts,a.b=c.b->a=c)->(∀p H',Keep [r] H H'->RuX t H' r rl (g.ch (q.P:Int) q.nx ts).2->H' p=some (.tup [.str "rule",.int (g.ch (q.P:Int) q.nx ts).1])->Q (.ref p) H')->spCr t K vs H Q E_
theorem q1D(T:tXx)(S:tFf):S.fW.Ok0 P w mg base 5 (spCr t K):=by(
refine S.fW.F.ok0 q19 λah A _ s H vs Q E Z h=>?_
obtain⟨x,r2,r3,r4,r5,m,q,r,rl,g,op,rs,O,rfl,d,ft,I,J,D,tl,ne,af,ok,ad,k⟩:=h
have eP:=ft.eP
have p1:=ft.oq.p1
have p2:=ft.oq.p2
have te:=d.te
rw[eP]at te
refine⟨_,(qC (qL (yP (qA uQ (qA (q5J (j9 (qJ (pv 0) rfl) T.aE7 T.aDH (vR T S).mono Z S.iR.b .nil qK (qA (pv 1) (qA (qJ (qJ (pv 0) rfl) rfl) (qA (qJ (qJ (pv 0) rfl) rfl) qD)))) (q5J (j9 (qJ (pv 0) rfl) T.aDW T.aCK (vR T S).mono Z S.iR.b .nil qK (qA (pv 1) (qA (qJ (qJ (pv 0) rfl) rfl) (qA (qJ (qJ (pv 0) rfl) rfl) qD)))) (q5J (j9 (qJ (pv 0) rfl) T.aD6 T.aC0 (vR T S).mono Z S.iR.b .nil qK (qA (pv 1) (qA (qJ (qJ (pv 0) rfl) rfl) (qA (qJ (qJ (pv 0) rfl) rfl) qD)))) (j9 (qJ (pv 0) rfl) T.aES T.aC9 (vR T S).mono Z S.iR.b .nil qK (qA (pv 1) (qA (qJ (qJ (pv 0) rfl) rfl) (qA (qJ (qJ (pv 0) rfl) rfl) qD))))))) qD))))),?_⟩
try dsimp-beta-proj-iota-zeta-eta only[wishK,cxK]
cases g with
|rk f=>
 have sz2:2<=sizeLine:=by decide
 rcases id J with⟨dx,hins,rfl⟩|⟨dx,hins,rfl⟩|⟨dx,hins,rfl⟩|⟨dx,hins,rfl⟩
 .exact .inl (iV rfl (iF d.o T.eO T.i5 rfl ⟨r,dx,_,I,hins,rfl,_,rfl,iV rfl (iF d.o T.eO T.eU rfl (iF te T.fA T.e9 rfl (iV rfl (iF d.o T.eO T.eZ rfl (iF d.bk.o T.eT T.fH rfl ⟨r,op,_,_,rs,O,_,(by rw[I];rfl),.inl ⟨dx,hins,rfl⟩,SqL.of D,tl,ok,by lia,ne,sz2,λp H2 n2 z N=>k p H2 (Keep.same z) (J.keep (Keep.same z) (F:=[]) (by simp)) N⟩)))))⟩))
 .exact .inr (.inl (iV rfl (iF d.o T.eO T.i5 rfl ⟨r,dx,_,I,hins,rfl,_,rfl,iV rfl (iF d.o T.eO T.eU rfl (iF te T.fA T.e9 rfl (iV rfl (iF d.o T.eO T.eZ rfl (iF d.bk.o T.eT T.fH rfl ⟨r,op,_,_,rs,O,_,(by rw[I];rfl),.inr (.inl ⟨dx,hins,rfl⟩),SqL.of D,tl,ok,by lia,ne,sz2,λp H2 n2 z N=>k p H2 (Keep.same z) (J.keep (Keep.same z) (F:=[]) (by simp)) N⟩)))))⟩)))
 .exact .inr (.inr (.inl (iV rfl (iF d.o T.eO T.i5 rfl ⟨r,dx,_,I,hins,rfl,_,rfl,iV rfl (iF d.o T.eO T.eU rfl (iF te T.fA T.e9 rfl (iV rfl (iF d.o T.eO T.eZ rfl (iF d.bk.o T.eT T.fH rfl ⟨r,op,_,_,rs,O,_,(by rw[I];rfl),.inr (.inr (.inl ⟨dx,hins,rfl⟩)),SqL.of D,tl,ok,by lia,ne,sz2,λp H2 n2 z N=>k p H2 (Keep.same z) (J.keep (Keep.same z) (F:=[]) (by simp)) N⟩)))))⟩))))
 exact .inr (.inr (.inr ((iV rfl (iF d.o T.eO T.i5 rfl ⟨r,dx,_,I,hins,rfl,_,rfl,iV rfl (iF d.o T.eO T.eU rfl (iF te T.fA T.e9 rfl (iV rfl (iF d.o T.eO T.eZ rfl (iF d.bk.o T.eT T.fH rfl ⟨r,op,_,_,rs,O,_,(by rw[I];rfl),.inr (.inr (.inr (⟨dx,_,hins,rfl,qIE (by lia) (by lia)⟩))),SqL.of D,tl,ok,by lia,ne,sz2,λp H2 n2 z N=>k p H2 (Keep.same z) (J.keep (Keep.same z) (F:=[]) (by simp)) N⟩)))))⟩)))))
|win m=>exact J.elim
|fol ag u=>exact J.elim)
section
variable{H H':Hp}{x:Sto}{k:Tm}{sh sr:Int}{s:XS}{r:Addr}{rl:List Addr}{g:Rl}
theorem TbF.keepR(h:TbF t H){fs:List (Str×V)}(e:H r=some (.ins C d fs))(k:Keep [r] H H'):TbF t H':=by refine h.gen λb o to D=>k.k _ _ (λz=>yX to D e q20 (kE.mp z)) D
noncomputable def Off(t:Adr)(x:Sto)(R:List Addr):Prop:=∀y∈[x.s,x.tm]++(x.a.li::t.eI::t.eL::sf x),y∉R
theorem Off.n(o:Off t x R){y:Addr}(hy:y∈R):y∉t.eI::sf x:=λz=>o y (by grind) hy
theorem XR.kR(j:XR t H x k sh sr s)(o:Off t x (r::rl))(kk:Keep [r] H H')(hR:RuX t H r rl g):XR t H' x k sh sr s:=by(
obtain⟨C,d,fs,e⟩:=hR.ins
refine j.keep kk (λy D z=>o y ?_ (by rw[kE.mp z];exact kY)) (j.tb.keepR e kk)
grind)
end
inductive spLs(t:Adr)(vs:List V)(H:Hp)(Q:VK)(E_:XK):Prop
|mk:∀x k sh sr s,vs=[.ref x.s]->XR t H x k sh sr s->(∀H',Same H H'->Q (.int s.lst) H')->spLs t vs H Q E_
theorem qMW{s:XS}(lc:s.cl.length=s.q.B)(b1:1<=s.q.B)(hM:M∈(List.range s.q.B).map λb=>s.cl.getD b 0)(le:∀a∈(List.range s.q.B).map λb=>s.cl.getD b 0,M<=a):M=s.lst:=by(
have d:((List.range s.q.B).map λb=>s.cl.getD b 0)=s.cl:=by rw[<-lc];refine wA (by simp) λi h1 h2=>?_;simp[kL h2]
rw[d]at hM le
obtain⟨m,e,h1,h2⟩:=qAG (l:=s.cl) (λz=>by grind)
unfold XS.lst
rw[e]
have:=h2 M hM
have:=le m h1
show M=m
lia)
theorem q93(T:tXx)(S:tFf):S.aBZ.Ok0 P w mg base 6 (spLs t):=by(
refine S.aBZ.F.ok0 q8V λae A _ s H vs Q E O h=>?_
obtain⟨x,k,sh,sr,s,rfl,j,kk⟩:=h
obtain⟨m,J,c,_⟩:=j.e
have b1:=c.ft.ok.bl1
have b2:=j.w.qs.ok.b2
have eB:=c.ft.eB
refine⟨_,(qC (qL (qK1 rfl (by rfl) T.aFW qG (qA (vA ["self","block"] [0] rfl (yA (qR (pv 0) T.eO T.oK (uL T S).mono O S.iY.b .nil qK)) (λz z z z z=>(jE (i:=1) (show List.Nodup (["self","block"]:List Str)from by decide))) (λz z z z z=>qDQ) (λz z z z z=>(j9 (uN (K:=K) rfl (pv 0) rfl) T.eQ T.tD (zM T S).mono O S.i6.b .nil qK (qA (pv 1) qD))) (by kernel_rfl) (yL (by decide))) qD)))),?_⟩
try dsimp-beta-proj-iota-zeta-eta only[wishK,cxK]
refine(iV rfl (iM J.o rfl ⟨x,_,_,_,_,m,s.q,rfl,J,c.ft,λp H1 n1 Z h1=>?_⟩))
rw[c.br,yD]at h1
refine⟨p,rfl,⟨_,SqL.of h1⟩,λD H2 nD s2 hD=>?_⟩
refine qBM (K:=K) (xs:=(List.range s.q.B).map vn) (D:=D) (λi d=>Same H1 d/\d D=some (.lst ((((List.range s.q.B).take i).map λb=>s.cl.getD b 0).map V.int))) ⟨s2,hD⟩ (λi d z=>SqL.of (z.1 _ _ h1)) (λi y d hy z=>?_) (λd z=>?_)
.obtain⟨sm,I⟩:=z;have N:=J.same (Z.trans sm);rw[mM]at hy;obtain⟨b,hb,rfl⟩:=mH.mp hy;obtain⟨hi,eb⟩:=kF.mp hb;have bB:b<s.q.B:=mU.mp (gQ hb);refine(iV rfl (iF N.o T.eO T.fK rfl (iM N.ch.ins rfl ⟨_,rfl,x.c,x.a,m,_,rfl,N.ch,c.ft.ok,by lia,by lia,?_⟩)));rw[kQ,c.cl];refine⟨_,I,?_,λb o e=>?_,?_⟩
 .rw[kI,kI,gZ,m7];have:(16:Nat)<sizeLine:=by decide
  lia
 .rw[qE (qH e nD)];exact sm _ _ e
 rw[qI,<-mR hi,m8,m8,eb];rfl
obtain⟨sm,I⟩:=z
rw[kI,gL]at I
refine⟨D,_,rfl,SqL.of I,λe=>?_,λM hM le=>?_⟩
.have e:(List.range s.q.B).map (λb=>s.cl.getD b 0)=[]:=by simpa using e
 have:=dW List.length e;rw[kI,m7]at this;simp at this;lia
rw[qMW j.w.lc (by lia) hM le]
exact kk d (Z.trans sm))
inductive spCb(t:Adr)(vs:List V)(H:Hp)(Q:VK)(E_:XK):Prop
|mk:∀x k sh sr s p rs,∀L:List Nat,vs=[.ref x.s,.ref p]->XR t H x k sh sr s->H p=some (.lst rs)->Tls H rs (L.map s.tl)->L.length<=16->(∀p' rs' H',H p'=none->Same H H'->H' p'=some (.lst rs')->Tls H' rs' ((s.clb k L).map s.tl)->Q (.ref p') H')->spCb t vs H Q E_
theorem q0K(T:tXx)(S:tFf):S.iZ.Ok0 P w mg base 7 (spCb t):=by(
refine S.iZ.F.ok0 q0J λaj A _ s H vs Q E hr h=>?_
obtain⟨x,k,sh,sr,s,p,rs,L,rfl,j,aa,ty,an,kk⟩:=h
have sz:(16:Nat)<sizeLine:=by decide
refine⟨_,(qB (qO (i:=2) q0J.nd (qN uS (qR (pv 0) T.eO T.aEB (q93 T S).mono hr S.aBZ.b .nil qK) (qJ (qJ (pv 0) rfl) rfl))) (qC (qL (vA ["bound","tally"] [2] rfl (yA (pv 1)) (λz z z z z=>(jE (i:=1) (show List.Nodup (["bound","tally"]:List Str)from by decide))) (λz z z z z=>(uM (qS q3P (qX (q4W (K:=K) rfl) (pv 1) qG (λz z=>rfl)) (pv 0) (qV _)))) (λz z z z z=>(pv 1)) (by kernel_rfl) (yL (by decide)))))),?_⟩
try dsimp-beta-proj-iota-zeta-eta only[wishK,cxK]
refine(iV rfl (iM j.o rfl ⟨x,k,sh,sr,s,rfl,j,λH1 J=>?_⟩))
obtain⟨m,h1,c,_⟩:=(j.same J).e
refine(iV rfl (iF h1.o T.eO T.eU rfl (iF h1.te T.fA T.aAL rfl (iI ?_))))
refine⟨_,rfl,p,rfl,⟨_,SqL.of (J _ _ aa)⟩,λD H2 nD s2 hD=>?_⟩
have ac:=ty.same J
unfold XS.clb at kk
refine zD (K:=K) (xs:=rs) (D:=D) (λi N=>∃d,Same H1 N/\N D=some (.lst d)/\d.length<=i/\Tls H1 d (((L.take i).filter λb=>decide (s.cl.getD b 0<s.lst+k.sp)).map s.tl)) ⟨_,s2,hD,kO _,.nil⟩ (λi N O=>by obtain⟨_,sm,_⟩:=O;exact SqL.of (sm _ _ (J _ _ aa))) (λi y N hy O=>?_) (λN O=>?_)
.obtain⟨d,sm,hd,ln,I⟩:=O;obtain⟨o,ho,tp,rfl,Z⟩:=Paired.at ac hy;rw[mM]at ho;obtain⟨b,hb,rfl⟩:=mH.mp ho;have hi:=(kF.mp hb).1;obtain rfl:L[i]=b:=(kF.mp hb).2;refine⟨_,rfl,iT (k:=_) (v:=_) (SqT.of (sm _ _ Z)) rfl ⟨_,rfl,iI ⟨_,rfl,?_⟩⟩⟩;rw[qCD hi];have e2:(s.tl L[i]).cl=s.cl.getD L[i] 0:=rfl;by_cases z:s.cl.getD L[i] 0<s.lst+k.sp
 .rw[hC (show(s.tl L[i]).cl<s.lst+k.sp from z),hC z,kD rfl,m8];refine iteT ?_;refine⟨_,rfl,_,hd,by lia,_,λb o e=>?_,qI,?_,L2.Paired.snoc I ⟨tp,rfl,Z⟩⟩
  .rw[qE (qH e nD)];exact sm _ _ e
  rw[mI];exact p9 ln 1
 rw[kB (show ¬(s.tl L[i]).cl<s.lst+k.sp from z),kB z,hU (by decide),g0];exact iteF ⟨_,sm,hd,by lia,I⟩
obtain⟨d,sm,hd,ln,I⟩:=O
have lr:=ty.len
rw[kI]at lr
rw[lr,gL]at I
exact kk D d N (J.free nD) (J.trans sm) hd (I.same sm))
inductive spOpE(t:Adr)(vs:List V)(H:Hp)(Q:VK)(E_:XK):Prop
|mk:∀x k sh sr s,vs=[.ref x.s]->XR t H x k sh sr s->k.ev=true->(∀p rs H',H p=none->XR t H' x k sh sr s->Keep [t.eI] H H'->H' p=some (.lst rs)->Tls H' rs (s.ots k)->Q (.ref p) H')->spOpE t vs H Q E_
theorem XR.opts{x:Sto}{k:Tm}{sh:Int}{s:XS}(j:XR t H x k sh sr s)(ev:k.ev=true)(kk:∀p rs H',H p=none->XR t H' x k sh sr s->Keep [t.eI] H H'->H' p=some (.lst rs)->Tls H' rs (s.ots k)->Q (.ref p) H'):spOpE t [.ref x.s] H Q E:=⟨x,k,sh,sr,s,rfl,j,ev,kk⟩
theorem qIF{k:Tm}{s:XS}(h:WX k s):(s.ded k).length<=16/\(s.ful k).length<=16:=by
 have d:=h.qs.ok.b2;have:(s.ful k).length<=16:=by refine mO (mK _ _) ?_;rw[m7];exact d
 exact⟨mO (mK _ _) this,this⟩
theorem qKF{p:Addr}(k1:Keep [t.eI] H H')(tb:TbF t H')(np:H' p=none):H p=none:=by(
refine k1.none (λz=>?_) np
obtain⟨D,d,_⟩:=tb
grind)
theorem q25(T:tXx)(S:tFf)(B:BmIn base mg):S.oW.Ok0 P w mg base 12 (spOpE t):=by(
refine S.oW.F.ok0 q6J λad A _ s H vs Q E Z h=>?_
obtain⟨x,k,sh,sr,s,rfl,j,ev,kk⟩:=h
refine⟨_,(qC (qL (j9 (pv 0) T.eO T.t7 (q0K T S).mono Z S.iZ.b .nil qK (qA (qR (pv 0) T.eO T.aAD (q1C T S B).mono Z S.fV.b .nil qK) qD)))),?_⟩
try dsimp-beta-proj-iota-zeta-eta only[wishK,cxK]
obtain⟨m,z,c,_⟩:=j.e
refine(iV rfl (iM z.o rfl (iV rfl (iM z.o rfl ⟨x,_,_,_,m,s.q,_,rfl,z,c.ft,λl p rs H1 hl np I d h1 ty=>?_⟩))))
have O:=j.kT I d
have ty:=qAW ty
rw[c.br,c.cl]at hl
rw[qHN j.w c.br hl,qKX c.cl]at ty
refine⟨x,k,sh,sr,s,p,rs,s.ded k,rfl,O,h1,ty,(qIF j.w).1,λp' N H2 D s2 h2 J=>?_⟩
refine kk p' N H2 (qKF I d D) (O.same s2) (I.trans (Keep.same s2)) h2 ?_
unfold XS.ots XS.opt
rw[ev]
exact J)
theorem qO1:FnScope ["tally"] ["tally"] lbSc:=⟨rfl,rfl,rfl,by decide+kernel,rfl,by decide+kernel,by decide+kernel⟩
inductive spLb(g c:Addr)(pm ct:Value)(vs:List V)(H:Hp)(Q:VK)(E_:XK):Prop
|mk:∀v T,vs=[v]->TlAt H v T->H g=some (fnO g (lbFd pm ct c))->H c=some (cdO c lbQ)->NewO H (.tup [.int (Tl.cl T),.int (Tl.b T)]) Q->spLb g c pm ct vs H Q E_
theorem qO2{c:Addr}{bs:Heap}:FnOk P w K mg bs CX0 1 g (lbFd pm ct c) ["tally"] (spLb g c pm ct):=by(
refine qMI (k:=0) qO1 (λz H Q E h=>?_) (λz H Q E h=>?_) (λA outer s H z Q E D h=>?_)
.repeat obtain⟨_,h⟩:=h
 all_goals subst_vars;rfl
.obtain⟨v,T,rfl,_,a,b,_⟩:=h;exact⟨a,b⟩
obtain⟨v,T,rfl,⟨I,rfl,d⟩,_,_,q⟩:=h
refine⟨_,yP (qA (qX jO (pv 0) qG (λZ Z=>rfl)) (qA (qX jO (pv 0) qG (λZ Z=>rfl)) qD)),?_⟩
exact⟨_,rfl,iT (k:=2) (v:=_) (SqT.of d) rfl ⟨_,rfl,iT (k:=0) (v:=_) (SqT.of d) rfl ⟨sz2,q⟩⟩⟩)
theorem qIG{c:Addr}:jT K (lbFd pm ct c) ["tally"] []:=jT.all λus hl=>match us,hl with| [_],_=>rfl
theorem qKG(h:TbB t H):∃ps,H t.eL=some (.tbl ps)/\TriplesOk ps.toList/\((codeAmong lbP ps.toList=none/\∀c H',H' t.eL=some (.tbl (ps++triB c))->H' c=some (cdO c lbQ)->TbB t H')\/∃c,codeAmong lbP ps.toList=some (.ref c)/\H c=some (cdO c lbQ)):=by(
obtain⟨ps,hT,h⟩:=h
rcases h with rfl|⟨c,rfl,a⟩
.exact⟨_,hT,trivial,.inl ⟨rfl,λc H' z d=>⟨_,z,.inr ⟨c,rfl,d⟩⟩⟩⟩
exact⟨_,hT,trivial,.inr ⟨c,rfl,a⟩⟩)
theorem qKH{L:List Nat}{i:Nat}(pw:L.Pairwise (· < ·))(hi:i<L.length)(h:∀j,j<L.length->lx (keyN cl (L.getD j 0)) (keyN cl (L.getD i 0))=false):minF cl L=some (L.getD i 0):=by(
have gd:∀{j},(d:j<L.length)->L.getD j 0=L[j]:=fun {j} d=>by rw[kN,kL d];rfl
obtain⟨h1,h2⟩:=q3D (cl:=cl) pw
cases z:minF cl L with
|none=>rw[h1 z]at hi;cases hi
|some b=>
 obtain⟨J,N⟩:=h2 b z;obtain⟨j,d,rfl⟩:=d9 J;have D:=h j d;have I:=N (L.getD i 0) (by rw[gd hi];exact gO hi);rw[gd d]at D;have e:=q5K _ _ D I;unfold keyN at e;rw[show L[j]=L.getD i 0 by lia])
theorem qMX{k:Tm}{s:XS}:(s.clb k (s.ful k)).Pairwise (· < ·):=by exact(dH.filter _).filter _
theorem qEN{kn:Nat}{cells:List (Str×Addr)}{σ:St}{H4:Hp}{D f c':Addr}{k:Tm}{s:XS}{rs:List V}{L:List Nat}{pm ct:Value}{Q:VK}(hk:1<=kn)(ne:L≠[])(pw:L.Pairwise (· < ·))(hD:H4 D=some (.lst rs))(ty:Tls H4 rs (L.map s.tl))(hf:H4 f=some (fnO f (lbFd pm ct c')))(hc:H4 c'=some (cdO c' lbQ))
 (kk:∀b v H',minF s.cl L=some b->Same H4 H'->TlAt H' v (s.tl b)->Q v H'):
 ∃(f':Addr) (fd:FuncData) (sp:Heap->Sp),V.ref f=.ref f'/\(∀base',(∀b o,base.get? b=some o->base'.get? b=some o)->q2F cells σ base' []->FnOk P w K mg base' CX0 kn f' fd ["tally"] (sp base'))/\jT K fd ["tally"] []/\∃(l:Addr) (us:List V) (kf:Nat->List Int) (Pv:Nat->List V->Hp->Prop),[V.ref D]=[.ref l]/\0<us.length/\Pv 0 [] H4/\(∀i zs H',Pv i zs H'->SqL K H' l us/\zs.length=i/\KeyI K kf H' zs)/\(∀base' i x zs H',q2F cells σ base' []->us[i]?=some x->Pv i zs H'->sp base' [x] H' (λz H''=>Pv (i+1) (zs++[z]) H'') E0)/\∀i zs H',i<us.length->(∀j,j<us.length->lx (kf j) (kf i)=false)->Pv us.length zs H'->Q (us.getD i .non) H':=by(
have ln:=ty.len
rw[kI]at ln
refine⟨f,lbFd pm ct c',λ_=>spLb f c' pm ct,rfl,λ_ _ _=>qO2.mono hk,qIG,D,rs,λj=>keyN s.cl (L.getD j 0),λi zs H'=>Same H4 H'/\i<=L.length/\Paired (TupD H') zs ((L.take i).map (keyN s.cl)),rfl,by have:=xB.mpr ne;lia,⟨Same.refl H4,m9 _,.nil⟩,λi zs H' J=>?_,λbase' i y zs H' _ hy J=>?_,λi zs H' hi hm J=>?_⟩
.obtain⟨sm,le,N⟩:=J;have lz:=N.len;rw[kI,gZ]at lz;refine⟨SqL.of (sm _ _ hD),by lia,λj z hz=>?_⟩;have hj:=(kF.mp hz).1;obtain⟨kv,hk,O,rfl,aa⟩:=Paired.at N hz;rw[mM,List.getElem?_take,kD (by lia)]at hk;obtain⟨b,d,rfl⟩:=mH.mp hk;show TupI K H' (V.ref O) (keyN s.cl (L.getD j 0));rw[kN,d];exact⟨O,rfl,SqT.of aa⟩
.obtain⟨sm,le,N⟩:=J;obtain⟨o,I,Z⟩:=Paired.at ty hy;rw[mM]at I;obtain⟨b,d,rfl⟩:=mH.mp I;have hi:=(kF.mp d).1;refine⟨y,s.tl b,rfl,Z.same sm,sm _ _ hf,sm _ _ hc,λO H5 ad s5 e5=>⟨sm.trans s5,hi,?_⟩⟩;rw[q9T (f:=keyN s.cl) d];exact L2.Paired.snoc (vT N s5) ⟨O,rfl,e5⟩
obtain⟨sm,le,N⟩:=J
have S:i<L.length:=by lia
obtain⟨o,I,Z⟩:=Paired.at ty (kL hi)
rw[mM]at I
obtain⟨b,d,rfl⟩:=mH.mp I
have e:L.getD i 0=b:=by rw[kN,d];rfl
have:=qKH (cl:=s.cl) pw S (λj hj=>hm j (by lia))
rw[e]at this
refine kk b _ H' this sm ?_
rw[kN,kL hi]
exact Z.same sm)
inductive spBc(t:Adr)(vs:List V)(H:Hp)(Q:VK)(E:XK):Prop
|mk:∀x k sh sr s,vs=[.ref x.s]->XR t H x k sh sr s->k.ev=true->(match s.chg k with
|none=>∀H',XR t H' x k sh sr s->Keep [t.eI] H H'->E (.ref t.gc) none H'
|some b=>∀H',XR t H' x k sh sr s->Keep [t.eI,t.eL] H H'->Q (.int (b:Int)) H')->spBc t vs H Q E
theorem q1E(T:tXx)(S:tFf)(B:BmIn base mg):FnOk P w K mg base (CXe P w) 11 t.ia S.fP ["self"] (spBc t):=by(
refine S.t9.okE v7 λA outer s H vs Q E hr h=>?_
obtain⟨x,k,sh,sr,s,rfl,j,ev,kk⟩:=h
refine⟨_,(qB (qO (i:=1) v7.nd (j9 (pv 0) T.eO T.t7 (q0K T S).mono hr S.iZ.b .nil qK (qA (qR (pv 0) T.eO T.t6 (q0C T S B).mono hr S.iG.b .nil qK) qD))) (qB (jG (qS (qAA hr.units) (pv 1) (jY qD) (qV _)) (qC (q4S qZ rfl rfl T.aE9 T.aFL (qA uQ qD))) qT) (qC (qL (qX jO (qGJ (qK5 (k:=9) (x:="tally") [] (by intro p hp;cases hp) rfl hr.units hr (by rfl) T.aFW (qE3 (clos:=[]) rfl T.tX B rfl rfl) (qA (pv 1) qD))) qG (λz z=>rfl)))))),?_⟩
try dsimp-beta-proj-iota-zeta-eta only[wishK,cxK]
obtain⟨m,hs,c,_⟩:=j.e
refine(iV rfl (iM hs.o rfl (iV rfl (iM hs.o rfl ⟨x,_,_,_,m,s.q,_,rfl,hs,c.ft,λl p rs H1 hl np k1 al h1 ty=>?_⟩))))
have j1:=j.kT k1 al
have ty:=qAW ty
rw[c.br,c.cl]at hl
rw[c.br,qHM j.w hl,qKX c.cl]at ty
refine⟨x,k,sh,sr,s,p,rs,s.ful k,rfl,j1,h1,ty,(qIF j.w).2,λp' aw H2 bh s2 h2 an=>?_⟩
have j2:=j1.same s2
have k2:Keep [t.eI] H H2:=k1.trans (Keep.same s2)
refine⟨_,rfl,sz0,λe6 H6 n6 s6 h6=>⟨p',_,e6,rfl,rfl,SqL.of (s6 _ _ h2),SqL.of h6,_,rfl,?_⟩⟩
have k6:Keep [t.eI] H H6:=k2.trans (Keep.same s6)
have j6:=j2.same s6
have I:=an.same s6
have N:=s6 _ _ h2
have ln:=I.len
rw[kI]at ln
have pw:=qMX (k:=k) (s:=s)
unfold XS.chg at kk
generalize s.clb k (s.ful k)=L at kk I ln pw
cases aw with
|nil=>obtain rfl:L=[]:=sB ln.symm;exact iteT ⟨sz1,kk H6 j6 k6⟩
|cons u us=>
 have ne:L≠[]:=λz=>by rw[z]at ln;cases ln
 refine iteF ?_;obtain⟨J,eJ⟩:∃J:VK,J=λv d=>∃Z b,v=.ref Z/\d Z=some (.tup ((s.tl b).ns.map V.int))/\minF s.cl L=some b/\XR t d x k sh sr s/\Keep [t.eI,t.eL] H d:=⟨_,rfl⟩;refine⟨J,?_,?_⟩
 .refine⟨_,rfl,?_⟩;obtain⟨pf,az,au,tB⟩:=j6.tb;obtain⟨ps,hT,ht,a0⟩:=qKG tB;have nT:p'≠t.eL:=λz=>by rw[z,hT]at N;cases N
  refine⟨ps,hT,ht,?_⟩;have fin:∀b v D d,Keep [t.eI,t.eL] H6 D->XR t D x k sh sr s->minF s.cl L=some b->Same D d->TlAt d v (s.tl b)->J v d:=λb v D d k4 j4 e O hv=>by obtain⟨Z,rfl,h5⟩:=hv;rw[eJ];exact⟨Z,b,rfl,h5,e,j4.same O,((k6.mono (by simp)).trans k4).trans (Keep.same O)⟩
  rcases a0 with⟨hn,tb⟩|⟨c0,hn,hc0⟩
  .refine .inl ⟨hn,λf c' aq D nf hf af av kp=>?_⟩;have am:t.eI≠t.eL:=T.aA4;have k4:Keep [t.eI,t.eL] H6 D:=⟨λb o nb e=>kp b o (λz=>nb (by rw[z];simp)) e,λb xs e=>kp b _ (λz=>by rw[z,hT]at e;cases e) e⟩;have a2:Keep [t.eL] H6 D:=⟨λb o nb e=>kp b o (λz=>nb (by rw[z];simp)) e,k4.tp⟩;have ao:TbF t D:=by
    refine⟨pf,kp _ _ am az,?_,tb c' D av af⟩;rcases au with z|⟨c1,z,a⟩
    .exact .inl z
    exact .inr ⟨c1,z,kp _ _ (λz=>by rw[z,hT]at a;cases a) a⟩
   obtain⟨m6,ay,_⟩:=j6.e;have j4:=j6.keep a2 (λb hb z=>ay.nX hT (.inl ⟨_,rfl⟩) (by rw[<-kE.mp z];exact hb)) ao;exact qEN (k:=k) (s:=s) (show 1<=11-2 by decide) ne pw (kp _ _ nT N) (Paired.mapP I λv o ⟨a,e,z⟩=>⟨a,e,k4.tp _ _ z⟩) hf af λb v d e O hv=>fin b v D d k4 j4 e O hv
  refine .inr ⟨c0,hn,λf aq D nf hf s4=>?_⟩;exact qEN (k:=k) (s:=s) (show 1<=11-2 by decide) ne pw (s4 _ _ N) (I.same s4) hf (s4 _ _ hc0) λb v d e O hv=>fin b v D d (Keep.same s4) (j6.same s4) e O hv
 rw[eJ];rintro v d ⟨Z,b,rfl,h5,e,j5,k5⟩
 rw[e]at kk;exact(iT (k:=0) (v:=_) (SqT.of h5) rfl (kk d j5 k5)))
inductive spCh(t:Adr)(vs:List V)(H:Hp)(Q:VK)(E:XK):Prop
|mk:∀x k sh sr s r rl g,vs=[.ref x.s]->XR t H x k sh sr s->k.ev=true->x.ru=.ref r->RuX t H r rl g->Off t x (r::rl)->s.rc.length<1000000->(match s.tk k g with
|none=>∀H',XR t H' x k sh sr s->Keep [t.eI] H H'->E (.ref t.gc) none H'
|some (y,b,g')=>∀p H',Keep [t.eI,t.eL,r] H H'->XR t H' x k sh sr s->RuX t H' r rl g'->H' p=some (.tup [.str y,.int (b:Int)])->Q (.ref p) H')->spCh t vs H Q E
theorem q8K(T:tXx)(S:tFf)(B:BmIn base mg):S.aBG.OkE P w mg base 13 (spCh t):=by(
refine S.aBG.F.okE q2Z λaw A outer s H vs Q E hr h=>?_
obtain⟨x,k,sh,sr,s,r,rl,g,rfl,j,ev,er,hR,of,rc,kk⟩:=h
refine⟨_,(qB (qO (i:=1) q2Z.nd (qR (pv 0) T.eO T.aA2 (q25 T S B).mono hr S.oW.b .nil qK)) (qB (jG (qS (qAA hr.units) (pv 1) (jY qD) (qV _)) (qC (qL (yP (qA uQ (qA (v4 qZ (pv 0) T.eO T.aAA (q1E T S B).mono hr S.t8 .nil) qD))))) qT) (qC (qL (j9 (pv 0) T.eO T.aAM (q1D T S).mono hr S.fW.b .nil qK (qA (pv 1) qD)))))),?_⟩
try dsimp-beta-proj-iota-zeta-eta only[wishK,cxK]
refine(iV rfl (iM j.o rfl ?_))
dsimp only[tNil,gM]
refine j.opts ev λp rs H1 np j1 k1 h1 ty=>?_
refine⟨_,rfl,sz0,λe6 H6 n6 N h6=>⟨p,_,e6,rfl,rfl,SqL.of (N _ _ h1),SqL.of h6,_,rfl,?_⟩⟩
have k6:Keep [t.eI] H H6:=k1.trans (Keep.same N)
have j6:=j1.same N
have ln:=ty.len
unfold XS.tk at kk
cases rs with
|nil=>
 have e0:s.opt k=[]:=sK.mp (sB ln.symm);rw[kD e0,ev,kD rfl]at kk;refine iteT ?_;refine(iV rfl (iM j6.o rfl ⟨x,k,sh,sr,s,rfl,j6,ev,?_⟩));have oT:=of t.eI (by simp);have oB:=of t.eL (by simp);cases z:s.chg k with
 |none=>rw[z]at kk;exact λZ j7 D=>kk Z j7 (k6.trans D)
 |some b=>
  rw[z]at kk;refine λZ j7 D=>⟨sz2,λtp H8 n8 s8 h8=>?_⟩;have k8:Keep [t.eI,t.eL] H H8:=((k6.mono (by simp)).trans D).trans (Keep.same s8);refine kk tp H8 (k8.mono (by intro y d;simp at d ⊢;rcases d with e|e<;>simp[e])) (j7.same s8) (hR.keep k8 λy d z=>?_) h8;have z:y=t.eI\/y=t.eL:=by simpa using z
  rcases z with z|z
  .exact oT (by rw[<-z];exact d)
  exact oB (by rw[<-z];exact d)
|cons u us=>
 have ne:s.opt k≠[]:=λz=>by unfold XS.ots at ln;rw[z]at ln;cases ln
 rw[hU ne]at kk;refine iteF ?_;obtain⟨m,J,c,_⟩:=j6.e;have oT:=of t.eI (by simp);have O:=hR.keep k6 (λy d z=>oT (by rw[<-kE.mp z];exact d));have I:s.ots k≠[]:=λz=>ne (sK.mp z);have ah:∀o∈s.ots k,o.Ok (s.q.P:Int) s.q.nx:=λo ho=>by obtain⟨b,hb,rfl⟩:=kZ.mp ho;exact qNU j.w rc (yQ.mp hb).1.1.b
 refine(iV rfl (iM J.o rfl ⟨_,rfl,x,_,_,_,_,m,s.q,r,rl,g,p,_,_,rfl,J,c.ft,er,O,N _ _ h1,ty.same N,I,by unfold XS.ots;rw[kI];exact qMQ j.w,ah,qJU,λpp Z D ag h7=>?_⟩));have cm:=qHP (pg:=(s.q.P:Int)) (nw:=s.q.nx) hR.ok I;refine kk pp Z ((k6.mono (by simp)).trans (D.mono (by simp))) (j6.kR of D O) ag ?_;rw[h7];obtain⟨b,hb,e⟩:=kZ.mp cm;obtain⟨c',_,rfl⟩:=kZ.mp hb;have e:(c':Int)=(g.ch (s.q.P:Int) s.q.nx (s.ots k)).1:=e;rw[<-e,kQ])
inductive spPp(K:W.Frag)(vs:List V)(H:Hp)(Q:VK)(E_:XK):Prop
|mk:∀wy bl wi l1 l2 rs us,vs=[wy,.ref l1,bl,.ref l2,wi]->H l1=some (.lst rs)->H l2=some (.lst us)->(∀pa a1 a2 H',Same H H'->H pa=none->H a1=none->H a2=none->H' pa=some (.tup [wy,.ref a1,bl,.ref a2,wi])->H' a1=some (.lst rs)->H' a2=some (.lst us)->Q (.ref pa) H')->spPp K vs H Q E_
theorem q6G(T:tXx)(S:tFf):S.aCF.Ok0 P w mg base 1 (spPp K):=by(
refine S.aCF.F.ok0 qC4 λJ A _ s H vs Q E hr h=>?_
obtain⟨wy,bl,wi,I,l2,rs,N,rfl,h1,h2,k⟩:=h
refine⟨_,(qC (qL (yP (qA (pv 0) (qA (q5H q0M (by rfl) T.aFB (by kernel_rfl) (qA (pv 1) qD)) (qA (pv 2) (qA (q5H q0M (by rfl) T.aFB (by kernel_rfl) (qA (pv 3) qD)) (qA (pv 4) qD)))))))),?_⟩
try dsimp-beta-proj-iota-zeta-eta only[wishK,cxK]
refine⟨_,rfl,_,rfl,I,rs,rfl,.inl (SqL.of h1),λa1 H1 n1 d e1=>?_⟩
refine⟨_,rfl,_,rfl,l2,N,rfl,.inl (SqL.of (d _ _ h2)),λa2 H2 Z z e2=>?_⟩
refine⟨_,rfl,sz5,λpa H3 O D e3=>?_⟩
exact k pa a1 a2 H3 ((d.trans z).trans D) ((d.trans z).free O) n1 (d.free Z) e3 (D _ _ (z _ _ e1)) (D _ _ e2))
theorem qKI{s:XS}{k:Tm}{b:Nat}{rs:List (List Int)}(w:WX k s)(pm:rs.Perm (lpK s.q.P b s.q.V))(so:rs.Pairwise λa b=>lx b a=false):rs=lvP s.q.P b s.q.V:=by(
refine qEA w.qs.ok.p1 w.pd ?_ (λkk=>?_) so
.refine pm.nodup_iff.mpr ?_;refine gT.mpr (((gT.mp w.qs.ok.nd).imp fun {a c} hne z=>hne ?_).filter _);injection z with _ z
 injection z with z _
rw[pm.mem_iff]
unfold lpK
rw[kZ]
constructor
.rintro⟨y,hy,rfl⟩
 obtain⟨D,d⟩:=mL.mp hy;exact⟨y.1,y.2,rfl,D,kP d⟩
rintro⟨n,p,rfl,D,d⟩
exact⟨(n,p),mL.mpr ⟨D,hC d⟩,rfl⟩)
inductive spMv(t:Adr)(vs:List V)(H:Hp)(Q:VK)(E:XK):Prop
|mk:∀x k sh sr s,∀b:Nat,vs=[.ref x.s,.int (b:Int)]->XR t H x k sh sr s->Full k s b->s.rc.length+100<1000000->(match XS.mvs (lvP s.q.P b s.q.V) s with
|(s',none)=>∀H',XR t H' x k sh sr s'->Keep (t.eI::sf x) H H'->E (.ref t.dy) none H'
|(s',some ms)=>∀ml us H',XR t H' x k sh sr s'->H ml=none->H' ml=some (.lst us)->Paired (TupD H') us ms->Mvd k s b s' (lvP s.q.P b s.q.V).length->(∀y∈s'.q.V,¬y.2 / (s'.q.P:Int)=(b:Int))->Keep (t.eI::sf x) H H'->Q (.ref ml) H')->spMv t vs H Q E
theorem q8L(T:tXx)(S:tFf)(B:BmIn base mg):S.aBE.OkE P w mg base 13 (spMv t):=by(
refine S.aBE.F.okE vM λbo A outer s H vs Q E hr h=>?_
obtain⟨x,k,sh,sr,s,b,rfl,j,fl,rc,kk⟩:=h
have s9:(99999:Nat)<sizeLine:=by decide
have az:=fl.sp j.w
have l6:=j.w.l6
refine⟨_,(qB (qO (i:=2) vM.nd (jY qD)) (qB (vS dP rfl (yA (j9 (qJ (pv 0) rfl) T.eT T.aBU (q4G T S).mono hr S.oQ.b .nil qK (qA (pv 1) qD))) (qA3 rfl (zB (jE (i:=3) vM.nd) (zB (jE (i:=4) vM.nd) q6U))) (qC (j8 (qDO cA wP wQ q13 (pv 2) (qA (yP (qA (pv 4) (qA (pv 3) (qA (jF qZ (pv 0) T.eO T.aB2 (q35 T S B).mono hr S.aBM.b .nil (qA (pv 4) (qA (jF qZ (pv 0) T.eO T.aAS (q21 T S).mono hr S.fY.b .nil (qA (pv 3) (qA (pv 4) qD))) qD))) qD)))) qD q4U))))) (qC (qL (pv 2))))),?_⟩
try dsimp-beta-proj-iota-zeta-eta only[wishK,cxK]
refine⟨sz0,λZ H1 n1 s1 h1=>?_⟩
obtain⟨m,ae,c,_⟩:=(j.same s1).e
refine(iV rfl (iF ae.o T.eO T.eZ rfl (iM ae.bk.o rfl ⟨_,rfl,x.k,s.q,b,rfl,ae.bk,j.w.qs.ok,by lia,λll ps rs H2 s2 n2 h2 aj pm so=>?_⟩)))
obtain rfl:=qKI j.w pm so
have O:=s1.trans s2
have af:=j.off n1
have a4:=(j.same s1).off n2
have a0:ll≠Z:=(qH h1 n2).symm
have a2:=aj.len
have lr:(lvP s.q.P b s.q.V).length<=16:=by have:=j.w.qs.ok.p2;unfold lvP;refine mO (rO _ _) ?_;rw[m7];exact this
refine⟨ll,rfl,⟨_,SqL.of h2⟩,?_⟩
refine v8 (K:=K) (xs:=ps) (λi ar H'=>∃y3 y4 J s' ms,ar=[some (.ref x.s),some (.int (b:Int)),some (.ref Z),y3,y4]/\XR t H' x k sh sr s'/\MvI k s b (lvP s.q.P b s.q.V) i s' ms/\H' Z=some (.lst J)/\Paired (TupD H') J ms/\Keep (Z::t.eI::sf x) H2 H') ⟨_,_,[],s,[],rfl,j.same O,MvI.zero j.w fl.f,s2 _ _ h1,.nil,Keep.refl⟩ (λi ar H' hi hp=>?_) (λi v ar H' hv hp=>?_) (λar H' hp=>?_)
.obtain⟨y3,y4,J,s',ms,rfl,j',I,N,pr,D⟩:=hp;refine SqL.of (D.k _ _ (λz=>?_) h2);rcases kM.mp z with e|e
 .exact a0 e
 exact a4 e
.obtain⟨y3,y4,J,s',ms,rfl,j',I,N,pr,D⟩:=hp;obtain⟨kv,hk,tp,rfl,a6⟩:=Paired.at aj hv;obtain⟨hi,an⟩:=kF.mp hk;obtain⟨n,p,er,ag,n0,a5⟩:=I.at hi;rw[er]at an;subst an;have ai:=D.tp _ _ a6;have bp:=I.rc;have bj:=I.rm;have kH:∀{G},Keep (t.eI::sf x) H' G->Keep (t.eI::sf x) H G:=fun {G} kG=>by
  refine⟨λy o ny e=>kG.k y o ny (D.k y o (λz=>?_) (O _ _ e)),λy ys e=>kG.tp _ _ (D.tp _ _ (O _ _ e))⟩;rcases kM.mp z with z|z
  .rw[z,n1]at e;cases e
  exact ny z
 refine⟨tp,_,rfl,SqT.of ai,rfl,_,_,rfl,_,_,rfl,rfl,?_⟩;refine⟨_,rfl,.inl ⟨rfl,_,SqL.of N⟩,_,rfl,_,rfl,iV rfl (iM j'.o rfl ⟨_,rfl,iV rfl (iM j'.o rfl ⟨_,rfl,_,rfl,x,k,sh,sr,s',n,p,rfl,j',ag,λdk=>?_,λH3 s3=>?_⟩)⟩)⟩
 .rw[I.dark hi dk]at kk;exact kk H' j' (kH Keep.refl)
 dsimp only[tNil,gP,gM,g0];have al:=s3 _ _ N;refine(j'.same s3).set n0 a5 (by lia) (by rw[I.eP];lia) (.inl ⟨p,ag⟩) (λdk H5 j5 k5=>?_) (λdk H5 j5 k5=>?_)
 .rw[I.dark hi dk]at kk;exact kk H5 j5 (kH ((Keep.same s3).trans k5))
 have aa:=k5.k _ _ af al;refine⟨sz3,λtu H6 n6 s6 h6=>⟨Z,J,_,rfl,rfl,s6 _ _ aa,by have:=pr.len;have:=I.l;lia,?_⟩⟩;have ab:=s6 _ _ aa;have k7:=Keep.upd (F:=[Z]) (o:=.lst (J++[.ref tu])) ab (λd z=>by cases z) (by simp);have ad:(upd H6 Z (.lst (J++[.ref tu]))) Z=_:=qI;have j7:=(j5.same s6).lst (o:=.lst (J++[.ref tu])) ab af;generalize upd H6 Z (.lst (J++[.ref tu]))=H7 at k7 ad j7 ⊢;have kA:Keep (Z::t.eI::sf x) H' H7:=(((Keep.same s3).trans (k5.mono (λy hy=>hG _ hy))).trans (Keep.same s6)).trans (k7.mono (by simp));exact⟨some (.int p),some (.int n),J++[.ref tu],_,_,rfl,j7,I.step q5P hi az dk er,ad,L2.Paired.snoc (Paired.mapP pr λv d ⟨p',e',h'⟩=>⟨p',e',kA.tp _ _ h'⟩) ⟨tu,rfl,k7.tp _ _ h6⟩,D.trans kA⟩
obtain⟨y3,y4,J,s',ms,rfl,j',I,N,pr,D⟩:=hp
rw[a2]at I
obtain⟨e,nl⟩:=I.fin rfl
rw[e]at kk
have kH:Keep (t.eI::sf x) H H':=by
 refine⟨λy o ny e=>D.k y o (λz=>?_) (O _ _ e),λy ys e=>D.tp _ _ (O _ _ e)⟩;rcases kM.mp z with z|z
 .rw[z,n1]at e;cases e
 exact ny z
exact⟨_,rfl,kk Z J H' j' n1 N pr (I.mvd (kO _)) nl kH⟩)
noncomputable abbrev fx(t:Adr)(x:Sto)(r pp:Addr):List Addr:=pp::r::t.eL::t.eI::sf x
noncomputable def PapA(_:Hp)(_:List Addr)(_:V)(_:Pa):Prop:=True
theorem PapA.keep{F:List Addr}{v:V}{p:Pa}(h:PapA H F v p)(k:Keep G H H')(s:∀y∈G,y∈F):PapA H' F v p:=trivial
structure XX(t:Adr)(H:Hp)(x:Sto)(k:Tm)(sh sr:Int)(r:Addr)(rl:List Addr)(pp:Addr)(X:Sx):Prop where
j:XR t H x k sh sr X.s
er:x.ru=.ref r
ru:RuX t H r rl X.g
of:Off t x (r::rl)
ep:x.pa=.ref pp
hp:∃ps,H pp=some (.lst ps)/\Paired (PapA H (fx t x r pp)) ps X.ps
np:pp∉t.eI::sf x
nr:pp∉r::rl
section
variable{H H':Hp}{x:Sto}{k:Tm}{sh sr:Int}{r:Addr}{rl:List Addr}{pp:Addr}{X:Sx}
theorem XX.kT(h:XX t H x k sh sr r rl pp X)(kk:Keep [t.eI] H H')(tb:TbF t H'):XX t H' x k sh sr r rl pp X:=by obtain⟨ps,h1,h2⟩:=h.hp;have d:=h.of t.eI (by simp);exact⟨h.j.kT kk tb,h.er,h.ru.keep kk (λy D z=>d (by rw[<-kE.mp z];exact D)),h.of,h.ep,⟨ps,kk.k _ _ (λz=>h.np (by rw[kE.mp z];simp)) h1,Paired.mapP h2 λZ Z z=>z.keep kk (by simp)⟩,h.np,h.nr⟩
theorem XX.same(h:XX t H x k sh sr r rl pp X)(s:Same H H'):XX t H' x k sh sr r rl pp X:=h.kT (Keep.same s) (h.j.tb.same s)
theorem XX.on(h:XX t H x k sh sr r rl pp X){s:XS}(kk:Keep (t.eI::sf x) H H')(j:XR t H' x k sh sr s):XX t H' x k sh sr r rl pp ⟨s,X.g,X.ps⟩:=by obtain⟨ps,h1,h2⟩:=h.hp;exact⟨j,h.er,h.ru.keep kk (λy d=>h.of.n d),h.of,h.ep,⟨ps,kk.k _ _ h.np h1,Paired.mapP h2 λZ Z z=>z.keep kk (by grind)⟩,h.np,h.nr⟩
end
theorem XX.other{x:Sto}{k:Tm}{sh:Int}(h:XX t H x k sh sr r rl pp X){F:List Addr}(kk:Keep F H H')(n:∀b∈pp::r::rl++([x.s,x.tm]++(x.a.li::sf x)),b∉F)(tb:TbF t H'):XX t H' x k sh sr r rl pp X:=by obtain⟨ps,h1,h2⟩:=h.hp;exact⟨h.j.keep kk (λb D=>n b (mC _ D)) tb,h.er,h.ru.keep kk (λy d=>n y (gG _ (hG _ d))),h.of,h.ep,⟨ps,kk.k _ _ (n _ (by simp)) h1,Paired.mapP h2 λZ Z z=>trivial⟩,h.np,h.nr⟩
noncomputable def rfE(t:Adr)(e:Rf)(E:XK)(H:Hp):Prop:=match e with
| .dark=>E (.ref t.dy) none H
| .room=>E (.ref t.gc) none H
noncomputable def qO3(t:Adr):Sp:=λvs H Q E=>∃x k sh sr r rl pp X,vs=[.ref x.s]/\XX t H x k sh sr r rl pp X/\k.ev=true/\X.s.rc.length+200<1000000/\X.ps.length<90000/\(match X.room k with
|(Y,.error e)=>∀H',XX t H' x k sh sr r rl pp Y->Keep (fx t x r pp) H H'->rfE t e E H'
|(Y,.ok p)=>∀v H',XX t H' x k sh sr r rl pp Y->Keep (fx t x r pp) H H'->Q v H')
theorem q4J(T:tXx)(S:tFf)(B:BmIn base mg):S.oN.OkE P w mg base 14 (qO3 t):=by(
refine S.oN.F.okE yE λck A outer s H vs Q E hr h=>?_
obtain⟨x,k,sh,sr,r,rl,pp,X,rfl,h,ev,rc,lp,kk⟩:=h
have s9:(99999:Nat)<sizeLine:=by decide
refine⟨_,(qB (qO (i:=1) yE.nd (qR (pv 0) T.eO T.aA2 (q25 T S B).mono hr S.oW.b .nil qK)) (qB (qO (i:=2) yE.nd (v4 qZ (pv 0) T.eO T.aDO (q8K T S B).mono hr S.aBG.b .nil)) (qB (qO (i:=3) yE.nd (jF qZ (pv 0) T.eO T.aDY (q8L T S B).mono hr S.aBE.b .nil (qA (qX jO (pv 2) qG (λz z=>rfl)) qD))) (qB (qO (i:=4) yE.nd (jF qZ (pv 0) T.eO T.aD8 (q92 T S).mono hr S.aBR.b .nil (qA (qX jO (pv 2) qG (λz z=>rfl)) qD))) (qB (j8 (qDO cA wP wQ q13 (qJ (pv 0) rfl) (qA (qU (q6G T S).mono hr rfl T.aCU T.aCY S.aCF.b .nil qK (qA (qX jO (pv 2) qG (λz z=>rfl)) (qA (pv 1) (qA (qX jO (pv 2) qG (λz z=>rfl)) (qA (pv 3) (qA (pv 4) qD)))))) qD))) (qC (qL (qU (q6G T S).mono hr rfl T.aCU T.aCY S.aCF.b .nil qK (qA (qX jO (pv 2) qG (λz z=>rfl)) (qA (pv 1) (qA (qX jO (pv 2) qG (λz z=>rfl)) (qA (pv 3) (qA (pv 4) qD))))))))))))),?_⟩
try dsimp-beta-proj-iota-zeta-eta only[wishK,cxK]
refine(iV rfl (iM h.j.o rfl ?_))
dsimp only[tNil,gM]
refine h.j.opts ev λI rs H1 np j1 k1 h1 ty=>?_
have au:=h.kT k1 j1.tb
have mT:∀y∈[t.eI],y∈fx t x r pp:=by simp
refine(iV rfl (iM j1.o rfl ⟨x,k,sh,sr,X.s,r,rl,X.g,rfl,j1,ev,h.er,au.ru,h.of,by lia,?_⟩))
unfold Sx.room at kk
cases htk:X.s.tk k X.g with
|none=>rw[htk]at kk;exact λH2 j2 k2=>kk H2 (au.kT k2 j2.tb) ((k1.mono mT).trans (k2.mono mT))
|some bp=>
 obtain⟨y,b,g'⟩:=bp;rw[htk]at kk;have fb:=zQ h.ru.ok htk;refine λcp H2 k2 j2 bc h2=>?_;have m2:∀y∈[t.eI,t.eL,r],y∈fx t x r pp:=by simp
 have mS:∀y∈t.eI::sf x,y∈fx t x r pp:=λy hy=>hG _ (hG _ (hG _ hy));have ag:Keep (fx t x r pp) H H2:=(k1.mono mT).trans (k2.mono m2);have ap:pp∉r::t.eI::sf x:=λz=>(kM.mp z).elim (λe=>h.nr (by rw[e];exact kY)) h.np;obtain⟨ps,N,ad⟩:=h.hp;obtain⟨_,co,_,pB,aw,_⟩:=h.j.tb;have be:pp∉[t.eI,t.eL,r]:=λz=>by
  have z:pp=t.eI\/pp=t.eL\/pp=r:=by simpa using z
  rcases z with z|z|z
  .exact ap (by rw[z];simp)
  .rw[z,aw]at N;cases N
  exact ap (by rw[z];simp)
 have cn:=ad.len;have O:XX t H2 x k sh sr r rl pp ⟨X.s,g',X.ps⟩:=⟨j2,h.er,bc,h.of,h.ep,⟨ps,k2.k _ _ be (k1.k _ _ (λz=>h.np (by rw[kE.mp z];simp)) N),Paired.mapP ad λd d z=>(z.keep k1 mT).keep k2 m2⟩,h.np,h.nr⟩;have a0:=h.j.off np;obtain⟨C0,d0,f0,bg⟩:=h.ru.ins;have bo:I≠r:=λz=>by rw[z,bg]at np;cases np
 have bn:I≠pp:=λz=>by rw[z,N]at np;cases np
 have ao:H2 I=some (.lst rs):=k2.k _ _ (λz=>by
  have z:I=t.eI\/I=t.eL\/I=r:=by simpa using z
  rcases z with z|z|z
  .exact a0 (by rw[z];simp)
  .rw[z,aw]at np;cases np
  exact bo z) h1
 refine(iV rfl (iM j2.o rfl ⟨_,rfl,iT (k:=1) (v:=.int (b:Int)) (SqT.of h2) rfl ⟨x,k,sh,sr,X.s,b,rfl,j2,fb,by lia,?_⟩⟩));cases hmv:XS.mvs (lvP X.s.q.P b X.s.q.V) X.s with
 |mk s o=>
  dsimp only at kk;rw[hmv]at kk;cases o with
  |none=>exact λH3 j3 k3=>kk H3 (O.on k3 j3) (ag.trans (k3.mono mS))
  |some ms=>
   refine λml us H3 j3 nm ba b6 md nl k3=>?_;dsimp only at kk;have h3:=k3.tp _ _ h2;have b4:=md.rc;have b7:(lvP X.s.q.P b X.s.q.V).length<=16:=by have:=h.j.w.qs.ok.p2;unfold lvP;refine mO (rO _ _) ?_;rw[m7];exact this
   refine(iV rfl (iM j3.o rfl ⟨_,rfl,iT (k:=1) (v:=.int (b:Int)) (SqT.of h3) rfl ⟨x,k,sh,sr,s,b,rfl,j3,by rw[md.eB];exact fb.b,by rw[md.eP];exact md.fb,by lia,nl,λdk=>?_,λdk H4 j4 k4=>⟨rfl,?_⟩⟩⟩))
   .rw[kD dk]at kk;exact kk H3 (O.on k3 j3) (ag.trans (k3.mono mS))
   rw[hU dk]at kk;have J:Keep (t.eI::sf x) H2 H4:=k3.trans k4;have as:=O.on J j4;obtain⟨d,D,af⟩:=as.hp;have aq:=af.len;have av:=as.ru;obtain⟨C4,d4,f4,ci⟩:=av.ins;have h4:=J.tp _ _ h2;have ab:=J.k _ _ a0 ao;have bb:=j2.off nm;have aa:=k4.k _ _ bb ba;have o4:=j4.o;rw[h.ep]at o4;refine(iV rfl (iF o4 T.eO T.aA0 rfl ⟨.inl ⟨rfl,_,SqL.of D⟩,_,rfl,iT (k:=0) (v:=_) (SqT.of h4) rfl ⟨_,rfl,_,rfl,iT (k:=1) (v:=_) (SqT.of h4) rfl ⟨_,rfl,_,rfl,.str y,.int (b:Int),.bl true,I,ml,rs,us,rfl,ab,aa,λpa a1 a2 H5 s5 cr cf cq e5 cu cj=>⟨pp,d,_,rfl,rfl,s5 _ _ D,by simp only at aq;lia,?_⟩⟩⟩⟩));have Z:=s5 _ _ D;have k6:=Keep.upd (F:=[pp]) (o:=.lst (d++[.ref pa])) Z (λd z=>by cases z) (by simp);have ae:(upd H5 pp (.lst (d++[.ref pa]))) pp=_:=qI;have j6:=(j4.same s5).lst (o:=.lst (d++[.ref pa])) Z h.np;generalize upd H5 pp (.lst (d++[.ref pa]))=H6 at k6 ae j6 ⊢;have m6:∀y∈[pp],y∈fx t x r pp:=by simp
   have ar:I∉[pp]:=λz=>bn (kE.mp z);have bj:ml∉[pp]:=λz=>by obtain⟨cd,e2,_⟩:=O.hp;rw[kE.mp z,e2]at nm;cases nm
   refine⟨_,rfl,iT (k:=0) (v:=_) (SqT.of (k6.tp _ _ (s5 _ _ h4))) rfl ⟨_,rfl,_,rfl,iT (k:=1) (v:=_) (SqT.of (k6.tp _ _ (s5 _ _ h4))) rfl ⟨_,rfl,_,rfl,.str y,.int (b:Int),.bl true,I,ml,rs,us,rfl,k6.k _ _ ar (s5 _ _ ab),k6.k _ _ bj (s5 _ _ aa),λpb c1 c2 H7 s7 ce ca cs e7 cb b5=>?_⟩⟩⟩;have ah:Keep [pp] H4 H7:=((Keep.same s5).trans k6).trans (Keep.same s7);have bi:Keep (fx t x r pp) H H7:=(ag.trans (J.mono mS)).trans (ah.mono m6);exact kk (.ref pb) H7 ⟨j6.same s7,h.er,(av.keep ah (λy hy z=>h.nr (by rw[<-kE.mp z];exact hy))),h.of,h.ep,⟨d++[.ref pa],s7 _ _ ae,L2.Paired.snoc (Paired.mapP af λd d z=>z.keep ah m6) trivial⟩,h.np,h.nr⟩ bi)
noncomputable def spMr(t:Adr):Sp:=λvs H Q E=>∃x k sh sr r rl pp X,∃i Z,vs=[.ref x.s]/\XX t H x k sh sr r rl pp X/\k.ev=true/\X.s.rc.length+100*i+200<1000000/\X.ps.length+i<90000/\X.rooms k i=some Z/\(match Z with
|(Y,.error e)=>∀H',XX t H' x k sh sr r rl pp Y->Keep (fx t x r pp) H H'->rfE t e E H'
|(Y,.ok _)=>∀H',XX t H' x k sh sr r rl pp Y->Keep (fx t x r pp) H H'->Q .non H')
theorem q3M(T:tXx)(S:tFf)(B:BmIn base mg):S.i8.OkE P w mg base 15 (spMr t):=by(
refine S.i8.F.okE q3I λam A outer s H vs Q E hr h=>?_
obtain⟨x,k,sh,sr,r,rl,pp,X,i,Z,rfl,h,ev,rc,lp,hZ,kk⟩:=h
refine⟨_,(qC (q4N dP (uR (yJ (qR (pv 0) T.eO T.aD3 (q8F T S B).mono hr S.aBB.b .nil qK))) (qC (j8 (v4 qZ (pv 0) T.eO T.aCD (q4J T S B).mono hr S.oN.b .nil))))),?_⟩
try dsimp-beta-proj-iota-zeta-eta only[wishK,cxK]
refine⟨λn ac H2=>ac=[some (.ref x.s)]/\∃Y,XX t H2 x k sh sr r rl pp Y/\Keep (fx t x r pp) H H2/\Y.rooms k n=some Z/\Y.s.rc.length+100*n+200<1000000/\Y.ps.length+n<90000,⟨i,rfl,X,h,Keep.refl,hZ,rc,lp⟩,?_⟩
rintro n ac H2 ⟨rfl,Y,J,k2,d,al,ah⟩
obtain⟨m,hs,c,_⟩:=J.j.e
have mT:∀y∈[t.eI],y∈fx t x r pp:=by simp
refine(iV rfl (iM hs.o rfl ⟨x,_,_,_,m,Y.s.q,_,rfl,hs,c.ft,λl H3 hl k3 N=>⟨_,rfl,?_⟩⟩))
rw[c.br,c.cl]at hl
rw[c.br,qMP J.j.w hl]
have D:=J.kT k3 N
have I:=k2.trans (k3.mono mT)
cases n with
|zero=>
 unfold Sx.rooms at d;cases z:Y.s.rd k with
 |false=>rw[z,hU (by decide)]at d;cases d
 |true=>rw[z,kD rfl]at d;cases d;exact iteF (kk H3 D I)
|succ n=>
 unfold Sx.rooms at d;cases z:Y.s.rd k with
 |true=>rw[z,kD rfl]at d;cases d;exact iteF (kk H3 D I)
 |false=>
  rw[z,hU (by decide)]at d;refine iteT ⟨_,λ_ _ z=>z,?_⟩;refine(iV rfl (iM D.j.o rfl ⟨x,k,sh,sr,r,rl,pp,Y,rfl,D,ev,by lia,by lia,?_⟩));cases hr':Y.room k with
  |mk W o=>
   rw[hr']at d;cases o with
   |error e=>cases d;exact λH4 h4 O=>kk H4 h4 (I.trans O)
   |ok p=>obtain⟨r1,r2⟩:=qHR J.j.w J.ru.ok hr';exact λv H4 h4 O=>⟨n,rG _,rfl,W,h4,I.trans O,d,by lia,by lia⟩)
theorem q0D(T:tXx)(S:tFf)(B:BmIn base mg):S.iH.OkE P w mg base 16 (spMr t):=by(
refine S.iH.F.okE q4A λab A outer s H vs Q E I h=>?_
obtain⟨x,k,sh,sr,r,rl,pp,X,i,Z,rfl,h,J,rc,O,N,kk⟩:=h
obtain⟨m,D,c,_⟩:=h.j.e
refine⟨_,(qB (j8 (qR (pv 0) T.eO T.aB0 (q4F T S).mono I S.oH.b .nil qK)) (qC (j8 (v4 qZ (pv 0) T.eO T.aBV (q3M T S B).mono I S.i8.b .nil)))),?_⟩
try dsimp-beta-proj-iota-zeta-eta only[wishK,cxK]
refine(iV rfl (iM D.o rfl ⟨x,_,_,_,m,X.s.q,_,rfl,D,c.ft,by lia,λH1 z=>?_⟩))
have h1:=h.same z
refine(iV rfl (iM h1.j.o rfl ⟨x,k,sh,sr,r,rl,pp,X,i,Z,rfl,h1,J,rc,O,N,?_⟩))
obtain⟨Y,o⟩:=Z
cases o with
|error e=>exact λH2 h2 d=>kk H2 h2 ((Keep.same z).trans d)
|ok u=>exact λH2 h2 d=>kk H2 h2 ((Keep.same z).trans d))
inductive spPWr(t:Adr)(vs:List V)(H:Hp)(Q:VK)(E:XK):Prop
|mk:∀x k sh sr r rl pp X,∀n v:Int,∀i Z,vs=[.ref x.s,.int n,.int v]->XX t H x k sh sr r rl pp X->k.ev=true->X.s.rc.length+100*i+300<1000000->X.ps.length+i<90000->sh<=64->inB (.int n) 0 (sh-1)=true->inB (.int v) 0 (10 ^ 30-1)=true->(hold X.s.q n=false/\sr<=((hdN X.s.q.V).length:Int)->∀H',Same H H'->E (.ref t.ei) none H')->(¬(hold X.s.q n=false/\sr<=((hdN X.s.q.V).length:Int))->((∃p,(n,p)∈X.s.q.V)\/X.s.q.V.length<59)/\X.ask k i n v=some Z/\(match Z with
|(Y,.error e)=>∀H',XX t H' x k sh sr r rl pp Y->Keep (fx t x r pp) H H'->rfE t e E H'
|(Y,.ok p)=>∀H',XX t H' x k sh sr r rl pp Y->Keep (fx t x r pp) H H'->Q (.int (p:Int)) H'))->spPWr t vs H Q E
theorem XX.lay{x:Sto}{k:Tm}{sh:Int}{i:Nat}{n v:Int}(h:XX t H x k sh sr r rl pp X)(rc:X.s.rc.length+100*i+300<1000000)(hl:(∃p,(n,p)∈X.s.q.V)\/X.s.q.V.length<59)(hZ:X.ask k i n v=some Z)(hY:X.rooms k i=some (Y,.ok ()))(n0:0<=n)(n1:n<=64)(h2:XX t H2 x k sh sr r rl pp Y)
 (kk:match Z with
  |(Y,.error e)=>∀H',XX t H' x k sh sr r rl pp Y->Keep (t.eI::sf x) H2 H'->rfE t e E H'
  |(Y,.ok p)=>∀H',XX t H' x k sh sr r rl pp Y->Keep (t.eI::sf x) H2 H'->Q (.int (p:Int)) H'):qC8 t [.ref x.s,.int n,.int v] H2 Q E:=by(
obtain⟨_,_,kp,J,_,rd⟩:=uB h.j.w h.ru.ok hY
have rd:=kP (rd rfl)
rw[rP,rQ]at rd
unfold Sx.ask at hZ
rw[hY]at hZ
dsimp only at hZ
refine h2.j.set n0 n1 (by lia) (by lia) ?_ (λD H' I d=>?_) (λD H' I d=>?_)
.rw[kp.lV];exact hl.imp (λz=>(kp.nm n).mpr z) id
.rw[kD D]at hZ;cases hZ;exact kk H' (h2.on d I) d
rw[hU D]at hZ
cases hZ
exact kk H' (h2.on d I) d)
theorem q8M(T:tXx)(S:tFf)(B:BmIn base mg):S.aA9.OkE P w mg base 17 (spPWr t):=by(
refine S.aA9.F.okE q84 λah A outer s H vs Q E D h=>?_
obtain⟨x,k,sh,sr,r,rl,pp,X,n,v,i,Z,rfl,h,ev,rc,lp,af,z,w,hF,kk⟩:=h
obtain⟨m,J,c,_⟩:=h.j.e
refine⟨_,(qB (j8 (j9 (pv 0) T.eO T.iO (u9 T S).mono D S.fN.b .nil qK (qA (pv 1) qD))) (qB (jG (uR (yJ (qU (qCA T S).mono D rfl T.aEP T.aEH S.aDQ.b .nil qK (qA (pv 2) qD)))) (qC jD) qT) (qB (j8 (jF qZ (pv 0) T.eO T.aBK (q36 T S).mono D S.iW.b .nil (qA (pv 1) qD))) (qB (j8 (v4 qZ (pv 0) T.eO T.tK (q0D T S B).mono D S.iH.b .nil)) (qC (qL (jF qZ (pv 0) T.eO T.aB2 (q35 T S B).mono D S.aBM.b .nil (qA (pv 1) (qA (pv 2) qD))))))))),?_⟩
try dsimp-beta-proj-iota-zeta-eta only[wishK,cxK]
refine(iV rfl (iM J.o rfl ⟨_,rfl,x,.int sr,_,_,m,X.s.q,.int n,sh,rfl,J,.int _,?_⟩))
rw[kD z]
obtain⟨n',e,n0,n1⟩:=qJ0 z
injection e with e
subst e
refine⟨_,rfl,.int v,rfl,.int _,_,rfl,?_⟩
rw[w]
refine iteF ?_
refine(iV rfl (iM J.o rfl ⟨_,rfl,x,.int sh,_,_,m,X.s.q,n,sr,rfl,J,c.ft,hd64 h.j.w,λH1 I=>?_⟩))
by_cases O:hold X.s.q n=false/\sr<=((hdN X.s.q.V).length:Int)
.rw[kD O];exact hF O H1 I
rw[hU O]
obtain⟨hl,hZ,kk⟩:=kk O
have h1:=h.same I
have d:=hZ
unfold Sx.ask at d
cases hR:X.rooms k i with
|none=>rw[hR]at d;cases d
|some YR=>
 obtain⟨Y,o⟩:=YR;refine(iV rfl (iM h1.j.o rfl ⟨x,k,sh,sr,r,rl,pp,X,i,(Y,o),rfl,h1,ev,by lia,lp,hR,?_⟩));rw[hR]at d;cases o with
 |error e=>cases d;exact λH2 h2 N=>kk H2 h2 ((Keep.same I).trans N)
 |ok u=>
  refine λH2 h2 N=>?_;refine(iV rfl (iM h2.j.o rfl ⟨_,rfl,_,rfl,?_⟩));dsimp only[tNil,gP,gM,g0];refine h.lay rc hl hZ hR n0 (by lia) h2 ?_;have mS:∀y∈t.eI::sf x,y∈fx t x r pp:=λy hy=>hG _ (hG _ (hG _ hy));obtain⟨W,o⟩:=Z;cases o with
  |error e=>exact λH3 h3 k3=>kk H3 h3 (((Keep.same I).trans N).trans (k3.mono mS))
  |ok p=>exact λH3 h3 k3=>kk H3 h3 (((Keep.same I).trans N).trans (k3.mono mS)))
inductive spPR(t:Adr)(vs:List V)(H:Hp)(Q:VK)(E:XK):Prop
|mk:∀x k sh sr s,∀n:Int,vs=[.ref x.s,.int n]->XR t H x k sh sr s->inB (.int n) 0 (sh-1)=true->(hold s.q n=false->∀H',Same H H'->Q .non H')->(∀p w,(n,p)∈s.q.V->n≠64->s.pg p.toNat=some w->(s.lf=some 0->∀H',Same H H'->E (.ref t.dy) none H')/\(s.lf≠some 0->∀H',Same H H'->Q (.int w.2) H'))->spPR t vs H Q E
theorem zA(T:tXx)(S:tFf):S.oF.OkE P w mg base 5 (spPR t):=by(
refine S.oF.F.okE q8S λad A outer s H vs Q E O h=>?_
obtain⟨x,k,sh,sr,s,n,rfl,j,z,kn,kk⟩:=h
have hu:=q6C O
obtain⟨m,J,c,pg⟩:=j.e
refine⟨_,(qB (j8 (j9 (pv 0) T.eO T.iO (u9 T S).mono O S.fN.b .nil qK (qA (pv 1) qD))) (qB (jG (qS q1G (pv 1) (qR (pv 0) T.eO T.iS (yV T S).mono O S.f9.b .nil qK) rfl) (qC (qL yZ)) qT) (qC (qL (qX jO (jF qZ (qJ (pv 0) rfl) T.eQ T.oP (vQ T S).mono O S.oJ.b .nil (qA (q6W hu (qJ (qJ (pv 0) rfl) rfl) (pv 1) (λz z=>rfl)) qD)) qG (λz z=>rfl)))))),?_⟩
try dsimp-beta-proj-iota-zeta-eta only[wishK,cxK]
refine(iV rfl (iM J.o rfl ⟨_,rfl,x,_,_,_,m,s.q,.int n,sh,rfl,J,.int _,?_⟩))
rw[kD z]
refine⟨_,rfl,iV rfl (iM J.o rfl ⟨x,.int sh,_,_,_,m,s.q,rfl,J,c.ft,hd64 j.w,λl ns H1 hn N n1 h1=>?_⟩)⟩
have D:=J.same N
refine⟨l,_,rfl,.inl (SqL.of h1),rfl,qCB,_,rfl,?_⟩
have e:inV (.int n) (ns.map V.int)=hold s.q n:=by rw[q3H];exact hn.hold n
show if(!inV (.int n) (ns.map V.int))=true then _ else _
rw[e]
cases y:hold s.q n with
|false=>exact iteT (kn y H1 N)
|true=>
 have y:=kP y;unfold hdN at y;obtain⟨y1,y2⟩:=mL.mp y;obtain⟨⟨n',p⟩,hp,rfl⟩:=kZ.mp y1;obtain⟨b,f,v,a1,a2,I,a4,a5⟩:=j.w.vl _ hp;have I:p=_:=I;obtain⟨tp,e1,e2⟩:=pg.v _ _ a5;obtain⟨dk,ok⟩:=kk p v hp (kP y2) (by rw[I,kQ];exact a5);have Z:=(c.pgs a1 a2).1;refine iteF ?_;refine(iV rfl (iF D.o T.eO T.fK rfl (iM D.ch.ins rfl (iV rfl (iF D.o T.eO T.eZ rfl (iF D.bk.o T.eT T.fF rfl ⟨_,rfl,x.k.wv,.int p,rfl,?_,?_⟩))))))
 .have:=DGet.k (k:=Sum.inl n') D.bk.w;rw[q1I c.ft.oq.nd hp]at this;exact this
 refine⟨x.c,x.a,m,_,rfl,D.ch,c.ft.ok,by rw[I];lia,by rw[I];exact Z,λd=>dk (by rw[<-c.lf];exact d) H1 N,λd=>?_⟩;rw[I,kQ,e1];exact(iT (k:=1) (v:=.int v.2) (SqT.of (N _ _ e2)) rfl (ok (by rw[<-c.lf];exact d) H1 N)))
theorem XR.forg{x:Sto}{k:Tm}{sh:Int}{s:XS}(j:XR t H x k sh sr s)(n:Int)(hb:∀{m},StAt t H x (.int sh) (.int sr) (.int (k.ie:Int)) (.int k.sp) m s.q->BkAt t H' x.k (s.q.forget n))(kb:Keep (bf x.k) H H'):XR t H' x k sh sr (s.forg n):=by obtain⟨m,st,c,pg⟩:=j.e;exact⟨⟨m,st.note (hb st) kb,⟨⟨c.ft.ok,c.ft.oq.forget n,c.ft.eB,c.ft.eP,c.br⟩,c.br,c.li,c.mo,c.cl,c.lf,c.rc⟩,pg.keep kb⟩,j.w.forg n⟩
inductive spGu(t:Adr)(vs:List V)(H:Hp)(Q:VK)(E:XK):Prop
|mk:∀x k sh sr r rl pp X,∀l0:Addr,∀ss:List Int,vs=[.ref x.s,.ref l0]->XX t H x k sh sr r rl pp X->k.ev=true->H l0=some (.lst (ss.map V.int))->(∀n∈ss,inB (.int n) 0 (sh-1)=true)->(gvn X.s.hl ss=[]->∀H',Same H H'->Q (.int 0) H')->(gvn X.s.hl ss≠[]->∃i Z,X.s.rc.length+100*i+300<1000000/\X.ps.length+i<90000/\((∃p,((64:Int),p)∈X.s.q.V)\/X.s.q.V.length<59)/\X.ask k i 64 (XS.bits (rst X.s.hl (gvn X.s.hl ss)))=some Z/\(match Z with
|(Y,.error e)=>∀H',XX t H' x k sh sr r rl pp Y->Keep (fx t x r pp) H H'->rfE t e E H'
|(Y,.ok p)=>∀H',XX t H' x k sh sr r rl pp ⟨Y.s.forgs (gvn X.s.hl ss),Y.g,Y.ps⟩->Keep (fx t x r pp) H H'->Q (.int ((gvn X.s.hl ss).length:Nat)) H'))->spGu t vs H Q E
theorem q65(T:tXx)(S:tFf)(B:BmIn base mg):S.tU.OkE P w mg base 17 (spGu t):=by(
refine S.tU.F.okE yN λb6 A outer s H vs Q E hr h=>?_
obtain⟨x,k,sh,sr,r,rl,pp,X,l0,I,rfl,h,ev,aj,bg,kn,kk⟩:=h
have s9:(99999:Nat)<sizeLine:=by decide
obtain⟨m,hs,c,_⟩:=h.j.e
refine⟨_,(qB (vS dP rfl (yA (pv 1)) (jE (i:=2) yN.nd) (qC (j8 (j9 (pv 0) T.eO T.iO (u9 T S).mono hr S.fN.b .nil qK (qA (pv 2) qD))))) (qB (qO (i:=3) yN.nd (qR (pv 0) T.eO T.iS (yV T S).mono hr S.f9.b .nil qK)) (qB (qO (i:=4) yN.nd (vA ["sheets","sheet"] [1] rfl (yA (pv 3)) (λz z z z z=>(jE (i:=1) (show List.Nodup (["sheets","sheet"]:List Str)from by decide))) (λz z z z z=>(uM (qS (qCV (K:=K) rfl) (pv 1) (pv 0) rfl))) (λz z z z z=>(pv 1)) (by kernel_rfl) (yL (by decide)))) (qB (jG (qS (qAA hr.units) (pv 4) (jY qD) (qV _)) (qC (qL qG)) qT) (qB (j8 (v4 qZ (pv 0) T.eO T.tK (q0D T S B).mono hr S.iH.b .nil)) (qB (j8 (jF qZ (pv 0) T.eO T.aB2 (q35 T S B).mono hr S.aBM.b .nil (qA (yO rfl T.aCI ⟨_,rfl⟩ (v:=.int 64)) (qA (qU (q8E T S).mono hr rfl T.aDC T.aDD S.aDL.b .nil qK (qA (vA ["gone","sheet"] [4] rfl (yA (pv 3)) (λz z z z z=>(jE (i:=1) (show List.Nodup (["gone","sheet"]:List Str)from by decide))) (λz z z z z=>(uM (qS (q3Q (K:=K) rfl) (pv 1) (pv 0) rfl))) (λz z z z z=>(pv 1)) (by kernel_rfl) (yL (by decide))) qD)) qD)))) (qB (vS dP rfl (yA (pv 4)) (jE (i:=2) yN.nd) (qC (j8 (j9 (qJ (pv 0) rfl) T.eT T.tT (q0B T S).mono hr S.oO.b .nil qK (qA (pv 2) qD))))) (qC (qL (jR jS (by rfl) T.aCT dQ (qA (pv 4) qD))))))))))),?_⟩
try dsimp-beta-proj-iota-zeta-eta only[wishK,cxK]
refine⟨_,rfl,l0,rfl,⟨_,SqL.of aj⟩,?_⟩
refine v8 (K:=K) (xs:=I.map V.int) (λi ad H2=>∃y,ad=[some (.ref x.s),some (.ref l0),y,none,none]/\H=H2) ⟨_,rfl,rfl⟩ (λi ad H2 hi d=>?_) (λi v ad H2 hv d=>?_) (λad H2 d=>?_)
.obtain⟨y,rfl,rfl⟩:=d;exact SqL.of aj
.obtain⟨y,rfl,rfl⟩:=d;rw[mM]at hv;obtain⟨n,hw,rfl⟩:=mH.mp hv;refine(iV rfl (iM hs.o rfl ⟨_,rfl,x,_,_,_,m,X.s.q,.int n,sh,rfl,hs,.int _,?_⟩));rw[kD (bg n (gQ hw))];exact⟨_,rfl,rfl⟩
obtain⟨y,rfl,rfl⟩:=d
refine(iV rfl (iM hs.o rfl ⟨x,.int sh,_,_,_,m,X.s.q,rfl,hs,c.ft,hd64 h.j.w,λhl ns H1 hn s1 n1 h1=>?_⟩))
have bt:ns.length<64:=by rw[hn.pm.length_eq];exact hd64 h.j.w
obtain rfl:=qID hn
refine⟨_,rfl,hl,rfl,⟨_,SqL.of h1⟩,λD H2 nD s2 hD=>?_⟩
refine zD (K:=K) (xs:=X.s.hl.map V.int) (D:=D) (λi H3=>Same H1 H3/\H3 D=some (.lst ((gvn (X.s.hl.take i) I).map V.int))) ⟨s2,hD⟩ (λi H3 d=>SqL.of (d.1 _ _ h1)) (λi v H3 hv d=>?_) (λH3 d=>?_)
.obtain⟨sm,hd⟩:=d;rw[mM]at hv;obtain⟨n,hw,rfl⟩:=mH.mp hv;have hi:=(kF.mp hw).1;have ah:=(kF.mp hw).2;refine⟨_,rfl,_,rfl,l0,_,rfl,.inl (SqL.of (sm _ _ (s1 _ _ aj))),rfl,qCB,_,rfl,?_⟩;show if inV (.int n) (I.map V.int)=true then _ else _;rw[q3H];have eg:gvn (X.s.hl.take (i+1)) I=gvn (X.s.hl.take i) I++(if n∈I then[n]else[]):=by
  unfold gvn;rw[<-mR hi,gX,ah,gH];by_cases z:n∈I
  .rw[hC z,kD z];rfl
  rw[kB z,hU z];rfl
 rw[eg];by_cases z:n∈I
 .rw[hC z,kD z];refine iteT ?_;refine⟨_,rfl,_,hd,?_,λb o e=>?_,?_⟩
  .rw[kI];have l1:(gvn (X.s.hl.take i) I).length<=(X.s.hl.take i).length:=mK _ _;rw[gZ]at l1;lia
  .rw[qE (qH e nD)];exact sm _ _ e
  rw[qI,m8];rfl
 rw[kB z,hU z,g0];exact iteF ⟨sm,hd⟩
obtain⟨sm,hd⟩:=d
rw[kI,gL]at hd
have bh:Same H H3:=s1.trans sm
refine⟨_,rfl,sz0,λe H4 n4 s4 h4=>⟨D,_,e,rfl,rfl,SqL.of (s4 _ _ hd),SqL.of h4,_,rfl,?_⟩⟩
have ac:=bh.trans s4
by_cases z:gvn X.s.hl I=[]
.rw[z];exact iteT (kn z H4 ac)
rw[kB (λy=>z (by cases hq:gvn X.s.hl I with|nil=>rfl|cons a r=>rw[hq]at y;cases y))]
refine iteF ?_
obtain⟨i,Z,rc,lp,bb,hZ,kk⟩:=kk z
have av:=h.same ac
have aa:=hZ
unfold Sx.ask at aa
cases hR:X.rooms k i with
|none=>rw[hR]at aa;cases aa
|some YR=>
 obtain⟨Y,o⟩:=YR;refine(iV rfl (iM av.j.o rfl ⟨x,k,sh,sr,r,rl,pp,X,i,(Y,o),rfl,av,ev,by lia,lp,hR,?_⟩));rw[hR]at aa;cases o with
 |error e=>cases aa;exact λH2 h2 k2=>kk H2 h2 ((Keep.same ac).trans k2)
 |ok u=>
  refine λH5 h5 k5=>?_;obtain⟨bz,bd,_⟩:=h.hp;obtain⟨C0,d0,f0,a9⟩:=h.ru.ins;have ag:∀{y:Addr},H y=none->y∉fx t x r pp:=fun {y} e N=>by
   rcases kM.mp N with N|N
   .rw[N,bd]at e;cases e
   rcases kM.mp N with N|N
   .rw[N,a9]at e;cases e
   rcases kM.mp N with N|N
   .obtain⟨_,_,_,_,bi,_⟩:=h.j.tb;rw[N,bi]at e;cases e
   exact h.j.off e N
  have dF:=ag (s1.free nD);have af:=k5.k _ _ (ag n1) (s4 _ _ (sm _ _ h1));have aw:=k5.k _ _ dF (s4 _ _ hd);refine(iV rfl (iM h5.j.o rfl ?_));refine⟨_,rfl,hl,rfl,⟨_,SqL.of af⟩,λD2 H6 n6 s6 bl=>?_⟩;refine zD (K:=K) (xs:=X.s.hl.map V.int) (D:=D2) (λi H7=>Same H5 H7/\H7 D2=some (.lst ((rst (X.s.hl.take i) (gvn X.s.hl I)).map V.int))) ⟨s6,bl⟩ (λi H7 d=>SqL.of (d.1 _ _ af)) (λi v H7 hv d=>?_) (λH7 d=>?_)
  .obtain⟨J,O⟩:=d;rw[mM]at hv;obtain⟨n,hw,rfl⟩:=mH.mp hv;have hi:=(kF.mp hw).1;have ah:=(kF.mp hw).2;refine⟨_,rfl,_,rfl,D,_,rfl,.inl (SqL.of (J _ _ aw)),rfl,qCB,_,rfl,?_⟩;show if(!inV (.int n) ((gvn X.s.hl I).map V.int))=true then _ else _;rw[q3H];have eg:rst (X.s.hl.take (i+1)) (gvn X.s.hl I)=rst (X.s.hl.take i) (gvn X.s.hl I)++(if n∈gvn X.s.hl I then[]else[n]):=by
    unfold rst;rw[<-mR hi,gX,ah,gH];by_cases y:n∈gvn X.s.hl I
    .rw[hC y,kD y];rfl
    rw[kB y,hU y];rfl
   rw[eg];by_cases y:n∈gvn X.s.hl I
   .rw[hC y,kD y,g0];exact iteF ⟨J,O⟩
   rw[kB y,hU y];refine iteT ?_;refine⟨_,rfl,_,O,?_,λb o e=>?_,?_⟩
   .rw[kI];have l1:(rst (X.s.hl.take i) (gvn X.s.hl I)).length<=(X.s.hl.take i).length:=mK _ _;rw[gZ]at l1;lia
   .rw[qE (qH e n6)];exact J _ _ e
   rw[qI,m8];rfl
  obtain⟨J,O⟩:=d;rw[kI,gL]at O;obtain⟨en,lt⟩:=qL1 (ns:=rst X.s.hl (gvn X.s.hl I)) (λn bn=>qL0 h.j.w n (mL.mp bn).1);rw[en]at O;refine⟨D2,_,rfl,SqL.of O,lt,?_⟩;have h7:=h5.same J;have mS:∀y∈t.eI::sf x,y∈fx t x r pp:=λy hy=>hG _ (hG _ (hG _ hy));dsimp only[tNil,gP,gM,g0];refine h.lay (Z:=Z) rc bb hZ hR (by decide) (by decide) h7 ?_;obtain⟨W,o⟩:=Z;have au:Keep (fx t x r pp) H H7:=((Keep.same ac).trans k5).trans (Keep.same J);cases o with
  |error e=>exact λH8 h8 k8=>kk H8 h8 (au.trans (k8.mono mS))
  |ok p=>
   refine λH8 h8 k8=>?_;have am:=k8.k _ _ (λy=>dF (mS _ y)) (J _ _ aw);refine⟨_,rfl,D,rfl,⟨_,SqL.of am⟩,?_⟩;refine v8 (K:=K) (xs:=(gvn X.s.hl I).map V.int) (λi ad H'=>∃y',ad=[some (.ref x.s),some (.ref l0),y',some (.ref hl),some (.ref D)]/\XR t H' x k sh sr (W.s.forgs ((gvn X.s.hl I).take i))/\Keep (bf x.k) H8 H') ⟨_,rfl,h8.j,Keep.refl⟩ (λi ad H' hi d=>?_) (λi v ad H' hv d=>?_) (λad H' d=>?_)
   .obtain⟨y',rfl,j',kb⟩:=d;exact SqL.of (kb.k _ _ (λw=>dF (mS _ (by simp[sf,w]))) am)
   .obtain⟨y',rfl,j',kb⟩:=d;rw[mM]at hv;obtain⟨n,hw,rfl⟩:=mH.mp hv;obtain⟨m',st,c',_⟩:=j'.e;refine(iV rfl (iF st.o T.eO T.eZ rfl (iM st.bk.o rfl ⟨_,rfl,x.k,_,n,rfl,st.bk,j'.w.qs.ok,st.ds,λH9 bj k9=>?_⟩)));have k9:Keep (bf x.k) H' H9:=k9.mono (by intro b hb;simp at hb;rcases hb with rfl|rfl<;>simp[bf]);refine⟨_,rfl,?_,kb.trans k9⟩;rw[qD5 hw];exact j'.forg n (λz=>bj) k9
   obtain⟨y',rfl,j',kb⟩:=d;rw[kI,gL]at j';have bm:=kb.k _ _ (λw=>dF (mS _ (by simp[sf,w]))) am;refine⟨_,rfl,D,_,rfl,.inl (SqL.of bm),?_⟩;rw[kI];have as:Keep (t.eI::sf x) H8 H':=kb.mono (λb hb=>by simp[sf,hb]);exact kk H' (h8.on as j') ((au.trans (k8.mono mS)).trans (as.mono mS)))
section
variable{H H':Hp}{x:Sto}{k:Tm}{sh sr:Int}{r:Addr}{rl:List Addr}{pp:Addr}{X:Sx}
theorem XX.chip(h:XX t H x k sh sr r rl pp X):∃m,ChipAt t.bw H x.c x.a m/\m.Ok/\m.lf=X.s.lf/\m.rc=X.s.rc/\m.cl=X.s.cl/\m.bl=(X.s.q.B:Int)/\m.pg=(X.s.q.P:Int)/\PgAt H m.bo X.s.pg/\∀l,(∀i,l=some i->0<=i)->∀H',ChipAt t.bw H' x.c x.a { m with lf:=l }->Keep (foot x.c x.a) H H'->XX t H' x k sh sr r rl pp ⟨{ X.s with lf:=l },X.g,X.ps⟩:=by(
obtain⟨m,st,c,pg⟩:=h.j.e
refine⟨m,st.ch,c.ft.ok,c.lf,c.rc,c.cl,c.ft.eB,c.ft.eP,pg,λl hl H' J z=>?_⟩
have I:Keep (t.eI::sf x) H H':=z.mono (λy D=>by exact hG _ (gG _ D))
have d:({ m with lf:=l }).Ok:=⟨c.ft.ok.bl1,c.ft.ok.bl2,c.ft.ok.pg1,c.ft.ok.pg2,c.ft.ok.nbo,c.ft.ok.ncl,c.ft.ok.ndc,c.ft.ok.nbr,c.ft.ok.lim,c.ft.ok.nrc⟩
exact h.on I ⟨⟨_,st.put J z rfl rfl,⟨⟨d,c.ft.oq,c.ft.eB,c.ft.eP,c.br⟩,c.br,c.li,c.mo,c.cl,rfl,c.rc⟩,pg.keep z⟩,h.j.w.lf hl⟩)
theorem XX.inF(h:XX t H x k sh sr r rl pp X):∀y∈fx t x r pp,∃o,H y=some o:=λy hy=>by(
rcases kM.mp hy with e|hy
.obtain⟨ps,e',_⟩:=h.hp;exact⟨_,by rw[e];exact e'⟩
rcases kM.mp hy with e|hy
.obtain⟨_,_,_,z⟩:=h.ru.ins;exact⟨_,by rw[e];exact z⟩
rcases kM.mp hy with e|hy
.obtain⟨ps,_,_,ps',z,_⟩:=h.j.tb;exact⟨_,by rw[e];exact z⟩
exact h.j.inH y hy)
end
theorem qMY{x:Sto}{k:Tm}{sh:Int}{r:Addr}{B P:Nat}(st:StAt t H x (.int sh) (.int sr) (.int (k.ie:Int)) (.int k.sp) (CM.new (B:Int) (P:Int) 1000000 []) (bk0 B P))(er:x.ru=.ref r)(ru:RuX t H r rl g)(of:Off t x (r::rl))(ep:x.pa=.ref pp)(hp:H pp=some (.lst []))(np:pp∉t.eI::sf x)(nr:pp∉r::rl)
 (b1:2<=B) (b2:B<=16) (p1:1<=P) (p2:P<=16) (w:WX k (newX B P)):XX t H x k sh sr r rl pp ⟨newX B P,g,[]⟩:=by(
have z:(CM.new (B) (P) 1000000 []).Ok:=qGH (by lia) (by lia) (by lia) (by lia) (λb v e=>by cases e)
have d:(CM.new (B) (P) 1000000 []).br=noB B:=by rfl
refine⟨⟨⟨_,st,⟨⟨z,w.qs.ok,rfl,rfl,d⟩,d,λb=>rfl,rfl,?_,rfl,rfl⟩,λi Z=>rep8,λi v e=>by cases e⟩,w⟩,er,ru,of,ep,⟨[],hp,.nil⟩,np,nr⟩
rfl)
theorem qIH{ch:Addr}{m:CM}(hc:ChipAt t.bw H7 ch ca m)(htm:H7 tm=some o1)(hT:H7 t.eI=some o2)(hB:H7 t.eL=some o3)(nR:∀u∈R,H7 u=none)(eR:∀u∈R,∃o,H8 u=some o)(nA:H8 sA=none)(sM:Same H8 HM)(fk:∀b∈bf kb,HM b=none):Off t ⟨sA,sd,tm,td,ch,ca,kb,ru,.ref pa⟩ R:=λy hy hu=>by(
obtain⟨o,e8⟩:=eR y hu
have n7:=nR y hu
have hy:=by simpa[sf]using hy
rcases hy with h|h|h|h|h|h|h
.lia
.lia
.obtain⟨o',e',_⟩:=hc.has (show ca.li∈ca.li::foot ch ca by simp);lia
.lia
.lia
.obtain⟨o',e',_⟩:=hc.has (hG ca.li h);lia
rw[Same.free sM (fk y h)]at e8;cases e8)
inductive spSto(vs:List V)(H:Hp)(Q:VK)(E_:XK):Prop
|mk:∀m,vs=[.int m]->Q (.int (m / 128)) H->spSto vs H Q E_
theorem qCF(T:tXx)(S:tFf):S.aDN.Ok0 P w mg base 1 spSto:=by(
refine S.aDN.F.ok0 qC3 λd A Z s H z Q E D h=>?_
obtain⟨m,rfl,q⟩:=h
refine⟨_,(qC (qL (qN vZ (pv 0) (yO rfl T.aDI ⟨_,rfl⟩ (v:=.int 128))))),?_⟩
exact⟨_,rfl,iI ⟨⟨by simp,by decide⟩,q⟩⟩)
inductive spNmo(vs:List V)(H:Hp)(Q:VK)(E_:XK):Prop
|mk:∀m,vs=[.int m]->Q (.int (m%128)) H->spNmo vs H Q E_
theorem qDC(T:tXx)(S:tFf):S.aER.Ok0 P w mg base 1 spNmo:=by(
refine S.aER.F.ok0 qDA λd A Z s H z Q E D h=>?_
obtain⟨m,rfl,q⟩:=h
refine⟨_,(qC (qL (qN yK (pv 0) (yO rfl T.aDI ⟨_,rfl⟩ (v:=.int 128))))),?_⟩
exact⟨_,rfl,iI ⟨(by simp),q⟩⟩)
inductive spSa(t:Adr)(vs:List V)(H:Hp)(Q:VK)(E_:XK):Prop
|mk:∀a,∀m:QM,∀n,vs=[.ref a.bk,.int n]->BkAt t H a m->(∀H',BkAt t H' a { m with nx:=n }->Keep [a.bk] H H'->Q .non H')->spSa t vs H Q E_
theorem q66(T:tXx)(S:tFf):S.tR.Ok0 P w mg base 1 (spSa t):=by(
refine S.tR.F.ok0 q5Z λO A _ s H Z Q E hr h=>?_
obtain⟨a,m,n,rfl,d,q⟩:=h
have I:a.wv≠a.bk:=jQ d.w d.o (by intro z;cases z)
have J:a.lv≠a.bk:=jQ d.l d.o (by intro z;cases z)
have D:a.fi≠a.bk:=jQ d.f d.o (by intro z;cases z)
have N:a.bo≠a.bk:=jQ d.b d.o (by intro z;cases z)
refine⟨_,(qC (jK (pv 0) (pv 1) rfl)),?_⟩
refine⟨_,rfl,_,rfl,a.bk,_,a.dx,_,rfl,d.o,T.eT,T.fH,by show 7<1000;decide,?_⟩
refine q _ ⟨qI,?_,?_,?_,?_⟩ (Keep.upd d.o (λd z=>by cases z) (by simp))
.rw[qE I];exact d.w
.rw[qE J];exact d.l
.rw[qE D];exact d.f
rw[qE N];exact d.b)
structure Prw(pg:Nat->Option (Int×Int))(R:List (Int×Nat×Int)):Prop where
rp:∀i v,pg i=some v->∃r∈R,r.2.1=i/\mkR r=v.1
pr:∀r∈R,∃u,pg r.2.1=some (mkR r,u)
inductive spMp(t:Adr)(vs:List V)(H:Hp)(Q:VK)(E:XK):Prop
|mk:∀c a m,∀N:Nat,vs=[.ref c]->ChipAt t.bw H c a m->m.Ok->m.bl*m.pg=(N:Int)->(m.lf=some 0->∀H',Same H H'->E (.ref t.dy) none H')->(m.lf≠some 0->∃pg R q0 q,Rows q0 R q/\PgAt H m.bo pg/\Prw pg R/\(R.map (·.2.1)).Nodup/\(∀r∈R,r.2.1<N)/\R.length<64/\∀l us H',Same H H'->H l=none->H' l=some (.lst us)->Paired (TupD H') us (R.map pr61)->Q (.ref l) H')->spMp t vs H Q E
theorem q6S(T:tXx)(S:tFf):S.aAH.OkE P w mg base 6 (spMp t):=by(
refine S.aAH.F.okE uP λa2 A outer s H vs Q E hr h=>?_
obtain⟨c,a,m,N,rfl,hc,ok,eN,dk,k⟩:=h
have ba:=ok.nbo
have b0:=ok.bl1
have b1:=ok.bl2
have b2:=ok.pg2
have mx:=nE b1 b2 (by have:=ok.pg1;lia) (by decide)
refine⟨_,(qB (qO (i:=1) uP.nd (jY qD)) (qB (vS dP rfl (q39 rfl T.aBX (qA (qN u7 (qJ (pv 0) rfl) (qJ (pv 0) rfl)) qD)) (jE (i:=2) uP.nd) (qB (qO (i:=3) uP.nd (jF qZ (pv 0) T.eQ T.oP (vQ T S).mono hr S.oJ.b .nil (qA (pv 2) qD))) (qC (jG (qS q4O (pv 3) yZ (qV _)) (qC (j8 (qDO cA wP wQ q13 (pv 1) (qA (yP (qA (qX jO (pv 3) qG (λz z=>rfl)) (qA (pv 2) qD))) qD q4U)))) qT)))) (qC (qL (jR q4Z (by rfl) T.aCG (by kernel_rfl) (qA (pv 1) qD)))))),?_⟩
try dsimp-beta-proj-iota-zeta-eta only[wishK,cxK]
refine⟨sz0,λl H1 n1 s1 h1=>?_⟩
have ag:=hc.same s1
refine(iV rfl (iF ag.ins T.eQ T.fM rfl (iV rfl (iF ag.ins T.eQ T.fI rfl (iI ⟨.inl ⟨by lia,by lia⟩,_,rfl,by lia,by lia,?_⟩)))))
by_cases lf:m.lf=some 0
.refine q3A (λi O H'=>i=0/\∃y2 y3,O=[some (.ref c),some (.ref l),y2,y3]/\Same H H') ⟨rfl,_,_,rfl,s1⟩ (λi O H' hi hp=>?_) (λO H' hp=>?_)
 .obtain⟨rfl,y2,y3,rfl,sm⟩:=hp;have D:=hc.same sm;exact(iV rfl (iM D.ins rfl ⟨_,rfl,c,a,m,_,rfl,D,ok,by lia,by lia,λz=>dk lf H' sm,λy=>(y lf).elim⟩))
 have p1:=ok.pg1;have h0:=hp.1;have mn:=nE b0 p1 (by decide) (by lia);lia
obtain⟨pg,R,q0,q,al,pa,pq,nd,hN,a5,k⟩:=k lf
refine q3A (λi O H'=>∃y2 y3 I,O=[some (.ref c),some (.ref l),y2,y3]/\Same H H'/\H' l=some (.lst I)/\Paired (TupD H') I (pgL R i)/\I.length<=i) ⟨_,_,[],rfl,s1,h1,.nil,kO _⟩ (λi O H' hi hp=>?_) (λO H' hp=>?_)
.obtain⟨y2,y3,I,rfl,sm,hl,J,ln⟩:=hp;have hi:i<N:=by lia
 rw[Int.zero_add];have D:=hc.same sm;refine(iV rfl (iM D.ins rfl ⟨_,rfl,c,a,m,_,rfl,D,ok,by lia,by lia,λy=>(lf y).elim,λ_=>?_⟩));rw[kQ,qHA];cases hf:R.find? (λr=>decide (r.2.1=i))with
 |none=>
  have pn:pg i=none:=by
   cases e:pg i with
   |none=>rfl
   |some v=>obtain⟨r,hr,er,_⟩:=pq.rp i v e;exact absurd (hC er) (dA.mp hf r hr)
  rw[pa.n i pn];refine⟨_,rfl,rfl,_,rfl,iteF ?_⟩;exact⟨_,_,I,rfl,sm,hl,by rw[show(Option.map pr61 (none:Option (Int×Nat×Int))).toList=[]from rfl,g0];exact J,by lia⟩
 |some r=>
  have ap:=gR hf;have er:r.2.1=i:=kP (g4 (p:=λr:Int×Nat×Int=>decide (r.2.1=i)) hf);obtain⟨v,ev⟩:=pq.pr r ap;obtain⟨tp,e1,e2⟩:=pa.v _ _ ev;rw[er]at e1;rw[e1];refine⟨_,rfl,rfl,_,rfl,iteT ?_⟩;refine⟨_,rfl,.inl ⟨rfl,_,SqL.of hl⟩,_,rfl,iT (k:=0) (v:=.int (mkR r)) (SqT.of (sm _ _ e2)) rfl ⟨_,rfl,sz2,λtq H3 n3 s3 h3=>?_⟩⟩;have af:=s3 _ _ hl;refine⟨l,I,_,rfl,rfl,af,?_,?_⟩
  .have:(1000:Nat)<sizeLine:=by decide
   lia
  have nt:∀Z ab,H3 Z=some (.tup ab)->(upd H3 l (.lst (I++[.ref tq]))) Z=some (.tup ab):=λZ ab e=>by rw[qE (jQ e af (by intro z;cases z))];exact e
  refine⟨_,_,_,rfl,λb' o e=>?_,qI,?_,?_⟩
  .rw[qE (qH e n1)];exact s3 _ _ (sm _ _ e)
  .refine L2.Paired.snoc (Paired.mapP J λv d ⟨Z,e',h'⟩=>⟨Z,e',nt _ _ (s3 _ _ h')⟩) ⟨tq,rfl,nt _ _ ?_⟩;show _=some (HO.tup [.int (mkR r),.int (r.2.1:Int)]);rw[er];exact h3
  rw[mI];exact aL ln
obtain⟨y2,y3,I,rfl,sm,hl,J,ln⟩:=hp
rw[eN,kQ]at J
have pp:=qHB nd hN
have lu:I.length=R.length:=by rw[J.len,pp.length_eq,kI]
refine⟨_,rfl,l,I,pgL R N,2,rfl,SqL.of hl,Paired.mapP J λv d ⟨Z,e',h'⟩=>⟨Z,e',SqT.of h'⟩,λkk hk=>?_,by decide,by lia,λqs ae pw l2 H5 n5 s5 h5=>?_⟩
.obtain⟨r,_,rfl⟩:=kZ.mp (pp.mem_iff.mp hk);rfl
have e1:(qs.map λi=>(pgL R N).getD i [])=R.map pr61:=qD1 ((q7W J.len.symm ae).trans pp) pw al.sorted
refine k l2 _ H5 (sm.trans s5) (sm.free n5) h5 ?_
rw[<-e1]
exact q7X (vT J s5) λi hi=>mU.mp (ae.mem_iff.mp hi))
theorem qO4(a:Nat):Builtin.bitAnd (a:Int) 1=((a%2:Nat):Int):=by(
unfold Builtin.bitAnd
simp)
theorem qKJ(x:Nat):x<2 ^ Builtin.Int.intBits (x:Int):=by(
unfold Builtin.Int.intBits
split
.simp_all
exact Nat.lt_log2_self)
inductive spSo(vs:List V)(H:Hp)(Q:VK)(E_:XK):Prop
|mk:∀x:Nat,vs=[.int (x:Int)]->x<2 ^ 64->(∀D H' l,(∀n:Nat,n∈l↔x.testBit n=true)->H D=none->Same H H'->H' D=some (.lst (vN l))->Q (.ref D) H')->spSo vs H Q E_
theorem qAX(T:tXx)(S:tFf):S.aCL.Ok0 P w mg base 1 spSo:=by(
refine S.aCL.F.ok0 qAL λae A _ s H vs Q E hr h=>?_
obtain⟨x,rfl,hx,q⟩:=h
have hb:Builtin.Int.intBits (x:Int)<=64:=qJA hx
refine⟨_,(qC (qL (vA ["bits","sheet"] [0] rfl (q39 rfl T.aBX (qA (qG3 PySem.F.plainAttrs_int PySem.F.slot_int_bit_length PySem.F.type_int_bit_length qFE (pv 0)) qD)) (λz z z z z=>(jE (i:=1) (show List.Nodup (["bits","sheet"]:List Str)from by decide))) (λz z z z z=>(uM (qS zV (qN qLE (qN qLD (pv 0) (pv 1)) qG) qG (qV _)))) (λz z z z z=>(pv 1)) (by kernel_rfl) (yL (by decide))))),?_⟩
try dsimp-beta-proj-iota-zeta-eta only[wishK,cxK]
refine⟨_,rfl,rfl,_,rfl,rfl,_,rfl,by lia,by lia,λD H2 O s2 hD=>?_⟩
refine qBK (λi d=>Same H d/\d D=some (.lst (vN ((List.range i).filter x.testBit)))) ⟨s2,hD⟩ (λi d hi J=>?_) (λd J=>?_)
.obtain⟨sm,I⟩:=J;refine⟨_,rfl,_,rfl,iI ⟨(by show(0:Int)<=0+(i:Int);lia),iI ⟨rfl,_,rfl,?_⟩⟩⟩;have e1:(x:Int) / 2 ^ ((0:Int)+(i:Int)).toNat=((x / 2 ^ i:Nat):Int):=by rw[show((0:Int)+(i:Int)).toNat=i by lia,g7,bA];rfl
 rw[zX,e1,qO4];have N:(List.range (i+1)).filter x.testBit=(List.range i).filter x.testBit++if x.testBit i then[i]else[]:=by rw[sF,gX];cases z:x.testBit i<;>simp[z]
 have Z:x.testBit i=decide (x / 2 ^ i%2=1):=Nat.testBit_eq_decide_div_mod_eq;by_cases g:x / 2 ^ i%2=1
 .rw[hC (by lia)];refine iteT ⟨_,rfl,_,I,?_,λb o e=>?_,?_⟩
  .have h1:((List.range i).filter x.testBit).length<=i:=by have:=mK x.testBit (List.range i);rwa [m7]at this
   have:(64:Nat)<sizeLine:=by decide
   rw[kI];lia
  .rw[qE (qH e O)];exact sm _ _ e
  rw[qI,N,Z,hC g,kD rfl];show _=some (HO.lst (((List.range i).filter x.testBit++[i]).map λ(k:Nat)=>V.int (k:Int)));rw[m8,show((0:Int)+(i:Int))=(i:Int) by lia];rfl
 rw[kB (by lia)];refine iteF ⟨sm,?_⟩;rw[I,N,Z,kB g,hU (by decide),g0]
obtain⟨sm,I⟩:=J
refine q D d _ (λn=>?_) O sm I
rw[mL,mU,kQ]
refine⟨λz=>z.2,λz=>⟨?_,z⟩⟩
refine dE λh=>?_
rw[Nat.testBit_lt_two_pow (mZ (qKJ x) (Nat.pow_le_pow_right (by decide) (aJ h)))]at z
cases z)
structure Jf(t:Adr)(H:Hp)(c:Addr)(a:CA)(m:CM)(pg:Nat->Option (Int×Int))(R:List (Int×Nat×Int))(q:QM)(B P:Nat):Prop where
ch:ChipAt t.bw H c a m
ok:m.Ok
lf:m.lf≠some 0
eB:m.bl=(B:Int)
eP:m.pg=(P:Int)
rows:Rows (bk0 B P) R q
qs:QS (bk0 B P)
pa:PgAt H m.bo pg
pq:Prw pg R
v6:∀i v,pg i=some v->v.1%128=64->0<=v.2/\v.2<2 ^ 64
ln:R.length<=40
section
variable{H H':Hp}{c:Addr}{a:CA}{m:CM}{pg:Nat->Option (Int×Int)}{R:List (Int×Nat×Int)}{q:QM}{B P:Nat}{r:Int×Nat×Int}
theorem Jf.same(j:Jf t H c a m pg R q B P)(s:Same H H'):Jf t H' c a m pg R q B P:={ j with ch:=j.ch.same s,pa:=j.pa.keep (F:=[]) (Keep.same s) }
theorem Jf.keep{F:List Addr}(j:Jf t H c a m pg R q B P)(k:Keep F H H')(n:∀b∈a.li::foot c a,b∉F):Jf t H' c a m pg R q B P:={ j with ch:=j.ch.keep k n,pa:=j.pa.keep k }
theorem Jf.in(j:Jf t H c a m pg R q B P)(hr:r∈R):(r.2.1:Int)<=m.bl*m.pg-1:=by(
have h:=((j.rows.pages j.qs.ok.p1 j.qs.ok.lf).1 r hr).1
rw[show q.B=B from j.rows.sh.1,show q.P=P from j.rows.sh.2]at h
have d:1<=P:=j.qs.ok.p1
have:=(wG (by lia)).mp h
rw[j.eB,j.eP]
lia)
theorem Jf.h64(j:Jf t H c a m pg R q B P):(hdN q.V).length<64:=by(
have h1:=(j.rows.newest rfl).1.length_eq
have h2:=j.rows.lenV rfl
have d:=j.ln
refine rJ (mK _ _) ?_
rw[kI]
lia)
theorem Jf.val(j:Jf t H c a m pg R q B P){n p:Int}(hp:(n,p)∈q.V):∃(i:Nat) (w:Int×Int) (tp:Addr),p=(i:Int)/\(i:Int)<=m.bl*m.pg-1/\pg i=some w/\vlP pg q.V n=w/\w.1%128=n/\m.bo.getD i .non=.ref tp/\H tp=some (.tup [.int w.1,.int w.2]):=by(
obtain⟨D,_,N⟩:=j.rows.new rfl
obtain⟨r,d,I,_⟩:=D _ hp
injection I with ep1 ep2
obtain⟨u,z⟩:=j.pq.pr r d
obtain⟨tp,O,J⟩:=j.pa.v _ _ z
have:=N r d
exact⟨r.2.1,_,tp,ep2,j.in d,z,qAI (j.rows.qs j.qs).ok.nd hp (by rw[ep2,kQ];exact z),(by show mkR r%128=n;unfold mkR;lia),O,J⟩)
end
inductive spSg(t:Adr)(vs:List V)(H:Hp)(Q:VK)(E_:XK):Prop
|mk:∀c a m pg R q B P,∀ka:BkA,vs=[.ref c,.ref ka.bk]->Jf t H c a m pg R q B P->BkAt t H ka q->(∀gl D H',gl.Perm ((hdN q.V).filter (gnB pg q.V))->Same H H'->H D=none->H' D=some (.lst (List.map V.int gl))->Q (.ref D) H')->spSg t vs H Q E_
theorem q4K(T:tXx)(S:tFf):S.oS.Ok0 P w mg base 6 (spSg t):=by(
refine S.oS.F.ok0 uZ λbd A _ s H vs Q E hr h=>?_
obtain⟨c,a,m,pg,R,q,B,P',ka,rfl,j,hb,k⟩:=h
have hu:=q6C hr
have d:=(j.rows.qs j.qs).ok
refine⟨_,(qB (jG (qFH (qF0 hu (yO rfl T.aCI ⟨_,rfl⟩ (v:=.int 64)) (qJ (pv 1) rfl))) (qC (qL (jY qD))) qT) (qB (qO (i:=2) uZ.nd (jF jX (pv 0) T.eQ T.oP (vQ T S).mono hr S.oJ.b .nil (qA (q6W hu (qJ (pv 1) rfl) (yO rfl T.aCI ⟨_,rfl⟩ (v:=.int 64)) (λz z=>rfl)) qD))) (qB (qO (i:=3) uZ.nd (qU (qAX T S).mono hr rfl T.aDZ T.aD1 S.aCL.b .nil qK (qA (qX jO (pv 2) qG (λz z=>rfl)) qD))) (qC (qL (vA ["chip","book","roll","named","sheet"] [0,1,2,3] rfl (yA (qR (pv 1) T.eT T.aCQ (q5E T S).mono hr S.aBP.b .nil qK)) (λz z z z z=>(jE (i:=4) (show List.Nodup (["chip","book","roll","named","sheet"]:List Str)from by decide))) (λz z z z z=>(uM (PW.pt (qA2 (qS (q3Q (K:=K) rfl) (pv 4) (pv 3) rfl) (q6T (qS q3P (qX (q4W (K:=K) rfl) (jF jX (pv 0) T.eQ T.oP (vQ T S).mono hr S.oJ.b .nil (qA (q6W hu (uN (K:=K) rfl (pv 1) rfl) (pv 4) (λz z=>rfl)) qD)) qG (λz z=>rfl)) (qX (q4W (K:=K) rfl) (pv 2) qG (λz z=>rfl)) (qV _))))))) (λz z z z z=>(pv 4)) (by kernel_rfl) (yL (by decide)))))))),?_⟩
try dsimp-beta-proj-iota-zeta-eta only[wishK,cxK]
refine(iV rfl (iF hb.o T.eT T.fF rfl ⟨ka.wv,_,rfl,DGet.k (k:=Sum.inl 64) hb.w,_,rfl,?_⟩))
rcases QM.find_V (m:=q) (n:=64)with⟨pr,hp,_⟩|⟨hn,_⟩
.rw[q1I d.nd hp];refine iteF ?_;obtain⟨ir,I,tp,rfl,a3,a4,ay,m6,e6,an⟩:=j.val hp;obtain⟨a2,bq⟩:=j.v6 _ _ a4 m6;refine(iV rfl (iM j.ch.ins rfl (iV rfl (iF hb.o T.eT T.fF rfl ⟨ka.wv,.int (ir:Int),rfl,?_,c,a,m,_,rfl,j.ch,j.ok,by lia,a3,λy=>(j.lf y).elim,λ_=>?_⟩))))
 .have:=DGet.k (k:=Sum.inl 64) hb.w;rw[q1I d.nd hp]at this;exact this
 rw[kQ,e6];refine⟨_,rfl,iT (k:=1) (v:=.int I.2) (SqT.of an) rfl ⟨I.2.toNat,by rw[xC a2];rfl,by lia,λD1 H1 J a0 n1 s1 h1=>?_⟩⟩;have am:=hb.same s1;refine(iV rfl (iM am.o rfl ⟨ka,q,rfl,am,d,j.h64,λl ns H2 s2 n2 h2 pm so=>?_⟩));have ab:=s1.trans s2;refine⟨l,rfl,⟨_,SqL.of h2⟩,λD H3 nD s3 hD=>?_⟩;have ag:=j.h64;have a9:ns.length<64:=by rw[pm.length_eq];exact ag
 refine zD (K:=K) (xs:=ns.map V.int) (D:=D) (λi H4=>Same H2 H4/\H4 D=some (.lst (((ns.take i).filter (gnB pg q.V)).map V.int))) ⟨s3,hD⟩ (λi H4 hp=>SqL.of (hp.1 _ _ h2)) (λi y H4 hy Z=>?_) (λH4 Z=>?_)
 .obtain⟨sm,hd⟩:=Z;rw[mM]at hy;obtain⟨n,hw,rfl⟩:=mH.mp hy;have hi:=(kF.mp hw).1;have ev:=(kF.mp hw).2;have aa:=ab.trans sm;obtain⟨n6,pn,O⟩:=uO.mp (pm.mem_iff.mp (gQ hw));have n0:0<=n:=(d.nm _ O).1;obtain⟨N,rfl⟩:∃N:Nat,n=(N:Int):=⟨n.toNat,by lia⟩;obtain⟨wn,aj⟩:∃wn,vlP pg q.V (N:Int)=wn:=⟨_,rfl⟩;have eg:gnB pg q.V (N:Int)=(!(I.2.toNat.testBit N)&&decide (wn.1<I.1)):=by unfold gnB;rw[show(q.V.any λx=>decide (x.1=64))=true from wC.mpr ⟨_,hp,hC rfl⟩,ay,aj,kQ];rfl
  have et:(ns.take (i+1)).filter (gnB pg q.V)=(ns.take i).filter (gnB pg q.V)++(if gnB pg q.V (N:Int)=true then[(N:Int)]else[]):=by rw[<-mR hi,gX,ev,gH];rfl
  have el:inV (.int (N:Int)) (vN J)=I.2.toNat.testBit N:=by
   rw[show vN J=(J.map λ(k:Nat)=>(k:Int)).map V.int by rw[pM];rfl,q3H];have:=a0 N;have e:((N:Int)∈J.map λ(k:Nat)=>(k:Int))↔N∈J:=⟨λz=>by obtain⟨x,hx,ex⟩:=kZ.mp z;rw[<-rM ex];exact hx,λz=>kZ.mpr ⟨N,z,rfl⟩⟩;by_cases z:I.2.toNat.testBit N=true
   .rw[z];exact hC (e.mpr (this.mpr z))
   rw[aM]at z;rw[z];exact kB λy=>by rw[this.mp (e.mp y)]at z;cases z
  refine⟨_,rfl,_,rfl,D1,_,rfl,.inl (SqL.of (sm _ _ (s2 _ _ h1))),rfl,(by rw[show vN J=(J.map λ(k:Nat)=>(k:Int)).map V.int by rw[pM];rfl];exact qCB),_,rfl,?_⟩;show if(!inV (.int (N:Int)) (vN J))=true then _ else _;rw[el,et];have j4:=j.same aa;have ah:=hb.same aa;cases tb:I.2.toNat.testBit N with
  |true=>rw[tb]at eg;refine iteF ⟨sm,?_⟩;rw[eg,hU (by simp),g0];exact hd
  |false=>
   rw[tb]at eg;refine iteT ?_;obtain⟨iN,w',tn,rfl,au,_,ew,_,e5,aw⟩:=j4.val O;obtain rfl:w'=wn:=ew.symm.trans aj;refine(iV rfl (iM j4.ch.ins rfl (iV rfl (iF ah.o T.eT T.fF rfl ⟨_,rfl,ka.wv,.int (iN:Int),rfl,?_,c,a,m,_,rfl,j4.ch,j.ok,by lia,au,λy=>(j.lf y).elim,λ_=>?_⟩))))
   .have:=DGet.k (k:=Sum.inl (N:Int)) ah.w;rw[q1I d.nd O]at this;exact this
   rw[kQ,e5];refine(iT (k:=0) (v:=.int w'.1) (SqT.of aw) rfl ⟨_,rfl,iT (k:=0) (v:=.int I.1) (SqT.of (aa _ _ an)) rfl (iI ⟨_,rfl,?_⟩)⟩);rw[eg];refine ite2 (λz=>?_) (λz=>?_)
   .have z:w'.1<I.1:=kP z;rw[hC z];refine⟨_,rfl,_,hd,?_,λb o e=>?_,?_⟩
    .rw[kI];have l1:((ns.take i).filter (gnB pg q.V)).length<=(ns.take i).length:=mK _ _;rw[gZ]at l1;have:(64:Nat)<sizeLine:=by decide
     lia
    .rw[qE (qH e nD)];exact sm _ _ e
    rw[qI,m8];rfl
   have z:¬w'.1<I.1:=λy=>z (hC y);rw[kB z,hU (by decide),g0];exact⟨sm,hd⟩
 obtain⟨sm,hd⟩:=Z;rw[kI,gL]at hd;exact k _ D H4 (pm.filter _) (ab.trans sm) (ab.free nD) hd
have no:(64:Int)∉q.V.map (·.1):=λz=>by obtain⟨x,hx,ex⟩:=kZ.mp z;exact hn x hx ex
rw[q3Y no]
refine iteT ⟨sz0,λD H1 n1 s1 h1=>k [] D H1 ?_ s1 n1 h1⟩
have ea:(q.V.any λx=>decide (x.1=64))=false:=by rw[xX];intro x hx z;exact hn x hx (kP z)
rw[List.filter_eq_nil_iff.mpr]
intro n _
unfold gnB
rw[ea]
simp)
noncomputable def bf6(k:BkA):List Addr:=[k.bk,k.wv,k.lv,k.fi,k.bo]
inductive spBof(t:Adr)(vs:List V)(H:Hp)(Q:VK)(E:XK):Prop
|mk:∀c a m,∀B P:Nat,vs=[.ref c]->ChipAt t.bw H c a m->m.Ok->m.bl=(B:Int)->m.pg=(P:Int)->(m.lf=some 0->∀H',Same H H'->E (.ref t.dy) none H')->(m.lf≠some 0->∃pg R q,Jf t H c a m pg R q B P/\∀ka gl H',gl.Perm ((hdN q.V).filter (gnB pg q.V))->BkAt t H' ka (jI q gl)->Dst ka->Same H H'->(∀b∈bf6 ka,H b=none)->Q (.ref ka.bk) H')->spBof t vs H Q E
theorem qDD(T:tXx)(S:tFf):S.aED.OkE P w mg base 7 (spBof t):=by(
refine S.aED.F.okE q08 λbz A outer s H vs Q E hr h=>?_
obtain⟨c,a,m,B,P',rfl,hc,ok,eB,eP,dk,k⟩:=h
have b2:B<=16:=by have:=ok.bl2;lia
refine⟨_,(qB (qO (i:=1) q08.nd (q4P T.aFC (q5B T S).mono hr rfl T.aE5 S.aBL.b .nil qK (qA (qJ (pv 0) rfl) (qA (qJ (pv 0) rfl) qD)))) (qB (vS dP rfl (yA (q2C qZ (q6S T S).mono hr rfl T.aCS T.aCM S.aAH.b .nil (qA (pv 0) qD))) (qA3 rfl (zB (jE (i:=2) q08.nd) (zB (jE (i:=3) q08.nd) q6U))) (qB (j8 (j9 (pv 1) T.eT T.aCX (q66 T S).mono hr S.tR.b .nil qK (qA (qU (qCF T S).mono hr rfl T.aEO T.aEN S.aDN.b .nil qK (qA (pv 2) qD)) qD))) (qC (j8 (j9 (pv 1) T.eT T.aCP (q5C T S).mono hr S.aBQ.b .nil qK (qA (pv 3) (qA (qU (qDC T S).mono hr rfl T.aET T.aEW S.aER.b .nil qK (qA (pv 2) qD)) qD))))))) (qB (vS dP rfl (yA (qU (q4K T S).mono hr rfl T.aBH T.aBJ S.oS.b .nil qK (qA (pv 0) (qA (pv 1) qD)))) (jE (i:=4) q08.nd) (qC (j8 (j9 (pv 1) T.eT T.tT (q0B T S).mono hr S.oO.b .nil qK (qA (pv 4) qD))))) (qC (qL (pv 1)))))),?_⟩
try dsimp-beta-proj-iota-zeta-eta only[wishK,cxK]
refine(iV rfl (iF hc.ins T.eQ T.fM rfl (iV rfl (iF hc.ins T.eQ T.fI rfl (λbk bd nk nd nn=>?_)))))
rw[eB,eP]
have s0:Same H (upd (upd H bd (.own bk)) bk (.ins t.dt bd [])):=q0H nk nd
refine⟨bk,bd,B,P',rfl,b2,qI,λd H1 ay cc ao ds fr up=>⟨rfl,?_⟩⟩
subst ay
have s1:Same H H1:=λb o e=>up b o (qH e nk) (s0 b o e)
have nF:∀b∈bf6 d,H b=none:=λb J=>by
 have J:b=d.bk\/b∈[d.wv,d.lv,d.fi,d.bo]:=by simpa[bf6]using J
 rcases J with rfl|J
 .exact nk
 exact Same.free s0 (fr b J)
have nC:∀b∈a.li::foot c a,b∉bf6 d:=λb J z=>by obtain⟨o,e,_⟩:=hc.has J;rw[nF b z]at e;cases e
have a2:=hc.same s1
refine⟨_,rfl,c,a,m,B*P',rfl,a2,ok,by rw[eB,eP,dS],λz H' s'=>dk z H' (s1.trans s'),λz=>?_⟩
obtain⟨pg,R,q,j,k⟩:=k z
have N:=j.rows
have Z:=j.qs
have cd:=j.ln
have p1:1<=P':=Z.ok.p1
have pgs:=N.pages p1 Z.ok.lf
have e2:q.P=P':=N.sh.2
have e1:q.B=B:=N.sh.1
have j1:=j.same s1
refine⟨pg,R,_,q,N,j1.pa,j.pq,pgs.2.1,λr hr=>?_,by lia,λl us H2 s2 n2 h2 pr=>?_⟩
.have:=(pgs.1 r hr).1;rw[e1,e2]at this;exact(wG (by lia)).mp this
have ax:l∉bf6 d:=λz=>by
 have h:=ao;have z:l=d.bk\/l=d.wv\/l=d.lv\/l=d.fi\/l=d.bo:=by simpa[bf6]using z
 rcases z with rfl|rfl|rfl|rfl|rfl
 .rw[h.o]at n2;cases n2
 .rw[h.w]at n2;cases n2
 .rw[h.l]at n2;cases n2
 .rw[h.f]at n2;cases n2
 rw[h.b]at n2;cases n2
have lu:us.length=R.length:=by rw[pr.len,kI]
refine⟨l,rfl,⟨_,SqL.of h2⟩,?_⟩
refine v8 (K:=K) (xs:=us) (λi ae H'=>∃y2 y3 D,ae=[some (.ref c),some (.ref d.bk),y2,y3,none]/\Rows (bk0 B P') (R.take i) D/\BkAt t H' d D/\Keep (bf6 d) H2 H') ⟨_,_,_,rfl,.nil,ao.same s2,Keep.refl⟩ (λi ae H' hi O=>?_) (λi v ae H' hv O=>?_) (λae H' O=>?_)
.obtain⟨y2,y3,D,rfl,ri,J,kk⟩:=O;exact SqL.of (kk.k _ _ ax h2)
.obtain⟨y2,y3,D,rfl,ri,J,kk⟩:=O;obtain⟨kv,hk,tp,rfl,a1⟩:=Paired.at pr hv;rw[mM]at hk;obtain⟨r,a6,rfl⟩:=mH.mp hk;obtain⟨hi,er⟩:=kF.mp a6;obtain⟨ci,az,ft⟩:=N.at hi;obtain rfl:=ri.one az;rw[er]at ft;have al:=kk.tp _ _ a1;have n1:=ft.n1;have n0:=ft.n0;have d1:mkR r / 128=r.1:=by unfold mkR;lia
 have d2:mkR r%128=r.2.2:=by unfold mkR;lia
 refine⟨tp,_,rfl,SqT.of al,rfl,_,_,rfl,_,_,rfl,rfl,?_⟩;refine(iV rfl (iM J.o rfl ⟨_,rfl,_,rfl,d,D,_,rfl,J,λH3 ah k3=>?_⟩));rw[d1]at ah;have ap:=ri.qs Z;have eq:D.P=P':=ri.sh.2;have ep:r.2.1 / D.P*D.P+r.2.1%D.P=r.2.1:=by rw[dZ];exact sE _ _
 refine(iV rfl (iM ah.o rfl ⟨_,rfl,_,rfl,_,rfl,d,{ D with nx:=r.1 },r.2.1 / D.P,r.2.1%D.P,r.2.2,?_,ah,{ ap.ok with },ds,ft.b,Nat.mod_lt _ ap.ok.p1,ft.f,λH4 I k4=>?_⟩))
 .show[V.ref d.bk,.int (r.2.1:Int),.int (mkR r%128)]=[V.ref d.bk,.int ((r.2.1 / D.P*D.P+r.2.1%D.P:Nat):Int),.int r.2.2];rw[ep,d2]
 refine⟨_,_,q53 D r,rfl,?_,I,(kk.trans (k3.mono (by simp[bf6]))).trans k4⟩;rw[<-mR hi,er];exact .snoc ri ft
obtain⟨y2,y3,D,rfl,ri,J,kk⟩:=O
rw[lu,gL]at ri
obtain rfl:=ri.one N
have jj:Jf t H' c a m pg R D B P':=(j1.same s2).keep kk nC
have cb:=(ri.qs Z).ok
refine⟨_,rfl,_,rfl,c,a,m,pg,R,D,B,P',d,rfl,jj,J,λgl l2 H3 a8 s3 n3 h3=>?_⟩
have ba:Keep (bf6 d) H2 H3:=kk.trans (Keep.same s3)
have aq:l2∉bf6 d:=λz=>by
 have h:=J;have z:l2=d.bk\/l2=d.wv\/l2=d.lv\/l2=d.fi\/l2=d.bo:=by simpa[bf6]using z
 rcases z with rfl|rfl|rfl|rfl|rfl
 .rw[h.o]at n3;cases n3
 .rw[h.w]at n3;cases n3
 .rw[h.l]at n3;cases n3
 .rw[h.f]at n3;cases n3
 rw[h.b]at n3;cases n3
refine⟨l2,rfl,⟨_,SqL.of h3⟩,?_⟩
refine v8 (K:=K) (xs:=gl.map V.int) (λi ae H'=>∃y4,ae=[some (.ref c),some (.ref d.bk),y2,y3,y4]/\BkAt t H' d (jI D (gl.take i))/\Keep (bf6 d) H3 H') ⟨_,rfl,J.same s3,Keep.refl⟩ (λi ae H' hi O=>?_) (λi v ae H' hv O=>?_) (λae H' O=>?_)
.obtain⟨y4,rfl,I,k4⟩:=O;exact SqL.of (k4.k _ _ aq h3)
.obtain⟨y4,rfl,I,k4⟩:=O;rw[mM]at hv;obtain⟨n,hn,rfl⟩:=mH.mp hv;obtain⟨hi,en⟩:=kF.mp hn;refine(iV rfl (iM I.o rfl ⟨_,rfl,d,_,n,rfl,I,(q1N (ri.qs Z)).1.ok,ds,λH5 aw k5=>?_⟩));refine⟨_,rfl,?_,k4.trans (k5.mono (by intro x hx;simp[bf6]at hx ⊢;rcases hx with rfl|rfl<;>simp))⟩;rw[<-mR hi,en,qAJ];exact aw
obtain⟨y4,rfl,I,k4⟩:=O
rw[kI,gL]at I
exact⟨_,rfl,k d gl H' a8 I ds (Same.keepF (s1.trans s2) (ba.trans k4) nF) nF⟩)
inductive spCu(t:Adr)(vs:List V)(H:Hp)(Q:VK)(E:XK):Prop
|mk:∀tm td c a r2 r3 r4 r5 ru,∀m:CM,∀B P:Nat,vs=[.ref c,.ref tm,ru]->H tm=some (.ins t.dj td (teF (.int (B:Int)) (.int (P:Int)) r2 r3 r4 r5))->ChipAt t.bw H c a m->m.Ok->TbF t H->(¬(m.bl=(B:Int)/\m.pg=(P:Int))->∀H',Same H H'->E (.ref t.gb) none H')->(m.bl=(B:Int)->m.pg=(P:Int)->(m.lf=some 0->∀H',Same H H'->E (.ref t.dy) none H')/\(m.lf≠some 0->∃pg R q,Jf t H c a m pg R q B P/\∀x dx k p gl H',gl.Perm ((hdN q.V).filter (gnB pg q.V))->StAt t H' ⟨x,dx,tm,td,c,a,k,ru,.ref p⟩ r2 r3 r4 r5 m (jI q gl)->H' p=some (.lst [])->H p=none->H x=none->(∀b∈bf k,H b=none)->p∉bf k->Same H H'->Q (.ref x) H'))->spCu t vs H Q E
theorem q4L(T:tXx)(S:tFf):S.aCZ.OkE P w mg base 8 (spCu t):=by(
refine S.aCZ.F.okE q86 λar A outer s H vs Q E hr h=>?_
obtain⟨tm,td,c,a,r2,r3,r4,r5,ru,m,B,P',rfl,J,hc,ok,tb,nt,k⟩:=h
refine⟨_,(qB (qO (i:=3) q86.nd (qBE qZ T.aFF (q3T T S).mono hr rfl T.aFD S.aAR.b .nil (qA (pv 0) (qA (pv 1) (qA (pv 2) qD))))) (qB (jK (pv 3) (q2C qZ (qDD T S).mono hr rfl T.aEX T.aE1 S.aED.b .nil (qA (pv 0) qD)) rfl) (qC (qL (pv 3))))),?_⟩
try dsimp-beta-proj-iota-zeta-eta only[wishK,cxK]
refine⟨_,rfl,_,rfl,_,rfl,λx dx nx nd nn=>?_⟩
have s0:Same H (upd (upd H dx (.own x)) x (.ins t.ck dx [])):=q0H nx nd
have ac:(upd (upd H dx (.own x)) x (.ins t.ck dx [])) x=some (.ins t.ck dx []):=qI
generalize upd (upd H dx (.own x)) x (.ins t.ck dx [])=H0 at s0 ac ⊢
refine⟨x,dx,tm,td,c,a,r2,r3,r4,r5,ru,m,B,P',rfl,ac,s0 _ _ J,hc.same s0,λz=>nt z H0 s0,λeB eP=>?_⟩
obtain⟨dk,k⟩:=k eB eP
refine⟨by have:=ok.bl2;lia,tb.same s0,λkb p H1 st hp np fk off up=>⟨rfl,?_⟩⟩
have s1:Same H H1:=λb o e=>up b o (qH e nx) (s0 b o e)
have D:=st.o
refine⟨_,rfl,c,a,m,B,P',rfl,st.ch,ok,eB,eP,λz H' s'=>dk z H' (s1.trans s'),λz=>?_⟩
obtain⟨pg,R,q,j,k⟩:=k z
refine⟨pg,R,q,j.same s1,λI gl H2 aj ah ds s2 fr=>?_⟩
have O:=s2 _ _ D
refine⟨_,rfl,x,_,dx,_,rfl,O,T.eO,T.eZ,by show 5<1000;decide,_,rfl,?_⟩
have Z:=st.same s2
have N:=Keep.upd (F:=[x]) (o:=.ins t.ck dx [("chip",.ref c),("terms",.ref tm),("book",.ref I.bk),("rule",ru),("papers",.ref p)]) O (λd z=>by cases z) (by simp)
have ad:(upd H2 x (.ins t.ck dx [("chip",.ref c),("terms",.ref tm),("book",.ref I.bk),("rule",ru),("papers",.ref p)])) x=_:=qI
show Q (.ref x) (upd H2 x (.ins t.ck dx [("chip",.ref c),("terms",.ref tm),("book",.ref I.bk),("rule",ru),("papers",.ref p)]))
generalize upd H2 x (.ins t.ck dx [("chip",.ref c),("terms",.ref tm),("book",.ref I.bk),("rule",ru),("papers",.ref p)])=H3 at N ad ⊢
have nb:∀b∈bf I,H1 b=none:=fr
have al:∀b∈bf I,b∉[x]:=λb d z=>by rw[kE.mp z]at d;rw[nb x d]at D;cases D
have kp:∀b o,H b=some o->H3 b=some o:=λb o e=>N.k b o (by simpa using qH e nx) (s2 _ _ (s1 _ _ e))
have px:p≠x:=jQ hp D (by intro z;cases z)
refine k x dx I p gl H3 aj ⟨ad,?_,Z.ch.keep N ?_,ah.keep N al,?_,ds,?_,?_⟩ (N.k _ _ (by simpa using px) (s2 _ _ hp)) (s0.free np) nx (λb d=>s1.free (nb b d)) (λz=>by rw[nb p z]at hp;cases hp) kp
.have:=Z.te;exact N.k _ _ (by simpa using qH J nx) this
.intro b d z;obtain⟨o,e,_⟩:=hc.has d;rw[kE.mp z,nx]at e;cases e
.exact Z.tb.gen λb o to e=>N.k _ _ (by simpa using yX to e O q20) e
.intro b d z;obtain⟨o,e,_⟩:=hc.has d;have:=nb b z;rw[s1 _ _ e]at this;cases this
intro b d z
have d:b=x\/b=tm:=by simpa using d
have y0:b∈foot c a\/b∈bf I:=by simpa[sf]using z
rcases y0 with y|y
.exact st.d2 b (by simpa using d) (by unfold sf;exact gG _ y)
have n:=nb b y
rcases d with rfl|rfl
.rw[D]at n;cases n
rw[s1 _ _ J]at n;cases n)
noncomputable def uA(x k:Int):Int:=(x%2147483647+7919*k+17)*48271%2147483647*((x%2147483647+7919*k+17)*48271%2147483647)%1000003
inductive spMix(vs:List V)(H:Hp)(Q:VK)(E_:XK):Prop
|mk:∀x k,vs=[.int x,.int k]->0<=k->k<=1000->Q (.int (uA x k)) H->spMix vs H Q E_
theorem vY(T:tXx)(S:tFf):S.aAP.Ok0 P w mg base 1 spMix:=by(
refine S.aAP.F.ok0 q8A λd A Z s H D Q E N h=>?_
obtain⟨x,k,rfl,J,I,q⟩:=h
refine⟨_,(qB (qO (i:=2) q8A.nd (qN yK (qN u7 (qN uS (qN uS (qN yK (pv 0) qG) (qN u7 qG (pv 1))) qG) qG) qG)) (qC (qL (qN yK (qN u7 (pv 2) (pv 2)) qG)))),?_⟩
try dsimp-beta-proj-iota-zeta-eta only[wishK,cxK]
have O:=uT x 2147483647 (by decide)
have z:=uT ((x%2147483647+7919*k+17)*48271) 2147483647 (by decide)
refine⟨_,rfl,iI ⟨(by show(0:Int)<2147483647;decide),_,rfl,iI ⟨.inl ⟨by decide,by decide⟩,iI (iI (iI ⟨.inr ⟨by decide,by decide⟩,iI ⟨(by show(0:Int)<2147483647;decide),?_⟩⟩))⟩⟩⟩
refine⟨_,rfl,_,rfl,iI ⟨.inl ⟨by lia,by lia⟩,iI ⟨(by show(0:Int)<1000003;decide),q⟩⟩⟩)
structure Rwt(B P:Nat)(s:Int)(r e:Nat)(d:Int):Prop where
b1:3<=B
b2:B<=4
p1:1<=P
p2:P<=3
e1:e+2<=B
r1:1<=r
r2:r+2<=(B-(1+e))*P
r3:r<=7
s1:(r:Int)+1<=s
s2:s<=r+2
d1:1<=d
d2:d<=1000000
noncomputable abbrev rwL(B P:Nat)(s:Int)(r e:Nat)(d:Int):List V:=[.int (B:Int),.int (P:Int),.int s,.int (r:Int),.int (e:Int),.int d]
inductive spTr(vs:List V)(H:Hp)(Q:VK)(E_:XK):Prop
|mk:∀c,vs=[.int c]->(∀B P r e:Nat,∀s d:Int,Rwt B P s r e d->NewO H (.lst (rwL B P s r e d)) Q)->spTr vs H Q E_
theorem q67(T:tXx)(S:tFf):S.tS.Ok0 P w mg base 2 spTr:=by(
refine S.tS.F.ok0 jN λag A _ s H vs Q E I h=>?_
obtain⟨c,rfl,k⟩:=h
refine⟨_,(qB (qO (i:=1) jN.nd (qN uS qG (qN yK (qU (vY T S).mono I rfl T.oE T.oG S.aAP.b .nil qK (qA (pv 0) (qA qG qD))) qG))) (qB (qO (i:=2) jN.nd (qN uS qG (qN yK (qU (vY T S).mono I rfl T.oE T.oG S.aAP.b .nil qK (qA (pv 0) (qA qG qD))) qG))) (qB (qO (i:=3) jN.nd (qN yK (qU (vY T S).mono I rfl T.oE T.oG S.aAP.b .nil qK (qA (pv 0) (qA qG qD))) qG)) (qA9 (jG (qS q3P (qN u7 (qN yC (qN yC (pv 1) qG) (pv 3)) (pv 2)) qG (qV _)) (qC (qO (i:=2) jN.nd qG)) qT) (qB (qO (i:=4) jN.nd (qN yC (qN u7 (qN yC (qN yC (pv 1) qG) (pv 3)) (pv 2)) qG)) (qB (qO (i:=5) jN.nd (jR (q98 rfl) (by rfl) T.aFZ (by kernel_rfl) (qA qG (qA (qN yC (pv 4) (qN vZ (qN yK (qU (vY T S).mono I rfl T.oE T.oG S.aAP.b .nil qK (qA (pv 0) (qA qG qD))) qG) qG)) qD)))) (qB (qO (i:=6) jN.nd (qX jC (jY (qA qG (qA qG (qA qG (qA qG qD))))) (qN yK (qU (vY T S).mono I rfl T.oE T.oG S.aAP.b .nil qK (qA (pv 0) (qA qG qD))) qG) (λz z=>rfl))) (qC (qL (jY (qA (pv 1) (qA (pv 2) (qA (qN uS (qN uS (pv 5) qG) (qN yK (qU (vY T S).mono I rfl T.oE T.oG S.aAP.b .nil qK (qA (pv 0) (qA qG qD))) qG)) (qA (pv 5) (qA (pv 3) (qA (pv 6) qD)))))))))))))))),?_⟩
try dsimp-beta-proj-iota-zeta-eta only[wishK,cxK]
refine⟨_,rfl,c,1,rfl,by decide,by decide,_,_,rfl,rfl,(by show(0:Int)<2;decide),iI ?_⟩
refine⟨_,rfl,c,2,rfl,by decide,by decide,_,_,rfl,rfl,(by show(0:Int)<3;decide),iI ?_⟩
try dsimp only
have c1:=uT (uA c 1) 2 (by decide)
have c2:=uT (uA c 2) 3 (by decide)
obtain⟨B,eB⟩:∃n:Nat,3+uA c 1%2=(n:Int):=⟨(3+uA c 1%2).toNat,by lia⟩
obtain⟨D,N⟩:∃n:Nat,1+uA c 2%3=(n:Int):=⟨(1+uA c 2%3).toNat,by lia⟩
rw[eB,N]
have b1:3<=B:=by lia
have b2:B<=4:=by lia
have J:1<=D:=by lia
have p2:D<=3:=by lia
clear c1 c2 eB N
refine⟨_,rfl,c,3,rfl,by decide,by decide,_,_,rfl,rfl,(by show(0:Int)<2;decide),?_⟩
try dsimp only
have c3:=uT (uA c 3) 2 (by decide)
obtain⟨e,ee⟩:∃n:Nat,uA c 3%2=(n:Int):=⟨(uA c 3%2).toNat,by lia⟩
rw[ee]
have e1:e+2<=B:=by lia
clear c3 ee
obtain⟨w,ew⟩:∃n:Nat,(B:Int)-1-(e:Int)=(n:Int):=⟨B-1-e,by lia⟩
have w1:w=B-(1+e):=by lia
have w2:w<=3:=by lia
refine⟨λO H'=>∃P:Nat,O=[some (.int c),some (.int (B:Int)),some (.int (P:Int)),some (.int (e:Int)),none,none,none]/\H=H'/\1<=P/\P<=3/\3<=w*P,?_,?_⟩
.refine⟨_,rfl,iI ⟨_,rfl,iI ⟨_,rfl,iI ⟨.inl ⟨by lia,by lia⟩,iI ⟨_,rfl,?_⟩⟩⟩⟩⟩;show if decide (((B:Int)-1-(e:Int))*(D:Int)<3)=true then _ else _;rw[ew,<-dS];refine ite2 (λz=>?_) (λz=>?_)
 .exact⟨3,rfl,rfl,by decide,by decide,by lia⟩
 have z:¬((w*D:Nat):Int)<3:=λy=>z (hC y);exact⟨D,rfl,rfl,J,p2,by lia⟩
clear J p2 D
rintro O _ ⟨D,rfl,rfl,J,p2,wp⟩
have wq:w*D<=3*3:=bK w2 p2
refine⟨_,rfl,iI ⟨_,rfl,iI ⟨_,rfl,iI ⟨.inl ⟨by lia,by lia⟩,iI ?_⟩⟩⟩⟩
try dsimp only
rw[ew,<-dS]
obtain⟨M,eM⟩:∃n:Nat,((w*D:Nat):Int)-2=(n:Int):=⟨w*D-2,by lia⟩
rw[eM]
refine⟨_,rfl,_,rfl,c,4,rfl,by decide,by decide,_,_,rfl,rfl,(by show(0:Int)<4;decide),iI ⟨⟨by decide,by decide⟩,iI ⟨_,_,rfl,?_⟩⟩⟩
try dsimp only
have c4:=uT (uA c 4) 4 (by decide)
obtain⟨r,Z,r1,r2⟩:∃n:Nat,(if(M:Int)-uA c 4%4 / 2>1 then(M:Int)-uA c 4%4 / 2 else 1)=(n:Int)/\1<=n/\n<=M:=by
 split
 .exact⟨((M:Int)-uA c 4%4 / 2).toNat,by lia,by lia,by lia⟩
 exact⟨1,rfl,by decide,by lia⟩
rw[Z]
clear c4 Z
have c5:=uT (uA c 5) 4 (by decide)
have c6:=uT (uA c 6) 2 (by decide)
refine⟨sz4,λl1 H1 n1 s1 h1=>?_⟩
refine⟨_,rfl,c,5,rfl,by decide,by decide,_,_,rfl,rfl,(by show(0:Int)<4;decide),iL (k:=_) (v:=_) (SqL.of h1) (getV c5.1 (by show uA c 5%4<4;lia)) ?_⟩
obtain⟨d,ed,d1,d2⟩:∃d:Int,([.int 1,.int 2,.int 3,.int 1000000]:List V).getD (uA c 5%4).toNat .non=.int d/\1<=d/\d<=1000000:=by
 have:uA c 5%4=0\/uA c 5%4=1\/uA c 5%4=2\/uA c 5%4=3:=by lia
 rcases this with e|e|e|e<;>rw[e]
 .exact⟨1,rfl,by decide,by decide⟩
 .exact⟨2,rfl,by decide,by decide⟩
 .exact⟨3,rfl,by decide,by decide⟩
 exact⟨1000000,rfl,by decide,by decide⟩
try dsimp only
rw[ed]
refine⟨_,rfl,_,rfl,_,rfl,iI ⟨_,rfl,c,6,rfl,by decide,by decide,_,_,rfl,rfl,(by show(0:Int)<2;decide),iI ⟨_,rfl,_,rfl,_,rfl,by show 6<=sizeLine;decide,λl2 H2 n2 s2 h2=>?_⟩⟩⟩
exact k B D r e ((r:Int)+1+uA c 6%2) d ⟨b1,b2,J,p2,e1,r1,by rw[<-w1];lia,by lia,by lia,by lia,d1,d2⟩ l2 H2 (s1.free n2) (s1.trans s2) h2)
noncomputable def rkO(c:Int):Int->Int->Tl->Int:=if c=0 then λz z z=>0 else if c=1 then λz z=>Tl.lv else if c=2 then λz z=>Tl.bo else λpg nw=>rkW pg nw mnC
inductive spRu(t:Adr)(vs:List V)(H:Hp)(Q:VK)(E_:XK):Prop
|mk:∀c,vs=[.int c]->0<=c->c<4->(∀r H',Same H H'->H r=none->RuX t H' r [] (.rk (rkO c))->Q (.ref r) H')->spRu t vs H Q E_
theorem q0L(T:tXx)(S:tFf):S.aAQ.Ok0 P w mg base 1 (spRu t):=by(
refine S.aAQ.F.ok0 qC5 λaa A _ s H vs Q E hr h=>?_
obtain⟨c,rfl,c0,c4,k⟩:=h
refine⟨_,(qB (jG (qS zV (qN yK (pv 0) qG) qG (qV _)) (qC (qL (qAC T.aFP rfl T.aFU))) qT) (qB (jG (qS zV (qN yK (pv 0) qG) qG (qV _)) (qC (qL (qAC T.aE0 rfl T.aE8))) qT) (qB (jG (qS zV (qN yK (pv 0) qG) qG (qV _)) (qC (qL (qAC T.aEU rfl T.aFE))) qT) (qC (qL (qAC T.aFA rfl T.aFS)))))),?_⟩
try dsimp-beta-proj-iota-zeta-eta only[wishK,cxK]
have Z:c%4=c:=by lia
refine⟨_,rfl,iI ⟨(by show(0:Int)<4;decide),rfl,_,rfl,?_⟩⟩
rw[zX,Z]
by_cases I:c=0
.rw[hC I];exact iteT λr D d z O=>k r _ (q0H d z) d (.inl ⟨D,qI,by unfold rkO;rw[kD I]⟩)
rw[kB I]
refine iteF ⟨_,rfl,iI ⟨(by show(0:Int)<4;decide),rfl,_,rfl,?_⟩⟩
rw[zX,Z]
by_cases J:c=1
.rw[hC J];exact iteT λr D d z O=>k r _ (q0H d z) d (.inr (.inl ⟨D,qI,by unfold rkO;rw[hU I,kD J]⟩))
rw[kB J]
refine iteF ⟨_,rfl,iI ⟨(by show(0:Int)<4;decide),rfl,_,rfl,?_⟩⟩
rw[zX,Z]
by_cases N:c=2
.rw[hC N];exact iteT λr D d z O=>k r _ (q0H d z) d (.inr (.inr (.inl ⟨D,qI,by unfold rkO;rw[hU I,hU J,kD N]⟩)))
rw[kB N]
exact iteF λr D d z O=>k r _ (q0H d z) d (.inr (.inr (.inr ⟨D,qI,by unfold rkO;rw[hU I,hU J,hU N]⟩))))
theorem qEO{nw l o:Int}(l0:0<=l)(l1:l<=pg)(o0:0<=o)(o1:o<nw):Tl.Ok pg nw ⟨0,l,0,o⟩:=⟨gC 0,(by simp),l0,l1,gC 0,(by simp),o0,o1⟩
theorem qO5{k:Tm}{c:Int}:Ahd k (rkO c):=by(
unfold rkO
split
.exact qK9
split
.exact qK7
split
.exact qK8
intro s s' b e w fd fb lp p3 m ne fe N J h
have p1:=w.qs.ok.p1
have le:=q1L w.qs w.pd fe.b
have ae:=q5Q (P:=s.q.P) (b:=e) (V:=s.q.V)
have l1:=m.l1
have I:=w.bo b
have d:=w.bo e
have O:=fb.f
have ag:=fd.age (b:=b) (by rw[O];lia)
rw[O]at ag
have S:Mny (s.q.P:Int) mnC:=qIE (by lia) (by lia)
have W:=q64 (A:=⟨0,s.q.lv.getD e 0,0,s.q.bo.getD e 0⟩) (B:=⟨0,s.q.lv.getD b 0,0,s.q.bo.getD b 0⟩) (nw:=s.q.nx) S (qEO (by lia) (by lia) d.1 d.2) (qEO (by lia) (by lia) I.1 I.2)
have h:rkW s.q.P s.q.nx mnC (s.tl b)<rkW s.q.P s.q.nx mnC (s.tl e)\/(rkW s.q.P s.q.nx mnC (s.tl b)<=rkW s.q.P s.q.nx mnC (s.tl e)/\b<=e):=h
have D:¬rkW s.q.P s.q.nx mnC (s.tl e)<rkW s.q.P s.q.nx mnC (s.tl b):=by lia
have h2:=λz=>D (W.mp z)
have Z:((s.q.P:Int)-s.q.lv.getD e 0)*(s.q.nx-s.q.bo.getD e 0)*((s.q.P:Int)+s.q.lv.getD b 0)<=((s.q.P:Int)-s.q.lv.getD b 0)*(s.q.nx-s.q.bo.getD b 0)*((s.q.P:Int)+s.q.lv.getD e 0):=bJ.mp h2
have h4:=qI5 (by lia) (by lia) l1 lp (by lia) (by lia) (by lia) (by lia) Z
have W':=q64 (A:=⟨0,s'.q.lv.getD b 0,0,s'.q.bo.getD b 0⟩) (B:=⟨0,s'.q.lv.getD e 0,0,s'.q.bo.getD e 0⟩) (nw:=s'.q.nx) S (qEO (by rw[m.lb];lia) (by rw[m.lb];lia) (by rw[m.bb];exact I.1) (by rw[m.bb,m.nx];lia)) (qEO (by rw[N];lia) (by rw[N];lia) (by rw[J];exact d.1) (by rw[J,m.nx];lia))
refine .inl ?_
show rkW s'.q.P s'.q.nx mnC (s'.tl b)<rkW s'.q.P s'.q.nx mnC (s'.tl e)
rw[m.eP]
refine W'.mp ?_
unfold gain
dsimp only
rw[m.lb,m.bb,N,J,m.nx,show s.q.nx+1-s.q.bo.getD b 0=s.q.nx-s.q.bo.getD b 0+1 by lia,show s.q.nx+1-s.q.bo.getD e 0=s.q.nx-s.q.bo.getD e 0+1 by lia]
exact h4)
theorem XX.nw{x:Sto}{k:Tm}{sh:Int}{b:Addr}(h:XX t H' x k sh sr r [] pp X)(kk:Keep (fx t x r pp) H H')(n:H' b=none):H b=none:=by(
cases e:H b with
|none=>rfl
|some o=>
 by_cases z:b∈fx t x r pp
 .obtain⟨o',d⟩:=h.inF b z;lia
 have:=kk.k b o z e;lia)
inductive spAk(t:Adr)(vs:List V)(H:Hp)(Q:VK)(E_:XK):Prop
|mk:∀x k r pp X Y lr B P,∀sr e:Nat,∀sh d c a:Int,∀w:Str,vs=[.ref x.s,.ref lr,.int c]->H lr=some (.lst (rwL B P sh sr e d))->1<=sh->sh<=64->sr<=50->XX t H x k sh sr r [] pp X->k.ev=true->X.s.rc.length<=900000->X.ps.length<=80000->X.s.hl.length<=sr->AkR k sh sr c X Y w a->(∀tp H',XX t H' x k sh sr r [] pp Y->H' tp=some (.tup [.str w,.int a])->H tp=none->Keep (fx t x r pp) H H'->Q (.ref tp) H')->spAk t vs H Q E_
theorem q8N(T:tXx)(S:tFf)(B:BmIn base mg):S.aDP.Ok0 P w mg base 18 (spAk t):=by(
refine S.aDP.F.ok0 v3 λa0 A _ s H vs Q E hr h=>?_
obtain⟨x,k,r,pp,X,Y,lr,B',P',sr,e,sh,d,c,a,w,rfl,hl,a1,s6,s5,hx,ev,rc,ps,hd,ak,kk⟩:=h
have hS:=SqL.of (K:=K) hl
refine⟨_,(qB (qO (i:=3) v3.nd uQ) (qB (qO (i:=4) v3.nd (qFL qCJ qG)) (qB (qCU (λpins XE ES ag az=>(qC (jG (qS zV (qN yK (pv 2) qG) qG (qV _)) (qC (qO (i:=4) v3.nd (jF ag (pv 0) T.eO T.aC7 (q65 T S B).mono hr S.tU.b .nil (qA (jY (qA (qN yK (qN vZ (pv 2) qG) (qX (q2D (K:=K) rfl) (pv 1) qG (λz z=>rfl))) (qA (qN yK (qN vZ (pv 2) qG) (qX (q2D (K:=K) rfl) (pv 1) qG (λz z=>rfl))) qD))) qD qGK)))) (qC (qO (i:=4) v3.nd (jF ag (pv 0) T.eO T.aD9 (q8M T S B).mono hr S.aA9.b .nil (qA (qN yK (qN vZ (pv 2) qG) (qX (q2D (K:=K) rfl) (pv 1) qG (λz z=>rfl))) (qA (qN yK (pv 2) (qN qFM qG qG)) qD)))))))) (q6Y (λea=>(yO rfl T.aFG rfl (v:=.ref t.ei))) rfl (λea=>(qC (qO (i:=3) v3.nd uQ))) (q6Y (λea=>(yO rfl T.aB6 rfl (v:=.ref t.dy))) rfl (λea=>(qC (qO (i:=3) v3.nd uQ))) (qCT jX)))) (qC (qL (yP (qA (pv 3) (qA (pv 4) qD)))))))),?_⟩
try dsimp-beta-proj-iota-zeta-eta only[wishK,cxK]
have y1:=uT (c / 5) sh (by lia)
have y2:=uT (c / 64) sh (by lia)
have v1:=uT c (10 ^ 30) (by decide)
have nd:=hx.j.w.qs.ok.nd
obtain⟨l1,l2⟩:=qEJ nd
rw[<-q2J]at l1 l2
have af:X.s.q.V.length<59:=by lia
refine⟨_,rfl,_,rfl,iI ⟨(by show(0:Int)<5;decide),rfl,_,rfl,ite2 (λc4=>?_) (λc4=>?_)⟩⟩
.have c4:c%5=4:=by have:=kP c4;injection this
 refine(iV rfl (iM hx.j.o rfl ⟨_,rfl,iI ⟨⟨by decide,by decide⟩,_,rfl,lr,_,2,_,rfl,rfl,hS,rfl,iI ⟨(by show 0<sh;lia),_,rfl,iI ⟨⟨by decide,by decide⟩,_,rfl,lr,_,2,_,rfl,rfl,hS,rfl,iI ⟨(by show 0<sh;lia),sz2,λl0 H1 n1 s1 h1=>?_⟩⟩⟩⟩⟩));have ah:=hx.same s1;have k1:Keep (fx t x r pp) H H1:=Keep.same s1;obtain⟨G,eG⟩:∃G,G=gvn X.s.hl [c / 5%sh,c / 64%sh]:=⟨_,rfl⟩;have hg:=ak.give eG c4;refine⟨x,k,sh,sr,r,[],pp,X,l0,[c / 5%sh,c / 64%sh],rfl,ah,ev,h1,λn hn=>?_,λz H2 s2=>?_,λz=>?_⟩
 .have hn:n=c / 5%sh\/n=c / 64%sh:=by simpa using hn
  rcases hn with rfl|rfl
  .exact inBi y1.1 (by lia)
  exact inBi y2.1 (by lia)
 .rw[<-eG]at z;rcases hg with⟨_,rfl,rfl,rfl⟩|⟨z',_⟩
  .have am:=ah.same s2;exact⟨_,rfl,_,rfl,sz2,λN H3 O D I=>kk N H3 (am.same D) I (s1.free (s2.free O)) (k1.trans (Keep.same (s2.trans D)))⟩
  exact(z' z).elim
 rw[<-eG]at z ⊢;rcases hg with⟨z',_⟩|⟨_,Z,o,hZ,hr⟩
 .exact(z z').elim
 refine⟨17,(Z,o),by lia,by lia,.inr af,hZ,?_⟩;rcases hr with⟨p,rfl,rfl,rfl,rfl⟩|⟨rfl,rfl,rfl,rfl⟩
 .exact λH2 h2 J=>⟨_,rfl,_,rfl,sz2,λN H3 O D I=>kk N H3 (h2.same D) I (h2.nw (k1.trans J) O) ((k1.trans J).trans (Keep.same D))⟩
 exact λH2 h2 J ea aj=>⟨_,T.tM,iteF ⟨_,T.iP,iteT ⟨_,rfl,_,rfl,sz2,λN H3 O D I=>kk N H3 (h2.same D) I (h2.nw (k1.trans J) O) ((k1.trans J).trans (Keep.same D))⟩⟩⟩
have c4:¬c%5=4:=λz=>c4 (by show decide (V.int (c%5)=V.int 4)=true;rw[z];rfl)
refine(iV rfl (iM hx.j.o rfl ⟨_,rfl,iI ⟨⟨by decide,by decide⟩,_,rfl,lr,_,2,_,rfl,rfl,hS,rfl,iI ⟨(by show 0<sh;lia),?_⟩⟩⟩))
refine⟨_,rfl,iI ⟨⟨by decide,by decide,by decide⟩,iI ⟨(by show(0:Int)<10 ^ 30;decide),?_⟩⟩⟩
have hi:hold X.s.q (c / 5%sh)=false↔c / 5%sh∉X.s.hl:=by rw[show hold X.s.q (c / 5%sh)=decide (c / 5%sh∈hdN X.s.q.V)from rfl];refine⟨λz y=>dU z (uO.mpr (uU.mp y)),λz=>kB λy=>z (uU.mpr (uO.mp y))⟩
rw[q2J]at hd
rcases ak.write c4 with⟨⟨f1,f2⟩,rfl,rfl,rfl⟩|⟨nf,Z,o,hZ,hr⟩
.rw[q2J]at f2;exact⟨x,k,sh,sr,r,[],pp,Y,_,_,17,(Y,.ok 0),rfl,hx,ev,by lia,by lia,s6,inBi y1.1 (by lia),inBi v1.1 (by show c%10 ^ 30<=10 ^ 30-1;lia),λz H2 s2 ea aj=>⟨_,T.aDX,iteT ⟨_,rfl,_,rfl,sz2,λN H3 O D I=>kk N H3 ((hx.same s2).same D) I (s2.free O) (Keep.same (s2.trans D))⟩⟩,λn=>(n ⟨hi.mpr f1,f2⟩).elim⟩
rw[q2J]at nf
refine⟨x,k,sh,sr,r,[],pp,X,_,_,17,(Z,o),rfl,hx,ev,by lia,by lia,s6,inBi y1.1 (by lia),inBi v1.1 (by show c%10 ^ 30<=10 ^ 30-1;lia),λn=>(nf ⟨hi.mp n.1,n.2⟩).elim,λ_=>⟨.inr af,hZ,?_⟩⟩
rcases hr with⟨p,rfl,rfl,rfl,rfl⟩|⟨rfl,rfl,rfl,rfl⟩
.exact λH2 h2 J=>⟨_,rfl,_,rfl,sz2,λN H3 O D I=>kk N H3 (h2.same D) I (h2.nw J O) (J.trans (Keep.same D))⟩
exact λH2 h2 J ea aj=>⟨_,T.tM,iteF ⟨_,T.iP,iteT ⟨_,rfl,_,rfl,sz2,λN H3 O D I=>kk N H3 (h2.same D) I (h2.nw J O) (J.trans (Keep.same D))⟩⟩⟩)
theorem qKK{s:XS}{n:Int}:hold s.q n=decide (n∈s.hl):=by exact decide_eq_decide.mpr (by rw[uU];exact uO)
theorem Fb.len{k:Tm}{s:XS}(h:Fb s R q)(w:WX k s):R.length<=s.q.B*s.q.P:=by(
obtain⟨N,I,_⟩:=h.rows.pages w.qs.ok.p1 gW
have O:=w.qs.ok.p1
have J:q.B=s.q.B:=h.rows.sh.1
have z:q.P=s.q.P:=h.rows.sh.2
have:=q9Q  I λp d=>by obtain⟨r,D,rfl⟩:=kZ.mp d;have:=(N r D).1;rw[J,z]at this;exact mU.mpr ((wG (by lia)).mp this)
simp_all)
noncomputable def ChX(t:Adr)(H:Hp)(c:Addr)(a:CA)(s:XS):Prop:=∃m:CM,ChipAt t.bw H c a m/\Cm m s/\PgAt H m.bo s.pg
section
variable{H0 H H':Hp}{x:Sto}{k:Tm}{sh:Int}{sr:Nat}{r pp c tm td ru:Addr}{a:CA}{X:Sx}{s:XS}{F G:List Addr}{f:Int->Int->Tl->Int}{E:XK}
theorem ChX.keep(h:ChX t H c a s)(k:Keep F H H')(n:∀b∈a.li::foot c a,b∉F):ChX t H' c a s:=by obtain⟨m,h1,h2,d⟩:=h;exact⟨m,h1.keep k n,h2,d.keep k⟩
theorem ChX.same(h:ChX t H c a s)(k:Same H H'):ChX t H' c a s:=h.keep (F:=[]) (Keep.same k) (by simp)
theorem XX.chX(h:XX t H x k sh sr r [] pp X):ChX t H x.c x.a X.s:=by obtain⟨m,st,c,pg⟩:=h.j.e;exact⟨m,st.ch,c,pg⟩
theorem Keep.fr(k:Keep F H H')(n:∀b∈F,b∈G\/H0 b=none)(s:Keep G H0 H):Keep G H0 H':=⟨λb o nb e=>k.k b o (λz=>(n b z).elim nb λy=>by lia) (s.k b o nb e),λb xs e=>k.tp _ _ (s.tp _ _ e)⟩
theorem ChX.nw{b:Addr}(h:ChX t H' c a s)(tb:TbF t H')(kk:Keep (t.eL::t.eI::foot c a) H H')(n:H' b=none):H b=none:=by(
obtain⟨m,I,_⟩:=h
obtain⟨d,hT,_,D,J,_⟩:=tb
cases e:H b with
|none=>rfl
|some o=>
 have z:=dE λz=>by rw[kk.k b o z e]at n;lia
 rcases kM.mp z with z|z
 .lia
 rcases kM.mp z with z|z
 .lia
 obtain⟨o',N,_⟩:=I.has (hG _ z);lia)
theorem qEP{n:Int}(hx:XX t H x k sh sr r [] pp X)(n0:0<=n)(n1:n<sh)(s6:sh<=64)(lf:X.s.lf=none)(kk:∀v H',Rdv X.s n v->Same H H'->Q v H'):spPR t [.ref x.s,.int n] H Q E:=by(
refine⟨x,k,sh,sr,X.s,n,rfl,hx.j,inBi n0 (by lia),λz H' s'=>kk _ H' (.inl ⟨?_,rfl⟩) s',λp w d D e=>⟨λz=>?_,λZ H' s'=>kk _ H' (.inr ⟨w.2,⟨p,w.1,d,e⟩,uU.mpr ⟨D,p,d⟩,rfl⟩) s'⟩⟩
.rw[qKK]at z;exact dU z
lia)
theorem qAY(s0:Same H0 H)(h:ChX t H0 c a s)(z:Tz k sr s)(b4:s.q.B<=4)(p3:s.q.P<=3)(tb:TbF t H0)(htm:H0 tm=some (.ins t.dj td (teF (.int (s.q.B:Int)) (.int (s.q.P:Int)) (.int sh) (.int (sr:Int)) (.int (k.ie:Int)) (.int k.sp))))(nru:H0 ru=none)(hru:RuX t H ru [] (.rk f))
 (kk:∀x pp V H',V.Perm s.q.V->x.c=c->x.a=a->XX t H' x k sh (sr:Int) ru [] pp ⟨s.vv V,.rk f,[]⟩->Same H H'->(∀b∈fx t x ru pp,b∈t.eL::t.eI::foot c a\/H0 b=none)->H0 x.s=none->Q (.ref x.s) H'):spCu t [.ref c,.ref tm,.ref ru] H Q E:=by(
obtain⟨m,hc,d,pg⟩:=h
obtain⟨R,q,O⟩:=z.t.fd.fb
have J:=hc.same s0
have w:=z.t.x.w
have lf:m.lf≠some 0:=by rw[d.lf,z.t.lf];intro y;cases y
have l:R.length<=40:=mO (O.len w) (mO (bK b4 p3) (by decide))
obtain⟨al,hT,_,ai,S,_⟩:=id tb
obtain⟨_,_,_,er⟩:=hru.ins
refine⟨tm,td,c,a,_,_,_,_,.ref ru,m,s.q.B,s.q.P,rfl,s0 _ _ htm,J,d.ft.ok,tb.same s0,λy=>(y ⟨d.ft.eB,d.ft.eP⟩).elim,λ_ _=>⟨λy=>(lf y).elim,λ_=>⟨s.pg,R,q,⟨J,d.ft.ok,lf,d.ft.eB,d.ft.eP,O.rows,z.t.fd.q0,pg.keep (F:=[]) (Keep.same s0),⟨O.rp,O.pr⟩,z.t.fd.ro.v6,l⟩,λx dx N pp gl H' pm st hp I nx fk po s1=>?_⟩⟩⟩
obtain⟨pV,eq⟩:=O.is z.t.fd w z.t.tp pm
generalize (jI q gl).V=V at pV eq
rw[eq]at st
have wv:=w.vv pV
have of:Off t ⟨x,dx,tm,td,c,a,N,.ref ru,.ref pp⟩ [ru]:=qIH hc htm hT S (λu Z=>by rw[kE.mp Z];exact nru) (λu Z=>by rw[kE.mp Z];exact⟨_,er⟩) nx (Same.refl H) fk
have off:pp∉t.eI::sf ⟨x,dx,tm,td,c,a,N,.ref ru,.ref pp⟩:=λz=>by
 have z:pp=t.eI\/pp∈foot c a\/pp∈bf N:=by simpa[sf]using z
 rcases z with z|z|z
 .rw[z,s0 _ _ hT]at I;cases I
 .obtain⟨o,e',_⟩:=J.has (hG _ z);rw[I]at e';cases e'
 exact po z
refine kk ⟨x,dx,tm,td,c,a,N,.ref ru,.ref pp⟩ pp V H' pV rfl rfl ⟨⟨⟨m,st,⟨⟨d.ft.ok,wv.qs.ok,d.ft.eB,d.ft.eP,d.ft.br⟩,d.br,d.li,d.mo,d.cl,d.lf,d.rc⟩,(pg.keep (F:=[]) (Keep.same s0)).keep (F:=[]) (Keep.same s1)⟩,wv⟩,rfl,hru.keep (F:=[]) (Keep.same s1) (by simp),of,rfl,⟨[],hp,.nil⟩,off,λz=>by rw[kE.mp z,er]at I;cases I⟩ s1 (λb D=>?_) (s0.free nx)
have D:b=pp\/b=ru\/b=t.eL\/b=t.eI\/b∈foot c a\/b∈bf N:=by simpa[sf]using D
rcases D with D|D|D|D|D|D
.exact .inr (by rw[D];exact s0.free I)
.exact .inr (by rw[D];exact nru)
.exact .inl (by simp[D])
.exact .inl (by simp[D])
.exact .inl (by simp[D])
exact .inr (s0.free (fk b D)))
end
inductive spTd(t:Adr)(vs:List V)(H:Hp)(Q:VK)(E_:XK):Prop
|mk:∀c a tm td lr,∀sr e:Nat,∀sh d:Int,∀s0 Y k,∀way cell av:Int,∀w:Str,vs=[.ref c,.ref tm,.ref lr,.int way,.int cell]->0<=way->way<4->H lr=some (.lst (rwL s0.q.B s0.q.P sh sr e d))->Rwt s0.q.B s0.q.P sh sr e d->k=⟨e,d,true⟩->H tm=some (.ins t.dj td (teF (.int (s0.q.B:Int)) (.int (s0.q.P:Int)) (.int sh) (.int (sr:Int)) (.int (e:Int)) (.int d)))->ChX t H c a s0->TbF t H->w≠"dark"->Tu k sh sr cell (rkO way) s0 Y w av 0 s0->s0.rc.length<=700000->tm∉foot c a->lr∉foot c a->(∀tp W H',W.Perm Y.s.q.V->ChX t H' c a (Y.s.vv W)->TbF t H'->H' tp=some (.tup [.str w,.int av,.int (trN s0 Y)])->H tp=none->Keep (t.eL::t.eI::foot c a) H H'->Q (.ref tp) H')->spTd t vs H Q E_
theorem qAZ(T:tXx)(S:tFf)(B:BmIn base mg):S.aCR.Ok0 P w mg base 19 (spTd t):=by(
refine S.aCR.F.ok0 yB λdw A _ s H vs Q E hr h=>?_
obtain⟨c,a,tm,td,lr,sr,e,sh,d,s0,Y,k,ae,D,av,w,rfl,w0,w4,hl,aa,ek,aj,hc,tb,wd,tu,rc,cb,cd,kk⟩:=h
have b4:=aa.b2
have p3:=aa.p2
have r3:=aa.r3
have r1:=aa.r1
have g1:=aa.s1
have g2:=aa.s2
have ap:1<=sh:=by lia
have s6:sh<=64:=by lia
have s5:sr<=50:=by lia
have ev:k.ev=true:=by rw[ek]
rw[show(e:Int)=(k.ie:Int) by rw[ek],show d=k.sp by rw[ek]]at aj
have hS:=SqL.of (K:=K) hl
have y1:=uT (D / 5) sh (by lia)
have G6:∀n:Int,0<=n->n<sh->n≠64:=λn _ _=>by lia
have lo:∀{H'},Keep (t.eL::t.eI::foot c a) H H'->H' tm=some (.ins t.dj td (teF (.int (s0.q.B:Int)) (.int (s0.q.P:Int)) (.int sh) (.int (sr:Int)) (.int (k.ie:Int)) (.int k.sp)))/\H' lr=some (.lst (rwL s0.q.B s0.q.P sh sr e d)):=fun {H'} kp=>by
 obtain⟨df,hT,_,di,cp,_⟩:=tb;have nt:∀{b:Addr} {o},H b=some o->(∀ps,o≠ .tbl ps)->b∉foot c a->b∉t.eL::t.eI::foot c a:=fun {b o} e1 e2 e3 z=>by
  rcases kM.mp z with z|z
  .rw[z,cp]at e1;exact e2 _ (kU e1).symm
  rcases kM.mp z with z|z
  .rw[z,hT]at e1;exact e2 _ (kU e1).symm
  exact e3 z
 exact⟨kp.k _ _ (nt aj (λd z=>by cases z) cb) aj,kp.k _ _ (nt hl (λd z=>by cases z) cd) hl⟩
refine⟨_,(qB (qO (i:=5) yB.nd (qN yK (qN vZ (pv 4) qG) (qX jC (pv 2) qG (λz z=>rfl)))) (qB (qO (i:=6) yB.nd qG) (qB (qO (i:=7) yB.nd (yP (qA uQ (qA (qFL qCJ qG) qD)))) (qB (qO (i:=8) yB.nd (jF jX (q2C jX (q4L T S).mono hr rfl T.aBY T.aB4 S.aCZ.b .nil (qA (pv 0) (qA (pv 1) (qA (qU (q0L T S).mono hr rfl T.tP T.tQ S.aAQ.b .nil qK (qA (pv 3) qD)) qD)))) T.eO T.tW (zA T S).mono hr S.oF.b .nil (qA (pv 5) qD))) (qB (q4N rT (PW.pt (qA2 (qS zV (qX jO (pv 7) qG (λz z=>rfl)) uQ (qV _)) (q6T (qS q3P (pv 6) qG (qV _))))) (qB (qO (i:=9) yB.nd (jR jS (by rfl) T.aCT dQ (qA (qR (pv 0) T.eQ T.iB (yU T S).mono hr S.iA.b .nil qK) qD))) (qB (qO (i:=10) yB.nd (q2C jX (q4L T S).mono hr rfl T.aBY T.aB4 S.aCZ.b .nil (qA (pv 0) (qA (pv 1) (qA (qU (q0L T S).mono hr rfl T.tP T.tQ S.aAQ.b .nil qK (qA (pv 3) qD)) qD))))) (qB (j8 (j9 (pv 0) T.eQ T.aCA (q59 T S).mono hr S.tH.b .nil qK (qA qG qD))) (qB (qO (i:=7) yB.nd (qU (q8N T S B).mono hr rfl T.aDE T.aDF S.aDP.b .nil qK (qA (pv 10) (qA (pv 2) (qA (pv 4) qD))))) (qB (j8 (qR (pv 0) T.eQ T.aC3 (q63 T S).mono hr S.tY.b .nil qK)) (qB (qO (i:=6) yB.nd (qN uS (pv 6) qG)) (qC (jG (qS zV (qX jO (pv 7) qG (λz z=>rfl)) uQ (qV _)) (qC (jG (qGI (PW.pt (qDG (qS q68 (jR jS (by rfl) T.aCT dQ (qA (qR (pv 0) T.eQ T.iB (yU T S).mono hr S.iA.b .nil qK) qD)) (qN uS (pv 9) qG) (qV _)) (qCG (qS q68 (jF jX (pv 10) T.eO T.tW (zA T S).mono hr S.oF.b .nil (qA (pv 5) qD)) (pv 8) (qV _)))))) (qC (qL (yP (qA uQ (qA (qFL qCJ qG) (qA (pv 6) qD)))))) qT)) qT))))))))) (qC (qL (yP (qA (qX jO (pv 7) qG (λz z=>rfl)) (qA (qX jO (pv 7) qG (λz z=>rfl)) (qA (pv 6) qD))))))))))),?_⟩
try dsimp-beta-proj-iota-zeta-eta only[wishK,cxK]
refine⟨_,rfl,iI ⟨⟨by decide,by decide⟩,_,rfl,lr,_,2,_,rfl,rfl,hS,rfl,iI ⟨(by show 0<sh;lia),?_⟩⟩⟩
try dsimp only
generalize D / 5%sh=n at y1 ⊢
refine⟨_,rfl,sz2,λta H1 n1 s1 h1=>?_⟩
refine⟨_,rfl,_,rfl,_,rfl,ae,rfl,w0,w4,λru H2 s2 al am=>?_⟩
have k1:Keep (t.eL::t.eI::foot c a) H H1:=Keep.same s1
dsimp only[tNil,gP,gM]
refine qAY s2 (hc.same s1) tu.z b4 p3 (tb.same s1) (s1 _ _ aj) al am λx pp Vm H3 pV ec ea hx s3 fr nx=>?_
refine(iM hx.j.o rfl ⟨_,rfl,?_⟩)
dsimp only[tNil,gP,gM]
refine qEP hx y1.1 y1.2 s6 tu.z.t.lf λv H4 rv s4=>?_
have rv:Rdv s0 n v:=rv.vv' pV
have af:=(s2.trans s3).trans s4
have k4:Keep (t.eL::t.eI::foot c a) H H4:=k1.trans (Keep.same af)
have h4:=af _ _ h1
have bh:=hc.same (s1.trans af)
have bp:=tb.same (s1.trans af)
clear hx fr nx ec ea s3 s2 am al s4 af h1 pV k1 s1
obtain⟨F,eF⟩:∃F:Int->Addr->Option V->Option V->St,F=λu ta y9 N=>[some (.ref c),some (.ref tm),some (.ref lr),some (.int ae),some (.int D),some (.int n),some (.int u),some (.ref ta),some v,y9,N]:=⟨_,rfl⟩
obtain⟨J,eJ⟩:∃J:Nat->St->Hp->Prop,J=λm bb H'=>Keep (t.eL::t.eI::foot c a) H H'/\TbF t H'/\((∃u s ta y9 N,bb=F (u:Nat) ta y9 N/\m+u=100/\H' ta=some (.tup [.str "dark",.int (-1)])/\ChX t H' c a s/\Tu k sh sr D (rkO ae) s0 Y w av u s)\/∃ta W y9 N,bb=F (trN s0 Y) ta y9 N/\m=0/\H' ta=some (.tup [.str w,.int av])/\W.Perm Y.s.q.V/\ChX t H' c a (Y.s.vv W)):=⟨_,rfl⟩
refine⟨J,⟨100,by rw[eJ];exact⟨k4,bp,.inl ⟨0,s0,ta,_,_,by rw[eF];rfl,rfl,h4,bh,tu⟩⟩⟩,?_⟩
clear h4 bh bp k4 n1 H1 H2 H3 H4
intro m bb H5 hJ
have a5:=hJ
rw[eJ]at a5
obtain⟨k5,an,⟨u,s,ta,y9,N,bq,em,h5,ab,I⟩|⟨ta,W,y9,N,bq,em,h5,pW,ab⟩⟩:=a5
rotate_left
.rw[eF]at bq;subst bq;refine⟨_,rfl,iT (k:=0) (v:=_) (SqT.of h5) rfl ⟨rfl,_,rfl,?_⟩⟩;rw[show decide (V.str w=V.str "dark")=false from kB λz=>wd (by injection z)];refine iteF (iteF ?_);exact⟨_,rfl,iT (k:=0) (v:=_) (SqT.of h5) rfl ⟨_,rfl,iT (k:=1) (v:=_) (SqT.of h5) rfl ⟨_,rfl,sz3,λtp H6 n6 sx h6=>kk tp W H6 pW (ab.same sx) (an.same sx) h6 (ab.nw an k5 n6) (k5.trans (Keep.same sx))⟩⟩⟩
rw[eF]at bq
subst bq
have bs:=I.eB
have ps:=I.eP
have f1:=(I.few (by rw[bs];exact b4) (by rw[ps];exact p3) ap s6 s5 wd).1
have f2:=(tu.few b4 p3 ap s6 s5 wd).2
have d3:=I.rc
refine⟨_,rfl,iT (k:=0) (v:=_) (SqT.of h5) rfl ⟨rfl,_,rfl,iteT ?_⟩⟩
refine⟨_,rfl,_,_,rfl,rfl,_,rfl,?_⟩
rw[show decide ((u:Int)<60)=true from hC (by lia)]
refine iteT ⟨λbb H'=>∃m',m'<m/\J m' bb H',λ_ _ z=>z,?_⟩
obtain⟨m1,a1,bl,cf⟩:=id ab
refine(iV rfl (iM a1.ins rfl ⟨c,a,m1,rfl,a1,λrs cr ar l H6 n6 sx h6=>?_⟩))
refine⟨l,_,rfl,.inl (SqL.of h6),?_⟩
rw[ar.len,bl.rc]
clear cr ar h6 n6 a1 bl cf
refine⟨_,rfl,_,rfl,_,rfl,ae,rfl,w0,w4,λru H7 s7 al am=>?_⟩
dsimp only[tNil,gP,gM]
have k6:=k5.trans (Keep.same sx)
obtain⟨bm,cg⟩:=lo k6
refine qAY s7 (ab.same sx) I.z (by rw[bs];exact b4) (by rw[ps];exact p3) (an.same sx) (by rw[bs,ps];exact bm) al am λx pp Vm H8 pV ec ea hx s8 fr nx=>?_
obtain⟨m2,ao,_,_,_,_,_,_,_,O⟩:=hx.chip
rw[ec,ea]at ao O
refine(iV rfl (iM ao.ins rfl ⟨c,a,m2,1,rfl,ao,by decide,by decide,λH9 bt k9=>?_⟩))
have bg:=O (some 1) (λi e=>by cases e;decide) H9 bt k9
clear O ao bt
have mG:∀b∈foot c a,b∈t.eL::t.eI::foot c a:=λb hb=>hG _ (hG _ hb)
have k8:=k6.trans (Keep.same (s7.trans s8))
have bc:=k8.trans (k9.mono mG)
obtain⟨_,bj⟩:=lo bc
obtain⟨Z,w',a',hz,hr⟩:=I.once qO5 (by rw[ps];exact p3) ap s6 s5 pV wd
refine⟨_,rfl,_,rfl,_,rfl,?_⟩
dsimp only[tNil,gP,gM]
have cq:((s.vv Vm).wl (some 1)).hl.length<=sr:=by show(s.vv Vm).hl.length<=sr;rw[q82 pV];exact I.z.hd
refine⟨x,k,ru,pp,⟨(s.vv Vm).wl (some 1),.rk (rkO ae),[]⟩,Z,lr,s0.q.B,s0.q.P,sr,e,sh,d,D,a',w',rfl,bj,ap,s6,s5,bg,ev,by show s.rc.length<=900000;lia,m9 _,cq,hz,λtp d4 au a7 cc be=>?_⟩
obtain⟨m3,ah,_,_,_,_,_,_,_,O⟩:=au.chip
rw[ec,ea]at ah O
refine(iV rfl (iM ah.ins rfl ⟨c,a,m3,rfl,ah,λa3 as ag=>?_⟩))
have ad:XX t a3 x k sh sr ru [] pp ⟨Z.s.wl none,Z.g,Z.ps⟩:=O none (λi e=>by cases e) a3 as ag
have a2:=ag.tp _ _ a7
have kC:=(W1.Keep.fr be (λb hb=>(fr b hb).imp id λz=>ab.nw an k5 (sx.free z)) bc).trans (ag.mono mG)
refine⟨_,rfl,iI ?_⟩
refine⟨_,rfl,iT (k:=0) (v:=_) (SqT.of a2) rfl ⟨rfl,_,rfl,?_⟩⟩
have ai:=ad.chX
rw[ec,ea]at ai
have bu:=ad.j.tb
clear bj bm cg a7 cc be ag k9 bg au O as ah
rcases hr with⟨rfl,rfl,⟨W,eW,pW⟩,eu⟩|⟨rfl,rfl,tu',erc'⟩
.rw[show decide (V.str w'=V.str "dark")=false from kB λz=>wd (by injection z)];refine iteF ⟨0,by lia,?_⟩;rw[eJ];exact⟨kC,bu,.inr ⟨tp,W,_,_,by rw[eF,<-eu];rfl,rfl,a2,pW,by rw[<-eW];exact ai⟩⟩
refine iteT ?_
refine⟨λz H'=>z=false/\Same a3 H',?_,?_⟩
.obtain⟨m4,a8,ce,_⟩:=id ai;refine(iV rfl (iM a8.ins rfl ⟨c,a,m4,rfl,a8,λdh cx a0 l4 de eb bd cn=>⟨l4,_,rfl,.inl (SqL.of cn),?_⟩⟩));rw[a0.len,ce.rc];refine⟨_,rfl,iI ⟨rfl,_,rfl,?_⟩⟩;show if(!decide (V.int ((Z.s.rc.length:Nat):Int)=V.int ((s.rc.length:Int)+1)))=true then _ else _;rw[erc',hC (show V.int ((s.rc.length+1:Nat):Int)=V.int ((s.rc.length:Int)+1)from rfl)];refine iteF ?_;have aq:=ad.same bd;refine(iV rfl (iM aq.j.o rfl ⟨_,rfl,?_⟩));dsimp only[tNil,gP,gM];refine qEP aq y1.1 y1.2 s6 rfl λv' dn b7 co=>?_;have:v'=v:=b7.eq tu'.z.t.x.w (tu'.rdv (G6 n y1.1 y1.2) rv);subst this;refine⟨_,rfl,?_⟩;rcases rv with⟨_,rfl⟩|⟨_,_,_,rfl⟩<;>exact⟨rfl,_,rfl,by simp,bd.trans co⟩
rintro z H' ⟨rfl,s'⟩
refine iteF ⟨m-1,by lia,?_⟩
rw[eJ]
exact⟨kC.trans (Keep.same s'),bu.same s',.inl ⟨u+1,_,tp,_,_,by rw[eF];rfl,by lia,s' _ _ a2,ai.same s',tu'⟩⟩)
noncomputable def RE(H H':Hp):Prop:=∀b o,(∀ps,o≠ .tbl ps)->H b=some o->H' b=some o
theorem RE.keep{F:List Addr}(r:RE H Hi)(k:Keep F Hi Hj)(f:∀b∈F,H b=none\/∃ps,H b=some (.tbl ps)):RE H Hj:=λb o nb e=>k.k b o (λz=>by
 rcases f b z with z|⟨ps,z⟩
 .lia
 rw[z]at e;exact nb ps (kU e).symm) (r b o nb e)
theorem RE.same(r:RE H Hi)(s:Same Hi Hj):RE H Hj:=λb o nb e=>s b o (r b o nb e)
theorem RE.sq(r:RE H Hi)(h:SqL K H sa xs):SqL K Hi sa xs:=by(
rcases h with(h|⟨ob,h⟩)|h
.exact .inl (.inl (r _ _ (λd z=>by cases z) h))
.exact .inl (.inr ⟨ob,r _ _ (λd z=>by cases z) h⟩)
exact .inr h)
theorem qKL{a b:Addr}(ha:H a=some (.lst rs))(hb:H b=some (.lst us))(ra:Recd H rs ds)(rb:Recd H us ds):Eqv K H 6 (.ref a) (.ref b):=by(
refine .lst (SqL.of ha) (SqL.of hb) (by rw[ra.len,rb.len]) λi x y J O=>?_
obtain⟨d,N,p,rfl,I⟩:=Paired.at ra J
obtain⟨Z,z,S,rfl,D⟩:=Paired.at rb O
rw[N]at z
cases z
exact q9N (SqT.of I) (SqT.of D) (by simp[zW]))
theorem qKM{c:Addr}{a:CA}{k:Tm}{B P:Nat}(hc:ChipAt t.bw H c a (CM.new (B:Int) (P:Int) 1000000 []))(b1:2<=B)(b2:B<=16)(p1:1<=P)(p2:P<=16)(w:WX k (newX B P)):ChX t H c a (newX B P):=by(
have z:(CM.new (B) (P) 1000000 []).Ok:=qGH (by lia) (by lia) (by lia) (by lia) (λb v e=>by cases e)
have d:(CM.new (B) (P) 1000000 []).br=noB B:=by rfl
refine⟨_,hc,⟨⟨z,w.qs.ok,rfl,rfl,d⟩,d,λb=>rfl,rfl,?_,rfl,rfl⟩,λi Z=>rep8,λi v e=>by cases e⟩
rfl)
theorem HeldIs.vv{s:XS}{V:Mp}{ns:List Int}(h:HeldIs (s.vv V).q ns)(pm:V.Perm s.q.V):HeldIs s.q ns:=⟨h.pm.trans ((pm.map _).filter _),h.so⟩
theorem qMZ(T:tXx)(S:tFf)(B:BmIn base mg):S.law.Ok0 P w mg base 20 (q5N K [t.eI,t.eL]):=by(
refine S.law.F.ok0 vP λhg A _ s H vs Q E J h=>?_
obtain⟨a,ns,rfl,hS,gk,dr,k⟩:=h
have hT:H t.eI=some (.tbl #[]):=dr _ (by simp)
have ac:H t.eL=some (.tbl #[]):=dr _ (by simp)
have hu:=q6C J
refine⟨_,(qB (qO (i:=1) vP.nd (qU (q67 T S).mono J rfl T.aCC T.aB9 S.tS.b .nil qK (qA (qU (q34 T S).mono J rfl T.aAY T.aAW S.tV.b .nil qK (qA (pv 0) (qA qG qD))) qD))) (qB (qO (i:=2) vP.nd (qN yK (qU (q34 T S).mono J rfl T.aAY T.aAW S.tV.b .nil qK (qA (pv 0) (qA qG qD))) qG)) (qB (qO (i:=3) vP.nd (q4P T.aFO (q8Z T S).mono J rfl T.aFM S.aD7 .nil qK (qA (qX jC (pv 1) qG (λz z=>rfl)) (qA (qX jC (pv 1) qG (λz z=>rfl)) (qA (qX jC (pv 1) qG (λz z=>rfl)) (qA (qX jC (pv 1) qG (λz z=>rfl)) (qA (qX jC (pv 1) qG (λz z=>rfl)) (qA (qX jC (pv 1) qG (λz z=>rfl)) qD)))))))) (qB (qO (i:=4) vP.nd (q4P T.aE3 (q5A T S).mono J rfl T.aE6 S.aBI S.aBN qK (qA (qX jC (pv 1) qG (λz z=>rfl)) (qA (qX jC (pv 1) qG (λz z=>rfl)) qD)))) (qB (qO (i:=5) vP.nd (q4P T.aE3 (q5A T S).mono J rfl T.aE6 S.aBI S.aBN qK (qA (qX jC (pv 1) qG (λz z=>rfl)) (qA (qX jC (pv 1) qG (λz z=>rfl)) qD)))) (qB (qO (i:=6) vP.nd (qBE jX T.aFF (q3T T S).mono J rfl T.aFD S.aAR.b .nil (qA (pv 4) (qA (pv 3) (qA (qU (q0L T S).mono J rfl T.tP T.tQ S.aAQ.b .nil qK (qA (pv 2) qD)) qD))))) (qB (vS rT rfl (q97 rfl T.aBX (qA qG (qA (jR (qEU rfl) (by rfl) T.aFW (by kernel_rfl) (qA (jR jS (by rfl) T.aCT dQ (qA (pv 0) qD)) (qA qG qD))) qD))) (jE (i:=7) vP.nd) (qB (qO (i:=8) vP.nd (jR jS (by rfl) T.aCT dQ (qA (qR (pv 4) T.eQ T.iB (yU T S).mono J S.iA.b .nil qK) qD))) (qB (qO (i:=9) vP.nd (qU (q8N T S B).mono J rfl T.aDE T.aDF S.aDP.b .nil qK (qA (pv 6) (qA (pv 1) (qA (qX jC (pv 0) (pv 7) (λz z=>rfl)) qD))))) (qB (qO (i:=10) vP.nd (qU (qAZ T S B).mono J rfl T.aD5 T.aD0 S.aCR.b .nil qK (qA (pv 5) (qA (pv 3) (qA (pv 1) (qA (pv 2) (qA (qX jC (pv 0) (pv 7) (λz z=>rfl)) qD))))))) (qB (qO (i:=11) vP.nd (qN yC (jR jS (by rfl) T.aCT dQ (qA (qR (pv 4) T.eQ T.iB (yU T S).mono J S.iA.b .nil qK) qD)) (pv 8))) (qC (jG (qGI (PW.pt (qDG (qS (qGM J.units) (qFZ qLI (pv 10) qIN (qIO qG)) (pv 9) (qV _)) (qDG (qS q68 (qX jO (pv 10) qG (λz z=>rfl)) (jR (q98 rfl) (by rfl) T.aFZ (by kernel_rfl) (qA qG (qA (pv 11) qD))) (qV _)) (qCG (qS (qGM J.units) (qR (pv 4) T.eQ T.iB (yU T S).mono J S.iA.b .nil qK) (qR (pv 5) T.eQ T.iB (yU T S).mono J S.iA.b .nil qK) (qV _))))))) (qC (qL q7A)) qT))))))) (qB (qO (i:=12) vP.nd (q2C jX (q4L T S).mono J rfl T.aBY T.aB4 S.aCZ.b .nil (qA (pv 5) (qA (pv 3) (qA (qU (q0L T S).mono J rfl T.tP T.tQ S.aAQ.b .nil qK (qA (pv 2) qD)) qD))))) (qB (vS rT rfl (q39 rfl T.aBX (qA (qX jC (pv 1) qG (λz z=>rfl)) qD)) (jE (i:=13) vP.nd) (qC (jG (qS q68 (jF jX (pv 6) T.eO T.tW (zA T S).mono J S.oF.b .nil (qA (pv 13) qD)) (jF jX (pv 12) T.eO T.tW (zA T S).mono J S.oF.b .nil (qA (pv 13) qD)) (qV _)) (qC (qL q7A)) qT))) (qC (qL (v9 (qMB J.units) (qR (pv 6) T.eO T.iS (yV T S).mono J S.f9.b .nil qK) (qR (pv 12) T.eO T.iS (yV T S).mono J S.f9.b .nil qK) (qV _))))))))))))),?_⟩
try dsimp-beta-proj-iota-zeta-eta only[wishK,cxK]
refine⟨_,rfl,a,ns,0,rfl,hS,by decide,_,rfl,λB' P' sr e s' d I l0 H1 n0 s1 h1=>?_⟩
have b1:=I.b1
have b2:=I.b2
have p1:=I.p1
have p2:=I.p2
have e1:=I.e1
have r1:=I.r1
have r2:=I.r2
have r3:=I.r3
have g1:=I.s1
have g2:=I.s2
have ag:=SqL.of (K:=K) h1
refine⟨_,rfl,a,ns,1,rfl,s1.seq hS,by decide,_,_,rfl,rfl,(by show(0:Int)<4;decide),?_⟩
try dsimp only
obtain⟨w0,w4⟩:=uT (q3V ns 1) 4 (by decide)
generalize q3V ns 1%4=way at w0 w4 ⊢
refine⟨_,rfl,l0,_,0,_,rfl,rfl,ag,rfl,_,rfl,l0,_,1,_,rfl,rfl,ag,rfl,_,rfl,l0,_,2,_,rfl,rfl,ag,rfl,_,rfl,l0,_,3,_,rfl,rfl,ag,rfl,_,rfl,l0,_,4,_,rfl,rfl,ag,rfl,_,rfl,l0,_,5,_,rfl,rfl,ag,rfl,?_⟩
dsimp only[tNil,gP,gM]
have ew:(B':Int)-1-(e:Int)=((B'-(1+e):Nat):Int):=by lia
refine qO0 (by lia) (by lia) (by lia) (by lia) (by lia) (by lia) (by lia) (by rw[ew,<-dS];lia) (by lia) (by lia) I.d1 I.d2 ?_
intro tm td H2 s2 ap
have bv:=SqL.of (K:=K) (s2 _ _ h1)
refine⟨_,rfl,l0,_,0,_,rfl,rfl,bv,rfl,_,rfl,l0,_,1,_,rfl,rfl,bv,rfl,?_⟩
dsimp only[tNil,gP,gM]
refine qKZ (by lia) (by lia) (by lia) (by lia) (by decide) (by decide) ?_
refine λch ca H3 hc s3 fC=>?_
have b6:=SqL.of (K:=K) (s3 _ _ (s2 _ _ h1))
refine⟨_,rfl,l0,_,0,_,rfl,rfl,b6,rfl,_,rfl,l0,_,1,_,rfl,rfl,b6,rfl,?_⟩
dsimp only[tNil,gP,gM]
refine qKZ (by lia) (by lia) (by lia) (by lia) (by decide) (by decide) ?_
refine λco cb H4 ho s4 fO=>?_
refine⟨_,rfl,_,rfl,_,rfl,way,rfl,w0,w4,λru H5 s5 ar hR=>?_⟩
refine λsA sd nA cz nn=>?_
have sM:Same H5 (upd (upd H5 sd (.own sA)) sA (.ins t.ck sd [])):=q0H nA cz
dsimp only[tNil,gP,gM]
have Z:=((s1.trans s2).trans s3).trans s4
have dp:=s4.trans s5
have b0:TbF t H5:=⟨#[],s5 _ _ (Z _ _ hT),.inl rfl,#[],s5 _ _ (Z _ _ ac),.inl rfl⟩
have az:=s5 _ _ (s4 _ _ (s3 _ _ ap))
have db:=hc.same dp
have dh:=ho.same s5
refine⟨sA,sd,tm,td,ch,ca,_,_,_,_,.ref ru,_,B',P',rfl,qI,sM _ _ az,db.same sM,λz=>(z ⟨rfl,rfl⟩).elim,λ_ _=>⟨by lia,b0.same sM,λkb pp H9 ce di da fk off up=>⟨rfl,?_⟩⟩⟩
have ah:Same H5 H9:=λb o e=>up b o (qH e nA) (sM b o e)
have O:H5 pp=none:=Same.free sM da
have a5:∀b∈bf kb,H5 b=none:=λb N=>Same.free sM (fk b N)
obtain⟨_,_,_,bo⟩:=hR.ins
obtain⟨kt,af⟩:∃kt:Tm,kt=⟨e,d,true⟩:=⟨_,rfl⟩
have y0:R8 kt s' sr ⟨newX B' P',.rk (rkO way),[]⟩ 0:=R8.new (by lia) p1 (by lia) (by rw[af];show 1+e<B';lia) (by rw[af];exact I.d1) trivial (by rw[af];exact r2) (by lia) (by lia)
obtain⟨X,eX⟩:∃X:Sto,X=⟨sA,sd,tm,td,ch,ca,kb,.ref ru,.ref pp⟩:=⟨_,rfl⟩
have of:Off t X [ru]:=by rw[eX];exact qIH (hc.same s4) (s4 _ _ (s3 _ _ ap)) (Z _ _ hT) (Z _ _ ac) (λu hu=>by rw[kE.mp hu];exact ar) (λu hu=>by rw[kE.mp hu];exact⟨_,bo⟩) nA sM fk
rw[<-eX]at ce off
have be:XX t H9 X kt s' (sr:Int) ru [] pp ⟨newX B' P',.rk (rkO way),[]⟩:=qMY (by rw[af];exact ce) (by rw[eX]) (hR.keep (Keep.same ah) (F:=[]) (by simp)) of (by rw[eX]) di off (λz=>by rw[kE.mp z,bo]at O;cases O) (by lia) (by lia) p1 (by lia) y0.x.w
have bc:ChX t H9 co cb (newX B' P'):=qKM (dh.same ah) (by lia) (by lia) p1 (by lia) y0.x.w
have D:∀{Ha Hb:Hp} {b:Addr} {o:HO},Same Ha Hb->Hb b=none->Ha b=some o->False:=λs n q=>by rw[s _ _ q]at n;cases n
have a4:∀b∈cb.li::foot co cb,(∃o,H4 b=some o)/\H3 b=none:=λb N=>⟨by obtain⟨o,q,_⟩:=ho.has N;exact⟨o,q⟩,fO b N⟩
have al:∀b∈ca.li::foot ch ca,(∃o,H3 b=some o)/\H2 b=none:=λb N=>⟨by obtain⟨o,q,_⟩:=hc.has N;exact⟨o,q⟩,fC b N⟩
have D1:∀b∈cb.li::foot co cb,b∉fx t X ru pp:=λb N z=>by
 obtain⟨⟨o,q⟩,n⟩:=a4 b N;rw[eX]at z;have z:b=pp\/b=ru\/b=t.eL\/b=t.eI\/b∈foot ch ca\/b∈bf kb:=by simpa[sf]using z
 rcases z with z|z|z|z|z|z
 .exact D s5 (z▸O) q
 .exact D (Same.refl _) (z▸ar) q
 .exact D ((s1.trans s2).trans s3) (z▸n) ac
 .exact D ((s1.trans s2).trans s3) (z▸n) hT
 .obtain⟨⟨o',q'⟩,_⟩:=al b (hG _ z);exact D (Same.refl _) n q'
 exact D s5 (a5 b z) q
have D2:∀b∈pp::ru::[]++([X.s,X.tm]++(X.a.li::sf X)),b∉t.eL::t.eI::foot co cb:=λb N=>by
 rw[eX]at N;have N:b=pp\/b=ru\/b=sA\/b=tm\/b=ca.li\/b∈foot ch ca\/b∈bf kb:=by simpa[sf]using N
 have nn:H5 b=none\/H4 b=none\/b=tm\/b∈ca.li::foot ch ca:=by
  rcases N with z|z|z|z|z|z|z
  .exact .inl (z▸O)
  .exact .inr (.inl (z▸ar))
  .exact .inl (z▸nA)
  .exact .inr (.inr (.inl z))
  .exact .inr (.inr (.inr (by simp[z])))
  .exact .inr (.inr (.inr (by simp[z])))
  exact .inl (a5 b z)
 intro z;have dq:∀{o},H4 b=some o->(b=tm->False)->(b∈ca.li::foot ch ca->False)->False:=fun {o} q t1 t2=>by
  rcases nn with n|n|n|n
  .exact D s5 n q
  .exact D (Same.refl _) n q
  .exact t1 n
  exact t2 n
 have c2:∀{T:Addr},H T=some (.tbl #[])->b=T->False:=fun {T} hh e=>by subst e;refine dq (Z _ _ hh) (λq=>?_) λq=>D (s1.trans s2) (al b q).2 hh;have:=s2 _ _ (s1 _ _ hh);rw[q,ap]at this;cases this
 rcases kM.mp z with z|z
 .exact c2 ac z
 rcases kM.mp z with z|z
 .exact c2 hT z
 obtain⟨⟨o,q⟩,n⟩:=a4 b (hG _ z);refine dq q (λw=>?_) λw=>?_
 .rw[w]at n;exact D s3 n ap
 obtain⟨⟨o',q'⟩,_⟩:=al b w;exact D (Same.refl _) n q'
have a6:=s3.trans s4
have nF:∀{b:Addr} {o:HO},H2 b=some o->(∀ps,o≠ .tbl ps)->b∉fx t X ru pp/\b∉t.eL::t.eI::foot co cb:=fun {b o} q nt=>by
 refine⟨λz=>?_,λz=>?_⟩;rotate_left
 .rcases kM.mp z with z|z
  .rw[z,s2 _ _ (s1 _ _ ac)]at q;exact nt _ (kU q).symm
  rcases kM.mp z with z|z
  .rw[z,s2 _ _ (s1 _ _ hT)]at q;exact nt _ (kU q).symm
  exact D s3 (a4 b (hG _ z)).2 q
 rw[eX]at z;have z:b=pp\/b=ru\/b=t.eL\/b=t.eI\/b∈foot ch ca\/b∈bf kb:=by simpa[sf]using z
 rcases z with z|z|z|z|z|z
 .exact D (a6.trans s5) (z▸O) q
 .exact D a6 (z▸ar) q
 .rw[z,s2 _ _ (s1 _ _ ac)]at q;exact nt _ (kU q).symm
 .rw[z,s2 _ _ (s1 _ _ hT)]at q;exact nt _ (kU q).symm
 .exact D (Same.refl _) (al b (hG _ z)).2 q
 exact D (a6.trans s5) (a5 b z) q
obtain⟨e9,dk⟩:=nF (s2 _ _ h1) (λd z=>by cases z)
obtain⟨e3,dn⟩:=nF ap (λd z=>by cases z)
have e5:∀b∈fx t X ru pp,H b=none\/∃ps,H b=some (.tbl ps):=λb N=>by
 rw[eX]at N;have N:b=pp\/b=ru\/b=t.eL\/b=t.eI\/b∈foot ch ca\/b∈bf kb:=by simpa[sf]using N
 rcases N with z|z|z|z|z|z
 .exact .inl (z▸(Z.trans s5).free O)
 .exact .inl (z▸Z.free ar)
 .exact .inr ⟨_,z▸ac⟩
 .exact .inr ⟨_,z▸hT⟩
 .exact .inl ((s1.trans s2).free (al b (hG _ z)).2)
 exact .inl ((Z.trans s5).free (a5 b z))
have fy:∀b∈t.eL::t.eI::foot co cb,H b=none\/∃ps,H b=some (.tbl ps):=λb N=>by
 rcases kM.mp N with z|z
 .exact .inr ⟨_,z▸ac⟩
 rcases kM.mp z with z|z
 .exact .inr ⟨_,z▸hT⟩
 exact .inl (((s1.trans s2).trans s3).free (a4 b (hG _ z)).2)
have bz:=ah _ _ (s5 _ _ (a6 _ _ (s2 _ _ h1)))
have bp:=ah _ _ az
have bh:RE H H9:=λb o _ q=>ah _ _ (s5 _ _ (Z b o q))
have ev:kt.ev=true:=by rw[af]
have dv:=b0.same ah
have et:t.dj=t.dj:=rfl
rw[show sA=X.s by rw[eX],show ch=X.c by rw[eX]]
clear et ce off di da fk up sM cz nn nA O a5 bo hR of eX a4 al D nF a6 ah Z dp b0 az db dh ar s5 s4 s3 s2 s1 fO fC hc ho ap h1 ag bv b6 n0 ew hT ac
generalize hx0:newX B' P'=x0 at be y0 bc
have fb:x0.q.B=B':=by rw[<-hx0];rfl
have fe:x0.q.P=P':=by rw[<-hx0];rfl
clear hx0
obtain⟨F,eF⟩:∃F:Option V->Option V->Option V->Option V->Option V->Option V->Option V->St,F=λy7 y8 y9 an au ff ax=>[some (.ref a),some (.ref l0),some (.int way),some (.ref tm),some (.ref X.c),some (.ref co),some (.ref X.s),y7,y8,y9,an,au,ff,ax]:=⟨_,rfl⟩
refine⟨_,rfl,a,_,rfl,.inl (bh.sq hS),_,_,rfl,?_⟩
obtain⟨hi,eh,hm,gx⟩:∃h:Nat,(if(22:Int)<((ns.map V.int).length:Nat)then(22:Int)else((ns.map V.int).length:Nat))=(h:Int)/\h<=22/\h<=ns.length:=by
 rw[kI];by_cases z:(22:Int)<(ns.length:Nat)
 .exact⟨22,kD z,by lia,by lia⟩
 exact⟨ns.length,hU z,by lia,by lia⟩
rw[eh]
refine⟨_,_,rfl,⟨by decide,by decide,by lia,by lia⟩,?_⟩
refine q81 (λu bu H'=>∃y7 y8 y9 an au Y,∃W:Mp,bu=F y7 y8 y9 an au none none/\XX t H' X kt s' (sr:Int) ru [] pp Y/\R8 kt s' sr Y u/\Y.g=.rk (rkO way)/\W.Perm Y.s.q.V/\ChX t H' co cb (Y.s.vv W)/\Y.s.q.B=B'/\Y.s.q.P=P'/\H' l0=some (.lst (rwL B' P' s' sr e d))/\H' tm=some (.ins t.dj td (teF (.int (B':Int)) (.int (P':Int)) (.int s') (.int (sr:Int)) (.int (e:Int)) (.int d)))/\RE H H') ⟨_,_,_,_,_,_,_,by rw[eF];rfl,be,y0,rfl,sX _,bc,fb,fe,bz,bp,bh⟩ (λu bu H3 D' cd ct hp=>?_) (λbu H3 hp=>?_)
.obtain⟨y7,y8,y9,an,au,Y,W,dw,hx,h8,eg,pW,hO,eB,eP,hl,ht,rt⟩:=hp;rw[eF]at dw;subst dw;clear be y0 bc bz bp bh dv;have fp:2+u<ns.length:=by lia
 have bt:atI (ns.map V.int) (2+(u:Int))=some (.int ns[2+u]):=by refine(show atI (ns.map V.int) ((2+u:Nat):Int)=_ from zO ?_);rw[mM,kL fp];rfl
 generalize ns[2+u]=z at bt;have h0:=h8.rcn;have gw:=h8.psn;obtain⟨m1,b5,_,_,bn,_⟩:=hx.chip;refine(iV rfl (iM b5.ins rfl ⟨X.c,X.a,m1,rfl,b5,λrs f4 bl l H4 n4 s4 h4=>⟨l,_,rfl,.inl (SqL.of h4),?_⟩⟩));rw[bl.len,bn];clear f4 bl h4 n4 b5 bn;obtain⟨Y2,w2,av,ak,wd,e6,fv,ep,fn⟩:=h8.ak (by lia) eg z;refine⟨_,rfl,_,rfl,_,rfl,_,rfl,a,_,_,.int z,rfl,rfl,(rt.same s4).sq hS,bt,?_⟩;dsimp only[tNil,gP,gM];refine⟨X,kt,ru,pp,Y,Y2,l0,B',P',sr,e,s',d,z,av,w2,rfl,s4 _ _ hl,by lia,by lia,by lia,hx.same s4,ev,by lia,by lia,by rw[q2J];exact h8.hd,ak,λtp H5 am h5 n5 k5=>?_⟩;have d3:=(hO.same s4).keep k5 D1;have b3:=k5.k _ _ e9 (s4 _ _ hl);have bx:=k5.k _ _ e3 (s4 _ _ ht);have bq:=(rt.same s4).keep k5 e5;refine⟨_,rfl,_,rfl,_,rfl,_,rfl,_,rfl,_,rfl,a,_,_,.int z,rfl,rfl,bq.sq hS,bt,?_⟩;dsimp only[tNil,gP,gM];refine⟨co,cb,tm,td,l0,sr,e,s',d,Y.s.vv W,Y2,kt,way,z,av,w2,rfl,w0,w4,?_,?_,af,?_,d3,am.j.tb,wd,h8.tu eg pW ak wd,by show Y.s.rc.length<=700000;lia,λq=>dn (hG _ (hG _ q)),λq=>dk (hG _ (hG _ q)),λtq W2 H6 er cu e4 h6 n6 k6=>?_⟩
 .show H5 l0=some (.lst (rwL Y.s.q.B Y.s.q.P s' sr e d));rw[eB,eP];exact b3
 .show Rwt Y.s.q.B Y.s.q.P s' sr e d;rw[eB,eP];exact I
 .show H5 tm=some (.ins t.dj td (teF (.int (Y.s.q.B:Int)) (.int (Y.s.q.P:Int)) (.int s') (.int (sr:Int)) (.int (e:Int)) (.int d)));rw[eB,eP];exact bx
 have ai:=am.other k6 D2 e4;have fl:=k6.k _ _ dk b3;have fu:=k6.k _ _ dn bx;have fz:=bq.keep k6 fy;have fc:=k6.tp _ _ h5;clear am d3 b3 bx bq hx hO hl ht rt k5 k6 h5 n5 n6;obtain⟨m3,br,_,_,bi,_⟩:=ai.chip;refine(iV rfl (iM br.ins rfl ⟨X.c,X.a,m3,rfl,br,λgl d0 bj l3 H7 n7 s7 h7=>⟨l3,_,rfl,.inl (SqL.of h7),_,rfl,iI ?_⟩⟩));rw[bj.len,bi];clear d0 bj h7 n7 br bi;refine⟨λz H'=>z=false/\Same H7 H',?_,?_⟩
 .refine⟨_,rfl,_,rfl,tq,_,rfl,SqT.of (s7 _ _ h6),?_,λp np=>?_⟩
  .show ¬(HT.sIx 3 0 none=0/\HT.sIx 3 3 (some 2)=3);decide
  have sp:Same H7 (upd H7 p (.tup (cutV [.str w2,.int av,.int (trN (Y.s.vv W) Y2)] none (some 2)))):=Same.upd np;have hp:(upd H7 p (.tup (cutV [.str w2,.int av,.int (trN (Y.s.vv W) Y2)] none (some 2)))) p=some (.tup [.str w2,.int av]):=qI;generalize upd H7 p (.tup (cutV [.str w2,.int av,.int (trN (Y.s.vv W) Y2)] none (some 2)))=H8 at sp hp ⊢;refine⟨_,rfl,q9N (n:=5) (SqT.of hp) (SqT.of (sp _ _ (s7 _ _ fc))) (by simp[zW]),_,rfl,iteF ?_⟩;refine⟨_,rfl,iT (k:=2) (v:=_) (SqT.of (sp _ _ (s7 _ _ h6))) rfl ⟨_,rfl,1,_,rfl,rfl,_,rfl,?_⟩⟩;show if(!decide (V.int (trN (Y.s.vv W) Y2)=V.int (trN (Y.s.vv W) Y2)))=true then _ else _;rw[hC rfl];refine iteF ?_;have c1:=s7.trans sp;obtain⟨mA,dl,_,_,dd,_⟩:=(ai.same c1).chip;refine(iV rfl (iM dl.ins rfl ⟨X.c,X.a,mA,rfl,dl,λra ib dg la H9 n9 s9 h9=>?_⟩));obtain⟨mB,c6,cc,_⟩:=cu.same (c1.trans s9);refine(iV rfl (iM c6.ins rfl ⟨co,cb,mB,rfl,c6,λrb gn dz lb ic gt bd e0=>?_⟩));have sm:∀{Ha Hb:Hp} {us:List V} {ds:List (Str×Int×Bool)},Same Ha Hb->Recd Ha us ds->Recd Hb us ds:=λss r=>Paired.mapP r λv d ⟨p',e',h'⟩=>⟨p',e',ss _ _ h'⟩;exact⟨qKL (ds:=Y2.s.rc) (bd _ _ h9) e0 (sm (s9.trans bd) (by rw[<-dd];exact dg)) (sm bd (by rw[show Y2.s.rc=mB.rc from cc.rc.symm];exact dz)),_,rfl,rfl,(sp.trans s9).trans bd⟩
 rintro z H' ⟨rfl,s'⟩
 have sa:=s7.trans s';exact iteF (cd _ _ ⟨_,_,_,_,_,Y2,W2,by rw[eF];rfl,ai.same sa,e6,fn,er,cu.same sa,fv.trans eB,ep.trans eP,sa _ _ fl,sa _ _ fu,fz.same sa⟩)
obtain⟨y7,y8,y9,an,au,Y,W,dw,hx,h8,eg,pW,hO,eB,eP,hl,ht,rt⟩:=hp
rw[eF]at dw
subst dw
clear be y0 bc bz bp bh dv
refine⟨_,rfl,_,rfl,_,rfl,way,rfl,w0,w4,λez H4 s4 cw c0=>?_⟩
dsimp only[tNil,gP,gM]
have dc:H3 tm=some (.ins t.dj td (teF (.int ((Y.s.vv W).q.B:Int)) (.int ((Y.s.vv W).q.P:Int)) (.int s') (.int (sr:Int)) (.int (kt.ie:Int)) (.int kt.sp))):=by rw[af];show H3 tm=some (.ins t.dj td (teF (.int (Y.s.q.B:Int)) (.int (Y.s.q.P:Int)) (.int s') (.int (sr:Int)) (.int (e:Int)) (.int d)));rw[eB,eP];exact ht
refine qAY s4 hO (h8.tz pW) (by show Y.s.q.B<=4;rw[eB];exact b2) (by show Y.s.q.P<=3;rw[eP];exact p2) hx.j.tb dc cw c0 λx2 f0 V2 H5 cv _ _ bg s5 _ _=>?_
have bg:XX t H5 x2 kt s' (sr:Int) ez [] f0 ⟨Y.s.vv V2,.rk (rkO way),[]⟩:=bg
have pV:V2.Perm Y.s.q.V:=cv.trans pW
have am:=hx.same (s4.trans s5)
have e2:=SqL.of (K:=K) (s5 _ _ (s4 _ _ hl))
clear hx hO hl ht rt dc cw c0 s4 s5 cv
refine⟨_,rfl,l0,_,2,_,rfl,rfl,e2,rfl,?_⟩
refine⟨_,rfl,by show-(2 ^ 62)<=s';lia,by show s'<2 ^ 62;lia,?_⟩
obtain⟨sn,es⟩:∃n:Nat,s'=(n:Int):=⟨s'.toNat,by lia⟩
refine q81 (λu bu H'=>∃ax,bu=[some (.ref a),some (.ref l0),some (.int way),some (.ref tm),some (.ref X.c),some (.ref co),some (.ref X.s),y7,y8,y9,an,au,some (.ref x2.s),ax]/\Same H5 H') ⟨_,rfl,Same.refl _⟩ (λu bu H6 D' cd ct hp=>?_) (λbu H6 hp=>?_)
.obtain⟨ax,rfl,s6⟩:=hp;have hw:u<s'.toNat:=ct;have m0:(0:Int)<=0+(u:Int):=by lia
 have m1:0+(u:Int)<s':=by lia
 have dm:s'<=64:=by lia
 have ai:=am.same s6;refine(iV rfl (iM ai.j.o rfl ⟨_,rfl,?_⟩));dsimp only[tNil,gP,gM];refine qEP ai m0 m1 dm h8.lf λv H7 rv s7=>?_;have cy:=bg.same (s6.trans s7);refine(iV rfl (iM cy.j.o rfl ⟨_,rfl,?_⟩));dsimp only[tNil,gP,gM];refine qEP cy m0 m1 dm h8.lf λv' H8 eo s8=>?_;have:v'=v:=(eo.vv' pV).eq h8.x.w rv;subst this;rcases rv with⟨_,rfl⟩|⟨_,_,_,rfl⟩<;>exact⟨rfl,_,rfl,by rw[hU (by simp)];exact cd _ _ ⟨_,rfl,(s6.trans s7).trans s8⟩⟩
obtain⟨ax,rfl,s6⟩:=hp
have hd:=h8.hd
obtain⟨mA,du,f5,_⟩:=(am.same s6).j.e
refine(iV rfl (iM du.o rfl ⟨X,_,_,_,_,mA,Y.s.q,rfl,du,f5.ft,by lia,λla ma H7 fh s7 na ha=>?_⟩))
obtain⟨mB,df,cc,_⟩:=(bg.same (s6.trans s7)).j.e
have lV:=(pV.map (λy:Int×Int=>y.1)).filter (λn=>decide (n≠64))
refine(iV rfl (iM df.o rfl ⟨x2,_,_,_,_,mB,(Y.s.vv V2).q,rfl,df,cc.ft,by have:(hdN V2).length=(hdN Y.s.q.V).length:=lV.length_eq;show(hdN V2).length<64;lia,λlb mb H8 f1 s8 nb N=>?_⟩))
have:mb=ma:=(f1.vv pV).one fh
subst this
refine⟨.lst (n:=5) (SqL.of (s8 _ _ ha)) (SqL.of N) rfl λi x y hx hy=>?_,k H8⟩
obtain rfl:x=y:=kU (hx.symm.trans hy)
rw[mM]at hx
obtain⟨z,_,rfl⟩:=mH.mp hx
exact .flat rfl)
theorem qN0{P:Program}{w:World}{K:W.Frag}{mg:Str->Option Value}{t:Adr}(T:Txt K mg t)(S:Fns K t)(B:BmIn base mg):S.law.Ok0 P w mg base 20 (q5N K [t.eI,t.eL]):=nG λn=>by
 have hs:hkB hkE:=by unfold hkE;exact Classical.epsilon_spec ⟨⟨P,w,K,mg,t⟩,S,base,T,B,n⟩
 obtain⟨S',b',T',B1,n'⟩:=hs;exact n' (qMZ T' S' B1)
end
theorem qN1{l:W.OpenLaw}{w:World}{K:W.Frag}{mg:Str->Option Value}{t:Adr}(X:K.In h)(G:h.Ns mainGlobals mg)(hfa:mg "law"=some (.ref fa))(T:Txt K mg t)(z436:W.nsIn K mainGlobals "law"=some (some (.ref t.pj)))(U:Fn9 K t)
 (z358:K.lookup t.hV=some ⟨z115,z112,.func (W.fnOf "free" "Plain.free" (yH jW) (jV jW) (qF jW) .none z116 z117 z118 z113 (.ref t.aB8) z120),z114⟩)
 (z359:W.codeIn K (.ref t.aB8) "Plain.free"=true)
 (z386:K.lookup t.ia=some ⟨z127,z124,.func (W.fnOf "block_to_change" "Even.block_to_change" (yH qW) (jV qW) (qF qW) .none z128 z129 z130 z125 (.ref t.iQ) z132),z126⟩)
 (z387:W.codeIn K (.ref t.iQ) "Even.block_to_change"=true)
 (z401:K.lookup t.ip=some ⟨z139,z136,.func (W.fnOf "__init__" "Chip.__init__" (yH v5) (jV v5) (qF v5) (.ref z110) z140 z141 z142 z137 z143 z144),z138⟩)
 (z402:W.codeIn K z143 "Chip.__init__"=true)
 (z403:K.lookup z110=some ⟨.type "tuple",z145,.seq #[.int 1000000 e0_Chip_init,.none] z146,z147⟩)
 (z426:K.lookup t.iy=some ⟨z151,z148,.func (W.fnOf "__init__" "Terms.__init__" (yH uC) (jV uC) (qF uC) (.ref z111) z152 z153 z154 z149 z155 z156),z150⟩)
 (z427:W.codeIn K z155 "Terms.__init__"=true)
 (z428:K.lookup z111=some ⟨.type "tuple",z157,.seq #[.int 0 e0_Terms_init,.int 1000000 e1_Terms_init] z158,z159⟩):
 ∃fd:FuncData,(∀(s:Shared) (v:Value),BindsTo s fd ⟨[v],[]⟩ [("_law_script",v)])/\∀base:Heap,K.In base->base.Ns mainGlobals mg->BmIn base mg->FnOk l.prog w K mg base (CX0) 20 fa fd ["_law_script"] (q5N K [t.eI,t.eL]):=by(
have e:=hfa.symm.trans (gY X G z436)
cases e
let S:Fns K t:=⟨U,_,FunT.mk' (st:=jW) z358 z359,jT.all λus hl=>by rw[lnx hl];rfl,_,FunT.mk' (st:=qW) z386 z387,jT.all λus hl=>by rw[lnx hl];rfl,_,(.ref z110),FunD.mk' (st:=v5) z401 z402,λs us d hl=>by rw[lnx (us:=us) (n:=5) (by simpa using hl)];exact rX rfl (d _ _ z403) rfl rfl rfl,[.none],λs us d hl=>by rw[lnx (us:=us) (n:=4) (by simpa using hl)];exact rX rfl (d _ _ z403) rfl rfl rfl,(.cons rfl .nil),[.int 1000000 e0_Chip_init,.none],λs us d hl=>by rw[lnx (us:=us) (n:=3) (by simpa using hl)];exact rX rfl (d _ _ z403) rfl rfl rfl,(.cons ⟨_,rfl⟩ (.cons rfl .nil)),_,(.ref z111),FunD.mk' (st:=uC) z426 z427,λs us d hl=>by rw[lnx (us:=us) (n:=7) (by simpa using hl)];exact rX rfl (d _ _ z428) rfl rfl rfl,[.int 1000000 e1_Terms_init],λs us d hl=>by rw[lnx (us:=us) (n:=6) (by simpa using hl)];exact rX rfl (d _ _ z428) rfl rfl rfl,(.cons ⟨_,rfl⟩ .nil),[.int 0 e0_Terms_init,.int 1000000 e1_Terms_init],λs us d hl=>by rw[lnx (us:=us) (n:=5) (by simpa using hl)];exact rX rfl (d _ _ z428) rfl rfl rfl,(.cons ⟨_,rfl⟩ (.cons ⟨_,rfl⟩ .nil))⟩
exact⟨_,FnX.bind1 (by intros;rfl) S.law.F,λbase Z Z z=>qN0 T S z⟩)
theorem walk{l:W.OpenLaw}{d:DefRec}{K:Params->W.Frag}(hn:l.most=some 63)(hdf:d.params.defaults=[])
 (hY:∀(w:World) (h:Heap),YP w h->(K w.params).In h/\∀T∈([335,608]:List Addr),h.get? T=some (W.tabObj #[])) (hT:∀w:World,∀T∈([335,608]:List Addr),(K w.params).lookup T=none/\∃c,W.codeHdIn (K w.params) c T=true)
 (F:∀(w:World) (mg:Str->Option Value) (fa:Addr) (h:Heap),(K w.params).In h->h.Ns mainGlobals mg->mg d.name=some (.ref fa)->∃fd:FuncData,(∀(s:Shared) (u:Value),BindsTo s fd ⟨[u],[]⟩ [("_law_script",u)])/\∀base:Heap,(K w.params).In base->base.Ns mainGlobals mg->BmIn base mg->FnOk l.prog w (K w.params) mg base (CX0) 20 fa fd ["_law_script"] (q5N (K w.params) [335,608])):
 W.WalkO q loose XP YP l.row.toRowW d [] (λf vs=>PySem.call f vs):=L2.qH3      _ hn (by decide) hdf ⟨rfl,by decide,by decide⟩ hY hT F (λZ Z a ns hl hS hT=>⟨a,ns,rfl,hS,hl,hT,λZ=>rfl⟩) (λZ Z Z Z Z z=>z)
end W1
namespace PySem.W.Fast
theorem tw2384674783406204163:True:=⟨⟩
theorem tw5717234545770161248:True:=⟨⟩
theorem tw13410706048711189792:True:=⟨⟩
theorem tw6118981189224150594:True:=⟨⟩
theorem tw8327671130515009667:True:=⟨⟩
theorem tw342841391459112163:True:=⟨⟩
theorem tw17392188871427776003:True:=⟨⟩
theorem tw3296148163262745764:True:=⟨⟩
theorem tw7564722099752221893:True:=⟨⟩
theorem tw8674443795312251749:True:=⟨⟩
theorem tw9230101745248514021:True:=⟨⟩
theorem tw15712970371498483174:True:=⟨⟩
theorem tw13782791251564718886:True:=⟨⟩
theorem tw16093135512373678247:True:=⟨⟩
theorem tw9594779849109299495:True:=⟨⟩
theorem tw14185527264408541320:True:=⟨⟩
theorem tw15159205469217325448:True:=⟨⟩
theorem tw7209413743191414728:True:=⟨⟩
theorem tw7940829047063645417:True:=⟨⟩
theorem tw13127258262603200682:True:=⟨⟩
theorem tw15241680939650451114:True:=⟨⟩
theorem tw6429192177156142058:True:=⟨⟩
theorem tw9540207165310572875:True:=⟨⟩
theorem tw1671844724134834507:True:=⟨⟩
theorem tw5080478009652320619:True:=⟨⟩
theorem tw5539353055926453899:True:=⟨⟩
theorem tw5503512669983796300:True:=⟨⟩
theorem tw14454036799854516044:True:=⟨⟩
theorem tw8002456433487752237:True:=⟨⟩
theorem tw16091757888984819853:True:=⟨⟩
theorem tw12114860593789652783:True:=⟨⟩
theorem tw5713198108212256687:True:=⟨⟩
theorem tw14161680157439575440:True:=⟨⟩
theorem tw17618032221760959729:True:=⟨⟩
theorem tw9238958515692469777:True:=⟨⟩
theorem tw6736073736879631921:True:=⟨⟩
theorem tw5463533864435881713:True:=⟨⟩
theorem tw1686817155751303057:True:=⟨⟩
theorem tw13000835439786493170:True:=⟨⟩
theorem tw16360448747431631059:True:=⟨⟩
theorem tw10683081535256364499:True:=⟨⟩
theorem tw5593422219840579123:True:=⟨⟩
theorem tw9854712276323811955:True:=⟨⟩
theorem tw7859043745760594260:True:=⟨⟩
theorem tw5832570915036549940:True:=⟨⟩
theorem tw17068670793742162101:True:=⟨⟩
theorem tw3221180346300775797:True:=⟨⟩
theorem tw14396350696502994263:True:=⟨⟩
theorem tw17262721419606245111:True:=⟨⟩
theorem tw11836281463383863063:True:=⟨⟩
theorem tw1211710273820185785:True:=⟨⟩
theorem tw9933812345955862233:True:=⟨⟩
theorem tw5614775874248923963:True:=⟨⟩
theorem tw15750135052651677595:True:=⟨⟩
theorem tw16867707220493818940:True:=⟨⟩
theorem tw3005539495130007740:True:=⟨⟩
theorem tw12474137848831111708:True:=⟨⟩
theorem tw9017092858141276381:True:=⟨⟩
theorem tw16140693258904289693:True:=⟨⟩
theorem tw12230815507328372285:True:=⟨⟩
theorem tw926056941469497949:True:=⟨⟩
theorem tw14784050630394332222:True:=⟨⟩
theorem tw16799166733698003006:True:=⟨⟩
theorem tw16205406345134914782:True:=⟨⟩
theorem tw11393469807815649567:True:=⟨⟩
theorem tw18319912386361401151:True:=⟨⟩
theorem tw12234914008717576159:True:=⟨⟩
theorem tw8563720554329657818:True:=⟨⟩
theorem tw18243163815324626422:True:=⟨⟩
theorem tw3185306202837956872:True:=⟨⟩
theorem tw12620976397838039756:True:=⟨⟩
theorem tw13580675659040720240:True:=⟨⟩
theorem tw10782157451913490143:True:=⟨⟩
theorem tw6792062856706440636:True:=⟨⟩
theorem tw12668590265626446687:True:=⟨⟩
theorem tw11563784825586068957:True:=⟨⟩
theorem tw8509873813006718194:True:=⟨⟩
theorem tw15384848661043877613:True:=⟨⟩
theorem tw126402786981651100:True:=⟨⟩
theorem tw13896280175848211787:True:=⟨⟩
theorem tw17815846431953751367:True:=⟨⟩
theorem tw17226068356329081438:True:=⟨⟩
theorem tw15153945946455187880:True:=⟨⟩
theorem tw16502701602960914991:True:=⟨⟩
theorem tw11472081332284602520:True:=⟨⟩
theorem tw17075400490662769021:True:=⟨⟩
theorem tw12493804851719334336:True:=⟨⟩
theorem tw1843112172684542467:True:=⟨⟩
theorem tw1779093121190487862:True:=⟨⟩
theorem tw5360054503373368632:True:=⟨⟩
theorem tw9783036619015249878:True:=⟨⟩
theorem tw1043611891897338207:True:=⟨⟩
theorem tw14883834237388577385:True:=⟨⟩
theorem tw5516069647529270482:True:=⟨⟩
theorem tw14369168554949541604:True:=⟨⟩
theorem tw2475686238657781685:True:=⟨⟩
theorem tw6839660095387403218:True:=⟨⟩
theorem tw15609672968391869440:True:=⟨⟩
theorem tw3038716066501360653:True:=⟨⟩
theorem tw8851736290503207017:True:=⟨⟩
theorem tw1133037672388018585:True:=⟨⟩
theorem tw8664508015879350416:True:=⟨⟩
theorem tw7182114687001513570:True:=⟨⟩
theorem tw4974393167484395989:True:=⟨⟩
theorem tw11923287733805222573:True:=⟨⟩
theorem tw8462999958505957096:True:=⟨⟩
theorem tw16435134173944486509:True:=⟨⟩
theorem tw11497028250012184600:True:=⟨⟩
theorem tw4076081457928607897:True:=⟨⟩
theorem tw14223880382427045334:True:=⟨⟩
theorem tw16361522165689613181:True:=⟨⟩
theorem tw17774762392019062454:True:=⟨⟩
theorem tw12909905355562454683:True:=⟨⟩
theorem tw16324623317213567891:True:=⟨⟩
theorem tw12842619986895961114:True:=⟨⟩
theorem tw7128097136122919430:True:=⟨⟩
theorem tw17268793721443894081:True:=⟨⟩
theorem tw196930317059344008:True:=⟨⟩
theorem tw6550494895304575779:True:=⟨⟩
theorem tw2927579147333991004:True:=⟨⟩
theorem tw4726161557487363004:True:=⟨⟩
theorem tw12897767441966779268:True:=⟨⟩
theorem tw10340556163341785131:True:=⟨⟩
theorem tw1154785517967191228:True:=⟨⟩
theorem tw10490590166947864099:True:=⟨⟩
theorem tw14910707508256613665:True:=⟨⟩
theorem tw4974884209110227124:True:=⟨⟩
theorem tw13931526295423531469:True:=⟨⟩
theorem tw14294542975531754078:True:=⟨⟩
theorem tw7730951131794425484:True:=⟨⟩
theorem tw16499476326465568754:True:=⟨⟩
theorem tw4169585926005139766:True:=⟨⟩
theorem tw7751771463241659052:True:=⟨⟩
theorem tw5418733626030216129:True:=⟨⟩
theorem tw6852535552389497012:True:=⟨⟩
theorem tw6692199165001993399:True:=⟨⟩
theorem tw18123310165946893134:True:=⟨⟩
theorem tw9176634482560711831:True:=⟨⟩
theorem tw102111381397751132:True:=⟨⟩
theorem tw4975279202905329090:True:=⟨⟩
theorem tw2408148802975241102:True:=⟨⟩
theorem tw5895317481161476445:True:=⟨⟩
theorem tw7850763363217813477:True:=⟨⟩
theorem tw7385077707207753370:True:=⟨⟩
theorem tw12023962207749700763:True:=⟨⟩
theorem tw9352607239503868745:True:=⟨⟩
theorem tw5017552356156678654:True:=⟨⟩
theorem tw15047124472919598937:True:=⟨⟩
theorem tw6241240211817981:True:=⟨⟩
theorem tw11714234302085534694:True:=⟨⟩
theorem tw2923961744808684583:True:=⟨⟩
theorem tw4486553544975044823:True:=⟨⟩
theorem tw9165073060877740767:True:=⟨⟩
theorem tw6968599762308356130:True:=⟨⟩
theorem tw11376562348521000724:True:=⟨⟩
theorem tw4843056197575886354:True:=⟨⟩
theorem tw14787856592353389815:True:=⟨⟩
theorem tw5697936574313398673:True:=⟨⟩
theorem tw1263794648415196125:True:=⟨⟩
theorem tw17890062296613338656:True:=⟨⟩
theorem tw14877282759156500247:True:=⟨⟩
theorem tw18165416498173513102:True:=⟨⟩
theorem tw13425137630368355046:True:=⟨⟩
theorem tw304960226381715124:True:=⟨⟩
theorem tw13451012527264360958:True:=⟨⟩
theorem tw11705128186894585864:True:=⟨⟩
theorem tw11282556914206284512:True:=⟨⟩
theorem tw5403436874759764819:True:=⟨⟩
theorem tw15850593691024306165:True:=⟨⟩
theorem tw3146017908670322764:True:=⟨⟩
theorem tw15673021491568611383:True:=⟨⟩
theorem tw16350071616377800830:True:=⟨⟩
theorem tw2980713505884591074:True:=⟨⟩
theorem tw1935814045096706560:True:=⟨⟩
theorem tw2148057047499344968:True:=⟨⟩
theorem tw3324276695365651409:True:=⟨⟩
theorem tw5586431979250212648:True:=⟨⟩
theorem tw7688491999798910579:True:=⟨⟩
theorem tw11294028955754673894:True:=⟨⟩
theorem tw15309001992754422954:True:=⟨⟩
theorem tw1249579722078876044:True:=⟨⟩
theorem tw13857609167400998018:True:=⟨⟩
theorem tw9086918560143261125:True:=⟨⟩
theorem tw17722601132274518586:True:=⟨⟩
theorem tw17021294151357499481:True:=⟨⟩
theorem tw17355378015860011341:True:=⟨⟩
theorem tw17605682454889631988:True:=⟨⟩
theorem tw5426395091056189582:True:=⟨⟩
theorem tw16529576544160209187:True:=⟨⟩
theorem tw4764446710624450909:True:=⟨⟩
theorem tw4508739295793013026:True:=⟨⟩
theorem tw1427353984221363223:True:=⟨⟩
theorem tw16904624418831891266:True:=⟨⟩
theorem tw9778843108547006071:True:=⟨⟩
theorem tw13974384512174098977:True:=⟨⟩
theorem tw17786022169788302975:True:=⟨⟩
theorem tw8696869660957399797:True:=⟨⟩
theorem tw314115917253761224:True:=⟨⟩
theorem tw8978449970586099643:True:=⟨⟩
theorem tw1524937369407262868:True:=⟨⟩
theorem tw15343258811913354352:True:=⟨⟩
theorem tw1685481056222992113:True:=⟨⟩
theorem tw14606989320864055621:True:=⟨⟩
theorem tw13141556987048723601:True:=⟨⟩
theorem tw2970756848862012770:True:=⟨⟩
theorem tw9894268866481784035:True:=⟨⟩
theorem tw4990113739088060900:True:=⟨⟩
theorem tw11603291488669692069:True:=⟨⟩
theorem tw2359214429145842046:True:=⟨⟩
theorem tw5832844557474167701:True:=⟨⟩
theorem tw17236054194883762944:True:=⟨⟩
theorem tw15738043019536378970:True:=⟨⟩
theorem tw7987373729796810133:True:=⟨⟩
theorem tw6050628888018082067:True:=⟨⟩
theorem tw14559802419137113558:True:=⟨⟩
theorem tw11014465859190069408:True:=⟨⟩
theorem tw7009573701901996274:True:=⟨⟩
theorem tw5508133471066826336:True:=⟨⟩
theorem tw2069241609418356379:True:=⟨⟩
theorem tw17025279197001518847:True:=⟨⟩
theorem tw16604907605950782355:True:=⟨⟩
theorem tw8524937299383273488:True:=⟨⟩
theorem tw14276322927082581225:True:=⟨⟩
theorem tw17065889191626467328:True:=⟨⟩
theorem tw13385942337454869234:True:=⟨⟩
theorem tw12179055053415030185:True:=⟨⟩
theorem tw11252571366945539811:True:=⟨⟩
theorem tw16508708934633108482:True:=⟨⟩
theorem tw16634230757221214368:True:=⟨⟩
theorem tw15633639028108443798:True:=⟨⟩
theorem tw11305991899598553845:True:=⟨⟩
theorem tw15450193071021759643:True:=⟨⟩
theorem tw11107627157487132271:True:=⟨⟩
theorem tw11261205276620344940:True:=⟨⟩
theorem tw3197151463207330722:True:=⟨⟩
theorem tw5228327407719612193:True:=⟨⟩
theorem tw10547054892757942131:True:=⟨⟩
theorem tw3901586644850054366:True:=⟨⟩
theorem tw5684256771217689379:True:=⟨⟩
theorem tw1714052358050853767:True:=⟨⟩
theorem tw10585818736880005241:True:=⟨⟩
theorem tw16369533236300386652:True:=⟨⟩
theorem tw7185241736087092958:True:=⟨⟩
theorem tw1522399128298674400:True:=⟨⟩
theorem tw2503260698170479876:True:=⟨⟩
theorem tw13677151118263667732:True:=⟨⟩
theorem tw2971231819905064231:True:=⟨⟩
theorem tw15308447189482760363:True:=⟨⟩
theorem tw13804201319264190753:True:=⟨⟩
theorem tw4365834165669852611:True:=⟨⟩
theorem tw1622250953814957502:True:=⟨⟩
theorem tw3334108066847153411:True:=⟨⟩
theorem tw3809542163534796000:True:=⟨⟩
theorem tw5744958815189584110:True:=⟨⟩
theorem tw14325462677321042473:True:=⟨⟩
theorem tw14598940239501958489:True:=⟨⟩
theorem tw6941942748447602306:True:=⟨⟩
theorem tw18422800134023527258:True:=⟨⟩
theorem tw14843535462025208482:True:=⟨⟩
theorem tw13805287401197175360:True:=⟨⟩
theorem tw9140307743048518346:True:=⟨⟩
theorem tw17859372457910362527:True:=⟨⟩
theorem tw14379408547046932311:True:=⟨⟩
theorem tw11611244346994887271:True:=⟨⟩
theorem tw1069433615884008328:True:=⟨⟩
theorem tw13690924728954616826:True:=⟨⟩
theorem tw9690490973276974780:True:=⟨⟩
theorem tw8421094092779885001:True:=⟨⟩
theorem tw17413597818207018537:True:=⟨⟩
theorem tw10719346091471446869:True:=⟨⟩
theorem tw17479700251381499901:True:=⟨⟩
theorem tw17009331119173193382:True:=⟨⟩
theorem tw13697159718566219287:True:=⟨⟩
theorem tw14570181520541294520:True:=⟨⟩
theorem tw8516605537883119179:True:=⟨⟩
theorem tw14709838432074842174:True:=⟨⟩
theorem tw15958691292196767079:True:=⟨⟩
theorem tw1125432285221243485:True:=⟨⟩
theorem tw4560462934610225473:True:=⟨⟩
theorem tw9690184736826893675:True:=⟨⟩
theorem tw10117684124772218100:True:=⟨⟩
theorem tw5649990816256738663:True:=⟨⟩
theorem tw4749878888890591082:True:=⟨⟩
theorem tw11554264968043195406:True:=⟨⟩
theorem tw11604088397097977030:True:=⟨⟩
theorem tw3884839138738752614:True:=⟨⟩
theorem tw18276028957082155356:True:=⟨⟩
theorem tw18226202705287399427:True:=⟨⟩
theorem tw4902604027968405844:True:=⟨⟩
theorem tw6696154604735571370:True:=⟨⟩
theorem tw9668820374374296928:True:=⟨⟩
theorem tw2222162060006064899:True:=⟨⟩
theorem tw10056241633829814773:True:=⟨⟩
theorem tw14418518499452455059:True:=⟨⟩
theorem tw12980508687718042646:True:=⟨⟩
theorem tw143768174572534887:True:=⟨⟩
theorem tw8566786969704038663:True:=⟨⟩
theorem tw8661346682830452305:True:=⟨⟩
theorem tw2513796444955842429:True:=⟨⟩
theorem tw13872572725145172499:True:=⟨⟩
theorem tw14542929028521495938:True:=⟨⟩
theorem tw7525379629697561180:True:=⟨⟩
theorem tw16371057116700565333:True:=⟨⟩
theorem tw16344501845832040426:True:=⟨⟩
theorem tw1500357302094851464:True:=⟨⟩
theorem tw16088636884512081153:True:=⟨⟩
theorem tw13755499653892894340:True:=⟨⟩
theorem tw17955242117673807357:True:=⟨⟩
theorem tw7908161048154359087:True:=⟨⟩
theorem tw5057727294418155318:True:=⟨⟩
theorem tw18426088029551510289:True:=⟨⟩
theorem tw13140848418541186255:True:=⟨⟩
theorem tw14833822343455575724:True:=⟨⟩
theorem tw13727674182184504426:True:=⟨⟩
theorem tw8916899384840013067:True:=⟨⟩
theorem tw1495521961691573392:True:=⟨⟩
theorem tw9918429044789025301:True:=⟨⟩
theorem tw13035019848159398885:True:=⟨⟩
theorem tw2625990072959546905:True:=⟨⟩
theorem tw3271652266646683859:True:=⟨⟩
theorem tw9238099731521484193:True:=⟨⟩
theorem tw16070951422858305525:True:=⟨⟩
theorem tw1271970495249228266:True:=⟨⟩
theorem tw3010440219938287857:True:=⟨⟩
theorem tw12418640923196375121:True:=⟨⟩
theorem tw2347019513085813685:True:=⟨⟩
theorem tw1918490311078650854:True:=⟨⟩
theorem tw12770392548096181746:True:=⟨⟩
theorem tw1785262293648600052:True:=⟨⟩
theorem tw16642972001237173172:True:=⟨⟩
theorem tw11672186064558371965:True:=⟨⟩
theorem tw16302246428322196805:True:=⟨⟩
theorem tw6936050777369198823:True:=⟨⟩
theorem tw4190825246266249000:True:=⟨⟩
theorem tw16644704164268733094:True:=⟨⟩
theorem tw8194740929548175226:True:=⟨⟩
theorem tw4970280073916518026:True:=⟨⟩
theorem tw4630932350777827808:True:=⟨⟩
theorem tw18241695938101504048:True:=⟨⟩
theorem tw17766442033852717299:True:=⟨⟩
theorem tw10527212063920642192:True:=⟨⟩
theorem tw17122386554639384937:True:=⟨⟩
theorem tw4215825505606819428:True:=⟨⟩
theorem tw11954620557566568741:True:=⟨⟩
theorem tw11624782610956318471:True:=⟨⟩
theorem tw6479500913225126015:True:=⟨⟩
theorem tw1144987974083975540:True:=⟨⟩
theorem tw11235284404061665099:True:=⟨⟩
theorem tw7988004810045305798:True:=⟨⟩
theorem tw11108479939775309654:True:=⟨⟩
theorem tw3099149196982451122:True:=⟨⟩
theorem tw8376449398567727205:True:=⟨⟩
theorem tw4512234075475463576:True:=⟨⟩
theorem tw109731744368549071:True:=⟨⟩
theorem tw3668258785475167459:True:=⟨⟩
theorem tw2232281185495320671:True:=⟨⟩
theorem tw1638574561979495337:True:=⟨⟩
theorem tw15153937480364841854:True:=⟨⟩
theorem tw10933159559238369668:True:=⟨⟩
theorem tw10018566540500707840:True:=⟨⟩
theorem tw6889917499505510572:True:=⟨⟩
theorem tw9100048195181117317:True:=⟨⟩
end PySem.W.Fast
set_option genInjectivity false in
set_option genSizeOf false in
structure PySem.W.Fast:Prop where
 (tw891240309151085395 tw4216687200145419113 tw3882877419102122854 tw18123927443245140418 tw16318643203209291709 tw8031923324689809213 tw16988703731722447444 tw10819195831886518732 tw1489848848989291077 tw8325035545082381354 tw2136208015242677470 tw1104482195448537728 tw16751488776032781903 tw8032930979483338574 tw8480259919642687476 tw1813601286834729137 tw17572167431089407701 tw2491879339459106831 tw10709542913245271199 tw4717536163854911098 tw2702993105383159827 tw3237789073931244026 tw9733294890700251506 tw2994869750225421356 tw13761752274288502405 tw10255093988721827215 tw1239390640399906841 tw6579553956068660022 tw14780767265984835990 tw6779812901846858972 tw18413322918338150919 tw9224653038918946673 tw7659548835612455925 tw8361250024322488737 tw12080474812625128309 tw11815420804457135599 tw10943705499362131898 tw6723328114490670816 tw16381781507465248632 tw13586177082345154754 tw12847614866208128909 tw11173915192180534450 tw10336296576189053742 tw8608308524888983320 tw7788600404564466894 tw11921773755198579962 tw7215465890604533421 tw6363678492197377474 tw2319318912574078493 tw15282945866314919161 tw7167568294461034979 tw12066230960842124952 tw8559099300224342383 tw13860484242656050806 tw11251832119349736148 tw5155005518487997669 tw2362189210939789962 tw13183720866684353279 tw15275728742805261631 tw11659329622943832423 tw16204445940675848171 tw12779916273585015623 tw4494623975606023601 tw14610819481686758541 tw11111107063155125080 tw10270316324847784060 tw9202652747969596126 tw1210580049777479035 tw3185282481160777463 tw9610207261496781724 tw9380005000689188928 tw5091150552054822738 tw11948749294274871575 tw13732637225068618473 tw7003256654776781035 tw3703668407114638810 tw14889147403263095710 tw5083944309112198509 tw13277407709859629438 tw5188048699038255335 tw1547659627138126892 tw11657595133241868652 tw17991776544043562921 tw11966822916404758306 tw16407325122891077038 tw13380986544195694782 tw12168483593955064595 tw15254903761954591301 tw10575816025280112755 tw9838885609835142092 tw149592998252526941 tw6789057654538562214 tw11556791798106552609 tw11354858567254464209 tw807435661173681542 tw9801296807254461280 tw4080123819894920488 tw14092822960909848241 tw5543898440868647456 tw2680385611608884870 tw17270020189777677679 tw4479825324354104446 tw13529204946926122118 tw9125984710178281790 tw13874583933238111171 tw17883882645126463274 tw9682483892435843495 tw7361393788650319147 tw5347983806583475278 tw1744190600749759892 tw14856773212993379701 tw14457912105586025193 tw13254430894361912887 tw11316317880414029485 tw8172398440014693377 tw7858099320668272470 tw5660637972711199238 tw4948211422225182489 tw4891038188485719215 tw4615625536659035469 tw3597497876480775835 tw290792640305516926 tw17731708998652006795 tw164436158620209927 tw11838976268520805892 tw11517043404088218885 tw5781801367262066646 tw13778070272239035914 tw10088062580435154885 tw7055641094259719108 tw5361734960890957549 tw2007744016075543718 tw17761511251118182664 tw16226933141675739849 tw1235509890233043168 tw1190309590019138142 tw9187617312286233193 tw8855106663124693832 tw8475831423555954947 tw7926993586845450009 tw740552047415194191 tw7402112227218124787 tw644906282650253532 tw6368535201305496230 tw5705272300004530486 tw5226732369360272970 tw2881392941082134188 tw252046802684212942 tw18351204420837967253 tw18255153044812087039 tw17719026029385141141 tw17385699187488125838 tw16243491423704511916 tw16107006228033248567 tw16030022283539712468 tw14619060528506060088 tw14375145255279603874 tw12659342178445654058 tw11849850320456720855 tw11570792907989992030 tw11402416237852659355 tw11192188779389668919 tw2596145712940661375 tw16288514059849558416 tw7348660092367898058 tw71305225620788809 tw3615688295762280665 tw17956510075143864176 tw132621761600134126 tw10808835811249875170 tw2794422274499701376 tw1418314832696095197 tw12319434690151110827 tw2681516590341249026 tw2507987169397486009 tw1812506641742299639 tw1810414543908723561 tw14526433123711338494 tw16732099159338733776 tw5962956314509744157 tw14587870713161031541 tw12097967089426653233 tw8737292104076961124 tw8653470392832823790 tw8233281970732000059 tw7948984956690107398 tw7540070147947458869 tw7517552658187912795 tw685391700980042049 tw5579903822945744175 tw16964977268682430385 tw16617060384195122542 tw16292574831005063179 tw15909961738355750152 tw15637724656694053214 tw13021778330927580905 tw12327989566804174028 tw11059182460721877303 tw10073427394182428230 tw14779541193431576330 tw17872072140881960466 tw13302645775212970942 tw9308683886066893294 tw8939125424469442793 tw8721824762532384064 tw7509098820741698322 tw7030405323967963213 tw6977143177032407122 tw6762964433097403734 tw6298695150698725017 tw5363869488873374766 tw5122377302798695651 tw4933722157274107352 tw3786973363886562797 tw3726088249652001885 tw14488891687019046114 tw13662662893243781000 tw13011915640253790823 tw8528157435038122475 tw6969231773144344976 tw5566218992488174947 tw15506788958321150354 tw12169608848850591689 tw3723645988256357174 tw875540162064107040 tw16134679509473013496 tw14646641338322682766 tw2404709391038942043 tw10323363425861908670 tw3965615282241264717 tw14147576037683331297 tw10269974455881345994 tw9295225058005906898 tw6653363639732633973 tw4790550045184957984 tw4271388338816541718 tw18138496341653169887 tw17589283908981347680 tw15719398876527312288 tw15693145045937983765 tw12080418846861919667 tw14286438342453434633 tw9435333188263651605 tw8145449256739499784 tw7771844448098904985 tw6659567416219586853 tw483275315832785893 tw2153359152897314420 tw1824953403319154607 tw17600837446126200645 tw1716160400315947459 tw1587807366886463560 tw1568252841594774404 tw14335577386988862660 tw11835013822112249167 tw14399908480098153560 tw1362897849413212851 tw10898130418312377307 tw6921461545040332002 tw1681790054708882638 tw12369929636265509720 tw10864122701960637307 tw2198912878981017827 tw15658177149406941792 tw14520031616699588533 tw5020260169287691487 tw3035867639978668242 tw2514460712768026525 tw15921422702006765401 tw11806167796249467526 tw10985291976380523923 tw8968399004622282745 tw3634863635709858760 tw2009622000665791500 tw9513831887827083593 tw8708474064030377815 tw8357641158316272051 tw8180156527122228683 tw786752589169278492 tw6684946280266660111 tw5955113025059239669 tw5116672790251468462 tw3856198818517121516 tw3778086966081473877 tw3428667864639311681 tw306761105675194704 tw17654962286737357334 tw17596365513438843300 tw16469468731568848497 tw15542483831302293585 tw15072159238638424862 tw1411554679829013115 tw1386999403864050800 tw13157027233449390109 tw12195830238776107986 tw10636989365117228415 tw6953913565378031490 tw3373873111855744072 tw2570034450114836670 tw18234917471341494090 tw15932305390218008065 tw12946565842981216486 tw121869206345714549 tw16192240782643013388 tw9791220743653859891 tw9268523097531199471 tw9250273078639806486 tw9115905427097121512 tw8164839156260916134 tw8004495521202657884 tw7501886457320771768 tw5527899146489807010 tw4852310385314411681 tw3889715121208915252 tw3810150028505599840 tw3707300580201069403 tw17704458369198631622 tw17271326114109131575 tw16790565248675267677 tw16322897840273484113 tw15001549562614399669 tw1248966717770683441 tw1229607424987117161 tw12184610701322414839 tw11281126383419593556 tw7860546104272965274 tw7180692847387407214 tw6133282098418927822 tw6090239169888967904 tw5212547958625391521 tw18204917119798950693 tw16868174297300275852 tw16624379400279164457 tw14668765912701159647 tw12883369280297674960 tw3115337728467493776:True)
open PySem PySem.W PyProof.Rows
set_option maxRecDepth 100000 in
theorem PySem.Challenge.cw_wornpages_k94_whole_one_deed_at_a_time_holds : PySem.Challenge.rw_wornpages_k94_whole_one_deed_at_a_time.Holds := by
 (
w_on;o_law;k_head;(case hw=>w_witness2)
k_fill
refine W1.walk (l:=PySem.Challenge.rw_wornpages_k94_whole_one_deed_at_a_time) rfl rfl (λw h Y=>⟨W.km_in_of Y,λT hT=>W.km_tabs_of Y T (by simp at hT ⊢;first|exact hT|exact hT.symm)⟩) (?T) ?F
case T=>
 intro w T hT;have hT:T=335\/T=608:=by simpa using hT
 rcases hT with rfl|rfl
 .exact⟨by kernel_rfl,337,by kernel_rfl⟩
 exact⟨by kernel_rfl,612,by kernel_rfl⟩
case F=>
 intro w mg fa h KX G hmg;refine' W1.qN1 (t:=W1.Adr.mk (eI:=335) (aB8:=337) (eL:=608) (iQ:=612) ..) KX G hmg (W1.Txt.mk ..) ?_ (W1.Fn9.mk ..) ..
 any_goals dsimp only
 any_goals first|k_is|(refine' mg_of KX G ?fa;(case fa=>k_is))|(refine' mg_none_of KX G ?fa;(case fa=>k_is))|(refine' L2.fn1 (L2.FnX.of ?fa ?fb);(case fa=>k_is);(case fb=>k_is))|(refine' L2.FnX.of ?fa ?fb;(case fa=>k_is);(case fb=>k_is))|((first|apply And.intro|apply L2.Mk0.mk|apply L2.Meth.mk|apply L2.Mk.mk|apply L2.Cls.mk|apply L2.XAt.mk|apply L2.BIni.mk|apply L2.ClM.mk|apply L2.XRd.mk)<;>first|k_is|kernel_rfl)|(show W.findIn _ _ _=_;k_is)
 all_goals first|k_exc|kts_exm|kit_is|kernel_rfl|decide)
