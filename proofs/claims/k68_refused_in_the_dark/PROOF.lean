import PyProof.Rows.All
import Wide.All
import OpenK.AllK
import Wide.FinOn
import Lean
import PyProof.EqAt
import PyProof.EqKinds
import PyProof.TupleCall
import PyProof.StationsW
import PyProof.NsDelKeeps
import PyProof.PassesOwn
import PyProof.ZipIter
import PyProof.NeKinds
import PyProof.CompFree
import KE.KDictList
import PyProof.ConsumeWalk
import PyProof.WalkInts
import PyProof.WalksMore
import PyProof.SumAny
import PyProof.Rows.MinMaxN
import PyProof.Rows.SortWalk
import PyProof.ListRange
import KE.KTupSum
import PyProof.EnumFor
import PyProof.EnumMake
import PyProof.EnumStmt
import OpenK.KMake
import PyProof.DictWalks
import PyProof.FitsBits
import PyProof.CompUse
import KE.KSortTup
import PyProof.MinMaxWalk
import PyProof.SeqI3
import PyProof.DictItems
import KE.KItemsList
import KE.KEqDict
import KE.KDictSum
import PyProof.DictValues
import KE.KLam
import KE.KNestM
import PyProof.ExcClass3
import KE.KRevIter
import PySem.Challenge.RW_wornpages_k68_refused_in_the_dark
set_option Elab.async false
set_option linter.all false
set_option maxRecDepth 100000
set_option maxHeartbeats 0
set_option tactic.hygienic false
set_option compiler.extract_closed false
noncomputable abbrev hC:=@decide_eq_true
noncomputable abbrev hX:=@decide_eq_false
noncomputable abbrev kI:=@if_neg
noncomputable abbrev kM:=@if_pos
noncomputable abbrev mC:=@decide_eq_true_eq
noncomputable abbrev mI:=@of_decide_eq_true
noncomputable abbrev d7:=@beq_iff_eq
noncomputable abbrev rK:=@beq_eq_false_iff_ne
noncomputable abbrev rL:=@congrArg
noncomputable abbrev rR:=@of_decide_eq_false
noncomputable abbrev wN:=@decide_eq_false_iff_not
noncomputable abbrev cQ:=@or_false
open List renaming mem_cons_of_mem->hU, length_map->kB, getElem?_eq_some_iff->kC, mem_singleton->kE, getElem?_eq_getElem->kF, getD_eq_getElem?_getD->kL, mem_cons->kN, mem_cons_self->kU, mem_append_right->kY, getElem?_map->kZ, mem_map->mF, size_toArray->mG, length_append->mH, length_filter_le->mJ, mem_filter->mK, length_cons->mM, mem_range->mO, take_append_getElem->mQ, length_range->mV, map_cons->mY, nodup_cons->m8, map_append->gA, mem_append_left->gC, mem_of_getElem?->gD, filter_cons->gF, take_length->gH, mem_append->gJ, length_singleton->gK, getElem_mem->gL, length_set->gM, pairwise_map->gN, length_replicate->gP, filter_append->gQ, append_nil->gT, length_take->gX, mem_of_find?_eq_some->g3, pairwise_cons->g7, find?_some->g9, not_mem_nil->dB, find?_cons->dH, ext_getElem->dL, getElem?_append_right->dM, pairwise_lt_range->dP, filterMap_cons->dU, replicate_succ->dW, filter_eq_self->dX, nil_append->dY, mem_filterMap->d6, lookup_cons->rA, all_eq_true->rB, find?_eq_none->rC, sum_cons->rF, length_filterMap_le->rG, nodup_append->rJ, getElem_of_mem->rM, any_eq_true->rQ, getElem?_eq_none->rT, getElem?_append_left->rW, pairwise_iff_getElem->rX, drop_eq_getElem_cons->rZ, exists_mem_of_ne_nil->r9, length_nil->wC, getElem?_set_ne->wE, map_congr_left->wK, getElem?_replicate->wL, cons_append->wQ, countP_eq_length_filter->wV, flatten_cons->cC, mem_map_of_mem->cM, filter_sublist->cN, any_cons->cP, getElem_range->cW, mem_mergeSort->cX, map_replicate->cY, append_assoc->pC, map_map->pF, filter_congr->pG, countP_mono_left->pH, countP_cons->pN, getElem_map->pO, nodup_range->pP, take_append_of_le_length->pR, eq_nil_of_length_eq_zero->pU, of_mem_zip->pW, range_succ->pZ, map_eq_nil_iff->p9, foldl_append->sX, getElem?_cons_succ->nG, pairwise_mergeSort->nM, getElem?_set_self->nP, length_pos_of_mem->nZ, length_mergeSort->lG, take_append_drop->lI, getElem_zipWith->lR, length_zipWith->l8, mergeSort_perm->xA, length_pos_iff->xB, nil_perm->xF, zip_cons_cons->xK, filterMap_nil->xO, filter_filter->xP, any_eq_false->xU, map_set->aE, find?_append->aH, drop_length->aO, forIn_cons->aW, perm_cons->bI, nodup_nil->bJ, all_cons->bT, set_comm->bW, map_nil->bY, set_set->b8
open PySem renaming wpAny_bind->kD, wpAny_pure->mE, sizeLine_eq->gR, wpAny_holding->gU, mem_of_lookup->gW, wpAny_truthy_bool->gY, wpAny_mono->g4, wpAny_Call_Name_kw->g5, wpAny_tryCatch->dR, wpAny_passesOwn->wA, plainId_quiet->wH, boot_len->wP, wpAny_letGo->wR, codeAny_builtin->wW, wpAny_updateSeq->wX, wpAny_newList->cA, wpAny_call->cF, wpAny_seqItems->cI, codeAny_mono->cK, tupleKind_room_in1->cT, codeAny_call_builtin->pQ, wpAny_execs_nil->pV, wpAny_newFunctionEnv_cells->sK, wpAny_field->sU, wpAny_standAt->sY, wpAny_call_entry->nL, seqIndex_neg->nQ, wpAny_getItem_list_neg->nV, wpAny_loadPart'->lA, wpAny_isTrue_Compare1->lE, wpAny_loadName_local->lJ, seqIndex_of->lL, wpAny_setField->lN, wpAny_newFunctionEnv->lP, wpAny_loadName_cell->lU, wpAny_handleBy_cons->lW, wpAny_attempt->xD, wpAny_assign_Name->xS, wpAny_pyIter_list->xT, wpAny_newObj_type->x6, wpAny_Name->bD, typeIs_int->bE, call_meets->bG
open PySem.Heap renaming get?_push_of_some->kJ, lt_size->kX, get?_update_other->mD, get?_push_size->mP, get?_update_self->d5, get?_none_of_le->cD, size_push->sJ, size_update->nK
open Nat renaming le_refl->kO, le_trans->mL, ne_of_lt->mR, lt_of_lt_of_le->mW, zero_le->m7, mul_le_mul_right->dD, le_succ->dG, lt_of_le_of_lt->dJ, mul_comm->dN, lt_succ_of_lt->dO, lt_succ_self->d8, lt_irrefl->rD, ne_of_gt->rE, add_mul->rO, one_mul->rP, div_lt_iff_lt_mul->rV, le_of_lt->cJ, mod_eq_of_lt->cL, mul_add_mod->cS, le_of_eq->c8, succ_mul->pD, not_lt->pL, add_le_add_right->pT, div_add_mod->pX, add_zero->sF, eq_of_mul_eq_mul_right->sO, le_add_right->nH, zero_add->n9, not_lt_zero->lC, mul_le_mul->lS, lt_of_succ_lt->xZ, le_of_not_lt->aJ, succ_le_succ->aL, mul_mod_left->aN
open Option renaming map_eq_some_iff->kP, isSome_iff_exists->cO, bind_some->pM, isSome_map->sT, map_some->aX
open Option.some renaming inj->kQ
open Bool renaming false_ne_true->kW, and_eq_true->mU, not_eq_true'->wF, eq_iff_iff->wS, or_eq_true->wT, false_eq_true->cV, true_and->xE, eq_false_iff->x8, not_eq_true->aM, false_or->bU
open Int renaming toNat_natCast->mB, le_refl->gE, natCast_mul->dA, natCast_ediv->dE, eq_ofNat_of_zero_le->wM, le_trans->pE, le_of_lt->sD, fdiv_eq_ediv_of_nonneg->sI, mul_le_mul->sP, mul_nonneg->lO, emod_lt_of_pos->xM, emod_nonneg->aU, natCast_add->bA, natCast_pow->bC
open Array renaming length_toList->mZ, getElem?_eq_some_iff->cG, perm_iff_toList_perm->cH, getD_eq_getD_getElem?->sB, toList_inj->nI, toList_map->nJ, append_assoc->xI, map_map->bV
open PySem.F renaming plain_min_loop->gG, entry_min_loop->dQ, slot_list_append->wI, type_list_append->wJ, plainAttrs_list->wO, slot_dict_itemiterator_iter->cR, plainAttrs_dict->cZ, slot_dict_items->c7, type_dict_items->nO, slot_dict_pop->lF, plain_min->aF, entry_min->aG, kind_min->aP, slot_int_rmul->aT
open PySem.W renaming mg_of->gO, kia_one->g8, callWith_K->d9, methodCall_KW->rS, mg_none_of->wG, looks_findIn->cE, cellsFrom_some->c9, any_some->pK, plainGet_of->p7, callWith_K0->p8, check_slot->xL, make_core->xV, kitx_list->xW, kitx_dict->xX, makes_of->aI, codeHd_of_K->aR
open List.Pairwise renaming filter->gZ, sublist->pJ, filterMap->bX
open PySem.PassesOwn renaming leaving->dC, never->wY
open Decidable renaming byContradiction->dZ
open PySem.Around renaming under_plainId->rH, frames_deeper->lK
open PySem.BindsTo renaming of_defaults->rN
open PySem.Obj renaming isFreed_of_fields->rU, data_mapFields->cU
open Ne renaming symm->wD
open PyProof.Rows renaming get?_update_seq->wU, listUpdate_at->wZ, callWith_type1->cB, seqEpoch_at->sV, subscriptTail_builtinR->nU, size_push'->nY, entry_list_sort->lD, slot_list_sort->lQ, getElem?_mirror_all->lZ, listItems_at->x9, pairsOf_size->aA, plain_sorted->aB, entry_sorted->aD, kind_sorted->aQ, callWith_kw->aS
open PySem.Calls renaming callWith_builtin->pA, Name_function_global->sG, call_function_entry->sQ, evalArgs_plain->lM, spliced_cons->xJ, spliced_nil->xY
open PySem.SeqAt.EqAt renaming int_int->sN, same->lB, int_str->xG, str_int->xH, of_refs->xN
open Classical renaming byContradiction->sR
open Sum.inl renaming inj->sS
open Int.ofNat renaming inj->sZ
open List.Sublist renaming map->nN
open PySem.Value renaming isStrOf_shape->lT, isInt_shape->xR
open PySem.SeqAt.RcNeAt renaming tuples->lY
open PySem.Paired renaming length->xC
open PySem.Walks renaming list->xQ
open PySem.W.Looks renaming ld->aK, of_pure->b9, here->eA
open PySem.SeqAt renaming eq_listAt->aV
open Array.Perm renaming refl->aY
open StateT renaming run_pure->aZ
open List.Perm renaming refl->bH
open PySem.EqMixed renaming eq_bool_str->bK, eq_str_bool->bL, ne_bool_str->bM, ne_str_bool->bN, eq_int_str->bO, eq_str_int->bQ, ne_int_str->bR, ne_str_int->bS
open Iff renaming rfl->bZ
set_option genSizeOf false
namespace L2
open PySem PySem.Spec PyProof.Rows
noncomputable abbrev Key:=Sum Int Str
noncomputable def q8T:Key->Value->Bool
| .inl k,v=>Value.isInt k v
| .inr x,v=>Value.isStrOf x v
noncomputable def keyH(w:World):Key->Int
| .inl k=>hashInt k
| .inr x=>hashStr w x
theorem yD:∀{k:Key} {v:Value},q8T k v=true->(∃i t,k=Sum.inl i/\v=Value.int i t)\/(∃x t,k=Sum.inr x/\v=Value.str x t)
| .inl i,v,h=>by obtain⟨t,e⟩:=xR (k:=i) (v:=v) h;exact .inl ⟨i,t,rfl,e⟩
| .inr x,v,h=>by obtain⟨t,e⟩:=lT (x:=x) (v:=v) h;exact .inr ⟨x,t,rfl,e⟩
theorem qE4(i:Int)(t:Tok):q8T (.inl i) (.int i t)=true:=by simp[q8T,Value.isInt]
theorem qE5(x:Str)(t:Tok):q8T (.inr x) (.str x t)=true:=by simp[q8T,Value.isStrOf]
theorem qJR(a b:Int):decide ((Sum.inl a:Key)=Sum.inl b)=(a==b):=by(
by_cases e:a=b
.subst e;simp
have h:¬(Sum.inl a:Key)=Sum.inl b:=λq=>e (sS q)
rw[hX h]
exact(rK.mpr e).symm)
theorem qJS(a b:Str):decide ((Sum.inr a:Key)=Sum.inr b)=decide (a=b):=by(
by_cases e:a=b
.subst e;simp
have h:¬(Sum.inr a:Key)=Sum.inr b:=λq=>e (Sum.inr.inj q)
rw[hX h,hX e])
theorem qJT(a:Int)(b:Str):decide ((Sum.inl a:Key)=Sum.inr b)=false:=hX (λq=>nomatch q)
theorem qJU(a:Str)(b:Int):decide ((Sum.inr a:Key)=Sum.inl b)=false:=hX (λq=>nomatch q)
noncomputable def jY(prog:Program)(w:World):PySem.KeyKind prog w Key where
is:=q8T
hash:=keyH w
inj:=λv a b ha hb=>by
 rcases yD ha with⟨i,t,rfl,rfl⟩|⟨x,t,rfl,rfl⟩
 .rcases yD hb with⟨j,u,rfl,e⟩|⟨y,u,rfl,e⟩
  .injection e with e1 _;rw[e1]
  exact nomatch e
 rcases yD hb with⟨j,u,rfl,e⟩|⟨y,u,rfl,e⟩
 .exact nomatch e
 injection e with e1 _;rw[e1]
byValue:=λk v h=>by rcases yD h with⟨i,t,rfl,rfl⟩|⟨x,t,rfl,rfl⟩<;>rfl
pyHash:=λhv h=>by
 rcases yD hv with⟨i,t,rfl,rfl⟩|⟨x,t,rfl,rfl⟩
 .exact wpAny_pyHash_int h
 exact wpAny_pyHash_str h
eqBool:=λhu hv h=>by
 rcases yD hu with⟨i,t,rfl,rfl⟩|⟨x,t,rfl,rfl⟩
 .rcases yD hv with⟨j,u,rfl,rfl⟩|⟨y,u,rfl,rfl⟩
  .rw[qJR]at h;exact wpAny_eqBool_int h
  rw[qJT]at h;exact xG i t y u _ _ _ _ h
 rcases yD hv with⟨j,u,rfl,rfl⟩|⟨y,u,rfl,rfl⟩
 .rw[qJU]at h;exact xH x t j u _ _ _ _ h
 rw[qJS]at h;exact wpAny_eqBool_str h
«strs»:=λk x t v h=>by
 rcases yD h with⟨i,u,rfl,e⟩|⟨y,u,rfl,e⟩
 .exact nomatch e
 injection e with e1 _
 subst e1;cases v<;>rfl
theorem qAS(prog:Program)(w:World)(i:Int)(t:Tok):(jY prog w).is (.inl i) (.int i t)=true:=qE4 i t
theorem qAT(prog:Program)(w:World)(x:Str)(t:Tok):(jY prog w).is (.inr x) (.str x t)=true:=qE5 x t
inductive V where
|non|bl (b:Bool)|int (i:Int)|str (x:Str)|byt (b:Array UInt8)|flt (b:UInt64)|ref (a:Addr)|ty (n:String)
deriving DecidableEq
noncomputable def RelV:V->Value->Prop
| .non,u=>u=Value.none
| .bl b,u=>u=Value.bool b
| .int i,u=>∃t,u=Value.int i t
| .str x,u=>∃t,u=Value.str x t
| .byt b,u=>∃t,u=Value.bytes b t
| .flt b,u=>∃t,u=Value.float b t
| .ref a,u=>u=Value.ref a
| .ty n,u=>u=Value.type n
noncomputable abbrev Vals:List V->List Value->Prop:=Paired RelV
theorem Vals.length{xs:List V}{us:List Value}(r:Vals xs us):xs.length=us.length:=xC r
theorem Vals.get:∀{xs:List V} {us:List Value} {i:Nat} {x:V},Vals xs us->xs[i]?=some x->∃u,us[i]?=some u/\RelV x u
|_,_,_,_,.nil,e=>by simp at e
|_,_,0,_,.cons r _,e=>by simp at e;subst e;exact⟨_,rfl,r⟩
|_,_,i+1,x,.cons _ t,e=>by obtain⟨u,h1,h2⟩:=Vals.get (i:=i) (x:=x) t (by simpa using e);exact⟨u,by simpa using h1,h2⟩
theorem Vals.set{x:V}{u:Value}(r:RelV x u):∀{xs:List V} {us:List Value} (i:Nat),Vals xs us->Vals (xs.set i x) (us.set i u)
|_,_,_,.nil=>.nil
|_,_,0,.cons _ t=>.cons r t
|_,_,i+1,.cons q t=>.cons q (Vals.set r i t)
theorem Vals.append:∀{xs ys:List V} {us ws:List Value},Vals xs us->Vals ys ws->Vals (xs++ys) (us++ws)
|_,_,_,_,.nil,s=>s
|_,_,_,_,.cons r t,s=>.cons r (Vals.append t s)
noncomputable def RelO:Option V->Option Value->Prop
|some v,some u=>RelV v u
|none,none=>True
|_,_=>False
noncomputable def KV{κ:Type}:List (κ×V)->List (κ×Value)->Prop:=Paired λ(p:κ×V) (q:κ×Value)=>p.1=q.1/\RelV p.2 q.2
noncomputable def kV:Key->V
| .inl i=>.int i
| .inr x=>.str x
inductive HO where
|lst (xs:List V)
|tup (xs:List V)
|dK (kvs:List (Key×V))|dT (kvs:List (List Key×V))
|set (S:Int->Bool) (n:Nat)
|ins (C dx:Addr) (fs:List (Str×V))
|own (x:Addr)
|xd (fs:List (Str×V))
|met (f x:Addr)
|rng (lo hi:Int)
|frz (o:Obj) (u:HO)
|tbl (ps:Array Value)
|ext (φ:Heap->Prop)
noncomputable abbrev Hp:=Addr->Option HO
noncomputable def upd(H:Hp)(a:Addr)(o:HO):Hp:=λb=>if b=a then some o else H b
theorem qI{H:Hp}{a:Addr}{o:HO}:upd H a o a=some o:=by unfold upd;rw[kM rfl]
theorem qD{H:Hp}{a b:Addr}{o:HO}(h:b≠a):upd H a o b=H b:=by unfold upd;rw[kI h]
theorem q9R{H:Hp}{a:Addr}{o u:HO}:upd (upd H a o) a u=upd H a u:=by funext b;unfold upd;split<;>rfl
theorem jN{H:Hp}{a b:Addr}{o u:HO}(h:H a=some o)(h':H b=some u)(d:o≠u):a≠b:=by intro e;subst e;rw[h]at h';exact d (kQ h')
theorem qH{H:Hp}{a b:Addr}{o:HO}(h:H a=some o)(h':H b=none):a≠b:=by intro e;subst e;rw[h]at h';cases h'
section
variable(P:Program)(w:World)
noncomputable def jL(H:Hp)(h:Heap)(a:Addr):HO->Prop
| .lst xs=>xs.length<=sizeLine/\∃(its:List Value) (n:Nat),Vals xs its/\h.get? a=some { cls:=.type "list",data:=.seq its.toArray n }
| .tup xs=>xs.length<=sizeLine/\∃its:List Value,Vals xs its/\IsTup h a its.toArray
| .dK kvs=>kvs.length<=sizeLine/\(a==sysModules)=false/\∃vs,KV kvs vs/\h.DictOf (jY P w) a vs
| .dT kvs=>kvs.length<=sizeLine/\(a==sysModules)=false/\∃xs:List (List Key×Addr×Value),Paired (λ(p:List Key×V) (q:List Key×Addr×Value)=>p.1=q.1/\H q.2.1=some (.tup (p.1.map kV))/\RelV p.2 q.2.2) kvs xs/\∃o es ep,h.get? a=some o/\o.ExactDict/\o.data=.dict es ep/\es.toList=xs.map (entryOfKey (tupleKind (jY P w)))/\(xs.map (·.1)).Nodup
| .set S n=>h.SetOf (intKind P w) a S n
| .ins C dx fs=>H dx=some (.own a)/\fs.length<=1000/\dx≠a/\h.get? a=some (PySem.W.instObj C dx)/\∃mA,h.Ns1 dx mA/\(∀f,RelO (fs.lookup f) (mA f))/\PySem.Within mA (fs.map (·.1))
| .own _=>∃o,h.get? a=some o
| .xd fs=>∃mA,h.Ns1 a mA/\∀f,RelO (fs.lookup f) (mA f)
| .rng lo hi=>∃t u v,h.get? a=some { cls:=.type "range",data:=.fields #[.int lo t,.int hi u,.int 1 v] }
| .frz o u=>h.get? a=some o/\jL H h a u
| .tbl ps=>h.get? a=some { cls:=.none,data:=.fields ps }
| .met f x=>h.get? a=some (PySem.W.methodObj (.ref f) (.ref x))
| .ext φ=>φ h/\(∃o,h.get? a=some o)/\∀h1 h2:Heap,φ h1->(∀o,h1.get? a=some o->h2.get? a=some o)->φ h2
noncomputable def HOk(H:Hp)(h:Heap):Prop:=∀a o,H a=some o->jL P w H h a o
end
section
variable{P:Program}{w:World}{H H':Hp}{h h':Heap}{a:Addr}{o:HO}
theorem jL.lt(x:jL P w H h a o):a<h.objs.size:=by(
cases o with
|lst xs=>obtain⟨_,_,_,_,e⟩:=x;exact kX e
|tup xs=>obtain⟨_,_,_,p⟩:=x;exact p.lt
|dK kvs=>obtain⟨_,_,_,_,o,_,_,e,_⟩:=x;exact kX e
|dT kvs=>obtain⟨_,_,_,_,o,_,_,e,_⟩:=x;exact kX e
|set S n=>obtain⟨o,_,_,_,e,_⟩:=x;exact kX e
|ins C dx fs=>obtain⟨_,_,_,e,_⟩:=x;exact kX e
|own y=>obtain⟨_,e⟩:=x;exact kX e
|xd fs=>obtain⟨_,⟨_,_,_,e,_⟩,_⟩:=x;exact kX e
|rng z D=>obtain⟨_,_,_,e⟩:=x;exact kX e
|frz d u=>obtain⟨e,_⟩:=x;exact kX e
|tbl ps=>exact kX (show h.get? a=some _ from x)
|met f y=>exact kX (show h.get? a=some _ from x)
|ext φ=>obtain⟨_,⟨_,e⟩,_⟩:=x;exact kX e)
theorem Paired.mapP{α β:Type}{F G:α->β->Prop}:∀{l₁:List α} {l₂:List β},Paired F l₁ l₂->(∀a b,F a b->G a b)->Paired G l₁ l₂
|_,_,.nil,_=>.nil
|_,_,.cons r t,f=>.cons (f _ _ r) (Paired.mapP t f)
theorem jL.stay(x:jL P w H h a o)(k:∀b u,(b=a\/H b=some (.own a))->h.get? b=some u->h'.get? b=some u)
 (ho:∀b,H b=some (.own a)->H' b=some (.own a)) (ht:∀b xs,H b=some (.tup xs)->H' b=some (.tup xs)):jL P w H' h' a o:=by(
induction o with
|lst xs=>obtain⟨z,J,n,r,e⟩:=x;exact⟨z,J,n,r,k _ _ (.inl rfl) e⟩
|tup xs=>obtain⟨z,J,r,D,e,c⟩:=x;exact⟨z,J,r,D,k _ _ (.inl rfl) e,c⟩
|dK kvs=>obtain⟨z,y,U,r,D,es,I,e,c⟩:=x;exact⟨z,y,U,r,D,es,I,k _ _ (.inl rfl) e,c⟩
|dT kvs=>obtain⟨z,y,xs,r,D,es,I,e,c⟩:=x;exact⟨z,y,xs,Paired.mapP r λp q z=>⟨z.1,ht _ _ z.2.1,z.2.2⟩,D,es,I,k _ _ (.inl rfl) e,c⟩
|set S n=>obtain⟨D,es,I,t,e,c⟩:=x;exact⟨D,es,I,t,k _ _ (.inl rfl) e,c⟩
|ins C dx fs=>obtain⟨d,z,ne,e,mA,⟨od,es,I,N,c⟩,r⟩:=x;exact⟨ho _ d,z,ne,k _ _ (.inl rfl) e,mA,⟨od,es,I,k _ _ (.inr d) N,c⟩,r⟩
|own y=>obtain⟨D,e⟩:=x;exact⟨D,k _ _ (.inl rfl) e⟩
|xd fs=>obtain⟨mA,⟨od,es,I,e,c⟩,r⟩:=x;exact⟨mA,⟨od,es,I,k _ _ (.inl rfl) e,c⟩,r⟩
|rng Z hi=>obtain⟨t,u,v,e⟩:=x;exact⟨t,u,v,k _ _ (.inl rfl) e⟩
|frz D u O=>obtain⟨e,q⟩:=x;exact⟨k _ _ (.inl rfl) e,O q⟩
|tbl ps=>have e:h.get? a=some { cls:=.none,data:=.fields ps }:=x;show h'.get? a=some { cls:=.none,data:=.fields ps };exact k a _ (.inl rfl) e
|met f y=>have e:h.get? a=some (PySem.W.methodObj (.ref f) (.ref y)):=x;show h'.get? a=some (PySem.W.methodObj (.ref f) (.ref y));exact k a _ (.inl rfl) e
|ext φ=>obtain⟨p,⟨o,e⟩,st⟩:=x;exact⟨st _ _ p λo q=>k _ _ (.inl rfl) q,⟨o,k _ _ (.inl rfl) e⟩,st⟩)
theorem HOk.lt(x:HOk P w H h)(e:H a=some o):a<h.objs.size:=(x a o e).lt
theorem HOk.fresh(x:HOk P w H h)(e:h.objs.size<=a):H a=none:=by(
cases q:H a with
|none=>rfl
|some u=>exact absurd (mW (x.lt q) e) (rD _))
theorem HOk.kept(x:HOk P w H h)(k:∀b u,h.get? b=some u->h'.get? b=some u):HOk P w H h':=λa o e=>(x a o e).stay (λb u z q=>k b u q) (λz q=>q) λz z q=>q
theorem HOk.laid(x:HOk P w H h)(k:∀b u,h.get? b=some u->h'.get? b=some u)(hp:h.objs.size<=a)(new:jL P w (upd H a o) h' a o):HOk P w (upd H a o) h':=λb u e=>by(
have hn:=x.fresh hp
by_cases hb:b=a
.subst hb;rw[qI]at e;cases e;exact new
rw[qD hb]at e
exact(x b u e).stay (λc v z q=>k c v q) (λc q=>by rw[qD (qH q hn)];exact q) λc xs q=>by rw[qD (qH q hn)];exact q)
end
noncomputable def Rd(H:Hp)(a:Addr)(u:HO):Prop:=H a=some u\/∃o,H a=some (.frz o u)
theorem Rd.ok{P:Program}{w:World}{H:Hp}{h:Heap}{a:Addr}{u:HO}(r:Rd H a u)(x:HOk P w H h):jL P w H h a u:=by(
rcases r with r|⟨o,r⟩
.exact x a u r
obtain⟨_,q⟩:=x a _ r
exact q)
noncomputable def Mut:Option HO->Prop
|some (.lst _)=>True
|some (.dK _)=>True
|some (.dT _)=>True
|some (.set _ _)=>True
|some (.ins _ _ _)=>True
|some (.ext _)=>True
|_=>False
section
variable{P:Program}{w:World}{H:Hp}{h h':Heap}{x e:Addr}{o':HO}
theorem HOk.write(ok:HOk P w H h)(mu:Mut (H x))(he:e=x\/H e=some (.own x))(k:∀b u,b≠e->h.get? b=some u->h'.get? b=some u)(heo:∃u,h'.get? e=some u)
 (new:jL P w (upd H x o') h' x o'):HOk P w (upd H x o') h':=λb u q=>by(
have nown:∀c y,H c=some (.own y)->c≠x:=λc y r z=>by subst z;rw[r]at mu;exact mu
have ntup:∀c xs,H c=some (.tup xs)->c≠x:=λc xs r z=>by subst z;rw[r]at mu;exact mu
by_cases hb:b=x
.subst hb;rw[qI]at q;cases q;exact new
rw[qD hb]at q
by_cases hbe:b=e
.have q':H b=some (.own x):=by
  rcases he with z|z
  .exact absurd (hbe.trans z) hb
  rw[hbe];exact z
 rw[q]at q';cases q';obtain⟨v,hv⟩:=heo;exact⟨v,by rw[hbe];exact hv⟩
refine(ok b u q).stay (λc v hc r=>k c v ?_ r) (λc r=>by rw[qD (nown c b r)];exact r) λc xs r=>by rw[qD (ntup c xs r)];exact r
rcases hc with rfl|hc
.exact hbe
rintro rfl
rcases he with z|z
.exact nown c b hc z
rw[hc]at z;cases z;exact hb rfl)
end
structure Un(fs ex:List Addr)(H H':Hp)(h h':Heap):Prop where
keep:∀b o,h.get? b=some o->H b=none->b∉fs->b∉ex->h'.get? b=some o
slot:∀b o,h.get? b=some o->H b=none->b∈fs->b∉ex->∃sl,h'.get? b=some { o with slots:=sl }
free:∀b o,h.get? b=some o->H b=none->b∉ex->H' b=none
there:∀b o,h.get? b=some o->b∉ex->∃o',h'.get? b=some o'
tups:∀b xs,H b=some (.tup xs)->H' b=some (.tup xs)
frzs:∀b o u,H b=some (.frz o u)->H' b=some (.frz o u)
tbls:∀b ps,H b=some (.tbl ps)->∃more,H' b=some (.tbl (ps++more))
section
variable{fs fs' ex ex':List Addr}{H H1 H2:Hp}{h h1 h2 h':Heap}{a x e:Addr}{o:HO}
theorem Un.any(u:Un fs ex H H1 h h1){b:Addr}{ob:Obj}(q:h.get? b=some ob)(n:H b=none)(hx:b∉ex):∃sl,h1.get? b=some { ob with slots:=sl }:=by(
by_cases d:b∈fs
.exact u.slot b ob q n d hx
exact⟨ob.slots,u.keep b ob q n d hx⟩)
theorem Un.trans(a:Un fs ex H H1 h h1)(b:Un fs ex H1 H2 h1 h2):Un fs ex H H2 h h2 where
keep:=λc ob q n hc hx=>b.keep c ob (a.keep c ob q n hc hx) (a.free c ob q n hx) hc hx
slot:=λc ob q n hc hx=>by obtain⟨sl,e1⟩:=a.slot c ob q n hc hx;obtain⟨sl',e2⟩:=b.slot c _ e1 (a.free c ob q n hx) hc hx;exact⟨sl',e2⟩
free:=λc ob q n hx=>by obtain⟨o',e1⟩:=a.there c ob q hx;exact b.free c o' e1 (a.free c ob q n hx) hx
there:=λc ob q hx=>by obtain⟨o',e1⟩:=a.there c ob q hx;exact b.there c o' e1 hx
tups:=λc xs q=>b.tups c xs (a.tups c xs q)
frzs:=λc ob xs q=>b.frzs c ob xs (a.frzs c ob xs q)
tbls:=λc ps q=>by obtain⟨m1,e1⟩:=a.tbls c ps q;obtain⟨m2,e2⟩:=b.tbls c _ e1;exact⟨m1++m2,by rw[e2,xI]⟩
theorem Un.kept(k:∀b u,h.get? b=some u->h'.get? b=some u):Un fs ex H H h h':=⟨λb ob q z z z=>k b ob q,λb ob q z z z=>⟨ob.slots,k b ob q⟩,λz z z n z=>n,λb ob q z=>⟨ob,k b ob q⟩,λz z q=>q,λz z z q=>q,λz ps q=>⟨#[],by rw[q];simp⟩⟩
theorem Un.refl:Un fs ex H H h h:=Un.kept λz z q=>q
theorem Un.laid(k:∀b u,h.get? b=some u->h'.get? b=some u)(hp:h.objs.size<=a)(hn:H a=none):Un fs ex H (upd H a o) h h' where
keep:=λb u q z z z=>k b u q
slot:=λb u q z z z=>⟨u.slots,k b u q⟩
free:=λb u q n z=>by rw[qD (mR (mW (kX q) hp))];exact n
there:=λb u q z=>⟨u,k b u q⟩
tups:=λb xs q=>by rw[qD (qH q hn)];exact q
frzs:=λb u xs q=>by rw[qD (qH q hn)];exact q
tbls:=λb ps q=>⟨#[],by rw[qD (qH q hn),q];simp⟩
theorem Un.write(mu:Mut (H x))(he:e=x\/H e=some (.own x))(k:∀b u,b≠e->h.get? b=some u->h'.get? b=some u)(heo:∃u,h'.get? e=some u):Un fs ex H (upd H x o) h h':=by(
have J:∀b,H b=none->b≠x:=λb n z=>by subst z;rw[n]at mu;exact mu
have I:∀b,H b=none->b≠e:=λb n z=>by
 subst z;rcases he with r|r
 .exact J b n r
 rw[n]at r;cases r
have D:∀b u,H b=some u->¬Mut (some u)->b≠x:=λb u q nm z=>by subst z;rw[q]at mu;exact nm mu
refine⟨λb u q n U U=>k b u (I b n) q,λb u q n U U=>⟨u.slots,k b u (I b n) q⟩,λb u q n U=>by rw[qD (J b n)];exact n,λb u q U=>?_,λb xs q=>by rw[qD (D b _ q λz=>z)];exact q,λb u xs q=>by rw[qD (D b _ q λz=>z)];exact q,λb ps q=>⟨#[],by rw[qD (D b _ q λz=>z),q];simp⟩⟩
by_cases d:b=e
.subst d;exact heo
exact⟨u,k b u d q⟩)
end
noncomputable def trk(h:Heap)(H:Hp):List Addr:=(List.range h.objs.size).filter λa=>(H a).isSome
noncomputable def hidT(h:Heap)(H:Hp):Heap:=PySem.W.hideAll h (trk h H)
theorem q8U(h:Heap)(H:Hp):(hidT h H).objs.size=h.objs.size:=PySem.W.hideAll_size _ _
theorem q6U{h:Heap}{H:Hp}{b:Addr}{o:Obj}(e:h.get? b=some o)(n:H b=none):(hidT h H).get? b=some o:=PySem.W.hideAll_get _ e λhm=>by  have q:(H b).isSome=true:=(mK.mp hm).2;rw[n]at q;simp at q
theorem qCY{h:Heap}{H:Hp}{b:Addr}{o:Obj}(e:(hidT h H).get? b=some o):h.get? b=some o/\H b=none:=by(
have d:h.get? b=some o:=PySem.W.of_hideAll (trk h H) e
refine⟨d,?_⟩
cases q:H b with
|none=>rfl
|some x=>have D:b∈trk h H:=mK.mpr ⟨mO.mpr (kX d),by simp[q]⟩;have z:(hidT h H).get? b=none:=PySem.W.hideAll_none (trk h H) D;rw[z]at e;cases e)
structure Mod(K:PySem.W.Frag)(mg:Str->Option Value)(base:Heap):Prop where
kin:K.In base
glob:base.Ns mainGlobals mg
blt:∃mb,base.Ns builtinsNs mb/\∀x:Str,x≠"__name__"->mb x=bootBuiltins x
nolimit:base.NoLimit
structure Cx where
prog:Program
w:World
K:PySem.W.Frag
mg:Str->Option Value
base:Heap
A:Around
N:List Str
s₀:Shared
H₀:Hp
env:Env
outer:List Env
stack:List Env
ex:List Addr
fn:Str->Bool
calm:Bool
pn:List (Addr×Obj)
xe:Value->Shared->Prop
noncomputable def frs(l:List Env):List Addr:=l.filterMap (·.frame)
noncomputable abbrev Cx.fs(X:Cx):List Addr:=frs X.outer
noncomputable def Vis(sc:Scope)(x:Str):Prop:=sc.names.lookup x=some .local\/sc.names.lookup x=some .cell\/sc.names.lookup x=some .free
noncomputable def Loc(sc:Scope)(x:Str):Prop:=sc.names.lookup x=some .local\/sc.names.lookup x=some .cell
noncomputable def Look(env:Env)(h:Heap)(m:Str->Option Value)(x:Str)(u:Value):Prop:=(env.kindOf x=some .local/\m x=some u)\/((env.kindOf x=some .cell\/env.kindOf x=some .free)/\∃c,env.cells.lookup x=some c/\h.IsCell c (some u))
structure Cx.Ok(X:Cx):Prop where
mod:Mod X.K X.mg X.base
kind:X.env.scope.kind=.function
glob:X.env.globals=mainGlobals
blt:X.env.builtins=builtinsNs
above:X.s₀.heap.objs.size<=X.env.locals
inj:∀x y c,X.env.cells.lookup x=some c->X.env.cells.lookup y=some c->x=y
has:∀x,(X.env.kindOf x=some .cell\/X.env.kindOf x=some .free)->∃c,X.env.cells.lookup x=some c
cab:∀x c,X.fn x=true->X.env.cells.lookup x=some c->X.s₀.heap.objs.size<=c
hd:X.calm=true->X.A.handled=none
frames:X.A.frames=some X.stack
stk:X.stack=X.outer\/(X.stack=X.env::X.outer/\X.env.frame=some X.env.locals)
exf:∀b∈X.ex,b≠X.env.locals/\∀x c,X.env.cells.lookup x=some c->c≠b
bs:∀b o,X.base.get? b=some o->X.s₀.heap.get? b=some o/\X.H₀ b=none
bsz:X.base.objs.size<=X.s₀.heap.objs.size
noex:∀b o,X.base.get? b=some o->b∉X.ex
exfs:∀b∈X.ex,b∉X.fs
funs:X.s₀.heap.FunFrames X.base X.outer
frf:∀b∈X.fs,X.H₀ b=none
structure Inv(X:Cx)(pins:List (Addr×Obj))(σ:List (Option V))(H:Hp)(s:Shared):Prop where
ok:X.Ok
os:s.os=X.s₀.os
bare:AllBare s.gens
base:Un X.fs X.ex X.H₀ H X.s₀.heap s.heap
loc:∃m,s.heap.Ns X.env.locals m/\∀(i:Nat) (x:Str) (v:V),X.N[i]?=some x->σ[i]?=some (some v)->Vis X.env.scope x->∃u,RelV v u/\Look X.env s.heap m x u
cell:∀x c,X.env.cells.lookup x=some c->∃v,s.heap.IsCell c v
free:H X.env.locals=none
freeC:∀x c,X.env.cells.lookup x=some c->H c=none
pin:∀p∈X.pn++pins,s.heap.get? p.1=some p.2/\H p.1=none/\p.1≠X.env.locals/\p.1∉X.fs/\∀v,p.2.data≠ .cell v
hok:HOk X.prog X.w H s.heap
len:σ.length=X.N.length
section
variable{X:Cx}{pins:List (Addr×Obj)}{σ:List (Option V)}{H H':Hp}{s:Shared}{h':Heap}
theorem Cx.Ok.nofr(ok:X.Ok){b:Addr}{o:Obj}(e:X.base.get? b=some o):b∉X.fs:=λhb=>by have:=(ok.funs.mem hb).1;rw[e]at this;cases this
theorem Inv.bs(I:Inv X pins σ H s):∀b o,X.base.get? b=some o->s.heap.get? b=some o/\H b=none:=λb o e=>⟨I.base.keep b o (I.ok.bs b o e).1 (I.ok.bs b o e).2 (I.ok.nofr e) (I.ok.noex b o e),I.base.free b o (I.ok.bs b o e).1 (I.ok.bs b o e).2 (I.ok.noex b o e)⟩
theorem Inv.bk(I:Inv X pins σ H s):∀b o,X.base.get? b=some o->s.heap.get? b=some o:=λb o e=>(I.bs b o e).1
theorem Inv.mod(I:Inv X pins σ H s):Mod X.K X.mg X.base:=I.ok.mod
theorem Inv.kIn(I:Inv X pins σ H s):X.K.In s.heap:=I.ok.mod.kin.keeps I.bk
theorem Inv.fr(I:Inv X pins σ H s):∃m,Fr X.base X.env.locals s.heap m:=let⟨m,hn,_⟩:=I.loc
 ⟨m,hn,I.bk,mL I.ok.bsz I.ok.above⟩
theorem Inv.lt(I:Inv X pins σ H s):X.env.locals<s.heap.objs.size:=let⟨_,hn,_⟩:=I.loc;hn.lt
theorem Inv.sz(I:Inv X pins σ H s):X.s₀.heap.objs.size<=s.heap.objs.size:=mL I.ok.above (cJ I.lt)
theorem Inv.nofs(I:Inv X pins σ H s){a:Addr}(h:s.heap.objs.size<=a):a∉X.fs:=λhb=>by obtain⟨_,o,ho,_⟩:=I.ok.funs.mem hb;exact absurd (mW (kX ho) (mL I.sz h)) (rD _)
theorem Inv.cne(I:Inv X pins σ H s):∀x c,X.env.cells.lookup x=some c->c≠X.env.locals:=λx c e z=>by obtain⟨v,o,ho,hd⟩:=I.cell x c e;obtain⟨m,⟨o',es,ep,ho',hd',_⟩,_⟩:=I.loc;rw[z,ho']at ho;cases ho;rw[hd']at hd;cases hd
theorem Inv.funs(I:Inv X pins σ H s):s.heap.FunFrames X.base X.outer:=by(
have all:∀(l:List Env),(∀b∈frs l,b∈X.fs)->X.s₀.heap.FunFrames X.base l->s.heap.FunFrames X.base l:=by
 intro l;induction l with
 |nil=>intro _ _;trivial
 |cons env r ih=>intro N hl;obtain⟨U,⟨L,o,J,O,Z,S⟩,hr⟩:=hl;have D:L∈X.fs:=N L (by unfold frs;rw[dU,J];exact kU);obtain⟨sl,e⟩:=I.base.slot L o Z (I.ok.frf L D) D λz=>I.ok.exfs L z D;exact⟨U,⟨L,_,J,O,e,S⟩,ih (λb d=>N b (by unfold frs;rw[dU,J];exact hU _ d)) hr⟩
exact all X.outer (λF d=>d) I.ok.funs)
theorem Inv.stack(I:Inv X pins σ H s):s.heap.FunFrames X.base X.stack:=by(
rcases I.ok.stk with e|⟨e,d⟩
.rw[e];exact I.funs
rw[e]
obtain⟨m,z,_⟩:=I.loc
refine .cons (by rw[I.ok.kind];decide) d z ?_ I.funs
exact cD (mL I.ok.bsz I.ok.above))
theorem Inv.stkSub(I:Inv X pins σ H s):∀b∈frs X.stack,b∈X.env.locals::X.fs:=λb hb=>by(
rcases I.ok.stk with e|⟨e,hf⟩
.rw[e]at hb;exact hU _ hb
rw[e]at hb
unfold frs at hb
rw[dU,hf]at hb
exact hb)
theorem Inv.stkFree(I:Inv X pins σ H s):∀b∈frs X.stack,H b=none:=λb hb=>by(
rcases kN.mp (I.stkSub b hb)with e|hb
.rw[e];exact I.free
obtain⟨_,o,ho,_⟩:=I.ok.funs.mem hb
exact I.base.free b o ho (I.ok.frf b hb) λz=>I.ok.exfs b z hb)
theorem Inv.step{g':Array GenState}{t':Nat}{d':Drawn}{ch:List Addr}(I:Inv X pins σ H s)
 (hch:∀b∈ch,(b∈X.ex\/X.s₀.heap.objs.size<=b)/\b≠X.env.locals/\(∀x c,X.env.cells.lookup x=some c->c≠b)/\∀p∈X.pn++pins,p.1≠b)
 (keep:∀b o,b≠X.env.locals->b∉X.fs->b∉ch->s.heap.get? b=some o->H b=none->h'.get? b=some o)
 (slot:∀b o,b≠X.env.locals->b∈X.fs->b∉ch->s.heap.get? b=some o->H b=none->∃sl,h'.get? b=some { o with slots:=sl }) (free:∀b o,b∉ch->s.heap.get? b=some o->H b=none->H' b=none)
 (there:∀b o,b∉ch->s.heap.get? b=some o->∃o',h'.get? b=some o')
 (tups:∀b xs,H b=some (.tup xs)->H' b=some (.tup xs)) (frzs:∀b o u,H b=some (.frz o u)->H' b=some (.frz o u)) (tbls:∀b ps,H b=some (.tbl ps)->∃more,H' b=some (.tbl (ps++more)))
 (ns:∀m,s.heap.Ns X.env.locals m->h'.Ns X.env.locals m) (hok:HOk X.prog X.w H' h') (hg:AllBare g'):
 Inv X pins σ H' { s with heap:=h',gens:=g',drawn:=d',toks:=t' }:=by(
have ab:∀b o,X.s₀.heap.get? b=some o->b≠X.env.locals:=λb o e=>mR (mW (kX e) I.ok.above)
have S:∀b o,X.s₀.heap.get? b=some o->b∉X.ex->b∉ch:=λb o e D U=>by
 rcases(hch b U).1 with z|z
 .exact D z
 exact absurd (mW (kX e) z) (rD _)
have N:∀x c,X.env.cells.lookup x=some c->∀v,s.heap.IsCell c v->h'.IsCell c v:=λx c e v ⟨o,Z,hd⟩=>by
 have J:c∉ch:=λz=>(hch c z).2.2.1 x c e rfl;by_cases hc:c∈X.fs
 .obtain⟨sl,q⟩:=slot c o (I.cne x c e) hc J Z (I.freeC x c e);exact⟨_,q,hd⟩
 exact⟨o,keep c o (I.cne x c e) hc J Z (I.freeC x c e),hd⟩
refine⟨I.ok,I.os,hg,⟨λb o e n U D=>?_,λb o e n U D=>?_,λb o e n D=>?_,λb o e D=>?_,λb xs e=>tups b xs (I.base.tups b xs e),λb o xs e=>frzs b o xs (I.base.frzs b o xs e),λb ps e=>?_⟩,?_,λx c e=>?_,?_,λx c e=>?_,λp hp=>?_,hok,I.len⟩
.exact keep b o (ab b o e) U (S b o e D) (I.base.keep b o e n U D) (I.base.free b o e n D)
.obtain⟨sl,O⟩:=I.base.slot b o e n U D;obtain⟨ac,e2⟩:=slot b _ (ab b o e) U (S b o e D) O (I.base.free b o e n D);exact⟨ac,e2⟩
.obtain⟨o',O⟩:=I.base.there b o e D;exact free b o' (S b o e D) O (I.base.free b o e n D)
.obtain⟨o',O⟩:=I.base.there b o e D;exact there b o' (S b o e D) O
.obtain⟨m1,O⟩:=I.base.tbls b ps e;obtain⟨m2,e2⟩:=tbls b _ O;exact⟨m1++m2,by rw[e2,xI]⟩
.obtain⟨m,hn,hl⟩:=I.loc;refine⟨m,ns m hn,λi x v O e2 e3=>?_⟩;obtain⟨u,r,l⟩:=hl i x v O e2 e3;refine⟨u,r,?_⟩;rcases l with l|⟨k,c,e,z⟩
 .exact .inl l
 exact .inr ⟨k,c,e,N x c e _ z⟩
.obtain⟨v,z⟩:=I.cell x c e;exact⟨v,N x c e v z⟩
.obtain⟨m,⟨o,_,_,Z,_⟩,_⟩:=I.loc;exact free _ o (λz=>(hch _ z).2.1 rfl) Z I.free
.obtain⟨v,o,Z,hd⟩:=I.cell x c e;exact free c o (λz=>(hch c z).2.2.1 x c e rfl) Z (I.freeC x c e)
obtain⟨e,n,ne,nf,d⟩:=I.pin p hp
have J:p.1∉ch:=λz=>(hch p.1 z).2.2.2 p hp rfl
exact⟨keep p.1 p.2 ne nf J e n,free p.1 p.2 J e n,ne,nf,d⟩)
theorem Inv.un{t':Nat}(I:Inv X pins σ H s)(u:Un X.fs [] H H' s.heap h')(hok:HOk X.prog X.w H' h'):Inv X pins σ H' { s with heap:=h',toks:=t' }:=by obtain⟨m,⟨o,es,ep,O,r⟩,_⟩:=id I.loc;obtain⟨sl,S⟩:=u.any O I.free (by simp);exact I.step (g':=s.gens) (d':=s.drawn) (ch:=[]) (λF z=>nomatch z) (λb o F D F e n=>u.keep b o e n D (by simp)) (λb o F D F e n=>u.slot b o e n D (by simp)) (λb o F e n=>u.free b o e n (by simp)) (λb o F e=>u.there b o e (by simp)) u.tups u.frzs u.tbls (λm' Z=>by obtain⟨o',N,J,d,U⟩:=Z;rw[O]at d;cases d;exact⟨_,N,J,S,U⟩) hok I.bare
theorem Inv.call{g':Array GenState}{t':Nat}{d':Drawn}{ch:List Addr}(I:Inv X pins σ H s)(u:Un (frs X.stack) ch H H' s.heap h')(hok:HOk X.prog X.w H' h')(hg:AllBare g')
 (hch:∀b∈ch,(b∈X.ex\/X.s₀.heap.objs.size<=b)/\b≠X.env.locals/\(∀x c,X.env.cells.lookup x=some c->c≠b)/\∀p∈X.pn++pins,p.1≠b):
 Inv X pins σ H' { s with heap:=h',gens:=g',drawn:=d',toks:=t' }:=by obtain⟨m,⟨o,es,ep,S,r⟩,_⟩:=id I.loc;obtain⟨sl,J⟩:=u.any S I.free λz=>(hch _ z).2.1 rfl;exact I.step (ch:=ch) hch (λb o J U d e n=>u.keep b o e n (λz=>(kN.mp (I.stkSub b z)).elim J U) d) (λb o F F d e n=>u.any e n d) (λb o d e n=>u.free b o e n d) (λb o d e=>u.there b o e d) u.tups u.frzs u.tbls (λm' hm=>by obtain⟨o',O,N,D,Z⟩:=hm;rw[S]at D;cases D;exact⟨_,O,N,J,Z⟩) hok hg
theorem Inv.turned{t':Nat}{it:Addr}(I:Inv X pins σ H s)(k:∀b o,b≠it->s.heap.get? b=some o->h'.get? b=some o)(hn:H it=none)(hL:it≠X.env.locals)
 (h1:it∈X.ex\/X.s₀.heap.objs.size<=it) (h2:∀x c,X.env.cells.lookup x=some c->c≠it) (h3:∀p∈X.pn++pins,p.1≠it):Inv X pins σ H { s with heap:=h',toks:=t' }:=by(
have D:∀b u,H b=some u->b≠it:=λb u e z=>by rw[z,hn]at e;cases e
refine I.step (g':=s.gens) (d':=s.drawn) (ch:=[it]) (λb J=>?_) (λb o U U d e U=>k b o (λz=>d (by simp[z])) e) (λb o U U d e U=>⟨o.slots,k b o (λz=>d (by simp[z])) e⟩) (λU U U U n=>n)
 (λb o d e=>⟨o,k b o (λz=>d (by simp[z])) e⟩) (λU U e=>e) (λU U U e=>e) (λb ps e=>⟨#[],by rw[e];simp⟩) (λm S=>?_) (λb u e=>?_) I.bare
.have e:b=it:=by simpa using J
 subst e;exact⟨h1,hL,h2,h3⟩
.obtain⟨o,es,N,O,r⟩:=S;exact⟨o,es,N,k _ o (wD hL) O,r⟩
refine(I.hok b u e).stay (λc v d q=>k c v ?_ q) (λU q=>q) λU U q=>q
rcases d with z|z
.rw[z];exact D b u e
exact D c _ z)
theorem Inv.tok(I:Inv X pins σ H s)(t:Nat):Inv X pins σ H { s with toks:=t }:=I.un (h':=s.heap) (t':=t) Un.refl I.hok
theorem Inv.kept{t':Nat}(I:Inv X pins σ H s)(k:∀b u,s.heap.get? b=some u->h'.get? b=some u):Inv X pins σ H { s with heap:=h',toks:=t' }:=I.un (Un.kept k) (I.hok.kept k)
theorem Inv.laid{a:Addr}{o:HO}{t':Nat}(I:Inv X pins σ H s)(k:∀b u,s.heap.get? b=some u->h'.get? b=some u)(hp:s.heap.objs.size<=a)(new:jL X.prog X.w (upd H a o) h' a o):
 Inv X pins σ (upd H a o) { s with heap:=h',toks:=t' }:=I.un (Un.laid k hp (I.hok.fresh hp)) (I.hok.laid k hp new)
theorem Inv.write{x e:Addr}{o:HO}{t':Nat}(I:Inv X pins σ H s)(mu:Mut (H x))(he:e=x\/H e=some (.own x))(k:∀b u,b≠e->s.heap.get? b=some u->h'.get? b=some u)(heo:∃u,h'.get? e=some u)
 (new:jL X.prog X.w (upd H x o) h' x o):Inv X pins σ (upd H x o) { s with heap:=h',toks:=t' }:=I.un (Un.write mu he k heo) (I.hok.write mu he k heo new)
theorem Inv.weak{σ':List (Option V)}(I:Inv X pins σ H s)(hl:σ'.length=σ.length)(w:∀(i:Nat) v,σ'[i]?=some (some v)->σ[i]?=some (some v)):Inv X pins σ' H s:=⟨I.ok,I.os,I.bare,I.base,let⟨m,hn,hl'⟩:=I.loc;⟨m,hn,λi x v e1 e2 e3=>hl' i x v e1 (w i v e2) e3⟩,I.cell,I.free,I.freeC,I.pin,I.hok,hl.trans I.len⟩
theorem Inv.pins_of{pins':List (Addr×Obj)}(I:Inv X pins σ H s)(h:∀p∈pins',s.heap.get? p.1=some p.2/\H p.1=none/\p.1≠X.env.locals/\p.1∉X.fs/\∀v,p.2.data≠ .cell v):Inv X pins' σ H s:=⟨I.ok,I.os,I.bare,I.base,I.loc,I.cell,I.free,I.freeC,λp hp=>(gJ.mp hp).elim (λz=>I.pin p (gC _ z)) (h p),I.hok,I.len⟩
theorem q6V{N:List Str}(hN:N.Nodup){i j:Nat}{x:Str}(a:N[i]?=some x)(b:N[j]?=some x):i=j:=by obtain⟨h1,z⟩:=kC.mp a;obtain⟨h2,d⟩:=kC.mp b;exact(List.getElem_inj hN).mp (z.trans d.symm)
theorem q8V{M:Model}{A:Around}{E:Value->Shared->Prop}{i:Nat}{x:Str}{v:V}{u:Value}{Q:Unit->Shared->Prop}(I:Inv X pins σ H s)(hN:X.N.Nodup)(hi:X.N[i]?=some x)(hx:Loc X.env.scope x)(r:RelV v u)
 (h:∀s',Inv X pins (σ.set i (some v)) H s'->(∃a,Heap.SameBut a s.heap s'.heap/\(a=X.env.locals\/X.env.cells.lookup x=some a))->Q () s') (hf:X.fn x=true\/X.env.scope.names.lookup x=some .local:=by first|exact .inl rfl|exact .inr rfl|assumption):wpAny M A (storeName X.env x u) Q E s:=by(
obtain⟨m,hn,hl⟩:=id I.loc
have ag:(X.env.scope.kind== .class||(X.env.scope.kind== .module&&X.env.locals !=X.env.globals))=false:=by rw[I.ok.kind];rfl
have ah:i<σ.length:=by rw[I.len];exact(kC.mp hi).1
have cne:=I.cne
have O:∀{a:Addr} {h':Heap},(∃o,s.heap.get? a=some o/\H a=none)->Heap.SameBut a s.heap h'->HOk X.prog X.w H h':=fun {a h'} ha D b ob e=>by
 obtain⟨_,_,U⟩:=ha;refine(I.hok b ob e).stay (λc w' S q=>(D.2 c ?_).trans q) (λF q=>q) λF F q=>q;rintro rfl
 rcases S with rfl|S
 .rw[U]at e;cases e
 rw[U]at S;cases S
rcases hx with hk|hk
.refine wpAny_storeName_local hk hn (λh' aw D=>?_) ag;obtain⟨oL,_,_,au,_⟩:=id hn;refine h _ ⟨I.ok,I.os,I.bare,⟨λb o e n hb hx=>?_,λb o e n hb hx=>?_,I.base.free,λb o e hx=>?_,I.base.tups,I.base.frzs,I.base.tbls⟩,⟨_,aw,λj y v' J Z e3=>?_⟩,λy c e=>?_,I.free,I.freeC,λp hp=>?_,O ⟨oL,au,I.free⟩ D,by simpa using I.len⟩ ⟨_,D,.inl rfl⟩
 .exact(D.2 b (mR (mW (kX e) I.ok.above))).trans (I.base.keep b o e n hb hx)
 .obtain⟨sl,J⟩:=I.base.slot b o e n hb hx;exact⟨sl,(D.2 b (mR (mW (kX e) I.ok.above))).trans J⟩
 .obtain⟨o',J⟩:=I.base.there b o e hx;exact⟨o',(D.2 b (mR (mW (kX e) I.ok.above))).trans J⟩
 .by_cases hj:j=i
  .subst hj;rw[hi]at J;cases J;rw[nP ah]at Z;cases Z;exact⟨u,r,.inl ⟨hk,by simp⟩⟩
  rw[wE (wD hj)]at Z;obtain⟨u',r',q⟩:=hl j y v' J Z e3;refine⟨u',r',?_⟩;rcases q with⟨k,e⟩|⟨k,c,e,z⟩
  .refine .inl ⟨k,?_⟩;have:y≠x:=λe=>hj (q6V hN J (e▸hi));simp[this,e]
  exact .inr ⟨k,c,e,z.sameBut D (cne y c e)⟩
 .obtain⟨w',z⟩:=I.cell y c e;exact⟨w',z.sameBut D (cne y c e)⟩
 obtain⟨e,n,ne,nf,d⟩:=I.pin p hp;exact⟨(D.2 p.1 ne).trans e,n,ne,nf,d⟩
have ad:X.fn x=true:=by
 rcases hf with z|z
 .exact z
 rw[z]at hk;cases hk
obtain⟨c,S⟩:=I.ok.has x (.inl hk)
obtain⟨w',z⟩:=I.cell x c S
refine wpAny_storeName_cell I.ok.kind hk S z (λh' aj D=>?_)
obtain⟨oc,ae,af⟩:=id z
refine h { s with heap:=h' } ⟨I.ok,I.os,I.bare,⟨λb o e n hb hx=>?_,λb o e n hb hx=>?_,I.base.free,λb o e hx=>?_,I.base.tups,I.base.frzs,I.base.tbls⟩,⟨m,hn.sameBut D (wD (cne x c S)),λj y v' J Z e3=>?_⟩,λy c' e=>?_,I.free,I.freeC,λp hp=>?_,O ⟨oc,ae,I.freeC x c S⟩ D,by simpa using I.len⟩ ⟨c,D,.inr S⟩
.exact(D.2 b (mR (mW (kX e) (I.ok.cab x c ad S)))).trans (I.base.keep b o e n hb hx)
.obtain⟨sl,J⟩:=I.base.slot b o e n hb hx;exact⟨sl,(D.2 b (mR (mW (kX e) (I.ok.cab x c ad S)))).trans J⟩
.obtain⟨o',J⟩:=I.base.there b o e hx;exact⟨o',(D.2 b (mR (mW (kX e) (I.ok.cab x c ad S)))).trans J⟩
.by_cases hj:j=i
 .subst hj;rw[hi]at J;cases J;rw[nP ah]at Z;cases Z;exact⟨u,r,.inr ⟨.inl hk,c,S,aj⟩⟩
 rw[wE (wD hj)]at Z;obtain⟨u',r',q⟩:=hl j y v' J Z e3;refine⟨u',r',?_⟩;rcases q with q|⟨k,c',e,z'⟩
 .exact .inl q
 refine .inr ⟨k,c',e,z'.sameBut D ?_⟩;rintro rfl
 exact hj (q6V hN J (I.ok.inj _ _ _ e S▸hi))
.by_cases ai:c'=c
 .subst ai;exact⟨_,aj⟩
 obtain⟨w2,z2⟩:=I.cell y c' e;exact⟨w2,z2.sameBut D ai⟩
obtain⟨e,n,ne,nf,d⟩:=I.pin p hp
refine⟨(D.2 p.1 ?_).trans e,n,ne,nf,d⟩
intro q
rw[q,ae]at e
have q':oc=p.2:=kQ e
exact d w' (by rw[<-q'];exact af))
theorem q4H{M:Model}{A:Around}{E:Value->Shared->Prop}{i:Nat}{x:Str}{v:V}{u:Value}{Q:Unit->Shared->Prop}(I:Inv X pins σ H s)(hN:X.N.Nodup)(hi:X.N[i]?=some x)(hx:Loc X.env.scope x)(r:RelV v u)
 (h:∀s',Inv X pins (σ.set i (some v)) H s'->Q () s') (hf:X.fn x=true\/X.env.scope.names.lookup x=some .local:=by first|exact .inl rfl|exact .inr rfl|assumption):wpAny M A (storeName X.env x u) Q E s:=q8V I hN hi hx r (λs' I' z=>h s' I') hf
theorem Inv.call'{s':Shared}{ch:List Addr}(I:Inv X pins σ H s)(ho:s'.os=s.os)(u:Un (frs X.stack) ch H H' s.heap s'.heap)(hok:HOk X.prog X.w H' s'.heap)(hg:AllBare s'.gens)
 (hch:∀b∈ch,(b∈X.ex\/X.s₀.heap.objs.size<=b)/\b≠X.env.locals/\(∀x c,X.env.cells.lookup x=some c->c≠b)/\∀p∈X.pn++pins,p.1≠b):Inv X pins σ H' s':=by(
obtain⟨h',g',d',t',o'⟩:=s'
have e:o'=s.os:=ho
subst e
exact I.call (g':=g') (t':=t') (d':=d') u hok hg hch)
end
noncomputable abbrev XK:=Value->Option Addr->Hp->Prop
noncomputable abbrev St:=List (Option V)
noncomputable abbrev VK:=V->Hp->Prop
noncomputable abbrev TE:=St->Hp->VK->Prop
noncomputable abbrev TT:=St->Hp->(Bool->Hp->Prop)->Prop
noncomputable abbrev TA:=St->Hp->(List V->Hp->Prop)->Prop
structure Ends where
nx:St->Hp->Prop
rt:VK
bk:St->Hp->Prop:=λ_ _=>False
ct:St->Hp->Prop:=λ_ _=>False
noncomputable abbrev TS:=Ends->St->Hp->Prop
inductive EP(X:Cx)(pins:List (Addr×Obj))(σ:St)(Q:VK)(u:Value)(s':Shared):Prop|mk (v) (H') (I:Inv X pins σ H' s') (r:RelV v u) (q:Q v H'):EP X pins σ Q u s'
inductive TP(X:Cx)(pins:List (Addr×Obj))(σ:St)(Q:Bool->Hp->Prop)(b:Bool)(s':Shared):Prop|mk (H') (I:Inv X pins σ H' s') (q:Q b H'):TP X pins σ Q b s'
inductive AP(X:Cx)(pins:List (Addr×Obj))(σ:St)(Q:List V->Hp->Prop)(us:List Value)(s':Shared):Prop|mk (vs) (H') (I:Inv X pins σ H' s') (r:Vals vs us) (q:Q vs H'):AP X pins σ Q us s'
noncomputable def SP(X:Cx)(pins:List (Addr×Obj))(D:Ends)(f:Flow)(s':Shared):Prop:=match f with
| .next=>∃σ' H',Inv X pins σ' H' s'/\D.nx σ' H'
| .brk=>∃σ' H',Inv X pins σ' H' s'/\D.bk σ' H'
| .cont=>∃σ' H',Inv X pins σ' H' s'/\D.ct σ' H'
| .ret u=>∃v σ' H',Inv X pins σ' H' s'/\RelV v u/\D.rt v H'
noncomputable def PE(X:Cx)(e:Expr)(t:TE):Prop:=∀(pins:List (Addr×Obj)) (s:Shared) (σ:St) (H:Hp) (Q:VK),Inv X pins σ H s->t σ H Q->wpAny (model X.prog X.w) X.A (eval e X.env) (EP X pins σ Q) X.xe s
noncomputable def PT(X:Cx)(e:Expr)(t:TT):Prop:=∀(pins:List (Addr×Obj)) (s:Shared) (σ:St) (H:Hp) (Q:Bool->Hp->Prop),Inv X pins σ H s->t σ H Q->wpAny (model X.prog X.w) X.A (isTrue e X.env (eval e X.env)) (TP X pins σ Q) X.xe s
noncomputable def PW(X:Cx)(e:Expr)(t:TT):Prop:=∀(whole:Sem Value) (pins:List (Addr×Obj)) (s:Shared) (σ:St) (H:Hp) (Q:Bool->Hp->Prop),Inv X pins σ H s->t σ H Q->wpAny (model X.prog X.w) X.A (isTrue e X.env whole) (TP X pins σ Q) X.xe s
theorem PW.pt{X:Cx}{e:Expr}{t:TT}(h:PW X e t):PT X e t:=h _
noncomputable def PA(X:Cx)(es:List Expr)(t:TA):Prop:=∀(pos:Pos) (pins:List (Addr×Obj)) (s:Shared) (σ:St) (H:Hp) (Q:List V->Hp->Prop),Inv X pins σ H s->t σ H Q->wpAny (model X.prog X.w) X.A (spliced (backTo pos (starEach es X.env))) (AP X pins σ Q) X.xe s
noncomputable def PS(X:Cx)(st:Stmt)(t:TS):Prop:=∀(pins:List (Addr×Obj)) (s:Shared) (σ:St) (H:Hp) (D:Ends),Inv X pins σ H s->t D σ H->wpAny (model X.prog X.w) X.A (exec st X.env) (SP X pins D) X.xe s
noncomputable def PSs(X:Cx)(st:List Stmt)(t:TS):Prop:=∀(pins:List (Addr×Obj)) (s:Shared) (σ:St) (H:Hp) (D:Ends),Inv X pins σ H s->t D σ H->wpAny (model X.prog X.w) X.A (execs st X.env) (SP X pins D) X.xe s
theorem thn{α:Type}{t:Sem α}{Q Q':α->Shared->Prop}{M:Model}{A:Around}{E:Value->Shared->Prop}{s:Shared}(h:wpAny M A t Q E s)(hQ:∀a s,Q a s->Q' a s):wpAny M A t Q' E s:=g4 h hQ λz z x=>x
section
variable{X:Cx}
theorem bin{a b:Expr}{ta tb:TE}(ha:PE X a ta)(hb:PE X b tb){pins:List (Addr×Obj)}{s:Shared}{σ:St}{H:Hp}{R:V->V->Hp->Prop}(I:Inv X pins σ H s)(h:ta σ H λx H1=>tb σ H1 λy H2=>R x y H2)
 {α:Type} {Q:α->Shared->Prop} {f:Value->Value->Sem α}
 (hf:∀v u s2 x y H2,Inv X pins σ H2 s2->RelV x v->RelV y u->R x y H2->wpAny (model X.prog X.w) X.A (f v u) Q X.xe s2):
 wpAny (model X.prog X.w) X.A (eval a X.env) (λv s₁=>wpAny (model X.prog X.w) X.A (eval b X.env) (λu s₂=>wpAny (model X.prog X.w) X.A (f v u) Q X.xe s₂) X.xe s₁) X.xe s:=by(
refine thn (ha pins s σ H _ I h) λv O d=>?_
obtain⟨x,H1,J,N,S⟩:=d
refine thn (hb pins O σ H1 _ J S) λu s2 d=>?_
obtain⟨y,H2,D,r2,z⟩:=d
exact hf v u s2 x y H2 D N r2 z)
noncomputable def tVar(i:Nat):TE:=λσ H Q=>∃v,σ[i]?=some (some v)/\Q v H
noncomputable def tC(v:V):TE:=λz H Q=>Q v H
theorem qJV{i:Nat}{x:Str}{pos:Pos}(hN:X.N[i]?=some x)(hv:Vis X.env.scope x)(hd:(x==("__debug__":Str))=false:=by decide)(hcd:(x==("__classdict__":Str))=false:=by decide):PE X (.Name x pos) (tVar i):=by(
intro pins s σ H Q I h
obtain⟨v,e,h⟩:=h
obtain⟨m,z,hl⟩:=I.loc
obtain⟨u,r,l⟩:=hl i x v hN e hv
have fin:EP X pins σ Q u s:=⟨v,H,I,r,h⟩
rcases l with⟨d,hm⟩|⟨d,c,hc,hcell⟩
.exact bD (lJ I.ok.kind d z hm fin) hd
rcases d with d|d
.exact bD (lU I.ok.kind d hc hcell fin) hd
exact bD (wpAny_loadName_free I.ok.kind d hc hcell fin hcd) hd)
theorem qG{i j pos}:PE X (.Constant (.int i) j pos) (tC (.int i)):=λz z z H z I h=>wpAny_Constant_int ⟨.int i,H,I.tok _,⟨_,rfl⟩,h⟩
theorem q3K{b j pos}:PE X (.Constant (.bool b) j pos) (tC (.bl b)):=λz z z H z I h=>Constant_bool ⟨.bl b,H,I,rfl,h⟩
theorem yI{j pos}:PE X (.Constant .none j pos) (tC .non):=λz z z H z I h=>Constant_none ⟨.non,H,I,rfl,h⟩
theorem yZ{x j pos}:PE X (.Constant (.str x) j pos) (tC (.str x)):=λz z z H z I h=>Calls.Constant_str ⟨.str x,H,I.tok _,⟨_,rfl⟩,h⟩
noncomputable def Gl(X:Cx)(x:Str):Prop:=X.env.kindOf x=some .globalImplicit
theorem q08{E:Value->Shared->Prop}{pins:List (Addr×Obj)}{s:Shared}{σ:St}{H:Hp}{x:Str}{u:Value}{pos:Pos}{Q:Value->Shared->Prop}(I:Inv X pins σ H s)(hg:Gl X x)(hm:X.mg x=some u)(h:Q u s)
 (hd:(x==("__debug__":Str))=false:=by decide):wpAny (model X.prog X.w) X.A (eval (.Name x pos) X.env) Q E s:=sG I.ok.kind hg (Calls.loadGlobal_global (by rw[I.ok.glob];exact I.mod.glob.keeps I.bk) hm h) hd
theorem q25{E:Value->Shared->Prop}{pins:List (Addr×Obj)}{s:Shared}{σ:St}{H:Hp}{x:Str}{u:Value}{pos:Pos}{Q:Value->Shared->Prop}(I:Inv X pins σ H s)(hg:Gl X x)(hm:X.mg x=none)(hv:bootBuiltins x=some u)(h:Q u s)
 (hn:x≠"__name__":=by decide) (hd:(x==("__debug__":Str))=false:=by decide):wpAny (model X.prog X.w) X.A (eval (.Name x pos) X.env) Q E s:=by obtain⟨d,h1,h2⟩:=I.mod.blt;exact sG I.ok.kind hg (Calls.loadGlobal_builtin (by rw[I.ok.glob];exact I.mod.glob.keeps I.bk) hm (by rw[I.ok.blt];exact h1.keeps I.bk) ((h2 x hn).trans hv) h) hd
theorem jT{x:Str}{v:V}{u:Value}{pos:Pos}(hg:Gl X x)(hm:X.mg x=some u)(r:RelV v u)(hd:(x==("__debug__":Str))=false:=by decide):PE X (.Name x pos) (tC v):=λz z z H z I h=>q08 I hg hm ⟨v,H,I,r,h⟩ hd
theorem qCZ{x:Str}{v:V}{u:Value}{pos:Pos}(hg:Gl X x)(hm:X.mg x=none)(hv:bootBuiltins x=some u)(r:RelV v u)(hn:x≠"__name__":=by decide)(hd:(x==("__debug__":Str))=false:=by decide):PE X (.Name x pos) (tC v):=λz z z H z I h=>q25 I hg hm hv ⟨v,H,I,r,h⟩ hn hd
variable{a b:Expr}{ta tb:TE}{pos:Pos}
noncomputable def PC(X:Cx)(op:CmpOp)(a b:Expr)(t:TE):Prop:=∀(pins:List (Addr×Obj)) (s:Shared) (σ:St) (H:Hp) (Q:VK),Inv X pins σ H s->t σ H Q->wpAny (model X.prog X.w) X.A (eval a X.env) (λv s₁=>wpAny (model X.prog X.w) X.A (eval b X.env) (λu s₂=>wpAny (model X.prog X.w) X.A (compareOp op v u) (EP X pins σ Q) X.xe s₂) X.xe s₁) X.xe s
noncomputable def tB(t:TE):TT:=λσ H Q=>t σ H λx H1=>∃c,x=.bl c/\Q c H1
theorem qJW{op:CmpOp}{t:TE}(h:PC X op a b t)(h1:behindInMarks op b=false:=by first|exact nobehind _ (by decide) (by decide)|rfl):PE X (.Compare a [op] [b] pos) t:=λpins s σ H Q I hw=>wpAny_Compare1 (h pins s σ H Q I hw) h1
theorem qC3{op:CmpOp}{t:TE}(h:PC X op a b t)(h1:behindInMarks op b=false:=by first|exact nobehind _ (by decide) (by decide)|rfl):PT X (.Compare a [op] [b] pos) (tB t):=by(
intro pins s σ H Q I N
refine lE (thn (h pins s σ H _ I N) λv Z h1=>thn h1 λu S h2=>thn h2 λc U z=>?_) h1
obtain⟨x,H1,D,J,O⟩:=z
obtain⟨d,rfl,q⟩:=O
cases J
exact gY ⟨H1,D,q⟩)
theorem jS{e:Expr}{t:TE}(h:PE X e t)(he:∀whole,isTrue e X.env whole=(do let v<-whole;standAt e.pos;holding [v] (truthy v)):=by intro _;rfl):PT X e (tB t):=by(
intro pins s σ H Q I N
refine isTrue_plain (thn (h pins s σ H _ I N) λv S z=>?_) (he _)
obtain⟨x,H1,D,J,O⟩:=z
obtain⟨d,rfl,q⟩:=O
cases J
exact gY ⟨H1,D,q⟩)
variable{tA tB':TT}{rest:List Expr}
noncomputable def tAnd(t u:TT):TT:=λσ H Q=>t σ H λc H1=>if c=true then u σ H1 Q else Q false H1
noncomputable def tOr(t u:TT):TT:=λσ H Q=>t σ H λc H1=>if c=true then Q true H1 else u σ H1 Q
noncomputable def tNot(t:TT):TT:=λσ H Q=>t σ H λc H1=>Q (!c) H1
theorem q6J(ha:PT X a tA):PW X (.BoolOp .And [a] pos) tA:=by(
intro z pins s σ H Q I h
refine isTrue_and (thn (ha pins s σ H Q I h) λc d e=>?_)
cases c with
|true=>exact isTrue_and_nil e
|false=>exact e)
theorem q6W(ha:PT X a tA):PW X (.BoolOp .Or [a] pos) tA:=by(
intro z pins s σ H Q I h
refine isTrue_or (thn (ha pins s σ H Q I h) λc d e=>?_)
cases c with
|false=>exact isTrue_or_nil e
|true=>exact e)
theorem q9S(ha:PT X a tA)(hb:PW X (.BoolOp .And (b::rest) pos) tB'):PW X (.BoolOp .And (a::b::rest) pos) (tAnd tA tB'):=by(
intro J pins s σ H Q I h
refine isTrue_and (thn (ha pins s σ H _ I h) λc N D=>?_)
obtain⟨H1,d,z⟩:=D
cases c with
|true=>exact hb J pins N σ H1 Q d z
|false=>exact⟨H1,d,z⟩)
theorem q8W(ha:PT X a tA)(hb:PW X (.BoolOp .Or (b::rest) pos) tB'):PW X (.BoolOp .Or (a::b::rest) pos) (tOr tA tB'):=by(
intro J pins s σ H Q I h
refine isTrue_or (thn (ha pins s σ H _ I h) λc N D=>?_)
obtain⟨H1,d,z⟩:=D
cases c with
|true=>exact⟨H1,d,z⟩
|false=>exact hb J pins N σ H1 Q d z)
theorem yU(ha:PT X a tA):PT X (.UnaryOp .Not a pos) (tNot tA):=by intro pins s σ H Q I h;exact isTrue_not (thn (ha pins s σ H (λc H1=>Q (!c) H1) I h) λc z ⟨H1,d,q⟩=>⟨H1,d,q⟩)
noncomputable def qLR(ta tb:TE):TE:=λσ H Q=>ta σ H λx H1=>∃c,x=.bl c/\if c=true then tb σ H1 Q else Q (.bl false) H1
noncomputable def tOrV(ta tb:TE):TE:=λσ H Q=>ta σ H λx H1=>∃c,x=.bl c/\if c=true then Q (.bl true) H1 else tb σ H1 Q
noncomputable def qLS(ta:TE):TE:=λσ H Q=>ta σ H λx H1=>∃c,x=.bl c/\Q (.bl (!c)) H1
theorem q26{op}{t:TE}(h:PE X a t):PE X (.BoolOp op [a] pos) t:=λpins s σ H Q I hw=>BoolOp_one (h pins s σ H Q I hw)
theorem q58(ha:PE X a ta)(hb:PE X (.BoolOp .And (b::rest) pos) tb):PE X (.BoolOp .And (a::b::rest) pos) (qLR ta tb):=by(
intro pins s σ H Q I h
refine BoolOp_and (thn (ha pins s σ H _ I h) λv N D=>?_)
obtain⟨x,H1,z,J,d⟩:=D
obtain⟨c,rfl,d⟩:=d
cases J
refine gY ?_
cases c with
|true=>exact hb pins N σ H1 Q z d
|false=>exact⟨.bl false,H1,z,rfl,d⟩)
theorem qJC(ha:PE X a ta)(hb:PE X (.BoolOp .Or (b::rest) pos) tb):PE X (.BoolOp .Or (a::b::rest) pos) (tOrV ta tb):=by(
intro pins s σ H Q I h
refine BoolOp_or (thn (ha pins s σ H _ I h) λv N D=>?_)
obtain⟨x,H1,z,J,d⟩:=D
obtain⟨c,rfl,d⟩:=d
cases J
refine gY ?_
cases c with
|false=>exact hb pins N σ H1 Q z d
|true=>exact⟨.bl true,H1,z,rfl,d⟩)
theorem qEX(ha:PE X a ta):PE X (.UnaryOp .Not a pos) (qLS ta):=by(
intro pins s σ H Q I h
refine UnaryOp_ (thn (ha pins s σ H _ I h) λv N z=>?_)
obtain⟨x,H1,D,J,d⟩:=z
obtain⟨c,rfl,d⟩:=d
cases J
exact not_of (gY ⟨.bl (!c),H1,D,rfl,d⟩))
noncomputable def tIf(t:TT)(ta tb:TE):TE:=λσ H Q=>t σ H λc H1=>if c=true then ta σ H1 Q else tb σ H1 Q
theorem qEY{c:Expr}(hc:PT X c tA)(ha:PE X a ta)(hb:PE X b tb):PE X (.IfExp c a b pos) (tIf tA ta tb):=by(
intro pins s σ H Q I h
refine wpAny_IfExp (thn (hc pins s σ H _ I h) λd z N=>?_)
obtain⟨H1,D,J⟩:=N
cases d with
|true=>exact ha pins z σ H1 Q D J
|false=>exact hb pins z σ H1 Q D J)
end
noncomputable def SqL(K:PySem.W.Frag)(H:Hp)(a:Addr)(xs:List V):Prop:=Rd H a (.lst xs)\/∃(o:Obj) (its:Array Value) (n:Nat),K.lookup a=some o/\o.cls=.type "list"/\o.dict=none/\o.data=.seq its n/\its.size<=sizeLine/\Vals xs its.toList
noncomputable def SqT(K:PySem.W.Frag)(H:Hp)(a:Addr)(xs:List V):Prop:=Rd H a (.tup xs)\/∃(o:Obj) (its:Array Value) (n:Nat),K.lookup a=some o/\o.cls=.type "tuple"/\o.data=.seq its n/\its.size<=sizeLine/\Vals xs its.toList
noncomputable def absV:Value->Option V
| .none=>some .non
| .bool b=>some (.bl b)
| .int i _=>some (.int i)
| .str x _=>some (.str x)
| .bytes b _=>some (.byt b)
| .float b _=>some (.flt b)
| .ref a=>some (.ref a)
| .type n=>some (.ty n)
|_=>none
theorem RelV.abs{x:V}{u:Value}(r:RelV x u):absV u=some x:=by(
cases x with
|non=>cases r;rfl
|bl _=>cases r;rfl
|int _=>obtain⟨t,rfl⟩:=r;rfl
|str _=>obtain⟨t,rfl⟩:=r;rfl
|byt _=>obtain⟨t,rfl⟩:=r;rfl
|flt _=>obtain⟨t,rfl⟩:=r;rfl
|ref _=>cases r;rfl
|ty _=>cases r;rfl)
theorem RelV.inj{x y:V}{u:Value}(r:RelV x u)(q:RelV y u):x=y:=kQ (r.abs.symm.trans q.abs)
theorem Vals.inj{xs ys:List V}{us:List Value}(h:Vals xs us):Vals ys us->xs=ys:=by(
induction h generalizing ys with
|nil=>exact λg=>by cases g;rfl
|cons r t z=>
 intro g;cases g with
 |cons d D=>rw[r.inj d,z D])
section
variable{X:Cx}{pins:List (Addr×Obj)}{σ:St}{H:Hp}{s:Shared}{a:Addr}{xs ys:List V}
theorem SqL.of{K:PySem.W.Frag}(h:H a=some (.lst xs)):SqL K H a xs:=.inl (.inl h)
theorem SqT.of{K:PySem.W.Frag}(h:H a=some (.tup xs)):SqT K H a xs:=.inl (.inl h)
theorem Inv.list(I:Inv X pins σ H s)(h:SqL X.K H a xs):∃its:List Value,Vals xs its/\PlainL s.heap a its.toArray/\xs.length<=sizeLine:=by(
rcases h with h|⟨o,its,n,J,N,D,d,O,r⟩
.obtain⟨z,its,n,r,e⟩:=h.ok I.hok;exact⟨its,r,⟨_,n,e,rfl,rfl,rfl⟩,z⟩
refine⟨its.toList,r,⟨o,n,I.kIn a o J,N,D,by simpa using d⟩,?_⟩
have e:=r.length
simp only[mZ]at e
lia)
theorem Inv.tuple(I:Inv X pins σ H s)(h:SqT X.K H a xs):∃its:List Value,Vals xs its/\IsTup s.heap a its.toArray/\xs.length<=sizeLine:=by(
rcases h with h|⟨o,its,n,d,J,D,N,r⟩
.obtain⟨z,its,r,p⟩:=h.ok I.hok;exact⟨its,r,p,z⟩
refine⟨its.toList,r,⟨o,I.kIn a o d,J,n,by simpa using D⟩,?_⟩
have e:=r.length
simp only[mZ]at e
lia)
theorem Inv.list_inj(I:Inv X pins σ H s)(h:SqL X.K H a xs)(h':SqL X.K H a ys):xs=ys:=by(
obtain⟨D,r,⟨o,n,e,_,_,d⟩,_⟩:=I.list h
obtain⟨z,O,⟨o',S,J,_,_,N⟩,_⟩:=I.list h'
rw[e]at J;cases J
rw[d]at N
injection N with d1 _
have:D=z:=by simpa using rL Array.toList d1
subst this
exact r.inj O)
end
noncomputable abbrev Cx.wish(X:Cx)(E:Value->Shared->Prop):Cx:={ X with xe:=E }
noncomputable abbrev Cx.nox(X:Cx):Cx:=X.wish λz z=>False
theorem Cx.Ok.wish{X:Cx}(ok:X.Ok)(E:Value->Shared->Prop):(X.wish E).Ok:=⟨ok.mod,ok.kind,ok.glob,ok.blt,ok.above,ok.inj,ok.has,ok.cab,ok.hd,ok.frames,ok.stk,ok.exf,ok.bs,ok.bsz,ok.noex,ok.exfs,ok.funs,ok.frf⟩
theorem Cx.Ok.unwish{X:Cx}{E:Value->Shared->Prop}(ok:(X.wish E).Ok):X.Ok:=⟨ok.mod,ok.kind,ok.glob,ok.blt,ok.above,ok.inj,ok.has,ok.cab,ok.hd,ok.frames,ok.stk,ok.exf,ok.bs,ok.bsz,ok.noex,ok.exfs,ok.funs,ok.frf⟩
section
variable{X:Cx}{pins:List (Addr×Obj)}{σ:St}{H:Hp}{s:Shared}{E:Value->Shared->Prop}
theorem Inv.wish(I:Inv X pins σ H s)(E:Value->Shared->Prop):Inv (X.wish E) pins σ H s:=⟨I.ok.wish E,I.os,I.bare,I.base,I.loc,I.cell,I.free,I.freeC,I.pin,I.hok,I.len⟩
theorem Inv.unwish(I:Inv (X.wish E) pins σ H s):Inv X pins σ H s:=⟨I.ok.unwish,I.os,I.bare,I.base,I.loc,I.cell,I.free,I.freeC,I.pin,I.hok,I.len⟩
theorem SP.unwish{D:Ends}{f:Flow}{s':Shared}(h:SP (X.wish E) pins D f s'):SP X pins D f s':=by(
cases f with
|next=>obtain⟨d,H',I,q⟩:=h;exact⟨d,H',I.unwish,q⟩
|brk=>obtain⟨d,H',I,q⟩:=h;exact⟨d,H',I.unwish,q⟩
|cont=>obtain⟨d,H',I,q⟩:=h;exact⟨d,H',I.unwish,q⟩
|ret u=>obtain⟨v,d,H',I,r,q⟩:=h;exact⟨v,d,H',I.unwish,r,q⟩)
theorem PSs.nox{st:List Stmt}{t:TS}(h:PSs X.nox st t):PSs X st t:=λpins s σ H D I hw=>g4 (h pins s σ H D (I.wish _) hw) (λd d q=>q.unwish) λd d z=>False.elim z
end
section
variable{X:Cx}{st:Stmt}{rest:List Stmt}{t u:TS}{e:Expr}{te:TE}{pos:Pos}
noncomputable def qLT:TS:=λD σ H=>D.nx σ H
noncomputable def tSeq(t u:TS):TS:=λD σ H=>t { D with nx:=u D } σ H
theorem qQ:PSs X [] qLT:=λz z σ H z I h=>pV ⟨σ,H,I,h⟩
theorem qB(h1:PS X st t)(h2:PSs X rest u):PSs X (st::rest) (tSeq t u):=by(
intro pins s σ H D I h
refine wpAny_execs_cons (thn (h1 pins s σ H { D with nx:=u D } I h) λf z q=>?_)
cases f with
|next=>obtain⟨J,H',d,q⟩:=q;exact h2 pins z J H' D d q
|ret v=>exact q
|brk=>exact q
|cont=>exact q)
theorem qC(h1:PS X st t):PSs X [st] t:=by(
intro pins s σ H D I h
refine wpAny_execs_cons (thn (h1 pins s σ H D I h) λf d q=>?_)
cases f with
|next=>exact pV q
|ret v=>exact q
|brk=>exact q
|cont=>exact q)
theorem Inv.quiet{pins:List (Addr×Obj)}{σ:St}{H:Hp}{s:Shared}(I:Inv X pins σ H s):interactive X.env=false:=by simp[interactive,I.ok.kind]
noncomputable def qLU(te:TE):TS:=λD σ H=>te σ H λz H1=>D.nx σ H1
theorem qX(he:PE X e te)(hs:swapsWith e none pos.line X.env=pure false:=by rfl):PS X (.Expr e pos) (qLU te):=by intro pins s σ H D I h;exact wpAny_Expr_any (thn (he pins s σ H _ I h) λv J ⟨x,H1,d,N,z⟩=>⟨σ,H1,d,z⟩) I.quiet hs
noncomputable def tRet(te:TE):TS:=λD σ H=>te σ H D.rt
theorem qL(he:PE X e te):PS X (.Return (some e) pos) (tRet te):=by intro pins s σ H D I h;exact wpAny_Return_some (thn (he pins s σ H _ I h) λv N ⟨x,H1,d,J,z⟩=>⟨x,σ,H1,d,J,z⟩)
noncomputable def tIfS(c:TT)(t u:TS):TS:=λD σ H=>c σ H λb H1=>if b=true then t D σ H1 else u D σ H1
theorem jC{c:Expr}{a b:List Stmt}{tc:TT}(hc:PT X c tc)(ha:PSs X a t)(hb:PSs X b u):PS X (.If c a b pos) (tIfS tc t u):=by(
intro pins s σ H D I h
refine wpAny_If (thn (hc pins s σ H _ I h) λd z O=>?_)
obtain⟨H1,J,N⟩:=O
cases d with
|true=>exact ha pins z σ H1 D J N
|false=>exact hb pins z σ H1 D J N)
noncomputable def qJX:TS:=λz z z=>False
theorem j9:PS X st qJX:=λz z z z z z h=>h.elim
end
noncomputable abbrev TG:=V->St->Hp->(St->Hp->Prop)->Prop
noncomputable abbrev TGs:=List V->St->Hp->(St->Hp->Prop)->Prop
noncomputable def PG(X:Cx)(target:Expr)(t:TG):Prop:=∀(pins:List (Addr×Obj)) (s:Shared) (σ:St) (H:Hp) (v:V) (u:Value) (Q:St->Hp->Prop),Inv X pins σ H s->RelV v u->t v σ H Q->wpAny (model X.prog X.w) X.A (assign target X.env u) (λz s'=>∃σ' H',Inv X pins σ' H' s'/\Q σ' H') X.xe s
noncomputable def PGs(X:Cx)(ts:List Expr)(t:TGs):Prop:=∀(pins:List (Addr×Obj)) (s:Shared) (σ:St) (H:Hp) (vs:List V) (us:List Value) (Q:St->Hp->Prop),Inv X pins σ H s->Vals vs us->t vs σ H Q->wpAny (model X.prog X.w) X.A (assignInOrder ((assignEach ts X.env).map (·.2)) us) (λz s'=>∃σ' H',Inv X pins σ' H' s'/\Q σ' H') X.xe s
noncomputable abbrev TSet:=V->V->V->Hp->(Hp->Prop)->Prop
noncomputable def PSet(X:Cx)(t:TSet):Prop:=∀(pins:List (Addr×Obj)) (s:Shared) (σ:St) (H:Hp) (o i v:V) (ov iv u:Value) (Q:Hp->Prop),Inv X pins σ H s->RelV o ov->RelV i iv->RelV v u->t o i v H Q->wpAny (model X.prog X.w) X.A (setItem ov iv u) (λz s'=>∃H',Inv X pins σ H' s'/\Q H') X.xe s
noncomputable abbrev TIp:=V->V->Hp->VK->Prop
noncomputable def PIp(X:Cx)(op:Operator)(t:TIp):Prop:=∀(pins:List (Addr×Obj)) (s:Shared) (σ:St) (H:Hp) (x y:V) (v u:Value) (Q:VK),Inv X pins σ H s->RelV x v->RelV y u->t x y H Q->wpAny (model X.prog X.w) X.A (inplaceOp op v u) (EP X pins σ Q) X.xe s
section
variable{X:Cx}{pos:Pos}
noncomputable def q3L(i:Nat):TG:=λv σ H Q=>Q (σ.set i (some v)) H
theorem jA{i:Nat}{x:Str}(hN:X.N.Nodup)(hi:X.N[i]?=some x)(hx:Loc X.env.scope x)(hf:X.fn x=true\/X.env.scope.names.lookup x=some .local:=by first|exact .inl rfl|exact .inr rfl|assumption):PG X (.Name x pos) (q3L i):=by intro pins s σ H v u Q I r h;exact xS (q4H I hN hi hx r (λs' d=>⟨_,H,d,h⟩) hf)
noncomputable def gNil:TGs:=λvs σ H Q=>vs=[]/\Q σ H
noncomputable def qJD(t:TG)(u:TGs):TGs:=λvs σ H Q=>∃v r,vs=v::r/\t v σ H λσ' H'=>u r σ' H' Q
theorem q36:PGs X [] gNil:=by(
intro pins s σ H z d Q I r h
obtain⟨e,h⟩:=h
subst e
cases r
exact assignInOrder_nil ⟨σ,H,I,h⟩)
theorem yS{e:Expr}{es:List Expr}{t:TG}{u:TGs}(h1:PG X e t)(h2:PGs X es u)
 (hs:(assignEach (e::es) X.env).map (·.2)=assign e X.env::(assignEach es X.env).map (·.2):=by rfl):PGs X (e::es) (qJD t u):=by(
intro pins s σ H vs Z Q I r h
obtain⟨v,U,D,h⟩:=h
subst D
cases r with
|cons r J=>rw[hs];refine assignInOrder_cons (thn (h1 pins s σ H _ _ _ I r h) λF O d=>?_);obtain⟨N,H1,z,S⟩:=d;exact h2 pins O N H1 _ _ Q z J S)
noncomputable def gTup(K:PySem.W.Frag)(n:Nat)(t:TGs):TG:=λv σ H Q=>∃a xs,v=.ref a/\SqT K H a xs/\xs.length=n/\t xs σ H Q
theorem q59{es:List Expr}{k:Nat}{t:TGs}{n:Nat}(hc:X.calm=true)(h:PGs X es t)
 (hn:(assignEach es X.env).length=n:=by rfl) (hst:(assignEach es X.env).findIdx? (·.1)=none:=by rfl):PG X (.Tuple es k pos) (gTup X.K n t):=by(
intro pins s σ H v u Q I r d
obtain⟨a,xs,U,D,hl,d⟩:=d
subst U
cases r
obtain⟨J,z,O,Z⟩:=I.tuple D
refine assign_Tuple_tuple (I.ok.hd hc) O (by simp[hn,<-hl,z.length]) hst λh' N=>?_
have S:Inv X pins σ H { s with heap:=h' }:=I.kept (t':=s.toks) λb o e=>N b o (mR (kX e)) e
exact h pins _ σ H xs _ Q S (by simpa using z) d)
noncomputable def gSub(to ti:TE)(t:TSet):TG:=λv σ H Q=>to σ H λo H1=>ti σ H1 λi H2=>t o i v H2 λH3=>Q σ H3
theorem q6X{o i:Expr}{to ti:TE}{t:TSet}(ho:PE X o to)(hi:PE X i ti)(hs:PSet X t)
 (ha:∀v,assign (.Subscript o i pos) X.env v=(do
  let ov<-holding [v] (eval o X.env)
  let iv<-holding [v,ov] (eval i X.env)
  standAt pos
  holding [v,ov,iv] (setItem ov iv v)
  release [v,ov,iv] []):=by intro _;rfl):PG X (.Subscript o i pos) (gSub to ti t):=by(
intro pins s σ H v u Q I r h
rw[ha]
refine kD (gU (thn (ho pins s σ H _ I h) λov s1 d=>?_))
obtain⟨x,H1,U,Z,z⟩:=d
refine kD (gU (thn (hi pins s1 σ H1 _ U z) λiv J d=>?_))
obtain⟨y,H2,O,r2,D⟩:=d
refine kD (sY (kD (gU (thn (hs pins J σ H2 x y v ov iv u _ O Z r2 r D) λF s3 d=>?_))))
obtain⟨N,S,q3⟩:=d
exact wpAny_release ⟨σ,N,S,q3⟩)
noncomputable def tAsg(te:TE)(g:TG):TS:=λD σ H=>te σ H λx H1=>g x σ H1 D.nx
theorem q5A{tg e:Expr}{te:TE}{g:TG}(he:PE X e te)(hg:PG X tg g)(hs:swapsWithSole [tg] e pos.line X.env=pure false:=by rfl)(hw:swappedStores [tg] e X.env=pure none:=by rfl)
 (h1:(assignEach [tg] X.env).map (·.2)=[assign tg X.env]:=by rfl):PS X (.Assign [tg] e pos) (tAsg te g):=by(
intro pins s σ H D I h
refine wpAny_Assign_stores (thn (he pins s σ H _ I h) λv N d=>?_) hs hw
obtain⟨x,H1,z,J,O⟩:=d
rw[h1]
exact thn (hg pins N σ H1 x v _ z J O) λU S q=>q)
theorem qP{i:Nat}{x:Str}{e:Expr}{te:TE}{pos':Pos}(hN:X.N.Nodup)(hi:X.N[i]?=some x)(hx:Loc X.env.scope x)(he:PE X e te)(hs:swapsWith e (some (.Name x pos')) pos.line X.env=pure false:=by rfl)(hf:X.fn x=true\/X.env.scope.names.lookup x=some .local:=by first|exact .inl rfl|exact .inr rfl|assumption):
 PS X (.Assign [.Name x pos'] e pos) (tAsg te (q3L i)):=by(
intro pins s σ H D I h
refine wpAny_Assign_Name (thn (he pins s σ H _ I h) λv Z d=>?_) hs
obtain⟨y,H1,J,O,S⟩:=d
exact q4H J hN hi hx O (λU z=>⟨_,H1,z,S⟩) hf)
noncomputable def tAug(i:Nat)(te:TE)(ti:TIp):TS:=λD σ H=>∃x,σ[i]?=some (some x)/\te σ H λy H1=>ti x y H1 λz H2=>D.nx (σ.set i (some z)) H2
theorem qJY{i:Nat}{x:Str}{e:Expr}{te:TE}{op:Operator}{ti:TIp}{pos':Pos}(hN:X.N.Nodup)(hi:X.N[i]?=some x)(hx:Loc X.env.scope x)(he:PE X e te)(ho:PIp X op ti)(hf:X.fn x=true\/X.env.scope.names.lookup x=some .local:=by first|exact .inl rfl|exact .inr rfl|assumption):
 PS X (.AugAssign (.Name x pos') op e pos) (tAug i te ti):=by(
intro pins s σ H D I h
obtain⟨v,e1,h⟩:=h
obtain⟨m,U,hl⟩:=I.loc
have J:Vis X.env.scope x:=by rcases hx with k|k;exact .inl k;exact .inr (.inl k)
obtain⟨u,r,l⟩:=hl i x v hi e1 J
refine wpAny_AugAssign_Name ?_
have S:wpAny (model X.prog X.w) X.A (eval e X.env) (λw aa=>wpAny (model X.prog X.w) X.A (inplaceOp op u w) (λr ab=>wpAny (model X.prog X.w) X.A (storeName X.env x r) (λF=>SP X pins D .next) X.xe ab) X.xe aa) X.xe s:=by refine thn (he pins s σ H _ I h) λw s1 O=>?_;obtain⟨y,H1,I1,r1,q1⟩:=O;refine thn (ho pins s1 σ H1 v y u w _ I1 r r1 q1) λz s2 O=>?_;obtain⟨zv,H2,I2,r2,Z⟩:=O;exact q4H I2 hN hi hx r2 (λs3 I3=>⟨_,H2,I3,Z⟩) hf
rcases l with⟨d,hm⟩|⟨d,c,hc,hcell⟩
.exact lJ I.ok.kind d U hm S
rcases d with d|d
.exact lU I.ok.kind d hc hcell S
rcases hx with k|k
.have:X.env.scope.names.lookup x=some .free:=d;rw[k]at this;cases this
have:X.env.scope.names.lookup x=some .free:=d
rw[k]at this;cases this)
noncomputable def qLV(to ti te:TE)(tget:V->V->Hp->VK->Prop)(tip:TIp)(tset:TSet):TS:=λD σ H=>to σ H λo H1=>ti σ H1 λi H2=>tget o i H2 λx H3=>te σ H3 λy H4=>tip x y H4 λz H5=>tset o i z H5 λH6=>D.nx σ H6
noncomputable def PGet(X:Cx)(t:V->V->Hp->VK->Prop):Prop:=∀(pins:List (Addr×Obj)) (s:Shared) (σ:St) (H:Hp) (o i:V) (ov iv:Value) (Q:VK),Inv X pins σ H s->RelV o ov->RelV i iv->t o i H Q->wpAny (model X.prog X.w) X.A (getItem ov iv) (EP X pins σ Q) X.xe s
theorem q4I{o i e:Expr}{to ti te:TE}{tget:V->V->Hp->VK->Prop}{tip:TIp}{tset:TSet}{op:Operator}{tpos:Pos}(ho:PE X o to)(hi:PE X i ti)(hg:PGet X tget)(he:PE X e te)(hp:PIp X op tip)(hs:PSet X tset)
 (ha:∀ov iv new,augStore i ov iv new=(do holding [new,ov,iv] (setItem ov iv new);release [new,ov,iv] [];pure .next):=by intros;rfl):PS X (.AugAssign (.Subscript o i tpos) op e pos) (qLV to ti te tget tip tset):=by(
intro pins s σ H D I h
refine wpAny_AugAssign_SubscriptAny (thn (ho pins s σ H _ I h) λov s1 d=>?_) ha
obtain⟨O,H1,I1,N,q1⟩:=d
refine thn (hi pins s1 σ H1 _ I1 q1) λiv s2 d=>?_
obtain⟨J,H2,I2,r2,q2⟩:=d
refine thn (hg pins s2 σ H2 O J ov iv _ I2 N r2 q2) λz s3 d=>?_
obtain⟨x3,Z,I3,r3,q3⟩:=d
refine thn (he pins s3 σ Z _ I3 q3) λv s4 d=>?_
obtain⟨x4,H4,I4,r4,q4⟩:=d
refine thn (hp pins s4 σ H4 x3 x4 z v _ I4 r3 r4 q4) λnew s5 d=>?_
obtain⟨x5,U,I5,r5,q5⟩:=d
exact thn (hs pins s5 σ U O J x5 ov iv new _ I5 N r2 r5 q5) λ_ s6 ⟨S,I6,q6⟩=>⟨σ,S,I6,q6⟩)
noncomputable def ipI(f:Int->Int->Int):TIp:=λx y H Q=>∃i j,x=.int i/\y=.int j/\Q (.int (f i j)) H
theorem q6Y:PIp X .Add (ipI λi j=>i+j):=by(
intro pins s σ H x y v u Q I D r2 h
obtain⟨i,j,z,d,q⟩:=h
subst z;subst d
obtain⟨t,rfl⟩:=D
obtain⟨J,rfl⟩:=r2
exact iadd_int ⟨.int _,H,I.tok _,⟨_,rfl⟩,q⟩)
theorem qJZ:PIp X .Sub (ipI λi j=>i-j):=by(
intro pins s σ H x y v u Q I D r2 h
obtain⟨i,j,z,d,q⟩:=h
subst z;subst d
obtain⟨t,rfl⟩:=D
obtain⟨J,rfl⟩:=r2
exact isub_int ⟨.int _,H,I.tok _,⟨_,rfl⟩,q⟩)
end
section
variable{X:Cx}{pos:Pos}
noncomputable def qK0(c:TT)(tb:TS):TS:=λD σ H=>∃W:Nat->St->Hp->Prop,(∃m,W m σ H)/\∀m σ H,W m σ H->c σ H λb H1=>if b=true then ∃N:St->Hp->Prop,(∀σ' H',N σ' H'->∃m',m'<m/\W m' σ' H')/\tb { D with nx:=N,ct:=N,bk:=D.nx } σ H1 else D.nx σ H1
theorem q6Z{c:Expr}{body:List Stmt}{tc:TT}{tb:TS}(hp:PassesOwn (model X.prog X.w) X.A X.env X.xe)(hc:PT X c tc)(hb:PSs X body tb):PS X (.While c body [] pos) (qK0 tc tb):=by(
intro pins s σ H D I h
obtain⟨W,⟨m0,w0⟩,turn⟩:=h
refine wpAny_While (codeAny_whileLoop (λn s'=>∃σ' H',Inv X pins σ' H' s'/\W n σ' H') ?_ m0 ⟨σ,H,I,w0⟩)
rintro n s1 ⟨J,H1,I1,w1⟩
refine wA hp (thn (hc pins s1 J H1 _ I1 (turn n J H1 w1)) λb s2 hZ=>?_)
obtain⟨H2,I2,S⟩:=hZ
cases b with
|true=>
 obtain⟨N,hN,S⟩:=S;rw[kM rfl];refine wA hp (thn (hb pins s2 J H2 _ I2 S) λf s3 O=>?_);cases f with
 |next=>obtain⟨z,d,I3,Z⟩:=O;obtain⟨U,hm,w3⟩:=hN z d Z;exact⟨U,hm,z,d,I3,w3⟩
 |cont=>obtain⟨z,d,I3,Z⟩:=O;obtain⟨U,hm,w3⟩:=hN z d Z;exact⟨U,hm,z,d,I3,w3⟩
 |brk=>exact O
 |ret v=>exact O
|false=>rw[kI kW];exact pV ⟨J,H2,I2,S⟩)
end
structure It where
go:Nat->Hp->Prop
yld:Nat->Hp->V->Hp->Prop
stop:Nat->Hp->Prop
noncomputable def FpOk(X:Cx)(pins:List (Addr×Obj))(H:Hp)(b:Addr):Prop:=H b=none/\b≠X.env.locals/\b∉X.fs/\(b∈X.ex\/X.s₀.heap.objs.size<=b)/\(∀x c,X.env.cells.lookup x=some c->c≠b)/\∀p∈X.pn++pins,p.1≠b
theorem Inv.fpOk{X:Cx}{pins:List (Addr×Obj)}{σ:St}{H H':Hp}{s:Shared}{b:Addr}(I:Inv X pins σ H s)(hb:s.heap.objs.size<=b)(hn:H' b=none):FpOk X pins H' b:=by(
refine⟨hn,rE (mW I.lt hb),I.nofs hb,.inr (mL I.sz hb),λx c e z=>?_,λp d z=>?_⟩
.obtain⟨v,q⟩:=I.cell x c e;exact absurd (mW q.lt (by rw[z];exact hb)) (rD _)
exact absurd (mW (kX (I.pin p d).1) (by rw[z];exact hb)) (rD _))
structure Turn(P:Program)(w:World)(K:PySem.W.Frag)(tg:Expr)(J:It)(fp:List Addr)(it:Addr)(tn:Nat->Heap->Prop):Prop where
mem:it∈fp
obj:∀i h,tn i h->∀b∈fp,∃o,h.get? b=some o/\∀v,o.data≠ .cell v
keep:∀i h h',tn i h->(∀b∈fp,∀o,h.get? b=some o->h'.get? b=some o)->tn i h'
item:∀(X:Cx),X.prog=P->X.w=w->X.K=K->X.calm=true->∀(i:Nat) (pins:List (Addr×Obj)) (s:Shared) (σ:St) (H:Hp) (E:Value->Shared->Prop),Inv X pins σ H s->(∀b∈fp,FpOk X pins H b)->tn i s.heap->J.go i H->wpAny (model P w) X.A (pyNext (.ref it)) (λr s1=>∃u,r=some u/\wpAny (model P w) X.A (letOwnedTupleGo tg (.ref it) u) (λ_ s2=>∃x H',Inv X pins σ H' s2/\RelV x u/\J.yld i H x H'/\tn (i+1) s2.heap/\∀b∈fp,H' b=none) E s1) E s
done:∀(X:Cx),X.prog=P->X.w=w->X.K=K->X.calm=true->∀(i:Nat) (pins:List (Addr×Obj)) (s:Shared) (σ:St) (H:Hp) (E:Value->Shared->Prop),Inv X pins σ H s->(∀b∈fp,FpOk X pins H b)->tn i s.heap->J.stop i H->wpAny (model P w) X.A (pyNext (.ref it)) (λr s1=>r=none/\Inv X pins σ H s1) E s
self:∀(A:Around) (i:Nat) (s:Shared) (Q:Value->Shared->Prop) (E:Value->Shared->Prop),tn i s.heap->Q (.ref it) s->wpAny (model P w) A (pyIter (.ref it)) Q E s
noncomputable abbrev TI:=St->Hp->(It->Hp->Prop)->Prop
noncomputable def PIE(X:Cx)(pins:List (Addr×Obj))(σ:St)(tg:Expr)(R:It->Hp->Prop)(itv:Value)(s2:Shared):Prop:=∃(it:Addr) (fp:List Addr) (tn:Nat->Heap->Prop) (J:It) (H':Hp),itv=.ref it/\Inv X pins σ H' s2/\Turn X.prog X.w X.K tg J fp it tn/\tn 0 s2.heap/\(∀b∈fp,FpOk X pins H' b)/\R J H'
noncomputable def PI(X:Cx)(tg iter:Expr)(wi:TI):Prop:=∀(pins:List (Addr×Obj)) (s:Shared) (σ:St) (H:Hp) (R:It->Hp->Prop),Inv X pins σ H s->wi σ H R->wpAny (model X.prog X.w) X.A (eval iter X.env) (λv s1=>wpAny (model X.prog X.w) X.A (pyIter v) (PIE X pins σ tg R) X.xe s1) X.xe s
theorem qEZ{M:Model}{A:Around}{E:Value->Shared->Prop}{s:Shared}{tg:Expr}{it:Addr}{u:Value}{o:Obj}{n:String}{vs:Array Value}{Q:Unit->Shared->Prop}(ho:s.heap.get? it=some o)(hc:o.cls=.type n)(hd:o.data=.fields vs)
 (hn:["enumerate","zip","dict_itemiterator","dict_reverseitemiterator","odict_iterator","itertools.zip_longest","itertools.pairwise"].contains n=false) (hQ:Q () s):wpAny M A (letOwnedTupleGo tg (.ref it) u) Q E s:=by(
unfold letOwnedTupleGo
cases tg<;>first
 |exact mE hQ
 |(cases u<;>first
  |exact mE hQ
  |(refine kD (wpAny_load ho ?_)
    rw[hc,hd];show wpAny M A (if(["enumerate","zip","dict_itemiterator","dict_reverseitemiterator","odict_iterator","itertools.zip_longest","itertools.pairwise"].contains n&&vs[0]?==some (rawInt _))=true then _ else _) Q E s;rw[kI (by intro h;rw[hn,Bool.false_and]at h;cases h)];exact mE hQ)))
noncomputable def Itl(K:PySem.W.Frag)(a:Addr):It:=⟨λi H=>∃xs x,SqL K H a xs/\xs[i]?=some x,λi H x H'=>H'=H/\∀xs,SqL K H a xs->xs[i]?=some x,λi H=>∃xs,SqL K H a xs/\xs.length<=i⟩
noncomputable def Itr(lo:Int)(n:Nat):It:=⟨λi z=>i<n,λi H x H'=>H'=H/\x=.int (lo+i),λi z=>n<=i⟩
theorem qE6{P:Program}{w:World}{K:PySem.W.Frag}{tg:Expr}(a it:Addr):Turn P w K tg (Itl K a) [it] it (λi h=>h.IsListIter it a i) where
mem:=by simp
obj:=λi h st b D=>by
 have e:b=it:=by simpa using D
 subst e;obtain⟨o,e,c,d⟩:=st;exact⟨o,e,λv z=>by rw[d]at z;cases z⟩
keep:=λi h h' st k=>st.at λo e=>k it (by simp) o e
item:=by intro X Z hw hK hc i pins s σ H E I O st hg;subst Z hw hK;obtain⟨xs,x,N,S⟩:=hg;obtain⟨aa,rv,p,hz⟩:=I.list N;obtain⟨u,hu,ru⟩:=rv.get S;obtain⟨f0,U,f2,f3,f4,f5⟩:=O it (by simp);refine wpAny_pyNext_list_item st p.isList (x:=u) (by simpa using hu) λh' J sb=>?_;have I1:Inv X pins σ H { s with heap:=h' }:=I.turned (t':=s.toks) (λb o D e=>(sb.2 b D).trans e) f0 U f3 f4 f5;obtain⟨o,e,c,d⟩:=id J;exact⟨u,rfl,qEZ (s:={ s with heap:=h' }) e c d (by decide) ⟨x,H,I1,ru,⟨rfl,λys hy=>by rw[I.list_inj hy N];exact S⟩,J,λb D=>(O b D).1⟩⟩
done:=by intro X Z hw hK hc i pins s σ H E I O st hg;subst Z hw hK;obtain⟨xs,N,S⟩:=hg;obtain⟨aa,rv,p,hz⟩:=I.list N;obtain⟨f0,U,f2,f3,f4,f5⟩:=O it (by simp);have hl:=rv.length;exact wpAny_pyNext_list_end (I.ok.hd hc) st p.isList (by simp;lia) λh' eb=>⟨rfl,I.turned (t':=s.toks) (λb o D e=>eb b o D e) f0 U f3 f4 f5⟩
self:=λF F F F F st h=>wpAny_pyIter_listiter st h
theorem qC4{P:Program}{w:World}{K:PySem.W.Frag}{tg:Expr}(it:Addr)(lo:Int)(n:Nat):Turn P w K tg (Itr lo n) [it] it (λi h=>IsRangeIter h it (lo+(i:Nat)*1) ((n:Int)-(i:Nat)) 1) where
mem:=by simp
obj:=λi h st b d=>by
 have e:b=it:=by simpa using d
 subst e;exact⟨_,st,λv z=>by have z':Data.fields _=Data.cell v:=z;cases z'⟩
keep:=λi h h' st k=>k it (by simp) _ st
item:=by intro X O hw N hc i pins s σ H E I J st U;subst O hw N;obtain⟨f0,f1,f2,f3,Z,S⟩:=J it (by simp);have W:=Walks.range (prog:=X.prog) (w:=X.w) (I.ok.hd hc) it lo 1 n;refine W.item i s _ _ U st λv h' tk hv D kk=>?_;obtain⟨t,rfl⟩:=hv;have I1:Inv X pins σ H { s with heap:=h',toks:=tk }:=I.turned (λb o d e=>kk b o (by simpa using d) e) f0 f1 f3 Z S;refine⟨_,rfl,qEZ (s:={ s with heap:=h',toks:=tk }) (n:="range_iterator") D rfl rfl (by decide) ⟨.int (lo+i),H,I1,⟨t,?_⟩,⟨rfl,rfl⟩,D,λb d=>(J b d).1⟩⟩;rw[Int.mul_one]
done:=by intro X O hw N hc i pins s σ H E I J st U;subst O hw N;obtain⟨f0,f1,f2,f3,Z,S⟩:=J it (by simp);exact wpAny_pyNext_range_end (I.ok.hd hc) st (by have:n<=i:=U;lia) λh' eb=>⟨rfl,I.turned (t':=s.toks) (λb o d e=>eb b o d e) f0 f1 f3 Z S⟩
self:=λF F F F F st h=>wpAny_pyIter_rangeiter st h
section
variable{X:Cx}{tg:Expr}
noncomputable def qLW(K:PySem.W.Frag)(tl:TE):TI:=λσ H R=>tl σ H λx H1=>∃a,x=.ref a/\(∃xs,SqL K H1 a xs)/\R (Itl K a) H1
theorem jU{l:Expr}{tl:TE}(hl:PE X l tl):PI X tg l (qLW X.K tl):=by(
intro pins s σ H R I h
refine thn (hl pins s σ H _ I h) λv z O=>?_
obtain⟨x,H1,d,S,U⟩:=O
obtain⟨a,e,⟨xs,D⟩,q⟩:=U
subst e
cases S
obtain⟨N,Z,p,hz⟩:=d.list D
refine xT p.isList ?_
refine⟨z.heap.objs.size,[z.heap.objs.size],_,_,H1,rfl,d.kept (t':=z.toks) λb o e=>kJ _ e,qE6 a _,⟨_,mP _ rfl,rfl,rfl⟩,λb J=>?_,q⟩
have e:b=z.heap.objs.size:=by simpa using J
subst e
exact d.fpOk (kO _) (d.hok.fresh (kO _)))
theorem qAU{pins:List (Addr×Obj)}{σ:St}{H:Hp}{s:Shared}{R:It->Hp->Prop}{E:Value->Shared->Prop}{lo hi:Int}{t u v:Tok}{tk:Nat}(I:Inv X pins σ H s)(h1:-(2 ^ 62)<=lo)(h2:lo<2 ^ 62)(h3:-(2 ^ 62)<=hi)(h4:hi<2 ^ 62)
 (q:R (Itr lo (hi-lo).toNat) H):wpAny (model X.prog X.w) X.A (pyIter (.ref s.heap.objs.size)) (PIE X pins σ tg R) E { s with heap:=s.heap.push { cls:=.type "range",data:=.fields #[.int lo t,.int hi u,.int 1 v] },toks:=tk }:=by(
refine wpAny_pyIter_range (IsRange.new ..) (small_one h1 h2 h3 h4) ?_
have d:Inv X pins σ H { s with heap:=s.heap.push { cls:=.type "range",data:=.fields #[.int lo t,.int hi u,.int 1 v] },toks:=tk }:=I.kept λb o e=>kJ _ e
refine⟨(s.heap.push { cls:=.type "range",data:=.fields #[.int lo t,.int hi u,.int 1 v] }).objs.size,[(s.heap.push { cls:=.type "range",data:=.fields #[.int lo t,.int hi u,.int 1 v] }).objs.size],_,_,H,rfl,d.kept (t':=tk) λb o e=>kJ _ e,qC4 _ lo (hi-lo).toNat,?_,λb D=>?_,q⟩
.have J:lo+((0:Nat):Int)*1=lo:=by simp
 have z:(((hi-lo).toNat:Nat):Int)-((0:Nat):Int)=Builtin.Range.rangeSize lo hi 1:=by rw[rangeSize_one];split<;>lia
 show IsRangeIter _ _ (lo+((0:Nat):Int)*1) ((((hi-lo).toNat:Nat):Int)-((0:Nat):Int)) 1;rw[J,z];exact mP _ rfl
have e:b=(s.heap.push { cls:=.type "range",data:=.fields #[.int lo t,.int hi u,.int 1 v] }).objs.size:=by simpa using D
subst e
exact d.fpOk (kO _) (d.hok.fresh (kO _)))
noncomputable def qLX(ta:TA):TI:=λσ H R=>ta σ H λvs H1=>∃j:Int,vs=[.int j]/\-(2 ^ 62)<=j/\j<2 ^ 62/\R (Itr 0 j.toNat) H1
noncomputable def qLY(ta:TA):TI:=λσ H R=>ta σ H λvs H1=>∃i j:Int,vs=[.int i,.int j]/\(-(2 ^ 62)<=i/\i<2 ^ 62/\-(2 ^ 62)<=j/\j<2 ^ 62)/\R (Itr i (j-i).toNat) H1
theorem q5B{a:Expr}{ta:TA}{p pos:Pos}(hg:Gl X "range")(hm:X.mg "range"=none)(ha:PA X [a] ta)(hs:starEach [a] X.env=[(false,eval a X.env)]:=by rfl):PI X tg (.Call (.Name "range" p) [a] [] pos) (qLX ta):=by(
intro pins s σ H R I h
refine Call_ (q25 I hg hm boot_range (cB (thn (ha pos pins s σ H _ I h) λS U D=>?_) hs rfl))
obtain⟨Z,H1,J,O,d⟩:=D
obtain⟨j,e,d,z,q⟩:=d
subst e
cases O with
|cons r N=>cases N;obtain⟨t,rfl⟩:=r;exact call_range_1 (qAU J (by lia) (by lia) d z (by simpa using q)))
theorem q8X{a b:Expr}{ta:TA}{p pos:Pos}(hg:Gl X "range")(hm:X.mg "range"=none)(ha:PA X [a,b] ta)(hs:starEach [a,b] X.env=[(false,eval a X.env),(false,eval b X.env)]:=by rfl)(hs2:starEach [b] X.env=[(false,eval b X.env)]:=by rfl):
 PI X tg (.Call (.Name "range" p) [a,b] [] pos) (qLY ta):=by(
intro pins s σ H R I h
refine Call_ (q25 I hg hm boot_range (cB (thn (ha pos pins s σ H _ I h) λus s1 ⟨vs,H1,O,S,d⟩=>?_) (by rw[hs,hs2]) (by rw[hs2];rfl)))
obtain⟨i,j,e,⟨d,D,U,J⟩,q⟩:=d
subst e
cases S with
|cons r z=>
 cases z with
 |cons N z=>cases z;obtain⟨t,rfl⟩:=r;obtain⟨Z,rfl⟩:=N;exact call_range_2 (qAU O d D U J q))
noncomputable def tFor(wi:TI)(g:TG)(tb:TS):TS:=λD σ H=>wi σ H λJ H1=>∃W:Nat->Nat->St->Hp->Prop,(∃m,W 0 m σ H1)/\∀i m σ H,W i m σ H->(J.stop i H/\D.nx σ H)\/(J.go i H/\∃N:St->Hp->Prop,(∀σ' H',N σ' H'->∃m',m'<m/\W (i+1) m' σ' H')/\∀x H',J.yld i H x H'->g x σ H' λσ2 H2=>tb { D with nx:=N,ct:=N,bk:=D.nx } σ2 H2)
noncomputable def q70(fp:List Addr)(h:Heap):List (Addr×Obj):=fp.filterMap λb=>(h.get? b).map λo=>(b,o)
theorem yG{fp:List Addr}{h:Heap}{b:Addr}{o:Obj}(hb:b∈fp)(e:h.get? b=some o):(b,o)∈q70 fp h:=d6.mpr ⟨b,hb,by rw[e];rfl⟩
theorem qE7{fp:List Addr}{h:Heap}{p:Addr×Obj}(hp:p∈q70 fp h):p.1∈fp/\h.get? p.1=some p.2:=by(
obtain⟨b,z,e⟩:=d6.mp hp
cases q:h.get? b with
|none=>rw[q]at e;cases e
|some o=>rw[q]at e;have d:(b,o)=p:=kQ e;subst d;exact⟨z,q⟩)
theorem Inv.pinned{pins:List (Addr×Obj)}{σ:St}{H:Hp}{s:Shared}{fp:List Addr}(I:Inv X pins σ H s)(hf:∀b∈fp,FpOk X pins H b)(ho:∀b∈fp,∃o,s.heap.get? b=some o/\∀v,o.data≠ .cell v):Inv X (pins++q70 fp s.heap) σ H s:=I.pins_of λp hp=>(gJ.mp hp).elim (λz=>I.pin p (kY _ z)) λz=>by  obtain⟨hb,e⟩:=qE7 z;obtain⟨f0,f1,f2,_⟩:=hf p.1 hb;obtain⟨o,e',d⟩:=ho p.1 hb;rw[e]at e';cases e';exact⟨e,f0,f1,f2,d⟩
theorem Inv.unpinned{pins pl:List (Addr×Obj)}{σ:St}{H:Hp}{s:Shared}(I:Inv X (pins++pl) σ H s):Inv X pins σ H s:=I.pins_of λp hp=>I.pin p (kY _ (gC _ hp))
theorem vI{iter:Expr}{body:List Stmt}{wi:TI}{g:TG}{tb:TS}{pos:Pos}(hp:PassesOwn (model X.prog X.w) X.A X.env X.xe)(hc:X.calm=true)(hi:PI X tg iter wi)(hg:PG X tg g)(hb:PSs X body tb)
 (hs:∀x,foldedSetIterable iter X.env x=pure x:=by intro _;rfl):PS X (.For tg iter body [] pos) (tFor wi g tb):=by(
intro pins s σ H D I h
refine wpAny_For (thn (hi pins s σ H _ I h) λv s1 h1=>thn h1 λa6 s2 h2=>?_) hs
obtain⟨it,fp,tn,J,H2,e,I2,T,al,f2,W,⟨m0,w0⟩,turn⟩:=h2
subst e
have U:∀{H':Hp},(∀b∈fp,H' b=none)->∀b∈fp,FpOk X pins H' b:=λhn b hb=>⟨hn b hb,(f2 b hb).2⟩
refine codeAny_forLoop_any (λn s'=>∃i σ' H',Inv X pins σ' H' s'/\tn i s'.heap/\(∀b∈fp,H' b=none)/\W i n σ' H') ?_ m0 ⟨0,σ,H2,I2,al,λb hb=>(f2 b hb).1,w0⟩
rintro n s3 ⟨i,ah,H3,I3,ae,af,w3⟩
rcases turn i n ah H3 w3 with⟨stop,qn⟩|⟨go,N,hN,step⟩
.refine wA hp (thn (T.done X rfl rfl rfl hc i pins s3 ah H3 X.xe I3 (U af) ae stop) λr s4 hZ=>?_);obtain⟨hr,I4⟩:=hZ;subst hr;exact pV ⟨ah,H3,I4,qn⟩
refine wA hp (thn (T.item X rfl rfl rfl hc i pins s3 ah H3 X.xe I3 (U af) ae go) λr s4 hZ=>?_)
obtain⟨u,hr,h4⟩:=hZ
subst hr
refine wA hp (thn h4 λF s5 hZ=>?_)
obtain⟨x,H5,I5,r5,y5,ac,aj⟩:=hZ
have am:=I5.pinned (U aj) (T.obj _ _ ac)
refine wA hp (thn (hg _ s5 ah H5 x u _ am r5 (step x H5 y5)) λF s6 hZ=>?_)
obtain⟨ay,H6,I6,q6⟩:=hZ
refine wA hp (thn (hb _ s6 ay H6 _ I6 q6) λf s7 q7=>?_)
have S:∀{Z:St} {O:Hp},Inv X (pins++q70 fp s5.heap) Z O s7->N Z O->∃m,m<n/\∃i σ' H',Inv X pins σ' H' s7/\tn i s7.heap/\(∀b∈fp,H' b=none)/\W i m σ' H':=fun {Z O} z n7=>by obtain⟨m',hm,w7⟩:=hN Z O n7;refine⟨m',hm,i+1,Z,O,z.unpinned,T.keep _ _ _ ac λb hb o e=>(z.pin (b,o) (kY _ (kY _ (yG hb e)))).1,λb hb=>?_,w7⟩;obtain⟨o,e,d⟩:=T.obj _ _ ac b hb;exact(z.pin (b,o) (kY _ (kY _ (yG hb e)))).2.1
cases f with
|next=>obtain⟨Z,O,z,n7⟩:=q7;exact S z n7
|cont=>obtain⟨Z,O,z,n7⟩:=q7;exact S z n7
|brk=>obtain⟨Z,O,z,q7⟩:=q7;exact⟨Z,O,z.unpinned,q7⟩
|ret v=>obtain⟨x7,Z,O,z,r7,q7⟩:=q7;exact⟨x7,Z,O,z.unpinned,r7,q7⟩)
end
theorem uI{K:PySem.W.Frag}{a:Addr}{xs:List V}{g:TG}{tb:TS}{D:Ends}{σ:St}{H:Hp}(Pv:Nat->St->Hp->Prop)(h0:Pv 0 σ H)(hl:∀i σ H,i<=xs.length->Pv i σ H->SqL K H a xs)
 (hs:∀i x σ H,xs[i]?=some x->Pv i σ H->g x σ H λσ2 H2=>tb { D with nx:=Pv (i+1),ct:=Pv (i+1),bk:=D.nx } σ2 H2) (hd:∀σ H,Pv xs.length σ H->D.nx σ H):
 ∃W:Nat->Nat->St->Hp->Prop,(∃m,W 0 m σ H)/\∀i m σ H,W i m σ H->((Itl K a).stop i H/\D.nx σ H)\/((Itl K a).go i H/\∃N:St->Hp->Prop,(∀σ' H',N σ' H'->∃m',m'<m/\W (i+1) m' σ' H')/\∀x H',(Itl K a).yld i H x H'->g x σ H' λσ2 H2=>tb { D with nx:=N,ct:=N,bk:=D.nx } σ2 H2):=by(
refine⟨λi m σ H=>m=xs.length-i/\i<=xs.length/\Pv i σ H,⟨xs.length,by simp,m7 _,h0⟩,?_⟩
rintro i m σ H ⟨rfl,z,p⟩
have q:=hl i σ H z p
by_cases d:i<xs.length
.refine .inr ⟨⟨xs,xs[i],q,by simp[d]⟩,Pv (i+1),λσ' H' I=>⟨xs.length-(i+1),by lia,rfl,d,I⟩,λx H' y=>?_⟩;obtain⟨e,y⟩:=y;subst e;exact hs i x σ _ (y xs q) p
have e:i=xs.length:=by lia
subst e
exact .inl ⟨⟨xs,q,kO _⟩,hd σ H p⟩)
theorem q37{lo:Int}{n:Nat}{g:TG}{tb:TS}{D:Ends}{σ:St}{H:Hp}(Pv:Nat->St->Hp->Prop)(h0:Pv 0 σ H)
 (hs:∀i σ H,i<n->Pv i σ H->g (.int (lo+i)) σ H λσ2 H2=>tb { D with nx:=Pv (i+1),ct:=Pv (i+1),bk:=D.nx } σ2 H2) (hd:∀σ H,Pv n σ H->D.nx σ H):
 ∃W:Nat->Nat->St->Hp->Prop,(∃m,W 0 m σ H)/\∀i m σ H,W i m σ H->((Itr lo n).stop i H/\D.nx σ H)\/((Itr lo n).go i H/\∃N:St->Hp->Prop,(∀σ' H',N σ' H'->∃m',m'<m/\W (i+1) m' σ' H')/\∀x H',(Itr lo n).yld i H x H'->g x σ H' λσ2 H2=>tb { D with nx:=N,ct:=N,bk:=D.nx } σ2 H2):=by(
refine⟨λi m σ H=>m=n-i/\i<=n/\Pv i σ H,⟨n,by simp,m7 _,h0⟩,?_⟩
rintro i m σ H ⟨rfl,I,p⟩
by_cases d:i<n
.refine .inr ⟨d,Pv (i+1),λσ' H' z=>⟨n-(i+1),by lia,rfl,d,z⟩,λx H' y=>?_⟩;obtain⟨e,y⟩:=y;subst e y;exact hs i σ _ d p
have e:i=n:=by lia
subst e
exact .inl ⟨kO _,hd σ H p⟩)
noncomputable abbrev R2:=V->V->Hp->VK->Prop
noncomputable def OpR(X:Cx)(f:Value->Value->Sem Value)(r:R2):Prop:=∀(pins:List (Addr×Obj)) (s:Shared) (σ:St) (H:Hp) (x y:V) (v u:Value) (Q:VK),Inv X pins σ H s->RelV x v->RelV y u->r x y H Q->wpAny (model X.prog X.w) X.A (f v u) (EP X pins σ Q) X.xe s
noncomputable def q20(X:Cx)(f:Value)(r:List V->Hp->VK->Prop):Prop:=∀(pins:List (Addr×Obj)) (s:Shared) (σ:St) (H:Hp) (xs:List V) (us:List Value) (Q:VK),Inv X pins σ H s->Vals xs us->r xs H Q->wpAny (model X.prog X.w) X.A (call f us) (EP X pins σ Q) X.xe s
noncomputable def tOp(r:R2)(ta tb:TE):TE:=λσ H Q=>ta σ H λx H1=>tb σ H1 λy H2=>r x y H2 Q
noncomputable def rI(C:Int->Int->Prop)(g:Int->Int->V):R2:=λx y H Q=>∃i j,x=.int i/\y=.int j/\C i j/\Q (g i j) H
noncomputable def rI0(g:Int->Int->V):R2:=λx y H Q=>∃i j,x=.int i/\y=.int j/\Q (g i j) H
section
variable{X:Cx}{a b c:Expr}{ta tb tc:TE}{pos:Pos}
theorem binT(ha:PE X a ta)(hb:PE X b tb){pins:List (Addr×Obj)}{s:Shared}{σ:St}{H:Hp}{R:V->V->Hp->Prop}(I:Inv X pins σ H s)
 (h:ta σ H λx H1=>tb σ H1 λy H2=>R x y H2) {Q:Value->Shared->Prop} {f:Value->Value->Sem Value}
 (hf:∀v u s2 x y H2,Inv X pins σ H2 s2->RelV x v->RelV y u->R x y H2->wpAny (model X.prog X.w) X.A (f v u) Q X.xe s2):
 wpAny (model X.prog X.w) X.A (eval a X.env) (λv s₁=>wpAny (model X.prog X.w) X.A (eval b X.env) (λu s₂=>wpAny (model X.prog X.w) X.A (f v u) Q X.xe s₂) X.xe s₁) X.xe s:=by(
refine thn (ha pins s σ H _ I h) λv O d=>?_
obtain⟨x,H1,J,N,S⟩:=d
refine thn (hb pins O σ H1 _ J S) λu s2 d=>?_
obtain⟨y,H2,D,r2,z⟩:=d
exact hf v u s2 x y H2 D N r2 z)
theorem qN{op:Operator}{r:R2}(ho:OpR X (binaryOp op) r)(ha:PE X a ta)(hb:PE X b tb):PE X (.BinOp a op b pos) (tOp r ta tb):=by intro pins s σ H Q I h;exact wpAny_BinOp (binT ha hb I h λv u z x y H2 d D J q=>ho pins z σ H2 x y v u Q d D J q)
theorem opI{f:Value->Value->Sem Value}{C:Int->Int->Prop}{g:Int->Int->Int}
 (rule:∀(i j:Int) (t u:Tok) (s:Shared) (Q:Value->Shared->Prop) (E:Value->Shared->Prop),C i j->Q (.int (g i j) s.toks) { s with toks:=s.toks+1 }->wpAny (model X.prog X.w) X.A (f (.int i t) (.int j u)) Q E s):
 OpR X f (rI C λi j=>.int (g i j)):=by(
intro pins s σ H x y v u Q I D J h
obtain⟨i,j,rfl,rfl,z,q⟩:=h
obtain⟨t,rfl⟩:=D
obtain⟨d,rfl⟩:=J
exact rule i j t d s _ _ z ⟨.int (g i j),H,I.tok _,⟨_,rfl⟩,q⟩)
theorem opI0{f:Value->Value->Sem Value}{g:Int->Int->Int}
 (rule:∀(i j:Int) (t u:Tok) (s:Shared) (Q:Value->Shared->Prop) (E:Value->Shared->Prop),Q (.int (g i j) s.toks) { s with toks:=s.toks+1 }->wpAny (model X.prog X.w) X.A (f (.int i t) (.int j u)) Q E s):
 OpR X f (rI0 λi j=>.int (g i j)):=by(
intro pins s σ H x y v u Q I z D h
obtain⟨i,j,rfl,rfl,q⟩:=h
obtain⟨t,rfl⟩:=z
obtain⟨d,rfl⟩:=D
exact rule i j t d s _ _ ⟨.int (g i j),H,I.tok _,⟨_,rfl⟩,q⟩)
theorem opB0{f:Value->Value->Sem Value}{g:Int->Int->Bool}
 (rule:∀(i j:Int) (t u:Tok) (s:Shared) (Q:Value->Shared->Prop) (E:Value->Shared->Prop),Q (.bool (g i j)) s->wpAny (model X.prog X.w) X.A (f (.int i t) (.int j u)) Q E s):
 OpR X f (rI0 λi j=>.bl (g i j)):=by(
intro pins s σ H x y v u Q I z D h
obtain⟨i,j,rfl,rfl,q⟩:=h
obtain⟨t,rfl⟩:=z
obtain⟨d,rfl⟩:=D
exact rule i j t d s _ _ ⟨.bl (g i j),H,I,rfl,q⟩)
noncomputable def CDiv(i j:Int):Prop:=0<j/\j<1073741824
noncomputable def CPow(i j:Int):Prop:=0<=j/\j<=1000000/\i.natAbs<2 ^ 64
noncomputable def CMul(i j:Int):Prop:=(-(2 ^ 64)<i/\i<2 ^ 64)\/(-(2 ^ 64)<j/\j<2 ^ 64)
theorem CMul.ok{i j:Int}(h:CMul i j):IntMulOk i j:=by(
rcases h with⟨h1,h2⟩|⟨h1,h2⟩
.exact .of_left (intBits_le_64 h1 h2)
exact .of_right (intBits_le_64 h1 h2))
theorem qC5(k:Nat):(0:Int)<=2 ^ k:=by rw[two_pow_cast];exact Int.natCast_nonneg _
theorem uZ:OpR X (binaryOp .Add) (rI0 λi j=>.int (i+j)):=opI0 λz z z z z z z q=>add_int q
theorem yL:OpR X (binaryOp .Sub) (rI0 λi j=>.int (i-j)):=opI0 λz z z z z z z q=>sub_int q
theorem v3:OpR X (binaryOp .Mult) (rI CMul λi j=>.int (i*j)):=opI λz z z z z z z hc q=>mul_int q hc.ok
theorem vR:OpR X (binaryOp .FloorDiv) (rI CDiv λi j=>.int (i / j)):=opI λi j z z z z z hc q=>by have h1:(0:Int)<j:=hc.1;have h2:j<1073741824:=hc.2;exact floordiv_int (by lia) (by rw[sI i (by lia)];exact q) (.inl (PyProof.noPylong_small (by lia)))
theorem yH:OpR X (binaryOp .Mod) (rI (λz j=>0<j) λi j=>.int (i%j)):=opI λi j z z z z z hc q=>by have h1:(0:Int)<j:=hc;exact mod_int' (by lia) (by rw[Int.fmod_eq_emod_of_nonneg i (by lia)];exact q)
theorem qF0:OpR X (binaryOp .Pow) (rI CPow λi j=>.int (i ^ j.toNat)):=opI λz z z z z z z hc q=>pow_int_small hc.1 hc.2.1 hc.2.2 q
theorem qK1:OpR X (binaryOp .LShift) (rI CPow λi j=>.int (i*2 ^ j.toNat)):=opI λz z z z z z z hc q=>lshift_int_small hc.1 hc.2.1 hc.2.2 q
theorem qK2:OpR X (binaryOp .RShift) (rI (λz j=>0<=j) λi j=>.int (i / 2 ^ j.toNat)):=opI λi j z z z z z hc q=>rshift_int hc (by rw[sI i (qC5 _)];exact q)
theorem qK3:OpR X (binaryOp .BitAnd) (rI0 λi j=>.int (Builtin.bitAnd i j)):=opI0 λz z z z z z z q=>and_int q
theorem qLZ:OpR X (binaryOp .BitOr) (rI0 λi j=>.int (Builtin.bitOr i j)):=opI0 λz z z z z z z q=>or_int q
end
noncomputable def scal:V->V->Bool
| .non,.non=>true| .non,.int _=>true| .int _,.non=>true| .non,.bl _=>true| .bl _,.non=>true| .non,.str _=>true| .str _,.non=>true
| .int _,.int _=>true| .bl _,.bl _=>true| .str _,.str _=>true| .byt _,.byt _=>true
| .int _,.str _=>true| .str _,.int _=>true| .bl _,.str _=>true| .str _,.bl _=>true
|_,_=>false
noncomputable def rEq:R2:=λx y H Q=>scal x y=true/\Q (.bl (decide (x=y))) H
noncomputable def rNe:R2:=λx y H Q=>scal x y=true/\Q (.bl (!decide (x=y))) H
theorem qD0{i j:Int}:decide (V.int i=V.int j)=(i==j):=by rw[wS];simp
theorem qF1{i j:Bool}:decide (V.bl i=V.bl j)=(i==j):=by rw[wS];simp
theorem qD1{i j:Str}:decide (V.str i=V.str j)=(i==j):=by rw[wS];simp
theorem qD2{i j:Array UInt8}:decide (V.byt i=V.byt j)=(i.toList==j.toList):=by(
rw[wS]
cases i
cases j
simp)
section
variable{X:Cx}{a b c:Expr}{ta tb tc:TE}{pos:Pos}
theorem jG{pins:List (Addr×Obj)}{σ:St}{H:Hp}{s:Shared}{Q:VK}{k k':Bool}(I:Inv X pins σ H s)(q:Q (.bl k) H)(e:k=k'):EP X pins σ Q (.bool k') s:=by subst e;exact⟨.bl k,H,I,rfl,q⟩
theorem zH:OpR X (compareOp .Eq) rEq:=by(
intro pins s σ H x y v u Q I J d h
obtain⟨D,q⟩:=h
cases x with
|non=>
 cases J;cases y with
 |non=>cases d;exact PySem.EqNone.eq_none_none (jG I q (by simp))
 |bl j=>cases d;exact PySem.EqNone.eq_none_bool (jG I q (by simp))
 |int j=>obtain⟨z,rfl⟩:=d;exact PySem.EqNone.eq_none_int (jG I q (by simp))
 |str j=>obtain⟨z,rfl⟩:=d;exact PySem.EqNone.eq_none_str (jG I q (by simp))
 |_=>exact absurd (show false=true from D) kW
|bl i=>
 cases J;cases y with
 |non=>cases d;exact PySem.EqNone.eq_bool_none (jG I q (by simp))
 |bl j=>cases d;exact eq_bool (jG I q qF1)
 |str j=>obtain⟨z,rfl⟩:=d;exact bK (jG I q (by simp))
 |_=>exact absurd (show false=true from D) kW
|int i=>
 obtain⟨t,rfl⟩:=J;cases y with
 |non=>cases d;exact PySem.EqNone.eq_int_none (jG I q (by simp))
 |int j=>obtain⟨z,rfl⟩:=d;exact eq_int (jG I q qD0)
 |str j=>obtain⟨z,rfl⟩:=d;exact bO (jG I q (by simp))
 |_=>exact absurd (show false=true from D) kW
|str i=>
 obtain⟨t,rfl⟩:=J;cases y with
 |non=>cases d;exact PySem.EqNone.eq_str_none (jG I q (by simp))
 |bl j=>cases d;exact bL (jG I q (by simp))
 |int j=>obtain⟨z,rfl⟩:=d;exact bQ (jG I q (by simp))
 |str j=>obtain⟨z,rfl⟩:=d;exact eq_str (jG I q qD1)
 |_=>exact absurd (show false=true from D) kW
|byt i=>
 obtain⟨t,rfl⟩:=J;cases y with
 |byt j=>obtain⟨z,rfl⟩:=d;exact PySem.W.eq_bytes (jG I q qD2)
 |_=>exact absurd (show false=true from D) kW
|_=>cases y<;>exact absurd (show false=true from D) kW)
theorem q27:OpR X (compareOp .NotEq) rNe:=by(
intro pins s σ H x y v u Q I J d h
obtain⟨D,q⟩:=h
cases x with
|non=>
 cases J;cases y with
 |non=>cases d;exact PySem.EqNone.ne_none_none (jG I q (by simp))
 |bl j=>cases d;exact PySem.EqNone.ne_none_bool (jG I q (by simp))
 |int j=>obtain⟨z,rfl⟩:=d;exact PySem.EqNone.ne_none_int (jG I q (by simp))
 |str j=>obtain⟨z,rfl⟩:=d;exact PySem.EqNone.ne_none_str (jG I q (by simp))
 |_=>exact absurd (show false=true from D) kW
|bl i=>
 cases J;cases y with
 |non=>cases d;exact PySem.EqNone.ne_bool_none (jG I q (by simp))
 |bl j=>cases d;exact ne_bool (jG I q (rL not qF1))
 |str j=>obtain⟨z,rfl⟩:=d;exact bM (jG I q (by simp))
 |_=>exact absurd (show false=true from D) kW
|int i=>
 obtain⟨t,rfl⟩:=J;cases y with
 |non=>cases d;exact PySem.EqNone.ne_int_none (jG I q (by simp))
 |int j=>obtain⟨z,rfl⟩:=d;exact ne_int (jG I q (rL not qD0))
 |str j=>obtain⟨z,rfl⟩:=d;exact bR (jG I q (by simp))
 |_=>exact absurd (show false=true from D) kW
|str i=>
 obtain⟨t,rfl⟩:=J;cases y with
 |non=>cases d;exact PySem.EqNone.ne_str_none (jG I q (by simp))
 |bl j=>cases d;exact bN (jG I q (by simp))
 |int j=>obtain⟨z,rfl⟩:=d;exact bS (jG I q (by simp))
 |str j=>obtain⟨z,rfl⟩:=d;exact ne_str (jG I q (rL not qD1))
 |_=>exact absurd (show false=true from D) kW
|byt i=>
 obtain⟨t,rfl⟩:=J;cases y with
 |byt j=>obtain⟨z,rfl⟩:=d;exact PySem.W.ne_bytes (jG I q (rL not qD2))
 |_=>exact absurd (show false=true from D) kW
|_=>cases y<;>exact absurd (show false=true from D) kW)
theorem q4J:OpR X (compareOp .Lt) (rI0 λi j=>.bl (decide (i<j))):=opB0 λz z z z z z z q=>lt_int q
theorem qF2:OpR X (compareOp .LtE) (rI0 λi j=>.bl (decide (i<=j))):=opB0 λz z z z z z z q=>le_int q
theorem qJE:OpR X (compareOp .Gt) (rI0 λi j=>.bl (decide (j<i))):=opB0 λz z z z z z z q=>gt_int q
theorem qD3:OpR X (compareOp .GtE) (rI0 λi j=>.bl (decide (j<=i))):=opB0 λz z z z z z z q=>ge_int q
theorem q71:OpR X (compareOp .Is) (λx y H Q=>y=.non/\Q (.bl (decide (x=.non))) H):=by(
intro pins s σ H x y v u Q I d z h
obtain⟨rfl,q⟩:=h
cases z
refine is_none_gen (jG I q ?_)
cases x<;>first
 |(cases d;rfl)
 |(obtain⟨t,rfl⟩:=d;rfl))
theorem q4K:OpR X (compareOp .IsNot) (λx y H Q=>y=.non/\Q (.bl (!decide (x=.non))) H):=by(
intro pins s σ H x y v u Q I d z h
obtain⟨rfl,q⟩:=h
cases z
refine isnot_none_gen (jG I q ?_)
cases x<;>first
 |(cases d;rfl)
 |(obtain⟨t,rfl⟩:=d;rfl))
theorem qV(b:Expr){op:CmpOp}(h:op≠ .In:=by decide)(h2:op≠ .NotIn:=by decide):behindInMarks op b=false:=by(
have z:(op==CmpOp.In)=false:=by cases op<;>first|rfl|exact absurd rfl h
have d:(op==CmpOp.NotIn)=false:=by cases op<;>first|rfl|exact absurd rfl h2
cases b<;>simp[behindInMarks,z,d])
theorem uM{op:CmpOp}{r:R2}(ho:OpR X (compareOp op) r)(ha:PE X a ta)(hb:PE X b tb)(hm:behindInMarks op b=false):PE X (.Compare a [op] [b] pos) (tOp r ta tb):=by intro pins s σ H Q I h;exact wpAny_Compare1 (binT ha hb I h λv u z x y H2 d D J q=>ho pins z σ H2 x y v u Q d D J q) hm
noncomputable def qJF(t:TE):TT:=λσ H Q=>t σ H λx H'=>∃k,x=.bl k/\Q k H'
theorem qS{op:CmpOp}{r:R2}(ho:OpR X (compareOp op) r)(ha:PE X a ta)(hb:PE X b tb)(hm:behindInMarks op b=false):PT X (.Compare a [op] [b] pos) (qJF (tOp r ta tb)):=by(
intro pins s σ H Q I h
refine lE (thn (ha pins s σ H _ I h) λv Z ⟨x,H1,S,U,q1⟩=>thn (hb pins Z σ H1 _ S q1) λu D ⟨y,H2,N,r2,d⟩=>thn (ho pins D σ H2 x y v u _ N U r2 d) λc s3 ⟨z,J,O,r3,k,e,q3⟩=>?_) hm
subst e
cases r3
exact gY ⟨J,O,q3⟩)
noncomputable def qF3(r r':R2)(ta tb tc:TE):TE:=λσ H Q=>ta σ H λx H1=>tb σ H1 λy H2=>r x y H2 λz H3=>∃k,z=.bl k/\(if k=true then tc σ H3 λw' H4=>r' y w' H4 Q else Q (.bl false) H3)
theorem qF4{op op':CmpOp}{r r':R2}(ho:OpR X (compareOp op) r)(ho':OpR X (compareOp op') r')(ha:PE X a ta)(hb:PE X b tb)(hc:PE X c tc)
 (hm:lastMarks [op,op'] [b,c]=false:=by with_unfolding_all rfl):PE X (.Compare a [op,op'] [b,c] pos) (qF3 r r' ta tb tc):=by(
intro pins s σ H Q I h
refine Compare_chain (thn (ha pins s σ H _ I h) λv s1 ⟨x,H1,I1,r1,q1⟩=>chain_link (thn (hb pins s1 σ H1 _ I1 q1) λu s2 ⟨y,H2,I2,r2,Z⟩=>thn (ho pins s2 σ H2 x y v u _ I2 r1 r2 Z) λd s3 ⟨z,D,J,r3,k,e,N⟩=>?_)) hm
subst e
cases r3
refine gY ?_
cases k with
|false=>exact ite_ff ⟨.bl false,D,J,rfl,N⟩
|true=>exact ite_tt (chain_last (thn (hc pins s3 σ D _ J N) λw' S ⟨O,U,I4,r4,q4⟩=>ho' pins S σ U y O u w' Q I4 r2 r4 q4)))
theorem qF5{op op':CmpOp}{r r':R2}(ho:OpR X (compareOp op) r)(ho':OpR X (compareOp op') r')(ha:PE X a ta)(hb:PE X b tb)(hc:PE X c tc)
 (hm:lastMarks [op,op'] [b,c]=false:=by with_unfolding_all rfl):PT X (.Compare a [op,op'] [b,c] pos) (qJF (qF3 r r' ta tb tc)):=by(
intro pins s σ H Q I h
refine isTrue_chain (thn (ha pins s σ H _ I h) λv s1 ⟨x,H1,I1,Z,q1⟩=>test_link (thn (hb pins s1 σ H1 _ I1 q1) λu s2 ⟨y,H2,I2,r2,q2⟩=>thn (ho pins s2 σ H2 x y v u _ I2 Z r2 q2) λd U ⟨z,D,J,r3,k,e,N⟩=>?_)) hm
subst e
cases r3
refine gY ?_
cases k with
|false=>obtain⟨k',e',q'⟩:=N;cases e';exact ite_ff ⟨D,J,q'⟩
|true=>refine ite_tt (test_last (thn (hc pins U σ D _ J N) λw' s4 ⟨z',H4,I4,r4,q4⟩=>thn (ho' pins s4 σ H4 y z' u w' _ I4 r2 r4 q4) λd' s5 hZ=>?_));obtain⟨z2,O,I5,r5,k2,S,q5⟩:=hZ;subst S;cases r5;exact gY ⟨O,I5,q5⟩)
theorem q72:(sizeLine:Nat)<2 ^ 63:=by rw[gR];decide
theorem q09{x:V}{us:List Value}(r:Vals [x] us):∃u,us=[u]/\RelV x u:=by
 cases r with
 |cons d r2=>cases r2;exact⟨_,rfl,d⟩
theorem qF6{x y:V}{us:List Value}(r:Vals [x,y] us):∃u w',us=[u,w']/\RelV x u/\RelV y w':=by(
cases r with
|cons d r2=>
 cases r2 with
 |cons r3 r4=>cases r4;exact⟨_,_,rfl,d,r3⟩)
theorem q8Y(hc:X.calm=true):q20 X (.builtin "max") (λxs H Q=>∃i j,xs=[.int i,.int j]/\Q (.int (if j>i then j else i)) H):=by(
intro pins s σ H xs z Q I r h
obtain⟨i,j,rfl,q⟩:=h
obtain⟨u,D,rfl,⟨t,rfl⟩,⟨t',rfl⟩⟩:=qF6 r
refine max_two_ints (I.ok.hd hc) λh' tk k=>⟨_,H,I.kept k,?_,q⟩
by_cases d:j>i
.rw[kM d,kM d];exact⟨_,rfl⟩
rw[kI d,kI d];exact⟨_,rfl⟩)
theorem qE8(hc:X.calm=true):q20 X (.builtin "min") (λxs H Q=>∃i j,xs=[.int i,.int j]/\Q (.int (if j<i then j else i)) H):=by(
intro pins s σ H xs z Q I r h
obtain⟨i,j,rfl,q⟩:=h
obtain⟨u,D,rfl,⟨t,rfl⟩,⟨t',rfl⟩⟩:=qF6 r
refine min_two_ints (I.ok.hd hc) λh' tk k=>⟨_,H,I.kept k,?_,q⟩
by_cases d:j<i
.rw[kM d,kM d];exact⟨_,rfl⟩
rw[kI d,kI d];exact⟨_,rfl⟩)
theorem qE9:q20 X (.type "int") (λxs H Q=>(∃i,xs=[.int i]/\Q (.int i) H)\/∃k,xs=[.bl k]/\Q (.int (if k then 1 else 0)) H):=by(
intro pins s σ H xs z Q I r h
rcases h with⟨i,rfl,q⟩|⟨k,rfl,q⟩
.obtain⟨u,rfl,t,rfl⟩:=q09 r;exact call_int_int ⟨.int i,H,I,⟨_,rfl⟩,q⟩
obtain⟨u,rfl,d⟩:=q09 r
cases d
exact call_int_bool ⟨.int (if k then 1 else 0),H,I.tok _,⟨_,rfl⟩,q⟩)
end
structure ObjM(h:Heap)(x dx C:Addr)(mA:Str->Option Value):Prop where
obj:h.get? x=some (PySem.W.instObj C dx)
ns:h.Ns1 dx mA
ne:dx≠x
set_option tactic.hygienic true in
theorem q8Z{h:Heap}{dx:Addr}{mA:Str->Option Value}(n:h.Ns1 dx mA):∃od,h.get? dx=some od/\∀name,PySem.W.lookIn name od=some (mA name):=by(
obtain⟨o,es,U,I,D,J,_,O⟩:=n
refine⟨o,I,λname=>?_⟩
have e:=O name
unfold nsFind findBy at e
rw[<-Array.find?_toList]at e
unfold PySem.W.lookIn
rw[D]
dsimp only
split
.rename_i y q;rw[q]at e;exact rL some e
rename_i q
rw[q]at e
have a:es.toList.any (·.refKey)=false:=by rw[xU];intro y N;obtain⟨z,t,d⟩:=J y (Array.mem_toList_iff.mp N);simp[DictEntry.refKey,d]
have S:¬es.toList.any (·.refKey)=true:=by rw[a];exact kW
rw[kI S]
exact rL some e)
theorem ObjM.look{h:Heap}{x dx C:Addr}{mA:Str->Option Value}(I:ObjM h x dx C mA):∃od,PySem.W.InstAt h x (PySem.W.instObj C dx) C (some od)/\∀name,PySem.W.lookIn name od=some (mA name):=let⟨od,ho,hl⟩:=q8Z I.ns
 ⟨od,⟨I.obj,rfl,rfl,ho⟩,hl⟩
section
variable{prog:Program}{w:World}{A:Around}{E:Value->Shared->Prop}{s:Shared}{K:PySem.W.Frag}{x dx C f:Addr}{mA:Str->Option Value}{name:Str}{v:Value}
theorem qHE{expr:Bool}{Q:Value->Shared->Prop}(X:K.In s.heap)(I:ObjM s.heap x dx C mA)(hg:PySem.W.plainGet K C name=true)(hh:PySem.W.hasDictIn K C=true)
 (ha:PySem.W.findIn K (.ref C) name=some none) (hv:mA name=some v) (hv':PySem.W.handedIn v=true) (h:Q v { s with toks:=s.toks+1 }):
 wpAny (model prog w) A (getAttr (.ref x) name expr) Q E s:=by obtain⟨od,J,hl⟩:=I.look;exact PySem.W.get_value X J (p7 hg).1 (PySem.W.findObj_own hh ha rfl (by rw[hl,hv])) hv' h
theorem qF7{pl:Sem Bool}{Q:Value×List Value->Shared->Prop}(X:K.In s.heap)(I:ObjM s.heap x dx C mA)(hg:PySem.W.plainGet K C name=true)
 (hf:PySem.W.findIn K (.ref C) name=some (some (.ref f))) (ht:PySem.W.isFn K (.ref f)=true) (hv:mA name=none) (h:Q (.ref f,[.ref x]) s):
 wpAny (model prog w) A (getMethod (.ref x) name pl) Q E s:=by obtain⟨od,J,hl⟩:=I.look;exact PySem.W.method_fn X J (p7 hg).1 (p7 hg).2 hf (d7.mp ht) (by show(PySem.W.lookIn name od).map (·.isSome)=some false;rw[hl,hv];rfl) h
theorem qHF{ns:List Str}{Q:Unit->Shared->Prop}(X:K.In s.heap)(I:ObjM s.heap x dx C mA)
 (hs:PySem.W.findIn K (.ref C) "__setattr__"=some (some (.builtin "object.__setattr__"))) (hp:PySem.W.plainOver K C=true) (ht:PySem.W.takerIn K C name=some none) (hh:PySem.W.hasDictIn K C=true)
 (hw:PySem.Within mA ns) (hsz:ns.length<=sizeLine)
 (h:∀h',ObjM h' x dx C (λy=>if y=name then some v else mA y)->Heap.SameBut dx s.heap h'->Q () { s with heap:=h',toks:=s.toks+2 }):
 wpAny (model prog w) A (setAttr (.ref x) name v) Q E s:=by(
obtain⟨od,J,hl⟩:=I.look
refine PySem.W.set_plain X J hs (PySem.W.osa_open (s:={ s with toks:=s.toks+1 }) (r:=none) X J hp ht λb=>?_)
obtain⟨cd,hc,D⟩:=pK hh
have U:s.heap.get? x=some ⟨.ref C,some dx,.plain,#[]⟩:=I.obj
refine kD (mE (kD (kD (wpAny_loadPart U (kD (eA (s:={ s with toks:=s.toks+1 }) (PySem.W.looks_clsIn X hc) ?_))))))
rw[D]
refine mE (a:=some dx) (kD (mE (kD ?_)))
refine wpAny_nsSet1 (s:={ s with toks:=s.toks+1 }) I.ns λh' z d=>?_
obtain⟨oD,Z,ab,N,O,S⟩:=z.count (PySem.Within.cons name v hw)
refine kD (wpAny_lookBehind N (by rw[O];exact pastItsLine_dict (mL S (by rw[mM];lia))) ?_)
exact mE (h _ ⟨(d.2 _ (wD I.ne)).trans I.obj,z,I.ne⟩ d))
theorem qAV{R:Result->Shared->Prop}{vs:List Value}{kw:List (Str×Value)}(X:K.In s.heap)(hm:PySem.W.makesIn K C=true)
 (hi:PySem.W.findIn K (.ref C) "__init__"=some (some (.ref f))) (hf:PySem.W.typeIn K (.ref f)=some (.type "function"))
 (h:codeAny (model prog w) (A.under (.builtin "type.__call__" ⟨.ref C::vs,kw⟩)) (.call (.ref f) ⟨.ref (s.heap.objs.size+1)::vs,kw⟩) (PySem.W.InitBack (s.heap.objs.size+1) R)
  { s with heap:=(s.heap.push PySem.W.emptyDict).push (PySem.W.instObj C s.heap.objs.size) }):
 codeAny (model prog w) A (.call (.ref C) ⟨vs,kw⟩) R s:=by obtain⟨D,g,d,t,os⟩:=s;exact xV (aI X hm) (cE X hi) (λz=>PySem.W.bind_fn X z hf) (.inl rfl) h
end
noncomputable def putF(f:Str)(v:V):List (Str×V)->List (Str×V)
| []=>[(f,v)]
|(g,x)::r=>if g=f then(g,v)::r else(g,x)::putF f v r
theorem q5Y(f g:Str)(v:V):∀fs:List (Str×V),(putF f v fs).lookup g=if g=f then some v else fs.lookup g
| []=>by
 show List.lookup g [(f,v)]=_;by_cases h:g=f
 .have hb:(g==f)=true:=d7.mpr h;simp only[List.lookup,hb,kM h]
 have hb:(g==f)=false:=rK.mpr h;simp only[List.lookup,hb,kI h]
|(k,x)::r=>by
 have ih:=q5Y f g v r;rw[show putF f v ((k,x)::r)=(if k=f then(k,v)::r else(k,x)::putF f v r)from rfl];by_cases hk:k=f
 .rw[kM hk];by_cases h:g=k
  .have hb:(g==k)=true:=d7.mpr h;simp only[List.lookup,hb,kM (h.trans hk)]
  have hb:(g==k)=false:=rK.mpr h;simp only[List.lookup,hb,kI (λe:g=f=>h (e.trans hk.symm))]
 rw[kI hk];by_cases h:g=k
 .have hb:(g==k)=true:=d7.mpr h;simp only[List.lookup,hb,kI (λe:g=f=>hk (h.symm.trans e))]
 have hb:(g==k)=false:=rK.mpr h;simp only[List.lookup,hb];exact ih
theorem q5C(f:Str)(v:V):∀fs:List (Str×V),f∈(putF f v fs).map (·.1)/\∀g,g∈fs.map (·.1)->g∈(putF f v fs).map (·.1)
| []=>⟨by simp[putF],λg h=>by simp at h⟩
|(k,x)::r=>by
 obtain⟨i1,i2⟩:=q5C f v r;rw[show putF f v ((k,x)::r)=(if k=f then(k,v)::r else(k,x)::putF f v r)from rfl];by_cases hk:k=f
 .rw[kM hk];subst hk;exact⟨by simp,λg h=>by simpa using h⟩
 rw[kI hk];refine⟨?_,λg h=>?_⟩
 .rw[mY];exact hU _ i1
 rw[mY]at h ⊢;rcases kN.mp h with e|e
 .exact kN.mpr (.inl e)
 exact hU _ (i2 g e)
theorem q5Z(f:Str)(v:V):∀fs:List (Str×V),(putF f v fs).length<=fs.length+1
| []=>by simp[putF]
|(k,x)::r=>by
 have ih:=q5Z f v r;rw[show putF f v ((k,x)::r)=(if k=f then(k,v)::r else(k,x)::putF f v r)from rfl];by_cases hk:k=f
 .rw[kM hk,mM,mM];lia
 rw[kI hk,mM,mM];lia
theorem RelO.some_of{v:V}{o:Option Value}(r:RelO (some v) o):∃u,o=some u/\RelV v u:=by(
cases o with
|none=>exact(show False from r).elim
|some u=>exact⟨u,rfl,r⟩)
theorem RelO.none_of{o:Option Value}(r:RelO none o):o=none:=by(
cases o with
|none=>rfl
|some u=>exact(show False from r).elim)
theorem qEA{v:V}{u:Value}(r:RelV v u):PySem.W.handedIn u=true:=by(
cases v with
|non=>cases(show u=Value.none from r);rfl
|bl b=>cases(show u=Value.bool b from r);rfl
|int i=>obtain⟨t,e⟩:=(show ∃t,u=Value.int i t from r);cases e;rfl
|str x=>obtain⟨t,e⟩:=(show ∃t,u=Value.str x t from r);cases e;rfl
|byt b=>obtain⟨t,e⟩:=(show ∃t,u=Value.bytes b t from r);cases e;rfl
|flt b=>obtain⟨t,e⟩:=(show ∃t,u=Value.float b t from r);cases e;rfl
|ref a=>cases(show u=Value.ref a from r);rfl
|ty n=>cases(show u=Value.type n from r);rfl)
section
variable{P:Program}{w:World}{H H':Hp}{h h':Heap}{a C dx:Addr}{fs fs':List (Str×V)}
theorem q6K(hok:HOk P w H h)(e:H a=some (.ins C dx fs)):∃mA,ObjM h a dx C mA/\(∀f,RelO (fs.lookup f) (mA f))/\PySem.Within mA (fs.map (·.1))/\fs.length<=1000/\H dx=some (.own a):=by obtain⟨d,z,ne,D,mA,n,r,q⟩:=(show jL P w H h a (.ins C dx fs)from hok a _ e);exact⟨mA,⟨D,n,ne⟩,r,q,z,d⟩
end
structure Cls(K:PySem.W.Frag)(C:Addr):Prop where
pg:PySem.W.plainGet K C Str.empty=true
hd:PySem.W.hasDictIn K C=true
po:PySem.W.plainOver K C=true
sa:PySem.W.findIn K (.ref C) "__setattr__"=some (some (.builtin "object.__setattr__"))
theorem Cls.get{K:PySem.W.Frag}{C:Addr}(c:Cls K C)(f:Str):PySem.W.plainGet K C f=true:=c.pg
noncomputable def qR(K:PySem.W.Frag)(C:Addr)(f:Str):Prop:=PySem.W.findIn K (.ref C) f=some none
theorem qR.taker{K:PySem.W.Frag}{C:Addr}{f:Str}(n:qR K C f):PySem.W.takerIn K C f=some none:=by unfold PySem.W.takerIn;rw[show PySem.W.findIn K (.ref C) f=some none from n];rfl
structure Meth(K:PySem.W.Frag)(C:Addr)(m:Str)(f:Addr):Prop where
at_:PySem.W.findIn K (.ref C) m=some (some (.ref f))
fn:PySem.W.isFn K (.ref f)=true
kp:PySem.W.keepIn K (.ref f)=true
section
variable{X:Cx}{pins:List (Addr×Obj)}{σ:St}{H:Hp}{s:Shared}{a C dx:Addr}{fs:List (Str×V)}{f:Str}{v:V}{A:Around}{E:Value->Shared->Prop}
theorem q73{b:Bool}{Q:Value->Shared->Prop}(I:Inv X pins σ H s)(e:H a=some (.ins C dx fs))(c:Cls X.K C)(n:qR X.K C f)(l:fs.lookup f=some v)
 (h:∀u s',Inv X pins σ H s'->RelV v u->Q u s'):wpAny (model X.prog X.w) A (getAttr (.ref a) f b) Q E s:=by obtain⟨mA,O,r,_,_,_⟩:=q6K I.hok e;obtain⟨u,z,d⟩:=RelO.some_of (v:=v) (o:=mA f) (by rw[<-l];exact r f);exact qHE I.kIn O (c.get f) c.hd n z (qEA d) (h u _ (I.tok _) d)
theorem q1E{m:Str}{g:Addr}{pl:Sem Bool}{Q:Value×List Value->Shared->Prop}(I:Inv X pins σ H s)(e:H a=some (.ins C dx fs))(c:Cls X.K C)(k:Meth X.K C m g)(l:fs.lookup m=none)
 (h:Q (.ref g,[.ref a]) s):wpAny (model X.prog X.w) A (getMethod (.ref a) m pl) Q E s:=by obtain⟨mA,O,r,_,_,_⟩:=q6K I.hok e;have d:mA m=none:=RelO.none_of (by rw[<-l];exact r m);exact qF7 I.kIn O (c.get m) k.at_ k.fn d h
theorem q74{y:V}{u:Value}{Q:Unit->Shared->Prop}(I:Inv X pins σ H s)(e:H a=some (.ins C dx fs))(c:Cls X.K C)(n:qR X.K C f)(hl:fs.length<1000)(ry:RelV y u)
 (h:∀s',Inv X pins σ (upd H a (.ins C dx (putF f y fs))) s'->Q () s'):wpAny (model X.prog X.w) A (setAttr (.ref a) f u) Q E s:=by(
obtain⟨mA,O,r,D,_,J⟩:=q6K I.hok e
have Z:(fs.map (·.1)).length<=sizeLine:=by rw[kB,gR];lia
refine qHF I.kIn O c.sa c.po n.taker c.hd D Z λh' d U=>h _ ?_
have S:∃o,h'.get? dx=some o:=let⟨o,_,_,e',_⟩:=d.ns;⟨o,e'⟩
refine I.write (x:=a) (e:=dx) (by rw[e];exact True.intro) (.inr J) (λb q N z=>(U.2 b N).trans z) S ?_
refine⟨by rw[qD O.ne];exact J,?_,O.ne,d.obj,_,d.ns,λg=>?_,λg hg=>?_⟩
.have:=q5Z f y fs;lia
.show RelO ((putF f y fs).lookup g) (if g=f then some u else mA g);rw[q5Y];by_cases q:g=f
 .rw[kM q,kM q];exact ry
 rw[kI q,kI q];exact r g
by_cases q:g=f
.rw[q];exact(q5C f y fs).1
refine(q5C f y fs).2 g (D g λz=>hg ?_)
show(if g=f then some u else mA g)=none
rw[kI q];exact z)
theorem Inv.made(I:Inv X pins σ H s):Inv X pins σ (upd (upd H s.heap.objs.size (.own (s.heap.objs.size+1))) (s.heap.objs.size+1) (.ins C s.heap.objs.size []))
 { s with heap:=(s.heap.push PySem.W.emptyDict).push (PySem.W.instObj C s.heap.objs.size) }:=by(
have d:(s.heap.push PySem.W.emptyDict).get? s.heap.objs.size=some PySem.W.emptyDict:=mP s.heap rfl
have J:((s.heap.push PySem.W.emptyDict).push (PySem.W.instObj C s.heap.objs.size)).get? (s.heap.objs.size+1)=some (PySem.W.instObj C s.heap.objs.size):=by have:=mP (s.heap.push PySem.W.emptyDict) (o:=PySem.W.instObj C s.heap.objs.size) rfl;rwa [sJ]at this
have z:(s.heap.push PySem.W.emptyDict).Ns s.heap.objs.size (λU=>none):=⟨PySem.W.emptyDict,#[],_,d,rfl,(λe D=>absurd D (by simp)),λU=>rfl⟩
have N:=I.laid (a:=s.heap.objs.size) (o:=.own (s.heap.objs.size+1)) (h':=s.heap.push PySem.W.emptyDict) (t':=s.toks) (λb u q=>kJ _ q) (kO _) ⟨_,d⟩
refine N.laid (a:=s.heap.objs.size+1) (o:=.ins C s.heap.objs.size []) (t':=s.toks) (λb u q=>kJ _ q) (c8 (sJ _ _)) ?_
have ne:s.heap.objs.size≠s.heap.objs.size+1:=mR (d8 _)
refine⟨by rw[qD ne,qI],m7 _,ne,J,λU=>none,(Heap.Ns1.of_empty z).at λo q=>kJ _ q,λU=>True.intro,λy O=>absurd rfl O⟩)
theorem qHG{prog:Program}{w:World}{env:Env}{e:Expr}{f:Str}{pos:Pos}{s:Shared}{Q:Value->Shared->Prop}(hb:attributeBase e f env (eval e env)=eval e env)
 (h:wpAny (model prog w) A (eval e env) (λo s₁=>wpAny (model prog w) A (getAttr o f true) Q E s₁) E s):wpAny (model prog w) A (eval (.Attribute e f pos) env) Q E s:=Attribute_any_ h (by rw[arm_eval_Attribute,hb])
end
noncomputable def tFld(K:PySem.W.Frag)(ta:TE)(f:Str):TE:=λσ H Q=>ta σ H λx H1=>∃a C dx fs v,x=.ref a/\H1 a=some (.ins C dx fs)/\Cls K C/\qR K C f/\fs.lookup f=some v/\Q v H1
noncomputable def sFld(K:PySem.W.Frag)(ta tv:TE)(f:Str):TS:=λD σ H=>tv σ H λy H1=>ta σ H1 λx H2=>∃a C dx fs,x=.ref a/\H2 a=some (.ins C dx fs)/\Cls K C/\qR K C f/\fs.length<1000/\D.nx σ (upd H2 a (.ins C dx (putF f y fs)))
noncomputable def InOp(X:Cx)(op:Operator)(rd:V->V->Hp->VK->Prop):Prop:=∀(pins:List (Addr×Obj)) (s:Shared) (σ:St) (H:Hp) (x y:V) (u v:Value) (Q:VK),Inv X pins σ H s->RelV x u->RelV y v->rd x y H Q->wpAny (model X.prog X.w) X.A (inplaceOp op u v) (EP X pins σ Q) X.xe s
noncomputable def qHH(K:PySem.W.Frag)(ta tv:TE)(rd:V->V->Hp->VK->Prop)(f:Str):TS:=λD σ H=>ta σ H λx H1=>∃a C dx fs v,x=.ref a/\H1 a=some (.ins C dx fs)/\Cls K C/\qR K C f/\fs.lookup f=some v/\tv σ H1 λy H2=>rd v y H2 λz H3=>∃dx' fs',H3 a=some (.ins C dx' fs')/\fs'.length<1000/\D.nx σ (upd H3 a (.ins C dx' (putF f z fs')))
section
variable{X:Cx}{o e value:Expr}{f:Str}{pos pos' tpos:Pos}{ta tv:TE}
theorem qJ(he:PE X e ta)(hb:attributeBase e f X.env (eval e X.env)=eval e X.env):PE X (.Attribute e f pos) (tFld X.K ta f):=by(
intro pins s σ H Q I h
refine qHG hb (thn (he pins s σ H _ I h) λu U z=>?_)
obtain⟨x,H1,J,d,a,C,dx,fs,v,ex,ea,c,n,l,q⟩:=z
subst ex
obtain rfl:u=Value.ref a:=d
exact q73 J ea c n l λS O D N=>⟨v,H1,D,N,q⟩)
theorem jH(ha:PE X o ta)(hv:PE X value tv)(hs:swapsWith value (some (.Attribute o f pos')) pos.line X.env=pure false):PS X (.Assign [.Attribute o f pos'] value pos) (sFld X.K ta tv f):=by(
intro pins s σ H D I h
refine plainObj_wpAny_Assign_Attribute (thn (hv pins s σ H _ I h) λu Z ⟨y,H1,U,ry,q⟩=>thn (ha pins Z σ H1 _ U q) λJ s2 N=>?_) hs
obtain⟨x,H2,O,d,a,C,dx,fs,ex,ea,c,n,l,z⟩:=N
subst ex
obtain rfl:J=Value.ref a:=d
exact q74 O ea c n l ry λs3 S=>⟨σ,_,S,z⟩)
theorem q90{op:Operator}{rd:V->V->Hp->VK->Prop}(ha:PE X o ta)(hv:PE X value tv)(hop:InOp X op rd):PS X (.AugAssign (.Attribute o f tpos) op value pos) (qHH X.K ta tv rd f):=by(
intro pins s σ H D I h
refine wpAny_AugAssign_AttributeAny (thn (ha pins s σ H _ I h) λov s1 J=>?_)
obtain⟨x,H1,I1,rx,a,C,dx,fs,v,ex,ea,c,n,l,q⟩:=J
subst ex
obtain rfl:ov=Value.ref a:=rx
refine q73 I1 ea c n l λu Z I2 U=>thn (hv pins Z σ H1 _ I2 q) λw3 O ⟨y,H2,I3,ry,q3⟩=>thn (hop pins O σ H2 v y u w3 _ I3 U ry q3) λw4 s4 J=>?_
obtain⟨z,H3,I4,rz,N,fs',d,S,q4⟩:=J
exact q74 I4 d c n S rz λs5 I5=>⟨σ,_,I5,q4⟩)
noncomputable def rAdd:V->V->Hp->VK->Prop:=λx y H Q=>∃i j,x=.int i/\y=.int j/\Q (.int (i+j)) H
noncomputable def rSub:V->V->Hp->VK->Prop:=λx y H Q=>∃i j,x=.int i/\y=.int j/\Q (.int (i-j)) H
theorem qK4:InOp X .Add rAdd:=by(
rintro pins s σ H x y u v Q I z D ⟨i,j,rfl,rfl,q⟩
obtain⟨t,rfl⟩:=(show ∃t,u=Value.int i t from z)
obtain⟨d,rfl⟩:=(show ∃d,v=Value.int j d from D)
exact PyProof.Rows.iadd_int ⟨.int (i+j),H,I.tok _,⟨_,rfl⟩,q⟩)
theorem qK5:InOp X .Sub rSub:=by(
rintro pins s σ H x y u v Q I z D ⟨i,j,rfl,rfl,q⟩
obtain⟨t,rfl⟩:=(show ∃t,u=Value.int i t from z)
obtain⟨d,rfl⟩:=(show ∃d,v=Value.int j d from D)
exact PyProof.Rows.isub_int ⟨.int (i-j),H,I.tok _,⟨_,rfl⟩,q⟩)
end
section
variable{X:Cx}{pins:List (Addr×Obj)}{σ:St}{H:Hp}{s:Shared}{A:Around}{E:Value->Shared->Prop}{Q:Value->Shared->Prop}{c:Value}{b:Bool}
inductive TyOf(K:PySem.W.Frag)(H:Hp):V->Value->Prop where
|non:TyOf K H .non (.type "NoneType")
|bl (x:Bool):TyOf K H (.bl x) (.type "bool")
|int (i:Int):TyOf K H (.int i) (.type "int")
|str (x:Str):TyOf K H (.str x) (.type "str")
|flt (x:UInt64):TyOf K H (.flt x) (.type "float")
|lst {a:Addr} {xs:List V} (e:H a=some (.lst xs)):TyOf K H (.ref a) (.type "list")
|frz {a:Addr} {o:Obj} {xs:List V} (e:H a=some (.frz o (.lst xs))):TyOf K H (.ref a) (.type "list")
|tup {a:Addr} {xs:List V} (e:H a=some (.tup xs)):TyOf K H (.ref a) (.type "tuple")
|dK {a:Addr} {kvs:List (Key×V)} (e:H a=some (.dK kvs)):TyOf K H (.ref a) (.type "dict")
|dT {a:Addr} {kvs:List (List Key×V)} (e:H a=some (.dT kvs)):TyOf K H (.ref a) (.type "dict")
|ins {a C dx:Addr} {fs:List (Str×V)} (e:H a=some (.ins C dx fs)) (cl:Cls K C) (ha:PySem.W.findIn K (.ref C) "__class__"=some (some (.builtin "object.__class__")))
 (hn:PySem.W.specialIn K (.builtin "object.__class__") "__get__"=some (some (.builtin "getset_descriptor.__get__"))) (htk:PySem.W.takesIn K (.builtin "object.__class__")=some true)
 (hm:PySem.W.mroIn K C (.type "object")=some true):TyOf K H (.ref a) (.ref C)
theorem qEB{x:V}{u t:Value}(I:Inv X pins σ H s)(rx:RelV x u)(ty:TyOf X.K H x t)(e:PySem.W.kitOne X.K t c=some b)(h:∀tk,Q (.bool b) { s with toks:=tk }):
 wpAny (model X.prog X.w) A (call (.builtin "isinstance") [u,c]) Q E s:=by(
cases ty with
|non=>cases(show u=Value.none from rx);exact g8 PySem.W.kitx_none I.kIn True.intro e (λz=>nomatch z) h
|bl y=>cases(show u=Value.bool y from rx);exact g8 PySem.W.kitx_bool I.kIn True.intro e (λz=>nomatch z) h
|int i=>obtain⟨t,q⟩:=(show ∃t,u=Value.int i t from rx);cases q;exact g8 PySem.W.kitx_int I.kIn True.intro e (λz=>nomatch z) h
|str y=>obtain⟨t,q⟩:=(show ∃t,u=Value.str y t from rx);cases q;exact g8 PySem.W.kitx_str I.kIn True.intro e (λz=>nomatch z) h
|flt y=>obtain⟨t,q⟩:=(show ∃t,u=Value.float y t from rx);cases q;exact g8 PySem.W.kitx_float I.kIn True.intro e (λz=>nomatch z) h
|@lst a xs ea=>cases(show u=Value.ref a from rx);obtain⟨_,_,n,_,h1⟩:=(show jL X.prog X.w H s.heap a (.lst xs)from I.hok a _ ea);exact g8 xW I.kIn ⟨_,h1,rfl⟩ e (λz=>nomatch z) h
|@frz a ob xs ea=>cases(show u=Value.ref a from rx);obtain⟨_,_,_,n,_,h1⟩:=(show jL X.prog X.w H s.heap a (.frz ob (.lst xs))from I.hok a _ ea);exact g8 xW I.kIn ⟨_,h1,rfl⟩ e (λz=>nomatch z) h
|@tup a xs ea=>cases(show u=Value.ref a from rx);obtain⟨_,_,_,p⟩:=(show jL X.prog X.w H s.heap a (.tup xs)from I.hok a _ ea);obtain⟨o,h1,h2,_⟩:=p;exact g8 PySem.W.kitx_tuple I.kIn ⟨o,h1,h2⟩ e (λz=>nomatch z) h
|@dK a kvs ea=>cases(show u=Value.ref a from rx);obtain⟨_,_,D,_,p⟩:=(show jL X.prog X.w H s.heap a (.dK kvs)from I.hok a _ ea);obtain⟨o,es,d,h1,h2,_⟩:=p;exact g8 xX I.kIn ⟨o,h1,h2.1⟩ e (λz=>nomatch z) h
|@dT a kvs ea=>cases(show u=Value.ref a from rx);obtain⟨_,_,xs,_,o,es,d,h1,h2,_⟩:=(show jL X.prog X.w H s.heap a (.dT kvs)from I.hok a _ ea);exact g8 xX I.kIn ⟨o,h1,h2.1⟩ e (λz=>nomatch z) h
|@ins a C dx fs ea cl ha hn htk hm=>cases(show u=Value.ref a from rx);obtain⟨mA,O,_⟩:=q6K I.hok ea;obtain⟨od,J,_⟩:=O.look;exact g8 (PySem.W.kitx_own (cl.get _) cl.hd ha hn htk hm) I.kIn J e (λz=>nomatch z) h)
end
structure Room(k:Nat)(A:Around):Prop where
hd:A.handled=none
dp:A.depth+3*k+5<recursionLimit
un:A.units+16*k+200<cLine
theorem Room.mono{j k:Nat}{A:Around}(r:Room k A)(h:j<=k):Room j A:=⟨r.hd,by have:=r.dp;lia,by have:=r.un;lia⟩
theorem Room.deeper{k:Nat}{A:Around}(r:Room (k+1) A)(env:Env):Room k (A.deeper env):=⟨r.hd,by have:=r.dp;show A.depth+1+3*k+5< _;lia,by have:=r.un;show A.units+3+16*k+200< _;lia⟩
theorem Room.in1{k:Nat}{A:Around}(r:Room (k+1) A):Room k A.in1:=⟨r.hd,by have:=r.dp;show A.depth+3*k+5< _;lia,by have:=r.un;show A.units+1+16*k+200< _;lia⟩
theorem qC6{A:Around}{C:Addr}{us:List Value}{kw:List (Str×Value)}:(A.under (.builtin "type.__call__" ⟨.ref C::us,kw⟩)).depth=A.depth+1:=by first|rfl|simp[Around.under,Code.weight,Code.isCreation,Code.isGuard,Code.isCaller,Code.frames,Code.isFrame,guardIds]
theorem qC7{A:Around}{C:Addr}{us:List Value}{kw:List (Str×Value)}:(A.under (.builtin "type.__call__" ⟨.ref C::us,kw⟩)).units=A.units+1:=by first|rfl|simp[Around.under,Code.cUnits,Code.frames,Code.isFrame]
theorem Room.make{k:Nat}{A:Around}(r:Room (k+1) A)(C:Addr)(us:List Value)(kw:List (Str×Value)):Room k (A.under (.builtin "type.__call__" ⟨.ref C::us,kw⟩)):=⟨r.hd,by have:=r.dp;rw[qC6];lia,by have:=r.un;rw[qC7];lia⟩
theorem Room.depth{k:Nat}{A:Around}(r:Room k A):A.depth<recursionLimit:=by have:=r.dp;lia
theorem Room.units{k:Nat}{A:Around}(r:Room k A):A.units+64<cLine:=by have:=r.un;lia
noncomputable def tNil:TA:=λz H Q=>Q [] H
noncomputable def q75(ta:TE)(tr:TA):TA:=λσ H Q=>ta σ H λx H1=>tr σ H1 λxs H2=>Q (x::xs) H2
section
variable{X:Cx}{e:Expr}{es:List Expr}{te:TE}{t:TA}{pos:Pos}
theorem qE:PA X [] tNil:=λz z z z H Q I h=>xY ⟨[],H,I,.nil,h⟩
theorem qA(ha:PE X e te)(hr:PA X es t)(hs:starEach (e::es) X.env=(false,eval e X.env)::starEach es X.env:=by rfl):PA X (e::es) (q75 te t):=by(
intro pos pins s σ H Q I h
rw[hs]
show wpAny _ _ (spliced ((false,eval e X.env)::backTo pos (starEach es X.env))) _ _ s
refine xJ (thn (ha pins s σ H _ I h) λu O z=>?_)
obtain⟨x,H1,J,N,S⟩:=z
exact thn (hr pos pins O σ H1 _ J S) λZ U ⟨xs,H2,D,r2,d⟩=>⟨x::xs,H2,D,.cons N r2,d⟩)
end
noncomputable abbrev Sp:=List V->Hp->VK->XK->Prop
noncomputable abbrev CXT:=List Env->Hp->Shared->XK->Value->Shared->Prop
structure Env0(P:Program)(w:World)(K:PySem.W.Frag)(mg:Str->Option Value)(base:Heap)(A:Around)(outer:List Env)(s:Shared)(H:Hp):Prop where
frames:A.frames=some outer
mod:Mod K mg base
bs:∀b o,base.get? b=some o->s.heap.get? b=some o/\H b=none
bsz:base.objs.size<=s.heap.objs.size
funs:s.heap.FunFrames base outer
frf:∀b∈frs outer,H b=none
hok:HOk P w H s.heap
bare:AllBare s.gens
noncomputable def CE(outer:List Env)(P:Program)(w:World)(H:Hp)(s:Shared)(Q:VK)(u:Value)(s':Shared):Prop:=∃v H',s'.os=s.os/\AllBare s'.gens/\Un (frs outer) [] H H' s.heap s'.heap/\HOk P w H' s'.heap/\RelV v u/\Q v H'
noncomputable def CR(CX:CXT)(outer:List Env)(P:Program)(w:World)(H:Hp)(s:Shared)(Q:VK)(E:XK)(r:Result)(s':Shared):Prop:=match r with
| .ok (.ret u)=>CE outer P w H s Q u s'
| .ok _=>False
| .error e=>CX outer H s E e s'
structure FnOk(P:Program)(w:World)(K:PySem.W.Frag)(mg:Str->Option Value)(base:Heap)(CX:CXT)(k:Nat)(f:Addr)(fd:FuncData)(ps:List Str)(sp:Sp):Prop where
len:∀vs H Q E,sp vs H Q E->vs.length=ps.length
run:∀(A:Around) (outer:List Env) (s:Shared) (H:Hp) (args:Args) (us:List Value) (vs:List V) (Q:VK) (E:XK),Room k A->Env0 P w K mg base A outer s H->BindsTo s fd args (ps.zip us)->Vals vs us->sp vs H Q E->codeAny (model P w) A (.call (.ref f) args) (CR CX outer P w H s Q E) s
theorem FnOk.mono{P:Program}{w:World}{K:PySem.W.Frag}{mg:Str->Option Value}{base:Heap}{CX:CXT}{j k:Nat}{f:Addr}{fd:FuncData}{ps:List Str}{sp:Sp}(F:FnOk P w K mg base CX j f fd ps sp)(h:j<=k:=by decide):
 FnOk P w K mg base CX k f fd ps sp:=⟨F.len,λA outer s H args us vs Q E hr=>F.run A outer s H args us vs Q E (hr.mono h)⟩
theorem Env0.make{P:Program}{w:World}{K:PySem.W.Frag}{mg:Str->Option Value}{base:Heap}{A:Around}{outer:List Env}{s:Shared}{H:Hp}(e:Env0 P w K mg base A outer s H)(C:Addr)(us:List Value)(kw:List (Str×Value)):
 Env0 P w K mg base (A.under (.builtin "type.__call__" ⟨.ref C::us,kw⟩)) outer s H:=⟨by first|exact e.frames|(simpa[Around.under,Code.envs,Code.isFrame,pushEnvs]using e.frames),e.mod,e.bs,e.bsz,e.funs,e.frf,e.hok,e.bare⟩
section
variable{X:Cx}{pins:List (Addr×Obj)}{σ:St}{H:Hp}{s s':Shared}
theorem Inv.env0(I:Inv X pins σ H s):Env0 X.prog X.w X.K X.mg X.base X.A X.stack s H:=⟨I.ok.frames,I.ok.mod,I.bs,mL I.ok.bsz I.sz,I.stack,I.stkFree,I.hok,I.bare⟩
theorem Inv.after{Q:VK}{u:Value}(I:Inv X pins σ H s)(h:CE X.stack X.prog X.w H s Q u s'):EP X pins σ Q u s':=by(
obtain⟨v,H',os,D,un,N,r,q⟩:=h
obtain⟨O,g,d,t,J⟩:=s'
obtain rfl:J=s.os:=os
exact⟨v,H',I.call (h':=O) (g':=g) (d':=d) (t':=t) (ch:=[]) un N D (λb z=>absurd z (by simp)),r,q⟩)
end
noncomputable def qM0(sp:Sp)(dvs:List V)(E:XK)(t:TA):TE:=λσ H Q=>t σ H λvs H1=>sp (vs++dvs) H1 Q E
noncomputable def qJG(C:Addr)(m:Str)(sp:Sp)(dvs:List V)(E:XK)(ta:TE)(t:TA):TE:=λσ H Q=>ta σ H λx H1=>∃a dx fs,x=.ref a/\H1 a=some (.ins C dx fs)/\fs.lookup m=none/\t σ H1 λvs H2=>sp (x::(vs++dvs)) H2 Q E
noncomputable def qM1(C:Addr)(sp:Sp)(dvs:List V)(E:XK)(t:TA):TE:=λσ H Q=>t σ H λvs H1=>∀x dx,H1 x=none->H1 dx=none->dx≠x->sp (.ref x::(vs++dvs)) (upd (upd H1 dx (.own x)) x (.ins C dx [])) (λv H2=>v=.non/\Q (.ref x) H2) E
noncomputable def jQ(K:PySem.W.Frag)(fd:FuncData)(ps:List Str)(ds:List Value):Prop:=∀(s:Shared) (us:List Value),K.In s.heap->(us++ds).length=ps.length->BindsTo s fd ⟨us,[]⟩ (ps.zip (us++ds))
theorem jQ.all{K:PySem.W.Frag}{fd:FuncData}{ps:List Str}(h:∀us:List Value,us.length=ps.length->bindArgs fd ⟨us,[]⟩=pure (ps.zip us)):jQ K fd ps []:=λs us z hl=>by rw[gT]at hl ⊢;exact .of_eq (h us hl)
noncomputable def q28(CX:CXT)(X:Cx)(E:XK):Prop:=∀(pins:List (Addr×Obj)) (σ:St) (H:Hp) (s:Shared) (e:Value) (s':Shared),Inv X pins σ H s->CX X.stack H s E e s'->X.xe e s'
section
variable{X:Cx}{CX:CXT}{k:Nat}{f C:Addr}{fd:FuncData}{ps:List Str}{sp:Sp}{dvs:List V}{ds:List Value}{E:XK}{x m:Str}{p pos apos:Pos}{e o:Expr}{es:List Expr}{ta:TE}{t:TA}
theorem qC8{pins:List (Addr×Obj)}{σ:St}{H:Hp}{s:Shared}{Q:VK}{us:List Value}{vs:List V}(F:FnOk X.prog X.w X.K X.mg X.base CX k f fd ps sp)(hr:Room k X.A)(hb:jQ X.K fd ps ds)(hd:Vals dvs ds)(hx:q28 CX X E)
 (I:Inv X pins σ H s) (r:Vals vs us) (h:sp (vs++dvs) H Q E):wpAny (model X.prog X.w) X.A (call (.ref f) us) (EP X pins σ Q) X.xe s:=by(
have r2:Vals (vs++dvs) (us++ds):=r.append hd
have hl:(us++ds).length=ps.length:=by rw[<-r2.length];exact F.len _ _ _ _ h
refine cF (cK (F.run X.A X.stack s H ⟨us,[]⟩ (us++ds) (vs++dvs) Q E hr I.env0 (hb s us I.kIn hl) r2 h) λr s' d=>?_)
cases r with
|error e=>exact hx pins σ H s e s' I d
|ok z=>
 cases z with
 |ret u=>exact I.after d
 |next=>exact False.elim d
 |brk=>exact False.elim d
 |cont=>exact False.elim d)
theorem qU(F:FnOk X.prog X.w X.K X.mg X.base CX k f fd ps sp)(hr:Room k X.A)(hg:Gl X x)(hm:X.mg x=some (.ref f))(hk:PySem.W.keepIn X.K (.ref f)=true)(hb:jQ X.K fd ps ds)(hd:Vals dvs ds)(hx:q28 CX X E)
 (ha:PA X (e::es) t) (hdb:(x==("__debug__":Str))=false:=by decide) (he:starEach (e::es) X.env=(false,eval e X.env)::starEach es X.env:=by rfl) (hpl:(backTo pos (starEach es X.env)).any (·.1)=false:=by rfl):
 PE X (.Call (.Name x p) (e::es) [] pos) (qM0 sp dvs E t):=by(
intro pins s σ H Q I h
refine g5 (q08 I hg hm ?_ hdb)
refine d9 (h₀:=X.base) I.ok.mod.kin hk (thn (ha pos pins s σ H _ I h) λz J ⟨D,H1,d,r,q⟩=>⟨d.kIn,?_⟩) he hpl
exact qC8 F hr hb hd hx d r q)
theorem jD{pl:Sem Bool}(he:PE X o ta)(c:Cls X.K C)(hm:Meth X.K C m f)(F:FnOk X.prog X.w X.K X.mg X.base CX k f fd ps sp)(hr:Room k X.A)(hb:jQ X.K fd ps ds)(hd:Vals dvs ds)(hx:q28 CX X E)(ha:PA X (e::es) t)
 (hst:starEach (e::es) X.env=(false,eval e X.env)::starEach es X.env:=by rfl) (hpl:(backTo pos (starEach es X.env)).any (·.1)=false:=by rfl)
 (ht:eval (.Call (.Attribute o m apos) (e::es) [] pos) X.env=(do
  let ov<-eval o X.env
  standAt apos.atName
  let(f,first)<-holding [ov] (getMethod ov m pl)
  callWith pos f first (backTo pos (starEach (e::es) X.env)) (backToKw pos (keywordEach [] X.env))):=by rfl):
 PE X (.Call (.Attribute o m apos) (e::es) [] pos) (qJG C m sp dvs E ta t):=by(
intro pins s σ H Q I h
refine rS (pl:=pl) (thn (he pins s σ H _ I h) λu O N=>?_) ht
obtain⟨x,H1,z,D,a,dx,fs,ex,ea,l,q⟩:=N
subst ex
obtain rfl:u=Value.ref a:=D
refine q1E z ea c hm l ?_
refine d9 (first:=[.ref a]) (h₀:=X.base) I.ok.mod.kin hm.kp (thn (ha pos pins O σ H1 _ z q) λus S ⟨vs,H2,d,r,J⟩=>⟨d.kIn,?_⟩) hst hpl
exact qC8 (us:=.ref a::us) (vs:=.ref a::vs) F hr hb hd hx d (.cons rfl r) J)
theorem qT{pl:Sem Bool}(he:PE X o ta)(c:Cls X.K C)(hm:Meth X.K C m f)(F:FnOk X.prog X.w X.K X.mg X.base CX k f fd ps sp)(hr:Room k X.A)(hb:jQ X.K fd ps ds)(hd:Vals dvs ds)(hx:q28 CX X E)
 (ht:eval (.Call (.Attribute o m apos) [] [] pos) X.env=(do
  let ov<-eval o X.env
  standAt apos.atName
  let(f,first)<-holding [ov] (getMethod ov m pl)
  callWith pos f first (backTo pos (starEach [] X.env)) (backToKw pos (keywordEach [] X.env))):=by rfl):
 PE X (.Call (.Attribute o m apos) [] [] pos) (qJG C m sp dvs E ta tNil):=by(
intro pins s σ H Q I h
refine rS (pl:=pl) (thn (he pins s σ H _ I h) λu J D=>?_) ht
obtain⟨x,H1,d,z,a,dx,fs,ex,ea,l,q⟩:=D
subst ex
obtain rfl:u=Value.ref a:=z
refine q1E d ea c hm l ?_
exact p8 (first:=[.ref a]) d.kIn hm.kp (qC8 (us:=[.ref a]) (vs:=[.ref a]) F hr hb hd hx d (.cons rfl .nil) q))
structure Mk(K:PySem.W.Frag)(C f:Addr):Prop where
makes:PySem.W.makesIn K C=true
init:PySem.W.findIn K (.ref C) "__init__"=some (some (.ref f))
fn:PySem.W.isFn K (.ref f)=true
kp:PySem.W.keepIn K (.ref C)=true
theorem qF8{pins:List (Addr×Obj)}{σ:St}{H:Hp}{s:Shared}{Q:VK}{us:List Value}{vs:List V}(M:Mk X.K C f)(F:FnOk X.prog X.w X.K X.mg X.base CX k f fd ps sp)(hr:Room (k+1) X.A)(hb:jQ X.K fd ps ds)(hd:Vals dvs ds)
 (hx:q28 CX X E) (I:Inv X pins σ H s) (r:Vals vs us)
 (h:∀x dx,H x=none->H dx=none->dx≠x->sp (.ref x::(vs++dvs)) (upd (upd H dx (.own x)) x (.ins C dx [])) (λv H2=>v=.non/\Q (.ref x) H2) E):
 wpAny (model X.prog X.w) X.A (call (.ref C) us) (EP X pins σ Q) X.xe s:=by(
have D:=h (s.heap.objs.size+1) s.heap.objs.size (I.hok.fresh (dG _)) (I.hok.fresh (kO _)) (mR (d8 _))
have z:=Inv.made (C:=C) I
have r2:Vals (V.ref (s.heap.objs.size+1)::(vs++dvs)) (Value.ref (s.heap.objs.size+1)::(us++ds)):=.cons rfl (r.append hd)
have hl:(Value.ref (s.heap.objs.size+1)::us++ds).length=ps.length:=by have e:=r2.length;rw[F.len _ _ _ _ D]at e;exact e.symm
refine cF (qAV (f:=f) I.kIn M.makes M.init (d7.mp M.fn) (cK (F.run _ X.stack _ _ ⟨Value.ref (s.heap.objs.size+1)::us,[]⟩ (Value.ref (s.heap.objs.size+1)::(us++ds)) _ _ E (hr.make C us [])
 (z.env0.make C us []) (hb _ (Value.ref (s.heap.objs.size+1)::us) z.kIn hl) r2 D) λr s' d=>?_))
cases r with
|error e=>exact hx pins σ _ _ e s' z d
|ok O=>
 cases O with
 |ret u=>obtain⟨v,H',S,N,J,U⟩:=z.after d;subst J;exact⟨N,⟨V.ref (s.heap.objs.size+1),H',S,rfl,U⟩⟩
 |next=>exact False.elim d
 |brk=>exact False.elim d
 |cont=>exact False.elim d)
theorem q38(M:Mk X.K C f)(F:FnOk X.prog X.w X.K X.mg X.base CX k f fd ps sp)(hr:Room (k+1) X.A)(hg:Gl X x)(hm:X.mg x=some (.ref C))(hb:jQ X.K fd ps ds)(hd:Vals dvs ds)(hx:q28 CX X E)
 (ha:PA X (e::es) t) (hdb:(x==("__debug__":Str))=false:=by decide) (he:starEach (e::es) X.env=(false,eval e X.env)::starEach es X.env:=by rfl) (hpl:(backTo pos (starEach es X.env)).any (·.1)=false:=by rfl):
 PE X (.Call (.Name x p) (e::es) [] pos) (qM1 C sp dvs E t):=by(
intro pins s σ H Q I h
refine g5 (q08 I hg hm ?_ hdb)
refine d9 (h₀:=X.base) I.ok.mod.kin M.kp (thn (ha pos pins s σ H _ I h) λz J ⟨D,H1,d,r,q⟩=>⟨d.kIn,?_⟩) he hpl
exact qF8 M F hr hb hd hx d r q)
end
noncomputable def PK(X:Cx)(kws:List Keyword)(t:TA):Prop:=∀(pos:Pos) (pins:List (Addr×Obj)) (s:Shared) (σ:St) (H:Hp) (Q:List V->Hp->Prop),Inv X pins σ H s->t σ H Q->wpAny (model X.prog X.w) X.A (evalAll ((backToKw pos (keywordEach kws X.env)).map (·.2))) (AP X pins σ Q) X.xe s
section
variable{X:Cx}{CX:CXT}{k:Nat}{f C:Addr}{fd:FuncData}{ps ks:List Str}{sp:Sp}{E:XK}{x m:Str}{p pos apos kpos:Pos}{e o:Expr}{es:List Expr}{kws:List Keyword}{te ta:TE}{t tk:TA}{nm:Option Str}
theorem qC9:PK X [] tNil:=λz z z z H Q I h=>wpAny_evalAll_nil ⟨[],H,I,.nil,h⟩
theorem q9T(ha:PE X e te)(hr:PK X kws t):PK X (⟨nm,e,kpos⟩::kws) (q75 te t):=by(
intro pos pins s σ H Q I h
show wpAny _ _ (evalAll ((do let v<-eval e X.env;standAt pos;pure v)::(backToKw pos (keywordEach kws X.env)).map (·.2))) _ _ s
refine wpAny_evalAll_cons (kD (thn (ha pins s σ H _ I h) λu N ⟨x,H1,D,J,O⟩=>kD (sY (mE ?_))))
exact thn (hr pos pins N σ H1 _ D O) λU S ⟨xs,H2,z,r2,d⟩=>⟨x::xs,H2,z,.cons J r2,d⟩)
variable{g:List Value->List Value->List Value}{gV:List V->List V->List V}
end
structure FnScope(N P:List Str)(sc:Scope):Prop where
kind:sc.kind=.function
co:sc.isCoroutine=false
gen:sc.isGenerator=false
nd:N.Nodup
pre:N.take P.length=P
par:∀x∈P,sc.names.lookup x=some .local\/sc.names.lookup x=some .cell
nofree:∀y∈sc.names,y.2≠ .free
theorem q91{kindOf:Str->Option NameKind}{x:Str}:∀{binds:List (Str×Value)} {m:Str->Option Value},(∀v,(x,v)∉binds)->bindL kindOf binds m x=m x
| [],_,_=>rfl
|(n,v)::r,m,h=>by
 unfold bindL;rw[q91 λw hw=>h w (hU _ hw)];split
 .have:x≠n:=by rintro rfl;exact h v kU
  simp[this]
 rfl
theorem q92{kindOf:Str->Option NameKind}{x:Str}:∀{binds:List (Str×Value)} {m:Str->Option Value},(∀v,(x,v)∉binds)->bindC kindOf binds m x=m x
| [],_,_=>rfl
|(n,v)::r,m,h=>by
 unfold bindC;rw[q92 λw hw=>h w (hU _ hw)];split
 .rfl
 have:x≠n:=by rintro rfl;exact h v kU
 simp[this]
theorem q93{kindOf:Str->Option NameKind}{x:Str}{v:Value}:∀{P:List Str} {vs:List Value} {i:Nat} {m:Str->Option Value},P.Nodup->P[i]?=some x->vs[i]?=some v->kindOf x=some .local->bindL kindOf (P.zip vs) m x=some v
| [],_,_,_,_,h,_,_=>by simp at h
|_::_,[],_,_,_,_,h,_=>by simp at h
|p::P,w::vs,0,m,nd,h1,h2,hk=>by simp at h1 h2;subst h1;subst h2;show bindL kindOf ((p,w)::P.zip vs) m p=_;unfold bindL;rw[q91 λv hv=>(m8.mp nd).1 (pW hv).1,kM hk];simp
|p::P,w::vs,i+1,m,nd,h1,h2,hk=>by show bindL kindOf ((p,w)::P.zip vs) m x=_;unfold bindL;exact q93 (i:=i) (m8.mp nd).2 (by simpa using h1) (by simpa using h2) hk
theorem q94{kindOf:Str->Option NameKind}{x:Str}{v:Value}:∀{P:List Str} {vs:List Value} {i:Nat} {m:Str->Option Value},P.Nodup->P[i]?=some x->vs[i]?=some v->kindOf x≠some .local->bindC kindOf (P.zip vs) m x=some v
| [],_,_,_,_,h,_,_=>by simp at h
|_::_,[],_,_,_,_,h,_=>by simp at h
|p::P,w::vs,0,m,nd,h1,h2,hk=>by simp at h1 h2;subst h1;subst h2;show bindC kindOf ((p,w)::P.zip vs) m p=_;unfold bindC;rw[q92 λv hv=>(m8.mp nd).1 (pW hv).1,kI hk];simp
|p::P,w::vs,i+1,m,nd,h1,h2,hk=>by show bindC kindOf ((p,w)::P.zip vs) m x=_;unfold bindC;exact q94 (i:=i) (m8.mp nd).2 (by simpa using h1) (by simpa using h2) hk
noncomputable def q0A(N:List Str)(vs:List V):St:=vs.map some++List.replicate (N.length-vs.length) none
noncomputable def cxOf(CX:CXT)(P:Program)(w:World)(K:PySem.W.Frag)(mg:Str->Option Value)(base:Heap)(N:List Str)(qual:Str)(scope:Scope)(f:Addr)(cd:Value)(A:Around)(outer:List Env)(s:Shared)(H:Hp)(E:XK):Cx where
prog:=P
w:=w
K:=K
mg:=mg
base:=base
A:=A.deeper (envOfC qual scope s.heap.objs.size f cd)
N:=N
s₀:=s
H₀:=H
env:=envOfC qual scope s.heap.objs.size f cd
outer:=outer
stack:=envOfC qual scope s.heap.objs.size f cd::outer
ex:=[]
calm:=true
fn:=λz=>true
pn:=[]
xe:=λe s'=>wpAny (model P w) (A.deeper (envOfC qual scope s.heap.objs.size f cd)) (leaving (envOfC qual scope s.heap.objs.size f cd) e) (λz s''=>CX outer H s E e s'') (λe' s''=>CX outer H s E e' s'') s'
theorem qAW{sc:Scope}{n:Nat}{x:Str}(h:sc.names.lookup x=some .cell):∃c,(cellsFrom n sc.names []).lookup x=some c:=by have q:=c9 sc.names n [] (.inl h);exact cO.mp q
theorem q95{CX:CXT}{P:Program}{w:World}{K:PySem.W.Frag}{mg:Str->Option Value}{base:Heap}{N ps:List Str}{qual:Str}{scope:Scope}{f:Addr}{cd:Value}{A:Around}{outer:List Env}{s s1:Shared}{H:Hp}{E:XK}{us:List Value}{vs:List V}
 (S:FnScope N ps scope) (hd:A.handled=none) (e0:Env0 P w K mg base A outer s H) (hl:vs.length=ps.length) (r:Vals vs us)
 (x:InCallC s s.heap.objs.size (bindL (envOfC qual scope s.heap.objs.size f cd).kindOf (ps.zip us) λF=>none) (cellsFrom (s.heap.objs.size+1) scope.names []) (bindC (envOfC qual scope s.heap.objs.size f cd).kindOf (ps.zip us) λF=>none) s1):
 Inv (cxOf CX P w K mg base N qual scope f cd A outer s H E) [] (q0A N vs) H s1:=by(
have aa:ps.length<=N.length:=by have:=rL List.length S.pre;rw[gX]at this;lia
obtain⟨h1,tk,rfl,Z⟩:=x.done
have d:∀b:Addr,b∉(cxOf CX P w K mg base N qual scope f cd A outer s H E).ex:=λb z=>absurd (show b∈([]:List Addr)from z) (by simp)
refine⟨⟨e0.mod,S.kind,rfl,rfl,kO _,λy z c h1 h2=>?_,λy D=>?_,λy c F h=>?_,λF=>hd,lK e0.frames,.inr ⟨rfl,rfl⟩,λb z=>absurd z (d b),e0.bs,e0.bsz,λb F F=>d b,λb z=>absurd z (d b),e0.funs,e0.frf⟩,rfl,e0.bare,Un.kept Z,⟨_,x.toInCall.ns,λi y v h1 h2 h3=>?_⟩,λy c h=>⟨_,x.cell y c h⟩,e0.hok.fresh (kO _),λy c h=>?_,λp I=>absurd (show p∈([]:List (Addr×Obj))from I) (by simp),e0.hok.kept Z,?_⟩
.exact name_of_addr x.apart (gW h1) (gW h2)
.have D:scope.names.lookup y=some .cell\/scope.names.lookup y=some .free:=D;rcases D with D|D
 .exact qAW D
 exact absurd rfl (S.nofree _ (gW D))
.exact cJ (x.above y c (gW h))
.have O:i<vs.length:=by
  unfold q0A at h2;by_cases O:i<vs.length
  .exact O
  rw[dM (by simpa using O)]at h2;rw[wL]at h2;split at h2<;>cases h2
 have ha:vs[i]?=some v:=by
  unfold q0A at h2;rw[rW (by simpa using O),kZ]at h2;cases e:vs[i]? with
  |none=>rw[e]at h2;cases h2
  |some a=>rw[e]at h2;cases h2;rfl
 obtain⟨u,U,rv⟩:=r.get ha;have I:ps[i]?=some y:=by rw[<-S.pre,List.getElem?_take_of_lt (by lia)];exact h1
 have J:ps.Nodup:=by rw[<-S.pre];exact S.nd.sublist (List.take_sublist _ _)
 refine⟨u,rv,?_⟩;rcases S.par y (gD I)with k|k
 .exact .inl ⟨k,q93 J I U k⟩
 obtain⟨c,e⟩:=qAW (n:=s.heap.objs.size+1) k;refine .inr ⟨.inl k,c,e,?_⟩;have q:=x.cell y c e;rw[q94 J I U (by show scope.names.lookup y≠_;rw[k];decide)]at q;exact q
.exact e0.hok.fresh (cJ (x.above y c (gW h)))
unfold q0A
show _=N.length
rw[mH,kB,gP]
lia)
theorem qD4{CX:CXT}{P:Program}{w:World}{K:PySem.W.Frag}{mg:Str->Option Value}{base:Heap}{k:Nat}{f:Addr}{name qual:Str}{params:Arguments}{body:List Stmt}{scope:Scope}{dV kV doc pm cdv ct oc:Value}{an od:Option Addr}
 {osl:Array (Option Value)} {N ps:List Str} {sp:Sp} (lk:K.lookup f=some ⟨oc,od,.func (PySem.W.fnOf name qual params body scope dV kV doc pm an cdv ct),osl⟩) (hcd:PySem.W.codeIn K cdv qual=true) (S:FnScope N ps scope)
 (len:∀vs H Q E,sp vs H Q E->vs.length=ps.length)
 (hbody:∀(A:Around) (outer:List Env) (s:Shared) (H:Hp) (vs:List V) (Q:VK) (E:XK),Room k (A.deeper (envOfC qual scope s.heap.objs.size f cdv))->sp vs H Q E->∃t,PSs (cxOf CX P w K mg base N qual scope f cdv A outer s H E) body t/\t { nx:=λF H'=>Q .non H',rt:=Q } (q0A N vs) H):
 FnOk P w K mg base CX (k+1) f (PySem.W.fnOf name qual params body scope dV kV doc pm an cdv ct) ps sp:=by(
refine⟨len,λA outer s H ac us vs Q E Z O hb r D=>?_⟩
have hl:=len _ _ _ _ D
have KX:K.In s.heap:=O.mod.kin.keeps λb o e=>(O.bs b o e).1
have aa:s.heap.NoLimit:=O.mod.nolimit.keeps λb o e=>(O.bs b o e).1
have d:∀y∈ps.zip us,scope.names.lookup y.1=some .local\/(scope.names.lookup y.1=some .cell/\((cellsFrom (s.heap.objs.size+1) scope.names []).lookup y.1).isSome=true):=λ⟨n,v⟩ hy=>by
 rcases S.par n (pW hy).1 with q|q
 .exact .inl q
 exact .inr ⟨q,c9 _ _ _ (.inl q)⟩
refine codeAny_call_function Z.depth (KX _ _ lk) rfl S.co S.gen rfl (PySem.W.codeRec_of KX hcd) (hb _ _ _ _ ?_)
refine sK S.kind d λenv he s1 x=>?_
subst he
refine⟨aa.keeps x.toInCall.keep,codeAny_func ?_⟩
obtain⟨t,ht,hq⟩:=hbody A outer s H vs Q E (Z.deeper _) D
have I:Inv (cxOf CX P w K mg base N qual scope f cdv A outer s H E) [] (q0A N vs) H s1:=q95 S Z.hd O hl r x
refine g4 (ht [] s1 (q0A N vs) H _ I hq) (λfl s' z=>?_) λe s' z=>z
have fin:∀{U:St} {H':Hp} {v:V} {u:Value},Inv (cxOf CX P w K mg base N qual scope f cdv A outer s H E) [] U H' s'->RelV v u->Q v H'->CE outer P w H s Q u s':=fun {U H' v u} J rv q=>⟨v,H',J.os,J.bare,J.base,J.hok,rv,q⟩
cases fl with
|ret u=>obtain⟨v,U,H',J,rv,q⟩:=z;exact fin J rv q
|next=>obtain⟨U,H',J,q⟩:=z;exact fin (v:=V.non) (u:=Value.none) J rfl q
|brk=>obtain⟨_,_,_,q⟩:=z;exact False.elim q
|cont=>obtain⟨_,_,_,q⟩:=z;exact False.elim q)
section
variable{X:Cx}{x:Str}{p pos:Pos}{e:Expr}{es:List Expr}{t:TA}{id T:String}{r:List V->Hp->VK->Prop}
noncomputable def tCB(r:List V->Hp->VK->Prop)(t:TA):TE:=λσ H Q=>t σ H λvs H1=>r vs H1 Q
theorem jI(hc:q20 X (.builtin id) r)(hg:Gl X x)(hm:X.mg x=none)(hv:bootBuiltins x=some (.builtin id))(ha:PA X (e::es) t)(hn:x≠"__name__":=by decide)(hdb:(x==("__debug__":Str))=false:=by decide)
 (he:starEach (e::es) X.env=(false,eval e X.env)::starEach es X.env:=by rfl) (hpl:(backTo pos (starEach es X.env)).any (·.1)=false:=by rfl):PE X (.Call (.Name x p) (e::es) [] pos) (tCB r t):=by intro pins s σ H Q I h;refine g5 (q25 I hg hm hv ?_ hn hdb);exact PyProof.Rows.callWith_builtin1 (thn (ha pos pins s σ H _ I h) λD J ⟨N,H1,d,z,O⟩=>hc pins J σ H1 N D Q d z O) he hpl
theorem vJ(hc:q20 X (.type T) r)(hg:Gl X x)(hm:X.mg x=none)(hv:bootBuiltins x=some (.type T))(ha:PA X (e::es) t)(hn:x≠"__name__":=by decide)(hdb:(x==("__debug__":Str))=false:=by decide)
 (he:starEach (e::es) X.env=(false,eval e X.env)::starEach es X.env:=by rfl) (hpl:(backTo pos (starEach es X.env)).any (·.1)=false:=by rfl):PE X (.Call (.Name x p) (e::es) [] pos) (tCB r t):=by intro pins s σ H Q I h;refine g5 (q25 I hg hm hv ?_ hn hdb);exact cB (thn (ha pos pins s σ H _ I h) λD J ⟨N,H1,d,z,O⟩=>hc pins J σ H1 N D Q d z O) he hpl
end
end L2
namespace HT
open PySem PyProof.Rows
noncomputable def lexLt:List Int->List Int->Bool
| [],[]=>false
| [],_::_=>true
|_::_,[]=>false
|x::xs,y::ys=>if x=y then lexLt xs ys else decide (x<y)
theorem qCA(x y:Int)(xs ys:List Int):lexLt (x::xs) (y::ys)=if x=y then lexLt xs ys else decide (x<y):=rfl
theorem q8E:lexLt [] []=false:=rfl
theorem q76(y:Int)(ys:List Int):lexLt [] (y::ys)=true:=rfl
theorem q77(x:Int)(xs:List Int):lexLt (x::xs) []=false:=rfl
theorem qF9(A:Around)(s:Shared)(a:Int)(t:Tok)(c:Int)(u:Tok):∃e,SeqAt.EqAt A s (.int a t) (.int c u) e/\(e=true↔a=c):=⟨(a==c),sN a t c u,by simp⟩
theorem qFA(A:Around)(s:Shared)(a:Int)(t:Tok)(c:Int)(u:Tok)(prog:Program)(w:World)(E:Value->Shared->Prop)(Q:Value->Shared->Prop)(h:Q (.bool (decide (a<c))) s):
 wpAny (model prog w) A (richCompare .Lt (.int a t) (.int c u)) Q E s:=(PyProof.Rows.lt_int h:wpAny (model prog w) A (compareOp .Lt (.int a t) (.int c u)) Q E s)
section
open PySem.SeqAt
open PySem.AutoSeq1 (wpAny_loadPart')
open PySem.MeetsSeq PySem.MeetsSeq2 PySem.MeetsSeq3
theorem q8F(l b:Addr)(items items2:Array Value)(n n2:Nat)(dd dd2:Option Addr)(sl sl2:Array (Option Value))(ns ms:List Int)(hi:IntsAre items.toList ns)(hj:IntsAre items2.toList ms):
 Meets (Builtin.«tuple.__lt__» ⟨[.ref l,.ref b],[]⟩)
  (λz R s=>s.heap.get? l=some { cls:=.type "tuple",dict:=dd,data:=.seq items n,slots:=sl }/\s.heap.get? b=some { cls:=.type "tuple",dict:=dd2,data:=.seq items2 n2,slots:=sl2 }/\R (.ok (.ret (.bool (lexLt ns ms)))) s):=.of_wp λprog w A R s h=>by(
 obtain⟨hp,g,d,tk,os⟩:=s;obtain⟨hl,hb,h⟩:=h;have f2:=AutoSeq1.sub_tuple_tuple;have z1:items.size=ns.length:=by rw[<-hi.length];simp
 have z2:items2.size=ms.length:=by rw[<-hj.length];simp
 wp_walk using lA hl,lA hb,wpAny_forIn_list _ (λrest b s'=>b.1=none/\s'=⟨hp,g,d,tk,os⟩/\∃(vs ws:List Value) (ns' ms':List Int),rest=vs.zip ws/\IntsAre vs ns'/\IntsAre ws ms'/\ns'.length+items2.size=ms'.length+items.size/\R (.ok (.ret (.bool (lexLt ns' ms')))) ⟨hp,g,d,tk,os⟩) _
 case turn=>
  rintro⟨y,x⟩ rest b s' ⟨hb',rfl,vs,ws,ns',ms',hz,hvi,hwi,hlen,hR⟩
  cases hvi with
  |nil=>rw[List.zip_nil_left]at hz;cases hz
  |cons a t hvi'=>
   cases hwi with
   |nil=>rw[List.zip_nil_right]at hz;cases hz
   |cons c u hwi'=>
    rw[xK]at hz;injection hz with hyx hrest
    injection hyx with hy hx
    subst hy hx;rw[qCA]at hR;simp only[mM]at hlen;obtain⟨e,he,hiff⟩:=qF9 A.in1 ⟨hp,g,d,tk,os⟩ a t c u;refine kD (he prog w _ _ ?_);cases e with
    |true=>
     rw[kM (hiff.mp rfl)]at hR;wp_walk
     exact⟨rfl,rfl,_,_,_,_,hrest,hvi',hwi',by lia,hR⟩
    |false=>
     rw[kI (λq=>absurd (hiff.mpr q) kW)]at hR;have hri:=qFA A.in1 ⟨hp,g,d,tk,os⟩ a t c u prog w;wp_walk using hri
     exact⟨_,rfl,by simpa using hR⟩
 case fin=>
  rintro⟨b1,b2⟩ s' ⟨hb',rfl,vs,ws,ns',ms',hz,hvi,hwi,hlen,hR⟩
  simp only at hb';subst hb';have hv:lexLt ns' ms'=decide (items.size<items2.size):=by
   cases hvi with
   |nil=>
    cases hwi with
    |nil=>simp only[wC]at hlen;rw[q8E];exact(hX (by lia)).symm
    |cons c u hw=>simp only[wC,mM]at hlen;rw[q76];exact(hC (by lia)).symm
   |cons a t hv=>
    cases hwi with
    |nil=>simp only[wC,mM]at hlen;rw[q77];exact(hX (by lia)).symm
    |cons c u hw=>rw[xK]at hz;cases hz
  rw[hv]at hR;wp_walk
  exact⟨_,rfl,by simpa[Builtin.Tuple.tupleCompareSizes]using hR⟩
 case h=>exact⟨rfl,rfl,items.toList,items2.toList,ns,ms,rfl,hi,hj,by lia,h⟩)
end
section
variable{prog:Program}{w:World}{A:Around}{E:Value->Shared->Prop}{s:Shared}
theorem lt_tupInts{l b:Addr}{items items2:Array Value}{ns ms:List Int}{Q:Value->Shared->Prop}(hl:IsTup s.heap l items)(hb:IsTup s.heap b items2)(hi:IntsAre items.toList ns)(hj:IntsAre items2.toList ms)
 (hu:A.units<cLine) (h:Q (.bool (lexLt ns ms)) s):wpAny (model prog w) A (compareOp .Lt (.ref l) (.ref b)) Q E s:=by(
obtain⟨⟨S,O,I,N⟩,ho,hc,n,hd⟩:=id hl
obtain⟨⟨J,D,z,d⟩,ho2,hc2,n2,hd2⟩:=id hb
simp only at hc hd hc2 hd2
subst hc hd hc2 hd2
exact richCompare_meets_room (op:=.Lt) ⟨_,ho,rfl⟩ ⟨_,ho2,rfl⟩ PySem.F.slot_tuple_lt PySem.F.entry_tuple_lt (PySem.F.args_tuple_lt_2 _ _) (q8F l b items items2 n n2 O D N d ns ms hi hj)
 ⟨ho,ho2,show Value.bool (lexLt ns ms)≠Value.notImplemented/\Q (.bool (lexLt ns ms)) s from⟨(λx=>nomatch x),h⟩⟩ hu)
end
end HT
namespace L2
open PySem PySem.Spec PyProof.Rows
noncomputable def ixN(n:Nat)(i:Int):Option Nat:=if 0<=i then(if i<n then some i.toNat else none)else if-(n:Int)<=i then some (i+n).toNat else none
noncomputable def atI{α:Type}(xs:List α)(i:Int):Option α:=(ixN xs.length i).bind λj=>xs[j]?
theorem qD5{n:Nat}{i:Int}{j:Nat}(h:ixN n i=some j):seqIndex? i n=some j/\j<n/\-(n:Int)<=i/\i<n:=by(
unfold ixN at h
by_cases d:0<=i
.rw[kM d]at h;by_cases h1:i<n
 .rw[kM h1]at h;have e:i.toNat=j:=kQ h;exact⟨by rw[lL d h1,e],by lia,by lia,h1⟩
 rw[kI h1]at h;cases h
rw[kI d]at h
by_cases h1:-(n:Int)<=i
.rw[kM h1]at h;have e:(i+n).toNat=j:=kQ h;exact⟨by rw[nQ (by lia) h1,e],by lia,h1,by lia⟩
rw[kI h1]at h;cases h)
theorem q9U{α:Type}{xs:List α}{i:Int}{v:α}(h:atI xs i=some v):∃j,seqIndex? i xs.length=some j/\xs[j]?=some v/\j<xs.length/\-(xs.length:Int)<=i/\i<xs.length:=by(
unfold atI at h
cases e:ixN xs.length i with
|none=>rw[e]at h;cases h
|some j=>rw[e]at h;obtain⟨h1,h2,z,d⟩:=qD5 e;exact⟨j,h1,h,h2,z,d⟩)
theorem zJ{α:Type}{xs:List α}{j:Nat}{v:α}(h:xs[j]?=some v):atI xs (j:Int)=some v:=by
 have d:j<xs.length:=(kC.mp h).1;have e:ixN xs.length (j:Int)=some j:=by unfold ixN;rw[kM (by lia),kM (by lia)];simp
 unfold atI;rw[e];exact h
noncomputable def qHI(b:Expr):Prop:=∀o i,subscripted b false o i=operate [o,i] (getItem o i)
noncomputable def IxR(X:Cx)(r:R2):Prop:=∀(value slice:Expr) (pins:List (Addr×Obj)) (s:Shared) (σ:St) (H:Hp) (x y:V) (v u:Value) (Q:VK),Inv X pins σ H s->RelV x v->RelV y u->r x y H Q->subscripted slice false v u=operate [v,u] (getItem v u)->wpAny (model X.prog X.w) X.A (subscriptTail value slice v u) (EP X pins σ Q) X.xe s
noncomputable def MtR(X:Cx)(id:String)(r:V->List V->Hp->VK->Prop):Prop:=∀(pins:List (Addr×Obj)) (s:Shared) (σ:St) (H:Hp) (x:V) (xs:List V) (v:Value) (us:List Value) (Q:VK),Inv X pins σ H s->RelV x v->Vals xs us->r x xs H Q->wpAny (model X.prog X.w) X.A (call (.builtin id) (v::us)) (EP X pins σ Q) X.xe s
section
variable{X:Cx}{a b:Expr}{ta tb:TE}{pos:Pos}
theorem j8{r:R2}(hr:IxR X r)(ha:PE X a ta)(hb:PE X b tb)(hs:qHI b):PE X (.Subscript a b pos) (tOp r ta tb):=by intro pins s σ H Q I h;exact Subscript_ (binT ha hb I h λv u z x y H2 d D J q=>hr a b pins z σ H2 x y v u Q d D J q (hs _ _))
noncomputable def rIxL(K:PySem.W.Frag):R2:=λx y H Q=>∃p xs i v,x=.ref p/\y=.int i/\SqL K H p xs/\atI xs i=some v/\Q v H
noncomputable def rIxT(K:PySem.W.Frag):R2:=λx y H Q=>∃p xs i v,x=.ref p/\y=.int i/\SqT K H p xs/\atI xs i=some v/\Q v H
theorem qY:IxR X (rIxL X.K):=by(
intro value d pins s σ H x y v u Q I rx ry h S
obtain⟨p,xs,i,z,rfl,rfl,hq,he,q⟩:=h
cases rx
obtain⟨t,rfl⟩:=ry
obtain⟨D,r,O,hz⟩:=I.list hq
obtain⟨j,h1,h2,h3,h4,h5⟩:=q9U he
obtain⟨w,Z,N⟩:=r.get h2
have hl:=r.length
have hn:=q72
have fin:EP X pins σ Q w s:=⟨z,H,I,N,q⟩
by_cases U:0<=i
.have J:i.toNat=j:=by rw[lL U h5]at h1;exact kQ h1
 exact item_listR O.isList U (by lia) (by rw[J];simpa using Z) fin S
have J:(i+(D.toArray.size:Int)).toNat=j:=by rw[nQ (by lia) h4]at h1;rw[mG,<-hl];exact kQ h1
exact nU (x:=w) O.isList.typeIs slot_list_getitem.lookup
 (nV (Q:=λr s'=>r=w/\EP X pins σ Q r s') O.isList (by lia) (by rw[mG]<;>lia) (by lia) (by rw[J];simpa using Z) ⟨rfl,fin⟩) S)
theorem uD:IxR X (rIxT X.K):=by(
intro value d pins s σ H x y v u Q I U ry h O
obtain⟨p,xs,i,z,rfl,rfl,N,S,q⟩:=h
cases U
obtain⟨t,rfl⟩:=ry
obtain⟨Z,r,J,hz⟩:=I.tuple N
obtain⟨j,h1,h2,h3,h4,h5⟩:=q9U S
obtain⟨w,ew,D⟩:=r.get h2
have hl:=r.length
have hn:=q72
have fin:EP X pins σ Q w s:=⟨z,H,I,D,q⟩
exact nU (x:=w) J.typeIs slot_tuple_getitem.lookup
 (getItem_tuple (j:=j) (Q:=λr s'=>r=w/\EP X pins σ Q r s') J (by lia) (by lia) (by rw[mG,<-hl];exact h1) (by simpa using ew) ⟨rfl,fin⟩) O)
theorem qCB(its:List Value)(n j:Nat)(u:Value):Obj.mapSeq (·.setIfInBounds j u) { cls:=.type "list",data:=.seq its.toArray n } = { cls:=.type "list",data:=.seq (its.set j u).toArray n }:=by simp[Obj.mapSeq]
theorem Inv.lst{pins:List (Addr×Obj)}{σ:St}{H:Hp}{s:Shared}{p:Addr}{xs:List V}(I:Inv X pins σ H s)(h:H p=some (.lst xs)):
 ∃(its:List Value) (n:Nat),Vals xs its/\s.heap.get? p=some { cls:=.type "list",data:=.seq its.toArray n }/\xs.length<=sizeLine:=by obtain⟨z,its,n,r,e⟩:=I.hok p _ h;exact⟨its,n,r,e,z⟩
theorem Inv.lstUpd{pins:List (Addr×Obj)}{σ:St}{H:Hp}{s:Shared}{p:Addr}{xs ys:List V}{its its':List Value}{n n':Nat}{f:Obj->Obj}(I:Inv X pins σ H s)(h:H p=some (.lst xs))
 (ho:s.heap.get? p=some { cls:=.type "list",data:=.seq its.toArray n }) (hf:f { cls:=.type "list",data:=.seq its.toArray n } = { cls:=.type "list",data:=.seq its'.toArray n' }) (r:Vals ys its') (hz:ys.length<=sizeLine) (t:Nat):
 Inv X pins σ (upd H p (.lst ys)) { s with heap:=s.heap.update p f,toks:=t }:=by
 have e:(s.heap.update p f).get? p=some { cls:=.type "list",data:=.seq its'.toArray n' }:=by rw[d5 f ho (by rw[hf]<;>rfl),hf]
 refine I.write (x:=p) (e:=p) (by rw[h];trivial) (.inl rfl) (λb u d q=>(mD _ _ (wD d)).trans q) ⟨_,e⟩ ?_;exact⟨hz,its',n',r,e⟩
noncomputable def qM2:V->V->V->Hp->(Hp->Prop)->Prop:=λo i v H Q=>∃p xs k j,o=.ref p/\i=.int k/\H p=some (.lst xs)/\ixN xs.length k=some j/\Q (upd H p (.lst (xs.set j v)))
theorem uJ:PSet X qM2:=by(
intro pins s σ H o i v ov iv u Q I Z ri rv h
obtain⟨p,xs,k,j,rfl,rfl,J,hj,q⟩:=h
cases Z
obtain⟨t,rfl⟩:=ri
obtain⟨d,n,r,D,hz⟩:=I.lst J
obtain⟨h1,h2,S,U⟩:=qD5 hj
have hl:=r.length
have hn:=q72
have N:Inv X pins σ (upd H p (.lst (xs.set j v))) { s with heap:=s.heap.update p (Obj.mapSeq (·.setIfInBounds j u)) }:=I.lstUpd J D (qCB d n j u) (r.set rv j) (by rw[gM];exact hz) s.toks
by_cases O:0<=k
.have z:k.toNat=j:=by rw[lL O U]at h1;exact kQ h1
 exact PySem.W.ki_setAt D O (by lia) (by rw[mG,<-hl];exact U) (by rw[z];exact⟨_,N,q⟩)
have z:(k+(d.toArray.size:Int)).toNat=j:=by rw[nQ (by lia) S]at h1;rw[mG,<-hl];exact kQ h1
exact PySem.W.ki_setBack D (by lia) (by rw[mG,<-hl];exact S) (by lia) (by rw[z];exact⟨_,N,q⟩))
noncomputable def q0B:V->Bool
| .non=>true
| .bl _=>true
| .int _=>true
| .str _=>true
|_=>false
noncomputable def eqV:V->V->Bool
| .non,.non=>true
| .bl a,.bl b=>a==b
| .bl a,.int b=>(if a then 1 else 0)==b
| .int a,.bl b=>a==(if b then 1 else 0)
| .int a,.int b=>a==b
| .str a,.str b=>a==b
|_,_=>false
theorem qFB{A:Around}{s:Shared}{y x:V}{u v:Value}(ry:RelV y u)(rx:RelV x v)(fy:q0B y=true)(fx:q0B x=true):SeqAt.EqAt A s u v (eqV y x):=by(
cases y with
|non=>
 cases ry;cases x with
 |non=>cases rx;exact lB _
 |bl b=>cases rx;exact SeqAt.EqAt.none_bool b
 |int b=>obtain⟨t,rfl⟩:=rx;exact SeqAt.EqAt.none_int b t
 |str b=>obtain⟨t,rfl⟩:=rx;exact SeqAt.EqAt.none_str b t
 |_=>exact absurd (show false=true from fx) kW
|bl a=>
 cases ry;cases x with
 |non=>cases rx;exact SeqAt.EqAt.bool_none a
 |bl b=>cases rx;exact SeqAt.EqAt.bool_bool a b
 |int b=>obtain⟨t,rfl⟩:=rx;exact SeqAt.EqAt.bool_int a b t
 |str b=>obtain⟨t,rfl⟩:=rx;exact SeqAt.EqAt.bool_str a b t
 |_=>exact absurd (show false=true from fx) kW
|int a=>
 obtain⟨d,rfl⟩:=ry;cases x with
 |non=>cases rx;exact SeqAt.EqAt.int_none a d
 |bl b=>cases rx;exact SeqAt.EqAt.int_bool a d b
 |int b=>obtain⟨t,rfl⟩:=rx;exact sN a d b t
 |str b=>obtain⟨t,rfl⟩:=rx;exact xG a d b t
 |_=>exact absurd (show false=true from fx) kW
|str a=>
 obtain⟨d,rfl⟩:=ry;cases x with
 |non=>cases rx;exact SeqAt.EqAt.str_none a d
 |bl b=>cases rx;exact SeqAt.EqAt.str_bool a d b
 |int b=>obtain⟨t,rfl⟩:=rx;exact xH a d b t
 |str b=>obtain⟨t,rfl⟩:=rx;exact SeqAt.EqAt.str_str a d b t
 |_=>exact absurd (show false=true from fx) kW
|_=>exact absurd (show false=true from fy) kW)
noncomputable def eqU(x:V)(u:Value):Bool:=match u with
| .none=>eqV .non x
| .bool b=>eqV (.bl b) x
| .int i _=>eqV (.int i) x
| .str z _=>eqV (.str z) x
|_=>false
theorem qFC{x y:V}{u:Value}(r:RelV y u)(f:q0B y=true):eqU x u=eqV y x:=by(
cases y with
|non=>cases r;rfl
|bl b=>cases r;rfl
|int i=>obtain⟨t,rfl⟩:=r;rfl
|str z=>obtain⟨t,rfl⟩:=r;rfl
|_=>exact absurd (show false=true from f) kW)
theorem q4L{x:V}:∀{xs:List V} {us:List Value},Vals xs us->xs.all q0B=true->us.any (eqU x)=xs.any λy=>eqV y x
|_,_,.nil,_=>rfl
|y::xs,u::us,.cons r t,f=>by rw[bT,mU]at f;rw[cP,cP,qFC r f.1,q4L t f.2]
theorem q29{A:Around}{s:Shared}{x:V}{v:Value}(rx:RelV x v)(fx:q0B x=true):∀{xs:List V} {us:List Value},Vals xs us->xs.all q0B=true->∀u∈us,SeqAt.EqAt A s u v (eqU x u)
|_,_,.nil,_=>λu hu=>by cases hu
|y::xs,u::us,.cons r t,f=>λu' hu=>by
 rw[bT,mU]at f;rcases kN.mp hu with rfl|hu
 .rw[qFC r f.1];exact qFB r rx f.1 fx
 exact q29 rx fx t f.2 u' hu
noncomputable def inV(x:V)(xs:List V):Bool:=xs.any λy=>eqV y x
noncomputable def rIn(K:PySem.W.Frag)(neg:Bool):R2:=λx y H Q=>∃p xs,y=.ref p/\(SqL K H p xs\/SqT K H p xs)/\q0B x=true/\xs.all q0B=true/\Q (.bl (if neg then !inV x xs else inV x xs)) H
theorem qEC:OpR X (compareOp .In) (rIn X.K false):=by(
intro pins s σ H x y v u Q I N S h
obtain⟨p,xs,rfl,z,fx,fs,q⟩:=h
cases S
rcases z with z|z
.obtain⟨d,r,D,O⟩:=I.list z;refine SeqAt.in_listAt (eqU x) D.isList (λw J=>q29 N fx r fs w (by simpa using J)) ⟨.bl _,H,I,rfl,?_⟩;rw[show d.toArray.any (eqU x)=d.any (eqU x) by simp,q4L r fs];exact q
obtain⟨d,r,D,O⟩:=I.tuple z
refine SeqAt.in_tupleAt (eqU x) D (λw J=>q29 N fx r fs w (by simpa using J)) ⟨.bl _,H,I,rfl,?_⟩
rw[show d.toArray.any (eqU x)=d.any (eqU x) by simp,q4L r fs]
exact q)
theorem q4M:OpR X (compareOp .NotIn) (rIn X.K true):=by(
intro pins s σ H x y v u Q I N S h
obtain⟨p,xs,rfl,z,fx,fs,q⟩:=h
cases S
rcases z with z|z
.obtain⟨d,r,D,O⟩:=I.list z;refine SeqAt.notIn_listAt (eqU x) D.isList (λw J=>q29 N fx r fs w (by simpa using J)) ⟨.bl _,H,I,rfl,?_⟩;rw[show d.toArray.any (eqU x)=d.any (eqU x) by simp,q4L r fs];exact q
obtain⟨d,r,D,O⟩:=I.tuple z
refine SeqAt.notIn_tupleAt (eqU x) D (λw J=>q29 N fx r fs w (by simpa using J)) ⟨.bl _,H,I,rfl,?_⟩
rw[show d.toArray.any (eqU x)=d.any (eqU x) by simp,q4L r fs]
exact q)
theorem yM:q20 X (.builtin "len") (λxs H Q=>∃p ys,xs=[.ref p]/\(SqL X.K H p ys\/SqT X.K H p ys)/\Q (.int ys.length) H):=by(
intro pins s σ H xs Z Q I r h
obtain⟨p,ys,rfl,z,q⟩:=h
obtain⟨u,rfl,O⟩:=q09 r
cases O
have U:=q72
rcases z with z|z
.obtain⟨D,J,N,S⟩:=I.list z;have d:=J.length;exact Calls.call_len_list N.isList (by simp only[mG]<;>lia) ⟨.int ys.length,H,I.tok _,⟨s.toks+1,by rw[mG,d]⟩,q⟩
obtain⟨D,J,N,S⟩:=I.tuple z
have d:=J.length
exact len_tuple N (by simp only[mG]<;>lia) ⟨.int ys.length,H,I.tok _,⟨s.toks+1,by rw[mG,d]⟩,q⟩)
theorem q9V:q20 X (.type "list") (λxs H Q=>∃p ys,xs=[.ref p]/\(SqL X.K H p ys\/SqT X.K H p ys)/\∀l,H l=none->Q (.ref l) (upd H l (.lst ys))):=by(
intro pins s σ H xs us Q I r h
obtain⟨p,ys,rfl,J,q⟩:=h
obtain⟨u,rfl,rx⟩:=q09 r
cases rx
have fin:∀(d:List Value),Vals ys d->ys.length<=sizeLine->∀(h':Heap) (z:Nat),(∀b o',s.heap.get? b=some o'->h'.get? b=some o')->h'.get? s.heap.objs.size=some { cls:=.type "list",dict:=none,data:=.seq d.toArray z,slots:=#[] }->EP X pins σ Q (.ref s.heap.objs.size) { s with heap:=h' }:=λd D O h' z kp e=>⟨.ref s.heap.objs.size,_,I.laid (t':=s.toks) kp (kO _) (show jL X.prog X.w _ h' _ (.lst ys)from⟨O,d,z,D,e⟩),rfl,q _ (I.hok.fresh (kO _))⟩
rcases J with J|J
.obtain⟨d,D,Z,O⟩:=I.list J;have N:=D.length;obtain⟨o,U,hc,n,S⟩:=Z.isList;exact call_list_seq p (.inl rfl) U hc S (λh' z kp e=>fin d D O h' z kp e) (by simp only[mG]<;>lia)
obtain⟨d,D,Z,O⟩:=I.tuple J
have N:=D.length
obtain⟨o,U,hc,n,S⟩:=Z
exact call_list_seq p (.inr rfl) U hc S (λh' z kp e=>fin d D O h' z kp e) (by simp only[mG]<;>lia))
noncomputable def tyV(K:PySem.W.Frag)(T:String)(x:V)(H:Hp):Prop:=match x with
| .str _=>T="str"
| .int _=>T="int"
| .ref p=>(T="list"/\∃xs,SqL K H p xs)\/(T="tuple"/\∃o,K.lookup p=some o/\o.cls=.type "tuple"/\o.dict=none)\/(T="dict"/\((∃kvs,H p=some (.dK kvs))\/∃kvs,H p=some (.dT kvs)))\/(T="set"/\∃S n,H p=some (.set S n))
|_=>False
theorem qFD{pins:List (Addr×Obj)}{σ:St}{H:Hp}{s:Shared}{T:String}{x:V}{v:Value}(I:Inv X pins σ H s)(r:RelV x v)(ty:tyV X.K T x H):
 s.TypeIs v T/\∀a,v=.ref a->∃ob,s.heap.get? a=some ob/\ob.dict=none:=by(
cases x with
|str z=>obtain⟨t,rfl⟩:=r;cases(show T="str" from ty);exact⟨typeIs_str s z t,λU e=>nomatch e⟩
|int i=>obtain⟨t,rfl⟩:=r;cases(show T="int" from ty);exact⟨bE s i t,λU e=>nomatch e⟩
|ref p=>
 cases r;rcases ty with⟨rfl,xs,hq⟩|⟨rfl,o,hk,hc,D⟩|⟨rfl,hk⟩|⟨rfl,S,n,hk⟩
 .obtain⟨N,_,J,_⟩:=I.list hq;refine⟨J.isList.typeIs,λa e=>?_⟩;cases e;obtain⟨o,n,e,c,D,_⟩:=J;exact⟨o,e,D⟩
 .refine⟨⟨o,I.kIn p o hk,hc⟩,λa e=>?_⟩;cases e;exact⟨o,I.kIn _ o hk,D⟩
 .have z:∃o,s.heap.get? p=some o/\o.ExactDict:=by
   rcases hk with⟨kvs,hk⟩|⟨kvs,hk⟩
   .obtain⟨_,_,_,_,o,_,_,e,ex,_⟩:=I.hok p _ hk;exact⟨o,e,ex⟩
   obtain⟨_,_,_,_,o,_,_,e,ex,_⟩:=I.hok p _ hk;exact⟨o,e,ex⟩
  obtain⟨o,e,ex⟩:=z;refine⟨⟨o,e,ex.1⟩,λa d=>?_⟩;cases d;exact⟨o,e,ex.2.1⟩
 obtain⟨o,_,_,_,e,ex,_⟩:=I.hok p _ hk;refine⟨⟨o,e,ex.1⟩,λa d=>?_⟩;cases d;exact⟨o,e,ex.2.1⟩
|_=>exact False.elim ty)
noncomputable def tBM0(K:PySem.W.Frag)(T:String)(r:V->List V->Hp->VK->Prop)(to:TE):TE:=λσ H Q=>to σ H λx H1=>tyV K T x H1/\r x [] H1 Q
noncomputable def tBM(K:PySem.W.Frag)(T:String)(r:V->List V->Hp->VK->Prop)(to:TE)(t:TA):TE:=λσ H Q=>to σ H λx H1=>tyV K T x H1/\t σ H1 λxs H2=>r x xs H2 Q
variable{o e:Expr}{es:List Expr}{to:TE}{t:TA}{name:Str}{apos cpos:Pos}{T id:String}{r:V->List V->Hp->VK->Prop}
theorem qCC(pa:PlainAttrs T)(slot:Slot T name id)(hty:typeOf (.builtin id)=pure (.type "method_descriptor"))(hm:MtR X id r)(ho:PE X o to)
 (hbase:attributeBase o name X.env (eval o X.env)=eval o X.env:=by rfl) (hline:(apos.endLine==cpos.line)=true:=by rfl):PE X (.Call (.Attribute o name apos) [] [] cpos) (tBM0 X.K T r to):=by(
intro pins s σ H Q I h
refine wpAny_Call_method0_late hbase hline (thn (ho pins s σ H _ I h) λv J D=>?_)
obtain⟨x,H1,d,z,ty,N⟩:=D
obtain⟨h1,h2⟩:=qFD d z ty
exact⟨T,id,pa,slot,hty,h1,h2,pA rfl (PySem.evalArgs_none (hm pins J σ H1 x [] v [] Q d z .nil N))⟩)
theorem qD6(pa:PlainAttrs T)(slot:Slot T name id)(hty:typeOf (.builtin id)=pure (.type "method_descriptor"))(hm:MtR X id r)(ho:PE X o to)(ha:PA X (e::es) t)
 (hbase:attributeBase o name X.env (eval o X.env)=eval o X.env:=by rfl)
 (hfew:((backTo cpos (starEach (e::es) X.env)).all (λx=>!x.1)&&(backToKw cpos (keywordEach [] X.env)).all (λx=>x.1.isSome)
  &&decide ((e::es).length+([]:List Keyword).length+(if([]:List Keyword).isEmpty then 0 else 1)<30))=true:=by rfl)
 (hline:(apos.endLine==cpos.line)=true:=by rfl) (hs:starEach (e::es) X.env=(false,eval e X.env)::starEach es X.env:=by rfl) (hplain:(backTo cpos (starEach es X.env)).any (·.1)=false:=by rfl):
 PE X (.Call (.Attribute o name apos) (e::es) [] cpos) (tBM X.K T r to t):=by(
intro pins s σ H Q I h
refine wpAny_Call_method_late hbase hfew hline rfl (thn (ho pins s σ H _ I h) λv Z O=>?_)
obtain⟨x,H1,z,D,ty,q1⟩:=O
obtain⟨h1,h2⟩:=qFD z D ty
refine⟨T,id,pa,slot,hty,h1,h2,?_⟩
have d:=ha cpos pins Z σ H1 _ z q1
rw[hs]at d ⊢
refine pA (by show(false||(backTo cpos (starEach es X.env)).any (·.1))=false;rw[hplain]<;>rfl) (lM ?_)
exact thn d λU N ⟨vs,H2,S,r2,J⟩=>hm pins N σ H2 x vs v U Q S D r2 J)
end
noncomputable def MtM(X:Cx)(id:String)(r:V->List V->Hp->VK->Prop):Prop:=∀(pins:List (Addr×Obj)) (s:Shared) (σ:St) (H:Hp) (x:V) (xs:List V) (v:Value) (us:List Value) (Q:VK),Inv X pins σ H s->RelV x v->Vals xs us->r x xs H Q->wpAny (model X.prog X.w) X.A (call (.builtin id) (v::us)) (EP X pins σ Q) X.xe s
theorem Vals.one{x:V}{us:List Value}(h:Vals [x] us):∃u,us=[u]/\RelV x u:=by
 cases h with
 |cons r t=>cases t;exact⟨_,rfl,r⟩
theorem Vals.zero:∀{us:List Value},Vals [] us->us=[]
|_,.nil=>rfl
theorem Vals.rep{xs:List V}{us:List Value}(h:Vals xs us):∀k:Nat,Vals (List.replicate k xs).flatten (List.replicate k us).flatten
|0=>.nil
|k+1=>by rw[dW,dW,cC,cC];exact Vals.append h (Vals.rep h k)
theorem q96(its:List Value):∀(k:Nat) (acc:List Value),List.foldl (λx1 x2=>x1++x2) acc.toArray (List.replicate k its.toArray)=(acc++(List.replicate k its).flatten).toArray
|0,acc=>by simp
|k+1,acc=>by
 have e:acc.toArray++its.toArray=(acc++its).toArray:=by simp
 have d:(acc++its)++(List.replicate k its).flatten=acc++(List.replicate (k+1) its).flatten:=by rw[dW,cC,pC]
 rw[<-d,<-q96 its k (acc++its),<-e,dW,List.foldl_cons]
section
variable{X:Cx}{pins:List (Addr×Obj)}{σ:St}{H:Hp}{s:Shared}{l b:Addr}{xs ys zs:List V}
theorem Inv.lset{its its':List Value}{n:Nat}{f:Array Value->Array Value}{t':Nat}(I:Inv X pins σ H s)(hH:H l=some (.lst xs))
 (e:s.heap.get? l=some { cls:=.type "list",data:=.seq its.toArray n }) (hf:f its.toArray=its'.toArray) (hv:Vals ys its') (hz:ys.length<=sizeLine):
 Inv X pins σ (upd H l (.lst ys)) { s with heap:=s.heap.update l (Obj.mapSeq f),toks:=t' }:=by(
have q:=PySem.IsL.update e f
rw[hf]at q
refine I.write (x:=l) (e:=l) (by rw[hH];exact trivial) (.inl rfl) (λD u z d=>(mD s.heap (Obj.mapSeq f) (wD z)).trans d) ⟨_,q⟩ ?_
exact⟨hz,its',_,hv,q⟩)
theorem Inv.lnew{its:List Value}{t':Nat}(I:Inv X pins σ H s)(hv:Vals ys its)(hz:ys.length<=sizeLine):
 Inv X pins σ (upd H s.heap.objs.size (.lst ys)) { s with heap:=s.heap.push { cls:=.type "list",data:=.seq its.toArray },toks:=t' }:=I.laid (λz z q=>kJ _ q) (kO _) ⟨hz,its,0,hv,mP _ rfl⟩
theorem Inv.fresh(I:Inv X pins σ H s):H s.heap.objs.size=none:=I.hok.fresh (kO _)
theorem Inv.lstM(I:Inv X pins σ H s)(hH:H l=some (.lst xs)):xs.length<=sizeLine/\∃(its:List Value) (n:Nat),Vals xs its/\xs.length=its.length/\s.heap.get? l=some { cls:=.type "list",data:=.seq its.toArray n }:=by obtain⟨z,its,n,r,e⟩:=I.hok l _ hH;exact⟨z,its,n,r,r.length,e⟩
theorem qFE{n:Nat}(h:n<=sizeLine):Builtin.List.listTooLong n=false:=by unfold Builtin.List.listTooLong;exact hX (by lia)
end
section
variable{X:Cx}
noncomputable def qHJ:V->List V->Hp->VK->Prop:=λx vs H Q=>∃l xs y,x=.ref l/\vs=[y]/\H l=some (.lst xs)/\xs.length<sizeLine/\Q .non (upd H l (.lst (xs++[y])))
theorem q0Y:MtM X "list.append" qHJ:=by(
intro pins s σ H x Z v U Q I J N h
obtain⟨l,xs,y,rfl,rfl,D,S,q⟩:=h
cases J
obtain⟨u,rfl,O⟩:=N.one
obtain⟨z,d,n,r,hl,e⟩:=I.lstM D
refine bG F.slot_list_append ⟨_,e,rfl⟩ F.entry_list_append (F.args_list_append_2 _ _) (PySem.list_append l d.toArray n u (by rw[mG];lia)) ⟨e,?_⟩
refine⟨.non,_,I.lset (its':=d++[u]) D e (by simp) (r.append (.cons O .nil)) ?_,rfl,q⟩
rw[mH,gK]
lia)
noncomputable def rCat:R2:=λx y H Q=>∃l b xs zs,x=.ref l/\y=.ref b/\H l=some (.lst xs)/\H b=some (.lst zs)/\xs.length+zs.length<=sizeLine/\∀p,H p=none->Q (.ref p) (upd H p (.lst (xs++zs)))
theorem qK6:OpR X (binaryOp .Add) rCat:=by(
intro pins s σ H x y v u Q I O Z h
obtain⟨l,b,xs,zs,rfl,rfl,N,J,hz,q⟩:=h
cases O
cases Z
obtain⟨z,D,n,r,hl,e⟩:=I.lstM N
obtain⟨z2,d,n2,r2,S,U⟩:=I.lstM J
refine PySem.P.add_list e U ?_ (by rw[mG,mG];lia)
have ea:D.toArray++d.toArray=(D++d).toArray:=by simp
rw[ea]
exact⟨.ref _,_,I.lnew (t':=s.toks) (r.append r2) (by rw[mH];lia),rfl,q _ I.fresh⟩)
noncomputable def rRep:R2:=λx y H Q=>∃l k xs,x=.ref l/\y=.int k/\H l=some (.lst xs)/\-(2 ^ 63)<=k/\k<2 ^ 63/\xs.length*k.toNat<=sizeLine/\∀p,H p=none->Q (.ref p) (upd H p (.lst (List.replicate k.toNat xs).flatten))
theorem qHK{α:Type}(xs:List α)(k:Nat):(List.replicate k xs).flatten.length=k*xs.length:=by(
induction k with
|zero=>simp
|succ k d=>rw[dW,cC,mH,d,pD,Nat.add_comm])
theorem qK7:OpR X (binaryOp .Mult) rRep:=by(
intro pins s σ H x y v u Q I rx ry h
obtain⟨l,k,xs,rfl,rfl,hH,h1,h2,hz,q⟩:=h
cases rx
obtain⟨t,rfl⟩:=ry
obtain⟨z,d,n,r,hl,e⟩:=I.lstM hH
have J:d.toArray.size*k.toNat<=sizeLine:=by rw[mG,<-hl];exact hz
have S:¬d.toArray.size*k.toNat>(2 ^ 63-1) / 8:=by
 have:(sizeLine:Nat)<=(2 ^ 63-1) / 8:=by decide
 lia
have O:¬(!Builtin.List.listFitsIndex k)=true:=by rw[fitsIndex_both h1 h2];exact kW
have D:¬Builtin.List.listTooLong (d.toArray.size*k.toNat)=true:=by rw[qFE J];exact kW
have N:List.foldl (λx1 Z=>x1++Z) #[] (List.replicate (if d.toArray.isEmpty=true then 0 else k.toNat) d.toArray)=(List.replicate k.toNat d).flatten.toArray:=by
 have f0:∀m:Nat,List.foldl (λx1 Z=>x1++Z) #[] (List.replicate m d.toArray)=(List.replicate m d).flatten.toArray:=λm=>by have:=q96 d m [];rw[dY]at this;exact this
 rw[f0];cases d with
 |nil=>simp
 |cons a r'=>rw[kI (by simp)]
refine wpAny_binaryOp_repeat_ref (T:="list") (U:="int") (by decide) ⟨_,e,rfl⟩ (λs'=>bE s' k t) noFill_list_mul F.fills_int_mul aT repeat_list F.slot_int_index.lookup
 (bG aT (bE s k t) F.entry_int_rmul (F.args_int_rmul_2 _ _) (int___rmul___int_list k t l d.toArray n)
  ⟨e,rfl,⟨_,e,rfl⟩,bG F.slot_list_mul ⟨_,e,rfl⟩ F.entry_list_mul (F.args_list_mul_2 _ _) (AutoListH.list___mul___list_int_3 l d.toArray n k t O S D) ⟨e,?_⟩⟩)
rw[N]
exact⟨.ref _,_,I.lnew (t':=s.toks) (r.rep k.toNat) (by rw[qHK,dN];exact hz),rfl,q _ I.fresh⟩)
end
section
variable{κ:Type}[DecidableEq κ]
noncomputable def valV(kvs:List (κ×V))(k:κ):Option V:=(kvs.find? λkv=>decide (kv.1=k)).map (·.2)
noncomputable def putK(kvs:List (κ×V))(k:κ)(v:V):List (κ×V):=if(kvs.any λkv=>decide (kv.1=k))=true then kvs.map (λkv=>if kv.1=k then(kv.1,v)else kv)else kvs++[(k,v)]
noncomputable def q78(kvs:List (κ×V))(k:κ):List (κ×V):=kvs.filter λkv=>decide (kv.1≠k)
theorem q4N{p:κ×V}{r:List (κ×V)}{k:κ}(e:p.1=k):valV (p::r) k=some p.2:=by simp[valV,dH,e]
theorem q2A{p:κ×V}{r:List (κ×V)}{k:κ}(e:¬p.1=k):valV (p::r) k=valV r k:=by simp[valV,dH,e]
theorem qAX(k:κ):∀kvs:List (κ×V),(kvs.any λkv=>decide (kv.1=k))=(valV kvs k).isSome
| []=>rfl
|p::r=>by
 rw[cP];by_cases e:p.1=k
 .simp only[q4N e,hC e,Bool.true_or,Option.isSome_some]
 rw[q2A e,hX e,bU];exact qAX k r
theorem q60(kvs:List (κ×V))(k:κ)(v:V):(putK kvs k v).length<=kvs.length+1:=by(
unfold putK
split
.rw[kB];lia
rw[mH,mM,wC];lia)
theorem RelO.isSome_eq{o:Option V}{u:Option Value}(r:RelO o u):o.isSome=u.isSome:=by(
cases o with
|none=>cases u with
 |none=>rfl
 |some _=>exact(show False from r).elim
|some _=>cases u with
 |none=>exact(show False from r).elim
 |some _=>rfl)
theorem KV.val{kvs:List (κ×V)}{vs:List (κ×Value)}(r:KV kvs vs)(k:κ):RelO (valV kvs k) (valueAt vs k):=by(
unfold KV at r
induction r with
|nil=>exact True.intro
|@cons p q ps qs h t ih=>
 obtain⟨h1,h2⟩:=h;by_cases e:p.1=k
 .have d:q.1=k:=h1.symm.trans e;have b:valueAt (q::qs) k=some q.2:=by simp[valueAt,dH,d]
  rw[q4N e,b];exact h2
 have d:¬q.1=k:=λz=>e (h1.trans z);have b:valueAt (q::qs) k=valueAt qs k:=by simp[valueAt,dH,d]
 rw[q2A e,b];exact ih)
theorem KV.any{kvs:List (κ×V)}{vs:List (κ×Value)}(r:KV kvs vs)(k:κ):(kvs.any λkv=>decide (kv.1=k))=vs.any λkv=>decide (kv.1=k):=by(
unfold KV at r
induction r with
|nil=>rfl
|cons h t d=>rw[cP,cP,d,h.1])
theorem KV.repl{kvs:List (κ×V)}{vs:List (κ×Value)}(r:KV kvs vs)(k:κ){y:V}{u:Value}(ry:RelV y u):
 KV (kvs.map λkv=>if kv.1=k then(kv.1,y)else kv) (vs.map λkv=>if kv.1=k then(kv.1,u)else kv):=by(
unfold KV at r ⊢
induction r with
|nil=>exact .nil
|@cons p q ps qs h t ih=>
 rw[mY,mY];refine .cons ?_ ih;obtain⟨h1,h2⟩:=h;by_cases e:p.1=k
 .rw[kM e,kM (h1.symm.trans e)];exact⟨h1,ry⟩
 rw[kI e,kI (λz=>e (h1.trans z))];exact⟨h1,h2⟩)
theorem KV.put{kvs:List (κ×V)}{vs:List (κ×Value)}(r:KV kvs vs)(k:κ){y:V}{u:Value}(ry:RelV y u):KV (putK kvs k y) (stored vs k u):=by(
unfold putK stored
rw[r.any k]
by_cases e:(vs.any λd=>decide (d.1=k))=true
.rw[kM e,kM e];exact r.repl k ry
rw[kI e,kI e];exact Paired.snoc r ⟨rfl,ry⟩)
theorem KV.drop{kvs:List (κ×V)}{vs:List (κ×Value)}(r:KV kvs vs)(k:κ):KV (q78 kvs k) (without vs k):=by(
unfold KV at r ⊢
unfold q78 without
induction r with
|nil=>exact .nil
|@cons p q ps qs h t ih=>
 obtain⟨h1,h2⟩:=h;rw[gF,gF];by_cases e:p.1=k
 .have a:¬decide (p.1≠k)=true:=by simp[e]
  have b:¬decide (q.1≠k)=true:=by simp[h1.symm.trans e]
  rw[kI a,kI b];exact ih
 have d:¬q.1=k:=λz=>e (h1.trans z);have a:decide (p.1≠k)=true:=by simp[e]
 have b:decide (q.1≠k)=true:=by simp[d]
 rw[kM a,kM b];exact .cons ⟨h1,h2⟩ ih)
theorem KV.keys{kvs:List (κ×V)}{vs:List (κ×Value)}(r:KV kvs vs):kvs.map (·.1)=vs.map (·.1):=by(
unfold KV at r
induction r with
|nil=>rfl
|cons h t d=>rw[mY,mY,d,h.1])
theorem KV.length{kvs:List (κ×V)}{vs:List (κ×Value)}(r:KV kvs vs):kvs.length=vs.length:=xC r
theorem qFF(kvs:List (κ×V))(k:κ):(q78 kvs k).length<=kvs.length:=mJ _ _
end
theorem q97{P:Program}{w:World}{k:Key}{u:Value}(r:RelV (kV k) u):(jY P w).is k u=true:=by(
cases k with
|inl i=>obtain⟨t,e⟩:=(show ∃t,u=Value.int i t from r);subst e;exact qAS P w i t
|inr x=>obtain⟨t,e⟩:=(show ∃t,u=Value.str x t from r);subst e;exact qAT P w x t)
theorem q98{P:Program}{w:World}:∀{ks:List Key} {us:List Value},Vals (ks.map kV) us->ItemsAre (jY P w) ks us
| [],_,r=>by rw[bY]at r;cases r;exact .nil
|k::ks,_,r=>by
 rw[mY]at r;cases r with
 |cons h t=>exact .cons (q97 h) (q98 t)
noncomputable abbrev KT(H:Hp):List (List Key×V)->List (List Key×Addr×Value)->Prop:=Paired λp q=>p.1=q.1/\H q.2.1=some (.tup (p.1.map kV))/\RelV p.2 q.2.2
theorem KT.val{H:Hp}{kvs:List (List Key×V)}{xs:List (List Key×Addr×Value)}(r:KT H kvs xs)(k:List Key):RelO (valV kvs k) ((atKey xs k).map (·.2)):=by(
induction r with
|nil=>exact True.intro
|@cons p q ps qs h t ih=>
 obtain⟨h1,_,h2⟩:=h;by_cases e:p.1=k
 .have d:q.1=k:=h1.symm.trans e;have b:atKey (q::qs) k=some q.2:=by simp[atKey,dH,d]
  rw[q4N e,b];exact h2
 have d:¬q.1=k:=λz=>e (h1.trans z);have b:atKey (q::qs) k=atKey qs k:=by simp[atKey,dH,d]
 rw[q2A e,b];exact ih)
theorem KT.repl{H:Hp}{kvs:List (List Key×V)}{xs:List (List Key×Addr×Value)}(r:KT H kvs xs)(k:List Key){y:V}{u:Value}(ry:RelV y u):
 KT H (kvs.map λkv=>if kv.1=k then(kv.1,y)else kv) (xs.map (putAt k u)):=by(
induction r with
|nil=>exact .nil
|@cons p q ps qs h t ih=>
 rw[mY,mY];refine .cons ?_ ih;obtain⟨h1,h2,d⟩:=h;unfold putAt;by_cases e:p.1=k
 .rw[kM e,kM (h1.symm.trans e)];exact⟨h1,h2,ry⟩
 rw[kI e,kI (λz=>e (h1.trans z))];exact⟨h1,h2,d⟩)
theorem KT.put{H:Hp}{kvs:List (List Key×V)}{xs:List (List Key×Addr×Value)}(r:KT H kvs xs)(k:List Key){b:Addr}{y:V}{u:Value}(hb:H b=some (.tup (k.map kV)))(ry:RelV y u):
 KT H (putK kvs k y) (storedH xs k b u):=by(
have e:(kvs.any λd=>decide (d.1=k))=(atKey xs k).isSome:=by rw[qAX,(r.val k).isSome_eq,sT]
unfold putK storedH
rw[e]
by_cases q:(atKey xs k).isSome=true
.rw[kM q,kM q];exact r.repl k ry
rw[kI q,kI q];exact Paired.snoc r ⟨rfl,hb,ry⟩)
theorem KT.keeps{H H':Hp}{kvs:List (List Key×V)}{xs:List (List Key×Addr×Value)}(r:KT H kvs xs)(ht:∀b ys,H b=some (.tup ys)->H' b=some (.tup ys)):KT H' kvs xs:=Paired.mapP r λd d z=>⟨z.1,ht _ _ z.2.1,z.2.2⟩
section
variable{P:Program}{w:World}{H:Hp}{h:Heap}{a:Addr}
theorem qJH{u:HO}(ok:HOk P w H h)(e:Rd H a u):jL P w H h a u:=e.ok ok
theorem q99{kvs:List (Key×V)}(ok:HOk P w H h)(e:Rd H a (.dK kvs)):kvs.length<=sizeLine/\(a==sysModules)=false/\∃vs,KV kvs vs/\h.DictOf (jY P w) a vs:=show jL P w H h a (.dK kvs)from qJH ok e
theorem q9A{kvs:List (Key×V)}(ok:HOk P w H h)(e:H a=some (.dK kvs)):kvs.length<=sizeLine/\(a==sysModules)=false/\∃vs,KV kvs vs/\h.DictOf (jY P w) a vs:=q99 ok (.inl e)
theorem q79{ks:List Key}(ok:HOk P w H h)(e:H a=some (.tup (ks.map kV))):(tupleKind (jY P w)).is h ks a:=by obtain⟨_,d,r,o,h1,h2,n,z⟩:=(show jL P w H h a (.tup (ks.map kV))from ok a _ e);exact⟨o,d.toArray,n,h1,h2,z,by simpa using q98 r⟩
theorem q9B{kvs:List (List Key×V)}(ok:HOk P w H h)(e:Rd H a (.dT kvs)):kvs.length<=sizeLine/\(a==sysModules)=false/\∃xs,KT H kvs xs/\h.DictOfH (tupleKind (jY P w)) a xs:=by(
obtain⟨z,y,xs,r,o,es,I,h1,h2,J,N,D⟩:=(show jL P w H h a (.dT kvs)from qJH ok e)
refine⟨z,y,xs,r,o,es,I,h1,h2,J,N,λx d=>?_,D⟩
have all:∀{l:List (List Key×V)} {m:List (List Key×Addr×Value)},KT H l m->∀x∈m,(tupleKind (jY P w)).is h x.1 x.2.1:=by
 intro l m q;induction q with
 |nil=>intro x d;exact nomatch d
 |@cons p q ps qs hq t ih=>
  intro x d;rcases kN.mp d with e|d
  .subst e;exact q79 ok (by rw[<-hq.1];exact hq.2.1)
  exact ih x d
exact all r x d)
theorem qM3{kvs:List (List Key×V)}(ok:HOk P w H h)(e:H a=some (.dT kvs)):kvs.length<=sizeLine/\(a==sysModules)=false/\∃xs,KT H kvs xs/\h.DictOfH (tupleKind (jY P w)) a xs:=q9B ok (.inl e)
end
noncomputable def DGet(H:Hp)(a:Addr)(y:V)(r:Option V):Prop:=(∃kvs k,Rd H a (.dK kvs)/\y=kV k/\r=valV kvs k)\/∃kvs k b,Rd H a (.dT kvs)/\y=.ref b/\H b=some (.tup (k.map kV))/\r=valV kvs k
noncomputable def DPut(H:Hp)(a:Addr)(y v:V)(H':Hp):Prop:=(∃kvs k,H a=some (.dK kvs)/\y=kV k/\kvs.length<sizeLine/\H'=upd H a (.dK (putK kvs k v)))\/∃kvs k b,H a=some (.dT kvs)/\y=.ref b/\H b=some (.tup (k.map kV))/\kvs.length<sizeLine/\H'=upd H a (.dT (putK kvs k v))
theorem DGet.k{H:Hp}{a:Addr}{kvs:List (Key×V)}{k:Key}(e:H a=some (.dK kvs)):DGet H a (kV k) (valV kvs k):=.inl ⟨kvs,k,.inl e,rfl,rfl⟩
section
variable{X:Cx}{pins:List (Addr×Obj)}{σ:St}{H:Hp}{s:Shared}{a:Addr}{y v:V}{u r:Value}{o:Option V}{A:Around}{E:Value->Shared->Prop}
theorem Inv.big(I:Inv X pins σ H s):sysModules<s.heap.objs.size:=by have h:mainGlobals<s.heap.objs.size:=(I.mod.glob.keeps I.bk).lt;exact Nat.lt_trans (by decide) h
theorem qED{Q:Value->Shared->Prop}(hu:A.units+1<cLine)(I:Inv X pins σ H s)(g:DGet H a y (some v))(ry:RelV y u)(h:∀w' s',Inv X pins σ H s'->RelV v w'->Q w' s'):
 wpAny (model X.prog X.w) A (getItem (.ref a) u) Q E s:=by(
rcases g with⟨kvs,k,e,ey,l⟩|⟨kvs,k,b,e,ey,eb,l⟩
.subst ey;obtain⟨z,U,Z,D,N⟩:=q99 I.hok e;obtain⟨w',O,d⟩:=RelO.some_of (v:=v) (o:=valueAt Z k) (by rw[l];exact D.val k);exact wpAny_getItem_of (q97 ry) N.mapOf O (h w' _ (I.tok _) d)
subst ey
cases(show u=Value.ref b from ry)
obtain⟨z,U,xs,D,N⟩:=q9B I.hok e
obtain⟨w',O,d⟩:=RelO.some_of (v:=v) (o:=(atKey xs k).map (·.2)) (by rw[l];exact D.val k)
obtain⟨p,S,J⟩:=kP.mp O
refine wpAny_getItem_heap (cT hu) (q79 I.hok eb) N S ?_
rw[J]
exact h w' _ (I.tok _) d)
theorem d_in{Q:Value->Shared->Prop}(hu:A.units+1<cLine)(I:Inv X pins σ H s)(g:DGet H a y o)(ry:RelV y u)(h:∀s',Inv X pins σ H s'->Q (.bool o.isSome) s'):
 wpAny (model X.prog X.w) A (compareOp .In u (.ref a)) Q E s:=by(
rcases g with⟨kvs,k,e,ey,l⟩|⟨kvs,k,b,e,ey,eb,l⟩
.subst ey;obtain⟨z,J,N,d,D⟩:=q99 I.hok e;refine wpAny_in_of (q97 ry) J D.mapOf ?_;rw[<-(d.val k).isSome_eq,<-l];exact h _ (I.tok _)
subst ey
cases(show u=Value.ref b from ry)
obtain⟨z,J,xs,d,D⟩:=q9B I.hok e
refine wpAny_in_heap (cT hu) (q79 I.hok eb) J D ?_
have q:=(d.val k).isSome_eq
rw[sT]at q
rw[<-q,<-l]
exact h _ (I.tok _))
theorem qHL{Q:Value->Shared->Prop}(hu:A.units+1<cLine)(I:Inv X pins σ H s)(g:DGet H a y o)(ry:RelV y u)(h:∀s',Inv X pins σ H s'->Q (.bool (!o.isSome)) s'):
 wpAny (model X.prog X.w) A (compareOp .NotIn u (.ref a)) Q E s:=by(
rcases g with⟨kvs,k,e,ey,l⟩|⟨kvs,k,b,e,ey,eb,l⟩
.subst ey;obtain⟨z,J,N,d,D⟩:=q99 I.hok e;refine wpAny_notIn_of (q97 ry) J D.mapOf ?_;rw[<-(d.val k).isSome_eq,<-l];exact h _ (I.tok _)
subst ey
cases(show u=Value.ref b from ry)
obtain⟨z,J,xs,d,D⟩:=q9B I.hok e
refine wpAny_notIn_heap (cT hu) (q79 I.hok eb) J D ?_
have q:=(d.val k).isSome_eq
rw[sT]at q
rw[<-q,<-l]
exact h _ (I.tok _))
theorem q9W{h':Heap}{t':Nat}{ob:HO}(I:Inv X pins σ H s)(mu:Mut (H a))(hs:Heap.SameBut a s.heap h')(he:∃q,h'.get? a=some q)(new:jL X.prog X.w (upd H a ob) h' a ob):
 Inv X pins σ (upd H a ob) { s with heap:=h',toks:=t' }:=I.write (x:=a) (e:=a) mu (.inl rfl) (λb q hb z=>(hs.2 b hb).trans z) he new
theorem qFG{P:Program}{w:World}{H':Hp}{h':Heap}{kvs:List (Key×V)}{vs:List (Key×Value)}(z:kvs.length<=sizeLine)(hd:(a==sysModules)=false)(rel:KV kvs vs)(dd:h'.DictOf (jY P w) a vs):
 jL P w H' h' a (.dK kvs):=⟨z,hd,vs,rel,dd⟩
theorem qEE{H':Hp}{Q:Unit->Shared->Prop}(hu:A.units+1<cLine)(I:Inv X pins σ H s)(g:DPut H a y v H')(ry:RelV y u)(rv:RelV v r)(h:∀s',Inv X pins σ H' s'->Q () s'):
 wpAny (model X.prog X.w) A (setItem (.ref a) u r) Q E s:=by(
rcases g with⟨kvs,k,e,ey,l,eH⟩|⟨kvs,k,b,e,ey,eb,l,eH⟩
.subst ey eH;obtain⟨z,O,vs,d,S⟩:=q9A I.hok e;have U:vs.length<=sizeLine:=by rw[<-d.length];exact z
 have hl:(putK kvs k v).length<=sizeLine:=by have:=q60 kvs k v;lia
 refine wpAny_setItem_pairs (hsz:=U) (q97 ry) S λh' D N=>h _ ?_;have he:∃q,h'.get? a=some q:=let⟨q,_,_,J,_⟩:=D;⟨q,J⟩
 exact q9W I (by rw[e];exact True.intro) N he (qFG hl O (d.put k rv) D)
subst ey eH
cases(show u=Value.ref b from ry)
obtain⟨z,O,xs,d,S⟩:=qM3 I.hok e
have U:xs.length<=sizeLine:=by rw[<-xC d];exact z
have hl:(putK kvs k v).length<=sizeLine:=by have:=q60 kvs k v;lia
refine wpAny_setItem_heap (hsz:=U) (cT hu) (q79 I.hok eb) S λh' D N=>h _ ?_
obtain⟨q,es,ep,J,h2,h3,h4,_,h5⟩:=D
refine q9W I (by rw[e];exact True.intro) N ⟨q,J⟩ ⟨hl,O,_,(d.put k eb rv).keeps λc ys Z=>?_,q,es,ep,J,h2,h3,h4,h5⟩
rw[qD (jN Z e (λz=>nomatch z))]
exact Z)
end
section
variable{X:Cx}{pins:List (Addr×Obj)}{σ:St}{H:Hp}{s:Shared}{a:Addr}{kvs:List (Key×V)}{k:Key}{u:Value}{A:Around}{E:Value->Shared->Prop}
theorem qM4{v:V}{more:List Value}{Q:Value->Shared->Prop}(I:Inv X pins σ H s)(e:H a=some (.dK kvs))(ry:RelV (kV k) u)(l:valV kvs k=some v)(hm:more=[]\/∃x,more=[x])
 (h:∀w' s',Inv X pins σ (upd H a (.dK (q78 kvs k))) s'->RelV v w'->Q w' s'):wpAny (model X.prog X.w) A (call (.builtin "dict.pop") (.ref a::u::more)) Q E s:=by(
obtain⟨z,hd,O,d,N⟩:=q9A I.hok e
obtain⟨w',hw,J⟩:=RelO.some_of (v:=v) (o:=valueAt O k) (by rw[<-l];exact d.val k)
have Z:(keyPart u).isSome=true:=by
 cases k with
 |inl i=>obtain⟨t,q⟩:=(show ∃t,u=Value.int i t from ry);subst q;rfl
 |inr x=>obtain⟨t,q⟩:=(show ∃t,u=Value.str x t from ry);subst q;rfl
have ha:argsOk "dict.pop" ⟨.ref a::u::more,[]⟩:=by
 rcases hm with q|⟨x,q⟩
 .subst q;exact PySem.F.args_dict_pop_2 _ _
 subst q;exact PySem.F.args_dict_pop_3 _ _ _
refine call_meetsIn lF N.typeIs PySem.F.entry_dict_pop ha (meets_dict_pop_there (jY X.prog X.w) a (q97 ry) more hm Z)
 ⟨O,w',N,by rw[<-d.length];exact z,hw,λh' D S=>h w' _ ?_ J⟩
have U:∃q,h'.get? a=some q:=let⟨q,_,_,hq,_⟩:=D;⟨q,hq⟩
exact q9W I (by rw[e];exact True.intro) S U (qFG (mL (qFF kvs k) z) hd (d.drop k) D))
end
noncomputable def NoSl(i:Expr):Prop:=∀ov iv,subscripted i false ov iv=operate [ov,iv] (getItem ov iv)
theorem qHM{prog:Program}{w:World}{A:Around}{E:Value->Shared->Prop}{s:Shared}{env:Env}{value slice:Expr}{pos:Pos}{T id:String}{Q:Value->Shared->Prop}
 (hl:typeLookup (.type T) "__getitem__"=pure (some (.builtin id))) (hs:NoSl slice)
 (h:wpAny (model prog w) A (eval value env) (λo s₁=>wpAny (model prog w) A (eval slice env) (λi s₂=>s₂.TypeIs o T/\wpAny (model prog w) A (getItem o i) Q E s₂) E s₁) E s):
 wpAny (model prog w) A (eval (.Subscript value slice pos) env) Q E s:=by(
refine Subscript_ (g4 h (λo s₁ I=>g4 I (λi s₂ d=>?_) λU U x=>x) λU U x=>x)
obtain⟨hT,d⟩:=d
unfold subscriptTail
refine kD ?_
rw[getitemInPython_of_ne hT.not_modules]
refine kD (wpAny_specialOf hT hl ?_)
have fin:wpAny (model prog w) A (subscripted slice false o i) (λr z=>wpAny (model prog w) A (letTemporaryGo value o r >>= λU=>pure r) Q E z) E s₂:=by rw[hs o i];exact wpAny_operating (g4 d (λr z D=>kD (wpAny_letTemporaryGo (mE D))) λU U x=>x)
first
 |exact mE (kD fin)
 |exact kD (mE (kD fin))
 |exact kD fin)
theorem qAY{X:Cx}{pins:List (Addr×Obj)}{σ:St}{H:Hp}{s:Shared}{a:Addr}{y:V}{o:Option V}(I:Inv X pins σ H s)(g:DGet H a y o):s.TypeIs (.ref a) "dict":=by(
rcases g with⟨kvs,k,e,_,_⟩|⟨kvs,k,b,e,_,_,_⟩
.obtain⟨_,_,z,_,d⟩:=q99 I.hok e;exact d.typeIs
obtain⟨_,_,xs,_,d⟩:=q9B I.hok e
exact d.typeIs)
noncomputable def qM5(td ty:TE):TE:=λσ H Q=>td σ H λx H1=>ty σ H1 λy H2=>∃a v,x=.ref a/\DGet H2 a y (some v)/\Q v H2
noncomputable def tDIn(ty td:TE):TE:=λσ H Q=>ty σ H λy H1=>td σ H1 λx H2=>∃a o,x=.ref a/\DGet H2 a y o/\Q (.bl o.isSome) H2
noncomputable def qHN(ty td:TE):TE:=λσ H Q=>ty σ H λy H1=>td σ H1 λx H2=>∃a o,x=.ref a/\DGet H2 a y o/\Q (.bl (!o.isSome)) H2
noncomputable def qM6(td ty tv:TE):TS:=λD σ H=>tv σ H λv H1=>td σ H1 λx H2=>ty σ H2 λy H3=>∃a H4,x=.ref a/\DPut H3 a y v H4/\D.nx σ H4
section
variable{X:Cx}{o i e value:Expr}{pos pos' tpos:Pos}{td ty tv:TE}
theorem q6L(hu:X.A.units+1<cLine)(ho:PE X o td)(hi:PE X i ty)(hs:NoSl i):PE X (.Subscript o i pos) (qM5 td ty):=by(
intro pins s σ H Q I h
refine qHM PySem.F.slot_dict_getitem.lookup hs (thn (ho pins s σ H _ I h) λu U ⟨x,H1,S,D,Z⟩=>thn (hi pins U σ H1 _ S Z) λiv s2 N=>?_)
obtain⟨y,H2,z,ry,a,v,ex,g,J⟩:=N
subst ex
obtain rfl:u=Value.ref a:=D
exact⟨qAY z g,qED hu z g ry λw' s3 O d=>⟨v,H2,O,d,J⟩⟩)
theorem qFH(hu:X.A.units+1<cLine)(hi:PE X i ty)(ho:PE X o td):PC X .In i o (tDIn ty td):=by(
intro pins s σ H Q I h
refine thn (hi pins s σ H _ I h) λiv U ⟨y,H1,S,ry,Z⟩=>thn (ho pins U σ H1 _ S Z) λu s2 J=>?_
obtain⟨x,H2,N,d,a,D,ex,g,z⟩:=J
subst ex
obtain rfl:u=Value.ref a:=d
exact d_in hu N g ry λs3 O=>⟨.bl D.isSome,H2,O,rfl,z⟩)
theorem q9C(hu:X.A.units+1<cLine)(hi:PE X i ty)(ho:PE X o td):PC X .NotIn i o (qHN ty td):=by(
intro pins s σ H Q I h
refine thn (hi pins s σ H _ I h) λiv U ⟨y,H1,S,ry,Z⟩=>thn (ho pins U σ H1 _ S Z) λu s2 J=>?_
obtain⟨x,H2,N,d,a,D,ex,g,z⟩:=J
subst ex
obtain rfl:u=Value.ref a:=d
exact qHL hu N g ry λs3 O=>⟨.bl (!D.isSome),H2,O,rfl,z⟩)
theorem qHO(hu:X.A.units+1<cLine)(ho:PE X o td)(hi:PE X i ty)(hv:PE X value tv)(hs:swapsWith value (some (.Subscript o i pos')) pos.line X.env=pure false):
 PS X (.Assign [.Subscript o i pos'] value pos) (qM6 td ty tv):=by(
intro pins s σ H D I h
refine wpAny_Assign_Subscript (thn (hv pins s σ H _ I h) λr s1 ⟨v,H1,I1,S,d⟩=>thn (ho pins s1 σ H1 _ I1 d) λu O ⟨x,H2,Z,J,N⟩=>thn (hi pins O σ H2 _ Z N) λiv s3 U=>?_) hs
obtain⟨y,H3,I3,ry,a,z,ex,g,q3⟩:=U
subst ex
obtain rfl:u=Value.ref a:=J
exact qEE hu I3 g ry S λs4 I4=>⟨σ,z,I4,q3⟩)
end
theorem qFI{P:Program}{w:World}{H:Hp}(h:Heap)(hb:sysModules<h.objs.size):jL P w H (h.push { cls:=.type "dict",data:=.dict #[] }) h.objs.size (.dK []):=⟨m7 _,rK.mpr (wD (mR hb)),[],.nil,Heap.DictOf.new h⟩
noncomputable def qK8:TE:=λz H Q=>∀p,H p=none->Q (.ref p) (upd H p (.dK []))
section
variable{X:Cx}{pos:Pos}
theorem q7A:PE X (.Dict [] [] pos) qK8:=λpins s σ H Q I h=>wpAny_Dict_empty ⟨.ref s.heap.objs.size,_,I.laid (a:=s.heap.objs.size) (o:=.dK []) (t':=s.toks) (λz z q=>kJ _ q) (kO _) (qFI s.heap I.big),rfl,h _ (I.hok.fresh (kO _))⟩
end
structure M1(X:Cx)(o:Expr)(m:Str)(apos:Pos)(e:Expr)(cpos:Pos):Prop where
base:attributeBase o m X.env (eval o X.env)=eval o X.env
few:((backTo cpos (starEach [e] X.env)).all (λx=>!x.1)&&(backToKw cpos (keywordEach [] X.env)).all (λx=>x.1.isSome)
 &&decide (([e]:List Expr).length+([]:List Keyword).length+(if([]:List Keyword).isEmpty then 0 else 1)<30))=true
line:(apos.endLine==cpos.line)=true
trees:backTo cpos (starEach [e] X.env)=[(false,eval e X.env)]
noncomputable def IsD(H:Hp)(a:Addr):Prop:=(∃kvs,Rd H a (.dK kvs))\/∃kvs,Rd H a (.dT kvs)
theorem qK9{X:Cx}{pins:List (Addr×Obj)}{σ:St}{H:Hp}{s:Shared}{a:Addr}(I:Inv X pins σ H s)(d:IsD H a):
 s.TypeIs (.ref a) "dict"/\(∀b,Value.ref a=.ref b->∃ob,s.heap.get? b=some ob/\ob.dict=none)/\(a==sysModules)=false:=by(
rcases d with⟨kvs,e⟩|⟨kvs,e⟩
.obtain⟨_,D,J,_,z⟩:=q99 I.hok e;refine⟨z.typeIs,λb q=>?_,D⟩;cases q;obtain⟨ob,_,_,h1,h2,_⟩:=z;exact⟨ob,h1,h2.2.1⟩
obtain⟨_,D,xs,_,z⟩:=q9B I.hok e
refine⟨z.typeIs,λb q=>?_,D⟩
cases q
obtain⟨ob,_,_,h1,h2,_⟩:=z
exact⟨ob,h1,h2.2.1⟩)
noncomputable def qKA(td ty:TE):TE:=λσ H Q=>td σ H λx H1=>∃a,x=.ref a/\IsD H1 a/\ty σ H1 λy H2=>∃kvs k v,H2 a=some (.dK kvs)/\y=kV k/\valV kvs k=some v/\Q v (upd H2 a (.dK (q78 kvs k)))
section
variable{X:Cx}{o e f:Expr}{apos cpos:Pos}{td ty tx:TE}
theorem qFJ(ho:PE X o td)(he:PE X e ty)(m:M1 X o "pop" apos e cpos):PE X (.Call (.Attribute o "pop" apos) [e] [] cpos) (qKA td ty):=by(
intro pins s σ H Q I h
refine wpAny_Call_method m.base m.few m.line cZ lF PySem.F.type_dict_pop (thn (ho pins s σ H _ I h) λu s1 U=>?_)
obtain⟨x,H1,D,J,a,ex,d,q1⟩:=U
subst ex
obtain rfl:u=Value.ref a:=J
obtain⟨O,Z,_⟩:=qK9 D d
refine⟨O,Z,?_⟩
rw[m.trees]
refine pA rfl (lM (xJ (thn (he pins s1 σ H1 _ D q1) λiv s2 ⟨y,H2,I2,ry,kvs,k,v,ea,S,l,N⟩=>xY ?_)))
subst S
exact qM4 I2 ea ry l (.inl rfl) λw' s3 I3 z=>⟨v,_,I3,z,N⟩)
end
end L2
namespace Att
open PySem PySem.W PySem.Calls PyProof.Rows
theorem q67{P:Params}{h:Heap}:∀(ns:List Int) (vs:List Value),WellAll P h vs (ns.map WData.int)->IntsAre vs ns:=by(
intro ns
induction ns with
|nil=>intro vs w;rw[bY]at w;cases w;exact .nil
|cons n ns d=>
 intro vs w;rw[mY]at w;cases w with
 |cons a b=>cases a;exact .cons _ _ (d _ b))
theorem qEF{l:OpenLaw}{n:Nat}(hn:l.most=some n){P:Params}{h:Heap}{args:List WData}{vals:List Value}
 (hpre:l.row.toRowW.claim.pre args=true) (hwl:WellAll P h vals args):
 ∃a vs ns,vals=[Value.ref a]/\args=[WData.list (ns.map WData.int)]/\h.get? a=some { cls:=.type "list",data:=.seq vs.toArray }/\IntsAre vs ns/\ns.length<=n:=by(
have N:WShape.hasAll [] args [.list .int]=true:=(pre_splitW hpre).1
have O:l.pre.holds [] { args:=args } =true:=(pre_splitW hpre).2
obtain⟨d,r,rfl,h1,h2⟩:=hasAllW_cons N
obtain rfl:=hasAllW_nil h2
obtain⟨xs,rfl,h3⟩:=hasW_list h1
obtain⟨ns,rfl⟩:=items_int h3
have z:ns.length<=n:=by
 unfold OpenLaw.pre at O;have J:(WTm.not (.lt (.lit (.int (n:Int))) (.len (.arg 0)))).holds [] { args:=[.list (ns.map .int)] } =true:=by have J:=(holds_andW O).1;rw[hn]at J;exact J
 have I:=condW_of J (w_not (w_lt w_lit (w_len_list (w_arg rfl))));rw[kB]at I;refine aJ λq=>?_;have U:(n:Int)<((ns.length:Nat):Int):=by lia
 first
  |(rw[hC U]at I;exact absurd I (by decide))
  |(simp at I;lia)
cases hwl with
|cons S w2=>
 cases w2;cases S with
 |list Z D=>exact⟨_,_,ns,rfl,rfl,Z,q67 ns _ D,z⟩)
theorem qEG(l:OpenLaw)(args:List WData):l.row.toRowW.claim.post args (.bool true) args=true:=postW_of (r:=l.row.toRowW) (X:=(true==true))
  (show WShape.has [] (.bool true) .bool=true by first|rfl|decide|simp[WShape.has,WShape.arms,WShape.armsAll])
  (show(WTm.eq .res (.lit (.bool true))).value [] { args:=args,res:=some (.bool true),after:=args } =some (.bool (true==true))from w_eq_bool (w_res rfl) w_lit) rfl
theorem attach_call{l:OpenLaw}{n:Nat}{q:Program}{loose:List Str}{XP:(Str->Option Value)->Heap->Prop}{YP:World->Heap->Prop}{d:DefRec}
 (hn:l.most=some n) (hdf:d.params.defaults=[])
 (call:∀(w:World) (s₀ s₁:Shared) (mg mb:Str->Option Value) (fa:Addr) (o:Obj) (pm cd doc:Value) (a:Addr) (vs:List Value) (ns:List Int),Ground q loose [] XP w s₀ mg mb s₁.heap->YP w s₁.heap->s₁.heap.get? fa=some o->o.data=.func (docDef d.name d.params d.body d.scope pm cd doc)->s₁.heap.CodeRec cd d.name->mg d.name=some (.ref fa)->s₁.heap.get? a=some { cls:=.type "list",data:=.seq vs.toArray }->IntsAre vs ns->ns.length<=n->s₁.gens=#[]->codeAny (model l.prog w) callerA (.call (.ref fa) ⟨[.ref a],[]⟩) (λr s'=>r=.ok (.ret (.bool true))/\OldK s₁.heap s'.heap/\s'.os=s₁.os/\AllBare s'.gens) s₁):
 WalkO q loose XP YP l.row.toRowW d [] (λf vs=>PySem.call f vs):=by(
intro w s₀ s₁ mg mb G Y fa o pm cd doc dV kV ho hd S Z N hg aa U as I ab ac O ad
obtain rfl:dV=.none:=Dflts.none Z hdf
obtain rfl:kV=.none:=Dflts.noKw Z
obtain⟨a,vs,ns,rfl,rfl,J,z,D⟩:=qEF hn I O
refine enter_call (cK (call w s₀ s₁ mg mb fa o pm cd doc a vs ns G Y ho (fd_plain hd) S N J z D hg) λr s' hq=>?_)
obtain⟨rfl,h2,h3,h4⟩:=hq
exact⟨.inl ⟨.bool true,.bool true,[],rfl,λF=>rfl,.bool true,qEG l _,λF=>⟨List.Pairwise.nil,λF hm=>(nomatch hm)⟩⟩,h2,h3,h4⟩)
end Att
namespace L2
open PySem PySem.Spec PyProof.Rows
theorem q9D:∀{vs:List Value} {ns:List Int},IntsAre vs ns->Vals (ns.map V.int) vs
|_,_,.nil=>.nil
|_,_,.cons n t h=>.cons ⟨t,rfl⟩ (q9D h)
noncomputable def qM(s:Stmt)(j:Nat):Stmt:=match s with
| .ClassDef _ _ _ body _ _ _ _ _ _ _=>body.getD j (.Pass ⟨0,0,0,0⟩)
|_=>.Pass ⟨0,0,0,0⟩
noncomputable def yE(s:Stmt):Arguments:=match s with
| .FunctionDef _ a _ _ _ _ _ _ _ _=>a
|_=>{ posonlyargs:=[],args:=[],vararg:=none,kwonlyargs:=[],kw_defaults:=[],kwarg:=none,defaults:=[] }
noncomputable def jV(s:Stmt):List Stmt:=match s with
| .FunctionDef _ _ b _ _ _ _ _ _ _=>b
|_=>[]
noncomputable def qF(s:Stmt):Scope:=match s with
| .FunctionDef _ _ _ _ _ _ sc _ _ _=>sc
|_=>{ kind:=.function,names:=[],isGenerator:=false,isCoroutine:=false }
noncomputable abbrev CX0:CXT:=λz z z z z z=>False
noncomputable abbrev E0:XK:=λz z z=>False
theorem qK{X:Cx}:q28 CX0 X E0:=λz z z z z z z h=>h.elim
theorem q61{A:Around}{k:Nat}(hr:Room k A):A.units+1<cLine:=dJ (Nat.add_le_add_left (by decide:1<=64) _) hr.units
section
variable{X:Cx}
theorem pv(i:Nat){x:Str}{pos:Pos}(hN:X.N[i]?=some x:=by rfl)(hv:Vis X.env.scope x:=by first|exact Or.inl rfl|exact Or.inr (Or.inl rfl)|exact Or.inr (Or.inr rfl))(hd:(x==("__debug__":Str))=false:=by decide)
 (hcd:(x==("__classdict__":Str))=false:=by decide):PE X (.Name x pos) (tVar i):=qJV hN hv hd hcd
end
theorem iteF{A B:Prop}(h:B):if false=true then A else B:=by rw[kI kW];exact h
theorem iteT{A B:Prop}(h:A):if true=true then A else B:=by rw[kM rfl];exact h
theorem ite2{c A B:Prop}[Decidable c](h1:c->A)(h2:¬c->B):if c then A else B:=by(
by_cases h:c
.rw[kM h];exact h1 h
rw[kI h]
exact h2 h)
noncomputable def Same(H H':Hp):Prop:=∀b o,H b=some o->H' b=some o
theorem Same.refl(H:Hp):Same H H:=λz z h=>h
theorem Same.trans{H H1 H2:Hp}(a:Same H H1)(b:Same H1 H2):Same H H2:=λc o h=>b c o (a c o h)
theorem Same.free{H H':Hp}(e:Same H H'){l:Addr}(h:H' l=Option.none):H l=Option.none:=by(
cases q:H l with
|none=>rfl
|some o=>rw[e l o q]at h;cases h)
theorem Same.seq{K:PySem.W.Frag}{H H':Hp}{a:Addr}{xs:List V}(e:Same H H')(h:SqL K H a xs):SqL K H' a xs:=by(
rcases h with(h|⟨o,h⟩)|h
.exact .inl (.inl (e _ _ h))
.exact .inl (.inr ⟨o,e _ _ h⟩)
exact .inr h)
section
variable{X:Cx}
theorem q2B:PGet X (rIxL X.K):=by(
intro pins s σ H o i ov iv Q I Z ri h
obtain⟨p,xs,k,z,rfl,rfl,U,he,q⟩:=h
cases Z
obtain⟨t,rfl⟩:=ri
obtain⟨d,r,O,hz⟩:=I.list U
obtain⟨j,h1,h2,h3,h4,h5⟩:=q9U he
obtain⟨w,S,J⟩:=r.get h2
have hl:=r.length
have hn:=q72
have fin:EP X pins σ Q w s:=⟨z,H,I,J,q⟩
by_cases N:0<=k
.have D:k.toNat=j:=by rw[lL N h5]at h1;exact kQ h1
 exact wpAny_getItem_list O.isList N (by lia) (by rw[D];simpa using S) fin
have D:(k+(d.toArray.size:Int)).toNat=j:=by rw[nQ (by lia) h4]at h1;rw[mG,<-hl];exact kQ h1
exact nV O.isList (by lia) (by rw[mG]<;>lia) (by lia) (by rw[D];simpa using S) fin)
end
noncomputable def isW:V->Bool
| .int _=>true
|_=>false
noncomputable def isI:V->Bool
| .int _=>true
| .bl _=>true
|_=>false
noncomputable def isB:V->Bool
| .bl _=>true
|_=>false
noncomputable def isS:V->Bool
| .str _=>true
|_=>false
inductive Knd(H:Hp):V->Prop where
|non:Knd H .non
|bl (b:Bool):Knd H (.bl b)
|int (i:Int):Knd H (.int i)
|str (x:Str):Knd H (.str x)
|lst {a:Addr} {xs:List V} (e:H a=some (.lst xs)):Knd H (.ref a)
|tup {a:Addr} {xs:List V} (e:H a=some (.tup xs)):Knd H (.ref a)
section
variable{K:PySem.W.Frag}{H:Hp}{x:V}
theorem qKB:PySem.W.kitOne K (.type "NoneType") (.type "int")=some false:=by kernel_rfl
theorem qKC:PySem.W.kitOne K (.type "bool") (.type "int")=some true:=by kernel_rfl
theorem qKD:PySem.W.kitOne K (.type "int") (.type "int")=some true:=by kernel_rfl
theorem qKE:PySem.W.kitOne K (.type "str") (.type "int")=some false:=by kernel_rfl
theorem qKF:PySem.W.kitOne K (.type "list") (.type "int")=some false:=by kernel_rfl
theorem qKG:PySem.W.kitOne K (.type "tuple") (.type "int")=some false:=by kernel_rfl
theorem qKH:PySem.W.kitOne K (.type "NoneType") (.type "bool")=some false:=by kernel_rfl
theorem qKI:PySem.W.kitOne K (.type "bool") (.type "bool")=some true:=by kernel_rfl
theorem qKJ:PySem.W.kitOne K (.type "int") (.type "bool")=some false:=by kernel_rfl
theorem qKK:PySem.W.kitOne K (.type "str") (.type "bool")=some false:=by kernel_rfl
theorem qKL:PySem.W.kitOne K (.type "list") (.type "bool")=some false:=by kernel_rfl
theorem qKM:PySem.W.kitOne K (.type "tuple") (.type "bool")=some false:=by kernel_rfl
theorem qKN:PySem.W.kitOne K (.type "NoneType") (.type "str")=some false:=by kernel_rfl
theorem qKO:PySem.W.kitOne K (.type "bool") (.type "str")=some false:=by kernel_rfl
theorem qKP:PySem.W.kitOne K (.type "int") (.type "str")=some false:=by kernel_rfl
theorem qKQ:PySem.W.kitOne K (.type "str") (.type "str")=some true:=by kernel_rfl
theorem qKR:PySem.W.kitOne K (.type "list") (.type "str")=some false:=by kernel_rfl
theorem qKS:PySem.W.kitOne K (.type "tuple") (.type "str")=some false:=by kernel_rfl
theorem Knd.ty(k:Knd H x):∃t,TyOf K H x t/\PySem.W.kitOne K t (.type "int")=some (isI x)/\PySem.W.kitOne K t (.type "bool")=some (isB x)/\PySem.W.kitOne K t (.type "str")=some (isS x):=by(
cases k with
|non=>exact⟨_,.non,qKB,qKH,qKN⟩
|bl b=>exact⟨_,.bl b,qKC,qKI,qKO⟩
|int i=>exact⟨_,.int i,qKD,qKJ,qKP⟩
|str y=>exact⟨_,.str y,qKE,qKK,qKQ⟩
|lst e=>exact⟨_,.lst e,qKF,qKL,qKR⟩
|tup e=>exact⟨_,.tup e,qKG,qKM,qKS⟩)
theorem qKT(x:V):(if isI x=true then !isB x else false)=isW x:=by cases x<;>rfl
end
noncomputable def q5D(ns:List Int)(k:Int):Int:=ns.getD k.toNat 0
theorem qEH{ns:List Int}{k:Int}(h0:0<=k)(h:k<ns.length):atI (ns.map V.int) k=some (.int (q5D ns k)):=by(
obtain⟨j,rfl⟩:=wM h0
refine zJ ?_
have d:j<ns.length:=by lia
unfold q5D
simp[d])
theorem qCD{ns:List Int}{k:Int}(h0:0<=k)(h:¬k<ns.length):q5D ns k=0:=by unfold q5D;rw[kL,rT (by lia)];rfl
theorem Same.upd{H:Hp}{p:Addr}{o:HO}(h:H p=none):Same H (upd H p o):=λb u e=>by rw[qD (qH e h)];exact e
noncomputable abbrev NewO(H:Hp)(o:HO)(Q:VK):Prop:=∀p H',H p=none->Same H H'->H' p=some o->Q (.ref p) H'
theorem NewO.at{H:Hp}{o:HO}{Q:VK}(q:NewO H o Q)(p:Addr)(n:H p=none):Q (.ref p) (upd H p o):=q p _ n (Same.upd n) qI
section
variable{X:Cx}{e:Expr}{es:List Expr}{t:TA}{pos:Pos}
noncomputable def qM7(t:TA):TE:=λσ H Q=>t σ H λxs H1=>xs.length<=sizeLine/\NewO H1 (.tup xs) Q
noncomputable def qM8(t:TA):TE:=λσ H Q=>t σ H λxs H1=>xs.length<=sizeLine/\NewO H1 (.lst xs) Q
theorem yX{x1}(h:PA X es t):PE X (.Tuple es x1 pos) (qM7 t):=by(
intro pins s σ H Q I J
refine wpAny_Tuple_spliced (thn (h pos pins s σ H _ I J) λN d ⟨xs,H1,D,r,z,q⟩=>⟨by rw[<-r.length];exact z,?_⟩)
have O:H1 d.heap.objs.size=none:=D.hok.fresh (kO _)
refine⟨.ref d.heap.objs.size,upd H1 d.heap.objs.size (.tup xs),D.laid (t':=d.toks) (λb u e=>kJ _ e) (kO _) ?_,rfl,q.at _ O⟩
exact⟨z,N,r,⟨_,mP _ rfl,rfl,_,rfl⟩⟩)
theorem jO(h:PA X es t):PE X (.List es pos) (qM8 t):=by(
intro pins s σ H Q I J
refine wpAny_List_spliced (thn (h pos pins s σ H _ I J) λN d ⟨xs,H1,D,r,z,q⟩=>⟨by rw[<-r.length];exact z,?_⟩)
have O:H1 d.heap.objs.size=none:=D.hok.fresh (kO _)
refine⟨.ref d.heap.objs.size,upd H1 d.heap.objs.size (.lst xs),D.laid (t':=d.toks) (λb u e=>kJ _ e) (kO _) ?_,rfl,q.at _ O⟩
exact⟨z,N,0,r,mP _ rfl⟩)
noncomputable def qM9:R2:=λx y H Q=>∃l b xs zs,x=.ref l/\y=.ref b/\H l=some (.lst xs)/\H b=some (.lst zs)/\xs.length+zs.length<=sizeLine/\NewO H (.lst (xs++zs)) Q
theorem qHP:OpR X (binaryOp .Add) qM9:=by intro pins s σ H x y v u Q I d O D;obtain⟨l,b,xs,zs,J,z,h1,h2,N,q⟩:=D;exact qK6 pins s σ H x y v u Q I d O ⟨l,b,xs,zs,J,z,h1,h2,N,q.at⟩
noncomputable def qMA:R2:=λx y H Q=>∃l k v,x=.ref l/\y=.int k/\H l=some (.lst [v])/\0<=k/\k<=100000/\NewO H (.lst (List.replicate k.toNat v)) Q
theorem qAZ{α:Type}(v:α):∀k:Nat,(List.replicate k [v]).flatten=List.replicate k v
|0=>rfl
|k+1=>by rw[dW,cC,qAZ v k,dW];rfl
theorem q1F:OpR X (binaryOp .Mult) qMA:=by(
intro pins s σ H x y v u Q I d O J
obtain⟨l,k,z,N,D,h1,h2,S,q⟩:=J
refine qK7 pins s σ H x y v u Q I d O ⟨l,k,[z],N,D,h1,by lia,by lia,?_,?_⟩
.rw[gR,gK];lia
rw[qAZ]
exact q.at)
theorem yT:q20 X (.type "list") (λxs H Q=>∃p ys,xs=[.ref p]/\(SqL X.K H p ys\/SqT X.K H p ys)/\NewO H (.lst ys) Q):=by intro pins s σ H xs d Q I r z;obtain⟨p,ys,e,h,q⟩:=z;exact q9V pins s σ H xs d Q I r ⟨p,ys,e,h,q.at⟩
end
noncomputable def qHQ:Sp:=λvs H Q z=>∃x,vs=[x]/\Knd H x/\Q (.bl (isW x)) H
noncomputable def inB(x:V)(lo hi:Int):Bool:=match x with
| .int i=>decide (lo<=i)&&decide (i<=hi)
|_=>false
noncomputable def qFK:Sp:=λvs H Q z=>∃x lo hi,vs=[x,.int lo,.int hi]/\Knd H x/\Q (.bl (inB x lo hi)) H
noncomputable def qKU(K:PySem.W.Frag):Sp:=λvs H Q z=>∃a ns k,vs=[.ref a,.int k]/\SqL K H a (ns.map V.int)/\0<=k/\Q (.int (q5D ns k)) H
end L2
namespace L2
open PySem
theorem lt2{vs:Array Value}{v:Value}(h:vs[2]?=some v):1<vs.size:=xZ (cG.mp h).1
noncomputable def ExO(h:Heap)(e:Addr)(C:Value)(od:Option Addr)(vs:Array Value):Prop:=∃oe,h.get? e=some oe/\oe.cls=C/\oe.dict=od/\oe.data=.fields vs/\vs[2]?=some .none
noncomputable def TrO(h:Heap)(e T:Addr)(vs:Array Value)(f:Value):Prop:=vs[1]?=some (.ref T)/\T≠e/\∃oT ts,h.get? T=some oT/\oT.data=.fields ts/\ts[3]?=some f
noncomputable def Air(L:Addr)(h:Heap)(e:Addr)(C:Value)(od:Option Addr):Option Addr->Prop
|none=>∃vs,ExO h e C od vs/\vs[1]?=some .none
|some T=>∃vs f,ExO h e C od vs/\TrO h e T vs f/\(f=.none\/f=rawInt L)
noncomputable def Held(f:Value)(h:Heap)(e T:Addr)(C:Value)(od:Option Addr):Prop:=∃vs,ExO h e C od vs/\TrO h e T vs f
structure Chg(fr rs:List Addr)(h h':Heap):Prop where
keep:∀b o,b∉fr->b∉rs->h.get? b=some o->h'.get? b=some o
slot:∀b o,b∉rs->h.get? b=some o->∃sl,h'.get? b=some { o with slots:=sl }
there:∀b o,h.get? b=some o->∃o',h'.get? b=some o'
theorem Chg.refl{fr rs:List Addr}{h:Heap}:Chg fr rs h h:=⟨λz z z z e=>e,λz o z e=>⟨o.slots,e⟩,λz o e=>⟨o,e⟩⟩
theorem Chg.trans{fr rs:List Addr}{h h1 h2:Heap}(x:Chg fr rs h h1)(y:Chg fr rs h1 h2):Chg fr rs h h2:=⟨λb o f r e=>y.keep b o f r (x.keep b o f r e),λb o r e=>let⟨_,e1⟩:=x.slot b o r e;let⟨sl,e2⟩:=y.slot b _ r e1;⟨sl,e2⟩,λb o e=>let⟨_,e1⟩:=x.there b o e;y.there b _ e1⟩
theorem Chg.fresh{fr rs rs':List Addr}{h h1 h2:Heap}(x:Chg fr rs h h1)(y:Chg fr rs' h1 h2)(n:∀b∈rs',b∈rs\/h.get? b=none):Chg fr rs h h2:=by
 have m:∀b o,b∉rs->h.get? b=some o->b∉rs':=λb o r e z=>(n b z).elim r λq=>by rw[q]at e;cases e
 exact⟨λb o f r e=>y.keep b o f (m b o r e) (x.keep b o f r e),λb o r e=>let⟨_,e1⟩:=x.slot b o r e;let⟨sl,e2⟩:=y.slot b _ (m b o r e) e1;⟨sl,e2⟩,λb o e=>let⟨_,e1⟩:=x.there b o e;y.there b _ e1⟩
theorem Chg.slots{fr rs:List Addr}{h h':Heap}(x:Heap.SlotsOnly fr h h'):Chg fr rs h h':=⟨λb o f z e=>(x.2.1 b f).trans e,λb o z e=>x.2.2 b o e,λb o e=>let⟨sl,q⟩:=x.2.2 b o e;⟨_,q⟩⟩
theorem Chg.upd{fr rs:List Addr}{h:Heap}{a:Addr}{f:Obj->Obj}(ha:a∈rs)(hf:∀o,h.get? a=some o->(f o).isFreed=false):Chg fr rs h (h.update a f):=by(
have k:∀b o,b∉rs->h.get? b=some o->(h.update a f).get? b=some o:=λb o r e=>by exact(mD h f (λ(q:a=b)=>r (q▸ha))).trans e
refine⟨λb o z r e=>k b o r e,λb o r e=>⟨o.slots,k b o r e⟩,λb o e=>?_⟩
by_cases q:b=a
.subst q;exact⟨_,d5 f e (hf o e)⟩
exact⟨o,by rw[mD h f (wD q)];exact e⟩)
theorem Chg.push{fr rs:List Addr}{h:Heap}{o:Obj}:Chg fr rs h (h.push o):=⟨λb u z z e=>kJ _ e,λb u z e=>⟨u.slots,kJ _ e⟩,λb u e=>⟨u,kJ _ e⟩⟩
theorem qEI(o:Obj)(f:Array Value->Array Value):(o.mapFields f).dict=o.dict:=by obtain⟨c,d,z,D⟩:=o;cases z<;>rfl
theorem ExO.set{h:Heap}{e:Addr}{C:Value}{od:Option Addr}{vs:Array Value}(x:ExO h e C od vs)(i:Nat)(v:Value)(hi:i≠2:=by decide):ExO (h.update e (Obj.mapFields (·.setIfInBounds i v))) e C od (vs.setIfInBounds i v):=by obtain⟨J,h1,h2,D,I,z⟩:=x;have d:=cU I (·.setIfInBounds i v);exact⟨_,d5 _ h1 (rU d),(Obj.cls_mapFields _ _).trans h2,(qEI _ _).trans D,d,(Array.getElem?_setIfInBounds_ne hi).trans z⟩
theorem ExO.of{h h':Heap}{e:Addr}{C:Value}{od:Option Addr}{vs:Array Value}(x:ExO h e C od vs)(k:∀o,h.get? e=some o->h'.get? e=some o):ExO h' e C od vs:=let⟨oe,h1,r⟩:=x;⟨oe,k _ h1,r⟩
section
variable{M:Model}{A:Around}{E:Value->Shared->Prop}{s:Shared}{env:Env}{outer:List Env}{L e T:Addr}{C:Value}{od:Option Addr}{base:Heap}
theorem ExO.nofr{h:Heap}{l:List Env}{vs:Array Value}(x:ExO h e C od vs)(hl:h.FunFrames base l):e∉l.filterMap (·.frame):=λhm=>by(
obtain⟨_,o,ho,hn⟩:=hl.mem hm
obtain⟨oe,h1,_,_,h4,_⟩:=x
rw[h1]at ho
cases ho
exact hn _ h4)
theorem qB0{head:Value}{hn:Bool}{vs:Array Value}{Q:Unit->Shared->Prop}(hfr:A.frames=some (env::outer))(hl:s.heap.FunFrames base (env::outer))(hf:env.frame=some L)(x:ExO s.heap e C od vs)
 (q:∀h' T,Chg ((env::outer).filterMap (·.frame)) [e] s.heap h'->Held (rawInt L) h' e T C od->s.heap.objs.size<=T->Q () { s with heap:=h' }):
 wpAny M A (do let a<-frameOf env;let pl<-entryPlaceOf L hn;let b<-EntryCells.newEntry head a .none (rawInt L) .none pl;setField (.ref e) 1 b) Q E s:=by(
have ne:=x.nofr hl
refine kD (wpAny_frameOf_fun hfr hl hf λh1 D=>kD (wpAny_entryPlaceOf λpl N=>?_))
unfold EntryCells.newEntry newFields
refine kD (x6 ?_ (N.sizeOk5 _ _ _ _ _))
have S:ExO h1 e C od vs:=x.of λo z=>(D.2.1 e ne).trans z
have J:=S.of (h':=h1.push _) λo z=>kJ { cls:=.type "traceback",dict:=none,data:=.fields ([head,.ref L,.none,rawInt L,.none]++(if pl.isEmpty then List.replicate 6 Value.none else pl)).toArray } z
obtain⟨oe,O,Z,a3,I,U⟩:=id J
refine lN O I (lt2 U) ?_
have d:e<h1.objs.size:=let⟨_,z,_⟩:=S;kX z
have fresh:s.heap.objs.size<=h1.objs.size:=c8 D.1.symm
refine q _ h1.objs.size (((Chg.slots D).trans Chg.push).trans (Chg.upd (kE.mpr rfl) λo z=>?_)) ⟨_,J.set 1 _,?_,rE d,{ cls:=.type "traceback",dict:=none,data:=.fields ([head,.ref L,.none,rawInt L,.none]++(if pl.isEmpty then List.replicate 6 Value.none else pl)).toArray },_,?_,rfl,?_⟩ fresh
.rw[O]at z;cases z;exact rU (cU I _)
.simp[lt2 U]
.rw[mD _ _ (mR d)];exact mP h1 rfl
first|(simp;done)|(rcases N with rfl|⟨_,_,_,_,_,_,_,rfl⟩<;>simp))
theorem qD7{tr:Option Addr}{Q:Unit->Shared->Prop}(hfr:A.frames=some (env::outer))(hl:s.heap.FunFrames base (env::outer))(hf:env.frame=some L)(x:Air L s.heap e C od tr)
 (q:∀h' T,Chg ((env::outer).filterMap (·.frame)) (e::tr.toList) s.heap h'->Held (rawInt L) h' e T C od->(T∈tr\/s.heap.objs.size<=T)->Q () { s with heap:=h' }):
 wpAny M A (noteFrame (.ref e) env) Q E s:=by(
unfold noteFrame
simp only[hf]
cases tr with
|none=>obtain⟨U,x,h1⟩:=x;obtain⟨oe,J,a2,a3,N,a5⟩:=id x;refine kD (sU J N h1 ?_);rw[kI (by decide)];exact qB0 hfr hl hf x λh' T c S n=>q h' T c S (.inr n)
|some T=>
 obtain⟨U,f,x,⟨Z,t2,oT,ts,d,D,I⟩,hfl⟩:=x;obtain⟨oe,J,a2,a3,N,a5⟩:=id x;refine kD (sU J N Z ?_);rw[kM (by simp)];refine kD (sU d D I ?_);rcases hfl with rfl|rfl
 .rw[kI (by simp[rawInt])];refine kD (lN d D (cG.mp I).1 ?_);have k:∀b o,b≠T->s.heap.get? b=some o->(s.heap.update T (Obj.mapFields (·.setIfInBounds 3 Value.none))).get? b=some o:=λb o n z=>(mD _ _ (wD n)).trans z;have O:(s.heap.update T (Obj.mapFields (·.setIfInBounds 3 Value.none))).FunFrames base (env::outer):=hl.of_keeps λb o z nf=>⟨o,k b o (λw=>by subst w;rw[d]at z;cases z;exact nf _ D) z,rfl⟩;refine qB0 (s:={ s with heap:=s.heap.update T (Obj.mapFields (·.setIfInBounds 3 Value.none)) }) hfr O hf (x.of λo z=>k e o (wD t2) z) λh' T' c S n=>q h' T' ?_ S ?_
  .refine(Chg.upd (a:=T) (by simp) λo z=>?_).fresh c λb hb=>.inl ?_
   .rw[d]at z;cases z;exact rU (cU D _)
   rw[kE.mp hb];exact kU
  exact .inr (mL (c8 (Heap.size_after_update ..).symm) n)
 rw[kM (by simp)];exact mE (q _ T .refl ⟨U,x,Z,t2,oT,ts,d,D,I⟩ (.inl rfl)))
theorem q0Z{f:Value}{fr:Option Addr}{Q:Unit->Shared->Prop}(x:Held f s.heap e T C od)
 (q:∀h',Chg [] [T] s.heap h'->Held (fr.elim .none λf=>rawInt f) h' e T C od->Q () { s with heap:=h' }):wpAny M A (setFlight (.ref e) fr) Q E s:=by(
obtain⟨vs,x,I,J,oT,ts,d,O,U⟩:=x
obtain⟨oe,Z,a2,a3,S,a5⟩:=id x
have N:=(cG.mp U).1
unfold setFlight
refine kD (sU Z S I ?_)
rw[kM (by simp)]
have D:=cU O (·.setIfInBounds 3 (fr.elim .none λf=>rawInt f))
refine lN d O N (q _ (Chg.upd (by simp) λo z=>?_) ⟨vs,x.of λo z=>?_,I,J,_,_,d5 _ d (rU D),D,by simp[N]⟩)
.rw[d]at z;cases z;exact rU D
exact(mD _ _ J).trans z)
theorem Held.air{f:Value}{h:Heap}(x:Held f h e T C od)(hf:f=.none\/f=rawInt L):Air L h e C od (some T):=let⟨vs,a,b⟩:=x;⟨vs,f,a,b,hf⟩
theorem qFL{tr:Option Addr}{Q:Unit->Shared->Prop}(hfr:A.frames=some (env::outer))(hl:s.heap.FunFrames base (env::outer))(hf:env.frame=some L)(x:Air L s.heap e C od tr)
 (q:∀h' T,Chg ((env::outer).filterMap (·.frame)) (e::tr.toList) s.heap h'->Held .none h' e T C od->(T∈tr\/s.heap.objs.size<=T)->Q () { s with heap:=h' }):wpAny M A (leaving env (.ref e)) Q E s:=by(
unfold leaving
refine kD (qD7 hfr hl hf x λh' T c I n=>q0Z I λh2 d D=>q h2 T ?_ D n)
refine c.fresh (rs':=[T]) ⟨λb o U r z=>d.keep b o (by simp) r z,d.slot,d.there⟩ λb J=>?_
rw[kE.mp J]
exact n.imp (λz=>hU _ (by cases tr with|none=>cases z|some t=>cases z;exact kE.mpr rfl)) cD)
end
end L2
namespace L2
open PySem PySem.Spec PyProof.Rows
section
variable{P:Program}{w:World}{H:Hp}{h h':Heap}{a:Addr}{o:HO}
theorem jL.there(x:jL P w H h a o):∃ob,h.get? a=some ob:=by(
cases o with
|lst xs=>obtain⟨_,_,_,_,e⟩:=x;exact⟨_,e⟩
|tup xs=>obtain⟨_,_,_,_,e,_⟩:=x;exact⟨_,e⟩
|dK kvs=>obtain⟨_,_,_,_,o,_,_,e,_⟩:=x;exact⟨_,e⟩
|dT kvs=>obtain⟨_,_,_,_,o,_,_,e,_⟩:=x;exact⟨_,e⟩
|set S n=>obtain⟨o,_,_,_,e,_⟩:=x;exact⟨_,e⟩
|ins C dx fs=>obtain⟨_,_,_,e,_⟩:=x;exact⟨_,e⟩
|own y=>exact x
|xd fs=>obtain⟨_,⟨_,_,_,e,_⟩,_⟩:=x;exact⟨_,e⟩
|rng d z=>obtain⟨_,_,_,e⟩:=x;exact⟨_,e⟩
|frz ob u=>exact⟨_,x.1⟩
|tbl ps=>exact⟨_,show h.get? a=some _ from x⟩
|met f y=>exact⟨_,show h.get? a=some _ from x⟩
|ext φ=>exact x.2.1)
theorem HOk.free(x:HOk P w H h)(e:h.get? a=none):H a=none:=by(
cases q:H a with
|none=>rfl
|some o=>obtain⟨_,z⟩:=(x a o q).there;rw[e]at z;cases z)
theorem HOk.chg{fr rs:List Addr}(x:HOk P w H h)(c:Chg fr rs h h')(hf:∀b∈fr,H b=none)(hr:∀b∈rs,H b=none):HOk P w H h':=by(
intro a o e
refine(x a o e).stay (λb u d z=>?_) (λU q=>q) λU U q=>q
have n:H b≠none:=by
 rcases d with rfl|q
 .rw[e];intro y;cases y
 rw[q];intro y;cases y
exact c.keep b u (λm=>n (hf b m)) (λm=>n (hr b m)) z)
end
noncomputable def Recs(h:Heap)(rs:List Addr):Prop:=∀b∈rs,∃o vs,h.get? b=some o/\o.data=.fields vs
theorem Air.recs{L e:Addr}{h:Heap}{C:Value}{od tr:Option Addr}(x:Air L h e C od tr):Recs h (e::tr.toList):=by(
intro b I
cases tr with
|none=>
 obtain⟨N,⟨J,D,_,_,z,_⟩,_⟩:=x;have d:b=e:=by simpa using I
 subst d;exact⟨_,_,D,z⟩
|some T=>
 obtain⟨N,f,⟨J,D,_,_,z,_⟩,⟨_,_,oT,ts,t3,t4,_⟩,_⟩:=x;have d:b=e\/b=T:=by simpa using I
 rcases d with rfl|rfl
 .exact⟨_,_,D,z⟩
 exact⟨_,_,t3,t4⟩)
noncomputable def Ours(X:Cx)(pins:List (Addr×Obj))(H:Hp)(rs:List Addr):Prop:=∀b∈rs,(X.s₀.heap.get? b=none\/b∈X.ex)/\H b=none/\∀p∈X.pn++pins,p.1≠b
section
variable{X:Cx}{pins:List (Addr×Obj)}{σ:St}{H:Hp}{s:Shared}{h':Heap}{rs:List Addr}
theorem Inv.chg{t':Nat}(I:Inv X pins σ H s)(c:Chg (frs X.stack) rs s.heap h')(o:Ours X pins H rs)(rc:Recs s.heap rs):Inv X pins σ H { s with heap:=h',toks:=t' }:=by(
obtain⟨m,hn,hv⟩:=I.loc
have nl:X.env.locals∉rs:=λz=>by obtain⟨D,vs,e,d⟩:=rc _ z;obtain⟨o',es,ep,N,O,_⟩:=hn;rw[e]at N;cases N;rw[d]at O;cases O
have nc:∀c v,s.heap.IsCell c v->c∉rs:=λc v q z=>by obtain⟨D,vs,e,d⟩:=rc _ z;obtain⟨o',N,O⟩:=q;rw[e]at N;cases N;rw[d]at O;cases O
have J:∀c v,s.heap.IsCell c v->h'.IsCell c v:=λa v q=>by have n:=nc a v q;obtain⟨o',N,O⟩:=q;obtain⟨sl,z⟩:=c.slot a o' n N;exact⟨_,z,O⟩
have S:∀b D,X.s₀.heap.get? b=some D->b∉X.ex->b∉rs:=λb D q ne z=>by
 rcases(o b z).1 with y|y
 .rw[q]at y;cases y
 exact ne y
have Z:h'.Ns X.env.locals m:=by obtain⟨o',es,ep,N,r⟩:=hn;obtain⟨sl,z⟩:=c.slot _ o' nl N;exact⟨_,es,ep,z,r⟩
refine⟨I.ok,I.os,I.bare,⟨λb D q n nf ne=>?_,λb D q n hf ne=>?_,I.base.free,λb D q ne=>?_,I.base.tups,I.base.frzs,I.base.tbls⟩,⟨m,Z,λi x v e1 e2 e3=>?_⟩,λx a e=>?_,I.free,I.freeC,λp hp=>?_,I.hok.chg c I.stkFree λb hb=>(o b hb).2.1,I.len⟩
.refine c.keep b D (λz=>?_) (S b D q ne) (I.base.keep b D q n nf ne);rcases kN.mp (I.stkSub b z)with rfl|y
 .exact absurd (kX q) (pL.mpr I.ok.above)
 exact nf y
.obtain⟨sl,z⟩:=I.base.slot b D q n hf ne;obtain⟨U,z'⟩:=c.slot b _ (S b D q ne) z;exact⟨U,z'⟩
.obtain⟨o',z⟩:=I.base.there b D q ne;exact c.there b o' z
.obtain⟨u,r,lk⟩:=hv i x v e1 e2 e3;refine⟨u,r,lk.imp id λ⟨k,cc,l,q⟩=>⟨k,cc,l,J _ _ q⟩⟩
.obtain⟨v,q⟩:=I.cell x a e;exact⟨v,J _ _ q⟩
obtain⟨p1,p2,p3,p4,p5⟩:=I.pin p hp
refine⟨c.keep _ _ (λz=>?_) (λz=>(o _ z).2.2 p hp rfl) p1,p2,p3,p4,p5⟩
rcases kN.mp (I.stkSub _ z)with y|y
.exact p3 y
exact p4 y)
end
noncomputable def CXe(P:Program)(w:World):CXT:=λouter H s E e s'=>∃ea T C od H',e=.ref ea/\s'.os=s.os/\AllBare s'.gens/\Un (frs outer) [] H H' s.heap s'.heap/\HOk P w H' s'.heap/\Held .none s'.heap ea T C od/\(s.heap.get? ea=none/\s.heap.get? T=none)/\(H' ea=none/\H' T=none)/\E C od H'
noncomputable def q0C(X:Cx)(ES:St->XK):Prop:=∀(pins:List (Addr×Obj)) (σ:St) (H:Hp) (s:Shared) (ea:Addr) (tr:Option Addr) (C:Value) (od:Option Addr),Inv X pins σ H s->Air X.env.locals s.heap ea C od tr->Ours X pins H (ea::tr.toList)->ES σ C od H->X.xe (.ref ea) s
noncomputable def qHR(CX:CXT)(X:Cx)(ES:St->XK):Prop:=∀(pins:List (Addr×Obj)) (σ:St) (H:Hp) (s:Shared) (e:Value) (s':Shared),Inv X pins σ H s->CX X.stack H s (ES σ) e s'->X.xe e s'
theorem q0C.passes{X:Cx}{ES:St->XK}(t:q0C X ES):qHR (CXe X.prog X.w) X ES:=by(
intro pins σ H s e s' I hZ
obtain⟨ea,T,C,od,H',e1,ho,hg,u,J,Z,⟨f1,f2⟩,⟨g1,g2⟩,q⟩:=hZ
subst e1
refine t pins σ H' s' ea (some T) C od (I.call' ho u J hg λb D=>by cases D) (Z.air (.inl rfl)) (λb D=>?_) q
have d:∀b,s.heap.get? b=none->H' b=none->(X.s₀.heap.get? b=none\/b∈X.ex)/\H' b=none/\∀p∈X.pn++pins,p.1≠b:=λb f g=>by
 refine⟨?_,g,λp S z=>?_⟩
 .by_cases y:b∈X.ex
  .exact .inr y
  refine .inl ?_;cases z:X.s₀.heap.get? b with
  |none=>rfl
  |some U=>obtain⟨o',N⟩:=I.base.there b U z y;rw[f]at N;cases N
 have y:=(I.pin p S).1;rw[z,f]at y;cases y
have O:b=ea\/b=T:=by simpa using D
rcases O with rfl|rfl
.exact d _ f1 g1
exact d _ f2 g2)
theorem qZ{P:Program}{w:World}{K:PySem.W.Frag}{mg:Str->Option Value}{base:Heap}{N:List Str}{qual:Str}{scope:Scope}{f:Addr}{cd:Value}{A:Around}{outer:List Env}{s:Shared}{H:Hp}{E:XK}:
 q0C (cxOf (CXe P w) P w K mg base N qual scope f cd A outer s H E) (λF=>E):=by(
intro pins σ H' s' ea tr C od I air d q
refine qFL (base:=base) I.ok.frames I.stack rfl air λh' T c Z n=>?_
have S:=I.chg (t':=s'.toks) c d air.recs
have J:∀b,s'.heap.objs.size<=b->s.heap.get? b=none:=λb z=>by
 cases y:s.heap.get? b with
 |none=>rfl
 |some U=>obtain⟨o',y'⟩:=I.base.there b U y (by intro m;cases m);exact absurd (kX y') (pL.mpr z)
have D:∀b,b∈ea::tr.toList->s.heap.get? b=none/\H' b=none:=λb O=>⟨(d b O).1.elim id (λz=>by cases z),(d b O).2.1⟩
have hT:s.heap.get? T=none/\H' T=none:=by
 rcases n with z|z
 .exact D T (hU _ (by cases tr with|none=>cases z|some t=>cases z;exact kE.mpr rfl))
 exact⟨J T z,I.hok.fresh z⟩
exact⟨ea,T,C,od,H',rfl,I.os,I.bare,S.base,S.hok,Z,⟨(D ea (kU)).1,hT.1⟩,⟨(D ea (kU)).2,hT.2⟩,q⟩)
noncomputable def qFM(sp:Sp)(dvs:List V)(ES:St->XK)(t:TA):TE:=λσ H Q=>t σ H λvs H1=>sp (vs++dvs) H1 Q (ES σ)
noncomputable def qFN(C:Addr)(m:Str)(sp:Sp)(dvs:List V)(ES:St->XK)(ta:TE)(t:TA):TE:=λσ H Q=>ta σ H λx H1=>∃a dx fs,x=.ref a/\H1 a=some (.ins C dx fs)/\fs.lookup m=none/\t σ H1 λvs H2=>sp (x::(vs++dvs)) H2 Q (ES σ)
noncomputable def qKV(C:Addr)(sp:Sp)(dvs:List V)(ES:St->XK)(t:TA):TE:=λσ H Q=>t σ H λvs H1=>∀x dx,H1 x=none->H1 dx=none->dx≠x->sp (.ref x::(vs++dvs)) (upd (upd H1 dx (.own x)) x (.ins C dx [])) (λv H2=>v=.non/\Q (.ref x) H2) (ES σ)
theorem uU{X:Cx}:q0C X (λz z z z=>False):=λz z z z z z z z z z z h=>h.elim
section
variable{X:Cx}{k:Nat}{f C:Addr}{fd:FuncData}{ps:List Str}{sp:Sp}{dvs:List V}{ds:List Value}{E:XK}{ES:St->XK}{x m:Str}{p pos apos:Pos}{e o:Expr}{es:List Expr}{ta:TE}{t:TA}
theorem q6M{pins:List (Addr×Obj)}{σ:St}{H:Hp}{s:Shared}{Q:VK}{us:List Value}{vs:List V}(F:FnOk X.prog X.w X.K X.mg X.base (CXe X.prog X.w) k f fd ps sp)(hr:Room k X.A)(hb:jQ X.K fd ps ds)(hd:Vals dvs ds)(tk:q0C X ES)
 (I:Inv X pins σ H s) (r:Vals vs us) (h:sp (vs++dvs) H Q (ES σ)):wpAny (model X.prog X.w) X.A (call (.ref f) us) (EP X pins σ Q) X.xe s:=by(
have r2:Vals (vs++dvs) (us++ds):=r.append hd
have hl:(us++ds).length=ps.length:=by rw[<-r2.length];exact F.len _ _ _ _ h
refine cF (cK (F.run X.A X.stack s H ⟨us,[]⟩ (us++ds) (vs++dvs) Q (ES σ) hr I.env0 (hb s us I.kIn hl) r2 h) λr s' d=>?_)
cases r with
|error e=>exact tk.passes pins σ H s e s' I d
|ok z=>
 cases z with
 |ret u=>exact I.after d
 |next=>exact False.elim d
 |brk=>exact False.elim d
 |cont=>exact False.elim d)
theorem zR(tk:q0C X ES)(F:FnOk X.prog X.w X.K X.mg X.base (CXe X.prog X.w) k f fd ps sp)(hr:Room k X.A)(hg:Gl X x)(hm:X.mg x=some (.ref f))(hk:PySem.W.keepIn X.K (.ref f)=true)(hb:jQ X.K fd ps ds)(hd:Vals dvs ds)
 (ha:PA X (e::es) t) (hdb:(x==("__debug__":Str))=false:=by decide) (he:starEach (e::es) X.env=(false,eval e X.env)::starEach es X.env:=by rfl) (hpl:(backTo pos (starEach es X.env)).any (·.1)=false:=by rfl):
 PE X (.Call (.Name x p) (e::es) [] pos) (qFM sp dvs ES t):=by(
intro pins s σ H Q I h
refine g5 (q08 I hg hm ?_ hdb)
refine d9 (h₀:=X.base) I.ok.mod.kin hk (thn (ha pos pins s σ H _ I h) λz J ⟨D,H1,d,r,q⟩=>⟨d.kIn,?_⟩) he hpl
exact q6M F hr hb hd tk d r q)
theorem jM{pl:Sem Bool}(tk:q0C X ES)(he:PE X o ta)(c:Cls X.K C)(hm:Meth X.K C m f)(F:FnOk X.prog X.w X.K X.mg X.base (CXe X.prog X.w) k f fd ps sp)(hr:Room k X.A)(hb:jQ X.K fd ps ds)(hd:Vals dvs ds)(ha:PA X (e::es) t)
 (hst:starEach (e::es) X.env=(false,eval e X.env)::starEach es X.env:=by rfl) (hpl:(backTo pos (starEach es X.env)).any (·.1)=false:=by rfl)
 (ht:eval (.Call (.Attribute o m apos) (e::es) [] pos) X.env=(do
  let ov<-eval o X.env
  standAt apos.atName
  let(f,first)<-holding [ov] (getMethod ov m pl)
  callWith pos f first (backTo pos (starEach (e::es) X.env)) (backToKw pos (keywordEach [] X.env))):=by rfl):
 PE X (.Call (.Attribute o m apos) (e::es) [] pos) (qFN C m sp dvs ES ta t):=by(
intro pins s σ H Q I h
refine rS (pl:=pl) (thn (he pins s σ H _ I h) λu O N=>?_) ht
obtain⟨x,H1,z,D,a,dx,fs,ex,ea,l,q⟩:=N
subst ex
obtain rfl:u=Value.ref a:=D
refine q1E z ea c hm l ?_
refine d9 (first:=[.ref a]) (h₀:=X.base) I.ok.mod.kin hm.kp (thn (ha pos pins O σ H1 _ z q) λus S ⟨vs,H2,d,r,J⟩=>⟨d.kIn,?_⟩) hst hpl
exact q6M (us:=.ref a::us) (vs:=.ref a::vs) F hr hb hd tk d (.cons rfl r) J)
theorem uV{pl:Sem Bool}(tk:q0C X ES)(he:PE X o ta)(c:Cls X.K C)(hm:Meth X.K C m f)(F:FnOk X.prog X.w X.K X.mg X.base (CXe X.prog X.w) k f fd ps sp)(hr:Room k X.A)(hb:jQ X.K fd ps ds)(hd:Vals dvs ds)
 (ht:eval (.Call (.Attribute o m apos) [] [] pos) X.env=(do
  let ov<-eval o X.env
  standAt apos.atName
  let(f,first)<-holding [ov] (getMethod ov m pl)
  callWith pos f first (backTo pos (starEach [] X.env)) (backToKw pos (keywordEach [] X.env))):=by rfl):
 PE X (.Call (.Attribute o m apos) [] [] pos) (qFN C m sp dvs ES ta tNil):=by(
intro pins s σ H Q I h
refine rS (pl:=pl) (thn (he pins s σ H _ I h) λu J D=>?_) ht
obtain⟨x,H1,d,z,a,dx,fs,ex,ea,l,q⟩:=D
subst ex
obtain rfl:u=Value.ref a:=z
refine q1E d ea c hm l ?_
exact p8 (first:=[.ref a]) d.kIn hm.kp (q6M (us:=[.ref a]) (vs:=[.ref a]) F hr hb hd tk d (.cons rfl .nil) q))
theorem qEJ{pins:List (Addr×Obj)}{σ:St}{H:Hp}{s:Shared}{Q:VK}{us:List Value}{vs:List V}(M:Mk X.K C f)(F:FnOk X.prog X.w X.K X.mg X.base (CXe X.prog X.w) k f fd ps sp)(hr:Room (k+1) X.A)(hb:jQ X.K fd ps ds)(hd:Vals dvs ds)
 (tk:q0C X ES) (I:Inv X pins σ H s) (r:Vals vs us)
 (h:∀x dx,H x=none->H dx=none->dx≠x->sp (.ref x::(vs++dvs)) (upd (upd H dx (.own x)) x (.ins C dx [])) (λv H2=>v=.non/\Q (.ref x) H2) (ES σ)):
 wpAny (model X.prog X.w) X.A (call (.ref C) us) (EP X pins σ Q) X.xe s:=by(
have D:=h (s.heap.objs.size+1) s.heap.objs.size (I.hok.fresh (dG _)) (I.hok.fresh (kO _)) (mR (d8 _))
have z:=Inv.made (C:=C) I
have r2:Vals (V.ref (s.heap.objs.size+1)::(vs++dvs)) (Value.ref (s.heap.objs.size+1)::(us++ds)):=.cons rfl (r.append hd)
have hl:(Value.ref (s.heap.objs.size+1)::us++ds).length=ps.length:=by have e:=r2.length;rw[F.len _ _ _ _ D]at e;exact e.symm
refine cF (qAV (f:=f) I.kIn M.makes M.init (d7.mp M.fn) (cK (F.run _ X.stack _ _ ⟨Value.ref (s.heap.objs.size+1)::us,[]⟩ (Value.ref (s.heap.objs.size+1)::(us++ds)) _ _ (ES σ) (hr.make C us [])
 (z.env0.make C us []) (hb _ (Value.ref (s.heap.objs.size+1)::us) z.kIn hl) r2 D) λr s' d=>?_))
cases r with
|error e=>exact tk.passes pins σ _ _ e s' z d
|ok O=>
 cases O with
 |ret u=>obtain⟨v,H',S,N,J,U⟩:=z.after d;subst J;exact⟨N,⟨V.ref (s.heap.objs.size+1),H',S,rfl,U⟩⟩
 |next=>exact False.elim d
 |brk=>exact False.elim d
 |cont=>exact False.elim d)
theorem qFO(tk:q0C X ES)(M:Mk X.K C f)(F:FnOk X.prog X.w X.K X.mg X.base (CXe X.prog X.w) k f fd ps sp)(hr:Room (k+1) X.A)(hg:Gl X x)(hm:X.mg x=some (.ref C))(hb:jQ X.K fd ps ds)(hd:Vals dvs ds)
 (ha:PA X (e::es) t) (hdb:(x==("__debug__":Str))=false:=by decide) (he:starEach (e::es) X.env=(false,eval e X.env)::starEach es X.env:=by rfl) (hpl:(backTo pos (starEach es X.env)).any (·.1)=false:=by rfl):
 PE X (.Call (.Name x p) (e::es) [] pos) (qKV C sp dvs ES t):=by(
intro pins s σ H Q I h
refine g5 (q08 I hg hm ?_ hdb)
refine d9 (h₀:=X.base) I.ok.mod.kin M.kp (thn (ha pos pins s σ H _ I h) λz J ⟨D,H1,d,r,q⟩=>⟨d.kIn,?_⟩) he hpl
exact qEJ M F hr hb hd tk d r q)
end
structure FunD(K:PySem.W.Frag)(x qual:Str)(st:Stmt)(dV:Value)(f:Addr)(fd:FuncData):Prop where
ex:∃(oc:Value) (od:Option Addr) (kV doc pm:Value) (an:Option Addr) (cdv ct:Value) (osl:Array (Option Value)),fd=PySem.W.fnOf x qual (yE st) (jV st) (qF st) dV kV doc pm an cdv ct/\K.lookup f=some ⟨oc,od,.func fd,osl⟩/\PySem.W.codeIn K cdv qual=true
section
variable{P:Program}{w:World}{K:PySem.W.Frag}{mg:Str->Option Value}{base:Heap}{dV:Value}
theorem FunD.mk'{x qual:Str}{st:Stmt}{f:Addr}{oc:Value}{od an:Option Addr}{osl:Array (Option Value)}{kV doc pm cdv ct:Value}(l:K.lookup f=some ⟨oc,od,.func (PySem.W.fnOf x qual (yE st) (jV st) (qF st) dV kV doc pm an cdv ct),osl⟩)
 (c:PySem.W.codeIn K cdv qual=true):FunD K x qual st dV f (PySem.W.fnOf x qual (yE st) (jV st) (qF st) dV kV doc pm an cdv ct):=⟨⟨oc,od,kV,doc,pm,an,cdv,ct,osl,rfl,l,c⟩⟩
theorem FunD.okE{x qual:Str}{st:Stmt}{f:Addr}{fd:FuncData}{N ps:List Str}{k:Nat}{sp:Sp}(F:FunD K x qual st dV f fd)(S:FnScope N ps (qF st))(len:∀vs H Q E,sp vs H Q E->vs.length=ps.length)
 (hbody:∀(cdv:Value) (A:Around) (outer:List Env) (s:Shared) (H:Hp) (vs:List V) (Q:VK) (E:XK),Room k (A.deeper (envOfC qual (qF st) s.heap.objs.size f cdv))->sp vs H Q E->∃t,PSs (cxOf (CXe P w) P w K mg base N qual (qF st) f cdv A outer s H E) (jV st) t/\t { nx:=λz H'=>Q .non H',rt:=Q } (q0A N vs) H):FnOk P w K mg base (CXe P w) (k+1) f fd ps sp:=by obtain⟨Z,od,kV,J,U,an,cdv,ct,I,rfl,O,d⟩:=F.ex;exact qD4 O d S len λA outer s H vs Q E D z=>hbody cdv A outer s H vs Q E D z
theorem FunD.ok0{x qual:Str}{st:Stmt}{f:Addr}{fd:FuncData}{N ps:List Str}{k:Nat}{sp:Sp}(F:FunD K x qual st dV f fd)(S:FnScope N ps (qF st))
 (hbody:∀(cdv:Value) (A:Around) (outer:List Env) (s:Shared) (H:Hp) (vs:List V) (Q:VK) (E:XK),Room k (A.deeper (envOfC qual (qF st) s.heap.objs.size f cdv))->sp vs H Q E->∃t,PSs (cxOf CX0 P w K mg base N qual (qF st) f cdv A outer s H E).nox (jV st) t/\t { nx:=λz H'=>Q .non H',rt:=Q } (q0A N vs) H)(len:∀vs H Q E,sp vs H Q E->vs.length=ps.length:=by intro _ _ _ _ h;first|(cases h;subst_vars;rfl)|((repeat obtain⟨_,h⟩:=h);all_goals subst_vars;rfl)):FnOk P w K mg base CX0 (k+1) f fd ps sp:=by(
obtain⟨Z,od,kV,J,U,an,cdv,ct,I,rfl,O,d⟩:=F.ex
refine qD4 O d S len λA outer s H vs Q E D z=>?_
obtain⟨t,h,q⟩:=hbody cdv A outer s H vs Q E D z
exact⟨t,h.nox,q⟩)
end
noncomputable abbrev bmVE:List Value:=[.type "ValueError",.type "Exception",.type "BaseException",.type "object"]
noncomputable abbrev XCls(K:PySem.W.Frag)(C:Addr):Prop:=PySem.W.excIn K C bmVE "ValueError.__new__"=true
set_option tactic.hygienic true in
theorem qHS{K:PySem.W.Frag}{C:Addr}(q:XCls K C):∃bm N nm qn bs hd sn sub ab col dd k0 k1 k2 k3 k5,K.lookup C=some (excClassObj nm qn C N bs bm hd sn sub ab col dd k0 k1 k2 k3 k5 "ValueError.__new__")/\PySem.W.tailIn K bmVE bm=true/\PySem.W.nsOkIn K N=true/\PySem.W.nsIn K N "__init__"=some none:=by(
unfold XCls PySem.W.excIn at q
split at q
.rename_i dd O J S;split at q
 .rename_i C' bm k0 k1 k2 k3 n k5 z d;obtain⟨nm,bs,D,ns,qn,hd,sn,sub,ab,col,Z⟩:=O;obtain⟨l⟩:=J;simp only[mU,d7,wF]at q z d;obtain⟨⟨⟨⟨⟨U,I⟩,e3⟩,e4⟩,e5⟩,e6⟩:=q;subst U I e3 z d;exact⟨bm,ns,nm,qn,bs,hd,sn,sub,ab,col,dd,k0,k1,k2,k3,k5,S,e4,e5,e6⟩
 cases q
cases q)
noncomputable def qKW(ES:St->XK)(C:Addr)(t:TA):TS:=λz σ H=>t σ H λvs H1=>vs.length<=sizeLine/\ES σ (.ref C) none H1
section
variable{X:Cx}{ES:St->XK}{C:Addr}{x:Str}{np cpos pos:Pos}{e:Expr}{es:List Expr}{t:TA}
theorem qFP{pins:List (Addr×Obj)}{σ:St}{H:Hp}{s:Shared}{h':Heap}{ea:Addr}{C:Value}{vs:List Value}(I:Inv X pins σ H s)(m:Heap.MadeExcOf s.heap h' ea C vs):
 Air X.env.locals h' ea C none none/\Ours X pins H [ea]:=by(
obtain⟨t,O,U,S⟩:=m.there
refine⟨⟨_,⟨_,O,rfl,rfl,rfl,by simp⟩,rfl⟩,λb D=>?_⟩
rw[kE.mp D]
refine⟨?_,I.hok.free m.new,λp J z=>?_⟩
.by_cases y:ea∈X.ex
 .exact .inr y
 refine .inl ?_;cases z:X.s₀.heap.get? ea with
 |none=>rfl
 |some N=>obtain⟨o',d⟩:=I.base.there ea N z y;rw[m.new]at d;cases d
have y:=(I.pin p J).1
rw[z,m.new]at y
cases y)
theorem q4O(tk:q0C X ES)(hc:X.calm=true)(hg:Gl X x)(hm:X.mg x=some (.ref C))(hx:XCls X.K C)(ha:PA X (e::es) t)(hdb:(x==("__debug__":Str))=false:=by decide)
 (he:starEach (e::es) X.env=(false,eval e X.env)::starEach es X.env:=by rfl) (hpl:(backTo cpos (starEach es X.env)).any (·.1)=false:=by rfl):
 PS X (.Raise (some (.Call (.Name x np) (e::es) [] cpos)) none pos) (qKW ES C t):=by(
intro pins s σ H D I hq
obtain⟨bm,N,nm,qn,bs,hd,sn,sub,ab,col,dd,k0,k1,k2,k3,k5,lk,tl,ok,ni⟩:=qHS hx
have S:=I.mod.kin
have T0:=PySem.W.tail_of_in S tl
have hN:X.base.Ns N (X.base.nsMap N):=.of_isNs (PySem.W.isNs_of_in S ok)
have aa:=PySem.W.nsMap_none_of_in S ok ni
have d:(backTo cpos (starEach (e::es) X.env)).any (·.1)=false:=by rw[he];show(false||(backTo cpos (starEach es X.env)).any (·.1))=false;rw[hpl];rfl
refine wpAny_Raise_call_subT (C:=C) (nm:=nm) (q:=qn) (N:=N) (bs:=bs) (bm:=bm) (hdct:=hd) (sn:=sn) (sub:=sub) (ab:=ab) (col:=col) (dd:=dd) (k0:=k0) (k1:=k1) (k2:=k2) (k3:=k3) (k5:=k5) (mN:=X.base.nsMap N)
 PySem.F.excBase_ValueError (T0.hasType (by decide)) (I.ok.hd hc) d aa (q08 I hg hm ⟨rfl,?_⟩ hdb)
have h0:=ha cpos pins s σ H _ I hq
rw[he]at h0 ⊢
refine PySem.Calls.evalArgs_plain (g4 h0 (λus s1 h1=>?_) λz z y=>y)
obtain⟨vs,H1,O,r,hz,hE⟩:=h1
refine⟨rfl,by rw[<-r.length];exact hz,O.bk _ _ (S _ _ lk),?_,T0.keeps O.bk,λh' ea m=>?_⟩
.obtain⟨o',Z,U,z,rr⟩:=hN;exact⟨o',Z,U,O.bk _ _ z,rr⟩
obtain⟨air,J⟩:=qFP O m
refine tk pins σ H1 { s1 with heap:=h' } ea none (.ref C) none (O.kept (t':=s1.toks) m.keeps) air J hE)
end
noncomputable abbrev Cx.tr(X:Cx)(pins:List (Addr×Obj))(XE:Value->Shared->Prop):Cx:={ X with pn:=X.pn++pins,xe:=XE }
noncomputable abbrev Cx.sui(X:Cx)(e:Addr):Cx:={ X with A:=X.A.mark (some (.ref e)),calm:=false,xe:=λz z=>False }
theorem Chg.mono{fr fr' rs rs':List Addr}{h h':Heap}(c:Chg fr rs h h')(f:∀b∈fr,b∈fr')(r:∀b∈rs,b∈rs'):Chg fr' rs' h h':=⟨λb o a z e=>c.keep b o (λy=>a (f b y)) (λy=>z (r b y)) e,λb o z e=>c.slot b o (λy=>z (r b y)) e,c.there⟩
theorem Held.recs{f:Value}{e T:Addr}{h:Heap}{C:Value}{od:Option Addr}(x:Held f h e T C od):Recs h [e,T]:=by(
obtain⟨N,⟨J,I,_,_,z,_⟩,_,_,oT,ts,t3,t4,_⟩:=x
intro b D
have d:b=e\/b=T:=by simpa using D
rcases d with rfl|rfl
.exact⟨_,_,I,z⟩
exact⟨_,_,t3,t4⟩)
section
variable{X:Cx}{pins:List (Addr×Obj)}{σ:St}{H:Hp}{s:Shared}{XE:Value->Shared->Prop}
theorem Inv.tr(I:Inv X pins σ H s)(XE:Value->Shared->Prop):Inv (X.tr pins XE) [] σ H s:=have ok:=I.ok
 ⟨⟨ok.mod,ok.kind,ok.glob,ok.blt,ok.above,ok.inj,ok.has,ok.cab,ok.hd,ok.frames,ok.stk,ok.exf,ok.bs,ok.bsz,ok.noex,ok.exfs,ok.funs,ok.frf⟩,I.os,I.bare,I.base,I.loc,I.cell,I.free,I.freeC,λp hp=>I.pin p (by simpa using hp),I.hok,I.len⟩
theorem Inv.untr{ps:List (Addr×Obj)}(I:Inv (X.tr pins XE) ps σ H s):Inv X pins σ H s:=have ok:=I.ok
 ⟨⟨ok.mod,ok.kind,ok.glob,ok.blt,ok.above,ok.inj,ok.has,ok.cab,ok.hd,ok.frames,ok.stk,ok.exf,ok.bs,ok.bsz,ok.noex,ok.exfs,ok.funs,ok.frf⟩,I.os,I.bare,I.base,I.loc,I.cell,I.free,I.freeC,λp hp=>I.pin p (gC _ hp),I.hok,I.len⟩
theorem Inv.sui(I:Inv X pins σ H s)(e:Addr):Inv (X.sui e) pins σ H s:=have ok:=I.ok
 ⟨⟨ok.mod,ok.kind,ok.glob,ok.blt,ok.above,ok.inj,ok.has,ok.cab,(λz=>by cases z),ok.frames,ok.stk,ok.exf,ok.bs,ok.bsz,ok.noex,ok.exfs,ok.funs,ok.frf⟩,I.os,I.bare,I.base,I.loc,I.cell,I.free,I.freeC,I.pin,I.hok,I.len⟩
theorem Inv.unsui{e:Addr}(hc:X.calm=true->X.A.handled=none)(I:Inv (X.sui e) pins σ H s):Inv X pins σ H s:=have ok:=I.ok
 ⟨⟨ok.mod,ok.kind,ok.glob,ok.blt,ok.above,ok.inj,ok.has,ok.cab,hc,ok.frames,ok.stk,ok.exf,ok.bs,ok.bsz,ok.noex,ok.exfs,ok.funs,ok.frf⟩,I.os,I.bare,I.base,I.loc,I.cell,I.free,I.freeC,I.pin,I.hok,I.len⟩
theorem SP.untr{D:Ends}{f:Flow}{s':Shared}(h:SP (X.tr pins XE) [] D f s'):SP X pins D f s':=by(
cases f with
|next=>obtain⟨d,H',I,q⟩:=h;exact⟨d,H',I.untr,q⟩
|brk=>obtain⟨d,H',I,q⟩:=h;exact⟨d,H',I.untr,q⟩
|cont=>obtain⟨d,H',I,q⟩:=h;exact⟨d,H',I.untr,q⟩
|ret u=>obtain⟨v,d,H',I,r,q⟩:=h;exact⟨v,d,H',I.untr,r,q⟩)
theorem SP.unsui{e:Addr}{D:Ends}{f:Flow}{s':Shared}(hc:X.calm=true->X.A.handled=none)(h:SP (X.sui e) pins D f s'):SP X pins D f s':=by(
cases f with
|next=>obtain⟨d,H',I,q⟩:=h;exact⟨d,H',I.unsui hc,q⟩
|brk=>obtain⟨d,H',I,q⟩:=h;exact⟨d,H',I.unsui hc,q⟩
|cont=>obtain⟨d,H',I,q⟩:=h;exact⟨d,H',I.unsui hc,q⟩
|ret u=>obtain⟨v,d,H',I,r,q⟩:=h;exact⟨v,d,H',I.unsui hc,r,q⟩)
end
noncomputable def qMB(ea:Addr)(C:Value)(od:Option Addr):Heap->Prop:=λh=>∃o vs,h.get? ea=some o/\o.cls=C/\o.dict=od/\o.data=.fields vs
noncomputable abbrev XO(ea:Addr)(C:Value)(od:Option Addr):HO:=.ext (qMB ea C od)
noncomputable abbrev TH:=Ends->St->Hp->Addr->Value->Option Addr->Prop
noncomputable def PHs(X:Cx)(hs:List ExceptHandler)(t:TH):Prop:=∀(pins:List (Addr×Obj)) (s:Shared) (σ:St) (H:Hp) (D:Ends) (ea T:Addr) (C:Value) (od:Option Addr),Inv X pins σ H s->Held .none s.heap ea T C od->Ours X pins H [ea,T]->t D σ H ea C od->wpAny (model X.prog X.w) X.A (handleBy (.ref ea) X.env hs) (SP X pins D) X.xe s
section
variable{X:Cx}{ES:St->XK}
theorem q7B(tk:q0C X ES)(hf:X.env.frame=some X.env.locals:=by rfl):PHs X [] (λF σ H F C od=>ES σ C od H):=by(
intro pins s σ H D ea T C od I J d q
refine wpAny_handleBy_nil ?_
unfold PySem.passOn
have rc:=J.recs
obtain⟨vs,x,O,t2,oT,ts,U,t4,t5⟩:=id J
obtain⟨oe,S,Z,a3,N,a5⟩:=id x
refine kD (sU S N O ?_)
rw[kI (by simp)]
refine kD (q0Z J λh' c z=>wpAny_throw ?_)
rw[hf]at z
exact tk pins σ H { s with heap:=h' } ea (some T) C od (I.chg (t':=s.toks) (rs:=[ea,T]) (c.mono (by simp) (by simp)) d rc) (z.air (.inr rfl)) d q)
theorem Inv.pinX{pins:List (Addr×Obj)}{σ:St}{H:Hp}{s:Shared}{ea T:Addr}{C:Value}{od:Option Addr}{f:Value}(I:Inv X pins σ H s)(hd:Held f s.heap ea T C od)(ours:Ours X pins H [ea,T]):
 ∃oe oT,Inv X (pins++[(ea,oe),(T,oT)]) σ H s/\∀h':Heap,h'.get? ea=some oe->h'.get? T=some oT->Held f h' ea T C od:=by(
have rc:=hd.recs
obtain⟨vs,⟨oe,S,a2,a3,N,a5⟩,t1,t2,oT,ts,t3,t4,t5⟩:=hd
refine⟨oe,oT,I.pins_of λp hp=>?_,λh' z1 z2=>⟨vs,⟨oe,z1,a2,a3,N,a5⟩,t1,t2,oT,ts,z2,t4,t5⟩⟩
have O:∀b o U,s.heap.get? b=some o->o.data=.fields U->b≠X.env.locals/\b∉X.fs:=λb o U e d=>by
 refine⟨λz=>?_,λz=>?_⟩
 .obtain⟨m,⟨o',es,ep,J,D,_⟩,_⟩:=I.loc;rw[<-z,e]at J;cases J;rw[d]at D;cases D
 obtain⟨_,o',J,Z⟩:=I.funs.mem z;rw[e]at J;cases J;exact Z _ d
rcases gJ.mp hp with z|z
.exact I.pin p (kY _ z)
have z:p=(ea,oe)\/p=(T,oT):=by simpa using z
rcases z with rfl|rfl
.exact⟨S,(ours ea (by simp)).2.1,(O _ _ _ S N).1,(O _ _ _ S N).2,λv q=>by rw[N]at q;cases q⟩
exact⟨t3,(ours T (by simp)).2.1,(O _ _ _ t3 t4).1,(O _ _ _ t3 t4).2,λv q=>by rw[t4]at q;cases q⟩)
theorem q62{ty:Expr}{c:V}{cv:Value}{pins:List (Addr×Obj)}{s:Shared}{σ:St}{H:Hp}{ea T:Addr}{C:Value}{od:Option Addr}{b:Bool}{R:Result->Shared->Prop}{pos:Pos}(hc:PE (X.sui ea) ty (tC c))(rc:RelV c cv)
 (I:Inv X pins σ H s) (hh:X.calm=true->X.A.handled=none) (hd:Held .none s.heap ea T C od) (ours:Ours X pins H [ea,T]) (hx:PySem.W.exmOne X.K C cv=some b) (q:∀s',Inv X pins σ H s'->Held .none s'.heap ea T C od->R (.ok (if b then .brk else .next)) s'):
 codeAny (model X.prog X.w) (X.A.mark (some (.ref ea))) (.handlers (.ref ea) [.ExceptHandler (some ty) none [] pos] X.env) R s:=by(
obtain⟨oe,oT,I1,J⟩:=I.pinX hd ours
refine codeAny_handlers_test (g4 (hc _ s σ H (λv H'=>v=c/\H'=H) (I1.sui ea) ⟨rfl,rfl⟩) (λu S h1=>?_) λF F z=>z.elim)
obtain⟨v,H',N,r,e1,Z⟩:=h1
subst e1 Z
have e3:u=cv:=by
 cases v with
 |non=>exact r.trans rc.symm
 |bl b=>exact r.trans rc.symm
 |ref a=>exact r.trans rc.symm
 |ty n=>exact r.trans rc.symm
 |int i=>obtain⟨t,e⟩:=r;obtain⟨O,d⟩:=rc;subst d;unfold PySem.W.exmOne at hx;split at hx<;>cases hx
 |str i=>obtain⟨t,e⟩:=r;obtain⟨O,d⟩:=rc;subst d;unfold PySem.W.exmOne at hx;split at hx<;>cases hx
 |byt i=>obtain⟨t,e⟩:=r;obtain⟨O,d⟩:=rc;subst d;unfold PySem.W.exmOne at hx;split at hx<;>cases hx
 |flt i=>obtain⟨t,e⟩:=r;obtain⟨O,d⟩:=rc;subst d;unfold PySem.W.exmOne at hx;split at hx<;>cases hx
subst e3
have p1:=(N.pin (ea,oe) (by simp)).1
have p2:=(N.pin (T,oT) (by simp)).1
have D:=J _ p1 p2
obtain⟨vs,⟨aa,z1,U,_⟩,_⟩:=id D
have LT:PySem.W.Looks (model X.prog X.w) S.heap (typeOf (.ref ea)) C:=by rw[<-U];exact(aK z1).andThen .now
have I3:Inv X pins σ H' S:=(Inv.unsui hh N).unpinned
exact(PySem.W.exm_one N.kIn LT hx).here (q S I3 D))
theorem q9X{ty:Expr}{c:V}{cv:Value}{b₀:Stmt}{suite:List Stmt}{pos:Pos}{rest:List ExceptHandler}{ts:TS}{tr:TH}(hc:∀ea,PE (X.sui ea) ty (tC c))(rc:RelV c cv)(hs:∀ea,PSs (X.sui ea) (b₀::suite) ts)(hr:PHs X rest tr):
 PHs X (.ExceptHandler (some ty) none (b₀::suite) pos::rest) (λD σ H ea C od=>∃b,PySem.W.exmOne X.K C cv=some b/\if b=true then ts D σ H else tr D σ H ea C od):=by(
intro pins s σ H D ea T C od I O d U
obtain⟨b,S,q⟩:=U
refine lW (q62 (hc ea) rc I I.ok.hd O d S λs' N J=>?_) (by intro z;cases z)
cases b with
|false=>rw[kI (by simp)]at q;exact hr pins s' σ H D ea T C od N J d q
|true=>rw[kM rfl]at q;refine codeAny_handlers_suite (q0Z J λh' c aa=>?_);have Z:=N.chg (t':=s'.toks) (rs:=[ea,T]) (c.mono (by simp) (by simp)) d J.recs;exact g4 (hs ea pins { s' with heap:=h' } σ H D (Z.sui ea) q) (λf s2 z=>z.unsui I.ok.hd) λF F z=>z.elim)
theorem Inv.track{pins:List (Addr×Obj)}{σ:St}{H:Hp}{s:Shared}{ea:Addr}{C:Value}{od:Option Addr}{o:Obj}{vs:Array Value}(I:Inv X pins σ H s)(e:s.heap.get? ea=some o)(e1:o.cls=C)(e2:o.dict=od)(e3:o.data=.fields vs)
 (ours:Ours X pins H [ea]):Inv X pins σ (upd H ea (XO ea C od)) s:=by(
have w:=ours ea (by simp)
have ne:∀b o',X.s₀.heap.get? b=some o'->b∉X.ex->b≠ea:=λb o' z n y=>by
 subst y;rcases w.1 with q|q
 .rw[z]at q;cases q
 exact n q
have d:∀b u,H b=some u->b≠ea:=λb u z y=>by rw[y,w.2.1]at z;cases z
have U:ea≠X.env.locals:=λz=>by obtain⟨m,⟨o',es,ep,J,D,_⟩,_⟩:=I.loc;rw[<-z,e]at J;cases J;rw[e3]at D;cases D
refine⟨I.ok,I.os,I.bare,⟨I.base.keep,I.base.slot,λb o' z n x=>?_,I.base.there,λb xs z=>?_,λb o' u z=>?_,λb ps z=>?_⟩,I.loc,I.cell,?_,λx c z=>?_,λp N=>?_,λa u z=>?_,I.len⟩
.rw[qD (ne b o' z x)];exact I.base.free b o' z n x
.have:=I.base.tups b xs z;rw[qD (d _ _ this)];exact this
.have:=I.base.frzs b o' u z;rw[qD (d _ _ this)];exact this
.obtain⟨more,this⟩:=I.base.tbls b ps z;exact⟨more,by rw[qD (d _ _ this)];exact this⟩
.rw[qD (wD U)];exact I.free
.have Z:c≠ea:=λy=>by obtain⟨v,o',J,O⟩:=I.cell x c z;rw[y,e]at J;cases J;rw[e3]at O;cases O
 rw[qD Z];exact I.freeC x c z
.obtain⟨p1,p2,p3,p4,p5⟩:=I.pin p N;exact⟨p1,by rw[qD (w.2.2 p N)];exact p2,p3,p4,p5⟩
by_cases y:a=ea
.subst y;rw[qI]at z;cases z;exact⟨⟨o,vs,e,e1,e2,e3⟩,⟨o,e⟩,λh1 h2 ⟨S,ws,f1,f2⟩ k=>⟨S,ws,k _ f1,f2⟩⟩
rw[qD y]at z
refine(I.hok a u z).stay (λF F F g=>g) (λb g=>?_) λb xs g=>?_
.rw[qD (d _ _ g)];exact g
rw[qD (d _ _ g)];exact g)
theorem Inv.goes{M:Model}{A:Around}{E:Value->Shared->Prop}{pins:List (Addr×Obj)}{σ:St}{H:Hp}{s:Shared}{i:Nat}{n:Str}{pos:Pos}{Q:Unit->Shared->Prop}(I:Inv X pins σ H s)(hN:X.N.Nodup)(hi:X.N[i]?=some n)
 (hk:X.env.kindOf n=some .local) (q:∀s',Inv X pins (σ.set i none) H s'->Q () s'):wpAny M A (do bindName X.env n .none;unbindBehindTheSuite X.env n pos) Q E s:=by(
obtain⟨m,hn,Z⟩:=I.loc
refine wpAny_nameGoes_keeps hk hn (by rw[I.ok.kind];rfl) λh' v J sb=>q _ ?_
have k:∀b o,b≠X.env.locals->s.heap.get? b=some o->h'.get? b=some o:=λb o z e=>(sb.2 b z).trans e
have cl:∀x c,X.env.cells.lookup x=some c->∀w,s.heap.IsCell c w->h'.IsCell c w:=λx c z w ⟨o,ho,hd⟩=>⟨o,k c o (I.cne x c z) ho,hd⟩
have d:∀b o,X.s₀.heap.get? b=some o->b≠X.env.locals:=λb o z y=>absurd (kX z) (pL.mpr (y▸I.ok.above))
refine⟨I.ok,I.os,I.bare,⟨λb o z a f x=>k b o (d b o z) (I.base.keep b o z a f x),λb o z a f x=>?_,I.base.free,λb o z x=>?_,I.base.tups,I.base.frzs,I.base.tbls⟩,⟨_,J,λj x v' S D e3=>?_⟩,λx c z=>?_,I.free,I.freeC,λp hp=>?_,λa u z=>?_,by rw[gM];exact I.len⟩
.obtain⟨sl,y⟩:=I.base.slot b o z a f x;exact⟨sl,k b _ (d b o z) y⟩
.obtain⟨o',y⟩:=I.base.there b o z x;exact⟨o',k b _ (d b o z) y⟩
.have ne:j≠i:=λy=>by
  subst y;rw[List.getElem?_set_self']at D;cases y:σ[j]? with
  |none=>rw[y]at D;cases D
  |some u=>rw[y]at D;cases D
 rw[wE (wD ne)]at D;have nx:x≠n:=λy=>by subst y;exact ne (q6V hN S hi)
 obtain⟨u,r,lk⟩:=Z j x v' S D e3;refine⟨u,r,?_⟩;rcases lk with⟨z1,z2⟩|⟨z1,c,z2,z3⟩
 .refine .inl ⟨z1,?_⟩;show(if x=n then v else m x)=some u;rw[kI nx];exact z2
 exact .inr ⟨z1,c,z2,cl x c z2 _ z3⟩
.obtain⟨w,y⟩:=I.cell x c z;exact⟨w,cl x c z _ y⟩
.obtain⟨p1,p2,O,U,p5⟩:=I.pin p hp;exact⟨k _ _ O p1,p2,O,U,p5⟩
refine(I.hok a u z).stay (λb u' hb g=>k b u' (λy=>?_) g) (λF g=>g) λF F g=>g
have f:=I.free
rw[<-y]at f
rcases hb with rfl|w
.rw[z]at f;cases f
rw[w]at f;cases f)
theorem qJI{ty:Expr}{c:V}{cv:Value}{n:Str}{i:Nat}{b₀:Stmt}{suite:List Stmt}{pos:Pos}{rest:List ExceptHandler}{ts:TS}{tr:TH}(hN:X.N.Nodup)(hi:X.N[i]?=some n)(hk:X.env.kindOf n=some .local)(hl:X.env.scope.names.lookup n=some .local)
 (hc:∀ea,PE (X.sui ea) ty (tC c)) (rc:RelV c cv) (hs:∀ea,PSs (X.sui ea) (b₀::suite) ts) (hr:PHs X rest tr):
 PHs X (.ExceptHandler (some ty) (some n) (b₀::suite) pos::rest) (λD σ H ea C od=>∃b,PySem.W.exmOne X.K C cv=some b/\if b=true then
  ts { nx:=λσ' H'=>D.nx (σ'.set i none) H',rt:=D.rt,bk:=λσ' H'=>D.bk (σ'.set i none) H',ct:=λσ' H'=>D.ct (σ'.set i none) H' } (σ.set i (some (.ref ea))) (upd H ea (XO ea C od))else tr D σ H ea C od):=by(
intro pins s σ H D ea T C od I hd d hZ
obtain⟨b,hx,q⟩:=hZ
refine lW (q62 (hc ea) rc I I.ok.hd hd d hx λs' I' S=>?_) (by intro z;cases z)
cases b with
|false=>rw[kI (by simp)]at q;exact hr pins s' σ H D ea T C od I' S d q
|true=>
 rw[kM rfl]at q;refine codeAny_handlers_suite_as (q0Z S λh' c Z=>?_);have I2:=I'.chg (t':=s'.toks) (rs:=[ea,T]) (c.mono (by simp) (by simp)) d S.recs;obtain⟨vs,⟨oe,a1,a2,a3,a4,_⟩,_⟩:=Z;have I3:=I2.track a1 a2 a3 a4 λb hb=>d b (by rw[kE.mp hb];simp);refine q4H (X:=X.sui ea) (v:=.ref ea) (I3.sui ea) hN hi (.inl hl) rfl (λs2 I4=>?_) (.inr hl);refine g4 (hs ea pins s2 _ _ _ I4 q) (λf s3 z=>?_) λF F z=>z.elim;have z:=z.unsui I.ok.hd;show wpAny _ _ _ _ _ _;cases f with
 |next=>obtain⟨σ',H',J,y⟩:=z;exact J.goes hN hi hk λU O=>⟨_,H',O,y⟩
 |brk=>obtain⟨σ',H',J,y⟩:=z;exact J.goes hN hi hk λU O=>⟨_,H',O,y⟩
 |cont=>obtain⟨σ',H',J,y⟩:=z;exact J.goes hN hi hk λU O=>⟨_,H',O,y⟩
 |ret u=>obtain⟨v,σ',H',J,r,y⟩:=z;exact J.goes hN hi hk λU O=>⟨v,_,H',O,r,y⟩)
noncomputable def tTry(tb:(St->XK)->TS)(th:TH):TS:=λD σ H=>tb (λσ' C od H'=>∀ea,H' ea=none->th D σ' H' ea C od) D σ H
theorem q7C{body:List Stmt}{h₀:ExceptHandler}{hs:List ExceptHandler}{pos:Pos}{tb:(St->XK)->TS}{th:TH}
 (hb:∀(pins:List (Addr×Obj)) (XE:Value->Shared->Prop) (ES:St->XK),q0C (X.tr pins XE) ES->PassesOwn (model X.prog X.w) X.A X.env XE->PSs (X.tr pins XE) body (tb ES)) (hh:PHs X (h₀::hs) th)
 (hfs:∃fr,X.stack=X.env::fr:=by exact⟨_,rfl⟩) (hf:X.env.frame=some X.env.locals:=by rfl):PS X (.Try body (h₀::hs) [] [] pos) (tTry tb th):=by(
intro pins s σ H D I q
refine wpAny_Try_except (g4 (hb pins (λe U=>wpAny (model X.prog X.w) X.A (noteFrame e X.env) (λF s2=>wpAny (model X.prog X.w) X.A (setFlight e none) (λF s3=>wpAny (model X.prog X.w) X.A (handleBy e X.env (h₀::hs)) (SP X pins D) X.xe s3) X.xe s2) X.xe U)
 (λS C od H'=>∀ea,H' ea=none->th D S H' ea C od) ?_ PassesOwn.looking [] s σ H D (I.tr _) q) (λf U z=>?_) λe U z=>z)
.intro J S H' s' ea tr C od O air d y;obtain⟨fr,ek⟩:=hfs;have N:X.A.frames=some (X.env::fr):=by rw[I.ok.frames,ek]
 have ff:s'.heap.FunFrames X.base (X.env::fr):=by rw[<-ek];exact O.stack
 refine qD7 N ff hf air λh' T c hd n=>?_;have en:frs X.stack=(X.env::fr).filterMap (·.frame):=by rw[ek];rfl
 have I2:Inv (X.tr pins _) J S H' { s' with heap:=h' }:=O.chg (t':=s'.toks) (by show Chg (frs X.stack) _ _ _;rw[en];exact c) d air.recs;have Z:Ours (X.tr pins λe U=>wpAny (model X.prog X.w) X.A (noteFrame e X.env) (λF s2=>wpAny (model X.prog X.w) X.A (setFlight e none) (λF s3=>wpAny (model X.prog X.w) X.A (handleBy e X.env (h₀::hs)) (SP X pins D) X.xe s3) X.xe s2) X.xe U) J H' [ea,T]:=by
  intro b hb;have hb:b=ea\/b=T:=by simpa using hb
  rcases hb with rfl|rfl
  .exact d b (by simp)
  rcases n with z|z
  .exact d b (hU _ (by cases tr with|none=>cases z|some t=>cases z;exact kE.mpr rfl))
  refine⟨?_,O.hok.fresh z,λp hp w=>?_⟩
  .by_cases y:b∈X.ex
   .exact .inr y
   refine .inl ?_;cases w:X.s₀.heap.get? b with
   |none=>rfl
   |some ob=>obtain⟨o',w'⟩:=O.base.there b ob w y;exact absurd (kX w') (pL.mpr z)
  have w':=(O.pin p hp).1;rw[w]at w';exact absurd (kX w') (pL.mpr z)
 refine q0Z hd λh2 c2 ad=>?_;have I3:=I2.chg (t':=s'.toks) (rs:=[ea,T]) (c2.mono (by simp) (by simp)) Z hd.recs;exact hh pins _ S H' D ea T C od I3.untr ad (λb hb=>⟨(Z b hb).1,(Z b hb).2.1,λp hp=>(Z b hb).2.2 p (gC _ hp)⟩) (y ea (d ea (by simp)).2.1)
have z:=z.untr
cases f with
|next=>obtain⟨S,H',O,y⟩:=z;exact qQ pins U S H' D O y
|_=>exact z)
end
noncomputable def NewX(ea:Addr)(C:Value)(od:Option Addr):Heap->Prop:=λh=>∃vs sl,h.get? ea=some ⟨C,od,.fields vs,sl⟩/\vs[2]?=some .none/\vs[1]?=some .none
noncomputable abbrev XN(ea:Addr)(C:Value)(od:Option Addr):HO:=.ext (NewX ea C od)
noncomputable def qJJ(X:Cx)(pins:List (Addr×Obj))(a:Addr):Prop:=(X.s₀.heap.get? a=none\/a∈X.ex)/\∀p∈X.pn++pins,p.1≠a
section
variable{X:Cx}{pins:List (Addr×Obj)}{σ:St}{H:Hp}{s:Shared}{a:Addr}
theorem Inv.young(I:Inv X pins σ H s)(e:s.heap.get? a=none):qJJ X pins a:=by(
refine⟨?_,λp D z=>?_⟩
.by_cases y:a∈X.ex
 .exact .inr y
 refine .inl ?_;cases z:X.s₀.heap.get? a with
 |none=>rfl
 |some J=>obtain⟨o',d⟩:=I.base.there a J z y;rw[e]at d;cases d
have y:=(I.pin p D).1
rw[z,e]at y
cases y)
theorem Inv.trackG{o:HO}(I:Inv X pins σ H s)(n:H a=none)(y:qJJ X pins a)(nl:a≠X.env.locals)(nc:∀x c,X.env.cells.lookup x=some c->c≠a)(new:jL X.prog X.w (upd H a o) s.heap a o):Inv X pins σ (upd H a o) s:=by(
have ne:∀b o',X.s₀.heap.get? b=some o'->b∉X.ex->b≠a:=λb o' z x q=>by
 subst q;rcases y.1 with w|w
 .rw[z]at w;cases w
 exact x w
have d:∀b u,H b=some u->b≠a:=λb u z q=>by rw[q,n]at z;cases z
refine⟨I.ok,I.os,I.bare,⟨I.base.keep,I.base.slot,λb o' z m x=>?_,I.base.there,λb xs z=>?_,λb o' u z=>?_,λb ps z=>?_⟩,I.loc,I.cell,?_,λx c z=>?_,λp D=>?_,λb u z=>?_,I.len⟩
.rw[qD (ne b o' z x)];exact I.base.free b o' z m x
.have w:=I.base.tups b xs z;rw[qD (d _ _ w)];exact w
.have w:=I.base.frzs b o' u z;rw[qD (d _ _ w)];exact w
.obtain⟨more,w⟩:=I.base.tbls b ps z;exact⟨more,by rw[qD (d _ _ w)];exact w⟩
.rw[qD (wD nl)];exact I.free
.rw[qD (nc x c z)];exact I.freeC x c z
.obtain⟨S,J,N,O,U⟩:=I.pin p D;exact⟨S,by rw[qD (y.2 p D)];exact J,N,O,U⟩
by_cases q:b=a
.subst q;rw[qI]at z;cases z;exact new
rw[qD q]at z
refine(I.hok b u z).stay (λZ Z Z g=>g) (λc g=>?_) λc xs g=>?_
.rw[qD (d _ _ g)];exact g
rw[qD (d _ _ g)];exact g)
end
noncomputable def qFQ:List Value->Bool
| .ref _::r=>qFQ r
|l=>l==bmVE
noncomputable def veIn(K:PySem.W.Frag)(C:Addr):Bool:=(PySem.W.clsIn K C).any (λcd=>qFQ cd.mro)
structure XAt(K:PySem.W.Frag)(C:Addr):Prop where
hd:PySem.W.hasDictIn K C=true
sa:PySem.W.findIn K (.ref C) "__setattr__"=some (some (.builtin "object.__setattr__"))
mro:veIn K C=true
structure XRd(K:PySem.W.Frag)(C:Addr):Prop where
ga:PySem.W.findIn K (.ref C) "__getattribute__"=some (some (.builtin "BaseException.__getattribute__"))
gn:PySem.W.findIn K (.ref C) "__getattr__"=some none
mb:PySem.W.mroIn K C (.type "BaseException")=some true
hd:PySem.W.hasDictIn K C=true
cls:PySem.W.findIn K (.ref C) "__class__"=some (some (.builtin "object.__class__"))
cget:PySem.W.specialIn K (.builtin "object.__class__") "__get__"=some (some (.builtin "getset_descriptor.__get__"))
ctk:PySem.W.takesIn K (.builtin "object.__class__")=some true
mo:PySem.W.mroIn K C (.type "object")=some true
noncomputable def XAny(H:Hp)(ea:Addr)(C:Value)(od:Option Addr):Prop:=H ea=some (XO ea C od)\/H ea=some (XN ea C od)
section
variable{X:Cx}{pins:List (Addr×Obj)}{σ:St}{H:Hp}{s:Shared}{ea C:Addr}{od:Option Addr}
theorem XAny.at{C:Value}(x:XAny H ea C od)(I:Inv X pins σ H s):∃o vs,s.heap.get? ea=some o/\o.cls=C/\o.dict=od/\o.data=.fields vs:=by(
rcases x with e|e
.exact(I.hok ea _ e).1
obtain⟨vs,d,z,_⟩:=(I.hok ea _ e).1
exact⟨_,vs,z,rfl,rfl,rfl⟩)
theorem qHT{A:Around}{E:Value->Shared->Prop}{K:PySem.W.Frag}{prog:Program}{w:World}{s:Shared}{x:Addr}{ox:Obj}{od:Option Obj}{name:Str}{tk:Tok}{fill b:Bool}{Q:Value->Shared->Prop}(X:K.In s.heap)(J:PySem.W.InstAt s.heap x ox C od)(c:XRd K C)
 (h:∀A',wpAny (model prog w) A' (Builtin.«object.__getattribute__» ⟨[.ref x,.str name tk],[]⟩) (λfin s'=>∃v,fin=.done (.ret v)/\PySem.W.handedIn v=true/\Q v s') (λz z=>False) s):wpAny (model prog w) A (getAttrBy (.ref x) (.str name tk) fill b) Q E s:=by(
obtain⟨I,g,d,t,os⟩:=s
have L0:=J.type (M:=model prog w)
have L1:=cE (M:=model prog w) X c.ga
have L2:=cE (M:=model prog w) X c.gn
have D:=PySem.F.excAttr_ValueError.ga
unfold getAttrBy
refine gU (kD (L0.at (kD (L1.at ?_))))
show wpAny _ _ (getAttrByItsOwn (.ref x) (.str name tk) (.ref C) (.builtin "BaseException.__getattribute__") fill b) _ _ _
unfold getAttrByItsOwn
refine kD ?_
show wpAny _ _ (typeLookup (.ref C) "__getattr__") _ _ _
refine L2.at ?_
refine kD (xD (gU ?_))
have Z:callGetattribute (.ref x) (.str name tk) (.builtin "BaseException.__getattribute__") b=boundAndCalled (.builtin "BaseException.__getattribute__") (.ref x) (.str name tk):=by unfold callGetattribute;rw[kI (by cases b<;>exact Bool.noConfusion)]
rw[Z]
unfold boundAndCalled
rw[D.bind (.ref x)]
refine kD (mE ?_)
refine cF (pQ D.plain PySem.F.entry_bexc_ga ?_)
have su:PySem.W.Looks (model prog w) I (isInstance (.ref x) (.type "BaseException")) true:=J.type.andThen (PySem.W.looks_mroIn X c.mb)
have U:builtinKind "BaseException.__getattribute__"=some .slot:=by decide+kernel
have N:splitId "BaseException.__getattribute__"=some ("BaseException","__getattribute__"):=by decide+kernel
refine @xL (model prog w) _ _ ⟨I,g,d,t,os⟩ "BaseException.__getattribute__" "BaseException" "__getattribute__" (.ref x) [.str name tk] [] _ U N su (PySem.F.args_bexc_ga (.ref x) (.str name tk)) ?_
refine g4 (h _) (λfin s' z=>?_) (λd d z=>z.elim)
obtain⟨v,rfl,O,S⟩:=z
exact PySem.W.handed_on O S)
end
noncomputable def clsV:V->Option Value
| .ref a=>some (.ref a)
| .ty n=>some (.type n)
|_=>none
theorem qFR{c:V}{cv u:Value}(h:clsV c=some cv)(r:RelV c u):u=cv:=by cases c<;>first|(cases h;exact r)|cases h
noncomputable def KndT(K:PySem.W.Frag)(H:Hp)(x:V)(t:Value):Prop:=TyOf K H x t\/∃ea C od,x=.ref ea/\t=.ref C/\XAny H ea (.ref C) od/\XRd K C/\(od=none\/∃dx fs,od=some dx/\H dx=some (.xd fs))
set_option tactic.hygienic true in
theorem qKX{K:PySem.W.Frag}{x D:Addr}{ox:Obj}{od:Option Obj}(c:XRd K D):PySem.W.KitX K (.ref x) (.ref D) (λh=>PySem.W.InstAt h x ox D od) where
ty:=λU U U I=>I.type
it:=λU U X U=>by
 obtain⟨cd,hc,_⟩:=pK c.hd;unfold PySem.W.clsIn at hc;split at hc
 .rename_i ho;intro A' Q' E' s' k q;unfold isType loadHead;exact kD (wpAny_loadPart (k _ _ (X _ _ ho)) (mE q))
 cases hc
ne:=λh tp dd its n sl X htp=>by
 obtain⟨cd,hc,_⟩:=pK c.hd;refine x8.mpr λq=>?_;have e:D=tp:=Value.ref.inj (d7.mp q);subst e;unfold PySem.W.clsIn at hc;split at hc
 .rename_i ho;have z:=(X _ _ ho).symm.trans htp;cases z
 cases hc
ca:=fun {prog w _ _ _ s} X I k=>by
 have hf:PySem.W.findObj K D od "__class__"=some (.bind (.builtin "getset_descriptor.__get__") (.builtin "object.__class__")):=by obtain⟨cd,hc,_⟩:=pK c.hd;unfold PySem.W.findObj;rw[hc,pM,c.cls,pM];dsimp only;rw[c.cget,pM];dsimp only;rw[c.ctk,pM]
 unfold getAttr? getAttrBy?;refine kD (wpAny_mkText (kD (xD (qHT (s:={ s with toks:=s.toks+1 }) X I c λA'=>?_))));have L0:=I.type (M:=model prog w);have L1:=PySem.W.looks_find (M:=model prog w) X I hf;obtain⟨hh,gg,d,t,os⟩:=s;refine kD (mE (kD (mE (kD (L0.at (kD (L1.at ?_)))))));show wpAny _ _ (holding [.builtin "object.__class__"] (call (.builtin "getset_descriptor.__get__") [.builtin "object.__class__",.ref x,.ref D]) >>= ret) _ _ _;exact kD (gU (cF (PySem.W.class_get (s:=⟨hh,gg,d,t+1,os⟩) (ox:=ox) (od:=od) X I c.mo (mE ⟨_,rfl,rfl,mE k⟩))))
theorem yO{X:Cx}:q20 X (.builtin "isinstance") (λxs H Q=>∃x c cv t b,xs=[x,c]/\clsV c=some cv/\KndT X.K H x t/\PySem.W.kitOne X.K t cv=some b/\Q (.bl b) H):=by(
intro pins s σ H xs us Q I r h
obtain⟨x,c,cv,t,b,rfl,hc,ty,e,q⟩:=h
obtain⟨u,w',rfl,Z,N⟩:=qF6 r
cases qFR hc N
rcases ty with ty|⟨ea,C,od,rfl,rfl,hx,ca,hd⟩
.exact qEB I Z ty e λtk=>⟨.bl b,H,I.tok tk,rfl,q⟩
obtain rfl:u=Value.ref ea:=Z
obtain⟨o,vs,U,S,e3,e4⟩:=hx.at I
have d:PySem.W.notCls o=true:=by rw[PySem.W.notCls,e4]
have J:∃D,PySem.W.InstAt s.heap ea o C D:=by
 rcases hd with rfl|⟨dx,fs,rfl,O⟩
 .exact⟨none,U,S,d,by rw[e3];exact True.intro⟩
 obtain⟨mA,n1,rl⟩:=I.hok dx _ O;obtain⟨D,g1,g2⟩:=q8Z n1;exact⟨some D,U,S,d,by rw[e3];exact g1⟩
obtain⟨D,J⟩:=J
exact g8 (qKX ca) I.kIn J e (λz=>nomatch z) λtk=>⟨.bl b,H,I.tok tk,rfl,q⟩)
structure BIni(K:PySem.W.Frag)(W:Addr):Prop where
rd:PySem.W.readsIn K W (.type "type")=true
fd:PySem.W.findCls K (.ref W) (.type "type") "__init__"=some (.val (.builtin "ValueError.__init__"))
ga:PySem.W.specialIn K (.ref W) "__getattribute__"=some (some (.builtin "type.__getattribute__"))
end L2
namespace L2
open PySem
structure Keep(F:List Addr)(H H':Hp):Prop where
k:∀b o,b∉F->H b=some o->H' b=some o
tp:∀b xs,H b=some (.tup xs)->H' b=some (.tup xs)
theorem Keep.refl{F:List Addr}{H:Hp}:Keep F H H:=⟨λz z z e=>e,λz z e=>e⟩
theorem Keep.trans{F:List Addr}{H H1 H2:Hp}(a:Keep F H H1)(b:Keep F H1 H2):Keep F H H2:=⟨λx o n e=>b.k x o n (a.k x o n e),λx xs e=>b.tp x xs (a.tp x xs e)⟩
theorem Keep.mono{F F':List Addr}{H H':Hp}(a:Keep F H H')(s:∀b∈F,b∈F'):Keep F' H H':=⟨λx o n e=>a.k x o (λm=>n (s x m)) e,a.tp⟩
theorem Keep.upd{F:List Addr}{H:Hp}{p:Addr}{o u:HO}(h:H p=some u)(nt:∀xs,u≠ .tup xs)(m:p∈F):Keep F H (upd H p o):=by(
refine⟨λb x n e=>?_,λb xs e=>?_⟩
.rw[qD (λ(z:b=p)=>n (z▸m))];exact e
rw[qD (jN e h (λz=>nt xs z.symm))];exact e)
theorem Keep.same{F:List Addr}{H H':Hp}(s:Same H H'):Keep F H H':=⟨λb o z e=>s b o e,λb xs e=>s b _ e⟩
theorem Keep.none{F:List Addr}{H H':Hp}(a:Keep F H H'){b:Addr}(n:b∉F)(e:H' b=Option.none):H b=Option.none:=by(
cases q:H b with
|none=>rfl
|some o=>rw[a.k b o n q]at e;cases e)
structure CM where
bl:Int
pg:Int
mo:Int
lim:List (Key×V)
bo:List V
cl:List Int
dc:List Int
br:List Bool
lf:Option Int
rc:List (Str×Int×Bool)
structure CA where
dx:Addr
li:Addr
bo:Addr
cl:Addr
dc:Addr
br:Addr
rc:Addr
noncomputable def lfV:Option Int->V
| .none=>.non
| .some i=>.int i
noncomputable def chF(a:CA)(m:CM):List (Str×V):=[("blocks",.int m.bl),("pages",.int m.pg),("most",.int m.mo),("limits",.ref a.li),("borne",.ref a.bo),("clearings",.ref a.cl),("deed_counts",.ref a.dc),("broken",.ref a.br),("deeds_left",lfV m.lf),("record",.ref a.rc)]
noncomputable def trip(H:Hp)(v:V)(d:Str×Int×Bool):Prop:=∃p,v=.ref p/\H p=some (.tup [.str d.1,.int d.2.1,.bl d.2.2])
noncomputable abbrev Recd(H:Hp):List V->List (Str×Int×Bool)->Prop:=Paired (trip H)
theorem Recd.keep{F:List Addr}{H H':Hp}(k:Keep F H H'){rs:List V}{ds:List (Str×Int×Bool)}(r:Recd H rs ds):Recd H' rs ds:=Paired.mapP r λv d ⟨p,e,h⟩=>⟨p,e,k.tp _ _ h⟩
theorem _root_.PySem.Paired.len{α β:Type}{F:α->β->Prop}:∀{l₁:List α} {l₂:List β},Paired F l₁ l₂->l₁.length=l₂.length
|_,_,.nil=>rfl
|_,_,.cons _ t=>rL (· + 1) t.len
theorem Paired.snoc{α β:Type}{F:α->β->Prop}:∀{l₁:List α} {l₂:List β} {a:α} {b:β},Paired F l₁ l₂->F a b->Paired F (l₁++[a]) (l₂++[b])
|_,_,_,_,.nil,h=>.cons h .nil
|_,_,_,_,.cons r t,h=>.cons r (Paired.snoc t h)
noncomputable def foot(c:Addr)(a:CA):List Addr:=[c,a.bo,a.cl,a.dc,a.br,a.rc]
structure ChipAt(C:Addr)(H:Hp)(c:Addr)(a:CA)(m:CM):Prop where
ins:H c=some (.ins C a.dx (chF a m))
li:H a.li=some (.dK m.lim)
bo:H a.bo=some (.lst m.bo)
cl:H a.cl=some (.lst (m.cl.map V.int))
dc:H a.dc=some (.lst (m.dc.map V.int))
br:H a.br=some (.lst (m.br.map V.bl))
rc:∃rs,H a.rc=some (.lst rs)/\Recd H rs m.rc
nd:[a.bo,a.cl,a.dc,a.br,a.rc].Nodup
structure CM.Ok(m:CM):Prop where
bl1:2<=m.bl
bl2:m.bl<=16
pg1:1<=m.pg
pg2:m.pg<=16
nbo:(m.bo.length:Int)=m.bl*m.pg
ncl:(m.cl.length:Int)=m.bl
ndc:(m.dc.length:Int)=m.bl
nbr:(m.br.length:Int)=m.bl
lim:∀b v,valV m.lim (Sum.inl b)=some v->∃n,v=.int n
nrc:m.rc.length<=1000000
section
variable{C c:Addr}{a:CA}{m:CM}{H H':Hp}
theorem ChipAt.ne(h:ChipAt C H c a m):c≠a.bo/\c≠a.cl/\c≠a.dc/\c≠a.br/\c≠a.rc:=by obtain⟨rs,e,_⟩:=h.rc;exact⟨jN h.ins h.bo (by intro z;cases z),jN h.ins h.cl (by intro z;cases z),jN h.ins h.dc (by intro z;cases z),jN h.ins h.br (by intro z;cases z),jN h.ins e (by intro z;cases z)⟩
theorem ChipAt.nel(h:ChipAt C H c a m):a.li≠c/\a.li≠a.bo/\a.li≠a.cl/\a.li≠a.dc/\a.li≠a.br/\a.li≠a.rc:=by obtain⟨rs,e,_⟩:=h.rc;exact⟨jN h.li h.ins (by intro z;cases z),jN h.li h.bo (by intro z;cases z),jN h.li h.cl (by intro z;cases z),jN h.li h.dc (by intro z;cases z),jN h.li h.br (by intro z;cases z),jN h.li e (by intro z;cases z)⟩
theorem ChipAt.dst(h:ChipAt C H c a m):(a.bo≠a.cl/\a.bo≠a.dc/\a.bo≠a.br/\a.bo≠a.rc)/\(a.cl≠a.dc/\a.cl≠a.br/\a.cl≠a.rc)/\(a.dc≠a.br/\a.dc≠a.rc)/\a.br≠a.rc:=by(
have:=h.nd
simp only[m8,kN,dB,not_or,cQ]at this
obtain⟨⟨d,D,I,z⟩,⟨b1,b2,b3⟩,⟨c1,c2⟩,d1,_⟩:=this
exact⟨⟨d,D,I,z⟩,⟨b1,b2,b3⟩,⟨c1,c2⟩,d1⟩)
theorem ChipAt.keep{F:List Addr}(h:ChipAt C H c a m)(k:Keep F H H')(n:∀b∈a.li::foot c a,b∉F):ChipAt C H' c a m:=by obtain⟨rs,e,r⟩:=h.rc;exact⟨k.k _ _ (n _ (by simp[foot])) h.ins,k.k _ _ (n _ (by simp)) h.li,k.k _ _ (n _ (by simp[foot])) h.bo,k.k _ _ (n _ (by simp[foot])) h.cl,k.k _ _ (n _ (by simp[foot])) h.dc,k.k _ _ (n _ (by simp[foot])) h.br,⟨rs,k.k _ _ (n _ (by simp[foot])) e,r.keep k⟩,h.nd⟩
theorem ChipAt.same(h:ChipAt C H c a m)(s:Same H H'):ChipAt C H' c a m:=h.keep (F:=[]) (Keep.same s) (by simp)
theorem ChipAt.setLf(h:ChipAt C H c a m)(v:Option Int):ChipAt C (upd H c (.ins C a.dx (chF a { m with lf:=v }))) c a { m with lf:=v }:=by(
obtain⟨I,D,N,d,J⟩:=h.ne
obtain⟨O,_⟩:=h.nel
obtain⟨rs,e,r⟩:=h.rc
have k:Keep [c] H (upd H c (.ins C a.dx (chF a { m with lf:=v }))):=Keep.upd h.ins (λU z=>by cases z) (by simp)
exact⟨qI,by rw[qD O];exact h.li,by rw[qD I.symm];exact h.bo,by rw[qD D.symm];exact h.cl,by rw[qD N.symm];exact h.dc,by rw[qD d.symm];exact h.br,⟨rs,by rw[qD J.symm];exact e,r.keep k⟩,h.nd⟩)
theorem ChipAt.setBo(h:ChipAt C H c a m)(v:List V):ChipAt C (upd H a.bo (.lst v)) c a { m with bo:=v }:=by(
obtain⟨I,n2,n3,n4,n5⟩:=h.ne
obtain⟨Z,O,l2,l3,S,U⟩:=h.nel
obtain⟨⟨N,D,J,d⟩,⟨b1,b2,b3⟩,⟨c1,c2⟩,d1⟩:=h.dst
obtain⟨rs,e,r⟩:=h.rc
have k:Keep [a.bo] H (upd H a.bo (.lst v)):=Keep.upd h.bo (λF z=>by cases z) (by simp)
exact⟨by rw[qD I];exact h.ins,by rw[qD O];exact h.li,qI,by rw[qD N.symm];exact h.cl,by rw[qD D.symm];exact h.dc,by rw[qD J.symm];exact h.br,⟨rs,by rw[qD d.symm];exact e,r.keep k⟩,h.nd⟩)
theorem ChipAt.setCl(h:ChipAt C H c a m)(v:List Int):ChipAt C (upd H a.cl (.lst (v.map V.int))) c a { m with cl:=v }:=by(
obtain⟨n1,D,n3,Z,n5⟩:=h.ne
obtain⟨U,l1,d,l3,N,O⟩:=h.nel
obtain⟨⟨I,S,a3,J⟩,⟨b1,b2,b3⟩,⟨c1,c2⟩,d1⟩:=h.dst
obtain⟨rs,e,r⟩:=h.rc
have k:Keep [a.cl] H (upd H a.cl (.lst (v.map V.int))):=Keep.upd h.cl (λF z=>by cases z) (by simp)
exact⟨by rw[qD D];exact h.ins,by rw[qD d];exact h.li,by rw[qD I];exact h.bo,qI,by rw[qD b1.symm];exact h.dc,by rw[qD b2.symm];exact h.br,⟨rs,by rw[qD b3.symm];exact e,r.keep k⟩,h.nd⟩)
theorem ChipAt.setDc(h:ChipAt C H c a m)(v:List Int):ChipAt C (upd H a.dc (.lst (v.map V.int))) c a { m with dc:=v }:=by(
obtain⟨n1,n2,D,Z,n5⟩:=h.ne
obtain⟨S,l1,U,I,N,O⟩:=h.nel
obtain⟨⟨a1,d,a3,J⟩,⟨b1,b2,b3⟩,⟨c1,c2⟩,d1⟩:=h.dst
obtain⟨rs,e,r⟩:=h.rc
have k:Keep [a.dc] H (upd H a.dc (.lst (v.map V.int))):=Keep.upd h.dc (λF z=>by cases z) (by simp)
exact⟨by rw[qD D];exact h.ins,by rw[qD I];exact h.li,by rw[qD d];exact h.bo,by rw[qD b1];exact h.cl,qI,by rw[qD c1.symm];exact h.br,⟨rs,by rw[qD c2.symm];exact e,r.keep k⟩,h.nd⟩)
theorem ChipAt.addRc{p:Addr}{rs:List V}{d:Str×Int×Bool}(h:ChipAt C H c a m)(e:H a.rc=some (.lst rs))(hp:H p=some (.tup [.str d.1,.int d.2.1,.bl d.2.2])):ChipAt C (upd H a.rc (.lst (rs++[.ref p]))) c a { m with rc:=m.rc++[d] }:=by(
obtain⟨n1,n2,n3,n4,N⟩:=h.ne
obtain⟨Z,l1,l2,l3,S,J⟩:=h.nel
obtain⟨⟨a1,U,a3,I⟩,⟨b1,b2,b3⟩,⟨c1,c2⟩,d1⟩:=h.dst
obtain⟨O,D,r⟩:=h.rc
rw[e]at D
cases D
have k:Keep [a.rc] H (upd H a.rc (.lst (rs++[.ref p]))):=Keep.upd e (λF z=>by cases z) (by simp)
exact⟨by rw[qD N];exact h.ins,by rw[qD J];exact h.li,by rw[qD I];exact h.bo,by rw[qD b3];exact h.cl,by rw[qD c2];exact h.dc,by rw[qD d1];exact h.br,⟨_,qI,Paired.snoc (r.keep k) ⟨p,rfl,k.tp _ _ hp⟩⟩,h.nd⟩)
end
noncomputable def CM.deed(m:CM)(w:Str)(pl b:Int)(f:Bool):CM:={ m with lf:=m.lf.map (· - 1),dc:=m.dc.set b.toNat (m.dc.getD b.toNat 0+1),rc:=m.rc++[(w,pl,!f)],br:=if f then m.br.set b.toNat true else m.br }
noncomputable def clr(xs:List V)(i n:Nat):List V:=match n with
|0=>xs
|n+1=>(clr xs i n).set (i+n) .non
noncomputable def CM.new(bl pg mo:Int)(lim:List (Key×V)):CM:=⟨bl,pg,mo,lim,List.replicate (bl*pg).toNat .non,List.replicate bl.toNat 0,List.replicate bl.toNat 0,List.replicate bl.toNat false,none,[]⟩
theorem qHU{x:V}{lo hi:Int}(h:inB x lo hi=true):∃p,x=.int p/\lo<=p/\p<=hi:=by(
cases x with
|int p=>have h:(decide (lo<=p)&&decide (p<=hi))=true:=h;rw[mU]at h;exact⟨p,rfl,mI h.1,mI h.2⟩
|_=>cases h)
theorem qKY{m:CM}{p:Int}(ok:m.Ok)(p0:0<=p)(p1:p<=m.bl*m.pg-1):0<=p / m.pg/\p / m.pg<m.bl:=by have:=ok.pg1;exact⟨Int.ediv_nonneg p0 (by lia),Int.ediv_lt_of_lt_mul (by lia) (by lia)⟩
theorem lf0{m:CM}:decide (lfV m.lf=V.int 0)=decide (m.lf=some 0):=by(
cases e:m.lf with
|none=>rfl
|some i=>
 show decide (V.int i=V.int 0)=_;by_cases z:i=0
 .subst z;rfl
 rw[hX (λq=>z (by injection q)),hX (λq=>z (by injection q))])
theorem qHV{m:CM}:scal (lfV m.lf) (.int 0)=true:=by cases m.lf<;>rfl
theorem getB{m:CM}{b:Int}(h0:0<=b)(h:b<(m.br.length:Int)):atI (m.br.map V.bl) b=some (.bl (m.br.getD b.toNat false)):=by(
obtain⟨j,rfl⟩:=wM h0
refine zJ ?_
have d:j<m.br.length:=by lia
simp[d])
theorem getI{xs:List Int}{b:Int}(h0:0<=b)(h:b<(xs.length:Int)):atI (xs.map V.int) b=some (.int (xs.getD b.toNat 0)):=by(
obtain⟨j,rfl⟩:=wM h0
refine zJ ?_
have d:j<xs.length:=by lia
simp[d])
theorem getV{xs:List V}{b:Int}(h0:0<=b)(h:b<(xs.length:Int)):atI xs b=some (xs.getD b.toNat .non):=by(
obtain⟨j,rfl⟩:=wM h0
refine zJ ?_
have d:j<xs.length:=by lia
simp[d])
theorem ixOk{n:Nat}{b:Int}(h0:0<=b)(h:b<(n:Int)):ixN n b=some b.toNat:=by unfold ixN;rw[kM h0,kM h]
theorem CM.Ok.deed{m:CM}(ok:m.Ok){w:Str}{pl b:Int}{f:Bool}(h:m.rc.length<1000000):(m.deed w pl b f).Ok:=by(
refine⟨ok.bl1,ok.bl2,ok.pg1,ok.pg2,ok.nbo,ok.ncl,?_,?_,ok.lim,?_⟩
.show((m.dc.set _ _).length:Int)=m.bl;rw[gM];exact ok.ndc
.show(((if f then m.br.set b.toNat true else m.br)).length:Int)=m.bl;cases f with
 |true=>rw[kM rfl,gM];exact ok.nbr
 |false=>exact ok.nbr
show(m.rc++[_]).length<=1000000
rw[mH,gK]
lia)
noncomputable def qHW:Sp:=λvs H Q z=>∃x y,vs=[x,y]/\Knd H x/\Knd H y/\Q (.bl (inB x 2 16&&inB y 1 16)) H
theorem Paired.at{α β:Type}{F:α->β->Prop}:∀{l₁:List α} {l₂:List β} {i:Nat} {a:α},Paired F l₁ l₂->l₁[i]?=some a->∃b,l₂[i]?=some b/\F a b
|_,_,0,_,.cons r _,e=>by simp at e;subst e;exact⟨_,rfl,r⟩
|_,_,i+1,_,.cons _ t,e=>by have e2:=nG.symm.trans e;obtain⟨b,h1,h2⟩:=Paired.at t e2;exact⟨b,nG.trans h1,h2⟩
|_,_,_,_,.nil,e=>by simp at e
theorem q6N(xs:List V)(i:Nat):∀n,(clr xs i n).length=xs.length
|0=>rfl
|n+1=>by show((clr xs i n).set (i+n) .non).length=xs.length;rw[gM,q6N xs i n]
theorem qFS{bl pg mo:Int}{lim:List (Key×V)}(b1:2<=bl)(b2:bl<=16)(p1:1<=pg)(p2:pg<=16)(hl:∀b v,valV lim (Sum.inl b)=some v->∃n,v=V.int n):(CM.new bl pg mo lim).Ok:=by(
have h:0<=bl*pg:=lO (by lia) (by lia)
refine⟨b1,b2,p1,p2,?_,?_,?_,?_,hl,by show 0<=1000000;decide⟩
.show((List.replicate (bl*pg).toNat V.non).length:Int)=bl*pg;rw[gP];lia
.show((List.replicate bl.toNat (0:Int)).length:Int)=bl;rw[gP];lia
.show((List.replicate bl.toNat (0:Int)).length:Int)=bl;rw[gP];lia
show((List.replicate bl.toNat false).length:Int)=bl
rw[gP]
lia)
noncomputable def Up(x:Addr)(H H':Hp):Prop:=∀b o,b≠x->H b=some o->H' b=some o
section
variable{x C dx:Addr}{fs:List (Str×V)}{H H':Hp}
theorem Up.of{o:HO}(s:Same H H'):Up x H (upd H' x o):=λb u n e=>by rw[qD n];exact s b u e
theorem Up.free(u:Up x H H'){b:Addr}(n:b≠x)(e:H' b=none):H b=none:=by(
cases q:H b with
|none=>rfl
|some o=>rw[u b o n q]at e;cases e)
end
end L2
namespace L2
open PySem PySem.Spec PyProof.Rows
noncomputable def tMid(t u:TS):TS:=λD σ H=>∃M:St->Hp->Prop,t { D with nx:=M } σ H/\∀σ' H',M σ' H'->u D σ' H'
noncomputable def qMC(t:TT):TT:=λσ H Q=>∃M:Bool->Hp->Prop,t σ H M/\∀b H',M b H'->Q b H'
noncomputable def qMD(t:TE):TE:=λσ H Q=>∃M:VK,t σ H M/\∀v H',M v H'->Q v H'
section
variable{X:Cx}{st:Stmt}{rest:List Stmt}{t u:TS}{e:Expr}{te:TE}{tt:TT}
theorem vS(h1:PS X st t)(h2:PSs X rest u):PSs X (st::rest) (tMid t u):=by(
intro pins s σ H D I O
obtain⟨M,a,b⟩:=O
refine kD (thn (h1 pins s σ H _ I a) λf N z=>?_)
cases f with
|next=>obtain⟨d,H',J,q⟩:=z;exact h2 pins N d H' D J (b d H' q)
|brk=>exact mE z
|cont=>exact mE z
|ret v=>exact mE z)
theorem qCE(h:PT X e tt):PT X e (qMC tt):=λpins s σ H Q I ⟨M,a,b⟩=>thn (h pins s σ H M I a) λc s1 ⟨H',I',q⟩=>⟨H',I',b c H' q⟩
theorem qFT(h:PE X e te):PE X e (qMD te):=λpins s σ H Q I ⟨M,a,b⟩=>thn (h pins s σ H M I a) λc s1 ⟨v,H',I',r,q⟩=>⟨v,H',I',r,b v H' q⟩
end
theorem q2C{a b:Int}:decide (V.int a=V.int b)=decide (a=b):=by(
by_cases e:a=b
.subst e;simp
rw[hX e,hX (λz=>e (by injection z))])
theorem vZ(x n:Int)(h:0<n):0<=x%n/\x%n<n:=⟨aU _ (by lia),xM _ h⟩
section
variable{X:Cx}{pins:List (Addr×Obj)}{σ:St}{H:Hp}{s:Shared}{h':Heap}
theorem Inv.turnedN{t':Nat}{fp:List Addr}(I:Inv X pins σ H s)(k:∀b o,b∉fp->s.heap.get? b=some o->h'.get? b=some o)(hf:∀b∈fp,FpOk X pins H b):Inv X pins σ H { s with heap:=h',toks:=t' }:=by(
have D:∀b u,H b=some u->b∉fp:=λb u e z=>by rw[(hf b z).1]at e;cases e
refine I.step (g':=s.gens) (d':=s.drawn) (ch:=fp) (λb J=>?_) (λb o F F d e F=>k b o d e) (λb o F F d e F=>⟨o.slots,k b o d e⟩) (λF F F F n=>n)
 (λb o d e=>⟨o,k b o d e⟩) (λF F e=>e) (λF F F e=>e) (λb ps e=>⟨#[],by rw[e];simp⟩) (λm S=>?_) (λb u e=>?_) I.bare
.obtain⟨f0,f1,f2,N,f4,U⟩:=hf b J;exact⟨N,f1,f4,U⟩
.obtain⟨o,es,O,Z,r⟩:=S;exact⟨o,es,O,k _ o (λz=>(hf _ z).2.1 rfl) Z,r⟩
refine(I.hok b u e).stay (λc v d q=>k c v ?_ q) (λF q=>q) λF F q=>q
rcases d with z|z
.rw[z];exact D b u e
exact D c _ z)
end
end L2
namespace L2
open PySem
theorem q4P{es rest:List Expr}{x1}{p:Pos}{env:Env}:starEach (.Tuple es x1 p::rest) env=(false,eval (.Tuple es x1 p) env)::starEach rest env:=rfl
theorem qB1{es rest:List Expr}{p:Pos}{env:Env}:starEach (.List es p::rest) env=(false,eval (.List es p) env)::starEach rest env:=rfl
end L2
namespace L2
open PySem PySem.Spec PyProof.Rows
inductive Eqv(K:PySem.W.Frag)(H:Hp):Nat->V->V->Prop where
|flat {n:Nat} {x:V} (f:q0B x=true):Eqv K H n x x
|lst {n:Nat} {a b:Addr} {xs ys:List V} (ha:SqL K H a xs) (hb:SqL K H b ys) (hl:xs.length=ys.length) (hi:∀(i:Nat) x y,xs[i]?=some x->ys[i]?=some y->Eqv K H n x y):Eqv K H (n+1) (.ref a) (.ref b)
|tup {n:Nat} {a b:Addr} {xs ys:List V} (ha:SqT K H a xs) (hb:SqT K H b ys) (hl:xs.length=ys.length) (hi:∀(i:Nat) x y,xs[i]?=some x->ys[i]?=some y->Eqv K H n x y):Eqv K H (n+1) (.ref a) (.ref b)
theorem qFU{x:V}(f:q0B x=true):eqV x x=true:=by(
cases x with
|non=>rfl
|bl b=>cases b<;>rfl
|int i=>show(i==i)=true;exact beq_self_eq_true i
|str z=>show(z==z)=true;exact beq_self_eq_true z
|_=>exact absurd (show false=true from f) kW)
theorem zS{n:Nat}:(List.range n).all (λz=>true)=true:=by simp
section
variable{X:Cx}{pins:List (Addr×Obj)}{σ:St}{H:Hp}{s:Shared}
theorem Vals.atN{xs:List V}{us:List Value}(r:Vals xs us){j:Nat}(h:j<us.length):∃x,xs[j]?=some x/\RelV x us[j]:=by(
have e:xs[j]?=some (xs[j]'(by rw[r.length];exact h)):=kF _
obtain⟨u,d,z⟩:=r.get e
rw[kF h]at d
cases d
exact⟨_,e,z⟩)
theorem Eqv.at(I:Inv X pins σ H s){n:Nat}{y x:V}(h:Eqv X.K H n y x):∀{A:Around} {u v:Value},RelV y u->RelV x v->A.units+n<cLine->SeqAt.EqAt A s u v true:=by(
induction h with
|flat f=>intro A u v D z _;have e:=qFB (A:=A) (s:=s) D z f f;rw[qFU f]at e;exact e
|@lst n a b xs ys ha hb hl hi ih=>
 intro A u v D z hu;cases D;cases z;by_cases d:a=b
 .subst d;exact lB _
 obtain⟨Z,J,p1,_⟩:=I.list ha;obtain⟨N,r2,S,_⟩:=I.list hb;have l1:=J.length;have l2:=r2.length;refine xN d ?_;have e:=SeqAt.RcAt.lists (A:=A) (e:=λF=>true) p1.isList S.isList (by simp;lia) (by lia) (λj h1 h2=>?_)
 .rw[zS]at e;exact e
 obtain⟨x1,e1,q1⟩:=J.atN (j:=j) (by simpa using h1);obtain⟨O,U,q2⟩:=r2.atN (j:=j) (by simpa using h2);exact ih j x1 O e1 U (by simpa using q1) (by simpa using q2) (by show A.units+1+n<cLine;lia)
|@tup n a b xs ys ha hb hl hi ih=>
 intro A u v D z hu;cases D;cases z;by_cases d:a=b
 .subst d;exact lB _
 obtain⟨Z,J,p1,_⟩:=I.tuple ha;obtain⟨N,r2,S,_⟩:=I.tuple hb;have l1:=J.length;have l2:=r2.length;refine xN d ?_;have e:=SeqAt.RcAt.tuples (A:=A) (e:=λF=>true) (show s.heap.IsTuple a Z.toArray from p1) (show s.heap.IsTuple b N.toArray from S) (by lia) (λj h1 h2=>?_)
 .rw[zS,xE,show(Z.toArray.size==N.toArray.size)=true by simp;lia]at e;exact e
 obtain⟨x1,e1,q1⟩:=J.atN (j:=j) (by simpa using h1);obtain⟨O,U,q2⟩:=r2.atN (j:=j) (by simpa using h2);exact ih j x1 O e1 U (by simpa using q1) (by simpa using q2) (by show A.units+1+n<cLine;lia))
theorem q9E{x:V}(f:q0B x=true):scal x x=true:=by(
cases x with
|non=>rfl
|bl b=>rfl
|int i=>rfl
|str z=>rfl
|_=>exact absurd (show false=true from f) kW)
noncomputable def qJK(K:PySem.W.Frag)(r:Bool):R2:=λx y H Q=>Eqv K H 6 x y/\Q (.bl r) H
theorem qKZ(hu:X.A.units+64<cLine):OpR X (compareOp .Eq) (qJK X.K true):=by(
intro pins s σ H x y v u Q I J Z hZ
obtain⟨h,q⟩:=hZ
cases h with
|flat f=>exact zH pins s σ H x x v u Q I J Z ⟨q9E f,by rw[hC rfl];exact q⟩
|@lst _ a b xs ys ha hb hl hi=>cases J;cases Z;obtain⟨S,d,p1,_⟩:=I.list ha;obtain⟨z,r2,N,_⟩:=I.list hb;have l1:=d.length;have l2:=r2.length;refine aV (e:=λF=>true) p1.isList N.isList (by simp;lia) (by lia) (λj h1 h2=>?_) ⟨.bl true,H,I,by rw[zS];rfl,q⟩;obtain⟨x1,e1,q1⟩:=d.atN (j:=j) (by simpa using h1);obtain⟨D,O,U⟩:=r2.atN (j:=j) (by simpa using h2);exact(hi j x1 D e1 O).at I (by simpa using q1) (by simpa using U) (by show X.A.units+1+5<cLine;lia)
|@tup _ a b xs ys ha hb hl hi=>cases J;cases Z;obtain⟨S,d,p1,_⟩:=I.tuple ha;obtain⟨z,r2,N,_⟩:=I.tuple hb;have l1:=d.length;have l2:=r2.length;refine SeqAt.eq_tupleAt (e:=λF=>true) (show s.heap.IsTuple a S.toArray from p1) (show s.heap.IsTuple b z.toArray from N) (by lia) (λj h1 h2=>?_) ⟨.bl true,H,I,by rw[zS,xE,show(S.toArray.size==z.toArray.size)=true by simp;lia];rfl,q⟩;obtain⟨x1,e1,q1⟩:=d.atN (j:=j) (by simpa using h1);obtain⟨D,O,U⟩:=r2.atN (j:=j) (by simpa using h2);exact(hi j x1 D e1 O).at I (by simpa using q1) (by simpa using U) (by show X.A.units+1+5<cLine;lia))
theorem qL0(hu:X.A.units+64<cLine):OpR X (compareOp .NotEq) (qJK X.K false):=by(
intro pins s σ H x y v u Q I J Z hZ
obtain⟨h,q⟩:=hZ
cases h with
|flat f=>exact q27 pins s σ H x x v u Q I J Z ⟨q9E f,by rw[hC rfl];exact q⟩
|@lst _ a b xs ys ha hb hl hi=>cases J;cases Z;obtain⟨S,d,p1,_⟩:=I.list ha;obtain⟨z,r2,N,_⟩:=I.list hb;have l1:=d.length;have l2:=r2.length;refine SeqAt.RcNeAt.lists (e:=λF=>true) p1.isList N.isList (by simp;lia) (by lia) (λj h1 h2=>?_) _ _ _ _ ⟨.bl false,H,I,by rw[zS];rfl,q⟩;obtain⟨x1,e1,q1⟩:=d.atN (j:=j) (by simpa using h1);obtain⟨D,O,U⟩:=r2.atN (j:=j) (by simpa using h2);exact(hi j x1 D e1 O).at I (by simpa using q1) (by simpa using U) (by show X.A.units+1+5<cLine;lia)
|@tup _ a b xs ys ha hb hl hi=>cases J;cases Z;obtain⟨S,d,p1,_⟩:=I.tuple ha;obtain⟨z,r2,N,_⟩:=I.tuple hb;have l1:=d.length;have l2:=r2.length;refine lY (e:=λF=>true) (show s.heap.IsTuple a S.toArray from p1) (show s.heap.IsTuple b z.toArray from N) (by lia) (λj h1 h2=>?_) _ _ _ _ ⟨.bl false,H,I,by rw[zS,xE,show(S.toArray.size==z.toArray.size)=true by simp;lia];rfl,q⟩;obtain⟨x1,e1,q1⟩:=d.atN (j:=j) (by simpa using h1);obtain⟨D,O,U⟩:=r2.atN (j:=j) (by simpa using h2);exact(hi j x1 D e1 O).at I (by simpa using q1) (by simpa using U) (by show X.A.units+1+5<cLine;lia))
end
end L2
namespace L2
open PySem
theorem qEK{K:PySem.W.Frag}{H:Hp}{n:Nat}{a b:Addr}{xs:List V}(ha:SqT K H a xs)(hb:SqT K H b xs)(f:∀x∈xs,q0B x=true):Eqv K H (n+1) (.ref a) (.ref b):=.tup ha hb rfl λi x y hx hy=>by  have e:=kQ (hx.symm.trans hy);subst e;exact .flat (f x (gD hx))
end L2
namespace L2
open PySem PySem.Spec PyProof.Rows
noncomputable def clOf(env:Env):List (Str×NameKind)->List (Str×Addr)->List (Str×Addr)
| [],cs=>cs
|(n,k)::r,cs=>clOf env r (if(k==NameKind.free)=true then(match env.cells.lookup n with|some a=>(n,a)::cs|none=>cs)else cs)
theorem q7D{scope:Scope}{env:Env}(h:∀y∈scope.names,y.2=.free->∃c,env.cells.lookup y.1=some c):closureFor scope env=pure (clOf env scope.names []):=by(
unfold closureFor
have go:∀(l:List (Str×NameKind)) (cs:List (Str×Addr)),(∀y∈l,y.2=.free->∃c,env.cells.lookup y.1=some c)->(forIn l cs λx r=>(match x with|(name,kind)=>if(kind==NameKind.free)=true then do let a<-cellOf env name;pure (ForInStep.yield ((name,a)::r))else pure (ForInStep.yield r):Sem (ForInStep (List (Str×Addr)))))=pure (clOf env l cs):=by
 intro l;induction l with
 |nil=>intro cs _;rfl
 |cons y r ih=>
  intro cs hl;obtain⟨n,k⟩:=y;rw[aW];by_cases hk:(k==NameKind.free)=true
  .obtain⟨c,e⟩:=hl (n,k) kU (by simpa using hk);have e2:cellOf env n=pure c:=by unfold cellOf;rw[e]
   show(bind (if(k==NameKind.free)=true then _ else _) _:Sem _)=_;rw[kM hk,e2];show(forIn r ((n,c)::cs) _:Sem _)=pure (clOf env r (if(k==NameKind.free)=true then(match env.cells.lookup n with|some a=>(n,a)::cs|none=>cs)else cs));rw[kM hk,e];exact ih _ λy hy=>hl y (hU _ hy)
  show(bind (if(k==NameKind.free)=true then _ else _) _:Sem _)=_;rw[kI hk];show(forIn r cs _:Sem _)=pure (clOf env r (if(k==NameKind.free)=true then(match env.cells.lookup n with|some a=>(n,a)::cs|none=>cs)else cs));rw[kI hk];exact ih _ λy hy=>hl y (hU _ hy)
exact(rL (λz:Sem (List (Str×Addr))=>z >>= λs=>pure s) (go scope.names [] h)).trans rfl)
theorem q7E{env:Env}{x:Str}{c:Addr}:∀(l:List (Str×NameKind)) (cs:List (Str×Addr)),(cs.lookup x=some c->env.cells.lookup x=some c)->(clOf env l cs).lookup x=some c->env.cells.lookup x=some c
| [],cs,hcs,h=>hcs h
|(n,k)::r,cs,hcs,h=>by
 refine q7E r _ ?_ h;intro q;split at q
 .cases e:env.cells.lookup n with
  |none=>rw[e]at q;exact hcs q
  |some a=>
   rw[e]at q;have q:List.lookup x ((n,a)::cs)=some c:=q;rw[rA]at q;cases z:x==n with
   |true=>
    rw[z]at q;have z':x=n:=by simpa using z
    rw[z',e,<-q]
   |false=>rw[z]at q;exact hcs q
 exact hcs q
theorem q7F{env:Env}{x:Str}{c:Addr}(e:env.cells.lookup x=some c):∀(l:List (Str×NameKind)) (cs:List (Str×Addr)),((x,NameKind.free)∈l\/cs.lookup x=some c)->(clOf env l cs).lookup x=some c
| [],cs,h=>h.resolve_left (by simp)
|(n,k)::r,cs,h=>by
 refine q7F e r _ ?_;by_cases hn:(x==n)=true
 .have z':x=n:=by simpa using hn
  by_cases d:(k==NameKind.free)=true
  .refine .inr ?_;rw[kM d,<-z',e];show List.lookup x ((x,c)::cs)=some c;simp
  rcases h with h|h
  .rcases kN.mp h with q|q
   .cases q;exact absurd (by simp) d
   exact .inl q
  rw[kI d];exact .inr h
 have D:x≠n:=λz=>hn (by simp[z]);rcases h with h|h
 .rcases kN.mp h with q|q
  .cases q;exact absurd rfl D
  exact .inl q
 refine .inr ?_;split
 .cases en:env.cells.lookup n with
  |none=>exact h
  |some a=>
   show List.lookup x ((n,a)::cs)=some c;have hn:(x==n)=false:=by simpa using D
   rw[rA,hn];exact h
 exact h
theorem qB2{env:Env}{x:Str}:∀{names:List (Str×NameKind)},(∀y∈names,y.2≠ .cell)->((names.map λ(n,k)=>if(k==NameKind.free&&env.scope.kind== .function&&env.kindOf n==some .cell)then(n,NameKind.cell)else(n,k)).lookup x=some .cell\/(names.map λ(n,k)=>if(k==NameKind.free&&env.scope.kind== .function&&env.kindOf n==some .cell)then(n,NameKind.cell)else(n,k)).lookup x=some .free)->(x,NameKind.free)∈names
| [],_,h=>by simp at h
|(n,k)::r,hc,h=>by
 have ih:=@qB2 env x r λy hy=>hc y (hU _ hy);rw[mY]at h;by_cases hq:(k==NameKind.free&&env.scope.kind== .function&&env.kindOf n==some .cell)=true
 .have hk:k=.free:=by rw[mU,mU]at hq;simpa using hq.1.1
  simp only[kM hq,rA]at h;cases hx:x==n with
  |true=>
   have e:x=n:=by simpa using hx
   rw[e,hk];exact kU
  |false=>simp only[hx]at h;exact hU _ (ih h)
 simp only[kI hq,rA]at h;cases hx:x==n with
 |true=>
  simp only[hx]at h;have e:x=n:=by simpa using hx
  rcases h with h|h
  .cases h;exact absurd rfl (hc _ kU)
  cases h;rw[e];exact kU
 |false=>simp only[hx]at h;exact hU _ (ih h)
theorem qB3{env:Env}{x:Str}(hk:env.scope.kind=.function)(he:env.kindOf x=some .cell):∀{names:List (Str×NameKind)},names.lookup x=some .free->(names.map λ(n,k)=>if(k==NameKind.free&&env.scope.kind== .function&&env.kindOf n==some .cell)then(n,NameKind.cell)else(n,k)).lookup x=some .cell
| [],h=>by simp at h
|(n,k)::r,h=>by
 have ih:=@qB3 env x hk he r;rw[mY];rw[rA]at h;cases hx:x==n with
 |true=>
  simp only[hx]at h;have e:x=n:=by simpa using hx
  cases h;subst e;show List.lookup x ((if(NameKind.free==NameKind.free&&env.scope.kind==ScopeKind.function&&env.kindOf x==some NameKind.cell)=true then(x,NameKind.cell)else(x,NameKind.free))::_)=_;rw[kM (by rw[hk,he];rfl),rA];simp
 |false=>
  simp only[hx]at h;show List.lookup x ((if(k==NameKind.free&&env.scope.kind==ScopeKind.function&&env.kindOf n==some NameKind.cell)=true then(n,NameKind.cell)else(n,k))::_)=_;by_cases hq:(k==NameKind.free&&env.scope.kind== .function&&env.kindOf n==some .cell)=true
  .rw[kM hq,rA];simp only[hx];exact ih h
  rw[kI hq,rA];simp only[hx];exact ih h
noncomputable abbrev vV(X:Cx)(N:List Str)(scope:Scope)(C:Addr)(fp:List Addr)(s:Shared)(H:Hp)(xe:Value->Shared->Prop):Cx:={ X with N:=N,s₀:=s,H₀:=H,env:=compEnvC scope (clOf X.env scope.names []) C X.env,outer:=X.stack,ex:=fp,fn:=λz=>false,xe:=xe }
noncomputable def pick(ix:List Nat)(σ:St):St:=ix.map λi=>σ.getD i none
noncomputable def q9F(XN:List Str)(kd:Str->Option NameKind)(names:List (Str×NameKind))(N:List Str)(ix:List Nat):Bool:=(List.range ix.length).all λj=>match N[j]?,ix[j]? with
 |some x,some i=>decide (XN[i]?=some x)&&decide (names.lookup x=some .free)&&decide (kd x=some .cell)
 |_,_=>false
theorem qFV{XN:List Str}{kd:Str->Option NameKind}{names:List (Str×NameKind)}{N:List Str}{ix:List Nat}(h:q9F XN kd names N ix=true){j:Nat}(hj:j<ix.length){x:Str}(hx:N[j]?=some x):
 ∃i,ix[j]?=some i/\XN[i]?=some x/\names.lookup x=some .free/\kd x=some .cell:=by(
unfold q9F at h
rw[rB]at h
have q:=h j (mO.mpr hj)
rw[hx,kF hj]at q
simp only[mU,mC]at q
exact⟨_,kF hj,q.1.1,q.1.2,q.2⟩)
theorem qHX{X:Cx}{pins:List (Addr×Obj)}{σ:St}{H:Hp}{s:Shared}(I:Inv X pins σ H s){N:List Str}{ix:List Nat}{scope:Scope}{fp:List Addr}{xe:Value->Shared->Prop}(hf:∀b∈fp,FpOk X pins H b)(ho:∀b∈fp,∃o,s.heap.get? b=some o)
 (hk:scope.kind=.function) (hc:∀y∈scope.names,y.2≠ .cell) (hfr:∀y∈scope.names,y.2=.free->X.env.kindOf y.1=some .cell) (hcap:q9F X.N X.env.kindOf scope.names N ix=true) (hN:ix.length<=N.length) {h₁:Heap} {tk n:Nat} {m:Str->Option Value}
 (hn:h₁.Ns (s.heap.objs.size+1) m) (hkp:∀b u,s.heap.get? b=some u->h₁.get? b=some u) (hD:h₁.get? s.heap.objs.size=some { cls:=.type "list",data:=.seq ([]:List Value).toArray n }):
 Inv (vV X N scope (s.heap.objs.size+1) fp s H xe) [] (pick ix σ++List.replicate (N.length-ix.length) none) (upd H s.heap.objs.size (.lst [])) { s with heap:=h₁,toks:=tk }:=by(
have fresh:H s.heap.objs.size=none:=I.hok.fresh (kO _)
have O:H (s.heap.objs.size+1)=none:=I.hok.fresh (dG _)
have J:∀x c,(clOf X.env scope.names []).lookup x=some c->X.env.cells.lookup x=some c:=λx c e=>q7E _ _ (by intro q;simp at q) e
have ad:∀x c,(clOf X.env scope.names []).lookup x=some c->c<s.heap.objs.size:=λx c e=>by obtain⟨v,q⟩:=I.cell x c (J x c e);exact q.lt
refine⟨⟨I.ok.mod,hk,I.ok.glob,I.ok.blt,dG _,λx y c h1 h2=>I.ok.inj x y c (J x c h1) (J y c h2),λx Z=>?_,λx c h=>absurd h kW,I.ok.hd,I.ok.frames,.inl rfl,λb S=>⟨?_,λx c e=>?_⟩,I.bs,mL I.ok.bsz I.sz,λb o e S=>?_,λb S z=>?_,I.stack,I.stkFree⟩,rfl,I.bare,Un.laid hkp (kO _) fresh,⟨m,hn,λi x v e1 D e3=>?_⟩,λx c e=>?_,?_,λx c e=>?_,λp hp=>?_,I.hok.laid hkp (kO _) ⟨by simp,[],n,.nil,hD⟩,?_⟩
.have Z:(x,NameKind.free)∈scope.names:=qB2 hc Z;obtain⟨c,e⟩:=I.ok.has x (.inl (hfr _ Z rfl));exact⟨c,q7F e _ _ (.inl Z)⟩
.obtain⟨o,e⟩:=ho b S;exact mR (dO (kX e))
.exact(hf b S).2.2.2.2.1 x c (J x c e)
.rcases(hf b S).2.2.2.1 with z|z
 .exact I.ok.noex b o e z
 exact absurd (mW (kX e) (mL I.ok.bsz z)) (rD _)
.rcases kN.mp (I.stkSub b z)with z|z
 .exact(hf b S).2.1 z
 exact(hf b S).2.2.1 z
.have U:i<ix.length:=by
  by_cases U:i<ix.length
  .exact U
  rw[dM (by simpa[pick]using U),wL]at D;split at D<;>cases D
 obtain⟨i0,q1,q2,q3,q4⟩:=qFV hcap U e1;rw[rW (by simpa[pick]using U)]at D;have D:σ[i0]?=some (some v):=by
  unfold pick at D;rw[kZ,q1]at D;have D:σ.getD i0 none=some v:=kQ D;rw[kL]at D;cases z:σ[i0]? with
  |none=>rw[z]at D;cases D
  |some y=>rw[z]at D;exact rL some D
 obtain⟨mX,_,lX⟩:=I.loc;obtain⟨u,r,l⟩:=lX i0 x v q2 D (.inr (.inl q4));refine⟨u,r,.inr ⟨.inl (qB3 I.ok.kind q4 q3),?_⟩⟩;rcases l with⟨l,_⟩|⟨_,c,e,z⟩
 .rw[q4]at l;cases l
 obtain⟨o,e',d⟩:=z;exact⟨c,q7F e _ _ (.inl (gW q3)),o,hkp _ _ e',d⟩
.obtain⟨v,o,e',d⟩:=I.cell x c (J x c e);exact⟨v,o,hkp _ _ e',d⟩
.show upd H s.heap.objs.size (.lst []) (s.heap.objs.size+1)=none;rw[qD (rE (d8 _))];exact O
.rw[qD (mR (ad x c e))];exact I.freeC x c (J x c e)
.obtain⟨p1,p2,p3,p4,p5⟩:=I.pin p (gC _ (by simpa using hp));have lt:=kX p1;exact⟨hkp _ _ p1,by rw[qD (mR lt)];exact p2,mR (dO lt),λz=>(kN.mp (I.stkSub _ z)).elim p3 p4,p5⟩
show _=N.length
rw[mH,gP]
simp only[pick,kB]
lia)
noncomputable def PIf(X:Cx)(ifs:List Expr)(t:TT):Prop:=∀(pins:List (Addr×Obj)) (s:Shared) (σ:St) (H:Hp) (Q:Bool->Hp->Prop),Inv X pins σ H s->t σ H Q->wpAny (model X.prog X.w) X.A (forIn ifs true λc r=>if r=true then do let ok<-isTrue c X.env (eval c X.env);pure (ForInStep.yield ok)else pure (ForInStep.yield r)) (TP X pins σ Q) X.xe s
noncomputable def qB4:TT:=λz H Q=>Q true H
theorem qFW{A B:Hp->Prop}{σ:St}{H:Hp}(h:A H):qB4 σ H (λb H6=>if b=true then A H6 else B H6):=by show if true=true then A H else B H;rw[kM rfl];exact h
theorem qD8{X:Cx}:PIf X [] qB4:=λpins s σ H Q I h=>mE ⟨H,I,h⟩
theorem uA{X:Cx}{c:Expr}{t:TT}(hc:PT X c t):PIf X [c] t:=λpins s σ H Q I h=>by(
rw[aW]
show wpAny _ _ (bind (if true=true then _ else _) _) _ _ _
rw[kM rfl]
refine kD (kD (thn (hc pins s σ H Q I h) λb s1 q=>?_))
exact mE (mE q))
noncomputable def tLC(wi:TI)(g:TG)(tc:TT)(te:TE)(ix:List Nat)(k:Nat):TE:=λσ H Q=>wi σ H λJ H1=>∀D H2,H1 D=none->Same H1 H2->H2 D=some (.lst [])->∃W:Nat->Nat->Hp->Prop,(∃m,W 0 m H2)/\∀i m H3,W i m H3->(J.stop i H3/\Q (.ref D) H3)\/(J.go i H3/\∃N:Hp->Prop,(∀H',N H'->∃m',m'<m/\W (i+1) m' H')/\∀x H4,J.yld i H3 x H4->g x (pick ix σ++List.replicate k none) H4 λσ5 H5=>tc σ5 H5 λb H6=>
   if b=true then te σ5 H6 (λv H7=>∃vs,H7 D=some (.lst vs)/\vs.length<sizeLine/\N (upd H7 D (.lst (vs++[v]))))else N H6)
noncomputable def Own(g:TG)(k:Nat):Prop:=∀x σ H Q,g x σ H Q->g x σ H λσ' H'=>Q σ' H'/\σ'.length=σ.length/\∀j,j<k->σ'[j]?=σ[j]?
noncomputable def OwnS(g:TGs)(k:Nat):Prop:=∀(xs:List V) (σ:St) (H:Hp) (Q:St->Hp->Prop) (σ0:St),σ.length=σ0.length->(∀j,j<k->σ[j]?=σ0[j]?)->g xs σ H Q->g xs σ H λσ' H'=>Q σ' H'/\σ'.length=σ0.length/\∀j,j<k->σ'[j]?=σ0[j]?
theorem qHY{k:Nat}:OwnS gNil k:=λxs σ H Q σ0 h1 h2 ⟨e,q⟩=>⟨e,q,h1,h2⟩
theorem qB5{i k:Nat}{u:TGs}(h:k<=i)(hu:OwnS u k):OwnS (qJD (q3L i) u) k:=λxs σ H Q σ0 h1 h2 ⟨v,r,e,q⟩=>⟨v,r,e,hu r (σ.set i (some v)) H Q σ0 (gM.trans h1) (λj hj=>by rw[wE (by lia)];exact h2 j hj) q⟩
theorem qHZ{K:PySem.W.Frag}{n k:Nat}{g:TGs}(h:OwnS g k):Own (gTup K n g) k:=λx σ H Q ⟨a,xs,e1,e2,e3,q⟩=>⟨a,xs,e1,e2,e3,h xs σ H Q σ rfl (λz z=>rfl) q⟩
theorem yF{i k:Nat}(h:k<=i):Own (q3L i) k:=λx σ H Q q=>⟨q,gM,λj hj=>by rw[wE (by lia)]⟩
theorem qI0{P:Program}{w:World}{A:Around}{R:Result->Shared->Prop}{s:Shared}{elt tg iter:Expr}{ifs:List Expr}{sc:Scope}{pos:Pos}{it acc:Value}{env:Env}(J:Nat->Shared->Prop)
 (turn:∀n s1,J n s1->wpAny (model P w) A (pyNext it) (λr s2=>match r with
  |none=>R (.ok .next) s2
  |some v=>wpAny (model P w) A (letOwnedTupleGo tg it v) (λU s3=>wpAny (model P w) A (assign tg env v) (λU s4=>
   wpAny (model P w) A (forIn ifs true λc r=>if r=true then do let ok<-isTrue c env (eval c env);pure (ForInStep.yield ok)else pure (ForInStep.yield r)) (λok s5=>
    if ok=true then wpAny (model P w) A (eval elt env) (λx s6=>wpAny (model P w) A (call (.builtin "list.append") [acc,x]) (λU s7=>∃m,m<n/\J m s7) (notedBy (model P w) A env λe s'=>R (.error e) s') s6) (notedBy (model P w) A env λe s'=>R (.error e) s') s5
    else ∃m,m<n/\J m s5) (notedBy (model P w) A env λe s'=>R (.error e) s') s4) (notedBy (model P w) A env λe s'=>R (.error e) s') s3) (notedBy (model P w) A env λe s'=>R (.error e) s') s2) (notedBy (model P w) A env λe s'=>R (.error e) s') s1)
 (n:Nat) (h:J n s):codeAny (model P w) A (.compLoop (.ListComp elt [⟨tg,iter,ifs,0⟩] sc pos) 0 it acc env) R s:=by(
refine codeAny_loop rfl J (λm s1 N=>?_) n h
show wpAny _ A ((compTurn _ 0 it acc env).onRaise (λx=>do noteFrame x env;theTreesLotGoes x)) _ _ s1
refine wpAny_noted ?_
rw[compTurn_list]
refine kD (sY (kD (thn (turn m s1 N) λr s2 h2=>?_)))
cases r with
|none=>exact mE h2
|some v=>
 refine kD (thn h2 λU s3 I=>kD (thn I λU s4 O=>kD (thn O λok s5 d=>?_)));cases ok with
 |false=>exact mE ⟨rfl,d⟩
 |true=>exact kD (kD (thn d λx s6 D=>kD (thn D λU s7 z=>mE (mE ⟨rfl,z⟩)))))
structure TurnC(ok:Cx->Prop)(P:Program)(w:World)(K:PySem.W.Frag)(tg:Expr)(J:It)(fp:List Addr)(it:Addr)(tn:Nat->Heap->Prop):Prop where
obj:∀i h,tn i h->∀b∈fp,∃o,h.get? b=some o/\∀v,o.data≠ .cell v
keep:∀i h h',tn i h->(∀b∈fp,∀o,h.get? b=some o->h'.get? b=some o)->tn i h'
item:∀(X:Cx),X.prog=P->X.w=w->X.K=K->ok X->∀(i:Nat) (pins:List (Addr×Obj)) (s:Shared) (σ:St) (H:Hp) (E:Value->Shared->Prop),Inv X pins σ H s->(∀b∈fp,FpOk X pins H b)->tn i s.heap->J.go i H->wpAny (model P w) X.A (pyNext (.ref it)) (λr s1=>∃u,r=some u/\wpAny (model P w) X.A (letOwnedTupleGo tg (.ref it) u) (λ_ s2=>∃x H',Inv X pins σ H' s2/\RelV x u/\J.yld i H x H'/\tn (i+1) s2.heap/\∀b∈fp,H' b=none) E s1) E s
done:∀(X:Cx),X.prog=P->X.w=w->X.K=K->ok X->∀(i:Nat) (pins:List (Addr×Obj)) (s:Shared) (σ:St) (H:Hp) (E:Value->Shared->Prop),Inv X pins σ H s->(∀b∈fp,FpOk X pins H b)->tn i s.heap->J.stop i H->wpAny (model P w) X.A (pyNext (.ref it)) (λr s1=>r=none/\Inv X pins σ H s1) E s
self:∀(A:Around) (i:Nat) (s:Shared) (Q:Value->Shared->Prop) (E:Value->Shared->Prop),tn i s.heap->Q (.ref it) s->wpAny (model P w) A (pyIter (.ref it)) Q E s
noncomputable def PIc(ok:Cx->Prop)(X:Cx)(tg iter:Expr)(wi:TI):Prop:=∀(pins:List (Addr×Obj)) (s:Shared) (σ:St) (H:Hp) (R:It->Hp->Prop),Inv X pins σ H s->wi σ H R->wpAny (model X.prog X.w) X.A (eval iter X.env) (λv s1=>wpAny (model X.prog X.w) X.A (pyIter v) (λitv s2=>∃(it:Addr) (fp:List Addr) (tn:Nat->Heap->Prop) (J:It) (H':Hp),itv=.ref it/\Inv X pins σ H' s2/\TurnC ok X.prog X.w X.K tg J fp it tn/\tn 0 s2.heap/\(∀b∈fp,FpOk X pins H' b)/\R J H') X.xe s1) X.xe s
theorem PI.c{X:Cx}{tg iter:Expr}{wi:TI}(h:PI X tg iter wi):PIc (λX=>X.calm=true) X tg iter wi:=λpins s σ H R I q=>thn (h pins s σ H R I q) λv s1 h1=>thn h1 λitv s2 ⟨it,fp,tn,J,H',a,b,T,r⟩=>⟨it,fp,tn,J,H',a,b,⟨T.obj,T.keep,T.item,T.done,T.self⟩,r⟩
theorem qD9{X:Cx}{elt iter tg:Expr}{ifs:List Expr}{scope:Scope}{pos cp:Pos}{wi:TI}{g:TG}{tc:TT}{te:TE}{use:Option (Value->Sem Unit)}{QQ:Value->Shared->Prop}{pins:List (Addr×Obj)}{s:Shared}{σ:St}{H:Hp}{Q:VK}(N:List Str)(ix:List Nat)(ok:Cx->Prop)(hok:∀C fp s H xe,ok (vV X N scope C fp s H xe))(hi:PIc ok X tg iter wi)
 (hg:∀C fp s H xe,PG (vV X N scope C fp s H xe) tg g) (hif:∀C fp s H xe,PIf (vV X N scope C fp s H xe) ifs tc) (he:∀C fp s H xe,PE (vV X N scope C fp s H xe) elt te)
 (hk:scope.kind=.function) (hc:∀y∈scope.names,y.2≠ .cell) (hfr:∀y∈scope.names,y.2=.free->X.env.kindOf y.1=some .cell) (hcap:q9F X.N X.env.kindOf scope.names N ix=true) (hN:ix.length<=N.length)
 (hnames:∀x∈scope.names,x.2=.local->scope.names.lookup x.1=some .local) (hown:Own g ix.length) (I:Inv X pins σ H s) (h:tLC wi g tc te ix (N.length-ix.length) σ H Q)
 (hfin:∀(C D:Addr) (H':Hp) (s':Shared) (m:Str->Option Value),s'.heap.Ns C m->FpOk X pins H' C->(∀h',Heap.SameBut C s'.heap h'->Inv X pins σ H' { s' with heap:=h' })->Q (.ref D) H'->compPost (model X.prog X.w) X.A X.xe use QQ (.ref D) C (.ok .next) s')
 (hs:∀x,foldedSetIterable iter X.env x=pure x:=by intro _;rfl):
 wpAny (model X.prog X.w) X.A (comprehension (.ListComp elt [⟨tg,iter,ifs,0⟩] scope pos) scope X.env cp (newList []) false (eval iter X.env) use) QQ X.xe s:=by(
refine wpAny_comprehension_free (use:=use) (cl:=clOf X.env scope.names []) rfl hs (q7D λy hy bb=>I.ok.has _ (.inl (hfr y hy bb))) hk hnames (thn (hi pins s σ H _ I h) λv s1 h1=>thn h1 λce O h2=>?_)
obtain⟨it,fp,tn,J,H2,e,I2,T,al,f2,q2⟩:=h2
subst e
refine x6 (lP hc (by intro y hy;simp at hy) (λa7 ad U=>?_) hk)
dsimp only at ad U ⊢
rw[sJ]at ad U ⊢
have aj:∀b o,O.heap.get? b=some o->a7.get? b=some o:=λb o e=>U.extBut b o (mR (dO (kX e))) (kJ _ (kJ _ e))
have ap:a7.get? O.heap.objs.size=some { cls:=.type "list",data:=.seq ([]:List Value).toArray }:=U.extBut _ _ (mR (d8 _)) (kJ _ (mP _ rfl))
have ai:∀b∈fp,∃o,O.heap.get? b=some o:=λb S=>let⟨o,e,_⟩:=T.obj _ _ al b S;⟨o,e⟩
have fresh:H2 O.heap.objs.size=none:=I2.hok.fresh (kO _)
obtain⟨W,⟨m0,w0⟩,turn⟩:=q2 O.heap.objs.size (upd H2 O.heap.objs.size (.lst [])) fresh (Same.upd fresh) qI
have fin:∀{pY σ' H' s'},Inv (vV X N scope (O.heap.objs.size+1) fp O H2 (notedBy (model X.prog X.w) X.A (compEnvC scope (clOf X.env scope.names []) (O.heap.objs.size+1) X.env) λe s'=>compPost (model X.prog X.w) X.A X.xe use QQ (.ref O.heap.objs.size) (O.heap.objs.size+1) (.error e) s')) pY σ' H' s'->Q (.ref O.heap.objs.size) H'->compPost (model X.prog X.w) X.A X.xe use QQ (.ref O.heap.objs.size) (O.heap.objs.size+1) (.ok .next) s':=fun {pY σ' H' s'} J q=>by
 obtain⟨m,hm,_⟩:=id J.loc;refine hfin (O.heap.objs.size+1) O.heap.objs.size H' s' m hm (I2.fpOk (dG _) J.free) (λh' sb=>?_) q;have eb:∀b o,b≠O.heap.objs.size+1->s'.heap.get? b=some o->h'.get? b=some o:=λb o nb e=>sb.extBut b o nb e;have ak:∀b o,O.heap.get? b=some o->b≠O.heap.objs.size+1:=λb o e=>mR (dO (kX e));have u:=J.base;have nC:H' (O.heap.objs.size+1)=none:=J.free;refine I2.call' (ch:=fp) (s':={ s' with heap:=h' }) J.os ⟨λb o e n1 n2 n3=>eb b o (ak b o e) (u.keep b o e n1 n2 n3),λb o e n1 n2 n3=>?_,u.free,λb o e n1=>?_,u.tups,u.frzs,u.tbls⟩ (λb o e=>?_) J.bare λb S=>⟨(f2 b S).2.2.2.1,(f2 b S).2.1,(f2 b S).2.2.2.2.1,(f2 b S).2.2.2.2.2⟩
 .obtain⟨sl,q1⟩:=u.slot b o e n1 n2 n3;exact⟨sl,eb b _ (ak b o e) q1⟩
 .obtain⟨o',q1⟩:=u.there b o e n1;exact⟨o',eb b _ (ak b o e) q1⟩
 refine(J.hok b o e).stay (λc v hc q1=>eb c v ?_ q1) (λF q1=>q1) λF F q1=>q1;rcases hc with rfl|z
 .exact qH e nC
 exact qH z nC
have IY:Inv (vV X N scope (O.heap.objs.size+1) fp O H2 (notedBy (model X.prog X.w) X.A (compEnvC scope (clOf X.env scope.names []) (O.heap.objs.size+1) X.env) λe s'=>compPost (model X.prog X.w) X.A X.xe use QQ (.ref O.heap.objs.size) (O.heap.objs.size+1) (.error e) s')) [] (pick ix σ++List.replicate (N.length-ix.length) none) (upd H2 O.heap.objs.size (.lst [])) { O with heap:=a7,toks:=O.toks+([]:List (Str×Value)).length }:=qHX I2 f2 ai hk hc hfr hcap hN ad aj ap
generalize hY:vV X N scope (O.heap.objs.size+1) fp O H2 (notedBy (model X.prog X.w) X.A (compEnvC scope (clOf X.env scope.names []) (O.heap.objs.size+1) X.env) λe s'=>compPost (model X.prog X.w) X.A X.xe use QQ (.ref O.heap.objs.size) (O.heap.objs.size+1) (.error e) s')=Y at IY fin
have a8:PG Y tg g:=hY▸hg _ _ _ _ _
have av:PIf Y ifs tc:=hY▸hif _ _ _ _ _
have bc:PE Y elt te:=hY▸he _ _ _ _ _
have hP:Y.prog=X.prog:=by rw[<-hY]
have hw:Y.w=X.w:=by rw[<-hY]
have hK:Y.K=X.K:=by rw[<-hY]
have ax:ok Y:=hY▸hok _ _ _ _ _
have aa:∀{H':Hp},(∀b∈fp,H' b=none)->∀b∈fp,FpOk Y [] H' b:=fun {H'} hn b S=>by
 rw[<-hY];refine⟨hn b S,?_,λz=>?_,.inl S,λx c e=>?_,λp hp=>(f2 b S).2.2.2.2.2 p (gC _ (by simpa using hp))⟩
 .obtain⟨o,e⟩:=ai b S;exact mR (dO (kX e))
 .rcases kN.mp (I2.stkSub b z)with z|z
  .exact(f2 b S).2.1 z
  exact(f2 b S).2.2.1 z
 exact(f2 b S).2.2.2.2.1 x c (q7E _ _ (by intro q;simp at q) e)
have ag:codeAny (model X.prog X.w) X.A (.compLoop (.ListComp elt [⟨tg,iter,ifs,0⟩] scope pos) 0 (.ref it) (.ref O.heap.objs.size) (compEnvC scope (clOf X.env scope.names []) (O.heap.objs.size+1) X.env))
 (compPost (model X.prog X.w) X.A X.xe use QQ (.ref O.heap.objs.size) (O.heap.objs.size+1)) { O with heap:=a7,toks:=O.toks+([]:List (Str×Value)).length }:=by
 refine qI0 (λn s'=>∃i H',Inv Y [] (pick ix σ++List.replicate (N.length-ix.length) none) H' s'/\tn i s'.heap/\(∀b∈fp,H' b=none)/\W i n H') ?_ m0
  ⟨0,_,IY,T.keep _ _ _ al (λb S o e=>aj b o e),λb S=>by obtain⟨o,e⟩:=ai b S;rw[qD (mR (kX e))];exact(f2 b S).1,w0⟩
 rintro n s3 ⟨i,H3,I3,au,ay,w3⟩
 rcases turn i n H3 w3 with⟨stop,qn⟩|⟨go,NN,hNN,step⟩
 .have d:=T.done Y hP hw hK ax i [] s3 _ H3 Y.xe I3 (aa ay) au stop;subst hY;refine thn d λr s4 hZ=>?_;obtain⟨hr,I4⟩:=hZ;subst hr;exact fin I4 qn
 have d:=T.item Y hP hw hK ax i [] s3 _ H3 Y.xe I3 (aa ay) au go;have ab:∀{p5:List (Addr×Obj)} {s5 s8:Shared} {ah:St} {H8:Hp},p5=q70 fp s5.heap->tn (i+1) s5.heap->ah.length=(pick ix σ++List.replicate (N.length-ix.length) none).length->(∀j,j<ix.length->ah[j]?=(pick ix σ++List.replicate (N.length-ix.length) none)[j]?)->Inv Y ([]++p5) ah H8 s8->NN H8->∃m',m'<n/\∃i H',Inv Y [] (pick ix σ++List.replicate (N.length-ix.length) none) H' s8/\tn i s8.heap/\(∀b∈fp,H' b=none)/\W i m' H':=fun {p5 s5 s8 ah H8} e5 Z l6 k6 I8 q8=>by
  subst e5;obtain⟨m',hm,w8⟩:=hNN _ q8;refine⟨m',hm,i+1,H8,I8.unpinned.weak l6.symm (λj v e=>?_),T.keep _ _ _ Z λb S o e=>(I8.pin (b,o) (kY _ (kY _ (yG S e)))).1,λb S=>?_,w8⟩
  .by_cases hj:j<ix.length
   .rw[k6 j hj];exact e
   rw[dM (by simpa[pick]using hj),wL]at e;split at e<;>cases e
  obtain⟨o,e,_⟩:=T.obj _ _ Z b S;exact(I8.pin (b,o) (kY _ (kY _ (yG S e)))).2.1
 have a0:∀(r:Option Value) (s4:Shared),(∃u,r=some u/\wpAny (model Y.prog Y.w) Y.A (letOwnedTupleGo tg (.ref it) u) (λF O=>∃x H',Inv Y [] (pick ix σ++List.replicate (N.length-ix.length) none) H' O/\RelV x u/\J.yld i H3 x H'/\tn (i+1) O.heap/\∀b∈fp,H' b=none) Y.xe s4)->(match r with
  |none=>compPost (model X.prog X.w) X.A X.xe use QQ (.ref O.heap.objs.size) (O.heap.objs.size+1) (.ok .next) s4
  |some v=>wpAny (model Y.prog Y.w) Y.A (letOwnedTupleGo tg (.ref it) v) (λF cg=>wpAny (model Y.prog Y.w) Y.A (assign tg Y.env v) (λF b7=>
   wpAny (model Y.prog Y.w) Y.A (forIn ifs true λc r=>if r=true then do let ok<-isTrue c Y.env (eval c Y.env);pure (ForInStep.yield ok)else pure (ForInStep.yield r)) (λok bi=>
    if ok=true then wpAny (model Y.prog Y.w) Y.A (eval elt Y.env) (λx cc=>wpAny (model Y.prog Y.w) Y.A (call (.builtin "list.append") [.ref O.heap.objs.size,x]) (λF bu=>∃m,m<n/\∃i H',Inv Y [] (pick ix σ++List.replicate (N.length-ix.length) none) H' bu/\tn i bu.heap/\(∀b∈fp,H' b=none)/\W i m H') Y.xe cc) Y.xe bi
    else ∃m,m<n/\∃i H',Inv Y [] (pick ix σ++List.replicate (N.length-ix.length) none) H' bi/\tn i bi.heap/\(∀b∈fp,H' b=none)/\W i m H') Y.xe b7) Y.xe cg) Y.xe s4):=by
  rintro r s4 ⟨u,rfl,h4⟩
  dsimp only;refine thn h4 λF s5 hZ=>?_;obtain⟨x,H5,I5,r5,y5,Z,a9⟩:=hZ;have ba:=I5.pinned (aa a9) (T.obj _ _ Z);refine thn (a8 _ s5 _ H5 x u _ ba r5 (hown _ _ _ _ (step x H5 y5))) λF s6 hZ=>?_;obtain⟨ah,H6,I6,q6,l6,k6⟩:=hZ;refine thn (av _ s6 ah H6 _ I6 q6) λb s7 hZ=>?_;obtain⟨H7,I7,q7⟩:=hZ;cases b with
  |false=>rw[kI (by decide)]at q7 ⊢;exact ab rfl Z l6 k6 I7 q7
  |true=>rw[kM rfl]at q7 ⊢;refine thn (bc _ s7 ah H7 _ I7 q7) λy s8 hZ=>?_;obtain⟨v,H8,I8,r8,vs,e8,hz,q8⟩:=hZ;refine thn (q0Y (X:=Y) _ s8 ah H8 (.ref O.heap.objs.size) [v] (.ref O.heap.objs.size) [y] (λF H9=>NN H9) I8 rfl (.cons r8 .nil) ⟨O.heap.objs.size,vs,v,rfl,rfl,e8,hz,q8⟩) λF s9 hZ=>?_;obtain⟨_,H9,I9,_,q9⟩:=hZ;exact ab rfl Z l6 k6 I9 q9
 subst hY;exact thn d a0
exact codeAny_compStart_list ag (T.self X.A 0 _ _ _ (T.keep _ _ _ al λb S o e=>aj b o e) ag))
theorem qME{X:Cx}{elt iter tg:Expr}{ifs:List Expr}{scope:Scope}{pos:Pos}{wi:TI}{g:TG}{tc:TT}{te:TE}(N:List Str)(ix:List Nat)(hcalm:X.calm=true)(hi:PI X tg iter wi)
 (hg:∀C fp s H xe,PG (vV X N scope C fp s H xe) tg g) (hif:∀C fp s H xe,PIf (vV X N scope C fp s H xe) ifs tc) (he:∀C fp s H xe,PE (vV X N scope C fp s H xe) elt te)
 (hk:scope.kind=.function) (hc:∀y∈scope.names,y.2≠ .cell) (hfr:∀y∈scope.names,y.2=.free->X.env.kindOf y.1=some .cell) (hcap:q9F X.N X.env.kindOf scope.names N ix=true) (hN:ix.length<=N.length)
 (hnames:∀x∈scope.names,x.2=.local->scope.names.lookup x.1=some .local) (hown:Own g ix.length) (hs:∀x,foldedSetIterable iter X.env x=pure x:=by intro _;rfl):
 PE X (.ListComp elt [⟨tg,iter,ifs,0⟩] scope pos) (tLC wi g tc te ix (N.length-ix.length)):=by intro pins s σ H Q I h;rw[eval_ListComp];exact qD9 N ix _ (λU U U U U=>hcalm) hi.c hg hif he hk hc hfr hcap hN hnames hown I h (λC D H' s' m J z d q=>⟨m,J,λh' O=>⟨.ref D,H',d h' O,rfl,q⟩⟩) hs
noncomputable def qDA(XN:List Str)(kd:Str->Option NameKind)(sc:Scope)(N:List Str)(ix:List Nat):Bool:=decide (sc.kind=.function)&&sc.names.all (λy=>decide (y.2≠ .cell)&&(decide (y.2≠ .free)||decide (kd y.1=some .cell))&&(decide (y.2≠ .local)||decide (sc.names.lookup y.1=some .local)))&&q9F XN kd sc.names N ix&&decide (ix.length<=N.length)
theorem uN{X:Cx}{elt iter tg:Expr}{ifs:List Expr}{scope:Scope}{pos:Pos}{wi:TI}{g:TG}{tc:TT}{te:TE}(N:List Str)(ix:List Nat)(hcalm:X.calm=true)(hi:PI X tg iter wi)
 (hg:∀C fp s H xe,PG (vV X N scope C fp s H xe) tg g) (hif:∀C fp s H xe,PIf (vV X N scope C fp s H xe) ifs tc) (he:∀C fp s H xe,PE (vV X N scope C fp s H xe) elt te)
 (ok:qDA X.N X.env.kindOf scope N ix=true) (hown:Own g ix.length) (hs:∀x,foldedSetIterable iter X.env x=pure x:=by intro _;rfl):
 PE X (.ListComp elt [⟨tg,iter,ifs,0⟩] scope pos) (tLC wi g tc te ix (N.length-ix.length)):=by(
unfold qDA at ok
rw[mU,mU,mU,rB]at ok
obtain⟨⟨⟨h1,h2⟩,h3⟩,h4⟩:=ok
have D:∀y∈scope.names,y.2≠ .cell/\(y.2≠ .free\/X.env.kindOf y.1=some .cell)/\(y.2≠ .local\/scope.names.lookup y.1=some .local):=λy d=>by have q:=h2 y d;rw[mU,mU,wT,wT,mC,mC,mC,mC,mC]at q;exact⟨q.1.1,q.1.2,q.2⟩
exact qME N ix hcalm hi hg hif he (mI h1) (λy d=>(D y d).1) (λy d e=>(D y d).2.1.resolve_left (λz=>z e)) h3 (mI h4) (λy d e=>(D y d).2.2.resolve_left (λz=>z e)) hown hs)
theorem qB6{lo:Int}{n:Nat}{D:Addr}{H2:Hp}{g:TG}{tc:TT}{te:TE}{σ0:St}{Q:VK}(Pv:Nat->Hp->Prop)(h0:Pv 0 H2)
 (hs:∀(i:Nat) H,i<n->Pv i H->g (.int (lo+i)) σ0 H λσ5 H5=>tc σ5 H5 λb H6=>if b=true then te σ5 H6 (λv H7=>∃vs,H7 D=some (.lst vs)/\vs.length<sizeLine/\Pv (i+1) (upd H7 D (.lst (vs++[v]))))else Pv (i+1) H6) (hd:∀H,Pv n H->Q (.ref D) H):
 ∃W:Nat->Nat->Hp->Prop,(∃m,W 0 m H2)/\∀i m H3,W i m H3->((Itr lo n).stop i H3/\Q (.ref D) H3)\/((Itr lo n).go i H3/\∃N:Hp->Prop,(∀H',N H'->∃m',m'<m/\W (i+1) m' H')/\∀x H4,(Itr lo n).yld i H3 x H4->g x σ0 H4 λσ5 H5=>tc σ5 H5 λb H6=>
   if b=true then te σ5 H6 (λv H7=>∃vs,H7 D=some (.lst vs)/\vs.length<sizeLine/\N (upd H7 D (.lst (vs++[v]))))else N H6):=by(
refine⟨λi m H=>m=n-i/\i<=n/\Pv i H,⟨n,by simp,m7 _,h0⟩,?_⟩
rintro i m H ⟨rfl,I,p⟩
by_cases d:i<n
.refine .inr ⟨d,Pv (i+1),λH' z=>⟨n-(i+1),by lia,rfl,by lia,z⟩,?_⟩;rintro x H4 ⟨rfl,rfl⟩
 exact hs i _ d p
obtain rfl:i=n:=by lia
exact .inl ⟨kO _,hd _ p⟩)
theorem qDB{K:PySem.W.Frag}{a:Addr}{xs:List V}{D:Addr}{H2:Hp}{g:TG}{tc:TT}{te:TE}{σ0:St}{Q:VK}(Pv:Nat->Hp->Prop)(h0:Pv 0 H2)(hl:∀i H,Pv i H->SqL K H a xs)
 (hs:∀(i:Nat) x H,xs[i]?=some x->Pv i H->g x σ0 H λσ5 H5=>tc σ5 H5 λb H6=>if b=true then te σ5 H6 (λv H7=>∃vs,H7 D=some (.lst vs)/\vs.length<sizeLine/\Pv (i+1) (upd H7 D (.lst (vs++[v]))))else Pv (i+1) H6) (hd:∀H,Pv xs.length H->Q (.ref D) H):
 ∃W:Nat->Nat->Hp->Prop,(∃m,W 0 m H2)/\∀i m H3,W i m H3->((Itl K a).stop i H3/\Q (.ref D) H3)\/((Itl K a).go i H3/\∃N:Hp->Prop,(∀H',N H'->∃m',m'<m/\W (i+1) m' H')/\∀x H4,(Itl K a).yld i H3 x H4->g x σ0 H4 λσ5 H5=>tc σ5 H5 λb H6=>
   if b=true then te σ5 H6 (λv H7=>∃vs,H7 D=some (.lst vs)/\vs.length<sizeLine/\N (upd H7 D (.lst (vs++[v]))))else N H6):=by(
refine⟨λi m H=>m=xs.length-i/\i<=xs.length/\Pv i H,⟨xs.length,by simp,m7 _,h0⟩,?_⟩
rintro i m H ⟨rfl,S,p⟩
have d:=hl i H p
by_cases I:i<xs.length
.have O:xs[i]?=some xs[i]:=kF I;refine .inr ⟨⟨xs,_,d,O⟩,Pv (i+1),λH' z=>⟨xs.length-(i+1),by lia,rfl,by lia,z⟩,?_⟩;rintro x H4 ⟨rfl,J⟩
 exact hs i x _ (J xs d) p
obtain rfl:i=xs.length:=by lia
exact .inl ⟨⟨xs,d,kO _⟩,hd _ p⟩)
theorem qFX{K:PySem.W.Frag}{a:Addr}{xs:List V}{k:Nat}{D:Addr}{H2:Hp}{te:TE}{σ0:St}{Q:VK}(Pv:Nat->Hp->Prop)(h0:Pv 0 H2)(hl:∀i H,Pv i H->SqL K H a xs)
 (hs:∀(i:Nat) x H,xs[i]?=some x->Pv i H->te (σ0.set k (some x)) H (λv H7=>∃vs,H7 D=some (.lst vs)/\vs.length<sizeLine/\Pv (i+1) (upd H7 D (.lst (vs++[v]))))) (hd:∀H,Pv xs.length H->Q (.ref D) H):
 ∃W:Nat->Nat->Hp->Prop,(∃m,W 0 m H2)/\∀i m H3,W i m H3->((Itl K a).stop i H3/\Q (.ref D) H3)\/((Itl K a).go i H3/\∃N:Hp->Prop,(∀H',N H'->∃m',m'<m/\W (i+1) m' H')/\∀x H4,(Itl K a).yld i H3 x H4->q3L k x σ0 H4 λσ5 H5=>qB4 σ5 H5 λb H6=>if b=true then te σ5 H6 (λv H7=>∃vs,H7 D=some (.lst vs)/\vs.length<sizeLine/\N (upd H7 D (.lst (vs++[v]))))else N H6):=qDB (g:=q3L k) (tc:=qB4) Pv h0 hl (λi x H hx p=>qFW (σ:=σ0.set k (some x)) (A:=λH6=>te (σ0.set k (some x)) H6 _) (B:=λH6=>Pv (i+1) H6) (hs i x H hx p)) hd
noncomputable def rEmp(K:PySem.W.Frag):R2:=λx y H Q=>∃p xs e,x=.ref p/\y=.ref e/\SqL K H p xs/\SqL K H e []/\Q (.bl (decide (xs=[]))) H
theorem q7G{X:Cx}(hu:X.A.units+64<cLine):OpR X (compareOp .Eq) (rEmp X.K):=by(
intro pins s σ H x y v u Q I O ry hZ
obtain⟨p,xs,e,ex,Z,U,S,q⟩:=hZ
subst ex Z
cases O
cases ry
obtain⟨i1,r1,N,_⟩:=I.list U
obtain⟨i2,r2,D,_⟩:=I.list S
have d:=r1.length
have J:=r2.length
cases xs with
|nil=>exact aV (e:=λF=>true) N.isList D.isList (by simp at d J ⊢;lia) (by lia) (λj h1 h2=>by simp at d h1;lia) ⟨.bl true,H,I,by rw[zS];rfl,q⟩
|cons z zs=>exact SeqAt.eq_list_lengthsAt N.isList D.isList (by simp at d J ⊢;lia) (by lia) ⟨.bl false,H,I,rfl,q⟩)
section
variable{X:Cx}{o e f:Expr}{apos cpos:Pos}{td ty tx:TE}
theorem qFY{P:Program}{w:World}{k:Key}{u:Value}(h:(jY P w).is k u=true):RelV (kV k) u:=by(
cases k with
|inl i=>exact xR h
|inr x=>exact lT h)
theorem q10{α β:Type}{F:α->β->Prop}:∀{l₁:List α} {l₂:List β},l₁.length=l₂.length->(∀(j:Nat) a b,l₁[j]?=some a->l₂[j]?=some b->F a b)->Paired F l₁ l₂
| [],[],_,_=>.nil
|a::l,b::l',h,k=>.cons (k 0 a b rfl rfl) (q10 (by simpa using h) λj x y hx hy=>k (j+1) x y (by simpa using hx) (by simpa using hy))
| [],_::_,h,_=>by simp at h
|_::_,[],h,_=>by simp at h
end
theorem q6O:∀{ns:List Int} {vs:List Value},Vals (ns.map V.int) vs->IntsAre vs ns
| [],_,.nil=>.nil
|n::ns,_,.cons h t=>by obtain⟨t0,rfl⟩:=h;exact .cons n t0 (q6O t)
section
variable{X:Cx}
theorem q4Q:∀{vs:List Value} {ns:List Int},IntsAre vs ns->Vals (ns.map V.int) vs
|_,_,.nil=>.nil
|_,_,.cons n t h=>.cons ⟨t,rfl⟩ (q4Q h)
theorem q9Y:q20 X (.builtin "sorted") (λxs H Q=>∃(p:Addr) (ns:List Int),xs=[.ref p]/\SqL X.K H p (ns.map V.int)/\ns.length<64/\∀ns':List Int,ns'.Perm ns->ns'.Pairwise (·<=·)->NewO H (.lst (ns'.map V.int)) Q):=by(
intro pins s σ H xs us Q I r hZ
obtain⟨p,ns,ex,S,h64,q⟩:=hZ
subst ex
obtain⟨u,rfl,U⟩:=q09 r
cases U
obtain⟨z,O,pl,hz⟩:=I.list S
have hi:=q6O O
have d:z.length<64:=by rw[<-O.length,kB];exact h64
refine sorted_ints pl.isList hi d λD ns' a1 N a3=>?_
obtain⟨e,Z⟩:=sortedAll_at s.heap z D
have J:(ns'.map V.int).length<=sizeLine:=by rw[kB,N.length_eq,gR];lia
exact⟨.ref (s.heap.objs.size+1),_,I.laid (t':=s.toks) (λF F h=>sortedAll_old h) (dG _) (show jL X.prog X.w _ _ _ (.lst _)from⟨J,D.toList,e,q4Q a1,by simpa[seqObj]using Z⟩),rfl,(q ns' N a3).at _ (I.hok.fresh (dG _))⟩)
end
structure Mk0(K:PySem.W.Frag)(C:Addr):Prop where
makes:PySem.W.makesIn K C=true
init:PySem.W.findIn K (.ref C) "__init__"=some (some (.builtin "object.__init__"))
kp:PySem.W.keepIn K (.ref C)=true
section
variable{X:Cx}{C:Addr}{x:Str}{p pos:Pos}
noncomputable def tMk0(C:Addr):TE:=λσ H Q=>∀x dx,H x=none->H dx=none->dx≠x->Q (.ref x) (upd (upd H dx (.own x)) x (.ins C dx []))
theorem qFZ{pins:List (Addr×Obj)}{σ:St}{H:Hp}{s:Shared}{Q:VK}(M:Mk0 X.K C)(I:Inv X pins σ H s)(h:tMk0 C σ H Q):wpAny (model X.prog X.w) X.A (call (.ref C) []) (EP X pins σ Q) X.xe s:=by(
have N:=h (s.heap.objs.size+1) s.heap.objs.size (I.hok.fresh (dG _)) (I.hok.fresh (kO _)) (mR (d8 _))
have S:=Inv.made (C:=C) I
have D:=I.kIn
obtain⟨z,g,d,t,os⟩:=s
have Y:=aI (M:=model X.prog X.w) D M.makes
have O:((z.push PySem.W.emptyDict).push (PySem.W.instObj C z.objs.size)).get? (z.objs.size+1)=some (PySem.W.instObj C z.objs.size):=by have:=mP (z.push PySem.W.emptyDict) (o:=PySem.W.instObj C z.objs.size) rfl;rwa [sJ]at this
have ty:PySem.W.Looks (model X.prog X.w) ((z.push PySem.W.emptyDict).push (PySem.W.instObj C z.objs.size)) (typeOf (.ref (z.objs.size+1))) (.ref C):=(aK O).andThen .now
have top:PySem.W.Looks (model X.prog X.w) ((z.push PySem.W.emptyDict).push (PySem.W.instObj C z.objs.size)) (isInstance (.ref (z.objs.size+1)) (.type "object")) true:=ty.andThen (Y.top.keeps λb o e=>kJ _ (kJ _ e))
refine cF (xV Y (cE D M.init) (λJ=>b9 (PySem.W.oi_bind J)) (.inr ⟨rfl,rfl⟩) ?_)
refine pQ PySem.W.oi_plain PySem.W.entry_oi (@xL (model X.prog X.w) _ _ _ "object.__init__" "object" "__init__" (.ref (z.objs.size+1)) [] [] _ PySem.W.oi_kind PySem.W.oi_split top (PySem.W.oi_args (.ref (z.objs.size+1))) ?_)
rw[PySem.W.oi_run]
exact mE ⟨rfl,⟨.ref (z.objs.size+1),_,S,rfl,N⟩⟩)
theorem qG0(M:Mk0 X.K C)(hg:Gl X x)(hm:X.mg x=some (.ref C))(hdb:(x==("__debug__":Str))=false:=by decide):PE X (.Call (.Name x p) [] [] pos) (tMk0 C):=by intro pins s σ H Q I h;exact g5 (q08 I hg hm (p8 I.kIn M.kp (qFZ M I h)) hdb)
end
section
variable{X:Cx}{pins:List (Addr×Obj)}{σ:St}{H:Hp}{s:Shared}{a:Addr}
theorem Inv.freeze{kvs:List (Key×V)}{o:Obj}(I:Inv X pins σ H s)(e:H a=some (.dK kvs))(ho:s.heap.get? a=some o):Inv X pins σ (upd H a (.frz o (.dK kvs))) s:=by(
have ne:∀b u,H b=some u->u≠ .dK kvs->b≠a:=λb u q n z=>by rw[z,e]at q;exact n (kQ q).symm
have d:∀b,H b=none->b≠a:=λb q z=>by rw[z,e]at q;cases q
refine⟨I.ok,I.os,I.bare,I.base.trans ⟨λb u q U U U=>q,λb u q U U U=>⟨u.slots,q⟩,λb u q n U=>by rw[qD (d b n)];exact n,λb u q U=>⟨u,q⟩,λb xs q=>by rw[qD (ne b _ q (by intro z;cases z))];exact q,λb u v q=>by rw[qD (ne b _ q (by intro z;cases z))];exact q,λb ps q=>⟨#[],by rw[qD (ne b _ q (by intro z;cases z)),q];simp⟩⟩,I.loc,I.cell,by rw[qD (d _ I.free)];exact I.free,λx c q=>by rw[qD (d _ (I.freeC x c q))];exact I.freeC x c q,λp N=>?_,λb u q=>?_,I.len⟩
.obtain⟨S,J,O⟩:=I.pin p N;exact⟨S,by rw[qD (d _ J)];exact J,O⟩
have st:∀b u,jL X.prog X.w H s.heap b u->jL X.prog X.w (upd H a (.frz o (.dK kvs))) s.heap b u:=λb u q=>q.stay (λU U U z=>z) (λc z=>by rw[qD (ne c _ z (by intro z;cases z))];exact z) (λc xs z=>by rw[qD (ne c _ z (by intro z;cases z))];exact z)
by_cases D:b=a
.subst D;rw[qI]at q;cases q;exact⟨ho,st b _ (I.hok b _ e)⟩
rw[qD D]at q
exact st b u (I.hok b u q))
theorem Inv.thaw{o:Obj}{u:HO}(I:Inv X pins σ H s)(hne:∀o u,X.H₀ a≠some (.frz o u))(e:H a=some (.frz o u)):Inv X pins σ (upd H a u) s:=by(
have ne:∀b v,H b=some v->v≠ .frz o u->b≠a:=λb v q n z=>by rw[z,e]at q;exact n (kQ q).symm
have D:∀b,H b=none->b≠a:=λb q z=>by rw[z,e]at q;cases q
have Z:∀b v,X.H₀ b=some v->(∃o' J,v=.frz o' J)->b≠a:=λb v q ⟨o',J,z⟩ w=>by rw[w,z]at q;exact hne o' J q
refine⟨I.ok,I.os,I.bare,⟨I.base.keep,I.base.slot,λb v q n U=>?_,I.base.there,λb xs q=>?_,λb v w q=>?_,λb ps q=>?_⟩,I.loc,I.cell,by rw[qD (D _ I.free)];exact I.free,λx c q=>by rw[qD (D _ (I.freeC x c q))];exact I.freeC x c q,λp S=>?_,λb v q=>?_,I.len⟩
.have:=I.base.free b v q n U;rw[qD (D b this)];exact this
.have:=I.base.tups b xs q;rw[qD (ne b _ this (by intro z;cases z))];exact this
.rw[qD (Z b _ q ⟨_,_,rfl⟩)];exact I.base.frzs b v w q
.obtain⟨more,d⟩:=I.base.tbls b ps q;exact⟨more,by rw[qD (ne b _ d (by intro z;cases z))];exact d⟩
.obtain⟨O,d,q3⟩:=I.pin p S;exact⟨O,by rw[qD (D _ d)];exact d,q3⟩
have st:∀b v,jL X.prog X.w H s.heap b v->jL X.prog X.w (upd H a u) s.heap b v:=λb v q=>q.stay (λF F F z=>z) (λc z=>by rw[qD (ne c _ z (by intro z;cases z))];exact z) (λc xs z=>by rw[qD (ne c _ z (by intro z;cases z))];exact z)
by_cases N:b=a
.subst N;rw[qI]at q;cases q;exact st b _ (I.hok b _ e).2
rw[qD N]at q
exact st b v (I.hok b v q))
end
noncomputable def Itd(a:Addr)(o:Obj)(kvs:List (Key×V)):It:=⟨λi H=>H a=some (.frz o (.dK kvs))/\i<kvs.length,λi H x H'=>H'=H/\∃kv,kvs[i]?=some kv/\x=kV kv.1,λi H=>H a=some (.frz o (.dK kvs))/\kvs.length<=i⟩
theorem qEL{P:Program}{w:World}{K:PySem.W.Frag}{tg:Expr}(a it:Addr)(o:Obj){kvs:List (Key×V)}{vs:List (Key×Value)}{ep:Nat}(rel:KV kvs vs)(hD:∀h:Heap,h.get? a=some o->h.DictAt (jY P w) a vs ep):
 Turn P w K tg (Itd a o kvs) [it] it (λi h=>h.IsKeyIter it a i vs.length ep) where
mem:=by simp
obj:=λi h st b D=>by
 have e:b=it:=by simpa using D
 subst e;obtain⟨o',e,c,d⟩:=st;exact⟨o',e,λv z=>by rw[d]at z;cases z⟩
keep:=λi h h' st k=>st.at λo e=>k it (by simp) o e
item:=by
 intro X Z hw hK hc i pins s σ H E I O st hg;subst Z hw hK;obtain⟨ha,U⟩:=hg;obtain⟨ho,_⟩:=I.hok a _ ha;have hl:=rel.length;have N:i<vs.length:=by lia
 obtain⟨f0,S,f2,f3,f4,f5⟩:=O it (by simp);refine wpAny_pyNext_dict_item (k:=vs[i].1) (v:=vs[i].2) st (hD _ ho) (kF N) λaf h' hk J sb=>?_;have I1:Inv X pins σ H { s with heap:=h' }:=I.turned (t':=s.toks) (λb o D e=>(sb.2 b D).trans e) f0 S f3 f4 f5;obtain⟨o',e',c',d'⟩:=id J;refine⟨af,rfl,qEZ (s:={ s with heap:=h' }) e' c' d' (by decide) ⟨kV kvs[i].1,H,I1,?_,⟨rfl,kvs[i],kF U,rfl⟩,J,λb D=>(O b D).1⟩⟩;have ek:=rL (λl=>l[i]?) rel.keys;simp only[kZ,kF U,kF N,aX]at ek;rw[kQ ek];exact qFY hk
done:=by intro X Z hw hK hc i pins s σ H E I O st hg;subst Z hw hK;obtain⟨ha,U⟩:=hg;obtain⟨ho,_⟩:=I.hok a _ ha;have hl:=rel.length;obtain⟨f0,S,f2,f3,f4,f5⟩:=O it (by simp);exact wpAny_pyNext_dict_end (I.ok.hd hc) st (hD _ ho) (rT (by lia)) λh' eb=>⟨rfl,I.turned (t':=s.toks) (λb o D e=>eb b o D e) f0 S f3 f4 f5⟩
self:=λF F F F F st h=>wpAny_pyIter_keyiter st h
section
variable{X:Cx}{tg:Expr}
noncomputable def iDct(td:TE):TI:=λσ H R=>td σ H λx H1=>∃a kvs,x=.ref a/\H1 a=some (.dK kvs)/\∀o,R (Itd a o kvs) (upd H1 a (.frz o (.dK kvs)))
theorem qI1{d:Expr}{td:TE}(hd:PE X d td):PI X tg d (iDct td):=by(
intro pins s σ H R I h
refine thn (hd pins s σ H _ I h) λv J hZ=>?_
obtain⟨x,H1,S,r1,q1⟩:=hZ
obtain⟨a,kvs,e,U,q⟩:=q1
subst e
cases r1
obtain⟨z,lo,vs,O,dd⟩:=q9A S.hok U
obtain⟨ep,D⟩:=dd.dictAt
obtain⟨o,es,ho,Z⟩:=id D
have N:=S.freeze U ho
refine wpAny_pyIter_dict lo D ?_
refine⟨J.heap.objs.size,[J.heap.objs.size],_,_,_,rfl,N.kept (t':=J.toks) λb o e=>kJ _ e,qEL a _ o O (λh' h=>⟨o,es,h,Z⟩),⟨_,mP _ rfl,rfl,rfl⟩,λb hb=>?_,q o⟩
have e:b=J.heap.objs.size:=by simpa using hb
subst e
exact N.fpOk (kO _) (N.hok.fresh (kO _)))
theorem qL1{pins:List (Addr×Obj)}{σ:St}{H:Hp}{s:Shared}{a:Addr}{kvs:List (Key×V)}(I:Inv X pins σ H s)(e:H a=some (.dK kvs)):∀o u,X.H₀ a≠some (.frz o u):=λo u q=>by have:=I.base.frzs a o u q;rw[e]at this;cases this
noncomputable def qMF(t:TE):TE:=λσ H Q=>∃a kvs,H a=some (.dK kvs)/\t σ H λv H'=>∃o u,H' a=some (.frz o u)/\Q v (upd H' a u)
theorem qDC{e:Expr}{t:TE}(h:PE X e t):PE X e (qMF t):=by(
intro pins s σ H Q I J
obtain⟨a,kvs,D,q⟩:=J
have z:=qL1 I D
refine thn (h pins s σ H _ I q) λu s' ⟨v,H',d,r,o,w,e,q⟩=>⟨v,_,d.thaw z e,r,q⟩)
theorem qI2{a:Addr}{o:Obj}{kvs:List (Key×V)}{D:Addr}{H2:Hp}{g:TG}{tc:TT}{te:TE}{σ0:St}{Q:VK}(Pv:Nat->Hp->Prop)(h0:Pv 0 H2)(hl:∀i H,Pv i H->H a=some (.frz o (.dK kvs)))
 (hs:∀(i:Nat) kv H,kvs[i]?=some kv->Pv i H->g (kV kv.1) σ0 H λσ5 H5=>tc σ5 H5 λb H6=>if b=true then te σ5 H6 (λv H7=>∃vs,H7 D=some (.lst vs)/\vs.length<sizeLine/\Pv (i+1) (upd H7 D (.lst (vs++[v]))))else Pv (i+1) H6) (hd:∀H,Pv kvs.length H->Q (.ref D) H):
 ∃W:Nat->Nat->Hp->Prop,(∃m,W 0 m H2)/\∀i m H3,W i m H3->((Itd a o kvs).stop i H3/\Q (.ref D) H3)\/((Itd a o kvs).go i H3/\∃N:Hp->Prop,(∀H',N H'->∃m',m'<m/\W (i+1) m' H')/\∀x H4,(Itd a o kvs).yld i H3 x H4->g x σ0 H4 λσ5 H5=>tc σ5 H5 λb H6=>
   if b=true then te σ5 H6 (λv H7=>∃vs,H7 D=some (.lst vs)/\vs.length<sizeLine/\N (upd H7 D (.lst (vs++[v]))))else N H6):=by(
refine⟨λi m H=>m=kvs.length-i/\i<=kvs.length/\Pv i H,⟨kvs.length,by simp,m7 _,h0⟩,?_⟩
rintro i m H ⟨rfl,J,p⟩
have q:=hl i H p
by_cases d:i<kvs.length
.refine .inr ⟨⟨q,d⟩,Pv (i+1),λH' z=>⟨kvs.length-(i+1),by lia,rfl,by lia,z⟩,?_⟩;rintro v H' ⟨rfl,kv,I,rfl⟩
 exact hs i kv _ I p
obtain rfl:i=kvs.length:=by lia
exact .inl ⟨⟨q,kO _⟩,hd _ p⟩)
end
section
variable{X:Cx}
theorem qB7{ns:List Int}{us:List Value}(r:Vals (ns.map V.int) us){j:Nat}(h:j<us.length):∃t,us[j]=.int (ns.getD j 0) t:=by(
obtain⟨x,e,q⟩:=r.atN h
rw[kZ]at e
cases z:ns[j]? with
|none=>rw[z]at e;cases e
|some i=>rw[z]at e;obtain rfl:V.int i=x:=kQ e;obtain⟨t,q⟩:=q;refine⟨t,?_⟩;rw[kL,z];exact q)
theorem qG1{ns ms:List Int}(h:ns.length=ms.length):(List.range ns.length).all (λj=>ns.getD j 0==ms.getD j 0)=decide (ns=ms):=by(
rw[wS,rB,mC]
constructor
.intro z;refine dL h λj h1 h2=>?_;have:=z j (mO.mpr h1);rw[d7,kL,kL,kF h1,kF h2]at this;exact this
rintro rfl j _
exact beq_self_eq_true _)
noncomputable def qMG(K:PySem.W.Frag):R2:=λx y H Q=>∃(a b:Addr) (ns ms:List Int),x=.ref a/\y=.ref b/\SqT K H a (ns.map V.int)/\SqT K H b (ms.map V.int)/\ns.length=ms.length/\Q (.bl (!decide (ns=ms))) H
theorem qI3(hu:X.A.units+64<cLine):OpR X (compareOp .NotEq) (qMG X.K):=by(
intro pins s σ H x y v u Q I S ry h
obtain⟨a,b,ns,ms,rfl,rfl,ha,N,hl,q⟩:=h
cases S
cases ry
obtain⟨d,J,p1,_⟩:=I.tuple ha
obtain⟨D,r2,p2,_⟩:=I.tuple N
have l1:=J.length
have O:=r2.length
rw[kB]at l1 O
refine lY (e:=λj=>ns.getD j 0==ms.getD j 0) (show s.heap.IsTuple a d.toArray from p1) (show s.heap.IsTuple b D.toArray from p2) (by lia) (λj h1 h2=>?_) _ _ _ _ ⟨.bl _,H,I,?_,q⟩
.obtain⟨Z,e1⟩:=qB7 J (j:=j) (by simpa using h1);obtain⟨t2,U⟩:=qB7 r2 (j:=j) (by simpa using h2);have z:=sN (A:=X.A.in1) (s:=s) (ns.getD j 0) Z (ms.getD j 0) t2;rw[<-e1,<-U]at z;simpa using z
rw[show min d.toArray.size D.toArray.size=ns.length by simp;lia,qG1 hl,show(d.toArray.size==D.toArray.size)=true by simp;lia,Bool.and_true]
rfl)
set_option tactic.hygienic true in
theorem qI4{a:Int}{n:Nat}(h:a.natAbs<2 ^ n):Builtin.Int.intBits a<=n:=by(
unfold Builtin.Int.intBits
split
.exact m7 _
rename_i z
have:a.natAbs≠0:=by intro y;exact z (by rw[d7];lia)
have:=(Nat.log2_lt this).mpr h
lia)
end
end L2
namespace W1
open PySem L2
structure Tl where
b:Int
lv:Int
cl:Int
bo:Int
noncomputable abbrev Tl.ns(T:Tl):List Int:=[T.b,T.lv,T.cl,T.bo]
noncomputable def TlAt(H:Hp)(v:V)(T:Tl):Prop:=∃a,v=.ref a/\H a=some (.tup (T.ns.map V.int))
theorem TlAt.same{H H':Hp}{v:V}{T:Tl}(s:Same H H')(h:TlAt H v T):TlAt H' v T:=let⟨a,e,z⟩:=h;⟨a,e,s _ _ z⟩
noncomputable abbrev Tls(H:Hp):List V->List Tl->Prop:=Paired (TlAt H)
theorem Tls.same{H H':Hp}{vs:List V}{ts:List Tl}(s:Same H H')(h:Tls H vs ts):Tls H' vs ts:=Paired.mapP h λd d z=>z.same s
theorem Tl.eq_of{A B:Tl}(h:A.ns=B.ns):A=B:=by cases A;cases B;simp[Tl.ns]at h;simp[h]
structure Tl.Ok(pg nw:Int)(T:Tl):Prop where
b0:0<=T.b
b1:T.b<16
l0:0<=T.lv
l1:T.lv<=pg
c0:0<=T.cl
c1:T.cl<10 ^ 30
o0:0<=T.bo
o1:T.bo<nw
noncomputable def unb(f:Tl->Int)(ts:List Tl)(T:Tl):Bool:=ts.all λo=>!decide (f o<f T)
theorem q7H(f:Tl->Int):∀ts:List Tl,ts≠[]->∃T∈ts,∀o∈ts,f T<=f o
| [],h=>absurd rfl h
| [T],_=>⟨T,kE.mpr rfl,λo ho=>by rw[kE.mp ho];exact gE _⟩
|T::U::r,_=>by
 obtain⟨M,hm,hl⟩:=q7H f (U::r) (by simp);by_cases h:f T<=f M
 .refine⟨T,kU ..,λo ho=>?_⟩;rcases kN.mp ho with rfl|ho
  .exact gE _
  have:=hl o ho;lia
 refine⟨M,hU _ hm,λo ho=>?_⟩;rcases kN.mp ho with rfl|ho
 .lia
 exact hl o ho
theorem q6P{f:Tl->Int}{ts:List Tl}{T:Tl}:unb f ts T=true↔∀o∈ts,f T<=f o:=by(
unfold unb
rw[rB]
constructor
.intro h o d;have:=h o d;rw[wF,wN]at this;lia
intro h o d
have:=h o d
rw[wF,wN]
lia)
theorem q7I(f:Tl->Int)(ts:List Tl)(h:ts≠[]):∃i,∃hi:i<ts.length,unb f ts ts[i]=true/\∀j,∀hj:j<i,unb f ts (ts[j]'(by lia))=false:=by(
obtain⟨T,hT,S⟩:=q7H f ts h
obtain⟨k,D,e⟩:=rM hT
have d:∀n,n<ts.length->(∃z:n<ts.length,unb f ts ts[n]=true)->∃i,∃hi:i<ts.length,unb f ts ts[i]=true/\∀j,∀hj:j<i,unb f ts (ts[j]'(by lia))=false:=by
 intro n;induction n using Nat.strongRecOn with
 |ind n O=>
  intro I J;obtain⟨z,N⟩:=J;by_cases g:∃j,∃hj:j<n,unb f ts (ts[j]'(by lia))=true
  .obtain⟨j,hj,u⟩:=g;exact O j hj (by lia) ⟨by lia,u⟩
  refine⟨n,I,N,λj hj=>?_⟩;cases u:unb f ts (ts[j]'(by lia))with
  |false=>rfl
  |true=>exact absurd ⟨j,hj,u⟩ g
exact d k D ⟨D,q6P.mpr (by rw[e];exact S)⟩)
noncomputable def pk(f:Tl->Int)(ts:List Tl):Int:=((ts.find? (unb f ts)).map Tl.b).getD 0
theorem qJL{f:Tl->Int}{ts:List Tl}{i:Nat}(hi:i<ts.length)(u:unb f ts ts[i]=true)(n:∀j,∀hj:j<i,unb f ts (ts[j]'(by lia))=false):pk f ts=ts[i].b:=by(
have e:ts.find? (unb f ts)=some ts[i]:=by rw[List.find?_eq_some_iff_getElem];exact⟨u,i,hi,rfl,λj hj=>by rw[n j hj];rfl⟩
unfold pk
rw[e]
rfl)
theorem q1G{H:Hp}{x dx C:Addr}(nx:H x=none)(nd:H dx=none):Same H (upd (upd H dx (.own x)) x (.ins C dx [])):=λb o e=>by rw[qD (qH e nx),qD (qH e nd)];exact e
end W1
namespace L2
open PySem PySem.Spec PyProof.Rows
theorem q4R{X:Cx}{K:PySem.W.Frag}(e:X.K=K):IxR X (rIxT K):=by subst e;exact uD
theorem q4S{X:Cx}{K:PySem.W.Frag}(e:X.K=K):IxR X (rIxL K):=by subst e;exact qY
theorem qCF{X:Cx}{K:PySem.W.Frag}(e:X.K=K):OpR X (compareOp .In) (rIn K false):=by subst e;exact qEC
theorem q3M{X:Cx}{K:PySem.W.Frag}(e:X.K=K):OpR X (compareOp .NotIn) (rIn K true):=by subst e;exact q4M
theorem q7J{X:Cx}{elt iter tg:Expr}{ifs:List Expr}{scope:Scope}{pos py spos:Pos}{wi:TI}{g:TG}{tc:TT}{te:TE}{i:Nat}{y:Str}(N:List Str)(ix:List Nat)(hcalm:X.calm=true)(hi:PI X tg iter wi)
 (hg:∀C fp s H xe,PG (vV X N scope C fp s H xe) tg g) (hif:∀C fp s H xe,PIf (vV X N scope C fp s H xe) ifs tc) (he:∀C fp s H xe,PE (vV X N scope C fp s H xe) elt te)
 (ok:qDA X.N X.env.kindOf scope N ix=true) (hown:Own g ix.length) (hN:X.N.Nodup) (hy:X.N[i]?=some y) (hl:Loc X.env.scope y)
 (hsw:swapsWith (.ListComp elt [⟨tg,iter,ifs,0⟩] scope pos) (some (.Name y py)) spos.line X.env=pure true:=by rfl) (hf:X.fn y=true\/X.env.scope.names.lookup y=some .local:=by first|exact .inl rfl|exact .inr rfl|assumption)
 (hs:∀x,foldedSetIterable iter X.env x=pure x:=by intro _;rfl):
 PS X (.Assign [.Name y py] (.ListComp elt [⟨tg,iter,ifs,0⟩] scope pos) spos) (tAsg (tLC wi g tc te ix (N.length-ix.length)) (q3L i)):=by(
unfold qDA at ok
rw[mU,mU,mU,rB]at ok
obtain⟨⟨⟨h1,h2⟩,h3⟩,h4⟩:=ok
have d:∀y∈scope.names,y.2≠ .cell/\(y.2≠ .free\/X.env.kindOf y.1=some .cell)/\(y.2≠ .local\/scope.names.lookup y.1=some .local):=λy hy=>by have q:=h2 y hy;rw[mU,mU,wT,wT,mC,mC,mC,mC,mC]at q;exact⟨q.1.1,q.1.2,q.2⟩
intro pins s σ H D I h
rw[exec_Assign_Name_used _ _ _ _ hsw]
refine kD (sY (kD ?_))
show wpAny _ X.A (do let _<-comprehension (.ListComp elt [⟨tg,iter,ifs,0⟩] scope pos) scope X.env _ (newList []) false (eval iter X.env) (some (assign (.Name y py) X.env))) _ _ s
refine kD (g4 (qD9 (use:=some (assign (.Name y py) X.env)) (QQ:=λF s'=>∃σ' H',Inv X pins σ' H' s'/\D.nx σ' H') N ix _ (λF F F F F=>hcalm) hi.c hg hif he (mI h1) (λy hy=>(d y hy).1) (λy hy e=>(d y hy).2.1.resolve_left (λz=>z e)) h3 (mI h4) (λy hy e=>(d y hy).2.2.resolve_left (λz=>z e)) hown I h
 (λC Dl H' s' m hm fp U q=>?_) hs) (λF s' hq=>mE (mE hq)) λF F e=>e)
have I':Inv X pins σ H' s':=U s'.heap (Heap.SameBut.refl _ _)
show wpAny _ _ (assign (.Name y py) X.env (.ref Dl)) _ _ _
refine xS (q8V (v:=.ref Dl) I' hN hy hl rfl (λaa Z hZ=>?_) hf)
obtain⟨a,sb,J⟩:=hZ
have aC:C≠a:=λz=>by
 rcases J with J|J
 .exact fp.2.1 (z.trans J)
 exact fp.2.2.2.2.1 _ _ J z.symm
refine⟨m,hm.sameBut sb aC,λh' S=>⟨_,H',Z.turnedN (t':=aa.toks) (fp:=[C]) (λb o O e=>S.extBut b o (λz=>O (kE.mpr z)) e) (λb O=>by rw[kE.mp O];exact fp),q⟩⟩)
theorem v4{K:PySem.W.Frag}{a:Addr}{xs:List V}{D:Addr}{H2:Hp}{g:TG}{tc:TT}{te:TE}{σ0:St}{R:Hp->Prop}(Pv:Nat->Hp->Prop)(h0:Pv 0 H2)(hl:∀i H,Pv i H->SqL K H a xs)
 (hs:∀(i:Nat) x H,xs[i]?=some x->Pv i H->g x σ0 H λσ5 H5=>tc σ5 H5 λb H6=>if b=true then te σ5 H6 (λv H7=>∃vs,H7 D=some (.lst vs)/\vs.length<sizeLine/\Pv (i+1) (upd H7 D (.lst (vs++[v]))))else Pv (i+1) H6) (hd:∀H,Pv xs.length H->R H):
 ∃W:Nat->Nat->Hp->Prop,(∃m,W 0 m H2)/\∀i m H3,W i m H3->((Itl K a).stop i H3/\R H3)\/((Itl K a).go i H3/\∃N:Hp->Prop,(∀H',N H'->∃m',m'<m/\W (i+1) m' H')/\∀x H4,(Itl K a).yld i H3 x H4->g x σ0 H4 λσ5 H5=>tc σ5 H5 λb H6=>if b=true then te σ5 H6 (λv H7=>∃vs,H7 D=some (.lst vs)/\vs.length<sizeLine/\N (upd H7 D (.lst (vs++[v]))))else N H6):=qDB (Q:=λz H=>R H) Pv h0 hl hs hd
theorem qB8{K:PySem.W.Frag}{a:Addr}{xs:List V}{k:Nat}{D:Addr}{H2:Hp}{te:TE}{σ0:St}{R:Hp->Prop}(Pv:Nat->Hp->Prop)(h0:Pv 0 H2)(hl:∀i H,Pv i H->SqL K H a xs)
 (hs:∀(i:Nat) x H,xs[i]?=some x->Pv i H->te (σ0.set k (some x)) H (λv H7=>∃vs,H7 D=some (.lst vs)/\vs.length<sizeLine/\Pv (i+1) (upd H7 D (.lst (vs++[v]))))) (hd:∀H,Pv xs.length H->R H):
 ∃W:Nat->Nat->Hp->Prop,(∃m,W 0 m H2)/\∀i m H3,W i m H3->((Itl K a).stop i H3/\R H3)\/((Itl K a).go i H3/\∃N:Hp->Prop,(∀H',N H'->∃m',m'<m/\W (i+1) m' H')/\∀x H4,(Itl K a).yld i H3 x H4->q3L k x σ0 H4 λσ5 H5=>qB4 σ5 H5 λb H6=>if b=true then te σ5 H6 (λv H7=>∃vs,H7 D=some (.lst vs)/\vs.length<sizeLine/\N (upd H7 D (.lst (vs++[v]))))else N H6):=qFX (Q:=λz H=>R H) Pv h0 hl hs hd
end L2
namespace L2
open PySem PySem.W PyProof.Rows
noncomputable def hT{α:Type}(c:Nat->Nat->Bool)(n:Nat):KasT α->(α->Prop)->Prop
| .ret a,Q=>Q a
| .ask i j k,Q=>i<n/\j<n/\hT c n (k (c i j)) Q
theorem yY{α:Type}{c:Nat->Nat->Bool}{n:Nat}{Q Q':α->Prop}(h:∀a,Q a->Q' a):∀t:KasT α,hT c n t Q->hT c n t Q'
| .ret a,q=>h a q
| .ask i j k,q=>⟨q.1,q.2.1,yY h (k (c i j)) q.2.2⟩
theorem q39{α β:Type}{c:Nat->Nat->Bool}{n:Nat}{f:α->KasT β}{Q:β->Prop}:∀t:KasT α,hT c n t (λa=>hT c n (f a) Q)->hT c n (t.bind f) Q
| .ret a,q=>q
| .ask i j k,q=>⟨q.1,q.2.1,q39 (k (c i j)) q.2.2⟩
theorem qG2{α:Type}{c:Nat->Nat->Bool}{n:Nat}{cmp:Nat->Nat->(Bool->Shared->Prop)->Shared->Prop}{G:α->Shared->Prop}{s:Shared}(hc:∀i j C,i<n->j<n->C (c i j) s->cmp i j C s):
 ∀t:KasT α,hT c n t (λa=>G a s)->t.kasWp cmp G s
| .ret a,q=>q
| .ask i j k,q=>hc i j _ q.1 q.2.1 (qG2 hc (k (c i j)) q.2.2)
section
variable{r:Nat->Int}{n:Nat}
noncomputable abbrev rc(r:Nat->Int):Nat->Nat->Bool:=λi j=>decide (r i<r j)
noncomputable abbrev kk(r:Nat->Int)(p:Array Nat)(i:Nat):Int:=r (p.getD i 0)
noncomputable def Srt(r:Nat->Int)(p:Array Nat)(m:Nat):Prop:=∀i j,i<=j->j<m->kk r p i<=kk r p j
noncomputable def Dec(r:Nat->Int)(p:Array Nat)(m:Nat):Prop:=∀i j,i<=j->j<m->kk r p j<=kk r p i
noncomputable def Gp(n:Nat)(p:Array Nat):Prop:=p.Perm (List.range n).toArray
theorem Gp.size{p:Array Nat}(g:Gp n p):p.size=n:=by have:=g.size_eq;simpa using this
theorem Gp.lt{p:Array Nat}(g:Gp n p){i:Nat}(h:i<n):p.getD i 0<n:=by(
have d:i<p.size:=by rw[g.size];exact h
have e:p.getD i 0=p[i]:=by simp[Array.getD,d]
have:p[i]∈(List.range n).toArray:=g.mem_iff.mp (Array.getElem_mem d)
rw[e]
simpa using this)
theorem Srt.more{p:Array Nat}{m:Nat}(h:Srt r p m)(e:kk r p (m-1)<=kk r p m):Srt r p (m+1):=λi j hij hj=>by(
by_cases z:j<m
.exact h i j hij z
have ej:j=m:=by lia
subst ej
by_cases z2:i=j
.subst z2;exact gE _
exact pE (h i (j-1) (by lia) (by lia)) e)
theorem Dec.more{p:Array Nat}{m:Nat}(h:Dec r p m)(e:kk r p m<=kk r p (m-1)):Dec r p (m+1):=λi j hij hj=>by(
by_cases z:j<m
.exact h i j hij z
have ej:j=m:=by lia
subst ej
by_cases z2:i=j
.subst z2;exact gE _
exact pE e (h i (j-1) (by lia) (by lia)))
theorem q4T{p q:Array Nat}{i j:Nat}(h:p[i]?=q[j]?):p.getD i 0=q.getD j 0:=by rw[sB,sB,h]
theorem qCG{p:Array Nat}{i j:Nat}(hj:j<=p.size)(k:Nat):(kas_rev p i j).getD k 0=if i<=k/\k<j then p.getD (i+j-1-k) 0 else p.getD k 0:=by(
unfold kas_rev
by_cases h:i<=k/\k<j
.rw[kM h];exact q4T (by rw[lZ hj,kM h])
rw[kI h]
exact q4T (by rw[lZ hj,kI h]))
theorem Gp.rev{p:Array Nat}(g:Gp n p)(i j:Nat):Gp n (kas_rev p i j):=(mirror_perm _ _ _ _).trans g
theorem qCH{p:Array Nat}(g:Gp n p):∀(f m:Nat),1<=m->m+f<=n->Srt r p m->hT (rc r) n (kas_asc p f m) (λe=>m<=e/\e<=m+f/\Srt r p e/\(e<m+f->kk r p e<kk r p (e-1)))
|0,m,h1,hz,h=>⟨kO _,kO _,h,λz=>absurd z (rD _)⟩
|f+1,m,h1,hz,h=>by
 refine⟨g.lt (by lia),g.lt (by lia),?_⟩;by_cases e:r (p.getD m 0)<r (p.getD (m-1) 0)
 .rw[show rc r (p.getD m 0) (p.getD (m-1) 0)=true from hC e];dsimp only;rw[kM rfl];exact⟨kO _,by lia,h,λd=>e⟩
 rw[show rc r (p.getD m 0) (p.getD (m-1) 0)=false from hX e];dsimp only;rw[kI kW];refine yY ?_ _ (qCH g f (m+1) (by lia) (by lia) (h.more (by show r _<=r _;lia)));rintro a ⟨a1,a2,a3,a4⟩
 exact⟨by lia,by lia,a3,λz=>a4 (by lia)⟩
noncomputable def Eql(r:Nat->Int)(p:Array Nat)(a b:Nat):Prop:=∀k,a<=k->k<b->kk r p k=kk r p (b-1)
theorem q9Z{p:Array Nat}{i j:Nat}(hj:j<=p.size)(h:Eql r p i j)(k:Nat):kk r (kas_rev p i j) k=kk r p k:=by(
show r _=r _
rw[qCG hj]
by_cases z:i<=k/\k<j
.rw[kM z];exact(h _ (by lia) (by lia)).trans (h k z.1 z.2).symm
rw[kI z])
theorem q6Q:∀(f:Nat) (p:Array Nat) (m q:Nat),Gp n p->q+1<=m->m+f<=n->Dec r p m->Eql r p (m-(q+1)) m->hT (rc r) n (kas_desc f p m q) (λz=>Gp n z.1/\m<=z.2.1/\z.2.1<=m+f/\Dec r z.1 z.2.1/\z.2.2+1<=z.2.1/\Eql r z.1 (z.2.1-(z.2.2+1)) z.2.1)
|0,p,m,q,g,hq,hz,d,e=>⟨g,kO _,kO _,d,hq,e⟩
|f+1,p,m,q,g,hq,hz,d,e=>by
 have hs:=g.size;refine⟨g.lt (by lia),g.lt (by lia),?_⟩;by_cases c:r (p.getD m 0)<r (p.getD (m-1) 0)
 .rw[show rc r (p.getD m 0) (p.getD (m-1) 0)=true from hC c];dsimp only;rw[kM rfl];by_cases q0:q>0
  .rw[kM q0];have kq:=q9Z (r:=r) (p:=p) (i:=m-(q+1)) (j:=m) (by lia) e;have d1:Dec r (kas_rev p (m-(q+1)) m) (m+1):=λi j hij hj=>by rw[kq,kq];exact d.more (sD c) i j hij hj
   refine yY ?_ _ (q6Q f _ (m+1) 0 (g.rev _ _) (by lia) (by lia) d1 λk h1 h2=>by rw[show k=m by lia];rfl);rintro a ⟨a1,a2,a3,a4⟩
   exact⟨a1,by lia,by lia,a4⟩
  rw[kI q0];refine yY ?_ _ (q6Q f p (m+1) 0 g (by lia) (by lia) (d.more (sD c)) λk h1 h2=>by rw[show k=m by lia];rfl);rintro a ⟨a1,a2,a3,a4⟩
  exact⟨a1,by lia,by lia,a4⟩
 rw[show rc r (p.getD m 0) (p.getD (m-1) 0)=false from hX c];dsimp only;rw[kI kW];refine⟨g.lt (by lia),g.lt (by lia),?_⟩;by_cases c2:r (p.getD (m-1) 0)<r (p.getD m 0)
 .rw[show rc r (p.getD (m-1) 0) (p.getD m 0)=true from hC c2];dsimp only;rw[kM rfl];exact⟨g,kO _,nH _ _,d,hq,e⟩
 rw[show rc r (p.getD (m-1) 0) (p.getD m 0)=false from hX c2];dsimp only;rw[kI kW];have ee:r (p.getD m 0)=r (p.getD (m-1) 0):=by lia
 refine yY ?_ _ (q6Q f p (m+1) (q+1) g (by lia) (by lia) (d.more (Int.le_of_eq ee)) λk h1 h2=>?_)
 .rintro a ⟨a1,a2,a3,a4⟩
  exact⟨a1,by lia,by lia,a4⟩
 show r (p.getD k 0)=r (p.getD m 0);by_cases z:k=m
 .rw[z]
 rw[ee];exact e k (by lia) (by lia)
theorem qDD{p:Array Nat}{m:Nat}(g:Gp n p)(h1:1<=m)(hm:m<=n)(d:Dec r p m):hT (rc r) n (kas_tail3 m n p) (λz=>Gp n z.2/\1<=z.1/\z.1<=n/\Srt r z.2 z.1):=by(
have N:=g.size
have sr:Srt r (kas_rev p 0 m) m:=λi j J D=>by show r _<=r _;rw[qCG (by lia),qCG (by lia),kM ⟨m7 _,by lia⟩,kM ⟨m7 _,D⟩];exact d _ _ (by lia) (by lia)
refine q39 _ (yY ?_ _ (qCH (g.rev 0 m) (n-m) m h1 (by lia) sr))
rintro a ⟨S,O,I,_⟩
exact⟨g.rev _ _,by lia,by lia,I⟩)
theorem qDE{p:Array Nat}{m:Nat}(g:Gp n p)(hm:m+1<=n)(d:Dec r p (m+1)):hT (rc r) n (kas_descPart m n p) (λz=>Gp n z.2/\1<=z.1/\z.1<=n/\Srt r z.2 z.1):=by(
refine q39 _ (yY ?_ _ (q6Q (n-(m+1)) p (m+1) 0 g (by lia) (by lia) d λk h1 h2=>by rw[show k=m by lia];rfl))
rintro⟨p',m',q'⟩ ⟨a1,a2,a3,a4,a5,a6⟩
dsimp only at a1 a2 a3 a4 a5 a6 ⊢
have N:=a1.size
by_cases q0:q'>0
.rw[kM q0];have I:=q9Z (r:=r) (p:=p') (i:=m'-(q'+1)) (j:=m') (by lia) a6;exact qDD (a1.rev _ _) (by lia) (by lia) λi j D J=>by rw[I,I];exact a4 i j D J
rw[kI q0]
exact qDD a1 (by lia) (by lia) a4)
theorem qG3{p:Array Nat}(g:Gp n p)(h1:1<=n):hT (rc r) n (kas_count n p) (λz=>Gp n z.2/\1<=z.1/\z.1<=n/\Srt r z.2 z.1):=by(
have hs:=g.size
have s1:Srt r p 1:=λi j d D=>by rw[show i=j by lia];exact gE _
refine q39 _ (yY ?_ _ (qCH g (n-1) 1 (kO _) (by lia) s1))
rintro m ⟨U,a2,I,a4⟩
try dsimp only
by_cases e:m=n
.rw[kM (by rw[d7];exact e)];exact⟨g,U,by lia,I⟩
rw[kI (by rw[d7];exact e)]
have lt:=a4 (by lia)
by_cases Z:m>1
.rw[kM Z];refine⟨g.lt (by lia),g.lt (by lia),?_⟩;by_cases c:r (p.getD 0 0)<r (p.getD (m-1) 0)
 .rw[show rc r (p.getD 0 0) (p.getD (m-1) 0)=true from hC c];dsimp only;rw[kM rfl];exact⟨g,U,by lia,I⟩
 rw[show rc r (p.getD 0 0) (p.getD (m-1) 0)=false from hX c];dsimp only;rw[kI kW];have J:Eql r p 0 m:=λk F hk=>by have O:=I 0 k (m7 _) hk;have N:=I k (m-1) (by lia) (by lia);show r _=r _;have O:r (p.getD 0 0)<=r (p.getD k 0):=O;have N:r (p.getD k 0)<=r (p.getD (m-1) 0):=N;lia
 have S:=q9Z (r:=r) (p:=p) (i:=0) (j:=m) (by lia) J;refine qDE (g.rev _ _) (by lia) λi j d D=>?_;rw[S,S];refine Dec.more (m:=m) (λi j d D=>?_) (sD lt) i j d D;rw[J i (m7 _) (by lia),J j (m7 _) D];exact gE _
rw[kI Z]
have:m=1:=by lia
subst this
refine qDE g (by lia) (Dec.more (λi j d D=>?_) (sD lt))
rw[show i=j by lia]
exact gE _)
theorem q7K{p:Array Nat}(g:Gp n p){k:Nat}(hk:k<n)(sr:Srt r p k):∀(f l u:Nat),u-l<=f->l<=u->u<=k->(∀i,i<l->kk r p i<=kk r p k)->(∀i,u<=i->i<k->kk r p k<kk r p i)->hT (rc r) n (kas_place p k f l u) (λm=>m<=k/\(∀i,i<m->kk r p i<=kk r p k)/\∀i,m<=i->i<k->kk r p k<kk r p i)
|0,l,u,hf,hl,hu,a,b=>⟨by lia,a,λi h1 h2=>b i (by lia) h2⟩
|f+1,l,u,hf,hl,hu,a,b=>by
 unfold kas_place;by_cases e:l>=u
 .rw[kM e];exact⟨by lia,a,λi h1 h2=>b i (by lia) h2⟩
 rw[kI e];refine⟨g.lt hk,g.lt (by lia),?_⟩;by_cases c:r (p.getD k 0)<r (p.getD ((l+u) / 2) 0)
 .rw[show rc r (p.getD k 0) (p.getD ((l+u) / 2) 0)=true from hC c];dsimp only;rw[kM rfl];refine q7K g hk sr f l ((l+u) / 2) (by lia) (by lia) (by lia) a λi h1 h2=>?_;exact Int.lt_of_lt_of_le c (sr _ _ h1 h2)
 rw[show rc r (p.getD k 0) (p.getD ((l+u) / 2) 0)=false from hX c];dsimp only;rw[kI kW];refine q7K g hk sr f ((l+u) / 2+1) u (by lia) (by lia) hu (λi h1=>?_) b;exact pE (sr i ((l+u) / 2) (by lia) (by lia)) (by show r _<=r _;lia)
theorem qL2{p:Array Nat}{k l:Nat}(hk:k<p.size)(hl:l<=k)(i:Nat):(bubble p k (k-l)).getD i 0=if i=l then p.getD k 0 else if l<i/\i<=k then p.getD (i-1) 0 else p.getD i 0:=by(
have e:=getElem?_bubble hk (k-l) (by lia) i
rw[show k-(k-l)=l by lia]at e
by_cases h1:i=l
.rw[kM h1]at e ⊢;exact q4T e
rw[kI h1]at e ⊢
by_cases h2:l<i/\i<=k
.rw[kM h2]at e ⊢;exact q4T e
rw[kI h2]at e ⊢
exact q4T e)
theorem qG4:∀(f:Nat) (p:Array Nat) (k:Nat),Gp n p->k+f<=n->Srt r p k->hT (rc r) n (kas_bin f p k) (λq=>Gp n q/\Srt r q (k+f))
|0,p,k,g,hz,sr=>⟨g,sr⟩
|f+1,p,k,g,hz,sr=>by
 have hs:=g.size;refine q39 _ (yY ?_ _ (q7K g (show k<n by lia) sr k 0 k (by lia) (m7 _) (kO _) (λi h=>absurd h (lC _)) λi h1 h2=>absurd h2 (by lia)));rintro l ⟨a1,a2,a3⟩
 have at':=qL2 (p:=p) (k:=k) (l:=l) (by lia) a1;refine yY ?_ _ (qG4 f _ (k+1) ((bubble_perm _ _ _).trans g) (by lia) λi j hij hj=>?_)
 .rintro q ⟨b1,b2⟩
  exact⟨b1,by rw[show k+(f+1)=k+1+f by lia];exact b2⟩
 show r _<=r _;rw[at',at'];by_cases i1:i=l
 .rw[kM i1];by_cases j1:j=l
  .rw[kM j1];exact gE _
  rw[kI j1,kM ⟨by lia,by lia⟩];exact sD (a3 (j-1) (by lia) (by lia))
 rw[kI i1];by_cases i2:l<i/\i<=k
 .rw[kM i2,kI (by lia),kM ⟨by lia,by lia⟩];exact sr _ _ (by lia) (by lia)
 rw[kI i2];by_cases j1:j=l
 .rw[kM j1];exact a2 i (by lia)
 rw[kI j1];by_cases j2:l<j/\j<=k
 .rw[kM j2];exact sr _ _ (by lia) (by lia)
 rw[kI j2];exact sr _ _ hij (by lia)
theorem qDF(h1:1<=n):hT (rc r) n (kas_sort n) (λp=>Gp n p/\Srt r p n):=by(
refine q39 _ (yY ?_ _ (qG3 (p:=(List.range n).toArray) (aY _) h1))
rintro⟨m,p⟩ ⟨a1,a2,a3,a4⟩
dsimp only at a1 a2 a3 a4 ⊢
by_cases e:m<n
.rw[kM e];refine yY ?_ _ (qG4 (n-max m 1) p (max m 1) a1 (by lia) (by rw[Nat.max_eq_left a2];exact a4));rintro q ⟨z,d⟩
 exact⟨z,by rw[show max m 1+(n-max m 1)=n by lia]at d;exact d⟩
rw[kI e]
have:m=n:=by lia
subst this
exact⟨a1,a4⟩)
end
end L2
namespace L2
open PySem PySem.W PySem.Spec PyProof.Rows
section
variable{prog:Program}{w:World}{A:Around}{E:Value->Shared->Prop}{s:Shared}
noncomputable abbrev q3N(vs:List Value)(p:Array Nat):Array Value:=List.toArray (p.toList.map λi=>vs.getD i Value.none)
structure RkAt(prog:Program)(w:World)(A:Around)(vs:List Value)(κ:SortKind)(r:Nat->Int)(s:Shared):Prop where
kind:∀(Q:SortKind->Shared->Prop) (E:Value->Shared->Prop),Q κ s->wpAny (model prog w) A (keyKind' vs.toArray) Q E s
lt:∀i j (C:Bool->Shared->Prop),i<vs.length->j<vs.length->C (decide (r i<r j)) s->wpAny (model prog w) A (keyLt' κ (vs.getD i Value.none) (vs.getD j Value.none)) C (λ_ _=>False) s
theorem q7L{a:Addr}{vs:List Value}{n:Nat}{κ:SortKind}{r:Nat->Int}{P:PySem.Fin->Shared->Prop}(ho:s.heap.get? a=some (seqObj "list" vs.toArray n))(h64:vs.length<64)
 (hr:2<=vs.length->∀h',(∀b o,b≠a->s.heap.get? b=some o->h'.get? b=some o)->RkAt prog w A vs κ r { s with heap:=h' })
 (h:∀p:Array Nat,Gp vs.length p->Srt r p vs.length->P (.done (.ret .none)) { s with heap:=sortedHeap s.heap a vs (q3N vs p) }):wpAny (model prog w) A (Builtin.«list.sort» ⟨[.ref a],[]⟩) P E s:=by(
have ha:a<s.heap.objs.size:=kX ho
have S:vs.toArray.size=vs.length:=mG ..
obtain⟨e1,Z⟩:∃e1,(s.heap.update a (Obj.mapSeq λF=>(#[]:Array Value))).get? a=some (seqObj "list" #[] e1):=⟨_,wU ho λF=>#[]⟩
have N:=kJ (seqObj "list" #[] 0) (kJ (seqObj "tuple" vs.toArray 0) Z)
rw[list_sort_plain]
refine kD (x9 ho rfl (kD (wZ ho rfl (kD (sV Z rfl ?_)) (by rw[S,gR];lia) (m7 _))))
refine kD (wpAny_newTuple (kD (cA (gU ?_) (m7 _))) (by show vs.length<=_;rw[gR];lia))
show wpAny (model prog w) A _ P E { s with heap:=((s.heap.update a (Obj.mapSeq λF=>(#[]:Array Value))).push (seqObj "tuple" vs.toArray 0)).push (seqObj "list" #[] 0) }
dsimp only
by_cases h2:vs.toArray.size<2
.rw[kM h2,kM h2];refine kD (mE ?_);rw[aZ];refine kD (mE ?_);dsimp only;have fin:=h (List.range vs.length).toArray (aY _) λi j ad hj=>by rw[show i=j by lia];exact gE _
 have eo:(pairsOf vs).map (·.2)=q3N vs (List.range vs.length).toArray:=by
  have em:(pairsOf vs)=(List.toArray (List.range vs.length)).map (kas_item (pairsOf vs)):=by have e:=kas_range (pairsOf vs);rw[aA]at e;exact e.symm
  apply nI.mp;rw[em,bV,nJ];exact wK λi F=>by show(kas_item (pairsOf vs) i).2=_;rw[kas_item_eq]
 refine kD (sV N rfl ?_);refine kD (wZ N rfl ?_ (m7 _) (by rw[Array.size_map];show(pairsOf vs).size<=_;rw[aA,gR];lia));simp only[bne_self_eq_false,cV,if_false];refine mE ?_;rw[<-eo]at fin;exact fin
rw[kI h2,kI h2]
have J:2<=vs.length:=by lia
have K:=hr J (((s.heap.update a (Obj.mapSeq λF=>(#[]:Array Value))).push (seqObj "tuple" vs.toArray 0)).push (seqObj "list" #[] 0)) λb o nb e=>kJ _ (kJ _ ((mD _ _ (wD nb)).trans e))
refine kD (K.kind _ _ ?_)
have O:SortSt.mk' κ (vs.toArray.zip vs.toArray) #[] 7 none=kas_st κ (pairsOf vs) (List.toArray (List.range vs.length)):=by have e:=kas_range (pairsOf vs);rw[aA]at e;unfold kas_st;rw[e];rfl
have D:(kas_sort vs.length).kasWp (kas_cmp prog w A κ (pairsOf vs)) (λp s'=>s'= { s with heap:=((s.heap.update a (Obj.mapSeq λF=>(#[]:Array Value))).push (seqObj "tuple" vs.toArray 0)).push (seqObj "list" #[] 0) }/\Gp vs.length p/\Srt r p vs.length) { s with heap:=((s.heap.update a (Obj.mapSeq λF=>(#[]:Array Value))).push (seqObj "tuple" vs.toArray 0)).push (seqObj "list" #[] 0) }:=by rw[<-kas_ask_eq];exact qG2 (c:=rc r) (n:=vs.length) (λi j C hi hj c=>K.lt i j C hi hj c) _ (yY (λp q=>⟨rfl,q⟩) _ (qDF (by lia)))
have z:=kas_runs (E:=E) (Q:=λF d s'=>∃p:Array Nat,arrOf d=p.map (kas_item (pairsOf vs))/\failedOf d=none/\s'= { s with heap:=((s.heap.update a (Obj.mapSeq λF=>(#[]:Array Value))).push (seqObj "tuple" vs.toArray 0)).push (seqObj "list" #[] 0) }/\Gp vs.length p/\Srt r p vs.length) J h64 (λp' d s' F a2 a3 a4=>⟨p',a2,a3,a4⟩) D
rw[<-O]at z
refine kD (g4 z ?_ λF F e=>e)
rintro⟨⟨⟩,d⟩ s' ⟨p,har,hf,rfl,gp,sr⟩
dsimp only
have I:(arrOf d).map (·.2)=q3N vs p:=by apply nI.mp;rw[har,bV,nJ];exact wK λi F=>by show(kas_item (pairsOf vs) i).2=_;rw[kas_item_eq]
have U:(q3N vs p).size=vs.length:=by rw[mG,kB,mZ,gp.size]
rw[I]
refine kD (sV N rfl ?_)
refine kD (wZ N rfl ?_ (m7 _) (mL (c8 U) (by rw[gR];lia)))
rw[hf]
simp only[bne_self_eq_false,cV,if_false]
exact mE (h p gp sr))
theorem qA0{l:Addr}{vs:List Value}{κ:SortKind}{r:Nat->Int}{Q:Value->Shared->Prop}(hl:s.heap.IsList l vs.toArray)(h64:vs.length<64)
 (hr:2<=vs.length->∀h',(∀b o,s.heap.get? b=some o->h'.get? b=some o)->RkAt prog w A.in1.in1 vs κ r { s with heap:=h' })
 (h:∀p:Array Nat,Gp vs.length p->Srt r p vs.length->Q (.ref (s.heap.objs.size+1)) { s with heap:=sortedAll s.heap vs (q3N vs p) }):
 wpAny (model prog w) A (call (.builtin "sorted") [.ref l]) Q E s:=by(
refine sQ aQ aB aD (args_sorted1 _) ?_
unfold Builtin.«sorted»
refine kD (m:=checkCount "sorted" 1 1 _) (mE (kD (collect_list hl (kD (cA ?_ (by rw[gR];show vs.length<=_;lia))))))
have d:((s.heap.push (seqObj "list" #[] 0)).update s.heap.objs.size (Obj.mapSeq (· ++vs.toArray))).objs.size=s.heap.objs.size+1:=by rw[nK,nY]
have g:(((s.heap.push (seqObj "list" #[] 0)).update s.heap.objs.size (Obj.mapSeq (· ++vs.toArray))).push (seqObj "list" vs.toArray 0)).get? (s.heap.objs.size+1)=some (seqObj "list" vs.toArray 0):=by rw[<-d];exact mP _ rfl
show wpAny _ _ _ _ _ { s with heap:=((s.heap.push (seqObj "list" #[] 0)).update s.heap.objs.size (Obj.mapSeq (· ++vs.toArray))).push (seqObj "list" vs.toArray 0) }
rw[d]
refine kD (gU (nL lQ ⟨_,g,rfl⟩ lD (q7L (κ:=κ) (r:=r) g h64 (λh2 h' k=>hr h2 h' λb o e=>k b o (mR (dO (kX e))) (kJ _ ((mD _ _ (rE (kX e))).trans (kJ _ e)))) λp z D=>⟨_,rfl,?_⟩) (args_list_sort _)))
exact mE ⟨_,rfl,h p z D⟩)
end
noncomputable def lx:List Int->List Int->Bool
|a::r,b::s=>if a=b then lx r s else decide (a<b)
| [],_::_=>true
|_,[]=>false
theorem q3S:∀a:List Int,lx a a=false
| []=>rfl
|a::r=>by show(if a=a then lx r r else decide (a<a))=false;rw[kM rfl];exact q3S r
theorem q11:∀a b c:List Int,lx a b=true->lx b c=true->lx a c=true
| [],[],c,h,_=>by cases h
| [],_::_,[],_,h=>by cases h
| [],_::_,_::_,_,_=>rfl
|_::_,[],c,h,_=>by cases h
|_::_,_::_,[],_,h=>by cases h
|a::r,b::s,c::t,h,g=>by
 have h:(if a=b then lx r s else decide (a<b))=true:=h;have g:(if b=c then lx s t else decide (b<c))=true:=g;show(if a=c then lx r t else decide (a<c))=true;by_cases e1:a=b
 .subst e1;rw[kM rfl]at h;by_cases e2:a=c
  .subst e2;rw[kM rfl]at g ⊢;exact q11 r s t h g
  rw[kI e2]at g ⊢;exact g
 rw[kI e1,mC]at h;by_cases e2:b=c
 .subst e2;rw[kI e1];exact hC h
 rw[kI e2,mC]at g;rw[kI (by lia)];exact hC (by lia)
theorem q5E:∀a b:List Int,lx a b=false->lx b a=false->a=b
| [],[],_,_=>rfl
| [],_::_,h,_=>by cases h
|_::_,[],_,h=>by cases h
|a::r,b::s,h,g=>by
 have h:(if a=b then lx r s else decide (a<b))=false:=h;have g:(if b=a then lx s r else decide (b<a))=false:=g;by_cases e:a=b
 .subst e;rw[kM rfl]at h g;rw[q5E r s h g]
 rw[kI e,wN]at h;rw[kI (λz=>e z.symm),wN]at g;lia
theorem qB9{α:Type}{p q:α->Bool}:∀{l:List α} {x:α},(∀y∈l,p y=true->q y=true)->x∈l->q x=true->p x=false->l.countP p<l.countP q
|a::l,x,h,hx,h1,h2=>by
 have ml:l.countP p<=l.countP q:=pH λy hy=>h y (hU _ hy);rw[pN,pN];rcases kN.mp hx with e|hx
 .subst e;rw[h1,h2,kI kW,kM rfl];lia
 have ih:=qB9 (λy hy=>h y (hU _ hy)) hx h1 h2;have ha:=h a (kU ..);cases pa:p a with
 |false=>rw[kI kW];lia
 |true=>rw[ha pa];lia
noncomputable def rkOf(ks:List (List Int))(k:List Int):Int:=((ks.countP λy=>lx y k:Nat):Int)
theorem qA1{ks:List (List Int)}{k k':List Int}(h:k∈ks)(h':k'∈ks):rkOf ks k<rkOf ks k'↔lx k k'=true:=by(
constructor
.intro lt;cases e:lx k k' with
 |true=>rfl
 |false=>
  have:ks.countP (λy=>lx y k')<=ks.countP (λy=>lx y k):=pH λy z d=>by
   cases g:lx k' k with
   |true=>exact q11 _ _ _ d g
   |false=>rw[q5E k k' e g];exact d
  unfold rkOf at lt;lia
intro e
have:=qB9 (p:=λy=>lx y k) (q:=λy=>lx y k') (l:=ks) (x:=k) (λy z d=>q11 _ _ _ d e) h e (q3S k)
unfold rkOf
lia)
section
variable{prog:Program}{w:World}{A:Around}{E:Value->Shared->Prop}{s:Shared}
theorem qI5{b:Bool}{x y:Int}{t u:Tok}{Q:Bool->Shared->Prop}(h:Q (decide (x<y)) s):wpAny (model prog w) A (oneLt' b (.int x t) (.int y u)) Q E s:=by(
cases b with
|true=>have z:=kat_lt_int (prog:=prog) (w:=w) (A:=A) (E:=E) (t:=t) (u:=u) h;rw[keyLt'_oneType]at z;exact z
|false=>refine kat_one _ _ ?_;exact lt_int h)
theorem qBA{b:Bool}{Q:Bool->Shared->Prop}:∀{ns ms:List Int} {us vs:List Value} (i:Nat),IntsAre us ns->IntsAre vs ms->ns.length=ms.length->Q (lx ns ms) s->KatLex prog w A b false Q (us.zip vs) i s
| [],[],_,_,i,.nil,.nil,_,h=>h
|n::ns,m::ms,_,_,i,.cons _ t hn,.cons _ u hm,hl,h=>by
 refine kat_cons (wpAny_eqBool_int ?_);have h:Q (if n=m then lx ns ms else decide (n<m)) s:=h;by_cases e:n=m
 .rw[kM e]at h;rw[show(n==m)=true by rw[d7];exact e];exact kat_yes (qBA (i+1) hn hm (by simpa using hl) h)
 rw[kI e]at h;rw[show(n==m)=false by rw[rK];exact e];exact kat_no (qI5 h)
| [],_::_,_,_,_,_,_,hl,_=>by simp at hl
|_::_,[],_,_,_,_,_,hl,_=>by simp at hl
noncomputable def IsTI(h:Heap)(v:Value)(k:List Int):Prop:=∃a us,v=.ref a/\h.IsTuple a us.toArray/\IntsAre us k
theorem IsTI.at{h h':Heap}{v:Value}{k:List Int}(x:IsTI h v k)(e:∀b o,h.get? b=some o->h'.get? b=some o):IsTI h' v k:=let⟨a,us,e1,⟨o,e2,r⟩,i⟩:=x
 ⟨a,us,e1,⟨o,e _ _ e2,r⟩,i⟩
theorem qDG{h:Heap}:∀{vs:List Value} {ks:List (List Int)},Paired (IsTI h) vs ks->(∀k∈ks,0<k.length)->∃fs,KatTups h vs fs/\fs.length=ks.length/\∀v∈fs,∃i t,v=.int i t
| [],[],.nil,_=>⟨[],trivial,rfl,λv hv=>by cases hv⟩
|v::vs,k::ks,.cons x t,hp=>by
 obtain⟨fs,r,hl,hi⟩:=qDG t λk hk=>hp k (hU _ hk);obtain⟨a,us,rfl,⟨o,ho,hc,n,hd⟩,iu⟩:=x;have h0:=hp k (kU ..);cases iu with
 |nil=>simp at h0
 |cons i t0 hr=>
  refine⟨.int i t0::fs,KatTups.cons ho hc hd (by simp) r,by simp[hl],λv hv=>?_⟩;rcases kN.mp hv with rfl|hv
  .exact⟨i,t0,rfl⟩
  exact hi v hv
theorem qA2{vs:List Value}{ks:List (List Int)}{m:Nat}(h:Paired (IsTI s.heap) vs ks)(hw:∀k∈ks,k.length=m)(hm:0<m)(h2:2<=vs.length):RkAt prog w A vs (tuples' true) (λi=>rkOf ks (ks.getD i [])) s:=by(
have hl:=h.len
constructor
.intro Q E' q;obtain⟨fs,t,e,D⟩:=qDG h λk hk=>by rw[hw k hk];exact hm
 exact kat_kind (T:=Value.type "int") t (by lia) (λv hv=>by obtain⟨i,t0,rfl⟩:=D v hv;exact .now) rfl q
intro i j C D U c
have e1:vs[i]?=some (vs.getD i Value.none):=by rw[kF D];simp[D]
have e2:vs[j]?=some (vs.getD j Value.none):=by rw[kF U];simp[U]
obtain⟨z,S,a1,I,q1,⟨o1,O,_,n1,d1⟩,i1⟩:=Paired.at h e1
obtain⟨d,Z,a2,N,q2,⟨o2,J,_,n2,d2⟩,i2⟩:=Paired.at h e2
have m1:z∈ks:=gD S
have m2:d∈ks:=gD Z
have z1:ks.getD i []=z:=by rw[kL,S];rfl
have z2:ks.getD j []=d:=by rw[kL,Z];rfl
have ll:z.length=d.length:=by rw[hw _ m1,hw _ m2]
have c:C (lx z d) s:=by
 have y:decide (rkOf ks (ks.getD i [])<rkOf ks (ks.getD j []))=lx z d:=by rw[z1,z2,wS,mC];exact qA1 m1 m2
 rw[<-y];exact c
rw[q1,q2]
refine kat_lt O d1 J d2 ?_
have f:decide (I.toArray.size<N.toArray.size)=false:=by rw[mG,mG,i1.length,i2.length,ll];exact hX (rD _)
rw[f]
exact qBA 0 i1 i2 ll c)
end
section
variable{X:Cx}
noncomputable def TupI(K:PySem.W.Frag)(H:Hp)(v:V)(k:List Int):Prop:=∃a,v=.ref a/\SqT K H a (k.map V.int)
theorem q3A{pins:List (Addr×Obj)}{σ:St}{H:Hp}{s:Shared}(I:Inv X pins σ H s):∀{xs:List V} {us:List Value} {ks:List (List Int)},Vals xs us->Paired (TupI X.K H) xs ks->Paired (IsTI s.heap) us ks
| [],_,_,.nil,.nil=>.nil
|x::xs,u::us,_,.cons r t,.cons ⟨a,e,h⟩ y=>by subst e;obtain rfl:u=Value.ref a:=r;obtain⟨its,rv,p,_⟩:=I.tuple h;exact .cons ⟨a,its,rfl,p,q6O rv⟩ (q3A I t y)
theorem q3B{xs:List V}{us:List Value}(r:Vals xs us):∀{q:List Nat},(∀i∈q,i<xs.length)->Vals (q.map λi=>xs.getD i .non) (q.map λi=>us.getD i Value.none)
| [],_=>.nil
|i::q,h=>by have hi:=h i (kU ..);have hl:=r.length;refine .cons ?_ (q3B r λj hj=>h j (hU _ hj));obtain⟨x,e,z⟩:=r.atN (j:=i) (by lia);show RelV (xs.getD i .non) (us.getD i Value.none);rw[kL,e,kL,kF (by lia)];exact z
theorem q4U:q20 X (.builtin "sorted") (λxs H Q=>∃(p:Addr) (us:List V) (ks:List (List Int)) (m:Nat),xs=[.ref p]/\SqL X.K H p us/\Paired (TupI X.K H) us ks/\(∀k∈ks,k.length=m)/\0<m/\us.length<64/\∀q:List Nat,q.Perm (List.range us.length)->(q.map λi=>ks.getD i []).Pairwise (λa b=>lx b a=false)->NewO H (.lst (q.map λi=>us.getD i .non)) Q):=by(
intro pins s σ H xs us Q I r hZ
obtain⟨p,U,ks,m,ex,hq,hk,hw,hm,h64,q⟩:=hZ
subst ex
obtain⟨u,rfl,rx⟩:=q09 r
cases rx
obtain⟨d,Z,pl,hz⟩:=I.list hq
have D:=Z.length
have aa:=q3A I Z hk
refine qA0 (κ:=tuples' true) (r:=λi=>rkOf ks (ks.getD i [])) pl.isList (by lia) (λh2 h' k=>qA2 (Paired.mapP aa λF F z=>z.at k) hw hm h2) λa J sr=>?_
have pp:a.toList.Perm (List.range d.length):=by have:=cH.mp J;simpa using this
obtain⟨e,he⟩:=sortedAll_at s.heap d (q3N d a)
have N:∀i∈a.toList,i<U.length:=λi O=>by rw[D];exact mO.mp (pp.mem_iff.mp O)
have kl:=hk.len
have pw:(a.toList.map λi=>ks.getD i []).Pairwise (λx y=>lx y x=false):=by
 rw[gN,rX];intro i j O S af;rw[mZ,J.size]at O S;have z:rkOf ks (ks.getD (a.getD i 0) [])<=rkOf ks (ks.getD (a.getD j 0) []):=sr i j (by lia) S;have gi:a.getD i 0=a.toList[i]'(by rw[mZ,J.size];exact O):=by simp[Array.getD,J.size,O]
 have gj:a.getD j 0=a.toList[j]'(by rw[mZ,J.size];exact S):=by simp[Array.getD,J.size,S]
 rw[gi,gj]at z;have mem:∀x,x<ks.length->ks.getD x []∈ks:=λx hx=>by rw[kL,kF hx];exact gL hx
 cases g:lx (ks.getD (a.toList[j]'(by rw[mZ,J.size];exact S)) []) (ks.getD (a.toList[i]'(by rw[mZ,J.size];exact O)) [])with
 |false=>rfl
 |true=>have lt:=(qA1 (mem _ (by rw[<-kl];exact N _ (gL _))) (mem _ (by rw[<-kl];exact N _ (gL _)))).mpr g;lia
refine⟨.ref (s.heap.objs.size+1),_,I.laid (t':=s.toks) (λF F h=>sortedAll_old h) (dG _) (show jL X.prog X.w _ _ _ (.lst _)from⟨?_,(q3N d a).toList,e,?_,he⟩),rfl,(q a.toList (by rw[D];exact pp) pw).at _ (I.hok.fresh (dG _))⟩
.rw[kB,pp.length_eq,mV,gR];lia
exact q3B Z N)
end
section
variable{X:Cx}{pins:List (Addr×Obj)}{σ:St}{H:Hp}{s:Shared}
theorem Inv.adopt{D:Addr}{o:HO}(I:Inv X pins σ H s)(f:FpOk X pins H D)(hD:X.s₀.heap.objs.size<=D)(ok:jL X.prog X.w (upd H D o) s.heap D o):Inv X pins σ (upd H D o) s:=by(
have J:∀b d,X.s₀.heap.get? b=some d->b≠D:=λb d e=>mR (mW (kX e) hD)
have trk:∀b u,H b=some u->b≠D:=λb u e=>qH e f.1
refine⟨I.ok,I.os,I.bare,⟨I.base.keep,I.base.slot,λb d e n x=>?_,I.base.there,λb xs e=>?_,λb d u e=>?_,λb ps e=>?_⟩,I.loc,I.cell,?_,λx c e=>?_,λp O=>?_,λb u e=>?_,I.len⟩
.rw[qD (J b d e)];exact I.base.free b d e n x
.have z:=I.base.tups b xs e;rw[qD (trk _ _ z)];exact z
.have z:=I.base.frzs b d u e;rw[qD (trk _ _ z)];exact z
.obtain⟨m,z⟩:=I.base.tbls b ps e;exact⟨m,by rw[qD (trk _ _ z)];exact z⟩
.rw[qD (λz=>f.2.1 z.symm)];exact I.free
.rw[qD (f.2.2.2.2.1 x c e)];exact I.freeC x c e
.obtain⟨Z,S,U⟩:=I.pin p O;exact⟨Z,by rw[qD (f.2.2.2.2.2 p O)];exact S,U⟩
by_cases N:b=D
.subst N;rw[qI]at e;cases e;exact ok
rw[qD N]at e
exact(I.hok b u e).stay (λF F F q=>q) (λc q=>by rw[qD (trk _ _ q)];exact q) λc xs q=>by rw[qD (trk _ _ q)];exact q)
theorem Inv.near(I:Inv X pins σ H s){A':Around}(h1:A'.handled=X.A.handled)(h2:A'.frames=X.A.frames)(xe:Value->Shared->Prop):Inv { X with A:=A',xe:=xe } pins σ H s:=⟨{ mod:=I.ok.mod,kind:=I.ok.kind,glob:=I.ok.glob,blt:=I.ok.blt,above:=I.ok.above,inj:=I.ok.inj,has:=I.ok.has,cab:=I.ok.cab,hd:=λc=>h1.trans (I.ok.hd c),frames:=h2.trans I.ok.frames,stk:=I.ok.stk,exf:=I.ok.exf,bs:=I.ok.bs,bsz:=I.ok.bsz,noex:=I.ok.noex,exfs:=I.ok.exfs,funs:=I.ok.funs,frf:=I.ok.frf },I.os,I.bare,I.base,I.loc,I.cell,I.free,I.freeC,I.pin,I.hok,I.len⟩
theorem qBB{P:PySem.Fin->Shared->Prop}{EE:Value->Shared->Prop}{A:Around}{a kS:Addr}{st:SortSt}{e1 e:Nat}{ks:List Value}{out:List Value}{us:List V}(I:Inv X pins σ H s)(fa:FpOk X pins H a)(fk:FpOk X pins H kS)(ha:X.s₀.heap.objs.size<=a)(ne:kS≠a)
 (ga:s.heap.get? a=some (seqObj "list" #[] e1)) (gk:s.heap.get? kS=some (seqObj "list" ks.toArray e)) (hk:ks.length<64) (hout:(arrOf st).map (·.2)=out.toArray) (ho:out.length<64) (hf:failedOf st=none) (rv:Vals us out)
 (h:∀s',Inv X pins σ (upd H a (.lst us)) s'->P (.done (.ret .none)) s'):wpAny (model X.prog X.w) A (ksk_tail a false e1 (.ref kS) st) P EE s:=by(
unfold ksk_tail
try dsimp only
rw[hout]
refine kD (wZ gk rfl ?_ (by rw[mG,gR];lia) (m7 _))
refine kD (wR ?_)
have d:(s.heap.update kS (Obj.mapSeq λU=>(#[]:Array Value))).get? a=some (seqObj "list" #[] e1):=(mD _ _ ne).trans ga
refine kD (sV d rfl ?_)
refine kD (wZ d rfl ?_ (m7 _) (by rw[kI kW,mG,gR];lia))
rw[hf]
simp only[bne_self_eq_false,cV,if_false]
refine mE (h _ ?_)
obtain⟨D,J⟩:∃D,((s.heap.update kS (Obj.mapSeq λU=>(#[]:Array Value))).update a (Obj.mapSeq λU=>out.toArray)).get? a=some (seqObj "list" out.toArray D):=⟨_,wU d λU=>out.toArray⟩
have O:Inv X pins σ H { s with heap:=(s.heap.update kS (Obj.mapSeq λU=>(#[]:Array Value))).update a (Obj.mapSeq λU=>out.toArray),toks:=s.toks }:=I.turnedN (fp:=[kS,a]) (λb o z N=>by
  simp only[kN,dB,cQ,not_or]at z;exact(mD _ _ (wD z.2)).trans ((mD _ _ (wD z.1)).trans N)) (λb z=>by
  simp only[kN,dB,cQ]at z;rcases z with rfl|rfl
  .exact fk
  exact fa)
exact O.adopt fa ha (show jL X.prog X.w _ _ _ (.lst us)from⟨by rw[rv.length,gR];lia,out,D,rv,J⟩))
theorem qI6{P:PySem.Fin->Shared->Prop}{EE:Value->Shared->Prop}{A:Around}{a kS:Addr}{e1 e:Nat}{ks vs:List Value}{us zs:List V}{kk:List (List Int)}{m:Nat}(I:Inv X pins σ H s)(fa:FpOk X pins H a)(fk:FpOk X pins H kS)(ha:X.s₀.heap.objs.size<=a)(ne:kS≠a)
 (ga:s.heap.get? a=some (seqObj "list" #[] e1)) (gk:s.heap.get? kS=some (seqObj "list" ks.toArray e)) (rz:Vals zs ks) (rv:Vals us vs) (hl:zs.length=us.length) (h64:us.length<64) (hti:Paired (TupI X.K H) zs kk) (hw:∀k∈kk,k.length=m) (hm:0<m)
 (h:∀q:List Nat,q.Perm (List.range us.length)->(q.map λi=>kk.getD i []).Pairwise (λa b=>lx b a=false)->∀s',Inv X pins σ (upd H a (.lst (q.map λi=>us.getD i .non))) s'->P (.done (.ret .none)) s'):
 wpAny (model X.prog X.w) A (ksk_end a false vs.toArray e1 (.ref kS) ks.toArray) P EE s:=by(
have l1:=rz.length
have l2:=rv.length
have l3:=hti.len
have O:ks.length=vs.length:=by lia
unfold ksk_end
try dsimp only
rw[kI kW]
by_cases h2:vs.toArray.size<2
.rw[kM h2,kM h2];refine kD (mE ?_);rw[aZ];refine kD (mE ?_);try dsimp only
 have ae:vs.length<2:=by rw[mG]at h2;exact h2
 refine qBB (out:=vs) (us:=us) I fa fk ha ne ga gk (by lia) ?_ (by lia) rfl rv λs' S=>?_
 .rw[kI kW];show(ks.toArray.zip vs.toArray).map (·.2)=vs.toArray;apply nI.mp;rw[nJ,Array.toList_zip];show(ks.zip vs).map Prod.snd=vs;exact List.map_snd_zip (by lia)
 have e:(List.range us.length).map (λi=>us.getD i .non)=us:=by refine dL (by simp) λi h1 h3=>?_;rw[pO,cW,kL,kF h3];rfl
 have z:=h (List.range us.length) (bH _) (by rw[gN,rX];intro i j d J U;rw[mV]at d J;lia);rw[e]at z;exact z s' S
rw[kI h2,kI h2]
have Z:2<=ks.length:=by rw[mG]at h2;lia
have K:=qA2 (prog:=X.prog) (w:=X.w) (A:=A) (s:=s) (q3A I rz hti) hw hm Z
refine kD (K.kind _ _ ?_)
rw[kI kW]
refine kD (g4 (kat_run (κ:=tuples' true) (G:=λp s'=>s'=s/\Gp vs.length p/\Srt (λi=>rkOf kk (kk.getD i [])) p vs.length) (Q:=λD s'=>∃p:Array Nat,arrOf D=p.map (kas_item (ks.toArray.zip vs.toArray))/\failedOf D=none/\s'=s/\Gp vs.length p/\Srt (λi=>rkOf kk (kk.getD i [])) p vs.length) O (by lia) (by lia) (λp' D s' F a2 a3 a4=>⟨p',a2,a3,a4⟩) ?_) ?_ λF F x=>x)
.refine qG2 (c:=rc λi=>rkOf kk (kk.getD i [])) (n:=vs.length) (λi j C d J c=>K.lt i j C (by lia) (by lia) c) _ (yY (λp q=>⟨rfl,q⟩) _ (qDF (by lia)))
rintro⟨⟨⟩,D⟩ s' ⟨p,har,hf,rfl,gp,sr⟩
try dsimp only
have pp:p.toList.Perm (List.range vs.length):=by have:=cH.mp gp;simpa using this
have N:∀i∈p.toList,i<us.length:=λi d=>by rw[l2];exact mO.mp (pp.mem_iff.mp d)
have pw:(p.toList.map λi=>kk.getD i []).Pairwise (λx y=>lx y x=false):=by
 rw[gN,rX];intro i j d J U;rw[mZ,gp.size]at d J;have z:rkOf kk (kk.getD (p.getD i 0) [])<=rkOf kk (kk.getD (p.getD j 0) []):=sr i j (by lia) J;have gi:p.getD i 0=p.toList[i]'(by rw[mZ,gp.size];exact d):=by simp[Array.getD,gp.size,d]
 have gj:p.getD j 0=p.toList[j]'(by rw[mZ,gp.size];exact J):=by simp[Array.getD,gp.size,J]
 rw[gi,gj]at z;have mem:∀x,x<kk.length->kk.getD x []∈kk:=λx hx=>by rw[kL,kF hx];exact gL hx
 cases g:lx (kk.getD (p.toList[j]'(by rw[mZ,gp.size];exact J)) []) (kk.getD (p.toList[i]'(by rw[mZ,gp.size];exact d)) [])with
 |false=>rfl
 |true=>have b1:=N _ (gL (show j<p.toList.length by rw[mZ,gp.size];exact J));have b2:=N _ (gL (show i<p.toList.length by rw[mZ,gp.size];exact d));have lt:=(qA1 (mem _ (by lia)) (mem _ (by lia))).mpr g;lia
exact qBB (out:=p.toList.map λi=>vs.getD i Value.none) (us:=p.toList.map λi=>us.getD i .non) I fa fk ha ne ga gk (by lia) (kat_snds O har) (by rw[kB,pp.length_eq,mV];lia) hf (q3B rv N) λs' S=>h p.toList (by rw[l2];exact pp) pw s' S)
end
theorem qBC:∀a b:List Int,HT.lexLt a b=lx a b
| [],[]=>rfl
| [],_::_=>rfl
|_::_,[]=>rfl
|x::xs,y::ys=>by show(if x=y then HT.lexLt xs ys else decide (x<y))=(if x=y then lx xs ys else decide (x<y));rw[qBC xs ys]
end L2
namespace W1
open PySem L2
theorem lx2{a b c d:Int}:lx [a,b] [c,d]=(if a=c then(if b=d then false else decide (b<d))else decide (a<c)):=rfl
end W1
namespace L2
open PySem PySem.Spec PyProof.Rows
theorem qI7{X:Cx}{K:PySem.W.Frag}{es:List Expr}{k:Nat}{t:TGs}{n:Nat}{pos:Pos}(e:X.K=K)(hc:X.calm=true)(h:PGs X es t)(hn:(assignEach es X.env).length=n)(hst:(assignEach es X.env).findIdx? (·.1)=none):PG X (.Tuple es k pos) (gTup K n t):=by subst e;exact q59 hc h hn hst
noncomputable def q12(v a:Addr):HO:=.ext λh=>h.IsItemsView v a
theorem qG5{P:Program}{w:World}{H:Hp}{h:Heap}{v a:Addr}(e:h.IsItemsView v a):jL P w H h v (q12 v a):=by obtain⟨o,D,J,I⟩:=id e;exact⟨e,⟨_,D⟩,λ_ _ ⟨o,z,d⟩ k=>⟨o,k _ z,d⟩⟩
theorem qBD{P:Program}{w:World}{H:Hp}{h:Heap}{v a:Addr}(ok:HOk P w H h)(e:H v=some (q12 v a)):h.IsItemsView v a:=(ok v _ e).1
noncomputable def qL3:V->List V->Hp->VK->Prop:=λx vs H Q=>∃a kvs,x=.ref a/\vs=[]/\H a=some (.dK kvs)/\∀v,H v=none->Q (.ref v) (upd H v (q12 v a))
theorem qBE{X:Cx}:MtR X "dict.items" qL3:=by(
intro pins s σ H x vs v us Q I O S U
obtain⟨a,kvs,ex,J,Z,q⟩:=U
subst ex J
cases O
have d:=S.zero
subst d
obtain⟨z,N,ws,aa,D⟩:=q9A I.hok Z
refine call_meetsIn c7 D.typeIs PySem.F.entry_dict_items (PySem.F.args_dict_items_1 _) (meets_dict_items (jY X.prog X.w) a N) ⟨⟨ws,D⟩,?_⟩
exact⟨.ref s.heap.objs.size,_,I.laid (t':=s.toks) (λb o e=>kJ _ e) (kO _) (qG5 ⟨_,mP _ rfl,rfl,rfl⟩),rfl,q _ (I.hok.fresh (kO _))⟩)
theorem q7M:entryFor table "dict_itemiterator.__iter__"=some Builtin.«dict_keyiterator.__iter__»:=entryFor_alias (id':="dict_keyiterator.__iter__") (by kernel_rfl) (by first|decide+kernel|rfl|(unfold String.splitOn;simp+decide [String.splitOnAux])) (by decide+kernel) (by kernel_rfl)
noncomputable def Iti(a:Addr)(o:Obj)(kvs:List (Key×V)):It:=⟨λi H=>H a=some (.frz o (.dK kvs))/\i<kvs.length,λi H v H'=>∃T kv,v=.ref T/\H T=none/\H'=upd H T (.tup [kV kv.1,kv.2])/\kvs[i]?=some kv,λi H=>H a=some (.frz o (.dK kvs))/\kvs.length<=i⟩
theorem qCI{P:Program}{w:World}{K:PySem.W.Frag}{elts:List Expr}{x1}{pos:Pos}(a it:Addr)(o:Obj){kvs:List (Key×V)}{vs:List (Key×Value)}{ep:Nat}(rel:KV kvs vs)(hD:∀h:Heap,h.get? a=some o->h.DictAt (jY P w) a vs ep):
 Turn P w K (.Tuple elts x1 pos) (Iti a o kvs) [it] it (λi h=>∃k0 v0,IsItemIter h it a i vs.length ep k0 v0) where
mem:=by simp
obj:=λi h st b d=>by
 have e:b=it:=by simpa using d
 subst e;obtain⟨k0,v0,e⟩:=st;exact⟨_,e,λv z=>by cases z⟩
keep:=λi h h' st k=>let⟨k0,v0,e⟩:=st;⟨k0,v0,k it (by simp) _ e⟩
item:=by
 intro X hP hw hK hc i pins s σ H E I O st hg;subst hP hw hK;obtain⟨ha,Z⟩:=hg;obtain⟨U,_⟩:=I.hok a _ ha;have hl:=rel.length;have D:i<vs.length:=by lia
 obtain⟨k0,v0,st⟩:=st;obtain⟨f0,f1,f2,f3,f4,f5⟩:=O it (by simp);refine wpAny_pyNext_items_item (k:=vs[i].1) (v:=vs[i].2) st (hD _ U) (kF D) λN h' hk b1 b5 b6 b7=>?_;refine⟨_,rfl,wpAny_letOwnedTupleGo_items (s:={ s with heap:=h' }) b1 λS c1 c2=>?_⟩;have kk:∀b o,b∉[it]->s.heap.get? b=some o->S.get? b=some o:=λb o d e=>by have nb:b≠it:=λz=>d (kE.mpr z);exact c2.extBut _ _ nb (b7 b o nb e)
 have I1:Inv X pins σ H { s with heap:=S }:=I.turnedN (t':=s.toks) kk O;have fr:H s.heap.objs.size=none:=I.hok.fresh (kO _);have yg:=I.young (a:=s.heap.objs.size) (cD (kO _));have J:s.heap.objs.size≠it:=rE (kX st);have ek:=rL (λl=>l[i]?) rel.keys;simp only[kZ,kF Z,kF D,aX]at ek;have rk:RelV (kV kvs[i].1) N:=by rw[kQ ek];exact qFY hk
 have rv:RelV kvs[i].2 vs[i].2:=by obtain⟨q,hq,z1,z2⟩:=Paired.at rel (kF Z);rw[kF D]at hq;rw[kQ hq];exact z2
 have I2:=I1.trackG (o:=.tup [kV kvs[i].1,kvs[i].2]) fr yg (rE I.lt) (λx' c' w q'=>by obtain⟨v,o',U,_⟩:=I.cell x' c' w;exact absurd (kX U) (by rw[q'];exact rD _)) ⟨by rw[gR,mM,mM,wC];lia,[N,vs[i].2],.cons rk (.cons rv .nil),⟨_,c2.extBut _ _ J b5,rfl,_,rfl⟩⟩;refine⟨.ref s.heap.objs.size,_,I2,rfl,⟨_,kvs[i],rfl,fr,rfl,kF Z⟩,⟨_,_,c1⟩,λb d=>?_⟩;have e:b=it:=by simpa using d
 subst e;rw[qD (wD J)];exact(O b d).1
done:=by intro X hP hw hK hc i pins s σ H E I O st hg;subst hP hw hK;obtain⟨ha,Z⟩:=hg;obtain⟨U,_⟩:=I.hok a _ ha;have hl:=rel.length;obtain⟨k0,v0,st⟩:=st;obtain⟨f0,f1,f2,f3,f4,f5⟩:=O it (by simp);exact wpAny_pyNext_items_end (I.ok.hd hc) st (hD _ U) (rT (by lia)) λh' eb=>⟨rfl,I.turned (t':=s.toks) (λb o d e=>eb b o d e) f0 f1 f3 f4 f5⟩
self:=λA i s Q E ⟨k0,v0,st⟩ h=>by have ty:s.TypeIs (.ref it) "dict_itemiterator":=⟨_,st,rfl⟩;refine wpAny_pyIter_slot ty cR (nL cR ty q7M ?_ (PySem.F.args_dict_itemiterator_iter_1 _));show wpAny _ _ (ret (.ref it)) _ _ s;exact mE ⟨_,rfl,"dict_itemiterator",_,ty,PySem.F.slot_dict_itemiterator_next.lookup,h⟩
section
variable{X:Cx}
noncomputable def iItm(td:TE):TI:=λσ H R=>td σ H λx H1=>∃v a kvs,x=.ref v/\H1 v=some (q12 v a)/\H1 a=some (.dK kvs)/\∀o,R (Iti a o kvs) (upd H1 a (.frz o (.dK kvs)))
theorem qL4{elts:List Expr}{x1}{pos:Pos}{d:Expr}{td:TE}(hd:PE X d td):PI X (.Tuple elts x1 pos) d (iItm td):=by(
intro pins s σ H R I h
refine thn (hd pins s σ H _ I h) λv J hZ=>?_
obtain⟨x,H1,N,r1,q1⟩:=hZ
obtain⟨vw,a,kvs,e,hv,U,q⟩:=q1
subst e
cases r1
obtain⟨z,lo,vs,S,dd⟩:=q9A N.hok U
obtain⟨ep,D⟩:=dd.dictAt
obtain⟨o,es,ho,Z⟩:=id D
have O:=N.freeze U ho
refine wpAny_pyIter_items (qBD N.hok hv) D ?_
refine⟨J.heap.objs.size,[J.heap.objs.size],_,_,_,rfl,O.kept (t':=J.toks) λb o e=>kJ _ e,qCI a _ o S (λh' h=>⟨o,es,h,Z⟩),⟨_,_,mP _ rfl⟩,λb hb=>?_,q o⟩
have e:b=J.heap.objs.size:=by simpa using hb
subst e
exact O.fpOk (kO _) (O.hok.fresh (kO _)))
end
theorem qI8{a:Addr}{o:Obj}{kvs:List (Key×V)}{D:Addr}{H2:Hp}{g:TG}{tc:TT}{te:TE}{σ0:St}{R:Hp->Prop}(Pv:Nat->Hp->Prop)(h0:Pv 0 H2)(hl:∀i H,Pv i H->H a=some (.frz o (.dK kvs)))
 (hs:∀(i:Nat) kv T H,kvs[i]?=some kv->Pv i H->H T=none->g (.ref T) σ0 (upd H T (.tup [kV kv.1,kv.2])) λσ5 H5=>tc σ5 H5 λb H6=>if b=true then te σ5 H6 (λv H7=>∃vs,H7 D=some (.lst vs)/\vs.length<sizeLine/\Pv (i+1) (upd H7 D (.lst (vs++[v]))))else Pv (i+1) H6) (hd:∀H,Pv kvs.length H->R H):
 ∃W:Nat->Nat->Hp->Prop,(∃m,W 0 m H2)/\∀i m H3,W i m H3->((Iti a o kvs).stop i H3/\R H3)\/((Iti a o kvs).go i H3/\∃N:Hp->Prop,(∀H',N H'->∃m',m'<m/\W (i+1) m' H')/\∀x H4,(Iti a o kvs).yld i H3 x H4->g x σ0 H4 λσ5 H5=>tc σ5 H5 λb H6=>
   if b=true then te σ5 H6 (λv H7=>∃vs,H7 D=some (.lst vs)/\vs.length<sizeLine/\N (upd H7 D (.lst (vs++[v]))))else N H6):=by(
refine⟨λi m H=>m=kvs.length-i/\i<=kvs.length/\Pv i H,⟨kvs.length,by simp,m7 _,h0⟩,?_⟩
rintro i m H ⟨rfl,J,p⟩
have q:=hl i H p
by_cases d:i<kvs.length
.refine .inr ⟨⟨q,d⟩,Pv (i+1),λH' z=>⟨kvs.length-(i+1),by lia,rfl,by lia,z⟩,?_⟩;rintro v H' ⟨T,kv,rfl,nT,rfl,I⟩
 exact hs i kv T _ I p nT
obtain rfl:i=kvs.length:=by lia
exact .inl ⟨⟨q,kO _⟩,hd _ p⟩)
end L2
namespace L2
open PySem PySem.W PySem.Spec PyProof.Rows
section
variable{X:Cx}{pins:List (Addr×Obj)}{σ:St}
theorem q9G{H0:Hp}{s0 s:Shared}(I0:Inv X pins σ H0 s0):∀(ps:List (Addr×V×V)) (H:Hp),Inv X pins σ H s->(∀p∈ps,H p.1=none/\s0.heap.objs.size<=p.1/\∃u1 u2,RelV p.2.1 u1/\RelV p.2.2 u2/\s.heap.get? p.1=some { cls:=.type "tuple",data:=.seq #[u1,u2] })->(ps.map (·.1)).Nodup->∃H',Inv X pins σ H' s/\Same H H'/\(∀p∈ps,H' p.1=some (.tup [p.2.1,p.2.2]))/\∀b,H b=none->(∀p∈ps,b≠p.1)->H' b=none
| [],H,I,_,_=>⟨H,I,Same.refl H,λp hp=>absurd hp (by simp),λb e z=>e⟩
|p::ps,H,I,hp,nd=>by
 obtain⟨n1,n2⟩:=m8.mp nd;obtain⟨h0,hge,u1,u2,r1,r2,hg⟩:=hp p kU;have yg:=I0.young (a:=p.1) (cD hge);have I1:=I.trackG (o:=.tup [p.2.1,p.2.2]) h0 yg (rE (mW I0.lt hge)) (λx' c' w q'=>by obtain⟨v,o',ho,_⟩:=I0.cell x' c' w;exact absurd (kX ho) (by rw[q'];exact pL.mpr hge)) ⟨by rw[gR,mM,mM,wC];lia,[u1,u2],.cons r1 (.cons r2 .nil),⟨_,hg,rfl,_,rfl⟩⟩;have ne:∀q∈ps,q.1≠p.1:=λq hq e=>n1 (by show p.1∈_;rw[<-e];exact cM (f:=λx:Addr×V×V=>x.1) hq);obtain⟨H',I',s',m',f'⟩:=q9G I0 ps _ I1 (λq hq=>by obtain⟨a0,a1,a2⟩:=hp q (hU _ hq);exact⟨by rw[qD (ne q hq)];exact a0,a1,a2⟩) n2;refine⟨H',I',(Same.upd h0).trans s',λq hq=>?_,λb hb nb=>f' b (by rw[qD (nb p kU)];exact hb) λq hq=>nb q (hU _ hq)⟩;rcases kN.mp hq with rfl|hq
 .exact s' _ _ qI
 exact m' q hq
noncomputable def TupD(H:Hp)(v:V)(k:List Int):Prop:=∃a,v=.ref a/\H a=some (.tup (k.map V.int))
theorem TupD.i{K:PySem.W.Frag}{H:Hp}{v:V}{k:List Int}(h:TupD H v k):TupI K H v k:=let⟨a,e,z⟩:=h;⟨a,e,SqT.of z⟩
theorem TupD.same{H H':Hp}{v:V}{k:List Int}(h:TupD H v k)(s:Same H H'):TupD H' v k:=let⟨a,e,z⟩:=h;⟨a,e,s _ _ z⟩
theorem TupD.upd{H:Hp}{v:V}{k:List Int}{D:Addr}{u o:HO}(h:TupD H v k)(hd:H D=some u)(n:∀ys,u≠ .tup ys):TupD (L2.upd H D o) v k:=let⟨a,e,z⟩:=h;⟨a,e,by rw[qD (jN z hd (λq=>n _ q.symm))];exact z⟩
noncomputable def dI(ks:List (Int×Int)):List (Key×V):=ks.map λp=>((.inl p.1:Key),V.int p.2)
theorem qA3(hc:X.calm=true):q20 X (.builtin "sorted") (λxs H Q=>∃(v a:Addr) (ks:List (Int×Int)),xs=[.ref v]/\H v=some (q12 v a)/\H a=some (.dK (dI ks))/\ks.length<64/\∀(rs:List (List Int)) (l:Addr) (us:List V) (H':Hp),rs.Perm (ks.map λp=>[p.1,p.2])->rs.Pairwise (λa b=>lx b a=false)->Same H H'->H l=none->H' l=some (.lst us)->Paired (TupD H') us rs->Q (.ref l) H'):=by(
intro pins s σ H xs us Q I r hZ
obtain⟨v,a,ks,ex,hv,ha,h64,q⟩:=hZ
subst ex
obtain⟨u,rfl,rx⟩:=q09 r
cases rx
obtain⟨z,lo,ws,ae,dd⟩:=q9A I.hok ha
obtain⟨ep,au⟩:=dd.dictAt
have ap:ks.length=ws.length:=by rw[<-ae.length];unfold dI;rw[kB]
refine sQ aQ aB aD (args_sorted1 _) ?_
unfold Builtin.«sorted»
refine kD (m:=checkCount "sorted" 1 1 _) (mE ?_)
refine kD (kdx_collect (A:=X.A.in1) (knd:=jY X.prog X.w) (kvs:=ws) (ep:=ep) (I.ok.hd hc) (qBD I.hok hv) au (by rw[gR];lia) λh' tk d hk hl hG=>?_)
have I1:Inv X pins σ H { s with heap:=h',toks:=tk }:=I.kept (t':=tk) hk
have ak:∀(j:Nat) (b:Addr),d[j]?=some b->∃p D,ks[j]?=some p/\RelV (.int p.1) D/\∃x,RelV (.int p.2) x/\h'.get? b=some { cls:=.type "tuple",data:=.seq #[D,x] }:=λj b U=>by
 obtain⟨D,k,x,hw,S,hg⟩:=hG.pairs j b U;have hj:j<ks.length:=by have:=(kC.mp hw).1;lia
 have hd:(dI ks)[j]?=some ((.inl ks[j].1:Key),V.int ks[j].2):=by unfold dI;rw[kZ,kF hj];rfl
 obtain⟨q',ai,e1,e2⟩:=Paired.at ae hd;rw[hw]at ai;obtain rfl:=kQ ai;refine⟨ks[j],D,kF hj,?_,x,e2,hg⟩;have e1:(.inl ks[j].1:Key)=k:=e1;have:=qFY (k:=k) S;rw[<-e1]at this;exact this
have af:d.length=ks.length:=by rw[hl,ap]
obtain⟨H',I2,s2,m2,f2⟩:=q9G (s:={ s with heap:=h',toks:=tk }) I (List.zipWith (λb (p:Int×Int)=>(b,V.int p.1,V.int p.2)) d ks) H I1 (λp hp=>by
 obtain⟨j,hj,e⟩:=rM hp;rw[lR]at e;have Z:j<d.length:=by rw[l8]at hj;lia
 obtain⟨p',D,av,r1,x,r2,hg⟩:=ak j d[j] (kF Z);have ao:j<ks.length:=by lia
 obtain rfl:ks[j]=p':=(kC.mp av).2;subst e;have ab:=hG.above d[j] (gL Z);exact⟨I.hok.fresh (cJ ab),cJ ab,D,x,r1,r2,hg⟩) (by
 have e:(List.zipWith (λb (p:Int×Int)=>(b,V.int p.1,V.int p.2)) d ks).map (·.1)=d:=by
  rw[List.map_zipWith];apply dL
  .rw[l8];lia
  intro i h1 h2;rw[lR]
 rw[e];exact hG.rise.imp λh=>mR h)
have N:Paired (TupD H') (d.map V.ref) (ks.map λp=>[p.1,p.2]):=by
 refine q10 (by rw[kB,kB];lia) λj x k O J=>?_;rw[kZ]at O J;obtain⟨b,U,rfl⟩:=kP.mp O;obtain⟨p,hp,rfl⟩:=kP.mp J;have Z:=(kC.mp U).1;have ao:=(kC.mp hp).1;have mem:(b,V.int p.1,V.int p.2)∈List.zipWith (λb (p:Int×Int)=>(b,V.int p.1,V.int p.2)) d ks:=by refine gD (i:=j) ?_;rw[List.getElem?_zipWith,U,hp]
 exact⟨b,rfl,m2 _ mem⟩
have ag:Vals (d.map V.ref) (d.map Value.ref):=q10 (by rw[kB,kB]) λj x y O hy=>by rw[kZ]at O hy;obtain⟨b,U,rfl⟩:=kP.mp O;rw[U]at hy;obtain rfl:=kQ hy;rfl
refine kD (cA ?_ (by rw[kB,gR];lia))
have az:Paired (IsTI h') (d.map Value.ref) (ks.map λp=>[p.1,p.2]):=q3A I2 ag (Paired.mapP N λF F z=>z.i)
have aa:(d.map Value.ref).length=ks.length:=by rw[kB,af]
have g:(h'.push (seqObj "list" (d.map Value.ref).toArray 0)).get? h'.objs.size=some (seqObj "list" (d.map Value.ref).toArray 0):=mP _ rfl
show wpAny _ _ _ _ _ { s with heap:=h'.push (seqObj "list" (d.map Value.ref).toArray 0),toks:=tk }
refine kD (gU (nL lQ ⟨_,g,rfl⟩ lD (q7L (κ:=tuples' true) (r:=λi=>rkOf (ks.map λp=>[p.1,p.2]) ((ks.map λp=>[p.1,p.2]).getD i [])) g (by rw[aa];exact h64) (λh2 bn k=>?_) λp gp sr=>⟨_,rfl,?_⟩) (args_list_sort _)))
.refine qA2 (m:=2) (Paired.mapP az λF F z=>z.at λb o e=>k b o (mR (kX e)) (kJ _ e)) (λk hk=>?_) (by decide) h2;obtain⟨x,_,rfl⟩:=mF.mp hk;rfl
refine mE ⟨_,rfl,?_⟩
have aq:∀b o,h'.get? b=some o->(sortedHeap (h'.push (seqObj "list" (d.map Value.ref).toArray 0)) h'.objs.size (d.map Value.ref) (q3N (d.map Value.ref) p)).get? b=some o:=λb o e=>by rw[sortedHeap_old (mR (kX e)) (by rw[nY];exact dO (kX e))];exact kJ _ e
obtain⟨e,he⟩:=sortedHeap_at (vs:=d.map Value.ref) (out:=q3N (d.map Value.ref) p) g
have pp:p.toList.Perm (List.range ks.length):=by have:=cH.mp gp;rw[aa]at this;simpa using this
have a0:∀i∈p.toList,i<(d.map V.ref).length:=λi S=>by rw[kB,af];exact mO.mp (pp.mem_iff.mp S)
have ah:H' h'.objs.size=none:=I2.hok.fresh (kO _)
refine⟨.ref h'.objs.size,_,I2.laid (t':=tk) (λb o e=>aq b o e) (kO _) (show jL X.prog X.w _ _ _ (.lst (p.toList.map λi=>(d.map V.ref).getD i .non))from⟨?_,(q3N (d.map Value.ref) p).toList,e,?_,he⟩),rfl,?_⟩
.rw[kB,pp.length_eq,mV,gR];lia
.exact q3B ag a0
have kl:(ks.map λp=>[p.1,p.2]).length=ks.length:=kB ..
have sL:Same H' (upd H' h'.objs.size (.lst (p.toList.map λi=>(d.map V.ref).getD i .non))):=Same.upd ah
refine q (p.toList.map λi=>(ks.map λp=>[p.1,p.2]).getD i []) _ (p.toList.map λi=>(d.map V.ref).getD i .non) _ ?_ ?_ (s2.trans sL) (s2.free ah) qI ?_
.have:=pp.map λi=>(ks.map λp=>[p.1,p.2]).getD i [];refine this.trans ?_;have e:(List.range ks.length).map (λi=>(ks.map λp=>[p.1,p.2]).getD i [])=ks.map λp=>[p.1,p.2]:=by
  apply dL
  .rw[kB,mV,kl]
  intro i h1 h2;rw[pO,cW,kL,kF h2];rfl
 rw[e]
.rw[gN,rX];intro i j S hj bd;have a8:p.toList.length=ks.length:=by rw[pp.length_eq,mV]
 have zz:rkOf (ks.map λp=>[p.1,p.2]) ((ks.map λp=>[p.1,p.2]).getD (p.getD i 0) [])<=rkOf (ks.map λp=>[p.1,p.2]) ((ks.map λp=>[p.1,p.2]).getD (p.getD j 0) []):=sr i j (by lia) (by rw[aa];lia);have gi:p.getD i 0=p.toList[i]:=by simp[Array.getD,show i<p.size by rw[<-mZ];lia]
 have gj:p.getD j 0=p.toList[j]:=by simp[Array.getD,show j<p.size by rw[<-mZ];lia]
 rw[gi,gj]at zz;have mem:∀x∈p.toList,(ks.map λp=>[p.1,p.2]).getD x []∈(ks.map λp=>[p.1,p.2]):=λx O=>by have aw:=mO.mp (pp.mem_iff.mp O);rw[kL,kF (by rw[kl];exact aw)];exact gL _
 cases gg:lx ((ks.map λp=>[p.1,p.2]).getD p.toList[j] []) ((ks.map λp=>[p.1,p.2]).getD p.toList[i] [])with
 |false=>rfl
 |true=>have lt:=(qA1 (mem _ (gL hj)) (mem _ (gL S))).mpr gg;lia
refine q10 (by rw[kB,kB]) λj x k O J=>?_
rw[kZ]at O J
obtain⟨i,S,rfl⟩:=kP.mp O
rw[S]at J
obtain rfl:=kQ J
have bg:=mO.mp (pp.mem_iff.mp (gD S))
have e1:(d.map V.ref)[i]?=some ((d.map V.ref).getD i .non):=by rw[kL,kF (by rw[kB];lia)];rfl
obtain⟨k,ar,b,e,U⟩:=Paired.at N e1
refine⟨b,e,sL _ _ ?_⟩
show H' b=some (.tup (((ks.map λp=>[p.1,p.2]).getD i []).map V.int))
rw[kL,ar]
exact U)
theorem q1H:∀{ks:List (Int×Int)} {n m:Int},(ks.map (·.1)).Nodup->(n,m)∈ks->valV (dI ks) (.inl n:Key)=some (.int m)
|p::ks,n,m,nd,h=>by
 obtain⟨n1,n2⟩:=m8.mp nd;show valV (((.inl p.1:Key),V.int p.2)::dI ks) (.inl n)=_;rcases kN.mp h with rfl|h
 .exact q4N rfl
 have ne:p.1≠n:=λe=>n1 (by show p.1∈_;rw[e];exact cM (f:=λx:Int×Int=>x.1) h);rw[q2A (λe=>ne (sS e))];exact q1H n2 h
theorem q3T:∀{ks:List (Int×Int)} {n:Int},n∉ks.map (·.1)->valV (dI ks) (.inl n:Key)=none
| [],n,_=>rfl
|p::ks,n,h=>by
 show valV (((.inl p.1:Key),V.int p.2)::dI ks) (.inl n)=_;have h':n≠p.1/\n∉ks.map (·.1):=by simpa using h
 rw[q2A (λe=>h'.1 (sS e).symm)];exact q3T h'.2
end
end L2
namespace W1
theorem jB{α:Type}(l:List α)(i j:Nat)(x d:α):(l.set i x).getD j d=if i=j/\i<l.length then x else l.getD j d:=by(
rw[kL,List.getElem?_set,kL]
by_cases h:i=j
.subst h;rw[kM rfl];by_cases h2:i<l.length
 .rw[kM h2,kM ⟨rfl,h2⟩];rfl
 rw[kI h2,kI (λz=>h2 z.2),rT (by lia)]
rw[kI h,kI (λz=>h z.1)])
theorem yC{P b j:Nat}(h:j<P):(b*P+j) / P=b:=by rw[dN,Nat.mul_add_div (by lia),Nat.div_eq_of_lt h,sF]
theorem q1I{α:Type}[DecidableEq α]:∀{l m:List α},l.Nodup->m.Nodup->(∀x,x∈l↔x∈m)->l.Perm m
| [],m,_,_,h=>by
 cases m with
 |nil=>exact .nil
 |cons a m=>exact absurd ((h a).mpr kU) (by simp)
|a::l,m,h1,h2,h=>by
 have ha:=(h a).mp kU;obtain⟨n1,n2⟩:=m8.mp h1;refine List.Perm.trans (List.Perm.cons a (q1I n2 (h2.erase a) λx=>?_)) (List.perm_cons_erase ha).symm;rw[List.Nodup.mem_erase_iff h2];constructor
 .intro hx;exact⟨λe=>n1 (e▸hx),(h x).mp (hU _ hx)⟩
 rintro⟨ne,hx⟩
 exact(kN.mp ((h x).mpr hx)).resolve_left ne
theorem q9H{α:Type}[DecidableEq α]:∀{l m:List α},l.Nodup->(∀x∈l,x∈m)->l.length<=m.length
| [],_,_,_=>m7 _
|a::l,m,h1,h=>by obtain⟨n1,n2⟩:=m8.mp h1;have ha:=h a kU;have:=q9H (m:=m.erase a) n2 λx hx=>(List.mem_erase_of_ne (show x≠a from λe=>n1 (e▸hx))).mpr (h x (hU _ hx));rw[List.length_erase_of_mem ha]at this;have h0:=nZ ha;rw[mM];lia
noncomputable abbrev Mp:=List (Int×Int)
noncomputable def jE(W:Mp)(n:Int):Mp:=W.filter λq=>decide (q.1≠n)
noncomputable def putW(W:Mp)(n p:Int):Mp:=if(W.any λq=>decide (q.1=n))=true then W.map (λq=>if q.1=n then(q.1,p)else q)else W++[(n,p)]
theorem j0{W:Mp}{n:Int}{q:Int×Int}:q∈jE W n↔q∈W/\q.1≠n:=by unfold jE;rw[mK,mC]
theorem qDH{W:Mp}(h:(W.map (·.1)).Nodup):W.Nodup:=(gN.mp h).imp λz e=>z (rL Prod.fst e)
theorem qL5{W:Mp}(h:(W.map (·.1)).Nodup){q r:Int×Int}(hq:q∈W)(hr:r∈W)(e:q.1=r.1):q=r:=by(
induction W with
|nil=>cases hq
|cons a W J=>
 obtain⟨z,I⟩:=m8.mp h;rcases kN.mp hq with D|h1
 .rcases kN.mp hr with d|h2
  .rw[D,d]
  exact absurd (by show a.1∈_;rw[<-D,e];exact cM (f:=λx:Int×Int=>x.1) h2) z
 rcases kN.mp hr with d|h2
 .exact absurd (by show a.1∈_;rw[<-d,<-e];exact cM (f:=λx:Int×Int=>x.1) h1) z
 exact J I h1 h2)
theorem q4V{W:Mp}{n:Int}(h:(W.map (·.1)).Nodup):((jE W n).map (·.1)).Nodup:=(h.sublist ((cN ..).map _))
theorem qG6{W:Mp}{n p:Int}(h:(W.map (·.1)).Nodup){q:Int×Int}:q∈putW W n p↔q=(n,p)\/q∈jE W n:=by(
unfold putW
by_cases e:(W.any λq=>decide (q.1=n))=true
.rw[kM e,mF];obtain⟨r,I,d⟩:=rQ.mp e;have d:r.1=n:=mI d;constructor
 .rintro⟨x,D,rfl⟩
  by_cases ex:x.1=n
  .rw[kM ex];exact .inl (by rw[ex])
  rw[kI ex];exact .inr (j0.mpr ⟨D,ex⟩)
 rintro(rfl|h2)
 .exact⟨r,I,by rw[kM d,d]⟩
 obtain⟨a,b⟩:=j0.mp h2;exact⟨q,a,kI b⟩
rw[kI e,gJ,kE]
have J:∀x∈W,x.1≠n:=λx D z=>e (rQ.mpr ⟨x,D,hC z⟩)
constructor
.rintro(h1|h1)
 .exact .inr (j0.mpr ⟨h1,J _ h1⟩)
 exact .inl h1
rintro(h1|h1)
.exact .inr h1
exact .inl (j0.mp h1).1)
theorem q9I{W:Mp}{n p:Int}(h:(W.map (·.1)).Nodup):((putW W n p).map (·.1)).Nodup:=by(
unfold putW
by_cases e:(W.any λq=>decide (q.1=n))=true
.rw[kM e,pF];have:(λx:Int×Int=>x.1) ∘ (λq:Int×Int=>if q.1=n then(q.1,p)else q)=λx=>x.1:=by funext x;show(if x.1=n then(x.1,p)else x).1=x.1;split<;>rfl
 rw[this];exact h
rw[kI e,gA]
refine rJ.mpr ⟨h,by simp,λa D b d z=>e ?_⟩
obtain⟨x,I,rfl⟩:=mF.mp D
have d:b=n:=by simpa using d
exact rQ.mpr ⟨x,I,hC (by rw[z,d])⟩)
theorem qG7{W V:Mp}{n p:Int}(h:(W.map (·.1)).Nodup)(pm:V.Perm W):(jE V n++[(n,p)]).Perm (putW W n p):=by(
have I:(V.map (·.1)).Nodup:=(pm.map _).nodup_iff.mpr h
refine q1I ?_ (qDH (q9I h)) λx=>?_
.refine rJ.mpr ⟨qDH (q4V I),by simp,λa D b d z=>?_⟩;have d:b=(n,p):=by simpa using d
 exact(j0.mp D).2 (by rw[z,d])
rw[qG6 h,gJ,kE,j0,j0,pm.mem_iff]
constructor
.rintro(a|a)
 .exact .inr a
 exact .inl a
rintro(a|a)
.exact .inr a
exact .inl a)
noncomputable def cntB(P:Nat)(W:Mp)(b:Nat):Nat:=W.countP λq=>decide (q.2 / (P:Int)=(b:Int))
theorem qG8{P:Nat}{W:Mp}{n p:Int}{b:Nat}(nd:(W.map (·.1)).Nodup)(h:(n,p)∈W):cntB P W b=cntB P (jE W n) b+if p / (P:Int)=(b:Int)then 1 else 0:=by(
have D:W.Perm ((n,p)::jE W n):=q1I (qDH nd) (m8.mpr ⟨λz=>(j0.mp z).2 rfl,qDH (q4V nd)⟩) λx=>by
 rw[kN,j0];constructor
 .intro d;by_cases e:x.1=n
  .exact .inl (qL5 nd d h e)
  exact .inr ⟨d,e⟩
 rintro(rfl|d)
 .exact h
 exact d.1
unfold cntB
rw[D.countP_eq,pN]
by_cases e:p / (P:Int)=(b:Int)
.rw[kM e,kM (hC e)]
rw[kI e,kI (by rw[mC];exact e)])
theorem qI9{W:Mp}{n:Int}(h:∀q∈W,q.1≠n):jE W n=W:=dX.mpr λq hq=>hC (h q hq)
structure BM where
P:Nat
B:Nat
ns:List Int
W:Mp
V:Mp
nx:Int
bs:List (Option Int)
ss:List Int
lv:List Int
fi:List Int
bo:List Int
namespace BM
variable{m:BM}
noncomputable def lvF(P:Nat)(V:Mp)(lv:List Int)(n:Int):List Int:=match V.find? λq=>decide (q.1=n)with
|some q=>lv.set (q.2 / (P:Int)).toNat (lv.getD (q.2 / (P:Int)).toNat 0-1)
|none=>lv
end BM
end W1
namespace L2
open PySem PySem.Spec PyProof.Rows
theorem q5F{n j:Nat}(h:j<n):ixN n (j:Int)=some j:=by(
unfold ixN
have a:(0:Int)<=j:=by lia
have b:(j:Int)<n:=by lia
simp[a,b,h])
theorem qG9{V:List (Int×Int)}{n:Int}:q78 (dI V) (Sum.inl n:Key)=dI (W1.jE V n):=by(
unfold q78 dI W1.jE
rw[List.filter_map]
congr 1
apply pG
intro q _
show decide ((Sum.inl q.1:Key)≠Sum.inl n)=decide (q.1≠n)
by_cases e:q.1=n<;>simp[e])
theorem qIA{W:List (Int×Int)}{n p:Int}:putK (dI W) (Sum.inl n:Key) (.int p)=dI (W1.putW W n p):=by(
unfold putK dI W1.putW
have e:((W.map λp=>((Sum.inl p.1:Key),V.int p.2)).any λd=>decide (d.1=Sum.inl n))=W.any λq=>decide (q.1=n):=by
 rw[List.any_map];congr 1;funext q;show decide ((Sum.inl q.1:Key)=Sum.inl n)=decide (q.1=n);by_cases e:q.1=n
 .rw[e];simp
 rw[hX e,hX (λz=>e (sS z))]
rw[e]
by_cases h:(W.any λq=>decide (q.1=n))=true
.rw[kM h,kM h,pF,pF];apply wK;intro q _;show(if(Sum.inl q.1:Key)=Sum.inl n then((Sum.inl q.1:Key),V.int p)else((Sum.inl q.1:Key),V.int q.2))=_;by_cases e:q.1=n
 .rw[kM (by rw[e])];show _=(λp:Int×Int=>((Sum.inl p.1:Key),V.int p.2)) (if q.1=n then(q.1,p)else q);rw[kM e]
 rw[kI (λz=>e (sS z))];show _=(λp:Int×Int=>((Sum.inl p.1:Key),V.int p.2)) (if q.1=n then(q.1,p)else q);rw[kI e]
rw[kI h,kI h,gA]
rfl)
theorem qEM{V:List (Int×Int)}{n p:Int}:W1.putW (W1.jE V n) n p=W1.jE V n++[(n,p)]:=by(
unfold W1.putW
rw[kI]
intro h
obtain⟨q,d,e⟩:=rQ.mp h
exact(W1.j0.mp d).2 (mI e))
theorem setV{ns:List Int}{c:Nat}{x:Int}:(ns.map V.int).set c (.int x)=(ns.set c x).map V.int:=by rw[aE]
theorem atV{ns:List Int}{c:Nat}(h:c<ns.length):atI (ns.map V.int) (c:Int)=some (.int (ns.getD c 0)):=by refine zJ ?_;rw[kZ,kF h,kL,kF h];rfl
theorem qA4:∀{A B:List (List Int)},A.Perm B->A.Pairwise (λa b=>lx b a=false)->B.Pairwise (λa b=>lx b a=false)->A=B
| [],B,p,_,_=>(xF.mp p).symm▸rfl
|a::A,[],p,_,_=>absurd p.length_eq (by simp)
|a::A,b::B,p,h1,h2=>by
 have e:a=b:=by
  by_cases e:a=b
  .exact e
  have D:b∈A:=(kN.mp (p.mem_iff.mpr kU)).resolve_left (λz=>e z.symm);have d:a∈B:=(kN.mp (p.mem_iff.mp kU)).resolve_left e;exact q5E a b ((g7.mp h2).1 a d) ((g7.mp h1).1 b D)
 subst e;rw[qA4 ((bI a).mp p) (g7.mp h1).2 (g7.mp h2).2]
theorem qDI:∀{A B:List Int},A.Perm B->A.Pairwise (·<=·)->B.Pairwise (·<=·)->A=B
| [],B,p,_,_=>(xF.mp p).symm▸rfl
|a::A,[],p,_,_=>absurd p.length_eq (by simp)
|a::A,b::B,p,h1,h2=>by
 have e:a=b:=by
  by_cases e:a=b
  .exact e
  have D:b∈A:=(kN.mp (p.mem_iff.mpr kU)).resolve_left (λz=>e z.symm);have d:a∈B:=(kN.mp (p.mem_iff.mp kU)).resolve_left e;have:=(g7.mp h2).1 a d;have:=(g7.mp h1).1 b D;lia
 subst e;rw[qDI ((bI a).mp p) (g7.mp h1).2 (g7.mp h2).2]
theorem qGA{a:Addr}{o:Obj}{kvs:List (Key×V)}{D:Addr}{H2:Hp}{g:TG}{tc:TT}{te:TE}{σ0:St}{R:Hp->Prop}(Pv:Nat->Hp->Prop)(h0:Pv 0 H2)(hl:∀i H,Pv i H->H a=some (.frz o (.dK kvs)))
 (hs:∀(i:Nat) kv H,kvs[i]?=some kv->Pv i H->g (kV kv.1) σ0 H λσ5 H5=>tc σ5 H5 λb H6=>if b=true then te σ5 H6 (λv H7=>∃vs,H7 D=some (.lst vs)/\vs.length<sizeLine/\Pv (i+1) (upd H7 D (.lst (vs++[v]))))else Pv (i+1) H6) (hd:∀H,Pv kvs.length H->R H):
 ∃W:Nat->Nat->Hp->Prop,(∃m,W 0 m H2)/\∀i m H3,W i m H3->((Itd a o kvs).stop i H3/\R H3)\/((Itd a o kvs).go i H3/\∃N:Hp->Prop,(∀H',N H'->∃m',m'<m/\W (i+1) m' H')/\∀x H4,(Itd a o kvs).yld i H3 x H4->g x σ0 H4 λσ5 H5=>tc σ5 H5 λb H6=>if b=true then te σ5 H6 (λv H7=>∃vs,H7 D=some (.lst vs)/\vs.length<sizeLine/\N (upd H7 D (.lst (vs++[v]))))else N H6):=qI2 (Q:=λz H=>R H) Pv h0 hl hs hd
theorem q7N{ks:List (List Int)}{q:List Nat}{n:Nat}(hn:ks.length=n)(p:q.Perm (List.range n)):(q.map λi=>ks.getD i []).Perm ks:=by(
refine(p.map λi=>ks.getD i []).trans ?_
have e:(List.range n).map (λi=>ks.getD i [])=ks:=by
 apply dL
 .rw[kB,mV,hn]
 intro i h1 h2;rw[pO,cW,kL,kF h2];rfl
rw[e])
theorem q7O{F:V->List Int->Prop}{us:List V}{ks:List (List Int)}{q:List Nat}(h:Paired F us ks)(hq:∀i∈q,i<us.length):Paired F (q.map λi=>us.getD i .non) (q.map λi=>ks.getD i []):=by(
refine q10 (by rw[kB,kB]) λj x k I d=>?_
rw[kZ]at I d
obtain⟨i,J,rfl⟩:=kP.mp I
rw[J]at d
obtain rfl:=kQ d
have hl:=hq i (gD J)
have N:us[i]?=some (us.getD i .non):=by rw[kL,kF hl];rfl
obtain⟨k,D,z⟩:=Paired.at h N
show F (us.getD i .non) (ks.getD i [])
rw[show ks.getD i []=k from by rw[kL,D];rfl]
exact z)
theorem u7{H H':Hp}{us:List V}{ks:List (List Int)}(h:Paired (TupD H) us ks)(s:Same H H'):Paired (TupD H') us ks:=Paired.mapP h λd d z=>z.same s
theorem qDJ{K:PySem.W.Frag}{H:Hp}{us:List V}{ks:List (List Int)}(h:Paired (TupD H) us ks):Paired (TupI K H) us ks:=Paired.mapP h λd d z=>z.i
theorem qEN{lo:Int}{n:Nat}{D:Addr}{H2:Hp}{g:TG}{tc:TT}{te:TE}{σ0:St}{R:Hp->Prop}(Pv:Nat->Hp->Prop)(h0:Pv 0 H2)
 (hs:∀(i:Nat) H,i<n->Pv i H->g (.int (lo+i)) σ0 H λσ5 H5=>tc σ5 H5 λb H6=>if b=true then te σ5 H6 (λv H7=>∃vs,H7 D=some (.lst vs)/\vs.length<sizeLine/\Pv (i+1) (upd H7 D (.lst (vs++[v]))))else Pv (i+1) H6) (hd:∀H,Pv n H->R H):
 ∃W:Nat->Nat->Hp->Prop,(∃m,W 0 m H2)/\∀i m H3,W i m H3->((Itr lo n).stop i H3/\R H3)\/((Itr lo n).go i H3/\∃N:Hp->Prop,(∀H',N H'->∃m',m'<m/\W (i+1) m' H')/\∀x H4,(Itr lo n).yld i H3 x H4->g x σ0 H4 λσ5 H5=>tc σ5 H5 λb H6=>if b=true then te σ5 H6 (λv H7=>∃vs,H7 D=some (.lst vs)/\vs.length<sizeLine/\N (upd H7 D (.lst (vs++[v]))))else N H6):=qB6 (Q:=λz H=>R H) Pv h0 hs hd
theorem qGB{H H3:Hp}{a:Addr}{u:HO}(ha:H a=some u)(k:∀b o,b≠a->H b=some o->H3 b=some o):Same H (upd H3 a u):=λb o e=>by(
by_cases z:b=a
.rw[z,qI,<-ha,<-z];exact e
rw[qD z]
exact k b o z e)
theorem uB{X:Cx}{K:PySem.W.Frag}{e:Expr}{ta:TE}{f:Str}{pos:Pos}(eK:X.K=K)(he:PE X e ta)(hb:attributeBase e f X.env (eval e X.env)=eval e X.env):PE X (.Attribute e f pos) (tFld K ta f):=by subst eK;exact qJ he hb
end L2
namespace L2
open PySem PySem.W PySem.Spec PyProof.Rows
noncomputable def BmIn(base:Heap)(mg:Str->Option Value):Prop:=∃bm o,mg "__builtins__"=some (.ref bm)/\bm≠builtinsNs/\base.get? bm=some o/\o.cls=.type "module"/\o.dict=some builtinsNs/\o.data=.plain
theorem qEO{P:Program}{w:World}{K:PySem.W.Frag}{mg mb:Str->Option Value}{CX:CXT}{k:Nat}{fa a:Addr}{fd:FuncData}{x:Str}{sp:Sp}{s₁:Shared}{vs:List Value}{ns:List Int}(ts:List Addr)
 (KX:K.In s₁.heap) (hts:∀T∈ts,s₁.heap.get? T=some (tabObj #[])/\K.lookup T=none/\∃c,codeHdIn K c T=true) (hns:s₁.heap.Ns mainGlobals mg) (hb:s₁.heap.Ns builtinsNs mb) (hbb:∀x:Str,x≠"__name__"->mb x=bootBuiltins x) (hlim:s₁.heap.NoLimit) (hbm:BmIn s₁.heap mg) (hg:s₁.gens=#[])
 (ha:s₁.heap.get? a=some { cls:=.type "list",data:=.seq vs.toArray }) (hi:IntsAre vs ns) (hl:ns.length<=sizeLine) (hr:Room k callerA)
 (F:∀base:Heap,K.In base->base.Ns mainGlobals mg->BmIn base mg->FnOk P w K mg base CX k fa fd [x] sp) (hbind:∀(s:Shared) (u:Value),BindsTo s fd ⟨[u],[]⟩ [(x,u)])
 (hsp:∀H:Hp,SqL K H a (ns.map V.int)->(∀T∈ts,H T=some (.tbl #[]))->sp [.ref a] H (λv z=>v=.bl true) λz z z=>False)
 (hCX:∀H e s',CX [] H s₁ (λz z z=>False) e s'->False):
 codeAny (model P w) callerA (.call (.ref fa) ⟨[.ref a],[]⟩) (λr s'=>r=.ok (.ret (.bool true))/\OldK s₁.heap s'.heap/\s'.os=s₁.os/\AllBare s'.gens) s₁:=by(
have rv:=q9D hi
have lenV:=hi.length
have ai:a∉ts:=λz=>by have e:=(hts a z).1;rw[ha]at e;cases e
have S:∀H:Hp,SqL K H a (ns.map V.int)->HOk P w H s₁.heap->(∀b,H b=none\/(b=a/\K.lookup a=none/\∃o xs,H b=some (.frz o (.lst xs)))\/(b∈ts/\H b=some (.tbl #[])))->(∀T∈ts,H T=some (.tbl #[]))->codeAny (model P w) callerA (.call (.ref fa) ⟨[.ref a],[]⟩) (λr s'=>r=.ok (.ret (.bool true))/\OldK s₁.heap s'.heap/\s'.os=s₁.os/\AllBare s'.gens) s₁:=by
 intro H hS ac hO hT;have I:∀{b:Addr} {o:Obj},s₁.heap.get? b=some o->H b=none->(hidT s₁.heap H).get? b=some o:=λe n=>q6U e n;have aj:∀{b:Addr} {o:Obj} {es:Array DictEntry} {ep:Nat},s₁.heap.get? b=some o->o.data=.dict es ep->H b=none:=fun {b o es ep} e d=>by
  rcases hO b with z|⟨rfl,_⟩|⟨z,_⟩
  .exact z
  .rw[ha]at e;cases e;cases d
  rw[(hts b z).1]at e;cases e;cases d
 have O:∀{b:Addr} {m:Str->Option Value},s₁.heap.Ns b m->(hidT s₁.heap H).Ns b m:=fun {b m} ⟨o,es,ep,e,d,r⟩=>⟨o,es,ep,I e (aj e d),d,r⟩
 have ab:K.In (hidT s₁.heap H):=λb o e=>I (KX b o e) (by
  rcases hO b with z|⟨rfl,z,_⟩|⟨z,_⟩
  .exact z
  .rw[z]at e;cases e
  rw[(hts b z).2.1]at e;cases e)
 have hM:Mod K mg (hidT s₁.heap H):=⟨ab,O hns,⟨mb,O hb,hbb⟩,let⟨mc,h1,h2⟩:=hlim;⟨mc,O h1,h2⟩⟩;have hB:BmIn (hidT s₁.heap H) mg:=by
  obtain⟨bm,o,b1,b2,b3,b4,b5,b6⟩:=hbm;refine⟨bm,o,b1,b2,I b3 ?_,b4,b5,b6⟩;rcases hO bm with z|⟨rfl,_⟩|⟨z,_⟩
  .exact z
  .rw[ha]at b3;cases b3;exact absurd (Value.type.inj b4) (by decide)
  rw[(hts bm z).1]at b3;cases b3;cases b4
 have e0:Env0 P w K mg (hidT s₁.heap H) callerA [] s₁ H:=⟨rfl,hM,λb o e=>qCY e,c8 (q8U _ _),trivial,λb hb=>absurd (show b∈([]:List Addr)from hb) (by simp),ac,.of_eq hg⟩;refine cK ((F _ ab (O hns) hB).run callerA [] s₁ H ⟨[.ref a],[]⟩ [.ref a] [.ref a] _ _ hr e0 (hbind s₁ (.ref a)) (.cons rfl .nil) (hsp H hS hT)) λr s' h=>?_;cases r with
 |error e=>exact(hCX H e s' h).elim
 |ok fl=>
  cases fl with
  |next=>exact False.elim h
  |brk=>exact False.elim h
  |cont=>exact False.elim h
  |ret u=>
   obtain⟨v,H',os,ad,un,N,r',q⟩:=h;have q':v=.bl true:=q;subst q';obtain rfl:u=Value.bool true:=r';have kept:∀b o,s₁.heap.get? b=some o->b∉ts->s'.heap.get? b=some o:=λb o e U=>by
    rcases hO b with z|⟨rfl,_,ob,xs,z⟩|⟨z,_⟩
    .exact un.keep b o e z (by intro z;exact absurd (show b∈([]:List Addr)from z) (by simp)) (by simp)
    .have Z:=un.frzs _ ob _ z;obtain⟨e1,_⟩:=ac _ _ z;obtain⟨e2,_⟩:=N _ _ Z;rw[e]at e1;cases e1;exact e2
    exact absurd z U
   refine⟨rfl,⟨λb o e=>?_,λb o e=>?_⟩,os,ad⟩
   .by_cases U:b∈ts
    .obtain⟨g,_,c,hc⟩:=hts b U;obtain⟨more,Z⟩:=un.tbls b _ (hT b U);have g2:s'.heap.get? b=some { cls:=.none,data:=.fields (#[]++more) }:=N _ _ Z;rw[g]at e;cases e;exact .inr (.inl ⟨((aR KX hc).tab g).isCodeTable,rfl,#[],more,rfl,g2⟩)
    exact .inl (kept b o e U)
   by_cases U:b∈ts
   .obtain⟨more,Z⟩:=un.tbls b _ (hT b U);exact⟨_,N _ _ Z⟩
   exact⟨o,kept b o e U⟩
have tb:∀T∈ts,∀H:Hp,H T=some (.tbl #[])->∀u,H T=some u->jL P w H s₁.heap T u:=λT hT H e u e'=>by rw[e]at e';cases e';exact(hts T hT).1
cases hk:K.lookup a with
|some o=>
 have e:=KX a o hk;rw[ha]at e;cases e;refine S (λb=>if b∈ts then some (.tbl #[])else none) (.inr ⟨_,vs.toArray,_,hk,rfl,rfl,rfl,by rw[mG,lenV];exact hl,by simpa using rv⟩) (λb u z=>?_) (λb=>?_) λT hT=>kM hT
 .by_cases D:b∈ts
  .exact tb b D _ (kM D) u z
  have z':=(kI D).symm.trans z;cases z'
 by_cases D:b∈ts
 .exact .inr (.inr ⟨D,kM D⟩)
 exact .inl (kI D)
|none=>
 refine S (λb=>if b=a then some (.frz { cls:=.type "list",data:=.seq vs.toArray } (.lst (ns.map V.int)))else if b∈ts then some (.tbl #[])else none) (.inl (.inr ⟨{ cls:=.type "list",data:=.seq vs.toArray },kM rfl⟩)) (λb u z=>?_) (λb=>?_) λT hT=>?_
 .by_cases D:b=a
  .have z':=(kM D).symm.trans z;cases z';subst D;exact⟨ha,by rw[kB];exact hl,vs,_,rv,ha⟩
  by_cases J:b∈ts
  .exact tb b J _ ((kI D).trans (kM J)) u z
  have z':=((kI D).trans (kI J)).symm.trans z;cases z'
 .by_cases D:b=a
  .exact .inr (.inl ⟨D,hk,_,_,kM D⟩)
  by_cases J:b∈ts
  .exact .inr (.inr ⟨J,(kI D).trans (kM J)⟩)
  exact .inl ((kI D).trans (kI J))
 have:T≠a:=λz=>ai (z▸hT);exact(kI this).trans (kM hT))
theorem qGC{l:PySem.W.OpenLaw}{n k:Nat}{q:Program}{loose:List Str}{XP:(Str->Option Value)->Heap->Prop}{YP:World->Heap->Prop}{d:DefRec}{K:Params->PySem.W.Frag}{CX:World->CXT}{sp:World->Sp}{x:Str}(ts:List Addr)
 (hn:l.most=some n) (hn2:n<=sizeLine) (hdf:d.params.defaults=[]) (hr:Room k callerA)
 (hY:∀(w:World) (h:Heap),YP w h->(K w.params).In h/\∀T∈ts,h.get? T=some (tabObj #[])) (hT:∀w:World,∀T∈ts,(K w.params).lookup T=none/\∃c,codeHdIn (K w.params) c T=true)
 (F:∀(w:World) (mg:Str->Option Value) (fa:Addr) (h:Heap),(K w.params).In h->h.Ns mainGlobals mg->mg d.name=some (.ref fa)->∃fd:FuncData,(∀(s:Shared) (u:Value),BindsTo s fd ⟨[u],[]⟩ [(x,u)])/\∀base:Heap,(K w.params).In base->base.Ns mainGlobals mg->BmIn base mg->FnOk l.prog w (K w.params) mg base (CX w) k fa fd [x] (sp w))
 (hsp:∀(w:World) (H:Hp) (a:Addr) (ns:List Int),ns.length<=n->SqL (K w.params) H a (ns.map V.int)->(∀T∈ts,H T=some (.tbl #[]))->sp w [.ref a] H (λv z=>v=.bl true) λz z z=>False)
 (hCX:∀(w:World) (H:Hp) (s:Shared) (e:Value) (s':Shared),CX w [] H s (λz z z=>False) e s'->False):
 PySem.W.WalkO q loose XP YP l.row.toRowW d [] (λf vs=>PySem.call f vs):=by(
refine Att.attach_call hn hdf λw ae ad mg mb fa o pm cd U a vs ns G Y ho hd aa J I D z hg=>?_
obtain⟨N,KT⟩:=hY w _ Y
obtain⟨fd,Z,S⟩:=F w mg fa _ N G.T.g J
exact qEO ts N (λT h=>⟨KT T h,hT w T h⟩) G.T.g G.T.b G.T.builtins G.T.nolimit (let⟨bm,ob,b1,b2,b3,b4,b5,b6⟩:=G.T.bmain;⟨bm,ob,b1,b2,b3,b4,b5,b6⟩) hg I D (mL z hn2) hr S Z (λH hS O=>hsp w H a ns z hS O) λH e s'=>hCX w H ad e s')
structure FunT(K:PySem.W.Frag)(x qual:Str)(st:Stmt)(c f:Addr)(fd:FuncData):Prop where
ex:∃(oc:Value) (od:Option Addr) (kV doc pm:Value) (an:Option Addr) (ct:Value) (osl:Array (Option Value)),fd=PySem.W.fnOf x qual (yE st) (jV st) (qF st) .none kV doc pm an (.ref c) ct/\K.lookup f=some ⟨oc,od,.func fd,osl⟩/\PySem.W.codeIn K (.ref c) qual=true
section
variable{P:Program}{w:World}{K:PySem.W.Frag}{mg:Str->Option Value}{base:Heap}
theorem FunT.mk'{x qual:Str}{st:Stmt}{c f:Addr}{oc:Value}{od an:Option Addr}{osl:Array (Option Value)}{kV doc pm ct:Value}(l:K.lookup f=some ⟨oc,od,.func (PySem.W.fnOf x qual (yE st) (jV st) (qF st) .none kV doc pm an (.ref c) ct),osl⟩)
 (h:PySem.W.codeIn K (.ref c) qual=true):FunT K x qual st c f (PySem.W.fnOf x qual (yE st) (jV st) (qF st) .none kV doc pm an (.ref c) ct):=⟨⟨oc,od,kV,doc,pm,an,ct,osl,rfl,l,h⟩⟩
theorem FunT.okE{x qual:Str}{st:Stmt}{c f:Addr}{fd:FuncData}{N ps:List Str}{k:Nat}{sp:Sp}(F:FunT K x qual st c f fd)(S:FnScope N ps (qF st))(len:∀vs H Q E,sp vs H Q E->vs.length=ps.length)
 (hbody:∀(A:Around) (outer:List Env) (s:Shared) (H:Hp) (vs:List V) (Q:VK) (E:XK),Room k (A.deeper (envOfC qual (qF st) s.heap.objs.size f (.ref c)))->sp vs H Q E->∃t,PSs (cxOf (CXe P w) P w K mg base N qual (qF st) f (.ref c) A outer s H E) (jV st) t/\t { nx:=λz H'=>Q .non H',rt:=Q } (q0A N vs) H):FnOk P w K mg base (CXe P w) (k+1) f fd ps sp:=by obtain⟨Z,od,kV,J,U,an,ct,I,rfl,O,d⟩:=F.ex;exact qD4 O d S len λA outer s H vs Q E D z=>hbody A outer s H vs Q E D z
theorem FunT.ok0{x qual:Str}{st:Stmt}{c f:Addr}{fd:FuncData}{N ps:List Str}{k:Nat}{sp:Sp}(F:FunT K x qual st c f fd)(S:FnScope N ps (qF st))
 (hbody:∀(A:Around) (outer:List Env) (s:Shared) (H:Hp) (vs:List V) (Q:VK) (E:XK),Room k (A.deeper (envOfC qual (qF st) s.heap.objs.size f (.ref c)))->sp vs H Q E->∃t,PSs (cxOf CX0 P w K mg base N qual (qF st) f (.ref c) A outer s H E).nox (jV st) t/\t { nx:=λz H'=>Q .non H',rt:=Q } (q0A N vs) H)(len:∀vs H Q E,sp vs H Q E->vs.length=ps.length:=by intro _ _ _ _ h;first|(cases h;subst_vars;rfl)|((repeat obtain⟨_,h⟩:=h);all_goals subst_vars;rfl)):FnOk P w K mg base CX0 (k+1) f fd ps sp:=by(
obtain⟨Z,od,kV,J,U,an,ct,I,rfl,O,d⟩:=F.ex
refine qD4 O d S len λA outer s H vs Q E D z=>?_
obtain⟨t,h,q⟩:=hbody A outer s H vs Q E D z
exact⟨t,h.nox,q⟩)
noncomputable def q5G(K:PySem.W.Frag)(ts:List Addr):Sp:=λvs H Q z=>∃(a:Addr) (ns:List Int),vs=[.ref a]/\SqL K H a (ns.map V.int)/\ns.length<=63/\(∀T∈ts,H T=some (.tbl #[]))/\∀H',Q (.bl true) H'
end
noncomputable def qDK(K:PySem.W.Frag)(C:Addr):Prop:=PySem.W.findIn K (.ref C) "__class__"=some (some (.builtin "object.__class__"))/\PySem.W.specialIn K (.builtin "object.__class__") "__get__"=some (some (.builtin "getset_descriptor.__get__"))/\PySem.W.takesIn K (.builtin "object.__class__")=some true/\PySem.W.mroIn K C (.type "object")=some true
theorem qDK.ty{K:PySem.W.Frag}{H:Hp}{a C dx:Addr}{fs:List (Str×V)}(h:qDK K C)(cl:Cls K C)(e:H a=some (.ins C dx fs)):KndT K H (.ref a) (.ref C):=.inl (.ins e cl h.1 h.2.1 h.2.2.1 h.2.2.2)
noncomputable def fnOb(fd:FuncData):Obj:={ cls:=.type "function",data:=.func fd }
noncomputable def fnO(f:Addr)(fd:FuncData):HO:=.ext λh=>h.get? f=some (fnOb fd)
noncomputable def cdO(c:Addr)(q:Str):HO:=.ext λh=>∃o vs t,h.get? c=some o/\o.data=.fields vs/\vs[1]?=some (.str q t)
theorem qGD{P:Program}{w:World}{H:Hp}{h:Heap}{f:Addr}{fd:FuncData}(e:h.get? f=some (fnOb fd)):jL P w H h f (fnO f fd):=⟨e,⟨_,e⟩,λz z a b=>b _ a⟩
theorem qL6{P:Program}{w:World}{H:Hp}{h:Heap}{c:Addr}{q:Str}(e:h.CodeRec (.ref c) q):jL P w H h c (cdO c q):=by obtain⟨N,o,d,t,J,z,I,D⟩:=e;cases J;exact⟨⟨o,d,t,z,I,D⟩,⟨_,z⟩,λ_ _ ⟨o,d,t,a,b⟩ k=>⟨o,d,t,k _ a,b⟩⟩
theorem qGE{P:Program}{w:World}{H:Hp}{h:Heap}{f:Addr}{fd:FuncData}(ok:HOk P w H h)(e:H f=some (fnO f fd)):h.get? f=some (fnOb fd):=(ok f _ e).1
theorem qGF{P:Program}{w:World}{H:Hp}{h:Heap}{c:Addr}{q:Str}(ok:HOk P w H h)(e:H c=some (cdO c q)):h.CodeRec (.ref c) q:=let⟨o,vs,t,a,b⟩:=(ok c _ e).1
 ⟨c,o,vs,t,rfl,a,b⟩
theorem qL7{CX:CXT}{P:Program}{w:World}{K:PySem.W.Frag}{mg:Str->Option Value}{base:Heap}{k:Nat}{f c:Addr}{name qual:Str}{params:Arguments}{body:Expr}{scope:Scope}{pm ct:Value}{N ps:List Str}{sp:Sp}(S:FnScope N ps scope)
 (len:∀vs H Q E,sp vs H Q E->vs.length=ps.length) (hf:∀vs H Q E,sp vs H Q E->H f=some (fnO f (kla_fn name qual params body scope [] pm (.ref c) ct))/\H c=some (cdO c qual))
 (hbody:∀(A:Around) (outer:List Env) (s:Shared) (H:Hp) (vs:List V) (Q:VK) (E:XK),Room k (A.deeper (envOfC qual scope s.heap.objs.size f (.ref c)))->sp vs H Q E->∃t,PE (cxOf CX P w K mg base N qual scope f (.ref c) A outer s H E) body t/\t (q0A N vs) H Q):
 FnOk P w K mg base CX (k+1) f (kla_fn name qual params body scope [] pm (.ref c) ct) ps sp:=by(
refine⟨len,λA outer s H ab us vs Q E O z hb r d=>?_⟩
have hl:=len _ _ _ _ d
have KX:K.In s.heap:=z.mod.kin.keeps λb o e=>(z.bs b o e).1
have U:s.heap.NoLimit:=z.mod.nolimit.keeps λb o e=>(z.bs b o e).1
have D:∀y∈ps.zip us,scope.names.lookup y.1=some .local\/(scope.names.lookup y.1=some .cell/\((cellsFrom (s.heap.objs.size+1) scope.names []).lookup y.1).isSome=true):=λ⟨n,v⟩ hy=>by
 rcases S.par n (pW hy).1 with q|q
 .exact .inl q
 exact .inr ⟨q,c9 _ _ _ (.inl q)⟩
obtain⟨aa,Z⟩:=hf _ _ _ _ d
refine kla_callFunE O.depth (qGE z.hok aa) rfl S.co S.gen rfl (qGF z.hok Z) (hb _ _ _ _ ?_)
refine sK S.kind D λenv he s1 x=>?_
subst he
refine⟨U.keeps x.toInCall.keep,kla_codeExpr ?_⟩
obtain⟨t,ht,hq⟩:=hbody A outer s H vs Q E (O.deeper _) d
have I:Inv (cxOf CX P w K mg base N qual scope f (.ref c) A outer s H E) [] (q0A N vs) H s1:=q95 S O.hd z hl r x
exact g4 (ht [] s1 (q0A N vs) H _ I hq) (λu s' ⟨v,H',J,rv,q⟩=>⟨v,H',J.os,J.bare,J.base,J.hok,rv,q⟩) λe s' hs=>hs)
noncomputable def vW(base:Heap)(cs:List Addr):Hp:=λb=>if(base.get? b).isSome=true\/b∈cs then none else some (.lst [])
theorem q2D{h base base':Heap}:∀{l:List Env},h.FunFrames base l->(∀L∈frs l,base.get? L=none->base'.get? L=none)->h.FunFrames base' l
| [],_,_=>trivial
|env::r,⟨hk,⟨L,o,hf,hn,ho,hd⟩,hr⟩,k=>by
 have hL:L∈frs (env::r):=by unfold frs;rw[dU,hf];exact kU
 exact⟨hk,⟨L,o,hf,k L hL hn,ho,hd⟩,q2D hr λb d=>k b (by unfold frs;rw[dU,hf];exact hU _ d)⟩
theorem Inv.env0C{X:Cx}{pins:List (Addr×Obj)}{σ:St}{H:Hp}{s:Shared}(I:Inv X pins σ H s)(cs:List Addr)(hcs:∀c∈cs,∃x,X.fn x=true/\X.env.cells.lookup x=some c):
 Env0 X.prog X.w X.K X.mg (hidT s.heap (vW X.base cs)) X.A X.stack s H/\(∀b o,X.base.get? b=some o->(hidT s.heap (vW X.base cs)).get? b=some o)/\∀c∈cs,∀o,s.heap.get? c=some o->(hidT s.heap (vW X.base cs)).get? c=some o:=by(
have D:∀b o,X.base.get? b=some o->(hidT s.heap (vW X.base cs)).get? b=some o:=λb o e=>q6U (I.bk b o e) (kM (.inl (by rw[e];rfl)))
have d:∀{b:Addr} {o:Obj},(hidT s.heap (vW X.base cs)).get? b=some o->s.heap.get? b=some o/\((∃o',X.base.get? b=some o')\/b∈cs):=fun {b o} e=>by
 obtain⟨J,n⟩:=qCY e;refine⟨J,?_⟩;by_cases z:(X.base.get? b).isSome=true\/b∈cs
 .rcases z with z|z
  .exact .inl (cO.mp z)
  exact .inr z
 rw[show vW X.base cs b=some (.lst [])from kI z]at n;cases n
obtain⟨U,O,S⟩:=I.ok.mod.blt
refine⟨⟨I.ok.frames,⟨I.ok.mod.kin.keeps D,I.ok.mod.glob.keeps D,⟨U,O.keeps D,S⟩,I.ok.mod.nolimit.keeps D⟩,λb o e=>?_,by rw[q8U];exact kO _,q2D I.stack λL Z n=>?_,I.stkFree,I.hok,I.bare⟩,D,λc hc o e=>q6U e (kM (.inr hc))⟩
.obtain⟨J,z⟩:=d e;rcases z with⟨o',z⟩|z
 .exact⟨J,(I.bs b o' z).2⟩
 obtain⟨x,_,N⟩:=hcs b z;exact⟨J,I.freeC x b N⟩
cases e:(hidT s.heap (vW X.base cs)).get? L with
|none=>rfl
|some o=>
 obtain⟨J,z⟩:=d e;rcases z with⟨o',z⟩|z
 .rw[n]at z;cases z
 obtain⟨x,hf,N⟩:=hcs L z;rcases kN.mp (I.stkSub L Z)with y|y
 .exact absurd y (I.cne x L N)
 obtain⟨_,o2,ho,_⟩:=I.ok.funs.mem y;exact absurd (kX ho) (pL.mpr (I.ok.cab x L hf N)))
noncomputable def q2E(cells:List (Str×Addr))(σ:St)(base':Heap)(ix:List (Nat×Str)):Prop:=∀p∈ix,∀v,σ[p.1]?=some (some v)->∃c u,cells.lookup p.2=some c/\RelV v u/\base'.IsCell c (some u)
noncomputable def qMH(T:Addr)(pos:Pos)(qual:Str)(params:Arguments)(body:Expr)(scope:Scope)(clos:List (Str×Addr))(pm:Value):TE:=λσ H Q=>∃ps,H T=some (.tbl ps)/\TriplesOk ps.toList/\codeAmong pos ps.toList=none/\∀(f c':Addr) (ctv:Value),H f=none->H c'=none->f≠c'->Q (.ref f) (upd (upd (upd H T (.tbl (ps++#[rawInt pos.line,rawInt pos.col,.ref c']))) c' (cdO c' qual)) f (fnO f (kla_fn "<lambda>" qual params body scope clos pm (.ref c') ctv)))
theorem qIB{X:Cx}{c T:Addr}{params:Arguments}{body:Expr}{scope:Scope}{pos:Pos}{clos:List (Str×Addr)}(hcode:X.env.code=.ref c)(hcd:codeHdIn X.K c T=true)(B:BmIn X.base X.mg)(hcl:closureFor scope X.env=pure clos)(hdef:defaultsOf params X.env=([],[])):
 PE X (.Lambda params body scope pos) (qMH T pos (X.env.qual++"<lambda>") params body scope clos ((X.mg "__name__").getD .none)):=by(
intro pins s σ H Q I hZ
obtain⟨ps,hT,ht,am,q⟩:=hZ
have hP:s.heap.get? T=some (tabObj ps):=I.hok T _ hT
have Z:s.heap.Ns mainGlobals X.mg:=I.ok.mod.glob.keeps I.bk
obtain⟨bm,ob,b1,b2,b3,b4,b5,b6⟩:=B
have J:=I.bk _ _ b3
have al:mainGlobals≠T:=λz=>by obtain⟨o,es,ep,e,O,_⟩:=Z;rw[z,hP]at e;cases e;cases O
have aj:bm≠T:=λz=>by rw[z,hP]at J;cases J;cases b4
have ah:bm≠mainGlobals:=λz=>by obtain⟨o,es,ep,e,O,_⟩:=Z;rw[z,e]at J;cases J;rw[O]at b6;cases b6
refine kla_eval hdef (kla_makeFunction (clos:=clos) hcl I.ok.glob Z hcode (aR I.kIn hcd) hP ht am al ⟨bm,ob,b1,b2,ah,aj,J,b4,b5,b6⟩ λN ae h' tk hx U ag ad af=>?_)
have trk:∀b u,s.heap.get? b=some u->b≠T->∀o,(h'.push o).get? b=some u:=λb u e n o=>kJ _ (hx b u n e)
have sz:s.heap.objs.size<=h'.objs.size:=mL U (cJ ag)
have S:H h'.objs.size=none:=I.hok.fresh sz
have nC:H N=none:=I.hok.fresh U
have fc:h'.objs.size≠N:=rE ag
have D:∀{b:Addr},b≠T->b≠N->b≠h'.objs.size->∀u:HO,(upd (upd (upd H T (.tbl (ps++#[rawInt pos.line,rawInt pos.col,.ref N]))) N (cdO N (X.env.qual++"<lambda>"))) h'.objs.size (fnO h'.objs.size (kla_fn "<lambda>" (X.env.qual++"<lambda>") params body scope clos ((X.mg "__name__").getD .none) (.ref N) ae))) b=H b:=fun {b} z1 z2 z3 _=>by rw[qD z3,qD z2,qD z1]
refine⟨.ref h'.objs.size,_,?_,rfl,q _ N ae S nC fc⟩
refine I.un (t':=tk) ⟨λb o e n F F=>trk b o e (qH hT n).symm _,λb o e n F F=>⟨o.slots,trk b o e (qH hT n).symm _⟩,λb o e n F=>?_,λb o e F=>?_,λb xs e=>?_,λb o u e=>?_,λb qs e=>?_⟩ λb u e=>?_
.have hb:b<s.heap.objs.size:=kX e;rw[D (qH hT n).symm (mR (mW hb U)) (mR (mW hb sz)) (.lst [])];exact n
.by_cases z:b=T
 .subst z;exact⟨_,kJ _ af⟩
 exact⟨o,trk b o e z _⟩
.rw[D (λz=>by rw[z,hT]at e;cases e) (qH e nC) (qH e S) (.lst [])];exact e
.rw[D (λz=>by rw[z,hT]at e;cases e) (qH e nC) (qH e S) (.lst [])];exact e
.by_cases z:b=T
 .subst z;rw[hT]at e;cases e;refine⟨#[rawInt pos.line,rawInt pos.col,.ref N],?_⟩;rw[qD (qH hT S),qD (qH hT nC)];exact qI
 exact⟨#[],by rw[D z (qH e nC) (qH e S) (.lst []),e];simp⟩
by_cases z3:b=h'.objs.size
.subst z3;rw[qI]at e;cases e;exact qGD (mP _ rfl)
by_cases z2:b=N
.subst z2;rw[qD z3,qI]at e;cases e;exact qL6 (ad.push _)
by_cases z:b=T
.subst z;rw[qD z3,qD z2,qI]at e;cases e;exact kJ _ af
rw[D z z2 z3 (.lst [])]at e
refine(I.hok b u e).stay (λd v O r=>trk d v r (λy=>?_) _) (λd r=>?_) λd xs r=>?_
.rcases O with O|O
 .exact z (O▸y)
 rw[y,hT]at O;cases O
.rw[D (λy=>by rw[y,hT]at r;cases r) (qH r nC) (qH r S) (.lst [])];exact r
rw[D (λy=>by rw[y,hT]at r;cases r) (qH r nC) (qH r S) (.lst [])];exact r)
noncomputable abbrev envL(qual:Str)(scope:Scope)(clos:List (Str×Addr))(L f:Addr)(cd:Value):Env:=newEnv scope L mainGlobals clos (qual++".<locals>.") (some f) cd none builtinsNs
noncomputable def qGG(CX:CXT)(P:Program)(w:World)(K:PySem.W.Frag)(mg:Str->Option Value)(base:Heap)(N:List Str)(qual:Str)(scope:Scope)(clos:List (Str×Addr))(f:Addr)(cd:Value)(A:Around)(outer:List Env)(s:Shared)(H:Hp)(E:XK):Cx where
prog:=P
w:=w
K:=K
mg:=mg
base:=base
A:=A.deeper (envL qual scope clos s.heap.objs.size f cd)
N:=N
s₀:=s
H₀:=H
env:=envL qual scope clos s.heap.objs.size f cd
outer:=outer
stack:=envL qual scope clos s.heap.objs.size f cd::outer
ex:=[]
calm:=true
fn:=λz=>false
pn:=[]
xe:=λe s'=>wpAny (model P w) (A.deeper (envL qual scope clos s.heap.objs.size f cd)) (leaving (envL qual scope clos s.heap.objs.size f cd) e) (λz s''=>CX outer H s E e s'') (λe' s''=>CX outer H s E e' s'') s'
structure LamSc(scope:Scope)(x0:Str)(clos:List (Str×Addr))(fvs:List V)(base:Heap):Prop where
kind:scope.kind=.function
co:scope.isCoroutine=false
gen:scope.isGenerator=false
par:scope.names.lookup x0=some .local
nocell:∀y∈scope.names,y.2≠ .cell
free:∀y,scope.names.lookup y=some .free->∃c,clos.lookup y=some c
inj:∀x y c,clos.lookup x=some c->clos.lookup y=some c->x=y
at':∀(j:Nat) (x:Str) (c:Addr),clos[j]?=some (x,c)->scope.names.lookup x=some .free/\clos.lookup x=some c/\∃v u,fvs[j]?=some v/\RelV v u/\base.IsCell c (some u)
len:fvs.length=clos.length
theorem qIC{CX:CXT}{P:Program}{w:World}{K:PySem.W.Frag}{mg:Str->Option Value}{base:Heap}{k:Nat}{f c:Addr}{name qual:Str}{params:Arguments}{body:Expr}{scope:Scope}{pm ct:Value}{x0:Str}{clos:List (Str×Addr)}{fvs:List V}{sp:Sp}(S:LamSc scope x0 clos fvs base)
 (len:∀vs H Q E,sp vs H Q E->vs.length=1) (hf:∀vs H Q E,sp vs H Q E->H f=some (fnO f (kla_fn name qual params body scope clos pm (.ref c) ct))/\H c=some (cdO c qual))
 (hbody:∀(A:Around) (outer:List Env) (s:Shared) (H:Hp) (v0:V) (Q:VK) (E:XK),Room k (A.deeper (envL qual scope clos s.heap.objs.size f (.ref c)))->sp [v0] H Q E->∃t,PE (qGG CX P w K mg base (x0::clos.map (·.1)) qual scope clos f (.ref c) A outer s H E) body t/\t (some v0::fvs.map some) H Q):
 FnOk P w K mg base CX (k+1) f (kla_fn name qual params body scope clos pm (.ref c) ct) [x0] sp:=by(
refine⟨len,λA outer s H ai us vs Q E hr D hb r O=>?_⟩
have hl:=len _ _ _ _ O
obtain⟨v0,rfl⟩:∃v0,vs=[v0]:=match vs,hl with| [v],_=>⟨v,rfl⟩
obtain⟨u0,rfl,r0⟩:=q09 r
have ae:s.heap.NoLimit:=D.mod.nolimit.keeps λb o e=>(D.bs b o e).1
obtain⟨ag,ac⟩:=hf _ _ _ _ O
refine kla_callFunE hr.depth (qGE D.hok ag) rfl S.co S.gen rfl (qGF D.hok ac) (hb _ _ _ _ ?_)
refine lP S.nocell (λy N=>?_) (λh' hn hs=>?_) S.kind
.obtain rfl:y=(x0,u0):=by simpa using N
 exact S.par
have Z:∀b o,s.heap.get? b=some o->h'.get? b=some o:=λb o e=>by have:=hs.2 b (mR (kX e));rw[this];exact kJ _ e
refine⟨ae.keeps Z,kla_codeExpr ?_⟩
obtain⟨t,ht,hq⟩:=hbody A outer s H v0 Q E (hr.deeper _) O
have U:∀b:Addr,b∉(qGG CX P w K mg base (x0::clos.map (·.1)) qual scope clos f (.ref c) A outer s H E).ex:=λb z=>absurd (show b∈([]:List Addr)from z) (by simp)
have ab:∀y d,clos.lookup y=some d->∃u,base.IsCell d (some u):=λy d e=>by obtain⟨j,hj,ej⟩:=rM (gW e);obtain⟨_,_,v,u,_,_,hu⟩:=S.at' j y d (kC.mpr ⟨hj,ej⟩);exact⟨u,hu⟩
have I:Inv (qGG CX P w K mg base (x0::clos.map (·.1)) qual scope clos f (.ref c) A outer s H E) [] (some v0::fvs.map some) H { s with heap:=h',toks:=s.toks + [(x0,u0)].length }:=by
 refine⟨⟨D.mod,S.kind,rfl,rfl,kO _,S.inj,λy N=>?_,λy c z F=>absurd (show false=true from z) (by decide),λF=>hr.hd,lK D.frames,.inr ⟨rfl,rfl⟩,λb z=>absurd z (U b),D.bs,D.bsz,λb F F=>U b,λb z=>absurd z (U b),D.funs,D.frf⟩,rfl,D.bare,Un.kept Z,⟨_,hn,λi y v h1 h2 h3=>?_⟩,λy d e=>?_,D.hok.fresh (kO _),λy d e=>?_,λp hp=>absurd (show p∈([]:List (Addr×Obj))from hp) (by simp),D.hok.kept Z,?_⟩
 .have N:scope.names.lookup y=some .cell\/scope.names.lookup y=some .free:=N;rcases N with N|N
  .exact absurd rfl (S.nocell _ (gW N))
  exact S.free y N
 .cases i with
  |zero=>obtain rfl:=kQ h1;obtain rfl:=kQ (kQ h2);refine⟨u0,r0,.inl ⟨S.par,?_⟩⟩;show([(x0,u0)]:List (Str×Value)).reverse.lookup x0=some u0;simp
  |succ j=>have h1:(clos.map (·.1))[j]?=some y:=h1;have h2:(fvs.map some)[j]?=some (some v):=h2;rw[kZ]at h1 h2;obtain⟨⟨y',d⟩,hd,rfl⟩:=kP.mp h1;obtain⟨v',hv,ev⟩:=kP.mp h2;obtain rfl:=kQ ev;obtain⟨a1,a2,v2,u,a3,a4,a5⟩:=S.at' j _ d hd;rw[hv]at a3;obtain rfl:=kQ a3;exact⟨u,a4,.inr ⟨.inr a1,d,a2,a5.keeps λb o e=>Z b o (D.bs b o e).1⟩⟩
 .obtain⟨u,hu⟩:=ab y d e;exact⟨_,hu.keeps λb o e=>Z b o (D.bs b o e).1⟩
 .obtain⟨u,o,ho,_⟩:=ab y d e;exact(D.bs _ _ ho).2
 show(some v0::fvs.map some).length=(x0::clos.map (·.1)).length;rw[mM,mM,kB,kB,S.len]
exact g4 (ht [] _ _ H _ I hq) (λu s' ⟨v,H',J,rv,q⟩=>⟨v,H',J.os,J.bare,J.base,J.hok,rv,q⟩) λe s' hs=>hs)
theorem qID{scope:Scope}{env:Env}(h:(scope.names.all λy=>decide (y.2≠ .free)||(env.cells.lookup y.1).isSome)=true):closureFor scope env=pure (clOf env scope.names []):=q7D λy hy hf=>by(
 have q:=rB.mp h y hy;rw[wT,mC]at q;rcases q with q|q
 .exact absurd hf q
 exact cO.mp q)
theorem qEP{scope:Scope}{x0 y:Str}{ca:Addr}{v:V}{u:Value}{base:Heap}(hk:scope.kind=.function)(hco:scope.isCoroutine=false)(hg:scope.isGenerator=false)(hp:scope.names.lookup x0=some .local)
 (hn:(scope.names.all λz=>decide (z.2≠ .cell)&&(decide (z.2≠ .free)||decide (z.1=y)))=true) (hf:scope.names.lookup y=some .free) (r:RelV v u) (hc:base.IsCell ca (some u)):LamSc scope x0 [(y,ca)] [v] base:=by(
have d:∀z∈scope.names,z.2≠ .cell/\(z.2≠ .free\/z.1=y):=λz D=>by have q:=rB.mp hn z D;rw[mU,wT,mC,mC,mC]at q;exact q
have I:([(y,ca)]:List (Str×Addr)).lookup y=some ca:=by simp
have one:∀x c,([(y,ca)]:List (Str×Addr)).lookup x=some c->x=y/\c=ca:=λx c e=>by have m:=gW e;simpa using m
refine⟨hk,hco,hg,hp,λz D=>(d z D).1,λz D=>?_,λa b c h1 h2=>?_,λj x c h=>?_,rfl⟩
.have m:=(d _ (gW D)).2;rcases m with m|m
 .exact absurd rfl m
 exact⟨ca,by rw[show z=y from m];exact I⟩
.rw[(one _ _ h1).1,(one _ _ h2).1]
match j,h with
|0,h=>
 obtain⟨rfl,rfl⟩:y=x/\ca=c:=by simpa using h
 exact⟨hf,I,v,u,rfl,r,hc⟩
|j+1,h=>exact absurd h (by simp))
theorem qBF{env:Env}{names:List (Str×NameKind)}{y:Str}{ca:Addr}(e:env.cells.lookup y=some ca)(h:clOf env names []=match env.cells.lookup y with|some a=>[(y,a)] |none=>[]):clOf env names []=[(y,ca)]:=by rw[h,e]
noncomputable def qL8(T:Addr)(pos:Pos)(qual:Str)(params:Arguments)(body:Expr)(scope:Scope)(clos:List (Str×Addr))(pm:Value):TE:=λσ H Q=>∃ps c',H T=some (.tbl ps)/\TriplesOk ps.toList/\codeAmong pos ps.toList=some (.ref c')/\∀(f:Addr) (ctv:Value),H f=none->Q (.ref f) (upd H f (fnO f (kla_fn "<lambda>" qual params body scope clos pm (.ref c') ctv)))
theorem qGH{X:Cx}{c T:Addr}{params:Arguments}{body:Expr}{scope:Scope}{pos:Pos}{clos:List (Str×Addr)}(hcode:X.env.code=.ref c)(hcd:codeHdIn X.K c T=true)(B:BmIn X.base X.mg)(hcl:closureFor scope X.env=pure clos)(hdef:defaultsOf params X.env=([],[])):
 PE X (.Lambda params body scope pos) (qL8 T pos (X.env.qual++"<lambda>") params body scope clos ((X.mg "__name__").getD .none)):=by(
intro pins s σ H Q I hZ
obtain⟨ps,c',hT,ht,aa,q⟩:=hZ
have hP:s.heap.get? T=some (tabObj ps):=I.hok T _ hT
have N:s.heap.Ns mainGlobals X.mg:=I.ok.mod.glob.keeps I.bk
obtain⟨bm,ob,b1,b2,b3,b4,b5,S⟩:=B
have D:=I.bk _ _ b3
have U:bm≠T:=λz=>by rw[z,hP]at D;cases D;cases b4
have O:bm≠mainGlobals:=λz=>by obtain⟨o,es,ep,e,hd,_⟩:=N;rw[z,e]at D;cases D;rw[hd]at S;cases S
refine kla_eval hdef (kla_makeFunctionHit (clos:=clos) hcl I.ok.glob N hcode (aR I.kIn hcd) hP ht aa ⟨bm,ob,b1,b2,O,U,D,b4,b5,S⟩ λZ h' tk hx sz=>?_)
have trk:∀b u,s.heap.get? b=some u->∀o,(h'.push o).get? b=some u:=λb u e o=>kJ _ (hx b u e)
have J:H h'.objs.size=none:=I.hok.fresh sz
refine⟨.ref h'.objs.size,_,?_,rfl,q _ Z J⟩
refine I.un (t':=tk) ⟨λb o e n F F=>trk b o e _,λb o e n F F=>⟨o.slots,trk b o e _⟩,λb o e n F=>?_,λb o e F=>⟨o,trk b o e _⟩,λb xs e=>?_,λb o u e=>?_,λb qs e=>?_⟩ λb u e=>?_
.rw[qD (mR (mW (kX e) sz))];exact n
.rw[qD (qH e J)];exact e
.rw[qD (qH e J)];exact e
.exact⟨#[],by rw[qD (qH e J),e];simp⟩
by_cases z3:b=h'.objs.size
.subst z3;rw[qI]at e;cases e;exact qGD (mP _ rfl)
rw[qD z3]at e
refine(I.hok b u e).stay (λd v hd r=>trk d v r _) (λd r=>?_) λd xs r=>?_
.rw[qD (qH r J)];exact r
rw[qD (qH r J)];exact r)
noncomputable def qMI(T:Addr)(pos:Pos)(qual:Str)(params:Arguments)(body:Expr)(scope:Scope)(clos:List (Str×Addr))(pm:Value):TE:=λσ H Q=>∃ps,H T=some (.tbl ps)/\TriplesOk ps.toList/\((codeAmong pos ps.toList=none/\∀(f c':Addr) (ctv:Value) (H':Hp),H f=none->H' f=some (fnO f (kla_fn "<lambda>" qual params body scope clos pm (.ref c') ctv))->H' c'=some (cdO c' qual)->H' T=some (.tbl (ps++#[rawInt pos.line,rawInt pos.col,.ref c']))->(∀b o,b≠T->H b=some o->H' b=some o)->Q (.ref f) H')\/∃c',codeAmong pos ps.toList=some (.ref c')/\∀(f:Addr) (ctv:Value) (H':Hp),H f=none->H' f=some (fnO f (kla_fn "<lambda>" qual params body scope clos pm (.ref c') ctv))->Same H H'->Q (.ref f) H')
theorem qDL{X:Cx}{c T:Addr}{params:Arguments}{body:Expr}{scope:Scope}{pos:Pos}{clos:List (Str×Addr)}(hcode:X.env.code=.ref c)(hcd:codeHdIn X.K c T=true)(B:BmIn X.base X.mg)(hcl:closureFor scope X.env=pure clos)(hdef:defaultsOf params X.env=([],[])):
 PE X (.Lambda params body scope pos) (qMI T pos (X.env.qual++"<lambda>") params body scope clos ((X.mg "__name__").getD .none)):=λpins s σ H Q I ⟨ps,hT,ht,h⟩=>by(
rcases h with⟨hn,q⟩|⟨c',hn,q⟩
.exact qIB hcode hcd B hcl hdef pins s σ H Q I ⟨ps,hT,ht,hn,λf c' ctv nf nc fc=>q f c' ctv _ nf qI (by rw[qD fc.symm];exact qI) (by rw[qD (qH hT nf),qD (qH hT nc)];exact qI) λb o nb e=>by rw[qD (qH e nf),qD (qH e nc),qD nb];exact e⟩
exact qGH hcode hcd B hcl hdef pins s σ H Q I ⟨ps,c',hT,ht,hn,λf ctv nf=>q f ctv _ nf qI (Same.upd nf)⟩)
theorem qDM{X:Cx}{CX:CXT}{k:Nat}{f:Addr}{fd:FuncData}{ps:List Str}{sp:Heap->Sp}{dvs:List V}{ds:List Value}{E:XK}{pins:List (Addr×Obj)}{σ:St}{H:Hp}{s:Shared}{Q:VK}{us:List Value}{vs:List V}(ix:List (Nat×Str))
 (hix:∀p∈ix,X.N[p.1]?=some p.2/\X.env.scope.names.lookup p.2=some .cell/\X.fn p.2=true)
 (F:∀base',(∀b o,X.base.get? b=some o->base'.get? b=some o)->q2E X.env.cells σ base' ix->FnOk X.prog X.w X.K X.mg base' CX k f fd ps (sp base')) (hr:Room k X.A) (hb:jQ X.K fd ps ds) (hd:Vals dvs ds) (hx:q28 CX X E)
 (I:Inv X pins σ H s) (r:Vals vs us) (h:∀base',(∀b o,X.base.get? b=some o->base'.get? b=some o)->q2E X.env.cells σ base' ix->sp base' (vs++dvs) H Q E):wpAny (model X.prog X.w) X.A (call (.ref f) us) (EP X pins σ Q) X.xe s:=by(
have r2:Vals (vs++dvs) (us++ds):=r.append hd
obtain⟨e0,U,O⟩:=I.env0C (ix.filterMap λp=>X.env.cells.lookup p.2) (λc J=>by obtain⟨p,D,e⟩:=d6.mp J;exact⟨p.2,(hix p D).2.2,e⟩)
have S:q2E X.env.cells σ (hidT s.heap (vW X.base (ix.filterMap λp=>X.env.cells.lookup p.2))) ix:=λp D v Z=>by
 obtain⟨h1,h2,h3⟩:=hix p D;obtain⟨m,_,hl⟩:=I.loc;obtain⟨u,ru,lk⟩:=hl p.1 p.2 v h1 Z (.inr (.inl h2));rcases lk with⟨z,_⟩|⟨_,c,J,o,ho,hd⟩
 .have z:X.env.scope.names.lookup p.2=some .local:=z;rw[h2]at z;cases z
 exact⟨c,u,J,ru,o,O c (d6.mpr ⟨p,D,J⟩) o ho,hd⟩
have q:=h _ U S
have hl:(us++ds).length=ps.length:=by rw[<-r2.length];exact(F _ U S).len _ _ _ _ q
refine cF (cK ((F _ U S).run X.A X.stack s H ⟨us,[]⟩ (us++ds) (vs++dvs) Q E hr e0 (hb s us I.kIn hl) r2 q) λr s' d=>?_)
cases r with
|error e=>exact hx pins σ H s e s' I d
|ok fl=>
 cases fl with
 |ret u=>exact I.after d
 |next=>exact False.elim d
 |brk=>exact False.elim d
 |cont=>exact False.elim d)
section
variable{X:Cx}{pins:List (Addr×Obj)}{σ:St}{H:Hp}{s:Shared}
theorem qEQ{P:PySem.Fin->Shared->Prop}{EE:Value->Shared->Prop}{a f:Addr}{n:Nat}{vs:List Value}{us:List V}(I:Inv X pins σ H s)
 (ho:s.heap.get? a=some (seqObj "list" vs.toArray n)) (fa:FpOk X pins H a) (ha:X.s₀.heap.objs.size<=a) (rv:Vals us vs) (h64:us.length<64)
 (Pv:Nat->List V->Hp->Prop) (h0:Pv 0 [] H) (hs:∀i x zs H' pins' s' u,us[i]?=some x->RelV x u->Pv i zs H'->Inv { X with A:=X.A.in1.in1,xe:=λF F=>False } pins' σ H' s'->wpAny (model X.prog X.w) X.A.in1.in1 (call (.ref f) [u]) (EP { X with A:=X.A.in1.in1,xe:=λF F=>False } pins' σ (λz H''=>Pv (i+1) (zs++[z]) H'')) (λF F=>False) s')
 (hd:∀zs H',H' a=none->zs.length=us.length->Pv us.length zs H'->∃kk m,Paired (TupI X.K H') zs kk/\(∀k∈kk,k.length=m)/\0<m/\∀q:List Nat,q.Perm (List.range us.length)->(q.map λi=>kk.getD i []).Pairwise (λa b=>lx b a=false)->∀s',Inv X pins σ (upd H' a (.lst (q.map λi=>us.getD i .non))) s'->P (.done (.ret .none)) s'):
 wpAny (model X.prog X.w) X.A.in1.in1 (ksk_tree a (.ref f) false) P EE s:=by(
have af:a<s.heap.objs.size:=kX ho
have hl:=rv.length
obtain⟨e1,g1⟩:∃e1,(s.heap.update a (Obj.mapSeq λF=>(#[]:Array Value))).get? a=some (seqObj "list" #[] e1):=⟨_,wU ho λF=>#[]⟩
unfold ksk_tree
refine kD (x9 ho rfl (kD (wZ ho rfl (kD (sV g1 rfl ?_)) (by rw[mG,gR];lia) (m7 _))))
refine kD (wpAny_newTuple (kD (cA (gU ?_) (m7 _))) (by show vs.length<=_;rw[gR];lia))
have aj:((s.heap.update a (Obj.mapSeq λF=>(#[]:Array Value))).push (seqObj "tuple" vs.toArray 0)).objs.size=s.heap.objs.size+1:=by rw[nY,nK]
obtain⟨D,O⟩:∃D:Addr,D=((s.heap.update a (Obj.mapSeq λF=>(#[]:Array Value))).push (seqObj "tuple" vs.toArray 0)).objs.size:=⟨_,rfl⟩
have S:s.heap.objs.size<=D:=by rw[O,aj];exact dG _
have ne:D≠a:=rE (mW af S)
show wpAny (model X.prog X.w) X.A.in1.in1 (ksk_rest a (.ref f) false vs.toArray e1 (.ref ((s.heap.update a (Obj.mapSeq λF=>(#[]:Array Value))).push (seqObj "tuple" vs.toArray 0)).objs.size)) P EE { s with heap:=((s.heap.update a (Obj.mapSeq λF=>(#[]:Array Value))).push (seqObj "tuple" vs.toArray 0)).push (seqObj "list" #[] 0) }
rw[<-O]
have ak:(((s.heap.update a (Obj.mapSeq λF=>(#[]:Array Value))).push (seqObj "tuple" vs.toArray 0)).push (seqObj "list" #[] 0)).get? D=some (seqObj "list" #[] 0):=by rw[O];exact mP _ rfl
have am:=kJ (seqObj "list" #[] 0) (kJ (seqObj "tuple" vs.toArray 0) g1)
have I0:Inv X pins σ H { s with heap:=((s.heap.update a (Obj.mapSeq λF=>(#[]:Array Value))).push (seqObj "tuple" vs.toArray 0)).push (seqObj "list" #[] 0),toks:=s.toks }:=I.turnedN (fp:=[a]) (λb o d e=>kJ _ (kJ _ ((mD _ _ (λz=>d (kE.mpr z.symm))).trans e))) (λb d=>by rw[kE.mp d];exact fa)
have N:FpOk X pins H D:=I.fpOk S (I.hok.fresh S)
have fp:∀{H':Hp} {b:Addr},FpOk X pins H b->H' b=none->FpOk X pins H' b:=λf e=>⟨e,f.2⟩
unfold ksk_rest
refine kD (wpAny_rule ?_)
first
 |rw[List.forIn_toArray]
 |(rw[<-Array.forIn_toList];simp only[List.toList_toArray])
refine kD (ksk_fold (I:=λi s'=>∃H' zs ks e,Inv X pins σ H' s'/\s'.heap.get? a=some (seqObj "list" #[] e1)/\s'.heap.get? D=some (seqObj "list" (List.toArray ks) e)/\Vals zs ks/\zs.length=i/\Pv i zs H'/\H' a=none/\H' D=none) vs 0 _ ⟨H,[],[],0,I0,am,ak,.nil,rfl,h0,fa.1,N.1⟩ (λj x s' hx hJ=>?_) λs' hJ=>?_)
.obtain⟨H',zs,ks,e,I1,ga,Z,rz,U,pv,na,nk⟩:=hJ;rw[n9]at U pv ⊢;have hj:j<vs.length:=(kC.mp hx).1;obtain⟨y,ey,ry⟩:=rv.atN (j:=j) hj;obtain rfl:vs[j]=x:=(kC.mp hx).2;have I2:=(I1.near (A':=X.A.in1.in1) rfl rfl λF F=>False).pinned (fp:=[a,D]) (λb d=>by
  simp only[kN,dB,cQ]at d;rcases d with rfl|rfl
  .exact fp fa na
  .exact fp N nk) (λb d=>by
  simp only[kN,dB,cQ]at d;rcases d with rfl|rfl
  .exact⟨_,ga,λv z=>by cases z⟩
  exact⟨_,Z,λv z=>by cases z⟩)
 refine kD (xD (g4 (hs j y zs H' _ _ _ ey ry pv I2) (λu J hq=>?_) λF F z=>z.elim));obtain⟨z,H'',I3,ru,q⟩:=hq;have pa:=I3.pin (a,seqObj "list" #[] e1) (kY _ (kY _ (yG (by simp) ga)));have pk:=I3.pin (D,seqObj "list" (List.toArray ks) e) (kY _ (kY _ (yG (by simp) Z)));have lk:=rz.length;have ea:(List.toArray ks).push u=List.toArray (ks++[u]):=by simp
 obtain⟨c2,g2⟩:∃c2,(J.heap.update D (Obj.mapSeq (·.push u))).get? D=some (seqObj "list" (List.toArray (ks++[u])) c2):=⟨_,by rw[<-ea];exact wU pk.1 (·.push u)⟩;try dsimp only
 refine kD (wZ pk.1 rfl ?_ (by rw[mG,gR];lia) (mL (c8 (Array.size_push ..)) (by rw[mG,gR];lia)));have I4:Inv X pins σ H'' J:=(I3.unpinned).near (A':=X.A) rfl rfl X.xe;have I5:Inv X pins σ H'' { J with heap:=J.heap.update D (Obj.mapSeq (·.push u)),toks:=J.toks }:=I4.turnedN (fp:=[D]) (λb o d e=>(mD _ _ (λz=>d (kE.mpr z.symm))).trans e) (λb d=>by rw[kE.mp d];exact fp N pk.2.1);exact mE ⟨rfl,H'',zs++[z],ks++[u],c2,I5,(mD _ _ ne).trans pa.1,g2,rz.append (.cons ru .nil),by rw[mH,U];rfl,q,pa.2.1,pk.2.1⟩
obtain⟨H',zs,ks,e,I1,ga,Z,rz,U,pv,na,nk⟩:=hJ
rw[n9,<-hl]at U pv
obtain⟨kk,m,an,hw,hm,fin⟩:=hd zs H' na U pv
try dsimp only
refine kD (x9 Z rfl ?_)
exact qI6 I1 (fp fa na) (fp N nk) ha ne ga Z rz rv U h64 an hw hm fin)
end
noncomputable def oneQ(R:V->Hp->Prop):List V->Hp->Prop
| [v],H=>R v H
|_,_=>False
theorem qDN{R:V->Hp->Prop}:∀{xs:List V} {H:Hp},oneQ R xs H->∃v,xs=[v]/\R v H
| [v],_,h=>⟨v,rfl,h⟩
| [],_,h=>h.elim
|_::_::_,_,h=>h.elim
noncomputable def tSL(P:Program)(w:World)(K:PySem.W.Frag)(mg:Str->Option Value)(base:Heap)(cells:List (Str×Addr))(ix:List (Nat×Str))(k:Nat)(x:Str)(tl:TE)(ta:TA):TE:=λσ H Q=>ta σ H λvs H1=>tl σ H1 λfv H2=>∃(f:Addr) (fd:FuncData) (sp:Heap->Sp),fv=.ref f/\(∀base',(∀b o,base.get? b=some o->base'.get? b=some o)->q2E cells σ base' ix->FnOk P w K mg base' CX0 k f fd [x] (sp base'))/\jQ K fd [x] []/\∃(l:Addr) (us:List V) (Pv:Nat->List V->Hp->Prop),vs=[.ref l]/\SqL K H2 l us/\us.length<64/\Pv 0 [] H2/\(∀base' i x zs H',q2E cells σ base' ix->us[i]?=some x->Pv i zs H'->sp base' [x] H' (λz H''=>Pv (i+1) (zs++[z]) H'') E0)/\∀zs H',zs.length=us.length->Pv us.length zs H'->∃kk m,Paired (TupI K H') zs kk/\(∀k∈kk,k.length=m)/\0<m/\∀q:List Nat,q.Perm (List.range us.length)->(q.map λi=>kk.getD i []).Pairwise (λa b=>lx b a=false)->NewO H' (.lst (q.map λi=>us.getD i .non)) Q
theorem qCJ{X:Cx}{k:Nat}{x:Str}{e le:Expr}{tl:TE}{ta:TA}{p kp pos:Pos}(ix:List (Nat×Str))(hix:∀p∈ix,X.N[p.1]?=some p.2/\X.env.scope.names.lookup p.2=some .cell/\X.fn p.2=true)(hr:Room (k+2) X.A)(hg:Gl X "sorted")(hm:X.mg "sorted"=none)(hl:PE X le tl)(ha:PA X [e] ta)
 (he:starEach [e] X.env=[(false,eval e X.env)]:=by rfl) (hse:starEach ([]:List Expr) X.env=[]:=by rfl):
 PE X (.Call (.Name "sorted" p) [e] [⟨some "key",le,kp⟩] pos) (tSL X.prog X.w X.K X.mg X.base X.env.cells ix k x tl ta):=by(
intro pins s σ H Q I h
refine g5 (q25 I hg hm (u:=.builtin "sorted") (by kernel_rfl) ?_ (by decide) (by decide))
refine aS (thn (ha pos pins s σ H _ I h) λus s1 ⟨vs,H1,I1,r1,q1⟩=>?_) (by rw[he,hse];rfl) (by rw[he];rfl)
have pk:PK X [⟨some "key",le,kp⟩] (q75 tl tNil):=q9T hl qC9
refine thn (pk pos pins s1 σ H1 (oneQ _) I1 q1) λws z hZ=>?_
obtain⟨xs,H2,O,r2,Z⟩:=hZ
obtain⟨v,rfl,f,fd,sp,rfl,F,hb,Z⟩:=qDN Z
obtain⟨w,rfl,rw⟩:=q09 r2
obtain rfl:w=Value.ref f:=rw
obtain⟨l,ah,Pv,ev,hq,h64,p0,hs,hd⟩:=Z
subst ev
obtain⟨u,rfl,ru⟩:=q09 r1
obtain rfl:u=Value.ref l:=ru
obtain⟨d,rv,pl,hz⟩:=O.list hq
have aa:=rv.length
show wpAny (model X.prog X.w) X.A (call (.builtin "sorted") [.ref l] [(Str.ofString "key",.ref f)]) _ _ _
refine call_function_entry_kw aQ aB aD (ksk_s1 _ _) ?_
unfold Builtin.«sorted»
refine kD (m:=checkCount "sorted" 1 1 _) (mE (kD (collect_list pl.isList (kD (cA ?_ (by rw[gR];show d.length<=_;lia))))))
have J:((z.heap.push (seqObj "list" #[] 0)).update z.heap.objs.size (Obj.mapSeq (· ++d.toArray))).objs.size=z.heap.objs.size+1:=by rw[nK,nY]
have g:(((z.heap.push (seqObj "list" #[] 0)).update z.heap.objs.size (Obj.mapSeq (· ++d.toArray))).push (seqObj "list" d.toArray 0)).get? (z.heap.objs.size+1)=some (seqObj "list" d.toArray 0):=by rw[<-J];exact mP _ rfl
show wpAny _ _ _ _ _ { z with heap:=((z.heap.push (seqObj "list" #[] 0)).update z.heap.objs.size (Obj.mapSeq (· ++d.toArray))).push (seqObj "list" d.toArray 0) }
rw[J]
have I3:Inv X pins σ H2 { z with heap:=((z.heap.push (seqObj "list" #[] 0)).update z.heap.objs.size (Obj.mapSeq (· ++d.toArray))).push (seqObj "list" d.toArray 0),toks:=z.toks }:=O.kept (t':=z.toks) λb o e=>kJ _ ((mD _ _ (rE (kX e))).trans (kJ _ e))
refine kD (gU (wpAny_call_entry_kw lQ ⟨_,g,rfl⟩ lD ?_ (ksk_l1 _ _)))
rw[ksk_t1]
have fr:z.heap.objs.size<=z.heap.objs.size+1:=dG _
refine qEQ I3 g (O.fpOk fr (O.hok.fresh fr)) (mL O.sz fr) rv h64 Pv p0 (λi x zs H' U s' u hx rx pv S=>qDM (X:={ X with A:=X.A.in1.in1,xe:=λz z=>False }) (dvs:=[]) (ds:=[]) (E:=E0) ix hix F hr.in1.in1 hb .nil qK S (.cons rx .nil) (λD up cv=>hs D i x zs H' cv hx pv)) λzs H' na lz pv=>?_
obtain⟨kk,m,a1,a2,a3,a4⟩:=hd zs H' lz pv
refine⟨kk,m,a1,a2,a3,λq b1 b2 s' S=>⟨_,rfl,mE ⟨_,rfl,.ref _,_,S,rfl,(a4 q b1 b2).at _ na⟩⟩⟩)
end L2
namespace W1
open PySem L2
structure QM where
P:Nat
B:Nat
nx:Int
V:Mp
lv:List Int
fi:List Int
bo:List Int
namespace QM
structure Ok(m:QM):Prop where
p1:1<=m.P
p2:m.P<=16
b2:m.B<=16
ll:m.lv.length=m.B
lf:m.fi.length=m.B
lo:m.bo.length=m.B
nd:(m.V.map (·.1)).Nodup
nm:∀q∈m.V,0<=q.1/\q.1<=64
blk:∀q∈m.V,∃b:Nat,b<m.B/\q.2 / (m.P:Int)=(b:Int)
wr:∀b,b<m.B->∃f:Nat,m.fi.getD b 0=(f:Int)/\f<=m.P
variable{m:QM}
theorem Ok.lenV(h:m.Ok):m.V.length<=65:=by
 have:=q9H (l:=m.V.map (·.1)) (m:=(List.range 65).map λi:Nat=>(i:Int)) h.nd λx z=>by obtain⟨q,d,rfl⟩:=mF.mp z;have:=h.nm q d;exact mF.mpr ⟨q.1.toNat,mO.mpr (by lia),by lia⟩
 rw[kB,kB,mV]at this;exact this
noncomputable def forget(m:QM)(n:Int):QM:={ m with V:=jE m.V n,lv:=BM.lvF m.P m.V m.lv n }
theorem find_V{n:Int}:(∃p,(n,p)∈m.V/\m.V.find? (λq=>decide (q.1=n))=some (n,p))\/((∀q∈m.V,q.1≠n)/\m.V.find? (λq=>decide (q.1=n))=none):=by(
cases e:m.V.find? (λq=>decide (q.1=n))with
|none=>refine .inr ⟨λq d z=>?_,rfl⟩;have:=rC.mp e q d;exact this (hC z)
|some q=>
 have h1:q.1=n:=by have:=g9 e;simpa using this
 have h2:=g3 e;refine .inl ⟨q.2,by rw[<-h1];exact h2,by rw[<-h1]⟩)
theorem lvF_len{n:Int}:(BM.lvF m.P m.V m.lv n).length=m.lv.length:=by(
unfold BM.lvF
split
.rw[gM]
rfl)
theorem Ok.forget(h:m.Ok)(n:Int):(m.forget n).Ok:={ h with ll:=by show(BM.lvF m.P m.V m.lv n).length=m.B;rw[lvF_len];exact h.ll,nd:=q4V h.nd,nm:=λq hq=>h.nm q (j0.mp hq).1,blk:=λq hq=>h.blk q (j0.mp hq).1 }
noncomputable def put(m:QM)(b f:Nat)(n:Int):QM:={ m with V:=jE m.V n++[(n,((b*m.P+f:Nat):Int))],lv:=(BM.lvF m.P m.V m.lv n).set b ((BM.lvF m.P m.V m.lv n).getD b 0+1),bo:=if m.fi.getD b 0=0 then m.bo.set b m.nx else m.bo,fi:=m.fi.set b (m.fi.getD b 0+1),nx:=m.nx+1 }
theorem Ok.put(h:m.Ok){b f:Nat}{n:Int}(hb:b<m.B)(hf:f<m.P)(ef:m.fi.getD b 0=(f:Int))(n0:0<=n)(n1:n<=64):(m.put b f n).Ok where
p1:=h.p1
p2:=h.p2
b2:=h.b2
ll:=by show(List.set _ _ _).length=m.B;rw[gM,lvF_len];exact h.ll
lf:=by show(List.set _ _ _).length=m.B;rw[gM];exact h.lf
lo:=by
 show(if m.fi.getD b 0=0 then m.bo.set b m.nx else m.bo).length=m.B;split
 .rw[gM];exact h.lo
 exact h.lo
nd:=by
 show((jE m.V n++[(n,((b*m.P+f:Nat):Int))]).map (·.1)).Nodup;rw[gA];refine rJ.mpr ⟨q4V h.nd,by simp,λa ha c hc=>?_⟩;obtain⟨q,hq,rfl⟩:=mF.mp ha;have hc:c=n:=by simpa using hc
 rw[hc];exact(j0.mp hq).2
nm:=λq hq=>by
 rcases gJ.mp hq with hq|hq
 .exact h.nm q (j0.mp hq).1
 rw[kE.mp hq];exact⟨n0,n1⟩
blk:=λq hq=>by
 rcases gJ.mp hq with hq|hq
 .exact h.blk q (j0.mp hq).1
 rw[kE.mp hq];refine⟨b,hb,?_⟩;show((b*m.P+f:Nat):Int) / (m.P:Int)=_;rw[<-dE,yC hf]
wr:=λc hc=>by
 show ∃g:Nat,(m.fi.set b (m.fi.getD b 0+1)).getD c 0=(g:Int)/\g<=m.P;rw[jB];split
 .exact⟨f+1,by rw[ef];rfl,hf⟩
 exact h.wr c hc
end QM
noncomputable def vn(b:Nat):V:=.int (b:Int)
noncomputable def uK(B:Nat)(br:List Bool):List Nat:=(List.range B).filter λb=>!(br.getD b false)
noncomputable def u8(B:Nat)(br:List Bool)(fi:List Int):List Nat:=(uK B br).filter λb=>decide (fi.getD b 0=0)
noncomputable def keyN(cl:List Int)(b:Nat):List Int:=[cl.getD b 0,(b:Int)]
structure FreeIs(B:Nat)(br:List Bool)(cl fi:List Int)(l:List Nat):Prop where
pm:l.Perm (u8 B br fi)
so:(l.map (keyN cl)).Pairwise λa b=>lx b a=false
theorem qIE{cl:List Int}{a b:Nat}(h:keyN cl a=keyN cl b):a=b:=by(
unfold keyN at h
injection h with _ h
injection h with h _
lia)
theorem q13{B:Nat}{br:List Bool}{b:Nat}:b∈uK B br↔b<B/\br.getD b false=false:=by unfold uK;rw[mK,mO,wF]
theorem q9J{B:Nat}{br:List Bool}{fi:List Int}{b:Nat}:b∈u8 B br fi↔(b<B/\br.getD b false=false)/\fi.getD b 0=0:=by unfold u8;rw[mK,q13,mC]
theorem q2F{B:Nat}{br:List Bool}:(uK B br).length<=B:=mL (mJ _ _) (by rw[mV];exact kO _)
theorem qER{B:Nat}{br:List Bool}{fi:List Int}:(u8 B br fi).length<=B:=mL (mJ _ _) q2F
theorem FreeIs.mem{B:Nat}{br:List Bool}{cl fi:List Int}{l:List Nat}(h:FreeIs B br cl fi l){b:Nat}(hb:b∈l):b<B/\br.getD b false=false/\fi.getD b 0=0:=by have:=q9J.mp (h.pm.mem_iff.mp hb);exact⟨this.1.1,this.1.2,this.2⟩
noncomputable def jZ(P:Nat)(fi:List Int)(b:Nat):Bool:=decide (0<fi.getD b 0)&&decide (fi.getD b 0<(P:Int))
noncomputable def jR(B P:Nat)(br:List Bool)(fi:List Int):Option Nat:=(uK B br).find? (jZ P fi)
theorem q1J{B P:Nat}{br:List Bool}{fi:List Int}{b:Nat}(h:jR B P br fi=some b):b<B/\br.getD b false=false/\0<fi.getD b 0/\fi.getD b 0<(P:Int):=by(
have h1:=q13.mp (g3 h)
have h2:=g9 h
unfold jZ at h2
rw[mU,mC,mC]at h2
exact⟨h1.1,h1.2,h2.1,h2.2⟩)
noncomputable def q21(B P:Nat)(br:List Bool)(fi:List Int)(l:List Nat):Option Nat:=match jR B P br fi with
|some b=>some b
|none=>l.head?
set_option tactic.hygienic true in
theorem qBG{B P:Nat}{br:List Bool}{cl fi:List Int}{l:List Nat}(hl:FreeIs B br cl fi l)(hP:1<=P){b:Nat}(h:q21 B P br fi l=some b):b<B/\br.getD b false=false/\0<=fi.getD b 0/\fi.getD b 0<(P:Int):=by(
unfold q21 at h
split at h
.rename_i d e;cases h;have:=q1J e;exact⟨this.1,this.2.1,by lia,this.2.2.2⟩
cases l with
|nil=>cases h
|cons c r=>cases h;have:=hl.mem kU;exact⟨this.1,this.2.1,by lia,by lia⟩)
noncomputable def pgV(P:Nat)(fi:List Int):Option Nat->V
|none=>.non
|some b=>.int ((b:Int)*(P:Int)+fi.getD b 0)
noncomputable def oV:Option Nat->V
|none=>.non
|some b=>.int (b:Int)
theorem q7P{α β:Type}{L:List α}{f:α->β}{d:β}{e:α}:∀{q:List Nat},(∀i∈q,i<L.length)->(q.map λi=>(L.map f).getD i d)=(q.map λi=>L.getD i e).map f
| [],_=>rfl
|i::q,h=>by have hi:=h i kU;rw[mY,mY,mY,q7P (q:=q) λj hj=>h j (hU _ hj)];congr 1;rw[kL,kL,kZ,kF hi];rfl
theorem qCK{α:Type}{L:List α}{e:α}{q:List Nat}(h:q.Perm (List.range L.length)):(q.map λi=>L.getD i e).Perm L:=by(
have:=h.map λi=>L.getD i e
refine this.trans ?_
have d:(List.range L.length).map (λi=>L.getD i e)=L:=by refine dL (by simp) λi h1 h2=>?_;rw[pO,cW,kL,kF h2];rfl
rw[d])
theorem qIF{B:Nat}{br:List Bool}{cl fi:List Int}{q:List Nat}(h:q.Perm (List.range (u8 B br fi).length))(so:(q.map λi=>((u8 B br fi).map (keyN cl)).getD i []).Pairwise λa b=>lx b a=false):FreeIs B br cl fi (q.map λi=>(u8 B br fi).getD i 0):=by(
have d:∀i∈q,i<(u8 B br fi).length:=λi z=>mO.mp (h.mem_iff.mp z)
refine⟨qCK h,?_⟩
rw[q7P (e:=0) d]at so
exact so)
theorem q9K{α β:Type}{L:List α}{f:α->β}{i:Nat}{x:α}(h:L[i]?=some x):(L.take (i+1)).map f=(L.take i).map f++[f x]:=by(
have d:=(kC.mp h).1
obtain rfl:L[i]=x:=(kC.mp h).2
rw[<-mQ d,gA]
rfl)
theorem qIG{a b:List Int}(h:lx a b=true):lx b a=false:=by(
cases z:lx b a with
|false=>rfl
|true=>have:=q11 a b a h z;rw[q3S]at this;cases this)
theorem qJM{a b c:List Int}(h1:lx b a=false)(h2:lx c b=false):lx c a=false:=by(
cases z:lx c a with
|false=>rfl
|true=>
 cases y:lx a b with
 |true=>have:=q11 c a b z y;rw[h2]at this;cases this
 |false=>have e:=q5E a b y h1;rw[e]at z;rw[h2]at z;cases z)
theorem FreeIs.ex(B:Nat)(br:List Bool)(cl fi:List Int):∃l,FreeIs B br cl fi l:=by(
refine⟨(u8 B br fi).mergeSort λa b=>!(lx (keyN cl b) (keyN cl a)),xA _ _,?_⟩
have:=nM (le:=λa b=>!(lx (keyN cl b) (keyN cl a))) (λa b c h1 h2=>by
 rw[wF]at h1 h2 ⊢;exact qJM h1 h2) (λa b=>by
 cases z:lx (keyN cl b) (keyN cl a)with
 |false=>rfl
 |true=>rw[qIG z];rfl) (u8 B br fi)
rw[gN]
exact this.imp λh=>by rw[wF]at h;exact h)
theorem rep8{α:Type}{n i:Nat}{y:α}:(List.replicate n y).getD i y=y:=by rw[kL,wL];split<;>rfl
end W1
namespace W1
noncomputable def orB:List Nat->Nat->Nat
| [],b=>b
|s::r,b=>orB r (b|||2 ^ s)
theorem qBH(k:Nat):∀(l:List Nat) (b:Nat),(orB l b).testBit k=(b.testBit k||decide (k∈l))
| [],b=>by simp[orB]
|s::r,b=>by
 show(orB r (b|||2 ^ s)).testBit k=_;rw[qBH k r,Nat.testBit_or,Nat.testBit_two_pow];by_cases h:s=k
 .simp[h]
 have:¬k=s:=λz=>h z.symm;simp[h,this]
theorem qGI(n:Nat):∀(l:List Nat) (b:Nat),b<2 ^ n->(∀s∈l,s<n)->orB l b<2 ^ n
| [],b,h,_=>h
|s::r,b,h,hs=>qGI n r _ (Nat.or_lt_two_pow h (Nat.pow_lt_pow_right (by decide) (hs s (kU ..)))) λx hx=>hs x (hU _ hx)
end W1
namespace W1
open PySem L2
theorem yA{B:Nat}:uK B (List.replicate B false)=List.range B:=by(
unfold uK
refine dX.mpr λb z=>?_
rw[rep8]
rfl)
end W1
namespace L2
open PySem PySem.Spec PyProof.Rows
structure ClM(K:PySem.W.Frag)(W:Addr)(m:Str)(f:Addr):Prop where
rd:PySem.W.readsIn K W (.type "type")=true
fd:PySem.W.findCls K (.ref W) (.type "type") m=some (.val (.ref f))
ga:PySem.W.specialIn K (.ref W) "__getattribute__"=some (some (.builtin "type.__getattribute__"))
kp:PySem.W.keepIn K (.ref f)=true
section
variable{X:Cx}{k:Nat}{f W:Addr}{fd:FuncData}{ps:List Str}{sp:Sp}{dvs:List V}{ds:List Value}{ES:St->XK}{x m:Str}{p pos apos:Pos}{e:Expr}{es:List Expr}{t:TA}
theorem qIH(tk:q0C X ES)(b:ClM X.K W m f)(F:FnOk X.prog X.w X.K X.mg X.base (CXe X.prog X.w) k f fd ps sp)(hr:Room k X.A)(hg:Gl X x)(hm:X.mg x=some (.ref W))(hb:jQ X.K fd ps ds)(hd:Vals dvs ds)(ha:PA X (e::es) t)(hdb:(x==("__debug__":Str))=false:=by decide)
 (he:starEach (e::es) X.env=(false,eval e X.env)::starEach es X.env:=by rfl) (hpl:(backTo pos (starEach es X.env)).any (·.1)=false:=by rfl) {pl:Sem Bool}
 (ht:eval (.Call (.Attribute (.Name x p) m apos) (e::es) [] pos) X.env=(do
  let ov<-eval (.Name x p) X.env
  standAt apos.atName
  let(f,first)<-holding [ov] (getMethod ov m pl)
  callWith pos f first (backTo pos (starEach (e::es) X.env)) (backToKw pos (keywordEach [] X.env))):=by rfl):
 PE X (.Call (.Attribute (.Name x p) m apos) (e::es) [] pos) (qFM sp dvs ES t):=by(
intro pins s σ H Q I h
refine rS (pl:=pl) (q08 I hg hm ?_ hdb) ht
refine PySem.W.method_cls I.kIn b.ga (PySem.W.cls_value I.kIn b.rd b.fd rfl ?_)
refine d9 (first:=[]) (h₀:=X.base) I.ok.mod.kin b.kp (thn (ha pos pins _ σ H _ (I.tok _) h) λJ D ⟨N,H2,d,r,z⟩=>⟨d.kIn,?_⟩) he hpl
exact q6M F hr hb hd tk d r z)
end
end L2
namespace W1
open PySem L2
noncomputable def rdy(ie:Int)(l:List Nat)(p:Option Nat):Bool:=decide ((l.length:Int)-(1+ie)>0)||(decide ((l.length:Int)-(1+ie)=0)&&p.isSome)
noncomputable abbrev tyL(m:CM)(q:QM)(b:Nat):List V:=[.int (b:Int),.int (q.lv.getD b 0),.int (m.cl.getD b 0),.int (q.bo.getD b 0)]
noncomputable def spcN(ie:Int)(l:List Nat)(P:Nat)(fi:List Int)(p:Option Nat):Int:=if 1+ie<=(l.length:Int)then(P:Int)else match p with|none=>0|some b=>(P:Int)-fi.getD b 0
noncomputable def jX(B P:Nat)(br:List Bool)(fi:List Int):List Nat:=(uK B br).filter λb=>decide (fi.getD b 0=(P:Int))
noncomputable def optN(ie:Int)(m:CM)(q:QM)(l:List Nat):List Nat:=((jX q.B q.P m.br q.fi).filter λb=>decide (q.lv.getD b 0<=spcN ie l q.P q.fi (jR q.B q.P m.br q.fi))).filter λb=>decide (q.lv.getD b 0<(q.P:Int))
noncomputable def q4W(q:QM)(r:Int×Nat×Int):QM:={ q with nx:=r.1 }.put (r.2.1 / q.P) (r.2.1%q.P) r.2.2
structure Fits(q:QM)(r:Int×Nat×Int):Prop where
b:r.2.1 / q.P<q.B
f:q.fi.getD (r.2.1 / q.P) 0=((r.2.1%q.P:Nat):Int)
s:q.nx<=r.1
n0:0<=r.2.2
n1:r.2.2<=64
inductive Rows(q0:QM):List (Int×Nat×Int)->QM->Prop
|nil:Rows q0 [] q0
|snoc {R q r}:Rows q0 R q->Fits q r->Rows q0 (R++[r]) (q4W q r)
theorem q9L:∀{R:List (Int×Nat×Int)} {a b:Int×Nat×Int},(R.map (·.2.1)).Nodup->a∈R->b∈R->a.2.1=b.2.1->a=b
| [],_,_,_,h,_,_=>absurd h (by simp)
|x::R,a,b,nd,ha,hb,e=>by
 rw[mY]at nd;obtain⟨n1,n2⟩:=m8.mp nd;rcases kN.mp ha with e1|ha'<;>rcases kN.mp hb with e2|hb'
 .rw[e1,e2]
 .rw[e1]at e;exact(n1 (mF.mpr ⟨b,hb',e.symm⟩)).elim
 .rw[e2]at e;exact(n1 (mF.mpr ⟨a,ha',e⟩)).elim
 exact q9L n2 ha' hb' e
section
variable{q q0:QM}{r:Int×Nat×Int}{R:List (Int×Nat×Int)}
theorem Fits.ok(h:Fits q r)(ok:q.Ok):(q4W q r).Ok:=by have d:QM.Ok { q with nx:=r.1 }:={ ok with };exact d.put h.b (Nat.mod_lt _ ok.p1) h.f h.n0 h.n1
structure QS(q:QM):Prop where
ok:q.Ok
lv:∀b,b<q.B->q.lv.getD b 0=(cntB q.P q.V b:Nat)
theorem qDO(h:QS q)(n:Int){b:Nat}(hb:b<q.B):(BM.lvF q.P q.V q.lv n).getD b 0=(cntB q.P (jE q.V n) b:Nat):=by(
unfold BM.lvF
rcases QM.find_V (m:=q) (n:=n)with⟨p,hp,e⟩|⟨no,e⟩
.rw[e];obtain⟨c,N,d⟩:=h.ok.blk _ hp;have d:p / (q.P:Int)=(c:Int):=d;have D:=qG8 (P:=q.P) (b:=b) h.ok.nd hp;show(q.lv.set (p / (q.P:Int)).toNat (q.lv.getD (p / (q.P:Int)).toNat 0-1)).getD b 0=_;rw[d,mB,jB];rw[d]at D;have I:=h.lv b hb;by_cases z:c=b
 .subst z;rw[kM rfl]at D;rw[kM ⟨rfl,by rw[h.ok.ll];exact hb⟩,I];lia
 rw[kI (by lia)]at D;rw[kI (λy=>z y.1),I];lia
rw[e,h.lv b hb,show jE q.V n=q.V from dX.mpr λy J=>hC (no y J)])
theorem Fits.qs(h:Fits q r)(qs:QS q):QS (q4W q r):=by(
refine⟨h.ok qs.ok,λb d=>?_⟩
have d:b<q.B:=d
have D:=qDO qs r.2.2 d
show((BM.lvF q.P q.V q.lv r.2.2).set (r.2.1 / q.P) ((BM.lvF q.P q.V q.lv r.2.2).getD (r.2.1 / q.P) 0+1)).getD b 0=((cntB q.P (jE q.V r.2.2++[(r.2.2,((r.2.1 / q.P*q.P+r.2.1%q.P:Nat):Int))]) b:Nat):Int)
have I:r.2.1 / q.P*q.P+r.2.1%q.P=r.2.1:=by rw[dN];exact pX _ _
have ea:cntB q.P (jE q.V r.2.2++[(r.2.2,(r.2.1:Int))]) b=cntB q.P (jE q.V r.2.2) b+(if r.2.1 / q.P=b then 1 else 0):=by
 unfold cntB;rw[List.countP_append,List.countP_singleton,<-dE];by_cases z:r.2.1 / q.P=b
 .rw[kM z,z,hC rfl];rfl
 rw[kI z,hX (by lia)];rfl
rw[I,ea,jB]
by_cases z:r.2.1 / q.P=b
.rw[kM z,kM ⟨z,by rw[QM.lvF_len,qs.ok.ll];lia⟩,z,D];lia
rw[kI z,kI (λy=>z y.1),D]
lia)
theorem Rows.qs(h:Rows q0 R q)(qs:QS q0):QS q:=by(
induction h with
|nil=>exact qs
|snoc _ f d=>exact f.qs d)
theorem Rows.sh(h:Rows q0 R q):q.B=q0.B/\q.P=q0.P:=by(
induction h with
|nil=>exact⟨rfl,rfl⟩
|snoc _ f d=>exact d)
noncomputable def mkR(r:Int×Nat×Int):Int:=r.1*128+r.2.2
theorem Rows.marks(h:Rows q0 R q):(∀r∈R,mkR r<q.nx*128)/\R.Pairwise (λa b=>mkR a<mkR b):=by(
induction h with
|nil=>exact⟨λr z=>absurd z (by simp),List.Pairwise.nil⟩
|@snoc R q r h f ih=>
 have e:(q4W q r).nx=r.1+1:=rfl;have s:=f.s;have N:=f.n0;have J:=f.n1;refine⟨λx d=>?_,List.pairwise_append.mpr ⟨ih.2,by simp,λa I b D=>?_⟩⟩
 .rw[e];rcases gJ.mp d with d|d
  .have:=ih.1 x d;lia
  rw[kE.mp d];unfold mkR;lia
 rw[kE.mp D];have:=ih.1 a I;unfold mkR at this ⊢;lia)
theorem Rows.pages(h:Rows q0 R q)(p1:1<=q0.P)(lf:q0.fi.length=q0.B):(∀r∈R,r.2.1 / q.P<q.B/\((r.2.1%q.P:Nat):Int)<q.fi.getD (r.2.1 / q.P) 0)/\(R.map (·.2.1)).Nodup/\q.fi.length=q.B:=by(
induction h with
|nil=>exact⟨λr N=>absurd N (by simp),bJ,lf⟩
|@snoc R q r h f ih=>
 obtain⟨I,Z,U⟩:=ih;have J:=f.f;have S:=f.b;refine⟨λx d=>?_,?_,by show(q.fi.set _ _).length=q.B;rw[gM];exact U⟩
 .show x.2.1 / q.P<q.B/\((x.2.1%q.P:Nat):Int)<(q.fi.set (r.2.1 / q.P) (q.fi.getD (r.2.1 / q.P) 0+1)).getD (x.2.1 / q.P) 0;rw[jB];rcases gJ.mp d with d|d
  .obtain⟨a,b⟩:=I x d;refine⟨a,?_⟩;by_cases z:r.2.1 / q.P=x.2.1 / q.P
   .rw[kM ⟨z,by lia⟩,z];lia
   rw[kI λy=>z y.1];exact b
  rw[kE.mp d,kM ⟨rfl,by lia⟩,J];exact⟨S,by lia⟩
 rw[gA];refine rJ.mpr ⟨Z,by simp,λa O b D e=>?_⟩;obtain⟨x,d,rfl⟩:=mF.mp O;have D:b=r.2.1:=by simpa using D
 have i:=(I x d).2;rw[e,D,J]at i;lia)
noncomputable def newW(R:List (Int×Nat×Int)):Mp:=R.foldl (λW r=>putW W r.2.2 (r.2.1:Int)) []
theorem q9M:newW (R++[r])=putW (newW R) r.2.2 (r.2.1:Int):=by unfold newW;rw[sX];rfl
theorem Rows.newest(h:Rows q0 R q)(e:q0.V=[]):q.V.Perm (newW R)/\((newW R).map (·.1)).Nodup:=by(
induction h with
|nil=>exact⟨by rw[e];exact bH _,bJ⟩
|@snoc R q r h f ih=>
 rw[q9M];refine⟨?_,q9I ih.2⟩;have d:r.2.1 / q.P*q.P+r.2.1%q.P=r.2.1:=by rw[dN];exact pX _ _
 show(jE q.V r.2.2++[(r.2.2,((r.2.1 / q.P*q.P+r.2.1%q.P:Nat):Int))]).Perm _;rw[d];exact qG7 ih.2 ih.1)
noncomputable def pr61(r:Int×Nat×Int):List Int:=[mkR r,(r.2.1:Int)]
noncomputable def pgL(R:List (Int×Nat×Int))(i:Nat):List (List Int):=(List.range i).filterMap λp=>(R.find? λr=>decide (r.2.1=p)).map pr61
theorem qGJ{i:Nat}:pgL R (i+1)=pgL R i++((R.find? λr=>decide (r.2.1=i)).map pr61).toList:=by(
unfold pgL
rw[pZ,List.filterMap_append]
cases h:(R.find? λr=>decide (r.2.1=i)).map pr61 with
|none=>congr 1;simp only[dU,xO,h];rfl
|some v=>congr 1;simp only[dU,xO,h];rfl)
theorem qL9{i:Nat}(nd:(R.map (·.2.1)).Nodup)(hr:r∈R)(e:r.2.1=i):R.find? (λr=>decide (r.2.1=i))=some r:=by(
cases h:R.find? (λr=>decide (r.2.1=i))with
|none=>exact absurd (hC e) (rC.mp h r hr)
|some d=>have h1:=g3 h;have h2:d.2.1=i:=mI (g9 (p:=λr:Int×Nat×Int=>decide (r.2.1=i)) h);rw[q9L nd h1 hr (h2.trans e.symm)])
theorem qGK{N:Nat}(nd:(R.map (·.2.1)).Nodup)(hN:∀r∈R,r.2.1<N):(pgL R N).Perm (R.map pr61):=by(
have U:(R.map pr61).Nodup:=by
 refine gN.mpr ((gN.mp nd).imp fun {a b} h e=>h ?_);unfold pr61 at e;injection e with _ e
 injection e with e _
 exact sZ e
have Z:(pgL R N).Nodup:=by
 unfold pgL;refine bX _ ?_ (pP (n:=N));intro p J D v S v' z e;obtain⟨x,d,rfl⟩:=kP.mp S;obtain⟨O,I,rfl⟩:=kP.mp z;have h1:x.2.1=p:=mI (g9 (p:=λr:Int×Nat×Int=>decide (r.2.1=p)) d);have h2:O.2.1=J:=mI (g9 (p:=λr:Int×Nat×Int=>decide (r.2.1=J)) I);unfold pr61 at e;injection e with _ e
 injection e with e _
 exact D (by rw[<-h1,<-h2];exact sZ e)
refine(List.perm_ext_iff_of_nodup Z U).mpr λv=>⟨λh=>?_,λh=>?_⟩
.obtain⟨p,_,D⟩:=d6.mp h;obtain⟨x,d,rfl⟩:=kP.mp D;exact mF.mpr ⟨x,g3 d,rfl⟩
obtain⟨x,d,rfl⟩:=mF.mp h
exact d6.mpr ⟨x.2.1,mO.mpr (hN x d),by rw[qL9 nd d rfl];rfl⟩)
theorem Rows.sorted(h:Rows q0 R q):(R.map pr61).Pairwise λa b=>lx b a=false:=by(
refine gN.mpr (h.marks.2.imp fun {a b} l=>?_)
unfold pr61
rw[lx2,kI (by lia)]
exact hX (by lia))
theorem Rows.at(h:Rows q0 R q):∀{i:Nat} (hi:i<R.length),∃qi,Rows q0 (R.take i) qi/\Fits qi R[i]:=by(
induction h with
|nil=>exact λhi=>absurd hi (lC _)
|@snoc R q r h f ih=>
 intro i hi;by_cases z:i<R.length
 .obtain⟨qi,a,b⟩:=ih z;refine⟨qi,?_,?_⟩
  .rw[pR (by lia)];exact a
  rw[List.getElem_append_left z];exact b
 have e:i=R.length:=by rw[mH]at hi;have hi:i<R.length+1:=hi;lia
 subst e;refine⟨q,?_,?_⟩
 .rw[pR (kO _),gH];exact h
 rw[List.getElem_append_right (kO _)];simpa using f)
theorem Rows.one{q':QM}(h:Rows q0 R q)(g:Rows q0 R q'):q=q':=by(
induction h generalizing q' with
|nil=>
 generalize e:([]:List (Int×Nat×Int))=L at g;cases g with
 |nil=>rfl
 |snoc _ _=>exact absurd e (by simp)
|@snoc R q r h f ih=>
 generalize e:R++[r]=L at g;cases g with
 |nil=>exact absurd e (by simp)
 |@snoc R' q'' r' h' f'=>
  obtain⟨rfl,d⟩:=List.append_inj' e rfl;obtain rfl:r=r':=by simpa using d
  rw[ih h'])
noncomputable def lvW(B P:Nat)(W:Mp):List Int:=(List.range B).map λb=>((cntB P W b:Nat):Int)
theorem q6R{B P:Nat}{W:Mp}:(lvW B P W).length=B:=by unfold lvW;rw[kB,mV]
theorem qCL{B P b:Nat}{W:Mp}(h:b<B):(lvW B P W).getD b 0=(cntB P W b:Nat):=by unfold lvW;rw[kL,kZ,List.getElem?_range h];rfl
theorem qGL{l m:List Int}(h:l.length=m.length)(e:∀b,b<l.length->l.getD b 0=m.getD b 0):l=m:=by(
refine dL h λi h1 h2=>?_
have:=e i h1
rw[kL,kL,kF h1,kF h2]at this
exact this)
theorem qGM{B P:Nat}{W V:Mp}(h:W.Perm V):lvW B P W=lvW B P V:=by(
refine qGL (by rw[q6R,q6R]) λc d=>?_
rw[q6R]at d
rw[qCL d,qCL d]
unfold cntB
rw[h.countP_eq])
theorem QS.lvW(h:QS q):q.lv=lvW q.B q.P q.V:=by refine qGL (by rw[q6R,h.ok.ll]) λc d=>?_;rw[h.ok.ll]at d;rw[qCL d,h.lv c d]
theorem Rows.lenV(h:Rows q0 R q)(e:q0.V=[]):(newW R).length<=R.length:=by(
induction h with
|nil=>exact kO _
|@snoc R q r h f ih=>
 rw[q9M,mH];unfold putW;split
 .rw[kB];exact Nat.le_succ_of_le ih
 rw[mH];exact aL ih)
end
noncomputable def OneP(B P:Nat)(fi:List Int):Prop:=∀b c,b<B->c<B->jZ P fi b=true->jZ P fi c=true->b=c
noncomputable def clr1(P:Nat)(fi:List Int)(b:Nat):Nat:=P-(fi.getD b 0).toNat
noncomputable def rm(B P:Nat)(fi:List Int):Nat:=((List.range B).map (clr1 P fi)).sum
theorem qDP{L:List Nat}{f g:Nat->Nat}:(L.map λb=>f b+g b).sum=(L.map f).sum+(L.map g).sum:=by(
induction L with
|nil=>rfl
|cons x L d=>rw[mY,mY,mY,rF,rF,rF,d];lia)
theorem q14{L:List Nat}{f g:Nat->Nat}(h:∀b∈L,f b=g b):(L.map f).sum=(L.map g).sum:=by rw[wK h]
theorem qLA{L:List Nat}{p:Nat->Bool}{c:Nat}:(L.map λb=>if p b=true then c else 0).sum=(L.filter p).length*c:=by(
induction L with
|nil=>rw[List.filter_nil];simp
|cons x L d=>
 rw[mY,rF,d,gF];by_cases h:p x=true
 .rw[kM h,kM h,mM,pD];lia
 rw[kI h,kI h];lia)
theorem qDQ{L:List Nat}{p:Nat->Bool}{h:Nat->Nat}(nd:L.Nodup)(one:∀a∈L,∀b∈L,p a=true->p b=true->a=b):(L.map λb=>if p b=true then h b else 0).sum=match L.find? p with|some b=>h b|none=>0:=by(
induction L with
|nil=>rfl
|cons x L I=>
 obtain⟨N,J⟩:=m8.mp nd;rw[mY,rF,dH];by_cases d:p x=true
 .rw[d,kM rfl];have:(L.map λb=>if p b=true then h b else 0).sum=(L.map λU=>0).sum:=q14 λb D=>by rw[kI];intro z;exact N (by rw[one x (by simp) b (hU _ D) d z];exact D)
  rw[this];have z:(L.map λU=>0).sum=0:=by
   clear this I nd one N J;induction L with
   |nil=>rfl
   |cons y L I=>rw[mY,rF,I]
  rw[z];rfl
 rw[kI d];rw[aM]at d;rw[d];rw[n9];exact I J λa O b D=>one a (hU _ O) b (hU _ D))
section
variable{B P:Nat}{fi cl:List Int}{l:List Nat}
noncomputable abbrev noB(B:Nat):List Bool:=List.replicate B false
theorem qMJ(on:OneP B P fi)(wr:∀b,b<B->∃f:Nat,fi.getD b 0=(f:Int)/\f<=P)(p1:1<=P)(hl:FreeIs B (noB B) cl fi l):
 rm B P fi=l.length*P+(match jR B P (noB B) fi with|some b=>P-(fi.getD b 0).toNat|none=>0):=by(
have h1:l.length=((List.range B).filter λb=>decide (fi.getD b 0=0)).length:=by rw[hl.pm.length_eq];unfold u8;rw[yA]
unfold rm jR
rw[yA,h1,<-qLA,<-qDQ (p:=jZ P fi) (h:=λb=>P-(fi.getD b 0).toNat) pP (λa D b d=>on a b (mO.mp D) (mO.mp d)),<-qDP]
refine q14 λb d=>?_
obtain⟨f,I,J⟩:=wr b (mO.mp d)
unfold clr1 jZ
rw[I,mB]
by_cases z:f=0
.subst z;simp
by_cases y:f<P
.rw[kI (by simp;lia),hC (by lia),hC (by lia)];simp
rw[kI (by simp;lia),hX (show ¬(f:Int)<(P:Int) by lia)]
simp
lia)
theorem qBI{b:Nat}(h:jR B P (noB B) fi=some b):b<B/\0<fi.getD b 0/\fi.getD b 0<(P:Int):=by have:=q1J h;exact⟨this.1,this.2.2⟩
theorem q2G(on:OneP B P fi)(wr:∀b,b<B->∃f:Nat,fi.getD b 0=(f:Int)/\f<=P)(p1:1<=P)(hl:FreeIs B (noB B) cl fi l):
 (jR B P (noB B) fi=none/\rm B P fi=l.length*P)\/∃b e,jR B P (noB B) fi=some b/\1<=e/\e<P/\rm B P fi=l.length*P+e/\fi.getD b 0+(e:Int)=(P:Int):=by(
have h:=qMJ on wr p1 hl
cases hp:jR B P (noB B) fi with
|none=>rw[hp]at h;exact .inl ⟨rfl,h⟩
|some b=>rw[hp]at h;obtain⟨a,c,d⟩:=qBI hp;exact .inr ⟨b,P-(fi.getD b 0).toNat,rfl,by lia,by lia,h,by lia⟩)
theorem qII{ie:Nat}(on:OneP B P fi)(wr:∀b,b<B->∃f:Nat,fi.getD b 0=(f:Int)/\f<=P)(p1:1<=P)(hl:FreeIs B (noB B) cl fi l):
 rdy (ie:Int) l (jR B P (noB B) fi)=decide ((1+ie)*P<rm B P fi):=by(
have d:∀e,e<P->((1+ie)*P<l.length*P+e↔(1+ie<l.length\/(1+ie=l.length/\0<e))):=λe D=>by
 rcases Nat.lt_trichotomy (1+ie) l.length with h|h|h
 .have:=dD P (show 1+ie+1<=l.length from h);rw[pD]at this;exact⟨λU=>.inl h,λU=>by lia⟩
 .rw[h];exact⟨λz=>.inr ⟨rfl,by lia⟩,λz=>by lia⟩
 have:=dD P (show l.length+1<=1+ie from h);rw[pD]at this;exact⟨λz=>by lia,λz=>by lia⟩
unfold rdy
rcases q2G on wr p1 hl with⟨h1,h2⟩|⟨b,e,h1,e1,e2,h2,_⟩
.rw[h1,h2];have k:=d 0 (by lia);rw[sF]at k;by_cases z:(1+ie)*P<l.length*P
 .rw[hC z,hC (show(l.length:Int)-(1+(ie:Int))>0 by rcases k.mp z with h|h<;>lia)];rfl
 rw[hX z,hX (show ¬(l.length:Int)-(1+(ie:Int))>0 by intro y;exact z (k.mpr (.inl (by lia))))];simp
rw[h1,h2]
have k:=d e e2
by_cases z:(1+ie)*P<l.length*P+e
.rw[hC z];rcases k.mp z with h|h
 .rw[hC (show(l.length:Int)-(1+(ie:Int))>0 by lia)];rfl
 rw[hC (show(l.length:Int)-(1+(ie:Int))=0 by lia)];simp
rw[hX z,hX (show ¬(l.length:Int)-(1+(ie:Int))>0 by intro y;exact z (k.mpr (.inl (by lia)))),hX (show ¬(l.length:Int)-(1+(ie:Int))=0 by intro y;exact z (k.mpr (.inr ⟨by lia,by lia⟩)))]
rfl)
theorem q9N(on:OneP B P fi)(wr:∀b,b<B->∃f:Nat,fi.getD b 0=(f:Int)/\f<=P)(p1:1<=P)(hl:FreeIs B (noB B) cl fi l)(h:0<rm B P fi):∃b,q21 B P (noB B) fi l=some b/\((jR B P (noB B) fi=some b)\/(jR B P (noB B) fi=none/\fi.getD b 0=0)):=by(
unfold q21
rcases q2G on wr p1 hl with⟨h1,h2⟩|⟨b,e,h1,_⟩
.rw[h1];cases l with
 |nil=>rw[h2]at h;simp at h
 |cons x l=>exact⟨x,rfl,.inr ⟨rfl,(hl.mem (by simp)).2.2⟩⟩
rw[h1]
exact⟨b,rfl,.inl rfl⟩)
theorem qIJ{L:List Nat}{f g:Nat->Nat}{b:Nat}(nd:L.Nodup)(hb:b∈L)(h:∀c∈L,c≠b->f c=g c):(L.map f).sum+g b=(L.map g).sum+f b:=by(
induction L with
|nil=>exact absurd hb (by simp)
|cons x L I=>
 obtain⟨D,J⟩:=m8.mp nd;rw[mY,mY,rF,rF];rcases kN.mp hb with rfl|hb
 .rw[q14 (L:=L) (f:=f) (g:=g) λc d=>h c (hU _ d) λz=>D (by rw[<-z];exact d)];lia
 have:=I J hb λc d=>h c (hU _ d);have e:=h x (by simp) λz=>D (by rw[z];exact hb);lia)
theorem qGN{b:Nat}{v:Int}(hb:b<B)(lf:fi.length=B):rm B P (fi.set b v)+(P-(fi.getD b 0).toNat)=rm B P fi+(P-v.toNat):=by(
have:=qIJ (L:=List.range B) (f:=clr1 P (fi.set b v)) (g:=clr1 P fi) (b:=b) pP (mO.mpr hb) λc U d=>by unfold clr1;rw[jB,kI (λz=>d z.1.symm)]
unfold rm
have e:clr1 P (fi.set b v) b=P-v.toNat:=by unfold clr1;rw[jB,kM ⟨rfl,by lia⟩]
rw[e]at this
exact this)
theorem qLB{b f:Nat}(hb:b<B)(lf:fi.length=B)(ef:fi.getD b 0=(f:Int))(hf:f<P):rm B P (fi.set b (fi.getD b 0+1))+1=rm B P fi:=by(
have:=qGN (P:=P) (v:=fi.getD b 0+1) hb lf
rw[ef]at this ⊢
have z:((f:Int)).toNat=f:=mB f
have d:((f:Int)+1).toNat=f+1:=by lia
rw[z,d]at this
lia)
theorem qIK{b:Nat}(hb:b<B)(lf:fi.length=B)(ef:fi.getD b 0=(P:Int)):rm B P (fi.set b 0)=rm B P fi+P:=by(
have:=qGN (P:=P) (v:=0) hb lf
rw[ef]at this
have d:((P:Int)).toNat=P:=mB P
rw[d]at this
simpa using this)
theorem qIL{b:Nat}(on:OneP B P fi)(hb:b<B)(lf:fi.length=B)(h:(jR B P (noB B) fi=some b)\/(jR B P (noB B) fi=none/\fi.getD b 0=0)):OneP B P (fi.set b (fi.getD b 0+1)):=by(
have D:∀c,c<B->c≠b->jZ P (fi.set b (fi.getD b 0+1)) c=true->False:=λc J O N=>by
 have I:jZ P fi c=true:=by unfold jZ at N ⊢;rw[jB,kI (λz=>O z.1.symm)]at N;exact N
 rcases h with h|⟨h,_⟩
 .have h2:jZ P fi b=true:=g9 h;exact O (on c b J hb I h2)
 have:=rC.mp h c (by rw[yA];exact mO.mpr J);exact this I
intro c d J Z pc pd
by_cases U:c=b
.by_cases S:d=b
 .rw[U,S]
 exact(D d Z S pd).elim
exact(D c J U pc).elim)
theorem qGO{b:Nat}(on:OneP B P fi):OneP B P (fi.set b 0):=by(
have D:∀c,c<B->jZ P (fi.set b 0) c=true->jZ P fi c=true:=λc I z=>by
 unfold jZ at z ⊢;rw[jB]at z;split at z
 .simp at z
 exact z
exact λc d I J N O=>on c d I J (D c I N) (D d J O))
set_option tactic.hygienic true in
theorem qIM{V:Mp}:∀{L:List Nat},L.Nodup->(L.map (cntB P V)).sum<=V.length:=by(
induction V with
|nil=>
 intro L _;have:(L.map (cntB P [])).sum=(L.map λU=>0).sum:=q14 λb U=>rfl;rw[this];clear this;induction L with
 |nil=>exact kO _
 |cons x L d=>rename_i h;rw[mY,rF];have:=d (m8.mp h).2;lia
|cons x V d=>
 intro L z;have e:(L.map (cntB P (x::V))).sum=(L.map (cntB P V)).sum+(L.map λb=>if(λb:Nat=>decide (x.2 / (P:Int)=(b:Int))) b=true then 1 else 0).sum:=by rw[<-qDP];refine q14 λb U=>?_;unfold cntB;rw[pN]
 rw[e,qDQ (h:=λU=>1) z λa U b U D I=>by have h1:=mI D;have h2:=mI I;lia];have:=d z;rw[mM];cases L.find? (λb:Nat=>decide (x.2 / (P:Int)=(b:Int)))with
 |none=>show _ +0<=_;lia
 |some b=>show _ +1<=_;lia)
theorem qGP{L:List Nat}{f:Nat->Nat}{k:Nat}(h:∀b∈L,k<=f b):L.length*k<=(L.map f).sum:=by(
induction L with
|nil=>simp
|cons x L d=>rw[mM,mY,rF,pD];have:=d λb z=>h b (hU _ z);have:=h x (by simp);lia)
theorem qBJ(on:OneP B P fi)(wr:∀b,b<B->∃f:Nat,fi.getD b 0=(f:Int)/\f<=P)(p1:1<=P)(hl:FreeIs B (noB B) cl fi l)(hp:jR B P (noB B) fi=none):(jX B P (noB B) fi).length+l.length=B:=by(
have h1:l.length=((List.range B).filter λb=>decide (fi.getD b 0=0)).length:=by rw[hl.pm.length_eq];unfold u8;rw[yA]
have h2:jX B P (noB B) fi=(List.range B).filter λb=>!decide (fi.getD b 0=0):=by
 unfold jX;rw[yA];refine pG λb d=>?_;obtain⟨f,D,I⟩:=wr b (mO.mp d);have np:=rC.mp hp b (by rw[yA];exact d);unfold jZ at np;rw[D]at np ⊢;by_cases z:f=0
 .subst z;rw[hC (show((0:Nat):Int)=0 from rfl),hX (by lia)];rfl
 rw[hX (show ¬(f:Int)=0 by lia)];by_cases y:f<P
 .exact(np (by rw[hC (show(0:Int)<(f:Int) by lia),hC (show(f:Int)<(P:Int) by lia)];rfl)).elim
 exact hC (by lia)
rw[h1,h2]
have e:∀{L:List Nat} {p:Nat->Bool},(L.filter λb=>!p b).length+(L.filter p).length=L.length:=by
 intro L p;induction L with
 |nil=>rfl
 |cons x L J=>rw[gF,gF];cases p x<;>simp<;>lia
have:=e (L:=List.range B) (p:=λb=>decide (fi.getD b 0=0))
rw[mV]at this
exact this)
end
section
variable{q:QM}{m:CM}{l:List Nat}
theorem qGQ{b f:Nat}{n:Int}(hf:f<q.P):q4W q (q.nx,b*q.P+f,n)=q.put b f n:=by show({ q with nx:=q.nx }:QM).put ((b*q.P+f) / q.P) ((b*q.P+f)%q.P) n=_;rw[yC hf,dN,cS,cL hf]
theorem QS.put{b f:Nat}{n:Int}(h:QS q)(hb:b<q.B)(hf:f<q.P)(ef:q.fi.getD b 0=(f:Int))(n0:0<=n)(n1:n<=64):QS (q.put b f n):=by(
have d:Fits q (q.nx,b*q.P+f,n):=by
 refine⟨?_,?_,gE _,n0,n1⟩
 .show(b*q.P+f) / q.P<q.B;rw[yC hf];exact hb
 show q.fi.getD ((b*q.P+f) / q.P) 0=(((b*q.P+f)%q.P:Nat):Int);rw[yC hf,ef,dN,cS,cL hf]
have:=d.qs h
rw[qGQ hf]at this
exact this)
theorem jJ{b f:Nat}{n:Int}{x:Int×Int}:x∈(q.put b f n).V↔x=(n,((b*q.P+f:Nat):Int))\/(x∈q.V/\x.1≠n):=by show x∈jE q.V n++[(n,((b*q.P+f:Nat):Int))]↔_;rw[gJ,j0,kE];exact⟨λh=>h.symm,λh=>h.symm⟩
theorem QS.forget(h:QS q)(n:Int):QS (q.forget n):=⟨h.ok.forget n,λb hb=>qDO h n hb⟩
noncomputable def QM.emptied(q:QM)(b:Nat):QM:={ q with fi:=q.fi.set b 0,bo:=q.bo.set b 0 }
theorem QS.emptied(h:QS q)(b:Nat):QS (q.emptied b):=by(
refine⟨{ h.ok with lf:=by show(q.fi.set b 0).length=q.B;rw[gM];exact h.ok.lf,lo:=by show(q.bo.set b 0).length=q.B;rw[gM];exact h.ok.lo,wr:=λc d=>?_ },h.lv⟩
show ∃f:Nat,(q.fi.set b 0).getD c 0=(f:Int)/\f<=q.P
rw[jB]
split
.exact⟨0,rfl,m7 _⟩
exact h.ok.wr c d)
noncomputable def tlOf(m:CM)(q:QM)(b:Nat):Tl:=⟨(b:Int),q.lv.getD b 0,m.cl.getD b 0,q.bo.getD b 0⟩
theorem qGR{f:Tl->Int}{ts:List Tl}(h:ts≠[]):∃T∈ts,pk f ts=T.b/\∀o∈ts,f T<=f o:=by obtain⟨i,z,d,D⟩:=q7I f ts h;exact⟨ts[i],gL z,qJL z d D,λo I=>by have:=q6P.mp d o I;lia⟩
theorem qGS{ie:Nat}(h:QS q)(on:OneP q.B q.P q.fi)(br:m.br=noB q.B)(hl:FreeIs q.B (noB q.B) m.cl q.fi l)(hr:rm q.B q.P q.fi=(1+ie)*q.P)(hv:q.V.length<(q.B-(1+ie))*q.P):
 optN (ie:Int) m q l≠[]/\∀b∈optN (ie:Int) m q l,(∀c∈optN (ie:Int) m q l,q.lv.getD b 0<=q.lv.getD c 0)->cntB q.P q.V b*(q.B-(1+ie))<=q.V.length:=by(
have U:=h.ok.p1
have ll:jR q.B q.P (noB q.B) q.fi=none/\l.length=1+ie:=by
 rcases q2G on h.ok.wr U hl with⟨h1,h2⟩|⟨b,e,h1,e1,e2,h2,_⟩
 .refine⟨h1,?_⟩;rw[hr]at h2;exact(sO (by lia) h2).symm
 exfalso;rw[hr]at h2;have k:(1+ie)*q.P%q.P=e:=by rw[h2,dN,cS,cL e2]
 rw[aN]at k;lia
have fl:=qBJ on h.ok.wr U hl ll.1
have J:(jX q.B q.P (noB q.B) q.fi).length=q.B-(1+ie):=by lia
have O:spcN (ie:Int) l q.P q.fi (jR q.B q.P (noB q.B) q.fi)=(q.P:Int):=by unfold spcN;rw[kM (by lia)]
have S:(jX q.B q.P (noB q.B) q.fi).Nodup:=by unfold jX;rw[yA];exact gZ _ pP
have N:∀b∈jX q.B q.P (noB q.B) q.fi,b<q.B:=λb D=>by unfold jX at D;rw[yA]at D;exact mO.mp (mK.mp D).1
have d:∀b,b∈optN (ie:Int) m q l↔b∈jX q.B q.P (noB q.B) q.fi/\cntB q.P q.V b<q.P:=λb=>by
 unfold optN;rw[br,O,mK,mK,mC,mC];constructor
 .rintro⟨⟨a,_⟩,c⟩
  rw[h.lv b (N b a)]at c;exact⟨a,by lia⟩
 rintro⟨a,c⟩
 rw[h.lv b (N b a)];exact⟨⟨a,by lia⟩,by lia⟩
have cs:=qIM (P:=q.P) (V:=q.V) S
constructor
.intro z;have:(jX q.B q.P (noB q.B) q.fi).length*q.P<=((jX q.B q.P (noB q.B) q.fi).map (cntB q.P q.V)).sum:=qGP λb D=>by refine dZ λy=>?_;have:b∈optN (ie:Int) m q l:=(d b).mpr ⟨D,by lia⟩;rw[z]at this;cases this
 rw[J]at this;lia
intro b D I
obtain⟨bF,bP⟩:=(d b).mp D
have:(jX q.B q.P (noB q.B) q.fi).length*cntB q.P q.V b<=((jX q.B q.P (noB q.B) q.fi).map (cntB q.P q.V)).sum:=qGP λc Z=>by
 by_cases y:cntB q.P q.V c<q.P
 .have:=I c ((d c).mpr ⟨Z,y⟩);rw[h.lv b (N b bF),h.lv c (N c Z)]at this;lia
 lia
rw[J,dN]at this
lia)
end
theorem qLC{V:Mp}(nd:(V.map (·.1)).Nodup):V.length<=((V.map (·.1)).filter λn=>decide (n≠64)).length+1:=by(
have e:∀{L:List Int},L.Nodup->L.length<=(L.filter λn=>decide (n≠64)).length+1:=by
 intro L;induction L with
 |nil=>intro _;exact m7 _
 |cons y L D=>
  intro nd;obtain⟨J,I⟩:=m8.mp nd;rw[gF];by_cases z:y=64
  .rw[kI (by simp[z])];have:L.filter (λn=>decide (n≠64))=L:=dX.mpr λw d=>hC λe=>J (by rw[z,<-e];exact d);rw[this];exact kO _
  rw[kM (hC z),mM,mM];have:=D I;lia
have:=e nd
rw[kB]at this
exact this)
inductive Rl where
|rk (f:Int->Int->Tl->Int)
|win (m:Int)
|fol (row:List Int) (u:Nat)
noncomputable def Rl.Ok:Rl->Prop
| .win m=>1<=m
|_=>True
noncomputable def leL(k:Tl->List Int)(a b:Tl):Bool:=!lx (k b) (k a)
noncomputable def winC(m:Int)(ts:List Tl):List Tl:=((ts.mergeSort (leL λT=>[T.bo,T.b])).take m.toNat).mergeSort (leL Tl.ns)
theorem qIN{m:Int}{ts:List Tl}:∀o∈winC m ts,o∈ts:=λo ho=>cX.mp (List.mem_of_mem_take (cX.mp ho))
theorem qIO{m:Int}{ts:List Tl}(m1:1<=m)(h:ts≠[]):winC m ts≠[]:=λz=>by(
have:=rL List.length z
unfold winC at this
rw[lG,gX,lG,wC]at this
have:=xB.mpr h
lia)
noncomputable def fo(row:List Int)(u:Nat)(ts:List Tl):Int:=match row[u]? with
|some n=>if n∈ts.map Tl.b then n else(ts.map Tl.b).headD 0
|none=>(ts.map Tl.b).headD 0
noncomputable def Rl.ch:Rl->Int->Int->List Tl->Int×Rl
| .rk f,pg,nw,ts=>(pk (f pg nw) ts,.rk f)
| .win m,_,_,ts=>(pk Tl.lv (winC m ts),.win m)
| .fol row u,_,_,ts=>(fo row u ts,.fol row (min (u+1) row.length))
noncomputable def minF(cl:List Int):List Nat->Option Nat
| []=>none
|b::L=>match minF cl L with
 |none=>some b
 |some c=>if cl.getD c 0<cl.getD b 0 then some c else some b
noncomputable def spF(q:QM)(cl:List Int):Nat:=match(List.range q.B).find? (jZ q.P q.fi)with
|some b=>b
|none=>(minF cl ((List.range q.B).filter λb=>decide (q.fi.getD b 0=0))).getD 0
section
variable{B P:Nat}{q:QM}{m:CM}{cl fi:List Int}{l:List Nat}
theorem q3C:∀{L:List Nat},L.Pairwise (· < ·)->(minF cl L=none->L=[])/\∀b,minF cl L=some b->b∈L/\∀c∈L,lx (keyN cl c) (keyN cl b)=false
| [],_=>⟨λU=>rfl,λb h=>by cases h⟩
|a::L,pw=>by
 obtain⟨p1,p2⟩:=g7.mp pw;obtain⟨h1,h2⟩:=q3C p2;unfold minF;cases z:minF cl L with
 |none=>
  have:=h1 z;subst this;refine⟨λy=>(by cases y),λb h=>?_⟩;injection h with h
  subst h;exact⟨by simp,λc hc=>by rw[kE.mp hc];exact q3S _⟩
 |some c=>
  obtain⟨g1,g2⟩:=h2 c z;have hac:=p1 c g1;dsimp only;by_cases y:cl.getD c 0<cl.getD a 0
  .rw[kM y];refine⟨λw=>(by cases w),λb h=>?_⟩;injection h with h
   subst h;refine⟨hU _ g1,λd hd=>?_⟩;rcases kN.mp hd with e|e
   .subst e;unfold keyN lx;rw[kI (by lia)];exact hX (by lia)
   exact g2 d e
  rw[kI y];refine⟨λw=>(by cases w),λb h=>?_⟩;injection h with h
  subst h;refine⟨by simp,λd hd=>?_⟩;rcases kN.mp hd with e|e
  .subst e;exact q3S _
  refine qJM (b:=keyN cl c) ?_ (g2 d e);unfold keyN lx;by_cases w:cl.getD c 0=cl.getD a 0
  .rw[kM w];unfold lx;rw[kI (by lia)];exact hX (by lia)
  rw[kI w];exact hX (by lia)
theorem qES(hl:FreeIs B (noB B) cl fi l):l.head?=minF cl ((List.range B).filter λb=>decide (fi.getD b 0=0)):=by(
have d:=hl.pm
unfold u8 at d
rw[yA]at d
have O:((List.range B).filter λb=>decide (fi.getD b 0=0)).Pairwise (· < ·):=gZ _ dP
obtain⟨h1,h2⟩:=q3C (cl:=cl) O
cases l with
|nil=>rw[xF.mp d];rfl
|cons a r=>
 cases z:minF cl ((List.range B).filter λb=>decide (fi.getD b 0=0))with
 |none=>rw[h1 z]at d;have:=d.length_eq;cases this
 |some b=>
  obtain⟨I,J⟩:=h2 b z;have D:=hl.so;rw[mY]at D;have D:=(g7.mp D).1;have N:=d.mem_iff.mpr I;have e:a=b:=by
   rcases kN.mp N with e|e
   .exact e.symm
   exact qIE (q5E _ _ (J a (d.mem_iff.mp (by simp))) (D _ (mF.mpr ⟨b,e,rfl⟩)))
  rw[e];rfl)
theorem qLD(on:OneP q.B q.P q.fi)(wr:∀b,b<q.B->∃f:Nat,q.fi.getD b 0=(f:Int)/\f<=q.P)(p1:1<=q.P)(hl:FreeIs q.B (noB q.B) cl q.fi l)(h:0<rm q.B q.P q.fi):q21 q.B q.P (noB q.B) q.fi l=some (spF q cl):=by(
obtain⟨b,d,_⟩:=q9N on wr p1 hl h
rw[d]
unfold q21 jR at d
unfold spF
rw[yA]at d
cases z:(List.range q.B).find? (jZ q.P q.fi)with
|some c=>rw[z]at d;exact d.symm
|none=>rw[z]at d;rw[<-qES hl];have d:l.head?=some b:=d;rw[d];rfl)
noncomputable def lvP(P b:Nat)(V:Mp):List (List Int):=(List.range P).filterMap λf=>(V.find? λy=>decide (y.2=((b*P+f:Nat):Int))).map λy=>[y.2,y.1]
theorem q4X{P b:Nat}{V:Mp}(hP:1<=P)(pd:(V.map (·.2)).Nodup){k:List Int}:k∈lvP P b V↔∃y∈V,y.2 / (P:Int)=(b:Int)/\k=[y.2,y.1]:=by(
unfold lvP
rw[d6]
constructor
.rintro⟨f,J,e⟩
 have J:=mO.mp J;cases z:V.find? λy=>decide (y.2=((b*P+f:Nat):Int))with
 |none=>rw[z]at e;cases e
 |some y=>
  rw[z]at e;have D:=g3 z;have d:y.2=((b*P+f:Nat):Int):=by simpa using g9 z
  refine⟨y,D,?_,(kQ e).symm⟩;rw[d,<-dE,yC J]
rintro⟨y,hy,hb,rfl⟩
have Z:0<=y.2:=by refine dZ λz=>?_;have:=Int.ediv_neg_of_neg_of_pos (a:=y.2) (b:=(P:Int)) (by lia) (by lia);lia
have e:=Int.mul_ediv_add_emod y.2 (P:Int)
have U:=aU y.2 (show(P:Int)≠0 by lia)
have m1:=xM y.2 (show(0:Int)<(P:Int) by lia)
refine⟨(y.2%(P:Int)).toNat,mO.mpr (by lia),?_⟩
have I:y.2=((b*P+(y.2%(P:Int)).toNat:Nat):Int):=by rw[bA,dA,<-hb,Int.mul_comm];lia
cases z:V.find? λw=>decide (w.2=((b*P+(y.2%(P:Int)).toNat:Nat):Int))with
|none=>exact absurd (hC I) (rC.mp z y hy)
|some w=>
 have D:=g3 z;have d:w.2=((b*P+(y.2%(P:Int)).toNat:Nat):Int):=by simpa using g9 z
 have:w=y:=by
  clear z;induction V with
  |nil=>cases D
  |cons v V S=>
   rw[mY]at pd;obtain⟨N,O⟩:=m8.mp pd;rcases kN.mp D with a|a<;>rcases kN.mp hy with c|c
   .rw[a,c]
   .exact(N (by rw[<-a,d,<-I];exact mF.mpr ⟨y,c,rfl⟩)).elim
   .exact(N (by rw[<-c,I,<-d];exact mF.mpr ⟨w,a,rfl⟩)).elim
   exact S O c a
 rw[this];rfl)
theorem qCM{P b:Nat}{V:Mp}:(lvP P b V).Pairwise λa c=>lx c a=false/\a≠c:=by(
unfold lvP
refine List.pairwise_filterMap.mpr (dP.imp fun {f g} hfg k hk k' hk'=>?_)
cases z:V.find? λy=>decide (y.2=((b*P+f:Nat):Int))with
|none=>rw[z]at hk;cases hk
|some y=>
 cases z':V.find? λy=>decide (y.2=((b*P+g:Nat):Int))with
 |none=>rw[z']at hk';cases hk'
 |some d=>
  rw[z]at hk;rw[z']at hk';have I:y.2=((b*P+f:Nat):Int):=by simpa using g9 z
  have D:d.2=((b*P+g:Nat):Int):=by simpa using g9 z'
  obtain rfl:[y.2,y.1]=k:=kQ hk;obtain rfl:[d.2,d.1]=k':=kQ hk';refine⟨?_,λw=>?_⟩
  .unfold lx;rw[kI (by lia)];exact hX (by lia)
  injection w with w _
  lia)
theorem qIP{P b:Nat}{V:Mp}{rs:List (List Int)}(hP:1<=P)(pd:(V.map (·.2)).Nodup)(nd:rs.Nodup)(mm:∀k,k∈rs↔∃n p,k=[p,n]/\(n,p)∈V/\p / (P:Int)=(b:Int))(so:rs.Pairwise λa b=>lx b a=false):rs=lvP P b V:=by(
refine qA4 (q1I nd (qCM.imp λz=>z.2) λk=>?_) so (qCM.imp λz=>z.1)
rw[mm,q4X hP pd]
constructor
.rintro⟨n,p,rfl,h1,h2⟩
 exact⟨(n,p),h1,h2,rfl⟩
rintro⟨y,h1,h2,rfl⟩
exact⟨y.1,y.2,rfl,h1,h2⟩)
end
structure XS where
q:QM
cl:List Int
pg:Nat->Option (Int×Int)
lf:Option Int
rc:List (Str×Int×Bool)
structure Tm where
ie:Nat
sp:Int
ev:Bool
noncomputable def mnL:List Int->Option Int
| []=>none
|a::l=>match mnL l with
 |none=>some a
 |some m=>some (if a<=m then a else m)
theorem qA5:∀{l:List Int},l≠[]->∃m,mnL l=some m/\m∈l/\∀a∈l,m<=a
| [],h=>absurd rfl h
| [a],_=>⟨a,rfl,by simp,λb hb=>by rw[kE.mp hb];exact gE _⟩
|a::b::l,_=>by
 obtain⟨m,e,h1,h2⟩:=qA5 (l:=b::l) (by simp);unfold mnL;rw[e];by_cases z:a<=m
 .refine⟨a,by dsimp only;rw[kM z],by simp,λc hc=>?_⟩;rcases kN.mp hc with e|hc
  .rw[e];exact gE _
  exact pE z (h2 c hc)
 refine⟨m,by dsimp only;rw[kI z],hU _ h1,λc hc=>?_⟩;rcases kN.mp hc with e|hc
 .rw[e];lia
 exact h2 c hc
namespace XS
variable(s:XS)
noncomputable def pb:Nat:=spF s.q s.cl
noncomputable def pf:Nat:=(s.q.fi.getD s.pb 0).toNat
noncomputable def np:Nat:=s.pb*s.q.P+s.pf
noncomputable def put(n v:Int):XS:=⟨s.q.put s.pb s.pf n,s.cl,λi=>if i=s.np then some (s.q.nx*128+n,v)else s.pg i,s.lf.map (· - 1),s.rc++[(Str.ofString "put",(s.np:Int),true)]⟩
noncomputable def wip(b:Nat):XS:=⟨s.q.emptied b,s.cl.set b (s.cl.getD b 0+1),λi=>if i / s.q.P=b then none else s.pg i,s.lf.map (· - 1),s.rc++[(Str.ofString "wipe",(b:Int),true)]⟩
noncomputable def forg(n:Int):XS:={ s with q:=s.q.forget n }
noncomputable def rmX:Nat:=rm s.q.B s.q.P s.q.fi
noncomputable def hl:List Int:=((s.q.V.map (·.1)).filter λn=>decide (n≠64)).mergeSort λa b=>decide (a<=b)
noncomputable def bits(ns:List Int):Int:=((orB (ns.map Int.toNat) 0:Nat):Int)
noncomputable def val(p n:Int):Int:=if n=64 then bits s.hl else((s.pg p.toNat).getD (0,0)).2
noncomputable def mvs:List (List Int)->XS->XS×Option (List (List Int))
| [],s=>(s,some [])
|k::r,s=>if s.lf=some 0 then(s,none)else
 match mvs r (s.put (k.getD 1 0) (s.val (k.getD 0 0) (k.getD 1 0)))with
 |(s',none)=>(s',none)
 |(s',some ms)=>(s',some ([k.getD 1 0,k.getD 0 0,(s.np:Int)]::ms))
noncomputable def spc(k:Tm):Int:=if(1+k.ie)*s.q.P<=s.rmX then(s.q.P:Int)else(s.rmX:Int)-(k.ie*s.q.P:Nat)
noncomputable def ful(k:Tm):List Nat:=(List.range s.q.B).filter λb=>decide (s.q.fi.getD b 0=(s.q.P:Int))&&decide (s.q.lv.getD b 0<=s.spc k)
noncomputable def ded(k:Tm):List Nat:=(s.ful k).filter λb=>decide (s.q.lv.getD b 0<(s.q.P:Int))
noncomputable def lst:Int:=(mnL s.cl).getD 0
noncomputable def clb(k:Tm)(L:List Nat):List Nat:=L.filter λb=>decide (s.cl.getD b 0<s.lst+k.sp)
noncomputable def opt(k:Tm):List Nat:=if k.ev then s.clb k (s.ded k)else s.ded k
noncomputable def tl(b:Nat):Tl:=⟨(b:Int),s.q.lv.getD b 0,s.cl.getD b 0,s.q.bo.getD b 0⟩
noncomputable def ots(k:Tm):List Tl:=(s.opt k).map s.tl
noncomputable def chg(k:Tm):Option Nat:=minF s.cl (s.clb k (s.ful k))
noncomputable def rd(k:Tm):Bool:=decide ((1+k.ie)*s.q.P<s.rmX)
noncomputable def tk(k:Tm)(g:Rl):Option (Str×Nat×Rl):=if s.opt k=[]then(if k.ev then(s.chg k).map λb=>("even",b,g)else none)
 else some ("rule",(g.ch (s.q.P:Int) s.q.nx (s.ots k)).1.toNat,(g.ch (s.q.P:Int) s.q.nx (s.ots k)).2)
end XS
inductive Rf where
|dark|room
structure Pa where
why:Str
ts:List Tl
b:Nat
mv:List (List Int)
structure Sx where
s:XS
g:Rl
ps:List Pa
namespace Sx
noncomputable def room(k:Tm)(X:Sx):Sx×Except Rf Pa:=match X.s.tk k X.g with
|none=>(X,.error .room)
|some (y,b,g)=>match XS.mvs (lvP X.s.q.P b X.s.q.V) X.s with
 |(s,none)=>(⟨s,g,X.ps⟩,.error .dark)
 |(s,some ms)=>if s.lf=some 0 then(⟨s,g,X.ps⟩,.error .dark)else(⟨s.wip b,g,X.ps++[⟨y,X.s.ots k,b,ms⟩]⟩,.ok ⟨y,X.s.ots k,b,ms⟩)
noncomputable def rooms(k:Tm):Nat->Sx->Option (Sx×Except Rf Unit)
|0,X=>if X.s.rd k then some (X,.ok ())else none
|i+1,X=>if X.s.rd k then some (X,.ok ())else match X.room k with
 |(Y,.error e)=>some (Y,.error e)
 |(Y,.ok _)=>rooms k i Y
noncomputable def ask(k:Tm)(i:Nat)(X:Sx)(n v:Int):Option (Sx×Except Rf Nat):=match X.rooms k i with
|none=>none
|some (Y,.error e)=>some (Y,.error e)
|some (Y,.ok _)=>if Y.s.lf=some 0 then some (Y,.error .dark)else some (⟨Y.s.put n v,Y.g,Y.ps⟩,.ok Y.s.np)
end Sx
structure WX(k:Tm)(s:XS):Prop where
qs:QS s.q
on:OneP s.q.B s.q.P s.q.fi
lc:s.cl.length=s.q.B
cr:∀b f:Nat,b<s.q.B->s.q.fi.getD b 0<=(f:Int)->f<s.q.P->s.pg (b*s.q.P+f)=none
vl:∀y∈s.q.V,∃b f:Nat,∃v:Int×Int,b<s.q.B/\f<s.q.P/\y.2=((b*s.q.P+f:Nat):Int)/\(f:Int)<s.q.fi.getD b 0/\s.pg (b*s.q.P+f)=some v
pd:(s.q.V.map (·.2)).Nodup
c0:∀b,0<=s.cl.getD b 0/\s.cl.getD b 0<=(s.rc.length:Int)
bo:∀b,0<=s.q.bo.getD b 0/\s.q.bo.getD b 0<s.q.nx
nx:1<=s.q.nx
sl:k.ie*s.q.P<=s.rmX
l6:s.q.V.length<60
l0:∀i,s.lf=some i->0<=i
theorem q7Q{P b f c g:Nat}(hf:f<P)(hg:g<P)(e:b*P+f=c*P+g):b=c/\f=g:=by(
have h1:=yC (b:=b) hf
have h2:=yC (b:=c) hg
rw[e,h2]at h1
subst h1
exact⟨rfl,by lia⟩)
theorem q15{V:Mp}{n:Int}(nd:(V.map (·.1)).Nodup):(jE V n).length<=V.length/\∀p,(n,p)∈V->(jE V n).length+1=V.length:=by(
refine⟨mJ _ _,λp h=>?_⟩
induction V with
|nil=>exact absurd h (by simp)
|cons y V D=>
 rw[mY]at nd;obtain⟨d,J⟩:=m8.mp nd;unfold jE;rw[gF];rcases kN.mp h with e|h
 .subst e;rw[kI (by simp),mM];have:V.filter (λq=>decide (q.1≠n))=V:=dX.mpr λz I=>hC λe=>d (mF.mpr ⟨z,I,e⟩);rw[this]
 have ne:y.1≠n:=λe=>d (mF.mpr ⟨_,h,e.symm⟩);rw[kM (hC ne),mM,mM];have:=D J h;unfold jE at this;lia)
section
variable{k:Tm}{s:XS}
theorem WX.spot(h:WX k s)(hr:0<s.rmX):s.pb<s.q.B/\s.pf<s.q.P/\s.q.fi.getD s.pb 0=(s.pf:Int)/\((jR s.q.B s.q.P (noB s.q.B) s.q.fi=some s.pb)\/(jR s.q.B s.q.P (noB s.q.B) s.q.fi=none/\s.q.fi.getD s.pb 0=0))/\∀l,FreeIs s.q.B (noB s.q.B) s.cl s.q.fi l->q21 s.q.B s.q.P (noB s.q.B) s.q.fi l=some s.pb:=by(
have z:=h.qs.ok.p1
have sp:∀l,FreeIs s.q.B (noB s.q.B) s.cl s.q.fi l->q21 s.q.B s.q.P (noB s.q.B) s.q.fi l=some s.pb:=λl hl=>qLD h.on h.qs.ok.wr z hl hr
obtain⟨l,hl⟩:=FreeIs.ex s.q.B (noB s.q.B) s.cl s.q.fi
have d:=sp l hl
obtain⟨b,D,J⟩:=q9N h.on h.qs.ok.wr z hl hr
rw[d]at D
obtain rfl:=kQ D
obtain⟨I,_,O,N⟩:=qBG hl z d
have:(s.pf:Int)=s.q.fi.getD s.pb 0:=by unfold XS.pf;lia
exact⟨I,by lia,this.symm,J,sp⟩)
theorem qA6{b f:Nat}{n:Int}{q:QM}(lf:q.fi.length=q.B)(hb:b<q.B)(ef:q.fi.getD b 0=(f:Int))(c:Nat):(q.put b f n).fi.getD c 0=if b=c then(f:Int)+1 else q.fi.getD c 0:=by(
show(q.fi.set b (q.fi.getD b 0+1)).getD c 0=_
rw[ef,jB,lf]
by_cases e:b=c
.rw[kM ⟨e,hb⟩,kM e]
rw[kI (λz=>e z.1),kI e])
theorem WX.put(h:WX k s){n v:Int}(hr:k.ie*s.q.P<s.rmX)(n0:0<=n)(n1:n<=64)(hl:(∃p,(n,p)∈s.q.V)\/s.q.V.length<59)(dk:s.lf≠some 0):WX k (s.put n v)/\(s.put n v).rmX+1=s.rmX:=by(
obtain⟨U,N,S,sp,_⟩:=h.spot (by lia)
have D:=h.qs.ok
have I:∀c,(s.put n v).q.fi.getD c 0=if s.pb=c then(s.pf:Int)+1 else s.q.fi.getD c 0:=qA6 D.lf U S
have ad:(s.put n v).rmX+1=s.rmX:=qLB U D.lf S N
refine⟨⟨h.qs.put U N S n0 n1,qIL h.on U D.lf sp,h.lc,λc g J hg d=>?_,λy O=>?_,?_,λc=>?_,λc=>?_,?_,?_,?_,λi e=>?_⟩,ad⟩
.have d:g<s.q.P:=d;rw[I]at hg;show(if c*s.q.P+g=s.np then some (s.q.nx*128+n,v)else s.pg (c*s.q.P+g))=none;by_cases e:s.pb=c
 .subst e;rw[kM rfl]at hg;rw[kI (by unfold XS.np;lia)];exact h.cr _ g J (by lia) d
 rw[kI e]at hg;rw[kI (λ(z:c*s.q.P+g=s.np)=>e (q7Q d N z).1.symm)];exact h.cr c g J hg d
.rcases jJ.mp O with e|⟨O,ak⟩
 .rw[e];refine⟨s.pb,s.pf,_,U,N,rfl,?_,kM rfl⟩;rw[I,kM rfl];lia
 obtain⟨c,g,w,a1,a2,a3,Z,a5⟩:=h.vl y O;refine⟨c,g,w,a1,a2,a3,?_,?_⟩
 .rw[I];by_cases e:s.pb=c
  .subst e;rw[kM rfl];lia
  rw[kI e];exact Z
 show(if c*s.q.P+g=s.np then some (s.q.nx*128+n,v)else s.pg (c*s.q.P+g))=some w;rw[kI (λ(z:c*s.q.P+g=s.np)=>?_)]
 .exact a5
 obtain⟨e1,e2⟩:=q7Q a2 N z;rw[e1,S]at Z;lia
.show((jE s.q.V n++[(n,((s.pb*s.q.P+s.pf:Nat):Int))]).map (·.2)).Nodup;rw[gA];refine rJ.mpr ⟨?_,by simp,λa ha c J=>?_⟩
 .exact pJ (nN _ cN) h.pd
 obtain⟨y,O,rfl⟩:=mF.mp ha;have J:c=((s.pb*s.q.P+s.pf:Nat):Int):=by simpa using J
 rw[J];intro z;obtain⟨c',g,w,a1,a2,a3,Z,a5⟩:=h.vl y (j0.mp O).1;rw[a3]at z;obtain⟨e1,e2⟩:=q7Q a2 N (by exact sZ z);rw[e1,S]at Z;lia
.show 0<=s.cl.getD c 0/\s.cl.getD c 0<=((s.rc++[_]).length:Int);have:=h.c0 c;rw[mH,gK];lia
.show 0<=(if s.q.fi.getD s.pb 0=0 then s.q.bo.set s.pb s.q.nx else s.q.bo).getD c 0/\(if s.q.fi.getD s.pb 0=0 then s.q.bo.set s.pb s.q.nx else s.q.bo).getD c 0<s.q.nx+1;have:=h.bo c;have:=h.nx;split
 .rw[jB];split<;>lia
 lia
.show 1<=s.q.nx+1;have:=h.nx;lia
.show k.ie*s.q.P<=(s.put n v).rmX;lia
.show(jE s.q.V n++[_]).length<60;rw[mH,gK];obtain⟨d1,d2⟩:=q15 (V:=s.q.V) (n:=n) D.nd;have:=h.l6;rcases hl with⟨p,hp⟩|hl
 .have:=d2 p hp;lia
 lia
have e:s.lf.map (· - 1)=some i:=e
cases z:s.lf with
|none=>rw[z]at e;cases e
|some j=>rw[z]at e;have e:j-1=i:=kQ e;have:=h.l0 j z;have:j≠0:=λy=>dk (by rw[z,y]);lia)
theorem WX.wip(h:WX k s){b:Nat}(hb:b<s.q.B)(ef:s.q.fi.getD b 0=(s.q.P:Int))(nl:∀y∈s.q.V,¬y.2 / (s.q.P:Int)=(b:Int))(dk:s.lf≠some 0):WX k (s.wip b)/\(s.wip b).rmX=s.rmX+s.q.P:=by(
have I:=h.qs.ok
have N:(s.wip b).rmX=s.rmX+s.q.P:=qIK hb I.lf ef
have D:∀c,(s.wip b).q.fi.getD c 0=if b=c then 0 else s.q.fi.getD c 0:=λc=>by
 show(s.q.fi.set b 0).getD c 0=_;rw[jB,I.lf];by_cases e:b=c
 .rw[kM ⟨e,hb⟩,kM e]
 rw[kI (λz=>e z.1),kI e]
refine⟨⟨h.qs.emptied b,qGO h.on,?_,λc g hc U d=>?_,λy Z=>?_,h.pd,λc=>?_,λc=>?_,h.nx,?_,h.l6,λi e=>?_⟩,N⟩
.show(s.cl.set _ _).length=_;rw[gM];exact h.lc
.show(if(c*s.q.P+g) / s.q.P=b then none else s.pg (c*s.q.P+g))=none;have d:g<s.q.P:=d;rw[yC d];by_cases e:c=b
 .rw[kM e]
 rw[kI e];rw[D,kI (λz=>e z.symm)]at U;exact h.cr c g hc U d
.obtain⟨c,g,w,a1,J,S,a4,a5⟩:=h.vl y Z;have O:c≠b:=λz=>nl _ Z (by rw[S,<-dE,yC J,z]);refine⟨c,g,w,a1,J,S,?_,?_⟩
 .rw[D,kI (λz=>O z.symm)];exact a4
 show(if(c*s.q.P+g) / s.q.P=b then none else s.pg (c*s.q.P+g))=_;rw[yC J,kI O];exact a5
.show 0<=(s.cl.set b (s.cl.getD b 0+1)).getD c 0/\(s.cl.set b (s.cl.getD b 0+1)).getD c 0<=((s.rc++[_]).length:Int);have h1:=h.c0 c;have h2:=h.c0 b;rw[mH,gK,jB];split<;>lia
.show 0<=(s.q.bo.set b 0).getD c 0/\(s.q.bo.set b 0).getD c 0<s.q.nx;have h1:=h.bo c;have h2:=h.nx;rw[jB];split<;>lia
.show k.ie*s.q.P<=(s.wip b).rmX;have:=h.sl;lia
have e:s.lf.map (· - 1)=some i:=e
cases z:s.lf with
|none=>rw[z]at e;cases e
|some j=>rw[z]at e;have e:j-1=i:=kQ e;have:=h.l0 j z;have:j≠0:=λy=>dk (by rw[z,y]);lia)
theorem WX.forg(h:WX k s)(n:Int):WX k (s.forg n):=by(
refine⟨h.qs.forget n,h.on,h.lc,h.cr,λy d=>h.vl y (j0.mp d).1,?_,h.c0,h.bo,h.nx,h.sl,?_,h.l0⟩
.exact pJ (nN _ cN) h.pd
have:=(q15 (V:=s.q.V) (n:=n) h.qs.ok.nd).1
have:=h.l6
show(jE s.q.V n).length<60
lia)
end
theorem qGT{V:Mp}{n p p':Int}(nd:(V.map (·.1)).Nodup)(h:(n,p)∈V)(h':(n,p')∈V):p=p':=by(
induction V with
|nil=>exact absurd h (by simp)
|cons y V D=>
 rw[mY]at nd;obtain⟨z,I⟩:=m8.mp nd;rcases kN.mp h with e|h<;>rcases kN.mp h' with d|h'
 .rw[<-e]at d;injection d with _ d
  exact d.symm
 .exact(z (mF.mpr ⟨_,h',by rw[<-e]⟩)).elim
 .exact(z (mF.mpr ⟨_,h,by rw[<-d]⟩)).elim
 exact D I h h')
theorem q7R{P b:Nat}{V:Mp}:(lvP P b V).Nodup:=qCM.imp λz=>z.2
theorem q4Y{q:QM}{b:Nat}(h:QS q)(pd:(q.V.map (·.2)).Nodup)(hb:b<q.B):((lvP q.P b q.V).length:Int)=q.lv.getD b 0:=by(
rw[h.lv b hb]
have D:=h.ok.nd
have:(lvP q.P b q.V).Perm ((q.V.filter λy=>decide (y.2 / (q.P:Int)=(b:Int))).map λy=>[y.2,y.1]):=q1I q7R (gN.mpr (((gN.mp D).imp fun {a c} hne z=>hne (by
 injection z with _ z
 injection z with z _)).filter _)) λk=>by
 rw[q4X h.ok.p1 pd,mF];constructor
 .rintro⟨y,h1,h2,rfl⟩
  exact⟨y,mK.mpr ⟨h1,hC h2⟩,rfl⟩
 rintro⟨y,hy,rfl⟩
 obtain⟨d,I⟩:=mK.mp hy;exact⟨y,d,mI I,rfl⟩
rw[this.length_eq,kB]
unfold cntB
rw[wV])
structure MvI(k:Tm)(s0:XS)(b:Nat)(rs:List (List Int))(i:Nat)(s:XS)(ms:List (List Int)):Prop where
w:WX k s
e:XS.mvs rs s0=(match XS.mvs (rs.drop i) s with|(s',none)=>(s',none)|(s',some m)=>(s',some (ms++m)))
l:ms.length=i
rc:s.rc.length=s0.rc.length+i
rm:s.rmX+i=s0.rmX
eB:s.q.B=s0.q.B
eP:s.q.P=s0.q.P
ec:s.cl=s0.cl
fb:s.q.fi.getD b 0=(s0.q.P:Int)
fm:∀c,s0.q.fi.getD c 0<=s.q.fi.getD c 0/\(s0.q.fi.getD c 0=(s0.q.P:Int)->s.q.fi.getD c 0=(s0.q.P:Int))
nm:∀n,(∃p,(n,p)∈s.q.V)↔∃p,(n,p)∈s0.q.V
dr:∀kk∈rs.drop i,∃n p,kk=[p,n]/\(n,p)∈s.q.V/\p / (s0.q.P:Int)=(b:Int)
dl:∀y∈s.q.V,y.2 / (s0.q.P:Int)=(b:Int)->[y.2,y.1]∈rs.drop i
lV:s.q.V.length=s0.q.V.length
section
variable{k:Tm}{s0 s:XS}{b i:Nat}{ms:List (List Int)}
theorem MvI.zero(w:WX k s0)(fb:s0.q.fi.getD b 0=(s0.q.P:Int)):MvI k s0 b (lvP s0.q.P b s0.q.V) 0 s0 []:=by(
refine⟨w,?_,rfl,rfl,rfl,rfl,rfl,rfl,fb,λc=>⟨gE _,λz=>z⟩,λn=>bZ,λkk I=>?_,λy d D=>(q4X w.qs.ok.p1 w.pd).mpr ⟨y,d,D,rfl⟩,rfl⟩
.rw[List.drop_zero];cases XS.mvs (lvP s0.q.P b s0.q.V) s0 with
 |mk s' o=>cases o<;>rfl
obtain⟨y,d,D,rfl⟩:=(q4X w.qs.ok.p1 w.pd).mp I
exact⟨y.1,y.2,rfl,d,D⟩)
variable{rs:List (List Int)}
theorem MvI.at(h:MvI k s0 b rs i s ms)(hi:i<rs.length):∃n p,rs[i]=[p,n]/\(n,p)∈s.q.V/\0<=n/\n<=64:=by obtain⟨n,p,z,d,_⟩:=h.dr rs[i] (by rw[rZ hi];exact kU);have:=h.w.qs.ok.nm _ d;exact⟨n,p,z,d,this.1,this.2⟩
theorem MvI.dark(h:MvI k s0 b rs i s ms)(hi:i<rs.length)(dk:s.lf=some 0):XS.mvs rs s0=(s,none):=by rw[h.e,rZ hi];unfold XS.mvs;rw[kM dk]
theorem MvI.fin(h:MvI k s0 b rs i s ms)(hi:i=rs.length):XS.mvs rs s0=(s,some ms)/\∀y∈s.q.V,¬y.2 / (s.q.P:Int)=(b:Int):=by(
subst hi
refine⟨?_,λy d z=>?_⟩
.rw[h.e,aO];show(s,some (ms++[]))=_;rw[gT]
have:=h.dl y d (by rw[<-h.eP];exact z)
rw[aO]at this
cases this)
theorem MvI.step(h:MvI k s0 b rs i s ms)(nd:rs.Nodup)(hi:i<rs.length)(hr:k.ie*s0.q.P+rs.length<=s0.rmX)(dk:s.lf≠some 0){n p:Int}(er:rs[i]=[p,n]):
 MvI k s0 b rs (i+1) (s.put n (s.val p n)) (ms++[[n,p,(s.np:Int)]]):=by(
have d:rs.drop i=[p,n]::rs.drop (i+1):=by rw[rZ hi,er]
obtain⟨U,p',e0,I,an⟩:=h.dr [p,n] (by rw[d];simp)
obtain⟨rfl,rfl⟩:p=p'/\n=U:=by
 injection e0 with e1 e0
 injection e0 with e2 _
 exact⟨e1,e2⟩
have nb:=h.w.qs.ok.nm _ I
have ap:=h.rm
have Z:=h.eP
have ab:k.ie*s.q.P<s.rmX:=by rw[Z];lia
obtain⟨w',am⟩:=h.w.put (n:=n) (v:=s.val p n) ab nb.1 nb.2 (.inl ⟨p,I⟩) dk
obtain⟨hb,hf,ef,_,_⟩:=h.w.spot (by lia)
have O:∀c,(s.put n (s.val p n)).q.fi.getD c 0=if s.pb=c then(s.pf:Int)+1 else s.q.fi.getD c 0:=qA6 h.w.qs.ok.lf hb ef
have cb:s.pb≠b:=λz=>by rw[z,h.fb,<-Z]at ef;lia
have J:((s.np:Nat):Int) / (s0.q.P:Int)=(s.pb:Int):=by rw[<-Z];unfold XS.np;rw[<-dE,yC hf]
refine⟨w',?_,?_,?_,by lia,h.eB,h.eP,h.ec,?_,λc=>?_,λm=>?_,λkq N=>?_,λy hy D=>?_,?_⟩
.rw[h.e,d];rw[XS.mvs,kI dk];show(match(match XS.mvs (rs.drop (i+1)) (s.put n (s.val p n))with|(s',none)=>(s',none)|(s',some m)=>(s',some ([n,p,(s.np:Int)]::m)))with|(s',none)=>(s',none)|(s',some m)=>(s',some (ms++m)))=_;cases XS.mvs (rs.drop (i+1)) (s.put n (s.val p n))with
 |mk s' o=>
  cases o with
  |none=>rfl
  |some m=>show(s',some (ms++([n,p,(s.np:Int)]::m)))=(s',some ((ms++[[n,p,(s.np:Int)]])++m));rw[pC];rfl
.rw[mH,h.l];rfl
.show(s.rc++[_]).length=_;rw[mH,h.rc];rfl
.rw[O,kI cb];exact h.fb
.obtain⟨m1,m2⟩:=h.fm c;rw[O];by_cases e:s.pb=c
 .subst e;rw[kM rfl];refine⟨by lia,λz=>?_⟩;have:=m2 z;rw[ef,<-Z]at this;lia
 rw[kI e];exact⟨m1,m2⟩
.rw[<-h.nm m];constructor
 .rintro⟨p1,h1⟩
  rcases jJ.mp h1 with e|⟨h1,_⟩
  .cases e;exact⟨p,I⟩
  exact⟨p1,h1⟩
 rintro⟨p1,h1⟩
 by_cases e:m=n
 .exact⟨_,jJ.mpr (.inl (by rw[e]))⟩
 exact⟨p1,jJ.mpr (.inr ⟨h1,e⟩)⟩
.have S:kq∈rs.drop i:=by rw[d];exact hU _ N
 obtain⟨U,p',rfl,h',ae⟩:=h.dr kq S;refine⟨U,p',rfl,jJ.mpr (.inr ⟨h',λe=>?_⟩),ae⟩;have e:U=n:=e;subst e;have:=qGT h.w.qs.ok.nd h' I;subst this;have nn:=nd;rw[<-lI i rs,d]at nn;have:=(rJ.mp nn).2.1;exact(m8.mp this).1 N
.rcases jJ.mp hy with e|⟨hy,ag⟩
 .rw[e]at D;have D:((s.np:Nat):Int) / (s0.q.P:Int)=(b:Int):=D;rw[J]at D;exact(cb (by lia)).elim
 have:=h.dl y hy D;rw[d]at this;rcases kN.mp this with e|e
 .injection e with _ e
  injection e with e _
  exact(ag e).elim
 exact e
show(jE s.q.V n++[_]).length=_
rw[mH,gK,(q15 (V:=s.q.V) (n:=n) h.w.qs.ok.nd).2 p I]
exact h.lV)
structure Mvd(k:Tm)(s0:XS)(b:Nat)(s:XS)(n:Nat):Prop where
w:WX k s
rc:s.rc.length=s0.rc.length+n
rm:s.rmX+n=s0.rmX
eB:s.q.B=s0.q.B
eP:s.q.P=s0.q.P
ec:s.cl=s0.cl
fb:s.q.fi.getD b 0=(s0.q.P:Int)
fm:∀c,s0.q.fi.getD c 0<=s.q.fi.getD c 0/\(s0.q.fi.getD c 0=(s0.q.P:Int)->s.q.fi.getD c 0=(s0.q.P:Int))
nm:∀n,(∃p,(n,p)∈s.q.V)↔∃p,(n,p)∈s0.q.V
lV:s.q.V.length=s0.q.V.length
lb:b<s0.q.B->s.q.lv.getD b 0+n=(lvP s0.q.P b s0.q.V).length
theorem MvI.mvd(h:MvI k s0 b (lvP s0.q.P b s0.q.V) i s ms)(hi:i<=(lvP s0.q.P b s0.q.V).length):Mvd k s0 b s i:=by(
refine⟨h.w,h.rc,h.rm,h.eB,h.eP,h.ec,h.fb,h.fm,h.nm,h.lV,λz=>?_⟩
rw[<-q4Y h.w.qs h.w.pd (by rw[h.eB];exact z)]
have:(lvP s.q.P b s.q.V).Perm ((lvP s0.q.P b s0.q.V).drop i):=q1I q7R (pJ (List.drop_sublist _ _) q7R) λk=>by
 rw[q4X h.w.qs.ok.p1 h.w.pd,h.eP];constructor
 .rintro⟨y,h1,h2,rfl⟩
  exact h.dl y h1 h2
 intro d;obtain⟨n,p,rfl,h1,h2⟩:=h.dr k d;exact⟨_,h1,h2,rfl⟩
rw[this.length_eq,List.length_drop]
lia)
end
section
variable{k:Tm}{s:XS}{l:List Nat}{m:CM}
theorem qLE(h:WX k s)(hl:FreeIs s.q.B (noB s.q.B) s.cl s.q.fi l):spcN (k.ie:Int) l s.q.P s.q.fi (jR s.q.B s.q.P (noB s.q.B) s.q.fi)=s.spc k:=by(
have I:=h.qs.ok.p1
have D:=h.sl
unfold spcN XS.spc
unfold XS.rmX at D ⊢
rcases q2G h.on h.qs.ok.wr I hl with⟨h1,h2⟩|⟨b,e,h1,e1,e2,h2,e3⟩
.rw[h2]at D;rw[h1,h2];by_cases z:1+k.ie<=l.length
 .rw[kM (by lia),kM (dD _ z)]
 have d:l.length=k.ie:=by
  have:¬l.length<k.ie:=λy=>by have:=dD s.q.P (show l.length+1<=k.ie by lia);rw[rO,rP]at this;lia
  lia
 rw[kI (by lia),kI (by rw[d,rO,rP];lia),d];show(0:Int)=_;lia
rw[h2]at D
rw[h1,h2]
by_cases z:1+k.ie<=l.length
.have:=dD s.q.P z;rw[kM (by lia),kM (by lia)]
have d:l.length=k.ie:=by
 have:¬l.length<k.ie:=λy=>by have:=dD s.q.P (show l.length+1<=k.ie by lia);rw[rO,rP]at this;lia
 lia
rw[kI (by lia),kI (by rw[d,rO,rP];lia),d]
show(s.q.P:Int)-s.q.fi.getD b 0=_
lia)
theorem qGU(h:WX k s)(hl:FreeIs s.q.B (noB s.q.B) s.cl s.q.fi l):((jX s.q.B s.q.P (noB s.q.B) s.q.fi).filter λb=>decide (s.q.lv.getD b 0<=spcN (k.ie:Int) l s.q.P s.q.fi (jR s.q.B s.q.P (noB s.q.B) s.q.fi)))=s.ful k:=by(
unfold jX XS.ful
rw[yA,qLE h hl,xP]
refine pG λb z=>?_
rw[Bool.and_comm])
theorem qGV(h:WX k s)(br:m.br=noB s.q.B)(hl:FreeIs s.q.B (noB s.q.B) s.cl s.q.fi l):optN (k.ie:Int) m s.q l=s.ded k:=by unfold optN XS.ded;rw[br,qGU h hl]
theorem qJN(e:m.cl=s.cl):tlOf m s.q=s.tl:=by funext b;unfold tlOf XS.tl;rw[e]
theorem qLF(h:WX k s)(hl:FreeIs s.q.B (noB s.q.B) s.cl s.q.fi l):rdy (k.ie:Int) l (jR s.q.B s.q.P (noB s.q.B) s.q.fi)=s.rd k:=qII h.on h.qs.ok.wr h.qs.ok.p1 hl
structure Full(k:Tm)(s:XS)(c:Nat):Prop where
b:c<s.q.B
f:s.q.fi.getD c 0=(s.q.P:Int)
l:s.q.lv.getD c 0<=s.spc k
theorem q6S{b:Nat}:b∈s.ful k↔Full k s b:=by unfold XS.ful;rw[mK,mO,mU,mC,mC];exact⟨λ⟨a,b,c⟩=>⟨a,b,c⟩,λh=>⟨h.b,h.f,h.l⟩⟩
theorem q3D{b:Nat}:b∈s.ded k↔Full k s b/\s.q.lv.getD b 0<(s.q.P:Int):=by unfold XS.ded;rw[mK,q6S,mC]
theorem vT{b:Nat}:b∈s.opt k↔(Full k s b/\s.q.lv.getD b 0<(s.q.P:Int))/\(k.ev=true->s.cl.getD b 0<s.lst+k.sp):=by(
unfold XS.opt XS.clb
cases k.ev with
|false=>rw[kI (by decide),q3D];exact⟨λh=>⟨h,λz=>by cases z⟩,λh=>h.1⟩
|true=>rw[kM rfl,mK,q3D,mC];exact⟨λh=>⟨h.1,λd=>h.2⟩,λh=>⟨h.1,h.2 rfl⟩⟩)
set_option tactic.hygienic true in
theorem Full.sp(h:WX k s){b:Nat}(f:Full k s b):k.ie*s.q.P+(lvP s.q.P b s.q.V).length<=s.rmX:=by(
have e:=q4Y h.qs h.pd f.b
have l:=f.l
have d:=h.sl
have D:=h.qs.lv b f.b
have I:(lvP s.q.P b s.q.V).length<=s.q.P:=by unfold lvP;refine mL (rG _ _) ?_;rw[mV];exact kO _
unfold XS.spc at l
split at l
.rename_i z;rw[rO,rP]at z;lia
lia)
theorem qIQ{L:List Nat}:∀a∈L.map s.tl,∀c∈L.map s.tl,a.b=c.b->a=c:=λa ha c hc e=>by(
obtain⟨x,_,rfl⟩:=mF.mp ha
obtain⟨y,_,rfl⟩:=mF.mp hc
have e:(x:Int)=(y:Int):=e
rw[show x=y by lia])
theorem qGW(h:WX k s){b:Nat}(hb:b<s.q.B):0<=s.q.lv.getD b 0/\s.q.lv.getD b 0<=(s.q.P:Int):=by
 have e:=q4Y h.qs h.pd hb;have d:(lvP s.q.P b s.q.V).length<=s.q.P:=by unfold lvP;refine mL (rG _ _) ?_;rw[mV];exact kO _
 lia
theorem qMK(h:WX k s)(rc:s.rc.length<1000000){b:Nat}(hb:b<s.q.B):(s.tl b).Ok (s.q.P:Int) s.q.nx:=by(
have z:=h.qs.ok.b2
have c:=h.c0 b
have d:=h.bo b
have e:=qGW h hb
refine⟨?_,?_,e.1,e.2,c.1,?_,d.1,d.2⟩
.show(0:Int)<=(b:Int);lia
.show(b:Int)<16;lia
show s.cl.getD b 0<10 ^ 30
have:(1000000:Int)<10 ^ 30:=by decide
lia)
theorem qLG(h:WX k s):(s.opt k).length<=16:=by(
have d:=h.qs.ok.b2
have:(s.ded k).length<=16:=by unfold XS.ded XS.ful;refine mL (mJ _ _) (mL (mJ _ _) ?_);rw[mV];exact d
unfold XS.opt XS.clb
split
.exact mL (mJ _ _) this
exact this)
end
structure Kp(s s':XS):Prop where
eB:s'.q.B=s.q.B
eP:s'.q.P=s.q.P
nm:∀n,(∃p,(n,p)∈s'.q.V)↔∃p,(n,p)∈s.q.V
lV:s'.q.V.length=s.q.V.length
theorem Kp.refl{s:XS}:Kp s s:=⟨rfl,rfl,λz=>bZ,rfl⟩
theorem Kp.trans{a b c:XS}(h:Kp a b)(g:Kp b c):Kp a c:=⟨g.eB.trans h.eB,g.eP.trans h.eP,λn=>(g.nm n).trans (h.nm n),g.lV.trans h.lV⟩
section
variable{k:Tm}{s:XS}{b:Nat}
theorem qCN{P b:Nat}{V:Mp}:(lvP P b V).length<=P:=by(
unfold lvP
refine mL (rG _ _) ?_
rw[mV]
exact kO _)
theorem q6T(R:XS->List (List Int)->Prop)(w:WX k s)(f:Full k s b)(r0:R s [])(rs:∀s' ms n p,WX k s'->Kp s s'->s'.cl=s.cl->s'.q.fi.getD b 0=(s.q.P:Int)->(n,p)∈s'.q.V->p / (s.q.P:Int)=(b:Int)->k.ie*s'.q.P<s'.rmX->s'.lf≠some 0->R s' ms->R (s'.put n (s'.val p n)) (ms++[[n,p,(s'.np:Int)]])):∃s' n ms,Mvd k s b s' n/\ms.length=n/\R s' ms/\((XS.mvs (lvP s.q.P b s.q.V) s=(s',none)/\n<(lvP s.q.P b s.q.V).length/\s'.lf=some 0)\/(XS.mvs (lvP s.q.P b s.q.V) s=(s',some ms)/\n=(lvP s.q.P b s.q.V).length/\∀y∈s'.q.V,¬y.2 / (s'.q.P:Int)=(b:Int))):=by(
have sp:=f.sp w
have O:∀d i,i+d=(lvP s.q.P b s.q.V).length->∀s' ms,MvI k s b (lvP s.q.P b s.q.V) i s' ms->R s' ms->∃s' n ms,Mvd k s b s' n/\ms.length=n/\R s' ms/\((XS.mvs (lvP s.q.P b s.q.V) s=(s',none)/\n<(lvP s.q.P b s.q.V).length/\s'.lf=some 0)\/(XS.mvs (lvP s.q.P b s.q.V) s=(s',some ms)/\n=(lvP s.q.P b s.q.V).length/\∀y∈s'.q.V,¬y.2 / (s'.q.P:Int)=(b:Int))):=by
 intro d;induction d with
 |zero=>intro i hi s' ms z J;obtain⟨e,Z⟩:=z.fin (by lia);exact⟨s',i,ms,z.mvd (by lia),z.l,J,.inr ⟨e,by lia,Z⟩⟩
 |succ d ih=>
  intro i hi s' ms z J;have D:i<(lvP s.q.P b s.q.V).length:=by lia
  by_cases I:s'.lf=some 0
  .exact⟨s',i,ms,z.mvd (by lia),z.l,J,.inl ⟨z.dark D I,D,I⟩⟩
  obtain⟨n,p,U,N,_⟩:=z.at D;have ad:=z.rm;obtain⟨n',p',e0,_,S⟩:=z.dr [p,n] (by rw[rZ D,U];exact kU);have e1:p=p':=by injection e0
  refine ih (i+1) (by lia) _ _ (z.step q7R D sp I U) (rs s' ms n p z.w ⟨z.eB,z.eP,z.nm,z.lV⟩ z.ec z.fb N (by rw[e1];exact S) (by rw[z.eP];lia) I J)
exact O _ 0 (n9 _) s [] (MvI.zero w f.f) r0)
end
theorem qGX{g:Rl}{pg nw:Int}{ts:List Tl}(ok:g.Ok)(h:ts≠[]):(g.ch pg nw ts).1∈ts.map Tl.b:=by(
cases g with
|rk f=>obtain⟨A,z,e,_⟩:=qGR (f:=f pg nw) h;show pk (f pg nw) ts∈_;rw[e];exact mF.mpr ⟨A,z,rfl⟩
|win m=>obtain⟨A,z,e,_⟩:=qGR (f:=Tl.lv) (qIO ok h);show pk Tl.lv (winC m ts)∈_;rw[e];exact mF.mpr ⟨A,qIN A z,rfl⟩
|fol d u=>
 have D:(ts.map Tl.b).headD 0∈ts.map Tl.b:=by
  cases ts with
  |nil=>exact absurd rfl h
  |cons a r=>simp
 show fo d u ts∈_;unfold fo;split
 .split
  .assumption
  exact D
 exact D)
theorem qML{g:Rl}{pg nw:Int}{ts:List Tl}(ok:g.Ok):(g.ch pg nw ts).2.Ok:=by(
cases g with
|rk f=>trivial
|win m=>exact ok
|fol d u=>trivial)
section
variable{k:Tm}{s:XS}{g g':Rl}{y:Str}{b:Nat}
set_option tactic.hygienic true in
theorem q2H(ok:g.Ok)(h:s.tk k g=some (y,b,g')):(y=Str.ofString "rule"/\b∈s.opt k/\(b:Int)=(g.ch (s.q.P:Int) s.q.nx (s.ots k)).1/\g'=(g.ch (s.q.P:Int) s.q.nx (s.ots k)).2)\/(y=Str.ofString "even"/\k.ev=true/\s.opt k=[]/\g'=g/\s.chg k=some b/\b∈s.clb k (s.ful k)/\∀c∈s.clb k (s.ful k),s.cl.getD b 0<=s.cl.getD c 0):=by(
unfold XS.tk at h
split at h
.rename_i S;split at h
 .rename_i ev;cases z:s.chg k with
  |none=>rw[z]at h;cases h
  |some c=>
   rw[z]at h;cases h;have N:(s.clb k (s.ful k)).Pairwise (· < ·):=by unfold XS.clb XS.ful;exact gZ _ (gZ _ dP)
   obtain⟨Z,U⟩:=(q3C (cl:=s.cl) N).2 b z;refine .inr ⟨rfl,ev,S,rfl,rfl,Z,λc d=>?_⟩;have:=U c d;unfold keyN lx at this;by_cases q:s.cl.getD c 0=s.cl.getD b 0
   .lia
   rw[kI q]at this;have:=rR this;lia
 cases h
rename_i ne
have I:s.ots k≠[]:=λz=>ne (p9.mp z)
have O:=qGX (pg:=(s.q.P:Int)) (nw:=s.q.nx) ok I
injection h with h
injection h with h1 h
injection h with h h2
obtain⟨c,d,e⟩:=mF.mp O
obtain⟨J,D,rfl⟩:=mF.mp d
have e:(J:Int)=(g.ch (s.q.P:Int) s.q.nx (s.ots k)).1:=e
rw[<-e,mB]at h
subst h
exact .inl ⟨h1.symm,D,e,h2.symm⟩)
theorem q3E(ok:g.Ok)(h:s.tk k g=some (y,b,g')):Full k s b:=by(
rcases q2H ok h with⟨_,h1,_⟩|⟨_,_,_,_,_,h1,_⟩
.exact(vT.mp h1).1.1
unfold XS.clb at h1
exact q6S.mp (mK.mp h1).1)
theorem qGY(ok:g.Ok)(h:s.tk k g=some (y,b,g')):g'.Ok:=by(
rcases q2H ok h with⟨_,_,_,e⟩|⟨_,_,_,e,_⟩
.rw[e];exact qML ok
rw[e];exact ok)
end
section
variable{k:Tm}{X Y:Sx}
inductive RoomR(k:Tm)(X:Sx):Sx×Except Rf Pa->Prop
|no:X.s.tk k X.g=none->RoomR k X (X,.error .room)
|dark {y b g' s' n}:X.s.tk k X.g=some (y,b,g')->Mvd k X.s b s' n->n<=(lvP X.s.q.P b X.s.q.V).length->s'.lf=some 0->RoomR k X (⟨s',g',X.ps⟩,.error .dark)
|ok {y b g' s' ms}:X.s.tk k X.g=some (y,b,g')->XS.mvs (lvP X.s.q.P b X.s.q.V) X.s=(s',some ms)->Mvd k X.s b s' (lvP X.s.q.P b X.s.q.V).length->ms.length=(lvP X.s.q.P b X.s.q.V).length->s'.lf≠some 0->WX k (s'.wip b)->(s'.wip b).rmX=s'.rmX+X.s.q.P->RoomR k X (⟨s'.wip b,g',X.ps++[⟨y,X.s.ots k,b,ms⟩]⟩,.ok ⟨y,X.s.ots k,b,ms⟩)
theorem qBK(w:WX k X.s)(ok:X.g.Ok):RoomR k X (X.room k):=by(
unfold Sx.room
cases htk:X.s.tk k X.g with
|none=>exact .no htk
|some I=>
 obtain⟨y,b,g'⟩:=I;have f:=q3E ok htk;obtain⟨s',n,ms,d,O,_,h|h⟩:=q6T (λU U=>True) w f trivial (λU U U U U U U U U U U U U=>trivial)
 .obtain⟨e,J,z⟩:=h;dsimp only;rw[e];exact .dark htk d (by lia) z
 obtain⟨e,J,N⟩:=h;dsimp only;rw[e];dsimp only;subst J;by_cases z:s'.lf=some 0
 .rw[kM z];exact .dark htk d (kO _) z
 rw[kI z];obtain⟨S,D⟩:=d.w.wip (b:=b) (by rw[d.eB];exact f.b) (by rw[d.eP];exact d.fb) N z;exact .ok htk e d O z S (by rw[D,d.eP]))
theorem qGZ{p:Pa}(w:WX k X.s)(ok:X.g.Ok)(h:X.room k=(Y,.ok p)):Y.s.rc.length<=X.s.rc.length+17/\Y.ps.length=X.ps.length+1:=by(
have r:=qBK w ok
rw[h]at r
have d:∀b,(lvP X.s.q.P b X.s.q.V).length<=X.s.q.P:=λb=>qCN
have z:=w.qs.ok.p2
cases r with
|@ok y b g' s' ms htk e md lm dk w' rm'=>have:=d b;refine⟨?_,mH⟩;show(_++[_]).length<=_;rw[mH,md.rc,gK];lia)
theorem Mvd.kp{s s':XS}{b n:Nat}(h:Mvd k s b s' n):Kp s s':=⟨h.eB,h.eP,h.nm,h.lV⟩
theorem qA7{r:Except Rf Pa}(w:WX k X.s)(ok:X.g.Ok)(h:X.room k=(Y,r)):WX k Y.s/\Y.g.Ok/\Kp X.s Y.s/\Y.s.rc.length<=X.s.rc.length+17/\Y.ps.length<=X.ps.length+1:=by(
have D:=qBK w ok
rw[h]at D
have z:∀b,(lvP X.s.q.P b X.s.q.V).length<=X.s.q.P:=λb=>qCN
have I:=w.qs.ok.p2
cases D with
|no d=>exact⟨w,ok,Kp.refl,by lia,by lia⟩
|@dark y b g' s' n d md hn dk=>have:=z b;refine⟨md.w,qGY ok d,md.kp,?_,dG _⟩;show s'.rc.length<=_;rw[md.rc];lia
|@ok y b g' s' ms d e md lm dk w' rm'=>
 have:=z b;refine⟨w',qGY ok d,md.kp.trans ⟨rfl,rfl,λU=>bZ,rfl⟩,?_,?_⟩
 .show(_++[_]).length<=_;rw[mH,md.rc,gK];lia
 show(_++[_]).length<=_;rw[mH];exact kO _)
set_option tactic.hygienic true in
theorem zP:∀{i:Nat} {X Y:Sx} {r:Except Rf Unit},WX k X.s->X.g.Ok->X.rooms k i=some (Y,r)->WX k Y.s/\Y.g.Ok/\Kp X.s Y.s/\Y.s.rc.length<=X.s.rc.length+17*i/\Y.ps.length<=X.ps.length+i/\(r=.ok ()->Y.s.rd k=true)
|0,X,Y,r,w,ok,h=>by
 unfold Sx.rooms at h;split at h
 .rename_i z;cases h;exact⟨w,ok,Kp.refl,kO _,kO _,λd=>z⟩
 cases h
|i+1,X,Y,r,w,ok,h=>by
 unfold Sx.rooms at h;split at h
 .rename_i z;cases h;exact⟨w,ok,Kp.refl,nH _ _,nH _ _,λd=>z⟩
 cases e:X.room k with
 |mk W o=>
  rw[e]at h;obtain⟨a1,a2,a3,a4,a5⟩:=qA7 w ok e;cases o with
  |error x=>cases h;exact⟨a1,a2,a3,by lia,by lia,λz=>by cases z⟩
  |ok p=>obtain⟨b1,b2,b3,b4,b5,b6⟩:=zP a1 a2 h;exact⟨b1,b2,a3.trans b3,by lia,by lia,b6⟩
noncomputable def gvn(ns ss:List Int):List Int:=ns.filter λn=>decide (n∈ss)
noncomputable def rst(ns g:List Int):List Int:=ns.filter λn=>!decide (n∈g)
noncomputable def XS.forgs(s:XS)(g:List Int):XS:=g.foldl XS.forg s
theorem qCO{s:XS}{g:List Int}{i:Nat}{n:Int}(h:g[i]?=some n):s.forgs (g.take (i+1))=(s.forgs (g.take i)).forg n:=by(
have d:=(kC.mp h).1
obtain rfl:g[i]=n:=(kC.mp h).2
unfold XS.forgs
rw[<-mQ d,sX]
rfl)
end
noncomputable def Hv(s:XS)(n v:Int):Prop:=∃p mk,(n,p)∈s.q.V/\s.pg p.toNat=some (mk,v)
noncomputable def putR(m:List Int):Str×Int×Bool:=(Str.ofString "put",m.getD 2 0,true)
section
variable{k:Tm}{s s':XS}{n m v u:Int}{b:Nat}
theorem Hv.put(w:WX k s)(hr:0<s.rmX)(ne:m≠n)(h:Hv s m u):Hv (s.put n v) m u:=by(
obtain⟨p,U,D,e⟩:=h
obtain⟨c,g,x,a1,J,d,I,a5⟩:=w.vl _ D
obtain⟨Z,O,S,_⟩:=w.spot hr
have d:p=_:=d
refine⟨p,U,jJ.mpr (.inr ⟨D,ne⟩),?_⟩
show(if p.toNat=s.np then _ else s.pg p.toNat)=_
rw[kI]
.exact e
rw[d,mB]
intro z
obtain⟨N,e2⟩:=q7Q J O z
rw[N,S]at I
lia)
theorem Hv.new:Hv (s.put n v) n v:=⟨(s.np:Int),_,jJ.mpr (.inl rfl),by
 show(if((s.np:Nat):Int).toNat=s.np then _ else _)=_;rw[mB,kM rfl]⟩
theorem Hv.wip(w:WX k s)(nl:∀y∈s.q.V,¬y.2 / (s.q.P:Int)=(b:Int))(h:Hv s m u):Hv (s.wip b) m u:=by(
obtain⟨p,J,D,e⟩:=h
obtain⟨c,g,x,O,I,d,N,S⟩:=w.vl _ D
have d:p=_:=d
refine⟨p,J,D,?_⟩
show(if p.toNat / s.q.P=b then none else s.pg p.toNat)=_
rw[kI]
.exact e
have:=nl _ D
rw[d,mB,yC I]
rw[show((m,p).2:Int)=p from rfl,d,<-dE,yC I]at this
intro z
exact this (by rw[z]))
theorem Hv.forg(ne:m≠n)(h:Hv s m u):Hv (s.forg n) m u:=by obtain⟨p,z,d,e⟩:=h;exact⟨p,z,j0.mpr ⟨d,ne⟩,e⟩
theorem Hv.val(w:WX k s){p:Int}(hp:(n,p)∈s.q.V)(n6:n≠64)(h:Hv s n u):s.val p n=u:=by(
obtain⟨D,z,d,e⟩:=h
rw[qGT w.qs.ok.nd hp d]
unfold XS.val
rw[kI n6,e]
rfl)
theorem qA8(w:WX k s){c:Nat}(hc:c<s.q.B):s.lst<=s.cl.getD c 0:=by(
have d:c<s.cl.length:=by rw[w.lc];exact hc
obtain⟨m,e,h1,h2⟩:=qA5 (l:=s.cl) (λz=>by rw[z]at d;cases d)
unfold XS.lst
rw[e,kL,kF d]
exact h2 _ (gL _))
theorem qH0(w:WX k s)(hb:0<s.q.B):∃c,c<s.q.B/\s.cl.getD c 0=s.lst:=by(
have d:0<s.cl.length:=by rw[w.lc];exact hb
obtain⟨m,e,h1,h2⟩:=qA5 (l:=s.cl) (λz=>by rw[z]at d;cases d)
obtain⟨c,D,I⟩:=rM h1
refine⟨c,by rw[<-w.lc];exact D,?_⟩
unfold XS.lst
rw[e,kL,kF D,I])
theorem qH1(w:WX k s)(hr:0<s.rmX)(z:s.q.fi.getD s.pb 0=0){c:Nat}(hc:c<s.q.B)(fc:s.q.fi.getD c 0=0):s.cl.getD s.pb 0<=s.cl.getD c 0:=by(
have e:s.pb=spF s.q s.cl:=rfl
unfold spF at e
cases q:(List.range s.q.B).find? (jZ s.q.P s.q.fi)with
|some d=>rw[q]at e;have h2:=g9 q;unfold jZ at h2;rw[mU,mC]at h2;rw[show s.pb=d from e]at z;lia
|none=>
 rw[q]at e;have I:((List.range s.q.B).filter λb=>decide (s.q.fi.getD b 0=0)).Pairwise (· < ·):=gZ _ dP;have D:c∈(List.range s.q.B).filter λb=>decide (s.q.fi.getD b 0=0):=mK.mpr ⟨mO.mpr hc,hC fc⟩;obtain⟨h1,h2⟩:=q3C (cl:=s.cl) I;cases y:minF s.cl ((List.range s.q.B).filter λb=>decide (s.q.fi.getD b 0=0))with
 |none=>rw[h1 y]at D;cases D
 |some d=>
  rw[y]at e;have e:s.pb=d:=e;have:=(h2 d y).2 c D;rw[e];unfold keyN lx at this;by_cases x:s.cl.getD c 0=s.cl.getD d 0
  .lia
  rw[kI x]at this;have:=rR this;lia)
structure Ix(k:Tm)(s:XS):Prop where
w:WX k s
sh:s.q.V.length<(s.q.B-(1+k.ie))*s.q.P
s1:1<=k.sp
gp:k.ev=true->∀b c,b<s.q.B->c<s.q.B->s.cl.getD b 0<=s.cl.getD c 0+k.sp
e2:k.ev=true->∀d c,d<s.q.B->c<s.q.B->s.q.fi.getD d 0≠0->s.q.fi.getD c 0=0->s.cl.getD d 0<s.cl.getD c 0+k.sp
noncomputable def Wt(k:Tm)(s:XS):Prop:=s.rmX<(1+k.ie)*s.q.P->∃b,b<s.q.B/\s.q.fi.getD b 0=(s.q.P:Int)/\s.q.lv.getD b 0<(s.q.P:Int)/\s.q.lv.getD b 0+((1+k.ie)*s.q.P:Nat)<=(s.rmX:Int)+(s.q.P:Int)/\(k.ev=true->s.cl.getD b 0<s.lst+k.sp)
theorem Ix.put(x:Ix k s)(hr:k.ie*s.q.P<s.rmX)(w':WX k (s.put n v))(hs:(s.put n v).q.V.length<(s.q.B-(1+k.ie))*s.q.P):Ix k (s.put n v):=by(
obtain⟨Z,hf,ef,_⟩:=x.w.spot (by lia)
have s1:=x.s1
have N:∀c,(s.put n v).q.fi.getD c 0=if s.pb=c then(s.pf:Int)+1 else s.q.fi.getD c 0:=qA6 x.w.qs.ok.lf Z ef
refine⟨w',hs,x.s1,x.gp,λO d c J I fd D=>?_⟩
rw[N]at fd D
have I:c<s.q.B:=I
have J:d<s.q.B:=J
show s.cl.getD d 0<s.cl.getD c 0+k.sp
by_cases S:s.pb=c
.rw[kM S]at D;lia
rw[kI S]at D
by_cases U:s.pb=d
.subst U;by_cases z:s.q.fi.getD s.pb 0=0
 .have:=qH1 x.w (by lia) z I D;lia
 exact x.e2 O _ _ J I z D
rw[kI U]at fd
exact x.e2 O _ _ J I fd D)
theorem Ix.wip(x:Ix k s)(hb:b<s.q.B)(w':WX k (s.wip b))(cb:k.ev=true->s.cl.getD b 0<s.lst+k.sp):Ix k (s.wip b):=by(
have Z:=x.w.lc
have I:∀c,(s.wip b).cl.getD c 0=if b=c then s.cl.getD b 0+1 else s.cl.getD c 0:=λc=>by
 show(s.cl.set b (s.cl.getD b 0+1)).getD c 0=_;rw[jB,Z];by_cases e:b=c
 .rw[kM ⟨e,hb⟩,kM e]
 rw[kI (λz=>e z.1),kI e]
have N:∀c,(s.wip b).q.fi.getD c 0=if b=c then 0 else s.q.fi.getD c 0:=λc=>by
 show(s.q.fi.set b 0).getD c 0=_;rw[jB,x.w.qs.ok.lf];by_cases e:b=c
 .rw[kM ⟨e,hb⟩,kM e]
 rw[kI (λz=>e z.1),kI e]
refine⟨w',x.sh,x.s1,λev c d J D=>?_,λev d c D J fd O=>?_⟩
.have J:c<s.q.B:=J;have D:d<s.q.B:=D;rw[I,I];have:=cb ev;have:=x.gp ev c d J D;have:=x.gp ev c b J hb;have:=qA8 x.w D;have:=x.s1;split<;>split<;>lia
have J:c<s.q.B:=J
have D:d<s.q.B:=D
rw[N]at fd O
rw[I,I]
by_cases U:b=d
.rw[kM U]at fd;exact absurd rfl fd
rw[kI U]at fd ⊢
by_cases S:b=c
.rw[kM S];have:=x.gp ev d b D hb;lia
rw[kI S]at O ⊢
exact x.e2 ev d c D J fd O)
end
section
variable{k:Tm}{X Y:Sx}
structure RmX(k:Tm)(X Y:Sx):Prop where
x:Ix k Y.s
wt:Wt k Y.s
ok:Y.g.Ok
kp:Kp X.s Y.s
hv:∀m u,m≠64->Hv X.s m u->Hv Y.s m u
theorem qDR{r:Except Rf Pa}(x:Ix k X.s)(wt:Wt k X.s)(ok:X.g.Ok)(h:X.room k=(Y,r)):RmX k X Y/\(match r with
 | .ok p=>Y.ps=X.ps++[p]/\Y.s.rc=X.s.rc++p.mv.map putR++[(Str.ofString "wipe",(p.b:Int),true)]/\(1+k.ie)*X.s.q.P<=Y.s.rmX/\Y.s.rmX+p.mv.length=X.s.rmX+X.s.q.P/\(∃g',X.s.tk k X.g=some (p.why,p.b,g'))/\p.mv.length=(lvP X.s.q.P p.b X.s.q.V).length/\p.ts=X.s.ots k/\(∃s',XS.mvs (lvP X.s.q.P p.b X.s.q.V) X.s=(s',some p.mv)/\Y.s=s'.wip p.b/\Mvd k X.s p.b s' p.mv.length)
 | .error .dark=>Y.s.lf=some 0/\Y.ps=X.ps/\∃ms,Y.s.rc=X.s.rc++List.map putR ms
 | .error .room=>Y=X/\X.s.tk k X.g=none):=by(
unfold Sx.room at h
cases htk:X.s.tk k X.g with
|none=>rw[htk]at h;cases h;exact⟨⟨x,wt,ok,Kp.refl,λF F F z=>z⟩,rfl,rfl⟩
|some ah=>
 obtain⟨y,b,g'⟩:=ah;rw[htk]at h;dsimp only at h;have f:=q3E ok htk;have J:=qGY ok htk;have spc:=f.l;have aw:=q4Y x.w.qs x.w.pd f.b;have sl:=x.w.sl;have clb:k.ev=true->X.s.cl.getD b 0<X.s.lst+k.sp:=λev=>by
  rcases q2H ok htk with⟨_,h1,_⟩|⟨_,_,_,_,_,h1,_⟩
  .exact(vT.mp h1).2 ev
  unfold XS.clb at h1;exact mI (mK.mp h1).2
 obtain⟨s',n,ms,d,lm,⟨S,U,I⟩,hh⟩:=q6T (λs' ms=>Ix k s'/\(∀m u,m≠64->Hv X.s m u->Hv s' m u)/\s'.rc=X.s.rc++ms.map putR) x.w f ⟨x,λF F F z=>z,by simp⟩ (λs' ms n p w' kp ec fb N an hr O ⟨S,U,I⟩=>by
  have nb:=w'.qs.ok.nm _ N;obtain⟨w2,_⟩:=w'.put (v:=s'.val p n) hr nb.1 nb.2 (.inl ⟨p,N⟩) O;refine⟨S.put hr w2 ?_,λm u m6 hm=>?_,?_⟩
  .show(jE s'.q.V n++[_]).length< _;rw[mH,gK,(q15 (V:=s'.q.V) (n:=n) w'.qs.ok.nd).2 p N];exact S.sh
  .have:=U m u m6 hm;by_cases e:m=n
   .subst e;have z:=Hv.new (s:=s') (n:=m) (v:=s'.val p m);rw[this.val w' N m6]at z ⊢;exact z
   exact this.put w' (by lia) e
  show s'.rc++[_]=_;rw[I,gA,pC];rfl)
 have kp:Kp X.s s':=⟨d.eB,d.eP,d.nm,d.lV⟩;have as:=d.rm;have au:=d.lb f.b;have ec:=d.ec;have Z:Wt k s':=λD=>by
  rw[d.eP]at D;refine⟨b,by rw[d.eB];exact f.b,by rw[d.eP];exact d.fb,?_,?_,λev=>?_⟩
  .rw[d.eP];by_cases n0:n=0
   .have:X.s.rmX<(1+k.ie)*X.s.q.P:=by lia
    have lt:X.s.q.lv.getD b 0<(X.s.q.P:Int):=by
     rcases q2H ok htk with⟨_,h1,_⟩|⟨_,_,e0,_⟩
     .exact(vT.mp h1).1.2
     exfalso;obtain⟨c,c1,c2,c3,c4,c5⟩:=wt this;have:c∈X.s.opt k:=vT.mpr ⟨⟨⟨c1,c2,by unfold XS.spc;rw[kI (by lia)];rw[rO,rP]at c4;lia⟩,c3⟩,c5⟩;rw[e0]at this;cases this
    lia
   have:=qCN (P:=X.s.q.P) (b:=b) (V:=X.s.q.V);lia
  .rw[d.eP];unfold XS.spc at spc;rw[rO,rP]at *;split at spc<;>lia
  have e1:s'.lst=X.s.lst:=by unfold XS.lst;rw[ec]
  rw[ec,e1];exact clb ev
 rcases hh with⟨e,hn,O⟩|⟨e,hn,nl⟩
 .rw[e]at h;cases h;exact⟨⟨S,Z,J,kp,U⟩,O,rfl,ms,I⟩
 rw[e]at h;dsimp only at h;by_cases O:s'.lf=some 0
 .rw[kM O]at h;cases h;exact⟨⟨S,Z,J,kp,U⟩,O,rfl,ms,I⟩
 rw[kI O]at h;cases h;obtain⟨w2,aa⟩:=d.w.wip (b:=b) (by rw[d.eB];exact f.b) (by rw[d.eP];exact d.fb) nl O;have e1:s'.lst=X.s.lst:=by unfold XS.lst;rw[ec]
 have ge:(1+k.ie)*X.s.q.P<=(s'.wip b).rmX:=by rw[aa,d.eP];unfold XS.spc at spc;rw[rO,rP]at *;split at spc<;>lia
 refine⟨⟨S.wip (by rw[d.eB];exact f.b) w2 (λev=>by rw[ec,e1];exact clb ev),λD=>?_,J,kp.trans ⟨rfl,rfl,λF=>bZ,rfl⟩,λm u m6 hm=>(U m u m6 hm).wip d.w nl⟩,rfl,?_,ge,?_,⟨g',rfl⟩,by rw[lm,hn],rfl,s',e,rfl,by rw[lm];exact d⟩
 .have D:(s'.wip b).rmX<(1+k.ie)*s'.q.P:=D;rw[d.eP]at D;lia
 .show s'.rc++[_]=_;rw[I]
 show(s'.wip b).rmX+ms.length=_;rw[aa,d.eP,lm];lia)
end
section
variable{k:Tm}{s:XS}
theorem q5H(w:WX k s)(hr:s.rmX=(1+k.ie)*s.q.P):(∀b,b<s.q.B->s.q.fi.getD b 0=0\/s.q.fi.getD b 0=(s.q.P:Int))/\((List.range s.q.B).filter λb=>decide (s.q.fi.getD b 0=(s.q.P:Int))).length=s.q.B-(1+k.ie):=by(
have z:=w.qs.ok.p1
obtain⟨l,hl⟩:=FreeIs.ex s.q.B (noB s.q.B) s.cl s.q.fi
have I:jR s.q.B s.q.P (noB s.q.B) s.q.fi=none/\l.length=1+k.ie:=by
 rcases q2G w.on w.qs.ok.wr z hl with⟨h1,h2⟩|⟨b,e,h1,e1,e2,h2,_⟩
 .refine⟨h1,?_⟩;unfold XS.rmX at hr;rw[hr]at h2;exact(sO (by lia) h2).symm
 exfalso;unfold XS.rmX at hr;rw[hr]at h2;have k:(1+k.ie)*s.q.P%s.q.P=e:=by rw[h2,dN,cS,cL e2]
 rw[aN]at k;lia
have D:=qBJ w.on w.qs.ok.wr z hl I.1
unfold jX at D
rw[yA]at D
refine⟨λb d=>?_,by lia⟩
have np:=I.1
unfold jR at np
rw[yA]at np
have:=rC.mp np b (mO.mpr d)
obtain⟨f,N,J⟩:=w.qs.ok.wr b d
unfold jZ at this
rw[mU,mC,mC]at this
lia)
theorem zQ(x:Ix k s)(hr:s.rmX=(1+k.ie)*s.q.P):s.ded k≠[]:=by(
obtain⟨l,hl⟩:=FreeIs.ex s.q.B (noB s.q.B) s.cl s.q.fi
have m:CM:=⟨0,0,0,[],[],s.cl,[],noB s.q.B,none,[]⟩
have:=(qGS (m:=⟨0,0,0,[],[],s.cl,[],noB s.q.B,none,[]⟩) (ie:=k.ie) x.w.qs x.w.on rfl hl hr x.sh).1
rw[qGV x.w rfl hl]at this
exact this)
theorem qH2(wt:Wt k s)(hr:s.rmX<(1+k.ie)*s.q.P):s.opt k≠[]:=λz=>by(
obtain⟨b,b1,b2,b3,b4,b5⟩:=wt hr
have:b∈s.opt k:=vT.mpr ⟨⟨⟨b1,b2,by unfold XS.spc;rw[kI (by lia)];rw[rO,rP]at b4;lia⟩,b3⟩,b5⟩
rw[z]at this
cases this)
theorem q9O(x:Ix k s)(hr:s.rmX=(1+k.ie)*s.q.P)(ev:k.ev=true)(e0:s.opt k=[]):(∀c,c<s.q.B->s.q.fi.getD c 0=0->s.lst<s.cl.getD c 0)/\∃b,s.chg k=some b/\b<s.q.B/\s.q.fi.getD b 0=(s.q.P:Int)/\s.cl.getD b 0=s.lst/\s.q.lv.getD b 0=(s.q.P:Int):=by(
have s1:=x.s1
have p1:=x.w.qs.ok.p1
have O:∀d,Full k s d->s.q.lv.getD d 0<(s.q.P:Int)->s.lst+k.sp<=s.cl.getD d 0:=λd fd U=>by refine Int.not_lt.mp λz=>?_;have:d∈s.opt k:=vT.mpr ⟨⟨fd,U⟩,λF=>z⟩;rw[e0]at this;cases this
have fr:∀c,c<s.q.B->s.q.fi.getD c 0=0->s.lst<s.cl.getD c 0:=λc J S=>by obtain⟨d,Z⟩:=r9 _ (zQ x hr);obtain⟨fd,U⟩:=q3D.mp Z;have h1:=O d fd U;have h2:=x.e2 ev d c fd.b J (by rw[fd.f];lia) S;lia
refine⟨fr,?_⟩
obtain⟨rp,_⟩:=q5H x.w hr
have hB:0<s.q.B:=by obtain⟨d,Z⟩:=r9 _ (zQ x hr);have:=(q3D.mp Z).1.b;lia
obtain⟨c,J,ec⟩:=qH0 x.w hB
have S:s.q.fi.getD c 0=(s.q.P:Int):=by
 rcases rp c J with z|z
 .have:=fr c J z;lia
 exact z
have spc:s.spc k=(s.q.P:Int):=by unfold XS.spc;rw[kM (by lia)]
have D:c∈s.clb k (s.ful k):=by unfold XS.clb;exact mK.mpr ⟨q6S.mpr ⟨J,S,by rw[spc];exact(qGW x.w J).2⟩,hC (by lia)⟩
have pw:(s.clb k (s.ful k)).Pairwise (· < ·):=by unfold XS.clb XS.ful;exact gZ _ (gZ _ dP)
obtain⟨h1,h2⟩:=q3C (cl:=s.cl) pw
cases z:s.chg k with
|none=>rw[h1 z]at D;cases D
|some b=>
 obtain⟨m1,m2⟩:=h2 b z;have N:=m1;unfold XS.clb at N;obtain⟨I,_⟩:=mK.mp N;have I:=q6S.mp I;have:=m2 c D;have le:s.cl.getD b 0<=s.cl.getD c 0:=by
  unfold keyN lx at this;by_cases q:s.cl.getD c 0=s.cl.getD b 0
  .lia
  rw[kI q]at this;have:=rR this;lia
 have cb:s.cl.getD b 0=s.lst:=by have:=qA8 x.w I.b;lia
 refine⟨b,rfl,I.b,I.f,cb,?_⟩;have:=qGW x.w I.b;have:¬s.q.lv.getD b 0<(s.q.P:Int):=λy=>by have:=O b I y;lia
 lia)
noncomputable def nlc(s:XS):Nat:=((List.range s.q.B).filter λb=>decide (s.q.fi.getD b 0=(s.q.P:Int))&&decide (s.cl.getD b 0=s.lst)).length
noncomputable def need(k:Tm)(s:XS):Nat:=if s.rd k=true then 0 else if s.rmX<(1+k.ie)*s.q.P then 1+(if k.ev=true then s.q.B-(1+k.ie)else 1)else if s.opt k≠[]then 1 else nlc s+1
theorem qCP{α:Type}{p p':α->Bool}:∀{l:List α},(∀x∈l,p' x=true->p x=true)->(∃x∈l,p x=true/\p' x=false)->(l.filter p').length<(l.filter p).length
| [],_,h=>by obtain⟨x,hx,_⟩:=h;cases hx
|a::l,h,g=>by
 have le:(l.filter p').length<=(l.filter p).length:=by
  have:(l.filter p').length<=(l.filter p).length:=by rw[<-wV,<-wV];exact pH λx hx=>h x (hU _ hx)
  exact this
 rw[gF,gF];obtain⟨x,hx,h1,h2⟩:=g;rcases kN.mp hx with e|hx
 .subst e;rw[kM h1,kI (by rw[h2];decide),mM];lia
 have ih:=qCP (λy hy=>h y (hU _ hy)) ⟨x,hx,h1,h2⟩;by_cases z:p' a=true
 .rw[kM z,kM (h a (by simp) z),mM,mM];lia
 rw[kI z];split
 .rw[mM];lia
 exact ih
theorem qLH(x:Ix k s)(hr:s.rmX=(1+k.ie)*s.q.P)(ev:k.ev=true)(e0:s.opt k=[]):nlc s+1<=s.q.B-(1+k.ie):=by(
obtain⟨_,N⟩:=q5H x.w hr
rw[<-N]
obtain⟨d,J⟩:=r9 _ (zQ x hr)
obtain⟨fd,I⟩:=q3D.mp J
refine qCP (λy U D=>?_) ⟨d,mO.mpr fd.b,hC fd.f,?_⟩
.rw[mU]at D;exact D.1
have:¬s.cl.getD d 0<s.lst+k.sp:=λz=>by have:d∈s.opt k:=vT.mpr ⟨⟨fd,I⟩,λU=>z⟩;rw[e0]at this;cases this
have O:=x.s1
rw[hX (show ¬s.cl.getD d 0=s.lst by lia),Bool.and_false])
set_option tactic.hygienic true in
theorem qDS(x:Ix k s)(hr:(1+k.ie)*s.q.P<=s.rmX):need k s<=if k.ev=true then s.q.B-(1+k.ie)else 1:=by(
have D:1<=s.q.B-(1+k.ie):=by have:=x.sh;refine Nat.pos_of_ne_zero λz=>?_;rw[z,Nat.zero_mul]at this;cases this
unfold need
split
.exact m7 _
rename_i d
have e:s.rmX=(1+k.ie)*s.q.P:=by unfold XS.rd at d;have:=rR (x8.mpr d);lia
rw[kI (by lia)]
split
.split<;>lia
rename_i z
have z:s.opt k=[]:=dZ z
cases ev:k.ev with
|true=>rw[kM rfl];exact qLH x e ev z
|false=>exfalso;have:=zQ x e;unfold XS.opt at z;rw[ev]at z;exact this z)
end
section
variable{k:Tm}{X Y:Sx}
theorem qIR(x:Ix k X.s)(wt:Wt k X.s)(nr:X.s.rd k=false):∃ybg,X.s.tk k X.g=some ybg:=by(
unfold XS.tk
by_cases z:X.s.opt k=[]
.rw[kM z];have d:=rR nr;have e:X.s.rmX=(1+k.ie)*X.s.q.P:=by have:¬X.s.rmX<(1+k.ie)*X.s.q.P:=λy=>qH2 wt y z;lia
 cases ev:k.ev with
 |true=>obtain⟨_,b,D,_⟩:=q9O x e ev z;rw[kM rfl,D];exact⟨_,rfl⟩
 |false=>exfalso;have:=zQ x e;unfold XS.opt at z;rw[ev]at z;exact this z
rw[kI z]
exact⟨_,rfl⟩)
set_option tactic.hygienic true in
theorem qIS{p:Pa}(x:Ix k X.s)(wt:Wt k X.s)(ok:X.g.Ok)(nr:X.s.rd k=false)(h:X.room k=(Y,.ok p)):need k Y.s<need k X.s:=by(
obtain⟨rx,hp,_,ge,ar,⟨g',Z⟩,lm,_,s',emv,eY,md⟩:=qDR x wt ok h
have S:=rx.kp.eP
have O:=rx.kp.eB
have fb:=q3E ok Z
have ay:=q4Y x.w.qs x.w.pd fb.b
have aq:=rR nr
have ab:(1+k.ie)*Y.s.q.P<=Y.s.rmX:=by rw[S];exact ge
have nl:=qDS rx.x ab
rw[O]at nl
have p1:=x.w.qs.ok.p1
have eX:need k X.s=if X.s.rmX<(1+k.ie)*X.s.q.P then 1+(if k.ev=true then X.s.q.B-(1+k.ie)else 1)else if X.s.opt k≠[]then 1 else nlc X.s+1:=by rw[need,nr,kI (by decide)]
rw[eX]
by_cases lk:X.s.rmX<(1+k.ie)*X.s.q.P
.rw[kM lk];lia
rw[kI lk]
have eR:X.s.rmX=(1+k.ie)*X.s.q.P:=by lia
rcases q2H ok Z with⟨_,h1,_⟩|⟨_,ev,e0,_,D,h1,_⟩
.have ne:X.s.opt k≠[]:=λz=>by rw[z]at h1;cases h1
 rw[kM ne];have lt:=(vT.mp h1).1.2;have:Y.s.rd k=true:=hC (by rw[S];lia);rw[need,kM this];decide
rw[kI (λz=>z e0)]
obtain⟨fr,b,hb,N,b2,b3,b4⟩:=q9O x eR ev e0
rw[D]at hb
obtain rfl:=kQ hb
have rY:Y.s.rmX=(1+k.ie)*Y.s.q.P:=by rw[S];lia
have ad:¬Y.s.rd k=true:=λz=>by have:=mI z;lia
rw[need,kI ad,kI (by lia)]
have bin:p.b∈(List.range X.s.q.B).filter λb=>decide (X.s.q.fi.getD b 0=(X.s.q.P:Int))&&decide (X.s.cl.getD b 0=X.s.lst):=mK.mpr ⟨mO.mpr N,by rw[hC b2,hC b3];rfl⟩
have n1:1<=nlc X.s:=nZ bin
split
.lia
rename_i z
have z:Y.s.opt k=[]:=dZ z
have J:∀c,Y.s.cl.getD c 0=if p.b=c then X.s.cl.getD p.b 0+1 else X.s.cl.getD c 0:=λc=>by
 rw[eY];show(s'.cl.set p.b (s'.cl.getD p.b 0+1)).getD c 0=_;rw[md.ec,jB,x.w.lc];by_cases e:p.b=c
 .rw[kM ⟨e,N⟩,kM e]
 rw[kI (λz=>e z.1),kI e]
have I:∀c,Y.s.q.fi.getD c 0=if p.b=c then 0 else s'.q.fi.getD c 0:=λc=>by
 rw[eY];show(s'.q.fi.set p.b 0).getD c 0=_;rw[jB,md.w.qs.ok.lf,md.eB];by_cases e:p.b=c
 .rw[kM ⟨e,N⟩,kM e]
 rw[kI (λz=>e z.1),kI e]
have ac:X.s.lst<=Y.s.lst:=by obtain⟨c,D,ec⟩:=qH0 rx.x.w (by rw[O];lia);rw[O]at D;rw[<-ec,J];have:=qA8 x.w D;have:=qA8 x.w N;split<;>lia
have ae:Y.s.lst=X.s.lst:=by
 refine Int.le_antisymm (Int.not_lt.mp λy=>?_) ac;obtain⟨d,hd⟩:=r9 _ (zQ rx.x rY);obtain⟨fd,ld⟩:=q3D.mp hd;have nc:¬Y.s.cl.getD d 0<Y.s.lst+k.sp:=λy=>by have:d∈Y.s.opt k:=vT.mpr ⟨⟨fd,ld⟩,λF=>y⟩;rw[z]at this;cases this
 have ne:p.b≠d:=λy=>by have:=fd.f;rw[I,kM y,S]at this;lia
 rw[J,kI ne]at nc;have U:=fd.b;rw[O]at U;have:=x.gp ev d p.b U N;lia
refine Nat.succ_lt_succ ?_
unfold nlc
rw[O,S,ae]
refine qCP (λc D y=>?_) ⟨p.b,mO.mpr N,by rw[hC b2,hC b3];rfl,?_⟩
.have D:=mO.mp D;rw[mU,mC,mC]at y ⊢;obtain⟨y1,y2⟩:=y;have ne:p.b≠c:=λw=>by rw[I,kM w]at y1;lia
 rw[J,kI ne]at y2;refine⟨?_,y2⟩;rcases(q5H x.w eR).1 c D with q|q
 .have:=fr c D q;lia
 exact q
rw[I,kM rfl,hX (by lia)]
rfl)
noncomputable def dOf(p:Pa):List (Str×Int×Bool):=p.mv.map putR++[(Str.ofString "wipe",(p.b:Int),true)]
structure Rms(k:Tm)(X Y:Sx)(qs:List Pa):Prop extends RmX k X Y where
ps:Y.ps=X.ps++qs
ln:qs.length<=need k X.s
theorem q9P:∀{i:Nat} {X:Sx},Ix k X.s->Wt k X.s->X.g.Ok->need k X.s<=i->∃Y ps ms,Rms k X Y ps/\Y.s.rc=X.s.rc++ps.flatMap dOf++ms.map putR/\((X.rooms k i=some (Y,.ok ())/\Y.s.rd k=true/\ms=[])\/(X.rooms k i=some (Y,.error .dark)/\Y.s.lf=some 0))
|i,X,x,wt,ok,hi=>by
 cases rd:X.s.rd k with
 |true=>
  refine⟨X,[],[],⟨⟨x,wt,ok,Kp.refl,λd d d z=>z⟩,by simp,m7 _⟩,by simp,.inl ⟨?_,rd,rfl⟩⟩;cases i with
  |zero=>unfold Sx.rooms;rw[rd,kM rfl]
  |succ i=>unfold Sx.rooms;rw[rd,kM rfl]
 |false=>
  cases i with
  |zero=>
   exfalso;unfold need at hi;rw[rd,kI (by decide)]at hi;split at hi
   .lia
   split at hi<;>lia
  |succ i=>
   cases e:X.room k with
   |mk W o=>
    obtain⟨rx,hh⟩:=qDR x wt ok e;cases o with
    |error q=>
     cases q with
     |room=>obtain⟨_,h⟩:=hh;obtain⟨ybg,h'⟩:=qIR x wt rd;rw[h]at h';cases h'
     |dark=>obtain⟨dk,eps,ms,erc⟩:=hh;refine⟨W,[],ms,⟨rx,by rw[eps];simp,m7 _⟩,by rw[erc];simp,.inr ⟨?_,dk⟩⟩;unfold Sx.rooms;rw[rd,kI (by decide),e]
    |ok p=>
     have lt:=qIS x wt ok rd e;obtain⟨eps,erc,_⟩:=hh;obtain⟨Y,ps,ms,ry,hrc,hr⟩:=q9P (i:=i) rx.x rx.wt rx.ok (by lia);refine⟨Y,p::ps,ms,⟨⟨ry.x,ry.wt,ry.ok,rx.kp.trans ry.kp,λm u m6 z=>ry.hv m u m6 (rx.hv m u m6 z)⟩,?_,?_⟩,?_,?_⟩
     .rw[ry.ps,eps,pC];rfl
     .have:=ry.ln;rw[mM];lia
     .rw[hrc,erc,List.flatMap_cons];simp[dOf]
     have er:X.rooms k (i+1)=W.rooms k i:=by rw[Sx.rooms,rd,kI (by decide),e]
     rw[er];exact hr
end
structure AskO(k:Tm)(i:Nat)(X:Sx)(n v:Int)(Y:Sx)(qs:List Pa)(p:Nat):Prop where
rl:Y.s.rc.length<=X.s.rc.length+17*i+1
x:Ix k Y.s
ge:(1+k.ie)*Y.s.q.P<=Y.s.rmX
ok:Y.g.Ok
ps:Y.ps=X.ps++qs
ln:qs.length<=need k X.s
eB:Y.s.q.B=X.s.q.B
eP:Y.s.q.P=X.s.q.P
nm:∀m,(∃p,(m,p)∈Y.s.q.V)↔m=n\/∃p,(m,p)∈X.s.q.V
hv:∀m u,m≠64->m≠n->Hv X.s m u->Hv Y.s m u
hn:Hv Y.s n v
rc:Y.s.rc=X.s.rc++qs.flatMap dOf++[(Str.ofString "put",(p:Int),true)]
structure AskD(k:Tm)(i:Nat)(X:Sx)(Y:Sx)(qs:List Pa):Prop where
rl:Y.s.rc.length<=X.s.rc.length+17*i+1
x:Ix k Y.s
wt:Wt k Y.s
ok:Y.g.Ok
ps:Y.ps=X.ps++qs
ln:qs.length<=need k X.s
kp:Kp X.s Y.s
hv:∀m u,m≠64->Hv X.s m u->Hv Y.s m u
lf:Y.s.lf=some 0
rc:∃ms,Y.s.rc=X.s.rc++qs.flatMap dOf++List.map putR ms
section
variable{k:Tm}{X:Sx}{n v:Int}
theorem qIT{i:Nat}(x:Ix k X.s)(wt:Wt k X.s)(ok:X.g.Ok)(hi:need k X.s<=i)(n0:0<=n)(n1:n<=64)(hl:(∃p,(n,p)∈X.s.q.V)\/(X.s.q.V.length<59/\X.s.q.V.length+1<(X.s.q.B-(1+k.ie))*X.s.q.P)):(∃Y qs p,X.ask k i n v=some (Y,.ok p)/\AskO k i X n v Y qs p)\/∃Y qs,X.ask k i n v=some (Y,.error .dark)/\AskD k i X Y qs:=by(
obtain⟨Y,ps,ms,r,d,⟨I,rd,e0⟩|⟨I,D⟩⟩:=q9P x wt ok hi
.have rl:=(zP x.w ok I).2.2.2.1;have rd:=mI rd;unfold Sx.ask;rw[I];dsimp only;by_cases D:Y.s.lf=some 0
 .rw[kM D];exact .inr ⟨Y,ps,rfl,by lia,r.x,r.wt,r.ok,r.ps,r.ln,r.kp,r.hv,D,ms,d⟩
 rw[kI D];have N:=rd;rw[rO,rP]at N;have J:(∃p,(n,p)∈Y.s.q.V)\/Y.s.q.V.length<59:=by rw[r.kp.lV];exact hl.imp (λz=>(r.kp.nm n).mpr z) λz=>z.1
 obtain⟨w',U⟩:=r.x.w.put (n:=n) (v:=v) (by lia) n0 n1 J D;refine .inl ⟨_,ps,_,rfl,?_,r.x.put (by lia) w' ?_,?_,r.ok,r.ps,r.ln,r.kp.eB,r.kp.eP,λm=>?_,λm u Z O z=>(r.hv m u Z z).put r.x.w (by lia) O,Hv.new,?_⟩
 .show(Y.s.rc++[_]).length<=_;rw[mH,gK];lia
 .show(jE Y.s.q.V n++[_]).length< _;rw[mH,gK];obtain⟨d1,d2⟩:=q15 (V:=Y.s.q.V) (n:=n) r.x.w.qs.ok.nd;have lV:=r.kp.lV;rcases hl with z|⟨_,z⟩
  .obtain⟨p,S⟩:=(r.kp.nm n).mpr z;rw[d2 p S];exact r.x.sh
  rw[r.kp.eB,r.kp.eP];lia
 .show(1+k.ie)*Y.s.q.P<=(Y.s.put n v).rmX;lia
 .rw[<-r.kp.nm m];constructor
  .rintro⟨p,h⟩
   rcases jJ.mp h with e|⟨h,_⟩
   .cases e;exact .inl rfl
   exact .inr ⟨p,h⟩
  intro z;by_cases e:m=n
  .exact⟨_,jJ.mpr (.inl (by rw[e]))⟩
  rcases z with z|⟨p,h⟩
  .exact absurd z e
  exact⟨p,jJ.mpr (.inr ⟨h,e⟩)⟩
 show Y.s.rc++[_]=_;rw[d,e0];simp
have rl:=(zP x.w ok I).2.2.2.1
unfold Sx.ask
rw[I]
exact .inr ⟨Y,ps,rfl,by lia,r.x,r.wt,r.ok,r.ps,r.ln,r.kp,r.hv,D,ms,d⟩)
end
section
variable{k:Tm}{s:XS}
theorem WX.lf(w:WX k s){l:Option Int}(h:∀i,l=some i->0<=i):WX k { s with lf:=l }:={ w with l0:=h }
theorem Ix.forg(x:Ix k s)(n:Int):Ix k (s.forg n):=by(
refine⟨x.w.forg n,?_,x.s1,x.gp,x.e2⟩
have:=(q15 (V:=s.q.V) (n:=n) x.w.qs.ok.nd).1
have:=x.sh
show(jE s.q.V n).length< _
show _ <(s.q.B-(1+k.ie))*s.q.P
lia)
theorem qCQ(x:Ix k s):∀(g:List Int),Ix k (s.forgs g)/\(s.forgs g).rmX=s.rmX/\(s.forgs g).rc=s.rc/\(s.forgs g).cl=s.cl/\(s.forgs g).lf=s.lf/\(s.forgs g).q.B=s.q.B/\(s.forgs g).q.P=s.q.P/\(∀m,(∃p,(m,p)∈(s.forgs g).q.V)↔m∉g/\∃p,(m,p)∈s.q.V)/\∀m u,m∉g->Hv s m u->Hv (s.forgs g) m u:=by(
intro g
induction g generalizing s with
|nil=>exact⟨x,rfl,rfl,rfl,rfl,rfl,rfl,λm=>by simp[XS.forgs],λm u F h=>h⟩
|cons n g ih=>
 obtain⟨N,I,J,D,S,a6,Z,a8,O⟩:=ih (x.forg n);refine⟨N,I,J,D,S,a6,Z,λm=>?_,λm u d h=>?_⟩
 .show(∃p,(m,p)∈((s.forg n).forgs g).q.V)↔_;rw[a8];constructor
  .rintro⟨h1,p,hp⟩
   obtain⟨h2,U⟩:=j0.mp hp;exact⟨λz=>(kN.mp z).elim U h1,p,h2⟩
  rintro⟨h1,p,hp⟩
  exact⟨λz=>h1 (hU _ z),p,j0.mpr ⟨hp,λz=>h1 (by rw[show m=n from z];exact kU)⟩⟩
 exact O m u (λz=>d (hU _ z)) (h.forg λz=>d (by rw[z];exact kU)))
theorem Wt.of(h:(1+k.ie)*s.q.P<=s.rmX):Wt k s:=λz=>by lia
theorem q3U{n:Int}:n∈s.hl↔n≠64/\∃p,(n,p)∈s.q.V:=by(
unfold XS.hl
rw[cX,mK,mF]
constructor
.rintro⟨⟨y,h,e⟩,h2⟩
 refine⟨mI h2,y.2,?_⟩;rw[<-e];exact h
rintro⟨h1,p,hp⟩
exact⟨⟨_,hp,rfl⟩,hC h1⟩)
end
noncomputable def newX(B P:Nat):XS:=⟨⟨P,B,1,[],List.replicate B 0,List.replicate B 0,List.replicate B 0⟩,List.replicate B 0,λz=>none,none,[]⟩
theorem qIU{k:Tm}{B P:Nat}(b2:B<=16)(p1:1<=P)(p2:P<=16)(hk:1+k.ie<B)(s1:1<=k.sp):Ix k (newX B P)/\(1+k.ie)*P<=(newX B P).rmX:=by(
have z:∀n i:Nat,(List.replicate n (0:Int)).getD i 0=0:=λn i=>rep8
have D:(newX B P).rmX=B*P:=by
 unfold XS.rmX newX rm clr1;dsimp only;have:∀n,((List.range n).map λb=>P-((List.replicate B (0:Int)).getD b 0).toNat).sum=n*P:=λn=>by
  induction n with
  |zero=>simp
  |succ n S=>rw[pZ,gA,List.sum_append,S,pD,List.map_singleton,z];simp
 exact this B
have N:(1+k.ie)*P<=B*P:=dD _ (by lia)
have ok:(newX B P).q.Ok:=by refine⟨p1,p2,b2,gP,gP,gP,by simp[newX],λq I=>absurd (show q∈([]:Mp)from I) (by simp),λq I=>absurd (show q∈([]:Mp)from I) (by simp),λb J=>⟨0,z _ _,m7 _⟩⟩
refine⟨⟨⟨⟨ok,λb J=>?_⟩,λb c U U h1 U=>?_,gP,λU U U U U=>rfl,λy O=>absurd (show y∈([]:Mp)from O) (by simp),by simp[newX],λb=>?_,λb=>?_,gE _,?_,?_,λi e=>by cases e⟩,?_,s1,λU b c U U=>?_,λU d c U U h U=>absurd (z _ _) h⟩,?_⟩
.rw[show(newX B P).q.lv=List.replicate B 0 from rfl,z];rfl
.unfold jZ at h1;rw[show(newX B P).q.fi=List.replicate B 0 from rfl,z]at h1;simp at h1
.rw[show(newX B P).cl=List.replicate B 0 from rfl,z];exact⟨gE _,gE _⟩
.rw[show(newX B P).q.bo=List.replicate B 0 from rfl,z];exact⟨gE _,by show(0:Int)<1;decide⟩
.rw[D];show k.ie*P<=B*P;exact dD _ (by lia)
.show 0<60;decide
.show 0<(B-(1+k.ie))*P;exact Nat.mul_pos (by lia) p1
.rw[show(newX B P).cl=List.replicate B 0 from rfl,z,z];lia
rw[D]
exact N)
section
variable{k:Tm}{sh:Int}{sr:Nat}{X Y:Sx}{KD:Mp}{n v:Int}{i:Nat}{qs:List Pa}{p:Nat}
theorem qDT{s:XS}(x:Ix k s):need k s<=17:=by(
have d:=x.w.qs.ok.b2
by_cases z:(1+k.ie)*s.q.P<=s.rmX
.have:=qDS x z;split at this<;>lia
unfold need
split
.lia
rw[kM (by lia)]
split<;>lia)
end
theorem qIV{k:Tm}{X Y:Sx}{r:Except Rf Pa}(R:XS->Prop)(hp:∀s n v,R s->R (s.put n v))(hw:∀s b,R s->R (s.wip b))(w:WX k X.s)(ok:X.g.Ok)(h:X.room k=(Y,r))(c:R X.s):R Y.s:=by(
unfold Sx.room at h
cases htk:X.s.tk k X.g with
|none=>rw[htk]at h;cases h;exact c
|some z=>
 obtain⟨y,b,g'⟩:=z;rw[htk]at h;dsimp only at h;have f:=q3E ok htk;obtain⟨s',n,ms,N,J,d,D⟩:=q6T (λs' U=>R s') w f c (λs' ms n p U U U U U U U U I=>hp _ _ _ I);rcases D with⟨e,_⟩|⟨e,_⟩
 .rw[e]at h;cases h;exact d
 rw[e]at h;dsimp only at h;split at h
 .cases h;exact d
 cases h;exact hw _ _ d)
theorem qBL{k:Tm}(R:XS->Prop)(hp:∀s n v,R s->R (s.put n v))(hw:∀s b,R s->R (s.wip b)):∀{i:Nat} {X Y:Sx} {r:Except Rf Unit},WX k X.s->X.g.Ok->X.rooms k i=some (Y,r)->R X.s->R Y.s
|0,X,Y,r,w,ok,h,c=>by
 unfold Sx.rooms at h;split at h
 .cases h;exact c
 cases h
|i+1,X,Y,r,w,ok,h,c=>by
 unfold Sx.rooms at h;split at h
 .cases h;exact c
 cases hr:X.room k with
 |mk Z q=>
  rw[hr]at h;obtain⟨w2,ok2,_⟩:=qA7 w ok hr;have c2:=qIV R hp hw w ok hr c;cases q with
  |error e=>dsimp only at h;cases h;exact c2
  |ok p=>exact qBL R hp hw w2 ok2 h c2
theorem qLI{k:Tm}{X Y:Sx}{i:Nat}{n v:Int}{r:Except Rf Nat}(R:XS->Prop)(hp:∀s n v,R s->R (s.put n v))(hw:∀s b,R s->R (s.wip b))(w:WX k X.s)(ok:X.g.Ok)(h:X.ask k i n v=some (Y,r))(c:R X.s):R Y.s:=by(
unfold Sx.ask at h
cases hr:X.rooms k i with
|none=>rw[hr]at h;cases h
|some z=>
 obtain⟨Z,q⟩:=z;rw[hr]at h;have d:=qBL R hp hw w ok hr c;cases q with
 |error e=>dsimp only at h;cases h;exact d
 |ok u=>
  dsimp only at h;split at h
  .cases h;exact d
  cases h;exact hp _ _ _ d)
theorem qDU{k:Tm}{X Y:Sx}{i:Nat}{n v:Int}{r:Except Rf Nat}(w:WX k X.s)(ok:X.g.Ok)(h:X.ask k i n v=some (Y,r))(c:X.s.lf=none):Y.s.lf=none:=qLI (λs=>s.lf=none) (λs n v e=>by show s.lf.map _=none;rw[e];rfl) (λs b e=>by show s.lf.map _=none;rw[e];rfl) w ok h c
structure Pgs(s:XS):Prop where
wr:∀b f:Nat,b<s.q.B->f<s.q.P->(f:Int)<s.q.fi.getD b 0->∃v,s.pg (b*s.q.P+f)=some v
mr:∀i v,s.pg i=some v->128<=v.1/\v.1<s.q.nx*128/\v.1%128<=64
one:∀i j a b,s.pg i=some a->s.pg j=some b->a.1 / 128=b.1 / 128->i=j
nw:∀y∈s.q.V,∃v,s.pg y.2.toNat=some v/\v.1%128=y.1/\∀j w,s.pg j=some w->w.1%128=y.1->w.1<=v.1
rl:(∃i v,s.pg i=some v/\v.1%128=64)->∃p,((64:Int),p)∈s.q.V
bn:∀b,b<s.q.B->(s.q.fi.getD b 0=0->s.q.bo.getD b 0=0)/\(0<s.q.fi.getD b 0->∃v,s.pg (b*s.q.P)=some v/\s.q.bo.getD b 0=v.1 / 128)
section
variable{k:Tm}{s:XS}{n v:Int}{b:Nat}
set_option tactic.hygienic true in
theorem Pgs.put(h:Pgs s)(w:WX k s)(hr:0<s.rmX)(n0:0<=n)(n1:n<=64):Pgs (s.put n v):=by(
obtain⟨hb,hf,N,_⟩:=w.spot hr
have nx1:=w.nx
have Z:∀c,(s.put n v).q.fi.getD c 0=if s.pb=c then(s.pf:Int)+1 else s.q.fi.getD c 0:=qA6 w.qs.ok.lf hb N
have d:∀i,(s.put n v).pg i=if i=s.np then some (s.q.nx*128+n,v)else s.pg i:=λi=>rfl
have ac:s.pg s.np=none:=w.cr s.pb s.pf hb (by rw[N];exact gE _) hf
have S:∀{c f:Nat},f<s.q.P->c*s.q.P+f=s.np->c=s.pb/\f=s.pf:=λD e=>q7Q D hf e
have af:(s.put n v).q.nx=s.q.nx+1:=rfl
refine⟨λc f I D lt=>?_,λi u e=>?_,λi j a c ea J O=>?_,λy hy=>?_,λ⟨i,u,e,e6⟩=>?_,λc I=>?_⟩
.have I:c<s.q.B:=I;have D:f<s.q.P:=D;show ∃u,(s.put n v).pg (c*s.q.P+f)=some u;rw[d];split
 .exact⟨_,rfl⟩
 rename_i ne;rw[Z]at lt;refine h.wr c f I D ?_;split at lt
 .rename_i z;have:f≠s.pf:=λz2=>ne (by unfold XS.np;rw[z,z2]);rw[<-z,N];lia
 exact lt
.rw[d]at e;rw[af];split at e
 .cases e;show 128<=s.q.nx*128+n/\s.q.nx*128+n< _/\(s.q.nx*128+n)%128<=64;lia
 obtain⟨a1,a2,a3⟩:=h.mr i u e;exact⟨a1,by lia,a3⟩
.rw[d]at ea J;split at ea
 .rename_i zi;cases ea;split at J
  .rename_i zj;rw[zi,zj]
  obtain⟨_,a2,_⟩:=h.mr j c J;have O:(s.q.nx*128+n) / 128=c.1 / 128:=O;lia
 split at J
 .cases J;obtain⟨_,a2,_⟩:=h.mr i a ea;have O:a.1 / 128=(s.q.nx*128+n) / 128:=O;lia
 exact h.one i j a c ea J O
.rcases jJ.mp hy with e|⟨hy,ne⟩
 .subst e;refine⟨(s.q.nx*128+n,v),?_,?_,λj u e F=>?_⟩
  .rw[d,kM (by show((s.pb*s.q.P+s.pf:Nat):Int).toNat=s.np;rw[mB];rfl)]
  .show(s.q.nx*128+n)%128=n;lia
  rw[d]at e;split at e
  .cases e;exact gE _
  obtain⟨_,a2,_⟩:=h.mr j u e;show u.1<=s.q.nx*128+n;lia
 obtain⟨u,e1,e2,e3⟩:=h.nw y hy;refine⟨u,?_,e2,λj x e ex=>?_⟩
 .rw[d,kI λz=>by rw[z,ac]at e1;cases e1];exact e1
 rw[d]at e;split at e
 .cases e;have ex:(s.q.nx*128+n)%128=y.1:=ex;exact absurd (show y.1=n by lia) ne
 exact e3 j x e ex
.by_cases z:n=64
 .exact⟨_,jJ.mpr (.inl (by rw[z]))⟩
 rw[d]at e;split at e
 .cases e;have e6:(s.q.nx*128+n)%128=64:=e6;lia
 obtain⟨p,hp⟩:=h.rl ⟨i,u,e,e6⟩;exact⟨p,jJ.mpr (.inr ⟨hp,λy=>z y.symm⟩)⟩
have I:c<s.q.B:=I
have lo:=w.qs.ok.lo
have U:(s.put n v).q.bo=if s.q.fi.getD s.pb 0=0 then s.q.bo.set s.pb s.q.nx else s.q.bo:=rfl
rw[Z]
show(_->(s.put n v).q.bo.getD c 0=0)/\(_->∃u,(s.put n v).pg (c*s.q.P)=some u/\(s.put n v).q.bo.getD c 0=_)
obtain⟨b1,b2⟩:=h.bn c I
by_cases z:s.pb=c
.rw[kM z];refine⟨λe=>by lia,λF=>?_⟩;rw[d,U];by_cases y:s.q.fi.getD s.pb 0=0
 .have ae:s.pf=0:=by rw[N]at y;lia
  rw[kM (by unfold XS.np;rw[z,ae];rfl),kM y];refine⟨_,rfl,?_⟩;rw[jB,kM ⟨z,by rw[lo];exact hb⟩];show s.q.nx=(s.q.nx*128+n) / 128;lia
 rw[kI λq=>y (by have:=(S (c:=c) (f:=0) (by lia) (by rw[sF];exact q)).2;rw[N,<-this];rfl),kI y];exact b2 (by rw[<-z];rw[N]at y ⊢;lia)
rw[kI z]
have nz:¬c*s.q.P=s.np:=λq=>z (S (c:=c) (f:=0) (by lia) (by rw[sF];exact q)).1.symm
have eb:(s.put n v).q.bo.getD c 0=s.q.bo.getD c 0:=by
 rw[U];split
 .rw[jB,kI λq=>z q.1]
 rfl
rw[eb,d,kI nz]
exact⟨b1,b2⟩)
theorem Pgs.wip(h:Pgs s)(w:WX k s)(hb:b<s.q.B)(nl:∀y∈s.q.V,¬y.2 / (s.q.P:Int)=(b:Int)):Pgs (s.wip b):=by(
have p1:=w.qs.ok.p1
have J:∀c,(s.wip b).q.fi.getD c 0=if b=c then 0 else s.q.fi.getD c 0:=λc=>by
 show(s.q.fi.set b 0).getD c 0=_;rw[jB,w.qs.ok.lf];by_cases e:b=c
 .rw[kM ⟨e,hb⟩,kM e]
 rw[kI (λz=>e z.1),kI e]
have N:∀c,(s.wip b).q.bo.getD c 0=if b=c then 0 else s.q.bo.getD c 0:=λc=>by
 show(s.q.bo.set b 0).getD c 0=_;rw[jB,w.qs.ok.lo];by_cases e:b=c
 .rw[kM ⟨e,hb⟩,kM e]
 rw[kI (λz=>e z.1),kI e]
have D:∀i,(s.wip b).pg i=if i / s.q.P=b then none else s.pg i:=λi=>rfl
have d:∀{i u},(s.wip b).pg i=some u->s.pg i=some u:=fun {i u} e=>by
 rw[D]at e;split at e
 .cases e
 exact e
have U:∀{c f:Nat},f<s.q.P->(c*s.q.P+f) / s.q.P=c:=λI=>yC I
refine⟨λc f S I lt=>?_,λi u e=>h.mr i u (d e),λi j a c ea ec=>h.one i j a c (d ea) (d ec),λy O=>?_,λ⟨i,u,e,e6⟩=>h.rl ⟨i,u,d e,e6⟩,λc S=>?_⟩
.have I:f<s.q.P:=I;rw[J]at lt;show ∃u,(s.wip b).pg (c*s.q.P+f)=some u;rw[D,U I];by_cases z:b=c
 .rw[kM z]at lt;lia
 rw[kI z]at lt;rw[kI (λq=>z q.symm)];exact h.wr c f S I lt
.obtain⟨u,e1,e2,Z⟩:=h.nw y O;refine⟨u,?_,e2,λj x e=>Z j x (d e)⟩;obtain⟨c,f,_,_,I,e,_⟩:=w.vl y O;rw[D,kI λq=>nl y O (by rw[e,mB]at q;rw[e,<-dE,q])];exact e1
rw[J,N]
show _/\(_->∃u,(s.wip b).pg (c*s.q.P)=some u/\_)
obtain⟨b1,b2⟩:=h.bn c S
by_cases z:b=c
.rw[kM z,kM z];exact⟨λF=>rfl,λq=>by lia⟩
rw[kI z,kI z,D,kI λq=>z (by have:=U (c:=c) (f:=0) (by lia);rw[sF]at this;rw[<-q,this])]
exact⟨b1,b2⟩)
theorem Pgs.forg(h:Pgs s){m:Int}(ne:m≠64):Pgs (s.forg m):=⟨h.wr,h.mr,h.one,λy hy=>h.nw y (j0.mp hy).1,λz=>let⟨p,hp⟩:=h.rl z;⟨p,j0.mpr ⟨hp,λy=>ne y.symm⟩⟩,h.bn⟩
theorem Pgs.forgs:∀{g:List Int} {s:XS},Pgs s->(∀m∈g,m≠64)->Pgs (s.forgs g)
| [],_,h,_=>h
|m::g,s,h,ne=>Pgs.forgs (g:=g) (h.forg (ne m kU)) λx hx=>ne x (hU _ hx)
end
theorem qH3{B P:Nat}:Pgs (newX B P):=by(
have d:∀n i:Nat,(List.replicate n (0:Int)).getD i 0=0:=λn i=>rep8
refine⟨λb f U U lt=>?_,λi v e=>(by cases e),λi j a b e=>(by cases e),λy z=>absurd (show y∈([]:Mp)from z) (by simp),λ⟨_,_,e,_⟩=>(by cases e),λb U=>⟨λU=>d _ _,λlt=>?_⟩⟩
.rw[show(newX B P).q.fi=List.replicate B 0 from rfl,d]at lt;lia
rw[show(newX B P).q.fi=List.replicate B 0 from rfl,d]at lt
lia)
section
variable{k:Tm}{s:XS}
noncomputable def TopN(s:XS)(n:Int):Prop:=∃p v,(n,p)∈s.q.V/\s.pg p.toNat=some v/\v.1 / 128=s.q.nx-1
noncomputable def Top(s:XS):Prop:=s.q.nx=1\/∃n,TopN s n
theorem qIW{n v:Int}(n0:0<=n)(n1:n<=64):TopN (s.put n v) n:=⟨(s.np:Int),_,jJ.mpr (.inl rfl),by
 show(if(s.np:Int).toNat=s.np then _ else _)=_;rw[mB,kM rfl],by
 show(s.q.nx*128+n) / 128=s.q.nx+1-1;lia⟩
theorem qDV{i:Nat}{X Y:Sx}{n v:Int}{p:Nat}(n0:0<=n)(n1:n<=64)(h:X.ask k i n v=some (Y,.ok p)):TopN Y.s n:=by(
unfold Sx.ask at h
split at h
.cases h
.cases h
split at h
.cases h
cases h
exact qIW n0 n1)
theorem TopN.forgs:∀{g:List Int} {s:XS} {n:Int},TopN s n->n∉g->TopN (s.forgs g) n
| [],_,_,h,_=>h
|m::g,s,n,h,ng=>by refine TopN.forgs (g:=g) (s:=s.forg m) ?_ (λz=>ng (hU _ z));obtain⟨p,v,h1,h2,h3⟩:=h;exact⟨p,v,j0.mpr ⟨h1,λz=>ng (by rw[<-z];exact kU)⟩,h2,h3⟩
end
end W1
namespace L2
open PySem PySem.Spec PyProof.Rows
section
variable{prog:Program}{w:World}{A:Around}{E:Value->Shared->Prop}
theorem qDW{s:Shared}{nm:String}{f:Builtin}{us:List Value}{ks:List (Str×Value)}{Q:Value->Shared->Prop}(h1:builtinKind nm=none)(h2:plainId nm=true)(h3:entryFor table nm=some f)(h4:argsOk nm ⟨us,ks⟩)
 (go:wpAny (model prog w) A.in1 (f ⟨us,ks⟩) (λfin s'=>match fin with| .done r=>(match(Except.ok r:Result)with| .ok (.ret v)=>Q v s'| .ok _=>False| .error e=>E e s')| .again c=>c.quiet=true/\codeAny (model prog w) A c (λr s'=>match r with| .ok (.ret v)=>Q v s'| .ok _=>False| .error e=>E e s') s') E s):
 wpAny (model prog w) A (call (.builtin nm) us ks) Q E s:=cF (pQ h2 h3 (by simp only[checkBuiltinCall,h1];unfold argsOk at h4;cases e:Manifest.signature? nm with
 |none=>exact mE go
 |some sg=>rw[e]at h4;replace h4:Bind.checkArgs nm sg ⟨us,ks⟩=pure ():=h4;simp only[h4];exact mE go))
theorem qIX(a d:Value):argsOk "min" ⟨[a],[(Str.ofString "default",d)]⟩:=by unfold argsOk;kernel_rfl
theorem qH4{I B:Addr}{fp wr:List Addr}{n:Nat}{P:Nat->Value->Prop}{St:Nat->Heap->Prop}{R:Result->Shared->Prop}{kw:List (Str×Value)}(val:Nat->Int)(hval:∀i v,P i v->∃t,v=.int (val i) t)
 (W:Walks prog w A.in1 I fp wr n P St) (nB:B∉fp):∀(r j i0:Nat) (s:Shared) (v0:Value) (c:Nat),j+r=n->St j s.heap->P i0 v0->i0<j->(∀i,i<j->val i0<=val i)->s.heap.get? B=some { cls:=.type "list",dict:=none,data:=.seq #[v0,v0] c,slots:=#[] }->(∀i v h' tk,P i v->i<n->(∀i',i'<n->val i<=val i')->(∀b o,b∉wr->b≠B->s.heap.get? b=some o->h'.get? b=some o)->R (.ok (.ret v)) { s with heap:=h',toks:=tk })->codeAny (model prog w) A (.builtin "min.loop" ⟨[.ref I,.none,.ref B],kw⟩) R s:=by(
have wB:B∉wr:=λz=>nB (W.sub _ z)
have nm:(toString "min"++toString ".loop":String)="min.loop":=by decide
intro r
induction r with
|zero=>intro j i0 s v0 c ej st Z l0 U N fin;obtain rfl:j=n:=ej;refine wW dQ (id ?_);rw[rH gG _];show wpAny _ A.in1 (seqItems? (.ref B) >>= _) _ (λF F=>_) _;refine kD (cI N rfl ?_);show wpAny _ A.in1 (tryCatch (pyNext (.ref I)) _ >>= _) _ (λF F=>_) _;refine kD (dR (W.done s _ _ st λh1 t1 kp=>?_));show wpAny _ A.in1 (updateSeq B (λF=>#[]) >>= _) _ (λF F=>_) _;refine kD ?_;exact wX (kp B _ wB N) rfl (kD (wR (mE (fin i0 v0 _ t1 Z l0 U λb o d J e=>(mD _ _ J.symm).trans (kp b o d e)))))
|succ r ih=>
 intro j i0 s v0 c ej st Z l0 U N fin;refine wW dQ (id ?_);rw[rH gG _];show wpAny _ A.in1 (seqItems? (.ref B) >>= _) _ (λF F=>_) _;refine kD (cI N rfl ?_);show wpAny _ A.in1 (tryCatch (pyNext (.ref I)) _ >>= _) _ (λF F=>_) _;refine kD (dR (W.item j s _ _ (by omega) st λS h1 t1 p1 O kp=>?_));have D:=kp B _ wB N;show wpAny _ A.in1 (tryCatch (holding [S,S] (richCompare .Lt S v0 >>= _)) _ >>= _) _ (λF F=>_) _;refine kD (dR (gU (kD (CmpOf.ints_lt val hval j i0 S v0 _ _ _ p1 Z (kD (gU (gY (kD (wR (mE ?_))))))))));dsimp only;by_cases z:val j<val i0
 .rw[hC z];rw[kM rfl];refine kD (wX D rfl (kD (wR ?_)));rw[nm];refine mE ⟨wH gG _,ih (j+1) j _ S _ (by omega) (W.frame _ _ _ O λb hb o e=>(mD _ _ λy:B=b=>nB (by rw[y];exact hb)).trans e) p1 (by omega) (λi hi=>?_) (d5 _ D rfl) λi v h2 t2 a1 a2 a3 a4=>fin i v h2 t2 a1 a2 a3 λb o d J e=>a4 b o d J ((mD _ _ J.symm).trans (kp b o d e))⟩;by_cases y:i=j
  .rw[y];omega
  have:=U i (by omega);omega
 rw[hX z];rw[kI (by decide)];refine kD (wR ?_);rw[nm];refine mE ⟨wH gG _,ih (j+1) i0 _ v0 c (by omega) O Z (by omega) (λi hi=>?_) D λi v h2 t2 a1 a2 a3 a4=>fin i v h2 t2 a1 a2 a3 λb o d J e=>a4 b o d J (kp b o d e)⟩;by_cases y:i=j
 .rw[y];omega
 exact U i (by omega))
theorem qH5{s:Shared}{l:Addr}{xs:Array (Int×Tok)}{d:Value}{Q:Value->Shared->Prop}(hh:A.handled=none)(hl:s.heap.IsList l (intItems xs))(h0:xs.size=0->∀h' tk,(∀b o,s.heap.get? b=some o->h'.get? b=some o)->Q d { s with heap:=h',toks:=tk })
 (h1':∀i v h' tk,(intItems xs)[i]?=some v->i<xs.size->(∀i',i'<xs.size->numAt xs i<=numAt xs i')->(∀b o,s.heap.get? b=some o->h'.get? b=some o)->Q v { s with heap:=h',toks:=tk }):
 wpAny (model prog w) A (call (.builtin "min") [.ref l] [(Str.ofString "default",d)]) Q E s:=by(
have nm:(toString "min"++toString ".loop":String)="min.loop":=by decide
have zs:(intItems xs).size=xs.size:=by simp[intItems]
refine qDW aP aF aG (qIX _ _) ?_
refine kD (m:=Builtin.Builtins.bindParams "min" ["key","default"] 0 ⟨[],[(Str.ofString "default",d)]⟩) (wpAny_of_eq (a:=[none,some d]) rfl ?_)
refine kD (mE (kD (iter_intList hl λs2 e st O ne=>?_)))
subst e
refine kD (cA ?_ (m7 _))
rw[nm]
refine mE ⟨wH gG _,?_⟩
have W:=xQ (prog:=prog) (w:=w) (A:=A.in1) hh s.heap.objs.size l ne (intItems xs)
have Z:=mP (o:={ cls:=.type "list",data:=.seq #[] }) (s.heap.push { cls:=.type "list_iterator",data:=.fields #[.ref l,.int 0 0] }) rfl
have U:(s.heap.push { cls:=.type "list_iterator",data:=.fields #[.ref l,.int 0 0] }).objs.size∉[s.heap.objs.size,l]:=λz=>rD _ (O _ z)
have D:∀{b:Addr} {o:Obj},s.heap.get? b=some o->b≠s.heap.objs.size/\b≠(s.heap.push { cls:=.type "list_iterator",data:=.fields #[.ref l,.int 0 0] }).objs.size:=fun {b o} e=>⟨mR (kX e),mR (kX (kJ _ e))⟩
refine wW dQ (id ?_)
rw[rH gG _]
show wpAny _ A.in1 (seqItems? (.ref (s.heap.push { cls:=.type "list_iterator",data:=.fields #[.ref l,.int 0 0] }).objs.size) >>= _) _ (λF F=>_) _
refine kD (cI Z rfl ?_)
show wpAny _ A.in1 (tryCatch (pyNext (.ref s.heap.objs.size)) _ >>= _) _ (λF F=>_) _
refine kD (dR ?_)
have J:=W.frame 0 _ (Heap.push (Heap.push s.heap { cls:=.type "list_iterator",data:=.fields #[.ref l,.int 0 0] }) ({ cls:=.type "list",data:=.seq #[] }:Obj)) st λb F o e=>kJ _ e
have wB:(s.heap.push { cls:=.type "list_iterator",data:=.fields #[.ref l,.int 0 0] }).objs.size∉[s.heap.objs.size]:=λz=>U (W.sub _ z)
by_cases z:xs.size=0
.refine W.done _ _ _ (by rw[zs,z];exact J) λh1 t1 kp=>?_;exact kD (wpAny_rule (mE (h0 z h1 t1 λb o e=>kp b o (by simpa using(D e).1) (kJ _ (kJ _ e)))))
refine W.item 0 _ _ _ (by rw[zs];omega) J λS h1 t1 p1 N kp=>?_
have I:=kp (s.heap.push { cls:=.type "list_iterator",data:=.fields #[.ref l,.int 0 0] }).objs.size _ wB Z
show wpAny _ A.in1 (updateSeq (s.heap.push { cls:=.type "list_iterator",data:=.fields #[.ref l,.int 0 0] }).objs.size (λF=>#[S,S]) >>= _) _ (λF F=>_) _
refine kD (wX I rfl ?_)
rw[nm]
refine mE ⟨wH gG _,qH4 (numAt xs) (λF F=>intItems_at) W U (xs.size-1) 1 0 _ S _ (by rw[zs];omega) (W.frame _ _ _ N λb hb o e=>(mD _ _ λy:(s.heap.push { cls:=.type "list_iterator",data:=.fields #[.ref l,.int 0 0] }).objs.size=b=>U (by rw[y];exact hb)).trans e) p1 (by omega) (λi hi=>?_) (d5 _ I rfl) λi v h2 t2 a1 a2 a3 a4=>?_⟩
.rw[show i=0 by omega];exact gE _
rw[zs]at a2 a3
exact h1' i v h2 t2 a1 a2 a3 λb o e=>a4 b o (by simpa using(D e).1) (D e).2 ((mD _ _ (D e).2.symm).trans (kp b o (by simpa using(D e).1) (kJ _ (kJ _ e)))))
end
noncomputable def qMM(K:PySem.W.Frag)(d:Int)(ta:TA):TE:=λσ H Q=>ta σ H λvs H1=>∃(p:Addr) (ns:List Int),vs=[.ref p]/\SqL K H1 p (ns.map V.int)/\(ns=[]->Q (.int d) H1)/\∀M,M∈ns->(∀a∈ns,M<=a)->Q (.int M) H1
theorem qIY{X:Cx}{e c:Expr}{ta:TA}{p kp pos:Pos}{d:Int}(hc:X.calm=true)(hg:Gl X "min")(hm:X.mg "min"=none)(hd:PE X c (tC (.int d)))(ha:PA X [e] ta)(he:starEach [e] X.env=[(false,eval e X.env)]:=by rfl)(hse:starEach ([]:List Expr) X.env=[]:=by rfl):
 PE X (.Call (.Name "min" p) [e] [⟨some "default",c,kp⟩] pos) (qMM X.K d ta):=by(
intro pins s σ H Q I h
refine g5 (q25 I hg hm (u:=.builtin "min") (by kernel_rfl) ?_ (by decide) (by decide))
refine aS (thn (ha pos pins s σ H _ I h) λus s1 ⟨vs,H1,I1,r1,q1⟩=>?_) (by rw[he,hse];rfl) (by rw[he];rfl)
have pk:PK X [⟨some "default",c,kp⟩] (q75 (tC (.int d)) tNil):=q9T hd qC9
refine thn (pk pos pins s1 σ H1 (λxs H2=>xs=[.int d]/\H2=H1) I1 ⟨rfl,rfl⟩) λws s2 hZ=>?_
obtain⟨xs,H2,J,r2,ex,S⟩:=hZ
subst ex S
obtain⟨w,rfl,td,rfl⟩:=q09 r2
obtain⟨l,ns,ev,hq,Z,h1⟩:=q1
subst ev
obtain⟨u,rfl,ru⟩:=q09 r1
obtain rfl:u=Value.ref l:=ru
obtain⟨ae,rv,pl,hz⟩:=J.list hq
have N:=q6O rv
obtain⟨xs,e⟩:=N.allInts.items
have D:ns=xs.toList.map (·.1):=by rw[<-N.numsOf,<-nums_intItems,<-e]
have hl:=pl.isList
rw[e]at hl
show wpAny (model X.prog X.w) X.A (call (.builtin "min") [.ref l] [(Str.ofString "default",.int d td)]) _ _ _
refine qH5 (J.ok.hd hc) hl (λz h' tk kp=>⟨.int d,_,J.kept kp,⟨_,rfl⟩,Z ?_⟩) (λi v h' tk U N le kp=>?_)
.rw[D,Array.eq_empty_of_size_eq_zero z];rfl
obtain⟨t,rfl⟩:=intItems_at U
refine⟨.int _,_,J.kept kp,⟨t,rfl⟩,h1 _ ?_ λa ha=>?_⟩
.rw[D,numAt_eq];exact getD_mem (by rw[kB,mZ];omega)
rw[D]at ha
obtain⟨j,O,rfl⟩:=mem_getD ha
rw[kB,mZ]at O
rw[<-numAt_eq]
exact le j O)
end L2
namespace L2
open PySem PySem.W PySem.Spec PyProof.Rows
theorem qIZ(a d:Value):argsOk "min" ⟨[a],[(Str.ofString "key",d)]⟩:=by unfold argsOk;kernel_rfl
noncomputable def KeyI(K:PySem.W.Frag)(kf:Nat->List Int)(H:Hp)(zs:List V):Prop:=∀j z,zs[j]?=some z->TupI K H z (kf j)
section
variable{X:Cx}{pins:List (Addr×Obj)}{σ:St}
theorem qJ0{A:Around}{H:Hp}{s:Shared}{z1 z2:V}{u1 u2:Value}{k1 k2:List Int}{Q:Value->Shared->Prop}{E:Value->Shared->Prop}(I:Inv X pins σ H s)(hu:A.units+1<cLine)(t1:TupI X.K H z1 k1)(t2:TupI X.K H z2 k2)(r1:RelV z1 u1)(r2:RelV z2 u2)(c:Q (.bool (lx k1 k2)) s):wpAny (model X.prog X.w) A (richCompare .Lt u1 u2) Q E s:=by(
have p1:=q3A I (.cons r1 .nil) (.cons t1 .nil)
have S:=q3A I (.cons r2 .nil) (.cons t2 .nil)
obtain⟨J,D,a1,z,rfl,O,U⟩:=Paired.at (i:=0) p1 rfl
obtain⟨ab,N,a2,d,rfl,Z,i2⟩:=Paired.at (i:=0) S rfl
cases D
cases N
rw[<-qBC]at c
exact HT.lt_tupInts (items:=z.toArray) (items2:=d.toArray) O Z (by simpa using U) (by simpa using i2) (xZ hu) c)
theorem qJ1{R:Result->Shared->Prop}{l f I S:Addr}{us:List V}{kf:Nat->List Int}(hc:X.A.handled=none)(hu:X.A.units+64<cLine)(Pv:Nat->List V->Hp->Prop)
 (hq:∀i zs H',Pv i zs H'->SqL X.K H' l us/\zs.length=i/\KeyI X.K kf H' zs) (nl:l≠I) (nS:S≠I) (nlS:l≠S)
 (hI:∀H',H' I=none->FpOk X pins H' I) (hS:∀H',H' S=none->FpOk X pins H' S)
 (hs:∀i x zs H' pins' s' u,us[i]?=some x->RelV x u->Pv i zs H'->Inv { X with A:=X.A.in1,xe:=λF F=>False } pins' σ H' s'->wpAny (model X.prog X.w) X.A.in1 (call (.ref f) [u]) (EP { X with A:=X.A.in1,xe:=λF F=>False } pins' σ (λz H''=>Pv (i+1) (zs++[z]) H'')) (λF F=>False) s')
 (hR:∀i v zs H' s',i<us.length->RelV (us.getD i .non) v->(∀j,j<us.length->lx (kf j) (kf i)=false)->Pv us.length zs H'->Inv X pins σ H' s'->R (.ok (.ret v)) s'):
 ∀(r j i:Nat) (s:Shared) (H:Hp) (zs:List V) (vb kb:Value) (c:Nat),j+r=us.length->i<j->Inv X pins σ H s->Pv j zs H->H I=none->H S=none->s.heap.IsListIter I l j->s.heap.get? S=some (seqObj "list" #[vb,kb] c)->RelV (us.getD i .non) vb->RelV (zs.getD i .non) kb->(∀j',j'<j->lx (kf j') (kf i)=false)->codeAny (model X.prog X.w) X.A (.builtin "min.loop" ⟨[.ref I,.ref f,.ref S],[]⟩) R s:=by(
have nm:(toString "min"++toString ".loop":String)="min.loop":=by decide
intro r
induction r with
|zero=>intro j i s H zs vb kb c ej ij J pv n1 n2 it gS rb rk D;obtain rfl:j=us.length:=ej;obtain⟨sq,lz,ky⟩:=hq _ _ _ pv;obtain⟨d,rv,pl,hz⟩:=J.list sq;have Z:=rv.length;have W:=xQ (prog:=X.prog) (w:=X.w) (A:=X.A.in1) hc I l nl d.toArray;refine wW dQ (id ?_);rw[rH gG _];show wpAny _ X.A.in1 (seqItems? (.ref S) >>= _) _ (λF F=>_) _;refine kD (cI gS rfl ?_);show wpAny _ X.A.in1 (tryCatch (pyNext (.ref I)) _ >>= _) _ (λF F=>_) _;refine kD (dR (W.done s _ _ ⟨by rw[mG,<-Z];exact it,pl.isList⟩ λh1 t1 kp=>?_));have J1:Inv X pins σ H { s with heap:=h1,toks:=t1 }:=J.turnedN (fp:=[I]) kp (λb O=>by rw[kE.mp O];exact hI _ n1);have U:=kp S _ (λz=>nS (kE.mp z)) gS;show wpAny _ X.A.in1 (updateSeq S (λF=>#[]) >>= _) _ (λF F=>_) _;refine kD (wX U rfl (kD (wR (mE ?_))));exact hR i vb zs H _ ij rb D pv (J1.turnedN (fp:=[S]) (λb o O e=>(mD _ _ (λz=>O (kE.mpr z.symm))).trans e) (λb O=>by rw[kE.mp O];exact hS _ n2))
|succ r ih=>
 intro j i s H zs vb kb c ej ij J pv n1 n2 it gS rb rk D;have lt:j<us.length:=by omega
 obtain⟨sq,lz,ky⟩:=hq _ _ _ pv;obtain⟨d,rv,pl,hz⟩:=J.list sq;have Z:=rv.length;have W:=xQ (prog:=X.prog) (w:=X.w) (A:=X.A.in1) hc I l nl d.toArray;refine wW dQ (id ?_);rw[rH gG _];show wpAny _ X.A.in1 (seqItems? (.ref S) >>= _) _ (λF F=>_) _;refine kD (cI gS rfl ?_);show wpAny _ X.A.in1 (tryCatch (pyNext (.ref I)) _ >>= _) _ (λF F=>_) _;refine kD (dR (W.item j s _ _ (by rw[mG];omega) ⟨it,pl.isList⟩ λv h1 t1 aw aq kp=>?_));have hv:d[j]?=some v:=by simpa using aw
 obtain⟨x,ex,rx⟩:=rv.atN (j:=j) (by omega);obtain rfl:d[j]=v:=(kC.mp hv).2;have J1:Inv X pins σ H { s with heap:=h1,toks:=t1 }:=J.turnedN (fp:=[I]) kp (λb O=>by rw[kE.mp O];exact hI _ n1);have U:=kp S _ (λz=>nS (kE.mp z)) gS;obtain⟨oI,gI,ae,aa⟩:=id aq.1;have J2:=(J1.near (A':=X.A.in1) rfl rfl λF F=>False).pinned (fp:=[I,S]) (λb N=>by
  simp only[kN,dB,cQ]at N;rcases N with rfl|rfl
  .exact hI _ n1
  .exact hS _ n2) (λb N=>by
  simp only[kN,dB,cQ]at N;rcases N with rfl|rfl
  .exact⟨_,gI,λv z=>by rw[aa]at z;cases z⟩
  exact⟨_,U,λv z=>by cases z⟩)
 show wpAny _ X.A.in1 (tryCatch (holding [d[j]] (call (.ref f) [d[j]])) _ >>= _) _ (λF F=>_) _;refine kD (dR (gU (g4 (hs j x zs H _ _ _ ex rx pv J2) (λu s2 ay=>?_) λF F z=>z.elim)));obtain⟨z,H2,J3,ru,ab⟩:=ay;have pI:=J3.pin (I,oI) (kY _ (kY _ (yG (by simp) gI)));have pS:=J3.pin (S,seqObj "list" #[vb,kb] c) (kY _ (kY _ (yG (by simp) U)));have J4:Inv X pins σ H2 s2:=(J3.unpinned).near (A':=X.A) rfl rfl X.xe;obtain⟨bc,a9,ag⟩:=hq _ _ _ ab;have kz:TupI X.K H2 z (kf j):=ag j z (by rw[dM (by omega),lz,Nat.sub_self];rfl);have gi:zs[i]?=some (zs.getD i .non):=by rw[kL,kF (by omega)];rfl
 have ki:TupI X.K H2 (zs.getD i .non) (kf i):=ag i _ (by rw[rW (by omega)];exact gi);have ax:s2.heap.IsListIter I l (j+1):=⟨oI,pI.1,ae,aa⟩;show wpAny _ X.A.in1 (tryCatch (holding [d[j],u] (richCompare .Lt u kb >>= _)) _ >>= _) _ (λF F=>_) _;refine kD (dR (gU (kD (qJ0 J4 (by show X.A.units+1+1<cLine;omega) kz ki ru rk ?_))));refine kD (gU (gY (kD (wR (mE ?_)))));cases e:lx (kf j) (kf i)with
 |true=>
  simp only[if_true];refine kD (wX pS.1 rfl (kD (wR ?_)));rw[nm];obtain⟨c2,g2⟩:∃c2,(s2.heap.update S (Obj.mapSeq λF=>#[d[j],u])).get? S=some (seqObj "list" #[d[j],u] c2):=⟨_,wU pS.1 λF=>#[d[j],u]⟩;have J5:Inv X pins σ H2 { s2 with heap:=s2.heap.update S (Obj.mapSeq λF=>#[d[j],u]),toks:=s2.toks }:=J4.turnedN (fp:=[S]) (λb o O e=>(mD _ _ (λz=>O (kE.mpr z.symm))).trans e) (λb O=>by rw[kE.mp O];exact hS _ pS.2.1);refine mE ⟨wH gG _,ih (j+1) j _ H2 _ _ u c2 (by omega) (by omega) J5 ab pI.2.1 pS.2.1 ⟨oI,(mD _ _ nS).trans pI.1,ae,aa⟩ g2 ?_ ?_ λj' ar=>?_⟩
  .rw[kL,ex];exact rx
  .rw[kL,dM (by omega),lz,Nat.sub_self];exact ru
  by_cases y:j'=j
  .rw[y];exact q3S _
  cases g:lx (kf j') (kf j)with
  |false=>rfl
  |true=>have:=q11 _ _ _ g e;rw[D j' (by omega)]at this;cases this
 |false=>
  simp only[cV,if_false];refine kD (wR ?_);rw[nm];refine mE ⟨wH gG _,ih (j+1) i _ H2 _ vb kb c (by omega) (by omega) J4 ab pI.2.1 pS.2.1 ax pS.1 rb ?_ λj' ar=>?_⟩
  .rw[kL,rW (by omega),gi];exact rk
  by_cases y:j'=j
  .rw[y];exact e
  exact D j' (by omega))
end
noncomputable def tML(P:Program)(w:World)(K:PySem.W.Frag)(mg:Str->Option Value)(base:Heap)(cells:List (Str×Addr))(ix:List (Nat×Str))(k:Nat)(x:Str)(tl:TE)(ta:TA):TE:=λσ H Q=>ta σ H λvs H1=>tl σ H1 λfv H2=>∃(f:Addr) (fd:FuncData) (sp:Heap->Sp),fv=.ref f/\(∀base',(∀b o,base.get? b=some o->base'.get? b=some o)->q2E cells σ base' ix->FnOk P w K mg base' CX0 k f fd [x] (sp base'))/\jQ K fd [x] []/\∃(l:Addr) (us:List V) (kf:Nat->List Int) (Pv:Nat->List V->Hp->Prop),vs=[.ref l]/\0<us.length/\Pv 0 [] H2/\(∀i zs H',Pv i zs H'->SqL K H' l us/\zs.length=i/\KeyI K kf H' zs)/\(∀base' i x zs H',q2E cells σ base' ix->us[i]?=some x->Pv i zs H'->sp base' [x] H' (λz H''=>Pv (i+1) (zs++[z]) H'') E0)/\∀i zs H',i<us.length->(∀j,j<us.length->lx (kf j) (kf i)=false)->Pv us.length zs H'->Q (us.getD i .non) H'
theorem qJ2{X:Cx}{k:Nat}{x:Str}{e le:Expr}{tl:TE}{ta:TA}{p kp pos:Pos}(ix:List (Nat×Str))(hix:∀p∈ix,X.N[p.1]?=some p.2/\X.env.scope.names.lookup p.2=some .cell/\X.fn p.2=true)(hc:X.calm=true)(hu:X.A.units+64<cLine)(hr:Room (k+1) X.A)(hg:Gl X "min")(hm:X.mg "min"=none)(hl:PE X le tl)(ha:PA X [e] ta)
 (he:starEach [e] X.env=[(false,eval e X.env)]:=by rfl) (hse:starEach ([]:List Expr) X.env=[]:=by rfl):
 PE X (.Call (.Name "min" p) [e] [⟨some "key",le,kp⟩] pos) (tML X.prog X.w X.K X.mg X.base X.env.cells ix k x tl ta):=by(
intro pins s σ H Q I h
have nm:(toString "min"++toString ".loop":String)="min.loop":=by decide
refine g5 (q25 I hg hm (u:=.builtin "min") (by kernel_rfl) ?_ (by decide) (by decide))
refine aS (thn (ha pos pins s σ H _ I h) λus s1 ⟨vs,H1,I1,r1,q1⟩=>?_) (by rw[he,hse];rfl) (by rw[he];rfl)
have pk:PK X [⟨some "key",le,kp⟩] (q75 tl tNil):=q9T hl qC9
refine thn (pk pos pins s1 σ H1 (oneQ _) I1 q1) λws D hZ=>?_
obtain⟨xs,H2,Z,r2,q2⟩:=hZ
obtain⟨v,rfl,f,fd,sp,rfl,F,hb,q2⟩:=qDN q2
obtain⟨w,rfl,rw⟩:=q09 r2
obtain rfl:w=Value.ref f:=rw
obtain⟨l,aj,kf,Pv,ev,hn,p0,hq,hs,hd⟩:=q2
subst ev
obtain⟨u,rfl,ru⟩:=q09 r1
obtain rfl:u=Value.ref l:=ru
obtain⟨sq,_,_⟩:=hq _ _ _ p0
obtain⟨d,rv,pl,hz⟩:=Z.list sq
have ak:=rv.length
have be:=Z.ok.hd hc
have an:l<D.heap.objs.size:=by obtain⟨_,e,_⟩:=pl.isList;exact kX e
show wpAny (model X.prog X.w) X.A (call (.builtin "min") [.ref l] [(Str.ofString "key",.ref f)]) _ _ _
refine qDW aP aF aG (qIZ _ _) ?_
refine kD (m:=Builtin.Builtins.bindParams "min" ["key","default"] 0 ⟨[],[(Str.ofString "key",.ref f)]⟩) (wpAny_of_eq (a:=[some (.ref f),none]) rfl ?_)
refine kD (mE (kD (xT pl.isList ?_)))
refine kD (cA ?_ (m7 _))
rw[nm]
refine mE ⟨wH gG _,?_⟩
have hS:(D.heap.push { cls:=.type "list_iterator",data:=.fields #[.ref l,.int 0 0] }).objs.size=D.heap.objs.size+1:=nY ..
have gS:=mP (o:=seqObj "list" #[] 0) (D.heap.push { cls:=.type "list_iterator",data:=.fields #[.ref l,.int 0 0] }) rfl
have gI:((D.heap.push { cls:=.type "list_iterator",data:=.fields #[.ref l,.int 0 0] }).push (seqObj "list" #[] 0)).get? D.heap.objs.size=some { cls:=.type "list_iterator",data:=.fields #[.ref l,.int 0 0] }:=kJ _ (mP _ rfl)
have I3:Inv X pins σ H2 { D with heap:=(D.heap.push { cls:=.type "list_iterator",data:=.fields #[.ref l,.int 0 0] }).push (seqObj "list" #[] 0),toks:=D.toks }:=Z.kept (t':=D.toks) λb o e=>kJ _ (kJ _ e)
obtain⟨S,eS⟩:∃S:Addr,S=(D.heap.push { cls:=.type "list_iterator",data:=.fields #[.ref l,.int 0 0] }).objs.size:=⟨_,rfl⟩
obtain⟨J,eJ⟩:∃J:Addr,J=D.heap.objs.size:=⟨_,rfl⟩
have fJ:FpOk X pins H2 J:=by rw[eJ];exact Z.fpOk (kO _) (Z.hok.fresh (kO _))
have fS:FpOk X pins H2 S:=by rw[eS,hS];exact Z.fpOk (dG _) (Z.hok.fresh (dG _))
have hJ:∀H',H' J=none->FpOk X pins H' J:=λH' e=>⟨e,fJ.2⟩
have am:∀H',H' S=none->FpOk X pins H' S:=λH' e=>⟨e,fS.2⟩
have nl:l≠J:=by rw[eJ];exact mR an
have ab:S≠J:=by rw[eS,eJ,hS];exact rE (d8 _)
have bj:l≠S:=by rw[eS,hS];exact mR (dO an)
have ah:X.A.handled=none:=be
rw[<-eS]at gS
show codeAny (model X.prog X.w) X.A (.builtin "min.loop" ⟨[.ref D.heap.objs.size,.ref f,.ref (D.heap.push { cls:=.type "list_iterator",data:=.fields #[.ref l,.int 0 0] }).objs.size],[]⟩) _ _
rw[<-eS,<-eJ]
rw[<-eJ]at gI
clear hS eS eJ
obtain⟨h3,eh⟩:∃h3,h3=(D.heap.push { cls:=.type "list_iterator",data:=.fields #[.ref l,.int 0 0] }).push (seqObj "list" #[] 0):=⟨_,rfl⟩
rw[<-eh]at gS gI I3
show codeAny _ _ _ _ { D with heap:=(D.heap.push { cls:=.type "list_iterator",data:=.fields #[.ref l,.int 0 0] }).push (seqObj "list" #[] 0) }
rw[<-eh]
clear eh
obtain⟨d,rv,pl,hz⟩:=I3.list sq
have ak:=rv.length
have W:=xQ (prog:=X.prog) (w:=X.w) (A:=X.A.in1) ah J l nl d.toArray
refine wW dQ (id ?_)
rw[rH gG _]
show wpAny _ X.A.in1 (seqItems? (.ref S) >>= _) _ (λz z=>_) _
refine kD (cI gS rfl ?_)
show wpAny _ X.A.in1 (tryCatch (pyNext (.ref J)) _ >>= _) _ (λz z=>_) _
refine kD (dR (W.item 0 _ _ _ (by rw[mG];omega) ⟨⟨_,gI,rfl,rfl⟩,pl.isList⟩ λv h1 t1 bl bd kp=>?_))
have hv:d[0]?=some v:=by simpa using bl
obtain⟨x0,ex,rx⟩:=rv.atN (j:=0) (by omega)
obtain rfl:d[0]=v:=(kC.mp hv).2
have J1:Inv X pins σ H2 { D with heap:=h1,toks:=t1 }:=Inv.turnedN (s:={ D with heap:=h3 }) (fp:=[J]) I3 kp (λb hb=>by rw[kE.mp hb];exact fJ)
have ai:=kp S _ (λz=>ab (kE.mp z)) gS
obtain⟨oI,af,a0,ao⟩:=id bd.1
have J2:=(J1.near (A':=X.A.in1) rfl rfl λz z=>False).pinned (fp:=[J,S]) (λb U=>by
 simp only[kN,dB,cQ]at U;rcases U with rfl|rfl
 .exact fJ
 .exact fS) (λb U=>by
 simp only[kN,dB,cQ]at U;rcases U with rfl|rfl
 .exact⟨_,af,λv z=>by rw[ao]at z;cases z⟩
 exact⟨_,ai,λv z=>by cases z⟩)
have ag:∀i x zs H' O s' u,aj[i]?=some x->RelV x u->Pv i zs H'->Inv { X with A:=X.A.in1,xe:=λz z=>False } O σ H' s'->wpAny (model X.prog X.w) X.A.in1 (call (.ref f) [u]) (EP { X with A:=X.A.in1,xe:=λz z=>False } O σ (λz aw=>Pv (i+1) (zs++[z]) aw)) (λz z=>False) s':=λi x zs H' O s' u hx rx pv I'=>qDM (X:={ X with A:=X.A.in1,xe:=λz z=>False }) (dvs:=[]) (ds:=[]) (E:=E0) ix hix F hr.in1 hb .nil qK I' (.cons rx .nil) (λac up cv=>hs ac i x zs H' cv hx pv)
show wpAny _ X.A.in1 (tryCatch (holding [d[0]] (call (.ref f) [d[0]])) _ >>= _) _ (λz z=>_) _
refine kD (dR (gU (g4 (ag 0 x0 [] H2 _ _ _ ex rx p0 J2) (λu s3 a8=>?_) λd d z=>z.elim)))
obtain⟨z,H3,J3,ru,ay⟩:=a8
have pI:=J3.pin (J,oI) (kY _ (kY _ (yG (by simp) af)))
have pS:=J3.pin (S,seqObj "list" #[] 0) (kY _ (kY _ (yG (by simp) ai)))
have J4:Inv X pins σ H3 s3:=(J3.unpinned).near (A':=X.A) rfl rfl X.xe
show wpAny _ X.A.in1 (updateSeq S (λz=>#[d[0],u]) >>= _) _ (λz z=>_) _
refine kD (wX pS.1 rfl ?_)
rw[nm]
obtain⟨c2,g2⟩:∃c2,(s3.heap.update S (Obj.mapSeq λz=>#[d[0],u])).get? S=some (seqObj "list" #[d[0],u] c2):=⟨_,wU pS.1 λz=>#[d[0],u]⟩
have J5:Inv X pins σ H3 { s3 with heap:=s3.heap.update S (Obj.mapSeq λz=>#[d[0],u]),toks:=s3.toks }:=J4.turnedN (fp:=[S]) (λb o hb e=>(mD _ _ (λz=>hb (kE.mpr z.symm))).trans e) (λb hb=>by rw[kE.mp hb];exact am _ pS.2.1)
refine mE ⟨wH gG _,qJ1 ah hu Pv hq nl ab bj hJ am ag (λi v zs H' s' a1 a2 a3 a4 a5=>?_) (aj.length-1) 1 0 _ H3 _ d[0] u c2 (by omega) (by omega) J5 ay pI.2.1 pS.2.1 ⟨oI,(mD _ _ ab).trans pI.1,a0,ao⟩ g2 ?_ ?_ λj' cd=>?_⟩
.exact⟨_,H',a5,a2,hd i zs H' a1 a3 a4⟩
.rw[kL,ex];exact rx
.exact ru
obtain rfl:j'=0:=by omega
exact q3S _)
end L2
namespace L2
open PySem
theorem qCR{lo:Int}{n:Nat}{g:TG}{tb:TS}{D:Ends}{σ:St}{H:Hp}(Pv:Nat->St->Hp->Prop)(h0:Pv 0 σ H)
 (hs:∀i σ H (D':Ends),(∀σ' H',Pv (i+1) σ' H'->D'.nx σ' H')->i<n->Pv i σ H->g (.int (lo+i)) σ H λσ2 H2=>tb D' σ2 H2) (hd:∀σ H,Pv n σ H->D.nx σ H):
 ∃W:Nat->Nat->St->Hp->Prop,(∃m,W 0 m σ H)/\∀i m σ H,W i m σ H->((Itr lo n).stop i H/\D.nx σ H)\/((Itr lo n).go i H/\∃N:St->Hp->Prop,(∀σ' H',N σ' H'->∃m',m'<m/\W (i+1) m' σ' H')/\∀x H',(Itr lo n).yld i H x H'->g x σ H' λσ2 H2=>tb { D with nx:=N,ct:=N,bk:=D.nx } σ2 H2):=q37 Pv h0 (λi σ H hx p=>hs i σ H _ (λz z q=>q) hx p) hd
theorem iV{σ:St}{i:Nat}{v:V}{Q:V->Prop}(e:σ[i]?=some (some v))(q:Q v):∃v,σ[i]?=some (some v)/\Q v:=⟨v,e,q⟩
theorem iF{K:PySem.W.Frag}{H:Hp}{f:Str}{a C d:Addr}{fs:List (Str×V)}{v:V}{Q:V->Prop}(o:H a=some (.ins C d fs))(cl:Cls K C)(na:qR K C f)(lk:fs.lookup f=some v)(q:Q v):
 ∃a' C dx fs v,V.ref a=.ref a'/\H a'=some (.ins C dx fs)/\Cls K C/\qR K C f/\fs.lookup f=some v/\Q v:=⟨a,C,d,fs,v,rfl,o,cl,na,lk,q⟩
theorem iM{H:Hp}{m:Str}{a C d:Addr}{fs:List (Str×V)}{q:Prop}(o:H a=some (.ins C d fs))(lk:fs.lookup m=none)(k:q):
 ∃a' dx fs,V.ref a=.ref a'/\H a'=some (.ins C dx fs)/\fs.lookup m=none/\q:=⟨a,d,fs,rfl,o,lk,k⟩
theorem iI{i j:Int}{Q:Int->Int->Prop}(q:Q i j):∃i' j',V.int i=.int i'/\V.int j=.int j'/\Q i' j':=⟨i,j,rfl,rfl,q⟩
theorem iL{K:PySem.W.Frag}{H:Hp}{p:Addr}{xs:List V}{k:Int}{v:V}{Q:V->Prop}(h:SqL K H p xs)(e:atI xs k=some v)(q:Q v):∃p' xs k' v,V.ref p=.ref p'/\V.int k=.int k'/\SqL K H p' xs/\atI xs k'=some v/\Q v:=⟨p,xs,k,v,rfl,rfl,h,e,q⟩
theorem iT{K:PySem.W.Frag}{H:Hp}{p:Addr}{xs:List V}{k:Int}{v:V}{Q:V->Prop}(h:SqT K H p xs)(e:atI xs k=some v)(q:Q v):∃p' xs k' v,V.ref p=.ref p'/\V.int k=.int k'/\SqT K H p' xs/\atI xs k'=some v/\Q v:=⟨p,xs,k,v,rfl,rfl,h,e,q⟩
end L2
namespace W1
open PySem L2
noncomputable def vlP(pg:Nat->Option (Int×Int))(V:Mp)(n:Int):Int×Int:=((V.find? λx=>decide (x.1=n)).bind λx=>pg x.2.toNat).getD (0,0)
theorem q7S{V:Mp}{n p:Int}(nd:(V.map (·.1)).Nodup)(h:(n,p)∈V):(V.find? λx=>decide (x.1=n))=some (n,p):=by(
induction V with
|nil=>exact absurd h (by simp)
|cons y V d=>
 rw[mY]at nd;obtain⟨D,z⟩:=m8.mp nd;rw[dH];rcases kN.mp h with e|h
 .subst e;simp
 have:y.1≠n:=λe=>D (mF.mpr ⟨_,h,e.symm⟩);rw[hX this];exact d z h)
theorem qA9{pg:Nat->Option (Int×Int)}{V:Mp}{n p:Int}{w:Int×Int}(nd:(V.map (·.1)).Nodup)(h:(n,p)∈V)(e:pg p.toNat=some w):vlP pg V n=w:=by(
unfold vlP
rw[q7S nd h]
show(pg p.toNat).getD (0,0)=w
rw[e]
rfl)
noncomputable def gnB(pg:Nat->Option (Int×Int))(V:Mp)(n:Int):Bool:=(V.any λx=>decide (x.1=64))&&(!((vlP pg V 64).2.toNat.testBit n.toNat)&&decide ((vlP pg V n).1<(vlP pg V 64).1))
noncomputable def jP(q:QM)(l:List Int):QM:=l.foldl QM.forget q
theorem qAA{q:QM}{l:List Int}{n:Int}:jP q (l++[n])=(jP q l).forget n:=by unfold jP;rw[sX];rfl
theorem q5I:∀{l:List Int} {q:QM},(jP q l).V=q.V.filter λx=>decide (x.1∉l)
| [],q=>by show q.V=_;rw[dX.mpr];exact λx d=>hC (by simp)
|n::l,q=>by show(jP (q.forget n) l).V=_;rw[q5I];show(jE q.V n).filter _=_;unfold jE;rw[xP];refine pG λx hx=>?_;by_cases z:x.1=n<;>by_cases y:x.1∈l<;>simp[z,y]
theorem q1K:∀{l:List Int} {q:QM},QS q->QS (jP q l)/\(jP q l).B=q.B/\(jP q l).P=q.P/\(jP q l).fi=q.fi/\(jP q l).bo=q.bo/\(jP q l).nx=q.nx
| [],q,h=>⟨h,rfl,rfl,rfl,rfl,rfl⟩
|n::l,q,h=>q1K (l:=l) (h.forget n)
noncomputable def hdN(W:Mp):List Int:=(W.map (·.1)).filter λn=>decide (n≠64)
theorem zK{V:Mp}{n:Int}:n∈hdN V↔n≠64/\∃p,(n,p)∈V:=by(
unfold hdN
rw[mK,mC,mF]
constructor
.rintro⟨⟨x,hx,rfl⟩,h⟩;exact⟨h,x.2,hx⟩
rintro⟨h,p,hp⟩;exact⟨⟨_,hp,rfl⟩,h⟩)
theorem Rows.wip{q0 q:QM}{R:List (Int×Nat×Int)}{b:Nat}(h:Rows q0 R q)(f0:q0.fi.set b 0=q0.fi)(b0:q0.bo.set b 0=q0.bo):∃q',Rows q0 (R.filter λr=>decide (r.2.1 / q0.P≠b)) q'/\q'.fi=q.fi.set b 0/\q'.bo=q.bo.set b 0/\q'.nx<=q.nx:=by(
induction h with
|nil=>exact⟨q0,.nil,f0.symm,b0.symm,gE _⟩
|@snoc R q r h f ih=>
 obtain⟨q',h',N,O,U⟩:=ih;obtain⟨S,D⟩:=h.sh;obtain⟨I,d⟩:=h'.sh;have fs:=f.s;rw[gQ];by_cases z:r.2.1 / q0.P=b
 .rw[show List.filter (λr:Int×Nat×Int=>decide (r.2.1 / q0.P≠b)) [r]=[] by simp[z],gT];refine⟨q',h',?_,?_,?_⟩
  .rw[N];show _=(q.fi.set (r.2.1 / q.P) _).set b 0;rw[D,z,b8]
  .rw[O];show _=(if q.fi.getD (r.2.1 / q.P) 0=0 then q.bo.set (r.2.1 / q.P) r.1 else q.bo).set b 0;rw[D,z];split
   .rw[b8]
   rfl
  show q'.nx<=r.1+1;lia
 rw[show List.filter (λr:Int×Nat×Int=>decide (r.2.1 / q0.P≠b)) [r]=[r] by simp[z]];have J:q'.fi.getD (r.2.1 / q0.P) 0=q.fi.getD (r.2.1 / q0.P) 0:=by rw[N,jB,kI λy=>z y.1.symm]
 refine⟨q4W q' r,.snoc h' ⟨?_,?_,by lia,f.n0,f.n1⟩,?_,?_,gE _⟩
 .rw[I,d,<-S,<-D];exact f.b
 .have:=f.f;rw[D]at this;rw[d,J];exact this
 .show q'.fi.set (r.2.1 / q'.P) (q'.fi.getD (r.2.1 / q'.P) 0+1)=(q.fi.set (r.2.1 / q.P) (q.fi.getD (r.2.1 / q.P) 0+1)).set b 0;rw[D,d,J,N,bW _ _ (λy=>z y.symm)]
 show(if q'.fi.getD (r.2.1 / q'.P) 0=0 then q'.bo.set (r.2.1 / q'.P) r.1 else q'.bo)=(if q.fi.getD (r.2.1 / q.P) 0=0 then q.bo.set (r.2.1 / q.P) r.1 else q.bo).set b 0;rw[D,d,J,O];split
 .rw[bW _ _ (λy=>z y.symm)]
 rfl)
theorem Rows.nx1{q0 q:QM}{R:List (Int×Nat×Int)}(h:Rows q0 R q)(h1:1<=q0.nx):1<=q.nx:=by(
induction h with
|nil=>exact h1
|@snoc R q r h f ih=>have:=f.s;show 1<=r.1+1;lia)
structure Fb(s:XS)(R:List (Int×Nat×Int))(q:QM):Prop where
rows:Rows ((newX s.q.B s.q.P).q) R q
rp:∀i v,s.pg i=some v->∃r∈R,r.2.1=i/\mkR r=v.1
pr:∀r∈R,∃u,s.pg r.2.1=some (mkR r,u)
fi:q.fi=s.q.fi
bo:q.bo=s.q.bo
nx:q.nx<=s.q.nx
section
variable{k:Tm}{s:XS}{n v:Int}{b:Nat}{R:List (Int×Nat×Int)}{q:QM}
set_option tactic.hygienic true in
theorem Fb.put(h:Fb s R q)(w:WX k s)(hr:0<s.rmX)(n0:0<=n)(n1:n<=64):Fb (s.put n v) (R++[(s.q.nx,s.np,n)]) (q4W q (s.q.nx,s.np,n)):=by(
obtain⟨U,O,Z,_⟩:=w.spot hr
obtain⟨N,D⟩:=h.rows.sh
have N:q.B=s.q.B:=N
have D:q.P=s.q.P:=D
have J:s.np / s.q.P=s.pb:=yC O
have d2:s.np%s.q.P=s.pf:=by unfold XS.np;rw[dN,cS,cL O]
have S:s.pg s.np=none:=w.cr s.pb s.pf U (by rw[Z];exact gE _) O
have I:∀i,(s.put n v).pg i=if i=s.np then some (s.q.nx*128+n,v)else s.pg i:=λi=>rfl
refine⟨.snoc h.rows ⟨?_,?_,h.nx,n0,n1⟩,λi u e=>?_,λr d=>?_,?_,?_,gE _⟩
.rw[N,D];show s.np / s.q.P< _;rw[J];exact U
.rw[D,h.fi];show s.q.fi.getD (s.np / s.q.P) 0=((s.np%s.q.P:Nat):Int);rw[J,d2];exact Z
.rw[I]at e;split at e
 .rename_i z;cases e;exact⟨(s.q.nx,s.np,n),by simp,z.symm,rfl⟩
 obtain⟨r,h1,h2⟩:=h.rp i u e;exact⟨r,gC _ h1,h2⟩
.rw[I];rcases gJ.mp d with d|d
 .obtain⟨u,e⟩:=h.pr r d;rw[kI λz=>by rw[z,S]at e;cases e];exact⟨u,e⟩
 rw[kE.mp d,kM rfl];exact⟨v,rfl⟩
.show q.fi.set (s.np / q.P) (q.fi.getD (s.np / q.P) 0+1)=s.q.fi.set s.pb (s.q.fi.getD s.pb 0+1);rw[D,J,h.fi]
show(if q.fi.getD (s.np / q.P) 0=0 then q.bo.set (s.np / q.P) s.q.nx else q.bo)=if s.q.fi.getD s.pb 0=0 then s.q.bo.set s.pb s.q.nx else s.q.bo
rw[D,J,h.fi,h.bo])
theorem qDX{B b:Nat}:(List.replicate B (0:Int)).set b 0=List.replicate B 0:=by(
refine qGL (by rw[gM]) λc z=>?_
rw[jB]
split
.exact rep8.symm
rfl)
set_option tactic.hygienic true in
theorem Fb.wip(h:Fb s R q)(w:WX k s):∃R' q',Fb (s.wip b) R' q':=by(
obtain⟨q',h1,h2,O,S⟩:=h.rows.wip (b:=b) qDX qDX
have d:∀i,(s.wip b).pg i=if i / s.q.P=b then none else s.pg i:=λi=>rfl
refine⟨_,q',h1,λi u e=>?_,λr N=>?_,by rw[h2,h.fi];rfl,by rw[O,h.bo];rfl,pE S h.nx⟩
.rw[d]at e;split at e
 .cases e
 rename_i z;obtain⟨r,J,D,I⟩:=h.rp i u e;exact⟨r,mK.mpr ⟨J,hC (by rw[D];exact z)⟩,D,I⟩
obtain⟨J,D⟩:=mK.mp N
have I:¬r.2.1 / s.q.P=b:=mI D
rw[d,kI I]
exact h.pr r J)
end
structure Ro(s:XS):Prop where
v6:∀i v,s.pg i=some v->v.1%128=64->0<=v.2/\v.2<2 ^ 64
on:∀n p w p' w',((64:Int),p)∈s.q.V->s.pg p.toNat=some w->(n,p')∈s.q.V->n≠64->s.pg p'.toNat=some w'->w.2.toNat.testBit n.toNat=true\/w.1<w'.1
of:∀i w',s.pg i=some w'->w'.1%128≠64->(∀p,(w'.1%128,p)∉s.q.V)->∃p w,((64:Int),p)∈s.q.V/\s.pg p.toNat=some w/\w.2.toNat.testBit (w'.1%128).toNat=false/\w'.1<w.1
section
variable{k:Tm}{s:XS}{n v:Int}{b:Nat}
theorem q16:∀{g:List Int} {s:XS} {y:Int×Int},y∈(s.forgs g).q.V↔y∈s.q.V/\y.1∉g
| [],s,y=>⟨λh=>⟨h,by simp⟩,λh=>h.1⟩
|m::g,s,y=>by show y∈((s.forg m).forgs g).q.V↔_;rw[q16 (g:=g)];show y∈jE s.q.V m/\_↔_;rw[j0,kN,not_or];exact⟨λh=>⟨h.1.1,h.1.2,h.2⟩,λh=>⟨⟨h.1,h.2.1⟩,h.2.2⟩⟩
theorem qBM:∀{g:List Int} {s:XS},(s.forgs g).pg=s.pg
| [],_=>rfl
|m::g,s=>qBM (g:=g) (s:=s.forg m)
theorem Ro.sheet(h:Ro s)(p:Pgs s)(w:WX k s)(hr:0<s.rmX)(n0:0<=n)(n1:n<64):Ro (s.put n v):=by(
obtain⟨hb,hf,ef,_⟩:=w.spot hr
have I:s.pg s.np=none:=w.cr s.pb s.pf hb (by rw[ef];exact gE _) hf
have d:∀i,(s.put n v).pg i=if i=s.np then some (s.q.nx*128+n,v)else s.pg i:=λi=>rfl
have J:∀{y:Int×Int},y∈s.q.V->∀{u},(s.put n v).pg y.2.toNat=some u->s.pg y.2.toNat=some u:=fun {y} hy {u} e=>by obtain⟨u',e',_⟩:=p.nw y hy;rw[d,kI λz=>by rw[z,I]at e';cases e']at e;exact e
have nw:∀{i u},s.pg i=some u->(s.put n v).pg i=some u:=fun {i u} e=>by rw[d,kI λz=>by rw[z,I]at e;cases e];exact e
refine⟨λi u e N=>?_,λm S O p2 w2 U e1 h2 m6 D=>?_,λi u e N Z=>?_⟩
.rw[d]at e;split at e
 .cases e;have N:(s.q.nx*128+n)%128=64:=N;lia
 exact h.v6 i u e N
.have U:((64:Int),S)∈s.q.V:=by
  rcases jJ.mp U with e|⟨e,_⟩
  .injection e with e _
   lia
  exact e
 have e3:=J U e1;rcases jJ.mp h2 with e|⟨h2,ne⟩
 .injection e with ea eb
  subst ea;subst eb;refine .inr ?_;have D:(s.put m v).pg ((s.pb*s.q.P+s.pf:Nat):Int).toNat=some w2:=D;rw[d,kM (by rw[mB];rfl)]at D;cases D;have:=(p.mr _ _ e3).2.1;show O.1<s.q.nx*128+m;lia
 exact h.on m S O p2 w2 U e3 h2 m6 (J h2 D)
rw[d]at e
split at e
.cases e;have en:(s.q.nx*128+n)%128=n:=by lia
 exact(Z _ (jJ.mpr (.inl (by show((s.q.nx*128+n)%128,_)=_;rw[en])))).elim
obtain⟨S,O,a1,a2,a3,a4⟩:=h.of i u e N λp' aa=>by
 by_cases z:u.1%128=n
 .exact Z _ (jJ.mpr (.inl (by rw[z])))
 exact Z p' (jJ.mpr (.inr ⟨aa,z⟩))
exact⟨S,O,jJ.mpr (.inr ⟨a1,λz=>by have z:(64:Int)=n:=z;lia⟩),nw a2,a3,a4⟩)
theorem Ro.roll(h:Ro s)(p:Pgs s)(w:WX k s)(hr:0<s.rmX){g:List Int}(v0:0<=v)(v1:v<2 ^ 64)(g6:(64:Int)∉g)(c1:∀m p',(m,p')∈s.q.V->m≠64->m∉g->v.toNat.testBit m.toNat=true)(c2:∀m,0<=m->m<64->(∀p',(m,p')∉s.q.V)\/m∈g->v.toNat.testBit m.toNat=false):Ro ((s.put 64 v).forgs g):=by(
obtain⟨hb,hf,ef,_⟩:=w.spot hr
have Z:s.pg s.np=none:=w.cr s.pb s.pf hb (by rw[ef];exact gE _) hf
have d:∀i,((s.put 64 v).forgs g).pg i=if i=s.np then some (s.q.nx*128+64,v)else s.pg i:=λi=>by rw[qBM];rfl
have D:((s.pb*s.q.P+s.pf:Nat):Int).toNat=s.np:=by rw[mB];rfl
refine⟨λi u e I=>?_,λm p1 w1 p2 w2 h6 N h2 O e2=>?_,λi u e I U=>?_⟩
.rw[d]at e;split at e
 .cases e;exact⟨v0,v1⟩
 exact h.v6 i u e I
.rcases jJ.mp (q16.mp h6).1 with e|⟨_,ne⟩
 .injection e with _ e
  subst e;rw[d,kM D]at N;cases N;obtain⟨h2,S⟩:=q16.mp h2;rcases jJ.mp h2 with e|⟨h2,_⟩
  .injection e with e _
   exact(O e).elim
  exact .inl (c1 m p2 h2 O S)
 exact(ne rfl).elim
rw[d]at e
split at e
.cases e;have I:(s.q.nx*128+64)%128≠64:=I;lia
have mr:=p.mr i u e
refine⟨_,(s.q.nx*128+64,v),q16.mpr ⟨jJ.mpr (.inl rfl),g6⟩,by rw[d,kM D],c2 _ (by lia) (by lia) ?_,by show u.1<s.q.nx*128+64;lia⟩
by_cases z:u.1%128∈g
.exact .inr z
exact .inl λp' J=>U p' (q16.mpr ⟨jJ.mpr (.inr ⟨J,I⟩),z⟩))
theorem Ro.wip(h:Ro s)(w:WX k s)(nl:∀y∈s.q.V,¬y.2 / (s.q.P:Int)=(b:Int)):Ro (s.wip b):=by(
have D:∀i,(s.wip b).pg i=if i / s.q.P=b then none else s.pg i:=λi=>rfl
have d:∀{i u},(s.wip b).pg i=some u->s.pg i=some u:=fun {i u} e=>by
 rw[D]at e;split at e
 .cases e
 exact e
refine⟨λi u e=>h.v6 i u (d e),λm z I S w2 h6 e1 h2 Z U=>h.on m z I S w2 h6 (d e1) h2 Z (d U),λi u e e6 O=>?_⟩
obtain⟨z,I,J,N,a3⟩:=h.of i u (d e) e6 O
obtain⟨c,f,_,_,hf,e,_⟩:=w.vl _ J
have e:z=_:=e
refine⟨z,I,J,?_,a3⟩
rw[D,kI λq=>nl _ J (by show z / _=_;rw[e,mB]at q;rw[e,<-dE,q])]
exact N)
end
theorem q3F{ns:List Int}(h:∀y∈ns,0<=y/\y<64){m:Int}(m0:0<=m):(XS.bits ns).toNat.testBit m.toNat=decide (m∈ns):=by(
unfold XS.bits
rw[mB,qBH,Nat.zero_testBit,bU]
by_cases z:m∈ns
.rw[hC z];exact hC (mF.mpr ⟨m,z,rfl⟩)
rw[hX z]
refine hX λy=>z ?_
obtain⟨x,d,e⟩:=mF.mp y
have:=h x d
rwa [show m=x by lia])
theorem qDY{ns:List Int}(h:∀y∈ns,0<=y/\y<64):0<=XS.bits ns/\XS.bits ns<2 ^ 64:=by
 unfold XS.bits;have:=qGI 64 (ns.map Int.toNat) 0 (by decide) λu d=>by obtain⟨y,z,rfl⟩:=mF.mp d;have:=h y z;lia
 lia
structure Fd(s:XS):Prop where
pg:Pgs s
ro:Ro s
q0:QS (newX s.q.B s.q.P).q
fb:∃R q,Fb s R q
section
variable{k:Tm}{s:XS}{n v:Int}{b:Nat}
theorem qH6(w:WX k s):∀y∈s.hl,0<=y/\y<64:=λy hy=>by(
obtain⟨h6,p,hp⟩:=q3U.mp hy
have:=w.qs.ok.nm _ hp
have:0<=y/\y<=64:=this
lia)
theorem Fd.put(h:Fd s)(w:WX k s)(hr:0<s.rmX)(n0:0<=n)(n1:n<=64)(r:Ro (s.put n v)):Fd (s.put n v):=by obtain⟨R,q,d⟩:=h.fb;exact⟨h.pg.put w hr n0 n1,r,h.q0,_,_,d.put w hr n0 n1⟩
theorem Fd.mv(h:Fd s)(w:WX k s)(hr:0<s.rmX){p:Int}(hn:(n,p)∈s.q.V):Fd (s.put n (s.val p n)):=by(
obtain⟨D,I⟩:=w.qs.ok.nm _ hn
have D:0<=n:=D
have I:n<=64:=I
refine h.put w hr D I ?_
by_cases z:n=64
.subst z;have N:=qH6 w;obtain⟨Z,v1⟩:=qDY N;have O:s.val p 64=XS.bits s.hl:=kM rfl;rw[O];refine Ro.roll (g:=[]) h.ro h.pg w hr Z v1 (by simp) (λm J d U F=>?_) (λm m0 m1 d=>?_)
 .have:=w.qs.ok.nm _ d;rw[q3F N this.1];exact hC (q3U.mpr ⟨U,J,d⟩)
 rw[q3F N m0];refine hX λy=>?_;obtain⟨_,J,S⟩:=q3U.mp y;rcases d with d|d
 .exact d J S
 exact absurd d (by simp)
exact h.ro.sheet h.pg w hr D (by lia))
theorem Fd.wip(h:Fd s)(w:WX k s)(hb:b<s.q.B)(nl:∀y∈s.q.V,¬y.2 / (s.q.P:Int)=(b:Int)):Fd (s.wip b):=by obtain⟨R,q,d⟩:=h.fb;exact⟨h.pg.wip w hb nl,h.ro.wip w nl,h.q0,d.wip w⟩
theorem Fb.forgs{R:List (Int×Nat×Int)}{q:QM}:∀{g:List Int} {s:XS},Fb s R q->Fb (s.forgs g) R q
| [],_,h=>h
|m::g,s,h=>Fb.forgs (g:=g) (s:=s.forg m) ⟨h.rows,h.rp,h.pr,h.fi,h.bo,h.nx⟩
theorem qDZ:∀{g:List Int} {s:XS},(s.forgs g).q.B=s.q.B/\(s.forgs g).q.P=s.q.P
| [],_=>⟨rfl,rfl⟩
|m::g,s=>qDZ (g:=g) (s:=s.forg m)
theorem Fd.room{X Y:Sx}{r:Except Rf Pa}(w:WX k X.s)(ok:X.g.Ok)(h:X.room k=(Y,r))(p:Fd X.s):Fd Y.s:=by(
unfold Sx.room at h
cases htk:X.s.tk k X.g with
|none=>rw[htk]at h;cases h;exact p
|some d=>
 obtain⟨y,b,g'⟩:=d;rw[htk]at h;dsimp only at h;have f:=q3E ok htk;obtain⟨s',n,ms,D,U,pg,I⟩:=q6T (λs' F=>Fd s') w f p (λs' ms n q N kp Z fb z J S O pg=>pg.mv N (by lia) z);rcases I with⟨e,_,_⟩|⟨e,_,nl⟩
 .rw[e]at h;cases h;exact pg
 rw[e]at h;dsimp only at h;split at h
 .cases h;exact pg
 cases h;exact pg.wip D.w (by rw[D.eB];exact f.b) nl)
theorem Fd.rooms:∀{i:Nat} {X Y:Sx} {r:Except Rf Unit},WX k X.s->X.g.Ok->X.rooms k i=some (Y,r)->Fd X.s->Fd Y.s
|0,X,Y,r,w,ok,h,p=>by
 unfold Sx.rooms at h;split at h
 .cases h;exact p
 cases h
|i+1,X,Y,r,w,ok,h,p=>by
 unfold Sx.rooms at h;split at h
 .cases h;exact p
 cases e:X.room k with
 |mk W o=>
  obtain⟨w',ok',_⟩:=qA7 w ok e;have p':=Fd.room w ok e p;rw[e]at h;cases o with
  |error q=>cases h;exact p'
  |ok q=>exact Fd.rooms w' ok' h p'
theorem Fd.sheet{i:Nat}{X Y:Sx}{r:Except Rf Nat}(w:WX k X.s)(ok:X.g.Ok)(n0:0<=n)(n1:n<64)(h:X.ask k i n v=some (Y,r))(p:Fd X.s):Fd Y.s:=by(
unfold Sx.ask at h
cases e:X.rooms k i with
|none=>rw[e]at h;cases h
|some I=>
 obtain⟨Z,o⟩:=I;obtain⟨D,_,_,_,_,rd⟩:=zP w ok e;have d:=Fd.rooms w ok e p;rw[e]at h;cases o with
 |error q=>cases h;exact d
 |ok u=>
  dsimp only at h;split at h
  .cases h;exact d
  cases h;have z:0<Z.s.rmX:=by have:=mI (rd rfl);lia
  exact d.put D z n0 (by lia) (d.ro.sheet d.pg D z n0 n1))
theorem Fd.roll{i:Nat}{X Y:Sx}{c:Nat}{g:List Int}(w:WX k X.s)(ok:X.g.Ok)(hg:∀m∈g,m∈X.s.hl)(h:X.ask k i 64 (XS.bits (rst X.s.hl g))=some (Y,.ok c))(p:Fd X.s):Fd (Y.s.forgs g):=by(
unfold Sx.ask at h
cases e:X.rooms k i with
|none=>rw[e]at h;cases h
|some Zr=>
 obtain⟨Z,o⟩:=Zr;obtain⟨I,_,kp,_,_,rd⟩:=zP w ok e;have D:=Fd.rooms w ok e p;rw[e]at h;cases o with
 |error q=>cases h
 |ok u=>
  dsimp only at h;split at h
  .cases h
  cases h;have N:0<Z.s.rmX:=by have:=mI (rd rfl);lia
  have J:∀y∈rst X.s.hl g,0<=y/\y<64:=λy hy=>qH6 w y (mK.mp hy).1;have g6:(64:Int)∉g:=λz=>(q3U.mp (hg _ z)).1 rfl;obtain⟨v0,v1⟩:=qDY J;obtain⟨R,q,S⟩:=D.fb;have S:=(S.put (v:=XS.bits (rst X.s.hl g)) I N (by decide) (gE 64)).forgs (g:=g);obtain⟨f1,f2⟩:=qDZ (g:=g) (s:=Z.s.put 64 (XS.bits (rst X.s.hl g)));refine⟨(D.pg.put I N (by decide) (gE 64)).forgs λm d z=>g6 (z▸d),D.ro.roll D.pg I N v0 v1 g6 (λm O d m6 ng=>?_) (λm m0 m1 d=>?_),?_,_,_,S⟩
  .have:=I.qs.ok.nm _ d;rw[q3F J this.1];refine hC (mK.mpr ⟨q3U.mpr ⟨m6,(kp.nm m).mp ⟨O,d⟩⟩,?_⟩);rw[hX ng];rfl
  .rw[q3F J m0];refine hX λy=>?_;obtain⟨y1,U⟩:=mK.mp y;rcases d with d|d
   .obtain⟨O,hq⟩:=(kp.nm m).mpr (q3U.mp y1).2;exact d O hq
   rw[hC d]at U;cases U
  show QS (newX ((Z.s.put 64 _).forgs g).q.B ((Z.s.put 64 _).forgs g).q.P).q;rw[f1,f2];exact D.q0)
end
theorem qJ3{B P:Nat}(h:QS (newX B P).q):Fd (newX B P):=⟨qH3,⟨λi v e=>(by cases e),λn p w p' w' h=>absurd (show _∈([]:Mp)from h) (by simp),λi w e=>(by cases e)⟩,h,[],_,.nil,λi v e=>(by cases e),λr hr=>absurd hr (by simp),rfl,rfl,gE _⟩
theorem Rows.new{q0 q:QM}{R:List (Int×Nat×Int)}(h:Rows q0 R q)(e:q0.V=[]):(∀y∈q.V,∃r∈R,y=(r.2.2,(r.2.1:Int))/\∀r'∈R,r'.2.2=y.1->mkR r'<=mkR r)/\(∀r∈R,∃p,(r.2.2,p)∈q.V)/\∀r∈R,0<=r.2.2/\r.2.2<=64:=by(
induction h with
|nil=>exact⟨by rw[e];exact λy D=>absurd D (by simp),λr d=>absurd d (by simp),λr d=>absurd d (by simp)⟩
|@snoc R q r h f ih=>
 obtain⟨S,J,i3⟩:=ih;have Z:r.2.1 / q.P*q.P+r.2.1%q.P=r.2.1:=by rw[dN];exact pX _ _
 have U:(q4W q r).V=jE q.V r.2.2++[(r.2.2,(r.2.1:Int))]:=by show jE q.V r.2.2++[(r.2.2,((r.2.1 / q.P*q.P+r.2.1%q.P:Nat):Int))]=_;rw[Z]
 have mk:=h.marks.1;have fs:=f.s;have n0:=f.n0;rw[U];refine⟨λy D=>?_,λr' d=>?_,λr' d=>?_⟩
 .rcases gJ.mp D with D|D
  .obtain⟨D,ne⟩:=j0.mp D;obtain⟨r1,a1,N,a3⟩:=S y D;refine⟨r1,gC _ a1,N,λr' d I=>?_⟩;rcases gJ.mp d with d|d
   .exact a3 r' d I
   rw[kE.mp d]at I;exact(ne I.symm).elim
  refine⟨r,by simp,kE.mp D,λr' d F=>?_⟩;rcases gJ.mp d with d|d
  .have:=mk r' d;unfold mkR at this ⊢;lia
  rw[kE.mp d];exact gE _
 .by_cases z:r'.2.2=r.2.2
  .exact⟨(r.2.1:Int),kY _ (by rw[z];simp)⟩
  rcases gJ.mp d with d|d
  .obtain⟨p,O⟩:=J r' d;exact⟨p,gC _ (j0.mpr ⟨O,z⟩)⟩
  exact(z (by rw[kE.mp d])).elim
 rcases gJ.mp d with d|d
 .exact i3 r' d
 rw[kE.mp d];exact⟨f.n0,f.n1⟩)
theorem qE0{V:Mp}{n p p':Int}(nd:(V.map (·.1)).Nodup)(h:(n,p)∈V)(h':(n,p')∈V):p=p':=by
 have:=(q7S nd h).symm.trans (q7S nd h');injection this with this
 injection this
theorem Fb.found{k:Tm}{s:XS}{R:List (Int×Nat×Int)}{q:QM}(h:Fb s R q)(d:Fd s)(w:WX k s)(tp:Top s){gl:List Int}(hg:gl.Perm ((hdN q.V).filter (gnB s.pg q.V))):(jP q gl).V.Perm s.q.V/\(jP q gl).lv=s.q.lv/\(jP q gl).fi=s.q.fi/\(jP q gl).bo=s.q.bo/\(jP q gl).nx=s.q.nx:=by(
have qs:=h.rows.qs d.q0
obtain⟨N1,N2,N3⟩:=h.rows.new rfl
have J:∀r∈R,mkR r%128=r.2.2:=λr D=>by have:=N3 r D;unfold mkR;lia
have A:∀y∈s.q.V,y∈q.V:=λy N=>by
 obtain⟨u,e1,e2,e3⟩:=d.pg.nw y N;obtain⟨r,D,er,em⟩:=h.rp _ _ e1;have Z:r.2.2=y.1:=by rw[<-J r D,em,e2]
 obtain⟨p,U⟩:=N2 r D;obtain⟨r2,ac,ep,nw⟩:=N1 _ U;injection ep with ep1 ep2
 obtain⟨u2,ah⟩:=h.pr r2 ac;have l1:=nw r D rfl;have l2:=e3 _ _ ah (by show mkR r2%128=_;rw[J r2 ac,<-ep1,Z]);have l2:mkR r2<=u.1:=l2;have:=d.pg.one _ _ _ _ ah e1 (by show mkR r2 / 128=u.1 / 128;rw[show mkR r2=u.1 by lia]);obtain⟨c,f,_,_,_,ey,_⟩:=w.vl y N;have e5:p=y.2:=by rw[ep2,this];lia
 rw[show y=(r.2.2,p) by rw[Z,e5]];exact U
have S:∀n,n∈gl↔n∈hdN q.V/\gnB s.pg q.V n=true:=λn=>by rw[hg.mem_iff,mK]
have val:∀{n p},(n,p)∈q.V->∃r∈R,p=(r.2.1:Int)/\n=r.2.2/\∃u,s.pg p.toNat=some (mkR r,u)/\vlP s.pg q.V n=(mkR r,u):=fun {n p} U=>by
 obtain⟨r,D,ep,_⟩:=N1 _ U;injection ep with ep1 ep2
 obtain⟨u,I⟩:=h.pr r D;have I:s.pg p.toNat=some (mkR r,u):=by rw[ep2,mB];exact I
 exact⟨r,D,ep2,ep1,u,I,qA9 qs.ok.nd U I⟩
have pm:(jP q gl).V.Perm s.q.V:=by
 rw[q5I];refine q1I (gZ _ ((gN.mp qs.ok.nd).imp fun {a b} ne e=>ne (by rw[e]))) ((gN.mp w.qs.ok.nd).imp fun {a b} ne e=>ne (by rw[e])) λy=>?_;rw[mK,mC];constructor
 .rintro⟨N,ng⟩
  obtain⟨n,p⟩:=y;obtain⟨r,D,ep,Z,u,I,ev⟩:=val N;have ex:(∃p',(n,p')∈s.q.V)->(n,p)∈s.q.V:=λ⟨p',O⟩=>by rw[qE0 qs.ok.nd N (A _ O)];exact O
  by_cases z:n=64
  .refine ex ?_;rw[z];exact d.pg.rl ⟨_,_,I,by show mkR r%128=64;rw[J r D,<-Z,z]⟩
  refine sR λno=>?_;have nm:mkR r%128=n:=by rw[J r D,<-Z]
  obtain⟨p6,w6,a1,a2,a3,a4⟩:=d.ro.of _ _ I (by show mkR r%128≠64;rw[nm];exact z) (λp' O=>no (ex ⟨p',by rw[<-nm];exact O⟩));refine ng ((S n).mpr ⟨zK.mpr ⟨z,p,N⟩,?_⟩);have a3:w6.2.toNat.testBit (mkR r%128).toNat=false:=a3;have a4:mkR r<w6.1:=a4;rw[nm]at a3;unfold gnB;rw[qA9 qs.ok.nd (A _ a1) a2,ev,a3,hC a4,rQ.mpr ⟨_,A _ a1,hC rfl⟩];rfl
 intro N;refine⟨A y N,λz=>?_⟩;obtain⟨n,p⟩:=y;obtain⟨z1,z2⟩:=(S n).mp z;have n6:=(zK.mp z1).1;obtain⟨r,D,ep,Z,u,I,ev⟩:=val (A _ N);unfold gnB at z2;rw[mU,mU]at z2;obtain⟨z2,z3,z4⟩:=z2;obtain⟨x,hx,ex⟩:=rQ.mp z2;obtain⟨x1,x2⟩:=x;have ex:x1=64:=mI ex;subst ex;obtain⟨r6,ak,_,e6,u6,af,al⟩:=val hx;obtain⟨p6,ag⟩:=d.pg.rl ⟨_,_,af,by show mkR r6%128=64;rw[J r6 ak,<-e6]⟩;have:x2=p6:=qE0 qs.ok.nd hx (A _ ag);subst this;rw[al]at z3 z4;rw[ev]at z4;have z4:=mI z4;rcases d.ro.on n x2 _ p _ ag af N n6 I with y|y
 .rw[show((mkR r6,u6):Int×Int).2.toNat.testBit n.toNat=true from y]at z3;cases z3
 have y:mkR r6<mkR r:=y;have z4:mkR r<mkR r6:=z4;lia
obtain⟨f1,f2,f3,f4,f5,f6⟩:=q1K (l:=gl) qs
refine⟨pm,?_,f4.trans h.fi,f5.trans h.bo,f6.trans ?_⟩
.rw[f1.lvW,w.qs.lvW,f2,f3,show q.B=s.q.B from h.rows.sh.1,show q.P=s.q.P from h.rows.sh.2];exact qGM pm
have h1:=h.nx
rcases tp with e|⟨n,p,u,U,I,et⟩
.have:=(Rows.nx1 h.rows (gE 1));lia
obtain⟨r,D,_,em⟩:=h.rp _ _ I
have:=h.rows.marks.1 r D
lia)
end W1
namespace L2
open PySem PySem.Spec PyProof.Rows
section
variable{X:Cx}
theorem qET:MtR X "int.bit_length" (λx vs H Q=>∃i,x=.int i/\vs=[]/\Q (.int (Builtin.Int.intBits i)) H):=by(
intro pins s σ H x xs v D Q I z d h
obtain⟨i,rfl,rfl,q⟩:=h
obtain⟨t,rfl⟩:=z
cases d
exact PyProof.Rows.call_int_bit_length ⟨.int _,H,I.tok _,⟨_,rfl⟩,q⟩)
end
end L2
namespace W1
open PySem L2
structure R8(k:Tm)(sh:Int)(sr:Nat)(X:Sx)(j:Nat):Prop where
x:Ix k X.s
ge:(1+k.ie)*X.s.q.P<=X.s.rmX
ok:X.g.Ok
lf:X.s.lf=none
fd:Fd X.s
tp:Top X.s
nm:∀m∈hdN X.s.q.V,0<=m/\m<sh
hd:(hdN X.s.q.V).length<=sr
hs:sr+2<=(X.s.q.B-(1+k.ie))*X.s.q.P
s5:sr<=50
s6:sh<=64
rcn:X.s.rc.length<=300*j
psn:X.ps.length<=20*j
section
variable{k:Tm}{sh:Int}{sr:Nat}{X:Sx}{j:Nat}{n v:Int}
theorem qCS{s:XS}(w:WX k s):(hdN s.q.V).Nodup:=gZ _ w.qs.ok.nd
theorem qJO{V:Mp}(nd:(V.map (·.1)).Nodup):V.length<=(hdN V).length+1/\((∃p,((64:Int),p)∈V)\/V.length<=(hdN V).length):=by(
refine⟨qLC nd,?_⟩
by_cases z:∃p,((64:Int),p)∈V
.exact .inl z
refine .inr ?_
unfold hdN
rw[dX.mpr,kB]
.exact kO _
intro a D
obtain⟨y,d,rfl⟩:=mF.mp D
exact hC λe=>z ⟨y.2,by rw[<-e];exact d⟩)
theorem R8.asked(h:R8 k sh sr X j)(n0:0<=n)(n1:n<=64)(hl:(∃p,(n,p)∈X.s.q.V)\/X.s.q.V.length<=sr):((∃p,(n,p)∈X.s.q.V)\/X.s.q.V.length<59)/\∃Y qs p,X.ask k 17 n v=some (Y,.ok p)/\AskO k 17 X n v Y qs p/\Y.s.lf=none/\Y.s.rc.length<=300*(j+1)/\Y.ps.length<=20*(j+1):=by(
have d:=h.hs
have I:=h.s5
refine⟨hl.imp id λz=>by lia,?_⟩
rcases qIT (n:=n) (v:=v) h.x (Wt.of h.ge) h.ok (qDT h.x) n0 n1 (hl.imp id λz=>⟨by lia,by lia⟩)with⟨Y,qs,p,hZ,a⟩|⟨Y,qs,hZ,a⟩
.have O:=a.rl;have D:=a.ln;have N:=qDT h.x;have J:=h.rcn;have r2:=h.psn;refine⟨Y,qs,p,hZ,a,qDU h.x.w h.ok hZ h.lf,by lia,?_⟩;rw[a.ps,mH];lia
have:=qDU h.x.w h.ok hZ h.lf
rw[a.lf]at this
cases this)
theorem R8.sheet(h:R8 k sh sr X j)(n0:0<=n)(n1:n<sh)(nf:¬(n∉hdN X.s.q.V/\sr<=(hdN X.s.q.V).length)):((∃p,(n,p)∈X.s.q.V)\/X.s.q.V.length<59)/\∃Y p,X.ask k 17 n v=some (Y,.ok p)/\R8 k sh sr Y (j+1)/\Y.s.q.B=X.s.q.B/\Y.s.q.P=X.s.q.P:=by(
have N:=h.s6
have J:=h.hd
obtain⟨S,O⟩:=qJO h.x.w.qs.ok.nd
obtain⟨hl,Y,qs,p,I,a,lf,rc,ps⟩:=h.asked (n:=n) (v:=v) n0 (by lia) (by
 by_cases z:n∈hdN X.s.q.V
 .exact .inl (zK.mp z).2
 have:¬sr<=(hdN X.s.q.V).length:=λy=>nf ⟨z,y⟩;exact .inr (by lia))
have D:∀m,m∈hdN Y.s.q.V↔m=n\/m∈hdN X.s.q.V:=λm=>by
 rw[zK,zK,a.nm m];constructor
 .rintro⟨m6,e|e⟩
  .exact .inl e
  exact .inr ⟨m6,e⟩
 rintro(e|⟨m6,e⟩)
 .exact⟨by lia,.inl e⟩
 exact⟨m6,.inr e⟩
refine⟨hl,Y,p,I,⟨a.x,a.ge,a.ok,lf,Fd.sheet h.x.w h.ok n0 (by lia) I h.fd,.inr ⟨n,qDV n0 (by lia) I⟩,λm d=>?_,?_,by rw[a.eB,a.eP];exact h.hs,h.s5,N,rc,ps⟩,a.eB,a.eP⟩
.rcases(D m).mp d with e|d
 .lia
 exact h.nm m d
by_cases z:n∈hdN X.s.q.V
.exact mL (q9H (qCS a.x.w) λm d=>by
  rcases(D m).mp d with e|d
  .rw[e];exact z
  exact d) J
have:¬sr<=(hdN X.s.q.V).length:=λy=>nf ⟨z,y⟩
have:=q9H (m:=n::hdN X.s.q.V) (qCS a.x.w) λm d=>by
 rcases(D m).mp d with e|d
 .rw[e];exact kU
 exact hU _ d
rw[mM]at this
lia)
theorem R8.give(h:R8 k sh sr X j){g:List Int}(hg:∀m∈g,m∈X.s.hl):((∃p,((64:Int),p)∈X.s.q.V)\/X.s.q.V.length<59)/\∃Y p,X.ask k 17 64 (XS.bits (rst X.s.hl g))=some (Y,.ok p)/\R8 k sh sr ⟨Y.s.forgs g,Y.g,Y.ps⟩ (j+1)/\(Y.s.forgs g).q.B=X.s.q.B/\(Y.s.forgs g).q.P=X.s.q.P:=by(
have hd:=h.hd
obtain⟨l1,U⟩:=qJO h.x.w.qs.ok.nd
obtain⟨hl,Y,qs,p,D,a,lf,rc,ps⟩:=h.asked (n:=64) (v:=XS.bits (rst X.s.hl g)) (by decide) (by decide) (U.imp id λz=>by lia)
obtain⟨S,f2,f3,f4,f5,N,J,Z,_⟩:=qCQ a.x g
have g6:(64:Int)∉g:=λz=>(q3U.mp (hg _ z)).1 rfl
have d:∀m∈hdN (Y.s.forgs g).q.V,m∈hdN X.s.q.V:=λm I=>by
 obtain⟨O,e⟩:=zK.mp I;rcases(a.nm m).mp ((Z m).mp e).2 with e|e
 .exact(O e).elim
 exact zK.mpr ⟨O,e⟩
refine⟨hl,Y,p,D,⟨S,?_,a.ok,f5.trans lf,Fd.roll h.x.w h.ok hg D h.fd,.inr ⟨64,(qDV (by decide) (by decide) D).forgs g6⟩,λm I=>h.nm m (d m I),mL (q9H (qCS S.w) d) hd,?_,h.s5,h.s6,by show(Y.s.forgs g).rc.length<=_;rw[f3];exact rc,ps⟩,N.trans a.eB,J.trans a.eP⟩
.show(1+k.ie)*(Y.s.forgs g).q.P<=(Y.s.forgs g).rmX;rw[f2,J];exact a.ge
show sr+2<=((Y.s.forgs g).q.B-(1+k.ie))*(Y.s.forgs g).q.P
rw[N,J,a.eB,a.eP]
exact h.hs)
end
theorem R8.new{k:Tm}{sh:Int}{sr B P:Nat}{g:Rl}(b2:B<=16)(p1:1<=P)(p2:P<=16)(hk:1+k.ie<B)(s1:1<=k.sp)(ok:g.Ok)(hs:sr+2<=(B-(1+k.ie))*P)(s5:sr<=50)(s6:sh<=64):R8 k sh sr ⟨newX B P,g,[]⟩ 0:=by obtain⟨x,d⟩:=qIU (k:=k) b2 p1 p2 hk s1;exact⟨x,d,ok,rfl,qJ3 x.w.qs,.inl rfl,λm z=>absurd z (by simp[hdN,newX]),by simp[hdN,newX],hs,s5,s6,kO _,kO _⟩
end W1
namespace L2
open PySem PySem.Spec PyProof.Rows
abbrev Fn1(K:PySem.W.Frag)(x q:Str)(st:Stmt)(f:Addr)(ps:List Str):Prop:=∃fd,FunD K x q st .none f fd/\jQ K fd ps []
noncomputable def Fn1.fd{K:PySem.W.Frag}{x q:Str}{st:Stmt}{f:Addr}{ps:List Str}(h:Fn1 K x q st f ps):FuncData:=Classical.choose h
theorem Fn1.F{K:PySem.W.Frag}{x q:Str}{st:Stmt}{f:Addr}{ps:List Str}(h:Fn1 K x q st f ps):FunD K x q st .none f h.fd:=(Classical.choose_spec h).1
theorem Fn1.b{K:PySem.W.Frag}{x q:Str}{st:Stmt}{f:Addr}{ps:List Str}(h:Fn1 K x q st f ps):jQ K h.fd ps []:=(Classical.choose_spec h).2
noncomputable abbrev Fn1.Ok0{K:PySem.W.Frag}{x q:Str}{st:Stmt}{f:Addr}{ps:List Str}(F:Fn1 K x q st f ps)(P:Program)(w:World)(mg:Str->Option Value)(base:Heap)(k:Nat)(sp:Sp):Prop:=FnOk P w K mg base CX0 k f F.fd ps sp
noncomputable abbrev Fn1.OkE{K:PySem.W.Frag}{x q:Str}{st:Stmt}{f:Addr}{ps:List Str}(F:Fn1 K x q st f ps)(P:Program)(w:World)(mg:Str->Option Value)(base:Heap)(k:Nat)(sp:Sp):Prop:=FnOk P w K mg base (CXe P w) k f F.fd ps sp
noncomputable abbrev FnX(K:PySem.W.Frag)(x q:Str)(st:Stmt)(f:Addr):Prop:=∃fd,FunD K x q st .none f fd
section
variable{K:PySem.W.Frag}{x q:Str}{st:Stmt}{f:Addr}{ps:List Str}
noncomputable def BnX(x q:Str)(st:Stmt)(ps:List Str):Prop:=∀(kV doc pm:Value) (an:Option Addr) (cdv ct:Value) (us:List Value),us.length=ps.length->bindArgs (PySem.W.fnOf x q (yE st) (jV st) (qF st) .none kV doc pm an cdv ct) ⟨us,[]⟩=pure (ps.zip us)
theorem fn1b(h:BnX x q st ps){fd:FuncData}(F:FunD K x q st .none f fd):jQ K fd ps []:=by obtain⟨U,od,kV,d,N,J,z,O,D,rfl,Z,I⟩:=F.ex;exact jQ.all λS hl=>h kV d N J z O S hl
theorem lnx{us:List Value}{n:Nat}(h:us.length=n):us=(List.range n).map (us.getD · .none):=by subst h;refine dL (by simp) λi h1 h2=>?_;simp[kF h1]
theorem bnx(h:∀kV doc pm an cdv ct (g:Nat->Value),bindArgs (PySem.W.fnOf x q (yE st) (jV st) (qF st) .none kV doc pm an cdv ct) ⟨(List.range ps.length).map g,[]⟩=pure (ps.zip ((List.range ps.length).map g))):BnX x q st ps:=λkV doc pm an cdv ct us hl=>by rw[lnx hl];exact h ..
theorem fn1 (l:FnX K x q st f) (h:∀kV doc pm an cdv ct (g:Nat->Value),bindArgs (PySem.W.fnOf x q (yE st) (jV st) (qF st) .none kV doc pm an cdv ct) ⟨(List.range ps.length).map g,[]⟩=pure (ps.zip ((List.range ps.length).map g)):=by intros;rfl):Fn1 K x q st f ps:=⟨l.choose,l.choose_spec,fn1b (bnx h) l.choose_spec⟩
theorem FnX.bind1{a:Str}{fd:FuncData}(h:∀kV doc pm an cdv ct u,bindArgs (PySem.W.fnOf x q (yE st) (jV st) (qF st) .none kV doc pm an cdv ct) ⟨[u],[]⟩=pure [(a,u)])(F:FunD K x q st .none f fd)(s:Shared)(v:Value):BindsTo s fd ⟨[v],[]⟩ [(a,v)]:=by obtain⟨I,od,kV,doc,pm,an,cdv,ct,d,rfl,D,z⟩:=F.ex;exact .of_eq (h kV doc pm an cdv ct v)
theorem FnX.of{oc:Value}{od an:Option Addr}{osl:Array (Option Value)}{kV doc pm cdv ct:Value}(l:K.lookup f=some ⟨oc,od,.func (PySem.W.fnOf x q (yE st) (jV st) (qF st) .none kV doc pm an cdv ct),osl⟩)(c:PySem.W.codeIn K cdv q=true):FnX K x q st f:=⟨_,FunD.mk' l c⟩
theorem qO{N P:List Str}{sc:Scope}(h:(sc.kind=.function/\sc.isCoroutine=false/\sc.isGenerator=false)/\N.Nodup/\N.take P.length=P/\(∀x∈P,sc.names.lookup x=some .local\/sc.names.lookup x=some .cell)/\∀y∈sc.names,y.2≠ .free):FnScope N P sc:=⟨h.1.1,h.1.2.1,h.1.2.2,h.2.1,h.2.2.1,h.2.2.2.1,h.2.2.2.2⟩
end
noncomputable abbrev GFn(K:PySem.W.Frag)(n:Str)(f:Addr):Prop:=PySem.W.nsIn K mainGlobals n=some (some (.ref f))/\PySem.W.keepIn K (.ref f)=true
theorem sz0:0<=sizeLine:=by decide
theorem sz1:1<=sizeLine:=by decide
theorem sz2:2<=sizeLine:=by decide
theorem sz3:3<=sizeLine:=by decide
theorem sz4:4<=sizeLine:=by decide
theorem sz5:5<=sizeLine:=by decide
end L2
namespace W1
open PySem L2
noncomputable def top(i:Nat):Stmt:=PySem.Challenge.pw_wornpages_k68_refused_in_the_dark.main.body.getD i (.Pass ⟨0,0,0,0⟩)
noncomputable abbrev q3V:Stmt:=(top 3)
noncomputable abbrev q2I:Stmt:=(top 4)
noncomputable abbrev q3W:Stmt:=(top 5)
noncomputable abbrev q3X:Stmt:=(top 6)
noncomputable abbrev q5J:Stmt:=(top 10)
noncomputable abbrev q3Y:Stmt:=(top 11)
noncomputable abbrev q5K:Stmt:=(top 12)
noncomputable abbrev q5L:Stmt:=(top 13)
noncomputable abbrev q2J:Stmt:=(top 14)
noncomputable abbrev q2K:Stmt:=(qM (top 16) 0)
noncomputable abbrev q2L:Stmt:=(qM (top 16) 1)
noncomputable abbrev q2M:Stmt:=(qM (top 16) 2)
noncomputable abbrev q0G:Stmt:=(qM (top 16) 3)
noncomputable abbrev zT:Stmt:=(qM (top 16) 4)
noncomputable abbrev zA:Stmt:=(qM (top 16) 5)
noncomputable abbrev v5:Stmt:=(qM (top 16) 6)
noncomputable abbrev q2N:Stmt:=(qM (top 16) 7)
noncomputable abbrev q2O:Stmt:=(qM (top 16) 8)
noncomputable abbrev q1L:Stmt:=(qM (top 31) 0)
noncomputable abbrev q1M:Stmt:=(qM (top 31) 1)
noncomputable abbrev jW:Stmt:=(qM (top 31) 2)
noncomputable abbrev q1N:Stmt:=(qM (top 31) 3)
noncomputable abbrev q1O:Stmt:=(qM (top 31) 4)
noncomputable abbrev q0H:Stmt:=(qM (top 31) 6)
noncomputable abbrev vK:Stmt:=(qM (top 31) 8)
noncomputable abbrev q0I:Stmt:=(qM (top 31) 10)
noncomputable abbrev zB:Stmt:=(qM (top 31) 11)
noncomputable abbrev q1P:Stmt:=(qM (top 31) 13)
noncomputable abbrev uE:Stmt:=(qM (top 31) 14)
noncomputable abbrev uF:Stmt:=(qM (top 31) 15)
noncomputable abbrev q3Z:Stmt:=(top 33)
noncomputable abbrev q1Q:Stmt:=(qM (top 34) 0)
noncomputable abbrev q0J:Stmt:=(qM (top 34) 3)
noncomputable abbrev q0K:Stmt:=(qM (top 34) 4)
noncomputable abbrev v7:Stmt:=(qM (top 34) 5)
noncomputable abbrev yP:Stmt:=(qM (top 34) 6)
noncomputable abbrev yQ:Stmt:=(qM (top 34) 9)
noncomputable abbrev q0L:Stmt:=(qM (top 34) 10)
noncomputable abbrev yV:Stmt:=(qM (top 34) 11)
noncomputable abbrev v8:Stmt:=(qM (top 34) 13)
noncomputable abbrev v9:Stmt:=(qM (top 34) 14)
noncomputable abbrev uP:Stmt:=(qM (top 34) 16)
noncomputable abbrev q1R:Stmt:=(qM (top 36) 0)
noncomputable abbrev vL:Stmt:=(qM (top 36) 2)
noncomputable abbrev zU:Stmt:=(qM (top 36) 3)
noncomputable abbrev q0M:Stmt:=(qM (top 36) 4)
noncomputable abbrev qW:Stmt:=(qM (top 36) 5)
noncomputable abbrev zC:Stmt:=(qM (top 38) 0)
noncomputable abbrev q2P:Stmt:=(qM (top 38) 1)
noncomputable abbrev zV:Stmt:=(qM (top 38) 2)
noncomputable abbrev q40:Stmt:=(qM (top 38) 3)
noncomputable abbrev yJ:Stmt:=(qM (top 38) 4)
noncomputable abbrev q1S:Stmt:=(qM (top 38) 5)
noncomputable abbrev vA:Stmt:=(qM (top 38) 6)
noncomputable abbrev vB:Stmt:=(qM (top 38) 7)
noncomputable abbrev zW:Stmt:=(top 40)
noncomputable abbrev vC:Stmt:=(top 41)
noncomputable abbrev q5M:Stmt:=(top 42)
noncomputable abbrev q5N:Stmt:=(top 43)
noncomputable abbrev q2Q:Stmt:=(top 45)
noncomputable abbrev uW:Stmt:=(qM (top 46) 0)
noncomputable abbrev q41:Stmt:=(qM (top 46) 1)
noncomputable abbrev q2R:Stmt:=(qM (top 46) 2)
noncomputable abbrev q2S:Stmt:=(qM (top 46) 3)
noncomputable abbrev vM:Stmt:=(qM (top 46) 4)
noncomputable abbrev zD:Stmt:=(qM (top 46) 5)
noncomputable abbrev zX:Stmt:=(qM (top 46) 6)
noncomputable abbrev zY:Stmt:=(qM (top 46) 7)
noncomputable abbrev q0N:Stmt:=(qM (top 46) 8)
noncomputable abbrev q1T:Stmt:=(qM (top 46) 9)
noncomputable abbrev vD:Stmt:=(qM (top 46) 10)
noncomputable abbrev uQ:Stmt:=(qM (top 46) 11)
noncomputable abbrev uR:Stmt:=(qM (top 46) 12)
noncomputable abbrev vE:Stmt:=(qM (top 46) 13)
noncomputable abbrev zE:Stmt:=(qM (top 46) 14)
noncomputable abbrev zZ:Stmt:=(qM (top 46) 15)
noncomputable abbrev q7T:Stmt:=(top 48)
noncomputable abbrev q0O:Stmt:=(top 51)
noncomputable abbrev vO:Stmt:=(top 52)
noncomputable abbrev q0P:Stmt:=(qM (top 53) 1)
noncomputable abbrev uG:Stmt:=(qM (top 54) 0)
noncomputable abbrev uC:Stmt:=(qM (top 57) 0)
noncomputable abbrev q00:Stmt:=(qM (top 57) 1)
noncomputable abbrev q0Q:Stmt:=(top 59)
noncomputable abbrev q5O:Stmt:=(top 60)
noncomputable abbrev zF:Stmt:=(top 61)
noncomputable abbrev q2T:Stmt:=(top 62)
noncomputable abbrev q5P:Stmt:=(top 63)
noncomputable abbrev q42:Stmt:=(top 64)
noncomputable abbrev q43:Stmt:=(top 65)
noncomputable abbrev q1U:Stmt:=(top 66)
noncomputable abbrev qH7:Stmt:=(top 67)
set_option genInjectivity false in
structure Adr where
(f_is_whole f_is_within f_is_shape f_is_value f_mark_of f_stamp_of f_name_of f_bits_of f_sheets_of f_Book_init f_Book_mark f_Book_note f_Book_forget f_Book_emptied f_Book_start_at f_Book_live_pages f_Book_held f_Book_tell f_Plain_init f_Plain_good f_Plain_free f_Plain_part f_Plain_spot f_Plain_ready f_Plain_set_down f_Plain_write f_Plain_give_up f_Plain_held f_Plain_check_sheet f_Plain_check_share f_paper_of f_Store_init f_Store_tally f_Store_space f_Store_full_ones f_Store_with_dead_page f_Store_choice_by_rule f_Store_moved f_Store_value_to_move f_Store_clear_out f_Store_make_room f_Store_make_rooms f_Even_least f_Even_clearable f_Even_options f_Even_choice f_Even_block_to_change f_Sure_failures f_Sure_worn f_Sure_reserve f_Sure_lay f_Sure_set_down_or_fail f_Sure_wiped f_Sure_make_ready f_Sure_check_worn f_marked_pages f_sheets_given_up f_book_of f_come_up f_limits_of f_Chip_init f_Chip_put f_Chip_wipe f_Chip_read f_Chip_cut_after f_Chip_power_on f_Chip_is_dark f_Chip_cleared f_Chip_failed f_Chip_deeds f_Chip_check_page f_Chip_check_block f_Chip_check_power f_Chip_check_deed f_Chip_is_spent f_Chip_do_deed f_faults f_is_unbeaten f_first_unbeaten f_Rule_choose f_Fewest_goes_ahead f_Terms_init f_Terms_closed f_law_cell_at f_law_mix f_law_terms_row f_law_other f_law_ask f_law_kind f_law_came f_law_looked f_law C_Book C_Plain C_Sure C_Chip C_Fewest C_Eldest C_Terms C_WornError C_PowerGone C_BlockFailed C_NoTerms C_Full C_NoRoom:Addr)
oH:Tok
aDT:Tok
aCA:Tok
aBY:Addr
eC:Addr
iC:Addr
eD:Addr
structure Txt(K:W.Frag)(mg:Str->Option Value)(t:Adr):Prop where
aFE:mg "Book"=some (.ref t.C_Book)
eI:Cls K t.C_Book
aC4:qR K t.C_Book "blocks"
iW:qR K t.C_Book "pages"
fH:qR K t.C_Book "stamp"
eW:qR K t.C_Book "where"
iR:qR K t.C_Book "live"
eU:qR K t.C_Book "filled"
iS:qR K t.C_Book "born"
aEN:Meth K t.C_Book "mark" t.f_Book_mark
aCE:Meth K t.C_Book "note" t.f_Book_note
tE:Meth K t.C_Book "forget" t.f_Book_forget
aC7:Meth K t.C_Book "emptied" t.f_Book_emptied
aCJ:Meth K t.C_Book "start_at" t.f_Book_start_at
aBQ:Meth K t.C_Book "live_pages" t.f_Book_live_pages
aA2:Meth K t.C_Book "held" t.f_Book_held
aCF:Meth K t.C_Book "tell" t.f_Book_tell
aFG:Mk K t.C_Book t.f_Book_init
aFO:mg "Plain"=some (.ref t.C_Plain)
aFR:mg "Sure"=some (.ref t.C_Sure)
eE:Cls K t.C_Sure
fG:qR K t.C_Sure "chip"
eO:qR K t.C_Sure "terms"
eL:qR K t.C_Sure "book"
iP:qR K t.C_Sure "rule"
oS:qR K t.C_Sure "papers"
tZ:Meth K t.C_Sure "failures" t.f_Sure_failures
aEQ:Meth K t.C_Sure "worn" t.f_Sure_worn
aAP:Meth K t.C_Sure "reserve" t.f_Sure_reserve
aBJ:Meth K t.C_Sure "lay" t.f_Sure_lay
tL:Meth K t.C_Sure "set_down_or_fail" t.f_Sure_set_down_or_fail
aEG:Meth K t.C_Sure "wiped" t.f_Sure_wiped
o8:Meth K t.C_Sure "make_ready" t.f_Sure_make_ready
aBI:Meth K t.C_Sure "check_worn" t.f_Sure_check_worn
aEC:Meth K t.C_Sure "least" t.f_Even_least
tP:Meth K t.C_Sure "clearable" t.f_Even_clearable
aAL:Meth K t.C_Sure "options" t.f_Even_options
aDP:Meth K t.C_Sure "choice" t.f_Even_choice
tT:Meth K t.C_Sure "block_to_change" t.f_Even_block_to_change
aEB:Meth K t.C_Sure "tally" t.f_Store_tally
aD6:Meth K t.C_Sure "space" t.f_Store_space
tO:Meth K t.C_Sure "full_ones" t.f_Store_full_ones
aAC:Meth K t.C_Sure "with_dead_page" t.f_Store_with_dead_page
aAB:Meth K t.C_Sure "choice_by_rule" t.f_Store_choice_by_rule
aEH:Meth K t.C_Sure "moved" t.f_Store_moved
aAJ:Meth K t.C_Sure "value_to_move" t.f_Store_value_to_move
aB9:Meth K t.C_Sure "clear_out" t.f_Store_clear_out
aB8:Meth K t.C_Sure "make_room" t.f_Store_make_room
aBN:Meth K t.C_Sure "make_rooms" t.f_Store_make_rooms
i4:Meth K t.C_Sure "good" t.f_Plain_good
aAY:Meth K t.C_Sure "free" t.f_Plain_free
aA6:Meth K t.C_Sure "part" t.f_Plain_part
aEK:Meth K t.C_Sure "spot" t.f_Plain_spot
aD5:Meth K t.C_Sure "ready" t.f_Plain_ready
aCS:Meth K t.C_Sure "set_down" t.f_Plain_set_down
aED:Meth K t.C_Sure "write" t.f_Plain_write
aC6:Meth K t.C_Sure "give_up" t.f_Plain_give_up
aA0:Meth K t.C_Sure "held" t.f_Plain_held
oK:Meth K t.C_Sure "check_sheet" t.f_Plain_check_sheet
aBG:Meth K t.C_Sure "check_share" t.f_Plain_check_share
aFU:Mk K t.C_Sure t.f_Store_init
aFV:mg "Chip"=some (.ref t.C_Chip)
eG:Cls K t.C_Chip
fE:qR K t.C_Chip "blocks"
fB:qR K t.C_Chip "pages"
aB0:qR K t.C_Chip "most"
aAQ:qR K t.C_Chip "limits"
fX:qR K t.C_Chip "borne"
fO:qR K t.C_Chip "clearings"
i9:qR K t.C_Chip "deed_counts"
oP:qR K t.C_Chip "broken"
fA:qR K t.C_Chip "deeds_left"
oU:qR K t.C_Chip "record"
aE5:Meth K t.C_Chip "put" t.f_Chip_put
aEP:Meth K t.C_Chip "wipe" t.f_Chip_wipe
tH:Meth K t.C_Chip "read" t.f_Chip_read
aB4:Meth K t.C_Chip "cut_after" t.f_Chip_cut_after
aCW:Meth K t.C_Chip "power_on" t.f_Chip_power_on
aC9:Meth K t.C_Chip "is_dark" t.f_Chip_is_dark
oY:Meth K t.C_Chip "cleared" t.f_Chip_cleared
aDI:Meth K t.C_Chip "failed" t.f_Chip_failed
aBX:Meth K t.C_Chip "deeds" t.f_Chip_deeds
tD:Meth K t.C_Chip "check_page" t.f_Chip_check_page
f9:Meth K t.C_Chip "check_block" t.f_Chip_check_block
oF:Meth K t.C_Chip "check_power" t.f_Chip_check_power
oZ:Meth K t.C_Chip "check_deed" t.f_Chip_check_deed
aAD:Meth K t.C_Chip "is_spent" t.f_Chip_is_spent
aAO:Meth K t.C_Chip "do_deed" t.f_Chip_do_deed
aFQ:Mk K t.C_Chip t.f_Chip_init
aCV:mg "Fewest"=some (.ref t.C_Fewest)
aCM:Cls K t.C_Fewest
aA4:Meth K t.C_Fewest "goes_ahead" t.f_Fewest_goes_ahead
aCR:Meth K t.C_Fewest "choose" t.f_Rule_choose
aE4:Mk0 K t.C_Fewest
aDZ:mg "Eldest"=some (.ref t.C_Eldest)
aD9:Cls K t.C_Eldest
aE6:Mk0 K t.C_Eldest
aDL:mg "Terms"=some (.ref t.C_Terms)
eQ:Cls K t.C_Terms
fF:qR K t.C_Terms "blocks"
eT:qR K t.C_Terms "pages"
tW:qR K t.C_Terms "sheets"
aAM:qR K t.C_Terms "share"
oJ:qR K t.C_Terms "ill"
tY:qR K t.C_Terms "spread"
aC5:Meth K t.C_Terms "closed" t.f_Terms_closed
aDU:Mk K t.C_Terms t.f_Terms_init
aBW:mg "WornError"=some (.ref t.C_WornError)
aB1:mg "PowerGone"=some (.ref t.C_PowerGone)
aBZ:XRd K t.C_PowerGone
aEM:XCls K t.C_PowerGone
aAS:mg "BlockFailed"=some (.ref t.C_BlockFailed)
aDD:mg "NoTerms"=some (.ref t.C_NoTerms)
aE1:XRd K t.C_NoTerms
aFD:XCls K t.C_NoTerms
aFC:mg "Full"=some (.ref t.C_Full)
aFW:XCls K t.C_Full
aFF:mg "NoRoom"=some (.ref t.C_NoRoom)
aFN:XCls K t.C_NoRoom
aFM:ClM K t.C_Plain "__init__" t.f_Plain_init
fV:W.exmOne K (.ref t.C_PowerGone) (.ref t.C_BlockFailed)=some false
fL:W.exmOne K (.ref t.C_PowerGone) (.ref t.C_WornError)=some true
aAH:W.exmOne K (.ref t.C_NoTerms) (.ref t.C_WornError)=some true
aD8:W.exmOne K (.ref t.C_Full) (.ref t.C_Full)=some true
aAI:W.kitOne K (.ref t.C_PowerGone) (.ref t.C_NoTerms)=some false
tQ:W.kitOne K (.ref t.C_PowerGone) (.ref t.C_PowerGone)=some true
aBE:W.kitOne K (.ref t.C_NoTerms) (.ref t.C_NoTerms)=some true
aD4:qDK K t.C_Eldest
aFI:qDK K t.C_Fewest
aB6:W.kitOne K (.ref t.C_Eldest) (.ref t.C_Eldest)=some true
aB5:W.kitOne K (.ref t.C_Eldest) (.ref t.C_Fewest)=some false
aB3:W.kitOne K (.ref t.C_Fewest) (.ref t.C_Fewest)=some true
aDQ:W.codeHdIn K t.aBY t.eC=true
tJ:W.codeHdIn K t.iC t.eD=true
aAK:t.eC≠t.eD
aES:mg "is_whole"=some (.ref t.f_is_whole)
aEJ:W.keepIn K (.ref t.f_is_whole)=true
eZ:mg "is_within"=some (.ref t.f_is_within)
e9:W.keepIn K (.ref t.f_is_within)=true
aCK:mg "is_shape"=some (.ref t.f_is_shape)
aCY:W.keepIn K (.ref t.f_is_shape)=true
aEV:mg "is_value"=some (.ref t.f_is_value)
aEU:W.keepIn K (.ref t.f_is_value)=true
aE9:mg "mark_of"=some (.ref t.f_mark_of)
aFA:W.keepIn K (.ref t.f_mark_of)=true
aET:mg "stamp_of"=some (.ref t.f_stamp_of)
aEX:W.keepIn K (.ref t.f_stamp_of)=true
aE7:mg "name_of"=some (.ref t.f_name_of)
aE3:W.keepIn K (.ref t.f_name_of)=true
aDG:mg "bits_of"=some (.ref t.f_bits_of)
aDC:W.keepIn K (.ref t.f_bits_of)=true
aD3:mg "sheets_of"=some (.ref t.f_sheets_of)
aD7:W.keepIn K (.ref t.f_sheets_of)=true
aCQ:mg "paper_of"=some (.ref t.f_paper_of)
aC1:W.keepIn K (.ref t.f_paper_of)=true
aCO:mg "marked_pages"=some (.ref t.f_marked_pages)
aCI:W.keepIn K (.ref t.f_marked_pages)=true
aBD:mg "sheets_given_up"=some (.ref t.f_sheets_given_up)
aBC:W.keepIn K (.ref t.f_sheets_given_up)=true
aBL:mg "book_of"=some (.ref t.f_book_of)
aBT:W.keepIn K (.ref t.f_book_of)=true
aDF:mg "come_up"=some (.ref t.f_come_up)
aDH:W.keepIn K (.ref t.f_come_up)=true
aEI:mg "limits_of"=some (.ref t.f_limits_of)
aEA:W.keepIn K (.ref t.f_limits_of)=true
aFH:mg "faults"=some (.ref t.f_faults)
aFB:W.keepIn K (.ref t.f_faults)=true
aDB:mg "is_unbeaten"=some (.ref t.f_is_unbeaten)
aDA:W.keepIn K (.ref t.f_is_unbeaten)=true
aBS:mg "first_unbeaten"=some (.ref t.f_first_unbeaten)
aBP:W.keepIn K (.ref t.f_first_unbeaten)=true
oO:mg "_law_cell_at"=some (.ref t.f_law_cell_at)
oR:W.keepIn K (.ref t.f_law_cell_at)=true
iE:mg "_law_mix"=some (.ref t.f_law_mix)
iJ:W.keepIn K (.ref t.f_law_mix)=true
aB2:mg "_law_terms_row"=some (.ref t.f_law_terms_row)
aB7:W.keepIn K (.ref t.f_law_terms_row)=true
aD2:mg "_law_other"=some (.ref t.f_law_other)
aD1:W.keepIn K (.ref t.f_law_other)=true
aE2:mg "_law_ask"=some (.ref t.f_law_ask)
aE8:W.keepIn K (.ref t.f_law_ask)=true
aCX:mg "_law_kind"=some (.ref t.f_law_kind)
aCP:W.keepIn K (.ref t.f_law_kind)=true
aER:mg "_law_came"=some (.ref t.f_law_came)
aE0:W.keepIn K (.ref t.f_law_came)=true
aA8:mg "_law_looked"=some (.ref t.f_law_looked)
aBA:W.keepIn K (.ref t.f_law_looked)=true
t7:mg "MOST_TOLD"=some (.int 1000000 t.oH)
aCN:mg "ROLL"=some (.int 64 t.aDT)
aDN:mg "NAMES"=some (.int 128 t.aCA)
aFY:mg "bool"=none
aFX:mg "int"=none
fM:mg "isinstance"=none
aEY:mg "len"=none
aDE:mg "list"=none
aFZ:mg "max"=none
aFS:mg "min"=none
aCU:mg "range"=none
aBH:mg "sorted"=none
set_option genInjectivity false
structure Fns(K:W.Frag)(t:Adr) where
aDO:Fn1 K "is_whole" "is_whole" q3V t.f_is_whole ["thing"]
fD:Fn1 K "is_within" "is_within" q2I t.f_is_within ["thing","low","high"]
aCB:Fn1 K "is_shape" "is_shape" q3W t.f_is_shape ["blocks","pages"]
aDK:Fn1 K "is_value" "is_value" q3X t.f_is_value ["thing"]
aEO:Fn1 K "mark_of" "mark_of" q5J t.f_mark_of ["stamp","name"]
aDY:Fn1 K "stamp_of" "stamp_of" q3Y t.f_stamp_of ["mark"]
aEL:Fn1 K "name_of" "name_of" q5K t.f_name_of ["mark"]
aDW:Fn1 K "bits_of" "bits_of" q5L t.f_bits_of ["sheets"]
aC2:Fn1 K "sheets_of" "sheets_of" q2J t.f_sheets_of ["bits"]
aBB:Fn1 K "__init__" "Book.__init__" q2K t.f_Book_init ["self","blocks","pages"]
aCH:Fn1 K "mark" "Book.mark" q2L t.f_Book_mark ["self","name"]
aBF:Fn1 K "note" "Book.note" q2M t.f_Book_note ["self","page","name"]
oC:Fn1 K "forget" "Book.forget" q0G t.f_Book_forget ["self","name"]
tX:Fn1 K "emptied" "Book.emptied" zT t.f_Book_emptied ["self","block"]
tK:Fn1 K "start_at" "Book.start_at" zA t.f_Book_start_at ["self","stamp"]
oA:Fn1 K "live_pages" "Book.live_pages" v5 t.f_Book_live_pages ["self","block"]
aAA:Fn1 K "held" "Book.held" q2N t.f_Book_held ["self"]
aA9:Fn1 K "tell" "Book.tell" q2O t.f_Book_tell ["self"]
aBU:Fn1 K "__init__" "Plain.__init__" q1L t.f_Plain_init ["self","chip","terms"]
iH:Fn1 K "good" "Plain.good" q1M t.f_Plain_good ["self"]
tN:FuncData
aEE:FunT K "free" "Plain.free" jW t.aBY t.f_Plain_free tN
t6:jQ K tN ["self"] []
o9:Fn1 K "part" "Plain.part" q1N t.f_Plain_part ["self"]
aBK:Fn1 K "spot" "Plain.spot" q1O t.f_Plain_spot ["self"]
aAW:Fn1 K "ready" "Plain.ready" q0H t.f_Plain_ready ["self"]
oW:Fn1 K "set_down" "Plain.set_down" vK t.f_Plain_set_down ["self","name","value"]
aA1:Fn1 K "write" "Plain.write" q0I t.f_Plain_write ["self","sheet","value"]
tF:Fn1 K "give_up" "Plain.give_up" zB t.f_Plain_give_up ["self","sheets"]
o6:Fn1 K "held" "Plain.held" q1P t.f_Plain_held ["self"]
fP:Fn1 K "check_sheet" "Plain.check_sheet" uE t.f_Plain_check_sheet ["self","sheet"]
iD:Fn1 K "check_share" "Plain.check_share" uF t.f_Plain_check_share ["self","sheet"]
aCC:Fn1 K "paper_of" "paper_of" q3Z t.f_paper_of ["why","options","block","moved","wiped"]
aBO:Fn1 K "__init__" "Store.__init__" q1Q t.f_Store_init ["self","chip","terms","rule"]
aAT:Fn1 K "tally" "Store.tally" q0J t.f_Store_tally ["self","block"]
aAU:Fn1 K "space" "Store.space" q0K t.f_Store_space ["self"]
iB:Fn1 K "full_ones" "Store.full_ones" v7 t.f_Store_full_ones ["self"]
fR:Fn1 K "with_dead_page" "Store.with_dead_page" yP t.f_Store_with_dead_page ["self"]
fQ:Fn1 K "choice_by_rule" "Store.choice_by_rule" yQ t.f_Store_choice_by_rule ["self","options"]
aA5:Fn1 K "moved" "Store.moved" q0L t.f_Store_moved ["self","block"]
fU:Fn1 K "value_to_move" "Store.value_to_move" yV t.f_Store_value_to_move ["self","page","name"]
iZ:Fn1 K "clear_out" "Store.clear_out" v8 t.f_Store_clear_out ["self","block"]
i7:Fn1 K "make_room" "Store.make_room" v9 t.f_Store_make_room ["self"]
iU:Fn1 K "make_rooms" "Store.make_rooms" uP t.f_Store_make_rooms ["self"]
aBM:Fn1 K "least" "Even.least" q1R t.f_Even_least ["self"]
iK:Fn1 K "clearable" "Even.clearable" vL t.f_Even_clearable ["self","tallies"]
oG:Fn1 K "options" "Even.options" zU t.f_Even_options ["self"]
aAZ:Fn1 K "choice" "Even.choice" q0M t.f_Even_choice ["self"]
fI:FuncData
tS:FunT K "block_to_change" "Even.block_to_change" qW t.iC t.f_Even_block_to_change fI
tR:jQ K fI ["self"] []
iY:Fn1 K "failures" "Sure.failures" zC t.f_Sure_failures ["self"]
aCT:Fn1 K "worn" "Sure.worn" q2P t.f_Sure_worn ["self"]
oM:Fn1 K "reserve" "Sure.reserve" zV t.f_Sure_reserve ["self"]
aA7:Fn1 K "lay" "Sure.lay" q40 t.f_Sure_lay ["self","name","value"]
fN:Fn1 K "set_down_or_fail" "Sure.set_down_or_fail" yJ t.f_Sure_set_down_or_fail ["self","name","value"]
aBR:Fn1 K "wiped" "Sure.wiped" q1S t.f_Sure_wiped ["self","block"]
fY:Fn1 K "make_ready" "Sure.make_ready" vA t.f_Sure_make_ready ["self"]
i6:Fn1 K "check_worn" "Sure.check_worn" vB t.f_Sure_check_worn ["self"]
aAE:Fn1 K "marked_pages" "marked_pages" zW t.f_marked_pages ["chip"]
i5:Fn1 K "sheets_given_up" "sheets_given_up" vC t.f_sheets_given_up ["chip","book"]
aCL:Fn1 K "book_of" "book_of" q5M t.f_book_of ["chip"]
aDR:Fn1 K "come_up" "come_up" q5N t.f_come_up ["chip","terms","rule"]
aCZ:Fn1 K "limits_of" "limits_of" q2Q t.f_limits_of ["ills","blocks"]
iQ:FuncData
aD0:Value
aEZ:FunD K "__init__" "Chip.__init__" uW aD0 t.f_Chip_init iQ
aFT:jQ K iQ ["self","blocks","pages","most","ills"] []
aAR:List Value
aFP:jQ K iQ ["self","blocks","pages","most","ills"] aAR
aFL:Vals [.non] aAR
aAN:List Value
aDV:jQ K iQ ["self","blocks","pages","most","ills"] aAN
aDS:Vals [.int 1000000,.non] aAN
aDJ:Fn1 K "put" "Chip.put" q41 t.f_Chip_put ["self","page","stuff"]
aCG:Fn1 K "wipe" "Chip.wipe" q2R t.f_Chip_wipe ["self","block"]
o7:Fn1 K "read" "Chip.read" q2S t.f_Chip_read ["self","page"]
oQ:Fn1 K "cut_after" "Chip.cut_after" vM t.f_Chip_cut_after ["self","deeds"]
tM:Fn1 K "power_on" "Chip.power_on" zD t.f_Chip_power_on ["self"]
t8:Fn1 K "is_dark" "Chip.is_dark" zX t.f_Chip_is_dark ["self"]
iO:Fn1 K "cleared" "Chip.cleared" zY t.f_Chip_cleared ["self","block"]
aAV:Fn1 K "failed" "Chip.failed" q0N t.f_Chip_failed ["self","block"]
aAF:Fn1 K "deeds" "Chip.deeds" q1T t.f_Chip_deeds ["self"]
fW:Fn1 K "check_page" "Chip.check_page" vD t.f_Chip_check_page ["self","page"]
fK:Fn1 K "check_block" "Chip.check_block" uQ t.f_Chip_check_block ["self","block"]
fT:Fn1 K "check_power" "Chip.check_power" uR t.f_Chip_check_power ["self"]
iA:Fn1 K "check_deed" "Chip.check_deed" vE t.f_Chip_check_deed ["self","block"]
iX:Fn1 K "is_spent" "Chip.is_spent" zE t.f_Chip_is_spent ["self","block"]
oE:Fn1 K "do_deed" "Chip.do_deed" zZ t.f_Chip_do_deed ["self","word","place","block","fails"]
faults:Fn1 K "faults" "faults" q7T t.f_faults ["chip","told"]
aA3:Fn1 K "is_unbeaten" "is_unbeaten" q0O t.f_is_unbeaten ["rule","tally","tallies","pages","now"]
oN:Fn1 K "first_unbeaten" "first_unbeaten" vO t.f_first_unbeaten ["rule","tallies","pages","now"]
aAX:Fn1 K "choose" "Rule.choose" q0P t.f_Rule_choose ["self","tallies","pages","now"]
iG:Fn1 K "goes_ahead" "Fewest.goes_ahead" uG t.f_Fewest_goes_ahead ["self","one","other","pages","now"]
fZ:FuncData
aDX:Value
aEF:FunD K "__init__" "Terms.__init__" uC aDX t.f_Terms_init fZ
aBV:jQ K fZ ["self","blocks","pages","sheets","share","ill","spread"] []
tV:List Value
aFK:jQ K fZ ["self","blocks","pages","sheets","share","ill","spread"] tV
aFJ:Vals [.int 1000000] tV
tU:List Value
aC3:jQ K fZ ["self","blocks","pages","sheets","share","ill","spread"] tU
aC8:Vals [.int 0,.int 1000000] tU
t9:Fn1 K "closed" "Terms.closed" q00 t.f_Terms_closed ["self"]
i8:Fn1 K "_law_cell_at" "_law_cell_at" q0Q t.f_law_cell_at ["_law_script","_law_k"]
tG:Fn1 K "_law_mix" "_law_mix" q5O t.f_law_mix ["_law_cell","_law_k"]
tI:Fn1 K "_law_terms_row" "_law_terms_row" zF t.f_law_terms_row ["_law_cell"]
aC0:Fn1 K "_law_other" "_law_other" q2T t.f_law_other ["_law_row","_law_cell"]
aEW:Fn1 K "_law_ask" "_law_ask" q5P t.f_law_ask ["_law_store","_law_row","_law_cell"]
aCD:Fn1 K "_law_kind" "_law_kind" q42 t.f_law_kind ["_law_caught"]
aDM:Fn1 K "_law_came" "_law_came" q43 t.f_law_came ["_law_chip","_law_terms"]
aAG:Fn1 K "_law_looked" "_law_looked" q1U t.f_law_looked ["_law_chip","_law_way"]
law:Fn1 K "law" "law" qH7 t.f_law ["_law_script"]
structure HkE where
P:Program
w:World
K:W.Frag
mg:Str->Option Value
t:Adr
noncomputable def hkB(e:HkE):Prop:=∃(S:Fns e.K e.t) (base:Heap),Txt e.K e.mg e.t/\BmIn base e.mg/\¬S.law.Ok0 e.P e.w e.mg base 19 (q5G e.K [e.t.eC,e.t.eD])
instance:Nonempty HkE:=⟨⟨PySem.Challenge.pw_wornpages_k68_refused_in_the_dark,⟨λ_ _=>0,{ strHash:=λ_=>0,shareClass:=λ_=>0,mergeTok:=id,idOf:=λ_=>0,idOfShared:=λ_ _=>0,followText:=λ_=>false,idOfImm:=λ_=>0 }⟩,[],λ_=>none,by constructor<;>exact(0:Nat)⟩⟩
@[irreducible] noncomputable def hkE:HkE:=Classical.epsilon hkB
noncomputable def P:Program:=hkE.P
noncomputable def w:World:=hkE.w
noncomputable def K:W.Frag:=hkE.K
noncomputable def mg:Str->Option Value:=hkE.mg
noncomputable def t:Adr:=hkE.t
abbrev tXx:=Txt K mg t
abbrev tFf:=Fns K t
section
variable{base:Heap}
theorem qBN:FnScope ["thing"] ["thing"] (qF q3V):=qO (by decide+kernel)
theorem qAB:FnScope ["thing","low","high"] ["thing","low","high"] (qF q2I):=qO (by decide+kernel)
theorem qBO:FnScope ["blocks","pages"] ["blocks","pages"] (qF q3W):=qO (by decide+kernel)
theorem qBP:FnScope ["thing"] ["thing"] (qF q3X):=qO (by decide+kernel)
theorem qCT:FnScope ["stamp","name"] ["stamp","name"] (qF q5J):=qO (by decide+kernel)
theorem qBQ:FnScope ["mark"] ["mark"] (qF q3Y):=qO (by decide+kernel)
theorem qCU:FnScope ["mark"] ["mark"] (qF q5K):=qO (by decide+kernel)
theorem q1V:FnScope ["sheets","bits","sheet"] ["sheets"] (qF q5L):=qO (by decide+kernel)
theorem qAC:FnScope ["bits"] ["bits"] (qF q2J):=qO (by decide+kernel)
theorem qAD:FnScope ["self","blocks","pages"] ["self","blocks","pages"] (qF q2K):=qO (by decide+kernel)
theorem qAE:FnScope ["self","name"] ["self","name"] (qF q2L):=qO (by decide+kernel)
theorem q4Z:FnScope ["self","page","name","block"] ["self","page","name"] (qF q2M):=qO (by decide+kernel)
theorem q2U:FnScope ["self","name","page"] ["self","name"] (qF q0G):=qO (by decide+kernel)
theorem q68:FnScope ["self","block"] ["self","block"] (qF zT):=qO (by decide+kernel)
theorem q5Q:FnScope ["self","stamp"] ["self","stamp"] (qF zA):=qO (by decide+kernel)
theorem q44:FnScope ["self","block"] ["self","block"] (qF v5):=qO (by decide+kernel)
theorem qAF:FnScope ["self"] ["self"] (qF q2N):=qO (by decide+kernel)
theorem qAG:FnScope ["self"] ["self"] (qF q2O):=qO (by decide+kernel)
theorem q8G:FnScope ["self","chip","terms"] ["self","chip","terms"] (qF q1L):=qO (by decide+kernel)
theorem q8H:FnScope ["self"] ["self"] (qF q1M):=qO (by decide+kernel)
theorem q3O:FnScope ["self","clear"] ["self"] (qF jW):=qO (by decide+kernel)
theorem q3P:FnScope ["self","block"] ["self"] (qF q1N):=qO (by decide+kernel)
theorem q0R:FnScope ["self","part","free"] ["self"] (qF q1O):=qO (by decide+kernel)
theorem q2V:FnScope ["self","spare"] ["self"] (qF q0H):=qO (by decide+kernel)
theorem q0D:FnScope ["self","name","value","page"] ["self","name","value"] (qF vK):=qO (by decide+kernel)
theorem q7U:FnScope ["self","sheet","value"] ["self","sheet","value"] (qF q0I):=qO (by decide+kernel)
theorem yK:FnScope ["self","sheets","sheet","held","gone"] ["self","sheets"] (qF zB):=qO (by decide+kernel)
theorem q8I:FnScope ["self"] ["self"] (qF q1P):=qO (by decide+kernel)
theorem q2W:FnScope ["self","sheet"] ["self","sheet"] (qF uE):=qO (by decide+kernel)
theorem vX:FnScope ["self","sheet","held"] ["self","sheet"] (qF uF):=qO (by decide+kernel)
theorem qBR:FnScope ["why","options","block","moved","wiped"] ["why","options","block","moved","wiped"] (qF q3Z):=qO (by decide+kernel)
theorem q8J:FnScope ["self","chip","terms","rule"] ["self","chip","terms","rule"] (qF q1Q):=qO (by decide+kernel)
theorem q7V:FnScope ["self","block"] ["self","block"] (qF q0J):=qO (by decide+kernel)
theorem q2X:FnScope ["self","part"] ["self"] (qF q0K):=qO (by decide+kernel)
theorem yR:FnScope ["self","space","full","tallies"] ["self"] (qF v7):=qO (by decide+kernel)
theorem q17:FnScope ["self"] ["self"] (qF yP):=qO (by decide+kernel)
theorem q18:FnScope ["self","options"] ["self","options"] (qF yQ):=qO (by decide+kernel)
theorem vF:FnScope ["self","block","moves","page","name"] ["self","block"] (qF q0L):=qO (by decide+kernel)
theorem q1W:FnScope ["self","page","name"] ["self","page","name"] (qF yV):=qO (by decide+kernel)
theorem q45:FnScope ["self","block"] ["self","block"] (qF v8):=qO (by decide+kernel)
theorem yB:FnScope ["self","options","chosen","moved","wiped"] ["self"] (qF v9):=qO (by decide+kernel)
theorem q3G:FnScope ["self"] ["self"] (qF uP):=qO (by decide+kernel)
theorem q8K:FnScope ["self"] ["self"] (qF q1R):=qO (by decide+kernel)
theorem q0E:FnScope ["self","tallies","bound"] ["self","tallies"] (qF vL):=qO (by decide+kernel)
theorem q69:FnScope ["self"] ["self"] (qF zU):=qO (by decide+kernel)
theorem q2Y:FnScope ["self","options"] ["self"] (qF q0M):=qO (by decide+kernel)
theorem uX:FnScope ["self","tallies"] ["self"] (qF qW):=qO (by decide+kernel)
theorem q5R:FnScope ["self"] ["self"] (qF zC):=qO (by decide+kernel)
theorem qAH:FnScope ["self"] ["self"] (qF q2P):=qO (by decide+kernel)
theorem q6A:FnScope ["self"] ["self"] (qF zV):=qO (by decide+kernel)
theorem q2Z:FnScope ["self","name","value","page"] ["self","name","value"] (qF q40):=qO (by decide+kernel)
theorem q0S:FnScope ["self","name","value"] ["self","name","value"] (qF yJ):=qO (by decide+kernel)
theorem q8L:FnScope ["self","block"] ["self","block"] (qF q1S):=qO (by decide+kernel)
theorem q46:FnScope ["self"] ["self"] (qF vA):=qO (by decide+kernel)
theorem q47:FnScope ["self"] ["self"] (qF vB):=qO (by decide+kernel)
theorem uO:FnScope ["chip","marked","page","stuff"] ["chip"] (qF zW):=qO (by decide+kernel)
theorem uS:FnScope ["chip","book","roll","named"] ["chip","book"] (qF vC):=qO (by decide+kernel)
theorem q01:FnScope ["chip","book","mark","page","sheet"] ["chip"] (qF q5M):=qO (by decide+kernel)
theorem q7W:FnScope ["chip","terms","rule","store"] ["chip","terms","rule"] (qF q5N):=qO (by decide+kernel)
theorem zL:FnScope ["ills","blocks","limits","block","deeds"] ["ills","blocks"] (qF q2Q):=qO (by decide+kernel)
theorem qAI:FnScope ["self","blocks","pages","most","ills"] ["self","blocks","pages","most","ills"] (qF uW):=qO (by decide+kernel)
theorem q63:FnScope ["self","page","stuff","block"] ["self","page","stuff"] (qF q41):=qO (by decide+kernel)
theorem zM:FnScope ["self","block","fails","first","page"] ["self","block"] (qF q2R):=qO (by decide+kernel)
theorem qAJ:FnScope ["self","page"] ["self","page"] (qF q2S):=qO (by decide+kernel)
theorem q50:FnScope ["self","deeds"] ["self","deeds"] (qF vM):=qO (by decide+kernel)
theorem q5S:FnScope ["self"] ["self"] (qF zD):=qO (by decide+kernel)
theorem q6B:FnScope ["self"] ["self"] (qF zX):=qO (by decide+kernel)
theorem q6C:FnScope ["self","block"] ["self","block"] (qF zY):=qO (by decide+kernel)
theorem q7X:FnScope ["self","block"] ["self","block"] (qF q0N):=qO (by decide+kernel)
theorem q8M:FnScope ["self"] ["self"] (qF q1T):=qO (by decide+kernel)
theorem q48:FnScope ["self","page"] ["self","page"] (qF vD):=qO (by decide+kernel)
theorem q3H:FnScope ["self","block"] ["self","block"] (qF uQ):=qO (by decide+kernel)
theorem q3I:FnScope ["self"] ["self"] (qF uR):=qO (by decide+kernel)
theorem q49:FnScope ["self","block"] ["self","block"] (qF vE):=qO (by decide+kernel)
theorem q5T:FnScope ["self","block"] ["self","block"] (qF zE):=qO (by decide+kernel)
theorem q6D:FnScope ["self","word","place","block","fails"] ["self","word","place","block","fails"] (qF zZ):=qO (by decide+kernel)
theorem vP:FnScope ["chip","told","book","held","seen","found","sheet","page","sort"] ["chip","told"] (qF q7T):=qO (by decide+kernel)
theorem q30:FnScope ["rule","tally","tallies","pages","now","other"] ["rule","tally","tallies","pages","now"] (qF q0O):=qO (by decide+kernel)
theorem vG:FnScope ["rule","tallies","pages","now","place"] ["rule","tallies","pages","now"] (qF vO):=qO (by decide+kernel)
theorem q7Y:FnScope ["self","tallies","pages","now"] ["self","tallies","pages","now"] (qF q0P):=qO (by decide+kernel)
theorem q31:FnScope ["self","one","other","pages","now"] ["self","one","other","pages","now"] (qF uG):=qO (by decide+kernel)
theorem q8N:FnScope ["self","blocks","pages","sheets","share","ill","spread"] ["self","blocks","pages","sheets","share","ill","spread"] (qF uC):=qO (by decide+kernel)
theorem q6E:FnScope ["self"] ["self"] (qF q00):=qO (by decide+kernel)
theorem q7Z:FnScope ["_law_script","_law_k"] ["_law_script","_law_k"] (qF q0Q):=qO (by decide+kernel)
theorem q80:FnScope ["_law_cell","_law_k","_law_m"] ["_law_cell","_law_k"] (qF q5O):=qO (by decide+kernel)
theorem jF:FnScope ["_law_cell","_law_blocks","_law_pages","_law_ill","_law_most","_law_share","_law_spread"] ["_law_cell"] (qF zF):=qO (by decide+kernel)
theorem vH:FnScope ["_law_row","_law_cell","_law_blocks","_law_pages"] ["_law_row","_law_cell"] (qF q2T):=qO (by decide+kernel)
theorem q4A:FnScope ["_law_store","_law_row","_law_cell","_law_full"] ["_law_store","_law_row","_law_cell"] (qF q5P):=qO (by decide+kernel)
theorem qBS:FnScope ["_law_caught"] ["_law_caught"] (qF q42):=qO (by decide+kernel)
theorem uY:FnScope ["_law_chip","_law_terms","_law_caught","_law_store","e"] ["_law_chip","_law_terms"] (qF q43):=qO (by decide+kernel)
theorem vU:FnScope ["_law_chip","_law_way","_law_caught","e"] ["_law_chip","_law_way"] (qF q1U):=qO (by decide+kernel)
theorem vQ:FnScope ["_law_script","_law_row","_law_chip","_law_store","_law_k","_law_other_here","_law_dark","_law_log","_law_due","_law_word","_law_again"] ["_law_script"] (qF qH7):=qO (by decide+kernel)
local macro_rules| `(tactic|walk_at "r")=>`(tactic|repeat (first|with_reducible refine⟨_,rfl,?_⟩|refine⟨_,rfl,?_⟩|refine(iI ?_)))
theorem qBT(T:tXx)(S:tFf):S.aDO.Ok0 P w mg base 1 qHQ:=by(
refine S.aDO.F.ok0 qBN λN A Z s H U Q E O h=>?_
obtain⟨x,rfl,I,k⟩:=h
refine⟨_,(qC (qL (q58 (jI yO (by rfl) T.fM (by kernel_rfl) (qA (pv 0) (qA (qCZ rfl T.aFX (by kernel_rfl) rfl (v:=.ty "int")) qE))) (q26 (qEX (jI yO (by rfl) T.fM (by kernel_rfl) (qA (pv 0) (qA (qCZ rfl T.aFY (by kernel_rfl) rfl (v:=.ty "bool")) qE)))))))),?_⟩
try dsimp-beta-proj-iota-zeta-eta only[wishK,cxK]
obtain⟨ty,q,J,D,_⟩:=I.ty (K:=K)
refine⟨_,rfl,x,_,_,ty,_,rfl,rfl,.inl q,J,_,rfl,?_⟩
have z:=qKT x
cases qi:isI x with
|true=>rw[qi,kM rfl]at z;refine iteT ?_;refine⟨_,rfl,x,_,_,ty,_,rfl,rfl,.inl q,D,_,rfl,?_⟩;rw[z];exact k
|false=>rw[qi]at z;refine iteF ?_;have d:false=isW x:=z;rw[d];exact k)
theorem jK(T:tXx)(S:tFf):S.fD.Ok0 P w mg base 2 qFK:=by(
refine S.fD.F.ok0 qAB λJ A U s H O Q E D h=>?_
obtain⟨x,z,N,rfl,I,k⟩:=h
refine⟨_,(qC (qL (q58 (qU (qBT T S).mono D rfl T.aES T.aEJ S.aDO.b .nil qK (qA (pv 0) qE)) (q26 (qF4 qF2 qF2 (pv 1) (pv 0) (pv 2)))))),?_⟩
try dsimp-beta-proj-iota-zeta-eta only[wishK,cxK]
refine⟨_,rfl,x,rfl,I,_,rfl,?_⟩
cases x with
|int i=>
 refine iteT ?_;refine⟨_,rfl,_,rfl,iI ⟨_,rfl,?_⟩⟩;have d:Q (V.bl (decide (z<=i)&&decide (i<=N))) H:=k;by_cases h1:z<=i
 .rw[hC h1]at d ⊢;refine iteT ?_;exact⟨_,rfl,iI d⟩
 rw[hX h1]at d ⊢;refine iteF ?_;exact d
|_=>exact iteF k)
theorem q64(T:tXx)(S:tFf):S.aCB.Ok0 P w mg base 3 qHW:=by(
refine S.aCB.F.ok0 qBO λD A U s H J Q E d h=>?_
obtain⟨x,y,rfl,I,z,k⟩:=h
refine⟨_,(qC (qL (q58 (qU (jK T S).mono d rfl T.eZ T.e9 S.fD.b .nil qK (qA (pv 0) (qA qG (qA qG qE)))) (q26 (qU (jK T S).mono d rfl T.eZ T.e9 S.fD.b .nil qK (qA (pv 1) (qA qG (qA qG qE)))))))),?_⟩
try dsimp-beta-proj-iota-zeta-eta only[wishK,cxK]
refine⟨_,rfl,x,_,_,rfl,I,_,rfl,?_⟩
cases q:inB x 2 16 with
|true=>rw[q]at k;refine iteT ⟨_,rfl,y,_,_,rfl,z,k⟩
|false=>rw[q]at k;exact iteF k)
structure Gd(m:CM):Prop where
br:∀b,m.br.getD b false=false
li:∀b,valV m.lim (Sum.inl b)=none
theorem inBi{v lo hi:Int}(h1:lo<=v)(h2:v<=hi):inB (.int v) lo hi=true:=by show(decide (lo<=v)&&decide (v<=hi))=true;rw[hC h1,hC h2];rfl
noncomputable def putC(m:CM)(p:Nat)(st:V):CM:={ m.deed "put" (p:Int) ((p:Int) / m.pg) false with bo:=m.bo.set p st }
noncomputable def wipC(m:CM)(b:Nat):CM:={ m.deed "wipe" (b:Int) (b:Int) false with bo:=clr m.bo ((b:Int)*m.pg).toNat m.pg.toNat,cl:=m.cl.set b (m.cl.getD b 0+1) }
inductive spCP(t:Adr)(vs:List V)(H:Hp)(Q:VK)(E:XK):Prop
|mk:∀c a m,∀p:Int,vs=[.ref c,.int p]->ChipAt t.C_Chip H c a m->m.Ok->0<=p->p<=m.bl*m.pg-1->Q .non H->spCP t vs H Q E
theorem q02(T:tXx)(S:tFf):S.fW.Ok0 P w mg base 3 (spCP t):=by(
refine S.fW.F.ok0 q48 λJ A Z s H U Q E z h=>?_
obtain⟨c,a,m,p,rfl,d,ok,I,D,q⟩:=h
refine⟨_,(qC (jC (yU (jS (qU (jK T S).mono z rfl T.eZ T.e9 S.fD.b .nil qK (qA (pv 1) (qA qG (qA (qN yL (qN v3 (qJ (pv 0) rfl) (qJ (pv 0) rfl)) qG) qE)))))) (qC j9) qQ)),?_⟩
try dsimp-beta-proj-iota-zeta-eta only[wishK,cxK]
have N:=ok.bl1
have O:=ok.bl2
refine⟨_,rfl,iV rfl (iF d.ins T.eG T.fE rfl (iV rfl (iF d.ins T.eG T.fB rfl ?_)))⟩
refine(iI ⟨.inl ⟨by lia,by lia⟩,iI ⟨.int p,_,_,rfl,.int p,_,rfl,?_⟩⟩)
rw[inBi I D]
exact iteF q)
inductive spCB(t:Adr)(vs:List V)(H:Hp)(Q:VK)(E:XK):Prop
|mk:∀c a m,∀p:Int,vs=[.ref c,.int p]->ChipAt t.C_Chip H c a m->0<=p->p<=m.bl-1->Q .non H->spCB t vs H Q E
theorem uH(T:tXx)(S:tFf):S.fK.Ok0 P w mg base 3 (spCB t):=by(
refine S.fK.F.ok0 q3H λI A U s H N Q E d h=>?_
obtain⟨c,a,m,p,rfl,J,D,z,q⟩:=h
refine⟨_,(qC (jC (yU (jS (qU (jK T S).mono d rfl T.eZ T.e9 S.fD.b .nil qK (qA (pv 1) (qA qG (qA (qN yL (qJ (pv 0) rfl) qG) qE)))))) (qC j9) qQ)),?_⟩
try dsimp-beta-proj-iota-zeta-eta only[wishK,cxK]
refine⟨_,rfl,iV rfl (iF J.ins T.eG T.fE rfl (iI ⟨.int p,_,_,rfl,.int p,_,rfl,?_⟩))⟩
rw[inBi D z]
exact iteF q)
inductive spID(t:Adr)(vs:List V)(H:Hp)(Q:VK)(E:XK):Prop
|mk:∀c a m,vs=[.ref c]->ChipAt t.C_Chip H c a m->Q (.bl (decide (m.lf=some 0))) H->spID t vs H Q E
theorem q6F(T:tXx)(S:tFf):S.t8.Ok0 P w mg base 1 (spID t):=by(
refine S.t8.F.ok0 q6B λd A U s H D Q E I h=>?_
obtain⟨c,a,m,rfl,z,q⟩:=h
refine⟨_,(qC (qL (uM zH (qJ (pv 0) rfl) qG (qV _)))),?_⟩
try dsimp-beta-proj-iota-zeta-eta only[wishK,cxK]
refine⟨_,rfl,c,_,a.dx,_,_,rfl,z.ins,T.eG,T.fA,rfl,qHV,?_⟩
rw[lf0]
exact q)
inductive spPW(t:Adr)(vs:List V)(H:Hp)(Q:VK)(E:XK):Prop
|mk:∀c a m,vs=[.ref c]->ChipAt t.C_Chip H c a m->(if m.lf=some 0 then E (.ref t.C_PowerGone) none H else Q .non H)->spPW t vs H Q E
theorem zI(T:tXx)(S:tFf):S.fT.OkE P w mg base 2 (spPW t):=by(
refine S.fT.F.okE q3I (λI H Q E h=>?_) (λD A outer s H I Q E J h=>?_)
.repeat obtain⟨_,h⟩:=h
 all_goals subst_vars;rfl
obtain⟨c,a,m,rfl,d,q⟩:=h
refine⟨_,(qC (jC (jS (qT (pv 0) T.eG T.aC9 (q6F T S).mono J S.t8.b .nil qK)) (qC (q4O qZ rfl rfl T.aB1 T.aEM (qA yZ qE))) qQ)),?_⟩
try dsimp-beta-proj-iota-zeta-eta only[wishK,cxK]
refine(iV rfl (iM d.ins rfl ⟨c,a,m,rfl,d,_,rfl,?_⟩))
by_cases z:m.lf=some 0
.rw[kM z]at q;rw[hC z];exact iteT ⟨sz1,q⟩
rw[kI z]at q
rw[hX z]
exact iteF q)
inductive spCD(t:Adr)(vs:List V)(H:Hp)(Q:VK)(E:XK):Prop
|mk:∀c a m b,vs=[.ref c,.int b]->ChipAt t.C_Chip H c a m->m.Ok->Gd m->0<=b->b<m.bl->(if m.lf=some 0 then E (.ref t.C_PowerGone) none H else Q .non H)->spCD t vs H Q E
set_option tactic.hygienic true in
theorem q03(T:tXx)(S:tFf):S.iA.OkE P w mg base 3 (spCD t):=by(
refine S.iA.F.okE q49 (λN H Q E h=>?_) (λJ A outer s H N Q E D h=>?_)
.repeat obtain⟨_,h⟩:=h
 all_goals subst_vars;rfl
obtain⟨c,a,m,b,rfl,d,ok,g,I,O,q⟩:=h
refine⟨_,(qB (qX (uV qZ (pv 0) T.eG T.oF (zI T S).mono D S.fT.b .nil)) (qC (jC (jS (j8 qY (qJ (pv 0) rfl) (pv 1) (λZ Z=>rfl))) (qC j9) qQ))),?_⟩
try dsimp-beta-proj-iota-zeta-eta only[wishK,cxK]
have U:=ok.nbr
refine(iV rfl (iM d.ins rfl ⟨c,a,m,rfl,d,?_⟩))
split
.rename_i z;rw[kM z]at q;exact q
rename_i z
rw[kI z]at q
refine(iV rfl (iF d.ins T.eG T.oP rfl ⟨_,rfl,iL (k:=b) (v:=_) (SqL.of d.br) (getB I (by lia)) ⟨_,rfl,?_⟩⟩))
rw[g.br]
exact iteF q)
inductive spIS(t:Adr)(vs:List V)(H:Hp)(Q:VK)(E:XK):Prop
|mk:∀c a m b,vs=[.ref c,.int b]->ChipAt t.C_Chip H c a m->Gd m->Q (.bl false) H->spIS t vs H Q E
theorem q19(T:tXx)(S:tFf):S.iX.Ok0 P w mg base 1 (spIS t):=by(
refine S.iX.F.ok0 q5T λI A U s H J Q E D h=>?_
obtain⟨c,a,m,b,rfl,z,g,q⟩:=h
have d:=q61 D
refine⟨_,(qC (qL (q58 (qJW (qFH d (pv 1) (qJ (pv 0) rfl))) (q26 (uM qD3 (j8 qY (qJ (pv 0) rfl) (pv 1) (λU U=>rfl)) (q6L d (qJ (pv 0) rfl) (pv 1) (λU U=>rfl)) (qV _)))))),?_⟩
try dsimp-beta-proj-iota-zeta-eta only[wishK,cxK]
refine⟨_,rfl,iV rfl (iF z.ins T.eG T.aAQ rfl ⟨a.li,_,rfl,DGet.k (k:=Sum.inl b) z.li,_,rfl,?_⟩)⟩
rw[g.li]
exact iteF q)
inductive spDD(t:Adr)(vs:List V)(H:Hp)(Q:VK)(E:XK):Prop
|mk:∀c a m w pl b,vs=[.ref c,.str w,.int pl,.int b,.bl false]->ChipAt t.C_Chip H c a m->m.Ok->m.rc.length<1000000->0<=b->b<m.bl->(∀H',ChipAt t.C_Chip H' c a (m.deed w pl b false)->Keep (foot c a) H H'->Q .non H')->spDD t vs H Q E
theorem q22(T:tXx)(S:tFf):S.oE.Ok0 P w mg base 3 (spDD t):=by(
refine S.oE.F.ok0 q6D λae A _ s H vs Q E hr h=>?_
obtain⟨c,a,m,w,pl,b,rfl,N,ok,U,b0,b1,q⟩:=h
refine⟨_,(vS (jC (qS q4K (qJ (pv 0) rfl) yI (qV _)) (qC (q90 (pv 0) qG qK5)) qQ) (qB (q4I (qJ (pv 0) rfl) (pv 3) q2B qG q6Y uJ) (qB (qX (qD6 wO wI wJ q0Y (qJ (pv 0) rfl) (qA (yX (qA (pv 1) (qA (pv 2) (qA (qEX (pv 4)) qE)))) qE q4P))) (qC (jC (jS (pv 4)) (qB j9 (qC j9)) qQ))))),?_⟩
try dsimp-beta-proj-iota-zeta-eta only[wishK,cxK]
have nd:=ok.ndc
refine⟨λad H1=>ad=[some (.ref c),some (.str w),some (.int pl),some (.int b),some (.bl false)]/\ChipAt t.C_Chip H1 c a { m with lf:=m.lf.map (· - 1) }/\Keep (foot c a) H H1,?_,?_⟩
.refine⟨_,rfl,c,_,a.dx,_,_,rfl,N.ins,T.eG,T.fA,rfl,rfl,_,rfl,?_⟩;cases hl:m.lf with
 |none=>refine iteF ⟨rfl,?_,Keep.refl⟩;show ChipAt t.C_Chip H c a { m with lf:=none };rw[<-hl];exact N
 |some i=>refine iteT ?_;refine⟨_,rfl,c,_,a.dx,_,_,rfl,N.ins,T.eG,T.fA,(by unfold chF;rw[hl];rfl),iI ⟨a.dx,_,N.ins,by show 10<1000;decide,?_⟩⟩;refine⟨rfl,N.setLf (some (i-1)),Keep.upd N.ins (λd z=>by cases z) (by simp[foot])⟩
rintro _ H1 ⟨rfl,D,k1⟩
refine(iV rfl (iF D.ins T.eG T.i9 rfl ⟨_,rfl,iL (k:=b) (v:=_) (SqL.of D.dc) (getI b0 (by show b<(m.dc.length:Int);lia)) (iI ⟨a.dc,_,b,b.toNat,rfl,rfl,D.dc,by rw[kB];exact ixOk b0 (by show b<(m.dc.length:Int);lia),?_⟩)⟩))
rw[<-aE]
have I:=D.setDc (m.dc.set b.toNat (m.dc.getD b.toNat 0+1))
have Z:Keep (foot c a) H (upd H1 a.dc (.lst ((m.dc.set b.toNat (m.dc.getD b.toNat 0+1)).map V.int))):=k1.trans (Keep.upd D.dc (λd z=>by cases z) (by simp[foot]))
generalize upd H1 a.dc (.lst ((m.dc.set b.toNat (m.dc.getD b.toNat 0+1)).map V.int))=H2 at I Z ⊢
obtain⟨rs,er,pr⟩:=I.rc
have ln:rs.length<=1000000:=by rw[pr.len];exact cJ U
refine(iV rfl (iF I.ins T.eG T.oU rfl ⟨.inl ⟨rfl,_,SqL.of er⟩,_,rfl,_,rfl,_,rfl,_,rfl,sz3,λp H3 np O hp=>?_⟩))
have J:=O _ _ er
refine⟨a.rc,rs,_,rfl,rfl,J,dJ ln (by decide),?_⟩
exact⟨_,rfl,_,rfl,iteF (q _ ((I.same O).addRc (d:=(w,pl,!false)) J hp) ((Z.trans (Keep.same O)).trans (Keep.upd (o:=.lst (rs++[.ref p])) J (λd z=>by cases z) (by simp[foot]))))⟩)
inductive spPut(t:Adr)(vs:List V)(H:Hp)(Q:VK)(E:XK):Prop
|mk:∀c a m,∀p:Nat,∀st,vs=[.ref c,.int (p:Int),st]->ChipAt t.C_Chip H c a m->m.Ok->m.rc.length<1000000->Gd m->(p:Int)<=m.bl*m.pg-1->m.bo.getD p .non=.non->(m.lf=some 0->E (.ref t.C_PowerGone) none H)->(m.lf≠some 0->∀H',ChipAt t.C_Chip H' c a (putC m p st)->Keep (foot c a) H H'->Q .non H')->spPut t vs H Q E
theorem qBU(T:tXx)(S:tFf):S.aDJ.OkE P w mg base 4 (spPut t):=by(
refine S.aDJ.F.okE q63 (λvs H Q E h=>?_) (λag A outer s H vs Q E I h=>?_)
.repeat obtain⟨_,h⟩:=h
 all_goals subst_vars;rfl
obtain⟨c,a,m,p,st,rfl,d,ok,N,g,Z,hw,dk,q⟩:=h
refine⟨_,(qB (qX (jD (pv 0) T.eG T.tD (q02 T S).mono I S.fW.b .nil qK (qA (pv 1) qE))) (qB (qP (i:=3) q63.nd rfl (Or.inl rfl) (qN vR (pv 1) (qJ (pv 0) rfl))) (qB (qX (jM qZ (pv 0) T.eG T.oZ (q03 T S).mono I S.iA.b .nil (qA (pv 3) qE))) (qB (jC (qS q4K (j8 qY (qJ (pv 0) rfl) (pv 1) (λz z=>rfl)) yI (qV _)) (qC j9) qQ) (qB (qX (jD (pv 0) T.eG T.aAO (q22 T S).mono I S.oE.b .nil qK (qA yZ (qA (pv 1) (qA (pv 3) (qA (jD (pv 0) T.eG T.aAD (q19 T S).mono I S.iX.b .nil qK (qA (pv 3) qE)) qE)))))) (qC (q5A (pv 2) (q6X (qJ (pv 0) rfl) (pv 1) uJ)))))))),?_⟩
try dsimp-beta-proj-iota-zeta-eta only[wishK,cxK]
have af:=ok.pg1
have ad:=ok.pg2
have ac:=ok.nbo
have J:(0:Int)<=p:=by lia
obtain⟨U,O⟩:=qKY ok J Z
refine(iV rfl (iM d.ins rfl ⟨_,rfl,c,a,m,p,rfl,d,ok,J,Z,?_⟩))
refine⟨_,rfl,iV rfl (iF d.ins T.eG T.fB rfl (iI ⟨⟨by lia,by lia⟩,?_⟩))⟩
refine(iV rfl (iM d.ins rfl ⟨_,rfl,c,a,m,_,rfl,d,ok,g,U,O,?_⟩))
by_cases z:m.lf=some 0
.rw[kM z];exact dk z
rw[kI z]
have q:=q z
refine(iV rfl (iF d.ins T.eG T.fX rfl ⟨_,rfl,iL (k:=p) (v:=_) (SqL.of d.bo) (getV J (by lia)) ⟨rfl,_,rfl,?_⟩⟩))
rw[mB,hC hw]
refine iteF ?_
refine(iV rfl (iM d.ins rfl ⟨_,rfl,_,rfl,iV rfl (iM d.ins rfl ⟨_,rfl,c,a,m,_,rfl,d,g,?_⟩)⟩))
refine⟨c,a,m,"put",p,_,rfl,d,ok,N,U,O,λH' D k'=>?_⟩
refine⟨_,rfl,iV rfl (iF D.ins T.eG T.fX rfl ⟨_,rfl,a.bo,_,p,p,rfl,rfl,D.bo,ixOk J (by show(p:Int)<(m.bo.length:Int);lia),?_⟩)⟩
exact q _ (D.setBo (m.bo.set p st)) (k'.trans (Keep.upd D.bo (λd z=>by cases z) (by simp[foot]))))
inductive spRead(t:Adr)(vs:List V)(H:Hp)(Q:VK)(E:XK):Prop
|mk:∀c a m,∀p:Int,vs=[.ref c,.int p]->ChipAt t.C_Chip H c a m->m.Ok->0<=p->p<=m.bl*m.pg-1->(m.lf=some 0->E (.ref t.C_PowerGone) none H)->(m.lf≠some 0->Q (m.bo.getD p.toNat .non) H)->spRead t vs H Q E
theorem zN(T:tXx)(S:tFf):S.o7.OkE P w mg base 4 (spRead t):=by(
refine S.o7.F.okE qAJ (λZ H Q E h=>?_) (λU A outer s H Z Q E D h=>?_)
.repeat obtain⟨_,h⟩:=h
 all_goals subst_vars;rfl
obtain⟨c,a,m,p,rfl,d,ok,I,O,J,q⟩:=h
refine⟨_,(qB (qX (jD (pv 0) T.eG T.tD (q02 T S).mono D S.fW.b .nil qK (qA (pv 1) qE))) (qB (qX (uV qZ (pv 0) T.eG T.oF (zI T S).mono D S.fT.b .nil)) (qC (qL (j8 qY (qJ (pv 0) rfl) (pv 1) (λz z=>rfl)))))),?_⟩
try dsimp-beta-proj-iota-zeta-eta only[wishK,cxK]
have N:=ok.nbo
refine(iV rfl (iM d.ins rfl ⟨_,rfl,c,a,m,p,rfl,d,ok,I,O,iV rfl (iM d.ins rfl ⟨c,a,m,rfl,d,?_⟩)⟩))
by_cases z:m.lf=some 0
.rw[kM z];exact J z
rw[kI z]
exact(iV rfl (iF d.ins T.eG T.fX rfl ⟨_,rfl,iL (k:=p) (v:=_) (SqL.of d.bo) (getV I (by lia)) (q z)⟩)))
inductive spCl(t:Adr)(vs:List V)(H:Hp)(Q:VK)(E:XK):Prop
|mk:∀c a m b,vs=[.ref c,.int b]->ChipAt t.C_Chip H c a m->m.Ok->0<=b->b<=m.bl-1->Q (.int (m.cl.getD b.toNat 0)) H->spCl t vs H Q E
theorem zG(T:tXx)(S:tFf):S.iO.Ok0 P w mg base 4 (spCl t):=by(
refine S.iO.F.ok0 q6C λJ A U s H N Q E D h=>?_
obtain⟨c,a,m,b,rfl,d,ok,z,I,q⟩:=h
refine⟨_,(qB (qX (jD (pv 0) T.eG T.f9 (uH T S).mono D S.fK.b .nil qK (qA (pv 1) qE))) (qC (qL (j8 qY (qJ (pv 0) rfl) (pv 1) (λU U=>rfl))))),?_⟩
try dsimp-beta-proj-iota-zeta-eta only[wishK,cxK]
have n:=ok.ncl
exact(iV rfl (iM d.ins rfl ⟨_,rfl,c,a,m,b,rfl,d,z,I,iV rfl (iF d.ins T.eG T.fO rfl ⟨_,rfl,iL (k:=b) (v:=_) (SqL.of d.cl) (getI z (by lia)) q⟩)⟩)))
inductive spFa(t:Adr)(vs:List V)(H:Hp)(Q:VK)(E:XK):Prop
|mk:∀c a m b,vs=[.ref c,.int b]->ChipAt t.C_Chip H c a m->m.Ok->0<=b->b<=m.bl-1->Q (.bl (m.br.getD b.toNat false)) H->spFa t vs H Q E
theorem q81(T:tXx)(S:tFf):S.aAV.Ok0 P w mg base 4 (spFa t):=by(
refine S.aAV.F.ok0 q7X λJ A U s H N Q E D h=>?_
obtain⟨c,a,m,b,rfl,d,ok,z,I,q⟩:=h
refine⟨_,(qB (qX (jD (pv 0) T.eG T.f9 (uH T S).mono D S.fK.b .nil qK (qA (pv 1) qE))) (qC (qL (j8 qY (qJ (pv 0) rfl) (pv 1) (λU U=>rfl))))),?_⟩
try dsimp-beta-proj-iota-zeta-eta only[wishK,cxK]
have n:=ok.nbr
exact(iV rfl (iM d.ins rfl ⟨_,rfl,c,a,m,b,rfl,d,z,I,iV rfl (iF d.ins T.eG T.oP rfl ⟨_,rfl,iL (k:=b) (v:=_) (SqL.of d.br) (getB z (by lia)) q⟩)⟩)))
inductive spDe(t:Adr)(vs:List V)(H:Hp)(Q:VK)(E:XK):Prop
|mk:∀c a m,vs=[.ref c]->ChipAt t.C_Chip H c a m->(∀rs,H a.rc=some (.lst rs)->Recd H rs m.rc->NewO H (.lst rs) Q)->spDe t vs H Q E
theorem q3Q(T:tXx)(S:tFf):S.aAF.Ok0 P w mg base 1 (spDe t):=by(
refine S.aAF.F.ok0 q8M λD A U s H N Q E J h=>?_
obtain⟨c,a,m,rfl,d,q⟩:=h
refine⟨_,(qC (qL (vJ yT (by rfl) T.aDE (by kernel_rfl) (qA (qJ (pv 0) rfl) qE)))),?_⟩
try dsimp-beta-proj-iota-zeta-eta only[wishK,cxK]
obtain⟨rs,z,I⟩:=d.rc
exact(iV rfl (iF d.ins T.eG T.oU rfl ⟨a.rc,rs,rfl,.inl (SqL.of z),q rs z I⟩)))
inductive spOn(t:Adr)(vs:List V)(H:Hp)(Q:VK)(E:XK):Prop
|mk:∀c a m,vs=[.ref c]->ChipAt t.C_Chip H c a m->(∀H',ChipAt t.C_Chip H' c a { m with lf:=none }->Keep (foot c a) H H'->Q .non H')->spOn t vs H Q E
theorem q5U(T:tXx)(S:tFf):S.tM.Ok0 P w mg base 1 (spOn t):=by(
refine S.tM.F.ok0 q5S λD A U s H I Q E J h=>?_
obtain⟨c,a,m,rfl,d,q⟩:=h
refine⟨_,(qC (jH (pv 0) yI rfl)),?_⟩
try dsimp-beta-proj-iota-zeta-eta only[wishK,cxK]
refine⟨_,rfl,c,_,a.dx,_,rfl,d.ins,T.eG,T.fA,(by show 10<1000;decide),?_⟩
exact q _ (d.setLf none) (Keep.upd d.ins (λU z=>by cases z) (by simp[foot])))
inductive spCut(t:Adr)(vs:List V)(H:Hp)(Q:VK)(E:XK):Prop
|mk:∀c a m,∀i:Int,vs=[.ref c,.int i]->ChipAt t.C_Chip H c a m->0<=i->i<=1000000->(∀H',ChipAt t.C_Chip H' c a { m with lf:=some i }->Keep (foot c a) H H'->Q .non H')->spCut t vs H Q E
theorem q51(T:tXx)(S:tFf):S.oQ.Ok0 P w mg base 3 (spCut t):=by(
refine S.oQ.F.ok0 q50 λN A U s H O Q E D h=>?_
obtain⟨c,a,m,i,rfl,d,I,J,q⟩:=h
refine⟨_,(qB (jC (yU (jS (qU (jK T S).mono D rfl T.eZ T.e9 S.fD.b .nil qK (qA (pv 1) (qA qG (qA (jT rfl T.t7 ⟨_,rfl⟩ (v:=.int 1000000)) qE)))))) (qC j9) qQ) (qC (jH (pv 0) (pv 1) rfl))),?_⟩
try dsimp-beta-proj-iota-zeta-eta only[wishK,cxK]
refine⟨_,rfl,.int i,_,_,rfl,.int i,_,rfl,?_⟩
rw[inBi I J]
exact iteF ⟨_,rfl,_,rfl,c,_,a.dx,_,rfl,d.ins,T.eG,T.fA,by show 10<1000;decide,q _ (d.setLf (some i)) (Keep.upd d.ins (λU z=>by cases z) (by simp[foot]))⟩)
inductive spWipe(t:Adr)(vs:List V)(H:Hp)(Q:VK)(E:XK):Prop
|mk:∀c a m,∀b:Nat,vs=[.ref c,.int (b:Int)]->ChipAt t.C_Chip H c a m->m.Ok->m.rc.length<1000000->Gd m->(b:Int)<=m.bl-1->m.cl.getD b 0<m.mo->(m.lf=some 0->E (.ref t.C_PowerGone) none H)->(m.lf≠some 0->∀H',ChipAt t.C_Chip H' c a (wipC m b)->Keep (foot c a) H H'->Q .non H')->spWipe t vs H Q E
theorem qAK(T:tXx)(S:tFf):S.aCG.OkE P w mg base 4 (spWipe t):=by(
refine S.aCG.F.okE zM (λvs H Q E h=>?_) (λai A outer s H vs Q E J h=>?_)
.repeat obtain⟨_,h⟩:=h
 all_goals subst_vars;rfl
obtain⟨c,a,m,b,rfl,d,ok,ab,g,b1,hm,dk,q⟩:=h
refine⟨_,(qB (qX (jD (pv 0) T.eG T.f9 (uH T S).mono J S.fK.b .nil qK (qA (pv 1) qE))) (qB (qX (jM qZ (pv 0) T.eG T.oZ (q03 T S).mono J S.iA.b .nil (qA (pv 1) qE))) (qB (qP (i:=2) zM.nd rfl (Or.inl rfl) (qJC (jD (pv 0) T.eG T.aAD (q19 T S).mono J S.iX.b .nil qK (qA (pv 1) qE)) (q26 (uM qD3 (j8 qY (qJ (pv 0) rfl) (pv 1) (λz z=>rfl)) (qJ (pv 0) rfl) (qV _))))) (qB (qX (jD (pv 0) T.eG T.aAO (q22 T S).mono J S.oE.b .nil qK (qA yZ (qA (pv 1) (qA (pv 1) (qA (pv 2) qE)))))) (qB (qP (i:=3) zM.nd rfl (Or.inl rfl) (qN v3 (pv 1) (qJ (pv 0) rfl))) (qB (vI dC rfl (q8X rfl T.aCU (qA (pv 3) (qA (qN uZ (pv 3) (qJ (pv 0) rfl)) qE))) (jA (i:=4) zM.nd rfl (Or.inl rfl)) (qC (q5A yI (q6X (qJ (pv 0) rfl) (pv 4) uJ)))) (qC (q4I (qJ (pv 0) rfl) (pv 1) q2B qG q6Y uJ)))))))),?_⟩
try dsimp-beta-proj-iota-zeta-eta only[wishK,cxK]
have D:(0:Int)<=b:=by lia
have am:=ok.pg1
have N:=ok.pg2
have aa:=ok.bl2
have ad:=ok.nbo
have ak:=ok.ncl
refine(iV rfl (iM d.ins rfl ⟨_,rfl,c,a,m,b,rfl,d,D,b1,?_⟩))
refine(iV rfl (iM d.ins rfl ⟨_,rfl,c,a,m,b,rfl,d,ok,g,D,by lia,?_⟩))
by_cases z:m.lf=some 0
.rw[kM z];exact dk z
rw[kI z]
have q:=q z
refine(iV rfl (iM d.ins rfl ⟨_,rfl,c,a,m,b,rfl,d,g,_,rfl,iteF ?_⟩))
refine(iV rfl (iF d.ins T.eG T.fO rfl ⟨_,rfl,iL (k:=b) (v:=_) (SqL.of d.cl) (getI D (by lia)) (iV rfl (iF d.ins T.eG T.aB0 rfl (iI ?_)))⟩))
show q3L 2 (V.bl (decide (m.mo<=m.cl.getD b 0))) _ _ _
rw[hX (by lia)]
refine(iV rfl (iM d.ins rfl ⟨_,rfl,_,rfl,_,rfl,c,a,m,"wipe",b,b,rfl,d,ok,ab,D,by lia,λH' I k'=>?_⟩))
have bp:b*m.pg+m.pg<=m.bl*m.pg:=by have:=Int.mul_le_mul_of_nonneg_right (show(b:Int)+1<=m.bl by lia) (show 0<=m.pg by lia);rw[Int.add_mul,Int.one_mul]at this;exact this
have bq:0<=b*m.pg:=lO D (by lia)
have ac:m.bl*m.pg<=256:=by have:=sP aa N (by lia) (by decide);lia
refine⟨_,rfl,_,rfl,c,_,a.dx,_,.int m.pg,rfl,I.ins,T.eG,T.fB,rfl,iI ⟨.inl ⟨by lia,by lia⟩,?_⟩⟩
refine⟨_,rfl,_,rfl,_,rfl,c,_,a.dx,_,.int m.pg,rfl,I.ins,T.eG,T.fB,rfl,iI ⟨_,_,rfl,⟨by lia,by lia,by lia,by lia⟩,?_⟩⟩
refine q37 (λi O H1=>∃y,O=[some (.ref c),some (.int b),some (.bl false),some (.int (b*m.pg)),y]/\ChipAt t.C_Chip H1 c a { m.deed "wipe" b b false with bo:=clr m.bo (b*m.pg).toNat i }/\Keep (foot c a) H H1) ⟨_,rfl,I,k'⟩ (λi O H1 hi Z=>?_) (λO H1 Z=>?_)
.obtain⟨y,rfl,h1,U⟩:=Z;have ah:(i:Int)<m.pg:=by have:i<(b*m.pg+m.pg-b*m.pg).toNat:=hi;lia
 refine(iV rfl (iF h1.ins T.eG T.fX rfl ⟨_,rfl,a.bo,_,_,(b*m.pg+i).toNat,rfl,rfl,h1.bo,ixOk (by lia) (by rw[q6N];lia),?_⟩));have e:(b*m.pg+(i:Int)).toNat=(b*m.pg).toNat+i:=by lia
 rw[e];exact⟨_,rfl,h1.setBo _,U.trans (Keep.upd h1.bo (λd z=>by cases z) (by simp[foot]))⟩
obtain⟨y,rfl,h1,U⟩:=Z
have e:(b*m.pg+m.pg-b*m.pg).toNat=m.pg.toNat:=by lia
rw[e]at h1
refine(iV rfl (iF h1.ins T.eG T.fO rfl ⟨_,rfl,iL (k:=b) (v:=_) (SqL.of h1.cl) (getI D (by show(b:Int)<(m.cl.length:Int);lia)) (iI ⟨a.cl,_,b,b,rfl,rfl,h1.cl,by rw[kB];exact ixOk D (by show(b:Int)<(m.cl.length:Int);lia),?_⟩)⟩))
rw[<-aE]
exact q _ (h1.setCl _) (U.trans (Keep.upd h1.cl (λd z=>by cases z) (by simp[foot]))))
inductive spLim(K:W.Frag)(vs:List V)(H:Hp)(Q:VK)(E:XK):Prop
|mk:∀l bl,vs=[.ref l,.int bl]->SqL K H l []->NewO H (.dK []) Q->spLim K vs H Q E
theorem qAL(T:tXx)(S:tFf):S.aCZ.Ok0 P w mg base 3 (spLim K):=by(
refine S.aCZ.F.ok0 zL λN A Z s H U Q E O h=>?_
obtain⟨l,J,rfl,sq,q⟩:=h
refine⟨_,(qB (qP (i:=2) zL.nd rfl (Or.inl rfl) q7A) (qB (vI wY rfl (jU (pv 0)) (q59 rfl (yS (jA (i:=3) zL.nd rfl (Or.inl rfl)) (yS (jA (i:=4) zL.nd rfl (Or.inl rfl)) q36))) (qB j9 (qB j9 (qB j9 (qC j9))))) (qC (qL (pv 2))))),?_⟩
try dsimp-beta-proj-iota-zeta-eta only[wishK,cxK]
refine λp np=>?_
have s0:Same H (upd H p (.dK [])):=Same.upd np
refine⟨_,rfl,l,rfl,⟨[],s0.seq sq⟩,uI (K:=K) (xs:=[]) (λZ d H1=>(∃y z,d=[some (.ref l),some (.int J),some (.ref p),y,z])/\H1=upd H p (.dK [])) ⟨⟨_,_,rfl⟩,rfl⟩ (λi d H1 Z D=>by rw[D.2];exact s0.seq sq) (λi x d H1 I Z=>by simp at I) (λd H1 D=>?_)⟩
obtain⟨⟨y,z,rfl⟩,rfl⟩:=D
exact⟨_,rfl,q p _ np s0 qI⟩)
structure Wm(C x dx:Addr)(H G:Hp)(fs:List (Str×V))(os:List (Addr×HO)):Prop where
i:G x=some (.ins C dx fs)
u:Up x H G
o:∀p∈os,G p.1=some p.2/\H p.1=none/\p.1≠x
n:(os.map (·.1)).Nodup
section
variable{C x dx:Addr}{H G B:Hp}{fs fs':List (Str×V)}{os:List (Addr×HO)}
theorem Wm.same(h:Wm C x dx H G fs os)(s:Same G B):Wm C x dx H B fs os:=⟨s _ _ h.i,λb o n e=>s _ _ (h.u b o n e),λp hp=>⟨s _ _ (h.o p hp).1,(h.o p hp).2⟩,h.n⟩
theorem Wm.add(h:Wm C x dx H G fs os){a:Addr}{o:HO}(na:G a=none)(s:Same G B)(e:B a=some o):Wm C x dx H B fs (os++[(a,o)]):=by(
have D:a≠x:=λz=>by rw[z,h.i]at na;cases na
have w:=h.same s
refine⟨w.i,w.u,λp d=>?_,?_⟩
.rcases gJ.mp d with d|d
 .exact w.o p d
 rw[kE.mp d];exact⟨e,Up.free h.u D na,D⟩
rw[gA]
refine rJ.mpr ⟨h.n,by simp,λb I c J=>?_⟩
obtain⟨p,d,rfl⟩:=mF.mp I
obtain rfl:c=a:=by simpa using J
exact qH (h.o p d).1 na)
theorem Wm.set(h:Wm C x dx H G fs os):Wm C x dx H (upd G x (.ins C dx fs')) fs' os:=⟨qI,λb o n e=>by rw[qD n];exact h.u b o n e,λp hp=>⟨by rw[qD (h.o p hp).2.2];exact(h.o p hp).1,(h.o p hp).2⟩,h.n⟩
theorem Wm.fr(h:Wm C x dx H G fs os)(a:Addr)(ha:a∈os.map (·.1)):H a=none:=by obtain⟨p,d,rfl⟩:=mF.mp ha;exact(h.o p d).2.1
theorem Wm.put(h:Wm C x dx H G fs os)(f:Str)(v:V):Wm C x dx H (upd G x (.ins C dx (putF f v fs))) (putF f v fs) os:=h.set
end
inductive spMk(t:Adr)(vs:List V)(H:Hp)(Q:VK)(E:XK):Prop
|mk:∀x dx,∀b p m:Int,vs=[.ref x,.int b,.int p,.int m,.non]->H x=some (.ins t.C_Chip dx [])->2<=b->b<=16->1<=p->p<=16->0<=m->m<=1000000->(∀a H',ChipAt t.C_Chip H' x a (CM.new b p m [])->(∀b∈[a.li,a.bo,a.cl,a.dc,a.br,a.rc],H b=none)->Up x H H'->Q .non H')->spMk t vs H Q E
theorem qAM(T:tXx)(S:tFf):FnOk P w K mg base (CX0) 4 t.f_Chip_init S.iQ ["self","blocks","pages","most","ills"] (spMk t):=by(
refine S.aEZ.ok0 qAI λa5 A F s H vs Q E hr h=>?_
obtain⟨x,dx,b,p,m,rfl,hx,b1,b2,p1,p2,m1,m2,q⟩:=h
refine⟨_,(qB (jC (yU (jS (qU (q64 T S).mono hr rfl T.aCK T.aCY S.aCB.b .nil qK (qA (pv 1) (qA (pv 2) qE))))) (qC j9) qQ) (qB (jC (yU (jS (qU (jK T S).mono hr rfl T.eZ T.e9 S.fD.b .nil qK (qA (pv 3) (qA qG (qA (jT rfl T.t7 ⟨_,rfl⟩ (v:=.int 1000000)) qE)))))) (qC j9) qQ) (qB (jH (pv 0) (pv 1) rfl) (qB (jH (pv 0) (pv 2) rfl) (qB (jH (pv 0) (pv 3) rfl) (qB (jH (pv 0) (qU (qAL T S).mono hr rfl T.aEI T.aEA S.aCZ.b .nil qK (qA (qEY (qS q71 (pv 4) yI (qV _)) (jO qE) (pv 4)) (qA (pv 1) qE))) rfl) (qB (jH (pv 0) (qN q1F (jO (qA yI qE)) (qN v3 (pv 1) (pv 2))) rfl) (qB (jH (pv 0) (qN q1F (jO (qA qG qE)) (pv 1)) rfl) (qB (jH (pv 0) (qN q1F (jO (qA qG qE)) (pv 1)) rfl) (qB (jH (pv 0) (qN q1F (jO (qA q3K qE)) (pv 1)) rfl) (qB (jH (pv 0) yI rfl) (qC (jH (pv 0) (jO qE) rfl))))))))))))),?_⟩
try dsimp-beta-proj-iota-zeta-eta only[wishK,cxK]
refine⟨_,rfl,_,rfl,.int b,.int p,rfl,.int b,.int p,_,rfl,?_⟩
rw[inBi b1 b2,inBi p1 p2]
refine iteF ?_
refine⟨_,rfl,.int m,_,_,rfl,.int m,_,rfl,?_⟩
rw[inBi m1 m2]
refine iteF ?_
have bp:b*p<=256:=sP b2 p2 (by lia) (by decide)
have ba:0<=b*p:=lO (by lia) (by lia)
refine⟨_,rfl,_,rfl,x,_,dx,_,rfl,hx,T.eG,T.fE,by simp,?_⟩
have w1:Wm t.C_Chip x dx H (upd H x (.ins t.C_Chip dx (putF "blocks" (.int b) []))) (putF "blocks" (.int b) []) []:=⟨qI,Up.of (Same.refl H),by simp,by simp⟩
refine⟨_,rfl,_,rfl,x,_,dx,_,rfl,w1.i,T.eG,T.fB,by show 1<1000;decide,?_⟩
have w2:=w1.put "pages" (.int p)
refine⟨_,rfl,_,rfl,x,_,dx,_,rfl,w2.i,T.eG,T.aB0,by show 2<1000;decide,?_⟩
have w3:=w2.put "most" (.int m)
refine⟨_,rfl,rfl,_,rfl,iteT ⟨sz0,λl0 H2 n0 s0 e0=>?_⟩⟩
refine⟨_,rfl,l0,b,rfl,SqL.of e0,λz H3 n1 s1 e1=>?_⟩
have w4:=(w3.same s0).add n1 s1 e1
refine⟨_,rfl,x,_,dx,_,rfl,w4.i,T.eG,T.aAQ,by show 3<1000;decide,?_⟩
have w4:=w4.put "limits" (.ref z)
refine⟨sz1,λd A1 n1 s1 e1=>⟨_,rfl,_,rfl,iI ⟨.inl ⟨by lia,by lia⟩,d,_,_,rfl,rfl,e1,by lia,by lia,λI B1 m1 r1 ac=>?_⟩⟩⟩
have U:=(w4.same s1).add m1 r1 ac
refine⟨_,rfl,x,_,dx,_,rfl,U.i,T.eG,T.fX,by show 4<1000;decide,?_⟩
have U:=U.put "borne" (.ref I)
refine⟨sz1,λd A2 n2 s2 e2=>⟨_,rfl,d,_,_,rfl,rfl,e2,by lia,by lia,λcl B2 m2 r2 ab=>?_⟩⟩
have O:=(U.same s2).add m2 r2 ab
refine⟨_,rfl,x,_,dx,_,rfl,O.i,T.eG,T.fO,by show 5<1000;decide,?_⟩
have O:=O.put "clearings" (.ref cl)
refine⟨sz1,λd A3 n3 s3 e3=>⟨_,rfl,d,_,_,rfl,rfl,e3,by lia,by lia,λJ B3 m3 r3 ai=>?_⟩⟩
have Z:=(O.same s3).add m3 r3 ai
refine⟨_,rfl,x,_,dx,_,rfl,Z.i,T.eG,T.i9,by show 6<1000;decide,?_⟩
have Z:=Z.put "deed_counts" (.ref J)
refine⟨sz1,λd A4 n4 s4 e4=>⟨_,rfl,d,_,_,rfl,rfl,e4,by lia,by lia,λD B4 m4 r4 af=>?_⟩⟩
have N:=(Z.same s4).add m4 r4 af
refine⟨_,rfl,x,_,dx,_,rfl,N.i,T.eG,T.oP,by show 7<1000;decide,?_⟩
have N:=N.put "broken" (.ref D)
refine⟨_,rfl,x,_,dx,_,rfl,N.i,T.eG,T.fA,by show 8<1000;decide,?_⟩
have w9:=N.put "deeds_left" .non
refine⟨sz0,λrc B5 m5 r5 ak=>?_⟩
have w:=w9.add m5 r5 ak
refine⟨_,rfl,x,_,dx,_,rfl,w.i,T.eG,T.oU,by show 9<1000;decide,?_⟩
have w:=w.set (fs':=chF ⟨dx,z,I,cl,J,D,rc⟩ (CM.new b p m []))
refine q ⟨dx,z,I,cl,J,D,rc⟩ _ ⟨w.i,(w.o (z,.dK []) (by simp)).1,(w.o (I,.lst (List.replicate (b*p).toNat .non)) (by simp)).1,?_,?_,?_,⟨[],(w.o (rc,.lst []) (by simp)).1,.nil⟩,(m8.mp (show(z::[I,cl,J,D,rc]).Nodup from w.n)).2⟩ (λb' ah=>w.fr b' ah) w.u
.show _=some (HO.lst ((List.replicate b.toNat (0:Int)).map V.int));rw[cY];exact(w.o (cl,.lst (List.replicate b.toNat (.int 0))) (by simp)).1
.show _=some (HO.lst ((List.replicate b.toNat (0:Int)).map V.int));rw[cY];exact(w.o (J,.lst (List.replicate b.toNat (.int 0))) (by simp)).1
show _=some (HO.lst ((List.replicate b.toNat false).map V.bl))
rw[cY]
exact(w.o (D,.lst (List.replicate b.toNat (.bl false))) (by simp)).1)
theorem q04(T:tXx)(S:tFf):S.i8.Ok0 P w mg base 1 (qKU K):=by(
refine S.i8.F.ok0 q7Z λD A U s H J Q E I h=>?_
obtain⟨a,ns,k,rfl,z,d,q⟩:=h
refine⟨_,(qB (jC (qS q4J (pv 1) (jI yM (by rfl) T.aEY wP (qA (pv 0) qE)) (qV _)) (qC (qL (j8 qY (pv 0) (pv 1) (λU U=>rfl)))) qQ) (qC (qL qG))),?_⟩
try dsimp-beta-proj-iota-zeta-eta only[wishK,cxK]
refine⟨_,rfl,_,rfl,a,_,rfl,.inl z,_,_,rfl,rfl,_,rfl,?_⟩
rw[kB]
by_cases h1:k<(ns.length:Int)
.rw[hC h1];refine iteT ?_;exact⟨_,rfl,_,rfl,a,_,k,_,rfl,rfl,z,qEH d h1,q⟩
rw[hX h1]
refine iteF ?_
have e:=qCD d h1
rw[e]at q
exact q)
theorem qMN{H:Hp}{bl pg mo:Int}{Q:Addr->Hp->Prop}{E:XK}(b1:2<=bl)(b2:bl<=16)(p1:1<=pg)(p2:pg<=16)(m1:0<=mo)(m2:mo<=1000000)
 (q:∀x a H',ChipAt t.C_Chip H' x a (CM.new bl pg mo [])->Same H H'->(∀b∈a.li::foot x a,H b=none)->Q x H') (x dx:Addr) (nx:H x=none) (ndx:H dx=none) (ne:dx≠x):
 spMk t [.ref x,.int bl,.int pg,.int mo,.non] (upd (upd H dx (.own x)) x (.ins t.C_Chip dx [])) (λv H2=>v=.non/\Q x H2) E:=by(
have s0:Same H (upd (upd H dx (.own x)) x (.ins t.C_Chip dx [])):=λb o e=>by rw[qD (qH e nx),qD (qH e ndx)];exact e
refine⟨x,dx,bl,pg,mo,rfl,qI,b1,b2,p1,p2,m1,m2,λa H' z fr u=>⟨rfl,q x a H' z (λb o e=>u b o (qH e nx) (s0 b o e)) λb d=>?_⟩⟩
have d:b=x\/b∈[a.li,a.bo,a.cl,a.dc,a.br,a.rc]:=by simp[foot]at d ⊢;rcases d with rfl|rfl|rfl|rfl|rfl|rfl|rfl<;>simp
rcases d with rfl|d
.exact nx
exact s0.free (fr _ d))
inductive spClo(t:Adr)(vs:List V)(H:Hp)(Q:VK)(E:XK):Prop
|mk:∀x dx fs b e,vs=[.ref x]->H x=some (.ins t.C_Terms dx fs)->fs.lookup (Str.ofString "blocks")=some (.int b)->fs.lookup (Str.ofString "ill")=some (.int e)->Q (.int (b-1-e)) H->spClo t vs H Q E
theorem q6G(T:tXx)(S:tFf):S.t9.Ok0 P w mg base 1 (spClo t):=by(
refine S.t9.F.ok0 q6E λD A U s H N Q E J h=>?_
obtain⟨x,dx,fs,b,e,rfl,d,I,z,q⟩:=h
refine⟨_,(qC (qL (qN yL (qN yL (qJ (pv 0) rfl) qG) (qJ (pv 0) rfl)))),?_⟩
try dsimp-beta-proj-iota-zeta-eta only[wishK,cxK]
exact(iV rfl (iF d T.eQ T.fF I (iI (iV rfl (iF d T.eQ T.oJ z (iI q)))))))
noncomputable def teF(r0 r1 r2 r3 r4 r5:V):List (Str×V):=[("blocks",r0),("pages",r1),("sheets",r2),("share",r3),("ill",r4),("spread",r5)]
inductive spTm(t:Adr)(vs:List V)(H:Hp)(Q:VK)(E:XK):Prop
|mk:∀x dx,∀b p s r e d:Int,vs=[.ref x,.int b,.int p,.int s,.int r,.int e,.int d]->H x=some (.ins t.C_Terms dx [])->2<=b->b<=16->1<=p->p<=16->1<=s->s<=64->1<=r->r<=(b-1-e)*p-2->0<=e->e<=b-2->1<=d->d<=1000000->(∀H',H' x=some (.ins t.C_Terms dx (teF (.int b) (.int p) (.int s) (.int r) (.int e) (.int d)))->Up x H H'->Q .non H')->spTm t vs H Q E
theorem q0T(T:tXx)(S:tFf):FnOk P w K mg base (CX0) 4 t.f_Terms_init S.fZ ["self","blocks","pages","sheets","share","ill","spread"] (spTm t):=by(
refine S.aEF.ok0 q8N λag A F s H vs Q E z h=>?_
obtain⟨x,dx,b,p,s',r,e,d,rfl,Z,b1,b2,p1,p2,s1,s2,r1,r2,e1,U,d1,d2,q⟩:=h
refine⟨_,(qB (jC (yU (jS (qU (q64 T S).mono z rfl T.aCK T.aCY S.aCB.b .nil qK (qA (pv 1) (qA (pv 2) qE))))) (qC j9) qQ) (qB (jC (yU (jS (qU (jK T S).mono z rfl T.eZ T.e9 S.fD.b .nil qK (qA (pv 3) (qA qG (qA qG qE)))))) (qC j9) qQ) (qB (jC (yU (jS (qU (jK T S).mono z rfl T.eZ T.e9 S.fD.b .nil qK (qA (pv 5) (qA qG (qA (qN yL (pv 1) qG) qE)))))) (qC j9) qQ) (qB (jC (yU (jS (qU (jK T S).mono z rfl T.eZ T.e9 S.fD.b .nil qK (qA (pv 6) (qA qG (qA (jT rfl T.t7 ⟨_,rfl⟩ (v:=.int 1000000)) qE)))))) (qC j9) qQ) (qB (jH (pv 0) (pv 1) rfl) (qB (jH (pv 0) (pv 2) rfl) (qB (jH (pv 0) (pv 3) rfl) (qB (jH (pv 0) (pv 4) rfl) (qB (jH (pv 0) (pv 5) rfl) (qB (jH (pv 0) (pv 6) rfl) (qC (jC (yU (jS (qU (jK T S).mono z rfl T.eZ T.e9 S.fD.b .nil qK (qA (pv 4) (qA qG (qA (qN yL (qN v3 (qT (pv 0) T.eQ T.aC5 (q6G T S).mono z S.t9.b .nil qK) (pv 2)) qG) qE)))))) (qC j9) qQ)))))))))))),?_⟩
try dsimp-beta-proj-iota-zeta-eta only[wishK,cxK]
refine⟨_,rfl,_,rfl,.int b,.int p,rfl,.int b,.int p,_,rfl,?_⟩
rw[inBi b1 b2,inBi p1 p2]
refine iteF ⟨_,rfl,.int s',_,_,rfl,.int s',_,rfl,?_⟩
rw[inBi s1 s2]
refine iteF ⟨_,rfl,_,rfl,iI ⟨.int e,_,_,rfl,.int e,_,rfl,?_⟩⟩
rw[inBi e1 U]
refine iteF ⟨_,rfl,.int d,_,_,rfl,.int d,_,rfl,?_⟩
rw[inBi d1 d2]
refine iteF ⟨_,rfl,_,rfl,x,_,dx,_,rfl,Z,T.eQ,T.fF,by simp,?_⟩
have D:Wm t.C_Terms x dx H (upd H x (.ins t.C_Terms dx (putF "blocks" (.int b) []))) (putF "blocks" (.int b) []) []:=⟨qI,Up.of (Same.refl H),by simp,by simp⟩
refine⟨_,rfl,_,rfl,x,_,dx,_,rfl,D.i,T.eQ,T.eT,by show 1<1000;decide,?_⟩
have O:=D.put "pages" (.int p)
refine⟨_,rfl,_,rfl,x,_,dx,_,rfl,O.i,T.eQ,T.tW,by show 2<1000;decide,?_⟩
have J:=O.put "sheets" (.int s')
refine⟨_,rfl,_,rfl,x,_,dx,_,rfl,J.i,T.eQ,T.aAM,by show 3<1000;decide,?_⟩
have N:=J.put "share" (.int r)
refine⟨_,rfl,_,rfl,x,_,dx,_,rfl,N.i,T.eQ,T.oJ,by show 4<1000;decide,?_⟩
have I:=N.put "ill" (.int e)
refine⟨_,rfl,_,rfl,x,_,dx,_,rfl,I.i,T.eQ,T.tY,by show 5<1000;decide,?_⟩
have w:=I.put "spread" (.int d)
refine⟨_,rfl,_,rfl,x,dx,_,rfl,w.i,rfl,x,dx,_,b,e,rfl,w.i,rfl,rfl,_,rfl,iI ⟨.inr ⟨by lia,by lia⟩,iI ⟨.int r,_,_,rfl,.int r,_,rfl,?_⟩⟩⟩
rw[inBi r1 r2]
exact iteF (q _ w.i w.u))
theorem qMO{H:Hp}{b p s r e d:Int}{Q:Addr->Hp->Prop}{E:XK}(b1:2<=b)(b2:b<=16)(p1:1<=p)(p2:p<=16)(s1:1<=s)(s2:s<=64)(r1:1<=r)(r2:r<=(b-1-e)*p-2)(e1:0<=e)(e2:e<=b-2)(d1:1<=d)(d2:d<=1000000)
 (q:∀x dx H',Same H H'->H' x=some (.ins t.C_Terms dx (teF (.int b) (.int p) (.int s) (.int r) (.int e) (.int d)))->Q x H') (x dx:Addr) (nx:H x=none) (ndx:H dx=none) (ne:dx≠x):
 spTm t [.ref x,.int b,.int p,.int s,.int r,.int e,.int d] (upd (upd H dx (.own x)) x (.ins t.C_Terms dx [])) (λv H2=>v=.non/\Q x H2) E:=by
 have s0:Same H (upd (upd H dx (.own x)) x (.ins t.C_Terms dx [])):=λb o e=>by rw[qD (qH e nx),qD (qH e ndx)];exact e
 exact⟨x,dx,b,p,s,r,e,d,rfl,qI,b1,b2,p1,p2,s1,s2,r1,r2,e1,e2,d1,d2,λH' h u=>⟨rfl,q x dx H' (λb o e=>u b o (qH e nx) (s0 b o e)) h⟩⟩
inductive spMkO(vs:List V)(H:Hp)(Q:VK)(E_:XK):Prop
|mk:∀s n,vs=[.int s,.int n]->Q (.int (s*128+n)) H->spMkO vs H Q E_
theorem qCV(T:tXx)(S:tFf):S.aEO.Ok0 P w mg base 1 spMkO:=by(
refine S.aEO.F.ok0 qCT λd A U s H D Q E z h=>?_
obtain⟨s',n,rfl,q⟩:=h
refine⟨_,(qC (qL (qN uZ (qN v3 (pv 0) (jT rfl T.aDN ⟨_,rfl⟩ (v:=.int 128))) (pv 1)))),?_⟩
try dsimp-beta-proj-iota-zeta-eta only[wishK,cxK]
exact⟨_,rfl,iI ⟨.inr ⟨by decide,by decide⟩,_,rfl,iI q⟩⟩)
structure BkA where
bk:Addr
dx:Addr
wv:Addr
lv:Addr
fi:Addr
bo:Addr
structure BkAt(t:Adr)(H:Hp)(a:BkA)(m:QM):Prop where
o:H a.bk=some (.ins t.C_Book a.dx [("blocks",.int (m.B:Int)),("pages",.int (m.P:Int)),("stamp",.int m.nx),("where",.ref a.wv),("live",.ref a.lv),("filled",.ref a.fi),("born",.ref a.bo)])
w:H a.wv=some (.dK (dI m.V))
l:H a.lv=some (.lst (m.lv.map V.int))
f:H a.fi=some (.lst (m.fi.map V.int))
b:H a.bo=some (.lst (m.bo.map V.int))
structure Dst(a:BkA):Prop where
lf:a.lv≠a.fi
lb:a.lv≠a.bo
fb:a.fi≠a.bo
theorem BkAt.same{t:Adr}{H H':Hp}{a:BkA}{m:QM}(h:BkAt t H a m)(s:Same H H'):BkAt t H' a m:=⟨s _ _ h.o,s _ _ h.w,s _ _ h.l,s _ _ h.f,s _ _ h.b⟩
theorem BkAt.keep{t:Adr}{H H':Hp}{a:BkA}{m:QM}{F:List Addr}(h:BkAt t H a m)(k:Keep F H H')(n:∀b∈[a.bk,a.wv,a.lv,a.fi,a.bo],b∉F):BkAt t H' a m:=⟨k.k _ _ (n _ (by simp)) h.o,k.k _ _ (n _ (by simp)) h.w,k.k _ _ (n _ (by simp)) h.l,k.k _ _ (n _ (by simp)) h.f,k.k _ _ (n _ (by simp)) h.b⟩
noncomputable def bk0(B P:Nat):QM:=⟨P,B,1,[],List.replicate B 0,List.replicate B 0,List.replicate B 0⟩
inductive spBkI(t:Adr)(vs:List V)(H:Hp)(Q:VK)(E_:XK):Prop
|mk:∀x dx B P,vs=[.ref x,.int (B:Nat),.int (P:Nat)]->B<=16->H x=some (.ins t.C_Book dx [])->(∀(a:BkA) H',a.bk=x->a.dx=dx->BkAt t H' a (bk0 B P)->Dst a->(∀b∈[a.wv,a.lv,a.fi,a.bo],H b=none)->(∀b o,b≠x->H b=some o->H' b=some o)->Q .non H')->spBkI t vs H Q E_
theorem q52(T:tXx)(S:tFf):S.aBB.Ok0 P w mg base 1 (spBkI t):=by(
refine S.aBB.F.ok0 qAD λam A _ s H vs Q E hr h=>?_
obtain⟨x,dx,B,P,rfl,hB,hx,q⟩:=h
refine⟨_,(qB (jH (pv 0) (pv 1) rfl) (qB (jH (pv 0) (pv 2) rfl) (qB (jH (pv 0) qG rfl) (qB (jH (pv 0) q7A rfl) (qB (jH (pv 0) (qN q1F (jO (qA qG qE)) (pv 1)) rfl) (qB (jH (pv 0) (qN q1F (jO (qA qG qE)) (pv 1)) rfl) (qC (jH (pv 0) (qN q1F (jO (qA qG qE)) (pv 1)) rfl)))))))),?_⟩
try dsimp-beta-proj-iota-zeta-eta only[wishK,cxK]
refine⟨_,rfl,_,rfl,x,_,dx,_,rfl,hx,T.eI,T.aC4,by decide,?_⟩
refine⟨_,rfl,_,rfl,x,_,dx,_,rfl,qI,T.eI,T.iW,by show 1<1000;decide,?_⟩
refine⟨_,rfl,x,_,dx,_,rfl,qI,T.eI,T.fH,by show 2<1000;decide,?_⟩
rw[q9R,q9R]
have w1:Wm t.C_Book x dx H (upd H x (.ins t.C_Book dx (putF "stamp" (.int 1) (putF "pages" (.int (P:Int)) (putF "blocks" (.int (B:Int)) []))))) (putF "stamp" (.int 1) (putF "pages" (.int (P:Int)) (putF "blocks" (.int (B:Int)) []))) []:=⟨qI,Up.of (Same.refl H),by simp,by simp⟩
have rep:∀n:Nat,List.replicate n (V.int 0)=(List.replicate n (0:Int)).map V.int:=λn=>by rw[cY]
have eB:((B:Int)).toNat=B:=by lia
refine λU z=>?_
have w2:=w1.add z (Same.upd (o:=.dK []) z) qI
refine⟨_,rfl,x,_,dx,_,rfl,w2.i,T.eI,T.eW,by show 3<1000;decide,?_⟩
have w2:=w2.put "where" (.ref U)
refine⟨sz1,λN A3 n3 s3 e3=>⟨_,rfl,N,_,_,rfl,rfl,e3,by lia,by lia,λlv B3 m3 r3 J=>?_⟩⟩
rw[eB,rep]at J
have Z:=(w2.same s3).add m3 r3 J
refine⟨_,rfl,x,_,dx,_,rfl,Z.i,T.eI,T.iR,by show 4<1000;decide,?_⟩
have Z:=Z.put "live" (.ref lv)
refine⟨sz1,λN A4 n4 s4 e4=>⟨_,rfl,N,_,_,rfl,rfl,e4,by lia,by lia,λfi B4 m4 r4 D=>?_⟩⟩
rw[eB,rep]at D
have w4:=(Z.same s4).add m4 r4 D
refine⟨_,rfl,x,_,dx,_,rfl,w4.i,T.eI,T.eU,by show 5<1000;decide,?_⟩
have w4:=w4.put "filled" (.ref fi)
refine⟨sz1,λN A5 n5 s5 e5=>⟨_,rfl,N,_,_,rfl,rfl,e5,by lia,by lia,λbo B5 m5 r5 I=>?_⟩⟩
rw[eB,rep]at I
have d:=(w4.same s5).add m5 r5 I
refine⟨_,rfl,x,_,dx,_,rfl,d.i,T.eI,T.iS,by show 6<1000;decide,?_⟩
have d:=d.put "born" (.ref bo)
have O:[U,lv,fi,bo].Nodup:=d.n
simp only[m8,kN,dB,not_or,cQ]at O
exact q ⟨x,dx,U,lv,fi,bo⟩ _ rfl rfl ⟨d.i,(d.o (U,.dK []) (by simp)).1,(d.o (lv,.lst ((List.replicate B (0:Int)).map V.int)) (by simp)).1,(d.o (fi,.lst ((List.replicate B (0:Int)).map V.int)) (by simp)).1,(d.o (bo,.lst ((List.replicate B (0:Int)).map V.int)) (by simp)).1⟩ ⟨O.2.1.1,O.2.1.2,O.2.2.1⟩ (λb' af=>d.fr b' af) d.u)
inductive spMark(t:Adr)(vs:List V)(H:Hp)(Q:VK)(E_:XK):Prop
|mk:∀a,∀m:QM,∀n,vs=[.ref a.bk,.int n]->BkAt t H a m->Q (.int (m.nx*128+n)) H->spMark t vs H Q E_
theorem qAN(T:tXx)(S:tFf):S.aCH.Ok0 P w mg base 2 (spMark t):=by(
refine S.aCH.F.ok0 qAE λD A U s H I Q E d h=>?_
obtain⟨a,m,n,rfl,z,q⟩:=h
refine⟨_,(qC (qL (qU (qCV T S).mono d rfl T.aE9 T.aFA S.aEO.b .nil qK (qA (qJ (pv 0) rfl) (qA (pv 1) qE))))),?_⟩
try dsimp-beta-proj-iota-zeta-eta only[wishK,cxK]
exact(iV rfl (iF z.o T.eI T.fH rfl ⟨_,rfl,_,_,rfl,q⟩)))
inductive spFg(t:Adr)(vs:List V)(H:Hp)(Q:VK)(E_:XK):Prop
|mk:∀a,∀m:QM,∀n,vs=[.ref a.bk,.int n]->BkAt t H a m->m.Ok->Dst a->(∀H',BkAt t H' a (m.forget n)->Keep [a.wv,a.lv] H H'->Q .non H')->spFg t vs H Q E_
theorem q05(T:tXx)(S:tFf):S.oC.Ok0 P w mg base 1 (spFg t):=by(
refine S.oC.F.ok0 q2U λah A _ s H vs Q E hr h=>?_
obtain⟨a,m,n,rfl,d,ok,ds,q⟩:=h
have hu:=q61 hr
have p1:=ok.p1
have p2:=ok.p2
have O:a.bk≠a.wv:=jN d.o d.w (by intro z;cases z)
have ol:a.bk≠a.lv:=jN d.o d.l (by intro z;cases z)
have wl:a.wv≠a.lv:=jN d.w d.l (by intro z;cases z)
have wf:a.fi≠a.wv:=jN d.f d.w (by intro z;cases z)
have wb:a.bo≠a.wv:=jN d.b d.w (by intro z;cases z)
refine⟨_,(qC (jC (qC3 (qFH hu (pv 1) (qJ (pv 0) rfl))) (qB (qP (i:=2) q2U.nd rfl (Or.inl rfl) (qFJ (qJ (pv 0) rfl) (pv 1) ⟨rfl,rfl,rfl,rfl⟩)) (qC (q4I (qJ (pv 0) rfl) (qN vR (pv 2) (qJ (pv 0) rfl)) q2B qG qJZ uJ))) qQ)),?_⟩
try dsimp-beta-proj-iota-zeta-eta only[wishK,cxK]
refine⟨_,rfl,iV rfl (iF d.o T.eI T.eW rfl ⟨a.wv,_,rfl,DGet.k (k:=Sum.inl n) d.w,_,rfl,?_⟩)⟩
rcases QM.find_V (m:=m) (n:=n)with⟨p,hp,ef⟩|⟨hn,ef⟩
.have hv:(n,p)∈m.V:=hp;rw[q1H ok.nd hv];refine iteT ?_;refine(iV rfl (iF d.o T.eI T.eW rfl ⟨a.wv,rfl,.inl ⟨_,.inl d.w⟩,_,rfl,_,Sum.inl n,_,d.w,rfl,q1H ok.nd hv,?_⟩));rw[qG9];have k1:Keep [a.wv,a.lv] H (upd H a.wv (.dK (dI (jE m.V n)))):=Keep.upd d.w (λd z=>by cases z) (by simp);have w1:(upd H a.wv (.dK (dI (jE m.V n)))) a.wv=some (.dK (dI (jE m.V n))):=qI;have D:∀b o,b≠a.wv->H b=some o->(upd H a.wv (.dK (dI (jE m.V n)))) b=some o:=λb o nb e=>by rw[qD nb];exact e
 generalize upd H a.wv (.dK (dI (jE m.V n)))=H1 at k1 w1 D ⊢;obtain⟨c,hc,N⟩:=ok.blk _ hp;have N:p / (m.P:Int)=(c:Int):=N;have J:c<m.lv.length:=by rw[ok.ll];exact hc
 have Z:=D _ _ wl.symm d.l;refine(iV rfl (iF (D _ _ O d.o) T.eI T.iR rfl ⟨_,rfl,iV rfl (iF (D _ _ O d.o) T.eI T.iW rfl (iI ⟨⟨by lia,by lia⟩,iL (k:=_) (v:=_) (SqL.of Z) (by rw[N];exact atV J) (iI ⟨a.lv,_,_,c,rfl,rfl,Z,(by rw[N];exact q5F (by rw[kB];exact J)),?_⟩)⟩))⟩));rw[setV];have U:(m.forget n).lv=m.lv.set c (m.lv.getD c 0-1):=by show BM.lvF m.P m.V m.lv n=_;unfold BM.lvF;rw[ef];show m.lv.set (p / (m.P:Int)).toNat (m.lv.getD (p / (m.P:Int)).toNat 0-1)=_;rw[N,show((c:Int)).toNat=c by lia]
 refine q _ ⟨?_,?_,?_,?_,?_⟩ (k1.trans (Keep.upd Z (λd z=>by cases z) (by simp)))
 .rw[qD ol];exact D _ _ O d.o
 .rw[qD wl];exact w1
 .rw[U];exact qI
 .rw[qD ds.lf.symm];exact D _ _ wf d.f
 rw[qD ds.lb.symm];exact D _ _ wb d.b
rw[q3T (λz=>by obtain⟨r,I,e⟩:=mF.mp z;exact hn r I e)]
refine iteF ?_
have U:(m.forget n).lv=m.lv:=by show BM.lvF m.P m.V m.lv n=_;unfold BM.lvF;rw[ef]
have eV:(m.forget n).V=m.V:=qI9 λr I=>hn r I
exact q H ⟨d.o,by rw[eV];exact d.w,by rw[U];exact d.l,d.f,d.b⟩ Keep.refl)
theorem q82{V:Mp}:(dI V).length=V.length:=by unfold dI;rw[kB]
inductive spNt(t:Adr)(vs:List V)(H:Hp)(Q:VK)(E_:XK):Prop
|mk:∀a,∀m:QM,∀b f n,vs=[.ref a.bk,.int ((b*m.P+f:Nat):Int),.int n]->BkAt t H a m->m.Ok->Dst a->b<m.B->f<m.P->m.fi.getD b 0=(f:Int)->(∀H',BkAt t H' a (m.put b f n)->Keep [a.bk,a.wv,a.lv,a.fi,a.bo] H H'->Q .non H')->spNt t vs H Q E_
theorem q53(T:tXx)(S:tFf):S.aBF.Ok0 P w mg base 2 (spNt t):=by(
refine S.aBF.F.ok0 q4Z λbb A _ s H vs Q E hr h=>?_
obtain⟨a,m,b,f,n,rfl,d,ok,ds,hB,hf,ef,q⟩:=h
have hu:=q61 hr
have p1:=ok.p1
have p2:=ok.p2
have ob:a.bk≠a.wv:=jN d.o d.w (by intro z;cases z)
have ol:a.bk≠a.lv:=jN d.o d.l (by intro z;cases z)
have aa:a.bk≠a.fi:=jN d.o d.f (by intro z;cases z)
have oo:a.bk≠a.bo:=jN d.o d.b (by intro z;cases z)
have wl:a.wv≠a.lv:=jN d.w d.l (by intro z;cases z)
have wf:a.fi≠a.wv:=jN d.f d.w (by intro z;cases z)
have wb:a.bo≠a.wv:=jN d.b d.w (by intro z;cases z)
have eb:((b*m.P+f:Nat):Int) / (m.P:Int)=(b:Int):=by rw[<-dE,yC hf]
refine⟨_,(qB (qP (i:=3) q4Z.nd rfl (Or.inl rfl) (qN vR (pv 1) (qJ (pv 0) rfl))) (qB (qX (jD (pv 0) T.eI T.tE (q05 T S).mono hr S.oC.b .nil qK (qA (pv 2) qE))) (qB (qHO hu (qJ (pv 0) rfl) (pv 2) (pv 1) rfl) (qB (q4I (qJ (pv 0) rfl) (pv 3) q2B qG q6Y uJ) (vS (jC (qS zH (j8 qY (qJ (pv 0) rfl) (pv 3) (λz z=>rfl)) qG (qV _)) (qC (q5A (qJ (pv 0) rfl) (q6X (qJ (pv 0) rfl) (pv 3) uJ))) qQ) (qB (q4I (qJ (pv 0) rfl) (pv 3) q2B qG q6Y uJ) (qC (q90 (pv 0) qG qK4)))))))),?_⟩
try dsimp-beta-proj-iota-zeta-eta only[wishK,cxK]
refine⟨_,rfl,iV rfl (iF d.o T.eI T.iW rfl (iI ⟨⟨by lia,by lia⟩,?_⟩))⟩
try dsimp only
rw[eb]
refine(iV rfl (iM d.o rfl ⟨_,rfl,a,m,n,rfl,d,ok,ds,λH1 D k1=>?_⟩))
have k1:Keep [a.bk,a.wv,a.lv,a.fi,a.bo] H H1:=k1.mono (by intro x hx;simp at hx ⊢;rcases hx with rfl|rfl<;>simp)
have a7:(jE m.V n).length<=65:=mL (mJ _ _) ok.lenV
have w0:H1 a.wv=some (.dK (dI (jE m.V n))):=D.w
refine⟨_,rfl,iV rfl (iF D.o T.eI T.eW rfl ⟨_,rfl,a.wv,_,rfl,.inl ⟨_,Sum.inl n,w0,rfl,(by rw[q82];exact dJ (m:=65) (by lia) (by decide)),rfl⟩,?_⟩)⟩
rw[qIA,qEM]
have k2:Keep [a.bk,a.wv,a.lv,a.fi,a.bo] H1 (upd H1 a.wv (.dK (dI (jE m.V n++[(n,((b*m.P+f:Nat):Int))])))):=Keep.upd w0 (λd z=>by cases z) (by simp)
have w2:(upd H1 a.wv (.dK (dI (jE m.V n++[(n,((b*m.P+f:Nat):Int))])))) a.wv=some (.dK (dI (jE m.V n++[(n,((b*m.P+f:Nat):Int))]))):=qI
have Z:∀x o,x≠a.wv->H1 x=some o->(upd H1 a.wv (.dK (dI (jE m.V n++[(n,((b*m.P+f:Nat):Int))])))) x=some o:=λx o J e=>by rw[qD J];exact e
generalize upd H1 a.wv (.dK (dI (jE m.V n++[(n,((b*m.P+f:Nat):Int))])))=H2 at k2 w2 Z ⊢
have o2:=Z _ _ ob D.o
have l2:H2 a.lv=some (.lst ((BM.lvF m.P m.V m.lv n).map V.int)):=Z _ _ wl.symm D.l
have f2:H2 a.fi=some (.lst (m.fi.map V.int)):=Z _ _ wf D.f
have b2:H2 a.bo=some (.lst (m.bo.map V.int)):=Z _ _ wb D.b
have O:b<(BM.lvF m.P m.V m.lv n).length:=by rw[show(BM.lvF m.P m.V m.lv n).length=m.B from(ok.forget n).ll];exact hB
have I:b<m.fi.length:=by rw[ok.lf];exact hB
have ae:b<m.bo.length:=by rw[ok.lo];exact hB
refine(iV rfl (iF o2 T.eI T.iR rfl ⟨_,rfl,iL (k:=_) (v:=_) (SqL.of l2) (atV O) (iI ⟨a.lv,_,_,b,rfl,rfl,l2,q5F (by rw[kB];exact O),?_⟩)⟩))
rw[setV]
have k3:Keep [a.bk,a.wv,a.lv,a.fi,a.bo] H2 (upd H2 a.lv (.lst (((BM.lvF m.P m.V m.lv n).set b ((BM.lvF m.P m.V m.lv n).getD b 0+1)).map V.int))):=Keep.upd l2 (λd z=>by cases z) (by simp)
have l3:(upd H2 a.lv (.lst (((BM.lvF m.P m.V m.lv n).set b ((BM.lvF m.P m.V m.lv n).getD b 0+1)).map V.int))) a.lv=some (.lst (((BM.lvF m.P m.V m.lv n).set b ((BM.lvF m.P m.V m.lv n).getD b 0+1)).map V.int)):=qI
have U:∀x o,x≠a.lv->H2 x=some o->(upd H2 a.lv (.lst (((BM.lvF m.P m.V m.lv n).set b ((BM.lvF m.P m.V m.lv n).getD b 0+1)).map V.int))) x=some o:=λx o J e=>by rw[qD J];exact e
generalize upd H2 a.lv (.lst (((BM.lvF m.P m.V m.lv n).set b ((BM.lvF m.P m.V m.lv n).getD b 0+1)).map V.int))=H3 at k3 l3 U ⊢
have o3:=U _ _ ol o2
have w3:=U _ _ wl w2
have f3:=U _ _ ds.lf.symm f2
have b3:=U _ _ ds.lb.symm b2
refine⟨λao H'=>ao=[some (.ref a.bk),some (.int ((b*m.P+f:Nat):Int)),some (.int n),some (.int (b:Int))]/\Keep [a.bk,a.wv,a.lv,a.fi,a.bo] H3 H'/\H' a.bo=some (.lst ((m.put b f n).bo.map V.int))/\∀x o,x≠a.bo->H3 x=some o->H' x=some o,?_,?_⟩
.refine(iV rfl (iF o3 T.eI T.eU rfl ⟨_,rfl,iL (k:=_) (v:=_) (SqL.of f3) (atV I) ⟨rfl,_,rfl,?_⟩⟩));rw[q2C];by_cases z:m.fi.getD b 0=0
 .rw[hC z];refine iteT ?_;refine(iV rfl (iF o3 T.eI T.fH rfl (iV rfl (iF o3 T.eI T.iS rfl ⟨_,rfl,a.bo,_,_,b,rfl,rfl,b3,q5F (by rw[kB];exact ae),?_⟩))));rw[setV];refine⟨rfl,Keep.upd b3 (λd z=>by cases z) (by simp),?_,λx o J e=>by rw[qD J];exact e⟩;rw[qI];show _=some (HO.lst ((if m.fi.getD b 0=0 then m.bo.set b m.nx else m.bo).map V.int));rw[kM z];rfl
 rw[hX z];refine iteF ⟨rfl,Keep.refl,?_,λx o z e=>e⟩;show _=some (HO.lst ((if m.fi.getD b 0=0 then m.bo.set b m.nx else m.bo).map V.int));rw[kI z];exact b3
rintro ao N ⟨rfl,k4,b4,u4⟩
have o4:=u4 _ _ oo o3
have w4:=u4 _ _ wb.symm w3
have l4:=u4 _ _ ds.lb l3
have f4:=u4 _ _ ds.fb f3
refine(iV rfl (iF o4 T.eI T.eU rfl ⟨_,rfl,iL (k:=_) (v:=_) (SqL.of f4) (atV I) (iI ⟨a.fi,_,_,b,rfl,rfl,f4,q5F (by rw[kB];exact I),?_⟩)⟩))
rw[setV]
have k5:Keep [a.bk,a.wv,a.lv,a.fi,a.bo] N (upd N a.fi (.lst ((m.fi.set b (m.fi.getD b 0+1)).map V.int))):=Keep.upd f4 (λd z=>by cases z) (by simp)
have f5:(upd N a.fi (.lst ((m.fi.set b (m.fi.getD b 0+1)).map V.int))) a.fi=some (.lst ((m.fi.set b (m.fi.getD b 0+1)).map V.int)):=qI
have u5:∀x o,x≠a.fi->N x=some o->(upd N a.fi (.lst ((m.fi.set b (m.fi.getD b 0+1)).map V.int))) x=some o:=λx o J e=>by rw[qD J];exact e
generalize upd N a.fi (.lst ((m.fi.set b (m.fi.getD b 0+1)).map V.int))=H5 at k5 f5 u5 ⊢
have o5:=u5 _ _ aa o4
refine⟨_,rfl,a.bk,_,a.dx,_,_,rfl,o5,T.eI,T.fH,rfl,_,_,rfl,rfl,a.dx,_,o5,by show 7<1000;decide,?_⟩
refine q _ ⟨?_,?_,?_,?_,?_⟩ ((((k1.trans k2).trans k3).trans k4).trans (k5.trans (Keep.upd o5 (λd z=>by cases z) (by simp))))
.exact qI
.rw[qD ob.symm];exact u5 _ _ wf.symm w4
.rw[qD ol.symm];exact u5 _ _ ds.lf l4
.rw[qD aa.symm];exact f5
rw[qD oo.symm]
exact u5 _ _ ds.fb.symm b4)
noncomputable def lamE:Expr:=match((jV jW).getLast?:Option Stmt)with
|some (Stmt.Return (some (Expr.Call _ _ (k::_) _)) _)=>k.value
|_=>Expr.Name "" ⟨0,0,0,0⟩
noncomputable abbrev lamA:Arguments:=match lamE with
| .Lambda a _ _ _=>a
|_=>yE jW
noncomputable abbrev lamB:Expr:=match lamE with
| .Lambda _ b _ _=>b
|_=>lamE
noncomputable abbrev qH8:Scope:=match lamE with
| .Lambda _ _ s _=>s
|_=>qF jW
noncomputable abbrev lamP:Pos:=match lamE with
| .Lambda _ _ _ p=>p
|_=>⟨0,0,0,0⟩
noncomputable abbrev lamQ:Str:=(PyProof.Rows.envOfC "Plain.free" (qF jW) 0 0 .none).qual++"<lambda>"
noncomputable abbrev q83(clos:List (Str×Addr))(pm ct:Value)(c:Addr):FuncData:=W.kla_fn "<lambda>" lamQ lamA lamB qH8 clos pm (.ref c) ct
noncomputable def tri(c:Addr):Array Value:=#[rawInt lamP.line,rawInt lamP.col,.ref c]
noncomputable def lbE:Expr:=match((jV qW).getLast?:Option Stmt)with
|some (Stmt.Return (some (Expr.Subscript (Expr.Call _ _ (k::_) _) _ _)) _)=>k.value
|_=>Expr.Name "" ⟨0,0,0,0⟩
noncomputable abbrev lbA:Arguments:=match lbE with
| .Lambda a _ _ _=>a
|_=>yE qW
noncomputable abbrev lbB:Expr:=match lbE with
| .Lambda _ b _ _=>b
|_=>lbE
noncomputable abbrev lbSc:Scope:=match lbE with
| .Lambda _ _ s _=>s
|_=>qF qW
noncomputable abbrev lbP:Pos:=match lbE with
| .Lambda _ _ _ p=>p
|_=>⟨0,0,0,0⟩
noncomputable abbrev lbQ:Str:=(PyProof.Rows.envOfC "Even.block_to_change" (qF qW) 0 0 .none).qual++"<lambda>"
noncomputable abbrev lbFd(pm ct:Value)(c:Addr):FuncData:=W.kla_fn "<lambda>" lbQ lbA lbB lbSc [] pm (.ref c) ct
noncomputable def triB(c:Addr):Array Value:=#[rawInt lbP.line,rawInt lbP.col,.ref c]
noncomputable def TbB(t:Adr)(H:Hp):Prop:=∃ps,H t.eD=some (.tbl ps)/\(ps=#[]\/∃c,ps=triB c/\H c=some (cdO c lbQ))
noncomputable def TbF(t:Adr)(H:Hp):Prop:=∃ps,H t.eC=some (.tbl ps)/\(ps=#[]\/∃c,ps=tri c/\H c=some (cdO c lamQ))/\TbB t H
noncomputable def Tex(o:HO):Prop:=(∃ps,o=.tbl ps)\/∃p,o=.ext p
theorem TbB.gen{t:Adr}{H H':Hp}(h:TbB t H)(k:∀b o,Tex o->H b=some o->H' b=some o):TbB t H':=by(
obtain⟨ps,hT,h⟩:=h
refine⟨ps,k _ _ (.inl ⟨_,rfl⟩) hT,?_⟩
rcases h with h|⟨c,h,a⟩
.exact .inl h
exact .inr ⟨c,h,k _ _ (.inr ⟨_,rfl⟩) a⟩)
theorem TbF.gen{t:Adr}{H H':Hp}(h:TbF t H)(k:∀b o,Tex o->H b=some o->H' b=some o):TbF t H':=by(
obtain⟨ps,hT,h,d⟩:=h
refine⟨ps,k _ _ (.inl ⟨_,rfl⟩) hT,?_,d.gen k⟩
rcases h with h|⟨c,h,a⟩
.exact .inl h
exact .inr ⟨c,h,k _ _ (.inr ⟨_,rfl⟩) a⟩)
theorem TbF.same{t:Adr}{H H':Hp}(s:Same H H')(h:TbF t H):TbF t H':=h.gen λz z z e=>s _ _ e
theorem yW{H:Hp}{b c:Addr}{o o':HO}(x:Tex o)(e:H b=some o)(e':H c=some o')(n:¬Tex o'):b≠c:=λz=>by rw[z,e']at e;exact n (by rw[kQ e];exact x)
theorem q1X{C d:Addr}{fs:List (Str×V)}:¬Tex (.ins C d fs):=λz=>by rcases z with⟨_,z⟩|⟨_,z⟩<;>cases z
theorem zO{xs:List V}:¬Tex (.lst xs):=λz=>by rcases z with⟨_,z⟩|⟨_,z⟩<;>cases z
structure Sto where
s:Addr
sd:Addr
tm:Addr
td:Addr
c:Addr
a:CA
k:BkA
ru:V
pa:V
noncomputable def bf(k:BkA):List Addr:=[k.bk,k.wv,k.lv,k.fi,k.bo]
noncomputable def sf(x:Sto):List Addr:=foot x.c x.a++bf x.k
structure Fit(m:CM)(q:QM):Prop where
ok:m.Ok
oq:q.Ok
eB:m.bl=(q.B:Int)
eP:m.pg=(q.P:Int)
br:m.br=noB q.B
structure StAt(t:Adr)(H:Hp)(x:Sto)(r2 r3 r4 r5:V)(m:CM)(q:QM):Prop where
o:H x.s=some (.ins t.C_Sure x.sd [("chip",.ref x.c),("terms",.ref x.tm),("book",.ref x.k.bk),("rule",x.ru),("papers",x.pa)])
te:H x.tm=some (.ins t.C_Terms x.td (teF (.int m.bl) (.int m.pg) r2 r3 r4 r5))
ch:ChipAt t.C_Chip H x.c x.a m
bk:BkAt t H x.k q
tb:TbF t H
ds:Dst x.k
d1:∀b∈x.a.li::foot x.c x.a,b∉bf x.k
d2:∀b∈[x.s,x.tm],b∉sf x
section
variable{H H':Hp}{x:Sto}{r2 r3 r4 r5:V}{m:CM}{q:QM}
theorem StAt.same(h:StAt t H x r2 r3 r4 r5 m q)(s:Same H H'):StAt t H' x r2 r3 r4 r5 m q:=⟨s _ _ h.o,s _ _ h.te,h.ch.same s,h.bk.same s,h.tb.same s,h.ds,h.d1,h.d2⟩
theorem TbF.ne(h:TbF t H){b:Addr}{o:HO}(e:H b=some o)(n:∀ps,o≠ .tbl ps):b≠t.eC:=λz=>by obtain⟨ps,hT,_⟩:=h;rw[z,hT]at e;exact n ps (kQ e).symm
theorem StAt.nT(h:StAt t H x r2 r3 r4 r5 m q):∀b∈[x.s,x.tm]++(x.a.li::sf x),b∉[t.eC]:=by(
intro b d z
have z:b=t.eC:=by simpa using z
have ne:∀{b:Addr} {o:HO},H b=some o->(∀ps,o≠ .tbl ps)->b≠t.eC:=λe n=>h.tb.ne e n
obtain⟨rs,D,_⟩:=h.ch.rc
have d:b=x.s\/b=x.tm\/b=x.a.li\/b=x.c\/b=x.a.bo\/b=x.a.cl\/b=x.a.dc\/b=x.a.br\/b=x.a.rc\/b=x.k.bk\/b=x.k.wv\/b=x.k.lv\/b=x.k.fi\/b=x.k.bo:=by simpa[sf,bf,foot]using d
rcases d with y|y|y|y|y|y|y|y|y|y|y|y|y|y<;>rw[y]at z
.exact ne h.o (λU z=>by cases z) z
.exact ne h.te (λU z=>by cases z) z
.exact ne h.ch.li (λU z=>by cases z) z
.exact ne h.ch.ins (λU z=>by cases z) z
.exact ne h.ch.bo (λU z=>by cases z) z
.exact ne h.ch.cl (λU z=>by cases z) z
.exact ne h.ch.dc (λU z=>by cases z) z
.exact ne h.ch.br (λU z=>by cases z) z
.exact ne D (λU z=>by cases z) z
.exact ne h.bk.o (λU z=>by cases z) z
.exact ne h.bk.w (λU z=>by cases z) z
.exact ne h.bk.l (λU z=>by cases z) z
.exact ne h.bk.f (λU z=>by cases z) z
exact ne h.bk.b (λU z=>by cases z) z)
theorem StAt.nX(h:StAt t H x r2 r3 r4 r5 m q){b:Addr}{o:HO}(e:H b=some o)(to:Tex o):b∉[x.s,x.tm]++(x.a.li::sf x):=λhb=>by(
obtain⟨rs,er,_⟩:=h.ch.rc
have hb:b=x.s\/b=x.tm\/b=x.a.li\/b=x.c\/b=x.a.bo\/b=x.a.cl\/b=x.a.dc\/b=x.a.br\/b=x.a.rc\/b=x.k.bk\/b=x.k.wv\/b=x.k.lv\/b=x.k.fi\/b=x.k.bo:=by simpa[sf,bf,foot]using hb
rcases hb with y|y|y|y|y|y|y|y|y|y|y|y|y|y
.exact yW to e h.o q1X y
.exact yW to e h.te q1X y
.exact yW to e h.ch.li (λz=>by rcases z with⟨_,z⟩|⟨_,z⟩<;>cases z) y
.exact yW to e h.ch.ins q1X y
.exact yW to e h.ch.bo zO y
.exact yW to e h.ch.cl zO y
.exact yW to e h.ch.dc zO y
.exact yW to e h.ch.br zO y
.exact yW to e er zO y
.exact yW to e h.bk.o q1X y
.exact yW to e h.bk.w (λz=>by rcases z with⟨_,z⟩|⟨_,z⟩<;>cases z) y
.exact yW to e h.bk.l zO y
.exact yW to e h.bk.f zO y
exact yW to e h.bk.b zO y)
theorem StAt.keep(h:StAt t H x r2 r3 r4 r5 m q){F:List Addr}(k:Keep F H H')(n:∀b∈[x.s,x.tm]++(x.a.li::sf x),b∉F)(tb:TbF t H'):StAt t H' x r2 r3 r4 r5 m q:=⟨k.k _ _ (n _ (by simp)) h.o,k.k _ _ (n _ (by simp)) h.te,h.ch.keep k (λb hb=>n b (by
  rcases kN.mp hb with rfl|hb
  .simp
  .simp[sf,hb])),h.bk.keep k (λb hb=>n b (by
  have hb:b∈bf x.k:=hb;simp[sf,hb])),tb,h.ds,h.d1,h.d2⟩
theorem StAt.kT(h:StAt t H x r2 r3 r4 r5 m q)(k:Keep [t.eC] H H')(tb:TbF t H'):StAt t H' x r2 r3 r4 r5 m q:=h.keep k h.nT tb
end
inductive spGd(t:Adr)(vs:List V)(H:Hp)(Q:VK)(E_:XK):Prop
|mk:∀x r2 r3 r4 r5 m q,vs=[.ref x.s]->StAt t H x r2 r3 r4 r5 m q->Fit m q->NewO H (.lst ((uK q.B m.br).map vn)) Q->spGd t vs H Q E_
theorem uL(T:tXx)(S:tFf):S.iH.Ok0 P w mg base 5 (spGd t):=by(
refine S.iH.F.ok0 q8H λae A _ s H vs Q E hr h=>?_
obtain⟨x,r2,r3,r4,r5,m,q,rfl,N,U,k⟩:=h
have b2:=U.oq.b2
have eB:=U.eB
refine⟨_,(qC (qL (uN ["self","block"] [0] rfl (q5B rfl T.aCU (qA (qJ (qJ (pv 0) rfl) rfl) qE)) (λz z z z z=>(jA (i:=1) (show List.Nodup (["self","block"]:List Str)from by decide) rfl (Or.inl rfl))) (λz z z z z=>(uA (yU (jS (jD (uB (K:=K) rfl (pv 0) rfl) T.eG T.aDI (q81 T S).mono hr S.aAV.b .nil qK (qA (pv 1) qE)))))) (λz z z z z=>(pv 1)) (by kernel_rfl) (yF (by decide))))),?_⟩
try dsimp-beta-proj-iota-zeta-eta only[wishK,cxK]
refine(iV rfl (iF N.o T.eE T.eO rfl (iF N.te T.eQ T.fF rfl ⟨m.bl,rfl,by lia,by lia,λD H2 nD s2 hD=>?_⟩)))
refine qEN (D:=D) (λi d=>Same H d/\d D=some (.lst (((List.range i).filter λb=>!(m.br.getD b false)).map vn))) ⟨s2,hD⟩ (λi d hi O=>?_) (λd O=>?_)
.obtain⟨J,I⟩:=O;have hi:i<q.B:=by lia
 have Z:=N.same J;refine(iV rfl (iF Z.o T.eE T.fG rfl (iM Z.ch.ins rfl ⟨_,rfl,x.c,x.a,m,_,rfl,Z.ch,U.ok,by lia,by lia,?_⟩)));rw[show(0+(i:Int)).toNat=i by lia,Int.zero_add];refine⟨_,rfl,?_⟩;rw[pZ,gQ,gA];cases z:m.br.getD i false with
 |true=>refine iteF ⟨J,?_⟩;rw[I,gF,z];simp
 |false=>
  refine iteT ?_;refine⟨_,rfl,_,I,?_,λb o e=>?_,?_⟩
  .rw[kB];have:((List.range i).filter λb=>!(m.br.getD b false)).length<=i:=mL (mJ _ _) (by rw[mV];exact kO _);have:(16:Nat)<sizeLine:=by decide
   lia
  .rw[qD (qH e nD)];exact J _ _ e
  rw[qI,gF,z];rfl
obtain⟨J,I⟩:=O
rw[show m.bl.toNat=q.B by lia]at I
exact k D d nD J I)
inductive spLm(t:Adr)(x:Sto)(g c:Addr)(fd:FuncData)(vs:List V)(H:Hp)(Q:VK)(E_:XK):Prop
|mk:∀r2 r3 r4 r5,∀m:CM,∀q:QM,∀b:Nat,vs=[.int (b:Int)]->StAt t H x r2 r3 r4 r5 m q->Fit m q->b<q.B->H g=some (fnO g fd)->H c=some (cdO c lamQ)->(∀tp H',H tp=none->Same H H'->H' tp=some (.tup [.int (m.cl.getD b 0),.int (b:Int)])->Q (.ref tp) H')->spLm t x g c fd vs H Q E_
theorem qLJ(T:tXx)(S:tFf){g c ca:Addr}{pm ct:Value}{x:Sto}(hc:base.IsCell ca (some (.ref x.s))):
 FnOk P w K mg base CX0 5 g (q83 [("self",ca)] pm ct c) ["block"] (spLm t x g c (q83 [("self",ca)] pm ct c)):=by(
refine qIC (k:=4) (x0:="block") (fvs:=[.ref x.s]) (qEP (u:=.ref x.s) rfl rfl rfl (by decide+kernel) (by decide+kernel) (by decide+kernel) rfl hc) (λN H Q E h=>?_) (λN H Q E h=>?_) (λA outer s H J Q E I h=>?_)
.repeat obtain⟨_,h⟩:=h
 all_goals subst_vars;rfl
.obtain⟨r2,r3,r4,r5,m,q,b,rfl,_,_,_,a,d,_⟩:=h;exact⟨a,d⟩
obtain⟨r2,r3,r4,r5,m,q,b,e,z,D,O,_,_,k⟩:=h
obtain rfl:J=.int (b:Int):=by simpa using e
have U:=D.eB
refine⟨_,yX (qA (jD (qJ (pv 1) rfl) T.eG T.oY (zG T S).mono I S.iO.b .nil qK (qA (pv 0) qE)) (qA (pv 0) qE)),?_⟩
refine(iV rfl (iF z.o T.eE T.fG rfl (iM z.ch.ins rfl ⟨_,rfl,x.c,x.a,m,_,rfl,z.ch,D.ok,by lia,by lia,?_⟩)))
rw[mB]
exact⟨_,rfl,sz2,k⟩)
theorem qEU{clos:List (Str×Addr)}{c:Addr}{pm ct:Value}:jQ K (q83 clos pm ct c) ["block"] []:=jQ.all λus hl=>match us,hl with| [_],_=>rfl
theorem qJ4(T:tXx){H:Hp}(h:TbF t H):∃ps,H t.eC=some (.tbl ps)/\TriplesOk ps.toList/\((codeAmong lamP ps.toList=none/\∀c H',H' t.eC=some (.tbl (ps++tri c))->H' c=some (cdO c lamQ)->(∀b o,b≠t.eC->H b=some o->H' b=some o)->TbF t H')\/∃c,codeAmong lamP ps.toList=some (.ref c)/\H c=some (cdO c lamQ)):=by(
obtain⟨ps,hT,h,J⟩:=h
rcases h with rfl|⟨c,rfl,a⟩
.refine⟨_,hT,trivial,.inl ⟨rfl,λc H' S O k=>⟨_,S,.inr ⟨c,rfl,O⟩,?_⟩⟩⟩;obtain⟨D,d,h'⟩:=J;refine⟨D,k _ _ (T.aAK.symm) d,?_⟩;rcases h' with h'|⟨N,h',I⟩
 .exact .inl h'
 exact .inr ⟨N,h',k _ _ (λz=>by rw[z,hT]at I;cases I) I⟩
exact⟨_,hT,trivial,.inr ⟨c,rfl,a⟩⟩)
theorem q9Q(T:tXx)(S:tFf){cells:List (Str×Addr)}{σ:St}{H4:Hp}{D f c':Addr}{x:Sto}{r2 r3 r4 r5:V}{m:CM}{q:QM}{clos:List (Str×Addr)}{pm ct:Value}{Q:VK}(hσ:σ[0]?=some (some (.ref x.s)))(hcl:∀ca,cells.lookup ("self":Str)=some ca->clos=[(("self":Str),ca)])
 (hs:StAt t H4 x r2 r3 r4 r5 m q) (ft:Fit m q) (hD:H4 D=some (.lst ((u8 q.B m.br q.fi).map vn))) (hf:H4 f=some (fnO f (q83 clos pm ct c'))) (hc:H4 c'=some (cdO c' lamQ)) (k:∀l p H',FreeIs q.B m.br m.cl q.fi l->H4 p=none->Same H4 H'->H' p=some (.lst (l.map vn))->Q (.ref p) H'):
 ∃(f':Addr) (fd:FuncData) (sp:Heap->Sp),V.ref f=.ref f'/\(∀base',(∀b o,base.get? b=some o->base'.get? b=some o)->q2E cells σ base' [(0,"self")]->FnOk P w K mg base' CX0 5 f' fd ["block"] (sp base'))/\jQ K fd ["block"] []/\∃(l:Addr) (us:List V) (Pv:Nat->List V->Hp->Prop),[V.ref D]=[.ref l]/\SqL K H4 l us/\us.length<64/\Pv 0 [] H4/\(∀base' i x zs H',q2E cells σ base' [(0,"self")]->us[i]?=some x->Pv i zs H'->sp base' [x] H' (λz H''=>Pv (i+1) (zs++[z]) H'') E0)/\∀zs H',zs.length=us.length->Pv us.length zs H'->∃kk m,Paired (TupI K H') zs kk/\(∀k∈kk,k.length=m)/\0<m/\∀q:List Nat,q.Perm (List.range us.length)->(q.map λi=>kk.getD i []).Pairwise (λa b=>lx b a=false)->NewO H' (.lst (q.map λi=>us.getD i .non)) Q:=by(
have b2:=ft.oq.b2
have ln:=qER (B:=q.B) (br:=m.br) (fi:=q.fi)
refine⟨f,q83 clos pm ct c',λF=>spLm t x f c' (q83 clos pm ct c'),rfl,λbase' F cv=>?_,qEU,D,_,λi zs H'=>Same H4 H'/\Paired (TupD H') zs (((u8 q.B m.br q.fi).take i).map (keyN m.cl)),rfl,SqL.of hD,by rw[kB];lia,⟨Same.refl H4,.nil⟩,λbase' i y zs H' F hy hp=>?_,λzs H' lz hp=>?_⟩
.obtain⟨ca,u,Z,ru,I⟩:=cv (0,"self") (kE.mpr rfl) (.ref x.s) hσ;obtain rfl:u=Value.ref x.s:=ru;rw[hcl ca Z];exact qLJ T S I
.obtain⟨d,N⟩:=hp;rw[kZ]at hy;obtain⟨b,hb,rfl⟩:=kP.mp hy;have mb:=q9J.mp (gD hb);refine⟨r2,r3,r4,r5,m,q,b,rfl,hs.same d,ft,mb.1.1,d _ _ hf,d _ _ hc,λtp H5 al J O=>⟨d.trans J,?_⟩⟩;rw[q9K (f:=keyN m.cl) hb];exact L2.Paired.snoc (u7 N J) ⟨tp,rfl,O⟩
obtain⟨d,N⟩:=hp
rw[kB,gH]at N
refine⟨_,2,qDJ N,λk Z=>?_,by decide,λq' U p2 p H5 np J O=>?_⟩
.obtain⟨b,_,rfl⟩:=mF.mp Z;rfl
rw[kB]at U
have ab:∀i∈q',i<(u8 q.B m.br q.fi).length:=λi hi=>mO.mp (U.mem_iff.mp hi)
rw[q7P (e:=0) ab]at O
exact k _ p H5 (qIF U p2) (Same.free d np) (d.trans J) O)
inductive spFr(t:Adr)(vs:List V)(H:Hp)(Q:VK)(E_:XK):Prop
|mk:∀x r2 r3 r4 r5 m q,vs=[.ref x.s]->StAt t H x r2 r3 r4 r5 m q->Fit m q->(∀l p H',FreeIs q.B m.br m.cl q.fi l->H p=none->Keep [t.eC] H H'->TbF t H'->H' p=some (.lst (l.map vn))->Q (.ref p) H')->spFr t vs H Q E_
theorem q0U(T:tXx)(S:tFf)(B:BmIn base mg):FnOk P w K mg base (CX0) 8 t.f_Plain_free S.tN ["self"] (spFr t):=by(
refine S.aEE.ok0 q3O λA F s H vs Q E hr h=>?_
obtain⟨x,r2,r3,r4,r5,m,q,rfl,hs,ft,k⟩:=h
have b2:=ft.oq.b2
have eB:=ft.eB
refine⟨_,(qB (q7J (i:=1) ["self","block"] [0] rfl (jU (qT (pv 0) T.eE T.i4 (uL T S).mono hr S.iH.b .nil qK)) (λF F F F F=>(jA (i:=1) (show List.Nodup (["self","block"]:List Str)from by decide) rfl (Or.inl rfl))) (λF F F F F=>(uA (qS zH (j8 (q4S (K:=K) rfl) (uB (K:=K) rfl (uB (K:=K) rfl (pv 0) rfl) rfl) (pv 1) (λF F=>rfl)) qG (qV _)))) (λF F F F F=>(pv 1)) (by kernel_rfl) (yF (by decide)) q3O.nd rfl (Or.inl rfl)) (qC (qL (qCJ (k:=5) (x:="block") [(0,"self")] (by intro p hp;simp only[kN,dB,cQ]at hp;rcases hp with rfl<;>exact⟨rfl,by kernel_rfl,rfl⟩) hr (by rfl) T.aBH (qDL rfl T.aDQ B (qID (by kernel_rfl)) rfl) (qA (pv 1) qE))))),?_⟩
try dsimp-beta-proj-iota-zeta-eta only[wishK,cxK]
refine(iV rfl (iM hs.o rfl ⟨x,r2,r3,r4,r5,m,q,rfl,hs,ft,λp H1 n1 s1 h1=>?_⟩))
refine⟨p,rfl,⟨_,SqL.of h1⟩,λD H2 nD s2 hD=>?_⟩
refine v4 (K:=K) (xs:=(uK q.B m.br).map vn) (D:=D) (λi H3=>Same H1 H3/\H3 D=some (.lst ((((uK q.B m.br).take i).filter λb=>decide (q.fi.getD b 0=0)).map vn))) ⟨s2,hD⟩ (λi H3 hp=>SqL.of (hp.1 _ _ h1)) (λi y H3 hy hp=>?_) (λH3 hp=>?_)
.obtain⟨O,U⟩:=hp;have N:=(hs.same s1).same O;rw[kZ]at hy;obtain⟨b,hb,rfl⟩:=kP.mp hy;have hi:=(kC.mp hb).1;have mb:=q13.mp (gD hb);refine(iV rfl (iF N.o T.eE T.eL rfl (iF N.bk.o T.eI T.eU rfl ⟨_,rfl,iL (k:=_) (v:=_) (SqL.of N.bk.f) (atV (by rw[ft.oq.lf];exact mb.1)) ⟨rfl,_,rfl,?_⟩⟩)));rw[q2C,<-mQ hi,gQ,gA];obtain rfl:(uK q.B m.br)[i]=b:=(kC.mp hb).2;by_cases z:q.fi.getD (uK q.B m.br)[i] 0=0
 .rw[hC z];refine iteT ?_;refine⟨_,rfl,_,U,?_,λb o e=>?_,?_⟩
  .rw[kB];have l1:(((uK q.B m.br).take i).filter λb=>decide (q.fi.getD b 0=0)).length<=q.B:=mL (mJ _ _) (mL (by rw[gX];lia) (q2F (B:=q.B) (br:=m.br)));have:(16:Nat)<sizeLine:=by decide
   lia
  .rw[qD (qH e nD)];exact O _ _ e
  rw[qI,gF,hC z];rfl
 rw[hX z];refine iteF ⟨O,?_⟩;rw[U,gF,hX z];simp
obtain⟨O,U⟩:=hp
rw[kB,gH]at U
have U:H3 D=some (.lst ((u8 q.B m.br q.fi).map vn)):=U
have N:=(hs.same s1).same O
refine⟨_,rfl,?_⟩
obtain⟨ps,hT,ht,hc⟩:=qJ4 T N.tb
have nT:D≠t.eC:=N.tb.ne U (λF z=>by cases z)
have keep:∀(f c':Addr) (I pm:Value) (Z:List (Str×Addr)) (J:Hp),J f=some (fnO f (q83 Z pm I c'))->J c'=some (cdO c' lamQ)->TbF t J->(∀b o,b≠t.eC->H3 b=some o->J b=some o)->Keep [t.eC] H3 J:=λf c' I pm Z J F F d kp=>⟨λb o nb e=>kp b o (λz=>nb (by rw[z];simp)) e,λb xs e=>kp b _ (N.tb.ne e (λF z=>by cases z)) e⟩
refine⟨ps,hT,ht,?_⟩
rcases hc with⟨hn,tb⟩|⟨c0,hn,hc0⟩
.refine .inl ⟨hn,λf c' I J nf hf ad ap kp=>?_⟩;have d:=tb c' J ap ad kp;have k4:=keep f c' I _ _ J hf ad d kp;refine q9Q T S rfl (λca hk=>qBF (names:=qH8.names) hk rfl) (N.kT k4 d) ft (kp _ _ nT U) hf ad (λl p' H5 hl np s5 e5=>k l p' H5 hl ?_ ?_ (d.same s5) e5)
 .refine Same.free s1 (Same.free O (k4.none (λz=>?_) np));obtain⟨a6,ao,_⟩:=d;rw[kE.mp z,ao]at np;cases np
 exact((Keep.same s1).trans (Keep.same O)).trans (k4.trans (Keep.same s5))
refine .inr ⟨c0,hn,λf I J nf hf s4=>?_⟩
refine q9Q T S rfl (λca hk=>qBF (names:=qH8.names) hk rfl) (N.same s4) ft (s4 _ _ U) hf (s4 _ _ hc0) (λl p' H5 hl np s5 e5=>k l p' H5 hl ?_ ?_ ((N.tb.same s4).same s5) e5)
.exact Same.free s1 (Same.free O (Same.free s4 np))
exact Keep.same (((s1.trans O).trans s4).trans s5))
inductive spPt(t:Adr)(vs:List V)(H:Hp)(Q:VK)(E_:XK):Prop
|mk:∀x r2 r3 r4 r5 m q,vs=[.ref x.s]->StAt t H x r2 r3 r4 r5 m q->Fit m q->(∀H',Same H H'->Q (oV (jR q.B q.P m.br q.fi)) H')->spPt t vs H Q E_
theorem qEV{α:Type}{p:α->Bool}{L:List α}{i:Nat}{x:α}(h:L[i]?=some x)(n:(L.take i).find? p=none):(p x=true->L.find? p=some x)/\(p x=false->(L.take (i+1)).find? p=none):=by(
have z:=(kC.mp h).1
obtain rfl:L[i]=x:=(kC.mp h).2
constructor
.intro d;have e:L=L.take i++L[i]::L.drop (i+1):=by rw[List.getElem_cons_drop,lI]
 conv=>lhs;arg 2;rw[e]
 rw[aH,n,dH,d];rfl
intro d
rw[<-mQ z,aH,n,dH,d]
rfl)
theorem q0V(T:tXx)(S:tFf):S.o9.Ok0 P w mg base 6 (spPt t):=by(
refine S.o9.F.ok0 q3P λaj A _ s H vs Q E hr h=>?_
obtain⟨x,r2,r3,r4,r5,m,q,rfl,hs,O,k⟩:=h
refine⟨_,(qB (vI wY rfl (jU (qT (pv 0) T.eE T.i4 (uL T S).mono hr S.iH.b .nil qK)) (jA (i:=1) q3P.nd rfl (Or.inl rfl)) (qC (jC (qF5 q4J q4J qG (j8 qY (qJ (qJ (pv 0) rfl) rfl) (pv 1) (λz z=>rfl)) (qJ (qJ (pv 0) rfl) rfl)) (qC (qL (pv 1))) qQ))) (qC (qL yI))),?_⟩
try dsimp-beta-proj-iota-zeta-eta only[wishK,cxK]
refine(iV rfl (iM hs.o rfl ⟨x,r2,r3,r4,r5,m,q,rfl,hs,O,λp H1 n1 s1 h1=>?_⟩))
refine⟨p,rfl,⟨_,SqL.of h1⟩,?_⟩
refine uI (K:=K) (xs:=(uK q.B m.br).map vn) (λi U H2=>∃y,U=[some (.ref x.s),y]/\Same H1 H2/\((uK q.B m.br).take i).find? (jZ q.P q.fi)=none) ⟨_,rfl,Same.refl H1,rfl⟩ (λi U H2 hi I=>?_) (λi y U H2 hy I=>?_) (λU H2 I=>?_)
.obtain⟨y,rfl,d,_⟩:=I;exact SqL.of (d _ _ h1)
.obtain⟨y',rfl,d,Z⟩:=I;have J:=(hs.same s1).same d;rw[kZ]at hy;obtain⟨b,hb,rfl⟩:=kP.mp hy;have mb:=q13.mp (gD hb);obtain⟨y1,y2⟩:=qEV hb Z;refine(iV rfl (iF J.o T.eE T.eL rfl (iF J.bk.o T.eI T.eU rfl ⟨_,rfl,iL (k:=_) (v:=_) (SqL.of J.bk.f) (atV (by rw[O.oq.lf];exact mb.1)) ?_⟩)));refine(iI ⟨_,rfl,?_⟩);by_cases D:0<q.fi.getD b 0
 .rw[hC D];refine iteT ?_;refine(iV rfl (iF J.o T.eE T.eO rfl (iF J.te T.eQ T.eT rfl (iI ⟨_,rfl,?_⟩))));by_cases N:q.fi.getD b 0<m.pg
  .rw[hC N];have z:=k H2 (s1.trans d);unfold jR at z;rw[y1 (by unfold jZ;rw[hC D,hC (by rw[<-O.eP];exact N)];rfl)]at z;exact iteT ⟨_,rfl,z⟩
  rw[hX N];exact iteF ⟨_,rfl,d,y2 (by unfold jZ;rw[hC D,hX (by rw[<-O.eP];exact N)];rfl)⟩
 rw[hX D];exact iteF ⟨_,rfl,iteF ⟨_,rfl,d,y2 (by unfold jZ;rw[hX D];rfl)⟩⟩
obtain⟨y',rfl,d,Z⟩:=I
rw[kB,gH]at Z
have z:=k H2 (s1.trans d)
unfold jR at z
rw[Z]at z
exact z)
inductive spSp(t:Adr)(vs:List V)(H:Hp)(Q:VK)(E_:XK):Prop
|mk:∀x r2 r3 r4 r5 m q,vs=[.ref x.s]->StAt t H x r2 r3 r4 r5 m q->Fit m q->(∀l H',FreeIs q.B m.br m.cl q.fi l->Keep [t.eC] H H'->TbF t H'->Q (pgV q.P q.fi (q21 q.B q.P m.br q.fi l)) H')->spSp t vs H Q E_
theorem q8O(T:tXx)(S:tFf)(B:BmIn base mg):S.aBK.Ok0 P w mg base 9 (spSp t):=by(
refine S.aBK.F.ok0 q0R λad A _ s H vs Q E J h=>?_
obtain⟨x,r2,r3,r4,r5,m,q,rfl,N,d,k⟩:=h
refine⟨_,(qB (qP (i:=1) q0R.nd rfl (Or.inl rfl) (qT (pv 0) T.eE T.aA6 (q0V T S).mono J S.o9.b .nil qK)) (qB (jC (qS q4K (pv 1) yI (qV _)) (qC (qL (qN uZ (qN v3 (pv 1) (qJ (qJ (pv 0) rfl) rfl)) (j8 qY (qJ (qJ (pv 0) rfl) rfl) (pv 1) (λz z=>rfl))))) qQ) (qB (qP (i:=2) q0R.nd rfl (Or.inl rfl) (qT (pv 0) T.eE T.aAY (q0U T S B).mono J S.t6 .nil qK)) (qB (jC (qS (q7G J.units) (pv 2) (jO qE) (qV _)) (qC (qL yI)) qQ) (qC (qL (qN v3 (j8 qY (pv 2) qG (λz z=>rfl)) (qJ (qJ (pv 0) rfl) rfl)))))))),?_⟩
try dsimp-beta-proj-iota-zeta-eta only[wishK,cxK]
refine(iV rfl (iM N.o rfl ⟨x,r2,r3,r4,r5,m,q,rfl,N,d,λH1 Z=>?_⟩))
have h1:=N.same Z
have b2:=d.oq.b2
have p2:=d.oq.p2
have eP:=d.eP
cases hpn:jR q.B q.P m.br q.fi with
|some b=>
 have O:=q1J hpn;refine⟨_,rfl,rfl,_,rfl,iteT ?_⟩;refine⟨_,rfl,iV rfl (iF h1.o T.eE T.eO rfl (iF h1.te T.eQ T.eT rfl (iI ⟨.inl ⟨by lia,by lia⟩,?_⟩)))⟩;refine(iV rfl (iF h1.o T.eE T.eL rfl (iF h1.bk.o T.eI T.eU rfl ⟨_,rfl,iL (k:=_) (v:=_) (SqL.of h1.bk.f) (atV (by rw[d.oq.lf];exact O.1)) (iI ?_)⟩)));obtain⟨l,hl⟩:=FreeIs.ex q.B m.br m.cl q.fi;have kk:=k l H1 hl (Keep.same Z) h1.tb;unfold q21 at kk;rw[hpn]at kk;have e:pgV q.P q.fi (some b)=V.int ((b:Int)*m.pg+q.fi.getD b 0):=by rw[eP];rfl
 have kk:Q (pgV q.P q.fi (some b)) H1:=kk;rw[e]at kk;exact kk
|none=>
 refine⟨_,rfl,rfl,_,rfl,iteF ?_⟩;refine(iV rfl (iM h1.o rfl ⟨x,r2,r3,r4,r5,m,q,rfl,h1,d,λl p H2 hl np k2 D h2=>?_⟩));have U:=h1.kT k2 D;refine⟨_,rfl,sz0,λe H3 n3 z h3=>⟨p,_,e,rfl,rfl,SqL.of (z _ _ h2),SqL.of h3,_,rfl,?_⟩⟩;have I:=U.same z;have kk:=k l H3 hl (((Keep.same Z).trans k2).trans (Keep.same z)) (D.same z);unfold q21 at kk;rw[hpn]at kk;cases l with
 |nil=>refine iteT ?_;exact kk
 |cons b r=>
  refine iteF ?_;have O:=hl.mem (kU (a:=b) (l:=r));refine⟨_,rfl,iL (k:=0) (v:=.int (b:Int)) (SqL.of (z _ _ h2)) (zJ (j:=0) rfl) (iV rfl (iF I.o T.eE T.eO rfl (iF I.te T.eQ T.eT rfl (iI ⟨.inl ⟨by lia,by lia⟩,?_⟩))))⟩;have e:pgV q.P q.fi ((b::r).head?)=V.int ((b:Int)*m.pg):=by show V.int ((b:Int)*(q.P:Int)+q.fi.getD b 0)=_;rw[O.2.2,eP,Int.add_zero]
  have kk:Q (pgV q.P q.fi ((b::r).head?)) H3:=kk;rw[e]at kk;exact kk)
noncomputable def qBV(t:Adr):Sp:=λvs H Q E=>∃x r2 r3 r4 r5 m q n v,vs=[.ref x.s,.int n,.int v]/\StAt t H x r2 r3 r4 r5 m q/\Fit m q/\Gd m/\m.rc.length<1000000/\∀l,FreeIs q.B m.br m.cl q.fi l->∃b f:Nat,q21 q.B q.P m.br q.fi l=some b/\q.fi.getD b 0=(f:Int)/\m.bo.getD (b*q.P+f) .non=.non/\(m.lf=some 0->∀H',Keep (t.eC::sf x) H H'->StAt t H' x r2 r3 r4 r5 m q->E (.ref t.C_PowerGone) none H')/\(m.lf≠some 0->∀tp H',H' tp=some (.tup [.int (q.nx*128+n),.int v])->Keep (t.eC::sf x) H H'->StAt t H' x r2 r3 r4 r5 (putC m (b*q.P+f) (.ref tp)) (q.put b f n)->Q (.int ((b*q.P+f:Nat):Int)) H')
theorem StAt.put{H H':Hp}{x:Sto}{r2 r3 r4 r5:V}{m m':CM}{q:QM}(h:StAt t H x r2 r3 r4 r5 m q)(hc:ChipAt t.C_Chip H' x.c x.a m')(k:Keep (foot x.c x.a) H H')(e1:m'.bl=m.bl)(e2:m'.pg=m.pg):StAt t H' x r2 r3 r4 r5 m' q:=by have I:∀b∈bf x.k,b∉foot x.c x.a:=λb d z=>h.d1 b (hU _ z) d;have D:∀b∈[x.s,x.tm],b∉foot x.c x.a:=λb d z=>h.d2 b d (by unfold sf;exact gC _ z);refine⟨k.k _ _ (D _ (by simp)) h.o,by rw[e1,e2];exact k.k _ _ (D _ (by simp)) h.te,hc,h.bk.keep k I,h.tb.gen λb o to e=>k.k _ _ (λz=>h.nX e to (kY _ (hU _ (by unfold sf;exact gC _ z)))) e,h.ds,h.d1,h.d2⟩
theorem StAt.note{H H':Hp}{x:Sto}{r2 r3 r4 r5:V}{m:CM}{q q':QM}(h:StAt t H x r2 r3 r4 r5 m q)(hb:BkAt t H' x.k q')(k:Keep (bf x.k) H H'):StAt t H' x r2 r3 r4 r5 m q':=by have d:∀b∈[x.s,x.tm],b∉bf x.k:=λb hb z=>h.d2 b hb (by unfold sf;exact kY _ z);refine⟨k.k _ _ (d _ (by simp)) h.o,k.k _ _ (d _ (by simp)) h.te,h.ch.keep k h.d1,hb,h.tb.gen λb o to e=>k.k _ _ (λz=>h.nX e to (kY _ (hU _ (by unfold sf;exact kY _ z)))) e,h.ds,h.d1,h.d2⟩
theorem q54(T:tXx)(S:tFf)(B:BmIn base mg):S.oW.OkE P w mg base 10 (qBV t):=by(
refine S.oW.F.okE q0D (λvs H Q E h=>?_) (λar A outer s H vs Q E O h=>?_)
.repeat obtain⟨_,h⟩:=h
 all_goals subst_vars;rfl
obtain⟨x,r2,r3,r4,r5,m,q,n,v,rfl,hs,J,gd,aj,k⟩:=h
refine⟨_,(qB (qP (i:=3) q0D.nd rfl (Or.inl rfl) (qT (pv 0) T.eE T.aEK (q8O T S B).mono O S.aBK.b .nil qK)) (qB (jC (qS q71 (pv 3) yI (qV _)) (qC j9) qQ) (qB (qX (jM qZ (qJ (pv 0) rfl) T.eG T.aE5 (qBU T S).mono O S.aDJ.b .nil (qA (pv 3) (qA (yX (qA (jD (qJ (pv 0) rfl) T.eI T.aEN (qAN T S).mono O S.aCH.b .nil qK (qA (pv 1) qE)) (qA (pv 2) qE))) qE q4P)))) (qB (qX (jD (qJ (pv 0) rfl) T.eI T.aCE (q53 T S).mono O S.aBF.b .nil qK (qA (pv 3) (qA (pv 1) qE)))) (qC (qL (pv 3))))))),?_⟩
try dsimp-beta-proj-iota-zeta-eta only[wishK,cxK]
refine(iV rfl (iM hs.o rfl ⟨x,r2,r3,r4,r5,m,q,rfl,hs,J,λl H1 hl k1 U=>?_⟩))
have d:=hs.kT k1 U
obtain⟨b,f,N,ef,hn,dk,kk⟩:=k l hl
rw[N]
obtain⟨hB,aq,f0,f1⟩:=qBG hl J.oq.p1 N
have hf:f<q.P:=by lia
have ai:pgV q.P q.fi (some b)=V.int ((b*q.P+f:Nat):Int):=by show V.int ((b:Int)*(q.P:Int)+q.fi.getD b 0)=_;rw[ef,bA,dA]
rw[ai]
refine⟨_,rfl,rfl,_,rfl,iteF ?_⟩
refine(iV rfl (iF d.o T.eE T.fG rfl (iM d.ch.ins rfl ⟨_,rfl,?_⟩)))
refine(iV rfl (iF d.o T.eE T.eL rfl (iM d.bk.o rfl ⟨_,rfl,x.k,q,n,rfl,d.bk,_,rfl,sz2,λtp H2 n2 s2 e2=>?_⟩)))
have I:=d.same s2
have af:((b*q.P+f:Nat):Int)<=m.bl*m.pg-1:=by rw[J.eB,J.eP,<-dA];have:b*q.P+f<q.B*q.P:=(rV (by lia)).mp (by rw[yC hf];exact hB);lia
refine⟨x.c,x.a,m,_,.ref tp,rfl,I.ch,J.ok,aj,gd,af,hn,λz=>dk z H2 ((k1.mono (by simp)).trans (Keep.same s2)) I,λz H3 ab k3=>?_⟩
have D:=I.put ab k3 rfl rfl
refine(iV rfl (iF D.o T.eE T.eL rfl (iM D.bk.o rfl ⟨_,rfl,_,rfl,x.k,q,b,f,n,rfl,D.bk,J.oq,D.ds,hB,hf,ef,λH4 ag Z=>⟨_,rfl,?_⟩⟩)))
exact kk z tp H4 (Z.tp _ _ (k3.tp _ _ e2)) ((((k1.mono (by simp)).trans (Keep.same s2)).trans (k3.mono (λb hb=>by unfold sf;exact hU _ (gC _ hb)))).trans (Z.mono (λb hb=>by unfold sf;exact hU _ (kY _ hb)))) (D.note ag Z))
theorem q0W(T:tXx)(S:tFf)(B:BmIn base mg):S.fN.OkE P w mg base 11 (qBV t):=by(
refine S.fN.F.okE q0S (λvs H Q E h=>?_) (λae A outer s H vs Q E J h=>?_)
.repeat obtain⟨_,h⟩:=h
 all_goals subst_vars;rfl
obtain⟨x,r2,r3,r4,r5,m,q,n,v,rfl,I,k⟩:=h
refine⟨_,(qC (q7C (λpins XE ES d U=>(qC (qL (jM d (pv 0) T.eE T.aCS (q54 T S B).mono J S.oW.b .nil (qA (pv 1) (qA (pv 2) qE)))))) (q9X (λea=>(jT rfl T.aAS rfl (v:=.ref t.C_BlockFailed))) rfl (λea=>(qB j9 (qC j9))) (q7B qZ)))),?_⟩
try dsimp-beta-proj-iota-zeta-eta only[wishK,cxK]
obtain⟨ft,gd,rc,k⟩:=k
refine(iV rfl (iM I.o rfl ⟨_,rfl,_,rfl,x,r2,r3,r4,r5,m,q,n,v,rfl,I,ft,gd,rc,λl hl=>?_⟩))
obtain⟨b,f,e1,Z,N,O,kk⟩:=k l hl
exact⟨b,f,e1,Z,N,λz H' k' D ea ac=>⟨_,T.fV,iteF (O z H' k' D)⟩,kk⟩)
theorem q32(T:tXx)(S:tFf)(B:BmIn base mg):S.aA7.OkE P w mg base 12 (qBV t):=by(
refine S.aA7.F.okE q2Z (λvs H Q E h=>?_) (λad A outer s H vs Q E J h=>?_)
.repeat obtain⟨_,h⟩:=h
 all_goals subst_vars;rfl
obtain⟨x,r2,r3,r4,r5,m,q,n,v,rfl,I,k⟩:=h
refine⟨_,(qB (qP (i:=3) q2Z.nd rfl (Or.inl rfl) yI) (qB (q6Z dC (qS q71 (pv 3) yI (qV _)) (qC (qP (i:=3) q2Z.nd rfl (Or.inl rfl) (jM qZ (pv 0) T.eE T.tL (q0W T S B).mono J S.fN.b .nil (qA (pv 1) (qA (pv 2) qE)))))) (qC (qL (pv 3))))),?_⟩
try dsimp-beta-proj-iota-zeta-eta only[wishK,cxK]
obtain⟨ft,gd,rc,k⟩:=k
refine⟨λi D H'=>∃pg,D=[some (.ref x.s),some (.int n),some (.int v),some pg]/\((pg≠ .non/\Q pg H')\/(pg=.non/\i=1/\H'=H)),⟨1,_,rfl,.inr ⟨rfl,rfl,rfl⟩⟩,?_⟩
rintro i D H1 ⟨pg,rfl,h⟩
refine⟨_,rfl,rfl,_,rfl,?_⟩
rcases h with⟨np,hq⟩|⟨rfl,rfl,rfl⟩
.rw[hX np];exact iteF ⟨_,rfl,hq⟩
rw[hC rfl]
refine iteT ⟨_,λD H' z=>z,?_⟩
refine(iV rfl (iM I.o rfl ⟨_,rfl,_,rfl,x,r2,r3,r4,r5,m,q,n,v,rfl,I,ft,gd,rc,λl hl=>?_⟩))
obtain⟨b,f,e1,U,N,O,kk⟩:=k l hl
exact⟨b,f,e1,U,N,O,λz tp H2 Z k2 d=>⟨0,by lia,_,rfl,.inl ⟨(λz=>by cases z),kk z tp H2 Z k2 d⟩⟩⟩)
theorem bor(a b:Nat):Builtin.bitOr (a:Int) (b:Int)=((a|||b:Nat):Int):=by(
have e:∀c:Nat,Builtin.bitNot (Builtin.bitNot (c:Int))=(c:Int):=λc=>by unfold Builtin.bitNot;lia
have n:∀c:Nat,decide (0<=Builtin.bitNot (c:Int))=false:=λc=>hX (by unfold Builtin.bitNot;lia)
unfold Builtin.bitOr Builtin.bitAnd
rw[n a,n b]
show Builtin.bitNot (Builtin.bitNot (((Builtin.bitNot (Builtin.bitNot (a:Int))).toNat|||(Builtin.bitNot (Builtin.bitNot (b:Int))).toNat:Nat):Int))=_
rw[e,e a,e b,mB,mB])
noncomputable abbrev vN(ks:List Nat):List V:=ks.map λ(k:Nat)=>V.int (k:Int)
inductive spBo(K:W.Frag)(vs:List V)(H:Hp)(Q:VK)(E_:XK):Prop
|mk:∀l ss,vs=[.ref l]->SqL K H l (vN ss)->(∀s∈ss,s<64)->Q (.int ((orB ss 0:Nat):Int)) H->spBo K vs H Q E_
theorem qBW(s:Nat):∀(l:List Nat) (b:Nat),orB (l++[s]) b=orB l b|||2 ^ s
| [],b=>rfl
|x::r,b=>qBW s r _
theorem q84(T:tXx)(S:tFf):S.aDW.Ok0 P w mg base 1 (spBo K):=by(
refine S.aDW.F.ok0 q1V λU A _ s H vs Q E Z h=>?_
obtain⟨l,d,rfl,hl,O,q⟩:=h
refine⟨_,(qB (qP (i:=1) q1V.nd rfl (Or.inl rfl) qG) (qB (vI wY rfl (jU (pv 0)) (jA (i:=2) q1V.nd rfl (Or.inl rfl)) (qC (qP (i:=1) q1V.nd rfl (Or.inl rfl) (qN qLZ (pv 1) (qN qK1 qG (pv 2)))))) (qC (qL (pv 1))))),?_⟩
try dsimp-beta-proj-iota-zeta-eta only[wishK,cxK]
refine⟨_,rfl,l,rfl,⟨_,hl⟩,?_⟩
refine uI (K:=K) (xs:=vN d) (λi D H2=>∃y,D=[some (.ref l),some (.int ((orB (d.take i) 0:Nat):Int)),y]/\H2=H) ⟨_,rfl,rfl⟩ (λi D H2 I z=>?_) (λi x D H2 J z=>?_) (λD H2 z=>?_)
.obtain⟨y,rfl,rfl⟩:=z;exact hl
.obtain⟨y,rfl,rfl⟩:=z;rw[kZ]at J;obtain⟨n,N,rfl⟩:=kP.mp J;obtain⟨I,rfl⟩:=kC.mp N;have:=O _ (gL I);refine⟨_,rfl,_,rfl,iI ⟨⟨by lia,by lia,by decide⟩,iI ?_⟩⟩;have e:(1:Int)*2 ^ ((d[i]:Nat):Int).toNat=((2 ^ d[i]:Nat):Int):=by rw[Int.one_mul,mB];exact(bC 2 _).symm
 try dsimp only
 rw[e,bor];refine⟨some (.int ((d[i]:Nat):Int)),?_,rfl⟩;rw[<-mQ I,qBW];rfl
obtain⟨y,rfl,rfl⟩:=z
rw[show(vN d).length=d.length by simp[vN],gH]
exact⟨_,rfl,q⟩)
inductive spHe(t:Adr)(vs:List V)(H:Hp)(Q:VK)(E_:XK):Prop
|mk:∀a,∀m:QM,vs=[.ref a.bk]->BkAt t H a m->m.Ok->(hdN m.V).length<64->(∀l ns H',Same H H'->H l=none->H' l=some (.lst (List.map V.int ns))->ns.Perm (hdN m.V)->ns.Pairwise (·<=·)->Q (.ref l) H')->spHe t vs H Q E_
theorem q1Y(T:tXx)(S:tFf):S.aAA.Ok0 P w mg base 1 (spHe t):=by(
refine S.aAA.F.ok0 qAF λar A _ s H vs Q E hr h=>?_
obtain⟨a,m,rfl,Z,ok,al,q⟩:=h
have hu:=q61 hr
have lV:m.V.length<=65:=ok.lenV
refine⟨_,(qC (qL (jI q9Y (by rfl) T.aBH (by kernel_rfl) (qA (qDC (uN ["name"] [] rfl (qI1 (qJ (pv 0) rfl)) (λz z z z z=>(jA (i:=0) (show List.Nodup (["name"]:List Str)from by decide) rfl (Or.inl rfl))) (λz z z z z=>(uA (qS q27 (pv 0) (jT rfl T.aCN ⟨_,rfl⟩ (v:=.int 64)) (qV _)))) (λz z z z z=>(pv 0)) (by kernel_rfl) (yF (by decide)))) qE)))),?_⟩
try dsimp-beta-proj-iota-zeta-eta only[wishK,cxK]
refine⟨a.wv,_,Z.w,iV rfl (iF Z.o T.eI T.eW rfl ⟨a.wv,_,rfl,Z.w,λo D H2 nD s2 hD=>?_⟩)⟩
have kk:∀x u,x≠a.wv->H x=some u->H2 x=some u:=λx u nx e=>s2 _ _ (by rw[qD nx];exact e)
have fz:H2 a.wv=some (.frz o (.dK (dI m.V))):=s2 _ _ qI
have Dw:D≠a.wv:=λz=>by rw[z,fz]at hD;cases hD
have ae:H D=none:=by rw[qD Dw]at nD;exact nD
refine qGA (D:=D) (λi d=>d a.wv=some (.frz o (.dK (dI m.V)))/\(∀x u,x≠a.wv->H x=some u->d x=some u)/\d D=some (.lst ((hdN (m.V.take i)).map V.int))) ⟨fz,kk,hD⟩ (λi d J=>J.1) (λi kv d hk J=>?_) (λd J=>?_)
.obtain⟨I,U,N⟩:=J;have hi:i<m.V.length:=by have:=(kC.mp hk).1;rw[q82]at this;exact this
 obtain rfl:((Sum.inl m.V[i].1:Key),V.int m.V[i].2)=kv:=by
  have e:(dI m.V)[i]?=some ((Sum.inl m.V[i].1:Key),V.int m.V[i].2):=by unfold dI;rw[kZ,kF hi];rfl
  rw[e]at hk;exact kQ hk
 have tk:m.V.take (i+1)=m.V.take i++[m.V[i]]:=(mQ hi).symm;show q3L _ (V.int m.V[i].1) _ _ _;refine⟨_,rfl,rfl,_,rfl,?_⟩;rw[q2C];by_cases e:m.V[i].1=64
 .rw[hC e];refine iteF ?_;refine⟨I,U,?_⟩;have:hdN (m.V.take (i+1))=hdN (m.V.take i):=by unfold hdN;rw[tk,gA,gQ];simp[e]
  rw[this];exact N
 rw[hX e];refine iteT ?_;refine⟨_,rfl,_,N,?_,?_,λx u nx e'=>?_,?_⟩
 .rw[kB];have l2:(hdN (m.V.take i)).length<=65:=by unfold hdN;refine mL (mJ _ _) ?_;rw[kB,gX];lia
  have:(65:Nat)<sizeLine:=by decide
  lia
 .rw[qD Dw.symm];exact I
 .rw[qD (qH e' ae)];exact U _ _ nx e'
 have:hdN (m.V.take (i+1))=hdN (m.V.take i)++[m.V[i].1]:=by unfold hdN;rw[tk,gA,gQ];simp[e]
 rw[qI,this,gA];rfl
obtain⟨I,U,N⟩:=J
rw[q82,gH]at N
refine⟨o,_,I,?_⟩
have sH:Same H (upd d a.wv (.dK (dI m.V))):=qGB Z.w U
have O:(upd d a.wv (.dK (dI m.V))) D=some (.lst ((hdN m.V).map V.int)):=by rw[qD Dw];exact N
generalize upd d a.wv (.dK (dI m.V))=H4 at sH O ⊢
refine⟨D,hdN m.V,rfl,SqL.of O,by lia,λns pp pw l H5 n5 s5 h5=>?_⟩
exact q l ns H5 (sH.trans s5) (sH.free n5) h5 pp pw)
structure HeldIs(q:QM)(ns:List Int):Prop where
pm:ns.Perm (hdN q.V)
so:ns.Pairwise (·<=·)
inductive spHd(t:Adr)(vs:List V)(H:Hp)(Q:VK)(E_:XK):Prop
|mk:∀x r2 r3 r4 r5 m q,vs=[.ref x.s]->StAt t H x r2 r3 r4 r5 m q->Fit m q->(hdN q.V).length<64->(∀l ns H',HeldIs q ns->Same H H'->H l=none->H' l=some (.lst (List.map V.int ns))->Q (.ref l) H')->spHd t vs H Q E_
theorem q0X(T:tXx)(S:tFf):S.o6.Ok0 P w mg base 2 (spHd t):=by(
refine S.o6.F.ok0 q8I λO A Z s H U Q E z h=>?_
obtain⟨x,r2,r3,r4,r5,m,q,rfl,d,I,h64,k⟩:=h
refine⟨_,(qC (qL (qT (qJ (pv 0) rfl) T.eI T.aA2 (q1Y T S).mono z S.aAA.b .nil qK))),?_⟩
try dsimp-beta-proj-iota-zeta-eta only[wishK,cxK]
exact(iV rfl (iF d.o T.eE T.eL rfl (iM d.bk.o rfl ⟨x.k,q,rfl,d.bk,I.oq,h64,λl ns H' s' D h' J N=>k l ns H' ⟨J,N⟩ s' D h'⟩))))
inductive spCs(t:Adr)(vs:List V)(H:Hp)(Q:VK)(E:XK):Prop
|mk:∀x r3 r4 r5 m q v,∀sh:Int,vs=[.ref x.s,v]->StAt t H x (.int sh) r3 r4 r5 m q->Knd H v->(if inB v 0 (sh-1)=true then Q .non H else False)->spCs t vs H Q E
theorem vY(T:tXx)(S:tFf):S.fP.Ok0 P w mg base 3 (spCs t):=by(
refine S.fP.F.ok0 q2W λJ A U s H N Q E D h=>?_
obtain⟨x,r3,r4,r5,m,q,v,sh,rfl,d,I,k⟩:=h
refine⟨_,(qC (jC (yU (jS (qU (jK T S).mono D rfl T.eZ T.e9 S.fD.b .nil qK (qA (pv 1) (qA qG (qA (qN yL (qJ (qJ (pv 0) rfl) rfl) qG) qE)))))) (qC j9) qQ)),?_⟩
try dsimp-beta-proj-iota-zeta-eta only[wishK,cxK]
refine⟨_,rfl,iV rfl (iF d.o T.eE T.eO rfl (iF d.te T.eQ T.tW rfl (iI ⟨v,_,_,rfl,I,_,rfl,?_⟩)))⟩
cases z:inB v 0 (sh-1)with
|true=>rw[z,kM rfl]at k;exact iteF k
|false=>rw[z,kI (by decide)]at k;exact k.elim)
theorem qBX(T:tXx)(S:tFf):S.aDK.Ok0 P w mg base 3 (λvs H Q U=>∃v,vs=[v]/\Knd H v/\Q (.bl (inB v 0 (10 ^ 30-1))) H):=by(
refine S.aDK.F.ok0 qBP λz A U s H vs Q E d h=>?_
obtain⟨v,rfl,D,k⟩:=h
refine⟨_,(qC (qL (qU (jK T S).mono d rfl T.eZ T.e9 S.fD.b .nil qK (qA (pv 0) (qA qG (qA (qN yL (qN qF0 qG qG) qG) qE)))))),?_⟩
try dsimp-beta-proj-iota-zeta-eta only[wishK,cxK]
exact⟨_,rfl,iI ⟨⟨by decide,by decide,by decide⟩,iI ⟨v,_,_,rfl,D,k⟩⟩⟩)
noncomputable def hold(q:QM)(s:Int):Bool:=decide (s∈hdN q.V)
theorem q55{s:Int}:∀{ns:List Int},inV (.int s) (ns.map V.int)=decide (s∈ns)
| []=>rfl
|n::r=>by
 have ih:=q55 (s:=s) (ns:=r);unfold inV at ih ⊢;rw[mY,cP,ih];by_cases e:n=s
 .subst e;simp[eqV]
 have e':¬s=n:=λz=>e z.symm;simp[eqV,e,e']
theorem qE1{ns:List Int}:(ns.map V.int).all q0B=true:=by(
rw[rB]
intro v d
obtain⟨n,_,rfl⟩:=mF.mp d
rfl)
theorem HeldIs.hold{q:QM}{ns:List Int}(h:HeldIs q ns)(s:Int):decide (s∈ns)=hold q s:=by(
unfold W1.hold
by_cases z:s∈ns
.rw[hC z,hC (h.pm.mem_iff.mp z)]
rw[hX z,hX (λy=>z (h.pm.mem_iff.mpr y))])
inductive spSh(t:Adr)(vs:List V)(H:Hp)(Q:VK)(E:XK):Prop
|mk:∀x r2 r4 r5 m q,∀s sr:Int,vs=[.ref x.s,.int s]->StAt t H x r2 (.int sr) r4 r5 m q->Fit m q->(hdN q.V).length<64->(∀H',Same H H'->if hold q s=false/\sr<=((hdN q.V).length:Int)then E (.ref t.C_Full) none H' else Q .non H')->spSh t vs H Q E
theorem q33(T:tXx)(S:tFf):S.iD.OkE P w mg base 3 (spSh t):=by(
refine S.iD.F.okE vX (λU H Q E h=>?_) (λO A outer s H U Q E J h=>?_)
.repeat obtain⟨_,h⟩:=h
 all_goals subst_vars;rfl
obtain⟨x,r2,r4,r5,m,q,s,sr,rfl,d,N,h64,k⟩:=h
refine⟨_,(qB (qP (i:=2) vX.nd rfl (Or.inl rfl) (qT (pv 0) T.eE T.aA0 (q0X T S).mono J S.o6.b .nil qK)) (qC (jC (PW.pt (q9S (qS q4M (pv 1) (pv 2) rfl) (q6J (qS qD3 (jI yM (by rfl) T.aEY wP (qA (pv 2) qE)) (qJ (qJ (pv 0) rfl) rfl) (qV _))))) (qC (q4O qZ rfl rfl T.aFC T.aFW (qA yZ qE))) qQ))),?_⟩
try dsimp-beta-proj-iota-zeta-eta only[wishK,cxK]
refine(iV rfl (iM d.o rfl ⟨x,r2,.int sr,r4,r5,m,q,rfl,d,N,h64,λl ns H1 I D Z h1=>?_⟩))
refine⟨_,rfl,_,rfl,?_⟩
refine⟨l,_,rfl,.inl (SqL.of h1),rfl,qE1,_,rfl,?_⟩
have kk:=k H1 D
have e:inV (.int s) (ns.map V.int)=hold q s:=by rw[q55];exact I.hold s
show if(!inV (.int s) (ns.map V.int))=true then _ else _
rw[e]
cases z:hold q s with
|true=>rw[z,kI (λy=>by cases y.1)]at kk;exact iteF kk
|false=>
 refine iteT ?_;refine⟨_,rfl,l,_,rfl,.inl (SqL.of h1),iV rfl (iF (d.same D).o T.eE T.eO rfl (iF (d.same D).te T.eQ T.aAM rfl (iI ⟨_,rfl,?_⟩)))⟩;rw[kB,I.pm.length_eq];by_cases y:sr<=((hdN q.V).length:Int)
 .rw[hC y];rw[kM ⟨z,y⟩]at kk;exact iteT ⟨sz1,kk⟩
 rw[hX y];rw[kI (λw=>y w.2)]at kk;exact iteF kk)
theorem Same.keepF{H Hi Hj:Hp}{F:List Addr}(s:Same H Hi)(k:Keep F Hi Hj)(f:∀b∈F,H b=none):Same H Hj:=λb o e=>k.k b o (λz=>by rw[f b z]at e;cases e) (s b o e)
inductive spFl(t:Adr)(vs:List V)(H:Hp)(Q:VK)(E_:XK):Prop
|mk:∀x r2 r3 r4 r5 m q,vs=[.ref x.s]->StAt t H x r2 r3 r4 r5 m q->Fit m q->(∀H',Same H H'->Q (.int 0) H')->spFl t vs H Q E_
theorem q1A(T:tXx)(S:tFf):S.iY.Ok0 P w mg base 6 (spFl t):=by(
refine S.iY.F.ok0 q5R λI A U s H O Q E D h=>?_
obtain⟨x,r2,r3,r4,r5,m,q,rfl,d,z,k⟩:=h
refine⟨_,(qC (qL (qN yL (qJ (qJ (pv 0) rfl) rfl) (jI yM (by rfl) T.aEY wP (qA (qT (pv 0) T.eE T.i4 (uL T S).mono D S.iH.b .nil qK) qE))))),?_⟩
try dsimp-beta-proj-iota-zeta-eta only[wishK,cxK]
refine(iV rfl (iF d.o T.eE T.eO rfl (iF d.te T.eQ T.fF rfl ?_)))
refine(iV rfl (iM d.o rfl ⟨x,r2,r3,r4,r5,m,q,rfl,d,z,λl H1 N J h1=>?_⟩))
refine⟨l,_,rfl,.inl (SqL.of h1),iI ?_⟩
rw[kB,z.eB,z.br,yA,mV]
show Q (.int ((q.B:Int)-(q.B:Int))) H1
rw[Int.sub_self]
exact k H1 J)
inductive spWn(t:Adr)(vs:List V)(H:Hp)(Q:VK)(E_:XK):Prop
|mk:∀x r2 r3 r5 m q,∀ie:Int,vs=[.ref x.s]->StAt t H x r2 r3 (.int ie) r5 m q->Fit m q->0<=ie->(∀H',Same H H'->Q (.bl false) H')->spWn t vs H Q E_
theorem qAO(T:tXx)(S:tFf):S.aCT.Ok0 P w mg base 7 (spWn t):=by(
refine S.aCT.F.ok0 qAH λO A _ s H Z Q E I h=>?_
obtain⟨x,r2,r3,r5,m,q,J,rfl,z,N,U,k⟩:=h
refine⟨_,(qC (qL (uM qJE (qT (pv 0) T.eE T.tZ (q1A T S).mono I S.iY.b .nil qK) (qJ (qJ (pv 0) rfl) rfl) (qV _)))),?_⟩
try dsimp-beta-proj-iota-zeta-eta only[wishK,cxK]
refine(iV rfl (iM z.o rfl ⟨x,r2,r3,_,r5,m,q,rfl,z,N,λH1 D=>?_⟩))
have d:=z.same D
refine(iV rfl (iF d.o T.eE T.eO rfl (iF d.te T.eQ T.oJ rfl (iI ?_))))
show Q (.bl (decide (J<0))) H1
rw[hX (by lia)]
exact k H1 D)
inductive spCw(t:Adr)(vs:List V)(H:Hp)(Q:VK)(E_:XK):Prop
|mk:∀x r2 r3 r5 m q,∀ie:Int,vs=[.ref x.s]->StAt t H x r2 r3 (.int ie) r5 m q->Fit m q->0<=ie->(∀H',Same H H'->Q .non H')->spCw t vs H Q E_
theorem q4B(T:tXx)(S:tFf):S.i6.Ok0 P w mg base 8 (spCw t):=by(
refine S.i6.F.ok0 q47 λN A Z s H U Q E z h=>?_
obtain⟨x,r2,r3,r5,m,q,D,rfl,d,J,I,k⟩:=h
refine⟨_,(qC (jC (jS (qT (pv 0) T.eE T.aEQ (qAO T S).mono z S.aCT.b .nil qK)) (qC j9) qQ)),?_⟩
try dsimp-beta-proj-iota-zeta-eta only[wishK,cxK]
exact(iV rfl (iM d.o rfl ⟨x,r2,r3,r5,m,q,D,rfl,d,J,I,λH1 O=>⟨_,rfl,iteF (k H1 O)⟩⟩)))
inductive spRs(t:Adr)(vs:List V)(H:Hp)(Q:VK)(E_:XK):Prop
|mk:∀x r2 r3 r5 m q,∀ie:Int,vs=[.ref x.s]->StAt t H x r2 r3 (.int ie) r5 m q->Fit m q->(∀H',Same H H'->Q (.int (1+ie)) H')->spRs t vs H Q E_
theorem q23(T:tXx)(S:tFf):S.oM.Ok0 P w mg base 7 (spRs t):=by(
refine S.oM.F.ok0 q6A λJ A U s H O Q E D h=>?_
obtain⟨x,r2,r3,r5,m,q,z,rfl,d,I,k⟩:=h
refine⟨_,(qC (qL (qN yL (qN uZ qG (qJ (qJ (pv 0) rfl) rfl)) (qT (pv 0) T.eE T.tZ (q1A T S).mono D S.iY.b .nil qK)))),?_⟩
try dsimp-beta-proj-iota-zeta-eta only[wishK,cxK]
refine(iV rfl (iF d.o T.eE T.eO rfl (iF d.te T.eQ T.oJ rfl (iI ?_))))
refine(iV rfl (iM d.o rfl ⟨x,r2,r3,_,r5,m,q,rfl,d,I,λH1 N=>(iI ?_)⟩))
have:=k H1 N
rwa [show(1+z:Int)=1+z-0 by lia]at this)
inductive spRd(t:Adr)(vs:List V)(H:Hp)(Q:VK)(E_:XK):Prop
|mk:∀x r2 r3 r5 m q,∀ie:Int,vs=[.ref x.s]->StAt t H x r2 r3 (.int ie) r5 m q->Fit m q->(∀l H',FreeIs q.B m.br m.cl q.fi l->Keep [t.eC] H H'->TbF t H'->Q (.bl (rdy ie l (jR q.B q.P m.br q.fi))) H')->spRd t vs H Q E_
theorem q85(T:tXx)(S:tFf)(B:BmIn base mg):S.aAW.Ok0 P w mg base 9 (spRd t):=by(
refine S.aAW.F.ok0 q2V λae A _ s H vs Q E N h=>?_
obtain⟨x,r2,r3,r5,m,q,U,rfl,O,ft,k⟩:=h
refine⟨_,(qB (qP (i:=1) q2V.nd rfl (Or.inl rfl) (qN yL (jI yM (by rfl) T.aEY wP (qA (qT (pv 0) T.eE T.aAY (q0U T S B).mono N S.t6 .nil qK) qE)) (qT (pv 0) T.eE T.aAP (q23 T S).mono N S.oM.b .nil qK))) (qC (qL (qJC (uM qJE (pv 1) qG (qV _)) (q26 (q58 (uM zH (pv 1) qG (qV _)) (q26 (uM q4K (qT (pv 0) T.eE T.aA6 (q0V T S).mono N S.o9.b .nil qK) yI (qV _))))))))),?_⟩
try dsimp-beta-proj-iota-zeta-eta only[wishK,cxK]
refine(iV rfl (iM O.o rfl ⟨x,r2,r3,_,r5,m,q,rfl,O,ft,λl p H1 hl np k1 I h1=>?_⟩))
have d:=O.kT k1 I
refine⟨p,_,rfl,.inl (SqL.of h1),iV rfl (iM d.o rfl ⟨x,r2,r3,r5,m,q,U,rfl,d,ft,λH2 Z=>(iI ?_)⟩)⟩
have D:=d.same Z
refine⟨_,rfl,_,_,rfl,rfl,_,rfl,?_⟩
have kk:=λH' s'=>k l H' hl (k1.trans (Keep.same (Z.trans s'))) (I.same (Z.trans s'))
unfold rdy at kk
rw[kB]
by_cases z:(l.length:Int)-(1+U)>0
.rw[hC z];refine iteT ?_;have:=kk H2 (Same.refl H2);rw[hC z]at this;exact this
rw[hX z]
refine iteF ?_
rw[hX z]at kk
refine⟨_,rfl,rfl,_,rfl,?_⟩
rw[q2C]
by_cases J:(l.length:Int)-(1+U)=0
.rw[hC J];rw[hC J]at kk;refine iteT ?_;refine(iV rfl (iM D.o rfl ⟨x,r2,r3,_,r5,m,q,rfl,D,ft,λH3 s3=>⟨rfl,?_⟩⟩));have:=kk H3 s3;cases hp:jR q.B q.P m.br q.fi with
 |none=>rw[hp]at this;exact this
 |some b=>rw[hp]at this;exact this
rw[hX J]
rw[hX J]at kk
refine iteF ?_
exact kk H2 (Same.refl H2))
inductive spTy(t:Adr)(vs:List V)(H:Hp)(Q:VK)(E_:XK):Prop
|mk:∀x r2 r3 r4 r5 m q,∀b:Nat,vs=[.ref x.s,.int (b:Int)]->StAt t H x r2 r3 r4 r5 m q->Fit m q->b<q.B->NewO H (.tup (tyL m q b)) Q->spTy t vs H Q E_
theorem q86(T:tXx)(S:tFf):S.aAT.Ok0 P w mg base 5 (spTy t):=by(
refine S.aAT.F.ok0 q7V λJ A U s H O Q E I h=>?_
obtain⟨x,r2,r3,r4,r5,m,q,b,rfl,d,z,D,k⟩:=h
have N:=z.eB
refine⟨_,(qC (qL (yX (qA (pv 1) (qA (j8 qY (qJ (qJ (pv 0) rfl) rfl) (pv 1) (λU U=>rfl)) (qA (jD (qJ (pv 0) rfl) T.eG T.oY (zG T S).mono I S.iO.b .nil qK (qA (pv 1) qE)) (qA (j8 qY (qJ (qJ (pv 0) rfl) rfl) (pv 1) (λU U=>rfl)) qE))))))),?_⟩
try dsimp-beta-proj-iota-zeta-eta only[wishK,cxK]
refine⟨_,rfl,iV rfl (iF d.o T.eE T.eL rfl (iF d.bk.o T.eI T.iR rfl ⟨_,rfl,iL (k:=_) (v:=_) (SqL.of d.bk.l) (atV (by rw[z.oq.ll];exact D)) ?_⟩))⟩
refine(iV rfl (iF d.o T.eE T.fG rfl (iM d.ch.ins rfl ⟨_,rfl,x.c,x.a,m,_,rfl,d.ch,z.ok,by lia,by lia,?_⟩)))
rw[mB]
refine(iV rfl (iF d.o T.eE T.eL rfl (iF d.bk.o T.eI T.iS rfl ⟨_,rfl,iL (k:=_) (v:=_) (SqL.of d.bk.b) (atV (by rw[z.oq.lo];exact D)) ?_⟩)))
exact⟨sz4,k⟩)
inductive spSc(t:Adr)(vs:List V)(H:Hp)(Q:VK)(E_:XK):Prop
|mk:∀x r2 r3 r5 m q,∀ie:Int,vs=[.ref x.s]->StAt t H x r2 r3 (.int ie) r5 m q->Fit m q->(∀l H',FreeIs q.B m.br m.cl q.fi l->Keep [t.eC] H H'->TbF t H'->Q (.int (spcN ie l q.P q.fi (jR q.B q.P m.br q.fi))) H')->spSc t vs H Q E_
theorem q87(T:tXx)(S:tFf)(B:BmIn base mg):S.aAU.Ok0 P w mg base 9 (spSc t):=by(
refine S.aAU.F.ok0 q2X λae A _ s H vs Q E O h=>?_
obtain⟨x,r2,r3,r5,m,q,N,rfl,U,J,k⟩:=h
have eP:=J.eP
refine⟨_,(qB (jC (qS qD3 (jI yM (by rfl) T.aEY wP (qA (qT (pv 0) T.eE T.aAY (q0U T S B).mono O S.t6 .nil qK) qE)) (qT (pv 0) T.eE T.aAP (q23 T S).mono O S.oM.b .nil qK) (qV _)) (qC (qL (qJ (qJ (pv 0) rfl) rfl))) qQ) (qB (qP (i:=1) q2X.nd rfl (Or.inl rfl) (qT (pv 0) T.eE T.aA6 (q0V T S).mono O S.o9.b .nil qK)) (qB (jC (qS q71 (pv 1) yI (qV _)) (qC (qL qG)) qQ) (qC (qL (qN yL (qJ (qJ (pv 0) rfl) rfl) (j8 qY (qJ (qJ (pv 0) rfl) rfl) (pv 1) (λz z=>rfl)))))))),?_⟩
try dsimp-beta-proj-iota-zeta-eta only[wishK,cxK]
refine(iV rfl (iM U.o rfl ⟨x,r2,r3,_,r5,m,q,rfl,U,J,λl p H1 hl np k1 I h1=>?_⟩))
have d:=U.kT k1 I
refine⟨p,_,rfl,.inl (SqL.of h1),iV rfl (iM d.o rfl ⟨x,r2,r3,r5,m,q,N,rfl,d,J,λH2 Z=>(iI ⟨_,rfl,?_⟩)⟩)⟩
have kk:=λH' s'=>k l H' hl (k1.trans (Keep.same (Z.trans s'))) (I.same (Z.trans s'))
have d:=d.same Z
clear h1
unfold spcN at kk
rw[kB]
by_cases z:1+N<=(l.length:Int)
.rw[hC (show(l.length:Int)>=1+N from z)];refine iteT ?_;refine(iV rfl (iF d.o T.eE T.eO rfl (iF d.te T.eQ T.eT rfl ?_)));have:=kk H2 (Same.refl H2);rw[kM z,<-eP]at this;exact this
rw[hX (show ¬(l.length:Int)>=1+N from z)]
refine iteF ?_
refine(iV rfl (iM d.o rfl ⟨x,r2,r3,_,r5,m,q,rfl,d,J,λH3 s3=>?_⟩))
have kk:=kk H3 s3
rw[kI z]at kk
cases hp:jR q.B q.P m.br q.fi with
|none=>rw[hp]at kk;exact⟨_,rfl,rfl,_,rfl,iteT kk⟩
|some b=>rw[hp]at kk;have D:=d.same s3;refine⟨_,rfl,rfl,_,rfl,iteF ?_⟩;refine(iV rfl (iF D.o T.eE T.eO rfl (iF D.te T.eQ T.eT rfl (iV rfl (iF D.o T.eE T.eL rfl (iF D.bk.o T.eI T.eU rfl ⟨_,rfl,iL (k:=_) (v:=_) (SqL.of D.bk.f) (atV (by rw[J.oq.lf];exact(q1J hp).1)) (iI ?_)⟩))))));rw[eP];exact kk)
noncomputable abbrev Tys(H:Hp)(m:CM)(q:QM):List V->List Nat->Prop:=Paired λv b=>∃p,v=.ref p/\H p=some (.tup (tyL m q b))
theorem qBY{F:List Addr}{H H':Hp}{m:CM}{q:QM}(k:Keep F H H'){rs:List V}{L:List Nat}(r:Tys H m q rs L):Tys H' m q rs L:=Paired.mapP r λv d ⟨p,e,h⟩=>⟨p,e,k.tp _ _ h⟩
inductive spFo(t:Adr)(vs:List V)(H:Hp)(Q:VK)(E_:XK):Prop
|mk:∀x r2 r3 r5 m q,∀ie:Int,vs=[.ref x.s]->StAt t H x r2 r3 (.int ie) r5 m q->Fit m q->(∀l p rs H',FreeIs q.B m.br m.cl q.fi l->H p=none->Keep [t.eC] H H'->TbF t H'->H' p=some (.lst rs)->Tys H' m q rs ((jX q.B q.P m.br q.fi).filter λb=>decide (q.lv.getD b 0<=spcN ie l q.P q.fi (jR q.B q.P m.br q.fi)))->Q (.ref p) H')->spFo t vs H Q E_
theorem q06(T:tXx)(S:tFf)(B:BmIn base mg):S.iB.Ok0 P w mg base 10 (spFo t):=by(
refine S.iB.F.ok0 yR λbg A _ s H vs Q E hr h=>?_
obtain⟨x,r2,r3,r5,m,q,ie,rfl,hs,ft,k⟩:=h
have b2:=ft.oq.b2
have eP:=ft.eP
have sz:(16:Nat)<sizeLine:=by decide
have fl:(jX q.B q.P m.br q.fi).length<=16:=mL (mJ _ _) (mL (q2F (B:=q.B) (br:=m.br)) b2)
refine⟨_,(qB (qP (i:=1) yR.nd rfl (Or.inr rfl) (qT (pv 0) T.eE T.aD6 (q87 T S B).mono hr S.aAU.b .nil qK)) (qB (q7J (i:=2) ["self","block"] [0] rfl (jU (qT (pv 0) T.eE T.i4 (uL T S).mono hr S.iH.b .nil qK)) (λz z z z z=>(jA (i:=1) (show List.Nodup (["self","block"]:List Str)from by decide) rfl (Or.inl rfl))) (λz z z z z=>(uA (qS zH (j8 (q4S (K:=K) rfl) (uB (K:=K) rfl (uB (K:=K) rfl (pv 0) rfl) rfl) (pv 1) (λz z=>rfl)) (uB (K:=K) rfl (uB (K:=K) rfl (pv 0) rfl) rfl) (qV _)))) (λz z z z z=>(pv 1)) (by kernel_rfl) (yF (by decide)) yR.nd rfl (Or.inl rfl)) (qB (q7J (i:=3) ["self","block"] [0] rfl (jU (pv 2)) (λz z z z z=>(jA (i:=1) (show List.Nodup (["self","block"]:List Str)from by decide) rfl (Or.inl rfl))) (λz z z z z=>qD8) (λz z z z z=>(jD (pv 0) T.eE T.aEB (q86 T S).mono hr S.aAT.b .nil qK (qA (pv 1) qE))) (by kernel_rfl) (yF (by decide)) yR.nd rfl (Or.inl rfl)) (qC (qL (uN ["space","tally"] [1] rfl (jU (pv 3)) (λz z z z z=>(jA (i:=1) (show List.Nodup (["space","tally"]:List Str)from by decide) rfl (Or.inl rfl))) (λz z z z z=>(uA (qS qF2 (j8 (q4R (K:=K) rfl) (pv 1) qG (λz z=>rfl)) (pv 0) (qV _)))) (λz z z z z=>(pv 1)) (by kernel_rfl) (yF (by decide)))))))),?_⟩
try dsimp-beta-proj-iota-zeta-eta only[wishK,cxK]
refine(iV rfl (iM hs.o rfl ⟨x,r2,r3,r5,m,q,ie,rfl,hs,ft,λl H1 hl k1 aj=>?_⟩))
have U:=hs.kT k1 aj
have kk:=λp rs H' np k'=>k l p rs H' hl np (k1.trans k')
generalize spcN ie l q.P q.fi (jR q.B q.P m.br q.fi)=sp at kk
refine(iV rfl (iM U.o rfl ⟨x,r2,r3,_,r5,m,q,rfl,U,ft,λp H2 n2 s2 h2=>?_⟩))
refine⟨p,rfl,⟨_,SqL.of h2⟩,λD H3 nD s3 hD=>?_⟩
refine v4 (K:=K) (xs:=(uK q.B m.br).map vn) (D:=D) (λi H3=>Same H2 H3/\H3 D=some (.lst ((((uK q.B m.br).take i).filter λb=>decide (q.fi.getD b 0=(q.P:Int))).map vn))) ⟨s3,hD⟩ (λi H3 I=>SqL.of (I.1 _ _ h2)) (λi y H3 hy I=>?_) (λH3 I=>?_)
.obtain⟨sm,hd⟩:=I;have h3:=(U.same s2).same sm;rw[kZ]at hy;obtain⟨b,hb,rfl⟩:=kP.mp hy;have hi:=(kC.mp hb).1;have mb:=q13.mp (gD hb);refine(iV rfl (iF h3.o T.eE T.eL rfl (iF h3.bk.o T.eI T.eU rfl ⟨_,rfl,iL (k:=_) (v:=_) (SqL.of h3.bk.f) (atV (by rw[ft.oq.lf];exact mb.1)) (iV rfl (iF h3.o T.eE T.eO rfl (iF h3.te T.eQ T.eT rfl ⟨rfl,_,rfl,?_⟩)))⟩)));rw[q2C,eP,<-mQ hi,gQ,gA];obtain rfl:(uK q.B m.br)[i]=b:=(kC.mp hb).2;by_cases z:q.fi.getD (uK q.B m.br)[i] 0=(q.P:Int)
 .rw[hC z];refine iteT ?_;refine⟨_,rfl,_,hd,?_,λb o e=>?_,?_⟩
  .rw[kB];have l1:(((uK q.B m.br).take i).filter λb=>decide (q.fi.getD b 0=(q.P:Int))).length<=q.B:=mL (mJ _ _) (mL (by rw[gX];lia) (q2F (B:=q.B) (br:=m.br)));lia
  .rw[qD (qH e nD)];exact sm _ _ e
  rw[qI,gF,hC z];rfl
 rw[hX z];refine iteF ⟨sm,?_⟩;rw[hd,gF,hX z];simp
obtain⟨sm,hd⟩:=I
rw[kB,gH]at hd
have hd:H3 D=some (.lst ((jX q.B q.P m.br q.fi).map vn)):=hd
have aq:=s2.trans sm
have h3:=U.same aq
refine⟨_,rfl,D,rfl,⟨_,SqL.of hd⟩,λD2 H4 az s4 a4=>?_⟩
refine qB8 (K:=K) (xs:=(jX q.B q.P m.br q.fi).map vn) (D:=D2) (λi H5=>∃rs,Same H3 H5/\H5 D2=some (.lst rs)/\Tys H5 m q rs ((jX q.B q.P m.br q.fi).take i)) ⟨_,s4,a4,.nil⟩ (λi H5 I=>by obtain⟨rs,O,_⟩:=I;exact SqL.of (O _ _ hd)) (λi y H5 hy I=>?_) (λH5 I=>?_)
.obtain⟨rs,O,aa,ty⟩:=I;have h5:=h3.same O;rw[kZ]at hy;obtain⟨b,hb,rfl⟩:=kP.mp hy;have hi:=(kC.mp hb).1;have mb:=q13.mp (mK.mp (gD hb)).1;obtain rfl:(jX q.B q.P m.br q.fi)[i]=b:=(kC.mp hb).2;have ln:=ty.len;rw[gX]at ln;refine(iV rfl (iM h5.o rfl ⟨_,rfl,x,r2,r3,_,r5,m,q,_,rfl,h5,ft,mb.1,λtp H6 n6 s6 h6=>⟨_,s6 _ _ aa,by lia,?_⟩⟩));have ne:∀b o,H6 b=some (.tup o)->b≠D2:=λb o e z=>by rw[z,s6 _ _ aa]at e;cases e
 refine⟨_,λb o e=>?_,qI,?_⟩
 .rw[qD (qH e az)];exact s6 _ _ (O _ _ e)
 rw[<-mQ hi];refine L2.Paired.snoc (Paired.mapP ty λv d ⟨p,e,h⟩=>⟨p,e,?_⟩) ⟨tp,rfl,?_⟩
 .rw[qD (ne _ _ (s6 _ _ h))];exact s6 _ _ h
 rw[qD (ne _ _ h6)];exact h6
obtain⟨rs,O,aa,ty⟩:=I
rw[kB,gH]at ty
have ae:=aq.trans O
have h5:=U.same ae
refine⟨_,rfl,D2,rfl,⟨_,SqL.of aa⟩,λD3 H6 ad s6 a5=>?_⟩
refine v4 (K:=K) (xs:=rs) (D:=D3) (λi H7=>∃N,Same H5 H7/\H7 D3=some (.lst N)/\N.length<=i/\Tys H5 m q N (((jX q.B q.P m.br q.fi).take i).filter λb=>decide (q.lv.getD b 0<=sp))) ⟨_,s6,a5,kO _,.nil⟩ (λi H7 I=>by obtain⟨_,J,_⟩:=I;exact SqL.of (J _ _ aa)) (λi y H7 hy I=>?_) (λH7 I=>?_)
.obtain⟨N,J,ac,ln,Z⟩:=I;obtain⟨b,hb,tp,rfl,ar⟩:=Paired.at ty hy;have hi:=(kC.mp hb).1;obtain rfl:(jX q.B q.P m.br q.fi)[i]=b:=(kC.mp hb).2;refine⟨_,rfl,iT (k:=_) (v:=_) (SqT.of (J _ _ ar)) rfl ⟨_,rfl,iI ⟨_,rfl,?_⟩⟩⟩;have bh:=ty.len;have bn:=(kC.mp hy).1;have e1:((jX q.B q.P m.br q.fi).take (i+1)).filter (λb=>decide (q.lv.getD b 0<=sp))=((jX q.B q.P m.br q.fi).take i).filter (λb=>decide (q.lv.getD b 0<=sp))++(if q.lv.getD (jX q.B q.P m.br q.fi)[i] 0<=sp then[(jX q.B q.P m.br q.fi)[i]]else[]):=by
  rw[<-mQ hi,gQ,gF];by_cases z:q.lv.getD (jX q.B q.P m.br q.fi)[i] 0<=sp
  .rw[hC z,kM z];rfl
  rw[hX z,kI z];rfl
 rw[e1];by_cases z:q.lv.getD (jX q.B q.P m.br q.fi)[i] 0<=sp
 .rw[hC z,kM z];refine iteT ?_;refine⟨_,rfl,_,ac,by lia,_,λb o e=>?_,qI,?_,L2.Paired.snoc Z ⟨tp,rfl,ar⟩⟩
  .rw[qD (qH e ad)];exact J _ _ e
  rw[mH];exact pT ln 1
 rw[hX z,kI z,gT];exact iteF ⟨_,J,ac,by lia,Z⟩
obtain⟨N,J,ac,ln,Z⟩:=I
rw[ty.len,gH]at Z
have as:=ae.trans J
refine kk D3 N H7 ?_ (Keep.same as) (aj.same as) ac (qBY (Keep.same (F:=[]) J) Z)
refine k1.none (λz=>?_) (Same.free ae ad)
obtain⟨bo,a3,_⟩:=aj.same ae
rw[kE.mp z,a3]at ad
cases ad)
theorem qBZ{L:List Nat}{p:Nat->Bool}{i:Nat}(hi:i<L.length):(L.take (i+1)).filter p=(L.take i).filter p++(if p L[i]=true then[L[i]]else[]):=by rw[<-mQ hi,gQ,gF];rfl
inductive spOp(t:Adr)(vs:List V)(H:Hp)(Q:VK)(E_:XK):Prop
|mk:∀x r2 r3 r5 m q,∀ie:Int,vs=[.ref x.s]->StAt t H x r2 r3 (.int ie) r5 m q->Fit m q->(∀l p rs H',FreeIs q.B m.br m.cl q.fi l->H p=none->Keep [t.eC] H H'->TbF t H'->H' p=some (.lst rs)->Tys H' m q rs (optN ie m q l)->Q (.ref p) H')->spOp t vs H Q E_
theorem q1B(T:tXx)(S:tFf)(B:BmIn base mg):S.fR.Ok0 P w mg base 11 (spOp t):=by(
refine S.fR.F.ok0 q17 λax A _ s H vs Q E hr h=>?_
obtain⟨x,r2,r3,r5,m,q,ie,rfl,hs,ft,k⟩:=h
have b2:=ft.oq.b2
have eP:=ft.eP
have sz:(16:Nat)<sizeLine:=by decide
have fl:(jX q.B q.P m.br q.fi).length<=16:=mL (mJ _ _) (mL (q2F (B:=q.B) (br:=m.br)) b2)
refine⟨_,(qC (qL (uN ["self","tally"] [0] rfl (jU (qT (pv 0) T.eE T.tO (q06 T S B).mono hr S.iB.b .nil qK)) (λz z z z z=>(jA (i:=1) (show List.Nodup (["self","tally"]:List Str)from by decide) rfl (Or.inl rfl))) (λz z z z z=>(uA (qS q4J (j8 (q4R (K:=K) rfl) (pv 1) qG (λz z=>rfl)) (uB (K:=K) rfl (uB (K:=K) rfl (pv 0) rfl) rfl) (qV _)))) (λz z z z z=>(pv 1)) (by kernel_rfl) (yF (by decide))))),?_⟩
try dsimp-beta-proj-iota-zeta-eta only[wishK,cxK]
refine(iV rfl (iM hs.o rfl ⟨x,r2,r3,r5,m,q,ie,rfl,hs,ft,λl p0 rs H5 hl np k1 U aa ty=>?_⟩))
have h5:=hs.kT k1 U
have kk:=λp rs H' np=>k l p rs H' hl np
unfold optN at kk
have ai:=mL (mJ (λb=>decide (q.lv.getD b 0<=spcN ie l q.P q.fi (jR q.B q.P m.br q.fi))) _) fl
generalize (jX q.B q.P m.br q.fi).filter (λb=>decide (q.lv.getD b 0<=spcN ie l q.P q.fi (jR q.B q.P m.br q.fi)))=L at kk ty ai
refine⟨p0,rfl,⟨_,SqL.of aa⟩,λD3 H6 O s6 aj=>?_⟩
refine v4 (K:=K) (xs:=rs) (D:=D3) (λi Z=>∃I,Same H5 Z/\Z D3=some (.lst I)/\I.length<=i/\Tys H5 m q I ((L.take i).filter λb=>decide (q.lv.getD b 0<(q.P:Int)))) ⟨_,s6,aj,kO _,.nil⟩ (λi Z hp=>by obtain⟨_,d,_⟩:=hp;exact SqL.of (d _ _ aa)) (λi y Z hy hp=>?_) (λZ hp=>?_)
.obtain⟨I,d,N,ln,J⟩:=hp;obtain⟨b,hb,tp,rfl,ac⟩:=Paired.at ty hy;have hi:=(kC.mp hb).1;obtain rfl:L[i]=b:=(kC.mp hb).2;have h7:=h5.same d;refine⟨_,rfl,iT (k:=_) (v:=_) (SqT.of (d _ _ ac)) rfl (iV rfl (iF h7.o T.eE T.eO rfl (iF h7.te T.eQ T.eT rfl (iI ⟨_,rfl,?_⟩))))⟩;rw[eP,qBZ hi];by_cases z:q.lv.getD L[i] 0<(q.P:Int)
 .rw[hC z,kM rfl];refine iteT ?_;refine⟨_,rfl,_,N,by lia,_,λb o e=>?_,qI,?_,L2.Paired.snoc J ⟨tp,rfl,ac⟩⟩
  .rw[qD (qH e O)];exact d _ _ e
  rw[mH];exact pT ln 1
 rw[hX z,kI (by decide),gT];exact iteF ⟨_,d,N,by lia,J⟩
obtain⟨I,d,N,ln,J⟩:=hp
rw[ty.len,gH]at J
refine kk D3 I Z ?_ (k1.trans (Keep.same d)) (U.same d) N (qBY (Keep.same (F:=[]) d) J)
refine k1.none (λz=>?_) O
obtain⟨az,ag,_⟩:=U
rw[kE.mp z,ag]at O
cases O)
theorem _root_.L2.ChipAt.has{C c:Addr}{a:CA}{m:CM}{H:Hp}(h:ChipAt C H c a m){b:Addr}(hb:b∈a.li::foot c a):∃o,H b=some o/\(b≠c->∀C d f,o≠ .ins C d f):=by(
obtain⟨rs,D,_⟩:=h.rc
have hb:b=a.li\/b=c\/b=a.bo\/b=a.cl\/b=a.dc\/b=a.br\/b=a.rc:=by simpa[foot]using hb
rcases hb with rfl|rfl|rfl|rfl|rfl|rfl|rfl
.exact⟨_,h.li,λU U U U z=>by cases z⟩
.exact⟨_,h.ins,λn=>absurd rfl n⟩
.exact⟨_,h.bo,λU U U U z=>by cases z⟩
.exact⟨_,h.cl,λU U U U z=>by cases z⟩
.exact⟨_,h.dc,λU U U U z=>by cases z⟩
.exact⟨_,h.br,λU U U U z=>by cases z⟩
exact⟨_,D,λU U U U z=>by cases z⟩)
theorem StAt.off{H:Hp}{x:Sto}{r2 r3 r4 r5:V}{m:CM}{q:QM}(h:StAt t H x r2 r3 r4 r5 m q){p:Addr}(n:H p=none):p∉t.eC::sf x:=λz=>by(
obtain⟨rs,er,_⟩:=h.ch.rc
obtain⟨ps,hT,_⟩:=h.tb
have z:p=t.eC\/p=x.c\/p=x.a.bo\/p=x.a.cl\/p=x.a.dc\/p=x.a.br\/p=x.a.rc\/p=x.k.bk\/p=x.k.wv\/p=x.k.lv\/p=x.k.fi\/p=x.k.bo:=by simpa[sf,bf,foot]using z
rcases z with rfl|rfl|rfl|rfl|rfl|rfl|rfl|rfl|rfl|rfl|rfl|rfl
.rw[hT]at n;cases n
.rw[h.ch.ins]at n;cases n
.rw[h.ch.bo]at n;cases n
.rw[h.ch.cl]at n;cases n
.rw[h.ch.dc]at n;cases n
.rw[h.ch.br]at n;cases n
.rw[er]at n;cases n
.rw[h.bk.o]at n;cases n
.rw[h.bk.w]at n;cases n
.rw[h.bk.l]at n;cases n
.rw[h.bk.f]at n;cases n
rw[h.bk.b]at n;cases n)
inductive spPi(t:Adr)(vs:List V)(H:Hp)(Q:VK)(E:XK):Prop
|mk:∀x dx tm td c a r2 r3 r4 r5,∀m:CM,∀B P:Nat,vs=[.ref x,.ref c,.ref tm]->H x=some (.ins t.C_Sure dx [])->H tm=some (.ins t.C_Terms td (teF (.int (B:Int)) (.int (P:Int)) r2 r3 r4 r5))->ChipAt t.C_Chip H c a m->(¬(m.bl=(B:Int)/\m.pg=(P:Int))->E (.ref t.C_NoTerms) none H)->(m.bl=(B:Int)->m.pg=(P:Int)->B<=16/\TbF t H/\∀k H',H' x=some (.ins t.C_Sure dx [("chip",.ref c),("terms",.ref tm),("book",.ref k.bk)])->(∀ru pa H2,Keep [x] H' H2->H2 x=some (.ins t.C_Sure dx [("chip",.ref c),("terms",.ref tm),("book",.ref k.bk),("rule",ru),("papers",pa)])->StAt t H2 ⟨x,dx,tm,td,c,a,k,ru,pa⟩ r2 r3 r4 r5 m (bk0 B P))->(∀b∈bf k,H b=none)->(∀b o,b≠x->H b=some o->H' b=some o)->Q .non H')->spPi t vs H Q E
theorem q8P(T:tXx)(S:tFf):S.aBU.OkE P w mg base 3 (spPi t):=by(
refine S.aBU.F.okE q8G (λvs H Q E h=>?_) (λa5 A outer s H vs Q E hr h=>?_)
.repeat obtain⟨_,h⟩:=h
 all_goals subst_vars;rfl
obtain⟨x,dx,U,td,c,a,r2,r3,r4,r5,m,B,P',rfl,hx,D,hc,kn,k⟩:=h
refine⟨_,(qB (jC (PW.pt (q8W (qS q27 (qJ (pv 2) rfl) (qJ (pv 1) rfl) (qV _)) (q6W (qS q27 (qJ (pv 2) rfl) (qJ (pv 1) rfl) (qV _))))) (qC (q4O qZ rfl rfl T.aDD T.aFD (qA yZ qE))) qQ) (qB (jH (pv 0) (pv 1) rfl) (qB (jH (pv 0) (pv 2) rfl) (qC (jH (pv 0) (q38 T.aFG (q52 T S).mono hr rfl T.aFE S.aBB.b .nil qK (qA (qJ (pv 1) rfl) (qA (qJ (pv 1) rfl) qE))) rfl))))),?_⟩
try dsimp-beta-proj-iota-zeta-eta only[wishK,cxK]
refine(iV rfl (iF D T.eQ T.fF rfl (iV rfl (iF hc.ins T.eG T.fE rfl ⟨rfl,_,rfl,?_⟩))))
by_cases eB:m.bl=(B:Int)
rotate_left
.rw[show(!decide (V.int (B:Int)=V.int m.bl))=true by rw[hX (λz=>eB (by injection z with z;exact z.symm))];rfl];refine iteT ?_;exact iteT ⟨sz1,kn λz=>eB z.1⟩
rw[show(!decide (V.int (B:Int)=V.int m.bl))=false by rw[eB];simp]
refine iteF ?_
refine(iV rfl (iF D T.eQ T.eT rfl (iV rfl (iF hc.ins T.eG T.fB rfl ⟨rfl,_,rfl,?_⟩))))
by_cases eP:m.pg=(P':Int)
rotate_left
.rw[show(!decide (V.int (P':Int)=V.int m.pg))=true by rw[hX (λz=>eP (by injection z with z;exact z.symm))];rfl];refine iteT ?_;exact⟨sz1,kn λz=>eP z.2⟩
rw[show(!decide (V.int (P':Int)=V.int m.pg))=false by rw[eP];simp]
refine iteF ?_
obtain⟨hB,tb,k⟩:=k eB eP
refine⟨_,rfl,_,rfl,x,_,dx,_,rfl,hx,T.eE,T.fG,by decide,?_⟩
refine⟨_,rfl,_,rfl,x,_,dx,_,rfl,qI,T.eE,T.eO,by show 1<1000;decide,?_⟩
rw[q9R]
have tx:U≠x:=jN D hx (by intro z;injection z with z1 z2 z3;unfold teF at z3;cases z3)
have cx:c≠x:=jN hc.ins hx (by intro z;injection z with z1 z2 z3;unfold chF at z3;cases z3)
have k1:∀b o,b≠x->H b=some o->(upd H x (.ins t.C_Sure dx [("chip",.ref c),("terms",.ref U)])) b=some o:=λb o N e=>by rw[qD N];exact e
have o1:(upd H x (.ins t.C_Sure dx [("chip",.ref c),("terms",.ref U)])) x=some (.ins t.C_Sure dx [("chip",.ref c),("terms",.ref U)]):=qI
have f1:∀b,(upd H x (.ins t.C_Sure dx [("chip",.ref c),("terms",.ref U)])) b=none->H b=none:=λb e=>by
 by_cases z:b=x
 .rw[z,qI]at e;cases e
 rw[qD z]at e;exact e
rw[show putF "terms" (.ref U) (putF "chip" (.ref c) ([]:List (Str×V)))=([("chip",V.ref c),("terms",V.ref U)]:List (Str×V))from rfl]
generalize upd H x (.ins t.C_Sure dx [("chip",.ref c),("terms",.ref U)])=H1 at k1 o1 f1 ⊢
have ai:=k1 _ _ cx hc.ins
refine(iV rfl (iF ai T.eG T.fE rfl (iV rfl (iF ai T.eG T.fB rfl (λk' kd nk aw nn=>?_)))))
rw[eB,eP]
refine⟨k',kd,B,P',rfl,hB,qI,λka H3 e1 e2 I ds fr up=>⟨rfl,?_⟩⟩
have s0:Same H1 (upd (upd H1 kd (.own k')) k' (.ins t.C_Book kd [])):=q1G nk aw
have ad:∀b o,H1 b=some o->H3 b=some o:=λb o e=>up b o (qH e nk) (s0 b o e)
refine⟨_,rfl,x,_,dx,_,rfl,ad _ _ o1,T.eE,T.eL,by show 2<1000;decide,?_⟩
have az:=ad _ _ o1
have kx:ka.bk≠x:=by rw[e1];exact(qH o1 nk).symm
have lH:∀b∈bf ka,H b=none:=λb J=>by
 have J:b=ka.bk\/b∈[ka.wv,ka.lv,ka.fi,ka.bo]:=by simpa[bf]using J
 rcases J with rfl|J
 .rw[e1];exact f1 _ nk
 exact f1 _ (Same.free s0 (fr b J))
have ah:∀b o,b≠x->H3 b=some o->(upd H3 x (.ins t.C_Sure dx (putF "book" (.ref k') [("chip",V.ref c),("terms",V.ref U)]))) b=some o:=λb o N e=>by rw[qD N];exact e
have al:∀b o,b≠x->H b=some o->(upd H3 x (.ins t.C_Sure dx (putF "book" (.ref k') [("chip",V.ref c),("terms",V.ref U)]))) b=some o:=λb o N e=>ah b o N (ad b o (k1 b o N e))
have nx:∀{b:Addr} {o:HO},H3 b=some o->(∀C d fs,o≠ .ins C d fs)->b≠x:=fun {b o} e n z=>by rw[z,az]at e;exact n _ _ _ (kQ e).symm
have aj:∀b∈a.li::foot c a,b≠x:=λb J z=>by
 obtain⟨o,e,no⟩:=hc.has J;by_cases y:b=c
 .exact cx (y.symm.trans z)
 rw[z,hx]at e;exact no y _ _ _ (kQ e).symm
refine k ka _ (by rw[e1];exact qI) (λru pa H2 kk au=>?_) lH al
have O:∀b o,b≠x->H3 b=some o->H2 b=some o:=λb o N e=>kk.k b o (by simpa using N) (ah b o N e)
have Z:∀b o,b≠x->H b=some o->H2 b=some o:=λb o N e=>kk.k b o (by simpa using N) (al b o N e)
have kK:Keep [x] H H2:=⟨λb o N e=>Z b o (λz=>N (by rw[z];simp)) e,λb xs e=>Z b _ (λz=>by rw[z,hx]at e;cases e) e⟩
refine⟨au,?_,?_,?_,?_,ds,?_,?_⟩
.rw[eB,eP];exact Z _ _ tx D
.exact hc.keep kK (λb J z=>aj b J (kE.mp z))
.exact⟨O _ _ kx I.o,O _ _ (nx I.w (λd d d z=>by cases z)) I.w,O _ _ (nx I.l (λd d d z=>by cases z)) I.l,O _ _ (nx I.f (λd d d z=>by cases z)) I.f,O _ _ (nx I.b (λd d d z=>by cases z)) I.b⟩
.exact tb.gen λb o to e=>Z _ _ (yW to e hx q1X) e
.intro b J z;obtain⟨o,e,_⟩:=hc.has J;rw[lH b z]at e;cases e
intro b J z
have J:b=x\/b=U:=by simpa using J
have y0:b∈foot c a\/b∈bf ka:=by simpa[sf]using z
clear z
rcases y0 with z|z
.rcases J with rfl|rfl
 .exact aj _ (hU _ z) rfl
 obtain⟨o,e,no⟩:=hc.has (hU _ z);by_cases y:b=c
 .rw[y,hc.ins]at D;have D:=kQ D;injection D with z1 z2 z3
  unfold chF teF at z3;have:=rL List.length z3;simp at this
 rw[D]at e;exact no y _ _ _ (kQ e).symm
have n:=lH b z
rcases J with rfl|rfl
.rw[hx]at n;cases n
rw[D]at n;cases n)
inductive spSi(t:Adr)(vs:List V)(H:Hp)(Q:VK)(E:XK):Prop
|mk:∀x dx tm td c a r2 r3 r4 r5 ru,∀m:CM,∀B P:Nat,vs=[.ref x,.ref c,.ref tm,ru]->H x=some (.ins t.C_Sure dx [])->H tm=some (.ins t.C_Terms td (teF (.int (B:Int)) (.int (P:Int)) r2 r3 r4 r5))->ChipAt t.C_Chip H c a m->(¬(m.bl=(B:Int)/\m.pg=(P:Int))->E (.ref t.C_NoTerms) none H)->(m.bl=(B:Int)->m.pg=(P:Int)->B<=16/\TbF t H/\∀k p H',StAt t H' ⟨x,dx,tm,td,c,a,k,ru,.ref p⟩ r2 r3 r4 r5 m (bk0 B P)->H' p=some (.lst [])->H p=none->(∀b∈bf k,H b=none)->p∉t.eC::sf ⟨x,dx,tm,td,c,a,k,ru,.ref p⟩->(∀b o,b≠x->H b=some o->H' b=some o)->Q .non H')->spSi t vs H Q E
theorem q8Q(T:tXx)(S:tFf):S.aBO.OkE P w mg base 4 (spSi t):=by(
refine S.aBO.F.okE q8J (λvs H Q E h=>?_) (λak A outer s H vs Q E hr h=>?_)
.repeat obtain⟨_,h⟩:=h
 all_goals subst_vars;rfl
obtain⟨x,dx,U,td,c,a,r2,r3,r4,r5,I,m,B,P',rfl,hx,N,hc,kn,k⟩:=h
refine⟨_,(qB (qX (qIH qZ T.aFM (q8P T S).mono hr rfl T.aFO S.aBU.b .nil (qA (pv 0) (qA (pv 1) (qA (pv 2) qE))))) (qB (jH (pv 0) (pv 3) rfl) (qC (jH (pv 0) (jO qE) rfl)))),?_⟩
try dsimp-beta-proj-iota-zeta-eta only[wishK,cxK]
refine⟨_,rfl,_,rfl,_,rfl,x,dx,U,td,c,a,r2,r3,r4,r5,m,B,P',rfl,hx,N,hc,kn,λeB eP=>?_⟩
obtain⟨hB,tb,k⟩:=k eB eP
refine⟨hB,tb,λO H1 d st fk up=>?_⟩
refine⟨_,rfl,_,rfl,x,_,dx,_,rfl,d,T.eE,T.iP,by show 3<1000;decide,?_⟩
refine⟨sz0,λp H2 np s2 h2=>?_⟩
have J:p≠x:=λz=>by rw[z,qI]at np;cases np
rw[qD J]at np
have D:=s2 _ _ qI
refine⟨_,rfl,x,_,dx,_,rfl,D,T.eE,T.oS,by show 4<1000;decide,?_⟩
have Z:=st I .non (upd H1 x (.ins t.C_Sure dx [("chip",.ref c),("terms",.ref U),("book",.ref O.bk),("rule",I),("papers",.non)])) (Keep.upd d (λd z=>by cases z) (by simp)) qI
have off:=Z.off (p:=p) (by rw[qD J];exact np)
have kA:Keep [x] H1 (upd H2 x (.ins t.C_Sure dx (putF "papers" (.ref p) (putF "rule" I [("chip",.ref c),("terms",.ref U),("book",.ref O.bk)])))):=((Keep.upd d (λd z=>by cases z) (by simp)).trans (Keep.same s2)).trans (Keep.upd D (λd z=>by cases z) (by simp))
refine k O p _ (st I (.ref p) _ kA qI) (by rw[qD J];exact h2) ?_ fk off (λb o nb e=>kA.k b o (by simpa using nb) (up b o nb e))
cases e:H p with
|none=>rfl
|some o=>rw[up p o J e]at np;cases np)
inductive spEm(t:Adr)(vs:List V)(H:Hp)(Q:VK)(E_:XK):Prop
|mk:∀a,∀m:QM,∀b,vs=[.ref a.bk,.int ((b:Nat):Int)]->BkAt t H a m->m.Ok->Dst a->b<m.B->(∀H',BkAt t H' a (m.emptied b)->Keep [a.fi,a.bo] H H'->Q .non H')->spEm t vs H Q E_
theorem q6H(T:tXx)(S:tFf):S.tX.Ok0 P w mg base 1 (spEm t):=by(
refine S.tX.F.ok0 q68 λad A _ s H vs Q E hr h=>?_
obtain⟨a,m,b,rfl,d,ok,ds,U,q⟩:=h
have N:a.bk≠a.fi:=jN d.o d.f (by intro z;cases z)
have oo:a.bk≠a.bo:=jN d.o d.b (by intro z;cases z)
have wf:a.wv≠a.fi:=jN d.w d.f (by intro z;cases z)
have wb:a.wv≠a.bo:=jN d.w d.b (by intro z;cases z)
have J:b<m.fi.length:=by rw[ok.lf];exact U
have I:b<m.bo.length:=by rw[ok.lo];exact U
refine⟨_,(qB (q5A qG (q6X (qJ (pv 0) rfl) (pv 1) uJ)) (qC (q5A qG (q6X (qJ (pv 0) rfl) (pv 1) uJ)))),?_⟩
try dsimp-beta-proj-iota-zeta-eta only[wishK,cxK]
refine(iV rfl (iF d.o T.eI T.eU rfl ⟨_,rfl,a.fi,_,_,b,rfl,rfl,d.f,q5F (by rw[kB];exact J),?_⟩))
rw[setV]
have Z:(upd H a.fi (.lst ((m.fi.set b 0).map V.int))) a.bo=some (.lst (m.bo.map V.int)):=by rw[qD ds.fb.symm];exact d.b
have D:∀o,H a.bk=some o->(upd H a.fi (.lst ((m.fi.set b 0).map V.int))) a.bk=some o:=λo e=>by rw[qD N];exact e
have O:=D _ d.o
refine(iV rfl (iF O T.eI T.iS rfl ⟨_,rfl,a.bo,_,_,b,rfl,rfl,Z,q5F (by rw[kB];exact I),?_⟩))
rw[setV]
refine q _ ⟨?_,?_,?_,?_,?_⟩ (Keep.trans (H1:=upd H a.fi (.lst ((m.fi.set b 0).map V.int))) (Keep.upd d.f (λd z=>by cases z) (by simp)) (Keep.upd Z (λd z=>by cases z) (by simp)))
.rw[qD oo];exact O
.rw[qD wb,qD wf];exact d.w
.rw[qD ds.lb,qD ds.lf];exact d.l
.rw[qD ds.fb];exact qI
exact qI)
noncomputable def lpK(P b:Nat)(V:Mp):List (List Int):=(V.filter λq=>decide (q.2 / (P:Int)=(b:Int))).map λq=>[q.2,q.1]
theorem qC0{P b:Nat}{V:Mp}{q:Int×Int}:lpK P b (V++[q])=if q.2 / (P:Int)=(b:Int)then lpK P b V++[[q.2,q.1]]else lpK P b V:=by(
unfold lpK
rw[gQ,gA]
by_cases e:q.2 / (P:Int)=(b:Int)
.rw[kM e];simp[e]
rw[kI e]
simp[e])
inductive spLp(t:Adr)(vs:List V)(H:Hp)(Q:VK)(E_:XK):Prop
|mk:∀a,∀m:QM,∀b,vs=[.ref a.bk,.int ((b:Nat):Int)]->BkAt t H a m->m.Ok->m.V.length<64->(∀l us rs H',Same H H'->H l=none->H' l=some (.lst us)->Paired (TupD H') us rs->rs.Perm (lpK m.P b m.V)->(rs.Pairwise λa b=>lx b a=false)->Q (.ref l) H')->spLp t vs H Q E_
theorem q4C(T:tXx)(S:tFf):S.oA.Ok0 P w mg base 1 (spLp t):=by(
refine S.oA.F.ok0 q44 λa6 A _ s H vs Q E hr h=>?_
obtain⟨a,m,b,rfl,U,ok,lV,q⟩:=h
have hu:=q61 hr
have p1:=ok.p1
have p2:=ok.p2
have ob:a.bk≠a.wv:=jN U.o U.w (by intro z;cases z)
refine⟨_,(qC (qL (jI q4U (by rfl) T.aBH (by kernel_rfl) (qA (qDC (uN ["self","block","name","page"] [0,1] rfl (qL4 (qCC cZ c7 nO qBE (qJ (pv 0) rfl))) (λz z z z z=>(qI7 (K:=K) (n:=2) rfl rfl (yS (jA (i:=2) (show List.Nodup (["self","block","name","page"]:List Str)from by decide) rfl (Or.inl rfl)) (yS (jA (i:=3) (show List.Nodup (["self","block","name","page"]:List Str)from by decide) rfl (Or.inl rfl)) q36)) rfl rfl)) (λz z z z z=>(uA (qS zH (qN vR (pv 3) (uB (K:=K) rfl (pv 0) rfl)) (pv 1) (qV _)))) (λz z z z z=>(yX (qA (pv 3) (qA (pv 2) qE)))) (by kernel_rfl) (qHZ (qB5 (by decide) (qB5 (by decide) qHY))))) qE)))),?_⟩
try dsimp-beta-proj-iota-zeta-eta only[wishK,cxK]
refine⟨a.wv,_,U.w,iV rfl (iF U.o T.eI T.eW rfl ⟨.inr (.inr (.inl ⟨rfl,.inl ⟨_,U.w⟩⟩)),a.wv,_,rfl,rfl,U.w,λv nv=>?_⟩)⟩
have sv:Same H (upd H v (q12 v a.wv)):=Same.upd nv
have vv:(upd H v (q12 v a.wv)) v=some (q12 v a.wv):=qI
generalize upd H v (q12 v a.wv)=H1 at sv vv ⊢
refine⟨v,a.wv,_,rfl,vv,sv _ _ U.w,λo D H2 nD s2 hD=>?_⟩
have kk:∀x u,x≠a.wv->H x=some u->H2 x=some u:=λx u nx e=>s2 _ _ (by rw[qD nx];exact sv _ _ e)
have fz:H2 a.wv=some (.frz o (.dK (dI m.V))):=s2 _ _ qI
have aq:H D=none:=by
 cases z:H D with
 |none=>rfl
 |some u=>
  by_cases y:D=a.wv
  .rw[y,qI]at nD;cases nD
  rw[qD y,sv _ _ z]at nD;cases nD
have Dw:D≠a.wv:=λz=>by rw[z,fz]at hD;cases hD
refine qI8 (D:=D) (λi d=>d a.wv=some (.frz o (.dK (dI m.V)))/\(∀x u,x≠a.wv->H x=some u->d x=some u)/\∃J,d D=some (.lst J)/\Paired (TupD d) J (lpK m.P b (m.V.take i))) ⟨fz,kk,[],hD,.nil⟩ (λi d hp=>hp.1) (λi kv W d hk hp nW=>?_) (λd hp=>?_)
.obtain⟨I,k3,J,hd,pr⟩:=hp;have hi:i<m.V.length:=by have:=(kC.mp hk).1;rw[q82]at this;exact this
 obtain rfl:((Sum.inl m.V[i].1:Key),V.int m.V[i].2)=kv:=by
  have e:(dI m.V)[i]?=some ((Sum.inl m.V[i].1:Key),V.int m.V[i].2):=by unfold dI;rw[kZ,kF hi];rfl
  rw[e]at hk;exact kQ hk
 have sW:Same d (upd d W (.tup [.int m.V[i].1,.int m.V[i].2])):=Same.upd nW;have hW:(upd d W (.tup [.int m.V[i].1,.int m.V[i].2])) W=some (.tup [.int m.V[i].1,.int m.V[i].2]):=qI;show gTup _ _ _ _ _ (upd d W (.tup [.int m.V[i].1,.int m.V[i].2])) _;generalize upd d W (.tup [.int m.V[i].1,.int m.V[i].2])=H4 at sW hW ⊢;refine⟨W,_,rfl,SqT.of hW,rfl,_,_,rfl,_,_,rfl,rfl,?_⟩;refine⟨_,rfl,iV rfl (iF (sW _ _ (k3 _ _ ob U.o)) T.eI T.iW rfl (iI ⟨⟨by lia,by lia⟩,_,rfl,rfl,_,rfl,?_⟩))⟩;rw[q2C];have tk:m.V.take (i+1)=m.V.take i++[m.V[i]]:=(mQ hi).symm;by_cases e:m.V[i].2 / (m.P:Int)=(b:Int)
 .rw[hC e];refine iteT ?_;refine⟨_,rfl,_,rfl,sz2,λtp H5 n5 s5 h5=>?_⟩;have O:=sW.trans s5;have Z:=O _ _ hd;have lu:J.length<=64:=by
   have:=pr.len;have l2:(lpK m.P b (m.V.take i)).length<=(m.V.take i).length:=by unfold lpK;rw[kB];exact mJ _ _
   rw[gX]at l2;lia
  refine⟨J,Z,(by exact dJ (m:=64) (by lia) (by decide)),?_,λx u nx e'=>?_,J++[.ref tp],qI,?_⟩
  .rw[qD Dw.symm];exact O _ _ I
  .rw[qD (qH e' aq)];exact O _ _ (k3 _ _ nx e')
  rw[tk,qC0,kM e];exact L2.Paired.snoc (Paired.mapP (u7 pr O) λx k z=>z.upd Z (λz q=>by cases q)) (TupD.upd ⟨tp,rfl,h5⟩ Z (λz q=>by cases q))
 rw[hX e];refine iteF ?_;refine⟨sW _ _ I,λx u nx e'=>sW _ _ (k3 _ _ nx e'),J,sW _ _ hd,?_⟩;rw[tk,qC0,kI e];exact u7 pr sW
obtain⟨I,k3,J,hd,pr⟩:=hp
rw[q82,gH]at pr
refine⟨o,_,I,?_⟩
have sH:Same H (upd d a.wv (.dK (dI m.V))):=qGB U.w k3
have af:(upd d a.wv (.dK (dI m.V))) D=some (.lst J):=by rw[qD Dw];exact hd
have N:Paired (TupD (upd d a.wv (.dK (dI m.V)))) J (lpK m.P b m.V):=Paired.mapP pr λx k z=>z.upd I (λz q=>by cases q)
generalize upd d a.wv (.dK (dI m.V))=H4 at sH af N ⊢
have hl:(lpK m.P b m.V).length<64:=by unfold lpK;rw[kB];exact dJ (mJ _ _) lV
have ul:=N.len
refine⟨D,J,lpK m.P b m.V,2,rfl,SqL.of af,qDJ N,λk hk=>?_,by decide,by lia,λqs pp pw l H5 n5 s5 h5=>?_⟩
.unfold lpK at hk;obtain⟨x,_,rfl⟩:=mF.mp hk;rfl
refine q l _ _ H5 (sH.trans s5) (sH.free n5) h5 (q7O (u7 N s5) λi hi=>mO.mp (pp.mem_iff.mp hi)) (q7N ul.symm pp) pw)
theorem qE2(xs:List V)(i:Nat):∀n p,(clr xs i n).getD p .non=if i<=p/\p<i+n then .non else xs.getD p .non
|0,p=>by rw[kI (by lia)];rfl
|n+1,p=>by
 show((clr xs i n).set (i+n) .non).getD p .non=_;rw[jB,qE2 xs i n p];by_cases e:i+n=p
 .subst e;rw[kM (show i<=i+n/\i+n<i+(n+1) by lia),kI (show ¬(i<=i+n/\i+n<i+n) by lia)];by_cases z:i+n<(clr xs i n).length
  .rw[kM ⟨rfl,z⟩]
  rw[kI (λy=>z y.2)];rw[q6N]at z;rw[kL,rT (by lia)];rfl
 rw[kI (λy=>e y.1)];by_cases z:i<=p/\p<i+n
 .rw[kM z,kM (by lia)]
 rw[kI z,kI (by lia)]
structure PgAt(H:Hp)(bs:List V)(pg:Nat->Option (Int×Int)):Prop where
n:∀i,pg i=none->bs.getD i .non=.non
v:∀i v,pg i=some v->∃tp,bs.getD i .non=.ref tp/\H tp=some (.tup [.int v.1,.int v.2])
theorem PgAt.keep{F:List Addr}{H H':Hp}{bs:List V}{pg:Nat->Option (Int×Int)}(h:PgAt H bs pg)(k:Keep F H H'):PgAt H' bs pg:=⟨h.n,λi v e=>by
 obtain⟨tp,e1,e2⟩:=h.v i v e;exact⟨tp,e1,k.tp _ _ e2⟩⟩
structure Cm(m:CM)(s:XS):Prop where
ft:Fit m s.q
br:m.br=noB s.q.B
li:∀b,valV m.lim (Sum.inl b)=none
mo:m.mo=1000000
cl:m.cl=s.cl
lf:m.lf=s.lf
rc:m.rc=s.rc
theorem Cm.gd{m:CM}{s:XS}(h:Cm m s):Gd m:=⟨λb=>by rw[h.br];exact rep8,h.li⟩
structure XR(t:Adr)(H:Hp)(x:Sto)(k:Tm)(sh sr:Int)(s:XS):Prop where
e:∃m:CM,StAt t H x (.int sh) (.int sr) (.int (k.ie:Int)) (.int k.sp) m s.q/\Cm m s/\PgAt H m.bo s.pg
w:WX k s
theorem Cm.pgs{m:CM}{s:XS}(h:Cm m s){b f:Nat}(hb:b<s.q.B)(hf:f<s.q.P):((b*s.q.P+f:Nat):Int)<=m.bl*m.pg-1/\b*s.q.P+f<m.bo.length:=by(
have d:=h.ft.ok.nbo
rw[h.ft.eB,h.ft.eP,<-dA]at *
have:b*s.q.P+f<s.q.B*s.q.P:=(rV (by lia)).mp (by rw[yC hf];exact hb)
lia)
section
variable{H H':Hp}{x:Sto}{k:Tm}{sh sr:Int}{s:XS}
theorem XR.keep(j:XR t H x k sh sr s){F:List Addr}(kk:Keep F H H')(n:∀b∈[x.s,x.tm]++(x.a.li::sf x),b∉F)(tb:TbF t H'):XR t H' x k sh sr s:=by obtain⟨m,st,c,pg⟩:=j.e;exact⟨⟨m,st.keep kk n tb,c,pg.keep kk⟩,j.w⟩
theorem XR.kT(j:XR t H x k sh sr s)(kk:Keep [t.eC] H H')(tb:TbF t H'):XR t H' x k sh sr s:=by obtain⟨m,st,c,pg⟩:=j.e;exact⟨⟨m,st.kT kk tb,c,pg.keep kk⟩,j.w⟩
theorem XR.tb(j:XR t H x k sh sr s):TbF t H:=by obtain⟨m,st,c,pg⟩:=j.e;exact st.tb
theorem XR.same(j:XR t H x k sh sr s)(ss:Same H H'):XR t H' x k sh sr s:=by obtain⟨m,st,c,pg⟩:=j.e;exact⟨⟨m,st.same ss,c,pg.keep (F:=[]) (Keep.same ss)⟩,j.w⟩
theorem XR.o(j:XR t H x k sh sr s):H x.s=some (.ins t.C_Sure x.sd [("chip",.ref x.c),("terms",.ref x.tm),("book",.ref x.k.bk),("rule",x.ru),("papers",x.pa)]):=by obtain⟨m,st,c,pg⟩:=j.e;exact st.o
theorem XR.inH(j:XR t H x k sh sr s):∀y∈t.eC::sf x,∃o,H y=some o:=λy hy=>by(
obtain⟨m,hs,_⟩:=j.e
rcases kN.mp hy with e|e
.obtain⟨pt,hT,_⟩:=hs.tb;exact⟨_,by rw[e];exact hT⟩
unfold sf at e
rcases gJ.mp e with e|e
.obtain⟨o,ho,_⟩:=hs.ch.has (hU _ e);exact⟨o,ho⟩
have e:y=x.k.bk\/y=x.k.wv\/y=x.k.lv\/y=x.k.fi\/y=x.k.bo:=by simpa[bf]using e
rcases e with rfl|rfl|rfl|rfl|rfl
.exact⟨_,hs.bk.o⟩
.exact⟨_,hs.bk.w⟩
.exact⟨_,hs.bk.l⟩
.exact⟨_,hs.bk.f⟩
exact⟨_,hs.bk.b⟩)
theorem XR.off(j:XR t H x k sh sr s){p:Addr}(n:H p=none):p∉t.eC::sf x:=λz=>by obtain⟨o,e⟩:=j.inH p z;rw[n]at e;cases e
theorem TbF.updL{H:Hp}{p:Addr}{xs:List V}{o:HO}(h:TbF t H)(e:H p=some (.lst xs)):TbF t (upd H p o):=by exact h.gen λb o' to d=>by rw[qD (yW to d e zO)];exact d
theorem XR.lst(j:XR t H x k sh sr s){p:Addr}{xs:List V}{o:HO}(e:H p=some (.lst xs))(np:p∉t.eC::sf x):XR t (upd H p o) x k sh sr s:=by(
obtain⟨m,st,_⟩:=j.e
have k:=Keep.upd (F:=[p]) (o:=o) e (λU z=>by cases z) (by simp)
refine j.keep k (λy d z=>?_) (TbF.updL st.tb e)
rw[kE.mp z]at d
rcases gJ.mp d with d|d
.have d:p=x.s\/p=x.tm:=by simpa using d
 rcases d with h|h
 .rw[h,st.o]at e;cases e
 rw[h,st.te]at e;cases e
rcases kN.mp d with h|h
.rw[h,st.ch.li]at e;cases e
exact np (hU _ h))
theorem XR.set(j:XR t H x k sh sr s){n v:Int}(n0:0<=n)(n1:n<=64)(rc:s.rc.length<1000000)(hr:k.ie*s.q.P<s.rmX)(hl:(∃p,(n,p)∈s.q.V)\/s.q.V.length<59){Q:VK}{E:XK}
 (dk:s.lf=some 0->∀H',XR t H' x k sh sr s->Keep (t.eC::sf x) H H'->E (.ref t.C_PowerGone) none H')
 (kk:s.lf≠some 0->∀H',XR t H' x k sh sr (s.put n v)->Keep (t.eC::sf x) H H'->Q (.int (s.np:Int)) H'):qBV t [.ref x.s,.int n,.int v] H Q E:=by(
obtain⟨m,st,c,pg⟩:=j.e
obtain⟨hb,hf,ef,_,sp⟩:=j.w.spot (by lia)
obtain⟨ad,U⟩:=c.pgs hb hf
refine⟨x,_,_,_,_,m,s.q,n,v,rfl,st,c.ft,c.gd,by rw[c.rc];exact rc,λl I=>⟨s.pb,s.pf,?_,ef,pg.n _ (j.w.cr _ _ hb (by lia) hf),λz H' J D=>dk (by rw[<-c.lf];exact z) H' ⟨⟨m,D,c,pg.keep J⟩,j.w⟩ J,λz Z H' O J D=>?_⟩⟩
.rw[c.br]at I ⊢;rw[c.cl]at I;exact sp l I
have N:s.lf≠some 0:=by rw[<-c.lf];exact z
obtain⟨w',_⟩:=j.w.put (v:=v) hr n0 n1 hl N
have d:(m.deed "put" ((s.pb*s.q.P+s.pf:Nat):Int) (((s.pb*s.q.P+s.pf:Nat):Int) / m.pg) false).Ok:=c.ft.ok.deed (by rw[c.rc];exact rc)
refine kk N H' ⟨⟨_,D,⟨⟨⟨d.bl1,d.bl2,d.pg1,d.pg2,?_,d.ncl,d.ndc,d.nbr,d.lim,d.nrc⟩,w'.qs.ok,c.ft.eB,c.ft.eP,c.br⟩,c.br,c.li,c.mo,c.cl,?_,?_⟩,⟨λi e=>?_,λi w e=>?_⟩⟩,w'⟩ J
.show((m.bo.set _ _).length:Int)=_;rw[gM];exact c.ft.ok.nbo
.show m.lf.map _=_;rw[c.lf];rfl
.show m.rc++[_]=_;rw[c.rc];rfl
.have e:(if i=s.np then some (s.q.nx*128+n,v)else s.pg i)=none:=e;show(m.bo.set (s.pb*s.q.P+s.pf) (.ref Z)).getD i .non=.non;by_cases z:i=s.np
 .rw[kM z]at e;cases e
 rw[kI z]at e;rw[jB,kI (λy=>z y.1.symm)];exact pg.n i e
have e:(if i=s.np then some (s.q.nx*128+n,v)else s.pg i)=some w:=e
show ∃S,(m.bo.set (s.pb*s.q.P+s.pf) (.ref Z)).getD i .non=.ref S/\_
by_cases z:i=s.np
.rw[kM z]at e;cases e;exact⟨Z,by rw[jB,kM ⟨z.symm,U⟩],O⟩
rw[kI z]at e
obtain⟨S,e1,e2⟩:=pg.v i w e
exact⟨S,by rw[jB,kI (λy=>z y.1.symm)];exact e1,J.tp _ _ e2⟩)
end
inductive spCo(t:Adr)(vs:List V)(H:Hp)(Q:VK)(E:XK):Prop
|mk:∀x k sh sr s,∀b:Nat,vs=[.ref x.s,.int (b:Int)]->XR t H x k sh sr s->b<s.q.B->s.q.fi.getD b 0=(s.q.P:Int)->s.rc.length<1000000->(∀y∈s.q.V,¬y.2 / (s.q.P:Int)=(b:Int))->(s.lf=some 0->E (.ref t.C_PowerGone) none H)->(s.lf≠some 0->∀H',XR t H' x k sh sr (s.wip b)->Keep (t.eC::sf x) H H'->Q .non H')->spCo t vs H Q E
theorem q4D(T:tXx)(S:tFf):S.iZ.OkE P w mg base 5 (spCo t):=by(
refine S.iZ.F.okE q45 (λvs H Q E h=>?_) (λam A outer s H vs Q E hr h=>?_)
.repeat obtain⟨_,h⟩:=h
 all_goals subst_vars;rfl
obtain⟨x,k,sh,sr,s,b,rfl,j,hb,ef,rc,nl,dk,kk⟩:=h
obtain⟨m,U,c,pg⟩:=j.e
have eB:=c.ft.eB
have clb:=(j.w.c0 b).2
refine⟨_,(qB (qX (jM qZ (qJ (pv 0) rfl) T.eG T.aEP (qAK T S).mono hr S.aCG.b .nil (qA (pv 1) qE))) (qC (qX (jD (qJ (pv 0) rfl) T.eI T.aC7 (q6H T S).mono hr S.tX.b .nil qK (qA (pv 1) qE))))),?_⟩
try dsimp-beta-proj-iota-zeta-eta only[wishK,cxK]
refine(iV rfl (iF U.o T.eE T.fG rfl (iM U.ch.ins rfl ⟨_,rfl,x.c,x.a,m,_,rfl,U.ch,c.ft.ok,by rw[c.rc];exact rc,c.gd,by lia,by rw[c.mo,c.cl];lia,λz=>dk (by rw[<-c.lf];exact z),λz H1 Z k1=>?_⟩)))
have O:s.lf≠some 0:=by rw[<-c.lf];exact z
have D:=U.put Z k1 rfl rfl
refine(iV rfl (iF D.o T.eE T.eL rfl (iM D.bk.o rfl ⟨_,rfl,x.k,s.q,b,rfl,D.bk,j.w.qs.ok,D.ds,hb,λH2 aa k2=>?_⟩)))
have J:Keep (bf x.k) H1 H2:=k2.mono (by intro y I;simp[bf]at I ⊢;rcases I with rfl|rfl<;>simp)
have kA:Keep (t.eC::sf x) H H2:=(k1.mono (λy I=>by unfold sf;exact hU _ (gC _ I))).trans (J.mono (λy I=>by unfold sf;exact hU _ (kY _ I)))
have ab:=D.note aa J
obtain⟨w',_⟩:=j.w.wip hb ef nl O
have d:(m.deed "wipe" (b:Int) (b:Int) false).Ok:=c.ft.ok.deed (by rw[c.rc];exact rc)
have N:∀p,(wipC m b).bo.getD p .non=if p / s.q.P=b then .non else m.bo.getD p .non:=λp=>by
 show(clr m.bo ((b:Int)*m.pg).toNat m.pg.toNat).getD p .non=_;have p1:=j.w.qs.ok.p1;rw[c.ft.eP,<-dA,mB,mB,qE2];have:(b*s.q.P<=p/\p<b*s.q.P+s.q.P)↔p / s.q.P=b:=by rw[Nat.div_eq_iff (by lia)];generalize b*s.q.P=z;lia
 by_cases z:p / s.q.P=b
 .rw[kM z,kM (this.mpr z)]
 rw[kI z,kI (λy=>z (this.mp y))]
refine kk O H2 ⟨⟨_,ab,⟨⟨⟨d.bl1,d.bl2,d.pg1,d.pg2,?_,?_,d.ndc,d.nbr,d.lim,d.nrc⟩,w'.qs.ok,c.ft.eB,c.ft.eP,c.br⟩,c.br,c.li,c.mo,?_,?_,?_⟩,⟨λi e=>?_,λi w e=>?_⟩⟩,w'⟩ kA
.show((clr m.bo _ _).length:Int)=_;rw[q6N];exact c.ft.ok.nbo
.show((m.cl.set _ _).length:Int)=_;rw[gM];exact c.ft.ok.ncl
.show m.cl.set b (m.cl.getD b 0+1)=_;rw[c.cl];rfl
.show m.lf.map _=_;rw[c.lf];rfl
.show m.rc++[_]=_;rw[c.rc];rfl
.have e:(if i / s.q.P=b then none else s.pg i)=none:=e;rw[N];by_cases z:i / s.q.P=b
 .rw[kM z]
 rw[kI z]at e ⊢;exact pg.n i e
have e:(if i / s.q.P=b then none else s.pg i)=some w:=e
rw[N]
by_cases z:i / s.q.P=b
.rw[kM z]at e;cases e
rw[kI z]at e ⊢
obtain⟨tq,e1,e2⟩:=pg.v i w e
exact⟨tq,e1,kA.tp _ _ e2⟩)
theorem q8R(T:tXx)(S:tFf):S.aBR.OkE P w mg base 9 (λvs H Q E=>spCo t vs H (λv H'=>v=.non/\Q (.bl true) H') E):=by(
refine S.aBR.F.okE q8L (λvs H Q E h=>?_) (λab A outer s H vs Q E N h=>?_)
.repeat obtain⟨_,h⟩:=h
 all_goals subst_vars;rfl
obtain⟨x,k,sh,sr,s,b,rfl,j,U,ef,rc,O,D,kk⟩:=h
refine⟨_,(qB (q7C (λpins XE ES d J=>(qC (qX (jM d (pv 0) T.eE T.aB9 (q4D T S).mono N S.iZ.b .nil (qA (pv 1) qE))))) (q9X (λea=>(jT rfl T.aAS rfl (v:=.ref t.C_BlockFailed))) rfl (λea=>(qB j9 (qC j9))) (q7B qZ))) (qC (qL q3K))),?_⟩
try dsimp-beta-proj-iota-zeta-eta only[wishK,cxK]
exact(iV rfl (iM j.o rfl ⟨_,rfl,x,k,sh,sr,s,b,rfl,j,U,ef,rc,O,λz ea aa=>⟨_,T.fV,iteF (D z)⟩,λz H' I Z=>(kk z H' I Z).2⟩)))
theorem qH9{s:XS}{ns:List Int}(h:HeldIs s.q ns):ns=s.hl:=by(
refine qDI (h.pm.trans (xA _ _).symm) h.so ?_
have:=nM (le:=λa b:Int=>decide (a<=b)) (λa b c h1 h2=>hC (pE (mI h1) (mI h2))) (λa b=>by
 by_cases z:a<=b
 .rw[hC z];rfl
 rw[hX z,hC (show b<=a by lia)];rfl) (hdN s.q.V)
exact this.imp λz=>mI z)
theorem hd64{k:Tm}{s:XS}(w:WX k s):(hdN s.q.V).length<64:=by(
unfold hdN
refine dJ (mJ _ _) ?_
have:=w.l6
rw[kB]
lia)
theorem qJP{k:Tm}{s:XS}(w:WX k s):∀y∈s.hl,0<=y/\y<64:=λy hy=>by(
have hy:=cX.mp hy
obtain⟨a1,a2⟩:=mK.mp hy
obtain⟨y',hy',rfl⟩:=mF.mp a1
have:=w.qs.ok.nm y' hy'
have:=mI a2
lia)
theorem qJQ{ns:List Int}(h:∀y∈ns,0<=y/\y<64):ns.map V.int=vN (ns.map Int.toNat)/\∀u∈ns.map Int.toNat,u<64:=by(
refine⟨?_,λu z=>?_⟩
.unfold vN;rw[pF];refine wK λy d=>?_;have:=h y d;show V.int y=V.int ((y.toNat:Nat):Int);rw[show((y.toNat:Nat):Int)=y by lia]
obtain⟨y,d,rfl⟩:=mF.mp z
have:=h y d
lia)
inductive spVm(t:Adr)(vs:List V)(H:Hp)(Q:VK)(E:XK):Prop
|mk:∀x k sh sr s,∀n p:Int,vs=[.ref x.s,.int p,.int n]->XR t H x k sh sr s->(n,p)∈s.q.V->(s.lf=some 0->E (.ref t.C_PowerGone) none H)->(∀H',Same H H'->Q (.int (s.val p n)) H')->spVm t vs H Q E
theorem q1Z(T:tXx)(S:tFf):S.fU.OkE P w mg base 6 (spVm t):=by(
refine S.fU.F.okE q1W (λU H Q E h=>?_) (λaa A outer s H U Q E I h=>?_)
.repeat obtain⟨_,h⟩:=h
 all_goals subst_vars;rfl
obtain⟨x,k,sh,sr,s,n,p,rfl,j,hm,dk,kk⟩:=h
obtain⟨m,D,c,pg⟩:=j.e
refine⟨_,(qB (jC (qS zH (pv 2) (jT rfl T.aCN ⟨_,rfl⟩ (v:=.int 64)) (qV _)) (qC (qL (qU (q84 T S).mono I rfl T.aDG T.aDC S.aDW.b .nil qK (qA (qT (pv 0) T.eE T.aA0 (q0X T S).mono I S.o6.b .nil qK) qE)))) qQ) (qC (qL (j8 uD (jM qZ (qJ (pv 0) rfl) T.eG T.tH (zN T S).mono I S.o7.b .nil (qA (pv 1) qE)) qG (λz z=>rfl))))),?_⟩
try dsimp-beta-proj-iota-zeta-eta only[wishK,cxK]
refine⟨_,rfl,rfl,_,rfl,?_⟩
rw[q2C]
by_cases z:n=64
.rw[hC z];refine iteT ?_;refine(iV rfl (iM D.o rfl ⟨x,_,_,_,_,m,s.q,rfl,D,c.ft,hd64 j.w,λl ns H1 hn s1 n1 h1=>?_⟩));obtain rfl:=qH9 hn;obtain⟨en,lt⟩:=qJQ (qJP j.w);rw[en]at h1;refine⟨l,_,rfl,SqL.of h1,lt,?_⟩;have:=kk H1 s1;unfold XS.val at this;rw[kM z]at this;exact this
rw[hX z]
refine iteF ?_
obtain⟨b,f,v,Z,a2,d,a4,J⟩:=j.w.vl _ hm
have d:p=_:=d
obtain⟨tp,O,N⟩:=pg.v _ _ J
have hp:=(c.pgs Z a2).1
refine(iV rfl (iF D.o T.eE T.fG rfl (iM D.ch.ins rfl ⟨_,rfl,x.c,x.a,m,_,rfl,D.ch,c.ft.ok,by rw[d];lia,by rw[d];exact hp,λy=>dk (by rw[<-c.lf];exact y),λ_=>?_⟩)))
have:=kk H (Same.refl H)
unfold XS.val at this
rw[kI z]at this
rw[d,mB,O]
rw[d,mB,J]at this
exact(iT (k:=1) (v:=_) (SqT.of N) rfl this))
inductive spGa(f:Tl->Int)(vs:List V)(H:Hp)(Q:VK)(E_:XK):Prop
|mk:∀x a b p n A B,vs=[x,a,b,p,n]->TlAt H a A->TlAt H b B->Q (.bl (decide (f A<f B))) H->spGa f vs H Q E_
theorem q34(T:tXx)(S:tFf):S.iG.Ok0 P w mg base 1 (spGa Tl.lv):=by(
refine S.iG.F.ok0 q31 λz A U s H J Q E D h=>?_
obtain⟨x,a,b,p,n,A,B,rfl,⟨I,rfl,d⟩,⟨bd,rfl,hb⟩,q⟩:=h
refine⟨_,(qC (qL (uM q4J (j8 uD (pv 1) qG (λU U=>rfl)) (j8 uD (pv 2) qG (λU U=>rfl)) (qV _)))),?_⟩
try dsimp-beta-proj-iota-zeta-eta only[wishK,cxK]
exact⟨_,rfl,iT (k:=1) (v:=_) (SqT.of d) rfl ⟨_,rfl,iT (k:=1) (v:=_) (SqT.of hb) rfl (iI q)⟩⟩)
noncomputable def RuAt(t:Adr)(H:Hp)(r:Addr)(pg nw:Int)(f:Tl->Int):Prop:=(∃dx,H r=some (.ins t.C_Fewest dx [])/\f=Tl.lv)
inductive spUn(t:Adr)(K:W.Frag)(vs:List V)(H:Hp)(Q:VK)(E_:XK):Prop
|mk:∀r v l pg nw T us ts f,vs=[.ref r,v,.ref l,.int pg,.int nw]->RuAt t H r pg nw f->TlAt H v T->SqL K H l us->Tls H us ts->T.Ok pg nw->(∀o∈ts,o.Ok pg nw)->pg<=16->Q (.bl (unb f ts T)) H->spUn t K vs H Q E_
theorem q88(T:tXx)(S:tFf):S.aA3.Ok0 P w mg base 2 (spUn t K):=by(
refine S.aA3.F.ok0 q30 λap A _ s H vs Q E hr h=>?_
obtain⟨r,v,l,pg,nw,A,us,d,f,rfl,hR,hv,hl,I,oa,os,aq,q⟩:=h
obtain⟨va,rfl,ad⟩:=id hv
have af:=I.len
refine⟨_,(qB (vI wY rfl (jU (pv 2)) (jA (i:=5) q30.nd rfl (Or.inl rfl)) (qC (jC (PW.pt (q9S (qS (qI3 hr.units) (pv 5) (pv 1) (qV _)) (q6J (jS (qFT (jD (pv 0) T.aCM T.aA4 (q34 T S).mono hr S.iG.b .nil qK (qA (pv 5) (qA (pv 1) (qA (pv 3) (qA (pv 4) qE)))))))))) (qC (qL q3K)) qQ))) (qC (qL q3K))),?_⟩
try dsimp-beta-proj-iota-zeta-eta only[wishK,cxK]
refine⟨_,rfl,l,rfl,⟨us,hl⟩,?_⟩
refine uI (K:=K) (xs:=us) (λi U H2=>∃y,U=[some (.ref r),some (.ref va),some (.ref l),some (.int pg),some (.int nw),y]/\H2=H/\∀j,∀D:j<d.length,j<i->¬f d[j] <f A) ⟨_,rfl,rfl,λj d z=>absurd z (lC _)⟩ (λi U H2 hi J=>?_) (λi x U H2 hx J=>?_) (λU H2 J=>?_)
.obtain⟨y,rfl,rfl,_⟩:=J;exact hl
.obtain⟨y,rfl,rfl,Z⟩:=J;obtain⟨O,hO,ho⟩:=Paired.at I hx;obtain⟨xa,rfl,ae⟩:=id ho;have hi:i<d.length:=(kC.mp hO).1;obtain rfl:d[i]=O:=(kC.mp hO).2;have ok:(d[i]).Ok pg nw:=os _ (gL hi);refine⟨_,rfl,_,rfl,xa,va,(d[i]).ns,A.ns,rfl,rfl,SqT.of ae,SqT.of ad,rfl,_,rfl,?_⟩;by_cases e:(d[i]).ns=A.ns
 .rw[hC e];refine iteF (iteF ⟨_,rfl,rfl,λj D z=>?_⟩);by_cases ej:j=i
  .subst ej;rw[Tl.eq_of e];exact Int.lt_irrefl _
  exact Z j D (by lia)
 rw[hX e];refine iteT ?_;refine⟨λv' H'=>v'=.bl (decide (f d[i] <f A))/\H'=H2,?_,?_⟩
 .obtain⟨dx,N,rfl⟩:=hR;exact⟨_,rfl,r,dx,_,rfl,N,rfl,_,rfl,_,rfl,_,rfl,_,rfl,_,_,_,_,_,d[i],A,rfl,ho,hv,rfl,rfl⟩
 rintro v' H' ⟨rfl,rfl⟩
 refine⟨_,rfl,?_⟩;by_cases g:f d[i] <f A
 .rw[hC g];refine iteT ?_;have z:unb f d A=false:=by
   cases z:unb f d A with
   |false=>rfl
   |true=>exact absurd (q6P.mp z _ (gL hi)) (by lia)
  rw[z]at q;exact q
 rw[hX g];refine iteF ⟨_,rfl,rfl,λj D z=>?_⟩;by_cases ej:j=i
 .subst ej;exact g
 exact Z j D (by lia)
obtain⟨y,rfl,rfl,Z⟩:=J
have z:unb f d A=true:=q6P.mpr λo ho=>by obtain⟨j,D,rfl⟩:=rM ho;have:=Z j D (by lia);lia
rw[z]at q
exact q)
noncomputable def spFu(t:Adr)(K:W.Frag):Sp:=λvs H Q z=>∃r l pg nw us ts f,vs=[.ref r,.ref l,.int pg,.int nw]/\RuAt t H r pg nw f/\SqL K H l us/\Tls H us ts/\(∀o∈ts,o.Ok pg nw)/\pg<=16/\ts≠[]/\Q (.int (pk f ts)) H
theorem q56(T:tXx)(S:tFf):S.oN.Ok0 P w mg base 3 (spFu t K):=by(
refine S.oN.F.ok0 vG λal A _ s H vs Q E hr h=>?_
obtain⟨r,l,pg,nw,I,D,f,rfl,hR,hl,d,os,N,Z,q⟩:=h
have aa:=d.len
obtain⟨i,hi,hu,hn⟩:=q7I f D Z
have J:∀j,∀hj:j<D.length,∃x,I[j]?=some x/\TlAt H x D[j]:=λj hj=>by have e:I[j]?=some (I[j]'(by lia)):=kF (by lia);obtain⟨O,hO,ho⟩:=Paired.at d e;obtain rfl:D[j]=O:=(kC.mp hO).2;exact⟨_,e,ho⟩
refine⟨_,(qB (qP (i:=4) vG.nd rfl (Or.inl rfl) qG) (qB (q6Z wY (yU (jS (qU (q88 T S).mono hr rfl T.aDB T.aDA S.aA3.b .nil qK (qA (pv 0) (qA (j8 qY (pv 1) (pv 4) (λz z=>rfl)) (qA (pv 1) (qA (pv 2) (qA (pv 3) qE)))))))) (qC (qJY (i:=4) vG.nd rfl (Or.inl rfl) qG q6Y))) (qC (qL (j8 uD (j8 qY (pv 1) (pv 4) (λz z=>rfl)) qG (λz z=>rfl)))))),?_⟩
try dsimp-beta-proj-iota-zeta-eta only[wishK,cxK]
refine⟨λm ac H2=>H2=H/\∃p:Nat,ac=[some (.ref r),some (.ref l),some (.int pg),some (.int nw),some (.int p)]/\p<=i/\m=i-p,⟨i,rfl,0,rfl,m7 _,rfl⟩,?_⟩
rintro m ac H2 ⟨rfl,p,rfl,ag,rfl⟩
obtain⟨x,hx,tx⟩:=J p (by lia)
refine⟨_,rfl,_,rfl,_,rfl,l,I,p,x,rfl,rfl,hl,zJ hx,_,rfl,_,rfl,_,rfl,r,x,l,pg,nw,D[p],I,D,f,rfl,hR,tx,hl,d,os _ (gL _),os,N,?_⟩
by_cases e:p=i
.subst e;rw[hu];refine⟨_,rfl,iteF ?_⟩;obtain⟨xa,rfl,U⟩:=tx;refine⟨_,rfl,_,rfl,l,I,p,_,rfl,rfl,hl,zJ hx,iT (k:=0) (v:=_) (SqT.of U) rfl ?_⟩;rw[qJL hi hu hn]at q;exact q
rw[hn p (by lia)]
refine⟨_,rfl,iteT ⟨_,λ_ _ z=>z,?_⟩⟩
exact⟨_,rfl,iI ⟨i-(p+1),by lia,rfl,p+1,rfl,by lia,rfl⟩⟩)
theorem q89(T:tXx)(S:tFf):S.aAX.Ok0 P w mg base 4 (spFu t K):=by(
refine S.aAX.F.ok0 q7Y λN A U s H O Q E d h=>?_
obtain⟨r,l,pg,D,I,J,f,rfl,z⟩:=h
refine⟨_,(qC (qL (qU (q56 T S).mono d rfl T.aBS T.aBP S.oN.b .nil qK (qA (pv 0) (qA (pv 1) (qA (pv 2) (qA (pv 3) qE))))))),?_⟩
try dsimp-beta-proj-iota-zeta-eta only[wishK,cxK]
exact⟨_,rfl,_,rfl,_,rfl,_,rfl,r,l,pg,D,I,J,f,rfl,z⟩)
theorem qAP{H:Hp}{m:CM}{q:QM}:∀{rs:List V} {L:List Nat},Tys H m q rs L->Tls H rs (L.map (tlOf m q))
|_,_,.nil=>.nil
|_,_,.cons ⟨p,e,h⟩ r=>.cons ⟨p,e,h⟩ (qAP r)
noncomputable def RuX(t:Adr)(H:Hp)(r:Addr)(rl:List Addr):Rl->Prop
| .rk f=>(∃dx,H r=some (.ins t.C_Fewest dx [])/\f=λz z=>Tl.lv)
|_=>False
theorem RuX.ok{H:Hp}{r:Addr}{rl:List Addr}{g:Rl}(h:RuX t H r rl g):g.Ok:=by(
cases g with
|rk f=>trivial
|win m=>exact h.elim
|fol d u=>exact h.elim)
theorem RuX.map{H H':Hp}{r:Addr}{rl:List Addr}{g:Rl}(h:RuX t H r rl g)(h1:∀y∈r::rl,∀o,H y=some o->H' y=some o):RuX t H' r rl g:=by(
have h2:=h1
have h1:=h1 r kU
cases g with
|rk f=>obtain⟨dx,a,b⟩:=h;exact⟨dx,h1 _ a,b⟩
|win m=>exact h.elim
|fol d u=>exact h.elim)
theorem RuX.keep{H H':Hp}{r:Addr}{rl:List Addr}{F:List Addr}{g:Rl}(h:RuX t H r rl g)(k:Keep F H H')(n:∀y∈r::rl,y∉F):RuX t H' r rl g:=h.map λy hy o e=>k.k _ _ (n y hy) e
theorem RuX.ins{H:Hp}{r:Addr}{rl:List Addr}{g:Rl}(h:RuX t H r rl g):∃C d fs,H r=some (.ins C d fs):=by(
cases g with
|rk f=>obtain⟨dx,a,b⟩:=h;exact⟨_,_,_,a⟩
|win m=>exact h.elim
|fol z u=>exact h.elim)
inductive spCr(t:Adr)(K:W.Frag)(vs:List V)(H:Hp)(Q:VK)(E_:XK):Prop
|mk:∀x r2 r3 r4 r5 m q r rl g op rs ts,vs=[.ref x.s,.ref op]->StAt t H x r2 r3 r4 r5 m q->Fit m q->x.ru=.ref r->RuX t H r rl g->H op=some (.lst rs)->Tls H rs ts->ts≠[]->ts.length<=16->(∀o∈ts,o.Ok (q.P:Int) q.nx)->(∀a∈ts,∀c∈ts,a.b=c.b->a=c)->(∀p H',Keep [r] H H'->RuX t H' r rl (g.ch (q.P:Int) q.nx ts).2->H' p=some (.tup [.str "rule",.int (g.ch (q.P:Int) q.nx ts).1])->Q (.ref p) H')->spCr t K vs H Q E_
theorem q1C(T:tXx)(S:tFf):S.fQ.Ok0 P w mg base 5 (spCr t K):=by(
refine S.fQ.F.ok0 q18 λaf A _ s H vs Q E hr h=>?_
obtain⟨x,r2,r3,r4,r5,m,q,r,rl,g,Z,rs,ts,rfl,z,J,O,D,I,tl,ne,ae,ok,ad,k⟩:=h
have eP:=J.eP
have p1:=J.oq.p1
have p2:=J.oq.p2
have te:=z.te
rw[eP]at te
refine⟨_,(qC (qL (yX (qA yZ (qA (jD (qJ (pv 0) rfl) T.aCM T.aCR (q89 T S).mono hr S.aAX.b .nil qK (qA (pv 1) (qA (qJ (qJ (pv 0) rfl) rfl) (qA (qJ (qJ (pv 0) rfl) rfl) qE)))) qE))))),?_⟩
try dsimp-beta-proj-iota-zeta-eta only[wishK,cxK]
cases g with
|rk f=>
 have sz2:2<=sizeLine:=by decide
 obtain⟨dx,d,rfl⟩:=id D;exact(iV rfl (iF z.o T.eE T.iP rfl ⟨r,dx,_,O,d,rfl,_,rfl,iV rfl (iF z.o T.eE T.eO rfl (iF te T.eQ T.eT rfl (iV rfl (iF z.o T.eE T.eL rfl (iF z.bk.o T.eI T.fH rfl ⟨r,Z,_,_,rs,ts,_,(by rw[O];rfl),⟨dx,d,rfl⟩,SqL.of I,tl,ok,by lia,ne,sz2,λp H2 n2 N U=>k p H2 (Keep.same N) (D.keep (Keep.same N) (F:=[]) (by simp)) U⟩)))))⟩))
|win m=>exact D.elim
|fol ac u=>exact D.elim)
section
variable{H H':Hp}{x:Sto}{k:Tm}{sh sr:Int}{s:XS}{r:Addr}{rl:List Addr}{g:Rl}
theorem TbF.keepR(h:TbF t H){C d:Addr}{fs:List (Str×V)}(e:H r=some (.ins C d fs))(k:Keep [r] H H'):TbF t H':=by refine h.gen λb o to D=>k.k _ _ (λz=>yW to D e q1X (kE.mp z)) D
noncomputable def Off(t:Adr)(x:Sto)(R:List Addr):Prop:=∀y∈[x.s,x.tm]++(x.a.li::t.eC::t.eD::sf x),y∉R
theorem Off.n{R:List Addr}(o:Off t x R){y:Addr}(hy:y∈R):y∉t.eC::sf x:=λz=>o y (by simp at z ⊢;rcases z with z|z<;>simp[z]) hy
theorem XR.kR(j:XR t H x k sh sr s)(o:Off t x (r::rl))(kk:Keep [r] H H')(hR:RuX t H r rl g):XR t H' x k sh sr s:=by(
obtain⟨C,d,fs,e⟩:=hR.ins
refine j.keep kk (λy D z=>o y ?_ (by rw[kE.mp z];exact kU)) (j.tb.keepR e kk)
have D:y=x.s\/y=x.tm\/y=x.a.li\/y∈sf x:=by simpa using D
rcases D with h|h|h|h<;>simp[h])
theorem q35{H H':Hp}{F:List Addr}(k:Keep F H H'):∀{rs:List V} {ts:List Tl},Tls H rs ts->Tls H' rs ts
|_,_,.nil=>.nil
|_,_,.cons ⟨p,e,h⟩ r=>.cons ⟨p,e,k.tp _ _ h⟩ (q35 k r)
end
inductive spLs(t:Adr)(vs:List V)(H:Hp)(Q:VK)(E_:XK):Prop
|mk:∀x k sh sr s,vs=[.ref x.s]->XR t H x k sh sr s->(∀H',Same H H'->Q (.int s.lst) H')->spLs t vs H Q E_
theorem qLK{s:XS}{M:Int}(lc:s.cl.length=s.q.B)(b1:1<=s.q.B)(hM:M∈(List.range s.q.B).map λb=>s.cl.getD b 0)(le:∀a∈(List.range s.q.B).map λb=>s.cl.getD b 0,M<=a):M=s.lst:=by(
have d:((List.range s.q.B).map λb=>s.cl.getD b 0)=s.cl:=by rw[<-lc];refine dL (by simp) λi h1 h2=>?_;simp[kF h2]
rw[d]at hM le
obtain⟨m,e,h1,h2⟩:=qA5 (l:=s.cl) (λz=>by rw[z]at hM;cases hM)
unfold XS.lst
rw[e]
have:=h2 M hM
have:=le m h1
show M=m
lia)
theorem q8S(T:tXx)(S:tFf):S.aBM.Ok0 P w mg base 6 (spLs t):=by(
refine S.aBM.F.ok0 q8K λah A _ s H vs Q E Z h=>?_
obtain⟨x,k,sh,sr,s,rfl,j,kk⟩:=h
obtain⟨m,N,c,_⟩:=j.e
have b1:=c.ft.ok.bl1
have b2:=j.w.qs.ok.b2
have eB:=c.ft.eB
refine⟨_,(qC (qL (qIY rfl (by rfl) T.aFS qG (qA (uN ["self","block"] [0] rfl (jU (qT (pv 0) T.eE T.i4 (uL T S).mono Z S.iH.b .nil qK)) (λz z z z z=>(jA (i:=1) (show List.Nodup (["self","block"]:List Str)from by decide) rfl (Or.inl rfl))) (λz z z z z=>qD8) (λz z z z z=>(jD (uB (K:=K) rfl (pv 0) rfl) T.eG T.oY (zG T S).mono Z S.iO.b .nil qK (qA (pv 1) qE))) (by kernel_rfl) (yF (by decide))) qE)))),?_⟩
try dsimp-beta-proj-iota-zeta-eta only[wishK,cxK]
refine(iV rfl (iM N.o rfl ⟨x,_,_,_,_,m,s.q,rfl,N,c.ft,λp H1 n1 s1 h1=>?_⟩))
rw[c.br,yA]at h1
refine⟨p,rfl,⟨_,SqL.of h1⟩,λD H2 nD s2 hD=>?_⟩
refine qB8 (K:=K) (xs:=(List.range s.q.B).map vn) (D:=D) (λi d=>Same H1 d/\d D=some (.lst ((((List.range s.q.B).take i).map λb=>s.cl.getD b 0).map V.int))) ⟨s2,hD⟩ (λi d z=>SqL.of (z.1 _ _ h1)) (λi y d U z=>?_) (λd z=>?_)
.obtain⟨I,J⟩:=z;have O:=N.same (s1.trans I);rw[kZ]at U;obtain⟨b,hb,rfl⟩:=kP.mp U;obtain⟨hi,eb⟩:=kC.mp hb;have bB:b<s.q.B:=mO.mp (gD hb);refine(iV rfl (iF O.o T.eE T.fG rfl (iM O.ch.ins rfl ⟨_,rfl,x.c,x.a,m,_,rfl,O.ch,c.ft.ok,by lia,by lia,?_⟩)));rw[mB,c.cl];refine⟨_,J,?_,λb o e=>?_,?_⟩
 .rw[kB,kB,gX,mV];have:(16:Nat)<sizeLine:=by decide
  lia
 .rw[qD (qH e nD)];exact I _ _ e
 rw[qI,<-mQ hi,gA,gA,eb];rfl
obtain⟨I,J⟩:=z
rw[kB,gH]at J
refine⟨D,_,rfl,SqL.of J,λe=>?_,λM hM le=>?_⟩
.have e:(List.range s.q.B).map (λb=>s.cl.getD b 0)=[]:=by simpa using e
 have:=rL List.length e;rw[kB,mV]at this;simp at this;lia
rw[qLK j.w.lc (by lia) hM le]
exact kk d (s1.trans I))
inductive spCb(t:Adr)(vs:List V)(H:Hp)(Q:VK)(E_:XK):Prop
|mk:∀x k sh sr s p rs,∀L:List Nat,vs=[.ref x.s,.ref p]->XR t H x k sh sr s->H p=some (.lst rs)->Tls H rs (L.map s.tl)->L.length<=16->(∀p' rs' H',H p'=none->Same H H'->H' p'=some (.lst rs')->Tls H' rs' ((s.clb k L).map s.tl)->Q (.ref p') H')->spCb t vs H Q E_
theorem q0F(T:tXx)(S:tFf):S.iK.Ok0 P w mg base 7 (spCb t):=by(
refine S.iK.F.ok0 q0E λao A _ s H vs Q E hr h=>?_
obtain⟨x,k,sh,sr,s,p,rs,L,rfl,j,U,ty,an,kk⟩:=h
have sz:(16:Nat)<sizeLine:=by decide
refine⟨_,(qB (qP (i:=2) q0E.nd rfl (Or.inr rfl) (qN uZ (qT (pv 0) T.eE T.aEC (q8S T S).mono hr S.aBM.b .nil qK) (qJ (qJ (pv 0) rfl) rfl))) (qC (qL (uN ["bound","tally"] [2] rfl (jU (pv 1)) (λz z z z z=>(jA (i:=1) (show List.Nodup (["bound","tally"]:List Str)from by decide) rfl (Or.inl rfl))) (λz z z z z=>(uA (qS q4J (j8 (q4R (K:=K) rfl) (pv 1) qG (λz z=>rfl)) (pv 0) (qV _)))) (λz z z z z=>(pv 1)) (by kernel_rfl) (yF (by decide)))))),?_⟩
try dsimp-beta-proj-iota-zeta-eta only[wishK,cxK]
refine(iV rfl (iM j.o rfl ⟨x,k,sh,sr,s,rfl,j,λH1 O=>?_⟩))
obtain⟨m,h1,c,_⟩:=(j.same O).e
refine(iV rfl (iF h1.o T.eE T.eO rfl (iF h1.te T.eQ T.tY rfl (iI ?_))))
refine⟨_,rfl,p,rfl,⟨_,SqL.of (O _ _ U)⟩,λD H2 nD s2 hD=>?_⟩
have ac:=ty.same O
unfold XS.clb at kk
refine v4 (K:=K) (xs:=rs) (D:=D) (λi N=>∃d,Same H1 N/\N D=some (.lst d)/\d.length<=i/\Tls H1 d (((L.take i).filter λb=>decide (s.cl.getD b 0<s.lst+k.sp)).map s.tl)) ⟨_,s2,hD,kO _,.nil⟩ (λi N Z=>by obtain⟨_,J,_⟩:=Z;exact SqL.of (J _ _ (O _ _ U))) (λi y N hy Z=>?_) (λN Z=>?_)
.obtain⟨d,J,hd,ln,I⟩:=Z;obtain⟨o,ho,tp,rfl,aa⟩:=Paired.at ac hy;rw[kZ]at ho;obtain⟨b,hb,rfl⟩:=kP.mp ho;have hi:=(kC.mp hb).1;obtain rfl:L[i]=b:=(kC.mp hb).2;refine⟨_,rfl,iT (k:=_) (v:=_) (SqT.of (J _ _ aa)) rfl ⟨_,rfl,iI ⟨_,rfl,?_⟩⟩⟩;rw[qBZ hi];have e2:(s.tl L[i]).cl=s.cl.getD L[i] 0:=rfl;by_cases z:s.cl.getD L[i] 0<s.lst+k.sp
 .rw[hC (show(s.tl L[i]).cl<s.lst+k.sp from z),hC z,kM rfl,gA];refine iteT ?_;refine⟨_,rfl,_,hd,by lia,_,λb o e=>?_,qI,?_,L2.Paired.snoc I ⟨tp,rfl,aa⟩⟩
  .rw[qD (qH e nD)];exact J _ _ e
  rw[mH];exact pT ln 1
 rw[hX (show ¬(s.tl L[i]).cl<s.lst+k.sp from z),hX z,kI (by decide),gT];exact iteF ⟨_,J,hd,by lia,I⟩
obtain⟨d,J,hd,ln,I⟩:=Z
have lr:=ty.len
rw[kB]at lr
rw[lr,gH]at I
exact kk D d N (O.free nD) (O.trans J) hd (I.same J))
inductive spOpE(t:Adr)(vs:List V)(H:Hp)(Q:VK)(E_:XK):Prop
|mk:∀x k sh sr s,vs=[.ref x.s]->XR t H x k sh sr s->k.ev=true->(∀p rs H',H p=none->XR t H' x k sh sr s->Keep [t.eC] H H'->H' p=some (.lst rs)->Tls H' rs (s.ots k)->Q (.ref p) H')->spOpE t vs H Q E_
theorem XR.opts{H:Hp}{x:Sto}{k:Tm}{sh sr:Int}{s:XS}(j:XR t H x k sh sr s)(ev:k.ev=true){Q:VK}{E:XK}(kk:∀p rs H',H p=none->XR t H' x k sh sr s->Keep [t.eC] H H'->H' p=some (.lst rs)->Tls H' rs (s.ots k)->Q (.ref p) H'):spOpE t [.ref x.s] H Q E:=⟨x,k,sh,sr,s,rfl,j,ev,kk⟩
theorem qHA{k:Tm}{s:XS}(h:WX k s):(s.ded k).length<=16/\(s.ful k).length<=16:=by
 have d:=h.qs.ok.b2;have:(s.ful k).length<=16:=by unfold XS.ful;refine mL (mJ _ _) ?_;rw[mV];exact d
 exact⟨mL (mJ _ _) this,this⟩
theorem qJ5{H H':Hp}{p:Addr}(k1:Keep [t.eC] H H')(tb:TbF t H')(np:H' p=none):H p=none:=by(
refine k1.none (λz=>?_) np
obtain⟨D,d,_⟩:=tb
rw[kE.mp z,d]at np
cases np)
theorem q24(T:tXx)(S:tFf)(B:BmIn base mg):S.oG.Ok0 P w mg base 12 (spOpE t):=by(
refine S.oG.F.ok0 q69 λac A _ s H vs Q E O h=>?_
obtain⟨x,k,sh,sr,s,rfl,j,ev,kk⟩:=h
refine⟨_,(qC (qL (jD (pv 0) T.eE T.tP (q0F T S).mono O S.iK.b .nil qK (qA (qT (pv 0) T.eE T.aAC (q1B T S B).mono O S.fR.b .nil qK) qE)))),?_⟩
try dsimp-beta-proj-iota-zeta-eta only[wishK,cxK]
obtain⟨m,z,c,_⟩:=j.e
refine(iV rfl (iM z.o rfl (iV rfl (iM z.o rfl ⟨x,_,_,_,m,s.q,_,rfl,z,c.ft,λl p rs H1 hl np N d h1 ty=>?_⟩))))
have U:=j.kT N d
have ty:=qAP ty
rw[c.br,c.cl]at hl
rw[qGV j.w c.br hl,qJN c.cl]at ty
refine⟨x,k,sh,sr,s,p,rs,s.ded k,rfl,U,h1,ty,(qHA j.w).1,λp' J H2 I Z h2 D=>?_⟩
refine kk p' J H2 (qJ5 N d I) (U.same Z) (N.trans (Keep.same Z)) h2 ?_
unfold XS.ots XS.opt
rw[ev]
exact D)
theorem qMP:FnScope ["tally"] ["tally"] lbSc:=⟨rfl,rfl,rfl,by decide+kernel,rfl,by decide+kernel,by decide+kernel⟩
inductive spLb(g c:Addr)(pm ct:Value)(vs:List V)(H:Hp)(Q:VK)(E_:XK):Prop
|mk:∀v T,vs=[v]->TlAt H v T->H g=some (fnO g (lbFd pm ct c))->H c=some (cdO c lbQ)->NewO H (.tup [.int (Tl.cl T),.int (Tl.b T)]) Q->spLb g c pm ct vs H Q E_
theorem qMQ{g c:Addr}{pm ct:Value}{bs:Heap}:FnOk P w K mg bs CX0 1 g (lbFd pm ct c) ["tally"] (spLb g c pm ct):=by(
refine qL7 (k:=0) qMP (λz H Q E h=>?_) (λz H Q E h=>?_) (λA outer s H z Q E D h=>?_)
.repeat obtain⟨_,h⟩:=h
 all_goals subst_vars;rfl
.obtain⟨v,T,rfl,_,a,b,_⟩:=h;exact⟨a,b⟩
obtain⟨v,T,rfl,⟨I,rfl,d⟩,_,_,q⟩:=h
refine⟨_,yX (qA (j8 uD (pv 0) qG (λU U=>rfl)) (qA (j8 uD (pv 0) qG (λU U=>rfl)) qE)),?_⟩
exact⟨_,rfl,iT (k:=2) (v:=_) (SqT.of d) rfl ⟨_,rfl,iT (k:=0) (v:=_) (SqT.of d) rfl ⟨sz2,q⟩⟩⟩)
theorem qHB{c:Addr}{pm ct:Value}:jQ K (lbFd pm ct c) ["tally"] []:=jQ.all λus hl=>match us,hl with| [_],_=>rfl
theorem qJ6{H:Hp}(h:TbB t H):∃ps,H t.eD=some (.tbl ps)/\TriplesOk ps.toList/\((codeAmong lbP ps.toList=none/\∀c H',H' t.eD=some (.tbl (ps++triB c))->H' c=some (cdO c lbQ)->TbB t H')\/∃c,codeAmong lbP ps.toList=some (.ref c)/\H c=some (cdO c lbQ)):=by(
obtain⟨ps,hT,h⟩:=h
rcases h with rfl|⟨c,rfl,a⟩
.exact⟨_,hT,trivial,.inl ⟨rfl,λc H' z d=>⟨_,z,.inr ⟨c,rfl,d⟩⟩⟩⟩
exact⟨_,hT,trivial,.inr ⟨c,rfl,a⟩⟩)
theorem qJ7{cl:List Int}{L:List Nat}{i:Nat}(pw:L.Pairwise (· < ·))(hi:i<L.length)(h:∀j,j<L.length->lx (keyN cl (L.getD j 0)) (keyN cl (L.getD i 0))=false):minF cl L=some (L.getD i 0):=by(
have gd:∀{j},(d:j<L.length)->L.getD j 0=L[j]:=fun {j} d=>by rw[kL,kF d];rfl
obtain⟨h1,h2⟩:=q3C (cl:=cl) pw
cases z:minF cl L with
|none=>rw[h1 z]at hi;cases hi
|some b=>
 obtain⟨N,J⟩:=h2 b z;obtain⟨j,d,rfl⟩:=rM N;have D:=h j d;have I:=J (L.getD i 0) (by rw[gd hi];exact gL hi);rw[gd d]at D;have e:=q5E _ _ D I;unfold keyN at e;injection e with _ e
 injection e with e _
 rw[show L[j]=L.getD i 0 by lia])
theorem qLL{k:Tm}{s:XS}:(s.clb k (s.ful k)).Pairwise (· < ·):=by unfold XS.clb XS.ful;exact(dP.filter _).filter _
theorem qE3{kn:Nat}{cells:List (Str×Addr)}{σ:St}{H4:Hp}{D f c':Addr}{k:Tm}{s:XS}{rs:List V}{L:List Nat}{pm ct:Value}{Q:VK}(hk:1<=kn)(ne:L≠[])(pw:L.Pairwise (· < ·))(hD:H4 D=some (.lst rs))(ty:Tls H4 rs (L.map s.tl))(hf:H4 f=some (fnO f (lbFd pm ct c')))(hc:H4 c'=some (cdO c' lbQ))
 (kk:∀b v H',minF s.cl L=some b->Same H4 H'->TlAt H' v (s.tl b)->Q v H'):
 ∃(f':Addr) (fd:FuncData) (sp:Heap->Sp),V.ref f=.ref f'/\(∀base',(∀b o,base.get? b=some o->base'.get? b=some o)->q2E cells σ base' []->FnOk P w K mg base' CX0 kn f' fd ["tally"] (sp base'))/\jQ K fd ["tally"] []/\∃(l:Addr) (us:List V) (kf:Nat->List Int) (Pv:Nat->List V->Hp->Prop),[V.ref D]=[.ref l]/\0<us.length/\Pv 0 [] H4/\(∀i zs H',Pv i zs H'->SqL K H' l us/\zs.length=i/\KeyI K kf H' zs)/\(∀base' i x zs H',q2E cells σ base' []->us[i]?=some x->Pv i zs H'->sp base' [x] H' (λz H''=>Pv (i+1) (zs++[z]) H'') E0)/\∀i zs H',i<us.length->(∀j,j<us.length->lx (kf j) (kf i)=false)->Pv us.length zs H'->Q (us.getD i .non) H':=by(
have ln:=ty.len
rw[kB]at ln
refine⟨f,lbFd pm ct c',λF=>spLb f c' pm ct,rfl,λF F F=>qMQ.mono hk,qHB,D,rs,λj=>keyN s.cl (L.getD j 0),λi zs H'=>Same H4 H'/\i<=L.length/\Paired (TupD H') zs ((L.take i).map (keyN s.cl)),rfl,by have:=xB.mpr ne;lia,⟨Same.refl H4,m7 _,.nil⟩,λi zs H' N=>?_,λbase' i y zs H' F hy N=>?_,λi zs H' S hm N=>?_⟩
.obtain⟨d,le,J⟩:=N;have lz:=J.len;rw[kB,gX]at lz;refine⟨SqL.of (d _ _ hD),by lia,λj z hz=>?_⟩;have hj:=(kC.mp hz).1;obtain⟨kv,hk,U,rfl,ab⟩:=Paired.at J hz;rw[kZ,List.getElem?_take,kM (by lia)]at hk;obtain⟨b,I,rfl⟩:=kP.mp hk;show TupI K H' (V.ref U) (keyN s.cl (L.getD j 0));rw[kL,I];exact⟨U,rfl,SqT.of ab⟩
.obtain⟨d,le,J⟩:=N;obtain⟨o,O,Z⟩:=Paired.at ty hy;rw[kZ]at O;obtain⟨b,I,rfl⟩:=kP.mp O;have S:=(kC.mp I).1;refine⟨y,s.tl b,rfl,Z.same d,d _ _ hf,d _ _ hc,λU H5 ah s5 e5=>⟨d.trans s5,S,?_⟩⟩;rw[q9K (f:=keyN s.cl) I];exact L2.Paired.snoc (u7 J s5) ⟨U,rfl,e5⟩
obtain⟨d,le,J⟩:=N
have aa:i<L.length:=by lia
obtain⟨o,O,Z⟩:=Paired.at ty (kF S)
rw[kZ]at O
obtain⟨b,I,rfl⟩:=kP.mp O
have e:L.getD i 0=b:=by rw[kL,I];rfl
have:=qJ7 (cl:=s.cl) pw aa (λj hj=>hm j (by lia))
rw[e]at this
refine kk b _ H' this d ?_
rw[kL,kF S]
exact Z.same d)
inductive spBc(t:Adr)(vs:List V)(H:Hp)(Q:VK)(E:XK):Prop
|mk:∀x k sh sr s,vs=[.ref x.s]->XR t H x k sh sr s->k.ev=true->(match s.chg k with
|none=>∀H',XR t H' x k sh sr s->Keep [t.eC] H H'->E (.ref t.C_NoRoom) none H'
|some b=>∀H',XR t H' x k sh sr s->Keep [t.eC,t.eD] H H'->Q (.int (b:Int)) H')->spBc t vs H Q E
theorem q1D(T:tXx)(S:tFf)(B:BmIn base mg):FnOk P w K mg base (CXe P w) 11 t.f_Even_block_to_change S.fI ["self"] (spBc t):=by(
refine S.tS.okE uX (λvs H Q E h=>?_) (λA outer s H vs Q E hr h=>?_)
.repeat obtain⟨_,h⟩:=h
 all_goals subst_vars;rfl
obtain⟨x,k,sh,sr,s,rfl,j,ev,kk⟩:=h
refine⟨_,(qB (qP (i:=1) uX.nd rfl (Or.inl rfl) (jD (pv 0) T.eE T.tP (q0F T S).mono hr S.iK.b .nil qK (qA (qT (pv 0) T.eE T.tO (q06 T S B).mono hr S.iB.b .nil qK) qE))) (qB (jC (qS (q7G hr.units) (pv 1) (jO qE) (qV _)) (qC (q4O qZ rfl rfl T.aFF T.aFN (qA yZ qE))) qQ) (qC (qL (j8 uD (qFT (qJ2 (k:=9) (x:="tally") [] (by intro p hp;cases hp) rfl hr.units hr (by rfl) T.aFS (qDL (clos:=[]) rfl T.tJ B rfl rfl) (qA (pv 1) qE))) qG (λF F=>rfl)))))),?_⟩
try dsimp-beta-proj-iota-zeta-eta only[wishK,cxK]
obtain⟨m,hs,c,_⟩:=j.e
refine(iV rfl (iM hs.o rfl (iV rfl (iM hs.o rfl ⟨x,_,_,_,m,s.q,_,rfl,hs,c.ft,λl p rs H1 hl np k1 al h1 ty=>?_⟩))))
have j1:=j.kT k1 al
have ty:=qAP ty
rw[c.br,c.cl]at hl
rw[c.br,qGU j.w hl,qJN c.cl]at ty
refine⟨x,k,sh,sr,s,p,rs,s.ful k,rfl,j1,h1,ty,(qHA j.w).2,λp' am H2 bj s2 h2 ax=>?_⟩
have j2:=j1.same s2
have k2:Keep [t.eC] H H2:=k1.trans (Keep.same s2)
refine⟨_,rfl,sz0,λe6 U n6 s6 h6=>⟨p',_,e6,rfl,rfl,SqL.of (s6 _ _ h2),SqL.of h6,_,rfl,?_⟩⟩
have k6:Keep [t.eC] H U:=k2.trans (Keep.same s6)
have j6:=j2.same s6
have I:=ax.same s6
have N:=s6 _ _ h2
have ln:=I.len
rw[kB]at ln
have pw:=qLL (k:=k) (s:=s)
unfold XS.chg at kk
generalize s.clb k (s.ful k)=L at kk I ln pw
cases am with
|nil=>obtain rfl:L=[]:=pU ln.symm;exact iteT ⟨sz1,kk U j6 k6⟩
|cons u us=>
 have ne:L≠[]:=λz=>by rw[z]at ln;cases ln
 refine iteF ?_;obtain⟨J,eJ⟩:∃J:VK,J=λv d=>∃tp b,v=.ref tp/\d tp=some (.tup ((s.tl b).ns.map V.int))/\minF s.cl L=some b/\XR t d x k sh sr s/\Keep [t.eC,t.eD] H d:=⟨_,rfl⟩;refine⟨J,?_,?_⟩
 .refine⟨_,rfl,?_⟩;obtain⟨pf,ao,ak,tB⟩:=j6.tb;obtain⟨ps,hT,ht,aq⟩:=qJ6 tB;have nT:p'≠t.eD:=λz=>by rw[z,hT]at N;cases N
  refine⟨ps,hT,ht,?_⟩;have fin:∀b v D d,Keep [t.eC,t.eD] U D->XR t D x k sh sr s->minF s.cl L=some b->Same D d->TlAt d v (s.tl b)->J v d:=λb v D d k4 j4 e O Z=>by obtain⟨tp,rfl,h5⟩:=Z;rw[eJ];exact⟨tp,b,rfl,h5,e,j4.same O,((k6.mono (by simp)).trans k4).trans (Keep.same O)⟩
  rcases aq with⟨hn,tb⟩|⟨c0,hn,hc0⟩
  .refine .inl ⟨hn,λf c' au D nf hf af ay kp=>?_⟩;have a0:t.eC≠t.eD:=T.aAK;have k4:Keep [t.eC,t.eD] U D:=⟨λb o nb e=>kp b o (λz=>nb (by rw[z];simp)) e,λb xs e=>kp b _ (λz=>by rw[z,hT]at e;cases e) e⟩;have av:Keep [t.eD] U D:=⟨λb o nb e=>kp b o (λz=>nb (by rw[z];simp)) e,k4.tp⟩;have an:TbF t D:=by
    refine⟨pf,kp _ _ a0 ao,?_,tb c' D ay af⟩;rcases ak with z|⟨c1,z,a⟩
    .exact .inl z
    exact .inr ⟨c1,z,kp _ _ (λz=>by rw[z,hT]at a;cases a) a⟩
   obtain⟨m6,ar,_⟩:=j6.e;have j4:=j6.keep av (λb hb z=>ar.nX hT (.inl ⟨_,rfl⟩) (by rw[<-kE.mp z];exact hb)) an;exact qE3 (k:=k) (s:=s) (show 1<=11-2 by decide) ne pw (kp _ _ nT N) (Paired.mapP I λv o ⟨a,e,z⟩=>⟨a,e,k4.tp _ _ z⟩) hf af λb v d e O Z=>fin b v D d k4 j4 e O Z
  refine .inr ⟨c0,hn,λf au D nf hf s4=>?_⟩;exact qE3 (k:=k) (s:=s) (show 1<=11-2 by decide) ne pw (s4 _ _ N) (I.same s4) hf (s4 _ _ hc0) λb v d e O Z=>fin b v D d (Keep.same s4) (j6.same s4) e O Z
 rw[eJ];rintro v d ⟨tp,b,rfl,h5,e,j5,k5⟩
 rw[e]at kk;exact(iT (k:=0) (v:=_) (SqT.of h5) rfl (kk d j5 k5)))
inductive spCh(t:Adr)(vs:List V)(H:Hp)(Q:VK)(E:XK):Prop
|mk:∀x k sh sr s r rl g,vs=[.ref x.s]->XR t H x k sh sr s->k.ev=true->x.ru=.ref r->RuX t H r rl g->Off t x (r::rl)->s.rc.length<1000000->(match s.tk k g with
|none=>∀H',XR t H' x k sh sr s->Keep [t.eC] H H'->E (.ref t.C_NoRoom) none H'
|some (y,b,g')=>∀p H',Keep [t.eC,t.eD,r] H H'->XR t H' x k sh sr s->RuX t H' r rl g'->H' p=some (.tup [.str y,.int (b:Int)])->Q (.ref p) H')->spCh t vs H Q E
theorem q8A(T:tXx)(S:tFf)(B:BmIn base mg):S.aAZ.OkE P w mg base 13 (spCh t):=by(
refine S.aAZ.F.okE q2Y (λvs H Q E h=>?_) (λau A outer s H vs Q E U h=>?_)
.repeat obtain⟨_,h⟩:=h
 all_goals subst_vars;rfl
obtain⟨x,k,sh,sr,s,r,rl,g,rfl,j,ev,er,hR,of,rc,kk⟩:=h
refine⟨_,(qB (qP (i:=1) q2Y.nd rfl (Or.inl rfl) (qT (pv 0) T.eE T.aAL (q24 T S B).mono U S.oG.b .nil qK)) (qB (jC (qS (q7G U.units) (pv 1) (jO qE) (qV _)) (qC (qL (yX (qA yZ (qA (uV qZ (pv 0) T.eE T.tT (q1D T S B).mono U S.tR .nil) qE))))) qQ) (qC (qL (jD (pv 0) T.eE T.aAB (q1C T S).mono U S.fQ.b .nil qK (qA (pv 1) qE)))))),?_⟩
try dsimp-beta-proj-iota-zeta-eta only[wishK,cxK]
refine(iV rfl (iM j.o rfl ?_))
dsimp only[tNil,dY]
refine j.opts ev λp rs H1 np j1 k1 h1 ty=>?_
refine⟨_,rfl,sz0,λe6 H6 n6 O h6=>⟨p,_,e6,rfl,rfl,SqL.of (O _ _ h1),SqL.of h6,_,rfl,?_⟩⟩
have k6:Keep [t.eC] H H6:=k1.trans (Keep.same O)
have j6:=j1.same O
have ln:=ty.len
unfold XS.tk at kk
cases rs with
|nil=>
 have e0:s.opt k=[]:=p9.mp (pU ln.symm);rw[kM e0,ev,kM rfl]at kk;refine iteT ?_;refine(iV rfl (iM j6.o rfl ⟨x,k,sh,sr,s,rfl,j6,ev,?_⟩));have oT:=of t.eC (by simp);have oB:=of t.eD (by simp);cases z:s.chg k with
 |none=>rw[z]at kk;exact λZ j7 D=>kk Z j7 (k6.trans D)
 |some b=>
  rw[z]at kk;refine λZ j7 D=>⟨sz2,λtp H8 n8 s8 h8=>?_⟩;have k8:Keep [t.eC,t.eD] H H8:=((k6.mono (by simp)).trans D).trans (Keep.same s8);refine kk tp H8 (k8.mono (by intro y d;simp at d ⊢;rcases d with e|e<;>simp[e])) (j7.same s8) (hR.keep k8 λy d z=>?_) h8;have z:y=t.eC\/y=t.eD:=by simpa using z
  rcases z with z|z
  .exact oT (by rw[<-z];exact d)
  exact oB (by rw[<-z];exact d)
|cons u us=>
 have ne:s.opt k≠[]:=λz=>by unfold XS.ots at ln;rw[z]at ln;cases ln
 rw[kI ne]at kk;refine iteF ?_;obtain⟨m,I,c,_⟩:=j6.e;have oT:=of t.eC (by simp);have N:=hR.keep k6 (λy d z=>oT (by rw[<-kE.mp z];exact d));have J:s.ots k≠[]:=λz=>ne (p9.mp z);have ad:∀o∈s.ots k,o.Ok (s.q.P:Int) s.q.nx:=λo ho=>by obtain⟨b,hb,rfl⟩:=mF.mp ho;exact qMK j.w rc (vT.mp hb).1.1.b
 refine(iV rfl (iM I.o rfl ⟨_,rfl,x,_,_,_,_,m,s.q,r,rl,g,p,_,_,rfl,I,c.ft,er,N,O _ _ h1,ty.same O,J,by unfold XS.ots;rw[kB];exact qLG j.w,ad,qIQ,λpp Z D af h7=>?_⟩));have cm:=qGX (pg:=(s.q.P:Int)) (nw:=s.q.nx) hR.ok J;refine kk pp Z ((k6.mono (by simp)).trans (D.mono (by simp))) (j6.kR of D N) af ?_;rw[h7];obtain⟨b,hb,e⟩:=mF.mp cm;obtain⟨c',_,rfl⟩:=mF.mp hb;have e:(c':Int)=(g.ch (s.q.P:Int) s.q.nx (s.ots k)).1:=e;rw[<-e,mB])
inductive spPp(K:W.Frag)(vs:List V)(H:Hp)(Q:VK)(E_:XK):Prop
|mk:∀wy bl wi l1 l2 rs us,vs=[wy,.ref l1,bl,.ref l2,wi]->H l1=some (.lst rs)->H l2=some (.lst us)->(∀pa a1 a2 H',Same H H'->H pa=none->H a1=none->H a2=none->H' pa=some (.tup [wy,.ref a1,bl,.ref a2,wi])->H' a1=some (.lst rs)->H' a2=some (.lst us)->Q (.ref pa) H')->spPp K vs H Q E_
theorem q65(T:tXx)(S:tFf):S.aCC.Ok0 P w mg base 1 (spPp K):=by(
refine S.aCC.F.ok0 qBR λac A _ s H vs Q E hr h=>?_
obtain⟨wy,bl,wi,l1,l2,rs,us,rfl,h1,h2,k⟩:=h
refine⟨_,(qC (qL (yX (qA (pv 0) (qA (vJ yT (by rfl) T.aDE (by kernel_rfl) (qA (pv 1) qE)) (qA (pv 2) (qA (vJ yT (by rfl) T.aDE (by kernel_rfl) (qA (pv 3) qE)) (qA (pv 4) qE)))))))),?_⟩
try dsimp-beta-proj-iota-zeta-eta only[wishK,cxK]
refine⟨_,rfl,_,rfl,l1,rs,rfl,.inl (SqL.of h1),λa1 H1 N d O=>?_⟩
refine⟨_,rfl,_,rfl,l2,us,rfl,.inl (SqL.of (d _ _ h2)),λa2 H2 n2 D I=>?_⟩
refine⟨_,rfl,sz5,λZ J U z e3=>?_⟩
exact k Z a1 a2 J ((d.trans D).trans z) ((d.trans D).free U) N (d.free n2) e3 (z _ _ (D _ _ O)) (z _ _ I))
theorem qJ8{s:XS}{k:Tm}{b:Nat}{rs:List (List Int)}(w:WX k s)(pm:rs.Perm (lpK s.q.P b s.q.V))(so:rs.Pairwise λa b=>lx b a=false):rs=lvP s.q.P b s.q.V:=by(
refine qIP w.qs.ok.p1 w.pd ?_ (λkk=>?_) so
.refine pm.nodup_iff.mpr ?_;unfold lpK;refine gN.mpr (((gN.mp w.qs.ok.nd).imp fun {a c} hne z=>hne ?_).filter _);injection z with _ z
 injection z with z _
rw[pm.mem_iff]
unfold lpK
rw[mF]
constructor
.rintro⟨y,hy,rfl⟩
 obtain⟨d,D⟩:=mK.mp hy;exact⟨y.1,y.2,rfl,d,mI D⟩
rintro⟨n,p,rfl,d,D⟩
exact⟨(n,p),mK.mpr ⟨d,hC D⟩,rfl⟩)
inductive spMv(t:Adr)(vs:List V)(H:Hp)(Q:VK)(E:XK):Prop
|mk:∀x k sh sr s,∀b:Nat,vs=[.ref x.s,.int (b:Int)]->XR t H x k sh sr s->Full k s b->s.rc.length+100<1000000->(match XS.mvs (lvP s.q.P b s.q.V) s with
|(s',none)=>∀H',XR t H' x k sh sr s'->Keep (t.eC::sf x) H H'->E (.ref t.C_PowerGone) none H'
|(s',some ms)=>∀ml us H',XR t H' x k sh sr s'->H ml=none->H' ml=some (.lst us)->Paired (TupD H') us ms->Mvd k s b s' (lvP s.q.P b s.q.V).length->(∀y∈s'.q.V,¬y.2 / (s'.q.P:Int)=(b:Int))->Keep (t.eC::sf x) H H'->Q (.ref ml) H')->spMv t vs H Q E
theorem q8B(T:tXx)(S:tFf)(B:BmIn base mg):S.aA5.OkE P w mg base 13 (spMv t):=by(
refine S.aA5.F.okE vF (λvs H Q E h=>?_) (λbr A outer s H vs Q E hr h=>?_)
.repeat obtain⟨_,h⟩:=h
 all_goals subst_vars;rfl
obtain⟨x,k,sh,sr,s,b,rfl,j,fl,rc,kk⟩:=h
have s9:(99999:Nat)<sizeLine:=by decide
have a2:=fl.sp j.w
have l6:=j.w.l6
refine⟨_,(qB (qP (i:=2) vF.nd rfl (Or.inl rfl) (jO qE)) (qB (vI dC rfl (jU (jD (qJ (pv 0) rfl) T.eI T.aBQ (q4C T S).mono hr S.oA.b .nil qK (qA (pv 1) qE))) (q59 rfl (yS (jA (i:=3) vF.nd rfl (Or.inl rfl)) (yS (jA (i:=4) vF.nd rfl (Or.inl rfl)) q36))) (qC (qX (qD6 wO wI wJ q0Y (pv 2) (qA (yX (qA (pv 4) (qA (pv 3) (qA (jM qZ (pv 0) T.eE T.aBJ (q32 T S B).mono hr S.aA7.b .nil (qA (pv 4) (qA (jM qZ (pv 0) T.eE T.aAJ (q1Z T S).mono hr S.fU.b .nil (qA (pv 3) (qA (pv 4) qE))) qE))) qE)))) qE q4P))))) (qC (qL (pv 2))))),?_⟩
try dsimp-beta-proj-iota-zeta-eta only[wishK,cxK]
refine⟨sz0,λU H1 n1 s1 h1=>?_⟩
obtain⟨m,ad,c,_⟩:=(j.same s1).e
refine(iV rfl (iF ad.o T.eE T.eL rfl (iM ad.bk.o rfl ⟨_,rfl,x.k,s.q,b,rfl,ad.bk,j.w.qs.ok,by lia,λll ps rs H2 s2 n2 h2 af pm so=>?_⟩)))
obtain rfl:=qJ8 j.w pm so
have N:=s1.trans s2
have ai:=j.off n1
have a6:=(j.same s1).off n2
have a4:ll≠U:=(qH h1 n2).symm
have a7:=af.len
have lr:(lvP s.q.P b s.q.V).length<=16:=by have:=j.w.qs.ok.p2;unfold lvP;refine mL (rG _ _) ?_;rw[mV];exact this
refine⟨ll,rfl,⟨_,SqL.of h2⟩,?_⟩
refine uI (K:=K) (xs:=ps) (λi ax H'=>∃y3 y4 J s' ms,ax=[some (.ref x.s),some (.int (b:Int)),some (.ref U),y3,y4]/\XR t H' x k sh sr s'/\MvI k s b (lvP s.q.P b s.q.V) i s' ms/\H' U=some (.lst J)/\Paired (TupD H') J ms/\Keep (U::t.eC::sf x) H2 H') ⟨_,_,[],s,[],rfl,j.same N,MvI.zero j.w fl.f,s2 _ _ h1,.nil,Keep.refl⟩ (λi ax H' hi hp=>?_) (λi v ax H' hv hp=>?_) (λax H' hp=>?_)
.obtain⟨y3,y4,J,s',ms,rfl,j',I,O,pr,D⟩:=hp;refine SqL.of (D.k _ _ (λz=>?_) h2);rcases kN.mp z with e|e
 .exact a4 e
 exact a6 e
.obtain⟨y3,y4,J,s',ms,rfl,j',I,O,pr,D⟩:=hp;obtain⟨kv,hk,tp,rfl,a5⟩:=Paired.at af hv;obtain⟨hi,ah⟩:=kC.mp hk;obtain⟨n,p,er,ao,n0,a1⟩:=I.at hi;rw[er]at ah;subst ah;have an:=D.tp _ _ a5;have bu:=I.rc;have bx:=I.rm;have kH:∀{G},Keep (t.eC::sf x) H' G->Keep (t.eC::sf x) H G:=fun {G} kG=>by
  refine⟨λy o ny e=>kG.k y o ny (D.k y o (λz=>?_) (N _ _ e)),λy ys e=>kG.tp _ _ (D.tp _ _ (N _ _ e))⟩;rcases kN.mp z with z|z
  .rw[z,n1]at e;cases e
  exact ny z
 refine⟨tp,_,rfl,SqT.of an,rfl,_,_,rfl,_,_,rfl,rfl,?_⟩;refine⟨_,rfl,.inl ⟨rfl,_,SqL.of O⟩,_,rfl,_,rfl,iV rfl (iM j'.o rfl ⟨_,rfl,iV rfl (iM j'.o rfl ⟨_,rfl,_,rfl,x,k,sh,sr,s',n,p,rfl,j',ao,λdk=>?_,λH3 s3=>?_⟩)⟩)⟩
 .rw[I.dark hi dk]at kk;exact kk H' j' (kH Keep.refl)
 dsimp only[tNil,wQ,dY,gT];have am:=s3 _ _ O;refine(j'.same s3).set n0 a1 (by lia) (by rw[I.eP];lia) (.inl ⟨p,ao⟩) (λdk H5 j5 k5=>?_) (λdk H5 j5 k5=>?_)
 .rw[I.dark hi dk]at kk;exact kk H5 j5 (kH ((Keep.same s3).trans k5))
 have Z:=k5.k _ _ ai am;refine⟨sz3,λtu H6 n6 s6 h6=>⟨U,J,_,rfl,rfl,s6 _ _ Z,by have:=pr.len;have:=I.l;lia,?_⟩⟩;have ac:=s6 _ _ Z;have k7:=Keep.upd (F:=[U]) (o:=.lst (J++[.ref tu])) ac (λd z=>by cases z) (by simp);have aa:(upd H6 U (.lst (J++[.ref tu]))) U=_:=qI;have j7:=(j5.same s6).lst (o:=.lst (J++[.ref tu])) ac ai;generalize upd H6 U (.lst (J++[.ref tu]))=H7 at k7 aa j7 ⊢;have kA:Keep (U::t.eC::sf x) H' H7:=(((Keep.same s3).trans (k5.mono (λy hy=>hU _ hy))).trans (Keep.same s6)).trans (k7.mono (by simp));exact⟨some (.int p),some (.int n),J++[.ref tu],_,_,rfl,j7,I.step q7R hi a2 dk er,aa,L2.Paired.snoc (Paired.mapP pr λv d ⟨p',e',h'⟩=>⟨p',e',kA.tp _ _ h'⟩) ⟨tu,rfl,k7.tp _ _ h6⟩,D.trans kA⟩
obtain⟨y3,y4,J,s',ms,rfl,j',I,O,pr,D⟩:=hp
rw[a7]at I
obtain⟨e,nl⟩:=I.fin rfl
rw[e]at kk
have kH:Keep (t.eC::sf x) H H':=by
 refine⟨λy o ny e=>D.k y o (λz=>?_) (N _ _ e),λy ys e=>D.tp _ _ (N _ _ e)⟩;rcases kN.mp z with z|z
 .rw[z,n1]at e;cases e
 exact ny z
exact⟨_,rfl,kk U J H' j' n1 O pr (I.mvd (kO _)) nl kH⟩)
noncomputable abbrev fx(t:Adr)(x:Sto)(r pp:Addr):List Addr:=pp::r::t.eD::t.eC::sf x
noncomputable def PapA(H:Hp)(F:List Addr)(v:V)(p:Pa):Prop:=∃pa l1 l2 us rs,v=.ref pa/\H pa=some (.tup [.str p.why,.ref l1,.int (p.b:Int),.ref l2,.bl true])/\H l1=some (.lst rs)/\Tls H rs p.ts/\H l2=some (.lst us)/\Paired (TupD H) us p.mv/\l1∉F/\l2∉F
theorem PapA.keep{H H':Hp}{F G:List Addr}{v:V}{p:Pa}(h:PapA H F v p)(k:Keep G H H')(s:∀y∈G,y∈F):PapA H' F v p:=by obtain⟨N,Z,O,U,rs,e,a,b,c,d,f,D,I⟩:=h;exact⟨N,Z,O,U,rs,e,k.tp _ _ a,k.k _ _ (λz=>D (s _ z)) b,q35 k c,k.k _ _ (λz=>I (s _ z)) d,Paired.mapP f λv d ⟨S,J,h'⟩=>⟨S,J,k.tp _ _ h'⟩,D,I⟩
structure XX(t:Adr)(H:Hp)(x:Sto)(k:Tm)(sh sr:Int)(r:Addr)(rl:List Addr)(pp:Addr)(X:Sx):Prop where
j:XR t H x k sh sr X.s
er:x.ru=.ref r
ru:RuX t H r rl X.g
of:Off t x (r::rl)
ep:x.pa=.ref pp
hp:∃ps,H pp=some (.lst ps)/\Paired (PapA H (fx t x r pp)) ps X.ps
np:pp∉t.eC::sf x
nr:pp∉r::rl
section
variable{H H':Hp}{x:Sto}{k:Tm}{sh sr:Int}{r:Addr}{rl:List Addr}{pp:Addr}{X:Sx}
theorem XX.kT(h:XX t H x k sh sr r rl pp X)(kk:Keep [t.eC] H H')(tb:TbF t H'):XX t H' x k sh sr r rl pp X:=by obtain⟨ps,h1,h2⟩:=h.hp;have D:=h.of t.eC (by simp);exact⟨h.j.kT kk tb,h.er,h.ru.keep kk (λy d z=>D (by rw[<-kE.mp z];exact d)),h.of,h.ep,⟨ps,kk.k _ _ (λz=>h.np (by rw[kE.mp z];simp)) h1,Paired.mapP h2 λU U z=>z.keep kk (by simp)⟩,h.np,h.nr⟩
theorem XX.same(h:XX t H x k sh sr r rl pp X)(s:Same H H'):XX t H' x k sh sr r rl pp X:=h.kT (Keep.same s) (h.j.tb.same s)
theorem XX.on(h:XX t H x k sh sr r rl pp X){s:XS}(kk:Keep (t.eC::sf x) H H')(j:XR t H' x k sh sr s):XX t H' x k sh sr r rl pp ⟨s,X.g,X.ps⟩:=by obtain⟨ps,h1,h2⟩:=h.hp;exact⟨j,h.er,h.ru.keep kk (λy d=>h.of.n d),h.of,h.ep,⟨ps,kk.k _ _ h.np h1,Paired.mapP h2 λU U z=>z.keep kk (by intro y d;simp at d ⊢;rcases d with e|e<;>simp[e])⟩,h.np,h.nr⟩
end
noncomputable def rfE(t:Adr)(e:Rf)(E:XK)(H:Hp):Prop:=match e with
| .dark=>E (.ref t.C_PowerGone) none H
| .room=>E (.ref t.C_NoRoom) none H
noncomputable def qMR(t:Adr):Sp:=λvs H Q E=>∃x k sh sr r rl pp X,vs=[.ref x.s]/\XX t H x k sh sr r rl pp X/\k.ev=true/\X.s.rc.length+200<1000000/\X.ps.length<90000/\(match X.room k with
|(Y,.error e)=>∀H',XX t H' x k sh sr r rl pp Y->Keep (fx t x r pp) H H'->rfE t e E H'
|(Y,.ok p)=>∀v H',XX t H' x k sh sr r rl pp Y->Keep (fx t x r pp) H H'->Q v H')
theorem q4E(T:tXx)(S:tFf)(B:BmIn base mg):S.i7.OkE P w mg base 14 (qMR t):=by(
refine S.i7.F.okE yB (λvs H Q E h=>?_) (λci A outer s H vs Q E hr h=>?_)
.repeat obtain⟨_,h⟩:=h
 all_goals subst_vars;rfl
obtain⟨x,k,sh,sr,r,rl,pp,X,rfl,h,ev,rc,lp,kk⟩:=h
have s9:(99999:Nat)<sizeLine:=by decide
refine⟨_,(qB (qP (i:=1) yB.nd rfl (Or.inl rfl) (qT (pv 0) T.eE T.aAL (q24 T S B).mono hr S.oG.b .nil qK)) (qB (qP (i:=2) yB.nd rfl (Or.inl rfl) (uV qZ (pv 0) T.eE T.aDP (q8A T S B).mono hr S.aAZ.b .nil)) (qB (qP (i:=3) yB.nd rfl (Or.inl rfl) (jM qZ (pv 0) T.eE T.aEH (q8B T S B).mono hr S.aA5.b .nil (qA (j8 uD (pv 2) qG (λz z=>rfl)) qE))) (qB (qP (i:=4) yB.nd rfl (Or.inl rfl) (jM qZ (pv 0) T.eE T.aEG (q8R T S).mono hr S.aBR.b .nil (qA (j8 uD (pv 2) qG (λz z=>rfl)) qE))) (qB (qX (qD6 wO wI wJ q0Y (qJ (pv 0) rfl) (qA (qU (q65 T S).mono hr rfl T.aCQ T.aC1 S.aCC.b .nil qK (qA (j8 uD (pv 2) qG (λz z=>rfl)) (qA (pv 1) (qA (j8 uD (pv 2) qG (λz z=>rfl)) (qA (pv 3) (qA (pv 4) qE)))))) qE))) (qC (qL (qU (q65 T S).mono hr rfl T.aCQ T.aC1 S.aCC.b .nil qK (qA (j8 uD (pv 2) qG (λz z=>rfl)) (qA (pv 1) (qA (j8 uD (pv 2) qG (λz z=>rfl)) (qA (pv 3) (qA (pv 4) qE))))))))))))),?_⟩
try dsimp-beta-proj-iota-zeta-eta only[wishK,cxK]
refine(iV rfl (iM h.j.o rfl ?_))
dsimp only[tNil,dY]
refine h.j.opts ev λO rs H1 np j1 k1 h1 ty=>?_
have a5:=h.kT k1 j1.tb
have mT:∀y∈[t.eC],y∈fx t x r pp:=by simp
refine(iV rfl (iM j1.o rfl ⟨x,k,sh,sr,X.s,r,rl,X.g,rfl,j1,ev,h.er,a5.ru,h.of,by lia,?_⟩))
unfold Sx.room at kk
cases htk:X.s.tk k X.g with
|none=>rw[htk]at kk;exact λH2 j2 k2=>kk H2 (a5.kT k2 j2.tb) ((k1.mono mT).trans (k2.mono mT))
|some bi=>
 obtain⟨y,b,g'⟩:=bi;rw[htk]at kk;have fb:=q3E h.ru.ok htk;refine λcp H2 k2 j2 bj h2=>?_;have m2:∀y∈[t.eC,t.eD,r],y∈fx t x r pp:=by simp
 have mS:∀y∈t.eC::sf x,y∈fx t x r pp:=λy hy=>hU _ (hU _ (hU _ hy));have ak:Keep (fx t x r pp) H H2:=(k1.mono mT).trans (k2.mono m2);have a6:pp∉r::t.eC::sf x:=λz=>(kN.mp z).elim (λe=>h.nr (by rw[e];exact kU)) h.np;obtain⟨ps,Z,af⟩:=h.hp;obtain⟨_,cw,_,pB,a9,_⟩:=h.j.tb;have bh:pp∉[t.eC,t.eD,r]:=λz=>by
  have z:pp=t.eC\/pp=t.eD\/pp=r:=by simpa using z
  rcases z with z|z|z
  .exact a6 (by rw[z];simp)
  .rw[z,a9]at Z;cases Z
  exact a6 (by rw[z];simp)
 have c5:=af.len;have U:XX t H2 x k sh sr r rl pp ⟨X.s,g',X.ps⟩:=⟨j2,h.er,bj,h.of,h.ep,⟨ps,k2.k _ _ bh (k1.k _ _ (λz=>h.np (by rw[kE.mp z];simp)) Z),Paired.mapP af λd d z=>(z.keep k1 mT).keep k2 m2⟩,h.np,h.nr⟩;have av:=h.j.off np;obtain⟨C0,d0,f0,bz⟩:=h.ru.ins;have b4:O≠r:=λz=>by rw[z,bz]at np;cases np
 have bq:O≠pp:=λz=>by rw[z,Z]at np;cases np
 have a8:H2 O=some (.lst rs):=k2.k _ _ (λz=>by
  have z:O=t.eC\/O=t.eD\/O=r:=by simpa using z
  rcases z with z|z|z
  .exact av (by rw[z];simp)
  .rw[z,a9]at np;cases np
  exact b4 z) h1
 refine(iV rfl (iM j2.o rfl ⟨_,rfl,iT (k:=1) (v:=.int (b:Int)) (SqT.of h2) rfl ⟨x,k,sh,sr,X.s,b,rfl,j2,fb,by lia,?_⟩⟩));cases hmv:XS.mvs (lvP X.s.q.P b X.s.q.V) X.s with
 |mk s o=>
  dsimp only at kk;rw[hmv]at kk;cases o with
  |none=>exact λH3 j3 k3=>kk H3 (U.on k3 j3) (ak.trans (k3.mono mS))
  |some ms=>
   refine λml us H3 j3 nm b5 bw md nl k3=>?_;dsimp only at kk;have h3:=k3.tp _ _ h2;have cx:=md.rc;have cr:(lvP X.s.q.P b X.s.q.V).length<=16:=by have:=h.j.w.qs.ok.p2;unfold lvP;refine mL (rG _ _) ?_;rw[mV];exact this
   refine(iV rfl (iM j3.o rfl ⟨_,rfl,iT (k:=1) (v:=.int (b:Int)) (SqT.of h3) rfl ⟨x,k,sh,sr,s,b,rfl,j3,by rw[md.eB];exact fb.b,by rw[md.eP];exact md.fb,by lia,nl,λdk=>?_,λdk H4 j4 k4=>⟨rfl,?_⟩⟩⟩))
   .rw[kM dk]at kk;exact kk H3 (U.on k3 j3) (ak.trans (k3.mono mS))
   rw[kI dk]at kk;have J:Keep (t.eC::sf x) H2 H4:=k3.trans k4;have ba:=U.on J j4;obtain⟨I,D,ag⟩:=ba.hp;have a4:=ag.len;have a0:=ba.ru;obtain⟨C4,d4,f4,bo⟩:=a0.ins;have h4:=J.tp _ _ h2;have ad:=J.k _ _ av a8;have bx:=j2.off nm;have ai:=k4.k _ _ bx b5;have o4:=j4.o;rw[h.ep]at o4;refine(iV rfl (iF o4 T.eE T.oS rfl ⟨.inl ⟨rfl,_,SqL.of D⟩,_,rfl,iT (k:=0) (v:=_) (SqT.of h4) rfl ⟨_,rfl,_,rfl,iT (k:=1) (v:=_) (SqT.of h4) rfl ⟨_,rfl,_,rfl,.str y,.int (b:Int),.bl true,O,ml,rs,us,rfl,ad,ai,λpa a1 a2 H5 s5 cn a7 aw e5 b6 b2=>⟨pp,I,_,rfl,rfl,s5 _ _ D,by simp only at a4;lia,?_⟩⟩⟩⟩));have ac:=s5 _ _ D;have k6:=Keep.upd (F:=[pp]) (o:=.lst (I++[.ref pa])) ac (λd z=>by cases z) (by simp);have ae:(upd H5 pp (.lst (I++[.ref pa]))) pp=_:=qI;have j6:=(j4.same s5).lst (o:=.lst (I++[.ref pa])) ac h.np;generalize upd H5 pp (.lst (I++[.ref pa]))=H6 at k6 ae j6 ⊢;have m6:∀y∈[pp],y∈fx t x r pp:=by simp
   have az:∀{y:Addr},H4 y=none->y∉[pp]:=fun {y} e z=>by rw[kE.mp z,D]at e;cases e
   have ar:∀{y:Addr},H4 y=none->y∉fx t x r pp:=fun {y} e z=>by
    rcases kN.mp z with z|z
    .rw[z,D]at e;cases e
    rcases kN.mp z with z|z
    .rw[z,bo]at e;cases e
    rcases kN.mp z with z|z
    .obtain⟨_,_,_,_,ax,_⟩:=j4.tb;rw[z,ax]at e;cases e
    exact(j4.off e) z
   have au:O∉[pp]:=λz=>bq (kE.mp z);have bm:ml∉[pp]:=λz=>by obtain⟨cm,e2,_⟩:=U.hp;rw[kE.mp z,e2]at nm;cases nm
   refine⟨_,rfl,iT (k:=0) (v:=_) (SqT.of (k6.tp _ _ (s5 _ _ h4))) rfl ⟨_,rfl,_,rfl,iT (k:=1) (v:=_) (SqT.of (k6.tp _ _ (s5 _ _ h4))) rfl ⟨_,rfl,_,rfl,.str y,.int (b:Int),.bl true,O,ml,rs,us,rfl,k6.k _ _ au (s5 _ _ ad),k6.k _ _ bm (s5 _ _ ai),λpb c1 c2 H7 s7 c4 cg cq e7 cy c0=>?_⟩⟩⟩;have N:Keep [pp] H4 H7:=((Keep.same s5).trans k6).trans (Keep.same s7);have b3:Keep (fx t x r pp) H H7:=(ak.trans (J.mono mS)).trans (N.mono m6);have b0:Tls H7 rs (X.s.ots k):=q35 N (q35 J (q35 k2 ty));have aq:Paired (TupD H7) us ms:=Paired.mapP bw λv d ⟨p',e',h'⟩=>⟨p',e',N.tp _ _ (k4.tp _ _ h')⟩;exact kk (.ref pb) H7 ⟨j6.same s7,h.er,(a0.keep N (λy hy z=>h.nr (by rw[<-kE.mp z];exact hy))),h.of,h.ep,⟨I++[.ref pa],s7 _ _ ae,L2.Paired.snoc (Paired.mapP ag λd d z=>z.keep N m6) ⟨pa,a1,a2,us,rs,rfl,s7 _ _ (k6.tp _ _ e5),s7 _ _ (k6.k _ _ (az a7) b6),b0,s7 _ _ (k6.k _ _ (az aw) b2),aq,ar a7,ar aw⟩⟩,h.np,h.nr⟩ b3)
noncomputable def spMr(t:Adr):Sp:=λvs H Q E=>∃x k sh sr r rl pp X,∃i Z,vs=[.ref x.s]/\XX t H x k sh sr r rl pp X/\k.ev=true/\X.s.rc.length+100*i+200<1000000/\X.ps.length+i<90000/\X.rooms k i=some Z/\(match Z with
|(Y,.error e)=>∀H',XX t H' x k sh sr r rl pp Y->Keep (fx t x r pp) H H'->rfE t e E H'
|(Y,.ok _)=>∀H',XX t H' x k sh sr r rl pp Y->Keep (fx t x r pp) H H'->Q .non H')
theorem q3J(T:tXx)(S:tFf)(B:BmIn base mg):S.iU.OkE P w mg base 15 (spMr t):=by(
refine S.iU.F.okE q3G (λvs H Q E h=>?_) (λam A outer s H vs Q E hr h=>?_)
.repeat obtain⟨_,h⟩:=h
 all_goals subst_vars;rfl
obtain⟨x,k,sh,sr,r,rl,pp,X,i,Z,rfl,h,ev,rc,lp,hZ,kk⟩:=h
refine⟨_,(qC (q6Z dC (yU (jS (qT (pv 0) T.eE T.aD5 (q85 T S B).mono hr S.aAW.b .nil qK))) (qC (qX (uV qZ (pv 0) T.eE T.aB8 (q4E T S B).mono hr S.i7.b .nil))))),?_⟩
try dsimp-beta-proj-iota-zeta-eta only[wishK,cxK]
refine⟨λn ab H2=>ab=[some (.ref x.s)]/\∃Y,XX t H2 x k sh sr r rl pp Y/\Keep (fx t x r pp) H H2/\Y.rooms k n=some Z/\Y.s.rc.length+100*n+200<1000000/\Y.ps.length+n<90000,⟨i,rfl,X,h,Keep.refl,hZ,rc,lp⟩,?_⟩
rintro n ab H2 ⟨rfl,Y,J,k2,d,an,ak⟩
obtain⟨m,hs,c,_⟩:=J.j.e
have mT:∀y∈[t.eC],y∈fx t x r pp:=by simp
refine(iV rfl (iM hs.o rfl ⟨x,_,_,_,m,Y.s.q,_,rfl,hs,c.ft,λl H3 hl k3 U=>⟨_,rfl,?_⟩⟩))
rw[c.br,c.cl]at hl
rw[c.br,qLF J.j.w hl]
have I:=J.kT k3 U
have D:=k2.trans (k3.mono mT)
cases n with
|zero=>
 unfold Sx.rooms at d;cases z:Y.s.rd k with
 |false=>rw[z,kI (by decide)]at d;cases d
 |true=>rw[z,kM rfl]at d;cases d;exact iteF (kk H3 I D)
|succ n=>
 unfold Sx.rooms at d;cases z:Y.s.rd k with
 |true=>rw[z,kM rfl]at d;cases d;exact iteF (kk H3 I D)
 |false=>
  rw[z,kI (by decide)]at d;refine iteT ⟨_,λ_ _ z=>z,?_⟩;refine(iV rfl (iM I.j.o rfl ⟨x,k,sh,sr,r,rl,pp,Y,rfl,I,ev,by lia,by lia,?_⟩));cases hr':Y.room k with
  |mk W o=>
   rw[hr']at d;cases o with
   |error e=>cases d;exact λH4 O N=>kk H4 O (D.trans N)
   |ok p=>obtain⟨r1,r2⟩:=qGZ J.j.w J.ru.ok hr';exact λv H4 O N=>⟨n,d8 _,rfl,W,O,D.trans N,d,by lia,by lia⟩)
theorem q07(T:tXx)(S:tFf)(B:BmIn base mg):S.fY.OkE P w mg base 16 (spMr t):=by(
refine S.fY.F.okE q46 (λvs H Q E h=>?_) (λU A outer s H vs Q E D h=>?_)
.repeat obtain⟨_,h⟩:=h
 all_goals subst_vars;rfl
obtain⟨x,k,sh,sr,r,rl,pp,X,i,Z,rfl,h,J,rc,N,O,kk⟩:=h
obtain⟨m,I,c,_⟩:=h.j.e
refine⟨_,(qB (qX (qT (pv 0) T.eE T.aBI (q4B T S).mono D S.i6.b .nil qK)) (qC (qX (uV qZ (pv 0) T.eE T.aBN (q3J T S B).mono D S.iU.b .nil)))),?_⟩
try dsimp-beta-proj-iota-zeta-eta only[wishK,cxK]
refine(iV rfl (iM I.o rfl ⟨x,_,_,_,m,X.s.q,_,rfl,I,c.ft,by lia,λH1 d=>?_⟩))
have h1:=h.same d
refine(iV rfl (iM h1.j.o rfl ⟨x,k,sh,sr,r,rl,pp,X,i,Z,rfl,h1,J,rc,N,O,?_⟩))
obtain⟨Y,o⟩:=Z
cases o with
|error e=>exact λH2 h2 z=>kk H2 h2 ((Keep.same d).trans z)
|ok u=>exact λH2 h2 z=>kk H2 h2 ((Keep.same d).trans z))
inductive spPWr(t:Adr)(vs:List V)(H:Hp)(Q:VK)(E:XK):Prop
|mk:∀x k sh sr r rl pp X,∀n v:Int,∀i Z,vs=[.ref x.s,.int n,.int v]->XX t H x k sh sr r rl pp X->k.ev=true->X.s.rc.length+100*i+300<1000000->X.ps.length+i<90000->sh<=64->inB (.int n) 0 (sh-1)=true->inB (.int v) 0 (10 ^ 30-1)=true->(hold X.s.q n=false/\sr<=((hdN X.s.q.V).length:Int)->∀H',Same H H'->E (.ref t.C_Full) none H')->(¬(hold X.s.q n=false/\sr<=((hdN X.s.q.V).length:Int))->((∃p,(n,p)∈X.s.q.V)\/X.s.q.V.length<59)/\X.ask k i n v=some Z/\(match Z with
|(Y,.error e)=>∀H',XX t H' x k sh sr r rl pp Y->Keep (fx t x r pp) H H'->rfE t e E H'
|(Y,.ok p)=>∀H',XX t H' x k sh sr r rl pp Y->Keep (fx t x r pp) H H'->Q (.int (p:Int)) H'))->spPWr t vs H Q E
theorem XX.lay{H H2:Hp}{x:Sto}{k:Tm}{sh sr:Int}{r:Addr}{rl:List Addr}{pp:Addr}{X Y:Sx}{i:Nat}{n v:Int}{Z:Sx×Except Rf Nat}(h:XX t H x k sh sr r rl pp X)(rc:X.s.rc.length+100*i+300<1000000)(hl:(∃p,(n,p)∈X.s.q.V)\/X.s.q.V.length<59)(hZ:X.ask k i n v=some Z)(hY:X.rooms k i=some (Y,.ok ()))(n0:0<=n)(n1:n<=64)(h2:XX t H2 x k sh sr r rl pp Y){Q:VK}{E:XK}
 (kk:match Z with
  |(Y,.error e)=>∀H',XX t H' x k sh sr r rl pp Y->Keep (t.eC::sf x) H2 H'->rfE t e E H'
  |(Y,.ok p)=>∀H',XX t H' x k sh sr r rl pp Y->Keep (t.eC::sf x) H2 H'->Q (.int (p:Int)) H'):qBV t [.ref x.s,.int n,.int v] H2 Q E:=by(
obtain⟨_,_,kp,J,_,rd⟩:=zP h.j.w h.ru.ok hY
have rd:=mI (rd rfl)
rw[rO,rP]at rd
unfold Sx.ask at hZ
rw[hY]at hZ
dsimp only at hZ
refine h2.j.set n0 n1 (by lia) (by lia) ?_ (λD H' I d=>?_) (λD H' I d=>?_)
.rw[kp.lV];exact hl.imp (λz=>(kp.nm n).mpr z) id
.rw[kM D]at hZ;cases hZ;exact kk H' (h2.on d I) d
rw[kI D]at hZ
cases hZ
exact kk H' (h2.on d I) d)
theorem q8C(T:tXx)(S:tFf)(B:BmIn base mg):S.aA1.OkE P w mg base 17 (spPWr t):=by(
refine S.aA1.F.okE q7U (λvs H Q E h=>?_) (λaj A outer s H vs Q E D h=>?_)
.repeat obtain⟨_,h⟩:=h
 all_goals subst_vars;rfl
obtain⟨x,k,sh,sr,r,rl,pp,X,n,v,i,Z,rfl,h,ev,rc,lp,ae,z,w,hF,kk⟩:=h
obtain⟨m,N,c,_⟩:=h.j.e
refine⟨_,(qB (qX (jD (pv 0) T.eE T.oK (vY T S).mono D S.fP.b .nil qK (qA (pv 1) qE))) (qB (jC (yU (jS (qU (qBX T S).mono D rfl T.aEV T.aEU S.aDK.b .nil qK (qA (pv 2) qE)))) (qC j9) qQ) (qB (qX (jM qZ (pv 0) T.eE T.aBG (q33 T S).mono D S.iD.b .nil (qA (pv 1) qE))) (qB (qX (uV qZ (pv 0) T.eE T.o8 (q07 T S B).mono D S.fY.b .nil)) (qC (qL (jM qZ (pv 0) T.eE T.aBJ (q32 T S B).mono D S.aA7.b .nil (qA (pv 1) (qA (pv 2) qE))))))))),?_⟩
try dsimp-beta-proj-iota-zeta-eta only[wishK,cxK]
refine(iV rfl (iM N.o rfl ⟨_,rfl,x,.int sr,_,_,m,X.s.q,.int n,sh,rfl,N,.int _,?_⟩))
rw[kM z]
obtain⟨n',e,n0,n1⟩:=qHU z
injection e with e
subst e
refine⟨_,rfl,.int v,rfl,.int _,_,rfl,?_⟩
rw[w]
refine iteF ?_
refine(iV rfl (iM N.o rfl ⟨_,rfl,x,.int sh,_,_,m,X.s.q,n,sr,rfl,N,c.ft,hd64 h.j.w,λH1 I=>?_⟩))
by_cases O:hold X.s.q n=false/\sr<=((hdN X.s.q.V).length:Int)
.rw[kM O];exact hF O H1 I
rw[kI O]
obtain⟨hl,hZ,kk⟩:=kk O
have h1:=h.same I
have d:=hZ
unfold Sx.ask at d
cases hR:X.rooms k i with
|none=>rw[hR]at d;cases d
|some YR=>
 obtain⟨Y,o⟩:=YR;refine(iV rfl (iM h1.j.o rfl ⟨x,k,sh,sr,r,rl,pp,X,i,(Y,o),rfl,h1,ev,by lia,lp,hR,?_⟩));rw[hR]at d;cases o with
 |error e=>cases d;exact λH2 h2 J=>kk H2 h2 ((Keep.same I).trans J)
 |ok u=>
  refine λH2 h2 J=>?_;refine(iV rfl (iM h2.j.o rfl ⟨_,rfl,_,rfl,?_⟩));dsimp only[tNil,wQ,dY,gT];refine h.lay rc hl hZ hR n0 (by lia) h2 ?_;have mS:∀y∈t.eC::sf x,y∈fx t x r pp:=λy hy=>hU _ (hU _ (hU _ hy));obtain⟨W,o⟩:=Z;cases o with
  |error e=>exact λU h3 k3=>kk U h3 (((Keep.same I).trans J).trans (k3.mono mS))
  |ok p=>exact λU h3 k3=>kk U h3 (((Keep.same I).trans J).trans (k3.mono mS)))
theorem XR.forg{H H':Hp}{x:Sto}{k:Tm}{sh sr:Int}{s:XS}(j:XR t H x k sh sr s)(n:Int)(hb:∀{m},StAt t H x (.int sh) (.int sr) (.int (k.ie:Int)) (.int k.sp) m s.q->BkAt t H' x.k (s.q.forget n))(kb:Keep (bf x.k) H H'):XR t H' x k sh sr (s.forg n):=by obtain⟨m,st,c,pg⟩:=j.e;exact⟨⟨m,st.note (hb st) kb,⟨⟨c.ft.ok,c.ft.oq.forget n,c.ft.eB,c.ft.eP,c.br⟩,c.br,c.li,c.mo,c.cl,c.lf,c.rc⟩,pg.keep kb⟩,j.w.forg n⟩
inductive spGu(t:Adr)(vs:List V)(H:Hp)(Q:VK)(E:XK):Prop
|mk:∀x k sh sr r rl pp X,∀l0:Addr,∀ss:List Int,vs=[.ref x.s,.ref l0]->XX t H x k sh sr r rl pp X->k.ev=true->H l0=some (.lst (ss.map V.int))->(∀n∈ss,inB (.int n) 0 (sh-1)=true)->(gvn X.s.hl ss=[]->∀H',Same H H'->Q (.int 0) H')->(gvn X.s.hl ss≠[]->∃i Z,X.s.rc.length+100*i+300<1000000/\X.ps.length+i<90000/\((∃p,((64:Int),p)∈X.s.q.V)\/X.s.q.V.length<59)/\X.ask k i 64 (XS.bits (rst X.s.hl (gvn X.s.hl ss)))=some Z/\(match Z with
|(Y,.error e)=>∀H',XX t H' x k sh sr r rl pp Y->Keep (fx t x r pp) H H'->rfE t e E H'
|(Y,.ok p)=>∀H',XX t H' x k sh sr r rl pp ⟨Y.s.forgs (gvn X.s.hl ss),Y.g,Y.ps⟩->Keep (fx t x r pp) H H'->Q (.int ((gvn X.s.hl ss).length:Nat)) H'))->spGu t vs H Q E
theorem q5V(T:tXx)(S:tFf)(B:BmIn base mg):S.tF.OkE P w mg base 17 (spGu t):=by(
refine S.tF.F.okE yK (λvs H Q E h=>?_) (λbv A outer s H vs Q E hr h=>?_)
.repeat obtain⟨_,h⟩:=h
 all_goals subst_vars;rfl
obtain⟨x,k,sh,sr,r,rl,pp,X,l0,I,rfl,h,ev,ah,ba,kn,kk⟩:=h
have s9:(99999:Nat)<sizeLine:=by decide
obtain⟨m,hs,c,_⟩:=h.j.e
refine⟨_,(qB (vI dC rfl (jU (pv 1)) (jA (i:=2) yK.nd rfl (Or.inl rfl)) (qC (qX (jD (pv 0) T.eE T.oK (vY T S).mono hr S.fP.b .nil qK (qA (pv 2) qE))))) (qB (qP (i:=3) yK.nd rfl (Or.inl rfl) (qT (pv 0) T.eE T.aA0 (q0X T S).mono hr S.o6.b .nil qK)) (qB (qP (i:=4) yK.nd rfl (Or.inr rfl) (uN ["sheets","sheet"] [1] rfl (jU (pv 3)) (λz z z z z=>(jA (i:=1) (show List.Nodup (["sheets","sheet"]:List Str)from by decide) rfl (Or.inl rfl))) (λz z z z z=>(uA (qS (qCF (K:=K) rfl) (pv 1) (pv 0) rfl))) (λz z z z z=>(pv 1)) (by kernel_rfl) (yF (by decide)))) (qB (jC (qS (q7G hr.units) (pv 4) (jO qE) (qV _)) (qC (qL qG)) qQ) (qB (qX (uV qZ (pv 0) T.eE T.o8 (q07 T S B).mono hr S.fY.b .nil)) (qB (qX (jM qZ (pv 0) T.eE T.aBJ (q32 T S B).mono hr S.aA7.b .nil (qA (jT rfl T.aCN ⟨_,rfl⟩ (v:=.int 64)) (qA (qU (q84 T S).mono hr rfl T.aDG T.aDC S.aDW.b .nil qK (qA (uN ["gone","sheet"] [4] rfl (jU (pv 3)) (λz z z z z=>(jA (i:=1) (show List.Nodup (["gone","sheet"]:List Str)from by decide) rfl (Or.inl rfl))) (λz z z z z=>(uA (qS (q3M (K:=K) rfl) (pv 1) (pv 0) rfl))) (λz z z z z=>(pv 1)) (by kernel_rfl) (yF (by decide))) qE)) qE)))) (qB (vI dC rfl (jU (pv 4)) (jA (i:=2) yK.nd rfl (Or.inl rfl)) (qC (qX (jD (qJ (pv 0) rfl) T.eI T.tE (q05 T S).mono hr S.oC.b .nil qK (qA (pv 2) qE))))) (qC (qL (jI yM (by rfl) T.aEY wP (qA (pv 4) qE))))))))))),?_⟩
try dsimp-beta-proj-iota-zeta-eta only[wishK,cxK]
refine⟨_,rfl,l0,rfl,⟨_,SqL.of ah⟩,?_⟩
refine uI (K:=K) (xs:=I.map V.int) (λi ac H2=>∃y,ac=[some (.ref x.s),some (.ref l0),y,none,none]/\H=H2) ⟨_,rfl,rfl⟩ (λi ac H2 hi d=>?_) (λi v ac H2 hv d=>?_) (λac H2 d=>?_)
.obtain⟨y,rfl,rfl⟩:=d;exact SqL.of ah
.obtain⟨y,rfl,rfl⟩:=d;rw[kZ]at hv;obtain⟨n,hw,rfl⟩:=kP.mp hv;refine(iV rfl (iM hs.o rfl ⟨_,rfl,x,_,_,_,m,X.s.q,.int n,sh,rfl,hs,.int _,?_⟩));rw[kM (ba n (gD hw))];exact⟨_,rfl,rfl⟩
obtain⟨y,rfl,rfl⟩:=d
refine(iV rfl (iM hs.o rfl ⟨x,.int sh,_,_,_,m,X.s.q,rfl,hs,c.ft,hd64 h.j.w,λhl ns H1 hn s1 n1 h1=>?_⟩))
have ca:ns.length<64:=by rw[hn.pm.length_eq];exact hd64 h.j.w
obtain rfl:=qH9 hn
refine⟨_,rfl,hl,rfl,⟨_,SqL.of h1⟩,λD H2 nD s2 hD=>?_⟩
refine v4 (K:=K) (xs:=X.s.hl.map V.int) (D:=D) (λi H3=>Same H1 H3/\H3 D=some (.lst ((gvn (X.s.hl.take i) I).map V.int))) ⟨s2,hD⟩ (λi H3 d=>SqL.of (d.1 _ _ h1)) (λi v H3 hv d=>?_) (λH3 d=>?_)
.obtain⟨sm,hd⟩:=d;rw[kZ]at hv;obtain⟨n,hw,rfl⟩:=kP.mp hv;have hi:=(kC.mp hw).1;have ag:=(kC.mp hw).2;refine⟨_,rfl,_,rfl,l0,_,rfl,.inl (SqL.of (sm _ _ (s1 _ _ ah))),rfl,qE1,_,rfl,?_⟩;show if inV (.int n) (I.map V.int)=true then _ else _;rw[q55];have eg:gvn (X.s.hl.take (i+1)) I=gvn (X.s.hl.take i) I++(if n∈I then[n]else[]):=by
  unfold gvn;rw[<-mQ hi,gQ,ag,gF];by_cases z:n∈I
  .rw[hC z,kM z];rfl
  rw[hX z,kI z];rfl
 rw[eg];by_cases z:n∈I
 .rw[hC z,kM z];refine iteT ?_;refine⟨_,rfl,_,hd,?_,λb o e=>?_,?_⟩
  .rw[kB];have l1:(gvn (X.s.hl.take i) I).length<=(X.s.hl.take i).length:=mJ _ _;rw[gX]at l1;lia
  .rw[qD (qH e nD)];exact sm _ _ e
  rw[qI,gA];rfl
 rw[hX z,kI z,gT];exact iteF ⟨sm,hd⟩
obtain⟨sm,hd⟩:=d
rw[kB,gH]at hd
have bi:Same H H3:=s1.trans sm
refine⟨_,rfl,sz0,λe H4 n4 s4 h4=>⟨D,_,e,rfl,rfl,SqL.of (s4 _ _ hd),SqL.of h4,_,rfl,?_⟩⟩
have ab:=bi.trans s4
by_cases z:gvn X.s.hl I=[]
.rw[z];exact iteT (kn z H4 ab)
rw[hX (λy=>z (by cases hq:gvn X.s.hl I with|nil=>rfl|cons a r=>rw[hq]at y;cases y))]
refine iteF ?_
obtain⟨i,Z,rc,lp,a9,hZ,kk⟩:=kk z
have aw:=h.same ab
have U:=hZ
unfold Sx.ask at U
cases hR:X.rooms k i with
|none=>rw[hR]at U;cases U
|some YR=>
 obtain⟨Y,o⟩:=YR;refine(iV rfl (iM aw.j.o rfl ⟨x,k,sh,sr,r,rl,pp,X,i,(Y,o),rfl,aw,ev,by lia,lp,hR,?_⟩));rw[hR]at U;cases o with
 |error e=>cases U;exact λH2 h2 k2=>kk H2 h2 ((Keep.same ab).trans k2)
 |ok u=>
  refine λH5 h5 k5=>?_;obtain⟨bu,bg,_⟩:=h.hp;obtain⟨C0,d0,f0,be⟩:=h.ru.ins;have af:∀{y:Addr},H y=none->y∉fx t x r pp:=fun {y} e O=>by
   rcases kN.mp O with O|O
   .rw[O,bg]at e;cases e
   rcases kN.mp O with O|O
   .rw[O,be]at e;cases e
   rcases kN.mp O with O|O
   .obtain⟨_,_,_,_,bm,_⟩:=h.j.tb;rw[O,bm]at e;cases e
   exact h.j.off e O
  have dF:=af (s1.free nD);have ae:=k5.k _ _ (af n1) (s4 _ _ (sm _ _ h1));have au:=k5.k _ _ dF (s4 _ _ hd);refine(iV rfl (iM h5.j.o rfl ?_));refine⟨_,rfl,hl,rfl,⟨_,SqL.of ae⟩,λD2 H6 n6 s6 bn=>?_⟩;refine v4 (K:=K) (xs:=X.s.hl.map V.int) (D:=D2) (λi H7=>Same H5 H7/\H7 D2=some (.lst ((rst (X.s.hl.take i) (gvn X.s.hl I)).map V.int))) ⟨s6,bn⟩ (λi H7 d=>SqL.of (d.1 _ _ ae)) (λi v H7 hv d=>?_) (λH7 d=>?_)
  .obtain⟨J,N⟩:=d;rw[kZ]at hv;obtain⟨n,hw,rfl⟩:=kP.mp hv;have hi:=(kC.mp hw).1;have ag:=(kC.mp hw).2;refine⟨_,rfl,_,rfl,D,_,rfl,.inl (SqL.of (J _ _ au)),rfl,qE1,_,rfl,?_⟩;show if(!inV (.int n) ((gvn X.s.hl I).map V.int))=true then _ else _;rw[q55];have eg:rst (X.s.hl.take (i+1)) (gvn X.s.hl I)=rst (X.s.hl.take i) (gvn X.s.hl I)++(if n∈gvn X.s.hl I then[]else[n]):=by
    unfold rst;rw[<-mQ hi,gQ,ag,gF];by_cases y:n∈gvn X.s.hl I
    .rw[hC y,kM y];rfl
    rw[hX y,kI y];rfl
   rw[eg];by_cases y:n∈gvn X.s.hl I
   .rw[hC y,kM y,gT];exact iteF ⟨J,N⟩
   rw[hX y,kI y];refine iteT ?_;refine⟨_,rfl,_,N,?_,λb o e=>?_,?_⟩
   .rw[kB];have l1:(rst (X.s.hl.take i) (gvn X.s.hl I)).length<=(X.s.hl.take i).length:=mJ _ _;rw[gX]at l1;lia
   .rw[qD (qH e n6)];exact J _ _ e
   rw[qI,gA];rfl
  obtain⟨J,N⟩:=d;rw[kB,gH]at N;obtain⟨en,lt⟩:=qJQ (ns:=rst X.s.hl (gvn X.s.hl I)) (λn bj=>qJP h.j.w n (mK.mp bj).1);rw[en]at N;refine⟨D2,_,rfl,SqL.of N,lt,?_⟩;have h7:=h5.same J;have mS:∀y∈t.eC::sf x,y∈fx t x r pp:=λy hy=>hU _ (hU _ (hU _ hy));dsimp only[tNil,wQ,dY,gT];refine h.lay (Z:=Z) rc a9 hZ hR (by decide) (by decide) h7 ?_;obtain⟨W,o⟩:=Z;have av:Keep (fx t x r pp) H H7:=((Keep.same ab).trans k5).trans (Keep.same J);cases o with
  |error e=>exact λH8 h8 k8=>kk H8 h8 (av.trans (k8.mono mS))
  |ok p=>
   refine λH8 h8 k8=>?_;have ai:=k8.k _ _ (λy=>dF (mS _ y)) (J _ _ au);refine⟨_,rfl,D,rfl,⟨_,SqL.of ai⟩,?_⟩;refine uI (K:=K) (xs:=(gvn X.s.hl I).map V.int) (λi ac H'=>∃y',ac=[some (.ref x.s),some (.ref l0),y',some (.ref hl),some (.ref D)]/\XR t H' x k sh sr (W.s.forgs ((gvn X.s.hl I).take i))/\Keep (bf x.k) H8 H') ⟨_,rfl,h8.j,Keep.refl⟩ (λi ac H' hi d=>?_) (λi v ac H' hv d=>?_) (λac H' d=>?_)
   .obtain⟨y',rfl,j',kb⟩:=d;exact SqL.of (kb.k _ _ (λw=>dF (mS _ (by simp[sf,w]))) ai)
   .obtain⟨y',rfl,j',kb⟩:=d;rw[kZ]at hv;obtain⟨n,hw,rfl⟩:=kP.mp hv;obtain⟨m',st,c',_⟩:=j'.e;refine(iV rfl (iF st.o T.eE T.eL rfl (iM st.bk.o rfl ⟨_,rfl,x.k,_,n,rfl,st.bk,j'.w.qs.ok,st.ds,λH9 a8 k9=>?_⟩)));have k9:Keep (bf x.k) H' H9:=k9.mono (by intro b hb;simp at hb;rcases hb with rfl|rfl<;>simp[bf]);refine⟨_,rfl,?_,kb.trans k9⟩;rw[qCO hw];exact j'.forg n (λz=>a8) k9
   obtain⟨y',rfl,j',kb⟩:=d;rw[kB,gH]at j';have bh:=kb.k _ _ (λw=>dF (mS _ (by simp[sf,w]))) ai;refine⟨_,rfl,D,_,rfl,.inl (SqL.of bh),?_⟩;rw[kB];have ar:Keep (t.eC::sf x) H8 H':=kb.mono (λb hb=>by simp[sf,hb]);exact kk H' (h8.on ar j') ((av.trans (k8.mono mS)).trans (ar.mono mS)))
section
variable{H H':Hp}{x:Sto}{k:Tm}{sh sr:Int}{r:Addr}{rl:List Addr}{pp:Addr}{X:Sx}
theorem XX.chip(h:XX t H x k sh sr r rl pp X):∃m,ChipAt t.C_Chip H x.c x.a m/\m.Ok/\m.lf=X.s.lf/\m.rc=X.s.rc/\m.cl=X.s.cl/\m.bl=(X.s.q.B:Int)/\m.pg=(X.s.q.P:Int)/\PgAt H m.bo X.s.pg/\∀l,(∀i,l=some i->0<=i)->∀H',ChipAt t.C_Chip H' x.c x.a { m with lf:=l }->Keep (foot x.c x.a) H H'->XX t H' x k sh sr r rl pp ⟨{ X.s with lf:=l },X.g,X.ps⟩:=by(
obtain⟨m,st,c,pg⟩:=h.j.e
refine⟨m,st.ch,c.ft.ok,c.lf,c.rc,c.cl,c.ft.eB,c.ft.eP,pg,λl hl H' J d=>?_⟩
have D:Keep (t.eC::sf x) H H':=d.mono (λy I=>by unfold sf;exact hU _ (gC _ I))
have z:({ m with lf:=l }:CM).Ok:=⟨c.ft.ok.bl1,c.ft.ok.bl2,c.ft.ok.pg1,c.ft.ok.pg2,c.ft.ok.nbo,c.ft.ok.ncl,c.ft.ok.ndc,c.ft.ok.nbr,c.ft.ok.lim,c.ft.ok.nrc⟩
exact h.on D ⟨⟨_,st.put J d rfl rfl,⟨⟨z,c.ft.oq,c.ft.eB,c.ft.eP,c.br⟩,c.br,c.li,c.mo,c.cl,rfl,c.rc⟩,pg.keep d⟩,h.j.w.lf hl⟩)
end
theorem qLM{H:Hp}{x:Sto}{k:Tm}{sh sr:Int}{r:Addr}{rl:List Addr}{pp:Addr}{B P:Nat}{g:Rl}(st:StAt t H x (.int sh) (.int sr) (.int (k.ie:Int)) (.int k.sp) (CM.new (B:Int) (P:Int) 1000000 []) (bk0 B P))(er:x.ru=.ref r)(ru:RuX t H r rl g)(of:Off t x (r::rl))(ep:x.pa=.ref pp)(hp:H pp=some (.lst []))(np:pp∉t.eC::sf x)(nr:pp∉r::rl)
 (b1:2<=B) (b2:B<=16) (p1:1<=P) (p2:P<=16) (w:WX k (newX B P)):XX t H x k sh sr r rl pp ⟨newX B P,g,[]⟩:=by(
have z:(CM.new (B:Int) (P:Int) 1000000 []).Ok:=qFS (by lia) (by lia) (by lia) (by lia) (λb v e=>by cases e)
have d:(CM.new (B:Int) (P:Int) 1000000 []).br=noB B:=by show List.replicate (B:Int).toNat false=_;rw[mB]
refine⟨⟨⟨_,st,⟨⟨z,w.qs.ok,rfl,rfl,d⟩,d,λb=>rfl,rfl,?_,rfl,rfl⟩,⟨λi U=>rep8,λi v e=>by cases e⟩⟩,w⟩,er,ru,of,ep,⟨[],hp,.nil⟩,np,nr⟩
show List.replicate (B:Int).toNat (0:Int)=_
rw[mB]
rfl)
theorem qLN{H7 H8 HM:Hp}{sA sd tm td ch pa:Addr}{ca:CA}{kb:BkA}{ru:V}{m:CM}{R:List Addr}{o1 o2 o3:HO}(hc:ChipAt t.C_Chip H7 ch ca m)(htm:H7 tm=some o1)(hT:H7 t.eC=some o2)(hB:H7 t.eD=some o3)(nR:∀u∈R,H7 u=none)(eR:∀u∈R,∃o,H8 u=some o)(nA:H8 sA=none)(sM:Same H8 HM)(fk:∀b∈bf kb,HM b=none):Off t ⟨sA,sd,tm,td,ch,ca,kb,ru,.ref pa⟩ R:=λy hy hu=>by(
obtain⟨o,e8⟩:=eR y hu
have n7:=nR y hu
have hy:y=sA\/y=tm\/y=ca.li\/y=t.eC\/y=t.eD\/y∈foot ch ca\/y∈bf kb:=by simpa[sf]using hy
rcases hy with h|h|h|h|h|h|h
.rw[h,nA]at e8;cases e8
.rw[h,htm]at n7;cases n7
.obtain⟨o',e',_⟩:=hc.has (show ca.li∈ca.li::foot ch ca by simp);rw[<-h,n7]at e';cases e'
.rw[h,hT]at n7;cases n7
.rw[h,hB]at n7;cases n7
.obtain⟨o',e',_⟩:=hc.has (hU ca.li h);rw[n7]at e';cases e'
rw[Same.free sM (fk y h)]at e8;cases e8)
inductive spSto(vs:List V)(H:Hp)(Q:VK)(E_:XK):Prop
|mk:∀m,vs=[.int m]->Q (.int (m / 128)) H->spSto vs H Q E_
theorem qC1(T:tXx)(S:tFf):S.aDY.Ok0 P w mg base 1 spSto:=by(
refine S.aDY.F.ok0 qBQ λd A U s H D Q E z h=>?_
obtain⟨m,rfl,q⟩:=h
refine⟨_,(qC (qL (qN vR (pv 0) (jT rfl T.aDN ⟨_,rfl⟩ (v:=.int 128))))),?_⟩
try dsimp-beta-proj-iota-zeta-eta only[wishK,cxK]
exact⟨_,rfl,iI ⟨⟨by decide,by decide⟩,q⟩⟩)
inductive spNmo(vs:List V)(H:Hp)(Q:VK)(E_:XK):Prop
|mk:∀m,vs=[.int m]->Q (.int (m%128)) H->spNmo vs H Q E_
theorem qCW(T:tXx)(S:tFf):S.aEL.Ok0 P w mg base 1 spNmo:=by(
refine S.aEL.F.ok0 qCU λd A U s H D Q E z h=>?_
obtain⟨m,rfl,q⟩:=h
refine⟨_,(qC (qL (qN yH (pv 0) (jT rfl T.aDN ⟨_,rfl⟩ (v:=.int 128))))),?_⟩
try dsimp-beta-proj-iota-zeta-eta only[wishK,cxK]
exact⟨_,rfl,iI ⟨(by show(0:Int)<128;decide),q⟩⟩)
inductive spSa(t:Adr)(vs:List V)(H:Hp)(Q:VK)(E_:XK):Prop
|mk:∀a,∀m:QM,∀n,vs=[.ref a.bk,.int n]->BkAt t H a m->(∀H',BkAt t H' a { m with nx:=n }->Keep [a.bk] H H'->Q .non H')->spSa t vs H Q E_
theorem q5W(T:tXx)(S:tFf):S.tK.Ok0 P w mg base 1 (spSa t):=by(
refine S.tK.F.ok0 q5Q λO A _ s H Z Q E U h=>?_
obtain⟨a,m,n,rfl,d,q⟩:=h
have J:a.wv≠a.bk:=jN d.w d.o (by intro z;cases z)
have N:a.lv≠a.bk:=jN d.l d.o (by intro z;cases z)
have D:a.fi≠a.bk:=jN d.f d.o (by intro z;cases z)
have I:a.bo≠a.bk:=jN d.b d.o (by intro z;cases z)
refine⟨_,(qC (jH (pv 0) (pv 1) rfl)),?_⟩
try dsimp-beta-proj-iota-zeta-eta only[wishK,cxK]
refine⟨_,rfl,_,rfl,a.bk,_,a.dx,_,rfl,d.o,T.eI,T.fH,by show 7<1000;decide,?_⟩
refine q _ ⟨qI,?_,?_,?_,?_⟩ (Keep.upd d.o (λd z=>by cases z) (by simp))
.rw[qD J];exact d.w
.rw[qD N];exact d.l
.rw[qD D];exact d.f
rw[qD I];exact d.b)
noncomputable def prs(l:List (Int×Int)):List (List Int):=l.map λx=>[x.1,x.2]
structure TellAt(H:Hp)(tp d1 d2 d3 d4:Addr)(us:List V)(rs:List (List Int))(lv fi bo:List Int)(nx:Int):Prop where
o:H tp=some (.tup [.ref d1,.ref d2,.ref d3,.ref d4,.int nx])
w:H d1=some (.lst us)
p:Paired (TupD H) us rs
l:H d2=some (.lst (lv.map V.int))
f:H d3=some (.lst (fi.map V.int))
b:H d4=some (.lst (bo.map V.int))
theorem TellAt.same{H H':Hp}{tp d1 d2 d3 d4:Addr}{us:List V}{rs:List (List Int)}{lv fi bo:List Int}{nx:Int}(h:TellAt H tp d1 d2 d3 d4 us rs lv fi bo nx)(s:Same H H'):TellAt H' tp d1 d2 d3 d4 us rs lv fi bo nx:=⟨s _ _ h.o,s _ _ h.w,u7 h.p s,s _ _ h.l,s _ _ h.f,s _ _ h.b⟩
noncomputable def srt(rs:List (List Int))(W:Mp):Prop:=rs.Perm (prs W)/\rs.Pairwise λa b=>lx b a=false
theorem qJ9{rs rs':List (List Int)}{W V:Mp}(h:srt rs W)(h':srt rs' V)(pm:V.Perm W):rs'=rs:=qA4 (h'.1.trans ((pm.map _).trans h.1.symm)) h'.2 h.2
inductive spTe(t:Adr)(vs:List V)(H:Hp)(Q:VK)(E_:XK):Prop
|mk:∀a,∀m:QM,vs=[.ref a.bk]->BkAt t H a m->m.V.length<64->(∀tp d1 d2 d3 d4 us rs H',Same H H'->(∀b∈[tp,d1,d2,d3,d4],H b=none)->TellAt H' tp d1 d2 d3 d4 us rs m.lv m.fi m.bo m.nx->srt rs m.V->d1≠d2->d1≠d3->d1≠d4->Q (.ref tp) H')->spTe t vs H Q E_
theorem q57(T:tXx)(S:tFf):S.aA9.Ok0 P w mg base 1 (spTe t):=by(
refine S.aA9.F.ok0 qAG λav A _ s H vs Q E hr h=>?_
obtain⟨a,m,rfl,d,lV,q⟩:=h
refine⟨_,(qC (qL (yX (qA (jI (qA3 rfl) (by rfl) T.aBH (by kernel_rfl) (qA (qCC cZ c7 nO qBE (qJ (pv 0) rfl)) qE)) (qA (vJ yT (by rfl) T.aDE (by kernel_rfl) (qA (qJ (pv 0) rfl) qE)) (qA (vJ yT (by rfl) T.aDE (by kernel_rfl) (qA (qJ (pv 0) rfl) qE)) (qA (vJ yT (by rfl) T.aDE (by kernel_rfl) (qA (qJ (pv 0) rfl) qE)) (qA (qJ (pv 0) rfl) qE)))))))),?_⟩
try dsimp-beta-proj-iota-zeta-eta only[wishK,cxK]
refine(iV rfl (iF d.o T.eI T.eW rfl ⟨.inr (.inr (.inl ⟨rfl,.inl ⟨_,d.w⟩⟩)),a.wv,_,rfl,rfl,d.w,λv nv=>?_⟩))
have sv:Same H (upd H v (q12 v a.wv)):=Same.upd nv
have vv:(upd H v (q12 v a.wv)) v=some (q12 v a.wv):=qI
generalize upd H v (q12 v a.wv)=H1 at sv vv ⊢
refine⟨v,a.wv,m.V,rfl,vv,sv _ _ d.w,lV,λrs d1 us H2 pm pw s2 n2 h2 ad=>?_⟩
have z:=sv.trans s2
refine(iV rfl (iF (z _ _ d.o) T.eI T.iR rfl ⟨a.lv,_,rfl,.inl (SqL.of (z _ _ d.l)),λd2 H3 n3 Z h3=>?_⟩))
have D:=z.trans Z
refine(iV rfl (iF (D _ _ d.o) T.eI T.eU rfl ⟨a.fi,_,rfl,.inl (SqL.of (D _ _ d.f)),λd3 H4 n4 s4 h4=>?_⟩))
have I:=D.trans s4
refine(iV rfl (iF (I _ _ d.o) T.eI T.iS rfl ⟨a.bo,_,rfl,.inl (SqL.of (I _ _ d.b)),λd4 H5 n5 s5 h5=>?_⟩))
have N:=I.trans s5
refine(iV rfl (iF (N _ _ d.o) T.eI T.fH rfl ⟨sz5,λtp H6 n6 O h6=>?_⟩))
have U:=Z.trans (s4.trans s5)
refine q tp d1 d2 d3 d4 us rs H6 (N.trans O) (λb J=>?_) ⟨h6,O _ _ (U _ _ h2),u7 ad (U.trans O),O _ _ (s5 _ _ (s4 _ _ h3)),O _ _ (s5 _ _ h4),O _ _ h5⟩ ⟨pm,pw⟩ (qH h2 n3) (qH (Z _ _ h2) n4) (qH (s4 _ _ (Z _ _ h2)) n5)
have J:b=tp\/b=d1\/b=d2\/b=d3\/b=d4:=by simpa using J
rcases J with rfl|rfl|rfl|rfl|rfl
.exact N.free n6
.exact sv.free n2
.exact z.free n3
.exact D.free n4
exact I.free n5)
structure Prw(pg:Nat->Option (Int×Int))(R:List (Int×Nat×Int)):Prop where
rp:∀i v,pg i=some v->∃r∈R,r.2.1=i/\mkR r=v.1
pr:∀r∈R,∃u,pg r.2.1=some (mkR r,u)
inductive spMp(t:Adr)(vs:List V)(H:Hp)(Q:VK)(E:XK):Prop
|mk:∀c a m,∀N:Nat,vs=[.ref c]->ChipAt t.C_Chip H c a m->m.Ok->m.bl*m.pg=(N:Int)->(m.lf=some 0->∀H',Same H H'->E (.ref t.C_PowerGone) none H')->(m.lf≠some 0->∃pg R q0 q,Rows q0 R q/\PgAt H m.bo pg/\Prw pg R/\(R.map (·.2.1)).Nodup/\(∀r∈R,r.2.1<N)/\R.length<64/\∀l us H',Same H H'->H l=none->H' l=some (.lst us)->Paired (TupD H') us (R.map pr61)->Q (.ref l) H')->spMp t vs H Q E
theorem q6I(T:tXx)(S:tFf):S.aAE.OkE P w mg base 6 (spMp t):=by(
refine S.aAE.F.okE uO (λvs H Q E h=>?_) (λbe A outer s H vs Q E hr h=>?_)
.repeat obtain⟨_,h⟩:=h
 all_goals subst_vars;rfl
obtain⟨c,a,m,N,rfl,hc,ok,eN,dk,k⟩:=h
have az:=ok.nbo
have b0:=ok.bl1
have b1:=ok.bl2
have b2:=ok.pg2
have mx:=sP b1 b2 (by have:=ok.pg1;lia) (by decide)
refine⟨_,(qB (qP (i:=1) uO.nd rfl (Or.inl rfl) (jO qE)) (qB (vI dC rfl (q5B rfl T.aCU (qA (qN v3 (qJ (pv 0) rfl) (qJ (pv 0) rfl)) qE)) (jA (i:=2) uO.nd rfl (Or.inl rfl)) (qB (qP (i:=3) uO.nd rfl (Or.inl rfl) (jM qZ (pv 0) T.eG T.tH (zN T S).mono hr S.o7.b .nil (qA (pv 2) qE))) (qC (jC (qS q4K (pv 3) yI (qV _)) (qC (qX (qD6 wO wI wJ q0Y (pv 1) (qA (yX (qA (j8 uD (pv 3) qG (λz z=>rfl)) (qA (pv 2) qE))) qE q4P)))) qQ)))) (qC (qL (jI q4U (by rfl) T.aBH (by kernel_rfl) (qA (pv 1) qE)))))),?_⟩
try dsimp-beta-proj-iota-zeta-eta only[wishK,cxK]
refine⟨sz0,λl H1 n1 s1 h1=>?_⟩
have ae:=hc.same s1
refine(iV rfl (iF ae.ins T.eG T.fE rfl (iV rfl (iF ae.ins T.eG T.fB rfl (iI ⟨.inl ⟨by lia,by lia⟩,_,rfl,by lia,by lia,?_⟩)))))
by_cases lf:m.lf=some 0
.refine q37 (λi aa H'=>i=0/\∃y2 y3,aa=[some (.ref c),some (.ref l),y2,y3]/\Same H H') ⟨rfl,_,_,rfl,s1⟩ (λi aa H' hi hp=>?_) (λaa H' hp=>?_)
 .obtain⟨rfl,y2,y3,rfl,J⟩:=hp;have D:=hc.same J;exact(iV rfl (iM D.ins rfl ⟨_,rfl,c,a,m,_,rfl,D,ok,by lia,by lia,λz=>dk lf H' J,λy=>(y lf).elim⟩))
 have p1:=ok.pg1;have h0:=hp.1;have mn:=sP b0 p1 (by decide) (by lia);lia
obtain⟨pg,R,q0,q,al,pa,pq,nd,hN,bm,k⟩:=k lf
refine q37 (λi aa H'=>∃y2 y3 I,aa=[some (.ref c),some (.ref l),y2,y3]/\Same H H'/\H' l=some (.lst I)/\Paired (TupD H') I (pgL R i)/\I.length<=i) ⟨_,_,[],rfl,s1,h1,.nil,kO _⟩ (λi aa H' hi hp=>?_) (λaa H' hp=>?_)
.obtain⟨y2,y3,I,rfl,J,hl,O,ln⟩:=hp;have hi:i<N:=by lia
 rw[Int.zero_add];have D:=hc.same J;refine(iV rfl (iM D.ins rfl ⟨_,rfl,c,a,m,_,rfl,D,ok,by lia,by lia,λy=>(lf y).elim,λ_=>?_⟩));rw[mB,qGJ];cases hf:R.find? (λr=>decide (r.2.1=i))with
 |none=>
  have pn:pg i=none:=by
   cases e:pg i with
   |none=>rfl
   |some v=>obtain⟨r,hr,er,_⟩:=pq.rp i v e;exact absurd (hC er) (rC.mp hf r hr)
  rw[pa.n i pn];refine⟨_,rfl,rfl,_,rfl,iteF ?_⟩;exact⟨_,_,I,rfl,J,hl,by rw[show(Option.map pr61 (none:Option (Int×Nat×Int))).toList=[]from rfl,gT];exact O,by lia⟩
 |some r=>
  have aq:=g3 hf;have er:r.2.1=i:=mI (g9 (p:=λr:Int×Nat×Int=>decide (r.2.1=i)) hf);obtain⟨v,ev⟩:=pq.pr r aq;obtain⟨tp,e1,e2⟩:=pa.v _ _ ev;rw[er]at e1;rw[e1];refine⟨_,rfl,rfl,_,rfl,iteT ?_⟩;refine⟨_,rfl,.inl ⟨rfl,_,SqL.of hl⟩,_,rfl,iT (k:=0) (v:=.int (mkR r)) (SqT.of (J _ _ e2)) rfl ⟨_,rfl,sz2,λtq H3 n3 s3 h3=>?_⟩⟩;have ag:=s3 _ _ hl;refine⟨l,I,_,rfl,rfl,ag,?_,?_⟩
  .have:(1000:Nat)<sizeLine:=by decide
   lia
  have nt:∀Z U,H3 Z=some (.tup U)->(upd H3 l (.lst (I++[.ref tq]))) Z=some (.tup U):=λZ U e=>by rw[qD (jN e ag (by intro z;cases z))];exact e
  refine⟨_,_,_,rfl,λb' o e=>?_,qI,?_,?_⟩
  .rw[qD (qH e n1)];exact s3 _ _ (J _ _ e)
  .refine L2.Paired.snoc (Paired.mapP O λv d ⟨Z,e',h'⟩=>⟨Z,e',nt _ _ (s3 _ _ h')⟩) ⟨tq,rfl,nt _ _ ?_⟩;show _=some (HO.tup [.int (mkR r),.int (r.2.1:Int)]);rw[er];exact h3
  rw[mH];exact aL ln
obtain⟨y2,y3,I,rfl,J,hl,O,ln⟩:=hp
rw[eN,mB]at O
have pp:=qGK nd hN
have lu:I.length=R.length:=by rw[O.len,pp.length_eq,kB]
refine⟨_,rfl,l,I,pgL R N,2,rfl,SqL.of hl,Paired.mapP O λv d ⟨Z,e',h'⟩=>⟨Z,e',SqT.of h'⟩,λkk hk=>?_,by decide,by lia,λqs af pw l2 H5 n5 s5 h5=>?_⟩
.obtain⟨r,_,rfl⟩:=mF.mp (pp.mem_iff.mp hk);rfl
have e1:(qs.map λi=>(pgL R N).getD i [])=R.map pr61:=qA4 ((q7N O.len.symm af).trans pp) pw al.sorted
refine k l2 _ H5 (J.trans s5) (J.free n5) h5 ?_
rw[<-e1]
exact q7O (u7 O s5) λi hi=>mO.mp (af.mem_iff.mp hi))
theorem qMS(a:Nat):Builtin.bitAnd (a:Int) 1=((a%2:Nat):Int):=by(
unfold Builtin.bitAnd
rw[hC (show(0:Int)<=(a:Int) by lia),hC (show(0:Int)<=1 by decide)]
show(((a:Int).toNat&&& (1:Int).toNat:Nat):Int)=_
rw[mB,show(1:Int).toNat=1 from rfl,Nat.and_one_is_mod])
set_option tactic.hygienic true in
theorem qJA(x:Nat):x<2 ^ Builtin.Int.intBits (x:Int):=by(
unfold Builtin.Int.intBits
split
.rename_i z;have:x=0:=by rw[d7]at z;lia
 subst this;decide
rename_i z
rw[show((x:Int)).natAbs=x from rfl]
exact Nat.lt_log2_self)
inductive spSo(vs:List V)(H:Hp)(Q:VK)(E_:XK):Prop
|mk:∀x:Nat,vs=[.int (x:Int)]->x<2 ^ 64->(∀D H' l,(∀n:Nat,n∈l↔x.testBit n=true)->H D=none->Same H H'->H' D=some (.lst (vN l))->Q (.ref D) H')->spSo vs H Q E_
theorem qAQ(T:tXx)(S:tFf):S.aC2.Ok0 P w mg base 1 spSo:=by(
refine S.aC2.F.ok0 qAC λae A _ s H vs Q E hr h=>?_
obtain⟨x,rfl,hx,q⟩:=h
have hb:Builtin.Int.intBits (x:Int)<=64:=qI4 hx
refine⟨_,(qC (qL (uN ["bits","sheet"] [0] rfl (q5B rfl T.aCU (qA (qCC PySem.F.plainAttrs_int PySem.F.slot_int_bit_length PySem.F.type_int_bit_length qET (pv 0)) qE)) (λz z z z z=>(jA (i:=1) (show List.Nodup (["bits","sheet"]:List Str)from by decide) rfl (Or.inl rfl))) (λz z z z z=>(uA (qS zH (qN qK3 (qN qK2 (pv 0) (pv 1)) qG) qG (qV _)))) (λz z z z z=>(pv 1)) (by kernel_rfl) (yF (by decide))))),?_⟩
try dsimp-beta-proj-iota-zeta-eta only[wishK,cxK]
refine⟨_,rfl,rfl,_,rfl,rfl,_,rfl,by lia,by lia,λD H2 Z s2 hD=>?_⟩
refine qB6 (λi d=>Same H d/\d D=some (.lst (vN ((List.range i).filter x.testBit)))) ⟨s2,hD⟩ (λi d hi N=>?_) (λd N=>?_)
.obtain⟨J,I⟩:=N;refine⟨_,rfl,_,rfl,iI ⟨(by show(0:Int)<=0+(i:Int);lia),iI ⟨rfl,_,rfl,?_⟩⟩⟩;have e1:(x:Int) / 2 ^ ((0:Int)+(i:Int)).toNat=((x / 2 ^ i:Nat):Int):=by rw[show((0:Int)+(i:Int)).toNat=i by lia,dE,bC];rfl
 rw[q2C,e1,qMS];have U:(List.range (i+1)).filter x.testBit=(List.range i).filter x.testBit++if x.testBit i then[i]else[]:=by rw[pZ,gQ];cases z:x.testBit i<;>simp[z]
 have O:x.testBit i=decide (x / 2 ^ i%2=1):=Nat.testBit_eq_decide_div_mod_eq;by_cases g:x / 2 ^ i%2=1
 .rw[hC (by lia)];refine iteT ⟨_,rfl,_,I,?_,λb o e=>?_,?_⟩
  .have h1:((List.range i).filter x.testBit).length<=i:=by have:=mJ x.testBit (List.range i);rwa [mV]at this
   have:(64:Nat)<sizeLine:=by decide
   rw[kB];lia
  .rw[qD (qH e Z)];exact J _ _ e
  rw[qI,U,O,hC g,kM rfl];show _=some (HO.lst (((List.range i).filter x.testBit++[i]).map λ(k:Nat)=>V.int (k:Int)));rw[gA,show((0:Int)+(i:Int))=(i:Int) by lia];rfl
 rw[hX (by lia)];refine iteF ⟨J,?_⟩;rw[I,U,O,hX g,kI (by decide),gT]
obtain⟨J,I⟩:=N
refine q D d _ (λn=>?_) Z J I
rw[mK,mO,mB]
refine⟨λz=>z.2,λz=>⟨?_,z⟩⟩
refine dZ λh=>?_
rw[Nat.testBit_lt_two_pow (mW (qJA x) (Nat.pow_le_pow_right (by decide) (aJ h)))]at z
cases z)
structure Jf(t:Adr)(H:Hp)(c:Addr)(a:CA)(m:CM)(pg:Nat->Option (Int×Int))(R:List (Int×Nat×Int))(q:QM)(B P:Nat):Prop where
ch:ChipAt t.C_Chip H c a m
ok:m.Ok
lf:m.lf≠some 0
eB:m.bl=(B:Int)
eP:m.pg=(P:Int)
rows:Rows (bk0 B P) R q
qs:QS (bk0 B P)
pa:PgAt H m.bo pg
pq:Prw pg R
v6:∀i v,pg i=some v->v.1%128=64->0<=v.2/\v.2<2 ^ 64
ln:R.length<=40
section
variable{H H':Hp}{c:Addr}{a:CA}{m:CM}{pg:Nat->Option (Int×Int)}{R:List (Int×Nat×Int)}{q:QM}{B P:Nat}{r:Int×Nat×Int}
theorem Jf.same(j:Jf t H c a m pg R q B P)(s:Same H H'):Jf t H' c a m pg R q B P:={ j with ch:=j.ch.same s,pa:=j.pa.keep (F:=[]) (Keep.same s) }
theorem Jf.keep{F:List Addr}(j:Jf t H c a m pg R q B P)(k:Keep F H H')(n:∀b∈a.li::foot c a,b∉F):Jf t H' c a m pg R q B P:={ j with ch:=j.ch.keep k n,pa:=j.pa.keep k }
theorem Jf.in(j:Jf t H c a m pg R q B P)(hr:r∈R):(r.2.1:Int)<=m.bl*m.pg-1:=by(
have h:=((j.rows.pages j.qs.ok.p1 j.qs.ok.lf).1 r hr).1
rw[show q.B=B from j.rows.sh.1,show q.P=P from j.rows.sh.2]at h
have d:1<=P:=j.qs.ok.p1
have:=(rV (by lia)).mp h
rw[j.eB,j.eP,<-dA]
lia)
theorem Jf.h64(j:Jf t H c a m pg R q B P):(hdN q.V).length<64:=by(
have h1:=(j.rows.newest rfl).1.length_eq
have h2:=j.rows.lenV rfl
have d:=j.ln
unfold hdN
refine dJ (mJ _ _) ?_
rw[kB]
lia)
theorem Jf.val(j:Jf t H c a m pg R q B P){n p:Int}(hp:(n,p)∈q.V):∃(i:Nat) (w:Int×Int) (tp:Addr),p=(i:Int)/\(i:Int)<=m.bl*m.pg-1/\pg i=some w/\vlP pg q.V n=w/\w.1%128=n/\m.bo.getD i .non=.ref tp/\H tp=some (.tup [.int w.1,.int w.2]):=by(
obtain⟨N,_,D⟩:=j.rows.new rfl
obtain⟨r,d,J,_⟩:=N _ hp
injection J with ep1 ep2
obtain⟨u,z⟩:=j.pq.pr r d
obtain⟨tp,O,I⟩:=j.pa.v _ _ z
have:=D r d
exact⟨r.2.1,_,tp,ep2,j.in d,z,qA9 (j.rows.qs j.qs).ok.nd hp (by rw[ep2,mB];exact z),(by show mkR r%128=n;unfold mkR;lia),O,I⟩)
end
inductive spSg(t:Adr)(vs:List V)(H:Hp)(Q:VK)(E_:XK):Prop
|mk:∀c a m pg R q B P,∀ka:BkA,vs=[.ref c,.ref ka.bk]->Jf t H c a m pg R q B P->BkAt t H ka q->(∀gl D H',gl.Perm ((hdN q.V).filter (gnB pg q.V))->Same H H'->H D=none->H' D=some (.lst (List.map V.int gl))->Q (.ref D) H')->spSg t vs H Q E_
theorem q4F(T:tXx)(S:tFf):S.i5.Ok0 P w mg base 6 (spSg t):=by(
refine S.i5.F.ok0 uS λbh A _ s H vs Q E hr h=>?_
obtain⟨c,a,m,pg,R,q,B,P',ka,rfl,j,hb,k⟩:=h
have hu:=q61 hr
have d:=(j.rows.qs j.qs).ok
refine⟨_,(qB (jC (qC3 (q9C hu (jT rfl T.aCN ⟨_,rfl⟩ (v:=.int 64)) (qJ (pv 1) rfl))) (qC (qL (jO qE))) qQ) (qB (qP (i:=2) uS.nd rfl (Or.inr rfl) (jM uU (pv 0) T.eG T.tH (zN T S).mono hr S.o7.b .nil (qA (q6L hu (qJ (pv 1) rfl) (jT rfl T.aCN ⟨_,rfl⟩ (v:=.int 64)) (λz z=>rfl)) qE))) (qB (qP (i:=3) uS.nd rfl (Or.inr rfl) (qU (qAQ T S).mono hr rfl T.aD3 T.aD7 S.aC2.b .nil qK (qA (j8 uD (pv 2) qG (λz z=>rfl)) qE))) (qC (qL (uN ["chip","book","roll","named","sheet"] [0,1,2,3] rfl (jU (qT (pv 1) T.eI T.aA2 (q1Y T S).mono hr S.aAA.b .nil qK)) (λz z z z z=>(jA (i:=4) (show List.Nodup (["chip","book","roll","named","sheet"]:List Str)from by decide) rfl (Or.inl rfl))) (λz z z z z=>(uA (PW.pt (q9S (qS (q3M (K:=K) rfl) (pv 4) (pv 3) rfl) (q6J (qS q4J (j8 (q4R (K:=K) rfl) (jM uU (pv 0) T.eG T.tH (zN T S).mono hr S.o7.b .nil (qA (q6L hu (uB (K:=K) rfl (pv 1) rfl) (pv 4) (λz z=>rfl)) qE)) qG (λz z=>rfl)) (j8 (q4R (K:=K) rfl) (pv 2) qG (λz z=>rfl)) (qV _))))))) (λz z z z z=>(pv 4)) (by kernel_rfl) (yF (by decide)))))))),?_⟩
try dsimp-beta-proj-iota-zeta-eta only[wishK,cxK]
refine(iV rfl (iF hb.o T.eI T.eW rfl ⟨ka.wv,_,rfl,DGet.k (k:=Sum.inl 64) hb.w,_,rfl,?_⟩))
rcases QM.find_V (m:=q) (n:=64)with⟨pr,hp,_⟩|⟨hn,_⟩
.rw[q1H d.nd hp];refine iteF ?_;obtain⟨ir,I,tp,rfl,a1,as,av,m6,e6,al⟩:=j.val hp;obtain⟨ax,bj⟩:=j.v6 _ _ as m6;refine(iV rfl (iM j.ch.ins rfl (iV rfl (iF hb.o T.eI T.eW rfl ⟨ka.wv,.int (ir:Int),rfl,?_,c,a,m,_,rfl,j.ch,j.ok,by lia,a1,λy=>(j.lf y).elim,λ_=>?_⟩))))
 .have:=DGet.k (k:=Sum.inl 64) hb.w;rw[q1H d.nd hp]at this;exact this
 rw[mB,e6];refine⟨_,rfl,iT (k:=1) (v:=.int I.2) (SqT.of al) rfl ⟨I.2.toNat,by rw[Int.toNat_of_nonneg ax];rfl,by lia,λD1 H1 J aw n1 s1 h1=>?_⟩⟩;have ak:=hb.same s1;refine(iV rfl (iM ak.o rfl ⟨ka,q,rfl,ak,d,j.h64,λl ns H2 s2 n2 h2 pm so=>?_⟩));have O:=s1.trans s2;refine⟨l,rfl,⟨_,SqL.of h2⟩,λD H3 nD s3 hD=>?_⟩;have aj:=j.h64;have a8:ns.length<64:=by rw[pm.length_eq];exact aj
 refine v4 (K:=K) (xs:=ns.map V.int) (D:=D) (λi H4=>Same H2 H4/\H4 D=some (.lst (((ns.take i).filter (gnB pg q.V)).map V.int))) ⟨s3,hD⟩ (λi H4 hp=>SqL.of (hp.1 _ _ h2)) (λi y H4 hy aa=>?_) (λH4 aa=>?_)
 .obtain⟨Z,hd⟩:=aa;rw[kZ]at hy;obtain⟨n,hw,rfl⟩:=kP.mp hy;have hi:=(kC.mp hw).1;have ev:=(kC.mp hw).2;have ab:=O.trans Z;obtain⟨n6,pn,U⟩:=zK.mp (pm.mem_iff.mp (gD hw));have n0:0<=n:=(d.nm _ U).1;obtain⟨N,rfl⟩:∃N:Nat,n=(N:Int):=⟨n.toNat,by lia⟩;obtain⟨wn,ah⟩:∃wn,vlP pg q.V (N:Int)=wn:=⟨_,rfl⟩;have eg:gnB pg q.V (N:Int)=(!(I.2.toNat.testBit N)&&decide (wn.1<I.1)):=by unfold gnB;rw[show(q.V.any λx=>decide (x.1=64))=true from rQ.mpr ⟨_,hp,hC rfl⟩,av,ah,mB];rfl
  have et:(ns.take (i+1)).filter (gnB pg q.V)=(ns.take i).filter (gnB pg q.V)++(if gnB pg q.V (N:Int)=true then[(N:Int)]else[]):=by rw[<-mQ hi,gQ,ev,gF];rfl
  have el:inV (.int (N:Int)) (vN J)=I.2.toNat.testBit N:=by
   rw[show vN J=(J.map λ(k:Nat)=>(k:Int)).map V.int by rw[pF];rfl,q55];have:=aw N;have e:((N:Int)∈J.map λ(k:Nat)=>(k:Int))↔N∈J:=⟨λz=>by obtain⟨x,hx,ex⟩:=mF.mp z;rw[<-sZ ex];exact hx,λz=>mF.mpr ⟨N,z,rfl⟩⟩;by_cases z:I.2.toNat.testBit N=true
   .rw[z];exact hC (e.mpr (this.mpr z))
   rw[aM]at z;rw[z];exact hX λy=>by rw[this.mp (e.mp y)]at z;cases z
  refine⟨_,rfl,_,rfl,D1,_,rfl,.inl (SqL.of (Z _ _ (s2 _ _ h1))),rfl,(by rw[show vN J=(J.map λ(k:Nat)=>(k:Int)).map V.int by rw[pF];rfl];exact qE1),_,rfl,?_⟩;show if(!inV (.int (N:Int)) (vN J))=true then _ else _;rw[el,et];have j4:=j.same ab;have am:=hb.same ab;cases tb:I.2.toNat.testBit N with
  |true=>rw[tb]at eg;refine iteF ⟨Z,?_⟩;rw[eg,kI (by simp),gT];exact hd
  |false=>
   rw[tb]at eg;refine iteT ?_;obtain⟨iN,w',tn,rfl,a3,_,ew,_,e5,a2⟩:=j4.val U;obtain rfl:w'=wn:=ew.symm.trans ah;refine(iV rfl (iM j4.ch.ins rfl (iV rfl (iF am.o T.eI T.eW rfl ⟨_,rfl,ka.wv,.int (iN:Int),rfl,?_,c,a,m,_,rfl,j4.ch,j.ok,by lia,a3,λy=>(j.lf y).elim,λ_=>?_⟩))))
   .have:=DGet.k (k:=Sum.inl (N:Int)) am.w;rw[q1H d.nd U]at this;exact this
   rw[mB,e5];refine(iT (k:=0) (v:=.int w'.1) (SqT.of a2) rfl ⟨_,rfl,iT (k:=0) (v:=.int I.1) (SqT.of (ab _ _ al)) rfl (iI ⟨_,rfl,?_⟩)⟩);rw[eg];refine ite2 (λz=>?_) (λz=>?_)
   .have z:w'.1<I.1:=mI z;rw[hC z];refine⟨_,rfl,_,hd,?_,λb o e=>?_,?_⟩
    .rw[kB];have l1:((ns.take i).filter (gnB pg q.V)).length<=(ns.take i).length:=mJ _ _;rw[gX]at l1;have:(64:Nat)<sizeLine:=by decide
     lia
    .rw[qD (qH e nD)];exact Z _ _ e
    rw[qI,gA];rfl
   have z:¬w'.1<I.1:=λy=>z (hC y);rw[hX z,kI (by decide),gT];exact⟨Z,hd⟩
 obtain⟨Z,hd⟩:=aa;rw[kB,gH]at hd;exact k _ D H4 (pm.filter _) (O.trans Z) (O.free nD) hd
have no:(64:Int)∉q.V.map (·.1):=λz=>by obtain⟨x,hx,ex⟩:=mF.mp z;exact hn x hx ex
rw[q3T no]
refine iteT ⟨sz0,λD H1 n1 s1 h1=>k [] D H1 ?_ s1 n1 h1⟩
have ea:(q.V.any λx=>decide (x.1=64))=false:=by rw[xU];intro x hx z;exact hn x hx (mI z)
rw[List.filter_eq_nil_iff.mpr]
intro n _
unfold gnB
rw[ea]
simp)
noncomputable def bf6(k:BkA):List Addr:=[k.bk,k.wv,k.lv,k.fi,k.bo]
inductive spBof(t:Adr)(vs:List V)(H:Hp)(Q:VK)(E:XK):Prop
|mk:∀c a m,∀B P:Nat,vs=[.ref c]->ChipAt t.C_Chip H c a m->m.Ok->m.bl=(B:Int)->m.pg=(P:Int)->(m.lf=some 0->∀H',Same H H'->E (.ref t.C_PowerGone) none H')->(m.lf≠some 0->∃pg R q,Jf t H c a m pg R q B P/\∀ka gl H',gl.Perm ((hdN q.V).filter (gnB pg q.V))->BkAt t H' ka (jP q gl)->Dst ka->Same H H'->(∀b∈bf6 ka,H b=none)->Q (.ref ka.bk) H')->spBof t vs H Q E
theorem q4G(T:tXx)(S:tFf):S.aCL.OkE P w mg base 7 (spBof t):=by(
refine S.aCL.F.okE q01 (λvs H Q E h=>?_) (λbu A outer s H vs Q E hr h=>?_)
.repeat obtain⟨_,h⟩:=h
 all_goals subst_vars;rfl
obtain⟨c,a,m,B,P',rfl,hc,ok,eB,eP,dk,k⟩:=h
have b2:B<=16:=by have:=ok.bl2;lia
refine⟨_,(qB (qP (i:=1) q01.nd rfl (Or.inl rfl) (q38 T.aFG (q52 T S).mono hr rfl T.aFE S.aBB.b .nil qK (qA (qJ (pv 0) rfl) (qA (qJ (pv 0) rfl) qE)))) (qB (vI dC rfl (jU (zR qZ (q6I T S).mono hr rfl T.aCO T.aCI S.aAE.b .nil (qA (pv 0) qE))) (q59 rfl (yS (jA (i:=2) q01.nd rfl (Or.inl rfl)) (yS (jA (i:=3) q01.nd rfl (Or.inl rfl)) q36))) (qB (qX (jD (pv 1) T.eI T.aCJ (q5W T S).mono hr S.tK.b .nil qK (qA (qU (qC1 T S).mono hr rfl T.aET T.aEX S.aDY.b .nil qK (qA (pv 2) qE)) qE))) (qC (qX (jD (pv 1) T.eI T.aCE (q53 T S).mono hr S.aBF.b .nil qK (qA (pv 3) (qA (qU (qCW T S).mono hr rfl T.aE7 T.aE3 S.aEL.b .nil qK (qA (pv 2) qE)) qE))))))) (qB (vI dC rfl (jU (qU (q4F T S).mono hr rfl T.aBD T.aBC S.i5.b .nil qK (qA (pv 0) (qA (pv 1) qE)))) (jA (i:=4) q01.nd rfl (Or.inl rfl)) (qC (qX (jD (pv 1) T.eI T.tE (q05 T S).mono hr S.oC.b .nil qK (qA (pv 4) qE))))) (qC (qL (pv 1)))))),?_⟩
try dsimp-beta-proj-iota-zeta-eta only[wishK,cxK]
refine(iV rfl (iF hc.ins T.eG T.fE rfl (iV rfl (iF hc.ins T.eG T.fB rfl (λbk bd nk nd nn=>?_)))))
rw[eB,eP]
have s0:Same H (upd (upd H bd (.own bk)) bk (.ins t.C_Book bd [])):=q1G nk nd
refine⟨bk,bd,B,P',rfl,b2,qI,λd H1 a7 b7 ao ds fr up=>⟨rfl,?_⟩⟩
subst a7
have s1:Same H H1:=λb o e=>up b o (qH e nk) (s0 b o e)
have nF:∀b∈bf6 d,H b=none:=λb J=>by
 have J:b=d.bk\/b∈[d.wv,d.lv,d.fi,d.bo]:=by simpa[bf6]using J
 rcases J with rfl|J
 .exact nk
 exact Same.free s0 (fr b J)
have nC:∀b∈a.li::foot c a,b∉bf6 d:=λb J z=>by obtain⟨o,e,_⟩:=hc.has J;rw[nF b z]at e;cases e
have av:=hc.same s1
refine⟨_,rfl,c,a,m,B*P',rfl,av,ok,by rw[eB,eP,dA],λz H' s'=>dk z H' (s1.trans s'),λz=>?_⟩
obtain⟨pg,R,q,j,k⟩:=k z
have N:=j.rows
have O:=j.qs
have b1:=j.ln
have p1:1<=P':=O.ok.p1
have pgs:=N.pages p1 O.ok.lf
have e2:q.P=P':=N.sh.2
have e1:q.B=B:=N.sh.1
have j1:=j.same s1
refine⟨pg,R,_,q,N,j1.pa,j.pq,pgs.2.1,λr hr=>?_,by lia,λl us H2 s2 n2 h2 pr=>?_⟩
.have:=(pgs.1 r hr).1;rw[e1,e2]at this;exact(rV (by lia)).mp this
have a0:l∉bf6 d:=λz=>by
 have h:=ao;have z:l=d.bk\/l=d.wv\/l=d.lv\/l=d.fi\/l=d.bo:=by simpa[bf6]using z
 rcases z with rfl|rfl|rfl|rfl|rfl
 .rw[h.o]at n2;cases n2
 .rw[h.w]at n2;cases n2
 .rw[h.l]at n2;cases n2
 .rw[h.f]at n2;cases n2
 rw[h.b]at n2;cases n2
have lu:us.length=R.length:=by rw[pr.len,kB]
refine⟨l,rfl,⟨_,SqL.of h2⟩,?_⟩
refine uI (K:=K) (xs:=us) (λi ad H'=>∃y2 y3 D,ad=[some (.ref c),some (.ref d.bk),y2,y3,none]/\Rows (bk0 B P') (R.take i) D/\BkAt t H' d D/\Keep (bf6 d) H2 H') ⟨_,_,_,rfl,.nil,ao.same s2,Keep.refl⟩ (λi ad H' hi U=>?_) (λi v ad H' hv U=>?_) (λad H' U=>?_)
.obtain⟨y2,y3,D,rfl,Z,J,kk⟩:=U;exact SqL.of (kk.k _ _ a0 h2)
.obtain⟨y2,y3,D,rfl,Z,J,kk⟩:=U;obtain⟨kv,hk,tp,rfl,a9⟩:=Paired.at pr hv;rw[kZ]at hk;obtain⟨r,a6,rfl⟩:=kP.mp hk;obtain⟨hi,er⟩:=kC.mp a6;obtain⟨b4,a4,ft⟩:=N.at hi;obtain rfl:=Z.one a4;rw[er]at ft;have al:=kk.tp _ _ a9;have n1:=ft.n1;have n0:=ft.n0;have d1:mkR r / 128=r.1:=by unfold mkR;lia
 have d2:mkR r%128=r.2.2:=by unfold mkR;lia
 refine⟨tp,_,rfl,SqT.of al,rfl,_,_,rfl,_,_,rfl,rfl,?_⟩;refine(iV rfl (iM J.o rfl ⟨_,rfl,_,rfl,d,D,_,rfl,J,λH3 ag k3=>?_⟩));rw[d1]at ag;have ak:=Z.qs O;have eq:D.P=P':=Z.sh.2;have ep:r.2.1 / D.P*D.P+r.2.1%D.P=r.2.1:=by rw[dN];exact pX _ _
 refine(iV rfl (iM ag.o rfl ⟨_,rfl,_,rfl,_,rfl,d,{ D with nx:=r.1 },r.2.1 / D.P,r.2.1%D.P,r.2.2,?_,ag,{ ak.ok with },ds,ft.b,Nat.mod_lt _ ak.ok.p1,ft.f,λH4 I k4=>?_⟩))
 .show[V.ref d.bk,.int (r.2.1:Int),.int (mkR r%128)]=[V.ref d.bk,.int ((r.2.1 / D.P*D.P+r.2.1%D.P:Nat):Int),.int r.2.2];rw[ep,d2]
 refine⟨_,_,q4W D r,rfl,?_,I,(kk.trans (k3.mono (by simp[bf6]))).trans k4⟩;rw[<-mQ hi,er];exact .snoc Z ft
obtain⟨y2,y3,D,rfl,Z,J,kk⟩:=U
rw[lu,gH]at Z
obtain rfl:=Z.one N
have jj:Jf t H' c a m pg R D B P':=(j1.same s2).keep kk nC
have cc:=(Z.qs O).ok
refine⟨_,rfl,_,rfl,c,a,m,pg,R,D,B,P',d,rfl,jj,J,λgl l2 H3 a5 s3 n3 h3=>?_⟩
have a3:Keep (bf6 d) H2 H3:=kk.trans (Keep.same s3)
have ap:l2∉bf6 d:=λz=>by
 have h:=J;have z:l2=d.bk\/l2=d.wv\/l2=d.lv\/l2=d.fi\/l2=d.bo:=by simpa[bf6]using z
 rcases z with rfl|rfl|rfl|rfl|rfl
 .rw[h.o]at n3;cases n3
 .rw[h.w]at n3;cases n3
 .rw[h.l]at n3;cases n3
 .rw[h.f]at n3;cases n3
 rw[h.b]at n3;cases n3
refine⟨l2,rfl,⟨_,SqL.of h3⟩,?_⟩
refine uI (K:=K) (xs:=gl.map V.int) (λi ad H'=>∃y4,ad=[some (.ref c),some (.ref d.bk),y2,y3,y4]/\BkAt t H' d (jP D (gl.take i))/\Keep (bf6 d) H3 H') ⟨_,rfl,J.same s3,Keep.refl⟩ (λi ad H' hi U=>?_) (λi v ad H' hv U=>?_) (λad H' U=>?_)
.obtain⟨y4,rfl,I,k4⟩:=U;exact SqL.of (k4.k _ _ ap h3)
.obtain⟨y4,rfl,I,k4⟩:=U;rw[kZ]at hv;obtain⟨n,hn,rfl⟩:=kP.mp hv;obtain⟨hi,en⟩:=kC.mp hn;refine(iV rfl (iM I.o rfl ⟨_,rfl,d,_,n,rfl,I,(q1K (Z.qs O)).1.ok,ds,λH5 ay k5=>?_⟩));refine⟨_,rfl,?_,k4.trans (k5.mono (by intro x hx;simp[bf6]at hx ⊢;rcases hx with rfl|rfl<;>simp))⟩;rw[<-mQ hi,en,qAA];exact ay
obtain⟨y4,rfl,I,k4⟩:=U
rw[kB,gH]at I
exact⟨_,rfl,k d gl H' a5 I ds (Same.keepF (s1.trans s2) (a3.trans k4) nF) nF⟩)
inductive spFt(t:Adr)(vs:List V)(H:Hp)(Q:VK)(E:XK):Prop
|mk:∀c a m,∀B P:Nat,∀tl:Addr,vs=[.ref c,.ref tl]->H tl=some (.lst [])->ChipAt t.C_Chip H c a m->m.Ok->m.bl=(B:Int)->m.pg=(P:Int)->(m.lf=some 0->∀H',Same H H'->E (.ref t.C_PowerGone) none H')->(m.lf≠some 0->∃pg R q,Jf t H c a m pg R q B P/\∀v H',Same H H'->Q v H')->spFt t vs H Q E
theorem qEW(T:tXx)(S:tFf):S.faults.OkE P w mg base 8 (spFt t):=by(
refine S.faults.F.okE vP (λvs H Q E h=>?_) (λa6 A outer s H vs Q E hr h=>?_)
.repeat obtain⟨_,h⟩:=h
 all_goals subst_vars;rfl
obtain⟨c,a,m,B,P',tl,rfl,ht,hc,ok,eB,eP,dk,k⟩:=h
have hu:=q61 hr
refine⟨_,(qB (qP (i:=2) vP.nd rfl (Or.inr rfl) (zR qZ (q4G T S).mono hr rfl T.aBL T.aBT S.aCL.b .nil (qA (pv 0) qE))) (qB (qP (i:=3) vP.nd rfl (Or.inl rfl) (qT (pv 2) T.eI T.aA2 (q1Y T S).mono hr S.aAA.b .nil qK)) (qB (qP (i:=4) vP.nd rfl (Or.inr rfl) q7A) (qB (qP (i:=5) vP.nd rfl (Or.inl rfl) (jO qE)) (qB (vI dC rfl (jU (pv 1)) (q59 rfl (yS (jA (i:=6) vP.nd rfl (Or.inl rfl)) (yS (jA (i:=7) vP.nd rfl (Or.inl rfl)) q36))) (qB j9 (qB j9 (qC j9)))) (qC (qL (qN qHP (pv 5) (uN ["book","seen","sheet"] [2,4] rfl (jU (pv 3)) (λz z z z z=>(jA (i:=2) (show List.Nodup (["book","seen","sheet"]:List Str)from by decide) rfl (Or.inl rfl))) (λz z z z z=>(uA (qC3 (q9C hu (pv 2) (pv 1))))) (λz z z z z=>(yX (qA (pv 2) (qA (q6L hu (uB (K:=K) rfl (pv 0) rfl) (pv 2) (λz z=>rfl)) (qA yZ qE))))) (by kernel_rfl) (yF (by decide))))))))))),?_⟩
try dsimp-beta-proj-iota-zeta-eta only[wishK,cxK]
refine⟨_,rfl,c,a,m,B,P',rfl,hc,ok,eB,eP,dk,λz=>?_⟩
obtain⟨pg,R,q,j,k⟩:=k z
refine⟨pg,R,q,j,λka gl H1 be N ds s1 fr=>?_⟩
have ae:=(q1K (l:=gl) (j.rows.qs j.qs)).1
have h64:(hdN (jP q gl).V).length<64:=by refine dJ ?_ j.h64;rw[q5I];unfold hdN;exact(List.Sublist.filter _ (nN _ cN)).length_le
refine(iV rfl (iM N.o rfl ⟨ka,_,rfl,N,ae.ok,h64,λaa ns H2 s2 n2 h2 pm so=>?_⟩))
have az:ns.length<64:=by rw[pm.length_eq];exact h64
refine λU ak=>?_
have s3:Same H2 (upd H2 U (.dK [])):=Same.upd ak
have ad:(upd H2 U (.dK [])) U=some (.dK []):=qI
generalize upd H2 U (.dK [])=H3 at s3 ad ⊢
refine⟨sz0,λfd H4 n4 s4 h4=>?_⟩
have O:=((s1.trans s2).trans s3).trans s4
have an:=N.same ((s2.trans s3).trans s4)
have ab:=s4 _ _ (s3 _ _ h2)
refine⟨_,rfl,tl,rfl,⟨_,SqL.of (O _ _ ht)⟩,?_⟩
refine uI (K:=K) (xs:=[]) (λi ah H'=>ah=[some (.ref c),some (.ref tl),some (.ref ka.bk),some (.ref aa),some (.ref U),some (.ref fd),none,none,none]/\H'=H4) ⟨rfl,rfl⟩ (λi ah H' hi d=>by rw[d.2];exact SqL.of (O _ _ ht)) (λi v ah H' hv d=>by cases hv) (λah H' d=>?_)
obtain⟨rfl,rfl⟩:=d
refine⟨_,rfl,_,rfl,aa,rfl,⟨_,SqL.of ab⟩,λD H6 nD s6 hD=>?_⟩
refine v4 (K:=K) (xs:=ns.map V.int) (D:=D) (λi Z=>∃I,Same H' Z/\Z D=some (.lst I)/\I.length<=i) ⟨[],s6,hD,kO _⟩ (λi Z d=>by obtain⟨I,J,_⟩:=d;exact SqL.of (J _ _ ab)) (λi y Z hy d=>?_) (λZ d=>?_)
.obtain⟨I,J,hd,lw⟩:=d;rw[kZ]at hy;obtain⟨n,af,rfl⟩:=kP.mp hy;obtain⟨hi,en⟩:=kC.mp af;obtain⟨_,p,d⟩:=zK.mp (pm.mem_iff.mp (gD af));refine⟨_,rfl,_,rfl,U,_,rfl,DGet.k (k:=Sum.inl n) (J _ _ (s4 _ _ ad)),_,rfl,iteT ?_⟩;have ac:=an.same J;refine⟨_,rfl,iV rfl (iF ac.o T.eI T.eW rfl ⟨_,rfl,ka.wv,.int p,rfl,?_,sz3,λtq H8 n8 s8 h8=>?_⟩)⟩
 .have:=DGet.k (k:=Sum.inl n) ac.w;rw[q1H ae.ok.nd d]at this;exact this
 have aj:=s8 _ _ hd;have:(64:Nat)<sizeLine:=by decide
 refine⟨I,aj,by lia,I++[.ref tq],λb o e=>?_,qI,?_⟩
 .rw[qD (qH e nD)];exact s8 _ _ (J _ _ e)
 rw[mH,gK];lia
obtain⟨I,J,hd,lw⟩:=d
rw[kB]at lw
have:(64:Nat)<sizeLine:=by decide
exact⟨fd,D,[],I,rfl,rfl,J _ _ h4,hd,by show 0+ _<=_;lia,λDD HE nE sE hE=>k _ HE (O.trans (J.trans sE))⟩)
inductive spCu(t:Adr)(vs:List V)(H:Hp)(Q:VK)(E:XK):Prop
|mk:∀tm td c a r2 r3 r4 r5 ru,∀m:CM,∀B P:Nat,vs=[.ref c,.ref tm,ru]->H tm=some (.ins t.C_Terms td (teF (.int (B:Int)) (.int (P:Int)) r2 r3 r4 r5))->ChipAt t.C_Chip H c a m->m.Ok->TbF t H->(¬(m.bl=(B:Int)/\m.pg=(P:Int))->∀H',Same H H'->E (.ref t.C_NoTerms) none H')->(m.bl=(B:Int)->m.pg=(P:Int)->(m.lf=some 0->∀H',Same H H'->E (.ref t.C_PowerGone) none H')/\(m.lf≠some 0->∃pg R q,Jf t H c a m pg R q B P/\∀x dx k p gl H',gl.Perm ((hdN q.V).filter (gnB pg q.V))->StAt t H' ⟨x,dx,tm,td,c,a,k,ru,.ref p⟩ r2 r3 r4 r5 m (jP q gl)->H' p=some (.lst [])->H p=none->H x=none->(∀b∈bf k,H b=none)->p∉bf k->Same H H'->Q (.ref x) H'))->spCu t vs H Q E
theorem q8D(T:tXx)(S:tFf):S.aDR.OkE P w mg base 8 (spCu t):=by(
refine S.aDR.F.okE q7W (λvs H Q E h=>?_) (λav A outer s H vs Q E hr h=>?_)
.repeat obtain⟨_,h⟩:=h
 all_goals subst_vars;rfl
obtain⟨tm,td,c,a,r2,r3,r4,r5,ru,m,B,P',rfl,J,hc,ok,tb,nt,k⟩:=h
refine⟨_,(qB (qP (i:=3) q7W.nd rfl (Or.inl rfl) (qFO qZ T.aFU (q8Q T S).mono hr rfl T.aFR S.aBO.b .nil (qA (pv 0) (qA (pv 1) (qA (pv 2) qE))))) (qB (jH (pv 3) (zR qZ (q4G T S).mono hr rfl T.aBL T.aBT S.aCL.b .nil (qA (pv 0) qE)) rfl) (qC (qL (pv 3))))),?_⟩
try dsimp-beta-proj-iota-zeta-eta only[wishK,cxK]
refine⟨_,rfl,_,rfl,_,rfl,λx dx nx nd nn=>?_⟩
have s0:Same H (upd (upd H dx (.own x)) x (.ins t.C_Sure dx [])):=q1G nx nd
have ae:(upd (upd H dx (.own x)) x (.ins t.C_Sure dx [])) x=some (.ins t.C_Sure dx []):=qI
generalize upd (upd H dx (.own x)) x (.ins t.C_Sure dx [])=H0 at s0 ae ⊢
refine⟨x,dx,tm,td,c,a,r2,r3,r4,r5,ru,m,B,P',rfl,ae,s0 _ _ J,hc.same s0,λz=>nt z H0 s0,λeB eP=>?_⟩
obtain⟨dk,k⟩:=k eB eP
refine⟨by have:=ok.bl2;lia,tb.same s0,λkb p H1 st hp np fk off up=>⟨rfl,?_⟩⟩
have Z:Same H H1:=λb o e=>up b o (qH e nx) (s0 b o e)
have D:=st.o
refine⟨_,rfl,c,a,m,B,P',rfl,st.ch,ok,eB,eP,λz H' s'=>dk z H' (Z.trans s'),λz=>?_⟩
obtain⟨pg,R,q,j,k⟩:=k z
refine⟨pg,R,q,j.same Z,λI gl H2 al ai ds s2 fr=>?_⟩
have N:=s2 _ _ D
refine⟨_,rfl,x,_,dx,_,rfl,N,T.eE,T.eL,by show 5<1000;decide,_,rfl,?_⟩
have O:=st.same s2
have U:=Keep.upd (F:=[x]) (o:=.ins t.C_Sure dx [("chip",.ref c),("terms",.ref tm),("book",.ref I.bk),("rule",ru),("papers",.ref p)]) N (λd z=>by cases z) (by simp)
have af:(upd H2 x (.ins t.C_Sure dx [("chip",.ref c),("terms",.ref tm),("book",.ref I.bk),("rule",ru),("papers",.ref p)])) x=_:=qI
show Q (.ref x) (upd H2 x (.ins t.C_Sure dx [("chip",.ref c),("terms",.ref tm),("book",.ref I.bk),("rule",ru),("papers",.ref p)]))
generalize upd H2 x (.ins t.C_Sure dx [("chip",.ref c),("terms",.ref tm),("book",.ref I.bk),("rule",ru),("papers",.ref p)])=H3 at U af ⊢
have nb:∀b∈bf I,H1 b=none:=fr
have ak:∀b∈bf I,b∉[x]:=λb d z=>by rw[kE.mp z]at d;rw[nb x d]at D;cases D
have kp:∀b o,H b=some o->H3 b=some o:=λb o e=>U.k b o (by simpa using qH e nx) (s2 _ _ (Z _ _ e))
have px:p≠x:=jN hp D (by intro z;cases z)
refine k x dx I p gl H3 al ⟨af,?_,O.ch.keep U ?_,ai.keep U ak,?_,ds,?_,?_⟩ (U.k _ _ (by simpa using px) (s2 _ _ hp)) (s0.free np) nx (λb d=>Z.free (nb b d)) (λz=>by rw[nb p z]at hp;cases hp) kp
.have:=O.te;exact U.k _ _ (by simpa using qH J nx) this
.intro b d z;obtain⟨o,e,_⟩:=hc.has d;rw[kE.mp z,nx]at e;cases e
.exact O.tb.gen λb o to e=>U.k _ _ (by simpa using yW to e N q1X) e
.intro b d z;obtain⟨o,e,_⟩:=hc.has d;have:=nb b z;rw[Z _ _ e]at this;cases this
intro b d z
have d:b=x\/b=tm:=by simpa using d
have y0:b∈foot c a\/b∈bf I:=by simpa[sf]using z
rcases y0 with y|y
.exact st.d2 b (by simpa using d) (by unfold sf;exact gC _ y)
have n:=nb b y
rcases d with rfl|rfl
.rw[D]at n;cases n
rw[Z _ _ J]at n;cases n)
noncomputable def u9(x k:Int):Int:=(x%2147483647+7919*k+17)*48271%2147483647*((x%2147483647+7919*k+17)*48271%2147483647)%1000003
inductive spMix(vs:List V)(H:Hp)(Q:VK)(E_:XK):Prop
|mk:∀x k,vs=[.int x,.int k]->0<=k->k<=1000->Q (.int (u9 x k)) H->spMix vs H Q E_
theorem uT(T:tXx)(S:tFf):S.tG.Ok0 P w mg base 1 spMix:=by(
refine S.tG.F.ok0 q80 λd A U s H N Q E z h=>?_
obtain⟨x,k,rfl,D,O,q⟩:=h
refine⟨_,(qB (qP (i:=2) q80.nd rfl (Or.inl rfl) (qN yH (qN v3 (qN uZ (qN uZ (qN yH (pv 0) qG) (qN v3 qG (pv 1))) qG) qG) qG)) (qC (qL (qN yH (qN v3 (pv 2) (pv 2)) qG)))),?_⟩
try dsimp-beta-proj-iota-zeta-eta only[wishK,cxK]
have J:=vZ x 2147483647 (by decide)
have I:=vZ ((x%2147483647+7919*k+17)*48271) 2147483647 (by decide)
refine⟨_,rfl,iI ⟨(by show(0:Int)<2147483647;decide),_,rfl,iI ⟨.inl ⟨by decide,by decide⟩,iI (iI (iI ⟨.inr ⟨by decide,by decide⟩,iI ⟨(by show(0:Int)<2147483647;decide),?_⟩⟩))⟩⟩⟩
refine⟨_,rfl,_,rfl,iI ⟨.inl ⟨by lia,by lia⟩,iI ⟨(by show(0:Int)<1000003;decide),q⟩⟩⟩)
structure Rwt(B P:Nat)(s:Int)(r e:Nat)(d:Int):Prop where
b1:3<=B
b2:B<=6
p1:1<=P
p2:P<=4
e1:e+2<=B
r1:1<=r
r2:r+2<=(B-(1+e))*P
r3:r<=18
s1:(r:Int)+1<=s
s2:s<=r+3
d1:1<=d
d2:d<=1000000
noncomputable abbrev rwL(B P:Nat)(s:Int)(r e:Nat)(d:Int):List V:=[.int (B:Int),.int (P:Int),.int s,.int (r:Int),.int (e:Int),.int d]
inductive spTr(vs:List V)(H:Hp)(Q:VK)(E_:XK):Prop
|mk:∀c,vs=[.int c]->(∀B P r e:Nat,∀s d:Int,Rwt B P s r e d->NewO H (.lst (rwL B P s r e d)) Q)->spTr vs H Q E_
theorem q5X(T:tXx)(S:tFf):S.tI.Ok0 P w mg base 2 spTr:=by(
refine S.tI.F.ok0 jF λap A _ s H vs Q E I h=>?_
obtain⟨c,rfl,k⟩:=h
refine⟨_,(qB (qP (i:=1) jF.nd rfl (Or.inl rfl) (qN uZ qG (qN yH (qU (uT T S).mono I rfl T.iE T.iJ S.tG.b .nil qK (qA (pv 0) (qA qG qE))) qG))) (qB (qP (i:=2) jF.nd rfl (Or.inl rfl) (qN uZ qG (qN yH (qU (uT T S).mono I rfl T.iE T.iJ S.tG.b .nil qK (qA (pv 0) (qA qG qE))) qG))) (qB (qP (i:=3) jF.nd rfl (Or.inl rfl) (qN yH (qU (uT T S).mono I rfl T.iE T.iJ S.tG.b .nil qK (qA (pv 0) (qA qG qE))) (qN yL (pv 1) qG))) (vS (jC (qS zH (qN yH (qU (uT T S).mono I rfl T.iE T.iJ S.tG.b .nil qK (qA (pv 0) (qA qG qE))) qG) qG (qV _)) (qC (qP (i:=3) jF.nd rfl (Or.inl rfl) (qN yH (pv 3) qG))) qQ) (vS (jC (qS q4J (qN v3 (qN yL (qN yL (pv 1) qG) (pv 3)) (pv 2)) qG (qV _)) (qC (qP (i:=2) jF.nd rfl (Or.inl rfl) qG)) qQ) (qB (qP (i:=4) jF.nd rfl (Or.inl rfl) (qN yL (qN v3 (qN yL (qN yL (pv 1) qG) (pv 3)) (pv 2)) qG)) (qB (qP (i:=5) jF.nd rfl (Or.inl rfl) (jI (q8Y rfl) (by rfl) T.aFZ (by kernel_rfl) (qA qG (qA (qN yL (pv 4) (qN vR (qN yH (qU (uT T S).mono I rfl T.iE T.iJ S.tG.b .nil qK (qA (pv 0) (qA qG qE))) qG) qG)) qE)))) (qB (qP (i:=6) jF.nd rfl (Or.inl rfl) (j8 qY (jO (qA qG (qA qG (qA qG (qA qG qE))))) (qN yH (qU (uT T S).mono I rfl T.iE T.iJ S.tG.b .nil qK (qA (pv 0) (qA qG qE))) qG) (λz z=>rfl))) (qC (qL (jO (qA (pv 1) (qA (pv 2) (qA (qN uZ (qN uZ (pv 5) qG) (qN yH (qU (uT T S).mono I rfl T.iE T.iJ S.tG.b .nil qK (qA (pv 0) (qA qG qE))) qG)) (qA (pv 5) (qA (pv 3) (qA (pv 6) qE))))))))))))))))),?_⟩
try dsimp-beta-proj-iota-zeta-eta only[wishK,cxK]
refine⟨_,rfl,c,1,rfl,by decide,by decide,_,_,rfl,rfl,(by show(0:Int)<4;decide),iI ?_⟩
refine⟨_,rfl,c,2,rfl,by decide,by decide,_,_,rfl,rfl,(by show(0:Int)<4;decide),iI ?_⟩
try dsimp only
have c1:=vZ (u9 c 1) 4 (by decide)
have c2:=vZ (u9 c 2) 4 (by decide)
obtain⟨B,eB⟩:∃n:Nat,3+u9 c 1%4=(n:Int):=⟨(3+u9 c 1%4).toNat,by lia⟩
obtain⟨D,eP⟩:∃n:Nat,1+u9 c 2%4=(n:Int):=⟨(1+u9 c 2%4).toNat,by lia⟩
rw[eB,eP]
have b1:3<=B:=by lia
have b2:B<=6:=by lia
have O:1<=D:=by lia
have N:D<=4:=by lia
clear c1 c2 eB eP
refine⟨_,rfl,c,3,rfl,by decide,by decide,_,rfl,iI (iI ⟨(by show(0:Int)<(B:Int)-1;lia),?_⟩)⟩
try dsimp only
have c3:=vZ (u9 c 3) ((B:Int)-1) (by lia)
obtain⟨Z,ee⟩:∃n:Nat,u9 c 3%((B:Int)-1)=(n:Int):=⟨(u9 c 3%((B:Int)-1)).toNat,by lia⟩
rw[ee]
have U:Z+2<=B:=by lia
clear c3 ee
refine⟨λJ H'=>∃e:Nat,J=[some (.int c),some (.int (B:Int)),some (.int (D:Int)),some (.int (e:Int)),none,none,none]/\H=H'/\e+2<=B,?_,?_⟩
.refine⟨_,rfl,c,3,rfl,by decide,by decide,_,_,rfl,rfl,(by show(0:Int)<2;decide),rfl,_,rfl,?_⟩;refine ite2 (λz=>?_) (λz=>?_)
 .refine⟨_,rfl,iI ⟨(by show(0:Int)<2;decide),?_⟩⟩;exact⟨Z%2,rfl,rfl,by lia⟩
 exact⟨Z,rfl,rfl,U⟩
rintro J _ ⟨e,rfl,rfl,U⟩
obtain⟨w,ew⟩:∃n:Nat,(B:Int)-1-(e:Int)=(n:Int):=⟨B-1-e,by lia⟩
have w1:w=B-(1+e):=by lia
have w2:w<=5:=by lia
refine⟨λJ H'=>∃P:Nat,J=[some (.int c),some (.int (B:Int)),some (.int (P:Int)),some (.int (e:Int)),none,none,none]/\H=H'/\1<=P/\P<=4/\3<=w*P,?_,?_⟩
.refine⟨_,rfl,iI ⟨_,rfl,iI ⟨_,rfl,iI ⟨.inl ⟨by lia,by lia⟩,iI ⟨_,rfl,?_⟩⟩⟩⟩⟩;show if decide (((B:Int)-1-(e:Int))*(D:Int)<3)=true then _ else _;rw[ew,<-dA];refine ite2 (λz=>?_) (λz=>?_)
 .exact⟨3,rfl,rfl,by decide,by decide,by lia⟩
 have z:¬((w*D:Nat):Int)<3:=λy=>z (hC y);exact⟨D,rfl,rfl,O,N,by lia⟩
clear O N D
rintro J _ ⟨D,rfl,rfl,O,N,wp⟩
have wq:w*D<=5*4:=lS w2 N
refine⟨_,rfl,iI ⟨_,rfl,iI ⟨_,rfl,iI ⟨.inl ⟨by lia,by lia⟩,iI ?_⟩⟩⟩⟩
try dsimp only
rw[ew,<-dA]
obtain⟨M,eM⟩:∃n:Nat,((w*D:Nat):Int)-2=(n:Int):=⟨w*D-2,by lia⟩
rw[eM]
refine⟨_,rfl,_,rfl,c,4,rfl,by decide,by decide,_,_,rfl,rfl,(by show(0:Int)<4;decide),iI ⟨⟨by decide,by decide⟩,iI ⟨_,_,rfl,?_⟩⟩⟩
try dsimp only
have c4:=vZ (u9 c 4) 4 (by decide)
obtain⟨r,er,r1,r2⟩:∃n:Nat,(if(M:Int)-u9 c 4%4 / 2>1 then(M:Int)-u9 c 4%4 / 2 else 1)=(n:Int)/\1<=n/\n<=M:=by
 split
 .exact⟨((M:Int)-u9 c 4%4 / 2).toNat,by lia,by lia,by lia⟩
 exact⟨1,rfl,by decide,by lia⟩
rw[er]
clear c4 er
have c5:=vZ (u9 c 5) 4 (by decide)
have c6:=vZ (u9 c 6) 3 (by decide)
refine⟨sz4,λl1 H1 n1 s1 h1=>?_⟩
refine⟨_,rfl,c,5,rfl,by decide,by decide,_,_,rfl,rfl,(by show(0:Int)<4;decide),iL (k:=_) (v:=_) (SqL.of h1) (getV c5.1 (by show u9 c 5%4<4;lia)) ?_⟩
obtain⟨d,ed,d1,d2⟩:∃d:Int,([.int 1,.int 2,.int 3,.int 1000000]:List V).getD (u9 c 5%4).toNat .non=.int d/\1<=d/\d<=1000000:=by
 have:u9 c 5%4=0\/u9 c 5%4=1\/u9 c 5%4=2\/u9 c 5%4=3:=by lia
 rcases this with e|e|e|e<;>rw[e]
 .exact⟨1,rfl,by decide,by decide⟩
 .exact⟨2,rfl,by decide,by decide⟩
 .exact⟨3,rfl,by decide,by decide⟩
 exact⟨1000000,rfl,by decide,by decide⟩
try dsimp only
rw[ed]
refine⟨_,rfl,_,rfl,_,rfl,iI ⟨_,rfl,c,6,rfl,by decide,by decide,_,_,rfl,rfl,(by show(0:Int)<3;decide),iI ⟨_,rfl,_,rfl,_,rfl,by show 6<=sizeLine;decide,λl2 H2 n2 s2 h2=>?_⟩⟩⟩
exact k B D r e ((r:Int)+1+u9 c 6%3) d ⟨b1,b2,O,N,U,r1,by rw[<-w1];lia,by lia,by lia,by lia,d1,d2⟩ l2 H2 (s1.free n2) (s1.trans s2) h2)
inductive spOt(t:Adr)(vs:List V)(H:Hp)(Q:VK)(E_:XK):Prop
|mk:∀l c B P r e s d,vs=[.ref l,.int c]->H l=some (.lst (rwL B P s r e d))->Rwt B P s r e d->(∀x dx r2 r3 r4 r5 H',∀b p:Nat,Same H H'->H x=none->H' x=some (.ins t.C_Terms dx (teF (.int (b:Int)) (.int (p:Int)) r2 r3 r4 r5))->Q (.ref x) H')->spOt t vs H Q E_
theorem qAR(T:tXx)(S:tFf):S.aC0.Ok0 P w mg base 6 (spOt t):=by(
refine S.aC0.F.ok0 vH λal A _ s H vs Q E hr h=>?_
obtain⟨l,c,B,Z,r,e,s',d,rfl,hl,D,k⟩:=h
have b1:=D.b1
have b2:=D.b2
have p1:=D.p1
have p2:=D.p2
refine⟨_,(qB (qP (i:=2) vH.nd rfl (Or.inl rfl) (j8 qY (pv 0) qG (λz z=>rfl))) (qB (qP (i:=3) vH.nd rfl (Or.inl rfl) (j8 qY (pv 0) qG (λz z=>rfl))) (vS (jC (qS q27 (qN yH (pv 1) qG) qG (qV _)) (qC (qP (i:=2) vH.nd rfl (Or.inl rfl) (qN uZ qG (qN yH (qN vR (pv 1) qG) qG)))) qQ) (vS (jC (qS zH (qN yH (pv 1) qG) qG (qV _)) (qC (qP (i:=3) vH.nd rfl (Or.inl rfl) (qN uZ qG (qN yH (qN vR (pv 1) qG) qG)))) qQ) (qB (jC (qCE (PW.pt (q9S (qS zH (pv 2) (j8 qY (pv 0) qG (λz z=>rfl)) (qV _)) (q6J (qS zH (pv 3) (j8 qY (pv 0) qG (λz z=>rfl)) (qV _)))))) (qC (qL (q38 T.aDU (q0T T S).mono hr rfl T.aDL S.aBV .nil qK (qA (j8 qY (pv 0) qG (λz z=>rfl)) (qA (j8 qY (pv 0) qG (λz z=>rfl)) (qA (j8 qY (pv 0) qG (λz z=>rfl)) (qA (j8 qY (pv 0) qG (λz z=>rfl)) (qA (j8 qY (pv 0) qG (λz z=>rfl)) (qA (j8 qY (pv 0) qG (λz z=>rfl)) qE))))))))) qQ) (qC (qL (q38 T.aDU (q0T T S).mono hr rfl T.aDL S.aC3 S.aC8 qK (qA (pv 2) (qA (jI (q8Y rfl) (by rfl) T.aFZ (by kernel_rfl) (qA (pv 3) (qA (qN uZ qG (qN v3 (vJ qE9 (by rfl) T.aFX (by kernel_rfl) (qA (uM q4J (pv 2) qG (qV _)) qE)) qG)) qE))) (qA qG (qA qG qE)))))))))))),?_⟩
try dsimp-beta-proj-iota-zeta-eta only[wishK,cxK]
have I:=SqL.of (K:=K) hl
refine⟨_,rfl,l,_,0,_,rfl,rfl,I,rfl,?_⟩
refine⟨_,rfl,l,_,1,_,rfl,rfl,I,rfl,?_⟩
refine⟨λN H'=>∃b:Nat,N=[some (.ref l),some (.int c),some (.int (b:Int)),some (.int (Z:Int))]/\H=H'/\3<=b/\b<=16,?_,?_⟩
.refine⟨_,rfl,iI ⟨(by show(0:Int)<3;decide),rfl,_,rfl,?_⟩⟩;refine ite2 (λz=>?_) (λz=>?_)
 .refine⟨_,rfl,iI ⟨⟨by decide,by decide⟩,iI ⟨(by show(0:Int)<13;decide),iI ?_⟩⟩⟩;have c1:=vZ (c / 3) 13 (by decide);obtain⟨b,eb⟩:∃n:Nat,4+c / 3%13=(n:Int):=⟨(4+c / 3%13).toNat,by lia⟩;try dsimp only
  rw[eb];exact⟨b,rfl,rfl,by lia,by lia⟩
 exact⟨B,rfl,rfl,b1,by lia⟩
rintro N _ ⟨b,rfl,rfl,q1,q2⟩
refine⟨λN H'=>∃p:Nat,N=[some (.ref l),some (.int c),some (.int (b:Int)),some (.int (p:Int))]/\H=H'/\1<=p/\p<=16,?_,?_⟩
.refine⟨_,rfl,iI ⟨(by show(0:Int)<3;decide),rfl,_,rfl,?_⟩⟩;refine ite2 (λz=>?_) (λz=>?_)
 .refine⟨_,rfl,iI ⟨⟨by decide,by decide⟩,iI ⟨(by show(0:Int)<16;decide),iI ?_⟩⟩⟩;have c1:=vZ (c / 39) 16 (by decide);obtain⟨p,ep⟩:∃n:Nat,1+c / 39%16=(n:Int):=⟨(1+c / 39%16).toNat,by lia⟩;try dsimp only
  rw[ep];exact⟨p,rfl,rfl,by lia,by lia⟩
 exact⟨Z,rfl,rfl,p1,by lia⟩
rintro N _ ⟨p,rfl,rfl,O,g2⟩
refine⟨λ_ H'=>H=H',?_,?_⟩
.refine⟨_,rfl,_,rfl,l,_,0,_,rfl,rfl,I,rfl,rfl,_,rfl,?_⟩;refine ite2 (λz=>?_) (λz=>?_)
 .exact⟨_,rfl,_,rfl,l,_,1,_,rfl,rfl,I,rfl,rfl,_,rfl,rfl⟩
 exact rfl
rintro z _ rfl
cases z with
|true=>
 refine iteT ?_;refine⟨_,rfl,l,_,0,_,rfl,rfl,I,rfl,_,rfl,l,_,1,_,rfl,rfl,I,rfl,_,rfl,l,_,2,_,rfl,rfl,I,rfl,_,rfl,l,_,3,_,rfl,rfl,I,rfl,_,rfl,l,_,4,_,rfl,rfl,I,rfl,_,rfl,l,_,5,_,rfl,rfl,I,rfl,λx dx J U nn=>?_⟩;have ew:(B:Int)-1-(e:Int)=((B-(1+e):Nat):Int):=by have:=D.e1;lia
 have r1:=D.r1;have r2:=D.r2;have r3:=D.r3;have s1:=D.s1;have s2:=D.s2;have e1:=D.e1;refine⟨x,dx,_,_,_,_,_,_,rfl,qI,by lia,by lia,by lia,by lia,by lia,by lia,by lia,by rw[ew,<-dA];lia,by lia,by lia,D.d1,D.d2,λH1 h1 up=>⟨rfl,?_⟩⟩;exact k x dx _ _ _ _ H1 B Z (λb o e=>up b o (qH e J) (q1G J U b o e)) J h1
|false=>
 refine iteF ?_;refine⟨_,rfl,_,rfl,_,rfl,iI (.inr ⟨_,rfl,iI ⟨.inr ⟨by decide,by decide⟩,iI ⟨_,_,rfl,λx dx J U nn=>?_⟩⟩⟩)⟩;obtain⟨p2,e2,h1,h2,h3⟩:∃n:Nat,(if 1+(if decide ((b:Int)<4)=true then(1:Int)else 0)*2>(p:Int)then 1+(if decide ((b:Int)<4)=true then(1:Int)else 0)*2 else(p:Int))=(n:Int)/\1<=n/\n<=16/\3<=(b-1)*n:=by
  by_cases z:(b:Int)<4
  .rw[hC z,kM rfl];have:b=3:=by lia
   subst this;split
   .exact⟨3,rfl,by decide,by decide,by decide⟩
   exact⟨p,rfl,O,g2,by lia⟩
  rw[hX z,kI (show ¬(false=true) by decide)];have:=lS (show 3<=b-1 by lia) O;split
  .exact⟨1,rfl,by decide,by decide,by lia⟩
  exact⟨p,rfl,O,g2,this⟩
 try dsimp only
 rw[e2];have ew:(b:Int)-1-0=((b-1:Nat):Int):=by lia
 refine⟨x,dx,_,_,_,_,_,_,rfl,qI,by lia,by lia,by lia,by lia,by decide,by decide,by decide,by rw[ew,<-dA];lia,by decide,by lia,by decide,by decide,λH1 h1 up=>⟨rfl,?_⟩⟩;exact k x dx _ _ _ _ H1 b p2 (λb o e=>up b o (qH e J) (q1G J U b o e)) J h1)
inductive spKd(t:Adr)(vs:List V)(H:Hp)(Q:VK)(E_:XK):Prop
|mk:∀v,vs=[v]->((v=.non/\Q (.str "none") H)\/∃ea,v=.ref ea/\((XAny H ea (.ref t.C_NoTerms) none/\Q (.str "terms") H)\/(XAny H ea (.ref t.C_PowerGone) none/\Q (.str "dark") H)))->spKd t vs H Q E_
theorem q66(T:tXx)(S:tFf):S.aCD.Ok0 P w mg base 1 (spKd t):=by(
refine S.aCD.F.ok0 qBS λd A U s H D Q E z h=>?_
obtain⟨v,rfl,h⟩:=h
refine⟨_,(qB (jC (qS q71 (pv 0) yI (qV _)) (qC (qL yZ)) qQ) (qB (jC (jS (jI yO (by rfl) T.fM (by kernel_rfl) (qA (pv 0) (qA (jT rfl T.aDD rfl (v:=.ref t.C_NoTerms)) qE)))) (qC (qL yZ)) qQ) (qB (jC (jS (jI yO (by rfl) T.fM (by kernel_rfl) (qA (pv 0) (qA (jT rfl T.aB1 rfl (v:=.ref t.C_PowerGone)) qE)))) (qC (qL yZ)) qQ) (qC (qL yZ))))),?_⟩
try dsimp-beta-proj-iota-zeta-eta only[wishK,cxK]
rcases h with⟨rfl,k⟩|⟨ea,rfl,h⟩
.exact⟨_,rfl,rfl,_,rfl,iteT k⟩
refine⟨_,rfl,rfl,_,rfl,iteF ?_⟩
rcases h with⟨hx,k⟩|⟨hx,k⟩
.exact⟨_,rfl,.ref ea,_,_,_,_,rfl,rfl,.inr ⟨ea,_,none,rfl,rfl,hx,T.aE1,.inl rfl⟩,T.aBE,_,rfl,iteT k⟩
refine⟨_,rfl,.ref ea,_,_,_,_,rfl,rfl,.inr ⟨ea,_,none,rfl,rfl,hx,T.aBZ,.inl rfl⟩,T.aAI,_,rfl,iteF ?_⟩
exact⟨_,rfl,.ref ea,_,_,_,_,rfl,rfl,.inr ⟨ea,_,none,rfl,rfl,hx,T.aBZ,.inl rfl⟩,T.tQ,_,rfl,iteT k⟩)
inductive spLk(t:Adr)(vs:List V)(H:Hp)(Q:VK)(E_:XK):Prop
|mk:∀c a m,∀B P:Nat,∀w:Int,vs=[.ref c,.int w]->ChipAt t.C_Chip H c a m->m.Ok->m.bl=(B:Int)->m.pg=(P:Int)->(m.lf=some 0->∀H',Same H H'->Q (.str "dark") H')->(m.lf≠some 0->∃pg R q,Jf t H c a m pg R q B P/\∀H',Same H H'->Q (.str "none") H')->spLk t vs H Q E_
theorem q3R(T:tXx)(S:tFf):S.aAG.Ok0 P w mg base 9 (spLk t):=by(
refine S.aAG.F.ok0 vU λad A _ s H vs Q E J h=>?_
obtain⟨c,a,m,B,Z,w',rfl,hc,ok,U,O,N,k⟩:=h
refine⟨_,(qB (qP (i:=2) vU.nd rfl (Or.inl rfl) yI) (qB (q7C (λpins XE ES I ab=>(qC (jC (qS zH (pv 1) qG (qV _)) (qC (qX (zR I (q4G T S).mono J rfl T.aBL T.aBT S.aCL.b .nil (qA (pv 0) qE)))) (qC (qX (zR I (qEW T S).mono J rfl T.aFH T.aFB S.faults.b .nil (qA (pv 0) (qA (jO qE) qE qB1)))))))) (qJI (i:=3) vU.nd rfl rfl rfl (λea=>(jT rfl T.aBW rfl (v:=.ref t.C_WornError))) rfl (λea=>(qC (qP (i:=2) vU.nd rfl (Or.inl rfl) (pv 3)))) (q7B uU))) (qC (qL (qU (q66 T S).mono J rfl T.aCX T.aCP S.aCD.b .nil qK (qA (pv 2) qE)))))),?_⟩
try dsimp-beta-proj-iota-zeta-eta only[wishK,cxK]
refine⟨_,rfl,rfl,_,rfl,ite2 (λ_=>?_) (λ_=>?_)⟩
.refine⟨_,rfl,c,a,m,B,Z,rfl,hc,ok,U,O,λz H1 D ea d=>⟨_,T.fL,iteT ⟨_,rfl,_,rfl,_,rfl,.inr ⟨ea,rfl,.inr ⟨.inl qI,N z _ (D.trans (Same.upd d))⟩⟩⟩⟩,λz=>?_⟩;obtain⟨pg,R,q,j,k⟩:=k z;exact⟨pg,R,q,j,λka gl H1 z z z D z=>⟨_,rfl,_,rfl,.inl ⟨rfl,k H1 D⟩⟩⟩
refine⟨_,rfl,sz0,λtl H0 n0 s0 h0=>?_⟩
refine⟨c,a,m,B,Z,tl,rfl,h0,hc.same s0,ok,U,O,λz H1 D ea d=>⟨_,T.fL,iteT ⟨_,rfl,_,rfl,_,rfl,.inr ⟨ea,rfl,.inr ⟨.inl qI,N z _ ((s0.trans D).trans (Same.upd d))⟩⟩⟩⟩,λz=>?_⟩
obtain⟨pg,R,q,j,k⟩:=k z
exact⟨pg,R,q,j.same s0,λv H1 D=>⟨_,rfl,_,rfl,.inl ⟨rfl,k H1 (s0.trans D)⟩⟩⟩)
inductive spCm(t:Adr)(vs:List V)(H:Hp)(Q:VK)(E_:XK):Prop
|mk:∀tm td c a r2 r3 r4 r5,∀m:CM,∀B P:Nat,vs=[.ref c,.ref tm]->H tm=some (.ins t.C_Terms td (teF (.int (B:Int)) (.int (P:Int)) r2 r3 r4 r5))->ChipAt t.C_Chip H c a m->m.Ok->TbF t H->(¬(m.bl=(B:Int)/\m.pg=(P:Int))->∀tp H',Same H H'->H' tp=some (.tup [.str "terms",.non])->Q (.ref tp) H')->(m.bl=(B:Int)->m.pg=(P:Int)->(m.lf=some 0->∀tp H',Same H H'->H' tp=some (.tup [.str "dark",.non])->Q (.ref tp) H')/\(m.lf≠some 0->∃pg R q,Jf t H c a m pg R q B P/\∀tp x dx k p gl ru rd H',gl.Perm ((hdN q.V).filter (gnB pg q.V))->StAt t H' ⟨x,dx,tm,td,c,a,k,.ref ru,.ref p⟩ r2 r3 r4 r5 m (jP q gl)->H' p=some (.lst [])->H' ru=some (.ins t.C_Eldest rd [])->H' tp=some (.tup [.str "none",.ref x])->Same H H'->Q (.ref tp) H'))->spCm t vs H Q E_
theorem qC2(T:tXx)(S:tFf):S.aDM.Ok0 P w mg base 9 (spCm t):=by(
refine S.aDM.F.ok0 uY λai A _ s H vs Q E hr h=>?_
obtain⟨tm,td,c,a,r2,r3,r4,r5,m,B,P',rfl,O,hc,ok,tb,nt,k⟩:=h
refine⟨_,(qB (qP (i:=2) uY.nd rfl (Or.inl rfl) yI) (qB (qP (i:=3) uY.nd rfl (Or.inl rfl) yI) (qB (q7C (λpins XE ES U al=>(qC (qP (i:=3) uY.nd rfl (Or.inl rfl) (zR U (q8D T S).mono hr rfl T.aDF T.aDH S.aDR.b .nil (qA (pv 0) (qA (pv 1) (qA (qG0 T.aE6 rfl T.aDZ) qE))))))) (qJI (i:=4) uY.nd rfl rfl rfl (λea=>(jT rfl T.aBW rfl (v:=.ref t.C_WornError))) rfl (λea=>(qC (qP (i:=2) uY.nd rfl (Or.inl rfl) (pv 4)))) (q7B uU))) (qC (qL (yX (qA (qU (q66 T S).mono hr rfl T.aCX T.aCP S.aCD.b .nil qK (qA (pv 2) qE)) (qA (pv 3) qE)))))))),?_⟩
try dsimp-beta-proj-iota-zeta-eta only[wishK,cxK]
refine⟨_,rfl,_,rfl,λd rd nr nd nn=>?_⟩
have s0:Same H (upd (upd H rd (.own d)) d (.ins t.C_Eldest rd [])):=q1G nr nd
have h0:(upd (upd H rd (.own d)) d (.ins t.C_Eldest rd [])) d=some (.ins t.C_Eldest rd []):=qI
generalize upd (upd H rd (.own d)) d (.ins t.C_Eldest rd [])=H0 at s0 h0 ⊢
refine⟨tm,td,c,a,r2,r3,r4,r5,.ref d,m,B,P',rfl,s0 _ _ O,hc.same s0,ok,tb.same s0,λz H1 J ea I=>⟨_,T.aAH,iteT ⟨_,rfl,_,rfl,_,rfl,.inr ⟨ea,rfl,.inl ⟨.inl qI,_,rfl,sz2,λN H2 n2 D h2=>nt z N H2 (((s0.trans J).trans (Same.upd I)).trans D) h2⟩⟩⟩⟩,λeB eP=>?_⟩
obtain⟨dk,k⟩:=k eB eP
refine⟨λz H1 J ea I=>⟨_,T.fL,iteT ⟨_,rfl,_,rfl,_,rfl,.inr ⟨ea,rfl,.inr ⟨.inl qI,_,rfl,sz2,λN H2 n2 D h2=>dk z N H2 (((s0.trans J).trans (Same.upd I)).trans D) h2⟩⟩⟩⟩,λz=>?_⟩
obtain⟨pg,R,q,j,k⟩:=k z
refine⟨pg,R,q,j.same s0,λx dx kb p gl H1 Z st hp np nx fk po J=>?_⟩
exact⟨_,rfl,_,rfl,.inl ⟨rfl,_,rfl,sz2,λN H2 n2 D h2=>k N x dx kb p gl d rd H2 Z (st.same D) (D _ _ hp) (D _ _ (J _ _ h0)) h2 ((s0.trans J).trans D)⟩⟩)
inductive spAk(t:Adr)(vs:List V)(H:Hp)(Q:VK)(E_:XK):Prop
|mk:∀x k r pp X j lr B P,∀sr e:Nat,∀sh d c:Int,vs=[.ref x.s,.ref lr,.int c]->H lr=some (.lst (rwL B P sh sr e d))->1<=sh->XX t H x k sh sr r [] pp X->k.ev=true->R8 k sh sr X j->j<=31->(∀b Y H',XX t H' x k sh sr r [] pp Y->Keep (fx t x r pp) H H'->R8 k sh sr Y (j+1)->Y.s.q.B=X.s.q.B->Y.s.q.P=X.s.q.P->Q (.bl b) H')->spAk t vs H Q E_
theorem qCX(T:tXx)(S:tFf)(B:BmIn base mg):S.aEW.Ok0 P w mg base 18 (spAk t):=by(
refine S.aEW.F.ok0 q4A λcdv A U s H vs Q E hr h=>?_
obtain⟨x,k,r,pp,X,j,lr,B',P',sr,e,sh,d,c,rfl,hl,sh1,hx,ev,h8,j31,kk⟩:=h
have hS:=SqL.of (K:=K) hl
have s6:=h8.s6
have rcn:=h8.rcn
have psn:=h8.psn
refine⟨_,(qB (qP (i:=3) q4A.nd rfl (Or.inl rfl) q3K) (qB (q7C (λpins XE ES tk1 po1=>(qC (jC (qS zH (qN yH (pv 2) qG) qG (qV _)) (qC (qX (jM tk1 (pv 0) T.eE T.aC6 (q5V T S B).mono hr S.tF.b .nil (qA (jO (qA (qN yH (qN vR (pv 2) qG) (j8 (q4S (K:=K) rfl) (pv 1) qG (λU U=>rfl))) qE)) qE qB1)))) (qC (qX (jM tk1 (pv 0) T.eE T.aED (q8C T S B).mono hr S.aA1.b .nil (qA (qN yH (qN vR (pv 2) qG) (j8 (q4S (K:=K) rfl) (pv 1) qG (λU U=>rfl))) (qA (qN yH (pv 2) (qN qF0 qG qG)) qE)))))))) (q9X (λea=>(jT rfl T.aFC rfl (v:=.ref t.C_Full))) rfl (λea=>(qC (qP (i:=3) q4A.nd rfl (Or.inl rfl) q3K))) (q7B uU))) (qC (qL (pv 3))))),?_⟩
try dsimp-beta-proj-iota-zeta-eta only[wishK,cxK]
have y1:=vZ (c / 5) sh (by lia)
have v1:=vZ c (10 ^ 30) (by decide)
have h8':R8 k sh sr X (j+1):={ h8 with rcn:=by lia,psn:=by lia }
refine⟨_,rfl,iI ⟨(by show(0:Int)<5;decide),rfl,_,rfl,ite2 (λU=>?_) (λU=>?_)⟩⟩
.refine(iV rfl (iM hx.j.o rfl ⟨_,rfl,iI ⟨⟨by decide,by decide⟩,_,rfl,lr,_,2,_,rfl,rfl,hS,rfl,iI ⟨(by show 0<sh;lia),sz1,λl0 H1 n1 s1 h1=>?_⟩⟩⟩));have hx1:=hx.same s1;refine⟨x,k,sh,sr,r,[],pp,X,l0,[c / 5%sh],rfl,hx1,ev,h1,λn hn=>by rw[kE.mp hn];exact inBi y1.1 (by lia),λU H2 s2=>⟨_,rfl,kk _ X H2 (hx1.same s2) (Keep.same (s1.trans s2)) h8' rfl rfl⟩,λU=>?_⟩;obtain⟨hl',Y,p,hZ,h9,eB,eP⟩:=h8.give (g:=gvn X.s.hl [c / 5%sh]) λm hm=>(mK.mp hm).1;exact⟨17,_,by lia,by lia,hl',hZ,λH2 h2 k2=>⟨_,rfl,kk _ _ H2 h2 ((Keep.same s1).trans k2) h9 eB eP⟩⟩
refine(iV rfl (iM hx.j.o rfl ⟨_,rfl,iI ⟨⟨by decide,by decide⟩,_,rfl,lr,_,2,_,rfl,rfl,hS,rfl,iI ⟨(by show 0<sh;lia),?_⟩⟩⟩))
refine⟨_,rfl,iI ⟨⟨by decide,by decide,by decide⟩,iI ⟨(by show(0:Int)<10 ^ 30;decide),?_⟩⟩⟩
have hi:hold X.s.q (c / 5%sh)=decide (c / 5%sh∈hdN X.s.q.V):=rfl
by_cases ff:hold X.s.q (c / 5%sh)=false/\(sr:Int)<=((hdN X.s.q.V).length:Int)
.exact⟨x,k,sh,sr,r,[],pp,X,_,_,17,(X,.ok 0),rfl,hx,ev,by lia,by lia,s6,inBi y1.1 (by lia),inBi v1.1 (by show c%10 ^ 30<=10 ^ 30-1;lia),λU H2 s2 ea hea=>⟨_,T.aD8,iteT ⟨_,rfl,kk _ X H2 (hx.same s2) (Keep.same s2) h8' rfl rfl⟩⟩,λn=>(n ff).elim⟩
obtain⟨hl',Y,p,hZ,h9,eB,eP⟩:=h8.sheet (n:=c / 5%sh) (v:=c%10 ^ 30) y1.1 y1.2 λz=>ff ⟨by rw[hi];exact hX z.1,by have:=z.2;lia⟩
exact⟨x,k,sh,sr,r,[],pp,X,_,_,17,(Y,.ok p),rfl,hx,ev,by lia,by lia,s6,inBi y1.1 (by lia),inBi v1.1 (by show c%10 ^ 30<=10 ^ 30-1;lia),λn=>(ff n).elim,λU=>⟨hl',hZ,λH2 h2 k2=>⟨_,rfl,kk _ Y H2 h2 k2 h9 eB eP⟩⟩⟩)
noncomputable def RE(H H':Hp):Prop:=∀b o,(∀ps,o≠ .tbl ps)->H b=some o->H' b=some o
theorem RE.keep{H Hi Hj:Hp}{F:List Addr}(r:RE H Hi)(k:Keep F Hi Hj)(f:∀b∈F,H b=none\/∃ps,H b=some (.tbl ps)):RE H Hj:=λb o nb e=>k.k b o (λz=>by
 rcases f b z with z|⟨ps,z⟩
 .rw[z]at e;cases e
 rw[z]at e;exact nb ps (kQ e).symm) (r b o nb e)
theorem RE.same{H Hi Hj:Hp}(r:RE H Hi)(s:Same Hi Hj):RE H Hj:=λb o nb e=>s b o (r b o nb e)
theorem RE.sq{H Hi:Hp}{sa:Addr}{xs:List V}(r:RE H Hi)(h:SqL K H sa xs):SqL K Hi sa xs:=by(
rcases h with(h|⟨ob,h⟩)|h
.exact .inl (.inl (r _ _ (λd z=>by cases z) h))
.exact .inl (.inr ⟨ob,r _ _ (λd z=>by cases z) h⟩)
exact .inr h)
theorem qJB{H:Hp}{a b:Addr}{rs us:List V}{ds:List (Str×Int×Bool)}(ha:H a=some (.lst rs))(hb:H b=some (.lst us))(ra:Recd H rs ds)(rb:Recd H us ds):Eqv K H 6 (.ref a) (.ref b):=by(
refine .lst (SqL.of ha) (SqL.of hb) (by rw[ra.len,rb.len]) λi x y N O=>?_
obtain⟨d,J,p,rfl,I⟩:=Paired.at ra N
obtain⟨S,z,U,rfl,D⟩:=Paired.at rb O
rw[J]at z
cases z
exact qEK (SqT.of I) (SqT.of D) (by simp[q0B]))
theorem qHC{H:Hp}{rs ds:List V}{L:List (List Int)}{p r:Addr}(n:Nat)(hp:H p=some (.lst rs))(hq:H r=some (.lst ds))(t1:Paired (TupD H) rs L)(t2:Paired (TupD H) ds L):Eqv K H (n+2) (.ref p) (.ref r):=by(
refine .lst (SqL.of hp) (SqL.of hq) (t1.len.trans t2.len.symm) λj x y O U=>?_
obtain⟨b,N,x',rfl,d⟩:=Paired.at t1 O
obtain⟨Z,J,y',rfl,I⟩:=Paired.at t2 U
obtain rfl:b=Z:=kQ (N.symm.trans J)
refine .tup (SqT.of d) (SqT.of I) rfl λi u v D S=>?_
obtain rfl:u=v:=kQ (D.symm.trans S)
rw[kZ]at D
obtain⟨z,_,rfl⟩:=kP.mp D
exact .flat rfl)
theorem Fb.len{k:Tm}{s:XS}{R:List (Int×Nat×Int)}{q:QM}(h:Fb s R q)(w:WX k s):R.length<=s.q.B*s.q.P:=by(
obtain⟨d,z,_⟩:=h.rows.pages w.qs.ok.p1 gP
have O:=w.qs.ok.p1
have N:q.B=s.q.B:=h.rows.sh.1
have I:q.P=s.q.P:=h.rows.sh.2
have:=q9H (m:=List.range (s.q.B*s.q.P)) z λp J=>by obtain⟨r,D,rfl⟩:=mF.mp J;have:=(d r D).1;rw[N,I]at this;exact mO.mpr ((rV (by lia)).mp this)
rwa [kB,mV]at this)
theorem qHD{H:Hp}{tp d1 d2 d3 d4 tq e1 e2 e3 e4:Addr}{us vs:List V}{rs:List (List Int)}{lv fi bo:List Int}{nx:Int}(h:TellAt H tp d1 d2 d3 d4 us rs lv fi bo nx)(g:TellAt H tq e1 e2 e3 e4 vs rs lv fi bo nx):Eqv K H 6 (.ref tp) (.ref tq):=by(
have I:∀{a b:Addr} {l:List Int},H a=some (.lst (l.map V.int))->H b=some (.lst (l.map V.int))->Eqv K H 5 (.ref a) (.ref b):=λN J=>.lst (SqL.of N) (SqL.of J) rfl λi x y d D=>by obtain rfl:x=y:=kQ (d.symm.trans D);rw[kZ]at d;obtain⟨z,_,rfl⟩:=kP.mp d;exact .flat rfl
refine .tup (SqT.of h.o) (SqT.of g.o) rfl λi x y d D=>?_
match i,d,D with
|0,d,D=>cases d;cases D;exact qHC 3 h.w g.w h.p g.p
|1,d,D=>cases d;cases D;exact I h.l g.l
|2,d,D=>cases d;cases D;exact I h.f g.f
|3,d,D=>cases d;cases D;exact I h.b g.b
|4,d,D=>cases d;cases D;exact .flat rfl)
theorem qLO(T:tXx)(S:tFf)(B:BmIn base mg):S.law.Ok0 P w mg base 19 (q5G K [t.eC,t.eD]):=by(
refine S.law.F.ok0 vQ λgx A _ s H vs Q E J h=>?_
obtain⟨a,ns,rfl,hS,gn,cw,k⟩:=h
have hT:H t.eC=some (.tbl #[]):=cw _ (by simp)
have cb:H t.eD=some (.tbl #[]):=cw _ (by simp)
have hu:=q61 J
refine⟨_,(qB (qP (i:=1) vQ.nd rfl (Or.inl rfl) (qU (q5X T S).mono J rfl T.aB2 T.aB7 S.tI.b .nil qK (qA (qU (q04 T S).mono J rfl T.oO T.oR S.i8.b .nil qK (qA (pv 0) (qA qG qE))) qE))) (qB (qP (i:=2) vQ.nd rfl (Or.inl rfl) (q38 T.aFQ (qAM T S).mono J rfl T.aFV S.aDV S.aDS qK (qA (j8 qY (pv 1) qG (λz z=>rfl)) (qA (j8 qY (pv 1) qG (λz z=>rfl)) qE)))) (qB (qP (i:=3) vQ.nd rfl (Or.inl rfl) (zR uU (q8D T S).mono J rfl T.aDF T.aDH S.aDR.b .nil (qA (pv 2) (qA (q38 T.aDU (q0T T S).mono J rfl T.aDL S.aBV .nil qK (qA (j8 qY (pv 1) qG (λz z=>rfl)) (qA (j8 qY (pv 1) qG (λz z=>rfl)) (qA (j8 qY (pv 1) qG (λz z=>rfl)) (qA (j8 qY (pv 1) qG (λz z=>rfl)) (qA (j8 qY (pv 1) qG (λz z=>rfl)) (qA (j8 qY (pv 1) qG (λz z=>rfl)) qE))))))) (qA (qG0 T.aE4 rfl T.aCV) qE))))) (qB (vI wY rfl (q8X rfl T.aCU (qA qG (qA (jI (qE8 rfl) (by rfl) T.aFS (by kernel_rfl) (qA (jI yM (by rfl) T.aEY wP (qA (pv 0) qE)) (qA qG qE))) qE))) (jA (i:=4) vQ.nd rfl (Or.inl rfl)) (qC (qX (qU (qCX T S B).mono J rfl T.aE2 T.aE8 S.aEW.b .nil qK (qA (pv 3) (qA (pv 1) (qA (j8 qY (pv 0) (pv 4) (λz z=>rfl)) qE))))))) (qB (qP (i:=5) vQ.nd rfl (Or.inl rfl) (qU (qAR T S).mono J rfl T.aD2 T.aD1 S.aC0.b .nil qK (qA (pv 1) (qA (qU (q04 T S).mono J rfl T.oO T.oR S.i8.b .nil qK (qA (pv 0) (qA qG qE))) qE)))) (qB (qP (i:=6) vQ.nd rfl (Or.inl rfl) (uM zH (qN yH (qU (q04 T S).mono J rfl T.oO T.oR S.i8.b .nil qK (qA (pv 0) (qA qG qE))) qG) qG (qV _))) (qB (qP (i:=7) vQ.nd rfl (Or.inl rfl) (qT (pv 2) T.eG T.aBX (q3Q T S).mono J S.aAF.b .nil qK)) (qB (qX (jD (pv 2) T.eG T.aB4 (q51 T S).mono J S.oQ.b .nil qK (qA qG qE))) (vS (jC (yU (jS (pv 6))) (qC (qX (qT (pv 2) T.eG T.aCW (q5U T S).mono J S.tM.b .nil qK))) qQ) (qB (qP (i:=8) vQ.nd rfl (Or.inl rfl) yZ) (vS (jC (jS (pv 6)) (qC (qP (i:=8) vQ.nd rfl (Or.inl rfl) yZ)) qQ) (qB (jC (qCE (PW.pt (q8W (qS q27 (qU (q3R T S).mono J rfl T.aA8 T.aBA S.aAG.b .nil qK (qA (pv 2) (qA qG qE))) (pv 8) (qV _)) (q6W (qS q27 (qU (q3R T S).mono J rfl T.aA8 T.aBA S.aAG.b .nil qK (qA (pv 2) (qA qG qE))) (pv 8) (qV _)))))) (qC (qL q3K)) qQ) (vS (jC (PW.pt (q8W (qS q27 (qJ (pv 5) rfl) (j8 qY (pv 1) qG (λz z=>rfl)) (qV _)) (q6W (qS q27 (qJ (pv 5) rfl) (j8 qY (pv 1) qG (λz z=>rfl)) (qV _))))) (qC (qP (i:=8) vQ.nd rfl (Or.inl rfl) yZ)) qQ) (vS (q5A (qU (qC2 T S).mono J rfl T.aER T.aE0 S.aDM.b .nil qK (qA (pv 2) (qA (pv 5) qE))) (q59 rfl (yS (jA (i:=9) vQ.nd rfl (Or.inl rfl)) (yS (jA (i:=10) vQ.nd rfl (Or.inl rfl)) q36)))) (qB (jC (qCE (PW.pt (q8W (qS q27 (pv 9) (pv 8) (qV _)) (q6W (qS (qL0 J.units) (qT (pv 2) T.eG T.aBX (q3Q T S).mono J S.aAF.b .nil qK) (pv 7) (qV _)))))) (qC (qL q3K)) qQ) (qB (jC (qS q27 (pv 8) yZ (qV _)) (qC (qL q3K)) qQ) (qB (jC (PW.pt (q8W (yU (jS (jI yO (by rfl) T.fM (by kernel_rfl) (qA (qJ (pv 10) rfl) (qA (jT rfl T.aDZ rfl (v:=.ref t.C_Eldest)) qE))))) (q8W (jS (jI yO (by rfl) T.fM (by kernel_rfl) (qA (qJ (pv 10) rfl) (qA (jT rfl T.aCV rfl (v:=.ref t.C_Fewest)) qE)))) (q6W (yU (jS (jI yO (by rfl) T.fM (by kernel_rfl) (qA (qJ (pv 3) rfl) (qA (jT rfl T.aCV rfl (v:=.ref t.C_Fewest)) qE))))))))) (qC (qL q3K)) qQ) (qC (qL (q58 (uM (q7G J.units) (qJ (pv 10) rfl) (jO qE) (qV _)) (q26 (uM (qKZ J.units) (qT (qJ (pv 10) rfl) T.eI T.aCF (q57 T S).mono J S.aA9.b .nil qK) (qT (qJ (pv 3) rfl) T.eI T.aCF (q57 T S).mono J S.aA9.b .nil qK) (qV _))))))))))))))))))))))),?_⟩
try dsimp-beta-proj-iota-zeta-eta only[wishK,cxK]
refine⟨_,rfl,a,ns,0,rfl,hS,by decide,_,rfl,λI U sr e s' d D l0 H1 n0 s1 h1=>?_⟩
have b1:=D.b1
have b2:=D.b2
have p1:=D.p1
have p2:=D.p2
have e1:=D.e1
have r1:=D.r1
have r2:=D.r2
have r3:=D.r3
have g1:=D.s1
have g2:=D.s2
have b4:=SqL.of (K:=K) h1
refine⟨_,rfl,l0,_,0,_,rfl,rfl,b4,rfl,_,rfl,l0,_,1,_,rfl,rfl,b4,rfl,?_⟩
dsimp only[tNil]
refine qMN (by lia) (by lia) (by lia) (by lia) (by decide) (by decide) ?_
refine λch ca H6 hc sC fC=>?_
have af:=SqL.of (K:=K) (sC _ _ h1)
refine⟨_,rfl,_,rfl,l0,_,0,_,rfl,rfl,af,rfl,_,rfl,l0,_,1,_,rfl,rfl,af,rfl,_,rfl,l0,_,2,_,rfl,rfl,af,rfl,_,rfl,l0,_,3,_,rfl,rfl,af,rfl,_,rfl,l0,_,4,_,rfl,rfl,af,rfl,_,rfl,l0,_,5,_,rfl,rfl,af,rfl,?_⟩
dsimp only[tNil,wQ,dY]
have ew:(I:Int)-1-(e:Int)=((I-(1+e):Nat):Int):=by lia
refine qMO (by lia) (by lia) (by lia) (by lia) (by lia) (by lia) (by lia) (by rw[ew,<-dA];lia) (by lia) (by lia) D.d1 D.d2 ?_
intro tm td H7 s7 bv
refine λZ dr a1 en hz=>?_
have s8:Same H7 (upd (upd H7 dr (.own Z)) Z (.ins t.C_Fewest dr [])):=q1G a1 en
have a4:RuX t (upd (upd H7 dr (.own Z)) Z (.ins t.C_Fewest dr [])) Z [] (.rk λz z=>Tl.lv):=⟨dr,qI,rfl⟩
generalize upd (upd H7 dr (.own Z)) Z (.ins t.C_Fewest dr [])=H8 at s8 a4 ⊢
have be:=(s1.trans sC).trans s7
have au:=be.trans s8
have a0:=hc.same (s7.trans s8)
have c0:TbF t H8:=⟨#[],au _ _ hT,.inl rfl,#[],au _ _ cb,.inl rfl⟩
have br:(CM.new (I:Int) (U:Int) 1000000 []).Ok:=qFS (by lia) (by lia) (by lia) (by lia) (λb v e=>by cases e)
obtain⟨kt,av⟩:∃kt:Tm,kt=⟨e,d,true⟩:=⟨_,rfl⟩
have y0:R8 kt s' sr ⟨newX I U,.rk λz z=>Tl.lv,[]⟩ 0:=R8.new (by lia) p1 (by lia) (by rw[av];show 1+e<I;lia) (by rw[av];exact D.d1) trivial (by rw[av];exact r2) (by lia) (by lia)
refine⟨tm,td,ch,ca,_,_,_,_,.ref Z,_,I,U,rfl,s8 _ _ bv,a0,br,c0,λz=>(z ⟨rfl,rfl⟩).elim,λ_ _=>⟨(λz=>by cases z),λ_=>⟨λ_=>none,[],bk0 I U,⟨a0,br,(λz=>by cases z),rfl,rfl,.nil,y0.x.w.qs,⟨λi z=>rep8,λi v e=>(by cases e)⟩,⟨λi v e=>(by cases e),λr J=>absurd J (by simp)⟩,λi v e=>(by cases e),m7 _⟩,λsA sd kb pp gl H9 as bu c2 ag nA fk po a5=>?_⟩⟩⟩
have fe:gl=[]:=List.Perm.eq_nil as
subst fe
have c1:=au.trans a5
obtain⟨_,_,_,cd⟩:=a4.ins
obtain⟨X,eX⟩:∃X:Sto,X=⟨sA,sd,tm,td,ch,ca,kb,.ref Z,.ref pp⟩:=⟨_,rfl⟩
have off:pp∉t.eC::sf X:=λz=>by
 rw[eX]at z;have z:pp=t.eC\/pp∈foot ch ca\/pp∈bf kb:=by simpa[sf]using z
 rcases z with z|z|z
 .rw[z,au _ _ hT]at ag;cases ag
 .obtain⟨o,e',_⟩:=a0.has (hU _ z);rw[ag]at e';cases e'
 exact po z
have of:Off t X [Z]:=by rw[eX];exact qLN (hc.same s7) bv (be _ _ hT) (be _ _ cb) (λu hu=>by rw[kE.mp hu];exact a1) (λu hu=>by rw[kE.mp hu];exact⟨_,cd⟩) nA (Same.refl H8) fk
rw[<-eX]at bu
have ba:XX t H9 X kt s' (sr:Int) Z [] pp ⟨newX I U,.rk λz z=>Tl.lv,[]⟩:=qLM (by rw[av];exact bu) (by rw[eX]) (a4.keep (Keep.same a5) (F:=[]) (by simp)) of (by rw[eX]) c2 off (λz=>by rw[kE.mp z,cd]at ag;cases ag) (by lia) (by lia) p1 (by lia) y0.x.w
have b5:∀b∈fx t X Z pp,H1 b=none\/∃ps,H1 b=some (.tbl ps):=by
 intro b hb;rw[eX]at hb;have hb:b=pp\/b=Z\/b=t.eD\/b=t.eC\/b∈foot ch ca\/b∈bf kb:=by simpa[sf]using hb
 have cu:=(sC.trans s7).trans s8;rcases hb with hb|hb|hb|hb|hb|hb
 .exact .inl (by rw[hb];exact cu.free ag)
 .exact .inl (by rw[hb];exact(sC.trans s7).free a1)
 .exact .inr ⟨_,by rw[hb];exact s1 _ _ cb⟩
 .exact .inr ⟨_,by rw[hb];exact s1 _ _ hT⟩
 .exact .inl (fC b (hU _ hb))
 exact .inl (cu.free (fk b hb))
have ek:∀b∈fx t X Z pp,H b=none\/∃ps,H b=some (.tbl ps):=λb hb=>by
 rcases b5 b hb with n|⟨ps,n⟩
 .exact .inl (s1.free n)
 cases z:H b with
 |none=>exact .inl rfl
 |some o=>rw[s1 _ _ z]at n;exact .inr ⟨ps,n⟩
have cp:l0∉fx t X Z pp:=λz=>by rcases b5 l0 z with n|⟨ps,n⟩<;>rw[h1]at n<;>cases n
have h9:=a5 _ _ (s8 _ _ (s7 _ _ (sC _ _ h1)))
have cc:RE H H9:=λb o _ e=>c1 b o e
have ev:kt.ev=true:=by rw[av]
rw[show sA=X.s by rw[eX],show ch=X.c by rw[eX]]
clear bu off c2 ag fk po c0 a0 au be s8 s7 bv sC fC hc af b4 h1 nA a1 a5 c1 of cd a4 eX br ew b5
generalize hx0:newX I U=x0 at ba y0
have d0:x0.q.B=I:=by rw[<-hx0];rfl
have ff:x0.q.P=U:=by rw[<-hx0];rfl
clear hx0
generalize (Rl.rk λz z=>Tl.lv)=g0 at ba y0
obtain⟨F,eF⟩:∃F:Option V->Option V->Option V->Option V->Option V->Option V->Option V->St,F=λy4 y5 y6 y7 y8 y9 fa=>[some (.ref a),some (.ref l0),some (.ref X.c),some (.ref X.s),y4,y5,y6,y7,y8,y9,fa]:=⟨_,rfl⟩
refine⟨_,rfl,a,_,rfl,.inl (cc.sq hS),_,_,rfl,?_⟩
obtain⟨hi,eh,ic,h3⟩:∃h:Nat,(if(33:Int)<((ns.map V.int).length:Nat)then(33:Int)else((ns.map V.int).length:Nat))=(h:Int)/\h<=33/\h<=ns.length:=by
 rw[kB];by_cases z:(33:Int)<(ns.length:Nat)
 .exact⟨33,kM z,by lia,by lia⟩
 exact⟨ns.length,kI z,by lia,by lia⟩
rw[eh]
refine⟨_,_,rfl,⟨by decide,by decide,by lia,by lia⟩,?_⟩
refine qCR (λu ai H'=>∃y4 Y,ai=F y4 none none none none none none/\XX t H' X kt s' (sr:Int) Z [] pp Y/\R8 kt s' sr Y u/\Y.s.q.B=I/\Y.s.q.P=U/\H' l0=some (.lst (rwL I U s' sr e d))/\RE H H') ⟨_,_,by rw[eF];rfl,ba,y0,d0,ff,h9,cc⟩ (λu ai H3 D' fg h0 hp=>?_) (λai H3 hp=>?_)
.obtain⟨y4,Y,ad,hx,h8,eB,eP,hl,rt⟩:=hp;rw[eF]at ad;subst ad;have e9:3+u<ns.length:=by lia
 have c3:atI (ns.map V.int) (3+(u:Int))=some (.int ns[3+u]):=by refine(show atI (ns.map V.int) ((3+u:Nat):Int)=_ from zJ ?_);rw[kZ,kF e9];rfl
 generalize ns[3+u]=z at c3;refine⟨_,rfl,_,rfl,_,rfl,_,rfl,a,_,_,.int z,rfl,rfl,rt.sq hS,c3,?_⟩;exact⟨X,kt,Z,pp,Y,u,l0,I,U,sr,e,s',d,z,rfl,hl,by lia,hx,ev,h8,by lia,λb Y2 H4 ap k4 fn fp ei=>fg _ _ ⟨_,Y2,by rw[eF];rfl,ap,fn,fp.trans eB,ei.trans eP,k4.k _ _ cp hl,rt.keep k4 ek⟩⟩
obtain⟨y4,Y,ad,hx,h8,eB,eP,hl,rt⟩:=hp
rw[eF]at ad
subst ad
clear ba y0 h9 cc
refine⟨_,rfl,_,rfl,a,ns,1,rfl,rt.sq hS,by decide,l0,_,I,U,sr,e,s',d,rfl,hl,D,λtx cy q2 q3 q4 q5 H4 b p s4 de da=>?_⟩
have cz:=rt.same s4
have ap:=hx.same s4
refine⟨_,rfl,a,ns,2,rfl,cz.sq hS,by decide,_,_,rfl,rfl,(by show(0:Int)<3;decide),rfl,?_⟩
obtain⟨m4,a2,fl,ep,c6,_⟩:=ap.chip
refine(iV rfl (iM a2.ins rfl ⟨X.c,X.a,m4,rfl,a2,λrs fu aw l7 H5 n7 s5 h5=>?_⟩))
have db:=ap.same s5
obtain⟨m,hc,ok,am,bb,e6,N,O,ce,b0⟩:=db.chip
refine(iV rfl (iM hc.ins rfl ⟨X.c,X.a,m,0,rfl,hc,by decide,by decide,λH6 bh k6=>?_⟩))
generalize decide (V.int (q5D ns 2%3)=V.int 0)=dk
have c5:=b0 (some 0) (λi e=>by cases e;exact gE _) H6 bh k6
refine⟨λai H'=>ai=F y4 (some (.ref tx)) (some (.bl dk)) (some (.ref l7)) none none none/\XX t H' X kt s' (sr:Int) Z [] pp ⟨{ Y.s with lf:=if dk=true then some 0 else none },Y.g,Y.ps⟩/\Keep (foot X.c X.a) H5 H',?_,?_⟩
.refine⟨_,rfl,dk,rfl,?_⟩;cases dk with
 |true=>exact iteF ⟨by rw[eF];rfl,c5,k6⟩
 |false=>exact iteT (iV rfl (iM bh.ins rfl ⟨X.c,X.a,_,rfl,bh,λH7 e0 k7=>⟨by rw[eF];rfl,b0 none (λi e=>by cases e) H7 e0 (k6.trans k7),k6.trans k7⟩⟩))
clear c5 bh k6
rintro ai H7 ⟨ad,bz,k7⟩
rw[eF]at ad
subst ad
have nF:∀{b:Addr},H3 b=none\/H4 b=none->b∉foot X.c X.a:=fun {b} n z=>by
 obtain⟨o,e',_⟩:=a2.has (hU _ z);rcases n with n|n
 .obtain⟨m3,el,_⟩:=hx.chip;obtain⟨o3,e3,_⟩:=el.has (hU _ z);rw[n]at e3;cases e3
 rw[n]at e';cases e'
have cv:=k7.k _ _ (nF (.inl de)) (s5 _ _ da)
have eg:=k7.k _ _ (nF (.inr n7)) h5
have eo:H7 l0=some (.lst (rwL I U s' sr e d)):=k7.k _ _ (λz=>cp (by unfold fx sf;exact hU _ (hU _ (hU _ (hU _ (gC _ z)))))) (s5 _ _ (s4 _ _ hl))
have cr:Recd H7 rs Y.s.rc:=by rw[c6]at aw;exact Paired.mapP aw λv d ⟨p',e',h'⟩=>⟨p',e',k7.tp _ _ (s5 _ _ h')⟩
clear a2 fl ep c6 fu aw hc ok am bb e6 N O ce b0 db ap hl da h5 s5 n7 s4 de cz k7 nF
refine⟨λai H'=>∃dS:Str,ai=F y4 (some (.ref tx)) (some (.bl dk)) (some (.ref l7)) (some (.str dS)) none none/\H7=H'/\(dk=true->dS="dark")/\(dk=false->dS="none"),?_,?_⟩
.refine⟨_,rfl,dk,rfl,?_⟩;cases dk with
 |true=>exact iteT ⟨"dark",by rw[eF];rfl,rfl,λd=>rfl,λz=>by cases z⟩
 |false=>exact iteF ⟨"none",by rw[eF];rfl,rfl,(λz=>by cases z),λz=>rfl⟩
rintro ai _ ⟨dS,ad,rfl,d1,d2⟩
rw[eF]at ad
subst ad
have bp:I*U<=6*4:=lS b2 p2
obtain⟨R,qf,fb⟩:=h8.fd.fb
have jf:∀{H':Hp},Same H7 H'->∃m,ChipAt t.C_Chip H' X.c X.a m/\m.Ok/\m.bl=(I:Int)/\m.pg=(U:Int)/\m.rc=Y.s.rc/\(m.lf=some 0->dk=true)/\(dk=true->m.lf=some 0)/\(m.lf≠some 0->Jf t H' X.c X.a m Y.s.pg R qf I U):=fun {H'} ss=>by
 obtain⟨m,hc,ok,am,bb,_,N,O,ce,_⟩:=(bz.same ss).chip;have N:m.bl=(Y.s.q.B:Int):=N;have O:m.pg=(Y.s.q.P:Int):=O;rw[eB]at N;rw[eP]at O;have am:m.lf=if dk=true then some 0 else none:=am;refine⟨m,hc,ok,N,O,bb,λz=>?_,λz=>by rw[am,kM z],λz=>⟨hc,ok,z,N,O,?_,?_,ce,⟨fb.rp,fb.pr⟩,h8.fd.ro.v6,?_⟩⟩
 .rw[am]at z;cases dk with
  |true=>rfl
  |false=>cases z
 .rw[<-eB,<-eP];exact fb.rows
 .rw[<-eB,<-eP];exact h8.fd.q0
 have:=fb.len h8.x.w;rw[eB,eP]at this;lia
have lk:∀{w':Int} {H':Hp} {Q':VK} {E':XK},Same H7 H'->(∀H2,Same H' H2->Q' (.str dS) H2)->spLk t [.ref X.c,.int w'] H' Q' E':=fun {w' H' Q' E'} ss kk=>by
 obtain⟨m,hc,ok,N,O,_,m1,m2,mj⟩:=jf ss;refine⟨X.c,X.a,m,I,U,w',rfl,hc,ok,N,O,λz H2 s2=>?_,λz=>⟨_,_,_,mj z,λH2 s2=>?_⟩⟩
 .rw[<-d1 (m1 z)];exact kk H2 s2
 have:dk=false:=by
  cases dk with
  |true=>exact(z (m2 rfl)).elim
  |false=>rfl
 rw[<-d2 this];exact kk H2 s2
refine⟨λz H'=>z=false/\Same H7 H',?_,?_⟩
.have es:(!decide (V.str dS=V.str dS))=false:=by simp
 refine⟨_,rfl,?_⟩;dsimp only[q75,tC,tNil,wQ,dY];refine lk (Same.refl H7) λH8 s8=>⟨_,rfl,rfl,_,rfl,?_⟩;rw[es];refine iteF ⟨_,rfl,?_⟩;dsimp only[q75,tC,tNil,wQ,dY];refine lk s8 λH9 s9=>⟨_,rfl,rfl,_,rfl,?_⟩;rw[es];exact⟨rfl,s8.trans s9⟩
rintro z H8 ⟨rfl,s8⟩
refine iteF ?_
have aq:=s8 _ _ cv
have c4:=s8 _ _ eo
refine⟨λai H'=>∃dT:Str,ai=F y4 (some (.ref tx)) (some (.bl dk)) (some (.ref l7)) (some (.str dT)) none none/\H8=H'/\(b=I->p=U->dT=dS)/\(¬(b=I/\p=U)->dT="terms"),?_,?_⟩
.refine(iV rfl (iF aq T.eQ T.fF rfl ⟨_,rfl,iL (k:=0) (v:=_) (SqL.of c4) rfl ⟨rfl,_,rfl,?_⟩⟩));by_cases y1:b=I
 .rw[show(!decide (V.int (b:Int)=V.int (I:Int)))=false by simp[y1]];refine iteF (iV rfl (iF aq T.eQ T.eT rfl ⟨_,rfl,iL (k:=1) (v:=_) (SqL.of c4) rfl ⟨rfl,_,rfl,?_⟩⟩));by_cases y2:p=U
  .rw[show(!decide (V.int (p:Int)=V.int (U:Int)))=false by simp[y2]];exact iteF ⟨dS,by rw[eF],rfl,λd d=>rfl,λz=>(z ⟨y1,y2⟩).elim⟩
  rw[show(!decide (V.int (p:Int)=V.int (U:Int)))=true by rw[hX (λz=>y2 (by injection z with z;lia))];rfl];exact iteT ⟨"terms",by rw[eF];rfl,rfl,λd z=>(y2 z).elim,λz=>rfl⟩
 rw[show(!decide (V.int (b:Int)=V.int (I:Int)))=true by rw[hX (λz=>y1 (by injection z with z;lia))];rfl];exact iteT ⟨"terms",by rw[eF];rfl,rfl,λz=>(y1 z).elim,λz=>rfl⟩
rintro ai _ ⟨dT,ad,rfl,t1,t2⟩
rw[eF]at ad
subst ad
obtain⟨m,hc,ok,N,O,bb,m1,m2,mj⟩:=jf s8
refine⟨λai H'=>∃v,ai=F y4 (some (.ref tx)) (some (.bl dk)) (some (.ref l7)) (some (.str dT)) (some (.str dT)) (some v)/\Same H8 H'/\(dT="none"->∃x2 az k2 p2 gl rr rd,v=.ref x2/\gl.Perm ((hdN qf.V).filter (gnB Y.s.pg qf.V))/\StAt t H' ⟨x2,az,tx,cy,X.c,X.a,k2,.ref rr,.ref p2⟩ q2 q3 q4 q5 m (jP qf gl)/\H' p2=some (.lst [])/\H' rr=some (.ins t.C_Eldest rd [])),?_,?_⟩
.refine⟨_,rfl,_,rfl,tx,cy,X.c,X.a,q2,q3,q4,q5,m,b,p,rfl,aq,hc,ok,(bz.same s8).j.tb,λz tp H9 s9 h9=>?_,λz1 z2=>?_⟩
 .have et:=t2 λy=>z ⟨by rw[N,y.1],by rw[O,y.2]⟩;refine⟨tp,_,rfl,SqT.of h9,rfl,_,_,rfl,_,_,rfl,rfl,.non,by rw[eF,et];rfl,s9,λy=>?_⟩;rw[et]at y;exact absurd y (by decide)
 obtain rfl:b=I:=by lia
 obtain rfl:p=U:=by lia
 have et:=t1 rfl rfl;refine⟨λz tp H9 s9 h9=>?_,λz=>⟨_,_,_,mj z,λtp x2 az k2 p2 gl rr rd H9 as st hp fc ht s9=>?_⟩⟩
 .rw[d1 (m1 z)]at et;refine⟨tp,_,rfl,SqT.of h9,rfl,_,_,rfl,_,_,rfl,rfl,.non,by rw[eF,et];rfl,s9,λy=>?_⟩;rw[et]at y;exact absurd y (by decide)
 have:dk=false:=by
  cases dk with
  |true=>exact(z (m2 rfl)).elim
  |false=>rfl
 rw[d2 this]at et;exact⟨tp,_,rfl,SqT.of ht,rfl,_,_,rfl,_,_,rfl,rfl,.ref x2,by rw[eF,et];rfl,s9,λz=>⟨x2,az,k2,p2,gl,rr,rd,rfl,as,st,hp,fc⟩⟩
rintro ai H9 ⟨v,ad,s9,fin⟩
rw[eF]at ad
subst ad
have bg:=s8.trans s9
refine⟨λz H'=>z=false/\Same H9 H',?_,?_⟩
.refine⟨_,rfl,_,rfl,rfl,_,rfl,?_⟩;rw[show(!decide (V.str dT=V.str dT))=false by simp];obtain⟨m9,df,_,_,_,d3,_⟩:=jf bg;refine iteF (iV rfl (iM df.ins rfl ⟨X.c,X.a,m9,rfl,df,λia gf bj l9 a7 hg aa e7=>?_⟩));rw[d3]at bj;have sm:∀{Ha Hb:Hp} {us:List V} {ds:List (Str×Int×Bool)},Same Ha Hb->Recd Ha us ds->Recd Hb us ds:=λss r=>Paired.mapP r λv d ⟨p',e',h'⟩=>⟨p',e',ss _ _ h'⟩;exact⟨_,rfl,qJB e7 (aa _ _ (bg _ _ eg)) (sm aa bj) (sm (bg.trans aa) cr),_,rfl,rfl,aa⟩
rintro z a7 ⟨rfl,aa⟩
refine iteF ⟨_,rfl,rfl,_,rfl,?_⟩
by_cases yN:dT="none"
rotate_left
.rw[show(!decide (V.str dT=V.str "none"))=true by rw[hX (λz=>yN (by injection z))];rfl];exact iteT (k a7)
rw[show(!decide (V.str dT=V.str "none"))=false by rw[yN];rfl]
refine iteF ?_
obtain⟨x2,az,k2,p2,gl,rr,rd,rfl,as,st,ee,ey⟩:=fin yN
have al:=st.same aa
have bo:=aa _ _ ey
have ar:=bz.same (bg.trans aa)
obtain⟨mX,cs,_⟩:=ar.j.e
obtain⟨dF,hF⟩:∃dF,a7 Z=some (.ins t.C_Fewest dF []):=by have bd:RuX t a7 Z [] Y.g:=ar.ru;revert bd;generalize Y.g=g;intro bd;cases g<;>first|exact bd.elim|(obtain⟨dF,hF,_⟩:=bd;exact⟨dF,hF⟩)
have eu:=ar.er
refine(iV rfl (iF al.o T.eE T.iP rfl ⟨.ref rr,_,_,_,_,rfl,rfl,T.aD4.ty T.aD9 bo,T.aB6,_,rfl,iteF ?_⟩))
refine(iV rfl (iF al.o T.eE T.iP rfl ⟨.ref rr,_,_,_,_,rfl,rfl,T.aD4.ty T.aD9 bo,T.aB5,_,rfl,iteF ?_⟩))
have oX:=cs.o
rw[eu]at oX
refine(iV rfl (iF oX T.eE T.iP rfl ⟨.ref Z,_,_,_,_,rfl,rfl,T.aFI.ty T.aCM hF,T.aB3,_,rfl,iteF ?_⟩))
refine(iV rfl (iF al.o T.eE T.oS rfl ⟨sz0,λft h4 hh bx dy=>?_⟩))
refine⟨p2,[],ft,rfl,rfl,SqL.of (bx _ _ (aa _ _ ee)),SqL.of dy,_,rfl,iteT ?_⟩
have ao:=al.same bx
obtain⟨pm,fv,fy,ed,ec⟩:=fb.found h8.fd h8.x.w h8.tp as
have l6:=h8.x.w.l6
refine(iV rfl (iF ao.o T.eE T.eL rfl (iM ao.bk.o rfl ⟨k2,_,rfl,ao.bk,by rw[pm.length_eq];lia,λtp f1 f2 f3 f4 us rz hs eq _ te sz _ _ _=>?_⟩)))
have bt:=cs.same (bx.trans eq)
refine(iV rfl (iF bt.o T.eE T.eL rfl (iM bt.bk.o rfl ⟨X.k,_,rfl,bt.bk,by show Y.s.q.V.length<64;lia,λtq e1 e2 e3 e4 vs ry em fq _ tf sy _ _ _=>?_⟩)))
have er:rz=ry:=qJ9 sy sz pm
rw[fv,fy,ed,ec,er]at te
exact⟨qHD (te.same fq) tf,k em⟩)
theorem qLP{P:Program}{w:World}{K:W.Frag}{mg:Str->Option Value}{t:Adr}(T:Txt K mg t)(S:Fns K t)(B:BmIn base mg):S.law.Ok0 P w mg base 19 (q5G K [t.eC,t.eD]):=sR λn=>by
 have hs:hkB hkE:=by unfold hkE;exact Classical.epsilon_spec ⟨⟨P,w,K,mg,t⟩,S,base,T,B,n⟩
 obtain⟨S',b',T',B1,n'⟩:=hs;exact n' (qLO T' S' B1)
end
theorem qLQ{l:W.OpenLaw}{w:World}{K:W.Frag}{h:Heap}{mg:Str->Option Value}{fa z0 z1 z2 z3 z4 z5 z6 z7 z8 z9 z10 z11 z12 z13 z14 z15 z16 z17 z18 z19 z20 z21 z22 z23 z24 z25 z26 z27 z28 z29 z30 z31 z32 z33 z34 z35 z36 z37 z38 z39 z40 z41 z42 z43 z44 z45 z46 z47 z48 z49 z50 z51 z52 z53 z54 z55 z56 z57 z58 z59 z60 z61 z62 z63 z64 z65 z66 z67 z68 z69 z70 z71 z72 z73 z74 z75 z76 z77 z78 z79 z80 z81 z82 z83 z84 z85 z86 z87 z88 z89 z90 z91 z92 z93 z94 z95 z96 z97 z98 z99 z100 z101 z102 z103 z104 z105 z106 z107 z108 z109 z110:Addr}(X:K.In h)(G:h.Ns mainGlobals mg)(hfa:mg "law"=some (.ref fa))
 {z111 z112 z123 z124 z135 z136 z147 z148:Option Addr} {z113 z125 z137 z149:Array (Option Value)} {z114 z115 z116 z117 z119 z126 z127 z128 z129 z131 z138 z139 z140 z141 z142 z143 z150 z151 z152 z153 z154 z155:Value} {z144:Option Addr} {z145:Nat} {z146:Array (Option Value)} {e0_Chip_init:Tok} {z156:Option Addr} {z157:Nat} {z158:Array (Option Value)} {e0_Terms_init:Tok} {e1_Terms_init:Tok} {oH:Tok} {aDT:Tok} {aCA:Tok}
 (z159:W.nsIn K mainGlobals "Book"=some (some (.ref z96)))
 (z160:Cls K z96)
 (z161:qR K z96 "blocks")
 (z162:qR K z96 "pages")
 (z163:qR K z96 "stamp")
 (z164:qR K z96 "where")
 (z165:qR K z96 "live")
 (z166:qR K z96 "filled")
 (z167:qR K z96 "born")
 (z168:Meth K z96 "mark" z14)
 (z169:Meth K z96 "note" z15)
 (z170:Meth K z96 "forget" z16)
 (z171:Meth K z96 "emptied" z17)
 (z172:Meth K z96 "start_at" z18)
 (z173:Meth K z96 "live_pages" z19)
 (z174:Meth K z96 "held" z20)
 (z175:Meth K z96 "tell" z21)
 (z176:Mk K z96 z13)
 (z177:W.nsIn K mainGlobals "Plain"=some (some (.ref z97)))
 (z178:W.nsIn K mainGlobals "Sure"=some (some (.ref z98)))
 (z179:Cls K z98)
 (z180:qR K z98 "chip")
 (z181:qR K z98 "terms")
 (z182:qR K z98 "book")
 (z183:qR K z98 "rule")
 (z184:qR K z98 "papers")
 (z185:Meth K z98 "failures" z51)
 (z186:Meth K z98 "worn" z52)
 (z187:Meth K z98 "reserve" z53)
 (z188:Meth K z98 "lay" z54)
 (z189:Meth K z98 "set_down_or_fail" z55)
 (z190:Meth K z98 "wiped" z56)
 (z191:Meth K z98 "make_ready" z57)
 (z192:Meth K z98 "check_worn" z58)
 (z193:Meth K z98 "least" z46)
 (z194:Meth K z98 "clearable" z47)
 (z195:Meth K z98 "options" z48)
 (z196:Meth K z98 "choice" z49)
 (z197:Meth K z98 "block_to_change" z50)
 (z198:Meth K z98 "tally" z36)
 (z199:Meth K z98 "space" z37)
 (z200:Meth K z98 "full_ones" z38)
 (z201:Meth K z98 "with_dead_page" z39)
 (z202:Meth K z98 "choice_by_rule" z40)
 (z203:Meth K z98 "moved" z41)
 (z204:Meth K z98 "value_to_move" z42)
 (z205:Meth K z98 "clear_out" z43)
 (z206:Meth K z98 "make_room" z44)
 (z207:Meth K z98 "make_rooms" z45)
 (z208:Meth K z98 "good" z23)
 (z209:Meth K z98 "free" z24)
 (z210:Meth K z98 "part" z25)
 (z211:Meth K z98 "spot" z26)
 (z212:Meth K z98 "ready" z27)
 (z213:Meth K z98 "set_down" z28)
 (z214:Meth K z98 "write" z29)
 (z215:Meth K z98 "give_up" z30)
 (z216:Meth K z98 "held" z31)
 (z217:Meth K z98 "check_sheet" z32)
 (z218:Meth K z98 "check_share" z33)
 (z219:Mk K z98 z35)
 (z220:W.nsIn K mainGlobals "Chip"=some (some (.ref z99)))
 (z221:Cls K z99)
 (z222:qR K z99 "blocks")
 (z223:qR K z99 "pages")
 (z224:qR K z99 "most")
 (z225:qR K z99 "limits")
 (z226:qR K z99 "borne")
 (z227:qR K z99 "clearings")
 (z228:qR K z99 "deed_counts")
 (z229:qR K z99 "broken")
 (z230:qR K z99 "deeds_left")
 (z231:qR K z99 "record")
 (z232:Meth K z99 "put" z65)
 (z233:Meth K z99 "wipe" z66)
 (z234:Meth K z99 "read" z67)
 (z235:Meth K z99 "cut_after" z68)
 (z236:Meth K z99 "power_on" z69)
 (z237:Meth K z99 "is_dark" z70)
 (z238:Meth K z99 "cleared" z71)
 (z239:Meth K z99 "failed" z72)
 (z240:Meth K z99 "deeds" z73)
 (z241:Meth K z99 "check_page" z74)
 (z242:Meth K z99 "check_block" z75)
 (z243:Meth K z99 "check_power" z76)
 (z244:Meth K z99 "check_deed" z77)
 (z245:Meth K z99 "is_spent" z78)
 (z246:Meth K z99 "do_deed" z79)
 (z247:Mk K z99 z64)
 (z248:W.nsIn K mainGlobals "Fewest"=some (some (.ref z100)))
 (z249:Cls K z100)
 (z250:Meth K z100 "goes_ahead" z84)
 (z251:Meth K z100 "choose" z83)
 (z252:W.makesIn K z100=true)
 (z253:W.findIn K (.ref z100) "__init__"=some (some (.builtin "object.__init__")))
 (z254:W.keepIn K (.ref z100)=true)
 (z255:W.nsIn K mainGlobals "Eldest"=some (some (.ref z101)))
 (z256:Cls K z101)
 (z257:W.makesIn K z101=true)
 (z258:W.findIn K (.ref z101) "__init__"=some (some (.builtin "object.__init__")))
 (z259:W.keepIn K (.ref z101)=true)
 (z260:W.nsIn K mainGlobals "Terms"=some (some (.ref z102)))
 (z261:Cls K z102)
 (z262:qR K z102 "blocks")
 (z263:qR K z102 "pages")
 (z264:qR K z102 "sheets")
 (z265:qR K z102 "share")
 (z266:qR K z102 "ill")
 (z267:qR K z102 "spread")
 (z268:Meth K z102 "closed" z86)
 (z269:Mk K z102 z85)
 (z270:W.nsIn K mainGlobals "WornError"=some (some (.ref z103)))
 (z271:W.nsIn K mainGlobals "PowerGone"=some (some (.ref z104)))
 (z272:XRd K z104)
 (z273:W.excIn K z104 bmVE "ValueError.__new__"=true)
 (z274:W.nsIn K mainGlobals "BlockFailed"=some (some (.ref z105)))
 (z275:W.nsIn K mainGlobals "NoTerms"=some (some (.ref z106)))
 (z276:XRd K z106)
 (z277:W.excIn K z106 bmVE "ValueError.__new__"=true)
 (z278:W.nsIn K mainGlobals "Full"=some (some (.ref z107)))
 (z279:W.excIn K z107 bmVE "ValueError.__new__"=true)
 (z280:W.nsIn K mainGlobals "NoRoom"=some (some (.ref z108)))
 (z281:W.excIn K z108 bmVE "ValueError.__new__"=true)
 (z282:ClM K z97 "__init__" z22)
 (z283:W.exmOne K (.ref z104) (.ref z105)=some false)
 (z284:W.exmOne K (.ref z104) (.ref z103)=some true)
 (z285:W.exmOne K (.ref z106) (.ref z103)=some true)
 (z286:W.exmOne K (.ref z107) (.ref z107)=some true)
 (z287:W.kitOne K (.ref z104) (.ref z106)=some false)
 (z288:W.kitOne K (.ref z104) (.ref z104)=some true)
 (z289:W.kitOne K (.ref z106) (.ref z106)=some true)
 (z290:W.findIn K (.ref z101) "__class__"=some (some (.builtin "object.__class__")))
 (z291:W.specialIn K (.builtin "object.__class__") "__get__"=some (some (.builtin "getset_descriptor.__get__")))
 (z292:W.takesIn K (.builtin "object.__class__")=some true)
 (z293:W.mroIn K z101 (.type "object")=some true)
 (z294:W.findIn K (.ref z100) "__class__"=some (some (.builtin "object.__class__")))
 (z295:W.mroIn K z100 (.type "object")=some true)
 (z296:W.kitOne K (.ref z101) (.ref z101)=some true)
 (z297:W.kitOne K (.ref z101) (.ref z100)=some false)
 (z298:W.kitOne K (.ref z100) (.ref z100)=some true)
 (z299:W.codeHdIn K z0 z1=true)
 (z300:W.codeHdIn K z2 z3=true)
 (z301:z1≠z3)
 (z302:GFn K "is_whole" z4)
 (z303:GFn K "is_within" z5)
 (z304:GFn K "is_shape" z6)
 (z305:GFn K "is_value" z7)
 (z306:GFn K "mark_of" z8)
 (z307:GFn K "stamp_of" z9)
 (z308:GFn K "name_of" z10)
 (z309:GFn K "bits_of" z11)
 (z310:GFn K "sheets_of" z12)
 (z311:GFn K "paper_of" z34)
 (z312:GFn K "marked_pages" z59)
 (z313:GFn K "sheets_given_up" z60)
 (z314:GFn K "book_of" z61)
 (z315:GFn K "come_up" z62)
 (z316:GFn K "limits_of" z63)
 (z317:GFn K "faults" z80)
 (z318:GFn K "is_unbeaten" z81)
 (z319:GFn K "first_unbeaten" z82)
 (z320:GFn K "_law_cell_at" z87)
 (z321:GFn K "_law_mix" z88)
 (z322:GFn K "_law_terms_row" z89)
 (z323:GFn K "_law_other" z90)
 (z324:GFn K "_law_ask" z91)
 (z325:GFn K "_law_kind" z92)
 (z326:GFn K "_law_came" z93)
 (z327:GFn K "_law_looked" z94)
 (z328:W.nsIn K mainGlobals "MOST_TOLD"=some (some (.int 1000000 oH)))
 (z329:W.nsIn K mainGlobals "ROLL"=some (some (.int 64 aDT)))
 (z330:W.nsIn K mainGlobals "NAMES"=some (some (.int 128 aCA)))
 (z331:W.nsIn K mainGlobals "bool"=some none)
 (z332:W.nsIn K mainGlobals "int"=some none)
 (z333:W.nsIn K mainGlobals "isinstance"=some none)
 (z334:W.nsIn K mainGlobals "len"=some none)
 (z335:W.nsIn K mainGlobals "list"=some none)
 (z336:W.nsIn K mainGlobals "max"=some none)
 (z337:W.nsIn K mainGlobals "min"=some none)
 (z338:W.nsIn K mainGlobals "range"=some none)
 (z339:W.nsIn K mainGlobals "sorted"=some none)
 (z340:FnX K "is_whole" "is_whole" q3V z4)
 (z341:FnX K "is_within" "is_within" q2I z5)
 (z342:FnX K "is_shape" "is_shape" q3W z6)
 (z343:FnX K "is_value" "is_value" q3X z7)
 (z344:FnX K "mark_of" "mark_of" q5J z8)
 (z345:FnX K "stamp_of" "stamp_of" q3Y z9)
 (z346:FnX K "name_of" "name_of" q5K z10)
 (z347:FnX K "bits_of" "bits_of" q5L z11)
 (z348:FnX K "sheets_of" "sheets_of" q2J z12)
 (z349:FnX K "__init__" "Book.__init__" q2K z13)
 (z350:FnX K "mark" "Book.mark" q2L z14)
 (z351:FnX K "note" "Book.note" q2M z15)
 (z352:FnX K "forget" "Book.forget" q0G z16)
 (z353:FnX K "emptied" "Book.emptied" zT z17)
 (z354:FnX K "start_at" "Book.start_at" zA z18)
 (z355:FnX K "live_pages" "Book.live_pages" v5 z19)
 (z356:FnX K "held" "Book.held" q2N z20)
 (z357:FnX K "tell" "Book.tell" q2O z21)
 (z358:FnX K "__init__" "Plain.__init__" q1L z22)
 (z359:FnX K "good" "Plain.good" q1M z23)
 (z360:K.lookup z24=some ⟨z114,z111,.func (W.fnOf "free" "Plain.free" (yE jW) (jV jW) (qF jW) .none z115 z116 z117 z112 (.ref z0) z119),z113⟩)
 (z361:W.codeIn K (.ref z0) "Plain.free"=true)
 (z362:FnX K "part" "Plain.part" q1N z25)
 (z363:FnX K "spot" "Plain.spot" q1O z26)
 (z364:FnX K "ready" "Plain.ready" q0H z27)
 (z365:FnX K "set_down" "Plain.set_down" vK z28)
 (z366:FnX K "write" "Plain.write" q0I z29)
 (z367:FnX K "give_up" "Plain.give_up" zB z30)
 (z368:FnX K "held" "Plain.held" q1P z31)
 (z369:FnX K "check_sheet" "Plain.check_sheet" uE z32)
 (z370:FnX K "check_share" "Plain.check_share" uF z33)
 (z371:FnX K "paper_of" "paper_of" q3Z z34)
 (z372:FnX K "__init__" "Store.__init__" q1Q z35)
 (z373:FnX K "tally" "Store.tally" q0J z36)
 (z374:FnX K "space" "Store.space" q0K z37)
 (z375:FnX K "full_ones" "Store.full_ones" v7 z38)
 (z376:FnX K "with_dead_page" "Store.with_dead_page" yP z39)
 (z377:FnX K "choice_by_rule" "Store.choice_by_rule" yQ z40)
 (z378:FnX K "moved" "Store.moved" q0L z41)
 (z379:FnX K "value_to_move" "Store.value_to_move" yV z42)
 (z380:FnX K "clear_out" "Store.clear_out" v8 z43)
 (z381:FnX K "make_room" "Store.make_room" v9 z44)
 (z382:FnX K "make_rooms" "Store.make_rooms" uP z45)
 (z383:FnX K "least" "Even.least" q1R z46)
 (z384:FnX K "clearable" "Even.clearable" vL z47)
 (z385:FnX K "options" "Even.options" zU z48)
 (z386:FnX K "choice" "Even.choice" q0M z49)
 (z387:K.lookup z50=some ⟨z126,z123,.func (W.fnOf "block_to_change" "Even.block_to_change" (yE qW) (jV qW) (qF qW) .none z127 z128 z129 z124 (.ref z2) z131),z125⟩)
 (z388:W.codeIn K (.ref z2) "Even.block_to_change"=true)
 (z389:FnX K "failures" "Sure.failures" zC z51)
 (z390:FnX K "worn" "Sure.worn" q2P z52)
 (z391:FnX K "reserve" "Sure.reserve" zV z53)
 (z392:FnX K "lay" "Sure.lay" q40 z54)
 (z393:FnX K "set_down_or_fail" "Sure.set_down_or_fail" yJ z55)
 (z394:FnX K "wiped" "Sure.wiped" q1S z56)
 (z395:FnX K "make_ready" "Sure.make_ready" vA z57)
 (z396:FnX K "check_worn" "Sure.check_worn" vB z58)
 (z397:FnX K "marked_pages" "marked_pages" zW z59)
 (z398:FnX K "sheets_given_up" "sheets_given_up" vC z60)
 (z399:FnX K "book_of" "book_of" q5M z61)
 (z400:FnX K "come_up" "come_up" q5N z62)
 (z401:FnX K "limits_of" "limits_of" q2Q z63)
 (z402:K.lookup z64=some ⟨z138,z135,.func (W.fnOf "__init__" "Chip.__init__" (yE uW) (jV uW) (qF uW) (.ref z109) z139 z140 z141 z136 z142 z143),z137⟩)
 (z403:W.codeIn K z142 "Chip.__init__"=true)
 (z404:K.lookup z109=some ⟨.type "tuple",z144,.seq #[.int 1000000 e0_Chip_init,.none] z145,z146⟩)
 (z405:FnX K "put" "Chip.put" q41 z65)
 (z406:FnX K "wipe" "Chip.wipe" q2R z66)
 (z407:FnX K "read" "Chip.read" q2S z67)
 (z408:FnX K "cut_after" "Chip.cut_after" vM z68)
 (z409:FnX K "power_on" "Chip.power_on" zD z69)
 (z410:FnX K "is_dark" "Chip.is_dark" zX z70)
 (z411:FnX K "cleared" "Chip.cleared" zY z71)
 (z412:FnX K "failed" "Chip.failed" q0N z72)
 (z413:FnX K "deeds" "Chip.deeds" q1T z73)
 (z414:FnX K "check_page" "Chip.check_page" vD z74)
 (z415:FnX K "check_block" "Chip.check_block" uQ z75)
 (z416:FnX K "check_power" "Chip.check_power" uR z76)
 (z417:FnX K "check_deed" "Chip.check_deed" vE z77)
 (z418:FnX K "is_spent" "Chip.is_spent" zE z78)
 (z419:FnX K "do_deed" "Chip.do_deed" zZ z79)
 (z420:FnX K "faults" "faults" q7T z80)
 (z421:FnX K "is_unbeaten" "is_unbeaten" q0O z81)
 (z422:FnX K "first_unbeaten" "first_unbeaten" vO z82)
 (z423:FnX K "choose" "Rule.choose" q0P z83)
 (z424:FnX K "goes_ahead" "Fewest.goes_ahead" uG z84)
 (z425:K.lookup z85=some ⟨z150,z147,.func (W.fnOf "__init__" "Terms.__init__" (yE uC) (jV uC) (qF uC) (.ref z110) z151 z152 z153 z148 z154 z155),z149⟩)
 (z426:W.codeIn K z154 "Terms.__init__"=true)
 (z427:K.lookup z110=some ⟨.type "tuple",z156,.seq #[.int 0 e0_Terms_init,.int 1000000 e1_Terms_init] z157,z158⟩)
 (z428:FnX K "closed" "Terms.closed" q00 z86)
 (z429:FnX K "_law_cell_at" "_law_cell_at" q0Q z87)
 (z430:FnX K "_law_mix" "_law_mix" q5O z88)
 (z431:FnX K "_law_terms_row" "_law_terms_row" zF z89)
 (z432:FnX K "_law_other" "_law_other" q2T z90)
 (z433:FnX K "_law_ask" "_law_ask" q5P z91)
 (z434:FnX K "_law_kind" "_law_kind" q42 z92)
 (z435:FnX K "_law_came" "_law_came" q43 z93)
 (z436:FnX K "_law_looked" "_law_looked" q1U z94)
 (z437:W.nsIn K mainGlobals "law"=some (some (.ref z95)))
 (z438:FnX K "law" "law" qH7 z95):
 ∃fd:FuncData,(∀(s:Shared) (v:Value),BindsTo s fd ⟨[v],[]⟩ [("_law_script",v)])/\∀base:Heap,K.In base->base.Ns mainGlobals mg->BmIn base mg->FnOk l.prog w K mg base (CX0) 19 fa fd ["_law_script"] (q5G K [z1,z3]):=by(
have e:=hfa.symm.trans (gO X G z437)
cases e
let t:Adr:=⟨z4,z5,z6,z7,z8,z9,z10,z11,z12,z13,z14,z15,z16,z17,z18,z19,z20,z21,z22,z23,z24,z25,z26,z27,z28,z29,z30,z31,z32,z33,z34,z35,z36,z37,z38,z39,z40,z41,z42,z43,z44,z45,z46,z47,z48,z49,z50,z51,z52,z53,z54,z55,z56,z57,z58,z59,z60,z61,z62,z63,z64,z65,z66,z67,z68,z69,z70,z71,z72,z73,z74,z75,z76,z77,z78,z79,z80,z81,z82,z83,z84,z85,z86,z87,z88,z89,z90,z91,z92,z93,z94,fa,z96,z97,z98,z99,z100,z101,z102,z103,z104,z105,z106,z107,z108,oH,aDT,aCA,z0,z1,z2,z3⟩
have T:Txt K mg t:=⟨gO X G z159,z160,z161,z162,z163,z164,z165,z166,z167,z168,z169,z170,z171,z172,z173,z174,z175,z176,gO X G z177,gO X G z178,z179,z180,z181,z182,z183,z184,z185,z186,z187,z188,z189,z190,z191,z192,z193,z194,z195,z196,z197,z198,z199,z200,z201,z202,z203,z204,z205,z206,z207,z208,z209,z210,z211,z212,z213,z214,z215,z216,z217,z218,z219,gO X G z220,z221,z222,z223,z224,z225,z226,z227,z228,z229,z230,z231,z232,z233,z234,z235,z236,z237,z238,z239,z240,z241,z242,z243,z244,z245,z246,z247,gO X G z248,z249,z250,z251,⟨z252,z253,z254⟩,gO X G z255,z256,⟨z257,z258,z259⟩,gO X G z260,z261,z262,z263,z264,z265,z266,z267,z268,z269,gO X G z270,gO X G z271,z272,z273,gO X G z274,gO X G z275,z276,z277,gO X G z278,z279,gO X G z280,z281,z282,z283,z284,z285,z286,z287,z288,z289,⟨z290,z291,z292,z293⟩,⟨z294,z291,z292,z295⟩,z296,z297,z298,z299,z300,z301,gO X G z302.1,z302.2,gO X G z303.1,z303.2,gO X G z304.1,z304.2,gO X G z305.1,z305.2,gO X G z306.1,z306.2,gO X G z307.1,z307.2,gO X G z308.1,z308.2,gO X G z309.1,z309.2,gO X G z310.1,z310.2,gO X G z311.1,z311.2,gO X G z312.1,z312.2,gO X G z313.1,z313.2,gO X G z314.1,z314.2,gO X G z315.1,z315.2,gO X G z316.1,z316.2,gO X G z317.1,z317.2,gO X G z318.1,z318.2,gO X G z319.1,z319.2,gO X G z320.1,z320.2,gO X G z321.1,z321.2,gO X G z322.1,z322.2,gO X G z323.1,z323.2,gO X G z324.1,z324.2,gO X G z325.1,z325.2,gO X G z326.1,z326.2,gO X G z327.1,z327.2,gO X G z328,gO X G z329,gO X G z330,wG X G z331,wG X G z332,wG X G z333,wG X G z334,wG X G z335,wG X G z336,wG X G z337,wG X G z338,wG X G z339⟩
let S:Fns K t:=⟨fn1 z340,fn1 z341,fn1 z342,fn1 z343,fn1 z344,fn1 z345,fn1 z346,fn1 z347,fn1 z348,fn1 z349,fn1 z350,fn1 z351,fn1 z352,fn1 z353,fn1 z354,fn1 z355,fn1 z356,fn1 z357,fn1 z358,fn1 z359,_,FunT.mk' (st:=jW) z360 z361,jQ.all λus hl=>by rw[lnx hl];rfl,fn1 z362,fn1 z363,fn1 z364,fn1 z365,fn1 z366,fn1 z367,fn1 z368,fn1 z369,fn1 z370,fn1 z371,fn1 z372,fn1 z373,fn1 z374,fn1 z375,fn1 z376,fn1 z377,fn1 z378,fn1 z379,fn1 z380,fn1 z381,fn1 z382,fn1 z383,fn1 z384,fn1 z385,fn1 z386,_,FunT.mk' (st:=qW) z387 z388,jQ.all λus hl=>by rw[lnx hl];rfl,fn1 z389,fn1 z390,fn1 z391,fn1 z392,fn1 z393,fn1 z394,fn1 z395,fn1 z396,fn1 z397,fn1 z398,fn1 z399,fn1 z400,fn1 z401,_,(.ref z109),FunD.mk' (st:=uW) z402 z403,λs us d hl=>by rw[lnx (us:=us) (n:=5) (by simpa using hl)];exact rN rfl (d _ _ z404) rfl rfl rfl,[.none],λs us d hl=>by rw[lnx (us:=us) (n:=4) (by simpa using hl)];exact rN rfl (d _ _ z404) rfl rfl rfl,(.cons rfl .nil),[.int 1000000 e0_Chip_init,.none],λs us d hl=>by rw[lnx (us:=us) (n:=3) (by simpa using hl)];exact rN rfl (d _ _ z404) rfl rfl rfl,(.cons ⟨_,rfl⟩ (.cons rfl .nil)),fn1 z405,fn1 z406,fn1 z407,fn1 z408,fn1 z409,fn1 z410,fn1 z411,fn1 z412,fn1 z413,fn1 z414,fn1 z415,fn1 z416,fn1 z417,fn1 z418,fn1 z419,fn1 z420,fn1 z421,fn1 z422,fn1 z423,fn1 z424,_,(.ref z110),FunD.mk' (st:=uC) z425 z426,λs us d hl=>by rw[lnx (us:=us) (n:=7) (by simpa using hl)];exact rN rfl (d _ _ z427) rfl rfl rfl,[.int 1000000 e1_Terms_init],λs us d hl=>by rw[lnx (us:=us) (n:=6) (by simpa using hl)];exact rN rfl (d _ _ z427) rfl rfl rfl,(.cons ⟨_,rfl⟩ .nil),[.int 0 e0_Terms_init,.int 1000000 e1_Terms_init],λs us d hl=>by rw[lnx (us:=us) (n:=5) (by simpa using hl)];exact rN rfl (d _ _ z427) rfl rfl rfl,(.cons ⟨_,rfl⟩ (.cons ⟨_,rfl⟩ .nil)),fn1 z428,fn1 z429,fn1 z430,fn1 z431,fn1 z432,fn1 z433,fn1 z434,fn1 z435,fn1 z436,fn1 z438⟩
exact⟨_,FnX.bind1 (by intros;rfl) S.law.F,λbase U U z=>qLP T S z⟩)
theorem walk{l:W.OpenLaw}{q:Program}{loose:List Str}{XP:(Str->Option Value)->Heap->Prop}{YP:World->Heap->Prop}{d:DefRec}{K:Params->W.Frag}(hn:l.most=some 63)(hdf:d.params.defaults=[])
 (hY:∀(w:World) (h:Heap),YP w h->(K w.params).In h/\∀T∈([335,608]:List Addr),h.get? T=some (W.tabObj #[])) (hT:∀w:World,∀T∈([335,608]:List Addr),(K w.params).lookup T=none/\∃c,W.codeHdIn (K w.params) c T=true)
 (F:∀(w:World) (mg:Str->Option Value) (fa:Addr) (h:Heap),(K w.params).In h->h.Ns mainGlobals mg->mg d.name=some (.ref fa)->∃fd:FuncData,(∀(s:Shared) (u:Value),BindsTo s fd ⟨[u],[]⟩ [("_law_script",u)])/\∀base:Heap,(K w.params).In base->base.Ns mainGlobals mg->BmIn base mg->FnOk l.prog w (K w.params) mg base (CX0) 19 fa fd ["_law_script"] (q5G (K w.params) [335,608])):
 W.WalkO q loose XP YP l.row.toRowW d [] (λf vs=>PySem.call f vs):=L2.qGC (n:=63) (k:=19) (x:="_law_script") (CX:=λU=>CX0) (sp:=λw=>q5G (K w.params) [335,608]) [335,608] hn (by decide) hdf ⟨rfl,by decide,by decide⟩ hY hT F (λU U a ns hl hS hT=>⟨a,ns,rfl,hS,hl,hT,λU=>rfl⟩) (λU U U U U z=>z)
end W1
namespace PySem.W.Fast
theorem tw10160253336860035698:True:=⟨⟩
theorem tw13948907336375099745:True:=⟨⟩
theorem tw1866090516714750625:True:=⟨⟩
theorem tw14670353220327451457:True:=⟨⟩
theorem tw4718712426407500034:True:=⟨⟩
theorem tw11208459019760783106:True:=⟨⟩
theorem tw15005202632212287266:True:=⟨⟩
theorem tw8039779874766245923:True:=⟨⟩
theorem tw9327578777753435299:True:=⟨⟩
theorem tw837482743491168483:True:=⟨⟩
theorem tw15681719129977235107:True:=⟨⟩
theorem tw6881293565818480451:True:=⟨⟩
theorem tw8117511330736599652:True:=⟨⟩
theorem tw10814134298763521509:True:=⟨⟩
theorem tw14527476014064168773:True:=⟨⟩
theorem tw278153334538509510:True:=⟨⟩
theorem tw9339506195633630887:True:=⟨⟩
theorem tw3472697406964512872:True:=⟨⟩
theorem tw10477616195095105577:True:=⟨⟩
theorem tw10086298141646780041:True:=⟨⟩
theorem tw5172623155652762473:True:=⟨⟩
theorem tw17229329332537117450:True:=⟨⟩
theorem tw420883643828402187:True:=⟨⟩
theorem tw16488123738961947051:True:=⟨⟩
theorem tw3027468014124249547:True:=⟨⟩
theorem tw18704140554006700:True:=⟨⟩
theorem tw9742116483184896620:True:=⟨⟩
theorem tw13016138615522688684:True:=⟨⟩
theorem tw4243529105617921836:True:=⟨⟩
theorem tw10455184624296232973:True:=⟨⟩
theorem tw18334885732106232909:True:=⟨⟩
theorem tw3464672285704602797:True:=⟨⟩
theorem tw17723831878822277549:True:=⟨⟩
theorem tw6202926312372685262:True:=⟨⟩
theorem tw11239540167462723470:True:=⟨⟩
theorem tw13298872973067490703:True:=⟨⟩
theorem tw17887091062532398575:True:=⟨⟩
theorem tw2016288606537762639:True:=⟨⟩
theorem tw18143904107531547535:True:=⟨⟩
theorem tw9982327143779555696:True:=⟨⟩
theorem tw11024885503402483088:True:=⟨⟩
theorem tw6095783562419238704:True:=⟨⟩
theorem tw11381167056190133713:True:=⟨⟩
theorem tw3796798638509057618:True:=⟨⟩
theorem tw10975149271812705523:True:=⟨⟩
theorem tw1944881178027133267:True:=⟨⟩
theorem tw14209565315511393012:True:=⟨⟩
theorem tw8695326868977425461:True:=⟨⟩
theorem tw5409931865452659701:True:=⟨⟩
theorem tw9083782578911253046:True:=⟨⟩
theorem tw6000325200697561846:True:=⟨⟩
theorem tw9669381897090967703:True:=⟨⟩
theorem tw6382498743648991864:True:=⟨⟩
theorem tw14273057840317269784:True:=⟨⟩
theorem tw8331683191741264664:True:=⟨⟩
theorem tw504965472476619993:True:=⟨⟩
theorem tw6505664842140445017:True:=⟨⟩
theorem tw362312856098211130:True:=⟨⟩
theorem tw9689449029826577946:True:=⟨⟩
theorem tw9430898878412461690:True:=⟨⟩
theorem tw4088968082776419994:True:=⟨⟩
theorem tw12090111489625356475:True:=⟨⟩
theorem tw7351734289698784667:True:=⟨⟩
theorem tw8111860717085646299:True:=⟨⟩
theorem tw15586235336102917915:True:=⟨⟩
theorem tw9780186213954314236:True:=⟨⟩
theorem tw2127101981630870941:True:=⟨⟩
theorem tw2223802933197073789:True:=⟨⟩
theorem tw6733734961343019565:True:=⟨⟩
theorem tw16169839250780681769:True:=⟨⟩
theorem tw1529108335285903954:True:=⟨⟩
theorem tw10969107899754005901:True:=⟨⟩
theorem tw6076003898511723722:True:=⟨⟩
theorem tw17691778752592165274:True:=⟨⟩
theorem tw10945688208228506077:True:=⟨⟩
theorem tw5571441220299745825:True:=⟨⟩
theorem tw12642101041772496803:True:=⟨⟩
theorem tw10777046964901884819:True:=⟨⟩
theorem tw8108610975950172183:True:=⟨⟩
theorem tw18321822305533633069:True:=⟨⟩
theorem tw15092333746815019723:True:=⟨⟩
theorem tw1617270954541754425:True:=⟨⟩
theorem tw13844473354931197944:True:=⟨⟩
theorem tw4375582700110725294:True:=⟨⟩
theorem tw13478703946754482284:True:=⟨⟩
theorem tw11069384662834974102:True:=⟨⟩
theorem tw10599625918430622589:True:=⟨⟩
theorem tw5660025304515540254:True:=⟨⟩
theorem tw9974885200132985186:True:=⟨⟩
theorem tw6682123245077206912:True:=⟨⟩
theorem tw5928201717907598369:True:=⟨⟩
theorem tw3914395553520414773:True:=⟨⟩
theorem tw3541544891059832196:True:=⟨⟩
theorem tw12730912955311928318:True:=⟨⟩
theorem tw16564566252351733690:True:=⟨⟩
theorem tw3134324003160274926:True:=⟨⟩
theorem tw13353737886253712387:True:=⟨⟩
theorem tw6348077585829344764:True:=⟨⟩
theorem tw9364988324276872419:True:=⟨⟩
theorem tw8982287240100782615:True:=⟨⟩
theorem tw8564367198682907898:True:=⟨⟩
theorem tw13814237169538997846:True:=⟨⟩
theorem tw18020461497609423079:True:=⟨⟩
theorem tw2273376036104714755:True:=⟨⟩
theorem tw14987408632356075974:True:=⟨⟩
theorem tw9815426007505321939:True:=⟨⟩
theorem tw3864527696300643243:True:=⟨⟩
theorem tw16806563411557779262:True:=⟨⟩
theorem tw18150824433116101486:True:=⟨⟩
theorem tw3390409267009523807:True:=⟨⟩
theorem tw10382117659370397624:True:=⟨⟩
theorem tw897497572961865248:True:=⟨⟩
theorem tw13376338620381240266:True:=⟨⟩
theorem tw2385601363878719975:True:=⟨⟩
theorem tw14667247155662263200:True:=⟨⟩
theorem tw2255381621882895146:True:=⟨⟩
theorem tw12474000721997017685:True:=⟨⟩
theorem tw1015573709716504628:True:=⟨⟩
theorem tw11510540192799942204:True:=⟨⟩
theorem tw707977746956611309:True:=⟨⟩
theorem tw136876755754016787:True:=⟨⟩
theorem tw16618920814683540122:True:=⟨⟩
theorem tw6953916510077206365:True:=⟨⟩
theorem tw4527478572710403022:True:=⟨⟩
theorem tw1106648209858006164:True:=⟨⟩
theorem tw628100964755242234:True:=⟨⟩
theorem tw6470721356423739621:True:=⟨⟩
theorem tw4537237792613381773:True:=⟨⟩
theorem tw15570803447925288029:True:=⟨⟩
theorem tw16415656838946089497:True:=⟨⟩
theorem tw13692230471478301777:True:=⟨⟩
theorem tw11866026067989652320:True:=⟨⟩
theorem tw5232854159988318655:True:=⟨⟩
theorem tw14258677714213402289:True:=⟨⟩
theorem tw10596953313580622641:True:=⟨⟩
theorem tw11146777099365131533:True:=⟨⟩
theorem tw1898429310546084131:True:=⟨⟩
theorem tw75154920495305876:True:=⟨⟩
theorem tw1359453127496360904:True:=⟨⟩
theorem tw11980615348212893083:True:=⟨⟩
theorem tw12426157617528373002:True:=⟨⟩
theorem tw17302131398962690236:True:=⟨⟩
theorem tw18142864114997211642:True:=⟨⟩
theorem tw10934575735431545705:True:=⟨⟩
theorem tw1989982732556183753:True:=⟨⟩
theorem tw6214554258412211817:True:=⟨⟩
theorem tw1383800062294198836:True:=⟨⟩
theorem tw2670003725737608323:True:=⟨⟩
theorem tw15848881809537533098:True:=⟨⟩
theorem tw3193134212018476744:True:=⟨⟩
theorem tw1910349334626720625:True:=⟨⟩
theorem tw6467074709400002465:True:=⟨⟩
theorem tw3093667061272588069:True:=⟨⟩
theorem tw5385556799562316201:True:=⟨⟩
theorem tw7608100750597277558:True:=⟨⟩
theorem tw10301993700571383124:True:=⟨⟩
theorem tw746111892185117021:True:=⟨⟩
theorem tw2366923871385278263:True:=⟨⟩
theorem tw6782305252887960024:True:=⟨⟩
theorem tw16772619789873272334:True:=⟨⟩
theorem tw13951235081435927191:True:=⟨⟩
theorem tw4329562494428807552:True:=⟨⟩
theorem tw16230935992256226310:True:=⟨⟩
theorem tw11424222482727230398:True:=⟨⟩
theorem tw233228063997830256:True:=⟨⟩
theorem tw15227281898124661940:True:=⟨⟩
theorem tw12735022657554817186:True:=⟨⟩
theorem tw15053383984450029398:True:=⟨⟩
theorem tw10638045341493541174:True:=⟨⟩
theorem tw460669303197152239:True:=⟨⟩
theorem tw11850987139996570959:True:=⟨⟩
theorem tw14778195492120467502:True:=⟨⟩
theorem tw5508840176784140110:True:=⟨⟩
theorem tw1567151998830781820:True:=⟨⟩
theorem tw4276717697149101058:True:=⟨⟩
theorem tw9414728598699063881:True:=⟨⟩
theorem tw5118259023075954934:True:=⟨⟩
theorem tw7634244312081502892:True:=⟨⟩
theorem tw15095819671932297993:True:=⟨⟩
theorem tw3437464455566971951:True:=⟨⟩
theorem tw14417926285430505584:True:=⟨⟩
theorem tw6637506959371610543:True:=⟨⟩
theorem tw11697005391839127618:True:=⟨⟩
theorem tw11587202291764765874:True:=⟨⟩
theorem tw3780281544367184523:True:=⟨⟩
theorem tw12331901862669055931:True:=⟨⟩
theorem tw14754358761096274006:True:=⟨⟩
theorem tw17144887166066261253:True:=⟨⟩
theorem tw15882340140895576871:True:=⟨⟩
theorem tw602084437007584860:True:=⟨⟩
theorem tw13363143516698057011:True:=⟨⟩
theorem tw7561782875746371735:True:=⟨⟩
theorem tw2794496128574909453:True:=⟨⟩
theorem tw12713300719524868298:True:=⟨⟩
theorem tw9598274371351523567:True:=⟨⟩
theorem tw3232753201707809561:True:=⟨⟩
theorem tw14826853772722602098:True:=⟨⟩
theorem tw6784930367368417571:True:=⟨⟩
theorem tw16845443798590295384:True:=⟨⟩
theorem tw1498280774695074825:True:=⟨⟩
theorem tw3071968234071830354:True:=⟨⟩
theorem tw10108835386645294375:True:=⟨⟩
theorem tw8228903414288936843:True:=⟨⟩
theorem tw79895961253387918:True:=⟨⟩
theorem tw5807632080426603973:True:=⟨⟩
theorem tw17958102906428019138:True:=⟨⟩
theorem tw16323142888402990872:True:=⟨⟩
theorem tw7524617075683298156:True:=⟨⟩
theorem tw10305120391570514644:True:=⟨⟩
theorem tw4403694912375908276:True:=⟨⟩
theorem tw6566605292922386923:True:=⟨⟩
theorem tw7102593837328844189:True:=⟨⟩
theorem tw6013436600828001300:True:=⟨⟩
theorem tw18030001603337869787:True:=⟨⟩
theorem tw2333445674737666363:True:=⟨⟩
theorem tw5919781642585874648:True:=⟨⟩
theorem tw795125297428955444:True:=⟨⟩
theorem tw12356118745950234241:True:=⟨⟩
theorem tw782104890317787115:True:=⟨⟩
theorem tw17747931662826003279:True:=⟨⟩
theorem tw11910029152015861643:True:=⟨⟩
theorem tw3385430018268165987:True:=⟨⟩
theorem tw4286615847912566044:True:=⟨⟩
theorem tw3161394625377159606:True:=⟨⟩
theorem tw3943067339989751131:True:=⟨⟩
theorem tw14914292260205300086:True:=⟨⟩
theorem tw10013548271150399205:True:=⟨⟩
theorem tw14529450838677057261:True:=⟨⟩
theorem tw15111048106849218374:True:=⟨⟩
theorem tw12137781744353500491:True:=⟨⟩
theorem tw3784863337456826966:True:=⟨⟩
theorem tw8773757349000096741:True:=⟨⟩
theorem tw15133538059734428887:True:=⟨⟩
theorem tw9708552408096803200:True:=⟨⟩
theorem tw1381535527664640419:True:=⟨⟩
theorem tw12765956363830827237:True:=⟨⟩
theorem tw13683212800807710292:True:=⟨⟩
theorem tw8048575997225694680:True:=⟨⟩
theorem tw16005930367916700474:True:=⟨⟩
theorem tw4533561250155627421:True:=⟨⟩
theorem tw3169317686864799247:True:=⟨⟩
theorem tw14921213861584583094:True:=⟨⟩
theorem tw3847415768887146079:True:=⟨⟩
theorem tw13293274220784943031:True:=⟨⟩
theorem tw5387407265444773725:True:=⟨⟩
theorem tw243942333366236506:True:=⟨⟩
theorem tw1121413495270531704:True:=⟨⟩
theorem tw5581998044591745480:True:=⟨⟩
theorem tw18225829101678876797:True:=⟨⟩
theorem tw7676843171098643213:True:=⟨⟩
theorem tw7739951268675647209:True:=⟨⟩
theorem tw13343231470094068753:True:=⟨⟩
theorem tw11762373865641249232:True:=⟨⟩
theorem tw1106201055811247288:True:=⟨⟩
theorem tw3796274309472771637:True:=⟨⟩
theorem tw12175588517508973720:True:=⟨⟩
theorem tw4979837502270641811:True:=⟨⟩
theorem tw17561074484046810882:True:=⟨⟩
theorem tw17003945976567117192:True:=⟨⟩
theorem tw15735268056866295158:True:=⟨⟩
theorem tw290156356254553277:True:=⟨⟩
theorem tw10564089195802917993:True:=⟨⟩
theorem tw7954384092396400232:True:=⟨⟩
theorem tw8835085420324567160:True:=⟨⟩
theorem tw5938484797775834457:True:=⟨⟩
theorem tw18291711492847558678:True:=⟨⟩
theorem tw2666141350794667772:True:=⟨⟩
theorem tw15739648146471244769:True:=⟨⟩
theorem tw6558885726140891720:True:=⟨⟩
theorem tw4578776268187599280:True:=⟨⟩
theorem tw1084483854590429323:True:=⟨⟩
theorem tw106208616222141209:True:=⟨⟩
theorem tw15401993863844676227:True:=⟨⟩
theorem tw11989889012844701390:True:=⟨⟩
theorem tw1908758010293865957:True:=⟨⟩
theorem tw17525115555309841195:True:=⟨⟩
theorem tw18052993341948833817:True:=⟨⟩
theorem tw2284259344850996437:True:=⟨⟩
theorem tw5496337349838973104:True:=⟨⟩
theorem tw16045410963576889663:True:=⟨⟩
theorem tw199181249569786815:True:=⟨⟩
theorem tw17497266649292369945:True:=⟨⟩
theorem tw14453833204840832400:True:=⟨⟩
theorem tw11258774612596856716:True:=⟨⟩
theorem tw10495906512322387631:True:=⟨⟩
theorem tw5256254549060171008:True:=⟨⟩
theorem tw11216742195491306220:True:=⟨⟩
theorem tw14766484824616631132:True:=⟨⟩
theorem tw6619428274098201960:True:=⟨⟩
theorem tw3749649323884095275:True:=⟨⟩
theorem tw18217965971473044950:True:=⟨⟩
theorem tw5391875104646312573:True:=⟨⟩
theorem tw4753116672499444733:True:=⟨⟩
theorem tw2873888019873135675:True:=⟨⟩
theorem tw12685538135878950282:True:=⟨⟩
theorem tw2882887249390281655:True:=⟨⟩
theorem tw7153359551445958138:True:=⟨⟩
theorem tw1171881646720253987:True:=⟨⟩
theorem tw2436243764625637223:True:=⟨⟩
theorem tw17395772199572386937:True:=⟨⟩
theorem tw5789488629168309585:True:=⟨⟩
theorem tw12573881043690897901:True:=⟨⟩
theorem tw8143240514359512155:True:=⟨⟩
theorem tw18296198164068159916:True:=⟨⟩
theorem tw6547220000735679344:True:=⟨⟩
theorem tw15629131410038609717:True:=⟨⟩
theorem tw9914475716521500148:True:=⟨⟩
theorem tw3274419927981033327:True:=⟨⟩
theorem tw12769515659709919756:True:=⟨⟩
theorem tw6266580638375527807:True:=⟨⟩
theorem tw8188724385056477682:True:=⟨⟩
theorem tw17621515211256891846:True:=⟨⟩
theorem tw732699478090831062:True:=⟨⟩
theorem tw6262508470367672171:True:=⟨⟩
theorem tw10178895925225649106:True:=⟨⟩
theorem tw18066997262217373866:True:=⟨⟩
theorem tw4502977056523908706:True:=⟨⟩
theorem tw2933249018419698063:True:=⟨⟩
theorem tw2108619190343816684:True:=⟨⟩
theorem tw16943816352896543188:True:=⟨⟩
theorem tw3942945367123954093:True:=⟨⟩
theorem tw4638775293199813800:True:=⟨⟩
theorem tw12596032999182479467:True:=⟨⟩
theorem tw17846223519333775910:True:=⟨⟩
theorem tw253916650126595436:True:=⟨⟩
theorem tw12873310212911921793:True:=⟨⟩
theorem tw13581253886323383329:True:=⟨⟩
theorem tw13107361344963864267:True:=⟨⟩
theorem tw9582696113785625915:True:=⟨⟩
theorem tw14626716193910950297:True:=⟨⟩
theorem tw14186910462168971886:True:=⟨⟩
theorem tw2637235267846870871:True:=⟨⟩
theorem tw16825137742872927906:True:=⟨⟩
theorem tw355446392131422767:True:=⟨⟩
theorem tw10774355015647728830:True:=⟨⟩
theorem tw1632587511334398360:True:=⟨⟩
theorem tw9695731667154474207:True:=⟨⟩
theorem tw380583831048060960:True:=⟨⟩
theorem tw17753252628760065230:True:=⟨⟩
theorem tw17454436639241804941:True:=⟨⟩
theorem tw15784401232598431710:True:=⟨⟩
theorem tw14416815054294149324:True:=⟨⟩
theorem tw10773921623634288049:True:=⟨⟩
theorem tw10308782819248455798:True:=⟨⟩
theorem tw7059260607312434786:True:=⟨⟩
theorem tw1046159012176200880:True:=⟨⟩
theorem tw9287292953874928536:True:=⟨⟩
theorem tw4983967552198333860:True:=⟨⟩
theorem tw6752724936680388694:True:=⟨⟩
theorem tw8863058482970770176:True:=⟨⟩
theorem tw2062158435981742684:True:=⟨⟩
theorem tw8211211876460630048:True:=⟨⟩
theorem tw2358884239237600983:True:=⟨⟩
theorem tw851412591827857040:True:=⟨⟩
theorem tw7903370139245815910:True:=⟨⟩
theorem tw6087901242787842327:True:=⟨⟩
theorem tw17571245611073336557:True:=⟨⟩
theorem tw5996215121879491746:True:=⟨⟩
theorem tw15075014957254289125:True:=⟨⟩
theorem tw8298542021808205089:True:=⟨⟩
theorem tw3854089204402691863:True:=⟨⟩
theorem tw3599545449792779771:True:=⟨⟩
theorem tw1842958562585986116:True:=⟨⟩
theorem tw11484687063331145432:True:=⟨⟩
theorem tw17494430890764574930:True:=⟨⟩
theorem tw7118758177701046683:True:=⟨⟩
theorem tw6609208692026010449:True:=⟨⟩
theorem tw7658395550276644273:True:=⟨⟩
theorem tw4258328145944915298:True:=⟨⟩
theorem tw16084547501462972068:True:=⟨⟩
theorem tw15105327414607992980:True:=⟨⟩
theorem tw10268739200228295213:True:=⟨⟩
theorem tw10247333601090134241:True:=⟨⟩
theorem tw15102475178267998265:True:=⟨⟩
theorem tw9714793660896090844:True:=⟨⟩
theorem tw15361550336122989422:True:=⟨⟩
theorem tw3401193493841848047:True:=⟨⟩
theorem tw17653100625308094680:True:=⟨⟩
theorem tw17283419467379636628:True:=⟨⟩
theorem tw6728309498642795333:True:=⟨⟩
theorem tw12955311816561641531:True:=⟨⟩
theorem tw1223949833194439943:True:=⟨⟩
theorem tw8388408021758774270:True:=⟨⟩
theorem tw12045157312617637212:True:=⟨⟩
theorem tw8642831560447966567:True:=⟨⟩
theorem tw136019401699905275:True:=⟨⟩
theorem tw18298513824564637919:True:=⟨⟩
theorem tw14200600444125122393:True:=⟨⟩
theorem tw16795410674500984452:True:=⟨⟩
theorem tw11240163795917945709:True:=⟨⟩
theorem tw1087335939832870935:True:=⟨⟩
theorem tw10040573904124733931:True:=⟨⟩
theorem tw1401129409599520996:True:=⟨⟩
theorem tw12680587581806980337:True:=⟨⟩
theorem tw9809723867489382408:True:=⟨⟩
theorem tw9623569741983817258:True:=⟨⟩
theorem tw4438387497576459947:True:=⟨⟩
theorem tw14986325431790374310:True:=⟨⟩
theorem tw13502007407688737824:True:=⟨⟩
theorem tw16371736493266761730:True:=⟨⟩
theorem tw11327479891496891257:True:=⟨⟩
theorem tw11021433234112349823:True:=⟨⟩
theorem tw4776640618747488866:True:=⟨⟩
theorem tw13682995974925033004:True:=⟨⟩
theorem tw11931690464503183249:True:=⟨⟩
theorem tw9884531830321000618:True:=⟨⟩
theorem tw9411972042894725847:True:=⟨⟩
theorem tw9198651958206742069:True:=⟨⟩
theorem tw8304355636547642230:True:=⟨⟩
theorem tw2195323493390761000:True:=⟨⟩
theorem tw15798894115469121163:True:=⟨⟩
theorem tw15396206096725669284:True:=⟨⟩
theorem tw12795939842046506483:True:=⟨⟩
theorem tw2639769860039790961:True:=⟨⟩
theorem tw4893371713359931098:True:=⟨⟩
theorem tw2817970491992956441:True:=⟨⟩
theorem tw16923370282769679315:True:=⟨⟩
theorem tw12471649928524256235:True:=⟨⟩
theorem tw1234408752941631232:True:=⟨⟩
theorem tw11628948539340877026:True:=⟨⟩
theorem tw5564414158753314490:True:=⟨⟩
theorem tw16878483507670866908:True:=⟨⟩
theorem tw9403764940708378781:True:=⟨⟩
theorem tw4847444277381584046:True:=⟨⟩
theorem tw849234435909202878:True:=⟨⟩
theorem tw17212376592983678693:True:=⟨⟩
theorem tw16579728916068810579:True:=⟨⟩
theorem tw15015230047122541693:True:=⟨⟩
theorem tw3909760380982006708:True:=⟨⟩
theorem tw6611045416535574933:True:=⟨⟩
theorem tw15202811807276541518:True:=⟨⟩
theorem tw10933460653610682036:True:=⟨⟩
theorem tw2687948218550256042:True:=⟨⟩
theorem tw10468782772462401781:True:=⟨⟩
theorem tw3693481132754552457:True:=⟨⟩
theorem tw13353171700414582864:True:=⟨⟩
theorem tw12888707456861315630:True:=⟨⟩
theorem tw4618331346767797461:True:=⟨⟩
theorem tw18351730780424516212:True:=⟨⟩
theorem tw17643201692219513080:True:=⟨⟩
theorem tw17034216474050598297:True:=⟨⟩
theorem tw15710966711544939305:True:=⟨⟩
theorem tw8011227430631037834:True:=⟨⟩
theorem tw15157268232376651043:True:=⟨⟩
theorem tw13326048905129804728:True:=⟨⟩
theorem tw18175387922742938186:True:=⟨⟩
theorem tw16925837797875760079:True:=⟨⟩
theorem tw17398489528439186742:True:=⟨⟩
theorem tw3805548672108199233:True:=⟨⟩
theorem tw8567106542370646585:True:=⟨⟩
theorem tw8169938630564027417:True:=⟨⟩
theorem tw6623257679810468660:True:=⟨⟩
theorem tw16357597504780438704:True:=⟨⟩
theorem tw6564767135483175441:True:=⟨⟩
theorem tw3133511745168170520:True:=⟨⟩
theorem tw16742390363797287320:True:=⟨⟩
theorem tw9997413303671206526:True:=⟨⟩
theorem tw9141858702691524637:True:=⟨⟩
theorem tw346874870228440279:True:=⟨⟩
theorem tw14254781033308539427:True:=⟨⟩
theorem tw3838696383461224510:True:=⟨⟩
theorem tw11414750833501578434:True:=⟨⟩
theorem tw9904489308476677083:True:=⟨⟩
theorem tw13797385903467701216:True:=⟨⟩
theorem tw4770521639487688234:True:=⟨⟩
theorem tw2175881437432671112:True:=⟨⟩
theorem tw18083958429379109497:True:=⟨⟩
theorem tw13092751451024400376:True:=⟨⟩
theorem tw4330677699385257751:True:=⟨⟩
theorem tw7878673959311439808:True:=⟨⟩
theorem tw4728215458648996108:True:=⟨⟩
theorem tw5807828938809397749:True:=⟨⟩
theorem tw16704078626688144638:True:=⟨⟩
theorem tw192766263098650043:True:=⟨⟩
theorem tw18414146959648612029:True:=⟨⟩
theorem tw14293609754529491847:True:=⟨⟩
theorem tw18084901228923116530:True:=⟨⟩
theorem tw635139265868439890:True:=⟨⟩
theorem tw16836880110679502827:True:=⟨⟩
theorem tw15512035179680162326:True:=⟨⟩
theorem tw10774144472665799641:True:=⟨⟩
theorem tw9447055752592538989:True:=⟨⟩
theorem tw9415726196920902157:True:=⟨⟩
theorem tw8939156705010205489:True:=⟨⟩
theorem tw8784158506014732496:True:=⟨⟩
theorem tw6486133543866350687:True:=⟨⟩
theorem tw3552148109369966391:True:=⟨⟩
theorem tw2187140283507772630:True:=⟨⟩
theorem tw17166341723438593175:True:=⟨⟩
theorem tw15701317964450715738:True:=⟨⟩
theorem tw12063089180382892279:True:=⟨⟩
theorem tw11253533977951625436:True:=⟨⟩
theorem tw12147822531472481653:True:=⟨⟩
theorem tw9092991659506462082:True:=⟨⟩
theorem tw9056527092238464307:True:=⟨⟩
theorem tw8071581361928864712:True:=⟨⟩
theorem tw7995002123932850931:True:=⟨⟩
theorem tw6946729762274569998:True:=⟨⟩
theorem tw5940359258849977936:True:=⟨⟩
theorem tw5609160665258486960:True:=⟨⟩
theorem tw4061448968007656826:True:=⟨⟩
theorem tw3441770071456076439:True:=⟨⟩
theorem tw2694811069877196352:True:=⟨⟩
theorem tw2246181261956820377:True:=⟨⟩
theorem tw18328239317951785483:True:=⟨⟩
theorem tw17847001138148666489:True:=⟨⟩
theorem tw17178467270924892219:True:=⟨⟩
theorem tw17176819405373294953:True:=⟨⟩
end PySem.W.Fast
set_option genInjectivity false in
set_option genSizeOf false in
structure PySem.W.Fast:Prop where
 (tw16225250459530081659 tw16033702340272234016 tw16006919870849464918 tw15539854985952989957 tw15369658257536996559 tw15304371404905737206 tw14273451505321752042 tw12759996568434925811 tw12314239358544554153 tw11732615097717549612 tw11169189451286883072 tw11091961414967689220 tw10574027182519910609 tw7587179588106351436 tw4240783868112339923 tw13547642138614847141 tw6083789682128877766 tw7483818941997266956 tw16577698520851459219 tw2597835728806088308 tw185872102702524420 tw5154145258138003598 tw2863303767605415937 tw285162029331917208 tw13859047550349262267 tw13165720269045954412 tw10019029433165488940 tw3600942236281976806 tw2225833247389321812 tw15197213702494630793 tw11188075104913976011 tw4356103496951830027 tw9855865696202851875 tw14631227438828951250 tw9774608412178959773 tw9645160970165116676 tw9099295309133647395 tw711027279656766696 tw6538358079665813201 tw6312345552216211728 tw589499675717087951 tw5434264120862043323 tw4333322972549937481 tw2056432696261532812 tw18376504274631283838 tw17186785661841198055 tw16888781173283247696 tw15045976512459994472 tw12643373650869354368 tw10354723730505516107 tw10175500169062447232 tw2532052948703317397 tw15285272653790413731 tw10907354460740813217 tw936914173414471297 tw9082128170478032209 tw8143931411520254760 tw6905966870093975364 tw6790643707479872138 tw6456907995729589055 tw5820651960839044369 tw2237760615833050627 tw2049769621973692055 tw17904098627406652004 tw16545561330366714484 tw16337824553926578609 tw16335525120572092902 tw15264553363092026423 tw14575758356684712382 tw13936507702571884194 tw13509078524584083775 tw13174537061616162070 tw13065779237212222631 tw13027127549557488778 tw12245324703982939256 tw11036577005429259447 tw11018484364927681102 tw10823858430978418501 tw7339681853600561350 tw1162691821801938275 tw11004554678622758500 tw10034230264757935768 tw9902363725823983057 tw14970785533945144411 tw10567727199325342284 tw6669599543288694862 tw12752684903265760149 tw12639281126750860447 tw10931258929246367283 tw9810716827560107751 tw8820322782783339154 tw8819904453933433310 tw8689382316178811429 tw7029932780199965640 tw6168017022754017599 tw573142636298117622 tw4848667162541470558 tw2560105494263443645 tw17709999340353789841 tw16609554815542067249 tw15192228065037312827 tw10003417094740160461 tw14187337170433474265 tw12948164591177868815 tw6856139086427081230 tw6430089785466463414 tw6202960033995549828 tw4844865863282964108 tw3761090061840055872 tw1759374524194805662 tw13551047253650354551 tw13034541847862786411 tw12701202934364738999 tw12278531634823624468 tw9394007926440018686 tw4951166498399036999 tw8023666297756474216 tw4319803371931507405 tw14175470735327992608 tw14937062393708718603 tw5820026827634719857 tw5452545366229264695 tw16472552540141771165 tw14107522982431175044 tw7078700663539754129 tw16665463178925122741 tw8328542308149200843 tw5821019761309174112 tw15772622484485270151 tw14032703109054878716 tw12807495547809731467 tw9509183454641522019 tw8061246923345137193 tw7364460383025753188 tw4844722121534473346 tw2721299385607519531 tw2530344678853074337 tw1991847651342466692 tw17604124738737671992 tw17351390711144770472 tw16583454382515562501 tw15629483895505870032 tw15481648040267331343 tw15312622936560718086 tw14945190963364839983 tw13300265037859754162 tw12254203750807263859 tw11897103292995746623 tw11619378086521202794 tw10928265140026413795 tw10555781775477818151 tw1054302074482282654 tw10305035956373329522 tw6375694993719129215 tw3240226858955775502 tw3031012619245179255 tw13722795813683021780 tw13433835887168460400 tw10058052902101051800 tw4466839801581920559 tw17563841489348225253 tw9593546388615642953 tw9424796789745330253 tw8743739244898039476 tw8652182159238934256 tw7799514198003489344 tw7280036026553027209 tw5228798374585475263 tw3155695916973918255 tw2149707846239380726 tw1979769000233430894 tw15675093874341488630 tw14455534908702482767 tw14110999111571090352 tw13630137917870067786 tw13503846468724438928 tw12782465597034366353 tw12694328188238763487 tw12662704542636631710 tw11249512991235347479 tw8647868494305847360 tw7356374694994297481 tw6782297309853296828 tw6259199649672294120 tw5851010287507922693 tw4667984558742470981 tw204379492008080641 tw15688056405419174630 tw14014807908029517446 tw1315731258579570634 tw1237674607869687519 tw10733381912116692342 tw10004196709245950344:True)
open PySem PySem.W PyProof.Rows
set_option maxRecDepth 100000 in
theorem PySem.Challenge.cw_wornpages_k68_refused_in_the_dark_holds : PySem.Challenge.rw_wornpages_k68_refused_in_the_dark.Holds := by
 (
w_on;o_law;k_head;(case hw=>w_witness2)
k_fill
refine W1.walk (l:=PySem.Challenge.rw_wornpages_k68_refused_in_the_dark) rfl rfl (λw h Y=>⟨W.km_in_of Y,λT hT=>W.km_tabs_of Y T (by simp at hT ⊢;first|exact hT|exact hT.symm)⟩) (?T) ?F
case T=>
 intro w T hT;have hT:T=335\/T=608:=by simpa using hT
 rcases hT with rfl|rfl
 .exact⟨by kernel_rfl,337,by kernel_rfl⟩
 exact⟨by kernel_rfl,612,by kernel_rfl⟩
case F=>
 intro w mg fa h KX G hmg;refine' W1.qLQ (z1:=335) (z0:=337) (z3:=608) (z2:=612) KX G hmg ..
 any_goals first|k_is|(refine' L2.FnX.of ?fa ?fb;(case fa=>k_is);(case fb=>k_is))|((first|apply And.intro|apply L2.Meth.mk|apply L2.Mk.mk|apply L2.Cls.mk|apply L2.XAt.mk|apply L2.BIni.mk|apply L2.ClM.mk|apply L2.XRd.mk)<;>first|k_is|kernel_rfl)|(show W.findIn _ _ _=_;k_is)
 all_goals first|k_exc|kts_exm|kit_is|kernel_rfl|decide)
