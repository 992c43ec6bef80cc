import PyProof.Rows.All
import Wide.All
import OpenK.AllK
import Wide.FinOn
import Lean
import PyProof.EqAt
import PyProof.EqKinds
import PyProof.TupleCall
import PyProof.StationsW
import PyProof.NsDelKeeps
import PyProof.PassesOwn
import PyProof.ZipIter
import PyProof.NeKinds
import PyProof.CompFree
import KE.KDictList
import PyProof.ConsumeWalk
import PyProof.WalkInts
import PyProof.WalksMore
import PyProof.SumAny
import PyProof.Rows.MinMaxN
import PyProof.Rows.SortWalk
import PyProof.ListRange
import KE.KTupSum
import PyProof.EnumFor
import PyProof.EnumMake
import PyProof.EnumStmt
import OpenK.KMake
import PyProof.DictWalks
import PyProof.FitsBits
import PyProof.CompUse
import KE.KSortTup
import PyProof.MinMaxWalk
import PyProof.SeqI3
import PyProof.DictItems
import KE.KItemsList
import KE.KEqDict
import KE.KDictSum
import PyProof.DictValues
import KE.KLam
import KE.KNestM
import PyProof.ExcClass3
import PySem.Challenge.RW_wornpages_k43_a_changing_about
set_option Elab.async false
set_option linter.all false
set_option maxRecDepth 100000
set_option maxHeartbeats 0
set_option tactic.hygienic false
set_option compiler.extract_closed false
abbrev hG:=@decide_eq_true
abbrev hX:=@decide_eq_false
abbrev kE:=@if_neg
abbrev kL:=@if_pos
abbrev mG:=@decide_eq_true_eq
abbrev mI:=@of_decide_eq_true
abbrev gZ:=@of_decide_eq_false
abbrev dL:=@congrArg
abbrev rZ:=@decide_eq_false_iff_not
abbrev wA:=@beq_eq_false_iff_ne
abbrev wO:=@or_false
abbrev wZ:=@beq_iff_eq
abbrev cH:=@decide_eq_decide
open List renaming length_map->hU, mem_cons_of_mem->kB, getElem?_eq_some_iff->kC, mem_singleton->kD, getElem?_eq_getElem->kF, getD_eq_getElem?_getD->kJ, mem_cons->kN, mem_map->kP, length_append->kU, take_append_getElem->kW, mem_cons_self->kX, length_filter_le->kY, map_append->mE, getElem?_map->mF, mem_append_right->mH, size_toArray->mL, length_range->mM, length_cons->mP, mem_filter->mQ, map_cons->mR, filter_cons->mU, mem_range->mV, take_length->mY, filter_append->m7, nodup_cons->gD, length_take->gF, getElem_mem->gG, length_set->gK, mem_of_getElem?->gL, length_singleton->gM, append_nil->gN, not_mem_nil->gP, mem_append->gQ, getElem?_eq_none->gR, mem_append_left->gX, length_replicate->g7, map_congr_left->dA, pairwise_cons->dC, pairwise_map->dO, getElem?_append_right->dP, nil_append->dS, all_eq_true->dU, map_map->dW, filterMap_cons->dY, sum_cons->dZ, length_filterMap_le->d6, find?_cons->d7, find?_some->d8, find?_eq_none->rA, pairwise_lt_range->rE, replicate_succ->rJ, filter_nil->rK, mem_of_find?_eq_some->rM, lookup_cons->rQ, nodup_range->rR, filter_congr->r6, range_succ->r9, getElem_of_mem->wC, filter_eq_self->wD, length_pos_of_mem->wH, cons_append->wL, mem_filterMap->wM, getElem?_append_left->wR, drop_eq_getElem_cons->wS, exists_mem_of_ne_nil->wT, length_nil->wV, append_assoc->wW, nodup_append->wX, flatMap_cons->wY, any_cons->cA, getElem?_replicate->cD, ext_getElem->cF, any_eq_true->cG, length_eq_zero_iff->cI, countP_eq_length_filter->cQ, flatten_cons->cW, foldl_append->cX, getElem?_set_ne->cZ, pairwise_iff_getElem->pD, filter_sublist->pE, mergeSort_perm->pF, map_eq_nil_iff->pG, getElem_range->pQ, mem_mergeSort->pT, map_replicate->pU, pairwise_mergeSort->pV, zipWith_cons_cons->p9, countP_mono_left->sE, filterMap_append->sG, countP_cons->sO, eq_nil_of_length_eq_zero->sS, of_mem_zip->sU, filter_map->sV, mem_map_of_mem->nE, length_pos_iff->nG, filter_filter->nY, length_erase_of_mem->lG, getElem?_cons_succ->lL, getElem_map->lQ, flatMap_eq_nil_iff->lS, flatMap_nil->lT, getElem?_set_self->lU, take_of_length_le->xA, foldl_cons->xH, length_mergeSort->xL, take_append_drop->xM, mem_erase_of_ne->xU, length_zipWith->xZ, flatMap_append->x6, nil_perm->aB, zip_cons_cons->aI, map_set->bH, find?_append->bK, drop_length->bR, flatMap_def->bS, map_id->bY, forIn_cons->eA, sum_append->eI, perm_cons->eW, foldl_nil->eZ, nodup_nil->e9, all_cons->fN, map_nil->fR, any_map->fT
open PySem renaming wpAny_bind->kI, wpAny_pure->mO, boot_len->g5, sizeLine_eq->g8, wpAny_holding->g9, mem_of_lookup->dG, wpAny_truthy_bool->dH, wpAny_mono->dN, wpAny_Call_Name_kw->d9, wpAny_tryCatch->rG, wpAny_passesOwn->wU, plainId_quiet->cB, wpAny_letGo->cJ, codeAny_builtin->cR, wpAny_updateSeq->cS, wpAny_seqItems->c9, wpAny_newList->pJ, wpAny_call->pN, tupleKind_room_in1->pO, codeAny_mono->pZ, wpAny_standAt->sQ, codeAny_call_builtin->sR, wpAny_execs_nil->sT, call_meetsIn->nI, wpAny_newFunctionEnv_cells->nO, wpAny_Call_method->lA, wpAny_field->lB, intItems_at->lC, nums_intItems->lF, seqIndex_neg->lW, wpAny_getItem_list_neg->lZ, wpAny_loadPart'->xF, wpAny_isTrue_Compare1->xJ, wpAny_loadName_local->xN, seqIndex_of->xP, wpAny_setField->xQ, wpAny_newFunctionEnv->xS, numAt_eq->xT, wpAny_loadName_cell->xW, wpAny_attempt->x9, call_meets->aJ, wpAny_assign_Name->aU, wpAny_pyIter_list->aV, wpAny_newObj_type->bC, wpAny_Name->eQ, typeIs_int->eT
open PySem.Heap renaming get?_push_of_some->kM, lt_size->mD, get?_update_other->mJ, get?_push_size->mZ, get?_update_self->rO, get?_none_of_le->cY, size_push->nM, size_update->lP
open Nat renaming le_refl->kO, le_trans->kQ, zero_le->m9, lt_of_lt_of_le->gA, ne_of_lt->gC, mul_le_mul_right->gH, lt_of_le_of_lt->dJ, lt_irrefl->dR, le_succ->rB, ne_of_gt->rC, lt_succ_self->rP, succ_mul->rS, add_le_add_right->rV, lt_succ_of_lt->rX, add_mul->wJ, one_mul->wK, le_of_lt->cK, mul_comm->cM, div_lt_iff_lt_mul->cV, mod_eq_of_lt->pC, le_of_eq->pW, add_zero->p8, mul_le_mul->sB, not_lt->sJ, mul_add_mod->sX, zero_add->nK, eq_of_mul_eq_mul_right->nV, le_add_right->lM, sub_self->xC, not_lt_zero->xI, pos_of_ne_zero->aR, lt_of_succ_lt->bA, succ_pos->bL, mul_mod_left->bO, min_eq_right->bT, min_eq_left->eL, div_eq_iff->fB
open Bool renaming false_ne_true->kZ, and_eq_true->gE, not_eq_true'->rD, eq_iff_iff->cN, or_eq_true->cO, false_eq_true->pR, true_and->aA, eq_false_iff->bD, and_false->eU, and_comm->fQ
open Option.some renaming inj->mB
open Int renaming toNat_natCast->mC, le_refl->gU, natCast_mul->gY, natCast_ediv->dX, natCast_add->rL, eq_ofNat_of_zero_le->rW, le_of_lt->pA, le_trans->p7, mul_le_mul_of_nonneg_right->sP, toNat_of_nonneg->nH, lt_of_lt_of_le->nQ, mul_ediv_cancel_left->lI, not_lt->xB, zero_add->xD, mul_nonneg->xR, lt_irrefl->aE, emod_lt_of_pos->aM, natCast_nonneg->aS, one_mul->bX, emod_nonneg->b8, mul_le_mul->fA
open Option renaming map_eq_some_iff->mK, isSome_iff_exists->pH, bind_some->sL, isSome_map->aZ, map_some->eE
open Array renaming length_toList->mW, getElem?_eq_some_iff->c8, getD_eq_getD_getElem?->nJ, perm_iff_toList_perm->nU, toList_inj->lN, toList_map->lO, append_assoc->aH, map_map->fO
open PySem.F renaming plain_min_loop->gJ, plainAttrs_list->gO, slot_list_append->dD, type_list_append->dE, entry_min_loop->rF, plainAttrs_dict->cE, slot_dict_pop->cU, slot_dict_itemiterator_iter->pK, slot_list_extend->pL, type_list_extend->pM, slot_dict_get->sD, args_dict_pop_3->lJ, args_dict_get_3->lK, slot_dict_items->lR, entry_dict_pop->l7, entry_dict_get->l8, type_dict_pop->xK, plain_min->bI, entry_min->bJ, kind_min->bU, slot_int_rmul->bZ
open PySem.PassesOwn renaming never->gT, leaving->lE
open PySem.W renaming mg_of->gW, kia_one->dM, mg_none_of->rH, methodCall_KW->wP, callWith_K->cL, looks_findIn->c6, cellsFrom_some->p6, any_some->sI, plainGet_of->sY, callWith_K0->sZ, check_slot->aK, make_core->aW, kitx_list->aX, kitx_dict->aY, makes_of->bM, codeHd_of_K->bV
open List.Pairwise renaming filter->dQ, sublist->sF
open Decidable renaming byContradiction->rN
open PySem.Around renaming under_plainId->rT, frames_deeper->xO
open PySem.BindsTo renaming of_defaults->wE
open PyProof.Rows renaming callWith_type1->wF, get?_update_seq->cP, listUpdate_at->cT, seqEpoch_at->lD, subscriptTail_builtinR->lY, getElem?_mirror_all->xY, size_push'->aQ, listItems_at->bE, pairsOf_size->bG, callWith_kw->bW
open PySem.Calls renaming callWith_builtin->wG, spliced_cons->wN, evalArgs_plain->c7, spliced_nil->pX, Name_function_global->nL
open Sum.inl renaming inj->wI
open PySem.Obj renaming isFreed_of_fields->wQ, data_mapFields->pP
open Ne renaming symm->cC
open PySem.SeqAt.EqAt renaming int_int->nP, same->xG, int_str->aF, str_int->aG, of_refs->aN
open Classical renaming byContradiction->nZ, epsilon_spec->xE
open PySem.Walks renaming list->l9
open PySem.Value renaming isStrOf_shape->xV, isInt_shape->aT
open PySem.SeqAt.RcNeAt renaming tuples->xX, lists->aP
open PySem.Paired renaming length->x8
open PySem.W.Looks renaming ld->bN, of_pure->fU, here->fV
open List.Sublist renaming map->bQ
open PySem.SeqAt renaming eq_listAt->b9
open Array.Perm renaming refl->eF
open StateT renaming run_pure->eG
open Iff renaming rfl->eO
open PySem.EqMixed renaming eq_bool_str->fE, eq_str_bool->fF, ne_bool_str->fG, ne_str_bool->fH, eq_int_str->fI, eq_str_int->fK, ne_int_str->fL, ne_str_int->fM
set_option genSizeOf false
namespace L2
open PySem PySem.Spec PyProof.Rows
abbrev Key:=Sum Int Str
noncomputable def q8Q:Key->Value->Bool
| .inl k,v=>Value.isInt k v
| .inr x,v=>Value.isStrOf x v
noncomputable def keyH(w:World):Key->Int
| .inl k=>hashInt k
| .inr x=>hashStr w x
theorem yS:∀{k:Key} {v:Value},q8Q k v=true->(∃i t,k=Sum.inl i/\v=Value.int i t)\/(∃x t,k=Sum.inr x/\v=Value.str x t)
| .inl i,v,h=>by obtain⟨t,e⟩:=aT (k:=i) (v:=v) h;exact .inl ⟨i,t,rfl,e⟩
| .inr x,v,h=>by obtain⟨t,e⟩:=xV (x:=x) (v:=v) h;exact .inr ⟨x,t,rfl,e⟩
theorem qE9(i:Int)(t:Tok):q8Q (.inl i) (.int i t)=true:=by simp[q8Q,Value.isInt]
theorem qEA(x:Str)(t:Tok):q8Q (.inr x) (.str x t)=true:=by simp[q8Q,Value.isStrOf]
theorem qJY(a b:Int):decide ((Sum.inl a:Key)=Sum.inl b)=(a==b):=by(
by_cases e:a=b
.subst e;simp
simp_all)
theorem qJZ(a b:Str):decide ((Sum.inr a:Key)=Sum.inr b)=decide (a=b):=by(
simp)
theorem qK0(a:Int)(b:Str):decide ((Sum.inl a:Key)=Sum.inr b)=false:=hX (λq=>nomatch q)
theorem qK1(a:Str)(b:Int):decide ((Sum.inr a:Key)=Sum.inl b)=false:=hX (λq=>nomatch q)
noncomputable def yA(prog:Program)(w:World):PySem.KeyKind prog w Key where
is:=q8Q
hash:=keyH w
inj:=λv a b ha hb=>by
 rcases yS ha with⟨i,t,rfl,rfl⟩|⟨x,t,rfl,rfl⟩
 .rcases yS hb with⟨j,u,rfl,e⟩|⟨y,u,rfl,e⟩
  .injection e with e1 _;rw[e1]
  exact nomatch e
 rcases yS hb with⟨j,u,rfl,e⟩|⟨y,u,rfl,e⟩
 .exact nomatch e
 injection e with e1 _;rw[e1]
byValue:=λk v h=>by rcases yS h with⟨i,t,rfl,rfl⟩|⟨x,t,rfl,rfl⟩<;>rfl
pyHash:=λhv h=>by
 rcases yS hv with⟨i,t,rfl,rfl⟩|⟨x,t,rfl,rfl⟩
 .exact wpAny_pyHash_int h
 exact wpAny_pyHash_str h
eqBool:=λhu hv h=>by
 rcases yS hu with⟨i,t,rfl,rfl⟩|⟨x,t,rfl,rfl⟩
 .rcases yS hv with⟨j,u,rfl,rfl⟩|⟨y,u,rfl,rfl⟩
  .rw[qJY]at h;exact wpAny_eqBool_int h
  rw[qK0]at h;exact aF i t y u _ _ _ _ h
 rcases yS hv with⟨j,u,rfl,rfl⟩|⟨y,u,rfl,rfl⟩
 .rw[qK1]at h;exact aG x t j u _ _ _ _ h
 rw[qJZ]at h;exact wpAny_eqBool_str h
«strs»:=λk x t v h=>by
 rcases yS h with⟨i,u,rfl,e⟩|⟨y,u,rfl,e⟩
 .exact nomatch e
 injection e with e1 _
 subst e1;cases v<;>rfl
theorem qAV(prog:Program)(w:World)(i:Int)(t:Tok):(yA prog w).is (.inl i) (.int i t)=true:=qE9 i t
theorem qAW(prog:Program)(w:World)(x:Str)(t:Tok):(yA prog w).is (.inr x) (.str x t)=true:=qEA x t
inductive V where
|non|bl (b:Bool)|int (i:Int)|str (x:Str)|byt (b:Array UInt8)|flt (b:UInt64)|ref (a:Addr)|ty (n:String)
deriving DecidableEq
def RelV:V->Value->Prop
| .non,u=>u=Value.none
| .bl b,u=>u=Value.bool b
| .int i,u=>∃t,u=Value.int i t
| .str x,u=>∃t,u=Value.str x t
| .byt b,u=>∃t,u=Value.bytes b t
| .flt b,u=>∃t,u=Value.float b t
| .ref a,u=>u=Value.ref a
| .ty n,u=>u=Value.type n
abbrev Vals:List V->List Value->Prop:=Paired RelV
theorem Vals.length(r:Vals xs us):xs.length=us.length:=x8 r
theorem Vals.get:∀{xs:List V} {us:List Value} {i:Nat} {x:V},Vals xs us->xs[i]?=some x->∃u,us[i]?=some u/\RelV x u
|_,_,_,_,.nil,e=>by simp at e
|_,_,0,_,.cons r _,e=>by simp at e;subst e;exact⟨_,rfl,r⟩
|_,_,i+1,x,.cons _ t,e=>by obtain⟨u,h1,h2⟩:=Vals.get (i:=i) (x:=x) t (by simpa using e);exact⟨u,by simpa using h1,h2⟩
theorem Vals.set{x:V}(r:RelV x u):∀{xs:List V} {us:List Value} (i:Nat),Vals xs us->Vals (xs.set i x) (us.set i u)
|_,_,_,.nil=>.nil
|_,_,0,.cons _ t=>.cons r t
|_,_,i+1,.cons q t=>.cons q (Vals.set r i t)
theorem Vals.append:∀{xs ys:List V} {us ws:List Value},Vals xs us->Vals ys ws->Vals (xs++ys) (us++ws)
|_,_,_,_,.nil,s=>s
|_,_,_,_,.cons r t,s=>.cons r (Vals.append t s)
def RelO:Option V->Option Value->Prop
|some v,some u=>RelV v u
|none,none=>True
|_,_=>False
def KV{κ:Type}:List (κ×V)->List (κ×Value)->Prop:=Paired λ(p:κ×V) (q:κ×Value)=>p.1=q.1/\RelV p.2 q.2
noncomputable def kV:Key->V
| .inl i=>.int i
| .inr x=>.str x
inductive HO where
|lst (xs:List V)
|tup (xs:List V)
|dK (kvs:List (Key×V))|dT (kvs:List (List Key×V))
|set (S:Int->Bool) (n:Nat)
|ins (C dx:Addr) (fs:List (Str×V))
|own (x:Addr)
|xd (fs:List (Str×V))
|met (f x:Addr)
|rng (lo hi:Int)
|frz (o:Obj) (u:HO)
|tbl (ps:Array Value)
|ext (φ:Heap->Prop)
abbrev Hp:=Addr->Option HO
noncomputable def upd(H:Hp)(a:Addr)(o:HO):Hp:=λb=>if b=a then some o else H b
theorem qI{a:Addr}{o:HO}:upd H a o a=some o:=by unfold upd;rw[kL rfl]
theorem qF{a b:Addr}{o:HO}(h:b≠a):upd H a o b=H b:=by unfold upd;rw[kE h]
theorem q6G{a:Addr}{o:HO}:upd (upd H a o) a u=upd H a u:=by funext b;unfold upd;simp_all
theorem jZ{H:Hp}{a b:Addr}{o u:HO}(h:H a=some o)(h':H b=some u)(d:o≠u):a≠b:=by intro e;subst e;rw[h]at h';exact d (mB h')
theorem qG{H:Hp}{a b:Addr}{o:HO}(h:H a=some o)(h':H b=none):a≠b:=by lia
section
variable(P:Program)(w:World)
def jQ(H:Hp)(h:Heap)(a:Addr):HO->Prop
| .lst xs=>xs.length<=sizeLine/\∃(its:List Value) (n:Nat),Vals xs its/\h.get? a=some { cls:=.type "list",data:=.seq its.toArray n }
| .tup xs=>xs.length<=sizeLine/\∃its:List Value,Vals xs its/\IsTup h a its.toArray
| .dK kvs=>kvs.length<=sizeLine/\(a==sysModules)=false/\∃vs,KV kvs vs/\h.DictOf (yA P w) a vs
| .dT kvs=>kvs.length<=sizeLine/\(a==sysModules)=false/\∃xs:List (List Key×Addr×Value),Paired (λ(p:List Key×V) (q:List Key×Addr×Value)=>p.1=q.1/\H q.2.1=some (.tup (p.1.map kV))/\RelV p.2 q.2.2) kvs xs/\∃o es ep,h.get? a=some o/\o.ExactDict/\o.data=.dict es ep/\es.toList=xs.map (entryOfKey (tupleKind (yA P w)))/\(xs.map (·.1)).Nodup
| .set S n=>h.SetOf (intKind P w) a S n
| .ins C dx fs=>H dx=some (.own a)/\fs.length<=1000/\dx≠a/\h.get? a=some (PySem.W.instObj C dx)/\∃mA,h.Ns1 dx mA/\(∀f,RelO (fs.lookup f) (mA f))/\PySem.Within mA (fs.map (·.1))
| .own _=>∃o,h.get? a=some o
| .xd fs=>∃mA,h.Ns1 a mA/\∀f,RelO (fs.lookup f) (mA f)
| .rng lo hi=>∃t u v,h.get? a=some { cls:=.type "range",data:=.fields #[.int lo t,.int hi u,.int 1 v] }
| .frz o u=>h.get? a=some o/\jQ H h a u
| .tbl ps=>h.get? a=some { cls:=.none,data:=.fields ps }
| .met f x=>h.get? a=some (PySem.W.methodObj (.ref f) (.ref x))
| .ext φ=>φ h/\(∃o,h.get? a=some o)/\∀h1 h2:Heap,φ h1->(∀o,h1.get? a=some o->h2.get? a=some o)->φ h2
def HOk(H:Hp)(h:Heap):Prop:=∀a o,H a=some o->jQ P w H h a o
end
section
variable{P:Program}{w:World}{H H':Hp}{h h':Heap}{a:Addr}{o:HO}
theorem jQ.lt(x:jQ P w H h a o):a<h.objs.size:=by(
cases o with
|lst xs=>obtain⟨_,_,_,_,e⟩:=x;exact mD e
|tup xs=>obtain⟨_,_,_,p⟩:=x;exact p.lt
|dK kvs=>obtain⟨_,_,_,_,o,_,_,e,_⟩:=x;exact mD e
|dT kvs=>obtain⟨_,_,_,_,o,_,_,e,_⟩:=x;exact mD e
|set S n=>obtain⟨o,_,_,_,e,_⟩:=x;exact mD e
|ins C dx fs=>obtain⟨_,_,_,e,_⟩:=x;exact mD e
|own y=>obtain⟨_,e⟩:=x;exact mD e
|xd fs=>obtain⟨_,⟨_,_,_,e,_⟩,_⟩:=x;exact mD e
|rng I D=>obtain⟨_,_,_,e⟩:=x;exact mD e
|frz z u=>obtain⟨e,_⟩:=x;exact mD e
|tbl ps=>exact mD (show h.get? a=some _ from x)
|met f y=>exact mD (show h.get? a=some _ from x)
|ext φ=>obtain⟨_,⟨_,e⟩,_⟩:=x;exact mD e)
theorem Paired.mapP{α β:Type}{F G:α->β->Prop}:∀{l₁:List α} {l₂:List β},Paired F l₁ l₂->(∀a b,F a b->G a b)->Paired G l₁ l₂
|_,_,.nil,_=>.nil
|_,_,.cons r t,f=>.cons (f _ _ r) (Paired.mapP t f)
theorem jQ.stay(x:jQ P w H h a o)(k:∀b u,(b=a\/H b=some (.own a))->h.get? b=some u->h'.get? b=some u)
 (ho:∀b,H b=some (.own a)->H' b=some (.own a)) (ht:∀b xs,H b=some (.tup xs)->H' b=some (.tup xs)):jQ P w H' h' a o:=by(
induction o with
|lst xs=>obtain⟨z,J,n,r,e⟩:=x;exact⟨z,J,n,r,k _ _ (.inl rfl) e⟩
|tup xs=>obtain⟨z,J,r,D,e,c⟩:=x;exact⟨z,J,r,D,k _ _ (.inl rfl) e,c⟩
|dK kvs=>obtain⟨z,y,N,r,D,es,I,e,c⟩:=x;exact⟨z,y,N,r,D,es,I,k _ _ (.inl rfl) e,c⟩
|dT kvs=>obtain⟨z,y,xs,r,D,es,I,e,c⟩:=x;exact⟨z,y,xs,Paired.mapP r λp q z=>⟨z.1,ht _ _ z.2.1,z.2.2⟩,D,es,I,k _ _ (.inl rfl) e,c⟩
|set S n=>obtain⟨D,es,I,t,e,c⟩:=x;exact⟨D,es,I,t,k _ _ (.inl rfl) e,c⟩
|ins C dx fs=>obtain⟨d,z,ne,e,mA,⟨od,es,I,O,c⟩,r⟩:=x;exact⟨ho _ d,z,ne,k _ _ (.inl rfl) e,mA,⟨od,es,I,k _ _ (.inr d) O,c⟩,r⟩
|own y=>obtain⟨D,e⟩:=x;exact⟨D,k _ _ (.inl rfl) e⟩
|xd fs=>obtain⟨mA,⟨od,es,I,e,c⟩,r⟩:=x;exact⟨mA,⟨od,es,I,k _ _ (.inl rfl) e,c⟩,r⟩
|rng lo Z=>obtain⟨t,u,v,e⟩:=x;exact⟨t,u,v,k _ _ (.inl rfl) e⟩
|frz D u U=>obtain⟨e,q⟩:=x;exact⟨k _ _ (.inl rfl) e,U q⟩
|tbl ps=>have e:=x;exact k a _ (.inl rfl) e
|met f y=>have e:=x;exact k a _ (.inl rfl) e
|ext φ=>obtain⟨p,⟨o,e⟩,st⟩:=x;exact⟨st _ _ p λo q=>k _ _ (.inl rfl) q,⟨o,k _ _ (.inl rfl) e⟩,st⟩)
theorem HOk.lt(x:HOk P w H h)(e:H a=some o):a<h.objs.size:=(x a o e).lt
theorem HOk.fresh(x:HOk P w H h)(e:h.objs.size<=a):H a=none:=by(
cases q:H a with
|none=>rfl
|some u=>exact absurd (gA (x.lt q) e) (dR _))
theorem HOk.kept(x:HOk P w H h)(k:∀b u,h.get? b=some u->h'.get? b=some u):HOk P w H h':=λa o e=>(x a o e).stay (λb u z q=>k b u q) (λz q=>q) λz z q=>q
theorem HOk.laid(x:HOk P w H h)(k:∀b u,h.get? b=some u->h'.get? b=some u)(hp:h.objs.size<=a)(new:jQ P w (upd H a o) h' a o):HOk P w (upd H a o) h':=λb u e=>by(
have hn:=x.fresh hp
by_cases hb:b=a
.subst hb;rw[qI]at e;lia
rw[qF hb]at e
exact(x b u e).stay (λc v z q=>k c v q) (λc q=>by rw[qF (qG q hn)];exact q) λc xs q=>by rw[qF (qG q hn)];exact q)
end
def Rd(H:Hp)(a:Addr)(u:HO):Prop:=H a=some u\/∃o,H a=some (.frz o u)
theorem Rd.ok{P:Program}{w:World}{H:Hp}{h:Heap}{a:Addr}{u:HO}(r:Rd H a u)(x:HOk P w H h):jQ P w H h a u:=by(
rcases r with r|⟨o,r⟩
.exact x a u r
obtain⟨_,q⟩:=x a _ r
exact q)
def Mut:Option HO->Prop
|some (.lst _)=>True
|some (.dK _)=>True
|some (.dT _)=>True
|some (.set _ _)=>True
|some (.ins _ _ _)=>True
|some (.ext _)=>True
|_=>False
section
variable{P:Program}{w:World}{H:Hp}{h h':Heap}{x e:Addr}{o':HO}
theorem HOk.write(ok:HOk P w H h)(mu:Mut (H x))(he:e=x\/H e=some (.own x))(k:∀b u,b≠e->h.get? b=some u->h'.get? b=some u)(heo:∃u,h'.get? e=some u)
 (new:jQ P w (upd H x o') h' x o'):HOk P w (upd H x o') h':=λb u q=>by(
have nown:∀c y,H c=some (.own y)->c≠x:=λc y r z=>by subst z;rw[r]at mu;exact mu
have ntup:∀c xs,H c=some (.tup xs)->c≠x:=λc xs r z=>by subst z;rw[r]at mu;exact mu
by_cases hb:b=x
.subst hb;rw[qI]at q;lia
rw[qF hb]at q
by_cases hbe:b=e
.have q':H b=some (.own x):=by
  rcases he with z|z
  .exact absurd (hbe.trans z) hb
  rw[hbe];exact z
 rw[q]at q';cases q';obtain⟨v,hv⟩:=heo;exact⟨v,by rw[hbe];exact hv⟩
refine(ok b u q).stay (λc v hc r=>k c v ?_ r) (λc r=>by rw[qF (nown c b r)];exact r) λc xs r=>by rw[qF (ntup c xs r)];exact r
grind)
end
structure Un(fs ex:List Addr)(H H':Hp)(h h':Heap):Prop where
keep:∀b o,h.get? b=some o->H b=none->b∉fs->b∉ex->h'.get? b=some o
slot:∀b o,h.get? b=some o->H b=none->b∈fs->b∉ex->∃sl,h'.get? b=some { o with slots:=sl }
free:∀b o,h.get? b=some o->H b=none->b∉ex->H' b=none
there:∀b o,h.get? b=some o->b∉ex->∃o',h'.get? b=some o'
tups:∀b xs,H b=some (.tup xs)->H' b=some (.tup xs)
frzs:∀b o u,H b=some (.frz o u)->H' b=some (.frz o u)
tbls:∀b ps,H b=some (.tbl ps)->∃more,H' b=some (.tbl (ps++more))
section
variable{fs fs' ex ex':List Addr}{H H1 H2:Hp}{h h1 h2 h':Heap}{a x e:Addr}{o:HO}
theorem Un.any(u:Un fs ex H H1 h h1){b:Addr}(q:h.get? b=some ob)(n:H b=none)(hx:b∉ex):∃sl,h1.get? b=some { ob with slots:=sl }:=by(
by_cases z:b∈fs
.exact u.slot b ob q n z hx
exact⟨ob.slots,u.keep b ob q n z hx⟩)
theorem Un.trans(a:Un fs ex H H1 h h1)(b:Un fs ex H1 H2 h1 h2):Un fs ex H H2 h h2 where
keep:=λc ob q n hc hx=>b.keep c ob (a.keep c ob q n hc hx) (a.free c ob q n hx) hc hx
slot:=λc ob q n hc hx=>by obtain⟨sl,e1⟩:=a.slot c ob q n hc hx;obtain⟨sl',e2⟩:=b.slot c _ e1 (a.free c ob q n hx) hc hx;exact⟨sl',e2⟩
free:=λc ob q n hx=>by obtain⟨o',e1⟩:=a.there c ob q hx;exact b.free c o' e1 (a.free c ob q n hx) hx
there:=λc ob q hx=>by obtain⟨o',e1⟩:=a.there c ob q hx;exact b.there c o' e1 hx
tups:=λc xs q=>b.tups c xs (a.tups c xs q)
frzs:=λc ob xs q=>b.frzs c ob xs (a.frzs c ob xs q)
tbls:=λc ps q=>by obtain⟨m1,e1⟩:=a.tbls c ps q;obtain⟨m2,e2⟩:=b.tbls c _ e1;exact⟨m1++m2,by rw[e2,aH]⟩
theorem Un.kept(k:∀b u,h.get? b=some u->h'.get? b=some u):Un fs ex H H h h':=⟨λb ob q z z z=>k b ob q,λb ob q z z z=>⟨ob.slots,k b ob q⟩,λz z z n z=>n,λb ob q z=>⟨ob,k b ob q⟩,λz z q=>q,λz z z q=>q,λz ps q=>⟨#[],by rw[q];rfl⟩⟩
theorem Un.refl:Un fs ex H H h h:=Un.kept λz z q=>q
theorem Un.laid(k:∀b u,h.get? b=some u->h'.get? b=some u)(hp:h.objs.size<=a)(hn:H a=none):Un fs ex H (upd H a o) h h' where
keep:=λb u q z z z=>k b u q
slot:=λb u q z z z=>⟨u.slots,k b u q⟩
free:=λb u q n z=>by rw[qF (gC (gA (mD q) hp))];exact n
there:=λb u q z=>⟨u,k b u q⟩
tups:=λb xs q=>by rw[qF (qG q hn)];exact q
frzs:=λb u xs q=>by rw[qF (qG q hn)];exact q
tbls:=λb ps q=>⟨#[],by rw[qF (qG q hn),q];simp⟩
theorem Un.write(mu:Mut (H x))(he:e=x\/H e=some (.own x))(k:∀b u,b≠e->h.get? b=some u->h'.get? b=some u)(heo:∃u,h'.get? e=some u):Un fs ex H (upd H x o) h h':=by(
have N:∀b,H b=none->b≠x:=λb n z=>by subst z;rw[n]at mu;exact mu
have J:∀b,H b=none->b≠e:=λb n z=>by
 simp_all
have D:∀b u,H b=some u->¬Mut (some u)->b≠x:=λb u q nm z=>by simp_all
refine⟨λb u q n U U=>k b u (J b n) q,λb u q n U U=>⟨u.slots,k b u (J b n) q⟩,λb u q n U=>by rw[qF (N b n)];exact n,λb u q U=>?_,λb xs q=>by rw[qF (D b _ q λz=>z)];exact q,λb u xs q=>by rw[qF (D b _ q λz=>z)];exact q,λb ps q=>⟨#[],by rw[qF (D b _ q λz=>z),q];rfl⟩⟩
by_cases I:b=e
.simp_all
exact⟨u,k b u I q⟩)
end
noncomputable def trk(h:Heap)(H:Hp):List Addr:=(List.range h.objs.size).filter λa=>(H a).isSome
noncomputable def hidT(h:Heap)(H:Hp):Heap:=PySem.W.hideAll h (trk h H)
theorem q8R(h:Heap)(H:Hp):(hidT h H).objs.size=h.objs.size:=PySem.W.hideAll_size _ _
theorem q6P{h:Heap}{b:Addr}{o:Obj}(e:h.get? b=some o)(n:H b=none):(hidT h H).get? b=some o:=PySem.W.hideAll_get _ e λhm=>by  have q:=(mQ.mp hm).2;rw[n]at q;simp_all
theorem qD1{b:Addr}{o:Obj}(e:(hidT h H).get? b=some o):h.get? b=some o/\H b=none:=by(
have D:=PySem.W.of_hideAll _ e
refine⟨D,?_⟩
cases q:H b with
|none=>rfl
|some x=>have I:b∈trk h H:=mQ.mpr ⟨mV.mpr (mD D),by simp[q]⟩;have z:(hidT h H).get? b=none:=PySem.W.hideAll_none _ I;lia)
structure Mod(K:PySem.W.Frag)(mg:Str->Option Value)(base:Heap):Prop where
kin:K.In base
glob:base.Ns mainGlobals mg
blt:∃mb,base.Ns builtinsNs mb/\∀x:Str,x≠"__name__"->mb x=bootBuiltins x
nolimit:base.NoLimit
structure Cx where
prog:Program
w:World
K:PySem.W.Frag
mg:Str->Option Value
base:Heap
A:Around
N:List Str
s₀:Shared
H₀:Hp
env:Env
outer:List Env
stack:List Env
ex:List Addr
fn:Str->Bool
calm:Bool
pn:List (Addr×Obj)
xe:Value->Shared->Prop
noncomputable def frs(l:List Env):List Addr:=l.filterMap (·.frame)
noncomputable abbrev Cx.fs(X:Cx):List Addr:=frs X.outer
def Vis(sc:Scope)(x:Str):Prop:=sc.names.lookup x=some .local\/sc.names.lookup x=some .cell\/sc.names.lookup x=some .free
def Loc(sc:Scope)(x:Str):Prop:=sc.names.lookup x=some .local\/sc.names.lookup x=some .cell
def Look(env:Env)(h:Heap)(m:Str->Option Value)(x:Str)(u:Value):Prop:=(env.kindOf x=some .local/\m x=some u)\/((env.kindOf x=some .cell\/env.kindOf x=some .free)/\∃c,env.cells.lookup x=some c/\h.IsCell c (some u))
structure Cx.Ok(X:Cx):Prop where
mod:Mod X.K X.mg X.base
kind:X.env.scope.kind=.function
glob:X.env.globals=mainGlobals
blt:X.env.builtins=builtinsNs
above:X.s₀.heap.objs.size<=X.env.locals
inj:∀x y c,X.env.cells.lookup x=some c->X.env.cells.lookup y=some c->x=y
has:∀x,(X.env.kindOf x=some .cell\/X.env.kindOf x=some .free)->∃c,X.env.cells.lookup x=some c
cab:∀x c,X.fn x=true->X.env.cells.lookup x=some c->X.s₀.heap.objs.size<=c
hd:X.calm=true->X.A.handled=none
frames:X.A.frames=some X.stack
stk:X.stack=X.outer\/(X.stack=X.env::X.outer/\X.env.frame=some X.env.locals)
exf:∀b∈X.ex,b≠X.env.locals/\∀x c,X.env.cells.lookup x=some c->c≠b
bs:∀b o,X.base.get? b=some o->X.s₀.heap.get? b=some o/\X.H₀ b=none
bsz:X.base.objs.size<=X.s₀.heap.objs.size
noex:∀b o,X.base.get? b=some o->b∉X.ex
exfs:∀b∈X.ex,b∉X.fs
funs:X.s₀.heap.FunFrames X.base X.outer
frf:∀b∈X.fs,X.H₀ b=none
structure Inv(X:Cx)(pins:List (Addr×Obj))(σ:List (Option V))(H:Hp)(s:Shared):Prop where
ok:X.Ok
os:s.os=X.s₀.os
bare:AllBare s.gens
base:Un X.fs X.ex X.H₀ H X.s₀.heap s.heap
loc:∃m,s.heap.Ns X.env.locals m/\∀(i:Nat) (x:Str) (v:V),X.N[i]?=some x->σ[i]?=some (some v)->Vis X.env.scope x->∃u,RelV v u/\Look X.env s.heap m x u
cell:∀x c,X.env.cells.lookup x=some c->∃v,s.heap.IsCell c v
free:H X.env.locals=none
freeC:∀x c,X.env.cells.lookup x=some c->H c=none
pin:∀p∈X.pn++pins,s.heap.get? p.1=some p.2/\H p.1=none/\p.1≠X.env.locals/\p.1∉X.fs/\∀v,p.2.data≠ .cell v
hok:HOk X.prog X.w H s.heap
len:σ.length=X.N.length
section
variable{X:Cx}{pins:List (Addr×Obj)}{σ:List (Option V)}{H H':Hp}{s:Shared}{h':Heap}
theorem Cx.Ok.nofr(ok:X.Ok){b:Addr}{o:Obj}(e:X.base.get? b=some o):b∉X.fs:=λhb=>by have:=(ok.funs.mem hb).1;lia
theorem Inv.bs(I:Inv X pins σ H s):∀b o,X.base.get? b=some o->s.heap.get? b=some o/\H b=none:=λb o e=>⟨I.base.keep b o (I.ok.bs b o e).1 (I.ok.bs b o e).2 (I.ok.nofr e) (I.ok.noex b o e),I.base.free b o (I.ok.bs b o e).1 (I.ok.bs b o e).2 (I.ok.noex b o e)⟩
theorem Inv.bk(I:Inv X pins σ H s):∀b o,X.base.get? b=some o->s.heap.get? b=some o:=λb o e=>(I.bs b o e).1
theorem Inv.mod(I:Inv X pins σ H s):Mod X.K X.mg X.base:=I.ok.mod
theorem Inv.kIn(I:Inv X pins σ H s):X.K.In s.heap:=I.ok.mod.kin.keeps I.bk
theorem Inv.fr(I:Inv X pins σ H s):∃m,Fr X.base X.env.locals s.heap m:=let⟨m,hn,_⟩:=I.loc
 ⟨m,hn,I.bk,kQ I.ok.bsz I.ok.above⟩
theorem Inv.lt(I:Inv X pins σ H s):X.env.locals<s.heap.objs.size:=let⟨_,hn,_⟩:=I.loc;hn.lt
theorem Inv.sz(I:Inv X pins σ H s):X.s₀.heap.objs.size<=s.heap.objs.size:=kQ I.ok.above (cK I.lt)
theorem Inv.nofs(I:Inv X pins σ H s){a:Addr}(h:s.heap.objs.size<=a):a∉X.fs:=λhb=>by obtain⟨_,o,ho,_⟩:=I.ok.funs.mem hb;exact absurd (gA (mD ho) (kQ I.sz h)) (dR _)
theorem Inv.cne(I:Inv X pins σ H s):∀x c,X.env.cells.lookup x=some c->c≠X.env.locals:=λx c e z=>by obtain⟨v,o,ho,hd⟩:=I.cell x c e;obtain⟨m,⟨o',es,ep,ho',hd',_⟩,_⟩:=I.loc;lia
theorem Inv.funs(I:Inv X pins σ H s):s.heap.FunFrames X.base X.outer:=by(
have all:∀(l:List Env),(∀b∈frs l,b∈X.fs)->X.s₀.heap.FunFrames X.base l->s.heap.FunFrames X.base l:=by
 intro l;induction l with
 |nil=>intro _ _;trivial
 |cons env r U=>intro O hl;obtain⟨hk,⟨L,o,J,Z,S,hd⟩,hr⟩:=hl;have D:=O L (by unfold frs;rw[dY,J];exact kX);obtain⟨sl,e⟩:=I.base.slot L o S (I.ok.frf L D) D λz=>I.ok.exfs L z D;exact⟨hk,⟨L,_,J,Z,e,hd⟩,U (λb N=>O b (by unfold frs;rw[dY,J];exact kB _ N)) hr⟩
exact all _ (λz N=>N) I.ok.funs)
theorem Inv.stack(I:Inv X pins σ H s):s.heap.FunFrames X.base X.stack:=by(
rcases I.ok.stk with e|⟨e,z⟩
.rw[e];exact I.funs
rw[e]
obtain⟨m,D,_⟩:=I.loc
refine .cons (by rw[I.ok.kind];decide) z D ?_ I.funs
exact cY (kQ I.ok.bsz I.ok.above))
theorem Inv.stkSub(I:Inv X pins σ H s):∀b∈frs X.stack,b∈X.env.locals::X.fs:=λb hb=>by(
rcases I.ok.stk with e|⟨e,hf⟩
.rw[e]at hb;exact kB _ hb
rw[e]at hb
unfold frs at hb
rw[dY,hf]at hb
exact hb)
theorem Inv.stkFree(I:Inv X pins σ H s):∀b∈frs X.stack,H b=none:=λb hb=>by(
rcases kN.mp (I.stkSub b hb)with e|hb
.rw[e];exact I.free
obtain⟨_,o,ho,_⟩:=I.ok.funs.mem hb
exact I.base.free b o ho (I.ok.frf b hb) λz=>I.ok.exfs b z hb)
theorem Inv.step{ch:List Addr}(I:Inv X pins σ H s)
 (hch:∀b∈ch,(b∈X.ex\/X.s₀.heap.objs.size<=b)/\b≠X.env.locals/\(∀x c,X.env.cells.lookup x=some c->c≠b)/\∀p∈X.pn++pins,p.1≠b)
 (keep:∀b o,b≠X.env.locals->b∉X.fs->b∉ch->s.heap.get? b=some o->H b=none->h'.get? b=some o)
 (slot:∀b o,b≠X.env.locals->b∈X.fs->b∉ch->s.heap.get? b=some o->H b=none->∃sl,h'.get? b=some { o with slots:=sl }) (free:∀b o,b∉ch->s.heap.get? b=some o->H b=none->H' b=none)
 (there:∀b o,b∉ch->s.heap.get? b=some o->∃o',h'.get? b=some o')
 (tups:∀b xs,H b=some (.tup xs)->H' b=some (.tup xs)) (frzs:∀b o u,H b=some (.frz o u)->H' b=some (.frz o u)) (tbls:∀b ps,H b=some (.tbl ps)->∃more,H' b=some (.tbl (ps++more)))
 (ns:∀m,s.heap.Ns X.env.locals m->h'.Ns X.env.locals m) (hok:HOk X.prog X.w H' h') (hg:AllBare g'):
 Inv X pins σ H' { s with heap:=h',gens:=g',drawn:=d',toks:=t' }:=by(
have aa:∀b o,X.s₀.heap.get? b=some o->b≠X.env.locals:=λb o e=>gC (gA (mD e) I.ok.above)
have S:∀b o,X.s₀.heap.get? b=some o->b∉X.ex->b∉ch:=λb o e D U=>by
 rcases(hch b U).1 with z|z
 .exact D z
 exact absurd (gA (mD e) z) (dR _)
have N:∀x c,X.env.cells.lookup x=some c->∀v,s.heap.IsCell c v->h'.IsCell c v:=λx c e v ⟨o,Z,hd⟩=>by
 have J:c∉ch:=λz=>(hch c z).2.2.1 x c e rfl;by_cases hc:c∈X.fs
 .obtain⟨sl,q⟩:=slot c o (I.cne x c e) hc J Z (I.freeC x c e);exact⟨_,q,hd⟩
 exact⟨o,keep c o (I.cne x c e) hc J Z (I.freeC x c e),hd⟩
refine⟨I.ok,I.os,hg,⟨λb o e n U D=>?_,λb o e n U D=>?_,λb o e n D=>?_,λb o e D=>?_,λb xs e=>tups b xs (I.base.tups b xs e),λb o xs e=>frzs b o xs (I.base.frzs b o xs e),λb ps e=>?_⟩,?_,λx c e=>?_,?_,λx c e=>?_,λp hp=>?_,hok,I.len⟩
.exact keep b o (aa b o e) U (S b o e D) (I.base.keep b o e n U D) (I.base.free b o e n D)
.obtain⟨sl,O⟩:=I.base.slot b o e n U D;obtain⟨ac,e2⟩:=slot b _ (aa b o e) U (S b o e D) O (I.base.free b o e n D);exact⟨ac,e2⟩
.obtain⟨o',O⟩:=I.base.there b o e D;exact free b o' (S b o e D) O (I.base.free b o e n D)
.obtain⟨o',O⟩:=I.base.there b o e D;exact there b o' (S b o e D) O
.obtain⟨m1,O⟩:=I.base.tbls b ps e;obtain⟨m2,e2⟩:=tbls b _ O;exact⟨m1++m2,by rw[e2,aH]⟩
.obtain⟨m,hn,hl⟩:=I.loc;refine⟨m,ns m hn,λi x v O e2 e3=>?_⟩;obtain⟨u,r,l⟩:=hl i x v O e2 e3;refine⟨u,r,?_⟩;rcases l with l|⟨k,c,e,z⟩
 .exact .inl l
 exact .inr ⟨k,c,e,N x c e _ z⟩
.obtain⟨v,z⟩:=I.cell x c e;exact⟨v,N x c e v z⟩
.obtain⟨m,⟨o,_,_,Z,_⟩,_⟩:=I.loc;exact free _ o (λz=>(hch _ z).2.1 rfl) Z I.free
.obtain⟨v,o,Z,hd⟩:=I.cell x c e;exact free c o (λz=>(hch c z).2.2.1 x c e rfl) Z (I.freeC x c e)
obtain⟨e,n,ne,nf,d⟩:=I.pin p hp
have J:p.1∉ch:=λz=>(hch p.1 z).2.2.2 p hp rfl
exact⟨keep p.1 p.2 ne nf J e n,free p.1 p.2 J e n,ne,nf,d⟩)
theorem Inv.un(I:Inv X pins σ H s)(u:Un X.fs [] H H' s.heap h')(hok:HOk X.prog X.w H' h'):Inv X pins σ H' { s with heap:=h',toks:=t' }:=by obtain⟨m,⟨o,es,ep,S,r⟩,_⟩:=id I.loc;obtain⟨sl,Z⟩:=u.any S I.free (by simp);exact I.step   (ch:=[]) (λU z=>nomatch z) (λb o z O z e n=>u.keep b o e n O (by simp)) (λb o z O z e n=>u.slot b o e n O (by simp)) (λb o z e n=>u.free b o e n (by simp)) (λb o z e=>u.there b o e (by simp)) u.tups u.frzs u.tbls (λm' hm=>by obtain⟨o',N,J,D,U⟩:=hm;rw[S]at D;cases D;exact⟨_,N,J,Z,U⟩) hok I.bare
theorem Inv.call{ch:List Addr}(I:Inv X pins σ H s)(u:Un (frs X.stack) ch H H' s.heap h')(hok:HOk X.prog X.w H' h')(hg:AllBare g')
 (hch:∀b∈ch,(b∈X.ex\/X.s₀.heap.objs.size<=b)/\b≠X.env.locals/\(∀x c,X.env.cells.lookup x=some c->c≠b)/\∀p∈X.pn++pins,p.1≠b):
 Inv X pins σ H' { s with heap:=h',gens:=g',drawn:=d',toks:=t' }:=by obtain⟨m,⟨o,es,ep,U,r⟩,_⟩:=id I.loc;obtain⟨sl,O⟩:=u.any U I.free λz=>(hch _ z).2.1 rfl;exact I.step  hch (λb o O hb D e n=>u.keep b o e n (λz=>(kN.mp (I.stkSub b z)).elim O hb) D) (λb o z z D e n=>u.any e n D) (λb o D e n=>u.free b o e n D) (λb o D e=>u.there b o e D) u.tups u.frzs u.tbls (λm' hm=>by obtain⟨o',S,N,J,Z⟩:=hm;rw[U]at J;cases J;exact⟨_,S,N,O,Z⟩) hok hg
theorem Inv.turned(I:Inv X pins σ H s)(k:∀b o,b≠it->s.heap.get? b=some o->h'.get? b=some o)(hn:H it=none)(hL:it≠X.env.locals)
 (h1:it∈X.ex\/X.s₀.heap.objs.size<=it) (h2:∀x c,X.env.cells.lookup x=some c->c≠it) (h3:∀p∈X.pn++pins,p.1≠it):Inv X pins σ H { s with heap:=h',toks:=t' }:=by(
have J:∀b u,H b=some u->b≠it:=λb u e z=>by lia
refine I.step   (ch:=[it]) (λb S=>?_) (λb o Z Z D e Z=>k b o (λz=>D (by simp[z])) e) (λb o Z Z D e Z=>⟨o.slots,k b o (λz=>D (by simp[z])) e⟩) (λZ Z Z Z n=>n)
 (λb o D e=>⟨o,k b o (λz=>D (by simp[z])) e⟩) (λZ Z e=>e) (λZ Z Z e=>e) (λb ps e=>⟨#[],by rw[e];rfl⟩) (λm O=>?_) (λb u e=>?_) I.bare
.have e:=by simpa using S
 subst e;exact⟨h1,hL,h2,h3⟩
.obtain⟨o,es,U,N,r⟩:=O;exact⟨o,es,U,k _ o (cC hL) N,r⟩
refine(I.hok b u e).stay (λc v D q=>k c v ?_ q) (λZ q=>q) λZ Z q=>q
rcases D with z|z
.rw[z];exact J b u e
exact J c _ z)
theorem Inv.tok(I:Inv X pins σ H s)(t:Nat):Inv X pins σ H { s with toks:=t }:=I.un   Un.refl I.hok
theorem Inv.kept(I:Inv X pins σ H s)(k:∀b u,s.heap.get? b=some u->h'.get? b=some u):Inv X pins σ H { s with heap:=h',toks:=t' }:=I.un (Un.kept k) (I.hok.kept k)
theorem Inv.laid{a:Addr}{o:HO}(I:Inv X pins σ H s)(k:∀b u,s.heap.get? b=some u->h'.get? b=some u)(hp:s.heap.objs.size<=a)(new:jQ X.prog X.w (upd H a o) h' a o):
 Inv X pins σ (upd H a o) { s with heap:=h',toks:=t' }:=I.un (Un.laid k hp (I.hok.fresh hp)) (I.hok.laid k hp new)
theorem Inv.write{x:Addr}{o:HO}(I:Inv X pins σ H s)(mu:Mut (H x))(he:e=x\/H e=some (.own x))(k:∀b u,b≠e->s.heap.get? b=some u->h'.get? b=some u)(heo:∃u,h'.get? e=some u)
 (new:jQ X.prog X.w (upd H x o) h' x o):Inv X pins σ (upd H x o) { s with heap:=h',toks:=t' }:=I.un (Un.write mu he k heo) (I.hok.write mu he k heo new)
theorem Inv.weak{σ':List (Option V)}(I:Inv X pins σ H s)(hl:σ'.length=σ.length)(w:∀(i:Nat) v,σ'[i]?=some (some v)->σ[i]?=some (some v)):Inv X pins σ' H s:=⟨I.ok,I.os,I.bare,I.base,let⟨m,hn,hl'⟩:=I.loc;⟨m,hn,λi x v e1 e2 e3=>hl' i x v e1 (w i v e2) e3⟩,I.cell,I.free,I.freeC,I.pin,I.hok,hl.trans I.len⟩
theorem Inv.pins_of(I:Inv X pins σ H s)(h:∀p∈pins',s.heap.get? p.1=some p.2/\H p.1=none/\p.1≠X.env.locals/\p.1∉X.fs/\∀v,p.2.data≠ .cell v):Inv X pins' σ H s:=⟨I.ok,I.os,I.bare,I.base,I.loc,I.cell,I.free,I.freeC,λp hp=>(gQ.mp hp).elim (λz=>I.pin p (gX _ z)) (h p),I.hok,I.len⟩
theorem qAX{N:List Str}(hN:N.Nodup){i j:Nat}{x:Str}(a:N[i]?=some x)(b:N[j]?=some x):i=j:=by obtain⟨h1,z⟩:=kC.mp a;obtain⟨h2,D⟩:=kC.mp b;exact(List.getElem_inj hN).mp (z.trans D.symm)
theorem q8S{i:Nat}{x:Str}{v:V}(I:Inv X pins σ H s)(hN:X.N.Nodup)(hi:X.N[i]?=some x)(hx:Loc X.env.scope x)(r:RelV v u)
 (h:∀s',Inv X pins (σ.set i (some v)) H s'->(∃a,Heap.SameBut a s.heap s'.heap/\(a=X.env.locals\/X.env.cells.lookup x=some a))->Q () s') (hf:X.fn x=true\/X.env.scope.names.lookup x=some .local:=by first|exact .inl rfl|exact .inr rfl|assumption):wpAny M A (storeName X.env x u) Q E s:=by(
obtain⟨m,hn,hl⟩:=id I.loc
have ae:(X.env.scope.kind== .class||(X.env.scope.kind== .module&&X.env.locals !=X.env.globals))=false:=by rw[I.ok.kind];rfl
have ag:i<σ.length:=by rw[I.len];exact(kC.mp hi).1
have cne:=I.cne
have J:∀{a:Addr} {h':Heap},(∃o,s.heap.get? a=some o/\H a=none)->Heap.SameBut a s.heap h'->HOk X.prog X.w H h':=fun {a h'} ha D b ob e=>by
 obtain⟨_,_,U⟩:=ha;refine(I.hok b ob e).stay (λc w' S q=>(D.2 c ?_).trans q) (λz q=>q) λ_ _ q=>q;rintro rfl
 rcases S with rfl|S
 .rw[U]at e;cases e
 rw[U]at S;cases S
rcases hx with hk|hk
.refine wpAny_storeName_local hk hn (λh' am D=>?_) ae;obtain⟨oL,_,_,aq,_⟩:=id hn;refine h _ ⟨I.ok,I.os,I.bare,⟨λb o e n hb hx=>?_,λb o e n hb hx=>?_,I.base.free,λb o e hx=>?_,I.base.tups,I.base.frzs,I.base.tbls⟩,⟨_,am,λj y v' O Z e3=>?_⟩,λy c e=>?_,I.free,I.freeC,λp hp=>?_,J ⟨oL,aq,I.free⟩ D,by simpa using I.len⟩ ⟨_,D,.inl rfl⟩
 .exact(D.2 b (gC (gA (mD e) I.ok.above))).trans (I.base.keep b o e n hb hx)
 .obtain⟨sl,O⟩:=I.base.slot b o e n hb hx;exact⟨sl,(D.2 b (gC (gA (mD e) I.ok.above))).trans O⟩
 .obtain⟨o',O⟩:=I.base.there b o e hx;exact⟨o',(D.2 b (gC (gA (mD e) I.ok.above))).trans O⟩
 .by_cases hj:j=i
  .subst hj;rw[hi]at O;cases O;rw[lU ag]at Z;cases Z;exact⟨u,r,.inl ⟨hk,by simp⟩⟩
  rw[cZ (cC hj)]at Z;obtain⟨u',r',q⟩:=hl j y v' O Z e3;refine⟨u',r',?_⟩;rcases q with⟨k,e⟩|⟨k,c,e,z⟩
  .refine .inl ⟨k,?_⟩;have:y≠x:=λe=>hj (qAX hN O (e▸hi));simp[this,e]
  exact .inr ⟨k,c,e,z.sameBut D (cne y c e)⟩
 .obtain⟨w',z⟩:=I.cell y c e;exact⟨w',z.sameBut D (cne y c e)⟩
 obtain⟨e,n,ne,nf,d⟩:=I.pin p hp;exact⟨(D.2 p.1 ne).trans e,n,ne,nf,d⟩
have ad:X.fn x=true:=by
 rcases hf with z|z
 .exact z
 rw[z]at hk;cases hk
obtain⟨c,S⟩:=I.ok.has x (.inl hk)
obtain⟨w',z⟩:=I.cell x c S
refine wpAny_storeName_cell I.ok.kind hk S z (λh' ah D=>?_)
obtain⟨oc,af,aj⟩:=id z
refine h { s with heap:=h' } ⟨I.ok,I.os,I.bare,⟨λb o e n hb hx=>?_,λb o e n hb hx=>?_,I.base.free,λb o e hx=>?_,I.base.tups,I.base.frzs,I.base.tbls⟩,⟨m,hn.sameBut D (cC (cne x c S)),λj y v' O Z e3=>?_⟩,λy c' e=>?_,I.free,I.freeC,λp hp=>?_,J ⟨oc,af,I.freeC x c S⟩ D,by simpa using I.len⟩ ⟨c,D,.inr S⟩
.exact(D.2 b (gC (gA (mD e) (I.ok.cab x c ad S)))).trans (I.base.keep b o e n hb hx)
.obtain⟨sl,O⟩:=I.base.slot b o e n hb hx;exact⟨sl,(D.2 b (gC (gA (mD e) (I.ok.cab x c ad S)))).trans O⟩
.obtain⟨o',O⟩:=I.base.there b o e hx;exact⟨o',(D.2 b (gC (gA (mD e) (I.ok.cab x c ad S)))).trans O⟩
.by_cases hj:j=i
 .subst hj;rw[hi]at O;cases O;rw[lU ag]at Z;cases Z;exact⟨u,r,.inr ⟨.inl hk,c,S,ah⟩⟩
 rw[cZ (cC hj)]at Z;obtain⟨u',r',q⟩:=hl j y v' O Z e3;refine⟨u',r',?_⟩;rcases q with q|⟨k,c',e,z'⟩
 .exact .inl q
 refine .inr ⟨k,c',e,z'.sameBut D ?_⟩;rintro rfl
 exact hj (qAX hN O (I.ok.inj _ _ _ e S▸hi))
.by_cases ai:c'=c
 .subst ai;exact⟨_,ah⟩
 obtain⟨w2,z2⟩:=I.cell y c' e;exact⟨w2,z2.sameBut D ai⟩
obtain⟨e,n,ne,nf,d⟩:=I.pin p hp
refine⟨(D.2 p.1 ?_).trans e,n,ne,nf,d⟩
intro q
rw[q,af]at e
have q':oc=p.2:=mB e
exact d w' (by rw[<-q'];exact aj))
theorem q6Q{i:Nat}{x:Str}{v:V}(I:Inv X pins σ H s)(hN:X.N.Nodup)(hi:X.N[i]?=some x)(hx:Loc X.env.scope x)(r:RelV v u)
 (h:∀s',Inv X pins (σ.set i (some v)) H s'->Q () s') (hf:X.fn x=true\/X.env.scope.names.lookup x=some .local:=by first|exact .inl rfl|exact .inr rfl|assumption):wpAny M A (storeName X.env x u) Q E s:=q8S I hN hi hx r (λs' I' z=>h s' I') hf
theorem Inv.call'{s':Shared}{ch:List Addr}(I:Inv X pins σ H s)(ho:s'.os=s.os)(u:Un (frs X.stack) ch H H' s.heap s'.heap)(hok:HOk X.prog X.w H' s'.heap)(hg:AllBare s'.gens)
 (hch:∀b∈ch,(b∈X.ex\/X.s₀.heap.objs.size<=b)/\b≠X.env.locals/\(∀x c,X.env.cells.lookup x=some c->c≠b)/\∀p∈X.pn++pins,p.1≠b):Inv X pins σ H' s':=by(
obtain⟨h',g',z,D,o'⟩:=s'
have e:o'=s.os:=ho
subst e
exact I.call    u hok hg hch)
end
abbrev XK:=Value->Option Addr->Hp->Prop
abbrev St:=List (Option V)
abbrev VK:=V->Hp->Prop
abbrev TE:=St->Hp->VK->Prop
abbrev TT:=St->Hp->(Bool->Hp->Prop)->Prop
abbrev TA:=St->Hp->(List V->Hp->Prop)->Prop
structure Ends where
nx:St->Hp->Prop
rt:VK
bk:St->Hp->Prop:=λ_ _=>False
ct:St->Hp->Prop:=λ_ _=>False
abbrev TS:=Ends->St->Hp->Prop
inductive EP(X:Cx)(pins:List (Addr×Obj))(σ:St)(Q:VK)(u:Value)(s':Shared):Prop|mk (v) (H') (I:Inv X pins σ H' s') (r:RelV v u) (q:Q v H'):EP X pins σ Q u s'
inductive TP(X:Cx)(pins:List (Addr×Obj))(σ:St)(Q:Bool->Hp->Prop)(b:Bool)(s':Shared):Prop|mk (H') (I:Inv X pins σ H' s') (q:Q b H'):TP X pins σ Q b s'
inductive AP(X:Cx)(pins:List (Addr×Obj))(σ:St)(Q:List V->Hp->Prop)(us:List Value)(s':Shared):Prop|mk (vs) (H') (I:Inv X pins σ H' s') (r:Vals vs us) (q:Q vs H'):AP X pins σ Q us s'
def SP(X:Cx)(pins:List (Addr×Obj))(D:Ends)(f:Flow)(s':Shared):Prop:=match f with
| .next=>∃σ' H',Inv X pins σ' H' s'/\D.nx σ' H'
| .brk=>∃σ' H',Inv X pins σ' H' s'/\D.bk σ' H'
| .cont=>∃σ' H',Inv X pins σ' H' s'/\D.ct σ' H'
| .ret u=>∃v σ' H',Inv X pins σ' H' s'/\RelV v u/\D.rt v H'
def PE(X:Cx)(e:Expr)(t:TE):Prop:=∀(pins:List (Addr×Obj)) (s:Shared) (σ:St) (H:Hp) (Q:VK),Inv X pins σ H s->t σ H Q->wpAny (model X.prog X.w) X.A (eval e X.env) (EP X pins σ Q) X.xe s
def PT(X:Cx)(e:Expr)(t:TT):Prop:=∀(pins:List (Addr×Obj)) (s:Shared) (σ:St) (H:Hp) (Q:Bool->Hp->Prop),Inv X pins σ H s->t σ H Q->wpAny (model X.prog X.w) X.A (isTrue e X.env (eval e X.env)) (TP X pins σ Q) X.xe s
def PW(X:Cx)(e:Expr)(t:TT):Prop:=∀(whole:Sem Value) (pins:List (Addr×Obj)) (s:Shared) (σ:St) (H:Hp) (Q:Bool->Hp->Prop),Inv X pins σ H s->t σ H Q->wpAny (model X.prog X.w) X.A (isTrue e X.env whole) (TP X pins σ Q) X.xe s
theorem PW.pt{t:TT}(h:PW X e t):PT X e t:=h _
def PA(X:Cx)(es:List Expr)(t:TA):Prop:=∀(pos:Pos) (pins:List (Addr×Obj)) (s:Shared) (σ:St) (H:Hp) (Q:List V->Hp->Prop),Inv X pins σ H s->t σ H Q->wpAny (model X.prog X.w) X.A (spliced (backTo pos (starEach es X.env))) (AP X pins σ Q) X.xe s
def PS(X:Cx)(st:Stmt)(t:TS):Prop:=∀(pins:List (Addr×Obj)) (s:Shared) (σ:St) (H:Hp) (D:Ends),Inv X pins σ H s->t D σ H->wpAny (model X.prog X.w) X.A (exec st X.env) (SP X pins D) X.xe s
def PSs(X:Cx)(st:List Stmt)(t:TS):Prop:=∀(pins:List (Addr×Obj)) (s:Shared) (σ:St) (H:Hp) (D:Ends),Inv X pins σ H s->t D σ H->wpAny (model X.prog X.w) X.A (execs st X.env) (SP X pins D) X.xe s
theorem thn{α:Type}{t:Sem α}{Q Q':α->Shared->Prop}{M:Model}{A:Around}{E:Value->Shared->Prop}{s:Shared}(h:wpAny M A t Q E s)(hQ:∀a s,Q a s->Q' a s):wpAny M A t Q' E s:=dN h hQ λz z x=>x
section
variable{X:Cx}
theorem bin{a b:Expr}{ta tb:TE}(ha:PE X a ta)(hb:PE X b tb){pins:List (Addr×Obj)}{s:Shared}{σ:St}{H:Hp}{R:V->V->Hp->Prop}(I:Inv X pins σ H s)(h:ta σ H λx H1=>tb σ H1 λy H2=>R x y H2)
 {α:Type} {Q:α->Shared->Prop} {f:Value->Value->Sem α}
 (hf:∀v u s2 x y H2,Inv X pins σ H2 s2->RelV x v->RelV y u->R x y H2->wpAny (model X.prog X.w) X.A (f v u) Q X.xe s2):
 wpAny (model X.prog X.w) X.A (eval a X.env) (λv s₁=>wpAny (model X.prog X.w) X.A (eval b X.env) (λu s₂=>wpAny (model X.prog X.w) X.A (f v u) Q X.xe s₂) X.xe s₁) X.xe s:=by(
refine thn (ha _ s σ H _ I h) λv S z=>?_
obtain⟨x,H1,J,N,D⟩:=z
refine thn (hb _ S σ H1 _ J D) λu s2 z=>?_
obtain⟨y,H2,O,r2,U⟩:=z
exact hf v u s2 x y H2 O N r2 U)
def tVar(i:Nat):TE:=λσ H Q=>∃v,σ[i]?=some (some v)/\Q v H
def tC(v:V):TE:=λz H Q=>Q v H
theorem qK2{i:Nat}{x:Str}(hN:X.N[i]?=some x)(hv:Vis X.env.scope x)(hd:(x==("__debug__":Str))=false:=by decide)(hcd:(x==("__classdict__":Str))=false:=by decide):PE X (.Name x pos) (tVar i):=by(
intro pins s σ H Q I h
obtain⟨v,e,h⟩:=h
obtain⟨m,D,hl⟩:=I.loc
obtain⟨u,r,l⟩:=hl i x v hN e hv
have fin:EP X _ σ Q u s:=⟨v,H,I,r,h⟩
rcases l with⟨z,hm⟩|⟨z,c,hc,hcell⟩
.exact eQ (xN I.ok.kind z D hm fin) hd
rcases z with z|z
.exact eQ (xW I.ok.kind z hc hcell fin) hd
exact eQ (wpAny_loadName_free I.ok.kind z hc hcell fin hcd) hd)
theorem qC{i j pos}:PE X (.Constant (.int i) j pos) (tC (.int i)):=λz z z H z I h=>wpAny_Constant_int ⟨.int i,H,I.tok _,⟨_,rfl⟩,h⟩
theorem v5{b j pos}:PE X (.Constant (.bool b) j pos) (tC (.bl b)):=λz z z H z I h=>Constant_bool ⟨.bl b,H,I,rfl,h⟩
theorem u8{j pos}:PE X (.Constant .none j pos) (tC .non):=λz z z H z I h=>Constant_none ⟨.non,H,I,rfl,h⟩
theorem zY{x j pos}:PE X (.Constant (.str x) j pos) (tC (.str x)):=λz z z H z I h=>Calls.Constant_str ⟨.str x,H,I.tok _,⟨_,rfl⟩,h⟩
def Gl(X:Cx)(x:Str):Prop:=X.env.kindOf x=some .globalImplicit
theorem q3K{s:Shared}{x:Str}(I:Inv X pins σ H s)(hg:Gl X x)(hm:X.mg x=some u)(h:Q u s)
 (hd:(x==("__debug__":Str))=false:=by decide):wpAny (model X.prog X.w) X.A (eval (.Name x pos) X.env) Q E s:=nL I.ok.kind hg (Calls.loadGlobal_global (by rw[I.ok.glob];exact I.mod.glob.keeps I.bk) hm h) hd
theorem q1R{s:Shared}{x:Str}(I:Inv X pins σ H s)(hg:Gl X x)(hm:X.mg x=none)(hv:bootBuiltins x=some u)(h:Q u s)
 (hn:x≠"__name__":=by decide) (hd:(x==("__debug__":Str))=false:=by decide):wpAny (model X.prog X.w) X.A (eval (.Name x pos) X.env) Q E s:=by obtain⟨z,h1,h2⟩:=I.mod.blt;exact nL I.ok.kind hg (Calls.loadGlobal_builtin (by rw[I.ok.glob];exact I.mod.glob.keeps I.bk) hm (by rw[I.ok.blt];exact h1.keeps I.bk) ((h2 x hn).trans hv) h) hd
theorem q1S{x:Str}{v:V}(hg:Gl X x)(hm:X.mg x=some u)(r:RelV v u)(hd:(x==("__debug__":Str))=false:=by decide):PE X (.Name x pos) (tC v):=λz z z H z I h=>q3K I hg hm ⟨v,H,I,r,h⟩ hd
theorem q3L{x:Str}{v:V}(hg:Gl X x)(hm:X.mg x=none)(hv:bootBuiltins x=some u)(r:RelV v u)(hn:x≠"__name__":=by decide)(hd:(x==("__debug__":Str))=false:=by decide):PE X (.Name x pos) (tC v):=λz z z H z I h=>q1R I hg hm hv ⟨v,H,I,r,h⟩ hn hd
variable{a b:Expr}{ta tb:TE}{pos:Pos}
def PC(X:Cx)(op:CmpOp)(a b:Expr)(t:TE):Prop:=∀(pins:List (Addr×Obj)) (s:Shared) (σ:St) (H:Hp) (Q:VK),Inv X pins σ H s->t σ H Q->wpAny (model X.prog X.w) X.A (eval a X.env) (λv s₁=>wpAny (model X.prog X.w) X.A (eval b X.env) (λu s₂=>wpAny (model X.prog X.w) X.A (compareOp op v u) (EP X pins σ Q) X.xe s₂) X.xe s₁) X.xe s
def tB(t:TE):TT:=λσ H Q=>t σ H λx H1=>∃c,x=.bl c/\Q c H1
theorem qK3{t:TE}(h:PC X op a b t)(h1:behindInMarks op b=false:=by first|exact nobehind _ (by decide) (by decide)|rfl):PE X (.Compare a [op] [b] pos) t:=λpins s σ H Q I hw=>wpAny_Compare1 (h _ s σ H Q I hw) h1
theorem qEZ{t:TE}(h:PC X op a b t)(h1:behindInMarks op b=false:=by first|exact nobehind _ (by decide) (by decide)|rfl):PT X (.Compare a [op] [b] pos) (tB t):=by(
intro pins s σ H Q I J
refine xJ (thn (h _ s σ H _ I J) λv U h1=>thn h1 λu Z h2=>thn h2 λc S z=>?_) h1
obtain⟨x,H1,N,O,D⟩:=z
obtain⟨d,rfl,q⟩:=D
cases O
exact dH ⟨H1,N,q⟩)
theorem yI{t:TE}(h:PE X e t)(he:∀whole,isTrue e X.env whole=(do let v<-whole;standAt e.pos;holding [v] (truthy v)):=by intro _;rfl):PT X e (tB t):=by(
intro pins s σ H Q I J
refine isTrue_plain (thn (h _ s σ H _ I J) λv S z=>?_) (he _)
obtain⟨x,H1,N,O,D⟩:=z
obtain⟨d,rfl,q⟩:=D
cases O
exact dH ⟨H1,N,q⟩)
variable{tA tB':TT}{rest:List Expr}
def tAnd(t u:TT):TT:=λσ H Q=>t σ H λc H1=>if c=true then u σ H1 Q else Q false H1
def tOr(t u:TT):TT:=λσ H Q=>t σ H λc H1=>if c=true then Q true H1 else u σ H1 Q
def tNot(t:TT):TT:=λσ H Q=>t σ H λc H1=>Q (!c) H1
theorem q0H(ha:PT X a tA):PW X (.BoolOp .And [a] pos) tA:=by(
intro D pins s σ H Q I h
refine isTrue_and (thn (ha _ s σ H Q I h) λc z e=>?_)
cases c with
|true=>exact isTrue_and_nil e
|false=>exact e)
theorem q49(ha:PT X a tA):PW X (.BoolOp .Or [a] pos) tA:=by(
intro D pins s σ H Q I h
refine isTrue_or (thn (ha _ s σ H Q I h) λc z e=>?_)
cases c with
|false=>exact isTrue_or_nil e
|true=>exact e)
theorem q2G(ha:PT X a tA)(hb:PW X (.BoolOp .And (b::rest) pos) tB'):PW X (.BoolOp .And (a::b::rest) pos) (tAnd tA tB'):=by(
intro N pins s σ H Q I h
refine isTrue_and (thn (ha _ s σ H _ I h) λc O J=>?_)
obtain⟨H1,D,z⟩:=J
cases c with
|true=>exact hb N _ O σ H1 Q D z
|false=>exact⟨H1,D,z⟩)
theorem q43(ha:PT X a tA)(hb:PW X (.BoolOp .Or (b::rest) pos) tB'):PW X (.BoolOp .Or (a::b::rest) pos) (tOr tA tB'):=by(
intro N pins s σ H Q I h
refine isTrue_or (thn (ha _ s σ H _ I h) λc O J=>?_)
obtain⟨H1,D,z⟩:=J
cases c with
|true=>exact⟨H1,D,z⟩
|false=>exact hb N _ O σ H1 Q D z)
theorem u9(ha:PT X a tA):PT X (.UnaryOp .Not a pos) (tNot tA):=by intro pins s σ H Q I h;exact isTrue_not (thn (ha _ s σ H _ I h) λc D ⟨H1,z,q⟩=>⟨H1,z,q⟩)
def qM4(ta tb:TE):TE:=λσ H Q=>ta σ H λx H1=>∃c,x=.bl c/\if c=true then tb σ H1 Q else Q (.bl false) H1
def tOrV(ta tb:TE):TE:=λσ H Q=>ta σ H λx H1=>∃c,x=.bl c/\if c=true then Q (.bl true) H1 else tb σ H1 Q
def qM5(ta:TE):TE:=λσ H Q=>ta σ H λx H1=>∃c,x=.bl c/\Q (.bl (!c)) H1
theorem zZ{op}{t:TE}(h:PE X a t):PE X (.BoolOp op [a] pos) t:=λpins s σ H Q I hw=>BoolOp_one (h _ s σ H Q I hw)
theorem q0P(ha:PE X a ta)(hb:PE X (.BoolOp .And (b::rest) pos) tb):PE X (.BoolOp .And (a::b::rest) pos) (qM4 ta tb):=by(
intro pins s σ H Q I h
refine BoolOp_and (thn (ha _ s σ H _ I h) λv O J=>?_)
obtain⟨x,H1,D,N,z⟩:=J
obtain⟨c,rfl,z⟩:=z
cases N
refine dH ?_
cases c with
|true=>exact hb _ O σ H1 Q D z
|false=>exact⟨.bl _,H1,D,rfl,z⟩)
theorem qJG(ha:PE X a ta)(hb:PE X (.BoolOp .Or (b::rest) pos) tb):PE X (.BoolOp .Or (a::b::rest) pos) (tOrV ta tb):=by(
intro pins s σ H Q I h
refine BoolOp_or (thn (ha _ s σ H _ I h) λv O J=>?_)
obtain⟨x,H1,D,N,z⟩:=J
obtain⟨c,rfl,z⟩:=z
cases N
refine dH ?_
cases c with
|false=>exact hb _ O σ H1 Q D z
|true=>exact⟨.bl _,H1,D,rfl,z⟩)
theorem qC5(ha:PE X a ta):PE X (.UnaryOp .Not a pos) (qM5 ta):=by(
intro pins s σ H Q I h
refine UnaryOp_ (thn (ha _ s σ H _ I h) λv O D=>?_)
obtain⟨x,H1,J,N,z⟩:=D
obtain⟨c,rfl,z⟩:=z
cases N
exact not_of (dH ⟨.bl _,H1,J,rfl,z⟩))
def tIf(t:TT)(ta tb:TE):TE:=λσ H Q=>t σ H λc H1=>if c=true then ta σ H1 Q else tb σ H1 Q
theorem qAY{c:Expr}(hc:PT X c tA)(ha:PE X a ta)(hb:PE X b tb):PE X (.IfExp c a b pos) (tIf tA ta tb):=by(
intro pins s σ H Q I h
refine wpAny_IfExp (thn (hc _ s σ H _ I h) λd z N=>?_)
obtain⟨H1,J,D⟩:=N
cases d with
|true=>exact ha _ z σ H1 Q J D
|false=>exact hb _ z σ H1 Q J D)
end
def SqL(K:PySem.W.Frag)(H:Hp)(a:Addr)(xs:List V):Prop:=Rd H a (.lst xs)\/∃(o:Obj) (its:Array Value) (n:Nat),K.lookup a=some o/\o.cls=.type "list"/\o.dict=none/\o.data=.seq its n/\its.size<=sizeLine/\Vals xs its.toList
def SqT(K:PySem.W.Frag)(H:Hp)(a:Addr)(xs:List V):Prop:=Rd H a (.tup xs)\/∃(o:Obj) (its:Array Value) (n:Nat),K.lookup a=some o/\o.cls=.type "tuple"/\o.data=.seq its n/\its.size<=sizeLine/\Vals xs its.toList
noncomputable def absV:Value->Option V
| .none=>some .non
| .bool b=>some (.bl b)
| .int i _=>some (.int i)
| .str x _=>some (.str x)
| .bytes b _=>some (.byt b)
| .float b _=>some (.flt b)
| .ref a=>some (.ref a)
| .type n=>some (.ty n)
|_=>none
theorem RelV.abs{x:V}(r:RelV x u):absV u=some x:=by(
cases x with
|non=>cases r;rfl
|bl _=>cases r;rfl
|int _=>obtain⟨t,rfl⟩:=r;rfl
|str _=>obtain⟨t,rfl⟩:=r;rfl
|byt _=>obtain⟨t,rfl⟩:=r;rfl
|flt _=>obtain⟨t,rfl⟩:=r;rfl
|ref _=>cases r;rfl
|ty _=>cases r;rfl)
theorem RelV.inj{x y:V}(r:RelV x u)(q:RelV y u):x=y:=mB (r.abs.symm.trans q.abs)
theorem Vals.inj(h:Vals xs us):Vals ys us->xs=ys:=by(
induction h generalizing ys with
|nil=>exact λg=>by cases g;rfl
|cons r t I=>
 intro g;cases g with
 |cons z D=>rw[r.inj z,I D])
section
variable{X:Cx}{pins:List (Addr×Obj)}{σ:St}{H:Hp}{s:Shared}{a:Addr}{xs ys:List V}
theorem SqL.of{K:PySem.W.Frag}(h:H a=some (.lst xs)):SqL K H a xs:=.inl (.inl h)
theorem SqT.of{K:PySem.W.Frag}(h:H a=some (.tup xs)):SqT K H a xs:=.inl (.inl h)
theorem Inv.list(I:Inv X pins σ H s)(h:SqL X.K H a xs):∃its:List Value,Vals xs its/\PlainL s.heap a its.toArray/\xs.length<=sizeLine:=by(
rcases h with h|⟨o,its,n,J,D,N,S,O,r⟩
.obtain⟨z,its,n,r,e⟩:=h.ok I.hok;exact⟨its,r,⟨_,n,e,rfl,rfl,rfl⟩,z⟩
refine⟨its.toList,r,⟨o,n,I.kIn a o J,D,N,by assumption⟩,?_⟩
have e:=r.length
simp_all)
theorem Inv.tuple(I:Inv X pins σ H s)(h:SqT X.K H a xs):∃its:List Value,Vals xs its/\IsTup s.heap a its.toArray/\xs.length<=sizeLine:=by(
rcases h with h|⟨o,its,n,J,D,N,O,r⟩
.obtain⟨z,its,r,p⟩:=h.ok I.hok;exact⟨its,r,p,z⟩
refine⟨its.toList,r,⟨o,I.kIn a o J,D,n,by assumption⟩,?_⟩
have e:=r.length
simp_all)
theorem Inv.list_inj(I:Inv X pins σ H s)(h:SqL X.K H a xs)(h':SqL X.K H a ys):xs=ys:=by(
obtain⟨O,r,⟨o,n,e,_,_,d⟩,_⟩:=I.list h
obtain⟨J,N,⟨o',n',D,_,_,z⟩,_⟩:=I.list h'
rw[e]at D;cases D
rw[d]at z
injection z with d1 _
have:=by simpa using dL Array.toList d1
subst this
exact r.inj N)
end
noncomputable abbrev Cx.wish(X:Cx)(E:Value->Shared->Prop):Cx:={ X with xe:=E }
noncomputable abbrev Cx.nox(X:Cx):Cx:=X.wish λz z=>False
theorem Cx.Ok.wish{X:Cx}(ok:X.Ok)(E:Value->Shared->Prop):(X.wish E).Ok:=⟨ok.mod,ok.kind,ok.glob,ok.blt,ok.above,ok.inj,ok.has,ok.cab,ok.hd,ok.frames,ok.stk,ok.exf,ok.bs,ok.bsz,ok.noex,ok.exfs,ok.funs,ok.frf⟩
theorem Cx.Ok.unwish{X:Cx}(ok:(X.wish E).Ok):X.Ok:=⟨ok.mod,ok.kind,ok.glob,ok.blt,ok.above,ok.inj,ok.has,ok.cab,ok.hd,ok.frames,ok.stk,ok.exf,ok.bs,ok.bsz,ok.noex,ok.exfs,ok.funs,ok.frf⟩
section
variable{X:Cx}{pins:List (Addr×Obj)}{σ:St}{H:Hp}{s:Shared}{E:Value->Shared->Prop}
theorem Inv.wish(I:Inv X pins σ H s)(E:Value->Shared->Prop):Inv (X.wish E) pins σ H s:=⟨I.ok.wish E,I.os,I.bare,I.base,I.loc,I.cell,I.free,I.freeC,I.pin,I.hok,I.len⟩
theorem Inv.unwish(I:Inv (X.wish E) pins σ H s):Inv X pins σ H s:=⟨I.ok.unwish,I.os,I.bare,I.base,I.loc,I.cell,I.free,I.freeC,I.pin,I.hok,I.len⟩
theorem SP.unwish{f:Flow}(h:SP (X.wish E) pins D f s'):SP X pins D f s':=by(
cases f with
|next=>obtain⟨z,H',I,q⟩:=h;exact⟨z,H',I.unwish,q⟩
|brk=>obtain⟨z,H',I,q⟩:=h;exact⟨z,H',I.unwish,q⟩
|cont=>obtain⟨z,H',I,q⟩:=h;exact⟨z,H',I.unwish,q⟩
|ret u=>obtain⟨v,z,H',I,r,q⟩:=h;exact⟨v,z,H',I.unwish,r,q⟩)
theorem PSs.nox{st:List Stmt}{t:TS}(h:PSs X.nox st t):PSs X st t:=λpins s σ H D I hw=>dN (h _ s σ H D (I.wish _) hw) (λU U q=>q.unwish) λU U z=>False.elim z
end
section
variable{X:Cx}{st:Stmt}{rest:List Stmt}{t u:TS}{e:Expr}{te:TE}{pos:Pos}
def qM6:TS:=λD σ H=>D.nx σ H
def tSeq(t u:TS):TS:=λD σ H=>t { D with nx:=u D } σ H
theorem qS:PSs X [] qM6:=λz z σ H z I h=>sT ⟨σ,H,I,h⟩
theorem qB(h1:PS X st t)(h2:PSs X rest u):PSs X (st::rest) (tSeq t u):=by(
intro pins s σ H D I h
refine wpAny_execs_cons (thn (h1 _ s σ H _ I h) λf J q=>?_)
cases f with
|next=>obtain⟨N,H',z,q⟩:=q;exact h2 _ J N H' D z q
|ret v=>exact q
|brk=>exact q
|cont=>exact q)
theorem qE(h1:PS X st t):PSs X [st] t:=by(
intro pins s σ H D I h
refine wpAny_execs_cons (thn (h1 _ s σ H D I h) λf z q=>?_)
cases f with
|next=>exact sT q
|ret v=>exact q
|brk=>exact q
|cont=>exact q)
theorem Inv.quiet{s:Shared}(I:Inv X pins σ H s):interactive X.env=false:=by simp[interactive,I.ok.kind]
def qM7(te:TE):TS:=λD σ H=>te σ H λz H1=>D.nx σ H1
theorem jA(he:PE X e te)(hs:swapsWith e none pos.line X.env=pure false:=by rfl):PS X (.Expr e pos) (qM7 te):=by intro pins s σ H D I h;exact wpAny_Expr_any (thn (he _ s σ H _ I h) λv N ⟨x,H1,J,O,z⟩=>⟨σ,H1,J,z⟩) I.quiet hs
def tRet(te:TE):TS:=λD σ H=>te σ H D.rt
theorem qM(he:PE X e te):PS X (.Return (some e) pos) (tRet te):=by intro pins s σ H D I h;exact wpAny_Return_some (thn (he _ s σ H _ I h) λv O ⟨x,H1,J,N,z⟩=>⟨x,σ,H1,J,N,z⟩)
def tIfS(c:TT)(t u:TS):TS:=λD σ H=>c σ H λb H1=>if b=true then t D σ H1 else u D σ H1
theorem jG{c:Expr}{a b:List Stmt}(hc:PT X c tc)(ha:PSs X a t)(hb:PSs X b u):PS X (.If c a b pos) (tIfS tc t u):=by(
intro pins s σ H D I h
refine wpAny_If (thn (hc _ s σ H _ I h) λd z O=>?_)
obtain⟨H1,N,J⟩:=O
cases d with
|true=>exact ha _ z σ H1 D N J
|false=>exact hb _ z σ H1 D N J)
def qK4:TS:=λz z z=>False
theorem jN:PS X st qK4:=λz z z z z z h=>h.elim
end
abbrev TG:=V->St->Hp->(St->Hp->Prop)->Prop
abbrev TGs:=List V->St->Hp->(St->Hp->Prop)->Prop
def PG(X:Cx)(target:Expr)(t:TG):Prop:=∀(pins:List (Addr×Obj)) (s:Shared) (σ:St) (H:Hp) (v:V) (u:Value) (Q:St->Hp->Prop),Inv X pins σ H s->RelV v u->t v σ H Q->wpAny (model X.prog X.w) X.A (assign target X.env u) (λz s'=>∃σ' H',Inv X pins σ' H' s'/\Q σ' H') X.xe s
def PGs(X:Cx)(ts:List Expr)(t:TGs):Prop:=∀(pins:List (Addr×Obj)) (s:Shared) (σ:St) (H:Hp) (vs:List V) (us:List Value) (Q:St->Hp->Prop),Inv X pins σ H s->Vals vs us->t vs σ H Q->wpAny (model X.prog X.w) X.A (assignInOrder ((assignEach ts X.env).map (·.2)) us) (λz s'=>∃σ' H',Inv X pins σ' H' s'/\Q σ' H') X.xe s
abbrev TSet:=V->V->V->Hp->(Hp->Prop)->Prop
def PSet(X:Cx)(t:TSet):Prop:=∀(pins:List (Addr×Obj)) (s:Shared) (σ:St) (H:Hp) (o i v:V) (ov iv u:Value) (Q:Hp->Prop),Inv X pins σ H s->RelV o ov->RelV i iv->RelV v u->t o i v H Q->wpAny (model X.prog X.w) X.A (setItem ov iv u) (λz s'=>∃H',Inv X pins σ H' s'/\Q H') X.xe s
abbrev TIp:=V->V->Hp->VK->Prop
def PIp(X:Cx)(op:Operator)(t:TIp):Prop:=∀(pins:List (Addr×Obj)) (s:Shared) (σ:St) (H:Hp) (x y:V) (v u:Value) (Q:VK),Inv X pins σ H s->RelV x v->RelV y u->t x y H Q->wpAny (model X.prog X.w) X.A (inplaceOp op v u) (EP X pins σ Q) X.xe s
section
variable{X:Cx}{pos:Pos}
def q2E(i:Nat):TG:=λv σ H Q=>Q (σ.set i (some v)) H
theorem qT{i:Nat}{x:Str}(hN:X.N.Nodup)(hi:X.N[i]?=some x:=by rfl)(hx:Loc X.env.scope x:=by first|exact Or.inl rfl|exact Or.inr rfl)(hf:X.fn x=true\/X.env.scope.names.lookup x=some .local:=by first|exact .inl rfl|exact .inr rfl|assumption):PG X (.Name x pos) (q2E i):=by intro pins s σ H v u Q I r h;exact aU (q6Q I hN hi hx r (λs' z=>⟨_,H,z,h⟩) hf)
def gNil:TGs:=λvs σ H Q=>vs=[]/\Q σ H
def qJH(t:TG)(u:TGs):TGs:=λvs σ H Q=>∃v r,vs=v::r/\t v σ H λσ' H'=>u r σ' H' Q
theorem q1T:PGs X [] gNil:=by(
intro pins s σ H z D Q I r h
obtain⟨e,h⟩:=h
exact assignInOrder_nil ⟨σ,H,I,h⟩)
theorem yE{e:Expr}{t:TG}(h1:PG X e t)(h2:PGs X es u)
 (hs:(assignEach (e::es) X.env).map (·.2)=assign e X.env::(assignEach es X.env).map (·.2):=by rfl):PGs X (e::es) (qJH t u):=by(
intro pins s σ H Z us Q I r h
obtain⟨v,vr,z,h⟩:=h
subst z
cases r with
|cons r N=>rw[hs];refine assignInOrder_cons (thn (h1 _ s σ H _ _ _ I r h) λ_ U J=>?_);obtain⟨O,H1,S,D⟩:=J;exact h2 _ U O H1 _ _ Q S N D)
def gTup(K:PySem.W.Frag)(n:Nat)(t:TGs):TG:=λv σ H Q=>∃a xs,v=.ref a/\SqT K H a xs/\xs.length=n/\t xs σ H Q
theorem q6R{k:Nat}{t:TGs}{n:Nat}(hc:X.calm=true)(h:PGs X es t)
 (hn:(assignEach es X.env).length=n:=by rfl) (hst:(assignEach es X.env).findIdx? (·.1)=none:=by rfl):PG X (.Tuple es k pos) (gTup X.K n t):=by(
intro pins s σ H v u Q I r z
obtain⟨a,xs,J,Z,hl,z⟩:=z
subst J
cases r
obtain⟨O,N,U,hz⟩:=I.tuple Z
refine assign_Tuple_tuple (I.ok.hd hc) U (by simp[hn,<-hl,N.length]) hst λh' D=>?_
have S:=I.kept (t':=s.toks) λb o e=>D b o (gC (mD e)) e
exact h _ _ σ H xs _ Q S (by simp_all) z)
def gSub(to ti:TE)(t:TSet):TG:=λv σ H Q=>to σ H λo H1=>ti σ H1 λi H2=>t o i v H2 λH3=>Q σ H3
theorem q2H{o i:Expr}{t:TSet}(ho:PE X o to)(hi:PE X i ti)(hs:PSet X t)
 (ha:∀v,assign (.Subscript o i pos) X.env v=(do
  let ov<-holding [v] (eval o X.env)
  let iv<-holding [v,ov] (eval i X.env)
  standAt pos
  holding [v,ov,iv] (setItem ov iv v)
  release [v,ov,iv] []):=by intro _;rfl):PG X (.Subscript o i pos) (gSub to ti t):=by(
intro pins s σ H v u Q I r h
rw[ha]
refine kI (g9 (thn (ho _ s σ H _ I h) λov s1 z=>?_))
obtain⟨x,H1,U,Z,J⟩:=z
refine kI (g9 (thn (hi _ s1 σ H1 _ U J) λiv s2 z=>?_))
obtain⟨y,H2,O,r2,q2⟩:=z
refine kI (sQ (kI (g9 (thn (hs _ s2 σ H2 x y v ov iv u _ O Z r2 r q2) λ_ s3 z=>?_))))
obtain⟨S,N,D⟩:=z
exact wpAny_release ⟨σ,S,N,D⟩)
def tAsg(te:TE)(g:TG):TS:=λD σ H=>te σ H λx H1=>g x σ H1 D.nx
theorem q1U(he:PE X e te)(hg:PG X tg g)(hs:swapsWithSole [tg] e pos.line X.env=pure false:=by rfl)(hw:swappedStores [tg] e X.env=pure none:=by rfl)
 (h1:(assignEach [tg] X.env).map (·.2)=[assign tg X.env]:=by rfl):PS X (.Assign [tg] e pos) (tAsg te g):=by(
intro pins s σ H D I h
refine wpAny_Assign_stores (thn (he _ s σ H _ I h) λv S z=>?_) hs hw
obtain⟨x,H1,N,O,J⟩:=z
rw[h1]
exact thn (hg _ S σ H1 x v _ N O J) λZ U q=>q)
theorem qU{i:Nat}{x:Str}(hN:X.N.Nodup)(he:PE X e te)(hi:X.N[i]?=some x:=by rfl)(hx:Loc X.env.scope x:=by first|exact Or.inl rfl|exact Or.inr rfl)(hs:swapsWith e (some (.Name x pos')) pos.line X.env=pure false:=by rfl)(hf:X.fn x=true\/X.env.scope.names.lookup x=some .local:=by first|exact .inl rfl|exact .inr rfl|assumption):
 PS X (.Assign [.Name x pos'] e pos) (tAsg te (q2E i)):=by(
intro pins s σ H D I h
refine wpAny_Assign_Name (thn (he _ s σ H _ I h) λv Z z=>?_) hs
obtain⟨y,H1,O,S,J⟩:=z
exact q6Q O hN hi hx S (λs2 U=>⟨_,H1,U,J⟩) hf)
def tAug(i:Nat)(te:TE)(ti:TIp):TS:=λD σ H=>∃x,σ[i]?=some (some x)/\te σ H λy H1=>ti x y H1 λz H2=>D.nx (σ.set i (some z)) H2
theorem qK5{i:Nat}{x:Str}(hN:X.N.Nodup)(hi:X.N[i]?=some x)(hx:Loc X.env.scope x)(he:PE X e te)(ho:PIp X op ti)(hf:X.fn x=true\/X.env.scope.names.lookup x=some .local:=by first|exact .inl rfl|exact .inr rfl|assumption):
 PS X (.AugAssign (.Name x pos') op e pos) (tAug i te ti):=by(
intro pins s σ H D I h
obtain⟨v,e1,h⟩:=h
obtain⟨m,hn,hl⟩:=I.loc
have S:Vis X.env.scope x:=by rcases hx with k|k;exact .inl k;exact .inr (.inl k)
obtain⟨u,r,l⟩:=hl i x v hi e1 S
refine wpAny_AugAssign_Name ?_
have U:wpAny (model X.prog X.w) X.A (eval e X.env) (λw Z=>wpAny (model X.prog X.w) X.A (inplaceOp op u w) (λr ac=>wpAny (model X.prog X.w) X.A (storeName X.env x r) (λz=>SP X pins D .next) X.xe ac) X.xe Z) X.xe s:=by refine thn (he _ s σ H _ I h) λw s1 O=>?_;obtain⟨y,H1,I1,r1,q1⟩:=O;refine thn (ho _ s1 σ H1 v y u w _ I1 r r1 q1) λz s2 O=>?_;obtain⟨zv,H2,I2,r2,q2⟩:=O;exact q6Q I2 hN hi hx r2 (λs3 I3=>⟨_,H2,I3,q2⟩) hf
rcases l with⟨J,hm⟩|⟨J,c,hc,hcell⟩
.exact xN I.ok.kind J hn hm U
rcases J with J|J
.exact xW I.ok.kind J hc hcell U
rcases hx with k|k
.have:X.env.scope.names.lookup x=some _:=J;rw[k]at this;cases this
have:X.env.scope.names.lookup x=some _:=J
rw[k]at this;cases this)
def qM8(to ti te:TE)(tget:V->V->Hp->VK->Prop)(tip:TIp)(tset:TSet):TS:=λD σ H=>to σ H λo H1=>ti σ H1 λi H2=>tget o i H2 λx H3=>te σ H3 λy H4=>tip x y H4 λz H5=>tset o i z H5 λH6=>D.nx σ H6
def PGet(X:Cx)(t:V->V->Hp->VK->Prop):Prop:=∀(pins:List (Addr×Obj)) (s:Shared) (σ:St) (H:Hp) (o i:V) (ov iv:Value) (Q:VK),Inv X pins σ H s->RelV o ov->RelV i iv->t o i H Q->wpAny (model X.prog X.w) X.A (getItem ov iv) (EP X pins σ Q) X.xe s
theorem q4T{o i:Expr}(ho:PE X o to)(hi:PE X i ti)(hg:PGet X tget)(he:PE X e te)(hp:PIp X op tip)(hs:PSet X tset)
 (ha:∀ov iv new,augStore i ov iv new=(do holding [new,ov,iv] (setItem ov iv new);release [new,ov,iv] [];pure .next):=by intros;rfl):PS X (.AugAssign (.Subscript o i tpos) op e pos) (qM8 to ti te tget tip tset):=by(
intro pins s σ H D I h
refine wpAny_AugAssign_SubscriptAny (thn (ho _ s σ H _ I h) λov s1 z=>?_) ha
obtain⟨O,H1,I1,N,q1⟩:=z
refine thn (hi _ s1 σ H1 _ I1 q1) λiv s2 z=>?_
obtain⟨S,H2,I2,r2,q2⟩:=z
refine thn (hg _ s2 σ H2 O S ov iv _ I2 N r2 q2) λJ s3 z=>?_
obtain⟨x3,H3,I3,r3,q3⟩:=z
refine thn (he _ s3 σ H3 _ I3 q3) λv s4 z=>?_
obtain⟨x4,H4,I4,r4,q4⟩:=z
refine thn (hp _ s4 σ H4 x3 x4 J v _ I4 r3 r4 q4) λnew s5 z=>?_
obtain⟨x5,Z,I5,r5,U⟩:=z
exact thn (hs _ s5 σ Z O S x5 ov iv new _ I5 N r2 r5 U) λ_ s6 ⟨H6,I6,q6⟩=>⟨σ,H6,I6,q6⟩)
def ipI(f:Int->Int->Int):TIp:=λx y H Q=>∃i j,x=.int i/\y=.int j/\Q (.int (f i j)) H
theorem q6S:PIp X .Add (ipI λi j=>i+j):=by(
intro pins s σ H x y v u Q I J r2 h
obtain⟨i,j,z,D,q⟩:=h
subst z;subst D
obtain⟨t,rfl⟩:=J
obtain⟨N,rfl⟩:=r2
exact iadd_int ⟨.int _,H,I.tok _,⟨_,rfl⟩,q⟩)
theorem qK6:PIp X .Sub (ipI λi j=>i-j):=by(
intro pins s σ H x y v u Q I J r2 h
obtain⟨i,j,z,D,q⟩:=h
subst z;subst D
obtain⟨t,rfl⟩:=J
obtain⟨N,rfl⟩:=r2
exact isub_int ⟨.int _,H,I.tok _,⟨_,rfl⟩,q⟩)
end
section
variable{X:Cx}{pos:Pos}
def qK7(c:TT)(tb:TS):TS:=λD σ H=>∃W:Nat->St->Hp->Prop,(∃m,W m σ H)/\∀m σ H,W m σ H->c σ H λb H1=>if b=true then ∃N:St->Hp->Prop,(∀σ' H',N σ' H'->∃m',m'<m/\W m' σ' H')/\tb { D with nx:=N,ct:=N,bk:=D.nx } σ H1 else D.nx σ H1
theorem qAZ{c:Expr}{tb:TS}(hp:PassesOwn (model X.prog X.w) X.A X.env X.xe)(hc:PT X c tc)(hb:PSs X body tb):PS X (.While c body [] pos) (qK7 tc tb):=by(
intro pins s σ H D I h
obtain⟨W,⟨m0,w0⟩,turn⟩:=h
refine wpAny_While (codeAny_whileLoop (λn s'=>∃σ' H',Inv X _ σ' H' s'/\W n σ' H') ?_ m0 ⟨σ,H,I,w0⟩)
rintro n s1 ⟨U,H1,I1,w1⟩
refine wU hp (thn (hc _ s1 U H1 _ I1 (turn n U H1 w1)) λb s2 hZ=>?_)
obtain⟨H2,I2,O⟩:=hZ
cases b with
|true=>
 obtain⟨N,hN,O⟩:=O;refine wU hp (thn (hb _ s2 U H2 _ I2 O) λf s3 S=>?_);cases f with
 |next=>obtain⟨z,J,I3,Z⟩:=S;obtain⟨m',hm,w3⟩:=hN z J Z;exact⟨m',hm,z,J,I3,w3⟩
 |cont=>obtain⟨z,J,I3,Z⟩:=S;obtain⟨m',hm,w3⟩:=hN z J Z;exact⟨m',hm,z,J,I3,w3⟩
 |brk=>exact S
 |ret v=>exact S
|false=>exact sT ⟨U,H2,I2,O⟩)
end
structure It where
go:Nat->Hp->Prop
yld:Nat->Hp->V->Hp->Prop
stop:Nat->Hp->Prop
def FpOk(X:Cx)(pins:List (Addr×Obj))(H:Hp)(b:Addr):Prop:=H b=none/\b≠X.env.locals/\b∉X.fs/\(b∈X.ex\/X.s₀.heap.objs.size<=b)/\(∀x c,X.env.cells.lookup x=some c->c≠b)/\∀p∈X.pn++pins,p.1≠b
theorem Inv.fpOk{s:Shared}{b:Addr}(I:Inv X pins σ H s)(hb:s.heap.objs.size<=b)(hn:H' b=none):FpOk X pins H' b:=by(
refine⟨hn,rC (gA I.lt hb),I.nofs hb,.inr (kQ I.sz hb),λx c e z=>?_,λp D z=>?_⟩
.obtain⟨v,q⟩:=I.cell x c e;exact absurd (gA q.lt (by simp_all)) (dR _)
exact absurd (gA (mD (I.pin p D).1) (by simp_all)) (dR _))
structure Turn(P:Program)(w:World)(K:PySem.W.Frag)(tg:Expr)(J:It)(fp:List Addr)(it:Addr)(tn:Nat->Heap->Prop):Prop where
mem:it∈fp
obj:∀i h,tn i h->∀b∈fp,∃o,h.get? b=some o/\∀v,o.data≠ .cell v
keep:∀i h h',tn i h->(∀b∈fp,∀o,h.get? b=some o->h'.get? b=some o)->tn i h'
item:∀(X:Cx),X.prog=P->X.w=w->X.K=K->X.calm=true->∀(i:Nat) (pins:List (Addr×Obj)) (s:Shared) (σ:St) (H:Hp) (E:Value->Shared->Prop),Inv X pins σ H s->(∀b∈fp,FpOk X pins H b)->tn i s.heap->J.go i H->wpAny (model P w) X.A (pyNext (.ref it)) (λr s1=>∃u,r=some u/\wpAny (model P w) X.A (letOwnedTupleGo tg (.ref it) u) (λ_ s2=>∃x H',Inv X pins σ H' s2/\RelV x u/\J.yld i H x H'/\tn (i+1) s2.heap/\∀b∈fp,H' b=none) E s1) E s
done:∀(X:Cx),X.prog=P->X.w=w->X.K=K->X.calm=true->∀(i:Nat) (pins:List (Addr×Obj)) (s:Shared) (σ:St) (H:Hp) (E:Value->Shared->Prop),Inv X pins σ H s->(∀b∈fp,FpOk X pins H b)->tn i s.heap->J.stop i H->wpAny (model P w) X.A (pyNext (.ref it)) (λr s1=>r=none/\Inv X pins σ H s1) E s
self:∀(A:Around) (i:Nat) (s:Shared) (Q:Value->Shared->Prop) (E:Value->Shared->Prop),tn i s.heap->Q (.ref it) s->wpAny (model P w) A (pyIter (.ref it)) Q E s
abbrev TI:=St->Hp->(It->Hp->Prop)->Prop
def PIE(X:Cx)(pins:List (Addr×Obj))(σ:St)(tg:Expr)(R:It->Hp->Prop)(itv:Value)(s2:Shared):Prop:=∃(it:Addr) (fp:List Addr) (tn:Nat->Heap->Prop) (J:It) (H':Hp),itv=.ref it/\Inv X pins σ H' s2/\Turn X.prog X.w X.K tg J fp it tn/\tn 0 s2.heap/\(∀b∈fp,FpOk X pins H' b)/\R J H'
def PI(X:Cx)(tg iter:Expr)(wi:TI):Prop:=∀(pins:List (Addr×Obj)) (s:Shared) (σ:St) (H:Hp) (R:It->Hp->Prop),Inv X pins σ H s->wi σ H R->wpAny (model X.prog X.w) X.A (eval iter X.env) (λv s1=>wpAny (model X.prog X.w) X.A (pyIter v) (PIE X pins σ tg R) X.xe s1) X.xe s
theorem qF0{s:Shared}{o:Obj}{n:String}(ho:s.heap.get? it=some o)(hc:o.cls=.type n)(hd:o.data=.fields vs)
 (hn:["enumerate","zip","dict_itemiterator","dict_reverseitemiterator","odict_iterator","itertools.zip_longest","itertools.pairwise"].contains n=false) (hQ:Q () s):wpAny M A (letOwnedTupleGo tg (.ref it) u) Q E s:=by(
cases tg<;>first
 |exact mO hQ
 |(cases u<;>first
  |exact mO hQ
  |(refine kI (wpAny_load ho ?_)
    rw[hc,hd];show wpAny M A (if(["enumerate","zip","dict_itemiterator","dict_reverseitemiterator","odict_iterator","itertools.zip_longest","itertools.pairwise"].contains n&&vs[0]?==some _)=true then _ else _) Q E s;rw[kE (by lia)];exact mO hQ)))
noncomputable def Itl(K:PySem.W.Frag)(a:Addr):It:=⟨λi H=>∃xs x,SqL K H a xs/\xs[i]?=some x,λi H x H'=>H'=H/\∀xs,SqL K H a xs->xs[i]?=some x,λi H=>∃xs,SqL K H a xs/\xs.length<=i⟩
noncomputable def Itr(lo:Int)(n:Nat):It:=⟨λi z=>i<n,λi H x H'=>H'=H/\x=.int (lo+i),λi z=>n<=i⟩
theorem qEB{P:Program}{w:World}{K:PySem.W.Frag}(a it:Addr):Turn P w K tg (Itl K a) [it] it (λi h=>h.IsListIter it a i) where
mem:=by simp
obj:=λi h st b D=>by
 have e:b=it:=by simpa using D
 subst e;obtain⟨o,e,c,d⟩:=st;exact⟨o,e,λv z=>by rw[d]at z;cases z⟩
keep:=λi h h' st k=>st.at λo e=>k it (by simp) o e
item:=by intro X U hw hK hc i pins s σ H E I O st hg;subst U hw hK;obtain⟨xs,x,N,Z⟩:=hg;obtain⟨ag,rv,p,hz⟩:=I.list N;obtain⟨u,hu,ru⟩:=rv.get Z;obtain⟨f0,f1,f2,S,f4,f5⟩:=O it (by simp);refine wpAny_pyNext_list_item st p.isList (x:=u) (by simpa using hu) λh' J sb=>?_;have I1:Inv X pins σ H { s with heap:=h' }:=I.turned (t':=s.toks) (λb o D e=>(sb.2 b D).trans e) f0 f1 S f4 f5;obtain⟨o,e,c,d⟩:=id J;exact⟨u,rfl,qF0 (s:={ s with heap:=h' }) e c d (by decide) ⟨x,H,I1,ru,⟨rfl,λys hy=>by rw[I.list_inj hy N];exact Z⟩,J,λb D=>(O b D).1⟩⟩
done:=by intro X U hw hK hc i pins s σ H E I O st hg;subst U hw hK;obtain⟨xs,N,Z⟩:=hg;obtain⟨ag,rv,p,hz⟩:=I.list N;obtain⟨f0,f1,f2,S,f4,f5⟩:=O it (by simp);have hl:=rv.length;exact wpAny_pyNext_list_end (I.ok.hd hc) st p.isList (by simp;lia) λh' eb=>⟨rfl,I.turned (t':=s.toks) (λb o D e=>eb b o D e) f0 f1 S f4 f5⟩
self:=λz z z z z st h=>wpAny_pyIter_listiter st h
theorem qC6{P:Program}{w:World}{K:PySem.W.Frag}(it:Addr)(lo:Int)(n:Nat):Turn P w K tg (Itr lo n) [it] it (λi h=>IsRangeIter h it (lo+(i:Nat)*1) ((n:Int)-(i:Nat)) 1) where
mem:=by simp
obj:=λi h st b D=>by
 have e:b=it:=by simpa using D
 subst e;exact⟨_,st,λv z=>by have z':Data.fields _=Data.cell v:=z;cases z'⟩
keep:=λi h h' st k=>k it (by simp) _ st
item:=by intro X Z hw hK O i pins s σ H E I N st hg;subst Z hw hK;obtain⟨f0,f1,f2,S,U,f5⟩:=N it (by simp);have W:=Walks.range (prog:=X.prog) (w:=X.w) (I.ok.hd O) it lo 1 n;refine W.item i s _ _ hg st λv h' tk hv J kk=>?_;obtain⟨t,rfl⟩:=hv;have I1:Inv X pins σ H { s with heap:=h',toks:=tk }:=I.turned (λb o D e=>kk b o (by simpa using D) e) f0 f1 S U f5;refine⟨_,rfl,qF0 (s:={ s with heap:=h',toks:=tk }) (n:="range_iterator") J rfl rfl (by decide) ⟨.int (lo+i),H,I1,⟨t,?_⟩,⟨rfl,rfl⟩,J,λb D=>(N b D).1⟩⟩;rw[Int.mul_one]
done:=by intro X Z hw hK O i pins s σ H E I N st hg;subst Z hw hK;obtain⟨f0,f1,f2,S,U,f5⟩:=N it (by simp);exact wpAny_pyNext_range_end (I.ok.hd O) st (by have:n<=i:=hg;lia) λh' eb=>⟨rfl,I.turned (t':=s.toks) (λb o D e=>eb b o D e) f0 f1 S U f5⟩
self:=λz z z z z st h=>wpAny_pyIter_rangeiter st h
section
variable{X:Cx}{tg:Expr}
def qM9(K:PySem.W.Frag)(tl:TE):TI:=λσ H R=>tl σ H λx H1=>∃a,x=.ref a/\(∃xs,SqL K H1 a xs)/\R (Itl K a) H1
theorem jM{l:Expr}{tl:TE}(hl:PE X l tl):PI X tg l (qM9 X.K tl):=by(
intro pins s σ H R I h
refine thn (hl _ s σ H _ I h) λv D J=>?_
obtain⟨x,H1,z,S,N⟩:=J
obtain⟨a,e,⟨xs,U⟩,q⟩:=N
subst e
cases S
obtain⟨O,rv,p,hz⟩:=z.list U
refine aV p.isList ?_
refine⟨D.heap.objs.size,[D.heap.objs.size],_,_,H1,rfl,z.kept  λb o e=>kM _ e,qEB a _,⟨_,mZ _ rfl,rfl,rfl⟩,λb Z=>?_,q⟩
have e:=by simpa using Z
subst e
exact z.fpOk (kO _) (z.hok.fresh (kO _)))
theorem qB0{pins:List (Addr×Obj)}{σ:St}{H:Hp}{s:Shared}{R:It->Hp->Prop}{E:Value->Shared->Prop}{lo hi:Int}{t u v:Tok}{tk:Nat}(I:Inv X pins σ H s)(h1:-(2 ^ 62)<=lo)(h2:lo<2 ^ 62)(h3:-(2 ^ 62)<=hi)(h4:hi<2 ^ 62)
 (q:R (Itr lo (hi-lo).toNat) H):wpAny (model X.prog X.w) X.A (pyIter (.ref s.heap.objs.size)) (PIE X pins σ tg R) E { s with heap:=s.heap.push { cls:=.type "range",data:=.fields #[.int lo t,.int hi u,.int 1 v] },toks:=tk }:=by(
refine wpAny_pyIter_range (IsRange.new ..) (small_one h1 h2 h3 h4) ?_
have z:Inv X pins σ H { s with heap:=s.heap.push { cls:=.type "range",data:=.fields #[.int lo t,.int hi u,.int 1 v] },toks:=tk }:=I.kept λb o e=>kM _ e
refine⟨(s.heap.push _).objs.size,[(s.heap.push _).objs.size],_,_,H,rfl,z.kept (t':=tk) λb o e=>kM _ e,qC6 _ lo _,?_,λb J=>?_,q⟩
.have D:lo+((0:Nat):Int)*1=lo:=by simp
 have N:(((hi-lo).toNat:Nat):Int)-((0:Nat):Int)=Builtin.Range.rangeSize lo hi 1:=by rw[rangeSize_one];lia
 rw[D,N];exact mZ _ rfl
have e:b=(s.heap.push { cls:=.type "range",data:=.fields #[.int lo t,.int hi u,.int 1 v] }).objs.size:=by simpa using J
subst e
exact z.fpOk (kO _) (z.hok.fresh (kO _)))
def qMA(ta:TA):TI:=λσ H R=>ta σ H λvs H1=>∃j:Int,vs=[.int j]/\-(2 ^ 62)<=j/\j<2 ^ 62/\R (Itr 0 j.toNat) H1
def qMB(ta:TA):TI:=λσ H R=>ta σ H λvs H1=>∃i j:Int,vs=[.int i,.int j]/\(-(2 ^ 62)<=i/\i<2 ^ 62/\-(2 ^ 62)<=j/\j<2 ^ 62)/\R (Itr i (j-i).toNat) H1
theorem vD{a:Expr}{p:Pos}(hg:Gl X "range")(hm:X.mg "range"=none)(ha:PA X [a] ta)(hs:starEach [a] X.env=[(false,eval a X.env)]:=by rfl):PI X tg (.Call (.Name "range" p) [a] [] pos) (qMA ta):=by(
intro pins s σ H R I h
refine Call_ (q1R I hg hm boot_range (wF (thn (ha pos _ s σ H _ I h) λZ s1 D=>?_) hs rfl))
obtain⟨U,H1,N,O,z⟩:=D
obtain⟨j,e,z,S,q⟩:=z
subst e
cases O with
|cons r J=>cases J;obtain⟨t,rfl⟩:=r;exact call_range_1 (qB0 N (by lia) (by lia) z S (by simp_all)))
theorem q19{a b:Expr}{p:Pos}(hg:Gl X "range")(hm:X.mg "range"=none)(ha:PA X [a,b] ta)(hs:starEach [a,b] X.env=[(false,eval a X.env),(false,eval b X.env)]:=by rfl)(hs2:starEach [b] X.env=[(false,eval b X.env)]:=by rfl):
 PI X tg (.Call (.Name "range" p) [a,b] [] pos) (qMB ta):=by(
intro pins s σ H R I h
refine Call_ (q1R I hg hm boot_range (wF (thn (ha pos _ s σ H _ I h) λus s1 ⟨vs,H1,O,U,z⟩=>?_) (by simp_all) (by rw[hs2];rfl)))
obtain⟨i,j,e,⟨z,Z,N,S⟩,q⟩:=z
subst e
cases U with
|cons r D=>
 cases D with
 |cons J D=>cases D;obtain⟨t,rfl⟩:=r;obtain⟨t',rfl⟩:=J;exact call_range_2 (qB0 O z Z N S q))
def tFor(wi:TI)(g:TG)(tb:TS):TS:=λD σ H=>wi σ H λJ H1=>∃W:Nat->Nat->St->Hp->Prop,(∃m,W 0 m σ H1)/\∀i m σ H,W i m σ H->(J.stop i H/\D.nx σ H)\/(J.go i H/\∃N:St->Hp->Prop,(∀σ' H',N σ' H'->∃m',m'<m/\W (i+1) m' σ' H')/\∀x H',J.yld i H x H'->g x σ H' λσ2 H2=>tb { D with nx:=N,ct:=N,bk:=D.nx } σ2 H2)
noncomputable def q6T(fp:List Addr)(h:Heap):List (Addr×Obj):=fp.filterMap λb=>(h.get? b).map λo=>(b,o)
theorem yX{h:Heap}{b:Addr}{o:Obj}(hb:b∈fp)(e:h.get? b=some o):(b,o)∈q6T fp h:=wM.mpr ⟨b,hb,by rw[e];rfl⟩
theorem qEC{p:Addr×Obj}(hp:p∈q6T fp h):p.1∈fp/\h.get? p.1=some p.2:=by(
obtain⟨b,D,e⟩:=wM.mp hp
cases q:h.get? b with
|none=>simp_all
|some o=>rw[q]at e;have z:=mB e;subst z;exact⟨D,q⟩)
theorem Inv.pinned{s:Shared}(I:Inv X pins σ H s)(hf:∀b∈fp,FpOk X pins H b)(ho:∀b∈fp,∃o,s.heap.get? b=some o/\∀v,o.data≠ .cell v):Inv X (pins++q6T fp s.heap) σ H s:=I.pins_of λp hp=>(gQ.mp hp).elim (λz=>I.pin p (mH _ z)) λz=>by  obtain⟨hb,e⟩:=qEC z;obtain⟨f0,f1,f2,_⟩:=hf p.1 hb;obtain⟨o,e',d⟩:=ho p.1 hb;rw[e]at e';simp_all
theorem Inv.unpinned{s:Shared}(I:Inv X (pins++pl) σ H s):Inv X pins σ H s:=I.pins_of λp hp=>I.pin p (mH _ (gX _ hp))
theorem uO{tb:TS}(hp:PassesOwn (model X.prog X.w) X.A X.env X.xe)(hc:X.calm=true)(hi:PI X tg iter wi)(hg:PG X tg g)(hb:PSs X body tb)
 (hs:∀x,foldedSetIterable iter X.env x=pure x:=by intro _;rfl):PS X (.For tg iter body [] pos) (tFor wi g tb):=by(
intro pins s σ H D I h
refine wpAny_For (thn (hi pins s σ H _ I h) λv s1 h1=>thn h1 λbg s2 h2=>?_) hs
obtain⟨it,fp,tn,J,H2,e,I2,T,am,f2,W,⟨m0,w0⟩,turn⟩:=h2
subst e
have O:∀{H':Hp},(∀b∈fp,H' b=none)->∀b∈fp,FpOk X pins H' b:=λhn b hb=>⟨hn b hb,(f2 b hb).2⟩
refine codeAny_forLoop_any (λn s'=>∃i σ' H',Inv X pins σ' H' s'/\tn i s'.heap/\(∀b∈fp,H' b=none)/\W i n σ' H') ?_ m0 ⟨0,σ,H2,I2,am,λb hb=>(f2 b hb).1,w0⟩
rintro n s3 ⟨i,ag,H3,I3,ad,af,w3⟩
rcases turn i n ag H3 w3 with⟨stop,qn⟩|⟨go,N,hN,step⟩
.refine wU hp (thn (T.done X rfl rfl rfl hc i pins s3 ag H3 X.xe I3 (O af) ad stop) λr s4 hZ=>?_);obtain⟨hr,I4⟩:=hZ;subst hr;exact sT ⟨ag,H3,I4,qn⟩
refine wU hp (thn (T.item X rfl rfl rfl hc i pins s3 ag H3 X.xe I3 (O af) ad go) λr s4 hZ=>?_)
obtain⟨u,hr,h4⟩:=hZ
subst hr
refine wU hp (thn h4 λ_ s5 hZ=>?_)
obtain⟨x,H5,I5,r5,y5,ac,an⟩:=hZ
have al:=I5.pinned (O an) (T.obj _ _ ac)
refine wU hp (thn (hg _ s5 ag H5 x u _ al r5 (step x H5 y5)) λ_ s6 hZ=>?_)
obtain⟨bc,H6,I6,q6⟩:=hZ
refine wU hp (thn (hb _ s6 bc H6 _ I6 q6) λf s7 q7=>?_)
have U:∀{z:St} {S:Hp},Inv X (pins++q6T fp s5.heap) z S s7->N z S->∃m,m<n/\∃i σ' H',Inv X pins σ' H' s7/\tn i s7.heap/\(∀b∈fp,H' b=none)/\W i m σ' H':=fun {z S} Z n7=>by obtain⟨m',hm,w7⟩:=hN z S n7;refine⟨m',hm,i+1,z,S,Z.unpinned,T.keep _ _ _ ac λb hb o e=>(Z.pin (b,o) (mH _ (mH _ (yX hb e)))).1,λb hb=>?_,w7⟩;obtain⟨o,e,d⟩:=T.obj _ _ ac b hb;exact(Z.pin (b,o) (mH _ (mH _ (yX hb e)))).2.1
cases f with
|next=>obtain⟨z,S,Z,n7⟩:=q7;exact U Z n7
|cont=>obtain⟨z,S,Z,n7⟩:=q7;exact U Z n7
|brk=>obtain⟨z,S,Z,q7⟩:=q7;exact⟨z,S,Z.unpinned,q7⟩
|ret v=>obtain⟨x7,z,S,Z,r7,q7⟩:=q7;exact⟨x7,z,S,Z.unpinned,r7,q7⟩)
end
theorem zC{K:PySem.W.Frag}{a:Addr}{xs:List V}{g:TG}{tb:TS}{D:Ends}{σ:St}{H:Hp}(Pv:Nat->St->Hp->Prop)(h0:Pv 0 σ H)(hl:∀i σ H,i<=xs.length->Pv i σ H->SqL K H a xs)
 (hs:∀i x σ H,xs[i]?=some x->Pv i σ H->g x σ H λσ2 H2=>tb { D with nx:=Pv (i+1),ct:=Pv (i+1),bk:=D.nx } σ2 H2) (hd:∀σ H,Pv xs.length σ H->D.nx σ H):
 ∃W:Nat->Nat->St->Hp->Prop,(∃m,W 0 m σ H)/\∀i m σ H,W i m σ H->((Itl K a).stop i H/\D.nx σ H)\/((Itl K a).go i H/\∃N:St->Hp->Prop,(∀σ' H',N σ' H'->∃m',m'<m/\W (i+1) m' σ' H')/\∀x H',(Itl K a).yld i H x H'->g x σ H' λσ2 H2=>tb { D with nx:=N,ct:=N,bk:=D.nx } σ2 H2):=by(
refine⟨λi m σ H=>m=xs.length-i/\i<=xs.length/\Pv i σ H,⟨xs.length,by rfl,m9 _,h0⟩,?_⟩
rintro i m σ H ⟨rfl,I,p⟩
have q:=hl i σ H I p
by_cases z:i<xs.length
.refine .inr ⟨⟨xs,xs[i],q,by simp⟩,Pv _,λσ' H' J=>⟨xs.length-(i+1),by lia,rfl,z,J⟩,λx H' y=>?_⟩;obtain⟨e,y⟩:=y;subst e;exact hs i x σ _ (y xs q) p
have e:i=xs.length:=by lia
subst e
exact .inl ⟨⟨xs,q,kO _⟩,hd σ H p⟩)
theorem q8T{lo:Int}{n:Nat}{g:TG}{tb:TS}{D:Ends}{σ:St}{H:Hp}(Pv:Nat->St->Hp->Prop)(h0:Pv 0 σ H)
 (hs:∀i σ H,i<n->Pv i σ H->g (.int (lo+i)) σ H λσ2 H2=>tb { D with nx:=Pv (i+1),ct:=Pv (i+1),bk:=D.nx } σ2 H2) (hd:∀σ H,Pv n σ H->D.nx σ H):
 ∃W:Nat->Nat->St->Hp->Prop,(∃m,W 0 m σ H)/\∀i m σ H,W i m σ H->((Itr lo n).stop i H/\D.nx σ H)\/((Itr lo n).go i H/\∃N:St->Hp->Prop,(∀σ' H',N σ' H'->∃m',m'<m/\W (i+1) m' σ' H')/\∀x H',(Itr lo n).yld i H x H'->g x σ H' λσ2 H2=>tb { D with nx:=N,ct:=N,bk:=D.nx } σ2 H2):=by(
refine⟨λi m σ H=>m=n-i/\i<=n/\Pv i σ H,⟨n,by rfl,m9 _,h0⟩,?_⟩
rintro i m σ H ⟨rfl,J,p⟩
by_cases z:i<n
.refine .inr ⟨z,Pv _,λσ' H' I=>⟨n-(i+1),by lia,rfl,z,I⟩,λx H' y=>?_⟩;obtain⟨e,y⟩:=y;subst e y;exact hs i σ _ z p
have e:i=n:=by lia
subst e
exact .inl ⟨kO _,hd σ H p⟩)
abbrev R2:=V->V->Hp->VK->Prop
def OpR(X:Cx)(f:Value->Value->Sem Value)(r:R2):Prop:=∀(pins:List (Addr×Obj)) (s:Shared) (σ:St) (H:Hp) (x y:V) (v u:Value) (Q:VK),Inv X pins σ H s->RelV x v->RelV y u->r x y H Q->wpAny (model X.prog X.w) X.A (f v u) (EP X pins σ Q) X.xe s
def UnR(X:Cx)(f:Value->Sem Value)(r:V->Hp->VK->Prop):Prop:=∀(pins:List (Addr×Obj)) (s:Shared) (σ:St) (H:Hp) (x:V) (v:Value) (Q:VK),Inv X pins σ H s->RelV x v->r x H Q->wpAny (model X.prog X.w) X.A (f v) (EP X pins σ Q) X.xe s
def q0I(X:Cx)(f:Value)(r:List V->Hp->VK->Prop):Prop:=∀(pins:List (Addr×Obj)) (s:Shared) (σ:St) (H:Hp) (xs:List V) (us:List Value) (Q:VK),Inv X pins σ H s->Vals xs us->r xs H Q->wpAny (model X.prog X.w) X.A (call f us) (EP X pins σ Q) X.xe s
def tOp(r:R2)(ta tb:TE):TE:=λσ H Q=>ta σ H λx H1=>tb σ H1 λy H2=>r x y H2 Q
def tUn(r:V->Hp->VK->Prop)(ta:TE):TE:=λσ H Q=>ta σ H λx H1=>r x H1 Q
def rI(C:Int->Int->Prop)(g:Int->Int->V):R2:=λx y H Q=>∃i j,x=.int i/\y=.int j/\C i j/\Q (g i j) H
def rI0(g:Int->Int->V):R2:=λx y H Q=>∃i j,x=.int i/\y=.int j/\Q (g i j) H
def rU(g:Int->V):V->Hp->VK->Prop:=λx H Q=>∃i,x=.int i/\Q (g i) H
section
variable{X:Cx}{a b c:Expr}{ta tb tc:TE}{pos:Pos}
theorem binT(ha:PE X a ta)(hb:PE X b tb){pins:List (Addr×Obj)}{s:Shared}{σ:St}{H:Hp}{R:V->V->Hp->Prop}(I:Inv X pins σ H s)
 (h:ta σ H λx H1=>tb σ H1 λy H2=>R x y H2) {Q:Value->Shared->Prop} {f:Value->Value->Sem Value}
 (hf:∀v u s2 x y H2,Inv X pins σ H2 s2->RelV x v->RelV y u->R x y H2->wpAny (model X.prog X.w) X.A (f v u) Q X.xe s2):
 wpAny (model X.prog X.w) X.A (eval a X.env) (λv s₁=>wpAny (model X.prog X.w) X.A (eval b X.env) (λu s₂=>wpAny (model X.prog X.w) X.A (f v u) Q X.xe s₂) X.xe s₁) X.xe s:=by(
refine thn (ha _ s σ H _ I h) λv S z=>?_
obtain⟨x,H1,J,N,D⟩:=z
refine thn (hb _ S σ H1 _ J D) λu s2 z=>?_
obtain⟨y,H2,O,r2,U⟩:=z
exact hf v u s2 x y H2 O N r2 U)
theorem qL{r:R2}(ho:OpR X (binaryOp op) r)(ha:PE X a ta)(hb:PE X b tb):PE X (.BinOp a op b pos) (tOp r ta tb):=by intro pins s σ H Q I h;exact wpAny_BinOp (binT ha hb I h λv u N x y H2 D z J q=>ho _ N σ H2 x y v u Q D z J q)
theorem qJI{r:V->Hp->VK->Prop}(ho:UnR X (unaryOp op) r)(ha:PE X a ta):PE X (.UnaryOp op a pos) (tUn r ta):=by intro pins s σ H Q I h;exact UnaryOp_ (thn (ha _ s σ H _ I h) λv z ⟨x,H1,J,N,D⟩=>ho _ z σ H1 x v Q J N D)
theorem opI{f:Value->Value->Sem Value}{C:Int->Int->Prop}{g:Int->Int->Int}
 (rule:∀(i j:Int) (t u:Tok) (s:Shared) (Q:Value->Shared->Prop) (E:Value->Shared->Prop),C i j->Q (.int (g i j) s.toks) { s with toks:=s.toks+1 }->wpAny (model X.prog X.w) X.A (f (.int i t) (.int j u)) Q E s):
 OpR X f (rI C λi j=>.int (g i j)):=by(
intro pins s σ H x y v u Q I z J h
obtain⟨i,j,rfl,rfl,D,q⟩:=h
obtain⟨t,rfl⟩:=z
obtain⟨N,rfl⟩:=J
exact rule i j t N s _ _ D ⟨.int _,H,I.tok _,⟨_,rfl⟩,q⟩)
theorem opI0{f:Value->Value->Sem Value}{g:Int->Int->Int}
 (rule:∀(i j:Int) (t u:Tok) (s:Shared) (Q:Value->Shared->Prop) (E:Value->Shared->Prop),Q (.int (g i j) s.toks) { s with toks:=s.toks+1 }->wpAny (model X.prog X.w) X.A (f (.int i t) (.int j u)) Q E s):
 OpR X f (rI0 λi j=>.int (g i j)):=by(
intro pins s σ H x y v u Q I z D h
obtain⟨i,j,rfl,rfl,q⟩:=h
obtain⟨t,rfl⟩:=z
obtain⟨J,rfl⟩:=D
exact rule i j t J s _ _ ⟨.int _,H,I.tok _,⟨_,rfl⟩,q⟩)
theorem opB0{f:Value->Value->Sem Value}{g:Int->Int->Bool}
 (rule:∀(i j:Int) (t u:Tok) (s:Shared) (Q:Value->Shared->Prop) (E:Value->Shared->Prop),Q (.bool (g i j)) s->wpAny (model X.prog X.w) X.A (f (.int i t) (.int j u)) Q E s):
 OpR X f (rI0 λi j=>.bl (g i j)):=by(
intro pins s σ H x y v u Q I z D h
obtain⟨i,j,rfl,rfl,q⟩:=h
obtain⟨t,rfl⟩:=z
obtain⟨J,rfl⟩:=D
exact rule i j t J s _ _ ⟨.bl _,H,I,rfl,q⟩)
def CDiv(i j:Int):Prop:=0<j/\j<1073741824
def CPow(i j:Int):Prop:=0<=j/\j<=1000000/\i.natAbs<2 ^ 64
def CMul(i j:Int):Prop:=(-(2 ^ 64)<i/\i<2 ^ 64)\/(-(2 ^ 64)<j/\j<2 ^ 64)
theorem CMul.ok{i j:Int}(h:CMul i j):IntMulOk i j:=by(
rcases h with⟨h1,h2⟩|⟨h1,h2⟩
.exact .of_left (intBits_le_64 h1 h2)
exact .of_right (intBits_le_64 h1 h2))
theorem jU:OpR X (binaryOp .Add) (rI0 λi j=>.int (i+j)):=opI0 λz z z z z z z q=>add_int q
theorem uA:OpR X (binaryOp .Sub) (rI0 λi j=>.int (i-j)):=opI0 λz z z z z z z q=>sub_int q
theorem jP:OpR X (binaryOp .Mult) (rI CMul λi j=>.int (i*j)):=opI λz z z z z z z hc q=>mul_int q hc.ok
theorem uL:OpR X (binaryOp .FloorDiv) (rI CDiv λi j=>.int (i / j)):=opI λi j z z z z z hc q=>by have h1:=hc.1;have h2:=hc.2;exact floordiv_int (by lia) (by rw[Int.fdiv_eq_ediv_of_nonneg i (by lia)];exact q) (.inl (PyProof.noPylong_small (by lia)))
theorem yZ:OpR X (binaryOp .Mod) (rI (λz j=>0<j) λi j=>.int (i%j)):=opI λi j z z z z z hc q=>by exact mod_int' (by lia) (by rw[Int.fmod_eq_emod_of_nonneg i (by lia)];exact q)
theorem qF1:OpR X (binaryOp .Pow) (rI CPow λi j=>.int (i ^ j.toNat)):=opI λz z z z z z z hc q=>pow_int_small hc.1 hc.2.1 hc.2.2 q
theorem qF2:OpR X (binaryOp .LShift) (rI CPow λi j=>.int (i*2 ^ j.toNat)):=opI λz z z z z z z hc q=>lshift_int_small hc.1 hc.2.1 hc.2.2 q
theorem qMC:OpR X (binaryOp .BitOr) (rI0 λi j=>.int (Builtin.bitOr i j)):=opI0 λz z z z z z z q=>or_int q
theorem unI{f:Value->Sem Value}{g:Int->Int}
 (rule:∀(i:Int) (t:Tok) (s:Shared) (Q:Value->Shared->Prop) (E:Value->Shared->Prop),Q (.int (g i) s.toks) { s with toks:=s.toks+1 }->wpAny (model X.prog X.w) X.A (f (.int i t)) Q E s):
 UnR X f (rU λi=>.int (g i)):=by(
intro pins s σ H x v Q I z h
obtain⟨i,rfl,q⟩:=h
obtain⟨t,rfl⟩:=z
exact rule i t s _ _ ⟨.int _,H,I.tok _,⟨_,rfl⟩,q⟩)
theorem qF3:UnR X (unaryOp .USub) (rU λi=>.int (-i)):=unI λz z z z z q=>neg_int q
end
noncomputable def scal:V->V->Bool
| .non,.non=>true| .non,.int _=>true| .int _,.non=>true| .non,.bl _=>true| .bl _,.non=>true| .non,.str _=>true| .str _,.non=>true
| .int _,.int _=>true| .bl _,.bl _=>true| .str _,.str _=>true| .byt _,.byt _=>true
| .int _,.str _=>true| .str _,.int _=>true| .bl _,.str _=>true| .str _,.bl _=>true
|_,_=>false
def rEq:R2:=λx y H Q=>scal x y=true/\Q (.bl (decide (x=y))) H
def rNe:R2:=λx y H Q=>scal x y=true/\Q (.bl (!decide (x=y))) H
theorem qD2{i j:Int}:decide (V.int i=V.int j)=(i==j):=by rw[cN];simp
theorem qF4{i j:Bool}:decide (V.bl i=V.bl j)=(i==j):=by rw[cN];simp
theorem qD3{i j:Str}:decide (V.str i=V.str j)=(i==j):=by rw[cN];simp
theorem qD4{i j:Array UInt8}:decide (V.byt i=V.byt j)=(i.toList==j.toList):=by(
rw[cN]
simp)
section
variable{X:Cx}{a b c:Expr}{ta tb tc:TE}{pos:Pos}
theorem jR{s:Shared}{k:Bool}(I:Inv X pins σ H s)(q:Q (.bl k) H)(e:k=k'):EP X pins σ Q (.bool k') s:=by subst e;exact⟨.bl k,H,I,rfl,q⟩
theorem yO:OpR X (compareOp .Eq) rEq:=by(
intro pins s σ H x y v u Q I N z h
obtain⟨J,q⟩:=h
cases x with
|non=>
 cases N;cases y with
 |non=>cases z;exact PySem.EqNone.eq_none_none (jR I q (by simp))
 |bl j=>cases z;exact PySem.EqNone.eq_none_bool (jR I q (by simp))
 |int j=>obtain⟨D,rfl⟩:=z;exact PySem.EqNone.eq_none_int (jR I q (by simp))
 |str j=>obtain⟨D,rfl⟩:=z;exact PySem.EqNone.eq_none_str (jR I q (by simp))
 |_=>exact absurd (show false=true from J) kZ
|bl i=>
 cases N;cases y with
 |non=>cases z;exact PySem.EqNone.eq_bool_none (jR I q (by simp))
 |bl j=>cases z;exact eq_bool (jR I q qF4)
 |str j=>obtain⟨D,rfl⟩:=z;exact fE (jR I q (by simp))
 |_=>exact absurd (show false=true from J) kZ
|int i=>
 obtain⟨t,rfl⟩:=N;cases y with
 |non=>cases z;exact PySem.EqNone.eq_int_none (jR I q (by simp))
 |int j=>obtain⟨D,rfl⟩:=z;exact eq_int (jR I q qD2)
 |str j=>obtain⟨D,rfl⟩:=z;exact fI (jR I q (by simp))
 |_=>exact absurd (show false=true from J) kZ
|str i=>
 obtain⟨t,rfl⟩:=N;cases y with
 |non=>cases z;exact PySem.EqNone.eq_str_none (jR I q (by simp))
 |bl j=>cases z;exact fF (jR I q (by simp))
 |int j=>obtain⟨D,rfl⟩:=z;exact fK (jR I q (by simp))
 |str j=>obtain⟨D,rfl⟩:=z;exact eq_str (jR I q qD3)
 |_=>exact absurd (show false=true from J) kZ
|byt i=>
 obtain⟨t,rfl⟩:=N;cases y with
 |byt j=>obtain⟨D,rfl⟩:=z;exact PySem.W.eq_bytes (jR I q qD4)
 |_=>exact absurd (show false=true from J) kZ
|_=>cases y<;>exact absurd (show false=true from J) kZ)
theorem qB1:OpR X (compareOp .NotEq) rNe:=by(
intro pins s σ H x y v u Q I N z h
obtain⟨J,q⟩:=h
cases x with
|non=>
 cases N;cases y with
 |non=>cases z;exact PySem.EqNone.ne_none_none (jR I q (by simp))
 |bl j=>cases z;exact PySem.EqNone.ne_none_bool (jR I q (by simp))
 |int j=>obtain⟨D,rfl⟩:=z;exact PySem.EqNone.ne_none_int (jR I q (by simp))
 |str j=>obtain⟨D,rfl⟩:=z;exact PySem.EqNone.ne_none_str (jR I q (by simp))
 |_=>exact absurd (show false=true from J) kZ
|bl i=>
 cases N;cases y with
 |non=>cases z;exact PySem.EqNone.ne_bool_none (jR I q (by simp))
 |bl j=>cases z;exact ne_bool (jR I q (dL not qF4))
 |str j=>obtain⟨D,rfl⟩:=z;exact fG (jR I q (by simp))
 |_=>exact absurd (show false=true from J) kZ
|int i=>
 obtain⟨t,rfl⟩:=N;cases y with
 |non=>cases z;exact PySem.EqNone.ne_int_none (jR I q (by simp))
 |int j=>obtain⟨D,rfl⟩:=z;exact ne_int (jR I q (dL not qD2))
 |str j=>obtain⟨D,rfl⟩:=z;exact fL (jR I q (by simp))
 |_=>exact absurd (show false=true from J) kZ
|str i=>
 obtain⟨t,rfl⟩:=N;cases y with
 |non=>cases z;exact PySem.EqNone.ne_str_none (jR I q (by simp))
 |bl j=>cases z;exact fH (jR I q (by simp))
 |int j=>obtain⟨D,rfl⟩:=z;exact fM (jR I q (by simp))
 |str j=>obtain⟨D,rfl⟩:=z;exact ne_str (jR I q (dL not qD3))
 |_=>exact absurd (show false=true from J) kZ
|byt i=>
 obtain⟨t,rfl⟩:=N;cases y with
 |byt j=>obtain⟨D,rfl⟩:=z;exact PySem.W.ne_bytes (jR I q (dL not qD4))
 |_=>exact absurd (show false=true from J) kZ
|_=>cases y<;>exact absurd (show false=true from J) kZ)
theorem q0J:OpR X (compareOp .Lt) (rI0 λi j=>.bl (decide (i<j))):=opB0 λz z z z z z z q=>lt_int q
theorem qF5:OpR X (compareOp .LtE) (rI0 λi j=>.bl (decide (i<=j))):=opB0 λz z z z z z z q=>le_int q
theorem qD5:OpR X (compareOp .Gt) (rI0 λi j=>.bl (decide (j<i))):=opB0 λz z z z z z z q=>gt_int q
theorem qD6:OpR X (compareOp .GtE) (rI0 λi j=>.bl (decide (j<=i))):=opB0 λz z z z z z z q=>ge_int q
theorem q9L:OpR X (compareOp .Is) (λx y H Q=>y=.non/\Q (.bl (decide (x=.non))) H):=by(
intro pins s σ H x y v u Q I z D h
obtain⟨rfl,q⟩:=h
cases D
refine is_none_gen (jR I q ?_)
cases x<;>first
 |rfl
 |(obtain⟨t,rfl⟩:=z;rfl))
theorem q3M:OpR X (compareOp .IsNot) (λx y H Q=>y=.non/\Q (.bl (!decide (x=.non))) H):=by(
intro pins s σ H x y v u Q I z D h
obtain⟨rfl,q⟩:=h
cases D
refine isnot_none_gen (jR I q ?_)
cases x<;>first
 |rfl
 |(obtain⟨t,rfl⟩:=z;rfl))
theorem qQ(b:Expr)(h:op≠ .In:=by decide)(h2:op≠ .NotIn:=by decide):behindInMarks op b=false:=by(
have z:(op==CmpOp.In)=false:=by lia
have D:(op==CmpOp.NotIn)=false:=by lia
cases b<;>simp[behindInMarks,z,D])
theorem yT{r:R2}(ho:OpR X (compareOp op) r)(ha:PE X a ta)(hb:PE X b tb)(hm:behindInMarks op b=false):PE X (.Compare a [op] [b] pos) (tOp r ta tb):=by intro pins s σ H Q I h;exact wpAny_Compare1 (binT ha hb I h λv u N x y H2 D z J q=>ho _ N σ H2 x y v u Q D z J q) hm
def qJJ(t:TE):TT:=λσ H Q=>t σ H λx H'=>∃k,x=.bl k/\Q k H'
theorem qP{r:R2}(ho:OpR X (compareOp op) r)(ha:PE X a ta)(hb:PE X b tb)(hm:behindInMarks op b=false):PT X (.Compare a [op] [b] pos) (qJJ (tOp r ta tb)):=by(
intro pins s σ H Q I h
refine xJ (thn (ha _ s σ H _ I h) λv s1 ⟨x,H1,U,Z,J⟩=>thn (hb _ s1 σ H1 _ U J) λu s2 ⟨y,H2,O,r2,q2⟩=>thn (ho _ s2 σ H2 x y v u _ O Z r2 q2) λc s3 ⟨z,S,N,r3,k,e,D⟩=>?_) hm
subst e
cases r3
exact dH ⟨S,N,D⟩)
def qF6(r r':R2)(ta tb tc:TE):TE:=λσ H Q=>ta σ H λx H1=>tb σ H1 λy H2=>r x y H2 λz H3=>∃k,z=.bl k/\(if k=true then tc σ H3 λw' H4=>r' y w' H4 Q else Q (.bl false) H3)
theorem qF7{r:R2}(ho:OpR X (compareOp op) r)(ho':OpR X (compareOp op') r')(ha:PE X a ta)(hb:PE X b tb)(hc:PE X c tc)
 (hm:lastMarks [op,op'] [b,c]=false:=by with_unfolding_all rfl):PE X (.Compare a [op,op'] [b,c] pos) (qF6 r r' ta tb tc):=by(
intro pins s σ H Q I h
refine Compare_chain (thn (ha _ s σ H _ I h) λv s1 ⟨x,H1,I1,r1,U⟩=>chain_link (thn (hb _ s1 σ H1 _ I1 U) λu s2 ⟨y,H2,I2,r2,q2⟩=>thn (ho _ s2 σ H2 x y v u _ I2 r1 r2 q2) λd s3 ⟨z,N,J,r3,k,e,D⟩=>?_)) hm
subst e
cases r3
refine dH ?_
cases k with
|false=>exact ite_ff ⟨.bl _,N,J,rfl,D⟩
|true=>exact ite_tt (chain_last (thn (hc _ s3 σ N _ J D) λw' O ⟨S,Z,I4,r4,q4⟩=>ho' _ O σ Z y S u w' Q I4 r2 r4 q4)))
theorem qF8{r:R2}(ho:OpR X (compareOp op) r)(ho':OpR X (compareOp op') r')(ha:PE X a ta)(hb:PE X b tb)(hc:PE X c tc)
 (hm:lastMarks [op,op'] [b,c]=false:=by with_unfolding_all rfl):PT X (.Compare a [op,op'] [b,c] pos) (qJJ (qF6 r r' ta tb tc)):=by(
intro pins s σ H Q I h
refine isTrue_chain (thn (ha _ s σ H _ I h) λv s1 ⟨x,H1,I1,r1,q1⟩=>test_link (thn (hb _ s1 σ H1 _ I1 q1) λu s2 ⟨y,H2,I2,r2,Z⟩=>thn (ho _ s2 σ H2 x y v u _ I2 r1 r2 Z) λd s3 ⟨z,N,J,r3,k,e,D⟩=>?_)) hm
subst e
cases r3
refine dH ?_
cases k with
|false=>obtain⟨k',e',U⟩:=D;cases e';exact ite_ff ⟨N,J,U⟩
|true=>refine ite_tt (test_last (thn (hc _ s3 σ N _ J D) λw' s4 ⟨z',H4,I4,r4,q4⟩=>thn (ho' _ s4 σ H4 y z' u w' _ I4 r2 r4 q4) λd' s5 hZ=>?_));obtain⟨z2,S,I5,r5,k2,e2,O⟩:=hZ;subst e2;cases r5;exact dH ⟨S,I5,O⟩)
theorem q6U:(sizeLine:Nat)<2 ^ 63:=by rw[g8];decide
theorem q00{x:V}(r:Vals [x] us):∃u,us=[u]/\RelV x u:=by
 cases r with
 |cons z r2=>cases r2;exact⟨_,rfl,z⟩
theorem qF9{x y:V}(r:Vals [x,y] us):∃u w',us=[u,w']/\RelV x u/\RelV y w':=by(
cases r with
|cons z r2=>
 cases r2 with
 |cons r3 r4=>cases r4;exact⟨_,_,rfl,z,r3⟩)
theorem q8U(hc:X.calm=true):q0I X (.builtin "min") (λxs H Q=>∃i j,xs=[.int i,.int j]/\Q (.int (if j<i then j else i)) H):=by(
intro pins s σ H xs D Q I r h
obtain⟨i,j,rfl,q⟩:=h
obtain⟨u,J,rfl,⟨t,rfl⟩,⟨t',rfl⟩⟩:=qF9 r
refine min_two_ints (I.ok.hd hc) λh' tk k=>⟨_,H,I.kept k,?_,q⟩
by_cases z:j<i
.rw[kL z,kL z];exact⟨_,rfl⟩
rw[kE z,kE z];exact⟨_,rfl⟩)
end
structure ObjM(h:Heap)(x dx C:Addr)(mA:Str->Option Value):Prop where
obj:h.get? x=some (PySem.W.instObj C dx)
ns:h.Ns1 dx mA
ne:dx≠x
set_option tactic.hygienic true in
theorem q8V{h:Heap}(n:h.Ns1 dx mA):∃od,h.get? dx=some od/\∀name,PySem.W.lookIn name od=some (mA name):=by(
obtain⟨o,es,Z,J,U,O,_,S⟩:=n
refine⟨o,J,λname=>?_⟩
have e:=S name
unfold nsFind findBy at e
rw[<-Array.find?_toList]at e
unfold PySem.W.lookIn
rw[U]
dsimp only
split
.rename_i y q;rw[q]at e;exact dL _ e
rename_i q
rw[q]at e
have a:es.toList.any (·.refKey)=false:=by rw[List.any_eq_false];intro y I;obtain⟨z,t,D⟩:=O y (Array.mem_toList_iff.mp I);simp[DictEntry.refKey,D]
have N:¬es.toList.any (·.refKey)=true:=by rw[a];exact kZ
rw[kE N]
exact dL _ e)
theorem ObjM.look{x:Addr}(I:ObjM h x dx C mA):∃od,PySem.W.InstAt h x (PySem.W.instObj C dx) C (some od)/\∀name,PySem.W.lookIn name od=some (mA name):=let⟨od,ho,hl⟩:=q8V I.ns
 ⟨od,⟨I.obj,rfl,rfl,ho⟩,hl⟩
section
variable{prog:Program}{w:World}{A:Around}{E:Value->Shared->Prop}{s:Shared}{K:PySem.W.Frag}{x dx C f:Addr}{mA:Str->Option Value}{name:Str}{v:Value}
theorem qHN(X:K.In s.heap)(I:ObjM s.heap x dx C mA)(hg:PySem.W.plainGet K C name=true)(hh:PySem.W.hasDictIn K C=true)
 (ha:PySem.W.findIn K (.ref C) name=some none) (hv:mA name=some v) (hv':PySem.W.handedIn v=true) (h:Q v { s with toks:=s.toks+1 }):
 wpAny (model prog w) A (getAttr (.ref x) name expr) Q E s:=by obtain⟨od,J,hl⟩:=I.look;exact PySem.W.get_value X J (sY hg).1 (PySem.W.findObj_own hh ha rfl (by simp_all)) hv' h
theorem qFA(X:K.In s.heap)(I:ObjM s.heap x dx C mA)(hg:PySem.W.plainGet K C name=true)
 (hf:PySem.W.findIn K (.ref C) name=some (some (.ref f))) (ht:PySem.W.isFn K (.ref f)=true) (hv:mA name=none) (h:Q (.ref f,[.ref x]) s):
 wpAny (model prog w) A (getMethod (.ref x) name pl) Q E s:=by obtain⟨od,J,hl⟩:=I.look;exact PySem.W.method_fn X J (sY hg).1 (sY hg).2 hf (wZ.mp ht) (by show(PySem.W.lookIn _ od).map _=some _;simp_all) h
theorem qHO{ns:List Str}(X:K.In s.heap)(I:ObjM s.heap x dx C mA)
 (hs:PySem.W.findIn K (.ref C) "__setattr__"=some (some (.builtin "object.__setattr__"))) (hp:PySem.W.plainOver K C=true) (ht:PySem.W.takerIn K C name=some none) (hh:PySem.W.hasDictIn K C=true)
 (hw:PySem.Within mA ns) (hsz:ns.length<=sizeLine)
 (h:∀h',ObjM h' x dx C (λy=>if y=name then some v else mA y)->Heap.SameBut dx s.heap h'->Q () { s with heap:=h',toks:=s.toks+2 }):
 wpAny (model prog w) A (setAttr (.ref x) name v) Q E s:=by(
obtain⟨od,J,hl⟩:=I.look
refine PySem.W.set_plain X J hs (PySem.W.osa_open   X J hp ht λb=>?_)
obtain⟨cd,Z,N⟩:=sI hh
have hx:=I.obj
refine kI (mO (kI (kI (wpAny_loadPart hx (kI (fV  (PySem.W.looks_clsIn X Z) ?_))))))
rw[N]
refine mO  (kI (mO (kI ?_)))
refine wpAny_nsSet1  I.ns λh' D z=>?_
obtain⟨oD,ab,ac,O,U,S⟩:=D.count (PySem.Within.cons name v hw)
refine kI (wpAny_lookBehind O (by rw[U];exact pastItsLine_dict (kQ S (by rw[mP];lia))) ?_)
exact mO (h _ ⟨(z.2 _ (cC I.ne)).trans I.obj,D,I.ne⟩ z))
theorem qFB(X:K.In s.heap)(hm:PySem.W.makesIn K C=true)
 (hi:PySem.W.findIn K (.ref C) "__init__"=some (some (.ref f))) (hf:PySem.W.typeIn K (.ref f)=some (.type "function"))
 (h:codeAny (model prog w) (A.under (.builtin "type.__call__" ⟨.ref C::vs,kw⟩)) (.call (.ref f) ⟨.ref (s.heap.objs.size+1)::vs,kw⟩) (PySem.W.InitBack (s.heap.objs.size+1) R)
  { s with heap:=(s.heap.push PySem.W.emptyDict).push (PySem.W.instObj C s.heap.objs.size) }):
 codeAny (model prog w) A (.call (.ref C) ⟨vs,kw⟩) R s:=by exact aW (bM X hm) (c6 X hi) (λz=>PySem.W.bind_fn X _ hf) (.inl rfl) h
end
noncomputable def putF(f:Str)(v:V):List (Str×V)->List (Str×V)
| []=>[(f,v)]
|(g,x)::r=>if g=f then(g,v)::r else(g,x)::putF f v r
theorem q5Y(f g:Str)(v:V):∀fs:List (Str×V),(putF f v fs).lookup g=if g=f then some v else fs.lookup g
| []=>by
 show List.lookup g [(f,v)]=_;by_cases h:g=f
 .have hb:(g==f)=true:=wZ.mpr h;simp only[List.lookup,hb,kL h]
 have hb:(g==f)=false:=wA.mpr h;simp only[List.lookup,hb,kE h]
|(k,x)::r=>by
 have ih:=q5Y f g v r;rw[show putF f v ((k,x)::r)=(if k=f then(k,v)::r else(k,x)::putF f v r)from rfl];by_cases hk:k=f
 .rw[kL hk];by_cases h:g=k
  .have hb:(g==k)=true:=wZ.mpr h;simp only[List.lookup,hb,kL (h.trans hk)]
  have hb:(g==k)=false:=wA.mpr h;simp only[List.lookup,hb,kE (λe:g=f=>h (e.trans hk.symm))]
 rw[kE hk];by_cases h:g=k
 .have hb:(g==k)=true:=wZ.mpr h;simp only[List.lookup,hb,kE (λe:g=f=>hk (h.symm.trans e))]
 have hb:(g==k)=false:=wA.mpr h;simp only[List.lookup,hb];exact ih
theorem q5G(f:Str)(v:V):∀fs:List (Str×V),f∈(putF f v fs).map (·.1)/\∀g,g∈fs.map (·.1)->g∈(putF f v fs).map (·.1)
| []=>⟨by simp[putF],λg h=>by simp at h⟩
|(k,x)::r=>by
 obtain⟨i1,i2⟩:=q5G f v r;rw[show putF f v ((k,x)::r)=(if k=f then(k,v)::r else(k,x)::putF f v r)from rfl];by_cases hk:k=f
 .rw[kL hk];subst hk;exact⟨by simp,λg h=>by simpa using h⟩
 rw[kE hk];refine⟨?_,λg h=>?_⟩
 .rw[mR];exact kB _ i1
 rw[mR]at h ⊢;rcases kN.mp h with e|e
 .exact kN.mpr (.inl e)
 exact kB _ (i2 g e)
theorem q5Z(f:Str)(v:V):∀fs:List (Str×V),(putF f v fs).length<=fs.length+1
| []=>by simp[putF]
|(k,x)::r=>by
 have ih:=q5Z f v r;rw[show putF f v ((k,x)::r)=(if k=f then(k,v)::r else(k,x)::putF f v r)from rfl];by_cases hk:k=f
 .rw[kL hk,mP,mP];lia
 rw[kE hk,mP,mP];lia
theorem RelO.some_of{v:V}{o:Option Value}(r:RelO (some v) o):∃u,o=some u/\RelV v u:=by(
cases o with
|none=>exact(show False from r).elim
|some u=>exact⟨u,rfl,r⟩)
theorem RelO.none_of{o:Option Value}(r:RelO none o):o=none:=by(
cases o with
|none=>rfl
|some u=>exact(show False from r).elim)
theorem qED{v:V}(r:RelV v u):PySem.W.handedIn u=true:=by(
cases v with
|non=>cases(show u=Value.none from r);rfl
|bl b=>cases(show u=Value.bool b from r);rfl
|int i=>obtain⟨t,e⟩:=(show ∃t,u=Value.int i t from r);cases e;rfl
|str x=>obtain⟨t,e⟩:=(show ∃t,u=Value.str x t from r);cases e;rfl
|byt b=>obtain⟨t,e⟩:=(show ∃t,u=Value.bytes b t from r);cases e;rfl
|flt b=>obtain⟨t,e⟩:=(show ∃t,u=Value.float b t from r);cases e;rfl
|ref a=>cases(show u=Value.ref a from r);rfl
|ty n=>cases(show u=Value.type n from r);rfl)
section
variable{P:Program}{w:World}{H H':Hp}{h h':Heap}{a C dx:Addr}{fs fs':List (Str×V)}
theorem q6H(hok:HOk P w H h)(e:H a=some (.ins C dx fs)):∃mA,ObjM h a dx C mA/\(∀f,RelO (fs.lookup f) (mA f))/\PySem.Within mA (fs.map (·.1))/\fs.length<=1000/\H dx=some (.own a):=by obtain⟨d,z,ne,D,mA,n,r,q⟩:=(show jQ P w H h a (.ins C dx fs)from hok a _ e);exact⟨mA,⟨D,n,ne⟩,r,q,z,d⟩
end
structure Cls(K:PySem.W.Frag)(C:Addr):Prop where
pg:PySem.W.plainGet K C Str.empty=true
hd:PySem.W.hasDictIn K C=true
po:PySem.W.plainOver K C=true
sa:PySem.W.findIn K (.ref C) "__setattr__"=some (some (.builtin "object.__setattr__"))
theorem Cls.get{K:PySem.W.Frag}(c:Cls K C)(f:Str):PySem.W.plainGet K C f=true:=c.pg
def qV(K:PySem.W.Frag)(C:Addr)(f:Str):Prop:=PySem.W.findIn K (.ref C) f=some none
theorem qV.taker{K:PySem.W.Frag}{f:Str}(n:qV K C f):PySem.W.takerIn K C f=some none:=by unfold PySem.W.takerIn;rw[show PySem.W.findIn K _ f=some _ from n];rfl
structure Meth(K:PySem.W.Frag)(C:Addr)(m:Str)(f:Addr):Prop where
at_:PySem.W.findIn K (.ref C) m=some (some (.ref f))
fn:PySem.W.isFn K (.ref f)=true
kp:PySem.W.keepIn K (.ref f)=true
section
variable{X:Cx}{pins:List (Addr×Obj)}{σ:St}{H:Hp}{s:Shared}{a C dx:Addr}{fs:List (Str×V)}{f:Str}{v:V}{A:Around}{E:Value->Shared->Prop}
theorem q6V{b:Bool}(I:Inv X pins σ H s)(e:H a=some (.ins C dx fs))(c:Cls X.K C)(n:qV X.K C f)(l:fs.lookup f=some v)
 (h:∀u s',Inv X pins σ H s'->RelV v u->Q u s'):wpAny (model X.prog X.w) A (getAttr (.ref a) f b) Q E s:=by obtain⟨mA,O,r,_,_,_⟩:=q6H I.hok e;obtain⟨u,D,z⟩:=RelO.some_of   (by rw[<-l];exact r f);exact qHN I.kIn O (c.get f) c.hd n D (qED z) (h u _ (I.tok _) z)
theorem q1V{m:Str}(I:Inv X pins σ H s)(e:H a=some (.ins C dx fs))(c:Cls X.K C)(k:Meth X.K C m g)(l:fs.lookup m=none)
 (h:Q (.ref g,[.ref a]) s):wpAny (model X.prog X.w) A (getMethod (.ref a) m pl) Q E s:=by obtain⟨mA,O,r,_,_,_⟩:=q6H I.hok e;have z:=RelO.none_of (by rw[<-l];exact r m);exact qFA I.kIn O (c.get m) k.at_ k.fn z h
theorem q6W{y:V}(I:Inv X pins σ H s)(e:H a=some (.ins C dx fs))(c:Cls X.K C)(n:qV X.K C f)(hl:fs.length<1000)(ry:RelV y u)
 (h:∀s',Inv X pins σ (upd H a (.ins C dx (putF f y fs))) s'->Q () s'):wpAny (model X.prog X.w) A (setAttr (.ref a) f u) Q E s:=by(
obtain⟨mA,O,r,J,_,N⟩:=q6H I.hok e
have S:(fs.map (·.1)).length<=sizeLine:=by rw[hU,g8];lia
refine qHO I.kIn O c.sa c.po n.taker c.hd J S λh' D U=>h _ ?_
have hd:∃o,h'.get? dx=some o:=let⟨o,_,_,e',_⟩:=D.ns;⟨o,e'⟩
refine I.write   (by rw[e];exact True.intro) (.inr N) (λb q hb z=>(U.2 b hb).trans z) hd ?_
refine⟨by rw[qF O.ne];exact N,?_,O.ne,D.obj,_,D.ns,λg=>?_,λg Z=>?_⟩
.have:=q5Z f y fs;lia
.rw[q5Y];by_cases q:g=f
 .rw[kL q,kL q];exact ry
 rw[kE q,kE q];exact r g
by_cases q:g=f
.rw[q];exact(q5G f y fs).1
refine(q5G f y fs).2 g (J g λz=>Z ?_)
show(if g=f then some u else mA g)=none
rw[kE q];exact z)
theorem Inv.made(I:Inv X pins σ H s):Inv X pins σ (upd (upd H s.heap.objs.size (.own (s.heap.objs.size+1))) (s.heap.objs.size+1) (.ins C s.heap.objs.size []))
 { s with heap:=(s.heap.push PySem.W.emptyDict).push (PySem.W.instObj C s.heap.objs.size) }:=by(
have z:(s.heap.push _).get? _=some PySem.W.emptyDict:=mZ _ rfl
have J:=by have:=mZ (s.heap.push PySem.W.emptyDict) (o:=PySem.W.instObj C s.heap.objs.size) rfl;rwa [nM]at this
have N:(s.heap.push _).Ns _ _:=⟨PySem.W.emptyDict,#[],_,z,rfl,(λe O=>absurd O (by simp)),λU=>rfl⟩
have S:=I.laid  (o:=.own (s.heap.objs.size+1))  (t':=s.toks) (λb u q=>kM _ q) (kO _) ⟨_,z⟩
refine S.laid    (λb u q=>kM _ q) (pW (nM _ _)) ?_
have ne:s.heap.objs.size≠s.heap.objs.size+1:=gC (rP _)
refine⟨by rw[qF ne,qI],m9 _,ne,J,λU=>none,(Heap.Ns1.of_empty N).at λo q=>kM _ q,λU=>True.intro,λy D=>absurd rfl D⟩)
theorem qHP{w:World}{env:Env}{f:Str}{s:Shared}(hb:attributeBase e f env (eval e env)=eval e env)
 (h:wpAny (model prog w) A (eval e env) (λo s₁=>wpAny (model prog w) A (getAttr o f true) Q E s₁) E s):wpAny (model prog w) A (eval (.Attribute e f pos) env) Q E s:=Attribute_any_ h (by rw[arm_eval_Attribute,hb])
end
def tFld(K:PySem.W.Frag)(ta:TE)(f:Str):TE:=λσ H Q=>ta σ H λx H1=>∃a C dx fs v,x=.ref a/\H1 a=some (.ins C dx fs)/\Cls K C/\qV K C f/\fs.lookup f=some v/\Q v H1
def sFld(K:PySem.W.Frag)(ta tv:TE)(f:Str):TS:=λD σ H=>tv σ H λy H1=>ta σ H1 λx H2=>∃a C dx fs,x=.ref a/\H2 a=some (.ins C dx fs)/\Cls K C/\qV K C f/\fs.length<1000/\D.nx σ (upd H2 a (.ins C dx (putF f y fs)))
def InOp(X:Cx)(op:Operator)(rd:V->V->Hp->VK->Prop):Prop:=∀(pins:List (Addr×Obj)) (s:Shared) (σ:St) (H:Hp) (x y:V) (u v:Value) (Q:VK),Inv X pins σ H s->RelV x u->RelV y v->rd x y H Q->wpAny (model X.prog X.w) X.A (inplaceOp op u v) (EP X pins σ Q) X.xe s
def qHQ(K:PySem.W.Frag)(ta tv:TE)(rd:V->V->Hp->VK->Prop)(f:Str):TS:=λD σ H=>ta σ H λx H1=>∃a C dx fs v,x=.ref a/\H1 a=some (.ins C dx fs)/\Cls K C/\qV K C f/\fs.lookup f=some v/\tv σ H1 λy H2=>rd v y H2 λz H3=>∃dx' fs',H3 a=some (.ins C dx' fs')/\fs'.length<1000/\D.nx σ (upd H3 a (.ins C dx' (putF f z fs')))
section
variable{X:Cx}{o e value:Expr}{f:Str}{pos pos' tpos:Pos}{ta tv:TE}
theorem qJ(he:PE X e ta)(hb:attributeBase e f X.env (eval e X.env)=eval e X.env):PE X (.Attribute e f pos) (tFld X.K ta f):=by(
intro pins s σ H Q I h
refine qHP hb (thn (he _ s σ H _ I h) λu U z=>?_)
obtain⟨x,H1,N,O,a,C,dx,fs,v,ex,ea,c,n,l,q⟩:=z
subst ex
obtain rfl:u=Value.ref a:=O
exact q6V N ea c n l λS Z J D=>⟨v,H1,J,D,q⟩)
theorem jT(ha:PE X o ta)(hv:PE X value tv)(hs:swapsWith value (some (.Attribute o f pos')) pos.line X.env=pure false):PS X (.Assign [.Attribute o f pos'] value pos) (sFld X.K ta tv f):=by(
intro pins s σ H D I h
refine plainObj_wpAny_Assign_Attribute (thn (hv _ s σ H _ I h) λu s1 ⟨y,H1,U,S,q⟩=>thn (ha _ s1 σ H1 _ U q) λJ s2 z=>?_) hs
obtain⟨x,H2,O,Z,a,C,dx,fs,ex,ea,c,n,l,q2⟩:=z
subst ex
obtain rfl:J=Value.ref a:=Z
exact q6W O ea c n l S λs3 N=>⟨σ,_,N,q2⟩)
theorem q8W{rd:V->V->Hp->VK->Prop}(ha:PE X o ta)(hv:PE X value tv)(hop:InOp X op rd):PS X (.AugAssign (.Attribute o f tpos) op value pos) (qHQ X.K ta tv rd f):=by(
intro pins s σ H D I h
refine wpAny_AugAssign_AttributeAny (thn (ha _ s σ H _ I h) λov s1 J=>?_)
obtain⟨x,H1,I1,O,a,C,dx,fs,v,ex,ea,c,n,l,q⟩:=J
subst ex
obtain rfl:ov=Value.ref a:=O
refine q6V I1 ea c n l λu s2 Z ru=>thn (hv _ s2 σ H1 _ Z q) λw3 s3 ⟨y,H2,U,ry,S⟩=>thn (hop _ s3 σ H2 v y u w3 _ U ru ry S) λw4 s4 J=>?_
obtain⟨z,H3,I4,rz,ad,fs',N,l',q4⟩:=J
exact q6W I4 N c n l' rz λs5 I5=>⟨σ,_,I5,q4⟩)
def rAdd:V->V->Hp->VK->Prop:=λx y H Q=>∃i j,x=.int i/\y=.int j/\Q (.int (i+j)) H
theorem qFC:InOp X .Add rAdd:=by(
rintro pins s σ H x y u v Q I D J ⟨i,j,rfl,rfl,q⟩
obtain⟨t,rfl⟩:=(show ∃t,u=Value.int i t from D)
obtain⟨z,rfl⟩:=(show ∃z,v=Value.int j z from J)
exact PyProof.Rows.iadd_int ⟨.int _,H,I.tok _,⟨_,rfl⟩,q⟩)
end
section
variable{X:Cx}{pins:List (Addr×Obj)}{σ:St}{H:Hp}{s:Shared}{A:Around}{E:Value->Shared->Prop}{Q:Value->Shared->Prop}{c:Value}{b:Bool}
inductive TyOf(K:PySem.W.Frag)(H:Hp):V->Value->Prop where
|non:TyOf K H .non (.type "NoneType")
|bl (x:Bool):TyOf K H (.bl x) (.type "bool")
|int (i:Int):TyOf K H (.int i) (.type "int")
|str (x:Str):TyOf K H (.str x) (.type "str")
|flt (x:UInt64):TyOf K H (.flt x) (.type "float")
|lst {a:Addr} {xs:List V} (e:H a=some (.lst xs)):TyOf K H (.ref a) (.type "list")
|frz {a:Addr} {o:Obj} {xs:List V} (e:H a=some (.frz o (.lst xs))):TyOf K H (.ref a) (.type "list")
|tup {a:Addr} {xs:List V} (e:H a=some (.tup xs)):TyOf K H (.ref a) (.type "tuple")
|dK {a:Addr} {kvs:List (Key×V)} (e:H a=some (.dK kvs)):TyOf K H (.ref a) (.type "dict")
|dT {a:Addr} {kvs:List (List Key×V)} (e:H a=some (.dT kvs)):TyOf K H (.ref a) (.type "dict")
|ins {a C dx:Addr} {fs:List (Str×V)} (e:H a=some (.ins C dx fs)) (cl:Cls K C) (ha:PySem.W.findIn K (.ref C) "__class__"=some (some (.builtin "object.__class__")))
 (hn:PySem.W.specialIn K (.builtin "object.__class__") "__get__"=some (some (.builtin "getset_descriptor.__get__"))) (htk:PySem.W.takesIn K (.builtin "object.__class__")=some true)
 (hm:PySem.W.mroIn K C (.type "object")=some true):TyOf K H (.ref a) (.ref C)
theorem qEE{x:V}{t:Value}(I:Inv X pins σ H s)(rx:RelV x u)(ty:TyOf X.K H x t)(e:PySem.W.kitOne X.K t c=some b)(h:∀tk,Q (.bool b) { s with toks:=tk }):
 wpAny (model X.prog X.w) A (call (.builtin "isinstance") [u,c]) Q E s:=by(
cases ty with
|non=>cases(show u=Value.none from rx);exact dM PySem.W.kitx_none I.kIn True.intro e (λz=>nomatch z) h
|bl y=>cases(show u=Value.bool y from rx);exact dM PySem.W.kitx_bool I.kIn True.intro e (λz=>nomatch z) h
|int i=>obtain⟨t,q⟩:=(show ∃t,u=Value.int i t from rx);cases q;exact dM PySem.W.kitx_int I.kIn True.intro e (λz=>nomatch z) h
|str y=>obtain⟨t,q⟩:=(show ∃t,u=Value.str y t from rx);cases q;exact dM PySem.W.kitx_str I.kIn True.intro e (λz=>nomatch z) h
|flt y=>obtain⟨t,q⟩:=(show ∃t,u=Value.float y t from rx);cases q;exact dM PySem.W.kitx_float I.kIn True.intro e (λz=>nomatch z) h
|@lst a xs ea=>cases(show u=Value.ref a from rx);obtain⟨_,_,n,_,h1⟩:=(show jQ X.prog X.w H s.heap a (.lst xs)from I.hok a _ ea);exact dM aX I.kIn ⟨_,h1,rfl⟩ e (λz=>nomatch z) h
|@frz a ob xs ea=>cases(show u=Value.ref a from rx);obtain⟨_,_,_,n,_,h1⟩:=(show jQ X.prog X.w H s.heap a (.frz ob (.lst xs))from I.hok a _ ea);exact dM aX I.kIn ⟨_,h1,rfl⟩ e (λz=>nomatch z) h
|@tup a xs ea=>cases(show u=Value.ref a from rx);obtain⟨_,_,_,p⟩:=(show jQ X.prog X.w H s.heap a (.tup xs)from I.hok a _ ea);obtain⟨o,h1,h2,_⟩:=p;exact dM PySem.W.kitx_tuple I.kIn ⟨o,h1,h2⟩ e (λz=>nomatch z) h
|@dK a kvs ea=>cases(show u=Value.ref a from rx);obtain⟨_,_,N,_,p⟩:=(show jQ X.prog X.w H s.heap a (.dK kvs)from I.hok a _ ea);obtain⟨o,es,D,h1,h2,_⟩:=p;exact dM aY I.kIn ⟨o,h1,h2.1⟩ e (λz=>nomatch z) h
|@dT a kvs ea=>cases(show u=Value.ref a from rx);obtain⟨_,_,xs,_,o,es,D,h1,h2,_⟩:=(show jQ X.prog X.w H s.heap a (.dT kvs)from I.hok a _ ea);exact dM aY I.kIn ⟨o,h1,h2.1⟩ e (λz=>nomatch z) h
|@ins a C dx fs ea cl ha hn htk hm=>cases(show u=Value.ref a from rx);obtain⟨mA,O,_⟩:=q6H I.hok ea;obtain⟨od,J,_⟩:=O.look;exact dM (PySem.W.kitx_own (cl.get _) cl.hd ha hn htk hm) I.kIn J e (λz=>nomatch z) h)
end
structure Room(k:Nat)(A:Around):Prop where
hd:A.handled=none
dp:A.depth+3*k+5<recursionLimit
un:A.units+16*k+200<cLine
theorem Room.mono{j k:Nat}(r:Room k A)(h:j<=k):Room j A:=⟨r.hd,by have:=r.dp;lia,by have:=r.un;lia⟩
theorem Room.deeper{k:Nat}(r:Room (k+1) A)(env:Env):Room k (A.deeper env):=⟨r.hd,by have:=r.dp;show A.depth+1+3*k+5< _;lia,by have:=r.un;show A.units+3+16*k+200< _;lia⟩
theorem Room.in1{k:Nat}(r:Room (k+1) A):Room k A.in1:=⟨r.hd,by have:=r.dp;lia,by have:=r.un;lia⟩
theorem qC7{A:Around}:(A.under (.builtin "type.__call__" ⟨.ref C::us,kw⟩)).depth=A.depth+1:=by rfl
theorem qC8{A:Around}:(A.under (.builtin "type.__call__" ⟨.ref C::us,kw⟩)).units=A.units+1:=by rfl
theorem Room.make{k:Nat}(r:Room (k+1) A)(C:Addr)(us:List Value)(kw:List (Str×Value)):Room k (A.under (.builtin "type.__call__" ⟨.ref C::us,kw⟩)):=⟨r.hd,by have:=r.dp;rw[qC7];lia,by have:=r.un;rw[qC8];lia⟩
theorem Room.depth{k:Nat}(r:Room k A):A.depth<recursionLimit:=by have:=r.dp;lia
theorem Room.units{k:Nat}(r:Room k A):A.units+64<cLine:=by have:=r.un;lia
def tNil:TA:=λz H Q=>Q [] H
def q8X(ta:TE)(tr:TA):TA:=λσ H Q=>ta σ H λx H1=>tr σ H1 λxs H2=>Q (x::xs) H2
section
variable{X:Cx}{e:Expr}{es:List Expr}{te:TE}{t:TA}{pos:Pos}
theorem qD:PA X [] tNil:=λz z z z H Q I h=>pX ⟨[],H,I,.nil,h⟩
theorem qA(ha:PE X e te)(hr:PA X es t)(hs:starEach (e::es) X.env=(false,eval e X.env)::starEach es X.env:=by rfl):PA X (e::es) (q8X te t):=by(
intro pos pins s σ H Q I h
rw[hs]
show wpAny _ _ (spliced ((false,eval e _)::backTo pos _)) _ _ s
refine wN (thn (ha _ s σ H _ I h) λu S z=>?_)
obtain⟨x,H1,J,N,D⟩:=z
exact thn (hr pos _ S σ H1 _ J D) λZ s2 ⟨xs,H2,O,r2,U⟩=>⟨x::xs,H2,O,.cons N r2,U⟩)
end
abbrev Sp:=List V->Hp->VK->XK->Prop
abbrev CXT:=List Env->Hp->Shared->XK->Value->Shared->Prop
structure Env0(P:Program)(w:World)(K:PySem.W.Frag)(mg:Str->Option Value)(base:Heap)(A:Around)(outer:List Env)(s:Shared)(H:Hp):Prop where
frames:A.frames=some outer
mod:Mod K mg base
bs:∀b o,base.get? b=some o->s.heap.get? b=some o/\H b=none
bsz:base.objs.size<=s.heap.objs.size
funs:s.heap.FunFrames base outer
frf:∀b∈frs outer,H b=none
hok:HOk P w H s.heap
bare:AllBare s.gens
def CE(outer:List Env)(P:Program)(w:World)(H:Hp)(s:Shared)(Q:VK)(u:Value)(s':Shared):Prop:=∃v H',s'.os=s.os/\AllBare s'.gens/\Un (frs outer) [] H H' s.heap s'.heap/\HOk P w H' s'.heap/\RelV v u/\Q v H'
def CR(CX:CXT)(outer:List Env)(P:Program)(w:World)(H:Hp)(s:Shared)(Q:VK)(E:XK)(r:Result)(s':Shared):Prop:=match r with
| .ok (.ret u)=>CE outer P w H s Q u s'
| .ok _=>False
| .error e=>CX outer H s E e s'
structure FnOk(P:Program)(w:World)(K:PySem.W.Frag)(mg:Str->Option Value)(base:Heap)(CX:CXT)(k:Nat)(f:Addr)(fd:FuncData)(ps:List Str)(sp:Sp):Prop where
len:∀vs H Q E,sp vs H Q E->vs.length=ps.length
run:∀(A:Around) (outer:List Env) (s:Shared) (H:Hp) (args:Args) (us:List Value) (vs:List V) (Q:VK) (E:XK),Room k A->Env0 P w K mg base A outer s H->BindsTo s fd args (ps.zip us)->Vals vs us->sp vs H Q E->codeAny (model P w) A (.call (.ref f) args) (CR CX outer P w H s Q E) s
theorem FnOk.mono{P:Program}{w:World}{K:PySem.W.Frag}{mg:Str->Option Value}{j k:Nat}{f:Addr}{fd:FuncData}{sp:Sp}(F:FnOk P w K mg base CX j f fd ps sp)(h:j<=k:=by decide):
 FnOk P w K mg base CX k f fd ps sp:=⟨F.len,λA outer s H args us vs Q E hr=>F.run A _ s H _ us vs Q E (hr.mono h)⟩
theorem Env0.make{P:Program}{w:World}{K:PySem.W.Frag}{mg:Str->Option Value}{s:Shared}(e:Env0 P w K mg base A outer s H)(C:Addr)(us:List Value)(kw:List (Str×Value)):
 Env0 P w K mg base (A.under (.builtin "type.__call__" ⟨.ref C::us,kw⟩)) outer s H:=⟨by first|exact e.frames|rfl,e.mod,e.bs,e.bsz,e.funs,e.frf,e.hok,e.bare⟩
section
variable{X:Cx}{pins:List (Addr×Obj)}{σ:St}{H:Hp}{s s':Shared}
theorem Inv.env0(I:Inv X pins σ H s):Env0 X.prog X.w X.K X.mg X.base X.A X.stack s H:=⟨I.ok.frames,I.ok.mod,I.bs,kQ I.ok.bsz I.sz,I.stack,I.stkFree,I.hok,I.bare⟩
theorem Inv.after(I:Inv X pins σ H s)(h:CE X.stack X.prog X.w H s Q u s'):EP X pins σ Q u s':=by(
obtain⟨v,H',os,D,un,N,r,q⟩:=h
obtain⟨O,g,d,t,J⟩:=s'
obtain rfl:J=s.os:=os
exact⟨v,H',I.call      un N D (λb z=>absurd z (by simp)),r,q⟩)
end
def qJK(sp:Sp)(dvs:List V)(E:XK)(t:TA):TE:=λσ H Q=>t σ H λvs H1=>sp (vs++dvs) H1 Q E
def qJL(C:Addr)(m:Str)(sp:Sp)(dvs:List V)(E:XK)(ta:TE)(t:TA):TE:=λσ H Q=>ta σ H λx H1=>∃a dx fs,x=.ref a/\H1 a=some (.ins C dx fs)/\fs.lookup m=none/\t σ H1 λvs H2=>sp (x::(vs++dvs)) H2 Q E
def qMD(C:Addr)(sp:Sp)(dvs:List V)(E:XK)(t:TA):TE:=λσ H Q=>t σ H λvs H1=>∀x dx,H1 x=none->H1 dx=none->dx≠x->sp (.ref x::(vs++dvs)) (upd (upd H1 dx (.own x)) x (.ins C dx [])) (λv H2=>v=.non/\Q (.ref x) H2) E
def yG(K:PySem.W.Frag)(fd:FuncData)(ps:List Str)(ds:List Value):Prop:=∀(s:Shared) (us:List Value),K.In s.heap->(us++ds).length=ps.length->BindsTo s fd ⟨us,[]⟩ (ps.zip (us++ds))
theorem yG.all{K:PySem.W.Frag}{fd:FuncData}{ps:List Str}(h:∀us:List Value,us.length=ps.length->bindArgs fd ⟨us,[]⟩=pure (ps.zip us)):yG K fd ps []:=λs us z hl=>by rw[gN]at hl ⊢;exact .of_eq (h us hl)
def q1W(CX:CXT)(X:Cx)(E:XK):Prop:=∀(pins:List (Addr×Obj)) (σ:St) (H:Hp) (s:Shared) (e:Value) (s':Shared),Inv X pins σ H s->CX X.stack H s E e s'->X.xe e s'
section
variable{X:Cx}{CX:CXT}{k:Nat}{f C:Addr}{fd:FuncData}{ps:List Str}{sp:Sp}{dvs:List V}{ds:List Value}{E:XK}{x m:Str}{p pos apos:Pos}{e o:Expr}{es:List Expr}{ta:TE}{t:TA}
theorem q9M{s:Shared}(F:FnOk X.prog X.w X.K X.mg X.base CX k f fd ps sp)(hr:Room k X.A)(hb:yG X.K fd ps ds)(hd:Vals dvs ds)(hx:q1W CX X E)
 (I:Inv X pins σ H s) (r:Vals vs us) (h:sp (vs++dvs) H Q E):wpAny (model X.prog X.w) X.A (call (.ref f) us) (EP X pins σ Q) X.xe s:=by(
have r2:=r.append hd
have hl:(us++ds).length=ps.length:=by rw[<-r2.length];exact F.len _ _ _ _ h
refine pN (pZ (F.run X.A _ s H _ _ _ Q E hr I.env0 (hb s us I.kIn hl) r2 h) λr s' z=>?_)
cases r with
|error e=>exact hx _ σ H s e s' I z
|ok D=>
 cases D with
 |ret u=>exact I.after z
 |next=>assumption
 |brk=>assumption
 |cont=>assumption)
theorem qZ(F:FnOk X.prog X.w X.K X.mg X.base CX k f fd ps sp)(hr:Room k X.A)(hg:Gl X x)(hm:X.mg x=some (.ref f))(hk:PySem.W.keepIn X.K (.ref f)=true)(hb:yG X.K fd ps ds)(hd:Vals dvs ds)(hx:q1W CX X E)
 (ha:PA X (e::es) t) (hdb:(x==("__debug__":Str))=false:=by decide) (he:starEach (e::es) X.env=(false,eval e X.env)::starEach es X.env:=by rfl) (hpl:(backTo pos (starEach es X.env)).any (·.1)=false:=by rfl):
 PE X (.Call (.Name x p) (e::es) [] pos) (qJK sp dvs E t):=by(
intro pins s σ H Q I h
refine d9 (q3K I hg hm ?_ hdb)
refine cL  I.ok.mod.kin hk (thn (ha pos _ s σ H _ I h) λN D ⟨J,H1,z,r,q⟩=>⟨z.kIn,?_⟩) he hpl
exact q9M F hr hb hd hx z r q)
theorem qY(he:PE X o ta)(c:Cls X.K C)(hm:Meth X.K C m f)(F:FnOk X.prog X.w X.K X.mg X.base CX k f fd ps sp)(hr:Room k X.A)(hb:yG X.K fd ps ds)(hd:Vals dvs ds)(hx:q1W CX X E)(ha:PA X (e::es) t)
 (hst:starEach (e::es) X.env=(false,eval e X.env)::starEach es X.env:=by rfl) (hpl:(backTo pos (starEach es X.env)).any (·.1)=false:=by rfl)
 (ht:eval (.Call (.Attribute o m apos) (e::es) [] pos) X.env=(do
  let ov<-eval o X.env
  standAt apos.atName
  let(f,first)<-holding [ov] (getMethod ov m pl)
  callWith pos f first (backTo pos (starEach (e::es) X.env)) (backToKw pos (keywordEach [] X.env))):=by rfl):
 PE X (.Call (.Attribute o m apos) (e::es) [] pos) (qJL C m sp dvs E ta t):=by(
intro pins s σ H Q I h
refine wP  (thn (he _ s σ H _ I h) λu O J=>?_) ht
obtain⟨x,H1,D,N,a,dx,fs,ex,ea,l,q⟩:=J
subst ex
obtain rfl:u=Value.ref a:=N
refine q1V D ea c hm l ?_
refine cL   I.ok.mod.kin hm.kp (thn (ha pos _ O σ H1 _ D q) λU Z ⟨vs,H2,z,r,S⟩=>⟨z.kIn,?_⟩) hst hpl
exact q9M  (vs:=.ref a::vs) F hr hb hd hx z (.cons rfl r) S)
theorem jB(he:PE X o ta)(c:Cls X.K C)(hm:Meth X.K C m f)(F:FnOk X.prog X.w X.K X.mg X.base CX k f fd ps sp)(hr:Room k X.A)(hb:yG X.K fd ps ds)(hd:Vals dvs ds)(hx:q1W CX X E)
 (ht:eval (.Call (.Attribute o m apos) [] [] pos) X.env=(do
  let ov<-eval o X.env
  standAt apos.atName
  let(f,first)<-holding [ov] (getMethod ov m pl)
  callWith pos f first (backTo pos (starEach [] X.env)) (backToKw pos (keywordEach [] X.env))):=by rfl):
 PE X (.Call (.Attribute o m apos) [] [] pos) (qJL C m sp dvs E ta tNil):=by(
intro pins s σ H Q I h
refine wP  (thn (he _ s σ H _ I h) λu N J=>?_) ht
obtain⟨x,H1,z,D,a,dx,fs,ex,ea,l,q⟩:=J
subst ex
obtain rfl:u=Value.ref a:=D
refine q1V z ea c hm l ?_
exact sZ  z.kIn hm.kp (q9M (us:=[.ref a]) (vs:=[.ref a]) F hr hb hd hx z (.cons rfl .nil) q))
structure Mk(K:PySem.W.Frag)(C f:Addr):Prop where
makes:PySem.W.makesIn K C=true
init:PySem.W.findIn K (.ref C) "__init__"=some (some (.ref f))
fn:PySem.W.isFn K (.ref f)=true
kp:PySem.W.keepIn K (.ref C)=true
theorem qFD{s:Shared}(M:Mk X.K C f)(F:FnOk X.prog X.w X.K X.mg X.base CX k f fd ps sp)(hr:Room (k+1) X.A)(hb:yG X.K fd ps ds)(hd:Vals dvs ds)
 (hx:q1W CX X E) (I:Inv X pins σ H s) (r:Vals vs us)
 (h:∀x dx,H x=none->H dx=none->dx≠x->sp (.ref x::(vs++dvs)) (upd (upd H dx (.own x)) x (.ins C dx [])) (λv H2=>v=.non/\Q (.ref x) H2) E):
 wpAny (model X.prog X.w) X.A (call (.ref C) us) (EP X pins σ Q) X.xe s:=by(
have J:=h (s.heap.objs.size+1) _ (I.hok.fresh (rB _)) (I.hok.fresh (kO _)) (gC (rP _))
have D:=Inv.made (C:=C) I
have r2:Vals (V.ref (s.heap.objs.size+1)::(vs++dvs)) _:=.cons rfl (r.append hd)
have hl:=by have e:=r2.length;rw[F.len _ _ _ _ J]at e;exact e.symm
refine pN (qFB (f:=f) I.kIn M.makes M.init (wZ.mp M.fn) (pZ (F.run _ _ _ _ _ _ _ _ E (hr.make C us [])
 (D.env0.make C us []) (hb _ _ D.kIn hl) r2 J) λr s' z=>?_))
cases r with
|error e=>exact hx pins σ _ _ e s' D z
|ok O=>
 cases O with
 |ret u=>obtain⟨v,H',S,U,Z,N⟩:=D.after z;subst Z;exact⟨U,V.ref _,H',S,rfl,N⟩
 |next=>assumption
 |brk=>assumption
 |cont=>assumption)
theorem q4U(M:Mk X.K C f)(F:FnOk X.prog X.w X.K X.mg X.base CX k f fd ps sp)(hr:Room (k+1) X.A)(hg:Gl X x)(hm:X.mg x=some (.ref C))(hb:yG X.K fd ps ds)(hd:Vals dvs ds)(hx:q1W CX X E)
 (ha:PA X (e::es) t) (hdb:(x==("__debug__":Str))=false:=by decide) (he:starEach (e::es) X.env=(false,eval e X.env)::starEach es X.env:=by rfl) (hpl:(backTo pos (starEach es X.env)).any (·.1)=false:=by rfl):
 PE X (.Call (.Name x p) (e::es) [] pos) (qMD C sp dvs E t):=by(
intro pins s σ H Q I h
refine d9 (q3K I hg hm ?_ hdb)
refine cL  I.ok.mod.kin M.kp (thn (ha pos _ s σ H _ I h) λN D ⟨J,H1,z,r,q⟩=>⟨z.kIn,?_⟩) he hpl
exact qFD M F hr hb hd hx z r q)
end
def PK(X:Cx)(kws:List Keyword)(t:TA):Prop:=∀(pos:Pos) (pins:List (Addr×Obj)) (s:Shared) (σ:St) (H:Hp) (Q:List V->Hp->Prop),Inv X pins σ H s->t σ H Q->wpAny (model X.prog X.w) X.A (evalAll ((backToKw pos (keywordEach kws X.env)).map (·.2))) (AP X pins σ Q) X.xe s
section
variable{X:Cx}{CX:CXT}{k:Nat}{f C:Addr}{fd:FuncData}{ps ks:List Str}{sp:Sp}{E:XK}{x m:Str}{p pos apos kpos:Pos}{e o:Expr}{es:List Expr}{kws:List Keyword}{te ta:TE}{t tk:TA}{nm:Option Str}
theorem qC9:PK X [] tNil:=λz z z z H Q I h=>wpAny_evalAll_nil ⟨[],H,I,.nil,h⟩
theorem q9N(ha:PE X e te)(hr:PK X kws t):PK X (⟨nm,e,kpos⟩::kws) (q8X te t):=by(
intro pos pins s σ H Q I h
show wpAny _ _ (evalAll ((do let v<-eval e _;standAt pos;pure v)::(backToKw pos _).map _)) _ _ s
refine wpAny_evalAll_cons (kI (thn (ha _ s σ H _ I h) λu O ⟨x,H1,D,J,z⟩=>kI (sQ (mO ?_))))
exact thn (hr pos _ O σ H1 _ D z) λU Z ⟨xs,H2,N,r2,S⟩=>⟨x::xs,H2,N,.cons J r2,S⟩)
variable{g:List Value->List Value->List Value}{gV:List V->List V->List V}
end
structure FnScope(N P:List Str)(sc:Scope):Prop where
kind:sc.kind=.function
co:sc.isCoroutine=false
gen:sc.isGenerator=false
nd:N.Nodup
pre:N.take P.length=P
par:∀x∈P,sc.names.lookup x=some .local\/sc.names.lookup x=some .cell
nofree:∀y∈sc.names,y.2≠ .free
theorem q8Y{kindOf:Str->Option NameKind}{x:Str}:∀{binds:List (Str×Value)} {m:Str->Option Value},(∀v,(x,v)∉binds)->bindL kindOf binds m x=m x
| [],_,_=>rfl
|(n,v)::r,m,h=>by
 unfold bindL;rw[q8Y λw hw=>h w (kB _ hw)];split
 .have:x≠n:=by rintro rfl;exact h v kX
  simp[this]
 rfl
theorem q8Z{kindOf:Str->Option NameKind}{x:Str}:∀{binds:List (Str×Value)} {m:Str->Option Value},(∀v,(x,v)∉binds)->bindC kindOf binds m x=m x
| [],_,_=>rfl
|(n,v)::r,m,h=>by
 unfold bindC;rw[q8Z λw hw=>h w (kB _ hw)];split
 .rfl
 have:x≠n:=by rintro rfl;exact h v kX
 simp[this]
theorem q90{kindOf:Str->Option NameKind}{x:Str}{v:Value}:∀{P:List Str} {vs:List Value} {i:Nat} {m:Str->Option Value},P.Nodup->P[i]?=some x->vs[i]?=some v->kindOf x=some .local->bindL kindOf (P.zip vs) m x=some v
| [],_,_,_,_,h,_,_=>by simp at h
|_::_,[],_,_,_,_,h,_=>by simp at h
|p::P,w::vs,0,m,nd,h1,h2,hk=>by simp at h1 h2;subst h1;subst h2;show bindL kindOf ((p,w)::P.zip vs) m p=_;unfold bindL;rw[q8Y λv hv=>(gD.mp nd).1 (sU hv).1,kL hk];simp
|p::P,w::vs,i+1,m,nd,h1,h2,hk=>by show bindL kindOf ((p,w)::P.zip vs) m x=_;unfold bindL;exact q90 (i:=i) (gD.mp nd).2 (by simpa using h1) (by simpa using h2) hk
theorem q91{kindOf:Str->Option NameKind}{x:Str}{v:Value}:∀{P:List Str} {vs:List Value} {i:Nat} {m:Str->Option Value},P.Nodup->P[i]?=some x->vs[i]?=some v->kindOf x≠some .local->bindC kindOf (P.zip vs) m x=some v
| [],_,_,_,_,h,_,_=>by simp at h
|_::_,[],_,_,_,_,h,_=>by simp at h
|p::P,w::vs,0,m,nd,h1,h2,hk=>by simp at h1 h2;subst h1;subst h2;show bindC kindOf ((p,w)::P.zip vs) m p=_;unfold bindC;rw[q8Z λv hv=>(gD.mp nd).1 (sU hv).1,kE hk];simp
|p::P,w::vs,i+1,m,nd,h1,h2,hk=>by show bindC kindOf ((p,w)::P.zip vs) m x=_;unfold bindC;exact q91 (i:=i) (gD.mp nd).2 (by simpa using h1) (by simpa using h2) hk
noncomputable def q01(N:List Str)(vs:List V):St:=vs.map some++List.replicate (N.length-vs.length) none
noncomputable def cxOf(CX:CXT)(P:Program)(w:World)(K:PySem.W.Frag)(mg:Str->Option Value)(base:Heap)(N:List Str)(qual:Str)(scope:Scope)(f:Addr)(cd:Value)(A:Around)(outer:List Env)(s:Shared)(H:Hp)(E:XK):Cx where
prog:=P
w:=w
K:=K
mg:=mg
base:=base
A:=A.deeper (envOfC qual scope s.heap.objs.size f cd)
N:=N
s₀:=s
H₀:=H
env:=envOfC qual scope s.heap.objs.size f cd
outer:=outer
stack:=envOfC qual scope s.heap.objs.size f cd::outer
ex:=[]
calm:=true
fn:=λz=>true
pn:=[]
xe:=λe s'=>wpAny (model P w) (A.deeper (envOfC qual scope s.heap.objs.size f cd)) (leaving (envOfC qual scope s.heap.objs.size f cd) e) (λz s''=>CX outer H s E e s'') (λe' s''=>CX outer H s E e' s'') s'
theorem qB2{sc:Scope}{n:Nat}{x:Str}(h:sc.names.lookup x=some .cell):∃c,(cellsFrom n sc.names []).lookup x=some c:=by have q:=p6 _ n [] (.inl h);exact pH.mp q
theorem q92{P:Program}{w:World}{K:PySem.W.Frag}{mg:Str->Option Value}{f:Addr}{A:Around}{s:Shared}{vs:List V}
 (S:FnScope N ps scope) (hd:A.handled=none) (e0:Env0 P w K mg base A outer s H) (hl:vs.length=ps.length) (r:Vals vs us)
 (x:InCallC s s.heap.objs.size (bindL (envOfC qual scope s.heap.objs.size f cd).kindOf (ps.zip us) λz=>none) (cellsFrom (s.heap.objs.size+1) scope.names []) (bindC (envOfC qual scope s.heap.objs.size f cd).kindOf (ps.zip us) λz=>none) s1):
 Inv (cxOf CX P w K mg base N qual scope f cd A outer s H E) [] (q01 N vs) H s1:=by(
have ad:ps.length<=N.length:=by have:=dL List.length S.pre;rw[gF]at this;lia
obtain⟨h1,tk,rfl,Z⟩:=x.done
have D:∀b:Addr,b∉(cxOf CX P w K mg base N qual scope f cd A outer s H E).ex:=λb z=>absurd (show b∈([]:List Addr)from z) (by simp)
refine⟨⟨e0.mod,S.kind,rfl,rfl,kO _,λy z c h1 h2=>?_,λy I=>?_,λy c _ h=>?_,λU=>hd,xO e0.frames,.inr ⟨rfl,rfl⟩,λb z=>absurd z (D b),e0.bs,e0.bsz,λb U U=>D b,λb z=>absurd z (D b),e0.funs,e0.frf⟩,rfl,e0.bare,Un.kept Z,⟨_,x.toInCall.ns,λi y v h1 h2 h3=>?_⟩,λy c h=>⟨_,x.cell y c h⟩,e0.hok.fresh (kO _),λy c h=>?_,λp O=>absurd (show p∈([]:List (Addr×Obj))from O) (by simp),e0.hok.kept Z,?_⟩
.exact name_of_addr x.apart (dG h1) (dG h2)
.rcases I with I|I
 .exact qB2 I
 exact absurd rfl (S.nofree _ (dG I))
.exact cK (x.above y c (dG h))
.have U:i<vs.length:=by
  unfold q01 at h2;by_cases U:i<vs.length
  .exact U
  rw[dP (by simpa using U)]at h2;rw[cD]at h2;split at h2<;>cases h2
 have ha:vs[i]?=some v:=by
  unfold q01 at h2;rw[wR (by simpa using U),mF]at h2;cases e:vs[i]? with
  |none=>rw[e]at h2;cases h2
  |some a=>rw[e]at h2;cases h2;rfl
 obtain⟨u,hu,rv⟩:=r.get ha;have O:ps[i]?=some y:=by rw[<-S.pre,List.getElem?_take_of_lt (by lia)];exact h1
 have J:ps.Nodup:=by rw[<-S.pre];exact S.nd.sublist (List.take_sublist _ _)
 refine⟨u,rv,?_⟩;rcases S.par y (gL O)with k|k
 .exact .inl ⟨k,q90 J O hu k⟩
 obtain⟨c,e⟩:=qB2 (n:=s.heap.objs.size+1) k;refine .inr ⟨.inl k,c,e,?_⟩;have q:=x.cell y c e;rw[q91 J O hu (by show scope.names.lookup y≠_;rw[k];decide)]at q;exact q
.exact e0.hok.fresh (cK (x.above y c (dG h)))
unfold q01
show _=N.length
rw[kU,hU,g7]
lia)
theorem qD7{P:Program}{w:World}{K:PySem.W.Frag}{mg:Str->Option Value}{k:Nat}{f:Addr}{kV pm:Value}
   {sp:Sp} (lk:K.lookup f=some ⟨oc,od,.func (PySem.W.fnOf name qual params body scope dV kV doc pm an cdv ct),osl⟩) (hcd:PySem.W.codeIn K cdv qual=true) (S:FnScope N ps scope)
 (len:∀vs H Q E,sp vs H Q E->vs.length=ps.length)
 (hbody:∀(A:Around) (outer:List Env) (s:Shared) (H:Hp) (vs:List V) (Q:VK) (E:XK),Room k (A.deeper (envOfC qual scope s.heap.objs.size f cdv))->sp vs H Q E->∃t,PSs (cxOf CX P w K mg base N qual scope f cdv A outer s H E) body t/\t { nx:=λz H'=>Q .non H',rt:=Q } (q01 N vs) H):
 FnOk P w K mg base CX (k+1) f (PySem.W.fnOf name qual params body scope dV kV doc pm an cdv ct) ps sp:=by(
refine⟨len,λA outer s H ad us vs Q E hr U hb r O=>?_⟩
have hl:=len _ _ _ _ O
have KX:=U.mod.kin.keeps λb o e=>(U.bs b o e).1
have ac:=U.mod.nolimit.keeps λb o e=>(U.bs b o e).1
have z:∀y∈ps.zip us,scope.names.lookup y.1=some .local\/(scope.names.lookup y.1=some .cell/\((cellsFrom (s.heap.objs.size+1) _ []).lookup y.1).isSome=true):=λ⟨n,v⟩ hy=>by
 rcases S.par n (sU hy).1 with q|q
 .exact .inl q
 exact .inr ⟨q,p6 _ _ _ (.inl q)⟩
refine codeAny_call_function hr.depth (KX _ _ lk) rfl S.co S.gen rfl (PySem.W.codeRec_of KX hcd) (hb _ _ _ _ ?_)
refine nO S.kind z λenv he s1 x=>?_
subst he
refine⟨ac.keeps x.toInCall.keep,codeAny_func ?_⟩
obtain⟨t,ht,hq⟩:=hbody A outer s H vs Q E (hr.deeper _) O
have I:Inv (cxOf CX P w K mg base N qual scope f cdv A outer s H E) [] _ H s1:=q92 S hr.hd U hl r x
refine dN (ht [] s1 _ H _ I hq) (λfl s' D=>?_) λe s' D=>D
have fin:∀{Z:St} {H':Hp} {v:V} {u:Value},Inv (cxOf CX P w K mg base N qual scope f cdv A outer s H E) [] Z H' s'->RelV v u->Q v H'->CE outer P w H s Q u s':=fun {Z H' v u} J rv q=>⟨v,H',J.os,J.bare,J.base,J.hok,rv,q⟩
cases fl with
|ret u=>obtain⟨v,Z,H',J,rv,q⟩:=D;exact fin J rv q
|next=>obtain⟨Z,H',J,q⟩:=D;exact fin (v:=V.non)  J rfl q
|brk=>obtain⟨_,_,_,q⟩:=D;exact False.elim q
|cont=>obtain⟨_,_,_,q⟩:=D;exact False.elim q)
section
variable{X:Cx}{x:Str}{p pos:Pos}{e:Expr}{es:List Expr}{t:TA}{id T:String}{r:List V->Hp->VK->Prop}
def tCB(r:List V->Hp->VK->Prop)(t:TA):TE:=λσ H Q=>t σ H λvs H1=>r vs H1 Q
theorem jE(hc:q0I X (.builtin id) r)(hg:Gl X x)(hm:X.mg x=none)(hv:bootBuiltins x=some (.builtin id))(ha:PA X (e::es) t)(hn:x≠"__name__":=by decide)(hdb:(x==("__debug__":Str))=false:=by decide)
 (he:starEach (e::es) X.env=(false,eval e X.env)::starEach es X.env:=by rfl) (hpl:(backTo pos (starEach es X.env)).any (·.1)=false:=by rfl):PE X (.Call (.Name x p) (e::es) [] pos) (tCB r t):=by intro pins s σ H Q I h;refine d9 (q1R I hg hm hv ?_ hn hdb);exact PyProof.Rows.callWith_builtin1 (thn (ha pos _ s σ H _ I h) λJ S ⟨D,H1,N,O,z⟩=>hc _ S σ H1 D J Q N O z) he hpl
theorem vE(hc:q0I X (.type T) r)(hg:Gl X x)(hm:X.mg x=none)(hv:bootBuiltins x=some (.type T))(ha:PA X (e::es) t)(hn:x≠"__name__":=by decide)(hdb:(x==("__debug__":Str))=false:=by decide)
 (he:starEach (e::es) X.env=(false,eval e X.env)::starEach es X.env:=by rfl) (hpl:(backTo pos (starEach es X.env)).any (·.1)=false:=by rfl):PE X (.Call (.Name x p) (e::es) [] pos) (tCB r t):=by intro pins s σ H Q I h;refine d9 (q1R I hg hm hv ?_ hn hdb);exact wF (thn (ha pos _ s σ H _ I h) λJ S ⟨D,H1,N,O,z⟩=>hc _ S σ H1 D J Q N O z) he hpl
end
end L2
namespace HT
open PySem PyProof.Rows
noncomputable def lexLt:List Int->List Int->Bool
| [],[]=>false
| [],_::_=>true
|_::_,[]=>false
|x::xs,y::ys=>if x=y then lexLt xs ys else decide (x<y)
theorem qCA(x y:Int)(xs ys:List Int):lexLt (x::xs) (y::ys)=if x=y then lexLt xs ys else decide (x<y):=rfl
theorem q89:lexLt [] []=false:=rfl
theorem q6X(y:Int)(ys:List Int):lexLt [] (y::ys)=true:=rfl
theorem q6Y(x:Int)(xs:List Int):lexLt (x::xs) []=false:=rfl
theorem qFE(A:Around)(s:Shared)(a:Int)(t:Tok)(c:Int)(u:Tok):∃e,SeqAt.EqAt A s (.int a t) (.int c u) e/\(e=true↔a=c):=⟨(a==c),nP a t c u,by simp⟩
theorem qFF(A:Around)(s:Shared)(a:Int)(t:Tok)(c:Int)(u:Tok)(prog:Program)(w:World)(E:Value->Shared->Prop)(Q:Value->Shared->Prop)(h:Q (.bool (decide (a<c))) s):
 wpAny (model prog w) A (richCompare .Lt (.int a t) (.int c u)) Q E s:=(PyProof.Rows.lt_int h)
section
open PySem.SeqAt
open PySem.AutoSeq1 (wpAny_loadPart')
open PySem.MeetsSeq PySem.MeetsSeq2 PySem.MeetsSeq3
theorem q8A(l b:Addr)(items items2:Array Value)(n n2:Nat)(dd dd2:Option Addr)(sl sl2:Array (Option Value))(ns ms:List Int)(hi:IntsAre items.toList ns)(hj:IntsAre items2.toList ms):
 Meets (Builtin.«tuple.__lt__» ⟨[.ref l,.ref b],[]⟩)
  (λz R s=>s.heap.get? l=some { cls:=.type "tuple",dict:=dd,data:=.seq items n,slots:=sl }/\s.heap.get? b=some { cls:=.type "tuple",dict:=dd2,data:=.seq items2 n2,slots:=sl2 }/\R (.ok (.ret (.bool (lexLt ns ms)))) s):=.of_wp λprog w A R s h=>by(
 obtain⟨hp,g,d,tk,os⟩:=s;obtain⟨hl,hb,h⟩:=h;have f2:=AutoSeq1.sub_tuple_tuple;have z1:items.size=ns.length:=by rw[<-hi.length];simp
 have z2:items2.size=ms.length:=by rw[<-hj.length];simp
 wp_walk using xF hl,xF hb,wpAny_forIn_list _ (λrest b s'=>b.1=none/\s'=⟨hp,g,d,tk,os⟩/\∃(vs ws:List Value) (ns' ms':List Int),rest=vs.zip ws/\IntsAre vs ns'/\IntsAre ws ms'/\ns'.length+items2.size=ms'.length+items.size/\R (.ok (.ret (.bool (lexLt ns' ms')))) ⟨hp,g,d,tk,os⟩) _
 case turn=>
  rintro⟨y,x⟩ rest b s' ⟨hb',rfl,vs,ws,ns',ms',hz,hvi,hwi,hlen,hR⟩
  cases hvi with
  |nil=>rw[List.zip_nil_left]at hz;cases hz
  |cons a t hvi'=>
   cases hwi with
   |nil=>rw[List.zip_nil_right]at hz;cases hz
   |cons c u hwi'=>
    rw[aI]at hz;injection hz with hyx hrest
    injection hyx with hy hx
    subst hy hx;rw[qCA]at hR;simp only[mP]at hlen;obtain⟨e,he,hiff⟩:=qFE A.in1 ⟨hp,g,d,tk,os⟩ a t c u;refine kI (he prog w _ _ ?_);cases e with
    |true=>
     rw[kL (hiff.mp rfl)]at hR;wp_walk
     exact⟨rfl,rfl,_,_,_,_,hrest,hvi',hwi',by lia,hR⟩
    |false=>
     rw[kE (λq=>absurd (hiff.mpr q) kZ)]at hR;have hri:=qFF A.in1 ⟨hp,g,d,tk,os⟩ a t c u prog w;wp_walk using hri
     exact⟨_,rfl,by simpa using hR⟩
 case fin=>
  rintro⟨b1,b2⟩ s' ⟨hb',rfl,vs,ws,ns',ms',hz,hvi,hwi,hlen,hR⟩
  simp only at hb';subst hb';have hv:lexLt ns' ms'=decide (items.size<items2.size):=by
   cases hvi with
   |nil=>
    cases hwi with
    |nil=>simp only[wV]at hlen;rw[q89];exact(hX (by lia)).symm
    |cons c u hw=>simp only[wV,mP]at hlen;rw[q6X];exact(hG (by lia)).symm
   |cons a t hv=>
    cases hwi with
    |nil=>simp only[wV,mP]at hlen;rw[q6Y];exact(hX (by lia)).symm
    |cons c u hw=>rw[aI]at hz;cases hz
  rw[hv]at hR;wp_walk
  exact⟨_,rfl,by simpa[Builtin.Tuple.tupleCompareSizes]using hR⟩
 case h=>exact⟨rfl,rfl,items.toList,items2.toList,ns,ms,rfl,hi,hj,by lia,h⟩)
end
section
variable{prog:Program}{w:World}{A:Around}{E:Value->Shared->Prop}{s:Shared}
theorem lt_tupInts{l b:Addr}{ns:List Int}(hl:IsTup s.heap l items)(hb:IsTup s.heap b items2)(hi:IntsAre items.toList ns)(hj:IntsAre items2.toList ms)
 (hu:A.units<cLine) (h:Q (.bool (lexLt ns ms)) s):wpAny (model prog w) A (compareOp .Lt (.ref l) (.ref b)) Q E s:=by(
obtain⟨⟨U,S,J,O⟩,ho,hc,n,hd⟩:=id hl
obtain⟨⟨N,D,I,z⟩,ho2,hc2,n2,hd2⟩:=id hb
simp only at hc hd hc2 hd2
subst hc hd hc2 hd2
exact richCompare_meets_room (op:=.Lt) ⟨_,ho,rfl⟩ ⟨_,ho2,rfl⟩ PySem.F.slot_tuple_lt PySem.F.entry_tuple_lt (PySem.F.args_tuple_lt_2 _ _) (q8A l b _ _ n n2 S D O z ns ms hi hj)
 ⟨ho,ho2,show Value.bool _≠Value.notImplemented/\Q _ s from⟨(λx=>nomatch x),h⟩⟩ hu)
end
end HT
namespace L2
open PySem PySem.Spec PyProof.Rows
noncomputable def ixN(n:Nat)(i:Int):Option Nat:=if 0<=i then(if i<n then some i.toNat else none)else if-(n:Int)<=i then some (i+n).toNat else none
noncomputable def atI{α:Type}(xs:List α)(i:Int):Option α:=(ixN xs.length i).bind λj=>xs[j]?
theorem qD8{n:Nat}{i:Int}{j:Nat}(h:ixN n i=some j):seqIndex? i n=some j/\j<n/\-(n:Int)<=i/\i<n:=by(
unfold ixN at h
by_cases z:0<=i
.rw[kL z]at h;by_cases h1:i<n
 .rw[kL h1]at h;have e:=mB h;exact⟨by rw[xP z h1,e],by lia,by lia,h1⟩
 rw[kE h1]at h;lia
rw[kE z]at h
by_cases h1:-(n)<=i
.rw[kL h1]at h;have e:=mB h;exact⟨by rw[lW (by lia) h1,e],by lia,h1,by lia⟩
rw[kE h1]at h;lia)
theorem q9O{α:Type}{xs:List α}{i:Int}{v:α}(h:atI xs i=some v):∃j,seqIndex? i xs.length=some j/\xs[j]?=some v/\j<xs.length/\-(xs.length:Int)<=i/\i<xs.length:=by(
unfold atI at h
cases e:ixN _ i with
|none=>rw[e]at h;cases h
|some j=>rw[e]at h;obtain⟨h1,h2,D,z⟩:=qD8 e;exact⟨j,h1,h,h2,D,z⟩)
theorem yH{α:Type}{xs:List α}{j:Nat}{v:α}(h:xs[j]?=some v):atI xs (j:Int)=some v:=by
 have z:=(kC.mp h).1;have e:ixN xs.length (j)=some j:=by unfold ixN;simp_all
 unfold atI;rw[e];exact h
def qHR(b:Expr):Prop:=∀o i,subscripted b false o i=operate [o,i] (getItem o i)
def IxR(X:Cx)(r:R2):Prop:=∀(value slice:Expr) (pins:List (Addr×Obj)) (s:Shared) (σ:St) (H:Hp) (x y:V) (v u:Value) (Q:VK),Inv X pins σ H s->RelV x v->RelV y u->r x y H Q->subscripted slice false v u=operate [v,u] (getItem v u)->wpAny (model X.prog X.w) X.A (subscriptTail value slice v u) (EP X pins σ Q) X.xe s
def MtR(X:Cx)(id:String)(r:V->List V->Hp->VK->Prop):Prop:=∀(pins:List (Addr×Obj)) (s:Shared) (σ:St) (H:Hp) (x:V) (xs:List V) (v:Value) (us:List Value) (Q:VK),Inv X pins σ H s->RelV x v->Vals xs us->r x xs H Q->wpAny (model X.prog X.w) X.A (call (.builtin id) (v::us)) (EP X pins σ Q) X.xe s
section
variable{X:Cx}{a b:Expr}{ta tb:TE}{pos:Pos}
theorem qO{r:R2}(hr:IxR X r)(ha:PE X a ta)(hb:PE X b tb)(hs:qHR b):PE X (.Subscript a b pos) (tOp r ta tb):=by intro pins s σ H Q I h;exact Subscript_ (binT ha hb I h λv u N x y H2 D z J q=>hr a b _ N σ H2 x y v u Q D z J q (hs _ _))
def rIxL(K:PySem.W.Frag):R2:=λx y H Q=>∃p xs i v,x=.ref p/\y=.int i/\SqL K H p xs/\atI xs i=some v/\Q v H
def rIxT(K:PySem.W.Frag):R2:=λx y H Q=>∃p xs i v,x=.ref p/\y=.int i/\SqT K H p xs/\atI xs i=some v/\Q v H
theorem jD:IxR X (rIxL X.K):=by(
intro value N pins s σ H x y v u Q I rx ry h Z
obtain⟨p,xs,i,z,rfl,rfl,hq,he,q⟩:=h
cases rx
obtain⟨t,rfl⟩:=ry
obtain⟨D,r,O,hz⟩:=I.list hq
obtain⟨j,h1,h2,h3,h4,h5⟩:=q9O he
obtain⟨w,ew,J⟩:=r.get h2
have hl:=r.length
have hn:=q6U
have fin:EP X pins σ Q w s:=⟨z,H,I,J,q⟩
by_cases U:0<=i
.have S:i.toNat=j:=by rw[xP U h5]at h1;exact mB h1
 exact item_listR O.isList U (by lia) (by rw[S];simpa using ew) fin Z
have S:(i+(D.toArray.size:Int)).toNat=j:=by rw[lW (by lia) h4]at h1;rw[mL,<-hl];exact mB h1
exact lY (x:=w) O.isList.typeIs slot_list_getitem.lookup
 (lZ  O.isList (by lia) (by rw[mL]<;>lia) (by lia) (by rw[S];simpa using ew) ⟨rfl,fin⟩) Z)
theorem qW:IxR X (rIxT X.K):=by(
intro value J pins s σ H x y v u Q I rx ry h O
obtain⟨p,xs,i,z,rfl,rfl,hq,U,q⟩:=h
cases rx
obtain⟨t,rfl⟩:=ry
obtain⟨Z,r,N,hz⟩:=I.tuple hq
obtain⟨j,h1,h2,h3,h4,h5⟩:=q9O U
obtain⟨w,S,D⟩:=r.get h2
have hl:=r.length
have hn:=q6U
have fin:EP X _ σ Q w s:=⟨z,H,I,D,q⟩
exact lY  N.typeIs slot_tuple_getitem.lookup
 (getItem_tuple   N (by lia) (by lia) (by rw[mL,<-hl];exact h1) (by simpa using S) ⟨rfl,fin⟩) O)
theorem qCB(its:List Value)(n j:Nat)(u:Value):Obj.mapSeq (·.setIfInBounds j u) { cls:=.type "list",data:=.seq its.toArray n } = { cls:=.type "list",data:=.seq (its.set j u).toArray n }:=by simp[Obj.mapSeq]
theorem Inv.lst{pins:List (Addr×Obj)}{σ:St}{H:Hp}{s:Shared}{p:Addr}{xs:List V}(I:Inv X pins σ H s)(h:H p=some (.lst xs)):
 ∃(its:List Value) (n:Nat),Vals xs its/\s.heap.get? p=some { cls:=.type "list",data:=.seq its.toArray n }/\xs.length<=sizeLine:=by obtain⟨z,its,n,r,e⟩:=I.hok p _ h;exact⟨its,n,r,e,z⟩
theorem Inv.lstUpd{s:Shared}{p:Addr}{its its':List Value}{n:Nat}{f:Obj->Obj}(I:Inv X pins σ H s)(h:H p=some (.lst xs))
 (ho:s.heap.get? p=some { cls:=.type "list",data:=.seq its.toArray n }) (hf:f { cls:=.type "list",data:=.seq its.toArray n } = { cls:=.type "list",data:=.seq its'.toArray n' }) (r:Vals ys its') (hz:ys.length<=sizeLine) (t:Nat):
 Inv X pins σ (upd H p (.lst ys)) { s with heap:=s.heap.update p f,toks:=t }:=by
 have e:(s.heap.update p f).get? p=some { cls:=.type "list",data:=.seq its'.toArray n' }:=by rw[rO f ho (by rw[hf]<;>rfl),hf]
 refine I.write   (by rw[h];trivial) (.inl rfl) (λb u z q=>(mJ _ _ (cC z)).trans q) ⟨_,e⟩ ?_;exact⟨hz,its',n',r,e⟩
def qME:V->V->V->Hp->(Hp->Prop)->Prop:=λo i v H Q=>∃p xs k j,o=.ref p/\i=.int k/\H p=some (.lst xs)/\ixN xs.length k=some j/\Q (upd H p (.lst (xs.set j v)))
theorem u6:PSet X qME:=by(
intro pins s σ H o i v ov iv u Q I ro ri rv h
obtain⟨p,xs,k,j,rfl,rfl,S,hj,q⟩:=h
cases ro
obtain⟨t,rfl⟩:=ri
obtain⟨z,n,r,D,hz⟩:=I.lst S
obtain⟨h1,h2,O,U⟩:=qD8 hj
have hl:=r.length
have hn:=q6U
have Z:=I.lstUpd S D (qCB z n j u) (r.set rv j) (by rw[gK];exact hz) s.toks
by_cases N:0<=k
.have J:=by rw[xP N U]at h1;exact mB h1
 exact PySem.W.ki_setAt D N (by lia) (by rw[mL,<-hl];exact U) (by rw[J];exact⟨_,Z,q⟩)
have J:(k+(z.toArray.size:Int)).toNat=j:=by rw[lW (by lia) O]at h1;rw[mL,<-hl];exact mB h1
exact PySem.W.ki_setBack D (by lia) (by rw[mL,<-hl];exact O) (by lia) (by rw[J];exact⟨_,Z,q⟩))
noncomputable def q0K:V->Bool
| .non=>true
| .bl _=>true
| .int _=>true
| .str _=>true
|_=>false
noncomputable def eqV:V->V->Bool
| .non,.non=>true
| .bl a,.bl b=>a==b
| .bl a,.int b=>(if a then 1 else 0)==b
| .int a,.bl b=>a==(if b then 1 else 0)
| .int a,.int b=>a==b
| .str a,.str b=>a==b
|_,_=>false
theorem qFG{s:Shared}{y x:V}{v:Value}(ry:RelV y u)(rx:RelV x v)(fy:q0K y=true)(fx:q0K x=true):SeqAt.EqAt A s u v (eqV y x):=by(
cases y with
|non=>
 cases ry;cases x with
 |non=>cases rx;exact xG _
 |bl b=>cases rx;exact SeqAt.EqAt.none_bool b
 |int b=>obtain⟨t,rfl⟩:=rx;exact SeqAt.EqAt.none_int b t
 |str b=>obtain⟨t,rfl⟩:=rx;exact SeqAt.EqAt.none_str b t
 |_=>exact absurd (show false=true from fx) kZ
|bl a=>
 cases ry;cases x with
 |non=>cases rx;exact SeqAt.EqAt.bool_none a
 |bl b=>cases rx;exact SeqAt.EqAt.bool_bool a b
 |int b=>obtain⟨t,rfl⟩:=rx;exact SeqAt.EqAt.bool_int a b t
 |str b=>obtain⟨t,rfl⟩:=rx;exact SeqAt.EqAt.bool_str a b t
 |_=>exact absurd (show false=true from fx) kZ
|int a=>
 obtain⟨z,rfl⟩:=ry;cases x with
 |non=>cases rx;exact SeqAt.EqAt.int_none a z
 |bl b=>cases rx;exact SeqAt.EqAt.int_bool a z b
 |int b=>obtain⟨t,rfl⟩:=rx;exact nP a z b t
 |str b=>obtain⟨t,rfl⟩:=rx;exact aF a z b t
 |_=>exact absurd (show false=true from fx) kZ
|str a=>
 obtain⟨z,rfl⟩:=ry;cases x with
 |non=>cases rx;exact SeqAt.EqAt.str_none a z
 |bl b=>cases rx;exact SeqAt.EqAt.str_bool a z b
 |int b=>obtain⟨t,rfl⟩:=rx;exact aG a z b t
 |str b=>obtain⟨t,rfl⟩:=rx;exact SeqAt.EqAt.str_str a z b t
 |_=>exact absurd (show false=true from fx) kZ
|_=>exact absurd (show false=true from fy) kZ)
noncomputable def eqU(x:V)(u:Value):Bool:=match u with
| .none=>eqV .non x
| .bool b=>eqV (.bl b) x
| .int i _=>eqV (.int i) x
| .str z _=>eqV (.str z) x
|_=>false
theorem qFH{x y:V}(r:RelV y u)(f:q0K y=true):eqU x u=eqV y x:=by(
cases y with
|non=>cases r;rfl
|bl b=>cases r;rfl
|int i=>obtain⟨t,rfl⟩:=r;rfl
|str z=>obtain⟨t,rfl⟩:=r;rfl
|_=>exact absurd (show false=true from f) kZ)
theorem q4V{x:V}:∀{xs:List V} {us:List Value},Vals xs us->xs.all q0K=true->us.any (eqU x)=xs.any λy=>eqV y x
|_,_,.nil,_=>rfl
|y::xs,u::us,.cons r t,f=>by rw[fN,gE]at f;rw[cA,cA,qFH r f.1,q4V t f.2]
theorem q2I{s:Shared}{x:V}{v:Value}(rx:RelV x v)(fx:q0K x=true):∀{xs:List V} {us:List Value},Vals xs us->xs.all q0K=true->∀u∈us,SeqAt.EqAt A s u v (eqU x u)
|_,_,.nil,_=>λu hu=>by cases hu
|y::xs,u::us,.cons r t,f=>λu' hu=>by
 rw[fN,gE]at f;rcases kN.mp hu with rfl|hu
 .rw[qFH r f.1];exact qFG r rx f.1 fx
 exact q2I rx fx t f.2 u' hu
noncomputable def inV(x:V)(xs:List V):Bool:=xs.any λy=>eqV y x
def rIn(K:PySem.W.Frag)(neg:Bool):R2:=λx y H Q=>∃p xs,y=.ref p/\(SqL K H p xs\/SqT K H p xs)/\q0K x=true/\xs.all q0K=true/\Q (.bl (if neg then !inV x xs else inV x xs)) H
theorem q5H:OpR X (compareOp .In) (rIn X.K false):=by(
intro pins s σ H x y v u Q I O U h
obtain⟨p,xs,rfl,D,fx,fs,q⟩:=h
cases U
rcases D with D|D
.obtain⟨z,r,N,S⟩:=I.list D;refine SeqAt.in_listAt _ N.isList (λw J=>q2I O fx r fs w (by simpa using J)) ⟨.bl _,H,I,rfl,?_⟩;rw[show z.toArray.any _=z.any (eqU x) by simp,q4V r fs];exact q
obtain⟨z,r,N,S⟩:=I.tuple D
refine SeqAt.in_tupleAt _ N (λw J=>q2I O fx r fs w (by simpa using J)) ⟨.bl _,H,I,rfl,?_⟩
rw[show z.toArray.any _=z.any (eqU x) by simp,q4V r fs]
exact q)
theorem q4W:OpR X (compareOp .NotIn) (rIn X.K true):=by(
intro pins s σ H x y v u Q I O U h
obtain⟨p,xs,rfl,D,fx,fs,q⟩:=h
cases U
rcases D with D|D
.obtain⟨z,r,N,S⟩:=I.list D;refine SeqAt.notIn_listAt _ N.isList (λw J=>q2I O fx r fs w (by simpa using J)) ⟨.bl _,H,I,rfl,?_⟩;rw[show z.toArray.any _=z.any (eqU x) by simp,q4V r fs];exact q
obtain⟨z,r,N,S⟩:=I.tuple D
refine SeqAt.notIn_tupleAt _ N (λw J=>q2I O fx r fs w (by simpa using J)) ⟨.bl _,H,I,rfl,?_⟩
rw[show z.toArray.any _=z.any (eqU x) by simp,q4V r fs]
exact q)
theorem jJ:q0I X (.builtin "len") (λxs H Q=>∃p ys,xs=[.ref p]/\(SqL X.K H p ys\/SqT X.K H p ys)/\Q (.int ys.length) H):=by(
intro pins s σ H xs Z Q I r h
obtain⟨p,ys,rfl,D,q⟩:=h
obtain⟨u,rfl,U⟩:=q00 r
cases U
have hn:=q6U
rcases D with D|D
.obtain⟨N,J,O,S⟩:=I.list D;have z:=J.length;exact Calls.call_len_list O.isList (by simp only[mL]<;>lia) ⟨.int _,H,I.tok _,⟨s.toks+1,by rw[mL,z]⟩,q⟩
obtain⟨N,J,O,S⟩:=I.tuple D
have z:=J.length
exact len_tuple O (by simp only[mL]<;>lia) ⟨.int _,H,I.tok _,⟨s.toks+1,by rw[mL,z]⟩,q⟩)
theorem q9P:q0I X (.type "list") (λxs H Q=>∃p ys,xs=[.ref p]/\(SqL X.K H p ys\/SqT X.K H p ys)/\∀l,H l=none->Q (.ref l) (upd H l (.lst ys))):=by(
intro pins s σ H xs us Q I r h
obtain⟨p,ys,rfl,S,q⟩:=h
obtain⟨u,rfl,rx⟩:=q00 r
cases rx
have fin:∀(z:List _),Vals ys z->ys.length<=sizeLine->∀(h':Heap) (J:Nat),(∀b o',s.heap.get? b=some o'->h'.get? b=some o')->h'.get? _=some _->EP X _ σ Q _ _:=λz D N h' J kp e=>⟨.ref _,_,I.laid (t':=s.toks) kp (kO _) (show jQ _ X.w _ h' _ (.lst ys)from⟨N,z,J,D,e⟩),rfl,q _ (I.hok.fresh (kO _))⟩
rcases S with S|S
.obtain⟨z,D,pl,N⟩:=I.list S;have O:=D.length;obtain⟨o,Z,U,n,hd⟩:=pl.isList;exact call_list_seq p (.inl rfl) Z U hd (λh' J kp e=>fin z D N h' J kp e) (by simp only[mL]<;>lia)
obtain⟨z,D,pl,N⟩:=I.tuple S
have O:=D.length
obtain⟨o,Z,U,n,hd⟩:=pl
exact call_list_seq p (.inr rfl) Z U hd (λh' J kp e=>fin z D N h' J kp e) (by simp only[mL]<;>lia))
def tyV(K:PySem.W.Frag)(T:String)(x:V)(H:Hp):Prop:=match x with
| .str _=>T="str"
| .int _=>T="int"
| .ref p=>(T="list"/\∃xs,SqL K H p xs)\/(T="tuple"/\∃o,K.lookup p=some o/\o.cls=.type "tuple"/\o.dict=none)\/(T="dict"/\((∃kvs,H p=some (.dK kvs))\/∃kvs,H p=some (.dT kvs)))\/(T="set"/\∃S n,H p=some (.set S n))
|_=>False
theorem qFI{s:Shared}{T:String}{x:V}{v:Value}(I:Inv X pins σ H s)(r:RelV x v)(ty:tyV X.K T x H):
 s.TypeIs v T/\∀a,v=.ref a->∃ob,s.heap.get? a=some ob/\ob.dict=none:=by(
cases x with
|str z=>obtain⟨t,rfl⟩:=r;cases(show T="str" from ty);exact⟨typeIs_str s z t,λU e=>nomatch e⟩
|int i=>obtain⟨t,rfl⟩:=r;cases(show T="int" from ty);exact⟨eT s i t,λU e=>nomatch e⟩
|ref p=>
 cases r;rcases ty with⟨rfl,xs,hq⟩|⟨rfl,o,hk,hc,J⟩|⟨rfl,hk⟩|⟨rfl,S,n,hk⟩
 .obtain⟨O,_,N,_⟩:=I.list hq;refine⟨N.isList.typeIs,λa e=>?_⟩;cases e;obtain⟨o,n,e,c,J,_⟩:=N;exact⟨o,e,J⟩
 .refine⟨⟨o,I.kIn p o hk,hc⟩,λa e=>?_⟩;cases e;exact⟨o,I.kIn _ o hk,J⟩
 .have z:∃o,s.heap.get? p=some o/\o.ExactDict:=by
   rcases hk with⟨kvs,hk⟩|⟨kvs,hk⟩
   .obtain⟨_,_,_,_,o,_,_,e,ex,_⟩:=I.hok p _ hk;exact⟨o,e,ex⟩
   obtain⟨_,_,_,_,o,_,_,e,ex,_⟩:=I.hok p _ hk;exact⟨o,e,ex⟩
  obtain⟨o,e,ex⟩:=z;refine⟨⟨o,e,ex.1⟩,λa D=>?_⟩;cases D;exact⟨o,e,ex.2.1⟩
 obtain⟨o,_,_,_,e,ex,_⟩:=I.hok p _ hk;refine⟨⟨o,e,ex.1⟩,λa D=>?_⟩;cases D;exact⟨o,e,ex.2.1⟩
|_=>exact False.elim ty)
def tBM0(K:PySem.W.Frag)(T:String)(r:V->List V->Hp->VK->Prop)(to:TE):TE:=λσ H Q=>to σ H λx H1=>tyV K T x H1/\r x [] H1 Q
def tBM(K:PySem.W.Frag)(T:String)(r:V->List V->Hp->VK->Prop)(to:TE)(t:TA):TE:=λσ H Q=>to σ H λx H1=>tyV K T x H1/\t σ H1 λxs H2=>r x xs H2 Q
variable{o e:Expr}{es:List Expr}{to:TE}{t:TA}{name:Str}{apos cpos:Pos}{T id:String}{r:V->List V->Hp->VK->Prop}
theorem qK8(pa:PlainAttrs T)(slot:Slot T name id)(hty:typeOf (.builtin id)=pure (.type "method_descriptor"))(hm:MtR X id r)(ho:PE X o to)
 (hbase:attributeBase o name X.env (eval o X.env)=eval o X.env:=by rfl) (hline:(apos.endLine==cpos.line)=true:=by rfl):PE X (.Call (.Attribute o name apos) [] [] cpos) (tBM0 X.K T r to):=by(
intro pins s σ H Q I h
refine wpAny_Call_method0_late hbase hline (thn (ho _ s σ H _ I h) λv O J=>?_)
obtain⟨x,H1,z,D,ty,N⟩:=J
obtain⟨h1,h2⟩:=qFI z D ty
exact⟨T,id,pa,slot,hty,h1,h2,wG rfl (PySem.evalArgs_none (hm _ O σ H1 x [] v [] Q z D .nil N))⟩)
theorem q2J(pa:PlainAttrs T)(slot:Slot T name id)(hty:typeOf (.builtin id)=pure (.type "method_descriptor"))(hm:MtR X id r)(ho:PE X o to)(ha:PA X (e::es) t)
 (hbase:attributeBase o name X.env (eval o X.env)=eval o X.env:=by rfl)
 (hfew:((backTo cpos (starEach (e::es) X.env)).all (λx=>!x.1)&&(backToKw cpos (keywordEach [] X.env)).all (λx=>x.1.isSome)
  &&decide ((e::es).length+([]:List Keyword).length+(if([]:List Keyword).isEmpty then 0 else 1)<30))=true:=by rfl)
 (hline:(apos.endLine==cpos.line)=true:=by rfl) (hs:starEach (e::es) X.env=(false,eval e X.env)::starEach es X.env:=by rfl) (hplain:(backTo cpos (starEach es X.env)).any (·.1)=false:=by rfl):
 PE X (.Call (.Attribute o name apos) (e::es) [] cpos) (tBM X.K T r to t):=by(
intro pins s σ H Q I h
refine wpAny_Call_method_late hbase hfew hline rfl (thn (ho _ s σ H _ I h) λv s1 N=>?_)
obtain⟨x,H1,D,J,ty,O⟩:=N
obtain⟨h1,h2⟩:=qFI D J ty
refine⟨T,id,pa,slot,hty,h1,h2,?_⟩
have z:=ha cpos _ s1 σ H1 _ D O
rw[hs]at z ⊢
refine wG (by assumption) (c7 ?_)
exact thn z λU s2 ⟨S,H2,Z,r2,q2⟩=>hm _ s2 σ H2 x S v U Q Z J r2 q2)
end
def MtM(X:Cx)(id:String)(r:V->List V->Hp->VK->Prop):Prop:=∀(pins:List (Addr×Obj)) (s:Shared) (σ:St) (H:Hp) (x:V) (xs:List V) (v:Value) (us:List Value) (Q:VK),Inv X pins σ H s->RelV x v->Vals xs us->r x xs H Q->wpAny (model X.prog X.w) X.A (call (.builtin id) (v::us)) (EP X pins σ Q) X.xe s
theorem Vals.one{x:V}(h:Vals [x] us):∃u,us=[u]/\RelV x u:=by
 cases h with
 |cons r t=>cases t;exact⟨_,rfl,r⟩
theorem Vals.zero:∀{us:List Value},Vals [] us->us=[]
|_,.nil=>rfl
theorem Vals.rep(h:Vals xs us):∀k:Nat,Vals (List.replicate k xs).flatten (List.replicate k us).flatten
|0=>.nil
|k+1=>by rw[rJ,rJ,cW,cW];exact Vals.append h (Vals.rep h k)
theorem q93(its:List Value):∀(k:Nat) (acc:List Value),List.foldl (λx1 x2=>x1++x2) acc.toArray (List.replicate k its.toArray)=(acc++(List.replicate k its).flatten).toArray
|0,acc=>by simp
|k+1,acc=>by
 have e:acc.toArray++its.toArray=(acc++its).toArray:=by simp
 have z:(acc++its)++(List.replicate k its).flatten=acc++(List.replicate (k+1) its).flatten:=by rw[rJ,cW,wW]
 rw[<-z,<-q93 its k (acc++its),<-e,rJ,xH]
section
variable{X:Cx}{pins:List (Addr×Obj)}{σ:St}{H:Hp}{s:Shared}{l b:Addr}{xs ys zs:List V}
theorem Inv.lset{its its':List Value}{n:Nat}{f:Array Value->Array Value}(I:Inv X pins σ H s)(hH:H l=some (.lst xs))
 (e:s.heap.get? l=some { cls:=.type "list",data:=.seq its.toArray n }) (hf:f its.toArray=its'.toArray) (hv:Vals ys its') (hz:ys.length<=sizeLine):
 Inv X pins σ (upd H l (.lst ys)) { s with heap:=s.heap.update l (Obj.mapSeq f),toks:=t' }:=by(
have q:=PySem.IsL.update e f
rw[hf]at q
refine I.write   (by rw[hH];exact trivial) (.inl rfl) (λJ u z D=>(mJ _ _ (cC z)).trans D) ⟨_,q⟩ ?_
exact⟨hz,its',_,hv,q⟩)
theorem Inv.lnew(I:Inv X pins σ H s)(hv:Vals ys its)(hz:ys.length<=sizeLine):
 Inv X pins σ (upd H s.heap.objs.size (.lst ys)) { s with heap:=s.heap.push { cls:=.type "list",data:=.seq its.toArray },toks:=t' }:=I.laid (λz z q=>kM _ q) (kO _) ⟨hz,its,0,hv,mZ _ rfl⟩
theorem Inv.fresh(I:Inv X pins σ H s):H s.heap.objs.size=none:=I.hok.fresh (kO _)
theorem Inv.lstM(I:Inv X pins σ H s)(hH:H l=some (.lst xs)):xs.length<=sizeLine/\∃(its:List Value) (n:Nat),Vals xs its/\xs.length=its.length/\s.heap.get? l=some { cls:=.type "list",data:=.seq its.toArray n }:=by obtain⟨z,its,n,r,e⟩:=I.hok l _ hH;exact⟨z,its,n,r,r.length,e⟩
theorem qB3{n:Nat}(h:n<=sizeLine):Builtin.List.listTooLong n=false:=by exact hX (by lia)
end
section
variable{X:Cx}
def qHS:V->List V->Hp->VK->Prop:=λx vs H Q=>∃l xs y,x=.ref l/\vs=[y]/\H l=some (.lst xs)/\xs.length<sizeLine/\Q .non (upd H l (.lst (xs++[y])))
theorem uP:MtM X "list.append" qHS:=by(
intro pins s σ H x Z v us Q I S J h
obtain⟨l,xs,y,rfl,rfl,D,U,q⟩:=h
cases S
obtain⟨u,rfl,N⟩:=J.one
obtain⟨z,O,n,r,hl,e⟩:=I.lstM D
refine aJ F.slot_list_append ⟨_,e,rfl⟩ F.entry_list_append (F.args_list_append_2 _ _) (PySem.list_append l _ n u (by simp_all)) ⟨e,?_⟩
refine⟨.non,_,I.lset  D e (by simp) (r.append (.cons N .nil)) ?_,rfl,q⟩
rw[kU,gM]
lia)
def qHT:V->List V->Hp->VK->Prop:=λx vs H Q=>∃l b xs zs,x=.ref l/\vs=[.ref b]/\H l=some (.lst xs)/\H b=some (.lst zs)/\xs.length+zs.length<=sizeLine/\Q .non (upd H l (.lst (xs++zs)))
theorem q5I:MtM X "list.extend" qHT:=by(
intro pins s σ H x vs v us Q I rx rv h
obtain⟨l,b,xs,zs,rfl,rfl,S,hB,hz,q⟩:=h
cases rx
obtain⟨u,rfl,Z⟩:=rv.one
cases Z
obtain⟨z,N,n,r,hl,e⟩:=I.lstM S
obtain⟨z2,D,n2,r2,U,e2⟩:=I.lstM hB
have O:N.toArray.size+D.toArray.size<=sizeLine:=by simp_all
have J:¬(!N.toArray.isEmpty&&Builtin.List.listTooLong (N.toArray.size+D.toArray.size))=true:=by rw[qB3 O,eU];exact kZ
refine aJ F.slot_list_extend ⟨_,e,rfl⟩ F.entry_list_extend (F.args_list_extend_2 _ _)
 (AutoSeq1.list_extend_list_list_0 l _ n b _ n2 J (by lia) (by lia)) ⟨e,e2,?_⟩
refine⟨.non,_,I.lset  S e (by simp) (r.append r2) ?_,rfl,q⟩
simp_all)
def rRep:R2:=λx y H Q=>∃l k xs,x=.ref l/\y=.int k/\H l=some (.lst xs)/\-(2 ^ 63)<=k/\k<2 ^ 63/\xs.length*k.toNat<=sizeLine/\∀p,H p=none->Q (.ref p) (upd H p (.lst (List.replicate k.toNat xs).flatten))
theorem qHU{α:Type}(xs:List α)(k:Nat):(List.replicate k xs).flatten.length=k*xs.length:=by(
simp)
theorem qK9:OpR X (binaryOp .Mult) rRep:=by(
intro pins s σ H x y v u Q I rx ry h
obtain⟨l,k,xs,rfl,rfl,hH,h1,h2,hz,q⟩:=h
cases rx
obtain⟨t,rfl⟩:=ry
obtain⟨z,D,n,r,hl,e⟩:=I.lstM hH
have S:D.toArray.size*k.toNat<=sizeLine:=by rw[mL,<-hl];exact hz
have O:¬D.toArray.size*k.toNat>(2 ^ 63-1) / 8:=by
 have:(sizeLine:Nat)<=(2 ^ 63-1) / 8:=by decide
 lia
have Z:¬(!Builtin.List.listFitsIndex k)=true:=by rw[fitsIndex_both h1 h2];exact kZ
have J:¬Builtin.List.listTooLong (D.toArray.size*k.toNat)=true:=by rw[qB3 S];exact kZ
have N:List.foldl (λx1 x2=>x1++x2) #[] (List.replicate (if D.toArray.isEmpty=true then 0 else k.toNat) D.toArray)=(List.replicate k.toNat D).flatten.toArray:=by
 have f0:=λm=>by have:=q93 D m [];rw[dS]at this;exact this
 rw[f0];cases D with
 |nil=>simp
 |cons a r'=>rfl
refine wpAny_binaryOp_repeat_ref (T:="list") (U:="int") (by decide) ⟨_,e,rfl⟩ (λs'=>eT s' k t) noFill_list_mul F.fills_int_mul bZ repeat_list F.slot_int_index.lookup
 (aJ bZ (eT s k t) F.entry_int_rmul (F.args_int_rmul_2 _ _) (int___rmul___int_list k t l D.toArray n)
  ⟨e,rfl,⟨_,e,rfl⟩,aJ F.slot_list_mul ⟨_,e,rfl⟩ F.entry_list_mul (F.args_list_mul_2 _ _) (AutoListH.list___mul___list_int_3 l D.toArray n k t Z O J) ⟨e,?_⟩⟩)
rw[N]
exact⟨.ref _,_,I.lnew (t':=s.toks) (r.rep k.toNat) (by rw[qHU,cM];exact hz),rfl,q _ I.fresh⟩)
end
section
variable{κ:Type}[DecidableEq κ]
noncomputable def valV(kvs:List (κ×V))(k:κ):Option V:=(kvs.find? λkv=>decide (kv.1=k)).map (·.2)
noncomputable def putK(kvs:List (κ×V))(k:κ)(v:V):List (κ×V):=if(kvs.any λkv=>decide (kv.1=k))=true then kvs.map (λkv=>if kv.1=k then(kv.1,v)else kv)else kvs++[(k,v)]
noncomputable def q44(kvs:List (κ×V))(k:κ):List (κ×V):=kvs.filter λkv=>decide (kv.1≠k)
theorem q1A{p:κ×V}{r:List (κ×V)}{k:κ}(e:p.1=k):valV (p::r) k=some p.2:=by simp[valV,d7,e]
theorem zD{p:κ×V}{r:List (κ×V)}{k:κ}(e:¬p.1=k):valV (p::r) k=valV r k:=by simp[valV,d7,e]
theorem qB4(k:κ):∀kvs:List (κ×V),(kvs.any λkv=>decide (kv.1=k))=(valV kvs k).isSome
| []=>rfl
|p::r=>by
 rw[cA];by_cases e:p.1=k
 .simp only[q1A e,hG e,Bool.true_or,Option.isSome_some]
 rw[zD e,hX e,Bool.false_or];exact qB4 k r
theorem q60(kvs:List (κ×V))(k:κ)(v:V):(putK kvs k v).length<=kvs.length+1:=by(
unfold putK
split
.simp
simp)
theorem RelO.isSome_eq{o:Option V}(r:RelO o u):o.isSome=u.isSome:=by(
cases o with
|none=>cases u with
 |none=>rfl
 |some _=>exact(show False from r).elim
|some _=>cases u with
 |none=>exact(show False from r).elim
 |some _=>rfl)
theorem RelO.getD{o:Option V}(r:RelO o u)(rd:RelV d d'):RelV (o.getD d) (u.getD d'):=by(
cases o with
|none=>cases u with
 |none=>exact rd
 |some _=>exact(show False from r).elim
|some _=>cases u with
 |none=>exact(show False from r).elim
 |some _=>exact r)
theorem KV.val(r:KV kvs vs)(k:κ):RelO (valV kvs k) (valueAt vs k):=by(
induction r with
|nil=>exact True.intro
|@cons p q ps qs h t ih=>
 obtain⟨h1,h2⟩:=h;by_cases e:p.1=k
 .have D:=h1.symm.trans e;have b:valueAt (q::qs) k=some q.2:=by simp[valueAt,d7,D]
  rw[q1A e,b];exact h2
 have D:¬q.1=k:=λz=>e (h1.trans z);have b:valueAt (q::qs) k=valueAt qs k:=by simp[valueAt,d7,D]
 rw[zD e,b];exact ih)
theorem KV.any(r:KV kvs vs)(k:κ):(kvs.any λkv=>decide (kv.1=k))=vs.any λkv=>decide (kv.1=k):=by(
induction r with
|nil=>rfl
|cons h t z=>simp_all)
theorem KV.repl(r:KV kvs vs)(k:κ){y:V}(ry:RelV y u):
 KV (kvs.map λkv=>if kv.1=k then(kv.1,y)else kv) (vs.map λkv=>if kv.1=k then(kv.1,u)else kv):=by(
induction r with
|nil=>exact .nil
|@cons p q ps qs h t ih=>
 rw[mR,mR];refine .cons ?_ ih;obtain⟨h1,h2⟩:=h;by_cases e:p.1=k
 .rw[kL e,kL (h1.symm.trans e)];exact⟨h1,ry⟩
 rw[kE e,kE (λz=>e (h1.trans z))];exact⟨h1,h2⟩)
theorem KV.put(r:KV kvs vs)(k:κ){y:V}(ry:RelV y u):KV (putK kvs k y) (stored vs k u):=by(
unfold putK stored
rw[r.any k]
by_cases e:(vs.any λz=>decide (z.1=k))=true
.rw[kL e,kL e];exact r.repl k ry
rw[kE e,kE e];exact Paired.snoc r ⟨rfl,ry⟩)
theorem KV.drop(r:KV kvs vs)(k:κ):KV (q44 kvs k) (without vs k):=by(
unfold q44 without
induction r with
|nil=>exact .nil
|@cons p q ps qs h t ih=>
 obtain⟨h1,h2⟩:=h;rw[mU,mU];by_cases e:p.1=k
 .have a:¬decide (p.1≠k)=true:=by simp[e]
  have b:¬decide (q.1≠k)=true:=by simp_all
  rw[kE a,kE b];exact ih
 have D:¬q.1=k:=λz=>e (h1.trans z);have a:decide (p.1≠k)=true:=by simp[e]
 have b:decide (q.1≠k)=true:=by simp[D]
 rw[kL a,kL b];exact .cons ⟨h1,h2⟩ ih)
theorem KV.keys{kvs:List (κ×V)}{vs:List (κ×Value)}(r:KV kvs vs):kvs.map (·.1)=vs.map (·.1):=by(
induction r with
|nil=>rfl
|cons h t z=>simp_all)
theorem KV.length(r:KV kvs vs):kvs.length=vs.length:=x8 r
theorem qFJ(kvs:List (κ×V))(k:κ):(q44 kvs k).length<=kvs.length:=kY _ _
end
theorem q6Z{P:Program}{w:World}{k:Key}(r:RelV (kV k) u):(yA P w).is k u=true:=by(
cases k with
|inl i=>obtain⟨t,e⟩:=(show ∃t,u=Value.int i t from r);subst e;exact qAV P w i t
|inr x=>obtain⟨t,e⟩:=(show ∃t,u=Value.str x t from r);subst e;exact qAW P w x t)
theorem q94{P:Program}{w:World}:∀{ks:List Key} {us:List Value},Vals (ks.map kV) us->ItemsAre (yA P w) ks us
| [],_,r=>by rw[fR]at r;cases r;exact .nil
|k::ks,_,r=>by
 rw[mR]at r;cases r with
 |cons h t=>exact .cons (q6Z h) (q94 t)
abbrev KT(H:Hp):List (List Key×V)->List (List Key×Addr×Value)->Prop:=Paired λp q=>p.1=q.1/\H q.2.1=some (.tup (p.1.map kV))/\RelV p.2 q.2.2
theorem KT.val(r:KT H kvs xs)(k:List Key):RelO (valV kvs k) ((atKey xs k).map (·.2)):=by(
induction r with
|nil=>exact True.intro
|@cons p q ps qs h t ih=>
 obtain⟨h1,_,h2⟩:=h;by_cases e:p.1=k
 .have D:=h1.symm.trans e;have b:atKey (q::qs) k=some q.2:=by simp[atKey,d7,D]
  rw[q1A e,b];exact h2
 have D:¬q.1=k:=λz=>e (h1.trans z);have b:atKey (q::qs) k=atKey qs k:=by simp[atKey,d7,D]
 rw[zD e,b];exact ih)
theorem KT.repl(r:KT H kvs xs)(k:List Key){y:V}(ry:RelV y u):
 KT H (kvs.map λkv=>if kv.1=k then(kv.1,y)else kv) (xs.map (putAt k u)):=by(
induction r with
|nil=>exact .nil
|@cons p q ps qs h t ih=>
 rw[mR];refine .cons ?_ ih;obtain⟨h1,h2,D⟩:=h;unfold putAt;by_cases e:p.1=k
 .rw[kL e,kL (h1.symm.trans e)];exact⟨h1,h2,ry⟩
 rw[kE e,kE (λz=>e (h1.trans z))];exact⟨h1,h2,D⟩)
theorem KT.put(r:KT H kvs xs)(k:List Key){b:Addr}{y:V}(hb:H b=some (.tup (k.map kV)))(ry:RelV y u):
 KT H (putK kvs k y) (storedH xs k b u):=by(
have e:(kvs.any λz=>decide (z.1=k))=(atKey xs k).isSome:=by rw[qB4,(r.val k).isSome_eq,aZ]
unfold putK storedH
rw[e]
by_cases q:(atKey xs k).isSome=true
.rw[kL q,kL q];exact r.repl k ry
rw[kE q,kE q];exact Paired.snoc r ⟨rfl,hb,ry⟩)
theorem KT.keeps(r:KT H kvs xs)(ht:∀b ys,H b=some (.tup ys)->H' b=some (.tup ys)):KT H' kvs xs:=Paired.mapP r λU U z=>⟨z.1,ht _ _ z.2.1,z.2.2⟩
section
variable{P:Program}{w:World}{H:Hp}{h:Heap}{a:Addr}
theorem qJM(ok:HOk P w H h)(e:Rd H a u):jQ P w H h a u:=e.ok ok
theorem q95(ok:HOk P w H h)(e:Rd H a (.dK kvs)):kvs.length<=sizeLine/\(a==sysModules)=false/\∃vs,KV kvs vs/\h.DictOf (yA P w) a vs:=show jQ P w H h a (.dK kvs)from qJM ok e
theorem q96(ok:HOk P w H h)(e:H a=some (.dK kvs)):kvs.length<=sizeLine/\(a==sysModules)=false/\∃vs,KV kvs vs/\h.DictOf (yA P w) a vs:=q95 ok (.inl e)
theorem q70{ks:List Key}(ok:HOk P w H h)(e:H a=some (.tup (ks.map kV))):(tupleKind (yA P w)).is h ks a:=by obtain⟨_,z,r,o,h1,h2,n,D⟩:=(show jQ P w H h a (.tup _)from ok a _ e);exact⟨o,z.toArray,n,h1,h2,D,by simpa using q94 r⟩
theorem q97(ok:HOk P w H h)(e:Rd H a (.dT kvs)):kvs.length<=sizeLine/\(a==sysModules)=false/\∃xs,KT H kvs xs/\h.DictOfH (tupleKind (yA P w)) a xs:=by(
obtain⟨z,y,xs,r,o,es,O,h1,h2,I,N,J⟩:=(show jQ P w H h a (.dT kvs)from qJM ok e)
refine⟨z,y,xs,r,o,es,O,h1,h2,I,N,λx D=>?_,J⟩
have all:∀{l:List _} {m:List _},KT H l m->∀x∈m,(tupleKind (yA P w)).is h x.1 x.2.1:=by
 intro l m q;induction q with
 |nil=>simp
 |@cons p q ps qs hq t ih=>
  intro x D;rcases kN.mp D with e|D
  .exact q70 ok (by simp_all)
  exact ih x D
exact all r x D)
theorem qMF(ok:HOk P w H h)(e:H a=some (.dT kvs)):kvs.length<=sizeLine/\(a==sysModules)=false/\∃xs,KT H kvs xs/\h.DictOfH (tupleKind (yA P w)) a xs:=q97 ok (.inl e)
end
def DGet(H:Hp)(a:Addr)(y:V)(r:Option V):Prop:=(∃kvs k,Rd H a (.dK kvs)/\y=kV k/\r=valV kvs k)\/∃kvs k b,Rd H a (.dT kvs)/\y=.ref b/\H b=some (.tup (k.map kV))/\r=valV kvs k
def DPut(H:Hp)(a:Addr)(y v:V)(H':Hp):Prop:=(∃kvs k,H a=some (.dK kvs)/\y=kV k/\kvs.length<sizeLine/\H'=upd H a (.dK (putK kvs k v)))\/∃kvs k b,H a=some (.dT kvs)/\y=.ref b/\H b=some (.tup (k.map kV))/\kvs.length<sizeLine/\H'=upd H a (.dT (putK kvs k v))
theorem DGet.k{a:Addr}{k:Key}(e:H a=some (.dK kvs)):DGet H a (kV k) (valV kvs k):=.inl ⟨kvs,k,.inl e,rfl,rfl⟩
section
variable{X:Cx}{pins:List (Addr×Obj)}{σ:St}{H:Hp}{s:Shared}{a:Addr}{y v:V}{u r:Value}{o:Option V}{A:Around}{E:Value->Shared->Prop}
theorem Inv.big(I:Inv X pins σ H s):sysModules<s.heap.objs.size:=by have h:=(I.mod.glob.keeps I.bk).lt;exact Nat.lt_trans (by decide) h
theorem qEF(hu:A.units+1<cLine)(I:Inv X pins σ H s)(g:DGet H a y (some v))(ry:RelV y u)(h:∀w' s',Inv X pins σ H s'->RelV v w'->Q w' s'):
 wpAny (model X.prog X.w) A (getItem (.ref a) u) Q E s:=by(
rcases g with⟨kvs,k,e,ey,l⟩|⟨kvs,k,b,e,ey,eb,l⟩
.subst ey;obtain⟨z,Z,vs,D,N⟩:=q95 I.hok e;obtain⟨w',S,J⟩:=RelO.some_of   (by rw[l];exact D.val k);exact wpAny_getItem_of (q6Z ry) N.mapOf S (h w' _ (I.tok _) J)
subst ey
cases(show u=Value.ref b from ry)
obtain⟨z,Z,xs,D,N⟩:=q97 I.hok e
obtain⟨w',S,J⟩:=RelO.some_of   (by rw[l];exact D.val k)
obtain⟨p,U,O⟩:=mK.mp S
refine wpAny_getItem_heap (pO hu) (q70 I.hok eb) N U ?_
rw[O]
exact h w' _ (I.tok _) J)
theorem d_in(hu:A.units+1<cLine)(I:Inv X pins σ H s)(g:DGet H a y o)(ry:RelV y u)(h:∀s',Inv X pins σ H s'->Q (.bool o.isSome) s'):
 wpAny (model X.prog X.w) A (compareOp .In u (.ref a)) Q E s:=by(
rcases g with⟨kvs,k,e,ey,l⟩|⟨kvs,k,b,e,ey,eb,l⟩
.subst ey;obtain⟨z,N,O,D,J⟩:=q95 I.hok e;refine wpAny_in_of (q6Z ry) N J.mapOf ?_;rw[<-(D.val k).isSome_eq,<-l];exact h _ (I.tok _)
subst ey
cases(show u=Value.ref b from ry)
obtain⟨z,N,xs,D,J⟩:=q97 I.hok e
refine wpAny_in_heap (pO hu) (q70 I.hok eb) N J ?_
have q:=(D.val k).isSome_eq
rw[aZ]at q
rw[<-q,<-l]
exact h _ (I.tok _))
theorem q9Q(I:Inv X pins σ H s)(mu:Mut (H a))(hs:Heap.SameBut a s.heap h')(he:∃q,h'.get? a=some q)(new:jQ X.prog X.w (upd H a ob) h' a ob):
 Inv X pins σ (upd H a ob) { s with heap:=h',toks:=t' }:=I.write   mu (.inl rfl) (λb q hb z=>(hs.2 b hb).trans z) he new
theorem qFK{P:Program}{w:World}{h':Heap}{kvs:List (Key×V)}(z:kvs.length<=sizeLine)(hd:(a==sysModules)=false)(rel:KV kvs vs)(dd:h'.DictOf (yA P w) a vs):
 jQ P w H' h' a (.dK kvs):=⟨z,hd,vs,rel,dd⟩
theorem qEG(hu:A.units+1<cLine)(I:Inv X pins σ H s)(g:DPut H a y v H')(ry:RelV y u)(rv:RelV v r)(h:∀s',Inv X pins σ H' s'->Q () s'):
 wpAny (model X.prog X.w) A (setItem (.ref a) u r) Q E s:=by(
rcases g with⟨kvs,k,e,ey,l,eH⟩|⟨kvs,k,b,e,ey,eb,l,eH⟩
.subst ey eH;obtain⟨z,Z,vs,D,S⟩:=q96 I.hok e;have O:vs.length<=sizeLine:=by rw[<-D.length];exact z
 have hl:(putK kvs k v).length<=sizeLine:=by have:=q60 kvs k v;lia
 refine wpAny_setItem_pairs (hsz:=O) (q6Z ry) S λh' J U=>h _ ?_;have he:∃q,h'.get? a=some q:=let⟨q,_,_,N,_⟩:=J;⟨q,N⟩
 exact q9Q I (by rw[e];exact True.intro) U he (qFK hl Z (D.put k rv) J)
subst ey eH
cases(show u=Value.ref b from ry)
obtain⟨z,Z,xs,D,S⟩:=qMF I.hok e
have O:xs.length<=sizeLine:=by rw[<-x8 D];exact z
have hl:(putK kvs k v).length<=sizeLine:=by have:=q60 kvs k v;lia
refine wpAny_setItem_heap (hsz:=O) (pO hu) (q70 I.hok eb) S λh' J U=>h _ ?_
obtain⟨q,es,ep,N,h2,h3,h4,_,h5⟩:=J
refine q9Q I (by rw[e];exact True.intro) U ⟨q,N⟩ ⟨hl,Z,_,(D.put k eb rv).keeps λc ys ec=>?_,q,es,ep,N,h2,h3,h4,h5⟩
rw[qF (jZ ec e (λz=>nomatch z))]
exact ec)
end
section
variable{X:Cx}{pins:List (Addr×Obj)}{σ:St}{H:Hp}{s:Shared}{a:Addr}{kvs:List (Key×V)}{k:Key}{u:Value}{A:Around}{E:Value->Shared->Prop}
theorem qJN{v:V}{more:List Value}(I:Inv X pins σ H s)(e:H a=some (.dK kvs))(ry:RelV (kV k) u)(l:valV kvs k=some v)(hm:more=[]\/∃x,more=[x])
 (h:∀w' s',Inv X pins σ (upd H a (.dK (q44 kvs k))) s'->RelV v w'->Q w' s'):wpAny (model X.prog X.w) A (call (.builtin "dict.pop") (.ref a::u::more)) Q E s:=by(
obtain⟨z,hd,U,D,O⟩:=q96 I.hok e
obtain⟨w',hw,N⟩:=RelO.some_of (v:=v)  (by rw[<-l];exact D.val k)
have hp:(keyPart u).isSome=true:=by
 cases k with
 |inl i=>obtain⟨t,q⟩:=(show ∃t,u=Value.int i t from ry);subst q;rfl
 |inr x=>obtain⟨t,q⟩:=(show ∃t,u=Value.str x t from ry);subst q;rfl
have S:argsOk "dict.pop" ⟨.ref a::u::more,[]⟩:=by
 rcases hm with q|⟨x,q⟩
 .subst q;exact PySem.F.args_dict_pop_2 _ _
 subst q;exact lJ _ _ _
refine nI cU O.typeIs l7 S (meets_dict_pop_there _ a (q6Z ry) more hm hp)
 ⟨U,w',O,by rw[<-D.length];exact z,hw,λh' J hs=>h w' _ ?_ N⟩
have Z:∃q,h'.get? a=some q:=let⟨q,_,_,hq,_⟩:=J;⟨q,hq⟩
exact q9Q I (by rw[e];exact True.intro) hs Z (qFK (kQ (qFJ kvs k) z) hd (D.drop k) J))
theorem qKA{r:Value}(I:Inv X pins σ H s)(e:H a=some (.dK kvs))(ry:RelV (kV k) u)(l:valV kvs k=none)(h:∀s',Inv X pins σ H s'->Q r s'):
 wpAny (model X.prog X.w) A (call (.builtin "dict.pop") [.ref a,u,r]) Q E s:=by(
obtain⟨z,U,N,D,J⟩:=q96 I.hok e
have O:=RelO.none_of (by rw[<-l];exact D.val k)
have S:(keyPart u).isSome=true:=by
 cases k with
 |inl i=>obtain⟨t,q⟩:=(show ∃t,u=Value.int i t from ry);subst q;rfl
 |inr x=>obtain⟨t,q⟩:=(show ∃t,u=Value.str x t from ry);subst q;rfl
exact nI cU J.typeIs l7 (lJ _ _ _) (meets_dict_pop_default _ a (q6Z ry) U S r) ⟨N,J,O,h _ (I.tok _)⟩)
end
def NoSl(i:Expr):Prop:=∀ov iv,subscripted i false ov iv=operate [ov,iv] (getItem ov iv)
theorem qHV{prog:Program}{w:World}{A:Around}{E:Value->Shared->Prop}{s:Shared}{env:Env}{value slice:Expr}{pos:Pos}{T id:String}{Q:Value->Shared->Prop}
 (hl:typeLookup (.type T) "__getitem__"=pure (some (.builtin id))) (hs:NoSl slice)
 (h:wpAny (model prog w) A (eval value env) (λo s₁=>wpAny (model prog w) A (eval slice env) (λi s₂=>s₂.TypeIs o T/\wpAny (model prog w) A (getItem o i) Q E s₂) E s₁) E s):
 wpAny (model prog w) A (eval (.Subscript value slice pos) env) Q E s:=by(
refine Subscript_ (dN h (λo s₁ I=>dN I (λi s₂ z=>?_) λU U x=>x) λU U x=>x)
obtain⟨hT,z⟩:=z
refine kI ?_
refine kI (wpAny_specialOf hT hl ?_)
have fin:wpAny (model prog w) A (subscripted slice false o i) (λr D=>wpAny (model prog w) A (letTemporaryGo value o r >>= λU=>pure r) Q E D) E s₂:=by rw[hs o i];exact wpAny_operating (dN z (λr D J=>kI (wpAny_letTemporaryGo (mO J))) λU U x=>x)
first
 |exact mO (kI fin)
 |lia
 |lia)
theorem qB5{s:Shared}{a:Addr}{y:V}{o:Option V}(I:Inv X pins σ H s)(g:DGet H a y o):s.TypeIs (.ref a) "dict":=by(
rcases g with⟨kvs,k,e,_,_⟩|⟨kvs,k,b,e,_,_,_⟩
.obtain⟨_,_,D,_,z⟩:=q95 I.hok e;exact z.typeIs
obtain⟨_,_,xs,_,z⟩:=q97 I.hok e
exact z.typeIs)
def qMG(td ty:TE):TE:=λσ H Q=>td σ H λx H1=>ty σ H1 λy H2=>∃a v,x=.ref a/\DGet H2 a y (some v)/\Q v H2
def tDIn(ty td:TE):TE:=λσ H Q=>ty σ H λy H1=>td σ H1 λx H2=>∃a o,x=.ref a/\DGet H2 a y o/\Q (.bl o.isSome) H2
def qMH(td ty tv:TE):TS:=λD σ H=>tv σ H λv H1=>td σ H1 λx H2=>ty σ H2 λy H3=>∃a H4,x=.ref a/\DPut H3 a y v H4/\D.nx σ H4
section
variable{X:Cx}{o i e value:Expr}{pos pos' tpos:Pos}{td ty tv:TE}
theorem qD9(hu:X.A.units+1<cLine)(ho:PE X o td)(hi:PE X i ty)(hs:NoSl i):PE X (.Subscript o i pos) (qMG td ty):=by(
intro pins s σ H Q I h
refine qHV PySem.F.slot_dict_getitem.lookup hs (thn (ho _ s σ H _ I h) λu s1 ⟨x,H1,U,Z,N⟩=>thn (hi _ s1 σ H1 _ U N) λiv s2 J=>?_)
obtain⟨y,H2,D,S,a,v,ex,g,q2⟩:=J
subst ex
obtain rfl:u=Value.ref a:=Z
exact⟨qB5 D g,qEF hu D g S λw' s3 O z=>⟨v,H2,O,z,q2⟩⟩)
theorem qCC(hu:X.A.units+1<cLine)(hi:PE X i ty)(ho:PE X o td):PC X .In i o (tDIn ty td):=by(
intro pins s σ H Q I h
refine thn (hi _ s σ H _ I h) λiv Z ⟨y,H1,S,O,D⟩=>thn (ho _ Z σ H1 _ S D) λu s2 z=>?_
obtain⟨x,H2,N,U,a,ov,ex,g,q2⟩:=z
subst ex
obtain rfl:u=Value.ref a:=U
exact d_in hu N g O λs3 J=>⟨.bl _,H2,J,rfl,q2⟩)
theorem q6I(hu:X.A.units+1<cLine)(ho:PE X o td)(hi:PE X i ty)(hv:PE X value tv)(hs:swapsWith value (some (.Subscript o i pos')) pos.line X.env=pure false):
 PS X (.Assign [.Subscript o i pos'] value pos) (qMH td ty tv):=by(
intro pins s σ H D I h
refine wpAny_Assign_Subscript (thn (hv _ s σ H _ I h) λr s1 ⟨v,H1,I1,S,N⟩=>thn (ho _ s1 σ H1 _ I1 N) λu s2 ⟨x,H2,Z,rx,q2⟩=>thn (hi _ s2 σ H2 _ Z q2) λiv s3 J=>?_) hs
obtain⟨y,H3,U,ry,a,O,ex,g,z⟩:=J
subst ex
obtain rfl:u=Value.ref a:=rx
exact qEG hu U g ry S λs4 I4=>⟨σ,O,I4,z⟩)
end
theorem qFL{P:Program}{w:World}(h:Heap)(hb:sysModules<h.objs.size):jQ P w H (h.push { cls:=.type "dict",data:=.dict #[] }) h.objs.size (.dK []):=⟨m9 _,wA.mpr (cC (gC hb)),[],.nil,Heap.DictOf.new h⟩
def qKB:TE:=λz H Q=>∀p,H p=none->Q (.ref p) (upd H p (.dK []))
section
variable{X:Cx}{pos:Pos}
theorem q4X:PE X (.Dict [] [] pos) qKB:=λpins s σ H Q I h=>wpAny_Dict_empty ⟨.ref _,_,I.laid    (λz z q=>kM _ q) (kO _) (qFL _ I.big),rfl,h _ (I.hok.fresh (kO _))⟩
end
structure M1(X:Cx)(o:Expr)(m:Str)(apos:Pos)(e:Expr)(cpos:Pos):Prop where
base:attributeBase o m X.env (eval o X.env)=eval o X.env
few:((backTo cpos (starEach [e] X.env)).all (λx=>!x.1)&&(backToKw cpos (keywordEach [] X.env)).all (λx=>x.1.isSome)
 &&decide (([e]:List Expr).length+([]:List Keyword).length+(if([]:List Keyword).isEmpty then 0 else 1)<30))=true
line:(apos.endLine==cpos.line)=true
trees:backTo cpos (starEach [e] X.env)=[(false,eval e X.env)]
structure M2(X:Cx)(o:Expr)(m:Str)(apos:Pos)(e f:Expr)(cpos:Pos):Prop where
base:attributeBase o m X.env (eval o X.env)=eval o X.env
few:((backTo cpos (starEach [e,f] X.env)).all (λx=>!x.1)&&(backToKw cpos (keywordEach [] X.env)).all (λx=>x.1.isSome)
 &&decide (([e,f]:List Expr).length+([]:List Keyword).length+(if([]:List Keyword).isEmpty then 0 else 1)<30))=true
line:(apos.endLine==cpos.line)=true
trees:backTo cpos (starEach [e,f] X.env)=[(false,eval e X.env),(false,eval f X.env)]
def IsD(H:Hp)(a:Addr):Prop:=(∃kvs,Rd H a (.dK kvs))\/∃kvs,Rd H a (.dT kvs)
theorem qCD{s:Shared}{a:Addr}(I:Inv X pins σ H s)(d:IsD H a):
 s.TypeIs (.ref a) "dict"/\(∀b,Value.ref a=.ref b->∃ob,s.heap.get? b=some ob/\ob.dict=none)/\(a==sysModules)=false:=by(
rcases d with⟨kvs,e⟩|⟨kvs,e⟩
.obtain⟨_,D,J,_,z⟩:=q95 I.hok e;refine⟨z.typeIs,λb q=>?_,D⟩;cases q;obtain⟨ob,_,_,h1,h2,_⟩:=z;exact⟨ob,h1,h2.2.1⟩
obtain⟨_,D,xs,_,z⟩:=q97 I.hok e
refine⟨z.typeIs,λb q=>?_,D⟩
cases q
obtain⟨ob,_,_,h1,h2,_⟩:=z
exact⟨ob,h1,h2.2.1⟩)
section
variable{X:Cx}{pins:List (Addr×Obj)}{σ:St}{H:Hp}{s:Shared}{a:Addr}{y d:V}{u r:Value}{o:Option V}{A:Around}{E:Value->Shared->Prop}
theorem qKC(hu:A.units+1<cLine)(I:Inv X pins σ H s)(g:DGet H a y o)(ry:RelV y u)(rd:RelV d r)(h:∀w' s',Inv X pins σ H s'->RelV (o.getD d) w'->Q w' s'):
 wpAny (model X.prog X.w) A (call (.builtin "dict.get") [.ref a,u,r]) Q E s:=by(
rcases g with⟨kvs,k,e,ey,l⟩|⟨kvs,k,b,e,ey,eb,l⟩
.subst ey;obtain⟨z,N,O,D,J⟩:=q95 I.hok e;refine nI sD J.typeIs l8 (lK _ _ _) (meets_dict_get_default _ a (q6Z ry) N r) ⟨_,J.mapOf,h _ _ (I.tok _) ?_⟩;rw[l];exact(D.val k).getD rd
subst ey
cases(show u=Value.ref b from ry)
obtain⟨z,N,xs,D,J⟩:=q97 I.hok e
refine nI sD J.typeIs l8 (lK _ _ _) (meetsH_dict_get_default _ a b N r) ⟨pO hu,k,xs,q70 I.hok eb,J,h _ _ (I.tok _) ?_⟩
rw[l]
exact(D.val k).getD rd)
end
def qKD(td ty tx:TE):TE:=λσ H Q=>td σ H λx H1=>∃a,x=.ref a/\IsD H1 a/\ty σ H1 λy H2=>tx σ H2 λz H3=>∃o,DGet H3 a y o/\Q (o.getD z) H3
def qKE(td ty:TE):TE:=λσ H Q=>td σ H λx H1=>∃a,x=.ref a/\IsD H1 a/\ty σ H1 λy H2=>∃kvs k v,H2 a=some (.dK kvs)/\y=kV k/\valV kvs k=some v/\Q v (upd H2 a (.dK (q44 kvs k)))
def qKF(td ty tx:TE):TE:=λσ H Q=>td σ H λx H1=>∃a,x=.ref a/\IsD H1 a/\ty σ H1 λy H2=>tx σ H2 λz H3=>∃kvs k,H3 a=some (.dK kvs)/\y=kV k/\(∀v,valV kvs k=some v->Q v (upd H3 a (.dK (q44 kvs k))))/\(valV kvs k=none->Q z H3)
section
variable{X:Cx}{o e f:Expr}{apos cpos:Pos}{td ty tx:TE}
theorem qFM(hu:X.A.units+1<cLine)(ho:PE X o td)(he:PE X e ty)(hf:PE X f tx)(m:M2 X o "get" apos e f cpos):PE X (.Call (.Attribute o "get" apos) [e,f] [] cpos) (qKD td ty tx):=by(
intro pins s σ H Q I h
refine lA m.base m.few m.line cE sD PySem.F.type_dict_get (thn (ho _ s σ H _ I h) λu s1 hZ=>?_)
obtain⟨x,H1,J,N,a,ex,d,q1⟩:=hZ
subst ex
obtain rfl:u=Value.ref a:=N
obtain⟨t1,t2,_⟩:=qCD J d
refine⟨t1,t2,?_⟩
rw[m.trees]
refine wG rfl (c7 (wN (thn (he _ s1 σ H1 _ J q1) λiv s2 ⟨y,H2,I2,ry,O⟩=>wN (thn (hf _ s2 σ H2 _ I2 O) λfv s3 ⟨z,Z,U,rz,ov,g,S⟩=>pX ?_))))
exact qKC hu U g ry rz λw' s4 I4 D=>⟨_,Z,I4,D,S⟩)
theorem qFN(ho:PE X o td)(he:PE X e ty)(m:M1 X o "pop" apos e cpos):PE X (.Call (.Attribute o "pop" apos) [e] [] cpos) (qKE td ty):=by(
intro pins s σ H Q I h
refine lA m.base m.few m.line cE cU xK (thn (ho _ s σ H _ I h) λu s1 J=>?_)
obtain⟨x,H1,D,rx,a,ex,d,N⟩:=J
subst ex
obtain rfl:u=Value.ref a:=rx
obtain⟨t1,Z,_⟩:=qCD D d
refine⟨t1,Z,?_⟩
rw[m.trees]
refine wG rfl (c7 (wN (thn (he _ s1 σ H1 _ D N) λiv s2 ⟨y,H2,S,ry,kvs,k,v,ea,U,l,q2⟩=>pX ?_)))
subst U
exact qJN S ea ry l (.inl rfl) λw' s3 O z=>⟨v,_,O,z,q2⟩)
theorem qFO(ho:PE X o td)(he:PE X e ty)(hf:PE X f tx)(m:M2 X o "pop" apos e f cpos):PE X (.Call (.Attribute o "pop" apos) [e,f] [] cpos) (qKF td ty tx):=by(
intro pins s σ H Q I h
refine lA m.base m.few m.line cE cU xK (thn (ho _ s σ H _ I h) λu s1 hZ=>?_)
obtain⟨x,H1,O,U,a,ex,d,q1⟩:=hZ
subst ex
obtain rfl:u=Value.ref a:=U
obtain⟨t1,t2,_⟩:=qCD O d
refine⟨t1,t2,?_⟩
rw[m.trees]
refine wG rfl (c7 (wN (thn (he _ s1 σ H1 _ O q1) λiv s2 ⟨y,H2,I2,S,Z⟩=>wN (thn (hf _ s2 σ H2 _ I2 Z) λfv s3 ⟨z,H3,N,rz,kvs,k,ea,ey,q3,q4⟩=>pX ?_))))
subst ey
cases l:valV kvs k with
|some v=>exact qJN N ea S l (.inr ⟨fv,rfl⟩) λw' s4 D J=>⟨v,_,D,J,q3 v l⟩
|none=>exact qKA N ea S l λs4 D=>⟨z,H3,D,rz,q4 l⟩)
end
end L2
namespace Att
open PySem PySem.W PySem.Calls PyProof.Rows
theorem q66{P:Params}:∀(ns:List Int) (vs:List Value),WellAll P h vs (ns.map WData.int)->IntsAre vs ns:=by(
intro ns
induction ns with
|nil=>intro vs w;cases w;exact .nil
|cons n ns z=>
 intro vs w;cases w with
 |cons a b=>cases a;exact .cons _ _ (z _ b))
theorem qEH{l:OpenLaw}{n:Nat}(hn:l.most=some n){P:Params}
 (hpre:l.row.toRowW.claim.pre args=true) (hwl:WellAll P h vals args):
 ∃a vs ns,vals=[Value.ref a]/\args=[WData.list (ns.map WData.int)]/\h.get? a=some { cls:=.type "list",data:=.seq vs.toArray }/\IntsAre vs ns/\ns.length<=n:=by(
have J:WShape.hasAll [] _ [.list _]=true:=(pre_splitW hpre).1
have N:l.pre.holds [] _ =true:=(pre_splitW hpre).2
obtain⟨d,r,rfl,h1,h2⟩:=hasAllW_cons J
obtain rfl:=hasAllW_nil h2
obtain⟨xs,rfl,O⟩:=hasW_list h1
obtain⟨ns,rfl⟩:=items_int O
have z:ns.length<=n:=by
 have I:=by have I:=(holds_andW N).1;rw[hn]at I;exact I
 have h5:=condW_of I (w_not (w_lt w_lit (w_len_list (w_arg rfl))));simp_all
cases hwl with
|cons Z U=>
 cases U;cases Z with
 |list S D=>exact⟨_,_,ns,rfl,rfl,S,q66 ns _ D,z⟩)
theorem qEI(l:OpenLaw)(args:List WData):l.row.toRowW.claim.post args (.bool true) args=true:=postW_of  
  (show WShape.has [] _ _=true by rfl)
  (show(WTm.eq _ _).value [] _ =some (.bool _)from w_eq_bool (w_res rfl) w_lit) rfl
theorem attach_call{l:OpenLaw}{n:Nat}{d:DefRec}
 (hn:l.most=some n) (hdf:d.params.defaults=[])
 (call:∀(w:World) (s₀ s₁:Shared) (mg mb:Str->Option Value) (fa:Addr) (o:Obj) (pm cd doc:Value) (a:Addr) (vs:List Value) (ns:List Int),Ground q loose [] XP w s₀ mg mb s₁.heap->YP w s₁.heap->s₁.heap.get? fa=some o->o.data=.func (docDef d.name d.params d.body d.scope pm cd doc)->s₁.heap.CodeRec cd d.name->mg d.name=some (.ref fa)->s₁.heap.get? a=some { cls:=.type "list",data:=.seq vs.toArray }->IntsAre vs ns->ns.length<=n->s₁.gens=#[]->codeAny (model l.prog w) callerA (.call (.ref fa) ⟨[.ref a],[]⟩) (λr s'=>r=.ok (.ret (.bool true))/\OldK s₁.heap s'.heap/\s'.os=s₁.os/\AllBare s'.gens) s₁):
 WalkO q loose XP YP l.row.toRowW d [] (λf vs=>PySem.call f vs):=by(
intro w s₀ s₁ mg mb G Y fa o pm cd doc dV kV ho hd N U S hg aa Z as I ab ah O ae
obtain rfl:dV=.none:=Dflts.none U hdf
obtain rfl:kV=.none:=Dflts.noKw U
obtain⟨a,vs,ns,rfl,rfl,D,z,J⟩:=qEH hn I O
refine enter_call (pZ (call w _ _ mg mb fa o pm cd doc a vs ns G Y ho (fd_plain hd) N S D z J hg) λr s' hq=>?_)
obtain⟨rfl,h2,h3,h4⟩:=hq
exact⟨.inl ⟨.bool _,.bool _,[],rfl,λz=>rfl,.bool _,qEI l _,λz=>⟨List.Pairwise.nil,λz hm=>(nomatch hm)⟩⟩,h2,h3,h4⟩)
end Att
namespace L2
open PySem PySem.Spec PyProof.Rows
theorem q98:∀{vs:List Value} {ns:List Int},IntsAre vs ns->Vals (ns.map V.int) vs
|_,_,.nil=>.nil
|_,_,.cons n t h=>.cons ⟨t,rfl⟩ (q98 h)
noncomputable def qR(s:Stmt)(j:Nat):Stmt:=match s with
| .ClassDef _ _ _ body _ _ _ _ _ _ _=>body.getD j (.Pass ⟨0,0,0,0⟩)
|_=>.Pass ⟨0,0,0,0⟩
noncomputable def yU(s:Stmt):Arguments:=match s with
| .FunctionDef _ a _ _ _ _ _ _ _ _=>a
|_=>{ posonlyargs:=[],args:=[],vararg:=none,kwonlyargs:=[],kw_defaults:=[],kwarg:=none,defaults:=[] }
noncomputable def jY(s:Stmt):List Stmt:=match s with
| .FunctionDef _ _ b _ _ _ _ _ _ _=>b
|_=>[]
noncomputable def qH(s:Stmt):Scope:=match s with
| .FunctionDef _ _ _ _ _ _ sc _ _ _=>sc
|_=>{ kind:=.function,names:=[],isGenerator:=false,isCoroutine:=false }
abbrev CX0:CXT:=λz z z z z z=>False
abbrev E0:XK:=λz z z=>False
theorem qK:q1W CX0 X E0:=λz z z z z z z h=>h.elim
theorem q45{k:Nat}(hr:Room k A):A.units+1<cLine:=dJ (Nat.add_le_add_left (by simp) _) hr.units
section
variable{X:Cx}
theorem pv(i:Nat){x:Str}(hN:X.N[i]?=some x:=by rfl)(hv:Vis X.env.scope x:=by first|exact Or.inl rfl|exact Or.inr (Or.inl rfl)|exact Or.inr (Or.inr rfl))(hd:(x==("__debug__":Str))=false:=by decide)
 (hcd:(x==("__classdict__":Str))=false:=by decide):PE X (.Name x pos) (tVar i):=qK2 hN hv hd hcd
end
theorem iteF{A B:Prop}(h:B):if false=true then A else B:=by exact h
theorem iteT{A B:Prop}(h:A):if true=true then A else B:=by exact h
theorem ite2{c A B:Prop}[Decidable c](h1:c->A)(h2:¬c->B):if c then A else B:=by(
simp_all)
def Same(H H':Hp):Prop:=∀b o,H b=some o->H' b=some o
theorem Same.refl(H:Hp):Same H H:=λz z h=>h
theorem Same.trans(a:Same H H1)(b:Same H1 H2):Same H H2:=λc o h=>b c o (a c o h)
theorem Same.free(e:Same H H'){l:Addr}(h:H' l=Option.none):H l=Option.none:=by(
cases q:H l with
|none=>rfl
|some o=>rw[e l o q]at h;lia)
theorem Same.seq{K:PySem.W.Frag}{a:Addr}(e:Same H H')(h:SqL K H a xs):SqL K H' a xs:=by(
rcases h with(h|⟨o,h⟩)|h
.exact .inl (.inl (e _ _ h))
.exact .inl (.inr ⟨o,e _ _ h⟩)
exact .inr h)
section
variable{X:Cx}
theorem qHW:OpR X (compareOp .IsNot) (λx y H Q=>∃c d,x=.bl c/\y=.bl d/\Q (.bl (c !=d)) H):=by(
intro pins s σ H x y v u Q I z D h
obtain⟨c,d,rfl,rfl,q⟩:=h
cases z
cases D
exact isnot_bool ⟨.bl _,H,I,rfl,q⟩)
theorem q2K:PGet X (rIxL X.K):=by(
intro pins s σ H o i ov iv Q I ro Z h
obtain⟨p,xs,k,z,rfl,rfl,hq,he,q⟩:=h
cases ro
obtain⟨t,rfl⟩:=Z
obtain⟨D,r,U,hz⟩:=I.list hq
obtain⟨j,h1,h2,h3,h4,h5⟩:=q9O he
obtain⟨w,S,J⟩:=r.get h2
have hl:=r.length
have hn:=q6U
have fin:EP X pins σ Q w s:=⟨z,H,I,J,q⟩
by_cases O:0<=k
.have N:=by rw[xP O h5]at h1;exact mB h1
 exact wpAny_getItem_list U.isList O (by lia) (by rw[N];simpa using S) fin
have N:(k+(D.toArray.size)).toNat=j:=by rw[lW (by lia) h4]at h1;rw[mL,<-hl];exact mB h1
exact lZ U.isList (by lia) (by rw[mL]<;>lia) (by lia) (by rw[N];simpa using S) fin)
end
noncomputable def isW:V->Bool
| .int _=>true
|_=>false
noncomputable def isI:V->Bool
| .int _=>true
| .bl _=>true
|_=>false
noncomputable def isB:V->Bool
| .bl _=>true
|_=>false
noncomputable def isS:V->Bool
| .str _=>true
|_=>false
inductive Knd(H:Hp):V->Prop where
|non:Knd H .non
|bl (b:Bool):Knd H (.bl b)
|int (i:Int):Knd H (.int i)
|str (x:Str):Knd H (.str x)
|lst {a:Addr} {xs:List V} (e:H a=some (.lst xs)):Knd H (.ref a)
|tup {a:Addr} {xs:List V} (e:H a=some (.tup xs)):Knd H (.ref a)
section
variable{K:PySem.W.Frag}{H:Hp}{x:V}
theorem qKG:PySem.W.kitOne K (.type "NoneType") (.type "int")=some false:=by rfl
theorem qKH:PySem.W.kitOne K (.type "bool") (.type "int")=some true:=by rfl
theorem qKI:PySem.W.kitOne K (.type "int") (.type "int")=some true:=by rfl
theorem qKJ:PySem.W.kitOne K (.type "str") (.type "int")=some false:=by rfl
theorem qKK:PySem.W.kitOne K (.type "list") (.type "int")=some false:=by rfl
theorem qKL:PySem.W.kitOne K (.type "tuple") (.type "int")=some false:=by rfl
theorem qKM:PySem.W.kitOne K (.type "NoneType") (.type "bool")=some false:=by rfl
theorem qKN:PySem.W.kitOne K (.type "bool") (.type "bool")=some true:=by rfl
theorem qKO:PySem.W.kitOne K (.type "int") (.type "bool")=some false:=by rfl
theorem qKP:PySem.W.kitOne K (.type "str") (.type "bool")=some false:=by rfl
theorem qKQ:PySem.W.kitOne K (.type "list") (.type "bool")=some false:=by rfl
theorem qKR:PySem.W.kitOne K (.type "tuple") (.type "bool")=some false:=by rfl
theorem qKS:PySem.W.kitOne K (.type "NoneType") (.type "str")=some false:=by rfl
theorem qKT:PySem.W.kitOne K (.type "bool") (.type "str")=some false:=by rfl
theorem qKU:PySem.W.kitOne K (.type "int") (.type "str")=some false:=by rfl
theorem qKV:PySem.W.kitOne K (.type "str") (.type "str")=some true:=by rfl
theorem qKW:PySem.W.kitOne K (.type "list") (.type "str")=some false:=by rfl
theorem qKX:PySem.W.kitOne K (.type "tuple") (.type "str")=some false:=by rfl
theorem qKY:PySem.W.kitOne K (.type "tuple") (.type "tuple")=some true:=by rfl
theorem qKZ:PySem.W.kitOne K (.type "list") (.type "list")=some true:=by rfl
theorem Knd.ty(k:Knd H x):∃t,TyOf K H x t/\PySem.W.kitOne K t (.type "int")=some (isI x)/\PySem.W.kitOne K t (.type "bool")=some (isB x)/\PySem.W.kitOne K t (.type "str")=some (isS x):=by(
cases k with
|non=>exact⟨_,.non,qKG,qKM,qKS⟩
|bl b=>exact⟨_,.bl b,qKH,qKN,qKT⟩
|int i=>exact⟨_,.int i,qKI,qKO,qKU⟩
|str y=>exact⟨_,.str y,qKJ,qKP,qKV⟩
|lst e=>exact⟨_,.lst e,qKK,qKQ,qKW⟩
|tup e=>exact⟨_,.tup e,qKL,qKR,qKX⟩)
theorem qFP(x:V):(if isI x=true then !isB x else false)=isW x:=by cases x<;>rfl
end
noncomputable def yQ(ns:List Int)(k:Int):Int:=ns.getD k.toNat 0
theorem qEJ{ns:List Int}{k:Int}(h0:0<=k)(h:k<ns.length):atI (ns.map V.int) k=some (.int (yQ ns k)):=by(
obtain⟨j,rfl⟩:=rW h0
refine yH ?_
have z:j<ns.length:=by lia
unfold yQ
simp[z])
theorem qCE{ns:List Int}{k:Int}(h0:0<=k)(h:¬k<ns.length):yQ ns k=0:=by unfold yQ;simp_all
theorem Same.upd{p:Addr}{o:HO}(h:H p=none):Same H (upd H p o):=λb u e=>by rw[qF (qG e h)];exact e
abbrev NewO(H:Hp)(o:HO)(Q:VK):Prop:=∀p H',H p=none->Same H H'->H' p=some o->Q (.ref p) H'
theorem NewO.at{o:HO}(q:NewO H o Q)(p:Addr)(n:H p=none):Q (.ref p) (upd H p o):=q p _ n (Same.upd n) qI
section
variable{X:Cx}{e:Expr}{es:List Expr}{t:TA}{pos:Pos}
def qMI(t:TA):TE:=λσ H Q=>t σ H λxs H1=>xs.length<=sizeLine/\NewO H1 (.tup xs) Q
def qMJ(t:TA):TE:=λσ H Q=>t σ H λxs H1=>xs.length<=sizeLine/\NewO H1 (.lst xs) Q
theorem yB{x1}(h:PA X es t):PE X (.Tuple es x1 pos) (qMI t):=by(
intro pins s σ H Q I O
refine wpAny_Tuple_spliced (thn (h pos _ s σ H _ I O) λJ S ⟨xs,H1,D,r,z,q⟩=>⟨by rw[<-r.length];exact z,?_⟩)
have N:=D.hok.fresh (kO _)
refine⟨.ref _,upd H1 _ _,D.laid  (λb u e=>kM _ e) (kO _) ?_,rfl,q.at _ N⟩
exact⟨z,J,r,_,mZ _ rfl,rfl,_,rfl⟩)
theorem jS(h:PA X es t):PE X (.List es pos) (qMJ t):=by(
intro pins s σ H Q I O
refine wpAny_List_spliced (thn (h pos _ s σ H _ I O) λJ S ⟨xs,H1,D,r,z,q⟩=>⟨by rw[<-r.length];exact z,?_⟩)
have N:=D.hok.fresh (kO _)
refine⟨.ref _,upd H1 _ _,D.laid  (λb u e=>kM _ e) (kO _) ?_,rfl,q.at _ N⟩
exact⟨z,J,0,r,mZ _ rfl⟩)
def qMK:R2:=λx y H Q=>∃l k v,x=.ref l/\y=.int k/\H l=some (.lst [v])/\0<=k/\k<=100000/\NewO H (.lst (List.replicate k.toNat v)) Q
theorem q1B{α:Type}(v:α):∀k:Nat,(List.replicate k [v]).flatten=List.replicate k v
|0=>rfl
|k+1=>by rw[rJ,cW,q1B v k,rJ];rfl
theorem q1X:OpR X (binaryOp .Mult) qMK:=by(
intro pins s σ H x y v u Q I S O J
obtain⟨l,k,z,D,N,h1,h2,U,q⟩:=J
refine qK9 _ s σ H x y v u Q I S O ⟨l,k,[z],D,N,h1,by lia,by lia,?_,?_⟩
.rw[g8,gM];lia
rw[q1B]
exact q.at)
theorem uI:q0I X (.type "list") (λxs H Q=>∃p ys,xs=[.ref p]/\(SqL X.K H p ys\/SqT X.K H p ys)/\NewO H (.lst ys) Q):=by intro pins s σ H xs D Q I r z;obtain⟨p,ys,e,h,q⟩:=z;exact q9P _ s σ H xs D Q I r ⟨p,ys,e,h,q.at⟩
end
def qDA:Sp:=λvs H Q z=>∃x,vs=[x]/\Knd H x/\Q (.bl (isW x)) H
noncomputable def inB(x:V)(lo hi:Int):Bool:=match x with
| .int i=>decide (lo<=i)&&decide (i<=hi)
|_=>false
def qFQ:Sp:=λvs H Q z=>∃x lo hi,vs=[x,.int lo,.int hi]/\Knd H x/\Q (.bl (inB x lo hi)) H
def qL0(K:PySem.W.Frag):Sp:=λvs H Q z=>∃a ns k,vs=[.ref a,.int k]/\SqL K H a (ns.map V.int)/\0<=k/\Q (.int (yQ ns k)) H
end L2
namespace L2
open PySem
theorem lt2{vs:Array Value}{v:Value}(h:vs[2]?=some v):1<vs.size:=bA (c8.mp h).1
def ExO(h:Heap)(e:Addr)(C:Value)(od:Option Addr)(vs:Array Value):Prop:=∃oe,h.get? e=some oe/\oe.cls=C/\oe.dict=od/\oe.data=.fields vs/\vs[2]?=some .none
def TrO(h:Heap)(e T:Addr)(vs:Array Value)(f:Value):Prop:=vs[1]?=some (.ref T)/\T≠e/\∃oT ts,h.get? T=some oT/\oT.data=.fields ts/\ts[3]?=some f
def Air(L:Addr)(h:Heap)(e:Addr)(C:Value)(od:Option Addr):Option Addr->Prop
|none=>∃vs,ExO h e C od vs/\vs[1]?=some .none
|some T=>∃vs f,ExO h e C od vs/\TrO h e T vs f/\(f=.none\/f=rawInt L)
def Held(f:Value)(h:Heap)(e T:Addr)(C:Value)(od:Option Addr):Prop:=∃vs,ExO h e C od vs/\TrO h e T vs f
structure Chg(fr rs:List Addr)(h h':Heap):Prop where
keep:∀b o,b∉fr->b∉rs->h.get? b=some o->h'.get? b=some o
slot:∀b o,b∉rs->h.get? b=some o->∃sl,h'.get? b=some { o with slots:=sl }
there:∀b o,h.get? b=some o->∃o',h'.get? b=some o'
theorem Chg.refl{fr:List Addr}:Chg fr rs h h:=⟨λz z z z e=>e,λz o z e=>⟨o.slots,e⟩,λz o e=>⟨o,e⟩⟩
theorem Chg.trans{fr:List Addr}(x:Chg fr rs h h1)(y:Chg fr rs h1 h2):Chg fr rs h h2:=⟨λb o f r e=>y.keep b o f r (x.keep b o f r e),λb o r e=>let⟨_,e1⟩:=x.slot b o r e;let⟨sl,e2⟩:=y.slot b _ r e1;⟨sl,e2⟩,λb o e=>let⟨_,e1⟩:=x.there b o e;y.there b _ e1⟩
theorem Chg.fresh{fr:List Addr}(x:Chg fr rs h h1)(y:Chg fr rs' h1 h2)(n:∀b∈rs',b∈rs\/h.get? b=none):Chg fr rs h h2:=by
 have m:∀b o,b∉rs->h.get? b=some o->b∉rs':=λb o r e z=>(n b z).elim r λq=>by lia
 exact⟨λb o f r e=>y.keep b o f (m b o r e) (x.keep b o f r e),λb o r e=>let⟨_,e1⟩:=x.slot b o r e;let⟨sl,e2⟩:=y.slot b _ (m b o r e) e1;⟨sl,e2⟩,λb o e=>let⟨_,e1⟩:=x.there b o e;y.there b _ e1⟩
theorem Chg.slots{fr:List Addr}(x:Heap.SlotsOnly fr h h'):Chg fr rs h h':=⟨λb o f z e=>(x.2.1 b f).trans e,λb o z e=>x.2.2 b o e,λb o e=>let⟨sl,q⟩:=x.2.2 b o e;⟨_,q⟩⟩
theorem Chg.upd{fr:List Addr}{h:Heap}{a:Addr}{f:Obj->Obj}(ha:a∈rs)(hf:∀o,h.get? a=some o->(f o).isFreed=false):Chg fr rs h (h.update a f):=by(
have k:∀b o,b∉rs->h.get? b=some o->(h.update a f).get? b=some o:=λb o r e=>by exact(mJ h f (λ(q:a=b)=>r (q▸ha))).trans e
refine⟨λb o z r e=>k b o r e,λb o r e=>⟨o.slots,k b o r e⟩,λb o e=>?_⟩
by_cases q:b=a
.subst q;exact⟨_,rO f e (hf o e)⟩
exact⟨o,by rw[mJ h f (cC q)];exact e⟩)
theorem Chg.push{fr:List Addr}{o:Obj}:Chg fr rs h (h.push o):=⟨λb u z z e=>kM _ e,λb u z e=>⟨u.slots,kM _ e⟩,λb u e=>⟨u,kM _ e⟩⟩
theorem qEK(o:Obj)(f:Array Value->Array Value):(o.mapFields f).dict=o.dict:=by obtain⟨c,d,z,D⟩:=o;cases z<;>rfl
theorem ExO.set(x:ExO h e C od vs)(i:Nat)(v:Value)(hi:i≠2:=by decide):ExO (h.update e (Obj.mapFields (·.setIfInBounds i v))) e C od (vs.setIfInBounds i v):=by obtain⟨N,h1,h2,D,J,I⟩:=x;have z:=pP J (·.setIfInBounds i v);exact⟨_,rO _ h1 (wQ z),(Obj.cls_mapFields _ _).trans h2,(qEK _ _).trans D,z,(Array.getElem?_setIfInBounds_ne hi).trans I⟩
theorem ExO.of{h':Heap}(x:ExO h e C od vs)(k:∀o,h.get? e=some o->h'.get? e=some o):ExO h' e C od vs:=let⟨oe,h1,r⟩:=x;⟨oe,k _ h1,r⟩
section
variable{M:Model}{A:Around}{E:Value->Shared->Prop}{s:Shared}{env:Env}{outer:List Env}{L e T:Addr}{C:Value}{od:Option Addr}{base:Heap}
theorem ExO.nofr{l:List Env}(x:ExO h e C od vs)(hl:h.FunFrames base l):e∉l.filterMap (·.frame):=λhm=>by(
obtain⟨_,o,ho,hn⟩:=hl.mem hm
obtain⟨oe,h1,_,_,h4,_⟩:=x
grind)
theorem qB6(hfr:A.frames=some (env::outer))(hl:s.heap.FunFrames base (env::outer))(hf:env.frame=some L)(x:ExO s.heap e C od vs)
 (q:∀h' T,Chg ((env::outer).filterMap (·.frame)) [e] s.heap h'->Held (rawInt L) h' e T C od->s.heap.objs.size<=T->Q () { s with heap:=h' }):
 wpAny M A (do let a<-frameOf env;let pl<-entryPlaceOf L hn;let b<-EntryCells.newEntry head a .none (rawInt L) .none pl;setField (.ref e) 1 b) Q E s:=by(
have ne:=x.nofr hl
refine kI (wpAny_frameOf_fun hfr hl hf λh1 I=>kI (wpAny_entryPlaceOf λpl Z=>?_))
refine kI (bC ?_ (Z.sizeOk5 _ _ _ _ _))
have S:=x.of λo z=>(I.2.1 e ne).trans z
have N:=S.of  λo z=>kM { cls:=.type "traceback",dict:=none,data:=.fields ([head,.ref L,.none,rawInt L,.none]++(if pl.isEmpty then List.replicate 6 Value.none else pl)).toArray } z
obtain⟨oe,J,a2,a3,U,O⟩:=id N
refine xQ J U (lt2 O) ?_
have D:=let⟨_,z,_⟩:=S;mD z
have fresh:=pW I.1.symm
refine q _ _ (((Chg.slots I).trans Chg.push).trans (Chg.upd (kD.mpr rfl) λo z=>?_)) ⟨_,N.set 1 _,?_,rC D,{ cls:=.type "traceback",dict:=none,data:=.fields ([head,.ref L,.none,rawInt L,.none]++(if pl.isEmpty then List.replicate 6 Value.none else pl)).toArray },_,?_,rfl,?_⟩ fresh
.rw[J]at z;cases z;exact wQ (pP U _)
.simp[lt2 O]
.rw[mJ _ _ (gC D)];exact mZ h1 rfl
rfl)
theorem qDB{tr:Option Addr}(hfr:A.frames=some (env::outer))(hl:s.heap.FunFrames base (env::outer))(hf:env.frame=some L)(x:Air L s.heap e C od tr)
 (q:∀h' T,Chg ((env::outer).filterMap (·.frame)) (e::tr.toList) s.heap h'->Held (rawInt L) h' e T C od->(T∈tr\/s.heap.objs.size<=T)->Q () { s with heap:=h' }):
 wpAny M A (noteFrame (.ref e) env) Q E s:=by(
unfold noteFrame
simp only[hf]
cases tr with
|none=>obtain⟨Z,x,h1⟩:=x;obtain⟨oe,U,a2,a3,S,a5⟩:=id x;refine kI (lB U S h1 ?_);rw[kE (by decide)];exact qB6 hfr hl hf x λh' T c J n=>q h' T c J (.inr n)
|some T=>
 obtain⟨Z,f,x,⟨t1,t2,oT,ts,I,D,O⟩,hfl⟩:=x;obtain⟨oe,U,a2,a3,S,a5⟩:=id x;refine kI (lB U S t1 ?_);rw[kL (by simp)];refine kI (lB I D O ?_);rcases hfl with rfl|rfl
 .rw[kE (by simp[rawInt])];refine kI (xQ I D (c8.mp O).1 ?_);have k:∀b o,b≠T->s.heap.get? b=some o->(s.heap.update T (Obj.mapFields (·.setIfInBounds 3 Value.none))).get? b=some o:=λb o n z=>(mJ _ _ (cC n)).trans z;have N:=hl.of_keeps λb o z nf=>⟨o,k b o (λw=>by subst w;rw[I]at z;cases z;exact nf _ D) z,rfl⟩;refine qB6  hfr N hf (x.of λo z=>k e o (cC t2) z) λh' T' c J n=>q h' T' ?_ J ?_
  .refine(Chg.upd (a:=T) (by simp) λo z=>?_).fresh c λb hb=>.inl ?_
   .rw[I]at z;cases z;exact wQ (pP D _)
   rw[kD.mp hb];exact kX
  exact .inr (kQ (pW (Heap.size_after_update ..).symm) n)
 rw[kL (by simp)];exact mO (q _ T .refl ⟨Z,x,t1,t2,oT,ts,I,D,O⟩ (.inl rfl)))
theorem q3N{f:Value}{fr:Option Addr}(x:Held f s.heap e T C od)
 (q:∀h',Chg [] [T] s.heap h'->Held (fr.elim .none λf=>rawInt f) h' e T C od->Q () { s with heap:=h' }):wpAny M A (setFlight (.ref e) fr) Q E s:=by(
obtain⟨Z,x,S,N,oT,ts,D,O,t5⟩:=x
obtain⟨oe,U,a2,a3,a4,a5⟩:=id x
have J:=(c8.mp t5).1
refine kI (lB U a4 S ?_)
have I:=pP O (·.setIfInBounds 3 (fr.elim .none λf=>rawInt f))
refine xQ D O J (q _ (Chg.upd (by simp) λo z=>?_) ⟨Z,x.of λo z=>?_,S,N,_,_,rO _ D (wQ I),I,by simp[J]⟩)
.rw[D]at z;cases z;exact wQ I
exact(mJ _ _ N).trans z)
theorem Held.air{f:Value}(x:Held f h e T C od)(hf:f=.none\/f=rawInt L):Air L h e C od (some T):=let⟨vs,a,b⟩:=x;⟨vs,f,a,b,hf⟩
theorem qFR{tr:Option Addr}(hfr:A.frames=some (env::outer))(hl:s.heap.FunFrames base (env::outer))(hf:env.frame=some L)(x:Air L s.heap e C od tr)
 (q:∀h' T,Chg ((env::outer).filterMap (·.frame)) (e::tr.toList) s.heap h'->Held .none h' e T C od->(T∈tr\/s.heap.objs.size<=T)->Q () { s with heap:=h' }):wpAny M A (leaving env (.ref e)) Q E s:=by(
refine kI (qDB hfr hl hf x λh' T c N n=>q3N N λh2 D I=>q h2 T ?_ I n)
refine c.fresh  ⟨λb o U r z=>D.keep b o (by simp) r z,D.slot,D.there⟩ λb J=>?_
rw[kD.mp J]
exact n.imp (λz=>kB _ (by simp_all)) cY)
end
end L2
namespace L2
open PySem PySem.Spec PyProof.Rows
section
variable{P:Program}{w:World}{H:Hp}{h h':Heap}{a:Addr}{o:HO}
theorem jQ.there(x:jQ P w H h a o):∃ob,h.get? a=some ob:=by(
cases o with
|lst xs=>obtain⟨_,_,_,_,e⟩:=x;exact⟨_,e⟩
|tup xs=>obtain⟨_,_,_,_,e,_⟩:=x;exact⟨_,e⟩
|dK kvs=>obtain⟨_,_,_,_,o,_,_,e,_⟩:=x;exact⟨_,e⟩
|dT kvs=>obtain⟨_,_,_,_,o,_,_,e,_⟩:=x;exact⟨_,e⟩
|set S n=>obtain⟨o,_,_,_,e,_⟩:=x;exact⟨_,e⟩
|ins C dx fs=>obtain⟨_,_,_,e,_⟩:=x;exact⟨_,e⟩
|own y=>exact x
|xd fs=>obtain⟨_,⟨_,_,_,e,_⟩,_⟩:=x;exact⟨_,e⟩
|rng D z=>obtain⟨_,_,_,e⟩:=x;exact⟨_,e⟩
|frz ob u=>exact⟨_,x.1⟩
|tbl ps=>exact⟨_,show h.get? a=some _ from x⟩
|met f y=>exact⟨_,show h.get? a=some _ from x⟩
|ext φ=>exact x.2.1)
theorem HOk.free(x:HOk P w H h)(e:h.get? a=none):H a=none:=by(
cases q:H a with
|none=>rfl
|some o=>obtain⟨_,z⟩:=(x a o q).there;lia)
theorem HOk.chg{fr:List Addr}(x:HOk P w H h)(c:Chg fr rs h h')(hf:∀b∈fr,H b=none)(hr:∀b∈rs,H b=none):HOk P w H h':=by(
intro a o e
refine(x a o e).stay (λb u D z=>?_) (λU q=>q) λU U q=>q
have n:H b≠none:=by
 lia
exact c.keep b u (λm=>n (hf b m)) (λm=>n (hr b m)) z)
end
def Recs(h:Heap)(rs:List Addr):Prop:=∀b∈rs,∃o vs,h.get? b=some o/\o.data=.fields vs
theorem Air.recs{e:Addr}{tr:Option Addr}(x:Air L h e C od tr):Recs h (e::tr.toList):=by(
intro b J
cases tr with
|none=>
 obtain⟨N,⟨O,z,_,_,I,_⟩,_⟩:=x;have D:=by simpa using J
 subst D;exact⟨_,_,z,I⟩
|some T=>
 obtain⟨N,f,⟨O,z,_,_,I,_⟩,⟨_,_,oT,ts,t3,t4,_⟩,_⟩:=x;have D:=by simpa using J
 rcases D with rfl|rfl
 .exact⟨_,_,z,I⟩
 exact⟨_,_,t3,t4⟩)
def Ours(X:Cx)(pins:List (Addr×Obj))(H:Hp)(rs:List Addr):Prop:=∀b∈rs,(X.s₀.heap.get? b=none\/b∈X.ex)/\H b=none/\∀p∈X.pn++pins,p.1≠b
section
variable{X:Cx}{pins:List (Addr×Obj)}{σ:St}{H:Hp}{s:Shared}{h':Heap}{rs:List Addr}
theorem Inv.chg(I:Inv X pins σ H s)(c:Chg (frs X.stack) rs s.heap h')(o:Ours X pins H rs)(rc:Recs s.heap rs):Inv X pins σ H { s with heap:=h',toks:=t' }:=by(
obtain⟨m,hn,hv⟩:=I.loc
have nl:X.env.locals∉rs:=λz=>by obtain⟨D,vs,e,d⟩:=rc _ z;obtain⟨o',es,ep,O,U,_⟩:=hn;lia
have nc:∀c v,s.heap.IsCell c v->c∉rs:=λc v q z=>by obtain⟨D,vs,e,d⟩:=rc _ z;obtain⟨o',O,U⟩:=q;lia
have J:∀c v,s.heap.IsCell c v->h'.IsCell c v:=λa v q=>by have n:=nc a v q;obtain⟨o',O,U⟩:=q;obtain⟨sl,z⟩:=c.slot a o' n O;exact⟨_,z,U⟩
have N:∀b D,X.s₀.heap.get? b=some D->b∉X.ex->b∉rs:=λb D q ne z=>by
 rcases(o b z).1 with y|y
 .rw[q]at y;cases y
 exact ne y
have S:h'.Ns X.env.locals m:=by obtain⟨o',es,ep,O,r⟩:=hn;obtain⟨sl,z⟩:=c.slot _ o' nl O;exact⟨_,es,ep,z,r⟩
refine⟨I.ok,I.os,I.bare,⟨λb D q n nf ne=>?_,λb D q n hf ne=>?_,I.base.free,λb D q ne=>?_,I.base.tups,I.base.frzs,I.base.tbls⟩,⟨m,S,λi x v e1 e2 e3=>?_⟩,λx a e=>?_,I.free,I.freeC,λp hp=>?_,I.hok.chg c I.stkFree λb hb=>(o b hb).2.1,I.len⟩
.refine c.keep b D (λz=>?_) (N b D q ne) (I.base.keep b D q n nf ne);rcases kN.mp (I.stkSub b z)with rfl|y
 .exact absurd (mD q) (sJ.mpr I.ok.above)
 exact nf y
.obtain⟨sl,z⟩:=I.base.slot b D q n hf ne;obtain⟨Z,z'⟩:=c.slot b _ (N b D q ne) z;exact⟨Z,z'⟩
.obtain⟨o',z⟩:=I.base.there b D q ne;exact c.there b o' z
.obtain⟨u,r,lk⟩:=hv i x v e1 e2 e3;refine⟨u,r,lk.imp id λ⟨k,cc,l,q⟩=>⟨k,cc,l,J _ _ q⟩⟩
.obtain⟨v,q⟩:=I.cell x a e;exact⟨v,J _ _ q⟩
obtain⟨p1,p2,p3,p4,p5⟩:=I.pin p hp
refine⟨c.keep _ _ (λz=>?_) (λz=>(o _ z).2.2 p hp rfl) p1,p2,p3,p4,p5⟩
rcases kN.mp (I.stkSub _ z)with y|y
.exact p3 y
exact p4 y)
end
def CXe(P:Program)(w:World):CXT:=λouter H s E e s'=>∃ea T C od H',e=.ref ea/\s'.os=s.os/\AllBare s'.gens/\Un (frs outer) [] H H' s.heap s'.heap/\HOk P w H' s'.heap/\Held .none s'.heap ea T C od/\(s.heap.get? ea=none/\s.heap.get? T=none)/\(H' ea=none/\H' T=none)/\E C od H'
def q46(X:Cx)(ES:St->XK):Prop:=∀(pins:List (Addr×Obj)) (σ:St) (H:Hp) (s:Shared) (ea:Addr) (tr:Option Addr) (C:Value) (od:Option Addr),Inv X pins σ H s->Air X.env.locals s.heap ea C od tr->Ours X pins H (ea::tr.toList)->ES σ C od H->X.xe (.ref ea) s
def qHX(CX:CXT)(X:Cx)(ES:St->XK):Prop:=∀(pins:List (Addr×Obj)) (σ:St) (H:Hp) (s:Shared) (e:Value) (s':Shared),Inv X pins σ H s->CX X.stack H s (ES σ) e s'->X.xe e s'
theorem q46.passes(t:q46 X ES):qHX (CXe X.prog X.w) X ES:=by(
intro pins σ H s e s' I S
obtain⟨ea,T,C,od,H',O,U,hg,u,J,Z,⟨f1,f2⟩,⟨g1,g2⟩,q⟩:=S
subst O
refine t _ σ H' s' ea _ C od (I.call' U u J hg λb N=>by cases N) (Z.air (.inl rfl)) (λb N=>?_) q
have D:∀b,s.heap.get? b=none->H' b=none->(X.s₀.heap.get? b=none\/b∈X.ex)/\H' b=none/\∀p∈X.pn++pins,p.1≠b:=λb f g=>by
 refine⟨?_,g,λp hp z=>?_⟩
 .by_cases y:b∈X.ex
  .exact .inr y
  refine .inl ?_;cases z:X.s₀.heap.get? b with
  |none=>rfl
  |some ob=>obtain⟨o',z'⟩:=I.base.there b ob z y;lia
 have y:=(I.pin p hp).1;lia
have e':=by simpa using N
rcases e' with rfl|rfl
.exact D _ f1 g1
exact D _ f2 g2)
theorem q02{P:Program}{w:World}{K:PySem.W.Frag}{mg:Str->Option Value}{f:Addr}{s:Shared}:
 q46 (cxOf (CXe P w) P w K mg base N qual scope f cd A outer s H E) (λz=>E):=by(
intro pins σ H' s' ea tr C od I air D q
refine qFR  I.ok.frames I.stack rfl air λh' T c Z n=>?_
have S:=I.chg (t':=s'.toks) c D air.recs
have O:∀b,s'.heap.objs.size<=b->s.heap.get? b=none:=λb z=>by
 cases y:s.heap.get? b with
 |none=>rfl
 |some ob=>obtain⟨o',y'⟩:=I.base.there b ob y (by intro m;cases m);exact absurd (mD y') (sJ.mpr z)
have J:∀b,b∈ea::tr.toList->s.heap.get? b=none/\H' b=none:=λb U=>⟨(D b U).1.elim id (λz=>by cases z),(D b U).2.1⟩
have hT:s.heap.get? T=none/\H' T=none:=by
 rcases n with z|z
 .simp_all
 exact⟨O T z,I.hok.fresh z⟩
exact⟨ea,T,C,od,H',rfl,I.os,I.bare,S.base,S.hok,Z,⟨(J ea (kX)).1,hT.1⟩,⟨(J ea (kX)).2,hT.2⟩,q⟩)
def qCF(C:Addr)(m:Str)(sp:Sp)(dvs:List V)(ES:St->XK)(ta:TE)(t:TA):TE:=λσ H Q=>ta σ H λx H1=>∃a dx fs,x=.ref a/\H1 a=some (.ins C dx fs)/\fs.lookup m=none/\t σ H1 λvs H2=>sp (x::(vs++dvs)) H2 Q (ES σ)
theorem q0L:q46 X (λz z z z=>False):=λz z z z z z z z z z z h=>h.elim
section
variable{X:Cx}{k:Nat}{f C:Addr}{fd:FuncData}{ps:List Str}{sp:Sp}{dvs:List V}{ds:List Value}{E:XK}{ES:St->XK}{x m:Str}{p pos apos:Pos}{e o:Expr}{es:List Expr}{ta:TE}{t:TA}
theorem qDC{s:Shared}(F:FnOk X.prog X.w X.K X.mg X.base (CXe X.prog X.w) k f fd ps sp)(hr:Room k X.A)(hb:yG X.K fd ps ds)(hd:Vals dvs ds)(tk:q46 X ES)
 (I:Inv X pins σ H s) (r:Vals vs us) (h:sp (vs++dvs) H Q (ES σ)):wpAny (model X.prog X.w) X.A (call (.ref f) us) (EP X pins σ Q) X.xe s:=by(
have r2:=r.append hd
have hl:(us++ds).length=ps.length:=by rw[<-r2.length];exact F.len _ _ _ _ h
refine pN (pZ (F.run X.A _ s H _ _ _ Q _ hr I.env0 (hb s us I.kIn hl) r2 h) λr s' z=>?_)
cases r with
|error e=>exact tk.passes _ σ H s e s' I z
|ok D=>
 cases D with
 |ret u=>exact I.after z
 |next=>assumption
 |brk=>assumption
 |cont=>assumption)
theorem q71(tk:q46 X ES)(he:PE X o ta)(c:Cls X.K C)(hm:Meth X.K C m f)(F:FnOk X.prog X.w X.K X.mg X.base (CXe X.prog X.w) k f fd ps sp)(hr:Room k X.A)(hb:yG X.K fd ps ds)(hd:Vals dvs ds)(ha:PA X (e::es) t)
 (hst:starEach (e::es) X.env=(false,eval e X.env)::starEach es X.env:=by rfl) (hpl:(backTo pos (starEach es X.env)).any (·.1)=false:=by rfl)
 (ht:eval (.Call (.Attribute o m apos) (e::es) [] pos) X.env=(do
  let ov<-eval o X.env
  standAt apos.atName
  let(f,first)<-holding [ov] (getMethod ov m pl)
  callWith pos f first (backTo pos (starEach (e::es) X.env)) (backToKw pos (keywordEach [] X.env))):=by rfl):
 PE X (.Call (.Attribute o m apos) (e::es) [] pos) (qCF C m sp dvs ES ta t):=by(
intro pins s σ H Q I h
refine wP  (thn (he _ s σ H _ I h) λu O J=>?_) ht
obtain⟨x,H1,D,N,a,dx,fs,ex,ea,l,q⟩:=J
subst ex
obtain rfl:u=Value.ref a:=N
refine q1V D ea c hm l ?_
refine cL   I.ok.mod.kin hm.kp (thn (ha pos _ O σ H1 _ D q) λU Z ⟨vs,H2,z,r,S⟩=>⟨z.kIn,?_⟩) hst hpl
exact qDC  (vs:=.ref a::vs) F hr hb hd tk z (.cons rfl r) S)
theorem vU(tk:q46 X ES)(he:PE X o ta)(c:Cls X.K C)(hm:Meth X.K C m f)(F:FnOk X.prog X.w X.K X.mg X.base (CXe X.prog X.w) k f fd ps sp)(hr:Room k X.A)(hb:yG X.K fd ps ds)(hd:Vals dvs ds)
 (ht:eval (.Call (.Attribute o m apos) [] [] pos) X.env=(do
  let ov<-eval o X.env
  standAt apos.atName
  let(f,first)<-holding [ov] (getMethod ov m pl)
  callWith pos f first (backTo pos (starEach [] X.env)) (backToKw pos (keywordEach [] X.env))):=by rfl):
 PE X (.Call (.Attribute o m apos) [] [] pos) (qCF C m sp dvs ES ta tNil):=by(
intro pins s σ H Q I h
refine wP  (thn (he _ s σ H _ I h) λu N J=>?_) ht
obtain⟨x,H1,z,D,a,dx,fs,ex,ea,l,q⟩:=J
subst ex
obtain rfl:u=Value.ref a:=D
refine q1V z ea c hm l ?_
exact sZ  z.kIn hm.kp (qDC (us:=[.ref a]) (vs:=[.ref a]) F hr hb hd tk z (.cons rfl .nil) q))
end
structure FunD(K:PySem.W.Frag)(x qual:Str)(st:Stmt)(dV:Value)(f:Addr)(fd:FuncData):Prop where
ex:∃(oc:Value) (od:Option Addr) (kV doc pm:Value) (an:Option Addr) (cdv ct:Value) (osl:Array (Option Value)),fd=PySem.W.fnOf x qual (yU st) (jY st) (qH st) dV kV doc pm an cdv ct/\K.lookup f=some ⟨oc,od,.func fd,osl⟩/\PySem.W.codeIn K cdv qual=true
section
variable{P:Program}{w:World}{K:PySem.W.Frag}{mg:Str->Option Value}{base:Heap}{dV:Value}
theorem FunD.mk'{x qual:Str}{st:Stmt}{f:Addr}{oc:Value}{od an:Option Addr}{osl:Array (Option Value)}{kV doc pm cdv ct:Value}(l:K.lookup f=some ⟨oc,od,.func (PySem.W.fnOf x qual (yU st) (jY st) (qH st) dV kV doc pm an cdv ct),osl⟩)
 (c:PySem.W.codeIn K cdv qual=true):FunD K x qual st dV f (PySem.W.fnOf x qual (yU st) (jY st) (qH st) dV kV doc pm an cdv ct):=⟨oc,od,kV,doc,pm,an,cdv,ct,osl,rfl,l,c⟩
theorem FunD.okE{x qual:Str}{st:Stmt}{f:Addr}{fd:FuncData}{N ps:List Str}{k:Nat}{sp:Sp}(F:FunD K x qual st dV f fd)(S:FnScope N ps (qH st))(len:∀vs H Q E,sp vs H Q E->vs.length=ps.length)
 (hbody:∀(cdv:Value) (A:Around) (outer:List Env) (s:Shared) (H:Hp) (vs:List V) (Q:VK) (E:XK),Room k (A.deeper (envOfC qual (qH st) s.heap.objs.size f cdv))->sp vs H Q E->∃t,PSs (cxOf (CXe P w) P w K mg base N qual (qH st) f cdv A outer s H E) (jY st) t/\t { nx:=λz H'=>Q .non H',rt:=Q } (q01 N vs) H):FnOk P w K mg base (CXe P w) (k+1) f fd ps sp:=by obtain⟨oc,od,kV,O,pm,an,cdv,Z,I,rfl,U,z⟩:=F.ex;exact qD7 U z S len λA outer s H vs Q E J D=>hbody cdv A _ s H vs Q E J D
theorem FunD.ok0{x qual:Str}{st:Stmt}{f:Addr}{fd:FuncData}{N ps:List Str}{k:Nat}{sp:Sp}(F:FunD K x qual st dV f fd)(S:FnScope N ps (qH st))
 (hbody:∀(cdv:Value) (A:Around) (outer:List Env) (s:Shared) (H:Hp) (vs:List V) (Q:VK) (E:XK),Room k (A.deeper (envOfC qual (qH st) s.heap.objs.size f cdv))->sp vs H Q E->∃t,PSs (cxOf CX0 P w K mg base N qual (qH st) f cdv A outer s H E).nox (jY st) t/\t { nx:=λz H'=>Q .non H',rt:=Q } (q01 N vs) H)(len:∀vs H Q E,sp vs H Q E->vs.length=ps.length:=by intro _ _ _ _ h;first|(cases h;subst_vars;rfl)|((repeat obtain⟨_,h⟩:=h);all_goals subst_vars;rfl)):FnOk P w K mg base CX0 (k+1) f fd ps sp:=by(
obtain⟨oc,od,kV,O,pm,an,cdv,Z,I,rfl,U,z⟩:=F.ex
refine qD7 U z S len λA outer s H vs Q E J D=>?_
obtain⟨t,h,q⟩:=hbody cdv A _ s H vs Q E J D
exact⟨t,h.nox,q⟩)
end
noncomputable abbrev bmVE:List Value:=[.type "ValueError",.type "Exception",.type "BaseException",.type "object"]
abbrev XCls(K:PySem.W.Frag)(C:Addr):Prop:=PySem.W.excIn K C bmVE "ValueError.__new__"=true
set_option tactic.hygienic true in
theorem qHY{K:PySem.W.Frag}(q:XCls K C):∃bm N nm qn bs hd sn sub ab col dd k0 k1 k2 k3 k5,K.lookup C=some (excClassObj nm qn C N bs bm hd sn sub ab col dd k0 k1 k2 k3 k5 "ValueError.__new__")/\PySem.W.tailIn K bmVE bm=true/\PySem.W.nsOkIn K N=true/\PySem.W.nsIn K N "__init__"=some none:=by(
unfold XCls PySem.W.excIn at q
split at q
.rename_i dd Z O J;split at q
 .rename_i C' bm k0 k1 k2 k3 n k5 z D;obtain⟨nm,bs,aa,ns,qn,hd,sn,sub,ab,col,U⟩:=Z;obtain⟨l⟩:=O;simp only[gE,wZ,rD]at q z D;obtain⟨⟨⟨⟨⟨I,S⟩,e3⟩,e4⟩,e5⟩,e6⟩:=q;subst I S e3 z D;exact⟨bm,ns,nm,qn,bs,hd,sn,sub,ab,col,dd,k0,k1,k2,k3,k5,J,e4,e5,e6⟩
 lia
lia)
def qL1(ES:St->XK)(C:Addr)(t:TA):TS:=λz σ H=>t σ H λvs H1=>vs.length<=sizeLine/\ES σ (.ref C) none H1
section
variable{X:Cx}{ES:St->XK}{C:Addr}{x:Str}{np cpos pos:Pos}{e:Expr}{es:List Expr}{t:TA}
theorem qFS{pins:List (Addr×Obj)}{σ:St}{H:Hp}{s:Shared}{h':Heap}{ea:Addr}{C:Value}{vs:List Value}(I:Inv X pins σ H s)(m:Heap.MadeExcOf s.heap h' ea C vs):
 Air X.env.locals h' ea C none none/\Ours X pins H [ea]:=by(
obtain⟨t,D,U,Z⟩:=m.there
refine⟨⟨_,⟨_,D,rfl,rfl,rfl,by rfl⟩,rfl⟩,λb S=>?_⟩
rw[kD.mp S]
refine⟨?_,I.hok.free m.new,λp O z=>?_⟩
.by_cases y:ea∈X.ex
 .exact .inr y
 refine .inl ?_;cases z:X.s₀.heap.get? ea with
 |none=>rfl
 |some N=>obtain⟨o',J⟩:=I.base.there ea N z y;rw[m.new]at J;lia
have y:=(I.pin p O).1
rw[z,m.new]at y
lia)
theorem qFT(tk:q46 X ES)(hc:X.calm=true)(hg:Gl X x)(hm:X.mg x=some (.ref C))(hx:XCls X.K C)(ha:PA X (e::es) t)(hdb:(x==("__debug__":Str))=false:=by decide)
 (he:starEach (e::es) X.env=(false,eval e X.env)::starEach es X.env:=by rfl) (hpl:(backTo cpos (starEach es X.env)).any (·.1)=false:=by rfl):
 PS X (.Raise (some (.Call (.Name x np) (e::es) [] cpos)) none pos) (qL1 ES C t):=by(
intro pins s σ H D I hq
obtain⟨bm,N,nm,qn,bs,hd,sn,sub,ab,col,dd,k0,k1,k2,k3,k5,lk,tl,ok,ni⟩:=qHY hx
have U:=I.mod.kin
have T0:=PySem.W.tail_of_in U tl
have hN:X.base.Ns N (X.base.nsMap N):=.of_isNs (PySem.W.isNs_of_in U ok)
have ac:=PySem.W.nsMap_none_of_in U ok ni
have J:(backTo cpos (starEach (e::es) X.env)).any (·.1)=false:=by rw[he];assumption
refine wpAny_Raise_call_subT (C:=C) (nm:=nm) (q:=qn) (N:=N) (bs:=bs) (bm:=bm) (hdct:=hd) (sn:=sn) (sub:=sub) (ab:=ab) (col:=col) (dd:=dd) (k0:=k0) (k1:=k1) (k2:=k2) (k3:=k3) (k5:=k5) (mN:=X.base.nsMap N)
 PySem.F.excBase_ValueError (T0.hasType (by decide)) (I.ok.hd hc) J ac (q3K I hg hm ⟨rfl,?_⟩ hdb)
have h0:=ha cpos pins s σ H _ I hq
rw[he]at h0 ⊢
refine PySem.Calls.evalArgs_plain (dN h0 (λus s1 h1=>?_) λz z y=>y)
obtain⟨vs,H1,O,r,hz,hE⟩:=h1
refine⟨rfl,by rw[<-r.length];exact hz,O.bk _ _ (U _ _ lk),?_,T0.keeps O.bk,λh' ea m=>?_⟩
.obtain⟨o',Z,aa,z,rr⟩:=hN;exact⟨o',Z,aa,O.bk _ _ z,rr⟩
obtain⟨air,S⟩:=qFS O m
refine tk pins σ H1 { s1 with heap:=h' } ea none (.ref C) none (O.kept (t':=s1.toks) m.keeps) air S hE)
end
noncomputable abbrev Cx.tr(X:Cx)(pins:List (Addr×Obj))(XE:Value->Shared->Prop):Cx:={ X with pn:=X.pn++pins,xe:=XE }
noncomputable abbrev Cx.sui(X:Cx)(e:Addr):Cx:={ X with A:=X.A.mark (some (.ref e)),calm:=false,xe:=λz z=>False }
theorem Chg.mono{fr:List Addr}(c:Chg fr rs h h')(f:∀b∈fr,b∈fr')(r:∀b∈rs,b∈rs'):Chg fr' rs' h h':=⟨λb o a z e=>c.keep b o (λy=>a (f b y)) (λy=>z (r b y)) e,λb o z e=>c.slot b o (λy=>z (r b y)) e,c.there⟩
theorem Held.recs{f:Value}{T:Addr}(x:Held f h e T C od):Recs h [e,T]:=by(
obtain⟨N,⟨O,z,_,_,I,_⟩,_,_,oT,ts,t3,t4,_⟩:=x
intro b J
have D:=by simpa using J
rcases D with rfl|rfl
.exact⟨_,_,z,I⟩
exact⟨_,_,t3,t4⟩)
section
variable{X:Cx}{pins:List (Addr×Obj)}{σ:St}{H:Hp}{s:Shared}{XE:Value->Shared->Prop}
theorem Inv.tr(I:Inv X pins σ H s)(XE:Value->Shared->Prop):Inv (X.tr pins XE) [] σ H s:=have ok:=I.ok
 ⟨⟨ok.mod,ok.kind,ok.glob,ok.blt,ok.above,ok.inj,ok.has,ok.cab,ok.hd,ok.frames,ok.stk,ok.exf,ok.bs,ok.bsz,ok.noex,ok.exfs,ok.funs,ok.frf⟩,I.os,I.bare,I.base,I.loc,I.cell,I.free,I.freeC,λp hp=>I.pin p (by simp_all),I.hok,I.len⟩
theorem Inv.untr(I:Inv (X.tr pins XE) ps σ H s):Inv X pins σ H s:=have ok:=I.ok
 ⟨⟨ok.mod,ok.kind,ok.glob,ok.blt,ok.above,ok.inj,ok.has,ok.cab,ok.hd,ok.frames,ok.stk,ok.exf,ok.bs,ok.bsz,ok.noex,ok.exfs,ok.funs,ok.frf⟩,I.os,I.bare,I.base,I.loc,I.cell,I.free,I.freeC,λp hp=>I.pin p (gX _ hp),I.hok,I.len⟩
theorem Inv.sui(I:Inv X pins σ H s)(e:Addr):Inv (X.sui e) pins σ H s:=have ok:=I.ok
 ⟨⟨ok.mod,ok.kind,ok.glob,ok.blt,ok.above,ok.inj,ok.has,ok.cab,(λz=>by cases z),ok.frames,ok.stk,ok.exf,ok.bs,ok.bsz,ok.noex,ok.exfs,ok.funs,ok.frf⟩,I.os,I.bare,I.base,I.loc,I.cell,I.free,I.freeC,I.pin,I.hok,I.len⟩
theorem Inv.unsui(hc:X.calm=true->X.A.handled=none)(I:Inv (X.sui e) pins σ H s):Inv X pins σ H s:=have ok:=I.ok
 ⟨⟨ok.mod,ok.kind,ok.glob,ok.blt,ok.above,ok.inj,ok.has,ok.cab,hc,ok.frames,ok.stk,ok.exf,ok.bs,ok.bsz,ok.noex,ok.exfs,ok.funs,ok.frf⟩,I.os,I.bare,I.base,I.loc,I.cell,I.free,I.freeC,I.pin,I.hok,I.len⟩
theorem SP.untr{f:Flow}(h:SP (X.tr pins XE) [] D f s'):SP X pins D f s':=by(
cases f with
|next=>obtain⟨z,H',I,q⟩:=h;exact⟨z,H',I.untr,q⟩
|brk=>obtain⟨z,H',I,q⟩:=h;exact⟨z,H',I.untr,q⟩
|cont=>obtain⟨z,H',I,q⟩:=h;exact⟨z,H',I.untr,q⟩
|ret u=>obtain⟨v,z,H',I,r,q⟩:=h;exact⟨v,z,H',I.untr,r,q⟩)
theorem SP.unsui{f:Flow}(hc:X.calm=true->X.A.handled=none)(h:SP (X.sui e) pins D f s'):SP X pins D f s':=by(
cases f with
|next=>obtain⟨z,H',I,q⟩:=h;exact⟨z,H',I.unsui hc,q⟩
|brk=>obtain⟨z,H',I,q⟩:=h;exact⟨z,H',I.unsui hc,q⟩
|cont=>obtain⟨z,H',I,q⟩:=h;exact⟨z,H',I.unsui hc,q⟩
|ret u=>obtain⟨v,z,H',I,r,q⟩:=h;exact⟨v,z,H',I.unsui hc,r,q⟩)
end
def qML(ea:Addr)(C:Value)(od:Option Addr):Heap->Prop:=λh=>∃o vs,h.get? ea=some o/\o.cls=C/\o.dict=od/\o.data=.fields vs
noncomputable abbrev XO(ea:Addr)(C:Value)(od:Option Addr):HO:=.ext (qML ea C od)
abbrev TH:=Ends->St->Hp->Addr->Value->Option Addr->Prop
def PHs(X:Cx)(hs:List ExceptHandler)(t:TH):Prop:=∀(pins:List (Addr×Obj)) (s:Shared) (σ:St) (H:Hp) (D:Ends) (ea T:Addr) (C:Value) (od:Option Addr),Inv X pins σ H s->Held .none s.heap ea T C od->Ours X pins H [ea,T]->t D σ H ea C od->wpAny (model X.prog X.w) X.A (handleBy (.ref ea) X.env hs) (SP X pins D) X.xe s
section
variable{X:Cx}{ES:St->XK}
theorem qL2(tk:q46 X ES)(hf:X.env.frame=some X.env.locals:=by rfl):PHs X [] (λz σ H z C od=>ES σ C od H):=by(
intro pins s σ H D ea T C od I N z q
have rc:=N.recs
obtain⟨vs,x,U,t2,Z,ts,t3,t4,t5⟩:=id N
obtain⟨oe,O,a2,a3,S,a5⟩:=id x
refine kI (lB O S U ?_)
refine kI (q3N N λh' c J=>wpAny_throw ?_)
rw[hf]at J
exact tk _ σ H _ ea _ C od (I.chg   (c.mono (by simp) (by simp)) z rc) (J.air (.inr rfl)) z q)
theorem Inv.pinX{s:Shared}{T:Addr}{f:Value}(I:Inv X pins σ H s)(hd:Held f s.heap ea T C od)(ours:Ours X pins H [ea,T]):
 ∃oe oT,Inv X (pins++[(ea,oe),(T,oT)]) σ H s/\∀h':Heap,h'.get? ea=some oe->h'.get? T=some oT->Held f h' ea T C od:=by(
obtain⟨vs,⟨oe,J,Z,U,N,a5⟩,t1,t2,oT,ts,t3,t4,t5⟩:=hd
refine⟨oe,oT,I.pins_of λp hp=>?_,λh' z1 z2=>⟨vs,⟨oe,z1,Z,U,N,a5⟩,t1,t2,oT,ts,z2,t4,t5⟩⟩
have D:∀b o O,s.heap.get? b=some o->o.data=.fields O->b≠X.env.locals/\b∉X.fs:=λb o O e d=>by
 refine⟨λz=>?_,λz=>?_⟩
 .obtain⟨m,⟨o',es,ep,S,ab,_⟩,_⟩:=I.loc;lia
 obtain⟨_,o',S,hn⟩:=I.funs.mem z;simp_all
rcases gQ.mp hp with z|z
.exact I.pin p (mH _ z)
have z:=by simpa using z
rcases z with rfl|rfl
.exact⟨J,(ours ea (by simp)).2.1,(D _ _ _ J N).1,(D _ _ _ J N).2,λv q=>by lia⟩
exact⟨t3,(ours T (by simp)).2.1,(D _ _ _ t3 t4).1,(D _ _ _ t3 t4).2,λv q=>by lia⟩)
theorem qB7{ty:Expr}{c:V}{s:Shared}{T:Addr}{b:Bool}(hc:PE (X.sui ea) ty (tC c))(rc:RelV c cv)
 (I:Inv X pins σ H s) (hh:X.calm=true->X.A.handled=none) (hd:Held .none s.heap ea T C od) (ours:Ours X pins H [ea,T]) (hx:PySem.W.exmOne X.K C cv=some b) (q:∀s',Inv X pins σ H s'->Held .none s'.heap ea T C od->R (.ok (if b then .brk else .next)) s'):
 codeAny (model X.prog X.w) (X.A.mark (some (.ref ea))) (.handlers (.ref ea) [.ExceptHandler (some ty) none [] pos] X.env) R s:=by(
obtain⟨oe,oT,I1,N⟩:=I.pinX hd ours
refine codeAny_handlers_test (dN (hc _ s σ H (λv H'=>v=c/\H'=H) (I1.sui ea) ⟨rfl,rfl⟩) (λu U h1=>?_) λU U z=>z.elim)
obtain⟨v,H',O,r,e1,e2⟩:=h1
subst e1 e2
have e3:u=cv:=by
 cases v with
 |non=>exact r.trans rc.symm
 |bl b=>exact r.trans rc.symm
 |ref a=>exact r.trans rc.symm
 |ty n=>exact r.trans rc.symm
 |int i=>obtain⟨t,e⟩:=r;obtain⟨S,D⟩:=rc;subst D;unfold PySem.W.exmOne at hx;split at hx<;>cases hx
 |str i=>obtain⟨t,e⟩:=r;obtain⟨S,D⟩:=rc;subst D;unfold PySem.W.exmOne at hx;split at hx<;>cases hx
 |byt i=>obtain⟨t,e⟩:=r;obtain⟨S,D⟩:=rc;subst D;unfold PySem.W.exmOne at hx;split at hx<;>cases hx
 |flt i=>obtain⟨t,e⟩:=r;obtain⟨S,D⟩:=rc;subst D;unfold PySem.W.exmOne at hx;split at hx<;>cases hx
subst e3
have Z:=(O.pin (ea,oe) (by simp)).1
have p2:=(O.pin (T,oT) (by simp)).1
have J:=N _ Z p2
obtain⟨vs,⟨ak,z1,z2,_⟩,_⟩:=id J
have LT:PySem.W.Looks (model X.prog X.w) U.heap (typeOf (.ref ea)) C:=by rw[<-z2];exact(bN z1).andThen .now
have I3:=(Inv.unsui hh O).unpinned
exact(PySem.W.exm_one O.kIn LT hx).here (q U I3 J))
theorem qHZ{ty:Expr}{c:V}{b₀:Stmt}{tr:TH}(hc:∀ea,PE (X.sui ea) ty (tC c))(rc:RelV c cv)(hs:∀ea,PSs (X.sui ea) (b₀::suite) ts)(hr:PHs X rest tr):
 PHs X (.ExceptHandler (some ty) none (b₀::suite) pos::rest) (λD σ H ea C od=>∃b,PySem.W.exmOne X.K C cv=some b/\if b=true then ts D σ H else tr D σ H ea C od):=by(
intro pins s σ H D ea T C od I hd J U
obtain⟨b,S,q⟩:=U
refine wpAny_handleBy_cons (qB7 (hc ea) rc I I.ok.hd hd J S λs' O N=>?_) (by intro z;cases z)
cases b with
|false=>exact hr _ s' σ H D ea T C od O N J q
|true=>refine codeAny_handlers_suite (q3N N λh' c Z=>?_);have I2:=O.chg (t':=s'.toks)  (c.mono (by simp) (by simp)) J N.recs;exact dN (hs ea _ _ σ H D (I2.sui ea) q) (λf s2 z=>z.unsui I.ok.hd) λU U z=>z.elim)
def tTry(tb:(St->XK)->TS)(th:TH):TS:=λD σ H=>tb (λσ' C od H'=>∀ea,H' ea=none->th D σ' H' ea C od) D σ H
theorem qL3{h₀:ExceptHandler}{tb:(St->XK)->TS}
 (hb:∀(pins:List (Addr×Obj)) (XE:Value->Shared->Prop) (ES:St->XK),q46 (X.tr pins XE) ES->PassesOwn (model X.prog X.w) X.A X.env XE->PSs (X.tr pins XE) body (tb ES)) (hh:PHs X (h₀::hs) th)
 (hfs:∃fr,X.stack=X.env::fr:=by exact⟨_,rfl⟩) (hf:X.env.frame=some X.env.locals:=by rfl):PS X (.Try body (h₀::hs) [] [] pos) (tTry tb th):=by(
intro pins s σ H D I q
refine wpAny_Try_except (dN (hb pins _
 _ ?_ PassesOwn.looking [] s σ H D (I.tr _) q) (λf Z z=>?_) λe Z z=>z)
.intro N aa H' s' ea tr C od S air J y;obtain⟨fr,ek⟩:=hfs;have O:X.A.frames=some (X.env::fr):=by rw[I.ok.frames,ek]
 have ff:s'.heap.FunFrames X.base (X.env::fr):=by rw[<-ek];exact S.stack
 refine qDB O ff hf air λh' T c hd n=>?_;have en:frs X.stack=(X.env::fr).filterMap (·.frame):=by rw[ek];rfl
 have I2:Inv (X.tr pins _) N aa H' { s' with heap:=h' }:=S.chg (t':=s'.toks) (by show Chg (frs X.stack) _ _ _;rw[en];exact c) J air.recs;have U:Ours (X.tr pins λe Z=>wpAny (model X.prog X.w) X.A (noteFrame e X.env) (λz s2=>wpAny (model X.prog X.w) X.A (setFlight e none) (λz s3=>wpAny (model X.prog X.w) X.A (handleBy e X.env (h₀::hs)) (SP X pins D) X.xe s3) X.xe s2) X.xe Z) N H' [ea,T]:=by
  intro b hb;have hb:b=ea\/b=T:=by simpa using hb
  rcases hb with rfl|rfl
  .exact J b (by simp)
  rcases n with z|z
  .exact J b (kB _ (by cases tr with|none=>cases z|some t=>cases z;exact kD.mpr rfl))
  refine⟨?_,S.hok.fresh z,λp hp w=>?_⟩
  .by_cases y:b∈X.ex
   .exact .inr y
   refine .inl ?_;cases w:X.s₀.heap.get? b with
   |none=>rfl
   |some ob=>obtain⟨o',w'⟩:=S.base.there b ob w y;exact absurd (mD w') (sJ.mpr z)
  have w':=(S.pin p hp).1;rw[w]at w';exact absurd (mD w') (sJ.mpr z)
 refine q3N hd λh2 c2 ad=>?_;have I3:=I2.chg (t':=s'.toks) (rs:=[ea,T]) (c2.mono (by simp) (by simp)) U hd.recs;exact hh pins _ aa H' D ea T C od I3.untr ad (λb hb=>⟨(U b hb).1,(U b hb).2.1,λp hp=>(U b hb).2.2 p (gX _ hp)⟩) (y ea (J ea (by simp)).2.1)
have z:=z.untr
cases f with
|next=>obtain⟨aa,H',S,y⟩:=z;exact qS pins Z aa H' D S y
|_=>exact z)
end
def NewX(ea:Addr)(C:Value)(od:Option Addr):Heap->Prop:=λh=>∃vs sl,h.get? ea=some ⟨C,od,.fields vs,sl⟩/\vs[2]?=some .none/\vs[1]?=some .none
noncomputable abbrev XN(ea:Addr)(C:Value)(od:Option Addr):HO:=.ext (NewX ea C od)
def qJO(X:Cx)(pins:List (Addr×Obj))(a:Addr):Prop:=(X.s₀.heap.get? a=none\/a∈X.ex)/\∀p∈X.pn++pins,p.1≠a
section
variable{X:Cx}{pins:List (Addr×Obj)}{σ:St}{H:Hp}{s:Shared}{a:Addr}
theorem Inv.young(I:Inv X pins σ H s)(e:s.heap.get? a=none):qJO X pins a:=by(
refine⟨?_,λp J z=>?_⟩
.by_cases y:a∈X.ex
 .exact .inr y
 refine .inl ?_;cases z:X.s₀.heap.get? a with
 |none=>rfl
 |some D=>obtain⟨o',N⟩:=I.base.there a D z y;lia
have y:=(I.pin p J).1
lia)
theorem Inv.trackG{o:HO}(I:Inv X pins σ H s)(n:H a=none)(y:qJO X pins a)(nl:a≠X.env.locals)(nc:∀x c,X.env.cells.lookup x=some c->c≠a)(new:jQ X.prog X.w (upd H a o) s.heap a o):Inv X pins σ (upd H a o) s:=by(
have ne:∀b o',X.s₀.heap.get? b=some o'->b∉X.ex->b≠a:=λb o' z x q=>by
 subst q;rcases y.1 with w|w
 .lia
 exact x w
have D:∀b u,H b=some u->b≠a:=λb u z q=>by lia
refine⟨I.ok,I.os,I.bare,⟨I.base.keep,I.base.slot,λb o' z m x=>?_,I.base.there,λb xs z=>?_,λb o' u z=>?_,λb ps z=>?_⟩,I.loc,I.cell,?_,λx c z=>?_,λp J=>?_,λb u z=>?_,I.len⟩
.rw[qF (ne b o' z x)];exact I.base.free b o' z m x
.have w:=I.base.tups b xs z;rw[qF (D _ _ w)];exact w
.have w:=I.base.frzs b o' u z;rw[qF (D _ _ w)];exact w
.obtain⟨more,w⟩:=I.base.tbls b ps z;exact⟨more,by rw[qF (D _ _ w)];exact w⟩
.rw[qF (cC nl)];exact I.free
.rw[qF (nc x c z)];exact I.freeC x c z
.obtain⟨O,Z,S,N,U⟩:=I.pin p J;exact⟨O,by rw[qF (y.2 p J)];exact Z,S,N,U⟩
by_cases q:b=a
.subst q;rw[qI]at z;lia
rw[qF q]at z
refine(I.hok b u z).stay (λz z z g=>g) (λc g=>?_) λc xs g=>?_
.rw[qF (D _ _ g)];exact g
rw[qF (D _ _ g)];exact g)
end
noncomputable def qFU:List Value->Bool
| .ref _::r=>qFU r
|l=>l==bmVE
noncomputable def veIn(K:PySem.W.Frag)(C:Addr):Bool:=(PySem.W.clsIn K C).any (λcd=>qFU cd.mro)
structure XAt(K:PySem.W.Frag)(C:Addr):Prop where
hd:PySem.W.hasDictIn K C=true
sa:PySem.W.findIn K (.ref C) "__setattr__"=some (some (.builtin "object.__setattr__"))
mro:veIn K C=true
structure XRd(K:PySem.W.Frag)(C:Addr):Prop where
ga:PySem.W.findIn K (.ref C) "__getattribute__"=some (some (.builtin "BaseException.__getattribute__"))
gn:PySem.W.findIn K (.ref C) "__getattr__"=some none
mb:PySem.W.mroIn K C (.type "BaseException")=some true
hd:PySem.W.hasDictIn K C=true
cls:PySem.W.findIn K (.ref C) "__class__"=some (some (.builtin "object.__class__"))
cget:PySem.W.specialIn K (.builtin "object.__class__") "__get__"=some (some (.builtin "getset_descriptor.__get__"))
ctk:PySem.W.takesIn K (.builtin "object.__class__")=some true
mo:PySem.W.mroIn K C (.type "object")=some true
def XAny(H:Hp)(ea:Addr)(C:Value)(od:Option Addr):Prop:=H ea=some (XO ea C od)\/H ea=some (XN ea C od)
section
variable{X:Cx}{pins:List (Addr×Obj)}{σ:St}{H:Hp}{s:Shared}{ea C:Addr}{od:Option Addr}
theorem XAny.at{C:Value}(x:XAny H ea C od)(I:Inv X pins σ H s):∃o vs,s.heap.get? ea=some o/\o.cls=C/\o.dict=od/\o.data=.fields vs:=by(
rcases x with e|e
.exact(I.hok ea _ e).1
obtain⟨vs,D,z,_⟩:=(I.hok ea _ e).1
exact⟨_,vs,z,rfl,rfl,rfl⟩)
theorem qI0{A:Around}{E:Value->Shared->Prop}{K:PySem.W.Frag}{prog:Program}{w:World}{s:Shared}{x:Addr}{ox:Obj}{od:Option Obj}{name:Str}{tk:Tok}{fill b:Bool}{Q:Value->Shared->Prop}(X:K.In s.heap)(J:PySem.W.InstAt s.heap x ox C od)(c:XRd K C)
 (h:∀A',wpAny (model prog w) A' (Builtin.«object.__getattribute__» ⟨[.ref x,.str name tk],[]⟩) (λfin s'=>∃v,fin=.done (.ret v)/\PySem.W.handedIn v=true/\Q v s') (λz z=>False) s):wpAny (model prog w) A (getAttrBy (.ref x) (.str name tk) fill b) Q E s:=by(
obtain⟨I,g,d,t,os⟩:=s
have Z:=J.type (M:=model prog w)
have O:=c6 (M:=model prog w) X c.ga
have L2:=c6 (M:=model prog w) X c.gn
have D:=PySem.F.excAttr_ValueError.ga
unfold getAttrBy
refine g9 (kI (Z.at (kI (O.at ?_))))
refine kI ?_
refine L2.at ?_
refine kI (x9 (g9 ?_))
have N:callGetattribute (.ref x) (.str name tk) (.builtin "BaseException.__getattribute__") b=boundAndCalled (.builtin "BaseException.__getattribute__") (.ref x) (.str name tk):=by unfold callGetattribute;rw[kE (by cases b<;>exact Bool.noConfusion)]
rw[N]
unfold boundAndCalled
rw[D.bind (.ref x)]
refine kI (mO ?_)
refine pN (sR D.plain PySem.F.entry_bexc_ga ?_)
have su:PySem.W.Looks (model prog w) I (isInstance (.ref x) (.type "BaseException")) true:=J.type.andThen (PySem.W.looks_mroIn X c.mb)
have hk:builtinKind "BaseException.__getattribute__"=some .slot:=by decide+kernel
have hs:splitId "BaseException.__getattribute__"=some ("BaseException","__getattribute__"):=by decide+kernel
refine @aK (model prog w) _ _ ⟨I,g,d,t,os⟩ _ "BaseException" "__getattribute__" (.ref x) [.str name tk] [] _ hk hs su (PySem.F.args_bexc_ga (.ref x) (.str name tk)) ?_
refine dN (h _) (λfin s' z=>?_) (λU U z=>z.elim)
obtain⟨v,rfl,S,U⟩:=z
exact PySem.W.handed_on S U)
end
noncomputable def clsV:V->Option Value
| .ref a=>some (.ref a)
| .ty n=>some (.type n)
|_=>none
theorem qFV{c:V}(h:clsV c=some cv)(r:RelV c u):u=cv:=by cases c<;>first|(cases h;exact r)|cases h
def KndT(K:PySem.W.Frag)(H:Hp)(x:V)(t:Value):Prop:=TyOf K H x t\/∃ea C od,x=.ref ea/\t=.ref C/\XAny H ea (.ref C) od/\XRd K C/\(od=none\/∃dx fs,od=some dx/\H dx=some (.xd fs))
set_option tactic.hygienic true in
theorem qL4{K:PySem.W.Frag}{x:Addr}(c:XRd K D):PySem.W.KitX K (.ref x) (.ref D) (λh=>PySem.W.InstAt h x ox D od) where
ty:=λU U U I=>I.type
it:=λU U X U=>by
 obtain⟨cd,hc,_⟩:=sI c.hd;unfold PySem.W.clsIn at hc;split at hc
 .rename_i ho;intro A' Q' E' s' k q;unfold isType loadHead;exact kI (wpAny_loadPart (k _ _ (X _ _ ho)) (mO q))
 cases hc
ne:=λh tp dd its n sl X htp=>by
 obtain⟨cd,hc,_⟩:=sI c.hd;refine bD.mpr λq=>?_;have e:D=tp:=Value.ref.inj (wZ.mp q);subst e;unfold PySem.W.clsIn at hc;split at hc
 .rename_i ho;have z:=(X _ _ ho).symm.trans htp;cases z
 cases hc
ca:=fun {prog w _ _ _ s} X I k=>by
 have hf:PySem.W.findObj K D od "__class__"=some (.bind (.builtin "getset_descriptor.__get__") (.builtin "object.__class__")):=by obtain⟨cd,hc,_⟩:=sI c.hd;unfold PySem.W.findObj;rw[hc,sL,c.cls,sL];dsimp only;rw[c.cget,sL];dsimp only;rw[c.ctk,sL]
 unfold getAttr? getAttrBy?;refine kI (wpAny_mkText (kI (x9 (qI0 (s:={ s with toks:=s.toks+1 }) X I c λA'=>?_))));have L0:=I.type (M:=model prog w);have L1:=PySem.W.looks_find (M:=model prog w) X I hf;obtain⟨hh,gg,d,t,os⟩:=s;refine kI (mO (kI (mO (kI (L0.at (kI (L1.at ?_)))))));show wpAny _ _ (holding [.builtin "object.__class__"] (call (.builtin "getset_descriptor.__get__") [.builtin "object.__class__",.ref x,.ref D]) >>= ret) _ _ _;exact kI (g9 (pN (PySem.W.class_get (s:=⟨hh,gg,d,t+1,os⟩) (ox:=ox) (od:=od) X I c.mo (mO ⟨_,rfl,rfl,mO k⟩))))
theorem uQ:q0I X (.builtin "isinstance") (λxs H Q=>∃x c cv t b,xs=[x,c]/\clsV c=some cv/\KndT X.K H x t/\PySem.W.kitOne X.K t cv=some b/\Q (.bl b) H):=by(
intro pins s σ H xs us Q I r h
obtain⟨x,c,cv,t,b,rfl,hc,ty,e,q⟩:=h
obtain⟨u,w',rfl,ru,S⟩:=qF9 r
cases qFV hc S
rcases ty with ty|⟨ea,C,od,rfl,rfl,hx,ca,hd⟩
.exact qEE I ru ty e λtk=>⟨.bl b,H,I.tok tk,rfl,q⟩
obtain rfl:u=Value.ref ea:=ru
obtain⟨o,vs,Z,U,e3,e4⟩:=hx.at I
have D:PySem.W.notCls o=true:=by rw[PySem.W.notCls,e4]
have J:∃N,PySem.W.InstAt s.heap ea o C N:=by
 rcases hd with rfl|⟨dx,fs,rfl,O⟩
 .exact⟨none,Z,U,D,by simp_all⟩
 obtain⟨mA,n1,rl⟩:=I.hok dx _ O;obtain⟨N,g1,g2⟩:=q8V n1;exact⟨some N,Z,U,D,by rw[e3];exact g1⟩
obtain⟨N,J⟩:=J
exact dM (qL4 ca) I.kIn J e (λz=>nomatch z) λtk=>⟨.bl b,H,I.tok tk,rfl,q⟩)
structure BIni(K:PySem.W.Frag)(W:Addr):Prop where
rd:PySem.W.readsIn K W (.type "type")=true
fd:PySem.W.findCls K (.ref W) (.type "type") "__init__"=some (.val (.builtin "ValueError.__init__"))
ga:PySem.W.specialIn K (.ref W) "__getattribute__"=some (some (.builtin "type.__getattribute__"))
end L2
namespace L2
open PySem
structure Keep(F:List Addr)(H H':Hp):Prop where
k:∀b o,b∉F->H b=some o->H' b=some o
tp:∀b xs,H b=some (.tup xs)->H' b=some (.tup xs)
theorem Keep.refl{F:List Addr}:Keep F H H:=⟨λz z z e=>e,λz z e=>e⟩
theorem Keep.trans{F:List Addr}(a:Keep F H H1)(b:Keep F H1 H2):Keep F H H2:=⟨λx o n e=>b.k x o n (a.k x o n e),λx xs e=>b.tp x xs (a.tp x xs e)⟩
theorem Keep.mono{F:List Addr}(a:Keep F H H')(s:∀b∈F,b∈F'):Keep F' H H':=⟨λx o n e=>a.k x o (λm=>n (s x m)) e,a.tp⟩
theorem Keep.upd{F:List Addr}{p:Addr}{o:HO}(h:H p=some u)(nt:∀xs,u≠ .tup xs)(m:p∈F):Keep F H (upd H p o):=by(
refine⟨λb x n e=>?_,λb xs e=>?_⟩
.rw[qF (λ(z:b=p)=>n (z▸m))];exact e
rw[qF (jZ e h (λz=>nt xs z.symm))];exact e)
theorem Keep.same{F:List Addr}(s:Same H H'):Keep F H H':=⟨λb o z e=>s b o e,λb xs e=>s b _ e⟩
theorem Keep.none{F:List Addr}(a:Keep F H H'){b:Addr}(n:b∉F)(e:H' b=Option.none):H b=Option.none:=by(
cases q:H b with
|none=>rfl
|some o=>rw[a.k b o n q]at e;lia)
structure CM where
bl:Int
pg:Int
mo:Int
lim:List (Key×V)
bo:List V
cl:List Int
dc:List Int
br:List Bool
lf:Option Int
rc:List (Str×Int×Bool)
structure CA where
dx:Addr
li:Addr
bo:Addr
cl:Addr
dc:Addr
br:Addr
rc:Addr
noncomputable def lfV:Option Int->V
| .none=>.non
| .some i=>.int i
noncomputable def chF(a:CA)(m:CM):List (Str×V):=[("blocks",.int m.bl),("pages",.int m.pg),("most",.int m.mo),("limits",.ref a.li),("borne",.ref a.bo),("clearings",.ref a.cl),("deed_counts",.ref a.dc),("broken",.ref a.br),("deeds_left",lfV m.lf),("record",.ref a.rc)]
def trip(H:Hp)(v:V)(d:Str×Int×Bool):Prop:=∃p,v=.ref p/\H p=some (.tup [.str d.1,.int d.2.1,.bl d.2.2])
abbrev Recd(H:Hp):List V->List (Str×Int×Bool)->Prop:=Paired (trip H)
theorem Recd.keep{F:List Addr}(k:Keep F H H')(r:Recd H rs ds):Recd H' rs ds:=Paired.mapP r λv d ⟨p,e,h⟩=>⟨p,e,k.tp _ _ h⟩
theorem _root_.PySem.Paired.len{α β:Type}{F:α->β->Prop}:∀{l₁:List α} {l₂:List β},Paired F l₁ l₂->l₁.length=l₂.length
|_,_,.nil=>rfl
|_,_,.cons _ t=>dL (· + 1) t.len
theorem Paired.snoc{α β:Type}{F:α->β->Prop}:∀{l₁:List α} {l₂:List β} {a:α} {b:β},Paired F l₁ l₂->F a b->Paired F (l₁++[a]) (l₂++[b])
|_,_,_,_,.nil,h=>.cons h .nil
|_,_,_,_,.cons r t,h=>.cons r (Paired.snoc t h)
noncomputable def foot(c:Addr)(a:CA):List Addr:=[c,a.bo,a.cl,a.dc,a.br,a.rc]
structure ChipAt(C:Addr)(H:Hp)(c:Addr)(a:CA)(m:CM):Prop where
ins:H c=some (.ins C a.dx (chF a m))
li:H a.li=some (.dK m.lim)
bo:H a.bo=some (.lst m.bo)
cl:H a.cl=some (.lst (m.cl.map V.int))
dc:H a.dc=some (.lst (m.dc.map V.int))
br:H a.br=some (.lst (m.br.map V.bl))
rc:∃rs,H a.rc=some (.lst rs)/\Recd H rs m.rc
nd:[a.bo,a.cl,a.dc,a.br,a.rc].Nodup
structure CM.Ok(m:CM):Prop where
bl1:2<=m.bl
bl2:m.bl<=16
pg1:1<=m.pg
pg2:m.pg<=16
nbo:(m.bo.length:Int)=m.bl*m.pg
ncl:(m.cl.length:Int)=m.bl
ndc:(m.dc.length:Int)=m.bl
nbr:(m.br.length:Int)=m.bl
lim:∀b v,valV m.lim (Sum.inl b)=some v->∃n,v=.int n
nrc:m.rc.length<=1000000
section
variable{C c:Addr}{a:CA}{m:CM}{H H':Hp}
theorem ChipAt.ne(h:ChipAt C H c a m):c≠a.bo/\c≠a.cl/\c≠a.dc/\c≠a.br/\c≠a.rc:=by obtain⟨rs,e,_⟩:=h.rc;exact⟨jZ h.ins h.bo (by simp),jZ h.ins h.cl (by simp),jZ h.ins h.dc (by simp),jZ h.ins h.br (by simp),jZ h.ins e (by simp)⟩
theorem ChipAt.nel(h:ChipAt C H c a m):a.li≠c/\a.li≠a.bo/\a.li≠a.cl/\a.li≠a.dc/\a.li≠a.br/\a.li≠a.rc:=by obtain⟨rs,e,_⟩:=h.rc;exact⟨jZ h.li h.ins (by simp),jZ h.li h.bo (by simp),jZ h.li h.cl (by simp),jZ h.li h.dc (by simp),jZ h.li h.br (by simp),jZ h.li e (by simp)⟩
theorem ChipAt.dst(h:ChipAt C H c a m):(a.bo≠a.cl/\a.bo≠a.dc/\a.bo≠a.br/\a.bo≠a.rc)/\(a.cl≠a.dc/\a.cl≠a.br/\a.cl≠a.rc)/\(a.dc≠a.br/\a.dc≠a.rc)/\a.br≠a.rc:=by(
have:=h.nd
grind)
theorem ChipAt.keep{F:List Addr}(h:ChipAt C H c a m)(k:Keep F H H')(n:∀b∈a.li::foot c a,b∉F):ChipAt C H' c a m:=by obtain⟨rs,e,r⟩:=h.rc;exact⟨k.k _ _ (n _ (by simp[foot])) h.ins,k.k _ _ (n _ (by simp)) h.li,k.k _ _ (n _ (by simp[foot])) h.bo,k.k _ _ (n _ (by simp[foot])) h.cl,k.k _ _ (n _ (by simp[foot])) h.dc,k.k _ _ (n _ (by simp[foot])) h.br,⟨rs,k.k _ _ (n _ (by simp[foot])) e,r.keep k⟩,h.nd⟩
theorem ChipAt.same(h:ChipAt C H c a m)(s:Same H H'):ChipAt C H' c a m:=h.keep (F:=[]) (Keep.same s) (by simp)
theorem ChipAt.setBo(h:ChipAt C H c a m)(v:List V):ChipAt C (upd H a.bo (.lst v)) c a { m with bo:=v }:=by(
obtain⟨N,n2,n3,n4,n5⟩:=h.ne
obtain⟨Z,O,U,l3,l4,l5⟩:=h.nel
obtain⟨⟨I,J,D,S⟩,⟨b1,b2,b3⟩,⟨c1,c2⟩,d1⟩:=h.dst
obtain⟨rs,e,r⟩:=h.rc
have k:Keep [a.bo] H (upd H _ (.lst v)):=Keep.upd h.bo (λU z=>by cases z) (by simp)
exact⟨by rw[qF N];exact h.ins,by rw[qF O];exact h.li,qI,by rw[qF I.symm];exact h.cl,by rw[qF J.symm];exact h.dc,by rw[qF D.symm];exact h.br,⟨rs,by rw[qF S.symm];exact e,r.keep k⟩,h.nd⟩)
theorem ChipAt.setCl(h:ChipAt C H c a m)(v:List Int):ChipAt C (upd H a.cl (.lst (v.map V.int))) c a { m with cl:=v }:=by(
obtain⟨Z,J,n3,n4,S⟩:=h.ne
obtain⟨O,l1,D,l3,l4,l5⟩:=h.nel
obtain⟨⟨I,U,N,a4⟩,⟨b1,b2,b3⟩,⟨c1,c2⟩,d1⟩:=h.dst
obtain⟨rs,e,r⟩:=h.rc
have k:Keep [a.cl] H (upd H _ (.lst (v.map V.int))):=Keep.upd h.cl (λU z=>by cases z) (by simp)
exact⟨by rw[qF J];exact h.ins,by rw[qF D];exact h.li,by rw[qF I];exact h.bo,qI,by rw[qF b1.symm];exact h.dc,by rw[qF b2.symm];exact h.br,⟨rs,by rw[qF b3.symm];exact e,r.keep k⟩,h.nd⟩)
theorem ChipAt.setDc(h:ChipAt C H c a m)(v:List Int):ChipAt C (upd H a.dc (.lst (v.map V.int))) c a { m with dc:=v }:=by(
obtain⟨n1,n2,I,n4,Z⟩:=h.ne
obtain⟨S,l1,N,J,l4,l5⟩:=h.nel
obtain⟨⟨U,D,O,a4⟩,⟨b1,b2,b3⟩,⟨c1,c2⟩,d1⟩:=h.dst
obtain⟨rs,e,r⟩:=h.rc
have k:Keep [a.dc] H (upd H _ (.lst (v.map V.int))):=Keep.upd h.dc (λU z=>by cases z) (by simp)
exact⟨by rw[qF I];exact h.ins,by rw[qF J];exact h.li,by rw[qF D];exact h.bo,by rw[qF b1];exact h.cl,qI,by rw[qF c1.symm];exact h.br,⟨rs,by rw[qF c2.symm];exact e,r.keep k⟩,h.nd⟩)
theorem ChipAt.addRc{p:Addr}{d:Str×Int×Bool}(h:ChipAt C H c a m)(e:H a.rc=some (.lst rs))(hp:H p=some (.tup [.str d.1,.int d.2.1,.bl d.2.2])):ChipAt C (upd H a.rc (.lst (rs++[.ref p]))) c a { m with rc:=m.rc++[d] }:=by(
obtain⟨n1,n2,n3,n4,I⟩:=h.ne
obtain⟨Z,l1,S,l3,l4,N⟩:=h.nel
obtain⟨⟨a1,a2,U,O⟩,⟨b1,b2,b3⟩,⟨c1,c2⟩,d1⟩:=h.dst
obtain⟨J,D,r⟩:=h.rc
rw[e]at D
cases D
have k:Keep [a.rc] H (upd H a.rc (.lst (rs++[.ref p]))):=Keep.upd e (λU z=>by cases z) (by simp)
exact⟨by rw[qF I];exact h.ins,by rw[qF N];exact h.li,by rw[qF O];exact h.bo,by rw[qF b3];exact h.cl,by rw[qF c2];exact h.dc,by rw[qF d1];exact h.br,⟨_,qI,Paired.snoc (r.keep k) ⟨p,rfl,k.tp _ _ hp⟩⟩,h.nd⟩)
end
noncomputable def CM.deed(m:CM)(w:Str)(pl b:Int)(f:Bool):CM:={ m with lf:=m.lf.map (· - 1),dc:=m.dc.set b.toNat (m.dc.getD b.toNat 0+1),rc:=m.rc++[(w,pl,!f)],br:=if f then m.br.set b.toNat true else m.br }
noncomputable def clr(xs:List V)(i n:Nat):List V:=match n with
|0=>xs
|n+1=>(clr xs i n).set (i+n) .non
noncomputable def CM.new(bl pg mo:Int)(lim:List (Key×V)):CM:=⟨bl,pg,mo,lim,List.replicate (bl*pg).toNat .non,List.replicate bl.toNat 0,List.replicate bl.toNat 0,List.replicate bl.toNat false,none,[]⟩
theorem qI1{x:V}(h:inB x lo hi=true):∃p,x=.int p/\lo<=p/\p<=hi:=by(
cases x with
|int p=>have h:(decide _&&decide _)=true:=h;rw[gE]at h;exact⟨p,rfl,mI h.1,mI h.2⟩
|_=>cases h)
theorem qL5{m:CM}{p:Int}(ok:m.Ok)(p0:0<=p)(p1:p<=m.bl*m.pg-1):0<=p / m.pg/\p / m.pg<m.bl:=by have:=ok.pg1;exact⟨Int.ediv_nonneg p0 (by lia),Int.ediv_lt_of_lt_mul (by lia) (by lia)⟩
theorem lf0{m:CM}:decide (lfV m.lf=V.int 0)=decide (m.lf=some 0):=by(
cases e:m.lf with
|none=>rfl
|some i=>
 by_cases z:i=0
 .subst z;rfl
 rw[hX (λq=>z (by injection q)),hX (λq=>z (by injection q))])
theorem qI2{m:CM}:scal (lfV m.lf) (.int 0)=true:=by cases m.lf<;>rfl
theorem getB{m:CM}{b:Int}(h0:0<=b)(h:b<(m.br.length:Int)):atI (m.br.map V.bl) b=some (.bl (m.br.getD b.toNat false)):=by(
obtain⟨j,rfl⟩:=rW h0
refine yH ?_
simp_all)
theorem getI{xs:List Int}{b:Int}(h0:0<=b)(h:b<(xs.length:Int)):atI (xs.map V.int) b=some (.int (xs.getD b.toNat 0)):=by(
obtain⟨j,rfl⟩:=rW h0
refine yH ?_
simp_all)
theorem getV{xs:List V}{b:Int}(h0:0<=b)(h:b<(xs.length:Int)):atI xs b=some (xs.getD b.toNat .non):=by(
obtain⟨j,rfl⟩:=rW h0
refine yH ?_
simp_all)
theorem ixOk{n:Nat}{b:Int}(h0:0<=b)(h:b<(n:Int)):ixN n b=some b.toNat:=by unfold ixN;simp_all
theorem CM.Ok.deed{m:CM}(ok:m.Ok){w:Str}{b:Int}{f:Bool}(h:m.rc.length<1000000):(m.deed w pl b f).Ok:=by(
refine⟨ok.bl1,ok.bl2,ok.pg1,ok.pg2,ok.nbo,ok.ncl,?_,?_,ok.lim,?_⟩
.show((m.dc.set _ _).length)=m.bl;rw[gK];exact ok.ndc
.show(((if f then m.br.set _ _ else m.br)).length)=m.bl;cases f with
 |true=>rw[kL rfl,gK];exact ok.nbr
 |false=>exact ok.nbr
show(m.rc++[_]).length<=1000000
rw[kU,gM]
lia)
def qI3:Sp:=λvs H Q z=>∃x y,vs=[x,y]/\Knd H x/\Knd H y/\Q (.bl (inB x 2 16&&inB y 1 16)) H
theorem Paired.at{α β:Type}{F:α->β->Prop}:∀{l₁:List α} {l₂:List β} {i:Nat} {a:α},Paired F l₁ l₂->l₁[i]?=some a->∃b,l₂[i]?=some b/\F a b
|_,_,0,_,.cons r _,e=>by simp at e;subst e;exact⟨_,rfl,r⟩
|_,_,i+1,_,.cons _ t,e=>by have e2:=lL.symm.trans e;obtain⟨b,h1,h2⟩:=Paired.at t e2;exact⟨b,lL.trans h1,h2⟩
|_,_,_,_,.nil,e=>by simp at e
theorem q6J(xs:List V)(i:Nat):∀n,(clr xs i n).length=xs.length
|0=>rfl
|n+1=>by show((clr xs i n).set (i+n) .non).length=xs.length;rw[gK,q6J xs i n]
theorem qL6{bl:Int}(b1:2<=bl)(b2:bl<=16)(p1:1<=pg)(p2:pg<=16)(hl:∀b v,valV lim (Sum.inl b)=some v->∃n,v=V.int n):(CM.new bl pg mo lim).Ok:=by(
have h:0<=bl*pg:=xR (by lia) (by lia)
refine⟨b1,b2,p1,p2,?_,?_,?_,?_,hl,by show 0<=1000000;decide⟩
.show((List.replicate _ _).length)=bl*pg;rw[g7];lia
.show((List.replicate _ _).length:Int)=bl;rw[g7];lia
.show((List.replicate _ _).length:Int)=bl;rw[g7];lia
show((List.replicate _ _).length)=bl
rw[g7]
lia)
def Up(x:Addr)(H H':Hp):Prop:=∀b o,b≠x->H b=some o->H' b=some o
section
variable{x C dx:Addr}{fs:List (Str×V)}{H H':Hp}
theorem Up.of{o:HO}(s:Same H H'):Up x H (upd H' x o):=λb u n e=>by rw[qF n];exact s b u e
theorem Up.free(u:Up x H H'){b:Addr}(n:b≠x)(e:H' b=none):H b=none:=by(
cases q:H b with
|none=>rfl
|some o=>rw[u b o n q]at e;lia)
end
end L2
namespace L2
open PySem PySem.Spec PyProof.Rows
def tMid(t u:TS):TS:=λD σ H=>∃M:St->Hp->Prop,t { D with nx:=M } σ H/\∀σ' H',M σ' H'->u D σ' H'
def qMM(t:TT):TT:=λσ H Q=>∃M:Bool->Hp->Prop,t σ H M/\∀b H',M b H'->Q b H'
def qMN(t:TE):TE:=λσ H Q=>∃M:VK,t σ H M/\∀v H',M v H'->Q v H'
section
variable{X:Cx}{st:Stmt}{rest:List Stmt}{t u:TS}{e:Expr}{te:TE}{tt:TT}
theorem q3O(h1:PS X st t)(h2:PSs X rest u):PSs X (st::rest) (tMid t u):=by(
intro pins s σ H D I S
obtain⟨M,a,b⟩:=S
refine kI (thn (h1 _ s σ H _ I a) λf O z=>?_)
cases f with
|next=>obtain⟨J,H',N,q⟩:=z;exact h2 _ O J H' D N (b J H' q)
|brk=>exact mO z
|cont=>exact mO z
|ret v=>exact mO z)
theorem q9R(h:PT X e tt):PT X e (qMM tt):=λpins s σ H Q I ⟨M,a,b⟩=>thn (h _ s σ H M I a) λc s1 ⟨H',I',q⟩=>⟨H',I',b c H' q⟩
theorem qFW(h:PE X e te):PE X e (qMN te):=λpins s σ H Q I ⟨M,a,b⟩=>thn (h _ s σ H M I a) λc s1 ⟨v,H',I',r,q⟩=>⟨v,H',I',r,b v H' q⟩
end
theorem yL{a b:Int}:decide (V.int a=V.int b)=decide (a=b):=by(
simp)
theorem q0Q(x n:Int)(h:0<n):0<=x%n/\x%n<n:=⟨b8 _ (by lia),aM _ h⟩
section
variable{X:Cx}{pins:List (Addr×Obj)}{σ:St}{H:Hp}{s:Shared}{h':Heap}
theorem Inv.turnedN{t':Nat}{fp:List Addr}(I:Inv X pins σ H s)(k:∀b o,b∉fp->s.heap.get? b=some o->h'.get? b=some o)(hf:∀b∈fp,FpOk X pins H b):Inv X pins σ H { s with heap:=h',toks:=t' }:=by(
have J:∀b u,H b=some u->b∉fp:=λb u e z=>by rw[(hf b z).1]at e;lia
refine I.step    (λb hb=>?_) (λb o z z D e z=>k b o D e) (λb o z z D e z=>⟨o.slots,k b o D e⟩) (λz z z z n=>n)
 (λb o D e=>⟨o,k b o D e⟩) (λz z e=>e) (λz z z e=>e) (λb ps e=>⟨#[],by rw[e];rfl⟩) (λm hm=>?_) (λb u e=>?_) I.bare
.obtain⟨f0,U,f2,O,S,Z⟩:=hf b hb;exact⟨O,U,S,Z⟩
.obtain⟨o,es,ep,N,r⟩:=hm;exact⟨o,es,ep,k _ o (λz=>(hf _ z).2.1 rfl) N,r⟩
refine(I.hok b u e).stay (λc v D q=>k c v ?_ q) (λz q=>q) λU U q=>q
rcases D with z|z
.rw[z];exact J b u e
exact J c _ z)
end
noncomputable def Itz(K:PySem.W.Frag)(l1 l2:Addr):It:=⟨λi H=>∃xs ys x y,SqL K H l1 xs/\SqL K H l2 ys/\xs[i]?=some x/\ys[i]?=some y,λi H v H'=>∃T x y,v=.ref T/\H T=none/\H'=upd H T (.tup [x,y])/\(∀xs,SqL K H l1 xs->xs[i]?=some x)/\∀ys,SqL K H l2 ys->ys[i]?=some y,λi H=>∃xs ys,SqL K H l1 xs/\SqL K H l2 ys/\(xs.length<=i\/ys.length<=i)⟩
theorem qFX{P:Program}{w:World}{K:PySem.W.Frag}{x1}(z TI TO i1 i2 l1 l2:Addr)(D:ZipApart z TI TO i1 i2 l1 l2):
 Turn P w K (.Tuple elts x1 pos) (Itz K l1 l2) [z,TI,TO,i1,i2] z (λi h=>IsZip h z TI TO .none/\IsPair h TI (.ref i1) (.ref i2)/\(∃a b,IsPair h TO a b)/\h.IsListIter i1 l1 i/\h.IsListIter i2 l2 i) where
mem:=by simp
obj:=λi h st b J=>by
 obtain⟨S,N,⟨p,q,Z⟩,⟨o4,e4,c4,d4⟩,⟨o5,e5,c5,d5⟩⟩:=st;simp only[kN,gP,wO]at J;rcases J with rfl|rfl|rfl|rfl|rfl
 .exact⟨_,S,λv z=>by cases z⟩
 .exact⟨_,N,λv z=>by cases z⟩
 .exact⟨_,Z,λv z=>by cases z⟩
 .exact⟨_,e4,λv z=>by rw[d4]at z;cases z⟩
 exact⟨_,e5,λv z=>by rw[d5]at z;cases z⟩
keep:=λi h h' st k=>by obtain⟨S,N,⟨p,q,Z⟩,a4,a5⟩:=st;exact⟨k z (by simp) _ S,k TI (by simp) _ N,⟨p,q,k TO (by simp) _ Z⟩,a4.at λo e=>k i1 (by simp) o e,a5.at λo e=>k i2 (by simp) o e⟩
item:=by
 intro X hP hw hK hc i pins s σ H E I hf st hg;subst hP hw hK;obtain⟨xs,ys,x,y,U,O,hx,hy⟩:=hg;obtain⟨af,aa,p1,al⟩:=I.list U;obtain⟨u1,ar,ai⟩:=aa.get hx;obtain⟨ae,ab,p2,au⟩:=I.list O;obtain⟨u2,ap,am⟩:=ab.get hy;obtain⟨S,N,⟨p,q,Z⟩,a4,a5⟩:=st;refine wpAny_pyNext_zip_item D S N Z a4 a5 p1.isList p2.isList (x:=u1) (y:=u2) (by simpa using ar) (by simpa using ap) λh' b1 b2 b3 b4 b5 b6 b7=>?_;refine⟨_,rfl,wpAny_letOwnedTupleGo_zip (s:={ s with heap:=h' }) b1 λac c1 c2=>?_⟩;have lt:∀{c o},s.heap.get? c=some o->s.heap.objs.size≠c:=λe=>rC (mD e);have kk:∀b o,b∉[z,TI,TO,i1,i2]->s.heap.get? b=some o->ac.get? b=some o:=λb o J e=>by simp only[kN,gP,wO,not_or]at J;exact c2.extBut _ _ J.1 (b7 b o J.1 J.2.2.1 J.2.2.2.1 J.2.2.2.2 e)
 have I1:Inv X pins σ H { s with heap:=ac }:=I.turnedN (t':=s.toks) kk hf;have fr:H s.heap.objs.size=none:=I.hok.fresh (kO _);have yg:=I.young (a:=s.heap.objs.size) (cY (kO _));have pr:IsPair ac s.heap.objs.size u1 u2:=c2.extBut _ _ (lt S) b5;have I2:=I1.trackG (o:=.tup [x,y]) fr yg (rC I.lt) (λx' c' w q'=>by obtain⟨v,o',ho,_⟩:=I.cell x' c' w;exact absurd (mD ho) (by rw[q'];exact dR _)) ⟨by rw[g8,mP,mP,wV];lia,[u1,u2],.cons ai (.cons am .nil),⟨_,pr,rfl,_,rfl⟩⟩;refine⟨.ref s.heap.objs.size,_,I2,rfl,⟨_,x,y,rfl,fr,rfl,λbp h=>by rw[I.list_inj h U];exact hx,λbn h=>by rw[I.list_inj h O];exact hy⟩,⟨c1,c2.extBut _ _ D.TIz (b7 _ _ D.TIz D.TITO D.TIi1 D.TIi2 N),⟨_,_,c2.extBut _ _ D.TOz b2⟩,b3.extBut c2.extBut D.i1z,b4.extBut c2.extBut D.i2z⟩,λb J=>?_⟩;have ob:∃o,s.heap.get? b=some o:=by
  obtain⟨o4,e4,_⟩:=a4;obtain⟨o5,e5,_⟩:=a5;simp only[kN,gP,wO]at J;rcases J with rfl|rfl|rfl|rfl|rfl
  .exact⟨_,S⟩
  .exact⟨_,N⟩
  .exact⟨_,Z⟩
  .exact⟨_,e4⟩
  exact⟨_,e5⟩
 obtain⟨o,e⟩:=ob;rw[qF (cC (lt e))];exact(hf b J).1
done:=by intro X hP hw hK hc i pins s σ H E I hf st hg;subst hP hw hK;obtain⟨xs,ys,U,O,hx⟩:=hg;obtain⟨af,aa,p1,al⟩:=I.list U;obtain⟨ae,ab,p2,au⟩:=I.list O;obtain⟨S,N,⟨p,q,Z⟩,a4,a5⟩:=st;have e1:=aa.length;have e2:=ab.length;refine wpAny_pyNext_zip_end (I.ok.hd hc) D S N Z a4 a5 p1.isList p2.isList (hx.elim (λh=>.inl (by simp;lia)) λh=>.inr (by simp;lia)) λh' k=>⟨rfl,I.turnedN (t':=s.toks) (λb o J e=>?_) hf⟩;simp only[kN,gP,wO,not_or]at J;exact k b o J.1 J.2.2.1 J.2.2.2.1 J.2.2.2.2 e
self:=λz z z z z st h=>wpAny_pyIter_zip st.1 h
section
variable{X:Cx}
def iZip(K:PySem.W.Frag)(ta:TA):TI:=λσ H R=>ta σ H λvs H1=>∃a b,vs=[.ref a,.ref b]/\(∃xs,SqL K H1 a xs)/\(∃ys,SqL K H1 b ys)/\R (Itz K a b) H1
theorem qL7{a b:Expr}{p:Pos}{x1}(hg:Gl X "zip")(hm:X.mg "zip"=none)(ha:PA X [a,b] ta)(hs:starEach [a,b] X.env=[(false,eval a X.env),(false,eval b X.env)]:=by rfl)(hs2:starEach [b] X.env=[(false,eval b X.env)]:=by rfl):
 PI X (.Tuple elts x1 pz) (.Call (.Name "zip" p) [a,b] [] pos) (iZip X.K ta):=by(
intro pins s σ H R I h
refine Call_ (q1R I hg hm (u:=.type "zip") (by kernel_rfl) (wF (thn (ha pos pins s σ H _ I h) λus z ⟨vs,H1,J,r1,q1⟩=>?_) (by rw[hs,hs2]) (by rw[hs2];rfl)))
obtain⟨a,b,e,⟨xs,O⟩,⟨ys,hq2⟩,q⟩:=q1
subst e
obtain⟨u,u',rfl,ru,N⟩:=qF9 r1
cases ru
cases N
obtain⟨Z,af,S,ae⟩:=J.list O
obtain⟨U,ak,p2,ao⟩:=J.list hq2
refine call_zip_2 S.isList p2.isList λh' a1 a2 a3 a4 a5 a6 k=>?_
have n1:@LT.lt Nat _ a z.heap.objs.size:=by obtain⟨o,n,e,_⟩:=S;exact mD e
have n2:@LT.lt Nat _ b z.heap.objs.size:=by obtain⟨o,n,e,_⟩:=p2;exact mD e
refine wpAny_pyIter_zip a1 ?_
have I2:=J.kept (t':=z.toks) k
refine⟨_,[z.heap.objs.size+4,z.heap.objs.size+2,z.heap.objs.size+3,z.heap.objs.size,z.heap.objs.size+1],_,_,H1,rfl,I2,qFX _ _ _ _ _ a b ⟨?_,?_,?_,?_,?_,?_,?_,?_,?_,?_,?_,?_,?_,?_,?_,?_,?_,?_⟩,⟨a1,a2,⟨_,_,a3⟩,a4,a5⟩,λc hc=>?_,q⟩
case refine_19=>
 have D:z.heap.objs.size<=c:=by simp only[kN,gP,wO]at hc;rcases hc with rfl|rfl|rfl|rfl|rfl<;>lia
 exact J.fpOk D (J.hok.fresh D)
all_goals lia)
end
end L2
namespace L2
open PySem
theorem q1C{x1}{p:Pos}{env:Env}:starEach (.Tuple es x1 p::rest) env=(false,eval (.Tuple es x1 p) env)::starEach rest env:=rfl
theorem qFY{p:Pos}{env:Env}:starEach (.List es p::rest) env=(false,eval (.List es p) env)::starEach rest env:=rfl
end L2
namespace L2
open PySem PySem.Spec PyProof.Rows
inductive Eqv(K:PySem.W.Frag)(H:Hp):Nat->V->V->Prop where
|flat {n:Nat} {x:V} (f:q0K x=true):Eqv K H n x x
|lst {n:Nat} {a b:Addr} {xs ys:List V} (ha:SqL K H a xs) (hb:SqL K H b ys) (hl:xs.length=ys.length) (hi:∀(i:Nat) x y,xs[i]?=some x->ys[i]?=some y->Eqv K H n x y):Eqv K H (n+1) (.ref a) (.ref b)
|tup {n:Nat} {a b:Addr} {xs ys:List V} (ha:SqT K H a xs) (hb:SqT K H b ys) (hl:xs.length=ys.length) (hi:∀(i:Nat) x y,xs[i]?=some x->ys[i]?=some y->Eqv K H n x y):Eqv K H (n+1) (.ref a) (.ref b)
theorem qFZ{x:V}(f:q0K x=true):eqV x x=true:=by(
cases x with
|non=>rfl
|bl b=>cases b<;>rfl
|int i=>exact beq_self_eq_true i
|str z=>exact beq_self_eq_true z
|_=>assumption)
theorem zE{n:Nat}:(List.range n).all (λz=>true)=true:=by simp
section
variable{X:Cx}{pins:List (Addr×Obj)}{σ:St}{H:Hp}{s:Shared}
theorem Vals.atN(r:Vals xs us){j:Nat}(h:j<us.length):∃x,xs[j]?=some x/\RelV x us[j]:=by(
have e:xs[j]?=some (xs[j]'(by rw[r.length];exact h)):=kF _
obtain⟨u,z,D⟩:=r.get e
rw[kF h]at z
cases z
exact⟨_,e,D⟩)
theorem Eqv.at(I:Inv X pins σ H s){n:Nat}{y x:V}(h:Eqv X.K H n y x):∀{A:Around} {u v:Value},RelV y u->RelV x v->A.units+n<cLine->SeqAt.EqAt A s u v true:=by(
induction h with
|flat f=>intro A u v D J _;have e:=qFG (A:=A) (s:=s) D J f f;rw[qFZ f]at e;exact e
|@lst n a b xs ys ha hb hl hi ih=>
 intro A u v D J hu;cases D;cases J;by_cases z:a=b
 .subst z;exact xG _
 obtain⟨U,N,Z,_⟩:=I.list ha;obtain⟨i2,r2,p2,_⟩:=I.list hb;have l1:=N.length;have l2:=r2.length;refine aN z ?_;have e:=SeqAt.RcAt.lists (A:=A) (e:=λz=>true) Z.isList p2.isList (by simp;lia) (by lia) (λj h1 h2=>?_)
 .rw[zE]at e;exact e
 obtain⟨x1,O,S⟩:=N.atN (j:=j) (by simpa using h1);obtain⟨x2,e2,q2⟩:=r2.atN (j:=j) (by simpa using h2);exact ih j x1 x2 O e2 (by simpa using S) (by simpa using q2) (by show A.units+1+n<cLine;lia)
|@tup n a b xs ys ha hb hl hi ih=>
 intro A u v D J hu;cases D;cases J;by_cases z:a=b
 .subst z;exact xG _
 obtain⟨U,N,Z,_⟩:=I.tuple ha;obtain⟨i2,r2,p2,_⟩:=I.tuple hb;have l1:=N.length;have l2:=r2.length;refine aN z ?_;have e:=SeqAt.RcAt.tuples (A:=A) (e:=λz=>true) (show s.heap.IsTuple a U.toArray from Z) (show s.heap.IsTuple b i2.toArray from p2) (by lia) (λj h1 h2=>?_)
 .rw[zE,aA,show(U.toArray.size==i2.toArray.size)=true by simp;lia]at e;exact e
 obtain⟨x1,O,S⟩:=N.atN (j:=j) (by simpa using h1);obtain⟨x2,e2,q2⟩:=r2.atN (j:=j) (by simpa using h2);exact ih j x1 x2 O e2 (by simpa using S) (by simpa using q2) (by show A.units+1+n<cLine;lia))
theorem q99{x:V}(f:q0K x=true):scal x x=true:=by(
cases x with
|non=>rfl
|bl b=>rfl
|int i=>rfl
|str z=>rfl
|_=>exact absurd (show false=true from f) kZ)
def qJP(K:PySem.W.Frag)(r:Bool):R2:=λx y H Q=>Eqv K H 6 x y/\Q (.bl r) H
theorem qG0(hu:X.A.units+64<cLine):OpR X (compareOp .Eq) (qJP X.K true):=by(
intro pins s σ H x y v u Q I rx ry hZ
obtain⟨h,q⟩:=hZ
cases h with
|flat f=>exact yO pins s σ H x x v u Q I rx ry ⟨q99 f,by rw[hG rfl];exact q⟩
|@lst _ a b xs ys ha hb hl hi=>cases rx;cases ry;obtain⟨N,z,O,_⟩:=I.list ha;obtain⟨Z,r2,p2,_⟩:=I.list hb;have l1:=z.length;have l2:=r2.length;refine b9 (e:=λz=>true) O.isList p2.isList (by simp;lia) (by lia) (λj h1 h2=>?_) ⟨.bl true,H,I,by rw[zE];rfl,q⟩;obtain⟨x1,D,J⟩:=z.atN (j:=j) (by simpa using h1);obtain⟨S,U,q2⟩:=r2.atN (j:=j) (by simpa using h2);exact(hi j x1 S D U).at I (by simpa using J) (by simpa using q2) (by show X.A.units+1+5<cLine;lia)
|@tup _ a b xs ys ha hb hl hi=>cases rx;cases ry;obtain⟨N,z,O,_⟩:=I.tuple ha;obtain⟨Z,r2,p2,_⟩:=I.tuple hb;have l1:=z.length;have l2:=r2.length;refine SeqAt.eq_tupleAt (e:=λz=>true) (show s.heap.IsTuple a N.toArray from O) (show s.heap.IsTuple b Z.toArray from p2) (by lia) (λj h1 h2=>?_) ⟨.bl true,H,I,by rw[zE,aA,show(N.toArray.size==Z.toArray.size)=true by simp;lia];rfl,q⟩;obtain⟨x1,D,J⟩:=z.atN (j:=j) (by simpa using h1);obtain⟨S,U,q2⟩:=r2.atN (j:=j) (by simpa using h2);exact(hi j x1 S D U).at I (by simpa using J) (by simpa using q2) (by show X.A.units+1+5<cLine;lia))
theorem q5J(hu:X.A.units+64<cLine):OpR X (compareOp .NotEq) (qJP X.K false):=by(
intro pins s σ H x y v u Q I rx ry hZ
obtain⟨h,q⟩:=hZ
cases h with
|flat f=>exact qB1 pins s σ H x x v u Q I rx ry ⟨q99 f,by rw[hG rfl];exact q⟩
|@lst _ a b xs ys ha hb hl hi=>cases rx;cases ry;obtain⟨N,z,O,_⟩:=I.list ha;obtain⟨Z,r2,p2,_⟩:=I.list hb;have l1:=z.length;have l2:=r2.length;refine aP (e:=λz=>true) O.isList p2.isList (by simp;lia) (by lia) (λj h1 h2=>?_) _ _ _ _ ⟨.bl false,H,I,by rw[zE];rfl,q⟩;obtain⟨x1,D,J⟩:=z.atN (j:=j) (by simpa using h1);obtain⟨S,U,q2⟩:=r2.atN (j:=j) (by simpa using h2);exact(hi j x1 S D U).at I (by simpa using J) (by simpa using q2) (by show X.A.units+1+5<cLine;lia)
|@tup _ a b xs ys ha hb hl hi=>cases rx;cases ry;obtain⟨N,z,O,_⟩:=I.tuple ha;obtain⟨Z,r2,p2,_⟩:=I.tuple hb;have l1:=z.length;have l2:=r2.length;refine xX (e:=λz=>true) (show s.heap.IsTuple a N.toArray from O) (show s.heap.IsTuple b Z.toArray from p2) (by lia) (λj h1 h2=>?_) _ _ _ _ ⟨.bl false,H,I,by rw[zE,aA,show(N.toArray.size==Z.toArray.size)=true by simp;lia];rfl,q⟩;obtain⟨x1,D,J⟩:=z.atN (j:=j) (by simpa using h1);obtain⟨S,U,q2⟩:=r2.atN (j:=j) (by simpa using h2);exact(hi j x1 S D U).at I (by simpa using J) (by simpa using q2) (by show X.A.units+1+5<cLine;lia))
end
end L2
namespace L2
open PySem
theorem qEL{K:PySem.W.Frag}{n:Nat}{a b:Addr}(ha:SqT K H a xs)(hb:SqT K H b xs)(f:∀x∈xs,q0K x=true):Eqv K H (n+1) (.ref a) (.ref b):=.tup ha hb rfl λi x y hx hy=>by  have e:=mB (hx.symm.trans hy);subst e;exact .flat (f x (gL hx))
theorem qDD{K:PySem.W.Frag}{a b:Addr}(ha:H a=some (.lst rs))(hb:H b=some (.lst rs'))(r:Recd H rs ds)(r':Recd H rs' ds):Eqv K H 6 (.ref a) (.ref b):=.lst (SqL.of ha) (SqL.of hb) (r.len.trans r'.len.symm) λi x y hx hy=>by  obtain⟨d,hd,p,rfl,hp⟩:=Paired.at r hx;obtain⟨d',hd',p',rfl,hp'⟩:=Paired.at r' hy;have e:=mB (hd.symm.trans hd');subst e;exact qEL (SqT.of hp) (SqT.of hp') (by simp[q0K])
end L2
namespace L2
open PySem PySem.Spec PyProof.Rows
noncomputable def clOf(env:Env):List (Str×NameKind)->List (Str×Addr)->List (Str×Addr)
| [],cs=>cs
|(n,k)::r,cs=>clOf env r (if(k==NameKind.free)=true then(match env.cells.lookup n with|some a=>(n,a)::cs|none=>cs)else cs)
theorem q72{scope:Scope}{env:Env}(h:∀y∈scope.names,y.2=.free->∃c,env.cells.lookup y.1=some c):closureFor scope env=pure (clOf env scope.names []):=by(
have go:∀(l:List _) (cs:List _),(∀y∈l,y.2=.free->∃c,env.cells.lookup y.1=some c)->(forIn l cs λx r=>(match x with|(name,kind)=>if(kind==NameKind.free)=true then do let a<-cellOf env name;pure (ForInStep.yield ((name,a)::r))else pure (ForInStep.yield r):Sem _))=pure (clOf env l cs):=by
 intro l;induction l with
 |nil=>intro cs _;rfl
 |cons y r ih=>
  intro cs hl;obtain⟨n,k⟩:=y;rw[eA];by_cases hk:(k==NameKind.free)=true
  .obtain⟨c,e⟩:=hl (n,k) kX (by simpa using hk);have e2:cellOf env n=pure c:=by unfold cellOf;rw[e]
   show(bind (if(k==NameKind.free)=true then _ else _) _)=_;rw[kL hk,e2];show(forIn r _ _:Sem _)=pure (clOf env r _);rw[kL hk,e];exact ih _ λy hy=>hl y (kB _ hy)
  show(bind (if(k==NameKind.free)=true then _ else _) _:Sem _)=_;rw[kE hk];show(forIn r cs _:Sem _)=pure (clOf env r _);rw[kE hk];exact ih _ λy hy=>hl y (kB _ hy)
exact(dL (λz=>z >>= λs=>pure s) (go _ [] h)).trans rfl)
theorem q73{env:Env}{x:Str}{c:Addr}:∀(l:List (Str×NameKind)) (cs:List (Str×Addr)),(cs.lookup x=some c->env.cells.lookup x=some c)->(clOf env l cs).lookup x=some c->env.cells.lookup x=some c
| [],cs,hcs,h=>hcs h
|(n,k)::r,cs,hcs,h=>by
 refine q73 r _ ?_ h;intro q;split at q
 .cases e:env.cells.lookup n with
  |none=>rw[e]at q;exact hcs q
  |some a=>
   rw[e]at q;have q:List.lookup x ((n,a)::cs)=some c:=q;rw[rQ]at q;cases z:x==n with
   |true=>
    rw[z]at q;have z':x=n:=by simpa using z
    rw[z',e,<-q]
   |false=>rw[z]at q;exact hcs q
 exact hcs q
theorem q74{env:Env}{x:Str}{c:Addr}(e:env.cells.lookup x=some c):∀(l:List (Str×NameKind)) (cs:List (Str×Addr)),((x,NameKind.free)∈l\/cs.lookup x=some c)->(clOf env l cs).lookup x=some c
| [],cs,h=>h.resolve_left (by simp)
|(n,k)::r,cs,h=>by
 refine q74 e r _ ?_;by_cases hn:(x==n)=true
 .have z':x=n:=by simpa using hn
  by_cases D:(k==NameKind.free)=true
  .refine .inr ?_;rw[kL D,<-z',e];show List.lookup x ((x,c)::cs)=some c;simp
  rcases h with h|h
  .rcases kN.mp h with q|q
   .cases q;exact absurd (by simp) D
   exact .inl q
  rw[kE D];exact .inr h
 have I:x≠n:=λz=>hn (by simp[z]);rcases h with h|h
 .rcases kN.mp h with q|q
  .cases q;exact absurd rfl I
  exact .inl q
 refine .inr ?_;split
 .cases en:env.cells.lookup n with
  |none=>exact h
  |some a=>
   show List.lookup x ((n,a)::cs)=some c;have hn:(x==n)=false:=by simpa using I
   rw[rQ,hn];exact h
 exact h
theorem qB8{env:Env}{x:Str}:∀{names:List (Str×NameKind)},(∀y∈names,y.2≠ .cell)->((names.map λ(n,k)=>if(k==NameKind.free&&env.scope.kind== .function&&env.kindOf n==some .cell)then(n,NameKind.cell)else(n,k)).lookup x=some .cell\/(names.map λ(n,k)=>if(k==NameKind.free&&env.scope.kind== .function&&env.kindOf n==some .cell)then(n,NameKind.cell)else(n,k)).lookup x=some .free)->(x,NameKind.free)∈names
| [],_,h=>by simp at h
|(n,k)::r,hc,h=>by
 have ih:=@qB8 env x r λy hy=>hc y (kB _ hy);rw[mR]at h;by_cases hq:(k==NameKind.free&&env.scope.kind== .function&&env.kindOf n==some .cell)=true
 .have hk:k=.free:=by rw[gE,gE]at hq;simpa using hq.1.1
  simp only[kL hq,rQ]at h;cases hx:x==n with
  |true=>
   have e:x=n:=by simpa using hx
   rw[e,hk];exact kX
  |false=>simp only[hx]at h;exact kB _ (ih h)
 simp only[kE hq,rQ]at h;cases hx:x==n with
 |true=>
  simp only[hx]at h;have e:x=n:=by simpa using hx
  rcases h with h|h
  .cases h;exact absurd rfl (hc _ kX)
  cases h;rw[e];exact kX
 |false=>simp only[hx]at h;exact kB _ (ih h)
theorem qB9{env:Env}{x:Str}(hk:env.scope.kind=.function)(he:env.kindOf x=some .cell):∀{names:List (Str×NameKind)},names.lookup x=some .free->(names.map λ(n,k)=>if(k==NameKind.free&&env.scope.kind== .function&&env.kindOf n==some .cell)then(n,NameKind.cell)else(n,k)).lookup x=some .cell
| [],h=>by simp at h
|(n,k)::r,h=>by
 have ih:=@qB9 env x hk he r;rw[mR];rw[rQ]at h;cases hx:x==n with
 |true=>
  simp only[hx]at h;have e:x=n:=by simpa using hx
  cases h;subst e;show List.lookup x ((if(NameKind.free==NameKind.free&&env.scope.kind==ScopeKind.function&&env.kindOf x==some NameKind.cell)=true then(x,NameKind.cell)else(x,NameKind.free))::_)=_;rw[kL (by rw[hk,he];rfl),rQ];simp
 |false=>
  simp only[hx]at h;show List.lookup x ((if(k==NameKind.free&&env.scope.kind==ScopeKind.function&&env.kindOf n==some NameKind.cell)=true then(n,NameKind.cell)else(n,k))::_)=_;by_cases hq:(k==NameKind.free&&env.scope.kind== .function&&env.kindOf n==some .cell)=true
  .rw[kL hq,rQ];simp only[hx];exact ih h
  rw[kE hq,rQ];simp only[hx];exact ih h
noncomputable abbrev zF(X:Cx)(N:List Str)(scope:Scope)(C:Addr)(fp:List Addr)(s:Shared)(H:Hp)(xe:Value->Shared->Prop):Cx:={ X with N:=N,s₀:=s,H₀:=H,env:=compEnvC scope (clOf X.env scope.names []) C X.env,outer:=X.stack,ex:=fp,fn:=λz=>false,xe:=xe }
noncomputable def pick(ix:List Nat)(σ:St):St:=ix.map λi=>σ.getD i none
noncomputable def q9A(XN:List Str)(kd:Str->Option NameKind)(names:List (Str×NameKind))(N:List Str)(ix:List Nat):Bool:=(List.range ix.length).all λj=>match N[j]?,ix[j]? with
 |some x,some i=>decide (XN[i]?=some x)&&decide (names.lookup x=some .free)&&decide (kd x=some .cell)
 |_,_=>false
theorem qG1{XN:List Str}(h:q9A XN kd names N ix=true){j:Nat}(hj:j<ix.length){x:Str}(hx:N[j]?=some x):
 ∃i,ix[j]?=some i/\XN[i]?=some x/\names.lookup x=some .free/\kd x=some .cell:=by(
unfold q9A at h
rw[dU]at h
have q:=h j (mV.mpr hj)
rw[hx,kF hj]at q
simp only[gE,mG]at q
exact⟨_,kF hj,q.1.1,q.1.2,q.2⟩)
theorem qI4{s:Shared}(I:Inv X pins σ H s){scope:Scope}(hf:∀b∈fp,FpOk X pins H b)(ho:∀b∈fp,∃o,s.heap.get? b=some o)
 (hk:scope.kind=.function) (hc:∀y∈scope.names,y.2≠ .cell) (hfr:∀y∈scope.names,y.2=.free->X.env.kindOf y.1=some .cell) (hcap:q9A X.N X.env.kindOf scope.names N ix=true) (hN:ix.length<=N.length) {h₁:Heap} {tk n:Nat} {m:Str->Option Value}
 (hn:h₁.Ns (s.heap.objs.size+1) m) (hkp:∀b u,s.heap.get? b=some u->h₁.get? b=some u) (hD:h₁.get? s.heap.objs.size=some { cls:=.type "list",data:=.seq ([]:List Value).toArray n }):
 Inv (zF X N scope (s.heap.objs.size+1) fp s H xe) [] (pick ix σ++List.replicate (N.length-ix.length) none) (upd H s.heap.objs.size (.lst [])) { s with heap:=h₁,toks:=tk }:=by(
have fresh:H s.heap.objs.size=none:=I.hok.fresh (kO _)
have O:H (s.heap.objs.size+1)=none:=I.hok.fresh (rB _)
have J:∀x c,(clOf X.env scope.names []).lookup x=some c->X.env.cells.lookup x=some c:=λx c e=>q73 _ _ (by intro q;simp at q) e
have ab:∀x c,(clOf X.env scope.names []).lookup x=some c->c<s.heap.objs.size:=λx c e=>by obtain⟨v,q⟩:=I.cell x c (J x c e);exact q.lt
refine⟨⟨I.ok.mod,hk,I.ok.glob,I.ok.blt,rB _,λx y c h1 h2=>I.ok.inj x y c (J x c h1) (J y c h2),λx Z=>?_,λx c h=>absurd h kZ,I.ok.hd,I.ok.frames,.inl rfl,λb S=>⟨?_,λx c e=>?_⟩,I.bs,kQ I.ok.bsz I.sz,λb o e S=>?_,λb S z=>?_,I.stack,I.stkFree⟩,rfl,I.bare,Un.laid hkp (kO _) fresh,⟨m,hn,λi x v e1 D e3=>?_⟩,λx c e=>?_,?_,λx c e=>?_,λp hp=>?_,I.hok.laid hkp (kO _) ⟨by simp,[],n,.nil,hD⟩,?_⟩
.have Z:(x,NameKind.free)∈scope.names:=qB8 hc Z;obtain⟨c,e⟩:=I.ok.has x (.inl (hfr _ Z rfl));exact⟨c,q74 e _ _ (.inl Z)⟩
.obtain⟨o,e⟩:=ho b S;exact gC (rX (mD e))
.exact(hf b S).2.2.2.2.1 x c (J x c e)
.rcases(hf b S).2.2.2.1 with z|z
 .exact I.ok.noex b o e z
 exact absurd (gA (mD e) (kQ I.ok.bsz z)) (dR _)
.rcases kN.mp (I.stkSub b z)with z|z
 .exact(hf b S).2.1 z
 exact(hf b S).2.2.1 z
.have U:i<ix.length:=by
  by_cases U:i<ix.length
  .exact U
  rw[dP (by simpa[pick]using U),cD]at D;split at D<;>cases D
 obtain⟨i0,q1,q2,q3,q4⟩:=qG1 hcap U e1;rw[wR (by simpa[pick]using U)]at D;have D:σ[i0]?=some (some v):=by
  unfold pick at D;rw[mF,q1]at D;have D:σ.getD i0 none=some v:=mB D;rw[kJ]at D;cases z:σ[i0]? with
  |none=>rw[z]at D;cases D
  |some y=>rw[z]at D;exact dL some D
 obtain⟨mX,_,lX⟩:=I.loc;obtain⟨u,r,l⟩:=lX i0 x v q2 D (.inr (.inl q4));refine⟨u,r,.inr ⟨.inl (qB9 I.ok.kind q4 q3),?_⟩⟩;rcases l with⟨l,_⟩|⟨_,c,e,z⟩
 .rw[q4]at l;cases l
 obtain⟨o,e',d⟩:=z;exact⟨c,q74 e _ _ (.inl (dG q3)),o,hkp _ _ e',d⟩
.obtain⟨v,o,e',d⟩:=I.cell x c (J x c e);exact⟨v,o,hkp _ _ e',d⟩
.show upd H s.heap.objs.size (.lst []) (s.heap.objs.size+1)=none;rw[qF (rC (rP _))];exact O
.rw[qF (gC (ab x c e))];exact I.freeC x c (J x c e)
.obtain⟨p1,p2,p3,p4,p5⟩:=I.pin p (gX _ (by simpa using hp));have lt:=mD p1;exact⟨hkp _ _ p1,by rw[qF (gC lt)];exact p2,gC (rX lt),λz=>(kN.mp (I.stkSub _ z)).elim p3 p4,p5⟩
show _=N.length
rw[kU,g7]
simp only[pick,hU]
lia)
def PIf(X:Cx)(ifs:List Expr)(t:TT):Prop:=∀(pins:List (Addr×Obj)) (s:Shared) (σ:St) (H:Hp) (Q:Bool->Hp->Prop),Inv X pins σ H s->t σ H Q->wpAny (model X.prog X.w) X.A (forIn ifs true λc r=>if r=true then do let ok<-isTrue c X.env (eval c X.env);pure (ForInStep.yield ok)else pure (ForInStep.yield r)) (TP X pins σ Q) X.xe s
def q75:TT:=λz H Q=>Q true H
theorem qG2{A B:Hp->Prop}{σ:St}{H:Hp}(h:A H):q75 σ H (λb H6=>if b=true then A H6 else B H6):=by assumption
theorem uR:PIf X [] q75:=λpins s σ H Q I h=>mO ⟨H,I,h⟩
theorem yV{c:Expr}{t:TT}(hc:PT X c t):PIf X [c] t:=λpins s σ H Q I h=>by(
rw[eA]
refine kI (kI (thn (hc _ s σ H Q I h) λb s1 q=>?_))
exact mO (mO q))
def tLC(wi:TI)(g:TG)(tc:TT)(te:TE)(ix:List Nat)(k:Nat):TE:=λσ H Q=>wi σ H λJ H1=>∀D H2,H1 D=none->Same H1 H2->H2 D=some (.lst [])->∃W:Nat->Nat->Hp->Prop,(∃m,W 0 m H2)/\∀i m H3,W i m H3->(J.stop i H3/\Q (.ref D) H3)\/(J.go i H3/\∃N:Hp->Prop,(∀H',N H'->∃m',m'<m/\W (i+1) m' H')/\∀x H4,J.yld i H3 x H4->g x (pick ix σ++List.replicate k none) H4 λσ5 H5=>tc σ5 H5 λb H6=>
   if b=true then te σ5 H6 (λv H7=>∃vs,H7 D=some (.lst vs)/\vs.length<sizeLine/\N (upd H7 D (.lst (vs++[v]))))else N H6)
def Own(g:TG)(k:Nat):Prop:=∀x σ H Q,g x σ H Q->g x σ H λσ' H'=>Q σ' H'/\σ'.length=σ.length/\∀j,j<k->σ'[j]?=σ[j]?
def OwnS(g:TGs)(k:Nat):Prop:=∀(xs:List V) (σ:St) (H:Hp) (Q:St->Hp->Prop) (σ0:St),σ.length=σ0.length->(∀j,j<k->σ[j]?=σ0[j]?)->g xs σ H Q->g xs σ H λσ' H'=>Q σ' H'/\σ'.length=σ0.length/\∀j,j<k->σ'[j]?=σ0[j]?
theorem qDE{k:Nat}:OwnS gNil k:=λxs σ H Q σ0 h1 h2 ⟨e,q⟩=>⟨e,q,h1,h2⟩
theorem q4Y{i k:Nat}(h:k<=i)(hu:OwnS u k):OwnS (qJH (q2E i) u) k:=λxs σ H Q σ0 h1 h2 ⟨v,r,e,q⟩=>⟨v,r,e,hu r _ H Q σ0 (gK.trans h1) (λj hj=>by rw[cZ (by lia)];exact h2 j hj) q⟩
theorem qDF{K:PySem.W.Frag}{n k:Nat}(h:OwnS g k):Own (gTup K n g) k:=λx σ H Q ⟨a,xs,e1,e2,e3,q⟩=>⟨a,xs,e1,e2,e3,h xs σ H Q σ rfl (λz z=>rfl) q⟩
theorem jI{i k:Nat}(h:k<=i):Own (q2E i) k:=λx σ H Q q=>⟨q,gK,λj hj=>by rw[cZ (by lia)]⟩
theorem qI5{P:Program}{w:World}{s:Shared}{env:Env}(J:Nat->Shared->Prop)
 (turn:∀n s1,J n s1->wpAny (model P w) A (pyNext it) (λr s2=>match r with
  |none=>R (.ok .next) s2
  |some v=>wpAny (model P w) A (letOwnedTupleGo tg it v) (λU s3=>wpAny (model P w) A (assign tg env v) (λU s4=>
   wpAny (model P w) A (forIn ifs true λc r=>if r=true then do let ok<-isTrue c env (eval c env);pure (ForInStep.yield ok)else pure (ForInStep.yield r)) (λok s5=>
    if ok=true then wpAny (model P w) A (eval elt env) (λx s6=>wpAny (model P w) A (call (.builtin "list.append") [acc,x]) (λU s7=>∃m,m<n/\J m s7) (notedBy (model P w) A env λe s'=>R (.error e) s') s6) (notedBy (model P w) A env λe s'=>R (.error e) s') s5
    else ∃m,m<n/\J m s5) (notedBy (model P w) A env λe s'=>R (.error e) s') s4) (notedBy (model P w) A env λe s'=>R (.error e) s') s3) (notedBy (model P w) A env λe s'=>R (.error e) s') s2) (notedBy (model P w) A env λe s'=>R (.error e) s') s1)
 (n:Nat) (h:J n s):codeAny (model P w) A (.compLoop (.ListComp elt [⟨tg,iter,ifs,0⟩] sc pos) 0 it acc env) R s:=by(
refine codeAny_loop rfl J (λm s1 O=>?_) n h
show wpAny _ A _ _ _ s1
refine wpAny_noted ?_
rw[compTurn_list]
refine kI (sQ (kI (thn (turn m s1 O) λr s2 h2=>?_)))
cases r with
|none=>exact mO h2
|some v=>
 refine kI (thn h2 λU s3 D=>kI (thn D λU s4 N=>kI (thn N λok s5 z=>?_)));cases ok with
 |false=>exact mO ⟨rfl,z⟩
 |true=>exact kI (kI (thn z λx s6 I=>kI (thn I λU s7 S=>mO (mO ⟨rfl,S⟩)))))
structure TurnC(ok:Cx->Prop)(P:Program)(w:World)(K:PySem.W.Frag)(tg:Expr)(J:It)(fp:List Addr)(it:Addr)(tn:Nat->Heap->Prop):Prop where
obj:∀i h,tn i h->∀b∈fp,∃o,h.get? b=some o/\∀v,o.data≠ .cell v
keep:∀i h h',tn i h->(∀b∈fp,∀o,h.get? b=some o->h'.get? b=some o)->tn i h'
item:∀(X:Cx),X.prog=P->X.w=w->X.K=K->ok X->∀(i:Nat) (pins:List (Addr×Obj)) (s:Shared) (σ:St) (H:Hp) (E:Value->Shared->Prop),Inv X pins σ H s->(∀b∈fp,FpOk X pins H b)->tn i s.heap->J.go i H->wpAny (model P w) X.A (pyNext (.ref it)) (λr s1=>∃u,r=some u/\wpAny (model P w) X.A (letOwnedTupleGo tg (.ref it) u) (λ_ s2=>∃x H',Inv X pins σ H' s2/\RelV x u/\J.yld i H x H'/\tn (i+1) s2.heap/\∀b∈fp,H' b=none) E s1) E s
done:∀(X:Cx),X.prog=P->X.w=w->X.K=K->ok X->∀(i:Nat) (pins:List (Addr×Obj)) (s:Shared) (σ:St) (H:Hp) (E:Value->Shared->Prop),Inv X pins σ H s->(∀b∈fp,FpOk X pins H b)->tn i s.heap->J.stop i H->wpAny (model P w) X.A (pyNext (.ref it)) (λr s1=>r=none/\Inv X pins σ H s1) E s
self:∀(A:Around) (i:Nat) (s:Shared) (Q:Value->Shared->Prop) (E:Value->Shared->Prop),tn i s.heap->Q (.ref it) s->wpAny (model P w) A (pyIter (.ref it)) Q E s
def PIc(ok:Cx->Prop)(X:Cx)(tg iter:Expr)(wi:TI):Prop:=∀(pins:List (Addr×Obj)) (s:Shared) (σ:St) (H:Hp) (R:It->Hp->Prop),Inv X pins σ H s->wi σ H R->wpAny (model X.prog X.w) X.A (eval iter X.env) (λv s1=>wpAny (model X.prog X.w) X.A (pyIter v) (λitv s2=>∃(it:Addr) (fp:List Addr) (tn:Nat->Heap->Prop) (J:It) (H':Hp),itv=.ref it/\Inv X pins σ H' s2/\TurnC ok X.prog X.w X.K tg J fp it tn/\tn 0 s2.heap/\(∀b∈fp,FpOk X pins H' b)/\R J H') X.xe s1) X.xe s
theorem PI.c(h:PI X tg iter wi):PIc (λX=>X.calm=true) X tg iter wi:=λpins s σ H R I q=>thn (h _ s σ H R I q) λv s1 h1=>thn h1 λitv s2 ⟨it,fp,tn,J,H',a,b,T,r⟩=>⟨it,fp,tn,J,H',a,b,⟨T.obj,T.keep,T.item,T.done,T.self⟩,r⟩
theorem qDG{s:Shared}(N:List Str)(ix:List Nat)(ok:Cx->Prop)(hok:∀C fp s H xe,ok (zF X N scope C fp s H xe))(hi:PIc ok X tg iter wi)
 (hg:∀C fp s H xe,PG (zF X N scope C fp s H xe) tg g) (hif:∀C fp s H xe,PIf (zF X N scope C fp s H xe) ifs tc) (he:∀C fp s H xe,PE (zF X N scope C fp s H xe) elt te)
 (hk:scope.kind=.function) (hc:∀y∈scope.names,y.2≠ .cell) (hfr:∀y∈scope.names,y.2=.free->X.env.kindOf y.1=some .cell) (hcap:q9A X.N X.env.kindOf scope.names N ix=true) (hN:ix.length<=N.length)
 (hnames:∀x∈scope.names,x.2=.local->scope.names.lookup x.1=some .local) (hown:Own g ix.length) (I:Inv X pins σ H s) (h:tLC wi g tc te ix (N.length-ix.length) σ H Q)
 (hfin:∀(C D:Addr) (H':Hp) (s':Shared) (m:Str->Option Value),s'.heap.Ns C m->FpOk X pins H' C->(∀h',Heap.SameBut C s'.heap h'->Inv X pins σ H' { s' with heap:=h' })->Q (.ref D) H'->compPost (model X.prog X.w) X.A X.xe use QQ (.ref D) C (.ok .next) s')
 (hs:∀x,foldedSetIterable iter X.env x=pure x:=by intro _;rfl):
 wpAny (model X.prog X.w) X.A (comprehension (.ListComp elt [⟨tg,iter,ifs,0⟩] scope pos) scope X.env cp (newList []) false (eval iter X.env) use) QQ X.xe s:=by(
refine wpAny_comprehension_free (use:=use) (cl:=clOf X.env scope.names []) rfl hs (q72 λy hy bg=>I.ok.has _ (.inl (hfr y hy bg))) hk hnames (thn (hi pins s σ H _ I h) λv s1 h1=>thn h1 λcj O h2=>?_)
obtain⟨it,fp,tn,J,H2,e,I2,T,al,f2,q2⟩:=h2
subst e
refine bC (xS hc (by intro y hy;simp at hy) (λa2 ad U=>?_) hk)
dsimp only at ad U ⊢
rw[nM]at ad U ⊢
have ai:∀b o,O.heap.get? b=some o->a2.get? b=some o:=λb o e=>U.extBut b o (gC (rX (mD e))) (kM _ (kM _ e))
have au:a2.get? O.heap.objs.size=some { cls:=.type "list",data:=.seq ([]:List Value).toArray }:=U.extBut _ _ (gC (rP _)) (kM _ (mZ _ rfl))
have ak:∀b∈fp,∃o,O.heap.get? b=some o:=λb S=>let⟨o,e,_⟩:=T.obj _ _ al b S;⟨o,e⟩
have fresh:H2 O.heap.objs.size=none:=I2.hok.fresh (kO _)
obtain⟨W,⟨m0,w0⟩,turn⟩:=q2 O.heap.objs.size (upd H2 O.heap.objs.size (.lst [])) fresh (Same.upd fresh) qI
have fin:∀{pY σ' H' s'},Inv (zF X N scope (O.heap.objs.size+1) fp O H2 (notedBy (model X.prog X.w) X.A (compEnvC scope (clOf X.env scope.names []) (O.heap.objs.size+1) X.env) λe s'=>compPost (model X.prog X.w) X.A X.xe use QQ (.ref O.heap.objs.size) (O.heap.objs.size+1) (.error e) s')) pY σ' H' s'->Q (.ref O.heap.objs.size) H'->compPost (model X.prog X.w) X.A X.xe use QQ (.ref O.heap.objs.size) (O.heap.objs.size+1) (.ok .next) s':=fun {pY σ' H' s'} J q=>by
 obtain⟨m,hm,_⟩:=id J.loc;refine hfin (O.heap.objs.size+1) O.heap.objs.size H' s' m hm (I2.fpOk (rB _) J.free) (λh' sb=>?_) q;have eb:∀b o,b≠O.heap.objs.size+1->s'.heap.get? b=some o->h'.get? b=some o:=λb o nb e=>sb.extBut b o nb e;have aj:∀b o,O.heap.get? b=some o->b≠O.heap.objs.size+1:=λb o e=>gC (rX (mD e));have u:=J.base;have nC:H' (O.heap.objs.size+1)=none:=J.free;refine I2.call' (ch:=fp) (s':={ s' with heap:=h' }) J.os ⟨λb o e n1 n2 n3=>eb b o (aj b o e) (u.keep b o e n1 n2 n3),λb o e n1 n2 n3=>?_,u.free,λb o e n1=>?_,u.tups,u.frzs,u.tbls⟩ (λb o e=>?_) J.bare λb S=>⟨(f2 b S).2.2.2.1,(f2 b S).2.1,(f2 b S).2.2.2.2.1,(f2 b S).2.2.2.2.2⟩
 .obtain⟨sl,q1⟩:=u.slot b o e n1 n2 n3;exact⟨sl,eb b _ (aj b o e) q1⟩
 .obtain⟨o',q1⟩:=u.there b o e n1;exact⟨o',eb b _ (aj b o e) q1⟩
 refine(J.hok b o e).stay (λc v hc q1=>eb c v ?_ q1) (λz q1=>q1) λ_ _ q1=>q1;rcases hc with rfl|z
 .exact qG e nC
 exact qG z nC
have IY:Inv (zF X N scope (O.heap.objs.size+1) fp O H2 (notedBy (model X.prog X.w) X.A (compEnvC scope (clOf X.env scope.names []) (O.heap.objs.size+1) X.env) λe s'=>compPost (model X.prog X.w) X.A X.xe use QQ (.ref O.heap.objs.size) (O.heap.objs.size+1) (.error e) s')) [] (pick ix σ++List.replicate (N.length-ix.length) none) (upd H2 O.heap.objs.size (.lst [])) { O with heap:=a2,toks:=O.toks+([]:List (Str×Value)).length }:=qI4 I2 f2 ak hk hc hfr hcap hN ad ai au
generalize hY:zF X N scope (O.heap.objs.size+1) fp O H2 (notedBy (model X.prog X.w) X.A (compEnvC scope (clOf X.env scope.names []) (O.heap.objs.size+1) X.env) λe s'=>compPost (model X.prog X.w) X.A X.xe use QQ (.ref O.heap.objs.size) (O.heap.objs.size+1) (.error e) s')=Y at IY fin
have bb:PG Y tg g:=hY▸hg _ _ _ _ _
have av:PIf Y ifs tc:=hY▸hif _ _ _ _ _
have bi:PE Y elt te:=hY▸he _ _ _ _ _
have hP:Y.prog=X.prog:=by rw[<-hY]
have hw:Y.w=X.w:=by rw[<-hY]
have hK:Y.K=X.K:=by rw[<-hY]
have as:ok Y:=hY▸hok _ _ _ _ _
have ab:∀{H':Hp},(∀b∈fp,H' b=none)->∀b∈fp,FpOk Y [] H' b:=fun {H'} hn b S=>by
 rw[<-hY];refine⟨hn b S,?_,λz=>?_,.inl S,λx c e=>?_,λp hp=>(f2 b S).2.2.2.2.2 p (gX _ (by simpa using hp))⟩
 .obtain⟨o,e⟩:=ak b S;exact gC (rX (mD e))
 .rcases kN.mp (I2.stkSub b z)with z|z
  .exact(f2 b S).2.1 z
  exact(f2 b S).2.2.1 z
 exact(f2 b S).2.2.2.2.1 x c (q73 _ _ (by intro q;simp at q) e)
have ag:codeAny (model X.prog X.w) X.A (.compLoop (.ListComp elt [⟨tg,iter,ifs,0⟩] scope pos) 0 (.ref it) (.ref O.heap.objs.size) (compEnvC scope (clOf X.env scope.names []) (O.heap.objs.size+1) X.env))
 (compPost (model X.prog X.w) X.A X.xe use QQ (.ref O.heap.objs.size) (O.heap.objs.size+1)) { O with heap:=a2,toks:=O.toks+([]:List (Str×Value)).length }:=by
 refine qI5 (λn s'=>∃i H',Inv Y [] (pick ix σ++List.replicate (N.length-ix.length) none) H' s'/\tn i s'.heap/\(∀b∈fp,H' b=none)/\W i n H') ?_ m0
  ⟨0,_,IY,T.keep _ _ _ al (λb S o e=>ai b o e),λb S=>by obtain⟨o,e⟩:=ak b S;rw[qF (gC (mD e))];exact(f2 b S).1,w0⟩
 rintro n s3 ⟨i,H3,I3,ap,ay,w3⟩
 rcases turn i n H3 w3 with⟨stop,qn⟩|⟨go,NN,hNN,step⟩
 .have d:=T.done Y hP hw hK as i [] s3 _ H3 Y.xe I3 (ab ay) ap stop;subst hY;refine thn d λr s4 hZ=>?_;obtain⟨hr,I4⟩:=hZ;subst hr;exact fin I4 qn
 have d:=T.item Y hP hw hK as i [] s3 _ H3 Y.xe I3 (ab ay) ap go;have aa:∀{p5:List (Addr×Obj)} {s5 s8:Shared} {ah:St} {H8:Hp},p5=q6T fp s5.heap->tn (i+1) s5.heap->ah.length=(pick ix σ++List.replicate (N.length-ix.length) none).length->(∀j,j<ix.length->ah[j]?=(pick ix σ++List.replicate (N.length-ix.length) none)[j]?)->Inv Y ([]++p5) ah H8 s8->NN H8->∃m',m'<n/\∃i H',Inv Y [] (pick ix σ++List.replicate (N.length-ix.length) none) H' s8/\tn i s8.heap/\(∀b∈fp,H' b=none)/\W i m' H':=fun {p5 s5 s8 ah H8} e5 Z l6 k6 I8 q8=>by
  subst e5;obtain⟨m',hm,w8⟩:=hNN _ q8;refine⟨m',hm,i+1,H8,I8.unpinned.weak l6.symm (λj v e=>?_),T.keep _ _ _ Z λb S o e=>(I8.pin (b,o) (mH _ (mH _ (yX S e)))).1,λb S=>?_,w8⟩
  .by_cases hj:j<ix.length
   .rw[k6 j hj];exact e
   rw[dP (by simpa[pick]using hj),cD]at e;split at e<;>cases e
  obtain⟨o,e,_⟩:=T.obj _ _ Z b S;exact(I8.pin (b,o) (mH _ (mH _ (yX S e)))).2.1
 have ax:∀(r:Option Value) (s4:Shared),(∃u,r=some u/\wpAny (model Y.prog Y.w) Y.A (letOwnedTupleGo tg (.ref it) u) (λz O=>∃x H',Inv Y [] (pick ix σ++List.replicate (N.length-ix.length) none) H' O/\RelV x u/\J.yld i H3 x H'/\tn (i+1) O.heap/\∀b∈fp,H' b=none) Y.xe s4)->(match r with
  |none=>compPost (model X.prog X.w) X.A X.xe use QQ (.ref O.heap.objs.size) (O.heap.objs.size+1) (.ok .next) s4
  |some v=>wpAny (model Y.prog Y.w) Y.A (letOwnedTupleGo tg (.ref it) v) (λz cy=>wpAny (model Y.prog Y.w) Y.A (assign tg Y.env v) (λz ct=>
   wpAny (model Y.prog Y.w) Y.A (forIn ifs true λc r=>if r=true then do let ok<-isTrue c Y.env (eval c Y.env);pure (ForInStep.yield ok)else pure (ForInStep.yield r)) (λok a9=>
    if ok=true then wpAny (model Y.prog Y.w) Y.A (eval elt Y.env) (λx b6=>wpAny (model Y.prog Y.w) Y.A (call (.builtin "list.append") [.ref O.heap.objs.size,x]) (λz bm=>∃m,m<n/\∃i H',Inv Y [] (pick ix σ++List.replicate (N.length-ix.length) none) H' bm/\tn i bm.heap/\(∀b∈fp,H' b=none)/\W i m H') Y.xe b6) Y.xe a9
    else ∃m,m<n/\∃i H',Inv Y [] (pick ix σ++List.replicate (N.length-ix.length) none) H' a9/\tn i a9.heap/\(∀b∈fp,H' b=none)/\W i m H') Y.xe ct) Y.xe cy) Y.xe s4):=by
  rintro r s4 ⟨u,rfl,h4⟩
  dsimp only;refine thn h4 λ_ s5 hZ=>?_;obtain⟨x,H5,I5,r5,y5,Z,ba⟩:=hZ;have be:=I5.pinned (ab ba) (T.obj _ _ Z);refine thn (bb _ s5 _ H5 x u _ be r5 (hown _ _ _ _ (step x H5 y5))) λ_ s6 hZ=>?_;obtain⟨ah,H6,I6,q6,l6,k6⟩:=hZ;refine thn (av _ s6 ah H6 _ I6 q6) λb s7 hZ=>?_;obtain⟨H7,I7,q7⟩:=hZ;cases b with
  |false=>rw[kE (by decide)]at q7 ⊢;exact aa rfl Z l6 k6 I7 q7
  |true=>rw[kL rfl]at q7 ⊢;refine thn (bi _ s7 ah H7 _ I7 q7) λy s8 hZ=>?_;obtain⟨v,H8,I8,r8,vs,e8,hz,q8⟩:=hZ;refine thn (uP (X:=Y) _ s8 ah H8 (.ref O.heap.objs.size) [v] (.ref O.heap.objs.size) [y] (λz H9=>NN H9) I8 rfl (.cons r8 .nil) ⟨O.heap.objs.size,vs,v,rfl,rfl,e8,hz,q8⟩) λ_ s9 hZ=>?_;obtain⟨_,H9,I9,_,q9⟩:=hZ;exact aa rfl Z l6 k6 I9 q9
 subst hY;exact thn d ax
exact codeAny_compStart_list ag (T.self X.A 0 _ _ _ (T.keep _ _ _ al λb S o e=>ai b o e) ag))
theorem qMO{X:Cx}(N:List Str)(ix:List Nat)(hcalm:X.calm=true)(hi:PI X tg iter wi)
 (hg:∀C fp s H xe,PG (zF X N scope C fp s H xe) tg g) (hif:∀C fp s H xe,PIf (zF X N scope C fp s H xe) ifs tc) (he:∀C fp s H xe,PE (zF X N scope C fp s H xe) elt te)
 (hk:scope.kind=.function) (hc:∀y∈scope.names,y.2≠ .cell) (hfr:∀y∈scope.names,y.2=.free->X.env.kindOf y.1=some .cell) (hcap:q9A X.N X.env.kindOf scope.names N ix=true) (hN:ix.length<=N.length)
 (hnames:∀x∈scope.names,x.2=.local->scope.names.lookup x.1=some .local) (hown:Own g ix.length) (hs:∀x,foldedSetIterable iter X.env x=pure x:=by intro _;rfl):
 PE X (.ListComp elt [⟨tg,iter,ifs,0⟩] scope pos) (tLC wi g tc te ix (N.length-ix.length)):=by intro pins s σ H Q I h;exact qDG N ix _ (λU U U U U=>hcalm) hi.c hg hif he hk hc hfr hcap hN hnames hown I h (λC D H' s' m O J z q=>⟨m,O,λh' S=>⟨.ref D,H',z h' S,rfl,q⟩⟩) hs
noncomputable def qDH(XN:List Str)(kd:Str->Option NameKind)(sc:Scope)(N:List Str)(ix:List Nat):Bool:=decide (sc.kind=.function)&&sc.names.all (λy=>decide (y.2≠ .cell)&&(decide (y.2≠ .free)||decide (kd y.1=some .cell))&&(decide (y.2≠ .local)||decide (sc.names.lookup y.1=some .local)))&&q9A XN kd sc.names N ix&&decide (ix.length<=N.length)
theorem yC{X:Cx}(N:List Str)(ix:List Nat)(hcalm:X.calm=true)(hi:PI X tg iter wi)
 (hg:∀C fp s H xe,PG (zF X N scope C fp s H xe) tg g) (hif:∀C fp s H xe,PIf (zF X N scope C fp s H xe) ifs tc) (he:∀C fp s H xe,PE (zF X N scope C fp s H xe) elt te)
 (ok:qDH X.N X.env.kindOf scope N ix=true) (hown:Own g ix.length) (hs:∀x,foldedSetIterable iter X.env x=pure x:=by intro _;rfl):
 PE X (.ListComp elt [⟨tg,iter,ifs,0⟩] scope pos) (tLC wi g tc te ix (N.length-ix.length)):=by(
unfold qDH at ok
rw[gE,gE,gE,dU]at ok
obtain⟨⟨⟨h1,h2⟩,h3⟩,h4⟩:=ok
have I:∀y∈scope.names,y.2≠ .cell/\(y.2≠ .free\/X.env.kindOf y.1=some _)/\(y.2≠ .local\/scope.names.lookup y.1=some _):=λy D=>by have q:=h2 y D;rw[gE,gE,cO,cO,mG,mG,mG,mG,mG]at q;exact⟨q.1.1,q.1.2,q.2⟩
exact qMO N ix hcalm hi hg hif he (mI h1) (λy D=>(I y D).1) (λy D e=>(I y D).2.1.resolve_left (λz=>z e)) h3 (mI h4) (λy D e=>(I y D).2.2.resolve_left (λz=>z e)) hown hs)
theorem qG3{lo:Int}{n:Nat}{D:Addr}{H2:Hp}{g:TG}{tc:TT}{te:TE}{σ0:St}{Q:VK}(Pv:Nat->Hp->Prop)(h0:Pv 0 H2)
 (hs:∀(i:Nat) H,i<n->Pv i H->g (.int (lo+i)) σ0 H λσ5 H5=>tc σ5 H5 λb H6=>if b=true then te σ5 H6 (λv H7=>∃vs,H7 D=some (.lst vs)/\vs.length<sizeLine/\Pv (i+1) (upd H7 D (.lst (vs++[v]))))else Pv (i+1) H6) (hd:∀H,Pv n H->Q (.ref D) H):
 ∃W:Nat->Nat->Hp->Prop,(∃m,W 0 m H2)/\∀i m H3,W i m H3->((Itr lo n).stop i H3/\Q (.ref D) H3)\/((Itr lo n).go i H3/\∃N:Hp->Prop,(∀H',N H'->∃m',m'<m/\W (i+1) m' H')/\∀x H4,(Itr lo n).yld i H3 x H4->g x σ0 H4 λσ5 H5=>tc σ5 H5 λb H6=>
   if b=true then te σ5 H6 (λv H7=>∃vs,H7 D=some (.lst vs)/\vs.length<sizeLine/\N (upd H7 D (.lst (vs++[v]))))else N H6):=by(
refine⟨λi m H=>m=n-i/\i<=n/\Pv i H,⟨n,by rfl,m9 _,h0⟩,?_⟩
rintro i m H ⟨rfl,J,p⟩
by_cases I:i<n
.refine .inr ⟨I,Pv _,λH' z=>⟨n-(i+1),by lia,rfl,by lia,z⟩,?_⟩;rintro x H4 ⟨rfl,rfl⟩
 exact hs i _ I p
obtain rfl:i=n:=by lia
exact .inl ⟨kO _,hd _ p⟩)
theorem qDI{K:PySem.W.Frag}{a:Addr}{xs:List V}{D:Addr}{H2:Hp}{g:TG}{tc:TT}{te:TE}{σ0:St}{Q:VK}(Pv:Nat->Hp->Prop)(h0:Pv 0 H2)(hl:∀i H,Pv i H->SqL K H a xs)
 (hs:∀(i:Nat) x H,xs[i]?=some x->Pv i H->g x σ0 H λσ5 H5=>tc σ5 H5 λb H6=>if b=true then te σ5 H6 (λv H7=>∃vs,H7 D=some (.lst vs)/\vs.length<sizeLine/\Pv (i+1) (upd H7 D (.lst (vs++[v]))))else Pv (i+1) H6) (hd:∀H,Pv xs.length H->Q (.ref D) H):
 ∃W:Nat->Nat->Hp->Prop,(∃m,W 0 m H2)/\∀i m H3,W i m H3->((Itl K a).stop i H3/\Q (.ref D) H3)\/((Itl K a).go i H3/\∃N:Hp->Prop,(∀H',N H'->∃m',m'<m/\W (i+1) m' H')/\∀x H4,(Itl K a).yld i H3 x H4->g x σ0 H4 λσ5 H5=>tc σ5 H5 λb H6=>
   if b=true then te σ5 H6 (λv H7=>∃vs,H7 D=some (.lst vs)/\vs.length<sizeLine/\N (upd H7 D (.lst (vs++[v]))))else N H6):=by(
refine⟨λi m H=>m=xs.length-i/\i<=xs.length/\Pv i H,⟨xs.length,by rfl,m9 _,h0⟩,?_⟩
rintro i m H ⟨rfl,U,p⟩
have J:=hl i H p
by_cases I:i<xs.length
.have O:=kF I;refine .inr ⟨⟨xs,_,J,O⟩,Pv _,λH' z=>⟨xs.length-(i+1),by lia,rfl,by lia,z⟩,?_⟩;rintro x H4 ⟨rfl,S⟩
 exact hs i x _ (S xs J) p
obtain rfl:i=xs.length:=by lia
exact .inl ⟨⟨xs,J,kO _⟩,hd _ p⟩)
theorem qG4{K:PySem.W.Frag}{a:Addr}{xs:List V}{k:Nat}{D:Addr}{H2:Hp}{te:TE}{σ0:St}{Q:VK}(Pv:Nat->Hp->Prop)(h0:Pv 0 H2)(hl:∀i H,Pv i H->SqL K H a xs)
 (hs:∀(i:Nat) x H,xs[i]?=some x->Pv i H->te (σ0.set k (some x)) H (λv H7=>∃vs,H7 D=some (.lst vs)/\vs.length<sizeLine/\Pv (i+1) (upd H7 D (.lst (vs++[v]))))) (hd:∀H,Pv xs.length H->Q (.ref D) H):
 ∃W:Nat->Nat->Hp->Prop,(∃m,W 0 m H2)/\∀i m H3,W i m H3->((Itl K a).stop i H3/\Q (.ref D) H3)\/((Itl K a).go i H3/\∃N:Hp->Prop,(∀H',N H'->∃m',m'<m/\W (i+1) m' H')/\∀x H4,(Itl K a).yld i H3 x H4->q2E k x σ0 H4 λσ5 H5=>q75 σ5 H5 λb H6=>if b=true then te σ5 H6 (λv H7=>∃vs,H7 D=some (.lst vs)/\vs.length<sizeLine/\N (upd H7 D (.lst (vs++[v]))))else N H6):=qDI   Pv h0 hl (λi x H hx p=>qG2 (σ:=σ0.set k (some x)) (A:=λH6=>te _ H6 _) (B:=λH6=>Pv (i+1) H6) (hs i x H hx p)) hd
def rEmp(K:PySem.W.Frag):R2:=λx y H Q=>∃p xs e,x=.ref p/\y=.ref e/\SqL K H p xs/\SqL K H e []/\Q (.bl (decide (xs=[]))) H
theorem q5K{X:Cx}(hu:X.A.units+64<cLine):OpR X (compareOp .Eq) (rEmp X.K):=by(
intro pins s σ H x y v u Q I rx ry O
obtain⟨p,xs,e,ex,U,hp,Z,q⟩:=O
subst ex U
cases rx
cases ry
obtain⟨i1,r1,D,_⟩:=I.list hp
obtain⟨i2,r2,N,_⟩:=I.list Z
have J:=r1.length
have S:=r2.length
cases xs with
|nil=>exact b9  D.isList N.isList (by grind) (by lia) (λj h1 h2=>by simp at J h1;lia) ⟨.bl _,H,I,by rw[zE];rfl,q⟩
|cons z zs=>exact SeqAt.eq_list_lengthsAt D.isList N.isList (by simp at J S ⊢;lia) (by lia) ⟨.bl _,H,I,rfl,q⟩)
section
variable{X:Cx}{o e f:Expr}{apos cpos:Pos}{td ty tx:TE}
theorem qJQ{P:Program}{w:World}{k:Key}(h:(yA P w).is k u=true):RelV (kV k) u:=by(
cases k with
|inl i=>exact aT h
|inr x=>exact xV h)
theorem q5L{α β:Type}{F:α->β->Prop}:∀{l₁:List α} {l₂:List β},l₁.length=l₂.length->(∀(j:Nat) a b,l₁[j]?=some a->l₂[j]?=some b->F a b)->Paired F l₁ l₂
| [],[],_,_=>.nil
|a::l,b::l',h,k=>.cons (k 0 a b rfl rfl) (q5L (by simpa using h) λj x y hx hy=>k (j+1) x y (by simpa using hx) (by simpa using hy))
| [],_::_,h,_=>by simp at h
|_::_,[],h,_=>by simp at h
end
theorem q1Y:∀{ns:List Int} {vs:List Value},Vals (ns.map V.int) vs->IntsAre vs ns
| [],_,.nil=>.nil
|n::ns,_,.cons h t=>by obtain⟨t0,rfl⟩:=h;exact .cons n t0 (q1Y t)
section
variable{X:Cx}
theorem q9B(hc:X.calm=true):q0I X (.builtin "min") (λxs H Q=>∃(p:Addr) (ns:List Int),xs=[.ref p]/\SqL X.K H p (ns.map V.int)/\0<ns.length/\∀M,M∈ns->(∀a∈ns,M<=a)->Q (.int M) H):=by(
intro pins s σ H xs us Q I r U
obtain⟨p,ns,ex,hq,D,q⟩:=U
subst ex
obtain⟨u,rfl,rx⟩:=q00 r
cases rx
obtain⟨ab,Z,pl,hz⟩:=I.list hq
have N:=q1Y Z
obtain⟨xs,e⟩:=N.allInts.items
have z:ns=xs.toList.map (·.1):=by rw[<-N.numsOf,<-lF,<-e]
have J:=by have O:=D;rw[z,hU,mW]at O;exact O
have hl:=pl.isList
rw[e]at hl
refine min_intList (I.ok.hd hc) hl J λv h' tk hv hk=>?_
obtain⟨t,rfl⟩:=lC hv
obtain⟨h1,h2⟩:=argBest_lt (numAt xs) (xs.size-1)
refine⟨.int _,H,I.kept hk,⟨t,rfl⟩,q _ ?_ λa S=>?_⟩
.rw[z,xT];exact getD_mem (by rw[hU,mW];lia)
rw[z]at S
obtain⟨j,hj,rfl⟩:=mem_getD S
rw[hU,mW]at hj
rw[<-xT];exact h2 j (by lia))
theorem qEM(hc:X.calm=true):q0I X (.builtin "max") (λxs H Q=>∃(p:Addr) (ns:List Int),xs=[.ref p]/\SqL X.K H p (ns.map V.int)/\0<ns.length/\∀M,M∈ns->(∀a∈ns,a<=M)->Q (.int M) H):=by(
intro pins s σ H xs us Q I r U
obtain⟨p,ns,ex,hq,D,q⟩:=U
subst ex
obtain⟨u,rfl,rx⟩:=q00 r
cases rx
obtain⟨ab,Z,pl,hz⟩:=I.list hq
have N:=q1Y Z
obtain⟨xs,e⟩:=N.allInts.items
have z:ns=xs.toList.map (·.1):=by rw[<-N.numsOf,<-lF,<-e]
have J:=by have O:=D;rw[z,hU,mW]at O;exact O
have hl:=pl.isList
rw[e]at hl
refine max_intList (I.ok.hd hc) hl J λv h' tk hv hk=>?_
obtain⟨t,rfl⟩:=lC hv
obtain⟨h1,h2⟩:=argBest_gt (numAt xs) (xs.size-1)
refine⟨.int _,H,I.kept hk,⟨t,rfl⟩,q _ ?_ λa S=>?_⟩
.rw[z,xT];exact getD_mem (by rw[hU,mW];lia)
rw[z]at S
obtain⟨j,hj,rfl⟩:=mem_getD S
rw[hU,mW]at hj
rw[<-xT];exact h2 j (by lia))
theorem qEN(hc:X.calm=true):q0I X (.builtin "sum") (λxs H Q=>∃(p:Addr) (ns:List Int),xs=[.ref p]/\SqL X.K H p (ns.map V.int)/\Q (.int ns.sum) H):=by(
intro pins s σ H xs us Q I r hZ
obtain⟨p,ns,ex,hq,q⟩:=hZ
subst ex
obtain⟨u,rfl,rx⟩:=q00 r
cases rx
obtain⟨U,rv,pl,hz⟩:=I.list hq
have hi:=q1Y rv
obtain⟨xs,e⟩:=hi.allInts.items
have Z:numsOf U.toArray.toList=ns:=by rw[hi.numsOf]
have hl:=pl.isList
rw[e]at hl Z
rw[lF]at Z
have hh:=I.ok.hd hc
have J:(intItems xs).size=xs.size:=by simp[intItems]
refine call_sum_walkAnyS (iter_intList hl λaq S st D N=>?_)
subst S
have W:=(l9 (prog:=X.prog) (w:=X.w) (A:=X.A.in1) hh _ p N (intItems xs)).toS
rw[J]at W
refine⟨s.heap.objs.size,_,_,_,_,_,_,numAt xs,rfl,W,st,D,λi v hP=>lC hP,λs' t' z=>?_⟩
obtain⟨h',g',d',af,O⟩:=s'
have e1:g'=s.gens:=z.gens
have S:d'=s.drawn:=z.drawn
have e3:O=s.os:=z.os
subst e1 S e3
refine⟨.int _,H,I.kept λb o e=>z.heap b o (λhb=>absurd (mD e) ((kD.mp hb)▸dR _)) (kM _ e),⟨t',rfl⟩,?_⟩
rw[preSum_eq,xA (by simp),Z]
exact q)
theorem q4Z:∀{vs:List Value} {ns:List Int},IntsAre vs ns->Vals (ns.map V.int) vs
|_,_,.nil=>.nil
|_,_,.cons n t h=>.cons ⟨t,rfl⟩ (q4Z h)
theorem q9S:q0I X (.builtin "sorted") (λxs H Q=>∃(p:Addr) (ns:List Int),xs=[.ref p]/\SqL X.K H p (ns.map V.int)/\ns.length<64/\∀ns':List Int,ns'.Perm ns->ns'.Pairwise (·<=·)->NewO H (.lst (ns'.map V.int)) Q):=by(
intro pins s σ H xs us Q I r Z
obtain⟨p,ns,ex,hq,ac,q⟩:=Z
subst ex
obtain⟨u,rfl,rx⟩:=q00 r
cases rx
obtain⟨D,O,pl,hz⟩:=I.list hq
have U:=q1Y O
have z:D.length<64:=by rw[<-O.length,hU];simp_all
refine sorted_ints pl.isList U z λJ ns' a1 S a3=>?_
obtain⟨e,he⟩:=sortedAll_at _ D J
have N:(ns'.map V.int).length<=sizeLine:=by rw[hU,S.length_eq,g8];lia
exact⟨.ref _,_,I.laid  (λz z h=>sortedAll_old h) (rB _) (show jQ _ X.w _ _ _ (.lst _)from⟨N,J.toList,e,q4Z a1,by assumption⟩),rfl,(q ns' S a3).at _ (I.hok.fresh (rB _))⟩)
theorem qBA:q0I X (.type "range") (λxs H Q=>∃lo hi,xs=[.int lo,.int hi]/\NewO H (.rng lo hi) Q):=by(
intro pins s σ H xs J Q I r z
obtain⟨lo,hi,ex,q⟩:=z
subst ex
cases r with
|cons h1 r=>
 cases r with
 |cons h2 r=>cases r;obtain⟨D,rfl⟩:=h1;obtain⟨N,rfl⟩:=h2;refine call_range_2 ⟨.ref _,_,I.laid (λb o e=>kM _ e) (kO _) (show jQ _ X.w _ _ _ (.rng lo hi)from⟨_,_,_,mZ _ rfl⟩),rfl,q.at _ (I.hok.fresh (kO _))⟩)
theorem q8B(hc:X.calm=true):q0I X (.type "list") (λxs H Q=>∃p lo hi,xs=[.ref p]/\H p=some (.rng lo hi)/\-(2 ^ 62)<=lo/\lo<2 ^ 62/\-(2 ^ 62)<=hi/\hi<2 ^ 62/\(hi-lo).toNat<=2 ^ 24/\NewO H (.lst ((List.range (hi-lo).toNat).map λi=>.int (lo+(i:Nat)))) Q):=by(
intro pins s σ H xs us Q I r U
obtain⟨p,lo,hi,ex,hp,h1,h2,Z,h4,hz,q⟩:=U
subst ex
obtain⟨u,rfl,rx⟩:=q00 r
cases rx
obtain⟨t,u,v,hr⟩:=(show jQ X.prog X.w H s.heap p (.rng lo hi)from I.hok p _ hp)
have e2:Builtin.Range.rangeSize lo hi 1=(((hi-lo).toNat:Nat):Int):=by rw[rangeSize_one];split<;>lia
refine call_list_range (I.ok.hd hc) hr (small_one h1 h2 Z h4) e2 hz λh' tk z c' kp e N=>?_
have rv:Vals ((List.range (hi-lo).toNat).map λi=>V.int (lo+(i:Nat))) z.toList:=by
 refine q5L ?_ λj x u J S=>?_
 .rw[hU,mM,mW];exact N.1.symm
 rw[Array.getElem?_toList]at S;obtain⟨t,rfl⟩:=N.2 j u S;rw[mF]at J;obtain⟨i,D,rfl⟩:=mK.mp J;have O:=(kC.mp D).2;rw[pQ]at O;subst O;exact⟨t,by rw[Int.mul_one]⟩
exact⟨.ref _,_,I.laid (t':=tk) kp (kO _) (show jQ X.prog X.w _ h' _ (.lst _)from⟨by rw[hU,mM,g8];lia,z.toList,c',rv,by simpa using e⟩),rfl,q.at _ (I.hok.fresh (kO _))⟩)
end
structure Mk0(K:PySem.W.Frag)(C:Addr):Prop where
makes:PySem.W.makesIn K C=true
init:PySem.W.findIn K (.ref C) "__init__"=some (some (.builtin "object.__init__"))
kp:PySem.W.keepIn K (.ref C)=true
section
variable{X:Cx}{C:Addr}{x:Str}{p pos:Pos}
def tMk0(C:Addr):TE:=λσ H Q=>∀x dx,H x=none->H dx=none->dx≠x->Q (.ref x) (upd (upd H dx (.own x)) x (.ins C dx []))
theorem qG5{s:Shared}(M:Mk0 X.K C)(I:Inv X pins σ H s)(h:tMk0 C σ H Q):wpAny (model X.prog X.w) X.A (call (.ref C) []) (EP X pins σ Q) X.xe s:=by(
have S:=h _ s.heap.objs.size (I.hok.fresh (rB _)) (I.hok.fresh (kO _)) (gC (rP _))
have O:=Inv.made (C:=C) I
have z:=I.kIn
obtain⟨J,g,d,t,os⟩:=s
have Y:=bM (M:=model X.prog X.w) z M.makes
have N:=by have:=mZ (J.push PySem.W.emptyDict) (o:=PySem.W.instObj C J.objs.size) rfl;rwa [nM]at this
have ty:PySem.W.Looks (model X.prog X.w) _ (typeOf (.ref (J.objs.size+1))) (.ref C):=(bN N).andThen .now
have top:PySem.W.Looks _ _ (isInstance _ (.type "object")) true:=ty.andThen (Y.top.keeps λb o e=>kM _ (kM _ e))
refine pN (aW Y (c6 z M.init) (λD=>fU (PySem.W.oi_bind D)) (.inr ⟨rfl,rfl⟩) ?_)
refine sR PySem.W.oi_plain PySem.W.entry_oi (@aK _ _ _ _ _ "object" "__init__" _ [] [] _ PySem.W.oi_kind PySem.W.oi_split top (PySem.W.oi_args _) ?_)
exact mO ⟨rfl,⟨.ref (J.objs.size+1),_,O,rfl,S⟩⟩)
theorem q9T(M:Mk0 X.K C)(hg:Gl X x)(hm:X.mg x=some (.ref C))(hdb:(x==("__debug__":Str))=false:=by decide):PE X (.Call (.Name x p) [] [] pos) (tMk0 C):=by intro pins s σ H Q I h;exact d9 (q3K I hg hm (sZ I.kIn M.kp (qG5 M I h)) hdb)
theorem q4A(h1:PE X e t1)(h2:PE X e t2):PE X e (λσ H Q=>t1 σ H Q\/t2 σ H Q):=λpins s σ H Q I h=>h.elim (h1 _ s σ H Q I) (h2 _ s σ H Q I)
end
section
variable{X:Cx}{pins:List (Addr×Obj)}{σ:St}{H:Hp}{s:Shared}{a:Addr}
theorem Inv.freeze{o:Obj}(I:Inv X pins σ H s)(e:H a=some (.dK kvs))(ho:s.heap.get? a=some o):Inv X pins σ (upd H a (.frz o (.dK kvs))) s:=by(
have ne:∀b u,H b=some u->u≠ .dK kvs->b≠a:=λb u q n z=>by rw[z,e]at q;exact n (mB q).symm
have D:∀b,H b=none->b≠a:=λb q z=>by lia
refine⟨I.ok,I.os,I.bare,I.base.trans ⟨λb u q Z Z Z=>q,λb u q Z Z Z=>⟨u.slots,q⟩,λb u q n Z=>by rw[qF (D b n)];exact n,λb u q Z=>⟨u,q⟩,λb xs q=>by rw[qF (ne b _ q (by intro z;cases z))];exact q,λb u v q=>by rw[qF (ne b _ q (by lia))];exact q,λb ps q=>⟨#[],by rw[qF (ne b _ q (by lia)),q];simp⟩⟩,I.loc,I.cell,by rw[qF (D _ I.free)];exact I.free,λx c q=>by rw[qF (D _ (I.freeC x c q))];exact I.freeC x c q,λp U=>?_,λb u q=>?_,I.len⟩
.obtain⟨S,J,O⟩:=I.pin p U;exact⟨S,by rw[qF (D _ J)];exact J,O⟩
have st:∀b u,jQ X.prog X.w H s.heap b u->jQ X.prog X.w (upd H a (.frz o (.dK kvs))) s.heap b u:=λb u q=>q.stay (λZ Z Z z=>z) (λc z=>by rw[qF (ne c _ z (by intro z;cases z))];exact z) (λc xs z=>by rw[qF (ne c _ z (by intro z;cases z))];exact z)
by_cases N:b=a
.subst N;rw[qI]at q;cases q;exact⟨ho,st b _ (I.hok b _ e)⟩
rw[qF N]at q
exact st b u (I.hok b u q))
theorem Inv.thaw{o:Obj}(I:Inv X pins σ H s)(hne:∀o u,X.H₀ a≠some (.frz o u))(e:H a=some (.frz o u)):Inv X pins σ (upd H a u) s:=by(
have ne:∀b v,H b=some v->v≠ .frz o u->b≠a:=λb v q n z=>by rw[z,e]at q;exact n (mB q).symm
have J:∀b,H b=none->b≠a:=λb q z=>by lia
have nf:∀b v,X.H₀ b=some v->(∃o' N,v=.frz o' N)->b≠a:=λb v q ⟨o',N,z⟩ w=>by rw[w,z]at q;exact hne o' N q
refine⟨I.ok,I.os,I.bare,⟨I.base.keep,I.base.slot,λb v q n U=>?_,I.base.there,λb xs q=>?_,λb v w q=>?_,λb ps q=>?_⟩,I.loc,I.cell,by rw[qF (J _ I.free)];exact I.free,λx c q=>by rw[qF (J _ (I.freeC x c q))];exact I.freeC x c q,λp hp=>?_,λb v q=>?_,I.len⟩
.have:=I.base.free b v q n U;rw[qF (J b this)];exact this
.have:=I.base.tups b xs q;rw[qF (ne b _ this (by intro z;cases z))];exact this
.rw[qF (nf b _ q ⟨_,_,rfl⟩)];exact I.base.frzs b v w q
.obtain⟨more,D⟩:=I.base.tbls b ps q;exact⟨more,by rw[qF (ne b _ D (by intro z;cases z))];exact D⟩
.obtain⟨Z,D,S⟩:=I.pin p hp;exact⟨Z,by rw[qF (J _ D)];exact D,S⟩
have st:∀b v,jQ X.prog X.w H s.heap b v->jQ X.prog X.w (upd H a u) s.heap b v:=λb v q=>q.stay (λU U U z=>z) (λc z=>by rw[qF (ne c _ z (by intro z;cases z))];exact z) (λc xs z=>by rw[qF (ne c _ z (by intro z;cases z))];exact z)
by_cases O:b=a
.subst O;rw[qI]at q;cases q;exact st b _ (I.hok b _ e).2
rw[qF O]at q
exact st b v (I.hok b v q))
end
noncomputable def Itd(a:Addr)(o:Obj)(kvs:List (Key×V)):It:=⟨λi H=>H a=some (.frz o (.dK kvs))/\i<kvs.length,λi H x H'=>H'=H/\∃kv,kvs[i]?=some kv/\x=kV kv.1,λi H=>H a=some (.frz o (.dK kvs))/\kvs.length<=i⟩
theorem qEO{P:Program}{w:World}{K:PySem.W.Frag}(a it:Addr)(o:Obj)(rel:KV kvs vs)(hD:∀h:Heap,h.get? a=some o->h.DictAt (yA P w) a vs ep):
 Turn P w K tg (Itd a o kvs) [it] it (λi h=>h.IsKeyIter it a i vs.length ep) where
mem:=by simp
obj:=λi h st b D=>by
 have e:b=it:=by simpa using D
 subst e;obtain⟨o',e,c,d⟩:=st;exact⟨o',e,λv z=>by rw[d]at z;cases z⟩
keep:=λi h h' st k=>st.at λo e=>k it (by simp) o e
item:=by
 intro X U hw hK hc i pins s σ H E I O st hg;subst U hw hK;obtain⟨ha,hi⟩:=hg;obtain⟨Z,_⟩:=I.hok a _ ha;have hl:=rel.length;have J:i<vs.length:=by lia
 obtain⟨f0,f1,f2,S,f4,f5⟩:=O it (by simp);refine wpAny_pyNext_dict_item (k:=vs[i].1) (v:=vs[i].2) st (hD _ Z) (kF J) λaa h' hk N sb=>?_;have I1:Inv X pins σ H { s with heap:=h' }:=I.turned (t':=s.toks) (λb o D e=>(sb.2 b D).trans e) f0 f1 S f4 f5;obtain⟨o',e',c',d'⟩:=id N;refine⟨aa,rfl,qF0 (s:={ s with heap:=h' }) e' c' d' (by decide) ⟨kV kvs[i].1,H,I1,?_,⟨rfl,kvs[i],kF hi,rfl⟩,N,λb D=>(O b D).1⟩⟩;have ek:=dL (λl=>l[i]?) rel.keys;simp only[mF,kF hi,kF J,eE]at ek;rw[mB ek];exact qJQ hk
done:=by intro X U hw hK hc i pins s σ H E I O st hg;subst U hw hK;obtain⟨ha,hi⟩:=hg;obtain⟨Z,_⟩:=I.hok a _ ha;have hl:=rel.length;obtain⟨f0,f1,f2,S,f4,f5⟩:=O it (by simp);exact wpAny_pyNext_dict_end (I.ok.hd hc) st (hD _ Z) (gR (by lia)) λh' eb=>⟨rfl,I.turned (t':=s.toks) (λb o D e=>eb b o D e) f0 f1 S f4 f5⟩
self:=λz z z z z st h=>wpAny_pyIter_keyiter st h
section
variable{X:Cx}{tg:Expr}
def iDct(td:TE):TI:=λσ H R=>td σ H λx H1=>∃a kvs,x=.ref a/\H1 a=some (.dK kvs)/\∀o,R (Itd a o kvs) (upd H1 a (.frz o (.dK kvs)))
theorem qDJ(hd:PE X d td):PI X tg d (iDct td):=by(
intro pins s σ H R I h
refine thn (hd _ s σ H _ I h) λv U Z=>?_
obtain⟨x,H1,S,r1,q1⟩:=Z
obtain⟨a,kvs,e,O,q⟩:=q1
subst e
cases r1
obtain⟨z,lo,vs,J,dd⟩:=q96 S.hok O
obtain⟨ep,D⟩:=dd.dictAt
obtain⟨o,es,ho,hr⟩:=id D
have N:=S.freeze O ho
refine wpAny_pyIter_dict lo D ?_
refine⟨U.heap.objs.size,[U.heap.objs.size],_,_,_,rfl,N.kept  λb o e=>kM _ e,qEO a _ o J (λh' h=>⟨o,es,h,hr⟩),⟨_,mZ _ rfl,rfl,rfl⟩,λb hb=>?_,q o⟩
have e:=by simpa using hb
subst e
exact N.fpOk (kO _) (N.hok.fresh (kO _)))
theorem qL8{s:Shared}{a:Addr}(I:Inv X pins σ H s)(e:H a=some (.dK kvs)):∀o u,X.H₀ a≠some (.frz o u):=λo u q=>by have:=I.base.frzs a o u q;lia
def qMP(t:TE):TE:=λσ H Q=>∃a kvs,H a=some (.dK kvs)/\t σ H λv H'=>∃o u,H' a=some (.frz o u)/\Q v (upd H' a u)
theorem q9U{t:TE}(h:PE X e t):PE X e (qMP t):=by(
intro pins s σ H Q I J
obtain⟨a,kvs,N,q⟩:=J
have D:=qL8 I N
refine thn (h _ s σ H _ I q) λu s' ⟨v,H',z,r,o,w,e,q⟩=>⟨v,_,z.thaw D e,r,q⟩)
theorem qI6{a:Addr}{o:Obj}{kvs:List (Key×V)}{D:Addr}{H2:Hp}{g:TG}{tc:TT}{te:TE}{σ0:St}{Q:VK}(Pv:Nat->Hp->Prop)(h0:Pv 0 H2)(hl:∀i H,Pv i H->H a=some (.frz o (.dK kvs)))
 (hs:∀(i:Nat) kv H,kvs[i]?=some kv->Pv i H->g (kV kv.1) σ0 H λσ5 H5=>tc σ5 H5 λb H6=>if b=true then te σ5 H6 (λv H7=>∃vs,H7 D=some (.lst vs)/\vs.length<sizeLine/\Pv (i+1) (upd H7 D (.lst (vs++[v]))))else Pv (i+1) H6) (hd:∀H,Pv kvs.length H->Q (.ref D) H):
 ∃W:Nat->Nat->Hp->Prop,(∃m,W 0 m H2)/\∀i m H3,W i m H3->((Itd a o kvs).stop i H3/\Q (.ref D) H3)\/((Itd a o kvs).go i H3/\∃N:Hp->Prop,(∀H',N H'->∃m',m'<m/\W (i+1) m' H')/\∀x H4,(Itd a o kvs).yld i H3 x H4->g x σ0 H4 λσ5 H5=>tc σ5 H5 λb H6=>
   if b=true then te σ5 H6 (λv H7=>∃vs,H7 D=some (.lst vs)/\vs.length<sizeLine/\N (upd H7 D (.lst (vs++[v]))))else N H6):=by(
refine⟨λi m H=>m=kvs.length-i/\i<=kvs.length/\Pv i H,⟨kvs.length,by rfl,m9 _,h0⟩,?_⟩
rintro i m H ⟨rfl,O,p⟩
have q:=hl i H p
by_cases I:i<kvs.length
.refine .inr ⟨⟨q,I⟩,Pv _,λH' z=>⟨kvs.length-(i+1),by lia,rfl,by lia,z⟩,?_⟩;rintro v H' ⟨rfl,kv,J,rfl⟩
 exact hs i kv _ J p
obtain rfl:i=kvs.length:=by lia
exact .inl ⟨⟨q,kO _⟩,hd _ p⟩)
end
section
variable{X:Cx}
theorem qBB{ns:List Int}(r:Vals (ns.map V.int) us){j:Nat}(h:j<us.length):∃t,us[j]=.int (ns.getD j 0) t:=by(
obtain⟨x,e,q⟩:=r.atN h
rw[mF]at e
cases z:ns[j]? with
|none=>simp_all
|some i=>rw[z]at e;obtain rfl:V.int i=x:=mB e;obtain⟨t,q⟩:=q;refine⟨t,?_⟩;rw[kJ,z];exact q)
theorem qG6{ns ms:List Int}(h:ns.length=ms.length):(List.range ns.length).all (λj=>ns.getD j 0==ms.getD j 0)=decide (ns=ms):=by(
rw[cN,dU,mG]
constructor
.intro z;refine cF h λj h1 h2=>?_;have:=z j (mV.mpr h1);rw[wZ,kJ,kJ,kF h1,kF h2]at this;exact this
rintro rfl j _
exact beq_self_eq_true _)
def qMQ(K:PySem.W.Frag):R2:=λx y H Q=>∃(a b:Addr) (ns ms:List Int),x=.ref a/\y=.ref b/\SqT K H a (ns.map V.int)/\SqT K H b (ms.map V.int)/\ns.length=ms.length/\Q (.bl (!decide (ns=ms))) H
theorem qI7(hu:X.A.units+64<cLine):OpR X (compareOp .NotEq) (qMQ X.K):=by(
intro pins s σ H x y v u Q I rx ry h
obtain⟨a,b,ns,ms,rfl,rfl,O,hb,hl,q⟩:=h
cases rx
cases ry
obtain⟨N,D,S,_⟩:=I.tuple O
obtain⟨U,r2,p2,_⟩:=I.tuple hb
have l1:=D.length
have J:=r2.length
rw[hU]at l1 J
refine xX (e:=λj=>ns.getD j 0==ms.getD j 0) (show s.heap.IsTuple a _ from S) (show s.heap.IsTuple b _ from p2) (by lia) (λj h1 h2=>?_) _ _ _ _ ⟨.bl _,H,I,?_,q⟩
.obtain⟨t1,e1⟩:=qBB D  (by simpa using h1);obtain⟨Z,e2⟩:=qBB r2  (by simpa using h2);have z:=nP (A:=X.A.in1) (s:=s) (ns.getD j 0) t1 (ms.getD j 0) Z;simp_all
rw[show min _ _=ns.length by simp;lia,qG6 hl,show(N.toArray.size==U.toArray.size)=true by simp;lia,Bool.and_true]
rfl)
end
end L2
namespace W1
open PySem L2
structure Tl where
b:Int
lv:Int
cl:Int
bo:Int
noncomputable abbrev Tl.ns(T:Tl):List Int:=[T.b,T.lv,T.cl,T.bo]
def TlAt(H:Hp)(v:V)(T:Tl):Prop:=∃a,v=.ref a/\H a=some (.tup (T.ns.map V.int))
theorem TlAt.same{v:V}{T:Tl}(s:Same H H')(h:TlAt H v T):TlAt H' v T:=let⟨a,e,z⟩:=h;⟨a,e,s _ _ z⟩
abbrev Tls(H:Hp):List V->List Tl->Prop:=Paired (TlAt H)
theorem Tls.same(s:Same H H')(h:Tls H vs ts):Tls H' vs ts:=Paired.mapP h λU U z=>z.same s
theorem Tl.eq_of{A B:Tl}(h:A.ns=B.ns):A=B:=by cases A;simp[Tl.ns]at h;simp[h]
structure Tl.Ok(pg nw:Int)(T:Tl):Prop where
b0:0<=T.b
b1:T.b<16
l0:0<=T.lv
l1:T.lv<=pg
c0:0<=T.cl
c1:T.cl<10 ^ 30
o0:0<=T.bo
o1:T.bo<nw
noncomputable def unb(f:Tl->Int)(ts:List Tl)(T:Tl):Bool:=ts.all λo=>!decide (f o<f T)
theorem q76(f:Tl->Int):∀ts:List Tl,ts≠[]->∃T∈ts,∀o∈ts,f T<=f o
| [],h=>absurd rfl h
| [T],_=>⟨T,kD.mpr rfl,λo ho=>by rw[kD.mp ho];exact gU _⟩
|T::U::r,_=>by
 obtain⟨M,hm,hl⟩:=q76 f (U::r) (by simp);by_cases h:f T<=f M
 .refine⟨T,kX ..,λo ho=>?_⟩;rcases kN.mp ho with rfl|ho
  .exact gU _
  have:=hl o ho;lia
 refine⟨M,kB _ hm,λo ho=>?_⟩;rcases kN.mp ho with rfl|ho
 .lia
 exact hl o ho
theorem q6K{f:Tl->Int}{T:Tl}:unb f ts T=true↔∀o∈ts,f T<=f o:=by(
unfold unb
simp)
theorem q77(f:Tl->Int)(ts:List Tl)(h:ts≠[]):∃i,∃hi:i<ts.length,unb f ts ts[i]=true/\∀j,∀hj:j<i,unb f ts (ts[j]'(by lia))=false:=by(
obtain⟨T,hT,U⟩:=q76 f ts h
obtain⟨k,I,e⟩:=wC hT
have D:∀n,n<ts.length->(∃z:n<ts.length,unb f ts ts[n]=true)->∃i,∃hi:i<ts.length,unb f ts ts[i]=true/\∀j,∀hj:j<i,unb f ts (ts[j]'(by lia))=false:=by
 intro n;induction n using Nat.strongRecOn with
 |ind n O=>
  intro S J;obtain⟨z,N⟩:=J;by_cases g:∃j,∃hj:j<n,unb f ts (ts[j]'(by lia))=true
  .obtain⟨j,hj,u⟩:=g;exact O j hj (by lia) ⟨by lia,u⟩
  refine⟨n,S,N,λj hj=>?_⟩;simp_all
exact D k I ⟨I,q6K.mpr (by rw[e];exact U)⟩)
noncomputable def pk(f:Tl->Int)(ts:List Tl):Int:=((ts.find? (unb f ts)).map Tl.b).getD 0
theorem qJR{f:Tl->Int}{ts:List Tl}{i:Nat}(hi:i<ts.length)(u:unb f ts ts[i]=true)(n:∀j,∀hj:j<i,unb f ts (ts[j]'(by lia))=false):pk f ts=ts[i].b:=by(
have e:ts.find? (unb f ts)=some ts[i]:=by rw[List.find?_eq_some_iff_getElem];exact⟨u,i,hi,rfl,λj hj=>by rw[n j hj];rfl⟩
unfold pk
rw[e]
rfl)
theorem qG7{α:Type}{xs:List α}(h:0<xs.length):atI xs (-1)=xs[xs.length-1]?:=by(
unfold atI ixN
rw[kE (by decide),kL (by lia)]
show xs[((-1)+(xs.length:Int)).toNat]?=_
congr 1
lia)
theorem q1Z{x:Addr}(nx:H x=none)(nd:H dx=none):Same H (upd (upd H dx (.own x)) x (.ins C dx [])):=λb o e=>by rw[qF (qG e nx),qF (qG e nd)];exact e
end W1
namespace L2
open PySem PySem.Spec PyProof.Rows
theorem yY{X:Cx}{K:PySem.W.Frag}(e:X.K=K):IxR X (rIxT K):=by subst e;exact qW
theorem q78{X:Cx}{K:PySem.W.Frag}(e:X.K=K):IxR X (rIxL K):=by subst e;exact jD
theorem qCG{X:Cx}{K:PySem.W.Frag}(e:X.K=K):OpR X (compareOp .In) (rIn K false):=by subst e;exact q5H
theorem q8C{X:Cx}{K:PySem.W.Frag}(e:X.K=K):OpR X (compareOp .NotIn) (rIn K true):=by subst e;exact q4W
theorem vH{X:Cx}{spos:Pos}{i:Nat}{y:Str}(N:List Str)(ix:List Nat)(hcalm:X.calm=true)(hi:PI X tg iter wi)
 (hg:∀C fp s H xe,PG (zF X N scope C fp s H xe) tg g) (hif:∀C fp s H xe,PIf (zF X N scope C fp s H xe) ifs tc) (he:∀C fp s H xe,PE (zF X N scope C fp s H xe) elt te)
 (ok:qDH X.N X.env.kindOf scope N ix=true) (hown:Own g ix.length) (hN:X.N.Nodup) (hy:X.N[i]?=some y) (hl:Loc X.env.scope y)
 (hsw:swapsWith (.ListComp elt [⟨tg,iter,ifs,0⟩] scope pos) (some (.Name y py)) spos.line X.env=pure true:=by rfl) (hf:X.fn y=true\/X.env.scope.names.lookup y=some .local:=by first|exact .inl rfl|exact .inr rfl|assumption)
 (hs:∀x,foldedSetIterable iter X.env x=pure x:=by intro _;rfl):
 PS X (.Assign [.Name y py] (.ListComp elt [⟨tg,iter,ifs,0⟩] scope pos) spos) (tAsg (tLC wi g tc te ix (N.length-ix.length)) (q2E i)):=by(
unfold qDH at ok
rw[gE,gE,gE,dU]at ok
obtain⟨⟨⟨h1,h2⟩,h3⟩,h4⟩:=ok
have J:∀y∈scope.names,y.2≠ .cell/\(y.2≠ .free\/X.env.kindOf y.1=some .cell)/\(y.2≠ .local\/scope.names.lookup y.1=some .local):=λy hy=>by have q:=h2 y hy;rw[gE,gE,cO,cO,mG,mG,mG,mG,mG]at q;exact⟨q.1.1,q.1.2,q.2⟩
intro pins s σ H D I h
rw[exec_Assign_Name_used _ _ _ _ hsw]
refine kI (sQ (kI ?_))
refine kI (dN (qDG   N ix _ (λz z z z z=>hcalm) hi.c hg hif he (mI h1) (λy hy=>(J y hy).1) (λy hy e=>(J y hy).2.1.resolve_left (λz=>z e)) h3 (mI h4) (λy hy e=>(J y hy).2.2.resolve_left (λz=>z e)) hown I h
 (λC Dl H' s' m hm fp Z q=>?_) hs) (λz s' hq=>mO (mO hq)) λz z e=>e)
have I':Inv X pins σ H' s':=Z s'.heap (Heap.SameBut.refl _ _)
refine aU (q8S (v:=.ref Dl) I' hN hy hl rfl (λS U hZ=>?_) hf)
obtain⟨a,sb,O⟩:=hZ
have aC:C≠a:=λz=>by
 rcases O with O|O
 .exact fp.2.1 (z.trans O)
 exact fp.2.2.2.2.1 _ _ O z.symm
refine⟨m,hm.sameBut sb aC,λh' aa=>⟨_,H',U.turnedN (t':=S.toks) (fp:=[C]) (λb o hb e=>aa.extBut b o (λz=>hb (kD.mpr z)) e) (λb hb=>by rw[kD.mp hb];exact fp),q⟩⟩)
theorem yW{K:PySem.W.Frag}{a:Addr}{xs:List V}{D:Addr}{H2:Hp}{g:TG}{tc:TT}{te:TE}{σ0:St}{R:Hp->Prop}(Pv:Nat->Hp->Prop)(h0:Pv 0 H2)(hl:∀i H,Pv i H->SqL K H a xs)
 (hs:∀(i:Nat) x H,xs[i]?=some x->Pv i H->g x σ0 H λσ5 H5=>tc σ5 H5 λb H6=>if b=true then te σ5 H6 (λv H7=>∃vs,H7 D=some (.lst vs)/\vs.length<sizeLine/\Pv (i+1) (upd H7 D (.lst (vs++[v]))))else Pv (i+1) H6) (hd:∀H,Pv xs.length H->R H):
 ∃W:Nat->Nat->Hp->Prop,(∃m,W 0 m H2)/\∀i m H3,W i m H3->((Itl K a).stop i H3/\R H3)\/((Itl K a).go i H3/\∃N:Hp->Prop,(∀H',N H'->∃m',m'<m/\W (i+1) m' H')/\∀x H4,(Itl K a).yld i H3 x H4->g x σ0 H4 λσ5 H5=>tc σ5 H5 λb H6=>if b=true then te σ5 H6 (λv H7=>∃vs,H7 D=some (.lst vs)/\vs.length<sizeLine/\N (upd H7 D (.lst (vs++[v]))))else N H6):=qDI (Q:=λz H=>R H) Pv h0 hl hs hd
theorem q79{K:PySem.W.Frag}{a:Addr}{xs:List V}{k:Nat}{D:Addr}{H2:Hp}{te:TE}{σ0:St}{R:Hp->Prop}(Pv:Nat->Hp->Prop)(h0:Pv 0 H2)(hl:∀i H,Pv i H->SqL K H a xs)
 (hs:∀(i:Nat) x H,xs[i]?=some x->Pv i H->te (σ0.set k (some x)) H (λv H7=>∃vs,H7 D=some (.lst vs)/\vs.length<sizeLine/\Pv (i+1) (upd H7 D (.lst (vs++[v]))))) (hd:∀H,Pv xs.length H->R H):
 ∃W:Nat->Nat->Hp->Prop,(∃m,W 0 m H2)/\∀i m H3,W i m H3->((Itl K a).stop i H3/\R H3)\/((Itl K a).go i H3/\∃N:Hp->Prop,(∀H',N H'->∃m',m'<m/\W (i+1) m' H')/\∀x H4,(Itl K a).yld i H3 x H4->q2E k x σ0 H4 λσ5 H5=>q75 σ5 H5 λb H6=>if b=true then te σ5 H6 (λv H7=>∃vs,H7 D=some (.lst vs)/\vs.length<sizeLine/\N (upd H7 D (.lst (vs++[v]))))else N H6):=qG4 (Q:=λz H=>R H) Pv h0 hl hs hd
end L2
namespace L2
open PySem PySem.W PyProof.Rows
def hT{α:Type}(c:Nat->Nat->Bool)(n:Nat):KasT α->(α->Prop)->Prop
| .ret a,Q=>Q a
| .ask i j k,Q=>i<n/\j<n/\hT c n (k (c i j)) Q
theorem uM{α:Type}{c:Nat->Nat->Bool}{n:Nat}{Q Q':α->Prop}(h:∀a,Q a->Q' a):∀t:KasT α,hT c n t Q->hT c n t Q'
| .ret a,q=>h a q
| .ask i j k,q=>⟨q.1,q.2.1,uM h (k (c i j)) q.2.2⟩
theorem q3P{α β:Type}{c:Nat->Nat->Bool}{n:Nat}{f:α->KasT β}{Q:β->Prop}:∀t:KasT α,hT c n t (λa=>hT c n (f a) Q)->hT c n (t.bind f) Q
| .ret a,q=>q
| .ask i j k,q=>⟨q.1,q.2.1,q3P (k (c i j)) q.2.2⟩
theorem qG8{α:Type}{c:Nat->Nat->Bool}{n:Nat}{cmp:Nat->Nat->(Bool->Shared->Prop)->Shared->Prop}{G:α->Shared->Prop}{s:Shared}(hc:∀i j C,i<n->j<n->C (c i j) s->cmp i j C s):
 ∀t:KasT α,hT c n t (λa=>G a s)->t.kasWp cmp G s
| .ret a,q=>q
| .ask i j k,q=>hc i j _ q.1 q.2.1 (qG8 hc (k (c i j)) q.2.2)
section
variable{r:Nat->Int}{n:Nat}
noncomputable abbrev rc(r:Nat->Int):Nat->Nat->Bool:=λi j=>decide (r i<r j)
noncomputable abbrev kk(r:Nat->Int)(p:Array Nat)(i:Nat):Int:=r (p.getD i 0)
def Srt(r:Nat->Int)(p:Array Nat)(m:Nat):Prop:=∀i j,i<=j->j<m->kk r p i<=kk r p j
def Dec(r:Nat->Int)(p:Array Nat)(m:Nat):Prop:=∀i j,i<=j->j<m->kk r p j<=kk r p i
def Gp(n:Nat)(p:Array Nat):Prop:=p.Perm (List.range n).toArray
theorem Gp.size{p:Array Nat}(g:Gp n p):p.size=n:=by have:=g.size_eq;simpa using this
theorem Gp.lt{p:Array Nat}(g:Gp n p){i:Nat}(h:i<n):p.getD i 0<n:=by(
have z:i<p.size:=by rw[g.size];exact h
have e:p.getD i 0=p[i]:=by simp[Array.getD,z]
have:=g.mem_iff.mp (Array.getElem_mem z)
rw[e]
simp_all)
theorem Srt.more{p:Array Nat}{m:Nat}(h:Srt r p m)(e:kk r p (m-1)<=kk r p m):Srt r p (m+1):=λi j hij hj=>by(
by_cases z:j<m
.exact h i j hij z
have ej:j=m:=by lia
subst ej
by_cases z2:i=j
.simp_all
exact p7 (h i _ (by lia) (by lia)) e)
theorem Dec.more{p:Array Nat}{m:Nat}(h:Dec r p m)(e:kk r p m<=kk r p (m-1)):Dec r p (m+1):=λi j hij hj=>by(
by_cases z:j<m
.exact h i j hij z
have ej:j=m:=by lia
subst ej
by_cases z2:i=j
.simp_all
exact p7 e (h i _ (by lia) (by lia)))
theorem q50{p q:Array Nat}{i j:Nat}(h:p[i]?=q[j]?):p.getD i 0=q.getD j 0:=by simp_all
theorem qCH{p:Array Nat}{i j:Nat}(hj:j<=p.size)(k:Nat):(kas_rev p i j).getD k 0=if i<=k/\k<j then p.getD (i+j-1-k) 0 else p.getD k 0:=by(
unfold kas_rev
by_cases h:i<=k/\k<j
.rw[kL h];exact q50 (by rw[xY hj,kL h])
rw[kE h]
exact q50 (by rw[xY hj,kE h]))
theorem Gp.rev{p:Array Nat}(g:Gp n p)(i j:Nat):Gp n (kas_rev p i j):=(mirror_perm _ _ _ _).trans g
theorem qCI{p:Array Nat}(g:Gp n p):∀(f m:Nat),1<=m->m+f<=n->Srt r p m->hT (rc r) n (kas_asc p f m) (λe=>m<=e/\e<=m+f/\Srt r p e/\(e<m+f->kk r p e<kk r p (e-1)))
|0,m,h1,hz,h=>⟨kO _,kO _,h,λz=>absurd z (dR _)⟩
|f+1,m,h1,hz,h=>by
 refine⟨g.lt (by lia),g.lt (by lia),?_⟩;by_cases e:r (p.getD m 0)<r (p.getD (m-1) 0)
 .rw[show rc r (p.getD m 0) (p.getD (m-1) 0)=true from hG e];dsimp only;rw[kL rfl];exact⟨kO _,by lia,h,λU=>e⟩
 rw[show rc r (p.getD m 0) (p.getD (m-1) 0)=false from hX e];dsimp only;rw[kE kZ];refine uM ?_ _ (qCI g f (m+1) (by lia) (by lia) (h.more (by show r _<=r _;lia)));rintro a ⟨a1,a2,a3,a4⟩
 exact⟨by lia,by lia,a3,λz=>a4 (by lia)⟩
def Eql(r:Nat->Int)(p:Array Nat)(a b:Nat):Prop:=∀k,a<=k->k<b->kk r p k=kk r p (b-1)
theorem q9V{p:Array Nat}{i j:Nat}(hj:j<=p.size)(h:Eql r p i j)(k:Nat):kk r (kas_rev p i j) k=kk r p k:=by(
show r _=r _
rw[qCH hj]
by_cases z:i<=k/\k<j
.rw[kL z];exact(h _ (by lia) (by lia)).trans (h k z.1 z.2).symm
rw[kE z])
theorem q6L:∀(f:Nat) (p:Array Nat) (m q:Nat),Gp n p->q+1<=m->m+f<=n->Dec r p m->Eql r p (m-(q+1)) m->hT (rc r) n (kas_desc f p m q) (λz=>Gp n z.1/\m<=z.2.1/\z.2.1<=m+f/\Dec r z.1 z.2.1/\z.2.2+1<=z.2.1/\Eql r z.1 (z.2.1-(z.2.2+1)) z.2.1)
|0,p,m,q,g,hq,hz,d,e=>⟨g,kO _,kO _,d,hq,e⟩
|f+1,p,m,q,g,hq,hz,d,e=>by
 have hs:=g.size;refine⟨g.lt (by lia),g.lt (by lia),?_⟩;by_cases c:r (p.getD m 0)<r (p.getD (m-1) 0)
 .rw[show rc r (p.getD m 0) (p.getD (m-1) 0)=true from hG c];dsimp only;rw[kL rfl];by_cases q0:q>0
  .rw[kL q0];have kq:=q9V (r:=r) (p:=p) (i:=m-(q+1)) (j:=m) (by lia) e;have d1:Dec r (kas_rev p (m-(q+1)) m) (m+1):=λi j hij hj=>by rw[kq,kq];exact d.more (pA c) i j hij hj
   refine uM ?_ _ (q6L f _ (m+1) 0 (g.rev _ _) (by lia) (by lia) d1 λk h1 h2=>by rw[show k=m by lia];rfl);rintro a ⟨a1,a2,a3,a4⟩
   exact⟨a1,by lia,by lia,a4⟩
  rw[kE q0];refine uM ?_ _ (q6L f p (m+1) 0 g (by lia) (by lia) (d.more (pA c)) λk h1 h2=>by rw[show k=m by lia];rfl);rintro a ⟨a1,a2,a3,a4⟩
  exact⟨a1,by lia,by lia,a4⟩
 rw[show rc r (p.getD m 0) (p.getD (m-1) 0)=false from hX c];dsimp only;rw[kE kZ];refine⟨g.lt (by lia),g.lt (by lia),?_⟩;by_cases c2:r (p.getD (m-1) 0)<r (p.getD m 0)
 .rw[show rc r (p.getD (m-1) 0) (p.getD m 0)=true from hG c2];dsimp only;rw[kL rfl];exact⟨g,kO _,lM _ _,d,hq,e⟩
 rw[show rc r (p.getD (m-1) 0) (p.getD m 0)=false from hX c2];dsimp only;rw[kE kZ];have ee:r (p.getD m 0)=r (p.getD (m-1) 0):=by lia
 refine uM ?_ _ (q6L f p (m+1) (q+1) g (by lia) (by lia) (d.more (Int.le_of_eq ee)) λk h1 h2=>?_)
 .rintro a ⟨a1,a2,a3,a4⟩
  exact⟨a1,by lia,by lia,a4⟩
 show r (p.getD k 0)=r (p.getD m 0);by_cases z:k=m
 .rw[z]
 rw[ee];exact e k (by lia) (by lia)
theorem qDK{p:Array Nat}{m:Nat}(g:Gp n p)(h1:1<=m)(hm:m<=n)(d:Dec r p m):hT (rc r) n (kas_tail3 m n p) (λz=>Gp n z.2/\1<=z.1/\z.1<=n/\Srt r z.2 z.1):=by(
have S:=g.size
have sr:Srt r (kas_rev p 0 m) m:=λi j I J=>by show r _<=r _;rw[qCH (by lia),qCH (by lia),kL ⟨m9 _,by lia⟩,kL ⟨m9 _,J⟩];exact d _ _ (by lia) (by lia)
refine q3P _ (uM ?_ _ (qCI (g.rev 0 m) _ m h1 (by lia) sr))
rintro a ⟨N,O,D,_⟩
exact⟨g.rev _ _,by lia,by lia,D⟩)
theorem qDL{p:Array Nat}{m:Nat}(g:Gp n p)(hm:m+1<=n)(d:Dec r p (m+1)):hT (rc r) n (kas_descPart m n p) (λz=>Gp n z.2/\1<=z.1/\z.1<=n/\Srt r z.2 z.1):=by(
refine q3P _ (uM ?_ _ (q6L _ p (m+1) 0 g (by lia) (by lia) d λk h1 h2=>by rw[show k=m by lia];rfl))
rintro⟨p',m',q'⟩ ⟨a1,a2,a3,a4,a5,a6⟩
dsimp only at a1 a2 a3 a4 a5 a6 ⊢
have N:=a1.size
by_cases q0:q'>0
.rw[kL q0];have I:=q9V (r:=r)   (j:=m') (by lia) a6;exact qDK (a1.rev _ _) (by lia) (by lia) λi j D J=>by rw[I,I];exact a4 i j D J
rw[kE q0]
exact qDK a1 (by lia) (by lia) a4)
theorem qG9{p:Array Nat}(g:Gp n p)(h1:1<=n):hT (rc r) n (kas_count n p) (λz=>Gp n z.2/\1<=z.1/\z.1<=n/\Srt r z.2 z.1):=by(
have hs:=g.size
have s1:Srt r p 1:=λi j D I=>by rw[show i=j by lia];exact gU _
refine q3P _ (uM ?_ _ (qCI g (n-1) 1 (kO _) (by lia) s1))
rintro m ⟨S,a2,J,Z⟩
try dsimp only
by_cases e:m=n
.rw[kL (by rw[wZ];exact e)];exact⟨g,S,by lia,J⟩
rw[kE (by rw[wZ];exact e)]
have lt:=Z (by lia)
by_cases O:m>1
.rw[kL O];refine⟨g.lt (by lia),g.lt (by lia),?_⟩;by_cases c:r (p.getD 0 0)<r (p.getD (m-1) 0)
 .rw[show rc r (p.getD 0 0) (p.getD (m-1) 0)=true from hG c];dsimp only;rw[kL rfl];exact⟨g,S,by lia,J⟩
 rw[show rc r (p.getD 0 0) (p.getD (m-1) 0)=false from hX c];dsimp only;rw[kE kZ];have N:Eql r p 0 m:=λk _ hk=>by have z1:=J 0 k (m9 _) hk;have z2:=J k (m-1) (by lia) (by lia);lia
 have U:=q9V (r:=r) (p:=p) (i:=0) (j:=m) (by lia) N;refine qDL (g.rev _ _) (by lia) λi j D I=>?_;rw[U,U];refine Dec.more (m:=m) (λi j D I=>?_) (pA lt) i j D I;rw[N i (m9 _) (by lia),N j (m9 _) I];exact gU _
rw[kE O]
have:m=1:=by lia
subst this
refine qDL g (by lia) (Dec.more (λi j D I=>?_) (pA lt))
rw[show i=j by lia]
exact gU _)
theorem q7A{p:Array Nat}(g:Gp n p){k:Nat}(hk:k<n)(sr:Srt r p k):∀(f l u:Nat),u-l<=f->l<=u->u<=k->(∀i,i<l->kk r p i<=kk r p k)->(∀i,u<=i->i<k->kk r p k<kk r p i)->hT (rc r) n (kas_place p k f l u) (λm=>m<=k/\(∀i,i<m->kk r p i<=kk r p k)/\∀i,m<=i->i<k->kk r p k<kk r p i)
|0,l,u,hf,hl,hu,a,b=>⟨by lia,a,λi h1 h2=>b i (by lia) h2⟩
|f+1,l,u,hf,hl,hu,a,b=>by
 unfold kas_place;by_cases e:l>=u
 .rw[kL e];exact⟨by lia,a,λi h1 h2=>b i (by lia) h2⟩
 rw[kE e];refine⟨g.lt hk,g.lt (by lia),?_⟩;by_cases c:r (p.getD k 0)<r (p.getD ((l+u) / 2) 0)
 .rw[show rc r (p.getD k 0) (p.getD ((l+u) / 2) 0)=true from hG c];dsimp only;rw[kL rfl];refine q7A g hk sr f l ((l+u) / 2) (by lia) (by lia) (by lia) a λi h1 h2=>?_;exact nQ c (sr _ _ h1 h2)
 rw[show rc r (p.getD k 0) (p.getD ((l+u) / 2) 0)=false from hX c];dsimp only;rw[kE kZ];refine q7A g hk sr f ((l+u) / 2+1) u (by lia) (by lia) hu (λi h1=>?_) b;exact p7 (sr i ((l+u) / 2) (by lia) (by lia)) (by show r _<=r _;lia)
theorem qL9{p:Array Nat}{k l:Nat}(hk:k<p.size)(hl:l<=k)(i:Nat):(bubble p k (k-l)).getD i 0=if i=l then p.getD k 0 else if l<i/\i<=k then p.getD (i-1) 0 else p.getD i 0:=by(
have e:=getElem?_bubble hk (k-l) (by lia) i
rw[show k-(k-l)=l by lia]at e
by_cases h1:i=l
.rw[kL h1]at e ⊢;exact q50 e
rw[kE h1]at e ⊢
by_cases h2:l<i/\i<=k
.rw[kL h2]at e ⊢;exact q50 e
rw[kE h2]at e ⊢
exact q50 e)
theorem qGA:∀(f:Nat) (p:Array Nat) (k:Nat),Gp n p->k+f<=n->Srt r p k->hT (rc r) n (kas_bin f p k) (λq=>Gp n q/\Srt r q (k+f))
|0,p,k,g,hz,sr=>⟨g,sr⟩
|f+1,p,k,g,hz,sr=>by
 have hs:=g.size;refine q3P _ (uM ?_ _ (q7A g (show k<n by lia) sr k 0 k (by lia) (m9 _) (kO _) (λi h=>absurd h (xI _)) λi h1 h2=>absurd h2 (by lia)));rintro l ⟨a1,a2,a3⟩
 have at':=qL9 (p:=p) (k:=k) (l:=l) (by lia) a1;refine uM ?_ _ (qGA f _ (k+1) ((bubble_perm _ _ _).trans g) (by lia) λi j hij hj=>?_)
 .rintro q ⟨b1,b2⟩
  exact⟨b1,by rw[show k+(f+1)=k+1+f by lia];exact b2⟩
 show r _<=r _;rw[at',at'];by_cases i1:i=l
 .rw[kL i1];by_cases j1:j=l
  .rw[kL j1];exact gU _
  rw[kE j1,kL ⟨by lia,by lia⟩];exact pA (a3 (j-1) (by lia) (by lia))
 rw[kE i1];by_cases i2:l<i/\i<=k
 .rw[kL i2,kE (by lia),kL ⟨by lia,by lia⟩];exact sr _ _ (by lia) (by lia)
 rw[kE i2];by_cases j1:j=l
 .rw[kL j1];exact a2 i (by lia)
 rw[kE j1];by_cases j2:l<j/\j<=k
 .rw[kL j2];exact sr _ _ (by lia) (by lia)
 rw[kE j2];exact sr _ _ hij (by lia)
theorem qDM(h1:1<=n):hT (rc r) n (kas_sort n) (λp=>Gp n p/\Srt r p n):=by(
refine q3P _ (uM ?_ _ (qG9  (eF _) h1))
rintro⟨m,p⟩ ⟨a1,a2,a3,a4⟩
dsimp only at a1 a2 a3 a4 ⊢
by_cases e:m<n
.rw[kL e];refine uM ?_ _ (qGA _ p _ a1 (by lia) (by simp_all));simp_all
rw[kE e]
have:m=n:=by lia
subst this
exact⟨a1,a4⟩)
end
end L2
namespace L2
open PySem PySem.W PySem.Spec PyProof.Rows
section
variable{prog:Program}{w:World}{A:Around}{E:Value->Shared->Prop}{s:Shared}
noncomputable abbrev q7B(vs:List Value)(p:Array Nat):Array Value:=List.toArray (p.toList.map λi=>vs.getD i Value.none)
structure RkAt(prog:Program)(w:World)(A:Around)(vs:List Value)(κ:SortKind)(r:Nat->Int)(s:Shared):Prop where
kind:∀(Q:SortKind->Shared->Prop) (E:Value->Shared->Prop),Q κ s->wpAny (model prog w) A (keyKind' vs.toArray) Q E s
lt:∀i j (C:Bool->Shared->Prop),i<vs.length->j<vs.length->C (decide (r i<r j)) s->wpAny (model prog w) A (keyLt' κ (vs.getD i Value.none) (vs.getD j Value.none)) C (λ_ _=>False) s
theorem qCJ{a:Addr}{vs:List Value}{n:Nat}{κ:SortKind}{r:Nat->Int}{P:PySem.Fin->Shared->Prop}(ho:s.heap.get? a=some (seqObj "list" vs.toArray n))(h64:vs.length<64)
 (hr:2<=vs.length->∀h',(∀b o,b≠a->s.heap.get? b=some o->h'.get? b=some o)->RkAt prog w A vs κ r { s with heap:=h' })
 (h:∀p:Array Nat,Gp vs.length p->Srt r p vs.length->P (.done (.ret .none)) { s with heap:=sortedHeap s.heap a vs (q7B vs p) }):wpAny (model prog w) A (Builtin.«list.sort» ⟨[.ref a],[]⟩) P E s:=by(
have ha:a<s.heap.objs.size:=mD ho
have S:vs.toArray.size=vs.length:=mL ..
obtain⟨e1,g1⟩:∃e1,(s.heap.update a (Obj.mapSeq λz=>(#[]:Array Value))).get? a=some (seqObj "list" #[] e1):=⟨_,cP ho λz=>#[]⟩
have O:=kM (seqObj "list" #[] 0) (kM (seqObj "tuple" vs.toArray 0) g1)
rw[list_sort_plain]
refine kI (bE ho rfl (kI (cT ho rfl (kI (lD g1 rfl ?_)) (by rw[S,g8];lia) (m9 _))))
refine kI (wpAny_newTuple (kI (pJ (g9 ?_) (m9 _))) (by show vs.length<=_;rw[g8];lia))
dsimp only
by_cases h2:vs.toArray.size<2
.rw[kL h2,kL h2];refine kI (mO ?_);rw[eG];refine kI (mO ?_);dsimp only;have fin:=h (List.range vs.length).toArray (eF _) λi j aj hj=>by rw[show i=j by lia];exact gU _
 have eo:(pairsOf vs).map (·.2)=q7B vs (List.range vs.length).toArray:=by
  have em:=by have e:=kas_range (pairsOf vs);rw[bG]at e;exact e.symm
  apply lN.mp;rw[em,fO,lO];exact dA λi _=>by show(kas_item (pairsOf vs) i).2=_;rw[kas_item_eq]
 refine kI (lD O rfl ?_);refine kI (cT O rfl ?_ (m9 _) (by rw[Array.size_map];show(pairsOf vs).size<=_;rw[bG,g8];lia));simp only[bne_self_eq_false,pR,if_false];refine mO ?_;rw[<-eo]at fin;exact fin
rw[kE h2,kE h2]
have J:2<=vs.length:=by lia
have K:=hr J (((s.heap.update a (Obj.mapSeq λz=>(#[]:Array Value))).push (seqObj "tuple" vs.toArray 0)).push (seqObj "list" #[] 0)) λb o nb e=>kM _ (kM _ ((mJ _ _ (cC nb)).trans e))
refine kI (K.kind _ _ ?_)
have U:SortSt.mk' κ (vs.toArray.zip vs.toArray) #[] 7 none=kas_st κ (pairsOf vs) (List.toArray (List.range vs.length)):=by have e:=kas_range (pairsOf vs);rw[bG]at e;unfold kas_st;rw[e];rfl
have N:(kas_sort vs.length).kasWp (kas_cmp prog w A κ (pairsOf vs)) (λp s'=>s'= { s with heap:=((s.heap.update a (Obj.mapSeq λz=>(#[]:Array Value))).push (seqObj "tuple" vs.toArray 0)).push (seqObj "list" #[] 0) }/\Gp vs.length p/\Srt r p vs.length) { s with heap:=((s.heap.update a (Obj.mapSeq λz=>(#[]:Array Value))).push (seqObj "tuple" vs.toArray 0)).push (seqObj "list" #[] 0) }:=by rw[<-kas_ask_eq];exact qG8 (c:=rc r) (n:=vs.length) (λi j C hi hj c=>K.lt i j C hi hj c) _ (uM (λp q=>⟨rfl,q⟩) _ (qDM (by lia)))
have I:=kas_runs (E:=E) (Q:=λU z s'=>∃p:Array Nat,arrOf z=p.map (kas_item (pairsOf vs))/\failedOf z=none/\s'= { s with heap:=((s.heap.update a (Obj.mapSeq λz=>(#[]:Array Value))).push (seqObj "tuple" vs.toArray 0)).push (seqObj "list" #[] 0) }/\Gp vs.length p/\Srt r p vs.length) J h64 (λp' z s' U a2 a3 a4=>⟨p',a2,a3,a4⟩) N
rw[<-U]at I
refine kI (dN I ?_ λz z e=>e)
rintro⟨⟨⟩,z⟩ s' ⟨p,har,hf,rfl,gp,sr⟩
dsimp only
have D:(arrOf z).map (·.2)=q7B vs p:=by apply lN.mp;rw[har,fO,lO];exact dA λi _=>by show(kas_item (pairsOf vs) i).2=_;rw[kas_item_eq]
have Z:(q7B vs p).size=vs.length:=by rw[mL,hU,mW,gp.size]
rw[D]
refine kI (lD O rfl ?_)
refine kI (cT O rfl ?_ (m9 _) (kQ (pW Z) (by rw[g8];lia)))
rw[hf]
simp only[bne_self_eq_false,pR,if_false]
exact mO (h p gp sr))
theorem q9W{l:Addr}{vs:List Value}{κ:SortKind}{r:Nat->Int}(hl:s.heap.IsList l vs.toArray)(h64:vs.length<64)
 (hr:2<=vs.length->∀h',(∀b o,s.heap.get? b=some o->h'.get? b=some o)->RkAt prog w A.in1.in1 vs κ r { s with heap:=h' })
 (h:∀p:Array Nat,Gp vs.length p->Srt r p vs.length->Q (.ref (s.heap.objs.size+1)) { s with heap:=sortedAll s.heap vs (q7B vs p) }):
 wpAny (model prog w) A (call (.builtin "sorted") [.ref l]) Q E s:=by(
refine Calls.call_function_entry kind_sorted plain_sorted entry_sorted (args_sorted1 _) ?_
refine kI  (mO (kI (collect_list hl (kI (pJ ?_ (by rw[g8];show vs.length<=_;lia))))))
have z:((s.heap.push (seqObj "list" #[] 0)).update s.heap.objs.size (Obj.mapSeq (· ++vs.toArray))).objs.size=s.heap.objs.size+1:=by rw[lP,aQ]
have g:(((s.heap.push (seqObj "list" #[] 0)).update s.heap.objs.size (Obj.mapSeq (· ++vs.toArray))).push (seqObj "list" vs.toArray 0)).get? (s.heap.objs.size+1)=some (seqObj "list" vs.toArray 0):=by rw[<-z];exact mZ _ rfl
rw[z]
refine kI (g9 (wpAny_call_entry slot_list_sort ⟨_,g,rfl⟩ entry_list_sort (qCJ (κ:=κ) (r:=r) g h64 (λh2 h' k=>hr h2 h' λb o e=>k b o (gC (rX (mD e))) (kM _ ((mJ _ _ (rC (mD e))).trans (kM _ e)))) λp I D=>⟨_,rfl,?_⟩) (args_list_sort _)))
exact mO ⟨_,rfl,h p I D⟩)
end
noncomputable def lx:List Int->List Int->Bool
|a::r,b::s=>if a=b then lx r s else decide (a<b)
| [],_::_=>true
|_,[]=>false
theorem q4B:∀a:List Int,lx a a=false
| []=>rfl
|a::r=>by show(if a=a then lx r r else decide (a<a))=false;rw[kL rfl];exact q4B r
theorem q1D:∀a b c:List Int,lx a b=true->lx b c=true->lx a c=true
| [],[],c,h,_=>by cases h
| [],_::_,[],_,h=>by cases h
| [],_::_,_::_,_,_=>rfl
|_::_,[],c,h,_=>by cases h
|_::_,_::_,[],_,h=>by cases h
|a::r,b::s,c::t,h,g=>by
 have h:(if a=b then lx r s else decide (a<b))=true:=h;have g:(if b=c then lx s t else decide (b<c))=true:=g;show(if a=c then lx r t else decide (a<c))=true;by_cases e1:a=b
 .subst e1;rw[kL rfl]at h;by_cases e2:a=c
  .subst e2;rw[kL rfl]at g ⊢;exact q1D r s t h g
  rw[kE e2]at g ⊢;exact g
 rw[kE e1,mG]at h;by_cases e2:b=c
 .subst e2;rw[kE e1];exact hG h
 rw[kE e2,mG]at g;rw[kE (by lia)];exact hG (by lia)
theorem q5M:∀a b:List Int,lx a b=false->lx b a=false->a=b
| [],[],_,_=>rfl
| [],_::_,h,_=>by cases h
|_::_,[],_,h=>by cases h
|a::r,b::s,h,g=>by
 have h:(if a=b then lx r s else decide (a<b))=false:=h;have g:(if b=a then lx s r else decide (b<a))=false:=g;by_cases e:a=b
 .subst e;rw[kL rfl]at h g;rw[q5M r s h g]
 rw[kE e,rZ]at h;rw[kE (λz=>e z.symm),rZ]at g;lia
theorem qBC{α:Type}{p q:α->Bool}:∀{l:List α} {x:α},(∀y∈l,p y=true->q y=true)->x∈l->q x=true->p x=false->l.countP p<l.countP q
|a::l,x,h,hx,h1,h2=>by
 have ml:l.countP p<=l.countP q:=sE λy hy=>h y (kB _ hy);rw[sO,sO];rcases kN.mp hx with e|hx
 .subst e;rw[h1,h2,kE kZ,kL rfl];lia
 have ih:=qBC (λy hy=>h y (kB _ hy)) hx h1 h2;have ha:=h a (kX ..);cases pa:p a with
 |false=>rw[kE kZ];lia
 |true=>rw[ha pa];lia
noncomputable def rkOf(ks:List (List Int))(k:List Int):Int:=((ks.countP λy=>lx y k:Nat):Int)
theorem qCK{k:List Int}(h:k∈ks)(h':k'∈ks):rkOf ks k<rkOf ks k'↔lx k k'=true:=by(
constructor
.intro lt;cases e:lx k k' with
 |true=>rfl
 |false=>
  have:ks.countP _<=ks.countP (λy=>lx y k):=sE λy U z=>by
   cases g:lx k' k with
   |true=>exact q1D _ _ _ z g
   |false=>rw[q5M k k' e g];exact z
  unfold rkOf at lt;lia
intro e
have:=qBC (p:=λy=>lx y k)    (λy U z=>q1D _ _ _ z e) h e (q4B k)
unfold rkOf
lia)
section
variable{prog:Program}{w:World}{A:Around}{E:Value->Shared->Prop}{s:Shared}
theorem qI8{b:Bool}{x y:Int}{t:Tok}(h:Q (decide (x<y)) s):wpAny (model prog w) A (oneLt' b (.int x t) (.int y u)) Q E s:=by(
cases b with
|true=>have z:=kat_lt_int (prog:=prog) (w:=w) (A:=A) (E:=E) (t:=t) (u:=u) h;exact z
|false=>refine kat_one _ _ ?_;exact lt_int h)
theorem qBD{b:Bool}:∀{ns ms:List Int} {us vs:List Value} (i:Nat),IntsAre us ns->IntsAre vs ms->ns.length=ms.length->Q (lx ns ms) s->KatLex prog w A b false Q (us.zip vs) i s
| [],[],_,_,i,.nil,.nil,_,h=>h
|n::ns,m::ms,_,_,i,.cons _ t hn,.cons _ u hm,hl,h=>by
 refine kat_cons (wpAny_eqBool_int ?_);have h:Q (if n=m then lx ns ms else decide (n<m)) s:=h;by_cases e:n=m
 .rw[kL e]at h;rw[show(n==m)=true by rw[wZ];exact e];exact kat_yes (qBD (i+1) hn hm (by simpa using hl) h)
 rw[kE e]at h;rw[show(n==m)=false by rw[wA];exact e];exact kat_no (qI8 h)
| [],_::_,_,_,_,_,_,hl,_=>by simp at hl
|_::_,[],_,_,_,_,_,hl,_=>by simp at hl
def IsTI(h:Heap)(v:Value)(k:List Int):Prop:=∃a us,v=.ref a/\h.IsTuple a us.toArray/\IntsAre us k
theorem IsTI.at{h':Heap}{v:Value}{k:List Int}(x:IsTI h v k)(e:∀b o,h.get? b=some o->h'.get? b=some o):IsTI h' v k:=let⟨a,us,e1,⟨o,e2,r⟩,i⟩:=x
 ⟨a,us,e1,⟨o,e _ _ e2,r⟩,i⟩
theorem qDN:∀{vs:List Value} {ks:List (List Int)},Paired (IsTI h) vs ks->(∀k∈ks,0<k.length)->∃fs,KatTups h vs fs/\fs.length=ks.length/\∀v∈fs,∃i t,v=.int i t
| [],[],.nil,_=>⟨[],trivial,rfl,λv hv=>by cases hv⟩
|v::vs,k::ks,.cons x t,hp=>by
 obtain⟨fs,r,hl,hi⟩:=qDN t λk hk=>hp k (kB _ hk);obtain⟨a,us,rfl,⟨o,ho,hc,n,hd⟩,iu⟩:=x;have h0:=hp k (kX ..);cases iu with
 |nil=>simp at h0
 |cons i t0 hr=>
  refine⟨.int i t0::fs,KatTups.cons ho hc hd (by simp) r,by simp[hl],λv hv=>?_⟩;rcases kN.mp hv with rfl|hv
  .exact⟨i,t0,rfl⟩
  exact hi v hv
theorem qDO{m:Nat}(h:Paired (IsTI s.heap) vs ks)(hw:∀k∈ks,k.length=m)(hm:0<m)(h2:2<=vs.length):RkAt prog w A vs (tuples' true) (λi=>rkOf ks (ks.getD i [])) s:=by(
have hl:=h.len
constructor
.intro Q E' q;obtain⟨fs,t,e,I⟩:=qDN h λk hk=>by rw[hw k hk];exact hm
 exact kat_kind (T:=Value.type "int") t (by lia) (λv hv=>by obtain⟨i,t0,rfl⟩:=I v hv;exact .now) rfl q
intro i j C I Z c
have e1:vs[i]?=some (vs.getD i Value.none):=by rw[kF I];simp[I]
have e2:vs[j]?=some (vs.getD j Value.none):=by rw[kF Z];simp[Z]
obtain⟨z,g1,a1,S,q1,⟨o1,J,_,n1,d1⟩,i1⟩:=Paired.at h e1
obtain⟨D,U,a2,N,q2,⟨o2,O,_,n2,d2⟩,i2⟩:=Paired.at h e2
have m1:z∈ks:=gL g1
have m2:D∈ks:=gL U
have z1:ks.getD i []=z:=by rw[kJ,g1];rfl
have z2:ks.getD j []=D:=by rw[kJ,U];rfl
have ll:z.length=D.length:=by rw[hw _ m1,hw _ m2]
have c:C (lx z D) s:=by
 have y:decide (rkOf ks (ks.getD i [])<rkOf ks (ks.getD j []))=lx z D:=by rw[z1,z2,cN,mG];exact qCK m1 m2
 rw[<-y];exact c
rw[q1,q2]
refine kat_lt J d1 O d2 ?_
have f:decide (S.toArray.size<N.toArray.size)=false:=by rw[mL,mL,i1.length,i2.length,ll];exact hX (dR _)
rw[f]
exact qBD 0 i1 i2 ll c)
end
section
variable{X:Cx}
def TupI(K:PySem.W.Frag)(H:Hp)(v:V)(k:List Int):Prop:=∃a,v=.ref a/\SqT K H a (k.map V.int)
theorem q51{s:Shared}(I:Inv X pins σ H s):∀{xs:List V} {us:List Value} {ks:List (List Int)},Vals xs us->Paired (TupI X.K H) xs ks->Paired (IsTI s.heap) us ks
| [],_,_,.nil,.nil=>.nil
|x::xs,u::us,_,.cons r t,.cons ⟨a,e,h⟩ y=>by subst e;obtain rfl:u=Value.ref a:=r;obtain⟨its,rv,p,_⟩:=I.tuple h;exact .cons ⟨a,its,rfl,p,q1Y rv⟩ (q51 I t y)
theorem q5N(r:Vals xs us):∀{q:List Nat},(∀i∈q,i<xs.length)->Vals (q.map λi=>xs.getD i .non) (q.map λi=>us.getD i Value.none)
| [],_=>.nil
|i::q,h=>by have hi:=h i (kX ..);have hl:=r.length;refine .cons ?_ (q5N r λj hj=>h j (kB _ hj));obtain⟨x,e,z⟩:=r.atN (j:=i) (by lia);show RelV (xs.getD i .non) (us.getD i Value.none);rw[kJ,e,kJ,kF (by lia)];exact z
theorem q52:q0I X (.builtin "sorted") (λxs H Q=>∃(p:Addr) (us:List V) (ks:List (List Int)) (m:Nat),xs=[.ref p]/\SqL X.K H p us/\Paired (TupI X.K H) us ks/\(∀k∈ks,k.length=m)/\0<m/\us.length<64/\∀q:List Nat,q.Perm (List.range us.length)->(q.map λi=>ks.getD i []).Pairwise (λa b=>lx b a=false)->NewO H (.lst (q.map λi=>us.getD i .non)) Q):=by(
intro pins s σ H xs us Q I r hZ
obtain⟨p,ab,ks,m,ex,hq,hk,hw,hm,ap,q⟩:=hZ
subst ex
obtain⟨u,rfl,rx⟩:=q00 r
cases rx
obtain⟨D,rv,pl,hz⟩:=I.list hq
have J:=rv.length
have Z:=q51 I rv hk
refine q9W (κ:=tuples' true) (r:=λi=>rkOf ks (ks.getD i [])) pl.isList (by lia) (λh2 h' k=>qDO (Paired.mapP Z λU U z=>z.at k) hw hm h2) λa N sr=>?_
have pp:a.toList.Perm (List.range D.length):=by have:=nU.mp N;simpa using this
obtain⟨e,he⟩:=sortedAll_at s.heap D (q7B D a)
have O:∀i∈a.toList,i<ab.length:=λi S=>by rw[J];exact mV.mp (pp.mem_iff.mp S)
have kl:=hk.len
have pw:(a.toList.map λi=>ks.getD i []).Pairwise (λx y=>lx y x=false):=by
 rw[dO,pD];intro i j S U am;rw[mW,N.size]at S U;have z:rkOf ks (ks.getD (a.getD i 0) [])<=rkOf ks (ks.getD (a.getD j 0) []):=sr i j (by lia) U;have gi:a.getD i 0=a.toList[i]'(by rw[mW,N.size];exact S):=by simp[Array.getD,N.size,S]
 have gj:a.getD j 0=a.toList[j]'(by rw[mW,N.size];exact U):=by simp[Array.getD,N.size,U]
 rw[gi,gj]at z;have mem:∀x,x<ks.length->ks.getD x []∈ks:=λx hx=>by rw[kJ,kF hx];exact gG hx
 cases g:lx _ (ks.getD (a.toList[i]'(by rw[mW,N.size];exact S)) [])with
 |false=>rfl
 |true=>have lt:=(qCK (mem _ (by rw[<-kl];exact O _ (gG _))) (mem _ (by rw[<-kl];exact O _ (gG _)))).mpr g;lia
refine⟨.ref (s.heap.objs.size+1),_,I.laid (t':=s.toks) (λz z h=>sortedAll_old h) (rB _) (show jQ X.prog X.w _ _ _ (.lst _)from⟨?_,(q7B D a).toList,e,?_,he⟩),rfl,(q a.toList (by rw[J];exact pp) pw).at _ (I.hok.fresh (rB _))⟩
.rw[hU,pp.length_eq,mM,g8];lia
exact q5N rv O)
end
section
variable{X:Cx}{pins:List (Addr×Obj)}{σ:St}{H:Hp}{s:Shared}
theorem Inv.adopt{o:HO}(I:Inv X pins σ H s)(f:FpOk X pins H D)(hD:X.s₀.heap.objs.size<=D)(ok:jQ X.prog X.w (upd H D o) s.heap D o):Inv X pins σ (upd H D o) s:=by(
have N:∀b J,X.s₀.heap.get? b=some J->b≠D:=λb J e=>gC (gA (mD e) hD)
have trk:∀b u,H b=some u->b≠D:=λb u e=>qG e f.1
refine⟨I.ok,I.os,I.bare,⟨I.base.keep,I.base.slot,λb J e n x=>?_,I.base.there,λb xs e=>?_,λb J u e=>?_,λb ps e=>?_⟩,I.loc,I.cell,?_,λx c e=>?_,λp O=>?_,λb u e=>?_,I.len⟩
.rw[qF (N b J e)];exact I.base.free b J e n x
.have z:=I.base.tups b xs e;rw[qF (trk _ _ z)];exact z
.have z:=I.base.frzs b J u e;rw[qF (trk _ _ z)];exact z
.obtain⟨m,z⟩:=I.base.tbls b ps e;exact⟨m,by rw[qF (trk _ _ z)];exact z⟩
.rw[qF (λz=>f.2.1 z.symm)];exact I.free
.rw[qF (f.2.2.2.2.1 x c e)];exact I.freeC x c e
.obtain⟨Z,a2,U⟩:=I.pin p O;exact⟨Z,by rw[qF (f.2.2.2.2.2 p O)];exact a2,U⟩
by_cases S:b=D
.subst S;rw[qI]at e;lia
rw[qF S]at e
exact(I.hok b u e).stay (λz z z q=>q) (λc q=>by rw[qF (trk _ _ q)];exact q) λc xs q=>by rw[qF (trk _ _ q)];exact q)
theorem Inv.near(I:Inv X pins σ H s){A':Around}(h1:A'.handled=X.A.handled)(h2:A'.frames=X.A.frames)(xe:Value->Shared->Prop):Inv { X with A:=A',xe:=xe } pins σ H s:=⟨{ mod:=I.ok.mod,kind:=I.ok.kind,glob:=I.ok.glob,blt:=I.ok.blt,above:=I.ok.above,inj:=I.ok.inj,has:=I.ok.has,cab:=I.ok.cab,hd:=λc=>h1.trans (I.ok.hd c),frames:=h2.trans I.ok.frames,stk:=I.ok.stk,exf:=I.ok.exf,bs:=I.ok.bs,bsz:=I.ok.bsz,noex:=I.ok.noex,exfs:=I.ok.exfs,funs:=I.ok.funs,frf:=I.ok.frf },I.os,I.bare,I.base,I.loc,I.cell,I.free,I.freeC,I.pin,I.hok,I.len⟩
theorem qBE{P:PySem.Fin->Shared->Prop}{a:Addr}{st:SortSt}{ks:List Value}{out:List Value}(I:Inv X pins σ H s)(fa:FpOk X pins H a)(fk:FpOk X pins H kS)(ha:X.s₀.heap.objs.size<=a)(ne:kS≠a)
 (ga:s.heap.get? a=some (seqObj "list" #[] e1)) (gk:s.heap.get? kS=some (seqObj "list" ks.toArray e)) (hk:ks.length<64) (hout:(arrOf st).map (·.2)=out.toArray) (ho:out.length<64) (hf:failedOf st=none) (rv:Vals us out)
 (h:∀s',Inv X pins σ (upd H a (.lst us)) s'->P (.done (.ret .none)) s'):wpAny (model X.prog X.w) A (ksk_tail a false e1 (.ref kS) st) P EE s:=by(
unfold ksk_tail
rw[hout]
refine kI (cT gk rfl ?_ (by rw[mL,g8];lia) (m9 _))
refine kI (cJ ?_)
have z:(s.heap.update kS (Obj.mapSeq λU=>(#[]))).get? a=some _:=(mJ _ _ ne).trans ga
refine kI (lD z rfl ?_)
refine kI (cT z rfl ?_ (m9 _) (by rw[kE kZ,mL,g8];lia))
rw[hf]
simp only[bne_self_eq_false,pR,if_false]
refine mO (h _ ?_)
obtain⟨J,O⟩:∃J,((s.heap.update kS _).update a _).get? a=some (seqObj "list" out.toArray J):=⟨_,cP z λU=>out.toArray⟩
have S:Inv X pins σ H { s with heap:=(s.heap.update kS (Obj.mapSeq λU=>(#[]))).update a (Obj.mapSeq λU=>out.toArray),toks:=s.toks }:=I.turnedN (fp:=[kS,a]) (λb o D N=>by
  simp only[kN,gP,wO,not_or]at D;exact(mJ _ _ (cC D.2)).trans ((mJ _ _ (cC D.1)).trans N)) (λb D=>by
  simp only[kN,gP,wO]at D;lia)
exact S.adopt fa ha (show jQ X.prog X.w _ _ _ (.lst us)from⟨by rw[rv.length,g8];lia,out,J,rv,O⟩))
theorem qI9{P:PySem.Fin->Shared->Prop}{a:Addr}{ks:List Value}{kk:List (List Int)}{m:Nat}(I:Inv X pins σ H s)(fa:FpOk X pins H a)(fk:FpOk X pins H kS)(ha:X.s₀.heap.objs.size<=a)(ne:kS≠a)
 (ga:s.heap.get? a=some (seqObj "list" #[] e1)) (gk:s.heap.get? kS=some (seqObj "list" ks.toArray e)) (rz:Vals zs ks) (rv:Vals us vs) (hl:zs.length=us.length) (h64:us.length<64) (hti:Paired (TupI X.K H) zs kk) (hw:∀k∈kk,k.length=m) (hm:0<m)
 (h:∀q:List Nat,q.Perm (List.range us.length)->(q.map λi=>kk.getD i []).Pairwise (λa b=>lx b a=false)->∀s',Inv X pins σ (upd H a (.lst (q.map λi=>us.getD i .non))) s'->P (.done (.ret .none)) s'):
 wpAny (model X.prog X.w) A (ksk_end a false vs.toArray e1 (.ref kS) ks.toArray) P EE s:=by(
have l1:=rz.length
have l2:=rv.length
have l3:=hti.len
have S:ks.length=vs.length:=by lia
unfold ksk_end
try dsimp only
rw[kE kZ]
by_cases h2:vs.toArray.size<2
.rw[kL h2,kL h2];refine kI (mO ?_);rw[eG];refine kI (mO ?_);try dsimp only
 have ai:vs.length<2:=by rw[mL]at h2;exact h2
 refine qBE (out:=vs) (us:=us) I fa fk ha ne ga gk (by lia) ?_ (by lia) rfl rv λs' U=>?_
 .rw[kE kZ];show(ks.toArray.zip vs.toArray).map (·.2)=vs.toArray;apply lN.mp;rw[lO,Array.toList_zip];show(ks.zip vs).map Prod.snd=vs;exact List.map_snd_zip (by lia)
 have e:(List.range us.length).map (λi=>us.getD i .non)=us:=by refine cF (by simp) λi h1 h3=>?_;rw[lQ,pQ,kJ,kF h3];rfl
 have z:=h (List.range us.length) (List.Perm.refl _) (by rw[dO,pD];intro i j D N aa;rw[mM]at D N;lia);rw[e]at z;exact z s' U
rw[kE h2,kE h2]
have Z:2<=ks.length:=by rw[mL]at h2;lia
have K:=qDO (prog:=X.prog) (w:=X.w) (A:=A) (s:=s) (q51 I rz hti) hw hm Z
refine kI (K.kind _ _ ?_)
rw[kE kZ]
refine kI (dN (kat_run (κ:=tuples' true) (G:=λp s'=>s'=s/\Gp vs.length p/\Srt (λi=>rkOf kk (kk.getD i [])) p vs.length) (Q:=λJ s'=>∃p:Array Nat,arrOf J=p.map (kas_item (ks.toArray.zip vs.toArray))/\failedOf J=none/\s'=s/\Gp vs.length p/\Srt (λi=>rkOf kk (kk.getD i [])) p vs.length) S (by lia) (by lia) (λp' J s' z a2 a3 a4=>⟨p',a2,a3,a4⟩) ?_) ?_ λz z x=>x)
.refine qG8 (c:=rc λi=>rkOf kk (kk.getD i [])) (n:=vs.length) (λi j C D N c=>K.lt i j C (by lia) (by lia) c) _ (uM (λp q=>⟨rfl,q⟩) _ (qDM (by lia)))
rintro⟨⟨⟩,J⟩ s' ⟨p,har,hf,rfl,gp,sr⟩
try dsimp only
have pp:p.toList.Perm (List.range vs.length):=by have:=nU.mp gp;simpa using this
have O:∀i∈p.toList,i<us.length:=λi D=>by rw[l2];exact mV.mp (pp.mem_iff.mp D)
have pw:(p.toList.map λi=>kk.getD i []).Pairwise (λx y=>lx y x=false):=by
 rw[dO,pD];intro i j D N aa;rw[mW,gp.size]at D N;have z:rkOf kk (kk.getD (p.getD i 0) [])<=rkOf kk (kk.getD (p.getD j 0) []):=sr i j (by lia) N;have gi:p.getD i 0=p.toList[i]'(by rw[mW,gp.size];exact D):=by simp[Array.getD,gp.size,D]
 have gj:p.getD j 0=p.toList[j]'(by rw[mW,gp.size];exact N):=by simp[Array.getD,gp.size,N]
 rw[gi,gj]at z;have mem:∀x,x<kk.length->kk.getD x []∈kk:=λx hx=>by rw[kJ,kF hx];exact gG hx
 cases g:lx (kk.getD (p.toList[j]'(by rw[mW,gp.size];exact N)) []) (kk.getD (p.toList[i]'(by rw[mW,gp.size];exact D)) [])with
 |false=>rfl
 |true=>have b1:=O _ (gG (show j<p.toList.length by rw[mW,gp.size];exact N));have b2:=O _ (gG (show i<p.toList.length by rw[mW,gp.size];exact D));have lt:=(qCK (mem _ (by lia)) (mem _ (by lia))).mpr g;lia
exact qBE (out:=p.toList.map λi=>vs.getD i Value.none) (us:=p.toList.map λi=>us.getD i .non) I fa fk ha ne ga gk (by lia) (kat_snds S har) (by rw[hU,pp.length_eq,mM];lia) hf (q5N rv O) λs' U=>h p.toList (by rw[l2];exact pp) pw s' U)
end
theorem qBF:∀a b:List Int,HT.lexLt a b=lx a b
| [],[]=>rfl
| [],_::_=>rfl
|_::_,[]=>rfl
|x::xs,y::ys=>by show(if x=y then HT.lexLt xs ys else decide (x<y))=(if x=y then lx xs ys else decide (x<y));rw[qBF xs ys]
end L2
namespace L2
open PySem PySem.Spec PyProof.Rows
theorem qDP{X:Cx}{K:PySem.W.Frag}{k:Nat}{t:TGs}{n:Nat}(e:X.K=K)(hc:X.calm=true)(h:PGs X es t)(hn:(assignEach es X.env).length=n)(hst:(assignEach es X.env).findIdx? (·.1)=none):PG X (.Tuple es k pos) (gTup K n t):=by subst e;exact q6R hc h hn hst
noncomputable def q61(v a:Addr):HO:=.ext λh=>h.IsItemsView v a
theorem qGB{P:Program}{w:World}{h:Heap}{v a:Addr}(e:h.IsItemsView v a):jQ P w H h v (q61 v a):=by obtain⟨o,z,J,N⟩:=id e;exact⟨e,⟨_,z⟩,λ_ _ ⟨o,D,I⟩ k=>⟨o,k _ D,I⟩⟩
theorem qGC{P:Program}{w:World}{v a:Addr}(ok:HOk P w H h)(e:H v=some (q61 v a)):h.IsItemsView v a:=(ok v _ e).1
def qLA:V->List V->Hp->VK->Prop:=λx vs H Q=>∃a kvs,x=.ref a/\vs=[]/\H a=some (.dK kvs)/\∀v,H v=none->Q (.ref v) (upd H v (q61 v a))
theorem qGD:MtR X "dict.items" qLA:=by(
intro pins s σ H x vs v us Q I rx S N
obtain⟨a,kvs,ex,ev,O,q⟩:=N
subst ex ev
cases rx
have D:=S.zero
subst D
obtain⟨z,lo,U,Z,J⟩:=q96 I.hok O
refine nI lR J.typeIs PySem.F.entry_dict_items (PySem.F.args_dict_items_1 _) (meets_dict_items _ a lo) ⟨⟨U,J⟩,?_⟩
exact⟨.ref _,_,I.laid  (λb o e=>kM _ e) (kO _) (qGB ⟨_,mZ _ rfl,rfl,rfl⟩),rfl,q _ (I.hok.fresh (kO _))⟩)
theorem q7C:entryFor table "dict_itemiterator.__iter__"=some Builtin.«dict_keyiterator.__iter__»:=entryFor_alias (id':="dict_keyiterator.__iter__") (by rfl) (by rfl) (by decide+kernel) (by kernel_rfl)
noncomputable def Iti(a:Addr)(o:Obj)(kvs:List (Key×V)):It:=⟨λi H=>H a=some (.frz o (.dK kvs))/\i<kvs.length,λi H v H'=>∃T kv,v=.ref T/\H T=none/\H'=upd H T (.tup [kV kv.1,kv.2])/\kvs[i]?=some kv,λi H=>H a=some (.frz o (.dK kvs))/\kvs.length<=i⟩
theorem qCL{P:Program}{w:World}{K:PySem.W.Frag}{x1}(a it:Addr)(o:Obj)(rel:KV kvs vs)(hD:∀h:Heap,h.get? a=some o->h.DictAt (yA P w) a vs ep):
 Turn P w K (.Tuple elts x1 pos) (Iti a o kvs) [it] it (λi h=>∃k0 v0,IsItemIter h it a i vs.length ep k0 v0) where
mem:=by simp
obj:=λi h st b D=>by
 have e:b=it:=by simpa using D
 subst e;obtain⟨k0,v0,e⟩:=st;exact⟨_,e,λv z=>by cases z⟩
keep:=λi h h' st k=>let⟨k0,v0,e⟩:=st;⟨k0,v0,k it (by simp) _ e⟩
item:=by
 intro X hP hw hK hc i pins s σ H E I Z st hg;subst hP hw hK;obtain⟨ha,hi⟩:=hg;obtain⟨N,_⟩:=I.hok a _ ha;have hl:=rel.length;have J:i<vs.length:=by lia
 obtain⟨k0,v0,st⟩:=st;obtain⟨f0,f1,f2,f3,f4,f5⟩:=Z it (by simp);refine wpAny_pyNext_items_item (k:=vs[i].1) (v:=vs[i].2) st (hD _ N) (kF J) λO h' hk b1 b5 b6 b7=>?_;refine⟨_,rfl,wpAny_letOwnedTupleGo_items (s:={ s with heap:=h' }) b1 λU c1 c2=>?_⟩;have kk:∀b o,b∉[it]->s.heap.get? b=some o->U.get? b=some o:=λb o D e=>by have nb:b≠it:=λz=>D (kD.mpr z);exact c2.extBut _ _ nb (b7 b o nb e)
 have I1:Inv X pins σ H { s with heap:=U }:=I.turnedN (t':=s.toks) kk Z;have fr:H s.heap.objs.size=none:=I.hok.fresh (kO _);have yg:=I.young (a:=s.heap.objs.size) (cY (kO _));have S:s.heap.objs.size≠it:=rC (mD st);have ek:=dL (λl=>l[i]?) rel.keys;simp only[mF,kF hi,kF J,eE]at ek;have rk:RelV (kV kvs[i].1) O:=by rw[mB ek];exact qJQ hk
 have rv:RelV kvs[i].2 vs[i].2:=by obtain⟨q,hq,z1,z2⟩:=Paired.at rel (kF hi);rw[kF J]at hq;rw[mB hq];exact z2
 have I2:=I1.trackG (o:=.tup [kV kvs[i].1,kvs[i].2]) fr yg (rC I.lt) (λx' c' w q'=>by obtain⟨v,o',N,_⟩:=I.cell x' c' w;exact absurd (mD N) (by rw[q'];exact dR _)) ⟨by rw[g8,mP,mP,wV];lia,[O,vs[i].2],.cons rk (.cons rv .nil),⟨_,c2.extBut _ _ S b5,rfl,_,rfl⟩⟩;refine⟨.ref s.heap.objs.size,_,I2,rfl,⟨_,kvs[i],rfl,fr,rfl,kF hi⟩,⟨_,_,c1⟩,λb D=>?_⟩;have e:b=it:=by simpa using D
 subst e;rw[qF (cC S)];exact(Z b D).1
done:=by intro X hP hw hK hc i pins s σ H E I Z st hg;subst hP hw hK;obtain⟨ha,hi⟩:=hg;obtain⟨N,_⟩:=I.hok a _ ha;have hl:=rel.length;obtain⟨k0,v0,st⟩:=st;obtain⟨f0,f1,f2,f3,f4,f5⟩:=Z it (by simp);exact wpAny_pyNext_items_end (I.ok.hd hc) st (hD _ N) (gR (by lia)) λh' eb=>⟨rfl,I.turned (t':=s.toks) (λb o D e=>eb b o D e) f0 f1 f3 f4 f5⟩
self:=λA i s Q E ⟨k0,v0,st⟩ h=>by have ty:s.TypeIs (.ref it) "dict_itemiterator":=⟨_,st,rfl⟩;refine wpAny_pyIter_slot ty pK (wpAny_call_entry pK ty q7C ?_ (PySem.F.args_dict_itemiterator_iter_1 _));show wpAny _ _ (ret (.ref it)) _ _ s;exact mO ⟨_,rfl,"dict_itemiterator",_,ty,PySem.F.slot_dict_itemiterator_next.lookup,h⟩
section
variable{X:Cx}
def iItm(td:TE):TI:=λσ H R=>td σ H λx H1=>∃v a kvs,x=.ref v/\H1 v=some (q61 v a)/\H1 a=some (.dK kvs)/\∀o,R (Iti a o kvs) (upd H1 a (.frz o (.dK kvs)))
theorem qLB{x1}(hd:PE X d td):PI X (.Tuple elts x1 pos) d (iItm td):=by(
intro pins s σ H R I h
refine thn (hd _ s σ H _ I h) λv U Z=>?_
obtain⟨x,H1,N,r1,q1⟩:=Z
obtain⟨vw,a,kvs,e,hv,S,q⟩:=q1
subst e
cases r1
obtain⟨z,lo,vs,J,dd⟩:=q96 N.hok S
obtain⟨ep,D⟩:=dd.dictAt
obtain⟨o,es,ho,hr⟩:=id D
have O:=N.freeze S ho
refine wpAny_pyIter_items (qGC N.hok hv) D ?_
refine⟨U.heap.objs.size,[U.heap.objs.size],_,_,_,rfl,O.kept  λb o e=>kM _ e,qCL a _ o J (λh' h=>⟨o,es,h,hr⟩),⟨_,_,mZ _ rfl⟩,λb hb=>?_,q o⟩
have e:=by simpa using hb
subst e
exact O.fpOk (kO _) (O.hok.fresh (kO _)))
end
theorem qIA{a:Addr}{o:Obj}{kvs:List (Key×V)}{D:Addr}{H2:Hp}{g:TG}{tc:TT}{te:TE}{σ0:St}{R:Hp->Prop}(Pv:Nat->Hp->Prop)(h0:Pv 0 H2)(hl:∀i H,Pv i H->H a=some (.frz o (.dK kvs)))
 (hs:∀(i:Nat) kv T H,kvs[i]?=some kv->Pv i H->H T=none->g (.ref T) σ0 (upd H T (.tup [kV kv.1,kv.2])) λσ5 H5=>tc σ5 H5 λb H6=>if b=true then te σ5 H6 (λv H7=>∃vs,H7 D=some (.lst vs)/\vs.length<sizeLine/\Pv (i+1) (upd H7 D (.lst (vs++[v]))))else Pv (i+1) H6) (hd:∀H,Pv kvs.length H->R H):
 ∃W:Nat->Nat->Hp->Prop,(∃m,W 0 m H2)/\∀i m H3,W i m H3->((Iti a o kvs).stop i H3/\R H3)\/((Iti a o kvs).go i H3/\∃N:Hp->Prop,(∀H',N H'->∃m',m'<m/\W (i+1) m' H')/\∀x H4,(Iti a o kvs).yld i H3 x H4->g x σ0 H4 λσ5 H5=>tc σ5 H5 λb H6=>
   if b=true then te σ5 H6 (λv H7=>∃vs,H7 D=some (.lst vs)/\vs.length<sizeLine/\N (upd H7 D (.lst (vs++[v]))))else N H6):=by(
refine⟨λi m H=>m=kvs.length-i/\i<=kvs.length/\Pv i H,⟨kvs.length,by rfl,m9 _,h0⟩,?_⟩
rintro i m H ⟨rfl,O,p⟩
have q:=hl i H p
by_cases I:i<kvs.length
.refine .inr ⟨⟨q,I⟩,Pv _,λH' z=>⟨kvs.length-(i+1),by lia,rfl,by lia,z⟩,?_⟩;rintro v H' ⟨T,kv,rfl,nT,rfl,J⟩
 exact hs i kv T _ J p nT
obtain rfl:i=kvs.length:=by lia
exact .inl ⟨⟨q,kO _⟩,hd _ p⟩)
end L2
namespace L2
open PySem PySem.W PySem.Spec PyProof.Rows
section
variable{X:Cx}{pins:List (Addr×Obj)}{σ:St}
def TupD(H:Hp)(v:V)(k:List Int):Prop:=∃a,v=.ref a/\H a=some (.tup (k.map V.int))
theorem TupD.i{K:PySem.W.Frag}{v:V}{k:List Int}(h:TupD H v k):TupI K H v k:=let⟨a,e,z⟩:=h;⟨a,e,SqT.of z⟩
theorem TupD.same{v:V}{k:List Int}(h:TupD H v k)(s:Same H H'):TupD H' v k:=let⟨a,e,z⟩:=h;⟨a,e,s _ _ z⟩
theorem TupD.upd{v:V}{k:List Int}{o:HO}(h:TupD H v k)(hd:H D=some u)(n:∀ys,u≠ .tup ys):TupD (L2.upd H D o) v k:=let⟨a,e,z⟩:=h;⟨a,e,by rw[qF (jZ z hd (λq=>n _ q.symm))];exact z⟩
noncomputable def dI(ks:List (Int×Int)):List (Key×V):=ks.map λp=>((.inl p.1:Key),V.int p.2)
theorem q9X:∀{ks:List (Int×Int)} {n m:Int},(ks.map (·.1)).Nodup->(n,m)∈ks->valV (dI ks) (.inl n:Key)=some (.int m)
|p::ks,n,m,nd,h=>by
 obtain⟨n1,n2⟩:=gD.mp nd;show valV (((.inl p.1:Key),V.int p.2)::dI ks) (.inl n)=_;rcases kN.mp h with rfl|h
 .exact q1A rfl
 have ne:p.1≠n:=λe=>n1 (by show p.1∈_;rw[e];exact nE (f:=λx:Int×Int=>x.1) h);rw[zD (λe=>ne (wI e))];exact q9X n2 h
theorem q7D:∀{ks:List (Int×Int)} {n:Int},n∉ks.map (·.1)->valV (dI ks) (.inl n:Key)=none
| [],n,_=>rfl
|p::ks,n,h=>by
 show valV (((.inl p.1:Key),V.int p.2)::dI ks) (.inl n)=_;have h':n≠p.1/\n∉ks.map (·.1):=by simpa using h
 rw[zD (λe=>h'.1 (wI e).symm)];exact q7D h'.2
end
end L2
namespace W1
theorem jF{α:Type}(l:List α)(i j:Nat)(x d:α):(l.set i x).getD j d=if i=j/\i<l.length then x else l.getD j d:=by(
rw[kJ,List.getElem?_set,kJ]
by_cases h:i=j
.subst h;rw[kL rfl];by_cases h2:i<l.length
 .rw[kL h2,kL ⟨rfl,h2⟩];rfl
 rw[kE h2,kE (λz=>h2 z.2),gR (by lia)]
rw[kE h,kE (λz=>h z.1)])
theorem yM{P b j:Nat}(h:j<P):(b*P+j) / P=b:=by rw[cM,Nat.mul_add_div (by lia),Nat.div_eq_of_lt h,p8]
theorem qLC{P b j:Nat}(hb:b<B)(hj:j<P):b*P+j<B*P:=by have:=gH P (show b+1<=B from hb);lia
theorem zQ{α:Type}[DecidableEq α]:∀{l m:List α},l.Nodup->m.Nodup->(∀x,x∈l↔x∈m)->l.Perm m
| [],m,_,_,h=>by
 cases m with
 |nil=>exact .nil
 |cons a m=>exact absurd ((h a).mpr kX) (by simp)
|a::l,m,h1,h2,h=>by
 have ha:=(h a).mp kX;obtain⟨n1,n2⟩:=gD.mp h1;refine List.Perm.trans (List.Perm.cons a (zQ n2 (h2.erase a) λx=>?_)) (List.perm_cons_erase ha).symm;rw[List.Nodup.mem_erase_iff h2];constructor
 .intro hx;exact⟨λe=>n1 (e▸hx),(h x).mp (kB _ hx)⟩
 rintro⟨ne,hx⟩
 exact(kN.mp ((h x).mpr hx)).resolve_left ne
theorem qJS{α:Type}[DecidableEq α]:∀{l m:List α},l.Nodup->(∀x∈l,x∈m)->l.length<=m.length
| [],_,_,_=>m9 _
|a::l,m,h1,h=>by obtain⟨n1,n2⟩:=gD.mp h1;have ha:=h a kX;have:=qJS (m:=m.erase a) n2 λx hx=>(xU (show x≠a from λe=>n1 (e▸hx))).mpr (h x (kB _ hx));rw[lG ha]at this;have h0:=wH ha;rw[mP];lia
abbrev Mp:=List (Int×Int)
noncomputable def jO(W:Mp)(n:Int):Mp:=W.filter λq=>decide (q.1≠n)
noncomputable def putW(W:Mp)(n p:Int):Mp:=if(W.any λq=>decide (q.1=n))=true then W.map (λq=>if q.1=n then(q.1,p)else q)else W++[(n,p)]
theorem jC{n:Int}:q∈jO W n↔q∈W/\q.1≠n:=by unfold jO;rw[mQ,mG]
theorem qJT{W:Mp}(h:(W.map (·.1)).Nodup):W.Nodup:=(dO.mp h).imp λz e=>z (dL _ e)
theorem qLD{W:Mp}(h:(W.map (·.1)).Nodup){r:Int×Int}(hq:q∈W)(hr:r∈W)(e:q.1=r.1):q=r:=by(
induction W with
|nil=>grind
|cons a W J=>
 obtain⟨z,N⟩:=gD.mp h;rcases kN.mp hq with I|h1
 .rcases kN.mp hr with D|h2
  .simp_all
  exact absurd (by show a.1∈_;rw[<-I,e];exact nE  h2) z
 rcases kN.mp hr with D|h2
 .exact absurd (by show a.1∈_;rw[<-D,<-e];exact nE  h1) z
 exact J N h1 h2)
theorem q7E{W:Mp}{n:Int}(h:(W.map (·.1)).Nodup):((jO W n).map (·.1)).Nodup:=(h.sublist ((pE ..).map _))
theorem q1E{W:Mp}{n p:Int}(h:(W.map (·.1)).Nodup):q∈putW W n p↔q=(n,p)\/q∈jO W n:=by(
unfold putW
by_cases e:(W.any λq=>decide (q.1=n))=true
.rw[kL e,kP];obtain⟨r,N,D⟩:=cG.mp e;have D:=mI D;constructor
 .rintro⟨x,I,rfl⟩
  by_cases ex:x.1=n
  .rw[kL ex];exact .inl (by rw[ex])
  rw[kE ex];exact .inr (jC.mpr ⟨I,ex⟩)
 rintro(rfl|h2)
 .exact⟨r,N,by rw[kL D,D]⟩
 obtain⟨a,b⟩:=jC.mp h2;exact⟨q,a,kE b⟩
rw[kE e,gQ,kD]
have J:=λx I z=>e (cG.mpr ⟨x,I,hG z⟩)
constructor
.rintro(h1|h1)
 .exact .inr (jC.mpr ⟨h1,J _ h1⟩)
 exact .inl h1
rintro(h1|h1)
.exact .inr h1
exact .inl (jC.mp h1).1)
theorem qEP{W:Mp}{n p:Int}(h:(W.map (·.1)).Nodup):((putW W n p).map (·.1)).Nodup:=by(
unfold putW
by_cases e:(W.any λq=>decide (q.1=n))=true
.rw[kL e,dW];have:(λx=>x.1) ∘ (λq=>if q.1=n then(q.1,p)else q)=λx=>x.1:=by funext x;show(if x.1=n then(x.1,p)else x).1=x.1;split<;>rfl
 rw[this];exact h
rw[kE e,mE]
refine wX.mpr ⟨h,by simp,λa J b D z=>e ?_⟩
obtain⟨x,I,rfl⟩:=kP.mp J
have D:=by simpa using D
exact cG.mpr ⟨x,I,hG (by rw[z,D])⟩)
noncomputable def cntB(P:Nat)(W:Mp)(b:Nat):Nat:=W.countP λq=>decide (q.2 / (P:Int)=(b:Int))
theorem qGE{P:Nat}{W:Mp}{n p:Int}{b:Nat}(nd:(W.map (·.1)).Nodup)(h:(n,p)∈W):cntB P W b=cntB P (jO W n) b+if p / (P:Int)=(b:Int)then 1 else 0:=by(
have pm:W.Perm ((n,p)::jO W n):=zQ (qJT nd) (gD.mpr ⟨λz=>(jC.mp z).2 rfl,qJT (q7E nd)⟩) λx=>by
 rw[kN,jC];constructor
 .intro D;by_cases e:x.1=n
  .exact .inl (qLD nd D h e)
  exact .inr ⟨D,e⟩
 rintro(rfl|D)
 .exact h
 exact D.1
unfold cntB
rw[pm.countP_eq,sO]
lia)
theorem qIB{n:Int}(h:∀q∈W,q.1≠n):jO W n=W:=wD.mpr λq hq=>hG (h q hq)
structure BM where
P:Nat
B:Nat
ns:List Int
W:Mp
V:Mp
nx:Int
bs:List (Option Int)
ss:List Int
lv:List Int
fi:List Int
bo:List Int
namespace BM
variable{m:BM}
noncomputable def lvF(P:Nat)(V:Mp)(lv:List Int)(n:Int):List Int:=match V.find? λq=>decide (q.1=n)with
|some q=>lv.set (q.2 / (P:Int)).toNat (lv.getD (q.2 / (P:Int)).toNat 0-1)
|none=>lv
end BM
end W1
namespace L2
open PySem PySem.Spec PyProof.Rows
def qMR(K:PySem.W.Frag):R2:=λx y H Q=>∃p xs e,x=.ref p/\y=.ref e/\SqL K H p xs/\SqL K H e []/\Q (.bl (decide (xs≠[]))) H
theorem qGF{X:Cx}(hu:X.A.units+64<cLine):OpR X (compareOp .NotEq) (qMR X.K):=by(
intro pins s σ H x y v u Q I rx ry O
obtain⟨p,xs,e,ex,U,hp,Z,q⟩:=O
subst ex U
cases rx
cases ry
obtain⟨i1,r1,D,_⟩:=I.list hp
obtain⟨i2,r2,N,_⟩:=I.list Z
have J:=r1.length
have S:=r2.length
cases xs with
|nil=>exact aP  D.isList N.isList (by grind) (by lia) (λj h1 h2=>by simp at J h1;lia) _ _ _ _ ⟨.bl _,H,I,by rw[zE];rfl,q⟩
|cons z zs=>exact SeqAt.RcNeAt.lists_lengths D.isList N.isList (by simp at J S ⊢;lia) (by lia) _ _ _ _ ⟨.bl _,H,I,rfl,q⟩)
theorem q2L{n j:Nat}(h:j<n):ixN n (j:Int)=some j:=by(
unfold ixN
simp_all)
theorem qGG{V:List (Int×Int)}{n:Int}:q44 (dI V) (Sum.inl n:Key)=dI (W1.jO V n):=by(
unfold q44 dI W1.jO
rw[sV]
congr 1
apply r6
simp)
theorem qIC{n p:Int}:putK (dI W) (Sum.inl n:Key) (.int p)=dI (W1.putW W n p):=by(
unfold putK dI W1.putW
have e:((W.map λp=>((Sum.inl p.1:Key),V.int p.2)).any λD=>decide (D.1=Sum.inl n))=W.any λq=>decide (q.1=n):=by
 rw[fT];congr 1;funext q;simp
rw[e]
by_cases h:(W.any λq=>decide (q.1=n))=true
.rw[kL h,kL h,dW,dW];apply dA;intro q _;show(if(Sum.inl q.1:Key)=Sum.inl n then((Sum.inl q.1),V.int p)else((Sum.inl q.1),V.int q.2))=_;by_cases e:q.1=n
 .rw[kL (by rw[e])];show _=(λp=>((Sum.inl p.1),V.int p.2)) (if q.1=n then(q.1,p)else q);rw[kL e]
 rw[kE (λz=>e (wI z))];show _=(λp=>((Sum.inl p.1),V.int p.2)) (if q.1=n then(q.1,p)else q);rw[kE e]
rw[kE h,kE h,mE]
rfl)
theorem qEQ{V:List (Int×Int)}{n p:Int}:W1.putW (W1.jO V n) n p=W1.jO V n++[(n,p)]:=by(
unfold W1.putW
rw[kE]
intro h
obtain⟨q,z,e⟩:=cG.mp h
exact(W1.jC.mp z).2 (mI e))
theorem setV{ns:List Int}{c:Nat}{x:Int}:(ns.map V.int).set c (.int x)=(ns.set c x).map V.int:=by simp
theorem atV{ns:List Int}{c:Nat}(h:c<ns.length):atI (ns.map V.int) (c:Int)=some (.int (ns.getD c 0)):=by refine yH ?_;rw[mF,kJ,kF h];rfl
theorem qGH:∀{A B:List (List Int)},A.Perm B->A.Pairwise (λa b=>lx b a=false)->B.Pairwise (λa b=>lx b a=false)->A=B
| [],B,p,_,_=>(aB.mp p).symm▸rfl
|a::A,[],p,_,_=>absurd p.length_eq (by simp)
|a::A,b::B,p,h1,h2=>by
 have e:a=b:=by
  by_cases e:a=b
  .exact e
  have D:b∈A:=(kN.mp (p.mem_iff.mpr kX)).resolve_left (λz=>e z.symm);have I:a∈B:=(kN.mp (p.mem_iff.mp kX)).resolve_left e;exact q5M a b ((dC.mp h2).1 a I) ((dC.mp h1).1 b D)
 subst e;rw[qGH ((eW a).mp p) (dC.mp h1).2 (dC.mp h2).2]
theorem q9Y:∀{A B:List Int},A.Perm B->A.Pairwise (·<=·)->B.Pairwise (·<=·)->A=B
| [],B,p,_,_=>(aB.mp p).symm▸rfl
|a::A,[],p,_,_=>absurd p.length_eq (by simp)
|a::A,b::B,p,h1,h2=>by
 have e:a=b:=by
  by_cases e:a=b
  .exact e
  have D:b∈A:=(kN.mp (p.mem_iff.mpr kX)).resolve_left (λz=>e z.symm);have I:a∈B:=(kN.mp (p.mem_iff.mp kX)).resolve_left e;have:=(dC.mp h2).1 a I;have:=(dC.mp h1).1 b D;lia
 subst e;rw[q9Y ((eW a).mp p) (dC.mp h1).2 (dC.mp h2).2]
theorem qBG{a:Addr}{o:Obj}{kvs:List (Key×V)}{D:Addr}{H2:Hp}{g:TG}{tc:TT}{te:TE}{σ0:St}{R:Hp->Prop}(Pv:Nat->Hp->Prop)(h0:Pv 0 H2)(hl:∀i H,Pv i H->H a=some (.frz o (.dK kvs)))
 (hs:∀(i:Nat) kv H,kvs[i]?=some kv->Pv i H->g (kV kv.1) σ0 H λσ5 H5=>tc σ5 H5 λb H6=>if b=true then te σ5 H6 (λv H7=>∃vs,H7 D=some (.lst vs)/\vs.length<sizeLine/\Pv (i+1) (upd H7 D (.lst (vs++[v]))))else Pv (i+1) H6) (hd:∀H,Pv kvs.length H->R H):
 ∃W:Nat->Nat->Hp->Prop,(∃m,W 0 m H2)/\∀i m H3,W i m H3->((Itd a o kvs).stop i H3/\R H3)\/((Itd a o kvs).go i H3/\∃N:Hp->Prop,(∀H',N H'->∃m',m'<m/\W (i+1) m' H')/\∀x H4,(Itd a o kvs).yld i H3 x H4->g x σ0 H4 λσ5 H5=>tc σ5 H5 λb H6=>if b=true then te σ5 H6 (λv H7=>∃vs,H7 D=some (.lst vs)/\vs.length<sizeLine/\N (upd H7 D (.lst (vs++[v]))))else N H6):=qI6 (Q:=λz H=>R H) Pv h0 hl hs hd
theorem q7F{ks:List (List Int)}{q:List Nat}{n:Nat}(hn:ks.length=n)(p:q.Perm (List.range n)):(q.map λi=>ks.getD i []).Perm ks:=by(
refine(p.map _).trans ?_
have e:(List.range n).map (λi=>ks.getD i [])=ks:=by
 apply cF
 .rw[hU,mM,hn]
 intro i h1 h2;rw[lQ,pQ,kJ,kF h2];rfl
rw[e])
theorem q7G{F:V->List Int->Prop}{us:List V}{ks:List (List Int)}{q:List Nat}(h:Paired F us ks)(hq:∀i∈q,i<us.length):Paired F (q.map λi=>us.getD i .non) (q.map λi=>ks.getD i []):=by(
refine q5L (by rw[hU,hU]) λj x k N I=>?_
rw[mF]at N I
obtain⟨i,J,rfl⟩:=mK.mp N
rw[J]at I
obtain rfl:=mB I
have hl:=hq i (gL J)
have O:us[i]?=some (us.getD i .non):=by rw[kJ,kF hl];rfl
obtain⟨k,D,z⟩:=Paired.at h O
show F _ (ks.getD i [])
rw[show ks.getD i []=k from by rw[kJ,D];rfl]
exact z)
theorem jH(h:Paired (TupD H) us ks)(s:Same H H'):Paired (TupD H') us ks:=Paired.mapP h λU U z=>z.same s
theorem q9Z{K:PySem.W.Frag}(h:Paired (TupD H) us ks):Paired (TupI K H) us ks:=Paired.mapP h λU U z=>z.i
theorem zW{lo:Int}{n:Nat}{D:Addr}{H2:Hp}{g:TG}{tc:TT}{te:TE}{σ0:St}{R:Hp->Prop}(Pv:Nat->Hp->Prop)(h0:Pv 0 H2)
 (hs:∀(i:Nat) H,i<n->Pv i H->g (.int (lo+i)) σ0 H λσ5 H5=>tc σ5 H5 λb H6=>if b=true then te σ5 H6 (λv H7=>∃vs,H7 D=some (.lst vs)/\vs.length<sizeLine/\Pv (i+1) (upd H7 D (.lst (vs++[v]))))else Pv (i+1) H6) (hd:∀H,Pv n H->R H):
 ∃W:Nat->Nat->Hp->Prop,(∃m,W 0 m H2)/\∀i m H3,W i m H3->((Itr lo n).stop i H3/\R H3)\/((Itr lo n).go i H3/\∃N:Hp->Prop,(∀H',N H'->∃m',m'<m/\W (i+1) m' H')/\∀x H4,(Itr lo n).yld i H3 x H4->g x σ0 H4 λσ5 H5=>tc σ5 H5 λb H6=>if b=true then te σ5 H6 (λv H7=>∃vs,H7 D=some (.lst vs)/\vs.length<sizeLine/\N (upd H7 D (.lst (vs++[v]))))else N H6):=qG3 (Q:=λz H=>R H) Pv h0 hs hd
theorem qCM{a:Addr}(ha:H a=some u)(k:∀b o,b≠a->H b=some o->H3 b=some o):Same H (upd H3 a u):=λb o e=>by(
by_cases z:b=a
.rw[z,qI,<-ha,<-z];exact e
rw[qF z]
exact k b o z e)
theorem vI{X:Cx}{K:PySem.W.Frag}{f:Str}(eK:X.K=K)(he:PE X e ta)(hb:attributeBase e f X.env (eval e X.env)=eval e X.env):PE X (.Attribute e f pos) (tFld K ta f):=by subst eK;exact qJ he hb
end L2
namespace L2
open PySem PySem.W PySem.Spec PyProof.Rows
def BmIn(base:Heap)(mg:Str->Option Value):Prop:=∃bm o,mg "__builtins__"=some (.ref bm)/\bm≠builtinsNs/\base.get? bm=some o/\o.cls=.type "module"/\o.dict=some builtinsNs/\o.data=.plain
theorem qER{P:Program}{w:World}{K:PySem.W.Frag}{mg:Str->Option Value}{k:Nat}{a:Addr}{fd:FuncData}{x:Str}{sp:Sp}{s₁:Shared}{vs:List Value}{ns:List Int}(ts:List Addr)
 (KX:K.In s₁.heap) (hts:∀T∈ts,s₁.heap.get? T=some (tabObj #[])/\K.lookup T=none/\∃c,codeHdIn K c T=true) (hns:s₁.heap.Ns mainGlobals mg) (hb:s₁.heap.Ns builtinsNs mb) (hbb:∀x:Str,x≠"__name__"->mb x=bootBuiltins x) (hlim:s₁.heap.NoLimit) (hbm:BmIn s₁.heap mg) (hg:s₁.gens=#[])
 (ha:s₁.heap.get? a=some { cls:=.type "list",data:=.seq vs.toArray }) (hi:IntsAre vs ns) (hl:ns.length<=sizeLine) (hr:Room k callerA)
 (F:∀base:Heap,K.In base->base.Ns mainGlobals mg->BmIn base mg->FnOk P w K mg base CX k fa fd [x] sp) (hbind:∀(s:Shared) (u:Value),BindsTo s fd ⟨[u],[]⟩ [(x,u)])
 (hsp:∀H:Hp,SqL K H a (ns.map V.int)->(∀T∈ts,H T=some (.tbl #[]))->sp [.ref a] H (λv z=>v=.bl true) λz z z=>False)
 (hCX:∀H e s',CX [] H s₁ (λz z z=>False) e s'->False):
 codeAny (model P w) callerA (.call (.ref fa) ⟨[.ref a],[]⟩) (λr s'=>r=.ok (.ret (.bool true))/\OldK s₁.heap s'.heap/\s'.os=s₁.os/\AllBare s'.gens) s₁:=by(
have rv:=q98 hi
have lenV:=hi.length
have ag:a∉ts:=λz=>by have e:=(hts a z).1;rw[ha]at e;cases e
have U:∀H:Hp,SqL K H a (ns.map V.int)->HOk P w H s₁.heap->(∀b,H b=none\/(b=a/\K.lookup a=none/\∃o xs,H b=some (.frz o (.lst xs)))\/(b∈ts/\H b=some (.tbl #[])))->(∀T∈ts,H T=some (.tbl #[]))->codeAny (model P w) callerA (.call (.ref fa) ⟨[.ref a],[]⟩) (λr s'=>r=.ok (.ret (.bool true))/\OldK s₁.heap s'.heap/\s'.os=s₁.os/\AllBare s'.gens) s₁:=by
 intro H hS ab hO hT;have I:∀{b:Addr} {o:Obj},s₁.heap.get? b=some o->H b=none->(hidT s₁.heap H).get? b=some o:=λe n=>q6P e n;have ah:∀{b:Addr} {o:Obj} {es:Array DictEntry} {ep:Nat},s₁.heap.get? b=some o->o.data=.dict es ep->H b=none:=fun {b o es ep} e d=>by
  rcases hO b with z|⟨rfl,_⟩|⟨z,_⟩
  .exact z
  .rw[ha]at e;cases e;cases d
  rw[(hts b z).1]at e;cases e;cases d
 have O:∀{b:Addr} {m:Str->Option Value},s₁.heap.Ns b m->(hidT s₁.heap H).Ns b m:=fun {b m} ⟨o,es,ep,e,d,r⟩=>⟨o,es,ep,I e (ah e d),d,r⟩
 have Z:K.In (hidT s₁.heap H):=λb o e=>I (KX b o e) (by
  rcases hO b with z|⟨rfl,z,_⟩|⟨z,_⟩
  .exact z
  .rw[z]at e;cases e
  rw[(hts b z).2.1]at e;cases e)
 have hM:Mod K mg (hidT s₁.heap H):=⟨Z,O hns,⟨mb,O hb,hbb⟩,let⟨mc,h1,h2⟩:=hlim;⟨mc,O h1,h2⟩⟩;have hB:BmIn (hidT s₁.heap H) mg:=by
  obtain⟨bm,o,b1,b2,b3,b4,b5,b6⟩:=hbm;refine⟨bm,o,b1,b2,I b3 ?_,b4,b5,b6⟩;rcases hO bm with z|⟨rfl,_⟩|⟨z,_⟩
  .exact z
  .rw[ha]at b3;cases b3;exact absurd (Value.type.inj b4) (by decide)
  rw[(hts bm z).1]at b3;cases b3;cases b4
 have e0:Env0 P w K mg (hidT s₁.heap H) callerA [] s₁ H:=⟨rfl,hM,λb o e=>qD1 e,pW (q8R _ _),trivial,λb hb=>absurd (show b∈([]:List Addr)from hb) (by simp),ab,.of_eq hg⟩;refine pZ ((F _ Z (O hns) hB).run callerA [] s₁ H ⟨[.ref a],[]⟩ [.ref a] [.ref a] _ _ hr e0 (hbind s₁ (.ref a)) (.cons rfl .nil) (hsp H hS hT)) λr s' h=>?_;cases r with
 |error e=>exact(hCX H e s' h).elim
 |ok fl=>
  cases fl with
  |next=>exact False.elim h
  |brk=>exact False.elim h
  |cont=>exact False.elim h
  |ret u=>
   obtain⟨v,H',os,ae,un,N,r',q⟩:=h;have q':v=.bl true:=q;subst q';obtain rfl:u=Value.bool true:=r';have kept:∀b o,s₁.heap.get? b=some o->b∉ts->s'.heap.get? b=some o:=λb o e S=>by
    rcases hO b with z|⟨rfl,_,ob,xs,z⟩|⟨z,_⟩
    .exact un.keep b o e z (by intro z;exact absurd (show b∈([]:List Addr)from z) (by simp)) (by simp)
    .have z2:=un.frzs _ ob _ z;obtain⟨e1,_⟩:=ab _ _ z;obtain⟨e2,_⟩:=N _ _ z2;rw[e]at e1;cases e1;exact e2
    exact absurd z S
   refine⟨rfl,⟨λb o e=>?_,λb o e=>?_⟩,os,ae⟩
   .by_cases S:b∈ts
    .obtain⟨g,_,c,hc⟩:=hts b S;obtain⟨more,z2⟩:=un.tbls b _ (hT b S);have g2:s'.heap.get? b=some { cls:=.none,data:=.fields (#[]++more) }:=N _ _ z2;rw[g]at e;cases e;exact .inr (.inl ⟨((bV KX hc).tab g).isCodeTable,rfl,#[],more,rfl,g2⟩)
    exact .inl (kept b o e S)
   by_cases S:b∈ts
   .obtain⟨more,z2⟩:=un.tbls b _ (hT b S);exact⟨_,N _ _ z2⟩
   exact⟨o,kept b o e S⟩
have tb:∀T∈ts,∀H:Hp,H T=some (.tbl #[])->∀u,H T=some u->jQ P w H s₁.heap T u:=λT hT H e u e'=>by rw[e]at e';cases e';exact(hts T hT).1
cases hk:K.lookup a with
|some o=>
 have e:=KX a o hk;rw[ha]at e;cases e;refine U (λb=>if b∈ts then some (.tbl #[])else none) (.inr ⟨_,vs.toArray,_,hk,rfl,rfl,rfl,by rw[mL,lenV];exact hl,by simpa using rv⟩) (λb u z=>?_) (λb=>?_) λT hT=>kL hT
 .by_cases D:b∈ts
  .exact tb b D _ (kL D) u z
  have z':=(kE D).symm.trans z;cases z'
 by_cases D:b∈ts
 .exact .inr (.inr ⟨D,kL D⟩)
 exact .inl (kE D)
|none=>
 refine U (λb=>if b=a then some (.frz { cls:=.type "list",data:=.seq vs.toArray } (.lst (ns.map V.int)))else if b∈ts then some (.tbl #[])else none) (.inl (.inr ⟨{ cls:=.type "list",data:=.seq vs.toArray },kL rfl⟩)) (λb u z=>?_) (λb=>?_) λT hT=>?_
 .by_cases D:b=a
  .have z':=(kL D).symm.trans z;cases z';subst D;exact⟨ha,by rw[hU];exact hl,vs,_,rv,ha⟩
  by_cases J:b∈ts
  .exact tb b J _ ((kE D).trans (kL J)) u z
  have z':=((kE D).trans (kE J)).symm.trans z;cases z'
 .by_cases D:b=a
  .exact .inr (.inl ⟨D,hk,_,_,kL D⟩)
  by_cases J:b∈ts
  .exact .inr (.inr ⟨J,(kE D).trans (kL J)⟩)
  exact .inl ((kE D).trans (kE J))
 have:T≠a:=λz=>ag (z▸hT);exact(kE this).trans (kL hT))
theorem qGI{l:PySem.W.OpenLaw}{n k:Nat}{q:Program}{loose:List Str}{XP:(Str->Option Value)->Heap->Prop}{YP:World->Heap->Prop}{d:DefRec}{K:Params->PySem.W.Frag}{CX:World->CXT}{sp:World->Sp}{x:Str}(ts:List Addr)
 (hn:l.most=some n) (hn2:n<=sizeLine) (hdf:d.params.defaults=[]) (hr:Room k callerA)
 (hY:∀(w:World) (h:Heap),YP w h->(K w.params).In h/\∀T∈ts,h.get? T=some (tabObj #[])) (hT:∀w:World,∀T∈ts,(K w.params).lookup T=none/\∃c,codeHdIn (K w.params) c T=true)
 (F:∀(w:World) (mg:Str->Option Value) (fa:Addr) (h:Heap),(K w.params).In h->h.Ns mainGlobals mg->mg d.name=some (.ref fa)->∃fd:FuncData,(∀(s:Shared) (u:Value),BindsTo s fd ⟨[u],[]⟩ [(x,u)])/\∀base:Heap,(K w.params).In base->base.Ns mainGlobals mg->BmIn base mg->FnOk l.prog w (K w.params) mg base (CX w) k fa fd [x] (sp w))
 (hsp:∀(w:World) (H:Hp) (a:Addr) (ns:List Int),ns.length<=n->SqL (K w.params) H a (ns.map V.int)->(∀T∈ts,H T=some (.tbl #[]))->sp w [.ref a] H (λv z=>v=.bl true) λz z z=>False)
 (hCX:∀(w:World) (H:Hp) (s:Shared) (e:Value) (s':Shared),CX w [] H s (λz z z=>False) e s'->False):
 PySem.W.WalkO q loose XP YP l.row.toRowW d [] (λf vs=>PySem.call f vs):=by(
refine Att.attach_call hn hdf λw ag ae mg mb fa o pm cd O a vs ns G Y ho hd U J I D z hg=>?_
obtain⟨KX,KT⟩:=hY w _ Y
obtain⟨fd,hb,S⟩:=F w mg fa _ KX G.T.g J
exact qER ts KX (λT h=>⟨KT T h,hT w T h⟩) G.T.g G.T.b G.T.builtins G.T.nolimit (let⟨bm,ob,b1,b2,b3,b4,b5,b6⟩:=G.T.bmain;⟨bm,ob,b1,b2,b3,b4,b5,b6⟩) hg I D (kQ z hn2) hr S hb (λH Z N=>hsp w H a ns z Z N) λH e s'=>hCX w H _ e s')
structure FunT(K:PySem.W.Frag)(x qual:Str)(st:Stmt)(c f:Addr)(fd:FuncData):Prop where
ex:∃(oc:Value) (od:Option Addr) (kV doc pm:Value) (an:Option Addr) (ct:Value) (osl:Array (Option Value)),fd=PySem.W.fnOf x qual (yU st) (jY st) (qH st) .none kV doc pm an (.ref c) ct/\K.lookup f=some ⟨oc,od,.func fd,osl⟩/\PySem.W.codeIn K (.ref c) qual=true
section
variable{P:Program}{w:World}{K:PySem.W.Frag}{mg:Str->Option Value}{base:Heap}
theorem FunT.mk'{x qual:Str}{st:Stmt}{c f:Addr}{oc:Value}{od an:Option Addr}{osl:Array (Option Value)}{kV doc pm ct:Value}(l:K.lookup f=some ⟨oc,od,.func (PySem.W.fnOf x qual (yU st) (jY st) (qH st) .none kV doc pm an (.ref c) ct),osl⟩)
 (h:PySem.W.codeIn K (.ref c) qual=true):FunT K x qual st c f (PySem.W.fnOf x qual (yU st) (jY st) (qH st) .none kV doc pm an (.ref c) ct):=⟨oc,od,kV,doc,pm,an,ct,osl,rfl,l,h⟩
theorem FunT.okE{x qual:Str}{st:Stmt}{c f:Addr}{fd:FuncData}{N ps:List Str}{k:Nat}{sp:Sp}(F:FunT K x qual st c f fd)(S:FnScope N ps (qH st))(len:∀vs H Q E,sp vs H Q E->vs.length=ps.length)
 (hbody:∀(A:Around) (outer:List Env) (s:Shared) (H:Hp) (vs:List V) (Q:VK) (E:XK),Room k (A.deeper (envOfC qual (qH st) s.heap.objs.size f (.ref c)))->sp vs H Q E->∃t,PSs (cxOf (CXe P w) P w K mg base N qual (qH st) f (.ref c) A outer s H E) (jY st) t/\t { nx:=λz H'=>Q .non H',rt:=Q } (q01 N vs) H):FnOk P w K mg base (CXe P w) (k+1) f fd ps sp:=by obtain⟨oc,od,kV,O,pm,an,Z,I,rfl,U,z⟩:=F.ex;exact qD7 U z S len λA outer s H vs Q E J D=>hbody A _ s H vs Q E J D
theorem FunT.ok0{x qual:Str}{st:Stmt}{c f:Addr}{fd:FuncData}{N ps:List Str}{k:Nat}{sp:Sp}(F:FunT K x qual st c f fd)(S:FnScope N ps (qH st))
 (hbody:∀(A:Around) (outer:List Env) (s:Shared) (H:Hp) (vs:List V) (Q:VK) (E:XK),Room k (A.deeper (envOfC qual (qH st) s.heap.objs.size f (.ref c)))->sp vs H Q E->∃t,PSs (cxOf CX0 P w K mg base N qual (qH st) f (.ref c) A outer s H E).nox (jY st) t/\t { nx:=λz H'=>Q .non H',rt:=Q } (q01 N vs) H)(len:∀vs H Q E,sp vs H Q E->vs.length=ps.length:=by intro _ _ _ _ h;first|(cases h;subst_vars;rfl)|((repeat obtain⟨_,h⟩:=h);all_goals subst_vars;rfl)):FnOk P w K mg base CX0 (k+1) f fd ps sp:=by(
obtain⟨oc,od,kV,O,pm,an,Z,I,rfl,U,z⟩:=F.ex
refine qD7 U z S len λA outer s H vs Q E J D=>?_
obtain⟨t,h,q⟩:=hbody A _ s H vs Q E J D
exact⟨t,h.nox,q⟩)
def q5O(K:PySem.W.Frag)(ts:List Addr):Sp:=λvs H Q z=>∃(a:Addr) (ns:List Int),vs=[.ref a]/\SqL K H a (ns.map V.int)/\ns.length<=63/\(∀T∈ts,H T=some (.tbl #[]))/\∀H',Q (.bl true) H'
end
def qN3(K:PySem.W.Frag)(C:Addr):Prop:=PySem.W.findIn K (.ref C) "__class__"=some (some (.builtin "object.__class__"))/\PySem.W.specialIn K (.builtin "object.__class__") "__get__"=some (some (.builtin "getset_descriptor.__get__"))/\PySem.W.takesIn K (.builtin "object.__class__")=some true/\PySem.W.mroIn K C (.type "object")=some true
noncomputable def fnOb(fd:FuncData):Obj:={ cls:=.type "function",data:=.func fd }
noncomputable def fnO(f:Addr)(fd:FuncData):HO:=.ext λh=>h.get? f=some (fnOb fd)
noncomputable def cdO(c:Addr)(q:Str):HO:=.ext λh=>∃o vs t,h.get? c=some o/\o.data=.fields vs/\vs[1]?=some (.str q t)
theorem qGJ{P:Program}{w:World}{h:Heap}{f:Addr}{fd:FuncData}(e:h.get? f=some (fnOb fd)):jQ P w H h f (fnO f fd):=⟨e,⟨_,e⟩,λz z a b=>b _ a⟩
theorem qLE{P:Program}{w:World}{h:Heap}{c:Addr}(e:h.CodeRec (.ref c) q):jQ P w H h c (cdO c q):=by obtain⟨O,o,z,t,J,D,I,N⟩:=e;cases J;exact⟨⟨o,z,t,D,I,N⟩,⟨_,D⟩,λ_ _ ⟨o,z,t,a,b⟩ k=>⟨o,z,t,k _ a,b⟩⟩
theorem qGK{P:Program}{w:World}{f:Addr}{fd:FuncData}(ok:HOk P w H h)(e:H f=some (fnO f fd)):h.get? f=some (fnOb fd):=(ok f _ e).1
theorem qGL{P:Program}{w:World}{c:Addr}(ok:HOk P w H h)(e:H c=some (cdO c q)):h.CodeRec (.ref c) q:=let⟨o,vs,t,a,b⟩:=(ok c _ e).1
 ⟨c,o,vs,t,rfl,a,b⟩
theorem qLF{P:Program}{w:World}{K:PySem.W.Frag}{mg:Str->Option Value}{k:Nat}{f c:Addr}{pm:Value}{sp:Sp}(S:FnScope N ps scope)
 (len:∀vs H Q E,sp vs H Q E->vs.length=ps.length) (hf:∀vs H Q E,sp vs H Q E->H f=some (fnO f (kla_fn name qual params body scope [] pm (.ref c) ct))/\H c=some (cdO c qual))
 (hbody:∀(A:Around) (outer:List Env) (s:Shared) (H:Hp) (vs:List V) (Q:VK) (E:XK),Room k (A.deeper (envOfC qual scope s.heap.objs.size f (.ref c)))->sp vs H Q E->∃t,PE (cxOf CX P w K mg base N qual scope f (.ref c) A outer s H E) body t/\t (q01 N vs) H Q):
 FnOk P w K mg base CX (k+1) f (kla_fn name qual params body scope [] pm (.ref c) ct) ps sp:=by(
refine⟨len,λA outer s H ac us vs Q E U O hb r z=>?_⟩
have hl:=len _ _ _ _ z
have ab:=O.mod.nolimit.keeps λb o e=>(O.bs b o e).1
have D:∀y∈ps.zip us,scope.names.lookup y.1=some _\/(scope.names.lookup y.1=some _/\((cellsFrom (s.heap.objs.size+1) _ []).lookup y.1).isSome=true):=λ⟨n,v⟩ hy=>by
 rcases S.par n (sU hy).1 with q|q
 .exact .inl q
 exact .inr ⟨q,p6 _ _ _ (.inl q)⟩
obtain⟨Z,aa⟩:=hf _ _ _ _ z
refine kla_callFunE U.depth (qGK O.hok Z) rfl S.co S.gen rfl (qGL O.hok aa) (hb _ _ _ _ ?_)
refine nO S.kind D λenv he s1 x=>?_
subst he
refine⟨ab.keeps x.toInCall.keep,kla_codeExpr ?_⟩
obtain⟨t,ht,hq⟩:=hbody A _ s H vs Q E (U.deeper _) z
have I:Inv (cxOf CX P w K mg _ N qual _ f (.ref c) A _ s H E) [] _ H s1:=q92 S U.hd O hl r x
exact dN (ht [] s1 _ H _ I hq) (λu s' ⟨v,H',J,rv,q⟩=>⟨v,H',J.os,J.bare,J.base,J.hok,rv,q⟩) λe s' hs=>hs)
noncomputable def zG(base:Heap)(cs:List Addr):Hp:=λb=>if(base.get? b).isSome=true\/b∈cs then none else some (.lst [])
theorem q2M{h base':Heap}:∀{l:List Env},h.FunFrames base l->(∀L∈frs l,base.get? L=none->base'.get? L=none)->h.FunFrames base' l
| [],_,_=>trivial
|env::r,⟨hk,⟨L,o,hf,hn,ho,hd⟩,hr⟩,k=>by
 have hL:L∈frs (env::r):=by unfold frs;rw[dY,hf];exact kX
 exact⟨hk,⟨L,o,hf,k L hL hn,ho,hd⟩,q2M hr λb z=>k b (by unfold frs;rw[dY,hf];exact kB _ z)⟩
theorem Inv.env0C{s:Shared}(I:Inv X pins σ H s)(cs:List Addr)(hcs:∀c∈cs,∃x,X.fn x=true/\X.env.cells.lookup x=some c):
 Env0 X.prog X.w X.K X.mg (hidT s.heap (zG X.base cs)) X.A X.stack s H/\(∀b o,X.base.get? b=some o->(hidT s.heap (zG X.base cs)).get? b=some o)/\∀c∈cs,∀o,s.heap.get? c=some o->(hidT s.heap (zG X.base cs)).get? c=some o:=by(
have J:∀b o,X.base.get? b=some o->(hidT _ (zG X.base cs)).get? b=some o:=λb o e=>q6P (I.bk b o e) (kL (.inl (by rw[e];rfl)))
have N:∀{b:Addr} {o:Obj},(hidT s.heap (zG X.base cs)).get? b=some o->s.heap.get? b=some o/\((∃o',X.base.get? b=some o')\/b∈cs):=fun {b o} e=>by
 obtain⟨D,n⟩:=qD1 e;refine⟨D,?_⟩;by_cases z:(X.base.get? b).isSome=true\/b∈cs
 .rcases z with z|z
  .exact .inl (pH.mp z)
  exact .inr z
 rw[show zG X.base cs b=some (.lst [])from kE z]at n;cases n
obtain⟨mb,U,S⟩:=I.ok.mod.blt
refine⟨⟨I.ok.frames,⟨I.ok.mod.kin.keeps J,I.ok.mod.glob.keeps J,⟨mb,U.keeps J,S⟩,I.ok.mod.nolimit.keeps J⟩,λb o e=>?_,by rw[q8R];exact kO _,q2M I.stack λL hL n=>?_,I.stkFree,I.hok,I.bare⟩,J,λc Z o e=>q6P e (kL (.inr Z))⟩
.obtain⟨D,z⟩:=N e;rcases z with⟨o',z⟩|z
 .exact⟨D,(I.bs b o' z).2⟩
 obtain⟨x,_,O⟩:=hcs b z;exact⟨D,I.freeC x b O⟩
cases e:(hidT s.heap _).get? L with
|none=>rfl
|some o=>
 obtain⟨D,z⟩:=N e;rcases z with⟨o',z⟩|z
 .lia
 obtain⟨x,hf,O⟩:=hcs L z;rcases kN.mp (I.stkSub L hL)with y|y
 .exact absurd y (I.cne x L O)
 obtain⟨_,o2,ho,_⟩:=I.ok.funs.mem y;exact absurd (mD ho) (sJ.mpr (I.ok.cab x L hf O)))
def q2N(cells:List (Str×Addr))(σ:St)(base':Heap)(ix:List (Nat×Str)):Prop:=∀p∈ix,∀v,σ[p.1]?=some (some v)->∃c u,cells.lookup p.2=some c/\RelV v u/\base'.IsCell c (some u)
def qMS(T:Addr)(pos:Pos)(qual:Str)(params:Arguments)(body:Expr)(scope:Scope)(clos:List (Str×Addr))(pm:Value):TE:=λσ H Q=>∃ps,H T=some (.tbl ps)/\TriplesOk ps.toList/\codeAmong pos ps.toList=none/\∀(f c':Addr) (ctv:Value),H f=none->H c'=none->f≠c'->Q (.ref f) (upd (upd (upd H T (.tbl (ps++#[rawInt pos.line,rawInt pos.col,.ref c']))) c' (cdO c' qual)) f (fnO f (kla_fn "<lambda>" qual params body scope clos pm (.ref c') ctv)))
theorem qID{X:Cx}{c T:Addr}(hcode:X.env.code=.ref c)(hcd:codeHdIn X.K c T=true)(B:BmIn X.base X.mg)(hcl:closureFor scope X.env=pure clos)(hdef:defaultsOf params X.env=([],[])):
 PE X (.Lambda params body scope pos) (qMS T pos (X.env.qual++"<lambda>") params body scope clos ((X.mg "__name__").getD .none)):=by(
intro pins s σ H Q I hZ
obtain⟨ps,hT,ht,an,q⟩:=hZ
have hP:s.heap.get? T=some (tabObj ps):=I.hok T _ hT
have Z:s.heap.Ns mainGlobals X.mg:=I.ok.mod.glob.keeps I.bk
obtain⟨bm,ob,b1,b2,b3,b4,b5,b6⟩:=B
have J:=I.bk _ _ b3
have am:mainGlobals≠T:=λz=>by obtain⟨o,es,ep,e,N,_⟩:=Z;rw[z,hP]at e;cases e;cases N
have aj:bm≠T:=λz=>by rw[z,hP]at J;cases J;cases b4
have ak:bm≠mainGlobals:=λz=>by obtain⟨o,es,ep,e,N,_⟩:=Z;rw[z,e]at J;cases J;rw[N]at b6;cases b6
refine kla_eval hdef (kla_makeFunction (clos:=clos) hcl I.ok.glob Z hcode (bV I.kIn hcd) hP ht an am ⟨bm,ob,b1,b2,ak,aj,J,b4,b5,b6⟩ λO ag h' tk hx U ad ae ac=>?_)
have trk:∀b u,s.heap.get? b=some u->b≠T->∀o,(h'.push o).get? b=some u:=λb u e n o=>kM _ (hx b u n e)
have sz:s.heap.objs.size<=h'.objs.size:=kQ U (cK ad)
have nF:H h'.objs.size=none:=I.hok.fresh sz
have S:H O=none:=I.hok.fresh U
have fc:h'.objs.size≠O:=rC ad
have D:∀{b:Addr},b≠T->b≠O->b≠h'.objs.size->∀u:HO,(upd (upd (upd H T (.tbl (ps++#[rawInt pos.line,rawInt pos.col,.ref O]))) O (cdO O (X.env.qual++"<lambda>"))) h'.objs.size (fnO h'.objs.size (kla_fn "<lambda>" (X.env.qual++"<lambda>") params body scope clos ((X.mg "__name__").getD .none) (.ref O) ag))) b=H b:=fun {b} z1 z2 z3 _=>by rw[qF z3,qF z2,qF z1]
refine⟨.ref h'.objs.size,_,?_,rfl,q _ O ag nF S fc⟩
refine I.un (t':=tk) ⟨λb o e n _ _=>trk b o e (qG hT n).symm _,λb o e n _ _=>⟨o.slots,trk b o e (qG hT n).symm _⟩,λb o e n _=>?_,λb o e _=>?_,λb xs e=>?_,λb o u e=>?_,λb qs e=>?_⟩ λb u e=>?_
.have hb:b<s.heap.objs.size:=mD e;rw[D (qG hT n).symm (gC (gA hb U)) (gC (gA hb sz)) (.lst [])];exact n
.by_cases z:b=T
 .subst z;exact⟨_,kM _ ac⟩
 exact⟨o,trk b o e z _⟩
.rw[D (λz=>by rw[z,hT]at e;cases e) (qG e S) (qG e nF) (.lst [])];exact e
.rw[D (λz=>by rw[z,hT]at e;cases e) (qG e S) (qG e nF) (.lst [])];exact e
.by_cases z:b=T
 .subst z;rw[hT]at e;cases e;refine⟨#[rawInt pos.line,rawInt pos.col,.ref O],?_⟩;rw[qF (qG hT nF),qF (qG hT S)];exact qI
 exact⟨#[],by rw[D z (qG e S) (qG e nF) (.lst []),e];simp⟩
by_cases z3:b=h'.objs.size
.subst z3;rw[qI]at e;cases e;exact qGJ (mZ _ rfl)
by_cases z2:b=O
.subst z2;rw[qF z3,qI]at e;cases e;exact qLE (ae.push _)
by_cases z:b=T
.subst z;rw[qF z3,qF z2,qI]at e;cases e;exact kM _ ac
rw[D z z2 z3 (.lst [])]at e
refine(I.hok b u e).stay (λd v N r=>trk d v r (λy=>?_) _) (λd r=>?_) λd xs r=>?_
.rcases N with N|N
 .exact z (N▸y)
 rw[y,hT]at N;cases N
.rw[D (λy=>by rw[y,hT]at r;cases r) (qG r S) (qG r nF) (.lst [])];exact r
rw[D (λy=>by rw[y,hT]at r;cases r) (qG r S) (qG r nF) (.lst [])];exact r)
noncomputable abbrev envL(qual:Str)(scope:Scope)(clos:List (Str×Addr))(L f:Addr)(cd:Value):Env:=newEnv scope L mainGlobals clos (qual++".<locals>.") (some f) cd none builtinsNs
noncomputable def qGM(CX:CXT)(P:Program)(w:World)(K:PySem.W.Frag)(mg:Str->Option Value)(base:Heap)(N:List Str)(qual:Str)(scope:Scope)(clos:List (Str×Addr))(f:Addr)(cd:Value)(A:Around)(outer:List Env)(s:Shared)(H:Hp)(E:XK):Cx where
prog:=P
w:=w
K:=K
mg:=mg
base:=base
A:=A.deeper (envL qual scope clos s.heap.objs.size f cd)
N:=N
s₀:=s
H₀:=H
env:=envL qual scope clos s.heap.objs.size f cd
outer:=outer
stack:=envL qual scope clos s.heap.objs.size f cd::outer
ex:=[]
calm:=true
fn:=λz=>false
pn:=[]
xe:=λe s'=>wpAny (model P w) (A.deeper (envL qual scope clos s.heap.objs.size f cd)) (leaving (envL qual scope clos s.heap.objs.size f cd) e) (λz s''=>CX outer H s E e s'') (λe' s''=>CX outer H s E e' s'') s'
structure LamSc(scope:Scope)(x0:Str)(clos:List (Str×Addr))(fvs:List V)(base:Heap):Prop where
kind:scope.kind=.function
co:scope.isCoroutine=false
gen:scope.isGenerator=false
par:scope.names.lookup x0=some .local
nocell:∀y∈scope.names,y.2≠ .cell
free:∀y,scope.names.lookup y=some .free->∃c,clos.lookup y=some c
inj:∀x y c,clos.lookup x=some c->clos.lookup y=some c->x=y
at':∀(j:Nat) (x:Str) (c:Addr),clos[j]?=some (x,c)->scope.names.lookup x=some .free/\clos.lookup x=some c/\∃v u,fvs[j]?=some v/\RelV v u/\base.IsCell c (some u)
len:fvs.length=clos.length
theorem qIE{P:Program}{w:World}{K:PySem.W.Frag}{mg:Str->Option Value}{k:Nat}{f c:Addr}{pm:Value}{x0:Str}{sp:Sp}(S:LamSc scope x0 clos fvs base)
 (len:∀vs H Q E,sp vs H Q E->vs.length=1) (hf:∀vs H Q E,sp vs H Q E->H f=some (fnO f (kla_fn name qual params body scope clos pm (.ref c) ct))/\H c=some (cdO c qual))
 (hbody:∀(A:Around) (outer:List Env) (s:Shared) (H:Hp) (v0:V) (Q:VK) (E:XK),Room k (A.deeper (envL qual scope clos s.heap.objs.size f (.ref c)))->sp [v0] H Q E->∃t,PE (qGM CX P w K mg base (x0::clos.map (·.1)) qual scope clos f (.ref c) A outer s H E) body t/\t (some v0::fvs.map some) H Q):
 FnOk P w K mg base CX (k+1) f (kla_fn name qual params body scope clos pm (.ref c) ct) [x0] sp:=by(
refine⟨len,λA outer s H aj us vs Q E hr D hb r U=>?_⟩
have hl:=len _ _ _ _ U
obtain⟨v0,rfl⟩:∃v0,vs=[v0]:=match vs,hl with| [v],_=>⟨v,rfl⟩
obtain⟨Z,rfl,r0⟩:=q00 r
have ad:s.heap.NoLimit:=D.mod.nolimit.keeps λb o e=>(D.bs b o e).1
obtain⟨af,ae⟩:=hf _ _ _ _ U
refine kla_callFunE hr.depth (qGK D.hok af) rfl S.co S.gen rfl (qGL D.hok ae) (hb _ _ _ _ ?_)
refine xS S.nocell (λy N=>?_) (λh' hn hs=>?_) S.kind
.obtain rfl:y=(x0,Z):=by simpa using N
 exact S.par
have hk:∀b o,s.heap.get? b=some o->h'.get? b=some o:=λb o e=>by have:=hs.2 b (gC (mD e));rw[this];exact kM _ e
refine⟨ad.keeps hk,kla_codeExpr ?_⟩
obtain⟨t,ht,hq⟩:=hbody A outer s H v0 Q E (hr.deeper _) U
have O:∀b:Addr,b∉(qGM CX P w K mg base (x0::clos.map (·.1)) qual scope clos f (.ref c) A outer s H E).ex:=λb z=>absurd (show b∈([]:List Addr)from z) (by simp)
have aa:∀y d,clos.lookup y=some d->∃u,base.IsCell d (some u):=λy d e=>by obtain⟨j,hj,ej⟩:=wC (dG e);obtain⟨_,_,v,u,_,_,hu⟩:=S.at' j y d (kC.mpr ⟨hj,ej⟩);exact⟨u,hu⟩
have I:Inv (qGM CX P w K mg base (x0::clos.map (·.1)) qual scope clos f (.ref c) A outer s H E) [] (some v0::fvs.map some) H { s with heap:=h',toks:=s.toks + [(x0,Z)].length }:=by
 refine⟨⟨D.mod,S.kind,rfl,rfl,kO _,S.inj,λy N=>?_,λy c z U=>absurd (show false=true from z) (by decide),λU=>hr.hd,xO D.frames,.inr ⟨rfl,rfl⟩,λb z=>absurd z (O b),D.bs,D.bsz,λb U U=>O b,λb z=>absurd z (O b),D.funs,D.frf⟩,rfl,D.bare,Un.kept hk,⟨_,hn,λi y v h1 h2 h3=>?_⟩,λy d e=>?_,D.hok.fresh (kO _),λy d e=>?_,λp hp=>absurd (show p∈([]:List (Addr×Obj))from hp) (by simp),D.hok.kept hk,?_⟩
 .have N:scope.names.lookup y=some .cell\/scope.names.lookup y=some .free:=N;rcases N with N|N
  .exact absurd rfl (S.nocell _ (dG N))
  exact S.free y N
 .cases i with
  |zero=>obtain rfl:=mB h1;obtain rfl:=mB (mB h2);refine⟨Z,r0,.inl ⟨S.par,?_⟩⟩;show([(x0,Z)]:List (Str×Value)).reverse.lookup x0=some Z;simp
  |succ j=>have h1:(clos.map (·.1))[j]?=some y:=h1;have h2:(fvs.map some)[j]?=some (some v):=h2;rw[mF]at h1 h2;obtain⟨⟨y',d⟩,hd,rfl⟩:=mK.mp h1;obtain⟨v',hv,ev⟩:=mK.mp h2;obtain rfl:=mB ev;obtain⟨a1,a2,v2,u,a3,a4,a5⟩:=S.at' j _ d hd;rw[hv]at a3;obtain rfl:=mB a3;exact⟨u,a4,.inr ⟨.inr a1,d,a2,a5.keeps λb o e=>hk b o (D.bs b o e).1⟩⟩
 .obtain⟨u,hu⟩:=aa y d e;exact⟨_,hu.keeps λb o e=>hk b o (D.bs b o e).1⟩
 .obtain⟨u,o,ho,_⟩:=aa y d e;exact(D.bs _ _ ho).2
 show(some v0::fvs.map some).length=(x0::clos.map (·.1)).length;rw[mP,mP,hU,hU,S.len]
exact dN (ht [] _ _ H _ I hq) (λu s' ⟨v,H',J,rv,q⟩=>⟨v,H',J.os,J.bare,J.base,J.hok,rv,q⟩) λe s' hs=>hs)
theorem qIF{scope:Scope}{env:Env}(h:(scope.names.all λy=>decide (y.2≠ .free)||(env.cells.lookup y.1).isSome)=true):closureFor scope env=pure (clOf env scope.names []):=q72 λy hy hf=>by(
 have q:=dU.mp h y hy;rw[cO,mG]at q;rcases q with q|q
 .exact absurd hf q
 exact pH.mp q)
theorem qES{scope:Scope}{y:Str}{v:V}{base:Heap}(hk:scope.kind=.function)(hco:scope.isCoroutine=false)(hg:scope.isGenerator=false)(hp:scope.names.lookup x0=some .local)
 (hn:(scope.names.all λz=>decide (z.2≠ .cell)&&(decide (z.2≠ .free)||decide (z.1=y)))=true) (hf:scope.names.lookup y=some .free) (r:RelV v u) (hc:base.IsCell ca (some u)):LamSc scope x0 [(y,ca)] [v] base:=by(
have I:=λz D=>by have q:=dU.mp hn z D;rw[gE,cO,mG,mG,mG]at q;exact q
have J:([(y,ca)]).lookup y=some ca:=by simp
have one:∀x c,([(y,ca)]).lookup x=some c->x=y/\c=ca:=λx c e=>by have m:=dG e;simpa using m
refine⟨hk,hco,hg,hp,λz D=>(I z D).1,λz D=>?_,λa b c h1 h2=>?_,λj x c h=>?_,rfl⟩
.have m:=(I _ (dG D)).2;rcases m with m|m
 .exact absurd rfl m
 exact⟨ca,by rw[show z=y from m];exact J⟩
.rw[(one _ _ h1).1,(one _ _ h2).1]
match j,h with
|0,h=>
 obtain⟨rfl,rfl⟩:y=x/\ca=c:=by simpa using h
 exact⟨hf,J,v,u,rfl,r,hc⟩
|j+1,h=>exact absurd h (by simp))
theorem qBH{env:Env}{y:Str}(e:env.cells.lookup y=some ca)(h:clOf env names []=match env.cells.lookup y with|some a=>[(y,a)] |none=>[]):clOf env names []=[(y,ca)]:=by rw[h,e]
def qLG(T:Addr)(pos:Pos)(qual:Str)(params:Arguments)(body:Expr)(scope:Scope)(clos:List (Str×Addr))(pm:Value):TE:=λσ H Q=>∃ps c',H T=some (.tbl ps)/\TriplesOk ps.toList/\codeAmong pos ps.toList=some (.ref c')/\∀(f:Addr) (ctv:Value),H f=none->Q (.ref f) (upd H f (fnO f (kla_fn "<lambda>" qual params body scope clos pm (.ref c') ctv)))
theorem qGN{X:Cx}{c T:Addr}(hcode:X.env.code=.ref c)(hcd:codeHdIn X.K c T=true)(B:BmIn X.base X.mg)(hcl:closureFor scope X.env=pure clos)(hdef:defaultsOf params X.env=([],[])):
 PE X (.Lambda params body scope pos) (qLG T pos (X.env.qual++"<lambda>") params body scope clos ((X.mg "__name__").getD .none)):=by(
intro pins s σ H Q I hZ
obtain⟨ps,c',hT,ht,U,q⟩:=hZ
have hP:s.heap.get? T=some (tabObj ps):=I.hok T _ hT
have J:=I.ok.mod.glob.keeps I.bk
obtain⟨N,ob,b1,b2,b3,b4,b5,b6⟩:=B
have Z:=I.bk _ _ b3
have O:N≠T:=λz=>by lia
have S:N≠mainGlobals:=λz=>by obtain⟨o,es,ep,e,hd,_⟩:=J;lia
refine kla_eval hdef (kla_makeFunctionHit (clos:=clos) hcl I.ok.glob J hcode (bV I.kIn hcd) hP ht U ⟨N,ob,b1,b2,S,O,Z,b4,b5,b6⟩ λaa h' tk hx sz=>?_)
have trk:∀b u,s.heap.get? b=some u->∀o,(h'.push o).get? b=some u:=λb u e o=>kM _ (hx b u e)
have D:=I.hok.fresh sz
refine⟨.ref h'.objs.size,_,?_,rfl,q _ aa D⟩
refine I.un (t':=tk) ⟨λb o e n _ _=>trk b o e _,λb o e n _ _=>⟨o.slots,trk b o e _⟩,λb o e n _=>?_,λb o e _=>⟨o,trk b o e _⟩,λb xs e=>?_,λb o u e=>?_,λb qs e=>?_⟩ λb u e=>?_
.rw[qF (gC (gA (mD e) sz))];exact n
.rw[qF (qG e D)];exact e
.rw[qF (qG e D)];exact e
.exact⟨#[],by rw[qF (qG e D),e];simp⟩
by_cases z3:b=h'.objs.size
.subst z3;rw[qI]at e;cases e;exact qGJ (mZ _ rfl)
rw[qF z3]at e
refine(I.hok b u e).stay (λd v hd r=>trk d v r _) (λd r=>?_) λd xs r=>?_
.rw[qF (qG r D)];exact r
rw[qF (qG r D)];exact r)
def qMT(T:Addr)(pos:Pos)(qual:Str)(params:Arguments)(body:Expr)(scope:Scope)(clos:List (Str×Addr))(pm:Value):TE:=λσ H Q=>∃ps,H T=some (.tbl ps)/\TriplesOk ps.toList/\((codeAmong pos ps.toList=none/\∀(f c':Addr) (ctv:Value) (H':Hp),H f=none->H' f=some (fnO f (kla_fn "<lambda>" qual params body scope clos pm (.ref c') ctv))->H' c'=some (cdO c' qual)->H' T=some (.tbl (ps++#[rawInt pos.line,rawInt pos.col,.ref c']))->(∀b o,b≠T->H b=some o->H' b=some o)->Q (.ref f) H')\/∃c',codeAmong pos ps.toList=some (.ref c')/\∀(f:Addr) (ctv:Value) (H':Hp),H f=none->H' f=some (fnO f (kla_fn "<lambda>" qual params body scope clos pm (.ref c') ctv))->Same H H'->Q (.ref f) H')
theorem qDQ{X:Cx}{c T:Addr}(hcode:X.env.code=.ref c)(hcd:codeHdIn X.K c T=true)(B:BmIn X.base X.mg)(hcl:closureFor scope X.env=pure clos)(hdef:defaultsOf params X.env=([],[])):
 PE X (.Lambda params body scope pos) (qMT T pos (X.env.qual++"<lambda>") params body scope clos ((X.mg "__name__").getD .none)):=λpins s σ H Q I ⟨ps,hT,ht,h⟩=>by(
rcases h with⟨hn,q⟩|⟨c',hn,q⟩
.exact qID hcode hcd B hcl hdef _ s σ H Q I ⟨ps,hT,ht,hn,λf c' ctv nf nc fc=>q f c' ctv _ nf qI (by rw[qF fc.symm];exact qI) (by rw[qF (qG hT nf),qF (qG hT nc)];exact qI) λb o nb e=>by rw[qF (qG e nf),qF (qG e nc),qF nb];exact e⟩
exact qGN hcode hcd B hcl hdef _ s σ H Q I ⟨ps,c',hT,ht,hn,λf ctv nf=>q f ctv _ nf qI (Same.upd nf)⟩)
theorem qDR{X:Cx}{k:Nat}{f:Addr}{fd:FuncData}{sp:Heap->Sp}{s:Shared}(ix:List (Nat×Str))
 (hix:∀p∈ix,X.N[p.1]?=some p.2/\X.env.scope.names.lookup p.2=some .cell/\X.fn p.2=true)
 (F:∀base',(∀b o,X.base.get? b=some o->base'.get? b=some o)->q2N X.env.cells σ base' ix->FnOk X.prog X.w X.K X.mg base' CX k f fd ps (sp base')) (hr:Room k X.A) (hb:yG X.K fd ps ds) (hd:Vals dvs ds) (hx:q1W CX X E)
 (I:Inv X pins σ H s) (r:Vals vs us) (h:∀base',(∀b o,X.base.get? b=some o->base'.get? b=some o)->q2N X.env.cells σ base' ix->sp base' (vs++dvs) H Q E):wpAny (model X.prog X.w) X.A (call (.ref f) us) (EP X pins σ Q) X.xe s:=by(
have r2:=r.append hd
obtain⟨e0,S,Z⟩:=I.env0C _ (λc J=>by obtain⟨p,O,e⟩:=wM.mp J;exact⟨p.2,(hix p O).2.2,e⟩)
have U:q2N X.env.cells σ _ ix:=λp O v hv=>by
 obtain⟨h1,h2,h3⟩:=hix p O;obtain⟨m,_,hl⟩:=I.loc;obtain⟨u,ru,lk⟩:=hl p.1 p.2 v h1 hv (.inr (.inl h2));rcases lk with⟨z,_⟩|⟨_,c,J,o,ho,hd⟩
 .have z:X.env.scope.names.lookup p.2=some .local:=z;lia
 exact⟨c,u,J,ru,o,Z c (wM.mpr ⟨p,O,J⟩) o ho,hd⟩
have q:=h _ S U
have hl:(us++ds).length=ps.length:=by rw[<-r2.length];exact(F _ S U).len _ _ _ _ q
refine pN (pZ ((F _ S U).run X.A X.stack s H ⟨us,[]⟩ (us++ds) (vs++dvs) Q E hr e0 (hb s us I.kIn hl) r2 q) λr s' D=>?_)
cases r with
|error e=>exact hx pins σ H s e s' I D
|ok fl=>
 cases fl with
 |ret u=>exact I.after D
 |next=>exact False.elim D
 |brk=>exact False.elim D
 |cont=>exact False.elim D)
section
variable{X:Cx}{pins:List (Addr×Obj)}{σ:St}{H:Hp}{s:Shared}
theorem qET{P:PySem.Fin->Shared->Prop}{a f:Addr}{n:Nat}{vs:List Value}(I:Inv X pins σ H s)
 (ho:s.heap.get? a=some (seqObj "list" vs.toArray n)) (fa:FpOk X pins H a) (ha:X.s₀.heap.objs.size<=a) (rv:Vals us vs) (h64:us.length<64)
 (Pv:Nat->List V->Hp->Prop) (h0:Pv 0 [] H) (hs:∀i x zs H' pins' s' u,us[i]?=some x->RelV x u->Pv i zs H'->Inv { X with A:=X.A.in1.in1,xe:=λz z=>False } pins' σ H' s'->wpAny (model X.prog X.w) X.A.in1.in1 (call (.ref f) [u]) (EP { X with A:=X.A.in1.in1,xe:=λz z=>False } pins' σ (λz H''=>Pv (i+1) (zs++[z]) H'')) (λz z=>False) s')
 (hd:∀zs H',H' a=none->zs.length=us.length->Pv us.length zs H'->∃kk m,Paired (TupI X.K H') zs kk/\(∀k∈kk,k.length=m)/\0<m/\∀q:List Nat,q.Perm (List.range us.length)->(q.map λi=>kk.getD i []).Pairwise (λa b=>lx b a=false)->∀s',Inv X pins σ (upd H' a (.lst (q.map λi=>us.getD i .non))) s'->P (.done (.ret .none)) s'):
 wpAny (model X.prog X.w) X.A.in1.in1 (ksk_tree a (.ref f) false) P EE s:=by(
have al:a<s.heap.objs.size:=mD ho
have hl:=rv.length
obtain⟨e1,g1⟩:∃e1,(s.heap.update a (Obj.mapSeq λz=>(#[]:Array Value))).get? a=some (seqObj "list" #[] e1):=⟨_,cP ho λz=>#[]⟩
unfold ksk_tree
refine kI (bE ho rfl (kI (cT ho rfl (kI (lD g1 rfl ?_)) (by rw[mL,g8];lia) (m9 _))))
refine kI (wpAny_newTuple (kI (pJ (g9 ?_) (m9 _))) (by show vs.length<=_;rw[g8];lia))
have an:((s.heap.update a (Obj.mapSeq λz=>(#[]:Array Value))).push (seqObj "tuple" vs.toArray 0)).objs.size=s.heap.objs.size+1:=by rw[aQ,lP]
obtain⟨J,U⟩:∃J:Addr,J=((s.heap.update a (Obj.mapSeq λz=>(#[]:Array Value))).push (seqObj "tuple" vs.toArray 0)).objs.size:=⟨_,rfl⟩
have S:s.heap.objs.size<=J:=by rw[U,an];exact rB _
have ne:J≠a:=rC (gA al S)
show wpAny (model X.prog X.w) X.A.in1.in1 _ P EE { s with heap:=((s.heap.update a (Obj.mapSeq λz=>(#[]:Array Value))).push (seqObj "tuple" vs.toArray 0)).push (seqObj "list" #[] 0) }
rw[<-U]
have af:(((s.heap.update a (Obj.mapSeq λz=>(#[]:Array Value))).push (seqObj "tuple" vs.toArray 0)).push (seqObj "list" #[] 0)).get? J=some (seqObj "list" #[] 0):=by rw[U];exact mZ _ rfl
have ao:=kM (seqObj "list" #[] 0) (kM (seqObj "tuple" vs.toArray 0) g1)
have I0:Inv X pins σ H { s with heap:=((s.heap.update a (Obj.mapSeq λz=>(#[]:Array Value))).push (seqObj "tuple" vs.toArray 0)).push (seqObj "list" #[] 0),toks:=s.toks }:=I.turnedN (fp:=[a]) (λb o D e=>kM _ (kM _ ((mJ _ _ (λz=>D (kD.mpr z.symm))).trans e))) (λb D=>by rw[kD.mp D];exact fa)
have O:FpOk X pins H J:=I.fpOk S (I.hok.fresh S)
have fp:∀{H':Hp} {b:Addr},FpOk X pins H b->H' b=none->FpOk X pins H' b:=λf e=>⟨e,f.2⟩
unfold ksk_rest
refine kI (wpAny_rule ?_)
first
 |rw[List.forIn_toArray]
 |(rw[<-Array.forIn_toList];simp only[List.toList_toArray])
refine kI (ksk_fold (I:=λi s'=>∃H' zs ks e,Inv X pins σ H' s'/\s'.heap.get? a=some (seqObj "list" #[] e1)/\s'.heap.get? J=some (seqObj "list" (List.toArray ks) e)/\Vals zs ks/\zs.length=i/\Pv i zs H'/\H' a=none/\H' J=none) vs 0 _ ⟨H,[],[],0,I0,ao,af,.nil,rfl,h0,fa.1,O.1⟩ (λj x s' hx hJ=>?_) λs' hJ=>?_)
.obtain⟨H',zs,ks,e,I1,ga,gk,rz,Z,pv,na,nk⟩:=hJ;rw[nK]at Z pv ⊢;have hj:j<vs.length:=(kC.mp hx).1;obtain⟨y,ey,ry⟩:=rv.atN (j:=j) hj;obtain rfl:vs[j]=x:=(kC.mp hx).2;have I2:=(I1.near (A':=X.A.in1.in1) rfl rfl λz z=>False).pinned (fp:=[a,J]) (λb D=>by
  simp only[kN,gP,wO]at D;rcases D with rfl|rfl
  .exact fp fa na
  .exact fp O nk) (λb D=>by
  simp only[kN,gP,wO]at D;rcases D with rfl|rfl
  .exact⟨_,ga,λv z=>by cases z⟩
  exact⟨_,gk,λv z=>by cases z⟩)
 refine kI (x9 (dN (hs j y zs H' _ _ _ ey ry pv I2) (λu N hq=>?_) λU U z=>z.elim));obtain⟨z,H'',I3,ru,q⟩:=hq;have pa:=I3.pin (a,seqObj "list" #[] e1) (mH _ (mH _ (yX (by simp) ga)));have pk:=I3.pin (J,seqObj "list" (List.toArray ks) e) (mH _ (mH _ (yX (by simp) gk)));have lk:=rz.length;have ea:(List.toArray ks).push u=List.toArray (ks++[u]):=by simp
 obtain⟨c2,g2⟩:∃c2,(N.heap.update J (Obj.mapSeq (·.push u))).get? J=some (seqObj "list" (List.toArray (ks++[u])) c2):=⟨_,by rw[<-ea];exact cP pk.1 (·.push u)⟩;try dsimp only
 refine kI (cT pk.1 rfl ?_ (by rw[mL,g8];lia) (kQ (pW (Array.size_push ..)) (by rw[mL,g8];lia)));have I4:Inv X pins σ H'' N:=(I3.unpinned).near (A':=X.A) rfl rfl X.xe;have I5:Inv X pins σ H'' { N with heap:=N.heap.update J (Obj.mapSeq (·.push u)),toks:=N.toks }:=I4.turnedN (fp:=[J]) (λb o D e=>(mJ _ _ (λz=>D (kD.mpr z.symm))).trans e) (λb D=>by rw[kD.mp D];exact fp O pk.2.1);exact mO ⟨rfl,H'',zs++[z],ks++[u],c2,I5,(mJ _ _ ne).trans pa.1,g2,rz.append (.cons ru .nil),by rw[kU,Z];rfl,q,pa.2.1,pk.2.1⟩
obtain⟨H',zs,ks,e,I1,ga,gk,rz,Z,pv,na,nk⟩:=hJ
rw[nK,<-hl]at Z pv
obtain⟨kk,m,ak,hw,hm,fin⟩:=hd zs H' na Z pv
try dsimp only
refine kI (bE gk rfl ?_)
exact qI9 I1 (fp fa na) (fp O nk) ha ne ga gk rz rv Z h64 ak hw hm fin)
end
def oneQ(R:V->Hp->Prop):List V->Hp->Prop
| [v],H=>R v H
|_,_=>False
theorem qDS:∀{xs:List V} {H:Hp},oneQ R xs H->∃v,xs=[v]/\R v H
| [v],_,h=>⟨v,rfl,h⟩
| [],_,h=>h.elim
|_::_::_,_,h=>h.elim
def tSL(P:Program)(w:World)(K:PySem.W.Frag)(mg:Str->Option Value)(base:Heap)(cells:List (Str×Addr))(ix:List (Nat×Str))(k:Nat)(x:Str)(tl:TE)(ta:TA):TE:=λσ H Q=>ta σ H λvs H1=>tl σ H1 λfv H2=>∃(f:Addr) (fd:FuncData) (sp:Heap->Sp),fv=.ref f/\(∀base',(∀b o,base.get? b=some o->base'.get? b=some o)->q2N cells σ base' ix->FnOk P w K mg base' CX0 k f fd [x] (sp base'))/\yG K fd [x] []/\∃(l:Addr) (us:List V) (Pv:Nat->List V->Hp->Prop),vs=[.ref l]/\SqL K H2 l us/\us.length<64/\Pv 0 [] H2/\(∀base' i x zs H',q2N cells σ base' ix->us[i]?=some x->Pv i zs H'->sp base' [x] H' (λz H''=>Pv (i+1) (zs++[z]) H'') E0)/\∀zs H',zs.length=us.length->Pv us.length zs H'->∃kk m,Paired (TupI K H') zs kk/\(∀k∈kk,k.length=m)/\0<m/\∀q:List Nat,q.Perm (List.range us.length)->(q.map λi=>kk.getD i []).Pairwise (λa b=>lx b a=false)->NewO H' (.lst (q.map λi=>us.getD i .non)) Q
theorem qCN{X:Cx}{k:Nat}{x:Str}{tl:TE}{p kp:Pos}(ix:List (Nat×Str))(hix:∀p∈ix,X.N[p.1]?=some p.2/\X.env.scope.names.lookup p.2=some .cell/\X.fn p.2=true)(hr:Room (k+2) X.A)(hg:Gl X "sorted")(hm:X.mg "sorted"=none)(hl:PE X le tl)(ha:PA X [e] ta)
 (he:starEach [e] X.env=[(false,eval e X.env)]:=by rfl) (hse:starEach ([]:List Expr) X.env=[]:=by rfl):
 PE X (.Call (.Name "sorted" p) [e] [⟨some "key",le,kp⟩] pos) (tSL X.prog X.w X.K X.mg X.base X.env.cells ix k x tl ta):=by(
intro pins s σ H Q I h
refine d9 (q1R I hg hm (u:=.builtin "sorted") (by kernel_rfl) ?_ (by decide) (by decide))
refine bW (thn (ha pos pins s σ H _ I h) λus s1 ⟨vs,H1,I1,r1,q1⟩=>?_) (by rw[he,hse];rfl) (by rw[he];rfl)
have pk:PK X [⟨some "key",le,kp⟩] (q8X tl tNil):=q9N hl qC9
refine thn (pk pos pins s1 σ H1 (oneQ _) I1 q1) λws D hZ=>?_
obtain⟨xs,H2,S,r2,Z⟩:=hZ
obtain⟨v,rfl,f,fd,sp,rfl,F,hb,Z⟩:=qDS Z
obtain⟨w,rfl,rw⟩:=q00 r2
obtain rfl:w=Value.ref f:=rw
obtain⟨l,a5,Pv,ev,hq,ab,p0,hs,hd⟩:=Z
subst ev
obtain⟨u,rfl,ru⟩:=q00 r1
obtain rfl:u=Value.ref l:=ru
obtain⟨z,rv,pl,hz⟩:=S.list hq
have ad:=rv.length
show wpAny (model X.prog X.w) X.A (call (.builtin "sorted") [.ref l] [(Str.ofString "key",.ref f)]) _ _ _
refine call_function_entry_kw kind_sorted plain_sorted entry_sorted (ksk_s1 _ _) ?_
unfold Builtin.«sorted»
refine kI (m:=checkCount "sorted" 1 1 _) (mO (kI (collect_list pl.isList (kI (pJ ?_ (by rw[g8];show z.length<=_;lia))))))
have O:((D.heap.push (seqObj "list" #[] 0)).update D.heap.objs.size (Obj.mapSeq (· ++z.toArray))).objs.size=D.heap.objs.size+1:=by rw[lP,aQ]
have g:(((D.heap.push (seqObj "list" #[] 0)).update D.heap.objs.size (Obj.mapSeq (· ++z.toArray))).push (seqObj "list" z.toArray 0)).get? (D.heap.objs.size+1)=some (seqObj "list" z.toArray 0):=by rw[<-O];exact mZ _ rfl
show wpAny _ _ _ _ _ { D with heap:=((D.heap.push (seqObj "list" #[] 0)).update D.heap.objs.size (Obj.mapSeq (· ++z.toArray))).push (seqObj "list" z.toArray 0) }
rw[O]
have I3:Inv X pins σ H2 { D with heap:=((D.heap.push (seqObj "list" #[] 0)).update D.heap.objs.size (Obj.mapSeq (· ++z.toArray))).push (seqObj "list" z.toArray 0),toks:=D.toks }:=S.kept (t':=D.toks) λb o e=>kM _ ((mJ _ _ (rC (mD e))).trans (kM _ e))
refine kI (g9 (wpAny_call_entry_kw slot_list_sort ⟨_,g,rfl⟩ entry_list_sort ?_ (ksk_l1 _ _)))
rw[ksk_t1]
have fr:D.heap.objs.size<=D.heap.objs.size+1:=rB _
refine qET I3 g (S.fpOk fr (S.hok.fresh fr)) (kQ S.sz fr) rv ab Pv p0 (λi x zs H' aa s' u hx rx pv U=>qDR (X:={ X with A:=X.A.in1.in1,xe:=λz z=>False }) (dvs:=[]) (ds:=[]) (E:=E0) ix hix F hr.in1.in1 hb .nil qK U (.cons rx .nil) (λJ up cv=>hs J i x zs H' cv hx pv)) λzs H' na lz pv=>?_
obtain⟨kk,m,a1,a2,a3,a4⟩:=hd zs H' lz pv
refine⟨kk,m,a1,a2,a3,λq b1 b2 s' U=>⟨_,rfl,mO ⟨_,rfl,.ref _,_,U,rfl,(a4 q b1 b2).at _ na⟩⟩⟩)
end L2
namespace W1
open PySem L2
structure QM where
P:Nat
B:Nat
nx:Int
V:Mp
lv:List Int
fi:List Int
bo:List Int
namespace QM
structure Ok(m:QM):Prop where
p1:1<=m.P
p2:m.P<=16
b2:m.B<=16
ll:m.lv.length=m.B
lf:m.fi.length=m.B
lo:m.bo.length=m.B
nd:(m.V.map (·.1)).Nodup
nm:∀q∈m.V,0<=q.1/\q.1<=64
blk:∀q∈m.V,∃b:Nat,b<m.B/\q.2 / (m.P:Int)=(b:Int)
wr:∀b,b<m.B->∃f:Nat,m.fi.getD b 0=(f:Int)/\f<=m.P
variable{m:QM}
theorem Ok.lenV(h:m.Ok):m.V.length<=65:=by
 have:=qJS  (m:=(List.range 65).map λi:Nat=>(i:Int)) h.nd λx z=>by obtain⟨q,D,rfl⟩:=kP.mp z;have:=h.nm q D;exact kP.mpr ⟨q.1.toNat,mV.mpr (by lia),by lia⟩
 rw[hU]at this;exact this
noncomputable def forget(m:QM)(n:Int):QM:={ m with V:=jO m.V n,lv:=BM.lvF m.P m.V m.lv n }
theorem find_V{n:Int}:(∃p,(n,p)∈m.V/\m.V.find? (λq=>decide (q.1=n))=some (n,p))\/((∀q∈m.V,q.1≠n)/\m.V.find? (λq=>decide (q.1=n))=none):=by(
cases e:m.V.find? (λq=>decide (q.1=n))with
|none=>refine .inr ⟨λq D z=>?_,rfl⟩;have:=rA.mp e q D;exact this (hG z)
|some q=>
 have h1:=by have:=d8 e;simpa using this
 have h2:=rM e;refine .inl ⟨q.2,by rw[<-h1];exact h2,by rw[<-h1]⟩)
theorem lvF_len{n:Int}:(BM.lvF m.P m.V m.lv n).length=m.lv.length:=by(
unfold BM.lvF
split
.rw[gK]
rfl)
theorem Ok.forget(h:m.Ok)(n:Int):(m.forget n).Ok:={ h with ll:=by show(BM.lvF m.P m.V _ n).length=m.B;rw[lvF_len];exact h.ll,nd:=q7E h.nd,nm:=λq hq=>h.nm q (jC.mp hq).1,blk:=λq hq=>h.blk q (jC.mp hq).1 }
noncomputable def put(m:QM)(b f:Nat)(n:Int):QM:={ m with V:=jO m.V n++[(n,((b*m.P+f:Nat):Int))],lv:=(BM.lvF m.P m.V m.lv n).set b ((BM.lvF m.P m.V m.lv n).getD b 0+1),bo:=if m.fi.getD b 0=0 then m.bo.set b m.nx else m.bo,fi:=m.fi.set b (m.fi.getD b 0+1),nx:=m.nx+1 }
theorem Ok.put(h:m.Ok){b f:Nat}{n:Int}(hb:b<m.B)(hf:f<m.P)(ef:m.fi.getD b 0=(f:Int))(n0:0<=n)(n1:n<=64):(m.put b f n).Ok where
p1:=h.p1
p2:=h.p2
b2:=h.b2
ll:=by show(List.set _ _ _).length=m.B;rw[gK,lvF_len];exact h.ll
lf:=by show(List.set _ _ _).length=m.B;rw[gK];exact h.lf
lo:=by
 show(if m.fi.getD b 0=0 then m.bo.set b m.nx else m.bo).length=m.B;split
 .rw[gK];exact h.lo
 exact h.lo
nd:=by
 show((jO m.V n++[(n,((b*m.P+f:Nat):Int))]).map (·.1)).Nodup;rw[mE];refine wX.mpr ⟨q7E h.nd,by simp,λa ha c hc=>?_⟩;obtain⟨q,hq,rfl⟩:=kP.mp ha;have hc:c=n:=by simpa using hc
 rw[hc];exact(jC.mp hq).2
nm:=λq hq=>by
 rcases gQ.mp hq with hq|hq
 .exact h.nm q (jC.mp hq).1
 rw[kD.mp hq];exact⟨n0,n1⟩
blk:=λq hq=>by
 rcases gQ.mp hq with hq|hq
 .exact h.blk q (jC.mp hq).1
 rw[kD.mp hq];refine⟨b,hb,?_⟩;show((b*m.P+f:Nat):Int) / (m.P:Int)=_;rw[<-dX,yM hf]
wr:=λc hc=>by
 show ∃g:Nat,(m.fi.set b (m.fi.getD b 0+1)).getD c 0=(g:Int)/\g<=m.P;rw[jF];split
 .exact⟨f+1,by rw[ef];rfl,hf⟩
 exact h.wr c hc
end QM
noncomputable def vn(b:Nat):V:=.int (b:Int)
noncomputable def uU(B:Nat)(br:List Bool):List Nat:=(List.range B).filter λb=>!(br.getD b false)
noncomputable def yR(B:Nat)(br:List Bool)(fi:List Int):List Nat:=(uU B br).filter λb=>decide (fi.getD b 0=0)
noncomputable def keyN(cl:List Int)(b:Nat):List Int:=[cl.getD b 0,(b:Int)]
structure FreeIs(B:Nat)(br:List Bool)(cl fi:List Int)(l:List Nat):Prop where
pm:l.Perm (yR B br fi)
so:(l.map (keyN cl)).Pairwise λa b=>lx b a=false
theorem qIG{a b:Nat}(h:keyN cl a=keyN cl b):a=b:=by(
unfold keyN at h
lia)
theorem q1F{b:Nat}:b∈uU B br↔b<B/\br.getD b false=false:=by unfold uU;rw[mQ,mV,rD]
theorem q3Q{b:Nat}:b∈yR B br fi↔(b<B/\br.getD b false=false)/\fi.getD b 0=0:=by unfold yR;rw[mQ,q1F,mG]
theorem q2O:(uU B br).length<=B:=kQ (kY _ _) (by rw[mM];exact kO _)
theorem q9C:(yR B br fi).length<=B:=kQ (kY _ _) q2O
theorem FreeIs.mem{l:List Nat}(h:FreeIs B br cl fi l){b:Nat}(hb:b∈l):b<B/\br.getD b false=false/\fi.getD b 0=0:=by have:=q3Q.mp (h.pm.mem_iff.mp hb);exact⟨this.1.1,this.1.2,this.2⟩
theorem FreeIs.len{l:List Nat}(h:FreeIs B br cl fi l):l.length<=B:=by rw[h.pm.length_eq];exact q9C
noncomputable def jX(P:Nat)(fi:List Int)(b:Nat):Bool:=decide (0<fi.getD b 0)&&decide (fi.getD b 0<(P:Int))
noncomputable def jW(B P:Nat)(br:List Bool)(fi:List Int):Option Nat:=(uU B br).find? (jX P fi)
theorem q03{P:Nat}{b:Nat}(h:jW B P br fi=some b):b<B/\br.getD b false=false/\0<fi.getD b 0/\fi.getD b 0<(P:Int):=by(
have h1:=q1F.mp (rM h)
have h2:=d8 h
unfold jX at h2
rw[gE,mG,mG]at h2
exact⟨h1.1,h1.2,h2.1,h2.2⟩)
noncomputable def q1G(B P:Nat)(br:List Bool)(fi:List Int)(l:List Nat):Option Nat:=match jW B P br fi with
|some b=>some b
|none=>l.head?
set_option tactic.hygienic true in
theorem qBI{P:Nat}{l:List Nat}(hl:FreeIs B br cl fi l)(hP:1<=P){b:Nat}(h:q1G B P br fi l=some b):b<B/\br.getD b false=false/\0<=fi.getD b 0/\fi.getD b 0<(P:Int):=by(
unfold q1G at h
split at h
.rename_i z e;cases h;have:=q03 e;exact⟨this.1,this.2.1,by lia,this.2.2.2⟩
cases l with
|nil=>cases h
|cons c r=>cases h;have:=hl.mem kX;exact⟨this.1,this.2.1,by lia,by lia⟩)
noncomputable def pgV(P:Nat)(fi:List Int):Option Nat->V
|none=>.non
|some b=>.int ((b:Int)*(P:Int)+fi.getD b 0)
noncomputable def oV:Option Nat->V
|none=>.non
|some b=>.int (b:Int)
theorem q7H{α β:Type}{L:List α}{f:α->β}{d:β}{e:α}:∀{q:List Nat},(∀i∈q,i<L.length)->(q.map λi=>(L.map f).getD i d)=(q.map λi=>L.getD i e).map f
| [],_=>rfl
|i::q,h=>by have hi:=h i kX;rw[mR,mR,mR,q7H (q:=q) λj hj=>h j (kB _ hj)];congr 1;rw[kJ,kJ,mF,kF hi];rfl
theorem qCO{α:Type}{L:List α}{e:α}{q:List Nat}(h:q.Perm (List.range L.length)):(q.map λi=>L.getD i e).Perm L:=by(
have:=h.map λi=>L.getD i e
refine this.trans ?_
have z:(List.range L.length).map (λi=>L.getD i e)=L:=by refine cF (by simp) λi h1 h2=>?_;rw[lQ,pQ,kJ,kF h2];rfl
rw[z])
theorem qIH{q:List Nat}(h:q.Perm (List.range (yR B br fi).length))(so:(q.map λi=>((yR B br fi).map (keyN cl)).getD i []).Pairwise λa b=>lx b a=false):FreeIs B br cl fi (q.map λi=>(yR B br fi).getD i 0):=by(
have z:∀i∈q,i<(yR B br fi).length:=λi D=>mV.mp (h.mem_iff.mp D)
refine⟨qCO h,?_⟩
rw[q7H  z]at so
exact so)
theorem q9D{α β:Type}{L:List α}{f:α->β}{i:Nat}{x:α}(h:L[i]?=some x):(L.take (i+1)).map f=(L.take i).map f++[f x]:=by(
have z:=(kC.mp h).1
obtain rfl:L[i]=x:=(kC.mp h).2
rw[<-kW z,mE]
rfl)
theorem qII{a b:List Int}(h:lx a b=true):lx b a=false:=by(
cases z:lx b a with
|false=>rfl
|true=>have:=q1D a b a h z;rw[q4B]at this;lia)
theorem qJU{a b c:List Int}(h1:lx b a=false)(h2:lx c b=false):lx c a=false:=by(
cases z:lx c a with
|false=>rfl
|true=>
 cases y:lx a b with
 |true=>have:=q1D c a b z y;lia
 |false=>have e:=q5M a b y h1;lia)
theorem FreeIs.ex(B:Nat)(br:List Bool)(cl fi:List Int):∃l,FreeIs B br cl fi l:=by(
refine⟨(yR B br fi).mergeSort λa b=>!(lx (keyN cl b) (keyN cl a)),pF _ _,?_⟩
have:=pV (le:=λa b=>!(lx (keyN cl b) (keyN cl a))) (λa b c h1 h2=>by
 rw[rD]at h1 h2 ⊢;exact qJU h1 h2) (λa b=>by
 cases z:lx _ (keyN cl a)with
 |false=>rfl
 |true=>rw[qII z];rfl) (yR B br fi)
rw[dO]
exact this.imp λh=>by rw[rD]at h;exact h)
theorem rep8{α:Type}{n i:Nat}{y:α}:(List.replicate n y).getD i y=y:=by rw[kJ,cD];split<;>rfl
end W1
namespace W1
noncomputable def sumB(p:Nat->Bool):Nat->Nat
|0=>0
|n+1=>sumB p n+if p n then 2 ^ n else 0
theorem q9E(x:Nat):∀n,sumB x.testBit n=x%2 ^ n
|0=>by simp[sumB,Nat.mod_one]
|n+1=>by show sumB x.testBit n+(if x.testBit n then 2 ^ n else 0)=_;rw[q9E x n,Nat.pow_succ,Nat.mod_mul,Nat.testBit_eq_decide_div_mod_eq];have:=Nat.mod_two_eq_zero_or_one (x / 2 ^ n);rcases this with h|h<;>simp[h]
theorem q4C{p:Nat->Bool}:∀n,(∀k,k<n->p k=q k)->sumB p n=sumB q n
|0,_=>rfl
|n+1,h=>by show sumB p n+ _=sumB q n+ _;rw[q4C n λk hk=>h k (by lia),h n (by lia)]
noncomputable def orB:List Nat->Nat->Nat
| [],b=>b
|s::r,b=>orB r (b|||2 ^ s)
theorem qBJ(k:Nat):∀(l:List Nat) (b:Nat),(orB l b).testBit k=(b.testBit k||decide (k∈l))
| [],b=>by simp[orB]
|s::r,b=>by
 show(orB r (b|||2 ^ s)).testBit k=_;rw[qBJ k r,Nat.testBit_or,Nat.testBit_two_pow];by_cases h:s=k
 .simp[h]
 have:¬k=s:=λz=>h z.symm;simp[h,this]
theorem qGO(n:Nat):∀(l:List Nat) (b:Nat),b<2 ^ n->(∀s∈l,s<n)->orB l b<2 ^ n
| [],b,h,_=>h
|s::r,b,h,hs=>qGO n r _ (Nat.or_lt_two_pow h (Nat.pow_lt_pow_right (by decide) (hs s (kX ..)))) λx hx=>hs x (kB _ hx)
theorem qA0{l:List Nat}{n:Nat}(h:∀s∈l,s<n):orB l 0=sumB (λk=>decide (k∈l)) n:=by(
have lt:=qGO n l 0 (Nat.two_pow_pos n) h
have:=q9E (orB l 0) n
rw[pC lt]at this
rw[<-this]
exact q4C n λk z=>by rw[qBJ];simp)
theorem q9F(p:Nat->Bool):∀n,(((List.range n).filter p).map λk=>(2:Nat) ^ k).sum=sumB p n
|0=>rfl
|n+1=>by rw[r9,m7,mE,eI,q9F p n];show sumB p n+((([n]:List Nat).filter p).map λk=>(2:Nat) ^ k).sum=sumB p n+if p n then 2 ^ n else 0;cases h:p n<;>simp[h]
end W1
namespace W1
open PySem L2
theorem yJ:uU B (List.replicate B false)=List.range B:=by(
refine wD.mpr λb z=>?_
rw[rep8]
rfl)
end W1
namespace L2
open PySem PySem.Spec PyProof.Rows
structure ClM(K:PySem.W.Frag)(W:Addr)(m:Str)(f:Addr):Prop where
rd:PySem.W.readsIn K W (.type "type")=true
fd:PySem.W.findCls K (.ref W) (.type "type") m=some (.val (.ref f))
ga:PySem.W.specialIn K (.ref W) "__getattribute__"=some (some (.builtin "type.__getattribute__"))
kp:PySem.W.keepIn K (.ref f)=true
def gLst(K:PySem.W.Frag)(n:Nat)(t:TGs):TG:=λv σ H Q=>∃a xs,v=.ref a/\SqL K H a xs/\xs.length=n/\t xs σ H Q
theorem qLH{X:Cx}{k:Nat}{t:TGs}{n:Nat}(hc:X.calm=true)(h:PGs X es t)
 (hn:(assignEach es X.env).length=n:=by rfl) (hst:(assignEach es X.env).findIdx? (·.1)=none:=by rfl):PG X (.Tuple es k pos) (gLst X.K n t):=by(
intro pins s σ H v u Q I r D
obtain⟨a,xs,N,U,hl,D⟩:=D
subst N
cases r
obtain⟨z,O,p,Z⟩:=I.list U
refine kI (sQ ?_)
unfold unpack
rw[show(assignEach es _).length=z.toArray.size by simp[hn,<-hl,O.length],hst]
refine kI (g9 (PySem.W.kun_itemsOf (I.ok.hd hc) p.isList λh' J=>?_))
have S:=I.kept (t':=s.toks) λb o e=>J b o (gC (mD e)) e
exact h _ _ σ H xs _ Q S (by simp_all) D)
end L2
namespace W1
open PySem L2
noncomputable def rdy(ie:Int)(l:List Nat)(p:Option Nat):Bool:=decide ((l.length:Int)-(1+ie)>0)||(decide ((l.length:Int)-(1+ie)=0)&&p.isSome)
noncomputable abbrev tyL(m:CM)(q:QM)(b:Nat):List V:=[.int (b:Int),.int (q.lv.getD b 0),.int (m.cl.getD b 0),.int (q.bo.getD b 0)]
noncomputable def spcN(ie:Int)(l:List Nat)(P:Nat)(fi:List Int)(p:Option Nat):Int:=if 1+ie<=(l.length:Int)then(P:Int)else match p with|none=>0|some b=>(P:Int)-fi.getD b 0
noncomputable def yK(B P:Nat)(br:List Bool)(fi:List Int):List Nat:=(uU B br).filter λb=>decide (fi.getD b 0=(P:Int))
noncomputable def optN(ie:Int)(m:CM)(q:QM)(l:List Nat):List Nat:=((yK q.B q.P m.br q.fi).filter λb=>decide (q.lv.getD b 0<=spcN ie l q.P q.fi (jW q.B q.P m.br q.fi))).filter λb=>decide (q.lv.getD b 0<(q.P:Int))
noncomputable def qGP(q:QM)(r:Int×Nat×Int):QM:={ q with nx:=r.1 }.put (r.2.1 / q.P) (r.2.1%q.P) r.2.2
structure Fits(q:QM)(r:Int×Nat×Int):Prop where
b:r.2.1 / q.P<q.B
f:q.fi.getD (r.2.1 / q.P) 0=((r.2.1%q.P:Nat):Int)
s:q.nx<=r.1
n0:0<=r.2.2
n1:r.2.2<=64
section
variable{q q0:QM}{r:Int×Nat×Int}{R:List (Int×Nat×Int)}
theorem Fits.ok(h:Fits q r)(ok:q.Ok):(qGP q r).Ok:=by have z:QM.Ok { q with nx:=r.1 }:={ ok with };exact z.put h.b (Nat.mod_lt _ ok.p1) h.f h.n0 h.n1
structure QS(q:QM):Prop where
ok:q.Ok
lv:∀b,b<q.B->q.lv.getD b 0=(cntB q.P q.V b:Nat)
theorem qDT(h:QS q)(n:Int){b:Nat}(hb:b<q.B):(BM.lvF q.P q.V q.lv n).getD b 0=(cntB q.P (jO q.V n) b:Nat):=by(
unfold BM.lvF
rcases QM.find_V  with⟨p,hp,e⟩|⟨no,e⟩
.rw[e];obtain⟨c,O,I⟩:=h.ok.blk _ hp;have D:=qGE (P:=q.P) (b:=b) h.ok.nd hp;show(q.lv.set _ _).getD b 0=_;rw[I,mC,jF];rw[I]at D;have N:=h.lv b hb;by_cases z:c=b
 .subst z;rw[kL rfl]at D;rw[kL ⟨rfl,by rw[h.ok.ll];exact hb⟩,N];lia
 rw[kE (by lia)]at D;simp_all
rw[e,h.lv b hb,show jO q.V n=q.V from wD.mpr λy J=>hG (no y J)])
theorem Fits.qs(h:Fits q r)(qs:QS q):QS (qGP q r):=by(
refine⟨h.ok qs.ok,λb D=>?_⟩
have D:b<q.B:=D
have I:=qDT qs r.2.2 D
show((BM.lvF q.P q.V q.lv _).set _ ((BM.lvF q.P q.V q.lv _).getD _ 0+1)).getD b 0=((cntB q.P (jO q.V _++[(r.2.2,((r.2.1 / q.P*q.P+r.2.1%q.P:Nat):Int))]) b):Int)
have J:r.2.1 / q.P*q.P+r.2.1%q.P=r.2.1:=by rw[cM];exact Nat.div_add_mod _ _
have ea:cntB q.P (jO q.V r.2.2++[(r.2.2,(r.2.1:Int))]) b=cntB q.P (jO q.V r.2.2) b+(if r.2.1 / q.P=b then 1 else 0):=by
 unfold cntB;rw[List.countP_append,List.countP_singleton,<-dX];by_cases z:r.2.1 / q.P=b
 .rw[kL z,z,hG rfl];rfl
 rw[kE z,hX (by lia)];rfl
rw[J,ea,jF]
by_cases z:r.2.1 / q.P=b
.rw[kL z,kL ⟨z,by rw[QM.lvF_len,qs.ok.ll];lia⟩,z,I];lia
simp_all)
end
def OneP(B P:Nat)(fi:List Int):Prop:=∀b c,b<B->c<B->jX P fi b=true->jX P fi c=true->b=c
noncomputable def clr1(P:Nat)(fi:List Int)(b:Nat):Nat:=P-(fi.getD b 0).toNat
noncomputable def rm(B P:Nat)(fi:List Int):Nat:=((List.range B).map (clr1 P fi)).sum
theorem qDU{L:List Nat}{f:Nat->Nat}:(L.map λb=>f b+g b).sum=(L.map f).sum+(L.map g).sum:=by(
induction L with
|nil=>rfl
|cons x L z=>rw[mR,mR,mR,dZ,dZ,dZ,z];lia)
theorem q1H{L:List Nat}{f g:Nat->Nat}(h:∀b∈L,f b=g b):(L.map f).sum=(L.map g).sum:=by rw[dA h]
theorem qLI{L:List Nat}{p:Nat->Bool}{c:Nat}:(L.map λb=>if p b=true then c else 0).sum=(L.filter p).length*c:=by(
induction L with
|nil=>simp
|cons x L z=>
 rw[mR,dZ,z,mU];by_cases h:p x=true
 .rw[kL h,kL h,mP,rS];lia
 rw[kE h,kE h];lia)
theorem qDV{L:List Nat}{p:Nat->Bool}{h:Nat->Nat}(nd:L.Nodup)(one:∀a∈L,∀b∈L,p a=true->p b=true->a=b):(L.map λb=>if p b=true then h b else 0).sum=match L.find? p with|some b=>h b|none=>0:=by(
induction L with
|nil=>rfl
|cons x L J=>
 obtain⟨N,O⟩:=gD.mp nd;rw[mR,dZ,d7];by_cases D:p x=true
 .rw[D];have:(L.map λb=>if p b=true then h b else 0).sum=(L.map _).sum:=q1H λb I=>by rw[kE];intro z;exact N (by rw[one x (by simp) b (kB _ I) D z];exact I)
  rw[this];have z:(L.map λU=>0).sum=0:=by
   clear this J nd one N O;induction L with
   |nil=>rfl
   |cons y L J=>simp_all
  rw[z];rfl
 rw[kE D];rw[Bool.not_eq_true]at D;rw[D];rw[nK];exact J O λa S b I=>one a (kB _ S) b (kB _ I))
section
variable{B P:Nat}{fi cl:List Int}{l:List Nat}
noncomputable abbrev noB(B:Nat):List Bool:=List.replicate B false
theorem qMU(on:OneP B P fi)(wr:∀b,b<B->∃f:Nat,fi.getD b 0=(f:Int)/\f<=P)(p1:1<=P)(hl:FreeIs B (noB B) cl fi l):
 rm B P fi=l.length*P+(match jW B P (noB B) fi with|some b=>P-(fi.getD b 0).toNat|none=>0):=by(
have h1:l.length=((List.range B).filter λb=>decide (fi.getD b 0=0)).length:=by rw[hl.pm.length_eq];unfold yR;rw[yJ]
unfold rm jW
rw[yJ,h1,<-qLI,<-qDV   rR (λa J b D=>on a b (mV.mp J) (mV.mp D)),<-qDU]
refine q1H λb D=>?_
obtain⟨f,I,N⟩:=wr b (mV.mp D)
unfold clr1 jX
rw[I,mC]
by_cases z:f=0
.subst z;rfl
lia)
theorem qBK{b:Nat}(h:jW B P (noB B) fi=some b):b<B/\0<fi.getD b 0/\fi.getD b 0<(P:Int):=by have:=q03 h;exact⟨this.1,this.2.2⟩
theorem q2P(on:OneP B P fi)(wr:∀b,b<B->∃f:Nat,fi.getD b 0=(f:Int)/\f<=P)(p1:1<=P)(hl:FreeIs B (noB B) cl fi l):
 (jW B P (noB B) fi=none/\rm B P fi=l.length*P)\/∃b e,jW B P (noB B) fi=some b/\1<=e/\e<P/\rm B P fi=l.length*P+e/\fi.getD b 0+(e:Int)=(P:Int):=by(
have h:=qMU on wr p1 hl
cases hp:jW B P _ fi with
|none=>rw[hp]at h;exact .inl ⟨rfl,h⟩
|some b=>rw[hp]at h;obtain⟨a,c,d⟩:=qBK hp;exact .inr ⟨b,P-(fi.getD b 0).toNat,rfl,by lia,by lia,h,by lia⟩)
theorem qIJ{ie:Nat}(on:OneP B P fi)(wr:∀b,b<B->∃f:Nat,fi.getD b 0=(f:Int)/\f<=P)(p1:1<=P)(hl:FreeIs B (noB B) cl fi l):
 rdy (ie:Int) l (jW B P (noB B) fi)=decide ((1+ie)*P<rm B P fi):=by(
have D:∀e,e<P->((1+ie)*P<l.length*P+e↔(1+ie<l.length\/(1+ie=l.length/\0<e))):=λe I=>by
 rcases Nat.lt_trichotomy (1+ie) l.length with h|h|h
 .have:=gH P (show 1+ie+1<=l.length from h);rw[rS]at this;exact⟨λU=>.inl h,λU=>by lia⟩
 .rw[h];exact⟨λz=>.inr ⟨rfl,by lia⟩,λz=>by lia⟩
 have:=gH P (show l.length+1<=1+ie from h);rw[rS]at this;exact⟨λz=>by lia,λz=>by lia⟩
unfold rdy
rcases q2P on wr p1 hl with⟨h1,h2⟩|⟨b,e,h1,e1,e2,h2,_⟩
.rw[h1,h2];have k:=D 0 (by lia);rw[p8]at k;by_cases z:(1+ie)*P<l.length*P
 .rw[hG z,hG (show(l.length:Int)-(1+(ie:Int))>0 by rcases k.mp z with h|h<;>lia)];rfl
 rw[hX z,hX (show ¬(l.length:Int)-(1+(ie:Int))>0 by intro y;exact z (k.mpr (.inl (by lia))))];simp
rw[h1,h2]
have k:=D e e2
by_cases z:(1+ie)*P<l.length*P+e
.rw[hG z];rcases k.mp z with h|h
 .rw[hG (show(l.length:Int)-(1+(ie:Int))>0 by lia)];rfl
 rw[hG (show(l.length:Int)-(1+(ie:Int))=0 by lia)];simp
rw[hX z,hX (show ¬(l.length:Int)-(1+(ie:Int))>0 by intro y;exact z (k.mpr (.inl (by lia)))),hX (show ¬(l.length:Int)-(1+(ie:Int))=0 by intro y;exact z (k.mpr (.inr ⟨by lia,by lia⟩)))]
rfl)
theorem q9G(on:OneP B P fi)(wr:∀b,b<B->∃f:Nat,fi.getD b 0=(f:Int)/\f<=P)(p1:1<=P)(hl:FreeIs B (noB B) cl fi l)(h:0<rm B P fi):∃b,q1G B P (noB B) fi l=some b/\((jW B P (noB B) fi=some b)\/(jW B P (noB B) fi=none/\fi.getD b 0=0)):=by(
unfold q1G
rcases q2P on wr p1 hl with⟨h1,h2⟩|⟨b,e,h1,_⟩
.rw[h1];cases l with
 |nil=>simp_all
 |cons x l=>exact⟨x,rfl,.inr ⟨rfl,(hl.mem (by simp)).2.2⟩⟩
rw[h1]
exact⟨b,rfl,.inl rfl⟩)
theorem qIK{L:List Nat}{f:Nat->Nat}{b:Nat}(nd:L.Nodup)(hb:b∈L)(h:∀c∈L,c≠b->f c=g c):(L.map f).sum+g b=(L.map g).sum+f b:=by(
induction L with
|nil=>simp_all
|cons x L N=>
 obtain⟨I,J⟩:=gD.mp nd;rw[mR,mR,dZ,dZ];rcases kN.mp hb with rfl|hb
 .rw[q1H    λc D=>h c (kB _ D) λz=>I (by simp_all)];lia
 have:=N J hb λc D=>h c (kB _ D);have e:=h x (by simp) λz=>I (by rw[z];exact hb);lia)
theorem qGQ{b:Nat}{v:Int}(hb:b<B)(lf:fi.length=B):rm B P (fi.set b v)+(P-(fi.getD b 0).toNat)=rm B P fi+(P-v.toNat):=by(
have:=qIK  (f:=clr1 P (fi.set b v)) (g:=clr1 P fi)  rR (mV.mpr hb) λc U D=>by unfold clr1;rw[jF,kE (λz=>D z.1.symm)]
have e:clr1 P (fi.set b v) b=P-v.toNat:=by unfold clr1;simp_all
rw[e]at this
exact this)
theorem qLJ{b f:Nat}(hb:b<B)(lf:fi.length=B)(ef:fi.getD b 0=(f:Int))(hf:f<P):rm B P (fi.set b (fi.getD b 0+1))+1=rm B P fi:=by(
have:=qGQ (P:=P) (v:=fi.getD b 0+1) hb lf
rw[ef]at this ⊢
have z:=mC f
lia)
theorem qIL{b:Nat}(hb:b<B)(lf:fi.length=B)(ef:fi.getD b 0=(P:Int)):rm B P (fi.set b 0)=rm B P fi+P:=by(
have:=qGQ (P:=P) (v:=0) hb lf
rw[ef]at this
simpa using this)
theorem qIM{b:Nat}(on:OneP B P fi)(hb:b<B)(lf:fi.length=B)(h:(jW B P (noB B) fi=some b)\/(jW B P (noB B) fi=none/\fi.getD b 0=0)):OneP B P (fi.set b (fi.getD b 0+1)):=by(
have D:∀c,c<B->c≠b->jX P (fi.set b (fi.getD b 0+1)) c=true->False:=λc J O N=>by
 have I:jX P fi c=true:=by unfold jX at N ⊢;rw[jF,kE (λz=>O z.1.symm)]at N;exact N
 rcases h with h|⟨h,_⟩
 .have h2:=d8 h;exact O (on c b J hb I h2)
 have:=rA.mp h c (by rw[yJ];exact mV.mpr J);exact this I
intro c d J hd pc Z
by_cases S:c=b
.by_cases U:d=b
 .simp_all
 exact(D d hd U Z).elim
exact(D c J S pc).elim)
theorem qGR{b:Nat}(on:OneP B P fi):OneP B P (fi.set b 0):=by(
have z:∀c,c<B->jX P (fi.set b 0) c=true->jX P fi c=true:=λc I D=>by
 unfold jX at D ⊢;rw[jF]at D;split at D
 .simp_all
 exact D
exact λc d I J O N=>on c d I J (z c I O) (z d J N))
theorem qIN{V:Mp}:∀{L:List Nat},L.Nodup->(L.map (cntB P V)).sum<=V.length:=by(
induction V with
|nil=>
 intro L _;have:(L.map (cntB P [])).sum=(L.map λU=>0).sum:=q1H λb U=>rfl;rw[this];clear this;induction L with
 |nil=>exact kO _
 |cons x L D=>simp_all
|cons x V D=>
 intro L z;have e:(L.map (cntB P (x::V))).sum=(L.map (cntB P V)).sum+(L.map λb=>if(λb:Nat=>decide (x.2 / (P:Int)=(b))) b=true then 1 else 0).sum:=by rw[<-qDU];refine q1H λb U=>?_;unfold cntB;rw[sO]
 rw[e,qDV  z λa U b U J I=>by lia];have:=D z;rw[mP];cases L.find? (λb:Nat=>decide (x.2 / (P)=(b)))with
 |none=>lia
 |some b=>show _ +1<=_;lia)
theorem qGS{L:List Nat}{f:Nat->Nat}{k:Nat}(h:∀b∈L,k<=f b):L.length*k<=(L.map f).sum:=by(
induction L with
|nil=>simp
|cons x L D=>rw[mP,mR,dZ];have:=D λb z=>h b (kB _ z);have:=h x (by simp);lia)
theorem qBL(on:OneP B P fi)(wr:∀b,b<B->∃f:Nat,fi.getD b 0=(f:Int)/\f<=P)(p1:1<=P)(hl:FreeIs B (noB B) cl fi l)(hp:jW B P (noB B) fi=none):(yK B P (noB B) fi).length+l.length=B:=by(
have h1:l.length=((List.range B).filter λb=>decide (fi.getD b 0=0)).length:=by rw[hl.pm.length_eq];unfold yR;rw[yJ]
have h2:yK B P (noB B) fi=(List.range B).filter λb=>!decide (fi.getD b 0=0):=by
 unfold yK;rw[yJ];refine r6 λb D=>?_;obtain⟨f,I,J⟩:=wr b (mV.mp D);have np:=rA.mp hp b (by rw[yJ];exact D);unfold jX at np;rw[I]at np ⊢;by_cases z:f=0
 .subst z;rw[hX (by lia)];rfl
 rw[hX (show ¬(f:Int)=0 by lia)];by_cases y:f<P
 .simp_all
 exact hG (by lia)
rw[h1,h2]
have e:∀{L:List Nat} {p:Nat->Bool},(L.filter λb=>!p b).length+(L.filter p).length=L.length:=by
 intro L p;induction L with
 |nil=>rfl
 |cons x L N=>rw[mU,mU];cases p x<;>simp<;>lia
have:=e (L:=List.range B) (p:=λb=>decide (fi.getD b 0=0))
rw[mM]at this
exact this)
end
section
variable{q:QM}{m:CM}{l:List Nat}
theorem qGT{b f:Nat}{n:Int}(hf:f<q.P):qGP q (q.nx,b*q.P+f,n)=q.put b f n:=by show({ q with nx:=q.nx }).put ((b*q.P+f) / q.P) ((b*q.P+f)%q.P) n=_;rw[yM hf,cM,sX,pC hf]
theorem QS.put{b f:Nat}{n:Int}(h:QS q)(hb:b<q.B)(hf:f<q.P)(ef:q.fi.getD b 0=(f:Int))(n0:0<=n)(n1:n<=64):QS (q.put b f n):=by(
have z:Fits q (q.nx,b*q.P+f,n):=by
 refine⟨?_,?_,gU _,n0,n1⟩
 .rw[yM hf];exact hb
 rw[yM hf,ef,cM,sX,pC hf]
have:=z.qs h
rw[qGT hf]at this
simp_all)
theorem uB{b f:Nat}{n:Int}{x:Int×Int}:x∈(q.put b f n).V↔x=(n,((b*q.P+f:Nat):Int))\/(x∈q.V/\x.1≠n):=by show x∈jO q.V n++[(n,((b*q.P+f:Nat):Int))]↔_;rw[gQ,jC,kD];exact⟨λh=>h.symm,λh=>h.symm⟩
theorem QS.forget(h:QS q)(n:Int):QS (q.forget n):=⟨h.ok.forget n,λb hb=>qDT h n hb⟩
noncomputable def QM.emptied(q:QM)(b:Nat):QM:={ q with fi:=q.fi.set b 0,bo:=q.bo.set b 0 }
theorem QS.emptied(h:QS q)(b:Nat):QS (q.emptied b):=by(
refine⟨{ h.ok with lf:=by show(q.fi.set b 0).length=q.B;rw[gK];exact h.ok.lf,lo:=by show(q.bo.set b 0).length=q.B;rw[gK];exact h.ok.lo,wr:=λc z=>?_ },h.lv⟩
show ∃f:Nat,(q.fi.set b 0).getD c 0=(f)/\f<=q.P
rw[jF]
split
.exact⟨0,rfl,m9 _⟩
exact h.ok.wr c z)
noncomputable def tlOf(m:CM)(q:QM)(b:Nat):Tl:=⟨(b:Int),q.lv.getD b 0,m.cl.getD b 0,q.bo.getD b 0⟩
theorem qGU{f:Tl->Int}(h:ts≠[]):∃T∈ts,pk f ts=T.b/\∀o∈ts,f T<=f o:=by obtain⟨i,z,D,J⟩:=q77 f ts h;exact⟨ts[i],gG z,qJR z D J,λo I=>by have:=q6K.mp D o I;lia⟩
theorem qGV{ie:Nat}(h:QS q)(on:OneP q.B q.P q.fi)(br:m.br=noB q.B)(hl:FreeIs q.B (noB q.B) m.cl q.fi l)(hr:rm q.B q.P q.fi=(1+ie)*q.P)(hv:q.V.length<(q.B-(1+ie))*q.P):
 optN (ie:Int) m q l≠[]/\∀b∈optN (ie:Int) m q l,(∀c∈optN (ie:Int) m q l,q.lv.getD b 0<=q.lv.getD c 0)->cntB q.P q.V b*(q.B-(1+ie))<=q.V.length:=by(
have p1:=h.ok.p1
have ll:jW q.B q.P (noB q.B) q.fi=none/\l.length=1+ie:=by
 rcases q2P on h.ok.wr p1 hl with⟨h1,h2⟩|⟨b,e,h1,e1,e2,h2,_⟩
 .refine⟨h1,?_⟩;rw[hr]at h2;exact(nV (by lia) h2).symm
 exfalso;rw[hr]at h2;have k:(1+ie)*q.P%q.P=e:=by rw[h2,cM,sX,pC e2]
 rw[bO]at k;lia
have fl:=qBL on h.ok.wr p1 hl ll.1
have N:(yK q.B q.P (noB q.B) q.fi).length=q.B-(1+ie):=by lia
have U:spcN (ie:Int) l q.P q.fi (jW q.B q.P (noB q.B) q.fi)=(q.P:Int):=by unfold spcN;rw[kL (by lia)]
have S:(yK q.B q.P (noB q.B) q.fi).Nodup:=by unfold yK;rw[yJ];exact dQ _ rR
have O:∀b∈yK q.B q.P (noB q.B) q.fi,b<q.B:=λb I=>by unfold yK at I;rw[yJ]at I;exact mV.mp (mQ.mp I).1
have D:∀b,b∈optN (ie:Int) m q l↔b∈yK q.B q.P (noB q.B) q.fi/\cntB q.P q.V b<q.P:=λb=>by
 unfold optN;rw[br,U,mQ,mQ,mG,mG];constructor
 .rintro⟨⟨a,_⟩,c⟩
  rw[h.lv b (O b a)]at c;exact⟨a,by lia⟩
 rintro⟨a,c⟩
 rw[h.lv b (O b a)];exact⟨⟨a,by lia⟩,by lia⟩
have cs:=qIN (P:=q.P) (V:=q.V) S
constructor
.intro z;have:(yK q.B q.P (noB q.B) q.fi).length*q.P<=((yK q.B q.P (noB q.B) q.fi).map (cntB q.P q.V)).sum:=qGS λb I=>by refine rN λy=>?_;have:b∈optN (ie:Int) m q l:=(D b).mpr ⟨I,by lia⟩;rw[z]at this;cases this
 rw[N]at this;lia
intro b I J
obtain⟨bF,bP⟩:=(D b).mp I
have:(yK q.B q.P (noB q.B) q.fi).length*cntB q.P q.V b<=((yK q.B q.P (noB q.B) q.fi).map (cntB q.P q.V)).sum:=qGS λc Z=>by
 by_cases y:cntB q.P q.V c<q.P
 .have:=J c ((D c).mpr ⟨Z,y⟩);rw[h.lv b (O b bF),h.lv c (O c Z)]at this;lia
 lia
rw[N,cM]at this
lia)
end
theorem qLK{V:Mp}(nd:(V.map (·.1)).Nodup):V.length<=((V.map (·.1)).filter λn=>decide (n≠64)).length+1:=by(
have e:∀{L:List Int},L.Nodup->L.length<=(L.filter λn=>decide (n≠64)).length+1:=by
 intro L;induction L with
 |nil=>intro _;exact m9 _
 |cons y L N=>
  intro nd;obtain⟨D,J⟩:=gD.mp nd;rw[mU];by_cases z:y=64
  .rw[kE (by simp[z])];have:L.filter (λn=>decide (n≠64))=L:=wD.mpr λw I=>hG λe=>D (by rw[z,<-e];exact I);rw[this];exact kO _
  simp_all
have:=e nd
rw[hU]at this
exact this)
inductive Rl where
|rk (f:Int->Int->Tl->Int)
|win (m:Int)
|fol (row:List Int) (u:Nat)
def Rl.Ok:Rl->Prop
| .win m=>1<=m
|_=>True
noncomputable def leL(k:Tl->List Int)(a b:Tl):Bool:=!lx (k b) (k a)
noncomputable def winC(m:Int)(ts:List Tl):List Tl:=((ts.mergeSort (leL λT=>[T.bo,T.b])).take m.toNat).mergeSort (leL Tl.ns)
theorem qIO{m:Int}:∀o∈winC m ts,o∈ts:=λo ho=>pT.mp (List.mem_of_mem_take (pT.mp ho))
theorem qIP{m:Int}(m1:1<=m)(h:ts≠[]):winC m ts≠[]:=λz=>by(
have:=dL List.length z
unfold winC at this
rw[xL,gF,xL]at this
grind)
noncomputable def fo(row:List Int)(u:Nat)(ts:List Tl):Int:=match row[u]? with
|some n=>if n∈ts.map Tl.b then n else(ts.map Tl.b).headD 0
|none=>(ts.map Tl.b).headD 0
noncomputable def Rl.ch:Rl->Int->Int->List Tl->Int×Rl
| .rk f,pg,nw,ts=>(pk (f pg nw) ts,.rk f)
| .win m,_,_,ts=>(pk Tl.lv (winC m ts),.win m)
| .fol row u,_,_,ts=>(fo row u ts,.fol row (min (u+1) row.length))
noncomputable def minF(cl:List Int):List Nat->Option Nat
| []=>none
|b::L=>match minF cl L with
 |none=>some b
 |some c=>if cl.getD c 0<cl.getD b 0 then some c else some b
noncomputable def spF(q:QM)(cl:List Int):Nat:=match(List.range q.B).find? (jX q.P q.fi)with
|some b=>b
|none=>(minF cl ((List.range q.B).filter λb=>decide (q.fi.getD b 0=0))).getD 0
section
variable{B P:Nat}{q:QM}{m:CM}{cl fi:List Int}{l:List Nat}
theorem zR:∀{L:List Nat},L.Pairwise (· < ·)->(minF cl L=none->L=[])/\∀b,minF cl L=some b->b∈L/\∀c∈L,lx (keyN cl c) (keyN cl b)=false
| [],_=>⟨λU=>rfl,λb h=>by cases h⟩
|a::L,pw=>by
 obtain⟨p1,p2⟩:=dC.mp pw;obtain⟨h1,h2⟩:=zR p2;unfold minF;cases z:minF cl L with
 |none=>
  have:=h1 z;subst this;refine⟨λy=>(by cases y),λb h=>?_⟩;injection h with h
  subst h;exact⟨by simp,λc hc=>by rw[kD.mp hc];exact q4B _⟩
 |some c=>
  obtain⟨g1,g2⟩:=h2 c z;have hac:=p1 c g1;dsimp only;by_cases y:cl.getD c 0<cl.getD a 0
  .rw[kL y];refine⟨λw=>(by cases w),λb h=>?_⟩;injection h with h
   subst h;refine⟨kB _ g1,λd hd=>?_⟩;rcases kN.mp hd with e|e
   .subst e;unfold keyN lx;rw[kE (by lia)];exact hX (by lia)
   exact g2 d e
  rw[kE y];refine⟨λw=>(by cases w),λb h=>?_⟩;injection h with h
  subst h;refine⟨by simp,λd hd=>?_⟩;rcases kN.mp hd with e|e
  .subst e;exact q4B _
  refine qJU (b:=keyN cl c) ?_ (g2 d e);unfold keyN lx;by_cases w:cl.getD c 0=cl.getD a 0
  .rw[kL w];unfold lx;rw[kE (by lia)];exact hX (by lia)
  rw[kE w];exact hX (by lia)
theorem qEU(hl:FreeIs B (noB B) cl fi l):l.head?=minF cl ((List.range B).filter λb=>decide (fi.getD b 0=0)):=by(
have pm:=hl.pm
unfold yR at pm
rw[yJ]at pm
have J:((List.range B).filter λb=>decide (fi.getD b 0=0)).Pairwise _:=dQ _ rE
obtain⟨h1,h2⟩:=zR (cl:=cl) J
cases l with
|nil=>rw[aB.mp pm];rfl
|cons a r=>
 cases z:minF cl ((List.range B).filter _)with
 |none=>rw[h1 z]at pm;simp_all
 |some b=>
  obtain⟨I,N⟩:=h2 b z;have D:=hl.so;have D:=(dC.mp D).1;have O:=pm.mem_iff.mpr I;have e:a=b:=by
   rcases kN.mp O with e|e
   .exact e.symm
   exact qIG (q5M _ _ (N a (pm.mem_iff.mp (by simp))) (D _ (kP.mpr ⟨b,e,rfl⟩)))
  rw[e];rfl)
theorem qLL(on:OneP q.B q.P q.fi)(wr:∀b,b<q.B->∃f:Nat,q.fi.getD b 0=(f:Int)/\f<=q.P)(p1:1<=q.P)(hl:FreeIs q.B (noB q.B) cl q.fi l)(h:0<rm q.B q.P q.fi):q1G q.B q.P (noB q.B) q.fi l=some (spF q cl):=by(
obtain⟨b,D,_⟩:=q9G on wr p1 hl h
rw[D]
unfold q1G jW at D
unfold spF
rw[yJ]at D
cases z:(List.range q.B).find? (jX q.P _)with
|some c=>rw[z]at D;exact D.symm
|none=>rw[<-qEU hl];simp_all)
noncomputable def lvP(P b:Nat)(V:Mp):List (List Int):=(List.range P).filterMap λf=>(V.find? λy=>decide (y.2=((b*P+f:Nat):Int))).map λy=>[y.2,y.1]
theorem q3R{P b:Nat}{V:Mp}(hP:1<=P)(pd:(V.map (·.2)).Nodup){k:List Int}:k∈lvP P b V↔∃y∈V,y.2 / (P:Int)=(b:Int)/\k=[y.2,y.1]:=by(
unfold lvP
rw[wM]
constructor
.rintro⟨f,N,e⟩
 have N:=mV.mp N;cases z:V.find? λy=>decide (y.2=((b*P+f:Nat):Int))with
 |none=>rw[z]at e;cases e
 |some y=>
  rw[z]at e;have D:=rM z;have I:y.2=((b*P+f:Nat):Int):=by simpa using d8 z
  refine⟨y,D,?_,(mB e).symm⟩;rw[I,<-dX,yM N]
rintro⟨y,hy,hb,rfl⟩
have e:=Int.mul_ediv_add_emod y.2 (P:Int)
have m0:=b8 y.2 (show(P:Int)≠0 by omega)
have Z:=aM y.2 (show(0:Int)<(P:Int) by omega)
refine⟨(y.2%(P:Int)).toNat,mV.mpr (by omega),?_⟩
have J:y.2=((b*P+(y.2%(P:Int)).toNat:Nat):Int):=by rw[rL,gY,<-hb,Int.mul_comm];omega
cases z:V.find? λw=>decide (w.2=((b*P+(y.2%(P:Int)).toNat:Nat):Int))with
|none=>exact absurd (hG J) (rA.mp z y hy)
|some w=>
 have D:=rM z;have I:w.2=((b*P+(y.2%(P:Int)).toNat:Nat):Int):=by simpa using d8 z
 have:w=y:=by
  clear z;induction V with
  |nil=>cases D
  |cons v V S=>
   rw[mR]at pd;obtain⟨O,U⟩:=gD.mp pd;rcases kN.mp D with a|a<;>rcases kN.mp hy with c|c
   .rw[a,c]
   .exact(O (by rw[<-a,I,<-J];exact kP.mpr ⟨y,c,rfl⟩)).elim
   .exact(O (by rw[<-c,J,<-I];exact kP.mpr ⟨w,a,rfl⟩)).elim
   exact S U c a
 rw[this];rfl)
theorem qCP{P b:Nat}{V:Mp}:(lvP P b V).Pairwise λa c=>lx c a=false/\a≠c:=by(
refine List.pairwise_filterMap.mpr (rE.imp fun {f g} hfg k hk k' hk'=>?_)
cases z:V.find? λy=>decide (y.2=((b*P+f:Nat):Int))with
|none=>rw[z]at hk;cases hk
|some y=>
 cases z':V.find? λy=>decide (y.2=((b*P+g:Nat):Int))with
 |none=>rw[z']at hk';simp_all
 |some D=>
  rw[z]at hk;rw[z']at hk';have J:=by simpa using d8 z
  have I:=by simpa using d8 z'
  obtain rfl:[y.2,y.1]=k:=mB hk;obtain rfl:[D.2,D.1]=k':=mB hk';refine⟨?_,λw=>?_⟩
  .unfold lx;rw[kE (by omega)];exact hX (by omega)
  injection w with w _
  omega)
theorem qIQ{P b:Nat}{V:Mp}{rs:List (List Int)}(hP:1<=P)(pd:(V.map (·.2)).Nodup)(nd:rs.Nodup)(mm:∀k,k∈rs↔∃n p,k=[p,n]/\(n,p)∈V/\p / (P:Int)=(b:Int))(so:rs.Pairwise λa b=>lx b a=false):rs=lvP P b V:=by(
refine qGH (zQ nd (qCP.imp λz=>z.2) λk=>?_) so (qCP.imp λz=>z.1)
rw[mm,q3R hP pd]
constructor
.rintro⟨n,p,rfl,h1,h2⟩
 exact⟨(n,p),h1,h2,rfl⟩
rintro⟨y,h1,h2,rfl⟩
exact⟨y.1,y.2,rfl,h1,h2⟩)
end
structure XS where
q:QM
cl:List Int
pg:Nat->Option (Int×Int)
lf:Option Int
rc:List (Str×Int×Bool)
structure Tm where
ie:Nat
sp:Int
ev:Bool
noncomputable def mnL:List Int->Option Int
| []=>none
|a::l=>match mnL l with
 |none=>some a
 |some m=>some (if a<=m then a else m)
theorem q7I:∀{l:List Int},l≠[]->∃m,mnL l=some m/\m∈l/\∀a∈l,m<=a
| [],h=>absurd rfl h
| [a],_=>⟨a,rfl,by simp,λb hb=>by rw[kD.mp hb];exact gU _⟩
|a::b::l,_=>by
 obtain⟨m,e,h1,h2⟩:=q7I (l:=b::l) (by simp);unfold mnL;rw[e];by_cases z:a<=m
 .refine⟨a,by dsimp only;rw[kL z],by simp,λc hc=>?_⟩;rcases kN.mp hc with e|hc
  .rw[e];exact gU _
  exact p7 z (h2 c hc)
 refine⟨m,by dsimp only;rw[kE z],kB _ h1,λc hc=>?_⟩;rcases kN.mp hc with e|hc
 .rw[e];lia
 exact h2 c hc
namespace XS
variable(s:XS)
noncomputable def pb:Nat:=spF s.q s.cl
noncomputable def pf:Nat:=(s.q.fi.getD s.pb 0).toNat
noncomputable def np:Nat:=s.pb*s.q.P+s.pf
noncomputable def put(n v:Int):XS:=⟨s.q.put s.pb s.pf n,s.cl,λi=>if i=s.np then some (s.q.nx*128+n,v)else s.pg i,s.lf.map (· - 1),s.rc++[(Str.ofString "put",(s.np:Int),true)]⟩
noncomputable def wip(b:Nat):XS:=⟨s.q.emptied b,s.cl.set b (s.cl.getD b 0+1),λi=>if i / s.q.P=b then none else s.pg i,s.lf.map (· - 1),s.rc++[(Str.ofString "wipe",(b:Int),true)]⟩
noncomputable def forg(n:Int):XS:={ s with q:=s.q.forget n }
noncomputable def rmX:Nat:=rm s.q.B s.q.P s.q.fi
noncomputable def hl:List Int:=((s.q.V.map (·.1)).filter λn=>decide (n≠64)).mergeSort λa b=>decide (a<=b)
noncomputable def bits(ns:List Int):Int:=((orB (ns.map Int.toNat) 0:Nat):Int)
noncomputable def val(p n:Int):Int:=if n=64 then bits s.hl else((s.pg p.toNat).getD (0,0)).2
noncomputable def mvs:List (List Int)->XS->XS×Option (List (List Int))
| [],s=>(s,some [])
|k::r,s=>if s.lf=some 0 then(s,none)else
 match mvs r (s.put (k.getD 1 0) (s.val (k.getD 0 0) (k.getD 1 0)))with
 |(s',none)=>(s',none)
 |(s',some ms)=>(s',some ([k.getD 1 0,k.getD 0 0,(s.np:Int)]::ms))
noncomputable def spc(k:Tm):Int:=if(1+k.ie)*s.q.P<=s.rmX then(s.q.P:Int)else(s.rmX:Int)-(k.ie*s.q.P:Nat)
noncomputable def ful(k:Tm):List Nat:=(List.range s.q.B).filter λb=>decide (s.q.fi.getD b 0=(s.q.P:Int))&&decide (s.q.lv.getD b 0<=s.spc k)
noncomputable def ded(k:Tm):List Nat:=(s.ful k).filter λb=>decide (s.q.lv.getD b 0<(s.q.P:Int))
noncomputable def lst:Int:=(mnL s.cl).getD 0
noncomputable def clb(k:Tm)(L:List Nat):List Nat:=L.filter λb=>decide (s.cl.getD b 0<s.lst+k.sp)
noncomputable def opt(k:Tm):List Nat:=if k.ev then s.clb k (s.ded k)else s.ded k
noncomputable def tl(b:Nat):Tl:=⟨(b:Int),s.q.lv.getD b 0,s.cl.getD b 0,s.q.bo.getD b 0⟩
noncomputable def ots(k:Tm):List Tl:=(s.opt k).map s.tl
noncomputable def chg(k:Tm):Option Nat:=minF s.cl (s.clb k (s.ful k))
noncomputable def rd(k:Tm):Bool:=decide ((1+k.ie)*s.q.P<s.rmX)
noncomputable def tk(k:Tm)(g:Rl):Option (Str×Nat×Rl):=if s.opt k=[]then(if k.ev then(s.chg k).map λb=>("even",b,g)else none)
 else some ("rule",(g.ch (s.q.P:Int) s.q.nx (s.ots k)).1.toNat,(g.ch (s.q.P:Int) s.q.nx (s.ots k)).2)
end XS
inductive Rf where
|dark|room
structure Pa where
why:Str
ts:List Tl
b:Nat
mv:List (List Int)
structure Sx where
s:XS
g:Rl
ps:List Pa
namespace Sx
noncomputable def room(k:Tm)(X:Sx):Sx×Except Rf Pa:=match X.s.tk k X.g with
|none=>(X,.error .room)
|some (y,b,g)=>match XS.mvs (lvP X.s.q.P b X.s.q.V) X.s with
 |(s,none)=>(⟨s,g,X.ps⟩,.error .dark)
 |(s,some ms)=>if s.lf=some 0 then(⟨s,g,X.ps⟩,.error .dark)else(⟨s.wip b,g,X.ps++[⟨y,X.s.ots k,b,ms⟩]⟩,.ok ⟨y,X.s.ots k,b,ms⟩)
noncomputable def rooms(k:Tm):Nat->Sx->Option (Sx×Except Rf Unit)
|0,X=>if X.s.rd k then some (X,.ok ())else none
|i+1,X=>if X.s.rd k then some (X,.ok ())else match X.room k with
 |(Y,.error e)=>some (Y,.error e)
 |(Y,.ok _)=>rooms k i Y
noncomputable def ask(k:Tm)(i:Nat)(X:Sx)(n v:Int):Option (Sx×Except Rf Nat):=match X.rooms k i with
|none=>none
|some (Y,.error e)=>some (Y,.error e)
|some (Y,.ok _)=>if Y.s.lf=some 0 then some (Y,.error .dark)else some (⟨Y.s.put n v,Y.g,Y.ps⟩,.ok Y.s.np)
end Sx
structure WX(k:Tm)(s:XS):Prop where
qs:QS s.q
on:OneP s.q.B s.q.P s.q.fi
lc:s.cl.length=s.q.B
cr:∀b f:Nat,b<s.q.B->s.q.fi.getD b 0<=(f:Int)->f<s.q.P->s.pg (b*s.q.P+f)=none
vl:∀y∈s.q.V,∃b f:Nat,∃v:Int×Int,b<s.q.B/\f<s.q.P/\y.2=((b*s.q.P+f:Nat):Int)/\(f:Int)<s.q.fi.getD b 0/\s.pg (b*s.q.P+f)=some v
pd:(s.q.V.map (·.2)).Nodup
c0:∀b,0<=s.cl.getD b 0/\s.cl.getD b 0<=(s.rc.length:Int)
bo:∀b,0<=s.q.bo.getD b 0/\s.q.bo.getD b 0<s.q.nx
nx:1<=s.q.nx
sl:k.ie*s.q.P<=s.rmX
l6:s.q.V.length<60
l0:∀i,s.lf=some i->0<=i
theorem q7J{P b f c:Nat}(hf:f<P)(hg:g<P)(e:b*P+f=c*P+g):b=c/\f=g:=by(
have h1:=yM (b:=b) hf
have h2:=yM (b:=c) hg
simp_all)
theorem q1I{V:Mp}{n:Int}(nd:(V.map (·.1)).Nodup):(jO V n).length<=V.length/\∀p,(n,p)∈V->(jO V n).length+1=V.length:=by(
refine⟨kY _ _,λp h=>?_⟩
induction V with
|nil=>simp_all
|cons y V J=>
 obtain⟨D,I⟩:=gD.mp nd;unfold jO;rw[mU];rcases kN.mp h with e|h
 .subst e;rw[kE (by simp),mP];have:V.filter (λq=>decide (q.1≠n))=V:=wD.mpr λz N=>hG λe=>D (kP.mpr ⟨z,N,e⟩);rw[this]
 have ne:y.1≠n:=λe=>D (kP.mpr ⟨_,h,e.symm⟩);rw[kL (hG ne),mP,mP];have:=J I h;unfold jO at this;lia)
section
variable{k:Tm}{s:XS}
theorem WX.spot(h:WX k s)(hr:0<s.rmX):s.pb<s.q.B/\s.pf<s.q.P/\s.q.fi.getD s.pb 0=(s.pf:Int)/\((jW s.q.B s.q.P (noB s.q.B) s.q.fi=some s.pb)\/(jW s.q.B s.q.P (noB s.q.B) s.q.fi=none/\s.q.fi.getD s.pb 0=0))/\∀l,FreeIs s.q.B (noB s.q.B) s.cl s.q.fi l->q1G s.q.B s.q.P (noB s.q.B) s.q.fi l=some s.pb:=by(
have D:=h.qs.ok.p1
have sp:∀l,FreeIs _ _ _ _ l->q1G _ _ _ _ l=some s.pb:=λl hl=>qLL h.on h.qs.ok.wr D hl hr
obtain⟨l,hl⟩:=FreeIs.ex _ _ _ _
have z:=sp l hl
obtain⟨b,I,J⟩:=q9G h.on h.qs.ok.wr D hl hr
rw[z]at I
obtain rfl:=mB I
obtain⟨N,_,S,O⟩:=qBI hl D z
have:(s.pf)=s.q.fi.getD s.pb 0:=by unfold XS.pf;lia
exact⟨N,by lia,this.symm,J,sp⟩)
theorem q7K{b f:Nat}{n:Int}{q:QM}(lf:q.fi.length=q.B)(hb:b<q.B)(ef:q.fi.getD b 0=(f:Int))(c:Nat):(q.put b f n).fi.getD c 0=if b=c then(f:Int)+1 else q.fi.getD c 0:=by(
show(q.fi.set b _).getD c 0=_
rw[ef,jF]
simp_all)
theorem WX.put(h:WX k s){n v:Int}(hr:k.ie*s.q.P<s.rmX)(n0:0<=n)(n1:n<=64)(hl:(∃p,(n,p)∈s.q.V)\/s.q.V.length<59)(dk:s.lf≠some 0):WX k (s.put n v)/\(s.put n v).rmX+1=s.rmX:=by(
obtain⟨Z,N,S,sp,_⟩:=h.spot (by lia)
have I:=h.qs.ok
have J:∀c,(s.put n v).q.fi.getD c 0=if s.pb=c then(s.pf:Int)+1 else s.q.fi.getD c 0:=q7K I.lf Z S
have af:(s.put n v).rmX+1=s.rmX:=qLJ Z I.lf S N
refine⟨⟨h.qs.put Z N S n0 n1,qIM h.on Z I.lf sp,h.lc,λc g O hg D=>?_,λy U=>?_,?_,λc=>?_,λc=>?_,?_,?_,?_,λi e=>?_⟩,af⟩
.have D:g<s.q.P:=D;rw[J]at hg;show(if c*s.q.P+g=s.np then some (s.q.nx*128+n,v)else s.pg (c*s.q.P+g))=none;by_cases e:s.pb=c
 .subst e;rw[kL rfl]at hg;rw[kE (by unfold XS.np;lia)];exact h.cr _ g O (by lia) D
 rw[kE e]at hg;rw[kE (λ(z:c*s.q.P+g=s.np)=>e (q7J D N z).1.symm)];exact h.cr c g O hg D
.rcases uB.mp U with e|⟨U,ak⟩
 .rw[e];refine⟨s.pb,s.pf,_,Z,N,rfl,?_,kL rfl⟩;rw[J,kL rfl];lia
 obtain⟨c,g,w,a1,a2,a3,a4,a5⟩:=h.vl y U;refine⟨c,g,w,a1,a2,a3,?_,?_⟩
 .rw[J];by_cases e:s.pb=c
  .subst e;rw[kL rfl];lia
  rw[kE e];exact a4
 show(if c*s.q.P+g=s.np then some (s.q.nx*128+n,v)else s.pg (c*s.q.P+g))=some w;rw[kE (λ(z:c*s.q.P+g=s.np)=>?_)]
 .exact a5
 obtain⟨e1,e2⟩:=q7J a2 N z;rw[e1,S]at a4;lia
.show((jO s.q.V n++[(n,((s.pb*s.q.P+s.pf:Nat):Int))]).map (·.2)).Nodup;rw[mE];refine wX.mpr ⟨?_,by simp,λa ha c O=>?_⟩
 .exact sF (bQ _ pE) h.pd
 obtain⟨y,U,rfl⟩:=kP.mp ha;have O:c=((s.pb*s.q.P+s.pf:Nat):Int):=by simpa using O
 rw[O];intro z;obtain⟨c',g,w,a1,a2,a3,a4,a5⟩:=h.vl y (jC.mp U).1;rw[a3]at z;obtain⟨e1,e2⟩:=q7J a2 N (by exact Int.ofNat.inj z);rw[e1,S]at a4;lia
.show 0<=s.cl.getD c 0/\s.cl.getD c 0<=((s.rc++[_]).length:Int);have:=h.c0 c;rw[kU,gM];lia
.show 0<=(if s.q.fi.getD s.pb 0=0 then s.q.bo.set s.pb s.q.nx else s.q.bo).getD c 0/\(if s.q.fi.getD s.pb 0=0 then s.q.bo.set s.pb s.q.nx else s.q.bo).getD c 0<s.q.nx+1;have:=h.bo c;have:=h.nx;split
 .rw[jF];split<;>lia
 lia
.show 1<=s.q.nx+1;have:=h.nx;lia
.show k.ie*s.q.P<=(s.put n v).rmX;lia
.show(jO s.q.V n++[_]).length<60;rw[kU,gM];obtain⟨d1,d2⟩:=q1I (V:=s.q.V) (n:=n) I.nd;have:=h.l6;rcases hl with⟨p,hp⟩|hl
 .have:=d2 p hp;lia
 lia
have e:s.lf.map (· - 1)=some i:=e
cases z:s.lf with
|none=>rw[z]at e;cases e
|some j=>rw[z]at e;have e:j-1=i:=mB e;have:=h.l0 j z;have:j≠0:=λy=>dk (by rw[z,y]);lia)
theorem WX.wip(h:WX k s){b:Nat}(hb:b<s.q.B)(ef:s.q.fi.getD b 0=(s.q.P:Int))(nl:∀y∈s.q.V,¬y.2 / (s.q.P:Int)=(b:Int))(dk:s.lf≠some 0):WX k (s.wip b)/\(s.wip b).rmX=s.rmX+s.q.P:=by(
have J:=h.qs.ok
have O:(s.wip b).rmX=s.rmX+s.q.P:=qIL hb J.lf ef
have I:∀c,(s.wip b).q.fi.getD c 0=if b=c then 0 else s.q.fi.getD c 0:=λc=>by
 show(s.q.fi.set b 0).getD c 0=_;rw[jF,J.lf];by_cases e:b=c
 .rw[kL ⟨e,hb⟩,kL e]
 rw[kE (λz=>e z.1),kE e]
refine⟨⟨h.qs.emptied b,qGR h.on,?_,λc g hc Z D=>?_,λy S=>?_,h.pd,λc=>?_,λc=>?_,h.nx,?_,h.l6,λi e=>?_⟩,O⟩
.show(s.cl.set _ _).length=_;rw[gK];exact h.lc
.show(if(c*s.q.P+g) / s.q.P=b then none else s.pg (c*s.q.P+g))=none;have D:g<s.q.P:=D;rw[yM D];by_cases e:c=b
 .rw[kL e]
 rw[kE e];rw[I,kE (λz=>e z.symm)]at Z;exact h.cr c g hc Z D
.obtain⟨c,g,w,a1,N,U,a4,a5⟩:=h.vl y S;have cb:c≠b:=λz=>nl _ S (by rw[U,<-dX,yM N,z]);refine⟨c,g,w,a1,N,U,?_,?_⟩
 .rw[I,kE (λz=>cb z.symm)];exact a4
 show(if(c*s.q.P+g) / s.q.P=b then none else s.pg (c*s.q.P+g))=_;rw[yM N,kE cb];exact a5
.show 0<=(s.cl.set b (s.cl.getD b 0+1)).getD c 0/\(s.cl.set b (s.cl.getD b 0+1)).getD c 0<=((s.rc++[_]).length:Int);have h1:=h.c0 c;have h2:=h.c0 b;rw[kU,gM,jF];split<;>lia
.show 0<=(s.q.bo.set b 0).getD c 0/\(s.q.bo.set b 0).getD c 0<s.q.nx;have h1:=h.bo c;have h2:=h.nx;rw[jF];split<;>lia
.show k.ie*s.q.P<=(s.wip b).rmX;have:=h.sl;lia
have e:s.lf.map (· - 1)=some i:=e
cases z:s.lf with
|none=>rw[z]at e;cases e
|some j=>rw[z]at e;have e:j-1=i:=mB e;have:=h.l0 j z;have:j≠0:=λy=>dk (by rw[z,y]);lia)
theorem WX.forg(h:WX k s)(n:Int):WX k (s.forg n):=by(
refine⟨h.qs.forget n,h.on,h.lc,h.cr,λy z=>h.vl y (jC.mp z).1,?_,h.c0,h.bo,h.nx,h.sl,?_,h.l0⟩
.exact sF (bQ _ pE) h.pd
have:=(q1I  (n:=n) h.qs.ok.nd).1
have:=h.l6
show(jO _ n).length<60
lia)
end
theorem qA1{V:Mp}{n p:Int}(nd:(V.map (·.1)).Nodup)(h:(n,p)∈V)(h':(n,p')∈V):p=p':=by(
induction V with
|nil=>simp_all
|cons y V J=>
 obtain⟨D,I⟩:=gD.mp nd;rcases kN.mp h with e|h<;>rcases kN.mp h' with z|h'
 .rw[<-e]at z;injection z with _ z
  exact z.symm
 .exact(D (kP.mpr ⟨_,h',by rw[<-e]⟩)).elim
 .exact(D (kP.mpr ⟨_,h,by rw[<-z]⟩)).elim
 exact J I h h')
theorem q7L{P b:Nat}{V:Mp}:(lvP P b V).Nodup:=qCP.imp λz=>z.2
theorem q53{b:Nat}(h:QS q)(pd:(q.V.map (·.2)).Nodup)(hb:b<q.B):((lvP q.P b q.V).length:Int)=q.lv.getD b 0:=by(
rw[h.lv b hb]
have I:=h.ok.nd
have:(lvP q.P b q.V).Perm _:=zQ q7L (dO.mpr (((dO.mp I).imp fun {a c} hne z=>hne (by
 injection z with _ z
 injection z with z _)).filter _)) λk=>by
 rw[q3R h.ok.p1 pd,kP];constructor
 .rintro⟨y,h1,h2,rfl⟩
  exact⟨y,mQ.mpr ⟨h1,hG h2⟩,rfl⟩
 rintro⟨y,hy,rfl⟩
 obtain⟨J,D⟩:=mQ.mp hy;exact⟨y,J,mI D,rfl⟩
rw[this.length_eq,hU]
unfold cntB
rw[cQ])
structure MvI(k:Tm)(s0:XS)(b:Nat)(rs:List (List Int))(i:Nat)(s:XS)(ms:List (List Int)):Prop where
w:WX k s
e:XS.mvs rs s0=(match XS.mvs (rs.drop i) s with|(s',none)=>(s',none)|(s',some m)=>(s',some (ms++m)))
l:ms.length=i
rc:s.rc.length=s0.rc.length+i
rm:s.rmX+i=s0.rmX
eB:s.q.B=s0.q.B
eP:s.q.P=s0.q.P
ec:s.cl=s0.cl
fb:s.q.fi.getD b 0=(s0.q.P:Int)
fm:∀c,s0.q.fi.getD c 0<=s.q.fi.getD c 0/\(s0.q.fi.getD c 0=(s0.q.P:Int)->s.q.fi.getD c 0=(s0.q.P:Int))
nm:∀n,(∃p,(n,p)∈s.q.V)↔∃p,(n,p)∈s0.q.V
dr:∀kk∈rs.drop i,∃n p,kk=[p,n]/\(n,p)∈s.q.V/\p / (s0.q.P:Int)=(b:Int)
dl:∀y∈s.q.V,y.2 / (s0.q.P:Int)=(b:Int)->[y.2,y.1]∈rs.drop i
lV:s.q.V.length=s0.q.V.length
section
variable{k:Tm}{s0 s:XS}{b i:Nat}{ms:List (List Int)}
theorem MvI.zero(w:WX k s0)(fb:s0.q.fi.getD b 0=(s0.q.P:Int)):MvI k s0 b (lvP s0.q.P b s0.q.V) 0 s0 []:=by(
refine⟨w,?_,rfl,rfl,rfl,rfl,rfl,rfl,fb,λc=>⟨gU _,λz=>z⟩,λn=>eO,λkk J=>?_,λy D I=>(q3R w.qs.ok.p1 w.pd).mpr ⟨y,D,I,rfl⟩,rfl⟩
.rw[List.drop_zero];cases XS.mvs _ s0 with
 |mk s' o=>cases o<;>rfl
obtain⟨y,D,I,rfl⟩:=(q3R w.qs.ok.p1 w.pd).mp J
exact⟨y.1,y.2,rfl,D,I⟩)
variable{rs:List (List Int)}
theorem MvI.at(h:MvI k s0 b rs i s ms)(hi:i<rs.length):∃n p,rs[i]=[p,n]/\(n,p)∈s.q.V/\0<=n/\n<=64:=by obtain⟨n,p,D,z,_⟩:=h.dr _ (by rw[wS hi];exact kX);have:=h.w.qs.ok.nm _ z;exact⟨n,p,D,z,this.1,this.2⟩
theorem MvI.dark(h:MvI k s0 b rs i s ms)(hi:i<rs.length)(dk:s.lf=some 0):XS.mvs rs s0=(s,none):=by rw[h.e,wS hi];unfold XS.mvs;rw[kL dk]
theorem MvI.fin(h:MvI k s0 b rs i s ms)(hi:i=rs.length):XS.mvs rs s0=(s,some ms)/\∀y∈s.q.V,¬y.2 / (s.q.P:Int)=(b:Int):=by(
subst hi
refine⟨?_,λy D z=>?_⟩
.rw[h.e,bR];show(s,some _)=_;rw[gN]
have:=h.dl y D (by rw[<-h.eP];exact z)
grind)
theorem MvI.step(h:MvI k s0 b rs i s ms)(nd:rs.Nodup)(hi:i<rs.length)(hr:k.ie*s0.q.P+rs.length<=s0.rmX)(dk:s.lf≠some 0){n p:Int}(er:rs[i]=[p,n]):
 MvI k s0 b rs (i+1) (s.put n (s.val p n)) (ms++[[n,p,(s.np:Int)]]):=by(
have I:rs.drop i=[p,n]::rs.drop (i+1):=by rw[wS hi,er]
obtain⟨n',p',e0,D,an⟩:=h.dr [p,n] (by rw[I];simp)
obtain⟨rfl,rfl⟩:p=p'/\n=n':=by
 injection e0 with e1 e0
 injection e0 with e2 _
 exact⟨e1,e2⟩
have nb:=h.w.qs.ok.nm _ D
have as:=h.rm
have Z:=h.eP
have ac:k.ie*s.q.P<s.rmX:=by rw[Z];lia
obtain⟨w',am⟩:=h.w.put (n:=n) (v:=s.val p n) ac nb.1 nb.2 (.inl ⟨p,D⟩) dk
obtain⟨hb,hf,ef,_,_⟩:=h.w.spot (by lia)
have U:∀c,(s.put n (s.val p n)).q.fi.getD c 0=if s.pb=c then(s.pf:Int)+1 else s.q.fi.getD c 0:=q7K h.w.qs.ok.lf hb ef
have cb:s.pb≠b:=λz=>by rw[z,h.fb,<-Z]at ef;lia
have O:((s.np:Nat):Int) / (s0.q.P:Int)=(s.pb:Int):=by rw[<-Z];unfold XS.np;rw[<-dX,yM hf]
refine⟨w',?_,?_,?_,by lia,h.eB,h.eP,h.ec,?_,λc=>?_,λm=>?_,λkq S=>?_,λy hy J=>?_,?_⟩
.rw[h.e,I];rw[XS.mvs,kE dk];show(match(match XS.mvs (rs.drop (i+1)) (s.put n (s.val p n))with|(s',none)=>(s',none)|(s',some m)=>(s',some ([n,p,(s.np:Int)]::m)))with|(s',none)=>(s',none)|(s',some m)=>(s',some (ms++m)))=_;cases XS.mvs (rs.drop (i+1)) (s.put n (s.val p n))with
 |mk s' o=>
  cases o with
  |none=>rfl
  |some m=>show(s',some (ms++([n,p,(s.np:Int)]::m)))=(s',some ((ms++[[n,p,(s.np:Int)]])++m));rw[wW];rfl
.rw[kU,h.l];rfl
.show(s.rc++[_]).length=_;rw[kU,h.rc];rfl
.rw[U,kE cb];exact h.fb
.obtain⟨m1,m2⟩:=h.fm c;rw[U];by_cases e:s.pb=c
 .subst e;rw[kL rfl];refine⟨by lia,λz=>?_⟩;have:=m2 z;rw[ef,<-Z]at this;lia
 rw[kE e];exact⟨m1,m2⟩
.rw[<-h.nm m];constructor
 .rintro⟨p1,h1⟩
  rcases uB.mp h1 with e|⟨h1,_⟩
  .cases e;exact⟨p,D⟩
  exact⟨p1,h1⟩
 rintro⟨p1,h1⟩
 by_cases e:m=n
 .exact⟨_,uB.mpr (.inl (by rw[e]))⟩
 exact⟨p1,uB.mpr (.inr ⟨h1,e⟩)⟩
.have N:kq∈rs.drop i:=by rw[I];exact kB _ S
 obtain⟨n',p',rfl,h',ad⟩:=h.dr kq N;refine⟨n',p',rfl,uB.mpr (.inr ⟨h',λe=>?_⟩),ad⟩;have e:n'=n:=e;subst e;have:=qA1 h.w.qs.ok.nd h' D;subst this;have nn:=nd;rw[<-xM i rs,I]at nn;have:=(wX.mp nn).2.1;exact(gD.mp this).1 S
.rcases uB.mp hy with e|⟨hy,ag⟩
 .rw[e]at J;have J:((s.np:Nat):Int) / (s0.q.P:Int)=(b:Int):=J;rw[O]at J;exact(cb (by lia)).elim
 have:=h.dl y hy J;rw[I]at this;rcases kN.mp this with e|e
 .injection e with _ e
  injection e with e _
  exact(ag e).elim
 exact e
show(jO s.q.V n++[_]).length=_
rw[kU,gM,(q1I (V:=s.q.V) (n:=n) h.w.qs.ok.nd).2 p D]
exact h.lV)
structure Mvd(k:Tm)(s0:XS)(b:Nat)(s:XS)(n:Nat):Prop where
w:WX k s
rc:s.rc.length=s0.rc.length+n
rm:s.rmX+n=s0.rmX
eB:s.q.B=s0.q.B
eP:s.q.P=s0.q.P
ec:s.cl=s0.cl
fb:s.q.fi.getD b 0=(s0.q.P:Int)
fm:∀c,s0.q.fi.getD c 0<=s.q.fi.getD c 0/\(s0.q.fi.getD c 0=(s0.q.P:Int)->s.q.fi.getD c 0=(s0.q.P:Int))
nm:∀n,(∃p,(n,p)∈s.q.V)↔∃p,(n,p)∈s0.q.V
lV:s.q.V.length=s0.q.V.length
lb:b<s0.q.B->s.q.lv.getD b 0+n=(lvP s0.q.P b s0.q.V).length
theorem MvI.mvd(h:MvI k s0 b (lvP s0.q.P b s0.q.V) i s ms)(hi:i<=(lvP s0.q.P b s0.q.V).length):Mvd k s0 b s i:=by(
refine⟨h.w,h.rc,h.rm,h.eB,h.eP,h.ec,h.fb,h.fm,h.nm,h.lV,λD=>?_⟩
rw[<-q53 h.w.qs h.w.pd (by rw[h.eB];exact D)]
have:=zQ q7L (sF (List.drop_sublist _ _) q7L) λk=>by
 rw[q3R h.w.qs.ok.p1 h.w.pd,h.eP];constructor
 .rintro⟨y,h1,h2,rfl⟩
  exact h.dl y h1 h2
 intro z;obtain⟨n,p,rfl,h1,h2⟩:=h.dr k z;exact⟨_,h1,h2,rfl⟩
rw[this.length_eq,List.length_drop]
lia)
end
section
variable{k:Tm}{s:XS}{l:List Nat}{m:CM}
theorem qLM(h:WX k s)(hl:FreeIs s.q.B (noB s.q.B) s.cl s.q.fi l):spcN (k.ie:Int) l s.q.P s.q.fi (jW s.q.B s.q.P (noB s.q.B) s.q.fi)=s.spc k:=by(
have J:=h.qs.ok.p1
have I:=h.sl
unfold spcN XS.spc
unfold XS.rmX at I ⊢
rcases q2P h.on h.qs.ok.wr J hl with⟨h1,h2⟩|⟨b,e,h1,e1,e2,h2,e3⟩
.rw[h2]at I;rw[h1,h2];by_cases z:1+k.ie<=l.length
 .rw[kL (by lia),kL (gH _ z)]
 have D:l.length=k.ie:=by
  have:¬l.length<k.ie:=λy=>by have:=gH s.q.P (show l.length+1<=k.ie by lia);rw[wJ,wK]at this;lia
  lia
 rw[kE (by lia),kE (by rw[D,wJ,wK];lia),D];show(0:Int)=_;lia
rw[h2]at I
rw[h1,h2]
by_cases z:1+k.ie<=l.length
.have:=gH s.q.P z;rw[kL (by lia),kL (by lia)]
have D:l.length=k.ie:=by
 have:¬l.length<k.ie:=λy=>by have:=gH s.q.P (show l.length+1<=k.ie by lia);rw[wJ,wK]at this;lia
 lia
rw[kE (by lia),kE (by rw[D,wJ,wK];lia),D]
show(s.q.P:Int)-s.q.fi.getD b 0=_
lia)
theorem qCQ(h:WX k s)(hl:FreeIs s.q.B (noB s.q.B) s.cl s.q.fi l):((yK s.q.B s.q.P (noB s.q.B) s.q.fi).filter λb=>decide (s.q.lv.getD b 0<=spcN (k.ie:Int) l s.q.P s.q.fi (jW s.q.B s.q.P (noB s.q.B) s.q.fi)))=s.ful k:=by(
unfold yK XS.ful
rw[yJ,qLM h hl,nY]
refine r6 λb z=>?_
rw[fQ])
theorem qGW(h:WX k s)(br:m.br=noB s.q.B)(hl:FreeIs s.q.B (noB s.q.B) s.cl s.q.fi l):optN (k.ie:Int) m s.q l=s.ded k:=by unfold optN XS.ded;rw[br,qCQ h hl]
theorem qGX(e:m.cl=s.cl):tlOf m s.q=s.tl:=by unfold tlOf XS.tl;rw[e]
theorem qLN(h:WX k s)(hl:FreeIs s.q.B (noB s.q.B) s.cl s.q.fi l):rdy (k.ie:Int) l (jW s.q.B s.q.P (noB s.q.B) s.q.fi)=s.rd k:=qIJ h.on h.qs.ok.wr h.qs.ok.p1 hl
structure Full(k:Tm)(s:XS)(c:Nat):Prop where
b:c<s.q.B
f:s.q.fi.getD c 0=(s.q.P:Int)
l:s.q.lv.getD c 0<=s.spc k
theorem q54{b:Nat}:b∈s.ful k↔Full k s b:=by unfold XS.ful;rw[mQ,mV,gE,mG,mG];exact⟨λ⟨a,b,c⟩=>⟨a,b,c⟩,λh=>⟨h.b,h.f,h.l⟩⟩
theorem q3S{b:Nat}:b∈s.ded k↔Full k s b/\s.q.lv.getD b 0<(s.q.P:Int):=by unfold XS.ded;rw[mQ,q54,mG]
theorem uN{b:Nat}:b∈s.opt k↔(Full k s b/\s.q.lv.getD b 0<(s.q.P:Int))/\(k.ev=true->s.cl.getD b 0<s.lst+k.sp):=by(
unfold XS.opt XS.clb
cases k.ev with
|false=>rw[kE (by decide),q3S];exact⟨λh=>⟨h,λz=>by lia⟩,λh=>h.1⟩
|true=>rw[kL rfl,mQ,q3S,mG];exact⟨λh=>⟨h.1,λU=>h.2⟩,λh=>⟨h.1,h.2 rfl⟩⟩)
theorem Full.sp(h:WX k s){b:Nat}(f:Full k s b):k.ie*s.q.P+(lvP s.q.P b s.q.V).length<=s.rmX:=by(
have e:=q53 h.qs h.pd f.b
have l:=f.l
have z:(lvP s.q.P b s.q.V).length<=s.q.P:=by refine kQ (d6 _ _) ?_;rw[mM];exact kO _
unfold XS.spc at l
split at l
.lia
lia)
theorem qIR{L:List Nat}:∀a∈L.map s.tl,∀c∈L.map s.tl,a.b=c.b->a=c:=λa ha c hc e=>by(
obtain⟨x,_,rfl⟩:=kP.mp ha
obtain⟨y,_,rfl⟩:=kP.mp hc
have e:(x:Int)=(y):=e
rw[show x=y by lia])
theorem qGY(h:WX k s){b:Nat}(hb:b<s.q.B):0<=s.q.lv.getD b 0/\s.q.lv.getD b 0<=(s.q.P:Int):=by
 have e:=q53 h.qs h.pd hb;have z:(lvP s.q.P b s.q.V).length<=s.q.P:=by refine kQ (d6 _ _) ?_;rw[mM];exact kO _
 lia
theorem qJV(h:WX k s)(rc:s.rc.length<1000000){b:Nat}(hb:b<s.q.B):(s.tl b).Ok (s.q.P:Int) s.q.nx:=by(
have z:=h.qs.ok.b2
have c:=h.c0 b
have d:=h.bo b
have e:=qGY h hb
refine⟨?_,?_,e.1,e.2,c.1,?_,d.1,d.2⟩
.show(0)<=(b:Int);lia
.show(b:Int)<16;lia
show s.cl.getD b 0<10 ^ 30
lia)
theorem qLO(h:WX k s):(s.opt k).length<=16:=by(
have z:=h.qs.ok.b2
have:(s.ded k).length<=16:=by refine kQ (kY _ _) (kQ (kY _ _) ?_);rw[mM];exact z
unfold XS.opt XS.clb
split
.exact kQ (kY _ _) this
simp_all)
end
structure Kp(s s':XS):Prop where
eB:s'.q.B=s.q.B
eP:s'.q.P=s.q.P
nm:∀n,(∃p,(n,p)∈s'.q.V)↔∃p,(n,p)∈s.q.V
lV:s'.q.V.length=s.q.V.length
theorem Kp.refl{s:XS}:Kp s s:=⟨rfl,rfl,λz=>eO,rfl⟩
theorem Kp.trans{a b c:XS}(h:Kp a b)(g:Kp b c):Kp a c:=⟨g.eB.trans h.eB,g.eP.trans h.eP,λn=>(g.nm n).trans (h.nm n),g.lV.trans h.lV⟩
section
variable{k:Tm}{s:XS}{b:Nat}
theorem q7M{P b:Nat}{V:Mp}:(lvP P b V).length<=P:=by(
refine kQ (d6 _ _) ?_
rw[mM]
exact kO _)
theorem q6M(R:XS->List (List Int)->Prop)(w:WX k s)(f:Full k s b)(r0:R s [])(rs:∀s' ms n p,WX k s'->Kp s s'->s'.cl=s.cl->s'.q.fi.getD b 0=(s.q.P:Int)->(n,p)∈s'.q.V->p / (s.q.P:Int)=(b:Int)->k.ie*s'.q.P<s'.rmX->s'.lf≠some 0->R s' ms->R (s'.put n (s'.val p n)) (ms++[[n,p,(s'.np:Int)]])):∃s' n ms,Mvd k s b s' n/\ms.length=n/\R s' ms/\((XS.mvs (lvP s.q.P b s.q.V) s=(s',none)/\n<(lvP s.q.P b s.q.V).length/\s'.lf=some 0)\/(XS.mvs (lvP s.q.P b s.q.V) s=(s',some ms)/\n=(lvP s.q.P b s.q.V).length/\∀y∈s'.q.V,¬y.2 / (s'.q.P:Int)=(b:Int))):=by(
have sp:=f.sp w
have N:∀d i,i+d=(lvP s.q.P b s.q.V).length->∀s' ms,MvI k s b (lvP s.q.P b s.q.V) i s' ms->R s' ms->∃s' n ms,Mvd k s b s' n/\ms.length=n/\R s' ms/\((XS.mvs (lvP s.q.P b s.q.V) s=(s',none)/\n<(lvP s.q.P b s.q.V).length/\s'.lf=some 0)\/(XS.mvs (lvP s.q.P b s.q.V) s=(s',some ms)/\n=(lvP s.q.P b s.q.V).length/\∀y∈s'.q.V,¬y.2 / (s'.q.P:Int)=(b:Int))):=by
 intro d;induction d with
 |zero=>intro i Z s' ms z I;obtain⟨e,nl⟩:=z.fin (by lia);exact⟨s',i,ms,z.mvd (by lia),z.l,I,.inr ⟨e,by lia,nl⟩⟩
 |succ d ih=>
  intro i Z s' ms z I;have D:i<(lvP s.q.P b s.q.V).length:=by lia
  by_cases J:s'.lf=some 0
  .exact⟨s',i,ms,z.mvd (by lia),z.l,I,.inl ⟨z.dark D J,D,J⟩⟩
  obtain⟨n,p,U,S,_⟩:=z.at D;have ab:=z.rm;obtain⟨n',p',e0,_,O⟩:=z.dr [p,n] (by rw[wS D,U];exact kX);have e1:p=p':=by injection e0
  refine ih (i+1) (by lia) _ _ (z.step q7L D sp J U) (rs s' ms n p z.w ⟨z.eB,z.eP,z.nm,z.lV⟩ z.ec z.fb S (by rw[e1];exact O) (by rw[z.eP];lia) J I)
exact N _ 0 (nK _) s [] (MvI.zero w f.f) r0)
end
theorem qGZ{g:Rl}(ok:g.Ok)(h:ts≠[]):(g.ch pg nw ts).1∈ts.map Tl.b:=by(
cases g with
|rk f=>obtain⟨A,z,e,_⟩:=qGU  h;show pk _ ts∈_;rw[e];exact kP.mpr ⟨A,z,rfl⟩
|win m=>obtain⟨A,z,e,_⟩:=qGU  (qIP ok h);show pk _ _∈_;rw[e];exact kP.mpr ⟨A,qIO A z,rfl⟩
|fol D u=>
 have I:(ts.map Tl.b).headD 0∈ts.map Tl.b:=by
  cases ts with
  |nil=>exact absurd rfl h
  |cons a r=>simp
 show fo D u ts∈_;unfold fo;split
 .split
  .assumption
  exact I
 exact I)
theorem qMV{g:Rl}(ok:g.Ok):(g.ch pg nw ts).2.Ok:=by(
cases g with
|rk f=>trivial
|win m=>exact ok
|fol z u=>trivial)
section
variable{k:Tm}{s:XS}{g g':Rl}{y:Str}{b:Nat}
set_option tactic.hygienic true in
theorem v6(ok:g.Ok)(h:s.tk k g=some (y,b,g')):(y=Str.ofString "rule"/\b∈s.opt k/\(b:Int)=(g.ch (s.q.P:Int) s.q.nx (s.ots k)).1/\g'=(g.ch (s.q.P:Int) s.q.nx (s.ots k)).2)\/(y=Str.ofString "even"/\k.ev=true/\s.opt k=[]/\g'=g/\s.chg k=some b/\b∈s.clb k (s.ful k)/\∀c∈s.clb k (s.ful k),s.cl.getD b 0<=s.cl.getD c 0):=by(
unfold XS.tk at h
split at h
.rename_i S;split at h
 .rename_i ev;cases z:s.chg k with
  |none=>simp_all
  |some c=>
   rw[z]at h;cases h;have Z:(s.clb k (s.ful k)).Pairwise (· < ·):=by exact dQ _ (dQ _ rE)
   obtain⟨N,O⟩:=(zR  Z).2 b z;refine .inr ⟨rfl,ev,S,rfl,rfl,N,λc D=>?_⟩;have:=O c D;unfold keyN lx at this;lia
 cases h
rename_i ne
have I:s.ots k≠[]:=λz=>ne (pG.mp z)
have cm:=qGZ (pg:=(s.q.P:Int)) (nw:=s.q.nx) ok I
injection h with h
injection h with h1 h
injection h with h h2
obtain⟨c,D,e⟩:=kP.mp cm
obtain⟨U,J,rfl⟩:=kP.mp D
have e:(U:Int)=(g.ch _ s.q.nx _).1:=e
rw[<-e,mC]at h
subst h
exact .inl ⟨h1.symm,J,e,h2.symm⟩)
theorem q3T(ok:g.Ok)(h:s.tk k g=some (y,b,g')):Full k s b:=by(
rcases v6 ok h with⟨_,h1,_⟩|⟨_,_,_,_,_,h1,_⟩
.exact(uN.mp h1).1.1
exact q54.mp (mQ.mp h1).1)
theorem qH0(ok:g.Ok)(h:s.tk k g=some (y,b,g')):g'.Ok:=by(
rcases v6 ok h with⟨_,_,_,e⟩|⟨_,_,_,e,_⟩
.rw[e];exact qMV ok
rw[e];exact ok)
end
section
variable{k:Tm}{X Y:Sx}
inductive RoomR(k:Tm)(X:Sx):Sx×Except Rf Pa->Prop
|no:X.s.tk k X.g=none->RoomR k X (X,.error .room)
|dark {y b g' s' n}:X.s.tk k X.g=some (y,b,g')->Mvd k X.s b s' n->n<=(lvP X.s.q.P b X.s.q.V).length->s'.lf=some 0->RoomR k X (⟨s',g',X.ps⟩,.error .dark)
|ok {y b g' s' ms}:X.s.tk k X.g=some (y,b,g')->XS.mvs (lvP X.s.q.P b X.s.q.V) X.s=(s',some ms)->Mvd k X.s b s' (lvP X.s.q.P b X.s.q.V).length->ms.length=(lvP X.s.q.P b X.s.q.V).length->s'.lf≠some 0->WX k (s'.wip b)->(s'.wip b).rmX=s'.rmX+X.s.q.P->RoomR k X (⟨s'.wip b,g',X.ps++[⟨y,X.s.ots k,b,ms⟩]⟩,.ok ⟨y,X.s.ots k,b,ms⟩)
theorem q55(w:WX k X.s)(ok:X.g.Ok):RoomR k X (X.room k):=by(
unfold Sx.room
cases htk:X.s.tk k X.g with
|none=>exact .no htk
|some U=>
 have f:=q3T ok htk;obtain⟨s',n,ms,z,O,_,h|h⟩:=q6M (λZ Z=>True) w f trivial (λZ Z Z Z Z Z Z Z Z Z Z Z Z=>trivial)
 .obtain⟨e,J,D⟩:=h;dsimp only;rw[e];exact .dark htk z (by lia) D
 obtain⟨e,J,S⟩:=h;dsimp only;rw[e];dsimp only;subst J;by_cases D:s'.lf=some 0
 .rw[kL D];exact .dark htk z (kO _) D
 rw[kE D];obtain⟨N,I⟩:=z.w.wip  (by rw[z.eB];exact f.b) (by rw[z.eP];exact z.fb) S D;exact .ok htk e z O D N (by rw[I,z.eP]))
theorem qBM{p:Pa}(w:WX k X.s)(ok:X.g.Ok)(h:X.room k=(Y,.ok p)):Y.s.rc.length<=X.s.rc.length+17/\Y.ps.length=X.ps.length+1:=by(
have r:=q55 w ok
rw[h]at r
have z:∀b,(lvP _ b X.s.q.V).length<=X.s.q.P:=λb=>q7M
have D:=w.qs.ok.p2
cases r with
|@ok y b g' s' ms htk e md lm dk w' rm'=>have:=z b;refine⟨?_,kU⟩;show(_++[_]).length<=_;rw[kU,md.rc,gM];lia)
theorem Mvd.kp{s:XS}{b n:Nat}(h:Mvd k s b s' n):Kp s s':=⟨h.eB,h.eP,h.nm,h.lV⟩
theorem q6N{r:Except Rf Pa}(w:WX k X.s)(ok:X.g.Ok)(h:X.room k=(Y,r)):WX k Y.s/\Y.g.Ok/\Kp X.s Y.s/\Y.s.rc.length<=X.s.rc.length+17/\Y.ps.length<=X.ps.length+1:=by(
have I:=q55 w ok
rw[h]at I
have D:∀b,(lvP _ b X.s.q.V).length<=X.s.q.P:=λb=>q7M
have J:=w.qs.ok.p2
cases I with
|no z=>exact⟨w,ok,Kp.refl,by lia,by lia⟩
|@dark y b g' s' n z md hn dk=>have:=D b;refine⟨md.w,qH0 ok z,md.kp,?_,rB _⟩;rw[md.rc];lia
|@ok y b g' s' ms z e md lm dk w' rm'=>
 have:=D b;refine⟨w',qH0 ok z,md.kp.trans ⟨rfl,rfl,λU=>eO,rfl⟩,?_,?_⟩
 .show(_++[_]).length<=_;rw[kU,md.rc,gM];lia
 rw[kU];exact kO _)
set_option tactic.hygienic true in
theorem q1J:∀{i:Nat} {X Y:Sx} {r:Except Rf Unit},WX k X.s->X.g.Ok->X.rooms k i=some (Y,r)->WX k Y.s/\Y.g.Ok/\Kp X.s Y.s/\Y.s.rc.length<=X.s.rc.length+17*i/\Y.ps.length<=X.ps.length+i/\(r=.ok ()->Y.s.rd k=true)
|0,X,Y,r,w,ok,h=>by
 unfold Sx.rooms at h;split at h
 .rename_i z;cases h;exact⟨w,ok,Kp.refl,kO _,kO _,λU=>z⟩
 cases h
|i+1,X,Y,r,w,ok,h=>by
 unfold Sx.rooms at h;split at h
 .rename_i z;cases h;exact⟨w,ok,Kp.refl,lM _ _,lM _ _,λU=>z⟩
 cases e:X.room k with
 |mk W o=>
  rw[e]at h;obtain⟨a1,a2,a3,a4,a5⟩:=q6N w ok e;cases o with
  |error x=>cases h;exact⟨a1,a2,a3,by lia,by lia,λz=>by cases z⟩
  |ok p=>obtain⟨b1,b2,b3,b4,b5,b6⟩:=q1J a1 a2 h;exact⟨b1,b2,a3.trans b3,by lia,by lia,b6⟩
noncomputable def gvn(ns ss:List Int):List Int:=ns.filter λn=>decide (n∈ss)
noncomputable def rst(ns g:List Int):List Int:=ns.filter λn=>!decide (n∈g)
noncomputable def XS.forgs(s:XS)(g:List Int):XS:=g.foldl XS.forg s
theorem qCR{s:XS}{g:List Int}{i:Nat}{n:Int}(h:g[i]?=some n):s.forgs (g.take (i+1))=(s.forgs (g.take i)).forg n:=by(
have z:=(kC.mp h).1
obtain rfl:g[i]=n:=(kC.mp h).2
unfold XS.forgs
rw[<-kW z,cX]
rfl)
end
def Hv(s:XS)(n v:Int):Prop:=∃p mk,(n,p)∈s.q.V/\s.pg p.toNat=some (mk,v)
noncomputable def putR(m:List Int):Str×Int×Bool:=(Str.ofString "put",m.getD 2 0,true)
section
variable{k:Tm}{s s':XS}{n m v u:Int}{b:Nat}
theorem Hv.put(w:WX k s)(hr:0<s.rmX)(ne:m≠n)(h:Hv s m u):Hv (s.put n v) m u:=by(
obtain⟨p,N,I,e⟩:=h
obtain⟨c,g,x,a1,J,D,U,a5⟩:=w.vl _ I
obtain⟨hb,O,Z,_⟩:=w.spot hr
have D:p=_:=D
refine⟨p,N,uB.mpr (.inr ⟨I,ne⟩),?_⟩
show(if p.toNat=s.np then _ else s.pg _)=_
rw[kE]
.exact e
rw[D]
intro z
obtain⟨S,e2⟩:=q7J J O z
simp_all)
theorem Hv.new:Hv (s.put n v) n v:=⟨(s.np),_,uB.mpr (.inl rfl),by
 show(if((s.np):Int).toNat=s.np then _ else _)=_;rw[mC,kL rfl]⟩
theorem Hv.wip(w:WX k s)(nl:∀y∈s.q.V,¬y.2 / (s.q.P:Int)=(b:Int))(h:Hv s m u):Hv (s.wip b) m u:=by(
obtain⟨p,N,I,e⟩:=h
obtain⟨c,g,x,O,J,D,S,U⟩:=w.vl _ I
have D:p=_:=D
refine⟨p,N,I,?_⟩
show(if p.toNat / s.q.P=b then none else s.pg _)=_
rw[kE]
.exact e
have:=nl _ I
rw[D,mC,yM J]
rw[D,<-dX,yM J]at this
intro z
exact this (by rw[z]))
theorem Hv.forg(ne:m≠n)(h:Hv s m u):Hv (s.forg n) m u:=by obtain⟨p,z,D,e⟩:=h;exact⟨p,z,jC.mpr ⟨D,ne⟩,e⟩
theorem Hv.val(w:WX k s){p:Int}(hp:(n,p)∈s.q.V)(n6:n≠64)(h:Hv s n u):s.val p n=u:=by(
obtain⟨I,D,z,e⟩:=h
rw[qA1 w.qs.ok.nd hp z]
unfold XS.val
rw[kE n6,e]
rfl)
theorem qA2(w:WX k s){c:Nat}(hc:c<s.q.B):s.lst<=s.cl.getD c 0:=by(
have D:c<s.cl.length:=by rw[w.lc];exact hc
obtain⟨m,e,h1,h2⟩:=q7I (l:=s.cl) (λz=>by simp_all)
unfold XS.lst
rw[e,kJ,kF D]
exact h2 _ (gG _))
theorem qH1(w:WX k s)(hb:0<s.q.B):∃c,c<s.q.B/\s.cl.getD c 0=s.lst:=by(
have D:0<s.cl.length:=by rw[w.lc];exact hb
obtain⟨m,e,h1,h2⟩:=q7I (l:=s.cl) (λz=>by simp_all)
obtain⟨c,I,J⟩:=wC h1
refine⟨c,by rw[<-w.lc];exact I,?_⟩
unfold XS.lst
simp_all)
theorem qH2(w:WX k s)(hr:0<s.rmX)(z:s.q.fi.getD s.pb 0=0){c:Nat}(hc:c<s.q.B)(fc:s.q.fi.getD c 0=0):s.cl.getD s.pb 0<=s.cl.getD c 0:=by(
have e:s.pb=spF s.q s.cl:=rfl
unfold spF at e
cases q:(List.range _).find? (jX s.q.P _)with
|some d=>rw[q]at e;have h2:=d8 q;unfold jX at h2;simp_all
|none=>
 rw[q]at e;have I:((List.range s.q.B).filter λb=>decide (s.q.fi.getD b 0=0)).Pairwise _:=dQ _ rE;have D:c∈(List.range s.q.B).filter λb=>decide (s.q.fi.getD b 0=0):=mQ.mpr ⟨mV.mpr hc,hG fc⟩;obtain⟨h1,h2⟩:=zR  I;cases y:minF s.cl ((List.range _).filter _)with
 |none=>rw[h1 y]at D;cases D
 |some d=>
  rw[y]at e;have e:s.pb=d:=e;have:=(h2 d y).2 c D;rw[e];unfold keyN lx at this;by_cases x:s.cl.getD c 0=s.cl.getD d 0
  .lia
  rw[kE x]at this;lia)
structure Ix(k:Tm)(s:XS):Prop where
w:WX k s
sh:s.q.V.length<(s.q.B-(1+k.ie))*s.q.P
s1:1<=k.sp
gp:k.ev=true->∀b c,b<s.q.B->c<s.q.B->s.cl.getD b 0<=s.cl.getD c 0+k.sp
e2:k.ev=true->∀d c,d<s.q.B->c<s.q.B->s.q.fi.getD d 0≠0->s.q.fi.getD c 0=0->s.cl.getD d 0<s.cl.getD c 0+k.sp
def Wt(k:Tm)(s:XS):Prop:=s.rmX<(1+k.ie)*s.q.P->∃b,b<s.q.B/\s.q.fi.getD b 0=(s.q.P:Int)/\s.q.lv.getD b 0<(s.q.P:Int)/\s.q.lv.getD b 0+((1+k.ie)*s.q.P:Nat)<=(s.rmX:Int)+(s.q.P:Int)/\(k.ev=true->s.cl.getD b 0<s.lst+k.sp)
theorem Ix.put(x:Ix k s)(hr:k.ie*s.q.P<s.rmX)(w':WX k (s.put n v))(hs:(s.put n v).q.V.length<(s.q.B-(1+k.ie))*s.q.P):Ix k (s.put n v):=by(
obtain⟨hb,hf,Z,_⟩:=x.w.spot (by lia)
have s1:=x.s1
have J:∀c,(s.put n v).q.fi.getD c 0=if s.pb=c then(s.pf:Int)+1 else s.q.fi.getD c 0:=q7K x.w.qs.ok.lf hb Z
refine⟨w',hs,x.s1,x.gp,λS d c U I fd D=>?_⟩
rw[J]at fd D
show s.cl.getD d 0<s.cl.getD c 0+k.sp
by_cases N:s.pb=c
.rw[kL N]at D;lia
rw[kE N]at D
by_cases O:s.pb=d
.subst O;by_cases z:s.q.fi.getD s.pb 0=0
 .have:=qH2 x.w (by lia) z I D;lia
 exact x.e2 S _ _ U I z D
rw[kE O]at fd
exact x.e2 S _ _ U I fd D)
theorem Ix.wip(x:Ix k s)(hb:b<s.q.B)(w':WX k (s.wip b))(cb:k.ev=true->s.cl.getD b 0<s.lst+k.sp):Ix k (s.wip b):=by(
have Z:=x.w.lc
have D:∀c,(s.wip b).cl.getD c 0=if b=c then s.cl.getD b 0+1 else s.cl.getD c 0:=λc=>by
 show(s.cl.set b (s.cl.getD b 0+1)).getD c 0=_;rw[jF,Z];by_cases e:b=c
 .rw[kL ⟨e,hb⟩,kL e]
 rw[kE (λz=>e z.1),kE e]
have O:∀c,(s.wip b).q.fi.getD c 0=if b=c then 0 else s.q.fi.getD c 0:=λc=>by
 show(s.q.fi.set b 0).getD c 0=_;rw[jF,x.w.qs.ok.lf];by_cases e:b=c
 .rw[kL ⟨e,hb⟩,kL e]
 rw[kE (λz=>e z.1),kE e]
refine⟨w',x.sh,x.s1,λev c d J I=>?_,λev d c I J fd N=>?_⟩
.have J:c<s.q.B:=J;have I:d<s.q.B:=I;rw[D,D];have:=cb ev;have:=x.gp ev c d J I;have:=x.gp ev c b J hb;have:=qA2 x.w I;have:=x.s1;split<;>split<;>lia
have J:c<s.q.B:=J
have I:d<s.q.B:=I
rw[O]at fd N
rw[D,D]
by_cases U:b=d
.rw[kL U]at fd;exact absurd rfl fd
rw[kE U]at fd ⊢
by_cases S:b=c
.rw[kL S];have:=x.gp ev d b I hb;lia
rw[kE S]at N ⊢
exact x.e2 ev d c I J fd N)
end
section
variable{k:Tm}{X Y:Sx}
structure RmX(k:Tm)(X Y:Sx):Prop where
x:Ix k Y.s
wt:Wt k Y.s
ok:Y.g.Ok
kp:Kp X.s Y.s
hv:∀m u,m≠64->Hv X.s m u->Hv Y.s m u
theorem q56{r:Except Rf Pa}(x:Ix k X.s)(wt:Wt k X.s)(ok:X.g.Ok)(h:X.room k=(Y,r)):RmX k X Y/\(match r with
 | .ok p=>Y.ps=X.ps++[p]/\Y.s.rc=X.s.rc++p.mv.map putR++[(Str.ofString "wipe",(p.b:Int),true)]/\(1+k.ie)*X.s.q.P<=Y.s.rmX/\Y.s.rmX+p.mv.length=X.s.rmX+X.s.q.P/\(∃g',X.s.tk k X.g=some (p.why,p.b,g'))/\p.mv.length=(lvP X.s.q.P p.b X.s.q.V).length/\p.ts=X.s.ots k/\(∃s',XS.mvs (lvP X.s.q.P p.b X.s.q.V) X.s=(s',some p.mv)/\Y.s=s'.wip p.b/\Mvd k X.s p.b s' p.mv.length)
 | .error .dark=>Y.s.lf=some 0/\Y.ps=X.ps/\∃ms,Y.s.rc=X.s.rc++List.map putR ms
 | .error .room=>Y=X/\X.s.tk k X.g=none):=by(
unfold Sx.room at h
cases htk:X.s.tk k X.g with
|none=>rw[htk]at h;cases h;exact⟨⟨x,wt,ok,Kp.refl,λU U U z=>z⟩,rfl,rfl⟩
|some ai=>
 obtain⟨y,b,g'⟩:=ai;rw[htk]at h;dsimp only at h;have f:=q3T ok htk;have I:=qH0 ok htk;have spc:=f.l;have aw:=q53 x.w.qs x.w.pd f.b;have sl:=x.w.sl;have clb:k.ev=true->X.s.cl.getD b 0<X.s.lst+k.sp:=λev=>by
  rcases v6 ok htk with⟨_,h1,_⟩|⟨_,_,_,_,_,h1,_⟩
  .exact(uN.mp h1).2 ev
  unfold XS.clb at h1;exact mI (mQ.mp h1).2
 obtain⟨s',n,ms,D,lm,⟨U,hv,N⟩,hh⟩:=q6M (λs' ms=>Ix k s'/\(∀m u,m≠64->Hv X.s m u->Hv s' m u)/\s'.rc=X.s.rc++ms.map putR) x.w f ⟨x,λU U U z=>z,by simp⟩ (λs' ms n p w' kp Z fb O aq hr S ⟨U,hv,N⟩=>by
  have nb:=w'.qs.ok.nm _ O;obtain⟨w2,_⟩:=w'.put (v:=s'.val p n) hr nb.1 nb.2 (.inl ⟨p,O⟩) S;refine⟨U.put hr w2 ?_,λm u m6 hm=>?_,?_⟩
  .show(jO s'.q.V n++[_]).length< _;rw[kU,gM,(q1I (V:=s'.q.V) (n:=n) w'.qs.ok.nd).2 p O];exact U.sh
  .have:=hv m u m6 hm;by_cases e:m=n
   .subst e;have z:=Hv.new (s:=s') (n:=m) (v:=s'.val p m);rw[this.val w' O m6]at z ⊢;exact z
   exact this.put w' (by lia) e
  show s'.rc++[_]=_;rw[N,mE,wW];rfl)
 have kp:Kp X.s s':=⟨D.eB,D.eP,D.nm,D.lV⟩;have an:=D.rm;have av:=D.lb f.b;have Z:=D.ec;have aa:Wt k s':=λJ=>by
  rw[D.eP]at J;refine⟨b,by rw[D.eB];exact f.b,by rw[D.eP];exact D.fb,?_,?_,λev=>?_⟩
  .rw[D.eP];by_cases n0:n=0
   .have:X.s.rmX<(1+k.ie)*X.s.q.P:=by lia
    have lt:X.s.q.lv.getD b 0<(X.s.q.P:Int):=by
     rcases v6 ok htk with⟨_,h1,_⟩|⟨_,_,e0,_⟩
     .exact(uN.mp h1).1.2
     exfalso;obtain⟨c,c1,c2,c3,c4,c5⟩:=wt this;have:c∈X.s.opt k:=uN.mpr ⟨⟨⟨c1,c2,by unfold XS.spc;rw[kE (by lia)];rw[wJ,wK]at c4;lia⟩,c3⟩,c5⟩;rw[e0]at this;cases this
    lia
   have:=q7M (P:=X.s.q.P) (b:=b) (V:=X.s.q.V);lia
  .rw[D.eP];unfold XS.spc at spc;rw[wJ,wK]at *;split at spc<;>lia
  have e1:s'.lst=X.s.lst:=by unfold XS.lst;rw[Z]
  rw[Z,e1];exact clb ev
 rcases hh with⟨e,hn,S⟩|⟨e,hn,nl⟩
 .rw[e]at h;cases h;exact⟨⟨U,aa,I,kp,hv⟩,S,rfl,ms,N⟩
 rw[e]at h;dsimp only at h;by_cases S:s'.lf=some 0
 .rw[kL S]at h;cases h;exact⟨⟨U,aa,I,kp,hv⟩,S,rfl,ms,N⟩
 rw[kE S]at h;cases h;obtain⟨w2,ac⟩:=D.w.wip (b:=b) (by rw[D.eB];exact f.b) (by rw[D.eP];exact D.fb) nl S;have e1:s'.lst=X.s.lst:=by unfold XS.lst;rw[Z]
 have ge:(1+k.ie)*X.s.q.P<=(s'.wip b).rmX:=by rw[ac,D.eP];unfold XS.spc at spc;rw[wJ,wK]at *;split at spc<;>lia
 refine⟨⟨U.wip (by rw[D.eB];exact f.b) w2 (λev=>by rw[Z,e1];exact clb ev),λJ=>?_,I,kp.trans ⟨rfl,rfl,λz=>eO,rfl⟩,λm u m6 hm=>(hv m u m6 hm).wip D.w nl⟩,rfl,?_,ge,?_,⟨g',rfl⟩,by rw[lm,hn],rfl,s',e,rfl,by rw[lm];exact D⟩
 .have J:(s'.wip b).rmX<(1+k.ie)*s'.q.P:=J;rw[D.eP]at J;lia
 .show s'.rc++[_]=_;rw[N]
 show(s'.wip b).rmX+ms.length=_;rw[ac,D.eP,lm];lia)
end
section
variable{k:Tm}{s:XS}
theorem q5P(w:WX k s)(hr:s.rmX=(1+k.ie)*s.q.P):(∀b,b<s.q.B->s.q.fi.getD b 0=0\/s.q.fi.getD b 0=(s.q.P:Int))/\((List.range s.q.B).filter λb=>decide (s.q.fi.getD b 0=(s.q.P:Int))).length=s.q.B-(1+k.ie):=by(
have D:=w.qs.ok.p1
obtain⟨l,hl⟩:=FreeIs.ex _ _ s.cl _
have I:jW s.q.B s.q.P (noB s.q.B) s.q.fi=none/\l.length=1+k.ie:=by
 rcases q2P w.on w.qs.ok.wr D hl with⟨h1,h2⟩|⟨b,e,h1,e1,e2,h2,_⟩
 .refine⟨h1,?_⟩;unfold XS.rmX at hr;rw[hr]at h2;exact(nV (by lia) h2).symm
 exfalso;unfold XS.rmX at hr;rw[hr]at h2;have k:(1+k.ie)*s.q.P%s.q.P=e:=by rw[h2,cM,sX,pC e2]
 rw[bO]at k;lia
have z:=qBL w.on w.qs.ok.wr D hl I.1
unfold yK at z
rw[yJ]at z
refine⟨λb J=>?_,by lia⟩
have np:=I.1
unfold jW at np
rw[yJ]at np
have:=rA.mp np b (mV.mpr J)
obtain⟨f,N,O⟩:=w.qs.ok.wr b J
unfold jX at this
rw[gE,mG,mG]at this
lia)
theorem zX(x:Ix k s)(hr:s.rmX=(1+k.ie)*s.q.P):s.ded k≠[]:=by(
obtain⟨l,hl⟩:=FreeIs.ex _ _ s.cl _
have:=(qGV (m:=⟨0,0,0,[],[],s.cl,[],noB _,none,[]⟩)  x.w.qs x.w.on rfl hl hr x.sh).1
rw[qGW x.w rfl hl]at this
exact this)
theorem qH3(wt:Wt k s)(hr:s.rmX<(1+k.ie)*s.q.P):s.opt k≠[]:=λz=>by(
obtain⟨b,b1,b2,b3,b4,b5⟩:=wt hr
have:=uN.mpr ⟨⟨⟨b1,b2,by unfold XS.spc;rw[kE (by lia)];rw[wJ,wK]at b4;lia⟩,b3⟩,b5⟩
grind)
theorem q9H(x:Ix k s)(hr:s.rmX=(1+k.ie)*s.q.P)(ev:k.ev=true)(e0:s.opt k=[]):(∀c,c<s.q.B->s.q.fi.getD c 0=0->s.lst<s.cl.getD c 0)/\∃b,s.chg k=some b/\b<s.q.B/\s.q.fi.getD b 0=(s.q.P:Int)/\s.cl.getD b 0=s.lst/\s.q.lv.getD b 0=(s.q.P:Int):=by(
have s1:=x.s1
have p1:=x.w.qs.ok.p1
have N:∀d,Full k s d->s.q.lv.getD d 0<(s.q.P:Int)->s.lst+k.sp<=s.cl.getD d 0:=λd fd S=>by refine xB.mp λz=>?_;have:d∈s.opt k:=uN.mpr ⟨⟨fd,S⟩,λU=>z⟩;rw[e0]at this;cases this
have fr:∀c,c<s.q.B->s.q.fi.getD c 0=0->s.lst<s.cl.getD c 0:=λc J U=>by obtain⟨d,Z⟩:=wT _ (zX x hr);obtain⟨fd,S⟩:=q3S.mp Z;have h1:=N d fd S;have h2:=x.e2 ev d c fd.b J (by rw[fd.f];lia) U;lia
refine⟨fr,?_⟩
obtain⟨rp,_⟩:=q5P x.w hr
have hB:0<s.q.B:=by obtain⟨d,Z⟩:=wT _ (zX x hr);have:=(q3S.mp Z).1.b;lia
obtain⟨c,J,ec⟩:=qH1 x.w hB
have U:s.q.fi.getD c 0=(s.q.P:Int):=by
 rcases rp c J with z|z
 .have:=fr c J z;lia
 exact z
have spc:s.spc k=(s.q.P:Int):=by unfold XS.spc;rw[kL (by lia)]
have D:c∈s.clb k (s.ful k):=by unfold XS.clb;exact mQ.mpr ⟨q54.mpr ⟨J,U,by rw[spc];exact(qGY x.w J).2⟩,hG (by lia)⟩
have pw:(s.clb k (s.ful k)).Pairwise (· < ·):=by unfold XS.clb XS.ful;exact dQ _ (dQ _ rE)
obtain⟨h1,h2⟩:=zR (cl:=s.cl) pw
cases z:s.chg k with
|none=>rw[h1 z]at D;cases D
|some b=>
 obtain⟨m1,m2⟩:=h2 b z;have O:=m1;unfold XS.clb at O;obtain⟨I,_⟩:=mQ.mp O;have I:=q54.mp I;have:=m2 c D;have le:s.cl.getD b 0<=s.cl.getD c 0:=by
  unfold keyN lx at this;lia
 have cb:s.cl.getD b 0=s.lst:=by have:=qA2 x.w I.b;lia
 refine⟨b,rfl,I.b,I.f,cb,?_⟩;have:=qGY x.w I.b;have:¬s.q.lv.getD b 0<(s.q.P:Int):=λy=>by have:=N b I y;lia
 lia)
noncomputable def nlc(s:XS):Nat:=((List.range s.q.B).filter λb=>decide (s.q.fi.getD b 0=(s.q.P:Int))&&decide (s.cl.getD b 0=s.lst)).length
noncomputable def need(k:Tm)(s:XS):Nat:=if s.rd k=true then 0 else if s.rmX<(1+k.ie)*s.q.P then 1+(if k.ev=true then s.q.B-(1+k.ie)else 1)else if s.opt k≠[]then 1 else nlc s+1
theorem qCS{α:Type}{p p':α->Bool}:∀{l:List α},(∀x∈l,p' x=true->p x=true)->(∃x∈l,p x=true/\p' x=false)->(l.filter p').length<(l.filter p).length
| [],_,h=>by obtain⟨x,hx,_⟩:=h;cases hx
|a::l,h,g=>by
 have le:(l.filter p').length<=(l.filter p).length:=by
  have:(l.filter p').length<=(l.filter p).length:=by rw[<-cQ,<-cQ];exact sE λx hx=>h x (kB _ hx)
  exact this
 rw[mU,mU];obtain⟨x,hx,h1,h2⟩:=g;rcases kN.mp hx with e|hx
 .subst e;rw[kL h1,kE (by rw[h2];decide),mP];lia
 have ih:=qCS (λy hy=>h y (kB _ hy)) ⟨x,hx,h1,h2⟩;by_cases z:p' a=true
 .rw[kL z,kL (h a (by simp) z),mP,mP];lia
 rw[kE z];split
 .rw[mP];lia
 exact ih
theorem qLP(x:Ix k s)(hr:s.rmX=(1+k.ie)*s.q.P)(ev:k.ev=true)(e0:s.opt k=[]):nlc s+1<=s.q.B-(1+k.ie):=by(
obtain⟨_,I⟩:=q5P x.w hr
rw[<-I]
obtain⟨d,N⟩:=wT _ (zX x hr)
obtain⟨fd,J⟩:=q3S.mp N
refine qCS (λy U D=>?_) ⟨d,mV.mpr fd.b,hG fd.f,?_⟩
.rw[gE]at D;exact D.1
have:¬s.cl.getD d 0<s.lst+k.sp:=λz=>by have:=uN.mpr ⟨⟨fd,J⟩,λU=>z⟩;grind
have O:=x.s1
rw[hX (show ¬s.cl.getD d 0=s.lst by lia),eU])
theorem qDW(x:Ix k s)(hr:(1+k.ie)*s.q.P<=s.rmX):need k s<=if k.ev=true then s.q.B-(1+k.ie)else 1:=by(
have I:1<=s.q.B-(1+k.ie):=by have:=x.sh;refine aR λz=>?_;simp_all
unfold need
split
.exact m9 _
rename _=>D
have e:s.rmX=(1+k.ie)*s.q.P:=by unfold XS.rd at D;lia
rw[kE (by lia)]
split
.split<;>lia
rename _=>z
have z:s.opt k=[]:=rN z
cases ev:k.ev with
|true=>exact qLP x e ev z
|false=>exfalso;have:=zX x e;unfold XS.opt at z;rw[ev]at z;exact this z)
end
section
variable{k:Tm}{X Y:Sx}
theorem qIS(x:Ix k X.s)(wt:Wt k X.s)(nr:X.s.rd k=false):∃ybg,X.s.tk k X.g=some ybg:=by(
unfold XS.tk
by_cases z:X.s.opt k=[]
.rw[kL z];have D:=gZ nr;have e:X.s.rmX=(1+k.ie)*X.s.q.P:=by have:¬X.s.rmX<(1+k.ie)*X.s.q.P:=λy=>qH3 wt y z;lia
 cases ev:k.ev with
 |true=>obtain⟨_,b,I,_⟩:=q9H x e ev z;rw[I];exact⟨_,rfl⟩
 |false=>exfalso;have:=zX x e;unfold XS.opt at z;rw[ev]at z;exact this z
rw[kE z]
exact⟨_,rfl⟩)
theorem qIT{p:Pa}(x:Ix k X.s)(wt:Wt k X.s)(ok:X.g.Ok)(nr:X.s.rd k=false)(h:X.room k=(Y,.ok p)):need k Y.s<need k X.s:=by(
obtain⟨U,hp,_,ge,ay,⟨g',Z⟩,lm,_,s',emv,eY,md⟩:=q56 x wt ok h
have O:=U.kp.eP
have S:=U.kp.eB
have fb:=q3T ok Z
have aw:=q53 x.w.qs x.w.pd fb.b
have ax:=gZ nr
have ab:(1+k.ie)*Y.s.q.P<=Y.s.rmX:=by rw[O];exact ge
have nl:=qDW U.x ab
rw[S]at nl
have p1:=x.w.qs.ok.p1
have eX:need k X.s=if X.s.rmX<(1+k.ie)*X.s.q.P then 1+(if k.ev=true then X.s.q.B-(1+k.ie)else 1)else if X.s.opt k≠[]then 1 else nlc X.s+1:=by rw[need,nr,kE (by decide)]
rw[eX]
by_cases lk:X.s.rmX<(1+k.ie)*X.s.q.P
.rw[kL lk];lia
rw[kE lk]
have eR:X.s.rmX=(1+k.ie)*X.s.q.P:=by lia
rcases v6 ok Z with⟨_,h1,_⟩|⟨_,ev,e0,_,D,h1,_⟩
.have ne:X.s.opt k≠[]:=λz=>by rw[z]at h1;cases h1
 rw[kL ne];have lt:=(uN.mp h1).1.2;have:Y.s.rd k=true:=hG (by rw[O];lia);rw[need,kL this];decide
rw[kE (λz=>z e0)]
obtain⟨fr,b,hb,N,b2,b3,b4⟩:=q9H x eR ev e0
rw[D]at hb
obtain rfl:=mB hb
have rY:Y.s.rmX=(1+k.ie)*Y.s.q.P:=by rw[O];lia
have ac:¬Y.s.rd k=true:=λz=>by have:=mI z;lia
rw[need,kE ac,kE (by lia)]
have bin:p.b∈(List.range X.s.q.B).filter λb=>decide (X.s.q.fi.getD b 0=(X.s.q.P:Int))&&decide (X.s.cl.getD b 0=X.s.lst):=mQ.mpr ⟨mV.mpr N,by rw[hG b2,hG b3];rfl⟩
have n1:1<=nlc X.s:=wH bin
split
.lia
rename _=>z
have z:Y.s.opt k=[]:=rN z
have J:∀c,Y.s.cl.getD c 0=if p.b=c then X.s.cl.getD p.b 0+1 else X.s.cl.getD c 0:=λc=>by
 rw[eY];show(s'.cl.set p.b (s'.cl.getD p.b 0+1)).getD c 0=_;rw[md.ec,jF,x.w.lc];by_cases e:p.b=c
 .rw[kL ⟨e,N⟩,kL e]
 rw[kE (λz=>e z.1),kE e]
have I:∀c,Y.s.q.fi.getD c 0=if p.b=c then 0 else s'.q.fi.getD c 0:=λc=>by
 rw[eY];show(s'.q.fi.set p.b 0).getD c 0=_;rw[jF,md.w.qs.ok.lf,md.eB];by_cases e:p.b=c
 .rw[kL ⟨e,N⟩,kL e]
 rw[kE (λz=>e z.1),kE e]
have ae:X.s.lst<=Y.s.lst:=by obtain⟨c,D,ec⟩:=qH1 U.x.w (by rw[S];lia);rw[S]at D;rw[<-ec,J];have:=qA2 x.w D;have:=qA2 x.w N;split<;>lia
have ad:Y.s.lst=X.s.lst:=by
 refine Int.le_antisymm (xB.mp λy=>?_) ae;obtain⟨d,hd⟩:=wT _ (zX U.x rY);obtain⟨fd,ld⟩:=q3S.mp hd;have nc:¬Y.s.cl.getD d 0<Y.s.lst+k.sp:=λy=>by have:d∈Y.s.opt k:=uN.mpr ⟨⟨fd,ld⟩,λz=>y⟩;rw[z]at this;cases this
 have ne:p.b≠d:=λy=>by have:=fd.f;rw[I,kL y,O]at this;lia
 rw[J,kE ne]at nc;have aa:=fd.b;rw[S]at aa;have:=x.gp ev d p.b aa N;lia
refine Nat.succ_lt_succ ?_
unfold nlc
rw[S,O,ad]
refine qCS (λc D y=>?_) ⟨p.b,mV.mpr N,by rw[hG b2,hG b3];rfl,?_⟩
.have D:=mV.mp D;rw[gE,mG,mG]at y ⊢;obtain⟨y1,y2⟩:=y;have ne:p.b≠c:=λw=>by rw[I,kL w]at y1;lia
 rw[J,kE ne]at y2;refine⟨?_,y2⟩;rcases(q5P x.w eR).1 c D with q|q
 .have:=fr c D q;lia
 exact q
rw[I,kL rfl,hX (by lia)]
rfl)
noncomputable def dOf(p:Pa):List (Str×Int×Bool):=p.mv.map putR++[(Str.ofString "wipe",(p.b:Int),true)]
structure Rms(k:Tm)(X Y:Sx)(qs:List Pa):Prop extends RmX k X Y where
ps:Y.ps=X.ps++qs
ln:qs.length<=need k X.s
theorem q9I:∀{i:Nat} {X:Sx},Ix k X.s->Wt k X.s->X.g.Ok->need k X.s<=i->∃Y ps ms,Rms k X Y ps/\Y.s.rc=X.s.rc++ps.flatMap dOf++ms.map putR/\((X.rooms k i=some (Y,.ok ())/\Y.s.rd k=true/\ms=[])\/(X.rooms k i=some (Y,.error .dark)/\Y.s.lf=some 0))
|i,X,x,wt,ok,hi=>by
 cases rd:X.s.rd k with
 |true=>
  refine⟨X,[],[],⟨⟨x,wt,ok,Kp.refl,λU U U z=>z⟩,by simp,m9 _⟩,by simp,.inl ⟨?_,rd,rfl⟩⟩;cases i with
  |zero=>unfold Sx.rooms;rw[rd,kL rfl]
  |succ i=>unfold Sx.rooms;rw[rd,kL rfl]
 |false=>
  cases i with
  |zero=>
   exfalso;unfold need at hi;rw[rd,kE (by decide)]at hi;split at hi
   .lia
   split at hi<;>lia
  |succ i=>
   cases e:X.room k with
   |mk W o=>
    obtain⟨rx,hh⟩:=q56 x wt ok e;cases o with
    |error q=>
     cases q with
     |room=>obtain⟨_,h⟩:=hh;obtain⟨ybg,h'⟩:=qIS x wt rd;rw[h]at h';cases h'
     |dark=>obtain⟨dk,eps,ms,erc⟩:=hh;refine⟨W,[],ms,⟨rx,by rw[eps];simp,m9 _⟩,by rw[erc];simp,.inr ⟨?_,dk⟩⟩;unfold Sx.rooms;rw[rd,kE (by decide),e]
    |ok p=>
     have lt:=qIT x wt ok rd e;obtain⟨eps,erc,_⟩:=hh;obtain⟨Y,ps,ms,ry,hrc,hr⟩:=q9I (i:=i) rx.x rx.wt rx.ok (by lia);refine⟨Y,p::ps,ms,⟨⟨ry.x,ry.wt,ry.ok,rx.kp.trans ry.kp,λm u m6 z=>ry.hv m u m6 (rx.hv m u m6 z)⟩,?_,?_⟩,?_,?_⟩
     .rw[ry.ps,eps,wW];rfl
     .have:=ry.ln;rw[mP];lia
     .rw[hrc,erc,wY];simp[dOf]
     have er:X.rooms k (i+1)=W.rooms k i:=by rw[Sx.rooms,rd,kE (by decide),e]
     rw[er];exact hr
end
structure AskO(k:Tm)(i:Nat)(X:Sx)(n v:Int)(Y:Sx)(qs:List Pa)(p:Nat):Prop where
rl:Y.s.rc.length<=X.s.rc.length+17*i+1
x:Ix k Y.s
ge:(1+k.ie)*Y.s.q.P<=Y.s.rmX
ok:Y.g.Ok
ps:Y.ps=X.ps++qs
ln:qs.length<=need k X.s
eB:Y.s.q.B=X.s.q.B
eP:Y.s.q.P=X.s.q.P
nm:∀m,(∃p,(m,p)∈Y.s.q.V)↔m=n\/∃p,(m,p)∈X.s.q.V
hv:∀m u,m≠64->m≠n->Hv X.s m u->Hv Y.s m u
hn:Hv Y.s n v
rc:Y.s.rc=X.s.rc++qs.flatMap dOf++[(Str.ofString "put",(p:Int),true)]
structure AskD(k:Tm)(i:Nat)(X:Sx)(Y:Sx)(qs:List Pa):Prop where
rl:Y.s.rc.length<=X.s.rc.length+17*i+1
x:Ix k Y.s
wt:Wt k Y.s
ok:Y.g.Ok
ps:Y.ps=X.ps++qs
ln:qs.length<=need k X.s
kp:Kp X.s Y.s
hv:∀m u,m≠64->Hv X.s m u->Hv Y.s m u
lf:Y.s.lf=some 0
rc:∃ms,Y.s.rc=X.s.rc++qs.flatMap dOf++List.map putR ms
section
variable{k:Tm}{X:Sx}{n v:Int}
theorem qA3{i:Nat}(x:Ix k X.s)(wt:Wt k X.s)(ok:X.g.Ok)(hi:need k X.s<=i)(n0:0<=n)(n1:n<=64)(hl:(∃p,(n,p)∈X.s.q.V)\/(X.s.q.V.length<59/\X.s.q.V.length+1<(X.s.q.B-(1+k.ie))*X.s.q.P)):(∃Y qs p,X.ask k i n v=some (Y,.ok p)/\AskO k i X n v Y qs p)\/∃Y qs,X.ask k i n v=some (Y,.error .dark)/\AskD k i X Y qs:=by(
obtain⟨Y,ps,ms,r,D,⟨J,rd,Z⟩|⟨J,I⟩⟩:=q9I x wt ok hi
.have rl:=(q1J x.w ok J).2.2.2.1;have rd:=mI rd;unfold Sx.ask;rw[J];dsimp only;by_cases I:Y.s.lf=some 0
 .rw[kL I];exact .inr ⟨Y,ps,rfl,by lia,r.x,r.wt,r.ok,r.ps,r.ln,r.kp,r.hv,I,ms,D⟩
 rw[kE I];have O:=rd;rw[wJ,wK]at O;have N:(∃p,(n,p)∈Y.s.q.V)\/Y.s.q.V.length<59:=by rw[r.kp.lV];exact hl.imp (λz=>(r.kp.nm n).mpr z) λz=>z.1
 obtain⟨U,ad⟩:=r.x.w.put (n:=n) (v:=v) (by lia) n0 n1 N I;refine .inl ⟨_,ps,_,rfl,?_,r.x.put (by lia) U ?_,?_,r.ok,r.ps,r.ln,r.kp.eB,r.kp.eP,λm=>?_,λm u m6 S z=>(r.hv m u m6 z).put r.x.w (by lia) S,Hv.new,?_⟩
 .show(Y.s.rc++[_]).length<=_;rw[kU,gM];lia
 .show(jO Y.s.q.V n++[_]).length< _;rw[kU,gM];obtain⟨d1,d2⟩:=q1I (V:=Y.s.q.V) (n:=n) r.x.w.qs.ok.nd;have lV:=r.kp.lV;rcases hl with z|⟨_,z⟩
  .obtain⟨p,hp⟩:=(r.kp.nm n).mpr z;rw[d2 p hp];exact r.x.sh
  rw[r.kp.eB,r.kp.eP];lia
 .show(1+k.ie)*Y.s.q.P<=(Y.s.put n v).rmX;lia
 .rw[<-r.kp.nm m];constructor
  .rintro⟨p,h⟩
   rcases uB.mp h with e|⟨h,_⟩
   .cases e;exact .inl rfl
   exact .inr ⟨p,h⟩
  intro z;by_cases e:m=n
  .exact⟨_,uB.mpr (.inl (by rw[e]))⟩
  rcases z with z|⟨p,h⟩
  .exact absurd z e
  exact⟨p,uB.mpr (.inr ⟨h,e⟩)⟩
 show Y.s.rc++[_]=_;rw[D,Z];simp
have rl:=(q1J x.w ok J).2.2.2.1
unfold Sx.ask
rw[J]
exact .inr ⟨Y,ps,rfl,by lia,r.x,r.wt,r.ok,r.ps,r.ln,r.kp,r.hv,I,ms,D⟩)
end
section
variable{k:Tm}{s:XS}
theorem Ix.forg(x:Ix k s)(n:Int):Ix k (s.forg n):=by(
refine⟨x.w.forg n,?_,x.s1,x.gp,x.e2⟩
have:=(q1I  (n:=n) x.w.qs.ok.nd).1
have:=x.sh
show(jO _ n).length< _
show _ <(s.q.B-(1+k.ie))*s.q.P
lia)
theorem q04(x:Ix k s):∀(g:List Int),Ix k (s.forgs g)/\(s.forgs g).rmX=s.rmX/\(s.forgs g).rc=s.rc/\(s.forgs g).cl=s.cl/\(s.forgs g).lf=s.lf/\(s.forgs g).q.B=s.q.B/\(s.forgs g).q.P=s.q.P/\(∀m,(∃p,(m,p)∈(s.forgs g).q.V)↔m∉g/\∃p,(m,p)∈s.q.V)/\∀m u,m∉g->Hv s m u->Hv (s.forgs g) m u:=by(
intro g
induction g generalizing s with
|nil=>exact⟨x,rfl,rfl,rfl,rfl,rfl,rfl,λm=>by simp[XS.forgs],λm u z h=>h⟩
|cons n g ih=>
 obtain⟨S,U,J,a4,a5,a6,O,Z,N⟩:=ih (x.forg n);refine⟨S,U,J,a4,a5,a6,O,λm=>?_,λm u D h=>?_⟩
 .show(∃p,(m,p)∈((s.forg n).forgs g).q.V)↔_;rw[Z];constructor
  .rintro⟨h1,p,hp⟩
   obtain⟨h2,I⟩:=jC.mp hp;exact⟨λz=>(kN.mp z).elim I h1,p,h2⟩
  rintro⟨h1,p,hp⟩
  exact⟨λz=>h1 (kB _ z),p,jC.mpr ⟨hp,λz=>h1 (by rw[show m=n from z];exact kX)⟩⟩
 exact N m u (λz=>D (kB _ z)) (h.forg λz=>D (by rw[z];exact kX)))
theorem Wt.of(h:(1+k.ie)*s.q.P<=s.rmX):Wt k s:=λz=>by lia
theorem qCT{n:Int}:n∈s.hl↔n≠64/\∃p,(n,p)∈s.q.V:=by(
unfold XS.hl
rw[pT,mQ,kP]
constructor
.rintro⟨⟨y,h,e⟩,h2⟩
 refine⟨mI h2,y.2,?_⟩;rw[<-e];exact h
rintro⟨h1,p,hp⟩
exact⟨⟨_,hp,rfl⟩,hG h1⟩)
end
noncomputable def newX(B P:Nat):XS:=⟨⟨P,B,1,[],List.replicate B 0,List.replicate B 0,List.replicate B 0⟩,List.replicate B 0,λz=>none,none,[]⟩
theorem qIU{k:Tm}{P:Nat}(b2:B<=16)(p1:1<=P)(p2:P<=16)(hk:1+k.ie<B)(s1:1<=k.sp):Ix k (newX B P)/\(1+k.ie)*P<=(newX B P).rmX:=by(
have z:∀n i:Nat,(List.replicate n (0:Int)).getD i 0=0:=λn i=>rep8
have D:(newX B P).rmX=B*P:=by
 unfold XS.rmX newX rm clr1;dsimp only;have:∀n,((List.range n).map λb=>P-((List.replicate B (0:Int)).getD b 0).toNat).sum=n*P:=λn=>by
  induction n with
  |zero=>simp
  |succ n O=>rw[r9,mE,eI,O,rS,List.map_singleton,z];simp
 exact this B
have N:(1+k.ie)*P<=B*P:=gH _ (by lia)
have ok:(newX B P).q.Ok:=by refine⟨p1,p2,b2,g7,g7,g7,by simp[newX],λq I=>absurd (show q∈([]:Mp)from I) (by simp),λq I=>absurd (show q∈([]:Mp)from I) (by simp),λb S=>⟨0,z _ _,m9 _⟩⟩
refine⟨⟨⟨⟨ok,λb S=>?_⟩,λb c U U h1 U=>?_,g7,λU U U U U=>rfl,λy J=>absurd (show y∈([]:Mp)from J) (by simp),by simp[newX],λb=>?_,λb=>?_,gU _,?_,?_,λi e=>by cases e⟩,?_,s1,λU b c U U=>?_,λU d c U U h U=>absurd (z _ _) h⟩,?_⟩
.rw[show(newX B P).q.lv=List.replicate B 0 from rfl,z];rfl
.unfold jX at h1;rw[show(newX B P).q.fi=List.replicate B 0 from rfl,z]at h1;simp at h1
.rw[show(newX B P).cl=List.replicate B 0 from rfl,z];exact⟨gU _,gU _⟩
.rw[show(newX B P).q.bo=List.replicate B 0 from rfl,z];exact⟨gU _,by show(0:Int)<1;decide⟩
.rw[D];show k.ie*P<=B*P;exact gH _ (by lia)
.show 0<60;decide
.show 0<(B-(1+k.ie))*P;exact Nat.mul_pos (by lia) p1
.rw[show(newX B P).cl=List.replicate B 0 from rfl,z,z];lia
rw[D]
exact N)
structure Kd(k:Tm)(sh:Int)(sr:Nat)(X:Sx)(KD:Mp):Prop where
x:Ix k X.s
wt:Wt k X.s
ok:X.g.Ok
nd:(KD.map (·.1)).Nodup
kb:∀y∈KD,0<=y.1/\y.1<sh
eq:∀n,n≠64->((∃p,(n,p)∈X.s.q.V)↔n∈KD.map (·.1))
hv:∀y∈KD,Hv X.s y.1 y.2
ls:KD.length<=sr
hs:sr+2<=(X.s.q.B-(1+k.ie))*X.s.q.P
s57:sr<=57
h64:sh<=64
section
variable{k:Tm}{sh:Int}{sr:Nat}{X Y:Sx}{KD:Mp}{n v:Int}{i:Nat}{qs:List Pa}{p:Nat}
theorem Kd.pm(h:Kd k sh sr X KD):((X.s.q.V.map (·.1)).filter λn=>decide (n≠64)).Perm (KD.map (·.1)):=by(
refine zQ (dQ _ h.x.w.qs.ok.nd) h.nd λy=>?_
rw[mQ,mG]
constructor
.rintro⟨a,b⟩
 refine(h.eq y b).mp ?_;simp_all
intro D
have:y≠64:=by obtain⟨z,J,rfl⟩:=kP.mp D;have:=h.kb z J;have:=h.h64;lia
obtain⟨p,I⟩:=(h.eq y this).mpr D
exact⟨kP.mpr ⟨_,I,rfl⟩,this⟩)
theorem Kd.lV(h:Kd k sh sr X KD):X.s.q.V.length<=KD.length+1:=by(
have h1:=qLK h.x.w.qs.ok.nd
have h2:=h.pm.length_eq
simp_all)
theorem Kd.hl(h:Kd k sh sr X KD){n:Int}:n∈X.s.hl↔n∈KD.map (·.1):=by(
rw[qCT]
constructor
.rintro⟨a,b⟩
 exact(h.eq n a).mp b
intro D
have:n≠64:=by obtain⟨z,I,rfl⟩:=kP.mp D;have:=h.kb z I;have:=h.h64;lia
exact⟨this,(h.eq n this).mpr D⟩)
theorem q57{s:XS}(x:Ix k s):need k s<=17:=by(
have D:=x.w.qs.ok.b2
by_cases z:(1+k.ie)*s.q.P<=s.rmX
.have:=qDW x z;split at this<;>lia
unfold need
split
.lia
split<;>lia)
theorem Kd.can(h:Kd k sh sr X KD)(n0:0<=n)(n1:n<sh)(hc:n∈KD.map (·.1)\/KD.length<sr):(∃p,(n,p)∈X.s.q.V)\/(X.s.q.V.length<59/\X.s.q.V.length+1<(X.s.q.B-(1+k.ie))*X.s.q.P):=by(
have:=h.lV
have:=h.hs
have:=h.s57
have:=h.h64
rcases hc with z|z
.exact .inl ((h.eq n (by lia)).mpr z)
exact .inr ⟨by lia,by lia⟩)
theorem Kd.can64(h:Kd k sh sr X KD)(ne:KD≠[]):(∃p,((64:Int),p)∈X.s.q.V)\/(X.s.q.V.length<59/\X.s.q.V.length+1<(X.s.q.B-(1+k.ie))*X.s.q.P):=by(
have N:=h.hs
have J:=h.ls
have D:=h.s57
by_cases z:∃p,((64),p)∈X.s.q.V
.exact .inl z
have e:(X.s.q.V.map (·.1)).filter (λn=>decide (n≠64))=X.s.q.V.map _:=wD.mpr λy I=>hG λw=>z (by simp_all)
have:=h.pm.length_eq
rw[e,hU,hU]at this
grind)
theorem Kd.wrote(h:Kd k sh sr X KD)(n0:0<=n)(n1:n<sh)(hc:n∈KD.map (·.1)\/KD.length<sr)(a:AskO k i X n v Y qs p):Kd k sh sr Y (putW KD n v):=by(
have N:=h.h64
have I:∀q,q∈putW KD n v↔q=(n,v)\/(q∈KD/\q.1≠n):=λq=>by rw[q1E h.nd,jC]
have S:∀m,m∈(putW KD n v).map (·.1)↔m=n\/m∈KD.map (·.1):=λm=>by
 rw[kP,kP];constructor
 .rintro⟨q,D,rfl⟩
  rcases(I q).mp D with e|⟨e,_⟩
  .rw[e];exact .inl rfl
  exact .inr ⟨q,e,rfl⟩
 intro z;by_cases e:m=n
 .exact⟨(n,v),(I _).mpr (.inl rfl),e.symm⟩
 rcases z with z|⟨q,D,rfl⟩
 .exact absurd z e
 exact⟨q,(I _).mpr (.inr ⟨D,e⟩),rfl⟩
refine⟨a.x,Wt.of a.ge,a.ok,qEP h.nd,λy J=>?_,λm O=>?_,λy J=>?_,?_,by rw[a.eB,a.eP];exact h.hs,h.s57,N⟩
.rcases(I y).mp J with e|⟨e,_⟩
 .rw[e];exact⟨n0,n1⟩
 exact h.kb y e
.rw[a.nm,S,h.eq m O]
.rcases(I y).mp J with e|⟨e,en⟩
 .rw[e];exact a.hn
 have:=h.kb y e;exact a.hv _ _ (by lia) en (h.hv y e)
unfold putW
split
.rw[hU];exact h.ls
rename _=>z
rw[kU,gM]
rcases hc with w|w
.exfalso;obtain⟨q,D,e⟩:=kP.mp w;exact z (cG.mpr ⟨q,D,hG e⟩)
lia)
theorem Kd.gave(h:Kd k sh sr X KD){b:Int}(a:AskO k i X 64 b Y qs p)(hg:∀m∈g,m≠64):Kd k sh sr ⟨Y.s.forgs g,Y.g,Y.ps⟩ (KD.filter λy=>!decide (y.1∈g)):=by(
have J:=h.h64
obtain⟨S,U,a3,a4,a5,a6,N,Z,O⟩:=q04 a.x g
have D:∀y,y∈KD.filter (λy=>!decide (y.1∈g))↔y∈KD/\y.1∉g:=λy=>by rw[mQ,rD,rZ]
refine⟨S,Wt.of ?_,a.ok,h.nd.sublist (pE.map _),λy z=>h.kb y ((D y).mp z).1,λm I=>?_,λy z=>?_,kQ (kY _ _) h.ls,?_,h.s57,J⟩
.show(1+k.ie)*(Y.s.forgs g).q.P<=(Y.s.forgs g).rmX;rw[U,N];exact a.ge
.rw[Z,a.nm,kP];constructor
 .rintro⟨e1,e|e⟩
  .exact absurd e I
  obtain⟨y,z,e⟩:=kP.mp ((h.eq m I).mp e);exact⟨y,(D y).mpr ⟨z,by rw[e];exact e1⟩,e⟩
 rintro⟨y,z,rfl⟩
 obtain⟨h1,h2⟩:=(D y).mp z;exact⟨h2,.inr ((h.eq _ I).mpr (kP.mpr ⟨y,h1,rfl⟩))⟩
.obtain⟨h1,h2⟩:=(D y).mp z;have:=h.kb y h1;exact O _ _ h2 (a.hv _ _ (by lia) (by lia) (h.hv y h1))
rw[a6,N,a.eB,a.eP]
exact h.hs)
end
end W1
namespace L2
open PySem PySem.Spec PyProof.Rows
section
variable{X:Cx}{k:Nat}{f W:Addr}{fd:FuncData}{ps:List Str}{sp:Sp}{dvs:List V}{ds:List Value}{x m:Str}{p pos apos:Pos}{e:Expr}{es:List Expr}{t:TA}
theorem qLQ(b:ClM X.K W m f)(F:FnOk X.prog X.w X.K X.mg X.base CX k f fd ps sp)(hr:Room k X.A)(hg:Gl X x)(hm:X.mg x=some (.ref W))(hb:yG X.K fd ps ds)(hd:Vals dvs ds)(hx:q1W CX X E)(ha:PA X (e::es) t)(hdb:(x==("__debug__":Str))=false:=by decide)
 (he:starEach (e::es) X.env=(false,eval e X.env)::starEach es X.env:=by rfl) (hpl:(backTo pos (starEach es X.env)).any (·.1)=false:=by rfl) 
 (ht:eval (.Call (.Attribute (.Name x p) m apos) (e::es) [] pos) X.env=(do
  let ov<-eval (.Name x p) X.env
  standAt apos.atName
  let(f,first)<-holding [ov] (getMethod ov m pl)
  callWith pos f first (backTo pos (starEach (e::es) X.env)) (backToKw pos (keywordEach [] X.env))):=by rfl):
 PE X (.Call (.Attribute (.Name x p) m apos) (e::es) [] pos) (qJK sp dvs E t):=by(
intro pins s σ H Q I h
refine wP  (q3K I hg hm ?_ hdb) ht
refine PySem.W.method_cls I.kIn b.ga (PySem.W.cls_value I.kIn b.rd b.fd rfl ?_)
refine cL (first:=[])  I.ok.mod.kin b.kp (thn (ha pos _ _ σ H _ (I.tok _) h) λN O ⟨J,H2,z,r,D⟩=>⟨z.kIn,?_⟩) he hpl
exact q9M F hr hb hd hx z r D)
end
end L2
namespace W1
open PySem L2
structure Pgs(s:XS):Prop where
wr:∀b f:Nat,b<s.q.B->f<s.q.P->(f:Int)<s.q.fi.getD b 0->∃v,s.pg (b*s.q.P+f)=some v
mr:∀i v,s.pg i=some v->128<=v.1/\v.1<s.q.nx*128/\v.1%128<=64
one:∀i j a b,s.pg i=some a->s.pg j=some b->a.1 / 128=b.1 / 128->i=j
nw:∀y∈s.q.V,∃v,s.pg y.2.toNat=some v/\v.1%128=y.1/\∀j w,s.pg j=some w->w.1%128=y.1->w.1<=v.1
rl:(∃i v,s.pg i=some v/\v.1%128=64)->∃p,((64:Int),p)∈s.q.V
bn:∀b,b<s.q.B->(s.q.fi.getD b 0=0->s.q.bo.getD b 0=0)/\(0<s.q.fi.getD b 0->∃v,s.pg (b*s.q.P)=some v/\s.q.bo.getD b 0=v.1 / 128)
section
variable{k:Tm}{s:XS}{n v:Int}{b:Nat}
set_option tactic.hygienic true in
theorem Pgs.put(h:Pgs s)(w:WX k s)(hr:0<s.rmX)(n0:0<=n)(n1:n<=64):Pgs (s.put n v):=by(
obtain⟨hb,hf,N,_⟩:=w.spot hr
have ap:=w.nx
have Z:∀c,(s.put n v).q.fi.getD c 0=if s.pb=c then(s.pf:Int)+1 else s.q.fi.getD c 0:=q7K w.qs.ok.lf hb N
have D:∀i,(s.put n v).pg i=if i=s.np then some (s.q.nx*128+n,v)else s.pg i:=λi=>rfl
have ac:s.pg s.np=none:=w.cr s.pb s.pf hb (by rw[N];exact gU _) hf
have U:∀{c f:Nat},f<s.q.P->c*s.q.P+f=s.np->c=s.pb/\f=s.pf:=λI e=>q7J I hf e
have ae:(s.put n v).q.nx=s.q.nx+1:=rfl
refine⟨λc f J I lt=>?_,λi u e=>?_,λi j a c ea O S=>?_,λy hy=>?_,λ⟨i,u,e,e6⟩=>?_,λc J=>?_⟩
.have J:c<s.q.B:=J;have I:f<s.q.P:=I;show ∃u,(s.put n v).pg (c*s.q.P+f)=some u;rw[D];split
 .exact⟨_,rfl⟩
 rename_i ne;rw[Z]at lt;refine h.wr c f J I ?_;split at lt
 .rename_i z;have:f≠s.pf:=λz2=>ne (by unfold XS.np;rw[z,z2]);rw[<-z,N];lia
 exact lt
.rw[D]at e;rw[ae];split at e
 .cases e;show 128<=s.q.nx*128+n/\s.q.nx*128+n< _/\(s.q.nx*128+n)%128<=64;lia
 obtain⟨a1,a2,a3⟩:=h.mr i u e;exact⟨a1,by lia,a3⟩
.rw[D]at ea O;split at ea
 .rename_i zi;cases ea;split at O
  .rename_i zj;rw[zi,zj]
  obtain⟨_,a2,_⟩:=h.mr j c O;have S:(s.q.nx*128+n) / 128=c.1 / 128:=S;lia
 split at O
 .cases O;obtain⟨_,a2,_⟩:=h.mr i a ea;have S:a.1 / 128=(s.q.nx*128+n) / 128:=S;lia
 exact h.one i j a c ea O S
.rcases uB.mp hy with e|⟨hy,ne⟩
 .subst e;refine⟨(s.q.nx*128+n,v),?_,?_,λj u e _=>?_⟩
  .rw[D,kL (by show((s.pb*s.q.P+s.pf:Nat):Int).toNat=s.np;rw[mC];rfl)]
  .show(s.q.nx*128+n)%128=n;lia
  rw[D]at e;split at e
  .cases e;exact gU _
  obtain⟨_,a2,_⟩:=h.mr j u e;show u.1<=s.q.nx*128+n;lia
 obtain⟨u,e1,e2,e3⟩:=h.nw y hy;refine⟨u,?_,e2,λj x e ex=>?_⟩
 .rw[D,kE λz=>by rw[z,ac]at e1;cases e1];exact e1
 rw[D]at e;split at e
 .cases e;have ex:(s.q.nx*128+n)%128=y.1:=ex;exact absurd (show y.1=n by lia) ne
 exact e3 j x e ex
.by_cases z:n=64
 .exact⟨_,uB.mpr (.inl (by rw[z]))⟩
 rw[D]at e;split at e
 .cases e;have e6:(s.q.nx*128+n)%128=64:=e6;lia
 obtain⟨p,hp⟩:=h.rl ⟨i,u,e,e6⟩;exact⟨p,uB.mpr (.inr ⟨hp,λy=>z y.symm⟩)⟩
have J:c<s.q.B:=J
have lo:=w.qs.ok.lo
have aa:(s.put n v).q.bo=if s.q.fi.getD s.pb 0=0 then s.q.bo.set s.pb s.q.nx else s.q.bo:=rfl
rw[Z]
show(_->(s.put n v).q.bo.getD c 0=0)/\(_->∃u,(s.put n v).pg (c*s.q.P)=some u/\(s.put n v).q.bo.getD c 0=_)
obtain⟨b1,b2⟩:=h.bn c J
by_cases z:s.pb=c
.rw[kL z];refine⟨λe=>by lia,λ_=>?_⟩;rw[D,aa];by_cases y:s.q.fi.getD s.pb 0=0
 .have ab:s.pf=0:=by rw[N]at y;lia
  rw[kL (by unfold XS.np;rw[z,ab];rfl),kL y];refine⟨_,rfl,?_⟩;rw[jF,kL ⟨z,by rw[lo];exact hb⟩];show s.q.nx=(s.q.nx*128+n) / 128;lia
 rw[kE λq=>y (by have:=(U (c:=c) (f:=0) (by lia) (by rw[p8];exact q)).2;rw[N,<-this];rfl),kE y];exact b2 (by rw[<-z];rw[N]at y ⊢;lia)
rw[kE z]
have nz:¬c*s.q.P=s.np:=λq=>z (U (c:=c) (f:=0) (by lia) (by rw[p8];exact q)).1.symm
have eb:(s.put n v).q.bo.getD c 0=s.q.bo.getD c 0:=by
 rw[aa];split
 .rw[jF,kE λq=>z q.1]
 rfl
rw[eb,D,kE nz]
exact⟨b1,b2⟩)
theorem Pgs.wip(h:Pgs s)(w:WX k s)(hb:b<s.q.B)(nl:∀y∈s.q.V,¬y.2 / (s.q.P:Int)=(b:Int)):Pgs (s.wip b):=by(
have p1:=w.qs.ok.p1
have N:∀c,(s.wip b).q.fi.getD c 0=if b=c then 0 else s.q.fi.getD c 0:=λc=>by
 show(s.q.fi.set b 0).getD c 0=_;rw[jF,w.qs.ok.lf];by_cases e:b=c
 .rw[kL ⟨e,hb⟩,kL e]
 rw[kE (λz=>e z.1),kE e]
have U:∀c,(s.wip b).q.bo.getD c 0=if b=c then 0 else s.q.bo.getD c 0:=λc=>by
 show(s.q.bo.set b 0).getD c 0=_;rw[jF,w.qs.ok.lo];by_cases e:b=c
 .rw[kL ⟨e,hb⟩,kL e]
 rw[kE (λz=>e z.1),kE e]
have I:∀i,(s.wip b).pg i=if i / s.q.P=b then none else s.pg i:=λi=>rfl
have D:∀{i u},(s.wip b).pg i=some u->s.pg i=some u:=fun {i u} e=>by
 rw[I]at e;split at e
 .cases e
 exact e
have Z:∀{c f:Nat},f<s.q.P->(c*s.q.P+f) / s.q.P=c:=λJ=>yM J
refine⟨λc f S J lt=>?_,λi u e=>h.mr i u (D e),λi j a c ea ec=>h.one i j a c (D ea) (D ec),λy O=>?_,λ⟨i,u,e,e6⟩=>h.rl ⟨i,u,D e,e6⟩,λc S=>?_⟩
.have J:f<s.q.P:=J;rw[N]at lt;show ∃u,(s.wip b).pg (c*s.q.P+f)=some u;rw[I,Z J];by_cases z:b=c
 .rw[kL z]at lt;lia
 rw[kE z]at lt;rw[kE (λq=>z q.symm)];exact h.wr c f S J lt
.obtain⟨u,e1,e2,e3⟩:=h.nw y O;refine⟨u,?_,e2,λj x e=>e3 j x (D e)⟩;obtain⟨c,f,_,_,J,e,_⟩:=w.vl y O;rw[I,kE λq=>nl y O (by rw[e,mC]at q;rw[e,<-dX,q])];exact e1
rw[N,U]
show _/\(_->∃u,(s.wip b).pg (c*s.q.P)=some u/\_)
obtain⟨b1,b2⟩:=h.bn c S
by_cases z:b=c
.rw[kL z,kL z];exact⟨λz=>rfl,λq=>by lia⟩
rw[kE z,kE z,I,kE λq=>z (by have:=Z (c:=c) (f:=0) (by lia);rw[p8]at this;rw[<-q,this])]
exact⟨b1,b2⟩)
theorem Pgs.forg(h:Pgs s){m:Int}(ne:m≠64):Pgs (s.forg m):=⟨h.wr,h.mr,h.one,λy hy=>h.nw y (jC.mp hy).1,λz=>let⟨p,hp⟩:=h.rl z;⟨p,jC.mpr ⟨hp,λy=>ne y.symm⟩⟩,h.bn⟩
theorem Pgs.forgs:∀{g:List Int} {s:XS},Pgs s->(∀m∈g,m≠64)->Pgs (s.forgs g)
| [],_,h,_=>h
|m::g,s,h,ne=>Pgs.forgs (g:=g) (h.forg (ne m kX)) λx hx=>ne x (kB _ hx)
end
theorem qH4{P:Nat}:Pgs (newX B P):=by(
have z:∀n i,(List.replicate n (0:Int)).getD i 0=0:=λn i=>rep8
refine⟨λb f U U lt=>?_,λi v e=>(by cases e),λi j a b e=>(by cases e),λy D=>absurd (show y∈([])from D) (by simp),λ⟨_,_,e,_⟩=>(by cases e),λb U=>⟨λU=>z _ _,λlt=>?_⟩⟩
.rw[show(newX B P).q.fi=List.replicate B 0 from rfl,z]at lt;lia
rw[show(newX B P).q.fi=List.replicate B 0 from rfl,z]at lt
lia)
section
variable{F:V->Int->Prop}{kvs:List (Key×V)}{W:Mp}
def KvP(F:V->Int->Prop)(kv:Key×V)(x:Int×Int):Prop:=kv.1=Sum.inl x.1/\F kv.2 x.2
theorem qDX{n:Int}:∀{kvs:List (Key×V)} {W:Mp},Paired (KvP F) kvs W->(kvs.any λkv=>decide (kv.1=(Sum.inl n:Key)))=W.any λx=>decide (x.1=n)
|_,_,.nil=>rfl
|_,_,.cons (a:=a) (b:=b) h r=>by
 rw[cA,cA,qDX r,h.1];congr 1;by_cases z:b.1=n
 .rw[z,hG rfl,hG rfl]
 rw[hX z,hX (λy=>z (wI y))]
theorem qDY{n p:Int}{v:V}(hv:F v p):∀{kvs:List (Key×V)} {W:Mp},Paired (KvP F) kvs W->Paired (KvP F) (kvs.map λkv=>if kv.1=(Sum.inl n:Key)then(kv.1,v)else kv) (W.map λx=>if x.1=n then(x.1,p)else x)
|_,_,.nil=>.nil
|_,_,.cons (a:=a) (b:=b) h r=>by
 rw[mR,mR];refine .cons ?_ (qDY hv r);by_cases z:b.1=n
 .rw[kL z,kL (by rw[h.1,z])];exact⟨h.1,hv⟩
 rw[kE z,kE (λy=>z (wI (h.1.symm.trans y)))];exact h
theorem qIV{n p:Int}{v:V}(h:Paired (KvP F) kvs W)(hv:F v p):Paired (KvP F) (putK kvs (Sum.inl n:Key) v) (putW W n p):=by(
unfold putK putW
rw[qDX h]
split
.exact qDY hv h
exact L2.Paired.snoc h ⟨rfl,hv⟩)
theorem qA4{n p:Int}:∀{kvs:List (Key×V)} {W:Mp},Paired (KvP F) kvs W->(W.map (·.1)).Nodup->(n,p)∈W->∃v,valV kvs (Sum.inl n:Key)=some v/\F v p
|_,_,.nil,_,h=>absurd h (by simp)
|_,_,.cons (a:=a) (b:=b) h r,nd,hm=>by
 rw[mR]at nd;obtain⟨n1,n2⟩:=gD.mp nd;rcases kN.mp hm with e|hm
 .subst e;exact⟨a.2,q1A h.1,h.2⟩
 obtain⟨v,a1,a2⟩:=qA4 r n2 hm;refine⟨v,?_,a2⟩;rw[zD]
 .exact a1
 rw[h.1];intro z;exact n1 (kP.mpr ⟨_,hm,(wI z).symm⟩)
theorem qH5{n:Int}:∀{kvs:List (Key×V)} {W:Mp},Paired (KvP F) kvs W->n∉W.map (·.1)->valV kvs (Sum.inl n:Key)=none
|_,_,.nil,_=>rfl
|_,_,.cons (a:=a) (b:=b) h r,hn=>by
 rw[mR]at hn;rw[zD]
 .exact qH5 r λz=>hn (kB _ z)
 rw[h.1];intro z;exact hn (by rw[wI z];simp)
end
noncomputable def wpS(cs:List Int)(d:Str×Int×Bool):List Int:=if d.1=Str.ofString "wipe" then cs.set d.2.1.toNat (cs.getD d.2.1.toNat 0+1)else cs
structure Wp(s:XS):Prop where
e:s.rc.foldl wpS (List.replicate s.q.B 0)=s.cl
r:∀d∈s.rc,d.1=Str.ofString "wipe"->∃b:Nat,d.2.1=(b:Int)/\b<s.q.B
bd:∀i v,s.pg i=some v->i<s.q.B*s.q.P
set_option tactic.hygienic true in
theorem Wp.put{k:Tm}{s:XS}{n v:Int}(h:Wp s)(w:WX k s)(hr:0<s.rmX):Wp (s.put n v):=by(
refine⟨?_,λd D e=>?_,λi u e=>?_⟩
.show(s.rc++[(Str.ofString _,(s.np:Int),true)]).foldl wpS (List.replicate s.q.B 0)=s.cl;rw[cX,h.e];rfl
.rcases gQ.mp D with D|D
 .exact h.r d D e
 rw[kD.mp D]at e;exact absurd (show Str.ofString _=Str.ofString _ from e) (by decide)
have e:(if i=s.np then some (s.q.nx*128+n,v)else s.pg i)=some u:=e
split at e
.rename_i z;obtain⟨J,I,_⟩:=w.spot hr;rw[z];exact qLC J I
exact h.bd i u e)
theorem Wp.wip{s:XS}{b:Nat}(h:Wp s)(hb:b<s.q.B):Wp (s.wip b):=by(
refine⟨?_,λd z e=>?_,λi u e=>?_⟩
.show(s.rc++[(Str.ofString _,(b:Int),true)]).foldl wpS (List.replicate s.q.B 0)=s.cl.set b _;rw[cX,h.e];rfl
.rcases gQ.mp z with z|z
 .exact h.r d z e
 rw[kD.mp z];exact⟨b,rfl,hb⟩
have e:(if i / s.q.P=b then none else s.pg i)=some u:=e
split at e
.lia
exact h.bd i u e)
theorem Wp.forgs{k:Tm}{s:XS}(x:Ix k s)(h:Wp s)(g:List Int):Wp (s.forgs g):=by(
obtain⟨_,_,D,J,_,z,I,_⟩:=q04 x g
have O:∀(g:List Int) (s:XS),(s.forgs g).pg=s.pg:=λg=>by
 induction g with
 |nil=>exact λU=>rfl
 |cons m g N=>exact λs=>N _
exact⟨by rw[D,J,z];exact h.e,by rw[D,z];exact h.r,by rw[O,z,I];exact h.bd⟩)
structure Kpr(k:Tm)(R:XS->Prop):Prop where
p:∀s n v,WX k s->0<s.rmX->0<=n->n<=64->R s->R (s.put n v)
w:∀s b,WX k s->b<s.q.B->(∀y∈s.q.V,¬y.2 / (s.q.P:Int)=(b:Int))->R s->R (s.wip b)
section
variable{k:Tm}{R:XS->Prop}
theorem Kpr.room(K:Kpr k R){X:Sx}{r:Except Rf Pa}(w:WX k X.s)(ok:X.g.Ok)(h:X.room k=(Y,r))(p:R X.s):R Y.s:=by(
unfold Sx.room at h
cases htk:X.s.tk k X.g with
|none=>simp_all
|some I=>
 obtain⟨y,b,g'⟩:=I;rw[htk]at h;dsimp only at h;have f:=q3T ok htk;obtain⟨s',n,ms,J,Z,pg,N⟩:=q6M _ w f p (λs' ms n q D kp ec fb z O S U pg=>K.p s' n _ D (by lia) (D.qs.ok.nm _ z).1 (D.qs.ok.nm _ z).2 pg);rcases N with⟨e,_,_⟩|⟨e,_,nl⟩
 .lia
 rw[e]at h;dsimp only at h;split at h
 .lia
 cases h;exact K.w s' b J.w (by rw[J.eB];exact f.b) nl pg)
theorem Kpr.rooms(K:Kpr k R):∀{i:Nat} {X Y:Sx} {r:Except Rf Unit},WX k X.s->X.g.Ok->X.rooms k i=some (Y,r)->R X.s->R Y.s
|0,X,Y,r,w,ok,h,p=>by
 unfold Sx.rooms at h;split at h
 .cases h;exact p
 cases h
|i+1,X,Y,r,w,ok,h,p=>by
 unfold Sx.rooms at h;split at h
 .cases h;exact p
 cases e:X.room k with
 |mk W o=>
  obtain⟨w',ok',_⟩:=q6N w ok e;have p':=K.room w ok e p;rw[e]at h;cases o with
  |error q=>cases h;exact p'
  |ok q=>exact Kpr.rooms K w' ok' h p'
theorem Kpr.ask(K:Kpr k R){i:Nat}{X:Sx}{n v:Int}{r:Except Rf Nat}(w:WX k X.s)(ok:X.g.Ok)(n0:0<=n)(n1:n<=64)(h:X.ask k i n v=some (Y,r))(p:R X.s):R Y.s:=by(
unfold Sx.ask at h
cases e:X.rooms k i with
|none=>simp_all
|some D=>
 obtain⟨Z,o⟩:=D;obtain⟨I,_,_,_,_,rd⟩:=q1J w ok e;have z:=K.rooms w ok e p;rw[e]at h;cases o with
 |error q=>lia
 |ok u=>
  dsimp only at h;split at h
  .lia
  cases h;exact K.p _ n v I (by have:=mI (rd rfl);lia) n0 n1 z)
end
def Pw(s:XS):Prop:=Pgs s/\Wp s
theorem qH6{k:Tm}:Kpr k Pw:=⟨λs n v w hr n0 n1 h=>⟨h.1.put w hr n0 n1,h.2.put w hr⟩,λs b w hb nl h=>⟨h.1.wip w hb nl,h.2.wip hb⟩⟩
structure Lat(pg:Nat->Option (Int×Int))(ok:Int->Prop)(j:Nat)(W:Mp):Prop where
nd:(W.map (·.1)).Nodup
fr:∀d∈W,ok d.1/\∃i v,i<j/\d.2=((i:Nat):Int)/\pg i=some v/\v.1%128=d.1/\∀i' w,i'<j->pg i'=some w->w.1%128=d.1->w.1 / 128<=v.1 / 128
al:∀i w,i<j->pg i=some w->ok (w.1%128)->w.1%128∈W.map (·.1)
theorem Lat.zero{ok:Int->Prop}:Lat pg ok 0 []:=⟨e9,λd hd=>(by cases hd),λi w hi=>absurd hi (xI _)⟩
section
variable{pg:Nat->Option (Int×Int)}{ok:Int->Prop}{j:Nat}{W:Mp}{v:Int×Int}
theorem qIW{W:Mp}{n p:Int}(h:(W.map (·.1)).Nodup):((putW W n p).map (·.1)).Nodup:=by(
unfold putW
split
.rw[dW,dA  λx U=>by show(if x.1=n then(x.1,p)else x).1=x.1;split<;>rfl];exact h
rename _=>z
rw[mE]
refine wX.mpr ⟨h,by simp,λa J c I=>?_⟩
rw[show c=n by simpa using I]
intro e
obtain⟨x,D,ex⟩:=kP.mp J
exact z (cG.mpr ⟨x,D,hG (ex.trans e)⟩))
theorem Lat.skip(h:Lat pg ok j W)(no:∀v,pg j=some v->ok (v.1%128)->∃p u,(v.1%128,p)∈W/\pg p.toNat=some u/\v.1 / 128<=u.1 / 128):Lat pg ok (j+1) W:=by(
refine⟨h.nd,λd S=>?_,λi w U e o=>?_⟩
.obtain⟨o,i,u,U,J,N,e3,Z⟩:=h.fr d S;refine⟨o,i,u,by lia,J,N,e3,λO w aa e I=>?_⟩;by_cases z:O=j
 .subst z;obtain⟨p,u',D,e',le⟩:=no w e (by rw[I];exact o);rw[I]at D;have:=qA1 h.nd D S;rw[this,J,mC,N]at e';lia
 exact Z O w (by lia) e I
by_cases z:i=j
.subst z;obtain⟨p,_,D,_⟩:=no w e o;exact kP.mpr ⟨_,D,rfl⟩
exact h.al i w (by lia) e o)
theorem Lat.take(h:Lat pg ok j W)(e:pg j=some v)(o:ok (v.1%128))(nw:∀p u,(v.1%128,p)∈W->pg p.toNat=some u->u.1 / 128<v.1 / 128):Lat pg ok (j+1) (putW W (v.1%128) (j:Int)):=by(
refine⟨qIW h.nd,λd D=>?_,λi w hi ew ow=>?_⟩
.rcases(q1E h.nd).mp D with rfl|D
 .refine⟨o,j,v,rP _,rfl,e,rfl,λN w ab I J=>?_⟩;by_cases z:N=j
  .rw[z,e]at I;cases I;exact gU _
  have J:w.1%128=v.1%128:=J;have hm:=h.al N w (by lia) I (by rw[J];exact o);rw[J]at hm;obtain⟨d,D,S⟩:=kP.mp hm;obtain⟨_,i,u,hi,Z,e2,e3,e4⟩:=h.fr d D;have:=e4 N w (by lia) I (by rw[J];exact S.symm);have ad:(v.1%128,d.2)∈W:=by rw[<-S];exact D
  have:=nw d.2 u ad (by rw[Z,mC];exact e2);lia
 obtain⟨D,ne⟩:=jC.mp D;obtain⟨o',i,u,hi,Z,e2,e3,e4⟩:=h.fr d D;refine⟨o',i,u,by lia,Z,e2,e3,λN w ab I J=>?_⟩;by_cases z:N=j
 .rw[z,e]at I;cases I;exact absurd J.symm ne
 exact e4 N w (by lia) I J
have O:∀n,n∈W.map (·.1)\/n=v.1%128->n∈(putW W (v.1%128) (j:Int)).map (·.1):=λn U=>by
 by_cases z:n=v.1%128
 .exact kP.mpr ⟨_,(q1E h.nd).mpr (.inl rfl),z.symm⟩
 rcases U with U|U
 .obtain⟨d,D,S⟩:=kP.mp U;exact kP.mpr ⟨d,(q1E h.nd).mpr (.inr (jC.mpr ⟨D,λy=>z (S.symm.trans y)⟩)),S⟩
 exact absurd U z
by_cases z:i=j
.rw[z,e]at ew;cases ew;exact O _ (.inr rfl)
exact O _ (.inl (h.al i w (by lia) ew ow)))
end
end W1
namespace L2
open PySem PySem.W PySem.Spec PyProof.Rows
theorem qIX{K:PySem.W.Frag}{l1 l2:Addr}{xs ys:List V}{D:Addr}{H2:Hp}{g:TG}{tc:TT}{te:TE}{σ0:St}{R:Hp->Prop}(Pv:Nat->Hp->Prop)(h0:Pv 0 H2)(hl:∀i H,Pv i H->SqL K H l1 xs/\SqL K H l2 ys)(hle:xs.length<=ys.length)
 (hs:∀(i:Nat) x y T H,xs[i]?=some x->ys[i]?=some y->Pv i H->H T=none->g (.ref T) σ0 (upd H T (.tup [x,y])) λσ5 H5=>tc σ5 H5 λb H6=>if b=true then te σ5 H6 (λv H7=>∃vs,H7 D=some (.lst vs)/\vs.length<sizeLine/\Pv (i+1) (upd H7 D (.lst (vs++[v]))))else Pv (i+1) H6) (hd:∀H,Pv xs.length H->R H):
 ∃W:Nat->Nat->Hp->Prop,(∃m,W 0 m H2)/\∀i m H3,W i m H3->((Itz K l1 l2).stop i H3/\R H3)\/((Itz K l1 l2).go i H3/\∃N:Hp->Prop,(∀H',N H'->∃m',m'<m/\W (i+1) m' H')/\∀x H4,(Itz K l1 l2).yld i H3 x H4->g x σ0 H4 λσ5 H5=>tc σ5 H5 λb H6=>
   if b=true then te σ5 H6 (λv H7=>∃vs,H7 D=some (.lst vs)/\vs.length<sizeLine/\N (upd H7 D (.lst (vs++[v]))))else N H6):=by(
refine⟨λi m H=>m=xs.length-i/\i<=xs.length/\Pv i H,⟨xs.length,by rfl,m9 _,h0⟩,?_⟩
rintro i m H ⟨rfl,hi,p⟩
obtain⟨I,O⟩:=hl i H p
by_cases J:i<xs.length
.have S:=kF J;have U:ys[i]?=some _:=kF (by lia);refine .inr ⟨⟨xs,ys,_,_,I,O,S,U⟩,Pv _,λH' z=>⟨xs.length-(i+1),by lia,rfl,by lia,z⟩,?_⟩;rintro v H4 ⟨T,x,y,rfl,nT,rfl,Z,z2⟩
 exact hs i x y T H (Z _ I) (z2 _ O) p nT
obtain rfl:i=xs.length:=by lia
exact .inl ⟨⟨xs,ys,I,O,.inl (kO _)⟩,hd _ p⟩)
end L2
namespace W1
open PySem L2
noncomputable def dB(KD:Mp):List (Key×V):=KD.map λy=>((Sum.inl y.1:Key),V.bl true)
theorem qH7{n:Int}:q44 (dB KD) (Sum.inl n:Key)=dB (jO KD n):=by(
unfold q44 dB jO
rw[sV]
congr 1
apply r6
simp)
theorem qDZ{n p:Int}:putK (dB KD) (Sum.inl n:Key) (.bl true)=dB (putW KD n p):=by(
unfold putK dB putW
have e:((KD.map λy=>((Sum.inl y.1:Key),V.bl true)).any λz=>decide (z.1=Sum.inl n))=KD.any λq=>decide (q.1=n):=by
 rw[fT];congr 1;funext q;simp
rw[e]
by_cases h:(KD.any λq=>decide (q.1=n))=true
.rw[kL h,kL h,dW,dW];apply dA;intro q _;show(if(Sum.inl q.1)=Sum.inl n then((Sum.inl q.1),V.bl _)else((Sum.inl q.1),V.bl _))=((Sum.inl (if q.1=n then(q.1,p)else q).1),V.bl _);rw[ite_self];split<;>rfl
rw[kE h,kE h,mE]
rfl)
theorem q58:∀{KD:Mp} {n:Int},(valV (dB KD) (Sum.inl n:Key)).isSome=decide (n∈KD.map (·.1))
| [],n=>rfl
|p::KD,n=>by
 show(valV (((.inl p.1:Key),V.bl true)::dB KD) (.inl n)).isSome=_;by_cases e:p.1=n
 .subst e;rw[q1A rfl,hG (by simp)];rfl
 rw[zD (λz=>e (wI z)),q58];refine cH.mpr ?_;rw[mR,kN];exact⟨.inr,λz=>z.resolve_left λy=>e y.symm⟩
theorem qCU:(dB KD).length=KD.length:=by unfold dB;rw[hU]
noncomputable def clrP(s:XS)(b:Nat):List Int:=(List.range (s.q.P-(s.q.fi.getD b 0).toNat)).map λi=>((b*s.q.P+((s.q.fi.getD b 0).toNat+i):Nat):Int)
noncomputable def opn(s:XS):List Int:=((List.range s.q.B).filter λb=>decide (s.q.fi.getD b 0≠0)).flatMap (clrP s)
noncomputable def sptL(s:XS)(l:List Nat):List Int:=opn s++l.flatMap (clrP s)
theorem q1B{f:Nat->List Int}{b:Nat}:∀{l:List Nat},b∈l->l.Nodup->(∀c∈l,c≠b->f c=[])->l.flatMap f=f b
| [],h,_,_=>absurd h (by simp)
|a::l,h,nd,e=>by
 obtain⟨n1,n2⟩:=gD.mp nd;rw[wY];by_cases z:a=b
 .subst z;rw[show l.flatMap f=[]from lS.mpr λc hc=>e c (kB _ hc) (λy=>n1 (y▸hc)),gN]
 rw[e a kX z,dS];exact q1B ((kN.mp h).resolve_left (λy=>z y.symm)) n2 λc hc=>e c (kB _ hc)
section
variable{k:Tm}{s:XS}
set_option tactic.hygienic true in
theorem qH8{n v:Int}{l:List Nat}(w:WX k s)(hr:0<s.rmX)(hl:FreeIs s.q.B (noB s.q.B) s.cl s.q.fi l):∃l',FreeIs s.q.B (noB s.q.B) s.cl (s.put n v).q.fi l'/\sptL s l=(s.np:Int)::sptL (s.put n v) l':=by(
obtain⟨O,hf,ef,sp,U⟩:=w.spot hr
have I:∀c,(s.put n v).q.fi.getD c 0=if s.pb=c then(s.pf:Int)+1 else s.q.fi.getD c 0:=q7K w.qs.ok.lf O ef
have p1:=w.qs.ok.p1
have cs:clrP s s.pb=(s.np:Int)::clrP (s.put n v) s.pb:=by unfold clrP;rw[I,kL rfl,ef];show _=_::List.map (λi=>((s.pb*s.q.P+(((s.pf:Int)+1).toNat+i):Nat):Int)) (List.range (s.q.P-((s.pf:Int)+1).toNat));rw[mC,show((s.pf:Int)+1).toNat=s.pf+1 by lia,show s.q.P-s.pf=(s.q.P-(s.pf+1))+1 by lia,List.range_succ_eq_map,mR,dW,p8];refine dL (_:: ·) (dA λi _=>?_);show((s.pb*s.q.P+(s.pf+(i+1)):Nat):Int)=((s.pb*s.q.P+(s.pf+1+i):Nat):Int);rw[show s.pf+(i+1)=s.pf+1+i by lia]
have Z:∀c,c≠s.pb->clrP (s.put n v) c=clrP s c:=λc D=>by unfold clrP;rw[I,kE (λz=>D z.symm)];rfl
have N:∀c,c<s.q.B->c≠s.pb->s.q.fi.getD c 0≠0->clrP s c=[]:=λc D ne nz=>by
 obtain⟨f,e,le⟩:=w.qs.ok.wr c D;have np:jX s.q.P s.q.fi c=false:=by
  rcases sp with z|⟨z,_⟩
  .cases y:jX s.q.P s.q.fi c with
   |false=>rfl
   |true=>exact absurd (w.on c s.pb D O y (d8 z)) ne
  unfold jW at z;rw[yJ]at z;have:=rA.mp z c (mV.mpr D);cases y:jX s.q.P s.q.fi c with
  |false=>rfl
  |true=>exact absurd y this
 have:f=s.q.P:=by
  unfold jX at np;rw[e]at np nz;by_cases z:f<s.q.P
  .rw[hG (show(0:Int)<(f:Int) by lia),hG (show(f:Int)<(s.q.P:Int) by lia)]at np;cases np
  lia
 unfold clrP;rw[e,this,mC,xC];rfl
have o':opn (s.put n v)=clrP (s.put n v) s.pb:=by
 refine q1B (mQ.mpr ⟨mV.mpr O,hG ?_⟩) (rR.filter _) (λc D ne=>?_)
 .rw[I,kL rfl];lia
 obtain⟨h1,h2⟩:=mQ.mp D;have h2:=mI h2;rw[I,kE (λz=>ne z.symm)]at h2;rw[Z c ne];exact N c (mV.mp h1) ne h2
have fl:∀J:List Nat,(∀c∈J,c≠s.pb)->J.flatMap (clrP (s.put n v))=J.flatMap (clrP s):=λJ h=>by rw[bS,bS,dA λc D=>Z c (h c D)]
rcases sp with z|⟨z,z0⟩
.have f0:=(q03 z).2.2.1;have ne:∀c∈l,c≠s.pb:=λc D e=>by have:=(hl.mem D).2.2;rw[e]at this;lia
 refine⟨l,⟨?_,hl.so⟩,?_⟩
 .have:yR s.q.B (noB s.q.B) (s.put n v).q.fi=yR s.q.B (noB s.q.B) s.q.fi:=by
   unfold yR;refine r6 λc _=>cH.mpr ?_;rw[I];split
   .rename_i e;rw[<-e];lia
   exact eO
  rw[this];exact hl.pm
 unfold sptL;rw[o',fl l ne,<-wL,<-cs];refine dL (· ++_) (q1B (mQ.mpr ⟨mV.mpr O,hG (by lia)⟩) (rR.filter _) (λc D ne=>?_));obtain⟨h1,h2⟩:=mQ.mp D;exact N c (mV.mp h1) ne (mI h2)
have S:=U l hl
unfold q1G at S
rw[z]at S
cases l with
|nil=>cases S
|cons a J=>
 obtain rfl:a=s.pb:=mB S;have nd:(s.pb::J).Nodup:=hl.pm.nodup_iff.mpr ((rR.filter _).filter _);obtain⟨n1,n2⟩:=gD.mp nd;have so:=hl.so;rw[mR]at so;refine⟨J,⟨zQ n2 ((rR.filter _).filter _) λc=>?_,(dC.mp so).2⟩,?_⟩
 .rw[q3Q,I];have:=(hl.pm.mem_iff (a:=c)).trans q3Q;rw[kN]at this;constructor
  .intro h;have ne:c≠s.pb:=λe=>n1 (e▸h);rw[kE (λe=>ne e.symm)];exact this.mp (.inr h)
  rintro⟨h1,h2⟩
  split at h2
  .lia
  rename_i ne;exact(this.mpr ⟨h1,h2⟩).resolve_left (λe=>ne e.symm)
 unfold sptL;rw[o',fl J (λc D e=>n1 (e▸D)),wY,<-wL,<-cs,show opn s=[]from lS.mpr λc D=>?_,dS];obtain⟨h1,h2⟩:=mQ.mp D;have h2:=mI h2;exact N c (mV.mp h1) (λe=>h2 (by rw[e];exact z0)) h2)
noncomputable def bhS(s0:XS)(a:Int×(Nat->Option (Int×Int)))(m:List Int):Int×(Nat->Option (Int×Int)):=(a.1+1,λj=>if j=(m.getD 2 0).toNat then some ((a.1+1)*128+m.getD 0 0,s0.val (m.getD 1 0) (m.getD 0 0))else a.2 j)
set_option tactic.hygienic true in
theorem qE0:∀{rs:List (List Int)} {s s':XS} {ms:List (List Int)},XS.mvs rs s=(s',some ms)->List.zipWith (λr e=>[r.getD 1 0,r.getD 0 0,e]) rs (ms.map λm=>m.getD 2 0)=ms/\ms.length=rs.length
| [],s,s',ms,h=>by cases h;exact⟨rfl,rfl⟩
|r::rs,s,s',ms,h=>by
 unfold XS.mvs at h;split at h
 .cases h
 split at h
 .cases h
 rename_i s2 m2 e;cases h;obtain⟨i1,i2⟩:=qE0 e;refine⟨?_,by rw[mP,mP,i2]⟩;rw[mR,p9,i1];rfl
theorem qMW{s:XS}(w:WX k s)(w':WX k s')(kp:Kp s s'):s'.hl=s.hl:=by(
have D:∀s:XS,s.hl.Pairwise _:=λs=>by
 have:=pV (le:=λa b=>decide (a<=b)) (λa b c h1 h2=>hG (p7 (mI h1) (mI h2))) (λa b=>by
  by_cases z:a<=b
  .rw[hG z];rfl
  rw[hX z,hG (show b<=a by lia)];rfl) ((s.q.V.map (·.1)).filter λn=>decide (n≠64))
 exact this.imp λz=>mI z
refine q9Y (zQ ?_ ?_ λn=>?_) (D s') (D s)
.exact(pF _ _).nodup_iff.mpr (w'.qs.ok.nd.filter _)
.exact(pF _ _).nodup_iff.mpr (w.qs.ok.nd.filter _)
rw[qCT,qCT,kp.nm])
theorem qLR{b:Nat}{l:List Nat}(w:WX k s)(f:Full k s b)(hl:FreeIs s.q.B (noB s.q.B) s.cl s.q.fi l)(h:XS.mvs (lvP s.q.P b s.q.V) s=(s',some ms)):
 ms=List.zipWith (λr e=>[r.getD 1 0,r.getD 0 0,e]) (lvP s.q.P b s.q.V) (sptL s l)/\ms.foldl (bhS s) (s.q.nx-1,s.pg)=(s'.q.nx-1,s'.pg)/\ms.length=(lvP s.q.P b s.q.V).length/\ms.length<=(sptL s l).length/\(∀m∈ms,m.length=3/\0<=m.getD 2 0/\(m.getD 2 0).toNat<s.q.B*s.q.P):=by(
obtain⟨sA,n,mA,md,lm,⟨⟨U,N,S⟩,e2,e3,e4⟩,hh⟩:=q6M (λs' ms=>(∃U,FreeIs s.q.B (noB s.q.B) s.cl s'.q.fi U/\sptL s l=ms.map (λm=>m.getD 2 0)++sptL s' U)/\ms.foldl (bhS s) (s.q.nx-1,s.pg)=(s'.q.nx-1,s'.pg)/\(∀j,j / s.q.P=b->s'.pg j=s.pg j)/\∀m∈ms,m.length=3/\0<=m.getD 2 0/\(m.getD 2 0).toNat<s.q.B*s.q.P) w f ⟨⟨l,hl,rfl⟩,rfl,λz z=>rfl,λm D=>by cases D⟩ (λs' ms n p O kp ec fb ab ae hr dk ⟨⟨U,N,S⟩,e2,e3,e4⟩=>by
 have J:0<s'.rmX:=by lia
 obtain⟨hb,hf,ef,_⟩:=O.spot J;have nb:s'.pb≠b:=λz=>by rw[z,fb]at ef;have:=kp.eP;lia
 have Z:=kp.eP;have eB:=kp.eB;have I:s'.np / s.q.P=s'.pb:=by rw[<-Z];exact yM hf
 obtain⟨l2,h2,h3⟩:=qH8 (n:=n) (v:=s'.val p n) O J (by rw[eB,ec];exact N);rw[eB,ec]at h2;refine⟨⟨l2,h2,?_⟩,?_,λj hj=>?_,λm D=>?_⟩
 .rw[mE,S,h3,wW];rfl
 .rw[cX,e2];show bhS s _ _=_;unfold bhS;have ev:s.val p n=s'.val p n:=by
   unfold XS.val;rw[qMW w O kp];split
   .rfl
   have:0<=p:=by obtain⟨c,g,_,_,_,a3,_⟩:=O.vl _ ab;have a3:p=_:=a3;rw[a3];lia
   rw[e3 p.toNat];have h1:((p.toNat / s.q.P:Nat):Int)=(b:Int):=by rw[dX,nH this];exact ae
   lia
  show(_,λj=>if j=s'.np then some (_,s.val p n)else _)=_;rw[ev];show(s'.q.nx-1+1,λj=>if j=s'.np then some ((s'.q.nx-1+1)*128+n,_)else _)=(s'.q.nx+1-1,_);rw[show s'.q.nx-1+1=s'.q.nx by lia,show s'.q.nx+1-1=s'.q.nx by lia];rfl
 .show(if j=s'.np then _ else s'.pg j)=_;rw[kE (λz=>nb (by rw[<-I,<-z];exact hj))];exact e3 j hj
 rcases gQ.mp D with D|D
 .exact e4 m D
 rw[kD.mp D];refine⟨rfl,aS _,?_⟩;show s'.np< _;rw[<-eB,<-Z];exact(cV O.qs.ok.p1).mp (by rw[Z,I];exact hb))
rcases hh with⟨z,_⟩|⟨z,_⟩
.rw[h]at z;cases z
rw[h]at z
cases z
obtain⟨i1,i2⟩:=qE0 h
refine⟨?_,e2,i2,by rw[S,kU,hU];lia,e4⟩
rw[S]
have:∀{rs:List (List Int)} {A C:List Int},A.length=rs.length->List.zipWith (λr e=>[r.getD 1 0,r.getD 0 0,e]) rs (A++C)=List.zipWith (λr e=>[r.getD 1 0,r.getD 0 0,e]) rs A:=fun {rs}=>by
 induction rs with
 |nil=>intro A C _;rfl
 |cons r rs ih=>
  intro A C hA;cases A with
  |nil=>cases hA
  |cons a A=>rw[wL,p9,p9,ih (by simpa using hA)]
rw[this (by rw[hU];exact i2)]
exact i1.symm)
def TopN(s:XS)(n:Int):Prop:=∃p v,(n,p)∈s.q.V/\s.pg p.toNat=some v/\v.1 / 128=s.q.nx-1
def Top(s:XS):Prop:=s.q.nx=1\/∃n,TopN s n
theorem qE1{n v:Int}(n0:0<=n)(n1:n<=64):TopN (s.put n v) n:=⟨(s.np),_,uB.mpr (.inl rfl),by
 show(if(s.np:Int).toNat=s.np then _ else _)=_;rw[mC,kL rfl],by
 show(s.q.nx*128+n) / 128=s.q.nx+1-1;lia⟩
theorem qE2:Kpr k Top:=⟨λs n v w hr n0 n1 h=>.inr ⟨n,qE1 n0 n1⟩,λs b w hb nl h=>h.imp id λ⟨n,p,v,h1,h2,h3⟩=>⟨n,p,v,h1,by
 show(if p.toNat / s.q.P=b then none else s.pg _)=some v;rw[kE,h2];intro z;obtain⟨c,g,_,_,_,a3,_⟩:=w.vl _ h1;have a3:p=_:=a3;refine nl _ h1 ?_;rw[<-z,dX,nH (by rw[a3];lia)],h3⟩⟩
theorem qIY{i:Nat}{X:Sx}{n v:Int}{p:Nat}(n0:0<=n)(n1:n<=64)(h:X.ask k i n v=some (Y,.ok p)):TopN Y.s n:=by(
unfold Sx.ask at h
split at h
.cases h
.lia
split at h
.lia
cases h
exact qE1 n0 n1)
theorem TopN.forgs:∀{g:List Int} {s:XS} {n:Int},TopN s n->n∉g->TopN (s.forgs g) n
| [],_,_,h,_=>h
|m::g,s,n,h,ng=>by refine TopN.forgs (g:=g) (s:=s.forg m) ?_ (λz=>ng (kB _ z));obtain⟨p,v,h1,h2,h3⟩:=h;exact⟨p,v,jC.mpr ⟨h1,λz=>ng (by rw[<-z];exact kX)⟩,h2,h3⟩
theorem Lat.mv(h:Lat s.pg (λz=>True) N W)(p:Pgs s)(vn:∀y∈s.q.V,0<=y.2/\y.2.toNat<N){i:Nat}{v:Int×Int}(e:s.pg i=some v)(hq:(v.1%128,q)∈W):(q=(i:Int)/\(v.1%128=64\/∃p,(v.1%128,p)∈s.q.V))↔(v.1%128,(i:Int))∈s.q.V:=by(
obtain⟨_,j,u,hj,O,J,en,Z⟩:=h.fr _ hq
have O:q=(j:Int):=O
have I:∀r,(v.1%128,r)∈s.q.V->r=(j:Int):=λr D=>by obtain⟨x,S,U,u3⟩:=p.nw _ D;obtain⟨q0,qN⟩:=vn _ D;have q0:0<=r:=q0;have m1:=Z r.toNat x qN S U;have m2:=u3 j _ J en;have:j=r.toNat:=p.one j r.toNat _ _ J S (by lia);lia
constructor
.rintro⟨e1,e2⟩
 have:∃r,(v.1%128,r)∈s.q.V:=by
  rcases e2 with z|z
  .obtain⟨r,D⟩:=p.rl ⟨i,_,e,z⟩;exact⟨r,by rw[z];exact D⟩
  exact z
 obtain⟨r,D⟩:=this;have:=I r D;rw[<-e1,O,<-this];exact D
intro D
exact⟨O.trans (I _ D).symm,.inr ⟨_,D⟩⟩)
theorem qEV{V:Mp}{n i:Int}(pd:(V.map (·.2)).Nodup)(h:(n,i)∈V):(V.find? λy=>decide (y.2=i))=some (n,i):=by(
cases e:V.find? λy=>decide (y.2=i)with
|none=>exact absurd (hG rfl) (rA.mp e _ h)
|some y=>
 have h1:=rM e;have h2:=mI (d8 (p:=λy=>decide _) e);induction V with
 |nil=>grind
 |cons a V N=>
  rw[mR]at pd;obtain⟨I,J⟩:=gD.mp pd;rcases kN.mp h with z|z<;>rcases kN.mp h1 with D|D
  .rw[D,<-z]
  .exact(I (kP.mpr ⟨y,D,by rw[<-z];exact h2⟩)).elim
  .exact(I (kP.mpr ⟨_,z,by rw[<-D,h2]⟩)).elim
  rw[d7]at e;split at e
  .grind
  exact N J z e D)
noncomputable def lvF(s:XS)(b f:Nat):List (List Int):=(List.range f).filterMap λf=>(s.q.V.find? λy=>decide (y.2=((b*s.q.P+f:Nat):Int))).map λy=>[y.1,y.2]
theorem q59{b:Nat}:lvF s b s.q.P=(lvP s.q.P b s.q.V).map λr=>[r.getD 1 0,r.getD 0 0]:=by(
unfold lvF lvP
rw[List.map_filterMap]
refine dL (λg=>List.filterMap g _) (funext λf=>?_)
rw[Option.map_map]
rfl)
theorem qIZ{b f:Nat}{n:Int}(w:WX k s)(h:(n,((b*s.q.P+f:Nat):Int))∈s.q.V):lvF s b (f+1)=lvF s b f++[[n,((b*s.q.P+f:Nat):Int)]]:=by unfold lvF;rw[r9,sG,dY,qEV w.pd h];rfl
theorem qLS{b f:Nat}(h:∀n,(n,((b*s.q.P+f:Nat):Int))∉s.q.V):lvF s b (f+1)=lvF s b f:=by(
unfold lvF
have:(s.q.V.find? λy=>decide (y.2=((b*s.q.P+f:Nat):Int)))=none:=rA.mpr λy D z=>h y.1 (by have:=mI z;rw[<-this];exact D)
rw[r9,sG,dY,this]
simp)
theorem qJ0{X:Sx}{p:Pa}{l:List Nat}(x:Ix k X.s)(wt:Wt k X.s)(ok:X.g.Ok)(hl:FreeIs X.s.q.B (noB X.s.q.B) X.s.cl X.s.q.fi l)(h:X.room k=(Y,.ok p)):Full k X.s p.b/\p.mv=List.zipWith (λa e=>[a.getD 0 0,a.getD 1 0,e]) (lvF X.s p.b X.s.q.P) (sptL X.s l)/\(lvF X.s p.b X.s.q.P).length<=(sptL X.s l).length/\(∀m∈p.mv,∃n q e,m=[n,q,e]/\(n,q)∈X.s.q.V/\0<=e/\e.toNat<X.s.q.B*X.s.q.P)/\Y.s.pg=λj=>if j / X.s.q.P=p.b then none else(p.mv.foldl (bhS X.s) (X.s.q.nx-1,X.s.pg)).2 j:=by(
obtain⟨_,_,_,_,_,⟨g',tk⟩,_,_,s',hm,eY,md⟩:=q56 x wt ok h
have f:=q3T ok tk
obtain⟨J,S,U,m4,m5⟩:=qLR x.w f hl hm
have ez:List.zipWith (λa e=>[a.getD 0 0,a.getD 1 0,e]) (lvF X.s p.b X.s.q.P) (sptL X.s l)=List.zipWith (λr e=>[r.getD 1 0,r.getD 0 0,e]) (lvP X.s.q.P p.b X.s.q.V) (sptL X.s l):=by rw[q59,List.zipWith_map_left];rfl
refine⟨f,J.trans ez.symm,by rw[q59,hU,<-U];exact m4,λm z=>?_,?_⟩
.obtain⟨_,I,D⟩:=m5 m z;rw[J]at z;obtain⟨i,N,rfl⟩:=wC z;rw[List.getElem_zipWith]at I D ⊢;rw[xZ]at N;have Z:(lvP X.s.q.P p.b X.s.q.V)[i]∈lvP X.s.q.P p.b X.s.q.V:=gG (by lia);obtain⟨y,O,_,e⟩:=(q3R x.w.qs.ok.p1 x.w.pd).mp Z;rw[e]at I D ⊢;exact⟨y.1,y.2,_,rfl,O,I,D⟩
rw[eY,S]
show(λi=>if i / s'.q.P=p.b then none else s'.pg i)=_
rw[md.eP])
structure Pk(s:XS):Prop where
pw:Pw s
top:Top s
lf:s.lf=none
rc:s.q.nx=1\/s.rc≠[]
theorem qH9:Kpr k Pk:=⟨λs n v w hr n0 n1 h=>⟨qH6.p s n v w hr n0 n1 h.pw,qE2.p s n v w hr n0 n1 h.top,by
 show s.lf.map _=none;rw[h.lf];rfl,.inr (by show s.rc++[_]≠[];simp)⟩,λs b w hb nl h=>⟨qH6.w s b w hb nl h.pw,qE2.w s b w hb nl h.top,by
 show s.lf.map _=none;rw[h.lf];rfl,.inr (by show s.rc++[_]≠[];simp)⟩⟩
theorem q7N:∀{g:List Int} {s:XS},(s.forgs g).q.nx=s.q.nx
| [],_=>rfl
|m::g,s=>q7N (g:=g) (s:=s.forg m)
theorem Pk.forgs{n:Int}(h:Pk s)(x:Ix k s)(ne:∀m∈g,m≠64)(t:TopN s n)(ng:n∉g):Pk (s.forgs g):=by obtain⟨_,_,D,_,z,_⟩:=q04 x g;exact⟨⟨h.pw.1.forgs ne,h.pw.2.forgs x g⟩,.inr ⟨n,t.forgs ng⟩,z.trans h.lf,by rw[q7N,D];exact h.rc⟩
theorem qHA{ns:List Int}(nd:ns.Nodup)(h:∀n∈ns,0<=n/\n<64):XS.bits ns=(ns.map λn=>(2:Int) ^ n.toNat).sum:=by(
have I:(ns.map Int.toNat).Nodup:=dO.mpr (nd.imp_of_mem fun {a b} ha hb ne z=>ne (by grind))
have D:∀u∈ns.map Int.toNat,u<64:=λu O=>by obtain⟨y,N,rfl⟩:=kP.mp O;have:=h y N;lia
have J:orB (ns.map Int.toNat) 0=((ns.map Int.toNat).map λk=>(2) ^ k).sum:=by rw[qA0 D,<-q9F];refine List.Perm.sum_nat ((zQ (rR.filter _) I λu=>?_).map _);rw[mQ,mV,mG];exact⟨λz=>z.2,λz=>⟨D u z,z⟩⟩
unfold XS.bits
rw[J,dW]
clear J I D nd h
induction ns with
|nil=>rfl
|cons a r S=>simp_all)
theorem Kd.made(h:Kd k sh sr X KD)(a:RmX k X Y):Kd k sh sr Y KD:=by have z:=h.h64;exact⟨a.x,a.wt,a.ok,h.nd,h.kb,λm I=>by rw[a.kp.nm,h.eq m I],λy D=>a.hv _ _ (by have:=h.kb y D;lia) (h.hv y D),h.ls,by rw[a.kp.eB,a.kp.eP];exact h.hs,h.s57,z⟩
theorem Kd.bits(h:Kd k sh sr X KD):(KD.map λy=>(2:Int) ^ y.1.toNat).sum=XS.bits X.s.hl:=by(
have N:=h.h64
have D:∀n∈KD.map (·.1),0<=n/\n<64:=λn I=>by obtain⟨y,J,rfl⟩:=kP.mp I;have:=h.kb y J;lia
have e:=qHA h.nd D
rw[dW]at e
refine e.symm.trans ?_
have z:∀{l:List Int},(∀n∈l,0<=n/\n<64)->∀u∈l.map Int.toNat,u<64:=fun {l} hl u hu=>by obtain⟨y,J,rfl⟩:=kP.mp hu;simp_all
unfold XS.bits
rw[qA0 (z D),qA0 (z λn I=>D n (h.hl.mp I))]
refine dL _ (q4C 64 λu U=>cH.mpr ?_)
rw[kP,kP]
exact exists_congr λa=>and_congr_left λU=>h.hl.symm)
end
noncomputable def bst(f:Tl->Int)(b a:Tl):Tl:=if f a<f b then a else b
structure Bst(f:Tl->Int)(l:List Tl)(b:Tl):Prop where
sp:∃as bs,l=as++b::bs/\∀x∈as,f b<f x
le:∀x∈l,f b<=f x
theorem Bst.one{f:Tl->Int}{a:Tl}:Bst f [a] a:=⟨⟨[],[],rfl,λx hx=>(by cases hx)⟩,λx hx=>(by rw[kD.mp hx];exact gU _)⟩
theorem Bst.step{f:Tl->Int}{l:List Tl}{b a:Tl}(h:Bst f l b):Bst f (l++[a]) (bst f b a):=by(
unfold bst
split
.rename _=>z;refine⟨⟨l,[],rfl,λx D=>nQ z (h.le x D)⟩,λx D=>?_⟩;rcases gQ.mp D with D|D
 .exact pA (nQ z (h.le x D))
 rw[kD.mp D];exact gU _
rename _=>z
obtain⟨I,bs,e,lt⟩:=h.sp
refine⟨⟨I,bs++[a],by simp_all,lt⟩,λx D=>?_⟩
rcases gQ.mp D with D|D
.exact h.le x D
rw[kD.mp D]
exact xB.mp z)
theorem Bst.pk{f:Tl->Int}{l:List Tl}{b:Tl}(h:Bst f l b):pk f l=b.b:=by(
have:l.find? (unb f l)=some b:=by
 obtain⟨D,bs,e,lt⟩:=h.sp;refine List.find?_eq_some_iff_append.mpr ⟨?_,D,bs,e,λx z=>?_⟩
 .unfold unb;rw[dU];intro x z;rw[hX (xB.mpr (h.le x z))];rfl
 have:b∈l:=by simp_all
 rw[rD];unfold unb;rw[List.all_eq_false];exact⟨b,this,by rw[hG (lt x z)];decide⟩
unfold W1.pk
rw[this]
rfl)
theorem qLT{n:Nat}:fo row (min n row.length) ts=fo row n ts:=by(
by_cases z:n<=row.length
.rw[eL z]
rw[bT (by lia)]
unfold fo
rw[gR (kO _),gR (by lia)])
noncomputable def ruN(ps:List Pa):Nat:=(ps.filter λp=>decide (p.why=Str.ofString "rule")).length
def FoR(X:Sx):Prop:=∀row u,X.g=.fol row u->u=min (ruN X.ps) row.length
theorem FoR.room{k:Tm}{p:Pa}(h:FoR X)(ok:X.g.Ok)(w:WX k X.s)(hr:X.room k=(Y,.ok p)):FoR Y:=by(
have z:=q55 w ok
rw[hr]at z
cases z with
|ok tk mv J S U O rm=>
 intro I u e;unfold ruN;rw[m7,kU];rcases v6 ok tk with⟨rfl,_,_,eg⟩|⟨rfl,_,_,eg,_⟩
 .rw[eg]at e;cases hg:X.g with
  |rk f=>rw[hg]at e;cases e
  |win m=>rw[hg]at e;cases e
  |fol D N=>rw[hg]at e;cases e;have:=h _ _ hg;unfold ruN at this;show _=min (_ +1) _;lia
 rw[eg]at e;have:=h _ _ e;assumption)
set_option tactic.hygienic true in
theorem FoR.rooms{k:Tm}:∀{i:Nat} {X Y:Sx} {r:Except Rf Unit},WX k X.s->X.g.Ok->X.rooms k i=some (Y,.ok ())->FoR X->FoR Y
|0,X,Y,r,w,ok,h,c=>by
 unfold Sx.rooms at h;split at h
 .cases h;exact c
 cases h
|i+1,X,Y,r,w,ok,h,c=>by
 unfold Sx.rooms at h;split at h
 .cases h;exact c
 split at h
 .cases h
 rename_i Z p hz;obtain⟨w2,ok2,_⟩:=q6N w ok hz;exact FoR.rooms (r:=r) w2 ok2 h (c.room ok w hz)
set_option tactic.hygienic true in
theorem FoR.ask{k:Tm}{i:Nat}{n v:Int}{p:Nat}(c:FoR X)(w:WX k X.s)(ok:X.g.Ok)(h:X.ask k i n v=some (Y,.ok p)):FoR Y:=by(
unfold Sx.ask at h
split at h
.cases h
.lia
rename_i Z u z
split at h
.lia
cases h
have:=FoR.rooms  (r:=.ok ()) w ok z c
assumption)
theorem qHB{a b c:Int}(h:lx [a,b] [c,d]=false):c<=a/\(a=c->d<=b):=by(
unfold lx at h
by_cases z:a=c
.rw[kL z]at h;unfold lx at h;lia
simp_all)
theorem qJ1{s:XS}{L:List Nat}{b:Nat}(pw:L.Pairwise (· < ·))(h:minF s.cl L=some b):Bst Tl.cl (L.map s.tl) (s.tl b):=by(
obtain⟨h1,h2⟩:=(zR  pw).2 b h
obtain⟨N,bs,e⟩:=List.append_of_mem h1
refine⟨⟨N.map _,bs.map _,by rw[e,mE];rfl,λx I=>?_⟩,λx I=>?_⟩
.obtain⟨c,D,rfl⟩:=kP.mp I;have J:c∈L:=by rw[e];exact gX _ D
 obtain⟨O,S⟩:=qHB (h2 c J);have:=by rw[e]at pw;exact(List.pairwise_append.mp pw).2.2 c D b kX
 rcases Int.lt_or_eq_of_le O with z|z
 .exact z
 lia
obtain⟨c,D,rfl⟩:=kP.mp I
exact(qHB (h2 c D)).1)
noncomputable def ptN(rc:List (Str×Int×Bool)):Nat:=(rc.filter λd=>decide (d.1=Str.ofString "put")).length
theorem qA5{a b:List (Str×Int×Bool)}:ptN (a++b)=ptN a+ptN b:=by unfold ptN;rw[m7,kU]
structure Pj(s:XS):Prop where
pk:Pk s
nx:s.q.nx=1+(ptN s.rc:Int)
theorem q2Q{k:Tm}:Kpr k Pj:=⟨λs n v w hr n0 n1 h=>⟨qH9.p s n v w hr n0 n1 h.pk,by
 show s.q.nx+1=1+(ptN (s.rc++[(Str.ofString _,(s.np:Int),true)]));rw[qA5,h.nx,show ptN [(Str.ofString _,(s.np),true)]=1 from rfl];lia⟩,λs b w hb nl h=>⟨qH9.w s b w hb nl h.pk,by
 show s.q.nx=1+(ptN (s.rc++[(Str.ofString _,(b:Int),true)]));rw[qA5,h.nx,show ptN [(Str.ofString _,(b),true)]=0 from rfl];lia⟩⟩
theorem Pj.forgs{k:Tm}{s:XS}{n:Int}(h:Pj s)(x:Ix k s)(ne:∀m∈g,m≠64)(t:TopN s n)(ng:n∉g):Pj (s.forgs g):=by obtain⟨_,_,z,_⟩:=q04 x g;exact⟨h.pk.forgs x ne t ng,by rw[q7N,z];exact h.nx⟩
def Gs(g0 g:Rl):Prop:=(∃f,g0=.rk f/\g=.rk f)\/∃row u u',g0=.fol row u/\g=.fol row u'
theorem Gs.ch(h:Gs g0 g):Gs g0 (g.ch pg nw ts).2:=by(
rcases h with⟨f,e,rfl⟩|⟨row,u,u',e,rfl⟩
.exact .inl ⟨f,e,rfl⟩
exact .inr ⟨row,u,_,e,rfl⟩)
theorem Gs.room{k:Tm}{X:Sx}{r:Except Rf Pa}(h:Gs g0 X.g)(ok:X.g.Ok)(w:WX k X.s)(hr:X.room k=(Y,r)):Gs g0 Y.g:=by(
have tk:∀{y b g'},X.s.tk k X.g=some (y,b,g')->Gs g0 g':=fun {y b g'} e=>by
 rcases v6 ok e with⟨_,_,_,eg⟩|⟨_,_,_,eg,_⟩
 .rw[eg];exact h.ch
 simp_all
have z:=q55 w ok
rw[hr]at z
cases z with
|no _=>exact h
|dark e _ _ _=>exact tk e
|ok e _ _ _ _ _ _=>exact tk e)
set_option tactic.hygienic true in
theorem Gs.rooms{k:Tm}:∀{i:Nat} {X Y:Sx} {r:Except Rf Unit},WX k X.s->X.g.Ok->X.rooms k i=some (Y,r)->Gs g0 X.g->Gs g0 Y.g
|0,X,Y,r,w,ok,h,c=>by
 unfold Sx.rooms at h;split at h
 .cases h;exact c
 cases h
|i+1,X,Y,r,w,ok,h,c=>by
 unfold Sx.rooms at h;split at h
 .cases h;exact c
 split at h
 .rename_i Z e hz;cases h;exact c.room ok w hz
 rename_i Z p hz;obtain⟨w2,ok2,_⟩:=q6N w ok hz;exact Gs.rooms w2 ok2 h (c.room ok w hz)
set_option tactic.hygienic true in
theorem Gs.ask{k:Tm}{i:Nat}{X:Sx}{n v:Int}{r:Except Rf Nat}(c:Gs g0 X.g)(w:WX k X.s)(ok:X.g.Ok)(h:X.ask k i n v=some (Y,r)):Gs g0 Y.g:=by(
unfold Sx.ask at h
split at h
.cases h
.rename_i Z e z;cases h;exact Gs.rooms w ok z c
rename_i Z u z
have:=Gs.rooms w ok z c
lia)
end W1
namespace L2
open PySem PySem.Spec PyProof.Rows
section
variable{prog:Program}{w:World}{A:Around}{E:Value->Shared->Prop}
theorem qE3{s:Shared}{f:Builtin}(h1:builtinKind nm=none)(h2:plainId nm=true)(h3:entryFor table nm=some f)(h4:argsOk nm ⟨us,ks⟩)
 (go:wpAny (model prog w) A.in1 (f ⟨us,ks⟩) (λfin s'=>match fin with| .done r=>(match(Except.ok r:Result)with| .ok (.ret v)=>Q v s'| .ok _=>False| .error e=>E e s')| .again c=>c.quiet=true/\codeAny (model prog w) A c (λr s'=>match r with| .ok (.ret v)=>Q v s'| .ok _=>False| .error e=>E e s') s') E s):
 wpAny (model prog w) A (call (.builtin nm) us ks) Q E s:=pN (sR h2 h3 (by simp only[checkBuiltinCall,h1];unfold argsOk at h4;cases e:Manifest.signature? nm with
 |none=>exact mO go
 |some sg=>rw[e]at h4;simp only[h4];exact mO go))
theorem qJ2(a d:Value):argsOk "min" ⟨[a],[(Str.ofString "default",d)]⟩:=by rfl
theorem qHC{n:Nat}{P:Nat->Value->Prop}{St:Nat->Heap->Prop}(val:Nat->Int)(hval:∀i v,P i v->∃t,v=.int (val i) t)
 (W:Walks prog w A.in1 I fp wr n P St) (nB:B∉fp):∀(r j i0:Nat) (s:Shared) (v0:Value) (c:Nat),j+r=n->St j s.heap->P i0 v0->i0<j->(∀i,i<j->val i0<=val i)->s.heap.get? B=some { cls:=.type "list",dict:=none,data:=.seq #[v0,v0] c,slots:=#[] }->(∀i v h' tk,P i v->i<n->(∀i',i'<n->val i<=val i')->(∀b o,b∉wr->b≠B->s.heap.get? b=some o->h'.get? b=some o)->R (.ok (.ret v)) { s with heap:=h',toks:=tk })->codeAny (model prog w) A (.builtin "min.loop" ⟨[.ref I,.none,.ref B],kw⟩) R s:=by(
have wB:B∉wr:=λz=>nB (W.sub _ z)
have nm:(toString "min"++toString ".loop":String)="min.loop":=by decide
intro r
induction r with
|zero=>intro j i0 s v0 c ej st Z l0 le U fin;obtain rfl:j=n:=ej;refine cR rF (id ?_);rw[rT gJ _];show wpAny _ A.in1 (seqItems? (.ref B) >>= _) _ (λz z=>_) _;refine kI (c9 U rfl ?_);show wpAny _ A.in1 (tryCatch (pyNext (.ref I)) _ >>= _) _ (λz z=>_) _;refine kI (rG (W.done s _ _ st λh1 t1 kp=>?_));show wpAny _ A.in1 (updateSeq B (λz=>#[]) >>= _) _ (λz z=>_) _;refine kI ?_;exact cS (kp B _ wB U) rfl (kI (cJ (mO (fin i0 v0 _ t1 Z l0 le λb o J N e=>(mJ _ _ N.symm).trans (kp b o J e)))))
|succ r ih=>
 intro j i0 s v0 c ej st Z l0 le U fin;refine cR rF (id ?_);rw[rT gJ _];show wpAny _ A.in1 (seqItems? (.ref B) >>= _) _ (λz z=>_) _;refine kI (c9 U rfl ?_);show wpAny _ A.in1 (tryCatch (pyNext (.ref I)) _ >>= _) _ (λz z=>_) _;refine kI (rG (W.item j s _ _ (by omega) st λO h1 t1 p1 S kp=>?_));have D:=kp B _ wB U;show wpAny _ A.in1 (tryCatch (holding [O,O] (richCompare .Lt O v0 >>= _)) _ >>= _) _ (λz z=>_) _;refine kI (rG (g9 (kI (CmpOf.ints_lt val hval j i0 O v0 _ _ _ p1 Z (kI (g9 (dH (kI (cJ (mO ?_))))))))));dsimp only;by_cases z:val j<val i0
 .rw[hG z];rw[kL rfl];refine kI (cS D rfl (kI (cJ ?_)));rw[nm];refine mO ⟨cB gJ _,ih (j+1) j _ O _ (by omega) (W.frame _ _ _ S λb hb o e=>(mJ _ _ λy:B=b=>nB (by rw[y];exact hb)).trans e) p1 (by omega) (λi hi=>?_) (rO _ D rfl) λi v h2 t2 a1 a2 a3 a4=>fin i v h2 t2 a1 a2 a3 λb o J N e=>a4 b o J N ((mJ _ _ N.symm).trans (kp b o J e))⟩;by_cases y:i=j
  .rw[y];omega
  have:=le i (by omega);omega
 rw[hX z];rw[kE (by decide)];refine kI (cJ ?_);rw[nm];refine mO ⟨cB gJ _,ih (j+1) i0 _ v0 c (by omega) S Z (by omega) (λi hi=>?_) D λi v h2 t2 a1 a2 a3 a4=>fin i v h2 t2 a1 a2 a3 λb o J N e=>a4 b o J N (kp b o J e)⟩;by_cases y:i=j
 .rw[y];omega
 exact le i (by omega))
theorem qHD{s:Shared}{l:Addr}(hh:A.handled=none)(hl:s.heap.IsList l (intItems xs))(h0:xs.size=0->∀h' tk,(∀b o,s.heap.get? b=some o->h'.get? b=some o)->Q d { s with heap:=h',toks:=tk })
 (h1':∀i v h' tk,(intItems xs)[i]?=some v->i<xs.size->(∀i',i'<xs.size->numAt xs i<=numAt xs i')->(∀b o,s.heap.get? b=some o->h'.get? b=some o)->Q v { s with heap:=h',toks:=tk }):
 wpAny (model prog w) A (call (.builtin "min") [.ref l] [(Str.ofString "default",d)]) Q E s:=by(
have nm:(toString "min"++toString ".loop":String)="min.loop":=by decide
have zs:(intItems xs).size=xs.size:=by simp[intItems]
refine qE3 bU bI bJ (qJ2 _ _) ?_
refine kI (m:=Builtin.Builtins.bindParams "min" ["key","default"] 0 ⟨[],[(Str.ofString "default",d)]⟩) (wpAny_of_eq (a:=[none,some d]) rfl ?_)
refine kI (mO (kI (iter_intList hl λs2 e st N ne=>?_)))
subst e
refine kI (pJ ?_ (m9 _))
rw[nm]
refine mO ⟨cB gJ _,?_⟩
have W:=l9 (prog:=prog) (w:=w) (A:=A.in1) hh s.heap.objs.size l ne (intItems xs)
have gB:=mZ (o:={ cls:=.type "list",data:=.seq #[] }) (s.heap.push { cls:=.type "list_iterator",data:=.fields #[.ref l,.int 0 0] }) rfl
have S:(s.heap.push { cls:=.type "list_iterator",data:=.fields #[.ref l,.int 0 0] }).objs.size∉[s.heap.objs.size,l]:=λz=>dR _ (N _ z)
have D:∀{b:Addr} {o:Obj},s.heap.get? b=some o->b≠s.heap.objs.size/\b≠(s.heap.push { cls:=.type "list_iterator",data:=.fields #[.ref l,.int 0 0] }).objs.size:=fun {b o} e=>⟨gC (mD e),gC (mD (kM _ e))⟩
refine cR rF (id ?_)
rw[rT gJ _]
refine kI (c9 gB rfl ?_)
show wpAny _ A.in1 (tryCatch (pyNext (.ref s.heap.objs.size)) _ >>= _) _ (λz z=>_) _
refine kI (rG ?_)
have J:=W.frame 0 _ (Heap.push (Heap.push s.heap { cls:=.type "list_iterator",data:=.fields #[.ref l,.int 0 0] }) ({ cls:=.type "list",data:=.seq #[] }:Obj)) st λb _ o e=>kM _ e
have wB:=λz=>S (W.sub _ z)
by_cases z:xs.size=0
.refine W.done _ _ _ (by rw[zs,z];exact J) λh1 t1 kp=>?_;exact kI (wpAny_rule (mO (h0 z h1 t1 λb o e=>kp b o (by simpa using(D e).1) (kM _ (kM _ e)))))
refine W.item 0 _ _ _ (by rw[zs];omega) J λO h1 t1 p1 U kp=>?_
have I:=kp (s.heap.push { cls:=.type "list_iterator",data:=.fields #[.ref l,.int 0 0] }).objs.size _ wB gB
show wpAny _ A.in1 (updateSeq (s.heap.push { cls:=.type "list_iterator",data:=.fields #[.ref l,.int 0 0] }).objs.size (λz=>#[O,O]) >>= _) _ (λz z=>_) _
refine kI (cS I rfl ?_)
rw[nm]
refine mO ⟨cB gJ _,qHC (numAt xs) (λz z=>lC) W S (xs.size-1) 1 0 _ O _ (by rw[zs];omega) (W.frame _ _ _ U λb hb o e=>(mJ _ _ λy:(s.heap.push { cls:=.type "list_iterator",data:=.fields #[.ref l,.int 0 0] }).objs.size=b=>S (by rw[y];exact hb)).trans e) p1 (by omega) (λi hi=>?_) (rO _ I rfl) λi v h2 t2 a1 Z a3 a4=>?_⟩
.rw[show i=0 by omega];exact gU _
rw[zs]at Z a3
exact h1' i v h2 t2 a1 Z a3 λb o e=>a4 b o (by simpa using(D e).1) (D e).2 ((mJ _ _ (D e).2.symm).trans (kp b o (by simpa using(D e).1) (kM _ (kM _ e)))))
end
def qMX(K:PySem.W.Frag)(d:Int)(ta:TA):TE:=λσ H Q=>ta σ H λvs H1=>∃(p:Addr) (ns:List Int),vs=[.ref p]/\SqL K H1 p (ns.map V.int)/\(ns=[]->Q (.int d) H1)/\∀M,M∈ns->(∀a∈ns,M<=a)->Q (.int M) H1
theorem qJ3{X:Cx}{c:Expr}{p kp:Pos}(hc:X.calm=true)(hg:Gl X "min")(hm:X.mg "min"=none)(hd:PE X c (tC (.int d)))(ha:PA X [e] ta)(he:starEach [e] X.env=[(false,eval e X.env)]:=by rfl)(hse:starEach ([]:List Expr) X.env=[]:=by rfl):
 PE X (.Call (.Name "min" p) [e] [⟨some "default",c,kp⟩] pos) (qMX X.K d ta):=by(
intro pins s σ H Q I h
refine d9 (q1R I hg hm (u:=.builtin "min") (by kernel_rfl) ?_ (by decide) (by decide))
refine bW (thn (ha pos pins s σ H _ I h) λus Z ⟨vs,H1,I1,U,q1⟩=>?_) (by rw[he,hse];rfl) (by rw[he];rfl)
have pk:PK X [⟨some "default",c,kp⟩] _:=q9N hd qC9
refine thn (pk pos pins Z σ H1 (λxs H2=>xs=[.int d]/\H2=H1) I1 ⟨rfl,rfl⟩) λws s2 hZ=>?_
obtain⟨xs,H2,J,r2,ex,eH⟩:=hZ
subst ex eH
obtain⟨w,rfl,td,rfl⟩:=q00 r2
obtain⟨l,ns,ev,hq,h0,h1⟩:=q1
subst ev
obtain⟨u,rfl,ru⟩:=q00 U
obtain rfl:u=Value.ref l:=ru
obtain⟨ak,rv,S,hz⟩:=J.list hq
have N:=q1Y rv
obtain⟨xs,e⟩:=N.allInts.items
have D:ns=xs.toList.map (·.1):=by rw[<-N.numsOf,<-lF,<-e]
have hl:=S.isList
rw[e]at hl
refine qHD (J.ok.hd hc) hl (λz h' tk kp=>⟨.int d,_,J.kept kp,⟨_,rfl⟩,h0 ?_⟩) (λi v h' tk hv N le kp=>?_)
.rw[D,Array.eq_empty_of_size_eq_zero z];rfl
obtain⟨t,rfl⟩:=lC hv
refine⟨.int _,_,J.kept kp,⟨t,rfl⟩,h1 _ ?_ λa ha=>?_⟩
.rw[D,xT];exact getD_mem (by rw[hU,mW];omega)
rw[D]at ha
obtain⟨j,O,rfl⟩:=mem_getD ha
rw[hU,mW]at O
rw[<-xT]
exact le j O)
end L2
namespace L2
open PySem PySem.W PySem.Spec PyProof.Rows
theorem qJ4(a d:Value):argsOk "min" ⟨[a],[(Str.ofString "key",d)]⟩:=by rfl
def KeyI(K:PySem.W.Frag)(kf:Nat->List Int)(H:Hp)(zs:List V):Prop:=∀j z,zs[j]?=some z->TupI K H z (kf j)
section
variable{X:Cx}{pins:List (Addr×Obj)}{σ:St}
theorem qJ5{A:Around}{s:Shared}(I:Inv X pins σ H s)(hu:A.units+1<cLine)(t1:TupI X.K H z1 k1)(t2:TupI X.K H z2 k2)(r1:RelV z1 u1)(r2:RelV z2 u2)(c:Q (.bool (lx k1 k2)) s):wpAny (model X.prog X.w) A (richCompare .Lt u1 u2) Q E s:=by(
have O:=q51 I (.cons r1 .nil) (.cons t1 .nil)
have p2:=q51 I (.cons r2 .nil) (.cons t2 .nil)
obtain⟨S,J,a1,N,rfl,z,i1⟩:=Paired.at (i:=0) O rfl
obtain⟨D,g2,a2,U,rfl,Z,i2⟩:=Paired.at (i:=0) p2 rfl
cases J
cases g2
rw[<-qBF]at c
exact HT.lt_tupInts   z Z (by simp_all) (by simp_all) (bA hu) c)
theorem qJ6{l f:Addr}(hc:X.A.handled=none)(hu:X.A.units+64<cLine)(Pv:Nat->List V->Hp->Prop)
 (hq:∀i zs H',Pv i zs H'->SqL X.K H' l us/\zs.length=i/\KeyI X.K kf H' zs) (nl:l≠I) (nS:S≠I) (nlS:l≠S)
 (hI:∀H',H' I=none->FpOk X pins H' I) (hS:∀H',H' S=none->FpOk X pins H' S)
 (hs:∀i x zs H' pins' s' u,us[i]?=some x->RelV x u->Pv i zs H'->Inv { X with A:=X.A.in1,xe:=λz z=>False } pins' σ H' s'->wpAny (model X.prog X.w) X.A.in1 (call (.ref f) [u]) (EP { X with A:=X.A.in1,xe:=λz z=>False } pins' σ (λz H''=>Pv (i+1) (zs++[z]) H'')) (λz z=>False) s')
 (hR:∀i v zs H' s',i<us.length->RelV (us.getD i .non) v->(∀j,j<us.length->lx (kf j) (kf i)=false)->Pv us.length zs H'->Inv X pins σ H' s'->R (.ok (.ret v)) s'):
 ∀(r j i:Nat) (s:Shared) (H:Hp) (zs:List V) (vb kb:Value) (c:Nat),j+r=us.length->i<j->Inv X pins σ H s->Pv j zs H->H I=none->H S=none->s.heap.IsListIter I l j->s.heap.get? S=some (seqObj "list" #[vb,kb] c)->RelV (us.getD i .non) vb->RelV (zs.getD i .non) kb->(∀j',j'<j->lx (kf j') (kf i)=false)->codeAny (model X.prog X.w) X.A (.builtin "min.loop" ⟨[.ref I,.ref f,.ref S],[]⟩) R s:=by(
have nm:(toString "min"++toString ".loop":String)="min.loop":=by decide
intro r
induction r with
|zero=>intro j i s H zs vb kb c ej ij J pv n1 n2 it gS rb rk N;obtain rfl:j=us.length:=ej;obtain⟨sq,lz,ky⟩:=hq _ _ _ pv;obtain⟨D,rv,pl,hz⟩:=J.list sq;have aa:=rv.length;have W:=l9 (prog:=X.prog) (w:=X.w) (A:=X.A.in1) hc I l nl D.toArray;refine cR rF (id ?_);rw[rT gJ _];show wpAny _ X.A.in1 (seqItems? (.ref S) >>= _) _ (λz z=>_) _;refine kI (c9 gS rfl ?_);show wpAny _ X.A.in1 (tryCatch (pyNext (.ref I)) _ >>= _) _ (λz z=>_) _;refine kI (rG (W.done s _ _ ⟨by rw[mL,<-aa];exact it,pl.isList⟩ λh1 t1 kp=>?_));have J1:Inv X pins σ H { s with heap:=h1,toks:=t1 }:=J.turnedN (fp:=[I]) kp (λb U=>by rw[kD.mp U];exact hI _ n1);have Z:=kp S _ (λz=>nS (kD.mp z)) gS;show wpAny _ X.A.in1 (updateSeq S (λz=>#[]) >>= _) _ (λz z=>_) _;refine kI (cS Z rfl (kI (cJ (mO ?_))));exact hR i vb zs H _ ij rb N pv (J1.turnedN (fp:=[S]) (λb o U e=>(mJ _ _ (λz=>U (kD.mpr z.symm))).trans e) (λb U=>by rw[kD.mp U];exact hS _ n2))
|succ r ih=>
 intro j i s H zs vb kb c ej ij J pv n1 n2 it gS rb rk N;have lt:j<us.length:=by omega
 obtain⟨sq,lz,ky⟩:=hq _ _ _ pv;obtain⟨D,rv,pl,hz⟩:=J.list sq;have aa:=rv.length;have W:=l9 (prog:=X.prog) (w:=X.w) (A:=X.A.in1) hc I l nl D.toArray;refine cR rF (id ?_);rw[rT gJ _];show wpAny _ X.A.in1 (seqItems? (.ref S) >>= _) _ (λz z=>_) _;refine kI (c9 gS rfl ?_);show wpAny _ X.A.in1 (tryCatch (pyNext (.ref I)) _ >>= _) _ (λz z=>_) _;refine kI (rG (W.item j s _ _ (by rw[mL];omega) ⟨it,pl.isList⟩ λv h1 t1 aq ao kp=>?_));have hv:D[j]?=some v:=by simpa using aq
 obtain⟨x,ex,rx⟩:=rv.atN (j:=j) (by omega);obtain rfl:D[j]=v:=(kC.mp hv).2;have J1:Inv X pins σ H { s with heap:=h1,toks:=t1 }:=J.turnedN (fp:=[I]) kp (λb U=>by rw[kD.mp U];exact hI _ n1);have Z:=kp S _ (λz=>nS (kD.mp z)) gS;obtain⟨oI,gI,af,ab⟩:=id ao.1;have J2:=(J1.near (A':=X.A.in1) rfl rfl λz z=>False).pinned (fp:=[I,S]) (λb O=>by
  simp only[kN,gP,wO]at O;rcases O with rfl|rfl
  .exact hI _ n1
  .exact hS _ n2) (λb O=>by
  simp only[kN,gP,wO]at O;rcases O with rfl|rfl
  .exact⟨_,gI,λv z=>by rw[ab]at z;cases z⟩
  exact⟨_,Z,λv z=>by cases z⟩)
 show wpAny _ X.A.in1 (tryCatch (holding [D[j]] (call (.ref f) [D[j]])) _ >>= _) _ (λz z=>_) _;refine kI (rG (g9 (dN (hs j x zs H _ _ _ ex rx pv J2) (λu s2 aw=>?_) λU U z=>z.elim)));obtain⟨z,H2,J3,ru,ac⟩:=aw;have pI:=J3.pin (I,oI) (mH _ (mH _ (yX (by simp) gI)));have pS:=J3.pin (S,seqObj "list" #[vb,kb] c) (mH _ (mH _ (yX (by simp) Z)));have J4:Inv X pins σ H2 s2:=(J3.unpinned).near (A':=X.A) rfl rfl X.xe;obtain⟨bd,be,ag⟩:=hq _ _ _ ac;have kz:TupI X.K H2 z (kf j):=ag j z (by rw[dP (by omega),lz,xC];rfl);have gi:zs[i]?=some (zs.getD i .non):=by rw[kJ,kF (by omega)];rfl
 have ki:TupI X.K H2 (zs.getD i .non) (kf i):=ag i _ (by rw[wR (by omega)];exact gi);have a1:s2.heap.IsListIter I l (j+1):=⟨oI,pI.1,af,ab⟩;show wpAny _ X.A.in1 (tryCatch (holding [D[j],u] (richCompare .Lt u kb >>= _)) _ >>= _) _ (λz z=>_) _;refine kI (rG (g9 (kI (qJ5 J4 (by show X.A.units+1+1<cLine;omega) kz ki ru rk ?_))));refine kI (g9 (dH (kI (cJ (mO ?_)))));cases e:lx (kf j) (kf i)with
 |true=>
  simp only[if_true];refine kI (cS pS.1 rfl (kI (cJ ?_)));rw[nm];obtain⟨c2,g2⟩:∃c2,(s2.heap.update S (Obj.mapSeq λz=>#[D[j],u])).get? S=some (seqObj "list" #[D[j],u] c2):=⟨_,cP pS.1 λz=>#[D[j],u]⟩;have J5:Inv X pins σ H2 { s2 with heap:=s2.heap.update S (Obj.mapSeq λz=>#[D[j],u]),toks:=s2.toks }:=J4.turnedN (fp:=[S]) (λb o U e=>(mJ _ _ (λz=>U (kD.mpr z.symm))).trans e) (λb U=>by rw[kD.mp U];exact hS _ pS.2.1);refine mO ⟨cB gJ _,ih (j+1) j _ H2 _ _ u c2 (by omega) (by omega) J5 ac pI.2.1 pS.2.1 ⟨oI,(mJ _ _ nS).trans pI.1,af,ab⟩ g2 ?_ ?_ λj' am=>?_⟩
  .rw[kJ,ex];exact rx
  .rw[kJ,dP (by omega),lz,xC];exact ru
  by_cases y:j'=j
  .rw[y];exact q4B _
  cases g:lx (kf j') (kf j)with
  |false=>rfl
  |true=>have:=q1D _ _ _ g e;rw[N j' (by omega)]at this;cases this
 |false=>
  simp only[pR,if_false];refine kI (cJ ?_);rw[nm];refine mO ⟨cB gJ _,ih (j+1) i _ H2 _ vb kb c (by omega) (by omega) J4 ac pI.2.1 pS.2.1 a1 pS.1 rb ?_ λj' am=>?_⟩
  .rw[kJ,wR (by omega),gi];exact rk
  by_cases y:j'=j
  .rw[y];exact e
  exact N j' (by omega))
end
def tML(P:Program)(w:World)(K:PySem.W.Frag)(mg:Str->Option Value)(base:Heap)(cells:List (Str×Addr))(ix:List (Nat×Str))(k:Nat)(x:Str)(tl:TE)(ta:TA):TE:=λσ H Q=>ta σ H λvs H1=>tl σ H1 λfv H2=>∃(f:Addr) (fd:FuncData) (sp:Heap->Sp),fv=.ref f/\(∀base',(∀b o,base.get? b=some o->base'.get? b=some o)->q2N cells σ base' ix->FnOk P w K mg base' CX0 k f fd [x] (sp base'))/\yG K fd [x] []/\∃(l:Addr) (us:List V) (kf:Nat->List Int) (Pv:Nat->List V->Hp->Prop),vs=[.ref l]/\0<us.length/\Pv 0 [] H2/\(∀i zs H',Pv i zs H'->SqL K H' l us/\zs.length=i/\KeyI K kf H' zs)/\(∀base' i x zs H',q2N cells σ base' ix->us[i]?=some x->Pv i zs H'->sp base' [x] H' (λz H''=>Pv (i+1) (zs++[z]) H'') E0)/\∀i zs H',i<us.length->(∀j,j<us.length->lx (kf j) (kf i)=false)->Pv us.length zs H'->Q (us.getD i .non) H'
theorem qJ7{X:Cx}{k:Nat}{x:Str}{tl:TE}{p kp:Pos}(ix:List (Nat×Str))(hix:∀p∈ix,X.N[p.1]?=some p.2/\X.env.scope.names.lookup p.2=some .cell/\X.fn p.2=true)(hc:X.calm=true)(hu:X.A.units+64<cLine)(hr:Room (k+1) X.A)(hg:Gl X "min")(hm:X.mg "min"=none)(hl:PE X le tl)(ha:PA X [e] ta)
 (he:starEach [e] X.env=[(false,eval e X.env)]:=by rfl) (hse:starEach ([]:List Expr) X.env=[]:=by rfl):
 PE X (.Call (.Name "min" p) [e] [⟨some "key",le,kp⟩] pos) (tML X.prog X.w X.K X.mg X.base X.env.cells ix k x tl ta):=by(
intro pins s σ H Q I h
have nm:(toString "min"++toString ".loop":String)="min.loop":=by decide
refine d9 (q1R I hg hm (u:=.builtin "min") (by kernel_rfl) ?_ (by decide) (by decide))
refine bW (thn (ha pos pins s σ H _ I h) λus s1 ⟨vs,H1,I1,r1,q1⟩=>?_) (by rw[he,hse];rfl) (by rw[he];rfl)
have pk:PK X [⟨some "key",le,kp⟩] (q8X tl tNil):=q9N hl qC9
refine thn (pk pos pins s1 σ H1 (oneQ _) I1 q1) λws O hZ=>?_
obtain⟨xs,H2,I2,r2,q2⟩:=hZ
obtain⟨v,rfl,f,fd,sp,rfl,F,hb,q2⟩:=qDS q2
obtain⟨w,rfl,rw⟩:=q00 r2
obtain rfl:w=Value.ref f:=rw
obtain⟨l,ak,kf,Pv,ev,hn,p0,hq,hs,hd⟩:=q2
subst ev
obtain⟨u,rfl,ru⟩:=q00 r1
obtain rfl:u=Value.ref l:=ru
obtain⟨sq,_,_⟩:=hq _ _ _ p0
obtain⟨D,rv,pl,hz⟩:=I2.list sq
have al:=rv.length
have bm:=I2.ok.hd hc
have ag:l<O.heap.objs.size:=by obtain⟨_,e,_⟩:=pl.isList;exact mD e
show wpAny (model X.prog X.w) X.A (call (.builtin "min") [.ref l] [(Str.ofString "key",.ref f)]) _ _ _
refine qE3 bU bI bJ (qJ4 _ _) ?_
refine kI (m:=Builtin.Builtins.bindParams "min" ["key","default"] 0 ⟨[],[(Str.ofString "key",.ref f)]⟩) (wpAny_of_eq (a:=[some (.ref f),none]) rfl ?_)
refine kI (mO (kI (aV pl.isList ?_)))
refine kI (pJ ?_ (m9 _))
rw[nm]
refine mO ⟨cB gJ _,?_⟩
have hS:(O.heap.push { cls:=.type "list_iterator",data:=.fields #[.ref l,.int 0 0] }).objs.size=O.heap.objs.size+1:=aQ ..
have gS:=mZ (o:=seqObj "list" #[] 0) (O.heap.push { cls:=.type "list_iterator",data:=.fields #[.ref l,.int 0 0] }) rfl
have gI:((O.heap.push { cls:=.type "list_iterator",data:=.fields #[.ref l,.int 0 0] }).push (seqObj "list" #[] 0)).get? O.heap.objs.size=some { cls:=.type "list_iterator",data:=.fields #[.ref l,.int 0 0] }:=kM _ (mZ _ rfl)
have I3:Inv X pins σ H2 { O with heap:=(O.heap.push { cls:=.type "list_iterator",data:=.fields #[.ref l,.int 0 0] }).push (seqObj "list" #[] 0),toks:=O.toks }:=I2.kept (t':=O.toks) λb o e=>kM _ (kM _ e)
obtain⟨S,eS⟩:∃S:Addr,S=(O.heap.push { cls:=.type "list_iterator",data:=.fields #[.ref l,.int 0 0] }).objs.size:=⟨_,rfl⟩
obtain⟨J,eJ⟩:∃J:Addr,J=O.heap.objs.size:=⟨_,rfl⟩
have fJ:FpOk X pins H2 J:=by rw[eJ];exact I2.fpOk (kO _) (I2.hok.fresh (kO _))
have fS:FpOk X pins H2 S:=by rw[eS,hS];exact I2.fpOk (rB _) (I2.hok.fresh (rB _))
have hJ:∀H',H' J=none->FpOk X pins H' J:=λH' e=>⟨e,fJ.2⟩
have ah:∀H',H' S=none->FpOk X pins H' S:=λH' e=>⟨e,fS.2⟩
have nl:l≠J:=by rw[eJ];exact gC ag
have ab:S≠J:=by rw[eS,eJ,hS];exact rC (rP _)
have a7:l≠S:=by rw[eS,hS];exact gC (rX ag)
have ao:X.A.handled=none:=bm
rw[<-eS]at gS
show codeAny (model X.prog X.w) X.A (.builtin "min.loop" ⟨[.ref O.heap.objs.size,.ref f,.ref (O.heap.push { cls:=.type "list_iterator",data:=.fields #[.ref l,.int 0 0] }).objs.size],[]⟩) _ _
rw[<-eS,<-eJ]
rw[<-eJ]at gI
clear hS eS eJ
obtain⟨h3,eh⟩:∃h3,h3=(O.heap.push { cls:=.type "list_iterator",data:=.fields #[.ref l,.int 0 0] }).push (seqObj "list" #[] 0):=⟨_,rfl⟩
rw[<-eh]at gS gI I3
show codeAny _ _ _ _ { O with heap:=(O.heap.push { cls:=.type "list_iterator",data:=.fields #[.ref l,.int 0 0] }).push (seqObj "list" #[] 0) }
rw[<-eh]
clear eh
obtain⟨D,rv,pl,hz⟩:=I3.list sq
have al:=rv.length
have W:=l9 (prog:=X.prog) (w:=X.w) (A:=X.A.in1) ao J l nl D.toArray
refine cR rF (id ?_)
rw[rT gJ _]
show wpAny _ X.A.in1 (seqItems? (.ref S) >>= _) _ (λz z=>_) _
refine kI (c9 gS rfl ?_)
show wpAny _ X.A.in1 (tryCatch (pyNext (.ref J)) _ >>= _) _ (λz z=>_) _
refine kI (rG (W.item 0 _ _ _ (by rw[mL];omega) ⟨⟨_,gI,rfl,rfl⟩,pl.isList⟩ λv h1 t1 bi ay kp=>?_))
have hv:D[0]?=some v:=by simpa using bi
obtain⟨x0,ex,rx⟩:=rv.atN (j:=0) (by omega)
obtain rfl:D[0]=v:=(kC.mp hv).2
have J1:Inv X pins σ H2 { O with heap:=h1,toks:=t1 }:=Inv.turnedN (s:={ O with heap:=h3 }) (fp:=[J]) I3 kp (λb hb=>by rw[kD.mp hb];exact fJ)
have aj:=kp S _ (λz=>ab (kD.mp z)) gS
obtain⟨oI,ai,be,an⟩:=id ay.1
have J2:=(J1.near (A':=X.A.in1) rfl rfl λz z=>False).pinned (fp:=[J,S]) (λb Z=>by
 simp only[kN,gP,wO]at Z;rcases Z with rfl|rfl
 .exact fJ
 .exact fS) (λb Z=>by
 simp only[kN,gP,wO]at Z;rcases Z with rfl|rfl
 .exact⟨_,ai,λv z=>by rw[an]at z;cases z⟩
 exact⟨_,aj,λv z=>by cases z⟩)
have am:∀i x zs H' U s' u,ak[i]?=some x->RelV x u->Pv i zs H'->Inv { X with A:=X.A.in1,xe:=λz z=>False } U σ H' s'->wpAny (model X.prog X.w) X.A.in1 (call (.ref f) [u]) (EP { X with A:=X.A.in1,xe:=λz z=>False } U σ (λz a8=>Pv (i+1) (zs++[z]) a8)) (λz z=>False) s':=λi x zs H' U s' u hx rx pv I'=>qDR (X:={ X with A:=X.A.in1,xe:=λz z=>False }) (dvs:=[]) (ds:=[]) (E:=E0) ix hix F hr.in1 hb .nil qK I' (.cons rx .nil) (λad up cv=>hs ad i x zs H' cv hx pv)
show wpAny _ X.A.in1 (tryCatch (holding [D[0]] (call (.ref f) [D[0]])) _ >>= _) _ (λz z=>_) _
refine kI (rG (g9 (dN (am 0 x0 [] H2 _ _ _ ex rx p0 J2) (λu s3 bb=>?_) λU U z=>z.elim)))
obtain⟨z,H3,J3,ru,a0⟩:=bb
have pI:=J3.pin (J,oI) (mH _ (mH _ (yX (by simp) ai)))
have pS:=J3.pin (S,seqObj "list" #[] 0) (mH _ (mH _ (yX (by simp) aj)))
have J4:Inv X pins σ H3 s3:=(J3.unpinned).near (A':=X.A) rfl rfl X.xe
show wpAny _ X.A.in1 (updateSeq S (λz=>#[D[0],u]) >>= _) _ (λz z=>_) _
refine kI (cS pS.1 rfl ?_)
rw[nm]
obtain⟨c2,g2⟩:∃c2,(s3.heap.update S (Obj.mapSeq λz=>#[D[0],u])).get? S=some (seqObj "list" #[D[0],u] c2):=⟨_,cP pS.1 λz=>#[D[0],u]⟩
have J5:Inv X pins σ H3 { s3 with heap:=s3.heap.update S (Obj.mapSeq λz=>#[D[0],u]),toks:=s3.toks }:=J4.turnedN (fp:=[S]) (λb o hb e=>(mJ _ _ (λz=>hb (kD.mpr z.symm))).trans e) (λb hb=>by rw[kD.mp hb];exact ah _ pS.2.1)
refine mO ⟨cB gJ _,qJ6 ao hu Pv hq nl ab a7 hJ ah am (λi v zs H' s' a1 a2 a3 a4 a5=>?_) (ak.length-1) 1 0 _ H3 _ D[0] u c2 (by omega) (by omega) J5 a0 pI.2.1 pS.2.1 ⟨oI,(mJ _ _ ab).trans pI.1,be,an⟩ g2 ?_ ?_ λj' cj=>?_⟩
.exact⟨_,H',a5,a2,hd i zs H' a1 a3 a4⟩
.rw[kJ,ex];exact rx
.exact ru
obtain rfl:j'=0:=by omega
exact q4B _)
end L2
namespace L2
open PySem
theorem q3U{K:PySem.W.Frag}{a:Addr}{xs:List V}{g:TG}{tb:TS}{D:Ends}{σ:St}{H:Hp}(Pv:Nat->St->Hp->Prop)(h0:Pv 0 σ H)(hl:∀i σ H,i<=xs.length->Pv i σ H->SqL K H a xs)
 (hs:∀i x σ H (D':Ends),(∀σ' H',Pv (i+1) σ' H'->D'.nx σ' H')->xs[i]?=some x->Pv i σ H->g x σ H λσ2 H2=>tb D' σ2 H2) (hd:∀σ H,Pv xs.length σ H->D.nx σ H):
 ∃W:Nat->Nat->St->Hp->Prop,(∃m,W 0 m σ H)/\∀i m σ H,W i m σ H->((Itl K a).stop i H/\D.nx σ H)\/((Itl K a).go i H/\∃N:St->Hp->Prop,(∀σ' H',N σ' H'->∃m',m'<m/\W (i+1) m' σ' H')/\∀x H',(Itl K a).yld i H x H'->g x σ H' λσ2 H2=>tb { D with nx:=N,ct:=N,bk:=D.nx } σ2 H2):=zC Pv h0 hl (λi x σ H hx p=>hs i x σ H _ (λz z q=>q) hx p) hd
theorem q05{lo:Int}{n:Nat}{g:TG}{tb:TS}{D:Ends}{σ:St}{H:Hp}(Pv:Nat->St->Hp->Prop)(h0:Pv 0 σ H)
 (hs:∀i σ H (D':Ends),(∀σ' H',Pv (i+1) σ' H'->D'.nx σ' H')->i<n->Pv i σ H->g (.int (lo+i)) σ H λσ2 H2=>tb D' σ2 H2) (hd:∀σ H,Pv n σ H->D.nx σ H):
 ∃W:Nat->Nat->St->Hp->Prop,(∃m,W 0 m σ H)/\∀i m σ H,W i m σ H->((Itr lo n).stop i H/\D.nx σ H)\/((Itr lo n).go i H/\∃N:St->Hp->Prop,(∀σ' H',N σ' H'->∃m',m'<m/\W (i+1) m' σ' H')/\∀x H',(Itr lo n).yld i H x H'->g x σ H' λσ2 H2=>tb { D with nx:=N,ct:=N,bk:=D.nx } σ2 H2):=q8T Pv h0 (λi σ H hx p=>hs i σ H _ (λz z q=>q) hx p) hd
theorem iV{σ:St}{i:Nat}{v:V}{Q:V->Prop}(e:σ[i]?=some (some v))(q:Q v):∃v,σ[i]?=some (some v)/\Q v:=⟨v,e,q⟩
theorem iF{K:PySem.W.Frag}{H:Hp}{f:Str}{a C d:Addr}{fs:List (Str×V)}{v:V}{Q:V->Prop}(o:H a=some (.ins C d fs))(cl:Cls K C)(na:qV K C f)(lk:fs.lookup f=some v)(q:Q v):
 ∃a' C dx fs v,V.ref a=.ref a'/\H a'=some (.ins C dx fs)/\Cls K C/\qV K C f/\fs.lookup f=some v/\Q v:=⟨a,C,d,fs,v,rfl,o,cl,na,lk,q⟩
theorem iM{H:Hp}{m:Str}{a C d:Addr}{fs:List (Str×V)}{q:Prop}(o:H a=some (.ins C d fs))(lk:fs.lookup m=none)(k:q):
 ∃a' dx fs,V.ref a=.ref a'/\H a'=some (.ins C dx fs)/\fs.lookup m=none/\q:=⟨a,d,fs,rfl,o,lk,k⟩
theorem iI{i j:Int}{Q:Int->Int->Prop}(q:Q i j):∃i' j',V.int i=.int i'/\V.int j=.int j'/\Q i' j':=⟨i,j,rfl,rfl,q⟩
theorem iL{K:PySem.W.Frag}{H:Hp}{p:Addr}{xs:List V}{k:Int}{v:V}{Q:V->Prop}(h:SqL K H p xs)(e:atI xs k=some v)(q:Q v):∃p' xs k' v,V.ref p=.ref p'/\V.int k=.int k'/\SqL K H p' xs/\atI xs k'=some v/\Q v:=⟨p,xs,k,v,rfl,rfl,h,e,q⟩
theorem iT{K:PySem.W.Frag}{H:Hp}{p:Addr}{xs:List V}{k:Int}{v:V}{Q:V->Prop}(h:SqT K H p xs)(e:atI xs k=some v)(q:Q v):∃p' xs k' v,V.ref p=.ref p'/\V.int k=.int k'/\SqT K H p' xs/\atI xs k'=some v/\Q v:=⟨p,xs,k,v,rfl,rfl,h,e,q⟩
end L2
namespace L2
open PySem PySem.Spec PyProof.Rows
abbrev Fn1(K:PySem.W.Frag)(x q:Str)(st:Stmt)(f:Addr)(ps:List Str):Prop:=∃fd,FunD K x q st .none f fd/\yG K fd ps []
noncomputable def Fn1.fd{K:PySem.W.Frag}{x q:Str}{st:Stmt}{f:Addr}{ps:List Str}(h:Fn1 K x q st f ps):FuncData:=Classical.choose h
theorem Fn1.F{K:PySem.W.Frag}{x q:Str}{st:Stmt}{f:Addr}{ps:List Str}(h:Fn1 K x q st f ps):FunD K x q st .none f h.fd:=(Classical.choose_spec h).1
theorem Fn1.b{K:PySem.W.Frag}{x q:Str}{st:Stmt}{f:Addr}{ps:List Str}(h:Fn1 K x q st f ps):yG K h.fd ps []:=(Classical.choose_spec h).2
abbrev Fn1.Ok0{K:PySem.W.Frag}{x q:Str}{st:Stmt}{f:Addr}{ps:List Str}(F:Fn1 K x q st f ps)(P:Program)(w:World)(mg:Str->Option Value)(base:Heap)(k:Nat)(sp:Sp):Prop:=FnOk P w K mg base CX0 k f F.fd ps sp
abbrev Fn1.OkE{K:PySem.W.Frag}{x q:Str}{st:Stmt}{f:Addr}{ps:List Str}(F:Fn1 K x q st f ps)(P:Program)(w:World)(mg:Str->Option Value)(base:Heap)(k:Nat)(sp:Sp):Prop:=FnOk P w K mg base (CXe P w) k f F.fd ps sp
abbrev FnX(K:PySem.W.Frag)(x q:Str)(st:Stmt)(f:Addr):Prop:=∃fd,FunD K x q st .none f fd
section
variable{K:PySem.W.Frag}{x q:Str}{st:Stmt}{f:Addr}{ps:List Str}
def BnX(x q:Str)(st:Stmt)(ps:List Str):Prop:=∀(kV doc pm:Value) (an:Option Addr) (cdv ct:Value) (us:List Value),us.length=ps.length->bindArgs (PySem.W.fnOf x q (yU st) (jY st) (qH st) .none kV doc pm an cdv ct) ⟨us,[]⟩=pure (ps.zip us)
theorem fn1b(h:BnX x q st ps){fd:FuncData}(F:FunD K x q st .none f fd):yG K fd ps []:=by obtain⟨Z,od,kV,z,pm,S,D,J,I,rfl,U,N⟩:=F.ex;exact yG.all λO hl=>h kV z pm S D J O hl
theorem lnx{us:List Value}{n:Nat}(h:us.length=n):us=(List.range n).map (us.getD · .none):=by subst h;refine cF (by simp) λi h1 h2=>?_;simp[kF h1]
theorem bnx(h:∀kV doc pm an cdv ct (g:Nat->Value),bindArgs (PySem.W.fnOf x q (yU st) (jY st) (qH st) .none kV doc pm an cdv ct) ⟨(List.range ps.length).map g,[]⟩=pure (ps.zip ((List.range ps.length).map g))):BnX x q st ps:=λkV doc pm an cdv ct us hl=>by rw[lnx hl];exact h ..
theorem fn1 (l:FnX K x q st f) (h:∀kV doc pm an cdv ct (g:Nat->Value),bindArgs (PySem.W.fnOf x q (yU st) (jY st) (qH st) .none kV doc pm an cdv ct) ⟨(List.range ps.length).map g,[]⟩=pure (ps.zip ((List.range ps.length).map g)):=by intros;rfl):Fn1 K x q st f ps:=⟨l.choose,l.choose_spec,fn1b (bnx h) l.choose_spec⟩
theorem FnX.bind1{a:Str}{fd:FuncData}(h:∀kV doc pm an cdv ct u,bindArgs (PySem.W.fnOf x q (yU st) (jY st) (qH st) .none kV doc pm an cdv ct) ⟨[u],[]⟩=pure [(a,u)])(F:FunD K x q st .none f fd)(s:Shared)(v:Value):BindsTo s fd ⟨[v],[]⟩ [(a,v)]:=by obtain⟨J,od,kV,doc,pm,an,cdv,ct,z,rfl,I,D⟩:=F.ex;exact .of_eq (h kV doc pm an cdv ct v)
theorem FnX.of{kV pm:Value}(l:K.lookup f=some ⟨oc,od,.func (PySem.W.fnOf x q (yU st) (jY st) (qH st) .none kV doc pm an cdv ct),osl⟩)(c:PySem.W.codeIn K cdv q=true):FnX K x q st f:=⟨_,FunD.mk' l c⟩
theorem qX{N P:List Str}{sc:Scope}(h:(sc.kind=.function/\sc.isCoroutine=false/\sc.isGenerator=false)/\N.Nodup/\N.take P.length=P/\(∀x∈P,sc.names.lookup x=some .local\/sc.names.lookup x=some .cell)/\∀y∈sc.names,y.2≠ .free):FnScope N P sc:=⟨h.1.1,h.1.2.1,h.1.2.2,h.2.1,h.2.2.1,h.2.2.2.1,h.2.2.2.2⟩
end
abbrev GFn(K:PySem.W.Frag)(n:Str)(f:Addr):Prop:=PySem.W.nsIn K mainGlobals n=some (some (.ref f))/\PySem.W.keepIn K (.ref f)=true
theorem sz0:0<=sizeLine:=by decide
theorem sz1:1<=sizeLine:=by decide
theorem sz2:2<=sizeLine:=by decide
theorem sz3:3<=sizeLine:=by decide
theorem sz4:4<=sizeLine:=by decide
theorem sz5:5<=sizeLine:=by decide
end L2
namespace W1
open PySem L2
noncomputable def top(i:Nat):Stmt:=PySem.Challenge.pw_wornpages_k43_a_changing_about.main.body.getD i (.Pass ⟨0,0,0,0⟩)
noncomputable abbrev yD:Stmt:=(qR (top 27) 2)
noncomputable abbrev j9:Stmt:=(qR (top 32) 5)
noncomputable abbrev vF:Stmt:=(qR (top 35) 0)
noncomputable abbrev uS:Stmt:=(qR (top 45) 0)
set_option genInjectivity false in
structure Adr where
(f_is_whole f_is_within f_is_shape f_is_value f_mark_of f_bits_of f_Book_init f_Book_mark f_Book_note f_Book_forget f_Book_emptied f_Book_live_pages f_Book_held f_Plain_init f_Plain_good f_Plain_free f_Plain_part f_Plain_spot f_Plain_ready f_Plain_set_down f_Plain_lay f_Plain_write f_Plain_give_up f_Plain_held f_Plain_check_sheet f_Plain_check_share f_paper_of f_Store_init f_Store_reserve f_Store_tally f_Store_space f_Store_full_ones f_Store_with_dead_page f_Store_choice_by_rule f_Store_moved f_Store_value_to_move f_Store_wiped f_Store_clear_out f_Store_make_room f_Store_make_ready f_Store_make_rooms f_Even_least f_Even_clearable f_Even_options f_Even_choice f_Even_block_to_change f_limits_of f_Chip_init f_Chip_put f_Chip_wipe f_Chip_read f_Chip_is_dark f_Chip_cleared f_Chip_failed f_Chip_deeds f_Chip_check_page f_Chip_check_block f_Chip_check_power f_Chip_check_deed f_Chip_is_spent f_Chip_do_deed f_is_unbeaten f_first_unbeaten f_Rule_goes_ahead f_Rule_choose f_Fewest_goes_ahead f_Eldest_goes_ahead f_Worth_goes_ahead f_Follow_init f_Follow_choose f_Terms_init f_Terms_closed f_law_cell_at f_law_whole f_law_shape f_law_names f_law_pick f_law_moves f_law_spots f_law_behind f_law_worth f_law_due f_law_fits f_law_ruled f_law_made f_law_way f_law_rule f_law C_Book C_Plain C_Even C_Chip C_Rule C_Fewest C_Eldest C_Worth C_Follow C_Terms C_NoRoom:Addr)
tN:Tok
aDO:Tok
aCE:Tok
aB4:Addr
fW:Addr
oR:Addr
fX:Addr
structure Txt(K:W.Frag)(mg:Str->Option Value)(t:Adr):Prop where
aGB:mg "Book"=some (.ref t.C_Book)
f9:Cls K t.C_Book
aC3:qV K t.C_Book "blocks"
tH:qV K t.C_Book "pages"
iH:qV K t.C_Book "stamp"
iZ:qV K t.C_Book "where"
tQ:qV K t.C_Book "live"
iD:qV K t.C_Book "filled"
tO:qV K t.C_Book "born"
aEX:Meth K t.C_Book "mark" t.f_Book_mark
aEZ:Meth K t.C_Book "note" t.f_Book_note
aBR:Meth K t.C_Book "forget" t.f_Book_forget
aC5:Meth K t.C_Book "emptied" t.f_Book_emptied
aB0:Meth K t.C_Book "live_pages" t.f_Book_live_pages
aEN:Meth K t.C_Book "held" t.f_Book_held
aF7:Mk K t.C_Book t.f_Book_init
aFS:mg "Plain"=some (.ref t.C_Plain)
aF8:mg "Even"=some (.ref t.C_Even)
fY:Cls K t.C_Even
iR:qV K t.C_Even "chip"
f8:qV K t.C_Even "terms"
iA:qV K t.C_Even "book"
oF:qV K t.C_Even "rule"
i7:qV K t.C_Even "papers"
aDU:Meth K t.C_Even "least" t.f_Even_least
aAI:Meth K t.C_Even "clearable" t.f_Even_clearable
tX:Meth K t.C_Even "options" t.f_Even_options
aDF:Meth K t.C_Even "choice" t.f_Even_choice
aAM:Meth K t.C_Even "block_to_change" t.f_Even_block_to_change
aA7:Meth K t.C_Even "reserve" t.f_Store_reserve
aDS:Meth K t.C_Even "tally" t.f_Store_tally
aD7:Meth K t.C_Even "space" t.f_Store_space
o9:Meth K t.C_Even "full_ones" t.f_Store_full_ones
aAO:Meth K t.C_Even "with_dead_page" t.f_Store_with_dead_page
aAX:Meth K t.C_Even "choice_by_rule" t.f_Store_choice_by_rule
aD2:Meth K t.C_Even "moved" t.f_Store_moved
aA2:Meth K t.C_Even "value_to_move" t.f_Store_value_to_move
aDZ:Meth K t.C_Even "wiped" t.f_Store_wiped
aB9:Meth K t.C_Even "clear_out" t.f_Store_clear_out
aAJ:Meth K t.C_Even "make_room" t.f_Store_make_room
t9:Meth K t.C_Even "make_ready" t.f_Store_make_ready
aBY:Meth K t.C_Even "make_rooms" t.f_Store_make_rooms
aAB:Meth K t.C_Even "good" t.f_Plain_good
aBN:Meth K t.C_Even "free" t.f_Plain_free
aBL:Meth K t.C_Even "part" t.f_Plain_part
aE5:Meth K t.C_Even "spot" t.f_Plain_spot
aEG:Meth K t.C_Even "ready" t.f_Plain_ready
aCL:Meth K t.C_Even "set_down" t.f_Plain_set_down
aB2:Meth K t.C_Even "lay" t.f_Plain_lay
aB7:Meth K t.C_Even "write" t.f_Plain_write
aC0:Meth K t.C_Even "give_up" t.f_Plain_give_up
aBK:Meth K t.C_Even "held" t.f_Plain_held
tS:Meth K t.C_Even "check_sheet" t.f_Plain_check_sheet
aBS:Meth K t.C_Even "check_share" t.f_Plain_check_share
aGA:Mk K t.C_Even t.f_Store_init
aF5:mg "Chip"=some (.ref t.C_Chip)
fZ:Cls K t.C_Chip
iJ:qV K t.C_Chip "blocks"
iS:qV K t.C_Chip "pages"
aB5:qV K t.C_Chip "most"
aA6:qV K t.C_Chip "limits"
oM:qV K t.C_Chip "borne"
i4:qV K t.C_Chip "clearings"
tK:qV K t.C_Chip "deed_counts"
tU:qV K t.C_Chip "broken"
oP:qV K t.C_Chip "deeds_left"
tW:qV K t.C_Chip "record"
aFB:Meth K t.C_Chip "put" t.f_Chip_put
aE2:Meth K t.C_Chip "wipe" t.f_Chip_wipe
aBM:Meth K t.C_Chip "read" t.f_Chip_read
aC4:Meth K t.C_Chip "is_dark" t.f_Chip_is_dark
i8:Meth K t.C_Chip "cleared" t.f_Chip_cleared
aDH:Meth K t.C_Chip "failed" t.f_Chip_failed
aAT:Meth K t.C_Chip "deeds" t.f_Chip_deeds
t7:Meth K t.C_Chip "check_page" t.f_Chip_check_page
oK:Meth K t.C_Chip "check_block" t.f_Chip_check_block
tR:Meth K t.C_Chip "check_power" t.f_Chip_check_power
tY:Meth K t.C_Chip "check_deed" t.f_Chip_check_deed
aAR:Meth K t.C_Chip "is_spent" t.f_Chip_is_spent
aA5:Meth K t.C_Chip "do_deed" t.f_Chip_do_deed
aF3:Mk K t.C_Chip t.f_Chip_init
aF4:mg "Rule"=some (.ref t.C_Rule)
aFN:Cls K t.C_Rule
aB1:Meth K t.C_Rule "goes_ahead" t.f_Rule_goes_ahead
aDC:Meth K t.C_Rule "choose" t.f_Rule_choose
aFZ:Mk0 K t.C_Rule
aFK:mg "Fewest"=some (.ref t.C_Fewest)
aD4:Cls K t.C_Fewest
aBF:Meth K t.C_Fewest "goes_ahead" t.f_Fewest_goes_ahead
aCY:Meth K t.C_Fewest "choose" t.f_Rule_choose
aE8:Mk0 K t.C_Fewest
aFM:mg "Eldest"=some (.ref t.C_Eldest)
aEA:Cls K t.C_Eldest
aBO:Meth K t.C_Eldest "goes_ahead" t.f_Eldest_goes_ahead
aCU:Meth K t.C_Eldest "choose" t.f_Rule_choose
aFA:Mk0 K t.C_Eldest
aFW:mg "Worth"=some (.ref t.C_Worth)
aE7:Cls K t.C_Worth
aBQ:Meth K t.C_Worth "goes_ahead" t.f_Worth_goes_ahead
aC7:Meth K t.C_Worth "choose" t.f_Rule_choose
aFL:Mk0 K t.C_Worth
aFI:mg "Follow"=some (.ref t.C_Follow)
o8:Cls K t.C_Follow
aAG:qV K t.C_Follow "row"
oZ:qV K t.C_Follow "used"
aCW:Meth K t.C_Follow "choose" t.f_Follow_choose
aFJ:Mk K t.C_Follow t.f_Follow_init
aF0:mg "Terms"=some (.ref t.C_Terms)
iC:Cls K t.C_Terms
oG:qV K t.C_Terms "blocks"
iB:qV K t.C_Terms "pages"
aA1:qV K t.C_Terms "sheets"
aBA:qV K t.C_Terms "share"
aAQ:qV K t.C_Terms "ill"
aAU:qV K t.C_Terms "spread"
aC2:Meth K t.C_Terms "closed" t.f_Terms_closed
aFT:Mk K t.C_Terms t.f_Terms_init
aEI:mg "NoRoom"=some (.ref t.C_NoRoom)
aF1:XCls K t.C_NoRoom
aFU:ClM K t.C_Plain "__init__" t.f_Plain_init
aCA:W.exmOne K (.ref t.C_NoRoom) (.ref t.C_NoRoom)=some true
aDM:W.codeHdIn K t.aB4 t.fW=true
aAC:W.codeHdIn K t.oR t.fX=true
aA9:t.fW≠t.fX
aEM:mg "is_whole"=some (.ref t.f_is_whole)
aEO:W.keepIn K (.ref t.f_is_whole)=true
iG:mg "is_within"=some (.ref t.f_is_within)
iE:W.keepIn K (.ref t.f_is_within)=true
aCG:mg "is_shape"=some (.ref t.f_is_shape)
aCN:W.keepIn K (.ref t.f_is_shape)=true
aE3:mg "is_value"=some (.ref t.f_is_value)
aEW:W.keepIn K (.ref t.f_is_value)=true
aFD:mg "mark_of"=some (.ref t.f_mark_of)
aFH:W.keepIn K (.ref t.f_mark_of)=true
aC8:mg "bits_of"=some (.ref t.f_bits_of)
aC9:W.keepIn K (.ref t.f_bits_of)=true
aCM:mg "paper_of"=some (.ref t.f_paper_of)
aCH:W.keepIn K (.ref t.f_paper_of)=true
aD3:mg "limits_of"=some (.ref t.f_limits_of)
aEE:W.keepIn K (.ref t.f_limits_of)=true
aC1:mg "is_unbeaten"=some (.ref t.f_is_unbeaten)
aC6:W.keepIn K (.ref t.f_is_unbeaten)=true
aBW:mg "first_unbeaten"=some (.ref t.f_first_unbeaten)
aBU:W.keepIn K (.ref t.f_first_unbeaten)=true
iO:mg "_law_cell_at"=some (.ref t.f_law_cell_at)
iK:W.keepIn K (.ref t.f_law_cell_at)=true
aDY:mg "_law_whole"=some (.ref t.f_law_whole)
aDW:W.keepIn K (.ref t.f_law_whole)=true
aD9:mg "_law_shape"=some (.ref t.f_law_shape)
aD5:W.keepIn K (.ref t.f_law_shape)=true
aEK:mg "_law_names"=some (.ref t.f_law_names)
aDX:W.keepIn K (.ref t.f_law_names)=true
aER:mg "_law_pick"=some (.ref t.f_law_pick)
aE4:W.keepIn K (.ref t.f_law_pick)=true
aEB:mg "_law_moves"=some (.ref t.f_law_moves)
aEF:W.keepIn K (.ref t.f_law_moves)=true
aD0:mg "_law_spots"=some (.ref t.f_law_spots)
aED:W.keepIn K (.ref t.f_law_spots)=true
aDQ:mg "_law_behind"=some (.ref t.f_law_behind)
aDE:W.keepIn K (.ref t.f_law_behind)=true
aDT:mg "_law_worth"=some (.ref t.f_law_worth)
aEJ:W.keepIn K (.ref t.f_law_worth)=true
aE9:mg "_law_due"=some (.ref t.f_law_due)
aFE:W.keepIn K (.ref t.f_law_due)=true
aE1:mg "_law_fits"=some (.ref t.f_law_fits)
aE0:W.keepIn K (.ref t.f_law_fits)=true
aD8:mg "_law_ruled"=some (.ref t.f_law_ruled)
aEH:W.keepIn K (.ref t.f_law_ruled)=true
aET:mg "_law_made"=some (.ref t.f_law_made)
aEL:W.keepIn K (.ref t.f_law_made)=true
aFF:mg "_law_way"=some (.ref t.f_law_way)
aFG:W.keepIn K (.ref t.f_law_way)=true
aES:mg "_law_rule"=some (.ref t.f_law_rule)
aEY:W.keepIn K (.ref t.f_law_rule)=true
aB6:mg "MOST_TOLD"=some (.int 1000000 t.tN)
aEP:mg "ROLL"=some (.int 64 t.aDO)
aFY:mg "NAMES"=some (.int 128 t.aCE)
aF2:mg "bool"=none
aGC:mg "int"=none
oE:mg "isinstance"=none
aA3:mg "len"=none
aB8:mg "list"=none
aGE:mg "max"=none
aFC:mg "min"=none
oQ:mg "range"=none
aCC:mg "sorted"=none
aGD:mg "sum"=none
aF6:mg "tuple"=none
aGF:mg "zip"=none
set_option genInjectivity false
structure Fns(K:W.Frag)(t:Adr) where
aDP:Fn1 K "is_whole" "is_whole" (top 15) t.f_is_whole ["thing"]
iQ:Fn1 K "is_within" "is_within" (top 16) t.f_is_within ["thing","low","high"]
aCB:Fn1 K "is_shape" "is_shape" (top 17) t.f_is_shape ["blocks","pages"]
aDD:Fn1 K "is_value" "is_value" (top 18) t.f_is_value ["thing"]
aE6:Fn1 K "mark_of" "mark_of" (top 22) t.f_mark_of ["stamp","name"]
aDL:Fn1 K "bits_of" "bits_of" (top 23) t.f_bits_of ["sheets"]
aCK:Fn1 K "__init__" "Book.__init__" (qR (top 25) 0) t.f_Book_init ["self","blocks","pages"]
aCO:Fn1 K "mark" "Book.mark" (qR (top 25) 1) t.f_Book_mark ["self","name"]
aCZ:Fn1 K "note" "Book.note" (qR (top 25) 2) t.f_Book_note ["self","page","name"]
aAA:Fn1 K "forget" "Book.forget" (qR (top 25) 3) t.f_Book_forget ["self","name"]
aAY:Fn1 K "emptied" "Book.emptied" (qR (top 25) 4) t.f_Book_emptied ["self","block"]
tM:Fn1 K "live_pages" "Book.live_pages" (qR (top 25) 6) t.f_Book_live_pages ["self","block"]
aCF:Fn1 K "held" "Book.held" (qR (top 25) 7) t.f_Book_held ["self"]
aB3:Fn1 K "__init__" "Plain.__init__" (qR (top 27) 0) t.f_Plain_init ["self","chip","terms"]
tI:Fn1 K "good" "Plain.good" (qR (top 27) 1) t.f_Plain_good ["self"]
aAH:FuncData
aD1:FunT K "free" "Plain.free" yD t.aB4 t.f_Plain_free aAH
aAV:yG K aAH ["self"] []
tZ:Fn1 K "part" "Plain.part" (qR (top 27) 3) t.f_Plain_part ["self"]
aBT:Fn1 K "spot" "Plain.spot" (qR (top 27) 4) t.f_Plain_spot ["self"]
aBG:Fn1 K "ready" "Plain.ready" (qR (top 27) 6) t.f_Plain_ready ["self"]
tV:Fn1 K "set_down" "Plain.set_down" (qR (top 27) 8) t.f_Plain_set_down ["self","name","value"]
aA0:Fn1 K "lay" "Plain.lay" (qR (top 27) 9) t.f_Plain_lay ["self","name","value"]
aAF:Fn1 K "write" "Plain.write" (qR (top 27) 10) t.f_Plain_write ["self","sheet","value"]
aAD:Fn1 K "give_up" "Plain.give_up" (qR (top 27) 11) t.f_Plain_give_up ["self","sheets"]
t8:Fn1 K "held" "Plain.held" (qR (top 27) 13) t.f_Plain_held ["self"]
i3:Fn1 K "check_sheet" "Plain.check_sheet" (qR (top 27) 14) t.f_Plain_check_sheet ["self","sheet"]
oW:Fn1 K "check_share" "Plain.check_share" (qR (top 27) 15) t.f_Plain_check_share ["self","sheet"]
aCD:Fn1 K "paper_of" "paper_of" (top 29) t.f_paper_of ["why","options","block","moved","wiped"]
aBZ:Fn1 K "__init__" "Store.__init__" (qR (top 30) 0) t.f_Store_init ["self","chip","terms","rule"]
tG:Fn1 K "reserve" "Store.reserve" (qR (top 30) 2) t.f_Store_reserve ["self"]
aBC:Fn1 K "tally" "Store.tally" (qR (top 30) 3) t.f_Store_tally ["self","block"]
aBI:Fn1 K "space" "Store.space" (qR (top 30) 4) t.f_Store_space ["self"]
iX:Fn1 K "full_ones" "Store.full_ones" (qR (top 30) 5) t.f_Store_full_ones ["self"]
i6:Fn1 K "with_dead_page" "Store.with_dead_page" (qR (top 30) 6) t.f_Store_with_dead_page ["self"]
i5:Fn1 K "choice_by_rule" "Store.choice_by_rule" (qR (top 30) 9) t.f_Store_choice_by_rule ["self","options"]
aBH:Fn1 K "moved" "Store.moved" (qR (top 30) 10) t.f_Store_moved ["self","block"]
oC:Fn1 K "value_to_move" "Store.value_to_move" (qR (top 30) 11) t.f_Store_value_to_move ["self","page","name"]
aBP:Fn1 K "wiped" "Store.wiped" (qR (top 30) 12) t.f_Store_wiped ["self","block"]
tJ:Fn1 K "clear_out" "Store.clear_out" (qR (top 30) 13) t.f_Store_clear_out ["self","block"]
oJ:Fn1 K "make_room" "Store.make_room" (qR (top 30) 14) t.f_Store_make_room ["self"]
i9:Fn1 K "make_ready" "Store.make_ready" (qR (top 30) 15) t.f_Store_make_ready ["self"]
tE:Fn1 K "make_rooms" "Store.make_rooms" (qR (top 30) 16) t.f_Store_make_rooms ["self"]
aBX:Fn1 K "least" "Even.least" (qR (top 32) 0) t.f_Even_least ["self"]
oY:Fn1 K "clearable" "Even.clearable" (qR (top 32) 2) t.f_Even_clearable ["self","tallies"]
o6:Fn1 K "options" "Even.options" (qR (top 32) 3) t.f_Even_options ["self"]
aBD:Fn1 K "choice" "Even.choice" (qR (top 32) 4) t.f_Even_choice ["self"]
iU:FuncData
aAL:FunT K "block_to_change" "Even.block_to_change" j9 t.oR t.f_Even_block_to_change iU
aAK:yG K iU ["self"] []
aCQ:Fn1 K "limits_of" "limits_of" (top 34) t.f_limits_of ["ills","blocks"]
o7:FuncData
aEC:Value
aEU:FunD K "__init__" "Chip.__init__" vF aEC t.f_Chip_init o7
aF9:yG K o7 ["self","blocks","pages","most","ills"] []
aA8:List Value
aFX:yG K o7 ["self","blocks","pages","most","ills"] aA8
aFV:Vals [.non] aA8
aA4:List Value
aDR:yG K o7 ["self","blocks","pages","most","ills"] aA4
aDA:Vals [.int 1000000,.non] aA4
aDI:Fn1 K "put" "Chip.put" (qR (top 35) 1) t.f_Chip_put ["self","page","stuff"]
aCS:Fn1 K "wipe" "Chip.wipe" (qR (top 35) 2) t.f_Chip_wipe ["self","block"]
aAN:Fn1 K "read" "Chip.read" (qR (top 35) 3) t.f_Chip_read ["self","page"]
aAZ:Fn1 K "is_dark" "Chip.is_dark" (qR (top 35) 6) t.f_Chip_is_dark ["self"]
iY:Fn1 K "cleared" "Chip.cleared" (qR (top 35) 7) t.f_Chip_cleared ["self","block"]
aBJ:Fn1 K "failed" "Chip.failed" (qR (top 35) 8) t.f_Chip_failed ["self","block"]
t6:Fn1 K "deeds" "Chip.deeds" (qR (top 35) 9) t.f_Chip_deeds ["self"]
oH:Fn1 K "check_page" "Chip.check_page" (qR (top 35) 10) t.f_Chip_check_page ["self","page"]
iW:Fn1 K "check_block" "Chip.check_block" (qR (top 35) 11) t.f_Chip_check_block ["self","block"]
oA:Fn1 K "check_power" "Chip.check_power" (qR (top 35) 12) t.f_Chip_check_power ["self"]
oN:Fn1 K "check_deed" "Chip.check_deed" (qR (top 35) 13) t.f_Chip_check_deed ["self","block"]
tF:Fn1 K "is_spent" "Chip.is_spent" (qR (top 35) 14) t.f_Chip_is_spent ["self","block"]
tP:Fn1 K "do_deed" "Chip.do_deed" (qR (top 35) 15) t.f_Chip_do_deed ["self","word","place","block","fails"]
aBB:Fn1 K "is_unbeaten" "is_unbeaten" (top 37) t.f_is_unbeaten ["rule","tally","tallies","pages","now"]
tT:Fn1 K "first_unbeaten" "first_unbeaten" (top 38) t.f_first_unbeaten ["rule","tallies","pages","now"]
tL:Fn1 K "goes_ahead" "Rule.goes_ahead" (qR (top 39) 0) t.f_Rule_goes_ahead ["self","one","other","pages","now"]
oS:Fn1 K "choose" "Rule.choose" (qR (top 39) 1) t.f_Rule_choose ["self","tallies","pages","now"]
oU:Fn1 K "goes_ahead" "Fewest.goes_ahead" (qR (top 40) 0) t.f_Fewest_goes_ahead ["self","one","other","pages","now"]
oX:Fn1 K "goes_ahead" "Eldest.goes_ahead" (qR (top 41) 0) t.f_Eldest_goes_ahead ["self","one","other","pages","now"]
tD:Fn1 K "goes_ahead" "Worth.goes_ahead" (qR (top 42) 0) t.f_Worth_goes_ahead ["self","one","other","pages","now"]
aBE:Fn1 K "__init__" "Follow.__init__" (qR (top 43) 0) t.f_Follow_init ["self","blocks"]
aAE:Fn1 K "choose" "Follow.choose" (qR (top 43) 1) t.f_Follow_choose ["self","tallies","pages","now"]
oO:FuncData
aDB:Value
aDV:FunD K "__init__" "Terms.__init__" uS aDB t.f_Terms_init oO
aD6:yG K oO ["self","blocks","pages","sheets","share","ill","spread"] []
aAW:List Value
aFP:yG K oO ["self","blocks","pages","sheets","share","ill","spread"] aAW
aFQ:Vals [.int 1000000] aAW
aAP:List Value
aFO:yG K oO ["self","blocks","pages","sheets","share","ill","spread"] aAP
aFR:Vals [.int 0,.int 1000000] aAP
aAS:Fn1 K "closed" "Terms.closed" (qR (top 45) 1) t.f_Terms_closed ["self"]
iP:Fn1 K "_law_cell_at" "_law_cell_at" (top 47) t.f_law_cell_at ["_law_script","_law_k"]
aCR:Fn1 K "_law_whole" "_law_whole" (top 48) t.f_law_whole ["_law_found"]
aCT:Fn1 K "_law_shape" "_law_shape" (top 49) t.f_law_shape ["_law_script"]
aCX:Fn1 K "_law_names" "_law_names" (top 50) t.f_law_names ["_law_script","_law_share"]
aDJ:Fn1 K "_law_pick" "_law_pick" (top 51) t.f_law_pick ["_law_cell","_law_names_here"]
aCI:Fn1 K "_law_moves" "_law_moves" (top 52) t.f_law_moves ["_law_stuff","_law_pages","_law_block","_law_kept"]
aCP:Fn1 K "_law_spots" "_law_spots" (top 53) t.f_law_spots ["_law_chip","_law_stuff","_law_pages"]
aBV:Fn1 K "_law_behind" "_law_behind" (top 54) t.f_law_behind ["_law_stuff","_law_pages","_law_block","_law_moves_here","_law_kept"]
aCV:Fn1 K "_law_worth" "_law_worth" (top 55) t.f_law_worth ["_law_one","_law_other","_law_pages","_law_now"]
aEQ:Fn1 K "_law_due" "_law_due" (top 56) t.f_law_due ["_law_way_here","_law_options","_law_pages","_law_now","_law_asked"]
aDK:Fn1 K "_law_fits" "_law_fits" (top 57) t.f_law_fits ["_law_paper","_law_options","_law_spared","_law_due_here"]
aCJ:Fn1 K "_law_ruled" "_law_ruled" (top 58) t.f_law_ruled ["_law_store"]
aDG:Fn1 K "_law_made" "_law_made" (top 59) t.f_law_made ["_law_store","_law_chip","_law_pages","_law_spread","_law_kept","_law_way_here"]
aEV:Fn1 K "_law_way" "_law_way" (top 60) t.f_law_way ["_law_cell"]
aDN:Fn1 K "_law_rule" "_law_rule" (top 61) t.f_law_rule ["_law_way_here"]
law:Fn1 K "law" "law" (top 62) t.f_law ["_law_script"]
structure HkE where
P:Program
w:World
K:W.Frag
mg:Str->Option Value
t:Adr
def hkB(e:HkE):Prop:=∃(S:Fns e.K e.t) (base:Heap),Txt e.K e.mg e.t/\BmIn base e.mg/\¬S.law.Ok0 e.P e.w e.mg base 18 (q5O e.K [e.t.fW,e.t.fX])
instance:Nonempty HkE:=⟨⟨PySem.Challenge.pw_wornpages_k43_a_changing_about,⟨λ_ _=>0,{ strHash:=λ_=>0,shareClass:=λ_=>0,mergeTok:=id,idOf:=λ_=>0,idOfShared:=λ_ _=>0,followText:=λ_=>false,idOfImm:=λ_=>0 }⟩,[],λ_=>none,by constructor<;>exact(0:Nat)⟩⟩
@[irreducible] noncomputable def hkE:HkE:=Classical.epsilon hkB
noncomputable def P:Program:=hkE.P
noncomputable def w:World:=hkE.w
noncomputable def K:W.Frag:=hkE.K
noncomputable def mg:Str->Option Value:=hkE.mg
noncomputable def t:Adr:=hkE.t
abbrev tXx:=Txt K mg t
abbrev tFf:=Fns K t
section
variable{base:Heap}
theorem qBN:FnScope ["thing"] ["thing"] (qH (top 15)):=qX (by decide+kernel)
theorem qA6:FnScope ["thing","low","high"] ["thing","low","high"] (qH (top 16)):=qX (by decide+kernel)
theorem qBO:FnScope ["blocks","pages"] ["blocks","pages"] (qH (top 17)):=qX (by decide+kernel)
theorem qBP:FnScope ["thing"] ["thing"] (qH (top 18)):=qX (by decide+kernel)
theorem qCV:FnScope ["stamp","name"] ["stamp","name"] (qH (top 22)):=qX (by decide+kernel)
theorem q29:FnScope ["sheets","bits","sheet"] ["sheets"] (qH (top 23)):=qX (by decide+kernel)
theorem qA7:FnScope ["self","blocks","pages"] ["self","blocks","pages"] (qH (qR (top 25) 0)):=qX (by decide+kernel)
theorem qA8:FnScope ["self","name"] ["self","name"] (qH (qR (top 25) 1)):=qX (by decide+kernel)
theorem q5A:FnScope ["self","page","name","block"] ["self","page","name"] (qH (qR (top 25) 2)):=qX (by decide+kernel)
theorem q37:FnScope ["self","name","page"] ["self","name"] (qH (qR (top 25) 3)):=qX (by decide+kernel)
theorem q67:FnScope ["self","block"] ["self","block"] (qH (qR (top 25) 4)):=qX (by decide+kernel)
theorem q4L:FnScope ["self","block"] ["self","block"] (qH (qR (top 25) 6)):=qX (by decide+kernel)
theorem qA9:FnScope ["self"] ["self"] (qH (qR (top 25) 7)):=qX (by decide+kernel)
theorem q8D:FnScope ["self","chip","terms"] ["self","chip","terms"] (qH (qR (top 27) 0)):=qX (by decide+kernel)
theorem q8E:FnScope ["self"] ["self"] (qH (qR (top 27) 1)):=qX (by decide+kernel)
theorem q47:FnScope ["self","clear"] ["self"] (qH yD):=qX (by decide+kernel)
theorem q48:FnScope ["self","block"] ["self"] (qH (qR (top 27) 3)):=qX (by decide+kernel)
theorem q14:FnScope ["self","part","free"] ["self"] (qH (qR (top 27) 4)):=qX (by decide+kernel)
theorem q38:FnScope ["self","spare"] ["self"] (qH (qR (top 27) 6)):=qX (by decide+kernel)
theorem q0M:FnScope ["self","name","value","page"] ["self","name","value"] (qH (qR (top 27) 8)):=qX (by decide+kernel)
theorem qAA:FnScope ["self","name","value"] ["self","name","value"] (qH (qR (top 27) 9)):=qX (by decide+kernel)
theorem q7O:FnScope ["self","sheet","value"] ["self","sheet","value"] (qH (qR (top 27) 10)):=qX (by decide+kernel)
theorem u7:FnScope ["self","sheets","sheet","held","gone"] ["self","sheets"] (qH (qR (top 27) 11)):=qX (by decide+kernel)
theorem q8F:FnScope ["self"] ["self"] (qH (qR (top 27) 13)):=qX (by decide+kernel)
theorem q39:FnScope ["self","sheet"] ["self","sheet"] (qH (qR (top 27) 14)):=qX (by decide+kernel)
theorem zH:FnScope ["self","sheet","held"] ["self","sheet"] (qH (qR (top 27) 15)):=qX (by decide+kernel)
theorem qBQ:FnScope ["why","options","block","moved","wiped"] ["why","options","block","moved","wiped"] (qH (top 29)):=qX (by decide+kernel)
theorem q8G:FnScope ["self","chip","terms","rule"] ["self","chip","terms","rule"] (qH (qR (top 30) 0)):=qX (by decide+kernel)
theorem q5U:FnScope ["self"] ["self"] (qH (qR (top 30) 2)):=qX (by decide+kernel)
theorem q7P:FnScope ["self","block"] ["self","block"] (qH (qR (top 30) 3)):=qX (by decide+kernel)
theorem q3A:FnScope ["self","part"] ["self"] (qH (qR (top 30) 4)):=qX (by decide+kernel)
theorem uE:FnScope ["self","space","full","tallies"] ["self"] (qH (qR (top 30) 5)):=qX (by decide+kernel)
theorem q1K:FnScope ["self"] ["self"] (qH (qR (top 30) 6)):=qX (by decide+kernel)
theorem q1L:FnScope ["self","options"] ["self","options"] (qH (qR (top 30) 9)):=qX (by decide+kernel)
theorem vR:FnScope ["self","block","moves","page","name"] ["self","block"] (qH (qR (top 30) 10)):=qX (by decide+kernel)
theorem q2A:FnScope ["self","page","name"] ["self","page","name"] (qH (qR (top 30) 11)):=qX (by decide+kernel)
theorem q7Q:FnScope ["self","block"] ["self","block"] (qH (qR (top 30) 12)):=qX (by decide+kernel)
theorem q4M:FnScope ["self","block"] ["self","block"] (qH (qR (top 30) 13)):=qX (by decide+kernel)
theorem yP:FnScope ["self","options","chosen","moved","wiped"] ["self"] (qH (qR (top 30) 14)):=qX (by decide+kernel)
theorem q3X:FnScope ["self"] ["self"] (qH (qR (top 30) 15)):=qX (by decide+kernel)
theorem q3Y:FnScope ["self"] ["self"] (qH (qR (top 30) 16)):=qX (by decide+kernel)
theorem q8H:FnScope ["self"] ["self"] (qH (qR (top 32) 0)):=qX (by decide+kernel)
theorem q0N:FnScope ["self","tallies","bound"] ["self","tallies"] (qH (qR (top 32) 2)):=qX (by decide+kernel)
theorem q68:FnScope ["self"] ["self"] (qH (qR (top 32) 3)):=qX (by decide+kernel)
theorem q3B:FnScope ["self","options"] ["self"] (qH (qR (top 32) 4)):=qX (by decide+kernel)
theorem vG:FnScope ["self","tallies"] ["self"] (qH j9):=qX (by decide+kernel)
theorem zS:FnScope ["ills","blocks","limits","block","deeds"] ["ills","blocks"] (qH (top 34)):=qX (by decide+kernel)
theorem qAB:FnScope ["self","blocks","pages","most","ills"] ["self","blocks","pages","most","ills"] (qH vF):=qX (by decide+kernel)
theorem q62:FnScope ["self","page","stuff","block"] ["self","page","stuff"] (qH (qR (top 35) 1)):=qX (by decide+kernel)
theorem zT:FnScope ["self","block","fails","first","page"] ["self","block"] (qH (qR (top 35) 2)):=qX (by decide+kernel)
theorem qAC:FnScope ["self","page"] ["self","page"] (qH (qR (top 35) 3)):=qX (by decide+kernel)
theorem q69:FnScope ["self"] ["self"] (qH (qR (top 35) 6)):=qX (by decide+kernel)
theorem q6A:FnScope ["self","block"] ["self","block"] (qH (qR (top 35) 7)):=qX (by decide+kernel)
theorem q7R:FnScope ["self","block"] ["self","block"] (qH (qR (top 35) 8)):=qX (by decide+kernel)
theorem q8I:FnScope ["self"] ["self"] (qH (qR (top 35) 9)):=qX (by decide+kernel)
theorem q4N:FnScope ["self","page"] ["self","page"] (qH (qR (top 35) 10)):=qX (by decide+kernel)
theorem q3Z:FnScope ["self","block"] ["self","block"] (qH (qR (top 35) 11)):=qX (by decide+kernel)
theorem q40:FnScope ["self"] ["self"] (qH (qR (top 35) 12)):=qX (by decide+kernel)
theorem q4O:FnScope ["self","block"] ["self","block"] (qH (qR (top 35) 13)):=qX (by decide+kernel)
theorem q5V:FnScope ["self","block"] ["self","block"] (qH (qR (top 35) 14)):=qX (by decide+kernel)
theorem q6B:FnScope ["self","word","place","block","fails"] ["self","word","place","block","fails"] (qH (qR (top 35) 15)):=qX (by decide+kernel)
theorem q3C:FnScope ["rule","tally","tallies","pages","now","other"] ["rule","tally","tallies","pages","now"] (qH (top 37)):=qX (by decide+kernel)
theorem vS:FnScope ["rule","tallies","pages","now","place"] ["rule","tallies","pages","now"] (qH (top 38)):=qX (by decide+kernel)
theorem q4P:FnScope ["self","one","other","pages","now"] ["self","one","other","pages","now"] (qH (qR (top 39) 0)):=qX (by decide+kernel)
theorem q7S:FnScope ["self","tallies","pages","now"] ["self","tallies","pages","now"] (qH (qR (top 39) 1)):=qX (by decide+kernel)
theorem q3D:FnScope ["self","one","other","pages","now"] ["self","one","other","pages","now"] (qH (qR (top 40) 0)):=qX (by decide+kernel)
theorem q3E:FnScope ["self","one","other","pages","now"] ["self","one","other","pages","now"] (qH (qR (top 41) 0)):=qX (by decide+kernel)
theorem uZ:FnScope ["self","one","other","pages","now","gain_of_one","gain_of_other"] ["self","one","other","pages","now"] (qH (qR (top 42) 0)):=qX (by decide+kernel)
theorem q7T:FnScope ["self","blocks"] ["self","blocks"] (qH (qR (top 43) 0)):=qX (by decide+kernel)
theorem vZ:FnScope ["self","tallies","pages","now","blocks","told"] ["self","tallies","pages","now"] (qH (qR (top 43) 1)):=qX (by decide+kernel)
theorem q8J:FnScope ["self","blocks","pages","sheets","share","ill","spread"] ["self","blocks","pages","sheets","share","ill","spread"] (qH uS):=qX (by decide+kernel)
theorem q6C:FnScope ["self"] ["self"] (qH (qR (top 45) 1)):=qX (by decide+kernel)
theorem q7U:FnScope ["_law_script","_law_k"] ["_law_script","_law_k"] (qH (top 47)):=qX (by decide+kernel)
theorem qAD:FnScope ["_law_found"] ["_law_found"] (qH (top 48)):=qX (by decide+kernel)
theorem uF:FnScope ["_law_script","_law_pages","_law_closed","_law_ill","_law_share"] ["_law_script"] (qH (top 49)):=qX (by decide+kernel)
theorem qAE:FnScope ["_law_script","_law_share"] ["_law_script","_law_share"] (qH (top 50)):=qX (by decide+kernel)
theorem qBR:FnScope ["_law_cell","_law_names_here"] ["_law_cell","_law_names_here"] (qH (top 51)):=qX (by decide+kernel)
theorem uT:FnScope ["_law_stuff","_law_pages","_law_block","_law_kept","_law_latest","_law_page","_law_found","_law_name"] ["_law_stuff","_law_pages","_law_block","_law_kept"] (qH (top 52)):=qX (by decide+kernel)
theorem uG:FnScope ["_law_chip","_law_stuff","_law_pages","_law_spots_here","_law_clear","_law_block","_law_mine","_law_count"] ["_law_chip","_law_stuff","_law_pages"] (qH (top 53)):=qX (by decide+kernel)
theorem yN:FnScope ["_law_stuff","_law_pages","_law_block","_law_moves_here","_law_kept","_law_behind_here","_law_stamp","_law_name","_law_start","_law_end","_law_page"] ["_law_stuff","_law_pages","_law_block","_law_moves_here","_law_kept"] (qH (top 54)):=qX (by decide+kernel)
theorem q5B:FnScope ["_law_one","_law_other","_law_pages","_law_now","_law_here"] ["_law_one","_law_other","_law_pages","_law_now"] (qH (top 55)):=qX (by decide+kernel)
theorem q0C:FnScope ["_law_way_here","_law_options","_law_pages","_law_now","_law_asked","_law_best","_law_row"] ["_law_way_here","_law_options","_law_pages","_law_now","_law_asked"] (qH (top 56)):=qX (by decide+kernel)
theorem q63:FnScope ["_law_paper","_law_options","_law_spared","_law_due_here","_law_few"] ["_law_paper","_law_options","_law_spared","_law_due_here"] (qH (top 57)):=qX (by decide+kernel)
theorem qAF:FnScope ["_law_store"] ["_law_store"] (qH (top 58)):=qX (by decide+kernel)
theorem jK:FnScope ["_law_store","_law_chip","_law_pages","_law_spread","_law_kept","_law_way_here","_law_stuff","_law_bound","_law_spared","_law_options","_law_deeds","_law_due_here","_law_now","_law_spots_here","_law_refused","_law_paper","_law_block","_law_moves_here","_law_behind_here"] ["_law_store","_law_chip","_law_pages","_law_spread","_law_kept","_law_way_here"] (qH (top 59)):=qX (by decide+kernel)
theorem qCW:FnScope ["_law_cell"] ["_law_cell"] (qH (top 60)):=qX (by decide+kernel)
theorem qBS:FnScope ["_law_way_here"] ["_law_way_here"] (qH (top 61)):=qX (by decide+kernel)
theorem v3:FnScope ["_law_script","_law_blocks","_law_pages","_law_share","_law_ill","_law_spread","_law_chip","_law_terms","_law_way_here","_law_store","_law_names_here","_law_kept","_law_name","_law_k","_law_cell","_law_sheet"] ["_law_script"] (qH (top 62)):=qX (by decide+kernel)
local macro_rules| `(tactic|walk_at "r")=>`(tactic|repeat (first|with_reducible refine⟨_,rfl,?_⟩|refine⟨_,rfl,?_⟩|refine(iI ?_)))
theorem qBT(T:tXx)(S:tFf):S.aDP.Ok0 P w mg base 1 qDA:=by(
refine S.aDP.F.ok0 qBN λJ A _ s H Z Q E U h=>?_
obtain⟨x,rfl,O,k⟩:=h
refine⟨_,(qE (qM (q0P (jE uQ (by rfl) T.oE (by kernel_rfl) (qA (pv 0) (qA (q3L rfl T.aGC (by kernel_rfl) rfl (v:=.ty "int")) qD))) (zZ (qC5 (jE uQ (by rfl) T.oE (by kernel_rfl) (qA (pv 0) (qA (q3L rfl T.aF2 (by kernel_rfl) rfl (v:=.ty "bool")) qD)))))))),?_⟩
obtain⟨ty,q,I,N,_⟩:=O.ty (K:=K)
refine⟨_,rfl,x,_,_,ty,_,rfl,rfl,.inl q,I,_,rfl,?_⟩
have z:=qFP x
cases qi:isI x with
|true=>rw[qi,kL rfl]at z;refine iteT ?_;refine⟨_,rfl,x,_,_,ty,_,rfl,rfl,.inl q,N,_,rfl,?_⟩;rw[z];exact k
|false=>rw[qi]at z;refine iteF ?_;have D:false=isW x:=z;rw[D];exact k)
theorem jV(T:tXx)(S:tFf):S.iQ.Ok0 P w mg base 2 qFQ:=by(
refine S.iQ.F.ok0 qA6 λN A Z s H U Q E J h=>?_
obtain⟨x,D,I,rfl,O,k⟩:=h
refine⟨_,(qE (qM (q0P (qZ (qBT T S).mono J rfl T.aEM T.aEO S.aDP.b .nil qK (qA (pv 0) qD)) (zZ (qF7 qF5 qF5 (pv 1) (pv 0) (pv 2)))))),?_⟩
refine⟨_,rfl,x,rfl,O,_,rfl,?_⟩
cases x with
|int i=>
 refine⟨_,rfl,_,rfl,iI ⟨_,rfl,?_⟩⟩;have z:Q (V.bl (decide (D<=i)&&decide (i<=I))) H:=k;by_cases h1:D<=i
 .rw[hG h1]at z ⊢;refine iteT ?_;exact⟨_,rfl,iI z⟩
 rw[hX h1]at z ⊢;refine iteF ?_;exact z
|_=>exact iteF k)
theorem q64(T:tXx)(S:tFf):S.aCB.Ok0 P w mg base 3 qI3:=by(
refine S.aCB.F.ok0 qBO λD A U s H N Q E z h=>?_
obtain⟨x,y,rfl,J,I,k⟩:=h
refine⟨_,(qE (qM (q0P (qZ (jV T S).mono z rfl T.iG T.iE S.iQ.b .nil qK (qA (pv 0) (qA qC (qA qC qD)))) (zZ (qZ (jV T S).mono z rfl T.iG T.iE S.iQ.b .nil qK (qA (pv 1) (qA qC (qA qC qD)))))))),?_⟩
refine⟨_,rfl,x,_,_,rfl,J,_,rfl,?_⟩
cases q:inB x 2 16 with
|true=>rw[q]at k;refine iteT ⟨_,rfl,y,_,_,rfl,I,k⟩
|false=>rw[q]at k;assumption)
structure Gd(m:CM):Prop where
lf:m.lf=none
br:∀b,m.br.getD b false=false
li:∀b,valV m.lim (Sum.inl b)=none
theorem inBi{v:Int}(h1:lo<=v)(h2:v<=hi):inB (.int v) lo hi=true:=by show(decide _&&decide _)=true;rw[hG h1,hG h2];rfl
noncomputable def putC(m:CM)(p:Nat)(st:V):CM:={ m.deed "put" (p:Int) ((p:Int) / m.pg) false with bo:=m.bo.set p st }
noncomputable def wipC(m:CM)(b:Nat):CM:={ m.deed "wipe" (b:Int) (b:Int) false with bo:=clr m.bo ((b:Int)*m.pg).toNat m.pg.toNat,cl:=m.cl.set b (m.cl.getD b 0+1) }
inductive spCP(t:Adr)(vs:List V)(H:Hp)(Q:VK)(E:XK):Prop
|mk:∀c a m,∀p:Int,vs=[.ref c,.int p]->ChipAt t.C_Chip H c a m->m.Ok->0<=p->p<=m.bl*m.pg-1->Q .non H->spCP t vs H Q E
theorem q0D(T:tXx)(S:tFf):S.oH.Ok0 P w mg base 3 (spCP t):=by(
refine S.oH.F.ok0 q4N λI A _ s H O Q E D h=>?_
obtain⟨c,a,m,p,rfl,z,ok,N,J,q⟩:=h
refine⟨_,(qE (jG (u9 (yI (qZ (jV T S).mono D rfl T.iG T.iE S.iQ.b .nil qK (qA (pv 1) (qA qC (qA (qL uA (qL jP (qJ (pv 0) rfl) (qJ (pv 0) rfl)) qC) qD)))))) (qE jN) qS)),?_⟩
have Z:=ok.bl1
have U:=ok.bl2
refine⟨_,rfl,iV rfl (iF z.ins T.fZ T.iJ rfl (iV rfl (iF z.ins T.fZ T.iS rfl ?_)))⟩
refine(iI ⟨.inl ⟨by lia,by lia⟩,iI ⟨.int p,_,_,rfl,.int p,_,rfl,?_⟩⟩)
rw[inBi N J]
exact iteF q)
inductive spCB(t:Adr)(vs:List V)(H:Hp)(Q:VK)(E:XK):Prop
|mk:∀c a m,∀p:Int,vs=[.ref c,.int p]->ChipAt t.C_Chip H c a m->0<=p->p<=m.bl-1->Q .non H->spCB t vs H Q E
theorem v4(T:tXx)(S:tFf):S.iW.Ok0 P w mg base 3 (spCB t):=by(
refine S.iW.F.ok0 q3Z λI A U s H O Q E D h=>?_
obtain⟨c,a,m,p,rfl,z,N,J,q⟩:=h
refine⟨_,(qE (jG (u9 (yI (qZ (jV T S).mono D rfl T.iG T.iE S.iQ.b .nil qK (qA (pv 1) (qA qC (qA (qL uA (qJ (pv 0) rfl) qC) qD)))))) (qE jN) qS)),?_⟩
refine⟨_,rfl,iV rfl (iF z.ins T.fZ T.iJ rfl (iI ⟨.int p,_,_,rfl,.int p,_,rfl,?_⟩))⟩
rw[inBi N J]
assumption)
inductive spID(t:Adr)(vs:List V)(H:Hp)(Q:VK)(E:XK):Prop
|mk:∀c a m,vs=[.ref c]->ChipAt t.C_Chip H c a m->Q (.bl (decide (m.lf=some 0))) H->spID t vs H Q E
theorem q6D(T:tXx)(S:tFf):S.aAZ.Ok0 P w mg base 1 (spID t):=by(
refine S.aAZ.F.ok0 q69 λz A U s H I Q E J h=>?_
obtain⟨c,a,m,rfl,D,q⟩:=h
refine⟨_,(qE (qM (yT yO (qJ (pv 0) rfl) qC (qQ _)))),?_⟩
refine⟨_,rfl,c,_,a.dx,_,_,rfl,D.ins,T.fZ,T.oP,rfl,qI2,?_⟩
rw[lf0]
exact q)
inductive spPW(t:Adr)(vs:List V)(H:Hp)(Q:VK)(E:XK):Prop
|mk:∀c a m,vs=[.ref c]->ChipAt t.C_Chip H c a m->m.lf=none->Q .non H->spPW t vs H Q E
theorem zO(T:tXx)(S:tFf):S.oA.Ok0 P w mg base 2 (spPW t):=by(
refine S.oA.F.ok0 q40 λD A U s H J Q E I h=>?_
obtain⟨c,a,m,rfl,z,hl,q⟩:=h
refine⟨_,(qE (jG (yI (jB (pv 0) T.fZ T.aC4 (q6D T S).mono I S.aAZ.b .nil qK)) (qE jN) qS)),?_⟩
try dsimp-beta-proj-iota-zeta-eta only[wishK,cxK]
refine(iV rfl (iM z.ins rfl ⟨c,a,m,rfl,z,_,rfl,?_⟩))
rw[hl]
exact iteF q)
inductive spCD(t:Adr)(vs:List V)(H:Hp)(Q:VK)(E:XK):Prop
|mk:∀c a m b,vs=[.ref c,.int b]->ChipAt t.C_Chip H c a m->m.Ok->Gd m->0<=b->b<m.bl->Q .non H->spCD t vs H Q E
theorem q0E(T:tXx)(S:tFf):S.oN.Ok0 P w mg base 3 (spCD t):=by(
refine S.oN.F.ok0 q4O λI A Z s H O Q E D h=>?_
obtain⟨c,a,m,b,rfl,z,ok,g,J,U,q⟩:=h
refine⟨_,(qB (jA (jB (pv 0) T.fZ T.tR (zO T S).mono D S.oA.b .nil qK)) (qE (jG (yI (qO jD (qJ (pv 0) rfl) (pv 1) (λZ Z=>rfl))) (qE jN) qS))),?_⟩
try dsimp-beta-proj-iota-zeta-eta only[wishK,cxK]
have N:=ok.nbr
refine(iV rfl (iM z.ins rfl ⟨c,a,m,rfl,z,g.lf,?_⟩))
refine(iV rfl (iF z.ins T.fZ T.tU rfl ⟨_,rfl,iL (k:=b) (v:=_) (SqL.of z.br) (getB J (by lia)) ⟨_,rfl,?_⟩⟩))
rw[g.br]
exact iteF q)
inductive spIS(t:Adr)(vs:List V)(H:Hp)(Q:VK)(E:XK):Prop
|mk:∀c a m b,vs=[.ref c,.int b]->ChipAt t.C_Chip H c a m->Gd m->Q (.bl false) H->spIS t vs H Q E
theorem q1M(T:tXx)(S:tFf):S.tF.Ok0 P w mg base 1 (spIS t):=by(
refine S.tF.F.ok0 q5V λJ A U s H N Q E I h=>?_
obtain⟨c,a,m,b,rfl,z,g,q⟩:=h
have D:=q45 I
refine⟨_,(qE (qM (q0P (qK3 (qCC D (pv 1) (qJ (pv 0) rfl))) (zZ (yT qD6 (qO jD (qJ (pv 0) rfl) (pv 1) (λU U=>rfl)) (qD9 D (qJ (pv 0) rfl) (pv 1) (λU U=>rfl)) (qQ _)))))),?_⟩
refine⟨_,rfl,iV rfl (iF z.ins T.fZ T.aA6 rfl ⟨a.li,_,rfl,DGet.k (k:=Sum.inl b) z.li,_,rfl,?_⟩)⟩
rw[g.li]
assumption)
inductive spDD(t:Adr)(vs:List V)(H:Hp)(Q:VK)(E:XK):Prop
|mk:∀c a m w pl b,vs=[.ref c,.str w,.int pl,.int b,.bl false]->ChipAt t.C_Chip H c a m->m.Ok->m.lf=none->m.rc.length<1000000->0<=b->b<m.bl->(∀H',ChipAt t.C_Chip H' c a (m.deed w pl b false)->Keep (foot c a) H H'->Q .non H')->spDD t vs H Q E
theorem q2F(T:tXx)(S:tFf):S.tP.Ok0 P w mg base 3 (spDD t):=by(
refine S.tP.F.ok0 q6B λaf A _ s H vs Q E hr h=>?_
obtain⟨c,a,m,w,pl,b,rfl,J,ok,hl,N,b0,b1,q⟩:=h
refine⟨_,(qB (jG (qP q3M (qJ (pv 0) rfl) u8 (qQ _)) (qE jN) qS) (qB (q4T (qJ (pv 0) rfl) (pv 3) q2K qC q6S u6) (qB (jA (q2J gO dD dE uP (qJ (pv 0) rfl) (qA (yB (qA (pv 1) (qA (pv 2) (qA (qC5 (pv 4)) qD)))) qD q1C))) (qE (jG (yI (pv 4)) (qB jN (qE jN)) qS))))),?_⟩
try dsimp-beta-proj-iota-zeta-eta only[wishK,cxK]
have nd:=ok.ndc
refine⟨_,rfl,c,_,a.dx,_,_,rfl,J.ins,T.fZ,T.oP,rfl,rfl,_,rfl,?_⟩
rw[show lfV m.lf=V.non from by rw[hl];rfl]
refine iteF ?_
have U:ChipAt t.C_Chip H c a { m with lf:=m.lf.map (· - 1) }:=by rw[hl];show ChipAt t.C_Chip H c a { m with lf:=none };rw[<-hl];exact J
refine(iV rfl (iF J.ins T.fZ T.tK rfl ⟨_,rfl,iL (k:=b) (v:=_) (SqL.of J.dc) (getI b0 (by lia)) (iI ⟨a.dc,_,b,b.toNat,rfl,rfl,J.dc,by rw[hU];exact ixOk b0 (by lia),?_⟩)⟩))
rw[<-bH]
have D:=U.setDc (m.dc.set b.toNat (m.dc.getD b.toNat 0+1))
have k2:Keep (foot c a) H (upd H a.dc (.lst ((m.dc.set b.toNat (m.dc.getD b.toNat 0+1)).map V.int))):=Keep.upd J.dc (λU z=>by cases z) (by simp[foot])
generalize upd H a.dc (.lst ((m.dc.set b.toNat (m.dc.getD b.toNat 0+1)).map V.int))=H2 at D k2 ⊢
obtain⟨rs,Z,pr⟩:=D.rc
have ln:rs.length<=1000000:=by rw[pr.len];exact cK N
refine(iV rfl (iF D.ins T.fZ T.tW rfl ⟨.inl ⟨rfl,_,SqL.of Z⟩,_,rfl,_,rfl,_,rfl,_,rfl,sz3,λp H3 np O hp=>?_⟩))
have I:=O _ _ Z
refine⟨a.rc,rs,_,rfl,rfl,I,dJ ln (by decide),?_⟩
exact⟨_,rfl,_,rfl,iteF (q _ ((D.same O).addRc (d:=(w,pl,!false)) I hp) ((k2.trans (Keep.same O)).trans (Keep.upd (o:=.lst (rs++[.ref p])) I (λU z=>by cases z) (by simp[foot]))))⟩)
inductive spPut(t:Adr)(vs:List V)(H:Hp)(Q:VK)(E:XK):Prop
|mk:∀c a m,∀p:Nat,∀st,vs=[.ref c,.int (p:Int),st]->ChipAt t.C_Chip H c a m->m.Ok->m.rc.length<1000000->Gd m->(p:Int)<=m.bl*m.pg-1->m.bo.getD p .non=.non->(∀H',ChipAt t.C_Chip H' c a (putC m p st)->Keep (foot c a) H H'->Q .non H')->spPut t vs H Q E
theorem qBU(T:tXx)(S:tFf):S.aDI.Ok0 P w mg base 4 (spPut t):=by(
refine S.aDI.F.ok0 q62 λac A _ s H vs Q E J h=>?_
obtain⟨c,a,m,p,st,rfl,D,ok,O,g,U,hw,q⟩:=h
refine⟨_,(qB (jA (qY (pv 0) T.fZ T.t7 (q0D T S).mono J S.oH.b .nil qK (qA (pv 1) qD))) (qB (qU (i:=3) q62.nd (qL uL (pv 1) (qJ (pv 0) rfl))) (qB (jA (qY (pv 0) T.fZ T.tY (q0E T S).mono J S.oN.b .nil qK (qA (pv 3) qD))) (qB (jG (qP q3M (qO jD (qJ (pv 0) rfl) (pv 1) (λz z=>rfl)) u8 (qQ _)) (qE jN) qS) (qB (jA (qY (pv 0) T.fZ T.aA5 (q2F T S).mono J S.tP.b .nil qK (qA zY (qA (pv 1) (qA (pv 3) (qA (qY (pv 0) T.fZ T.aAR (q1M T S).mono J S.tF.b .nil qK (qA (pv 3) qD)) qD)))))) (qE (q1U (pv 2) (q2H (qJ (pv 0) rfl) (pv 1) u6)))))))),?_⟩
try dsimp-beta-proj-iota-zeta-eta only[wishK,cxK]
have ag:=ok.pg1
have ad:=ok.pg2
have ab:=ok.nbo
have N:(0:Int)<=p:=by lia
obtain⟨b0,Z⟩:=qL5 ok N U
refine(iV rfl (iM D.ins rfl ⟨_,rfl,c,a,m,p,rfl,D,ok,N,U,?_⟩))
refine⟨_,rfl,iV rfl (iF D.ins T.fZ T.iS rfl (iI ⟨⟨by lia,by lia⟩,?_⟩))⟩
refine(iV rfl (iM D.ins rfl ⟨_,rfl,c,a,m,_,rfl,D,ok,g,b0,Z,?_⟩))
refine(iV rfl (iF D.ins T.fZ T.oM rfl ⟨_,rfl,iL (k:=p) (v:=_) (SqL.of D.bo) (getV N (by lia)) ⟨rfl,_,rfl,?_⟩⟩))
rw[mC,hG hw]
refine iteF ?_
refine(iV rfl (iM D.ins rfl ⟨_,rfl,_,rfl,iV rfl (iM D.ins rfl ⟨_,rfl,c,a,m,_,rfl,D,g,?_⟩)⟩))
refine⟨c,a,m,"put",p,_,rfl,D,ok,g.lf,O,b0,Z,λH' I k'=>?_⟩
refine⟨_,rfl,iV rfl (iF I.ins T.fZ T.oM rfl ⟨_,rfl,a.bo,_,p,p,rfl,rfl,I.bo,ixOk N (by show(p:Int)<(m.bo.length:Int);lia),?_⟩)⟩
exact q _ (I.setBo (m.bo.set p st)) (k'.trans (Keep.upd I.bo (λU z=>by cases z) (by simp[foot]))))
inductive spRead(t:Adr)(vs:List V)(H:Hp)(Q:VK)(E:XK):Prop
|mk:∀c a m,∀p:Int,vs=[.ref c,.int p]->ChipAt t.C_Chip H c a m->m.Ok->m.lf=none->0<=p->p<=m.bl*m.pg-1->Q (m.bo.getD p.toNat .non) H->spRead t vs H Q E
theorem q2B(T:tXx)(S:tFf):S.aAN.Ok0 P w mg base 4 (spRead t):=by(
refine S.aAN.F.ok0 qAC λN A Z s H U Q E D h=>?_
obtain⟨c,a,m,p,rfl,z,ok,hl,I,O,q⟩:=h
refine⟨_,(qB (jA (qY (pv 0) T.fZ T.t7 (q0D T S).mono D S.oH.b .nil qK (qA (pv 1) qD))) (qB (jA (jB (pv 0) T.fZ T.tR (zO T S).mono D S.oA.b .nil qK)) (qE (qM (qO jD (qJ (pv 0) rfl) (pv 1) (λZ Z=>rfl)))))),?_⟩
try dsimp-beta-proj-iota-zeta-eta only[wishK,cxK]
have J:=ok.nbo
exact(iV rfl (iM z.ins rfl ⟨_,rfl,c,a,m,p,rfl,z,ok,I,O,iV rfl (iM z.ins rfl ⟨c,a,m,rfl,z,hl,iV rfl (iF z.ins T.fZ T.oM rfl ⟨_,rfl,iL (k:=p) (v:=_) (SqL.of z.bo) (getV I (by lia)) q⟩)⟩)⟩)))
inductive spCl(t:Adr)(vs:List V)(H:Hp)(Q:VK)(E:XK):Prop
|mk:∀c a m b,vs=[.ref c,.int b]->ChipAt t.C_Chip H c a m->m.Ok->0<=b->b<=m.bl-1->Q (.int (m.cl.getD b.toNat 0)) H->spCl t vs H Q E
theorem uH(T:tXx)(S:tFf):S.iY.Ok0 P w mg base 4 (spCl t):=by(
refine S.iY.F.ok0 q6A λJ A U s H O Q E I h=>?_
obtain⟨c,a,m,b,rfl,z,ok,D,N,q⟩:=h
refine⟨_,(qB (jA (qY (pv 0) T.fZ T.oK (v4 T S).mono I S.iW.b .nil qK (qA (pv 1) qD))) (qE (qM (qO jD (qJ (pv 0) rfl) (pv 1) (λU U=>rfl))))),?_⟩
have n:=ok.ncl
exact(iV rfl (iM z.ins rfl ⟨_,rfl,c,a,m,b,rfl,z,D,N,iV rfl (iF z.ins T.fZ T.i4 rfl ⟨_,rfl,iL   (SqL.of z.cl) (getI D (by lia)) q⟩)⟩)))
inductive spFa(t:Adr)(vs:List V)(H:Hp)(Q:VK)(E:XK):Prop
|mk:∀c a m b,vs=[.ref c,.int b]->ChipAt t.C_Chip H c a m->m.Ok->0<=b->b<=m.bl-1->Q (.bl (m.br.getD b.toNat false)) H->spFa t vs H Q E
theorem q7V(T:tXx)(S:tFf):S.aBJ.Ok0 P w mg base 4 (spFa t):=by(
refine S.aBJ.F.ok0 q7R λJ A U s H O Q E I h=>?_
obtain⟨c,a,m,b,rfl,z,ok,D,N,q⟩:=h
refine⟨_,(qB (jA (qY (pv 0) T.fZ T.oK (v4 T S).mono I S.iW.b .nil qK (qA (pv 1) qD))) (qE (qM (qO jD (qJ (pv 0) rfl) (pv 1) (λU U=>rfl))))),?_⟩
have n:=ok.nbr
exact(iV rfl (iM z.ins rfl ⟨_,rfl,c,a,m,b,rfl,z,D,N,iV rfl (iF z.ins T.fZ T.tU rfl ⟨_,rfl,iL   (SqL.of z.br) (getB D (by lia)) q⟩)⟩)))
inductive spDe(t:Adr)(vs:List V)(H:Hp)(Q:VK)(E:XK):Prop
|mk:∀c a m,vs=[.ref c]->ChipAt t.C_Chip H c a m->(∀rs,H a.rc=some (.lst rs)->Recd H rs m.rc->NewO H (.lst rs) Q)->spDe t vs H Q E
theorem q15(T:tXx)(S:tFf):S.t6.Ok0 P w mg base 1 (spDe t):=by(
refine S.t6.F.ok0 q8I λI A U s H O Q E N h=>?_
obtain⟨c,a,m,rfl,z,q⟩:=h
refine⟨_,(qE (qM (vE uI (by rfl) T.aB8 (by rfl) (qA (qJ (pv 0) rfl) qD)))),?_⟩
obtain⟨rs,D,J⟩:=z.rc
exact(iV rfl (iF z.ins T.fZ T.tW rfl ⟨a.rc,rs,rfl,.inl (SqL.of D),q rs D J⟩)))
inductive spWipe(t:Adr)(vs:List V)(H:Hp)(Q:VK)(E:XK):Prop
|mk:∀c a m,∀b:Nat,vs=[.ref c,.int (b:Int)]->ChipAt t.C_Chip H c a m->m.Ok->m.rc.length<1000000->Gd m->(b:Int)<=m.bl-1->m.cl.getD b 0<m.mo->(∀H',ChipAt t.C_Chip H' c a (wipC m b)->Keep (foot c a) H H'->Q .non H')->spWipe t vs H Q E
theorem qAG(T:tXx)(S:tFf):S.aCS.Ok0 P w mg base 4 (spWipe t):=by(
refine S.aCS.F.ok0 zT λaj A _ s H vs Q E N h=>?_
obtain⟨c,a,m,b,rfl,D,ok,U,g,b1,hm,q⟩:=h
refine⟨_,(qB (jA (qY (pv 0) T.fZ T.oK (v4 T S).mono N S.iW.b .nil qK (qA (pv 1) qD))) (qB (jA (qY (pv 0) T.fZ T.tY (q0E T S).mono N S.oN.b .nil qK (qA (pv 1) qD))) (qB (qU (i:=2) zT.nd (qJG (qY (pv 0) T.fZ T.aAR (q1M T S).mono N S.tF.b .nil qK (qA (pv 1) qD)) (zZ (yT qD6 (qO jD (qJ (pv 0) rfl) (pv 1) (λz z=>rfl)) (qJ (pv 0) rfl) (qQ _))))) (qB (jA (qY (pv 0) T.fZ T.aA5 (q2F T S).mono N S.tP.b .nil qK (qA zY (qA (pv 1) (qA (pv 1) (qA (pv 2) qD)))))) (qB (qU (i:=3) zT.nd (qL jP (pv 1) (qJ (pv 0) rfl))) (qB (uO gT rfl (q19 rfl T.oQ (qA (pv 3) (qA (qL jU (pv 3) (qJ (pv 0) rfl)) qD))) (qT (i:=4) zT.nd) (qE (q1U u8 (q2H (qJ (pv 0) rfl) (pv 4) u6)))) (qE (q4T (qJ (pv 0) rfl) (pv 1) q2K qC q6S u6)))))))),?_⟩
try dsimp-beta-proj-iota-zeta-eta only[wishK,cxK]
have J:(0:Int)<=b:=by lia
have ag:=ok.pg1
have Z:=ok.pg2
have aa:=ok.bl2
have af:=ok.nbo
have ai:=ok.ncl
refine(iV rfl (iM D.ins rfl ⟨_,rfl,c,a,m,b,rfl,D,J,b1,?_⟩))
refine(iV rfl (iM D.ins rfl ⟨_,rfl,c,a,m,b,rfl,D,ok,g,J,by lia,?_⟩))
refine(iV rfl (iM D.ins rfl ⟨_,rfl,c,a,m,b,rfl,D,g,_,rfl,iteF ?_⟩))
refine(iV rfl (iF D.ins T.fZ T.i4 rfl ⟨_,rfl,iL (k:=b) (v:=_) (SqL.of D.cl) (getI J (by lia)) (iV rfl (iF D.ins T.fZ T.aB5 rfl (iI ?_)))⟩))
show q2E 2 (V.bl (decide (m.mo<=m.cl.getD b 0))) _ _ _
rw[hX (by lia)]
refine(iV rfl (iM D.ins rfl ⟨_,rfl,_,rfl,_,rfl,c,a,m,"wipe",b,b,rfl,D,ok,g.lf,U,J,by lia,λH' I k'=>?_⟩))
have bp:b*m.pg+m.pg<=m.bl*m.pg:=by have:=sP (show(b:Int)+1<=m.bl by lia) (show 0<=m.pg by lia);rw[Int.add_mul,bX]at this;exact this
have bq:0<=b*m.pg:=xR J (by lia)
have ad:m.bl*m.pg<=256:=by have:=fA aa Z (by lia) (by decide);lia
refine⟨_,rfl,_,rfl,c,_,a.dx,_,.int m.pg,rfl,I.ins,T.fZ,T.iS,rfl,iI ⟨.inl ⟨by lia,by lia⟩,?_⟩⟩
refine⟨_,rfl,_,rfl,_,rfl,c,_,a.dx,_,.int m.pg,rfl,I.ins,T.fZ,T.iS,rfl,iI ⟨_,_,rfl,⟨by lia,by lia,by lia,by lia⟩,?_⟩⟩
refine q8T (λi ab H1=>∃y,ab=[some (.ref c),some (.int b),some (.bl false),some (.int (b*m.pg)),y]/\ChipAt t.C_Chip H1 c a { m.deed "wipe" b b false with bo:=clr m.bo (b*m.pg).toNat i }/\Keep (foot c a) H H1) ⟨_,rfl,I,k'⟩ (λi ab H1 hi hp=>?_) (λab H1 hp=>?_)
.obtain⟨y,rfl,h1,O⟩:=hp;have ae:(i:Int)<m.pg:=by have:i<(b*m.pg+m.pg-b*m.pg).toNat:=hi;lia
 refine(iV rfl (iF h1.ins T.fZ T.oM rfl ⟨_,rfl,a.bo,_,_,(b*m.pg+i).toNat,rfl,rfl,h1.bo,ixOk (by lia) (by rw[q6J];lia),?_⟩));have e:(b*m.pg+(i:Int)).toNat=(b*m.pg).toNat+i:=by lia
 rw[e];exact⟨_,rfl,h1.setBo _,O.trans (Keep.upd h1.bo (λU z=>by cases z) (by simp[foot]))⟩
obtain⟨y,rfl,h1,O⟩:=hp
have e:(b*m.pg+m.pg-b*m.pg).toNat=m.pg.toNat:=by lia
rw[e]at h1
refine(iV rfl (iF h1.ins T.fZ T.i4 rfl ⟨_,rfl,iL (k:=b) (v:=_) (SqL.of h1.cl) (getI J (by show(b:Int)<(m.cl.length:Int);lia)) (iI ⟨a.cl,_,b,b,rfl,rfl,h1.cl,by rw[hU];exact ixOk J (by show(b:Int)<(m.cl.length:Int);lia),?_⟩)⟩))
rw[<-bH]
exact q _ (h1.setCl _) (O.trans (Keep.upd h1.cl (λU z=>by cases z) (by simp[foot]))))
inductive spLim(K:W.Frag)(vs:List V)(H:Hp)(Q:VK)(E:XK):Prop
|mk:∀l bl,vs=[.ref l,.int bl]->SqL K H l []->NewO H (.dK []) Q->spLim K vs H Q E
theorem qAH(T:tXx)(S:tFf):S.aCQ.Ok0 P w mg base 3 (spLim K):=by(
refine S.aCQ.F.ok0 zS λN A _ s H Z Q E U h=>?_
obtain⟨l,O,rfl,sq,q⟩:=h
refine⟨_,(qB (qU (i:=2) zS.nd q4X) (qB (uO gT rfl (jM (pv 0)) (q6R rfl (yE (qT (i:=3) zS.nd) (yE (qT (i:=4) zS.nd) q1T))) (qB jN (qB jN (qB jN (qE jN))))) (qE (qM (pv 2))))),?_⟩
refine λp np=>?_
have s0:Same H (upd H p (.dK [])):=Same.upd np
refine⟨_,rfl,l,rfl,⟨[],s0.seq sq⟩,zC (K:=K) (xs:=[]) (λU D H1=>(∃y z,D=[some (.ref l),some (.int O),some (.ref p),y,z])/\H1=upd H p (.dK [])) ⟨⟨_,_,rfl⟩,rfl⟩ (λi D H1 z I=>by rw[I.2];exact s0.seq sq) (λi x D H1 J z=>by simp at J) (λD H1 I=>?_)⟩
obtain⟨⟨y,z,rfl⟩,rfl⟩:=I
exact⟨_,rfl,q p _ np s0 qI⟩)
structure Wm(C x dx:Addr)(H G:Hp)(fs:List (Str×V))(os:List (Addr×HO)):Prop where
i:G x=some (.ins C dx fs)
u:Up x H G
o:∀p∈os,G p.1=some p.2/\H p.1=none/\p.1≠x
n:(os.map (·.1)).Nodup
section
variable{C x dx:Addr}{H G B:Hp}{fs fs':List (Str×V)}{os:List (Addr×HO)}
theorem Wm.same(h:Wm C x dx H G fs os)(s:Same G B):Wm C x dx H B fs os:=⟨s _ _ h.i,λb o n e=>s _ _ (h.u b o n e),λp hp=>⟨s _ _ (h.o p hp).1,(h.o p hp).2⟩,h.n⟩
theorem Wm.add(h:Wm C x dx H G fs os){a:Addr}{o:HO}(na:G a=none)(s:Same G B)(e:B a=some o):Wm C x dx H B fs (os++[(a,o)]):=by(
have I:a≠x:=λz=>by rw[z,h.i]at na;lia
have w:=h.same s
refine⟨w.i,w.u,λp D=>?_,?_⟩
.rcases gQ.mp D with D|D
 .exact w.o p D
 rw[kD.mp D];exact⟨e,Up.free h.u I na,I⟩
rw[mE]
refine wX.mpr ⟨h.n,by simp,λb N c J=>?_⟩
obtain⟨p,D,rfl⟩:=kP.mp N
obtain rfl:c=a:=by simpa using J
exact qG (h.o p D).1 na)
theorem Wm.set(h:Wm C x dx H G fs os):Wm C x dx H (upd G x (.ins C dx fs')) fs' os:=⟨qI,λb o n e=>by rw[qF n];exact h.u b o n e,λp hp=>⟨by rw[qF (h.o p hp).2.2];exact(h.o p hp).1,(h.o p hp).2⟩,h.n⟩
theorem Wm.fr(h:Wm C x dx H G fs os)(a:Addr)(ha:a∈os.map (·.1)):H a=none:=by obtain⟨p,z,rfl⟩:=kP.mp ha;exact(h.o p z).2.1
theorem Wm.put(h:Wm C x dx H G fs os)(f:Str)(v:V):Wm C x dx H (upd G x (.ins C dx (putF f v fs))) (putF f v fs) os:=h.set
end
inductive spMk(t:Adr)(vs:List V)(H:Hp)(Q:VK)(E:XK):Prop
|mk:∀x dx,∀b p m:Int,vs=[.ref x,.int b,.int p,.int m,.non]->H x=some (.ins t.C_Chip dx [])->2<=b->b<=16->1<=p->p<=16->0<=m->m<=1000000->(∀a H',ChipAt t.C_Chip H' x a (CM.new b p m [])->(∀b∈[a.li,a.bo,a.cl,a.dc,a.br,a.rc],H b=none)->Up x H H'->Q .non H')->spMk t vs H Q E
theorem qAI(T:tXx)(S:tFf):FnOk P w K mg base (CX0) 4 t.f_Chip_init S.o7 ["self","blocks","pages","most","ills"] (spMk t):=by(
refine S.aEU.ok0 qAB λba A _ s H vs Q E hr h=>?_
obtain⟨x,dx,b,p,m,rfl,hx,b1,b2,p1,p2,m1,m2,q⟩:=h
refine⟨_,(qB (jG (u9 (yI (qZ (q64 T S).mono hr rfl T.aCG T.aCN S.aCB.b .nil qK (qA (pv 1) (qA (pv 2) qD))))) (qE jN) qS) (qB (jG (u9 (yI (qZ (jV T S).mono hr rfl T.iG T.iE S.iQ.b .nil qK (qA (pv 3) (qA qC (qA (q1S rfl T.aB6 ⟨_,rfl⟩ (v:=.int 1000000)) qD)))))) (qE jN) qS) (qB (jT (pv 0) (pv 1) rfl) (qB (jT (pv 0) (pv 2) rfl) (qB (jT (pv 0) (pv 3) rfl) (qB (jT (pv 0) (qZ (qAH T S).mono hr rfl T.aD3 T.aEE S.aCQ.b .nil qK (qA (qAY (qP q9L (pv 4) u8 (qQ _)) (jS qD) (pv 4)) (qA (pv 1) qD))) rfl) (qB (jT (pv 0) (qL q1X (jS (qA u8 qD)) (qL jP (pv 1) (pv 2))) rfl) (qB (jT (pv 0) (qL q1X (jS (qA qC qD)) (pv 1)) rfl) (qB (jT (pv 0) (qL q1X (jS (qA qC qD)) (pv 1)) rfl) (qB (jT (pv 0) (qL q1X (jS (qA v5 qD)) (pv 1)) rfl) (qB (jT (pv 0) u8 rfl) (qE (jT (pv 0) (jS qD) rfl))))))))))))),?_⟩
try dsimp-beta-proj-iota-zeta-eta only[wishK,cxK]
refine⟨_,rfl,_,rfl,.int b,.int p,rfl,.int b,.int p,_,rfl,?_⟩
rw[inBi b1 b2,inBi p1 p2]
refine iteF ?_
refine⟨_,rfl,.int m,_,_,rfl,.int m,_,rfl,?_⟩
rw[inBi m1 m2]
refine iteF ?_
have bp:b*p<=256:=fA b2 p2 (by lia) (by decide)
have bb:0<=b*p:=xR (by lia) (by lia)
refine⟨_,rfl,_,rfl,x,_,dx,_,rfl,hx,T.fZ,T.iJ,by simp,?_⟩
have w1:Wm t.C_Chip x dx H (upd H x (.ins t.C_Chip dx (putF "blocks" (.int b) []))) (putF "blocks" (.int b) []) []:=⟨qI,Up.of (Same.refl H),by simp,by simp⟩
refine⟨_,rfl,_,rfl,x,_,dx,_,rfl,w1.i,T.fZ,T.iS,by show 1<1000;decide,?_⟩
have w2:=w1.put "pages" (.int p)
refine⟨_,rfl,_,rfl,x,_,dx,_,rfl,w2.i,T.fZ,T.aB5,by show 2<1000;decide,?_⟩
have w3:=w2.put "most" (.int m)
refine⟨_,rfl,rfl,_,rfl,iteT ⟨sz0,λl0 H2 n0 s0 e0=>?_⟩⟩
refine⟨_,rfl,l0,b,rfl,SqL.of e0,λI H3 n1 s1 e1=>?_⟩
have w4:=(w3.same s0).add n1 s1 e1
refine⟨_,rfl,x,_,dx,_,rfl,w4.i,T.fZ,T.aA6,by show 3<1000;decide,?_⟩
have w4:=w4.put "limits" (.ref I)
refine⟨sz1,λz A1 n1 s1 e1=>⟨_,rfl,_,rfl,iI ⟨.inl ⟨by lia,by lia⟩,z,_,_,rfl,rfl,e1,by lia,by lia,λO B1 m1 r1 ae=>?_⟩⟩⟩
have Z:=(w4.same s1).add m1 r1 ae
refine⟨_,rfl,x,_,dx,_,rfl,Z.i,T.fZ,T.oM,by show 4<1000;decide,?_⟩
have Z:=Z.put "borne" (.ref O)
refine⟨sz1,λz A2 n2 s2 e2=>⟨_,rfl,z,_,_,rfl,rfl,e2,by lia,by lia,λcl B2 m2 r2 aj=>?_⟩⟩
have U:=(Z.same s2).add m2 r2 aj
refine⟨_,rfl,x,_,dx,_,rfl,U.i,T.fZ,T.i4,by show 5<1000;decide,?_⟩
have U:=U.put "clearings" (.ref cl)
refine⟨sz1,λz A3 n3 s3 e3=>⟨_,rfl,z,_,_,rfl,rfl,e3,by lia,by lia,λD B3 m3 r3 al=>?_⟩⟩
have w7:=(U.same s3).add m3 r3 al
refine⟨_,rfl,x,_,dx,_,rfl,w7.i,T.fZ,T.tK,by show 6<1000;decide,?_⟩
have w7:=w7.put "deed_counts" (.ref D)
refine⟨sz1,λz A4 n4 s4 e4=>⟨_,rfl,z,_,_,rfl,rfl,e4,by lia,by lia,λJ B4 m4 r4 am=>?_⟩⟩
have N:=(w7.same s4).add m4 r4 am
refine⟨_,rfl,x,_,dx,_,rfl,N.i,T.fZ,T.tU,by show 7<1000;decide,?_⟩
have N:=N.put "broken" (.ref J)
refine⟨_,rfl,x,_,dx,_,rfl,N.i,T.fZ,T.oP,by show 8<1000;decide,?_⟩
have w9:=N.put "deeds_left" .non
refine⟨sz0,λrc B5 m5 r5 ak=>?_⟩
have w:=w9.add m5 r5 ak
refine⟨_,rfl,x,_,dx,_,rfl,w.i,T.fZ,T.tW,by show 9<1000;decide,?_⟩
have w:=w.set (fs':=chF ⟨dx,I,O,cl,D,J,rc⟩ (CM.new b p m []))
refine q ⟨dx,I,O,cl,D,J,rc⟩ _ ⟨w.i,(w.o (I,.dK []) (by simp)).1,(w.o (O,.lst (List.replicate (b*p).toNat .non)) (by simp)).1,?_,?_,?_,⟨[],(w.o (rc,.lst []) (by simp)).1,.nil⟩,(gD.mp (show(I::[O,cl,D,J,rc]).Nodup from w.n)).2⟩ (λb' ad=>w.fr b' ad) w.u
.show _=some (HO.lst ((List.replicate b.toNat (0:Int)).map V.int));rw[pU];exact(w.o (cl,.lst (List.replicate b.toNat (.int 0))) (by simp)).1
.show _=some (HO.lst ((List.replicate b.toNat (0:Int)).map V.int));rw[pU];exact(w.o (D,.lst (List.replicate b.toNat (.int 0))) (by simp)).1
show _=some (HO.lst ((List.replicate b.toNat false).map V.bl))
rw[pU]
exact(w.o (J,.lst (List.replicate b.toNat (.bl false))) (by simp)).1)
theorem yF(T:tXx)(S:tFf):S.iP.Ok0 P w mg base 1 (qL0 K):=by(
refine S.iP.F.ok0 q7U λI A U s H N Q E J h=>?_
obtain⟨a,ns,k,rfl,D,z,q⟩:=h
refine⟨_,(qB (jG (qP q0J (pv 1) (jE jJ (by rfl) T.aA3 g5 (qA (pv 0) qD)) (qQ _)) (qE (qM (qO jD (pv 0) (pv 1) (λU U=>rfl)))) qS) (qE (qM qC))),?_⟩
refine⟨_,rfl,_,rfl,a,_,rfl,.inl D,_,_,rfl,rfl,_,rfl,?_⟩
rw[hU]
by_cases h1:k<(ns.length:Int)
.rw[hG h1];exact⟨_,rfl,_,rfl,a,_,k,_,rfl,rfl,D,qEJ z h1,q⟩
rw[hX h1]
have e:=qCE z h1
rw[e]at q
exact q)
theorem qMY{H:Hp}{bl pg mo:Int}{Q:Addr->Hp->Prop}{E:XK}(b1:2<=bl)(b2:bl<=16)(p1:1<=pg)(p2:pg<=16)(m1:0<=mo)(m2:mo<=1000000)
 (q:∀x a H',ChipAt t.C_Chip H' x a (CM.new bl pg mo [])->Same H H'->(∀b∈a.li::foot x a,H b=none)->Q x H') (x dx:Addr) (nx:H x=none) (ndx:H dx=none) (ne:dx≠x):
 spMk t [.ref x,.int bl,.int pg,.int mo,.non] (upd (upd H dx (.own x)) x (.ins t.C_Chip dx [])) (λv H2=>v=.non/\Q x H2) E:=by(
have s0:Same H (upd (upd H dx (.own x)) x (.ins t.C_Chip dx [])):=λb o e=>by rw[qF (qG e nx),qF (qG e ndx)];exact e
refine⟨x,dx,bl,pg,mo,rfl,qI,b1,b2,p1,p2,m1,m2,λa H' D fr u=>⟨rfl,q x a H' D (λb o e=>u b o (qG e nx) (s0 b o e)) λb z=>?_⟩⟩
have z:b=x\/b∈[a.li,a.bo,a.cl,a.dc,a.br,a.rc]:=by simp[foot]at z ⊢;lia
rcases z with rfl|z
.exact nx
exact s0.free (fr _ z))
theorem qAJ(T:tXx)(S:tFf):S.aCR.Ok0 P w mg base 1 qDA:=by(
refine S.aCR.F.ok0 qAD λJ A _ s H Z Q E U h=>?_
obtain⟨x,rfl,O,k⟩:=h
refine⟨_,(qE (qM (q0P (jE uQ (by rfl) T.oE (by kernel_rfl) (qA (pv 0) (qA (q3L rfl T.aGC (by kernel_rfl) rfl (v:=.ty "int")) qD))) (zZ (qC5 (jE uQ (by rfl) T.oE (by kernel_rfl) (qA (pv 0) (qA (q3L rfl T.aF2 (by kernel_rfl) rfl (v:=.ty "bool")) qD)))))))),?_⟩
obtain⟨ty,q,I,N,_⟩:=O.ty (K:=K)
refine⟨_,rfl,x,_,_,ty,_,rfl,rfl,.inl q,I,_,rfl,?_⟩
have z:=qFP x
cases qi:isI x with
|true=>rw[qi,kL rfl]at z;refine iteT ?_;refine⟨_,rfl,x,_,_,ty,_,rfl,rfl,.inl q,N,_,rfl,?_⟩;rw[z];exact k
|false=>rw[qi]at z;refine iteF ?_;have D:false=isW x:=z;rw[D];exact k)
inductive spClo(t:Adr)(vs:List V)(H:Hp)(Q:VK)(E:XK):Prop
|mk:∀x dx fs b e,vs=[.ref x]->H x=some (.ins t.C_Terms dx fs)->fs.lookup (Str.ofString "blocks")=some (.int b)->fs.lookup (Str.ofString "ill")=some (.int e)->Q (.int (b-1-e)) H->spClo t vs H Q E
theorem q6E(T:tXx)(S:tFf):S.aAS.Ok0 P w mg base 1 (spClo t):=by(
refine S.aAS.F.ok0 q6C λI A U s H O Q E N h=>?_
obtain⟨x,dx,fs,b,e,rfl,z,J,D,q⟩:=h
refine⟨_,(qE (qM (qL uA (qL uA (qJ (pv 0) rfl) qC) (qJ (pv 0) rfl)))),?_⟩
exact(iV rfl (iF z T.iC T.oG J (iI (iV rfl (iF z T.iC T.aAQ D (iI q)))))))
noncomputable def teF(r0 r1 r2 r3 r4 r5:V):List (Str×V):=[("blocks",r0),("pages",r1),("sheets",r2),("share",r3),("ill",r4),("spread",r5)]
inductive spTm(t:Adr)(vs:List V)(H:Hp)(Q:VK)(E:XK):Prop
|mk:∀x dx,∀b p s r e d:Int,vs=[.ref x,.int b,.int p,.int s,.int r,.int e,.int d]->H x=some (.ins t.C_Terms dx [])->2<=b->b<=16->1<=p->p<=16->1<=s->s<=64->1<=r->r<=(b-1-e)*p-2->0<=e->e<=b-2->1<=d->d<=1000000->(∀H',H' x=some (.ins t.C_Terms dx (teF (.int b) (.int p) (.int s) (.int r) (.int e) (.int d)))->Up x H H'->Q .non H')->spTm t vs H Q E
theorem q8K(T:tXx)(S:tFf):FnOk P w K mg base (CX0) 4 t.f_Terms_init S.oO ["self","blocks","pages","sheets","share","ill","spread"] (spTm t):=by(
refine S.aDV.ok0 q8J λaj A _ s H vs Q E z h=>?_
obtain⟨x,dx,b,p,s',r,e,d,rfl,hx,b1,Z,U,p2,s1,s2,r1,r2,e1,e2,d1,d2,q⟩:=h
refine⟨_,(qB (jG (u9 (yI (qZ (q64 T S).mono z rfl T.aCG T.aCN S.aCB.b .nil qK (qA (pv 1) (qA (pv 2) qD))))) (qE jN) qS) (qB (jG (u9 (yI (qZ (jV T S).mono z rfl T.iG T.iE S.iQ.b .nil qK (qA (pv 3) (qA qC (qA qC qD)))))) (qE jN) qS) (qB (jG (u9 (yI (qZ (jV T S).mono z rfl T.iG T.iE S.iQ.b .nil qK (qA (pv 5) (qA qC (qA (qL uA (pv 1) qC) qD)))))) (qE jN) qS) (qB (jG (u9 (yI (qZ (jV T S).mono z rfl T.iG T.iE S.iQ.b .nil qK (qA (pv 6) (qA qC (qA (q1S rfl T.aB6 ⟨_,rfl⟩ (v:=.int 1000000)) qD)))))) (qE jN) qS) (qB (jT (pv 0) (pv 1) rfl) (qB (jT (pv 0) (pv 2) rfl) (qB (jT (pv 0) (pv 3) rfl) (qB (jT (pv 0) (pv 4) rfl) (qB (jT (pv 0) (pv 5) rfl) (qB (jT (pv 0) (pv 6) rfl) (qE (jG (u9 (yI (qZ (jV T S).mono z rfl T.iG T.iE S.iQ.b .nil qK (qA (pv 4) (qA qC (qA (qL uA (qL jP (jB (pv 0) T.iC T.aC2 (q6E T S).mono z S.aAS.b .nil qK) (pv 2)) qC) qD)))))) (qE jN) qS)))))))))))),?_⟩
try dsimp-beta-proj-iota-zeta-eta only[wishK,cxK]
refine⟨_,rfl,_,rfl,.int b,.int p,rfl,.int b,.int p,_,rfl,?_⟩
rw[inBi b1 Z,inBi U p2]
refine iteF ⟨_,rfl,.int s',_,_,rfl,.int s',_,rfl,?_⟩
rw[inBi s1 s2]
refine iteF ⟨_,rfl,_,rfl,iI ⟨.int e,_,_,rfl,.int e,_,rfl,?_⟩⟩
rw[inBi e1 e2]
refine iteF ⟨_,rfl,.int d,_,_,rfl,.int d,_,rfl,?_⟩
rw[inBi d1 d2]
refine iteF ⟨_,rfl,_,rfl,x,_,dx,_,rfl,hx,T.iC,T.oG,by simp,?_⟩
have O:Wm t.C_Terms x dx H (upd H x (.ins t.C_Terms dx (putF "blocks" (.int b) []))) (putF "blocks" (.int b) []) []:=⟨qI,Up.of (Same.refl H),by simp,by simp⟩
refine⟨_,rfl,_,rfl,x,_,dx,_,rfl,O.i,T.iC,T.iB,by show 1<1000;decide,?_⟩
have D:=O.put "pages" (.int p)
refine⟨_,rfl,_,rfl,x,_,dx,_,rfl,D.i,T.iC,T.aA1,by show 2<1000;decide,?_⟩
have J:=D.put "sheets" (.int s')
refine⟨_,rfl,_,rfl,x,_,dx,_,rfl,J.i,T.iC,T.aBA,by show 3<1000;decide,?_⟩
have N:=J.put "share" (.int r)
refine⟨_,rfl,_,rfl,x,_,dx,_,rfl,N.i,T.iC,T.aAQ,by show 4<1000;decide,?_⟩
have I:=N.put "ill" (.int e)
refine⟨_,rfl,_,rfl,x,_,dx,_,rfl,I.i,T.iC,T.aAU,by show 5<1000;decide,?_⟩
have w:=I.put "spread" (.int d)
refine⟨_,rfl,_,rfl,x,dx,_,rfl,w.i,rfl,x,dx,_,b,e,rfl,w.i,rfl,rfl,_,rfl,iI ⟨.inr ⟨by lia,by lia⟩,iI ⟨.int r,_,_,rfl,.int r,_,rfl,?_⟩⟩⟩
rw[inBi r1 r2]
exact iteF (q _ w.i w.u))
theorem qMZ{H:Hp}{b p s r e d:Int}{Q:Addr->Hp->Prop}{E:XK}(b1:2<=b)(b2:b<=16)(p1:1<=p)(p2:p<=16)(s1:1<=s)(s2:s<=64)(r1:1<=r)(r2:r<=(b-1-e)*p-2)(e1:0<=e)(e2:e<=b-2)(d1:1<=d)(d2:d<=1000000)
 (q:∀x dx H',Same H H'->H' x=some (.ins t.C_Terms dx (teF (.int b) (.int p) (.int s) (.int r) (.int e) (.int d)))->Q x H') (x dx:Addr) (nx:H x=none) (ndx:H dx=none) (ne:dx≠x):
 spTm t [.ref x,.int b,.int p,.int s,.int r,.int e,.int d] (upd (upd H dx (.own x)) x (.ins t.C_Terms dx [])) (λv H2=>v=.non/\Q x H2) E:=by
 have s0:Same H (upd (upd H dx (.own x)) x (.ins t.C_Terms dx [])):=λb o e=>by rw[qF (qG e nx),qF (qG e ndx)];exact e
 exact⟨x,dx,b,p,s,r,e,d,rfl,qI,b1,b2,p1,p2,s1,s2,r1,r2,e1,e2,d1,d2,λH' h u=>⟨rfl,q x dx H' (λb o e=>u b o (qG e nx) (s0 b o e)) h⟩⟩
inductive spMkO(vs:List V)(H:Hp)(Q:VK)(E_:XK):Prop
|mk:∀s n,vs=[.int s,.int n]->Q (.int (s*128+n)) H->spMkO vs H Q E_
theorem qCX(T:tXx)(S:tFf):S.aE6.Ok0 P w mg base 1 spMkO:=by(
refine S.aE6.F.ok0 qCV λz A U s H D Q E I h=>?_
obtain⟨s',n,rfl,q⟩:=h
refine⟨_,(qE (qM (qL jU (qL jP (pv 0) (q1S rfl T.aFY ⟨_,rfl⟩ (v:=.int 128))) (pv 1)))),?_⟩
exact⟨_,rfl,iI ⟨.inr ⟨by decide,by decide⟩,_,rfl,iI q⟩⟩)
structure BkA where
bk:Addr
dx:Addr
wv:Addr
lv:Addr
fi:Addr
bo:Addr
structure BkAt(t:Adr)(H:Hp)(a:BkA)(m:QM):Prop where
o:H a.bk=some (.ins t.C_Book a.dx [("blocks",.int (m.B:Int)),("pages",.int (m.P:Int)),("stamp",.int m.nx),("where",.ref a.wv),("live",.ref a.lv),("filled",.ref a.fi),("born",.ref a.bo)])
w:H a.wv=some (.dK (dI m.V))
l:H a.lv=some (.lst (m.lv.map V.int))
f:H a.fi=some (.lst (m.fi.map V.int))
b:H a.bo=some (.lst (m.bo.map V.int))
structure Dst(a:BkA):Prop where
lf:a.lv≠a.fi
lb:a.lv≠a.bo
fb:a.fi≠a.bo
theorem BkAt.same{t:Adr}{a:BkA}{m:QM}(h:BkAt t H a m)(s:Same H H'):BkAt t H' a m:=⟨s _ _ h.o,s _ _ h.w,s _ _ h.l,s _ _ h.f,s _ _ h.b⟩
theorem BkAt.keep{t:Adr}{a:BkA}{m:QM}{F:List Addr}(h:BkAt t H a m)(k:Keep F H H')(n:∀b∈[a.bk,a.wv,a.lv,a.fi,a.bo],b∉F):BkAt t H' a m:=⟨k.k _ _ (n _ (by simp)) h.o,k.k _ _ (n _ (by simp)) h.w,k.k _ _ (n _ (by simp)) h.l,k.k _ _ (n _ (by simp)) h.f,k.k _ _ (n _ (by simp)) h.b⟩
noncomputable def bk0(B P:Nat):QM:=⟨P,B,1,[],List.replicate B 0,List.replicate B 0,List.replicate B 0⟩
inductive spBkI(t:Adr)(vs:List V)(H:Hp)(Q:VK)(E_:XK):Prop
|mk:∀x dx B P,vs=[.ref x,.int (B:Nat),.int (P:Nat)]->B<=16->H x=some (.ins t.C_Book dx [])->(∀(a:BkA) H',a.bk=x->a.dx=dx->BkAt t H' a (bk0 B P)->Dst a->(∀b∈[a.wv,a.lv,a.fi,a.bo],H b=none)->(∀b o,b≠x->H b=some o->H' b=some o)->Q .non H')->spBkI t vs H Q E_
theorem qAK(T:tXx)(S:tFf):S.aCK.Ok0 P w mg base 1 (spBkI t):=by(
refine S.aCK.F.ok0 qA7 λar A _ s H vs Q E hr h=>?_
obtain⟨x,dx,B,P,rfl,hB,hx,q⟩:=h
refine⟨_,(qB (jT (pv 0) (pv 1) rfl) (qB (jT (pv 0) (pv 2) rfl) (qB (jT (pv 0) qC rfl) (qB (jT (pv 0) q4X rfl) (qB (jT (pv 0) (qL q1X (jS (qA qC qD)) (pv 1)) rfl) (qB (jT (pv 0) (qL q1X (jS (qA qC qD)) (pv 1)) rfl) (qE (jT (pv 0) (qL q1X (jS (qA qC qD)) (pv 1)) rfl)))))))),?_⟩
try dsimp-beta-proj-iota-zeta-eta only[wishK,cxK]
refine⟨_,rfl,_,rfl,x,_,dx,_,rfl,hx,T.f9,T.aC3,by decide,?_⟩
refine⟨_,rfl,_,rfl,x,_,dx,_,rfl,qI,T.f9,T.tH,by show 1<1000;decide,?_⟩
refine⟨_,rfl,x,_,dx,_,rfl,qI,T.f9,T.iH,by show 2<1000;decide,?_⟩
rw[q6G,q6G]
have w1:Wm t.C_Book x dx H (upd H x (.ins t.C_Book dx (putF "stamp" (.int 1) (putF "pages" (.int (P:Int)) (putF "blocks" (.int (B:Int)) []))))) (putF "stamp" (.int 1) (putF "pages" (.int (P:Int)) (putF "blocks" (.int (B:Int)) []))) []:=⟨qI,Up.of (Same.refl H),by simp,by simp⟩
have rep:∀n:Nat,List.replicate n (V.int 0)=(List.replicate n (0:Int)).map V.int:=λn=>by rw[pU]
have eB:((B:Int)).toNat=B:=by lia
refine λwv I=>?_
have Z:=w1.add I (Same.upd (o:=.dK []) I) qI
refine⟨_,rfl,x,_,dx,_,rfl,Z.i,T.f9,T.iZ,by show 3<1000;decide,?_⟩
have Z:=Z.put "where" (.ref wv)
refine⟨sz1,λD A3 n3 s3 e3=>⟨_,rfl,D,_,_,rfl,rfl,e3,by lia,by lia,λlv B3 m3 r3 N=>?_⟩⟩
rw[eB,rep]at N
have w3:=(Z.same s3).add m3 r3 N
refine⟨_,rfl,x,_,dx,_,rfl,w3.i,T.f9,T.tQ,by show 4<1000;decide,?_⟩
have w3:=w3.put "live" (.ref lv)
refine⟨sz1,λD A4 n4 s4 e4=>⟨_,rfl,D,_,_,rfl,rfl,e4,by lia,by lia,λfi B4 m4 r4 O=>?_⟩⟩
rw[eB,rep]at O
have w4:=(w3.same s4).add m4 r4 O
refine⟨_,rfl,x,_,dx,_,rfl,w4.i,T.f9,T.iD,by show 5<1000;decide,?_⟩
have w4:=w4.put "filled" (.ref fi)
refine⟨sz1,λD A5 n5 s5 e5=>⟨_,rfl,D,_,_,rfl,rfl,e5,by lia,by lia,λbo B5 m5 r5 J=>?_⟩⟩
rw[eB,rep]at J
have z:=(w4.same s5).add m5 r5 J
refine⟨_,rfl,x,_,dx,_,rfl,z.i,T.f9,T.tO,by show 6<1000;decide,?_⟩
have z:=z.put "born" (.ref bo)
have U:[wv,lv,fi,bo].Nodup:=z.n
simp only[gD,kN,gP,not_or,wO]at U
exact q ⟨x,dx,wv,lv,fi,bo⟩ _ rfl rfl ⟨z.i,(z.o (wv,.dK []) (by simp)).1,(z.o (lv,.lst ((List.replicate B (0:Int)).map V.int)) (by simp)).1,(z.o (fi,.lst ((List.replicate B (0:Int)).map V.int)) (by simp)).1,(z.o (bo,.lst ((List.replicate B (0:Int)).map V.int)) (by simp)).1⟩ ⟨U.2.1.1,U.2.1.2,U.2.2.1⟩ (λb' ag=>z.fr b' ag) z.u)
inductive spMark(t:Adr)(vs:List V)(H:Hp)(Q:VK)(E_:XK):Prop
|mk:∀a,∀m:QM,∀n,vs=[.ref a.bk,.int n]->BkAt t H a m->Q (.int (m.nx*128+n)) H->spMark t vs H Q E_
theorem qAL(T:tXx)(S:tFf):S.aCO.Ok0 P w mg base 2 (spMark t):=by(
refine S.aCO.F.ok0 qA8 λz A U s H J Q E I h=>?_
obtain⟨a,m,n,rfl,D,q⟩:=h
refine⟨_,(qE (qM (qZ (qCX T S).mono I rfl T.aFD T.aFH S.aE6.b .nil qK (qA (qJ (pv 0) rfl) (qA (pv 1) qD))))),?_⟩
exact(iV rfl (iF D.o T.f9 T.iH rfl ⟨_,rfl,_,_,rfl,q⟩)))
inductive spFg(t:Adr)(vs:List V)(H:Hp)(Q:VK)(E_:XK):Prop
|mk:∀a,∀m:QM,∀n,vs=[.ref a.bk,.int n]->BkAt t H a m->m.Ok->Dst a->(∀H',BkAt t H' a (m.forget n)->Keep [a.wv,a.lv] H H'->Q .non H')->spFg t vs H Q E_
theorem q3F(T:tXx)(S:tFf):S.aAA.Ok0 P w mg base 1 (spFg t):=by(
refine S.aAA.F.ok0 q37 λam A _ s H vs Q E hr h=>?_
obtain⟨a,m,n,rfl,D,ok,ds,q⟩:=h
have hu:=q45 hr
have p1:=ok.p1
have p2:=ok.p2
have Z:a.bk≠a.wv:=jZ D.o D.w (by intro z;cases z)
have ol:a.bk≠a.lv:=jZ D.o D.l (by intro z;cases z)
have wl:a.wv≠a.lv:=jZ D.w D.l (by intro z;cases z)
have wf:a.fi≠a.wv:=jZ D.f D.w (by intro z;cases z)
have wb:a.bo≠a.wv:=jZ D.b D.w (by intro z;cases z)
refine⟨_,(qE (jG (qEZ (qCC hu (pv 1) (qJ (pv 0) rfl))) (qB (qU (i:=2) q37.nd (qFN (qJ (pv 0) rfl) (pv 1) ⟨rfl,rfl,rfl,rfl⟩)) (qE (q4T (qJ (pv 0) rfl) (qL uL (pv 2) (qJ (pv 0) rfl)) q2K qC qK6 u6))) qS)),?_⟩
try dsimp-beta-proj-iota-zeta-eta only[wishK,cxK]
refine⟨_,rfl,iV rfl (iF D.o T.f9 T.iZ rfl ⟨a.wv,_,rfl,DGet.k (k:=Sum.inl n) D.w,_,rfl,?_⟩)⟩
rcases QM.find_V (m:=m) (n:=n)with⟨p,hp,ef⟩|⟨hn,ef⟩
.have hv:(n,p)∈m.V:=hp;rw[q9X ok.nd hv];refine iteT ?_;refine(iV rfl (iF D.o T.f9 T.iZ rfl ⟨a.wv,rfl,.inl ⟨_,.inl D.w⟩,_,rfl,_,Sum.inl n,_,D.w,rfl,q9X ok.nd hv,?_⟩));rw[qGG];have k1:Keep [a.wv,a.lv] H (upd H a.wv (.dK (dI (jO m.V n)))):=Keep.upd D.w (λU z=>by cases z) (by simp);have w1:(upd H a.wv (.dK (dI (jO m.V n)))) a.wv=some (.dK (dI (jO m.V n))):=qI;have J:∀b o,b≠a.wv->H b=some o->(upd H a.wv (.dK (dI (jO m.V n)))) b=some o:=λb o nb e=>by rw[qF nb];exact e
 generalize upd H a.wv (.dK (dI (jO m.V n)))=H1 at k1 w1 J ⊢;obtain⟨c,hc,N⟩:=ok.blk _ hp;have N:p / (m.P:Int)=(c:Int):=N;have O:c<m.lv.length:=by rw[ok.ll];exact hc
 have l1:=J _ _ wl.symm D.l;refine(iV rfl (iF (J _ _ Z D.o) T.f9 T.tQ rfl ⟨_,rfl,iV rfl (iF (J _ _ Z D.o) T.f9 T.tH rfl (iI ⟨⟨by lia,by lia⟩,iL (k:=_) (v:=_) (SqL.of l1) (by rw[N];exact atV O) (iI ⟨a.lv,_,_,c,rfl,rfl,l1,(by rw[N];exact q2L (by rw[hU];exact O)),?_⟩)⟩))⟩));rw[setV];have U:(m.forget n).lv=m.lv.set c (m.lv.getD c 0-1):=by show BM.lvF m.P m.V m.lv n=_;unfold BM.lvF;rw[ef];show m.lv.set (p / (m.P:Int)).toNat (m.lv.getD (p / (m.P:Int)).toNat 0-1)=_;rw[N,show((c:Int)).toNat=c by lia]
 refine q _ ⟨?_,?_,?_,?_,?_⟩ (k1.trans (Keep.upd l1 (λU z=>by cases z) (by simp)))
 .rw[qF ol];exact J _ _ Z D.o
 .rw[qF wl];exact w1
 .rw[U];exact qI
 .rw[qF ds.lf.symm];exact J _ _ wf D.f
 rw[qF ds.lb.symm];exact J _ _ wb D.b
rw[q7D (λz=>by obtain⟨r,I,e⟩:=kP.mp z;exact hn r I e)]
refine iteF ?_
have U:(m.forget n).lv=m.lv:=by show BM.lvF m.P m.V m.lv n=_;unfold BM.lvF;rw[ef]
have eV:(m.forget n).V=m.V:=qIB λr I=>hn r I
exact q H ⟨D.o,by rw[eV];exact D.w,by rw[U];exact D.l,D.f,D.b⟩ Keep.refl)
theorem q7W{V:Mp}:(dI V).length=V.length:=by unfold dI;rw[hU]
inductive spNt(t:Adr)(vs:List V)(H:Hp)(Q:VK)(E_:XK):Prop
|mk:∀a,∀m:QM,∀b f n,vs=[.ref a.bk,.int ((b*m.P+f:Nat):Int),.int n]->BkAt t H a m->m.Ok->Dst a->b<m.B->f<m.P->m.fi.getD b 0=(f:Int)->(∀H',BkAt t H' a (m.put b f n)->Keep [a.bk,a.wv,a.lv,a.fi,a.bo] H H'->Q .non H')->spNt t vs H Q E_
theorem qAM(T:tXx)(S:tFf):S.aCZ.Ok0 P w mg base 2 (spNt t):=by(
refine S.aCZ.F.ok0 q5A λbg A _ s H vs Q E hr h=>?_
obtain⟨a,m,b,f,n,rfl,D,ok,ds,hB,hf,ef,q⟩:=h
have hu:=q45 hr
have p1:=ok.p1
have p2:=ok.p2
have ob:a.bk≠a.wv:=jZ D.o D.w (by intro z;cases z)
have ol:a.bk≠a.lv:=jZ D.o D.l (by intro z;cases z)
have ac:a.bk≠a.fi:=jZ D.o D.f (by intro z;cases z)
have oo:a.bk≠a.bo:=jZ D.o D.b (by intro z;cases z)
have wl:a.wv≠a.lv:=jZ D.w D.l (by intro z;cases z)
have wf:a.fi≠a.wv:=jZ D.f D.w (by intro z;cases z)
have wb:a.bo≠a.wv:=jZ D.b D.w (by intro z;cases z)
have eb:((b*m.P+f:Nat):Int) / (m.P:Int)=(b:Int):=by rw[<-dX,yM hf]
refine⟨_,(qB (qU (i:=3) q5A.nd (qL uL (pv 1) (qJ (pv 0) rfl))) (qB (jA (qY (pv 0) T.f9 T.aBR (q3F T S).mono hr S.aAA.b .nil qK (qA (pv 2) qD))) (qB (q6I hu (qJ (pv 0) rfl) (pv 2) (pv 1) rfl) (qB (q4T (qJ (pv 0) rfl) (pv 3) q2K qC q6S u6) (q3O (jG (qP yO (qO jD (qJ (pv 0) rfl) (pv 3) (λz z=>rfl)) qC (qQ _)) (qE (q1U (qJ (pv 0) rfl) (q2H (qJ (pv 0) rfl) (pv 3) u6))) qS) (qB (q4T (qJ (pv 0) rfl) (pv 3) q2K qC q6S u6) (qE (q8W (pv 0) qC qFC)))))))),?_⟩
try dsimp-beta-proj-iota-zeta-eta only[wishK,cxK]
refine⟨_,rfl,iV rfl (iF D.o T.f9 T.tH rfl (iI ⟨⟨by lia,by lia⟩,?_⟩))⟩
try dsimp only
rw[eb]
refine(iV rfl (iM D.o rfl ⟨_,rfl,a,m,n,rfl,D,ok,ds,λH1 I k1=>?_⟩))
have k1:Keep [a.bk,a.wv,a.lv,a.fi,a.bo] H H1:=k1.mono (by intro x hx;simp at hx ⊢;rcases hx with rfl|rfl<;>simp)
have a8:(jO m.V n).length<=65:=kQ (kY _ _) ok.lenV
have w0:H1 a.wv=some (.dK (dI (jO m.V n))):=I.w
refine⟨_,rfl,iV rfl (iF I.o T.f9 T.iZ rfl ⟨_,rfl,a.wv,_,rfl,.inl ⟨_,Sum.inl n,w0,rfl,(by rw[q7W];exact dJ (m:=65) (by lia) (by decide)),rfl⟩,?_⟩)⟩
rw[qIC,qEQ]
have k2:Keep [a.bk,a.wv,a.lv,a.fi,a.bo] H1 (upd H1 a.wv (.dK (dI (jO m.V n++[(n,((b*m.P+f:Nat):Int))])))):=Keep.upd w0 (λU z=>by cases z) (by simp)
have w2:(upd H1 a.wv (.dK (dI (jO m.V n++[(n,((b*m.P+f:Nat):Int))])))) a.wv=some (.dK (dI (jO m.V n++[(n,((b*m.P+f:Nat):Int))]))):=qI
have Z:∀x o,x≠a.wv->H1 x=some o->(upd H1 a.wv (.dK (dI (jO m.V n++[(n,((b*m.P+f:Nat):Int))])))) x=some o:=λx o J e=>by rw[qF J];exact e
generalize upd H1 a.wv (.dK (dI (jO m.V n++[(n,((b*m.P+f:Nat):Int))])))=H2 at k2 w2 Z ⊢
have o2:=Z _ _ ob I.o
have l2:H2 a.lv=some (.lst ((BM.lvF m.P m.V m.lv n).map V.int)):=Z _ _ wl.symm I.l
have f2:H2 a.fi=some (.lst (m.fi.map V.int)):=Z _ _ wf I.f
have b2:H2 a.bo=some (.lst (m.bo.map V.int)):=Z _ _ wb I.b
have U:b<(BM.lvF m.P m.V m.lv n).length:=by rw[show(BM.lvF m.P m.V m.lv n).length=m.B from(ok.forget n).ll];exact hB
have N:b<m.fi.length:=by rw[ok.lf];exact hB
have ah:b<m.bo.length:=by rw[ok.lo];exact hB
refine(iV rfl (iF o2 T.f9 T.tQ rfl ⟨_,rfl,iL (k:=_) (v:=_) (SqL.of l2) (atV U) (iI ⟨a.lv,_,_,b,rfl,rfl,l2,q2L (by rw[hU];exact U),?_⟩)⟩))
rw[setV]
have k3:Keep [a.bk,a.wv,a.lv,a.fi,a.bo] H2 (upd H2 a.lv (.lst (((BM.lvF m.P m.V m.lv n).set b ((BM.lvF m.P m.V m.lv n).getD b 0+1)).map V.int))):=Keep.upd l2 (λU z=>by cases z) (by simp)
have l3:(upd H2 a.lv (.lst (((BM.lvF m.P m.V m.lv n).set b ((BM.lvF m.P m.V m.lv n).getD b 0+1)).map V.int))) a.lv=some (.lst (((BM.lvF m.P m.V m.lv n).set b ((BM.lvF m.P m.V m.lv n).getD b 0+1)).map V.int)):=qI
have u3:∀x o,x≠a.lv->H2 x=some o->(upd H2 a.lv (.lst (((BM.lvF m.P m.V m.lv n).set b ((BM.lvF m.P m.V m.lv n).getD b 0+1)).map V.int))) x=some o:=λx o J e=>by rw[qF J];exact e
generalize upd H2 a.lv (.lst (((BM.lvF m.P m.V m.lv n).set b ((BM.lvF m.P m.V m.lv n).getD b 0+1)).map V.int))=H3 at k3 l3 u3 ⊢
have o3:=u3 _ _ ol o2
have w3:=u3 _ _ wl w2
have f3:=u3 _ _ ds.lf.symm f2
have b3:=u3 _ _ ds.lb.symm b2
refine⟨λaz H'=>az=[some (.ref a.bk),some (.int ((b*m.P+f:Nat):Int)),some (.int n),some (.int (b:Int))]/\Keep [a.bk,a.wv,a.lv,a.fi,a.bo] H3 H'/\H' a.bo=some (.lst ((m.put b f n).bo.map V.int))/\∀x o,x≠a.bo->H3 x=some o->H' x=some o,?_,?_⟩
.refine(iV rfl (iF o3 T.f9 T.iD rfl ⟨_,rfl,iL (k:=_) (v:=_) (SqL.of f3) (atV N) ⟨rfl,_,rfl,?_⟩⟩));rw[yL];by_cases z:m.fi.getD b 0=0
 .rw[hG z];refine iteT ?_;refine(iV rfl (iF o3 T.f9 T.iH rfl (iV rfl (iF o3 T.f9 T.tO rfl ⟨_,rfl,a.bo,_,_,b,rfl,rfl,b3,q2L (by rw[hU];exact ah),?_⟩))));rw[setV];refine⟨rfl,Keep.upd b3 (λU z=>by cases z) (by simp),?_,λx o J e=>by rw[qF J];exact e⟩;rw[qI];show _=some (HO.lst ((if m.fi.getD b 0=0 then m.bo.set b m.nx else m.bo).map V.int));rw[kL z];rfl
 rw[hX z];refine iteF ⟨rfl,Keep.refl,?_,λx o z e=>e⟩;show _=some (HO.lst ((if m.fi.getD b 0=0 then m.bo.set b m.nx else m.bo).map V.int));rw[kE z];exact b3
rintro az O ⟨rfl,k4,b4,u4⟩
have o4:=u4 _ _ oo o3
have w4:=u4 _ _ wb.symm w3
have l4:=u4 _ _ ds.lb l3
have f4:=u4 _ _ ds.fb f3
refine(iV rfl (iF o4 T.f9 T.iD rfl ⟨_,rfl,iL (k:=_) (v:=_) (SqL.of f4) (atV N) (iI ⟨a.fi,_,_,b,rfl,rfl,f4,q2L (by rw[hU];exact N),?_⟩)⟩))
rw[setV]
have k5:Keep [a.bk,a.wv,a.lv,a.fi,a.bo] O (upd O a.fi (.lst ((m.fi.set b (m.fi.getD b 0+1)).map V.int))):=Keep.upd f4 (λU z=>by cases z) (by simp)
have f5:(upd O a.fi (.lst ((m.fi.set b (m.fi.getD b 0+1)).map V.int))) a.fi=some (.lst ((m.fi.set b (m.fi.getD b 0+1)).map V.int)):=qI
have u5:∀x o,x≠a.fi->O x=some o->(upd O a.fi (.lst ((m.fi.set b (m.fi.getD b 0+1)).map V.int))) x=some o:=λx o J e=>by rw[qF J];exact e
generalize upd O a.fi (.lst ((m.fi.set b (m.fi.getD b 0+1)).map V.int))=H5 at k5 f5 u5 ⊢
have o5:=u5 _ _ ac o4
refine⟨_,rfl,a.bk,_,a.dx,_,_,rfl,o5,T.f9,T.iH,rfl,_,_,rfl,rfl,a.dx,_,o5,by show 7<1000;decide,?_⟩
refine q _ ⟨?_,?_,?_,?_,?_⟩ ((((k1.trans k2).trans k3).trans k4).trans (k5.trans (Keep.upd o5 (λU z=>by cases z) (by simp))))
.exact qI
.rw[qF ob.symm];exact u5 _ _ wf.symm w4
.rw[qF ol.symm];exact u5 _ _ ds.lf l4
.rw[qF ac.symm];exact f5
rw[qF oo.symm]
exact u5 _ _ ds.fb.symm b4)
noncomputable def lamE:Expr:=match((jY yD).getLast?:Option Stmt)with
|some (Stmt.Return (some (Expr.Call _ _ (k::_) _)) _)=>k.value
|_=>Expr.Name "" ⟨0,0,0,0⟩
noncomputable abbrev lamA:Arguments:=match lamE with
| .Lambda a _ _ _=>a
|_=>yU yD
noncomputable abbrev lamB:Expr:=match lamE with
| .Lambda _ b _ _=>b
|_=>lamE
noncomputable abbrev qHF:Scope:=match lamE with
| .Lambda _ _ s _=>s
|_=>qH yD
noncomputable abbrev lamP:Pos:=match lamE with
| .Lambda _ _ _ p=>p
|_=>⟨0,0,0,0⟩
noncomputable abbrev lamQ:Str:=(PyProof.Rows.envOfC "Plain.free" (qH yD) 0 0 .none).qual++"<lambda>"
noncomputable abbrev q7X(clos:List (Str×Addr))(pm ct:Value)(c:Addr):FuncData:=W.kla_fn "<lambda>" lamQ lamA lamB qHF clos pm (.ref c) ct
noncomputable def tri(c:Addr):Array Value:=#[rawInt lamP.line,rawInt lamP.col,.ref c]
noncomputable def lbE:Expr:=match((jY j9).getLast?:Option Stmt)with
|some (Stmt.Return (some (Expr.Subscript (Expr.Call _ _ (k::_) _) _ _)) _)=>k.value
|_=>Expr.Name "" ⟨0,0,0,0⟩
noncomputable abbrev lbA:Arguments:=match lbE with
| .Lambda a _ _ _=>a
|_=>yU j9
noncomputable abbrev lbB:Expr:=match lbE with
| .Lambda _ b _ _=>b
|_=>lbE
noncomputable abbrev lbSc:Scope:=match lbE with
| .Lambda _ _ s _=>s
|_=>qH j9
noncomputable abbrev lbP:Pos:=match lbE with
| .Lambda _ _ _ p=>p
|_=>⟨0,0,0,0⟩
noncomputable abbrev lbQ:Str:=(PyProof.Rows.envOfC "Even.block_to_change" (qH j9) 0 0 .none).qual++"<lambda>"
noncomputable abbrev lbFd(pm ct:Value)(c:Addr):FuncData:=W.kla_fn "<lambda>" lbQ lbA lbB lbSc [] pm (.ref c) ct
noncomputable def triB(c:Addr):Array Value:=#[rawInt lbP.line,rawInt lbP.col,.ref c]
def TbB(t:Adr)(H:Hp):Prop:=∃ps,H t.fX=some (.tbl ps)/\(ps=#[]\/∃c,ps=triB c/\H c=some (cdO c lbQ))
def TbF(t:Adr)(H:Hp):Prop:=∃ps,H t.fW=some (.tbl ps)/\(ps=#[]\/∃c,ps=tri c/\H c=some (cdO c lamQ))/\TbB t H
def Tex(o:HO):Prop:=(∃ps,o=.tbl ps)\/∃p,o=.ext p
theorem TbB.gen{t:Adr}(h:TbB t H)(k:∀b o,Tex o->H b=some o->H' b=some o):TbB t H':=by(
obtain⟨ps,hT,h⟩:=h
refine⟨ps,k _ _ (.inl ⟨_,rfl⟩) hT,?_⟩
rcases h with h|⟨c,h,a⟩
.exact .inl h
exact .inr ⟨c,h,k _ _ (.inr ⟨_,rfl⟩) a⟩)
theorem TbF.gen{t:Adr}(h:TbF t H)(k:∀b o,Tex o->H b=some o->H' b=some o):TbF t H':=by(
obtain⟨ps,hT,h,z⟩:=h
refine⟨ps,k _ _ (.inl ⟨_,rfl⟩) hT,?_,z.gen k⟩
rcases h with h|⟨c,h,a⟩
.exact .inl h
exact .inr ⟨c,h,k _ _ (.inr ⟨_,rfl⟩) a⟩)
theorem TbF.same{t:Adr}(s:Same H H')(h:TbF t H):TbF t H':=h.gen λz z z e=>s _ _ e
theorem uK{H:Hp}{b c:Addr}{o o':HO}(x:Tex o)(e:H b=some o)(e':H c=some o')(n:¬Tex o'):b≠c:=λz=>by rw[z,e']at e;exact n (by rw[mB e];exact x)
theorem q3V{fs:List (Str×V)}:¬Tex (.ins C d fs):=λz=>by rcases z with⟨_,z⟩|⟨_,z⟩<;>cases z
theorem zU:¬Tex (.lst xs):=λz=>by rcases z with⟨_,z⟩|⟨_,z⟩<;>cases z
theorem qLU:¬Tex (.dK xs):=λz=>by rcases z with⟨_,z⟩|⟨_,z⟩<;>cases z
structure Sto where
s:Addr
sd:Addr
tm:Addr
td:Addr
c:Addr
a:CA
k:BkA
ru:V
pa:V
noncomputable def bf(k:BkA):List Addr:=[k.bk,k.wv,k.lv,k.fi,k.bo]
noncomputable def sf(x:Sto):List Addr:=foot x.c x.a++bf x.k
structure Fit(m:CM)(q:QM):Prop where
ok:m.Ok
oq:q.Ok
eB:m.bl=(q.B:Int)
eP:m.pg=(q.P:Int)
structure StAt(t:Adr)(H:Hp)(x:Sto)(r2 r3 r4 r5:V)(m:CM)(q:QM):Prop where
o:H x.s=some (.ins t.C_Even x.sd [("chip",.ref x.c),("terms",.ref x.tm),("book",.ref x.k.bk),("rule",x.ru),("papers",x.pa)])
te:H x.tm=some (.ins t.C_Terms x.td (teF (.int m.bl) (.int m.pg) r2 r3 r4 r5))
ch:ChipAt t.C_Chip H x.c x.a m
bk:BkAt t H x.k q
tb:TbF t H
ds:Dst x.k
d1:∀b∈x.a.li::foot x.c x.a,b∉bf x.k
d2:∀b∈[x.s,x.tm],b∉sf x
section
variable{H H':Hp}{x:Sto}{r2 r3 r4 r5:V}{m:CM}{q:QM}
theorem StAt.same(h:StAt t H x r2 r3 r4 r5 m q)(s:Same H H'):StAt t H' x r2 r3 r4 r5 m q:=⟨s _ _ h.o,s _ _ h.te,h.ch.same s,h.bk.same s,h.tb.same s,h.ds,h.d1,h.d2⟩
theorem TbF.ne(h:TbF t H){b:Addr}{o:HO}(e:H b=some o)(n:∀ps,o≠ .tbl ps):b≠t.fW:=λz=>by obtain⟨ps,hT,_⟩:=h;rw[z,hT]at e;exact n ps (mB e).symm
theorem StAt.nT(h:StAt t H x r2 r3 r4 r5 m q):∀b∈[x.s,x.tm]++(x.a.li::sf x),b∉[t.fW]:=by(
intro b D z
have z:=by simpa using z
have ne:∀{b:Addr} {o:HO},H b=some o->(∀ps,o≠ .tbl ps)->b≠t.fW:=λe n=>h.tb.ne e n
obtain⟨rs,I,_⟩:=h.ch.rc
have D:=by simpa[sf,bf,foot]using D
rcases D with y|y|y|y|y|y|y|y|y|y|y|y|y|y<;>rw[y]at z
.exact ne h.o (λU z=>by cases z) z
.exact ne h.te (λU z=>by cases z) z
.exact ne h.ch.li (λU z=>by cases z) z
.exact ne h.ch.ins (λU z=>by cases z) z
.exact ne h.ch.bo (λU z=>by cases z) z
.exact ne h.ch.cl (λU z=>by cases z) z
.exact ne h.ch.dc (λU z=>by cases z) z
.exact ne h.ch.br (λU z=>by cases z) z
.exact ne I (λU z=>by cases z) z
.exact ne h.bk.o (λU z=>by cases z) z
.exact ne h.bk.w (λU z=>by cases z) z
.exact ne h.bk.l (λU z=>by cases z) z
.exact ne h.bk.f (λU z=>by cases z) z
exact ne h.bk.b (λU z=>by cases z) z)
theorem StAt.nX(h:StAt t H x r2 r3 r4 r5 m q){b:Addr}{o:HO}(e:H b=some o)(to:Tex o):b∉[x.s,x.tm]++(x.a.li::sf x):=λhb=>by(
obtain⟨rs,er,_⟩:=h.ch.rc
have hb:=by simpa[sf,bf,foot]using hb
rcases hb with y|y|y|y|y|y|y|y|y|y|y|y|y|y
.exact uK to e h.o q3V y
.exact uK to e h.te q3V y
.exact uK to e h.ch.li (λz=>by rcases z with⟨_,z⟩|⟨_,z⟩<;>cases z) y
.exact uK to e h.ch.ins q3V y
.exact uK to e h.ch.bo zU y
.exact uK to e h.ch.cl zU y
.exact uK to e h.ch.dc zU y
.exact uK to e h.ch.br zU y
.exact uK to e er zU y
.exact uK to e h.bk.o q3V y
.exact uK to e h.bk.w (λz=>by rcases z with⟨_,z⟩|⟨_,z⟩<;>cases z) y
.exact uK to e h.bk.l zU y
.exact uK to e h.bk.f zU y
exact uK to e h.bk.b zU y)
theorem StAt.keep(h:StAt t H x r2 r3 r4 r5 m q){F:List Addr}(k:Keep F H H')(n:∀b∈[x.s,x.tm]++(x.a.li::sf x),b∉F)(tb:TbF t H'):StAt t H' x r2 r3 r4 r5 m q:=⟨k.k _ _ (n _ (by simp)) h.o,k.k _ _ (n _ (by simp)) h.te,h.ch.keep k (λb hb=>n b (by
  rcases kN.mp hb with rfl|hb
  .simp
  .simp[sf,hb])),h.bk.keep k (λb hb=>n b (by
  have hb:b∈bf x.k:=hb;simp[sf,hb])),tb,h.ds,h.d1,h.d2⟩
theorem StAt.kT(h:StAt t H x r2 r3 r4 r5 m q)(k:Keep [t.fW] H H')(tb:TbF t H'):StAt t H' x r2 r3 r4 r5 m q:=h.keep k h.nT tb
end
inductive spGd(t:Adr)(vs:List V)(H:Hp)(Q:VK)(E_:XK):Prop
|mk:∀x r2 r3 r4 r5 m q,vs=[.ref x.s]->StAt t H x r2 r3 r4 r5 m q->Fit m q->NewO H (.lst ((uU q.B m.br).map vn)) Q->spGd t vs H Q E_
theorem zA(T:tXx)(S:tFf):S.tI.Ok0 P w mg base 5 (spGd t):=by(
refine S.tI.F.ok0 q8E λae A _ s H vs Q E hr h=>?_
obtain⟨x,r2,r3,r4,r5,m,q,rfl,Z,U,k⟩:=h
have b2:=U.oq.b2
have eB:=U.eB
refine⟨_,(qE (qM (yC ["self","block"] [0] rfl (vD rfl T.oQ (qA (qJ (qJ (pv 0) rfl) rfl) qD)) (λz z z z z=>(qT (i:=1) (show List.Nodup (["self","block"]:List Str)from by decide))) (λz z z z z=>(yV (u9 (yI (qY (vI (K:=K) rfl (pv 0) rfl) T.fZ T.aDH (q7V T S).mono hr S.aBJ.b .nil qK (qA (pv 1) qD)))))) (λz z z z z=>(pv 1)) (by kernel_rfl) (jI (by decide))))),?_⟩
try dsimp-beta-proj-iota-zeta-eta only[wishK,cxK]
refine(iV rfl (iF Z.o T.fY T.f8 rfl (iF Z.te T.iC T.oG rfl ⟨m.bl,rfl,by lia,by lia,λD H2 nD s2 hD=>?_⟩)))
refine zW (D:=D) (λi I=>Same H I/\I D=some (.lst (((List.range i).filter λb=>!(m.br.getD b false)).map vn))) ⟨s2,hD⟩ (λi I hi hp=>?_) (λI hp=>?_)
.obtain⟨J,N⟩:=hp;have hi:i<q.B:=by lia
 have O:=Z.same J;refine(iV rfl (iF O.o T.fY T.iR rfl (iM O.ch.ins rfl ⟨_,rfl,x.c,x.a,m,_,rfl,O.ch,U.ok,by lia,by lia,?_⟩)));rw[show(0+(i:Int)).toNat=i by lia,xD];refine⟨_,rfl,?_⟩;rw[r9,m7,mE];cases z:m.br.getD i false with
 |true=>refine iteF ⟨J,?_⟩;rw[N,mU,z];simp
 |false=>
  refine iteT ?_;refine⟨_,rfl,_,N,?_,λb o e=>?_,?_⟩
  .rw[hU];have:((List.range i).filter λb=>!(m.br.getD b false)).length<=i:=kQ (kY _ _) (by rw[mM];exact kO _);have:(16:Nat)<sizeLine:=by decide
   lia
  .rw[qF (qG e nD)];exact J _ _ e
  rw[qI,mU,z];rfl
obtain⟨J,N⟩:=hp
rw[show m.bl.toNat=q.B by lia]at N
exact k D I nD J N)
inductive spLm(t:Adr)(x:Sto)(g c:Addr)(fd:FuncData)(vs:List V)(H:Hp)(Q:VK)(E_:XK):Prop
|mk:∀r2 r3 r4 r5,∀m:CM,∀q:QM,∀b:Nat,vs=[.int (b:Int)]->StAt t H x r2 r3 r4 r5 m q->Fit m q->b<q.B->H g=some (fnO g fd)->H c=some (cdO c lamQ)->(∀tp H',H tp=none->Same H H'->H' tp=some (.tup [.int (m.cl.getD b 0),.int (b:Int)])->Q (.ref tp) H')->spLm t x g c fd vs H Q E_
theorem qLV(T:tXx)(S:tFf){c:Addr}{pm:Value}{x:Sto}(hc:base.IsCell ca (some (.ref x.s))):
 FnOk P w K mg base CX0 5 g (q7X [("self",ca)] pm ct c) ["block"] (spLm t x g c (q7X [("self",ca)] pm ct c)):=by(
refine qIE (k:=4)  (fvs:=[.ref x.s]) (qES  rfl rfl rfl (by rfl) (by rfl) (by decide+kernel) rfl hc) (λN H Q E h=>?_) (λN H Q E h=>?_) (λA outer s H I Q E J h=>?_)
.repeat obtain⟨_,h⟩:=h
 all_goals subst_vars;rfl
.obtain⟨r2,r3,r4,r5,m,q,b,rfl,_,_,_,a,d,_⟩:=h;exact⟨a,d⟩
obtain⟨r2,r3,r4,r5,m,q,b,e,z,D,U,_,_,k⟩:=h
obtain rfl:I=.int (b:Int):=by simpa using e
have O:=D.eB
refine⟨_,yB (qA (qY (qJ (pv 1) rfl) T.fZ T.i8 (uH T S).mono J S.iY.b .nil qK (qA (pv 0) qD)) (qA (pv 0) qD)),?_⟩
refine(iV rfl (iF z.o T.fY T.iR rfl (iM z.ch.ins rfl ⟨_,rfl,x.c,x.a,m,_,rfl,z.ch,D.ok,by lia,by lia,?_⟩)))
rw[mC]
exact⟨_,rfl,sz2,k⟩)
theorem qEW{c:Addr}{pm:Value}:yG K (q7X clos pm ct c) ["block"] []:=yG.all λus hl=>match us,hl with| [_],_=>rfl
theorem qJ8(T:tXx)(h:TbF t H):∃ps,H t.fW=some (.tbl ps)/\TriplesOk ps.toList/\((codeAmong lamP ps.toList=none/\∀c H',H' t.fW=some (.tbl (ps++tri c))->H' c=some (cdO c lamQ)->(∀b o,b≠t.fW->H b=some o->H' b=some o)->TbF t H')\/∃c,codeAmong lamP ps.toList=some (.ref c)/\H c=some (cdO c lamQ)):=by(
obtain⟨ps,hT,h,U⟩:=h
rcases h with rfl|⟨c,rfl,a⟩
.refine⟨_,hT,trivial,.inl ⟨rfl,λc H' N O k=>⟨_,N,.inr ⟨c,rfl,O⟩,?_⟩⟩⟩;obtain⟨J,I,h'⟩:=U;refine⟨J,k _ _ (T.aA9.symm) I,?_⟩;rcases h' with h'|⟨S,h',D⟩
 .exact .inl h'
 exact .inr ⟨S,h',k _ _ (λz=>by rw[z,hT]at D;cases D) D⟩
exact⟨_,hT,trivial,.inr ⟨c,rfl,a⟩⟩)
theorem q9J(T:tXx)(S:tFf){cells:List (Str×Addr)}{f:Addr}{x:Sto}{m:CM}{pm:Value}(hσ:σ[0]?=some (some (.ref x.s)))(hcl:∀ca,cells.lookup ("self":Str)=some ca->clos=[(("self":Str),ca)])
 (hs:StAt t H4 x r2 r3 r4 r5 m q) (ft:Fit m q) (hD:H4 D=some (.lst ((yR q.B m.br q.fi).map vn))) (hf:H4 f=some (fnO f (q7X clos pm ct c'))) (hc:H4 c'=some (cdO c' lamQ)) (k:∀l p H',FreeIs q.B m.br m.cl q.fi l->H4 p=none->Same H4 H'->H' p=some (.lst (l.map vn))->Q (.ref p) H'):
 ∃(f':Addr) (fd:FuncData) (sp:Heap->Sp),V.ref f=.ref f'/\(∀base',(∀b o,base.get? b=some o->base'.get? b=some o)->q2N cells σ base' [(0,"self")]->FnOk P w K mg base' CX0 5 f' fd ["block"] (sp base'))/\yG K fd ["block"] []/\∃(l:Addr) (us:List V) (Pv:Nat->List V->Hp->Prop),[V.ref D]=[.ref l]/\SqL K H4 l us/\us.length<64/\Pv 0 [] H4/\(∀base' i x zs H',q2N cells σ base' [(0,"self")]->us[i]?=some x->Pv i zs H'->sp base' [x] H' (λz H''=>Pv (i+1) (zs++[z]) H'') E0)/\∀zs H',zs.length=us.length->Pv us.length zs H'->∃kk m,Paired (TupI K H') zs kk/\(∀k∈kk,k.length=m)/\0<m/\∀q:List Nat,q.Perm (List.range us.length)->(q.map λi=>kk.getD i []).Pairwise (λa b=>lx b a=false)->NewO H' (.lst (q.map λi=>us.getD i .non)) Q:=by(
have b2:=ft.oq.b2
have ln:=q9C (B:=q.B) (br:=m.br) (fi:=q.fi)
refine⟨f,q7X clos pm ct c',λ_=>spLm t x f c' (q7X clos pm ct c'),rfl,λbase' _ cv=>?_,qEW,D,_,λi zs H'=>Same H4 H'/\Paired (TupD H') zs (((yR q.B m.br q.fi).take i).map (keyN m.cl)),rfl,SqL.of hD,by rw[hU];lia,⟨Same.refl H4,.nil⟩,λbase' i y zs H' _ hy hp=>?_,λzs H' lz hp=>?_⟩
.obtain⟨ca,u,hk,ru,I⟩:=cv (0,"self") (kD.mpr rfl) (.ref x.s) hσ;obtain rfl:u=Value.ref x.s:=ru;rw[hcl ca hk];exact qLV T S I
.obtain⟨J,N⟩:=hp;rw[mF]at hy;obtain⟨b,hb,rfl⟩:=mK.mp hy;have mb:=q3Q.mp (gL hb);refine⟨r2,r3,r4,r5,m,q,b,rfl,hs.same J,ft,mb.1.1,J _ _ hf,J _ _ hc,λtp H5 ai U O=>⟨J.trans U,?_⟩⟩;rw[q9D (f:=keyN m.cl) hb];exact L2.Paired.snoc (jH N U) ⟨tp,rfl,O⟩
obtain⟨J,N⟩:=hp
rw[hU,mY]at N
refine⟨_,2,q9Z N,λk hk=>?_,by decide,λq' Z p2 p H5 np U O=>?_⟩
.obtain⟨b,_,rfl⟩:=kP.mp hk;rfl
rw[hU]at Z
have ab:∀i∈q',i<(yR q.B m.br q.fi).length:=λi hi=>mV.mp (Z.mem_iff.mp hi)
rw[q7H (e:=0) ab]at O
exact k _ p H5 (qIH Z p2) (Same.free J np) (J.trans U) O)
inductive spFr(t:Adr)(vs:List V)(H:Hp)(Q:VK)(E_:XK):Prop
|mk:∀x r2 r3 r4 r5 m q,vs=[.ref x.s]->StAt t H x r2 r3 r4 r5 m q->Fit m q->(∀l p H',FreeIs q.B m.br m.cl q.fi l->H p=none->Keep [t.fW] H H'->TbF t H'->H' p=some (.lst (l.map vn))->Q (.ref p) H')->spFr t vs H Q E_
theorem q16(T:tXx)(S:tFf)(B:BmIn base mg):FnOk P w K mg base (CX0) 8 t.f_Plain_free S.aAH ["self"] (spFr t):=by(
refine S.aD1.ok0 q47 λA _ s H vs Q E hr h=>?_
obtain⟨x,r2,r3,r4,r5,m,q,rfl,hs,ft,k⟩:=h
have b2:=ft.oq.b2
have eB:=ft.eB
refine⟨_,(qB (vH (i:=1) ["self","block"] [0] rfl (jM (jB (pv 0) T.fY T.aAB (zA T S).mono hr S.tI.b .nil qK)) (λz z z z z=>(qT (i:=1) (show List.Nodup (["self","block"]:List Str)from by decide))) (λz z z z z=>(yV (qP yO (qO (q78 (K:=K) rfl) (vI (K:=K) rfl (vI (K:=K) rfl (pv 0) rfl) rfl) (pv 1) (λz z=>rfl)) qC (qQ _)))) (λz z z z z=>(pv 1)) (by kernel_rfl) (jI (by decide)) q47.nd rfl (Or.inl rfl)) (qE (qM (qCN (k:=5) (x:="block") [(0,"self")] (by intro p hp;simp only[kN,gP,wO]at hp;rcases hp with rfl<;>exact⟨rfl,by kernel_rfl,rfl⟩) hr (by rfl) T.aCC (qDQ rfl T.aDM B (qIF (by kernel_rfl)) rfl) (qA (pv 1) qD))))),?_⟩
try dsimp-beta-proj-iota-zeta-eta only[wishK,cxK]
refine(iV rfl (iM hs.o rfl ⟨x,r2,r3,r4,r5,m,q,rfl,hs,ft,λp H1 n1 s1 h1=>?_⟩))
refine⟨p,rfl,⟨_,SqL.of h1⟩,λD H2 nD s2 hD=>?_⟩
refine yW (K:=K) (xs:=(uU q.B m.br).map vn) (D:=D) (λi H3=>Same H1 H3/\H3 D=some (.lst ((((uU q.B m.br).take i).filter λb=>decide (q.fi.getD b 0=0)).map vn))) ⟨s2,hD⟩ (λi H3 hp=>SqL.of (hp.1 _ _ h1)) (λi y H3 hy hp=>?_) (λH3 hp=>?_)
.obtain⟨U,Z⟩:=hp;have N:=(hs.same s1).same U;rw[mF]at hy;obtain⟨b,hb,rfl⟩:=mK.mp hy;have hi:=(kC.mp hb).1;have mb:=q1F.mp (gL hb);refine(iV rfl (iF N.o T.fY T.iA rfl (iF N.bk.o T.f9 T.iD rfl ⟨_,rfl,iL (k:=_) (v:=_) (SqL.of N.bk.f) (atV (by rw[ft.oq.lf];exact mb.1)) ⟨rfl,_,rfl,?_⟩⟩)));rw[yL,<-kW hi,m7,mE];obtain rfl:(uU q.B m.br)[i]=b:=(kC.mp hb).2;by_cases z:q.fi.getD (uU q.B m.br)[i] 0=0
 .rw[hG z];refine iteT ?_;refine⟨_,rfl,_,Z,?_,λb o e=>?_,?_⟩
  .rw[hU];have l1:(((uU q.B m.br).take i).filter λb=>decide (q.fi.getD b 0=0)).length<=q.B:=kQ (kY _ _) (kQ (by rw[gF];lia) (q2O (B:=q.B) (br:=m.br)));have:(16:Nat)<sizeLine:=by decide
   lia
  .rw[qF (qG e nD)];exact U _ _ e
  rw[qI,mU,hG z];rfl
 rw[hX z];refine iteF ⟨U,?_⟩;rw[Z,mU,hX z];simp
obtain⟨U,Z⟩:=hp
rw[hU,mY]at Z
have Z:H3 D=some (.lst ((yR q.B m.br q.fi).map vn)):=Z
have N:=(hs.same s1).same U
refine⟨_,rfl,?_⟩
obtain⟨ps,hT,ht,hc⟩:=qJ8 T N.tb
have nT:D≠t.fW:=N.tb.ne Z (λU z=>by cases z)
have keep:∀(f c':Addr) (J pm:Value) (ac:List (Str×Addr)) (O:Hp),O f=some (fnO f (q7X ac pm J c'))->O c'=some (cdO c' lamQ)->TbF t O->(∀b o,b≠t.fW->H3 b=some o->O b=some o)->Keep [t.fW] H3 O:=λf c' J pm ac O _ _ I kp=>⟨λb o nb e=>kp b o (λz=>nb (by rw[z];simp)) e,λb xs e=>kp b _ (N.tb.ne e (λU z=>by cases z)) e⟩
refine⟨ps,hT,ht,?_⟩
rcases hc with⟨hn,tb⟩|⟨c0,hn,hc0⟩
.refine .inl ⟨hn,λf c' J O nf hf ad ar kp=>?_⟩;have I:=tb c' O ar ad kp;have k4:=keep f c' J _ _ O hf ad I kp;refine q9J T S rfl (λca hk=>qBH (names:=qHF.names) hk rfl) (N.kT k4 I) ft (kp _ _ nT Z) hf ad (λl p' H5 hl np s5 e5=>k l p' H5 hl ?_ ?_ (I.same s5) e5)
 .refine Same.free s1 (Same.free U (k4.none (λz=>?_) np));obtain⟨a1,aq,_⟩:=I;rw[kD.mp z,aq]at np;cases np
 exact((Keep.same s1).trans (Keep.same U)).trans (k4.trans (Keep.same s5))
refine .inr ⟨c0,hn,λf J O nf hf s4=>?_⟩
refine q9J T S rfl (λca hk=>qBH (names:=qHF.names) hk rfl) (N.same s4) ft (s4 _ _ Z) hf (s4 _ _ hc0) (λl p' H5 hl np s5 e5=>k l p' H5 hl ?_ ?_ ((N.tb.same s4).same s5) e5)
.exact Same.free s1 (Same.free U (Same.free s4 np))
exact Keep.same (((s1.trans U).trans s4).trans s5))
inductive spPt(t:Adr)(vs:List V)(H:Hp)(Q:VK)(E_:XK):Prop
|mk:∀x r2 r3 r4 r5 m q,vs=[.ref x.s]->StAt t H x r2 r3 r4 r5 m q->Fit m q->(∀H',Same H H'->Q (oV (jW q.B q.P m.br q.fi)) H')->spPt t vs H Q E_
theorem qEX{α:Type}{p:α->Bool}{L:List α}{i:Nat}{x:α}(h:L[i]?=some x)(n:(L.take i).find? p=none):(p x=true->L.find? p=some x)/\(p x=false->(L.take (i+1)).find? p=none):=by(
have D:=(kC.mp h).1
obtain rfl:L[i]=x:=(kC.mp h).2
constructor
.intro z;have e:L=L.take i++L[i]::L.drop (i+1):=by simp
 conv=>lhs;arg 2;rw[e]
 rw[bK,n,d7,z];rfl
intro z
rw[<-kW D,bK,n,d7,z]
rfl)
theorem q17(T:tXx)(S:tFf):S.tZ.Ok0 P w mg base 6 (spPt t):=by(
refine S.tZ.F.ok0 q48 λak A _ s H vs Q E hr h=>?_
obtain⟨x,r2,r3,r4,r5,m,q,rfl,hs,O,k⟩:=h
refine⟨_,(qB (uO gT rfl (jM (jB (pv 0) T.fY T.aAB (zA T S).mono hr S.tI.b .nil qK)) (qT (i:=1) q48.nd) (qE (jG (qF8 q0J q0J qC (qO jD (qJ (qJ (pv 0) rfl) rfl) (pv 1) (λz z=>rfl)) (qJ (qJ (pv 0) rfl) rfl)) (qE (qM (pv 1))) qS))) (qE (qM u8))),?_⟩
try dsimp-beta-proj-iota-zeta-eta only[wishK,cxK]
refine(iV rfl (iM hs.o rfl ⟨x,r2,r3,r4,r5,m,q,rfl,hs,O,λp H1 n1 s1 h1=>?_⟩))
refine⟨p,rfl,⟨_,SqL.of h1⟩,?_⟩
refine zC (K:=K) (xs:=(uU q.B m.br).map vn) (λi U H2=>∃y,U=[some (.ref x.s),y]/\Same H1 H2/\((uU q.B m.br).take i).find? (jX q.P q.fi)=none) ⟨_,rfl,Same.refl H1,rfl⟩ (λi U H2 hi N=>?_) (λi y U H2 hy N=>?_) (λU H2 N=>?_)
.obtain⟨y,rfl,D,_⟩:=N;exact SqL.of (D _ _ h1)
.obtain⟨y',rfl,D,hn⟩:=N;have J:=(hs.same s1).same D;rw[mF]at hy;obtain⟨b,hb,rfl⟩:=mK.mp hy;have mb:=q1F.mp (gL hb);obtain⟨y1,y2⟩:=qEX hb hn;refine(iV rfl (iF J.o T.fY T.iA rfl (iF J.bk.o T.f9 T.iD rfl ⟨_,rfl,iL (k:=_) (v:=_) (SqL.of J.bk.f) (atV (by rw[O.oq.lf];exact mb.1)) ?_⟩)));refine(iI ⟨_,rfl,?_⟩);by_cases I:0<q.fi.getD b 0
 .rw[hG I];refine iteT ?_;refine(iV rfl (iF J.o T.fY T.f8 rfl (iF J.te T.iC T.iB rfl (iI ⟨_,rfl,?_⟩))));by_cases Z:q.fi.getD b 0<m.pg
  .rw[hG Z];have z:=k H2 (s1.trans D);unfold jW at z;rw[y1 (by unfold jX;rw[hG I,hG (by rw[<-O.eP];exact Z)];rfl)]at z;exact iteT ⟨_,rfl,z⟩
  rw[hX Z];exact iteF ⟨_,rfl,D,y2 (by unfold jX;rw[hG I,hX (by rw[<-O.eP];exact Z)];rfl)⟩
 rw[hX I];exact iteF ⟨_,rfl,iteF ⟨_,rfl,D,y2 (by unfold jX;rw[hX I];rfl)⟩⟩
obtain⟨y',rfl,D,hn⟩:=N
rw[hU,mY]at hn
have z:=k H2 (s1.trans D)
unfold jW at z
rw[hn]at z
exact z)
inductive spSp(t:Adr)(vs:List V)(H:Hp)(Q:VK)(E_:XK):Prop
|mk:∀x r2 r3 r4 r5 m q,vs=[.ref x.s]->StAt t H x r2 r3 r4 r5 m q->Fit m q->(∀l H',FreeIs q.B m.br m.cl q.fi l->Keep [t.fW] H H'->TbF t H'->Q (pgV q.P q.fi (q1G q.B q.P m.br q.fi l)) H')->spSp t vs H Q E_
theorem q8L(T:tXx)(S:tFf)(B:BmIn base mg):S.aBT.Ok0 P w mg base 9 (spSp t):=by(
refine S.aBT.F.ok0 q14 λaf A _ s H vs Q E N h=>?_
obtain⟨x,r2,r3,r4,r5,m,q,rfl,U,z,k⟩:=h
refine⟨_,(qB (qU (i:=1) q14.nd (jB (pv 0) T.fY T.aBL (q17 T S).mono N S.tZ.b .nil qK)) (qB (jG (qP q3M (pv 1) u8 (qQ _)) (qE (qM (qL jU (qL jP (pv 1) (qJ (qJ (pv 0) rfl) rfl)) (qO jD (qJ (qJ (pv 0) rfl) rfl) (pv 1) (λz z=>rfl))))) qS) (qB (qU (i:=2) q14.nd (jB (pv 0) T.fY T.aBN (q16 T S B).mono N S.aAV .nil qK)) (qB (jG (qP (q5K N.units) (pv 2) (jS qD) (qQ _)) (qE (qM u8)) qS) (qE (qM (qL jP (qO jD (pv 2) qC (λz z=>rfl)) (qJ (qJ (pv 0) rfl) rfl)))))))),?_⟩
try dsimp-beta-proj-iota-zeta-eta only[wishK,cxK]
refine(iV rfl (iM U.o rfl ⟨x,r2,r3,r4,r5,m,q,rfl,U,z,λH1 Z=>?_⟩))
have h1:=U.same Z
have b2:=z.oq.b2
have p2:=z.oq.p2
have eP:=z.eP
cases hpn:jW q.B q.P m.br q.fi with
|some b=>
 have hb:=q03 hpn;refine⟨_,rfl,rfl,_,rfl,iteT ?_⟩;refine⟨_,rfl,iV rfl (iF h1.o T.fY T.f8 rfl (iF h1.te T.iC T.iB rfl (iI ⟨.inl ⟨by lia,by lia⟩,?_⟩)))⟩;refine(iV rfl (iF h1.o T.fY T.iA rfl (iF h1.bk.o T.f9 T.iD rfl ⟨_,rfl,iL (k:=_) (v:=_) (SqL.of h1.bk.f) (atV (by rw[z.oq.lf];exact hb.1)) (iI ?_)⟩)));obtain⟨l,hl⟩:=FreeIs.ex q.B m.br m.cl q.fi;have kk:=k l H1 hl (Keep.same Z) h1.tb;unfold q1G at kk;rw[hpn]at kk;have e:pgV q.P q.fi (some b)=V.int ((b:Int)*m.pg+q.fi.getD b 0):=by rw[eP];rfl
 have kk:Q (pgV q.P q.fi (some b)) H1:=kk;rw[e]at kk;exact kk
|none=>
 refine⟨_,rfl,rfl,_,rfl,iteF ?_⟩;refine(iV rfl (iM h1.o rfl ⟨x,r2,r3,r4,r5,m,q,rfl,h1,z,λl p H2 hl np k2 I h2=>?_⟩));have O:=h1.kT k2 I;refine⟨_,rfl,sz0,λe H3 n3 J h3=>⟨p,_,e,rfl,rfl,SqL.of (J _ _ h2),SqL.of h3,_,rfl,?_⟩⟩;have D:=O.same J;have kk:=k l H3 hl (((Keep.same Z).trans k2).trans (Keep.same J)) (I.same J);unfold q1G at kk;rw[hpn]at kk;cases l with
 |nil=>refine iteT ?_;exact kk
 |cons b r=>
  refine iteF ?_;have hb:=hl.mem (kX (a:=b) (l:=r));refine⟨_,rfl,iL (k:=0) (v:=.int (b:Int)) (SqL.of (J _ _ h2)) (yH (j:=0) rfl) (iV rfl (iF D.o T.fY T.f8 rfl (iF D.te T.iC T.iB rfl (iI ⟨.inl ⟨by lia,by lia⟩,?_⟩))))⟩;have e:pgV q.P q.fi ((b::r).head?)=V.int ((b:Int)*m.pg):=by show V.int ((b:Int)*(q.P:Int)+q.fi.getD b 0)=_;rw[hb.2.2,eP,Int.add_zero]
  have kk:Q (pgV q.P q.fi ((b::r).head?)) H3:=kk;rw[e]at kk;exact kk)
def qE4(t:Adr):Sp:=λvs H Q E=>∃x r2 r3 r4 r5 m q n v,vs=[.ref x.s,.int n,.int v]/\StAt t H x r2 r3 r4 r5 m q/\Fit m q/\Gd m/\m.rc.length<1000000/\∀l,FreeIs q.B m.br m.cl q.fi l->∃b f:Nat,q1G q.B q.P m.br q.fi l=some b/\q.fi.getD b 0=(f:Int)/\m.bo.getD (b*q.P+f) .non=.non/\∀tp H',H' tp=some (.tup [.int (q.nx*128+n),.int v])->Keep (t.fW::sf x) H H'->StAt t H' x r2 r3 r4 r5 (putC m (b*q.P+f) (.ref tp)) (q.put b f n)->Q (.int ((b*q.P+f:Nat):Int)) H'
theorem StAt.put{x:Sto}{m:CM}(h:StAt t H x r2 r3 r4 r5 m q)(hc:ChipAt t.C_Chip H' x.c x.a m')(k:Keep (foot x.c x.a) H H')(e1:m'.bl=m.bl)(e2:m'.pg=m.pg):StAt t H' x r2 r3 r4 r5 m' q:=by have J:=λb D z=>h.d1 b (kB _ z) D;have I:=λb D z=>h.d2 b D (by exact gX _ z);refine⟨k.k _ _ (I _ (by simp)) h.o,by rw[e1,e2];exact k.k _ _ (I _ (by simp)) h.te,hc,h.bk.keep k J,h.tb.gen λb o to e=>k.k _ _ (λz=>h.nX e to (mH _ (kB _ (by exact gX _ z)))) e,h.ds,h.d1,h.d2⟩
theorem StAt.note{x:Sto}{m:CM}(h:StAt t H x r2 r3 r4 r5 m q)(hb:BkAt t H' x.k q')(k:Keep (bf x.k) H H'):StAt t H' x r2 r3 r4 r5 m q':=by have D:=λb hb z=>h.d2 b hb (by exact mH _ z);refine⟨k.k _ _ (D _ (by simp)) h.o,k.k _ _ (D _ (by simp)) h.te,h.ch.keep k h.d1,hb,h.tb.gen λb o to e=>k.k _ _ (λz=>h.nX e to (mH _ (kB _ (by exact mH _ z)))) e,h.ds,h.d1,h.d2⟩
theorem q5C(T:tXx)(S:tFf)(B:BmIn base mg):S.tV.Ok0 P w mg base 10 (qE4 t):=by(
refine S.tV.F.ok0 q0M λar A _ s H vs Q E O h=>?_
obtain⟨x,r2,r3,r4,r5,m,q,n,v,rfl,hs,I,gd,ad,k⟩:=h
refine⟨_,(qB (qU (i:=3) q0M.nd (jB (pv 0) T.fY T.aE5 (q8L T S B).mono O S.aBT.b .nil qK)) (qB (jG (qP q9L (pv 3) u8 (qQ _)) (qE jN) qS) (qB (jA (qY (qJ (pv 0) rfl) T.fZ T.aFB (qBU T S).mono O S.aDI.b .nil qK (qA (pv 3) (qA (yB (qA (qY (qJ (pv 0) rfl) T.f9 T.aEX (qAL T S).mono O S.aCO.b .nil qK (qA (pv 1) qD)) (qA (pv 2) qD))) qD q1C)))) (qB (jA (qY (qJ (pv 0) rfl) T.f9 T.aEZ (qAM T S).mono O S.aCZ.b .nil qK (qA (pv 3) (qA (pv 1) qD)))) (qE (qM (pv 3))))))),?_⟩
try dsimp-beta-proj-iota-zeta-eta only[wishK,cxK]
refine(iV rfl (iM hs.o rfl ⟨x,r2,r3,r4,r5,m,q,rfl,hs,I,λl H1 hl k1 ag=>?_⟩))
have z:=hs.kT k1 ag
obtain⟨b,f,J,ef,hn,kk⟩:=k l hl
rw[J]
obtain⟨hB,ap,f0,f1⟩:=qBI hl I.oq.p1 J
have hf:f<q.P:=by lia
have ab:pgV q.P q.fi (some b)=V.int ((b*q.P+f:Nat):Int):=by show V.int ((b:Int)*(q.P:Int)+q.fi.getD b 0)=_;rw[ef,rL,gY]
rw[ab]
refine⟨_,rfl,rfl,_,rfl,iteF ?_⟩
refine(iV rfl (iF z.o T.fY T.iR rfl (iM z.ch.ins rfl ⟨_,rfl,?_⟩)))
refine(iV rfl (iF z.o T.fY T.iA rfl (iM z.bk.o rfl ⟨_,rfl,x.k,q,n,rfl,z.bk,_,rfl,sz2,λtp H2 n2 s2 e2=>?_⟩)))
have N:=z.same s2
have ae:((b*q.P+f:Nat):Int)<=m.bl*m.pg-1:=by rw[I.eB,I.eP,<-gY];have:b*q.P+f<q.B*q.P:=(cV (by lia)).mp (by rw[yM hf];exact hB);lia
refine⟨x.c,x.a,m,_,.ref tp,rfl,N.ch,I.ok,ad,gd,ae,hn,λH3 U k3=>?_⟩
have D:=N.put U k3 rfl rfl
refine(iV rfl (iF D.o T.fY T.iA rfl (iM D.bk.o rfl ⟨_,rfl,_,rfl,x.k,q,b,f,n,rfl,D.bk,I.oq,D.ds,hB,hf,ef,λH4 ah Z=>⟨_,rfl,?_⟩⟩)))
exact kk tp H4 (Z.tp _ _ (k3.tp _ _ e2)) ((((k1.mono (by simp)).trans (Keep.same s2)).trans (k3.mono (λb hb=>by unfold sf;exact kB _ (gX _ hb)))).trans (Z.mono (λb hb=>by unfold sf;exact kB _ (mH _ hb)))) (D.note ah Z))
theorem q2C(T:tXx)(S:tFf)(B:BmIn base mg):S.aA0.Ok0 P w mg base 11 (qE4 t):=by(
refine S.aA0.F.ok0 qAA λD A U s H J Q E I h=>?_
obtain⟨x,r2,r3,r4,r5,m,q,n,v,rfl,z,k⟩:=h
refine⟨_,(qE (qM (qY (pv 0) T.fY T.aCL (q5C T S B).mono I S.tV.b .nil qK (qA (pv 1) (qA (pv 2) qD))))),?_⟩
try dsimp-beta-proj-iota-zeta-eta only[wishK,cxK]
exact(iV rfl (iM z.o rfl ⟨_,rfl,_,rfl,x,r2,r3,r4,r5,m,q,n,v,rfl,z,k⟩)))
theorem bor(a b:Nat):Builtin.bitOr (a:Int) (b:Int)=((a|||b:Nat):Int):=by(
have e:∀c:Nat,Builtin.bitNot (Builtin.bitNot (c))=(c):=λc=>by unfold Builtin.bitNot;lia
have n:∀c:Nat,decide (0<=Builtin.bitNot (c))=false:=λc=>hX (by unfold Builtin.bitNot;lia)
unfold Builtin.bitOr Builtin.bitAnd
rw[n a,n b]
simp_all)
noncomputable abbrev vN(ks:List Nat):List V:=ks.map λ(k:Nat)=>V.int (k:Int)
inductive spBo(K:W.Frag)(vs:List V)(H:Hp)(Q:VK)(E_:XK):Prop
|mk:∀l ss,vs=[.ref l]->SqL K H l (vN ss)->(∀s∈ss,s<64)->Q (.int ((orB ss 0:Nat):Int)) H->spBo K vs H Q E_
theorem qBV(s:Nat):∀(l:List Nat) (b:Nat),orB (l++[s]) b=orB l b|||2 ^ s
| [],b=>rfl
|x::r,b=>qBV s r _
theorem q7Y(T:tXx)(S:tFf):S.aDL.Ok0 P w mg base 1 (spBo K):=by(
refine S.aDL.F.ok0 q29 λO A _ s H vs Q E hr h=>?_
obtain⟨l,z,rfl,hl,Z,q⟩:=h
refine⟨_,(qB (qU (i:=1) q29.nd qC) (qB (uO gT rfl (jM (pv 0)) (qT (i:=2) q29.nd) (qE (qU (i:=1) q29.nd (qL qMC (pv 1) (qL qF2 qC (pv 2)))))) (qE (qM (pv 1))))),?_⟩
refine⟨_,rfl,l,rfl,⟨_,hl⟩,?_⟩
refine zC (K:=K) (xs:=vN z) (λi I H2=>∃y,I=[some (.ref l),some (.int ((orB (z.take i) 0:Nat):Int)),y]/\H2=H) ⟨_,rfl,rfl⟩ (λi I H2 J D=>?_) (λi x I H2 N D=>?_) (λI H2 D=>?_)
.obtain⟨y,rfl,rfl⟩:=D;exact hl
.obtain⟨y,rfl,rfl⟩:=D;rw[mF]at N;obtain⟨n,U,rfl⟩:=mK.mp N;obtain⟨J,rfl⟩:=kC.mp U;have:=Z _ (gG J);refine⟨_,rfl,_,rfl,iI ⟨⟨by lia,by lia,by decide⟩,iI ?_⟩⟩;have e:(1:Int)*2 ^ ((z[i]:Nat):Int).toNat=((2 ^ z[i]:Nat):Int):=by rw[bX,mC];exact(Int.natCast_pow 2 _).symm
 try dsimp only
 rw[e,bor];refine⟨some (.int ((z[i]:Nat):Int)),?_,rfl⟩;rw[<-kW J,qBV];rfl
obtain⟨y,rfl,rfl⟩:=D
rw[show(vN z).length=z.length by simp[vN],mY]
exact⟨_,rfl,q⟩)
noncomputable def hdN(W:Mp):List Int:=(W.map (·.1)).filter λn=>decide (n≠64)
inductive spHe(t:Adr)(vs:List V)(H:Hp)(Q:VK)(E_:XK):Prop
|mk:∀a,∀m:QM,vs=[.ref a.bk]->BkAt t H a m->m.Ok->(hdN m.V).length<64->(∀l ns H',Same H H'->H l=none->H' l=some (.lst (List.map V.int ns))->ns.Perm (hdN m.V)->ns.Pairwise (·<=·)->Q (.ref l) H')->spHe t vs H Q E_
theorem qAN(T:tXx)(S:tFf):S.aCF.Ok0 P w mg base 1 (spHe t):=by(
refine S.aCF.F.ok0 qA9 λas A _ s H vs Q E hr h=>?_
obtain⟨a,m,rfl,Z,ok,aj,q⟩:=h
have hu:=q45 hr
have lV:m.V.length<=65:=ok.lenV
refine⟨_,(qE (qM (jE q9S (by rfl) T.aCC (by kernel_rfl) (qA (q9U (yC ["name"] [] rfl (qDJ (qJ (pv 0) rfl)) (λz z z z z=>(qT (i:=0) (show List.Nodup (["name"]:List Str)from by decide))) (λz z z z z=>(yV (qP qB1 (pv 0) (q1S rfl T.aEP ⟨_,rfl⟩ (v:=.int 64)) (qQ _)))) (λz z z z z=>(pv 0)) (by kernel_rfl) (jI (by decide)))) qD)))),?_⟩
try dsimp-beta-proj-iota-zeta-eta only[wishK,cxK]
refine⟨a.wv,_,Z.w,iV rfl (iF Z.o T.f9 T.iZ rfl ⟨a.wv,_,rfl,Z.w,λo D H2 nD s2 hD=>?_⟩)⟩
have kk:∀x u,x≠a.wv->H x=some u->H2 x=some u:=λx u nx e=>s2 _ _ (by rw[qF nx];exact e)
have fz:H2 a.wv=some (.frz o (.dK (dI m.V))):=s2 _ _ qI
have Dw:D≠a.wv:=λz=>by rw[z,fz]at hD;cases hD
have ae:H D=none:=by rw[qF Dw]at nD;exact nD
refine qBG (D:=D) (λi I=>I a.wv=some (.frz o (.dK (dI m.V)))/\(∀x u,x≠a.wv->H x=some u->I x=some u)/\I D=some (.lst ((hdN (m.V.take i)).map V.int))) ⟨fz,kk,hD⟩ (λi I N=>N.1) (λi kv I hk N=>?_) (λI N=>?_)
.obtain⟨J,k3,U⟩:=N;have hi:i<m.V.length:=by have:=(kC.mp hk).1;rw[q7W]at this;exact this
 obtain rfl:((Sum.inl m.V[i].1:Key),V.int m.V[i].2)=kv:=by
  have e:(dI m.V)[i]?=some ((Sum.inl m.V[i].1:Key),V.int m.V[i].2):=by unfold dI;rw[mF,kF hi];rfl
  rw[e]at hk;exact mB hk
 have tk:m.V.take (i+1)=m.V.take i++[m.V[i]]:=(kW hi).symm;show q2E _ (V.int m.V[i].1) _ _ _;refine⟨_,rfl,rfl,_,rfl,?_⟩;rw[yL];by_cases e:m.V[i].1=64
 .rw[hG e];refine iteF ?_;refine⟨J,k3,?_⟩;have:hdN (m.V.take (i+1))=hdN (m.V.take i):=by unfold hdN;rw[tk,mE,m7];simp[e]
  rw[this];exact U
 rw[hX e];refine iteT ?_;refine⟨_,rfl,_,U,?_,?_,λx u nx e'=>?_,?_⟩
 .rw[hU];have l2:(hdN (m.V.take i)).length<=65:=by unfold hdN;refine kQ (kY _ _) ?_;rw[hU,gF];lia
  have:(65:Nat)<sizeLine:=by decide
  lia
 .rw[qF Dw.symm];exact J
 .rw[qF (qG e' ae)];exact k3 _ _ nx e'
 have:hdN (m.V.take (i+1))=hdN (m.V.take i)++[m.V[i].1]:=by unfold hdN;rw[tk,mE,m7];simp[e]
 rw[qI,this,mE];rfl
obtain⟨J,k3,U⟩:=N
rw[q7W,mY]at U
refine⟨o,_,J,?_⟩
have sH:Same H (upd I a.wv (.dK (dI m.V))):=qCM Z.w k3
have O:(upd I a.wv (.dK (dI m.V))) D=some (.lst ((hdN m.V).map V.int)):=by rw[qF Dw];exact U
generalize upd I a.wv (.dK (dI m.V))=H4 at sH O ⊢
refine⟨D,hdN m.V,rfl,SqL.of O,by lia,λns pp pw l H5 n5 s5 h5=>?_⟩
exact q l ns H5 (sH.trans s5) (sH.free n5) h5 pp pw)
structure HeldIs(q:QM)(ns:List Int):Prop where
pm:ns.Perm (hdN q.V)
so:ns.Pairwise (·<=·)
inductive spHd(t:Adr)(vs:List V)(H:Hp)(Q:VK)(E_:XK):Prop
|mk:∀x r2 r3 r4 r5 m q,vs=[.ref x.s]->StAt t H x r2 r3 r4 r5 m q->Fit m q->(hdN q.V).length<64->(∀l ns H',HeldIs q ns->Same H H'->H l=none->H' l=some (.lst (List.map V.int ns))->Q (.ref l) H')->spHd t vs H Q E_
theorem q18(T:tXx)(S:tFf):S.t8.Ok0 P w mg base 2 (spHd t):=by(
refine S.t8.F.ok0 q8F λJ A Z s H U Q E I h=>?_
obtain⟨x,r2,r3,r4,r5,m,q,rfl,z,N,D,k⟩:=h
refine⟨_,(qE (qM (jB (qJ (pv 0) rfl) T.f9 T.aEN (qAN T S).mono I S.aCF.b .nil qK))),?_⟩
exact(iV rfl (iF z.o T.fY T.iA rfl (iM z.bk.o rfl ⟨x.k,q,rfl,z.bk,N.oq,D,λl ns H' s' n' h' pm O=>k l ns H' ⟨pm,O⟩ s' n' h'⟩))))
inductive spCs(t:Adr)(vs:List V)(H:Hp)(Q:VK)(E:XK):Prop
|mk:∀x r3 r4 r5 m q v,∀sh:Int,vs=[.ref x.s,v]->StAt t H x (.int sh) r3 r4 r5 m q->Knd H v->(if inB v 0 (sh-1)=true then Q .non H else False)->spCs t vs H Q E
theorem zI(T:tXx)(S:tFf):S.i3.Ok0 P w mg base 3 (spCs t):=by(
refine S.i3.F.ok0 q39 λJ A U s H O Q E I h=>?_
obtain⟨x,r3,r4,r5,m,q,v,sh,rfl,D,N,k⟩:=h
refine⟨_,(qE (jG (u9 (yI (qZ (jV T S).mono I rfl T.iG T.iE S.iQ.b .nil qK (qA (pv 1) (qA qC (qA (qL uA (qJ (qJ (pv 0) rfl) rfl) qC) qD)))))) (qE jN) qS)),?_⟩
refine⟨_,rfl,iV rfl (iF D.o T.fY T.f8 rfl (iF D.te T.iC T.aA1 rfl (iI ⟨v,_,_,rfl,N,_,rfl,?_⟩)))⟩
cases z:inB v 0 (sh-1)with
|true=>rw[z,kL rfl]at k;exact iteF k
|false=>rw[z]at k;exact k.elim)
theorem qBW(T:tXx)(S:tFf):S.aDD.Ok0 P w mg base 3 (λvs H Q U=>∃v,vs=[v]/\Knd H v/\Q (.bl (inB v 0 (10 ^ 30-1))) H):=by(
refine S.aDD.F.ok0 qBP λz A U s H vs Q E I h=>?_
obtain⟨v,rfl,D,k⟩:=h
refine⟨_,(qE (qM (qZ (jV T S).mono I rfl T.iG T.iE S.iQ.b .nil qK (qA (pv 0) (qA qC (qA (qL uA (qL qF1 qC qC) qC) qD)))))),?_⟩
exact⟨_,rfl,iI ⟨⟨by decide,by decide,by decide⟩,iI ⟨v,_,_,rfl,D,k⟩⟩⟩)
noncomputable def hold(q:QM)(s:Int):Bool:=decide (s∈hdN q.V)
theorem q3W{s:Int}:∀{ns:List Int},inV (.int s) (ns.map V.int)=decide (s∈ns)
| []=>rfl
|n::r=>by
 have ih:=q3W (s:=s) (ns:=r);unfold inV at ih ⊢;rw[mR,cA,ih];by_cases e:n=s
 .subst e;simp[eqV]
 have e':¬s=n:=λz=>e z.symm;simp[eqV,e,e']
theorem qE5{ns:List Int}:(ns.map V.int).all q0K=true:=by(
rw[dU]
intro v z
obtain⟨n,_,rfl⟩:=kP.mp z
rfl)
theorem HeldIs.hold{ns:List Int}(h:HeldIs q ns)(s:Int):decide (s∈ns)=hold q s:=by(
unfold W1.hold
by_cases z:s∈ns
.rw[hG z,hG (h.pm.mem_iff.mp z)]
rw[hX z,hX (λy=>z (h.pm.mem_iff.mpr y))])
inductive spSh(t:Adr)(vs:List V)(H:Hp)(Q:VK)(E:XK):Prop
|mk:∀x r2 r4 r5 m q,∀s sr:Int,vs=[.ref x.s,.int s]->StAt t H x r2 (.int sr) r4 r5 m q->Fit m q->(hdN q.V).length<64->(∀H',Same H H'->if hold q s=false/\sr<=((hdN q.V).length:Int)then False else Q .non H')->spSh t vs H Q E
theorem q3G(T:tXx)(S:tFf):S.oW.Ok0 P w mg base 3 (spSh t):=by(
refine S.oW.F.ok0 zH λU A _ s H vs Q E O h=>?_
obtain⟨x,r2,r4,r5,m,q,s,sr,rfl,D,Z,J,k⟩:=h
refine⟨_,(qB (qU (i:=2) zH.nd (jB (pv 0) T.fY T.aBK (q18 T S).mono O S.t8.b .nil qK)) (qE (jG (PW.pt (q2G (qP q4W (pv 1) (pv 2) rfl) (q0H (qP qD6 (jE jJ (by rfl) T.aA3 g5 (qA (pv 2) qD)) (qJ (qJ (pv 0) rfl) rfl) (qQ _))))) (qE jN) qS))),?_⟩
try dsimp-beta-proj-iota-zeta-eta only[wishK,cxK]
refine(iV rfl (iM D.o rfl ⟨x,r2,.int sr,r4,r5,m,q,rfl,D,Z,J,λl ns H1 N I n1 h1=>?_⟩))
refine⟨_,rfl,_,rfl,?_⟩
refine⟨l,_,rfl,.inl (SqL.of h1),rfl,qE5,_,rfl,?_⟩
have kk:=k H1 I
have e:inV (.int s) (ns.map V.int)=hold q s:=by rw[q3W];exact N.hold s
rw[e]
cases z:hold q s with
|true=>rw[z,kE (λy=>by cases y.1)]at kk;exact iteF kk
|false=>
 refine iteT ?_;refine⟨_,rfl,l,_,rfl,.inl (SqL.of h1),iV rfl (iF (D.same I).o T.fY T.f8 rfl (iF (D.same I).te T.iC T.aBA rfl (iI ⟨_,rfl,?_⟩)))⟩;rw[hU,N.pm.length_eq];by_cases y:sr<=((hdN q.V).length:Int)
 .rw[hG y];rw[kL ⟨z,y⟩]at kk;exact kk.elim
 rw[hX y];rw[kE (λw=>y w.2)]at kk;exact iteF kk)
inductive spRs(t:Adr)(vs:List V)(H:Hp)(Q:VK)(E_:XK):Prop
|mk:∀x r2 r3 r5 m q,∀ie:Int,vs=[.ref x.s]->StAt t H x r2 r3 (.int ie) r5 m q->Q (.int (1+ie)) H->spRs t vs H Q E_
theorem q1N(T:tXx)(S:tFf):S.tG.Ok0 P w mg base 1 (spRs t):=by(
refine S.tG.F.ok0 q5U λD A U s H J Q E I h=>?_
obtain⟨x,r2,r3,r5,m,q,N,rfl,z,k⟩:=h
refine⟨_,(qE (qM (qL jU qC (qJ (qJ (pv 0) rfl) rfl)))),?_⟩
exact(iV rfl (iF z.o T.fY T.f8 rfl (iF z.te T.iC T.aAQ rfl (iI k)))))
inductive spRd(t:Adr)(vs:List V)(H:Hp)(Q:VK)(E_:XK):Prop
|mk:∀x r2 r3 r5 m q,∀ie:Int,vs=[.ref x.s]->StAt t H x r2 r3 (.int ie) r5 m q->Fit m q->(∀l H',FreeIs q.B m.br m.cl q.fi l->Keep [t.fW] H H'->TbF t H'->Q (.bl (rdy ie l (jW q.B q.P m.br q.fi))) H')->spRd t vs H Q E_
theorem q7Z(T:tXx)(S:tFf)(B:BmIn base mg):S.aBG.Ok0 P w mg base 9 (spRd t):=by(
refine S.aBG.F.ok0 q38 λab A _ s H vs Q E N h=>?_
obtain⟨x,r2,r3,r5,m,q,O,rfl,U,ft,k⟩:=h
refine⟨_,(qB (qU (i:=1) q38.nd (qL uA (jE jJ (by rfl) T.aA3 g5 (qA (jB (pv 0) T.fY T.aBN (q16 T S B).mono N S.aAV .nil qK) qD)) (jB (pv 0) T.fY T.aA7 (q1N T S).mono N S.tG.b .nil qK))) (qE (qM (qJG (yT qD5 (pv 1) qC (qQ _)) (zZ (q0P (yT yO (pv 1) qC (qQ _)) (zZ (yT q3M (jB (pv 0) T.fY T.aBL (q17 T S).mono N S.tZ.b .nil qK) u8 (qQ _))))))))),?_⟩
try dsimp-beta-proj-iota-zeta-eta only[wishK,cxK]
refine(iV rfl (iM U.o rfl ⟨x,r2,r3,_,r5,m,q,rfl,U,ft,λl p H1 hl np Z I h1=>?_⟩))
have D:=U.kT Z I
refine⟨p,_,rfl,.inl (SqL.of h1),iV rfl (iM D.o rfl ⟨x,r2,r3,r5,m,q,O,rfl,D,_,_,rfl,rfl,?_⟩)⟩
refine⟨_,rfl,_,_,rfl,rfl,_,rfl,?_⟩
have kk:=λH' s'=>k l H' hl (Z.trans (Keep.same s')) (I.same s')
unfold rdy at kk
rw[hU]
by_cases z:(l.length:Int)-(1+O)>0
.rw[hG z];refine iteT ?_;have:=kk H1 (Same.refl H1);rw[hG z]at this;exact this
rw[hX z]
refine iteF ?_
rw[hX z]at kk
refine⟨_,rfl,rfl,_,rfl,?_⟩
rw[yL]
by_cases J:(l.length:Int)-(1+O)=0
.rw[hG J];rw[hG J]at kk;refine iteT ?_;refine(iV rfl (iM D.o rfl ⟨x,r2,r3,_,r5,m,q,rfl,D,ft,λH2 s2=>⟨rfl,?_⟩⟩));have:=kk H2 s2;cases hp:jW q.B q.P m.br q.fi with
 |none=>rw[hp]at this;exact this
 |some b=>rw[hp]at this;exact this
rw[hX J]
rw[hX J]at kk
refine iteF ?_
exact kk H1 (Same.refl H1))
inductive spTy(t:Adr)(vs:List V)(H:Hp)(Q:VK)(E_:XK):Prop
|mk:∀x r2 r3 r4 r5 m q,∀b:Nat,vs=[.ref x.s,.int (b:Int)]->StAt t H x r2 r3 r4 r5 m q->Fit m q->b<q.B->NewO H (.tup (tyL m q b)) Q->spTy t vs H Q E_
theorem q80(T:tXx)(S:tFf):S.aBC.Ok0 P w mg base 5 (spTy t):=by(
refine S.aBC.F.ok0 q7P λN A Z s H O Q E J h=>?_
obtain⟨x,r2,r3,r4,r5,m,q,b,rfl,z,D,I,k⟩:=h
have U:=D.eB
refine⟨_,(qE (qM (yB (qA (pv 1) (qA (qO jD (qJ (qJ (pv 0) rfl) rfl) (pv 1) (λZ Z=>rfl)) (qA (qY (qJ (pv 0) rfl) T.fZ T.i8 (uH T S).mono J S.iY.b .nil qK (qA (pv 1) qD)) (qA (qO jD (qJ (qJ (pv 0) rfl) rfl) (pv 1) (λZ Z=>rfl)) qD))))))),?_⟩
refine⟨_,rfl,iV rfl (iF z.o T.fY T.iA rfl (iF z.bk.o T.f9 T.tQ rfl ⟨_,rfl,iL (k:=_) (v:=_) (SqL.of z.bk.l) (atV (by rw[D.oq.ll];exact I)) ?_⟩))⟩
refine(iV rfl (iF z.o T.fY T.iR rfl (iM z.ch.ins rfl ⟨_,rfl,x.c,x.a,m,_,rfl,z.ch,D.ok,by lia,by lia,?_⟩)))
rw[mC]
refine(iV rfl (iF z.o T.fY T.iA rfl (iF z.bk.o T.f9 T.tO rfl ⟨_,rfl,iL (k:=_) (v:=_) (SqL.of z.bk.b) (atV (by rw[D.oq.lo];exact I)) ?_⟩)))
exact⟨sz4,k⟩)
inductive spSc(t:Adr)(vs:List V)(H:Hp)(Q:VK)(E_:XK):Prop
|mk:∀x r2 r3 r5 m q,∀ie:Int,vs=[.ref x.s]->StAt t H x r2 r3 (.int ie) r5 m q->Fit m q->(∀l H',FreeIs q.B m.br m.cl q.fi l->Keep [t.fW] H H'->TbF t H'->Q (.int (spcN ie l q.P q.fi (jW q.B q.P m.br q.fi))) H')->spSc t vs H Q E_
theorem q81(T:tXx)(S:tFf)(B:BmIn base mg):S.aBI.Ok0 P w mg base 9 (spSc t):=by(
refine S.aBI.F.ok0 q3A λad A _ s H vs Q E U h=>?_
obtain⟨x,r2,r3,r5,m,q,O,rfl,Z,N,k⟩:=h
have eP:=N.eP
refine⟨_,(qB (jG (qP qD6 (jE jJ (by rfl) T.aA3 g5 (qA (jB (pv 0) T.fY T.aBN (q16 T S B).mono U S.aAV .nil qK) qD)) (jB (pv 0) T.fY T.aA7 (q1N T S).mono U S.tG.b .nil qK) (qQ _)) (qE (qM (qJ (qJ (pv 0) rfl) rfl))) qS) (qB (qU (i:=1) q3A.nd (jB (pv 0) T.fY T.aBL (q17 T S).mono U S.tZ.b .nil qK)) (qB (jG (qP q9L (pv 1) u8 (qQ _)) (qE (qM qC)) qS) (qE (qM (qL uA (qJ (qJ (pv 0) rfl) rfl) (qO jD (qJ (qJ (pv 0) rfl) rfl) (pv 1) (λz z=>rfl)))))))),?_⟩
try dsimp-beta-proj-iota-zeta-eta only[wishK,cxK]
refine(iV rfl (iM Z.o rfl ⟨x,r2,r3,_,r5,m,q,rfl,Z,N,λl p H1 hl np k1 J h1=>?_⟩))
have D:=Z.kT k1 J
refine⟨p,_,rfl,.inl (SqL.of h1),iV rfl (iM D.o rfl ⟨x,r2,r3,r5,m,q,O,rfl,D,_,_,rfl,rfl,_,rfl,?_⟩)⟩
have kk:=λH' s'=>k l H' hl (k1.trans (Keep.same s')) (J.same s')
unfold spcN at kk
rw[hU]
by_cases z:1+O<=(l.length:Int)
.rw[hG (show(l.length:Int)>=1+O from z)];refine iteT ?_;refine(iV rfl (iF D.o T.fY T.f8 rfl (iF D.te T.iC T.iB rfl ?_)));have:=kk H1 (Same.refl H1);rw[kL z,<-eP]at this;exact this
rw[hX (show ¬(l.length:Int)>=1+O from z)]
refine iteF ?_
refine(iV rfl (iM D.o rfl ⟨x,r2,r3,_,r5,m,q,rfl,D,N,λH2 s2=>?_⟩))
have kk:=kk H2 s2
rw[kE z]at kk
cases hp:jW q.B q.P m.br q.fi with
|none=>rw[hp]at kk;exact⟨_,rfl,rfl,_,rfl,iteT kk⟩
|some b=>rw[hp]at kk;have I:=D.same s2;refine⟨_,rfl,rfl,_,rfl,iteF ?_⟩;refine(iV rfl (iF I.o T.fY T.f8 rfl (iF I.te T.iC T.iB rfl (iV rfl (iF I.o T.fY T.iA rfl (iF I.bk.o T.f9 T.iD rfl ⟨_,rfl,iL (k:=_) (v:=_) (SqL.of I.bk.f) (atV (by rw[N.oq.lf];exact(q03 hp).1)) (iI ?_)⟩))))));rw[eP];exact kk)
abbrev Tys(H:Hp)(m:CM)(q:QM):List V->List Nat->Prop:=Paired λv b=>∃p,v=.ref p/\H p=some (.tup (tyL m q b))
theorem qBX{F:List Addr}{m:CM}(k:Keep F H H')(r:Tys H m q rs L):Tys H' m q rs L:=Paired.mapP r λv d ⟨p,e,h⟩=>⟨p,e,k.tp _ _ h⟩
inductive spFo(t:Adr)(vs:List V)(H:Hp)(Q:VK)(E_:XK):Prop
|mk:∀x r2 r3 r5 m q,∀ie:Int,vs=[.ref x.s]->StAt t H x r2 r3 (.int ie) r5 m q->Fit m q->(∀l p rs H',FreeIs q.B m.br m.cl q.fi l->H p=none->Keep [t.fW] H H'->TbF t H'->H' p=some (.lst rs)->Tys H' m q rs ((yK q.B q.P m.br q.fi).filter λb=>decide (q.lv.getD b 0<=spcN ie l q.P q.fi (jW q.B q.P m.br q.fi)))->Q (.ref p) H')->spFo t vs H Q E_
theorem vC(T:tXx)(S:tFf)(B:BmIn base mg):S.iX.Ok0 P w mg base 10 (spFo t):=by(
refine S.iX.F.ok0 uE λbm A _ s H vs Q E hr h=>?_
obtain⟨x,r2,r3,r5,m,q,ie,rfl,hs,ft,k⟩:=h
have b2:=ft.oq.b2
have eP:=ft.eP
have sz:(16:Nat)<sizeLine:=by decide
have fl:(yK q.B q.P m.br q.fi).length<=16:=kQ (kY _ _) (kQ (q2O (B:=q.B) (br:=m.br)) b2)
refine⟨_,(qB (qU (i:=1) uE.nd (jB (pv 0) T.fY T.aD7 (q81 T S B).mono hr S.aBI.b .nil qK)) (qB (vH (i:=2) ["self","block"] [0] rfl (jM (jB (pv 0) T.fY T.aAB (zA T S).mono hr S.tI.b .nil qK)) (λz z z z z=>(qT (i:=1) (show List.Nodup (["self","block"]:List Str)from by decide))) (λz z z z z=>(yV (qP yO (qO (q78 (K:=K) rfl) (vI (K:=K) rfl (vI (K:=K) rfl (pv 0) rfl) rfl) (pv 1) (λz z=>rfl)) (vI (K:=K) rfl (vI (K:=K) rfl (pv 0) rfl) rfl) (qQ _)))) (λz z z z z=>(pv 1)) (by kernel_rfl) (jI (by decide)) uE.nd rfl (Or.inl rfl)) (qB (vH (i:=3) ["self","block"] [0] rfl (jM (pv 2)) (λz z z z z=>(qT (i:=1) (show List.Nodup (["self","block"]:List Str)from by decide))) (λz z z z z=>uR) (λz z z z z=>(qY (pv 0) T.fY T.aDS (q80 T S).mono hr S.aBC.b .nil qK (qA (pv 1) qD))) (by kernel_rfl) (jI (by decide)) uE.nd rfl (Or.inl rfl)) (qE (qM (yC ["space","tally"] [1] rfl (jM (pv 3)) (λz z z z z=>(qT (i:=1) (show List.Nodup (["space","tally"]:List Str)from by decide))) (λz z z z z=>(yV (qP qF5 (qO (yY (K:=K) rfl) (pv 1) qC (λz z=>rfl)) (pv 0) (qQ _)))) (λz z z z z=>(pv 1)) (by kernel_rfl) (jI (by decide)))))))),?_⟩
try dsimp-beta-proj-iota-zeta-eta only[wishK,cxK]
refine(iV rfl (iM hs.o rfl ⟨x,r2,r3,r5,m,q,ie,rfl,hs,ft,λl H1 hl k1 al=>?_⟩))
have U:=hs.kT k1 al
have kk:=λp rs H' np k'=>k l p rs H' hl np (k1.trans k')
generalize spcN ie l q.P q.fi (jW q.B q.P m.br q.fi)=sp at kk
refine(iV rfl (iM U.o rfl ⟨x,r2,r3,_,r5,m,q,rfl,U,ft,λp H2 n2 s2 h2=>?_⟩))
refine⟨p,rfl,⟨_,SqL.of h2⟩,λD H3 nD s3 hD=>?_⟩
refine yW (K:=K) (xs:=(uU q.B m.br).map vn) (D:=D) (λi H3=>Same H2 H3/\H3 D=some (.lst ((((uU q.B m.br).take i).filter λb=>decide (q.fi.getD b 0=(q.P:Int))).map vn))) ⟨s3,hD⟩ (λi H3 J=>SqL.of (J.1 _ _ h2)) (λi y H3 hy J=>?_) (λH3 J=>?_)
.obtain⟨sm,hd⟩:=J;have h3:=(U.same s2).same sm;rw[mF]at hy;obtain⟨b,hb,rfl⟩:=mK.mp hy;have hi:=(kC.mp hb).1;have mb:=q1F.mp (gL hb);refine(iV rfl (iF h3.o T.fY T.iA rfl (iF h3.bk.o T.f9 T.iD rfl ⟨_,rfl,iL (k:=_) (v:=_) (SqL.of h3.bk.f) (atV (by rw[ft.oq.lf];exact mb.1)) (iV rfl (iF h3.o T.fY T.f8 rfl (iF h3.te T.iC T.iB rfl ⟨rfl,_,rfl,?_⟩)))⟩)));rw[yL,eP,<-kW hi,m7,mE];obtain rfl:(uU q.B m.br)[i]=b:=(kC.mp hb).2;by_cases z:q.fi.getD (uU q.B m.br)[i] 0=(q.P:Int)
 .rw[hG z];refine iteT ?_;refine⟨_,rfl,_,hd,?_,λb o e=>?_,?_⟩
  .rw[hU];have l1:(((uU q.B m.br).take i).filter λb=>decide (q.fi.getD b 0=(q.P:Int))).length<=q.B:=kQ (kY _ _) (kQ (by rw[gF];lia) (q2O (B:=q.B) (br:=m.br)));lia
  .rw[qF (qG e nD)];exact sm _ _ e
  rw[qI,mU,hG z];rfl
 rw[hX z];refine iteF ⟨sm,?_⟩;rw[hd,mU,hX z];simp
obtain⟨sm,hd⟩:=J
rw[hU,mY]at hd
have hd:H3 D=some (.lst ((yK q.B q.P m.br q.fi).map vn)):=hd
have ao:=s2.trans sm
have h3:=U.same ao
refine⟨_,rfl,D,rfl,⟨_,SqL.of hd⟩,λD2 H4 a1 s4 a4=>?_⟩
refine q79 (K:=K) (xs:=(yK q.B q.P m.br q.fi).map vn) (D:=D2) (λi H5=>∃rs,Same H3 H5/\H5 D2=some (.lst rs)/\Tys H5 m q rs ((yK q.B q.P m.br q.fi).take i)) ⟨_,s4,a4,.nil⟩ (λi H5 J=>by obtain⟨rs,N,_⟩:=J;exact SqL.of (N _ _ hd)) (λi y H5 hy J=>?_) (λH5 J=>?_)
.obtain⟨rs,N,aa,ty⟩:=J;have h5:=h3.same N;rw[mF]at hy;obtain⟨b,hb,rfl⟩:=mK.mp hy;have hi:=(kC.mp hb).1;have mb:=q1F.mp (mQ.mp (gL hb)).1;obtain rfl:(yK q.B q.P m.br q.fi)[i]=b:=(kC.mp hb).2;have ln:=ty.len;rw[gF]at ln;refine(iV rfl (iM h5.o rfl ⟨_,rfl,x,r2,r3,_,r5,m,q,_,rfl,h5,ft,mb.1,λtp H6 n6 s6 h6=>⟨_,s6 _ _ aa,by lia,?_⟩⟩));have ne:∀b o,H6 b=some (.tup o)->b≠D2:=λb o e z=>by rw[z,s6 _ _ aa]at e;cases e
 refine⟨_,λb o e=>?_,qI,?_⟩
 .rw[qF (qG e a1)];exact s6 _ _ (N _ _ e)
 rw[<-kW hi];refine L2.Paired.snoc (Paired.mapP ty λv d ⟨p,e,h⟩=>⟨p,e,?_⟩) ⟨tp,rfl,?_⟩
 .rw[qF (ne _ _ (s6 _ _ h))];exact s6 _ _ h
 rw[qF (ne _ _ h6)];exact h6
obtain⟨rs,N,aa,ty⟩:=J
rw[hU,mY]at ty
have ac:=ao.trans N
have h5:=U.same ac
refine⟨_,rfl,D2,rfl,⟨_,SqL.of aa⟩,λD3 H6 ae s6 a0=>?_⟩
refine yW (K:=K) (xs:=rs) (D:=D3) (λi H7=>∃O,Same H5 H7/\H7 D3=some (.lst O)/\O.length<=i/\Tys H5 m q O (((yK q.B q.P m.br q.fi).take i).filter λb=>decide (q.lv.getD b 0<=sp))) ⟨_,s6,a0,kO _,.nil⟩ (λi H7 J=>by obtain⟨_,I,_⟩:=J;exact SqL.of (I _ _ aa)) (λi y H7 hy J=>?_) (λH7 J=>?_)
.obtain⟨O,I,ad,ln,Z⟩:=J;obtain⟨b,hb,tp,rfl,as⟩:=Paired.at ty hy;have hi:=(kC.mp hb).1;obtain rfl:(yK q.B q.P m.br q.fi)[i]=b:=(kC.mp hb).2;refine⟨_,rfl,iT (k:=_) (v:=_) (SqT.of (I _ _ as)) rfl ⟨_,rfl,iI ⟨_,rfl,?_⟩⟩⟩;have bd:=ty.len;have bn:=(kC.mp hy).1;have e1:((yK q.B q.P m.br q.fi).take (i+1)).filter (λb=>decide (q.lv.getD b 0<=sp))=((yK q.B q.P m.br q.fi).take i).filter (λb=>decide (q.lv.getD b 0<=sp))++(if q.lv.getD (yK q.B q.P m.br q.fi)[i] 0<=sp then[(yK q.B q.P m.br q.fi)[i]]else[]):=by
  rw[<-kW hi,m7,mU];by_cases z:q.lv.getD (yK q.B q.P m.br q.fi)[i] 0<=sp
  .rw[hG z,kL z];rfl
  rw[hX z,kE z];rfl
 rw[e1];by_cases z:q.lv.getD (yK q.B q.P m.br q.fi)[i] 0<=sp
 .rw[hG z,kL z];refine iteT ?_;refine⟨_,rfl,_,ad,by lia,_,λb o e=>?_,qI,?_,L2.Paired.snoc Z ⟨tp,rfl,as⟩⟩
  .rw[qF (qG e ae)];exact I _ _ e
  rw[kU];exact rV ln 1
 rw[hX z,kE z,gN];exact iteF ⟨_,I,ad,by lia,Z⟩
obtain⟨O,I,ad,ln,Z⟩:=J
rw[ty.len,mY]at Z
have ar:=ac.trans I
refine kk D3 O H7 ?_ (Keep.same ar) (al.same ar) ad (qBX (Keep.same (F:=[]) I) Z)
refine k1.none (λz=>?_) (Same.free ac ae)
obtain⟨bg,a6,_⟩:=al.same ac
rw[kD.mp z,a6]at ae
cases ae)
theorem qBY{L:List Nat}{p:Nat->Bool}{i:Nat}(hi:i<L.length):(L.take (i+1)).filter p=(L.take i).filter p++(if p L[i]=true then[L[i]]else[]):=by rw[<-kW hi,m7,mU];rfl
inductive spOp(t:Adr)(vs:List V)(H:Hp)(Q:VK)(E_:XK):Prop
|mk:∀x r2 r3 r5 m q,∀ie:Int,vs=[.ref x.s]->StAt t H x r2 r3 (.int ie) r5 m q->Fit m q->(∀l p rs H',FreeIs q.B m.br m.cl q.fi l->H p=none->Keep [t.fW] H H'->TbF t H'->H' p=some (.lst rs)->Tys H' m q rs (optN ie m q l)->Q (.ref p) H')->spOp t vs H Q E_
theorem q1O(T:tXx)(S:tFf)(B:BmIn base mg):S.i6.Ok0 P w mg base 11 (spOp t):=by(
refine S.i6.F.ok0 q1K λa2 A _ s H vs Q E hr h=>?_
obtain⟨x,r2,r3,r5,m,q,ie,rfl,hs,ft,k⟩:=h
have b2:=ft.oq.b2
have eP:=ft.eP
have sz:(16:Nat)<sizeLine:=by decide
have fl:(yK q.B q.P m.br q.fi).length<=16:=kQ (kY _ _) (kQ (q2O (B:=q.B) (br:=m.br)) b2)
refine⟨_,(qE (qM (yC ["self","tally"] [0] rfl (jM (jB (pv 0) T.fY T.o9 (vC T S B).mono hr S.iX.b .nil qK)) (λz z z z z=>(qT (i:=1) (show List.Nodup (["self","tally"]:List Str)from by decide))) (λz z z z z=>(yV (qP q0J (qO (yY (K:=K) rfl) (pv 1) qC (λz z=>rfl)) (vI (K:=K) rfl (vI (K:=K) rfl (pv 0) rfl) rfl) (qQ _)))) (λz z z z z=>(pv 1)) (by kernel_rfl) (jI (by decide))))),?_⟩
try dsimp-beta-proj-iota-zeta-eta only[wishK,cxK]
refine(iV rfl (iM hs.o rfl ⟨x,r2,r3,r5,m,q,ie,rfl,hs,ft,λl p0 rs H5 hl np k1 Z ad ty=>?_⟩))
have h5:=hs.kT k1 Z
have kk:=λp rs H' np=>k l p rs H' hl np
unfold optN at kk
have al:=kQ (kY (λb=>decide (q.lv.getD b 0<=spcN ie l q.P q.fi (jW q.B q.P m.br q.fi))) _) fl
generalize (yK q.B q.P m.br q.fi).filter (λb=>decide (q.lv.getD b 0<=spcN ie l q.P q.fi (jW q.B q.P m.br q.fi)))=L at kk ty al
refine⟨p0,rfl,⟨_,SqL.of ad⟩,λD3 H6 U s6 af=>?_⟩
refine yW (K:=K) (xs:=rs) (D:=D3) (λi H7=>∃J,Same H5 H7/\H7 D3=some (.lst J)/\J.length<=i/\Tys H5 m q J ((L.take i).filter λb=>decide (q.lv.getD b 0<(q.P:Int)))) ⟨_,s6,af,kO _,.nil⟩ (λi H7 hp=>by obtain⟨_,I,_⟩:=hp;exact SqL.of (I _ _ ad)) (λi y H7 hy hp=>?_) (λH7 hp=>?_)
.obtain⟨J,I,O,ln,N⟩:=hp;obtain⟨b,hb,tp,rfl,ab⟩:=Paired.at ty hy;have hi:=(kC.mp hb).1;obtain rfl:L[i]=b:=(kC.mp hb).2;have h7:=h5.same I;refine⟨_,rfl,iT (k:=_) (v:=_) (SqT.of (I _ _ ab)) rfl (iV rfl (iF h7.o T.fY T.f8 rfl (iF h7.te T.iC T.iB rfl (iI ⟨_,rfl,?_⟩))))⟩;rw[eP,qBY hi];by_cases z:q.lv.getD L[i] 0<(q.P:Int)
 .rw[hG z,kL rfl];refine iteT ?_;refine⟨_,rfl,_,O,by lia,_,λb o e=>?_,qI,?_,L2.Paired.snoc N ⟨tp,rfl,ab⟩⟩
  .rw[qF (qG e U)];exact I _ _ e
  rw[kU];exact rV ln 1
 rw[hX z,kE (by decide),gN];exact iteF ⟨_,I,O,by lia,N⟩
obtain⟨J,I,O,ln,N⟩:=hp
rw[ty.len,mY]at N
refine kk D3 J H7 ?_ (k1.trans (Keep.same I)) (Z.same I) O (qBX (Keep.same (F:=[]) I) N)
refine k1.none (λz=>?_) U
obtain⟨ay,ak,_⟩:=Z
rw[kD.mp z,ak]at U
cases U)
theorem _root_.L2.ChipAt.has{c:Addr}{a:CA}{m:CM}(h:ChipAt C H c a m){b:Addr}(hb:b∈a.li::foot c a):∃o,H b=some o/\(b≠c->∀C d f,o≠ .ins C d f):=by(
obtain⟨rs,D,_⟩:=h.rc
have hb:b=a.li\/b=c\/b=a.bo\/b=a.cl\/b=a.dc\/b=a.br\/b=a.rc:=by simpa[foot]using hb
rcases hb with rfl|rfl|rfl|rfl|rfl|rfl|rfl
.exact⟨_,h.li,λU U U U z=>by cases z⟩
.exact⟨_,h.ins,λn=>absurd rfl n⟩
.exact⟨_,h.bo,λU U U U z=>by cases z⟩
.exact⟨_,h.cl,λU U U U z=>by cases z⟩
.exact⟨_,h.dc,λU U U U z=>by cases z⟩
.exact⟨_,h.br,λU U U U z=>by cases z⟩
exact⟨_,D,λU U U U z=>by cases z⟩)
theorem StAt.off{x:Sto}{m:CM}(h:StAt t H x r2 r3 r4 r5 m q){p:Addr}(n:H p=none):p∉t.fW::sf x:=λz=>by(
obtain⟨rs,er,_⟩:=h.ch.rc
obtain⟨ps,hT,_⟩:=h.tb
have z:=by simpa[sf,bf,foot]using z
rcases z with rfl|rfl|rfl|rfl|rfl|rfl|rfl|rfl|rfl|rfl|rfl|rfl
.lia
.rw[h.ch.ins]at n;lia
.rw[h.ch.bo]at n;lia
.rw[h.ch.cl]at n;lia
.rw[h.ch.dc]at n;lia
.rw[h.ch.br]at n;cases n
.lia
.rw[h.bk.o]at n;cases n
.rw[h.bk.w]at n;lia
.rw[h.bk.l]at n;lia
.rw[h.bk.f]at n;lia
rw[h.bk.b]at n;cases n)
inductive spPi(t:Adr)(vs:List V)(H:Hp)(Q:VK)(E:XK):Prop
|mk:∀x dx tm td c a r2 r3 r4 r5,∀m:CM,∀B P:Nat,vs=[.ref x,.ref c,.ref tm]->H x=some (.ins t.C_Even dx [])->H tm=some (.ins t.C_Terms td (teF (.int (B:Int)) (.int (P:Int)) r2 r3 r4 r5))->ChipAt t.C_Chip H c a m->m.bl=(B:Int)->m.pg=(P:Int)->B<=16->TbF t H->(∀k H',H' x=some (.ins t.C_Even dx [("chip",.ref c),("terms",.ref tm),("book",.ref k.bk)])->(∀ru pa H2,Keep [x] H' H2->H2 x=some (.ins t.C_Even dx [("chip",.ref c),("terms",.ref tm),("book",.ref k.bk),("rule",ru),("papers",pa)])->StAt t H2 ⟨x,dx,tm,td,c,a,k,ru,pa⟩ r2 r3 r4 r5 m (bk0 B P))->(∀b∈bf k,H b=none)->(∀b o,b≠x->H b=some o->H' b=some o)->Q .non H')->spPi t vs H Q E
theorem q8M(T:tXx)(S:tFf):S.aB3.Ok0 P w mg base 3 (spPi t):=by(
refine S.aB3.F.ok0 q8D λa5 A _ s H vs Q E hr h=>?_
obtain⟨x,dx,O,td,c,a,r2,r3,r4,r5,m,B,P',rfl,hx,D,hc,eB,eP,hB,tb,k⟩:=h
refine⟨_,(qB (jG (PW.pt (q43 (qP qB1 (qJ (pv 2) rfl) (qJ (pv 1) rfl) (qQ _)) (q49 (qP qB1 (qJ (pv 2) rfl) (qJ (pv 1) rfl) (qQ _))))) (qE jN) qS) (qB (jT (pv 0) (pv 1) rfl) (qB (jT (pv 0) (pv 2) rfl) (qE (jT (pv 0) (q4U T.aF7 (qAK T S).mono hr rfl T.aGB S.aCK.b .nil qK (qA (qJ (pv 1) rfl) (qA (qJ (pv 1) rfl) qD))) rfl))))),?_⟩
try dsimp-beta-proj-iota-zeta-eta only[wishK,cxK]
refine(iV rfl (iF D T.iC T.oG rfl (iV rfl (iF hc.ins T.fZ T.iJ rfl ⟨rfl,_,rfl,?_⟩))))
rw[show(!decide (V.int (B:Int)=V.int m.bl))=false by rw[eB];simp]
refine iteF ?_
refine(iV rfl (iF D T.iC T.iB rfl (iV rfl (iF hc.ins T.fZ T.iS rfl ⟨rfl,_,rfl,?_⟩))))
rw[show(!decide (V.int (P':Int)=V.int m.pg))=false by rw[eP];simp]
refine iteF ?_
refine⟨_,rfl,_,rfl,x,_,dx,_,rfl,hx,T.fY,T.iR,by decide,?_⟩
refine⟨_,rfl,_,rfl,x,_,dx,_,rfl,qI,T.fY,T.f8,by show 1<1000;decide,?_⟩
rw[q6G]
have tx:O≠x:=jZ D hx (by intro z;injection z with z1 z2 z3;unfold teF at z3;cases z3)
have cx:c≠x:=jZ hc.ins hx (by intro z;injection z with z1 z2 z3;unfold chF at z3;cases z3)
have k1:∀b o,b≠x->H b=some o->(upd H x (.ins t.C_Even dx [("chip",.ref c),("terms",.ref O)])) b=some o:=λb o N e=>by rw[qF N];exact e
have o1:(upd H x (.ins t.C_Even dx [("chip",.ref c),("terms",.ref O)])) x=some (.ins t.C_Even dx [("chip",.ref c),("terms",.ref O)]):=qI
have f1:∀b,(upd H x (.ins t.C_Even dx [("chip",.ref c),("terms",.ref O)])) b=none->H b=none:=λb e=>by
 by_cases z:b=x
 .rw[z,qI]at e;cases e
 rw[qF z]at e;exact e
rw[show putF "terms" (.ref O) (putF "chip" (.ref c) ([]:List (Str×V)))=([("chip",V.ref c),("terms",V.ref O)]:List (Str×V))from rfl]
generalize upd H x (.ins t.C_Even dx [("chip",.ref c),("terms",.ref O)])=H1 at k1 o1 f1 ⊢
have ag:=k1 _ _ cx hc.ins
refine(iV rfl (iF ag T.fZ T.iJ rfl (iV rfl (iF ag T.fZ T.iS rfl (λk' kd nk as nn=>?_)))))
rw[eB,eP]
refine⟨k',kd,B,P',rfl,hB,qI,λZ H3 e1 e2 I ds fr up=>⟨rfl,?_⟩⟩
have s0:Same H1 (upd (upd H1 kd (.own k')) k' (.ins t.C_Book kd [])):=q1Z nk as
have ad:∀b o,H1 b=some o->H3 b=some o:=λb o e=>up b o (qG e nk) (s0 b o e)
refine⟨_,rfl,x,_,dx,_,rfl,ad _ _ o1,T.fY,T.iA,by show 2<1000;decide,?_⟩
have aw:=ad _ _ o1
have kx:Z.bk≠x:=by rw[e1];exact(qG o1 nk).symm
have lH:∀b∈bf Z,H b=none:=λb J=>by
 have J:b=Z.bk\/b∈[Z.wv,Z.lv,Z.fi,Z.bo]:=by simpa[bf]using J
 rcases J with rfl|J
 .rw[e1];exact f1 _ nk
 exact f1 _ (Same.free s0 (fr b J))
have ah:∀b o,b≠x->H3 b=some o->(upd H3 x (.ins t.C_Even dx (putF "book" (.ref k') [("chip",V.ref c),("terms",V.ref O)]))) b=some o:=λb o N e=>by rw[qF N];exact e
have af:∀b o,b≠x->H b=some o->(upd H3 x (.ins t.C_Even dx (putF "book" (.ref k') [("chip",V.ref c),("terms",V.ref O)]))) b=some o:=λb o N e=>ah b o N (ad b o (k1 b o N e))
have nx:∀{b:Addr} {o:HO},H3 b=some o->(∀C d fs,o≠ .ins C d fs)->b≠x:=fun {b o} e n z=>by rw[z,aw]at e;exact n _ _ _ (mB e).symm
have ai:∀b∈a.li::foot c a,b≠x:=λb J z=>by
 obtain⟨o,e,no⟩:=hc.has J;by_cases y:b=c
 .exact cx (y.symm.trans z)
 rw[z,hx]at e;exact no y _ _ _ (mB e).symm
refine k Z _ (by rw[e1];exact qI) (λru pa H2 kk ar=>?_) lH af
have U:∀b o,b≠x->H3 b=some o->H2 b=some o:=λb o N e=>kk.k b o (by simpa using N) (ah b o N e)
have aa:∀b o,b≠x->H b=some o->H2 b=some o:=λb o N e=>kk.k b o (by simpa using N) (af b o N e)
have kK:Keep [x] H H2:=⟨λb o N e=>aa b o (λz=>N (by rw[z];simp)) e,λb xs e=>aa b _ (λz=>by rw[z,hx]at e;cases e) e⟩
refine⟨ar,?_,?_,?_,?_,ds,?_,?_⟩
.rw[eB,eP];exact aa _ _ tx D
.exact hc.keep kK (λb J z=>ai b J (kD.mp z))
.exact⟨U _ _ kx I.o,U _ _ (nx I.w (λU U U z=>by cases z)) I.w,U _ _ (nx I.l (λU U U z=>by cases z)) I.l,U _ _ (nx I.f (λU U U z=>by cases z)) I.f,U _ _ (nx I.b (λU U U z=>by cases z)) I.b⟩
.exact tb.gen λb o to e=>aa _ _ (uK to e hx q3V) e
.intro b J z;obtain⟨o,e,_⟩:=hc.has J;rw[lH b z]at e;cases e
intro b J z
have J:b=x\/b=O:=by simpa using J
have y0:b∈foot c a\/b∈bf Z:=by simpa[sf]using z
clear z
rcases y0 with z|z
.rcases J with rfl|rfl
 .exact ai _ (kB _ z) rfl
 obtain⟨o,e,no⟩:=hc.has (kB _ z);by_cases y:b=c
 .rw[y,hc.ins]at D;have D:=mB D;injection D with z1 z2 z3
  unfold chF teF at z3;have:=dL List.length z3;simp at this
 rw[D]at e;exact no y _ _ _ (mB e).symm
have n:=lH b z
rcases J with rfl|rfl
.rw[hx]at n;cases n
rw[D]at n;cases n)
inductive spSi(t:Adr)(vs:List V)(H:Hp)(Q:VK)(E:XK):Prop
|mk:∀x dx tm td c a r2 r3 r4 r5 ru,∀m:CM,∀B P:Nat,vs=[.ref x,.ref c,.ref tm,ru]->H x=some (.ins t.C_Even dx [])->H tm=some (.ins t.C_Terms td (teF (.int (B:Int)) (.int (P:Int)) r2 r3 r4 r5))->ChipAt t.C_Chip H c a m->m.bl=(B:Int)->m.pg=(P:Int)->B<=16->TbF t H->(∀k p H',StAt t H' ⟨x,dx,tm,td,c,a,k,ru,.ref p⟩ r2 r3 r4 r5 m (bk0 B P)->H' p=some (.lst [])->H p=none->(∀b∈bf k,H b=none)->p∉t.fW::sf ⟨x,dx,tm,td,c,a,k,ru,.ref p⟩->(∀b o,b≠x->H b=some o->H' b=some o)->Q .non H')->spSi t vs H Q E
theorem q8N(T:tXx)(S:tFf):S.aBZ.Ok0 P w mg base 4 (spSi t):=by(
refine S.aBZ.F.ok0 q8G λan A _ s H vs Q E hr h=>?_
obtain⟨x,dx,tm,td,c,a,r2,r3,r4,r5,U,m,B,P',rfl,hx,N,hc,eB,eP,hB,tb,k⟩:=h
refine⟨_,(qB (jA (qLQ T.aFU (q8M T S).mono hr rfl T.aFS S.aB3.b .nil qK (qA (pv 0) (qA (pv 1) (qA (pv 2) qD))))) (qB (jT (pv 0) (pv 3) rfl) (qE (jT (pv 0) (jS qD) rfl)))),?_⟩
refine⟨_,rfl,_,rfl,_,rfl,x,dx,tm,td,c,a,r2,r3,r4,r5,m,B,P',rfl,hx,N,hc,eB,eP,hB,tb,λka H1 D st fk up=>?_⟩
refine⟨_,rfl,_,rfl,x,_,dx,_,rfl,D,T.fY,T.oF,by show 3<1000;decide,?_⟩
refine⟨sz0,λp H2 np s2 h2=>?_⟩
have J:p≠x:=λz=>by rw[z,qI]at np;cases np
rw[qF J]at np
have I:=s2 _ _ qI
refine⟨_,rfl,x,_,dx,_,rfl,I,T.fY,T.i7,by show 4<1000;decide,?_⟩
have O:=st U .non _ (Keep.upd D (λU z=>by cases z) (by simp)) qI
have off:=O.off (p:=p) (by rw[qF J];exact np)
have kA:Keep [x] H1 (upd H2 x (.ins t.C_Even dx (putF "papers" (.ref p) (putF "rule" U [("chip",.ref c),("terms",.ref tm),("book",.ref ka.bk)])))):=((Keep.upd D (λU z=>by cases z) (by simp)).trans (Keep.same s2)).trans (Keep.upd I (λU z=>by cases z) (by simp))
refine k ka p _ (st U (.ref p) _ kA qI) (by rw[qF J];exact h2) ?_ fk off (λb o Z e=>kA.k b o (by simpa using Z) (up b o Z e))
cases e:H p with
|none=>rfl
|some o=>rw[up p o J e]at np;cases np)
inductive spEm(t:Adr)(vs:List V)(H:Hp)(Q:VK)(E_:XK):Prop
|mk:∀a,∀m:QM,∀b,vs=[.ref a.bk,.int ((b:Nat):Int)]->BkAt t H a m->m.Ok->Dst a->b<m.B->(∀H',BkAt t H' a (m.emptied b)->Keep [a.fi,a.bo] H H'->Q .non H')->spEm t vs H Q E_
theorem q6F(T:tXx)(S:tFf):S.aAY.Ok0 P w mg base 1 (spEm t):=by(
refine S.aAY.F.ok0 q67 λab A _ s H vs Q E hr h=>?_
obtain⟨a,m,b,rfl,D,ok,ds,Z,q⟩:=h
have N:a.bk≠a.fi:=jZ D.o D.f (by intro z;cases z)
have oo:a.bk≠a.bo:=jZ D.o D.b (by intro z;cases z)
have wf:a.wv≠a.fi:=jZ D.w D.f (by intro z;cases z)
have wb:a.wv≠a.bo:=jZ D.w D.b (by intro z;cases z)
have J:b<m.fi.length:=by rw[ok.lf];exact Z
have I:b<m.bo.length:=by rw[ok.lo];exact Z
refine⟨_,(qB (q1U qC (q2H (qJ (pv 0) rfl) (pv 1) u6)) (qE (q1U qC (q2H (qJ (pv 0) rfl) (pv 1) u6)))),?_⟩
refine(iV rfl (iF D.o T.f9 T.iD rfl ⟨_,rfl,a.fi,_,_,b,rfl,rfl,D.f,q2L (by rw[hU];exact J),?_⟩))
rw[setV]
have U:(upd H a.fi (.lst ((m.fi.set b 0).map V.int))) a.bo=some (.lst (m.bo.map V.int)):=by rw[qF ds.fb.symm];exact D.b
have O:∀o,H a.bk=some o->(upd H a.fi (.lst ((m.fi.set b 0).map V.int))) a.bk=some o:=λo e=>by rw[qF N];exact e
have o1:=O _ D.o
refine(iV rfl (iF o1 T.f9 T.tO rfl ⟨_,rfl,a.bo,_,_,b,rfl,rfl,U,q2L (by rw[hU];exact I),?_⟩))
rw[setV]
refine q _ ⟨?_,?_,?_,?_,?_⟩ (Keep.trans  (Keep.upd D.f (λU z=>by cases z) (by simp)) (Keep.upd U (λU z=>by cases z) (by simp)))
.rw[qF oo];exact o1
.rw[qF wb,qF wf];exact D.w
.rw[qF ds.lb,qF ds.lf];exact D.l
.rw[qF ds.fb];exact qI
exact qI)
noncomputable def lpK(P b:Nat)(V:Mp):List (List Int):=(V.filter λq=>decide (q.2 / (P:Int)=(b:Int))).map λq=>[q.2,q.1]
theorem qBZ{P b:Nat}{V:Mp}:lpK P b (V++[q])=if q.2 / (P:Int)=(b:Int)then lpK P b V++[[q.2,q.1]]else lpK P b V:=by(
unfold lpK
by_cases e:q.2 / (P)=(b)
.simp[e]
simp[e])
inductive spLp(t:Adr)(vs:List V)(H:Hp)(Q:VK)(E_:XK):Prop
|mk:∀a,∀m:QM,∀b,vs=[.ref a.bk,.int ((b:Nat):Int)]->BkAt t H a m->m.Ok->m.V.length<64->(∀l us rs H',Same H H'->H l=none->H' l=some (.lst us)->Paired (TupD H') us rs->rs.Perm (lpK m.P b m.V)->(rs.Pairwise λa b=>lx b a=false)->Q (.ref l) H')->spLp t vs H Q E_
theorem q4Q(T:tXx)(S:tFf):S.tM.Ok0 P w mg base 1 (spLp t):=by(
refine S.tM.F.ok0 q4L λa9 A _ s H vs Q E hr h=>?_
obtain⟨a,m,b,rfl,U,ok,lV,q⟩:=h
have hu:=q45 hr
have p1:=ok.p1
have p2:=ok.p2
have ob:a.bk≠a.wv:=jZ U.o U.w (by intro z;cases z)
refine⟨_,(qE (qM (jE q52 (by rfl) T.aCC (by kernel_rfl) (qA (q9U (yC ["self","block","name","page"] [0,1] rfl (qLB (qK8 cE lR PySem.F.type_dict_items qGD (qJ (pv 0) rfl))) (λz z z z z=>(qDP (K:=K) (n:=2) rfl rfl (yE (qT (i:=2) (show List.Nodup (["self","block","name","page"]:List Str)from by decide)) (yE (qT (i:=3) (show List.Nodup (["self","block","name","page"]:List Str)from by decide)) q1T)) rfl rfl)) (λz z z z z=>(yV (qP yO (qL uL (pv 3) (vI (K:=K) rfl (pv 0) rfl)) (pv 1) (qQ _)))) (λz z z z z=>(yB (qA (pv 3) (qA (pv 2) qD)))) (by kernel_rfl) (qDF (q4Y (by decide) (q4Y (by decide) qDE))))) qD)))),?_⟩
try dsimp-beta-proj-iota-zeta-eta only[wishK,cxK]
refine⟨a.wv,_,U.w,iV rfl (iF U.o T.f9 T.iZ rfl ⟨.inr (.inr (.inl ⟨rfl,.inl ⟨_,U.w⟩⟩)),a.wv,_,rfl,rfl,U.w,λv nv=>?_⟩)⟩
have sv:Same H (upd H v (q61 v a.wv)):=Same.upd nv
have vv:(upd H v (q61 v a.wv)) v=some (q61 v a.wv):=qI
generalize upd H v (q61 v a.wv)=H1 at sv vv ⊢
refine⟨v,a.wv,_,rfl,vv,sv _ _ U.w,λo D H2 nD s2 hD=>?_⟩
have kk:∀x u,x≠a.wv->H x=some u->H2 x=some u:=λx u nx e=>s2 _ _ (by rw[qF nx];exact sv _ _ e)
have fz:H2 a.wv=some (.frz o (.dK (dI m.V))):=s2 _ _ qI
have ar:H D=none:=by
 cases z:H D with
 |none=>rfl
 |some u=>
  by_cases y:D=a.wv
  .rw[y,qI]at nD;cases nD
  rw[qF y,sv _ _ z]at nD;cases nD
have Dw:D≠a.wv:=λz=>by rw[z,fz]at hD;cases hD
refine qIA (D:=D) (λi I=>I a.wv=some (.frz o (.dK (dI m.V)))/\(∀x u,x≠a.wv->H x=some u->I x=some u)/\∃J,I D=some (.lst J)/\Paired (TupD I) J (lpK m.P b (m.V.take i))) ⟨fz,kk,[],hD,.nil⟩ (λi I hp=>hp.1) (λi kv W I hk hp nW=>?_) (λI hp=>?_)
.obtain⟨N,k3,J,hd,pr⟩:=hp;have hi:i<m.V.length:=by have:=(kC.mp hk).1;rw[q7W]at this;exact this
 obtain rfl:((Sum.inl m.V[i].1:Key),V.int m.V[i].2)=kv:=by
  have e:(dI m.V)[i]?=some ((Sum.inl m.V[i].1:Key),V.int m.V[i].2):=by unfold dI;rw[mF,kF hi];rfl
  rw[e]at hk;exact mB hk
 have sW:Same I (upd I W (.tup [.int m.V[i].1,.int m.V[i].2])):=Same.upd nW;have hW:(upd I W (.tup [.int m.V[i].1,.int m.V[i].2])) W=some (.tup [.int m.V[i].1,.int m.V[i].2]):=qI;show gTup _ _ _ _ _ (upd I W (.tup [.int m.V[i].1,.int m.V[i].2])) _;generalize upd I W (.tup [.int m.V[i].1,.int m.V[i].2])=H4 at sW hW ⊢;refine⟨W,_,rfl,SqT.of hW,rfl,_,_,rfl,_,_,rfl,rfl,?_⟩;refine⟨_,rfl,iV rfl (iF (sW _ _ (k3 _ _ ob U.o)) T.f9 T.tH rfl (iI ⟨⟨by lia,by lia⟩,_,rfl,rfl,_,rfl,?_⟩))⟩;rw[yL];have tk:m.V.take (i+1)=m.V.take i++[m.V[i]]:=(kW hi).symm;by_cases e:m.V[i].2 / (m.P:Int)=(b:Int)
 .rw[hG e];refine iteT ?_;refine⟨_,rfl,_,rfl,sz2,λtp H5 n5 s5 h5=>?_⟩;have O:=sW.trans s5;have ab:=O _ _ hd;have lu:J.length<=64:=by
   have:=pr.len;have l2:(lpK m.P b (m.V.take i)).length<=(m.V.take i).length:=by unfold lpK;rw[hU];exact kY _ _
   rw[gF]at l2;lia
  refine⟨J,ab,(by exact dJ (m:=64) (by lia) (by decide)),?_,λx u nx e'=>?_,J++[.ref tp],qI,?_⟩
  .rw[qF Dw.symm];exact O _ _ N
  .rw[qF (qG e' ar)];exact O _ _ (k3 _ _ nx e')
  rw[tk,qBZ,kL e];exact L2.Paired.snoc (Paired.mapP (jH pr O) λx k z=>z.upd ab (λz q=>by cases q)) (TupD.upd ⟨tp,rfl,h5⟩ ab (λz q=>by cases q))
 rw[hX e];refine iteF ?_;refine⟨sW _ _ N,λx u nx e'=>sW _ _ (k3 _ _ nx e'),J,sW _ _ hd,?_⟩;rw[tk,qBZ,kE e];exact jH pr sW
obtain⟨N,k3,J,hd,pr⟩:=hp
rw[q7W,mY]at pr
refine⟨o,_,N,?_⟩
have sH:Same H (upd I a.wv (.dK (dI m.V))):=qCM U.w k3
have ae:(upd I a.wv (.dK (dI m.V))) D=some (.lst J):=by rw[qF Dw];exact hd
have Z:Paired (TupD (upd I a.wv (.dK (dI m.V)))) J (lpK m.P b m.V):=Paired.mapP pr λx k z=>z.upd N (λz q=>by cases q)
generalize upd I a.wv (.dK (dI m.V))=H4 at sH ae Z ⊢
have hl:(lpK m.P b m.V).length<64:=by unfold lpK;rw[hU];exact dJ (kY _ _) lV
have ul:=Z.len
refine⟨D,J,lpK m.P b m.V,2,rfl,SqL.of ae,q9Z Z,λk hk=>?_,by decide,by lia,λqs pp pw l H5 n5 s5 h5=>?_⟩
.unfold lpK at hk;obtain⟨x,_,rfl⟩:=kP.mp hk;rfl
refine q l _ _ H5 (sH.trans s5) (sH.free n5) h5 (q7G (jH Z s5) λi hi=>mV.mp (pp.mem_iff.mp hi)) (q7F ul.symm pp) pw)
theorem qE6(xs:List V)(i:Nat):∀n p,(clr xs i n).getD p .non=if i<=p/\p<i+n then .non else xs.getD p .non
|0,p=>by rw[kE (by lia)];rfl
|n+1,p=>by
 show((clr xs i n).set (i+n) .non).getD p .non=_;rw[jF,qE6 xs i n p];by_cases e:i+n=p
 .subst e;rw[kL (show i<=i+n/\i+n<i+(n+1) by lia),kE (show ¬(i<=i+n/\i+n<i+n) by lia)];by_cases z:i+n<(clr xs i n).length
  .rw[kL ⟨rfl,z⟩]
  rw[kE (λy=>z y.2)];rw[q6J]at z;rw[kJ,gR (by lia)];rfl
 rw[kE (λy=>e y.1)];by_cases z:i<=p/\p<i+n
 .rw[kL z,kL (by lia)]
 rw[kE z,kE (by lia)]
structure PgAt(H:Hp)(bs:List V)(pg:Nat->Option (Int×Int)):Prop where
n:∀i,pg i=none->bs.getD i .non=.non
v:∀i v,pg i=some v->∃tp,bs.getD i .non=.ref tp/\H tp=some (.tup [.int v.1,.int v.2])
theorem PgAt.keep{F:List Addr}{bs:List V}(h:PgAt H bs pg)(k:Keep F H H'):PgAt H' bs pg:=⟨h.n,λi v e=>by
 obtain⟨tp,e1,e2⟩:=h.v i v e;exact⟨tp,e1,k.tp _ _ e2⟩⟩
structure Cm(m:CM)(s:XS):Prop where
ft:Fit m s.q
br:m.br=noB s.q.B
li:∀b,valV m.lim (Sum.inl b)=none
mo:m.mo=1000000
cl:m.cl=s.cl
lf:m.lf=s.lf/\s.lf=none
rc:m.rc=s.rc
theorem Cm.gd{m:CM}{s:XS}(h:Cm m s):Gd m:=⟨h.lf.1.trans h.lf.2,λb=>by rw[h.br];exact rep8,h.li⟩
structure XR(t:Adr)(H:Hp)(x:Sto)(k:Tm)(sh sr:Int)(s:XS):Prop where
e:∃m:CM,StAt t H x (.int sh) (.int sr) (.int (k.ie:Int)) (.int k.sp) m s.q/\Cm m s/\PgAt H m.bo s.pg
w:WX k s
theorem Cm.pgs{m:CM}{s:XS}(h:Cm m s){b f:Nat}(hb:b<s.q.B)(hf:f<s.q.P):((b*s.q.P+f:Nat):Int)<=m.bl*m.pg-1/\b*s.q.P+f<m.bo.length:=by(
have z:=h.ft.ok.nbo
rw[h.ft.eB,h.ft.eP]at *
have:b*s.q.P+f<s.q.B*s.q.P:=(cV (by lia)).mp (by rw[yM hf];exact hb)
lia)
section
variable{H H':Hp}{x:Sto}{k:Tm}{sh sr:Int}{s:XS}
theorem XR.keep(j:XR t H x k sh sr s){F:List Addr}(kk:Keep F H H')(n:∀b∈[x.s,x.tm]++(x.a.li::sf x),b∉F)(tb:TbF t H'):XR t H' x k sh sr s:=by obtain⟨m,st,c,pg⟩:=j.e;exact⟨⟨m,st.keep kk n tb,c,pg.keep kk⟩,j.w⟩
theorem XR.kT(j:XR t H x k sh sr s)(kk:Keep [t.fW] H H')(tb:TbF t H'):XR t H' x k sh sr s:=by obtain⟨m,st,c,pg⟩:=j.e;exact⟨⟨m,st.kT kk tb,c,pg.keep kk⟩,j.w⟩
theorem XR.pn(j:XR t H x k sh sr s):s.lf≠some 0:=by obtain⟨m,st,c,pg⟩:=j.e;rw[c.lf.2];exact λz=>by cases z
theorem XR.tb(j:XR t H x k sh sr s):TbF t H:=by obtain⟨m,st,c,pg⟩:=j.e;exact st.tb
theorem XR.same(j:XR t H x k sh sr s)(ss:Same H H'):XR t H' x k sh sr s:=by obtain⟨m,st,c,pg⟩:=j.e;exact⟨⟨m,st.same ss,c,pg.keep (F:=[]) (Keep.same ss)⟩,j.w⟩
theorem XR.o(j:XR t H x k sh sr s):H x.s=some (.ins t.C_Even x.sd [("chip",.ref x.c),("terms",.ref x.tm),("book",.ref x.k.bk),("rule",x.ru),("papers",x.pa)]):=by obtain⟨m,st,c,pg⟩:=j.e;exact st.o
theorem XR.inH(j:XR t H x k sh sr s):∀y∈t.fW::sf x,∃o,H y=some o:=λy hy=>by(
obtain⟨m,hs,_⟩:=j.e
rcases kN.mp hy with e|e
.obtain⟨pt,hT,_⟩:=hs.tb;exact⟨_,by rw[e];exact hT⟩
rcases gQ.mp e with e|e
.obtain⟨o,ho,_⟩:=hs.ch.has (kB _ e);exact⟨o,ho⟩
have e:=by simpa[bf]using e
rcases e with rfl|rfl|rfl|rfl|rfl
.exact⟨_,hs.bk.o⟩
.exact⟨_,hs.bk.w⟩
.exact⟨_,hs.bk.l⟩
.exact⟨_,hs.bk.f⟩
exact⟨_,hs.bk.b⟩)
theorem XR.off(j:XR t H x k sh sr s){p:Addr}(n:H p=none):p∉t.fW::sf x:=λz=>by obtain⟨o,e⟩:=j.inH p z;lia
theorem TbF.updL{p:Addr}{o:HO}(h:TbF t H)(e:H p=some (.lst xs)):TbF t (upd H p o):=by exact h.gen λb o' to z=>by rw[qF (uK to z e zU)];exact z
theorem XR.lst(j:XR t H x k sh sr s){p:Addr}{xs:List V}{o:HO}(e:H p=some (.lst xs))(np:p∉t.fW::sf x):XR t (upd H p o) x k sh sr s:=by(
obtain⟨m,st,_⟩:=j.e
have k:=Keep.upd (F:=[p]) (o:=o) e (λU z=>by lia) (by simp)
refine j.keep k (λy D z=>?_) (TbF.updL st.tb e)
rw[kD.mp z]at D
rcases gQ.mp D with D|D
.have D:=by simpa using D
 rcases D with h|h
 .rw[h,st.o]at e;lia
 rw[h,st.te]at e;lia
rcases kN.mp D with h|h
.rw[h,st.ch.li]at e;lia
exact np (kB _ h))
theorem XR.set(j:XR t H x k sh sr s){n v:Int}(n0:0<=n)(n1:n<=64)(rc:s.rc.length<1000000)(hr:k.ie*s.q.P<s.rmX)(hl:(∃p,(n,p)∈s.q.V)\/s.q.V.length<59)
 (kk:∀H',XR t H' x k sh sr (s.put n v)->Keep (t.fW::sf x) H H'->Q (.int (s.np:Int)) H'):qE4 t [.ref x.s,.int n,.int v] H Q E:=by(
obtain⟨m,st,c,pg⟩:=j.e
obtain⟨hb,hf,ef,_,sp⟩:=j.w.spot (by lia)
obtain⟨ag,O⟩:=c.pgs hb hf
refine⟨x,_,_,_,_,m,s.q,n,v,rfl,st,c.ft,c.gd,by rw[c.rc];exact rc,λl I=>⟨s.pb,s.pf,?_,ef,pg.n _ (j.w.cr _ _ hb (by lia) hf),λU H' Z k' S=>?_⟩⟩
.rw[c.br]at I ⊢;rw[c.cl]at I;exact sp l I
have J:s.lf≠some 0:=j.pn
obtain⟨w',_⟩:=j.w.put (v:=v) hr n0 n1 hl J
have D:(m.deed "put" ((s.pb*s.q.P+s.pf:Nat):Int) (((s.pb*s.q.P+s.pf:Nat):Int) / m.pg) false).Ok:=c.ft.ok.deed (by rw[c.rc];exact rc)
refine kk H' ⟨⟨_,S,⟨⟨⟨D.bl1,D.bl2,D.pg1,D.pg2,?_,D.ncl,D.ndc,D.nbr,D.lim,D.nrc⟩,w'.qs.ok,c.ft.eB,c.ft.eP⟩,c.br,c.li,c.mo,c.cl,?_,?_⟩,⟨λi e=>?_,λi w e=>?_⟩⟩,w'⟩ k'
.show((m.bo.set _ _).length:Int)=_;rw[gK];exact c.ft.ok.nbo
.refine⟨?_,by show s.lf.map _=none;rw[c.lf.2];rfl⟩;show m.lf.map _=_;rw[c.lf.1];rfl
.show m.rc++[_]=_;rw[c.rc];rfl
.have e:(if i=s.np then some (s.q.nx*128+n,v)else s.pg i)=none:=e;show(m.bo.set (s.pb*s.q.P+s.pf) (.ref U)).getD i .non=.non;by_cases z:i=s.np
 .rw[kL z]at e;cases e
 rw[kE z]at e;rw[jF,kE (λy=>z y.1.symm)];exact pg.n i e
have e:(if i=s.np then some (s.q.nx*128+n,v)else s.pg i)=some w:=e
show ∃N,(m.bo.set (s.pb*s.q.P+s.pf) (.ref U)).getD i .non=.ref N/\_
by_cases z:i=s.np
.rw[kL z]at e;cases e;exact⟨U,by rw[jF,kL ⟨z.symm,O⟩],Z⟩
rw[kE z]at e
obtain⟨N,e1,e2⟩:=pg.v i w e
exact⟨N,by rw[jF,kE (λy=>z y.1.symm)];exact e1,k'.tp _ _ e2⟩)
end
inductive spCo(t:Adr)(vs:List V)(H:Hp)(Q:VK)(E:XK):Prop
|mk:∀x k sh sr s,∀b:Nat,vs=[.ref x.s,.int (b:Int)]->XR t H x k sh sr s->b<s.q.B->s.q.fi.getD b 0=(s.q.P:Int)->s.rc.length<1000000->(∀y∈s.q.V,¬y.2 / (s.q.P:Int)=(b:Int))->(∀H',XR t H' x k sh sr (s.wip b)->Keep (t.fW::sf x) H H'->Q .non H')->spCo t vs H Q E
theorem q4R(T:tXx)(S:tFf):S.tJ.Ok0 P w mg base 5 (spCo t):=by(
refine S.tJ.F.ok0 q4M λao A _ s H vs Q E hr h=>?_
obtain⟨x,k,sh,sr,s,b,rfl,j,hb,ef,rc,nl,kk⟩:=h
obtain⟨m,U,c,pg⟩:=j.e
have eB:=c.ft.eB
have clb:=(j.w.c0 b).2
refine⟨_,(qB (jA (qY (qJ (pv 0) rfl) T.fZ T.aE2 (qAG T S).mono hr S.aCS.b .nil qK (qA (pv 1) qD))) (qE (jA (qY (qJ (pv 0) rfl) T.f9 T.aC5 (q6F T S).mono hr S.aAY.b .nil qK (qA (pv 1) qD))))),?_⟩
try dsimp-beta-proj-iota-zeta-eta only[wishK,cxK]
refine(iV rfl (iF U.o T.fY T.iR rfl (iM U.ch.ins rfl ⟨_,rfl,x.c,x.a,m,_,rfl,U.ch,c.ft.ok,by rw[c.rc];exact rc,c.gd,by lia,by rw[c.mo,c.cl];lia,λH1 ab k1=>?_⟩)))
have Z:s.lf≠some 0:=j.pn
have I:=U.put ab k1 rfl rfl
refine(iV rfl (iF I.o T.fY T.iA rfl (iM I.bk.o rfl ⟨_,rfl,x.k,s.q,b,rfl,I.bk,j.w.qs.ok,I.ds,hb,λH2 aa k2=>?_⟩)))
have N:Keep (bf x.k) H1 H2:=k2.mono (by intro y J;simp[bf]at J ⊢;rcases J with rfl|rfl<;>simp)
have kA:Keep (t.fW::sf x) H H2:=(k1.mono (λy J=>by unfold sf;exact kB _ (gX _ J))).trans (N.mono (λy J=>by unfold sf;exact kB _ (mH _ J)))
have ac:=I.note aa N
obtain⟨w',_⟩:=j.w.wip hb ef nl Z
have D:(m.deed "wipe" (b:Int) (b:Int) false).Ok:=c.ft.ok.deed (by rw[c.rc];exact rc)
have O:∀p,(wipC m b).bo.getD p .non=if p / s.q.P=b then .non else m.bo.getD p .non:=λp=>by
 show(clr m.bo ((b:Int)*m.pg).toNat m.pg.toNat).getD p .non=_;have p1:=j.w.qs.ok.p1;rw[c.ft.eP,<-gY,mC,mC,qE6];have:(b*s.q.P<=p/\p<b*s.q.P+s.q.P)↔p / s.q.P=b:=by rw[fB (by lia)];generalize b*s.q.P=z;lia
 by_cases z:p / s.q.P=b
 .rw[kL z,kL (this.mpr z)]
 rw[kE z,kE (λy=>z (this.mp y))]
refine kk H2 ⟨⟨_,ac,⟨⟨⟨D.bl1,D.bl2,D.pg1,D.pg2,?_,?_,D.ndc,D.nbr,D.lim,D.nrc⟩,w'.qs.ok,c.ft.eB,c.ft.eP⟩,c.br,c.li,c.mo,?_,?_,?_⟩,⟨λi e=>?_,λi w e=>?_⟩⟩,w'⟩ kA
.show((clr m.bo _ _).length:Int)=_;rw[q6J];exact c.ft.ok.nbo
.show((m.cl.set _ _).length:Int)=_;rw[gK];exact c.ft.ok.ncl
.show m.cl.set b (m.cl.getD b 0+1)=_;rw[c.cl];rfl
.refine⟨?_,by show s.lf.map _=none;rw[c.lf.2];rfl⟩;show m.lf.map _=_;rw[c.lf.1];rfl
.show m.rc++[_]=_;rw[c.rc];rfl
.have e:(if i / s.q.P=b then none else s.pg i)=none:=e;rw[O];by_cases z:i / s.q.P=b
 .rw[kL z]
 rw[kE z]at e ⊢;exact pg.n i e
have e:(if i / s.q.P=b then none else s.pg i)=some w:=e
rw[O]
by_cases z:i / s.q.P=b
.rw[kL z]at e;cases e
rw[kE z]at e ⊢
obtain⟨tq,e1,e2⟩:=pg.v i w e
exact⟨tq,e1,kA.tp _ _ e2⟩)
theorem q82(T:tXx)(S:tFf):S.aBP.Ok0 P w mg base 6 (λvs H Q E=>spCo t vs H (λv H'=>v=.non/\Q (.bl true) H') E):=by(
refine S.aBP.F.ok0 q7Q λI A Z s H vs Q E D h=>?_
obtain⟨x,k,sh,sr,s,b,rfl,j,U,z,rc,O,kk⟩:=h
refine⟨_,(qB (jA (qY (pv 0) T.fY T.aB9 (q4R T S).mono D S.tJ.b .nil qK (qA (pv 1) qD))) (qE (qM v5))),?_⟩
try dsimp-beta-proj-iota-zeta-eta only[wishK,cxK]
exact(iV rfl (iM j.o rfl ⟨_,rfl,x,k,sh,sr,s,b,rfl,j,U,z,rc,O,λH' N J=>(kk H' N J).2⟩)))
theorem qHG{s:XS}{ns:List Int}(h:HeldIs s.q ns):ns=s.hl:=by(
refine q9Y (h.pm.trans (pF _ _).symm) h.so ?_
have:=pV (le:=λa b=>decide (a<=b)) (λa b c h1 h2=>hG (p7 (mI h1) (mI h2))) (λa b=>by
 by_cases z:a<=b
 .rw[hG z];rfl
 rw[hX z,hG (show b<=a by lia)];rfl) (hdN s.q.V)
exact this.imp λz=>mI z)
theorem hd64{k:Tm}{s:XS}(w:WX k s):(hdN s.q.V).length<64:=by(
refine dJ (kY _ _) ?_
have:=w.l6
rw[hU]
lia)
theorem qJW{k:Tm}{s:XS}(w:WX k s):∀y∈s.hl,0<=y/\y<64:=λy hy=>by(
have hy:=pT.mp hy
obtain⟨a1,a2⟩:=mQ.mp hy
obtain⟨y',hy',rfl⟩:=kP.mp a1
have:=w.qs.ok.nm y' hy'
lia)
theorem qJX{ns:List Int}(h:∀y∈ns,0<=y/\y<64):ns.map V.int=vN (ns.map Int.toNat)/\∀u∈ns.map Int.toNat,u<64:=by(
refine⟨?_,λu D=>?_⟩
.unfold vN;rw[dW];refine dA λy z=>?_;have:=h y z;grind
obtain⟨y,z,rfl⟩:=kP.mp D
simp_all)
inductive spVm(t:Adr)(vs:List V)(H:Hp)(Q:VK)(E:XK):Prop
|mk:∀x k sh sr s,∀n p:Int,vs=[.ref x.s,.int p,.int n]->XR t H x k sh sr s->(n,p)∈s.q.V->(∀H',Same H H'->Q (.int (s.val p n)) H')->spVm t vs H Q E
theorem q2D(T:tXx)(S:tFf):S.oC.Ok0 P w mg base 6 (spVm t):=by(
refine S.oC.F.ok0 q2A λZ A _ s H vs Q E J h=>?_
obtain⟨x,k,sh,sr,s,n,p,rfl,j,hm,kk⟩:=h
obtain⟨m,I,c,pg⟩:=j.e
refine⟨_,(qB (jG (qP yO (pv 2) (q1S rfl T.aEP ⟨_,rfl⟩ (v:=.int 64)) (qQ _)) (qE (qM (qZ (q7Y T S).mono J rfl T.aC8 T.aC9 S.aDL.b .nil qK (qA (jB (pv 0) T.fY T.aBK (q18 T S).mono J S.t8.b .nil qK) qD)))) qS) (qE (qM (qO qW (qY (qJ (pv 0) rfl) T.fZ T.aBM (q2B T S).mono J S.aAN.b .nil qK (qA (pv 1) qD)) qC (λz z=>rfl))))),?_⟩
try dsimp-beta-proj-iota-zeta-eta only[wishK,cxK]
refine⟨_,rfl,rfl,_,rfl,?_⟩
rw[yL]
by_cases z:n=64
.rw[hG z];refine iteT ?_;refine(iV rfl (iM I.o rfl ⟨x,_,_,_,_,m,s.q,rfl,I,c.ft,hd64 j.w,λl ns H1 hn s1 n1 h1=>?_⟩));obtain rfl:=qHG hn;obtain⟨en,lt⟩:=qJX (qJW j.w);rw[en]at h1;refine⟨l,_,rfl,SqL.of h1,lt,?_⟩;have:=kk H1 s1;unfold XS.val at this;rw[kL z]at this;exact this
rw[hX z]
refine iteF ?_
obtain⟨b,f,v,U,a2,D,a4,N⟩:=j.w.vl _ hm
have D:p=_:=D
obtain⟨tp,O,e2⟩:=pg.v _ _ N
have hp:=(c.pgs U a2).1
refine(iV rfl (iF I.o T.fY T.iR rfl (iM I.ch.ins rfl ⟨_,rfl,x.c,x.a,m,_,rfl,I.ch,c.ft.ok,c.lf.1.trans c.lf.2,by rw[D];lia,by rw[D];exact hp,?_⟩)))
have:=kk H (Same.refl H)
unfold XS.val at this
rw[kE z]at this
rw[D,mC,O]
rw[D,mC,N]at this
exact(iT (k:=1) (v:=_) (SqT.of e2) rfl this))
inductive spGaP(vs:List V)(H:Hp)(Q:VK)(E_:XK):Prop
|mk:∀x a b p n,vs=[x,a,b,p,n]->Q (.bl false) H->spGaP vs H Q E_
theorem q4S(T:tXx)(S:tFf):S.tL.Ok0 P w mg base 1 spGaP:=by(
refine S.tL.F.ok0 q4P λz A U s H D Q E I h=>?_
obtain⟨x,a,b,p,n,rfl,q⟩:=h
refine⟨_,(qE (qM v5)),?_⟩
exact q)
inductive spGa(f:Tl->Int)(vs:List V)(H:Hp)(Q:VK)(E_:XK):Prop
|mk:∀x a b p n A B,vs=[x,a,b,p,n]->TlAt H a A->TlAt H b B->Q (.bl (decide (f A<f B))) H->spGa f vs H Q E_
theorem q3H(T:tXx)(S:tFf):S.oU.Ok0 P w mg base 1 (spGa Tl.lv):=by(
refine S.oU.F.ok0 q3D λD A U s H J Q E I h=>?_
obtain⟨x,a,b,p,n,A,B,rfl,⟨N,rfl,z⟩,⟨bd,rfl,hb⟩,q⟩:=h
refine⟨_,(qE (qM (yT q0J (qO qW (pv 1) qC (λU U=>rfl)) (qO qW (pv 2) qC (λU U=>rfl)) (qQ _)))),?_⟩
exact⟨_,rfl,iT   (SqT.of z) rfl ⟨_,rfl,iT   (SqT.of hb) rfl (iI q)⟩⟩)
theorem q3I(T:tXx)(S:tFf):S.oX.Ok0 P w mg base 1 (spGa Tl.bo):=by(
refine S.oX.F.ok0 q3E λD A U s H J Q E I h=>?_
obtain⟨x,a,b,p,n,A,B,rfl,⟨N,rfl,z⟩,⟨bd,rfl,hb⟩,q⟩:=h
refine⟨_,(qE (qM (yT q0J (qO qW (pv 1) qC (λU U=>rfl)) (qO qW (pv 2) qC (λU U=>rfl)) (qQ _)))),?_⟩
exact⟨_,rfl,iT   (SqT.of z) rfl ⟨_,rfl,iT   (SqT.of hb) rfl (iI q)⟩⟩)
noncomputable def gain(pg nw:Int)(T:Tl):Int:=(pg-T.lv)*(nw-T.bo)
inductive spGaW(vs:List V)(H:Hp)(Q:VK)(E_:XK):Prop
|mk:∀x a b pg nw A B,vs=[x,a,b,.int pg,.int nw]->TlAt H a A->TlAt H b B->A.Ok pg nw->B.Ok pg nw->pg<=16->Q (.bl (decide (gain pg nw A*(pg+B.lv)>gain pg nw B*(pg+A.lv)))) H->spGaW vs H Q E_
theorem q41(T:tXx)(S:tFf):S.tD.Ok0 P w mg base 1 spGaW:=by(
refine S.tD.F.ok0 uZ λD A _ s H N Q E I h=>?_
obtain⟨x,a,b,pg,nw,A,B,rfl,⟨O,rfl,z⟩,⟨bd,rfl,hb⟩,oa,ob,hp,q⟩:=h
have Z:=oa.l0
have J:=oa.l1
have b0:=ob.l0
have U:=ob.l1
refine⟨_,(qB (qU (i:=5) uZ.nd (qL jP (qL uA (pv 3) (qO qW (pv 1) qC (λz z=>rfl))) (qL uA (pv 4) (qO qW (pv 1) qC (λz z=>rfl))))) (qB (qU (i:=6) uZ.nd (qL jP (qL uA (pv 3) (qO qW (pv 2) qC (λz z=>rfl))) (qL uA (pv 4) (qO qW (pv 2) qC (λz z=>rfl))))) (qE (qM (yT qD5 (qL jP (pv 5) (qL jU (pv 3) (qO qW (pv 2) qC (λz z=>rfl)))) (qL jP (pv 6) (qL jU (pv 3) (qO qW (pv 1) qC (λz z=>rfl)))) (qQ _)))))),?_⟩
refine⟨_,rfl,_,rfl,iT (k:=1) (v:=_) (SqT.of z) rfl (iI ⟨_,rfl,_,rfl,iT (k:=3) (v:=_) (SqT.of z) rfl (iI (iI ⟨.inl ⟨by lia,by lia⟩,?_⟩))⟩)⟩
refine⟨_,rfl,_,rfl,iT (k:=1) (v:=_) (SqT.of hb) rfl (iI ⟨_,rfl,_,rfl,iT (k:=3) (v:=_) (SqT.of hb) rfl (iI (iI ⟨.inl ⟨by lia,by lia⟩,?_⟩))⟩)⟩
refine⟨_,rfl,_,rfl,_,rfl,iT (k:=1) (v:=_) (SqT.of hb) rfl (iI (iI ⟨.inr ⟨by lia,by lia⟩,?_⟩))⟩
exact⟨_,rfl,_,rfl,_,rfl,iT (k:=1) (v:=_) (SqT.of z) rfl (iI (iI ⟨.inr ⟨by lia,by lia⟩,iI q⟩))⟩)
def Mny(pg many:Int):Prop:=1<=pg/\0<many/\∀j:Int,0<=j->j<=pg->(pg+j) ∣ many
noncomputable def rkW(pg nw many:Int)(T:Tl):Int:=0-(pg-T.lv)*(nw-T.bo)*(many / (pg+T.lv))
theorem q83{x y m:Int}(h:0<m):x*m<y*m↔x<y:=by(
simp_all)
theorem q9K{A B:Tl}(m:Mny pg many)(oa:A.Ok pg nw)(ob:B.Ok pg nw):(gain pg nw A*(pg+B.lv)>gain pg nw B*(pg+A.lv))↔rkW pg nw many A<rkW pg nw many B:=by(
obtain⟨p1,O,I⟩:=m
have a0:=oa.l0
have b0:=ob.l0
obtain⟨D,ea⟩:=I A.lv oa.l0 oa.l1
obtain⟨z,J⟩:=I B.lv ob.l0 ob.l1
have U:many / (pg+A.lv)=D:=by rw[ea];exact lI _ (by lia)
have db:many / (pg+B.lv)=z:=by rw[J];exact lI _ (by lia)
unfold rkW
rw[U,db]
show gain pg nw B*(pg+A.lv)<gain pg nw A*(pg+B.lv)↔0-gain pg nw A*D<0-gain pg nw B*z
have Z:0<pg+A.lv:=by lia
have pb:0<pg+B.lv:=by lia
have e:(0-gain pg nw A*D<0-gain pg nw B*z)↔gain pg nw B*z<gain pg nw A*D:=by lia
rw[e,<-q83  O,<-q83 (x:=gain pg nw B*z) (Int.mul_pos Z pb)]
have N:gain pg nw B*(pg+A.lv)*many=gain pg nw B*z*((pg+A.lv)*(pg+B.lv)):=by rw[J];ac_rfl
have S:gain pg nw A*(pg+B.lv)*many=gain pg nw A*D*((pg+A.lv)*(pg+B.lv)):=by rw[ea];ac_rfl
rw[N,S])
def RuAt(t:Adr)(H:Hp)(r:Addr)(pg nw:Int)(f:Tl->Int):Prop:=(∃dx,H r=some (.ins t.C_Rule dx [])/\f=λz=>0)\/(∃dx,H r=some (.ins t.C_Fewest dx [])/\f=Tl.lv)\/(∃dx,H r=some (.ins t.C_Eldest dx [])/\f=Tl.bo)\/(∃dx many,H r=some (.ins t.C_Worth dx [])/\f=rkW pg nw many/\Mny pg many)
inductive spUn(t:Adr)(K:W.Frag)(vs:List V)(H:Hp)(Q:VK)(E_:XK):Prop
|mk:∀r v l pg nw T us ts f,vs=[.ref r,v,.ref l,.int pg,.int nw]->RuAt t H r pg nw f->TlAt H v T->SqL K H l us->Tls H us ts->T.Ok pg nw->(∀o∈ts,o.Ok pg nw)->pg<=16->Q (.bl (unb f ts T)) H->spUn t K vs H Q E_
theorem q84(T:tXx)(S:tFf):S.aBB.Ok0 P w mg base 2 (spUn t K):=by(
refine S.aBB.F.ok0 q3C λar A _ s H vs Q E N h=>?_
obtain⟨r,v,l,pg,nw,A,us,D,f,rfl,hR,hv,hl,U,oa,os,ah,q⟩:=h
obtain⟨va,rfl,ai⟩:=id hv
have ao:=U.len
refine⟨_,(qB (uO gT rfl (jM (pv 2)) (qT (i:=5) q3C.nd) (qE (jG (PW.pt (q2G (qP (qI7 N.units) (pv 5) (pv 1) (qQ _)) (q0H (yI (qFW (q4A (qY (pv 0) T.aFN T.aB1 (q4S T S).mono N S.tL.b .nil qK (qA (pv 5) (qA (pv 1) (qA (pv 3) (qA (pv 4) qD))))) (q4A (qY (pv 0) T.aD4 T.aBF (q3H T S).mono N S.oU.b .nil qK (qA (pv 5) (qA (pv 1) (qA (pv 3) (qA (pv 4) qD))))) (q4A (qY (pv 0) T.aEA T.aBO (q3I T S).mono N S.oX.b .nil qK (qA (pv 5) (qA (pv 1) (qA (pv 3) (qA (pv 4) qD))))) (qY (pv 0) T.aE7 T.aBQ (q41 T S).mono N S.tD.b .nil qK (qA (pv 5) (qA (pv 1) (qA (pv 3) (qA (pv 4) qD))))))))))))) (qE (qM v5)) qS))) (qE (qM v5))),?_⟩
try dsimp-beta-proj-iota-zeta-eta only[wishK,cxK]
refine⟨_,rfl,l,rfl,⟨us,hl⟩,?_⟩
refine zC (K:=K) (xs:=us) (λi aa H2=>∃y,aa=[some (.ref r),some (.ref va),some (.ref l),some (.int pg),some (.int nw),y]/\H2=H/\∀j,∀I:j<D.length,j<i->¬f D[j] <f A) ⟨_,rfl,rfl,λj U z=>absurd z (xI _)⟩ (λi aa H2 hi Z=>?_) (λi x aa H2 hx Z=>?_) (λaa H2 Z=>?_)
.obtain⟨y,rfl,rfl,_⟩:=Z;exact hl
.obtain⟨y,rfl,rfl,hm⟩:=Z;obtain⟨O,hO,J⟩:=Paired.at U hx;obtain⟨xa,rfl,af⟩:=id J;have hi:i<D.length:=(kC.mp hO).1;obtain rfl:D[i]=O:=(kC.mp hO).2;have ok:(D[i]).Ok pg nw:=os _ (gG hi);refine⟨_,rfl,_,rfl,xa,va,(D[i]).ns,A.ns,rfl,rfl,SqT.of af,SqT.of ai,rfl,_,rfl,?_⟩;by_cases e:(D[i]).ns=A.ns
 .rw[hG e];refine iteF (iteF ⟨_,rfl,rfl,λj I z=>?_⟩);by_cases ej:j=i
  .subst ej;rw[Tl.eq_of e];exact aE _
  exact hm j I (by lia)
 rw[hX e];refine iteT ?_;refine⟨λv' H'=>v'=.bl (decide (f D[i] <f A))/\H'=H2,?_,?_⟩
 .rcases hR with⟨dx,hins,rfl⟩|⟨dx,hins,rfl⟩|⟨dx,hins,rfl⟩|⟨dx,many,hins,rfl,mm⟩
  .exact .inl ⟨_,rfl,r,dx,_,rfl,hins,rfl,_,rfl,_,rfl,_,rfl,_,rfl,_,_,_,_,_,rfl,rfl,rfl⟩
  .exact .inr (.inl ⟨_,rfl,r,dx,_,rfl,hins,rfl,_,rfl,_,rfl,_,rfl,_,rfl,_,_,_,_,_,D[i],A,rfl,J,hv,rfl,rfl⟩)
  .exact .inr (.inr (.inl ⟨_,rfl,r,dx,_,rfl,hins,rfl,_,rfl,_,rfl,_,rfl,_,rfl,_,_,_,_,_,D[i],A,rfl,J,hv,rfl,rfl⟩))
  refine .inr (.inr (.inr (⟨_,rfl,r,dx,_,rfl,hins,rfl,_,rfl,_,rfl,_,rfl,_,rfl,_,_,_,pg,nw,D[i],A,rfl,J,hv,ok,oa,ah,?_,rfl⟩)));exact dL V.bl (cH.mpr (q9K mm ok oa))
 rintro v' H' ⟨rfl,rfl⟩
 refine⟨_,rfl,?_⟩;by_cases g:f D[i] <f A
 .rw[hG g];refine iteT ?_;have z:unb f D A=false:=by
   cases z:unb f D A with
   |false=>rfl
   |true=>exact absurd (q6K.mp z _ (gG hi)) (by lia)
  rw[z]at q;exact q
 rw[hX g];refine iteF ⟨_,rfl,rfl,λj I z=>?_⟩;by_cases ej:j=i
 .subst ej;exact g
 exact hm j I (by lia)
obtain⟨y,rfl,rfl,hm⟩:=Z
have z:unb f D A=true:=q6K.mpr λo J=>by obtain⟨j,I,rfl⟩:=wC J;have:=hm j I (by lia);lia
rw[z]at q
exact q)
def spFu(t:Adr)(K:W.Frag):Sp:=λvs H Q z=>∃r l pg nw us ts f,vs=[.ref r,.ref l,.int pg,.int nw]/\RuAt t H r pg nw f/\SqL K H l us/\Tls H us ts/\(∀o∈ts,o.Ok pg nw)/\pg<=16/\ts≠[]/\Q (.int (pk f ts)) H
theorem q5D(T:tXx)(S:tFf):S.tT.Ok0 P w mg base 3 (spFu t K):=by(
refine S.tT.F.ok0 vS λao A _ s H vs Q E hr h=>?_
obtain⟨r,l,pg,nw,I,J,f,rfl,hR,hl,D,os,aa,N,q⟩:=h
have af:=D.len
obtain⟨i,hi,hu,hn⟩:=q77 f J N
have U:∀j,∀hj:j<J.length,∃x,I[j]?=some x/\TlAt H x J[j]:=λj hj=>by have e:I[j]?=some (I[j]'(by lia)):=kF (by lia);obtain⟨O,hO,ho⟩:=Paired.at D e;obtain rfl:J[j]=O:=(kC.mp hO).2;exact⟨_,e,ho⟩
refine⟨_,(qB (qU (i:=4) vS.nd qC) (qB (qAZ gT (u9 (yI (qZ (q84 T S).mono hr rfl T.aC1 T.aC6 S.aBB.b .nil qK (qA (pv 0) (qA (qO jD (pv 1) (pv 4) (λz z=>rfl)) (qA (pv 1) (qA (pv 2) (qA (pv 3) qD)))))))) (qE (qK5 (i:=4) vS.nd rfl (Or.inl rfl) qC q6S))) (qE (qM (qO qW (qO jD (pv 1) (pv 4) (λz z=>rfl)) qC (λz z=>rfl)))))),?_⟩
try dsimp-beta-proj-iota-zeta-eta only[wishK,cxK]
refine⟨λm ac H2=>H2=H/\∃p:Nat,ac=[some (.ref r),some (.ref l),some (.int pg),some (.int nw),some (.int p)]/\p<=i/\m=i-p,⟨i,rfl,0,rfl,m9 _,rfl⟩,?_⟩
rintro m ac H2 ⟨rfl,p,rfl,al,rfl⟩
obtain⟨x,hx,tx⟩:=U p (by lia)
refine⟨_,rfl,_,rfl,_,rfl,l,I,p,x,rfl,rfl,hl,yH hx,_,rfl,_,rfl,_,rfl,r,x,l,pg,nw,J[p],I,J,f,rfl,hR,tx,hl,D,os _ (gG _),os,aa,?_⟩
by_cases e:p=i
.subst e;rw[hu];refine⟨_,rfl,iteF ?_⟩;obtain⟨xa,rfl,Z⟩:=tx;refine⟨_,rfl,_,rfl,l,I,p,_,rfl,rfl,hl,yH hx,iT (k:=0) (v:=_) (SqT.of Z) rfl ?_⟩;rw[qJR hi hu hn]at q;exact q
rw[hn p (by lia)]
refine⟨_,rfl,iteT ⟨_,λ_ _ z=>z,?_⟩⟩
exact⟨_,rfl,iI ⟨i-(p+1),by lia,rfl,p+1,rfl,by lia,rfl⟩⟩)
theorem vT(T:tXx)(S:tFf):S.oS.Ok0 P w mg base 4 (spFu t K):=by(
refine S.oS.F.ok0 q7S λJ A Z s H U Q E I h=>?_
obtain⟨r,l,pg,O,N,D,f,rfl,z⟩:=h
refine⟨_,(qE (qM (qZ (q5D T S).mono I rfl T.aBW T.aBU S.tT.b .nil qK (qA (pv 0) (qA (pv 1) (qA (pv 2) (qA (pv 3) qD))))))),?_⟩
exact⟨_,rfl,_,rfl,_,rfl,_,rfl,r,l,pg,O,N,D,f,rfl,z⟩)
structure FoAt(t:Adr)(H:Hp)(r dx rl:Addr)(row:List Int)(u:Nat):Prop where
ins:H r=some (.ins t.C_Follow dx [("row",.ref rl),("used",.int u)])
row:H rl=some (.lst (row.map V.int))
inductive spFoI(K:W.Frag)(t:Adr)(vs:List V)(H:Hp)(Q:VK)(E_:XK):Prop
|mk:∀x dx l row,vs=[.ref x,.ref l]->H x=some (.ins t.C_Follow dx [])->H l=some (.lst (row.map V.int))->(∀rl H',FoAt t H' x dx rl row 0->H rl=none->(∀b o,b≠x->H b=some o->H' b=some o)->Q .non H')->spFoI K t vs H Q E_
theorem q85(T:tXx)(S:tFf):S.aBE.Ok0 P w mg base 1 (spFoI K t):=by(
refine S.aBE.F.ok0 q7T λN A _ s H vs Q E Z h=>?_
obtain⟨x,dx,l,U,rfl,I,hl,q⟩:=h
refine⟨_,(qB (jT (pv 0) (vE uI (by rfl) T.aB8 (by kernel_rfl) (qA (pv 1) qD)) rfl) (qE (jT (pv 0) qC rfl))),?_⟩
refine⟨_,rfl,l,_,rfl,.inl (SqL.of hl),λrl H1 O D h1=>?_⟩
refine⟨_,rfl,x,_,dx,_,rfl,D _ _ I,T.o8,T.aAG,by simp,?_⟩
refine⟨_,rfl,x,_,dx,_,rfl,qI,T.o8,T.oZ,by show 1<1000;decide,?_⟩
rw[q6G]
have ne:rl≠x:=jZ h1 (D _ _ I) (by intro z;cases z)
refine q rl _ ⟨qI,?_⟩ O (λb o J e=>?_)
.rw[qF ne];exact h1
rw[qF J]
exact D _ _ e)
inductive spFc(K:W.Frag)(t:Adr)(vs:List V)(H:Hp)(Q:VK)(E_:XK):Prop
|mk:∀r dx rl row u l us ts pg nw,vs=[.ref r,.ref l,pg,nw]->FoAt t H r dx rl row u->u<=row.length->row.length<=100->SqL K H l us->Tls H us ts->ts≠[]->ts.length<=16->(∀H',FoAt t H' r dx rl row (min (u+1) row.length)->Keep [r] H H'->Q (.int (fo row u ts)) H')->spFc K t vs H Q E_
theorem q5W(T:tXx)(S:tFf):S.aAE.Ok0 P w mg base 1 (spFc K t):=by(
refine S.aAE.F.ok0 vZ λa4 A _ s H vs Q E hr h=>?_
obtain⟨r,dx,rl,J,u,l,us,U,pg,nw,rfl,hf,ax,az,hl,af,ae,a1,q⟩:=h
refine⟨_,(qB (vH (i:=4) ["tally"] [] rfl (jM (pv 1)) (λz z z z z=>(qT (i:=0) (show List.Nodup (["tally"]:List Str)from by decide))) (λz z z z z=>uR) (λz z z z z=>(qO (yY (K:=K) rfl) (pv 0) qC (λz z=>rfl))) (by kernel_rfl) (jI (by decide)) vZ.nd rfl (Or.inl rfl)) (qB (jG (qP yO (qJ (pv 0) rfl) (jE jJ (by rfl) T.aA3 g5 (qA (qJ (pv 0) rfl) qD)) (qQ _)) (qE (qM (qO jD (pv 4) qC (λz z=>rfl)))) qS) (qB (qU (i:=5) vZ.nd (qO jD (qJ (pv 0) rfl) (qJ (pv 0) rfl) (λz z=>rfl))) (qB (q8W (pv 0) qC qFC) (qE (qM (qAY (qP q5H (pv 5) (pv 4) rfl) (pv 5) (qO jD (pv 4) qC (λz z=>rfl))))))))),?_⟩
try dsimp-beta-proj-iota-zeta-eta only[wishK,cxK]
have ag:=af.len
have h0:0<U.length:=nG.mpr ae
refine⟨_,rfl,l,rfl,⟨us,hl⟩,λD H2 nD s2 hD=>?_⟩
refine q79 (K:=K) (xs:=us) (D:=D) (k:=0) (λi Z=>Same H Z/\Z D=some (.lst (((U.take i).map Tl.b).map V.int))) ⟨s2,hD⟩ (λi Z hp=>hp.1.seq hl) (λi x Z hx hp=>?_) (λZ hp=>?_)
.obtain⟨sm,hd⟩:=hp;obtain⟨O,hO,ho⟩:=Paired.at af hx;have hi:i<U.length:=(kC.mp hO).1;obtain rfl:U[i]=O:=(kC.mp hO).2;obtain⟨xa,rfl,am⟩:=ho;refine⟨_,rfl,iT (k:=0) (v:=_) (SqT.of (sm _ _ am)) rfl ?_⟩;refine⟨_,hd,?_,λb o e=>?_,?_⟩
 .rw[hU,hU,gF];have:(16:Nat)<sizeLine:=by decide
  lia
 .rw[qF (qG e nD)];exact sm _ _ e
 rw[qI,<-kW hi,mE,mE];rfl
obtain⟨sm,hd⟩:=hp
rw[ag,mY]at hd
have I:=sm _ _ hf.ins
have N:=sm _ _ hf.row
have a0:atI ((U.map Tl.b).map V.int) 0=some (.int ((U.map Tl.b).headD 0)):=by
 cases U with
 |nil=>exact absurd rfl ae
 |cons A r=>exact yH (j:=0) rfl
refine(iV rfl (iF I T.o8 T.oZ rfl (iV rfl (iF I T.o8 T.aAG rfl ⟨rl,_,rfl,.inl (SqL.of N),rfl,_,rfl,?_⟩))))
rw[yL,hU]
by_cases e:u=J.length
.rw[hG (by lia)];refine iteT ?_;refine⟨_,rfl,iL (k:=0) (v:=_) (SqL.of hd) a0 ?_⟩;have z:=q Z ⟨by rw[I,e,bT (by lia)],N⟩ (Keep.same sm);have ef:fo J u U=(U.map Tl.b).headD 0:=by unfold fo;rw[gR (by lia)]
 rw[ef]at z;exact z
rw[hX (by lia)]
refine iteF ?_
have ak:u<J.length:=by lia
have er:J[u]?=some J[u]:=kF ak
refine(iV rfl (iF I T.o8 T.aAG rfl (iV rfl (iF I T.o8 T.oZ rfl (iL (k:=u) (v:=.int J[u]) (SqL.of N) (yH (by rw[mF,er];rfl)) ?_)))))
refine⟨_,rfl,r,_,dx,_,_,rfl,I,T.o8,T.oZ,rfl,_,_,rfl,rfl,dx,_,I,by show 2<1000;decide,?_⟩
have al:D≠r:=jZ hd I (by intro z;cases z)
have nR:rl≠r:=jZ N I (by intro z;cases z)
have kk:Keep [r] Z (upd Z r (.ins t.C_Follow dx [("row",.ref rl),("used",.int ((u:Int)+1))])):=Keep.upd I (λU z=>by cases z) (by simp)
have f4:FoAt t (upd Z r (.ins t.C_Follow dx [("row",.ref rl),("used",.int ((u:Int)+1))])) r dx rl J (min (u+1) J.length):=⟨by rw[qI,eL (by lia)];rfl,by rw[qF nR];exact N⟩
have aa:(upd Z r (.ins t.C_Follow dx [("row",.ref rl),("used",.int ((u:Int)+1))])) D=some (.lst ((U.map Tl.b).map V.int)):=by rw[qF al];exact hd
have ee:putF "used" (.int ((u:Int)+1)) ([("row",.ref rl),("used",.int (u:Int))]:List (Str×V))=([("row",.ref rl),("used",.int ((u:Int)+1))]:List (Str×V)):=rfl
rw[ee]
generalize upd Z r (.ins t.C_Follow dx [("row",.ref rl),("used",.int ((u:Int)+1))])=H4 at kk f4 aa ⊢
have z:=q H4 f4 ((Keep.same sm).trans kk)
refine⟨_,rfl,_,rfl,D,_,rfl,.inl (SqL.of aa),rfl,?_,_,rfl,?_⟩
.rw[dU];intro x hx;obtain⟨n,_,rfl⟩:=kP.mp hx;rfl
rw[kE kZ,q3W]
by_cases g:J[u]∈U.map Tl.b
.rw[hG g];refine iteT ⟨_,rfl,?_⟩;have ef:fo J u U=J[u]:=by unfold fo;rw[er];exact kL g
 rw[ef]at z;exact z
rw[hX g]
refine iteF ⟨_,rfl,iL (k:=0) (v:=_) (SqL.of aa) a0 ?_⟩
have ef:fo J u U=(U.map Tl.b).headD 0:=by unfold fo;rw[er];exact kE g
rw[ef]at z
exact z)
theorem q6O{m:CM}:∀{rs:List V} {L:List Nat},Tys H m q rs L->Tls H rs (L.map (tlOf m q))
|_,_,.nil=>.nil
|_,_,.cons ⟨p,e,h⟩ r=>.cons ⟨p,e,h⟩ (q6O r)
noncomputable def mnC:Int:=144403552893600
theorem qHH(p1:1<=pg)(p2:pg<=16):Mny pg mnC:=by(
refine⟨p1,by decide,λj I D=>?_⟩
have z:∀n,n<33->0<n->n ∣ 144403552893600:=by decide+kernel
have:=z (pg+j).toNat (by lia) (by lia)
rw[show pg+j=(((pg+j).toNat)) by lia]
exact Int.natCast_dvd_natCast.mpr this)
def RuX(t:Adr)(H:Hp)(r:Addr)(rl:List Addr):Rl->Prop
| .rk f=>(∃dx,H r=some (.ins t.C_Rule dx [])/\f=λz z z=>0)\/(∃dx,H r=some (.ins t.C_Fewest dx [])/\f=λz z=>Tl.lv)\/(∃dx,H r=some (.ins t.C_Eldest dx [])/\f=λz z=>Tl.bo)\/(∃dx,H r=some (.ins t.C_Worth dx [])/\f=λpg nw=>rkW pg nw mnC)
| .fol row u=>∃dx l,rl=[l]/\FoAt t H r dx l row u/\u<=row.length/\row.length<=100
|_=>False
theorem RuX.ok{H:Hp}{r:Addr}{rl:List Addr}{g:Rl}(h:RuX t H r rl g):g.Ok:=by(
cases g with
|rk f=>trivial
|win m=>exact h.elim
|fol z u=>trivial)
theorem RuX.map{r:Addr}(h:RuX t H r rl g)(h1:∀y∈r::rl,∀o,H y=some o->H' y=some o):RuX t H' r rl g:=by(
have h2:=h1
have h1:=h1 r kX
cases g with
|rk f=>
 rcases h with⟨dx,a,b⟩|⟨dx,a,b⟩|⟨dx,a,b⟩|⟨dx,a,b⟩
 .exact .inl ⟨dx,h1 _ a,b⟩
 .exact .inr (.inl ⟨dx,h1 _ a,b⟩)
 .exact .inr (.inr (.inl ⟨dx,h1 _ a,b⟩))
 exact .inr (.inr (.inr (⟨dx,h1 _ a,b⟩)))
|win m=>assumption
|fol z u=>obtain⟨dx,l,rfl,f,b⟩:=h;exact⟨dx,l,rfl,⟨h2 r (by simp) _ f.ins,h2 l (by simp) _ f.row⟩,b⟩)
theorem RuX.keep{r:Addr}{F:List Addr}(h:RuX t H r rl g)(k:Keep F H H')(n:∀y∈r::rl,y∉F):RuX t H' r rl g:=h.map λy hy o e=>k.k _ _ (n y hy) e
theorem RuX.ins{H:Hp}{r:Addr}{rl:List Addr}{g:Rl}(h:RuX t H r rl g):∃C d fs,H r=some (.ins C d fs):=by(
cases g with
|rk f=>
 rcases h with⟨dx,a,b⟩|⟨dx,a,b⟩|⟨dx,a,b⟩|⟨dx,a,b⟩
 .exact⟨_,_,_,a⟩
 .exact⟨_,_,_,a⟩
 .exact⟨_,_,_,a⟩
 exact⟨_,_,_,a⟩
|win m=>exact h.elim
|fol z u=>obtain⟨dx,l,rfl,f,b⟩:=h;exact⟨_,_,_,f.ins⟩)
inductive spCr(t:Adr)(K:W.Frag)(vs:List V)(H:Hp)(Q:VK)(E_:XK):Prop
|mk:∀x r2 r3 r4 r5 m q r rl g op rs ts,vs=[.ref x.s,.ref op]->StAt t H x r2 r3 r4 r5 m q->Fit m q->x.ru=.ref r->RuX t H r rl g->H op=some (.lst rs)->Tls H rs ts->ts≠[]->ts.length<=16->(∀o∈ts,o.Ok (q.P:Int) q.nx)->(∀a∈ts,∀c∈ts,a.b=c.b->a=c)->(∀p H',Keep [r] H H'->RuX t H' r rl (g.ch (q.P:Int) q.nx ts).2->H' p=some (.tup [.str "rule",.int (g.ch (q.P:Int) q.nx ts).1])->Q (.ref p) H')->spCr t K vs H Q E_
theorem q1P(T:tXx)(S:tFf):S.i5.Ok0 P w mg base 5 (spCr t K):=by(
refine S.i5.F.ok0 q1L λal A _ s H vs Q E U h=>?_
obtain⟨x,r2,r3,r4,r5,m,q,r,rl,g,Z,rs,ts,rfl,z,ft,J,O,I,tl,ne,ae,ok,ai,k⟩:=h
have eP:=ft.eP
have p1:=ft.oq.p1
have p2:=ft.oq.p2
have te:=z.te
rw[eP]at te
refine⟨_,(qE (qM (yB (qA zY (qA (q4A (qY (qJ (pv 0) rfl) T.aFN T.aDC (vT T S).mono U S.oS.b .nil qK (qA (pv 1) (qA (qJ (qJ (pv 0) rfl) rfl) (qA (qJ (qJ (pv 0) rfl) rfl) qD)))) (q4A (qY (qJ (pv 0) rfl) T.aD4 T.aCY (vT T S).mono U S.oS.b .nil qK (qA (pv 1) (qA (qJ (qJ (pv 0) rfl) rfl) (qA (qJ (qJ (pv 0) rfl) rfl) qD)))) (q4A (qY (qJ (pv 0) rfl) T.aEA T.aCU (vT T S).mono U S.oS.b .nil qK (qA (pv 1) (qA (qJ (qJ (pv 0) rfl) rfl) (qA (qJ (qJ (pv 0) rfl) rfl) qD)))) (q4A (qY (qJ (pv 0) rfl) T.aE7 T.aC7 (vT T S).mono U S.oS.b .nil qK (qA (pv 1) (qA (qJ (qJ (pv 0) rfl) rfl) (qA (qJ (qJ (pv 0) rfl) rfl) qD)))) (qY (qJ (pv 0) rfl) T.o8 T.aCW (q5W T S).mono U S.aAE.b .nil qK (qA (pv 1) (qA (qJ (qJ (pv 0) rfl) rfl) (qA (qJ (qJ (pv 0) rfl) rfl) qD)))))))) qD))))),?_⟩
try dsimp-beta-proj-iota-zeta-eta only[wishK,cxK]
cases g with
|rk f=>
 have sz2:2<=sizeLine:=by decide
 rcases id O with⟨dx,hins,rfl⟩|⟨dx,hins,rfl⟩|⟨dx,hins,rfl⟩|⟨dx,hins,rfl⟩
 .exact .inl (iV rfl (iF z.o T.fY T.oF rfl ⟨r,dx,_,J,hins,rfl,_,rfl,iV rfl (iF z.o T.fY T.f8 rfl (iF te T.iC T.iB rfl (iV rfl (iF z.o T.fY T.iA rfl (iF z.bk.o T.f9 T.iH rfl ⟨r,Z,_,_,rs,ts,_,(by rw[J];rfl),.inl ⟨dx,hins,rfl⟩,SqL.of I,tl,ok,by lia,ne,sz2,λp H2 n2 D N=>k p H2 (Keep.same D) (O.keep (Keep.same D) (F:=[]) (by simp)) N⟩)))))⟩))
 .exact .inr (.inl (iV rfl (iF z.o T.fY T.oF rfl ⟨r,dx,_,J,hins,rfl,_,rfl,iV rfl (iF z.o T.fY T.f8 rfl (iF te T.iC T.iB rfl (iV rfl (iF z.o T.fY T.iA rfl (iF z.bk.o T.f9 T.iH rfl ⟨r,Z,_,_,rs,ts,_,(by rw[J];rfl),.inr (.inl ⟨dx,hins,rfl⟩),SqL.of I,tl,ok,by lia,ne,sz2,λp H2 n2 D N=>k p H2 (Keep.same D) (O.keep (Keep.same D) (F:=[]) (by simp)) N⟩)))))⟩)))
 .exact .inr (.inr (.inl (iV rfl (iF z.o T.fY T.oF rfl ⟨r,dx,_,J,hins,rfl,_,rfl,iV rfl (iF z.o T.fY T.f8 rfl (iF te T.iC T.iB rfl (iV rfl (iF z.o T.fY T.iA rfl (iF z.bk.o T.f9 T.iH rfl ⟨r,Z,_,_,rs,ts,_,(by rw[J];rfl),.inr (.inr (.inl ⟨dx,hins,rfl⟩)),SqL.of I,tl,ok,by lia,ne,sz2,λp H2 n2 D N=>k p H2 (Keep.same D) (O.keep (Keep.same D) (F:=[]) (by simp)) N⟩)))))⟩))))
 exact .inr (.inr (.inr (.inl (iV rfl (iF z.o T.fY T.oF rfl ⟨r,dx,_,J,hins,rfl,_,rfl,iV rfl (iF z.o T.fY T.f8 rfl (iF te T.iC T.iB rfl (iV rfl (iF z.o T.fY T.iA rfl (iF z.bk.o T.f9 T.iH rfl ⟨r,Z,_,_,rs,ts,_,(by rw[J];rfl),.inr (.inr (.inr (⟨dx,_,hins,rfl,qHH (by lia) (by lia)⟩))),SqL.of I,tl,ok,by lia,ne,sz2,λp H2 n2 D N=>k p H2 (Keep.same D) (O.keep (Keep.same D) (F:=[]) (by simp)) N⟩)))))⟩)))))
|win m=>exact O.elim
|fol ad u=>obtain⟨dx,l,rfl,hf,hu,hw⟩:=id O;exact .inr (.inr (.inr (.inr ((iV rfl (iF z.o T.fY T.oF rfl ⟨r,dx,_,J,hf.ins,rfl,_,rfl,iV rfl (iF z.o T.fY T.f8 rfl (iF te T.iC T.iB rfl (iV rfl (iF z.o T.fY T.iA rfl (iF z.bk.o T.f9 T.iH rfl ⟨r,dx,l,ad,u,Z,rs,ts,_,_,(by rw[J];rfl),hf,hu,hw,SqL.of I,tl,ne,ae,λH' f' k'=>⟨sz2,λp H2 n2 D N=>k p H2 (k'.trans (Keep.same D)) ⟨dx,l,rfl,⟨D _ _ f'.ins,D _ _ f'.row⟩,Nat.min_le_right _ _,hw⟩ N⟩⟩)))))⟩)))))))
section
variable{H H':Hp}{x:Sto}{k:Tm}{sh sr:Int}{s:XS}{r:Addr}{rl:List Addr}{g:Rl}
theorem TbF.keepR(h:TbF t H){fs:List (Str×V)}(e:H r=some (.ins C d fs))(k:Keep [r] H H'):TbF t H':=by refine h.gen λb o to D=>k.k _ _ (λz=>uK to D e q3V (kD.mp z)) D
def Off(t:Adr)(x:Sto)(R:List Addr):Prop:=∀y∈[x.s,x.tm]++(x.a.li::t.fW::t.fX::sf x),y∉R
theorem Off.n(o:Off t x R){y:Addr}(hy:y∈R):y∉t.fW::sf x:=λz=>o y (by grind) hy
theorem XR.kR(j:XR t H x k sh sr s)(o:Off t x (r::rl))(kk:Keep [r] H H')(hR:RuX t H r rl g):XR t H' x k sh sr s:=by(
obtain⟨C,d,fs,e⟩:=hR.ins
refine j.keep kk (λy D z=>o y ?_ (by rw[kD.mp z];exact kX)) (j.tb.keepR e kk)
grind)
theorem jL{F:List Addr}(k:Keep F H H'):∀{rs:List V} {ts:List Tl},Tls H rs ts->Tls H' rs ts
|_,_,.nil=>.nil
|_,_,.cons ⟨p,e,h⟩ r=>.cons ⟨p,e,k.tp _ _ h⟩ (jL k r)
end
inductive spLs(t:Adr)(vs:List V)(H:Hp)(Q:VK)(E_:XK):Prop
|mk:∀x k sh sr s,vs=[.ref x.s]->XR t H x k sh sr s->(∀H',Same H H'->Q (.int s.lst) H')->spLs t vs H Q E_
theorem qLW{s:XS}(lc:s.cl.length=s.q.B)(b1:1<=s.q.B)(hM:M∈(List.range s.q.B).map λb=>s.cl.getD b 0)(le:∀a∈(List.range s.q.B).map λb=>s.cl.getD b 0,M<=a):M=s.lst:=by(
have D:((List.range s.q.B).map λb=>s.cl.getD b 0)=s.cl:=by rw[<-lc];refine cF (by simp) λi h1 h2=>?_;simp[kF h2]
rw[D]at hM le
obtain⟨m,e,h1,h2⟩:=q7I (l:=s.cl) (λz=>by grind)
unfold XS.lst
rw[e]
have:=h2 M hM
have:=le m h1
show M=m
lia)
theorem q8O(T:tXx)(S:tFf):S.aBX.Ok0 P w mg base 6 (spLs t):=by(
refine S.aBX.F.ok0 q8H λai A _ s H vs Q E Z h=>?_
obtain⟨x,k,sh,sr,s,rfl,j,kk⟩:=h
obtain⟨m,U,c,_⟩:=j.e
have b1:=c.ft.ok.bl1
have b2:=j.w.qs.ok.b2
have eB:=c.ft.eB
refine⟨_,(qE (qM (qJ3 rfl (by rfl) T.aFC qC (qA (yC ["self","block"] [0] rfl (jM (jB (pv 0) T.fY T.aAB (zA T S).mono Z S.tI.b .nil qK)) (λz z z z z=>(qT (i:=1) (show List.Nodup (["self","block"]:List Str)from by decide))) (λz z z z z=>uR) (λz z z z z=>(qY (vI (K:=K) rfl (pv 0) rfl) T.fZ T.i8 (uH T S).mono Z S.iY.b .nil qK (qA (pv 1) qD))) (by kernel_rfl) (jI (by decide))) qD)))),?_⟩
try dsimp-beta-proj-iota-zeta-eta only[wishK,cxK]
refine(iV rfl (iM U.o rfl ⟨x,_,_,_,_,m,s.q,rfl,U,c.ft,λp H1 n1 s1 h1=>?_⟩))
rw[c.br,yJ]at h1
refine⟨p,rfl,⟨_,SqL.of h1⟩,λD H2 nD s2 hD=>?_⟩
refine q79 (K:=K) (xs:=(List.range s.q.B).map vn) (D:=D) (λi z=>Same H1 z/\z D=some (.lst ((((List.range s.q.B).take i).map λb=>s.cl.getD b 0).map V.int))) ⟨s2,hD⟩ (λi z I=>SqL.of (I.1 _ _ h1)) (λi y z hy I=>?_) (λz I=>?_)
.obtain⟨J,N⟩:=I;have O:=U.same (s1.trans J);rw[mF]at hy;obtain⟨b,hb,rfl⟩:=mK.mp hy;obtain⟨hi,eb⟩:=kC.mp hb;have bB:b<s.q.B:=mV.mp (gL hb);refine(iV rfl (iF O.o T.fY T.iR rfl (iM O.ch.ins rfl ⟨_,rfl,x.c,x.a,m,_,rfl,O.ch,c.ft.ok,by lia,by lia,?_⟩)));rw[mC,c.cl];refine⟨_,N,?_,λb o e=>?_,?_⟩
 .rw[hU,hU,gF,mM];have:(16:Nat)<sizeLine:=by decide
  lia
 .rw[qF (qG e nD)];exact J _ _ e
 rw[qI,<-kW hi,mE,mE,eb];rfl
obtain⟨J,N⟩:=I
rw[hU,mY]at N
refine⟨D,_,rfl,SqL.of N,λe=>?_,λM hM le=>?_⟩
.have:=dL List.length e;rw[hU,mM]at this;simp at this;lia
rw[qLW j.w.lc (by lia) hM le]
exact kk z (s1.trans J))
inductive spCb(t:Adr)(vs:List V)(H:Hp)(Q:VK)(E_:XK):Prop
|mk:∀x k sh sr s p rs,∀L:List Nat,vs=[.ref x.s,.ref p]->XR t H x k sh sr s->H p=some (.lst rs)->Tls H rs (L.map s.tl)->L.length<=16->(∀p' rs' H',H p'=none->Same H H'->H' p'=some (.lst rs')->Tls H' rs' ((s.clb k L).map s.tl)->Q (.ref p') H')->spCb t vs H Q E_
theorem q0O(T:tXx)(S:tFf):S.oY.Ok0 P w mg base 7 (spCb t):=by(
refine S.oY.F.ok0 q0N λaq A _ s H vs Q E hr h=>?_
obtain⟨x,k,sh,sr,s,p,rs,L,rfl,j,Z,ty,ao,kk⟩:=h
have sz:(16:Nat)<sizeLine:=by decide
refine⟨_,(qB (qU (i:=2) q0N.nd (qL jU (jB (pv 0) T.fY T.aDU (q8O T S).mono hr S.aBX.b .nil qK) (qJ (qJ (pv 0) rfl) rfl))) (qE (qM (yC ["bound","tally"] [2] rfl (jM (pv 1)) (λz z z z z=>(qT (i:=1) (show List.Nodup (["bound","tally"]:List Str)from by decide))) (λz z z z z=>(yV (qP q0J (qO (yY (K:=K) rfl) (pv 1) qC (λz z=>rfl)) (pv 0) (qQ _)))) (λz z z z z=>(pv 1)) (by kernel_rfl) (jI (by decide)))))),?_⟩
try dsimp-beta-proj-iota-zeta-eta only[wishK,cxK]
refine(iV rfl (iM j.o rfl ⟨x,k,sh,sr,s,rfl,j,λH1 U=>?_⟩))
obtain⟨m,h1,c,_⟩:=(j.same U).e
refine(iV rfl (iF h1.o T.fY T.f8 rfl (iF h1.te T.iC T.aAU rfl (iI ?_))))
refine⟨_,rfl,p,rfl,⟨_,SqL.of (U _ _ Z)⟩,λD H2 nD s2 hD=>?_⟩
have ad:=ty.same U
unfold XS.clb at kk
refine yW (K:=K) (xs:=rs) (D:=D) (λi O=>∃I,Same H1 O/\O D=some (.lst I)/\I.length<=i/\Tls H1 I (((L.take i).filter λb=>decide (s.cl.getD b 0<s.lst+k.sp)).map s.tl)) ⟨_,s2,hD,kO _,.nil⟩ (λi O hp=>by obtain⟨_,N,_⟩:=hp;exact SqL.of (N _ _ (U _ _ Z))) (λi y O hy hp=>?_) (λO hp=>?_)
.obtain⟨I,N,hd,ln,J⟩:=hp;obtain⟨o,ho,tp,rfl,aa⟩:=Paired.at ad hy;rw[mF]at ho;obtain⟨b,hb,rfl⟩:=mK.mp ho;have hi:=(kC.mp hb).1;obtain rfl:L[i]=b:=(kC.mp hb).2;refine⟨_,rfl,iT (k:=_) (v:=_) (SqT.of (N _ _ aa)) rfl ⟨_,rfl,iI ⟨_,rfl,?_⟩⟩⟩;rw[qBY hi];have e2:(s.tl L[i]).cl=s.cl.getD L[i] 0:=rfl;by_cases z:s.cl.getD L[i] 0<s.lst+k.sp
 .rw[hG (show(s.tl L[i]).cl<s.lst+k.sp from z),hG z,kL rfl,mE];refine iteT ?_;refine⟨_,rfl,_,hd,by lia,_,λb o e=>?_,qI,?_,L2.Paired.snoc J ⟨tp,rfl,aa⟩⟩
  .rw[qF (qG e nD)];exact N _ _ e
  rw[kU];exact rV ln 1
 rw[hX (show ¬(s.tl L[i]).cl<s.lst+k.sp from z),hX z,kE (by decide),gN];exact iteF ⟨_,N,hd,by lia,J⟩
obtain⟨I,N,hd,ln,J⟩:=hp
have lr:=ty.len
rw[hU]at lr
rw[lr,mY]at J
exact kk D I O (U.free nD) (U.trans N) hd (J.same N))
inductive spOpE(t:Adr)(vs:List V)(H:Hp)(Q:VK)(E_:XK):Prop
|mk:∀x k sh sr s,vs=[.ref x.s]->XR t H x k sh sr s->k.ev=true->(∀p rs H',H p=none->XR t H' x k sh sr s->Keep [t.fW] H H'->H' p=some (.lst rs)->Tls H' rs (s.ots k)->Q (.ref p) H')->spOpE t vs H Q E_
theorem XR.opts{x:Sto}{k:Tm}{s:XS}(j:XR t H x k sh sr s)(ev:k.ev=true)(kk:∀p rs H',H p=none->XR t H' x k sh sr s->Keep [t.fW] H H'->H' p=some (.lst rs)->Tls H' rs (s.ots k)->Q (.ref p) H'):spOpE t [.ref x.s] H Q E:=⟨x,k,sh,sr,s,rfl,j,ev,kk⟩
theorem qCY{k:Tm}{s:XS}(h:WX k s):(s.ded k).length<=16/\(s.ful k).length<=16:=by
 have z:=h.qs.ok.b2;have:(s.ful k).length<=16:=by refine kQ (kY _ _) ?_;rw[mM];exact z
 exact⟨kQ (kY _ _) this,this⟩
theorem qJ9{p:Addr}(k1:Keep [t.fW] H H')(tb:TbF t H')(np:H' p=none):H p=none:=by(
refine k1.none (λz=>?_) np
obtain⟨I,D,_⟩:=tb
rw[kD.mp z]at np
lia)
theorem zN(T:tXx)(S:tFf)(B:BmIn base mg):S.o6.Ok0 P w mg base 12 (spOpE t):=by(
refine S.o6.F.ok0 q68 λac A _ s H vs Q E Z h=>?_
obtain⟨x,k,sh,sr,s,rfl,j,ev,kk⟩:=h
refine⟨_,(qE (qM (qY (pv 0) T.fY T.aAI (q0O T S).mono Z S.oY.b .nil qK (qA (jB (pv 0) T.fY T.aAO (q1O T S B).mono Z S.i6.b .nil qK) qD)))),?_⟩
obtain⟨m,N,c,_⟩:=j.e
refine(iV rfl (iM N.o rfl (iV rfl (iM N.o rfl ⟨x,_,_,_,m,s.q,_,rfl,N,c.ft,λl p rs H1 hl np I z h1 ty=>?_⟩))))
have U:=j.kT I z
have ty:=q6O ty
rw[c.br,c.cl]at hl
rw[qGW j.w c.br hl,qGX c.cl]at ty
refine⟨x,k,sh,sr,s,p,rs,s.ded k,rfl,U,h1,ty,(qCY j.w).1,λp' O H2 D s2 h2 J=>?_⟩
refine kk p' O H2 (qJ9 I z D) (U.same s2) (I.trans (Keep.same s2)) h2 ?_
unfold XS.ots XS.opt
rw[ev]
exact J)
theorem qN0:FnScope ["tally"] ["tally"] lbSc:=⟨rfl,rfl,rfl,by decide+kernel,rfl,by decide+kernel,by decide+kernel⟩
inductive spLb(g c:Addr)(pm ct:Value)(vs:List V)(H:Hp)(Q:VK)(E_:XK):Prop
|mk:∀v T,vs=[v]->TlAt H v T->H g=some (fnO g (lbFd pm ct c))->H c=some (cdO c lbQ)->NewO H (.tup [.int (Tl.cl T),.int (Tl.b T)]) Q->spLb g c pm ct vs H Q E_
theorem qN1{c:Addr}{pm:Value}{bs:Heap}:FnOk P w K mg bs CX0 1 g (lbFd pm ct c) ["tally"] (spLb g c pm ct):=by(
refine qLF  qN0 (λD H Q E h=>?_) (λD H Q E h=>?_) (λA outer s H D Q E J h=>?_)
.repeat obtain⟨_,h⟩:=h
 all_goals subst_vars;rfl
.obtain⟨v,T,rfl,_,a,b,_⟩:=h;exact⟨a,b⟩
obtain⟨v,T,rfl,⟨I,rfl,z⟩,_,_,q⟩:=h
refine⟨_,yB (qA (qO qW (pv 0) qC (λU U=>rfl)) (qA (qO qW (pv 0) qC (λU U=>rfl)) qD)),?_⟩
exact⟨_,rfl,iT   (SqT.of z) rfl ⟨_,rfl,iT   (SqT.of z) rfl ⟨sz2,q⟩⟩⟩)
theorem qHI{c:Addr}{pm:Value}:yG K (lbFd pm ct c) ["tally"] []:=yG.all λus hl=>match us,hl with| [_],_=>rfl
theorem qJA(h:TbB t H):∃ps,H t.fX=some (.tbl ps)/\TriplesOk ps.toList/\((codeAmong lbP ps.toList=none/\∀c H',H' t.fX=some (.tbl (ps++triB c))->H' c=some (cdO c lbQ)->TbB t H')\/∃c,codeAmong lbP ps.toList=some (.ref c)/\H c=some (cdO c lbQ)):=by(
obtain⟨ps,hT,h⟩:=h
rcases h with rfl|⟨c,rfl,a⟩
.exact⟨_,hT,trivial,.inl ⟨rfl,λc H' z D=>⟨_,z,.inr ⟨c,rfl,D⟩⟩⟩⟩
exact⟨_,hT,trivial,.inr ⟨c,rfl,a⟩⟩)
theorem qJB{L:List Nat}{i:Nat}(pw:L.Pairwise (· < ·))(hi:i<L.length)(h:∀j,j<L.length->lx (keyN cl (L.getD j 0)) (keyN cl (L.getD i 0))=false):minF cl L=some (L.getD i 0):=by(
have gd:∀{j},(D:j<L.length)->L.getD j 0=L[j]:=fun {j} D=>by rw[kJ,kF D];rfl
obtain⟨h1,h2⟩:=zR  pw
cases z:minF cl L with
|none=>rw[h1 z]at hi;cases hi
|some b=>
 obtain⟨J,N⟩:=h2 b z;obtain⟨j,D,rfl⟩:=wC J;have I:=h j D;have O:=N (L.getD i 0) (by rw[gd hi];simp);rw[gd D]at I;have e:=q5M _ _ I O;unfold keyN at e;rw[show L[j]=L.getD i 0 by lia])
theorem qAO{k:Tm}{s:XS}:(s.clb k (s.ful k)).Pairwise (· < ·):=by exact(rE.filter _).filter _
theorem qE7{kn:Nat}{cells:List (Str×Addr)}{σ:St}{H4:Hp}{D f c':Addr}{k:Tm}{s:XS}{rs:List V}{L:List Nat}{pm ct:Value}{Q:VK}(hk:1<=kn)(ne:L≠[])(pw:L.Pairwise (· < ·))(hD:H4 D=some (.lst rs))(ty:Tls H4 rs (L.map s.tl))(hf:H4 f=some (fnO f (lbFd pm ct c')))(hc:H4 c'=some (cdO c' lbQ))
 (kk:∀b v H',minF s.cl L=some b->Same H4 H'->TlAt H' v (s.tl b)->Q v H'):
 ∃(f':Addr) (fd:FuncData) (sp:Heap->Sp),V.ref f=.ref f'/\(∀base',(∀b o,base.get? b=some o->base'.get? b=some o)->q2N cells σ base' []->FnOk P w K mg base' CX0 kn f' fd ["tally"] (sp base'))/\yG K fd ["tally"] []/\∃(l:Addr) (us:List V) (kf:Nat->List Int) (Pv:Nat->List V->Hp->Prop),[V.ref D]=[.ref l]/\0<us.length/\Pv 0 [] H4/\(∀i zs H',Pv i zs H'->SqL K H' l us/\zs.length=i/\KeyI K kf H' zs)/\(∀base' i x zs H',q2N cells σ base' []->us[i]?=some x->Pv i zs H'->sp base' [x] H' (λz H''=>Pv (i+1) (zs++[z]) H'') E0)/\∀i zs H',i<us.length->(∀j,j<us.length->lx (kf j) (kf i)=false)->Pv us.length zs H'->Q (us.getD i .non) H':=by(
have ln:=ty.len
rw[hU]at ln
refine⟨f,lbFd pm ct c',λ_=>spLb f c' pm ct,rfl,λ_ _ _=>qN1.mono hk,qHI,D,rs,λj=>keyN s.cl (L.getD j 0),λi zs H'=>Same H4 H'/\i<=L.length/\Paired (TupD H') zs ((L.take i).map (keyN s.cl)),rfl,by have:=nG.mpr ne;lia,⟨Same.refl H4,m9 _,.nil⟩,λi zs H' S=>?_,λbase' i y zs H' _ hy S=>?_,λi zs H' Z hm S=>?_⟩
.obtain⟨I,le,O⟩:=S;have lz:=O.len;rw[hU,gF]at lz;refine⟨SqL.of (I _ _ hD),by lia,λj z hz=>?_⟩;have hj:=(kC.mp hz).1;obtain⟨kv,hk,U,rfl,ac⟩:=Paired.at O hz;rw[mF,List.getElem?_take,kL (by lia)]at hk;obtain⟨b,J,rfl⟩:=mK.mp hk;show TupI K H' (V.ref U) (keyN s.cl (L.getD j 0));rw[kJ,J];exact⟨U,rfl,SqT.of ac⟩
.obtain⟨I,le,O⟩:=S;obtain⟨o,N,hv⟩:=Paired.at ty hy;rw[mF]at N;obtain⟨b,J,rfl⟩:=mK.mp N;have Z:=(kC.mp J).1;refine⟨y,s.tl b,rfl,hv.same I,I _ _ hf,I _ _ hc,λU H5 ak s5 e5=>⟨I.trans s5,Z,?_⟩⟩;rw[q9D (f:=keyN s.cl) J];exact L2.Paired.snoc (jH O s5) ⟨U,rfl,e5⟩
obtain⟨I,le,O⟩:=S
have aa:i<L.length:=by lia
obtain⟨o,N,hv⟩:=Paired.at ty (kF Z)
rw[mF]at N
obtain⟨b,J,rfl⟩:=mK.mp N
have e:L.getD i 0=b:=by rw[kJ,J];rfl
have:=qJB (cl:=s.cl) pw aa (λj hj=>hm j (by lia))
rw[e]at this
refine kk b _ H' this I ?_
rw[kJ,kF Z]
exact hv.same I)
inductive spBc(t:Adr)(vs:List V)(H:Hp)(Q:VK)(E:XK):Prop
|mk:∀x k sh sr s,vs=[.ref x.s]->XR t H x k sh sr s->k.ev=true->(match s.chg k with
|none=>∀H',XR t H' x k sh sr s->Keep [t.fW] H H'->E (.ref t.C_NoRoom) none H'
|some b=>∀H',XR t H' x k sh sr s->Keep [t.fW,t.fX] H H'->Q (.int (b:Int)) H')->spBc t vs H Q E
theorem q1Q(T:tXx)(S:tFf)(B:BmIn base mg):FnOk P w K mg base (CXe P w) 11 t.f_Even_block_to_change S.iU ["self"] (spBc t):=by(
refine S.aAL.okE vG (λvs H Q E h=>?_) (λA outer s H vs Q E Z h=>?_)
.repeat obtain⟨_,h⟩:=h
 all_goals subst_vars;rfl
obtain⟨x,k,sh,sr,s,rfl,j,ev,kk⟩:=h
refine⟨_,(qB (qU (i:=1) vG.nd (qY (pv 0) T.fY T.aAI (q0O T S).mono Z S.oY.b .nil qK (qA (jB (pv 0) T.fY T.o9 (vC T S B).mono Z S.iX.b .nil qK) qD))) (qB (jG (qP (q5K Z.units) (pv 1) (jS qD) (qQ _)) (qE (qFT q02 rfl rfl T.aEI T.aF1 (qA zY qD))) qS) (qE (qM (qO qW (qFW (qJ7 (k:=9) (x:="tally") [] (by intro p hp;cases hp) rfl Z.units Z (by rfl) T.aFC (qDQ (clos:=[]) rfl T.aAC B rfl rfl) (qA (pv 1) qD))) qC (λz z=>rfl)))))),?_⟩
try dsimp-beta-proj-iota-zeta-eta only[wishK,cxK]
obtain⟨m,hs,c,_⟩:=j.e
refine(iV rfl (iM hs.o rfl (iV rfl (iM hs.o rfl ⟨x,_,_,_,m,s.q,_,rfl,hs,c.ft,λl p rs H1 hl np k1 az h1 ty=>?_⟩))))
have j1:=j.kT k1 az
have ty:=q6O ty
rw[c.br,c.cl]at hl
rw[c.br,qCQ j.w hl,qGX c.cl]at ty
refine⟨x,k,sh,sr,s,p,rs,s.ful k,rfl,j1,h1,ty,(qCY j.w).2,λp' a1 H2 ba s2 h2 a0=>?_⟩
have j2:=j1.same s2
have k2:Keep [t.fW] H H2:=k1.trans (Keep.same s2)
refine⟨_,rfl,sz0,λe6 H6 n6 s6 h6=>⟨p',_,e6,rfl,rfl,SqL.of (s6 _ _ h2),SqL.of h6,_,rfl,?_⟩⟩
have k6:Keep [t.fW] H H6:=k2.trans (Keep.same s6)
have j6:=j2.same s6
have N:=a0.same s6
have O:=s6 _ _ h2
have ln:=N.len
rw[hU]at ln
have pw:=qAO (k:=k) (s:=s)
unfold XS.chg at kk
generalize s.clb k (s.ful k)=L at kk N ln pw
cases a1 with
|nil=>obtain rfl:L=[]:=sS ln.symm;exact iteT ⟨sz1,kk H6 j6 k6⟩
|cons u us=>
 have ne:L≠[]:=λz=>by rw[z]at ln;cases ln
 refine iteF ?_;obtain⟨J,eJ⟩:∃J:VK,J=λv D=>∃tp b,v=.ref tp/\D tp=some (.tup ((s.tl b).ns.map V.int))/\minF s.cl L=some b/\XR t D x k sh sr s/\Keep [t.fW,t.fX] H D:=⟨_,rfl⟩;refine⟨J,?_,?_⟩
 .refine⟨_,rfl,?_⟩;obtain⟨pf,ap,aw,tB⟩:=j6.tb;obtain⟨ps,hT,ht,as⟩:=qJA tB;have nT:p'≠t.fX:=λz=>by rw[z,hT]at O;cases O
  refine⟨ps,hT,ht,?_⟩;have fin:∀b v I D,Keep [t.fW,t.fX] H6 I->XR t I x k sh sr s->minF s.cl L=some b->Same I D->TlAt D v (s.tl b)->J v D:=λb v I D k4 j4 e U hv=>by obtain⟨tp,rfl,h5⟩:=hv;rw[eJ];exact⟨tp,b,rfl,h5,e,j4.same U,((k6.mono (by simp)).trans k4).trans (Keep.same U)⟩
  rcases as with⟨hn,tb⟩|⟨c0,hn,hc0⟩
  .refine .inl ⟨hn,λf c' ar I nf hf af ay kp=>?_⟩;have ao:t.fW≠t.fX:=T.aA9;have k4:Keep [t.fW,t.fX] H6 I:=⟨λb o nb e=>kp b o (λz=>nb (by rw[z];simp)) e,λb xs e=>kp b _ (λz=>by rw[z,hT]at e;cases e) e⟩;have am:Keep [t.fX] H6 I:=⟨λb o nb e=>kp b o (λz=>nb (by rw[z];simp)) e,k4.tp⟩;have aj:TbF t I:=by
    refine⟨pf,kp _ _ ao ap,?_,tb c' I ay af⟩;rcases aw with z|⟨c1,z,a⟩
    .exact .inl z
    exact .inr ⟨c1,z,kp _ _ (λz=>by rw[z,hT]at a;cases a) a⟩
   obtain⟨m6,aq,_⟩:=j6.e;have j4:=j6.keep am (λb hb z=>aq.nX hT (.inl ⟨_,rfl⟩) (by rw[<-kD.mp z];exact hb)) aj;exact qE7 (k:=k) (s:=s) (show 1<=11-2 by decide) ne pw (kp _ _ nT O) (Paired.mapP N λv o ⟨a,e,z⟩=>⟨a,e,k4.tp _ _ z⟩) hf af λb v D e U hv=>fin b v I D k4 j4 e U hv
  refine .inr ⟨c0,hn,λf ar I nf hf s4=>?_⟩;exact qE7 (k:=k) (s:=s) (show 1<=11-2 by decide) ne pw (s4 _ _ O) (N.same s4) hf (s4 _ _ hc0) λb v D e U hv=>fin b v I D (Keep.same s4) (j6.same s4) e U hv
 rw[eJ];rintro v D ⟨tp,b,rfl,h5,e,j5,k5⟩
 rw[e]at kk;exact(iT (k:=0) (v:=_) (SqT.of h5) rfl (kk D j5 k5)))
inductive spCh(t:Adr)(vs:List V)(H:Hp)(Q:VK)(E:XK):Prop
|mk:∀x k sh sr s r rl g,vs=[.ref x.s]->XR t H x k sh sr s->k.ev=true->x.ru=.ref r->RuX t H r rl g->Off t x (r::rl)->s.rc.length<1000000->(match s.tk k g with
|none=>∀H',XR t H' x k sh sr s->Keep [t.fW] H H'->E (.ref t.C_NoRoom) none H'
|some (y,b,g')=>∀p H',Keep [t.fW,t.fX,r] H H'->XR t H' x k sh sr s->RuX t H' r rl g'->H' p=some (.tup [.str y,.int (b:Int)])->Q (.ref p) H')->spCh t vs H Q E
theorem q86(T:tXx)(S:tFf)(B:BmIn base mg):S.aBD.OkE P w mg base 13 (spCh t):=by(
refine S.aBD.F.okE q3B (λvs H Q E h=>?_) (λa0 A outer s H vs Q E Z h=>?_)
.repeat obtain⟨_,h⟩:=h
 all_goals subst_vars;rfl
obtain⟨x,k,sh,sr,s,r,rl,g,rfl,j,ev,er,hR,of,rc,kk⟩:=h
refine⟨_,(qB (qU (i:=1) q3B.nd (jB (pv 0) T.fY T.tX (zN T S B).mono Z S.o6.b .nil qK)) (qB (jG (qP (q5K Z.units) (pv 1) (jS qD) (qQ _)) (qE (qM (yB (qA zY (qA (vU q02 (pv 0) T.fY T.aAM (q1Q T S B).mono Z S.aAK .nil) qD))))) qS) (qE (qM (qY (pv 0) T.fY T.aAX (q1P T S).mono Z S.i5.b .nil qK (qA (pv 1) qD)))))),?_⟩
try dsimp-beta-proj-iota-zeta-eta only[wishK,cxK]
refine(iV rfl (iM j.o rfl ?_))
dsimp only[tNil,dS]
refine j.opts ev λp rs H1 np j1 k1 h1 ty=>?_
refine⟨_,rfl,sz0,λe6 H6 n6 N h6=>⟨p,_,e6,rfl,rfl,SqL.of (N _ _ h1),SqL.of h6,_,rfl,?_⟩⟩
have k6:Keep [t.fW] H H6:=k1.trans (Keep.same N)
have j6:=j1.same N
have ln:=ty.len
unfold XS.tk at kk
cases rs with
|nil=>
 have e0:s.opt k=[]:=pG.mp (sS ln.symm);rw[kL e0,ev,kL rfl]at kk;refine iteT ?_;refine(iV rfl (iM j6.o rfl ⟨x,k,sh,sr,s,rfl,j6,ev,?_⟩));have oT:=of t.fW (by simp);have oB:=of t.fX (by simp);cases z:s.chg k with
 |none=>rw[z]at kk;exact λH7 j7 I=>kk H7 j7 (k6.trans I)
 |some b=>
  rw[z]at kk;refine λH7 j7 I=>⟨sz2,λtp H8 n8 s8 h8=>?_⟩;have k8:Keep [t.fW,t.fX] H H8:=((k6.mono (by simp)).trans I).trans (Keep.same s8);refine kk tp H8 (k8.mono (by intro y D;simp at D ⊢;rcases D with e|e<;>simp[e])) (j7.same s8) (hR.keep k8 λy D z=>?_) h8;have z:y=t.fW\/y=t.fX:=by simpa using z
  rcases z with z|z
  .exact oT (by rw[<-z];exact D)
  exact oB (by rw[<-z];exact D)
|cons u us=>
 have ne:s.opt k≠[]:=λz=>by unfold XS.ots at ln;rw[z]at ln;cases ln
 rw[kE ne]at kk;refine iteF ?_;obtain⟨m,O,c,_⟩:=j6.e;have oT:=of t.fW (by simp);have U:=hR.keep k6 (λy D z=>oT (by rw[<-kD.mp z];exact D));have J:s.ots k≠[]:=λz=>ne (pG.mp z);have aj:∀o∈s.ots k,o.Ok (s.q.P:Int) s.q.nx:=λo ho=>by obtain⟨b,hb,rfl⟩:=kP.mp ho;exact qJV j.w rc (uN.mp hb).1.1.b
 refine(iV rfl (iM O.o rfl ⟨_,rfl,x,_,_,_,_,m,s.q,r,rl,g,p,_,_,rfl,O,c.ft,er,U,N _ _ h1,ty.same N,J,by unfold XS.ots;rw[hU];exact qLO j.w,aj,qIR,λpp H7 I ai h7=>?_⟩));have cm:=qGZ (pg:=(s.q.P:Int)) (nw:=s.q.nx) hR.ok J;refine kk pp H7 ((k6.mono (by simp)).trans (I.mono (by simp))) (j6.kR of I U) ai ?_;rw[h7];obtain⟨b,hb,e⟩:=kP.mp cm;obtain⟨c',_,rfl⟩:=kP.mp hb;have e:(c':Int)=(g.ch (s.q.P:Int) s.q.nx (s.ots k)).1:=e;rw[<-e,mC])
inductive spPp(K:W.Frag)(vs:List V)(H:Hp)(Q:VK)(E_:XK):Prop
|mk:∀wy bl wi l1 l2 rs us,vs=[wy,.ref l1,bl,.ref l2,wi]->H l1=some (.lst rs)->H l2=some (.lst us)->(∀pa a1 a2 H',Same H H'->H pa=none->H a1=none->H a2=none->a1≠a2->H' pa=some (.tup [wy,.ref a1,bl,.ref a2,wi])->H' a1=some (.lst rs)->H' a2=some (.lst us)->Q (.ref pa) H')->spPp K vs H Q E_
theorem q65(T:tXx)(S:tFf):S.aCD.Ok0 P w mg base 1 (spPp K):=by(
refine S.aCD.F.ok0 qBQ λag A _ s H vs Q E hr h=>?_
obtain⟨wy,bl,wi,l1,Z,rs,us,rfl,h1,h2,k⟩:=h
refine⟨_,(qE (qM (yB (qA (pv 0) (qA (vE uI (by rfl) T.aB8 (by kernel_rfl) (qA (pv 1) qD)) (qA (pv 2) (qA (vE uI (by rfl) T.aB8 (by kernel_rfl) (qA (pv 3) qD)) (qA (pv 4) qD)))))))),?_⟩
refine⟨_,rfl,_,rfl,l1,rs,rfl,.inl (SqL.of h1),λa1 H1 n1 z N=>?_⟩
refine⟨_,rfl,_,rfl,Z,us,rfl,.inl (SqL.of (z _ _ h2)),λO H2 J I e2=>?_⟩
refine⟨_,rfl,sz5,λpa H3 U D e3=>?_⟩
exact k pa a1 O H3 ((z.trans I).trans D) ((z.trans I).free U) n1 (z.free J) (qG N J) e3 (D _ _ (I _ _ N)) (D _ _ e2))
theorem qJC{s:XS}{k:Tm}{b:Nat}{rs:List (List Int)}(w:WX k s)(pm:rs.Perm (lpK s.q.P b s.q.V))(so:rs.Pairwise λa b=>lx b a=false):rs=lvP s.q.P b s.q.V:=by(
refine qIQ w.qs.ok.p1 w.pd ?_ (λkk=>?_) so
.refine pm.nodup_iff.mpr ?_;refine dO.mpr (((dO.mp w.qs.ok.nd).imp fun {a c} hne z=>hne ?_).filter _);injection z with _ z
 injection z with z _
rw[pm.mem_iff]
unfold lpK
rw[kP]
constructor
.rintro⟨y,hy,rfl⟩
 obtain⟨I,D⟩:=mQ.mp hy;exact⟨y.1,y.2,rfl,I,mI D⟩
rintro⟨n,p,rfl,I,D⟩
exact⟨(n,p),mQ.mpr ⟨I,hG D⟩,rfl⟩)
inductive spMv(t:Adr)(vs:List V)(H:Hp)(Q:VK)(E:XK):Prop
|mk:∀x k sh sr s,∀b:Nat,vs=[.ref x.s,.int (b:Int)]->XR t H x k sh sr s->Full k s b->s.rc.length+100<1000000->(match XS.mvs (lvP s.q.P b s.q.V) s with
|(_,none)=>True
|(s',some ms)=>∀ml us H',XR t H' x k sh sr s'->H ml=none->H' ml=some (.lst us)->Paired (TupD H') us ms->Mvd k s b s' (lvP s.q.P b s.q.V).length->(∀y∈s'.q.V,¬y.2 / (s'.q.P:Int)=(b:Int))->Keep (t.fW::sf x) H H'->Q (.ref ml) H')->spMv t vs H Q E
theorem q87(T:tXx)(S:tFf)(B:BmIn base mg):S.aBH.Ok0 P w mg base 12 (spMv t):=by(
refine S.aBH.F.ok0 vR λbq A _ s H vs Q E hr h=>?_
obtain⟨x,k,sh,sr,s,b,rfl,j,fl,rc,kk⟩:=h
have s9:(99999:Nat)<sizeLine:=by decide
have a0:=fl.sp j.w
have l6:=j.w.l6
refine⟨_,(qB (qU (i:=2) vR.nd (jS qD)) (qB (uO gT rfl (jM (qY (qJ (pv 0) rfl) T.f9 T.aB0 (q4Q T S).mono hr S.tM.b .nil qK (qA (pv 1) qD))) (q6R rfl (yE (qT (i:=3) vR.nd) (yE (qT (i:=4) vR.nd) q1T))) (qE (jA (q2J gO dD dE uP (pv 2) (qA (yB (qA (pv 4) (qA (pv 3) (qA (qY (pv 0) T.fY T.aB2 (q2C T S B).mono hr S.aA0.b .nil qK (qA (pv 4) (qA (qY (pv 0) T.fY T.aA2 (q2D T S).mono hr S.oC.b .nil qK (qA (pv 3) (qA (pv 4) qD))) qD))) qD)))) qD q1C))))) (qE (qM (pv 2))))),?_⟩
try dsimp-beta-proj-iota-zeta-eta only[wishK,cxK]
refine⟨sz0,λJ H1 n1 s1 h1=>?_⟩
obtain⟨m,ac,c,_⟩:=(j.same s1).e
refine(iV rfl (iF ac.o T.fY T.iA rfl (iM ac.bk.o rfl ⟨_,rfl,x.k,s.q,b,rfl,ac.bk,j.w.qs.ok,by lia,λll ps rs H2 s2 n2 h2 al pm so=>?_⟩)))
obtain rfl:=qJC j.w pm so
have ad:=s1.trans s2
have ai:=j.off n1
have a3:=(j.same s1).off n2
have a2:ll≠J:=(qG h1 n2).symm
have as:=al.len
have lr:(lvP s.q.P b s.q.V).length<=16:=by have:=j.w.qs.ok.p2;unfold lvP;refine kQ (d6 _ _) ?_;rw[mM];exact this
refine⟨ll,rfl,⟨_,SqL.of h2⟩,?_⟩
refine zC (K:=K) (xs:=ps) (λi ap H'=>∃y3 y4 I s' ms,ap=[some (.ref x.s),some (.int (b:Int)),some (.ref J),y3,y4]/\XR t H' x k sh sr s'/\MvI k s b (lvP s.q.P b s.q.V) i s' ms/\H' J=some (.lst I)/\Paired (TupD H') I ms/\Keep (J::t.fW::sf x) H2 H') ⟨_,_,[],s,[],rfl,j.same ad,MvI.zero j.w fl.f,s2 _ _ h1,.nil,Keep.refl⟩ (λi ap H' hi hp=>?_) (λi v ap H' hv hp=>?_) (λap H' hp=>?_)
.obtain⟨y3,y4,I,s',ms,rfl,Z,N,O,pr,D⟩:=hp;refine SqL.of (D.k _ _ (λz=>?_) h2);rcases kN.mp z with e|e
 .exact a2 e
 exact a3 e
.obtain⟨y3,y4,I,s',ms,rfl,Z,N,O,pr,D⟩:=hp;obtain⟨kv,hk,tp,rfl,a1⟩:=Paired.at al hv;obtain⟨hi,aj⟩:=kC.mp hk;obtain⟨n,p,er,ag,n0,av⟩:=N.at hi;rw[er]at aj;subst aj;have am:=D.tp _ _ a1;have br:=N.rc;have bd:=N.rm;refine⟨tp,_,rfl,SqT.of am,rfl,_,_,rfl,_,_,rfl,rfl,?_⟩;refine⟨_,rfl,.inl ⟨rfl,_,SqL.of O⟩,_,rfl,_,rfl,iV rfl (iM Z.o rfl ⟨_,rfl,iV rfl (iM Z.o rfl ⟨_,rfl,_,rfl,x,k,sh,sr,s',n,p,rfl,Z,ag,λH3 s3=>?_⟩)⟩)⟩;dsimp only[tNil,wL,dS,gN];have ak:=s3 _ _ O;refine(Z.same s3).set n0 av (by lia) (by rw[N.eP];lia) (.inl ⟨p,ag⟩) (λH5 j5 k5=>?_);have ab:=k5.k _ _ ai ak;refine⟨sz3,λtu H6 n6 s6 h6=>⟨J,I,_,rfl,rfl,s6 _ _ ab,by have:=pr.len;have:=N.l;lia,?_⟩⟩;have U:=s6 _ _ ab;have k7:=Keep.upd (F:=[J]) (o:=.lst (I++[.ref tu])) U (λU z=>by cases z) (by simp);have aa:(upd H6 J (.lst (I++[.ref tu]))) J=_:=qI;have j7:=(j5.same s6).lst (o:=.lst (I++[.ref tu])) U ai;generalize upd H6 J (.lst (I++[.ref tu]))=H7 at k7 aa j7 ⊢;have kA:Keep (J::t.fW::sf x) H' H7:=(((Keep.same s3).trans (k5.mono (λy hy=>kB _ hy))).trans (Keep.same s6)).trans (k7.mono (by simp));exact⟨some (.int p),some (.int n),I++[.ref tu],_,_,rfl,j7,N.step q7L hi a0 Z.pn er,aa,L2.Paired.snoc (Paired.mapP pr λv d ⟨p',e',h'⟩=>⟨p',e',kA.tp _ _ h'⟩) ⟨tu,rfl,k7.tp _ _ h6⟩,D.trans kA⟩
obtain⟨y3,y4,I,s',ms,rfl,Z,N,O,pr,D⟩:=hp
rw[as]at N
obtain⟨e,nl⟩:=N.fin rfl
rw[e]at kk
have kH:Keep (t.fW::sf x) H H':=by
 refine⟨λy o ny e=>D.k y o (λz=>?_) (ad _ _ e),λy ys e=>D.tp _ _ (ad _ _ e)⟩;rcases kN.mp z with z|z
 .rw[z,n1]at e;cases e
 exact ny z
exact⟨_,rfl,kk J I H' Z n1 O pr (N.mvd (kO _)) nl kH⟩)
noncomputable abbrev fx(t:Adr)(x:Sto)(r pp:Addr):List Addr:=pp::r::t.fX::t.fW::sf x
def PapA(H:Hp)(F:List Addr)(v:V)(p:Pa):Prop:=∃pa l1 l2 us rs,v=.ref pa/\H pa=some (.tup [.str p.why,.ref l1,.int (p.b:Int),.ref l2,.bl true])/\H l1=some (.lst rs)/\Tls H rs p.ts/\H l2=some (.lst us)/\Paired (TupD H) us p.mv/\l1∉F/\l2∉F
theorem PapA.keep{F:List Addr}{v:V}{p:Pa}(h:PapA H F v p)(k:Keep G H H')(s:∀y∈G,y∈F):PapA H' F v p:=by obtain⟨O,Z,J,U,rs,e,a,b,c,d,f,D,I⟩:=h;exact⟨O,Z,J,U,rs,e,k.tp _ _ a,k.k _ _ (λz=>D (s _ z)) b,jL k c,k.k _ _ (λz=>I (s _ z)) d,Paired.mapP f λv d ⟨S,N,h'⟩=>⟨S,N,k.tp _ _ h'⟩,D,I⟩
structure XX(t:Adr)(H:Hp)(x:Sto)(k:Tm)(sh sr:Int)(r:Addr)(rl:List Addr)(pp:Addr)(X:Sx):Prop where
j:XR t H x k sh sr X.s
er:x.ru=.ref r
ru:RuX t H r rl X.g
of:Off t x (r::rl)
ep:x.pa=.ref pp
hp:∃ps,H pp=some (.lst ps)/\Paired (PapA H (fx t x r pp)) ps X.ps
np:pp∉t.fW::sf x
nr:pp∉r::rl
section
variable{H H':Hp}{x:Sto}{k:Tm}{sh sr:Int}{r:Addr}{rl:List Addr}{pp:Addr}{X:Sx}
theorem XX.kT(h:XX t H x k sh sr r rl pp X)(kk:Keep [t.fW] H H')(tb:TbF t H'):XX t H' x k sh sr r rl pp X:=by obtain⟨ps,h1,h2⟩:=h.hp;have I:=h.of t.fW (by simp);exact⟨h.j.kT kk tb,h.er,h.ru.keep kk (λy D z=>I (by rw[<-kD.mp z];exact D)),h.of,h.ep,⟨ps,kk.k _ _ (λz=>h.np (by rw[kD.mp z];simp)) h1,Paired.mapP h2 λU U z=>z.keep kk (by simp)⟩,h.np,h.nr⟩
theorem XX.same(h:XX t H x k sh sr r rl pp X)(s:Same H H'):XX t H' x k sh sr r rl pp X:=h.kT (Keep.same s) (h.j.tb.same s)
theorem XX.on(h:XX t H x k sh sr r rl pp X){s:XS}(kk:Keep (t.fW::sf x) H H')(j:XR t H' x k sh sr s):XX t H' x k sh sr r rl pp ⟨s,X.g,X.ps⟩:=by obtain⟨ps,h1,h2⟩:=h.hp;exact⟨j,h.er,h.ru.keep kk (λy D=>h.of.n D),h.of,h.ep,⟨ps,kk.k _ _ h.np h1,Paired.mapP h2 λU U z=>z.keep kk (by grind)⟩,h.np,h.nr⟩
end
def rfE(t:Adr)(e:Rf)(E:XK)(H:Hp):Prop:=match e with
| .dark=>True
| .room=>E (.ref t.C_NoRoom) none H
def PapN(H6 H:Hp)(v:V)(p:Pa):Prop:=∃pa c1 c2 us rs,v=.ref pa/\H6 pa=none/\H6 c1=none/\H6 c2=none/\c1≠c2/\H pa=some (.tup [.str p.why,.ref c1,.int (p.b:Int),.ref c2,.bl true])/\H c1=some (.lst rs)/\Tls H rs p.ts/\H c2=some (.lst us)/\Paired (TupD H) us p.mv
def qN2(t:Adr):Sp:=λvs H Q E=>∃x k sh sr r rl pp X,vs=[.ref x.s]/\XX t H x k sh sr r rl pp X/\k.ev=true/\X.s.rc.length+200<1000000/\X.ps.length<90000/\(match X.room k with
|(Y,.error e)=>∀H',XX t H' x k sh sr r rl pp Y->Keep (fx t x r pp) H H'->rfE t e E H'
|(Y,.ok p)=>∀v H6 H',XX t H6 x k sh sr r rl pp Y->Keep (fx t x r pp) H H6->Same H6 H'->PapN H6 H' v p->Q v H')
theorem q0F(T:tXx)(S:tFf)(B:BmIn base mg):S.oJ.OkE P w mg base 14 (qN2 t):=by(
refine S.oJ.F.okE yP (λvs H Q E h=>?_) (λda A outer s H vs Q E hr h=>?_)
.repeat obtain⟨_,h⟩:=h
 all_goals subst_vars;rfl
obtain⟨x,k,sh,sr,r,rl,pp,X,rfl,h,ev,rc,lp,kk⟩:=h
have s9:(99999:Nat)<sizeLine:=by decide
refine⟨_,(qB (qU (i:=1) yP.nd (jB (pv 0) T.fY T.tX (zN T S B).mono hr S.o6.b .nil qK)) (qB (qU (i:=2) yP.nd (vU q02 (pv 0) T.fY T.aDF (q86 T S B).mono hr S.aBD.b .nil)) (qB (qU (i:=3) yP.nd (qY (pv 0) T.fY T.aD2 (q87 T S B).mono hr S.aBH.b .nil qK (qA (qO qW (pv 2) qC (λz z=>rfl)) qD))) (qB (qU (i:=4) yP.nd (qY (pv 0) T.fY T.aDZ (q82 T S).mono hr S.aBP.b .nil qK (qA (qO qW (pv 2) qC (λz z=>rfl)) qD))) (qB (jA (q2J gO dD dE uP (qJ (pv 0) rfl) (qA (qZ (q65 T S).mono hr rfl T.aCM T.aCH S.aCD.b .nil qK (qA (qO qW (pv 2) qC (λz z=>rfl)) (qA (pv 1) (qA (qO qW (pv 2) qC (λz z=>rfl)) (qA (pv 3) (qA (pv 4) qD)))))) qD))) (qE (qM (qZ (q65 T S).mono hr rfl T.aCM T.aCH S.aCD.b .nil qK (qA (qO qW (pv 2) qC (λz z=>rfl)) (qA (pv 1) (qA (qO qW (pv 2) qC (λz z=>rfl)) (qA (pv 3) (qA (pv 4) qD))))))))))))),?_⟩
try dsimp-beta-proj-iota-zeta-eta only[wishK,cxK]
refine(iV rfl (iM h.j.o rfl ?_))
dsimp only[tNil,dS]
refine h.j.opts ev λO rs H1 np j1 k1 h1 ty=>?_
have aq:=h.kT k1 j1.tb
have mT:∀y∈[t.fW],y∈fx t x r pp:=by simp
refine(iV rfl (iM j1.o rfl ⟨x,k,sh,sr,X.s,r,rl,X.g,rfl,j1,ev,h.er,aq.ru,h.of,by lia,?_⟩))
unfold Sx.room at kk
cases htk:X.s.tk k X.g with
|none=>rw[htk]at kk;exact λH2 j2 k2=>kk H2 (aq.kT k2 j2.tb) ((k1.mono mT).trans (k2.mono mT))
|some bm=>
 obtain⟨y,b,g'⟩:=bm;rw[htk]at kk;have fb:=q3T h.ru.ok htk;refine λcp H2 k2 j2 b1 h2=>?_;have m2:∀y∈[t.fW,t.fX,r],y∈fx t x r pp:=by simp
 have mS:∀y∈t.fW::sf x,y∈fx t x r pp:=λy hy=>kB _ (kB _ (kB _ hy));have b3:Keep (fx t x r pp) H H2:=(k1.mono mT).trans (k2.mono m2);have am:pp∉r::t.fW::sf x:=λz=>(kN.mp z).elim (λe=>h.nr (by rw[e];exact kX)) h.np;obtain⟨ps,U,ah⟩:=h.hp;obtain⟨_,cg,_,pB,aw,_⟩:=h.j.tb;have b4:pp∉[t.fW,t.fX,r]:=λz=>by
  have z:pp=t.fW\/pp=t.fX\/pp=r:=by simpa using z
  rcases z with z|z|z
  .exact am (by rw[z];simp)
  .rw[z,aw]at U;cases U
  exact am (by rw[z];simp)
 have cr:=ah.len;have a3:XX t H2 x k sh sr r rl pp ⟨X.s,g',X.ps⟩:=⟨j2,h.er,b1,h.of,h.ep,⟨ps,k2.k _ _ b4 (k1.k _ _ (λz=>h.np (by rw[kD.mp z];simp)) U),Paired.mapP ah λU U z=>(z.keep k1 mT).keep k2 m2⟩,h.np,h.nr⟩;have opn:=h.j.off np;obtain⟨C0,d0,f0,bn⟩:=h.ru.ins;have bh:O≠r:=λz=>by rw[z,bn]at np;cases np
 have bp:O≠pp:=λz=>by rw[z,U]at np;cases np
 have an:H2 O=some (.lst rs):=k2.k _ _ (λz=>by
  have z:O=t.fW\/O=t.fX\/O=r:=by simpa using z
  rcases z with z|z|z
  .exact opn (by rw[z];simp)
  .rw[z,aw]at np;cases np
  exact bh z) h1
 refine(iV rfl (iM j2.o rfl ⟨_,rfl,iT (k:=1) (v:=.int (b:Int)) (SqT.of h2) rfl ⟨x,k,sh,sr,X.s,b,rfl,j2,fb,by lia,?_⟩⟩));cases hmv:XS.mvs (lvP X.s.q.P b X.s.q.V) X.s with
 |mk s o=>
  dsimp only at kk;rw[hmv]at kk;cases o with
  |none=>exact trivial
  |some ms=>
   refine λml us H3 j3 nm bw bt md nl k3=>?_;dsimp only at kk;have h3:=k3.tp _ _ h2;have cv:=md.rc;have c3:(lvP X.s.q.P b X.s.q.V).length<=16:=by have:=h.j.w.qs.ok.p2;unfold lvP;refine kQ (d6 _ _) ?_;rw[mM];exact this
   refine(iV rfl (iM j3.o rfl ⟨_,rfl,iT (k:=1) (v:=.int (b:Int)) (SqT.of h3) rfl ⟨x,k,sh,sr,s,b,rfl,j3,by rw[md.eB];exact fb.b,by rw[md.eP];exact md.fb,by lia,nl,λH4 j4 k4=>⟨rfl,?_⟩⟩⟩));rw[kE j3.pn]at kk;have J:Keep (t.fW::sf x) H2 H4:=k3.trans k4;have ax:=a3.on J j4;obtain⟨I,D,af⟩:=ax.hp;have ay:=af.len;have a6:=ax.ru;obtain⟨C4,d4,f4,bq⟩:=a6.ins;have h4:=J.tp _ _ h2;have ab:=J.k _ _ opn an;have bi:=j2.off nm;have ai:=k4.k _ _ bi bw;have o4:=j4.o;rw[h.ep]at o4;refine(iV rfl (iF o4 T.fY T.i7 rfl ⟨.inl ⟨rfl,_,SqL.of D⟩,_,rfl,iT (k:=0) (v:=_) (SqT.of h4) rfl ⟨_,rfl,_,rfl,iT (k:=1) (v:=_) (SqT.of h4) rfl ⟨_,rfl,_,rfl,.str y,.int (b:Int),.bl true,O,ml,rs,us,rfl,ab,ai,λpa a1 a2 H5 s5 cw a0 ao cs e5 br bx=>⟨pp,I,_,rfl,rfl,s5 _ _ D,by simp only at ay;lia,?_⟩⟩⟩⟩));have aa:=s5 _ _ D;have Z:=Keep.upd (F:=[pp]) (o:=.lst (I++[.ref pa])) aa (λU z=>by cases z) (by simp);have ad:(upd H5 pp (.lst (I++[.ref pa]))) pp=_:=qI;have j6:=(j4.same s5).lst (o:=.lst (I++[.ref pa])) aa h.np;generalize upd H5 pp (.lst (I++[.ref pa]))=H6 at Z ad j6 ⊢;have m6:∀y∈[pp],y∈fx t x r pp:=by simp
   have as:∀{y:Addr},H4 y=none->y∉[pp]:=fun {y} e z=>by rw[kD.mp z,D]at e;cases e
   have inF:∀{y:Addr},H4 y=none->y∉fx t x r pp:=fun {y} e z=>by
    rcases kN.mp z with z|z
    .rw[z,D]at e;cases e
    rcases kN.mp z with z|z
    .rw[z,bq]at e;cases e
    rcases kN.mp z with z|z
    .obtain⟨_,_,_,_,a5,_⟩:=j4.tb;rw[z,a5]at e;cases e
    exact(j4.off e) z
   have au:O∉[pp]:=λz=>bp (kD.mp z);have bu:ml∉[pp]:=λz=>by obtain⟨cn,e2,_⟩:=a3.hp;rw[kD.mp z,e2]at nm;cases nm
   refine⟨_,rfl,iT (k:=0) (v:=_) (SqT.of (Z.tp _ _ (s5 _ _ h4))) rfl ⟨_,rfl,_,rfl,iT (k:=1) (v:=_) (SqT.of (Z.tp _ _ (s5 _ _ h4))) rfl ⟨_,rfl,_,rfl,.str y,.int (b:Int),.bl true,O,ml,rs,us,rfl,Z.k _ _ au (s5 _ _ ab),Z.k _ _ bu (s5 _ _ ai),λpb c1 c2 H7 s7 b0 bz b5 ap e7 be b2=>?_⟩⟩⟩;have N:Keep [pp] H4 H6:=(Keep.same s5).trans Z;have bj:Keep (fx t x r pp) H H6:=(b3.trans (J.mono mS)).trans (N.mono m6);have av:Tls H6 rs (X.s.ots k):=jL N (jL J (jL k2 ty));have ae:Paired (TupD H6) us ms:=Paired.mapP bt λv d ⟨p',e',h'⟩=>⟨p',e',N.tp _ _ (k4.tp _ _ h')⟩;exact kk (.ref pb) H6 H7 ⟨j6,h.er,(a6.keep N (λy hy z=>h.nr (by rw[<-kD.mp z];exact hy))),h.of,h.ep,⟨I++[.ref pa],ad,L2.Paired.snoc (Paired.mapP af λU U z=>z.keep N m6) ⟨pa,a1,a2,us,rs,rfl,Z.tp _ _ e5,Z.k _ _ (as a0) br,av,Z.k _ _ (as ao) bx,ae,inF a0,inF ao⟩⟩,h.np,h.nr⟩ bj s7 ⟨pb,c1,c2,us,rs,rfl,b0,bz,b5,ap,e7,be,jL (Keep.same s7) (F:=[]) av,b2,jH ae s7⟩)
def spMr(t:Adr):Sp:=λvs H Q E=>∃x k sh sr r rl pp X,∃i Z,vs=[.ref x.s]/\XX t H x k sh sr r rl pp X/\k.ev=true/\X.s.rc.length+100*i+200<1000000/\X.ps.length+i<90000/\X.rooms k i=some Z/\(match Z with
|(Y,.error e)=>∀H',XX t H' x k sh sr r rl pp Y->Keep (fx t x r pp) H H'->rfE t e E H'
|(Y,.ok _)=>∀H',XX t H' x k sh sr r rl pp Y->Keep (fx t x r pp) H H'->Q .non H')
theorem q42(T:tXx)(S:tFf)(B:BmIn base mg):S.tE.OkE P w mg base 15 (spMr t):=by(
refine S.tE.F.okE q3Y (λvs H Q E h=>?_) (λan A outer s H vs Q E U h=>?_)
.repeat obtain⟨_,h⟩:=h
 all_goals subst_vars;rfl
obtain⟨x,k,sh,sr,r,rl,pp,X,i,Z,rfl,h,ev,rc,lp,hZ,kk⟩:=h
refine⟨_,(qE (qAZ lE (u9 (yI (jB (pv 0) T.fY T.aEG (q7Z T S B).mono U S.aBG.b .nil qK))) (qE (jA (vU q02 (pv 0) T.fY T.aAJ (q0F T S B).mono U S.oJ.b .nil))))),?_⟩
try dsimp-beta-proj-iota-zeta-eta only[wishK,cxK]
refine⟨λn ac H2=>ac=[some (.ref x.s)]/\∃Y,XX t H2 x k sh sr r rl pp Y/\Keep (fx t x r pp) H H2/\Y.rooms k n=some Z/\Y.s.rc.length+100*n+200<1000000/\Y.ps.length+n<90000,⟨i,rfl,X,h,Keep.refl,hZ,rc,lp⟩,?_⟩
rintro n ac H2 ⟨rfl,Y,N,k2,D,aq,ap⟩
obtain⟨m,hs,c,_⟩:=N.j.e
have mT:∀y∈[t.fW],y∈fx t x r pp:=by simp
refine(iV rfl (iM hs.o rfl ⟨x,_,_,_,m,Y.s.q,_,rfl,hs,c.ft,λl H3 hl k3 O=>⟨_,rfl,?_⟩⟩))
rw[c.br,c.cl]at hl
rw[c.br,qLN N.j.w hl]
have I:=N.kT k3 O
have J:=k2.trans (k3.mono mT)
cases n with
|zero=>
 unfold Sx.rooms at D;cases z:Y.s.rd k with
 |false=>rw[z,kE (by decide)]at D;cases D
 |true=>rw[z,kL rfl]at D;cases D;exact iteF (kk H3 I J)
|succ n=>
 unfold Sx.rooms at D;cases z:Y.s.rd k with
 |true=>rw[z,kL rfl]at D;cases D;exact iteF (kk H3 I J)
 |false=>
  rw[z,kE (by decide)]at D;refine iteT ⟨_,λ_ _ z=>z,?_⟩;refine(iV rfl (iM I.j.o rfl ⟨x,k,sh,sr,r,rl,pp,Y,rfl,I,ev,by lia,by lia,?_⟩));cases hr':Y.room k with
  |mk W o=>
   rw[hr']at D;cases o with
   |error e=>cases D;exact λH4 h4 k4=>kk H4 h4 (J.trans k4)
   |ok p=>obtain⟨r1,r2⟩:=qBM N.j.w N.ru.ok hr';exact λv H6 H4 h6 k6 s4 z=>⟨n,rP _,rfl,W,h6.same s4,J.trans (k6.trans (Keep.same s4)),D,by lia,by lia⟩)
theorem zP(T:tXx)(S:tFf)(B:BmIn base mg):S.i9.OkE P w mg base 16 (spMr t):=by(
refine S.i9.F.okE q3X (λD H Q E h=>?_) (λz A outer s H D Q E I h=>?_)
.repeat obtain⟨_,h⟩:=h
 all_goals subst_vars;rfl
obtain⟨x,k,sh,sr,r,rl,pp,X,i,Z,rfl,h⟩:=h
refine⟨_,(qE (jA (vU q02 (pv 0) T.fY T.aBY (q42 T S B).mono I S.tE.b .nil))),?_⟩
exact(iV rfl (iM h.1.j.o rfl ⟨x,k,sh,sr,r,rl,pp,X,i,Z,rfl,h⟩)))
inductive spPWr(t:Adr)(vs:List V)(H:Hp)(Q:VK)(E:XK):Prop
|mk:∀x k sh sr r rl pp X,∀n v:Int,∀i Z,vs=[.ref x.s,.int n,.int v]->XX t H x k sh sr r rl pp X->k.ev=true->X.s.rc.length+100*i+300<1000000->X.ps.length+i<90000->sh<=64->inB (.int n) 0 (sh-1)=true->inB (.int v) 0 (10 ^ 30-1)=true->(¬(hold X.s.q n=false/\sr<=((hdN X.s.q.V).length:Int)))->((∃p,(n,p)∈X.s.q.V)\/X.s.q.V.length<59)->X.ask k i n v=some Z->(match Z with
|(Y,.error e)=>∀H',XX t H' x k sh sr r rl pp Y->Keep (fx t x r pp) H H'->rfE t e E H'
|(Y,.ok p)=>∀H',XX t H' x k sh sr r rl pp Y->Keep (fx t x r pp) H H'->Q (.int (p:Int)) H')->spPWr t vs H Q E
theorem XX.lay{x:Sto}{k:Tm}{r:Addr}{i:Nat}{n v:Int}(h:XX t H x k sh sr r rl pp X)(rc:X.s.rc.length+100*i+300<1000000)(hl:(∃p,(n,p)∈X.s.q.V)\/X.s.q.V.length<59)(hZ:X.ask k i n v=some Z)(hY:X.rooms k i=some (Y,.ok ()))(n0:0<=n)(n1:n<=64)(h2:XX t H2 x k sh sr r rl pp Y)
 (kk:match Z with
  |(_,.error _)=>True
  |(Y,.ok p)=>∀H',XX t H' x k sh sr r rl pp Y->Keep (t.fW::sf x) H2 H'->Q (.int (p:Int)) H'):qE4 t [.ref x.s,.int n,.int v] H2 Q E:=by(
obtain⟨_,_,kp,J,_,rd⟩:=q1J h.j.w h.ru.ok hY
have rd:=mI (rd rfl)
rw[wJ,wK]at rd
unfold Sx.ask at hZ
rw[hY]at hZ
dsimp only at hZ
refine h2.j.set n0 n1 (by lia) (by lia) ?_ (λH' I D=>?_)
.rw[kp.lV];exact hl.imp (λz=>(kp.nm n).mpr z) id
rw[kE h2.j.pn]at hZ
cases hZ
exact kk H' (h2.on D I) D)
theorem q3J(T:tXx)(S:tFf)(B:BmIn base mg):S.aAF.OkE P w mg base 17 (spPWr t):=by(
refine S.aAF.F.okE q7O (λvs H Q E h=>?_) (λai A outer s H vs Q E I h=>?_)
.repeat obtain⟨_,h⟩:=h
 all_goals subst_vars;rfl
obtain⟨x,k,sh,sr,r,rl,pp,X,n,v,i,Z,rfl,h,ev,rc,lp,aa,z,w,ff,hl,U,kk⟩:=h
obtain⟨m,J,c,_⟩:=h.j.e
refine⟨_,(qB (jA (qY (pv 0) T.fY T.tS (zI T S).mono I S.i3.b .nil qK (qA (pv 1) qD))) (qB (jG (u9 (yI (qZ (qBW T S).mono I rfl T.aE3 T.aEW S.aDD.b .nil qK (qA (pv 2) qD)))) (qE jN) qS) (qB (jA (qY (pv 0) T.fY T.aBS (q3G T S).mono I S.oW.b .nil qK (qA (pv 1) qD))) (qB (jA (vU q02 (pv 0) T.fY T.t9 (zP T S B).mono I S.i9.b .nil)) (qE (qM (qY (pv 0) T.fY T.aB2 (q2C T S B).mono I S.aA0.b .nil qK (qA (pv 1) (qA (pv 2) qD))))))))),?_⟩
try dsimp-beta-proj-iota-zeta-eta only[wishK,cxK]
refine(iV rfl (iM J.o rfl ⟨_,rfl,x,.int sr,_,_,m,X.s.q,.int n,sh,rfl,J,.int _,?_⟩))
rw[kL z]
obtain⟨n',e,n0,n1⟩:=qI1 z
injection e with e
subst e
refine⟨_,rfl,.int v,rfl,.int _,_,rfl,?_⟩
rw[w]
refine iteF ?_
refine(iV rfl (iM J.o rfl ⟨_,rfl,x,.int sh,_,_,m,X.s.q,n,sr,rfl,J,c.ft,hd64 h.j.w,λH1 N=>?_⟩))
rw[kE ff]
have h1:=h.same N
have D:=U
unfold Sx.ask at D
cases hR:X.rooms k i with
|none=>rw[hR]at D;cases D
|some YR=>
 obtain⟨Y,o⟩:=YR;refine(iV rfl (iM h1.j.o rfl ⟨x,k,sh,sr,r,rl,pp,X,i,(Y,o),rfl,h1,ev,by lia,lp,hR,?_⟩));rw[hR]at D;cases o with
 |error e=>cases D;exact λH2 h2 O=>kk H2 h2 ((Keep.same N).trans O)
 |ok u=>
  refine λH2 h2 O=>?_;refine(iV rfl (iM h2.j.o rfl ⟨_,rfl,_,rfl,?_⟩));dsimp only[tNil,wL,dS,gN];refine h.lay rc hl U hR n0 (by lia) h2 ?_;have mS:∀y∈t.fW::sf x,y∈fx t x r pp:=λy hy=>kB _ (kB _ (kB _ hy));obtain⟨W,o⟩:=Z;cases o with
  |error e=>exact trivial
  |ok p=>exact λH3 h3 k3=>kk H3 h3 (((Keep.same N).trans O).trans (k3.mono mS)))
theorem XR.forg{x:Sto}{k:Tm}{s:XS}(j:XR t H x k sh sr s)(n:Int)(hb:∀{m},StAt t H x (.int sh) (.int sr) (.int (k.ie:Int)) (.int k.sp) m s.q->BkAt t H' x.k (s.q.forget n))(kb:Keep (bf x.k) H H'):XR t H' x k sh sr (s.forg n):=by obtain⟨m,st,c,pg⟩:=j.e;exact⟨⟨m,st.note (hb st) kb,⟨⟨c.ft.ok,c.ft.oq.forget n,c.ft.eB,c.ft.eP⟩,c.br,c.li,c.mo,c.cl,c.lf,c.rc⟩,pg.keep kb⟩,j.w.forg n⟩
inductive spGu(t:Adr)(vs:List V)(H:Hp)(Q:VK)(E:XK):Prop
|mk:∀x k sh sr r rl pp X,∀l0:Addr,∀ss:List Int,vs=[.ref x.s,.ref l0]->XX t H x k sh sr r rl pp X->k.ev=true->H l0=some (.lst (ss.map V.int))->(∀n∈ss,inB (.int n) 0 (sh-1)=true)->(gvn X.s.hl ss=[]->∀H',Same H H'->Q (.int 0) H')->(gvn X.s.hl ss≠[]->∃i Z,X.s.rc.length+100*i+300<1000000/\X.ps.length+i<90000/\((∃p,((64:Int),p)∈X.s.q.V)\/X.s.q.V.length<59)/\X.ask k i 64 (XS.bits (rst X.s.hl (gvn X.s.hl ss)))=some Z/\(match Z with
|(Y,.error e)=>∀H',XX t H' x k sh sr r rl pp Y->Keep (fx t x r pp) H H'->rfE t e E H'
|(Y,.ok p)=>∀H',XX t H' x k sh sr r rl pp ⟨Y.s.forgs (gvn X.s.hl ss),Y.g,Y.ps⟩->Keep (fx t x r pp) H H'->Q (.int ((gvn X.s.hl ss).length:Nat)) H'))->spGu t vs H Q E
theorem q5X(T:tXx)(S:tFf)(B:BmIn base mg):S.aAD.OkE P w mg base 17 (spGu t):=by(
refine S.aAD.F.okE u7 (λvs H Q E h=>?_) (λce A outer s H vs Q E hr h=>?_)
.repeat obtain⟨_,h⟩:=h
 all_goals subst_vars;rfl
obtain⟨x,k,sh,sr,r,rl,pp,X,l0,J,rfl,h,ev,ah,a4,kn,kk⟩:=h
have s9:(99999:Nat)<sizeLine:=by decide
obtain⟨m,hs,c,_⟩:=h.j.e
refine⟨_,(qB (uO lE rfl (jM (pv 1)) (qT (i:=2) u7.nd) (qE (jA (qY (pv 0) T.fY T.tS (zI T S).mono hr S.i3.b .nil qK (qA (pv 2) qD))))) (qB (qU (i:=3) u7.nd (jB (pv 0) T.fY T.aBK (q18 T S).mono hr S.t8.b .nil qK)) (qB (qU (i:=4) u7.nd (yC ["sheets","sheet"] [1] rfl (jM (pv 3)) (λz z z z z=>(qT (i:=1) (show List.Nodup (["sheets","sheet"]:List Str)from by decide))) (λz z z z z=>(yV (qP (qCG (K:=K) rfl) (pv 1) (pv 0) rfl))) (λz z z z z=>(pv 1)) (by kernel_rfl) (jI (by decide)))) (qB (jG (qP (q5K hr.units) (pv 4) (jS qD) (qQ _)) (qE (qM qC)) qS) (qB (jA (vU q02 (pv 0) T.fY T.t9 (zP T S B).mono hr S.i9.b .nil)) (qB (jA (qY (pv 0) T.fY T.aB2 (q2C T S B).mono hr S.aA0.b .nil qK (qA (q1S rfl T.aEP ⟨_,rfl⟩ (v:=.int 64)) (qA (qZ (q7Y T S).mono hr rfl T.aC8 T.aC9 S.aDL.b .nil qK (qA (yC ["gone","sheet"] [4] rfl (jM (pv 3)) (λz z z z z=>(qT (i:=1) (show List.Nodup (["gone","sheet"]:List Str)from by decide))) (λz z z z z=>(yV (qP (q8C (K:=K) rfl) (pv 1) (pv 0) rfl))) (λz z z z z=>(pv 1)) (by kernel_rfl) (jI (by decide))) qD)) qD)))) (qB (uO lE rfl (jM (pv 4)) (qT (i:=2) u7.nd) (qE (jA (qY (qJ (pv 0) rfl) T.f9 T.aBR (q3F T S).mono hr S.aAA.b .nil qK (qA (pv 2) qD))))) (qE (qM (jE jJ (by rfl) T.aA3 g5 (qA (pv 4) qD))))))))))),?_⟩
try dsimp-beta-proj-iota-zeta-eta only[wishK,cxK]
refine⟨_,rfl,l0,rfl,⟨_,SqL.of ah⟩,?_⟩
refine zC (K:=K) (xs:=J.map V.int) (λi ac H2=>∃y,ac=[some (.ref x.s),some (.ref l0),y,none,none]/\H=H2) ⟨_,rfl,rfl⟩ (λi ac H2 hi I=>?_) (λi v ac H2 hv I=>?_) (λac H2 I=>?_)
.obtain⟨y,rfl,rfl⟩:=I;exact SqL.of ah
.obtain⟨y,rfl,rfl⟩:=I;rw[mF]at hv;obtain⟨n,hw,rfl⟩:=mK.mp hv;refine(iV rfl (iM hs.o rfl ⟨_,rfl,x,_,_,_,m,X.s.q,.int n,sh,rfl,hs,.int _,?_⟩));rw[kL (a4 n (gL hw))];exact⟨_,rfl,rfl⟩
obtain⟨y,rfl,rfl⟩:=I
refine(iV rfl (iM hs.o rfl ⟨x,.int sh,_,_,_,m,X.s.q,rfl,hs,c.ft,hd64 h.j.w,λhl ns H1 hn s1 n1 h1=>?_⟩))
have b3:ns.length<64:=by rw[hn.pm.length_eq];exact hd64 h.j.w
obtain rfl:=qHG hn
refine⟨_,rfl,hl,rfl,⟨_,SqL.of h1⟩,λD H2 nD s2 hD=>?_⟩
refine yW (K:=K) (xs:=X.s.hl.map V.int) (D:=D) (λi H3=>Same H1 H3/\H3 D=some (.lst ((gvn (X.s.hl.take i) J).map V.int))) ⟨s2,hD⟩ (λi H3 I=>SqL.of (I.1 _ _ h1)) (λi v H3 hv I=>?_) (λH3 I=>?_)
.obtain⟨sm,hd⟩:=I;rw[mF]at hv;obtain⟨n,hw,rfl⟩:=mK.mp hv;have hi:=(kC.mp hw).1;have ai:=(kC.mp hw).2;refine⟨_,rfl,_,rfl,l0,_,rfl,.inl (SqL.of (sm _ _ (s1 _ _ ah))),rfl,qE5,_,rfl,?_⟩;show if inV (.int n) (J.map V.int)=true then _ else _;rw[q3W];have eg:gvn (X.s.hl.take (i+1)) J=gvn (X.s.hl.take i) J++(if n∈J then[n]else[]):=by
  unfold gvn;rw[<-kW hi,m7,ai,mU];by_cases z:n∈J
  .rw[hG z,kL z];rfl
  rw[hX z,kE z];rfl
 rw[eg];by_cases z:n∈J
 .rw[hG z,kL z];refine iteT ?_;refine⟨_,rfl,_,hd,?_,λb o e=>?_,?_⟩
  .rw[hU];have l1:(gvn (X.s.hl.take i) J).length<=(X.s.hl.take i).length:=kY _ _;rw[gF]at l1;lia
  .rw[qF (qG e nD)];exact sm _ _ e
  rw[qI,mE];rfl
 rw[hX z,kE z,gN];exact iteF ⟨sm,hd⟩
obtain⟨sm,hd⟩:=I
rw[hU,mY]at hd
have bb:Same H H3:=s1.trans sm
refine⟨_,rfl,sz0,λe H4 n4 s4 h4=>⟨D,_,e,rfl,rfl,SqL.of (s4 _ _ hd),SqL.of h4,_,rfl,?_⟩⟩
have ad:=bb.trans s4
by_cases z:gvn X.s.hl J=[]
.rw[z];exact iteT (kn z H4 ad)
rw[hX (λy=>z (by cases hq:gvn X.s.hl J with|nil=>rfl|cons a r=>rw[hq]at y;cases y))]
refine iteF ?_
obtain⟨i,Z,rc,lp,a5,hZ,kk⟩:=kk z
have ar:=h.same ad
have ab:=hZ
unfold Sx.ask at ab
cases hR:X.rooms k i with
|none=>rw[hR]at ab;cases ab
|some YR=>
 obtain⟨Y,o⟩:=YR;refine(iV rfl (iM ar.j.o rfl ⟨x,k,sh,sr,r,rl,pp,X,i,(Y,o),rfl,ar,ev,by lia,lp,hR,?_⟩));rw[hR]at ab;cases o with
 |error e=>cases ab;exact λH2 h2 k2=>kk H2 h2 ((Keep.same ad).trans k2)
 |ok u=>
  refine λH5 h5 k5=>?_;obtain⟨bw,ba,_⟩:=h.hp;obtain⟨C0,d0,f0,a6⟩:=h.ru.ins;have offF:∀{y:Addr},H y=none->y∉fx t x r pp:=fun {y} e U=>by
   rcases kN.mp U with U|U
   .rw[U,ba]at e;cases e
   rcases kN.mp U with U|U
   .rw[U,a6]at e;cases e
   rcases kN.mp U with U|U
   .obtain⟨_,_,_,_,bh,_⟩:=h.j.tb;rw[U,bh]at e;cases e
   exact h.j.off e U
  have dF:=offF (s1.free nD);have af:=k5.k _ _ (offF n1) (s4 _ _ (sm _ _ h1));have av:=k5.k _ _ dF (s4 _ _ hd);refine(iV rfl (iM h5.j.o rfl ?_));refine⟨_,rfl,hl,rfl,⟨_,SqL.of af⟩,λD2 H6 n6 s6 a9=>?_⟩;refine yW (K:=K) (xs:=X.s.hl.map V.int) (D:=D2) (λi H7=>Same H5 H7/\H7 D2=some (.lst ((rst (X.s.hl.take i) (gvn X.s.hl J)).map V.int))) ⟨s6,a9⟩ (λi H7 I=>SqL.of (I.1 _ _ af)) (λi v H7 hv I=>?_) (λH7 I=>?_)
  .obtain⟨N,O⟩:=I;rw[mF]at hv;obtain⟨n,hw,rfl⟩:=mK.mp hv;have hi:=(kC.mp hw).1;have ai:=(kC.mp hw).2;refine⟨_,rfl,_,rfl,D,_,rfl,.inl (SqL.of (N _ _ av)),rfl,qE5,_,rfl,?_⟩;show if(!inV (.int n) ((gvn X.s.hl J).map V.int))=true then _ else _;rw[q3W];have eg:rst (X.s.hl.take (i+1)) (gvn X.s.hl J)=rst (X.s.hl.take i) (gvn X.s.hl J)++(if n∈gvn X.s.hl J then[]else[n]):=by
    unfold rst;rw[<-kW hi,m7,ai,mU];by_cases y:n∈gvn X.s.hl J
    .rw[hG y,kL y];rfl
    rw[hX y,kE y];rfl
   rw[eg];by_cases y:n∈gvn X.s.hl J
   .rw[hG y,kL y,gN];exact iteF ⟨N,O⟩
   rw[hX y,kE y];refine iteT ?_;refine⟨_,rfl,_,O,?_,λb o e=>?_,?_⟩
   .rw[hU];have l1:(rst (X.s.hl.take i) (gvn X.s.hl J)).length<=(X.s.hl.take i).length:=kY _ _;rw[gF]at l1;lia
   .rw[qF (qG e n6)];exact N _ _ e
   rw[qI,mE];rfl
  obtain⟨N,O⟩:=I;rw[hU,mY]at O;obtain⟨en,lt⟩:=qJX (ns:=rst X.s.hl (gvn X.s.hl J)) (λn a7=>qJW h.j.w n (mQ.mp a7).1);rw[en]at O;refine⟨D2,_,rfl,SqL.of O,lt,?_⟩;have h7:=h5.same N;have mS:∀y∈t.fW::sf x,y∈fx t x r pp:=λy hy=>kB _ (kB _ (kB _ hy));dsimp only[tNil,wL,dS,gN];refine h.lay (Z:=Z) rc a5 hZ hR (by decide) (by decide) h7 ?_;obtain⟨W,o⟩:=Z;have bc:Keep (fx t x r pp) H H7:=((Keep.same ad).trans k5).trans (Keep.same N);cases o with
  |error e=>exact trivial
  |ok p=>
   refine λH8 h8 k8=>?_;have aj:=k8.k _ _ (λy=>dF (mS _ y)) (N _ _ av);refine⟨_,rfl,D,rfl,⟨_,SqL.of aj⟩,?_⟩;refine zC (K:=K) (xs:=(gvn X.s.hl J).map V.int) (λi ac H'=>∃y',ac=[some (.ref x.s),some (.ref l0),y',some (.ref hl),some (.ref D)]/\XR t H' x k sh sr (W.s.forgs ((gvn X.s.hl J).take i))/\Keep (bf x.k) H8 H') ⟨_,rfl,h8.j,Keep.refl⟩ (λi ac H' hi I=>?_) (λi v ac H' hv I=>?_) (λac H' I=>?_)
   .obtain⟨y',rfl,j',kb⟩:=I;exact SqL.of (kb.k _ _ (λw=>dF (mS _ (by simp[sf,w]))) aj)
   .obtain⟨y',rfl,j',kb⟩:=I;rw[mF]at hv;obtain⟨n,hw,rfl⟩:=mK.mp hv;obtain⟨m',st,c',_⟩:=j'.e;refine(iV rfl (iF st.o T.fY T.iA rfl (iM st.bk.o rfl ⟨_,rfl,x.k,_,n,rfl,st.bk,j'.w.qs.ok,st.ds,λH9 be k9=>?_⟩)));have k9:Keep (bf x.k) H' H9:=k9.mono (by intro b hb;simp at hb;rcases hb with rfl|rfl<;>simp[bf]);refine⟨_,rfl,?_,kb.trans k9⟩;rw[qCR hw];exact j'.forg n (λz=>be) k9
   obtain⟨y',rfl,j',kb⟩:=I;rw[hU,mY]at j';have bj:=kb.k _ _ (λw=>dF (mS _ (by simp[sf,w]))) aj;refine⟨_,rfl,D,_,rfl,.inl (SqL.of bj),?_⟩;rw[hU];have as:Keep (t.fW::sf x) H8 H':=kb.mono (λb hb=>by simp[sf,hb]);exact kk H' (h8.on as j') ((bc.trans (k8.mono mS)).trans (as.mono mS)))
theorem TbF.updD{p:Addr}{o:HO}(h:TbF t H)(e:H p=some (.dK kvs)):TbF t (upd H p o):=by exact h.gen λb o' to z=>by rw[qF (uK to z e qLU)];exact z
section
variable{H H':Hp}{x:Sto}{k:Tm}{sh sr:Int}{r:Addr}{rl:List Addr}{pp:Addr}{X:Sx}
theorem XX.dct(h:XX t H x k sh sr r rl pp X){p:Addr}(e:H p=some (.dK kvs))(np:p∉x.a.li::fx t x r pp)(nr:p∉rl):XX t (upd H p (.dK kvs')) x k sh sr r rl pp X:=by(
have kk:=Keep.upd (F:=[p]) (o:=.dK kvs') e (λU z=>by cases z) (by simp)
obtain⟨ps,h1,h2⟩:=h.hp
obtain⟨m,st,_⟩:=h.j.e
have fr:∀{y:Addr} {xs:List V},H y=some _->(upd H p _) y=some (.lst xs):=fun {y xs} I=>kk.k _ _ (λz=>by grind) I
refine⟨h.j.keep kk (λy D z=>?_) (TbF.updD st.tb e),h.er,h.ru.keep kk (λy D z=>?_),h.of,h.ep,⟨ps,fr h1,Paired.mapP h2 λv pa ⟨a,l1,O,us,rs,J,Z,e3,S,e5,e6,U,N⟩=>⟨a,l1,O,us,rs,J,kk.tp _ _ Z,fr e3,jL kk S,fr e5,Paired.mapP e6 λv d ⟨p',I,h'⟩=>⟨p',I,kk.tp _ _ h'⟩,U,N⟩⟩,h.np,h.nr⟩
.rw[kD.mp z]at D;rcases gQ.mp D with D|D
 .have D:=by simpa using D
  rcases D with h|h
  .rw[h,st.o]at e;cases e
  rw[h,st.te]at e;cases e
 simp_all
rw[kD.mp z]at D
rcases kN.mp D with h|h
.exact np (by rw[h];simp)
exact nr h)
theorem XX.chip(h:XX t H x k sh sr r rl pp X):∃m,ChipAt t.C_Chip H x.c x.a m/\m.Ok/\m.lf=X.s.lf/\m.rc=X.s.rc/\m.cl=X.s.cl/\m.bl=(X.s.q.B:Int)/\m.pg=(X.s.q.P:Int)/\PgAt H m.bo X.s.pg/\True:=by obtain⟨m,st,c,pg⟩:=h.j.e;refine⟨m,st.ch,c.ft.ok,c.lf.1,c.rc,c.cl,c.ft.eB,c.ft.eP,pg,trivial⟩
theorem XX.inF(h:XX t H x k sh sr r rl pp X):∀y∈fx t x r pp,∃o,H y=some o:=λy hy=>by(
rcases kN.mp hy with e|hy
.obtain⟨ps,e',_⟩:=h.hp;exact⟨_,by rw[e];exact e'⟩
rcases kN.mp hy with e|hy
.obtain⟨_,_,_,z⟩:=h.ru.ins;exact⟨_,by rw[e];exact z⟩
rcases kN.mp hy with e|hy
.obtain⟨ps,_,_,ps',z,_⟩:=h.j.tb;exact⟨_,by rw[e];exact z⟩
exact h.j.inH y hy)
end
structure KX(t:Adr)(H:Hp)(x:Sto)(k:Tm)(sh:Int)(sr:Nat)(r:Addr)(rl:List Addr)(pp:Addr)(X:Sx)(kd:Addr)(KD:Mp)(n:Nat):Prop where
h:XX t H x k sh (sr:Int) r rl pp X
d:Kd k sh sr X KD
hk:H kd=some (.dK (dB KD))
nk:kd∉x.a.li::fx t x r pp
nr:kd∉rl
rcn:X.s.rc.length<=300*n
psn:X.ps.length<=20*n
section
variable{H H':Hp}{x:Sto}{k:Tm}{sh:Int}{sr:Nat}{r:Addr}{rl:List Addr}{pp:Addr}{X X':Sx}{kd:Addr}{KD KD':Mp}{n n':Nat}
theorem KX.same(h:KX t H x k sh sr r rl pp X kd KD n)(s:Same H H'):KX t H' x k sh sr r rl pp X kd KD n:={ h with h:=h.h.same s,hk:=s _ _ h.hk }
theorem KX.nkF(h:KX t H x k sh sr r rl pp X kd KD n):kd∉fx t x r pp:=λz=>h.nk (kB _ z)
theorem KX.hold(h:KX t H x k sh sr r rl pp X kd KD n){y:Int}:hold X.s.q y=decide (y∈KD.map (·.1)):=by exact cH.mpr h.d.pm.mem_iff
theorem KX.set(h:KX t H x k sh sr r rl pp X kd KD n)(hx:XX t H' x k sh (sr:Int) r rl pp X')(kk:Keep (fx t x r pp) H H')(d:Kd k sh sr X' KD')(rc:X'.s.rc.length<=300*n')(ps:X'.ps.length<=20*n'):KX t (upd H' kd (.dK (dB KD'))) x k sh sr r rl pp X' kd KD' n':=⟨hx.dct (kk.k _ _ h.nkF h.hk) h.nk h.nr,d,qI,h.nk,h.nr,rc,ps⟩
theorem KX.stay(h:KX t H x k sh sr r rl pp X kd KD n)(hx:XX t H' x k sh (sr:Int) r rl pp X')(kk:Keep (fx t x r pp) H H')(d:Kd k sh sr X' KD)(rc:X'.s.rc.length<=300*n')(ps:X'.ps.length<=20*n'):KX t H' x k sh sr r rl pp X' kd KD n':=⟨hx,d,kk.k _ _ h.nkF h.hk,h.nk,h.nr,rc,ps⟩
end
theorem qLX{x:Sto}{k:Tm}{r:Addr}{B P:Nat}(st:StAt t H x (.int sh) (.int sr) (.int (k.ie:Int)) (.int k.sp) (CM.new (B:Int) (P:Int) 1000000 []) (bk0 B P))(er:x.ru=.ref r)(ru:RuX t H r rl g)(of:Off t x (r::rl))(ep:x.pa=.ref pp)(hp:H pp=some (.lst []))(np:pp∉t.fW::sf x)(nr:pp∉r::rl)
 (b1:2<=B) (b2:B<=16) (p1:1<=P) (p2:P<=16) (w:WX k (newX B P)):XX t H x k sh sr r rl pp ⟨newX B P,g,[]⟩:=by(
have z:(CM.new (B:Int) (P:Int) 1000000 []).Ok:=qL6 (by lia) (by lia) (by lia) (by lia) (λb v e=>by cases e)
refine⟨⟨⟨_,st,⟨⟨z,w.qs.ok,rfl,rfl⟩,?_,λb=>rfl,rfl,?_,⟨rfl,rfl⟩,rfl⟩,⟨λi U=>rep8,λi v e=>by cases e⟩⟩,w⟩,er,ru,of,ep,⟨[],hp,.nil⟩,np,nr⟩
.show List.replicate (B:Int).toNat false=_;rw[mC];rfl
show List.replicate (B:Int).toNat (0:Int)=_
rw[mC]
rfl)
theorem qLY{ch:Addr}{m:CM}(hc:ChipAt t.C_Chip H7 ch ca m)(htm:H7 tm=some o1)(hT:H7 t.fW=some o2)(hB:H7 t.fX=some o3)(nR:∀u∈R,H7 u=none)(eR:∀u∈R,∃o,H8 u=some o)(nA:H8 sA=none)(sM:Same H8 HM)(fk:∀b∈bf kb,HM b=none):Off t ⟨sA,sd,tm,td,ch,ca,kb,ru,.ref pa⟩ R:=λy hy hu=>by(
obtain⟨o,e8⟩:=eR y hu
have n7:=nR y hu
have hy:=by simpa[sf]using hy
rcases hy with h|h|h|h|h|h|h
.lia
.lia
.obtain⟨o',e',_⟩:=hc.has (show ca.li∈ca.li::foot ch ca by simp);lia
.lia
.lia
.obtain⟨o',e',_⟩:=hc.has (kB _ h);lia
rw[Same.free sM (fk y h)]at e8;lia)
inductive spSz(K:W.Frag)(vs:List V)(H:Hp)(Q:VK)(E_:XK):Prop
|mk:∀a ns,vs=[.ref a]->SqL K H a (List.map V.int ns)->(∀c P i s:Nat,1<=c->c<=4->1<=P->P<=4->i<=2->1<=s->s+2<=c*P->NewO H (.lst [.int ((c+1+i:Nat):Int),.int (P:Int),.int (s:Int),.int (i:Int)]) Q)->spSz K vs H Q E_
theorem qAP(T:tXx)(S:tFf):S.aCT.Ok0 P w mg base 2 (spSz K):=by(
refine S.aCT.F.ok0 uF λak A _ s H vs Q E I h=>?_
obtain⟨a,ns,rfl,O,k⟩:=h
refine⟨_,(qB (qU (i:=1) uF.nd (qL jU qC (qL yZ (qZ (yF T S).mono I rfl T.iO T.iK S.iP.b .nil qK (qA (pv 0) (qA qC qD))) qC))) (qB (qU (i:=2) uF.nd (qL jU qC (qL yZ (qZ (yF T S).mono I rfl T.iO T.iK S.iP.b .nil qK (qA (pv 0) (qA qC qD))) qC))) (q3O (jG (qP q0J (qL jP (pv 2) (pv 1)) qC (qQ _)) (qE (qU (i:=2) uF.nd qC)) qS) (qB (qU (i:=3) uF.nd (qL yZ (qZ (yF T S).mono I rfl T.iO T.iK S.iP.b .nil qK (qA (pv 0) (qA qC qD))) qC)) (qB (qU (i:=4) uF.nd (qL uA (qL jP (pv 2) (pv 1)) qC)) (q3O (jG (qP yO (qL yZ (qZ (yF T S).mono I rfl T.iO T.iK S.iP.b .nil qK (qA (pv 0) (qA qC qD))) qC) qC (qQ _)) (qE (qU (i:=4) uF.nd (qL jU qC (qL yZ (qL uL (qZ (yF T S).mono I rfl T.iO T.iK S.iP.b .nil qK (qA (pv 0) (qA qC qD))) qC) (pv 4))))) qS) (qE (qM (jS (qA (qL jU (qL jU (pv 2) qC) (pv 3)) (qA (pv 1) (qA (pv 4) (qA (pv 3) qD))))))))))))),?_⟩
try dsimp-beta-proj-iota-zeta-eta only[wishK,cxK]
refine⟨_,rfl,a,ns,0,rfl,O,by decide,_,_,rfl,rfl,(by show(0:Int)<4;decide),iI ?_⟩
refine⟨_,rfl,a,ns,1,rfl,O,by decide,_,_,rfl,rfl,(by show(0:Int)<4;decide),iI ?_⟩
try dsimp only
have c0:=q0Q (yQ ns 0) 4 (by decide)
have c1:=q0Q (yQ ns 1) 4 (by decide)
obtain⟨D,J⟩:∃n:Nat,1+yQ ns 0%4=(n:Int):=⟨(1+yQ ns 0%4).toNat,by lia⟩
obtain⟨U,ec⟩:∃n:Nat,1+yQ ns 1%4=(n:Int):=⟨(1+yQ ns 1%4).toNat,by lia⟩
rw[J,ec]
have ab:1<=D:=by lia
have aa:D<=4:=by lia
have Z:1<=U:=by lia
have ac:U<=4:=by lia
clear c0 c1 J ec
refine⟨λN H'=>∃c:Nat,N=[some (.ref a),some (.int (D:Int)),some (.int (c:Int)),none,none]/\H=H'/\1<=c/\c<=4/\3<=c*D,?_,?_⟩
.refine⟨_,rfl,_,rfl,iI ⟨.inl ⟨by lia,by lia⟩,iI ⟨_,rfl,?_⟩⟩⟩;refine ite2 (λz=>?_) (λz=>?_)
 .exact⟨3,rfl,rfl,by decide,by decide,by lia⟩
 have z:¬(U:Int)*(D:Int)<3:=λy=>z (hG y);rw[<-gY]at z;exact⟨U,rfl,rfl,Z,ac,by lia⟩
rintro N _ ⟨c,rfl,rfl,p1,p2,cp⟩
refine⟨_,rfl,a,ns,2,rfl,O,by decide,_,_,rfl,rfl,(by show(0:Int)<3;decide),?_⟩
have c2:=q0Q (yQ ns 2) 3 (by decide)
try dsimp only
obtain⟨i,ei⟩:∃n:Nat,yQ ns 2%3=(n:Int):=⟨(yQ ns 2%3).toNat,by lia⟩
rw[ei]
have hi:i<=2:=by lia
clear c2 ei
refine⟨_,rfl,_,rfl,iI ⟨.inl ⟨by lia,by lia⟩,iI ?_⟩⟩
try dsimp only
obtain⟨M,eM⟩:∃n:Nat,(c:Int)*(D:Int)-2=(n:Int):=⟨c*D-2,by rw[<-gY];lia⟩
rw[eM]
have hM:M+2=c*D:=by rw[<-gY]at eM;lia
refine⟨λN H'=>∃s:Nat,N=[some (.ref a),some (.int (D:Int)),some (.int (c:Int)),some (.int (i:Int)),some (.int (s:Int))]/\H=H'/\1<=s/\s<=M,?_,?_⟩
.refine⟨_,rfl,a,ns,3,rfl,O,by decide,_,_,rfl,rfl,(by show(0:Int)<3;decide),rfl,_,rfl,?_⟩;refine ite2 (λz=>?_) (λz=>?_)
 .refine⟨_,rfl,a,ns,3,rfl,O,by decide,_,_,rfl,rfl,⟨by decide,by decide⟩,_,rfl,iI ⟨(by show(0:Int)<(M:Int);lia),iI ?_⟩⟩;have c3:=q0Q (yQ ns 3 / 3) (M:Int) (by lia);try dsimp only
  obtain⟨s,es⟩:∃n:Nat,1+yQ ns 3 / 3%(M:Int)=(n:Int):=⟨(1+yQ ns 3 / 3%(M:Int)).toNat,by lia⟩;rw[es];exact⟨s,rfl,rfl,by lia,by lia⟩
 exact⟨M,rfl,rfl,by lia,by lia⟩
rintro N _ ⟨s,rfl,rfl,s1,s2⟩
refine⟨_,rfl,iI ⟨_,rfl,iI ⟨_,rfl,_,rfl,_,rfl,sz4,?_⟩⟩⟩
exact k c D i s p1 p2 ab aa hi s1 (by lia))
inductive spNm(K:W.Frag)(vs:List V)(H:Hp)(Q:VK)(E_:XK):Prop
|mk:∀a ns,∀sh:Nat,vs=[.ref a,.int (sh:Int)]->SqL K H a (List.map V.int ns)->sh<=14->(∀ms:List Int,ms.length=sh->(∀n∈ms,0<=n/\n<64)->NewO H (.lst (ms.map V.int)) Q)->spNm K vs H Q E_
theorem qAQ(T:tXx)(S:tFf):S.aCX.Ok0 P w mg base 2 (spNm K):=by(
refine S.aCX.F.ok0 qAE λad A _ s H vs Q E hr h=>?_
obtain⟨a,ns,sh,rfl,hS,ae,k⟩:=h
refine⟨_,(qE (qM (yC ["_law_script","_law_k"] [0] rfl (vD rfl T.oQ (qA (pv 1) qD)) (λz z z z z=>(qT (i:=1) (show List.Nodup (["_law_script","_law_k"]:List Str)from by decide))) (λz z z z z=>uR) (λz z z z z=>(qL yZ (qL jU (qZ (yF T S).mono hr rfl T.iO T.iK S.iP.b .nil qK (qA (pv 0) (qA qC qD))) (qL jP qC (pv 1))) qC)) (by kernel_rfl) (jI (by decide))))),?_⟩
refine⟨_,rfl,_,rfl,by lia,by lia,λD H2 Z s2 hD=>?_⟩
refine zW (D:=D) (λi z=>∃ms:List Int,Same H z/\z D=some (.lst (ms.map V.int))/\ms.length=i/\∀n∈ms,0<=n/\n<64) ⟨[],s2,hD,rfl,by simp⟩ (λi z hi O=>?_) (λz O=>?_)
.obtain⟨ms,J,U,ln,N⟩:=O;have hi:i<sh:=by lia
 refine⟨_,rfl,a,ns,5,rfl,J.seq hS,by decide,_,rfl,iI ⟨.inl ⟨by decide,by decide⟩,iI (iI ⟨(by show(0:Int)<64;decide),_,U,?_,ms++[(yQ ns 5+5*(0+(i:Int)))%64],λb o e=>?_,?_,?_,λn I=>?_⟩)⟩⟩
 .rw[hU];have:(16:Nat)<sizeLine:=by decide
  lia
 .rw[qF (qG e Z)];exact J _ _ e
 .rw[qI,mE];rfl
 .rw[kU,ln];rfl
 rcases gQ.mp I with I|I
 .exact N n I
 rw[kD.mp I];exact q0Q _ 64 (by decide)
obtain⟨ms,J,U,ln,N⟩:=O
exact k ms (by lia) N D z Z J U)
inductive spPk(K:W.Frag)(vs:List V)(H:Hp)(Q:VK)(E_:XK):Prop
|mk:∀l,∀ns:List Int,∀c:Int,vs=[.int c,.ref l]->H l=some (.lst (ns.map V.int))->1<=ns.length->ns.length<=14->(∀n∈ns,Q (.int n) H)->spPk K vs H Q E_
theorem qC0(T:tXx)(S:tFf):S.aDJ.Ok0 P w mg base 1 (spPk K):=by(
refine S.aDJ.F.ok0 qBR λN A _ s H vs Q E hr h=>?_
obtain⟨l,ns,c,rfl,hl,l1,O,k⟩:=h
have D:∀z:Int,0<=z->z<(ns.length:Int)->∃n∈ns,atI (ns.map V.int) z=some (.int n):=λz Z z1=>by
 obtain⟨j,rfl⟩:=rW Z;have J:j<ns.length:=by lia
 refine⟨ns[j],gG J,yH ?_⟩;rw[mF,kF J];rfl
refine⟨_,(qB (jG (qP yO (qL yZ (pv 0) qC) qC (qQ _)) (qE (qM (qO jD (pv 1) (qL yZ (qL uL (pv 0) qC) (jE jJ (by rfl) T.aA3 g5 (qA (pv 1) qD))) (λz z=>rfl)))) qS) (qE (qM (qO jD (pv 1) (qL yZ (qL yZ (qL uL (pv 0) qC) qC) (jE (q8U rfl) (by rfl) T.aFC (by kernel_rfl) (qA qC (qA (jE jJ (by rfl) T.aA3 g5 (qA (pv 1) qD)) qD)))) (λz z=>rfl))))),?_⟩
try dsimp-beta-proj-iota-zeta-eta only[wishK,cxK]
refine⟨_,rfl,iI ⟨(by show(0:Int)<8;decide),rfl,_,rfl,ite2 (λ_=>?_) (λ_=>?_)⟩⟩
.have mv:=q0Q (c / 8) (ns.length:Int) (by lia);obtain⟨n,I,e⟩:=D _ mv.1 mv.2;refine⟨_,rfl,_,rfl,iI ⟨⟨by decide,by decide⟩,_,rfl,l,_,rfl,.inl (SqL.of hl),?_⟩⟩;rw[hU];exact(iI ⟨(by show(0:Int)<(ns.length:Int);lia),iL (k:=_) (v:=.int n) (SqL.of hl) e (k n I)⟩)
obtain⟨h,U,h1,h2⟩:∃h:Int,(if((ns.length:Nat):Int)<2 then((ns.length:Nat):Int)else 2)=h/\1<=h/\h<=(ns.length:Int):=by
 by_cases z:((ns.length:Nat):Int)<2
 .exact⟨_,kL z,by lia,by lia⟩
 exact⟨_,kE z,by lia,by lia⟩
have mv:=q0Q (c / 8%6) h (by lia)
obtain⟨n,I,e⟩:=D _ mv.1 (by lia)
refine⟨_,rfl,_,rfl,iI ⟨⟨by decide,by decide⟩,iI ⟨(by show(0:Int)<6;decide),_,rfl,l,_,rfl,.inl (SqL.of hl),?_⟩⟩⟩
rw[hU]
refine⟨_,_,rfl,?_⟩
rw[U]
exact(iI ⟨(by show(0:Int)<h;lia),iL (k:=_) (v:=.int n) (SqL.of hl) e (k n I)⟩))
theorem cmN{a:Nat}{x:Int}(h:a<=256):CMul (a:Int) x:=.inl ⟨by lia,by lia⟩
theorem rngB{a b:Nat}(h:a+b<=256):-(2 ^ 62)<=(a:Int)/\(a:Int)<2 ^ 62/\-(2 ^ 62)<=(a:Int)+(b:Int)/\(a:Int)+(b:Int)<2 ^ 62:=by lia
theorem rngN{a b:Nat}:((a:Int)+(b:Int)-(a:Int)).toNat=b:=by lia
def FLt(pg:Nat->Option (Int×Int))(H:Hp)(v:V)(p:Int):Prop:=∃a u,v=.ref a/\pg p.toNat=some u/\H a=some (.tup [.int (u.1 / 128),.int p])
inductive spMo(vs:List V)(H:Hp)(Q:VK)(E_:XK):Prop
|mk:∀sl bs kd KD k,∀s:XS,∀b:Nat,vs=[.ref sl,.int (s.q.P:Int),.int (b:Int),.ref kd]->H sl=some (.lst bs)->bs.length=s.q.B*s.q.P->PgAt H bs s.pg->H kd=some (.dK (dB KD))->WX k s->Pgs s->(∀n,n≠64->((∃p,(n,p)∈s.q.V)↔n∈KD.map (·.1)))->b<s.q.B->s.q.fi.getD b 0=(s.q.P:Int)->(∀l us H',Same H H'->H l=none->H' l=some (.lst us)->Paired (TupD H') us (lvF s b s.q.P)->Q (.ref l) H')->spMo vs H Q E_
theorem qAR(T:tXx)(S:tFf):S.aCI.Ok0 P w mg base 1 spMo:=by(
refine S.aCI.F.ok0 uT λcv A _ s H vs Q E hr h=>?_
obtain⟨sl,bs,kd,KD,k,s,b,rfl,hs,av,pa,hk,w,p,ke,hb,ef,kk⟩:=h
have hu:=q45 hr
have s9:(99999:Nat)<sizeLine:=by decide
have p1:=w.qs.ok.p1
have p2:=w.qs.ok.p2
have b2:=w.qs.ok.b2
have a7:bs.length<=256:=by rw[av];exact sB b2 p2
have vn:∀y∈s.q.V,0<=y.2/\y.2.toNat<bs.length:=λy hy=>by obtain⟨c,f,_,a1,a2,a3,_⟩:=w.vl y hy;rw[a3,mC,av];exact⟨aS _,(cV p1).mp (by rw[yM a2];exact a1)⟩
refine⟨_,(qB (qU (i:=4) uT.nd q4X) (qB (uO gT rfl (vD rfl T.oQ (qA (jE jJ (by rfl) T.aA3 g5 (qA (pv 0) qD)) qD)) (qT (i:=5) uT.nd) (qE (jG (q9R (PW.pt (q2G (qP q3M (qO jD (pv 0) (pv 5) (λz z=>rfl)) u8 (qQ _)) (q0H (qP qD5 (qL uL (qO qW (qO jD (pv 0) (pv 5) (λz z=>rfl)) qC (λz z=>rfl)) qC) (qO qW (qFM hu (pv 4) (qL yZ (qO qW (qO jD (pv 0) (pv 5) (λz z=>rfl)) qC (λz z=>rfl)) qC) (yB (qA qC (qA qC qD))) ⟨rfl,rfl,rfl,rfl⟩) qC (λz z=>rfl)) (qQ _)))))) (qE (q6I hu (pv 4) (qL yZ (qO qW (qO jD (pv 0) (pv 5) (λz z=>rfl)) qC (λz z=>rfl)) qC) (yB (qA (qL uL (qO qW (qO jD (pv 0) (pv 5) (λz z=>rfl)) qC (λz z=>rfl)) qC) (qA (pv 5) qD))) rfl)) qS))) (qB (qU (i:=6) uT.nd (jS qD)) (qB (uO gT rfl (q19 rfl T.oQ (qA (qL jP (pv 2) (pv 1)) (qA (qL jU (qL jP (pv 2) (pv 1)) (pv 1)) qD))) (qT (i:=5) uT.nd) (qB (qU (i:=7) uT.nd (qL yZ (qO qW (qO jD (pv 0) (pv 5) (λz z=>rfl)) qC (λz z=>rfl)) qC)) (qE (jG (q9R (PW.pt (q2G (qP yO (qO qW (qD9 hu (pv 4) (pv 7) (λz z=>rfl)) qC (λz z=>rfl)) (pv 5) (qQ _)) (q0H (PW.pt (q43 (qP yO (pv 7) qC (qQ _)) (q49 (qEZ (qCC hu (pv 7) (pv 3)))))))))) (qE (jA (q2J gO dD dE uP (pv 6) (qA (yB (qA (pv 7) (qA (pv 5) qD))) qD q1C)))) qS)))) (qE (qM (pv 6))))))),?_⟩
try dsimp-beta-proj-iota-zeta-eta only[wishK,cxK]
refine λO U=>?_
have sd:Same H (upd H O (.dK [])):=Same.upd U
have hd:(upd H O (.dK [])) O=some (.dK []):=qI
generalize upd H O (.dK [])=H1 at sd hd ⊢
refine⟨_,rfl,sl,bs,rfl,.inl (SqL.of (sd _ _ hs)),_,rfl,by lia,by lia,?_⟩
rw[mC]
refine q05 (λj ar H'=>∃y5 kvs W,ar=[some (.ref sl),some (.int (s.q.P:Int)),some (.int (b:Int)),some (.ref kd),some (.ref O),y5,none,none]/\H' O=some (.dK kvs)/\Paired (KvP (FLt s.pg H')) kvs W/\Lat s.pg (λz=>True) j W/\W.length<=j/\∀b o,b≠O->H1 b=some o->H' b=some o) ⟨_,[],[],rfl,hd,.nil,Lat.zero,kO _,λz z z e=>e⟩ (λj ar H' D' ab hj Z=>?_) (λar H' Z=>?_)
.obtain⟨y5,kvs,W,rfl,aa,pr,la,lw,kp⟩:=Z;have ad:=kp _ _ (qG hs U) (sd _ _ hs);have D:atI bs (0+(j:Int))=some (bs.getD j .non):=by rw[xD];exact yH (by rw[kJ,kF hj];rfl)
 refine⟨λc H2=>Same H' H2/\(c=true->∃v,s.pg j=some v/\∀p u,(v.1%128,p)∈W->s.pg p.toNat=some u->u.1 / 128<v.1 / 128)/\(c=false->∀v,s.pg j=some v->∃p u,(v.1%128,p)∈W/\s.pg p.toNat=some u/\v.1 / 128<=u.1 / 128),?_,?_⟩
 .refine⟨_,rfl,_,rfl,sl,bs,_,_,rfl,rfl,SqL.of ad,D,rfl,_,rfl,?_⟩;cases I:s.pg j with
  |none=>rw[pa.n j I,hG rfl];exact iteF ⟨Same.refl _,λc=>(by cases c),λz v e=>(by cases e)⟩
  |some v=>
   obtain⟨tp,e1,e2⟩:=pa.v j v I;have J:=kp _ _ (qG e2 U) (sd _ _ e2);rw[e1]at D;rw[e1,hX (λz=>by cases z)];refine iteT ?_;have b3:=(p.mr j v I).1;refine⟨_,rfl,_,rfl,sl,bs,_,.ref tp,rfl,rfl,SqL.of ad,D,iT (k:=0) (v:=.int v.1) (SqT.of J) rfl (iI ⟨⟨by decide,by decide⟩,_,rfl,O,rfl,.inl ⟨_,.inl aa⟩,_,rfl,_,rfl,sl,bs,_,.ref tp,rfl,rfl,SqL.of ad,D,iT (k:=0) (v:=.int v.1) (SqT.of J) rfl (iI ⟨(by show(0:Int)<128;decide),sz2,λt0 H2 n2 N h2=>⟨_,DGet.k (k:=Sum.inl (v.1%128)) (N _ _ aa),?_⟩⟩)⟩)⟩;by_cases z:v.1%128∈W.map (·.1)
   .obtain⟨d,hd,ed⟩:=kP.mp z;have hd:(v.1%128,d.2)∈W:=by rw[<-ed];exact hd
    obtain⟨x,e,a,u,rfl,g3,g4⟩:=qA4 pr la.nd hd;rw[e];refine(iT (k:=0) (v:=.int (u.1 / 128)) (SqT.of (N _ _ g4)) rfl (iI ⟨_,rfl,N,λc=>⟨v,rfl,λp u' Z e'=>?_⟩,λc v' ev=>?_⟩))
    .rw[qA1 la.nd Z hd,g3]at e';cases e';exact mI c
    cases ev;exact⟨d.2,u,hd,g3,xB.mp (gZ c)⟩
   rw[qH5 pr z];refine(iT (k:=0) (v:=.int 0) (SqT.of h2) rfl (iI ⟨_,rfl,N,λc=>⟨v,rfl,λp u' Z U=>absurd (kP.mpr ⟨_,Z,rfl⟩) z⟩,λc=>?_⟩));have:=gZ c;lia
 rintro c H2 ⟨N,c1,c2⟩
 have aw:=N _ _ aa;have az:Paired (KvP (FLt s.pg H2)) kvs W:=Paired.mapP pr λa d ⟨g1,x,u,g2,g3,g4⟩=>⟨g1,x,u,g2,g3,N _ _ g4⟩;have au:∀b o,b≠O->H1 b=some o->H2 b=some o:=λb o nb e=>N _ _ (kp b o nb e);cases c with
 |false=>exact iteF (ab _ _ ⟨_,kvs,W,rfl,aw,az,la.skip (λv e z=>c2 rfl v e),by lia,au⟩)
 |true=>
  obtain⟨v,I,nw⟩:=c1 rfl;obtain⟨tp,e1,e2⟩:=pa.v j v I;have J:=au _ _ (qG e2 U) (sd _ _ e2);have a6:=N _ _ ad;rw[e1]at D;have lk:kvs.length=W.length:=az.len;refine iteT ⟨_,rfl,_,rfl,sl,bs,_,.ref tp,rfl,rfl,SqL.of a6,D,iT (k:=0) (v:=.int v.1) (SqT.of J) rfl (iI ⟨⟨by decide,by decide⟩,_,rfl,sz2,λtn H4 n4 s4 h4=>?_⟩)⟩;refine⟨_,rfl,_,rfl,_,rfl,sl,bs,_,.ref tp,rfl,rfl,SqL.of (s4 _ _ a6),D,iT (k:=0) (v:=.int v.1) (SqT.of (s4 _ _ J)) rfl (iI ⟨(by show(0:Int)<128;decide),O,_,rfl,.inl ⟨_,Sum.inl (v.1%128),s4 _ _ aw,rfl,by lia,rfl⟩,?_⟩)⟩;rw[xD]at h4;have bv:=s4 _ _ aw;have nt:∀{a xs},H4 a=some (.tup xs)->(upd H4 O (.dK (putK kvs (Sum.inl (v.1%128):Key) (.ref tn)))) a=some (.tup xs):=fun {a xs} e=>by rw[qF (λz=>by rw[z,bv]at e;cases e)];exact e
  refine ab _ _ ⟨_,_,putW W (v.1%128) (j:Int),rfl,qI,qIV (Paired.mapP az λa d ⟨g1,x,u,g2,g3,g4⟩=>⟨g1,x,u,g2,g3,nt (s4 _ _ g4)⟩) ⟨tn,v,rfl,by rw[mC];exact I,nt h4⟩,la.take I trivial nw,?_,λb o nb e=>?_⟩
  .unfold putW;split
   .rw[hU];lia
   rw[kU];exact rV lw 1
  rw[qF nb];exact s4 _ _ (au b o nb e)
obtain⟨y5,kvs,W,rfl,aa,pr,la,lw,kp⟩:=Z
have sH:∀{H2:Hp},Same H' H2->Same H H2:=fun {H2} N b o e=>N _ _ (kp _ _ (qG e U) (sd _ _ e))
refine⟨sz0,λfl H2 n2 N h2=>?_⟩
have bB:b*s.q.P+s.q.P<=s.q.B*s.q.P:=by rw[<-rS];exact gH _ hb
have bz:=kQ bB (av▸a7)
have ai:b<=256:=kQ (cK hb) (kQ b2 (by decide))
refine⟨_,rfl,_,rfl,iI ⟨cmN ai,_,rfl,_,rfl,iI ⟨cmN ai,_,rfl,iI ⟨_,_,rfl,?_⟩⟩⟩⟩
rw[<-gY]
refine⟨rngB bz,?_⟩
rw[rngN]
refine q05 (λf ar H3=>∃y5 y7 us,ar=[some (.ref sl),some (.int (s.q.P:Int)),some (.int (b:Int)),some (.ref kd),some (.ref O),y5,some (.ref fl),y7]/\H3 fl=some (.lst us)/\Paired (TupD H3) us (lvF s b f)/\us.length<=f/\Same H' H3) ⟨_,_,[],rfl,h2,.nil,kO _,N⟩ (λf ar H3 D' ab hf Z=>?_) (λar H3 Z=>?_)
.obtain⟨bp,y7,us,rfl,h3,ac,lu,s3⟩:=Z;have a9:b*s.q.P+f<bs.length:=by lia
 obtain⟨v,ae⟩:=p.wr b f hb hf (by rw[ef];lia);obtain⟨tp,e1,e2⟩:=pa.v _ v ae;have J:=sH s3 _ _ e2;have D:atI bs (((b*s.q.P:Nat):Int)+(f:Int))=some (.ref tp):=by rw[<-rL,<-e1];exact yH (by rw[kJ,kF a9];rfl)
 obtain⟨d,ah,ed⟩:=kP.mp (la.al _ v a9 ae trivial);have ah:(v.1%128,d.2)∈W:=by rw[<-ed];exact ah
 obtain⟨x,ex,a,u,rfl,g3,g4⟩:=qA4 pr la.nd ah;have ao:=la.mv p vn ae ah;refine⟨_,rfl,_,rfl,sl,bs,_,.ref tp,rfl,rfl,SqL.of (sH s3 _ _ hs),D,iT (k:=0) (v:=.int v.1) (SqT.of J) rfl (iI ⟨(by show(0:Int)<128;decide),?_⟩)⟩;refine⟨λc H4=>H4=H3/\c=decide ((v.1%128,((b*s.q.P+f:Nat):Int))∈s.q.V),?_,?_⟩
 .refine⟨_,rfl,_,rfl,O,.ref a,rfl,?_,iT (k:=1) (v:=.int d.2) (SqT.of (s3 _ _ g4)) rfl ⟨_,rfl,rfl,_,rfl,?_⟩⟩
  .have:=DGet.k (k:=Sum.inl (v.1%128)) (s3 _ _ aa);rw[ex]at this;exact this
  rw[yL];by_cases z:d.2=((b*s.q.P:Nat):Int)+(f:Int)
  .rw[hG z];refine iteT ⟨_,rfl,rfl,_,rfl,?_⟩;rw[yL];by_cases y:v.1%128=64
   .rw[hG y];exact iteT ⟨rfl,(hG (ao.mp ⟨z,.inl y⟩)).symm⟩
   rw[hX y];refine iteF ⟨_,rfl,_,rfl,kd,_,rfl,DGet.k (k:=Sum.inl (v.1%128)) (sH s3 _ _ hk),_,rfl,rfl,?_⟩;rw[q58];exact cH.mpr ⟨λg=>ao.mp ⟨z,.inr ((ke _ y).mpr g)⟩,λg=>(ke _ y).mp ⟨_,g⟩⟩
  rw[hX z];exact iteF ⟨rfl,(hX λg=>z (ao.mpr g).1).symm⟩
 rintro c H4 ⟨rfl,rfl⟩
 by_cases z:(v.1%128,((b*s.q.P+f:Nat):Int))∈s.q.V
 .rw[hG z];refine iteT ?_;refine⟨_,rfl,.inl ⟨rfl,_,SqL.of h3⟩,_,rfl,_,rfl,sz2,λtn H5 n5 s5 h5=>⟨fl,us,_,rfl,rfl,s5 _ _ h3,by lia,?_⟩⟩;refine ab _ _ ⟨_,_,_,rfl,qI,?_,by rw[kU];exact rV lu 1,λb o e=>?_⟩
  .rw[qIZ w z];exact L2.Paired.snoc (Paired.mapP (jH ac s5) λx k z=>z.upd (s5 _ _ h3) (λz q=>by cases q)) (TupD.upd ⟨tn,rfl,by rw[rL];exact h5⟩ (s5 _ _ h3) (λz q=>by cases q))
  rw[qF (qG e n2)];exact s5 _ _ (s3 _ _ e)
 rw[hX z];refine iteF (ab _ _ ⟨_,_,us,rfl,h3,?_,by lia,s3⟩);rw[qLS λn g=>z ?_]
 .exact ac
 obtain⟨u',f1,f2,_⟩:=p.nw _ g;have f1:s.pg ((b*s.q.P+f:Nat):Int).toNat=some u':=f1;rw[mC,ae]at f1;cases f1;have f2:v.1%128=n:=f2;rw[f2];exact g
obtain⟨bp,y7,us,rfl,h3,ac,lu,s3⟩:=Z
exact⟨_,rfl,kk fl us H3 (sH s3) (Same.free (sH (Same.refl _)) n2) h3 ac⟩)
noncomputable def opU(s:XS)(u:Nat):List Int:=((List.range u).filter λb=>decide (s.q.fi.getD b 0≠0)).flatMap (clrP s)
noncomputable def clU(s:XS)(u:Nat):List Nat:=(List.range u).filter λb=>decide (s.q.fi.getD b 0=0)
theorem qHJ{s:XS}{b:Nat}:(clrP s b).length<=s.q.P:=by unfold clrP;simp
theorem q5E{s:XS}:∀(l:List Nat),(l.flatMap (clrP s)).length<=l.length*s.q.P
| []=>m9 _
|a::l=>by rw[wY,kU,mP,rS];have:=q5E (s:=s) l;have:=qHJ (s:=s) (b:=a);lia
inductive spSs(t:Adr)(vs:List V)(H:Hp)(Q:VK)(E_:XK):Prop
|mk:∀c a m sl bs k,∀s:XS,vs=[.ref c,.ref sl,.int (s.q.P:Int)]->ChipAt t.C_Chip H c a m->m.Ok->m.cl=s.cl->m.bl=(s.q.B:Int)->H sl=some (.lst bs)->bs.length=s.q.B*s.q.P->PgAt H bs s.pg->WX k s->Pgs s->(∀l fl H',FreeIs s.q.B (noB s.q.B) s.cl s.q.fi fl->Same H H'->H l=none->H' l=some (.lst ((sptL s fl).map V.int))->Q (.ref l) H')->spSs t vs H Q E_
theorem qAS(T:tXx)(S:tFf):S.aCP.Ok0 P w mg base 5 (spSs t):=by(
refine S.aCP.F.ok0 uG λda A _ s H vs Q E hr h=>?_
obtain⟨c,a,m,sl,bs,k,s,rfl,hc,bg,bl,cf,hs,bj,pa,w,p,kk⟩:=h
have hu:=q45 hr
have s9:(99999:Nat)<sizeLine:=by decide
have p1:=w.qs.ok.p1
have p2:=w.qs.ok.p2
have b2:=w.qs.ok.b2
have al:s.q.B*s.q.P<=256:=sB b2 p2
have an:∀u,u<=s.q.B->u*s.q.P<=256:=λu hu=>kQ (gH _ hu) al
have az:∀b:Nat,(b:Int)*(s.q.P:Int)=((b*s.q.P:Nat):Int):=λb=>by rw[gY]
have bP:∀b,b<s.q.B->b*s.q.P+s.q.P<=s.q.B*s.q.P:=λb hb=>by rw[<-rS];exact gH _ hb
have O:∀b,b<s.q.B->b<=256:=λb hb=>kQ (cK hb) (kQ b2 (by decide))
refine⟨_,(qB (qU (i:=3) uG.nd (jS qD)) (qB (qU (i:=4) uG.nd (jS qD)) (qB (uO gT rfl (vD rfl T.oQ (qA (qL uL (jE jJ (by rfl) T.aA3 g5 (qA (pv 1) qD)) (pv 2)) qD)) (qT (i:=5) uG.nd) (qB (vH (i:=6) ["_law_stuff","_law_page"] [1] rfl (q19 rfl T.oQ (qA (qL jP (pv 5) (pv 2)) (qA (qL jU (qL jP (pv 5) (pv 2)) (pv 2)) qD))) (λz z z z z=>(qT (i:=1) (show List.Nodup (["_law_stuff","_law_page"]:List Str)from by decide))) (λz z z z z=>(yV (qP q9L (qO (q78 (K:=K) rfl) (pv 0) (pv 1) (λz z=>rfl)) u8 (qQ _)))) (λz z z z z=>(pv 1)) (by kernel_rfl) (jI (by decide)) uG.nd rfl (Or.inl rfl)) (qE (jG (qP yO (jE jJ (by rfl) T.aA3 g5 (qA (pv 6) qD)) (pv 2) (qQ _)) (qE (jA (q2J gO dD dE uP (pv 4) (qA (yB (qA (qY (pv 0) T.fZ T.i8 (uH T S).mono hr S.iY.b .nil qK (qA (pv 5) qD)) (qA (pv 5) qD))) qD q1C)))) (qE (jA (q2J gO pL pM q5I (pv 3) (qA (pv 6) qD)))))))) (qB (uO gT rfl (jM (jE q52 (by rfl) T.aCC (by kernel_rfl) (qA (pv 4) qD))) (q6R rfl (yE (qT (i:=7) uG.nd) (yE (qT (i:=5) uG.nd) q1T))) (qE (jA (q2J gO pL pM q5I (pv 3) (qA (vE (q8B rfl) (by rfl) T.aB8 (by kernel_rfl) (qA (vE qBA (by rfl) T.oQ (by kernel_rfl) (qA (qL jP (pv 5) (pv 2)) (qA (qL jU (qL jP (pv 5) (pv 2)) (pv 2)) qD))) qD)) qD))))) (qE (qM (pv 3))))))),?_⟩
try dsimp-beta-proj-iota-zeta-eta only[wishK,cxK]
refine⟨sz0,λsp H1 n1 s1 h1=>⟨sz0,λcl H2 n2 s2 h2=>?_⟩⟩
have spc:sp≠cl:=qG h1 n2
have a3:=s1.trans s2
have am:=n1
have br:=s1.free n2
have eB:((bs.length:Nat):Int) / (s.q.P:Int)=(s.q.B:Int):=by rw[bj,gY,Int.mul_ediv_cancel _ (show(s.q.P:Int)≠0 by lia)]
refine⟨_,rfl,sl,bs,rfl,.inl (SqL.of (a3 _ _ hs)),_,rfl,iI ⟨⟨by lia,by lia⟩,(s.q.B:Int),dL (λx=>[V.int x]) eB,by lia,by lia,?_⟩⟩
rw[mC]
refine q05 (λu ah H'=>∃y5 y6 cs,ah=[some (.ref c),some (.ref sl),some (.int (s.q.P:Int)),some (.ref sp),some (.ref cl),y5,y6,none]/\H' sp=some (.lst ((opU s u).map V.int))/\H' cl=some (.lst cs)/\Paired (TupD H') cs ((clU s u).map (keyN s.cl))/\Same H H') ⟨_,_,[],rfl,s2 _ _ h1,h2,.nil,a3⟩ (λu ah H' D' ag J Z=>?_) (λah H' Z=>?_)
.obtain⟨y5,y6,cs,rfl,aa,af,pr,sm⟩:=Z;obtain⟨f,ef,fP⟩:=w.qs.ok.wr u J;have:=bP u J;rw[xD];refine⟨_,rfl,_,rfl,iI ⟨cmN (O u J),_,rfl,_,rfl,iI ⟨cmN (O u J),_,rfl,iI ⟨_,_,rfl,?_⟩⟩⟩⟩;rw[az];refine⟨rngB (kQ (bP u J) al),λml H3 n3 s3 h3=>?_⟩;rw[rngN];have a4:clrP s u=(List.range (s.q.P-f)).map λi=>((u*s.q.P+(f+i):Nat):Int):=by unfold clrP;rw[ef,mC]
 refine zW (D:=ml) (λi HA=>Same H' HA/\HA ml=some (.lst (((List.range (i-f)).map λj=>((u*s.q.P+(f+j):Nat):Int)).map V.int))) ⟨s3,by rw[Nat.zero_sub];exact h3⟩ (λi HA hi Z=>?_) (λHA Z=>?_)
 .obtain⟨U,hA⟩:=Z;have iN:u*s.q.P+i<bs.length:=by lia
  have bq:atI bs (((u*s.q.P:Nat):Int)+(i:Int))=some (bs.getD (u*s.q.P+i) .non):=by rw[<-rL];exact yH (by rw[kJ,kF iN];rfl)
  refine⟨_,rfl,_,rfl,sl,bs,_,_,rfl,rfl,SqL.of (U _ _ (sm _ _ hs)),bq,rfl,_,rfl,?_⟩;cases hpg:s.pg (u*s.q.P+i)with
  |none=>
   have fi:f<=i:=sJ.mp λy=>by obtain⟨v,e⟩:=p.wr u i J hi (by rw[ef];lia);rw[hpg]at e;cases e
   rw[pa.n _ hpg,hG rfl];refine iteT ⟨_,rfl,_,hA,?_,λb o e=>?_,?_⟩
   .rw[hU,hU,mM];lia
   .rw[qF (qG e n3)];exact U _ _ e
   rw[qI,show i+1-f=i-f+1 by lia,r9,mE,mE,<-rL];show _=some (HO.lst (_++[V.int ((u*s.q.P+(f+(i-f)):Nat):Int)]));rw[show f+(i-f)=i by lia]
  |some v=>
   have fi:i<f:=Nat.not_le.mp λy=>by rw[w.cr u i J (by rw[ef];lia) hi]at hpg;cases hpg
   obtain⟨tp,e1,_⟩:=pa.v _ v hpg;rw[e1,hX (λz=>by cases z)];refine iteF ⟨U,?_⟩;rw[show i+1-f=i-f by lia];exact hA
 obtain⟨U,hA⟩:=Z;rw[<-a4]at hA;have bi:(clrP s u).length=s.q.P-f:=by rw[a4,hU,mM]
 refine⟨_,rfl,ml,_,rfl,.inl (SqL.of hA),_,rfl,rfl,_,rfl,?_⟩;rw[hU,bi,yL];have ru:List.range (u+1)=List.range u++[u]:=r9;by_cases z:f=0
 .rw[hG (show((s.q.P-f:Nat):Int)=(s.q.P:Int) by lia)];have fz:s.q.fi.getD u 0=0:=by rw[ef];lia
  have N:=U _ _ af;have bc:cs.length<=u:=by rw[pr.len,hU];refine kQ (kY _ _) ?_;rw[mM];exact kO _
  have ax:=hc.same (sm.trans U);refine iteT ⟨_,rfl,.inl ⟨rfl,_,SqL.of N⟩,iV rfl (iM ax.ins rfl ⟨_,rfl,c,a,m,_,rfl,ax,bg,by lia,by lia,_,rfl,sz2,λtn H5 n5 s5 h5=>⟨cl,cs,_,rfl,rfl,s5 _ _ N,by lia,?_⟩⟩)⟩;rw[mC,bl]at h5;refine ag _ _ ⟨_,_,_,rfl,?_,qI,?_,λb o e=>?_⟩
  .rw[qF spc];unfold opU;rw[ru,m7,mU,kE (by rw[fz];decide),rK,gN];exact s5 _ _ (U _ _ aa)
  .unfold clU;rw[ru,m7,mU,kL (by rw[fz];decide),rK,mE];exact L2.Paired.snoc (Paired.mapP (jH (jH pr U) s5) λx k z=>z.upd (s5 _ _ N) (λz q=>by cases q)) (TupD.upd ⟨tn,rfl,h5⟩ (s5 _ _ N) (λz q=>by cases q))
  rw[qF (qG e br)];exact s5 _ _ (U _ _ (sm _ _ e))
 rw[hX (show ¬((s.q.P-f:Nat):Int)=(s.q.P:Int) by lia)];have fz:s.q.fi.getD u 0≠0:=by rw[ef];lia
 have ac:=U _ _ aa;have bd:(opU s u).length<=256:=by refine kQ (q5E _) (kQ (gH _ (kQ (kY _ _) ?_)) (an u (by lia)));rw[mM];exact kO _
 refine iteF ⟨_,rfl,.inl ⟨rfl,_,SqL.of ac⟩,_,rfl,sp,ml,_,_,rfl,rfl,ac,hA,by rw[hU,hU];lia,?_⟩;refine ag _ _ ⟨_,_,cs,rfl,?_,?_,?_,λb o e=>?_⟩
 .unfold opU;rw[qI,ru,m7,mU,kL (hG fz),rK,x6,wY,lT,gN,mE]
 .rw[qF spc.symm];exact U _ _ af
 .unfold clU;rw[ru,m7,mU,kE (by rw[hX fz];decide),rK,gN];exact Paired.mapP (jH pr U) λx k z=>z.upd ac (λz q=>by cases q)
 rw[qF (qG e am)];exact U _ _ (sm _ _ e)
obtain⟨y5,y6,cs,rfl,aa,af,pr,sm⟩:=Z
have bc:cs.length<=16:=by rw[pr.len,hU];refine kQ (kY _ _) ?_;rw[mM];exact b2
refine⟨_,rfl,cl,cs,_,2,rfl,SqL.of af,q9Z pr,λk hk=>?_,by decide,by lia,λqs pp pw l H5 n5 s5 h5=>?_⟩
.obtain⟨b,_,rfl⟩:=kP.mp hk;rfl
have ap:=q7G (jH pr s5) (λi hi=>mV.mp (pp.mem_iff.mp hi))
have ao:=q7F pr.len.symm pp
generalize (qs.map λi=>((clU s s.q.B).map (keyN s.cl)).getD i [])=Lk at pw ap ao
obtain⟨fl,bn⟩:∃fl:List Nat,Lk=fl.map (keyN s.cl):=⟨Lk.map λk=>(k.getD 1 0).toNat,by rw[dW];refine(bY _).symm.trans (dA λk hk=>?_);obtain⟨b,_,rfl⟩:=kP.mp (ao.mem_iff.mp hk);rfl⟩
subst bn
have eC:yR s.q.B (noB s.q.B) s.q.fi=clU s s.q.B:=by unfold yR clU;rw[show uU s.q.B (noB s.q.B)=List.range s.q.B from yJ]
have fr:FreeIs s.q.B (noB s.q.B) s.cl s.q.fi fl:=⟨by rw[eC];have:=ao.map λk=>(k.getD 1 0).toNat;rw[dW,dW,show((λk:List Int=>(k.getD 1 0).toNat) ∘ keyN s.cl)=id from rfl,bY,bY]at this;exact this,pw⟩
have bp:=sm.trans s5
have c3:=fr.len
refine⟨l,rfl,⟨_,SqL.of h5⟩,?_⟩
refine q3U (K:=K) (xs:=qs.map λi=>cs.getD i .non) (λi ah H6=>∃y5 y6 y7,ah=[some (.ref c),some (.ref sl),some (.int (s.q.P:Int)),some (.ref sp),some (.ref cl),y5,y6,y7]/\H6 sp=some (.lst ((opn s++(fl.take i).flatMap (clrP s)).map V.int))/\∀b o,b≠sp->H5 b=some o->H6 b=some o) ⟨_,_,_,rfl,by rw[List.take_zero,lT,gN];exact s5 _ _ aa,λz z z e=>e⟩ (λi ah H6 hi Z=>?_) (λi v ah H6 D' ag hv Z=>?_) (λah H6 Z=>?_)
.obtain⟨y5,y6,y7,rfl,I,kp⟩:=Z;exact SqL.of (kp _ _ (qG aa n5).symm h5)
.obtain⟨y5,y6,y7,rfl,I,kp⟩:=Z;obtain⟨kd,a2,x',rfl,hx⟩:=Paired.at ap hv;rw[mF]at a2;obtain⟨b,hb,rfl⟩:=mK.mp a2;obtain⟨il,rfl⟩:=kC.mp hb;obtain⟨bB,_,b0⟩:=fr.mem (gG il);have bh:=kp _ _ (λz=>by rw[z,s5 _ _ aa]at hx;cases hx) hx;have:=bP _ bB;have bd:(opn s++(fl.take i).flatMap (clrP s)).length<=512:=by
  rw[kU];have h1:(opn s).length<=256:=by refine kQ (q5E _) (kQ (gH _ (kQ (kY _ _) ?_)) (an s.q.B (kO _)));rw[mM];exact kO _
  have h2:((fl.take i).flatMap (clrP s)).length<=256:=by refine kQ (q5E _) (kQ (gH _ ?_) (an s.q.B (kO _)));rw[gF];lia
  lia
 refine⟨x',_,rfl,SqT.of bh,rfl,_,_,rfl,_,_,rfl,rfl,?_⟩;refine⟨_,rfl,.inl ⟨rfl,_,SqL.of I⟩,_,rfl,_,rfl,iI ⟨cmN (O _ bB),_,rfl,_,rfl,iI ⟨cmN (O _ bB),_,rfl,iI ⟨_,_,rfl,λrg H7 n7 s7 h7=>?_⟩⟩⟩⟩;rw[az]at h7;obtain⟨g1,g2,g3,g4⟩:=rngB (kQ (bP _ bB) al);refine⟨rg,_,_,rfl,h7,g1,g2,g3,g4,by rw[rngN];exact kQ p2 (by decide),λll H8 n8 s8 h8=>?_⟩;rw[rngN]at h8;have aw:=s8 _ _ (s7 _ _ I);refine⟨sp,ll,_,_,rfl,rfl,aw,h8,by rw[hU,hU,mM];lia,?_⟩;refine ag _ _ ⟨_,_,_,rfl,?_,λb o nb e=>?_⟩
 .rw[qI,<-kW il,x6,wY,lT,gN,<-wW,mE (l₂:=clrP s fl[i])];refine dL (λz=>some (HO.lst (List.map V.int (opn s++(fl.take i).flatMap (clrP s))++z))) ?_;unfold clrP;rw[b0,dW];refine dA λj _=>?_;show V.int (((fl[i] *s.q.P:Nat):Int)+(j:Int))=V.int ((fl[i] *s.q.P+((0:Int).toNat+j):Nat):Int);rw[<-rL,show(0:Int).toNat+j=j from nK j]
 rw[qF nb];exact s8 _ _ (s7 _ _ (kp b o nb e))
obtain⟨y5,y6,y7,rfl,I,kp⟩:=Z
have lq:=ap.len.trans (hU _)
rw[lq,mY]at I
exact⟨_,rfl,kk sp fl H6 fr (λb o e=>kp _ _ (qG e am) (bp _ _ e)) am I⟩)
set_option tactic.hygienic true in
theorem PgAt.set(h:PgAt H xs g){u:Int×Int}(he:e<xs.length)(ht:H tn=some (.tup [.int u.1,.int u.2])):PgAt H (xs.set e (.ref tn)) (λj=>if j=e then some u else g j):=by(
refine⟨λi z=>?_,λi v z=>?_⟩
.split at z
 .lia
 rename_i ne;rw[jF,kE (λy=>ne y.1.symm)];exact h.n i z
split at z
.simp_all
rename_i ne
rw[jF,kE (λy=>ne y.1.symm)]
exact h.v i v z)
set_option tactic.hygienic true in
theorem PgAt.non(h:PgAt H xs g):PgAt H (xs.set e .non) (λj=>if j=e then none else g j):=by(
refine⟨λi z=>?_,λi v z=>?_⟩
.rw[jF];split
 .rfl
 rename_i ne;split at z
 .rename_i y;rw[kJ,gR (sJ.mp λq=>ne ⟨y.symm,by simp_all⟩)];rfl
 exact h.n i z
split at z
.lia
rename_i ne
rw[jF,kE (λy=>ne y.1.symm)]
exact h.v i v z)
theorem qJD{kd D:Addr}{o:Obj}{KD:Mp}{H H2:Hp}{R:Hp->Prop}(hk:H kd=some (.dK (dB KD)))(l64:KD.length<=64)(kb:∀y∈KD,0<=y.1/\y.1<64)(nD:(upd H kd (.frz o (.dK (dB KD)))) D=none)(s2:Same (upd H kd (.frz o (.dK (dB KD)))) H2)(hD:H2 D=some (.lst []))
 (hd:∀H3,H3 kd=some (.frz o (.dK (dB KD)))->Same H (upd H3 kd (.dK (dB KD)))->(upd H3 kd (.dK (dB KD))) D=some (.lst ((KD.map λy=>(2:Int) ^ y.1.toNat).map V.int))->R H3):
 ∃W:Nat->Nat->Hp->Prop,(∃m,W 0 m H2)/\∀i m H3,W i m H3->((Itd kd o (dB KD)).stop i H3/\R H3)\/((Itd kd o (dB KD)).go i H3/\∃N:Hp->Prop,(∀H',N H'->∃m',m'<m/\W (i+1) m' H')/\∀x H4,(Itd kd o (dB KD)).yld i H3 x H4->q2E 0 x [none] H4 λσ5 H5=>q75 σ5 H5 λb H6=>
   if b=true then tOp (rI CPow λi j=>V.int (i*2 ^ j.toNat)) (tC (V.int 1)) (tVar 0) σ5 H6 (λv H7=>∃vs,H7 D=some (.lst vs)/\vs.length<sizeLine/\N (upd H7 D (.lst (vs++[v]))))else N H6):=by(
have k2:∀x u,x≠kd->H x=some u->H2 x=some u:=λx u nx e=>s2 _ _ (by rw[qF nx];exact e)
have fz:=s2 _ _ qI
have Z:D≠kd:=λz=>by rw[z,fz]at hD;cases hD
have U:H D=none:=by rw[qF Z]at nD;exact nD
refine qBG (D:=D) (λi H3=>H3 kd=some _/\(∀x u,x≠kd->H x=some u->H3 x=some u)/\H3 D=some (.lst (((KD.take i).map λy=>(2:Int) ^ y.1.toNat).map V.int))) ⟨fz,k2,hD⟩ (λi H3 O=>O.1) (λi kv H3 S O=>?_) (λH3 O=>?_)
.obtain⟨I,k3,hd⟩:=O;unfold dB at S;rw[mF]at S;obtain⟨y,hy,rfl⟩:=mK.mp S;obtain⟨il,rfl⟩:=kC.mp hy;have b:=kb _ (gG il);refine⟨_,rfl,iI ⟨⟨b.1,by lia,by decide⟩,_,hd,?_,?_,λx u nx e'=>?_,?_⟩⟩
 .rw[hU,hU,gF];have:(65:Nat)<sizeLine:=by decide
  lia
 .rw[qF Z.symm];exact I
 .rw[qF (qG e' U)];exact k3 _ _ nx e'
 rw[qI,<-kW il,mE,mE];show some (HO.lst (_++[V.int (1*2 ^ KD[i].1.toNat)]))=_;rw[bX];rfl
obtain⟨I,k3,J⟩:=O
rw[qCU,mY]at J
exact hd H3 I (qCM hk k3) (by rw[qF Z];exact J))
noncomputable def stpL(s:XS)(i:Nat):List Int:=(List.range i).filterMap λj=>(s.pg j).map λv=>v.1 / 128
inductive spBh(vs:List V)(H:Hp)(Q:VK)(E_:XK):Prop
|mk:∀sl bs ml us ms kd KD k,∀s:XS,∀b:Nat,vs=[.ref sl,.int (s.q.P:Int),.int (b:Int),.ref ml,.ref kd]->H sl=some (.lst bs)->bs.length=s.q.B*s.q.P->PgAt H bs s.pg->H ml=some (.lst us)->Paired (TupD H) us ms->H kd=some (.dK (dB KD))->KD.length<=64->(∀y∈KD,0<=y.1/\y.1<64)->((KD.map λy=>(2:Int) ^ y.1.toNat).sum=XS.bits s.hl)->WX k s->Pgs s->(∀i v,s.pg i=some v->i<s.q.B*s.q.P)->(∃n,TopN s n)->b<s.q.B->(∀m∈ms,∃n p e,m=[n,p,e]/\(n,p)∈s.q.V/\0<=e/\e.toNat<s.q.B*s.q.P)->(∀l xs H',Same H H'->H l=none->H' l=some (.lst xs)->xs.length=s.q.B*s.q.P->PgAt H' xs (λj=>if j / s.q.P=b then none else(ms.foldl (bhS s) (s.q.nx-1,s.pg)).2 j)->Q (.ref l) H')->spBh vs H Q E_
theorem q8P(T:tXx)(S:tFf):S.aBV.Ok0 P w mg base 1 spBh:=by(
refine S.aBV.F.ok0 yN λc4 A _ s H vs Q E hr h=>?_
obtain⟨sl,bs,ml,us,ms,kd,KD,k,s,b,rfl,hs,am,pa,hm,pm,hk,lk,kb,sk,w,p,bd,⟨n0,top⟩,hb,mk,kk⟩:=h
have hu:=q45 hr
have s9:(99999:Nat)<sizeLine:=by decide
have p1:=w.qs.ok.p1
have p2:=w.qs.ok.p2
have b2:=w.qs.ok.b2
have bx:s.q.B*s.q.P<=256:=sB b2 p2
refine⟨_,(qB (qU (i:=5) yN.nd (vE uI (by rfl) T.aB8 (by kernel_rfl) (qA (pv 0) qD))) (qB (qU (i:=6) yN.nd (jE (qEM rfl) (by rfl) T.aGE (by kernel_rfl) (qA (yC ["_law_thing"] [] rfl (jM (pv 0)) (λz z z z z=>(qT (i:=0) (show List.Nodup (["_law_thing"]:List Str)from by decide))) (λz z z z z=>(yV (qP q3M (pv 0) u8 (qQ _)))) (λz z z z z=>(qL uL (qO (yY (K:=K) rfl) (pv 0) qC (λz z=>rfl)) qC)) (by kernel_rfl) (jI (by decide))) qD))) (qB (uO gT rfl (jM (pv 3)) (q6R rfl (yE (qT (i:=7) yN.nd) (yE (qT (i:=8) yN.nd) (yE (qT (i:=9) yN.nd) q1T)))) (qB (qU (i:=6) yN.nd (qL jU (pv 6) qC)) (qB (q1U (yB (qA (qL jU (qL jP (pv 6) qC) (pv 7)) (qA (qO qW (qO jD (pv 0) (pv 8) (λz z=>rfl)) qC (λz z=>rfl)) qD))) (q2H (pv 5) (pv 9) u6)) (qE (jG (qP yO (pv 7) qC (qQ _)) (qE (q1U (yB (qA (qL jU (qL jP (pv 6) qC) qC) (qA (jE (qEN rfl) (by rfl) T.aGD (by kernel_rfl) (qA (q9U (yC ["_law_sheet"] [] rfl (qDJ (pv 4)) (λz z z z z=>(qT (i:=0) (show List.Nodup (["_law_sheet"]:List Str)from by decide))) (λz z z z z=>uR) (λz z z z z=>(qL qF2 qC (pv 0))) (by kernel_rfl) (jI (by decide)))) qD)) qD))) (q2H (pv 5) (pv 9) u6))) qS))))) (qB (uO gT rfl (q19 rfl T.oQ (qA (qL jP (pv 2) (pv 1)) (qA (qL jU (qL jP (pv 2) (pv 1)) (pv 1)) qD))) (qT (i:=10) yN.nd) (qE (q1U u8 (q2H (pv 5) (pv 10) u6)))) (qE (qM (pv 5))))))),?_⟩
try dsimp-beta-proj-iota-zeta-eta only[wishK,cxK]
refine⟨_,rfl,sl,bs,rfl,.inl (SqL.of hs),λN H1 n1 s1 h1=>?_⟩
refine⟨_,rfl,sl,rfl,⟨_,SqL.of (s1 _ _ hs)⟩,λD H2 nD s2 hD=>?_⟩
refine yW (K:=K) (xs:=bs) (D:=D) (λi Z=>Same H1 Z/\Z D=some (.lst ((stpL s i).map V.int))) ⟨s2,hD⟩ (λi Z J=>SqL.of (J.1 _ _ (s1 _ _ hs))) (λi v Z hv J=>?_) (λZ J=>?_)
.obtain⟨s3,h3⟩:=J;obtain⟨il,ev⟩:=kC.mp hv;have gv:bs.getD i .non=v:=by rw[kJ,hv];rfl
 have ls:(stpL s i).length<=i:=by unfold stpL;refine kQ (d6 _ _) ?_;rw[mM];exact kO _
 have es:stpL s (i+1)=stpL s i++((s.pg i).map λv=>v.1 / 128).toList:=by unfold stpL;rw[r9,sG,dY];cases s.pg i<;>rfl
 refine⟨_,rfl,rfl,_,rfl,?_⟩;cases hpg:s.pg i with
 |none=>rw[<-gv,pa.n i hpg,hG rfl];refine iteF ⟨s3,?_⟩;rw[es,hpg];simpa using h3
 |some u=>
  obtain⟨tp,e1,e2⟩:=pa.v i u hpg;rw[<-gv,e1,hX (λz=>by cases z)];refine iteT ⟨_,rfl,iT (k:=0) (v:=.int u.1) (SqT.of (s3 _ _ (s1 _ _ e2))) rfl (iI ⟨⟨by decide,by decide⟩,_,h3,by rw[hU];lia,λb o e=>?_,?_⟩)⟩
  .rw[qF (qG e nD)];exact s3 _ _ e
  rw[qI,es,hpg,mE];rfl
obtain⟨s3,h3⟩:=J
have ao:=s1.trans s3
have a8:∀a,a∈stpL s bs.length↔∃j v,j<bs.length/\s.pg j=some v/\v.1 / 128=a:=λa=>by
 unfold stpL;rw[wM];constructor
 .rintro⟨j,hj,e⟩
  obtain⟨v,e1,e2⟩:=mK.mp e;exact⟨j,v,mV.mp hj,e1,e2⟩
 rintro⟨j,v,hj,e1,e2⟩
 exact⟨j,mV.mpr hj,by rw[e1,<-e2];rfl⟩
have a6:s.q.nx-1∈stpL s bs.length:=by obtain⟨p',v,h1,h2,h3⟩:=top;exact(a8 _).mpr ⟨_,v,by rw[am];exact bd _ _ h2,h2,h3⟩
refine⟨D,_,rfl,SqL.of h3,wH a6,λM hM b4=>?_⟩
obtain rfl:M=s.q.nx-1:=by obtain⟨j,v,_,e1,e2⟩:=(a8 _).mp hM;have:=(p.mr j v e1).2.1;have:=b4 _ a6;lia
have bu:=s3 _ _ h1
refine⟨_,rfl,ml,rfl,⟨_,SqL.of (ao _ _ hm)⟩,?_⟩
refine q3U (K:=K) (xs:=us) (λi ah H'=>∃y7 y8 y9 xs,ah=[some (.ref sl),some (.int (s.q.P:Int)),some (.int (b:Int)),some (.ref ml),some (.ref kd),some (.ref N),some (.int ((ms.take i).foldl (bhS s) (s.q.nx-1,s.pg)).1),y7,y8,y9,none]/\Same H H'/\H' N=some (.lst xs)/\xs.length=s.q.B*s.q.P/\PgAt H' xs ((ms.take i).foldl (bhS s) (s.q.nx-1,s.pg)).2) ⟨_,_,_,bs,rfl,ao,bu,am,pa.keep (Keep.same ao) (F:=[])⟩ (λi ah H' hi J=>?_) (λi v ah H' D' U hv J=>?_) (λah H' J=>?_)
.obtain⟨y7,y8,y9,xs,rfl,sm,I,lx,px⟩:=J;exact SqL.of (sm _ _ hm)
.obtain⟨y7,y8,y9,xs,rfl,sm,I,lx,px⟩:=J;obtain⟨m,bt,x',rfl,hx⟩:=Paired.at pm hv;obtain⟨il,rfl⟩:=kC.mp bt;obtain⟨n,q,e,em,hV,e0,eN⟩:=mk _ (gG il);have tk:(ms.take (i+1)).foldl (bhS s) (s.q.nx-1,s.pg)=bhS s ((ms.take i).foldl (bhS s) (s.q.nx-1,s.pg)) [n,q,e]:=by rw[<-kW il,cX,em];rfl
 rw[tk]at U;rw[em]at hx;generalize (ms.take i).foldl (bhS s) (s.q.nx-1,s.pg)=A at px U ⊢;obtain⟨st,g⟩:=A;obtain⟨c,f,v,a1,a2,a3,a4,a5⟩:=w.vl _ hV;have a3:q=_:=a3;obtain⟨tp,e1,e2⟩:=pa.v _ v a5;have bw:c*s.q.P+f<bs.length:=by rw[am];exact bd _ _ a5
 refine⟨x',_,rfl,SqT.of (sm _ _ hx),rfl,_,_,rfl,_,_,rfl,_,_,rfl,rfl,?_⟩;refine⟨_,rfl,iI ?_⟩;refine⟨_,rfl,iI ⟨.inr ⟨by decide,by decide⟩,_,rfl,iI ⟨_,rfl,_,rfl,sl,bs,_,.ref tp,rfl,rfl,SqL.of (sm _ _ hs),?_,iT (k:=1) (v:=.int v.2) (SqT.of (sm _ _ e2)) rfl ⟨sz2,λtn H4 n4 s4 h4=>?_⟩⟩⟩⟩
 .rw[a3];refine yH ?_;rw[<-e1,kJ,kF bw];rfl
 have ai:=s4 _ _ I;have ap:e.toNat<xs.length:=by rw[lx];exact eN
 have au:ixN xs.length e=some e.toNat:=by have:=q2L (j:=e.toNat) ap;rw[nH e0]at this;exact this
 refine⟨_,rfl,_,rfl,N,xs,e,_,rfl,rfl,ai,au,?_⟩;have up:∀{o:HO} {b:Addr} {ys:List V},H4 b=some (.tup ys)->(upd H4 N o) b=some (.tup ys):=fun {o b ys} z=>by rw[qF (λy=>by rw[y,ai]at z;cases z)];exact z
 have az:=up (o:=.lst (xs.set e.toNat (.ref tn))) h4;have ad:(upd H4 N (.lst (xs.set e.toNat (.ref tn)))) N=_:=qI;have O:Same H (upd H4 N (.lst (xs.set e.toNat (.ref tn)))):=λb o z=>by rw[qF (qG z n1)];exact s4 _ _ (sm _ _ z)
 have a7:PgAt (upd H4 N (.lst (xs.set e.toNat (.ref tn)))) xs g:=⟨px.n,λi v z=>by obtain⟨tq,z1,z2⟩:=px.v i v z;exact⟨tq,z1,up (s4 _ _ z2)⟩⟩;generalize upd H4 N (.lst (xs.set e.toNat (.ref tn)))=H5 at az ad O a7 ⊢;have ac:=a7.set (u:=((st+1)*128+n,v.2)) ap az;refine⟨_,rfl,rfl,_,rfl,?_⟩;rw[yL];by_cases z:n=64
 .rw[hG z];refine iteT ?_;refine⟨_,rfl,iI ⟨.inr ⟨by decide,by decide⟩,iI ⟨kd,_,O _ _ hk,_,rfl,kd,_,rfl,O _ _ hk,λob D6 co b1 bq b6=>?_⟩⟩⟩;refine qJD (O _ _ hk) lk kb b1 bq b6 (λH6 b5 s6 h6=>⟨ob,_,b5,D6,_,rfl,SqL.of h6,sz2,λtm H7 n7 s7 h7=>?_⟩);have aj:=s7 _ _ (s6 _ _ ad);have bp:e.toNat<(xs.set e.toNat (.ref tn)).length:=by rw[gK];exact ap
  refine⟨_,rfl,_,rfl,N,_,e,e.toNat,rfl,rfl,aj,by rw[gK];exact au,?_⟩;have a9:∀{o:HO} {b:Addr} {ys:List V},H7 b=some (.tup ys)->(upd H7 N o) b=some (.tup ys):=fun {o b ys} z=>by rw[qF (λy=>by rw[y,aj]at z;cases z)];exact z
  refine U _ _ ⟨_,_,_,_,rfl,λb o z=>?_,qI,by rw[gK,gK];exact lx,?_⟩
  .rw[qF (qG z n1)];exact s7 _ _ (s6 _ _ (O _ _ z))
  have bn:=PgAt.set (u:=((st+1)*128+64,(KD.map λy=>(2:Int) ^ y.1.toNat).sum)) ⟨ac.n,λi v z=>by obtain⟨tq,z1,z2⟩:=ac.v i v z;exact⟨tq,z1,a9 (o:=.lst ((xs.set e.toNat (.ref tn)).set e.toNat (.ref tm))) (s7 _ _ (s6 _ _ z2))⟩⟩ bp (a9 h7);have ev:s.val q n=(KD.map λy=>(2:Int) ^ y.1.toNat).sum:=by unfold XS.val;rw[kL z,sk]
  show PgAt _ _ (λj=>if j=e.toNat then some ((st+1)*128+n,s.val q n)else g j);rw[ev,z,show(λj=>if j=e.toNat then some ((st+1)*128+64,(KD.map λy=>(2:Int) ^ y.1.toNat).sum)else g j)=λj=>if j=e.toNat then some ((st+1)*128+64,(KD.map λy=>(2:Int) ^ y.1.toNat).sum)else if j=e.toNat then some ((st+1)*128+n,v.2)else g j from funext λj=>by split<;>simp_all];exact bn
 rw[hX z];refine iteF (U _ _ ⟨_,_,_,_,rfl,O,ad,by rw[gK];exact lx,?_⟩);have ev:s.val q n=v.2:=by unfold XS.val;rw[kE z,a3,mC,a5];rfl
 show PgAt H5 _ (λj=>if j=e.toNat then some ((st+1)*128+n,s.val q n)else g j);rw[ev];exact ac
obtain⟨y7,y8,y9,xs,rfl,sm,I,lx,px⟩:=J
rw[pm.len,mY]at px
have bB:b*s.q.P+s.q.P<=s.q.B*s.q.P:=by rw[<-rS];exact gH _ hb
have af:b<=256:=kQ (cK hb) (kQ b2 (by decide))
refine⟨_,rfl,_,rfl,iI ⟨cmN af,_,rfl,_,rfl,iI ⟨cmN af,_,rfl,iI ⟨_,_,rfl,?_⟩⟩⟩⟩
rw[<-gY]
refine⟨rngB (kQ bB bx),?_⟩
rw[rngN]
generalize (us.length:Nat)=lu
generalize (ms.foldl (bhS s) (s.q.nx-1,s.pg)).2=g at px kk
refine q05 (λf ah Z=>∃an xs,ah=[some (.ref sl),some (.int (s.q.P:Int)),some (.int (b:Int)),some (.ref ml),some (.ref kd),some (.ref N),some (.int ((ms.take lu).foldl (bhS s) (s.q.nx-1,s.pg)).1),y7,y8,y9,an]/\Same H Z/\Z N=some (.lst xs)/\xs.length=s.q.B*s.q.P/\PgAt Z xs (λj=>if b*s.q.P<=j/\j<b*s.q.P+f then none else g j)) ⟨_,xs,rfl,sm,I,lx,?_⟩ (λf ah Z D' U hf J=>?_) (λah Z J=>?_)
.rw[show(λj=>if b*s.q.P<=j/\j<b*s.q.P+0 then none else g j)=g from funext λj=>kE (by lia)];exact px
.obtain⟨an,xs,rfl,sm,I,lx,px⟩:=J;refine⟨_,rfl,_,rfl,N,xs,_,b*s.q.P+f,rfl,rfl,I,by rw[<-rL];exact q2L (by lia),?_⟩;refine U _ _ ⟨_,_,rfl,λb o z=>?_,qI,by rw[gK];exact lx,?_⟩
 .rw[qF (qG z n1)];exact sm _ _ z
 have ay:=px.non (e:=b*s.q.P+f);rw[show(λj=>if b*s.q.P<=j/\j<b*s.q.P+(f+1)then none else g j)=λj=>if j=b*s.q.P+f then none else if b*s.q.P<=j/\j<b*s.q.P+f then none else g j from funext λj=>by
  by_cases z:j=b*s.q.P+f
  .rw[kL (by lia),kL z]
  rw[kE z];by_cases y:b*s.q.P<=j/\j<b*s.q.P+f
  .rw[kL y,kL (by lia)]
  rw[kE y,kE (by lia)]]
 exact⟨ay.n,λi v z=>by obtain⟨tq,z1,z2⟩:=ay.v i v z;refine⟨tq,z1,?_⟩;rw[qF (λy=>by rw[y,I]at z2;cases z2)];exact z2⟩
obtain⟨an,xs,rfl,sm,I,lx,px⟩:=J
refine⟨_,rfl,kk N xs Z sm n1 I lx ?_⟩
rw[show(λj=>if j / s.q.P=b then none else g j)=λj=>if b*s.q.P<=j/\j<b*s.q.P+s.q.P then none else g j from funext λj=>by
 have:(b*s.q.P<=j/\j<b*s.q.P+s.q.P)↔j / s.q.P=b:=by rw[fB (by lia)];generalize b*s.q.P=z;lia
 by_cases z:j / s.q.P=b
 .rw[kL z,kL (this.mpr z)]
 rw[kE z,kE (λy=>z (this.mp y))]]
exact px)
def spWo:Sp:=λvs H Q E=>spGaW (V.non::vs) H Q E
theorem qAT(T:tXx)(S:tFf):S.aCV.Ok0 P w mg base 1 spWo:=by(
refine S.aCV.F.ok0 q5B (len:=λI H Q E h=>?_) λD A outer s H I Q E N h=>?_
rotate_left
.obtain⟨x,a,b,pg,J,A,B,e,_⟩:=h;injection e with _ e
 rw[e];rfl
obtain⟨x,a,b,pg,J,A,B,e,⟨U,rfl,z⟩,⟨bd,rfl,hb⟩,oa,ob,hp,q⟩:=h
injection e with _ e
subst e
have a0:=oa.l0
have O:=oa.l1
have b0:=ob.l0
have Z:=ob.l1
refine⟨_,(qB (qU (i:=4) q5B.nd (qL jP (qL jP (qL uA (pv 2) (qO qW (pv 0) qC (λz z=>rfl))) (qL uA (pv 3) (qO qW (pv 0) qC (λz z=>rfl)))) (qL jU (pv 2) (qO qW (pv 1) qC (λz z=>rfl))))) (qE (qM (yT qD5 (pv 4) (qL jP (qL jP (qL uA (pv 2) (qO qW (pv 1) qC (λz z=>rfl))) (qL uA (pv 3) (qO qW (pv 1) qC (λz z=>rfl)))) (qL jU (pv 2) (qO qW (pv 0) qC (λz z=>rfl)))) (qQ _))))),?_⟩
try dsimp-beta-proj-iota-zeta-eta only[wishK,cxK]
refine⟨_,rfl,_,rfl,iT (k:=1) (v:=_) (SqT.of z) rfl (iI ⟨_,rfl,_,rfl,iT (k:=3) (v:=_) (SqT.of z) rfl (iI (iI ⟨.inl ⟨by lia,by lia⟩,?_⟩))⟩)⟩
refine⟨_,rfl,_,rfl,iT (k:=1) (v:=_) (SqT.of hb) rfl (iI (iI ⟨.inr ⟨by lia,by lia⟩,?_⟩))⟩
refine⟨_,rfl,_,rfl,_,rfl,iT (k:=1) (v:=_) (SqT.of hb) rfl (iI ⟨_,rfl,_,rfl,iT (k:=3) (v:=_) (SqT.of hb) rfl (iI (iI ⟨.inl ⟨by lia,by lia⟩,?_⟩))⟩)⟩
exact⟨_,rfl,_,rfl,iT (k:=1) (v:=_) (SqT.of z) rfl (iI (iI ⟨.inr ⟨by lia,by lia⟩,iI q⟩))⟩)
noncomputable def fq(wv pg nw:Int):Tl->Int:=if wv=0 then Tl.lv else if wv=1 then Tl.bo else if wv=4 then rkW pg nw mnC else λz=>0
noncomputable def dueN(wv pg nw:Int)(row:List Int)(n:Nat)(ts:List Tl):Int:=if wv=3 then fo row n ts else pk (fq wv pg nw) ts
inductive spDu(vs:List V)(H:Hp)(Q:VK)(E_:XK):Prop
|mk:∀wa wl op os row ts,∀wv pg nw:Int,∀n:Nat,vs=[.ref wa,.ref op,.int pg,.int nw,.int (n:Int)]->H wa=some (.tup [.int wv,.ref wl])->H wl=some (.lst (row.map V.int))->H op=some (.lst os)->Tls H os ts->ts≠[]->ts.length<=16->(∀o∈ts,o.Ok pg nw)->1<=pg->pg<=16->(∀H',Same H H'->Q (.int (dueN wv pg nw row n ts)) H')->spDu vs H Q E_
theorem qCZ(T:tXx)(S:tFf):S.aEQ.Ok0 P w mg base 2 spDu:=by(
refine S.aEQ.F.ok0 q0C λbt A _ s H vs Q E hr h=>?_
obtain⟨wa,wl,op,os,J,ts,O,pg,U,n,rfl,hw,hl,ho,ty,ne,bq,ok,a6,an,kk⟩:=h
have s9:(99999:Nat)<sizeLine:=by decide
have lo:=ty.len
obtain⟨N,I,rfl⟩:∃a r,ts=a::r:=by
 cases ts with
 |nil=>exact absurd rfl ne
 |cons a r=>exact⟨a,r,rfl⟩
obtain⟨o0,bn,eo⟩:∃a r,os=a::r:=by
 cases os with
 |nil=>cases lo
 |cons a r=>exact⟨a,r,rfl⟩
have as:atI os 0=some o0:=by rw[eo];exact yH (j:=0) rfl
obtain⟨x0,aq,ao⟩:TlAt H o0 N:=by
 rw[eo]at ty;cases ty with
 |cons a b=>exact a
refine⟨_,(qB (jG (qP yO (qO qW (pv 0) qC (λz z=>rfl)) qC (qQ _)) (qB (jG (q9R (PW.pt (q2G (qP q0J (pv 4) (jE jJ (by rfl) T.aA3 g5 (qA (qO qW (pv 0) qC (λz z=>rfl)) qD)) (qQ _)) (q0H (qP q5H (qO jD (qO qW (pv 0) qC (λz z=>rfl)) (pv 4) (λz z=>rfl)) (yC ["_law_row"] [] rfl (jM (pv 1)) (λz z z z z=>(qT (i:=0) (show List.Nodup (["_law_row"]:List Str)from by decide))) (λz z z z z=>uR) (λz z z z z=>(qO (yY (K:=K) rfl) (pv 0) qC (λz z=>rfl))) (by kernel_rfl) (jI (by decide))) rfl))))) (qE (qM (qO jD (qO qW (pv 0) qC (λz z=>rfl)) (pv 4) (λz z=>rfl)))) qS) (qE (qM (qO qW (qO jD (pv 1) qC (λz z=>rfl)) qC (λz z=>rfl))))) qS) (qB (qU (i:=5) q0C.nd (qO jD (pv 1) qC (λz z=>rfl))) (qB (uO gT rfl (jM (pv 1)) (qT (i:=6) q0C.nd) (q3O (jG (q9R (PW.pt (q43 (PW.pt (q2G (qP yO (qO qW (pv 0) qC (λz z=>rfl)) qC (qQ _)) (q0H (qP q0J (qO qW (pv 6) qC (λz z=>rfl)) (qO qW (pv 5) qC (λz z=>rfl)) (qQ _))))) (q49 (PW.pt (q2G (qP yO (qO qW (pv 0) qC (λz z=>rfl)) qC (qQ _)) (q0H (qP q0J (qO qW (pv 6) qC (λz z=>rfl)) (qO qW (pv 5) qC (λz z=>rfl)) (qQ _))))))))) (qE (qU (i:=5) q0C.nd (pv 6))) qS) (qE (jG (PW.pt (q2G (qP yO (qO qW (pv 0) qC (λz z=>rfl)) qC (qQ _)) (q0H (yI (qZ (qAT T S).mono hr rfl T.aDT T.aEJ S.aCV.b .nil qK (qA (pv 6) (qA (pv 5) (qA (pv 2) (qA (pv 3) qD))))))))) (qE (qU (i:=5) q0C.nd (pv 6))) qS)))) (qE (qM (qO qW (pv 5) qC (λz z=>rfl))))))),?_⟩
try dsimp-beta-proj-iota-zeta-eta only[wishK,cxK]
refine⟨_,rfl,iT (k:=0) (v:=.int O) (SqT.of hw) rfl ⟨rfl,_,rfl,?_⟩⟩
rw[yL]
by_cases z3:O=3
.rw[hG z3];refine iteT ?_;have eD:dueN O pg U J n (N::I)=fo J n (N::I):=kL z3;rw[eD]at kk;refine⟨λc H1=>Same H H1/\((c=true/\∃m,J[n]?=some m/\m∈(N::I).map Tl.b)\/(c=false/\∀m,J[n]?=some m->m∉(N::I).map Tl.b)),?_,?_⟩
 .refine⟨_,rfl,_,rfl,iT (k:=1) (v:=.ref wl) (SqT.of hw) rfl ⟨wl,_,rfl,.inl (SqL.of hl),iI ⟨_,rfl,?_⟩⟩⟩;rw[hU];by_cases lt:n<J.length
  .rw[hG (show(n:Int)<(J.length:Int) by lia)];refine iteT ?_;have er:J[n]?=some J[n]:=kF lt;refine⟨_,rfl,iT (k:=1) (v:=.ref wl) (SqT.of hw) rfl ⟨_,rfl,iL (k:=_) (v:=.int J[n]) (SqL.of hl) (yH (by rw[mF,er];rfl)) ⟨_,rfl,op,rfl,⟨_,SqL.of ho⟩,λD H1 nD s1 hD=>?_⟩⟩⟩;refine yW (K:=K) (xs:=os) (D:=D) (λi H2=>Same H H2/\H2 D=some (.lst ((((N::I).take i).map Tl.b).map V.int))) ⟨s1,hD⟩ (λi H2 hp=>SqL.of (hp.1 _ _ ho)) (λi v H2 hv hp=>?_) (λH2 hp=>?_)
   .obtain⟨s2,hd⟩:=hp;obtain⟨A,hA,x',rfl,hx⟩:=Paired.at ty hv;obtain⟨il,rfl⟩:=kC.mp hA;refine⟨_,rfl,iT (k:=0) (v:=.int (N::I)[i].b) (SqT.of (s2 _ _ hx)) rfl ⟨_,hd,by rw[hU,hU,gF];lia,λb o e=>?_,?_⟩⟩
    .rw[qF (qG e nD)];exact s2 _ _ e
    rw[qI,<-kW il,mE,mE];rfl
   obtain⟨s2,hd⟩:=hp;rw[lo,mY]at hd;refine⟨D,_,rfl,.inl (SqL.of hd),rfl,qE5,_,rfl,s2,?_⟩;show(inV (.int J[n]) (((N::I).map Tl.b).map V.int)=true/\_)\/(inV (.int J[n]) (((N::I).map Tl.b).map V.int)=false/\_);rw[q3W];by_cases g:J[n]∈(N::I).map Tl.b
   .exact .inl ⟨hG g,_,er,g⟩
   exact .inr ⟨hX g,λm em=>by rw[er]at em;cases em;exact g⟩
  rw[hX (show ¬(n:Int)<(J.length:Int) by lia)];refine iteF ⟨Same.refl _,.inr ⟨rfl,λm em=>?_⟩⟩;rw[gR (by lia)]at em;cases em
 rintro c H1 ⟨s1,⟨rfl,m,em,g⟩|⟨rfl,no⟩⟩
 .refine iteT ⟨_,rfl,iT (k:=1) (v:=.ref wl) (SqT.of (s1 _ _ hw)) rfl ⟨_,rfl,iL (k:=_) (v:=.int m) (SqL.of (s1 _ _ hl)) (yH (by rw[mF,em];rfl)) ?_⟩⟩;have ef:fo J n (N::I)=m:=by unfold fo;rw[em];exact kL g
  rw[ef]at kk;exact kk H1 s1
 refine iteF ⟨_,rfl,iL (k:=_) (v:=o0) (SqL.of (s1 _ _ ho)) as ⟨x0,_,0,.int N.b,aq,rfl,SqT.of (s1 _ _ ao),rfl,?_⟩⟩;have ef:fo J n (N::I)=N.b:=by
  unfold fo;cases em:J[n]? with
  |none=>rfl
  |some m=>exact kE (no m em)
 rw[ef]at kk;exact kk H1 s1
rw[hX z3]
refine iteF ?_
have eD:dueN O pg U J n (N::I)=pk (fq O pg U) (N::I):=kE z3
rw[eD]at kk
refine⟨_,rfl,iL (k:=_) (v:=o0) (SqL.of ho) as ?_⟩
refine⟨_,rfl,op,rfl,⟨_,SqL.of ho⟩,?_⟩
refine q3U (K:=K) (xs:=os) (λi am H'=>∃y6 v A,am=[some (.ref wa),some (.ref op),some (.int pg),some (.int U),some (.int (n:Int)),some v,y6]/\TlAt H v A/\A∈N::I/\H'=H/\(i=0->A=N)/\(0<i->Bst (fq O pg U) ((N::I).take i) A)) ⟨_,_,N,rfl,⟨x0,aq,ao⟩,kX,rfl,λU=>rfl,λz=>absurd z (dR _)⟩ (λi am H' _ hp=>?_) (λi v am H' D' a9 hv hp=>?_) (λam H' hp=>?_)
.obtain⟨y6,v,A,rfl,_,_,rfl,_⟩:=hp;exact SqL.of ho
.obtain⟨y6,v',A,rfl,⟨xa,rfl,ac⟩,hA,rfl,i0,bs⟩:=hp;obtain⟨C,hC,xc,rfl,Z⟩:=Paired.at ty hv;obtain⟨il,rfl⟩:=kC.mp hC;have au:Bst (fq O pg U) ((N::I).take (i+1)) (bst (fq O pg U) A (N::I)[i]):=by
  rw[<-kW il];cases i with
  |zero=>rw[i0 rfl];show Bst _ [N] (bst _ N N);unfold bst;rw[kE (aE _)];exact Bst.one
  |succ j=>exact(bs (bL _)).step
 have ab:(N::I)[i]∈N::I:=gG il;generalize (N::I)[i]=C at Z au ab;have fin:∀{x:Addr} {B:Tl},H' x=some (.tup (B.ns.map V.int))->B∈N::I->B=bst (fq O pg U) A C->∀y6,D'.nx [some (.ref wa),some (.ref op),some (.int pg),some (.int U),some (.int (n:Int)),some (.ref x),y6] H':=fun {x B} hx hB e y6=>a9 _ _ ⟨_,_,B,rfl,⟨x,rfl,hx⟩,hB,rfl,λz=>(by cases z),λz=>by rw[e];exact au⟩
 refine⟨λam H1=>∃x B,am=[some (.ref wa),some (.ref op),some (.int pg),some (.int U),some (.int (n:Int)),some (.ref x),some (.ref xc)]/\H1=H'/\H' x=some (.tup (B.ns.map V.int))/\B∈N::I/\((O≠4/\B=bst (fq O pg U) A C)\/(O=4/\B=A)),?_,?_⟩
 .refine⟨λc H1=>H1=H'/\(c=true->O≠4/\bst (fq O pg U) A C=C)/\(c=false->O≠4->bst (fq O pg U) A C=A),?_,?_⟩
  .refine⟨_,rfl,iT (k:=0) (v:=.int O) (SqT.of hw) rfl ⟨rfl,_,rfl,?_⟩⟩;rw[yL];by_cases z0:O=0
   .rw[hG z0];have ef:fq O pg U=Tl.lv:=kL z0;rw[ef];refine iteT ⟨_,rfl,iT (k:=1) (v:=.int C.lv) (SqT.of Z) rfl ⟨_,rfl,iT (k:=1) (v:=.int A.lv) (SqT.of ac) rfl (iI ⟨_,rfl,?_⟩)⟩⟩;by_cases g:C.lv<A.lv
    .rw[hG g];exact iteT ⟨rfl,λz=>⟨by lia,kL g⟩,λc=>(by cases c)⟩
    rw[hX g];refine iteF ⟨_,rfl,iT (k:=0) (v:=.int O) (SqT.of hw) rfl ⟨rfl,_,rfl,?_⟩⟩;rw[yL,hX (show ¬O=1 by lia)];exact iteF ⟨rfl,λc=>(by cases c),λz z=>kE g⟩
   rw[hX z0];refine iteF (iteF ⟨_,rfl,iT (k:=0) (v:=.int O) (SqT.of hw) rfl ⟨rfl,_,rfl,?_⟩⟩);rw[yL];by_cases z1:O=1
   .rw[hG z1];have ef:fq O pg U=Tl.bo:=by unfold fq;rw[kE z0,kL z1]
    rw[ef];refine iteT ⟨_,rfl,iT (k:=3) (v:=.int C.bo) (SqT.of Z) rfl ⟨_,rfl,iT (k:=3) (v:=.int A.bo) (SqT.of ac) rfl (iI ⟨_,rfl,rfl,λc=>⟨by lia,kL (mI c)⟩,λc z=>kE (gZ c)⟩)⟩⟩
   rw[hX z1];refine iteF ⟨rfl,λc=>(by cases c),λ_ z4=>?_⟩;unfold fq bst;rw[kE z0,kE z1,kE z4];exact kE (aE _)
  rintro c H1 ⟨rfl,c1,c2⟩
  cases c with
  |true=>obtain⟨z4,e⟩:=c1 rfl;exact iteT ⟨_,rfl,xc,C,rfl,rfl,Z,ab,.inl ⟨z4,e.symm⟩⟩
  |false=>
   refine iteF ⟨xa,A,rfl,rfl,ac,hA,?_⟩;by_cases z4:O=4
   .exact .inr ⟨z4,rfl⟩
   exact .inl ⟨z4,(c2 rfl z4).symm⟩
 rintro bw H1 ⟨x,B,rfl,rfl,hx,hB,hh⟩
 refine⟨_,rfl,iT (k:=0) (v:=.int O) (SqT.of hw) rfl ⟨rfl,_,rfl,?_⟩⟩;rw[yL];rcases hh with⟨z4,e⟩|⟨z4,rfl⟩
 .rw[hX z4];exact iteF (iteF (fin hx hB e _))
 rw[hG z4];have ef:fq O pg U=rkW pg U mnC:=by unfold fq;rw[kE (by lia),kE (by lia),kL z4]
 refine iteT ⟨_,rfl,_,rfl,_,rfl,_,rfl,.non,.ref xc,.ref x,pg,U,C,B,rfl,⟨xc,rfl,Z⟩,⟨x,rfl,hx⟩,ok _ ab,ok _ hB,an,_,rfl,?_⟩;have wi:=q9K (qHH a6 an) (ok _ ab) (ok _ hB);by_cases g:rkW pg U mnC C<rkW pg U mnC B
 .rw[hG (wi.mpr g)];exact iteT ⟨_,rfl,fin Z ab (by unfold bst;rw[ef,kL g]) _⟩
 rw[hX (λq=>g (wi.mp q))];exact iteF (fin hx hB (by unfold bst;rw[ef,kE g]) _)
obtain⟨y6,v,A,rfl,⟨xa,rfl,ac⟩,hA,rfl,i0,bs⟩:=hp
rw[lo,mY]at bs
rw[(bs (bL _)).pk]at kk
exact⟨_,rfl,iT (k:=0) (v:=.int A.b) (SqT.of ac) rfl (kk _ (Same.refl _))⟩)
theorem zB:∀{rs:List V} {ts:List Tl},Tls H rs ts->Paired (TupD H) rs (ts.map λT=>[T.b,T.lv,T.cl,T.bo])
|_,_,.nil=>.nil
|_,_,.cons ⟨p,e,h⟩ r=>.cons ⟨p,e,h⟩ (zB r)
theorem q0G{p r:Addr}(n:Nat)(hp:H p=some (.lst rs))(hq:H r=some (.lst ds))(t1:Paired (TupD H) rs L)(t2:Paired (TupD H) ds L):Eqv K H (n+2) (.ref p) (.ref r):=by(
refine .lst (SqL.of hp) (SqL.of hq) (t1.len.trans t2.len.symm) λj x y S O=>?_
obtain⟨b,Z,x',rfl,I⟩:=Paired.at t1 S
obtain⟨b',J,y',rfl,D⟩:=Paired.at t2 O
obtain rfl:b=b':=mB (Z.symm.trans J)
refine .tup (SqT.of I) (SqT.of D) rfl λi u v N U=>?_
obtain rfl:u=v:=mB (N.symm.trans U)
rw[mF]at N
obtain⟨z,_,rfl⟩:=mK.mp N
exact .flat rfl)
theorem qHK{a:Addr}{us:List V}{L:List Tl}{D:Addr}{H H2:Hp}{g:TG}{tc:TT}{te:TE}{σ0:St}{R:Hp->Prop}(f:Tl->Bool)(cu:Tl->Int)(ha:H a=some (.lst us))(pr:Tls H us L)(lu:us.length<sizeLine)(nD:H D=none)(s2:Same H H2)(hD:H2 D=some (.lst []))
 (hs:∀x' d H' (N:V->Hp->Prop) (N':Hp->Prop),d∈L->Same H H'->H' x'=some (.tup (d.ns.map V.int))->(f d=true->N (.int (cu d)) H')->(f d=false->N' H')->g (.ref x') σ0 H' λσ5 H5=>tc σ5 H5 λb H6=>if b=true then te σ5 H6 N else N' H6)
 (hd:∀H',Same H H'->H' D=some (.lst (((L.filter f).map cu).map V.int))->R H'):
 ∃W:Nat->Nat->Hp->Prop,(∃m,W 0 m H2)/\∀i m H3,W i m H3->((Itl K a).stop i H3/\R H3)\/((Itl K a).go i H3/\∃N:Hp->Prop,(∀H',N H'->∃m',m'<m/\W (i+1) m' H')/\∀x H4,(Itl K a).yld i H3 x H4->g x σ0 H4 λσ5 H5=>tc σ5 H5 λb H6=>
   if b=true then te σ5 H6 (λv H7=>∃vs,H7 D=some (.lst vs)/\vs.length<sizeLine/\N (upd H7 D (.lst (vs++[v]))))else N H6):=by(
refine yW    (λi H'=>Same H H'/\H' D=some (.lst ((((L.take i).filter f).map cu).map V.int))) ⟨s2,hD⟩ (λi H' J=>SqL.of (J.1 _ _ ha)) (λi y H' U J=>?_) (λH' J=>?_)
.obtain⟨z,I⟩:=J;obtain⟨d,O,x',rfl,Z⟩:=Paired.at pr U;obtain⟨S,rfl⟩:=kC.mp O;refine hs x' _ H' _ _ (gG S) z (z _ _ Z) (λfd=>⟨_,I,?_,λb o e=>?_,?_⟩) (λfd=>⟨z,?_⟩)
 .rw[hU,hU];refine dJ (kY _ _) (dJ ?_ lu);rw[gF,pr.len];lia
 .rw[qF (qG e nD)];exact z _ _ e
 .rw[qI,<-kW S,m7,mU,kL fd,rK,mE,mE];rfl
 rw[<-kW S,m7,mU,kE (by rw[fd];decide),rK,gN];exact I
obtain⟨z,I⟩:=J
rw[pr.len,mY]at I
exact hd H' z I)
inductive spFi(vs:List V)(H:Hp)(Q:VK)(E_:XK):Prop
|mk:∀pa c1 c2 us rs op os sp ss tp dv p,vs=[.ref pa,.ref op,.ref sp,dv]->H pa=some (.tup [.str (p:Pa).why,.ref c1,.int (p.b:Int),.ref c2,.bl true])->H c1=some (.lst rs)->Tls H rs p.ts->H op=some (.lst os)->Tls H os p.ts->H c2=some (.lst us)->H sp=some (.lst ss)->Tls H ss tp->tp.length<=16->(p.ts≠[]->p.why=Str.ofString "rule"/\dv=.int (p.b:Int))->(p.ts=[]->p.why=Str.ofString "even"/\∃A,A.b=(p.b:Int)/\Bst Tl.cl tp A)->(∀H',Same H H'->Q (.bl true) H')->spFi vs H Q E_
theorem qC1(T:tXx)(S:tFf):S.aDK.Ok0 P w mg base 2 spFi:=by(
refine S.aDK.F.ok0 q63 λbn A _ s H vs Q E hr h=>?_
obtain⟨pa,c1,c2,us,rs,op,os,sp,ss,tp,dv,p,rfl,J,h1,t1,ho,t2,h2,ap,t3,bh,cr,ce,k⟩:=h
have s9:(99999:Nat)<sizeLine:=by decide
refine⟨_,(qB (jG (PW.pt (q43 (u9 (yI (jE uQ (by rfl) T.oE (by kernel_rfl) (qA (pv 0) (qA (q3L rfl T.aF6 (by kernel_rfl) rfl (v:=.ty "tuple")) qD))))) (q43 (qP qB1 (jE jJ (by rfl) T.aA3 g5 (qA (pv 0) qD)) qC (qQ _)) (q43 (qP (q5J hr.units) (qO qW (pv 0) qC (λz z=>rfl)) (pv 1) (qQ _)) (q49 (qP qHW (qO qW (pv 0) qC (λz z=>rfl)) v5 (qQ _))))))) (qE (qM v5)) qS) (qB (jG (PW.pt (q43 (u9 (yI (qZ (qAJ T S).mono hr rfl T.aDY T.aDW S.aCR.b .nil qK (qA (qO qW (pv 0) qC (λz z=>rfl)) qD)))) (q49 (u9 (yI (jE uQ (by rfl) T.oE (by kernel_rfl) (qA (qO qW (pv 0) qC (λz z=>rfl)) (qA (q3L rfl T.aB8 (by kernel_rfl) rfl (v:=.ty "list")) qD)))))))) (qE (qM v5)) qS) (qB (jG (qP (qGF hr.units) (pv 1) (jS qD) (qQ _)) (qE (qM (q0P (yT yO (qO qW (pv 0) qC (λz z=>rfl)) zY (qQ _)) (zZ (yT yO (qO qW (pv 0) qC (λz z=>rfl)) (pv 3) (qQ _)))))) qS) (qB (qU (i:=4) q63.nd (jE (q9B rfl) (by rfl) T.aFC (by kernel_rfl) (qA (yC ["_law_row"] [] rfl (jM (pv 2)) (λz z z z z=>(qT (i:=0) (show List.Nodup (["_law_row"]:List Str)from by decide))) (λz z z z z=>uR) (λz z z z z=>(qO (yY (K:=K) rfl) (pv 0) qC (λz z=>rfl))) (by kernel_rfl) (jI (by decide))) qD))) (qE (qM (q0P (yT yO (qO qW (pv 0) qC (λz z=>rfl)) zY (qQ _)) (zZ (yT yO (qO qW (pv 0) qC (λz z=>rfl)) (qO jD (yC ["_law_few","_law_row"] [4] rfl (jM (pv 2)) (λz z z z z=>(qT (i:=1) (show List.Nodup (["_law_few","_law_row"]:List Str)from by decide))) (λz z z z z=>(yV (qP yO (qO (yY (K:=K) rfl) (pv 1) qC (λz z=>rfl)) (pv 0) (qQ _)))) (λz z z z z=>(qO (yY (K:=K) rfl) (pv 1) qC (λz z=>rfl))) (by kernel_rfl) (jI (by decide))) qC (λz z=>rfl)) (qQ _)))))))))),?_⟩
try dsimp-beta-proj-iota-zeta-eta only[wishK,cxK]
refine⟨_,rfl,.ref pa,_,_,.type "tuple",_,rfl,rfl,.inl (.tup J),qKY,_,rfl,iteF ?_⟩
refine⟨_,rfl,pa,_,rfl,.inr (SqT.of J),rfl,_,rfl,iteF ?_⟩
refine⟨_,rfl,iT (k:=1) (v:=_) (SqT.of J) rfl ⟨_,rfl,q0G 4 h1 ho (zB t1) (zB t2),_,rfl,iteF ?_⟩⟩
refine⟨_,rfl,iT (k:=4) (v:=_) (SqT.of J) rfl ⟨true,true,rfl,rfl,_,rfl,iteF ?_⟩⟩
refine⟨_,rfl,iT (k:=2) (v:=_) (SqT.of J) rfl ⟨_,rfl,.int _,_,rfl,iteF ?_⟩⟩
refine⟨_,rfl,iT (k:=3) (v:=_) (SqT.of J) rfl ⟨.ref c2,_,_,.type "list",_,rfl,rfl,.inl (.lst h2),qKZ,_,rfl,iteF ?_⟩⟩
refine⟨_,rfl,sz0,λe H1 n1 s1 e1=>⟨op,_,e,rfl,rfl,SqL.of (s1 _ _ ho),SqL.of e1,_,rfl,?_⟩⟩
have I:=s1 _ _ J
by_cases z:p.ts=[]
.obtain⟨ew,A,eb,bs⟩:=ce z;have eo:os=[]:=by rw[z]at t2;cases t2;rfl
 rw[hX (λy=>y eo)];refine iteF ?_;rw[ew]at I;have af:Tls H1 ss tp:=Paired.mapP t3 λv d z=>by obtain⟨q,e',h'⟩:=z;exact⟨q,e',s1 _ _ h'⟩
 have O:=s1 _ _ ap;have bg:=t3.len;have ah:A∈tp:=by obtain⟨as,ag,e',_⟩:=bs.sp;rw[e'];simp
 refine⟨_,rfl,sp,rfl,⟨_,SqL.of O⟩,λD H2 nD s2 hD=>?_⟩;refine qHK (λz=>true) Tl.cl O af (by lia) nD s2 hD (λx' d H' N N' hd sm hx kt kf=>⟨_,rfl,iT (k:=2) (v:=.int d.cl) (SqT.of hx) rfl (kt rfl)⟩) (λH3 s3 h3=>?_);have aa:∀a,a∈(tp.filter λz=>true).map Tl.cl↔∃o∈tp,o.cl=a:=λa=>by rw[kP];refine exists_congr λo=>and_congr_left λ_=>?_;rw[mQ];exact⟨λq=>q.1,λq=>⟨q,rfl⟩⟩
 refine⟨D,_,rfl,SqL.of h3,wH ((aa A.cl).mpr ⟨A,ah,rfl⟩),λM hM al=>?_⟩;obtain rfl:M=A.cl:=by obtain⟨o,an,rfl⟩:=(aa M).mp hM;have:=bs.le o an;have:=al _ ((aa A.cl).mpr ⟨A,ah,rfl⟩);lia
 have U:=s3 _ _ I;have Z:=s3 _ _ O;have am:Tls H3 ss tp:=Paired.mapP af λv d z=>by obtain⟨q,e',h'⟩:=z;exact⟨q,e',s3 _ _ h'⟩
 refine⟨_,rfl,iT (k:=0) (v:=_) (SqT.of U) rfl ⟨rfl,_,rfl,iteT ⟨_,rfl,iT (k:=2) (v:=_) (SqT.of U) rfl ⟨_,rfl,sp,rfl,⟨_,SqL.of Z⟩,λD2 H4 n4 s4 h4=>?_⟩⟩⟩⟩;refine qHK (λd=>decide (d.cl=A.cl)) Tl.b Z am (by lia) n4 s4 h4 (λx' d H' N N' hd sm hx kt kf=>?_) (λH5 s5 h5=>?_)
 .refine⟨_,rfl,iT (k:=2) (v:=.int d.cl) (SqT.of hx) rfl ⟨_,rfl,rfl,_,rfl,?_⟩⟩;rw[yL];by_cases g:d.cl=A.cl
  .rw[hG g];exact iteT ⟨_,rfl,iT (k:=0) (v:=.int d.b) (SqT.of hx) rfl (kt (hG g))⟩
  rw[hX g];exact iteF (kf (hX g))
 have eh:∃r,(tp.filter λd=>decide (d.cl=A.cl))=A::r:=by obtain⟨as,ag,e',lt⟩:=bs.sp;refine⟨ag.filter λd=>decide (d.cl=A.cl),?_⟩;rw[e',m7,List.filter_eq_nil_iff.mpr (λx hx q=>by have:=lt x hx;have:=mI q;lia),dS,mU,kL (hG rfl)]
 obtain⟨r,er⟩:=eh;rw[er]at h5;refine(iL (k:=_) (v:=.int A.b) (SqL.of h5) (yH (j:=0) rfl) ⟨rfl,?_⟩);rw[eb,yL,hG rfl];exact k _ ((s1.trans s3).trans s5)
obtain⟨ew,rfl⟩:=cr z
have eo:os≠[]:=λy=>z (cI.mp (by rw[<-t2.len,y];rfl))
rw[hG eo]
refine iteT ?_
rw[ew]at I
refine⟨_,rfl,iT (k:=0) (v:=_) (SqT.of I) rfl ⟨rfl,_,rfl,iteT ⟨_,rfl,iT (k:=2) (v:=_) (SqT.of I) rfl ⟨_,rfl,rfl,?_⟩⟩⟩⟩
rw[yL,hG rfl]
exact k _ s1)
inductive spRu(t:Adr)(vs:List V)(H:Hp)(Q:VK)(E_:XK):Prop
|mk:∀x k sh sr r rl pp X,vs=[.ref x.s]->XX t H x k sh sr r rl pp X->X.ps.length<90000->(∀H',Same H H'->Q (.int (ruN X.ps:Int)) H')->spRu t vs H Q E_
theorem qAU(T:tXx)(S:tFf):S.aCJ.Ok0 P w mg base 1 (spRu t):=by(
refine S.aCJ.F.ok0 qAF λag A _ s H vs Q E hr h=>?_
obtain⟨x,k,sh,sr,r,rl,pp,X,rfl,h,lp,kk⟩:=h
have s9:(99999:Nat)<sizeLine:=by decide
obtain⟨ps,J,N⟩:=h.hp
have Z:=N.len
have o:=h.j.o
rw[h.ep]at o
refine⟨_,(qE (qM (jE jJ (by rfl) T.aA3 g5 (qA (yC ["_law_paper"] [] rfl (jM (qJ (pv 0) rfl)) (λz z z z z=>(qT (i:=0) (show List.Nodup (["_law_paper"]:List Str)from by decide))) (λz z z z z=>(yV (qP yO (qO (yY (K:=K) rfl) (pv 0) qC (λz z=>rfl)) zY (qQ _)))) (λz z z z z=>(pv 0)) (by kernel_rfl) (jI (by decide))) qD)))),?_⟩
try dsimp-beta-proj-iota-zeta-eta only[wishK,cxK]
refine(iV rfl (iF o T.fY T.i7 rfl ⟨pp,rfl,⟨_,SqL.of J⟩,λD H1 nD s1 hD=>?_⟩))
refine yW (K:=K) (xs:=ps) (D:=D) (λi H2=>Same H H2/\∃zs,H2 D=some (.lst zs)/\zs.length=ruN (X.ps.take i)) ⟨s1,[],hD,rfl⟩ (λi H2 z=>SqL.of (z.1 _ _ J)) (λi v H2 hv z=>?_) (λH2 z=>?_)
.obtain⟨O,zs,U,I⟩:=z;obtain⟨p,z,qa,l1,l2,us,rs,rfl,q1,_⟩:=Paired.at N hv;obtain⟨il,rfl⟩:=kC.mp z;have lr:ruN (X.ps.take i)<=X.ps.length:=by unfold ruN;refine kQ (kY _ _) ?_;rw[gF];lia
 refine⟨_,rfl,iT (k:=0) (v:=_) (SqT.of (O _ _ q1)) rfl ⟨rfl,_,rfl,?_⟩⟩;have er:ruN (X.ps.take (i+1))=ruN (X.ps.take i)+if X.ps[i].why=Str.ofString "rule" then 1 else 0:=by
  unfold ruN;rw[<-kW il,m7,kU,mU];by_cases g:X.ps[i].why=Str.ofString "rule"
  .rw[kL (hG g),kL g];rfl
  rw[kE (λy=>g (mI y)),kE g];rfl
 by_cases g:X.ps[i].why=Str.ofString "rule"
 .rw[show decide (V.str X.ps[i].why=V.str (Str.ofString "rule"))=true from hG (by rw[g])];refine iteT ⟨_,rfl,zs,U,by lia,λb o e=>?_,_,qI,?_⟩
  .rw[qF (qG e nD)];exact O _ _ e
  rw[kU,er,kL g,I];rfl
 rw[show decide (V.str X.ps[i].why=V.str (Str.ofString "rule"))=false from hX (λy=>g (V.str.inj y))];refine iteF ⟨O,zs,U,?_⟩;rw[er,kE g,I];rfl
obtain⟨O,zs,U,I⟩:=z
rw[Z,mY]at I
refine⟨D,_,rfl,.inl (SqL.of U),?_⟩
rw[I]
exact kk H2 O)
inductive spWa(vs:List V)(H:Hp)(Q:VK)(E_:XK):Prop
|mk:∀c:Int,vs=[.int c]->(∀wa wl row H',Same H H'->H wa=none->H wl=none->H' wa=some (.tup [.int (c%5),.ref wl])->H' wl=some (.lst (List.map V.int row))->row.length=16->Q (.ref wa) H')->spWa vs H Q E_
theorem qD0(T:tXx)(S:tFf):S.aEV.Ok0 P w mg base 1 spWa:=by(
refine S.aEV.F.ok0 qCW λac A _ s H vs Q E hr h=>?_
obtain⟨c,rfl,k⟩:=h
have s9:(99999:Nat)<sizeLine:=by decide
refine⟨_,(qE (qM (yB (qA (qL yZ (pv 0) qC) (qA (yC ["_law_cell","_law_k"] [0] rfl (vD rfl T.oQ (qA qC qD)) (λz z z z z=>(qT (i:=1) (show List.Nodup (["_law_cell","_law_k"]:List Str)from by decide))) (λz z z z z=>uR) (λz z z z z=>(qL yZ (qL jU (qL uL (qL uL (pv 0) qC) (qL jU (pv 1) qC)) (qL jP qC (pv 1))) qC)) (by kernel_rfl) (jI (by decide))) qD))))),?_⟩
try dsimp-beta-proj-iota-zeta-eta only[wishK,cxK]
refine⟨_,rfl,iI ⟨(by show(0:Int)<5;decide),_,rfl,by decide,by decide,λD H2 Z s2 hD=>?_⟩⟩
rw[show((16:Int)).toNat=16 from rfl]
refine zW (D:=D) (λi z=>∃ms:List Int,Same H z/\z D=some (.lst (ms.map V.int))/\ms.length=i) ⟨[],s2,hD,rfl⟩ (λi z hi N=>?_) (λz N=>?_)
.obtain⟨ms,I,O,J⟩:=N;refine⟨_,rfl,iI ⟨⟨by decide,by decide⟩,_,rfl,iI (iI ⟨⟨by lia,by lia⟩,_,rfl,iI ⟨.inl ⟨by decide,by decide⟩,iI (iI ⟨(by show(0:Int)<7;decide),_,O,?_,ms++[(c / 5 / (0+(i:Int)+1)+3*(0+(i:Int)))%7],λb o e=>?_,?_,?_⟩)⟩⟩)⟩⟩
 .rw[hU];lia
 .rw[qF (qG e Z)];exact I _ _ e
 .rw[qI,mE];rfl
 rw[kU,J];rfl
obtain⟨ms,I,O,J⟩:=N
exact⟨sz2,λwa H4 n4 U h4=>k wa D ms H4 (I.trans U) (I.free n4) Z h4 (U _ _ O) J⟩)
noncomputable def ruW(wv:Int)(row:List Int):Rl:=if wv=3 then .fol row 0 else .rk (λpg nw=>fq wv pg nw)
inductive spLr(t:Adr)(vs:List V)(H:Hp)(Q:VK)(E_:XK):Prop
|mk:∀wa wl row,∀wv:Int,vs=[.ref wa]->H wa=some (.tup [.int wv,.ref wl])->H wl=some (.lst (row.map V.int))->0<=wv->wv<5->row.length=16->(∀r rl H',RuX t H' r rl (ruW wv row)->Same H H'->(∀y∈r::rl,H y=none)->(wv≠3->rl=[])->Q (.ref r) H')->spLr t vs H Q E_
theorem qC2(T:tXx)(S:tFf):S.aDN.Ok0 P w mg base 3 (spLr t):=by(
refine S.aDN.F.ok0 qBS λal A _ s H vs Q E hr h=>?_
obtain⟨wa,wl,Z,I,rfl,hw,hl,w0,w5,lr,k⟩:=h
have one:∀{r:Addr},H r=none->∀y∈[r],H y=none:=λe y U=>by rw[kD.mp U];exact e
refine⟨_,(qB (jG (qP yO (qO qW (pv 0) qC (λz z=>rfl)) qC (qQ _)) (qE (qM (q9T T.aE8 rfl T.aFK))) qS) (qB (jG (qP yO (qO qW (pv 0) qC (λz z=>rfl)) qC (qQ _)) (qE (qM (q9T T.aFA rfl T.aFM))) qS) (qB (jG (qP yO (qO qW (pv 0) qC (λz z=>rfl)) qC (qQ _)) (qE (qM (q4U T.aFJ (q85 T S).mono hr rfl T.aFI S.aBE.b .nil qK (qA (vE uI (by rfl) T.aB8 (by kernel_rfl) (qA (qO qW (pv 0) qC (λz z=>rfl)) qD)) qD)))) qS) (qB (jG (qP yO (qO qW (pv 0) qC (λz z=>rfl)) qC (qQ _)) (qE (qM (q9T T.aFL rfl T.aFW))) qS) (qE (qM (q9T T.aFZ rfl T.aF4))))))),?_⟩
try dsimp-beta-proj-iota-zeta-eta only[wishK,cxK]
have rk:∀{H':Hp} {r:Addr} {f:Int->Int->Tl->Int},I≠3->f=(λpg nw=>fq I pg nw)->RuX t H' r [] (.rk f)->RuX t H' r [] (ruW I Z):=λn3 e h=>by unfold ruW;rw[kE n3,<-e];exact h
refine⟨_,rfl,iT (k:=0) (v:=.int I) (SqT.of hw) rfl ⟨rfl,_,rfl,?_⟩⟩
rw[yL]
by_cases N:I=0
.rw[hG N];exact iteT λr dx D z ne=>k r [] _ (rk (by lia) (funext λpg=>funext λnw=>(kL N).symm) (.inr (.inl ⟨dx,qI,rfl⟩))) (q1Z D z) (one D) (λz=>rfl)
rw[hX N]
refine iteF ⟨_,rfl,iT (k:=0) (v:=.int I) (SqT.of hw) rfl ⟨rfl,_,rfl,?_⟩⟩
rw[yL]
by_cases O:I=1
.rw[hG O];exact iteT λr dx D z ne=>k r [] _ (rk (by lia) (funext λpg=>funext λnw=>by unfold fq;rw[kE N,kL O]) (.inr (.inr (.inl ⟨dx,qI,rfl⟩)))) (q1Z D z) (one D) (λz=>rfl)
rw[hX O]
refine iteF ⟨_,rfl,iT (k:=0) (v:=.int I) (SqT.of hw) rfl ⟨rfl,_,rfl,?_⟩⟩
rw[yL]
by_cases J:I=3
.rw[hG J];refine iteT ⟨_,rfl,iT (k:=1) (v:=.ref wl) (SqT.of hw) rfl ⟨wl,_,rfl,.inl (SqL.of hl),λl H1 n1 s1 h1=>?_⟩⟩;refine λr dx D z nn=>?_;have sM:Same H1 (upd (upd H1 dx (.own r)) r (.ins t.C_Follow dx [])):=q1Z D z;refine⟨r,dx,l,Z,rfl,qI,sM _ _ h1,λrl H2 fo af up=>⟨rfl,?_⟩⟩;refine k r [rl] H2 ?_ (λb o e=>up b o (qG (s1 _ _ e) D) (sM _ _ (s1 _ _ e))) (λy U=>?_) ?_
 .unfold ruW;rw[kL J];exact⟨dx,rl,rfl,fo,m9 _,by lia⟩
 .rcases kN.mp U with e|U
  .rw[e];exact s1.free D
  rw[kD.mp U];exact s1.free (Same.free sM af)
 exact λy=>absurd J y
rw[hX J]
refine iteF ⟨_,rfl,iT (k:=0) (v:=.int I) (SqT.of hw) rfl ⟨rfl,_,rfl,?_⟩⟩
rw[yL]
by_cases z4:I=4
.rw[hG z4];exact iteT λr dx D z ne=>k r [] _ (rk J (funext λpg=>funext λnw=>by unfold fq;rw[kE N,kE O,kL z4]) (.inr (.inr (.inr ⟨dx,qI,rfl⟩)))) (q1Z D z) (one D) (λz=>rfl)
rw[hX z4]
exact iteF λr dx D z ne=>k r [] _ (rk J (funext λpg=>funext λnw=>by unfold fq;rw[kE N,kE O,kE z4]) (.inl ⟨dx,qI,rfl⟩)) (q1Z D z) (one D) (λz=>rfl))
theorem q88{α β:Type}{F:α->β->Prop}:∀{l₁ m₁:List α} {l₂ m₂:List β},Paired F l₁ l₂->Paired F m₁ m₂->Paired F (l₁++m₁) (l₂++m₂)
|_,_,_,_,.nil,g=>g
|_,_,_,_,.cons a b,g=>.cons a (q88 b g)
theorem zV(pr:Recd H zs ds)(k:∀{y:Addr} {xs:List V},H y=some (.tup xs)->H' y=some (.tup xs)):Recd H' zs ds:=Paired.mapP pr λv d z=>by obtain⟨p,e,h⟩:=z;exact⟨p,e,k h⟩
theorem qC3{M:Nat}{c:Addr}{a:CA}{m:CM}{s:XS}{D:Addr}{H H2:Hp}{R:Hp->Prop}(eN:M=s.q.B*s.q.P)(hc:ChipAt t.C_Chip H c a m)(mok:m.Ok)(elf:m.lf=none)(ebl:m.bl=(s.q.B:Int))(epg:m.pg=(s.q.P:Int))(pat:PgAt H m.bo s.pg)(bd:∀i v,s.pg i=some v->i<s.q.B*s.q.P)(bp:s.q.B*s.q.P<=256)(nD:H D=none)(s2:Same H H2)(hD:H2 D=some (.lst []))
 (hd:∀bs H3,Same H H3->H3 D=some (.lst bs)->bs.length=s.q.B*s.q.P->PgAt H3 bs s.pg->R H3):
 ∃W:Nat->Nat->Hp->Prop,(∃m,W 0 m H2)/\∀i m H3,W i m H3->((Itr 0 M).stop i H3/\R H3)\/((Itr 0 M).go i H3/\∃N:Hp->Prop,(∀H',N H'->∃m',m'<m/\W (i+1) m' H')/\∀y H4,(Itr 0 M).yld i H3 y H4->q2E 1 y [some (.ref c),none] H4 λσ5 H5=>q75 σ5 H5 λb H6=>
   if b=true then qCF t.C_Chip (Str.ofString "read") (spRead t) [] (λz z z z=>False) (tVar 0) (q8X (tVar 1) tNil) σ5 H6 (λv H7=>∃vs,H7 D=some (.lst vs)/\vs.length<sizeLine/\N (upd H7 D (.lst (vs++[v]))))else N H6):=by(
subst eN
have s9:(99999:Nat)<sizeLine:=by decide
have Z:(s.q.B:Int)*(s.q.P:Int)=((s.q.B*s.q.P:Nat):Int):=by rw[gY]
refine zW (D:=D) (λi H3=>Same H H3/\H3 D=some (.lst (((List.range (s.q.B*s.q.P)).take i).map λi=>m.bo.getD i .non))) ⟨s2,hD⟩ (λi H3 O hp=>?_) (λH3 hp=>?_)
.obtain⟨U,hd⟩:=hp;have S:i<((List.range (s.q.B*s.q.P))).length:=by rw[mM];exact O
 refine⟨_,rfl,c,a.dx,_,rfl,(hc.same U).ins,rfl,_,rfl,c,a,m,_,rfl,hc.same U,mok,elf,by lia,by rw[ebl,epg,Z];lia,?_⟩;rw[show(0+(i:Int)).toNat=i by lia];refine⟨_,hd,?_,λb o e=>?_,?_⟩
 .rw[hU,gF,mM];lia
 .rw[qF (qG e nD)];exact U _ _ e
 rw[qI,<-kW S,mE];simp
obtain⟨s3,I⟩:=hp
rw[xA (by rw[mM];exact kO _)]at I
have J:∀i,i<s.q.B*s.q.P->((List.range (s.q.B*s.q.P)).map λi=>m.bo.getD i .non).getD i .non=m.bo.getD i .non:=λi O=>by rw[kJ,mF,List.getElem?_range O];rfl
refine hd _ H3 s3 I (by rw[hU,mM]) ⟨λi e=>?_,λi v e=>?_⟩
.by_cases z:i<s.q.B*s.q.P
 .rw[J i z];exact pat.n i e
 rw[kJ,gR (by rw[hU,mM];lia)];rfl
obtain⟨tp,e1,e2⟩:=pat.v i v e
exact⟨tp,by rw[J i (bd i v e)];exact e1,s3 _ _ e2⟩)
theorem qE8{a b:Addr}{y:Str}(ha:H a=some (.tup [.str y,.ref l1,.int z,.ref l2,.bl true]))(hb:H b=some (.tup [.str y,.ref m1,.int z,.ref m2,.bl true]))(e1:Eqv K H 5 (.ref l1) (.ref m1))(e2:Eqv K H 5 (.ref l2) (.ref m2)):Eqv K H 6 (.ref a) (.ref b):=by(
refine .tup (SqT.of ha) (SqT.of hb) rfl λj u v D I=>?_
match j with
|0=>cases D;cases I;exact .flat rfl
|1=>cases D;cases I;exact e1
|2=>cases D;cases I;exact .flat rfl
|3=>cases D;cases I;exact e2
|4=>cases D;cases I;exact .flat rfl
|j+5=>cases D)
theorem qEY{a b:Addr}(ha:H a=some (.lst xs))(hb:H b=some (.lst ys))(el:xs.length=ys.length)(pa:PgAt H xs g)(pb:PgAt H ys g):Eqv K H 6 (.ref a) (.ref b):=by(
refine .lst (SqL.of ha) (SqL.of hb) el λj u v z D=>?_
have z:xs.getD j .non=u:=by rw[kJ,z];rfl
have D:ys.getD j .non=v:=by rw[kJ,D];rfl
cases e:g j with
|none=>rw[<-z,<-D,pa.n j e,pb.n j e];exact .flat rfl
|some w=>
 obtain⟨p,I,J⟩:=pa.v j w e;obtain⟨q,N,O⟩:=pb.v j w e;rw[<-z,<-D,I,N];refine .tup (SqT.of J) (SqT.of O) rfl λi u v z D=>?_;obtain rfl:u=v:=mB (z.symm.trans D);match i with
 |0=>cases z;exact .flat rfl
 |1=>cases z;exact .flat rfl
 |i+2=>cases z)
set_option tactic.hygienic true in
theorem XX.log{x:Sto}{k:Tm}{r:Addr}(h:XX t H x k sh sr r rl pp X)(e:H q=some (.lst zs))(pr:Recd H zs ds)(ne:ds≠[])(np:q∉fx t x r pp)(nrl:q∉rl):XX t (upd H q (.lst zs')) x k sh sr r rl pp X:=by(
have kk:=Keep.upd (F:=[q]) (o:=.lst zs') e (λU z=>by cases z) (by simp)
obtain⟨ps,h1,h2⟩:=h.hp
obtain⟨z,I,rfl,y,d2,Z,hz⟩:∃z I,zs=.ref z::I/\∃y d2 Z,H z=some (.tup [.str y,d2,Z]):=by
 cases pr with
 |nil=>exact absurd rfl ne
 |cons a b=>obtain⟨p,rfl,hp⟩:=a;exact⟨p,_,rfl,_,_,_,hp⟩
have no:∀{l:Addr} {D:List V} {L:List (List Int)},H l=some (.lst D)->Paired (TupD H) D L->(upd H q (.lst zs')) l=some (.lst D):=fun {l D L} el pl=>by
 rw[qF (λy=>?_)]
 .exact el
 rw[y,e]at el;cases el;cases pl with
 |cons a b=>
  obtain⟨p,S,N⟩:=a;cases S;rw[hz]at N;rename_i m _;cases m with
  |nil=>cases N
  |cons i m=>grind
have O:r∉[q]:=λy=>np (by rw[<-kD.mp y];simp)
refine⟨h.j.lst e (λy=>np (kB _ (kB _ (kB _ y)))),h.er,h.ru.keep kk (λy J z=>by
 rw[kD.mp z]at J;rcases kN.mp J with U|J
 .exact O (by rw[U];simp)
 exact nrl J),h.of,h.ep,⟨ps,kk.k _ _ (λy=>np (by rw[<-kD.mp y];simp)) h1,Paired.mapP h2 λv pa ⟨a,l1,l2,D,rs,S,N,e3,e4,e5,e6,e7,e8⟩=>⟨a,l1,l2,D,rs,S,kk.tp _ _ N,no e3 (zB e4),jL kk e4,no e5 e6,Paired.mapP e6 λv d ⟨p',U,h'⟩=>⟨p',U,kk.tp _ _ h'⟩,e7,e8⟩⟩,h.np,h.nr⟩)
theorem XX.offF{x:Sto}{k:Tm}{r:Addr}(h:XX t H x k sh sr r rl pp X){y:Addr}(e:H y=none):y∉fx t x r pp:=λz=>by obtain⟨o,e'⟩:=h.inF y z;lia
theorem qHL{a:Addr}{us:List V}{L:List Tl}{D:Addr}{H H2:Hp}{g:TG}{tc:TT}{te:TE}{σ0:St}{R:Hp->Prop}(f:Tl->Bool)(ha:H a=some (.lst us))(pr:Tls H us L)(lu:us.length<sizeLine)(nD:H D=none)(s2:Same H H2)(hD:H2 D=some (.lst []))
 (hs:∀x' d H' (N:V->Hp->Prop) (N':Hp->Prop),d∈L->Same H H'->H' x'=some (.tup (d.ns.map V.int))->(f d=true->N (.ref x') H')->(f d=false->N' H')->g (.ref x') σ0 H' λσ5 H5=>tc σ5 H5 λb H6=>if b=true then te σ5 H6 N else N' H6)
 (hd:∀zs H',Same H H'->H' D=some (.lst zs)->Tls H' zs (L.filter f)->R H'):
 ∃W:Nat->Nat->Hp->Prop,(∃m,W 0 m H2)/\∀i m H3,W i m H3->((Itl K a).stop i H3/\R H3)\/((Itl K a).go i H3/\∃N:Hp->Prop,(∀H',N H'->∃m',m'<m/\W (i+1) m' H')/\∀x H4,(Itl K a).yld i H3 x H4->g x σ0 H4 λσ5 H5=>tc σ5 H5 λb H6=>
   if b=true then te σ5 H6 (λv H7=>∃vs,H7 D=some (.lst vs)/\vs.length<sizeLine/\N (upd H7 D (.lst (vs++[v]))))else N H6):=by(
refine yW (K:=K) (xs:=us) (D:=D) (λi H'=>∃zs,Same H H'/\H' D=some (.lst zs)/\Tls H zs ((L.take i).filter f)) ⟨[],s2,hD,.nil⟩ (λi H' J=>by obtain⟨_,z,_⟩:=J;exact SqL.of (z _ _ ha)) (λi y H' hy J=>?_) (λH' J=>?_)
.obtain⟨zs,z,O,I⟩:=J;obtain⟨d,S,x',rfl,Z⟩:=Paired.at pr hy;obtain⟨U,rfl⟩:=kC.mp S;refine hs x' L[i] H' _ _ (gG U) z (z _ _ Z) (λfd=>⟨zs,O,?_,zs++[.ref x'],λb o e=>?_,qI,?_⟩) (λfd=>⟨zs,z,O,?_⟩)
 .rw[I.len];refine dJ (kY _ _) (dJ ?_ lu);rw[gF,pr.len];lia
 .rw[qF (qG e nD)];exact z _ _ e
 .rw[<-kW U,m7,mU,kL fd,rK];exact L2.Paired.snoc I ⟨x',rfl,Z⟩
 rw[<-kW U,m7,mU,kE (by rw[fd];decide),rK,gN];exact I
obtain⟨zs,z,O,I⟩:=J
rw[pr.len,mY]at I
exact hd zs H' z O (jL (Keep.same z) (F:=[]) I))
abbrev MdH(H:Hp)(Q:VK)(x:Sto)(k:Tm)(sh:Int)(sr:Nat)(r:Addr)(rl:List Addr)(pp:Addr)(X:Sx)(kd:Addr)(KD:Mp)(wa:Addr)(wl:Addr)(row:List Int)(n:Nat)(wv:Int):Prop:=KX t H x k sh sr r rl pp X kd KD n/\k.ev=true/\Pj X.s/\FoR X/\Gs (ruW wv row) X.g/\(∀y∈rl,∃o,H y=some o)/\H wa=some (.tup [.int wv,.ref wl])/\H wl=some (.lst (row.map V.int))/\wl∉fx t x r pp/\n<1000/\∀X' H',KX t H' x k sh sr r rl pp X' kd KD (n+1)->Keep (fx t x r pp) H H'->Pj X'.s->FoR X'->Gs (ruW wv row) X'.g->X'.s.q.B=X.s.q.B->X'.s.q.P=X.s.q.P->Q (.bl true) H'
inductive spMd(t:Adr)(vs:List V)(H:Hp)(Q:VK)(E_:XK):Prop
|mk:∀x k sh sr r rl pp X kd KD wa wl row,∀n:Nat,∀wv:Int,vs=[.ref x.s,.ref x.c,.int (X.s.q.P:Int),.int k.sp,.ref kd,.ref wa]->MdH H Q x k sh sr r rl pp X kd KD wa wl row n wv->spMd t vs H Q E_
noncomputable abbrev MdN:List Str:=["_law_store","_law_chip","_law_pages","_law_spread","_law_kept","_law_way_here","_law_stuff","_law_bound","_law_spared","_law_options","_law_deeds","_law_due_here","_law_now","_law_spots_here","_law_refused","_law_paper","_law_block","_law_moves_here","_law_behind_here"]
def MdG(H:Hp)(Q:VK)(x:Sto)(k:Tm)(X:Sx)(kd:Addr)(wa:Addr):Prop:=∀(base:Heap),BmIn base mg->∀(cdv:Value) (A:Around) (outer:List Env) (s0:Shared) (E:XK),Room 14 (A.deeper (PyProof.Rows.envOfC "_law_made" (qH (top 59)) s0.heap.objs.size t.f_law_made cdv))->∃tt,PSs (cxOf CX0 P w K mg base MdN "_law_made" (qH (top 59)) t.f_law_made cdv A outer s0 H E).nox (jY (top 59)) tt/\tt { nx:=λz H'=>Q .non H',rt:=Q } (L2.q01 MdN [.ref x.s,.ref x.c,.int (X.s.q.P:Int),.int k.sp,.ref kd,.ref wa]) H
structure MdT where
H:Hp
Q:VK
x:Sto
k:Tm
sh:Int
sr:Nat
r:Addr
rl:List Addr
pp:Addr
X:Sx
kd:Addr
KD:Mp
wa:Addr
wl:Addr
row:List Int
n:Nat
wv:Int
instance:Nonempty MdT:=⟨⟨λ_=>none,λ_ _=>True,by constructor<;>first|exact(0:Nat)|exact V.non|(constructor<;>exact(0:Nat)),⟨0,0,false⟩,0,0,0,[],0,⟨newX 0 0,.win 0,[]⟩,0,[],0,0,[],0,0⟩⟩
def MdB(e:MdT):Prop:=MdH e.H e.Q e.x e.k e.sh e.sr e.r e.rl e.pp e.X e.kd e.KD e.wa e.wl e.row e.n e.wv/\¬MdG e.H e.Q e.x e.k e.X e.kd e.wa
@[irreducible] noncomputable def MdE:MdT:=Classical.epsilon MdB
namespace MdV
noncomputable section
def H:=MdE.H
def Q:=MdE.Q
def x:=MdE.x
def k:=MdE.k
def sh:=MdE.sh
def sr:=MdE.sr
def r:=MdE.r
def rl:=MdE.rl
def pp:=MdE.pp
def X:=MdE.X
def kd:=MdE.kd
def KD:=MdE.KD
def wa:=MdE.wa
def wl:=MdE.wl
def row:=MdE.row
def n:=MdE.n
def wv:=MdE.wv
end
end MdV
open MdV in
theorem Md_c(T:tXx)(S:tFf)(h:MdH H Q x k sh sr r rl pp X kd KD wa wl row n wv):MdG H Q x k X kd wa:=by(
intro base B qy A outer s0 E J
obtain⟨h,ev,pj,fr,gs,rlE,mo,ku,jq,n9,kk⟩:=h
have s9:(999999:Nat)<sizeLine:=by decide
have pk:=pj.pk
have hu:=q45 J
have w:=h.d.x.w
have p1:=w.qs.ok.p1
have p2:=w.qs.ok.p2
have b2:=w.qs.ok.b2
have pgs:=pk.pw.1
have bd:=pk.pw.2.bd
have qm:=h.rcn
have qg:=h.psn
have bp:X.s.q.B*X.s.q.P<=16*16:=sB b2 p2
have aq:(X.s.q.B:Int)*(X.s.q.P:Int)=((X.s.q.B*X.s.q.P:Nat):Int):=by rw[gY]
obtain⟨m,hc,la,lb,o1,qt,ax,l3,lg,_⟩:=h.h.chip
refine⟨_,(qB (vH (i:=6) ["_law_chip","_law_page"] [1] rfl (vD rfl T.oQ (qA (qL jP (qJ (pv 1) rfl) (pv 2)) qD)) (λz z z z z=>(qT (i:=1) (show List.Nodup (["_law_chip","_law_page"]:List Str)from by decide))) (λz z z z z=>uR) (λz z z z z=>(qY (pv 0) T.fZ T.aBM (q2B T S).mono J S.aAN.b .nil qK (qA (pv 1) qD))) (by kernel_rfl) (jI (by decide)) jK.nd rfl (Or.inl rfl)) (qB (qU (i:=7) jK.nd (qL jU (jE (q9B rfl) (by rfl) T.aFC (by kernel_rfl) (qA (yC ["_law_chip","_law_block"] [1] rfl (vD rfl T.oQ (qA (qJ (pv 1) rfl) qD)) (λz z z z z=>(qT (i:=1) (show List.Nodup (["_law_chip","_law_block"]:List Str)from by decide))) (λz z z z z=>uR) (λz z z z z=>(qY (pv 0) T.fZ T.i8 (uH T S).mono J S.iY.b .nil qK (qA (pv 1) qD))) (by kernel_rfl) (jI (by decide))) qD)) (pv 3))) (qB (vH (i:=8) ["_law_bound","_law_row"] [7] rfl (jM (jB (pv 0) T.fY T.o9 (vC T S B).mono J S.iX.b .nil qK)) (λz z z z z=>(qT (i:=1) (show List.Nodup (["_law_bound","_law_row"]:List Str)from by decide))) (λz z z z z=>(yV (qP q0J (qO (yY (K:=K) rfl) (pv 1) qC (λz z=>rfl)) (pv 0) (qQ _)))) (λz z z z z=>(pv 1)) (by kernel_rfl) (jI (by decide)) jK.nd rfl (Or.inl rfl)) (qB (qU (i:=9) jK.nd (jB (pv 0) T.fY T.tX (zN T S B).mono J S.o6.b .nil qK)) (qB (jG (qP (q5J J.units) (pv 9) (yC ["_law_pages","_law_row"] [2] rfl (jM (pv 8)) (λz z z z z=>(qT (i:=1) (show List.Nodup (["_law_pages","_law_row"]:List Str)from by decide))) (λz z z z z=>(yV (qP q0J (qO (yY (K:=K) rfl) (pv 1) qC (λz z=>rfl)) (pv 0) (qQ _)))) (λz z z z z=>(pv 1)) (by kernel_rfl) (jI (by decide))) (qQ _)) (qE (qM v5)) qS) (qB (qU (i:=10) jK.nd (jB (pv 1) T.fZ T.aAT (q15 T S).mono J S.t6.b .nil qK)) (qB (qU (i:=11) jK.nd u8) (q3O (jG (qP (qGF J.units) (pv 9) (jS qD) (qQ _)) (qB (qU (i:=12) jK.nd (qL jU qC (jE jJ (by rfl) T.aA3 g5 (qA (yC ["_law_deed"] [] rfl (jM (pv 10)) (λz z z z z=>(qT (i:=0) (show List.Nodup (["_law_deed"]:List Str)from by decide))) (λz z z z z=>(yV (qP yO (qO (yY (K:=K) rfl) (pv 0) qC (λz z=>rfl)) zY (qQ _)))) (λz z z z z=>(pv 0)) (by kernel_rfl) (jI (by decide))) qD)))) (qE (qU (i:=11) jK.nd (qZ (qCZ T S).mono J rfl T.aE9 T.aFE S.aEQ.b .nil qK (qA (pv 5) (qA (pv 9) (qA (pv 2) (qA (pv 12) (qA (qZ (qAU T S).mono J rfl T.aD8 T.aEH S.aCJ.b .nil qK (qA (pv 0) qD)) qD))))))))) qS) (qB (qU (i:=13) jK.nd (qZ (qAS T S).mono J rfl T.aD0 T.aED S.aCP.b .nil qK (qA (pv 1) (qA (pv 6) (qA (pv 2) qD))))) (qB (qU (i:=14) jK.nd v5) (qB (qU (i:=15) jK.nd u8) (q3O (qL3 (λpins XE ES kl rn=>(qE (qU (i:=15) jK.nd (vU kl (pv 0) T.fY T.aAJ (q0F T S B).mono J S.oJ.b .nil)))) (qHZ (λea=>(q1S rfl T.aEI rfl (v:=.ref t.C_NoRoom))) rfl (λea=>(qE (qU (i:=14) jK.nd v5))) (qL2 q0L))) (qB (jG (PW.pt (q43 (yI (pv 14)) (q49 (qP (q5K J.units) (pv 8) (jS qD) (qQ _))))) (qE (qM (q0P (pv 14) (q0P (yT (q5K J.units) (pv 8) (jS qD) (qQ _)) (zZ (yT (qG0 J.units) (jB (pv 1) T.fZ T.aAT (q15 T S).mono J S.t6.b .nil qK) (pv 10) (qQ _))))))) qS) (qB (jG (u9 (yI (qZ (qC1 T S).mono J rfl T.aE1 T.aE0 S.aDK.b .nil qK (qA (pv 15) (qA (pv 9) (qA (pv 8) (qA (pv 11) qD))))))) (qE (qM v5)) qS) (qB (qU (i:=16) jK.nd (qO qW (pv 15) qC (λz z=>rfl))) (qB (vH (i:=17) ["_law_row","_law_end"] [] rfl (qL7 rfl T.aGF (qA (qZ (qAR T S).mono J rfl T.aEB T.aEF S.aCI.b .nil qK (qA (pv 6) (qA (pv 2) (qA (pv 16) (qA (pv 4) qD))))) (qA (pv 13) qD))) (λz z z z z=>(qDP (K:=K) (n:=2) rfl rfl (yE (qT (i:=0) (show List.Nodup (["_law_row","_law_end"]:List Str)from by decide)) (yE (qT (i:=1) (show List.Nodup (["_law_row","_law_end"]:List Str)from by decide)) q1T)) rfl rfl)) (λz z z z z=>uR) (λz z z z z=>(yB (qA (qO (yY (K:=K) rfl) (pv 0) qC (λz z=>rfl)) (qA (qO (yY (K:=K) rfl) (pv 0) qC (λz z=>rfl)) (qA (pv 1) qD))))) (by kernel_rfl) (qDF (q4Y (by decide) (q4Y (by decide) qDE))) jK.nd rfl (Or.inl rfl)) (qB (jA (q2J gO pL pM q5I (pv 10) (qA (yC ["_law_move"] [] rfl (jM (pv 17)) (λz z z z z=>(qT (i:=0) (show List.Nodup (["_law_move"]:List Str)from by decide))) (λz z z z z=>uR) (λz z z z z=>(yB (qA zY (qA (qO (yY (K:=K) rfl) (pv 0) qC (λz z=>rfl)) (qA v5 qD))))) (by kernel_rfl) (jI (by decide))) qD))) (qB (jA (q2J gO dD dE uP (pv 10) (qA (yB (qA zY (qA (pv 16) (qA v5 qD)))) qD q1C))) (qB (jG (PW.pt (q43 (qP (q5J J.units) (qO qW (pv 15) qC (λz z=>rfl)) (pv 17) (qQ _)) (q43 (qP (q5J J.units) (qO jD (qJ (pv 0) rfl) (qJI qF3 qC) (λz z=>rfl)) (pv 15) (qQ _)) (q49 (qP (q5J J.units) (jB (pv 1) T.fZ T.aAT (q15 T S).mono J S.t6.b .nil qK) (pv 10) (qQ _)))))) (qE (qM v5)) qS) (qB (jA (q2J gO dD dE uP (qO qW (pv 15) qC (λz z=>rfl)) (qA qC qD))) (qB (jA (q2J gO dD dE uP (qO qW (pv 15) qC (λz z=>rfl)) (qA qC qD))) (qB (jG (qP (q5J J.units) (qO jD (qJ (pv 0) rfl) (qJI qF3 qC) (λz z=>rfl)) (yB (qA (qO qW (pv 15) qC (λz z=>rfl)) (qA (pv 9) (qA (pv 16) (qA (pv 17) (qA v5 qD)))))) (qQ _)) (qE (qM v5)) qS) (qB (vH (i:=18) ["_law_chip","_law_page"] [1] rfl (vD rfl T.oQ (qA (qL jP (qJ (pv 1) rfl) (pv 2)) qD)) (λz z z z z=>(qT (i:=1) (show List.Nodup (["_law_chip","_law_page"]:List Str)from by decide))) (λz z z z z=>uR) (λz z z z z=>(qY (pv 0) T.fZ T.aBM (q2B T S).mono J S.aAN.b .nil qK (qA (pv 1) qD))) (by kernel_rfl) (jI (by decide)) jK.nd rfl (Or.inl rfl)) (qE (qM (yT (qG0 J.units) (pv 18) (qZ (q8P T S).mono J rfl T.aDQ T.aDE S.aBV.b .nil qK (qA (pv 6) (qA (pv 2) (qA (pv 16) (qA (pv 17) (qA (pv 4) qD)))))) (qQ _))))))))))))))))))))))))))),?_⟩
try dsimp-beta-proj-iota-zeta-eta only[wishK,cxK]
refine(iV rfl (iF hc.ins T.fZ T.iJ rfl ⟨_,rfl,iI ⟨(by rw[ax];exact cmN (by lia)),_,rfl,by rw[ax,aq];lia,by rw[ax,aq];lia,λD H1 nD s1 hD=>?_⟩⟩))
dsimp only
rw[ax,aq,mC]
refine qC3 rfl hc la (by rw[lb,pk.lf]) ax l3 lg bd bp nD s1 hD λbs H2 s2 h2 eg gy=>?_
have ik:=h.same s2
obtain⟨m2,dp,fa,ot,n1,f4,an,_,_,_⟩:=ik.h.chip
refine(iV rfl (iF dp.ins T.fZ T.iJ rfl ⟨_,rfl,by rw[an];lia,by rw[an];lia,λD1 H3 j6 s3 l0=>?_⟩))
rw[an,mC]
have dm:X.s.cl.length=X.s.q.B:=w.lc
refine zW (D:=D1) (λi H4=>Same H2 H4/\H4 D1=some (.lst ((X.s.cl.take i).map V.int))) ⟨s3,l0⟩ (λi H4 hi Z=>?_) (λH4 Z=>?_)
.obtain⟨sm,hd⟩:=Z;have il:i<X.s.cl.length:=by rw[dm];exact hi
 refine⟨_,rfl,x.c,x.a.dx,_,rfl,(dp.same sm).ins,rfl,_,rfl,x.c,x.a,m2,_,rfl,dp.same sm,fa,by lia,by rw[an];lia,_,hd,by rw[hU,gF];lia,λb o e=>?_,?_⟩
 .rw[qF (qG e j6)];exact sm _ _ e
 rw[qI,<-kW il,mE,f4,show(0+(i:Int)).toNat=i by lia,kJ,kF il];rfl
obtain⟨s4,h4⟩:=Z
rw[<-dm,mY]at h4
refine⟨D1,_,rfl,SqL.of h4,by rw[dm];exact gA (bL _) (gA (by have:=h.d.x.sh;exact aR λz=>by rw[z]at this;simp at this) (kO _)),λM hM kr=>?_⟩
have eM:M=X.s.lst:=by obtain⟨m',e,g1,g2⟩:=q7I (l:=X.s.cl) (λz=>by rw[z]at hM;cases hM);unfold XS.lst;rw[e];have:=kr m' g1;have:=g2 M hM;show M=m';lia
subst eM
refine⟨_,rfl,iI ?_⟩
have di:=ik.same s4
obtain⟨m4,j0,c4,_⟩:=di.h.j.e
refine(iV rfl (iM di.h.j.o rfl ⟨x,_,_,_,m4,X.s.q,_,rfl,j0,c4.ft,λf5 p5 qk H5 fh oy k5 kn dt aa=>?_⟩))
rw[c4.br,c4.cl]at fh
have aa:=q6O aa
rw[c4.br,qCQ w fh,qGX c4.cl]at aa
have mn:=(qCY w).2
have lj:=aa.len
rw[hU]at lj
refine⟨p5,rfl,⟨_,SqL.of dt⟩,λD2 H6 n6 s6 h6=>?_⟩
refine qHL (λd=>decide (d.cl<X.s.lst+k.sp)) dt aa (by lia) n6 s6 h6 (λx' d H' N N' hd sm hx kt kf=>?_) (λss H7 s7 h7 au=>?_)
.refine⟨_,rfl,iT (k:=2) (v:=.int d.cl) (SqT.of hx) rfl ⟨_,rfl,iI ⟨_,rfl,?_⟩⟩⟩;by_cases z:d.cl<X.s.lst+k.sp
 .rw[hG z];exact iteT ⟨_,rfl,kt (hG z)⟩
 rw[hX z];exact iteF (kf (hX z))
rw[sV]at au
have au:Tls H7 ss ((X.s.clb k (X.s.ful k)).map X.s.tl):=au
have mT:∀y∈[t.fW],y∈fx t x r pp:=by simp
have fb:=di.h.kT k5 kn
have bq:=fb.same s7
have da:=fb.offF n6
have nT:∀{y:Addr},y∉fx t x r pp->y∉[t.fW]:=λe z=>e (mT _ z)
refine(iV rfl (iM bq.j.o rfl ?_))
dsimp only[tNil,dS]
refine bq.j.opts ev λop os H8 mu j8 k8 eh fv=>?_
have bu:=bq.kT k8 j8.tb
have fo:=bq.offF mu
have b0:=k8.k _ _ (nT da) h7
have a6:=jL k8 au
have jp:=au.len
rw[hU]at jp
have d0:(X.s.clb k (X.s.ful k)).length<=16:=kQ (kY _ _) mn
refine⟨_,rfl,_,rfl,D2,rfl,⟨_,SqL.of b0⟩,λD3 H9 f7 aj h9=>?_⟩
refine qHL (λd=>decide (d.lv<(X.s.q.P:Int))) b0 a6 (by lia) f7 aj h9 (λx' d H' N N' hd sm hx kt kf=>?_) (λzs Ha sa ha ef=>?_)
.refine⟨_,rfl,iT (k:=1) (v:=.int d.lv) (SqT.of hx) rfl ⟨_,rfl,iI ⟨_,rfl,?_⟩⟩⟩;by_cases z:d.lv<(X.s.q.P:Int)
 .rw[hG z];exact iteT ⟨_,rfl,kt (hG z)⟩
 rw[hX z];exact iteF (kf (hX z))
have eo:((X.s.clb k (X.s.ful k)).map X.s.tl).filter (λd=>decide (d.lv<(X.s.q.P:Int)))=X.s.ots k:=by rw[sV];unfold XS.ots XS.opt;rw[ev,kL rfl];unfold XS.ded XS.clb;rw[nY,nY];refine dL (List.map X.s.tl) (r6 λb z=>fQ _ _)
rw[eo]at ef
have am:=jL (Keep.same sa) (F:=[]) fv
refine⟨q0G 4 (sa _ _ eh) ha (zB am) (zB ef),_,rfl,iteF ?_⟩
have eb:=bu.same sa
have bo:Keep (fx t x r pp) H Ha:=((((Keep.same (s2.trans s4)).trans (k5.mono mT)).trans (Keep.same s7)).trans (k8.mono mT)).trans (Keep.same sa)
have fD:=h.h.offF nD
have b6:Ha D=some (.lst bs):=sa _ _ (k8.k _ _ (nT fD) (s7 _ _ (k5.k _ _ (nT fD) (s4 _ _ h2))))
have dq:PgAt Ha bs X.s.pg:=((((gy.keep (Keep.same s4) (F:=[])).keep k5).keep (Keep.same s7) (F:=[])).keep k8).keep (Keep.same sa) (F:=[])
have bt:=sa _ _ eh
have a5:=sa _ _ b0
have cx:=jL (Keep.same sa) (F:=[]) a6
clear gy h4 h7 b0 eh fv a6 au ef ha dt aa h6 h9
obtain⟨m3,ib,nj,nw,iq,m1,n2,n3,_,_⟩:=eb.chip
refine(iV rfl (iM ib.ins rfl ⟨x.c,x.a,m3,rfl,ib,λds qz lm I Hb n4 sb hb=>?_⟩))
have fd:=eb.offF n4
have f9:=eb.same sb
have bh:Recd Hb ds X.s.rc:=by rw[<-iq];exact zV lm (sb _ _)
have fj:=bh.len
have ec:=jL (Keep.same sb) (F:=[]) am
have js:∀o∈X.s.ots k,o.Ok (X.s.q.P:Int) X.s.q.nx:=λo ho=>by obtain⟨b,hb,rfl⟩:=kP.mp ho;exact qJV w (by lia) (uN.mp hb).1.1.b
have em:=bo.trans (Keep.same sb)
refine⟨λig H'=>∃dv nv,ig=[some (.ref x.s),some (.ref x.c),some (.int (X.s.q.P:Int)),some (.int k.sp),some (.ref kd),some (.ref wa),some (.ref D),some (.int (X.s.lst+k.sp)),some (.ref D2),some (.ref op),some (.ref I),some dv,nv,none,none,none,none,none,none]/\Same Hb H'/\(X.s.ots k≠[]->dv=.int (dueN wv (X.s.q.P:Int) X.s.q.nx row (ruN X.ps) (X.s.ots k))),?_,?_⟩
.have f0:=sb _ _ bt;refine⟨_,rfl,sz0,λe He ne U he=>⟨op,_,e,rfl,rfl,SqL.of (U _ _ f0),SqL.of he,_,rfl,?_⟩⟩;have ip:=ec.len;by_cases z:X.s.ots k=[]
 .have d2:os=[]:=cI.mp (by rw[ip,z];rfl);rw[hX (λy=>y d2)];exact iteF ⟨_,_,rfl,U,λy=>absurd z y⟩
 have d2:os≠[]:=λy=>z (cI.mp (by rw[<-ip,y];rfl));rw[hG d2];have a4:=U _ _ hb;refine iteT ⟨_,rfl,I,rfl,⟨_,SqL.of a4⟩,λD4 Hf nf sf hf=>?_⟩;refine yW (K:=K) (xs:=ds) (D:=D4) (λi Hg=>Same He Hg/\∃zs,Hg D4=some (.lst zs)/\zs.length=ptN (X.s.rc.take i)) ⟨sf,[],hf,rfl⟩ (λi Hg Z=>SqL.of (Z.1 _ _ a4)) (λi v Hg hv Z=>?_) (λHg Z=>?_)
 .obtain⟨sg,zs,hz,lz⟩:=Z;obtain⟨d,hd,qa,rfl,q1⟩:=Paired.at bh hv;obtain⟨il,rfl⟩:=kC.mp hd;have lr:ptN (X.s.rc.take i)<=X.s.rc.length:=by unfold ptN;refine kQ (kY _ _) ?_;rw[gF];lia
  refine⟨_,rfl,iT (k:=0) (v:=_) (SqT.of (sg _ _ (U _ _ q1))) rfl ⟨rfl,_,rfl,?_⟩⟩;have er:ptN (X.s.rc.take (i+1))=ptN (X.s.rc.take i)+if X.s.rc[i].1=Str.ofString "put" then 1 else 0:=by
   rw[<-kW il,qA5];unfold ptN;rw[mU];by_cases g:X.s.rc[i].1=Str.ofString "put"
   .rw[kL (hG g),kL g];rfl
   rw[kE (λy=>g (mI y)),kE g];rfl
  by_cases g:X.s.rc[i].1=Str.ofString "put"
  .rw[show decide (V.str X.s.rc[i].1=V.str (Str.ofString "put"))=true from hG (by rw[g])];refine iteT ⟨_,rfl,zs,hz,by lia,λb o e=>?_,_,qI,?_⟩
   .rw[qF (qG e nf)];exact sg _ _ e
   rw[kU,er,kL g,lz];rfl
  rw[show decide (V.str X.s.rc[i].1=V.str (Str.ofString "put"))=false from hX (λy=>g (V.str.inj y))];refine iteF ⟨sg,zs,hz,?_⟩;rw[er,kE g,lz];rfl
 obtain⟨sg,zs,hz,lz⟩:=Z;rw[fj,mY]at lz;refine⟨D4,_,rfl,.inl (SqL.of hz),iI ?_⟩;have fp:=U.trans sg;have jj:=f9.same fp;refine⟨_,rfl,_,rfl,_,rfl,_,rfl,_,rfl,x,k,sh,_,r,rl,pp,X,rfl,jj,by lia,λHh jz=>?_⟩;have a2:=fp.trans jz;have mf:(X.s.ots k).length<=16:=by rw[<-eo];exact kQ (kY _ _) (by rw[hU];exact d0)
 refine⟨wa,wl,op,os,row,X.s.ots k,wv,(X.s.q.P:Int),X.s.q.nx,ruN X.ps,by rw[lz,pj.nx];rfl,a2 _ _ (em.tp _ _ mo),a2 _ _ (em.k _ _ jq ku),a2 _ _ f0,jL (Keep.same a2) (F:=[]) ec,z,mf,js,by lia,by lia,λHi si=>⟨_,_,rfl,a2.trans si,λz=>rfl⟩⟩
rintro ig Hc ⟨dv,nv,rfl,sc,md⟩
have bw:=f9.same sc
have dc:=sb.trans sc
have fw:=dc _ _ b6
have gn:PgAt Hc bs X.s.pg:=dq.keep (Keep.same dc) (F:=[])
obtain⟨m5,lk,iv,_,_,iu,is,_,_,_⟩:=bw.chip
refine⟨_,rfl,_,rfl,_,rfl,x.c,x.a,m5,D,bs,k,X.s,rfl,lk,iv,iu,is,fw,eg,gn,w,pgs,λsp fl H5 jm s5 mc h5=>?_⟩
have cs:=bw.same s5
have as:=dc.trans s5
have dh:=sc.trans s5
have a7:=em.trans (Keep.same dh)
have fs:=bw.offF mc
have f1:=as _ _ b6
have gi:=as _ _ bt
have fe:=as _ _ a5
have gq:=dh _ _ hb
have dd:PgAt H5 bs X.s.pg:=dq.keep (Keep.same as) (F:=[])
have aa:=jL (Keep.same as) (F:=[]) am
have ak:=jL (Keep.same as) (F:=[]) cx
have c3:Recd H5 ds X.s.rc:=zV bh (dh _ _)
have gt:=a7.k _ _ h.nkF h.hk
have le:D≠I:=qG b6 n4
have k1:op≠I:=qG bt n4
have k3:kd≠I:=qG (bo.k _ _ h.nkF h.hk) n4
have me:I∉rl:=λz=>by obtain⟨o,e⟩:=rlE I z;have:=bo.k _ _ fd e;rw[n4]at this;cases this
clear dq am cx bh ec b6 bt a5 hb fw gn
refine⟨λig H'=>∃rf v,ig=[some (.ref x.s),some (.ref x.c),some (.int (X.s.q.P:Int)),some (.int k.sp),some (.ref kd),some (.ref wa),some (.ref D),some (.int (X.s.lst+k.sp)),some (.ref D2),some (.ref op),some (.ref I),some dv,nv,some (.ref sp),some (.bl rf),some v,none,none,none]/\((rf=true/\X.s.tk k X.g=none/\XX t H' x k sh (sr:Int) r rl pp X/\Keep (fx t x r pp) H5 H')\/(rf=false/\∃Y p H6,X.room k=(Y,.ok p)/\XX t H6 x k sh (sr:Int) r rl pp Y/\Keep (fx t x r pp) H5 H6/\Same H6 H'/\PapN H6 H' v p)),?_,?_⟩
.refine(iV rfl (iM cs.j.o rfl ⟨x,k,sh,_,r,rl,pp,X,rfl,cs,ev,by lia,by lia,?_⟩));cases ab:X.room k with
 |mk Y o=>
  obtain⟨rx,a1⟩:=q56 h.d.x h.d.wt h.d.ok ab;have b4:=(q2Q.room w h.d.ok ab pj).pk;cases o with
  |error e=>
   cases e with
   |dark=>rw[b4.lf]at a1;cases a1.1
   |room=>obtain⟨rfl,tk⟩:=a1;refine λH' h' k'=>?_;intro ea qu;refine⟨_,T.aCA,iteT ?_⟩;exact⟨_,_,rfl,.inl ⟨rfl,tk,h',k'⟩⟩
  |ok p=>exact λv H6 H' h6 k6 s' pn=>⟨_,_,rfl,.inr ⟨rfl,Y,p,H6,rfl,h6,k6,s',pn⟩⟩
rintro ig H' ⟨rf,v,rfl,⟨rfl,tk,cb,k6⟩|⟨rfl,Y,p,H6,ab,cb,k6,dz,pn⟩⟩
.have e0:X.s.clb k (X.s.ful k)=[]:=by
  unfold XS.tk at tk;rw[ev]at tk;by_cases z:X.s.opt k=[]
  .rw[kL z,kL rfl]at tk;exact(zR (cl:=X.s.cl) qAO).1 (Option.map_eq_none_iff.mp tk)
  rw[kE z]at tk;cases tk
 rw[e0]at ak;cases ak;have jk:=k6.k _ _ da fe;refine⟨_,rfl,_,rfl,iteT (iteT ⟨_,rfl,_,rfl,iteT ⟨_,rfl,sz0,λe H7 n7 s7 h7=>⟨D2,_,e,rfl,rfl,SqL.of (s7 _ _ jk),SqL.of h7,_,rfl,iteT ?_⟩⟩⟩)⟩;have bu:=cb.same s7;obtain⟨m8,h0,_,_,ir,_⟩:=bu.chip;refine(iV rfl (iM h0.ins rfl ⟨x.c,x.a,m8,rfl,h0,λjl q6 hh k0 H9 f7 aj h9=>?_⟩));have ac:Keep (fx t x r pp) H5 H9:=k6.trans (Keep.same (s7.trans aj));refine⟨_,rfl,qDD h9 (ac.k _ _ fd gq) (by rw[ir]at hh;exact zV hh (aj _ _)) (zV c3 (ac.tp _ _)),?_⟩;exact kk X H9 (h.stay (bu.same aj) (a7.trans ac) h.d (by lia) (by lia)) (a7.trans ac) pj fr gs rfl rfl
obtain⟨rx,gw,mb,_,_,⟨g',tk⟩,_,ets,_⟩:=q56 h.d.x h.d.wt h.d.ok ab
obtain⟨ful,ge,kx,af,i0⟩:=qJ0 h.d.x h.d.wt h.d.ok jm ab
have fk:=q2Q.room w h.d.ok ab pj
have b4:=fk.pk
have k7:=fr.room h.d.ok w ab
have jt:=gs.room h.d.ok w ab
have oc:=fun {b:Nat} (hb:b∈X.s.opt k)=>uN.mp hb
have cr:p.ts≠[]->p.why=Str.ofString "rule"/\dv=.int (p.b:Int):=λz=>by
 rw[ets]at z;rcases v6 h.d.ok tk with⟨z1,_,z3,_⟩|⟨_,_,z2,_⟩
 .refine⟨z1,?_⟩;rw[md z,z3];refine dL V.int ?_;unfold dueN;rcases gs with⟨f,e1,e2⟩|⟨row',u,u',e1,e2⟩
  .by_cases y:wv=3
   .unfold ruW at e1;rw[kL y]at e1;cases e1
   unfold ruW at e1;rw[kE y]at e1;cases e1;rw[kE y,e2];rfl
  by_cases y:wv=3
  .unfold ruW at e1;rw[kL y]at e1;cases e1;rw[kL y,e2,fr _ _ e2];exact qLT.symm
  unfold ruW at e1;rw[kE y]at e1;cases e1
 exact absurd (by unfold XS.ots;rw[z2];rfl) z
have ce:p.ts=[]->p.why=Str.ofString "even"/\∃A,A.b=(p.b:Int)/\Bst Tl.cl ((X.s.clb k (X.s.ful k)).map X.s.tl) A:=λz=>by
 rw[ets]at z;rcases v6 h.d.ok tk with⟨_,z2,_⟩|⟨z1,_,_,_,z5,_⟩
 .rw[pG.mp z]at z2;cases z2
 exact⟨z1,X.s.tl p.b,rfl,qJ1 qAO z5⟩
have bin:p.b∈X.s.clb k (X.s.ful k):=by
 rcases v6 h.d.ok tk with⟨_,z2,_⟩|⟨_,_,_,_,z5,_⟩
 .unfold XS.clb;exact mQ.mpr ⟨q54.mpr (uN.mp z2).1.1,hG ((uN.mp z2).2 ev)⟩
 exact((zR (cl:=X.s.cl) qAO).2 _ z5).1
have m3:∀q∈p.mv,q.length=3:=λq hq=>by obtain⟨_,_,_,rfl,_⟩:=af q hq;rfl
rw[<-ets]at aa
obtain⟨pa,c1,c2,us,rs,rfl,qv,dj,d4,kh,db,h1,t1,dn,l6⟩:=pn
have ca:Keep (fx t x r pp) H5 H':=k6.trans (Keep.same dz)
have hj:=ca.k _ _ da fe
have cw:=ak.len
have one:¬ss=[]:=λz=>by rw[z,hU]at cw;rw[cI.mp cw.symm]at bin;cases bin
refine⟨_,rfl,_,rfl,iteF ⟨_,rfl,sz0,λe H8 n8 s8 h8=>⟨D2,_,e,rfl,rfl,SqL.of (s8 _ _ hj),SqL.of h8,_,rfl,?_⟩⟩⟩
rw[hX one]
refine iteF ?_
have d5:=ca.trans (Keep.same s8)
refine⟨_,rfl,_,rfl,_,rfl,_,rfl,pa,c1,c2,us,rs,op,os,D2,ss,_,dv,p,rfl,s8 _ _ db,s8 _ _ h1,jL (Keep.same s8) (F:=[]) t1,d5.k _ _ fo gi,jL d5 aa,s8 _ _ dn,s8 _ _ hj,jL d5 ak,by rw[hU];exact d0,cr,ce,λH9 aj=>⟨_,rfl,iteF ?_⟩⟩
have b1:=s8.trans aj
have ac:=ca.trans (Keep.same b1)
refine⟨_,rfl,iT (k:=2) (v:=_) (SqT.of (b1 _ _ db)) rfl ?_⟩
refine⟨_,rfl,_,rfl,_,rfl,_,rfl,D,bs,kd,KD,k,X.s,p.b,rfl,ac.k _ _ fD f1,eg,dd.keep ac,ac.k _ _ h.nkF gt,w,pgs,h.d.eq,ful.b,ful.f,λml j2 Ha sa qb iw ht=>?_⟩
have kz:=ac.trans (Keep.same sa)
have a5:=kz.k _ _ fs h5
refine⟨_,rfl,ml,sp,rfl,⟨_,SqL.of iw⟩,⟨_,SqL.of a5⟩,λD5 Hb nb sb hb=>?_⟩
have iz:=ht.len
have az:p.mv.length=(lvF X.s p.b X.s.q.P).length:=by rw[ge,xZ];lia
refine qIX (K:=K) (xs:=j2) (ys:=(sptL X.s fl).map V.int) (D:=D5) (λi Hc=>Same Ha Hc/\∃zs,Hc D5=some (.lst zs)/\Paired (TupD Hc) zs (p.mv.take i)) ⟨sb,[],hb,.nil⟩ (λi Hc Z=>⟨SqL.of (Z.1 _ _ iw),SqL.of (Z.1 _ _ a5)⟩) (by rw[iz,hU];exact kx) (λi v u W Hc hv hu Z nW=>?_) (λHc Z=>?_)
.obtain⟨sc,zs,hz,pz⟩:=Z;obtain⟨d,hd,x',rfl,ag⟩:=Paired.at ht hv;obtain⟨il,ed⟩:=kC.mp hd;rw[mF]at hu;obtain⟨z,lq,rfl⟩:=mK.mp hu;have im:i<p.mv.length:=by rw[az];exact il
 have c5:p.mv[i]=[d.getD 0 0,d.getD 1 0,z]:=by
  have e1:p.mv[i]?=some [d.getD 0 0,d.getD 1 0,z]:=by rw[ge,List.getElem?_zipWith,hd,lq]
  rw[kF im]at e1;exact mB e1
 have ld:d=[d.getD 0 0,d.getD 1 0]:=by rw[q59]at hd;obtain⟨_,_,rfl⟩:=kP.mp (gL hd);rfl
 rw[ld]at ag;generalize d.getD 0 0=n' at c5 ag;generalize d.getD 1 0=q' at c5 ag;have sW:Same Hc (upd Hc W (.tup [.ref x',.int z])):=Same.upd nW;have hW:(upd Hc W (.tup [.ref x',.int z])) W=some (.tup [.ref x',.int z]):=qI;generalize upd Hc W (.tup [.ref x',.int z])=Hd at sW hW ⊢;refine⟨W,_,rfl,SqT.of hW,rfl,_,_,rfl,_,_,rfl,rfl,?_⟩;have ia:=sW _ _ (sc _ _ ag);refine⟨_,rfl,iT (k:=0) (v:=.int n') (SqT.of ia) rfl ⟨_,rfl,iT (k:=1) (v:=.int q') (SqT.of ia) rfl ⟨_,rfl,sz3,λtn He ne U he=>?_⟩⟩⟩;have lz:=pz.len;rw[gF]at lz;have mz:(lvF X.s p.b X.s.q.P).length<=16:=by rw[q59,hU];exact kQ q7M p2
 have d3:=U _ _ (sW _ _ hz);refine⟨zs,d3,by lia,λb o e=>?_,zs++[.ref tn],qI,?_⟩
 .rw[qF (qG e nb)];exact U _ _ (sW _ _ (sc _ _ e))
 rw[<-kW im,c5];exact L2.Paired.snoc (Paired.mapP (jH (jH pz sW) U) λx k z=>z.upd d3 (λz q=>by cases q)) (TupD.upd ⟨tn,rfl,he⟩ d3 (λz q=>by cases q))
obtain⟨sc,zs,hz,pz⟩:=Z
rw[iz,<-az,mY]at pz
have ah:=(b1.trans sa).trans sc
have bi:=dz.trans ah
have gl:=ca.trans (Keep.same ah)
have bw:=cb.same bi
have gh:=ah _ _ db
have li:=ah _ _ h1
have kv:=ah _ _ dn
have cn:=jH l6 ah
have ay:=k6.k _ _ fd gq
have fu:=bi _ _ ay
have gk:Recd H6 ds X.s.rc:=zV c3 (k6.tp _ _)
have fj:=gk.len
have mx:p.mv.length<=16:=by rw[az,q59,hU];exact kQ q7M p2
refine⟨_,rfl,.inl ⟨rfl,_,SqL.of fu⟩,_,rfl,D5,rfl,⟨_,SqL.of hz⟩,λD3 Hd nd sd hd=>?_⟩
refine yW (K:=K) (xs:=zs) (D:=D3) (λi He=>Same Hc He/\∃ws,He D3=some (.lst ws)/\Recd He ws ((p.mv.take i).map putR)) ⟨sd,[],hd,.nil⟩ (λi He Z=>SqL.of (Z.1 _ _ hz)) (λi v He hv Z=>?_) (λHe Z=>?_)
.obtain⟨U,ws,hw,pw⟩:=Z;obtain⟨d,g6,x',rfl,ag⟩:=Paired.at pz hv;obtain⟨im,ed⟩:=kC.mp g6;obtain⟨n',q',e,hs,_⟩:=af d (gL g6);rw[hs]at ag;have lw:=pw.len;rw[hU,gF]at lw;refine⟨_,rfl,iT (k:=2) (v:=.int e) (SqT.of (U _ _ ag)) rfl ⟨sz3,λtn Hf nf sf hf=>?_⟩⟩;have gu:=sf _ _ hw;have up:∀{a:Addr} {xs:List V} {o:HO},Hf a=some (.tup xs)->(upd Hf D3 o) a=some (.tup xs):=fun {a xs o} e=>by rw[qF (λz=>by rw[z,gu]at e;cases e)];exact e
 refine⟨ws,gu,by lia,λb o e=>?_,ws++[.ref tn],qI,?_⟩
 .rw[qF (qG e nd)];exact sf _ _ (U _ _ e)
 rw[<-kW im,mE,ed,hs];exact L2.Paired.snoc (zV pw λh'=>up (sf _ _ h')) ⟨tn,rfl,up hf⟩
obtain⟨U,ws,hw,pw⟩:=Z
rw[pz.len,mY]at pw
have lw:=pw.len
rw[hU]at lw
have a4:=U _ _ fu
refine⟨I,D3,ds,ws,rfl,rfl,a4,hw,by lia,?_⟩
have kf:=Keep.upd (F:=[I]) (o:=.lst (ds++ws)) a4 (λU z=>by cases z) (by simp)
have bz:(upd He I (.lst (ds++ws))) I=_:=qI
generalize upd He I (.lst (ds++ws))=Hf at kf bz ⊢
refine⟨_,rfl,.inl ⟨rfl,_,SqL.of bz⟩,_,rfl,sz3,λtw Hg ng sg hg=>⟨I,_,_,rfl,rfl,sg _ _ bz,by rw[kU];lia,?_⟩⟩
have kg:=Keep.upd (F:=[I]) (o:=.lst (ds++ws++[.ref tw])) (sg _ _ bz) (λU z=>by cases z) (by simp)
have cf:(upd Hg I (.lst (ds++ws++[.ref tw]))) I=_:=qI
generalize upd Hg I (.lst (ds++ws++[.ref tw]))=Hh at kg cf ⊢
have O:Keep [I] He Hh:=(kf.trans (Keep.same sg)).trans kg
have e8:c1∉[I]:=λz=>by rw[kD.mp z,ay]at dj;cases dj
have i2:c2∉[I]:=λz=>by rw[kD.mp z,ay]at d4;cases d4
have al:=O.tp _ _ (U _ _ gh)
have g3:=O.k _ _ e8 (U _ _ li)
have dk:=O.k _ _ i2 (U _ _ kv)
obtain⟨v1,k9⟩:=pgs.wr p.b 0 ful.b p1 (by rw[ful.f];lia)
have f2:X.s.q.nx≠1:=λz=>by have:=pgs.mr _ _ k9;lia
have gb:X.s.rc≠[]:=pk.rc.resolve_left f2
have top:∃n,TopN X.s n:=pk.top.resolve_left f2
have cz:XX t (upd H6 I (.lst (ds++ws++[.ref tw]))) x k sh (sr:Int) r rl pp Y:=cb.log ay gk gb fd me
have bm:XX t Hh x k sh (sr:Int) r rl pp Y:=cz.same λy o e=>by
 by_cases z:y=I
 .rw[z,qI]at e;cases e;rw[z];exact cf
 rw[qF z]at e;exact O.k _ _ (λu=>z (kD.mp u)) (U _ _ (bi _ _ e))
have ci:Paired (TupD Hh) us p.mv:=Paired.mapP (jH cn U) λv d z=>by obtain⟨p',e',h'⟩:=z;exact⟨p',e',O.tp _ _ h'⟩
have go:Tls Hh rs p.ts:=jL O (jL (Keep.same (ah.trans U)) (F:=[]) t1)
have ek:=b1.trans sa
have g0:Hh D5=some (.lst zs):=O.k _ _ (λu=>by rw[kD.mp u,ek _ _ (dz _ _ ay)]at nb;cases nb) (U _ _ hz)
have fg:Paired (TupD Hh) zs p.mv:=Paired.mapP (jH pz U) λv d z=>by obtain⟨p',e',h'⟩:=z;exact⟨p',e',O.tp _ _ h'⟩
refine⟨_,rfl,iT (k:=3) (v:=_) (SqT.of al) rfl ⟨_,rfl,q0G 4 dk g0 ci fg,_,rfl,iteF ?_⟩⟩
have a3:∀{G:Hp},XX t G x k sh (sr:Int) r rl pp Y->∃ps qa l1 l2 a8 ba,G pp=some (.lst ps)/\atI ps (-1)=some (.ref qa)/\G qa=some (.tup [.str p.why,.ref l1,.int (p.b:Int),.ref l2,.bl true])/\G l1=some (.lst ba)/\Tls G ba p.ts/\G l2=some (.lst a8)/\Paired (TupD G) a8 p.mv:=fun {G} hx=>by obtain⟨ps,ee,ga⟩:=hx.hp;have gz:=ga.len;rw[gw,kU,gM]at gz;obtain⟨v,hv⟩:∃v,ps[X.ps.length]?=some v:=⟨_,kF (by lia)⟩;obtain⟨p',ij,qa,l1,l2,a8,ba,rfl,q1,q2,q3,q4,q5,_,_⟩:=Paired.at ga hv;rw[gw,dP (kO _),xC]at ij;obtain rfl:p=p':=mB ij;exact⟨ps,qa,l1,l2,a8,ba,ee,by rw[qG7 (by lia),gz];exact hv,q1,q2,q3,q4,q5⟩
obtain⟨ps,qa,l1,l2,a8,ba,ee,aL,q1,q2,q3,q4,q5⟩:=a3 bm
have oh:=bm.j.o
rw[bm.ep]at oh
refine(iV rfl (iF oh T.fY T.i7 rfl ⟨1,rfl,pp,ps,_,.ref qa,rfl,rfl,SqL.of ee,aL,_,rfl,qE8 q1 al (q0G 3 q2 g3 (zB q3) (zB go)) (q0G 3 q4 dk q5 ci),_,rfl,iteF ?_⟩))
obtain⟨mk,ff,mw,og,gg,oa,nr,oq,nt,_⟩:=bm.chip
refine(iV rfl (iM ff.ins rfl ⟨x.c,x.a,mk,rfl,ff,λjl rg io k0 Hk nk sk jr=>?_⟩))
have f3:∀{y:Addr} {xs:List V},H5 y=some (.tup xs)->Hh y=some (.tup xs):=λe=>O.tp _ _ (U _ _ (gl.tp _ _ e))
have lh:Recd Hk (ds++ws++[.ref tw]) Y.s.rc:=by rw[mb];exact L2.Paired.snoc (q88 (zV c3 λh'=>sk _ _ (f3 h')) (zV pw λh'=>sk _ _ (O.tp _ _ h'))) ⟨tw,rfl,sk _ _ (kg.tp _ _ hg)⟩
refine⟨_,rfl,qDD jr (sk _ _ cf) (by rw[gg]at io;exact zV io (sk _ _)) lh,_,rfl,iteF ?_⟩
have cm:=sk _ _ al
have dy:=sk _ _ g3
have rp:=go.len
have rt:p.ts.length<=16:=by rw[ets,<-eo];exact kQ (kY _ _) (by rw[hU];exact d0)
refine⟨_,rfl,iT (k:=1) (v:=_) (SqT.of cm) rfl ⟨.inl ⟨rfl,_,SqL.of dy⟩,c1,rs,_,rfl,rfl,dy,by lia,?_⟩⟩
have ki:=Keep.upd (F:=[c1]) (o:=.lst (rs++[.int 0])) dy (λU z=>by cases z) (by simp)
generalize upd Hk c1 (.lst (rs++[.int 0]))=Hi at ki ⊢
have ei:=ki.k _ _ (λz=>kh (kD.mp z).symm) (sk _ _ dk)
have ra:=cn.len
refine⟨_,rfl,iT (k:=3) (v:=_) (SqT.of (ki.tp _ _ cm)) rfl ⟨.inl ⟨rfl,_,SqL.of ei⟩,c2,us,_,rfl,rfl,ei,by lia,?_⟩⟩
have kj:=Keep.upd (F:=[c2]) (o:=.lst (us++[.int 0])) ei (λU z=>by cases z) (by simp)
generalize upd Hi c2 (.lst (us++[.int 0]))=Hj at kj ⊢
have ai:Keep [c1,c2] Hh Hj:=((Keep.same sk).trans (ki.mono (by simp))).trans (kj.mono (by simp))
have cv:∀{y:Addr} {o:HO},H6 y=some o->y≠I->Hj y=some o:=fun {y o} e6 nd=>by
 refine ai.k _ _ (λu=>?_) (O.k _ _ (λu=>nd (kD.mp u)) (U _ _ (bi _ _ e6)));have u:y=c1\/y=c2:=by simpa using u
 rcases u with u|u
 .rw[u,dj]at e6;cases e6
 rw[u,d4]at e6;cases e6
have bv:∀{y:Addr} {o:HO},H5 y=some o->y∉fx t x r pp->y≠I->Hj y=some o:=λe ny nd=>cv (k6.k _ _ ny e) nd
have ix:∀{y:Addr} {xs:List V},H5 y=some (.tup xs)->Hj y=some (.tup xs):=λe=>ai.tp _ _ (f3 e)
have j1:Hj I=some (.lst (ds++ws++[.ref tw])):=ai.k _ _ (λu=>by
 have u:I=c1\/I=c2:=by simpa using u
 rcases u with u|u
 .exact e8 (by rw[u];simp)
 exact i2 (by rw[u];simp)) cf
have bb:XX t Hj x k sh (sr:Int) r rl pp Y:=cz.same λy o e=>by
 by_cases z:y=I
 .rw[z,qI]at e;cases e;rw[z];exact j1
 rw[qF z]at e;exact cv e z
have k2:=bv gi fo k1
have ky:Tls Hj os p.ts:=jL ai (jL O (jL (Keep.same U) (F:=[]) (jL gl aa)))
have fm:Hj D5=some (.lst zs):=ai.k _ _ (λu=>by
 have u:D5=c1\/D5=c2:=by simpa using u
 rcases u with u|u
 .rw[u,ek _ _ h1]at nb;cases nb
 rw[u,ek _ _ dn]at nb;cases nb) g0
have gx:Paired (TupD Hj) zs p.mv:=Paired.mapP fg λv d z=>by obtain⟨p',e',h'⟩:=z;exact⟨p',e',ai.tp _ _ h'⟩
have fz:=ai.tp _ _ al
obtain⟨j5,qj,pc,rj,o8,pr,gf,j3,jh,km,j7,ke,lu⟩:=a3 bb
have oj:=bb.j.o
rw[bb.ep]at oj
refine(iV rfl (iF oj T.fY T.i7 rfl ⟨1,rfl,pp,j5,_,.ref qj,rfl,rfl,SqL.of gf,j3,_,rfl,iT (k:=0) (v:=_) (SqT.of fz) rfl ⟨_,rfl,_,rfl,_,rfl,sz5,λtq Hl nl sl hl=>⟨qE8 (sl _ _ jh) hl (q0G 3 (sl _ _ km) (sl _ _ k2) (jH (zB j7) sl) (jH (zB ky) sl)) (q0G 3 (sl _ _ ke) (sl _ _ fm) (jH lu sl) (jH gx sl)),_,rfl,iteF ?_⟩⟩⟩))
have lo:=bb.same sl
obtain⟨ji,cj,gv,gm,_,_,cq,gc,it,_⟩:=lo.chip
have bx:ji.bl=(X.s.q.B:Int):=by rw[cq,rx.kp.eB]
refine(iV rfl (iF cj.ins T.fZ T.iJ rfl ⟨_,rfl,iI ⟨(by rw[bx];exact cmN (by lia)),_,rfl,by rw[bx,aq];lia,by rw[bx,aq];lia,λD6 Hm nm sm hm=>?_⟩⟩))
dsimp only
rw[bx,aq,mC]
refine qC3 (s:=Y.s) (by rw[rx.kp.eB,rx.kp.eP]) cj gv (by rw[gm,b4.lf]) cq gc it b4.pw.2.bd (by rw[rx.kp.eB,rx.kp.eP];exact bp) nm sm hm λb5 Hn sn hn jx kc=>?_
have ap:=sl.trans sn
have qp:=h.d.h64
refine⟨_,rfl,_,rfl,_,rfl,_,rfl,_,rfl,_,rfl,D,bs,D5,zs,p.mv,kd,KD,k,X.s,p.b,rfl,ap _ _ (bv f1 fD le),eg,⟨dd.n,λi v e=>by obtain⟨tp,e1,e2⟩:=dd.v i v e;exact⟨tp,e1,ap _ _ (ix e2)⟩⟩,ap _ _ fm,jH gx ap,ap _ _ (bv gt h.nkF k3),by have:=h.d.ls;have:=h.d.s57;lia,λy hy=>by have:=h.d.kb y hy;lia,h.d.bits,w,pgs,bd,top,ful.b,af,λl xs Ho so pi ly lx px=>?_⟩
rw[<-i0]at px
have dw:=ap.trans so
have fc:Keep (fx t x r pp) H Ho:=by refine⟨λy o ny e=>?_,λy xs e=>dw _ _ (ix (a7.tp _ _ e))⟩;have e5:=a7.k _ _ ny e;refine dw _ _ (bv e5 ny λz=>?_);rw[z]at e;have:=bo.k _ _ (by rw[<-z];exact ny) e;rw[n4]at this;cases this
refine⟨qEY (so _ _ hn) ly (by rw[jx,lx,rx.kp.eB,rx.kp.eP]) (kc.keep (Keep.same so) (F:=[])) px,?_⟩
obtain⟨r1,r2⟩:=qBM w h.d.ok ab
exact kk Y Ho (h.stay (bb.same dw) fc (h.d.made rx) (by lia) (by lia)) fc fk k7 jt rx.kp.eB rx.kp.eP)
theorem qC4(T:tXx)(S:tFf)(B:BmIn base mg):S.aDG.Ok0 P w mg base 15 (spMd t):=by(
refine S.aDG.F.ok0 jK λU A _ s H vs Q E N h=>?_
obtain⟨x,k,sh,sr,r,rl,pp,X,kd,KD,wa,J,D,n,O,rfl,Z⟩:=h
refine nZ λz=>?_
have I:MdB MdE:=by unfold MdE;exact xE ⟨⟨H,Q,x,k,sh,sr,r,rl,pp,X,kd,KD,wa,J,D,n,O⟩,Z,λg=>z (g base B _ _ _ _ _ N)⟩
exact I.2 (Md_c T S I.1))
def RE(H H':Hp):Prop:=∀b o,(∀ps,o≠ .tbl ps)->H b=some o->H' b=some o
theorem RE.keep{F:List Addr}(r:RE H Hi)(k:Keep F Hi Hj)(f:∀b∈F,H b=none\/∃ps,H b=some (.tbl ps)):RE H Hj:=λb o nb e=>k.k b o (λz=>by
 rcases f b z with z|⟨ps,z⟩
 .lia
 rw[z]at e;exact nb ps (mB e).symm) (r b o nb e)
theorem RE.same(r:RE H Hi)(s:Same Hi Hj):RE H Hj:=λb o nb e=>s b o (r b o nb e)
theorem RE.sq(r:RE H Hi)(h:SqL K H sa xs):SqL K Hi sa xs:=by(
rcases h with(h|⟨ob,h⟩)|h
.exact .inl (.inl (r _ _ (λU z=>by cases z) h))
.exact .inl (.inr ⟨ob,r _ _ (λU z=>by cases z) h⟩)
exact .inr h)
theorem qHM{α:Type}[DecidableEq α]:∀{l m:List α},l.Nodup->(∀x∈l,x∈m)->l.length<=m.length
| [],_,_,_=>m9 _
|a::l,m,nd,h=>by obtain⟨n1,n2⟩:=gD.mp nd;have am:=h a kX;have:=qHM (l:=l) (m:=m.erase a) n2 λx hx=>(xU (λz=>n1 (by rw[<-z];exact hx))).mpr (h x (kB _ hx));rw[lG am]at this;have:=wH am;rw[mP];lia
theorem qJE{P:Nat}:Pk (newX B P):=⟨⟨qH4,rfl,λd hd=>(by cases hd),λi v e=>(by cases e)⟩,.inl rfl,rfl,.inl rfl⟩
theorem q5F{hl:List Int}{y:Int}:(∀m,m∈gvn hl [y]↔m=y/\y∈hl)/\(gvn hl [y]=[]↔y∉hl):=by(
have a:∀m,m∈gvn hl [y]↔m=y/\y∈hl:=λm=>by
 unfold gvn;rw[mQ,mG,kD];constructor
 .rintro⟨h,e⟩
  exact⟨e,by simp_all⟩
 rintro⟨e,h⟩
 exact⟨by simp_all,e⟩
refine⟨a,?_⟩
rw[List.eq_nil_iff_forall_not_mem]
simp_all)
theorem qJF{P:Nat}:Pj (newX B P):=⟨qJE,rfl⟩
structure Iv(wv:Int)(row:List Int)(Y:Sx):Prop where
pj:Pj Y.s
fo:FoR Y
gs:Gs (ruW wv row) Y.g
theorem XX.rlE{x:Sto}{k:Tm}{r:Addr}(h:XX t H x k sh sr r rl pp X)(gs:Gs (ruW wv row) X.g)(e:wv≠3->rl=[]):∀y∈rl,∃o,H y=some o:=λy hy=>by(
rcases gs with⟨f,e1,e2⟩|⟨row',u,u',e1,e2⟩
.by_cases z:wv=3
 .unfold ruW at e1;lia
 grind
have ru:=h.ru
rw[e2]at ru
obtain⟨dx,l,rfl,f,_⟩:=ru
rw[kD.mp hy]
exact⟨_,f.row⟩)
theorem qLZ:(ruW wv row).Ok:=by unfold ruW;split<;>trivial
theorem qM0:Gs (ruW wv row) (ruW wv row):=by(
unfold ruW
split
.exact .inr ⟨row,0,0,rfl,rfl⟩
exact .inl ⟨_,rfl,rfl⟩)
theorem qM1(T:tXx)(S:tFf)(B:BmIn base mg):S.law.Ok0 P w mg base 18 (q5O K [t.fW,t.fX]):=by(
refine S.law.F.ok0 v3 λhj A _ s H vs Q E hr h=>?_
obtain⟨a,ns,rfl,hS,fw,cp,k⟩:=h
have hT:H t.fW=some (.tbl #[]):=cp _ (by simp)
have a5:H t.fX=some (.tbl #[]):=cp _ (by simp)
have hu:=q45 hr
have s9:(99999:Nat)<sizeLine:=by decide
refine⟨_,(qB (q1U (qZ (qAP T S).mono hr rfl T.aD9 T.aD5 S.aCT.b .nil qK (qA (pv 0) qD)) (qLH rfl (yE (qT (i:=1) v3.nd) (yE (qT (i:=2) v3.nd) (yE (qT (i:=3) v3.nd) (yE (qT (i:=4) v3.nd) q1T)))))) (qB (qU (i:=5) v3.nd (qL jU qC (qL yZ (qZ (yF T S).mono hr rfl T.iO T.iK S.iP.b .nil qK (qA (pv 0) (qA qC qD))) qC))) (qB (qU (i:=6) v3.nd (q4U T.aF3 (qAI T S).mono hr rfl T.aF5 S.aDR S.aDA qK (qA (pv 1) (qA (pv 2) qD)))) (qB (qU (i:=7) v3.nd (q4U T.aFT (q8K T S).mono hr rfl T.aF0 S.aD6 .nil qK (qA (pv 1) (qA (pv 2) (qA qC (qA (pv 3) (qA (pv 4) (qA (pv 5) qD)))))))) (qB (qU (i:=8) v3.nd (qZ (qD0 T S).mono hr rfl T.aFF T.aFG S.aEV.b .nil qK (qA (qL uL (qZ (yF T S).mono hr rfl T.iO T.iK S.iP.b .nil qK (qA (pv 0) (qA qC qD))) qC) qD))) (qB (qU (i:=9) v3.nd (q4U T.aGA (q8N T S).mono hr rfl T.aF8 S.aBZ.b .nil qK (qA (pv 6) (qA (pv 7) (qA (qZ (qC2 T S).mono hr rfl T.aES T.aEY S.aDN.b .nil qK (qA (pv 8) qD)) qD))))) (qB (qU (i:=10) v3.nd (qZ (qAQ T S).mono hr rfl T.aEK T.aDX S.aCX.b .nil qK (qA (pv 0) (qA (pv 3) qD)))) (qB (qU (i:=11) v3.nd q4X) (qB (uO gT rfl (jM (pv 10)) (qT (i:=12) v3.nd) (qB (jA (q71 q0L (pv 9) T.fY T.aB7 (q3J T S B).mono hr S.aAF.b .nil (qA (pv 12) (qA qC qD)))) (qE (q6I hu (pv 11) (pv 12) v5 rfl)))) (qB (uO gT rfl (q19 rfl T.oQ (qA qC (qA (jE (q8U rfl) (by rfl) T.aFC (by kernel_rfl) (qA (jE jJ (by rfl) T.aA3 g5 (qA (pv 0) qD)) (qA qC qD))) qD))) (qT (i:=13) v3.nd) (qB (qU (i:=14) v3.nd (qO jD (pv 0) (pv 13) (λz z=>rfl))) (qB (qU (i:=15) v3.nd (qZ (qC0 T S).mono hr rfl T.aER T.aE4 S.aDJ.b .nil qK (qA (qL yZ (qL jP (qL jU (pv 14) (pv 13)) qC) qC) (qA (pv 10) qD)))) (qE (jG (qP yO (qL yZ (pv 14) qC) qC (qQ _)) (qB (jA (q71 q0L (pv 9) T.fY T.aC0 (q5X T S B).mono hr S.aAD.b .nil (qA (jS (qA (pv 15) qD)) qD qFY))) (qE (jA (qFO (pv 11) (pv 15) u8 ⟨rfl,rfl,rfl,rfl⟩)))) (qE (jG (qP q0J (qL yZ (pv 14) qC) qC (qQ _)) (qE (jG (u9 (yI (qZ (qC4 T S B).mono hr rfl T.aET T.aEL S.aDG.b .nil qK (qA (pv 9) (qA (pv 6) (qA (pv 2) (qA (pv 5) (qA (pv 11) (qA (pv 8) qD))))))))) (qE (qM v5)) qS)) (qB (jA (q71 q0L (pv 9) T.fY T.aB7 (q3J T S B).mono hr S.aAF.b .nil (qA (pv 15) (qA (qL yZ (qL jU (qL jP (pv 14) qC) (pv 13)) (qL qF1 qC qC)) qD)))) (qE (q6I hu (pv 11) (pv 15) v5 rfl)))))))))) (qE (qM v5)))))))))))),?_⟩
try dsimp-beta-proj-iota-zeta-eta only[wishK,cxK]
refine⟨_,rfl,a,ns,rfl,hS,λc P1 i sh hg ed dj fu gu hd el p0 H1 n0 s1 h1=>?_⟩
refine⟨p0,_,rfl,SqL.of h1,rfl,_,_,rfl,_,_,rfl,_,_,rfl,_,_,rfl,rfl,?_⟩
have gj:c*P1<=4*4:=sB ed fu
have dc:sh<=14:=by lia
refine⟨_,rfl,a,ns,4,rfl,s1.seq hS,by decide,_,_,rfl,rfl,(by show(0:Int)<3;decide),iI ?_⟩
have c4:=q0Q (yQ ns 4) 3 (by decide)
try dsimp only
obtain⟨w,ew⟩:∃w:Int,1+yQ ns 4%3=w:=⟨_,rfl⟩
rw[ew]
have w1:1<=w:=by lia
have w3:w<=3:=by lia
clear c4 ew
refine⟨_,rfl,_,rfl,?_⟩
dsimp only[tNil]
refine qMY (by lia) (by lia) (by lia) (by lia) (by decide) (by decide) ?_
refine λch ca H6 hc sC fC=>?_
refine⟨_,rfl,_,rfl,_,rfl,_,rfl,_,rfl,?_⟩
dsimp only[tNil,wL,dS]
refine qMZ (by lia) (by lia) (by lia) (by lia) (by decide) (by decide) (by lia) (by rw[show((c+1+i:Nat):Int)-1-(i:Int)=(c:Int) by lia,<-gY];lia) (by lia) (by lia) (by lia) (by lia) ?_
intro tm td H7 s7 bx
have ay:=(s1.trans sC).trans s7
refine⟨_,rfl,a,ns,4,rfl,ay.seq hS,by decide,_,_,rfl,rfl,⟨by decide,by decide⟩,_,rfl,λwa wl N HW sW em ar J I cx=>?_⟩
have wb:=q0Q (yQ ns 4 / 3) 5 (by decide)
have dr:=wb.1
have c1:=wb.2
generalize yQ ns 4 / 3%5=wv at J dr c1
clear wb
have aw:=ay.trans sW
refine⟨_,rfl,_,rfl,_,rfl,wa,wl,N,wv,rfl,J,I,dr,c1,cx,λO rl H8 az s8 a0 dg=>?_⟩
have ap:=aw.trans s8
have dw:=hc.same ((s7.trans sW).trans s8)
have bg:=s8 _ _ (sW _ _ bx)
have dy:TbF t H8:=⟨#[],ap _ _ hT,.inl rfl,#[],ap _ _ a5,.inl rfl⟩
refine λsA sd nA dd nn=>?_
have sM:Same H8 (upd (upd H8 sd (.own sA)) sA (.ins t.C_Even sd [])):=q1Z nA dd
refine⟨sA,sd,tm,td,ch,ca,_,_,_,_,_,_,c+1+i,P1,rfl,qI,sM _ _ bg,dw.same sM,rfl,rfl,by lia,dy.same sM,λkb pp H9 bj dl c2 fk off up=>⟨rfl,?_⟩⟩
have an:Same H8 H9:=λb o e=>up b o (qG e nA) (sM b o e)
have b3:=ap.trans an
obtain⟨_,_,_,cm⟩:=az.ins
have ab:H8 pp=none:=Same.free sM c2
obtain⟨kt,ah⟩:∃kt:Tm,kt=⟨i,w,true⟩:=⟨_,rfl⟩
obtain⟨b1,da⟩:=qIU (k:=kt) (B:=c+1+i) (P:=P1) (by lia) dj (by lia) (by rw[ah];show 1+i< _;lia) (by rw[ah];exact w1)
obtain⟨X,eX⟩:∃X:Sto,X=⟨sA,sd,tm,td,ch,ca,kb,.ref O,.ref pp⟩:=⟨_,rfl⟩
have bl:∀y∈rl,∃o,H8 y=some o:=λy hy=>by
 by_cases z:wv=3
 .have br:=az;unfold ruW at br;rw[kL z]at br;obtain⟨dx,l,rfl,f,_⟩:=br;rw[kD.mp hy];exact⟨_,f.row⟩
 rw[dg z]at hy;cases hy
have bn:∀u∈O::rl,∃o,H8 u=some o:=λu hu=>by
 rcases kN.mp hu with e|hu
 .rw[e];exact⟨_,cm⟩
 exact bl u hu
have of:Off t X (O::rl):=by rw[eX];exact qLY (hc.same (s7.trans sW)) (sW _ _ bx) (aw _ _ hT) (aw _ _ a5) a0 bn nA sM fk
rw[<-eX]at bj off
have bq:XX t H9 X kt 64 (sh:Int) O rl pp ⟨newX (c+1+i) P1,ruW wv N,[]⟩:=qLX (by rw[ah];exact bj) (by rw[eX]) (az.keep (Keep.same an) (F:=[]) (by simp)) of (by rw[eX]) dl off (λz=>by obtain⟨o,e⟩:=bn pp z;rw[ab]at e;cases e) (by lia) (by lia) dj (by lia) b1.w
have ct:∀b∈fx t X O pp,H b=none\/∃ps,H b=some (.tbl ps):=by
 intro b D;rw[eX]at D;have D:b=pp\/b=O\/b=t.fX\/b=t.fW\/b∈foot ch ca\/b∈bf kb:=by simpa[sf]using D
 rcases D with D|D|D|D|D|D
 .exact .inl (by rw[D];exact ap.free ab)
 .exact .inl (by rw[D];exact aw.free (a0 O kX))
 .exact .inr ⟨_,by rw[D];exact a5⟩
 .exact .inr ⟨_,by rw[D];exact hT⟩
 .exact .inl (Same.free s1 (fC b (kB _ D)))
 exact .inl (Same.free ap (Same.free sM (fk b D)))
have ek:wl∉fx t X O pp:=λD=>by
 rw[eX]at D;have D:wl=pp\/wl=O\/wl=t.fX\/wl=t.fW\/wl∈foot ch ca\/wl∈bf kb:=by simpa[sf]using D
 rcases D with D|D|D|D|D|D
 .rw[<-D,s8 _ _ I]at ab;cases ab
 .have:=a0 O kX;rw[<-D,I]at this;cases this
 .rw[D,ay _ _ a5]at ar;cases ar
 .rw[D,ay _ _ hT]at ar;cases ar
 .obtain⟨o,e,_⟩:=(hc.same s7).has (kB ca.li D);rw[ar]at e;cases e
 have:=fk wl D;rw[sM _ _ (s8 _ _ I)]at this;cases this
refine⟨_,rfl,_,rfl,a,ns,sh,rfl,b3.seq hS,dc,λms et cr nl HN nN sN hN=>?_⟩
have bm:=b3.trans sN
have a3:=bq.same sN
refine λkd U=>?_
have sK:Same HN (upd HN kd (.dK [])):=Same.upd U
have b0:(upd HN kd (.dK [])) kd=some (.dK []):=qI
generalize upd HN kd (.dK [])=HA at sK b0 ⊢
have db:kd∉X.a.li::fx t X O pp:=λz=>by
 rcases kN.mp z with z|z
 .obtain⟨m,e2,_⟩:=a3.chip;obtain⟨o,e,_⟩:=e2.has (show X.a.li∈X.a.li::foot X.c X.a by simp);rw[<-z,U]at e;cases e
 obtain⟨o,e⟩:=a3.inF kd z;rw[U]at e;cases e
have ey:kd∉rl:=λz=>by obtain⟨o,e⟩:=bl kd z;rw[sN _ _ (an _ _ e)]at U;cases U
have a6:nl∉kd::fx t X O pp:=λz=>by
 rcases kN.mp z with z|z
 .rw[<-z,hN]at U;cases U
 obtain⟨o,e⟩:=bq.inF nl z;rw[nN]at e;cases e
have ax:wl∉kd::fx t X O pp:=λz=>by
 rcases kN.mp z with z|z
 .rw[<-z,sN _ _ (an _ _ (s8 _ _ I))]at U;cases U
 exact ek z
have di:KX t HA X kt 64 sh O rl pp ⟨newX (c+1+i) P1,ruW wv N,[]⟩ kd [] 0:=by
 refine⟨a3.same sK,⟨b1,Wt.of da,qLZ,e9,λy hy=>absurd hy (by simp),λn _=>?_,λy hy=>absurd hy (by simp),m9 _,?_,by lia,by lia⟩,b0,db,ey,m9 _,m9 _⟩
 .show(∃p,(n,p)∈([]:Mp))↔_;simp
 show sh+2<=(c+1+i-(1+kt.ie))*P1;rw[ah];show sh+2<=(c+1+i-(1+i))*P1;rw[show c+1+i-(1+i)=c by lia];exact el
have ba:∀b∈kd::fx t X O pp,H b=none\/∃ps,H b=some (.tbl ps):=λb D=>by
 rcases kN.mp D with e|D
 .exact .inl (by rw[e];exact Same.free bm U)
 exact ct b D
have fm:RE H HA:=λb o _ e=>(bm.trans sK) b o e
have dp:=sK _ _ hN
have bw:Same HW HA:=((s8.trans an).trans sN).trans sK
have dn:=bw _ _ J
have cu:=bw _ _ I
have ev:kt.ev=true:=by rw[ah]
have fh:kt.sp=w:=by rw[ah]
have cn:(newX (c+1+i) P1).q.P=P1:=rfl
have c0:FoR ⟨newX (c+1+i) P1,ruW wv N,[]⟩:=λc3 u e=>by
 have e:ruW wv N=.fol c3 u:=e;unfold ruW at e;split at e
 .cases e;exact(Nat.zero_min _).symm
 cases e
have dv:Iv wv N ⟨newX (c+1+i) P1,ruW wv N,[]⟩:=⟨qJF,c0,qM0⟩
rw[show sA=X.s by rw[eX],show ch=X.c by rw[eX]]
clear bq a3 bj off dl c2 fk up sM dy bg dw ap ay s8 s7 bx sC fC hc s1 h1 dd nn nA a0 an b3 bm ab of cm az eX U b0 sK sN nN ct db ah hN sW aw J I em ar bw bn bl
generalize newX (c+1+i) P1=x0 at di b1 da dv cn
clear c0
refine⟨_,rfl,nl,rfl,⟨_,SqL.of dp⟩,?_⟩
refine q3U (K:=K) (xs:=ms.map V.int) (λu be H'=>∃a1 Y KD n,be=[some (.ref a),some (.int ((c+1+i:Nat):Int)),some (.int (P1:Int)),some (.int (sh:Int)),some (.int (i:Int)),some (.int w),some (.ref X.c),some (.ref tm),some (.ref wa),some (.ref X.s),some (.ref nl),some (.ref kd),a1,none,none,none]/\n<=u/\KX t H' X kt 64 sh O rl pp Y kd KD n/\Iv wv N Y/\Y.s.q.P=P1/\(∀m∈KD.map (·.1),m∈ms)/\KD.length<=u/\H' nl=some (.lst (ms.map V.int))/\H' wa=some (.tup [.int wv,.ref wl])/\H' wl=some (.lst (N.map V.int))/\RE H H') ⟨_,_,[],0,rfl,kO _,di,dv,cn,by simp,kO _,dp,dn,cu,fm⟩ (λu be H' hi hp=>by obtain⟨_,_,_,_,_,_,_,_,_,_,_,hN,_⟩:=hp;exact SqL.of hN) (λu v be H2 D' au hv hp=>?_) (λbe H2 hp=>?_)
.obtain⟨a1,Y,KD,n,rfl,nu,h,iv,eP,ac,ld,hN,J,I,rt⟩:=hp;rw[mF]at hv;obtain⟨y,hy,rfl⟩:=mK.mp hv;have fc:=(kC.mp hy).1;have ym:=gL hy;obtain⟨y0,y1⟩:=cr y ym;have ef:=h.rcn;have fl:=h.psn;have y2:y∈KD.map (·.1)\/KD.length<sh:=.inr (by lia);have dk:=q57 h.d.x;have hc:=h.d.can y0 y1 y2;have ff:¬(hold Y.s.q y=false/\(sh:Int)<=((hdN Y.s.q.V).length:Int)):=λq=>by obtain⟨f1,f2⟩:=q;have pl:=h.d.pm.length_eq;rw[hU]at pl;have f2:(sh:Int)<=((((Y.s.q.V.map (·.1)).filter λn=>decide (n≠64)).length:Nat):Int):=f2;lia
 rcases qA3 (n:=y) (v:=1) h.d.x h.d.wt h.d.ok dk y0 (by lia) hc with⟨Z,qs,p,hZ,ao⟩|⟨Z,qs,hZ,ad⟩
 .refine(iV rfl (iM h.h.j.o rfl ⟨_,rfl,X,kt,64,_,O,rl,pp,Y,y,1,17,_,rfl,h.h,ev,by lia,by lia,by decide,inBi y0 (by lia),inBi (by decide) (by decide),ff,hc.imp id λw=>w.1,hZ,λH3 h3 k3=>?_⟩));have de:=k3.k _ _ h.nkF h.hk;have gw:KD.length<=57:=kQ h.d.ls h.d.s57;refine⟨_,rfl,_,rfl,kd,_,rfl,.inl ⟨_,Sum.inl y,de,rfl,by rw[qCU];lia,rfl⟩,?_⟩;rw[qDZ (p:=1)];have:=ao.rl;have:=ao.ln;have g:=h.set h3 k3 (h.d.wrote y0 y1 y2 ao) (n':=n+1) (by lia) (by rw[ao.ps,kU];lia);have kG:Keep (kd::fx t X O pp) H2 (upd H3 kd (.dK (dB (putW KD y 1)))):=(k3.mono (λy hy=>kB _ hy)).trans (Keep.upd de (λU z=>by cases z) (by simp));refine au _ _ ⟨_,Z,_,n+1,rfl,by lia,g,⟨q2Q.ask h.d.x.w h.d.ok y0 (by lia) hZ iv.pj,iv.fo.ask h.d.x.w h.d.ok hZ,iv.gs.ask h.d.x.w h.d.ok hZ⟩,ao.eP.trans eP,λm hm=>?_,?_,kG.k _ _ a6 hN,kG.tp _ _ J,kG.k _ _ ax I,rt.keep kG ba⟩
  .obtain⟨q,hq,e⟩:=kP.mp hm;rw[q1E h.d.nd,jC]at hq;rcases hq with rfl|hq
   .rw[<-e];exact ym
   exact ac m (kP.mpr ⟨q,hq.1,e⟩)
  unfold putW;split
  .rw[hU];lia
  rw[kU];exact rV ld 1
 have:=(q2Q.ask h.d.x.w h.d.ok y0 (by lia) hZ iv.pj).pk.lf;rw[ad.lf]at this;cases this
obtain⟨a1,Y0,fp,e3,rfl,e5,h0,cs,co,c5,g2,e6,dt,cv,cw⟩:=hp
rw[hU,et]at e5
have fv:=cw.sq hS
refine⟨_,rfl,a,_,rfl,.inl fv,_,_,rfl,?_⟩
obtain⟨hi,eh,gh,gp⟩:∃h:Nat,(if(36:Int)<((ns.map V.int).length:Nat)then(36:Int)else((ns.map V.int).length:Nat))=(h:Int)/\h<=36/\h<=ns.length:=by
 rw[hU];by_cases z:(36:Int)<(ns.length:Nat)
 .exact⟨36,kL z,by lia,by lia⟩
 exact⟨ns.length,kE z,by lia,by lia⟩
rw[eh]
refine⟨_,_,rfl,⟨by decide,by decide,by lia,by lia⟩,?_⟩
refine q05 (λu be H'=>∃bu b2 bo Y KD n,be=[some (.ref a),some (.int ((c+1+i:Nat):Int)),some (.int (P1:Int)),some (.int (sh:Int)),some (.int (i:Int)),some (.int w),some (.ref X.c),some (.ref tm),some (.ref wa),some (.ref X.s),some (.ref nl),some (.ref kd),a1,bu,b2,bo]/\n<=14+u/\KX t H' X kt 64 sh O rl pp Y kd KD n/\Iv wv N Y/\Y.s.q.P=P1/\(∀m∈KD.map (·.1),m∈ms)/\H' nl=some (.lst (ms.map V.int))/\H' wa=some (.tup [.int wv,.ref wl])/\H' wl=some (.lst (N.map V.int))/\RE H H') ⟨_,_,_,Y0,fp,e3,rfl,by lia,h0,cs,co,c5,e6,dt,cv,cw⟩ (λu be H3 D' au fc hp=>?_) (λbe H3 hp=>?_)
.obtain⟨bu,b2,bo,Y,KD,n,rfl,nu,h,iv,eP,ac,hN,J,I,rt⟩:=hp;have er:6+u<ns.length:=by lia
 have ha:u<45:=by lia
 have du:atI (ns.map V.int) (6+(u:Int))=some (.int ns[6+u]):=by refine(show atI (ns.map V.int) ((6+u:Nat):Int)=_ from yH ?_);rw[mF,kF er];rfl
 generalize ns[6+u]=z at du;have eo:=rt.sq hS;refine⟨_,rfl,_,rfl,a,_,_,.int z,rfl,rfl,eo,du,?_⟩;have ef:=h.rcn;have fl:=h.psn;have ls:=h.d.ls;refine⟨_,rfl,_,rfl,iI (iI ⟨.inr ⟨by decide,by decide⟩,iI ⟨(by show(0:Int)<1000003;decide),_,rfl,nl,ms,_,rfl,hN,by lia,by lia,λy ym=>?_⟩⟩)⟩;obtain⟨y0,y1⟩:=cr y ym;have y2:y∈KD.map (·.1)\/KD.length<sh:=by
  by_cases zz:y∈KD.map (·.1)
  .exact .inl zz
  have:=qHM (l:=y::KD.map (·.1)) (m:=ms) (gD.mpr ⟨zz,h.d.nd⟩) (λx hx=>by
   rcases kN.mp hx with e|hx
   .rw[e];exact ym
   exact ac x hx)
  rw[mP,hU]at this;exact .inr (by lia)
 refine⟨_,rfl,iI ⟨(by show(0:Int)<8;decide),rfl,_,rfl,ite2 (λ_=>?_) (λ_=>?_)⟩⟩
 .refine(iV rfl (iM h.h.j.o rfl ⟨_,rfl,sz1,λl0 H5 n5 s5 h5=>?_⟩));have a9:=h.same s5;refine⟨X,kt,_,_,O,rl,pp,Y,l0,[y],rfl,a9.h,ev,h5,λm hm=>by rw[kD.mp hm];exact inBi y0 (by lia),λe0 H6 s6=>?_,λe0=>?_⟩
  .have e1:y∉KD.map (·.1):=λq=>q5F.2.mp e0 (h.d.hl.mpr q);have h6:=a9.same s6;have a8:=s5.trans s6;refine⟨_,rfl,kd,rfl,.inl ⟨_,.inl h6.hk⟩,_,rfl,_,Sum.inl y,h6.hk,rfl,λv dh=>?_,λ_=>?_⟩
   .have:=q58 (KD:=KD) (n:=y);rw[dh,hX e1]at this;cases this
   exact au _ _ ⟨_,_,_,Y,KD,n,rfl,by lia,h6,iv,eP,ac,a8 _ _ hN,a8 _ _ J,a8 _ _ I,rt.same a8⟩
  have e1:y∈KD.map (·.1):=rN λq=>e0 (q5F.2.mpr λv=>q (h.d.hl.mp v));have av:=h.d.can64 (λq=>by rw[q]at e1;cases e1);rcases qA3 (n:=64) (v:=XS.bits (rst Y.s.hl (gvn Y.s.hl [y]))) h.d.x h.d.wt h.d.ok (q57 h.d.x) (by decide) (by decide) av with⟨Z,qs,q,hZ,aO⟩|⟨Z,qs,hZ,aD⟩
  .refine⟨17,_,by lia,by lia,av.imp id λq=>q.1,hZ,λH6 h6 k6=>?_⟩;have as:=k6.k _ _ h.nkF a9.hk;refine⟨_,rfl,kd,rfl,.inl ⟨_,.inl as⟩,_,rfl,_,Sum.inl y,as,rfl,λv dh=>?_,λhn=>?_⟩
   .rw[qH7];have yl:y∈Y.s.hl:=h.d.hl.mpr e1;have eD:(KD.filter λq=>!decide (q.1∈gvn Y.s.hl [y]))=jO KD y:=by
     unfold jO;refine r6 λq _=>?_;by_cases e:q.1=y
     .rw[hG ((q5F.1 q.1).mpr ⟨e,yl⟩),hX (λw=>w e)];rfl
     rw[hX (λw=>e ((q5F.1 q.1).mp w).1),hG e];rfl
    have bt:∀m∈gvn Y.s.hl [y],m≠64:=λm hm=>by rw[((q5F.1 m).mp hm).1];lia
    have d':=h.d.gave aO (g:=gvn Y.s.hl [y]) bt;rw[eD]at d';obtain⟨_,f2,f3,_,_,f6,f7,_⟩:=q04 aO.x (gvn Y.s.hl [y]);have:=aO.rl;have:=aO.ln;have:=q57 h.d.x;have ej:(Z.s.forgs (gvn Y.s.hl [y])).rc.length<=300*(n+1):=by rw[f3];lia
    have eg:(⟨Z.s.forgs (gvn Y.s.hl [y]),Z.g,Z.ps⟩:Sx).ps.length<=20*(n+1):=by show Z.ps.length<=_;rw[aO.ps,kU];lia
    have g:=a9.set h6 k6 d' (n':=n+1) ej eg;have kG:Keep (kd::fx t X O pp) H3 (upd H6 kd (.dK (dB (jO KD y)))):=((Keep.same s5).trans (k6.mono (λy hy=>kB _ hy))).trans (Keep.upd as (λU z=>by cases z) (by simp));have fb:=q2Q.ask h.d.x.w h.d.ok (by decide) (by decide) hZ iv.pj;have e4:=iv.fo.ask h.d.x.w h.d.ok hZ;have ez:=iv.gs.ask h.d.x.w h.d.ok hZ;refine au _ _ ⟨_,_,_,_,_,n+1,rfl,by lia,g,⟨fb.forgs aO.x bt (qIY (by decide) (by decide) hZ) (λq=>bt _ q rfl),λr' u' e'=>e4 r' u' e',ez⟩,f7.trans (aO.eP.trans eP),λm hm=>?_,kG.k _ _ a6 hN,kG.tp _ _ J,kG.k _ _ ax I,rt.keep kG ba⟩;obtain⟨q',aq,e'⟩:=kP.mp hm;exact ac m (kP.mpr ⟨q',(jC.mp aq).1,e'⟩)
   have:=q58 (KD:=KD) (n:=y);rw[hn,hG e1]at this;cases this
  have:=(q2Q.ask h.d.x.w h.d.ok (by decide) (by decide) hZ iv.pj).pk.lf;rw[aD.lf]at this;cases this
 refine⟨_,rfl,iI ⟨(by show(0:Int)<8;decide),iI ⟨_,rfl,ite2 (λ_=>?_) (λ_=>?_)⟩⟩⟩
 .refine⟨_,rfl,_,rfl,_,rfl,_,rfl,_,rfl,_,rfl,X,kt,_,sh,O,rl,pp,Y,kd,KD,wa,wl,N,n,wv,by rw[eP,fh];rfl,h,ev,iv.pj,iv.fo,iv.gs,h.h.rlE iv.gs dg,J,I,(λq=>ax (kB _ q)),by lia,λY' H5 h5 k5 e7 eq fj gq en=>⟨_,rfl,iteF (au _ _ ⟨_,_,_,Y',KD,n+1,rfl,by lia,h5,⟨e7,eq,fj⟩,en.trans eP,ac,?_,k5.tp _ _ J,?_,?_⟩)⟩⟩
  .exact k5.k _ _ (λq=>a6 (kB _ q)) hN
  .exact k5.k _ _ (λq=>ax (kB _ q)) I
  exact rt.keep (k5.mono λb D=>kB _ D) ba
 have mv:=q0Q (z*48271+(6+(u:Int))) (10 ^ (30:Int).toNat) (by decide);have av:=h.d.can y0 y1 y2;have ff:¬(hold Y.s.q y=false/\(sh:Int)<=((hdN Y.s.q.V).length:Int)):=λq=>by
  obtain⟨f1,f2⟩:=q;rw[h.hold]at f1;have f1:=gZ f1;have pl:=h.d.pm.length_eq;rw[hU]at pl;have f2:(sh:Int)<=((((Y.s.q.V.map (·.1)).filter λn=>decide (n≠64)).length:Nat):Int):=f2;rcases y2 with w|w
  .exact f1 w
  lia
 rcases qA3 (n:=y) (v:=(z*48271+(6+(u:Int)))%10 ^ (30:Int).toNat) h.d.x h.d.wt h.d.ok (q57 h.d.x) y0 (by lia) av with⟨Z,qs,q,hZ,aO⟩|⟨Z,qs,hZ,aD⟩
 .refine(iV rfl (iM h.h.j.o rfl ⟨_,rfl,_,rfl,iI ⟨.inr ⟨by decide,by decide⟩,_,rfl,iI (iI ⟨⟨by decide,by decide,by decide⟩,iI ⟨(by show(0:Int)<10 ^ (30:Int).toNat;decide),?_⟩⟩)⟩⟩));refine⟨X,kt,_,_,O,rl,pp,Y,y,_,17,_,rfl,h.h,ev,by lia,by lia,by lia,inBi y0 (by lia),inBi mv.1 (by have:_ <(10:Int) ^ 30:=mv.2;lia),ff,av.imp id λq=>q.1,hZ,λH6 h6 k6=>?_⟩;have as:=k6.k _ _ h.nkF h.hk;refine⟨_,rfl,_,rfl,kd,_,rfl,.inl ⟨_,Sum.inl y,as,rfl,by rw[qCU];lia,rfl⟩,?_⟩;rw[qDZ (p:=(z*48271+(6+(u:Int)))%10 ^ (30:Int).toNat)];have:=aO.rl;have:=aO.ln;have:=q57 h.d.x;have g:=h.set h6 k6 (h.d.wrote y0 y1 y2 aO) (n':=n+1) (by lia) (by rw[aO.ps,kU];lia);have kG:Keep (kd::fx t X O pp) H3 (upd H6 kd (.dK (dB (putW KD y ((z*48271+(6+(u:Int)))%10 ^ (30:Int).toNat))))):=(k6.mono (λy hy=>kB _ hy)).trans (Keep.upd as (λU z=>by cases z) (by simp));refine au _ _ ⟨_,_,_,_,_,n+1,rfl,by lia,g,⟨q2Q.ask h.d.x.w h.d.ok y0 (by lia) hZ iv.pj,iv.fo.ask h.d.x.w h.d.ok hZ,iv.gs.ask h.d.x.w h.d.ok hZ⟩,aO.eP.trans eP,λm hm=>?_,kG.k _ _ a6 hN,kG.tp _ _ J,kG.k _ _ ax I,rt.keep kG ba⟩;obtain⟨q',aq,e'⟩:=kP.mp hm;rw[q1E h.d.nd,jC]at aq;rcases aq with rfl|aq
  .rw[<-e'];exact ym
  exact ac m (kP.mpr ⟨q',aq.1,e'⟩)
 have:=(q2Q.ask h.d.x.w h.d.ok y0 (by lia) hZ iv.pj).pk.lf;rw[aD.lf]at this;cases this
obtain⟨bu,b2,bo,Y,KD,n,rfl,nu,h,iv,eP,ac,hN,J,I,rt⟩:=hp
exact k _)
theorem qM2{P:Program}{w:World}{K:W.Frag}{mg:Str->Option Value}{t:Adr}(T:Txt K mg t)(S:Fns K t)(B:BmIn base mg):S.law.Ok0 P w mg base 18 (q5O K [t.fW,t.fX]):=nZ λn=>by
 have hs:hkB hkE:=by unfold hkE;exact xE ⟨⟨P,w,K,mg,t⟩,S,base,T,B,n⟩
 obtain⟨S',b',T',B1,n'⟩:=hs;exact n' (qM1 T' S' B1)
end
theorem qM3{l:W.OpenLaw}{w:World}{K:W.Frag}{mg:Str->Option Value}(X:K.In h)(G:h.Ns mainGlobals mg)(hfa:mg "law"=some (.ref fa))
               
 (z153:W.nsIn K mainGlobals "Book"=some (some (.ref z92)))
 (z154:Cls K z92)
 (z155:qV K z92 "blocks")
 (z156:qV K z92 "pages")
 (z157:qV K z92 "stamp")
 (z158:qV K z92 "where")
 (z159:qV K z92 "live")
 (z160:qV K z92 "filled")
 (z161:qV K z92 "born")
 (z162:Meth K z92 "mark" z11)
 (z163:Meth K z92 "note" z12)
 (z164:Meth K z92 "forget" z13)
 (z165:Meth K z92 "emptied" z14)
 (z166:Meth K z92 "live_pages" z15)
 (z167:Meth K z92 "held" z16)
 (z168:Mk K z92 z10)
 (z169:W.nsIn K mainGlobals "Plain"=some (some (.ref z93)))
 (z170:W.nsIn K mainGlobals "Even"=some (some (.ref z94)))
 (z171:Cls K z94)
 (z172:qV K z94 "chip")
 (z173:qV K z94 "terms")
 (z174:qV K z94 "book")
 (z175:qV K z94 "rule")
 (z176:qV K z94 "papers")
 (z177:Meth K z94 "least" z45)
 (z178:Meth K z94 "clearable" z46)
 (z179:Meth K z94 "options" z47)
 (z180:Meth K z94 "choice" z48)
 (z181:Meth K z94 "block_to_change" z49)
 (z182:Meth K z94 "reserve" z32)
 (z183:Meth K z94 "tally" z33)
 (z184:Meth K z94 "space" z34)
 (z185:Meth K z94 "full_ones" z35)
 (z186:Meth K z94 "with_dead_page" z36)
 (z187:Meth K z94 "choice_by_rule" z37)
 (z188:Meth K z94 "moved" z38)
 (z189:Meth K z94 "value_to_move" z39)
 (z190:Meth K z94 "wiped" z40)
 (z191:Meth K z94 "clear_out" z41)
 (z192:Meth K z94 "make_room" z42)
 (z193:Meth K z94 "make_ready" z43)
 (z194:Meth K z94 "make_rooms" z44)
 (z195:Meth K z94 "good" z18)
 (z196:Meth K z94 "free" z19)
 (z197:Meth K z94 "part" z20)
 (z198:Meth K z94 "spot" z21)
 (z199:Meth K z94 "ready" z22)
 (z200:Meth K z94 "set_down" z23)
 (z201:Meth K z94 "lay" z24)
 (z202:Meth K z94 "write" z25)
 (z203:Meth K z94 "give_up" z26)
 (z204:Meth K z94 "held" z27)
 (z205:Meth K z94 "check_sheet" z28)
 (z206:Meth K z94 "check_share" z29)
 (z207:Mk K z94 z31)
 (z208:W.nsIn K mainGlobals "Chip"=some (some (.ref z95)))
 (z209:Cls K z95)
 (z210:qV K z95 "blocks")
 (z211:qV K z95 "pages")
 (z212:qV K z95 "most")
 (z213:qV K z95 "limits")
 (z214:qV K z95 "borne")
 (z215:qV K z95 "clearings")
 (z216:qV K z95 "deed_counts")
 (z217:qV K z95 "broken")
 (z218:qV K z95 "deeds_left")
 (z219:qV K z95 "record")
 (z220:Meth K z95 "put" z52)
 (z221:Meth K z95 "wipe" z53)
 (z222:Meth K z95 "read" z54)
 (z223:Meth K z95 "is_dark" z55)
 (z224:Meth K z95 "cleared" z56)
 (z225:Meth K z95 "failed" z57)
 (z226:Meth K z95 "deeds" z58)
 (z227:Meth K z95 "check_page" z59)
 (z228:Meth K z95 "check_block" z60)
 (z229:Meth K z95 "check_power" z61)
 (z230:Meth K z95 "check_deed" z62)
 (z231:Meth K z95 "is_spent" z63)
 (z232:Meth K z95 "do_deed" z64)
 (z233:Mk K z95 z51)
 (z234:W.nsIn K mainGlobals "Rule"=some (some (.ref z96)))
 (z235:Cls K z96)
 (z236:Meth K z96 "goes_ahead" z67)
 (z237:Meth K z96 "choose" z68)
 (z238:W.makesIn K z96=true)
 (z239:W.findIn K (.ref z96) "__init__"=some (some (.builtin "object.__init__")))
 (z240:W.keepIn K (.ref z96)=true)
 (z241:W.nsIn K mainGlobals "Fewest"=some (some (.ref z97)))
 (z242:Cls K z97)
 (z243:Meth K z97 "goes_ahead" z69)
 (z244:Meth K z97 "choose" z68)
 (z245:W.makesIn K z97=true)
 (z246:W.findIn K (.ref z97) "__init__"=some (some (.builtin "object.__init__")))
 (z247:W.keepIn K (.ref z97)=true)
 (z248:W.nsIn K mainGlobals "Eldest"=some (some (.ref z98)))
 (z249:Cls K z98)
 (z250:Meth K z98 "goes_ahead" z70)
 (z251:Meth K z98 "choose" z68)
 (z252:W.makesIn K z98=true)
 (z253:W.findIn K (.ref z98) "__init__"=some (some (.builtin "object.__init__")))
 (z254:W.keepIn K (.ref z98)=true)
 (z255:W.nsIn K mainGlobals "Worth"=some (some (.ref z99)))
 (z256:Cls K z99)
 (z257:Meth K z99 "goes_ahead" z71)
 (z258:Meth K z99 "choose" z68)
 (z259:W.makesIn K z99=true)
 (z260:W.findIn K (.ref z99) "__init__"=some (some (.builtin "object.__init__")))
 (z261:W.keepIn K (.ref z99)=true)
 (z262:W.nsIn K mainGlobals "Follow"=some (some (.ref z100)))
 (z263:Cls K z100)
 (z264:qV K z100 "row")
 (z265:qV K z100 "used")
 (z266:Meth K z100 "choose" z73)
 (z267:Mk K z100 z72)
 (z268:W.nsIn K mainGlobals "Terms"=some (some (.ref z101)))
 (z269:Cls K z101)
 (z270:qV K z101 "blocks")
 (z271:qV K z101 "pages")
 (z272:qV K z101 "sheets")
 (z273:qV K z101 "share")
 (z274:qV K z101 "ill")
 (z275:qV K z101 "spread")
 (z276:Meth K z101 "closed" z75)
 (z277:Mk K z101 z74)
 (z278:W.nsIn K mainGlobals "NoRoom"=some (some (.ref z102)))
 (z279:W.excIn K z102 bmVE "ValueError.__new__"=true)
 (z280:ClM K z93 "__init__" z17)
 (z281:W.exmOne K (.ref z102) (.ref z102)=some true)
 (z282:W.codeHdIn K z0 z1=true)
 (z283:W.codeHdIn K z2 z3=true)
 (z284:z1≠z3)
 (z285:GFn K "is_whole" z4)
 (z286:GFn K "is_within" z5)
 (z287:GFn K "is_shape" z6)
 (z288:GFn K "is_value" z7)
 (z289:GFn K "mark_of" z8)
 (z290:GFn K "bits_of" z9)
 (z291:GFn K "paper_of" z30)
 (z292:GFn K "limits_of" z50)
 (z293:GFn K "is_unbeaten" z65)
 (z294:GFn K "first_unbeaten" z66)
 (z295:GFn K "_law_cell_at" z76)
 (z296:GFn K "_law_whole" z77)
 (z297:GFn K "_law_shape" z78)
 (z298:GFn K "_law_names" z79)
 (z299:GFn K "_law_pick" z80)
 (z300:GFn K "_law_moves" z81)
 (z301:GFn K "_law_spots" z82)
 (z302:GFn K "_law_behind" z83)
 (z303:GFn K "_law_worth" z84)
 (z304:GFn K "_law_due" z85)
 (z305:GFn K "_law_fits" z86)
 (z306:GFn K "_law_ruled" z87)
 (z307:GFn K "_law_made" z88)
 (z308:GFn K "_law_way" z89)
 (z309:GFn K "_law_rule" z90)
 (z310:W.nsIn K mainGlobals "MOST_TOLD"=some (some (.int 1000000 tN)))
 (z311:W.nsIn K mainGlobals "ROLL"=some (some (.int 64 aDO)))
 (z312:W.nsIn K mainGlobals "NAMES"=some (some (.int 128 aCE)))
 (z313:W.nsIn K mainGlobals "bool"=some none)
 (z314:W.nsIn K mainGlobals "int"=some none)
 (z315:W.nsIn K mainGlobals "isinstance"=some none)
 (z316:W.nsIn K mainGlobals "len"=some none)
 (z317:W.nsIn K mainGlobals "list"=some none)
 (z318:W.nsIn K mainGlobals "max"=some none)
 (z319:W.nsIn K mainGlobals "min"=some none)
 (z320:W.nsIn K mainGlobals "range"=some none)
 (z321:W.nsIn K mainGlobals "sorted"=some none)
 (z322:W.nsIn K mainGlobals "sum"=some none)
 (z323:W.nsIn K mainGlobals "tuple"=some none)
 (z324:W.nsIn K mainGlobals "zip"=some none)
 (z325:FnX K "is_whole" "is_whole" (top 15) z4)
 (z326:FnX K "is_within" "is_within" (top 16) z5)
 (z327:FnX K "is_shape" "is_shape" (top 17) z6)
 (z328:FnX K "is_value" "is_value" (top 18) z7)
 (z329:FnX K "mark_of" "mark_of" (top 22) z8)
 (z330:FnX K "bits_of" "bits_of" (top 23) z9)
 (z331:FnX K "__init__" "Book.__init__" (qR (top 25) 0) z10)
 (z332:FnX K "mark" "Book.mark" (qR (top 25) 1) z11)
 (z333:FnX K "note" "Book.note" (qR (top 25) 2) z12)
 (z334:FnX K "forget" "Book.forget" (qR (top 25) 3) z13)
 (z335:FnX K "emptied" "Book.emptied" (qR (top 25) 4) z14)
 (z336:FnX K "live_pages" "Book.live_pages" (qR (top 25) 6) z15)
 (z337:FnX K "held" "Book.held" (qR (top 25) 7) z16)
 (z338:FnX K "__init__" "Plain.__init__" (qR (top 27) 0) z17)
 (z339:FnX K "good" "Plain.good" (qR (top 27) 1) z18)
 (z340:K.lookup z19=some ⟨z108,z105,.func (W.fnOf "free" "Plain.free" (yU yD) (jY yD) (qH yD) .none z109 z110 z111 z106 (.ref z0) z113),z107⟩)
 (z341:W.codeIn K (.ref z0) "Plain.free"=true)
 (z342:FnX K "part" "Plain.part" (qR (top 27) 3) z20)
 (z343:FnX K "spot" "Plain.spot" (qR (top 27) 4) z21)
 (z344:FnX K "ready" "Plain.ready" (qR (top 27) 6) z22)
 (z345:FnX K "set_down" "Plain.set_down" (qR (top 27) 8) z23)
 (z346:FnX K "lay" "Plain.lay" (qR (top 27) 9) z24)
 (z347:FnX K "write" "Plain.write" (qR (top 27) 10) z25)
 (z348:FnX K "give_up" "Plain.give_up" (qR (top 27) 11) z26)
 (z349:FnX K "held" "Plain.held" (qR (top 27) 13) z27)
 (z350:FnX K "check_sheet" "Plain.check_sheet" (qR (top 27) 14) z28)
 (z351:FnX K "check_share" "Plain.check_share" (qR (top 27) 15) z29)
 (z352:FnX K "paper_of" "paper_of" (top 29) z30)
 (z353:FnX K "__init__" "Store.__init__" (qR (top 30) 0) z31)
 (z354:FnX K "reserve" "Store.reserve" (qR (top 30) 2) z32)
 (z355:FnX K "tally" "Store.tally" (qR (top 30) 3) z33)
 (z356:FnX K "space" "Store.space" (qR (top 30) 4) z34)
 (z357:FnX K "full_ones" "Store.full_ones" (qR (top 30) 5) z35)
 (z358:FnX K "with_dead_page" "Store.with_dead_page" (qR (top 30) 6) z36)
 (z359:FnX K "choice_by_rule" "Store.choice_by_rule" (qR (top 30) 9) z37)
 (z360:FnX K "moved" "Store.moved" (qR (top 30) 10) z38)
 (z361:FnX K "value_to_move" "Store.value_to_move" (qR (top 30) 11) z39)
 (z362:FnX K "wiped" "Store.wiped" (qR (top 30) 12) z40)
 (z363:FnX K "clear_out" "Store.clear_out" (qR (top 30) 13) z41)
 (z364:FnX K "make_room" "Store.make_room" (qR (top 30) 14) z42)
 (z365:FnX K "make_ready" "Store.make_ready" (qR (top 30) 15) z43)
 (z366:FnX K "make_rooms" "Store.make_rooms" (qR (top 30) 16) z44)
 (z367:FnX K "least" "Even.least" (qR (top 32) 0) z45)
 (z368:FnX K "clearable" "Even.clearable" (qR (top 32) 2) z46)
 (z369:FnX K "options" "Even.options" (qR (top 32) 3) z47)
 (z370:FnX K "choice" "Even.choice" (qR (top 32) 4) z48)
 (z371:K.lookup z49=some ⟨z120,z117,.func (W.fnOf "block_to_change" "Even.block_to_change" (yU j9) (jY j9) (qH j9) .none z121 z122 z123 z118 (.ref z2) z125),z119⟩)
 (z372:W.codeIn K (.ref z2) "Even.block_to_change"=true)
 (z373:FnX K "limits_of" "limits_of" (top 34) z50)
 (z374:K.lookup z51=some ⟨z132,z129,.func (W.fnOf "__init__" "Chip.__init__" (yU vF) (jY vF) (qH vF) (.ref z103) z133 z134 z135 z130 z136 z137),z131⟩)
 (z375:W.codeIn K z136 "Chip.__init__"=true)
 (z376:K.lookup z103=some ⟨.type "tuple",z138,.seq #[.int 1000000 e0_Chip_init,.none] z139,z140⟩)
 (z377:FnX K "put" "Chip.put" (qR (top 35) 1) z52)
 (z378:FnX K "wipe" "Chip.wipe" (qR (top 35) 2) z53)
 (z379:FnX K "read" "Chip.read" (qR (top 35) 3) z54)
 (z380:FnX K "is_dark" "Chip.is_dark" (qR (top 35) 6) z55)
 (z381:FnX K "cleared" "Chip.cleared" (qR (top 35) 7) z56)
 (z382:FnX K "failed" "Chip.failed" (qR (top 35) 8) z57)
 (z383:FnX K "deeds" "Chip.deeds" (qR (top 35) 9) z58)
 (z384:FnX K "check_page" "Chip.check_page" (qR (top 35) 10) z59)
 (z385:FnX K "check_block" "Chip.check_block" (qR (top 35) 11) z60)
 (z386:FnX K "check_power" "Chip.check_power" (qR (top 35) 12) z61)
 (z387:FnX K "check_deed" "Chip.check_deed" (qR (top 35) 13) z62)
 (z388:FnX K "is_spent" "Chip.is_spent" (qR (top 35) 14) z63)
 (z389:FnX K "do_deed" "Chip.do_deed" (qR (top 35) 15) z64)
 (z390:FnX K "is_unbeaten" "is_unbeaten" (top 37) z65)
 (z391:FnX K "first_unbeaten" "first_unbeaten" (top 38) z66)
 (z392:FnX K "goes_ahead" "Rule.goes_ahead" (qR (top 39) 0) z67)
 (z393:FnX K "choose" "Rule.choose" (qR (top 39) 1) z68)
 (z394:FnX K "goes_ahead" "Fewest.goes_ahead" (qR (top 40) 0) z69)
 (z395:FnX K "goes_ahead" "Eldest.goes_ahead" (qR (top 41) 0) z70)
 (z396:FnX K "goes_ahead" "Worth.goes_ahead" (qR (top 42) 0) z71)
 (z397:FnX K "__init__" "Follow.__init__" (qR (top 43) 0) z72)
 (z398:FnX K "choose" "Follow.choose" (qR (top 43) 1) z73)
 (z399:K.lookup z74=some ⟨z144,z141,.func (W.fnOf "__init__" "Terms.__init__" (yU uS) (jY uS) (qH uS) (.ref z104) z145 z146 z147 z142 z148 z149),z143⟩)
 (z400:W.codeIn K z148 "Terms.__init__"=true)
 (z401:K.lookup z104=some ⟨.type "tuple",z150,.seq #[.int 0 e0_Terms_init,.int 1000000 e1_Terms_init] z151,z152⟩)
 (z402:FnX K "closed" "Terms.closed" (qR (top 45) 1) z75)
 (z403:FnX K "_law_cell_at" "_law_cell_at" (top 47) z76)
 (z404:FnX K "_law_whole" "_law_whole" (top 48) z77)
 (z405:FnX K "_law_shape" "_law_shape" (top 49) z78)
 (z406:FnX K "_law_names" "_law_names" (top 50) z79)
 (z407:FnX K "_law_pick" "_law_pick" (top 51) z80)
 (z408:FnX K "_law_moves" "_law_moves" (top 52) z81)
 (z409:FnX K "_law_spots" "_law_spots" (top 53) z82)
 (z410:FnX K "_law_behind" "_law_behind" (top 54) z83)
 (z411:FnX K "_law_worth" "_law_worth" (top 55) z84)
 (z412:FnX K "_law_due" "_law_due" (top 56) z85)
 (z413:FnX K "_law_fits" "_law_fits" (top 57) z86)
 (z414:FnX K "_law_ruled" "_law_ruled" (top 58) z87)
 (z415:FnX K "_law_made" "_law_made" (top 59) z88)
 (z416:FnX K "_law_way" "_law_way" (top 60) z89)
 (z417:FnX K "_law_rule" "_law_rule" (top 61) z90)
 (z418:W.nsIn K mainGlobals "law"=some (some (.ref z91)))
 (z419:FnX K "law" "law" (top 62) z91):
 ∃fd:FuncData,(∀(s:Shared) (v:Value),BindsTo s fd ⟨[v],[]⟩ [("_law_script",v)])/\∀base:Heap,K.In base->base.Ns mainGlobals mg->BmIn base mg->FnOk l.prog w K mg base (CX0) 18 fa fd ["_law_script"] (q5O K [z1,z3]):=by(
have e:=hfa.symm.trans (gW X G z418)
cases e
let t:Adr:=⟨z4,z5,z6,z7,z8,z9,z10,z11,z12,z13,z14,z15,z16,z17,z18,z19,z20,z21,z22,z23,z24,z25,z26,z27,z28,z29,z30,z31,z32,z33,z34,z35,z36,z37,z38,z39,z40,z41,z42,z43,z44,z45,z46,z47,z48,z49,z50,z51,z52,z53,z54,z55,z56,z57,z58,z59,z60,z61,z62,z63,z64,z65,z66,z67,z68,z69,z70,z71,z72,z73,z74,z75,z76,z77,z78,z79,z80,z81,z82,z83,z84,z85,z86,z87,z88,z89,z90,fa,z92,z93,z94,z95,z96,z97,z98,z99,z100,z101,z102,tN,aDO,aCE,z0,z1,z2,z3⟩
have T:Txt K mg t:=⟨gW X G z153,z154,z155,z156,z157,z158,z159,z160,z161,z162,z163,z164,z165,z166,z167,z168,gW X G z169,gW X G z170,z171,z172,z173,z174,z175,z176,z177,z178,z179,z180,z181,z182,z183,z184,z185,z186,z187,z188,z189,z190,z191,z192,z193,z194,z195,z196,z197,z198,z199,z200,z201,z202,z203,z204,z205,z206,z207,gW X G z208,z209,z210,z211,z212,z213,z214,z215,z216,z217,z218,z219,z220,z221,z222,z223,z224,z225,z226,z227,z228,z229,z230,z231,z232,z233,gW X G z234,z235,z236,z237,⟨z238,z239,z240⟩,gW X G z241,z242,z243,z244,⟨z245,z246,z247⟩,gW X G z248,z249,z250,z251,⟨z252,z253,z254⟩,gW X G z255,z256,z257,z258,⟨z259,z260,z261⟩,gW X G z262,z263,z264,z265,z266,z267,gW X G z268,z269,z270,z271,z272,z273,z274,z275,z276,z277,gW X G z278,z279,z280,z281,z282,z283,z284,gW X G z285.1,z285.2,gW X G z286.1,z286.2,gW X G z287.1,z287.2,gW X G z288.1,z288.2,gW X G z289.1,z289.2,gW X G z290.1,z290.2,gW X G z291.1,z291.2,gW X G z292.1,z292.2,gW X G z293.1,z293.2,gW X G z294.1,z294.2,gW X G z295.1,z295.2,gW X G z296.1,z296.2,gW X G z297.1,z297.2,gW X G z298.1,z298.2,gW X G z299.1,z299.2,gW X G z300.1,z300.2,gW X G z301.1,z301.2,gW X G z302.1,z302.2,gW X G z303.1,z303.2,gW X G z304.1,z304.2,gW X G z305.1,z305.2,gW X G z306.1,z306.2,gW X G z307.1,z307.2,gW X G z308.1,z308.2,gW X G z309.1,z309.2,gW X G z310,gW X G z311,gW X G z312,rH X G z313,rH X G z314,rH X G z315,rH X G z316,rH X G z317,rH X G z318,rH X G z319,rH X G z320,rH X G z321,rH X G z322,rH X G z323,rH X G z324⟩
let S:Fns K t:=⟨fn1 z325,fn1 z326,fn1 z327,fn1 z328,fn1 z329,fn1 z330,fn1 z331,fn1 z332,fn1 z333,fn1 z334,fn1 z335,fn1 z336,fn1 z337,fn1 z338,fn1 z339,_,FunT.mk' (st:=yD) z340 z341,yG.all λus hl=>by rw[lnx hl];rfl,fn1 z342,fn1 z343,fn1 z344,fn1 z345,fn1 z346,fn1 z347,fn1 z348,fn1 z349,fn1 z350,fn1 z351,fn1 z352,fn1 z353,fn1 z354,fn1 z355,fn1 z356,fn1 z357,fn1 z358,fn1 z359,fn1 z360,fn1 z361,fn1 z362,fn1 z363,fn1 z364,fn1 z365,fn1 z366,fn1 z367,fn1 z368,fn1 z369,fn1 z370,_,FunT.mk' (st:=j9) z371 z372,yG.all λus hl=>by rw[lnx hl];rfl,fn1 z373,_,(.ref z103),FunD.mk' (st:=vF) z374 z375,λs us z hl=>by rw[lnx (us:=us) (n:=5) (by simpa using hl)];exact wE rfl (z _ _ z376) rfl rfl rfl,[.none],λs us z hl=>by rw[lnx (us:=us) (n:=4) (by simpa using hl)];exact wE rfl (z _ _ z376) rfl rfl rfl,(.cons rfl .nil),[.int 1000000 e0_Chip_init,.none],λs us z hl=>by rw[lnx (us:=us) (n:=3) (by simpa using hl)];exact wE rfl (z _ _ z376) rfl rfl rfl,(.cons ⟨_,rfl⟩ (.cons rfl .nil)),fn1 z377,fn1 z378,fn1 z379,fn1 z380,fn1 z381,fn1 z382,fn1 z383,fn1 z384,fn1 z385,fn1 z386,fn1 z387,fn1 z388,fn1 z389,fn1 z390,fn1 z391,fn1 z392,fn1 z393,fn1 z394,fn1 z395,fn1 z396,fn1 z397,fn1 z398,_,(.ref z104),FunD.mk' (st:=uS) z399 z400,λs us z hl=>by rw[lnx (us:=us) (n:=7) (by simpa using hl)];exact wE rfl (z _ _ z401) rfl rfl rfl,[.int 1000000 e1_Terms_init],λs us z hl=>by rw[lnx (us:=us) (n:=6) (by simpa using hl)];exact wE rfl (z _ _ z401) rfl rfl rfl,(.cons ⟨_,rfl⟩ .nil),[.int 0 e0_Terms_init,.int 1000000 e1_Terms_init],λs us z hl=>by rw[lnx (us:=us) (n:=5) (by simpa using hl)];exact wE rfl (z _ _ z401) rfl rfl rfl,(.cons ⟨_,rfl⟩ (.cons ⟨_,rfl⟩ .nil)),fn1 z402,fn1 z403,fn1 z404,fn1 z405,fn1 z406,fn1 z407,fn1 z408,fn1 z409,fn1 z410,fn1 z411,fn1 z412,fn1 z413,fn1 z414,fn1 z415,fn1 z416,fn1 z417,fn1 z419⟩
exact⟨_,FnX.bind1 (by intros;rfl) S.law.F,λbase U U D=>qM2 T S D⟩)
theorem walk{l:W.OpenLaw}{d:DefRec}{K:Params->W.Frag}(hn:l.most=some 63)(hdf:d.params.defaults=[])
 (hY:∀(w:World) (h:Heap),YP w h->(K w.params).In h/\∀T∈([304,577]:List Addr),h.get? T=some (W.tabObj #[])) (hT:∀w:World,∀T∈([304,577]:List Addr),(K w.params).lookup T=none/\∃c,W.codeHdIn (K w.params) c T=true)
 (F:∀(w:World) (mg:Str->Option Value) (fa:Addr) (h:Heap),(K w.params).In h->h.Ns mainGlobals mg->mg d.name=some (.ref fa)->∃fd:FuncData,(∀(s:Shared) (u:Value),BindsTo s fd ⟨[u],[]⟩ [("_law_script",u)])/\∀base:Heap,(K w.params).In base->base.Ns mainGlobals mg->BmIn base mg->FnOk l.prog w (K w.params) mg base (CX0) 18 fa fd ["_law_script"] (q5O (K w.params) [304,577])):
 W.WalkO q loose XP YP l.row.toRowW d [] (λf vs=>PySem.call f vs):=L2.qGI      _ hn (by decide) hdf ⟨rfl,by decide,by decide⟩ hY hT F (λU U a ns hl hS hT=>⟨a,ns,rfl,hS,hl,hT,λU=>rfl⟩) (λU U U U U z=>z)
end W1
set_option genInjectivity false in
set_option genSizeOf false in
structure PySem.W.Fast:Prop where
 (tw11438715565383307830 tw13630038146401461952 tw7819528133899749248 tw813750944465622817 tw5027554755871438753 tw15839337672992598018 tw2489468231997482818 tw1137701003803011267 tw16873916844553008675 tw10981054960592557891 tw7087272710023924100 tw1584278710082413444 tw2041774219892087748 tw16387663924997113541 tw13399652174740982725 tw4215235330753589318 tw7495888467341877862 tw9244157919346536199 tw12963208897368985383 tw3429970149734230248 tw1006417414742840872 tw8069345529470693513 tw2498594783915894153 tw5171399246522755625 tw6664097439285088841 tw7029290468256607849 tw5258691321172085609 tw4203371903214960108 tw15124237695739717228 tw16083910399624558476 tw3944109139855102061 tw16309544663633234766 tw6654057453589770255 tw7616275902346609167 tw7780626070892441295 tw12508529893999513009 tw5837591422128342545 tw1921030200985537393 tw10478578012875447314 tw9697205081077260114 tw15008367665635630034 tw11151135049024978419 tw3116097554374355699 tw14365759307272118196 tw18039228110222825525 tw4846956383961228117 tw15054332476258366389 tw6722164118501489589 tw5100584053050741014 tw13061122570753174102 tw17372094618560852950 tw11566576075195249239 tw4212100528068691064 tw10462334309584599192 tw6805319652128790840 tw11026768300960083418 tw14085884193387540635 tw14826845192049146139 tw12403372237712172699 tw8894522214238500540 tw10379280307946856862 tw6266578774901362238 tw18273844566899221214 tw631488098344432574 tw13473623966403813055 tw6446930786237505315 tw6500465151361141088 tw7619968018112035322 tw15777470361193070528 tw6085343234269620216 tw609334063790161138 tw1366218124841133622 tw8748996049216769870 tw1364824759451839416 tw12559942089510509171 tw14530765578576815586 tw2567829700695603148 tw14473829256848194123 tw4828777687378902058 tw9456147844423033773 tw8292265361672227889 tw14896464924066863958 tw12510324667122076100 tw16585905794204338648 tw4578768412377836966 tw2798071800887834074 tw11370022555652596057 tw12703033978913477693 tw14932983259535173299 tw9617427812570927403 tw1074045715095614638 tw3371202630181919211 tw15043510934032639030 tw2810634939728609114 tw17554379311256853210 tw9421345095760478410 tw8660167622338470292 tw1877399810934681517 tw10175261624652030821 tw6469092511048522594 tw8173196748732958409 tw414834233476455089 tw11262150358200491528 tw6147117197629097316 tw12837408267063659942 tw16021866678782156089 tw15086492352000395067 tw12823663520901977071 tw843196696199777412 tw14451146961459477481 tw9950509406937395703 tw12298837536644874529 tw9136960084056728966 tw17118076399712500815 tw9063458827904355871 tw7855783103538100183 tw3793143354062179045 tw12090376991935084699 tw10597140667337914836 tw12354187383645685898 tw880113959205264485 tw15144769492211232766 tw16292938477838496328 tw9043383253369989148 tw14713495723289315191 tw5875300949285511010 tw2476209249143611226 tw5751276065135972670 tw3191689663813410410 tw18168566237289032053 tw17333384273651983773 tw733216143815203694 tw14773622425436183604 tw2156238042327735380 tw1891270783399090718 tw14008350272507694524 tw1313253802570713393 tw9746568951219890908 tw17383569416198060429 tw6365343771587026694 tw2673514144661322208 tw9473120389896105071 tw8850608811879594551 tw15223462311960338493 tw3607340801489587259 tw13953900896604129087 tw14800473609310783629 tw12210516165923882960 tw16231420110991419051 tw15515883436531815021 tw14459462808490100421 tw9688951890259524065 tw2932776179318745816 tw13329485768793734742 tw12928530919282581926 tw4554797434682011730 tw16738513922396996046 tw17731058827565143802 tw13773239065461066163 tw2062989481916856589 tw5501357622844670502 tw14757697145964567340 tw2457573285441470622 tw18115472374791400152 tw3204122135483611124 tw8535246505283290919 tw17536855751516453541 tw17476554487992520205 tw493366896203015609 tw17798205779625366838 tw6075219148486964256 tw5133596528556724733 tw2061231797515515395 tw775281330375037122 tw4671089565205534191 tw17670665847155236296 tw3469420853675920570 tw12909028808967221821 tw4098487414477056882 tw3844720654216001600 tw16819519825705544234 tw665824468425661108 tw14161851475994157269 tw16992937009395770181 tw12600715450148508131 tw3284192248299772520 tw7739775719499155450 tw2580717031112635582 tw8733185755007891962 tw6257904755483976389 tw4892362204254856586 tw8581034538334161975 tw5136950924775690155 tw17413817565133625749 tw4718384952825906155 tw9289247213327991914 tw5256337079032505512 tw364487746633969502 tw9359802698355898986 tw12733907379250163176 tw2906579322698368468 tw12096507885074232128 tw2262601395013976189 tw12294456810699694373 tw8135437649353031973 tw15967762364010895784 tw13202695786683481378 tw1868919147910723704 tw6592240081205470436 tw12004639720000070040 tw2084491423055281155 tw9336893739180490613 tw6965517871984500803 tw7565700345304845289 tw9073366396874075774 tw11186526870998396363 tw3359517661242375850 tw2941070251548849525 tw14440742044627865577 tw1949749514408211011 tw1433043185644477623 tw8429126092906194917 tw11019946956648207754 tw1600852736921829335 tw280215009628140389 tw9770435541938732290 tw2749812742678601865 tw9748580628055176740 tw8491711978214530507 tw8836710624251830314 tw7806398645594253528 tw11818461203660083348 tw14689047179630950986 tw15283331642290514937 tw13881384528418548219 tw14117495441131423023 tw12730199348052765536 tw5087560270674940027 tw7745912684672805218 tw7511052268227297058 tw13681150244402395653 tw17499620639740541577 tw16481174501826501596 tw3064472787493542936 tw16431204035339125040 tw12337792523963879500 tw8959823349475523686 tw8100951574301294265 tw15953365462140522862 tw6879980180958711419 tw17150317029881067301 tw11095550061142509000 tw474020222394330364 tw2802732096244303247 tw7893711997600293832 tw16035306796093419473 tw7658205827398136792 tw9286406274824477404 tw318232975683024764 tw15283163676871224792 tw14118523437145027642 tw8293673631732171730 tw3931002958956446281 tw2915676585570970271 tw13383631703514795596 tw10481802639767106513 tw17223205557250011232 tw5244993036372371922 tw2845177878843303117 tw9946906172940482446 tw6968197894375114292 tw5170185687866428879 tw5271637179539898133 tw14614859322788682273 tw12998093665082043631 tw4760279215319971414 tw3233969791492662370 tw10990364325524759594 tw5083433083040710317 tw273945210192813900 tw10982208972646353700 tw14566313634868687418 tw5668916338039817364 tw1023816170005771958 tw10189138348345683431 tw6965670996901530547 tw14391025124816108028 tw11069987036362313792 tw6565768105455964905 tw526108235976786997 tw16148505661848328435 tw1578490400178723580 tw14612262313837616280 tw5723903774264090068 tw2847083598646021175 tw766453950645074456 tw18397995350959852756 tw12164821141839407873 tw13216639201269893072 tw9873782890768218034 tw9995525018302299438 tw12502644220701560416 tw9835894473591508330 tw5927562954095975981 tw1994328205566042551 tw9589225859620182189 tw7558950673272153952 tw5968546504923318740 tw8937593418795356898 tw10537153652219187271 tw15660652479901907765 tw15895430564703740930 tw15385741126348362474 tw12938864178979409202 tw9996801184950142412 tw8579231571433035313 tw6456744704185826304 tw2967970636242162332 tw7728269302510364215 tw8557267331058348830 tw2193990332203022121 tw17756413418929311637 tw2914872519812094749 tw7143005832524977029 tw16411499466267757778 tw14642467446432039284 tw15095749352139240782 tw12293545932221500077 tw3096033483161533366 tw17023565811584909295 tw4763597995418751927 tw137811081734989022 tw6666237502845317636 tw4572811198227209931 tw7936034482061451636 tw8433066979186659592 tw9493336825013880610 tw6517178994676670089 tw15848351145067783943 tw13666806130599973551 tw1848563129131795069 tw5376289877363621090 tw11859753420041744746 tw15890790051083093678 tw16666424504040887266 tw8655678616726238388 tw6823545232812806921 tw72507702816718395 tw2506734773673967597 tw13156210764962259004 tw17307068387971563086 tw17367338695073721892 tw10621592608923887801 tw6021014070489961385 tw18428092156304878987 tw1636218455443050055 tw16526838023518140850 tw16344100175149769466 tw13133587094734609977 tw8549558902172258522 tw2397900262217155050 tw18137288042869850859 tw8895368567852498355 tw8714826406312971886 tw14235998394210407120 tw10599158651605457795 tw6005960072597941244 tw5425942647216776556 tw13883280227906290045 tw14832281198158486876 tw5484877427162115368 tw4475700186044885653 tw2916085121051982442 tw17098918272804746442 tw2863900800720162244 tw11793292145019933830 tw770965413057770607 tw14079884790204266605 tw15417279921172888575 tw2997238071248250788 tw17037177690596692267 tw15495743903177243357 tw12553399333034059840 tw3119700244669054721 tw10853316264085324527 tw3148486883758117762 tw207776546291479442 tw61086428320871893 tw14623531095531159034 tw5787395562708226872 tw15354446708938784134 tw13029161335187135949 tw3201262064445504535 tw13479804646618152793 tw8926069922648329932 tw6513532096062230867 tw3517922439310310218 tw2923128231096744746 tw2655617433999581202 tw16755212751995841036 tw15438491484038175315 tw13043564914880899103 tw1753825184688915989 tw8613583082276448960 tw17879708649859053608 tw10634737972711988709 tw3978578178717339887 tw2113441120570929632 tw14741818741843144935 tw9654210312340559967 tw7886158747231418186 tw6486325323676932853 tw5847028170421424546 tw4278563455680630609 tw17667460069327389695 tw16458937534429905369 tw16058018162722967675 tw13773009430643456276 tw12512345180406471285 tw1166250408273501660 tw10018046054016119004 tw7241480947729645650 tw7344045644532176031 tw3939645656176810840 tw472587809997434552 tw16625623034249354217 tw13445943230421013001 tw4788768853422160981 tw2130837154156758237 tw3922260490390388981 tw1629998865651793747 tw860387118844263515 tw16050965152256082411 tw15659374172816158273 tw14573139037426991439 tw3529458083367340207 tw3769355119006498709 tw12933263636020031545 tw11385491616610846290 tw2573978244682161108 tw45995947553790276 tw17733570097274791378 tw11296901507810604646 tw5962848128263083083 tw5880738990833402964 tw16453251782026421266 tw15947371428698114222 tw14501034799214321079 tw7484093719739602862 tw17965588884452560951 tw11425002308169385231 tw11329787892906041065 tw15521595873382799999 tw8892379245815143752 tw13269160423666218320 tw15594568136001928588:True)
open PySem PySem.W PyProof.Rows
set_option maxRecDepth 100000 in
theorem PySem.Challenge.cw_wornpages_k43_a_changing_about_holds : PySem.Challenge.rw_wornpages_k43_a_changing_about.Holds := by
 (
w_on;o_law;k_head;(case hw=>w_witness2)
k_fill
refine W1.walk (l:=PySem.Challenge.rw_wornpages_k43_a_changing_about) rfl rfl (λw h Y=>⟨W.km_in_of Y,λT hT=>W.km_tabs_of Y T (by simp at hT ⊢;first|exact hT|exact hT.symm)⟩) (?T) ?F
case T=>
 intro w T hT;have hT:T=304\/T=577:=by simpa using hT
 rcases hT with rfl|rfl
 .exact⟨by kernel_rfl,306,by kernel_rfl⟩
 exact⟨by kernel_rfl,581,by kernel_rfl⟩
case F=>
 intro w mg fa h KX G hmg;refine' W1.qM3 (z1:=304) (z0:=306) (z3:=577) (z2:=581) KX G hmg ..
 any_goals first|k_is|(refine' L2.FnX.of ?fa ?fb;(case fa=>k_is);(case fb=>k_is))|((first|apply And.intro|apply L2.Meth.mk|apply L2.Mk.mk|apply L2.Cls.mk|apply L2.XAt.mk|apply L2.BIni.mk|apply L2.ClM.mk|apply L2.XRd.mk)<;>first|k_is|kernel_rfl)|(show W.findIn _ _ _=_;k_is)
 all_goals first|k_exc|kts_exm|kit_is|kernel_rfl|decide)
