import PyProof.Rows.All
import Wide.All
import OpenK.AllK
import Wide.FinOn
import Lean
import PyProof.EqAt
import PyProof.EqKinds
import PyProof.TupleCall
import PyProof.StationsW
import PyProof.NsDelKeeps
import PyProof.PassesOwn
import PyProof.ZipIter
import PyProof.NeKinds
import PyProof.CompFree
import KE.KDictList
import PyProof.ConsumeWalk
import PyProof.WalkInts
import PyProof.WalksMore
import PyProof.SumAny
import PyProof.Rows.MinMaxN
import PyProof.Rows.SortWalk
import PyProof.ListRange
import KE.KTupSum
import PyProof.EnumFor
import PyProof.EnumMake
import PyProof.EnumStmt
import OpenK.KMake
import PyProof.DictWalks
import PyProof.FitsBits
import PyProof.CompUse
import KE.KSortTup
import PyProof.MinMaxWalk
import PyProof.SeqI3
import PyProof.DictItems
import KE.KItemsList
import KE.KEqDict
import KE.KDictSum
import PyProof.DictValues
import KE.KLam
import KE.KNestM
import PyProof.ExcClass3
import PySem.Challenge.RW_wornpages_k34_a_paper
set_option Elab.async false
set_option linter.all false
set_option maxRecDepth 100000
set_option maxHeartbeats 0
noncomputable abbrev hG:=@decide_eq_true
noncomputable abbrev hI:=@decide_eq_false
noncomputable abbrev kB:=@if_neg
noncomputable abbrev kD:=@if_pos
noncomputable abbrev kX:=@decide_eq_true_eq
noncomputable abbrev mF:=@of_decide_eq_true
noncomputable abbrev gX:=@congrArg
noncomputable abbrev dA:=@of_decide_eq_false
noncomputable abbrev rE:=@decide_eq_false_iff_not
noncomputable abbrev rG:=@beq_eq_false_iff_ne
noncomputable abbrev wF:=@beq_iff_eq
noncomputable abbrev cE:=@or_false
noncomputable abbrev cI:=@decide_eq_decide
open List renaming length_map→hC, mem_cons_of_mem→hU, getElem?_eq_getElem→hX, getElem?_eq_some_iff→kC, mem_singleton→kE, mem_cons→kI, getD_eq_getElem?_getD→kJ, mem_map→kP, mem_cons_self→kU, length_append→kZ, length_filter_le→mB, getElem?_map→mC, size_toArray→mD, map_cons→mE, length_range→mG, take_append_getElem→mH, mem_filter→mI, map_append→mJ, mem_range→mL, length_cons→mM, mem_append_right→mQ, filter_cons→mW, nodup_cons→m7, length_singleton→gB, take_length→gC, length_set→gD, mem_of_getElem?→gE, filter_append→gF, getElem_mem→gG, length_take→gJ, append_nil→gK, length_replicate→gM, map_congr_left→gN, mem_append→gO, pairwise_cons→gQ, map_map→gS, not_mem_nil→gW, pairwise_map→g7, mem_append_left→g8, filterMap_cons→dD, getElem?_eq_none→dG, sum_cons→dJ, length_filterMap_le→dL, nil_append→dM, find?_cons→dN, find?_some→dO, find?_eq_none→dQ, getElem?_append_right→dS, replicate_succ→dW, mem_of_find?_eq_some→dY, lookup_cons→d6, all_eq_true→d7, nodup_range→d8, range_succ→rF, filter_eq_self→rH, pairwise_lt_range→rM, cons_append→rQ, mem_filterMap→rR, drop_eq_getElem_cons→rZ, exists_mem_of_ne_nil→r6, append_assoc→wA, nodup_append→wC, filter_congr→wD, flatMap_cons→wE, any_cons→wG, getElem_of_mem→wI, getElem?_replicate→wJ, any_eq_true→wM, countP_eq_length_filter→wS, flatten_cons→wX, foldl_append→wY, getElem?_set_ne→cB, ext_getElem→cG, pairwise_iff_getElem→cJ, filter_sublist→cK, mergeSort_perm→cL, filter_nil→cQ, getElem_range→cT, mem_mergeSort→cU, map_replicate→cV, pairwise_mergeSort→cW, length_pos_of_mem→c8, zipWith_cons_cons→c9, countP_mono_left→pC, filterMap_append→pE, countP_cons→pJ, length_nil→pN, mem_map_of_mem→pS, map_eq_nil_iff→pT, getElem?_append_left→sE, getElem?_cons_succ→sO, getElem_map→sV, flatMap_eq_nil_iff→sY, flatMap_nil→sZ, getElem?_set_self→nB, take_of_length_le→nM, of_mem_zip→nO, foldl_cons→nQ, length_mergeSort→nY, take_append_drop→nZ, length_zipWith→lN, flatMap_append→lO, nil_perm→lS, map_set→xN, find?_append→xP, drop_length→xU, flatMap_def→xV, map_id→xZ, forIn_cons→aA, filter_map→aG, sum_append→aH, perm_cons→aN, foldl_nil→aQ, nodup_nil→aR, all_cons→bC, map_nil→bE, any_map→bG
open PySem.Heap renaming get?_push_of_some→kF, lt_size→kY, get?_push_size→mP, get?_update_other→mZ, get?_update_self→wU, get?_none_of_le→cA, size_push→p7, size_update→sT
open PySem renaming wpAny_bind→kL, wpAny_pure→mO, sizeLine_eq→gI, mem_of_lookup→gR, boot_len→gZ, wpAny_truthy_bool→dE, wpAny_holding→dH, wpAny_mono→dP, wpAny_Call_Name_kw→rT, wpAny_passesOwn→r9, tupleKind_room_in1→cR, codeAny_mono→cZ, wpAny_call→pG, wpAny_standAt→pK, wpAny_newList→pL, wpAny_execs_nil→pM, call_meetsIn→pV, wpAny_Call_method→sG, wpAny_field→sI, wpAny_call_entry→sU, seqIndex_neg→nG, wpAny_getItem_list_neg→nI, call_meets→nJ, wpAny_isTrue_Compare1→nU, wpAny_loadName_local→lA, seqIndex_of→lC, wpAny_setField→lD, codeAny_call_builtin→lE, wpAny_newFunctionEnv→lG, wpAny_loadName_cell→lK, wpAny_attempt→lQ, wpAny_assign_Name→xC, wpAny_newObj_type→xH, wpAny_Name→aJ, typeIs_int→aK
open Nat renaming le_refl→kM, le_trans→kO, zero_le→mV, lt_of_lt_of_le→mY, ne_of_lt→m9, mul_le_mul_right→gA, lt_irrefl→dR, ne_of_gt→d9, succ_mul→rA, le_succ→rC, add_mul→rN, one_mul→rO, lt_succ_self→rP, lt_of_le_of_lt→rV, lt_succ_of_lt→wB, le_of_lt→wN, mul_comm→wP, div_lt_iff_lt_mul→wW, add_le_add_right→cF, mod_eq_of_lt→cH, le_of_eq→cX, add_zero→c7, mul_le_mul→pA, not_lt→pH, mul_add_mod→pP, zero_add→pZ, eq_of_mul_eq_mul_right→sD, le_add_right→sP, not_lt_zero→nR, sub_self→xO, mul_mod_left→xS, div_eq_iff→aT
open Option.some renaming inj→kN
open Bool renaming false_ne_true→kQ, and_eq_true→mU, not_eq_true'→rD, eq_iff_iff→wQ, or_eq_true→wR, false_eq_true→p9, true_and→lR, eq_false_iff→xI, and_false→aM
open Int renaming toNat_natCast→kW, natCast_mul→gL, le_refl→gP, natCast_ediv→dC, natCast_add→dX, eq_ofNat_of_zero_le→wL, le_trans→c6, toNat_of_nonneg→pU, le_of_lt→pX, zero_add→nN, mul_nonneg→lF, emod_lt_of_pos→l7, natCast_nonneg→xA, one_mul→xY, emod_nonneg→x8, not_lt→aP, mul_le_mul→aS
open Option renaming map_eq_some_iff→mK, isSome_iff_exists→cM, bind_some→pI, isSome_map→xG, map_some→aB
open Array renaming length_toList→mR, getD_eq_getD_getElem?→pW, getElem?_eq_some_iff→p8, perm_iff_toList_perm→sB, toList_inj→sQ, toList_map→sS, getElem?_toList→nX, append_assoc→lW, map_map→bD
open PySem.F renaming plainAttrs_list→gH, slot_list_append→g0, type_list_append→g5, plainAttrs_dict→wK, slot_dict_pop→wV, slot_dict_itemiterator_iter→cN, slot_list_extend→cO, type_list_extend→cP, slot_dict_get→pB, args_dict_pop_3→sL, args_dict_get_3→sN, slot_dict_items→sX, entry_dict_pop→nK, entry_dict_get→nL, type_dict_pop→nV, slot_int_rmul→x6
open PySem.W renaming mg_of→gT, kia_one→gY, mg_none_of→dU, methodCall_KW→rW, callWith_K→wO, looks_findIn→cC, any_some→pF, plainGet_of→pQ, callWith_K0→pR, cellsFrom_some→nE, check_slot→lZ, make_core→xD, kitx_list→xE, kitx_dict→xF, makes_of→xQ, codeHd_of_K→xX
open PySem.PassesOwn renaming never→gU, leaving→wZ
open List.Pairwise renaming filter→g9, sublist→pD
open Decidable renaming byContradiction→dZ
open Sum.inl renaming inj→rB
open PySem.BindsTo renaming of_defaults→rJ
open PyProof.Rows renaming callWith_type1→rK, listUpdate_at→wT, get?_update_seq→pO, seqEpoch_at→sJ, subscriptTail_builtinR→nH, entry_list_sort→nS, slot_list_sort→lI, getElem?_mirror_all→lM, size_push'→l9, listItems_at→xJ, pairsOf_size→xK, plain_sorted→xL, entry_sorted→xM, kind_sorted→xW
open PySem.Calls renaming callWith_builtin→rL, spliced_cons→rS, evalArgs_plain→cD, spliced_nil→cY, Name_function_global→p6, call_function_entry→sF
open PySem.Obj renaming isFreed_of_fields→rX, data_mapFields→cS
open Ne renaming symm→wH
open PySem.SeqAt.EqAt renaming same→nP, int_str→lT, str_int→lU, int_int→lY, of_refs→l8
open PySem.Around renaming frames_deeper→lB
open PySem.Value renaming isStrOf_shape→lJ, isInt_shape→xB
open PySem.SeqAt.RcNeAt renaming tuples→lL
open PySem.Paired renaming length→lP
open PySem.W.Looks renaming ld→xR, of_pure→bH, here→bI
open List.Sublist renaming map→xT
open PySem.SeqAt renaming eq_listAt→x9
open Array.Perm renaming refl→aE
open StateT renaming run_pure→aF
open Iff renaming rfl→aI
open PySem.EqMixed renaming eq_bool_str→aU, eq_str_bool→aV, ne_bool_str→aW, ne_str_bool→aX, eq_int_str→aY, eq_str_int→aZ, ne_int_str→a0, ne_str_int→bA
set_option genSizeOf false
namespace L2
open PySem PySem.Spec PyProof.Rows
noncomputable abbrev Key:=Sum Int Str
noncomputable def q7K:Key→Value→Bool
 | .inl k,v=>Value.isInt k v
 | .inr x,v=>Value.isStrOf x v
noncomputable def keyH(w:World):Key→Int
 | .inl k=>hashInt k
 | .inr x=>hashStr w x
theorem yJ:∀{k:Key} {v:Value},q7K k v=true→(∃i t,k=Sum.inl i∧v=Value.int i t)∨(∃x t,k=Sum.inr x∧v=Value.str x t)
 | .inl i,v,h=>by
  obtain⟨t,e⟩:=xB (k:=i) (v:=v) h
  exact .inl ⟨i,t,rfl,e⟩
 | .inr x,v,h=>by
  obtain⟨t,e⟩:=lJ (x:=x) (v:=v) h
  exact .inr ⟨x,t,rfl,e⟩
theorem qCJ(i:Int)(t:Tok):q7K (.inl i) (.int i t)=true:=by simp[q7K,Value.isInt]
theorem qCK(x:Str)(t:Tok):q7K (.inr x) (.str x t)=true:=by simp[q7K,Value.isStrOf]
theorem qHW(a b:Int):decide ((Sum.inl a:Key)=Sum.inl b)=(a==b):=by
 by_cases e:a=b
 ·subst e;simp
 ·have h:¬(Sum.inl a:Key)=Sum.inl b:=λq=>e (rB q)
  rw[hI h]
  exact(rG.mpr e).symm
theorem qHX(a b:Str):decide ((Sum.inr a:Key)=Sum.inr b)=decide (a=b):=by
 by_cases e:a=b
 ·subst e;simp
 ·have h:¬(Sum.inr a:Key)=Sum.inr b:=λq=>e (Sum.inr.inj q)
  rw[hI h,hI e]
theorem qHY(a:Int)(b:Str):decide ((Sum.inl a:Key)=Sum.inr b)=false:=hI (λq=>nomatch q)
theorem qHZ(a:Str)(b:Int):decide ((Sum.inr a:Key)=Sum.inl b)=false:=hI (λq=>nomatch q)
noncomputable def jQ(prog:Program)(w:World):PySem.KeyKind prog w Key where
 is:=q7K
 hash:=keyH w
 inj:=λv a b ha hb=>by
  rcases yJ ha with⟨i,t,rfl,rfl⟩|⟨x,t,rfl,rfl⟩
  ·rcases yJ hb with⟨j,u,rfl,e⟩|⟨y,u,rfl,e⟩
   ·injection e with e1 _;rw[e1]
   ·exact nomatch e
  ·rcases yJ hb with⟨j,u,rfl,e⟩|⟨y,u,rfl,e⟩
   ·exact nomatch e
   ·injection e with e1 _;rw[e1]
 byValue:=λk v h=>by
  rcases yJ h with⟨i,t,rfl,rfl⟩|⟨x,t,rfl,rfl⟩<;>rfl
 pyHash:=λhv h=>by
  rcases yJ hv with⟨i,t,rfl,rfl⟩|⟨x,t,rfl,rfl⟩
  ·exact wpAny_pyHash_int h
  ·exact wpAny_pyHash_str h
 eqBool:=λhu hv h=>by
  rcases yJ hu with⟨i,t,rfl,rfl⟩|⟨x,t,rfl,rfl⟩
  ·rcases yJ hv with⟨j,u,rfl,rfl⟩|⟨y,u,rfl,rfl⟩
   ·rw[qHW]at h;exact wpAny_eqBool_int h
   ·rw[qHY]at h;exact lT i t y u _ _ _ _ h
  ·rcases yJ hv with⟨j,u,rfl,rfl⟩|⟨y,u,rfl,rfl⟩
   ·rw[qHZ]at h;exact lU x t j u _ _ _ _ h
   ·rw[qHX]at h;exact wpAny_eqBool_str h
 «strs»:=λk x t v h=>by
  rcases yJ h with⟨i,u,rfl,e⟩|⟨y,u,rfl,e⟩
  ·exact nomatch e
  ·injection e with e1 _
   subst e1
   cases v<;>rfl
theorem q9F(prog:Program)(w:World)(i:Int)(t:Tok):(jQ prog w).is (.inl i) (.int i t)=true:=qCJ i t
theorem q9G(prog:Program)(w:World)(x:Str)(t:Tok):(jQ prog w).is (.inr x) (.str x t)=true:=qCK x t
inductive V where
 |non|bl (b:Bool)|int (i:Int)|str (x:Str)|byt (b:Array UInt8)|flt (b:UInt64)|ref (a:Addr)|ty (n:String)
 deriving DecidableEq
noncomputable def RelV:V→Value→Prop
 | .non,u=>u=Value.none
 | .bl b,u=>u=Value.bool b
 | .int i,u=>∃t,u=Value.int i t
 | .str x,u=>∃t,u=Value.str x t
 | .byt b,u=>∃t,u=Value.bytes b t
 | .flt b,u=>∃t,u=Value.float b t
 | .ref a,u=>u=Value.ref a
 | .ty n,u=>u=Value.type n
noncomputable abbrev Vals:List V→List Value→Prop:=Paired RelV
theorem Vals.length{xs:List V}{us:List Value}(r:Vals xs us):xs.length=us.length:=lP r
theorem Vals.get:∀{xs:List V} {us:List Value} {i:Nat} {x:V},Vals xs us→xs[i]?=some x→∃u,us[i]?=some u∧RelV x u
 |_,_,_,_,.nil,e=>by simp at e
 |_,_,0,_,.cons r _,e=>by simp at e;subst e;exact⟨_,rfl,r⟩
 |_,_,i+1,x,.cons _ t,e=>by
  obtain⟨u,h1,h2⟩:=Vals.get (i:=i) (x:=x) t (by simpa using e)
  exact⟨u,by simpa using h1,h2⟩
theorem Vals.set{x:V}{u:Value}(r:RelV x u):∀{xs:List V} {us:List Value} (i:Nat),Vals xs us→Vals (xs.set i x) (us.set i u)
 |_,_,_,.nil=>.nil
 |_,_,0,.cons _ t=>.cons r t
 |_,_,i+1,.cons q t=>.cons q (Vals.set r i t)
theorem Vals.append:∀{xs ys:List V} {us ws:List Value},Vals xs us→Vals ys ws→Vals (xs++ys) (us++ws)
 |_,_,_,_,.nil,s=>s
 |_,_,_,_,.cons r t,s=>.cons r (Vals.append t s)
noncomputable def RelO:Option V→Option Value→Prop
 |some v,some u=>RelV v u
 |none,none=>True
 |_,_=>False
noncomputable def KV{κ:Type}:List (κ×V)→List (κ×Value)→Prop:=Paired λ(p:κ×V) (q:κ×Value)=>p.1=q.1∧RelV p.2 q.2
noncomputable def kV:Key→V
 | .inl i=>.int i
 | .inr x=>.str x
inductive HO where
 |lst (xs:List V)
 |tup (xs:List V)
 |dK (kvs:List (Key×V))|dT (kvs:List (List Key×V))
 |set (S:Int→Bool) (n:Nat)
 |ins (C dx:Addr) (fs:List (Str×V))
 |own (x:Addr)
 |xd (fs:List (Str×V))
 |met (f x:Addr)
 |rng (lo hi:Int)
 |frz (o:Obj) (u:HO)
 |tbl (ps:Array Value)
 |ext (φ:Heap→Prop)
noncomputable abbrev Hp:=Addr→Option HO
noncomputable def upd(H:Hp)(a:Addr)(o:HO):Hp:=λb=>if b=a then some o else H b
theorem qH{H:Hp}{a:Addr}{o:HO}:upd H a o a=some o:=by unfold upd;rw[kD rfl]
theorem qC{H:Hp}{a b:Addr}{o:HO}(h:b≠a):upd H a o b=H b:=by unfold upd;rw[kB h]
theorem q89{H:Hp}{a:Addr}{o u:HO}:upd (upd H a o) a u=upd H a u:=by
 funext b;unfold upd;split<;>rfl
theorem jR{H:Hp}{a b:Addr}{o u:HO}(h:H a=some o)(h':H b=some u)(d:o≠u):a≠b:=by
 intro e;subst e;rw[h]at h';exact d (kN h')
theorem qF{H:Hp}{a b:Addr}{o:HO}(h:H a=some o)(h':H b=none):a≠b:=by
 intro e;subst e;rw[h]at h';cases h'
section
variable(P:Program)(w:World)
noncomputable def jF(H:Hp)(h:Heap)(a:Addr):HO→Prop
 | .lst xs=>xs.length≤sizeLine∧∃(its:List Value) (n:Nat),Vals xs its∧h.get? a=some { cls:=.type "list",data:=.seq its.toArray n }
 | .tup xs=>xs.length≤sizeLine∧∃its:List Value,Vals xs its∧IsTup h a its.toArray
 | .dK kvs=>kvs.length≤sizeLine∧(a==sysModules)=false∧∃vs,KV kvs vs∧h.DictOf (jQ P w) a vs
 | .dT kvs=>kvs.length≤sizeLine∧(a==sysModules)=false∧∃xs:List (List Key×Addr×Value),
   Paired (λ(p:List Key×V) (q:List Key×Addr×Value)=>p.1=q.1∧H q.2.1=some (.tup (p.1.map kV))∧RelV p.2 q.2.2) kvs xs∧
   ∃o es ep,h.get? a=some o∧o.ExactDict∧o.data=.dict es ep∧es.toList=xs.map (entryOfKey (tupleKind (jQ P w)))∧(xs.map (·.1)).Nodup
 | .set S n=>h.SetOf (intKind P w) a S n
 | .ins C dx fs=>H dx=some (.own a)∧fs.length≤1000∧dx≠a∧h.get? a=some (PySem.W.instObj C dx)∧
   ∃mA,h.Ns1 dx mA∧(∀f,RelO (fs.lookup f) (mA f))∧PySem.Within mA (fs.map (·.1))
 | .own _=>∃o,h.get? a=some o
 | .xd fs=>∃mA,h.Ns1 a mA∧∀f,RelO (fs.lookup f) (mA f)
 | .rng lo hi=>∃t u v,h.get? a=some { cls:=.type "range",data:=.fields #[.int lo t,.int hi u,.int 1 v] }
 | .frz o u=>h.get? a=some o∧jF H h a u
 | .tbl ps=>h.get? a=some { cls:=.none,data:=.fields ps }
 | .met f x=>h.get? a=some (PySem.W.methodObj (.ref f) (.ref x))
 | .ext φ=>φ h∧(∃o,h.get? a=some o)∧∀h1 h2:Heap,φ h1→(∀o,h1.get? a=some o→h2.get? a=some o)→φ h2
noncomputable def HOk(H:Hp)(h:Heap):Prop:=∀a o,H a=some o→jF P w H h a o
end
section
variable{P:Program}{w:World}{H H':Hp}{h h':Heap}{a:Addr}{o:HO}
theorem jF.lt(x:jF P w H h a o):a<h.objs.size:=by
 cases o with
 |lst xs=>obtain⟨_,_,_,_,e⟩:=x;exact kY e
 |tup xs=>obtain⟨_,_,_,p⟩:=x;exact p.lt
 |dK kvs=>obtain⟨_,_,_,_,o,_,_,e,_⟩:=x;exact kY e
 |dT kvs=>obtain⟨_,_,_,_,o,_,_,e,_⟩:=x;exact kY e
 |set S n=>obtain⟨o,_,_,_,e,_⟩:=x;exact kY e
 |ins C dx fs=>obtain⟨_,_,_,e,_⟩:=x;exact kY e
 |own y=>obtain⟨_,e⟩:=x;exact kY e
 |xd fs=>obtain⟨_,⟨_,_,_,e,_⟩,_⟩:=x;exact kY e
 |rng lo hi=>obtain⟨_,_,_,e⟩:=x;exact kY e
 |frz ob u=>obtain⟨e,_⟩:=x;exact kY e
 |tbl ps=>exact kY (show h.get? a=some _ from x)
 |met f y=>exact kY (show h.get? a=some _ from x)
 |ext φ=>obtain⟨_,⟨_,e⟩,_⟩:=x;exact kY e
theorem Paired.mapP{α β:Type}{F G:α→β→Prop}:∀{l₁:List α} {l₂:List β},Paired F l₁ l₂→(∀a b,F a b→G a b)→Paired G l₁ l₂
 |_,_,.nil,_=>.nil
 |_,_,.cons r t,f=>.cons (f _ _ r) (Paired.mapP t f)
theorem jF.stay(x:jF P w H h a o)(k:∀b u,(b=a∨H b=some (.own a))→h.get? b=some u→h'.get? b=some u)
 (ho:∀b,H b=some (.own a)→H' b=some (.own a)) (ht:∀b xs,H b=some (.tup xs)→H' b=some (.tup xs)):jF P w H' h' a o:=by
 induction o with
 |lst xs=>obtain⟨z,its,n,r,e⟩:=x;exact⟨z,its,n,r,k _ _ (.inl rfl) e⟩
 |tup xs=>obtain⟨z,its,r,ob,e,c⟩:=x;exact⟨z,its,r,ob,k _ _ (.inl rfl) e,c⟩
 |dK kvs=>obtain⟨z,y,vs,r,ob,es,ep,e,c⟩:=x;exact⟨z,y,vs,r,ob,es,ep,k _ _ (.inl rfl) e,c⟩
 |dT kvs=>
  obtain⟨z,y,xs,r,ob,es,ep,e,c⟩:=x
  exact⟨z,y,xs,Paired.mapP r λp q z=>⟨z.1,ht _ _ z.2.1,z.2.2⟩,ob,es,ep,k _ _ (.inl rfl) e,c⟩
 |set S n=>obtain⟨ob,es,ep,t,e,c⟩:=x;exact⟨ob,es,ep,t,k _ _ (.inl rfl) e,c⟩
 |ins C dx fs=>
  obtain⟨d,z,ne,e,mA,⟨od,es,ep,e2,c⟩,r⟩:=x
  exact⟨ho _ d,z,ne,k _ _ (.inl rfl) e,mA,⟨od,es,ep,k _ _ (.inr d) e2,c⟩,r⟩
 |own y=>obtain⟨ob,e⟩:=x;exact⟨ob,k _ _ (.inl rfl) e⟩
 |xd fs=>obtain⟨mA,⟨od,es,ep,e,c⟩,r⟩:=x;exact⟨mA,⟨od,es,ep,k _ _ (.inl rfl) e,c⟩,r⟩
 |rng lo hi=>obtain⟨t,u,v,e⟩:=x;exact⟨t,u,v,k _ _ (.inl rfl) e⟩
 |frz ob u ih=>obtain⟨e,q⟩:=x;exact⟨k _ _ (.inl rfl) e,ih q⟩
 |tbl ps=>
  have e:h.get? a=some { cls:=.none,data:=.fields ps }:=x
  show h'.get? a=some { cls:=.none,data:=.fields ps }
  exact k a _ (.inl rfl) e
 |met f y=>
  have e:h.get? a=some (PySem.W.methodObj (.ref f) (.ref y)):=x
  show h'.get? a=some (PySem.W.methodObj (.ref f) (.ref y))
  exact k a _ (.inl rfl) e
 |ext φ=>obtain⟨p,⟨o,e⟩,st⟩:=x;exact⟨st _ _ p λo q=>k _ _ (.inl rfl) q,⟨o,k _ _ (.inl rfl) e⟩,st⟩
theorem HOk.lt(x:HOk P w H h)(e:H a=some o):a<h.objs.size:=(x a o e).lt
theorem HOk.fresh(x:HOk P w H h)(e:h.objs.size≤a):H a=none:=by
 cases q:H a with
 |none=>rfl
 |some u=>exact absurd (mY (x.lt q) e) (dR _)
theorem HOk.kept(x:HOk P w H h)(k:∀b u,h.get? b=some u→h'.get? b=some u):HOk P w H h':=λa o e=>
 (x a o e).stay (λb u _ q=>k b u q) (λ_ q=>q) λ_ _ q=>q
theorem HOk.laid(x:HOk P w H h)(k:∀b u,h.get? b=some u→h'.get? b=some u)(hp:h.objs.size≤a)(new:jF P w (upd H a o) h' a o):HOk P w (upd H a o) h':=λb u e=>by
 have hn:=x.fresh hp
 by_cases hb:b=a
 ·subst hb;rw[qH]at e;cases e;exact new
 ·rw[qC hb]at e
  exact(x b u e).stay (λc v _ q=>k c v q) (λc q=>by rw[qC (qF q hn)];exact q) λc xs q=>by rw[qC (qF q hn)];exact q
end
noncomputable def Rd(H:Hp)(a:Addr)(u:HO):Prop:=H a=some u∨∃o,H a=some (.frz o u)
theorem Rd.ok{P:Program}{w:World}{H:Hp}{h:Heap}{a:Addr}{u:HO}(r:Rd H a u)(x:HOk P w H h):jF P w H h a u:=by
 rcases r with r|⟨o,r⟩
 ·exact x a u r
 ·obtain⟨_,q⟩:=x a _ r
  exact q
noncomputable def Mut:Option HO→Prop
 |some (.lst _)=>True
 |some (.dK _)=>True
 |some (.dT _)=>True
 |some (.set _ _)=>True
 |some (.ins _ _ _)=>True
 |some (.ext _)=>True
 |_=>False
section
variable{P:Program}{w:World}{H:Hp}{h h':Heap}{x e:Addr}{o':HO}
theorem HOk.write(ok:HOk P w H h)(mu:Mut (H x))(he:e=x∨H e=some (.own x))(k:∀b u,b≠e→h.get? b=some u→h'.get? b=some u)(heo:∃u,h'.get? e=some u)
 (new:jF P w (upd H x o') h' x o'):HOk P w (upd H x o') h':=λb u q=>by
 have nown:∀c y,H c=some (.own y)→c≠x:=λc y r z=>by subst z;rw[r]at mu;exact mu
 have ntup:∀c xs,H c=some (.tup xs)→c≠x:=λc xs r z=>by subst z;rw[r]at mu;exact mu
 by_cases hb:b=x
 ·subst hb;rw[qH]at q;cases q;exact new
 ·rw[qC hb]at q
  by_cases hbe:b=e
  ·have q':H b=some (.own x):=by
    rcases he with z|z
    ·exact absurd (hbe.trans z) hb
    ·rw[hbe];exact z
   rw[q]at q';cases q'
   obtain⟨v,hv⟩:=heo
   exact⟨v,by rw[hbe];exact hv⟩
  ·refine(ok b u q).stay (λc v hc r=>k c v ?_ r) (λc r=>by rw[qC (nown c b r)];exact r) λc xs r=>by rw[qC (ntup c xs r)];exact r
   rcases hc with rfl|hc
   ·exact hbe
   ·rintro rfl
    rcases he with z|z
    ·exact nown c b hc z
    ·rw[hc]at z;cases z;exact hb rfl
end
structure Un(fs ex:List Addr)(H H':Hp)(h h':Heap):Prop where
 keep:∀b o,h.get? b=some o→H b=none→b∉fs→b∉ex→h'.get? b=some o
 slot:∀b o,h.get? b=some o→H b=none→b∈fs→b∉ex→∃sl,h'.get? b=some { o with slots:=sl }
 free:∀b o,h.get? b=some o→H b=none→b∉ex→H' b=none
 there:∀b o,h.get? b=some o→b∉ex→∃o',h'.get? b=some o'
 tups:∀b xs,H b=some (.tup xs)→H' b=some (.tup xs)
 frzs:∀b o u,H b=some (.frz o u)→H' b=some (.frz o u)
 tbls:∀b ps,H b=some (.tbl ps)→∃more,H' b=some (.tbl (ps++more))
section
variable{fs fs' ex ex':List Addr}{H H1 H2:Hp}{h h1 h2 h':Heap}{a x e:Addr}{o:HO}
theorem Un.any(u:Un fs ex H H1 h h1){b:Addr}{ob:Obj}(q:h.get? b=some ob)(n:H b=none)(hx:b∉ex):∃sl,h1.get? b=some { ob with slots:=sl }:=by
 by_cases hb:b∈fs
 ·exact u.slot b ob q n hb hx
 ·exact⟨ob.slots,u.keep b ob q n hb hx⟩
theorem Un.trans(a:Un fs ex H H1 h h1)(b:Un fs ex H1 H2 h1 h2):Un fs ex H H2 h h2 where
 keep:=λc ob q n hc hx=>b.keep c ob (a.keep c ob q n hc hx) (a.free c ob q n hx) hc hx
 slot:=λc ob q n hc hx=>by
  obtain⟨sl,e1⟩:=a.slot c ob q n hc hx
  obtain⟨sl',e2⟩:=b.slot c _ e1 (a.free c ob q n hx) hc hx
  exact⟨sl',e2⟩
 free:=λc ob q n hx=>by
  obtain⟨o',e1⟩:=a.there c ob q hx
  exact b.free c o' e1 (a.free c ob q n hx) hx
 there:=λc ob q hx=>by
  obtain⟨o',e1⟩:=a.there c ob q hx
  exact b.there c o' e1 hx
 tups:=λc xs q=>b.tups c xs (a.tups c xs q)
 frzs:=λc ob xs q=>b.frzs c ob xs (a.frzs c ob xs q)
 tbls:=λc ps q=>by
  obtain⟨m1,e1⟩:=a.tbls c ps q
  obtain⟨m2,e2⟩:=b.tbls c _ e1
  exact⟨m1++m2,by rw[e2,lW]⟩
theorem Un.kept(k:∀b u,h.get? b=some u→h'.get? b=some u):Un fs ex H H h h':=
 ⟨λb ob q _ _ _=>k b ob q,λb ob q _ _ _=>⟨ob.slots,k b ob q⟩,λ_ _ _ n _=>n,λb ob q _=>⟨ob,k b ob q⟩,λ_ _ q=>q,λ_ _ _ q=>q,λ_ ps q=>⟨#[],by rw[q];simp⟩⟩
theorem Un.refl:Un fs ex H H h h:=Un.kept λ_ _ q=>q
theorem Un.laid(k:∀b u,h.get? b=some u→h'.get? b=some u)(hp:h.objs.size≤a)(hn:H a=none):Un fs ex H (upd H a o) h h' where
 keep:=λb u q _ _ _=>k b u q
 slot:=λb u q _ _ _=>⟨u.slots,k b u q⟩
 free:=λb u q n _=>by rw[qC (m9 (mY (kY q) hp))];exact n
 there:=λb u q _=>⟨u,k b u q⟩
 tups:=λb xs q=>by rw[qC (qF q hn)];exact q
 frzs:=λb u xs q=>by rw[qC (qF q hn)];exact q
 tbls:=λb ps q=>⟨#[],by rw[qC (qF q hn),q];simp⟩
theorem Un.write(mu:Mut (H x))(he:e=x∨H e=some (.own x))(k:∀b u,b≠e→h.get? b=some u→h'.get? b=some u)(heo:∃u,h'.get? e=some u):Un fs ex H (upd H x o) h h':=by
 have hx:∀b,H b=none→b≠x:=λb n z=>by subst z;rw[n]at mu;exact mu
 have hb:∀b,H b=none→b≠e:=λb n z=>by
  subst z
  rcases he with r|r
  ·exact hx b n r
  ·rw[n]at r;cases r
 have hm:∀b u,H b=some u→¬Mut (some u)→b≠x:=λb u q nm z=>by subst z;rw[q]at mu;exact nm mu
 refine⟨λb u q n _ _=>k b u (hb b n) q,λb u q n _ _=>⟨u.slots,k b u (hb b n) q⟩,λb u q n _=>by rw[qC (hx b n)];exact n,λb u q _=>?_,
  λb xs q=>by rw[qC (hm b _ q λz=>z)];exact q,λb u xs q=>by rw[qC (hm b _ q λz=>z)];exact q,λb ps q=>⟨#[],by rw[qC (hm b _ q λz=>z),q];simp⟩⟩
 by_cases hbe:b=e
 ·subst hbe;exact heo
 ·exact⟨u,k b u hbe q⟩
end
noncomputable def trk(h:Heap)(H:Hp):List Addr:=(List.range h.objs.size).filter λa=>(H a).isSome
noncomputable def hidT(h:Heap)(H:Hp):Heap:=PySem.W.hideAll h (trk h H)
theorem q7L(h:Heap)(H:Hp):(hidT h H).objs.size=h.objs.size:=PySem.W.hideAll_size _ _
theorem q5O{h:Heap}{H:Hp}{b:Addr}{o:Obj}(e:h.get? b=some o)(n:H b=none):(hidT h H).get? b=some o:=
 PySem.W.hideAll_get _ e λhm=>by
  have q:(H b).isSome=true:=(mI.mp hm).2
  rw[n]at q;simp at q
theorem qBE{h:Heap}{H:Hp}{b:Addr}{o:Obj}(e:(hidT h H).get? b=some o):h.get? b=some o∧H b=none:=by
 have e':h.get? b=some o:=PySem.W.of_hideAll (trk h H) e
 refine⟨e',?_⟩
 cases q:H b with
 |none=>rfl
 |some x=>
  have hm:b∈trk h H:=mI.mpr ⟨mL.mpr (kY e'),by simp[q]⟩
  have z:(hidT h H).get? b=none:=PySem.W.hideAll_none (trk h H) hm
  rw[z]at e;cases e
structure Mod(K:PySem.W.Frag)(mg:Str→Option Value)(base:Heap):Prop where
 kin:K.In base
 glob:base.Ns mainGlobals mg
 blt:∃mb,base.Ns builtinsNs mb∧∀x:Str,x≠"__name__"→mb x=bootBuiltins x
 nolimit:base.NoLimit
structure Cx where
 prog:Program
 w:World
 K:PySem.W.Frag
 mg:Str→Option Value
 base:Heap
 A:Around
 N:List Str
 s₀:Shared
 H₀:Hp
 env:Env
 outer:List Env
 stack:List Env
 ex:List Addr
 fn:Str→Bool
 calm:Bool
 pn:List (Addr×Obj)
 xe:Value→Shared→Prop
noncomputable def frs(l:List Env):List Addr:=l.filterMap (·.frame)
noncomputable abbrev Cx.fs(X:Cx):List Addr:=frs X.outer
noncomputable def Vis(sc:Scope)(x:Str):Prop:=sc.names.lookup x=some .local∨sc.names.lookup x=some .cell∨sc.names.lookup x=some .free
noncomputable def Loc(sc:Scope)(x:Str):Prop:=sc.names.lookup x=some .local∨sc.names.lookup x=some .cell
noncomputable def Look(env:Env)(h:Heap)(m:Str→Option Value)(x:Str)(u:Value):Prop:=
 (env.kindOf x=some .local∧m x=some u)∨((env.kindOf x=some .cell∨env.kindOf x=some .free)∧∃c,env.cells.lookup x=some c∧h.IsCell c (some u))
structure Cx.Ok(X:Cx):Prop where
 mod:Mod X.K X.mg X.base
 kind:X.env.scope.kind=.function
 glob:X.env.globals=mainGlobals
 blt:X.env.builtins=builtinsNs
 above:X.s₀.heap.objs.size≤X.env.locals
 inj:∀x y c,X.env.cells.lookup x=some c→X.env.cells.lookup y=some c→x=y
 has:∀x,(X.env.kindOf x=some .cell∨X.env.kindOf x=some .free)→∃c,X.env.cells.lookup x=some c
 cab:∀x c,X.fn x=true→X.env.cells.lookup x=some c→X.s₀.heap.objs.size≤c
 hd:X.calm=true→X.A.handled=none
 frames:X.A.frames=some X.stack
 stk:X.stack=X.outer∨(X.stack=X.env::X.outer∧X.env.frame=some X.env.locals)
 exf:∀b∈X.ex,b≠X.env.locals∧∀x c,X.env.cells.lookup x=some c→c≠b
 bs:∀b o,X.base.get? b=some o→X.s₀.heap.get? b=some o∧X.H₀ b=none
 bsz:X.base.objs.size≤X.s₀.heap.objs.size
 noex:∀b o,X.base.get? b=some o→b∉X.ex
 exfs:∀b∈X.ex,b∉X.fs
 funs:X.s₀.heap.FunFrames X.base X.outer
 frf:∀b∈X.fs,X.H₀ b=none
structure Inv(X:Cx)(pins:List (Addr×Obj))(σ:List (Option V))(H:Hp)(s:Shared):Prop where
 ok:X.Ok
 os:s.os=X.s₀.os
 bare:AllBare s.gens
 base:Un X.fs X.ex X.H₀ H X.s₀.heap s.heap
 loc:∃m,s.heap.Ns X.env.locals m∧∀(i:Nat) (x:Str) (v:V),X.N[i]?=some x→σ[i]?=some (some v)→Vis X.env.scope x→∃u,RelV v u∧Look X.env s.heap m x u
 cell:∀x c,X.env.cells.lookup x=some c→∃v,s.heap.IsCell c v
 free:H X.env.locals=none
 freeC:∀x c,X.env.cells.lookup x=some c→H c=none
 pin:∀p∈X.pn++pins,s.heap.get? p.1=some p.2∧H p.1=none∧p.1≠X.env.locals∧p.1∉X.fs∧∀v,p.2.data≠ .cell v
 hok:HOk X.prog X.w H s.heap
 len:σ.length=X.N.length
section
variable{X:Cx}{pins:List (Addr×Obj)}{σ:List (Option V)}{H H':Hp}{s:Shared}{h':Heap}
theorem Cx.Ok.nofr(ok:X.Ok){b:Addr}{o:Obj}(e:X.base.get? b=some o):b∉X.fs:=λhb=>by
 have:=(ok.funs.mem hb).1
 rw[e]at this;cases this
theorem Inv.bs(I:Inv X pins σ H s):∀b o,X.base.get? b=some o→s.heap.get? b=some o∧H b=none:=λb o e=>
 ⟨I.base.keep b o (I.ok.bs b o e).1 (I.ok.bs b o e).2 (I.ok.nofr e) (I.ok.noex b o e),I.base.free b o (I.ok.bs b o e).1 (I.ok.bs b o e).2 (I.ok.noex b o e)⟩
theorem Inv.bk(I:Inv X pins σ H s):∀b o,X.base.get? b=some o→s.heap.get? b=some o:=λb o e=>(I.bs b o e).1
theorem Inv.mod(I:Inv X pins σ H s):Mod X.K X.mg X.base:=I.ok.mod
theorem Inv.kIn(I:Inv X pins σ H s):X.K.In s.heap:=I.ok.mod.kin.keeps I.bk
theorem Inv.fr(I:Inv X pins σ H s):∃m,Fr X.base X.env.locals s.heap m:=
 let⟨m,hn,_⟩:=I.loc
 ⟨m,hn,I.bk,kO I.ok.bsz I.ok.above⟩
theorem Inv.lt(I:Inv X pins σ H s):X.env.locals<s.heap.objs.size:=let⟨_,hn,_⟩:=I.loc;hn.lt
theorem Inv.sz(I:Inv X pins σ H s):X.s₀.heap.objs.size≤s.heap.objs.size:=kO I.ok.above (wN I.lt)
theorem Inv.nofs(I:Inv X pins σ H s){a:Addr}(h:s.heap.objs.size≤a):a∉X.fs:=λhb=>by
 obtain⟨_,o,ho,_⟩:=I.ok.funs.mem hb
 exact absurd (mY (kY ho) (kO I.sz h)) (dR _)
theorem Inv.cne(I:Inv X pins σ H s):∀x c,X.env.cells.lookup x=some c→c≠X.env.locals:=λx c e z=>by
 obtain⟨v,o,ho,hd⟩:=I.cell x c e
 obtain⟨m,⟨o',es,ep,ho',hd',_⟩,_⟩:=I.loc
 rw[z,ho']at ho;cases ho;rw[hd']at hd;cases hd
theorem Inv.funs(I:Inv X pins σ H s):s.heap.FunFrames X.base X.outer:=by
 have all:∀(l:List Env),(∀b∈frs l,b∈X.fs)→X.s₀.heap.FunFrames X.base l→s.heap.FunFrames X.base l:=by
  intro l
  induction l with
  |nil=>intro _ _;trivial
  |cons env r ih=>
   intro hs hl
   obtain⟨hk,⟨L,o,hf,hn,ho,hd⟩,hr⟩:=hl
   have hL:L∈X.fs:=hs L (by unfold frs;rw[dD,hf];exact kU)
   obtain⟨sl,e⟩:=I.base.slot L o ho (I.ok.frf L hL) hL λz=>I.ok.exfs L z hL
   exact⟨hk,⟨L,_,hf,hn,e,hd⟩,ih (λb hb=>hs b (by unfold frs;rw[dD,hf];exact hU _ hb)) hr⟩
 exact all X.outer (λ_ hb=>hb) I.ok.funs
theorem Inv.stack(I:Inv X pins σ H s):s.heap.FunFrames X.base X.stack:=by
 rcases I.ok.stk with e|⟨e,hf⟩
 ·rw[e];exact I.funs
 ·rw[e]
  obtain⟨m,hn,_⟩:=I.loc
  refine .cons (by rw[I.ok.kind];decide) hf hn ?_ I.funs
  exact cA (kO I.ok.bsz I.ok.above)
theorem Inv.stkSub(I:Inv X pins σ H s):∀b∈frs X.stack,b∈X.env.locals::X.fs:=λb hb=>by
 rcases I.ok.stk with e|⟨e,hf⟩
 ·rw[e]at hb;exact hU _ hb
 ·rw[e]at hb
  unfold frs at hb
  rw[dD,hf]at hb
  exact hb
theorem Inv.stkFree(I:Inv X pins σ H s):∀b∈frs X.stack,H b=none:=λb hb=>by
 rcases kI.mp (I.stkSub b hb)with e|hb
 ·rw[e];exact I.free
 ·obtain⟨_,o,ho,_⟩:=I.ok.funs.mem hb
  exact I.base.free b o ho (I.ok.frf b hb) λz=>I.ok.exfs b z hb
theorem Inv.step{g':Array GenState}{t':Nat}{d':Drawn}{ch:List Addr}(I:Inv X pins σ H s)
 (hch:∀b∈ch,(b∈X.ex∨X.s₀.heap.objs.size≤b)∧b≠X.env.locals∧(∀x c,X.env.cells.lookup x=some c→c≠b)∧∀p∈X.pn++pins,p.1≠b)
 (keep:∀b o,b≠X.env.locals→b∉X.fs→b∉ch→s.heap.get? b=some o→H b=none→h'.get? b=some o)
 (slot:∀b o,b≠X.env.locals→b∈X.fs→b∉ch→s.heap.get? b=some o→H b=none→∃sl,h'.get? b=some { o with slots:=sl }) (free:∀b o,b∉ch→s.heap.get? b=some o→H b=none→H' b=none)
 (there:∀b o,b∉ch→s.heap.get? b=some o→∃o',h'.get? b=some o')
 (tups:∀b xs,H b=some (.tup xs)→H' b=some (.tup xs)) (frzs:∀b o u,H b=some (.frz o u)→H' b=some (.frz o u)) (tbls:∀b ps,H b=some (.tbl ps)→∃more,H' b=some (.tbl (ps++more)))
 (ns:∀m,s.heap.Ns X.env.locals m→h'.Ns X.env.locals m) (hok:HOk X.prog X.w H' h') (hg:AllBare g'):
 Inv X pins σ H' { s with heap:=h',gens:=g',drawn:=d',toks:=t' }:=by
 have neL:∀b o,X.s₀.heap.get? b=some o→b≠X.env.locals:=λb o e=>m9 (mY (kY e) I.ok.above)
 have neC:∀b o,X.s₀.heap.get? b=some o→b∉X.ex→b∉ch:=λb o e hx hb=>by
  rcases(hch b hb).1 with z|z
  ·exact hx z
  ·exact absurd (mY (kY e) z) (dR _)
 have cellK:∀x c,X.env.cells.lookup x=some c→∀v,s.heap.IsCell c v→h'.IsCell c v:=λx c e v ⟨o,ho,hd⟩=>by
  have nch:c∉ch:=λz=>(hch c z).2.2.1 x c e rfl
  by_cases hc:c∈X.fs
  ·obtain⟨sl,q⟩:=slot c o (I.cne x c e) hc nch ho (I.freeC x c e)
   exact⟨_,q,hd⟩
  ·exact⟨o,keep c o (I.cne x c e) hc nch ho (I.freeC x c e),hd⟩
 refine⟨I.ok,I.os,hg,⟨λb o e n hb hx=>?_,λb o e n hb hx=>?_,λb o e n hx=>?_,λb o e hx=>?_,λb xs e=>tups b xs (I.base.tups b xs e),λb o xs e=>frzs b o xs (I.base.frzs b o xs e),λb ps e=>?_⟩,?_,λx c e=>?_,?_,λx c e=>?_,λp hp=>?_,hok,I.len⟩
 ·exact keep b o (neL b o e) hb (neC b o e hx) (I.base.keep b o e n hb hx) (I.base.free b o e n hx)
 ·obtain⟨sl,e1⟩:=I.base.slot b o e n hb hx
  obtain⟨sl',e2⟩:=slot b _ (neL b o e) hb (neC b o e hx) e1 (I.base.free b o e n hx)
  exact⟨sl',e2⟩
 ·obtain⟨o',e1⟩:=I.base.there b o e hx
  exact free b o' (neC b o e hx) e1 (I.base.free b o e n hx)
 ·obtain⟨o',e1⟩:=I.base.there b o e hx
  exact there b o' (neC b o e hx) e1
 ·obtain⟨m1,e1⟩:=I.base.tbls b ps e
  obtain⟨m2,e2⟩:=tbls b _ e1
  exact⟨m1++m2,by rw[e2,lW]⟩
 ·obtain⟨m,hn,hl⟩:=I.loc
  refine⟨m,ns m hn,λi x v e1 e2 e3=>?_⟩
  obtain⟨u,r,l⟩:=hl i x v e1 e2 e3
  refine⟨u,r,?_⟩
  rcases l with l|⟨k,c,e,z⟩
  ·exact .inl l
  ·exact .inr ⟨k,c,e,cellK x c e _ z⟩
 ·obtain⟨v,z⟩:=I.cell x c e
  exact⟨v,cellK x c e v z⟩
 ·obtain⟨m,⟨o,_,_,ho,_⟩,_⟩:=I.loc
  exact free _ o (λz=>(hch _ z).2.1 rfl) ho I.free
 ·obtain⟨v,o,ho,hd⟩:=I.cell x c e
  exact free c o (λz=>(hch c z).2.2.1 x c e rfl) ho (I.freeC x c e)
 ·obtain⟨e,n,ne,nf,d⟩:=I.pin p hp
  have nch:p.1∉ch:=λz=>(hch p.1 z).2.2.2 p hp rfl
  exact⟨keep p.1 p.2 ne nf nch e n,free p.1 p.2 nch e n,ne,nf,d⟩
theorem Inv.un{t':Nat}(I:Inv X pins σ H s)(u:Un X.fs [] H H' s.heap h')(hok:HOk X.prog X.w H' h'):Inv X pins σ H' { s with heap:=h',toks:=t' }:=by
 obtain⟨m,⟨o,es,ep,ho,r⟩,_⟩:=id I.loc
 obtain⟨sl,hL⟩:=u.any ho I.free (by simp)
 exact I.step (g':=s.gens) (d':=s.drawn) (ch:=[]) (λ_ z=>nomatch z) (λb o _ hb _ e n=>u.keep b o e n hb (by simp)) (λb o _ hb _ e n=>u.slot b o e n hb (by simp)) (λb o _ e n=>u.free b o e n (by simp)) (λb o _ e=>u.there b o e (by simp)) u.tups u.frzs u.tbls (λm' hm=>by
  obtain⟨o',es',ep',ho',r'⟩:=hm
  rw[ho]at ho';cases ho'
  exact⟨_,es',ep',hL,r'⟩) hok I.bare
theorem Inv.call{g':Array GenState}{t':Nat}{d':Drawn}{ch:List Addr}(I:Inv X pins σ H s)(u:Un (frs X.stack) ch H H' s.heap h')(hok:HOk X.prog X.w H' h')(hg:AllBare g')
 (hch:∀b∈ch,(b∈X.ex∨X.s₀.heap.objs.size≤b)∧b≠X.env.locals∧(∀x c,X.env.cells.lookup x=some c→c≠b)∧∀p∈X.pn++pins,p.1≠b):
 Inv X pins σ H' { s with heap:=h',gens:=g',drawn:=d',toks:=t' }:=by
 obtain⟨m,⟨o,es,ep,ho,r⟩,_⟩:=id I.loc
 obtain⟨sl,hL⟩:=u.any ho I.free λz=>(hch _ z).2.1 rfl
 exact I.step (ch:=ch) hch (λb o hL hb hc e n=>u.keep b o e n (λz=>(kI.mp (I.stkSub b z)).elim hL hb) hc) (λb o _ _ hc e n=>u.any e n hc) (λb o hc e n=>u.free b o e n hc) (λb o hc e=>u.there b o e hc) u.tups u.frzs u.tbls (λm' hm=>by
  obtain⟨o',es',ep',ho',r'⟩:=hm
  rw[ho]at ho';cases ho'
  exact⟨_,es',ep',hL,r'⟩) hok hg
theorem Inv.turned{t':Nat}{it:Addr}(I:Inv X pins σ H s)(k:∀b o,b≠it→s.heap.get? b=some o→h'.get? b=some o)(hn:H it=none)(hL:it≠X.env.locals)
 (h1:it∈X.ex∨X.s₀.heap.objs.size≤it) (h2:∀x c,X.env.cells.lookup x=some c→c≠it) (h3:∀p∈X.pn++pins,p.1≠it):Inv X pins σ H { s with heap:=h',toks:=t' }:=by
 have nit:∀b u,H b=some u→b≠it:=λb u e z=>by rw[z,hn]at e;cases e
 refine I.step (g':=s.gens) (d':=s.drawn) (ch:=[it]) (λb hb=>?_) (λb o _ _ hc e _=>k b o (λz=>hc (by simp[z])) e) (λb o _ _ hc e _=>⟨o.slots,k b o (λz=>hc (by simp[z])) e⟩) (λ_ _ _ _ n=>n)
  (λb o hc e=>⟨o,k b o (λz=>hc (by simp[z])) e⟩) (λ_ _ e=>e) (λ_ _ _ e=>e) (λb ps e=>⟨#[],by rw[e];simp⟩) (λm hm=>?_) (λb u e=>?_) I.bare
 ·have e:b=it:=by simpa using hb
  subst e
  exact⟨h1,hL,h2,h3⟩
 ·obtain⟨o,es,ep,ho,r⟩:=hm
  exact⟨o,es,ep,k _ o (wH hL) ho,r⟩
 ·refine(I.hok b u e).stay (λc v hc q=>k c v ?_ q) (λ_ q=>q) λ_ _ q=>q
  rcases hc with z|z
  ·rw[z];exact nit b u e
  ·exact nit c _ z
theorem Inv.tok(I:Inv X pins σ H s)(t:Nat):Inv X pins σ H { s with toks:=t }:=I.un (h':=s.heap) (t':=t) Un.refl I.hok
theorem Inv.kept{t':Nat}(I:Inv X pins σ H s)(k:∀b u,s.heap.get? b=some u→h'.get? b=some u):Inv X pins σ H { s with heap:=h',toks:=t' }:=I.un (Un.kept k) (I.hok.kept k)
theorem Inv.laid{a:Addr}{o:HO}{t':Nat}(I:Inv X pins σ H s)(k:∀b u,s.heap.get? b=some u→h'.get? b=some u)(hp:s.heap.objs.size≤a)(new:jF X.prog X.w (upd H a o) h' a o):
 Inv X pins σ (upd H a o) { s with heap:=h',toks:=t' }:=I.un (Un.laid k hp (I.hok.fresh hp)) (I.hok.laid k hp new)
theorem Inv.write{x e:Addr}{o:HO}{t':Nat}(I:Inv X pins σ H s)(mu:Mut (H x))(he:e=x∨H e=some (.own x))(k:∀b u,b≠e→s.heap.get? b=some u→h'.get? b=some u)(heo:∃u,h'.get? e=some u)
 (new:jF X.prog X.w (upd H x o) h' x o):Inv X pins σ (upd H x o) { s with heap:=h',toks:=t' }:=I.un (Un.write mu he k heo) (I.hok.write mu he k heo new)
theorem Inv.weak{σ':List (Option V)}(I:Inv X pins σ H s)(hl:σ'.length=σ.length)(w:∀(i:Nat) v,σ'[i]?=some (some v)→σ[i]?=some (some v)):Inv X pins σ' H s:=
 ⟨I.ok,I.os,I.bare,I.base,let⟨m,hn,hl'⟩:=I.loc;⟨m,hn,λi x v e1 e2 e3=>hl' i x v e1 (w i v e2) e3⟩,I.cell,I.free,I.freeC,I.pin,I.hok,hl.trans I.len⟩
theorem Inv.pins_of{pins':List (Addr×Obj)}(I:Inv X pins σ H s)(h:∀p∈pins',s.heap.get? p.1=some p.2∧H p.1=none∧p.1≠X.env.locals∧p.1∉X.fs∧∀v,p.2.data≠ .cell v):Inv X pins' σ H s:=
 ⟨I.ok,I.os,I.bare,I.base,I.loc,I.cell,I.free,I.freeC,λp hp=>(gO.mp hp).elim (λz=>I.pin p (g8 _ z)) (h p),I.hok,I.len⟩
theorem q9H{N:List Str}(hN:N.Nodup){i j:Nat}{x:Str}(a:N[i]?=some x)(b:N[j]?=some x):i=j:=by
 obtain⟨h1,e1⟩:=kC.mp a
 obtain⟨h2,e2⟩:=kC.mp b
 exact(List.getElem_inj hN).mp (e1.trans e2.symm)
theorem q7M{M:Model}{A:Around}{E:Value→Shared→Prop}{i:Nat}{x:Str}{v:V}{u:Value}{Q:Unit→Shared→Prop}(I:Inv X pins σ H s)(hN:X.N.Nodup)(hi:X.N[i]?=some x)(hx:Loc X.env.scope x)(r:RelV v u)
 (h:∀s',Inv X pins (σ.set i (some v)) H s'→(∃a,Heap.SameBut a s.heap s'.heap∧(a=X.env.locals∨X.env.cells.lookup x=some a))→Q () s') (hf:X.fn x=true∨X.env.scope.names.lookup x=some .local:=by first|exact .inl rfl|exact .inr rfl|assumption):wpAny M A (storeName X.env x u) Q E s:=by
 obtain⟨m,hn,hl⟩:=id I.loc
 have hcls:(X.env.scope.kind== .class||(X.env.scope.kind== .module&&X.env.locals !=X.env.globals))=false:=by rw[I.ok.kind];rfl
 have hiσ:i<σ.length:=by rw[I.len];exact(kC.mp hi).1
 have cne:=I.cne
 have tracked:∀{a:Addr} {h':Heap},(∃o,s.heap.get? a=some o∧H a=none)→Heap.SameBut a s.heap h'→HOk X.prog X.w H h':=fun {a h'} ha hs b ob e=>by
  obtain⟨_,_,hfree⟩:=ha
  refine(I.hok b ob e).stay (λc w' hc q=>(hs.2 c ?_).trans q) (λ_ q=>q) λ_ _ q=>q
  rintro rfl
  rcases hc with rfl|hc
  ·rw[hfree]at e;cases e
  ·rw[hfree]at hc;cases hc
 rcases hx with hk|hk
 ·refine wpAny_storeName_local hk hn (λh' hn' hs=>?_) hcls
  obtain⟨oL,_,_,hoL,_⟩:=id hn
  refine h _ ⟨I.ok,I.os,I.bare,⟨λb o e n hb hx=>?_,λb o e n hb hx=>?_,I.base.free,λb o e hx=>?_,I.base.tups,I.base.frzs,I.base.tbls⟩,⟨_,hn',λj y v' e1 e2 e3=>?_⟩,λy c e=>?_,I.free,I.freeC,λp hp=>?_,tracked ⟨oL,hoL,I.free⟩ hs,by simpa using I.len⟩ ⟨_,hs,.inl rfl⟩
  ·exact(hs.2 b (m9 (mY (kY e) I.ok.above))).trans (I.base.keep b o e n hb hx)
  ·obtain⟨sl,e1⟩:=I.base.slot b o e n hb hx
   exact⟨sl,(hs.2 b (m9 (mY (kY e) I.ok.above))).trans e1⟩
  ·obtain⟨o',e1⟩:=I.base.there b o e hx
   exact⟨o',(hs.2 b (m9 (mY (kY e) I.ok.above))).trans e1⟩
  ·by_cases hj:j=i
   ·subst hj
    rw[hi]at e1;cases e1
    rw[nB hiσ]at e2
    cases e2
    exact⟨u,r,.inl ⟨hk,by simp⟩⟩
   ·rw[cB (wH hj)]at e2
    obtain⟨u',r',q⟩:=hl j y v' e1 e2 e3
    refine⟨u',r',?_⟩
    rcases q with⟨k,e⟩|⟨k,c,e,z⟩
    ·refine .inl ⟨k,?_⟩
     have:y≠x:=λe=>hj (q9H hN e1 (e▸hi))
     simp[this,e]
    ·exact .inr ⟨k,c,e,z.sameBut hs (cne y c e)⟩
  ·obtain⟨w',z⟩:=I.cell y c e
   exact⟨w',z.sameBut hs (cne y c e)⟩
  ·obtain⟨e,n,ne,nf,d⟩:=I.pin p hp
   exact⟨(hs.2 p.1 ne).trans e,n,ne,nf,d⟩
 ·have hfn:X.fn x=true:=by
   rcases hf with z|z
   ·exact z
   ·rw[z]at hk;cases hk
  obtain⟨c,hc⟩:=I.ok.has x (.inl hk)
  obtain⟨w',z⟩:=I.cell x c hc
  refine wpAny_storeName_cell I.ok.kind hk hc z (λh' hc' hs=>?_)
  obtain⟨oc,hoc,hocd⟩:=id z
  refine h { s with heap:=h' } ⟨I.ok,I.os,I.bare,⟨λb o e n hb hx=>?_,λb o e n hb hx=>?_,I.base.free,λb o e hx=>?_,I.base.tups,I.base.frzs,I.base.tbls⟩,⟨m,hn.sameBut hs (wH (cne x c hc)),λj y v' e1 e2 e3=>?_⟩,λy c' e=>?_,I.free,I.freeC,λp hp=>?_,tracked ⟨oc,hoc,I.freeC x c hc⟩ hs,by simpa using I.len⟩ ⟨c,hs,.inr hc⟩
  ·exact(hs.2 b (m9 (mY (kY e) (I.ok.cab x c hfn hc)))).trans (I.base.keep b o e n hb hx)
  ·obtain⟨sl,e1⟩:=I.base.slot b o e n hb hx
   exact⟨sl,(hs.2 b (m9 (mY (kY e) (I.ok.cab x c hfn hc)))).trans e1⟩
  ·obtain⟨o',e1⟩:=I.base.there b o e hx
   exact⟨o',(hs.2 b (m9 (mY (kY e) (I.ok.cab x c hfn hc)))).trans e1⟩
  ·by_cases hj:j=i
   ·subst hj
    rw[hi]at e1;cases e1
    rw[nB hiσ]at e2
    cases e2
    exact⟨u,r,.inr ⟨.inl hk,c,hc,hc'⟩⟩
   ·rw[cB (wH hj)]at e2
    obtain⟨u',r',q⟩:=hl j y v' e1 e2 e3
    refine⟨u',r',?_⟩
    rcases q with q|⟨k,c',e,z'⟩
    ·exact .inl q
    ·refine .inr ⟨k,c',e,z'.sameBut hs ?_⟩
     rintro rfl
     exact hj (q9H hN e1 (I.ok.inj _ _ _ e hc▸hi))
  ·by_cases hcc:c'=c
   ·subst hcc;exact⟨_,hc'⟩
   ·obtain⟨w2,z2⟩:=I.cell y c' e
    exact⟨w2,z2.sameBut hs hcc⟩
  ·obtain⟨e,n,ne,nf,d⟩:=I.pin p hp
   refine⟨(hs.2 p.1 ?_).trans e,n,ne,nf,d⟩
   intro q
   rw[q,hoc]at e
   have q':oc=p.2:=kN e
   exact d w' (by rw[←q'];exact hocd)
theorem q5P{M:Model}{A:Around}{E:Value→Shared→Prop}{i:Nat}{x:Str}{v:V}{u:Value}{Q:Unit→Shared→Prop}(I:Inv X pins σ H s)(hN:X.N.Nodup)(hi:X.N[i]?=some x)(hx:Loc X.env.scope x)(r:RelV v u)
 (h:∀s',Inv X pins (σ.set i (some v)) H s'→Q () s') (hf:X.fn x=true∨X.env.scope.names.lookup x=some .local:=by first|exact .inl rfl|exact .inr rfl|assumption):wpAny M A (storeName X.env x u) Q E s:=
 q7M I hN hi hx r (λs' I' _=>h s' I') hf
theorem Inv.call'{s':Shared}{ch:List Addr}(I:Inv X pins σ H s)(ho:s'.os=s.os)(u:Un (frs X.stack) ch H H' s.heap s'.heap)(hok:HOk X.prog X.w H' s'.heap)(hg:AllBare s'.gens)
 (hch:∀b∈ch,(b∈X.ex∨X.s₀.heap.objs.size≤b)∧b≠X.env.locals∧(∀x c,X.env.cells.lookup x=some c→c≠b)∧∀p∈X.pn++pins,p.1≠b):Inv X pins σ H' s':=by
 obtain⟨h',g',d',t',o'⟩:=s'
 have e:o'=s.os:=ho
 subst e
 exact I.call (g':=g') (t':=t') (d':=d') u hok hg hch
end
noncomputable abbrev XK:=Value→Option Addr→Hp→Prop
noncomputable abbrev St:=List (Option V)
noncomputable abbrev VK:=V→Hp→Prop
noncomputable abbrev TE:=St→Hp→VK→Prop
noncomputable abbrev TT:=St→Hp→(Bool→Hp→Prop)→Prop
noncomputable abbrev TA:=St→Hp→(List V→Hp→Prop)→Prop
structure Ends where
 nx:St→Hp→Prop
 rt:VK
 bk:St→Hp→Prop:=λ_ _=>False
 ct:St→Hp→Prop:=λ_ _=>False
noncomputable abbrev TS:=Ends→St→Hp→Prop
noncomputable def EP(X:Cx)(pins:List (Addr×Obj))(σ:St)(Q:VK)(u:Value)(s':Shared):Prop:=∃v H',Inv X pins σ H' s'∧RelV v u∧Q v H'
noncomputable def TP(X:Cx)(pins:List (Addr×Obj))(σ:St)(Q:Bool→Hp→Prop)(b:Bool)(s':Shared):Prop:=∃H',Inv X pins σ H' s'∧Q b H'
noncomputable def AP(X:Cx)(pins:List (Addr×Obj))(σ:St)(Q:List V→Hp→Prop)(us:List Value)(s':Shared):Prop:=∃vs H',Inv X pins σ H' s'∧Vals vs us∧Q vs H'
noncomputable def SP(X:Cx)(pins:List (Addr×Obj))(D:Ends)(f:Flow)(s':Shared):Prop:=
 match f with
 | .next=>∃σ' H',Inv X pins σ' H' s'∧D.nx σ' H'
 | .brk=>∃σ' H',Inv X pins σ' H' s'∧D.bk σ' H'
 | .cont=>∃σ' H',Inv X pins σ' H' s'∧D.ct σ' H'
 | .ret u=>∃v σ' H',Inv X pins σ' H' s'∧RelV v u∧D.rt v H'
noncomputable def PE(X:Cx)(e:Expr)(t:TE):Prop:=
 ∀(pins:List (Addr×Obj)) (s:Shared) (σ:St) (H:Hp) (Q:VK),Inv X pins σ H s→t σ H Q→wpAny (model X.prog X.w) X.A (eval e X.env) (EP X pins σ Q) X.xe s
noncomputable def PT(X:Cx)(e:Expr)(t:TT):Prop:=
 ∀(pins:List (Addr×Obj)) (s:Shared) (σ:St) (H:Hp) (Q:Bool→Hp→Prop),Inv X pins σ H s→t σ H Q→wpAny (model X.prog X.w) X.A (isTrue e X.env (eval e X.env)) (TP X pins σ Q) X.xe s
noncomputable def PW(X:Cx)(e:Expr)(t:TT):Prop:=
 ∀(whole:Sem Value) (pins:List (Addr×Obj)) (s:Shared) (σ:St) (H:Hp) (Q:Bool→Hp→Prop),Inv X pins σ H s→t σ H Q→wpAny (model X.prog X.w) X.A (isTrue e X.env whole) (TP X pins σ Q) X.xe s
theorem PW.pt{X:Cx}{e:Expr}{t:TT}(h:PW X e t):PT X e t:=h _
noncomputable def PA(X:Cx)(es:List Expr)(t:TA):Prop:=
 ∀(pos:Pos) (pins:List (Addr×Obj)) (s:Shared) (σ:St) (H:Hp) (Q:List V→Hp→Prop),Inv X pins σ H s→t σ H Q→wpAny (model X.prog X.w) X.A (spliced (backTo pos (starEach es X.env))) (AP X pins σ Q) X.xe s
noncomputable def PS(X:Cx)(st:Stmt)(t:TS):Prop:=
 ∀(pins:List (Addr×Obj)) (s:Shared) (σ:St) (H:Hp) (D:Ends),Inv X pins σ H s→t D σ H→wpAny (model X.prog X.w) X.A (exec st X.env) (SP X pins D) X.xe s
noncomputable def PSs(X:Cx)(st:List Stmt)(t:TS):Prop:=
 ∀(pins:List (Addr×Obj)) (s:Shared) (σ:St) (H:Hp) (D:Ends),Inv X pins σ H s→t D σ H→wpAny (model X.prog X.w) X.A (execs st X.env) (SP X pins D) X.xe s
theorem thn{α:Type}{t:Sem α}{Q Q':α→Shared→Prop}{M:Model}{A:Around}{E:Value→Shared→Prop}{s:Shared}(h:wpAny M A t Q E s)(hQ:∀a s,Q a s→Q' a s):wpAny M A t Q' E s:=dP h hQ λ_ _ x=>x
section
variable{X:Cx}
theorem bin{a b:Expr}{ta tb:TE}(ha:PE X a ta)(hb:PE X b tb){pins:List (Addr×Obj)}{s:Shared}{σ:St}{H:Hp}{R:V→V→Hp→Prop}(I:Inv X pins σ H s)(h:ta σ H λx H1=>tb σ H1 λy H2=>R x y H2)
 {α:Type} {Q:α→Shared→Prop} {f:Value→Value→Sem α}
 (hf:∀v u s2 x y H2,Inv X pins σ H2 s2→RelV x v→RelV y u→R x y H2→wpAny (model X.prog X.w) X.A (f v u) Q X.xe s2):
 wpAny (model X.prog X.w) X.A (eval a X.env) (λv s₁=>wpAny (model X.prog X.w) X.A (eval b X.env) (λu s₂=>wpAny (model X.prog X.w) X.A (f v u) Q X.xe s₂) X.xe s₁) X.xe s:=by
 refine thn (ha pins s σ H _ I h) λv s1 hZ=>?_
 obtain⟨x,H1,I1,r1,q1⟩:=hZ
 refine thn (hb pins s1 σ H1 _ I1 q1) λu s2 hZ=>?_
 obtain⟨y,H2,I2,r2,q2⟩:=hZ
 exact hf v u s2 x y H2 I2 r1 r2 q2
noncomputable def tVar(i:Nat):TE:=λσ H Q=>∃v,σ[i]?=some (some v)∧Q v H
noncomputable def tC(v:V):TE:=λ_ H Q=>Q v H
theorem qI0{i:Nat}{x:Str}{pos:Pos}(hN:X.N[i]?=some x)(hv:Vis X.env.scope x)(hd:(x==("__debug__":Str))=false:=by decide)(hcd:(x==("__classdict__":Str))=false:=by decide):PE X (.Name x pos) (tVar i):=by
 intro pins s σ H Q I h
 obtain⟨v,e,h⟩:=h
 obtain⟨m,hn,hl⟩:=I.loc
 obtain⟨u,r,l⟩:=hl i x v hN e hv
 have fin:EP X pins σ Q u s:=⟨v,H,I,r,h⟩
 rcases l with⟨hk,hm⟩|⟨hk,c,hc,hcell⟩
 ·exact aJ (lA I.ok.kind hk hn hm fin) hd
 ·rcases hk with hk|hk
  ·exact aJ (lK I.ok.kind hk hc hcell fin) hd
  ·exact aJ (wpAny_loadName_free I.ok.kind hk hc hcell fin hcd) hd
theorem qI{i j pos}:PE X (.Constant (.int i) j pos) (tC (.int i)):=λ_ _ _ H _ I h=>wpAny_Constant_int ⟨.int i,H,I.tok _,⟨_,rfl⟩,h⟩
theorem uC{b j pos}:PE X (.Constant (.bool b) j pos) (tC (.bl b)):=λ_ _ _ H _ I h=>Constant_bool ⟨.bl b,H,I,rfl,h⟩
theorem yY{j pos}:PE X (.Constant .none j pos) (tC .non):=λ_ _ _ H _ I h=>Constant_none ⟨.non,H,I,rfl,h⟩
theorem q0Y{x j pos}:PE X (.Constant (.str x) j pos) (tC (.str x)):=λ_ _ _ H _ I h=>Calls.Constant_str ⟨.str x,H,I.tok _,⟨_,rfl⟩,h⟩
noncomputable def Gl(X:Cx)(x:Str):Prop:=X.env.kindOf x=some .globalImplicit
theorem q2V{E:Value→Shared→Prop}{pins:List (Addr×Obj)}{s:Shared}{σ:St}{H:Hp}{x:Str}{u:Value}{pos:Pos}{Q:Value→Shared→Prop}(I:Inv X pins σ H s)(hg:Gl X x)(hm:X.mg x=some u)(h:Q u s)
 (hd:(x==("__debug__":Str))=false:=by decide):wpAny (model X.prog X.w) X.A (eval (.Name x pos) X.env) Q E s:=
 p6 I.ok.kind hg (Calls.loadGlobal_global (by rw[I.ok.glob];exact I.mod.glob.keeps I.bk) hm h) hd
theorem q3G{E:Value→Shared→Prop}{pins:List (Addr×Obj)}{s:Shared}{σ:St}{H:Hp}{x:Str}{u:Value}{pos:Pos}{Q:Value→Shared→Prop}(I:Inv X pins σ H s)(hg:Gl X x)(hm:X.mg x=none)(hv:bootBuiltins x=some u)(h:Q u s)
 (hn:x≠"__name__":=by decide) (hd:(x==("__debug__":Str))=false:=by decide):wpAny (model X.prog X.w) X.A (eval (.Name x pos) X.env) Q E s:=by
 obtain⟨mb,h1,h2⟩:=I.mod.blt
 exact p6 I.ok.kind hg (Calls.loadGlobal_builtin (by rw[I.ok.glob];exact I.mod.glob.keeps I.bk) hm (by rw[I.ok.blt];exact h1.keeps I.bk) ((h2 x hn).trans hv) h) hd
theorem q0Z{x:Str}{v:V}{u:Value}{pos:Pos}(hg:Gl X x)(hm:X.mg x=some u)(r:RelV v u)(hd:(x==("__debug__":Str))=false:=by decide):PE X (.Name x pos) (tC v):=
 λ_ _ _ H _ I h=>q2V I hg hm ⟨v,H,I,r,h⟩ hd
theorem zT{x:Str}{v:V}{u:Value}{pos:Pos}(hg:Gl X x)(hm:X.mg x=none)(hv:bootBuiltins x=some u)(r:RelV v u)(hn:x≠"__name__":=by decide)(hd:(x==("__debug__":Str))=false:=by decide):PE X (.Name x pos) (tC v):=
 λ_ _ _ H _ I h=>q3G I hg hm hv ⟨v,H,I,r,h⟩ hn hd
variable{a b:Expr}{ta tb:TE}{pos:Pos}
noncomputable def PC(X:Cx)(op:CmpOp)(a b:Expr)(t:TE):Prop:=
 ∀(pins:List (Addr×Obj)) (s:Shared) (σ:St) (H:Hp) (Q:VK),Inv X pins σ H s→t σ H Q→
  wpAny (model X.prog X.w) X.A (eval a X.env) (λv s₁=>wpAny (model X.prog X.w) X.A (eval b X.env) (λu s₂=>wpAny (model X.prog X.w) X.A (compareOp op v u) (EP X pins σ Q) X.xe s₂) X.xe s₁) X.xe s
noncomputable def tB(t:TE):TT:=λσ H Q=>t σ H λx H1=>∃c,x=.bl c∧Q c H1
theorem qI1{op:CmpOp}{t:TE}(h:PC X op a b t)(h1:behindInMarks op b=false:=by first|exact nobehind _ (by decide) (by decide)|rfl):PE X (.Compare a [op] [b] pos) t:=λpins s σ H Q I hw=>wpAny_Compare1 (h pins s σ H Q I hw) h1
theorem qAM{op:CmpOp}{t:TE}(h:PC X op a b t)(h1:behindInMarks op b=false:=by first|exact nobehind _ (by decide) (by decide)|rfl):PT X (.Compare a [op] [b] pos) (tB t):=by
 intro pins s σ H Q I hw
 refine nU (thn (h pins s σ H _ I hw) λv s1 h1=>thn h1 λu s2 h2=>thn h2 λc s3 hZ=>?_) h1
 obtain⟨x,H1,I1,r1,q1⟩:=hZ
 obtain⟨d,rfl,q⟩:=q1
 cases r1
 exact dE ⟨H1,I1,q⟩
theorem jS{e:Expr}{t:TE}(h:PE X e t)(he:∀whole,isTrue e X.env whole=(do let v←whole;standAt e.pos;holding [v] (truthy v)):=by intro _;rfl):PT X e (tB t):=by
 intro pins s σ H Q I hw
 refine isTrue_plain (thn (h pins s σ H _ I hw) λv s1 hZ=>?_) (he _)
 obtain⟨x,H1,I1,r1,q1⟩:=hZ
 obtain⟨d,rfl,q⟩:=q1
 cases r1
 exact dE ⟨H1,I1,q⟩
variable{tA tB':TT}{rest:List Expr}
noncomputable def tAnd(t u:TT):TT:=λσ H Q=>t σ H λc H1=>if c=true then u σ H1 Q else Q false H1
noncomputable def tOr(t u:TT):TT:=λσ H Q=>t σ H λc H1=>if c=true then Q true H1 else u σ H1 Q
noncomputable def tNot(t:TT):TT:=λσ H Q=>t σ H λc H1=>Q (!c) H1
theorem q5F(ha:PT X a tA):PW X (.BoolOp .And [a] pos) tA:=by
 intro wh pins s σ H Q I h
 refine isTrue_and (thn (ha pins s σ H Q I h) λc s1 e=>?_)
 cases c with
 |true=>exact isTrue_and_nil e
 |false=>exact e
theorem zX(ha:PT X a tA):PW X (.BoolOp .Or [a] pos) tA:=by
 intro wh pins s σ H Q I h
 refine isTrue_or (thn (ha pins s σ H Q I h) λc s1 e=>?_)
 cases c with
 |false=>exact isTrue_or_nil e
 |true=>exact e
theorem q8A(ha:PT X a tA)(hb:PW X (.BoolOp .And (b::rest) pos) tB'):PW X (.BoolOp .And (a::b::rest) pos) (tAnd tA tB'):=by
 intro wh pins s σ H Q I h
 refine isTrue_and (thn (ha pins s σ H _ I h) λc s1 hZ=>?_)
 obtain⟨H1,I1,q1⟩:=hZ
 cases c with
 |true=>exact hb wh pins s1 σ H1 Q I1 q1
 |false=>exact⟨H1,I1,q1⟩
theorem q0F(ha:PT X a tA)(hb:PW X (.BoolOp .Or (b::rest) pos) tB'):PW X (.BoolOp .Or (a::b::rest) pos) (tOr tA tB'):=by
 intro wh pins s σ H Q I h
 refine isTrue_or (thn (ha pins s σ H _ I h) λc s1 hZ=>?_)
 obtain⟨H1,I1,q1⟩:=hZ
 cases c with
 |true=>exact⟨H1,I1,q1⟩
 |false=>exact hb wh pins s1 σ H1 Q I1 q1
theorem yL(ha:PT X a tA):PT X (.UnaryOp .Not a pos) (tNot tA):=by
 intro pins s σ H Q I h
 exact isTrue_not (ha pins s σ H (λc H1=>Q (!c) H1) I h)
noncomputable def qK3(ta tb:TE):TE:=λσ H Q=>ta σ H λx H1=>∃c,x=.bl c∧if c=true then tb σ H1 Q else Q (.bl false) H1
noncomputable def tOrV(ta tb:TE):TE:=λσ H Q=>ta σ H λx H1=>∃c,x=.bl c∧if c=true then Q (.bl true) H1 else tb σ H1 Q
noncomputable def qK4(ta:TE):TE:=λσ H Q=>ta σ H λx H1=>∃c,x=.bl c∧Q (.bl (!c)) H1
theorem q10{op}{t:TE}(h:PE X a t):PE X (.BoolOp op [a] pos) t:=λpins s σ H Q I hw=>BoolOp_one (h pins s σ H Q I hw)
theorem q1T(ha:PE X a ta)(hb:PE X (.BoolOp .And (b::rest) pos) tb):PE X (.BoolOp .And (a::b::rest) pos) (qK3 ta tb):=by
 intro pins s σ H Q I h
 refine BoolOp_and (thn (ha pins s σ H _ I h) λv s1 hZ=>?_)
 obtain⟨x,H1,I1,r1,q1⟩:=hZ
 obtain⟨c,rfl,q1⟩:=q1
 cases r1
 refine dE ?_
 cases c with
 |true=>exact hb pins s1 σ H1 Q I1 q1
 |false=>exact⟨.bl false,H1,I1,rfl,q1⟩
theorem qHF(ha:PE X a ta)(hb:PE X (.BoolOp .Or (b::rest) pos) tb):PE X (.BoolOp .Or (a::b::rest) pos) (tOrV ta tb):=by
 intro pins s σ H Q I h
 refine BoolOp_or (thn (ha pins s σ H _ I h) λv s1 hZ=>?_)
 obtain⟨x,H1,I1,r1,q1⟩:=hZ
 obtain⟨c,rfl,q1⟩:=q1
 cases r1
 refine dE ?_
 cases c with
 |false=>exact hb pins s1 σ H1 Q I1 q1
 |true=>exact⟨.bl true,H1,I1,rfl,q1⟩
theorem qAN(ha:PE X a ta):PE X (.UnaryOp .Not a pos) (qK4 ta):=by
 intro pins s σ H Q I h
 refine UnaryOp_ (thn (ha pins s σ H _ I h) λv s1 hZ=>?_)
 obtain⟨x,H1,I1,r1,q1⟩:=hZ
 obtain⟨c,rfl,q1⟩:=q1
 cases r1
 exact not_of (dE ⟨.bl (!c),H1,I1,rfl,q1⟩)
noncomputable def tIf(t:TT)(ta tb:TE):TE:=λσ H Q=>t σ H λc H1=>if c=true then ta σ H1 Q else tb σ H1 Q
theorem qDE{c:Expr}(hc:PT X c tA)(ha:PE X a ta)(hb:PE X b tb):PE X (.IfExp c a b pos) (tIf tA ta tb):=by
 intro pins s σ H Q I h
 refine wpAny_IfExp (thn (hc pins s σ H _ I h) λd s1 hZ=>?_)
 obtain⟨H1,I1,q1⟩:=hZ
 cases d with
 |true=>exact ha pins s1 σ H1 Q I1 q1
 |false=>exact hb pins s1 σ H1 Q I1 q1
end
noncomputable def SqL(K:PySem.W.Frag)(H:Hp)(a:Addr)(xs:List V):Prop:=
 Rd H a (.lst xs)∨
  ∃(o:Obj) (its:Array Value) (n:Nat),K.lookup a=some o∧o.cls=.type "list"∧o.dict=none∧o.data=.seq its n∧its.size≤sizeLine∧Vals xs its.toList
noncomputable def SqT(K:PySem.W.Frag)(H:Hp)(a:Addr)(xs:List V):Prop:=
 Rd H a (.tup xs)∨
  ∃(o:Obj) (its:Array Value) (n:Nat),K.lookup a=some o∧o.cls=.type "tuple"∧o.data=.seq its n∧its.size≤sizeLine∧Vals xs its.toList
noncomputable def absV:Value→Option V
 | .none=>some .non
 | .bool b=>some (.bl b)
 | .int i _=>some (.int i)
 | .str x _=>some (.str x)
 | .bytes b _=>some (.byt b)
 | .float b _=>some (.flt b)
 | .ref a=>some (.ref a)
 | .type n=>some (.ty n)
 |_=>none
theorem RelV.abs{x:V}{u:Value}(r:RelV x u):absV u=some x:=by
 cases x with
 |non=>cases r;rfl
 |bl _=>cases r;rfl
 |int _=>obtain⟨t,rfl⟩:=r;rfl
 |str _=>obtain⟨t,rfl⟩:=r;rfl
 |byt _=>obtain⟨t,rfl⟩:=r;rfl
 |flt _=>obtain⟨t,rfl⟩:=r;rfl
 |ref _=>cases r;rfl
 |ty _=>cases r;rfl
theorem RelV.inj{x y:V}{u:Value}(r:RelV x u)(q:RelV y u):x=y:=kN (r.abs.symm.trans q.abs)
theorem Vals.inj{xs ys:List V}{us:List Value}(h:Vals xs us):Vals ys us→xs=ys:=by
 induction h generalizing ys with
 |nil=>exact λg=>by cases g;rfl
 |cons r t ih=>
  intro g
  cases g with
  |cons r' t'=>rw[r.inj r',ih t']
section
variable{X:Cx}{pins:List (Addr×Obj)}{σ:St}{H:Hp}{s:Shared}{a:Addr}{xs ys:List V}
theorem SqL.of{K:PySem.W.Frag}(h:H a=some (.lst xs)):SqL K H a xs:=.inl (.inl h)
theorem SqT.of{K:PySem.W.Frag}(h:H a=some (.tup xs)):SqT K H a xs:=.inl (.inl h)
theorem Inv.list(I:Inv X pins σ H s)(h:SqL X.K H a xs):∃its:List Value,Vals xs its∧PlainL s.heap a its.toArray∧xs.length≤sizeLine:=by
 rcases h with h|⟨o,its,n,hk,hc,hd,hs,hz,r⟩
 ·obtain⟨z,its,n,r,e⟩:=h.ok I.hok
  exact⟨its,r,⟨_,n,e,rfl,rfl,rfl⟩,z⟩
 ·refine⟨its.toList,r,⟨o,n,I.kIn a o hk,hc,hd,by simpa using hs⟩,?_⟩
  have e:=r.length
  simp only[mR]at e
  lia
theorem Inv.tuple(I:Inv X pins σ H s)(h:SqT X.K H a xs):∃its:List Value,Vals xs its∧IsTup s.heap a its.toArray∧xs.length≤sizeLine:=by
 rcases h with h|⟨o,its,n,hk,hc,hs,hz,r⟩
 ·obtain⟨z,its,r,p⟩:=h.ok I.hok
  exact⟨its,r,p,z⟩
 ·refine⟨its.toList,r,⟨o,I.kIn a o hk,hc,n,by simpa using hs⟩,?_⟩
  have e:=r.length
  simp only[mR]at e
  lia
theorem Inv.list_inj(I:Inv X pins σ H s)(h:SqL X.K H a xs)(h':SqL X.K H a ys):xs=ys:=by
 obtain⟨its,r,⟨o,n,e,_,_,d⟩,_⟩:=I.list h
 obtain⟨its',r',⟨o',n',e',_,_,d'⟩,_⟩:=I.list h'
 rw[e]at e';cases e'
 rw[d]at d'
 injection d' with d1 _
 have:its=its':=by simpa using gX Array.toList d1
 subst this
 exact r.inj r'
theorem Inv.tuple_inj(I:Inv X pins σ H s)(h:SqT X.K H a xs)(h':SqT X.K H a ys):xs=ys:=by
 obtain⟨its,r,⟨o,e,_,n,d⟩,_⟩:=I.tuple h
 obtain⟨its',r',⟨o',e',_,n',d'⟩,_⟩:=I.tuple h'
 rw[e]at e';cases e'
 rw[d]at d'
 injection d' with d1 _
 have:its=its':=by simpa using gX Array.toList d1
 subst this
 exact r.inj r'
end
noncomputable abbrev Cx.wish(X:Cx)(E:Value→Shared→Prop):Cx:={ X with xe:=E }
noncomputable abbrev Cx.nox(X:Cx):Cx:=X.wish λ_ _=>False
theorem Cx.Ok.wish{X:Cx}(ok:X.Ok)(E:Value→Shared→Prop):(X.wish E).Ok:=
 ⟨ok.mod,ok.kind,ok.glob,ok.blt,ok.above,ok.inj,ok.has,ok.cab,ok.hd,ok.frames,ok.stk,ok.exf,ok.bs,ok.bsz,ok.noex,ok.exfs,ok.funs,ok.frf⟩
theorem Cx.Ok.unwish{X:Cx}{E:Value→Shared→Prop}(ok:(X.wish E).Ok):X.Ok:=
 ⟨ok.mod,ok.kind,ok.glob,ok.blt,ok.above,ok.inj,ok.has,ok.cab,ok.hd,ok.frames,ok.stk,ok.exf,ok.bs,ok.bsz,ok.noex,ok.exfs,ok.funs,ok.frf⟩
section
variable{X:Cx}{pins:List (Addr×Obj)}{σ:St}{H:Hp}{s:Shared}{E:Value→Shared→Prop}
theorem Inv.wish(I:Inv X pins σ H s)(E:Value→Shared→Prop):Inv (X.wish E) pins σ H s:=⟨I.ok.wish E,I.os,I.bare,I.base,I.loc,I.cell,I.free,I.freeC,I.pin,I.hok,I.len⟩
theorem Inv.unwish(I:Inv (X.wish E) pins σ H s):Inv X pins σ H s:=⟨I.ok.unwish,I.os,I.bare,I.base,I.loc,I.cell,I.free,I.freeC,I.pin,I.hok,I.len⟩
theorem SP.unwish{D:Ends}{f:Flow}{s':Shared}(h:SP (X.wish E) pins D f s'):SP X pins D f s':=by
 cases f with
 |next=>obtain⟨σ',H',I,q⟩:=h;exact⟨σ',H',I.unwish,q⟩
 |brk=>obtain⟨σ',H',I,q⟩:=h;exact⟨σ',H',I.unwish,q⟩
 |cont=>obtain⟨σ',H',I,q⟩:=h;exact⟨σ',H',I.unwish,q⟩
 |ret u=>obtain⟨v,σ',H',I,r,q⟩:=h;exact⟨v,σ',H',I.unwish,r,q⟩
theorem PSs.nox{st:List Stmt}{t:TS}(h:PSs X.nox st t):PSs X st t:=λpins s σ H D I hw=>
 dP (h pins s σ H D (I.wish _) hw) (λ_ _ q=>q.unwish) λ_ _ z=>False.elim z
end
section
variable{X:Cx}{st:Stmt}{rest:List Stmt}{t u:TS}{e:Expr}{te:TE}{pos:Pos}
noncomputable def qK5:TS:=λD σ H=>D.nx σ H
noncomputable def tSeq(t u:TS):TS:=λD σ H=>t { D with nx:=u D } σ H
theorem qR:PSs X [] qK5:=λ_ _ σ H _ I h=>pM ⟨σ,H,I,h⟩
theorem qB(h1:PS X st t)(h2:PSs X rest u):PSs X (st::rest) (tSeq t u):=by
 intro pins s σ H D I h
 refine wpAny_execs_cons (thn (h1 pins s σ H { D with nx:=u D } I h) λf s1 q=>?_)
 cases f with
 |next=>
  obtain⟨σ',H',I',q⟩:=q
  exact h2 pins s1 σ' H' D I' q
 |ret v=>exact q
 |brk=>exact q
 |cont=>exact q
theorem qE(h1:PS X st t):PSs X [st] t:=by
 intro pins s σ H D I h
 refine wpAny_execs_cons (thn (h1 pins s σ H D I h) λf s1 q=>?_)
 cases f with
 |next=>exact pM q
 |ret v=>exact q
 |brk=>exact q
 |cont=>exact q
theorem Inv.quiet{pins:List (Addr×Obj)}{σ:St}{H:Hp}{s:Shared}(I:Inv X pins σ H s):interactive X.env=false:=by simp[interactive,I.ok.kind]
noncomputable def qK6(te:TE):TS:=λD σ H=>te σ H λ_ H1=>D.nx σ H1
theorem qX(he:PE X e te)(hs:swapsWith e none pos.line X.env=pure false:=by rfl):PS X (.Expr e pos) (qK6 te):=by
 intro pins s σ H D I h
 exact wpAny_Expr_any (thn (he pins s σ H _ I h) λv s1 ⟨x,H1,I1,r1,q1⟩=>⟨σ,H1,I1,q1⟩) I.quiet hs
noncomputable def tRet(te:TE):TS:=λD σ H=>te σ H D.rt
theorem qL(he:PE X e te):PS X (.Return (some e) pos) (tRet te):=by
 intro pins s σ H D I h
 exact wpAny_Return_some (thn (he pins s σ H _ I h) λv s1 ⟨x,H1,I1,r1,q1⟩=>⟨x,σ,H1,I1,r1,q1⟩)
noncomputable def tIfS(c:TT)(t u:TS):TS:=λD σ H=>c σ H λb H1=>if b=true then t D σ H1 else u D σ H1
theorem jB{c:Expr}{a b:List Stmt}{tc:TT}(hc:PT X c tc)(ha:PSs X a t)(hb:PSs X b u):PS X (.If c a b pos) (tIfS tc t u):=by
 intro pins s σ H D I h
 refine wpAny_If (thn (hc pins s σ H _ I h) λd s1 hZ=>?_)
 obtain⟨H1,I1,q1⟩:=hZ
 cases d with
 |true=>exact ha pins s1 σ H1 D I1 q1
 |false=>exact hb pins s1 σ H1 D I1 q1
noncomputable def qI2:TS:=λ_ _ _=>False
theorem jG:PS X st qI2:=λ_ _ _ _ _ _ h=>h.elim
end
noncomputable abbrev TG:=V→St→Hp→(St→Hp→Prop)→Prop
noncomputable abbrev TGs:=List V→St→Hp→(St→Hp→Prop)→Prop
noncomputable def PG(X:Cx)(target:Expr)(t:TG):Prop:=
 ∀(pins:List (Addr×Obj)) (s:Shared) (σ:St) (H:Hp) (v:V) (u:Value) (Q:St→Hp→Prop),Inv X pins σ H s→RelV v u→t v σ H Q→
  wpAny (model X.prog X.w) X.A (assign target X.env u) (λ_ s'=>∃σ' H',Inv X pins σ' H' s'∧Q σ' H') X.xe s
noncomputable def PGs(X:Cx)(ts:List Expr)(t:TGs):Prop:=
 ∀(pins:List (Addr×Obj)) (s:Shared) (σ:St) (H:Hp) (vs:List V) (us:List Value) (Q:St→Hp→Prop),Inv X pins σ H s→Vals vs us→t vs σ H Q→
  wpAny (model X.prog X.w) X.A (assignInOrder ((assignEach ts X.env).map (·.2)) us) (λ_ s'=>∃σ' H',Inv X pins σ' H' s'∧Q σ' H') X.xe s
noncomputable abbrev TSet:=V→V→V→Hp→(Hp→Prop)→Prop
noncomputable def PSet(X:Cx)(t:TSet):Prop:=
 ∀(pins:List (Addr×Obj)) (s:Shared) (σ:St) (H:Hp) (o i v:V) (ov iv u:Value) (Q:Hp→Prop),Inv X pins σ H s→RelV o ov→RelV i iv→RelV v u→t o i v H Q→
  wpAny (model X.prog X.w) X.A (setItem ov iv u) (λ_ s'=>∃H',Inv X pins σ H' s'∧Q H') X.xe s
noncomputable abbrev TIp:=V→V→Hp→VK→Prop
noncomputable def PIp(X:Cx)(op:Operator)(t:TIp):Prop:=
 ∀(pins:List (Addr×Obj)) (s:Shared) (σ:St) (H:Hp) (x y:V) (v u:Value) (Q:VK),Inv X pins σ H s→RelV x v→RelV y u→t x y H Q→
  wpAny (model X.prog X.w) X.A (inplaceOp op v u) (EP X pins σ Q) X.xe s
section
variable{X:Cx}{pos:Pos}
noncomputable def q1U(i:Nat):TG:=λv σ H Q=>Q (σ.set i (some v)) H
theorem qU{i:Nat}{x:Str}(hN:X.N.Nodup)(hi:X.N[i]?=some x)(hx:Loc X.env.scope x)(hf:X.fn x=true∨X.env.scope.names.lookup x=some .local:=by first|exact .inl rfl|exact .inr rfl|assumption):PG X (.Name x pos) (q1U i):=by
 intro pins s σ H v u Q I r h
 exact xC (q5P I hN hi hx r (λs' I'=>⟨_,H,I',h⟩) hf)
noncomputable def gNil:TGs:=λvs σ H Q=>vs=[]∧Q σ H
noncomputable def qHG(t:TG)(u:TGs):TGs:=λvs σ H Q=>∃v r,vs=v::r∧t v σ H λσ' H'=>u r σ' H' Q
theorem q11:PGs X [] gNil:=by
 intro pins s σ H vs us Q I r h
 obtain⟨e,h⟩:=h
 subst e
 cases r
 exact assignInOrder_nil ⟨σ,H,I,h⟩
theorem jV{e:Expr}{es:List Expr}{t:TG}{u:TGs}(h1:PG X e t)(h2:PGs X es u)
 (hs:(assignEach (e::es) X.env).map (·.2)=assign e X.env::(assignEach es X.env).map (·.2):=by rfl):PGs X (e::es) (qHG t u):=by
 intro pins s σ H vs us Q I r h
 obtain⟨v,vr,e1,h⟩:=h
 subst e1
 cases r with
 |cons r rr=>
  rw[hs]
  refine assignInOrder_cons (thn (h1 pins s σ H _ _ _ I r h) λ_ s1 hZ=>?_)
  obtain⟨σ1,H1,I1,q1⟩:=hZ
  exact h2 pins s1 σ1 H1 _ _ Q I1 rr q1
noncomputable def gTup(K:PySem.W.Frag)(n:Nat)(t:TGs):TG:=λv σ H Q=>∃a xs,v=.ref a∧SqT K H a xs∧xs.length=n∧t xs σ H Q
theorem q5Q{es:List Expr}{k:Nat}{t:TGs}{n:Nat}(hc:X.calm=true)(h:PGs X es t)
 (hn:(assignEach es X.env).length=n:=by rfl) (hst:(assignEach es X.env).findIdx? (·.1)=none:=by rfl):PG X (.Tuple es k pos) (gTup X.K n t):=by
 intro pins s σ H v u Q I r hw
 obtain⟨a,xs,e1,hq,hl,hw⟩:=hw
 subst e1
 cases r
 obtain⟨its,rv,ht,hz⟩:=I.tuple hq
 refine assign_Tuple_tuple (I.ok.hd hc) ht (by simp[hn,←hl,rv.length]) hst λh' hx=>?_
 have I1:Inv X pins σ H { s with heap:=h' }:=I.kept (t':=s.toks) λb o e=>hx b o (m9 (kY e)) e
 exact h pins _ σ H xs _ Q I1 (by simpa using rv) hw
noncomputable def gSub(to ti:TE)(t:TSet):TG:=λv σ H Q=>to σ H λo H1=>ti σ H1 λi H2=>t o i v H2 λH3=>Q σ H3
theorem q1V{o i:Expr}{to ti:TE}{t:TSet}(ho:PE X o to)(hi:PE X i ti)(hs:PSet X t)
 (ha:∀v,assign (.Subscript o i pos) X.env v=(do
  let ov←holding [v] (eval o X.env)
  let iv←holding [v,ov] (eval i X.env)
  standAt pos
  holding [v,ov,iv] (setItem ov iv v)
  release [v,ov,iv] []):=by intro _;rfl):PG X (.Subscript o i pos) (gSub to ti t):=by
 intro pins s σ H v u Q I r h
 rw[ha]
 refine kL (dH (thn (ho pins s σ H _ I h) λov s1 hZ=>?_))
 obtain⟨x,H1,I1,r1,q1⟩:=hZ
 refine kL (dH (thn (hi pins s1 σ H1 _ I1 q1) λiv s2 hZ=>?_))
 obtain⟨y,H2,I2,r2,q2⟩:=hZ
 refine kL (pK (kL (dH (thn (hs pins s2 σ H2 x y v ov iv u _ I2 r1 r2 r q2) λ_ s3 hZ=>?_))))
 obtain⟨H3,I3,q3⟩:=hZ
 exact wpAny_release ⟨σ,H3,I3,q3⟩
noncomputable def tAsg(te:TE)(g:TG):TS:=λD σ H=>te σ H λx H1=>g x σ H1 D.nx
theorem q12{tg e:Expr}{te:TE}{g:TG}(he:PE X e te)(hg:PG X tg g)(hs:swapsWithSole [tg] e pos.line X.env=pure false:=by rfl)(hw:swappedStores [tg] e X.env=pure none:=by rfl)
 (h1:(assignEach [tg] X.env).map (·.2)=[assign tg X.env]:=by rfl):PS X (.Assign [tg] e pos) (tAsg te g):=by
 intro pins s σ H D I h
 refine wpAny_Assign_stores (thn (he pins s σ H _ I h) λv s1 hZ=>?_) hs hw
 obtain⟨x,H1,I1,r1,q1⟩:=hZ
 rw[h1]
 exact thn (hg pins s1 σ H1 x v _ I1 r1 q1) λ_ s2 q=>q
theorem qT{i:Nat}{x:Str}{e:Expr}{te:TE}{pos':Pos}(hN:X.N.Nodup)(hi:X.N[i]?=some x)(hx:Loc X.env.scope x)(he:PE X e te)(hs:swapsWith e (some (.Name x pos')) pos.line X.env=pure false:=by rfl)(hf:X.fn x=true∨X.env.scope.names.lookup x=some .local:=by first|exact .inl rfl|exact .inr rfl|assumption):
 PS X (.Assign [.Name x pos'] e pos) (tAsg te (q1U i)):=by
 intro pins s σ H D I h
 refine wpAny_Assign_Name (thn (he pins s σ H _ I h) λv s1 hZ=>?_) hs
 obtain⟨y,H1,I1,r1,q1⟩:=hZ
 exact q5P I1 hN hi hx r1 (λs2 I2=>⟨_,H1,I2,q1⟩) hf
noncomputable def tAug(i:Nat)(te:TE)(ti:TIp):TS:=λD σ H=>∃x,σ[i]?=some (some x)∧te σ H λy H1=>ti x y H1 λz H2=>D.nx (σ.set i (some z)) H2
theorem qI3{i:Nat}{x:Str}{e:Expr}{te:TE}{op:Operator}{ti:TIp}{pos':Pos}(hN:X.N.Nodup)(hi:X.N[i]?=some x)(hx:Loc X.env.scope x)(he:PE X e te)(ho:PIp X op ti)(hf:X.fn x=true∨X.env.scope.names.lookup x=some .local:=by first|exact .inl rfl|exact .inr rfl|assumption):
 PS X (.AugAssign (.Name x pos') op e pos) (tAug i te ti):=by
 intro pins s σ H D I h
 obtain⟨v,e1,h⟩:=h
 obtain⟨m,hn,hl⟩:=I.loc
 have vis:Vis X.env.scope x:=by rcases hx with k|k;exact .inl k;exact .inr (.inl k)
 obtain⟨u,r,l⟩:=hl i x v hi e1 vis
 refine wpAny_AugAssign_Name ?_
 have go:wpAny (model X.prog X.w) X.A (eval e X.env) (λw s₂=>wpAny (model X.prog X.w) X.A (inplaceOp op u w) (λr s₃=>wpAny (model X.prog X.w) X.A (storeName X.env x r) (λ_=>SP X pins D .next) X.xe s₃) X.xe s₂) X.xe s:=by
  refine thn (he pins s σ H _ I h) λw s1 hZ=>?_
  obtain⟨y,H1,I1,r1,q1⟩:=hZ
  refine thn (ho pins s1 σ H1 v y u w _ I1 r r1 q1) λz s2 hZ=>?_
  obtain⟨zv,H2,I2,r2,q2⟩:=hZ
  exact q5P I2 hN hi hx r2 (λs3 I3=>⟨_,H2,I3,q2⟩) hf
 rcases l with⟨hk,hm⟩|⟨hk,c,hc,hcell⟩
 ·exact lA I.ok.kind hk hn hm go
 ·rcases hk with hk|hk
  ·exact lK I.ok.kind hk hc hcell go
  ·rcases hx with k|k
   ·have:X.env.scope.names.lookup x=some .free:=hk
    rw[k]at this;cases this
   ·have:X.env.scope.names.lookup x=some .free:=hk
    rw[k]at this;cases this
noncomputable def qK7(to ti te:TE)(tget:V→V→Hp→VK→Prop)(tip:TIp)(tset:TSet):TS:=λD σ H=>to σ H λo H1=>ti σ H1 λi H2=>tget o i H2 λx H3=>te σ H3 λy H4=>tip x y H4 λz H5=>tset o i z H5 λH6=>D.nx σ H6
noncomputable def PGet(X:Cx)(t:V→V→Hp→VK→Prop):Prop:=
 ∀(pins:List (Addr×Obj)) (s:Shared) (σ:St) (H:Hp) (o i:V) (ov iv:Value) (Q:VK),Inv X pins σ H s→RelV o ov→RelV i iv→t o i H Q→
  wpAny (model X.prog X.w) X.A (getItem ov iv) (EP X pins σ Q) X.xe s
theorem q3Y{o i e:Expr}{to ti te:TE}{tget:V→V→Hp→VK→Prop}{tip:TIp}{tset:TSet}{op:Operator}{tpos:Pos}(ho:PE X o to)(hi:PE X i ti)(hg:PGet X tget)(he:PE X e te)(hp:PIp X op tip)(hs:PSet X tset)
 (ha:∀ov iv new,augStore i ov iv new=(do holding [new,ov,iv] (setItem ov iv new);release [new,ov,iv] [];pure .next):=by intros;rfl):PS X (.AugAssign (.Subscript o i tpos) op e pos) (qK7 to ti te tget tip tset):=by
 intro pins s σ H D I h
 refine wpAny_AugAssign_SubscriptAny (thn (ho pins s σ H _ I h) λov s1 hZ=>?_) ha
 obtain⟨x1,H1,I1,r1,q1⟩:=hZ
 refine thn (hi pins s1 σ H1 _ I1 q1) λiv s2 hZ=>?_
 obtain⟨x2,H2,I2,r2,q2⟩:=hZ
 refine thn (hg pins s2 σ H2 x1 x2 ov iv _ I2 r1 r2 q2) λold s3 hZ=>?_
 obtain⟨x3,H3,I3,r3,q3⟩:=hZ
 refine thn (he pins s3 σ H3 _ I3 q3) λv s4 hZ=>?_
 obtain⟨x4,H4,I4,r4,q4⟩:=hZ
 refine thn (hp pins s4 σ H4 x3 x4 old v _ I4 r3 r4 q4) λnew s5 hZ=>?_
 obtain⟨x5,H5,I5,r5,q5⟩:=hZ
 exact thn (hs pins s5 σ H5 x1 x2 x5 ov iv new _ I5 r1 r2 r5 q5) λ_ s6 ⟨H6,I6,q6⟩=>⟨σ,H6,I6,q6⟩
noncomputable def ipI(f:Int→Int→Int):TIp:=λx y H Q=>∃i j,x=.int i∧y=.int j∧Q (.int (f i j)) H
theorem q5R:PIp X .Add (ipI λi j=>i+j):=by
 intro pins s σ H x y v u Q I r1 r2 h
 obtain⟨i,j,e1,e2,q⟩:=h
 subst e1;subst e2
 obtain⟨t,rfl⟩:=r1
 obtain⟨t',rfl⟩:=r2
 exact iadd_int ⟨.int _,H,I.tok _,⟨_,rfl⟩,q⟩
theorem qI4:PIp X .Sub (ipI λi j=>i-j):=by
 intro pins s σ H x y v u Q I r1 r2 h
 obtain⟨i,j,e1,e2,q⟩:=h
 subst e1;subst e2
 obtain⟨t,rfl⟩:=r1
 obtain⟨t',rfl⟩:=r2
 exact isub_int ⟨.int _,H,I.tok _,⟨_,rfl⟩,q⟩
end
section
variable{X:Cx}{pos:Pos}
noncomputable def qI5(c:TT)(tb:TS):TS:=λD σ H=>∃W:Nat→St→Hp→Prop,(∃m,W m σ H)∧∀m σ H,W m σ H→
 c σ H λb H1=>if b=true then ∃N:St→Hp→Prop,(∀σ' H',N σ' H'→∃m',m'<m∧W m' σ' H')∧tb { D with nx:=N,ct:=N,bk:=D.nx } σ H1 else D.nx σ H1
theorem q9I{c:Expr}{body:List Stmt}{tc:TT}{tb:TS}(hp:PassesOwn (model X.prog X.w) X.A X.env X.xe)(hc:PT X c tc)(hb:PSs X body tb):PS X (.While c body [] pos) (qI5 tc tb):=by
 intro pins s σ H D I h
 obtain⟨W,⟨m0,w0⟩,turn⟩:=h
 refine wpAny_While (codeAny_whileLoop (λn s'=>∃σ' H',Inv X pins σ' H' s'∧W n σ' H') ?_ m0 ⟨σ,H,I,w0⟩)
 rintro n s1 ⟨σ1,H1,I1,w1⟩
 refine r9 hp (thn (hc pins s1 σ1 H1 _ I1 (turn n σ1 H1 w1)) λb s2 hZ=>?_)
 obtain⟨H2,I2,q2⟩:=hZ
 cases b with
 |true=>
  obtain⟨N,hN,q2⟩:=q2
  rw[kD rfl]
  refine r9 hp (thn (hb pins s2 σ1 H2 _ I2 q2) λf s3 q3=>?_)
  cases f with
  |next=>
   obtain⟨σ3,H3,I3,n3⟩:=q3
   obtain⟨m',hm,w3⟩:=hN σ3 H3 n3
   exact⟨m',hm,σ3,H3,I3,w3⟩
  |cont=>
   obtain⟨σ3,H3,I3,n3⟩:=q3
   obtain⟨m',hm,w3⟩:=hN σ3 H3 n3
   exact⟨m',hm,σ3,H3,I3,w3⟩
  |brk=>exact q3
  |ret v=>exact q3
 |false=>
  rw[kB kQ]
  exact pM ⟨σ1,H2,I2,q2⟩
end
structure It where
 go:Nat→Hp→Prop
 yld:Nat→Hp→V→Hp→Prop
 stop:Nat→Hp→Prop
noncomputable def FpOk(X:Cx)(pins:List (Addr×Obj))(H:Hp)(b:Addr):Prop:=
 H b=none∧b≠X.env.locals∧b∉X.fs∧(b∈X.ex∨X.s₀.heap.objs.size≤b)∧(∀x c,X.env.cells.lookup x=some c→c≠b)∧∀p∈X.pn++pins,p.1≠b
theorem Inv.fpOk{X:Cx}{pins:List (Addr×Obj)}{σ:St}{H H':Hp}{s:Shared}{b:Addr}(I:Inv X pins σ H s)(hb:s.heap.objs.size≤b)(hn:H' b=none):FpOk X pins H' b:=by
 refine⟨hn,d9 (mY I.lt hb),I.nofs hb,.inr (kO I.sz hb),λx c e z=>?_,λp hp z=>?_⟩
 ·obtain⟨v,q⟩:=I.cell x c e
  exact absurd (mY q.lt (by rw[z];exact hb)) (dR _)
 ·exact absurd (mY (kY (I.pin p hp).1) (by rw[z];exact hb)) (dR _)
structure Turn(P:Program)(w:World)(K:PySem.W.Frag)(tg:Expr)(J:It)(fp:List Addr)(it:Addr)(tn:Nat→Heap→Prop):Prop where
 mem:it∈fp
 obj:∀i h,tn i h→∀b∈fp,∃o,h.get? b=some o∧∀v,o.data≠ .cell v
 keep:∀i h h',tn i h→(∀b∈fp,∀o,h.get? b=some o→h'.get? b=some o)→tn i h'
 item:∀(X:Cx),X.prog=P→X.w=w→X.K=K→X.calm=true→∀(i:Nat) (pins:List (Addr×Obj)) (s:Shared) (σ:St) (H:Hp) (E:Value→Shared→Prop),Inv X pins σ H s→(∀b∈fp,FpOk X pins H b)→tn i s.heap→J.go i H→
  wpAny (model P w) X.A (pyNext (.ref it)) (λr s1=>∃u,r=some u∧
   wpAny (model P w) X.A (letOwnedTupleGo tg (.ref it) u) (λ_ s2=>∃x H',Inv X pins σ H' s2∧RelV x u∧J.yld i H x H'∧tn (i+1) s2.heap∧∀b∈fp,H' b=none) E s1) E s
 done:∀(X:Cx),X.prog=P→X.w=w→X.K=K→X.calm=true→∀(i:Nat) (pins:List (Addr×Obj)) (s:Shared) (σ:St) (H:Hp) (E:Value→Shared→Prop),Inv X pins σ H s→(∀b∈fp,FpOk X pins H b)→tn i s.heap→J.stop i H→
  wpAny (model P w) X.A (pyNext (.ref it)) (λr s1=>r=none∧Inv X pins σ H s1) E s
 self:∀(A:Around) (i:Nat) (s:Shared) (Q:Value→Shared→Prop) (E:Value→Shared→Prop),tn i s.heap→Q (.ref it) s→wpAny (model P w) A (pyIter (.ref it)) Q E s
noncomputable abbrev TI:=St→Hp→(It→Hp→Prop)→Prop
noncomputable def PIE(X:Cx)(pins:List (Addr×Obj))(σ:St)(tg:Expr)(R:It→Hp→Prop)(itv:Value)(s2:Shared):Prop:=
 ∃(it:Addr) (fp:List Addr) (tn:Nat→Heap→Prop) (J:It) (H':Hp),itv=.ref it∧Inv X pins σ H' s2∧Turn X.prog X.w X.K tg J fp it tn∧tn 0 s2.heap∧(∀b∈fp,FpOk X pins H' b)∧R J H'
noncomputable def PI(X:Cx)(tg iter:Expr)(wi:TI):Prop:=
 ∀(pins:List (Addr×Obj)) (s:Shared) (σ:St) (H:Hp) (R:It→Hp→Prop),Inv X pins σ H s→wi σ H R→
  wpAny (model X.prog X.w) X.A (eval iter X.env) (λv s1=>wpAny (model X.prog X.w) X.A (pyIter v) (PIE X pins σ tg R) X.xe s1) X.xe s
theorem qBF{M:Model}{A:Around}{E:Value→Shared→Prop}{s:Shared}{tg:Expr}{it:Addr}{u:Value}{o:Obj}{n:String}{vs:Array Value}{Q:Unit→Shared→Prop}(ho:s.heap.get? it=some o)(hc:o.cls=.type n)(hd:o.data=.fields vs)
 (hn:["enumerate","zip","dict_itemiterator","dict_reverseitemiterator","odict_iterator","itertools.zip_longest","itertools.pairwise"].contains n=false) (hQ:Q () s):wpAny M A (letOwnedTupleGo tg (.ref it) u) Q E s:=by
 unfold letOwnedTupleGo
 cases tg<;>first
  |exact mO hQ
  |(cases u<;>first
   |exact mO hQ
   |(refine kL (wpAny_load ho ?_)
     rw[hc,hd]
     show wpAny M A (if(["enumerate","zip","dict_itemiterator","dict_reverseitemiterator","odict_iterator","itertools.zip_longest","itertools.pairwise"].contains n&&vs[0]?==some (rawInt _))=true then _ else _) Q E s
     rw[kB (by intro h;rw[hn,Bool.false_and]at h;cases h)]
     exact mO hQ))
noncomputable def Itl(K:PySem.W.Frag)(a:Addr):It:=
 ⟨λi H=>∃xs x,SqL K H a xs∧xs[i]?=some x,λi H x H'=>H'=H∧∀xs,SqL K H a xs→xs[i]?=some x,λi H=>∃xs,SqL K H a xs∧xs.length≤i⟩
noncomputable def Itt(K:PySem.W.Frag)(a:Addr):It:=
 ⟨λi H=>∃xs x,SqT K H a xs∧xs[i]?=some x,λi H x H'=>H'=H∧∀xs,SqT K H a xs→xs[i]?=some x,λi H=>∃xs,SqT K H a xs∧xs.length≤i⟩
noncomputable def Itr(lo:Int)(n:Nat):It:=⟨λi _=>i<n,λi H x H'=>H'=H∧x=.int (lo+i),λi _=>n≤i⟩
theorem qCL{P:Program}{w:World}{K:PySem.W.Frag}{tg:Expr}(a it:Addr):Turn P w K tg (Itl K a) [it] it (λi h=>h.IsListIter it a i) where
 mem:=by simp
 obj:=λi h st b hb=>by
  have e:b=it:=by simpa using hb
  subst e
  obtain⟨o,e,c,d⟩:=st
  exact⟨o,e,λv z=>by rw[d]at z;cases z⟩
 keep:=λi h h' st k=>st.at λo e=>k it (by simp) o e
 item:=by
  intro X hP hw hK hc i pins s σ H E I hf st hg
  subst hP hw hK
  obtain⟨xs,x,hq,hx⟩:=hg
  obtain⟨its,rv,p,hz⟩:=I.list hq
  obtain⟨u,hu,ru⟩:=rv.get hx
  obtain⟨f0,f1,f2,f3,f4,f5⟩:=hf it (by simp)
  refine wpAny_pyNext_list_item st p.isList (x:=u) (by simpa using hu) λh' st' sb=>?_
  have I1:Inv X pins σ H { s with heap:=h' }:=I.turned (t':=s.toks) (λb o hb e=>(sb.2 b hb).trans e) f0 f1 f3 f4 f5
  obtain⟨o,e,c,d⟩:=id st'
  exact⟨u,rfl,qBF (s:={ s with heap:=h' }) e c d (by decide) ⟨x,H,I1,ru,⟨rfl,λys hy=>by rw[I.list_inj hy hq];exact hx⟩,st',λb hb=>(hf b hb).1⟩⟩
 done:=by
  intro X hP hw hK hc i pins s σ H E I hf st hg
  subst hP hw hK
  obtain⟨xs,hq,hx⟩:=hg
  obtain⟨its,rv,p,hz⟩:=I.list hq
  obtain⟨f0,f1,f2,f3,f4,f5⟩:=hf it (by simp)
  have hl:=rv.length
  exact wpAny_pyNext_list_end (I.ok.hd hc) st p.isList (by simp;lia) λh' eb=>⟨rfl,I.turned (t':=s.toks) (λb o hb e=>eb b o hb e) f0 f1 f3 f4 f5⟩
 self:=λ_ _ _ _ _ st h=>wpAny_pyIter_listiter st h
theorem qAO{P:Program}{w:World}{K:PySem.W.Frag}{tg:Expr}(a it:Addr):Turn P w K tg (Itt K a) [it] it (λi h=>h.IsTupleIter it a i) where
 mem:=by simp
 obj:=λi h st b hb=>by
  have e:b=it:=by simpa using hb
  subst e
  obtain⟨o,e,c,d⟩:=st
  exact⟨o,e,λv z=>by rw[d]at z;cases z⟩
 keep:=λi h h' st k=>st.at λo e=>k it (by simp) o e
 item:=by
  intro X hP hw hK hc i pins s σ H E I hf st hg
  subst hP hw hK
  obtain⟨xs,x,hq,hx⟩:=hg
  obtain⟨its,rv,p,hz⟩:=I.tuple hq
  obtain⟨u,hu,ru⟩:=rv.get hx
  obtain⟨f0,f1,f2,f3,f4,f5⟩:=hf it (by simp)
  refine wpAny_pyNext_tuple_item st (show s.heap.IsTuple a its.toArray from p) (x:=u) (by simpa using hu) λh' st' sb=>?_
  have I1:Inv X pins σ H { s with heap:=h' }:=I.turned (t':=s.toks) (λb o hb e=>(sb.2 b hb).trans e) f0 f1 f3 f4 f5
  obtain⟨o,e,c,d⟩:=id st'
  exact⟨u,rfl,qBF (s:={ s with heap:=h' }) e c d (by decide) ⟨x,H,I1,ru,⟨rfl,λys hy=>by rw[I.tuple_inj hy hq];exact hx⟩,st',λb hb=>(hf b hb).1⟩⟩
 done:=by
  intro X hP hw hK hc i pins s σ H E I hf st hg
  subst hP hw hK
  obtain⟨xs,hq,hx⟩:=hg
  obtain⟨its,rv,p,hz⟩:=I.tuple hq
  obtain⟨f0,f1,f2,f3,f4,f5⟩:=hf it (by simp)
  have hl:=rv.length
  exact wpAny_pyNext_tuple_end (I.ok.hd hc) st (show s.heap.IsTuple a its.toArray from p) (by simp;lia) λh' eb=>⟨rfl,I.turned (t':=s.toks) (λb o hb e=>eb b o hb e) f0 f1 f3 f4 f5⟩
 self:=λ_ _ _ _ _ st h=>wpAny_pyIter_tupleiter st h
theorem qAP{P:Program}{w:World}{K:PySem.W.Frag}{tg:Expr}(it:Addr)(lo:Int)(n:Nat):Turn P w K tg (Itr lo n) [it] it (λi h=>IsRangeIter h it (lo+(i:Nat)*1) ((n:Int)-(i:Nat)) 1) where
 mem:=by simp
 obj:=λi h st b hb=>by
  have e:b=it:=by simpa using hb
  subst e
  exact⟨_,st,λv z=>by
   have z':Data.fields _=Data.cell v:=z
   cases z'⟩
 keep:=λi h h' st k=>k it (by simp) _ st
 item:=by
  intro X hP hw hK hc i pins s σ H E I hf st hg
  subst hP hw hK
  obtain⟨f0,f1,f2,f3,f4,f5⟩:=hf it (by simp)
  have W:=Walks.range (prog:=X.prog) (w:=X.w) (I.ok.hd hc) it lo 1 n
  refine W.item i s _ _ hg st λv h' tk hv st' kk=>?_
  obtain⟨t,rfl⟩:=hv
  have I1:Inv X pins σ H { s with heap:=h',toks:=tk }:=I.turned (λb o hb e=>kk b o (by simpa using hb) e) f0 f1 f3 f4 f5
  refine⟨_,rfl,qBF (s:={ s with heap:=h',toks:=tk }) (n:="range_iterator") st' rfl rfl (by decide) ⟨.int (lo+i),H,I1,⟨t,?_⟩,⟨rfl,rfl⟩,st',λb hb=>(hf b hb).1⟩⟩
  rw[Int.mul_one]
 done:=by
  intro X hP hw hK hc i pins s σ H E I hf st hg
  subst hP hw hK
  obtain⟨f0,f1,f2,f3,f4,f5⟩:=hf it (by simp)
  exact wpAny_pyNext_range_end (I.ok.hd hc) st (by have:n≤i:=hg;lia) λh' eb=>⟨rfl,I.turned (t':=s.toks) (λb o hb e=>eb b o hb e) f0 f1 f3 f4 f5⟩
 self:=λ_ _ _ _ _ st h=>wpAny_pyIter_rangeiter st h
section
variable{X:Cx}{tg:Expr}
noncomputable def qK8(K:PySem.W.Frag)(tl:TE):TI:=λσ H R=>tl σ H λx H1=>∃a,x=.ref a∧(∃xs,SqL K H1 a xs)∧R (Itl K a) H1
noncomputable def iTup(K:PySem.W.Frag)(tl:TE):TI:=λσ H R=>tl σ H λx H1=>∃a,x=.ref a∧(∃xs,SqT K H1 a xs)∧R (Itt K a) H1
theorem jZ{l:Expr}{tl:TE}(hl:PE X l tl):PI X tg l (qK8 X.K tl):=by
 intro pins s σ H R I h
 refine thn (hl pins s σ H _ I h) λv s1 hZ=>?_
 obtain⟨x,H1,I1,r1,q1⟩:=hZ
 obtain⟨a,e,⟨xs,hq⟩,q⟩:=q1
 subst e
 cases r1
 obtain⟨its,rv,p,hz⟩:=I1.list hq
 refine wpAny_pyIter_list p.isList ?_
 refine⟨s1.heap.objs.size,[s1.heap.objs.size],_,_,H1,rfl,I1.kept (t':=s1.toks) λb o e=>kF _ e,qCL a _,⟨_,mP _ rfl,rfl,rfl⟩,λb hb=>?_,q⟩
 have e:b=s1.heap.objs.size:=by simpa using hb
 subst e
 exact I1.fpOk (kM _) (I1.hok.fresh (kM _))
theorem qI6{l:Expr}{tl:TE}(hl:PE X l tl):PI X tg l (iTup X.K tl):=by
 intro pins s σ H R I h
 refine thn (hl pins s σ H _ I h) λv s1 hZ=>?_
 obtain⟨x,H1,I1,r1,q1⟩:=hZ
 obtain⟨a,e,⟨xs,hq⟩,q⟩:=q1
 subst e
 cases r1
 obtain⟨its,rv,p,hz⟩:=I1.tuple hq
 refine wpAny_pyIter_tuple (show s1.heap.IsTuple a its.toArray from p) ?_
 refine⟨s1.heap.objs.size,[s1.heap.objs.size],_,_,H1,rfl,I1.kept (t':=s1.toks) λb o e=>kF _ e,qAO a _,⟨_,mP _ rfl,rfl,rfl⟩,λb hb=>?_,q⟩
 have e:b=s1.heap.objs.size:=by simpa using hb
 subst e
 exact I1.fpOk (kM _) (I1.hok.fresh (kM _))
theorem q9J{pins:List (Addr×Obj)}{σ:St}{H:Hp}{s:Shared}{R:It→Hp→Prop}{E:Value→Shared→Prop}{lo hi:Int}{t u v:Tok}{tk:Nat}(I:Inv X pins σ H s)(h1:-(2 ^ 62)≤lo)(h2:lo<2 ^ 62)(h3:-(2 ^ 62)≤hi)(h4:hi<2 ^ 62)
 (q:R (Itr lo (hi-lo).toNat) H):wpAny (model X.prog X.w) X.A (pyIter (.ref s.heap.objs.size)) (PIE X pins σ tg R) E { s with heap:=s.heap.push { cls:=.type "range",data:=.fields #[.int lo t,.int hi u,.int 1 v] },toks:=tk }:=by
 refine wpAny_pyIter_range (IsRange.new ..) (small_one h1 h2 h3 h4) ?_
 have I1:Inv X pins σ H { s with heap:=s.heap.push { cls:=.type "range",data:=.fields #[.int lo t,.int hi u,.int 1 v] },toks:=tk }:=I.kept λb o e=>kF _ e
 refine⟨(s.heap.push { cls:=.type "range",data:=.fields #[.int lo t,.int hi u,.int 1 v] }).objs.size,[(s.heap.push { cls:=.type "range",data:=.fields #[.int lo t,.int hi u,.int 1 v] }).objs.size],_,_,H,rfl,
  I1.kept (t':=tk) λb o e=>kF _ e,qAP _ lo (hi-lo).toNat,?_,λb hb=>?_,q⟩
 ·have e1:lo+((0:Nat):Int)*1=lo:=by simp
  have e2:(((hi-lo).toNat:Nat):Int)-((0:Nat):Int)=Builtin.Range.rangeSize lo hi 1:=by rw[rangeSize_one];split<;>lia
  show IsRangeIter _ _ (lo+((0:Nat):Int)*1) ((((hi-lo).toNat:Nat):Int)-((0:Nat):Int)) 1
  rw[e1,e2]
  exact mP _ rfl
 ·have e:b=(s.heap.push { cls:=.type "range",data:=.fields #[.int lo t,.int hi u,.int 1 v] }).objs.size:=by simpa using hb
  subst e
  exact I1.fpOk (kM _) (I1.hok.fresh (kM _))
noncomputable def qK9(ta:TA):TI:=λσ H R=>ta σ H λvs H1=>∃j:Int,vs=[.int j]∧-(2 ^ 62)≤j∧j<2 ^ 62∧R (Itr 0 j.toNat) H1
noncomputable def qKA(ta:TA):TI:=λσ H R=>ta σ H λvs H1=>∃i j:Int,vs=[.int i,.int j]∧(-(2 ^ 62)≤i∧i<2 ^ 62∧-(2 ^ 62)≤j∧j<2 ^ 62)∧R (Itr i (j-i).toNat) H1
theorem q0G{a:Expr}{ta:TA}{p pos:Pos}(hg:Gl X "range")(hm:X.mg "range"=none)(ha:PA X [a] ta)(hs:starEach [a] X.env=[(false,eval a X.env)]:=by rfl):PI X tg (.Call (.Name "range" p) [a] [] pos) (qK9 ta):=by
 intro pins s σ H R I h
 refine Call_ (q3G I hg hm boot_range (rK (thn (ha pos pins s σ H _ I h) λus s1 hZ=>?_) hs rfl))
 obtain⟨vs,H1,I1,r1,q1⟩:=hZ
 obtain⟨j,e,q1,q2,q⟩:=q1
 subst e
 cases r1 with
 |cons r rr=>
  cases rr
  obtain⟨t,rfl⟩:=r
  exact call_range_1 (q9J I1 (by lia) (by lia) q1 q2 (by simpa using q))
theorem q0H{a b:Expr}{ta:TA}{p pos:Pos}(hg:Gl X "range")(hm:X.mg "range"=none)(ha:PA X [a,b] ta)(hs:starEach [a,b] X.env=[(false,eval a X.env),(false,eval b X.env)]:=by rfl)(hs2:starEach [b] X.env=[(false,eval b X.env)]:=by rfl):
 PI X tg (.Call (.Name "range" p) [a,b] [] pos) (qKA ta):=by
 intro pins s σ H R I h
 refine Call_ (q3G I hg hm boot_range (rK (thn (ha pos pins s σ H _ I h) λus s1 ⟨vs,H1,I1,r1,q1⟩=>?_) (by rw[hs,hs2]) (by rw[hs2];rfl)))
 obtain⟨i,j,e,⟨q1,q2,q3,q4⟩,q⟩:=q1
 subst e
 cases r1 with
 |cons r rr=>
  cases rr with
  |cons r' rr=>
   cases rr
   obtain⟨t,rfl⟩:=r
   obtain⟨t',rfl⟩:=r'
   exact call_range_2 (q9J I1 q1 q2 q3 q4 q)
noncomputable def tFor(wi:TI)(g:TG)(tb:TS):TS:=λD σ H=>wi σ H λJ H1=>∃W:Nat→Nat→St→Hp→Prop,(∃m,W 0 m σ H1)∧∀i m σ H,W i m σ H→
 (J.stop i H∧D.nx σ H)∨(J.go i H∧∃N:St→Hp→Prop,(∀σ' H',N σ' H'→∃m',m'<m∧W (i+1) m' σ' H')∧∀x H',J.yld i H x H'→g x σ H' λσ2 H2=>tb { D with nx:=N,ct:=N,bk:=D.nx } σ2 H2)
noncomputable def q5S(fp:List Addr)(h:Heap):List (Addr×Obj):=fp.filterMap λb=>(h.get? b).map λo=>(b,o)
theorem v9{fp:List Addr}{h:Heap}{b:Addr}{o:Obj}(hb:b∈fp)(e:h.get? b=some o):(b,o)∈q5S fp h:=rR.mpr ⟨b,hb,by rw[e];rfl⟩
theorem qCM{fp:List Addr}{h:Heap}{p:Addr×Obj}(hp:p∈q5S fp h):p.1∈fp∧h.get? p.1=some p.2:=by
 obtain⟨b,hb,e⟩:=rR.mp hp
 cases q:h.get? b with
 |none=>rw[q]at e;cases e
 |some o=>
  rw[q]at e
  have e':(b,o)=p:=kN e
  subst e'
  exact⟨hb,q⟩
theorem Inv.pinned{pins:List (Addr×Obj)}{σ:St}{H:Hp}{s:Shared}{fp:List Addr}(I:Inv X pins σ H s)(hf:∀b∈fp,FpOk X pins H b)(ho:∀b∈fp,∃o,s.heap.get? b=some o∧∀v,o.data≠ .cell v):Inv X (pins++q5S fp s.heap) σ H s:=
 I.pins_of λp hp=>(gO.mp hp).elim (λz=>I.pin p (mQ _ z)) λz=>by
  obtain⟨hb,e⟩:=qCM z
  obtain⟨f0,f1,f2,_⟩:=hf p.1 hb
  obtain⟨o,e',d⟩:=ho p.1 hb
  rw[e]at e';cases e'
  exact⟨e,f0,f1,f2,d⟩
theorem Inv.unpinned{pins pl:List (Addr×Obj)}{σ:St}{H:Hp}{s:Shared}(I:Inv X (pins++pl) σ H s):Inv X pins σ H s:=I.pins_of λp hp=>I.pin p (mQ _ (g8 _ hp))
theorem uE{iter:Expr}{body:List Stmt}{wi:TI}{g:TG}{tb:TS}{pos:Pos}(hp:PassesOwn (model X.prog X.w) X.A X.env X.xe)(hc:X.calm=true)(hi:PI X tg iter wi)(hg:PG X tg g)(hb:PSs X body tb)
 (hs:∀x,foldedSetIterable iter X.env x=pure x:=by intro _;rfl):PS X (.For tg iter body [] pos) (tFor wi g tb):=by
 intro pins s σ H D I h
 refine wpAny_For (thn (hi pins s σ H _ I h) λv s1 h1=>thn h1 λitv s2 h2=>?_) hs
 obtain⟨it,fp,tn,J,H2,e,I2,T,st2,f2,W,⟨m0,w0⟩,turn⟩:=h2
 subst e
 have stat:∀{H':Hp},(∀b∈fp,H' b=none)→∀b∈fp,FpOk X pins H' b:=λhn b hb=>⟨hn b hb,(f2 b hb).2⟩
 refine codeAny_forLoop_any (λn s'=>∃i σ' H',Inv X pins σ' H' s'∧tn i s'.heap∧(∀b∈fp,H' b=none)∧W i n σ' H') ?_ m0 ⟨0,σ,H2,I2,st2,λb hb=>(f2 b hb).1,w0⟩
 rintro n s3 ⟨i,σ3,H3,I3,st3,fr3,w3⟩
 rcases turn i n σ3 H3 w3 with⟨stop,qn⟩|⟨go,N,hN,step⟩
 ·refine r9 hp (thn (T.done X rfl rfl rfl hc i pins s3 σ3 H3 X.xe I3 (stat fr3) st3 stop) λr s4 hZ=>?_)
  obtain⟨hr,I4⟩:=hZ
  subst hr
  exact pM ⟨σ3,H3,I4,qn⟩
 ·refine r9 hp (thn (T.item X rfl rfl rfl hc i pins s3 σ3 H3 X.xe I3 (stat fr3) st3 go) λr s4 hZ=>?_)
  obtain⟨u,hr,h4⟩:=hZ
  subst hr
  refine r9 hp (thn h4 λ_ s5 hZ=>?_)
  obtain⟨x,H5,I5,r5,y5,st5,fr5⟩:=hZ
  have I5':=I5.pinned (stat fr5) (T.obj _ _ st5)
  refine r9 hp (thn (hg _ s5 σ3 H5 x u _ I5' r5 (step x H5 y5)) λ_ s6 hZ=>?_)
  obtain⟨σ6,H6,I6,q6⟩:=hZ
  refine r9 hp (thn (hb _ s6 σ6 H6 _ I6 q6) λf s7 q7=>?_)
  have again:∀{σ7:St} {H7:Hp},Inv X (pins++q5S fp s5.heap) σ7 H7 s7→N σ7 H7→∃m,m<n∧∃i σ' H',Inv X pins σ' H' s7∧tn i s7.heap∧(∀b∈fp,H' b=none)∧W i m σ' H':=fun {σ7 H7} I7 n7=>by
   obtain⟨m',hm,w7⟩:=hN σ7 H7 n7
   refine⟨m',hm,i+1,σ7,H7,I7.unpinned,T.keep _ _ _ st5 λb hb o e=>(I7.pin (b,o) (mQ _ (mQ _ (v9 hb e)))).1,λb hb=>?_,w7⟩
   obtain⟨o,e,d⟩:=T.obj _ _ st5 b hb
   exact(I7.pin (b,o) (mQ _ (mQ _ (v9 hb e)))).2.1
  cases f with
  |next=>obtain⟨σ7,H7,I7,n7⟩:=q7;exact again I7 n7
  |cont=>obtain⟨σ7,H7,I7,n7⟩:=q7;exact again I7 n7
  |brk=>obtain⟨σ7,H7,I7,q7⟩:=q7;exact⟨σ7,H7,I7.unpinned,q7⟩
  |ret v=>obtain⟨x7,σ7,H7,I7,r7,q7⟩:=q7;exact⟨x7,σ7,H7,I7.unpinned,r7,q7⟩
end
theorem vH{K:PySem.W.Frag}{a:Addr}{xs:List V}{g:TG}{tb:TS}{D:Ends}{σ:St}{H:Hp}(Pv:Nat→St→Hp→Prop)(h0:Pv 0 σ H)(hl:∀i σ H,i≤xs.length→Pv i σ H→SqL K H a xs)
 (hs:∀i x σ H,xs[i]?=some x→Pv i σ H→g x σ H λσ2 H2=>tb { D with nx:=Pv (i+1),ct:=Pv (i+1),bk:=D.nx } σ2 H2) (hd:∀σ H,Pv xs.length σ H→D.nx σ H):
 ∃W:Nat→Nat→St→Hp→Prop,(∃m,W 0 m σ H)∧∀i m σ H,W i m σ H→
  ((Itl K a).stop i H∧D.nx σ H)∨((Itl K a).go i H∧∃N:St→Hp→Prop,(∀σ' H',N σ' H'→∃m',m'<m∧W (i+1) m' σ' H')∧∀x H',(Itl K a).yld i H x H'→g x σ H' λσ2 H2=>tb { D with nx:=N,ct:=N,bk:=D.nx } σ2 H2):=by
 refine⟨λi m σ H=>m=xs.length-i∧i≤xs.length∧Pv i σ H,⟨xs.length,by simp,mV _,h0⟩,?_⟩
 rintro i m σ H ⟨rfl,hi,p⟩
 have q:=hl i σ H hi p
 by_cases hlt:i<xs.length
 ·refine .inr ⟨⟨xs,xs[i],q,by simp[hlt]⟩,Pv (i+1),λσ' H' p'=>⟨xs.length-(i+1),by lia,rfl,hlt,p'⟩,λx H' y=>?_⟩
  obtain⟨e,y⟩:=y
  subst e
  exact hs i x σ _ (y xs q) p
 ·have e:i=xs.length:=by lia
  subst e
  exact .inl ⟨⟨xs,q,kM _⟩,hd σ H p⟩
theorem q7N{lo:Int}{n:Nat}{g:TG}{tb:TS}{D:Ends}{σ:St}{H:Hp}(Pv:Nat→St→Hp→Prop)(h0:Pv 0 σ H)
 (hs:∀i σ H,i<n→Pv i σ H→g (.int (lo+i)) σ H λσ2 H2=>tb { D with nx:=Pv (i+1),ct:=Pv (i+1),bk:=D.nx } σ2 H2) (hd:∀σ H,Pv n σ H→D.nx σ H):
 ∃W:Nat→Nat→St→Hp→Prop,(∃m,W 0 m σ H)∧∀i m σ H,W i m σ H→
  ((Itr lo n).stop i H∧D.nx σ H)∨((Itr lo n).go i H∧∃N:St→Hp→Prop,(∀σ' H',N σ' H'→∃m',m'<m∧W (i+1) m' σ' H')∧∀x H',(Itr lo n).yld i H x H'→g x σ H' λσ2 H2=>tb { D with nx:=N,ct:=N,bk:=D.nx } σ2 H2):=by
 refine⟨λi m σ H=>m=n-i∧i≤n∧Pv i σ H,⟨n,by simp,mV _,h0⟩,?_⟩
 rintro i m σ H ⟨rfl,hi,p⟩
 by_cases hlt:i<n
 ·refine .inr ⟨hlt,Pv (i+1),λσ' H' p'=>⟨n-(i+1),by lia,rfl,hlt,p'⟩,λx H' y=>?_⟩
  obtain⟨e,y⟩:=y
  subst e y
  exact hs i σ _ hlt p
 ·have e:i=n:=by lia
  subst e
  exact .inl ⟨kM _,hd σ H p⟩
noncomputable abbrev R2:=V→V→Hp→VK→Prop
noncomputable def OpR(X:Cx)(f:Value→Value→Sem Value)(r:R2):Prop:=
 ∀(pins:List (Addr×Obj)) (s:Shared) (σ:St) (H:Hp) (x y:V) (v u:Value) (Q:VK),Inv X pins σ H s→RelV x v→RelV y u→r x y H Q→
  wpAny (model X.prog X.w) X.A (f v u) (EP X pins σ Q) X.xe s
noncomputable def UnR(X:Cx)(f:Value→Sem Value)(r:V→Hp→VK→Prop):Prop:=
 ∀(pins:List (Addr×Obj)) (s:Shared) (σ:St) (H:Hp) (x:V) (v:Value) (Q:VK),Inv X pins σ H s→RelV x v→r x H Q→
  wpAny (model X.prog X.w) X.A (f v) (EP X pins σ Q) X.xe s
noncomputable def zC(X:Cx)(f:Value)(r:List V→Hp→VK→Prop):Prop:=
 ∀(pins:List (Addr×Obj)) (s:Shared) (σ:St) (H:Hp) (xs:List V) (us:List Value) (Q:VK),Inv X pins σ H s→Vals xs us→r xs H Q→
  wpAny (model X.prog X.w) X.A (call f us) (EP X pins σ Q) X.xe s
noncomputable def tOp(r:R2)(ta tb:TE):TE:=λσ H Q=>ta σ H λx H1=>tb σ H1 λy H2=>r x y H2 Q
noncomputable def tUn(r:V→Hp→VK→Prop)(ta:TE):TE:=λσ H Q=>ta σ H λx H1=>r x H1 Q
noncomputable def rI(C:Int→Int→Prop)(g:Int→Int→V):R2:=λx y H Q=>∃i j,x=.int i∧y=.int j∧C i j∧Q (g i j) H
noncomputable def rI0(g:Int→Int→V):R2:=λx y H Q=>∃i j,x=.int i∧y=.int j∧Q (g i j) H
noncomputable def rU(g:Int→V):V→Hp→VK→Prop:=λx H Q=>∃i,x=.int i∧Q (g i) H
section
variable{X:Cx}{a b c:Expr}{ta tb tc:TE}{pos:Pos}
theorem binT(ha:PE X a ta)(hb:PE X b tb){pins:List (Addr×Obj)}{s:Shared}{σ:St}{H:Hp}{R:V→V→Hp→Prop}(I:Inv X pins σ H s)
 (h:ta σ H λx H1=>tb σ H1 λy H2=>R x y H2) {Q:Value→Shared→Prop} {f:Value→Value→Sem Value}
 (hf:∀v u s2 x y H2,Inv X pins σ H2 s2→RelV x v→RelV y u→R x y H2→wpAny (model X.prog X.w) X.A (f v u) Q X.xe s2):
 wpAny (model X.prog X.w) X.A (eval a X.env) (λv s₁=>wpAny (model X.prog X.w) X.A (eval b X.env) (λu s₂=>wpAny (model X.prog X.w) X.A (f v u) Q X.xe s₂) X.xe s₁) X.xe s:=by
 refine thn (ha pins s σ H _ I h) λv s1 hZ=>?_
 obtain⟨x,H1,I1,r1,q1⟩:=hZ
 refine thn (hb pins s1 σ H1 _ I1 q1) λu s2 hZ=>?_
 obtain⟨y,H2,I2,r2,q2⟩:=hZ
 exact hf v u s2 x y H2 I2 r1 r2 q2
theorem qO{op:Operator}{r:R2}(ho:OpR X (binaryOp op) r)(ha:PE X a ta)(hb:PE X b tb):PE X (.BinOp a op b pos) (tOp r ta tb):=by
 intro pins s σ H Q I h
 exact wpAny_BinOp (binT ha hb I h λv u s2 x y H2 I2 rx ry q=>ho pins s2 σ H2 x y v u Q I2 rx ry q)
theorem qHH{op:UnaryOp}{r:V→Hp→VK→Prop}(ho:UnR X (unaryOp op) r)(ha:PE X a ta):PE X (.UnaryOp op a pos) (tUn r ta):=by
 intro pins s σ H Q I h
 exact UnaryOp_ (thn (ha pins s σ H _ I h) λv s1 ⟨x,H1,I1,r1,q1⟩=>ho pins s1 σ H1 x v Q I1 r1 q1)
theorem opI{f:Value→Value→Sem Value}{C:Int→Int→Prop}{g:Int→Int→Int}
 (rule:∀(i j:Int) (t u:Tok) (s:Shared) (Q:Value→Shared→Prop) (E:Value→Shared→Prop),C i j→Q (.int (g i j) s.toks) { s with toks:=s.toks+1 }→wpAny (model X.prog X.w) X.A (f (.int i t) (.int j u)) Q E s):
 OpR X f (rI C λi j=>.int (g i j)):=by
 intro pins s σ H x y v u Q I rx ry h
 obtain⟨i,j,rfl,rfl,hc,q⟩:=h
 obtain⟨t,rfl⟩:=rx
 obtain⟨t',rfl⟩:=ry
 exact rule i j t t' s _ _ hc ⟨.int (g i j),H,I.tok _,⟨_,rfl⟩,q⟩
theorem opI0{f:Value→Value→Sem Value}{g:Int→Int→Int}
 (rule:∀(i j:Int) (t u:Tok) (s:Shared) (Q:Value→Shared→Prop) (E:Value→Shared→Prop),Q (.int (g i j) s.toks) { s with toks:=s.toks+1 }→wpAny (model X.prog X.w) X.A (f (.int i t) (.int j u)) Q E s):
 OpR X f (rI0 λi j=>.int (g i j)):=by
 intro pins s σ H x y v u Q I rx ry h
 obtain⟨i,j,rfl,rfl,q⟩:=h
 obtain⟨t,rfl⟩:=rx
 obtain⟨t',rfl⟩:=ry
 exact rule i j t t' s _ _ ⟨.int (g i j),H,I.tok _,⟨_,rfl⟩,q⟩
theorem opB0{f:Value→Value→Sem Value}{g:Int→Int→Bool}
 (rule:∀(i j:Int) (t u:Tok) (s:Shared) (Q:Value→Shared→Prop) (E:Value→Shared→Prop),Q (.bool (g i j)) s→wpAny (model X.prog X.w) X.A (f (.int i t) (.int j u)) Q E s):
 OpR X f (rI0 λi j=>.bl (g i j)):=by
 intro pins s σ H x y v u Q I rx ry h
 obtain⟨i,j,rfl,rfl,q⟩:=h
 obtain⟨t,rfl⟩:=rx
 obtain⟨t',rfl⟩:=ry
 exact rule i j t t' s _ _ ⟨.bl (g i j),H,I,rfl,q⟩
noncomputable def CDiv(i j:Int):Prop:=0<j∧j<1073741824
noncomputable def CPow(i j:Int):Prop:=0≤j∧j≤1000000∧i.natAbs<2 ^ 64
noncomputable def CMul(i j:Int):Prop:=(-(2 ^ 64)<i∧i<2 ^ 64)∨(-(2 ^ 64)<j∧j<2 ^ 64)
theorem CMul.ok{i j:Int}(h:CMul i j):IntMulOk i j:=by
 rcases h with⟨h1,h2⟩|⟨h1,h2⟩
 ·exact .of_left (intBits_le_64 h1 h2)
 ·exact .of_right (intBits_le_64 h1 h2)
theorem yZ:OpR X (binaryOp .Add) (rI0 λi j=>.int (i+j)):=opI0 λ_ _ _ _ _ _ _ q=>add_int q
theorem zD:OpR X (binaryOp .Sub) (rI0 λi j=>.int (i-j)):=opI0 λ_ _ _ _ _ _ _ q=>sub_int q
theorem yM:OpR X (binaryOp .Mult) (rI CMul λi j=>.int (i*j)):=opI λ_ _ _ _ _ _ _ hc q=>mul_int q hc.ok
theorem vD:OpR X (binaryOp .FloorDiv) (rI CDiv λi j=>.int (i / j)):=opI λi j _ _ _ _ _ hc q=>by
 have h1:(0:Int)<j:=hc.1
 have h2:j<1073741824:=hc.2
 exact floordiv_int (by lia) (by rw[Int.fdiv_eq_ediv_of_nonneg i (by lia)];exact q) (.inl (PyProof.noPylong_small (by lia)))
theorem uF:OpR X (binaryOp .Mod) (rI (λ_ j=>0<j) λi j=>.int (i%j)):=opI λi j _ _ _ _ _ hc q=>by
 have h1:(0:Int)<j:=hc
 exact mod_int' (by lia) (by rw[Int.fmod_eq_emod_of_nonneg i (by lia)];exact q)
theorem qDF:OpR X (binaryOp .Pow) (rI CPow λi j=>.int (i ^ j.toNat)):=opI λ_ _ _ _ _ _ _ hc q=>pow_int_small hc.1 hc.2.1 hc.2.2 q
theorem qDG:OpR X (binaryOp .LShift) (rI CPow λi j=>.int (i*2 ^ j.toNat)):=opI λ_ _ _ _ _ _ _ hc q=>lshift_int_small hc.1 hc.2.1 hc.2.2 q
theorem qKB:OpR X (binaryOp .BitOr) (rI0 λi j=>.int (Builtin.bitOr i j)):=opI0 λ_ _ _ _ _ _ _ q=>or_int q
theorem unI{f:Value→Sem Value}{g:Int→Int}
 (rule:∀(i:Int) (t:Tok) (s:Shared) (Q:Value→Shared→Prop) (E:Value→Shared→Prop),Q (.int (g i) s.toks) { s with toks:=s.toks+1 }→wpAny (model X.prog X.w) X.A (f (.int i t)) Q E s):
 UnR X f (rU λi=>.int (g i)):=by
 intro pins s σ H x v Q I rx h
 obtain⟨i,rfl,q⟩:=h
 obtain⟨t,rfl⟩:=rx
 exact rule i t s _ _ ⟨.int (g i),H,I.tok _,⟨_,rfl⟩,q⟩
theorem qDH:UnR X (unaryOp .USub) (rU λi=>.int (-i)):=unI λ_ _ _ _ _ q=>neg_int q
end
noncomputable def scal:V→V→Bool
 | .non,.non=>true| .non,.int _=>true| .int _,.non=>true| .non,.bl _=>true| .bl _,.non=>true| .non,.str _=>true| .str _,.non=>true
 | .int _,.int _=>true| .bl _,.bl _=>true| .str _,.str _=>true| .byt _,.byt _=>true
 | .int _,.str _=>true| .str _,.int _=>true| .bl _,.str _=>true| .str _,.bl _=>true
 |_,_=>false
noncomputable def rEq:R2:=λx y H Q=>scal x y=true∧Q (.bl (decide (x=y))) H
noncomputable def rNe:R2:=λx y H Q=>scal x y=true∧Q (.bl (!decide (x=y))) H
theorem qBG{i j:Int}:decide (V.int i=V.int j)=(i==j):=by
 rw[wQ]
 simp
theorem qDI{i j:Bool}:decide (V.bl i=V.bl j)=(i==j):=by
 rw[wQ]
 simp
theorem qBH{i j:Str}:decide (V.str i=V.str j)=(i==j):=by
 rw[wQ]
 simp
theorem qBI{i j:Array UInt8}:decide (V.byt i=V.byt j)=(i.toList==j.toList):=by
 rw[wQ]
 cases i
 cases j
 simp
section
variable{X:Cx}{a b c:Expr}{ta tb tc:TE}{pos:Pos}
theorem jJ{pins:List (Addr×Obj)}{σ:St}{H:Hp}{s:Shared}{Q:VK}{k k':Bool}(I:Inv X pins σ H s)(q:Q (.bl k) H)(e:k=k'):EP X pins σ Q (.bool k') s:=by
 subst e
 exact⟨.bl k,H,I,rfl,q⟩
theorem vS:OpR X (compareOp .Eq) rEq:=by
 intro pins s σ H x y v u Q I rx ry h
 obtain⟨hs,q⟩:=h
 cases x with
 |non=>
  cases rx
  cases y with
  |non=>cases ry;exact PySem.EqNone.eq_none_none (jJ I q (by simp))
  |bl j=>cases ry;exact PySem.EqNone.eq_none_bool (jJ I q (by simp))
  |int j=>obtain⟨t',rfl⟩:=ry;exact PySem.EqNone.eq_none_int (jJ I q (by simp))
  |str j=>obtain⟨t',rfl⟩:=ry;exact PySem.EqNone.eq_none_str (jJ I q (by simp))
  |_=>exact absurd (show false=true from hs) kQ
 |bl i=>
  cases rx
  cases y with
  |non=>cases ry;exact PySem.EqNone.eq_bool_none (jJ I q (by simp))
  |bl j=>cases ry;exact eq_bool (jJ I q qDI)
  |str j=>obtain⟨t',rfl⟩:=ry;exact aU (jJ I q (by simp))
  |_=>exact absurd (show false=true from hs) kQ
 |int i=>
  obtain⟨t,rfl⟩:=rx
  cases y with
  |non=>cases ry;exact PySem.EqNone.eq_int_none (jJ I q (by simp))
  |int j=>obtain⟨t',rfl⟩:=ry;exact eq_int (jJ I q qBG)
  |str j=>obtain⟨t',rfl⟩:=ry;exact aY (jJ I q (by simp))
  |_=>exact absurd (show false=true from hs) kQ
 |str i=>
  obtain⟨t,rfl⟩:=rx
  cases y with
  |non=>cases ry;exact PySem.EqNone.eq_str_none (jJ I q (by simp))
  |bl j=>cases ry;exact aV (jJ I q (by simp))
  |int j=>obtain⟨t',rfl⟩:=ry;exact aZ (jJ I q (by simp))
  |str j=>obtain⟨t',rfl⟩:=ry;exact eq_str (jJ I q qBH)
  |_=>exact absurd (show false=true from hs) kQ
 |byt i=>
  obtain⟨t,rfl⟩:=rx
  cases y with
  |byt j=>obtain⟨t',rfl⟩:=ry;exact PySem.W.eq_bytes (jJ I q qBI)
  |_=>exact absurd (show false=true from hs) kQ
 |_=>cases y<;>exact absurd (show false=true from hs) kQ
theorem q5T:OpR X (compareOp .NotEq) rNe:=by
 intro pins s σ H x y v u Q I rx ry h
 obtain⟨hs,q⟩:=h
 cases x with
 |non=>
  cases rx
  cases y with
  |non=>cases ry;exact PySem.EqNone.ne_none_none (jJ I q (by simp))
  |bl j=>cases ry;exact PySem.EqNone.ne_none_bool (jJ I q (by simp))
  |int j=>obtain⟨t',rfl⟩:=ry;exact PySem.EqNone.ne_none_int (jJ I q (by simp))
  |str j=>obtain⟨t',rfl⟩:=ry;exact PySem.EqNone.ne_none_str (jJ I q (by simp))
  |_=>exact absurd (show false=true from hs) kQ
 |bl i=>
  cases rx
  cases y with
  |non=>cases ry;exact PySem.EqNone.ne_bool_none (jJ I q (by simp))
  |bl j=>cases ry;exact ne_bool (jJ I q (gX not qDI))
  |str j=>obtain⟨t',rfl⟩:=ry;exact aW (jJ I q (by simp))
  |_=>exact absurd (show false=true from hs) kQ
 |int i=>
  obtain⟨t,rfl⟩:=rx
  cases y with
  |non=>cases ry;exact PySem.EqNone.ne_int_none (jJ I q (by simp))
  |int j=>obtain⟨t',rfl⟩:=ry;exact ne_int (jJ I q (gX not qBG))
  |str j=>obtain⟨t',rfl⟩:=ry;exact a0 (jJ I q (by simp))
  |_=>exact absurd (show false=true from hs) kQ
 |str i=>
  obtain⟨t,rfl⟩:=rx
  cases y with
  |non=>cases ry;exact PySem.EqNone.ne_str_none (jJ I q (by simp))
  |bl j=>cases ry;exact aX (jJ I q (by simp))
  |int j=>obtain⟨t',rfl⟩:=ry;exact bA (jJ I q (by simp))
  |str j=>obtain⟨t',rfl⟩:=ry;exact ne_str (jJ I q (gX not qBH))
  |_=>exact absurd (show false=true from hs) kQ
 |byt i=>
  obtain⟨t,rfl⟩:=rx
  cases y with
  |byt j=>obtain⟨t',rfl⟩:=ry;exact PySem.W.ne_bytes (jJ I q (gX not qBI))
  |_=>exact absurd (show false=true from hs) kQ
 |_=>cases y<;>exact absurd (show false=true from hs) kQ
theorem q3Z:OpR X (compareOp .Lt) (rI0 λi j=>.bl (decide (i<j))):=opB0 λ_ _ _ _ _ _ _ q=>lt_int q
theorem qDJ:OpR X (compareOp .LtE) (rI0 λi j=>.bl (decide (i≤j))):=opB0 λ_ _ _ _ _ _ _ q=>le_int q
theorem qHI:OpR X (compareOp .Gt) (rI0 λi j=>.bl (decide (j<i))):=opB0 λ_ _ _ _ _ _ _ q=>gt_int q
theorem qBJ:OpR X (compareOp .GtE) (rI0 λi j=>.bl (decide (j≤i))):=opB0 λ_ _ _ _ _ _ _ q=>ge_int q
theorem q8B:OpR X (compareOp .Is) (λx y H Q=>y=.non∧Q (.bl (decide (x=.non))) H):=by
 intro pins s σ H x y v u Q I rx ry h
 obtain⟨rfl,q⟩:=h
 cases ry
 refine is_none_gen (jJ I q ?_)
 cases x<;>first
  |(cases rx;rfl)
  |(obtain⟨t,rfl⟩:=rx;rfl)
theorem q2W:OpR X (compareOp .IsNot) (λx y H Q=>y=.non∧Q (.bl (!decide (x=.non))) H):=by
 intro pins s σ H x y v u Q I rx ry h
 obtain⟨rfl,q⟩:=h
 cases ry
 refine isnot_none_gen (jJ I q ?_)
 cases x<;>first
  |(cases rx;rfl)
  |(obtain⟨t,rfl⟩:=rx;rfl)
theorem qS(b:Expr){op:CmpOp}(h:op≠ .In:=by decide)(h2:op≠ .NotIn:=by decide):behindInMarks op b=false:=by
 have e1:(op==CmpOp.In)=false:=by cases op<;>first|rfl|exact absurd rfl h
 have e2:(op==CmpOp.NotIn)=false:=by cases op<;>first|rfl|exact absurd rfl h2
 cases b<;>simp[behindInMarks,e1,e2]
theorem uU{op:CmpOp}{r:R2}(ho:OpR X (compareOp op) r)(ha:PE X a ta)(hb:PE X b tb)(hm:behindInMarks op b=false):PE X (.Compare a [op] [b] pos) (tOp r ta tb):=by
 intro pins s σ H Q I h
 exact wpAny_Compare1 (binT ha hb I h λv u s2 x y H2 I2 rx ry q=>ho pins s2 σ H2 x y v u Q I2 rx ry q) hm
noncomputable def qHJ(t:TE):TT:=λσ H Q=>t σ H λx H'=>∃k,x=.bl k∧Q k H'
theorem qP{op:CmpOp}{r:R2}(ho:OpR X (compareOp op) r)(ha:PE X a ta)(hb:PE X b tb)(hm:behindInMarks op b=false):PT X (.Compare a [op] [b] pos) (qHJ (tOp r ta tb)):=by
 intro pins s σ H Q I h
 refine nU (thn (ha pins s σ H _ I h) λv s1 ⟨x,H1,I1,r1,q1⟩=>thn (hb pins s1 σ H1 _ I1 q1) λu s2 ⟨y,H2,I2,r2,q2⟩=>
  thn (ho pins s2 σ H2 x y v u _ I2 r1 r2 q2) λc s3 ⟨z,H3,I3,r3,k,e,q3⟩=>?_) hm
 subst e
 cases r3
 exact dE ⟨H3,I3,q3⟩
noncomputable def qDK(r r':R2)(ta tb tc:TE):TE:=λσ H Q=>ta σ H λx H1=>tb σ H1 λy H2=>r x y H2 λz H3=>∃k,z=.bl k∧
 (if k=true then tc σ H3 λw' H4=>r' y w' H4 Q else Q (.bl false) H3)
theorem qDL{op op':CmpOp}{r r':R2}(ho:OpR X (compareOp op) r)(ho':OpR X (compareOp op') r')(ha:PE X a ta)(hb:PE X b tb)(hc:PE X c tc)
 (hm:lastMarks [op,op'] [b,c]=false:=by with_unfolding_all rfl):PE X (.Compare a [op,op'] [b,c] pos) (qDK r r' ta tb tc):=by
 intro pins s σ H Q I h
 refine Compare_chain (thn (ha pins s σ H _ I h) λv s1 ⟨x,H1,I1,r1,q1⟩=>chain_link (thn (hb pins s1 σ H1 _ I1 q1) λu s2 ⟨y,H2,I2,r2,q2⟩=>
  thn (ho pins s2 σ H2 x y v u _ I2 r1 r2 q2) λd s3 ⟨z,H3,I3,r3,k,e,q3⟩=>?_)) hm
 subst e
 cases r3
 refine dE ?_
 cases k with
 |false=>exact ite_ff ⟨.bl false,H3,I3,rfl,q3⟩
 |true=>exact ite_tt (chain_last (thn (hc pins s3 σ H3 _ I3 q3) λw' s4 ⟨z',H4,I4,r4,q4⟩=>ho' pins s4 σ H4 y z' u w' Q I4 r2 r4 q4))
theorem qDM{op op':CmpOp}{r r':R2}(ho:OpR X (compareOp op) r)(ho':OpR X (compareOp op') r')(ha:PE X a ta)(hb:PE X b tb)(hc:PE X c tc)
 (hm:lastMarks [op,op'] [b,c]=false:=by with_unfolding_all rfl):PT X (.Compare a [op,op'] [b,c] pos) (qHJ (qDK r r' ta tb tc)):=by
 intro pins s σ H Q I h
 refine isTrue_chain (thn (ha pins s σ H _ I h) λv s1 ⟨x,H1,I1,r1,q1⟩=>test_link (thn (hb pins s1 σ H1 _ I1 q1) λu s2 ⟨y,H2,I2,r2,q2⟩=>
  thn (ho pins s2 σ H2 x y v u _ I2 r1 r2 q2) λd s3 ⟨z,H3,I3,r3,k,e,q3⟩=>?_)) hm
 subst e
 cases r3
 refine dE ?_
 cases k with
 |false=>
  obtain⟨k',e',q'⟩:=q3
  cases e'
  exact ite_ff ⟨H3,I3,q'⟩
 |true=>
  refine ite_tt (test_last (thn (hc pins s3 σ H3 _ I3 q3) λw' s4 ⟨z',H4,I4,r4,q4⟩=>thn (ho' pins s4 σ H4 y z' u w' _ I4 r2 r4 q4) λd' s5 hZ=>?_))
  obtain⟨z2,H5,I5,r5,k2,e2,q5⟩:=hZ
  subst e2
  cases r5
  exact dE ⟨H5,I5,q5⟩
theorem q5U:(sizeLine:Nat)<2 ^ 63:=by rw[gI];decide
theorem q1Q{x:V}{us:List Value}(r:Vals [x] us):∃u,us=[u]∧RelV x u:=by
 cases r with
 |cons r1 r2=>cases r2;exact⟨_,rfl,r1⟩
theorem qDN{x y:V}{us:List Value}(r:Vals [x,y] us):∃u w',us=[u,w']∧RelV x u∧RelV y w':=by
 cases r with
 |cons r1 r2=>
  cases r2 with
  |cons r3 r4=>cases r4;exact⟨_,_,rfl,r1,r3⟩
theorem qCN(hc:X.calm=true):zC X (.builtin "min") (λxs H Q=>∃i j,xs=[.int i,.int j]∧Q (.int (if j<i then j else i)) H):=by
 intro pins s σ H xs us Q I r h
 obtain⟨i,j,rfl,q⟩:=h
 obtain⟨u,w',rfl,⟨t,rfl⟩,⟨t',rfl⟩⟩:=qDN r
 refine min_two_ints (I.ok.hd hc) λh' tk k=>⟨_,H,I.kept k,?_,q⟩
 by_cases hj:j<i
 ·rw[kD hj,kD hj];exact⟨_,rfl⟩
 ·rw[kB hj,kB hj];exact⟨_,rfl⟩
end
structure ObjM(h:Heap)(x dx C:Addr)(mA:Str→Option Value):Prop where
 obj:h.get? x=some (PySem.W.instObj C dx)
 ns:h.Ns1 dx mA
 ne:dx≠x
theorem q7O{h:Heap}{dx:Addr}{mA:Str→Option Value}(n:h.Ns1 dx mA):∃od,h.get? dx=some od∧∀name,PySem.W.lookIn name od=some (mA name):=by
 obtain⟨o,es,ep,ho,hd,hk,_,hm⟩:=n
 refine⟨o,ho,λname=>?_⟩
 have e:=hm name
 unfold nsFind findBy at e
 rw[←Array.find?_toList]at e
 unfold PySem.W.lookIn
 rw[hd]
 dsimp only
 split
 ·rename_i y q
  rw[q]at e
  exact gX some e
 ·rename_i q
  rw[q]at e
  have a:es.toList.any (·.refKey)=false:=by
   rw[List.any_eq_false]
   intro y hy
   obtain⟨z,t,hkey⟩:=hk y (Array.mem_toList_iff.mp hy)
   simp[DictEntry.refKey,hkey]
  have a':¬es.toList.any (·.refKey)=true:=by rw[a];exact kQ
  rw[kB a']
  exact gX some e
theorem ObjM.look{h:Heap}{x dx C:Addr}{mA:Str→Option Value}(I:ObjM h x dx C mA):∃od,PySem.W.InstAt h x (PySem.W.instObj C dx) C (some od)∧∀name,PySem.W.lookIn name od=some (mA name):=
 let⟨od,ho,hl⟩:=q7O I.ns
 ⟨od,⟨I.obj,rfl,rfl,ho⟩,hl⟩
section
variable{prog:Program}{w:World}{A:Around}{E:Value→Shared→Prop}{s:Shared}{K:PySem.W.Frag}{x dx C f:Addr}{mA:Str→Option Value}{name:Str}{v:Value}
theorem qFS{expr:Bool}{Q:Value→Shared→Prop}(X:K.In s.heap)(I:ObjM s.heap x dx C mA)(hg:PySem.W.plainGet K C name=true)(hh:PySem.W.hasDictIn K C=true)
 (ha:PySem.W.findIn K (.ref C) name=some none) (hv:mA name=some v) (hv':PySem.W.handedIn v=true) (h:Q v { s with toks:=s.toks+1 }):
 wpAny (model prog w) A (getAttr (.ref x) name expr) Q E s:=by
 obtain⟨od,J,hl⟩:=I.look
 exact PySem.W.get_value X J (pQ hg).1 (PySem.W.findObj_own hh ha rfl (by rw[hl,hv])) hv' h
theorem qDO{pl:Sem Bool}{Q:Value×List Value→Shared→Prop}(X:K.In s.heap)(I:ObjM s.heap x dx C mA)(hg:PySem.W.plainGet K C name=true)
 (hf:PySem.W.findIn K (.ref C) name=some (some (.ref f))) (ht:PySem.W.isFn K (.ref f)=true) (hv:mA name=none) (h:Q (.ref f,[.ref x]) s):
 wpAny (model prog w) A (getMethod (.ref x) name pl) Q E s:=by
 obtain⟨od,J,hl⟩:=I.look
 exact PySem.W.method_fn X J (pQ hg).1 (pQ hg).2 hf (wF.mp ht) (by show(PySem.W.lookIn name od).map (·.isSome)=some false;rw[hl,hv];rfl) h
theorem qFT{ns:List Str}{Q:Unit→Shared→Prop}(X:K.In s.heap)(I:ObjM s.heap x dx C mA)
 (hs:PySem.W.findIn K (.ref C) "__setattr__"=some (some (.builtin "object.__setattr__"))) (hp:PySem.W.plainOver K C=true) (ht:PySem.W.takerIn K C name=some none) (hh:PySem.W.hasDictIn K C=true)
 (hw:PySem.Within mA ns) (hsz:ns.length≤sizeLine)
 (h:∀h',ObjM h' x dx C (λy=>if y=name then some v else mA y)→Heap.SameBut dx s.heap h'→Q () { s with heap:=h',toks:=s.toks+2 }):
 wpAny (model prog w) A (setAttr (.ref x) name v) Q E s:=by
 obtain⟨od,J,hl⟩:=I.look
 refine PySem.W.set_plain X J hs (PySem.W.osa_open (s:={ s with toks:=s.toks+1 }) (r:=none) X J hp ht λb=>?_)
 obtain⟨cd,hc,hd'⟩:=pF hh
 have hx:s.heap.get? x=some ⟨.ref C,some dx,.plain,#[]⟩:=I.obj
 refine kL (mO (kL (kL (wpAny_loadPart hx (kL (bI (s:={ s with toks:=s.toks+1 }) (PySem.W.looks_clsIn X hc) ?_))))))
 rw[hd']
 refine mO (a:=some dx) (kL (mO (kL ?_)))
 refine wpAny_nsSet1 (s:={ s with toks:=s.toks+1 }) I.ns λh' hn2 hs2=>?_
 obtain⟨oD,esD,epD,hoD,hdD,hcD⟩:=hn2.count (PySem.Within.cons name v hw)
 refine kL (wpAny_lookBehind hoD (by rw[hdD];exact pastItsLine_dict (kO hcD (by rw[mM];lia))) ?_)
 exact mO (h _ ⟨(hs2.2 _ (wH I.ne)).trans I.obj,hn2,I.ne⟩ hs2)
theorem qDP{R:Result→Shared→Prop}{vs:List Value}{kw:List (Str×Value)}(X:K.In s.heap)(hm:PySem.W.makesIn K C=true)
 (hi:PySem.W.findIn K (.ref C) "__init__"=some (some (.ref f))) (hf:PySem.W.typeIn K (.ref f)=some (.type "function"))
 (h:codeAny (model prog w) (A.under (.builtin "type.__call__" ⟨.ref C::vs,kw⟩)) (.call (.ref f) ⟨.ref (s.heap.objs.size+1)::vs,kw⟩) (PySem.W.InitBack (s.heap.objs.size+1) R)
  { s with heap:=(s.heap.push PySem.W.emptyDict).push (PySem.W.instObj C s.heap.objs.size) }):
 codeAny (model prog w) A (.call (.ref C) ⟨vs,kw⟩) R s:=by
 obtain⟨hh,g,d,t,os⟩:=s
 exact xD (xQ X hm) (cC X hi) (λself=>PySem.W.bind_fn X self hf) (.inl rfl) h
end
noncomputable def putF(f:Str)(v:V):List (Str×V)→List (Str×V)
 | []=>[(f,v)]
 |(g,x)::r=>if g=f then(g,v)::r else(g,x)::putF f v r
theorem q4Y(f g:Str)(v:V):∀fs:List (Str×V),(putF f v fs).lookup g=if g=f then some v else fs.lookup g
 | []=>by
  show List.lookup g [(f,v)]=_
  by_cases h:g=f
  ·have hb:(g==f)=true:=wF.mpr h
   simp only[List.lookup,hb,kD h]
  ·have hb:(g==f)=false:=rG.mpr h
   simp only[List.lookup,hb,kB h]
 |(k,x)::r=>by
  have ih:=q4Y f g v r
  rw[show putF f v ((k,x)::r)=(if k=f then(k,v)::r else(k,x)::putF f v r)from rfl]
  by_cases hk:k=f
  ·rw[kD hk]
   by_cases h:g=k
   ·have hb:(g==k)=true:=wF.mpr h
    simp only[List.lookup,hb,kD (h.trans hk)]
   ·have hb:(g==k)=false:=rG.mpr h
    simp only[List.lookup,hb,kB (λe:g=f=>h (e.trans hk.symm))]
  ·rw[kB hk]
   by_cases h:g=k
   ·have hb:(g==k)=true:=wF.mpr h
    simp only[List.lookup,hb,kB (λe:g=f=>hk (h.symm.trans e))]
   ·have hb:(g==k)=false:=rG.mpr h
    simp only[List.lookup,hb]
    exact ih
theorem q4K(f:Str)(v:V):∀fs:List (Str×V),f∈(putF f v fs).map (·.1)∧∀g,g∈fs.map (·.1)→g∈(putF f v fs).map (·.1)
 | []=>⟨by simp[putF],λg h=>by simp at h⟩
 |(k,x)::r=>by
  obtain⟨i1,i2⟩:=q4K f v r
  rw[show putF f v ((k,x)::r)=(if k=f then(k,v)::r else(k,x)::putF f v r)from rfl]
  by_cases hk:k=f
  ·rw[kD hk]
   subst hk
   exact⟨by simp,λg h=>by simpa using h⟩
  ·rw[kB hk]
   refine⟨?_,λg h=>?_⟩
   ·rw[mE]
    exact hU _ i1
   ·rw[mE]at h ⊢
    rcases kI.mp h with e|e
    ·exact kI.mpr (.inl e)
    ·exact hU _ (i2 g e)
theorem q4Z(f:Str)(v:V):∀fs:List (Str×V),(putF f v fs).length≤fs.length+1
 | []=>by simp[putF]
 |(k,x)::r=>by
  have ih:=q4Z f v r
  rw[show putF f v ((k,x)::r)=(if k=f then(k,v)::r else(k,x)::putF f v r)from rfl]
  by_cases hk:k=f
  ·rw[kD hk,mM,mM];lia
  ·rw[kB hk,mM,mM];lia
theorem RelO.some_of{v:V}{o:Option Value}(r:RelO (some v) o):∃u,o=some u∧RelV v u:=by
 cases o with
 |none=>exact(show False from r).elim
 |some u=>exact⟨u,rfl,r⟩
theorem RelO.none_of{o:Option Value}(r:RelO none o):o=none:=by
 cases o with
 |none=>rfl
 |some u=>exact(show False from r).elim
theorem qCO{v:V}{u:Value}(r:RelV v u):PySem.W.handedIn u=true:=by
 cases v with
 |non=>cases(show u=Value.none from r);rfl
 |bl b=>cases(show u=Value.bool b from r);rfl
 |int i=>obtain⟨t,e⟩:=(show ∃t,u=Value.int i t from r);cases e;rfl
 |str x=>obtain⟨t,e⟩:=(show ∃t,u=Value.str x t from r);cases e;rfl
 |byt b=>obtain⟨t,e⟩:=(show ∃t,u=Value.bytes b t from r);cases e;rfl
 |flt b=>obtain⟨t,e⟩:=(show ∃t,u=Value.float b t from r);cases e;rfl
 |ref a=>cases(show u=Value.ref a from r);rfl
 |ty n=>cases(show u=Value.type n from r);rfl
section
variable{P:Program}{w:World}{H H':Hp}{h h':Heap}{a C dx:Addr}{fs fs':List (Str×V)}
theorem q5G(hok:HOk P w H h)(e:H a=some (.ins C dx fs)):∃mA,ObjM h a dx C mA∧(∀f,RelO (fs.lookup f) (mA f))∧PySem.Within mA (fs.map (·.1))∧fs.length≤1000∧H dx=some (.own a):=by
 obtain⟨d,z,ne,ob,mA,n,r,q⟩:=(show jF P w H h a (.ins C dx fs)from hok a _ e)
 exact⟨mA,⟨ob,n,ne⟩,r,q,z,d⟩
end
structure Cls(K:PySem.W.Frag)(C:Addr):Prop where
 pg:PySem.W.plainGet K C Str.empty=true
 hd:PySem.W.hasDictIn K C=true
 po:PySem.W.plainOver K C=true
 sa:PySem.W.findIn K (.ref C) "__setattr__"=some (some (.builtin "object.__setattr__"))
theorem Cls.get{K:PySem.W.Frag}{C:Addr}(c:Cls K C)(f:Str):PySem.W.plainGet K C f=true:=c.pg
noncomputable def qQ(K:PySem.W.Frag)(C:Addr)(f:Str):Prop:=PySem.W.findIn K (.ref C) f=some none
theorem qQ.taker{K:PySem.W.Frag}{C:Addr}{f:Str}(n:qQ K C f):PySem.W.takerIn K C f=some none:=by
 unfold PySem.W.takerIn
 rw[show PySem.W.findIn K (.ref C) f=some none from n]
 rfl
structure Meth(K:PySem.W.Frag)(C:Addr)(m:Str)(f:Addr):Prop where
 at_:PySem.W.findIn K (.ref C) m=some (some (.ref f))
 fn:PySem.W.isFn K (.ref f)=true
 kp:PySem.W.keepIn K (.ref f)=true
section
variable{X:Cx}{pins:List (Addr×Obj)}{σ:St}{H:Hp}{s:Shared}{a C dx:Addr}{fs:List (Str×V)}{f:Str}{v:V}{A:Around}{E:Value→Shared→Prop}
theorem q5V{b:Bool}{Q:Value→Shared→Prop}(I:Inv X pins σ H s)(e:H a=some (.ins C dx fs))(c:Cls X.K C)(n:qQ X.K C f)(l:fs.lookup f=some v)
 (h:∀u s',Inv X pins σ H s'→RelV v u→Q u s'):wpAny (model X.prog X.w) A (getAttr (.ref a) f b) Q E s:=by
 obtain⟨mA,O,r,_,_,_⟩:=q5G I.hok e
 obtain⟨u,hu,ru⟩:=RelO.some_of (v:=v) (o:=mA f) (by rw[←l];exact r f)
 exact qFS I.kIn O (c.get f) c.hd n hu (qCO ru) (h u _ (I.tok _) ru)
theorem q13{m:Str}{g:Addr}{pl:Sem Bool}{Q:Value×List Value→Shared→Prop}(I:Inv X pins σ H s)(e:H a=some (.ins C dx fs))(c:Cls X.K C)(k:Meth X.K C m g)(l:fs.lookup m=none)
 (h:Q (.ref g,[.ref a]) s):wpAny (model X.prog X.w) A (getMethod (.ref a) m pl) Q E s:=by
 obtain⟨mA,O,r,_,_,_⟩:=q5G I.hok e
 have hn:mA m=none:=RelO.none_of (by rw[←l];exact r m)
 exact qDO I.kIn O (c.get m) k.at_ k.fn hn h
theorem q5W{y:V}{u:Value}{Q:Unit→Shared→Prop}(I:Inv X pins σ H s)(e:H a=some (.ins C dx fs))(c:Cls X.K C)(n:qQ X.K C f)(hl:fs.length<1000)(ry:RelV y u)
 (h:∀s',Inv X pins σ (upd H a (.ins C dx (putF f y fs))) s'→Q () s'):wpAny (model X.prog X.w) A (setAttr (.ref a) f u) Q E s:=by
 obtain⟨mA,O,r,wi,_,ho⟩:=q5G I.hok e
 have hz:(fs.map (·.1)).length≤sizeLine:=by rw[hC,gI];lia
 refine qFT I.kIn O c.sa c.po n.taker c.hd wi hz λh' O' sb=>h _ ?_
 have hd:∃o,h'.get? dx=some o:=let⟨o,_,_,e',_⟩:=O'.ns;⟨o,e'⟩
 refine I.write (x:=a) (e:=dx) (by rw[e];exact True.intro) (.inr ho) (λb q hb z=>(sb.2 b hb).trans z) hd ?_
 refine⟨by rw[qC O.ne];exact ho,?_,O.ne,O'.obj,_,O'.ns,λg=>?_,λg hg=>?_⟩
 ·have:=q4Z f y fs;lia
 ·show RelO ((putF f y fs).lookup g) (if g=f then some u else mA g)
  rw[q4Y]
  by_cases q:g=f
  ·rw[kD q,kD q];exact ry
  ·rw[kB q,kB q];exact r g
 ·by_cases q:g=f
  ·rw[q];exact(q4K f y fs).1
  ·refine(q4K f y fs).2 g (wi g λz=>hg ?_)
   show(if g=f then some u else mA g)=none
   rw[kB q];exact z
theorem Inv.made(I:Inv X pins σ H s):Inv X pins σ (upd (upd H s.heap.objs.size (.own (s.heap.objs.size+1))) (s.heap.objs.size+1) (.ins C s.heap.objs.size []))
 { s with heap:=(s.heap.push PySem.W.emptyDict).push (PySem.W.instObj C s.heap.objs.size) }:=by
 have e1:(s.heap.push PySem.W.emptyDict).get? s.heap.objs.size=some PySem.W.emptyDict:=mP s.heap rfl
 have e2:((s.heap.push PySem.W.emptyDict).push (PySem.W.instObj C s.heap.objs.size)).get? (s.heap.objs.size+1)=some (PySem.W.instObj C s.heap.objs.size):=by
  have:=mP (s.heap.push PySem.W.emptyDict) (o:=PySem.W.instObj C s.heap.objs.size) rfl
  rwa [p7]at this
 have e3:(s.heap.push PySem.W.emptyDict).Ns s.heap.objs.size (λ_=>none):=⟨PySem.W.emptyDict,#[],_,e1,rfl,(λe he=>absurd he (by simp)),λ_=>rfl⟩
 have I1:=I.laid (a:=s.heap.objs.size) (o:=.own (s.heap.objs.size+1)) (h':=s.heap.push PySem.W.emptyDict) (t':=s.toks) (λb u q=>kF _ q) (kM _) ⟨_,e1⟩
 refine I1.laid (a:=s.heap.objs.size+1) (o:=.ins C s.heap.objs.size []) (t':=s.toks) (λb u q=>kF _ q) (cX (p7 _ _)) ?_
 have ne:s.heap.objs.size≠s.heap.objs.size+1:=m9 (rP _)
 refine⟨by rw[qC ne,qH],mV _,ne,e2,λ_=>none,(Heap.Ns1.of_empty e3).at λo q=>kF _ q,λ_=>True.intro,λy hy=>absurd rfl hy⟩
theorem qFU{prog:Program}{w:World}{env:Env}{e:Expr}{f:Str}{pos:Pos}{s:Shared}{Q:Value→Shared→Prop}(hb:attributeBase e f env (eval e env)=eval e env)
 (h:wpAny (model prog w) A (eval e env) (λo s₁=>wpAny (model prog w) A (getAttr o f true) Q E s₁) E s):wpAny (model prog w) A (eval (.Attribute e f pos) env) Q E s:=
 Attribute_any_ h (by rw[arm_eval_Attribute,hb])
end
noncomputable def tFld(K:PySem.W.Frag)(ta:TE)(f:Str):TE:=λσ H Q=>ta σ H λx H1=>∃a C dx fs v,x=.ref a∧H1 a=some (.ins C dx fs)∧Cls K C∧qQ K C f∧fs.lookup f=some v∧Q v H1
noncomputable def sFld(K:PySem.W.Frag)(ta tv:TE)(f:Str):TS:=λD σ H=>tv σ H λy H1=>ta σ H1 λx H2=>∃a C dx fs,x=.ref a∧H2 a=some (.ins C dx fs)∧Cls K C∧qQ K C f∧fs.length<1000∧
 D.nx σ (upd H2 a (.ins C dx (putF f y fs)))
noncomputable def InOp(X:Cx)(op:Operator)(rd:V→V→Hp→VK→Prop):Prop:=
 ∀(pins:List (Addr×Obj)) (s:Shared) (σ:St) (H:Hp) (x y:V) (u v:Value) (Q:VK),Inv X pins σ H s→RelV x u→RelV y v→rd x y H Q→wpAny (model X.prog X.w) X.A (inplaceOp op u v) (EP X pins σ Q) X.xe s
noncomputable def qFV(K:PySem.W.Frag)(ta tv:TE)(rd:V→V→Hp→VK→Prop)(f:Str):TS:=λD σ H=>ta σ H λx H1=>∃a C dx fs v,x=.ref a∧H1 a=some (.ins C dx fs)∧Cls K C∧qQ K C f∧fs.lookup f=some v∧
 tv σ H1 λy H2=>rd v y H2 λz H3=>∃dx' fs',H3 a=some (.ins C dx' fs')∧fs'.length<1000∧D.nx σ (upd H3 a (.ins C dx' (putF f z fs')))
section
variable{X:Cx}{o e value:Expr}{f:Str}{pos pos' tpos:Pos}{ta tv:TE}
theorem qJ(he:PE X e ta)(hb:attributeBase e f X.env (eval e X.env)=eval e X.env):PE X (.Attribute e f pos) (tFld X.K ta f):=by
 intro pins s σ H Q I h
 refine qFU hb (thn (he pins s σ H _ I h) λu s1 hZ=>?_)
 obtain⟨x,H1,I1,rx,a,C,dx,fs,v,ex,ea,c,n,l,q⟩:=hZ
 subst ex
 obtain rfl:u=Value.ref a:=rx
 exact q5V I1 ea c n l λu' s2 I2 ru=>⟨v,H1,I2,ru,q⟩
theorem jO(ha:PE X o ta)(hv:PE X value tv)(hs:swapsWith value (some (.Attribute o f pos')) pos.line X.env=pure false):PS X (.Assign [.Attribute o f pos'] value pos) (sFld X.K ta tv f):=by
 intro pins s σ H D I h
 refine plainObj_wpAny_Assign_Attribute (thn (hv pins s σ H _ I h) λu s1 ⟨y,H1,I1,ry,q⟩=>thn (ha pins s1 σ H1 _ I1 q) λov s2 hZ=>?_) hs
 obtain⟨x,H2,I2,rx,a,C,dx,fs,ex,ea,c,n,l,q2⟩:=hZ
 subst ex
 obtain rfl:ov=Value.ref a:=rx
 exact q5W I2 ea c n l ry λs3 I3=>⟨σ,_,I3,q2⟩
theorem q7P{op:Operator}{rd:V→V→Hp→VK→Prop}(ha:PE X o ta)(hv:PE X value tv)(hop:InOp X op rd):PS X (.AugAssign (.Attribute o f tpos) op value pos) (qFV X.K ta tv rd f):=by
 intro pins s σ H D I h
 refine wpAny_AugAssign_AttributeAny (thn (ha pins s σ H _ I h) λov s1 hZ=>?_)
 obtain⟨x,H1,I1,rx,a,C,dx,fs,v,ex,ea,c,n,l,q⟩:=hZ
 subst ex
 obtain rfl:ov=Value.ref a:=rx
 refine q5V I1 ea c n l λu s2 I2 ru=>thn (hv pins s2 σ H1 _ I2 q) λw3 s3 ⟨y,H2,I3,ry,q3⟩=>thn (hop pins s3 σ H2 v y u w3 _ I3 ru ry q3) λw4 s4 hZ=>?_
 obtain⟨z,H3,I4,rz,dx',fs',ea',l',q4⟩:=hZ
 exact q5W I4 ea' c n l' rz λs5 I5=>⟨σ,_,I5,q4⟩
noncomputable def rAdd:V→V→Hp→VK→Prop:=λx y H Q=>∃i j,x=.int i∧y=.int j∧Q (.int (i+j)) H
noncomputable def rSub:V→V→Hp→VK→Prop:=λx y H Q=>∃i j,x=.int i∧y=.int j∧Q (.int (i-j)) H
theorem qI7:InOp X .Add rAdd:=by
 rintro pins s σ H x y u v Q I rx ry ⟨i,j,rfl,rfl,q⟩
 obtain⟨t,rfl⟩:=(show ∃t,u=Value.int i t from rx)
 obtain⟨t',rfl⟩:=(show ∃t',v=Value.int j t' from ry)
 exact PyProof.Rows.iadd_int ⟨.int (i+j),H,I.tok _,⟨_,rfl⟩,q⟩
theorem qI8:InOp X .Sub rSub:=by
 rintro pins s σ H x y u v Q I rx ry ⟨i,j,rfl,rfl,q⟩
 obtain⟨t,rfl⟩:=(show ∃t,u=Value.int i t from rx)
 obtain⟨t',rfl⟩:=(show ∃t',v=Value.int j t' from ry)
 exact PyProof.Rows.isub_int ⟨.int (i-j),H,I.tok _,⟨_,rfl⟩,q⟩
end
section
variable{X:Cx}{pins:List (Addr×Obj)}{σ:St}{H:Hp}{s:Shared}{A:Around}{E:Value→Shared→Prop}{Q:Value→Shared→Prop}{c:Value}{b:Bool}
inductive TyOf(K:PySem.W.Frag)(H:Hp):V→Value→Prop where
 |non:TyOf K H .non (.type "NoneType")
 |bl (x:Bool):TyOf K H (.bl x) (.type "bool")
 |int (i:Int):TyOf K H (.int i) (.type "int")
 |str (x:Str):TyOf K H (.str x) (.type "str")
 |flt (x:UInt64):TyOf K H (.flt x) (.type "float")
 |lst {a:Addr} {xs:List V} (e:H a=some (.lst xs)):TyOf K H (.ref a) (.type "list")
 |frz {a:Addr} {o:Obj} {xs:List V} (e:H a=some (.frz o (.lst xs))):TyOf K H (.ref a) (.type "list")
 |tup {a:Addr} {xs:List V} (e:H a=some (.tup xs)):TyOf K H (.ref a) (.type "tuple")
 |dK {a:Addr} {kvs:List (Key×V)} (e:H a=some (.dK kvs)):TyOf K H (.ref a) (.type "dict")
 |dT {a:Addr} {kvs:List (List Key×V)} (e:H a=some (.dT kvs)):TyOf K H (.ref a) (.type "dict")
 |ins {a C dx:Addr} {fs:List (Str×V)} (e:H a=some (.ins C dx fs)) (cl:Cls K C) (ha:PySem.W.findIn K (.ref C) "__class__"=some (some (.builtin "object.__class__")))
  (hn:PySem.W.specialIn K (.builtin "object.__class__") "__get__"=some (some (.builtin "getset_descriptor.__get__"))) (htk:PySem.W.takesIn K (.builtin "object.__class__")=some true)
  (hm:PySem.W.mroIn K C (.type "object")=some true):TyOf K H (.ref a) (.ref C)
theorem qCP{x:V}{u t:Value}(I:Inv X pins σ H s)(rx:RelV x u)(ty:TyOf X.K H x t)(e:PySem.W.kitOne X.K t c=some b)(h:∀tk,Q (.bool b) { s with toks:=tk }):
 wpAny (model X.prog X.w) A (call (.builtin "isinstance") [u,c]) Q E s:=by
 cases ty with
 |non=>cases(show u=Value.none from rx);exact gY PySem.W.kitx_none I.kIn True.intro e (λz=>nomatch z) h
 |bl y=>cases(show u=Value.bool y from rx);exact gY PySem.W.kitx_bool I.kIn True.intro e (λz=>nomatch z) h
 |int i=>obtain⟨t,q⟩:=(show ∃t,u=Value.int i t from rx);cases q;exact gY PySem.W.kitx_int I.kIn True.intro e (λz=>nomatch z) h
 |str y=>obtain⟨t,q⟩:=(show ∃t,u=Value.str y t from rx);cases q;exact gY PySem.W.kitx_str I.kIn True.intro e (λz=>nomatch z) h
 |flt y=>obtain⟨t,q⟩:=(show ∃t,u=Value.float y t from rx);cases q;exact gY PySem.W.kitx_float I.kIn True.intro e (λz=>nomatch z) h
 |@lst a xs ea=>
  cases(show u=Value.ref a from rx)
  obtain⟨_,_,n,_,h1⟩:=(show jF X.prog X.w H s.heap a (.lst xs)from I.hok a _ ea)
  exact gY xE I.kIn ⟨_,h1,rfl⟩ e (λz=>nomatch z) h
 |@frz a ob xs ea=>
  cases(show u=Value.ref a from rx)
  obtain⟨_,_,_,n,_,h1⟩:=(show jF X.prog X.w H s.heap a (.frz ob (.lst xs))from I.hok a _ ea)
  exact gY xE I.kIn ⟨_,h1,rfl⟩ e (λz=>nomatch z) h
 |@tup a xs ea=>
  cases(show u=Value.ref a from rx)
  obtain⟨_,_,_,p⟩:=(show jF X.prog X.w H s.heap a (.tup xs)from I.hok a _ ea)
  obtain⟨o,h1,h2,_⟩:=p
  exact gY PySem.W.kitx_tuple I.kIn ⟨o,h1,h2⟩ e (λz=>nomatch z) h
 |@dK a kvs ea=>
  cases(show u=Value.ref a from rx)
  obtain⟨_,_,vs,_,p⟩:=(show jF X.prog X.w H s.heap a (.dK kvs)from I.hok a _ ea)
  obtain⟨o,es,ep,h1,h2,_⟩:=p
  exact gY xF I.kIn ⟨o,h1,h2.1⟩ e (λz=>nomatch z) h
 |@dT a kvs ea=>
  cases(show u=Value.ref a from rx)
  obtain⟨_,_,xs,_,o,es,ep,h1,h2,_⟩:=(show jF X.prog X.w H s.heap a (.dT kvs)from I.hok a _ ea)
  exact gY xF I.kIn ⟨o,h1,h2.1⟩ e (λz=>nomatch z) h
 |@ins a C dx fs ea cl ha hn htk hm=>
  cases(show u=Value.ref a from rx)
  obtain⟨mA,O,_⟩:=q5G I.hok ea
  obtain⟨od,J,_⟩:=O.look
  exact gY (PySem.W.kitx_own (cl.get _) cl.hd ha hn htk hm) I.kIn J e (λz=>nomatch z) h
end
structure Room(k:Nat)(A:Around):Prop where
 hd:A.handled=none
 dp:A.depth+3*k+5<recursionLimit
 un:A.units+16*k+200<cLine
theorem Room.mono{j k:Nat}{A:Around}(r:Room k A)(h:j≤k):Room j A:=⟨r.hd,by have:=r.dp;lia,by have:=r.un;lia⟩
theorem Room.deeper{k:Nat}{A:Around}(r:Room (k+1) A)(env:Env):Room k (A.deeper env):=
 ⟨r.hd,by have:=r.dp;show A.depth+1+3*k+5< _;lia,by have:=r.un;show A.units+3+16*k+200< _;lia⟩
theorem Room.in1{k:Nat}{A:Around}(r:Room (k+1) A):Room k A.in1:=
 ⟨r.hd,by have:=r.dp;show A.depth+3*k+5< _;lia,by have:=r.un;show A.units+1+16*k+200< _;lia⟩
theorem qAQ{A:Around}{C:Addr}{us:List Value}{kw:List (Str×Value)}:(A.under (.builtin "type.__call__" ⟨.ref C::us,kw⟩)).depth=A.depth+1:=by
 first|rfl|simp[Around.under,Code.weight,Code.isCreation,Code.isGuard,Code.isCaller,Code.frames,Code.isFrame,guardIds]
theorem qAR{A:Around}{C:Addr}{us:List Value}{kw:List (Str×Value)}:(A.under (.builtin "type.__call__" ⟨.ref C::us,kw⟩)).units=A.units+1:=by
 first|rfl|simp[Around.under,Code.cUnits,Code.frames,Code.isFrame]
theorem Room.make{k:Nat}{A:Around}(r:Room (k+1) A)(C:Addr)(us:List Value)(kw:List (Str×Value)):Room k (A.under (.builtin "type.__call__" ⟨.ref C::us,kw⟩)):=
 ⟨r.hd,by have:=r.dp;rw[qAQ];lia,by have:=r.un;rw[qAR];lia⟩
theorem Room.depth{k:Nat}{A:Around}(r:Room k A):A.depth<recursionLimit:=by have:=r.dp;lia
theorem Room.units{k:Nat}{A:Around}(r:Room k A):A.units+64<cLine:=by have:=r.un;lia
noncomputable def tNil:TA:=λ_ H Q=>Q [] H
noncomputable def qBK(ta:TE)(tr:TA):TA:=λσ H Q=>ta σ H λx H1=>tr σ H1 λxs H2=>Q (x::xs) H2
section
variable{X:Cx}{e:Expr}{es:List Expr}{te:TE}{t:TA}{pos:Pos}
theorem qD:PA X [] tNil:=λ_ _ _ _ H Q I h=>cY ⟨[],H,I,.nil,h⟩
theorem qA(ha:PE X e te)(hr:PA X es t)(hs:starEach (e::es) X.env=(false,eval e X.env)::starEach es X.env:=by rfl):PA X (e::es) (qBK te t):=by
 intro pos pins s σ H Q I h
 rw[hs]
 show wpAny _ _ (spliced ((false,eval e X.env)::backTo pos (starEach es X.env))) _ _ s
 refine rS (thn (ha pins s σ H _ I h) λu s1 hZ=>?_)
 obtain⟨x,H1,I1,r1,q1⟩:=hZ
 exact thn (hr pos pins s1 σ H1 _ I1 q1) λus s2 ⟨xs,H2,I2,r2,q2⟩=>⟨x::xs,H2,I2,.cons r1 r2,q2⟩
end
noncomputable abbrev Sp:=List V→Hp→VK→XK→Prop
noncomputable abbrev CXT:=List Env→Hp→Shared→XK→Value→Shared→Prop
structure Env0(P:Program)(w:World)(K:PySem.W.Frag)(mg:Str→Option Value)(base:Heap)(A:Around)(outer:List Env)(s:Shared)(H:Hp):Prop where
 frames:A.frames=some outer
 mod:Mod K mg base
 bs:∀b o,base.get? b=some o→s.heap.get? b=some o∧H b=none
 bsz:base.objs.size≤s.heap.objs.size
 funs:s.heap.FunFrames base outer
 frf:∀b∈frs outer,H b=none
 hok:HOk P w H s.heap
 bare:AllBare s.gens
noncomputable def CE(outer:List Env)(P:Program)(w:World)(H:Hp)(s:Shared)(Q:VK)(u:Value)(s':Shared):Prop:=
 ∃v H',s'.os=s.os∧AllBare s'.gens∧Un (frs outer) [] H H' s.heap s'.heap∧HOk P w H' s'.heap∧RelV v u∧Q v H'
noncomputable def CR(CX:CXT)(outer:List Env)(P:Program)(w:World)(H:Hp)(s:Shared)(Q:VK)(E:XK)(r:Result)(s':Shared):Prop:=
 match r with
 | .ok (.ret u)=>CE outer P w H s Q u s'
 | .ok _=>False
 | .error e=>CX outer H s E e s'
structure FnOk(P:Program)(w:World)(K:PySem.W.Frag)(mg:Str→Option Value)(base:Heap)(CX:CXT)(k:Nat)(f:Addr)(fd:FuncData)(ps:List Str)(sp:Sp):Prop where
 len:∀vs H Q E,sp vs H Q E→vs.length=ps.length
 run:∀(A:Around) (outer:List Env) (s:Shared) (H:Hp) (args:Args) (us:List Value) (vs:List V) (Q:VK) (E:XK),Room k A→Env0 P w K mg base A outer s H→BindsTo s fd args (ps.zip us)→Vals vs us→sp vs H Q E→
  codeAny (model P w) A (.call (.ref f) args) (CR CX outer P w H s Q E) s
theorem FnOk.mono{P:Program}{w:World}{K:PySem.W.Frag}{mg:Str→Option Value}{base:Heap}{CX:CXT}{j k:Nat}{f:Addr}{fd:FuncData}{ps:List Str}{sp:Sp}(F:FnOk P w K mg base CX j f fd ps sp)(h:j≤k:=by decide):
 FnOk P w K mg base CX k f fd ps sp:=⟨F.len,λA outer s H args us vs Q E hr=>F.run A outer s H args us vs Q E (hr.mono h)⟩
theorem Env0.make{P:Program}{w:World}{K:PySem.W.Frag}{mg:Str→Option Value}{base:Heap}{A:Around}{outer:List Env}{s:Shared}{H:Hp}(e:Env0 P w K mg base A outer s H)(C:Addr)(us:List Value)(kw:List (Str×Value)):
 Env0 P w K mg base (A.under (.builtin "type.__call__" ⟨.ref C::us,kw⟩)) outer s H:=⟨by first|exact e.frames|(simpa[Around.under,Code.envs,Code.isFrame,pushEnvs]using e.frames),e.mod,e.bs,e.bsz,e.funs,e.frf,e.hok,e.bare⟩
section
variable{X:Cx}{pins:List (Addr×Obj)}{σ:St}{H:Hp}{s s':Shared}
theorem Inv.env0(I:Inv X pins σ H s):Env0 X.prog X.w X.K X.mg X.base X.A X.stack s H:=
 ⟨I.ok.frames,I.ok.mod,I.bs,kO I.ok.bsz I.sz,I.stack,I.stkFree,I.hok,I.bare⟩
theorem Inv.after{Q:VK}{u:Value}(I:Inv X pins σ H s)(h:CE X.stack X.prog X.w H s Q u s'):EP X pins σ Q u s':=by
 obtain⟨v,H',os,bare,un,hok,r,q⟩:=h
 obtain⟨hh,g,d,t,os'⟩:=s'
 obtain rfl:os'=s.os:=os
 exact⟨v,H',I.call (h':=hh) (g':=g) (d':=d) (t':=t) (ch:=[]) un hok bare (λb z=>absurd z (by simp)),r,q⟩
end
noncomputable def qHK(sp:Sp)(dvs:List V)(E:XK)(t:TA):TE:=λσ H Q=>t σ H λvs H1=>sp (vs++dvs) H1 Q E
noncomputable def qHL(C:Addr)(m:Str)(sp:Sp)(dvs:List V)(E:XK)(ta:TE)(t:TA):TE:=λσ H Q=>ta σ H λx H1=>∃a dx fs,x=.ref a∧H1 a=some (.ins C dx fs)∧fs.lookup m=none∧
 t σ H1 λvs H2=>sp (x::(vs++dvs)) H2 Q E
noncomputable def qKC(C:Addr)(sp:Sp)(dvs:List V)(E:XK)(t:TA):TE:=λσ H Q=>t σ H λvs H1=>∀x dx,H1 x=none→H1 dx=none→dx≠x→
 sp (.ref x::(vs++dvs)) (upd (upd H1 dx (.own x)) x (.ins C dx [])) (λv H2=>v=.non∧Q (.ref x) H2) E
noncomputable def yN(K:PySem.W.Frag)(fd:FuncData)(ps:List Str)(ds:List Value):Prop:=
 ∀(s:Shared) (us:List Value),K.In s.heap→(us++ds).length=ps.length→BindsTo s fd ⟨us,[]⟩ (ps.zip (us++ds))
theorem yN.all{K:PySem.W.Frag}{fd:FuncData}{ps:List Str}(h:∀us:List Value,us.length=ps.length→bindArgs fd ⟨us,[]⟩=pure (ps.zip us)):yN K fd ps []:=λs us _ hl=>by
 rw[gK]at hl ⊢
 exact .of_eq (h us hl)
noncomputable def q14(CX:CXT)(X:Cx)(E:XK):Prop:=∀(pins:List (Addr×Obj)) (σ:St) (H:Hp) (s:Shared) (e:Value) (s':Shared),Inv X pins σ H s→CX X.stack H s E e s'→X.xe e s'
section
variable{X:Cx}{CX:CXT}{k:Nat}{f C:Addr}{fd:FuncData}{ps:List Str}{sp:Sp}{dvs:List V}{ds:List Value}{E:XK}{x m:Str}{p pos apos:Pos}{e o:Expr}{es:List Expr}{ta:TE}{t:TA}
theorem q8C{pins:List (Addr×Obj)}{σ:St}{H:Hp}{s:Shared}{Q:VK}{us:List Value}{vs:List V}(F:FnOk X.prog X.w X.K X.mg X.base CX k f fd ps sp)(hr:Room k X.A)(hb:yN X.K fd ps ds)(hd:Vals dvs ds)(hx:q14 CX X E)
 (I:Inv X pins σ H s) (r:Vals vs us) (h:sp (vs++dvs) H Q E):wpAny (model X.prog X.w) X.A (call (.ref f) us) (EP X pins σ Q) X.xe s:=by
 have r2:Vals (vs++dvs) (us++ds):=r.append hd
 have hl:(us++ds).length=ps.length:=by rw[←r2.length];exact F.len _ _ _ _ h
 refine pG (cZ (F.run X.A X.stack s H ⟨us,[]⟩ (us++ds) (vs++dvs) Q E hr I.env0 (hb s us I.kIn hl) r2 h) λr s' hq=>?_)
 cases r with
 |error e=>exact hx pins σ H s e s' I hq
 |ok fl=>
  cases fl with
  |ret u=>exact I.after hq
  |next=>exact False.elim hq
  |brk=>exact False.elim hq
  |cont=>exact False.elim hq
theorem qY(F:FnOk X.prog X.w X.K X.mg X.base CX k f fd ps sp)(hr:Room k X.A)(hg:Gl X x)(hm:X.mg x=some (.ref f))(hk:PySem.W.keepIn X.K (.ref f)=true)(hb:yN X.K fd ps ds)(hd:Vals dvs ds)(hx:q14 CX X E)
 (ha:PA X (e::es) t) (hdb:(x==("__debug__":Str))=false:=by decide) (he:starEach (e::es) X.env=(false,eval e X.env)::starEach es X.env:=by rfl) (hpl:(backTo pos (starEach es X.env)).any (·.1)=false:=by rfl):
 PE X (.Call (.Name x p) (e::es) [] pos) (qHK sp dvs E t):=by
 intro pins s σ H Q I h
 refine rT (q2V I hg hm ?_ hdb)
 refine wO (h₀:=X.base) I.ok.mod.kin hk (thn (ha pos pins s σ H _ I h) λus s1 ⟨vs,H1,I1,r,q⟩=>⟨I1.kIn,?_⟩) he hpl
 exact q8C F hr hb hd hx I1 r q
theorem jC{pl:Sem Bool}(he:PE X o ta)(c:Cls X.K C)(hm:Meth X.K C m f)(F:FnOk X.prog X.w X.K X.mg X.base CX k f fd ps sp)(hr:Room k X.A)(hb:yN X.K fd ps ds)(hd:Vals dvs ds)(hx:q14 CX X E)(ha:PA X (e::es) t)
 (hst:starEach (e::es) X.env=(false,eval e X.env)::starEach es X.env:=by rfl) (hpl:(backTo pos (starEach es X.env)).any (·.1)=false:=by rfl)
 (ht:eval (.Call (.Attribute o m apos) (e::es) [] pos) X.env=(do
  let ov←eval o X.env
  standAt apos.atName
  let(f,first)←holding [ov] (getMethod ov m pl)
  callWith pos f first (backTo pos (starEach (e::es) X.env)) (backToKw pos (keywordEach [] X.env))):=by rfl):
 PE X (.Call (.Attribute o m apos) (e::es) [] pos) (qHL C m sp dvs E ta t):=by
 intro pins s σ H Q I h
 refine rW (pl:=pl) (thn (he pins s σ H _ I h) λu s1 hZ=>?_) ht
 obtain⟨x,H1,I1,rx,a,dx,fs,ex,ea,l,q⟩:=hZ
 subst ex
 obtain rfl:u=Value.ref a:=rx
 refine q13 I1 ea c hm l ?_
 refine wO (first:=[.ref a]) (h₀:=X.base) I.ok.mod.kin hm.kp (thn (ha pos pins s1 σ H1 _ I1 q) λus s2 ⟨vs,H2,I2,r,q2⟩=>⟨I2.kIn,?_⟩) hst hpl
 exact q8C (us:=.ref a::us) (vs:=.ref a::vs) F hr hb hd hx I2 (.cons rfl r) q2
theorem j8{pl:Sem Bool}(he:PE X o ta)(c:Cls X.K C)(hm:Meth X.K C m f)(F:FnOk X.prog X.w X.K X.mg X.base CX k f fd ps sp)(hr:Room k X.A)(hb:yN X.K fd ps ds)(hd:Vals dvs ds)(hx:q14 CX X E)
 (ht:eval (.Call (.Attribute o m apos) [] [] pos) X.env=(do
  let ov←eval o X.env
  standAt apos.atName
  let(f,first)←holding [ov] (getMethod ov m pl)
  callWith pos f first (backTo pos (starEach [] X.env)) (backToKw pos (keywordEach [] X.env))):=by rfl):
 PE X (.Call (.Attribute o m apos) [] [] pos) (qHL C m sp dvs E ta tNil):=by
 intro pins s σ H Q I h
 refine rW (pl:=pl) (thn (he pins s σ H _ I h) λu s1 hZ=>?_) ht
 obtain⟨x,H1,I1,rx,a,dx,fs,ex,ea,l,q⟩:=hZ
 subst ex
 obtain rfl:u=Value.ref a:=rx
 refine q13 I1 ea c hm l ?_
 exact pR (first:=[.ref a]) I1.kIn hm.kp (q8C (us:=[.ref a]) (vs:=[.ref a]) F hr hb hd hx I1 (.cons rfl .nil) q)
structure Mk(K:PySem.W.Frag)(C f:Addr):Prop where
 makes:PySem.W.makesIn K C=true
 init:PySem.W.findIn K (.ref C) "__init__"=some (some (.ref f))
 fn:PySem.W.isFn K (.ref f)=true
 kp:PySem.W.keepIn K (.ref C)=true
theorem qDQ{pins:List (Addr×Obj)}{σ:St}{H:Hp}{s:Shared}{Q:VK}{us:List Value}{vs:List V}(M:Mk X.K C f)(F:FnOk X.prog X.w X.K X.mg X.base CX k f fd ps sp)(hr:Room (k+1) X.A)(hb:yN X.K fd ps ds)(hd:Vals dvs ds)
 (hx:q14 CX X E) (I:Inv X pins σ H s) (r:Vals vs us)
 (h:∀x dx,H x=none→H dx=none→dx≠x→sp (.ref x::(vs++dvs)) (upd (upd H dx (.own x)) x (.ins C dx [])) (λv H2=>v=.non∧Q (.ref x) H2) E):
 wpAny (model X.prog X.w) X.A (call (.ref C) us) (EP X pins σ Q) X.xe s:=by
 have hq:=h (s.heap.objs.size+1) s.heap.objs.size (I.hok.fresh (rC _)) (I.hok.fresh (kM _)) (m9 (rP _))
 have I2:=Inv.made (C:=C) I
 have r2:Vals (V.ref (s.heap.objs.size+1)::(vs++dvs)) (Value.ref (s.heap.objs.size+1)::(us++ds)):=.cons rfl (r.append hd)
 have hl:(Value.ref (s.heap.objs.size+1)::us++ds).length=ps.length:=by
  have e:=r2.length
  rw[F.len _ _ _ _ hq]at e
  exact e.symm
 refine pG (qDP (f:=f) I.kIn M.makes M.init (wF.mp M.fn) (cZ (F.run _ X.stack _ _ ⟨Value.ref (s.heap.objs.size+1)::us,[]⟩ (Value.ref (s.heap.objs.size+1)::(us++ds)) _ _ E (hr.make C us [])
  (I2.env0.make C us []) (hb _ (Value.ref (s.heap.objs.size+1)::us) I2.kIn hl) r2 hq) λr s' hq'=>?_))
 cases r with
 |error e=>exact hx pins σ _ _ e s' I2 hq'
 |ok fl=>
  cases fl with
  |ret u=>
   obtain⟨v,H',I3,rv,ev,q3⟩:=I2.after hq'
   subst ev
   exact⟨rv,⟨V.ref (s.heap.objs.size+1),H',I3,rfl,q3⟩⟩
  |next=>exact False.elim hq'
  |brk=>exact False.elim hq'
  |cont=>exact False.elim hq'
theorem q5H(M:Mk X.K C f)(F:FnOk X.prog X.w X.K X.mg X.base CX k f fd ps sp)(hr:Room (k+1) X.A)(hg:Gl X x)(hm:X.mg x=some (.ref C))(hb:yN X.K fd ps ds)(hd:Vals dvs ds)(hx:q14 CX X E)
 (ha:PA X (e::es) t) (hdb:(x==("__debug__":Str))=false:=by decide) (he:starEach (e::es) X.env=(false,eval e X.env)::starEach es X.env:=by rfl) (hpl:(backTo pos (starEach es X.env)).any (·.1)=false:=by rfl):
 PE X (.Call (.Name x p) (e::es) [] pos) (qKC C sp dvs E t):=by
 intro pins s σ H Q I h
 refine rT (q2V I hg hm ?_ hdb)
 refine wO (h₀:=X.base) I.ok.mod.kin M.kp (thn (ha pos pins s σ H _ I h) λus s1 ⟨vs,H1,I1,r,q⟩=>⟨I1.kIn,?_⟩) he hpl
 exact qDQ M F hr hb hd hx I1 r q
end
noncomputable def PK(X:Cx)(kws:List Keyword)(t:TA):Prop:=
 ∀(pos:Pos) (pins:List (Addr×Obj)) (s:Shared) (σ:St) (H:Hp) (Q:List V→Hp→Prop),Inv X pins σ H s→t σ H Q→wpAny (model X.prog X.w) X.A (evalAll ((backToKw pos (keywordEach kws X.env)).map (·.2))) (AP X pins σ Q) X.xe s
section
variable{X:Cx}{CX:CXT}{k:Nat}{f C:Addr}{fd:FuncData}{ps ks:List Str}{sp:Sp}{E:XK}{x m:Str}{p pos apos kpos:Pos}{e o:Expr}{es:List Expr}{kws:List Keyword}{te ta:TE}{t tk:TA}{nm:Option Str}
theorem qI9:PK X [] tNil:=λ_ _ _ _ H Q I h=>wpAny_evalAll_nil ⟨[],H,I,.nil,h⟩
theorem qFW(ha:PE X e te)(hr:PK X kws t):PK X (⟨nm,e,kpos⟩::kws) (qBK te t):=by
 intro pos pins s σ H Q I h
 show wpAny _ _ (evalAll ((do let v←eval e X.env;standAt pos;pure v)::(backToKw pos (keywordEach kws X.env)).map (·.2))) _ _ s
 refine wpAny_evalAll_cons (kL (thn (ha pins s σ H _ I h) λu s1 ⟨x,H1,I1,r1,q1⟩=>kL (pK (mO ?_))))
 exact thn (hr pos pins s1 σ H1 _ I1 q1) λus s2 ⟨xs,H2,I2,r2,q2⟩=>⟨x::xs,H2,I2,.cons r1 r2,q2⟩
variable{g:List Value→List Value→List Value}{gV:List V→List V→List V}
end
structure FnScope(N P:List Str)(sc:Scope):Prop where
 kind:sc.kind=.function
 co:sc.isCoroutine=false
 gen:sc.isGenerator=false
 nd:N.Nodup
 pre:N.take P.length=P
 par:∀x∈P,sc.names.lookup x=some .local∨sc.names.lookup x=some .cell
 nofree:∀y∈sc.names,y.2≠ .free
theorem q7Q{kindOf:Str→Option NameKind}{x:Str}:∀{binds:List (Str×Value)} {m:Str→Option Value},(∀v,(x,v)∉binds)→bindL kindOf binds m x=m x
 | [],_,_=>rfl
 |(n,v)::r,m,h=>by
  unfold bindL
  rw[q7Q λw hw=>h w (hU _ hw)]
  split
  ·have:x≠n:=by rintro rfl;exact h v kU
   simp[this]
  ·rfl
theorem q7R{kindOf:Str→Option NameKind}{x:Str}:∀{binds:List (Str×Value)} {m:Str→Option Value},(∀v,(x,v)∉binds)→bindC kindOf binds m x=m x
 | [],_,_=>rfl
 |(n,v)::r,m,h=>by
  unfold bindC
  rw[q7R λw hw=>h w (hU _ hw)]
  split
  ·rfl
  ·have:x≠n:=by rintro rfl;exact h v kU
   simp[this]
theorem q7S{kindOf:Str→Option NameKind}{x:Str}{v:Value}:∀{P:List Str} {vs:List Value} {i:Nat} {m:Str→Option Value},P.Nodup→P[i]?=some x→vs[i]?=some v→kindOf x=some .local→
 bindL kindOf (P.zip vs) m x=some v
 | [],_,_,_,_,h,_,_=>by simp at h
 |_::_,[],_,_,_,_,h,_=>by simp at h
 |p::P,w::vs,0,m,nd,h1,h2,hk=>by
  simp at h1 h2;subst h1;subst h2
  show bindL kindOf ((p,w)::P.zip vs) m p=_
  unfold bindL
  rw[q7Q λv hv=>(m7.mp nd).1 (nO hv).1,kD hk]
  simp
 |p::P,w::vs,i+1,m,nd,h1,h2,hk=>by
  show bindL kindOf ((p,w)::P.zip vs) m x=_
  unfold bindL
  exact q7S (i:=i) (m7.mp nd).2 (by simpa using h1) (by simpa using h2) hk
theorem q7T{kindOf:Str→Option NameKind}{x:Str}{v:Value}:∀{P:List Str} {vs:List Value} {i:Nat} {m:Str→Option Value},P.Nodup→P[i]?=some x→vs[i]?=some v→kindOf x≠some .local→
 bindC kindOf (P.zip vs) m x=some v
 | [],_,_,_,_,h,_,_=>by simp at h
 |_::_,[],_,_,_,_,h,_=>by simp at h
 |p::P,w::vs,0,m,nd,h1,h2,hk=>by
  simp at h1 h2;subst h1;subst h2
  show bindC kindOf ((p,w)::P.zip vs) m p=_
  unfold bindC
  rw[q7R λv hv=>(m7.mp nd).1 (nO hv).1,kB hk]
  simp
 |p::P,w::vs,i+1,m,nd,h1,h2,hk=>by
  show bindC kindOf ((p,w)::P.zip vs) m x=_
  unfold bindC
  exact q7T (i:=i) (m7.mp nd).2 (by simpa using h1) (by simpa using h2) hk
noncomputable def q3A(N:List Str)(vs:List V):St:=vs.map some++List.replicate (N.length-vs.length) none
noncomputable def cxOf(CX:CXT)(P:Program)(w:World)(K:PySem.W.Frag)(mg:Str→Option Value)(base:Heap)(N:List Str)(qual:Str)(scope:Scope)(f:Addr)(cd:Value)(A:Around)(outer:List Env)(s:Shared)(H:Hp)(E:XK):Cx where
 prog:=P
 w:=w
 K:=K
 mg:=mg
 base:=base
 A:=A.deeper (envOfC qual scope s.heap.objs.size f cd)
 N:=N
 s₀:=s
 H₀:=H
 env:=envOfC qual scope s.heap.objs.size f cd
 outer:=outer
 stack:=envOfC qual scope s.heap.objs.size f cd::outer
 ex:=[]
 calm:=true
 fn:=λ_=>true
 pn:=[]
 xe:=λe s'=>wpAny (model P w) (A.deeper (envOfC qual scope s.heap.objs.size f cd)) (leaving (envOfC qual scope s.heap.objs.size f cd) e) (λ_ s''=>CX outer H s E e s'') (λe' s''=>CX outer H s E e' s'') s'
theorem q9K{sc:Scope}{n:Nat}{x:Str}(h:sc.names.lookup x=some .cell):∃c,(cellsFrom n sc.names []).lookup x=some c:=by
 have q:=nE sc.names n [] (.inl h)
 exact cM.mp q
theorem qCQ{CX:CXT}{P:Program}{w:World}{K:PySem.W.Frag}{mg:Str→Option Value}{base:Heap}{N ps:List Str}{qual:Str}{scope:Scope}{f:Addr}{cd:Value}{A:Around}{outer:List Env}{s s1:Shared}{H:Hp}{E:XK}{us:List Value}{vs:List V}
 (S:FnScope N ps scope) (hd:A.handled=none) (e0:Env0 P w K mg base A outer s H) (hl:vs.length=ps.length) (r:Vals vs us)
 (x:InCallC s s.heap.objs.size (bindL (envOfC qual scope s.heap.objs.size f cd).kindOf (ps.zip us) λ_=>none) (cellsFrom (s.heap.objs.size+1) scope.names []) (bindC (envOfC qual scope s.heap.objs.size f cd).kindOf (ps.zip us) λ_=>none) s1):
 Inv (cxOf CX P w K mg base N qual scope f cd A outer s H E) [] (q3A N vs) H s1:=by
 have hpl:ps.length≤N.length:=by have:=gX List.length S.pre;rw[gJ]at this;lia
 obtain⟨h1,tk,rfl,hk⟩:=x.done
 have noA:∀b:Addr,b∉(cxOf CX P w K mg base N qual scope f cd A outer s H E).ex:=λb z=>absurd (show b∈([]:List Addr)from z) (by simp)
 refine⟨⟨e0.mod,S.kind,rfl,rfl,kM _,λy z c h1 h2=>?_,λy hy=>?_,λy c _ h=>?_,λ_=>hd,lB e0.frames,.inr ⟨rfl,rfl⟩,λb z=>absurd z (noA b),e0.bs,e0.bsz,λb _ _=>noA b,λb z=>absurd z (noA b),e0.funs,e0.frf⟩,
  rfl,e0.bare,Un.kept hk,⟨_,x.toInCall.ns,λi y v h1 h2 h3=>?_⟩,λy c h=>⟨_,x.cell y c h⟩,e0.hok.fresh (kM _),λy c h=>?_,λp hp=>absurd (show p∈([]:List (Addr×Obj))from hp) (by simp),e0.hok.kept hk,?_⟩
 ·exact name_of_addr x.apart (gR h1) (gR h2)
 ·have hy:scope.names.lookup y=some .cell∨scope.names.lookup y=some .free:=hy
  rcases hy with hy|hy
  ·exact q9K hy
  ·exact absurd rfl (S.nofree _ (gR hy))
 ·exact wN (x.above y c (gR h))
 ·have hi:i<vs.length:=by
   unfold q3A at h2
   by_cases hi:i<vs.length
   ·exact hi
   ·rw[dS (by simpa using hi)]at h2
    rw[wJ]at h2
    split at h2<;>cases h2
  have ha:vs[i]?=some v:=by
   unfold q3A at h2
   rw[sE (by simpa using hi),mC]at h2
   cases e:vs[i]? with
   |none=>rw[e]at h2;cases h2
   |some a=>rw[e]at h2;cases h2;rfl
  obtain⟨u,hu,rv⟩:=r.get ha
  have hp:ps[i]?=some y:=by
   rw[←S.pre,List.getElem?_take_of_lt (by lia)];exact h1
  have ndP:ps.Nodup:=by rw[←S.pre];exact S.nd.sublist (List.take_sublist _ _)
  refine⟨u,rv,?_⟩
  rcases S.par y (gE hp)with k|k
  ·exact .inl ⟨k,q7S ndP hp hu k⟩
  ·obtain⟨c,e⟩:=q9K (n:=s.heap.objs.size+1) k
   refine .inr ⟨.inl k,c,e,?_⟩
   have q:=x.cell y c e
   rw[q7T ndP hp hu (by show scope.names.lookup y≠_;rw[k];decide)]at q
   exact q
 ·exact e0.hok.fresh (wN (x.above y c (gR h)))
 ·unfold q3A
  show _=N.length
  rw[kZ,hC,gM]
  lia
theorem qDR{CX:CXT}{P:Program}{w:World}{K:PySem.W.Frag}{mg:Str→Option Value}{base:Heap}{k:Nat}{f:Addr}{name qual:Str}{params:Arguments}{body:List Stmt}{scope:Scope}{dV kV doc pm cdv ct oc:Value}{an od:Option Addr}
 {osl:Array (Option Value)} {N ps:List Str} {sp:Sp} (lk:K.lookup f=some ⟨oc,od,.func (PySem.W.fnOf name qual params body scope dV kV doc pm an cdv ct),osl⟩) (hcd:PySem.W.codeIn K cdv qual=true) (S:FnScope N ps scope)
 (len:∀vs H Q E,sp vs H Q E→vs.length=ps.length)
 (hbody:∀(A:Around) (outer:List Env) (s:Shared) (H:Hp) (vs:List V) (Q:VK) (E:XK),Room k (A.deeper (envOfC qual scope s.heap.objs.size f cdv))→sp vs H Q E→
  ∃t,PSs (cxOf CX P w K mg base N qual scope f cdv A outer s H E) body t∧t { nx:=λ_ H'=>Q .non H',rt:=Q } (q3A N vs) H):
 FnOk P w K mg base CX (k+1) f (PySem.W.fnOf name qual params body scope dV kV doc pm an cdv ct) ps sp:=by
 refine⟨len,λA outer s H args us vs Q E hr e0 hb r hsp=>?_⟩
 have hl:=len _ _ _ _ hsp
 have KX:K.In s.heap:=e0.mod.kin.keeps λb o e=>(e0.bs b o e).1
 have lim:s.heap.NoLimit:=e0.mod.nolimit.keeps λb o e=>(e0.bs b o e).1
 have hkind:∀y∈ps.zip us,scope.names.lookup y.1=some .local∨(scope.names.lookup y.1=some .cell∧((cellsFrom (s.heap.objs.size+1) scope.names []).lookup y.1).isSome=true):=λ⟨n,v⟩ hy=>by
  rcases S.par n (nO hy).1 with q|q
  ·exact .inl q
  ·exact .inr ⟨q,nE _ _ _ (.inl q)⟩
 refine codeAny_call_function hr.depth (KX _ _ lk) rfl S.co S.gen rfl (PySem.W.codeRec_of KX hcd) (hb _ _ _ _ ?_)
 refine wpAny_newFunctionEnv_cells S.kind hkind λenv he s1 x=>?_
 subst he
 refine⟨lim.keeps x.toInCall.keep,codeAny_func ?_⟩
 obtain⟨t,ht,hq⟩:=hbody A outer s H vs Q E (hr.deeper _) hsp
 have I:Inv (cxOf CX P w K mg base N qual scope f cdv A outer s H E) [] (q3A N vs) H s1:=qCQ S hr.hd e0 hl r x
 refine dP (ht [] s1 (q3A N vs) H _ I hq) (λfl s' hs=>?_) λe s' hs=>hs
 have fin:∀{σ':St} {H':Hp} {v:V} {u:Value},Inv (cxOf CX P w K mg base N qual scope f cdv A outer s H E) [] σ' H' s'→RelV v u→Q v H'→CE outer P w H s Q u s':=
  fun {σ' H' v u} J rv q=>⟨v,H',J.os,J.bare,J.base,J.hok,rv,q⟩
 cases fl with
 |ret u=>
  obtain⟨v,σ',H',J,rv,q⟩:=hs
  exact fin J rv q
 |next=>
  obtain⟨σ',H',J,q⟩:=hs
  exact fin (v:=V.non) (u:=Value.none) J rfl q
 |brk=>
  obtain⟨_,_,_,q⟩:=hs
  exact False.elim q
 |cont=>
  obtain⟨_,_,_,q⟩:=hs
  exact False.elim q
section
variable{X:Cx}{x:Str}{p pos:Pos}{e:Expr}{es:List Expr}{t:TA}{id T:String}{r:List V→Hp→VK→Prop}
noncomputable def tCB(r:List V→Hp→VK→Prop)(t:TA):TE:=λσ H Q=>t σ H λvs H1=>r vs H1 Q
theorem j9(hc:zC X (.builtin id) r)(hg:Gl X x)(hm:X.mg x=none)(hv:bootBuiltins x=some (.builtin id))(ha:PA X (e::es) t)(hn:x≠"__name__":=by decide)(hdb:(x==("__debug__":Str))=false:=by decide)
 (he:starEach (e::es) X.env=(false,eval e X.env)::starEach es X.env:=by rfl) (hpl:(backTo pos (starEach es X.env)).any (·.1)=false:=by rfl):PE X (.Call (.Name x p) (e::es) [] pos) (tCB r t):=by
 intro pins s σ H Q I h
 refine rT (q3G I hg hm hv ?_ hn hdb)
 exact PyProof.Rows.callWith_builtin1 (thn (ha pos pins s σ H _ I h) λus s1 ⟨vs,H1,I1,r1,q1⟩=>hc pins s1 σ H1 vs us Q I1 r1 q1) he hpl
theorem zA(hc:zC X (.type T) r)(hg:Gl X x)(hm:X.mg x=none)(hv:bootBuiltins x=some (.type T))(ha:PA X (e::es) t)(hn:x≠"__name__":=by decide)(hdb:(x==("__debug__":Str))=false:=by decide)
 (he:starEach (e::es) X.env=(false,eval e X.env)::starEach es X.env:=by rfl) (hpl:(backTo pos (starEach es X.env)).any (·.1)=false:=by rfl):PE X (.Call (.Name x p) (e::es) [] pos) (tCB r t):=by
 intro pins s σ H Q I h
 refine rT (q3G I hg hm hv ?_ hn hdb)
 exact rK (thn (ha pos pins s σ H _ I h) λus s1 ⟨vs,H1,I1,r1,q1⟩=>hc pins s1 σ H1 vs us Q I1 r1 q1) he hpl
end
noncomputable def ixN(n:Nat)(i:Int):Option Nat:=if 0≤i then(if i<n then some i.toNat else none)else if-(n:Int)≤i then some (i+n).toNat else none
noncomputable def atI{α:Type}(xs:List α)(i:Int):Option α:=(ixN xs.length i).bind λj=>xs[j]?
theorem qBL{n:Nat}{i:Int}{j:Nat}(h:ixN n i=some j):seqIndex? i n=some j∧j<n∧-(n:Int)≤i∧i<n:=by
 unfold ixN at h
 by_cases h0:0≤i
 ·rw[kD h0]at h
  by_cases h1:i<n
  ·rw[kD h1]at h
   have e:i.toNat=j:=kN h
   exact⟨by rw[lC h0 h1,e],by lia,by lia,h1⟩
  ·rw[kB h1]at h;cases h
 ·rw[kB h0]at h
  by_cases h1:-(n:Int)≤i
  ·rw[kD h1]at h
   have e:(i+n).toNat=j:=kN h
   exact⟨by rw[nG (by lia) h1,e],by lia,h1,by lia⟩
  ·rw[kB h1]at h;cases h
theorem q8D{α:Type}{xs:List α}{i:Int}{v:α}(h:atI xs i=some v):∃j,seqIndex? i xs.length=some j∧xs[j]?=some v∧j<xs.length∧-(xs.length:Int)≤i∧i<xs.length:=by
 unfold atI at h
 cases e:ixN xs.length i with
 |none=>rw[e]at h;cases h
 |some j=>
  rw[e]at h
  obtain⟨h1,h2,h3,h4⟩:=qBL e
  exact⟨j,h1,h,h2,h3,h4⟩
theorem u7{α:Type}{xs:List α}{j:Nat}{v:α}(h:xs[j]?=some v):atI xs (j:Int)=some v:=by
 have hj:j<xs.length:=(kC.mp h).1
 have e:ixN xs.length (j:Int)=some j:=by
  unfold ixN
  rw[kD (by lia),kD (by lia)];simp
 unfold atI;rw[e];exact h
noncomputable def qFX(b:Expr):Prop:=∀o i,subscripted b false o i=operate [o,i] (getItem o i)
noncomputable def IxR(X:Cx)(r:R2):Prop:=
 ∀(value slice:Expr) (pins:List (Addr×Obj)) (s:Shared) (σ:St) (H:Hp) (x y:V) (v u:Value) (Q:VK),Inv X pins σ H s→RelV x v→RelV y u→r x y H Q→
  subscripted slice false v u=operate [v,u] (getItem v u)→wpAny (model X.prog X.w) X.A (subscriptTail value slice v u) (EP X pins σ Q) X.xe s
noncomputable def MtR(X:Cx)(id:String)(r:V→List V→Hp→VK→Prop):Prop:=
 ∀(pins:List (Addr×Obj)) (s:Shared) (σ:St) (H:Hp) (x:V) (xs:List V) (v:Value) (us:List Value) (Q:VK),Inv X pins σ H s→RelV x v→Vals xs us→r x xs H Q→
  wpAny (model X.prog X.w) X.A (call (.builtin id) (v::us)) (EP X pins σ Q) X.xe s
section
variable{X:Cx}{a b:Expr}{ta tb:TE}{pos:Pos}
theorem qW{r:R2}(hr:IxR X r)(ha:PE X a ta)(hb:PE X b tb)(hs:qFX b):PE X (.Subscript a b pos) (tOp r ta tb):=by
 intro pins s σ H Q I h
 exact Subscript_ (binT ha hb I h λv u s2 x y H2 I2 rx ry q=>hr a b pins s2 σ H2 x y v u Q I2 rx ry q (hs _ _))
noncomputable def rIxL(K:PySem.W.Frag):R2:=λx y H Q=>∃p xs i v,x=.ref p∧y=.int i∧SqL K H p xs∧atI xs i=some v∧Q v H
noncomputable def rIxT(K:PySem.W.Frag):R2:=λx y H Q=>∃p xs i v,x=.ref p∧y=.int i∧SqT K H p xs∧atI xs i=some v∧Q v H
theorem jD:IxR X (rIxL X.K):=by
 intro value slice pins s σ H x y v u Q I rx ry h hs
 obtain⟨p,xs,i,z,rfl,rfl,hq,he,q⟩:=h
 cases rx
 obtain⟨t,rfl⟩:=ry
 obtain⟨its,r,pl,hz⟩:=I.list hq
 obtain⟨j,h1,h2,h3,h4,h5⟩:=q8D he
 obtain⟨w,ew,rw'⟩:=r.get h2
 have hl:=r.length
 have hn:=q5U
 have fin:EP X pins σ Q w s:=⟨z,H,I,rw',q⟩
 by_cases h0:0≤i
 ·have hj:i.toNat=j:=by
   rw[lC h0 h5]at h1
   exact kN h1
  exact item_listR pl.isList h0 (by lia) (by rw[hj];simpa using ew) fin hs
 ·have hj:(i+(its.toArray.size:Int)).toNat=j:=by
   rw[nG (by lia) h4]at h1
   rw[mD,←hl]
   exact kN h1
  exact nH (x:=w) pl.isList.typeIs slot_list_getitem.lookup
   (nI (Q:=λr s'=>r=w∧EP X pins σ Q r s') pl.isList (by lia) (by rw[mD]<;>lia) (by lia) (by rw[hj];simpa using ew) ⟨rfl,fin⟩) hs
theorem jI:IxR X (rIxT X.K):=by
 intro value slice pins s σ H x y v u Q I rx ry h hs
 obtain⟨p,xs,i,z,rfl,rfl,hq,he,q⟩:=h
 cases rx
 obtain⟨t,rfl⟩:=ry
 obtain⟨its,r,pl,hz⟩:=I.tuple hq
 obtain⟨j,h1,h2,h3,h4,h5⟩:=q8D he
 obtain⟨w,ew,rw'⟩:=r.get h2
 have hl:=r.length
 have hn:=q5U
 have fin:EP X pins σ Q w s:=⟨z,H,I,rw',q⟩
 exact nH (x:=w) pl.typeIs slot_tuple_getitem.lookup
  (getItem_tuple (j:=j) (Q:=λr s'=>r=w∧EP X pins σ Q r s') pl (by lia) (by lia) (by rw[mD,←hl];exact h1) (by simpa using ew) ⟨rfl,fin⟩) hs
theorem qAS(its:List Value)(n j:Nat)(u:Value):Obj.mapSeq (·.setIfInBounds j u) { cls:=.type "list",data:=.seq its.toArray n } = { cls:=.type "list",data:=.seq (its.set j u).toArray n }:=by
 simp[Obj.mapSeq]
theorem Inv.lst{pins:List (Addr×Obj)}{σ:St}{H:Hp}{s:Shared}{p:Addr}{xs:List V}(I:Inv X pins σ H s)(h:H p=some (.lst xs)):
 ∃(its:List Value) (n:Nat),Vals xs its∧s.heap.get? p=some { cls:=.type "list",data:=.seq its.toArray n }∧xs.length≤sizeLine:=by
 obtain⟨z,its,n,r,e⟩:=I.hok p _ h
 exact⟨its,n,r,e,z⟩
theorem Inv.lstUpd{pins:List (Addr×Obj)}{σ:St}{H:Hp}{s:Shared}{p:Addr}{xs ys:List V}{its its':List Value}{n n':Nat}{f:Obj→Obj}(I:Inv X pins σ H s)(h:H p=some (.lst xs))
 (ho:s.heap.get? p=some { cls:=.type "list",data:=.seq its.toArray n }) (hf:f { cls:=.type "list",data:=.seq its.toArray n } = { cls:=.type "list",data:=.seq its'.toArray n' }) (r:Vals ys its') (hz:ys.length≤sizeLine) (t:Nat):
 Inv X pins σ (upd H p (.lst ys)) { s with heap:=s.heap.update p f,toks:=t }:=by
 have e:(s.heap.update p f).get? p=some { cls:=.type "list",data:=.seq its'.toArray n' }:=by
  rw[wU f ho (by rw[hf]<;>rfl),hf]
 refine I.write (x:=p) (e:=p) (by rw[h];trivial) (.inl rfl) (λb u hb q=>(mZ _ _ (wH hb)).trans q) ⟨_,e⟩ ?_
 exact⟨hz,its',n',r,e⟩
noncomputable def qKD:V→V→V→Hp→(Hp→Prop)→Prop:=λo i v H Q=>∃p xs k j,o=.ref p∧i=.int k∧H p=some (.lst xs)∧ixN xs.length k=some j∧Q (upd H p (.lst (xs.set j v)))
theorem yO:PSet X qKD:=by
 intro pins s σ H o i v ov iv u Q I ro ri rv h
 obtain⟨p,xs,k,j,rfl,rfl,hp,hj,q⟩:=h
 cases ro
 obtain⟨t,rfl⟩:=ri
 obtain⟨its,n,r,ho,hz⟩:=I.lst hp
 obtain⟨h1,h2,h3,h4⟩:=qBL hj
 have hl:=r.length
 have hn:=q5U
 have I':Inv X pins σ (upd H p (.lst (xs.set j v))) { s with heap:=s.heap.update p (Obj.mapSeq (·.setIfInBounds j u)) }:=
  I.lstUpd hp ho (qAS its n j u) (r.set rv j) (by rw[gD];exact hz) s.toks
 by_cases h0:0≤k
 ·have hk:k.toNat=j:=by
   rw[lC h0 h4]at h1
   exact kN h1
  exact PySem.W.ki_setAt ho h0 (by lia) (by rw[mD,←hl];exact h4) (by rw[hk];exact⟨_,I',q⟩)
 ·have hk:(k+(its.toArray.size:Int)).toNat=j:=by
   rw[nG (by lia) h3]at h1
   rw[mD,←hl]
   exact kN h1
  exact PySem.W.ki_setBack ho (by lia) (by rw[mD,←hl];exact h3) (by lia) (by rw[hk];exact⟨_,I',q⟩)
noncomputable def zU:V→Bool
 | .non=>true
 | .bl _=>true
 | .int _=>true
 | .str _=>true
 |_=>false
noncomputable def eqV:V→V→Bool
 | .non,.non=>true
 | .bl a,.bl b=>a==b
 | .bl a,.int b=>(if a then 1 else 0)==b
 | .int a,.bl b=>a==(if b then 1 else 0)
 | .int a,.int b=>a==b
 | .str a,.str b=>a==b
 |_,_=>false
theorem qDS{A:Around}{s:Shared}{y x:V}{u v:Value}(ry:RelV y u)(rx:RelV x v)(fy:zU y=true)(fx:zU x=true):SeqAt.EqAt A s u v (eqV y x):=by
 cases y with
 |non=>
  cases ry
  cases x with
  |non=>cases rx;exact nP _
  |bl b=>cases rx;exact SeqAt.EqAt.none_bool b
  |int b=>obtain⟨t,rfl⟩:=rx;exact SeqAt.EqAt.none_int b t
  |str b=>obtain⟨t,rfl⟩:=rx;exact SeqAt.EqAt.none_str b t
  |_=>exact absurd (show false=true from fx) kQ
 |bl a=>
  cases ry
  cases x with
  |non=>cases rx;exact SeqAt.EqAt.bool_none a
  |bl b=>cases rx;exact SeqAt.EqAt.bool_bool a b
  |int b=>obtain⟨t,rfl⟩:=rx;exact SeqAt.EqAt.bool_int a b t
  |str b=>obtain⟨t,rfl⟩:=rx;exact SeqAt.EqAt.bool_str a b t
  |_=>exact absurd (show false=true from fx) kQ
 |int a=>
  obtain⟨t',rfl⟩:=ry
  cases x with
  |non=>cases rx;exact SeqAt.EqAt.int_none a t'
  |bl b=>cases rx;exact SeqAt.EqAt.int_bool a t' b
  |int b=>obtain⟨t,rfl⟩:=rx;exact lY a t' b t
  |str b=>obtain⟨t,rfl⟩:=rx;exact lT a t' b t
  |_=>exact absurd (show false=true from fx) kQ
 |str a=>
  obtain⟨t',rfl⟩:=ry
  cases x with
  |non=>cases rx;exact SeqAt.EqAt.str_none a t'
  |bl b=>cases rx;exact SeqAt.EqAt.str_bool a t' b
  |int b=>obtain⟨t,rfl⟩:=rx;exact lU a t' b t
  |str b=>obtain⟨t,rfl⟩:=rx;exact SeqAt.EqAt.str_str a t' b t
  |_=>exact absurd (show false=true from fx) kQ
 |_=>exact absurd (show false=true from fy) kQ
noncomputable def eqU(x:V)(u:Value):Bool:=match u with
 | .none=>eqV .non x
 | .bool b=>eqV (.bl b) x
 | .int i _=>eqV (.int i) x
 | .str z _=>eqV (.str z) x
 |_=>false
theorem qDT{x y:V}{u:Value}(r:RelV y u)(f:zU y=true):eqU x u=eqV y x:=by
 cases y with
 |non=>cases r;rfl
 |bl b=>cases r;rfl
 |int i=>obtain⟨t,rfl⟩:=r;rfl
 |str z=>obtain⟨t,rfl⟩:=r;rfl
 |_=>exact absurd (show false=true from f) kQ
theorem q40{x:V}:∀{xs:List V} {us:List Value},Vals xs us→xs.all zU=true→us.any (eqU x)=xs.any λy=>eqV y x
 |_,_,.nil,_=>rfl
 |y::xs,u::us,.cons r t,f=>by
  rw[bC,mU]at f
  rw[wG,wG,qDT r f.1,q40 t f.2]
theorem q1W{A:Around}{s:Shared}{x:V}{v:Value}(rx:RelV x v)(fx:zU x=true):∀{xs:List V} {us:List Value},Vals xs us→xs.all zU=true→∀u∈us,SeqAt.EqAt A s u v (eqU x u)
 |_,_,.nil,_=>λu hu=>by cases hu
 |y::xs,u::us,.cons r t,f=>λu' hu=>by
  rw[bC,mU]at f
  rcases kI.mp hu with rfl|hu
  ·rw[qDT r f.1];exact qDS r rx f.1 fx
  ·exact q1W rx fx t f.2 u' hu
noncomputable def inV(x:V)(xs:List V):Bool:=xs.any λy=>eqV y x
noncomputable def rIn(K:PySem.W.Frag)(neg:Bool):R2:=λx y H Q=>∃p xs,y=.ref p∧(SqL K H p xs∨SqT K H p xs)∧zU x=true∧xs.all zU=true∧Q (.bl (if neg then !inV x xs else inV x xs)) H
theorem qCR:OpR X (compareOp .In) (rIn X.K false):=by
 intro pins s σ H x y v u Q I rx ry h
 obtain⟨p,xs,rfl,hq,fx,fs,q⟩:=h
 cases ry
 rcases hq with hq|hq
 ·obtain⟨its,r,pl,hz⟩:=I.list hq
  refine SeqAt.in_listAt (eqU x) pl.isList (λw hw=>q1W rx fx r fs w (by simpa using hw)) ⟨.bl _,H,I,rfl,?_⟩
  rw[show its.toArray.any (eqU x)=its.any (eqU x) by simp,q40 r fs]
  exact q
 ·obtain⟨its,r,pl,hz⟩:=I.tuple hq
  refine SeqAt.in_tupleAt (eqU x) pl (λw hw=>q1W rx fx r fs w (by simpa using hw)) ⟨.bl _,H,I,rfl,?_⟩
  rw[show its.toArray.any (eqU x)=its.any (eqU x) by simp,q40 r fs]
  exact q
theorem q15:OpR X (compareOp .NotIn) (rIn X.K true):=by
 intro pins s σ H x y v u Q I rx ry h
 obtain⟨p,xs,rfl,hq,fx,fs,q⟩:=h
 cases ry
 rcases hq with hq|hq
 ·obtain⟨its,r,pl,hz⟩:=I.list hq
  refine SeqAt.notIn_listAt (eqU x) pl.isList (λw hw=>q1W rx fx r fs w (by simpa using hw)) ⟨.bl _,H,I,rfl,?_⟩
  rw[show its.toArray.any (eqU x)=its.any (eqU x) by simp,q40 r fs]
  exact q
 ·obtain⟨its,r,pl,hz⟩:=I.tuple hq
  refine SeqAt.notIn_tupleAt (eqU x) pl (λw hw=>q1W rx fx r fs w (by simpa using hw)) ⟨.bl _,H,I,rfl,?_⟩
  rw[show its.toArray.any (eqU x)=its.any (eqU x) by simp,q40 r fs]
  exact q
theorem jK:zC X (.builtin "len") (λxs H Q=>∃p ys,xs=[.ref p]∧(SqL X.K H p ys∨SqT X.K H p ys)∧Q (.int ys.length) H):=by
 intro pins s σ H xs us Q I r h
 obtain⟨p,ys,rfl,hq,q⟩:=h
 obtain⟨u,rfl,rx⟩:=q1Q r
 cases rx
 have hn:=q5U
 rcases hq with hq|hq
 ·obtain⟨its,r',pl,hz⟩:=I.list hq
  have hlen:=r'.length
  exact Calls.call_len_list pl.isList (by simp only[mD]<;>lia) ⟨.int ys.length,H,I.tok _,⟨s.toks+1,by rw[mD,hlen]⟩,q⟩
 ·obtain⟨its,r',pl,hz⟩:=I.tuple hq
  have hlen:=r'.length
  exact len_tuple pl (by simp only[mD]<;>lia) ⟨.int ys.length,H,I.tok _,⟨s.toks+1,by rw[mD,hlen]⟩,q⟩
theorem q8E:zC X (.type "list") (λxs H Q=>∃p ys,xs=[.ref p]∧(SqL X.K H p ys∨SqT X.K H p ys)∧∀l,H l=none→Q (.ref l) (upd H l (.lst ys))):=by
 intro pins s σ H xs us Q I r h
 obtain⟨p,ys,rfl,hq,q⟩:=h
 obtain⟨u,rfl,rx⟩:=q1Q r
 cases rx
 have fin:∀(its:List Value),Vals ys its→ys.length≤sizeLine→∀(h':Heap) (c':Nat),(∀b o',s.heap.get? b=some o'→h'.get? b=some o')→
  h'.get? s.heap.objs.size=some { cls:=.type "list",dict:=none,data:=.seq its.toArray c',slots:=#[] }→EP X pins σ Q (.ref s.heap.objs.size) { s with heap:=h' }:=λits r' hz h' c' kp e=>
  ⟨.ref s.heap.objs.size,_,I.laid (t':=s.toks) kp (kM _) (show jF X.prog X.w _ h' _ (.lst ys)from⟨hz,its,c',r',e⟩),rfl,q _ (I.hok.fresh (kM _))⟩
 rcases hq with hq|hq
 ·obtain⟨its,r',pl,hz⟩:=I.list hq
  have hlen:=r'.length
  obtain⟨o,ho,hc,n,hd⟩:=pl.isList
  exact call_list_seq p (.inl rfl) ho hc hd (λh' c' kp e=>fin its r' hz h' c' kp e) (by simp only[mD]<;>lia)
 ·obtain⟨its,r',pl,hz⟩:=I.tuple hq
  have hlen:=r'.length
  obtain⟨o,ho,hc,n,hd⟩:=pl
  exact call_list_seq p (.inr rfl) ho hc hd (λh' c' kp e=>fin its r' hz h' c' kp e) (by simp only[mD]<;>lia)
noncomputable def tyV(K:PySem.W.Frag)(T:String)(x:V)(H:Hp):Prop:=match x with
 | .str _=>T="str"
 | .int _=>T="int"
 | .ref p=>(T="list"∧∃xs,SqL K H p xs)∨(T="tuple"∧∃o,K.lookup p=some o∧o.cls=.type "tuple"∧o.dict=none)∨
   (T="dict"∧((∃kvs,H p=some (.dK kvs))∨∃kvs,H p=some (.dT kvs)))∨(T="set"∧∃S n,H p=some (.set S n))
 |_=>False
theorem qDU{pins:List (Addr×Obj)}{σ:St}{H:Hp}{s:Shared}{T:String}{x:V}{v:Value}(I:Inv X pins σ H s)(r:RelV x v)(ty:tyV X.K T x H):
 s.TypeIs v T∧∀a,v=.ref a→∃ob,s.heap.get? a=some ob∧ob.dict=none:=by
 cases x with
 |str z=>
  obtain⟨t,rfl⟩:=r
  cases(show T="str" from ty)
  exact⟨typeIs_str s z t,λ_ e=>nomatch e⟩
 |int i=>
  obtain⟨t,rfl⟩:=r
  cases(show T="int" from ty)
  exact⟨aK s i t,λ_ e=>nomatch e⟩
 |ref p=>
  cases r
  rcases ty with⟨rfl,xs,hq⟩|⟨rfl,o,hk,hc,hd⟩|⟨rfl,hk⟩|⟨rfl,S,n,hk⟩
  ·obtain⟨its,_,pl,_⟩:=I.list hq
   refine⟨pl.isList.typeIs,λa e=>?_⟩
   cases e
   obtain⟨o,n,e,c,hd,_⟩:=pl
   exact⟨o,e,hd⟩
  ·refine⟨⟨o,I.kIn p o hk,hc⟩,λa e=>?_⟩
   cases e
   exact⟨o,I.kIn _ o hk,hd⟩
  ·have z:∃o,s.heap.get? p=some o∧o.ExactDict:=by
    rcases hk with⟨kvs,hk⟩|⟨kvs,hk⟩
    ·obtain⟨_,_,_,_,o,_,_,e,ex,_⟩:=I.hok p _ hk
     exact⟨o,e,ex⟩
    ·obtain⟨_,_,_,_,o,_,_,e,ex,_⟩:=I.hok p _ hk
     exact⟨o,e,ex⟩
   obtain⟨o,e,ex⟩:=z
   refine⟨⟨o,e,ex.1⟩,λa e2=>?_⟩
   cases e2
   exact⟨o,e,ex.2.1⟩
  ·obtain⟨o,_,_,_,e,ex,_⟩:=I.hok p _ hk
   refine⟨⟨o,e,ex.1⟩,λa e2=>?_⟩
   cases e2
   exact⟨o,e,ex.2.1⟩
 |_=>exact False.elim ty
noncomputable def tBM0(K:PySem.W.Frag)(T:String)(r:V→List V→Hp→VK→Prop)(to:TE):TE:=λσ H Q=>to σ H λx H1=>tyV K T x H1∧r x [] H1 Q
noncomputable def tBM(K:PySem.W.Frag)(T:String)(r:V→List V→Hp→VK→Prop)(to:TE)(t:TA):TE:=λσ H Q=>to σ H λx H1=>tyV K T x H1∧t σ H1 λxs H2=>r x xs H2 Q
variable{o e:Expr}{es:List Expr}{to:TE}{t:TA}{name:Str}{apos cpos:Pos}{T id:String}{r:V→List V→Hp→VK→Prop}
theorem qDV(pa:PlainAttrs T)(slot:Slot T name id)(hty:typeOf (.builtin id)=pure (.type "method_descriptor"))(hm:MtR X id r)(ho:PE X o to)
 (hbase:attributeBase o name X.env (eval o X.env)=eval o X.env:=by rfl) (hline:(apos.endLine==cpos.line)=true:=by rfl):PE X (.Call (.Attribute o name apos) [] [] cpos) (tBM0 X.K T r to):=by
 intro pins s σ H Q I h
 refine wpAny_Call_method0_late hbase hline (thn (ho pins s σ H _ I h) λv s1 hZ=>?_)
 obtain⟨x,H1,I1,r1,ty,q1⟩:=hZ
 obtain⟨h1,h2⟩:=qDU I1 r1 ty
 exact⟨T,id,pa,slot,hty,h1,h2,rL rfl (PySem.evalArgs_none (hm pins s1 σ H1 x [] v [] Q I1 r1 .nil q1))⟩
theorem q3B(pa:PlainAttrs T)(slot:Slot T name id)(hty:typeOf (.builtin id)=pure (.type "method_descriptor"))(hm:MtR X id r)(ho:PE X o to)(ha:PA X (e::es) t)
 (hbase:attributeBase o name X.env (eval o X.env)=eval o X.env:=by rfl)
 (hfew:((backTo cpos (starEach (e::es) X.env)).all (λx=>!x.1)&&(backToKw cpos (keywordEach [] X.env)).all (λx=>x.1.isSome)
  &&decide ((e::es).length+([]:List Keyword).length+(if([]:List Keyword).isEmpty then 0 else 1)<30))=true:=by rfl)
 (hline:(apos.endLine==cpos.line)=true:=by rfl) (hs:starEach (e::es) X.env=(false,eval e X.env)::starEach es X.env:=by rfl) (hplain:(backTo cpos (starEach es X.env)).any (·.1)=false:=by rfl):
 PE X (.Call (.Attribute o name apos) (e::es) [] cpos) (tBM X.K T r to t):=by
 intro pins s σ H Q I h
 refine wpAny_Call_method_late hbase hfew hline rfl (thn (ho pins s σ H _ I h) λv s1 hZ=>?_)
 obtain⟨x,H1,I1,r1,ty,q1⟩:=hZ
 obtain⟨h1,h2⟩:=qDU I1 r1 ty
 refine⟨T,id,pa,slot,hty,h1,h2,?_⟩
 have hA:=ha cpos pins s1 σ H1 _ I1 q1
 rw[hs]at hA ⊢
 refine rL (by show(false||(backTo cpos (starEach es X.env)).any (·.1))=false;rw[hplain]<;>rfl) (cD ?_)
 exact thn hA λus s2 ⟨vs,H2,I2,r2,q2⟩=>hm pins s2 σ H2 x vs v us Q I2 r1 r2 q2
end
noncomputable def MtM(X:Cx)(id:String)(r:V→List V→Hp→VK→Prop):Prop:=
 ∀(pins:List (Addr×Obj)) (s:Shared) (σ:St) (H:Hp) (x:V) (xs:List V) (v:Value) (us:List Value) (Q:VK),Inv X pins σ H s→RelV x v→Vals xs us→r x xs H Q→
  wpAny (model X.prog X.w) X.A (call (.builtin id) (v::us)) (EP X pins σ Q) X.xe s
theorem Vals.one{x:V}{us:List Value}(h:Vals [x] us):∃u,us=[u]∧RelV x u:=by
 cases h with
 |cons r t=>
  cases t
  exact⟨_,rfl,r⟩
theorem Vals.zero:∀{us:List Value},Vals [] us→us=[]
 |_,.nil=>rfl
theorem Vals.rep{xs:List V}{us:List Value}(h:Vals xs us):∀k:Nat,Vals (List.replicate k xs).flatten (List.replicate k us).flatten
 |0=>.nil
 |k+1=>by
  rw[dW,dW,wX,wX]
  exact Vals.append h (Vals.rep h k)
theorem q7U(its:List Value):∀(k:Nat) (acc:List Value),
 List.foldl (λx1 x2=>x1++x2) acc.toArray (List.replicate k its.toArray)=(acc++(List.replicate k its).flatten).toArray
 |0,acc=>by simp
 |k+1,acc=>by
  have e:acc.toArray++its.toArray=(acc++its).toArray:=by simp
  have e2:(acc++its)++(List.replicate k its).flatten=acc++(List.replicate (k+1) its).flatten:=by
   rw[dW,wX,wA]
  rw[←e2,←q7U its k (acc++its),←e,dW,nQ]
section
variable{X:Cx}{pins:List (Addr×Obj)}{σ:St}{H:Hp}{s:Shared}{l b:Addr}{xs ys zs:List V}
theorem Inv.lset{its its':List Value}{n:Nat}{f:Array Value→Array Value}{t':Nat}(I:Inv X pins σ H s)(hH:H l=some (.lst xs))
 (e:s.heap.get? l=some { cls:=.type "list",data:=.seq its.toArray n }) (hf:f its.toArray=its'.toArray) (hv:Vals ys its') (hz:ys.length≤sizeLine):
 Inv X pins σ (upd H l (.lst ys)) { s with heap:=s.heap.update l (Obj.mapSeq f),toks:=t' }:=by
 have q:=PySem.IsL.update e f
 rw[hf]at q
 refine I.write (x:=l) (e:=l) (by rw[hH];exact trivial) (.inl rfl) (λb' u hb hu=>(mZ s.heap (Obj.mapSeq f) (wH hb)).trans hu) ⟨_,q⟩ ?_
 exact⟨hz,its',_,hv,q⟩
theorem Inv.lnew{its:List Value}{t':Nat}(I:Inv X pins σ H s)(hv:Vals ys its)(hz:ys.length≤sizeLine):
 Inv X pins σ (upd H s.heap.objs.size (.lst ys)) { s with heap:=s.heap.push { cls:=.type "list",data:=.seq its.toArray },toks:=t' }:=
 I.laid (λ_ _ q=>kF _ q) (kM _) ⟨hz,its,0,hv,mP _ rfl⟩
theorem Inv.fresh(I:Inv X pins σ H s):H s.heap.objs.size=none:=I.hok.fresh (kM _)
theorem Inv.lstM(I:Inv X pins σ H s)(hH:H l=some (.lst xs)):xs.length≤sizeLine∧∃(its:List Value) (n:Nat),Vals xs its∧xs.length=its.length∧s.heap.get? l=some { cls:=.type "list",data:=.seq its.toArray n }:=by
 obtain⟨z,its,n,r,e⟩:=I.hok l _ hH
 exact⟨z,its,n,r,r.length,e⟩
theorem q9L{n:Nat}(h:n≤sizeLine):Builtin.List.listTooLong n=false:=by
 unfold Builtin.List.listTooLong
 exact hI (by lia)
end
section
variable{X:Cx}
noncomputable def qFY:V→List V→Hp→VK→Prop:=λx vs H Q=>∃l xs y,x=.ref l∧vs=[y]∧H l=some (.lst xs)∧xs.length<sizeLine∧Q .non (upd H l (.lst (xs++[y])))
theorem uR:MtM X "list.append" qFY:=by
 intro pins s σ H x vs v us Q I rx rv h
 obtain⟨l,xs,y,rfl,rfl,hH,hz,q⟩:=h
 cases rx
 obtain⟨u,rfl,ru⟩:=rv.one
 obtain⟨z,its,n,r,hl,e⟩:=I.lstM hH
 refine nJ F.slot_list_append ⟨_,e,rfl⟩ F.entry_list_append (F.args_list_append_2 _ _) (PySem.list_append l its.toArray n u (by rw[mD];lia)) ⟨e,?_⟩
 refine⟨.non,_,I.lset (its':=its++[u]) hH e (by simp) (r.append (.cons ru .nil)) ?_,rfl,q⟩
 rw[kZ,gB]
 lia
noncomputable def qFZ:V→List V→Hp→VK→Prop:=λx vs H Q=>∃l b xs zs,x=.ref l∧vs=[.ref b]∧H l=some (.lst xs)∧H b=some (.lst zs)∧xs.length+zs.length≤sizeLine∧Q .non (upd H l (.lst (xs++zs)))
theorem q4L:MtM X "list.extend" qFZ:=by
 intro pins s σ H x vs v us Q I rx rv h
 obtain⟨l,b,xs,zs,rfl,rfl,hH,hB,hz,q⟩:=h
 cases rx
 obtain⟨u,rfl,ru⟩:=rv.one
 cases ru
 obtain⟨z,its,n,r,hl,e⟩:=I.lstM hH
 obtain⟨z2,its2,n2,r2,hl2,e2⟩:=I.lstM hB
 have hsz:its.toArray.size+its2.toArray.size≤sizeLine:=by rw[mD,mD];lia
 have hlong:¬(!its.toArray.isEmpty&&Builtin.List.listTooLong (its.toArray.size+its2.toArray.size))=true:=by
  rw[q9L hsz,aM]
  exact kQ
 refine nJ F.slot_list_extend ⟨_,e,rfl⟩ F.entry_list_extend (F.args_list_extend_2 _ _)
  (AutoSeq1.list_extend_list_list_0 l its.toArray n b its2.toArray n2 hlong (by rw[mD];lia) (by lia)) ⟨e,e2,?_⟩
 refine⟨.non,_,I.lset (its':=its++its2) hH e (by simp) (r.append r2) ?_,rfl,q⟩
 rw[kZ]
 lia
noncomputable def qIA:V→List V→Hp→VK→Prop:=λx vs H Q=>∃l xs,x=.ref l∧vs=[]∧H l=some (.lst xs)∧Q .non (upd H l (.lst []))
theorem qDW:MtM X "list.clear" qIA:=by
 intro pins s σ H x vs v us Q I rx rv h
 obtain⟨l,xs,rfl,rfl,hH,q⟩:=h
 cases rx
 have hus:=rv.zero
 subst hus
 obtain⟨z,its,n,r,hl,e⟩:=I.lstM hH
 refine nJ F.slot_list_clear ⟨_,e,rfl⟩ F.entry_list_clear (F.args_list_clear_1 _) (AutoSeq1.list_clear_list_0 l its.toArray n (by rw[mD];lia)) ⟨e,?_⟩
 exact⟨.non,_,I.lset (its':=[]) (ys:=[]) hH e rfl .nil (mV _),rfl,q⟩
noncomputable def rRep:R2:=λx y H Q=>∃l k xs,x=.ref l∧y=.int k∧H l=some (.lst xs)∧-(2 ^ 63)≤k∧k<2 ^ 63∧xs.length*k.toNat≤sizeLine∧
 ∀p,H p=none→Q (.ref p) (upd H p (.lst (List.replicate k.toNat xs).flatten))
theorem qG0{α:Type}(xs:List α)(k:Nat):(List.replicate k xs).flatten.length=k*xs.length:=by
 induction k with
 |zero=>simp
 |succ k ih=>rw[dW,wX,kZ,ih,rA,Nat.add_comm]
theorem qIB:OpR X (binaryOp .Mult) rRep:=by
 intro pins s σ H x y v u Q I rx ry h
 obtain⟨l,k,xs,rfl,rfl,hH,h1,h2,hz,q⟩:=h
 cases rx
 obtain⟨t,rfl⟩:=ry
 obtain⟨z,its,n,r,hl,e⟩:=I.lstM hH
 have hlen:its.toArray.size*k.toNat≤sizeLine:=by rw[mD,←hl];exact hz
 have hcap:¬its.toArray.size*k.toNat>(2 ^ 63-1) / 8:=by
  have:(sizeLine:Nat)≤(2 ^ 63-1) / 8:=by decide
  lia
 have hfit:¬(!Builtin.List.listFitsIndex k)=true:=by
  rw[fitsIndex_both h1 h2]
  exact kQ
 have hlong:¬Builtin.List.listTooLong (its.toArray.size*k.toNat)=true:=by
  rw[q9L hlen]
  exact kQ
 have hnew:List.foldl (λx1 x2=>x1++x2) #[] (List.replicate (if its.toArray.isEmpty=true then 0 else k.toNat) its.toArray)=(List.replicate k.toNat its).flatten.toArray:=by
  have f0:∀m:Nat,List.foldl (λx1 x2=>x1++x2) #[] (List.replicate m its.toArray)=(List.replicate m its).flatten.toArray:=λm=>by
   have:=q7U its m []
   rw[dM]at this
   exact this
  rw[f0]
  cases its with
  |nil=>simp
  |cons a r'=>rw[kB (by simp)]
 refine wpAny_binaryOp_repeat_ref (T:="list") (U:="int") (by decide) ⟨_,e,rfl⟩ (λs'=>aK s' k t) noFill_list_mul F.fills_int_mul x6 repeat_list F.slot_int_index.lookup
  (nJ x6 (aK s k t) F.entry_int_rmul (F.args_int_rmul_2 _ _) (int___rmul___int_list k t l its.toArray n)
   ⟨e,rfl,⟨_,e,rfl⟩,nJ F.slot_list_mul ⟨_,e,rfl⟩ F.entry_list_mul (F.args_list_mul_2 _ _) (AutoListH.list___mul___list_int_3 l its.toArray n k t hfit hcap hlong) ⟨e,?_⟩⟩)
 rw[hnew]
 exact⟨.ref _,_,I.lnew (t':=s.toks) (r.rep k.toNat) (by rw[qG0,wP];exact hz),rfl,q _ I.fresh⟩
end
section
variable{κ:Type}[DecidableEq κ]
noncomputable def valV(kvs:List (κ×V))(k:κ):Option V:=(kvs.find? λkv=>decide (kv.1=k)).map (·.2)
noncomputable def putK(kvs:List (κ×V))(k:κ)(v:V):List (κ×V):=
 if(kvs.any λkv=>decide (kv.1=k))=true then kvs.map (λkv=>if kv.1=k then(kv.1,v)else kv)else kvs++[(k,v)]
noncomputable def q3C(kvs:List (κ×V))(k:κ):List (κ×V):=kvs.filter λkv=>decide (kv.1≠k)
theorem zE{p:κ×V}{r:List (κ×V)}{k:κ}(e:p.1=k):valV (p::r) k=some p.2:=by simp[valV,dN,e]
theorem uV{p:κ×V}{r:List (κ×V)}{k:κ}(e:¬p.1=k):valV (p::r) k=valV r k:=by simp[valV,dN,e]
theorem q9M(k:κ):∀kvs:List (κ×V),(kvs.any λkv=>decide (kv.1=k))=(valV kvs k).isSome
 | []=>rfl
 |p::r=>by
  rw[wG]
  by_cases e:p.1=k
  ·simp only[zE e,hG e,Bool.true_or,Option.isSome_some]
  ·rw[uV e,hI e,Bool.false_or];exact q9M k r
theorem q50(kvs:List (κ×V))(k:κ)(v:V):(putK kvs k v).length≤kvs.length+1:=by
 unfold putK
 split
 ·rw[hC];lia
 ·rw[kZ,mM,pN];lia
theorem RelO.isSome_eq{o:Option V}{u:Option Value}(r:RelO o u):o.isSome=u.isSome:=by
 cases o with
 |none=>cases u with
  |none=>rfl
  |some _=>exact(show False from r).elim
 |some _=>cases u with
  |none=>exact(show False from r).elim
  |some _=>rfl
theorem RelO.getD{o:Option V}{u:Option Value}{d:V}{d':Value}(r:RelO o u)(rd:RelV d d'):RelV (o.getD d) (u.getD d'):=by
 cases o with
 |none=>cases u with
  |none=>exact rd
  |some _=>exact(show False from r).elim
 |some _=>cases u with
  |none=>exact(show False from r).elim
  |some _=>exact r
theorem KV.val{kvs:List (κ×V)}{vs:List (κ×Value)}(r:KV kvs vs)(k:κ):RelO (valV kvs k) (valueAt vs k):=by
 unfold KV at r
 induction r with
 |nil=>exact True.intro
 |@cons p q ps qs h t ih=>
  obtain⟨h1,h2⟩:=h
  by_cases e:p.1=k
  ·have e':q.1=k:=h1.symm.trans e
   have b:valueAt (q::qs) k=some q.2:=by simp[valueAt,dN,e']
   rw[zE e,b];exact h2
  ·have e':¬q.1=k:=λz=>e (h1.trans z)
   have b:valueAt (q::qs) k=valueAt qs k:=by simp[valueAt,dN,e']
   rw[uV e,b];exact ih
theorem KV.any{kvs:List (κ×V)}{vs:List (κ×Value)}(r:KV kvs vs)(k:κ):(kvs.any λkv=>decide (kv.1=k))=vs.any λkv=>decide (kv.1=k):=by
 unfold KV at r
 induction r with
 |nil=>rfl
 |cons h t ih=>rw[wG,wG,ih,h.1]
theorem KV.repl{kvs:List (κ×V)}{vs:List (κ×Value)}(r:KV kvs vs)(k:κ){y:V}{u:Value}(ry:RelV y u):
 KV (kvs.map λkv=>if kv.1=k then(kv.1,y)else kv) (vs.map λkv=>if kv.1=k then(kv.1,u)else kv):=by
 unfold KV at r ⊢
 induction r with
 |nil=>exact .nil
 |@cons p q ps qs h t ih=>
  rw[mE,mE]
  refine .cons ?_ ih
  obtain⟨h1,h2⟩:=h
  by_cases e:p.1=k
  ·rw[kD e,kD (h1.symm.trans e)];exact⟨h1,ry⟩
  ·rw[kB e,kB (λz=>e (h1.trans z))];exact⟨h1,h2⟩
theorem KV.put{kvs:List (κ×V)}{vs:List (κ×Value)}(r:KV kvs vs)(k:κ){y:V}{u:Value}(ry:RelV y u):KV (putK kvs k y) (stored vs k u):=by
 unfold putK stored
 rw[r.any k]
 by_cases e:(vs.any λkv=>decide (kv.1=k))=true
 ·rw[kD e,kD e];exact r.repl k ry
 ·rw[kB e,kB e];exact Paired.snoc r ⟨rfl,ry⟩
theorem KV.drop{kvs:List (κ×V)}{vs:List (κ×Value)}(r:KV kvs vs)(k:κ):KV (q3C kvs k) (without vs k):=by
 unfold KV at r ⊢
 unfold q3C without
 induction r with
 |nil=>exact .nil
 |@cons p q ps qs h t ih=>
  obtain⟨h1,h2⟩:=h
  rw[mW,mW]
  by_cases e:p.1=k
  ·have a:¬decide (p.1≠k)=true:=by simp[e]
   have b:¬decide (q.1≠k)=true:=by simp[h1.symm.trans e]
   rw[kB a,kB b];exact ih
  ·have e':¬q.1=k:=λz=>e (h1.trans z)
   have a:decide (p.1≠k)=true:=by simp[e]
   have b:decide (q.1≠k)=true:=by simp[e']
   rw[kD a,kD b];exact .cons ⟨h1,h2⟩ ih
theorem KV.keys{kvs:List (κ×V)}{vs:List (κ×Value)}(r:KV kvs vs):kvs.map (·.1)=vs.map (·.1):=by
 unfold KV at r
 induction r with
 |nil=>rfl
 |cons h t ih=>rw[mE,mE,ih,h.1]
theorem KV.length{kvs:List (κ×V)}{vs:List (κ×Value)}(r:KV kvs vs):kvs.length=vs.length:=lP r
theorem qDX(kvs:List (κ×V))(k:κ):(q3C kvs k).length≤kvs.length:=mB _ _
end
theorem q5X{P:Program}{w:World}{k:Key}{u:Value}(r:RelV (kV k) u):(jQ P w).is k u=true:=by
 cases k with
 |inl i=>obtain⟨t,e⟩:=(show ∃t,u=Value.int i t from r);subst e;exact q9F P w i t
 |inr x=>obtain⟨t,e⟩:=(show ∃t,u=Value.str x t from r);subst e;exact q9G P w x t
theorem q7V{P:Program}{w:World}:∀{ks:List Key} {us:List Value},Vals (ks.map kV) us→ItemsAre (jQ P w) ks us
 | [],_,r=>by rw[bE]at r;cases r;exact .nil
 |k::ks,_,r=>by
  rw[mE]at r
  cases r with
  |cons h t=>exact .cons (q5X h) (q7V t)
noncomputable abbrev KT(H:Hp):List (List Key×V)→List (List Key×Addr×Value)→Prop:=Paired λp q=>p.1=q.1∧H q.2.1=some (.tup (p.1.map kV))∧RelV p.2 q.2.2
theorem KT.val{H:Hp}{kvs:List (List Key×V)}{xs:List (List Key×Addr×Value)}(r:KT H kvs xs)(k:List Key):RelO (valV kvs k) ((atKey xs k).map (·.2)):=by
 induction r with
 |nil=>exact True.intro
 |@cons p q ps qs h t ih=>
  obtain⟨h1,_,h2⟩:=h
  by_cases e:p.1=k
  ·have e':q.1=k:=h1.symm.trans e
   have b:atKey (q::qs) k=some q.2:=by simp[atKey,dN,e']
   rw[zE e,b];exact h2
  ·have e':¬q.1=k:=λz=>e (h1.trans z)
   have b:atKey (q::qs) k=atKey qs k:=by simp[atKey,dN,e']
   rw[uV e,b];exact ih
theorem KT.repl{H:Hp}{kvs:List (List Key×V)}{xs:List (List Key×Addr×Value)}(r:KT H kvs xs)(k:List Key){y:V}{u:Value}(ry:RelV y u):
 KT H (kvs.map λkv=>if kv.1=k then(kv.1,y)else kv) (xs.map (putAt k u)):=by
 induction r with
 |nil=>exact .nil
 |@cons p q ps qs h t ih=>
  rw[mE,mE]
  refine .cons ?_ ih
  obtain⟨h1,h2,h3⟩:=h
  unfold putAt
  by_cases e:p.1=k
  ·rw[kD e,kD (h1.symm.trans e)];exact⟨h1,h2,ry⟩
  ·rw[kB e,kB (λz=>e (h1.trans z))];exact⟨h1,h2,h3⟩
theorem KT.put{H:Hp}{kvs:List (List Key×V)}{xs:List (List Key×Addr×Value)}(r:KT H kvs xs)(k:List Key){b:Addr}{y:V}{u:Value}(hb:H b=some (.tup (k.map kV)))(ry:RelV y u):
 KT H (putK kvs k y) (storedH xs k b u):=by
 have e:(kvs.any λkv=>decide (kv.1=k))=(atKey xs k).isSome:=by
  rw[q9M,(r.val k).isSome_eq,xG]
 unfold putK storedH
 rw[e]
 by_cases q:(atKey xs k).isSome=true
 ·rw[kD q,kD q];exact r.repl k ry
 ·rw[kB q,kB q];exact Paired.snoc r ⟨rfl,hb,ry⟩
theorem KT.keeps{H H':Hp}{kvs:List (List Key×V)}{xs:List (List Key×Addr×Value)}(r:KT H kvs xs)(ht:∀b ys,H b=some (.tup ys)→H' b=some (.tup ys)):KT H' kvs xs:=
 Paired.mapP r λ_ _ z=>⟨z.1,ht _ _ z.2.1,z.2.2⟩
section
variable{P:Program}{w:World}{H:Hp}{h:Heap}{a:Addr}
theorem qHM{u:HO}(ok:HOk P w H h)(e:Rd H a u):jF P w H h a u:=e.ok ok
theorem q5Y{kvs:List (Key×V)}(ok:HOk P w H h)(e:Rd H a (.dK kvs)):kvs.length≤sizeLine∧(a==sysModules)=false∧∃vs,KV kvs vs∧h.DictOf (jQ P w) a vs:=
 show jF P w H h a (.dK kvs)from qHM ok e
theorem q5Z{kvs:List (Key×V)}(ok:HOk P w H h)(e:H a=some (.dK kvs)):kvs.length≤sizeLine∧(a==sysModules)=false∧∃vs,KV kvs vs∧h.DictOf (jQ P w) a vs:=q5Y ok (.inl e)
theorem q60{ks:List Key}(ok:HOk P w H h)(e:H a=some (.tup (ks.map kV))):(tupleKind (jQ P w)).is h ks a:=by
 obtain⟨_,its,r,o,h1,h2,n,h3⟩:=(show jF P w H h a (.tup (ks.map kV))from ok a _ e)
 exact⟨o,its.toArray,n,h1,h2,h3,by simpa using q7V r⟩
theorem q7W{kvs:List (List Key×V)}(ok:HOk P w H h)(e:Rd H a (.dT kvs)):kvs.length≤sizeLine∧(a==sysModules)=false∧
 ∃xs,KT H kvs xs∧h.DictOfH (tupleKind (jQ P w)) a xs:=by
 obtain⟨z,y,xs,r,o,es,ep,h1,h2,h3,h4,h5⟩:=(show jF P w H h a (.dT kvs)from qHM ok e)
 refine⟨z,y,xs,r,o,es,ep,h1,h2,h3,h4,λx hx=>?_,h5⟩
 have all:∀{l:List (List Key×V)} {m:List (List Key×Addr×Value)},KT H l m→∀x∈m,(tupleKind (jQ P w)).is h x.1 x.2.1:=by
  intro l m q
  induction q with
  |nil=>intro x hx;exact nomatch hx
  |@cons p q ps qs hq t ih=>
   intro x hx
   rcases kI.mp hx with e|hx
   ·subst e
    exact q60 ok (by rw[←hq.1];exact hq.2.1)
   ·exact ih x hx
 exact all r x hx
theorem qKE{kvs:List (List Key×V)}(ok:HOk P w H h)(e:H a=some (.dT kvs)):kvs.length≤sizeLine∧(a==sysModules)=false∧
 ∃xs,KT H kvs xs∧h.DictOfH (tupleKind (jQ P w)) a xs:=q7W ok (.inl e)
end
noncomputable def DGet(H:Hp)(a:Addr)(y:V)(r:Option V):Prop:=
 (∃kvs k,Rd H a (.dK kvs)∧y=kV k∧r=valV kvs k)∨∃kvs k b,Rd H a (.dT kvs)∧y=.ref b∧H b=some (.tup (k.map kV))∧r=valV kvs k
noncomputable def DPut(H:Hp)(a:Addr)(y v:V)(H':Hp):Prop:=
 (∃kvs k,H a=some (.dK kvs)∧y=kV k∧kvs.length<sizeLine∧H'=upd H a (.dK (putK kvs k v)))∨
 ∃kvs k b,H a=some (.dT kvs)∧y=.ref b∧H b=some (.tup (k.map kV))∧kvs.length<sizeLine∧H'=upd H a (.dT (putK kvs k v))
theorem DGet.k{H:Hp}{a:Addr}{kvs:List (Key×V)}{k:Key}(e:H a=some (.dK kvs)):DGet H a (kV k) (valV kvs k):=.inl ⟨kvs,k,.inl e,rfl,rfl⟩
section
variable{X:Cx}{pins:List (Addr×Obj)}{σ:St}{H:Hp}{s:Shared}{a:Addr}{y v:V}{u r:Value}{o:Option V}{A:Around}{E:Value→Shared→Prop}
theorem Inv.big(I:Inv X pins σ H s):sysModules<s.heap.objs.size:=by
 have h:mainGlobals<s.heap.objs.size:=(I.mod.glob.keeps I.bk).lt
 exact Nat.lt_trans (by decide) h
theorem qCS{Q:Value→Shared→Prop}(hu:A.units+1<cLine)(I:Inv X pins σ H s)(g:DGet H a y (some v))(ry:RelV y u)(h:∀w' s',Inv X pins σ H s'→RelV v w'→Q w' s'):
 wpAny (model X.prog X.w) A (getItem (.ref a) u) Q E s:=by
 rcases g with⟨kvs,k,e,ey,l⟩|⟨kvs,k,b,e,ey,eb,l⟩
 ·subst ey
  obtain⟨z,hd,vs,rel,dd⟩:=q5Y I.hok e
  obtain⟨w',hw,rw'⟩:=RelO.some_of (v:=v) (o:=valueAt vs k) (by rw[l];exact rel.val k)
  exact wpAny_getItem_of (q5X ry) dd.mapOf hw (h w' _ (I.tok _) rw')
 ·subst ey
  cases(show u=Value.ref b from ry)
  obtain⟨z,hd,xs,rel,dd⟩:=q7W I.hok e
  obtain⟨w',hw,rw'⟩:=RelO.some_of (v:=v) (o:=(atKey xs k).map (·.2)) (by rw[l];exact rel.val k)
  obtain⟨p,hp,hp2⟩:=mK.mp hw
  refine wpAny_getItem_heap (cR hu) (q60 I.hok eb) dd hp ?_
  rw[hp2]
  exact h w' _ (I.tok _) rw'
theorem d_in{Q:Value→Shared→Prop}(hu:A.units+1<cLine)(I:Inv X pins σ H s)(g:DGet H a y o)(ry:RelV y u)(h:∀s',Inv X pins σ H s'→Q (.bool o.isSome) s'):
 wpAny (model X.prog X.w) A (compareOp .In u (.ref a)) Q E s:=by
 rcases g with⟨kvs,k,e,ey,l⟩|⟨kvs,k,b,e,ey,eb,l⟩
 ·subst ey
  obtain⟨z,hd,vs,rel,dd⟩:=q5Y I.hok e
  refine wpAny_in_of (q5X ry) hd dd.mapOf ?_
  rw[←(rel.val k).isSome_eq,←l]
  exact h _ (I.tok _)
 ·subst ey
  cases(show u=Value.ref b from ry)
  obtain⟨z,hd,xs,rel,dd⟩:=q7W I.hok e
  refine wpAny_in_heap (cR hu) (q60 I.hok eb) hd dd ?_
  have q:=(rel.val k).isSome_eq
  rw[xG]at q
  rw[←q,←l]
  exact h _ (I.tok _)
theorem q8F{h':Heap}{t':Nat}{ob:HO}(I:Inv X pins σ H s)(mu:Mut (H a))(hs:Heap.SameBut a s.heap h')(he:∃q,h'.get? a=some q)(new:jF X.prog X.w (upd H a ob) h' a ob):
 Inv X pins σ (upd H a ob) { s with heap:=h',toks:=t' }:=
 I.write (x:=a) (e:=a) mu (.inl rfl) (λb q hb z=>(hs.2 b hb).trans z) he new
theorem qDY{P:Program}{w:World}{H':Hp}{h':Heap}{kvs:List (Key×V)}{vs:List (Key×Value)}(z:kvs.length≤sizeLine)(hd:(a==sysModules)=false)(rel:KV kvs vs)(dd:h'.DictOf (jQ P w) a vs):
 jF P w H' h' a (.dK kvs):=⟨z,hd,vs,rel,dd⟩
theorem qCT{H':Hp}{Q:Unit→Shared→Prop}(hu:A.units+1<cLine)(I:Inv X pins σ H s)(g:DPut H a y v H')(ry:RelV y u)(rv:RelV v r)(h:∀s',Inv X pins σ H' s'→Q () s'):
 wpAny (model X.prog X.w) A (setItem (.ref a) u r) Q E s:=by
 rcases g with⟨kvs,k,e,ey,l,eH⟩|⟨kvs,k,b,e,ey,eb,l,eH⟩
 ·subst ey eH
  obtain⟨z,hd,vs,rel,dd⟩:=q5Z I.hok e
  have hz:vs.length≤sizeLine:=by rw[←rel.length];exact z
  have hl:(putK kvs k v).length≤sizeLine:=by have:=q50 kvs k v;lia
  refine wpAny_setItem_pairs (hsz:=hz) (q5X ry) dd λh' dd' hs=>h _ ?_
  have he:∃q,h'.get? a=some q:=let⟨q,_,_,hq,_⟩:=dd';⟨q,hq⟩
  exact q8F I (by rw[e];exact True.intro) hs he (qDY hl hd (rel.put k rv) dd')
 ·subst ey eH
  cases(show u=Value.ref b from ry)
  obtain⟨z,hd,xs,rel,dd⟩:=qKE I.hok e
  have hz:xs.length≤sizeLine:=by rw[←lP rel];exact z
  have hl:(putK kvs k v).length≤sizeLine:=by have:=q50 kvs k v;lia
  refine wpAny_setItem_heap (hsz:=hz) (cR hu) (q60 I.hok eb) dd λh' dd' hs=>h _ ?_
  obtain⟨q,es,ep,hq,h2,h3,h4,_,h5⟩:=dd'
  refine q8F I (by rw[e];exact True.intro) hs ⟨q,hq⟩ ⟨hl,hd,_,(rel.put k eb rv).keeps λc ys ec=>?_,q,es,ep,hq,h2,h3,h4,h5⟩
  rw[qC (jR ec e (λz=>nomatch z))]
  exact ec
end
section
variable{X:Cx}{pins:List (Addr×Obj)}{σ:St}{H:Hp}{s:Shared}{a:Addr}{kvs:List (Key×V)}{k:Key}{u:Value}{A:Around}{E:Value→Shared→Prop}
theorem qHN{v:V}{more:List Value}{Q:Value→Shared→Prop}(I:Inv X pins σ H s)(e:H a=some (.dK kvs))(ry:RelV (kV k) u)(l:valV kvs k=some v)(hm:more=[]∨∃x,more=[x])
 (h:∀w' s',Inv X pins σ (upd H a (.dK (q3C kvs k))) s'→RelV v w'→Q w' s'):wpAny (model X.prog X.w) A (call (.builtin "dict.pop") (.ref a::u::more)) Q E s:=by
 obtain⟨z,hd,vs,rel,dd⟩:=q5Z I.hok e
 obtain⟨w',hw,rw'⟩:=RelO.some_of (v:=v) (o:=valueAt vs k) (by rw[←l];exact rel.val k)
 have hp:(keyPart u).isSome=true:=by
  cases k with
  |inl i=>obtain⟨t,q⟩:=(show ∃t,u=Value.int i t from ry);subst q;rfl
  |inr x=>obtain⟨t,q⟩:=(show ∃t,u=Value.str x t from ry);subst q;rfl
 have ha:argsOk "dict.pop" ⟨.ref a::u::more,[]⟩:=by
  rcases hm with q|⟨x,q⟩
  ·subst q;exact PySem.F.args_dict_pop_2 _ _
  ·subst q;exact sL _ _ _
 refine pV wV dd.typeIs nK ha (meets_dict_pop_there (jQ X.prog X.w) a (q5X ry) more hm hp)
  ⟨vs,w',dd,by rw[←rel.length];exact z,hw,λh' dd' hs=>h w' _ ?_ rw'⟩
 have he:∃q,h'.get? a=some q:=let⟨q,_,_,hq,_⟩:=dd';⟨q,hq⟩
 exact q8F I (by rw[e];exact True.intro) hs he (qDY (kO (qDX kvs k) z) hd (rel.drop k) dd')
theorem qIC{r:Value}{Q:Value→Shared→Prop}(I:Inv X pins σ H s)(e:H a=some (.dK kvs))(ry:RelV (kV k) u)(l:valV kvs k=none)(h:∀s',Inv X pins σ H s'→Q r s'):
 wpAny (model X.prog X.w) A (call (.builtin "dict.pop") [.ref a,u,r]) Q E s:=by
 obtain⟨z,hd,vs,rel,dd⟩:=q5Z I.hok e
 have hn:valueAt vs k=none:=RelO.none_of (by rw[←l];exact rel.val k)
 have hp:(keyPart u).isSome=true:=by
  cases k with
  |inl i=>obtain⟨t,q⟩:=(show ∃t,u=Value.int i t from ry);subst q;rfl
  |inr x=>obtain⟨t,q⟩:=(show ∃t,u=Value.str x t from ry);subst q;rfl
 exact pV wV dd.typeIs nK (sL _ _ _) (meets_dict_pop_default (jQ X.prog X.w) a (q5X ry) hd hp r) ⟨vs,dd,hn,h _ (I.tok _)⟩
theorem qKF{Q:Value→Shared→Prop}(I:Inv X pins σ H s)(e:Rd H a (.dK kvs))(h:∀t s',Inv X pins σ H s'→Q (.int kvs.length t) s'):wpAny (model X.prog X.w) A (call (.builtin "len") [.ref a]) Q E s:=by
 obtain⟨z,hd,vs,rel,dd⟩:=q5Y I.hok e
 refine call_len_dict hd dd (by rw[←rel.length];rw[gI]at z;lia) ?_
 rw[←rel.length]
 exact h _ _ (I.tok _)
end
noncomputable def NoSl(i:Expr):Prop:=∀ov iv,subscripted i false ov iv=operate [ov,iv] (getItem ov iv)
theorem qG1{prog:Program}{w:World}{A:Around}{E:Value→Shared→Prop}{s:Shared}{env:Env}{value slice:Expr}{pos:Pos}{T id:String}{Q:Value→Shared→Prop}
 (hl:typeLookup (.type T) "__getitem__"=pure (some (.builtin id))) (hs:NoSl slice)
 (h:wpAny (model prog w) A (eval value env) (λo s₁=>wpAny (model prog w) A (eval slice env) (λi s₂=>s₂.TypeIs o T∧wpAny (model prog w) A (getItem o i) Q E s₂) E s₁) E s):
 wpAny (model prog w) A (eval (.Subscript value slice pos) env) Q E s:=by
 refine Subscript_ (dP h (λo s₁ h₁=>dP h₁ (λi s₂ h₂=>?_) λ_ _ x=>x) λ_ _ x=>x)
 obtain⟨hT,h₂⟩:=h₂
 unfold subscriptTail
 refine kL ?_
 rw[getitemInPython_of_ne hT.not_modules]
 refine kL (wpAny_specialOf hT hl ?_)
 have fin:wpAny (model prog w) A (subscripted slice false o i) (λr s₃=>wpAny (model prog w) A (letTemporaryGo value o r >>= λ_=>pure r) Q E s₃) E s₂:=by
  rw[hs o i]
  exact wpAny_operating (dP h₂ (λr s₃ h₃=>kL (wpAny_letTemporaryGo (mO h₃))) λ_ _ x=>x)
 first
  |exact mO (kL fin)
  |exact kL (mO (kL fin))
  |exact kL fin
theorem q9N{X:Cx}{pins:List (Addr×Obj)}{σ:St}{H:Hp}{s:Shared}{a:Addr}{y:V}{o:Option V}(I:Inv X pins σ H s)(g:DGet H a y o):s.TypeIs (.ref a) "dict":=by
 rcases g with⟨kvs,k,e,_,_⟩|⟨kvs,k,b,e,_,_,_⟩
 ·obtain⟨_,_,vs,_,dd⟩:=q5Y I.hok e
  exact dd.typeIs
 ·obtain⟨_,_,xs,_,dd⟩:=q7W I.hok e
  exact dd.typeIs
noncomputable def qKG(td ty:TE):TE:=λσ H Q=>td σ H λx H1=>ty σ H1 λy H2=>∃a v,x=.ref a∧DGet H2 a y (some v)∧Q v H2
noncomputable def tDIn(ty td:TE):TE:=λσ H Q=>ty σ H λy H1=>td σ H1 λx H2=>∃a o,x=.ref a∧DGet H2 a y o∧Q (.bl o.isSome) H2
noncomputable def qKH(td ty tv:TE):TS:=λD σ H=>tv σ H λv H1=>td σ H1 λx H2=>ty σ H2 λy H3=>∃a H4,x=.ref a∧DPut H3 a y v H4∧D.nx σ H4
section
variable{X:Cx}{o i e value:Expr}{pos pos' tpos:Pos}{td ty tv:TE}
theorem qBM(hu:X.A.units+1<cLine)(ho:PE X o td)(hi:PE X i ty)(hs:NoSl i):PE X (.Subscript o i pos) (qKG td ty):=by
 intro pins s σ H Q I h
 refine qG1 PySem.F.slot_dict_getitem.lookup hs (thn (ho pins s σ H _ I h) λu s1 ⟨x,H1,I1,rx,q1⟩=>thn (hi pins s1 σ H1 _ I1 q1) λiv s2 hZ=>?_)
 obtain⟨y,H2,I2,ry,a,v,ex,g,q2⟩:=hZ
 subst ex
 obtain rfl:u=Value.ref a:=rx
 exact⟨q9N I2 g,qCS hu I2 g ry λw' s3 I3 rw'=>⟨v,H2,I3,rw',q2⟩⟩
theorem q8G(hu:X.A.units+1<cLine)(hi:PE X i ty)(ho:PE X o td):PC X .In i o (tDIn ty td):=by
 intro pins s σ H Q I h
 refine thn (hi pins s σ H _ I h) λiv s1 ⟨y,H1,I1,ry,q1⟩=>thn (ho pins s1 σ H1 _ I1 q1) λu s2 hZ=>?_
 obtain⟨x,H2,I2,rx,a,ov,ex,g,q2⟩:=hZ
 subst ex
 obtain rfl:u=Value.ref a:=rx
 exact d_in hu I2 g ry λs3 I3=>⟨.bl ov.isSome,H2,I3,rfl,q2⟩
theorem q8H(hu:X.A.units+1<cLine)(ho:PE X o td)(hi:PE X i ty)(hv:PE X value tv)(hs:swapsWith value (some (.Subscript o i pos')) pos.line X.env=pure false):
 PS X (.Assign [.Subscript o i pos'] value pos) (qKH td ty tv):=by
 intro pins s σ H D I h
 refine wpAny_Assign_Subscript (thn (hv pins s σ H _ I h) λr s1 ⟨v,H1,I1,rv,q1⟩=>thn (ho pins s1 σ H1 _ I1 q1) λu s2 ⟨x,H2,I2,rx,q2⟩=>thn (hi pins s2 σ H2 _ I2 q2) λiv s3 hZ=>?_) hs
 obtain⟨y,H3,I3,ry,a,H4,ex,g,q3⟩:=hZ
 subst ex
 obtain rfl:u=Value.ref a:=rx
 exact qCT hu I3 g ry rv λs4 I4=>⟨σ,H4,I4,q3⟩
end
theorem qDZ{P:Program}{w:World}{H:Hp}(h:Heap)(hb:sysModules<h.objs.size):jF P w H (h.push { cls:=.type "dict",data:=.dict #[] }) h.objs.size (.dK []):=
 ⟨mV _,rG.mpr (wH (m9 hb)),[],.nil,Heap.DictOf.new h⟩
noncomputable def qID:TE:=λ_ H Q=>∀p,H p=none→Q (.ref p) (upd H p (.dK []))
section
variable{X:Cx}{pos:Pos}
theorem q41:PE X (.Dict [] [] pos) qID:=λpins s σ H Q I h=>
 wpAny_Dict_empty ⟨.ref s.heap.objs.size,_,I.laid (a:=s.heap.objs.size) (o:=.dK []) (t':=s.toks) (λ_ _ q=>kF _ q) (kM _) (qDZ s.heap I.big),rfl,h _ (I.hok.fresh (kM _))⟩
end
structure M1(X:Cx)(o:Expr)(m:Str)(apos:Pos)(e:Expr)(cpos:Pos):Prop where
 base:attributeBase o m X.env (eval o X.env)=eval o X.env
 few:((backTo cpos (starEach [e] X.env)).all (λx=>!x.1)&&(backToKw cpos (keywordEach [] X.env)).all (λx=>x.1.isSome)
  &&decide (([e]:List Expr).length+([]:List Keyword).length+(if([]:List Keyword).isEmpty then 0 else 1)<30))=true
 line:(apos.endLine==cpos.line)=true
 trees:backTo cpos (starEach [e] X.env)=[(false,eval e X.env)]
structure M2(X:Cx)(o:Expr)(m:Str)(apos:Pos)(e f:Expr)(cpos:Pos):Prop where
 base:attributeBase o m X.env (eval o X.env)=eval o X.env
 few:((backTo cpos (starEach [e,f] X.env)).all (λx=>!x.1)&&(backToKw cpos (keywordEach [] X.env)).all (λx=>x.1.isSome)
  &&decide (([e,f]:List Expr).length+([]:List Keyword).length+(if([]:List Keyword).isEmpty then 0 else 1)<30))=true
 line:(apos.endLine==cpos.line)=true
 trees:backTo cpos (starEach [e,f] X.env)=[(false,eval e X.env),(false,eval f X.env)]
noncomputable def IsD(H:Hp)(a:Addr):Prop:=(∃kvs,Rd H a (.dK kvs))∨∃kvs,Rd H a (.dT kvs)
theorem qAT{X:Cx}{pins:List (Addr×Obj)}{σ:St}{H:Hp}{s:Shared}{a:Addr}(I:Inv X pins σ H s)(d:IsD H a):
 s.TypeIs (.ref a) "dict"∧(∀b,Value.ref a=.ref b→∃ob,s.heap.get? b=some ob∧ob.dict=none)∧(a==sysModules)=false:=by
 rcases d with⟨kvs,e⟩|⟨kvs,e⟩
 ·obtain⟨_,hd,vs,_,dd⟩:=q5Y I.hok e
  refine⟨dd.typeIs,λb q=>?_,hd⟩
  cases q
  obtain⟨ob,_,_,h1,h2,_⟩:=dd
  exact⟨ob,h1,h2.2.1⟩
 ·obtain⟨_,hd,xs,_,dd⟩:=q7W I.hok e
  refine⟨dd.typeIs,λb q=>?_,hd⟩
  cases q
  obtain⟨ob,_,_,h1,h2,_⟩:=dd
  exact⟨ob,h1,h2.2.1⟩
section
variable{X:Cx}{pins:List (Addr×Obj)}{σ:St}{H:Hp}{s:Shared}{a:Addr}{y d:V}{u r:Value}{o:Option V}{A:Around}{E:Value→Shared→Prop}
theorem qIE{Q:Value→Shared→Prop}(hu:A.units+1<cLine)(I:Inv X pins σ H s)(g:DGet H a y o)(ry:RelV y u)(rd:RelV d r)(h:∀w' s',Inv X pins σ H s'→RelV (o.getD d) w'→Q w' s'):
 wpAny (model X.prog X.w) A (call (.builtin "dict.get") [.ref a,u,r]) Q E s:=by
 rcases g with⟨kvs,k,e,ey,l⟩|⟨kvs,k,b,e,ey,eb,l⟩
 ·subst ey
  obtain⟨z,hd,vs,rel,dd⟩:=q5Y I.hok e
  refine pV pB dd.typeIs nL (sN _ _ _) (meets_dict_get_default (jQ X.prog X.w) a (q5X ry) hd r) ⟨_,dd.mapOf,h _ _ (I.tok _) ?_⟩
  rw[l]
  exact(rel.val k).getD rd
 ·subst ey
  cases(show u=Value.ref b from ry)
  obtain⟨z,hd,xs,rel,dd⟩:=q7W I.hok e
  refine pV pB dd.typeIs nL (sN _ _ _) (meetsH_dict_get_default (tupleKind (jQ X.prog X.w)) a b hd r) ⟨cR hu,k,xs,q60 I.hok eb,dd,h _ _ (I.tok _) ?_⟩
  rw[l]
  exact(rel.val k).getD rd
end
noncomputable def qIF(td ty tx:TE):TE:=λσ H Q=>td σ H λx H1=>∃a,x=.ref a∧IsD H1 a∧ty σ H1 λy H2=>tx σ H2 λz H3=>∃o,DGet H3 a y o∧Q (o.getD z) H3
noncomputable def qIG(td ty:TE):TE:=λσ H Q=>td σ H λx H1=>∃a,x=.ref a∧IsD H1 a∧ty σ H1 λy H2=>∃kvs k v,H2 a=some (.dK kvs)∧y=kV k∧valV kvs k=some v∧Q v (upd H2 a (.dK (q3C kvs k)))
noncomputable def qIH(td ty tx:TE):TE:=λσ H Q=>td σ H λx H1=>∃a,x=.ref a∧IsD H1 a∧ty σ H1 λy H2=>tx σ H2 λz H3=>∃kvs k,H3 a=some (.dK kvs)∧y=kV k∧
 (∀v,valV kvs k=some v→Q v (upd H3 a (.dK (q3C kvs k))))∧(valV kvs k=none→Q z H3)
section
variable{X:Cx}{o e f:Expr}{apos cpos:Pos}{td ty tx:TE}
theorem qE0(hu:X.A.units+1<cLine)(ho:PE X o td)(he:PE X e ty)(hf:PE X f tx)(m:M2 X o "get" apos e f cpos):PE X (.Call (.Attribute o "get" apos) [e,f] [] cpos) (qIF td ty tx):=by
 intro pins s σ H Q I h
 refine sG m.base m.few m.line wK pB PySem.F.type_dict_get (thn (ho pins s σ H _ I h) λu s1 hZ=>?_)
 obtain⟨x,H1,I1,rx,a,ex,d,q1⟩:=hZ
 subst ex
 obtain rfl:u=Value.ref a:=rx
 obtain⟨t1,t2,_⟩:=qAT I1 d
 refine⟨t1,t2,?_⟩
 rw[m.trees]
 refine rL rfl (cD (rS (thn (he pins s1 σ H1 _ I1 q1) λiv s2 ⟨y,H2,I2,ry,q2⟩=>
  rS (thn (hf pins s2 σ H2 _ I2 q2) λfv s3 ⟨z,H3,I3,rz,ov,g,q3⟩=>cY ?_))))
 exact qIE hu I3 g ry rz λw' s4 I4 rw'=>⟨_,H3,I4,rw',q3⟩
theorem qE1(ho:PE X o td)(he:PE X e ty)(m:M1 X o "pop" apos e cpos):PE X (.Call (.Attribute o "pop" apos) [e] [] cpos) (qIG td ty):=by
 intro pins s σ H Q I h
 refine sG m.base m.few m.line wK wV nV (thn (ho pins s σ H _ I h) λu s1 hZ=>?_)
 obtain⟨x,H1,I1,rx,a,ex,d,q1⟩:=hZ
 subst ex
 obtain rfl:u=Value.ref a:=rx
 obtain⟨t1,t2,_⟩:=qAT I1 d
 refine⟨t1,t2,?_⟩
 rw[m.trees]
 refine rL rfl (cD (rS (thn (he pins s1 σ H1 _ I1 q1) λiv s2 ⟨y,H2,I2,ry,kvs,k,v,ea,ey,l,q2⟩=>cY ?_)))
 subst ey
 exact qHN I2 ea ry l (.inl rfl) λw' s3 I3 rw'=>⟨v,_,I3,rw',q2⟩
theorem qE2(ho:PE X o td)(he:PE X e ty)(hf:PE X f tx)(m:M2 X o "pop" apos e f cpos):PE X (.Call (.Attribute o "pop" apos) [e,f] [] cpos) (qIH td ty tx):=by
 intro pins s σ H Q I h
 refine sG m.base m.few m.line wK wV nV (thn (ho pins s σ H _ I h) λu s1 hZ=>?_)
 obtain⟨x,H1,I1,rx,a,ex,d,q1⟩:=hZ
 subst ex
 obtain rfl:u=Value.ref a:=rx
 obtain⟨t1,t2,_⟩:=qAT I1 d
 refine⟨t1,t2,?_⟩
 rw[m.trees]
 refine rL rfl (cD (rS (thn (he pins s1 σ H1 _ I1 q1) λiv s2 ⟨y,H2,I2,ry,q2⟩=>
  rS (thn (hf pins s2 σ H2 _ I2 q2) λfv s3 ⟨z,H3,I3,rz,kvs,k,ea,ey,q3,q4⟩=>cY ?_))))
 subst ey
 cases l:valV kvs k with
 |some v=>exact qHN I3 ea ry l (.inr ⟨fv,rfl⟩) λw' s4 I4 rw'=>⟨v,_,I4,rw',q3 v l⟩
 |none=>exact qIC I3 ea ry l λs4 I4=>⟨z,H3,I4,rz,q4 l⟩
end
end L2
namespace Att
open PySem PySem.W PySem.Calls PyProof.Rows
theorem q55{P:Params}{h:Heap}:∀(ns:List Int) (vs:List Value),WellAll P h vs (ns.map WData.int)→IntsAre vs ns:=by
 intro ns
 induction ns with
 |nil=>
  intro vs w
  rw[bE]at w
  cases w
  exact .nil
 |cons n ns ih=>
  intro vs w
  rw[mE]at w
  cases w with
  |cons a b=>
   cases a
   exact .cons _ _ (ih _ b)
theorem qCU{l:OpenLaw}{n:Nat}(hn:l.most=some n){P:Params}{h:Heap}{args:List WData}{vals:List Value}
 (hpre:l.row.toRowW.claim.pre args=true) (hwl:WellAll P h vals args):
 ∃a vs ns,vals=[Value.ref a]∧args=[WData.list (ns.map WData.int)]∧h.get? a=some { cls:=.type "list",data:=.seq vs.toArray }∧IntsAre vs ns∧ns.length≤n:=by
 have hsh:WShape.hasAll [] args [.list .int]=true:=(pre_splitW hpre).1
 have hc:l.pre.holds [] { args:=args } =true:=(pre_splitW hpre).2
 obtain⟨d,r,rfl,h1,h2⟩:=hasAllW_cons hsh
 obtain rfl:=hasAllW_nil h2
 obtain⟨xs,rfl,h3⟩:=hasW_list h1
 obtain⟨ns,rfl⟩:=items_int h3
 have hlen:ns.length≤n:=by
  unfold OpenLaw.pre at hc
  have h4:(WTm.not (.lt (.lit (.int (n:Int))) (.len (.arg 0)))).holds [] { args:=[.list (ns.map .int)] } =true:=by
   have h4:=(holds_andW hc).1
   rw[hn]at h4
   exact h4
  have h5:=condW_of h4 (w_not (w_lt w_lit (w_len_list (w_arg rfl))))
  rw[hC]at h5
  refine Nat.le_of_not_lt λq=>?_
  have q':(n:Int)<((ns.length:Nat):Int):=by lia
  first
   |(rw[hG q']at h5;exact absurd h5 (by decide))
   |(simp at h5;lia)
 cases hwl with
 |cons w1 w2=>
  cases w2
  cases w1 with
  |list ho hall=>exact⟨_,_,ns,rfl,rfl,ho,q55 ns _ hall,hlen⟩
theorem qCV(l:OpenLaw)(args:List WData):l.row.toRowW.claim.post args (.bool true) args=true:=
 postW_of (r:=l.row.toRowW) (X:=(true==true))
  (show WShape.has [] (.bool true) .bool=true by first|rfl|decide|simp[WShape.has,WShape.arms,WShape.armsAll])
  (show(WTm.eq .res (.lit (.bool true))).value [] { args:=args,res:=some (.bool true),after:=args } =some (.bool (true==true))from w_eq_bool (w_res rfl) w_lit) rfl
theorem attach_call{l:OpenLaw}{n:Nat}{q:Program}{loose:List Str}{XP:(Str→Option Value)→Heap→Prop}{YP:World→Heap→Prop}{d:DefRec}
 (hn:l.most=some n) (hdf:d.params.defaults=[])
 (call:∀(w:World) (s₀ s₁:Shared) (mg mb:Str→Option Value) (fa:Addr) (o:Obj) (pm cd doc:Value) (a:Addr) (vs:List Value) (ns:List Int),
  Ground q loose [] XP w s₀ mg mb s₁.heap→YP w s₁.heap→
  s₁.heap.get? fa=some o→o.data=.func (docDef d.name d.params d.body d.scope pm cd doc)→s₁.heap.CodeRec cd d.name→mg d.name=some (.ref fa)→
  s₁.heap.get? a=some { cls:=.type "list",data:=.seq vs.toArray }→IntsAre vs ns→ns.length≤n→s₁.gens=#[]→
  codeAny (model l.prog w) callerA (.call (.ref fa) ⟨[.ref a],[]⟩) (λr s'=>r=.ok (.ret (.bool true))∧OldK s₁.heap s'.heap∧s'.os=s₁.os∧AllBare s'.gens) s₁):
 WalkO q loose XP YP l.row.toRowW d [] (λf vs=>PySem.call f vs):=by
 intro w s₀ s₁ mg mb G Y fa o pm cd doc dV kV ho hd hcd hD hmg hg args vals as hpre hlay hrd hwl hlo
 obtain rfl:dV=.none:=Dflts.none hD hdf
 obtain rfl:kV=.none:=Dflts.noKw hD
 obtain⟨a,vs,ns,rfl,rfl,hobj,hints,hlen⟩:=qCU hn hpre hwl
 refine enter_call (cZ (call w s₀ s₁ mg mb fa o pm cd doc a vs ns G Y ho (fd_plain hd) hcd hmg hobj hints hlen hg) λr s' hq=>?_)
 obtain⟨rfl,h2,h3,h4⟩:=hq
 exact⟨.inl ⟨.bool true,.bool true,[],rfl,λ_=>rfl,.bool true,qCV l _,λ_=>⟨List.Pairwise.nil,λ_ hm=>(nomatch hm)⟩⟩,h2,h3,h4⟩
end Att
namespace L2
open PySem PySem.Spec PyProof.Rows
theorem q7X:∀{vs:List Value} {ns:List Int},IntsAre vs ns→Vals (ns.map V.int) vs
 |_,_,.nil=>.nil
 |_,_,.cons n t h=>.cons ⟨t,rfl⟩ (q7X h)
noncomputable def qM(s:Stmt)(j:Nat):Stmt:=match s with
 | .ClassDef _ _ _ body _ _ _ _ _ _ _=>body.getD j (.Pass ⟨0,0,0,0⟩)
 |_=>.Pass ⟨0,0,0,0⟩
noncomputable def yR(s:Stmt):Arguments:=match s with
 | .FunctionDef _ a _ _ _ _ _ _ _ _=>a
 |_=>{ posonlyargs:=[],args:=[],vararg:=none,kwonlyargs:=[],kw_defaults:=[],kwarg:=none,defaults:=[] }
noncomputable def yG(s:Stmt):List Stmt:=match s with
 | .FunctionDef _ _ b _ _ _ _ _ _ _=>b
 |_=>[]
noncomputable def qG(s:Stmt):Scope:=match s with
 | .FunctionDef _ _ _ _ _ _ sc _ _ _=>sc
 |_=>{ kind:=.function,names:=[],isGenerator:=false,isCoroutine:=false }
noncomputable abbrev CX0:CXT:=λ_ _ _ _ _ _=>False
noncomputable abbrev E0:XK:=λ_ _ _=>False
theorem qK{X:Cx}:q14 CX0 X E0:=λ_ _ _ _ _ _ _ h=>h.elim
theorem q1X{A:Around}{k:Nat}(hr:Room k A):A.units+1<cLine:=rV (Nat.add_le_add_left (by decide:1≤64) _) hr.units
section
variable{X:Cx}
theorem pv(i:Nat){x:Str}{pos:Pos}(hN:X.N[i]?=some x:=by rfl)(hv:Vis X.env.scope x:=by first|exact Or.inl rfl|exact Or.inr (Or.inl rfl)|exact Or.inr (Or.inr rfl))(hd:(x==("__debug__":Str))=false:=by decide)
 (hcd:(x==("__classdict__":Str))=false:=by decide):PE X (.Name x pos) (tVar i):=qI0 hN hv hd hcd
end
theorem iteF{A B:Prop}(h:B):if false=true then A else B:=by
 rw[kB kQ]
 exact h
theorem iteT{A B:Prop}(h:A):if true=true then A else B:=by
 rw[kD rfl]
 exact h
theorem ite2{c A B:Prop}[Decidable c](h1:c→A)(h2:¬c→B):if c then A else B:=by
 by_cases h:c
 ·rw[kD h]
  exact h1 h
 ·rw[kB h]
  exact h2 h
noncomputable def Same(H H':Hp):Prop:=∀b o,H b=some o→H' b=some o
theorem Same.refl(H:Hp):Same H H:=λ_ _ h=>h
theorem Same.trans{H H1 H2:Hp}(a:Same H H1)(b:Same H1 H2):Same H H2:=λc o h=>b c o (a c o h)
theorem Same.free{H H':Hp}(e:Same H H'){l:Addr}(h:H' l=Option.none):H l=Option.none:=by
 cases q:H l with
 |none=>rfl
 |some o=>
  rw[e l o q]at h
  cases h
theorem Same.seq{K:PySem.W.Frag}{H H':Hp}{a:Addr}{xs:List V}(e:Same H H')(h:SqL K H a xs):SqL K H' a xs:=by
 rcases h with(h|⟨o,h⟩)|h
 ·exact .inl (.inl (e _ _ h))
 ·exact .inl (.inr ⟨o,e _ _ h⟩)
 ·exact .inr h
section
variable{X:Cx}
theorem qCW:zC X (.builtin "len") (λxs H Q=>∃a kvs,xs=[V.ref a]∧H a=some (.dK kvs)∧Q (.int kvs.length) H):=by
 intro pins s σ H xs us Q I r h
 obtain⟨a,kvs,rfl,ha,q⟩:=h
 obtain⟨u,rfl,ru⟩:=q1Q r
 cases ru
 exact qKF I (.inl ha) λt s' I'=>⟨.int kvs.length,H,I',⟨t,rfl⟩,q⟩
end
section
variable{X:Cx}
theorem qG2:OpR X (compareOp .IsNot) (λx y H Q=>∃c d,x=.bl c∧y=.bl d∧Q (.bl (c !=d)) H):=by
 intro pins s σ H x y v u Q I rx ry h
 obtain⟨c,d,rfl,rfl,q⟩:=h
 cases rx
 cases ry
 exact isnot_bool ⟨.bl _,H,I,rfl,q⟩
theorem q1Y:PGet X (rIxL X.K):=by
 intro pins s σ H o i ov iv Q I ro ri h
 obtain⟨p,xs,k,z,rfl,rfl,hq,he,q⟩:=h
 cases ro
 obtain⟨t,rfl⟩:=ri
 obtain⟨its,r,pl,hz⟩:=I.list hq
 obtain⟨j,h1,h2,h3,h4,h5⟩:=q8D he
 obtain⟨w,ew,rw'⟩:=r.get h2
 have hl:=r.length
 have hn:=q5U
 have fin:EP X pins σ Q w s:=⟨z,H,I,rw',q⟩
 by_cases h0:0≤k
 ·have hj:k.toNat=j:=by
   rw[lC h0 h5]at h1
   exact kN h1
  exact wpAny_getItem_list pl.isList h0 (by lia) (by rw[hj];simpa using ew) fin
 ·have hj:(k+(its.toArray.size:Int)).toNat=j:=by
   rw[nG (by lia) h4]at h1
   rw[mD,←hl]
   exact kN h1
  exact nI pl.isList (by lia) (by rw[mD]<;>lia) (by lia) (by rw[hj];simpa using ew) fin
end
noncomputable def isW:V→Bool
 | .int _=>true
 |_=>false
noncomputable def isI:V→Bool
 | .int _=>true
 | .bl _=>true
 |_=>false
noncomputable def isB:V→Bool
 | .bl _=>true
 |_=>false
noncomputable def isS:V→Bool
 | .str _=>true
 |_=>false
inductive Knd(H:Hp):V→Prop where
 |non:Knd H .non
 |bl (b:Bool):Knd H (.bl b)
 |int (i:Int):Knd H (.int i)
 |str (x:Str):Knd H (.str x)
 |lst {a:Addr} {xs:List V} (e:H a=some (.lst xs)):Knd H (.ref a)
 |tup {a:Addr} {xs:List V} (e:H a=some (.tup xs)):Knd H (.ref a)
section
variable{K:PySem.W.Frag}{H:Hp}{x:V}
theorem qII:PySem.W.kitOne K (.type "NoneType") (.type "int")=some false:=by kernel_rfl
theorem qIJ:PySem.W.kitOne K (.type "bool") (.type "int")=some true:=by kernel_rfl
theorem qIK:PySem.W.kitOne K (.type "int") (.type "int")=some true:=by kernel_rfl
theorem qIL:PySem.W.kitOne K (.type "str") (.type "int")=some false:=by kernel_rfl
theorem qIM:PySem.W.kitOne K (.type "list") (.type "int")=some false:=by kernel_rfl
theorem qIN:PySem.W.kitOne K (.type "tuple") (.type "int")=some false:=by kernel_rfl
theorem qIO:PySem.W.kitOne K (.type "NoneType") (.type "bool")=some false:=by kernel_rfl
theorem qIP:PySem.W.kitOne K (.type "bool") (.type "bool")=some true:=by kernel_rfl
theorem qIQ:PySem.W.kitOne K (.type "int") (.type "bool")=some false:=by kernel_rfl
theorem qIR:PySem.W.kitOne K (.type "str") (.type "bool")=some false:=by kernel_rfl
theorem qIS:PySem.W.kitOne K (.type "list") (.type "bool")=some false:=by kernel_rfl
theorem qIT:PySem.W.kitOne K (.type "tuple") (.type "bool")=some false:=by kernel_rfl
theorem qIU:PySem.W.kitOne K (.type "NoneType") (.type "str")=some false:=by kernel_rfl
theorem qIV:PySem.W.kitOne K (.type "bool") (.type "str")=some false:=by kernel_rfl
theorem qIW:PySem.W.kitOne K (.type "int") (.type "str")=some false:=by kernel_rfl
theorem qIX:PySem.W.kitOne K (.type "str") (.type "str")=some true:=by kernel_rfl
theorem qIY:PySem.W.kitOne K (.type "list") (.type "str")=some false:=by kernel_rfl
theorem qIZ:PySem.W.kitOne K (.type "tuple") (.type "str")=some false:=by kernel_rfl
theorem qE3:PySem.W.kitOne K (.type "tuple") (.type "tuple")=some true:=by kernel_rfl
theorem qE4:PySem.W.kitOne K (.type "list") (.type "list")=some true:=by kernel_rfl
theorem Knd.ty(k:Knd H x):∃t,TyOf K H x t∧PySem.W.kitOne K t (.type "int")=some (isI x)∧PySem.W.kitOne K t (.type "bool")=some (isB x)∧PySem.W.kitOne K t (.type "str")=some (isS x):=by
 cases k with
 |non=>exact⟨_,.non,qII,qIO,qIU⟩
 |bl b=>exact⟨_,.bl b,qIJ,qIP,qIV⟩
 |int i=>exact⟨_,.int i,qIK,qIQ,qIW⟩
 |str y=>exact⟨_,.str y,qIL,qIR,qIX⟩
 |lst e=>exact⟨_,.lst e,qIM,qIS,qIY⟩
 |tup e=>exact⟨_,.tup e,qIN,qIT,qIZ⟩
theorem qE5(x:V):(if isI x=true then !isB x else false)=isW x:=by cases x<;>rfl
end
noncomputable def yP(ns:List Int)(k:Int):Int:=ns.getD k.toNat 0
theorem qCX{ns:List Int}{k:Int}(h0:0≤k)(h:k<ns.length):atI (ns.map V.int) k=some (.int (yP ns k)):=by
 obtain⟨j,rfl⟩:=wL h0
 refine u7 ?_
 have hj:j<ns.length:=by lia
 unfold yP
 simp[hj]
theorem qAU{ns:List Int}{k:Int}(h0:0≤k)(h:¬k<ns.length):yP ns k=0:=by
 unfold yP
 rw[kJ,dG (by lia)]
 rfl
theorem Same.upd{H:Hp}{p:Addr}{o:HO}(h:H p=none):Same H (upd H p o):=λb u e=>by
 rw[qC (qF e h)]
 exact e
noncomputable abbrev NewO(H:Hp)(o:HO)(Q:VK):Prop:=∀p H',H p=none→Same H H'→H' p=some o→Q (.ref p) H'
theorem NewO.at{H:Hp}{o:HO}{Q:VK}(q:NewO H o Q)(p:Addr)(n:H p=none):Q (.ref p) (upd H p o):=q p _ n (Same.upd n) qH
section
variable{X:Cx}{e:Expr}{es:List Expr}{t:TA}{pos:Pos}
noncomputable def qKI(t:TA):TE:=λσ H Q=>t σ H λxs H1=>xs.length≤sizeLine∧NewO H1 (.tup xs) Q
noncomputable def qKJ(t:TA):TE:=λσ H Q=>t σ H λxs H1=>xs.length≤sizeLine∧NewO H1 (.lst xs) Q
theorem yH{x1}(h:PA X es t):PE X (.Tuple es x1 pos) (qKI t):=by
 intro pins s σ H Q I hq
 refine wpAny_Tuple_spliced (thn (h pos pins s σ H _ I hq) λus s1 ⟨xs,H1,I1,r,z,q⟩=>⟨by rw[←r.length];exact z,?_⟩)
 have hf:H1 s1.heap.objs.size=none:=I1.hok.fresh (kM _)
 refine⟨.ref s1.heap.objs.size,upd H1 s1.heap.objs.size (.tup xs),I1.laid (t':=s1.toks) (λb u e=>kF _ e) (kM _) ?_,rfl,q.at _ hf⟩
 exact⟨z,us,r,⟨_,mP _ rfl,rfl,_,rfl⟩⟩
theorem jT(h:PA X es t):PE X (.List es pos) (qKJ t):=by
 intro pins s σ H Q I hq
 refine wpAny_List_spliced (thn (h pos pins s σ H _ I hq) λus s1 ⟨xs,H1,I1,r,z,q⟩=>⟨by rw[←r.length];exact z,?_⟩)
 have hf:H1 s1.heap.objs.size=none:=I1.hok.fresh (kM _)
 refine⟨.ref s1.heap.objs.size,upd H1 s1.heap.objs.size (.lst xs),I1.laid (t':=s1.toks) (λb u e=>kF _ e) (kM _) ?_,rfl,q.at _ hf⟩
 exact⟨z,us,0,r,mP _ rfl⟩
noncomputable def qKK:R2:=λx y H Q=>∃l k v,x=.ref l∧y=.int k∧H l=some (.lst [v])∧0≤k∧k≤100000∧NewO H (.lst (List.replicate k.toNat v)) Q
theorem q0I{α:Type}(v:α):∀k:Nat,(List.replicate k [v]).flatten=List.replicate k v
 |0=>rfl
 |k+1=>by rw[dW,wX,q0I v k,dW];rfl
theorem q16:OpR X (binaryOp .Mult) qKK:=by
 intro pins s σ H x y v u Q I rx ry hZ
 obtain⟨l,k,z,e1,e2,h1,h2,h3,q⟩:=hZ
 refine qIB pins s σ H x y v u Q I rx ry ⟨l,k,[z],e1,e2,h1,by lia,by lia,?_,?_⟩
 ·rw[gI,gB]
  lia
 ·rw[q0I]
  exact q.at
theorem vE:zC X (.type "list") (λxs H Q=>∃p ys,xs=[.ref p]∧(SqL X.K H p ys∨SqT X.K H p ys)∧NewO H (.lst ys) Q):=by
 intro pins s σ H xs us Q I r hZ
 obtain⟨p,ys,e,h,q⟩:=hZ
 exact q8E pins s σ H xs us Q I r ⟨p,ys,e,h,q.at⟩
end
noncomputable def qBN:Sp:=λvs H Q _=>∃x,vs=[x]∧Knd H x∧Q (.bl (isW x)) H
noncomputable def inB(x:V)(lo hi:Int):Bool:=match x with
 | .int i=>decide (lo≤i)&&decide (i≤hi)
 |_=>false
noncomputable def qE6:Sp:=λvs H Q _=>∃x lo hi,vs=[x,.int lo,.int hi]∧Knd H x∧Q (.bl (inB x lo hi)) H
noncomputable def qJ0(K:PySem.W.Frag):Sp:=λvs H Q _=>∃a ns k,vs=[.ref a,.int k]∧SqL K H a (ns.map V.int)∧0≤k∧Q (.int (yP ns k)) H
end L2
namespace L2
open PySem
noncomputable def ExO(h:Heap)(e:Addr)(C:Value)(od:Option Addr)(vs:Array Value):Prop:=∃oe,h.get? e=some oe∧oe.cls=C∧oe.dict=od∧oe.data=.fields vs∧1<vs.size
noncomputable def TrO(h:Heap)(e T:Addr)(vs:Array Value)(f:Value):Prop:=vs[1]?=some (.ref T)∧T≠e∧∃oT ts,h.get? T=some oT∧oT.data=.fields ts∧ts[3]?=some f
noncomputable def Air(L:Addr)(h:Heap)(e:Addr)(C:Value)(od:Option Addr):Option Addr→Prop
 |none=>∃vs,ExO h e C od vs∧vs[1]?=some .none
 |some T=>∃vs f,ExO h e C od vs∧TrO h e T vs f∧(f=.none∨f=rawInt L)
noncomputable def Held(f:Value)(h:Heap)(e T:Addr)(C:Value)(od:Option Addr):Prop:=∃vs,ExO h e C od vs∧TrO h e T vs f
structure Chg(fr rs:List Addr)(h h':Heap):Prop where
 keep:∀b o,b∉fr→b∉rs→h.get? b=some o→h'.get? b=some o
 slot:∀b o,b∉rs→h.get? b=some o→∃sl,h'.get? b=some { o with slots:=sl }
 there:∀b o,h.get? b=some o→∃o',h'.get? b=some o'
theorem Chg.refl{fr rs:List Addr}{h:Heap}:Chg fr rs h h:=⟨λ_ _ _ _ e=>e,λ_ o _ e=>⟨o.slots,e⟩,λ_ o e=>⟨o,e⟩⟩
theorem Chg.trans{fr rs:List Addr}{h h1 h2:Heap}(x:Chg fr rs h h1)(y:Chg fr rs h1 h2):Chg fr rs h h2:=
 ⟨λb o f r e=>y.keep b o f r (x.keep b o f r e),λb o r e=>let⟨_,e1⟩:=x.slot b o r e;let⟨sl,e2⟩:=y.slot b _ r e1;⟨sl,e2⟩,
  λb o e=>let⟨_,e1⟩:=x.there b o e;y.there b _ e1⟩
theorem Chg.fresh{fr rs rs':List Addr}{h h1 h2:Heap}(x:Chg fr rs h h1)(y:Chg fr rs' h1 h2)(n:∀b∈rs',b∈rs∨h.get? b=none):Chg fr rs h h2:=by
 have m:∀b o,b∉rs→h.get? b=some o→b∉rs':=λb o r e z=>(n b z).elim r λq=>by rw[q]at e;cases e
 exact⟨λb o f r e=>y.keep b o f (m b o r e) (x.keep b o f r e),λb o r e=>let⟨_,e1⟩:=x.slot b o r e;let⟨sl,e2⟩:=y.slot b _ (m b o r e) e1;⟨sl,e2⟩,
  λb o e=>let⟨_,e1⟩:=x.there b o e;y.there b _ e1⟩
theorem Chg.slots{fr rs:List Addr}{h h':Heap}(x:Heap.SlotsOnly fr h h'):Chg fr rs h h':=
 ⟨λb o f _ e=>(x.2.1 b f).trans e,λb o _ e=>x.2.2 b o e,λb o e=>let⟨sl,q⟩:=x.2.2 b o e;⟨_,q⟩⟩
theorem Chg.upd{fr rs:List Addr}{h:Heap}{a:Addr}{f:Obj→Obj}(ha:a∈rs)(hf:∀o,h.get? a=some o→(f o).isFreed=false):Chg fr rs h (h.update a f):=by
 have k:∀b o,b∉rs→h.get? b=some o→(h.update a f).get? b=some o:=λb o r e=>by
  exact(mZ h f (λ(q:a=b)=>r (q▸ha))).trans e
 refine⟨λb o _ r e=>k b o r e,λb o r e=>⟨o.slots,k b o r e⟩,λb o e=>?_⟩
 by_cases q:b=a
 ·subst q;exact⟨_,wU f e (hf o e)⟩
 ·exact⟨o,by rw[mZ h f (wH q)];exact e⟩
theorem Chg.push{fr rs:List Addr}{h:Heap}{o:Obj}:Chg fr rs h (h.push o):=
 ⟨λb u _ _ e=>kF _ e,λb u _ e=>⟨u.slots,kF _ e⟩,λb u e=>⟨u,kF _ e⟩⟩
theorem qCY(o:Obj)(f:Array Value→Array Value):(o.mapFields f).dict=o.dict:=by
 obtain⟨c,d,dt,sl⟩:=o
 cases dt<;>rfl
theorem ExO.set{h:Heap}{e:Addr}{C:Value}{od:Option Addr}{vs:Array Value}(x:ExO h e C od vs)(i:Nat)(v:Value):ExO (h.update e (Obj.mapFields (·.setIfInBounds i v))) e C od (vs.setIfInBounds i v):=by
 obtain⟨oe,h1,h2,h3,h4,h5⟩:=x
 have hd:=cS h4 (·.setIfInBounds i v)
 exact⟨_,wU _ h1 (rX hd),(Obj.cls_mapFields _ _).trans h2,(qCY _ _).trans h3,hd,by simpa using h5⟩
theorem ExO.of{h h':Heap}{e:Addr}{C:Value}{od:Option Addr}{vs:Array Value}(x:ExO h e C od vs)(k:∀o,h.get? e=some o→h'.get? e=some o):ExO h' e C od vs:=
 let⟨oe,h1,r⟩:=x;⟨oe,k _ h1,r⟩
section
variable{M:Model}{A:Around}{E:Value→Shared→Prop}{s:Shared}{env:Env}{outer:List Env}{L e T:Addr}{C:Value}{od:Option Addr}{base:Heap}
theorem ExO.nofr{h:Heap}{l:List Env}{vs:Array Value}(x:ExO h e C od vs)(hl:h.FunFrames base l):e∉l.filterMap (·.frame):=λhm=>by
 obtain⟨_,o,ho,hn⟩:=hl.mem hm
 obtain⟨oe,h1,_,_,h4,_⟩:=x
 rw[h1]at ho
 cases ho
 exact hn _ h4
theorem q9O{head:Value}{hn:Bool}{vs:Array Value}{Q:Unit→Shared→Prop}(hfr:A.frames=some (env::outer))(hl:s.heap.FunFrames base (env::outer))(hf:env.frame=some L)(x:ExO s.heap e C od vs)
 (q:∀h' T,Chg ((env::outer).filterMap (·.frame)) [e] s.heap h'→Held (rawInt L) h' e T C od→s.heap.objs.size≤T→Q () { s with heap:=h' }):
 wpAny M A (do let a←frameOf env;let pl←entryPlaceOf L hn;let b←EntryCells.newEntry head a .none (rawInt L) .none pl;setField (.ref e) 1 b) Q E s:=by
 have ne:=x.nofr hl
 refine kL (wpAny_frameOf_fun hfr hl hf λh1 so=>kL (wpAny_entryPlaceOf λpl hp=>?_))
 unfold EntryCells.newEntry newFields
 refine kL (xH ?_ (hp.sizeOk5 _ _ _ _ _))
 have x1:ExO h1 e C od vs:=x.of λo z=>(so.2.1 e ne).trans z
 have x2:=x1.of (h':=h1.push _) λo z=>kF { cls:=.type "traceback",dict:=none,data:=.fields ([head,.ref L,.none,rawInt L,.none]++(if pl.isEmpty then List.replicate 6 Value.none else pl)).toArray } z
 obtain⟨oe,a1,a2,a3,a4,a5⟩:=id x2
 refine lD a1 a4 a5 ?_
 have hlt:e<h1.objs.size:=let⟨_,z,_⟩:=x1;kY z
 have fresh:s.heap.objs.size≤h1.objs.size:=cX so.1.symm
 refine q _ h1.objs.size (((Chg.slots so).trans Chg.push).trans (Chg.upd (kE.mpr rfl) λo z=>?_)) ⟨_,x2.set 1 _,?_,d9 hlt,{ cls:=.type "traceback",dict:=none,data:=.fields ([head,.ref L,.none,rawInt L,.none]++(if pl.isEmpty then List.replicate 6 Value.none else pl)).toArray },_,?_,rfl,?_⟩ fresh
 ·rw[a1]at z
  cases z
  exact rX (cS a4 _)
 ·simp[a5]
 ·rw[mZ _ _ (m9 hlt)]
  exact mP h1 rfl
 ·first|(simp;done)|(rcases hp with rfl|⟨_,_,_,_,_,_,_,rfl⟩<;>simp)
theorem qBO{tr:Option Addr}{Q:Unit→Shared→Prop}(hfr:A.frames=some (env::outer))(hl:s.heap.FunFrames base (env::outer))(hf:env.frame=some L)(x:Air L s.heap e C od tr)
 (q:∀h' T,Chg ((env::outer).filterMap (·.frame)) (e::tr.toList) s.heap h'→Held (rawInt L) h' e T C od→(T∈tr∨s.heap.objs.size≤T)→Q () { s with heap:=h' }):
 wpAny M A (noteFrame (.ref e) env) Q E s:=by
 unfold noteFrame
 simp only[hf]
 cases tr with
 |none=>
  obtain⟨vs,x,h1⟩:=x
  obtain⟨oe,a1,a2,a3,a4,a5⟩:=id x
  refine kL (sI a1 a4 h1 ?_)
  rw[kB (by decide)]
  exact q9O hfr hl hf x λh' T c hd n=>q h' T c hd (.inr n)
 |some T=>
  obtain⟨vs,f,x,⟨t1,t2,oT,ts,t3,t4,t5⟩,hfl⟩:=x
  obtain⟨oe,a1,a2,a3,a4,a5⟩:=id x
  refine kL (sI a1 a4 t1 ?_)
  rw[kD (by simp)]
  refine kL (sI t3 t4 t5 ?_)
  rcases hfl with rfl|rfl
  ·rw[kB (by simp[rawInt])]
   refine kL (lD t3 t4 (p8.mp t5).1 ?_)
   have k:∀b o,b≠T→s.heap.get? b=some o→(s.heap.update T (Obj.mapFields (·.setIfInBounds 3 Value.none))).get? b=some o:=λb o n z=>(mZ _ _ (wH n)).trans z
   have hl2:(s.heap.update T (Obj.mapFields (·.setIfInBounds 3 Value.none))).FunFrames base (env::outer):=hl.of_keeps λb o z nf=>⟨o,k b o (λw=>by subst w;rw[t3]at z;cases z;exact nf _ t4) z,rfl⟩
   refine q9O (s:={ s with heap:=s.heap.update T (Obj.mapFields (·.setIfInBounds 3 Value.none)) }) hfr hl2 hf (x.of λo z=>k e o (wH t2) z) λh' T' c hd n=>q h' T' ?_ hd ?_
   ·refine(Chg.upd (a:=T) (by simp) λo z=>?_).fresh c λb hb=>.inl ?_
    ·rw[t3]at z
     cases z
     exact rX (cS t4 _)
    ·rw[kE.mp hb]
     exact kU
   ·exact .inr (kO (cX (Heap.size_after_update ..).symm) n)
  ·rw[kD (by simp)]
   exact mO (q _ T .refl ⟨vs,x,t1,t2,oT,ts,t3,t4,t5⟩ (.inl rfl))
theorem q2X{f:Value}{fr:Option Addr}{Q:Unit→Shared→Prop}(x:Held f s.heap e T C od)
 (q:∀h',Chg [] [T] s.heap h'→Held (fr.elim .none λf=>rawInt f) h' e T C od→Q () { s with heap:=h' }):wpAny M A (setFlight (.ref e) fr) Q E s:=by
 obtain⟨vs,x,t1,t2,oT,ts,t3,t4,t5⟩:=x
 obtain⟨oe,a1,a2,a3,a4,a5⟩:=id x
 have hz:=(p8.mp t5).1
 unfold setFlight
 refine kL (sI a1 a4 t1 ?_)
 rw[kD (by simp)]
 have hd:=cS t4 (·.setIfInBounds 3 (fr.elim .none λf=>rawInt f))
 refine lD t3 t4 hz (q _ (Chg.upd (by simp) λo z=>?_) ⟨vs,x.of λo z=>?_,t1,t2,_,_,wU _ t3 (rX hd),hd,by simp[hz]⟩)
 ·rw[t3]at z
  cases z
  exact rX hd
 ·exact(mZ _ _ t2).trans z
theorem Held.air{f:Value}{h:Heap}(x:Held f h e T C od)(hf:f=.none∨f=rawInt L):Air L h e C od (some T):=let⟨vs,a,b⟩:=x;⟨vs,f,a,b,hf⟩
theorem qE7{tr:Option Addr}{Q:Unit→Shared→Prop}(hfr:A.frames=some (env::outer))(hl:s.heap.FunFrames base (env::outer))(hf:env.frame=some L)(x:Air L s.heap e C od tr)
 (q:∀h' T,Chg ((env::outer).filterMap (·.frame)) (e::tr.toList) s.heap h'→Held .none h' e T C od→(T∈tr∨s.heap.objs.size≤T)→Q () { s with heap:=h' }):wpAny M A (leaving env (.ref e)) Q E s:=by
 unfold leaving
 refine kL (qBO hfr hl hf x λh' T c hd n=>q2X hd λh2 c2 hd2=>q h2 T ?_ hd2 n)
 refine c.fresh (rs':=[T]) ⟨λb o _ r z=>c2.keep b o (by simp) r z,c2.slot,c2.there⟩ λb hb=>?_
 rw[kE.mp hb]
 exact n.imp (λz=>hU _ (by cases tr with|none=>cases z|some t=>cases z;exact kE.mpr rfl)) cA
end
end L2
namespace L2
open PySem PySem.Spec PyProof.Rows
section
variable{P:Program}{w:World}{H:Hp}{h h':Heap}{a:Addr}{o:HO}
theorem jF.there(x:jF P w H h a o):∃ob,h.get? a=some ob:=by
 cases o with
 |lst xs=>obtain⟨_,_,_,_,e⟩:=x;exact⟨_,e⟩
 |tup xs=>obtain⟨_,_,_,_,e,_⟩:=x;exact⟨_,e⟩
 |dK kvs=>obtain⟨_,_,_,_,o,_,_,e,_⟩:=x;exact⟨_,e⟩
 |dT kvs=>obtain⟨_,_,_,_,o,_,_,e,_⟩:=x;exact⟨_,e⟩
 |set S n=>obtain⟨o,_,_,_,e,_⟩:=x;exact⟨_,e⟩
 |ins C dx fs=>obtain⟨_,_,_,e,_⟩:=x;exact⟨_,e⟩
 |own y=>exact x
 |xd fs=>obtain⟨_,⟨_,_,_,e,_⟩,_⟩:=x;exact⟨_,e⟩
 |rng lo hi=>obtain⟨_,_,_,e⟩:=x;exact⟨_,e⟩
 |frz ob u=>exact⟨_,x.1⟩
 |tbl ps=>exact⟨_,show h.get? a=some _ from x⟩
 |met f y=>exact⟨_,show h.get? a=some _ from x⟩
 |ext φ=>exact x.2.1
theorem HOk.free(x:HOk P w H h)(e:h.get? a=none):H a=none:=by
 cases q:H a with
 |none=>rfl
 |some o=>
  obtain⟨_,z⟩:=(x a o q).there
  rw[e]at z
  cases z
theorem HOk.chg{fr rs:List Addr}(x:HOk P w H h)(c:Chg fr rs h h')(hf:∀b∈fr,H b=none)(hr:∀b∈rs,H b=none):HOk P w H h':=by
 intro a o e
 refine(x a o e).stay (λb u hb z=>?_) (λ_ q=>q) λ_ _ q=>q
 have n:H b≠none:=by
  rcases hb with rfl|q
  ·rw[e];intro y;cases y
  ·rw[q];intro y;cases y
 exact c.keep b u (λm=>n (hf b m)) (λm=>n (hr b m)) z
end
noncomputable def Recs(h:Heap)(rs:List Addr):Prop:=∀b∈rs,∃o vs,h.get? b=some o∧o.data=.fields vs
theorem Air.recs{L e:Addr}{h:Heap}{C:Value}{od tr:Option Addr}(x:Air L h e C od tr):Recs h (e::tr.toList):=by
 intro b hb
 cases tr with
 |none=>
  obtain⟨vs,⟨oe,a1,_,_,a4,_⟩,_⟩:=x
  have e':b=e:=by simpa using hb
  subst e'
  exact⟨_,_,a1,a4⟩
 |some T=>
  obtain⟨vs,f,⟨oe,a1,_,_,a4,_⟩,⟨_,_,oT,ts,t3,t4,_⟩,_⟩:=x
  have e':b=e∨b=T:=by simpa using hb
  rcases e' with rfl|rfl
  ·exact⟨_,_,a1,a4⟩
  ·exact⟨_,_,t3,t4⟩
noncomputable def Ours(X:Cx)(pins:List (Addr×Obj))(H:Hp)(rs:List Addr):Prop:=∀b∈rs,(X.s₀.heap.get? b=none∨b∈X.ex)∧H b=none∧∀p∈X.pn++pins,p.1≠b
section
variable{X:Cx}{pins:List (Addr×Obj)}{σ:St}{H:Hp}{s:Shared}{h':Heap}{rs:List Addr}
theorem Inv.chg{t':Nat}(I:Inv X pins σ H s)(c:Chg (frs X.stack) rs s.heap h')(o:Ours X pins H rs)(rc:Recs s.heap rs):Inv X pins σ H { s with heap:=h',toks:=t' }:=by
 obtain⟨m,hn,hv⟩:=I.loc
 have nl:X.env.locals∉rs:=λz=>by
  obtain⟨ob,vs,e,d⟩:=rc _ z
  obtain⟨o',es,ep,ho,hd,_⟩:=hn
  rw[e]at ho
  cases ho
  rw[d]at hd
  cases hd
 have nc:∀c v,s.heap.IsCell c v→c∉rs:=λc v q z=>by
  obtain⟨ob,vs,e,d⟩:=rc _ z
  obtain⟨o',ho,hd⟩:=q
  rw[e]at ho
  cases ho
  rw[d]at hd
  cases hd
 have cellk:∀c v,s.heap.IsCell c v→h'.IsCell c v:=λa v q=>by
  have n:=nc a v q
  obtain⟨o',ho,hd⟩:=q
  obtain⟨sl,z⟩:=c.slot a o' n ho
  exact⟨_,z,hd⟩
 have old:∀b ob,X.s₀.heap.get? b=some ob→b∉X.ex→b∉rs:=λb ob q ne z=>by
  rcases(o b z).1 with y|y
  ·rw[q]at y;cases y
  ·exact ne y
 have ns':h'.Ns X.env.locals m:=by
  obtain⟨o',es,ep,ho,r⟩:=hn
  obtain⟨sl,z⟩:=c.slot _ o' nl ho
  exact⟨_,es,ep,z,r⟩
 refine⟨I.ok,I.os,I.bare,⟨λb ob q n nf ne=>?_,λb ob q n hf ne=>?_,I.base.free,λb ob q ne=>?_,I.base.tups,I.base.frzs,I.base.tbls⟩,
  ⟨m,ns',λi x v e1 e2 e3=>?_⟩,λx a e=>?_,I.free,I.freeC,λp hp=>?_,I.hok.chg c I.stkFree λb hb=>(o b hb).2.1,I.len⟩
 ·refine c.keep b ob (λz=>?_) (old b ob q ne) (I.base.keep b ob q n nf ne)
  rcases kI.mp (I.stkSub b z)with rfl|y
  ·exact absurd (kY q) (pH.mpr I.ok.above)
  ·exact nf y
 ·obtain⟨sl,z⟩:=I.base.slot b ob q n hf ne
  obtain⟨sl',z'⟩:=c.slot b _ (old b ob q ne) z
  exact⟨sl',z'⟩
 ·obtain⟨o',z⟩:=I.base.there b ob q ne
  exact c.there b o' z
 ·obtain⟨u,r,lk⟩:=hv i x v e1 e2 e3
  refine⟨u,r,lk.imp id λ⟨k,cc,l,q⟩=>⟨k,cc,l,cellk _ _ q⟩⟩
 ·obtain⟨v,q⟩:=I.cell x a e
  exact⟨v,cellk _ _ q⟩
 ·obtain⟨p1,p2,p3,p4,p5⟩:=I.pin p hp
  refine⟨c.keep _ _ (λz=>?_) (λz=>(o _ z).2.2 p hp rfl) p1,p2,p3,p4,p5⟩
  rcases kI.mp (I.stkSub _ z)with y|y
  ·exact p3 y
  ·exact p4 y
end
noncomputable def CXe(P:Program)(w:World):CXT:=λouter H s E e s'=>∃ea T C od H',e=.ref ea∧s'.os=s.os∧AllBare s'.gens∧Un (frs outer) [] H H' s.heap s'.heap∧HOk P w H' s'.heap∧
 Held .none s'.heap ea T C od∧(s.heap.get? ea=none∧s.heap.get? T=none)∧(H' ea=none∧H' T=none)∧E C od H'
noncomputable def q3D(X:Cx)(ES:St→XK):Prop:=∀(pins:List (Addr×Obj)) (σ:St) (H:Hp) (s:Shared) (ea:Addr) (tr:Option Addr) (C:Value) (od:Option Addr),
 Inv X pins σ H s→Air X.env.locals s.heap ea C od tr→Ours X pins H (ea::tr.toList)→ES σ C od H→X.xe (.ref ea) s
noncomputable def qG3(CX:CXT)(X:Cx)(ES:St→XK):Prop:=∀(pins:List (Addr×Obj)) (σ:St) (H:Hp) (s:Shared) (e:Value) (s':Shared),Inv X pins σ H s→CX X.stack H s (ES σ) e s'→X.xe e s'
theorem q3D.passes{X:Cx}{ES:St→XK}(t:q3D X ES):qG3 (CXe X.prog X.w) X ES:=by
 intro pins σ H s e s' I hZ
 obtain⟨ea,T,C,od,H',e1,ho,hg,u,hok,hd,⟨f1,f2⟩,⟨g1,g2⟩,q⟩:=hZ
 subst e1
 refine t pins σ H' s' ea (some T) C od (I.call' ho u hok hg λb hb=>by cases hb) (hd.air (.inl rfl)) (λb hb=>?_) q
 have key:∀b,s.heap.get? b=none→H' b=none→(X.s₀.heap.get? b=none∨b∈X.ex)∧H' b=none∧∀p∈X.pn++pins,p.1≠b:=λb f g=>by
  refine⟨?_,g,λp hp z=>?_⟩
  ·by_cases y:b∈X.ex
   ·exact .inr y
   ·refine .inl ?_
    cases z:X.s₀.heap.get? b with
    |none=>rfl
    |some ob=>
     obtain⟨o',z'⟩:=I.base.there b ob z y
     rw[f]at z'
     cases z'
  ·have y:=(I.pin p hp).1
   rw[z,f]at y
   cases y
 have e':b=ea∨b=T:=by simpa using hb
 rcases e' with rfl|rfl
 ·exact key _ f1 g1
 ·exact key _ f2 g2
theorem jH{P:Program}{w:World}{K:PySem.W.Frag}{mg:Str→Option Value}{base:Heap}{N:List Str}{qual:Str}{scope:Scope}{f:Addr}{cd:Value}{A:Around}{outer:List Env}{s:Shared}{H:Hp}{E:XK}:
 q3D (cxOf (CXe P w) P w K mg base N qual scope f cd A outer s H E) (λ_=>E):=by
 intro pins σ H' s' ea tr C od I air ours q
 refine qE7 (base:=base) I.ok.frames I.stack rfl air λh' T c hd n=>?_
 have I2:=I.chg (t':=s'.toks) c ours air.recs
 have out:∀b,s'.heap.objs.size≤b→s.heap.get? b=none:=λb z=>by
  cases y:s.heap.get? b with
  |none=>rfl
  |some ob=>
   obtain⟨o',y'⟩:=I.base.there b ob y (by intro m;cases m)
   exact absurd (kY y') (pH.mpr z)
 have own:∀b,b∈ea::tr.toList→s.heap.get? b=none∧H' b=none:=λb hb=>⟨(ours b hb).1.elim id (λz=>by cases z),(ours b hb).2.1⟩
 have hT:s.heap.get? T=none∧H' T=none:=by
  rcases n with z|z
  ·exact own T (hU _ (by cases tr with|none=>cases z|some t=>cases z;exact kE.mpr rfl))
  ·exact⟨out T z,I.hok.fresh z⟩
 exact⟨ea,T,C,od,H',rfl,I.os,I.bare,I2.base,I2.hok,hd,⟨(own ea (kU)).1,hT.1⟩,⟨(own ea (kU)).2,hT.2⟩,q⟩
noncomputable def qAV(C:Addr)(m:Str)(sp:Sp)(dvs:List V)(ES:St→XK)(ta:TE)(t:TA):TE:=λσ H Q=>ta σ H λx H1=>∃a dx fs,x=.ref a∧H1 a=some (.ins C dx fs)∧fs.lookup m=none∧
 t σ H1 λvs H2=>sp (x::(vs++dvs)) H2 Q (ES σ)
theorem vI{X:Cx}:q3D X (λ_ _ _ _=>False):=λ_ _ _ _ _ _ _ _ _ _ _ h=>h.elim
section
variable{X:Cx}{k:Nat}{f C:Addr}{fd:FuncData}{ps:List Str}{sp:Sp}{dvs:List V}{ds:List Value}{E:XK}{ES:St→XK}{x m:Str}{p pos apos:Pos}{e o:Expr}{es:List Expr}{ta:TE}{t:TA}
theorem qBP{pins:List (Addr×Obj)}{σ:St}{H:Hp}{s:Shared}{Q:VK}{us:List Value}{vs:List V}(F:FnOk X.prog X.w X.K X.mg X.base (CXe X.prog X.w) k f fd ps sp)(hr:Room k X.A)(hb:yN X.K fd ps ds)(hd:Vals dvs ds)(tk:q3D X ES)
 (I:Inv X pins σ H s) (r:Vals vs us) (h:sp (vs++dvs) H Q (ES σ)):wpAny (model X.prog X.w) X.A (call (.ref f) us) (EP X pins σ Q) X.xe s:=by
 have r2:Vals (vs++dvs) (us++ds):=r.append hd
 have hl:(us++ds).length=ps.length:=by rw[←r2.length];exact F.len _ _ _ _ h
 refine pG (cZ (F.run X.A X.stack s H ⟨us,[]⟩ (us++ds) (vs++dvs) Q (ES σ) hr I.env0 (hb s us I.kIn hl) r2 h) λr s' hq=>?_)
 cases r with
 |error e=>exact tk.passes pins σ H s e s' I hq
 |ok fl=>
  cases fl with
  |ret u=>exact I.after hq
  |next=>exact False.elim hq
  |brk=>exact False.elim hq
  |cont=>exact False.elim hq
theorem jW{pl:Sem Bool}(tk:q3D X ES)(he:PE X o ta)(c:Cls X.K C)(hm:Meth X.K C m f)(F:FnOk X.prog X.w X.K X.mg X.base (CXe X.prog X.w) k f fd ps sp)(hr:Room k X.A)(hb:yN X.K fd ps ds)(hd:Vals dvs ds)(ha:PA X (e::es) t)
 (hst:starEach (e::es) X.env=(false,eval e X.env)::starEach es X.env:=by rfl) (hpl:(backTo pos (starEach es X.env)).any (·.1)=false:=by rfl)
 (ht:eval (.Call (.Attribute o m apos) (e::es) [] pos) X.env=(do
  let ov←eval o X.env
  standAt apos.atName
  let(f,first)←holding [ov] (getMethod ov m pl)
  callWith pos f first (backTo pos (starEach (e::es) X.env)) (backToKw pos (keywordEach [] X.env))):=by rfl):
 PE X (.Call (.Attribute o m apos) (e::es) [] pos) (qAV C m sp dvs ES ta t):=by
 intro pins s σ H Q I h
 refine rW (pl:=pl) (thn (he pins s σ H _ I h) λu s1 hZ=>?_) ht
 obtain⟨x,H1,I1,rx,a,dx,fs,ex,ea,l,q⟩:=hZ
 subst ex
 obtain rfl:u=Value.ref a:=rx
 refine q13 I1 ea c hm l ?_
 refine wO (first:=[.ref a]) (h₀:=X.base) I.ok.mod.kin hm.kp (thn (ha pos pins s1 σ H1 _ I1 q) λus s2 ⟨vs,H2,I2,r,q2⟩=>⟨I2.kIn,?_⟩) hst hpl
 exact qBP (us:=.ref a::us) (vs:=.ref a::vs) F hr hb hd tk I2 (.cons rfl r) q2
theorem uS{pl:Sem Bool}(tk:q3D X ES)(he:PE X o ta)(c:Cls X.K C)(hm:Meth X.K C m f)(F:FnOk X.prog X.w X.K X.mg X.base (CXe X.prog X.w) k f fd ps sp)(hr:Room k X.A)(hb:yN X.K fd ps ds)(hd:Vals dvs ds)
 (ht:eval (.Call (.Attribute o m apos) [] [] pos) X.env=(do
  let ov←eval o X.env
  standAt apos.atName
  let(f,first)←holding [ov] (getMethod ov m pl)
  callWith pos f first (backTo pos (starEach [] X.env)) (backToKw pos (keywordEach [] X.env))):=by rfl):
 PE X (.Call (.Attribute o m apos) [] [] pos) (qAV C m sp dvs ES ta tNil):=by
 intro pins s σ H Q I h
 refine rW (pl:=pl) (thn (he pins s σ H _ I h) λu s1 hZ=>?_) ht
 obtain⟨x,H1,I1,rx,a,dx,fs,ex,ea,l,q⟩:=hZ
 subst ex
 obtain rfl:u=Value.ref a:=rx
 refine q13 I1 ea c hm l ?_
 exact pR (first:=[.ref a]) I1.kIn hm.kp (qBP (us:=[.ref a]) (vs:=[.ref a]) F hr hb hd tk I1 (.cons rfl .nil) q)
end
structure FunD(K:PySem.W.Frag)(x qual:Str)(st:Stmt)(dV:Value)(f:Addr)(fd:FuncData):Prop where
 ex:∃(oc:Value) (od:Option Addr) (kV doc pm:Value) (an:Option Addr) (cdv ct:Value) (osl:Array (Option Value)),
  fd=PySem.W.fnOf x qual (yR st) (yG st) (qG st) dV kV doc pm an cdv ct∧K.lookup f=some ⟨oc,od,.func fd,osl⟩∧PySem.W.codeIn K cdv qual=true
section
variable{P:Program}{w:World}{K:PySem.W.Frag}{mg:Str→Option Value}{base:Heap}{dV:Value}
theorem FunD.mk'{x qual:Str}{st:Stmt}{f:Addr}{oc:Value}{od an:Option Addr}{osl:Array (Option Value)}{kV doc pm cdv ct:Value}(l:K.lookup f=some ⟨oc,od,.func (PySem.W.fnOf x qual (yR st) (yG st) (qG st) dV kV doc pm an cdv ct),osl⟩)
 (c:PySem.W.codeIn K cdv qual=true):FunD K x qual st dV f (PySem.W.fnOf x qual (yR st) (yG st) (qG st) dV kV doc pm an cdv ct):=⟨⟨oc,od,kV,doc,pm,an,cdv,ct,osl,rfl,l,c⟩⟩
theorem FunD.okE{x qual:Str}{st:Stmt}{f:Addr}{fd:FuncData}{N ps:List Str}{k:Nat}{sp:Sp}(F:FunD K x qual st dV f fd)(S:FnScope N ps (qG st))(len:∀vs H Q E,sp vs H Q E→vs.length=ps.length)
 (hbody:∀(cdv:Value) (A:Around) (outer:List Env) (s:Shared) (H:Hp) (vs:List V) (Q:VK) (E:XK),Room k (A.deeper (envOfC qual (qG st) s.heap.objs.size f cdv))→sp vs H Q E→
  ∃t,PSs (cxOf (CXe P w) P w K mg base N qual (qG st) f cdv A outer s H E) (yG st) t∧t { nx:=λ_ H'=>Q .non H',rt:=Q } (q3A N vs) H):FnOk P w K mg base (CXe P w) (k+1) f fd ps sp:=by
 obtain⟨oc,od,kV,doc,pm,an,cdv,ct,osl,rfl,lk,hcd⟩:=F.ex
 exact qDR lk hcd S len λA outer s H vs Q E hr hsp=>hbody cdv A outer s H vs Q E hr hsp
theorem FunD.ok0{x qual:Str}{st:Stmt}{f:Addr}{fd:FuncData}{N ps:List Str}{k:Nat}{sp:Sp}(F:FunD K x qual st dV f fd)(S:FnScope N ps (qG st))
 (hbody:∀(cdv:Value) (A:Around) (outer:List Env) (s:Shared) (H:Hp) (vs:List V) (Q:VK) (E:XK),Room k (A.deeper (envOfC qual (qG st) s.heap.objs.size f cdv))→sp vs H Q E→
  ∃t,PSs (cxOf CX0 P w K mg base N qual (qG st) f cdv A outer s H E).nox (yG st) t∧t { nx:=λ_ H'=>Q .non H',rt:=Q } (q3A N vs) H)(len:∀vs H Q E,sp vs H Q E→vs.length=ps.length:=by intro _ _ _ _ h;(repeat obtain⟨_,h⟩:=h);all_goals subst_vars;rfl):FnOk P w K mg base CX0 (k+1) f fd ps sp:=by
 obtain⟨oc,od,kV,doc,pm,an,cdv,ct,osl,rfl,lk,hcd⟩:=F.ex
 refine qDR lk hcd S len λA outer s H vs Q E hr hsp=>?_
 obtain⟨t,h,q⟩:=hbody cdv A outer s H vs Q E hr hsp
 exact⟨t,h.nox,q⟩
end
noncomputable abbrev bmVE:List Value:=[.type "ValueError",.type "Exception",.type "BaseException",.type "object"]
noncomputable abbrev XCls(K:PySem.W.Frag)(C:Addr):Prop:=PySem.W.excIn K C bmVE "ValueError.__new__"=true
theorem qG4{K:PySem.W.Frag}{C:Addr}(q:XCls K C):∃bm N nm qn bs hd sn sub ab col dd k0 k1 k2 k3 k5,K.lookup C=some (excClassObj nm qn C N bs bm hd sn sub ab col dd k0 k1 k2 k3 k5 "ValueError.__new__")∧
 PySem.W.tailIn K bmVE bm=true∧PySem.W.nsOkIn K N=true∧PySem.W.nsIn K N "__init__"=some none:=by
 unfold XCls PySem.W.excIn at q
 split at q
 ·rename_i dd cd sl ho
  split at q
  ·rename_i C' bm k0 k1 k2 k3 n k5 hm hs
   obtain⟨nm,bs,mro,ns,qn,hd,sn,sub,ab,col,del⟩:=cd
   obtain⟨l⟩:=sl
   simp only[mU,wF,rD]at q hm hs
   obtain⟨⟨⟨⟨⟨e1,e2⟩,e3⟩,e4⟩,e5⟩,e6⟩:=q
   subst e1 e2 e3 hm hs
   exact⟨bm,ns,nm,qn,bs,hd,sn,sub,ab,col,dd,k0,k1,k2,k3,k5,ho,e4,e5,e6⟩
  ·cases q
 ·cases q
noncomputable def qJ1(ES:St→XK)(C:Addr)(t:TA):TS:=λ_ σ H=>t σ H λvs H1=>vs.length≤sizeLine∧ES σ (.ref C) none H1
section
variable{X:Cx}{ES:St→XK}{C:Addr}{x:Str}{np cpos pos:Pos}{e:Expr}{es:List Expr}{t:TA}
theorem qE8{pins:List (Addr×Obj)}{σ:St}{H:Hp}{s:Shared}{h':Heap}{ea:Addr}{C:Value}{vs:List Value}(I:Inv X pins σ H s)(m:Heap.MadeExcOf s.heap h' ea C vs):
 Air X.env.locals h' ea C none none∧Ours X pins H [ea]:=by
 obtain⟨t,m1,m2,m3⟩:=m.there
 refine⟨⟨_,⟨_,m1,rfl,rfl,rfl,by simp⟩,rfl⟩,λb hb=>?_⟩
 rw[kE.mp hb]
 refine⟨?_,I.hok.free m.new,λp hp z=>?_⟩
 ·by_cases y:ea∈X.ex
  ·exact .inr y
  ·refine .inl ?_
   cases z:X.s₀.heap.get? ea with
   |none=>rfl
   |some ob=>
    obtain⟨o',z'⟩:=I.base.there ea ob z y
    rw[m.new]at z'
    cases z'
 ·have y:=(I.pin p hp).1
  rw[z,m.new]at y
  cases y
theorem q9P(tk:q3D X ES)(hc:X.calm=true)(hg:Gl X x)(hm:X.mg x=some (.ref C))(hx:XCls X.K C)(ha:PA X (e::es) t)(hdb:(x==("__debug__":Str))=false:=by decide)
 (he:starEach (e::es) X.env=(false,eval e X.env)::starEach es X.env:=by rfl) (hpl:(backTo cpos (starEach es X.env)).any (·.1)=false:=by rfl):
 PS X (.Raise (some (.Call (.Name x np) (e::es) [] cpos)) none pos) (qJ1 ES C t):=by
 intro pins s σ H D I hq
 obtain⟨bm,N,nm,qn,bs,hd,sn,sub,ab,col,dd,k0,k1,k2,k3,k5,lk,tl,ok,ni⟩:=qG4 hx
 have kb:=I.mod.kin
 have T0:=PySem.W.tail_of_in kb tl
 have hN:X.base.Ns N (X.base.nsMap N):=.of_isNs (PySem.W.isNs_of_in kb ok)
 have hni:=PySem.W.nsMap_none_of_in kb ok ni
 have hplain:(backTo cpos (starEach (e::es) X.env)).any (·.1)=false:=by
  rw[he]
  show(false||(backTo cpos (starEach es X.env)).any (·.1))=false
  rw[hpl]
  rfl
 refine wpAny_Raise_call_subT (C:=C) (nm:=nm) (q:=qn) (N:=N) (bs:=bs) (bm:=bm) (hdct:=hd) (sn:=sn) (sub:=sub) (ab:=ab) (col:=col) (dd:=dd) (k0:=k0) (k1:=k1) (k2:=k2) (k3:=k3) (k5:=k5) (mN:=X.base.nsMap N)
  PySem.F.excBase_ValueError (T0.hasType (by decide)) (I.ok.hd hc) hplain hni (q2V I hg hm ⟨rfl,?_⟩ hdb)
 have h0:=ha cpos pins s σ H _ I hq
 rw[he]at h0 ⊢
 refine PySem.Calls.evalArgs_plain (dP h0 (λus s1 h1=>?_) λ_ _ y=>y)
 obtain⟨vs,H1,I1,r,hz,hE⟩:=h1
 refine⟨rfl,by rw[←r.length];exact hz,I1.bk _ _ (kb _ _ lk),?_,T0.keeps I1.bk,λh' ea m=>?_⟩
 ·obtain⟨o',es',ep',z,rr⟩:=hN
  exact⟨o',es',ep',I1.bk _ _ z,rr⟩
 ·obtain⟨air,ours⟩:=qE8 I1 m
  refine tk pins σ H1 { s1 with heap:=h' } ea none (.ref C) none (I1.kept (t':=s1.toks) m.keeps) air ours hE
end
noncomputable abbrev Cx.tr(X:Cx)(pins:List (Addr×Obj))(XE:Value→Shared→Prop):Cx:={ X with pn:=X.pn++pins,xe:=XE }
noncomputable abbrev Cx.sui(X:Cx)(e:Addr):Cx:={ X with A:=X.A.mark (some (.ref e)),calm:=false,xe:=λ_ _=>False }
theorem Chg.mono{fr fr' rs rs':List Addr}{h h':Heap}(c:Chg fr rs h h')(f:∀b∈fr,b∈fr')(r:∀b∈rs,b∈rs'):Chg fr' rs' h h':=
 ⟨λb o a z e=>c.keep b o (λy=>a (f b y)) (λy=>z (r b y)) e,λb o z e=>c.slot b o (λy=>z (r b y)) e,c.there⟩
theorem Held.recs{f:Value}{e T:Addr}{h:Heap}{C:Value}{od:Option Addr}(x:Held f h e T C od):Recs h [e,T]:=by
 obtain⟨vs,⟨oe,a1,_,_,a4,_⟩,_,_,oT,ts,t3,t4,_⟩:=x
 intro b hb
 have e':b=e∨b=T:=by simpa using hb
 rcases e' with rfl|rfl
 ·exact⟨_,_,a1,a4⟩
 ·exact⟨_,_,t3,t4⟩
section
variable{X:Cx}{pins:List (Addr×Obj)}{σ:St}{H:Hp}{s:Shared}{XE:Value→Shared→Prop}
theorem Inv.tr(I:Inv X pins σ H s)(XE:Value→Shared→Prop):Inv (X.tr pins XE) [] σ H s:=
 have ok:=I.ok
 ⟨⟨ok.mod,ok.kind,ok.glob,ok.blt,ok.above,ok.inj,ok.has,ok.cab,ok.hd,ok.frames,ok.stk,ok.exf,ok.bs,ok.bsz,ok.noex,ok.exfs,ok.funs,ok.frf⟩,I.os,I.bare,I.base,I.loc,I.cell,I.free,I.freeC,λp hp=>I.pin p (by simpa using hp),I.hok,I.len⟩
theorem Inv.untr{ps:List (Addr×Obj)}(I:Inv (X.tr pins XE) ps σ H s):Inv X pins σ H s:=
 have ok:=I.ok
 ⟨⟨ok.mod,ok.kind,ok.glob,ok.blt,ok.above,ok.inj,ok.has,ok.cab,ok.hd,ok.frames,ok.stk,ok.exf,ok.bs,ok.bsz,ok.noex,ok.exfs,ok.funs,ok.frf⟩,I.os,I.bare,I.base,I.loc,I.cell,I.free,I.freeC,λp hp=>I.pin p (g8 _ hp),I.hok,I.len⟩
theorem Inv.sui(I:Inv X pins σ H s)(e:Addr):Inv (X.sui e) pins σ H s:=
 have ok:=I.ok
 ⟨⟨ok.mod,ok.kind,ok.glob,ok.blt,ok.above,ok.inj,ok.has,ok.cab,(λz=>by cases z),ok.frames,ok.stk,ok.exf,ok.bs,ok.bsz,ok.noex,ok.exfs,ok.funs,ok.frf⟩,I.os,I.bare,I.base,I.loc,I.cell,I.free,I.freeC,I.pin,I.hok,I.len⟩
theorem Inv.unsui{e:Addr}(hc:X.calm=true→X.A.handled=none)(I:Inv (X.sui e) pins σ H s):Inv X pins σ H s:=
 have ok:=I.ok
 ⟨⟨ok.mod,ok.kind,ok.glob,ok.blt,ok.above,ok.inj,ok.has,ok.cab,hc,ok.frames,ok.stk,ok.exf,ok.bs,ok.bsz,ok.noex,ok.exfs,ok.funs,ok.frf⟩,I.os,I.bare,I.base,I.loc,I.cell,I.free,I.freeC,I.pin,I.hok,I.len⟩
theorem SP.untr{D:Ends}{f:Flow}{s':Shared}(h:SP (X.tr pins XE) [] D f s'):SP X pins D f s':=by
 cases f with
 |next=>obtain⟨σ',H',I,q⟩:=h;exact⟨σ',H',I.untr,q⟩
 |brk=>obtain⟨σ',H',I,q⟩:=h;exact⟨σ',H',I.untr,q⟩
 |cont=>obtain⟨σ',H',I,q⟩:=h;exact⟨σ',H',I.untr,q⟩
 |ret u=>obtain⟨v,σ',H',I,r,q⟩:=h;exact⟨v,σ',H',I.untr,r,q⟩
theorem SP.unsui{e:Addr}{D:Ends}{f:Flow}{s':Shared}(hc:X.calm=true→X.A.handled=none)(h:SP (X.sui e) pins D f s'):SP X pins D f s':=by
 cases f with
 |next=>obtain⟨σ',H',I,q⟩:=h;exact⟨σ',H',I.unsui hc,q⟩
 |brk=>obtain⟨σ',H',I,q⟩:=h;exact⟨σ',H',I.unsui hc,q⟩
 |cont=>obtain⟨σ',H',I,q⟩:=h;exact⟨σ',H',I.unsui hc,q⟩
 |ret u=>obtain⟨v,σ',H',I,r,q⟩:=h;exact⟨v,σ',H',I.unsui hc,r,q⟩
end
noncomputable def qKL(ea:Addr)(C:Value)(od:Option Addr):Heap→Prop:=λh=>∃o vs,h.get? ea=some o∧o.cls=C∧o.dict=od∧o.data=.fields vs
noncomputable abbrev XO(ea:Addr)(C:Value)(od:Option Addr):HO:=.ext (qKL ea C od)
noncomputable abbrev TH:=Ends→St→Hp→Addr→Value→Option Addr→Prop
noncomputable def PHs(X:Cx)(hs:List ExceptHandler)(t:TH):Prop:=∀(pins:List (Addr×Obj)) (s:Shared) (σ:St) (H:Hp) (D:Ends) (ea T:Addr) (C:Value) (od:Option Addr),
 Inv X pins σ H s→Held .none s.heap ea T C od→Ours X pins H [ea,T]→t D σ H ea C od→wpAny (model X.prog X.w) X.A (handleBy (.ref ea) X.env hs) (SP X pins D) X.xe s
section
variable{X:Cx}{ES:St→XK}
theorem qJ2(tk:q3D X ES)(hf:X.env.frame=some X.env.locals:=by rfl):PHs X [] (λ_ σ H _ C od=>ES σ C od H):=by
 intro pins s σ H D ea T C od I hd ours q
 refine wpAny_handleBy_nil ?_
 unfold PySem.passOn
 have rc:=hd.recs
 obtain⟨vs,x,t1,t2,oT,ts,t3,t4,t5⟩:=id hd
 obtain⟨oe,a1,a2,a3,a4,a5⟩:=id x
 refine kL (sI a1 a4 t1 ?_)
 rw[kB (by simp)]
 refine kL (q2X hd λh' c hd2=>wpAny_throw ?_)
 rw[hf]at hd2
 exact tk pins σ H { s with heap:=h' } ea (some T) C od (I.chg (t':=s.toks) (rs:=[ea,T]) (c.mono (by simp) (by simp)) ours rc) (hd2.air (.inr rfl)) ours q
theorem Inv.pinX{pins:List (Addr×Obj)}{σ:St}{H:Hp}{s:Shared}{ea T:Addr}{C:Value}{od:Option Addr}{f:Value}(I:Inv X pins σ H s)(hd:Held f s.heap ea T C od)(ours:Ours X pins H [ea,T]):
 ∃oe oT,Inv X (pins++[(ea,oe),(T,oT)]) σ H s∧∀h':Heap,h'.get? ea=some oe→h'.get? T=some oT→Held f h' ea T C od:=by
 have rc:=hd.recs
 obtain⟨vs,⟨oe,a1,a2,a3,a4,a5⟩,t1,t2,oT,ts,t3,t4,t5⟩:=hd
 refine⟨oe,oT,I.pins_of λp hp=>?_,λh' z1 z2=>⟨vs,⟨oe,z1,a2,a3,a4,a5⟩,t1,t2,oT,ts,z2,t4,t5⟩⟩
 have nl:∀b o ws,s.heap.get? b=some o→o.data=.fields ws→b≠X.env.locals∧b∉X.fs:=λb o ws e d=>by
  refine⟨λz=>?_,λz=>?_⟩
  ·obtain⟨m,⟨o',es,ep,ho,hd',_⟩,_⟩:=I.loc
   rw[←z,e]at ho
   cases ho
   rw[d]at hd'
   cases hd'
  ·obtain⟨_,o',ho,hn⟩:=I.funs.mem z
   rw[e]at ho
   cases ho
   exact hn _ d
 rcases gO.mp hp with z|z
 ·exact I.pin p (mQ _ z)
 ·have z:p=(ea,oe)∨p=(T,oT):=by simpa using z
  rcases z with rfl|rfl
  ·exact⟨a1,(ours ea (by simp)).2.1,(nl _ _ _ a1 a4).1,(nl _ _ _ a1 a4).2,λv q=>by rw[a4]at q;cases q⟩
  ·exact⟨t3,(ours T (by simp)).2.1,(nl _ _ _ t3 t4).1,(nl _ _ _ t3 t4).2,λv q=>by rw[t4]at q;cases q⟩
theorem q9Q{ty:Expr}{c:V}{cv:Value}{pins:List (Addr×Obj)}{s:Shared}{σ:St}{H:Hp}{ea T:Addr}{C:Value}{od:Option Addr}{b:Bool}{R:Result→Shared→Prop}{pos:Pos}(hc:PE (X.sui ea) ty (tC c))(rc:RelV c cv)
 (I:Inv X pins σ H s) (hh:X.calm=true→X.A.handled=none) (hd:Held .none s.heap ea T C od) (ours:Ours X pins H [ea,T]) (hx:PySem.W.exmOne X.K C cv=some b) (q:∀s',Inv X pins σ H s'→Held .none s'.heap ea T C od→R (.ok (if b then .brk else .next)) s'):
 codeAny (model X.prog X.w) (X.A.mark (some (.ref ea))) (.handlers (.ref ea) [.ExceptHandler (some ty) none [] pos] X.env) R s:=by
 obtain⟨oe,oT,I1,back⟩:=I.pinX hd ours
 refine codeAny_handlers_test (dP (hc _ s σ H (λv H'=>v=c∧H'=H) (I1.sui ea) ⟨rfl,rfl⟩) (λu s1 h1=>?_) λ_ _ z=>z.elim)
 obtain⟨v,H',I2,r,e1,e2⟩:=h1
 subst e1 e2
 have e3:u=cv:=by
  cases v with
  |non=>exact r.trans rc.symm
  |bl b=>exact r.trans rc.symm
  |ref a=>exact r.trans rc.symm
  |ty n=>exact r.trans rc.symm
  |int i=>obtain⟨t,e⟩:=r;obtain⟨t',e'⟩:=rc;subst e';unfold PySem.W.exmOne at hx;split at hx<;>cases hx
  |str i=>obtain⟨t,e⟩:=r;obtain⟨t',e'⟩:=rc;subst e';unfold PySem.W.exmOne at hx;split at hx<;>cases hx
  |byt i=>obtain⟨t,e⟩:=r;obtain⟨t',e'⟩:=rc;subst e';unfold PySem.W.exmOne at hx;split at hx<;>cases hx
  |flt i=>obtain⟨t,e⟩:=r;obtain⟨t',e'⟩:=rc;subst e';unfold PySem.W.exmOne at hx;split at hx<;>cases hx
 subst e3
 have p1:=(I2.pin (ea,oe) (by simp)).1
 have p2:=(I2.pin (T,oT) (by simp)).1
 have hd1:=back _ p1 p2
 obtain⟨vs,⟨oe',z1,z2,_⟩,_⟩:=id hd1
 have LT:PySem.W.Looks (model X.prog X.w) s1.heap (typeOf (.ref ea)) C:=by
  rw[←z2]
  exact(xR z1).andThen .now
 have I3:Inv X pins σ H' s1:=(Inv.unsui hh I2).unpinned
 exact(PySem.W.exm_one I2.kIn LT hx).here (q s1 I3 hd1)
theorem qG5{ty:Expr}{c:V}{cv:Value}{b₀:Stmt}{suite:List Stmt}{pos:Pos}{rest:List ExceptHandler}{ts:TS}{tr:TH}(hc:∀ea,PE (X.sui ea) ty (tC c))(rc:RelV c cv)(hs:∀ea,PSs (X.sui ea) (b₀::suite) ts)(hr:PHs X rest tr):
 PHs X (.ExceptHandler (some ty) none (b₀::suite) pos::rest) (λD σ H ea C od=>∃b,PySem.W.exmOne X.K C cv=some b∧if b=true then ts D σ H else tr D σ H ea C od):=by
 intro pins s σ H D ea T C od I hd ours hZ
 obtain⟨b,hx,q⟩:=hZ
 refine wpAny_handleBy_cons (q9Q (hc ea) rc I I.ok.hd hd ours hx λs' I' hd'=>?_) (by intro z;cases z)
 cases b with
 |false=>
  rw[kB (by simp)]at q
  exact hr pins s' σ H D ea T C od I' hd' ours q
 |true=>
  rw[kD rfl]at q
  refine codeAny_handlers_suite (q2X hd' λh' c hd2=>?_)
  have I2:=I'.chg (t':=s'.toks) (rs:=[ea,T]) (c.mono (by simp) (by simp)) ours hd'.recs
  exact dP (hs ea pins { s' with heap:=h' } σ H D (I2.sui ea) q) (λf s2 z=>z.unsui I.ok.hd) λ_ _ z=>z.elim
noncomputable def tTry(tb:(St→XK)→TS)(th:TH):TS:=λD σ H=>tb (λσ' C od H'=>∀ea,H' ea=none→th D σ' H' ea C od) D σ H
theorem qJ3{body:List Stmt}{h₀:ExceptHandler}{hs:List ExceptHandler}{pos:Pos}{tb:(St→XK)→TS}{th:TH}
 (hb:∀(pins:List (Addr×Obj)) (XE:Value→Shared→Prop) (ES:St→XK),q3D (X.tr pins XE) ES→PassesOwn (model X.prog X.w) X.A X.env XE→PSs (X.tr pins XE) body (tb ES)) (hh:PHs X (h₀::hs) th)
 (hfs:∃fr,X.stack=X.env::fr:=by exact⟨_,rfl⟩) (hf:X.env.frame=some X.env.locals:=by rfl):PS X (.Try body (h₀::hs) [] [] pos) (tTry tb th):=by
 intro pins s σ H D I q
 refine wpAny_Try_except (dP (hb pins (λe s1=>wpAny (model X.prog X.w) X.A (noteFrame e X.env) (λ_ s2=>wpAny (model X.prog X.w) X.A (setFlight e none) (λ_ s3=>wpAny (model X.prog X.w) X.A (handleBy e X.env (h₀::hs)) (SP X pins D) X.xe s3) X.xe s2) X.xe s1)
  (λσ' C od H'=>∀ea,H' ea=none→th D σ' H' ea C od) ?_ PassesOwn.looking [] s σ H D (I.tr _) q) (λf s1 z=>?_) λe s1 z=>z)
 ·intro pins' σ' H' s' ea tr C od I' air ours y
  obtain⟨fr,ek⟩:=hfs
  have frames:X.A.frames=some (X.env::fr):=by rw[I.ok.frames,ek]
  have ff:s'.heap.FunFrames X.base (X.env::fr):=by rw[←ek];exact I'.stack
  refine qBO frames ff hf air λh' T c hd n=>?_
  have en:frs X.stack=(X.env::fr).filterMap (·.frame):=by rw[ek];rfl
  have I2:Inv (X.tr pins _) pins' σ' H' { s' with heap:=h' }:=I'.chg (t':=s'.toks) (by show Chg (frs X.stack) _ _ _;rw[en];exact c) ours air.recs
  have oT:Ours (X.tr pins λe s1=>wpAny (model X.prog X.w) X.A (noteFrame e X.env) (λ_ s2=>wpAny (model X.prog X.w) X.A (setFlight e none) (λ_ s3=>wpAny (model X.prog X.w) X.A (handleBy e X.env (h₀::hs)) (SP X pins D) X.xe s3) X.xe s2) X.xe s1) pins' H' [ea,T]:=by
   intro b hb
   have hb:b=ea∨b=T:=by simpa using hb
   rcases hb with rfl|rfl
   ·exact ours b (by simp)
   ·rcases n with z|z
    ·exact ours b (hU _ (by cases tr with|none=>cases z|some t=>cases z;exact kE.mpr rfl))
    ·refine⟨?_,I'.hok.fresh z,λp hp w=>?_⟩
     ·by_cases y:b∈X.ex
      ·exact .inr y
      ·refine .inl ?_
       cases w:X.s₀.heap.get? b with
       |none=>rfl
       |some ob=>
        obtain⟨o',w'⟩:=I'.base.there b ob w y
        exact absurd (kY w') (pH.mpr z)
     ·have w':=(I'.pin p hp).1
      rw[w]at w'
      exact absurd (kY w') (pH.mpr z)
  refine q2X hd λh2 c2 hd2=>?_
  have I3:=I2.chg (t':=s'.toks) (rs:=[ea,T]) (c2.mono (by simp) (by simp)) oT hd.recs
  exact hh pins _ σ' H' D ea T C od I3.untr hd2 (λb hb=>⟨(oT b hb).1,(oT b hb).2.1,λp hp=>(oT b hb).2.2 p (g8 _ hp)⟩) (y ea (ours ea (by simp)).2.1)
 ·have z:=z.untr
  cases f with
  |next=>obtain⟨σ',H',I',y⟩:=z;exact qR pins s1 σ' H' D I' y
  |_=>exact z
end
noncomputable def NewX(ea:Addr)(C:Value)(od:Option Addr):Heap→Prop:=λh=>∃vs sl,h.get? ea=some ⟨C,od,.fields vs,sl⟩∧1<vs.size∧vs[1]?=some .none
noncomputable abbrev XN(ea:Addr)(C:Value)(od:Option Addr):HO:=.ext (NewX ea C od)
noncomputable def qHO(X:Cx)(pins:List (Addr×Obj))(a:Addr):Prop:=(X.s₀.heap.get? a=none∨a∈X.ex)∧∀p∈X.pn++pins,p.1≠a
section
variable{X:Cx}{pins:List (Addr×Obj)}{σ:St}{H:Hp}{s:Shared}{a:Addr}
theorem Inv.young(I:Inv X pins σ H s)(e:s.heap.get? a=none):qHO X pins a:=by
 refine⟨?_,λp hp z=>?_⟩
 ·by_cases y:a∈X.ex
  ·exact .inr y
  ·refine .inl ?_
   cases z:X.s₀.heap.get? a with
   |none=>rfl
   |some ob=>
    obtain⟨o',z'⟩:=I.base.there a ob z y
    rw[e]at z'
    cases z'
 ·have y:=(I.pin p hp).1
  rw[z,e]at y
  cases y
theorem Inv.trackG{o:HO}(I:Inv X pins σ H s)(n:H a=none)(y:qHO X pins a)(nl:a≠X.env.locals)(nc:∀x c,X.env.cells.lookup x=some c→c≠a)(new:jF X.prog X.w (upd H a o) s.heap a o):Inv X pins σ (upd H a o) s:=by
 have ne:∀b o',X.s₀.heap.get? b=some o'→b∉X.ex→b≠a:=λb o' z x q=>by
  subst q
  rcases y.1 with w|w
  ·rw[z]at w;cases w
  ·exact x w
 have nt:∀b u,H b=some u→b≠a:=λb u z q=>by rw[q,n]at z;cases z
 refine⟨I.ok,I.os,I.bare,⟨I.base.keep,I.base.slot,λb o' z m x=>?_,I.base.there,λb xs z=>?_,λb o' u z=>?_,λb ps z=>?_⟩,I.loc,I.cell,?_,λx c z=>?_,λp hp=>?_,λb u z=>?_,I.len⟩
 ·rw[qC (ne b o' z x)]
  exact I.base.free b o' z m x
 ·have w:=I.base.tups b xs z
  rw[qC (nt _ _ w)]
  exact w
 ·have w:=I.base.frzs b o' u z
  rw[qC (nt _ _ w)]
  exact w
 ·obtain⟨more,w⟩:=I.base.tbls b ps z
  exact⟨more,by rw[qC (nt _ _ w)];exact w⟩
 ·rw[qC (wH nl)]
  exact I.free
 ·rw[qC (nc x c z)]
  exact I.freeC x c z
 ·obtain⟨p1,p2,p3,p4,p5⟩:=I.pin p hp
  exact⟨p1,by rw[qC (y.2 p hp)];exact p2,p3,p4,p5⟩
 ·by_cases q:b=a
  ·subst q
   rw[qH]at z
   cases z
   exact new
  ·rw[qC q]at z
   refine(I.hok b u z).stay (λ_ _ _ g=>g) (λc g=>?_) λc xs g=>?_
   ·rw[qC (nt _ _ g)];exact g
   ·rw[qC (nt _ _ g)];exact g
end
noncomputable def qE9:List Value→Bool
 | .ref _::r=>qE9 r
 |l=>l==bmVE
noncomputable def veIn(K:PySem.W.Frag)(C:Addr):Bool:=(PySem.W.clsIn K C).any (λcd=>qE9 cd.mro)
structure XAt(K:PySem.W.Frag)(C:Addr):Prop where
 hd:PySem.W.hasDictIn K C=true
 sa:PySem.W.findIn K (.ref C) "__setattr__"=some (some (.builtin "object.__setattr__"))
 mro:veIn K C=true
structure XRd(K:PySem.W.Frag)(C:Addr):Prop where
 ga:PySem.W.findIn K (.ref C) "__getattribute__"=some (some (.builtin "BaseException.__getattribute__"))
 gn:PySem.W.findIn K (.ref C) "__getattr__"=some none
 mb:PySem.W.mroIn K C (.type "BaseException")=some true
 hd:PySem.W.hasDictIn K C=true
 cls:PySem.W.findIn K (.ref C) "__class__"=some (some (.builtin "object.__class__"))
 cget:PySem.W.specialIn K (.builtin "object.__class__") "__get__"=some (some (.builtin "getset_descriptor.__get__"))
 ctk:PySem.W.takesIn K (.builtin "object.__class__")=some true
 mo:PySem.W.mroIn K C (.type "object")=some true
noncomputable def XAny(H:Hp)(ea:Addr)(C:Value)(od:Option Addr):Prop:=H ea=some (XO ea C od)∨H ea=some (XN ea C od)
section
variable{X:Cx}{pins:List (Addr×Obj)}{σ:St}{H:Hp}{s:Shared}{ea C:Addr}{od:Option Addr}
theorem XAny.at{C:Value}(x:XAny H ea C od)(I:Inv X pins σ H s):∃o vs,s.heap.get? ea=some o∧o.cls=C∧o.dict=od∧o.data=.fields vs:=by
 rcases x with e|e
 ·exact(I.hok ea _ e).1
 ·obtain⟨vs,sl,z,_⟩:=(I.hok ea _ e).1
  exact⟨_,vs,z,rfl,rfl,rfl⟩
theorem qG6{A:Around}{E:Value→Shared→Prop}{K:PySem.W.Frag}{prog:Program}{w:World}{s:Shared}{x:Addr}{ox:Obj}{od:Option Obj}{name:Str}{tk:Tok}{fill b:Bool}{Q:Value→Shared→Prop}(X:K.In s.heap)(J:PySem.W.InstAt s.heap x ox C od)(c:XRd K C)
 (h:∀A',wpAny (model prog w) A' (Builtin.«object.__getattribute__» ⟨[.ref x,.str name tk],[]⟩) (λfin s'=>∃v,fin=.done (.ret v)∧PySem.W.handedIn v=true∧Q v s') (λ_ _=>False) s):wpAny (model prog w) A (getAttrBy (.ref x) (.str name tk) fill b) Q E s:=by
 obtain⟨hh,g,d,t,os⟩:=s
 have L0:=J.type (M:=model prog w)
 have L1:=cC (M:=model prog w) X c.ga
 have L2:=cC (M:=model prog w) X c.gn
 have SF:=PySem.F.excAttr_ValueError.ga
 unfold getAttrBy
 refine dH (kL (L0.at (kL (L1.at ?_))))
 show wpAny _ _ (getAttrByItsOwn (.ref x) (.str name tk) (.ref C) (.builtin "BaseException.__getattribute__") fill b) _ _ _
 unfold getAttrByItsOwn
 refine kL ?_
 show wpAny _ _ (typeLookup (.ref C) "__getattr__") _ _ _
 refine L2.at ?_
 refine kL (lQ (dH ?_))
 have e1:callGetattribute (.ref x) (.str name tk) (.builtin "BaseException.__getattribute__") b=boundAndCalled (.builtin "BaseException.__getattribute__") (.ref x) (.str name tk):=by
  unfold callGetattribute
  rw[kB (by cases b<;>exact Bool.noConfusion)]
 rw[e1]
 unfold boundAndCalled
 rw[SF.bind (.ref x)]
 refine kL (mO ?_)
 refine pG (lE SF.plain PySem.F.entry_bexc_ga ?_)
 have su:PySem.W.Looks (model prog w) hh (isInstance (.ref x) (.type "BaseException")) true:=J.type.andThen (PySem.W.looks_mroIn X c.mb)
 have hk:builtinKind "BaseException.__getattribute__"=some .slot:=by decide+kernel
 have hs:splitId "BaseException.__getattribute__"=some ("BaseException","__getattribute__"):=by decide+kernel
 refine @lZ (model prog w) _ _ ⟨hh,g,d,t,os⟩ "BaseException.__getattribute__" "BaseException" "__getattribute__" (.ref x) [.str name tk] [] _ hk hs su (PySem.F.args_bexc_ga (.ref x) (.str name tk)) ?_
 refine dP (h _) (λfin s' z=>?_) (λ_ _ z=>z.elim)
 obtain⟨v,rfl,z1,z2⟩:=z
 exact PySem.W.handed_on z1 z2
end
noncomputable def clsV:V→Option Value
 | .ref a=>some (.ref a)
 | .ty n=>some (.type n)
 |_=>none
theorem qEA{c:V}{cv u:Value}(h:clsV c=some cv)(r:RelV c u):u=cv:=by
 cases c<;>first|(cases h;exact r)|cases h
noncomputable def KndT(K:PySem.W.Frag)(H:Hp)(x:V)(t:Value):Prop:=TyOf K H x t∨∃ea C od,x=.ref ea∧t=.ref C∧XAny H ea (.ref C) od∧XRd K C∧(od=none∨∃dx fs,od=some dx∧H dx=some (.xd fs))
theorem qJ4{K:PySem.W.Frag}{x D:Addr}{ox:Obj}{od:Option Obj}(c:XRd K D):PySem.W.KitX K (.ref x) (.ref D) (λh=>PySem.W.InstAt h x ox D od) where
 ty:=λ_ _ _ I=>I.type
 it:=λ_ _ X _=>by
  obtain⟨cd,hc,_⟩:=pF c.hd
  unfold PySem.W.clsIn at hc
  split at hc
  ·rename_i ho
   intro A' Q' E' s' k q
   unfold isType loadHead
   exact kL (wpAny_loadPart (k _ _ (X _ _ ho)) (mO q))
  ·cases hc
 ne:=λh tp dd its n sl X htp=>by
  obtain⟨cd,hc,_⟩:=pF c.hd
  refine xI.mpr λq=>?_
  have e:D=tp:=Value.ref.inj (wF.mp q)
  subst e
  unfold PySem.W.clsIn at hc
  split at hc
  ·rename_i ho
   have z:=(X _ _ ho).symm.trans htp
   cases z
  ·cases hc
 ca:=fun {prog w _ _ _ s} X I k=>by
  have hf:PySem.W.findObj K D od "__class__"=some (.bind (.builtin "getset_descriptor.__get__") (.builtin "object.__class__")):=by
   obtain⟨cd,hc,_⟩:=pF c.hd
   unfold PySem.W.findObj
   rw[hc,pI,c.cls,pI]
   dsimp only
   rw[c.cget,pI]
   dsimp only
   rw[c.ctk,pI]
  unfold getAttr? getAttrBy?
  refine kL (wpAny_mkText (kL (lQ (qG6 (s:={ s with toks:=s.toks+1 }) X I c λA'=>?_))))
  have L0:=I.type (M:=model prog w)
  have L1:=PySem.W.looks_find (M:=model prog w) X I hf
  obtain⟨hh,gg,d,t,os⟩:=s
  refine kL (mO (kL (mO (kL (L0.at (kL (L1.at ?_)))))))
  show wpAny _ _ (holding [.builtin "object.__class__"] (call (.builtin "getset_descriptor.__get__") [.builtin "object.__class__",.ref x,.ref D]) >>= ret) _ _ _
  exact kL (dH (pG (PySem.W.class_get (s:=⟨hh,gg,d,t+1,os⟩) (ox:=ox) (od:=od) X I c.mo (mO ⟨_,rfl,rfl,mO k⟩))))
theorem yK{X:Cx}:zC X (.builtin "isinstance") (λxs H Q=>∃x c cv t b,xs=[x,c]∧clsV c=some cv∧KndT X.K H x t∧PySem.W.kitOne X.K t cv=some b∧Q (.bl b) H):=by
 intro pins s σ H xs us Q I r h
 obtain⟨x,c,cv,t,b,rfl,hc,ty,e,q⟩:=h
 obtain⟨u,w',rfl,ru,rw'⟩:=qDN r
 cases qEA hc rw'
 rcases ty with ty|⟨ea,C,od,rfl,rfl,hx,ca,hd⟩
 ·exact qCP I ru ty e λtk=>⟨.bl b,H,I.tok tk,rfl,q⟩
 ·obtain rfl:u=Value.ref ea:=ru
  obtain⟨o,vs,e1,e2,e3,e4⟩:=hx.at I
  have hno:PySem.W.notCls o=true:=by rw[PySem.W.notCls,e4]
  have J:∃oD,PySem.W.InstAt s.heap ea o C oD:=by
   rcases hd with rfl|⟨dx,fs,rfl,hdx⟩
   ·exact⟨none,e1,e2,hno,by rw[e3];exact True.intro⟩
   ·obtain⟨mA,n1,rl⟩:=I.hok dx _ hdx
    obtain⟨oD,g1,g2⟩:=q7O n1
    exact⟨some oD,e1,e2,hno,by rw[e3];exact g1⟩
  obtain⟨oD,J⟩:=J
  exact gY (qJ4 ca) I.kIn J e (λz=>nomatch z) λtk=>⟨.bl b,H,I.tok tk,rfl,q⟩
structure BIni(K:PySem.W.Frag)(W:Addr):Prop where
 rd:PySem.W.readsIn K W (.type "type")=true
 fd:PySem.W.findCls K (.ref W) (.type "type") "__init__"=some (.val (.builtin "ValueError.__init__"))
 ga:PySem.W.specialIn K (.ref W) "__getattribute__"=some (some (.builtin "type.__getattribute__"))
end L2
namespace L2
open PySem
structure Keep(F:List Addr)(H H':Hp):Prop where
 k:∀b o,b∉F→H b=some o→H' b=some o
 tp:∀b xs,H b=some (.tup xs)→H' b=some (.tup xs)
theorem Keep.refl{F:List Addr}{H:Hp}:Keep F H H:=⟨λ_ _ _ e=>e,λ_ _ e=>e⟩
theorem Keep.trans{F:List Addr}{H H1 H2:Hp}(a:Keep F H H1)(b:Keep F H1 H2):Keep F H H2:=⟨λx o n e=>b.k x o n (a.k x o n e),λx xs e=>b.tp x xs (a.tp x xs e)⟩
theorem Keep.mono{F F':List Addr}{H H':Hp}(a:Keep F H H')(s:∀b∈F,b∈F'):Keep F' H H':=⟨λx o n e=>a.k x o (λm=>n (s x m)) e,a.tp⟩
theorem Keep.upd{F:List Addr}{H:Hp}{p:Addr}{o u:HO}(h:H p=some u)(nt:∀xs,u≠ .tup xs)(m:p∈F):Keep F H (upd H p o):=by
 refine⟨λb x n e=>?_,λb xs e=>?_⟩
 ·rw[qC (λ(z:b=p)=>n (z▸m))];exact e
 ·rw[qC (jR e h (λz=>nt xs z.symm))];exact e
theorem Keep.same{F:List Addr}{H H':Hp}(s:Same H H'):Keep F H H':=⟨λb o _ e=>s b o e,λb xs e=>s b _ e⟩
theorem Keep.none{F:List Addr}{H H':Hp}(a:Keep F H H'){b:Addr}(n:b∉F)(e:H' b=Option.none):H b=Option.none:=by
 cases q:H b with
 |none=>rfl
 |some o=>rw[a.k b o n q]at e;cases e
structure CM where
 bl:Int
 pg:Int
 mo:Int
 lim:List (Key×V)
 bo:List V
 cl:List Int
 dc:List Int
 br:List Bool
 lf:Option Int
 rc:List (Str×Int×Bool)
structure CA where
 dx:Addr
 li:Addr
 bo:Addr
 cl:Addr
 dc:Addr
 br:Addr
 rc:Addr
noncomputable def lfV:Option Int→V
 | .none=>.non
 | .some i=>.int i
noncomputable def chF(a:CA)(m:CM):List (Str×V):=[("blocks",.int m.bl),("pages",.int m.pg),("most",.int m.mo),("limits",.ref a.li),("borne",.ref a.bo),("clearings",.ref a.cl),("deed_counts",.ref a.dc),("broken",.ref a.br),("deeds_left",lfV m.lf),("record",.ref a.rc)]
noncomputable def trip(H:Hp)(v:V)(d:Str×Int×Bool):Prop:=∃p,v=.ref p∧H p=some (.tup [.str d.1,.int d.2.1,.bl d.2.2])
noncomputable abbrev Recd(H:Hp):List V→List (Str×Int×Bool)→Prop:=Paired (trip H)
theorem Recd.keep{F:List Addr}{H H':Hp}(k:Keep F H H'){rs:List V}{ds:List (Str×Int×Bool)}(r:Recd H rs ds):Recd H' rs ds:=Paired.mapP r λv d ⟨p,e,h⟩=>⟨p,e,k.tp _ _ h⟩
theorem _root_.PySem.Paired.len{α β:Type}{F:α→β→Prop}:∀{l₁:List α} {l₂:List β},Paired F l₁ l₂→l₁.length=l₂.length
 |_,_,.nil=>rfl
 |_,_,.cons _ t=>gX (· + 1) t.len
theorem Paired.snoc{α β:Type}{F:α→β→Prop}:∀{l₁:List α} {l₂:List β} {a:α} {b:β},Paired F l₁ l₂→F a b→Paired F (l₁++[a]) (l₂++[b])
 |_,_,_,_,.nil,h=>.cons h .nil
 |_,_,_,_,.cons r t,h=>.cons r (Paired.snoc t h)
noncomputable def foot(c:Addr)(a:CA):List Addr:=[c,a.bo,a.cl,a.dc,a.br,a.rc]
structure ChipAt(C:Addr)(H:Hp)(c:Addr)(a:CA)(m:CM):Prop where
 ins:H c=some (.ins C a.dx (chF a m))
 li:H a.li=some (.dK m.lim)
 bo:H a.bo=some (.lst m.bo)
 cl:H a.cl=some (.lst (m.cl.map V.int))
 dc:H a.dc=some (.lst (m.dc.map V.int))
 br:H a.br=some (.lst (m.br.map V.bl))
 rc:∃rs,H a.rc=some (.lst rs)∧Recd H rs m.rc
 nd:[a.bo,a.cl,a.dc,a.br,a.rc].Nodup
structure CM.Ok(m:CM):Prop where
 bl1:2≤m.bl
 bl2:m.bl≤16
 pg1:1≤m.pg
 pg2:m.pg≤16
 nbo:(m.bo.length:Int)=m.bl*m.pg
 ncl:(m.cl.length:Int)=m.bl
 ndc:(m.dc.length:Int)=m.bl
 nbr:(m.br.length:Int)=m.bl
 lim:∀b v,valV m.lim (Sum.inl b)=some v→∃n,v=.int n
 nrc:m.rc.length≤1000000
section
variable{C c:Addr}{a:CA}{m:CM}{H H':Hp}
theorem ChipAt.ne(h:ChipAt C H c a m):c≠a.bo∧c≠a.cl∧c≠a.dc∧c≠a.br∧c≠a.rc:=by
 obtain⟨rs,e,_⟩:=h.rc
 exact⟨jR h.ins h.bo (by intro z;cases z),jR h.ins h.cl (by intro z;cases z),jR h.ins h.dc (by intro z;cases z),jR h.ins h.br (by intro z;cases z),jR h.ins e (by intro z;cases z)⟩
theorem ChipAt.nel(h:ChipAt C H c a m):a.li≠c∧a.li≠a.bo∧a.li≠a.cl∧a.li≠a.dc∧a.li≠a.br∧a.li≠a.rc:=by
 obtain⟨rs,e,_⟩:=h.rc
 exact⟨jR h.li h.ins (by intro z;cases z),jR h.li h.bo (by intro z;cases z),jR h.li h.cl (by intro z;cases z),jR h.li h.dc (by intro z;cases z),jR h.li h.br (by intro z;cases z),jR h.li e (by intro z;cases z)⟩
theorem ChipAt.dst(h:ChipAt C H c a m):(a.bo≠a.cl∧a.bo≠a.dc∧a.bo≠a.br∧a.bo≠a.rc)∧(a.cl≠a.dc∧a.cl≠a.br∧a.cl≠a.rc)∧(a.dc≠a.br∧a.dc≠a.rc)∧a.br≠a.rc:=by
 have:=h.nd
 simp only[m7,kI,gW,not_or,cE]at this
 obtain⟨⟨a1,a2,a3,a4⟩,⟨b1,b2,b3⟩,⟨c1,c2⟩,d1,_⟩:=this
 exact⟨⟨a1,a2,a3,a4⟩,⟨b1,b2,b3⟩,⟨c1,c2⟩,d1⟩
theorem ChipAt.keep{F:List Addr}(h:ChipAt C H c a m)(k:Keep F H H')(n:∀b∈a.li::foot c a,b∉F):ChipAt C H' c a m:=by
 obtain⟨rs,e,r⟩:=h.rc
 exact⟨k.k _ _ (n _ (by simp[foot])) h.ins,k.k _ _ (n _ (by simp)) h.li,k.k _ _ (n _ (by simp[foot])) h.bo,k.k _ _ (n _ (by simp[foot])) h.cl,k.k _ _ (n _ (by simp[foot])) h.dc,k.k _ _ (n _ (by simp[foot])) h.br,
  ⟨rs,k.k _ _ (n _ (by simp[foot])) e,r.keep k⟩,h.nd⟩
theorem ChipAt.same(h:ChipAt C H c a m)(s:Same H H'):ChipAt C H' c a m:=h.keep (F:=[]) (Keep.same s) (by simp)
theorem ChipAt.setLf(h:ChipAt C H c a m)(v:Option Int):ChipAt C (upd H c (.ins C a.dx (chF a { m with lf:=v }))) c a { m with lf:=v }:=by
 obtain⟨n1,n2,n3,n4,n5⟩:=h.ne
 obtain⟨l1,_⟩:=h.nel
 obtain⟨rs,e,r⟩:=h.rc
 have k:Keep [c] H (upd H c (.ins C a.dx (chF a { m with lf:=v }))):=Keep.upd h.ins (λ_ z=>by cases z) (by simp)
 exact⟨qH,by rw[qC l1];exact h.li,by rw[qC n1.symm];exact h.bo,by rw[qC n2.symm];exact h.cl,by rw[qC n3.symm];exact h.dc,by rw[qC n4.symm];exact h.br,⟨rs,by rw[qC n5.symm];exact e,r.keep k⟩,h.nd⟩
theorem ChipAt.setBo(h:ChipAt C H c a m)(v:List V):ChipAt C (upd H a.bo (.lst v)) c a { m with bo:=v }:=by
 obtain⟨n1,n2,n3,n4,n5⟩:=h.ne
 obtain⟨l0,l1,l2,l3,l4,l5⟩:=h.nel
 obtain⟨⟨a1,a2,a3,a4⟩,⟨b1,b2,b3⟩,⟨c1,c2⟩,d1⟩:=h.dst
 obtain⟨rs,e,r⟩:=h.rc
 have k:Keep [a.bo] H (upd H a.bo (.lst v)):=Keep.upd h.bo (λ_ z=>by cases z) (by simp)
 exact⟨by rw[qC n1];exact h.ins,by rw[qC l1];exact h.li,qH,by rw[qC a1.symm];exact h.cl,by rw[qC a2.symm];exact h.dc,by rw[qC a3.symm];exact h.br,⟨rs,by rw[qC a4.symm];exact e,r.keep k⟩,h.nd⟩
theorem ChipAt.setCl(h:ChipAt C H c a m)(v:List Int):ChipAt C (upd H a.cl (.lst (v.map V.int))) c a { m with cl:=v }:=by
 obtain⟨n1,n2,n3,n4,n5⟩:=h.ne
 obtain⟨l0,l1,l2,l3,l4,l5⟩:=h.nel
 obtain⟨⟨a1,a2,a3,a4⟩,⟨b1,b2,b3⟩,⟨c1,c2⟩,d1⟩:=h.dst
 obtain⟨rs,e,r⟩:=h.rc
 have k:Keep [a.cl] H (upd H a.cl (.lst (v.map V.int))):=Keep.upd h.cl (λ_ z=>by cases z) (by simp)
 exact⟨by rw[qC n2];exact h.ins,by rw[qC l2];exact h.li,by rw[qC a1];exact h.bo,qH,by rw[qC b1.symm];exact h.dc,by rw[qC b2.symm];exact h.br,⟨rs,by rw[qC b3.symm];exact e,r.keep k⟩,h.nd⟩
theorem ChipAt.setDc(h:ChipAt C H c a m)(v:List Int):ChipAt C (upd H a.dc (.lst (v.map V.int))) c a { m with dc:=v }:=by
 obtain⟨n1,n2,n3,n4,n5⟩:=h.ne
 obtain⟨l0,l1,l2,l3,l4,l5⟩:=h.nel
 obtain⟨⟨a1,a2,a3,a4⟩,⟨b1,b2,b3⟩,⟨c1,c2⟩,d1⟩:=h.dst
 obtain⟨rs,e,r⟩:=h.rc
 have k:Keep [a.dc] H (upd H a.dc (.lst (v.map V.int))):=Keep.upd h.dc (λ_ z=>by cases z) (by simp)
 exact⟨by rw[qC n3];exact h.ins,by rw[qC l3];exact h.li,by rw[qC a2];exact h.bo,by rw[qC b1];exact h.cl,qH,by rw[qC c1.symm];exact h.br,⟨rs,by rw[qC c2.symm];exact e,r.keep k⟩,h.nd⟩
theorem ChipAt.addRc{p:Addr}{rs:List V}{d:Str×Int×Bool}(h:ChipAt C H c a m)(e:H a.rc=some (.lst rs))(hp:H p=some (.tup [.str d.1,.int d.2.1,.bl d.2.2])):ChipAt C (upd H a.rc (.lst (rs++[.ref p]))) c a { m with rc:=m.rc++[d] }:=by
 obtain⟨n1,n2,n3,n4,n5⟩:=h.ne
 obtain⟨l0,l1,l2,l3,l4,l5⟩:=h.nel
 obtain⟨⟨a1,a2,a3,a4⟩,⟨b1,b2,b3⟩,⟨c1,c2⟩,d1⟩:=h.dst
 obtain⟨rs',e',r⟩:=h.rc
 rw[e]at e'
 cases e'
 have k:Keep [a.rc] H (upd H a.rc (.lst (rs++[.ref p]))):=Keep.upd e (λ_ z=>by cases z) (by simp)
 exact⟨by rw[qC n5];exact h.ins,by rw[qC l5];exact h.li,by rw[qC a4];exact h.bo,by rw[qC b3];exact h.cl,by rw[qC c2];exact h.dc,by rw[qC d1];exact h.br,⟨_,qH,Paired.snoc (r.keep k) ⟨p,rfl,k.tp _ _ hp⟩⟩,h.nd⟩
end
noncomputable def CM.deed(m:CM)(w:Str)(pl b:Int)(f:Bool):CM:={ m with lf:=m.lf.map (· - 1),dc:=m.dc.set b.toNat (m.dc.getD b.toNat 0+1),rc:=m.rc++[(w,pl,!f)],br:=if f then m.br.set b.toNat true else m.br }
noncomputable def clr(xs:List V)(i n:Nat):List V:=match n with
 |0=>xs
 |n+1=>(clr xs i n).set (i+n) .non
noncomputable def CM.new(bl pg mo:Int)(lim:List (Key×V)):CM:=⟨bl,pg,mo,lim,List.replicate (bl*pg).toNat .non,List.replicate bl.toNat 0,List.replicate bl.toNat 0,List.replicate bl.toNat false,none,[]⟩
theorem qG7{x:V}{lo hi:Int}(h:inB x lo hi=true):∃p,x=.int p∧lo≤p∧p≤hi:=by
 cases x with
 |int p=>
  have h:(decide (lo≤p)&&decide (p≤hi))=true:=h
  rw[mU]at h
  exact⟨p,rfl,mF h.1,mF h.2⟩
 |_=>cases h
theorem qJ5{m:CM}{p:Int}(ok:m.Ok)(p0:0≤p)(p1:p≤m.bl*m.pg-1):0≤p / m.pg∧p / m.pg<m.bl:=by
 have:=ok.pg1
 exact⟨Int.ediv_nonneg p0 (by lia),Int.ediv_lt_of_lt_mul (by lia) (by lia)⟩
theorem lf0{m:CM}:decide (lfV m.lf=V.int 0)=decide (m.lf=some 0):=by
 cases e:m.lf with
 |none=>rfl
 |some i=>
  show decide (V.int i=V.int 0)=_
  by_cases z:i=0
  ·subst z;rfl
  ·rw[hI (λq=>z (by injection q)),hI (λq=>z (by injection q))]
theorem qG8{m:CM}:scal (lfV m.lf) (.int 0)=true:=by
 cases m.lf<;>rfl
theorem getB{m:CM}{b:Int}(h0:0≤b)(h:b<(m.br.length:Int)):atI (m.br.map V.bl) b=some (.bl (m.br.getD b.toNat false)):=by
 obtain⟨j,rfl⟩:=wL h0
 refine u7 ?_
 have hj:j<m.br.length:=by lia
 simp[hj]
theorem getI{xs:List Int}{b:Int}(h0:0≤b)(h:b<(xs.length:Int)):atI (xs.map V.int) b=some (.int (xs.getD b.toNat 0)):=by
 obtain⟨j,rfl⟩:=wL h0
 refine u7 ?_
 have hj:j<xs.length:=by lia
 simp[hj]
theorem getV{xs:List V}{b:Int}(h0:0≤b)(h:b<(xs.length:Int)):atI xs b=some (xs.getD b.toNat .non):=by
 obtain⟨j,rfl⟩:=wL h0
 refine u7 ?_
 have hj:j<xs.length:=by lia
 simp[hj]
theorem ixOk{n:Nat}{b:Int}(h0:0≤b)(h:b<(n:Int)):ixN n b=some b.toNat:=by
 unfold ixN
 rw[kD h0,kD h]
theorem CM.Ok.deed{m:CM}(ok:m.Ok){w:Str}{pl b:Int}{f:Bool}(h:m.rc.length<1000000):(m.deed w pl b f).Ok:=by
 refine⟨ok.bl1,ok.bl2,ok.pg1,ok.pg2,ok.nbo,ok.ncl,?_,?_,ok.lim,?_⟩
 ·show((m.dc.set _ _).length:Int)=m.bl
  rw[gD]
  exact ok.ndc
 ·show(((if f then m.br.set b.toNat true else m.br)).length:Int)=m.bl
  cases f with
  |true=>
   rw[kD rfl,gD]
   exact ok.nbr
  |false=>
   exact ok.nbr
 ·show(m.rc++[_]).length≤1000000
  rw[kZ,gB]
  lia
noncomputable def qG9:Sp:=λvs H Q _=>∃x y,vs=[x,y]∧Knd H x∧Knd H y∧Q (.bl (inB x 2 16&&inB y 1 16)) H
theorem Paired.at{α β:Type}{F:α→β→Prop}:∀{l₁:List α} {l₂:List β} {i:Nat} {a:α},Paired F l₁ l₂→l₁[i]?=some a→∃b,l₂[i]?=some b∧F a b
 |_,_,0,_,.cons r _,e=>by simp at e;subst e;exact⟨_,rfl,r⟩
 |_,_,i+1,_,.cons _ t,e=>by
  have e2:=sO.symm.trans e
  obtain⟨b,h1,h2⟩:=Paired.at t e2
  exact⟨b,sO.trans h1,h2⟩
 |_,_,_,_,.nil,e=>by simp at e
theorem q5I(xs:List V)(i:Nat):∀n,(clr xs i n).length=xs.length
 |0=>rfl
 |n+1=>by
  show((clr xs i n).set (i+n) .non).length=xs.length
  rw[gD,q5I xs i n]
theorem qJ6{bl pg mo:Int}{lim:List (Key×V)}(b1:2≤bl)(b2:bl≤16)(p1:1≤pg)(p2:pg≤16)(hl:∀b v,valV lim (Sum.inl b)=some v→∃n,v=V.int n):(CM.new bl pg mo lim).Ok:=by
 have h:0≤bl*pg:=lF (by lia) (by lia)
 refine⟨b1,b2,p1,p2,?_,?_,?_,?_,hl,by show 0≤1000000;decide⟩
 ·show((List.replicate (bl*pg).toNat V.non).length:Int)=bl*pg
  rw[gM]
  lia
 ·show((List.replicate bl.toNat (0:Int)).length:Int)=bl
  rw[gM]
  lia
 ·show((List.replicate bl.toNat (0:Int)).length:Int)=bl
  rw[gM]
  lia
 ·show((List.replicate bl.toNat false).length:Int)=bl
  rw[gM]
  lia
noncomputable def Up(x:Addr)(H H':Hp):Prop:=∀b o,b≠x→H b=some o→H' b=some o
section
variable{x C dx:Addr}{fs:List (Str×V)}{H H':Hp}
theorem Up.of{o:HO}(s:Same H H'):Up x H (upd H' x o):=λb u n e=>by rw[qC n];exact s b u e
theorem Up.free(u:Up x H H'){b:Addr}(n:b≠x)(e:H' b=none):H b=none:=by
 cases q:H b with
 |none=>rfl
 |some o=>rw[u b o n q]at e;cases e
end
end L2
namespace L2
open PySem PySem.Spec PyProof.Rows
noncomputable def tMid(t u:TS):TS:=λD σ H=>∃M:St→Hp→Prop,t { D with nx:=M } σ H∧∀σ' H',M σ' H'→u D σ' H'
noncomputable def qKM(t:TT):TT:=λσ H Q=>∃M:Bool→Hp→Prop,t σ H M∧∀b H',M b H'→Q b H'
noncomputable def qKN(t:TE):TE:=λσ H Q=>∃M:VK,t σ H M∧∀v H',M v H'→Q v H'
section
variable{X:Cx}{st:Stmt}{rest:List Stmt}{t u:TS}{e:Expr}{te:TE}{tt:TT}
theorem q17(h1:PS X st t)(h2:PSs X rest u):PSs X (st::rest) (tMid t u):=by
 intro pins s σ H D I hZ
 obtain⟨M,a,b⟩:=hZ
 refine kL (thn (h1 pins s σ H _ I a) λf s1 z=>?_)
 cases f with
 |next=>obtain⟨σ',H',I',q⟩:=z;exact h2 pins s1 σ' H' D I' (b σ' H' q)
 |brk=>exact mO z
 |cont=>exact mO z
 |ret v=>exact mO z
theorem qAW(h:PT X e tt):PT X e (qKM tt):=λpins s σ H Q I ⟨M,a,b⟩=>thn (h pins s σ H M I a) λc s1 ⟨H',I',q⟩=>⟨H',I',b c H' q⟩
theorem qJ7(h:PE X e te):PE X e (qKN te):=λpins s σ H Q I ⟨M,a,b⟩=>thn (h pins s σ H M I a) λc s1 ⟨v,H',I',r,q⟩=>⟨v,H',I',r,b v H' q⟩
end
theorem zF{a b:Int}:decide (V.int a=V.int b)=decide (a=b):=by
 by_cases e:a=b
 ·subst e;simp
 ·rw[hI e,hI (λz=>e (by injection z))]
theorem q1Z(x n:Int)(h:0<n):0≤x%n∧x%n<n:=⟨x8 _ (by lia),l7 _ h⟩
section
variable{X:Cx}{pins:List (Addr×Obj)}{σ:St}{H:Hp}{s:Shared}{h':Heap}
theorem Inv.turnedN{t':Nat}{fp:List Addr}(I:Inv X pins σ H s)(k:∀b o,b∉fp→s.heap.get? b=some o→h'.get? b=some o)(hf:∀b∈fp,FpOk X pins H b):Inv X pins σ H { s with heap:=h',toks:=t' }:=by
 have nit:∀b u,H b=some u→b∉fp:=λb u e z=>by rw[(hf b z).1]at e;cases e
 refine I.step (g':=s.gens) (d':=s.drawn) (ch:=fp) (λb hb=>?_) (λb o _ _ hc e _=>k b o hc e) (λb o _ _ hc e _=>⟨o.slots,k b o hc e⟩) (λ_ _ _ _ n=>n)
  (λb o hc e=>⟨o,k b o hc e⟩) (λ_ _ e=>e) (λ_ _ _ e=>e) (λb ps e=>⟨#[],by rw[e];simp⟩) (λm hm=>?_) (λb u e=>?_) I.bare
 ·obtain⟨f0,f1,f2,f3,f4,f5⟩:=hf b hb
  exact⟨f3,f1,f4,f5⟩
 ·obtain⟨o,es,ep,ho,r⟩:=hm
  exact⟨o,es,ep,k _ o (λz=>(hf _ z).2.1 rfl) ho,r⟩
 ·refine(I.hok b u e).stay (λc v hc q=>k c v ?_ q) (λ_ q=>q) λ_ _ q=>q
  rcases hc with z|z
  ·rw[z];exact nit b u e
  ·exact nit c _ z
end
noncomputable def Itz(K:PySem.W.Frag)(l1 l2:Addr):It:=
 ⟨λi H=>∃xs ys x y,SqL K H l1 xs∧SqL K H l2 ys∧xs[i]?=some x∧ys[i]?=some y,
  λi H v H'=>∃T x y,v=.ref T∧H T=none∧H'=upd H T (.tup [x,y])∧(∀xs,SqL K H l1 xs→xs[i]?=some x)∧∀ys,SqL K H l2 ys→ys[i]?=some y,
  λi H=>∃xs ys,SqL K H l1 xs∧SqL K H l2 ys∧(xs.length≤i∨ys.length≤i)⟩
theorem qEB{P:Program}{w:World}{K:PySem.W.Frag}{elts:List Expr}{x1}{pos:Pos}(z TI TO i1 i2 l1 l2:Addr)(D:ZipApart z TI TO i1 i2 l1 l2):
 Turn P w K (.Tuple elts x1 pos) (Itz K l1 l2) [z,TI,TO,i1,i2] z (λi h=>IsZip h z TI TO .none∧IsPair h TI (.ref i1) (.ref i2)∧(∃a b,IsPair h TO a b)∧h.IsListIter i1 l1 i∧h.IsListIter i2 l2 i) where
 mem:=by simp
 obj:=λi h st b hb=>by
  obtain⟨a1,a2,⟨p,q,a3⟩,⟨o4,e4,c4,d4⟩,⟨o5,e5,c5,d5⟩⟩:=st
  simp only[kI,gW,cE]at hb
  rcases hb with rfl|rfl|rfl|rfl|rfl
  ·exact⟨_,a1,λv z=>by cases z⟩
  ·exact⟨_,a2,λv z=>by cases z⟩
  ·exact⟨_,a3,λv z=>by cases z⟩
  ·exact⟨_,e4,λv z=>by rw[d4]at z;cases z⟩
  ·exact⟨_,e5,λv z=>by rw[d5]at z;cases z⟩
 keep:=λi h h' st k=>by
  obtain⟨a1,a2,⟨p,q,a3⟩,a4,a5⟩:=st
  exact⟨k z (by simp) _ a1,k TI (by simp) _ a2,⟨p,q,k TO (by simp) _ a3⟩,a4.at λo e=>k i1 (by simp) o e,a5.at λo e=>k i2 (by simp) o e⟩
 item:=by
  intro X hP hw hK hc i pins s σ H E I hf st hg
  subst hP hw hK
  obtain⟨xs,ys,x,y,hq1,hq2,hx,hy⟩:=hg
  obtain⟨its1,rv1,p1,hz1⟩:=I.list hq1
  obtain⟨u1,hu1,ru1⟩:=rv1.get hx
  obtain⟨its2,rv2,p2,hz2⟩:=I.list hq2
  obtain⟨u2,hu2,ru2⟩:=rv2.get hy
  obtain⟨a1,a2,⟨p,q,a3⟩,a4,a5⟩:=st
  refine wpAny_pyNext_zip_item D a1 a2 a3 a4 a5 p1.isList p2.isList (x:=u1) (y:=u2) (by simpa using hu1) (by simpa using hu2) λh' b1 b2 b3 b4 b5 b6 b7=>?_
  refine⟨_,rfl,wpAny_letOwnedTupleGo_zip (s:={ s with heap:=h' }) b1 λh'' c1 c2=>?_⟩
  have lt:∀{c o},s.heap.get? c=some o→s.heap.objs.size≠c:=λe=>d9 (kY e)
  have kk:∀b o,b∉[z,TI,TO,i1,i2]→s.heap.get? b=some o→h''.get? b=some o:=λb o hb e=>by
   simp only[kI,gW,cE,not_or]at hb
   exact c2.extBut _ _ hb.1 (b7 b o hb.1 hb.2.2.1 hb.2.2.2.1 hb.2.2.2.2 e)
  have I1:Inv X pins σ H { s with heap:=h'' }:=I.turnedN (t':=s.toks) kk hf
  have fr:H s.heap.objs.size=none:=I.hok.fresh (kM _)
  have yg:=I.young (a:=s.heap.objs.size) (cA (kM _))
  have pr:IsPair h'' s.heap.objs.size u1 u2:=c2.extBut _ _ (lt a1) b5
  have I2:=I1.trackG (o:=.tup [x,y]) fr yg (d9 I.lt) (λx' c' w q'=>by
   obtain⟨v,o',ho,_⟩:=I.cell x' c' w
   exact absurd (kY ho) (by rw[q'];exact dR _)) ⟨by rw[gI,mM,mM,pN];lia,[u1,u2],.cons ru1 (.cons ru2 .nil),⟨_,pr,rfl,_,rfl⟩⟩
  refine⟨.ref s.heap.objs.size,_,I2,rfl,⟨_,x,y,rfl,fr,rfl,λxs' h=>by rw[I.list_inj h hq1];exact hx,λys' h=>by rw[I.list_inj h hq2];exact hy⟩,
   ⟨c1,c2.extBut _ _ D.TIz (b7 _ _ D.TIz D.TITO D.TIi1 D.TIi2 a2),⟨_,_,c2.extBut _ _ D.TOz b2⟩,b3.extBut c2.extBut D.i1z,b4.extBut c2.extBut D.i2z⟩,λb hb=>?_⟩
  have ob:∃o,s.heap.get? b=some o:=by
   obtain⟨o4,e4,_⟩:=a4
   obtain⟨o5,e5,_⟩:=a5
   simp only[kI,gW,cE]at hb
   rcases hb with rfl|rfl|rfl|rfl|rfl
   ·exact⟨_,a1⟩
   ·exact⟨_,a2⟩
   ·exact⟨_,a3⟩
   ·exact⟨_,e4⟩
   ·exact⟨_,e5⟩
  obtain⟨o,e⟩:=ob
  rw[qC (wH (lt e))]
  exact(hf b hb).1
 done:=by
  intro X hP hw hK hc i pins s σ H E I hf st hg
  subst hP hw hK
  obtain⟨xs,ys,hq1,hq2,hx⟩:=hg
  obtain⟨its1,rv1,p1,hz1⟩:=I.list hq1
  obtain⟨its2,rv2,p2,hz2⟩:=I.list hq2
  obtain⟨a1,a2,⟨p,q,a3⟩,a4,a5⟩:=st
  have e1:=rv1.length
  have e2:=rv2.length
  refine wpAny_pyNext_zip_end (I.ok.hd hc) D a1 a2 a3 a4 a5 p1.isList p2.isList (hx.elim (λh=>.inl (by simp;lia)) λh=>.inr (by simp;lia)) λh' k=>⟨rfl,I.turnedN (t':=s.toks) (λb o hb e=>?_) hf⟩
  simp only[kI,gW,cE,not_or]at hb
  exact k b o hb.1 hb.2.2.1 hb.2.2.2.1 hb.2.2.2.2 e
 self:=λ_ _ _ _ _ st h=>wpAny_pyIter_zip st.1 h
section
variable{X:Cx}
noncomputable def iZip(K:PySem.W.Frag)(ta:TA):TI:=λσ H R=>ta σ H λvs H1=>∃a b,vs=[.ref a,.ref b]∧(∃xs,SqL K H1 a xs)∧(∃ys,SqL K H1 b ys)∧R (Itz K a b) H1
theorem qJ8{a b:Expr}{ta:TA}{p pos:Pos}{elts:List Expr}{x1}{pz:Pos}(hg:Gl X "zip")(hm:X.mg "zip"=none)(ha:PA X [a,b] ta)(hs:starEach [a,b] X.env=[(false,eval a X.env),(false,eval b X.env)]:=by rfl)(hs2:starEach [b] X.env=[(false,eval b X.env)]:=by rfl):
 PI X (.Tuple elts x1 pz) (.Call (.Name "zip" p) [a,b] [] pos) (iZip X.K ta):=by
 intro pins s σ H R I h
 refine Call_ (q3G I hg hm (u:=.type "zip") (by kernel_rfl) (rK (thn (ha pos pins s σ H _ I h) λus s1 ⟨vs,H1,I1,r1,q1⟩=>?_) (by rw[hs,hs2]) (by rw[hs2];rfl)))
 obtain⟨a,b,e,⟨xs,hq1⟩,⟨ys,hq2⟩,q⟩:=q1
 subst e
 obtain⟨u,u',rfl,ru,ru'⟩:=qDN r1
 cases ru
 cases ru'
 obtain⟨its1,rv1,p1,hz1⟩:=I1.list hq1
 obtain⟨its2,rv2,p2,hz2⟩:=I1.list hq2
 refine call_zip_2 p1.isList p2.isList λh' a1 a2 a3 a4 a5 a6 k=>?_
 have n1:@LT.lt Nat _ a s1.heap.objs.size:=by obtain⟨o,n,e,_⟩:=p1;exact kY e
 have n2:@LT.lt Nat _ b s1.heap.objs.size:=by obtain⟨o,n,e,_⟩:=p2;exact kY e
 refine wpAny_pyIter_zip a1 ?_
 have I2:Inv X pins σ H1 { s1 with heap:=h' }:=I1.kept (t':=s1.toks) k
 refine⟨_,[s1.heap.objs.size+4,s1.heap.objs.size+2,s1.heap.objs.size+3,s1.heap.objs.size,s1.heap.objs.size+1],_,_,H1,rfl,I2,qEB _ _ _ _ _ a b ⟨?_,?_,?_,?_,?_,?_,?_,?_,?_,?_,?_,?_,?_,?_,?_,?_,?_,?_⟩,⟨a1,a2,⟨_,_,a3⟩,a4,a5⟩,λc hc=>?_,q⟩
 case refine_19=>
  have hc':s1.heap.objs.size≤c:=by
   simp only[kI,gW,cE]at hc
   rcases hc with rfl|rfl|rfl|rfl|rfl<;>lia
  exact I1.fpOk hc' (I1.hok.fresh hc')
 all_goals (show @Ne Nat _ _;first|exact(λh=>absurd (show(_:Nat)=_ from h) (by lia)))
end
end L2
namespace L2
open PySem
theorem q0J{es rest:List Expr}{x1}{p:Pos}{env:Env}:starEach (.Tuple es x1 p::rest) env=(false,eval (.Tuple es x1 p) env)::starEach rest env:=rfl
theorem qEC{es rest:List Expr}{p:Pos}{env:Env}:starEach (.List es p::rest) env=(false,eval (.List es p) env)::starEach rest env:=rfl
end L2
namespace L2
open PySem PySem.Spec PyProof.Rows
inductive Eqv(K:PySem.W.Frag)(H:Hp):Nat→V→V→Prop where
 |flat {n:Nat} {x:V} (f:zU x=true):Eqv K H n x x
 |lst {n:Nat} {a b:Addr} {xs ys:List V} (ha:SqL K H a xs) (hb:SqL K H b ys) (hl:xs.length=ys.length) (hi:∀(i:Nat) x y,xs[i]?=some x→ys[i]?=some y→Eqv K H n x y):Eqv K H (n+1) (.ref a) (.ref b)
 |tup {n:Nat} {a b:Addr} {xs ys:List V} (ha:SqT K H a xs) (hb:SqT K H b ys) (hl:xs.length=ys.length) (hi:∀(i:Nat) x y,xs[i]?=some x→ys[i]?=some y→Eqv K H n x y):Eqv K H (n+1) (.ref a) (.ref b)
theorem qED{x:V}(f:zU x=true):eqV x x=true:=by
 cases x with
 |non=>rfl
 |bl b=>cases b<;>rfl
 |int i=>show(i==i)=true;exact beq_self_eq_true i
 |str z=>show(z==z)=true;exact beq_self_eq_true z
 |_=>exact absurd (show false=true from f) kQ
theorem zG{n:Nat}:(List.range n).all (λ_=>true)=true:=by simp
section
variable{X:Cx}{pins:List (Addr×Obj)}{σ:St}{H:Hp}{s:Shared}
theorem Vals.atN{xs:List V}{us:List Value}(r:Vals xs us){j:Nat}(h:j<us.length):∃x,xs[j]?=some x∧RelV x us[j]:=by
 have e:xs[j]?=some (xs[j]'(by rw[r.length];exact h)):=hX _
 obtain⟨u,hu,ru⟩:=r.get e
 rw[hX h]at hu
 cases hu
 exact⟨_,e,ru⟩
theorem Eqv.at(I:Inv X pins σ H s){n:Nat}{y x:V}(h:Eqv X.K H n y x):∀{A:Around} {u v:Value},RelV y u→RelV x v→A.units+n<cLine→SeqAt.EqAt A s u v true:=by
 induction h with
 |flat f=>
  intro A u v ru rv _
  have e:=qDS (A:=A) (s:=s) ru rv f f
  rw[qED f]at e
  exact e
 |@lst n a b xs ys ha hb hl hi ih=>
  intro A u v ru rv hu
  cases ru
  cases rv
  by_cases hab:a=b
  ·subst hab
   exact nP _
  ·obtain⟨i1,r1,p1,_⟩:=I.list ha
   obtain⟨i2,r2,p2,_⟩:=I.list hb
   have l1:=r1.length
   have l2:=r2.length
   refine l8 hab ?_
   have e:=SeqAt.RcAt.lists (A:=A) (e:=λ_=>true) p1.isList p2.isList (by simp;lia) (by lia) (λj h1 h2=>?_)
   ·rw[zG]at e
    exact e
   ·obtain⟨x1,e1,q1⟩:=r1.atN (j:=j) (by simpa using h1)
    obtain⟨x2,e2,q2⟩:=r2.atN (j:=j) (by simpa using h2)
    exact ih j x1 x2 e1 e2 (by simpa using q1) (by simpa using q2) (by show A.units+1+n<cLine;lia)
 |@tup n a b xs ys ha hb hl hi ih=>
  intro A u v ru rv hu
  cases ru
  cases rv
  by_cases hab:a=b
  ·subst hab
   exact nP _
  ·obtain⟨i1,r1,p1,_⟩:=I.tuple ha
   obtain⟨i2,r2,p2,_⟩:=I.tuple hb
   have l1:=r1.length
   have l2:=r2.length
   refine l8 hab ?_
   have e:=SeqAt.RcAt.tuples (A:=A) (e:=λ_=>true) (show s.heap.IsTuple a i1.toArray from p1) (show s.heap.IsTuple b i2.toArray from p2) (by lia) (λj h1 h2=>?_)
   ·rw[zG,lR,show(i1.toArray.size==i2.toArray.size)=true by simp;lia]at e
    exact e
   ·obtain⟨x1,e1,q1⟩:=r1.atN (j:=j) (by simpa using h1)
    obtain⟨x2,e2,q2⟩:=r2.atN (j:=j) (by simpa using h2)
    exact ih j x1 x2 e1 e2 (by simpa using q1) (by simpa using q2) (by show A.units+1+n<cLine;lia)
theorem q7Y{x:V}(f:zU x=true):scal x x=true:=by
 cases x with
 |non=>rfl
 |bl b=>rfl
 |int i=>rfl
 |str z=>rfl
 |_=>exact absurd (show false=true from f) kQ
noncomputable def qHP(K:PySem.W.Frag)(r:Bool):R2:=λx y H Q=>Eqv K H 6 x y∧Q (.bl r) H
theorem qEE(hu:X.A.units+64<cLine):OpR X (compareOp .Eq) (qHP X.K true):=by
 intro pins s σ H x y v u Q I rx ry hZ
 obtain⟨h,q⟩:=hZ
 cases h with
 |flat f=>exact vS pins s σ H x x v u Q I rx ry ⟨q7Y f,by rw[hG rfl];exact q⟩
 |@lst _ a b xs ys ha hb hl hi=>
  cases rx
  cases ry
  obtain⟨i1,r1,p1,_⟩:=I.list ha
  obtain⟨i2,r2,p2,_⟩:=I.list hb
  have l1:=r1.length
  have l2:=r2.length
  refine x9 (e:=λ_=>true) p1.isList p2.isList (by simp;lia) (by lia) (λj h1 h2=>?_) ⟨.bl true,H,I,by rw[zG];rfl,q⟩
  obtain⟨x1,e1,q1⟩:=r1.atN (j:=j) (by simpa using h1)
  obtain⟨x2,e2,q2⟩:=r2.atN (j:=j) (by simpa using h2)
  exact(hi j x1 x2 e1 e2).at I (by simpa using q1) (by simpa using q2) (by show X.A.units+1+5<cLine;lia)
 |@tup _ a b xs ys ha hb hl hi=>
  cases rx
  cases ry
  obtain⟨i1,r1,p1,_⟩:=I.tuple ha
  obtain⟨i2,r2,p2,_⟩:=I.tuple hb
  have l1:=r1.length
  have l2:=r2.length
  refine SeqAt.eq_tupleAt (e:=λ_=>true) (show s.heap.IsTuple a i1.toArray from p1) (show s.heap.IsTuple b i2.toArray from p2) (by lia) (λj h1 h2=>?_) ⟨.bl true,H,I,by rw[zG,lR,show(i1.toArray.size==i2.toArray.size)=true by simp;lia];rfl,q⟩
  obtain⟨x1,e1,q1⟩:=r1.atN (j:=j) (by simpa using h1)
  obtain⟨x2,e2,q2⟩:=r2.atN (j:=j) (by simpa using h2)
  exact(hi j x1 x2 e1 e2).at I (by simpa using q1) (by simpa using q2) (by show X.A.units+1+5<cLine;lia)
theorem q61(hu:X.A.units+64<cLine):OpR X (compareOp .NotEq) (qHP X.K false):=by
 intro pins s σ H x y v u Q I rx ry hZ
 obtain⟨h,q⟩:=hZ
 cases h with
 |flat f=>exact q5T pins s σ H x x v u Q I rx ry ⟨q7Y f,by rw[hG rfl];exact q⟩
 |@lst _ a b xs ys ha hb hl hi=>
  cases rx
  cases ry
  obtain⟨i1,r1,p1,_⟩:=I.list ha
  obtain⟨i2,r2,p2,_⟩:=I.list hb
  have l1:=r1.length
  have l2:=r2.length
  refine SeqAt.RcNeAt.lists (e:=λ_=>true) p1.isList p2.isList (by simp;lia) (by lia) (λj h1 h2=>?_) _ _ _ _ ⟨.bl false,H,I,by rw[zG];rfl,q⟩
  obtain⟨x1,e1,q1⟩:=r1.atN (j:=j) (by simpa using h1)
  obtain⟨x2,e2,q2⟩:=r2.atN (j:=j) (by simpa using h2)
  exact(hi j x1 x2 e1 e2).at I (by simpa using q1) (by simpa using q2) (by show X.A.units+1+5<cLine;lia)
 |@tup _ a b xs ys ha hb hl hi=>
  cases rx
  cases ry
  obtain⟨i1,r1,p1,_⟩:=I.tuple ha
  obtain⟨i2,r2,p2,_⟩:=I.tuple hb
  have l1:=r1.length
  have l2:=r2.length
  refine lL (e:=λ_=>true) (show s.heap.IsTuple a i1.toArray from p1) (show s.heap.IsTuple b i2.toArray from p2) (by lia) (λj h1 h2=>?_) _ _ _ _ ⟨.bl false,H,I,by rw[zG,lR,show(i1.toArray.size==i2.toArray.size)=true by simp;lia];rfl,q⟩
  obtain⟨x1,e1,q1⟩:=r1.atN (j:=j) (by simpa using h1)
  obtain⟨x2,e2,q2⟩:=r2.atN (j:=j) (by simpa using h2)
  exact(hi j x1 x2 e1 e2).at I (by simpa using q1) (by simpa using q2) (by show X.A.units+1+5<cLine;lia)
end
end L2
namespace L2
open PySem
theorem qCZ{K:PySem.W.Frag}{H:Hp}{n:Nat}{a b:Addr}{xs:List V}(ha:SqT K H a xs)(hb:SqT K H b xs)(f:∀x∈xs,zU x=true):Eqv K H (n+1) (.ref a) (.ref b):=
 .tup ha hb rfl λi x y hx hy=>by
  have e:=kN (hx.symm.trans hy)
  subst e
  exact .flat (f x (gE hx))
theorem qBQ{K:PySem.W.Frag}{H:Hp}{a b:Addr}{rs rs':List V}{ds:List (Str×Int×Bool)}(ha:H a=some (.lst rs))(hb:H b=some (.lst rs'))(r:Recd H rs ds)(r':Recd H rs' ds):Eqv K H 6 (.ref a) (.ref b):=
 .lst (SqL.of ha) (SqL.of hb) (r.len.trans r'.len.symm) λi x y hx hy=>by
  obtain⟨d,hd,p,rfl,hp⟩:=Paired.at r hx
  obtain⟨d',hd',p',rfl,hp'⟩:=Paired.at r' hy
  have e:=kN (hd.symm.trans hd')
  subst e
  exact qCZ (SqT.of hp) (SqT.of hp') (by simp[zU])
end L2
namespace L2
open PySem PySem.Spec PyProof.Rows
noncomputable def clOf(env:Env):List (Str×NameKind)→List (Str×Addr)→List (Str×Addr)
 | [],cs=>cs
 |(n,k)::r,cs=>clOf env r (if(k==NameKind.free)=true then(match env.cells.lookup n with|some a=>(n,a)::cs|none=>cs)else cs)
theorem q62{scope:Scope}{env:Env}(h:∀y∈scope.names,y.2=.free→∃c,env.cells.lookup y.1=some c):closureFor scope env=pure (clOf env scope.names []):=by
 unfold closureFor
 have go:∀(l:List (Str×NameKind)) (cs:List (Str×Addr)),(∀y∈l,y.2=.free→∃c,env.cells.lookup y.1=some c)→
  (forIn l cs λx r=>(match x with|(name,kind)=>if(kind==NameKind.free)=true then do let a←cellOf env name;pure (ForInStep.yield ((name,a)::r))else pure (ForInStep.yield r):Sem (ForInStep (List (Str×Addr)))))=pure (clOf env l cs):=by
  intro l
  induction l with
  |nil=>intro cs _;rfl
  |cons y r ih=>
   intro cs hl
   obtain⟨n,k⟩:=y
   rw[aA]
   by_cases hk:(k==NameKind.free)=true
   ·obtain⟨c,e⟩:=hl (n,k) kU (by simpa using hk)
    have e2:cellOf env n=pure c:=by unfold cellOf;rw[e]
    show(bind (if(k==NameKind.free)=true then _ else _) _:Sem _)=_
    rw[kD hk,e2]
    show(forIn r ((n,c)::cs) _:Sem _)=pure (clOf env r (if(k==NameKind.free)=true then(match env.cells.lookup n with|some a=>(n,a)::cs|none=>cs)else cs))
    rw[kD hk,e]
    exact ih _ λy hy=>hl y (hU _ hy)
   ·show(bind (if(k==NameKind.free)=true then _ else _) _:Sem _)=_
    rw[kB hk]
    show(forIn r cs _:Sem _)=pure (clOf env r (if(k==NameKind.free)=true then(match env.cells.lookup n with|some a=>(n,a)::cs|none=>cs)else cs))
    rw[kB hk]
    exact ih _ λy hy=>hl y (hU _ hy)
 exact(gX (λz:Sem (List (Str×Addr))=>z >>= λs=>pure s) (go scope.names [] h)).trans rfl
theorem q63{env:Env}{x:Str}{c:Addr}:∀(l:List (Str×NameKind)) (cs:List (Str×Addr)),(cs.lookup x=some c→env.cells.lookup x=some c)→(clOf env l cs).lookup x=some c→env.cells.lookup x=some c
 | [],cs,hcs,h=>hcs h
 |(n,k)::r,cs,hcs,h=>by
  refine q63 r _ ?_ h
  intro q
  split at q
  ·cases e:env.cells.lookup n with
   |none=>rw[e]at q;exact hcs q
   |some a=>
    rw[e]at q
    have q:List.lookup x ((n,a)::cs)=some c:=q
    rw[d6]at q
    cases z:x==n with
    |true=>
     rw[z]at q
     have z':x=n:=by simpa using z
     rw[z',e,←q]
    |false=>
     rw[z]at q
     exact hcs q
  ·exact hcs q
theorem q64{env:Env}{x:Str}{c:Addr}(e:env.cells.lookup x=some c):∀(l:List (Str×NameKind)) (cs:List (Str×Addr)),((x,NameKind.free)∈l∨cs.lookup x=some c)→(clOf env l cs).lookup x=some c
 | [],cs,h=>h.resolve_left (by simp)
 |(n,k)::r,cs,h=>by
  refine q64 e r _ ?_
  by_cases hn:(x==n)=true
  ·have z':x=n:=by simpa using hn
   by_cases hk:(k==NameKind.free)=true
   ·refine .inr ?_
    rw[kD hk,←z',e]
    show List.lookup x ((x,c)::cs)=some c
    simp
   ·rcases h with h|h
    ·rcases kI.mp h with q|q
     ·cases q
      exact absurd (by simp) hk
     ·exact .inl q
    ·rw[kB hk];exact .inr h
  ·have nx:x≠n:=λz=>hn (by simp[z])
   rcases h with h|h
   ·rcases kI.mp h with q|q
    ·cases q
     exact absurd rfl nx
    ·exact .inl q
   ·refine .inr ?_
    split
    ·cases en:env.cells.lookup n with
     |none=>exact h
     |some a=>
      show List.lookup x ((n,a)::cs)=some c
      have hn:(x==n)=false:=by simpa using nx
      rw[d6,hn]
      exact h
    ·exact h
theorem q9R{env:Env}{x:Str}:∀{names:List (Str×NameKind)},(∀y∈names,y.2≠ .cell)→
 ((names.map λ(n,k)=>if(k==NameKind.free&&env.scope.kind== .function&&env.kindOf n==some .cell)then(n,NameKind.cell)else(n,k)).lookup x=some .cell∨
  (names.map λ(n,k)=>if(k==NameKind.free&&env.scope.kind== .function&&env.kindOf n==some .cell)then(n,NameKind.cell)else(n,k)).lookup x=some .free)→(x,NameKind.free)∈names
 | [],_,h=>by simp at h
 |(n,k)::r,hc,h=>by
  have ih:=@q9R env x r λy hy=>hc y (hU _ hy)
  rw[mE]at h
  by_cases hq:(k==NameKind.free&&env.scope.kind== .function&&env.kindOf n==some .cell)=true
  ·have hk:k=.free:=by
    rw[mU,mU]at hq
    simpa using hq.1.1
   simp only[kD hq,d6]at h
   cases hx:x==n with
   |true=>
    have e:x=n:=by simpa using hx
    rw[e,hk]
    exact kU
   |false=>
    simp only[hx]at h
    exact hU _ (ih h)
  ·simp only[kB hq,d6]at h
   cases hx:x==n with
   |true=>
    simp only[hx]at h
    have e:x=n:=by simpa using hx
    rcases h with h|h
    ·cases h
     exact absurd rfl (hc _ kU)
    ·cases h
     rw[e]
     exact kU
   |false=>
    simp only[hx]at h
    exact hU _ (ih h)
theorem q9S{env:Env}{x:Str}(hk:env.scope.kind=.function)(he:env.kindOf x=some .cell):∀{names:List (Str×NameKind)},names.lookup x=some .free→
 (names.map λ(n,k)=>if(k==NameKind.free&&env.scope.kind== .function&&env.kindOf n==some .cell)then(n,NameKind.cell)else(n,k)).lookup x=some .cell
 | [],h=>by simp at h
 |(n,k)::r,h=>by
  have ih:=@q9S env x hk he r
  rw[mE]
  rw[d6]at h
  cases hx:x==n with
  |true=>
   simp only[hx]at h
   have e:x=n:=by simpa using hx
   cases h
   subst e
   show List.lookup x ((if(NameKind.free==NameKind.free&&env.scope.kind==ScopeKind.function&&env.kindOf x==some NameKind.cell)=true then(x,NameKind.cell)else(x,NameKind.free))::_)=_
   rw[kD (by rw[hk,he];rfl),d6]
   simp
  |false=>
   simp only[hx]at h
   show List.lookup x ((if(k==NameKind.free&&env.scope.kind==ScopeKind.function&&env.kindOf n==some NameKind.cell)=true then(n,NameKind.cell)else(n,k))::_)=_
   by_cases hq:(k==NameKind.free&&env.scope.kind== .function&&env.kindOf n==some .cell)=true
   ·rw[kD hq,d6]
    simp only[hx]
    exact ih h
   ·rw[kB hq,d6]
    simp only[hx]
    exact ih h
noncomputable abbrev vT(X:Cx)(N:List Str)(scope:Scope)(C:Addr)(fp:List Addr)(s:Shared)(H:Hp)(xe:Value→Shared→Prop):Cx:=
 { X with N:=N,s₀:=s,H₀:=H,env:=compEnvC scope (clOf X.env scope.names []) C X.env,outer:=X.stack,ex:=fp,fn:=λ_=>false,pn:=[],xe:=xe }
noncomputable def pick(ix:List Nat)(σ:St):St:=ix.map λi=>σ.getD i none
noncomputable def q7Z(XN:List Str)(kd:Str→Option NameKind)(names:List (Str×NameKind))(N:List Str)(ix:List Nat):Bool:=
 (List.range ix.length).all λj=>match N[j]?,ix[j]? with
  |some x,some i=>decide (XN[i]?=some x)&&decide (names.lookup x=some .free)&&decide (kd x=some .cell)
  |_,_=>false
theorem qEF{XN:List Str}{kd:Str→Option NameKind}{names:List (Str×NameKind)}{N:List Str}{ix:List Nat}(h:q7Z XN kd names N ix=true){j:Nat}(hj:j<ix.length){x:Str}(hx:N[j]?=some x):
 ∃i,ix[j]?=some i∧XN[i]?=some x∧names.lookup x=some .free∧kd x=some .cell:=by
 unfold q7Z at h
 rw[d7]at h
 have q:=h j (mL.mpr hj)
 rw[hx,hX hj]at q
 simp only[mU,kX]at q
 exact⟨_,hX hj,q.1.1,q.1.2,q.2⟩
theorem qGA{X:Cx}{pins:List (Addr×Obj)}{σ:St}{H:Hp}{s:Shared}(I:Inv X pins σ H s){N:List Str}{ix:List Nat}{scope:Scope}{fp:List Addr}{xe:Value→Shared→Prop}(hf:∀b∈fp,FpOk X pins H b)(ho:∀b∈fp,∃o,s.heap.get? b=some o)
 (hk:scope.kind=.function) (hc:∀y∈scope.names,y.2≠ .cell) (hfr:∀y∈scope.names,y.2=.free→X.env.kindOf y.1=some .cell) (hcap:q7Z X.N X.env.kindOf scope.names N ix=true) (hN:ix.length≤N.length) {h₁:Heap} {tk n:Nat} {m:Str→Option Value}
 (hn:h₁.Ns (s.heap.objs.size+1) m) (hkp:∀b u,s.heap.get? b=some u→h₁.get? b=some u) (hD:h₁.get? s.heap.objs.size=some { cls:=.type "list",data:=.seq ([]:List Value).toArray n }):
 Inv (vT X N scope (s.heap.objs.size+1) fp s H xe) [] (pick ix σ++List.replicate (N.length-ix.length) none) (upd H s.heap.objs.size (.lst [])) { s with heap:=h₁,toks:=tk }:=by
 have fresh:H s.heap.objs.size=none:=I.hok.fresh (kM _)
 have fresh1:H (s.heap.objs.size+1)=none:=I.hok.fresh (rC _)
 have cel:∀x c,(clOf X.env scope.names []).lookup x=some c→X.env.cells.lookup x=some c:=λx c e=>q63 _ _ (by intro q;simp at q) e
 have clt:∀x c,(clOf X.env scope.names []).lookup x=some c→c<s.heap.objs.size:=λx c e=>by
  obtain⟨v,q⟩:=I.cell x c (cel x c e)
  exact q.lt
 refine⟨⟨I.ok.mod,hk,I.ok.glob,I.ok.blt,rC _,λx y c h1 h2=>I.ok.inj x y c (cel x c h1) (cel y c h2),λx hx=>?_,λx c h=>absurd h kQ,I.ok.hd,I.ok.frames,.inl rfl,λb hb=>⟨?_,λx c e=>?_⟩,I.bs,kO I.ok.bsz I.sz,λb o e hb=>?_,λb hb z=>?_,I.stack,I.stkFree⟩,
  rfl,I.bare,Un.laid hkp (kM _) fresh,⟨m,hn,λi x v e1 e2 e3=>?_⟩,λx c e=>?_,?_,λx c e=>?_,λp hp=>?_,I.hok.laid hkp (kM _) ⟨by simp,[],n,.nil,hD⟩,?_⟩
 ·have hx:(x,NameKind.free)∈scope.names:=q9R hc hx
  obtain⟨c,e⟩:=I.ok.has x (.inl (hfr _ hx rfl))
  exact⟨c,q64 e _ _ (.inl hx)⟩
 ·obtain⟨o,e⟩:=ho b hb
  exact m9 (wB (kY e))
 ·exact(hf b hb).2.2.2.2.1 x c (cel x c e)
 ·rcases(hf b hb).2.2.2.1 with z|z
  ·exact I.ok.noex b o e z
  ·exact absurd (mY (kY e) (kO I.ok.bsz z)) (dR _)
 ·rcases kI.mp (I.stkSub b z)with z|z
  ·exact(hf b hb).2.1 z
  ·exact(hf b hb).2.2.1 z
 ·have hi:i<ix.length:=by
   by_cases hi:i<ix.length
   ·exact hi
   ·rw[dS (by simpa[pick]using hi),wJ]at e2
    split at e2<;>cases e2
  obtain⟨i0,q1,q2,q3,q4⟩:=qEF hcap hi e1
  rw[sE (by simpa[pick]using hi)]at e2
  have e2:σ[i0]?=some (some v):=by
   unfold pick at e2
   rw[mC,q1]at e2
   have e2:σ.getD i0 none=some v:=kN e2
   rw[kJ]at e2
   cases z:σ[i0]? with
   |none=>rw[z]at e2;cases e2
   |some y=>rw[z]at e2;exact gX some e2
  obtain⟨mX,_,lX⟩:=I.loc
  obtain⟨u,r,l⟩:=lX i0 x v q2 e2 (.inr (.inl q4))
  refine⟨u,r,.inr ⟨.inl (q9S I.ok.kind q4 q3),?_⟩⟩
  rcases l with⟨l,_⟩|⟨_,c,e,z⟩
  ·rw[q4]at l;cases l
  ·obtain⟨o,e',d⟩:=z
   exact⟨c,q64 e _ _ (.inl (gR q3)),o,hkp _ _ e',d⟩
 ·obtain⟨v,o,e',d⟩:=I.cell x c (cel x c e)
  exact⟨v,o,hkp _ _ e',d⟩
 ·show upd H s.heap.objs.size (.lst []) (s.heap.objs.size+1)=none
  rw[qC (d9 (rP _))]
  exact fresh1
 ·rw[qC (m9 (clt x c e))]
  exact I.freeC x c (cel x c e)
 ·exact absurd (show p∈([]:List (Addr×Obj))from hp) (by simp)
 ·show _=N.length
  rw[kZ,gM]
  simp only[pick,hC]
  lia
noncomputable def PIf(X:Cx)(ifs:List Expr)(t:TT):Prop:=
 ∀(pins:List (Addr×Obj)) (s:Shared) (σ:St) (H:Hp) (Q:Bool→Hp→Prop),Inv X pins σ H s→t σ H Q→
  wpAny (model X.prog X.w) X.A (forIn ifs true λc r=>if r=true then do let ok←isTrue c X.env (eval c X.env);pure (ForInStep.yield ok)else pure (ForInStep.yield r)) (TP X pins σ Q) X.xe s
noncomputable def q80:TT:=λ_ H Q=>Q true H
theorem qEG{A B:Hp→Prop}{σ:St}{H:Hp}(h:A H):q80 σ H (λb H6=>if b=true then A H6 else B H6):=by
 show if true=true then A H else B H
 rw[kD rfl]
 exact h
theorem q18{X:Cx}:PIf X [] q80:=λpins s σ H Q I h=>mO ⟨H,I,h⟩
theorem uL{X:Cx}{c:Expr}{t:TT}(hc:PT X c t):PIf X [c] t:=λpins s σ H Q I h=>by
 rw[aA]
 show wpAny _ _ (bind (if true=true then _ else _) _) _ _ _
 rw[kD rfl]
 refine kL (kL (thn (hc pins s σ H Q I h) λb s1 q=>?_))
 exact mO (mO q)
noncomputable def tLC(wi:TI)(g:TG)(tc:TT)(te:TE)(ix:List Nat)(k:Nat):TE:=λσ H Q=>wi σ H λJ H1=>∀D H2,H1 D=none→Same H1 H2→H2 D=some (.lst [])→
 ∃W:Nat→Nat→Hp→Prop,(∃m,W 0 m H2)∧∀i m H3,W i m H3→(J.stop i H3∧Q (.ref D) H3)∨
  (J.go i H3∧∃N:Hp→Prop,(∀H',N H'→∃m',m'<m∧W (i+1) m' H')∧∀x H4,J.yld i H3 x H4→g x (pick ix σ++List.replicate k none) H4 λσ5 H5=>tc σ5 H5 λb H6=>
   if b=true then te σ5 H6 (λv H7=>∃vs,H7 D=some (.lst vs)∧vs.length<sizeLine∧N (upd H7 D (.lst (vs++[v]))))else N H6)
noncomputable def Own(g:TG)(k:Nat):Prop:=∀x σ H Q,g x σ H Q→g x σ H λσ' H'=>Q σ' H'∧σ'.length=σ.length∧∀j,j<k→σ'[j]?=σ[j]?
noncomputable def OwnS(g:TGs)(k:Nat):Prop:=∀(xs:List V) (σ:St) (H:Hp) (Q:St→Hp→Prop) (σ0:St),σ.length=σ0.length→(∀j,j<k→σ[j]?=σ0[j]?)→g xs σ H Q→g xs σ H λσ' H'=>Q σ' H'∧σ'.length=σ0.length∧∀j,j<k→σ'[j]?=σ0[j]?
theorem qBR{k:Nat}:OwnS gNil k:=λxs σ H Q σ0 h1 h2 ⟨e,q⟩=>⟨e,q,h1,h2⟩
theorem q42{i k:Nat}{u:TGs}(h:k≤i)(hu:OwnS u k):OwnS (qHG (q1U i) u) k:=λxs σ H Q σ0 h1 h2 ⟨v,r,e,q⟩=>
 ⟨v,r,e,hu r (σ.set i (some v)) H Q σ0 (gD.trans h1) (λj hj=>by rw[cB (by lia)];exact h2 j hj) q⟩
theorem qBS{K:PySem.W.Frag}{n k:Nat}{g:TGs}(h:OwnS g k):Own (gTup K n g) k:=λx σ H Q ⟨a,xs,e1,e2,e3,q⟩=>⟨a,xs,e1,e2,e3,h xs σ H Q σ rfl (λ_ _=>rfl) q⟩
theorem jX{i k:Nat}(h:k≤i):Own (q1U i) k:=λx σ H Q q=>⟨q,gD,λj hj=>by rw[cB (by lia)]⟩
theorem qGB{P:Program}{w:World}{A:Around}{R:Result→Shared→Prop}{s:Shared}{elt tg iter:Expr}{ifs:List Expr}{sc:Scope}{pos:Pos}{it acc:Value}{env:Env}(J:Nat→Shared→Prop)
 (turn:∀n s1,J n s1→wpAny (model P w) A (pyNext it) (λr s2=>match r with
  |none=>R (.ok .next) s2
  |some v=>wpAny (model P w) A (letOwnedTupleGo tg it v) (λ_ s3=>wpAny (model P w) A (assign tg env v) (λ_ s4=>
   wpAny (model P w) A (forIn ifs true λc r=>if r=true then do let ok←isTrue c env (eval c env);pure (ForInStep.yield ok)else pure (ForInStep.yield r)) (λok s5=>
    if ok=true then wpAny (model P w) A (eval elt env) (λx s6=>wpAny (model P w) A (call (.builtin "list.append") [acc,x]) (λ_ s7=>∃m,m<n∧J m s7) (notedBy (model P w) A env λe s'=>R (.error e) s') s6) (notedBy (model P w) A env λe s'=>R (.error e) s') s5
    else ∃m,m<n∧J m s5) (notedBy (model P w) A env λe s'=>R (.error e) s') s4) (notedBy (model P w) A env λe s'=>R (.error e) s') s3) (notedBy (model P w) A env λe s'=>R (.error e) s') s2) (notedBy (model P w) A env λe s'=>R (.error e) s') s1)
 (n:Nat) (h:J n s):codeAny (model P w) A (.compLoop (.ListComp elt [⟨tg,iter,ifs,0⟩] sc pos) 0 it acc env) R s:=by
 refine codeAny_loop rfl J (λm s1 hJ=>?_) n h
 show wpAny _ A ((compTurn _ 0 it acc env).onRaise (λx=>do noteFrame x env;theTreesLotGoes x)) _ _ s1
 refine wpAny_noted ?_
 rw[compTurn_list]
 refine kL (pK (kL (thn (turn m s1 hJ) λr s2 h2=>?_)))
 cases r with
 |none=>exact mO h2
 |some v=>
  refine kL (thn h2 λ_ s3 h3=>kL (thn h3 λ_ s4 h4=>kL (thn h4 λok s5 h5=>?_)))
  cases ok with
  |false=>exact mO ⟨rfl,h5⟩
  |true=>exact kL (kL (thn h5 λx s6 h6=>kL (thn h6 λ_ s7 h7=>mO (mO ⟨rfl,h7⟩))))
theorem qBT{X:Cx}{elt iter tg:Expr}{ifs:List Expr}{scope:Scope}{pos cp:Pos}{wi:TI}{g:TG}{tc:TT}{te:TE}{use:Option (Value→Sem Unit)}{QQ:Value→Shared→Prop}{pins:List (Addr×Obj)}{s:Shared}{σ:St}{H:Hp}{Q:VK}(N:List Str)(ix:List Nat)(hcalm:X.calm=true)(hi:PI X tg iter wi)
 (hg:∀C fp s H xe,PG (vT X N scope C fp s H xe) tg g) (hif:∀C fp s H xe,PIf (vT X N scope C fp s H xe) ifs tc) (he:∀C fp s H xe,PE (vT X N scope C fp s H xe) elt te)
 (hk:scope.kind=.function) (hc:∀y∈scope.names,y.2≠ .cell) (hfr:∀y∈scope.names,y.2=.free→X.env.kindOf y.1=some .cell) (hcap:q7Z X.N X.env.kindOf scope.names N ix=true) (hN:ix.length≤N.length)
 (hnames:∀x∈scope.names,x.2=.local→scope.names.lookup x.1=some .local) (hown:Own g ix.length) (I:Inv X pins σ H s) (h:tLC wi g tc te ix (N.length-ix.length) σ H Q)
 (hfin:∀(C D:Addr) (H':Hp) (s':Shared) (m:Str→Option Value),s'.heap.Ns C m→FpOk X pins H' C→(∀h',Heap.SameBut C s'.heap h'→Inv X pins σ H' { s' with heap:=h' })→Q (.ref D) H'→compPost (model X.prog X.w) X.A X.xe use QQ (.ref D) C (.ok .next) s')
 (hs:∀x,foldedSetIterable iter X.env x=pure x:=by intro _;rfl):
 wpAny (model X.prog X.w) X.A (comprehension (.ListComp elt [⟨tg,iter,ifs,0⟩] scope pos) scope X.env cp (newList []) false (eval iter X.env) use) QQ X.xe s:=by
 refine wpAny_comprehension_free (use:=use) (cl:=clOf X.env scope.names []) rfl hs (q62 λy hy hyf=>I.ok.has _ (.inl (hfr y hy hyf))) hk hnames (thn (hi pins s σ H _ I h) λv s1 h1=>thn h1 λitv s2 h2=>?_)
 obtain⟨it,fp,tn,J,H2,e,I2,T,st2,f2,q2⟩:=h2
 subst e
 refine xH (lG hc (by intro y hy;simp at hy) (λh₁ hns₁ hsb₁=>?_) hk)
 dsimp only at hns₁ hsb₁ ⊢
 rw[p7]at hns₁ hsb₁ ⊢
 have old:∀b o,s2.heap.get? b=some o→h₁.get? b=some o:=λb o e=>hsb₁.extBut b o (m9 (wB (kY e))) (kF _ (kF _ e))
 have hacc:h₁.get? s2.heap.objs.size=some { cls:=.type "list",data:=.seq ([]:List Value).toArray }:=hsb₁.extBut _ _ (m9 (rP _)) (kF _ (mP _ rfl))
 have fob:∀b∈fp,∃o,s2.heap.get? b=some o:=λb hb=>let⟨o,e,_⟩:=T.obj _ _ st2 b hb;⟨o,e⟩
 have fresh:H2 s2.heap.objs.size=none:=I2.hok.fresh (kM _)
 obtain⟨W,⟨m0,w0⟩,turn⟩:=q2 s2.heap.objs.size (upd H2 s2.heap.objs.size (.lst [])) fresh (Same.upd fresh) qH
 have fin:∀{pY σ' H' s'},Inv (vT X N scope (s2.heap.objs.size+1) fp s2 H2 (notedBy (model X.prog X.w) X.A (compEnvC scope (clOf X.env scope.names []) (s2.heap.objs.size+1) X.env) λe s'=>compPost (model X.prog X.w) X.A X.xe use QQ (.ref s2.heap.objs.size) (s2.heap.objs.size+1) (.error e) s')) pY σ' H' s'→Q (.ref s2.heap.objs.size) H'→
  compPost (model X.prog X.w) X.A X.xe use QQ (.ref s2.heap.objs.size) (s2.heap.objs.size+1) (.ok .next) s':=fun {pY σ' H' s'} J q=>by
  obtain⟨m,hm,_⟩:=id J.loc
  refine hfin (s2.heap.objs.size+1) s2.heap.objs.size H' s' m hm (I2.fpOk (rC _) J.free) (λh' sb=>?_) q
  have eb:∀b o,b≠s2.heap.objs.size+1→s'.heap.get? b=some o→h'.get? b=some o:=λb o nb e=>sb.extBut b o nb e
  have low:∀b o,s2.heap.get? b=some o→b≠s2.heap.objs.size+1:=λb o e=>m9 (wB (kY e))
  have u:=J.base
  have nC:H' (s2.heap.objs.size+1)=none:=J.free
  refine I2.call' (ch:=fp) (s':={ s' with heap:=h' }) J.os ⟨λb o e n1 n2 n3=>eb b o (low b o e) (u.keep b o e n1 n2 n3),λb o e n1 n2 n3=>?_,u.free,λb o e n1=>?_,u.tups,u.frzs,u.tbls⟩ (λb o e=>?_) J.bare λb hb=>⟨(f2 b hb).2.2.2.1,(f2 b hb).2.1,(f2 b hb).2.2.2.2.1,(f2 b hb).2.2.2.2.2⟩
  ·obtain⟨sl,q1⟩:=u.slot b o e n1 n2 n3
   exact⟨sl,eb b _ (low b o e) q1⟩
  ·obtain⟨o',q1⟩:=u.there b o e n1
   exact⟨o',eb b _ (low b o e) q1⟩
  ·refine(J.hok b o e).stay (λc v hc q1=>eb c v ?_ q1) (λ_ q1=>q1) λ_ _ q1=>q1
   rcases hc with rfl|z
   ·exact qF e nC
   ·exact qF z nC
 have IY:Inv (vT X N scope (s2.heap.objs.size+1) fp s2 H2 (notedBy (model X.prog X.w) X.A (compEnvC scope (clOf X.env scope.names []) (s2.heap.objs.size+1) X.env) λe s'=>compPost (model X.prog X.w) X.A X.xe use QQ (.ref s2.heap.objs.size) (s2.heap.objs.size+1) (.error e) s')) [] (pick ix σ++List.replicate (N.length-ix.length) none) (upd H2 s2.heap.objs.size (.lst [])) { s2 with heap:=h₁,toks:=s2.toks+([]:List (Str×Value)).length }:=
  qGA I2 f2 fob hk hc hfr hcap hN hns₁ old hacc
 generalize hY:vT X N scope (s2.heap.objs.size+1) fp s2 H2 (notedBy (model X.prog X.w) X.A (compEnvC scope (clOf X.env scope.names []) (s2.heap.objs.size+1) X.env) λe s'=>compPost (model X.prog X.w) X.A X.xe use QQ (.ref s2.heap.objs.size) (s2.heap.objs.size+1) (.error e) s')=Y at IY fin
 have hgY:PG Y tg g:=hY▸hg _ _ _ _ _
 have hifY:PIf Y ifs tc:=hY▸hif _ _ _ _ _
 have heY:PE Y elt te:=hY▸he _ _ _ _ _
 have hP:Y.prog=X.prog:=by rw[←hY]
 have hw:Y.w=X.w:=by rw[←hY]
 have hK:Y.K=X.K:=by rw[←hY]
 have hcl:Y.calm=true:=by rw[←hY];exact hcalm
 have stat:∀{H':Hp},(∀b∈fp,H' b=none)→∀b∈fp,FpOk Y [] H' b:=fun {H'} hn b hb=>by
  rw[←hY]
  refine⟨hn b hb,?_,λz=>?_,.inl hb,λx c e=>?_,λp hp=>absurd (show p∈([]:List (Addr×Obj))from hp) (by simp)⟩
  ·obtain⟨o,e⟩:=fob b hb
   exact m9 (wB (kY e))
  ·rcases kI.mp (I2.stkSub b z)with z|z
   ·exact(f2 b hb).2.1 z
   ·exact(f2 b hb).2.2.1 z
  ·exact(f2 b hb).2.2.2.2.1 x c (q63 _ _ (by intro q;simp at q) e)
 have loop:codeAny (model X.prog X.w) X.A (.compLoop (.ListComp elt [⟨tg,iter,ifs,0⟩] scope pos) 0 (.ref it) (.ref s2.heap.objs.size) (compEnvC scope (clOf X.env scope.names []) (s2.heap.objs.size+1) X.env))
  (compPost (model X.prog X.w) X.A X.xe use QQ (.ref s2.heap.objs.size) (s2.heap.objs.size+1)) { s2 with heap:=h₁,toks:=s2.toks+([]:List (Str×Value)).length }:=by
  refine qGB (λn s'=>∃i H',Inv Y [] (pick ix σ++List.replicate (N.length-ix.length) none) H' s'∧tn i s'.heap∧(∀b∈fp,H' b=none)∧W i n H') ?_ m0
   ⟨0,_,IY,T.keep _ _ _ st2 (λb hb o e=>old b o e),λb hb=>by obtain⟨o,e⟩:=fob b hb;rw[qC (m9 (kY e))];exact(f2 b hb).1,w0⟩
  rintro n s3 ⟨i,H3,I3,st3,fr3,w3⟩
  rcases turn i n H3 w3 with⟨stop,qn⟩|⟨go,NN,hNN,step⟩
  ·have d:=T.done Y hP hw hK hcl i [] s3 _ H3 Y.xe I3 (stat fr3) st3 stop
   subst hY
   refine thn d λr s4 hZ=>?_
   obtain⟨hr,I4⟩:=hZ
   subst hr
   exact fin I4 qn
  ·have d:=T.item Y hP hw hK hcl i [] s3 _ H3 Y.xe I3 (stat fr3) st3 go
   have again:∀{p5:List (Addr×Obj)} {s5 s8:Shared} {σ6:St} {H8:Hp},p5=q5S fp s5.heap→tn (i+1) s5.heap→σ6.length=(pick ix σ++List.replicate (N.length-ix.length) none).length→(∀j,j<ix.length→σ6[j]?=(pick ix σ++List.replicate (N.length-ix.length) none)[j]?)→Inv Y ([]++p5) σ6 H8 s8→NN H8→
    ∃m',m'<n∧∃i H',Inv Y [] (pick ix σ++List.replicate (N.length-ix.length) none) H' s8∧tn i s8.heap∧(∀b∈fp,H' b=none)∧W i m' H':=fun {p5 s5 s8 σ6 H8} e5 st5 l6 k6 I8 q8=>by
    subst e5
    obtain⟨m',hm,w8⟩:=hNN _ q8
    refine⟨m',hm,i+1,H8,I8.unpinned.weak l6.symm (λj v e=>?_),T.keep _ _ _ st5 λb hb o e=>(I8.pin (b,o) (mQ _ (mQ _ (v9 hb e)))).1,λb hb=>?_,w8⟩
    ·by_cases hj:j<ix.length
     ·rw[k6 j hj];exact e
     ·rw[dS (by simpa[pick]using hj),wJ]at e
      split at e<;>cases e
    ·obtain⟨o,e,_⟩:=T.obj _ _ st5 b hb
     exact(I8.pin (b,o) (mQ _ (mQ _ (v9 hb e)))).2.1
   have tail:∀(r:Option Value) (s4:Shared),(∃u,r=some u∧wpAny (model Y.prog Y.w) Y.A (letOwnedTupleGo tg (.ref it) u) (λ_ s2=>∃x H',Inv Y [] (pick ix σ++List.replicate (N.length-ix.length) none) H' s2∧RelV x u∧J.yld i H3 x H'∧tn (i+1) s2.heap∧∀b∈fp,H' b=none) Y.xe s4)→
    (match r with
    |none=>compPost (model X.prog X.w) X.A X.xe use QQ (.ref s2.heap.objs.size) (s2.heap.objs.size+1) (.ok .next) s4
    |some v=>wpAny (model Y.prog Y.w) Y.A (letOwnedTupleGo tg (.ref it) v) (λ_ s₁=>wpAny (model Y.prog Y.w) Y.A (assign tg Y.env v) (λ_ s₂=>
     wpAny (model Y.prog Y.w) Y.A (forIn ifs true λc r=>if r=true then do let ok←isTrue c Y.env (eval c Y.env);pure (ForInStep.yield ok)else pure (ForInStep.yield r)) (λok s₃=>
      if ok=true then wpAny (model Y.prog Y.w) Y.A (eval elt Y.env) (λx s₄=>
       wpAny (model Y.prog Y.w) Y.A (call (.builtin "list.append") [.ref s2.heap.objs.size,x]) (λ_ s₅=>∃m,m<n∧∃i H',Inv Y [] (pick ix σ++List.replicate (N.length-ix.length) none) H' s₅∧tn i s₅.heap∧(∀b∈fp,H' b=none)∧W i m H') Y.xe s₄) Y.xe s₃
      else ∃m,m<n∧∃i H',Inv Y [] (pick ix σ++List.replicate (N.length-ix.length) none) H' s₃∧tn i s₃.heap∧(∀b∈fp,H' b=none)∧W i m H') Y.xe s₂) Y.xe s₁) Y.xe s4):=by
    rintro r s4 ⟨u,rfl,h4⟩
    dsimp only
    refine thn h4 λ_ s5 hZ=>?_
    obtain⟨x,H5,I5,r5,y5,st5,fr5⟩:=hZ
    have I5':=I5.pinned (stat fr5) (T.obj _ _ st5)
    refine thn (hgY _ s5 _ H5 x u _ I5' r5 (hown _ _ _ _ (step x H5 y5))) λ_ s6 hZ=>?_
    obtain⟨σ6,H6,I6,q6,l6,k6⟩:=hZ
    refine thn (hifY _ s6 σ6 H6 _ I6 q6) λb s7 hZ=>?_
    obtain⟨H7,I7,q7⟩:=hZ
    cases b with
    |false=>
     rw[kB (by decide)]at q7 ⊢
     exact again rfl st5 l6 k6 I7 q7
    |true=>
     rw[kD rfl]at q7 ⊢
     refine thn (heY _ s7 σ6 H7 _ I7 q7) λy s8 hZ=>?_
     obtain⟨v,H8,I8,r8,vs,e8,hz,q8⟩:=hZ
     refine thn (uR (X:=Y) _ s8 σ6 H8 (.ref s2.heap.objs.size) [v] (.ref s2.heap.objs.size) [y] (λ_ H9=>NN H9) I8 rfl (.cons r8 .nil) ⟨s2.heap.objs.size,vs,v,rfl,rfl,e8,hz,q8⟩) λ_ s9 hZ=>?_
     obtain⟨_,H9,I9,_,q9⟩:=hZ
     exact again rfl st5 l6 k6 I9 q9
   subst hY
   exact thn d tail
 exact codeAny_compStart_list loop (T.self X.A 0 _ _ _ (T.keep _ _ _ st2 λb hb o e=>old b o e) loop)
theorem qKO{X:Cx}{elt iter tg:Expr}{ifs:List Expr}{scope:Scope}{pos:Pos}{wi:TI}{g:TG}{tc:TT}{te:TE}(N:List Str)(ix:List Nat)(hcalm:X.calm=true)(hi:PI X tg iter wi)
 (hg:∀C fp s H xe,PG (vT X N scope C fp s H xe) tg g) (hif:∀C fp s H xe,PIf (vT X N scope C fp s H xe) ifs tc) (he:∀C fp s H xe,PE (vT X N scope C fp s H xe) elt te)
 (hk:scope.kind=.function) (hc:∀y∈scope.names,y.2≠ .cell) (hfr:∀y∈scope.names,y.2=.free→X.env.kindOf y.1=some .cell) (hcap:q7Z X.N X.env.kindOf scope.names N ix=true) (hN:ix.length≤N.length)
 (hnames:∀x∈scope.names,x.2=.local→scope.names.lookup x.1=some .local) (hown:Own g ix.length) (hs:∀x,foldedSetIterable iter X.env x=pure x:=by intro _;rfl):
 PE X (.ListComp elt [⟨tg,iter,ifs,0⟩] scope pos) (tLC wi g tc te ix (N.length-ix.length)):=by
 intro pins s σ H Q I h
 rw[eval_ListComp]
 exact qBT N ix hcalm hi hg hif he hk hc hfr hcap hN hnames hown I h (λC D H' s' m hm fok inv q=>⟨m,hm,λh' sb=>⟨.ref D,H',inv h' sb,rfl,q⟩⟩) hs
noncomputable def qBU(XN:List Str)(kd:Str→Option NameKind)(sc:Scope)(N:List Str)(ix:List Nat):Bool:=
 decide (sc.kind=.function)&&sc.names.all (λy=>decide (y.2≠ .cell)&&(decide (y.2≠ .free)||decide (kd y.1=some .cell))&&(decide (y.2≠ .local)||decide (sc.names.lookup y.1=some .local)))&&q7Z XN kd sc.names N ix&&decide (ix.length≤N.length)
theorem u9{X:Cx}{elt iter tg:Expr}{ifs:List Expr}{scope:Scope}{pos:Pos}{wi:TI}{g:TG}{tc:TT}{te:TE}(N:List Str)(ix:List Nat)(hcalm:X.calm=true)(hi:PI X tg iter wi)
 (hg:∀C fp s H xe,PG (vT X N scope C fp s H xe) tg g) (hif:∀C fp s H xe,PIf (vT X N scope C fp s H xe) ifs tc) (he:∀C fp s H xe,PE (vT X N scope C fp s H xe) elt te)
 (ok:qBU X.N X.env.kindOf scope N ix=true) (hown:Own g ix.length) (hs:∀x,foldedSetIterable iter X.env x=pure x:=by intro _;rfl):
 PE X (.ListComp elt [⟨tg,iter,ifs,0⟩] scope pos) (tLC wi g tc te ix (N.length-ix.length)):=by
 unfold qBU at ok
 rw[mU,mU,mU,d7]at ok
 obtain⟨⟨⟨h1,h2⟩,h3⟩,h4⟩:=ok
 have h2':∀y∈scope.names,y.2≠ .cell∧(y.2≠ .free∨X.env.kindOf y.1=some .cell)∧(y.2≠ .local∨scope.names.lookup y.1=some .local):=λy hy=>by
  have q:=h2 y hy
  rw[mU,mU,wR,wR,kX,kX,kX,kX,kX]at q
  exact⟨q.1.1,q.1.2,q.2⟩
 exact qKO N ix hcalm hi hg hif he (mF h1) (λy hy=>(h2' y hy).1) (λy hy e=>(h2' y hy).2.1.resolve_left (λz=>z e)) h3 (mF h4) (λy hy e=>(h2' y hy).2.2.resolve_left (λz=>z e)) hown hs
theorem qEH{lo:Int}{n:Nat}{D:Addr}{H2:Hp}{g:TG}{tc:TT}{te:TE}{σ0:St}{Q:VK}(Pv:Nat→Hp→Prop)(h0:Pv 0 H2)
 (hs:∀(i:Nat) H,i<n→Pv i H→g (.int (lo+i)) σ0 H λσ5 H5=>tc σ5 H5 λb H6=>if b=true then te σ5 H6 (λv H7=>∃vs,H7 D=some (.lst vs)∧vs.length<sizeLine∧Pv (i+1) (upd H7 D (.lst (vs++[v]))))else Pv (i+1) H6) (hd:∀H,Pv n H→Q (.ref D) H):
 ∃W:Nat→Nat→Hp→Prop,(∃m,W 0 m H2)∧∀i m H3,W i m H3→((Itr lo n).stop i H3∧Q (.ref D) H3)∨
  ((Itr lo n).go i H3∧∃N:Hp→Prop,(∀H',N H'→∃m',m'<m∧W (i+1) m' H')∧∀x H4,(Itr lo n).yld i H3 x H4→g x σ0 H4 λσ5 H5=>tc σ5 H5 λb H6=>
   if b=true then te σ5 H6 (λv H7=>∃vs,H7 D=some (.lst vs)∧vs.length<sizeLine∧N (upd H7 D (.lst (vs++[v]))))else N H6):=by
 refine⟨λi m H=>m=n-i∧i≤n∧Pv i H,⟨n,by simp,mV _,h0⟩,?_⟩
 rintro i m H ⟨rfl,hi,p⟩
 by_cases hlt:i<n
 ·refine .inr ⟨hlt,Pv (i+1),λH' z=>⟨n-(i+1),by lia,rfl,by lia,z⟩,?_⟩
  rintro x H4 ⟨rfl,rfl⟩
  exact hs i _ hlt p
 ·obtain rfl:i=n:=by lia
  exact .inl ⟨kM _,hd _ p⟩
theorem qBV{K:PySem.W.Frag}{a:Addr}{xs:List V}{D:Addr}{H2:Hp}{g:TG}{tc:TT}{te:TE}{σ0:St}{Q:VK}(Pv:Nat→Hp→Prop)(h0:Pv 0 H2)(hl:∀i H,Pv i H→SqL K H a xs)
 (hs:∀(i:Nat) x H,xs[i]?=some x→Pv i H→g x σ0 H λσ5 H5=>tc σ5 H5 λb H6=>if b=true then te σ5 H6 (λv H7=>∃vs,H7 D=some (.lst vs)∧vs.length<sizeLine∧Pv (i+1) (upd H7 D (.lst (vs++[v]))))else Pv (i+1) H6) (hd:∀H,Pv xs.length H→Q (.ref D) H):
 ∃W:Nat→Nat→Hp→Prop,(∃m,W 0 m H2)∧∀i m H3,W i m H3→((Itl K a).stop i H3∧Q (.ref D) H3)∨
  ((Itl K a).go i H3∧∃N:Hp→Prop,(∀H',N H'→∃m',m'<m∧W (i+1) m' H')∧∀x H4,(Itl K a).yld i H3 x H4→g x σ0 H4 λσ5 H5=>tc σ5 H5 λb H6=>
   if b=true then te σ5 H6 (λv H7=>∃vs,H7 D=some (.lst vs)∧vs.length<sizeLine∧N (upd H7 D (.lst (vs++[v]))))else N H6):=by
 refine⟨λi m H=>m=xs.length-i∧i≤xs.length∧Pv i H,⟨xs.length,by simp,mV _,h0⟩,?_⟩
 rintro i m H ⟨rfl,hi,p⟩
 have hq:=hl i H p
 by_cases hlt:i<xs.length
 ·have e1:xs[i]?=some xs[i]:=hX hlt
  refine .inr ⟨⟨xs,_,hq,e1⟩,Pv (i+1),λH' z=>⟨xs.length-(i+1),by lia,rfl,by lia,z⟩,?_⟩
  rintro x H4 ⟨rfl,hx⟩
  exact hs i x _ (hx xs hq) p
 ·obtain rfl:i=xs.length:=by lia
  exact .inl ⟨⟨xs,hq,kM _⟩,hd _ p⟩
theorem qEI{K:PySem.W.Frag}{a:Addr}{xs:List V}{k:Nat}{D:Addr}{H2:Hp}{te:TE}{σ0:St}{Q:VK}(Pv:Nat→Hp→Prop)(h0:Pv 0 H2)(hl:∀i H,Pv i H→SqL K H a xs)
 (hs:∀(i:Nat) x H,xs[i]?=some x→Pv i H→te (σ0.set k (some x)) H (λv H7=>∃vs,H7 D=some (.lst vs)∧vs.length<sizeLine∧Pv (i+1) (upd H7 D (.lst (vs++[v]))))) (hd:∀H,Pv xs.length H→Q (.ref D) H):
 ∃W:Nat→Nat→Hp→Prop,(∃m,W 0 m H2)∧∀i m H3,W i m H3→((Itl K a).stop i H3∧Q (.ref D) H3)∨
  ((Itl K a).go i H3∧∃N:Hp→Prop,(∀H',N H'→∃m',m'<m∧W (i+1) m' H')∧∀x H4,(Itl K a).yld i H3 x H4→q1U k x σ0 H4 λσ5 H5=>q80 σ5 H5 λb H6=>
   if b=true then te σ5 H6 (λv H7=>∃vs,H7 D=some (.lst vs)∧vs.length<sizeLine∧N (upd H7 D (.lst (vs++[v]))))else N H6):=
 qBV (g:=q1U k) (tc:=q80) Pv h0 hl (λi x H hx p=>qEG (σ:=σ0.set k (some x)) (A:=λH6=>te (σ0.set k (some x)) H6 _) (B:=λH6=>Pv (i+1) H6) (hs i x H hx p)) hd
noncomputable def rEmp(K:PySem.W.Frag):R2:=λx y H Q=>∃p xs e,x=.ref p∧y=.ref e∧SqL K H p xs∧SqL K H e []∧Q (.bl (decide (xs=[]))) H
theorem q65{X:Cx}(hu:X.A.units+64<cLine):OpR X (compareOp .Eq) (rEmp X.K):=by
 intro pins s σ H x y v u Q I rx ry hZ
 obtain⟨p,xs,e,ex,ey,hp,he,q⟩:=hZ
 subst ex ey
 cases rx
 cases ry
 obtain⟨i1,r1,p1,_⟩:=I.list hp
 obtain⟨i2,r2,p2,_⟩:=I.list he
 have l1:=r1.length
 have l2:=r2.length
 cases xs with
 |nil=>exact x9 (e:=λ_=>true) p1.isList p2.isList (by simp at l1 l2 ⊢;lia) (by lia) (λj h1 h2=>by simp at l1 h1;lia) ⟨.bl true,H,I,by rw[zG];rfl,q⟩
 |cons z zs=>exact SeqAt.eq_list_lengthsAt p1.isList p2.isList (by simp at l1 l2 ⊢;lia) (by lia) ⟨.bl false,H,I,rfl,q⟩
section
variable{X:Cx}{o e f:Expr}{apos cpos:Pos}{td ty tx:TE}
theorem qEJ{P:Program}{w:World}{k:Key}{u:Value}(h:(jQ P w).is k u=true):RelV (kV k) u:=by
 cases k with
 |inl i=>exact xB h
 |inr x=>exact lJ h
theorem q2Y{α β:Type}{F:α→β→Prop}:∀{l₁:List α} {l₂:List β},l₁.length=l₂.length→(∀(j:Nat) a b,l₁[j]?=some a→l₂[j]?=some b→F a b)→Paired F l₁ l₂
 | [],[],_,_=>.nil
 |a::l,b::l',h,k=>.cons (k 0 a b rfl rfl) (q2Y (by simpa using h) λj x y hx hy=>k (j+1) x y (by simpa using hx) (by simpa using hy))
 | [],_::_,h,_=>by simp at h
 |_::_,[],h,_=>by simp at h
end
theorem q2Z:∀{ns:List Int} {vs:List Value},Vals (ns.map V.int) vs→IntsAre vs ns
 | [],_,.nil=>.nil
 |n::ns,_,.cons h t=>by
  obtain⟨t0,rfl⟩:=h
  exact .cons n t0 (q2Z t)
section
variable{X:Cx}
theorem qD0(hc:X.calm=true):zC X (.builtin "max") (λxs H Q=>∃(p:Addr) (ns:List Int),xs=[.ref p]∧SqL X.K H p (ns.map V.int)∧0<ns.length∧∀M,M∈ns→(∀a∈ns,a≤M)→Q (.int M) H):=by
 intro pins s σ H xs us Q I r hZ
 obtain⟨p,ns,ex,hq,hne,q⟩:=hZ
 subst ex
 obtain⟨u,rfl,rx⟩:=q1Q r
 cases rx
 obtain⟨its,rv,pl,hz⟩:=I.list hq
 have hi:=q2Z rv
 obtain⟨xs,e⟩:=hi.allInts.items
 have hns:ns=xs.toList.map (·.1):=by
  rw[←hi.numsOf,←nums_intItems,←e]
 have hsz:0<xs.size:=by
  have h3:=hne;rw[hns,hC,mR]at h3;exact h3
 have hl:=pl.isList
 rw[e]at hl
 refine max_intList (I.ok.hd hc) hl hsz λv h' tk hv hk=>?_
 obtain⟨t,rfl⟩:=intItems_at hv
 obtain⟨h1,h2⟩:=argBest_gt (numAt xs) (xs.size-1)
 refine⟨.int _,H,I.kept hk,⟨t,rfl⟩,q _ ?_ λa ha=>?_⟩
 ·rw[hns,numAt_eq];exact getD_mem (by rw[hC,mR];lia)
 ·rw[hns]at ha
  obtain⟨j,hj,rfl⟩:=mem_getD ha
  rw[hC,mR]at hj
  rw[←numAt_eq];exact h2 j (by lia)
theorem qD1(hc:X.calm=true):zC X (.builtin "sum") (λxs H Q=>∃(p:Addr) (ns:List Int),xs=[.ref p]∧SqL X.K H p (ns.map V.int)∧Q (.int ns.sum) H):=by
 intro pins s σ H xs us Q I r hZ
 obtain⟨p,ns,ex,hq,q⟩:=hZ
 subst ex
 obtain⟨u,rfl,rx⟩:=q1Q r
 cases rx
 obtain⟨its,rv,pl,hz⟩:=I.list hq
 have hi:=q2Z rv
 obtain⟨xs,e⟩:=hi.allInts.items
 have hn:numsOf its.toArray.toList=ns:=by rw[show its.toArray.toList=its from rfl,hi.numsOf]
 have hl:=pl.isList
 rw[e]at hl hn
 rw[nums_intItems]at hn
 have hh:=I.ok.hd hc
 have hsz:(intItems xs).size=xs.size:=by simp[intItems]
 refine call_sum_walkAnyS (iter_intList hl λs₂ e2 st hfp hlI=>?_)
 subst e2
 have W:=(Walks.list (prog:=X.prog) (w:=X.w) (A:=X.A.in1) hh s.heap.objs.size p hlI (intItems xs)).toS
 rw[hsz]at W
 refine⟨s.heap.objs.size,_,_,_,_,_,_,numAt xs,rfl,W,st,hfp,λi v hP=>intItems_at hP,λs' t' hm=>?_⟩
 obtain⟨h',g',d',tk',os'⟩:=s'
 have e1:g'=s.gens:=hm.gens
 have e2:d'=s.drawn:=hm.drawn
 have e3:os'=s.os:=hm.os
 subst e1 e2 e3
 refine⟨.int _,H,I.kept λb o e=>hm.heap b o (λhb=>absurd (kY e) ((kE.mp hb)▸dR _)) (kF _ e),⟨t',rfl⟩,?_⟩
 rw[preSum_eq,nM (by simp),hn]
 exact q
theorem q19:∀{vs:List Value} {ns:List Int},IntsAre vs ns→Vals (ns.map V.int) vs
 |_,_,.nil=>.nil
 |_,_,.cons n t h=>.cons ⟨t,rfl⟩ (q19 h)
theorem q8I:zC X (.builtin "sorted") (λxs H Q=>∃(p:Addr) (ns:List Int),xs=[.ref p]∧SqL X.K H p (ns.map V.int)∧ns.length<64∧∀ns':List Int,ns'.Perm ns→ns'.Pairwise (·≤·)→NewO H (.lst (ns'.map V.int)) Q):=by
 intro pins s σ H xs us Q I r hZ
 obtain⟨p,ns,ex,hq,h64,q⟩:=hZ
 subst ex
 obtain⟨u,rfl,rx⟩:=q1Q r
 cases rx
 obtain⟨its,rv,pl,hz⟩:=I.list hq
 have hi:=q2Z rv
 have hlen:its.length<64:=by rw[←rv.length,hC];exact h64
 refine sorted_ints pl.isList hi hlen λout ns' a1 a2 a3=>?_
 obtain⟨e,he⟩:=sortedAll_at s.heap its out
 have hz':(ns'.map V.int).length≤sizeLine:=by rw[hC,a2.length_eq,gI];lia
 exact⟨.ref (s.heap.objs.size+1),_,I.laid (t':=s.toks) (λ_ _ h=>sortedAll_old h) (rC _) (show jF X.prog X.w _ _ _ (.lst _)from⟨hz',out.toList,e,q19 a1,by simpa[seqObj]using he⟩),rfl,(q ns' a2 a3).at _ (I.hok.fresh (rC _))⟩
theorem q9T:zC X (.type "range") (λxs H Q=>∃lo hi,xs=[.int lo,.int hi]∧NewO H (.rng lo hi) Q):=by
 intro pins s σ H xs us Q I r hZ
 obtain⟨lo,hi,ex,q⟩:=hZ
 subst ex
 cases r with
 |cons h1 r=>
  cases r with
  |cons h2 r=>
   cases r
   obtain⟨t1,rfl⟩:=h1
   obtain⟨t2,rfl⟩:=h2
   refine call_range_2 ⟨.ref s.heap.objs.size,_,I.laid (λb o e=>kF _ e) (kM _) (show jF X.prog X.w _ _ _ (.rng lo hi)from⟨_,_,_,mP _ rfl⟩),rfl,q.at _ (I.hok.fresh (kM _))⟩
theorem q76(hc:X.calm=true):zC X (.type "list") (λxs H Q=>∃p lo hi,xs=[.ref p]∧H p=some (.rng lo hi)∧-(2 ^ 62)≤lo∧lo<2 ^ 62∧-(2 ^ 62)≤hi∧hi<2 ^ 62∧(hi-lo).toNat≤2 ^ 24∧NewO H (.lst ((List.range (hi-lo).toNat).map λi=>.int (lo+(i:Nat)))) Q):=by
 intro pins s σ H xs us Q I r hZ
 obtain⟨p,lo,hi,ex,hp,h1,h2,h3,h4,hz,q⟩:=hZ
 subst ex
 obtain⟨u,rfl,rx⟩:=q1Q r
 cases rx
 obtain⟨t,u,v,hr⟩:=(show jF X.prog X.w H s.heap p (.rng lo hi)from I.hok p _ hp)
 have e2:Builtin.Range.rangeSize lo hi 1=(((hi-lo).toNat:Nat):Int):=by rw[rangeSize_one];split<;>lia
 refine call_list_range (I.ok.hd hc) hr (small_one h1 h2 h3 h4) e2 hz λh' tk acc' c' kp e it=>?_
 have rv:Vals ((List.range (hi-lo).toNat).map λi=>V.int (lo+(i:Nat))) acc'.toList:=by
  refine q2Y ?_ λj x u hx hu=>?_
  ·rw[hC,mG,mR]
   exact it.1.symm
  ·rw[nX]at hu
   obtain⟨t,rfl⟩:=it.2 j u hu
   rw[mC]at hx
   obtain⟨i,hi',rfl⟩:=mK.mp hx
   have ej:=(kC.mp hi').2
   rw[cT]at ej
   subst ej
   exact⟨t,by rw[Int.mul_one]⟩
 exact⟨.ref s.heap.objs.size,_,I.laid (t':=tk) kp (kM _) (show jF X.prog X.w _ h' _ (.lst _)from⟨by rw[hC,mG,gI];lia,acc'.toList,c',rv,by simpa using e⟩),rfl,q.at _ (I.hok.fresh (kM _))⟩
end
structure Mk0(K:PySem.W.Frag)(C:Addr):Prop where
 makes:PySem.W.makesIn K C=true
 init:PySem.W.findIn K (.ref C) "__init__"=some (some (.builtin "object.__init__"))
 kp:PySem.W.keepIn K (.ref C)=true
section
variable{X:Cx}{C:Addr}{x:Str}{p pos:Pos}
noncomputable def tMk0(C:Addr):TE:=λσ H Q=>∀x dx,H x=none→H dx=none→dx≠x→Q (.ref x) (upd (upd H dx (.own x)) x (.ins C dx []))
theorem qEK{pins:List (Addr×Obj)}{σ:St}{H:Hp}{s:Shared}{Q:VK}(M:Mk0 X.K C)(I:Inv X pins σ H s)(h:tMk0 C σ H Q):wpAny (model X.prog X.w) X.A (call (.ref C) []) (EP X pins σ Q) X.xe s:=by
 have hq:=h (s.heap.objs.size+1) s.heap.objs.size (I.hok.fresh (rC _)) (I.hok.fresh (kM _)) (m9 (rP _))
 have I2:=Inv.made (C:=C) I
 have kin:=I.kIn
 obtain⟨hp,g,d,t,os⟩:=s
 have Y:=xQ (M:=model X.prog X.w) kin M.makes
 have hx:((hp.push PySem.W.emptyDict).push (PySem.W.instObj C hp.objs.size)).get? (hp.objs.size+1)=some (PySem.W.instObj C hp.objs.size):=by
  have:=mP (hp.push PySem.W.emptyDict) (o:=PySem.W.instObj C hp.objs.size) rfl
  rwa [p7]at this
 have ty:PySem.W.Looks (model X.prog X.w) ((hp.push PySem.W.emptyDict).push (PySem.W.instObj C hp.objs.size)) (typeOf (.ref (hp.objs.size+1))) (.ref C):=(xR hx).andThen .now
 have top:PySem.W.Looks (model X.prog X.w) ((hp.push PySem.W.emptyDict).push (PySem.W.instObj C hp.objs.size)) (isInstance (.ref (hp.objs.size+1)) (.type "object")) true:=ty.andThen (Y.top.keeps λb o e=>kF _ (kF _ e))
 refine pG (xD Y (cC kin M.init) (λself=>bH (PySem.W.oi_bind self)) (.inr ⟨rfl,rfl⟩) ?_)
 refine lE PySem.W.oi_plain PySem.W.entry_oi (@lZ (model X.prog X.w) _ _ _ "object.__init__" "object" "__init__" (.ref (hp.objs.size+1)) [] [] _ PySem.W.oi_kind PySem.W.oi_split top (PySem.W.oi_args (.ref (hp.objs.size+1))) ?_)
 rw[PySem.W.oi_run]
 exact mO ⟨rfl,⟨.ref (hp.objs.size+1),_,I2,rfl,hq⟩⟩
theorem qAX(M:Mk0 X.K C)(hg:Gl X x)(hm:X.mg x=some (.ref C))(hdb:(x==("__debug__":Str))=false:=by decide):PE X (.Call (.Name x p) [] [] pos) (tMk0 C):=by
 intro pins s σ H Q I h
 exact rT (q2V I hg hm (pR I.kIn M.kp (qEK M I h)) hdb)
theorem q8J{e:Expr}{t1 t2:TE}(h1:PE X e t1)(h2:PE X e t2):PE X e (λσ H Q=>t1 σ H Q∨t2 σ H Q):=λpins s σ H Q I h=>h.elim (h1 pins s σ H Q I) (h2 pins s σ H Q I)
end
section
variable{X:Cx}{pins:List (Addr×Obj)}{σ:St}{H:Hp}{s:Shared}{a:Addr}
theorem Inv.freeze{kvs:List (Key×V)}{o:Obj}(I:Inv X pins σ H s)(e:H a=some (.dK kvs))(ho:s.heap.get? a=some o):Inv X pins σ (upd H a (.frz o (.dK kvs))) s:=by
 have ne:∀b u,H b=some u→u≠ .dK kvs→b≠a:=λb u q n z=>by rw[z,e]at q;exact n (kN q).symm
 have nn:∀b,H b=none→b≠a:=λb q z=>by rw[z,e]at q;cases q
 refine⟨I.ok,I.os,I.bare,I.base.trans ⟨λb u q _ _ _=>q,λb u q _ _ _=>⟨u.slots,q⟩,λb u q n _=>by rw[qC (nn b n)];exact n,λb u q _=>⟨u,q⟩,
  λb xs q=>by rw[qC (ne b _ q (by intro z;cases z))];exact q,λb u v q=>by rw[qC (ne b _ q (by intro z;cases z))];exact q,λb ps q=>⟨#[],by rw[qC (ne b _ q (by intro z;cases z)),q];simp⟩⟩,
  I.loc,I.cell,by rw[qC (nn _ I.free)];exact I.free,λx c q=>by rw[qC (nn _ (I.freeC x c q))];exact I.freeC x c q,λp hp=>?_,λb u q=>?_,I.len⟩
 ·obtain⟨q1,q2,q3⟩:=I.pin p hp
  exact⟨q1,by rw[qC (nn _ q2)];exact q2,q3⟩
 ·have st:∀b u,jF X.prog X.w H s.heap b u→jF X.prog X.w (upd H a (.frz o (.dK kvs))) s.heap b u:=λb u q=>
   q.stay (λ_ _ _ z=>z) (λc z=>by rw[qC (ne c _ z (by intro z;cases z))];exact z) (λc xs z=>by rw[qC (ne c _ z (by intro z;cases z))];exact z)
  by_cases hb:b=a
  ·subst hb
   rw[qH]at q
   cases q
   exact⟨ho,st b _ (I.hok b _ e)⟩
  ·rw[qC hb]at q
   exact st b u (I.hok b u q)
theorem Inv.thaw{o:Obj}{u:HO}(I:Inv X pins σ H s)(hne:∀o u,X.H₀ a≠some (.frz o u))(e:H a=some (.frz o u)):Inv X pins σ (upd H a u) s:=by
 have ne:∀b v,H b=some v→v≠ .frz o u→b≠a:=λb v q n z=>by rw[z,e]at q;exact n (kN q).symm
 have nn:∀b,H b=none→b≠a:=λb q z=>by rw[z,e]at q;cases q
 have nf:∀b v,X.H₀ b=some v→(∃o' u',v=.frz o' u')→b≠a:=λb v q ⟨o',u',z⟩ w=>by rw[w,z]at q;exact hne o' u' q
 refine⟨I.ok,I.os,I.bare,⟨I.base.keep,I.base.slot,λb v q n hx=>?_,I.base.there,λb xs q=>?_,λb v w q=>?_,λb ps q=>?_⟩,
  I.loc,I.cell,by rw[qC (nn _ I.free)];exact I.free,λx c q=>by rw[qC (nn _ (I.freeC x c q))];exact I.freeC x c q,λp hp=>?_,λb v q=>?_,I.len⟩
 ·have:=I.base.free b v q n hx
  rw[qC (nn b this)]
  exact this
 ·have:=I.base.tups b xs q
  rw[qC (ne b _ this (by intro z;cases z))]
  exact this
 ·rw[qC (nf b _ q ⟨_,_,rfl⟩)]
  exact I.base.frzs b v w q
 ·obtain⟨more,q2⟩:=I.base.tbls b ps q
  exact⟨more,by rw[qC (ne b _ q2 (by intro z;cases z))];exact q2⟩
 ·obtain⟨q1,q2,q3⟩:=I.pin p hp
  exact⟨q1,by rw[qC (nn _ q2)];exact q2,q3⟩
 ·have st:∀b v,jF X.prog X.w H s.heap b v→jF X.prog X.w (upd H a u) s.heap b v:=λb v q=>
   q.stay (λ_ _ _ z=>z) (λc z=>by rw[qC (ne c _ z (by intro z;cases z))];exact z) (λc xs z=>by rw[qC (ne c _ z (by intro z;cases z))];exact z)
  by_cases hb:b=a
  ·subst hb
   rw[qH]at q
   cases q
   exact st b _ (I.hok b _ e).2
  ·rw[qC hb]at q
   exact st b v (I.hok b v q)
end
noncomputable def Itd(a:Addr)(o:Obj)(kvs:List (Key×V)):It:=
 ⟨λi H=>H a=some (.frz o (.dK kvs))∧i<kvs.length,λi H x H'=>H'=H∧∃kv,kvs[i]?=some kv∧x=kV kv.1,λi H=>H a=some (.frz o (.dK kvs))∧kvs.length≤i⟩
theorem qD2{P:Program}{w:World}{K:PySem.W.Frag}{tg:Expr}(a it:Addr)(o:Obj){kvs:List (Key×V)}{vs:List (Key×Value)}{ep:Nat}(rel:KV kvs vs)(hD:∀h:Heap,h.get? a=some o→h.DictAt (jQ P w) a vs ep):
 Turn P w K tg (Itd a o kvs) [it] it (λi h=>h.IsKeyIter it a i vs.length ep) where
 mem:=by simp
 obj:=λi h st b hb=>by
  have e:b=it:=by simpa using hb
  subst e
  obtain⟨o',e,c,d⟩:=st
  exact⟨o',e,λv z=>by rw[d]at z;cases z⟩
 keep:=λi h h' st k=>st.at λo e=>k it (by simp) o e
 item:=by
  intro X hP hw hK hc i pins s σ H E I hf st hg
  subst hP hw hK
  obtain⟨ha,hi⟩:=hg
  obtain⟨ho,_⟩:=I.hok a _ ha
  have hl:=rel.length
  have hi':i<vs.length:=by lia
  obtain⟨f0,f1,f2,f3,f4,f5⟩:=hf it (by simp)
  refine wpAny_pyNext_dict_item (k:=vs[i].1) (v:=vs[i].2) st (hD _ ho) (hX hi') λkey h' hk st' sb=>?_
  have I1:Inv X pins σ H { s with heap:=h' }:=I.turned (t':=s.toks) (λb o hb e=>(sb.2 b hb).trans e) f0 f1 f3 f4 f5
  obtain⟨o',e',c',d'⟩:=id st'
  refine⟨key,rfl,qBF (s:={ s with heap:=h' }) e' c' d' (by decide) ⟨kV kvs[i].1,H,I1,?_,⟨rfl,kvs[i],hX hi,rfl⟩,st',λb hb=>(hf b hb).1⟩⟩
  have ek:=gX (λl=>l[i]?) rel.keys
  simp only[mC,hX hi,hX hi',aB]at ek
  rw[kN ek]
  exact qEJ hk
 done:=by
  intro X hP hw hK hc i pins s σ H E I hf st hg
  subst hP hw hK
  obtain⟨ha,hi⟩:=hg
  obtain⟨ho,_⟩:=I.hok a _ ha
  have hl:=rel.length
  obtain⟨f0,f1,f2,f3,f4,f5⟩:=hf it (by simp)
  exact wpAny_pyNext_dict_end (I.ok.hd hc) st (hD _ ho) (dG (by lia)) λh' eb=>⟨rfl,I.turned (t':=s.toks) (λb o hb e=>eb b o hb e) f0 f1 f3 f4 f5⟩
 self:=λ_ _ _ _ _ st h=>wpAny_pyIter_keyiter st h
section
variable{X:Cx}{tg:Expr}
noncomputable def iDct(td:TE):TI:=λσ H R=>td σ H λx H1=>∃a kvs,x=.ref a∧H1 a=some (.dK kvs)∧∀o,R (Itd a o kvs) (upd H1 a (.frz o (.dK kvs)))
theorem qBW{d:Expr}{td:TE}(hd:PE X d td):PI X tg d (iDct td):=by
 intro pins s σ H R I h
 refine thn (hd pins s σ H _ I h) λv s1 hZ=>?_
 obtain⟨x,H1,I1,r1,q1⟩:=hZ
 obtain⟨a,kvs,e,ha,q⟩:=q1
 subst e
 cases r1
 obtain⟨z,lo,vs,rel,dd⟩:=q5Z I1.hok ha
 obtain⟨ep,hat⟩:=dd.dictAt
 obtain⟨o,es,ho,hr⟩:=id hat
 have I2:=I1.freeze ha ho
 refine wpAny_pyIter_dict lo hat ?_
 refine⟨s1.heap.objs.size,[s1.heap.objs.size],_,_,_,rfl,I2.kept (t':=s1.toks) λb o e=>kF _ e,qD2 a _ o rel (λh' h=>⟨o,es,h,hr⟩),⟨_,mP _ rfl,rfl,rfl⟩,λb hb=>?_,q o⟩
 have e:b=s1.heap.objs.size:=by simpa using hb
 subst e
 exact I2.fpOk (kM _) (I2.hok.fresh (kM _))
theorem qJ9{pins:List (Addr×Obj)}{σ:St}{H:Hp}{s:Shared}{a:Addr}{kvs:List (Key×V)}(I:Inv X pins σ H s)(e:H a=some (.dK kvs)):∀o u,X.H₀ a≠some (.frz o u):=λo u q=>by
 have:=I.base.frzs a o u q
 rw[e]at this
 cases this
noncomputable def qKP(t:TE):TE:=λσ H Q=>∃a kvs,H a=some (.dK kvs)∧t σ H λv H'=>∃o u,H' a=some (.frz o u)∧Q v (upd H' a u)
theorem q8K{e:Expr}{t:TE}(h:PE X e t):PE X e (qKP t):=by
 intro pins s σ H Q I hZ
 obtain⟨a,kvs,ha,q⟩:=hZ
 have nf:=qJ9 I ha
 refine thn (h pins s σ H _ I q) λu s' ⟨v,H',I',r,o,w,e,q⟩=>⟨v,_,I'.thaw nf e,r,q⟩
theorem qGC{a:Addr}{o:Obj}{kvs:List (Key×V)}{D:Addr}{H2:Hp}{g:TG}{tc:TT}{te:TE}{σ0:St}{Q:VK}(Pv:Nat→Hp→Prop)(h0:Pv 0 H2)(hl:∀i H,Pv i H→H a=some (.frz o (.dK kvs)))
 (hs:∀(i:Nat) kv H,kvs[i]?=some kv→Pv i H→g (kV kv.1) σ0 H λσ5 H5=>tc σ5 H5 λb H6=>if b=true then te σ5 H6 (λv H7=>∃vs,H7 D=some (.lst vs)∧vs.length<sizeLine∧Pv (i+1) (upd H7 D (.lst (vs++[v]))))else Pv (i+1) H6) (hd:∀H,Pv kvs.length H→Q (.ref D) H):
 ∃W:Nat→Nat→Hp→Prop,(∃m,W 0 m H2)∧∀i m H3,W i m H3→((Itd a o kvs).stop i H3∧Q (.ref D) H3)∨
  ((Itd a o kvs).go i H3∧∃N:Hp→Prop,(∀H',N H'→∃m',m'<m∧W (i+1) m' H')∧∀x H4,(Itd a o kvs).yld i H3 x H4→g x σ0 H4 λσ5 H5=>tc σ5 H5 λb H6=>
   if b=true then te σ5 H6 (λv H7=>∃vs,H7 D=some (.lst vs)∧vs.length<sizeLine∧N (upd H7 D (.lst (vs++[v]))))else N H6):=by
 refine⟨λi m H=>m=kvs.length-i∧i≤kvs.length∧Pv i H,⟨kvs.length,by simp,mV _,h0⟩,?_⟩
 rintro i m H ⟨rfl,hi,p⟩
 have q:=hl i H p
 by_cases hlt:i<kvs.length
 ·refine .inr ⟨⟨q,hlt⟩,Pv (i+1),λH' z=>⟨kvs.length-(i+1),by lia,rfl,by lia,z⟩,?_⟩
  rintro v H' ⟨rfl,kv,hk,rfl⟩
  exact hs i kv _ hk p
 ·obtain rfl:i=kvs.length:=by lia
  exact .inl ⟨⟨q,kM _⟩,hd _ p⟩
end
section
variable{X:Cx}
theorem q9U{ns:List Int}{us:List Value}(r:Vals (ns.map V.int) us){j:Nat}(h:j<us.length):∃t,us[j]=.int (ns.getD j 0) t:=by
 obtain⟨x,e,q⟩:=r.atN h
 rw[mC]at e
 cases z:ns[j]? with
 |none=>rw[z]at e;cases e
 |some i=>
  rw[z]at e
  obtain rfl:V.int i=x:=kN e
  obtain⟨t,q⟩:=q
  refine⟨t,?_⟩
  rw[kJ,z]
  exact q
theorem qEL{ns ms:List Int}(h:ns.length=ms.length):(List.range ns.length).all (λj=>ns.getD j 0==ms.getD j 0)=decide (ns=ms):=by
 rw[wQ,d7,kX]
 constructor
 ·intro z
  refine cG h λj h1 h2=>?_
  have:=z j (mL.mpr h1)
  rw[wF,kJ,kJ,hX h1,hX h2]at this
  exact this
 ·rintro rfl j _
  exact beq_self_eq_true _
noncomputable def qKQ(K:PySem.W.Frag):R2:=λx y H Q=>∃(a b:Addr) (ns ms:List Int),x=.ref a∧y=.ref b∧SqT K H a (ns.map V.int)∧SqT K H b (ms.map V.int)∧ns.length=ms.length∧Q (.bl (!decide (ns=ms))) H
theorem qGD(hu:X.A.units+64<cLine):OpR X (compareOp .NotEq) (qKQ X.K):=by
 intro pins s σ H x y v u Q I rx ry h
 obtain⟨a,b,ns,ms,rfl,rfl,ha,hb,hl,q⟩:=h
 cases rx
 cases ry
 obtain⟨i1,r1,p1,_⟩:=I.tuple ha
 obtain⟨i2,r2,p2,_⟩:=I.tuple hb
 have l1:=r1.length
 have l2:=r2.length
 rw[hC]at l1 l2
 refine lL (e:=λj=>ns.getD j 0==ms.getD j 0) (show s.heap.IsTuple a i1.toArray from p1) (show s.heap.IsTuple b i2.toArray from p2) (by lia) (λj h1 h2=>?_) _ _ _ _ ⟨.bl _,H,I,?_,q⟩
 ·obtain⟨t1,e1⟩:=q9U r1 (j:=j) (by simpa using h1)
  obtain⟨t2,e2⟩:=q9U r2 (j:=j) (by simpa using h2)
  have z:=lY (A:=X.A.in1) (s:=s) (ns.getD j 0) t1 (ms.getD j 0) t2
  rw[←e1,←e2]at z
  simpa using z
 ·rw[show min i1.toArray.size i2.toArray.size=ns.length by simp;lia,qEL hl,show(i1.toArray.size==i2.toArray.size)=true by simp;lia,Bool.and_true]
  rfl
end
end L2
namespace W1
open PySem L2
structure Tl where
 b:Int
 lv:Int
 cl:Int
 bo:Int
noncomputable abbrev Tl.ns(T:Tl):List Int:=[T.b,T.lv,T.cl,T.bo]
noncomputable def TlAt(H:Hp)(v:V)(T:Tl):Prop:=∃a,v=.ref a∧H a=some (.tup (T.ns.map V.int))
theorem TlAt.same{H H':Hp}{v:V}{T:Tl}(s:Same H H')(h:TlAt H v T):TlAt H' v T:=let⟨a,e,z⟩:=h;⟨a,e,s _ _ z⟩
noncomputable abbrev Tls(H:Hp):List V→List Tl→Prop:=Paired (TlAt H)
theorem Tls.same{H H':Hp}{vs:List V}{ts:List Tl}(s:Same H H')(h:Tls H vs ts):Tls H' vs ts:=Paired.mapP h λ_ _ z=>z.same s
theorem Tl.eq_of{A B:Tl}(h:A.ns=B.ns):A=B:=by
 cases A;cases B
 simp[Tl.ns]at h
 simp[h]
structure Tl.Ok(pg nw:Int)(T:Tl):Prop where
 b0:0≤T.b
 b1:T.b<16
 l0:0≤T.lv
 l1:T.lv≤pg
 c0:0≤T.cl
 c1:T.cl<10 ^ 30
 o0:0≤T.bo
 o1:T.bo<nw
noncomputable def unb(f:Tl→Int)(ts:List Tl)(T:Tl):Bool:=ts.all λo=>!decide (f o<f T)
theorem q66(f:Tl→Int):∀ts:List Tl,ts≠[]→∃T∈ts,∀o∈ts,f T≤f o
 | [],h=>absurd rfl h
 | [T],_=>⟨T,kE.mpr rfl,λo ho=>by rw[kE.mp ho];exact gP _⟩
 |T::U::r,_=>by
  obtain⟨M,hm,hl⟩:=q66 f (U::r) (by simp)
  by_cases h:f T≤f M
  ·refine⟨T,kU ..,λo ho=>?_⟩
   rcases kI.mp ho with rfl|ho
   ·exact gP _
   ·have:=hl o ho
    lia
  ·refine⟨M,hU _ hm,λo ho=>?_⟩
   rcases kI.mp ho with rfl|ho
   ·lia
   ·exact hl o ho
theorem q5J{f:Tl→Int}{ts:List Tl}{T:Tl}:unb f ts T=true↔∀o∈ts,f T≤f o:=by
 unfold unb
 rw[d7]
 constructor
 ·intro h o ho
  have:=h o ho
  rw[rD,rE]at this
  lia
 ·intro h o ho
  have:=h o ho
  rw[rD,rE]
  lia
theorem q67(f:Tl→Int)(ts:List Tl)(h:ts≠[]):∃i,∃hi:i<ts.length,unb f ts ts[i]=true∧∀j,∀hj:j<i,unb f ts (ts[j]'(by lia))=false:=by
 obtain⟨T,hT,hm⟩:=q66 f ts h
 obtain⟨k,hk,e⟩:=wI hT
 have key:∀n,n<ts.length→(∃z:n<ts.length,unb f ts ts[n]=true)→∃i,∃hi:i<ts.length,unb f ts ts[i]=true∧∀j,∀hj:j<i,unb f ts (ts[j]'(by lia))=false:=by
  intro n
  induction n using Nat.strongRecOn with
  |ind n ih=>
   intro hn hZ
   obtain⟨z,hu⟩:=hZ
   by_cases g:∃j,∃hj:j<n,unb f ts (ts[j]'(by lia))=true
   ·obtain⟨j,hj,u⟩:=g
    exact ih j hj (by lia) ⟨by lia,u⟩
   ·refine⟨n,hn,hu,λj hj=>?_⟩
    cases u:unb f ts (ts[j]'(by lia))with
    |false=>rfl
    |true=>exact absurd ⟨j,hj,u⟩ g
 exact key k hk ⟨hk,q5J.mpr (by rw[e];exact hm)⟩
noncomputable def pk(f:Tl→Int)(ts:List Tl):Int:=((ts.find? (unb f ts)).map Tl.b).getD 0
theorem qHQ{f:Tl→Int}{ts:List Tl}{i:Nat}(hi:i<ts.length)(u:unb f ts ts[i]=true)(n:∀j,∀hj:j<i,unb f ts (ts[j]'(by lia))=false):pk f ts=ts[i].b:=by
 have e:ts.find? (unb f ts)=some ts[i]:=by
  rw[List.find?_eq_some_iff_getElem]
  exact⟨u,i,hi,rfl,λj hj=>by rw[n j hj];rfl⟩
 unfold pk
 rw[e]
 rfl
theorem q9V{α:Type}{xs:List α}(h:0<xs.length):atI xs (-1)=xs[xs.length-1]?:=by
 unfold atI ixN
 rw[kB (by decide),kD (by lia)]
 show xs[((-1:Int)+(xs.length:Int)).toNat]?=_
 congr 1
 lia
theorem q43{H:Hp}{x dx C:Addr}(nx:H x=none)(nd:H dx=none):Same H (upd (upd H dx (.own x)) x (.ins C dx [])):=λb o e=>by
 rw[qC (qF e nx),qC (qF e nd)]
 exact e
end W1
namespace L2
open PySem PySem.Spec PyProof.Rows
theorem q1A{X:Cx}{K:PySem.W.Frag}(e:X.K=K):IxR X (rIxT K):=by
 subst e
 exact jI
theorem q68{X:Cx}{K:PySem.W.Frag}(e:X.K=K):IxR X (rIxL K):=by
 subst e
 exact jD
theorem qAY{X:Cx}{K:PySem.W.Frag}(e:X.K=K):OpR X (compareOp .In) (rIn K false):=by
 subst e
 exact qCR
theorem q77{X:Cx}{K:PySem.W.Frag}(e:X.K=K):OpR X (compareOp .NotIn) (rIn K true):=by
 subst e
 exact q15
theorem q0K{X:Cx}{elt iter tg:Expr}{ifs:List Expr}{scope:Scope}{pos py spos:Pos}{wi:TI}{g:TG}{tc:TT}{te:TE}{i:Nat}{y:Str}(N:List Str)(ix:List Nat)(hcalm:X.calm=true)(hi:PI X tg iter wi)
 (hg:∀C fp s H xe,PG (vT X N scope C fp s H xe) tg g) (hif:∀C fp s H xe,PIf (vT X N scope C fp s H xe) ifs tc) (he:∀C fp s H xe,PE (vT X N scope C fp s H xe) elt te)
 (ok:qBU X.N X.env.kindOf scope N ix=true) (hown:Own g ix.length) (hN:X.N.Nodup) (hy:X.N[i]?=some y) (hl:Loc X.env.scope y)
 (hsw:swapsWith (.ListComp elt [⟨tg,iter,ifs,0⟩] scope pos) (some (.Name y py)) spos.line X.env=pure true:=by rfl) (hf:X.fn y=true∨X.env.scope.names.lookup y=some .local:=by first|exact .inl rfl|exact .inr rfl|assumption)
 (hs:∀x,foldedSetIterable iter X.env x=pure x:=by intro _;rfl):
 PS X (.Assign [.Name y py] (.ListComp elt [⟨tg,iter,ifs,0⟩] scope pos) spos) (tAsg (tLC wi g tc te ix (N.length-ix.length)) (q1U i)):=by
 unfold qBU at ok
 rw[mU,mU,mU,d7]at ok
 obtain⟨⟨⟨h1,h2⟩,h3⟩,h4⟩:=ok
 have h2':∀y∈scope.names,y.2≠ .cell∧(y.2≠ .free∨X.env.kindOf y.1=some .cell)∧(y.2≠ .local∨scope.names.lookup y.1=some .local):=λy hy=>by
  have q:=h2 y hy
  rw[mU,mU,wR,wR,kX,kX,kX,kX,kX]at q
  exact⟨q.1.1,q.1.2,q.2⟩
 intro pins s σ H D I h
 rw[exec_Assign_Name_used _ _ _ _ hsw]
 refine kL (pK (kL ?_))
 show wpAny _ X.A (do let _←comprehension (.ListComp elt [⟨tg,iter,ifs,0⟩] scope pos) scope X.env _ (newList []) false (eval iter X.env) (some (assign (.Name y py) X.env))) _ _ s
 refine kL (dP (qBT (use:=some (assign (.Name y py) X.env)) (QQ:=λ_ s'=>∃σ' H',Inv X pins σ' H' s'∧D.nx σ' H') N ix hcalm hi hg hif he (mF h1) (λy hy=>(h2' y hy).1) (λy hy e=>(h2' y hy).2.1.resolve_left (λz=>z e)) h3 (mF h4) (λy hy e=>(h2' y hy).2.2.resolve_left (λz=>z e)) hown I h
  (λC Dl H' s' m hm fp inv q=>?_) hs) (λ_ s' hq=>mO (mO hq)) λ_ _ e=>e)
 have I':Inv X pins σ H' s':=inv s'.heap (Heap.SameBut.refl _ _)
 show wpAny _ _ (assign (.Name y py) X.env (.ref Dl)) _ _ _
 refine xC (q7M (v:=.ref Dl) I' hN hy hl rfl (λs'' I'' hZ=>?_) hf)
 obtain⟨a,sb,ha⟩:=hZ
 have aC:C≠a:=λz=>by
  rcases ha with ha|ha
  ·exact fp.2.1 (z.trans ha)
  ·exact fp.2.2.2.2.1 _ _ ha z.symm
 refine⟨m,hm.sameBut sb aC,λh' sb'=>⟨_,H',I''.turnedN (t':=s''.toks) (fp:=[C]) (λb o hb e=>sb'.extBut b o (λz=>hb (kE.mpr z)) e) (λb hb=>by rw[kE.mp hb];exact fp),q⟩⟩
theorem uW{K:PySem.W.Frag}{a:Addr}{xs:List V}{D:Addr}{H2:Hp}{g:TG}{tc:TT}{te:TE}{σ0:St}{R:Hp→Prop}(Pv:Nat→Hp→Prop)(h0:Pv 0 H2)(hl:∀i H,Pv i H→SqL K H a xs)
 (hs:∀(i:Nat) x H,xs[i]?=some x→Pv i H→g x σ0 H λσ5 H5=>tc σ5 H5 λb H6=>if b=true then te σ5 H6 (λv H7=>∃vs,H7 D=some (.lst vs)∧vs.length<sizeLine∧Pv (i+1) (upd H7 D (.lst (vs++[v]))))else Pv (i+1) H6) (hd:∀H,Pv xs.length H→R H):
 ∃W:Nat→Nat→Hp→Prop,(∃m,W 0 m H2)∧∀i m H3,W i m H3→((Itl K a).stop i H3∧R H3)∨
  ((Itl K a).go i H3∧∃N:Hp→Prop,(∀H',N H'→∃m',m'<m∧W (i+1) m' H')∧∀x H4,(Itl K a).yld i H3 x H4→g x σ0 H4 λσ5 H5=>tc σ5 H5 λb H6=>
   if b=true then te σ5 H6 (λv H7=>∃vs,H7 D=some (.lst vs)∧vs.length<sizeLine∧N (upd H7 D (.lst (vs++[v]))))else N H6):=
 qBV (Q:=λ_ H=>R H) Pv h0 hl hs hd
theorem qEM{K:PySem.W.Frag}{a:Addr}{xs:List V}{k:Nat}{D:Addr}{H2:Hp}{te:TE}{σ0:St}{R:Hp→Prop}(Pv:Nat→Hp→Prop)(h0:Pv 0 H2)(hl:∀i H,Pv i H→SqL K H a xs)
 (hs:∀(i:Nat) x H,xs[i]?=some x→Pv i H→te (σ0.set k (some x)) H (λv H7=>∃vs,H7 D=some (.lst vs)∧vs.length<sizeLine∧Pv (i+1) (upd H7 D (.lst (vs++[v]))))) (hd:∀H,Pv xs.length H→R H):
 ∃W:Nat→Nat→Hp→Prop,(∃m,W 0 m H2)∧∀i m H3,W i m H3→((Itl K a).stop i H3∧R H3)∨
  ((Itl K a).go i H3∧∃N:Hp→Prop,(∀H',N H'→∃m',m'<m∧W (i+1) m' H')∧∀x H4,(Itl K a).yld i H3 x H4→q1U k x σ0 H4 λσ5 H5=>q80 σ5 H5 λb H6=>
   if b=true then te σ5 H6 (λv H7=>∃vs,H7 D=some (.lst vs)∧vs.length<sizeLine∧N (upd H7 D (.lst (vs++[v]))))else N H6):=
 qEI (Q:=λ_ H=>R H) Pv h0 hl hs hd
end L2
namespace L2
open PySem PySem.W PyProof.Rows
noncomputable def hT{α:Type}(c:Nat→Nat→Bool)(n:Nat):KasT α→(α→Prop)→Prop
 | .ret a,Q=>Q a
 | .ask i j k,Q=>i<n∧j<n∧hT c n (k (c i j)) Q
theorem u8{α:Type}{c:Nat→Nat→Bool}{n:Nat}{Q Q':α→Prop}(h:∀a,Q a→Q' a):∀t:KasT α,hT c n t Q→hT c n t Q'
 | .ret a,q=>h a q
 | .ask i j k,q=>⟨q.1,q.2.1,u8 h (k (c i j)) q.2.2⟩
theorem q30{α β:Type}{c:Nat→Nat→Bool}{n:Nat}{f:α→KasT β}{Q:β→Prop}:∀t:KasT α,hT c n t (λa=>hT c n (f a) Q)→hT c n (t.bind f) Q
 | .ret a,q=>q
 | .ask i j k,q=>⟨q.1,q.2.1,q30 (k (c i j)) q.2.2⟩
theorem qEN{α:Type}{c:Nat→Nat→Bool}{n:Nat}{cmp:Nat→Nat→(Bool→Shared→Prop)→Shared→Prop}{G:α→Shared→Prop}{s:Shared}(hc:∀i j C,i<n→j<n→C (c i j) s→cmp i j C s):
 ∀t:KasT α,hT c n t (λa=>G a s)→t.kasWp cmp G s
 | .ret a,q=>q
 | .ask i j k,q=>hc i j _ q.1 q.2.1 (qEN hc (k (c i j)) q.2.2)
section
variable{r:Nat→Int}{n:Nat}
noncomputable abbrev rc(r:Nat→Int):Nat→Nat→Bool:=λi j=>decide (r i<r j)
noncomputable abbrev kk(r:Nat→Int)(p:Array Nat)(i:Nat):Int:=r (p.getD i 0)
noncomputable def Srt(r:Nat→Int)(p:Array Nat)(m:Nat):Prop:=∀i j,i≤j→j<m→kk r p i≤kk r p j
noncomputable def Dec(r:Nat→Int)(p:Array Nat)(m:Nat):Prop:=∀i j,i≤j→j<m→kk r p j≤kk r p i
noncomputable def Gp(n:Nat)(p:Array Nat):Prop:=p.Perm (List.range n).toArray
theorem Gp.size{p:Array Nat}(g:Gp n p):p.size=n:=by
 have:=g.size_eq
 simpa using this
theorem Gp.lt{p:Array Nat}(g:Gp n p){i:Nat}(h:i<n):p.getD i 0<n:=by
 have hi:i<p.size:=by rw[g.size];exact h
 have e:p.getD i 0=p[i]:=by simp[Array.getD,hi]
 have:p[i]∈(List.range n).toArray:=g.mem_iff.mp (Array.getElem_mem hi)
 rw[e]
 simpa using this
theorem Srt.more{p:Array Nat}{m:Nat}(h:Srt r p m)(e:kk r p (m-1)≤kk r p m):Srt r p (m+1):=λi j hij hj=>by
 by_cases z:j<m
 ·exact h i j hij z
 ·have ej:j=m:=by lia
  subst ej
  by_cases z2:i=j
  ·subst z2;exact gP _
  ·exact c6 (h i (j-1) (by lia) (by lia)) e
theorem Dec.more{p:Array Nat}{m:Nat}(h:Dec r p m)(e:kk r p m≤kk r p (m-1)):Dec r p (m+1):=λi j hij hj=>by
 by_cases z:j<m
 ·exact h i j hij z
 ·have ej:j=m:=by lia
  subst ej
  by_cases z2:i=j
  ·subst z2;exact gP _
  ·exact c6 e (h i (j-1) (by lia) (by lia))
theorem q44{p q:Array Nat}{i j:Nat}(h:p[i]?=q[j]?):p.getD i 0=q.getD j 0:=by
 rw[pW,pW,h]
theorem qAZ{p:Array Nat}{i j:Nat}(hj:j≤p.size)(k:Nat):(kas_rev p i j).getD k 0=if i≤k∧k<j then p.getD (i+j-1-k) 0 else p.getD k 0:=by
 unfold kas_rev
 by_cases h:i≤k∧k<j
 ·rw[kD h]
  exact q44 (by rw[lM hj,kD h])
 ·rw[kB h]
  exact q44 (by rw[lM hj,kB h])
theorem Gp.rev{p:Array Nat}(g:Gp n p)(i j:Nat):Gp n (kas_rev p i j):=(mirror_perm _ _ _ _).trans g
theorem qB0{p:Array Nat}(g:Gp n p):∀(f m:Nat),1≤m→m+f≤n→Srt r p m→hT (rc r) n (kas_asc p f m) (λe=>m≤e∧e≤m+f∧Srt r p e∧(e<m+f→kk r p e<kk r p (e-1)))
 |0,m,h1,hz,h=>⟨kM _,kM _,h,λz=>absurd z (dR _)⟩
 |f+1,m,h1,hz,h=>by
  refine⟨g.lt (by lia),g.lt (by lia),?_⟩
  by_cases e:r (p.getD m 0)<r (p.getD (m-1) 0)
  ·rw[show rc r (p.getD m 0) (p.getD (m-1) 0)=true from hG e];dsimp only;rw[kD rfl]
   exact⟨kM _,by lia,h,λ_=>e⟩
  ·rw[show rc r (p.getD m 0) (p.getD (m-1) 0)=false from hI e];dsimp only;rw[kB kQ]
   refine u8 ?_ _ (qB0 g f (m+1) (by lia) (by lia) (h.more (by show r _≤r _;lia)))
   rintro a ⟨a1,a2,a3,a4⟩
   exact⟨by lia,by lia,a3,λz=>a4 (by lia)⟩
noncomputable def Eql(r:Nat→Int)(p:Array Nat)(a b:Nat):Prop:=∀k,a≤k→k<b→kk r p k=kk r p (b-1)
theorem q8L{p:Array Nat}{i j:Nat}(hj:j≤p.size)(h:Eql r p i j)(k:Nat):kk r (kas_rev p i j) k=kk r p k:=by
 show r _=r _
 rw[qAZ hj]
 by_cases z:i≤k∧k<j
 ·rw[kD z]
  exact(h _ (by lia) (by lia)).trans (h k z.1 z.2).symm
 ·rw[kB z]
theorem q5K:∀(f:Nat) (p:Array Nat) (m q:Nat),Gp n p→q+1≤m→m+f≤n→Dec r p m→Eql r p (m-(q+1)) m→
 hT (rc r) n (kas_desc f p m q) (λz=>Gp n z.1∧m≤z.2.1∧z.2.1≤m+f∧Dec r z.1 z.2.1∧z.2.2+1≤z.2.1∧Eql r z.1 (z.2.1-(z.2.2+1)) z.2.1)
 |0,p,m,q,g,hq,hz,d,e=>⟨g,kM _,kM _,d,hq,e⟩
 |f+1,p,m,q,g,hq,hz,d,e=>by
  have hs:=g.size
  refine⟨g.lt (by lia),g.lt (by lia),?_⟩
  by_cases c:r (p.getD m 0)<r (p.getD (m-1) 0)
  ·rw[show rc r (p.getD m 0) (p.getD (m-1) 0)=true from hG c];dsimp only;rw[kD rfl]
   by_cases q0:q>0
   ·rw[kD q0]
    have kq:=q8L (r:=r) (p:=p) (i:=m-(q+1)) (j:=m) (by lia) e
    have d1:Dec r (kas_rev p (m-(q+1)) m) (m+1):=λi j hij hj=>by
     rw[kq,kq]
     exact d.more (pX c) i j hij hj
    refine u8 ?_ _ (q5K f _ (m+1) 0 (g.rev _ _) (by lia) (by lia) d1 λk h1 h2=>by rw[show k=m by lia];rfl)
    rintro a ⟨a1,a2,a3,a4⟩
    exact⟨a1,by lia,by lia,a4⟩
   ·rw[kB q0]
    refine u8 ?_ _ (q5K f p (m+1) 0 g (by lia) (by lia) (d.more (pX c)) λk h1 h2=>by rw[show k=m by lia];rfl)
    rintro a ⟨a1,a2,a3,a4⟩
    exact⟨a1,by lia,by lia,a4⟩
  ·rw[show rc r (p.getD m 0) (p.getD (m-1) 0)=false from hI c];dsimp only;rw[kB kQ]
   refine⟨g.lt (by lia),g.lt (by lia),?_⟩
   by_cases c2:r (p.getD (m-1) 0)<r (p.getD m 0)
   ·rw[show rc r (p.getD (m-1) 0) (p.getD m 0)=true from hG c2];dsimp only;rw[kD rfl]
    exact⟨g,kM _,sP _ _,d,hq,e⟩
   ·rw[show rc r (p.getD (m-1) 0) (p.getD m 0)=false from hI c2];dsimp only;rw[kB kQ]
    have ee:r (p.getD m 0)=r (p.getD (m-1) 0):=by lia
    refine u8 ?_ _ (q5K f p (m+1) (q+1) g (by lia) (by lia) (d.more (Int.le_of_eq ee)) λk h1 h2=>?_)
    ·rintro a ⟨a1,a2,a3,a4⟩
     exact⟨a1,by lia,by lia,a4⟩
    ·show r (p.getD k 0)=r (p.getD m 0)
     by_cases z:k=m
     ·rw[z]
     ·rw[ee]
      exact e k (by lia) (by lia)
theorem qBX{p:Array Nat}{m:Nat}(g:Gp n p)(h1:1≤m)(hm:m≤n)(d:Dec r p m):hT (rc r) n (kas_tail3 m n p) (λz=>Gp n z.2∧1≤z.1∧z.1≤n∧Srt r z.2 z.1):=by
 have hs:=g.size
 have sr:Srt r (kas_rev p 0 m) m:=λi j hij hj=>by
  show r _≤r _
  rw[qAZ (by lia),qAZ (by lia),kD ⟨mV _,by lia⟩,kD ⟨mV _,hj⟩]
  exact d _ _ (by lia) (by lia)
 refine q30 _ (u8 ?_ _ (qB0 (g.rev 0 m) (n-m) m h1 (by lia) sr))
 rintro a ⟨a1,a2,a3,_⟩
 exact⟨g.rev _ _,by lia,by lia,a3⟩
theorem qBY{p:Array Nat}{m:Nat}(g:Gp n p)(hm:m+1≤n)(d:Dec r p (m+1)):hT (rc r) n (kas_descPart m n p) (λz=>Gp n z.2∧1≤z.1∧z.1≤n∧Srt r z.2 z.1):=by
 refine q30 _ (u8 ?_ _ (q5K (n-(m+1)) p (m+1) 0 g (by lia) (by lia) d λk h1 h2=>by rw[show k=m by lia];rfl))
 rintro⟨p',m',q'⟩ ⟨a1,a2,a3,a4,a5,a6⟩
 dsimp only at a1 a2 a3 a4 a5 a6 ⊢
 have hs:=a1.size
 by_cases q0:q'>0
 ·rw[kD q0]
  have kq:=q8L (r:=r) (p:=p') (i:=m'-(q'+1)) (j:=m') (by lia) a6
  exact qBX (a1.rev _ _) (by lia) (by lia) λi j hij hj=>by rw[kq,kq];exact a4 i j hij hj
 ·rw[kB q0]
  exact qBX a1 (by lia) (by lia) a4
theorem qEO{p:Array Nat}(g:Gp n p)(h1:1≤n):hT (rc r) n (kas_count n p) (λz=>Gp n z.2∧1≤z.1∧z.1≤n∧Srt r z.2 z.1):=by
 have hs:=g.size
 have s1:Srt r p 1:=λi j hij hj=>by rw[show i=j by lia];exact gP _
 refine q30 _ (u8 ?_ _ (qB0 g (n-1) 1 (kM _) (by lia) s1))
 rintro m ⟨a1,a2,a3,a4⟩
 try dsimp only
 by_cases e:m=n
 ·rw[kD (by rw[wF];exact e)]
  exact⟨g,a1,by lia,a3⟩
 ·rw[kB (by rw[wF];exact e)]
  have lt:=a4 (by lia)
  by_cases m1:m>1
  ·rw[kD m1]
   refine⟨g.lt (by lia),g.lt (by lia),?_⟩
   by_cases c:r (p.getD 0 0)<r (p.getD (m-1) 0)
   ·rw[show rc r (p.getD 0 0) (p.getD (m-1) 0)=true from hG c];dsimp only;rw[kD rfl]
    exact⟨g,a1,by lia,a3⟩
   ·rw[show rc r (p.getD 0 0) (p.getD (m-1) 0)=false from hI c];dsimp only;rw[kB kQ]
    have eq:Eql r p 0 m:=λk _ hk=>by
     have z1:=a3 0 k (mV _) hk
     have z2:=a3 k (m-1) (by lia) (by lia)
     show r _=r _
     have z1:r (p.getD 0 0)≤r (p.getD k 0):=z1
     have z2:r (p.getD k 0)≤r (p.getD (m-1) 0):=z2
     lia
    have kq:=q8L (r:=r) (p:=p) (i:=0) (j:=m) (by lia) eq
    refine qBY (g.rev _ _) (by lia) λi j hij hj=>?_
    rw[kq,kq]
    refine Dec.more (m:=m) (λi j hij hj=>?_) (pX lt) i j hij hj
    rw[eq i (mV _) (by lia),eq j (mV _) hj]
    exact gP _
  ·rw[kB m1]
   have:m=1:=by lia
   subst this
   refine qBY g (by lia) (Dec.more (λi j hij hj=>?_) (pX lt))
   rw[show i=j by lia]
   exact gP _
theorem q69{p:Array Nat}(g:Gp n p){k:Nat}(hk:k<n)(sr:Srt r p k):∀(f l u:Nat),u-l≤f→l≤u→u≤k→(∀i,i<l→kk r p i≤kk r p k)→(∀i,u≤i→i<k→kk r p k<kk r p i)→
 hT (rc r) n (kas_place p k f l u) (λm=>m≤k∧(∀i,i<m→kk r p i≤kk r p k)∧∀i,m≤i→i<k→kk r p k<kk r p i)
 |0,l,u,hf,hl,hu,a,b=>⟨by lia,a,λi h1 h2=>b i (by lia) h2⟩
 |f+1,l,u,hf,hl,hu,a,b=>by
  unfold kas_place
  by_cases e:l≥u
  ·rw[kD e]
   exact⟨by lia,a,λi h1 h2=>b i (by lia) h2⟩
  ·rw[kB e]
   refine⟨g.lt hk,g.lt (by lia),?_⟩
   by_cases c:r (p.getD k 0)<r (p.getD ((l+u) / 2) 0)
   ·rw[show rc r (p.getD k 0) (p.getD ((l+u) / 2) 0)=true from hG c];dsimp only;rw[kD rfl]
    refine q69 g hk sr f l ((l+u) / 2) (by lia) (by lia) (by lia) a λi h1 h2=>?_
    exact Int.lt_of_lt_of_le c (sr _ _ h1 h2)
   ·rw[show rc r (p.getD k 0) (p.getD ((l+u) / 2) 0)=false from hI c];dsimp only;rw[kB kQ]
    refine q69 g hk sr f ((l+u) / 2+1) u (by lia) (by lia) hu (λi h1=>?_) b
    exact c6 (sr i ((l+u) / 2) (by lia) (by lia)) (by show r _≤r _;lia)
theorem qJA{p:Array Nat}{k l:Nat}(hk:k<p.size)(hl:l≤k)(i:Nat):(bubble p k (k-l)).getD i 0=if i=l then p.getD k 0 else if l<i∧i≤k then p.getD (i-1) 0 else p.getD i 0:=by
 have e:=getElem?_bubble hk (k-l) (by lia) i
 rw[show k-(k-l)=l by lia]at e
 by_cases h1:i=l
 ·rw[kD h1]at e ⊢
  exact q44 e
 ·rw[kB h1]at e ⊢
  by_cases h2:l<i∧i≤k
  ·rw[kD h2]at e ⊢
   exact q44 e
  ·rw[kB h2]at e ⊢
   exact q44 e
theorem qEP:∀(f:Nat) (p:Array Nat) (k:Nat),Gp n p→k+f≤n→Srt r p k→hT (rc r) n (kas_bin f p k) (λq=>Gp n q∧Srt r q (k+f))
 |0,p,k,g,hz,sr=>⟨g,sr⟩
 |f+1,p,k,g,hz,sr=>by
  have hs:=g.size
  refine q30 _ (u8 ?_ _ (q69 g (show k<n by lia) sr k 0 k (by lia) (mV _) (kM _) (λi h=>absurd h (nR _)) λi h1 h2=>absurd h2 (by lia)))
  rintro l ⟨a1,a2,a3⟩
  have at':=qJA (p:=p) (k:=k) (l:=l) (by lia) a1
  refine u8 ?_ _ (qEP f _ (k+1) ((bubble_perm _ _ _).trans g) (by lia) λi j hij hj=>?_)
  ·rintro q ⟨b1,b2⟩
   exact⟨b1,by rw[show k+(f+1)=k+1+f by lia];exact b2⟩
  ·show r _≤r _
   rw[at',at']
   by_cases i1:i=l
   ·rw[kD i1]
    by_cases j1:j=l
    ·rw[kD j1];exact gP _
    ·rw[kB j1,kD ⟨by lia,by lia⟩]
     exact pX (a3 (j-1) (by lia) (by lia))
   ·rw[kB i1]
    by_cases i2:l<i∧i≤k
    ·rw[kD i2,kB (by lia),kD ⟨by lia,by lia⟩]
     exact sr _ _ (by lia) (by lia)
    ·rw[kB i2]
     by_cases j1:j=l
     ·rw[kD j1]
      exact a2 i (by lia)
     ·rw[kB j1]
      by_cases j2:l<j∧j≤k
      ·rw[kD j2]
       exact sr _ _ (by lia) (by lia)
      ·rw[kB j2]
       exact sr _ _ hij (by lia)
theorem qBZ(h1:1≤n):hT (rc r) n (kas_sort n) (λp=>Gp n p∧Srt r p n):=by
 refine q30 _ (u8 ?_ _ (qEO (p:=(List.range n).toArray) (aE _) h1))
 rintro⟨m,p⟩ ⟨a1,a2,a3,a4⟩
 dsimp only at a1 a2 a3 a4 ⊢
 by_cases e:m<n
 ·rw[kD e]
  refine u8 ?_ _ (qEP (n-max m 1) p (max m 1) a1 (by lia) (by rw[Nat.max_eq_left a2];exact a4))
  rintro q ⟨b1,b2⟩
  exact⟨b1,by rw[show max m 1+(n-max m 1)=n by lia]at b2;exact b2⟩
 ·rw[kB e]
  have:m=n:=by lia
  subst this
  exact⟨a1,a4⟩
end
end L2
namespace L2
open PySem PySem.W PySem.Spec PyProof.Rows
section
variable{prog:Program}{w:World}{A:Around}{E:Value→Shared→Prop}{s:Shared}
noncomputable abbrev q6A(vs:List Value)(p:Array Nat):Array Value:=List.toArray (p.toList.map λi=>vs.getD i Value.none)
structure RkAt(prog:Program)(w:World)(A:Around)(vs:List Value)(κ:SortKind)(r:Nat→Int)(s:Shared):Prop where
 kind:∀(Q:SortKind→Shared→Prop) (E:Value→Shared→Prop),Q κ s→wpAny (model prog w) A (keyKind' vs.toArray) Q E s
 lt:∀i j (C:Bool→Shared→Prop),i<vs.length→j<vs.length→C (decide (r i<r j)) s→wpAny (model prog w) A (keyLt' κ (vs.getD i Value.none) (vs.getD j Value.none)) C (λ_ _=>False) s
theorem qB1{a:Addr}{vs:List Value}{n:Nat}{κ:SortKind}{r:Nat→Int}{P:PySem.Fin→Shared→Prop}(ho:s.heap.get? a=some (seqObj "list" vs.toArray n))(h64:vs.length<64)
 (hr:2≤vs.length→∀h',(∀b o,b≠a→s.heap.get? b=some o→h'.get? b=some o)→RkAt prog w A vs κ r { s with heap:=h' })
 (h:∀p:Array Nat,Gp vs.length p→Srt r p vs.length→P (.done (.ret .none)) { s with heap:=sortedHeap s.heap a vs (q6A vs p) }):wpAny (model prog w) A (Builtin.«list.sort» ⟨[.ref a],[]⟩) P E s:=by
 have ha:a<s.heap.objs.size:=kY ho
 have hsz:vs.toArray.size=vs.length:=mD ..
 obtain⟨e1,g1⟩:∃e1,(s.heap.update a (Obj.mapSeq λ_=>(#[]:Array Value))).get? a=some (seqObj "list" #[] e1):=⟨_,pO ho λ_=>#[]⟩
 have g6:=kF (seqObj "list" #[] 0) (kF (seqObj "tuple" vs.toArray 0) g1)
 rw[list_sort_plain]
 refine kL (xJ ho rfl (kL (wT ho rfl (kL (sJ g1 rfl ?_)) (by rw[hsz,gI];lia) (mV _))))
 refine kL (wpAny_newTuple (kL (pL (dH ?_) (mV _))) (by show vs.length≤_;rw[gI];lia))
 show wpAny (model prog w) A _ P E { s with heap:=((s.heap.update a (Obj.mapSeq λ_=>(#[]:Array Value))).push (seqObj "tuple" vs.toArray 0)).push (seqObj "list" #[] 0) }
 dsimp only
 by_cases h2:vs.toArray.size<2
 ·rw[kD h2,kD h2]
  refine kL (mO ?_)
  rw[aF]
  refine kL (mO ?_)
  dsimp only
  have fin:=h (List.range vs.length).toArray (aE _) λi j hij hj=>by rw[show i=j by lia];exact gP _
  have eo:(pairsOf vs).map (·.2)=q6A vs (List.range vs.length).toArray:=by
   have em:(pairsOf vs)=(List.toArray (List.range vs.length)).map (kas_item (pairsOf vs)):=by
    have e:=kas_range (pairsOf vs)
    rw[xK]at e
    exact e.symm
   apply sQ.mp
   rw[em,bD,sS]
   exact gN λi _=>by show(kas_item (pairsOf vs) i).2=_;rw[kas_item_eq]
  refine kL (sJ g6 rfl ?_)
  refine kL (wT g6 rfl ?_ (mV _) (by rw[Array.size_map];show(pairsOf vs).size≤_;rw[xK,gI];lia))
  simp only[bne_self_eq_false,p9,if_false]
  refine mO ?_
  rw[←eo]at fin
  exact fin
 ·rw[kB h2,kB h2]
  have h2':2≤vs.length:=by lia
  have K:=hr h2' (((s.heap.update a (Obj.mapSeq λ_=>(#[]:Array Value))).push (seqObj "tuple" vs.toArray 0)).push (seqObj "list" #[] 0)) λb o nb e=>kF _ (kF _ ((mZ _ _ (wH nb)).trans e))
  refine kL (K.kind _ _ ?_)
  have est:SortSt.mk' κ (vs.toArray.zip vs.toArray) #[] 7 none=kas_st κ (pairsOf vs) (List.toArray (List.range vs.length)):=by
   have e:=kas_range (pairsOf vs)
   rw[xK]at e
   unfold kas_st
   rw[e]
   rfl
  have tree:(kas_sort vs.length).kasWp (kas_cmp prog w A κ (pairsOf vs)) (λp s'=>s'= { s with heap:=((s.heap.update a (Obj.mapSeq λ_=>(#[]:Array Value))).push (seqObj "tuple" vs.toArray 0)).push (seqObj "list" #[] 0) }∧Gp vs.length p∧Srt r p vs.length) { s with heap:=((s.heap.update a (Obj.mapSeq λ_=>(#[]:Array Value))).push (seqObj "tuple" vs.toArray 0)).push (seqObj "list" #[] 0) }:=by
   rw[←kas_ask_eq]
   exact qEN (c:=rc r) (n:=vs.length) (λi j C hi hj c=>K.lt i j C hi hj c) _ (u8 (λp q=>⟨rfl,q⟩) _ (qBZ (by lia)))
  have run:=kas_runs (E:=E) (Q:=λ_ st' s'=>∃p:Array Nat,arrOf st'=p.map (kas_item (pairsOf vs))∧failedOf st'=none∧s'= { s with heap:=((s.heap.update a (Obj.mapSeq λ_=>(#[]:Array Value))).push (seqObj "tuple" vs.toArray 0)).push (seqObj "list" #[] 0) }∧Gp vs.length p∧Srt r p vs.length) h2' h64 (λp' st' s' _ a2 a3 a4=>⟨p',a2,a3,a4⟩) tree
  rw[←est]at run
  refine kL (dP run ?_ λ_ _ e=>e)
  rintro⟨⟨⟩,st'⟩ s' ⟨p,har,hf,rfl,gp,sr⟩
  dsimp only
  have hout:(arrOf st').map (·.2)=q6A vs p:=by
   apply sQ.mp
   rw[har,bD,sS]
   exact gN λi _=>by show(kas_item (pairsOf vs) i).2=_;rw[kas_item_eq]
  have hol:(q6A vs p).size=vs.length:=by rw[mD,hC,mR,gp.size]
  rw[hout]
  refine kL (sJ g6 rfl ?_)
  refine kL (wT g6 rfl ?_ (mV _) (kO (cX hol) (by rw[gI];lia)))
  rw[hf]
  simp only[bne_self_eq_false,p9,if_false]
  exact mO (h p gp sr)
theorem q8M{l:Addr}{vs:List Value}{κ:SortKind}{r:Nat→Int}{Q:Value→Shared→Prop}(hl:s.heap.IsList l vs.toArray)(h64:vs.length<64)
 (hr:2≤vs.length→∀h',(∀b o,s.heap.get? b=some o→h'.get? b=some o)→RkAt prog w A.in1.in1 vs κ r { s with heap:=h' })
 (h:∀p:Array Nat,Gp vs.length p→Srt r p vs.length→Q (.ref (s.heap.objs.size+1)) { s with heap:=sortedAll s.heap vs (q6A vs p) }):
 wpAny (model prog w) A (call (.builtin "sorted") [.ref l]) Q E s:=by
 refine sF xW xL xM (args_sorted1 _) ?_
 unfold Builtin.«sorted»
 refine kL (m:=checkCount "sorted" 1 1 _) (mO (kL (collect_list hl (kL (pL ?_ (by rw[gI];show vs.length≤_;lia))))))
 have hsz:((s.heap.push (seqObj "list" #[] 0)).update s.heap.objs.size (Obj.mapSeq (· ++vs.toArray))).objs.size=s.heap.objs.size+1:=by
  rw[sT,l9]
 have g:(((s.heap.push (seqObj "list" #[] 0)).update s.heap.objs.size (Obj.mapSeq (· ++vs.toArray))).push (seqObj "list" vs.toArray 0)).get? (s.heap.objs.size+1)=some (seqObj "list" vs.toArray 0):=by
  rw[←hsz];exact mP _ rfl
 show wpAny _ _ _ _ _ { s with heap:=((s.heap.push (seqObj "list" #[] 0)).update s.heap.objs.size (Obj.mapSeq (· ++vs.toArray))).push (seqObj "list" vs.toArray 0) }
 rw[hsz]
 refine kL (dH (sU lI ⟨_,g,rfl⟩ nS (qB1 (κ:=κ) (r:=r) g h64 (λh2 h' k=>hr h2 h' λb o e=>k b o (m9 (wB (kY e))) (kF _ ((mZ _ _ (d9 (kY e))).trans (kF _ e)))) λp a1 a2=>⟨_,rfl,?_⟩) (args_list_sort _)))
 exact mO ⟨_,rfl,h p a1 a2⟩
end
noncomputable def lx:List Int→List Int→Bool
 |a::r,b::s=>if a=b then lx r s else decide (a<b)
 | [],_::_=>true
 |_,[]=>false
theorem q6B:∀a:List Int,lx a a=false
 | []=>rfl
 |a::r=>by
  show(if a=a then lx r r else decide (a<a))=false
  rw[kD rfl]
  exact q6B r
theorem q20:∀a b c:List Int,lx a b=true→lx b c=true→lx a c=true
 | [],[],c,h,_=>by cases h
 | [],_::_,[],_,h=>by cases h
 | [],_::_,_::_,_,_=>rfl
 |_::_,[],c,h,_=>by cases h
 |_::_,_::_,[],_,h=>by cases h
 |a::r,b::s,c::t,h,g=>by
  have h:(if a=b then lx r s else decide (a<b))=true:=h
  have g:(if b=c then lx s t else decide (b<c))=true:=g
  show(if a=c then lx r t else decide (a<c))=true
  by_cases e1:a=b
  ·subst e1
   rw[kD rfl]at h
   by_cases e2:a=c
   ·subst e2
    rw[kD rfl]at g ⊢
    exact q20 r s t h g
   ·rw[kB e2]at g ⊢
    exact g
  ·rw[kB e1,kX]at h
   by_cases e2:b=c
   ·subst e2
    rw[kB e1]
    exact hG h
   ·rw[kB e2,kX]at g
    rw[kB (by lia)]
    exact hG (by lia)
theorem q6C:∀a b:List Int,lx a b=false→lx b a=false→a=b
 | [],[],_,_=>rfl
 | [],_::_,h,_=>by cases h
 |_::_,[],_,h=>by cases h
 |a::r,b::s,h,g=>by
  have h:(if a=b then lx r s else decide (a<b))=false:=h
  have g:(if b=a then lx s r else decide (b<a))=false:=g
  by_cases e:a=b
  ·subst e
   rw[kD rfl]at h g
   rw[q6C r s h g]
  ·rw[kB e,rE]at h
   rw[kB (λz=>e z.symm),rE]at g
   lia
theorem q9W{α:Type}{p q:α→Bool}:∀{l:List α} {x:α},(∀y∈l,p y=true→q y=true)→x∈l→q x=true→p x=false→l.countP p<l.countP q
 |a::l,x,h,hx,h1,h2=>by
  have ml:l.countP p≤l.countP q:=pC λy hy=>h y (hU _ hy)
  rw[pJ,pJ]
  rcases kI.mp hx with e|hx
  ·subst e
   rw[h1,h2,kB kQ,kD rfl]
   lia
  ·have ih:=q9W (λy hy=>h y (hU _ hy)) hx h1 h2
   have ha:=h a (kU ..)
   cases pa:p a with
   |false=>
    rw[kB kQ]
    lia
   |true=>
    rw[ha pa]
    lia
noncomputable def rkOf(ks:List (List Int))(k:List Int):Int:=((ks.countP λy=>lx y k:Nat):Int)
theorem qB2{ks:List (List Int)}{k k':List Int}(h:k∈ks)(h':k'∈ks):rkOf ks k<rkOf ks k'↔lx k k'=true:=by
 constructor
 ·intro lt
  cases e:lx k k' with
  |true=>rfl
  |false=>
   have:ks.countP (λy=>lx y k')≤ks.countP (λy=>lx y k):=pC λy _ hy=>by
    cases g:lx k' k with
    |true=>exact q20 _ _ _ hy g
    |false=>rw[q6C k k' e g];exact hy
   unfold rkOf at lt
   lia
 ·intro e
  have:=q9W (p:=λy=>lx y k) (q:=λy=>lx y k') (l:=ks) (x:=k) (λy _ hy=>q20 _ _ _ hy e) h e (q6B k)
  unfold rkOf
  lia
section
variable{prog:Program}{w:World}{A:Around}{E:Value→Shared→Prop}{s:Shared}
theorem qGE{b:Bool}{x y:Int}{t u:Tok}{Q:Bool→Shared→Prop}(h:Q (decide (x<y)) s):wpAny (model prog w) A (oneLt' b (.int x t) (.int y u)) Q E s:=by
 cases b with
 |true=>
  have z:=kat_lt_int (prog:=prog) (w:=w) (A:=A) (E:=E) (t:=t) (u:=u) h
  rw[keyLt'_oneType]at z
  exact z
 |false=>
  refine kat_one _ _ ?_
  exact lt_int h
theorem q9X{b:Bool}{Q:Bool→Shared→Prop}:∀{ns ms:List Int} {us vs:List Value} (i:Nat),IntsAre us ns→IntsAre vs ms→ns.length=ms.length→Q (lx ns ms) s→KatLex prog w A b false Q (us.zip vs) i s
 | [],[],_,_,i,.nil,.nil,_,h=>h
 |n::ns,m::ms,_,_,i,.cons _ t hn,.cons _ u hm,hl,h=>by
  refine kat_cons (wpAny_eqBool_int ?_)
  have h:Q (if n=m then lx ns ms else decide (n<m)) s:=h
  by_cases e:n=m
  ·rw[kD e]at h
   rw[show(n==m)=true by rw[wF];exact e]
   exact kat_yes (q9X (i+1) hn hm (by simpa using hl) h)
  ·rw[kB e]at h
   rw[show(n==m)=false by rw[rG];exact e]
   exact kat_no (qGE h)
 | [],_::_,_,_,_,_,_,hl,_=>by simp at hl
 |_::_,[],_,_,_,_,_,hl,_=>by simp at hl
noncomputable def IsTI(h:Heap)(v:Value)(k:List Int):Prop:=∃a us,v=.ref a∧h.IsTuple a us.toArray∧IntsAre us k
theorem IsTI.at{h h':Heap}{v:Value}{k:List Int}(x:IsTI h v k)(e:∀b o,h.get? b=some o→h'.get? b=some o):IsTI h' v k:=
 let⟨a,us,e1,⟨o,e2,r⟩,i⟩:=x
 ⟨a,us,e1,⟨o,e _ _ e2,r⟩,i⟩
theorem qC0{h:Heap}:∀{vs:List Value} {ks:List (List Int)},Paired (IsTI h) vs ks→(∀k∈ks,0<k.length)→∃fs,KatTups h vs fs∧fs.length=ks.length∧∀v∈fs,∃i t,v=.int i t
 | [],[],.nil,_=>⟨[],trivial,rfl,λv hv=>by cases hv⟩
 |v::vs,k::ks,.cons x t,hp=>by
  obtain⟨fs,r,hl,hi⟩:=qC0 t λk hk=>hp k (hU _ hk)
  obtain⟨a,us,rfl,⟨o,ho,hc,n,hd⟩,iu⟩:=x
  have h0:=hp k (kU ..)
  cases iu with
  |nil=>simp at h0
  |cons i t0 hr=>
   refine⟨.int i t0::fs,KatTups.cons ho hc hd (by simp) r,by simp[hl],λv hv=>?_⟩
   rcases kI.mp hv with rfl|hv
   ·exact⟨i,t0,rfl⟩
   ·exact hi v hv
theorem qC1{vs:List Value}{ks:List (List Int)}{m:Nat}(h:Paired (IsTI s.heap) vs ks)(hw:∀k∈ks,k.length=m)(hm:0<m)(h2:2≤vs.length):RkAt prog w A vs (tuples' true) (λi=>rkOf ks (ks.getD i [])) s:=by
 have hl:=h.len
 constructor
 ·intro Q E' q
  obtain⟨fs,t,e,hi⟩:=qC0 h λk hk=>by rw[hw k hk];exact hm
  exact kat_kind (T:=Value.type "int") t (by lia) (λv hv=>by obtain⟨i,t0,rfl⟩:=hi v hv;exact .now) rfl q
 ·intro i j C hi hj c
  have e1:vs[i]?=some (vs.getD i Value.none):=by rw[hX hi];simp[hi]
  have e2:vs[j]?=some (vs.getD j Value.none):=by rw[hX hj];simp[hj]
  obtain⟨k1,g1,a1,us1,q1,⟨o1,ho1,_,n1,d1⟩,i1⟩:=Paired.at h e1
  obtain⟨k2,g2,a2,us2,q2,⟨o2,ho2,_,n2,d2⟩,i2⟩:=Paired.at h e2
  have m1:k1∈ks:=gE g1
  have m2:k2∈ks:=gE g2
  have z1:ks.getD i []=k1:=by rw[kJ,g1];rfl
  have z2:ks.getD j []=k2:=by rw[kJ,g2];rfl
  have ll:k1.length=k2.length:=by rw[hw _ m1,hw _ m2]
  have c:C (lx k1 k2) s:=by
   have y:decide (rkOf ks (ks.getD i [])<rkOf ks (ks.getD j []))=lx k1 k2:=by
    rw[z1,z2,wQ,kX]
    exact qB2 m1 m2
   rw[←y]
   exact c
  rw[q1,q2]
  refine kat_lt ho1 d1 ho2 d2 ?_
  have f:decide (us1.toArray.size<us2.toArray.size)=false:=by
   rw[mD,mD,i1.length,i2.length,ll]
   exact hI (dR _)
  rw[f]
  exact q9X 0 i1 i2 ll c
end
section
variable{X:Cx}
noncomputable def TupI(K:PySem.W.Frag)(H:Hp)(v:V)(k:List Int):Prop:=∃a,v=.ref a∧SqT K H a (k.map V.int)
theorem q8N{pins:List (Addr×Obj)}{σ:St}{H:Hp}{s:Shared}(I:Inv X pins σ H s):∀{xs:List V} {us:List Value} {ks:List (List Int)},Vals xs us→Paired (TupI X.K H) xs ks→Paired (IsTI s.heap) us ks
 | [],_,_,.nil,.nil=>.nil
 |x::xs,u::us,_,.cons r t,.cons ⟨a,e,h⟩ y=>by
  subst e
  obtain rfl:u=Value.ref a:=r
  obtain⟨its,rv,p,_⟩:=I.tuple h
  exact .cons ⟨a,its,rfl,p,q2Z rv⟩ (q8N I t y)
theorem q4M{xs:List V}{us:List Value}(r:Vals xs us):∀{q:List Nat},(∀i∈q,i<xs.length)→Vals (q.map λi=>xs.getD i .non) (q.map λi=>us.getD i Value.none)
 | [],_=>.nil
 |i::q,h=>by
  have hi:=h i (kU ..)
  have hl:=r.length
  refine .cons ?_ (q4M r λj hj=>h j (hU _ hj))
  obtain⟨x,e,z⟩:=r.atN (j:=i) (by lia)
  show RelV (xs.getD i .non) (us.getD i Value.none)
  rw[kJ,e,kJ,hX (by lia)]
  exact z
theorem q45:zC X (.builtin "sorted") (λxs H Q=>∃(p:Addr) (us:List V) (ks:List (List Int)) (m:Nat),xs=[.ref p]∧SqL X.K H p us∧Paired (TupI X.K H) us ks∧(∀k∈ks,k.length=m)∧0<m∧us.length<64∧
 ∀q:List Nat,q.Perm (List.range us.length)→(q.map λi=>ks.getD i []).Pairwise (λa b=>lx b a=false)→NewO H (.lst (q.map λi=>us.getD i .non)) Q):=by
 intro pins s σ H xs us Q I r hZ
 obtain⟨p,xs',ks,m,ex,hq,hk,hw,hm,h64,q⟩:=hZ
 subst ex
 obtain⟨u,rfl,rx⟩:=q1Q r
 cases rx
 obtain⟨its,rv,pl,hz⟩:=I.list hq
 have hlen:=rv.length
 have hti:=q8N I rv hk
 refine q8M (κ:=tuples' true) (r:=λi=>rkOf ks (ks.getD i [])) pl.isList (by lia) (λh2 h' k=>qC1 (Paired.mapP hti λ_ _ z=>z.at k) hw hm h2) λa gp sr=>?_
 have pp:a.toList.Perm (List.range its.length):=by
  have:=sB.mp gp
  simpa using this
 obtain⟨e,he⟩:=sortedAll_at s.heap its (q6A its a)
 have hin:∀i∈a.toList,i<xs'.length:=λi hi=>by rw[hlen];exact mL.mp (pp.mem_iff.mp hi)
 have kl:=hk.len
 have pw:(a.toList.map λi=>ks.getD i []).Pairwise (λx y=>lx y x=false):=by
  rw[g7,cJ]
  intro i j hi hj hij
  rw[mR,gp.size]at hi hj
  have z:rkOf ks (ks.getD (a.getD i 0) [])≤rkOf ks (ks.getD (a.getD j 0) []):=sr i j (by lia) hj
  have gi:a.getD i 0=a.toList[i]'(by rw[mR,gp.size];exact hi):=by simp[Array.getD,gp.size,hi]
  have gj:a.getD j 0=a.toList[j]'(by rw[mR,gp.size];exact hj):=by simp[Array.getD,gp.size,hj]
  rw[gi,gj]at z
  have mem:∀x,x<ks.length→ks.getD x []∈ks:=λx hx=>by rw[kJ,hX hx];exact gG hx
  cases g:lx (ks.getD (a.toList[j]'(by rw[mR,gp.size];exact hj)) []) (ks.getD (a.toList[i]'(by rw[mR,gp.size];exact hi)) [])with
  |false=>rfl
  |true=>
   have lt:=(qB2 (mem _ (by rw[←kl];exact hin _ (gG _))) (mem _ (by rw[←kl];exact hin _ (gG _)))).mpr g
   lia
 refine⟨.ref (s.heap.objs.size+1),_,I.laid (t':=s.toks) (λ_ _ h=>sortedAll_old h) (rC _) (show jF X.prog X.w _ _ _ (.lst _)from⟨?_,(q6A its a).toList,e,?_,he⟩),rfl,(q a.toList (by rw[hlen];exact pp) pw).at _ (I.hok.fresh (rC _))⟩
 ·rw[hC,pp.length_eq,mG,gI]
  lia
 ·exact q4M rv hin
end
section
variable{X:Cx}{pins:List (Addr×Obj)}{σ:St}{H:Hp}{s:Shared}
theorem Inv.adopt{D:Addr}{o:HO}(I:Inv X pins σ H s)(f:FpOk X pins H D)(hD:X.s₀.heap.objs.size≤D)(ok:jF X.prog X.w (upd H D o) s.heap D o):Inv X pins σ (upd H D o) s:=by
 have low:∀b ob,X.s₀.heap.get? b=some ob→b≠D:=λb ob e=>m9 (mY (kY e) hD)
 have trk:∀b u,H b=some u→b≠D:=λb u e=>qF e f.1
 refine⟨I.ok,I.os,I.bare,⟨I.base.keep,I.base.slot,λb ob e n x=>?_,I.base.there,λb xs e=>?_,λb ob u e=>?_,λb ps e=>?_⟩,I.loc,I.cell,?_,λx c e=>?_,λp hp=>?_,λb u e=>?_,I.len⟩
 ·rw[qC (low b ob e)]
  exact I.base.free b ob e n x
 ·have z:=I.base.tups b xs e
  rw[qC (trk _ _ z)]
  exact z
 ·have z:=I.base.frzs b ob u e
  rw[qC (trk _ _ z)]
  exact z
 ·obtain⟨m,z⟩:=I.base.tbls b ps e
  exact⟨m,by rw[qC (trk _ _ z)];exact z⟩
 ·rw[qC (λz=>f.2.1 z.symm)]
  exact I.free
 ·rw[qC (f.2.2.2.2.1 x c e)]
  exact I.freeC x c e
 ·obtain⟨a1,a2,a3⟩:=I.pin p hp
  exact⟨a1,by rw[qC (f.2.2.2.2.2 p hp)];exact a2,a3⟩
 ·by_cases hb:b=D
  ·subst hb
   rw[qH]at e
   cases e
   exact ok
  ·rw[qC hb]at e
   exact(I.hok b u e).stay (λ_ _ _ q=>q) (λc q=>by rw[qC (trk _ _ q)];exact q) λc xs q=>by rw[qC (trk _ _ q)];exact q
theorem Inv.near(I:Inv X pins σ H s){A':Around}(h1:A'.handled=X.A.handled)(h2:A'.frames=X.A.frames)(xe:Value→Shared→Prop):Inv { X with A:=A',xe:=xe } pins σ H s:=
 ⟨{ mod:=I.ok.mod,kind:=I.ok.kind,glob:=I.ok.glob,blt:=I.ok.blt,above:=I.ok.above,inj:=I.ok.inj,has:=I.ok.has,cab:=I.ok.cab,hd:=λc=>h1.trans (I.ok.hd c),frames:=h2.trans I.ok.frames,stk:=I.ok.stk,exf:=I.ok.exf,bs:=I.ok.bs,bsz:=I.ok.bsz,noex:=I.ok.noex,exfs:=I.ok.exfs,funs:=I.ok.funs,frf:=I.ok.frf },I.os,I.bare,I.base,I.loc,I.cell,I.free,I.freeC,I.pin,I.hok,I.len⟩
theorem q9Y{P:PySem.Fin→Shared→Prop}{EE:Value→Shared→Prop}{A:Around}{a kS:Addr}{st:SortSt}{e1 e:Nat}{ks:List Value}{out:List Value}{us:List V}(I:Inv X pins σ H s)(fa:FpOk X pins H a)(fk:FpOk X pins H kS)(ha:X.s₀.heap.objs.size≤a)(ne:kS≠a)
 (ga:s.heap.get? a=some (seqObj "list" #[] e1)) (gk:s.heap.get? kS=some (seqObj "list" ks.toArray e)) (hk:ks.length<64) (hout:(arrOf st).map (·.2)=out.toArray) (ho:out.length<64) (hf:failedOf st=none) (rv:Vals us out)
 (h:∀s',Inv X pins σ (upd H a (.lst us)) s'→P (.done (.ret .none)) s'):wpAny (model X.prog X.w) A (ksk_tail a false e1 (.ref kS) st) P EE s:=by
 unfold ksk_tail
 try dsimp only
 rw[hout]
 refine kL (wT gk rfl ?_ (by rw[mD,gI];lia) (mV _))
 refine kL (wpAny_letGo ?_)
 have ga':(s.heap.update kS (Obj.mapSeq λ_=>(#[]:Array Value))).get? a=some (seqObj "list" #[] e1):=(mZ _ _ ne).trans ga
 refine kL (sJ ga' rfl ?_)
 refine kL (wT ga' rfl ?_ (mV _) (by rw[kB kQ,mD,gI];lia))
 rw[hf]
 simp only[bne_self_eq_false,p9,if_false]
 refine mO (h _ ?_)
 obtain⟨c2,g2⟩:∃c2,((s.heap.update kS (Obj.mapSeq λ_=>(#[]:Array Value))).update a (Obj.mapSeq λ_=>out.toArray)).get? a=some (seqObj "list" out.toArray c2):=⟨_,pO ga' λ_=>out.toArray⟩
 have I2:Inv X pins σ H { s with heap:=(s.heap.update kS (Obj.mapSeq λ_=>(#[]:Array Value))).update a (Obj.mapSeq λ_=>out.toArray),toks:=s.toks }:=
  I.turnedN (fp:=[kS,a]) (λb o hb eb=>by
   simp only[kI,gW,cE,not_or]at hb
   exact(mZ _ _ (wH hb.2)).trans ((mZ _ _ (wH hb.1)).trans eb)) (λb hb=>by
   simp only[kI,gW,cE]at hb
   rcases hb with rfl|rfl
   ·exact fk
   ·exact fa)
 exact I2.adopt fa ha (show jF X.prog X.w _ _ _ (.lst us)from⟨by rw[rv.length,gI];lia,out,c2,rv,g2⟩)
theorem qGF{P:PySem.Fin→Shared→Prop}{EE:Value→Shared→Prop}{A:Around}{a kS:Addr}{e1 e:Nat}{ks vs:List Value}{us zs:List V}{kk:List (List Int)}{m:Nat}(I:Inv X pins σ H s)(fa:FpOk X pins H a)(fk:FpOk X pins H kS)(ha:X.s₀.heap.objs.size≤a)(ne:kS≠a)
 (ga:s.heap.get? a=some (seqObj "list" #[] e1)) (gk:s.heap.get? kS=some (seqObj "list" ks.toArray e)) (rz:Vals zs ks) (rv:Vals us vs) (hl:zs.length=us.length) (h64:us.length<64) (hti:Paired (TupI X.K H) zs kk) (hw:∀k∈kk,k.length=m) (hm:0<m)
 (h:∀q:List Nat,q.Perm (List.range us.length)→(q.map λi=>kk.getD i []).Pairwise (λa b=>lx b a=false)→∀s',Inv X pins σ (upd H a (.lst (q.map λi=>us.getD i .non))) s'→P (.done (.ret .none)) s'):
 wpAny (model X.prog X.w) A (ksk_end a false vs.toArray e1 (.ref kS) ks.toArray) P EE s:=by
 have l1:=rz.length
 have l2:=rv.length
 have l3:=hti.len
 have hlk:ks.length=vs.length:=by lia
 unfold ksk_end
 try dsimp only
 rw[kB kQ]
 by_cases h2:vs.toArray.size<2
 ·rw[kD h2,kD h2]
  refine kL (mO ?_)
  rw[aF]
  refine kL (mO ?_)
  try dsimp only
  have hn2:vs.length<2:=by rw[mD]at h2;exact h2
  refine q9Y (out:=vs) (us:=us) I fa fk ha ne ga gk (by lia) ?_ (by lia) rfl rv λs' I'=>?_
  ·rw[kB kQ]
   show(ks.toArray.zip vs.toArray).map (·.2)=vs.toArray
   apply sQ.mp
   rw[sS,Array.toList_zip]
   show(ks.zip vs).map Prod.snd=vs
   exact List.map_snd_zip (by lia)
  ·have e:(List.range us.length).map (λi=>us.getD i .non)=us:=by
    refine cG (by simp) λi h1 h3=>?_
    rw[sV,cT,kJ,hX h3]
    rfl
   have z:=h (List.range us.length) (List.Perm.refl _) (by
    rw[g7,cJ]
    intro i j hi hj hij
    rw[mG]at hi hj
    lia)
   rw[e]at z
   exact z s' I'
 ·rw[kB h2,kB h2]
  have h2':2≤ks.length:=by rw[mD]at h2;lia
  have K:=qC1 (prog:=X.prog) (w:=X.w) (A:=A) (s:=s) (q8N I rz hti) hw hm h2'
  refine kL (K.kind _ _ ?_)
  rw[kB kQ]
  refine kL (dP (kat_run (κ:=tuples' true) (G:=λp s'=>s'=s∧Gp vs.length p∧Srt (λi=>rkOf kk (kk.getD i [])) p vs.length) (Q:=λst' s'=>∃p:Array Nat,arrOf st'=p.map (kas_item (ks.toArray.zip vs.toArray))∧failedOf st'=none∧s'=s∧Gp vs.length p∧Srt (λi=>rkOf kk (kk.getD i [])) p vs.length) hlk (by lia) (by lia) (λp' st' s' _ a2 a3 a4=>⟨p',a2,a3,a4⟩) ?_) ?_ λ_ _ x=>x)
  ·refine qEN (c:=rc λi=>rkOf kk (kk.getD i [])) (n:=vs.length) (λi j C hi hj c=>K.lt i j C (by lia) (by lia) c) _ (u8 (λp q=>⟨rfl,q⟩) _ (qBZ (by lia)))
  ·rintro⟨⟨⟩,st'⟩ s' ⟨p,har,hf,rfl,gp,sr⟩
   try dsimp only
   have pp:p.toList.Perm (List.range vs.length):=by
    have:=sB.mp gp
    simpa using this
   have hin:∀i∈p.toList,i<us.length:=λi hi=>by rw[l2];exact mL.mp (pp.mem_iff.mp hi)
   have pw:(p.toList.map λi=>kk.getD i []).Pairwise (λx y=>lx y x=false):=by
    rw[g7,cJ]
    intro i j hi hj hij
    rw[mR,gp.size]at hi hj
    have z:rkOf kk (kk.getD (p.getD i 0) [])≤rkOf kk (kk.getD (p.getD j 0) []):=sr i j (by lia) hj
    have gi:p.getD i 0=p.toList[i]'(by rw[mR,gp.size];exact hi):=by simp[Array.getD,gp.size,hi]
    have gj:p.getD j 0=p.toList[j]'(by rw[mR,gp.size];exact hj):=by simp[Array.getD,gp.size,hj]
    rw[gi,gj]at z
    have mem:∀x,x<kk.length→kk.getD x []∈kk:=λx hx=>by rw[kJ,hX hx];exact gG hx
    cases g:lx (kk.getD (p.toList[j]'(by rw[mR,gp.size];exact hj)) []) (kk.getD (p.toList[i]'(by rw[mR,gp.size];exact hi)) [])with
    |false=>rfl
    |true=>
     have b1:=hin _ (gG (show j<p.toList.length by rw[mR,gp.size];exact hj))
     have b2:=hin _ (gG (show i<p.toList.length by rw[mR,gp.size];exact hi))
     have lt:=(qB2 (mem _ (by lia)) (mem _ (by lia))).mpr g
     lia
   exact q9Y (out:=p.toList.map λi=>vs.getD i Value.none) (us:=p.toList.map λi=>us.getD i .non) I fa fk ha ne ga gk (by lia) (kat_snds hlk har) (by rw[hC,pp.length_eq,mG];lia) hf (q4M rv hin) λs' I'=>h p.toList (by rw[l2];exact pp) pw s' I'
end
end L2
namespace L2
open PySem PySem.Spec PyProof.Rows
theorem qC2{X:Cx}{K:PySem.W.Frag}{es:List Expr}{k:Nat}{t:TGs}{n:Nat}{pos:Pos}(e:X.K=K)(hc:X.calm=true)(h:PGs X es t)(hn:(assignEach es X.env).length=n)(hst:(assignEach es X.env).findIdx? (·.1)=none):PG X (.Tuple es k pos) (gTup K n t):=by
 subst e
 exact q5Q hc h hn hst
noncomputable def q51(v a:Addr):HO:=.ext λh=>h.IsItemsView v a
theorem qEQ{P:Program}{w:World}{H:Hp}{h:Heap}{v a:Addr}(e:h.IsItemsView v a):jF P w H h v (q51 v a):=by
 obtain⟨o,e1,e2,e3⟩:=id e
 exact⟨e,⟨_,e1⟩,λ_ _ ⟨o,a1,a2⟩ k=>⟨o,k _ a1,a2⟩⟩
theorem qER{P:Program}{w:World}{H:Hp}{h:Heap}{v a:Addr}(ok:HOk P w H h)(e:H v=some (q51 v a)):h.IsItemsView v a:=(ok v _ e).1
noncomputable def qJB:V→List V→Hp→VK→Prop:=λx vs H Q=>∃a kvs,x=.ref a∧vs=[]∧H a=some (.dK kvs)∧∀v,H v=none→Q (.ref v) (upd H v (q51 v a))
theorem qES{X:Cx}:MtR X "dict.items" qJB:=by
 intro pins s σ H x vs v us Q I rx rv hZ
 obtain⟨a,kvs,ex,ev,ha,q⟩:=hZ
 subst ex ev
 cases rx
 have hus:=rv.zero
 subst hus
 obtain⟨z,lo,ws,rel,dd⟩:=q5Z I.hok ha
 refine pV sX dd.typeIs PySem.F.entry_dict_items (PySem.F.args_dict_items_1 _) (meets_dict_items (jQ X.prog X.w) a lo) ⟨⟨ws,dd⟩,?_⟩
 exact⟨.ref s.heap.objs.size,_,I.laid (t':=s.toks) (λb o e=>kF _ e) (kM _) (qEQ ⟨_,mP _ rfl,rfl,rfl⟩),rfl,q _ (I.hok.fresh (kM _))⟩
theorem q6D:entryFor table "dict_itemiterator.__iter__"=some Builtin.«dict_keyiterator.__iter__»:=
 entryFor_alias (id':="dict_keyiterator.__iter__") (by kernel_rfl) (by first|decide+kernel|rfl|(unfold String.splitOn;simp+decide [String.splitOnAux])) (by decide+kernel) (by kernel_rfl)
noncomputable def Iti(a:Addr)(o:Obj)(kvs:List (Key×V)):It:=
 ⟨λi H=>H a=some (.frz o (.dK kvs))∧i<kvs.length,λi H v H'=>∃T kv,v=.ref T∧H T=none∧H'=upd H T (.tup [kV kv.1,kv.2])∧kvs[i]?=some kv,λi H=>H a=some (.frz o (.dK kvs))∧kvs.length≤i⟩
theorem qB3{P:Program}{w:World}{K:PySem.W.Frag}{elts:List Expr}{x1}{pos:Pos}(a it:Addr)(o:Obj){kvs:List (Key×V)}{vs:List (Key×Value)}{ep:Nat}(rel:KV kvs vs)(hD:∀h:Heap,h.get? a=some o→h.DictAt (jQ P w) a vs ep):
 Turn P w K (.Tuple elts x1 pos) (Iti a o kvs) [it] it (λi h=>∃k0 v0,IsItemIter h it a i vs.length ep k0 v0) where
 mem:=by simp
 obj:=λi h st b hb=>by
  have e:b=it:=by simpa using hb
  subst e
  obtain⟨k0,v0,e⟩:=st
  exact⟨_,e,λv z=>by cases z⟩
 keep:=λi h h' st k=>let⟨k0,v0,e⟩:=st;⟨k0,v0,k it (by simp) _ e⟩
 item:=by
  intro X hP hw hK hc i pins s σ H E I hf st hg
  subst hP hw hK
  obtain⟨ha,hi⟩:=hg
  obtain⟨ho,_⟩:=I.hok a _ ha
  have hl:=rel.length
  have hi':i<vs.length:=by lia
  obtain⟨k0,v0,st⟩:=st
  obtain⟨f0,f1,f2,f3,f4,f5⟩:=hf it (by simp)
  refine wpAny_pyNext_items_item (k:=vs[i].1) (v:=vs[i].2) st (hD _ ho) (hX hi') λkey h' hk b1 b5 b6 b7=>?_
  refine⟨_,rfl,wpAny_letOwnedTupleGo_items (s:={ s with heap:=h' }) b1 λh'' c1 c2=>?_⟩
  have kk:∀b o,b∉[it]→s.heap.get? b=some o→h''.get? b=some o:=λb o hb e=>by
   have nb:b≠it:=λz=>hb (kE.mpr z)
   exact c2.extBut _ _ nb (b7 b o nb e)
  have I1:Inv X pins σ H { s with heap:=h'' }:=I.turnedN (t':=s.toks) kk hf
  have fr:H s.heap.objs.size=none:=I.hok.fresh (kM _)
  have yg:=I.young (a:=s.heap.objs.size) (cA (kM _))
  have nit:s.heap.objs.size≠it:=d9 (kY st)
  have ek:=gX (λl=>l[i]?) rel.keys
  simp only[mC,hX hi,hX hi',aB]at ek
  have rk:RelV (kV kvs[i].1) key:=by rw[kN ek];exact qEJ hk
  have rv:RelV kvs[i].2 vs[i].2:=by
   obtain⟨q,hq,z1,z2⟩:=Paired.at rel (hX hi)
   rw[hX hi']at hq
   rw[kN hq]
   exact z2
  have I2:=I1.trackG (o:=.tup [kV kvs[i].1,kvs[i].2]) fr yg (d9 I.lt) (λx' c' w q'=>by
   obtain⟨v,o',ho,_⟩:=I.cell x' c' w
   exact absurd (kY ho) (by rw[q'];exact dR _)) ⟨by rw[gI,mM,mM,pN];lia,[key,vs[i].2],.cons rk (.cons rv .nil),⟨_,c2.extBut _ _ nit b5,rfl,_,rfl⟩⟩
  refine⟨.ref s.heap.objs.size,_,I2,rfl,⟨_,kvs[i],rfl,fr,rfl,hX hi⟩,⟨_,_,c1⟩,λb hb=>?_⟩
  have e:b=it:=by simpa using hb
  subst e
  rw[qC (wH nit)]
  exact(hf b hb).1
 done:=by
  intro X hP hw hK hc i pins s σ H E I hf st hg
  subst hP hw hK
  obtain⟨ha,hi⟩:=hg
  obtain⟨ho,_⟩:=I.hok a _ ha
  have hl:=rel.length
  obtain⟨k0,v0,st⟩:=st
  obtain⟨f0,f1,f2,f3,f4,f5⟩:=hf it (by simp)
  exact wpAny_pyNext_items_end (I.ok.hd hc) st (hD _ ho) (dG (by lia)) λh' eb=>⟨rfl,I.turned (t':=s.toks) (λb o hb e=>eb b o hb e) f0 f1 f3 f4 f5⟩
 self:=λA i s Q E ⟨k0,v0,st⟩ h=>by
  have ty:s.TypeIs (.ref it) "dict_itemiterator":=⟨_,st,rfl⟩
  refine wpAny_pyIter_slot ty cN (sU cN ty q6D ?_ (PySem.F.args_dict_itemiterator_iter_1 _))
  show wpAny _ _ (ret (.ref it)) _ _ s
  exact mO ⟨_,rfl,"dict_itemiterator",_,ty,PySem.F.slot_dict_itemiterator_next.lookup,h⟩
section
variable{X:Cx}
noncomputable def iItm(td:TE):TI:=λσ H R=>td σ H λx H1=>∃v a kvs,x=.ref v∧H1 v=some (q51 v a)∧H1 a=some (.dK kvs)∧∀o,R (Iti a o kvs) (upd H1 a (.frz o (.dK kvs)))
theorem qJC{elts:List Expr}{x1}{pos:Pos}{d:Expr}{td:TE}(hd:PE X d td):PI X (.Tuple elts x1 pos) d (iItm td):=by
 intro pins s σ H R I h
 refine thn (hd pins s σ H _ I h) λv s1 hZ=>?_
 obtain⟨x,H1,I1,r1,q1⟩:=hZ
 obtain⟨vw,a,kvs,e,hv,ha,q⟩:=q1
 subst e
 cases r1
 obtain⟨z,lo,vs,rel,dd⟩:=q5Z I1.hok ha
 obtain⟨ep,hat⟩:=dd.dictAt
 obtain⟨o,es,ho,hr⟩:=id hat
 have I2:=I1.freeze ha ho
 refine wpAny_pyIter_items (qER I1.hok hv) hat ?_
 refine⟨s1.heap.objs.size,[s1.heap.objs.size],_,_,_,rfl,I2.kept (t':=s1.toks) λb o e=>kF _ e,qB3 a _ o rel (λh' h=>⟨o,es,h,hr⟩),⟨_,_,mP _ rfl⟩,λb hb=>?_,q o⟩
 have e:b=s1.heap.objs.size:=by simpa using hb
 subst e
 exact I2.fpOk (kM _) (I2.hok.fresh (kM _))
end
theorem qGG{a:Addr}{o:Obj}{kvs:List (Key×V)}{D:Addr}{H2:Hp}{g:TG}{tc:TT}{te:TE}{σ0:St}{R:Hp→Prop}(Pv:Nat→Hp→Prop)(h0:Pv 0 H2)(hl:∀i H,Pv i H→H a=some (.frz o (.dK kvs)))
 (hs:∀(i:Nat) kv T H,kvs[i]?=some kv→Pv i H→H T=none→g (.ref T) σ0 (upd H T (.tup [kV kv.1,kv.2])) λσ5 H5=>tc σ5 H5 λb H6=>if b=true then te σ5 H6 (λv H7=>∃vs,H7 D=some (.lst vs)∧vs.length<sizeLine∧Pv (i+1) (upd H7 D (.lst (vs++[v]))))else Pv (i+1) H6) (hd:∀H,Pv kvs.length H→R H):
 ∃W:Nat→Nat→Hp→Prop,(∃m,W 0 m H2)∧∀i m H3,W i m H3→((Iti a o kvs).stop i H3∧R H3)∨
  ((Iti a o kvs).go i H3∧∃N:Hp→Prop,(∀H',N H'→∃m',m'<m∧W (i+1) m' H')∧∀x H4,(Iti a o kvs).yld i H3 x H4→g x σ0 H4 λσ5 H5=>tc σ5 H5 λb H6=>
   if b=true then te σ5 H6 (λv H7=>∃vs,H7 D=some (.lst vs)∧vs.length<sizeLine∧N (upd H7 D (.lst (vs++[v]))))else N H6):=by
 refine⟨λi m H=>m=kvs.length-i∧i≤kvs.length∧Pv i H,⟨kvs.length,by simp,mV _,h0⟩,?_⟩
 rintro i m H ⟨rfl,hi,p⟩
 have q:=hl i H p
 by_cases hlt:i<kvs.length
 ·refine .inr ⟨⟨q,hlt⟩,Pv (i+1),λH' z=>⟨kvs.length-(i+1),by lia,rfl,by lia,z⟩,?_⟩
  rintro v H' ⟨T,kv,rfl,nT,rfl,hk⟩
  exact hs i kv T _ hk p nT
 ·obtain rfl:i=kvs.length:=by lia
  exact .inl ⟨⟨q,kM _⟩,hd _ p⟩
end L2
namespace L2
open PySem PySem.W PySem.Spec PyProof.Rows
section
variable{X:Cx}{pins:List (Addr×Obj)}{σ:St}
noncomputable def TupD(H:Hp)(v:V)(k:List Int):Prop:=∃a,v=.ref a∧H a=some (.tup (k.map V.int))
theorem TupD.i{K:PySem.W.Frag}{H:Hp}{v:V}{k:List Int}(h:TupD H v k):TupI K H v k:=let⟨a,e,z⟩:=h;⟨a,e,SqT.of z⟩
theorem TupD.same{H H':Hp}{v:V}{k:List Int}(h:TupD H v k)(s:Same H H'):TupD H' v k:=let⟨a,e,z⟩:=h;⟨a,e,s _ _ z⟩
theorem TupD.upd{H:Hp}{v:V}{k:List Int}{D:Addr}{u o:HO}(h:TupD H v k)(hd:H D=some u)(n:∀ys,u≠ .tup ys):TupD (L2.upd H D o) v k:=let⟨a,e,z⟩:=h;⟨a,e,by rw[qC (jR z hd (λq=>n _ q.symm))];exact z⟩
noncomputable def dI(ks:List (Int×Int)):List (Key×V):=ks.map λp=>((.inl p.1:Key),V.int p.2)
theorem q8O:∀{ks:List (Int×Int)} {n m:Int},(ks.map (·.1)).Nodup→(n,m)∈ks→valV (dI ks) (.inl n:Key)=some (.int m)
 |p::ks,n,m,nd,h=>by
  obtain⟨n1,n2⟩:=m7.mp nd
  show valV (((.inl p.1:Key),V.int p.2)::dI ks) (.inl n)=_
  rcases kI.mp h with rfl|h
  ·exact zE rfl
  ·have ne:p.1≠n:=λe=>n1 (by show p.1∈_;rw[e];exact pS (f:=λx:Int×Int=>x.1) h)
   rw[uV (λe=>ne (rB e))]
   exact q8O n2 h
theorem q6E:∀{ks:List (Int×Int)} {n:Int},n∉ks.map (·.1)→valV (dI ks) (.inl n:Key)=none
 | [],n,_=>rfl
 |p::ks,n,h=>by
  show valV (((.inl p.1:Key),V.int p.2)::dI ks) (.inl n)=_
  have h':n≠p.1∧n∉ks.map (·.1):=by simpa using h
  rw[uV (λe=>h'.1 (rB e).symm)]
  exact q6E h'.2
end
section
variable{X:Cx}
theorem q78(hc:X.calm=true):zC X (.builtin "sorted") (λxs H Q=>∃(a:Addr) (kvs:List (Key×V)) (ks:List Int),xs=[.ref a]∧H a=some (.dK kvs)∧kvs.map (·.1)=ks.map Sum.inl∧ks.length<64∧∀ns':List Int,ns'.Perm ks→ns'.Pairwise (·≤·)→NewO H (.lst (ns'.map V.int)) Q):=by
 intro pins s σ H xs us Q I r hZ
 obtain⟨a,kvs,ks,ex,ha,ek,h64,q⟩:=hZ
 subst ex
 obtain⟨u,rfl,rx⟩:=q1Q r
 cases rx
 obtain⟨z,lo,ws,rel,dd⟩:=q5Z I.hok ha
 obtain⟨ep,hat⟩:=dd.dictAt
 have hwl:ks.length=ws.length:=by
  rw[←rel.length]
  have:=gX List.length ek
  rw[hC,hC]at this
  exact this.symm
 refine sF xW xL xM (args_sorted1 _) ?_
 unfold Builtin.«sorted»
 refine kL (m:=checkCount "sorted" 1 1 _) (mO ?_)
 refine kL (kdu_collect (A:=X.A.in1) (kdl_dict (knd:=jQ X.prog X.w) (kvs:=ws) (ep:=ep) lo) (I.ok.hd hc) hat (by rw[gI];lia) λh' tk acc hk hacc=>?_)
 have I1:Inv X pins σ H { s with heap:=h',toks:=tk }:=I.kept (t':=tk) hk
 have hal:acc.toList.length=ks.length:=by rw[mR,hacc.1,hwl]
 have rv:Vals (ks.map V.int) acc.toList:=q2Y (by rw[hC,hal]) λj x v hx hv=>by
  rw[nX]at hv
  obtain⟨k,y,hw,hi⟩:=hacc.2 j v hv
  have hj:j<ks.length:=by have:=(kC.mp hw).1;lia
  rw[mC,hX hj]at hx
  obtain rfl:V.int ks[j]=x:=kN hx
  have hj2:j<kvs.length:=by rw[rel.length,←hwl];exact hj
  have hd:kvs[j]?=some kvs[j]:=hX hj2
  have hk:kvs[j].1=(.inl ks[j]:Key):=by
   have:=gX (λl=>l[j]?) ek
   rw[mC,mC,hd,hX hj]at this
   exact kN this
  obtain⟨q',hq',e1,e2⟩:=Paired.at rel hd
  rw[hw]at hq'
  obtain rfl:=kN hq'
  have e1:(.inl ks[j]:Key)=k:=hk.symm.trans e1
  have:=qEJ (k:=k) hi
  rw[←e1]at this
  exact this
 have hi:=q2Z rv
 refine kL (pL ?_ (by rw[hal,gI];lia))
 have g:(h'.push (seqObj "list" acc.toList.toArray 0)).get? h'.objs.size=some (seqObj "list" acc.toList.toArray 0):=mP _ rfl
 show wpAny _ _ _ _ _ { s with heap:=h'.push (seqObj "list" acc.toList.toArray 0),toks:=tk }
 refine kL (dH (sU lI ⟨_,g,rfl⟩ nS (list_sort_tree g hi (by rw[hal];exact h64) λout ns' a1 a2 a3=>⟨_,rfl,?_⟩) (args_list_sort _)))
 refine mO ⟨_,rfl,?_⟩
 have old:∀b o,h'.get? b=some o→(sortedHeap (h'.push (seqObj "list" acc.toList.toArray 0)) h'.objs.size acc.toList out).get? b=some o:=λb o e=>by
  rw[sortedHeap_old (m9 (kY e)) (by rw[l9];exact wB (kY e))]
  exact kF _ e
 obtain⟨e,he⟩:=sortedHeap_at (vs:=acc.toList) (out:=out) g
 have hz':(ns'.map V.int).length≤sizeLine:=by rw[hC,a2.length_eq,gI];lia
 exact⟨.ref h'.objs.size,_,I1.laid (t':=tk) (λb o e=>old b o e) (kM _) (show jF X.prog X.w _ _ _ (.lst _)from⟨hz',out.toList,e,q19 a1,by simpa[seqObj]using he⟩),rfl,(q ns' a2 a3).at _ (I1.hok.fresh (kM _))⟩
end
end L2
namespace W1
theorem qZ{α:Type}(l:List α)(i j:Nat)(x d:α):(l.set i x).getD j d=if i=j∧i<l.length then x else l.getD j d:=by
 rw[kJ,List.getElem?_set,kJ]
 by_cases h:i=j
 ·subst h
  rw[kD rfl]
  by_cases h2:i<l.length
  ·rw[kD h2,kD ⟨rfl,h2⟩]
   rfl
  ·rw[kB h2,kB (λz=>h2 z.2),dG (by lia)]
 ·rw[kB h,kB (λz=>h z.1)]
theorem yB{P b j:Nat}(h:j<P):(b*P+j) / P=b:=by
 rw[wP,Nat.mul_add_div (by lia),Nat.div_eq_of_lt h,c7]
theorem qJD{B P b j:Nat}(hb:b<B)(hj:j<P):b*P+j<B*P:=by
 have:=gA P (show b+1≤B from hb)
 rw[rA]at this
 lia
theorem vW{α:Type}[DecidableEq α]:∀{l m:List α},l.Nodup→m.Nodup→(∀x,x∈l↔x∈m)→l.Perm m
 | [],m,_,_,h=>by
  cases m with
  |nil=>exact .nil
  |cons a m=>exact absurd ((h a).mpr kU) (by simp)
 |a::l,m,h1,h2,h=>by
  have ha:=(h a).mp kU
  obtain⟨n1,n2⟩:=m7.mp h1
  refine List.Perm.trans (List.Perm.cons a (vW n2 (h2.erase a) λx=>?_)) (List.perm_cons_erase ha).symm
  rw[List.Nodup.mem_erase_iff h2]
  constructor
  ·intro hx
   exact⟨λe=>n1 (e▸hx),(h x).mp (hU _ hx)⟩
  ·rintro⟨ne,hx⟩
   exact(kI.mp ((h x).mpr hx)).resolve_left ne
theorem qHR{α:Type}[DecidableEq α]:∀{l m:List α},l.Nodup→(∀x∈l,x∈m)→l.length≤m.length
 | [],_,_,_=>mV _
 |a::l,m,h1,h=>by
  obtain⟨n1,n2⟩:=m7.mp h1
  have ha:=h a kU
  have:=qHR (m:=m.erase a) n2 λx hx=>(List.mem_erase_of_ne (show x≠a from λe=>n1 (e▸hx))).mpr (h x (hU _ hx))
  rw[List.length_erase_of_mem ha]at this
  have h0:=c8 ha
  rw[mM]
  lia
noncomputable abbrev Mp:=List (Int×Int)
noncomputable def jE(W:Mp)(n:Int):Mp:=W.filter λq=>decide (q.1≠n)
noncomputable def putW(W:Mp)(n p:Int):Mp:=if(W.any λq=>decide (q.1=n))=true then W.map (λq=>if q.1=n then(q.1,p)else q)else W++[(n,p)]
theorem j0{W:Mp}{n:Int}{q:Int×Int}:q∈jE W n↔q∈W∧q.1≠n:=by
 unfold jE
 rw[mI,kX]
theorem qHS{W:Mp}(h:(W.map (·.1)).Nodup):W.Nodup:=(g7.mp h).imp λz e=>z (gX Prod.fst e)
theorem qJE{W:Mp}(h:(W.map (·.1)).Nodup){q r:Int×Int}(hq:q∈W)(hr:r∈W)(e:q.1=r.1):q=r:=by
 induction W with
 |nil=>cases hq
 |cons a W ih=>
  obtain⟨n1,n2⟩:=m7.mp h
  rcases kI.mp hq with e1|h1
  ·rcases kI.mp hr with e2|h2
   ·rw[e1,e2]
   ·exact absurd (by show a.1∈_;rw[←e1,e];exact pS (f:=λx:Int×Int=>x.1) h2) n1
  ·rcases kI.mp hr with e2|h2
   ·exact absurd (by show a.1∈_;rw[←e2,←e];exact pS (f:=λx:Int×Int=>x.1) h1) n1
   ·exact ih n2 h1 h2
theorem q6F{W:Mp}{n:Int}(h:(W.map (·.1)).Nodup):((jE W n).map (·.1)).Nodup:=(h.sublist ((cK ..).map _))
theorem q46{W:Mp}{n p:Int}(h:(W.map (·.1)).Nodup){q:Int×Int}:q∈putW W n p↔q=(n,p)∨q∈jE W n:=by
 unfold putW
 by_cases e:(W.any λq=>decide (q.1=n))=true
 ·rw[kD e,kP]
  obtain⟨r,hr,er⟩:=wM.mp e
  have er:r.1=n:=mF er
  constructor
  ·rintro⟨x,hx,rfl⟩
   by_cases ex:x.1=n
   ·rw[kD ex]
    exact .inl (by rw[ex])
   ·rw[kB ex]
    exact .inr (j0.mpr ⟨hx,ex⟩)
  ·rintro(rfl|h2)
   ·exact⟨r,hr,by rw[kD er,er]⟩
   ·obtain⟨a,b⟩:=j0.mp h2
    exact⟨q,a,kB b⟩
 ·rw[kB e,gO,kE]
  have no:∀x∈W,x.1≠n:=λx hx z=>e (wM.mpr ⟨x,hx,hG z⟩)
  constructor
  ·rintro(h1|h1)
   ·exact .inr (j0.mpr ⟨h1,no _ h1⟩)
   ·exact .inl h1
  ·rintro(h1|h1)
   ·exact .inr h1
   ·exact .inl (j0.mp h1).1
theorem qD3{W:Mp}{n p:Int}(h:(W.map (·.1)).Nodup):((putW W n p).map (·.1)).Nodup:=by
 unfold putW
 by_cases e:(W.any λq=>decide (q.1=n))=true
 ·rw[kD e,gS]
  have:(λx:Int×Int=>x.1) ∘ (λq:Int×Int=>if q.1=n then(q.1,p)else q)=λx=>x.1:=by
   funext x
   show(if x.1=n then(x.1,p)else x).1=x.1
   split<;>rfl
  rw[this]
  exact h
 ·rw[kB e,mJ]
  refine wC.mpr ⟨h,by simp,λa ha b hb z=>e ?_⟩
  obtain⟨x,hx,rfl⟩:=kP.mp ha
  have hb:b=n:=by simpa using hb
  exact wM.mpr ⟨x,hx,hG (by rw[z,hb])⟩
noncomputable def cntB(P:Nat)(W:Mp)(b:Nat):Nat:=W.countP λq=>decide (q.2 / (P:Int)=(b:Int))
theorem qET{P:Nat}{W:Mp}{n p:Int}{b:Nat}(nd:(W.map (·.1)).Nodup)(h:(n,p)∈W):cntB P W b=cntB P (jE W n) b+if p / (P:Int)=(b:Int)then 1 else 0:=by
 have pm:W.Perm ((n,p)::jE W n):=vW (qHS nd) (m7.mpr ⟨λz=>(j0.mp z).2 rfl,qHS (q6F nd)⟩) λx=>by
  rw[kI,j0]
  constructor
  ·intro hx
   by_cases e:x.1=n
   ·exact .inl (qJE nd hx h e)
   ·exact .inr ⟨hx,e⟩
  ·rintro(rfl|hx)
   ·exact h
   ·exact hx.1
 unfold cntB
 rw[pm.countP_eq,pJ]
 by_cases e:p / (P:Int)=(b:Int)
 ·rw[kD e,kD (hG e)]
 ·rw[kB e,kB (by rw[kX];exact e)]
theorem qGH{W:Mp}{n:Int}(h:∀q∈W,q.1≠n):jE W n=W:=rH.mpr λq hq=>hG (h q hq)
structure BM where
 P:Nat
 B:Nat
 ns:List Int
 W:Mp
 V:Mp
 nx:Int
 bs:List (Option Int)
 ss:List Int
 lv:List Int
 fi:List Int
 bo:List Int
namespace BM
variable{m:BM}
noncomputable def lvF(P:Nat)(V:Mp)(lv:List Int)(n:Int):List Int:=match V.find? λq=>decide (q.1=n)with
 |some q=>lv.set (q.2 / (P:Int)).toNat (lv.getD (q.2 / (P:Int)).toNat 0-1)
 |none=>lv
end BM
end W1
namespace L2
open PySem PySem.Spec PyProof.Rows
theorem q21{n j:Nat}(h:j<n):ixN n (j:Int)=some j:=by
 unfold ixN
 have a:(0:Int)≤j:=by lia
 have b:(j:Int)<n:=by lia
 simp[a,b,h]
theorem qEU{V:List (Int×Int)}{n:Int}:q3C (dI V) (Sum.inl n:Key)=dI (W1.jE V n):=by
 unfold q3C dI W1.jE
 rw[aG]
 congr 1
 apply wD
 intro q _
 show decide ((Sum.inl q.1:Key)≠Sum.inl n)=decide (q.1≠n)
 by_cases e:q.1=n<;>simp[e]
theorem qGI{W:List (Int×Int)}{n p:Int}:putK (dI W) (Sum.inl n:Key) (.int p)=dI (W1.putW W n p):=by
 unfold putK dI W1.putW
 have e:((W.map λp=>((Sum.inl p.1:Key),V.int p.2)).any λkv=>decide (kv.1=Sum.inl n))=W.any λq=>decide (q.1=n):=by
  rw[bG]
  congr 1
  funext q
  show decide ((Sum.inl q.1:Key)=Sum.inl n)=decide (q.1=n)
  by_cases e:q.1=n
  ·rw[e];simp
  ·rw[hI e,hI (λz=>e (rB z))]
 rw[e]
 by_cases h:(W.any λq=>decide (q.1=n))=true
 ·rw[kD h,kD h,gS,gS]
  apply gN
  intro q _
  show(if(Sum.inl q.1:Key)=Sum.inl n then((Sum.inl q.1:Key),V.int p)else((Sum.inl q.1:Key),V.int q.2))=_
  by_cases e:q.1=n
  ·rw[kD (by rw[e])]
   show _=(λp:Int×Int=>((Sum.inl p.1:Key),V.int p.2)) (if q.1=n then(q.1,p)else q)
   rw[kD e]
  ·rw[kB (λz=>e (rB z))]
   show _=(λp:Int×Int=>((Sum.inl p.1:Key),V.int p.2)) (if q.1=n then(q.1,p)else q)
   rw[kB e]
 ·rw[kB h,kB h,mJ]
  rfl
theorem qD4{V:List (Int×Int)}{n p:Int}:W1.putW (W1.jE V n) n p=W1.jE V n++[(n,p)]:=by
 unfold W1.putW
 rw[kB]
 intro h
 obtain⟨q,hq,e⟩:=wM.mp h
 exact(W1.j0.mp hq).2 (mF e)
theorem setV{ns:List Int}{c:Nat}{x:Int}:(ns.map V.int).set c (.int x)=(ns.set c x).map V.int:=by rw[xN]
theorem atV{ns:List Int}{c:Nat}(h:c<ns.length):atI (ns.map V.int) (c:Int)=some (.int (ns.getD c 0)):=by
 refine u7 ?_
 rw[mC,hX h,kJ,hX h]
 rfl
theorem qEV:∀{A B:List (List Int)},A.Perm B→A.Pairwise (λa b=>lx b a=false)→B.Pairwise (λa b=>lx b a=false)→A=B
 | [],B,p,_,_=>(lS.mp p).symm▸rfl
 |a::A,[],p,_,_=>absurd p.length_eq (by simp)
 |a::A,b::B,p,h1,h2=>by
  have e:a=b:=by
   by_cases e:a=b
   ·exact e
   ·have hb:b∈A:=(kI.mp (p.mem_iff.mpr kU)).resolve_left (λz=>e z.symm)
    have ha:a∈B:=(kI.mp (p.mem_iff.mp kU)).resolve_left e
    exact q6C a b ((gQ.mp h2).1 a ha) ((gQ.mp h1).1 b hb)
  subst e
  rw[qEV ((aN a).mp p) (gQ.mp h1).2 (gQ.mp h2).2]
theorem q8P:∀{A B:List Int},A.Perm B→A.Pairwise (·≤·)→B.Pairwise (·≤·)→A=B
 | [],B,p,_,_=>(lS.mp p).symm▸rfl
 |a::A,[],p,_,_=>absurd p.length_eq (by simp)
 |a::A,b::B,p,h1,h2=>by
  have e:a=b:=by
   by_cases e:a=b
   ·exact e
   ·have hb:b∈A:=(kI.mp (p.mem_iff.mpr kU)).resolve_left (λz=>e z.symm)
    have ha:a∈B:=(kI.mp (p.mem_iff.mp kU)).resolve_left e
    have:=(gQ.mp h2).1 a ha
    have:=(gQ.mp h1).1 b hb
    lia
  subst e
  rw[q8P ((aN a).mp p) (gQ.mp h1).2 (gQ.mp h2).2]
theorem q9Z{a:Addr}{o:Obj}{kvs:List (Key×V)}{D:Addr}{H2:Hp}{g:TG}{tc:TT}{te:TE}{σ0:St}{R:Hp→Prop}(Pv:Nat→Hp→Prop)(h0:Pv 0 H2)(hl:∀i H,Pv i H→H a=some (.frz o (.dK kvs)))
 (hs:∀(i:Nat) kv H,kvs[i]?=some kv→Pv i H→g (kV kv.1) σ0 H λσ5 H5=>tc σ5 H5 λb H6=>if b=true then te σ5 H6 (λv H7=>∃vs,H7 D=some (.lst vs)∧vs.length<sizeLine∧Pv (i+1) (upd H7 D (.lst (vs++[v]))))else Pv (i+1) H6) (hd:∀H,Pv kvs.length H→R H):
 ∃W:Nat→Nat→Hp→Prop,(∃m,W 0 m H2)∧∀i m H3,W i m H3→((Itd a o kvs).stop i H3∧R H3)∨
  ((Itd a o kvs).go i H3∧∃N:Hp→Prop,(∀H',N H'→∃m',m'<m∧W (i+1) m' H')∧∀x H4,(Itd a o kvs).yld i H3 x H4→g x σ0 H4 λσ5 H5=>tc σ5 H5 λb H6=>
   if b=true then te σ5 H6 (λv H7=>∃vs,H7 D=some (.lst vs)∧vs.length<sizeLine∧N (upd H7 D (.lst (vs++[v]))))else N H6):=
 qGC (Q:=λ_ H=>R H) Pv h0 hl hs hd
theorem q6G{ks:List (List Int)}{q:List Nat}{n:Nat}(hn:ks.length=n)(p:q.Perm (List.range n)):(q.map λi=>ks.getD i []).Perm ks:=by
 refine(p.map λi=>ks.getD i []).trans ?_
 have e:(List.range n).map (λi=>ks.getD i [])=ks:=by
  apply cG
  ·rw[hC,mG,hn]
  ·intro i h1 h2
   rw[sV,cT,kJ,hX h2]
   rfl
 rw[e]
theorem q6H{F:V→List Int→Prop}{us:List V}{ks:List (List Int)}{q:List Nat}(h:Paired F us ks)(hq:∀i∈q,i<us.length):Paired F (q.map λi=>us.getD i .non) (q.map λi=>ks.getD i []):=by
 refine q2Y (by rw[hC,hC]) λj x k hx hk=>?_
 rw[mC]at hx hk
 obtain⟨i,hi,rfl⟩:=mK.mp hx
 rw[hi]at hk
 obtain rfl:=kN hk
 have hl:=hq i (gE hi)
 have e1:us[i]?=some (us.getD i .non):=by rw[kJ,hX hl];rfl
 obtain⟨k,hk1,z⟩:=Paired.at h e1
 show F (us.getD i .non) (ks.getD i [])
 rw[show ks.getD i []=k from by rw[kJ,hk1];rfl]
 exact z
theorem jA{H H':Hp}{us:List V}{ks:List (List Int)}(h:Paired (TupD H) us ks)(s:Same H H'):Paired (TupD H') us ks:=Paired.mapP h λ_ _ z=>z.same s
theorem q8Q{K:PySem.W.Frag}{H:Hp}{us:List V}{ks:List (List Int)}(h:Paired (TupD H) us ks):Paired (TupI K H) us ks:=Paired.mapP h λ_ _ z=>z.i
theorem q4N{lo:Int}{n:Nat}{D:Addr}{H2:Hp}{g:TG}{tc:TT}{te:TE}{σ0:St}{R:Hp→Prop}(Pv:Nat→Hp→Prop)(h0:Pv 0 H2)
 (hs:∀(i:Nat) H,i<n→Pv i H→g (.int (lo+i)) σ0 H λσ5 H5=>tc σ5 H5 λb H6=>if b=true then te σ5 H6 (λv H7=>∃vs,H7 D=some (.lst vs)∧vs.length<sizeLine∧Pv (i+1) (upd H7 D (.lst (vs++[v]))))else Pv (i+1) H6) (hd:∀H,Pv n H→R H):
 ∃W:Nat→Nat→Hp→Prop,(∃m,W 0 m H2)∧∀i m H3,W i m H3→((Itr lo n).stop i H3∧R H3)∨
  ((Itr lo n).go i H3∧∃N:Hp→Prop,(∀H',N H'→∃m',m'<m∧W (i+1) m' H')∧∀x H4,(Itr lo n).yld i H3 x H4→g x σ0 H4 λσ5 H5=>tc σ5 H5 λb H6=>
   if b=true then te σ5 H6 (λv H7=>∃vs,H7 D=some (.lst vs)∧vs.length<sizeLine∧N (upd H7 D (.lst (vs++[v]))))else N H6):=
 qEH (Q:=λ_ H=>R H) Pv h0 hs hd
theorem qB4{H H3:Hp}{a:Addr}{u:HO}(ha:H a=some u)(k:∀b o,b≠a→H b=some o→H3 b=some o):Same H (upd H3 a u):=λb o e=>by
 by_cases z:b=a
 ·rw[z,qH,←ha,←z]
  exact e
 ·rw[qC z]
  exact k b o z e
theorem vF{X:Cx}{K:PySem.W.Frag}{e:Expr}{ta:TE}{f:Str}{pos:Pos}(eK:X.K=K)(he:PE X e ta)(hb:attributeBase e f X.env (eval e X.env)=eval e X.env):PE X (.Attribute e f pos) (tFld K ta f):=by
 subst eK
 exact qJ he hb
end L2
namespace L2
open PySem PySem.W PySem.Spec PyProof.Rows
noncomputable def BmIn(base:Heap)(mg:Str→Option Value):Prop:=∃bm o,mg "__builtins__"=some (.ref bm)∧bm≠builtinsNs∧base.get? bm=some o∧o.cls=.type "module"∧o.dict=some builtinsNs∧o.data=.plain
theorem qD5{P:Program}{w:World}{K:PySem.W.Frag}{mg mb:Str→Option Value}{CX:CXT}{k:Nat}{fa a:Addr}{fd:FuncData}{x:Str}{sp:Sp}{s₁:Shared}{vs:List Value}{ns:List Int}(ts:List Addr)
 (KX:K.In s₁.heap) (hts:∀T∈ts,s₁.heap.get? T=some (tabObj #[])∧K.lookup T=none∧∃c,codeHdIn K c T=true) (hns:s₁.heap.Ns mainGlobals mg) (hb:s₁.heap.Ns builtinsNs mb) (hbb:∀x:Str,x≠"__name__"→mb x=bootBuiltins x) (hlim:s₁.heap.NoLimit) (hbm:BmIn s₁.heap mg) (hg:s₁.gens=#[])
 (ha:s₁.heap.get? a=some { cls:=.type "list",data:=.seq vs.toArray }) (hi:IntsAre vs ns) (hl:ns.length≤sizeLine) (hr:Room k callerA)
 (F:∀base:Heap,K.In base→base.Ns mainGlobals mg→BmIn base mg→FnOk P w K mg base CX k fa fd [x] sp) (hbind:∀(s:Shared) (u:Value),BindsTo s fd ⟨[u],[]⟩ [(x,u)])
 (hsp:∀H:Hp,SqL K H a (ns.map V.int)→(∀T∈ts,H T=some (.tbl #[]))→sp [.ref a] H (λv _=>v=.bl true) λ_ _ _=>False)
 (hCX:∀H e s',CX [] H s₁ (λ_ _ _=>False) e s'→False):
 codeAny (model P w) callerA (.call (.ref fa) ⟨[.ref a],[]⟩) (λr s'=>r=.ok (.ret (.bool true))∧OldK s₁.heap s'.heap∧s'.os=s₁.os∧AllBare s'.gens) s₁:=by
 have rv:=q7X hi
 have lenV:=hi.length
 have nat:a∉ts:=λz=>by
  have e:=(hts a z).1
  rw[ha]at e
  cases e
 have core:∀H:Hp,SqL K H a (ns.map V.int)→HOk P w H s₁.heap→(∀b,H b=none∨(b=a∧K.lookup a=none∧∃o xs,H b=some (.frz o (.lst xs)))∨(b∈ts∧H b=some (.tbl #[])))→(∀T∈ts,H T=some (.tbl #[]))→
  codeAny (model P w) callerA (.call (.ref fa) ⟨[.ref a],[]⟩) (λr s'=>r=.ok (.ret (.bool true))∧OldK s₁.heap s'.heap∧s'.os=s₁.os∧AllBare s'.gens) s₁:=by
  intro H hS hok hO hT
  have base_of:∀{b:Addr} {o:Obj},s₁.heap.get? b=some o→H b=none→(hidT s₁.heap H).get? b=some o:=λe n=>q5O e n
  have noA:∀{b:Addr} {o:Obj} {es:Array DictEntry} {ep:Nat},s₁.heap.get? b=some o→o.data=.dict es ep→H b=none:=fun {b o es ep} e d=>by
   rcases hO b with z|⟨rfl,_⟩|⟨z,_⟩
   ·exact z
   ·rw[ha]at e;cases e;cases d
   ·rw[(hts b z).1]at e;cases e;cases d
  have nsK:∀{b:Addr} {m:Str→Option Value},s₁.heap.Ns b m→(hidT s₁.heap H).Ns b m:=fun {b m} ⟨o,es,ep,e,d,r⟩=>⟨o,es,ep,base_of e (noA e d),d,r⟩
  have hKb:K.In (hidT s₁.heap H):=λb o e=>base_of (KX b o e) (by
   rcases hO b with z|⟨rfl,z,_⟩|⟨z,_⟩
   ·exact z
   ·rw[z]at e;cases e
   ·rw[(hts b z).2.1]at e;cases e)
  have hM:Mod K mg (hidT s₁.heap H):=⟨hKb,nsK hns,⟨mb,nsK hb,hbb⟩,let⟨mc,h1,h2⟩:=hlim;⟨mc,nsK h1,h2⟩⟩
  have hB:BmIn (hidT s₁.heap H) mg:=by
   obtain⟨bm,o,b1,b2,b3,b4,b5,b6⟩:=hbm
   refine⟨bm,o,b1,b2,base_of b3 ?_,b4,b5,b6⟩
   rcases hO bm with z|⟨rfl,_⟩|⟨z,_⟩
   ·exact z
   ·rw[ha]at b3;cases b3;exact absurd (Value.type.inj b4) (by decide)
   ·rw[(hts bm z).1]at b3;cases b3;cases b4
  have e0:Env0 P w K mg (hidT s₁.heap H) callerA [] s₁ H:=⟨rfl,hM,λb o e=>qBE e,cX (q7L _ _),trivial,λb hb=>absurd (show b∈([]:List Addr)from hb) (by simp),hok,.of_eq hg⟩
  refine cZ ((F _ hKb (nsK hns) hB).run callerA [] s₁ H ⟨[.ref a],[]⟩ [.ref a] [.ref a] _ _ hr e0 (hbind s₁ (.ref a)) (.cons rfl .nil) (hsp H hS hT)) λr s' h=>?_
  cases r with
  |error e=>exact(hCX H e s' h).elim
  |ok fl=>
   cases fl with
   |next=>exact False.elim h
   |brk=>exact False.elim h
   |cont=>exact False.elim h
   |ret u=>
    obtain⟨v,H',os,bare,un,hok',r',q⟩:=h
    have q':v=.bl true:=q
    subst q'
    obtain rfl:u=Value.bool true:=r'
    have kept:∀b o,s₁.heap.get? b=some o→b∉ts→s'.heap.get? b=some o:=λb o e nb=>by
     rcases hO b with z|⟨rfl,_,ob,xs,z⟩|⟨z,_⟩
     ·exact un.keep b o e z (by intro z;exact absurd (show b∈([]:List Addr)from z) (by simp)) (by simp)
     ·have z2:=un.frzs _ ob _ z
      obtain⟨e1,_⟩:=hok _ _ z
      obtain⟨e2,_⟩:=hok' _ _ z2
      rw[e]at e1;cases e1
      exact e2
     ·exact absurd z nb
    refine⟨rfl,⟨λb o e=>?_,λb o e=>?_⟩,os,bare⟩
    ·by_cases nb:b∈ts
     ·obtain⟨g,_,c,hc⟩:=hts b nb
      obtain⟨more,z2⟩:=un.tbls b _ (hT b nb)
      have g2:s'.heap.get? b=some { cls:=.none,data:=.fields (#[]++more) }:=hok' _ _ z2
      rw[g]at e;cases e
      exact .inr (.inl ⟨((xX KX hc).tab g).isCodeTable,rfl,#[],more,rfl,g2⟩)
     ·exact .inl (kept b o e nb)
    ·by_cases nb:b∈ts
     ·obtain⟨more,z2⟩:=un.tbls b _ (hT b nb)
      exact⟨_,hok' _ _ z2⟩
     ·exact⟨o,kept b o e nb⟩
 have tb:∀T∈ts,∀H:Hp,H T=some (.tbl #[])→∀u,H T=some u→jF P w H s₁.heap T u:=λT hT H e u e'=>by
  rw[e]at e';cases e'
  exact(hts T hT).1
 cases hk:K.lookup a with
 |some o=>
  have e:=KX a o hk
  rw[ha]at e
  cases e
  refine core (λb=>if b∈ts then some (.tbl #[])else none) (.inr ⟨_,vs.toArray,_,hk,rfl,rfl,rfl,by rw[mD,lenV];exact hl,by simpa using rv⟩) (λb u z=>?_) (λb=>?_) λT hT=>kD hT
  ·by_cases hb':b∈ts
   ·exact tb b hb' _ (kD hb') u z
   ·have z':=(kB hb').symm.trans z
    cases z'
  ·by_cases hb':b∈ts
   ·exact .inr (.inr ⟨hb',kD hb'⟩)
   ·exact .inl (kB hb')
 |none=>
  refine core (λb=>if b=a then some (.frz { cls:=.type "list",data:=.seq vs.toArray } (.lst (ns.map V.int)))else if b∈ts then some (.tbl #[])else none) (.inl (.inr ⟨{ cls:=.type "list",data:=.seq vs.toArray },kD rfl⟩)) (λb u z=>?_) (λb=>?_) λT hT=>?_
  ·by_cases hb':b=a
   ·have z':=(kD hb').symm.trans z
    cases z'
    subst hb'
    exact⟨ha,by rw[hC];exact hl,vs,_,rv,ha⟩
   ·by_cases hb2:b∈ts
    ·exact tb b hb2 _ ((kB hb').trans (kD hb2)) u z
    ·have z':=((kB hb').trans (kB hb2)).symm.trans z
     cases z'
  ·by_cases hb':b=a
   ·exact .inr (.inl ⟨hb',hk,_,_,kD hb'⟩)
   ·by_cases hb2:b∈ts
    ·exact .inr (.inr ⟨hb2,(kB hb').trans (kD hb2)⟩)
    ·exact .inl ((kB hb').trans (kB hb2))
  ·have:T≠a:=λz=>nat (z▸hT)
   exact(kB this).trans (kD hT)
theorem qEW{l:PySem.W.OpenLaw}{n k:Nat}{q:Program}{loose:List Str}{XP:(Str→Option Value)→Heap→Prop}{YP:World→Heap→Prop}{d:DefRec}{K:Params→PySem.W.Frag}{CX:World→CXT}{sp:World→Sp}{x:Str}(ts:List Addr)
 (hn:l.most=some n) (hn2:n≤sizeLine) (hdf:d.params.defaults=[]) (hr:Room k callerA)
 (hY:∀(w:World) (h:Heap),YP w h→(K w.params).In h∧∀T∈ts,h.get? T=some (tabObj #[])) (hT:∀w:World,∀T∈ts,(K w.params).lookup T=none∧∃c,codeHdIn (K w.params) c T=true)
 (F:∀(w:World) (mg:Str→Option Value) (fa:Addr) (h:Heap),(K w.params).In h→h.Ns mainGlobals mg→mg d.name=some (.ref fa)→
  ∃fd:FuncData,(∀(s:Shared) (u:Value),BindsTo s fd ⟨[u],[]⟩ [(x,u)])∧
   ∀base:Heap,(K w.params).In base→base.Ns mainGlobals mg→BmIn base mg→FnOk l.prog w (K w.params) mg base (CX w) k fa fd [x] (sp w))
 (hsp:∀(w:World) (H:Hp) (a:Addr) (ns:List Int),ns.length≤n→SqL (K w.params) H a (ns.map V.int)→(∀T∈ts,H T=some (.tbl #[]))→sp w [.ref a] H (λv _=>v=.bl true) λ_ _ _=>False)
 (hCX:∀(w:World) (H:Hp) (s:Shared) (e:Value) (s':Shared),CX w [] H s (λ_ _ _=>False) e s'→False):
 PySem.W.WalkO q loose XP YP l.row.toRowW d [] (λf vs=>PySem.call f vs):=by
 refine Att.attach_call hn hdf λw s₀ s₁ mg mb fa o pm cd doc a vs ns G Y ho hd hcd hmg hobj hints hlen hg=>?_
 obtain⟨KX,KT⟩:=hY w _ Y
 obtain⟨fd,hb,hF⟩:=F w mg fa _ KX G.T.g hmg
 exact qD5 ts KX (λT h=>⟨KT T h,hT w T h⟩) G.T.g G.T.b G.T.builtins G.T.nolimit (let⟨bm,ob,b1,b2,b3,b4,b5,b6⟩:=G.T.bmain;⟨bm,ob,b1,b2,b3,b4,b5,b6⟩) hg hobj hints (kO hlen hn2) hr hF hb (λH hS hH=>hsp w H a ns hlen hS hH) λH e s'=>hCX w H s₁ e s'
structure FunT(K:PySem.W.Frag)(x qual:Str)(st:Stmt)(c f:Addr)(fd:FuncData):Prop where
 ex:∃(oc:Value) (od:Option Addr) (kV doc pm:Value) (an:Option Addr) (ct:Value) (osl:Array (Option Value)),
  fd=PySem.W.fnOf x qual (yR st) (yG st) (qG st) .none kV doc pm an (.ref c) ct∧K.lookup f=some ⟨oc,od,.func fd,osl⟩∧PySem.W.codeIn K (.ref c) qual=true
section
variable{P:Program}{w:World}{K:PySem.W.Frag}{mg:Str→Option Value}{base:Heap}
theorem FunT.mk'{x qual:Str}{st:Stmt}{c f:Addr}{oc:Value}{od an:Option Addr}{osl:Array (Option Value)}{kV doc pm ct:Value}(l:K.lookup f=some ⟨oc,od,.func (PySem.W.fnOf x qual (yR st) (yG st) (qG st) .none kV doc pm an (.ref c) ct),osl⟩)
 (h:PySem.W.codeIn K (.ref c) qual=true):FunT K x qual st c f (PySem.W.fnOf x qual (yR st) (yG st) (qG st) .none kV doc pm an (.ref c) ct):=⟨⟨oc,od,kV,doc,pm,an,ct,osl,rfl,l,h⟩⟩
theorem FunT.ok0{x qual:Str}{st:Stmt}{c f:Addr}{fd:FuncData}{N ps:List Str}{k:Nat}{sp:Sp}(F:FunT K x qual st c f fd)(S:FnScope N ps (qG st))
 (hbody:∀(A:Around) (outer:List Env) (s:Shared) (H:Hp) (vs:List V) (Q:VK) (E:XK),Room k (A.deeper (envOfC qual (qG st) s.heap.objs.size f (.ref c)))→sp vs H Q E→
  ∃t,PSs (cxOf CX0 P w K mg base N qual (qG st) f (.ref c) A outer s H E).nox (yG st) t∧t { nx:=λ_ H'=>Q .non H',rt:=Q } (q3A N vs) H)(len:∀vs H Q E,sp vs H Q E→vs.length=ps.length:=by intro _ _ _ _ h;(repeat obtain⟨_,h⟩:=h);all_goals subst_vars;rfl):FnOk P w K mg base CX0 (k+1) f fd ps sp:=by
 obtain⟨oc,od,kV,doc,pm,an,ct,osl,rfl,lk,hcd⟩:=F.ex
 refine qDR lk hcd S len λA outer s H vs Q E hr hsp=>?_
 obtain⟨t,h,q⟩:=hbody A outer s H vs Q E hr hsp
 exact⟨t,h.nox,q⟩
noncomputable def q4O(K:PySem.W.Frag)(ts:List Addr):Sp:=λvs H Q _=>∃(a:Addr) (ns:List Int),vs=[.ref a]∧SqL K H a (ns.map V.int)∧ns.length≤63∧(∀T∈ts,H T=some (.tbl #[]))∧∀H',Q (.bl true) H'
end
noncomputable def fnOb(fd:FuncData):Obj:={ cls:=.type "function",data:=.func fd }
noncomputable def fnO(f:Addr)(fd:FuncData):HO:=.ext λh=>h.get? f=some (fnOb fd)
noncomputable def cdO(c:Addr)(q:Str):HO:=.ext λh=>∃o vs t,h.get? c=some o∧o.data=.fields vs∧vs[1]?=some (.str q t)
theorem qEX{P:Program}{w:World}{H:Hp}{h:Heap}{f:Addr}{fd:FuncData}(e:h.get? f=some (fnOb fd)):jF P w H h f (fnO f fd):=⟨e,⟨_,e⟩,λ_ _ a b=>b _ a⟩
theorem qJF{P:Program}{w:World}{H:Hp}{h:Heap}{c:Addr}{q:Str}(e:h.CodeRec (.ref c) q):jF P w H h c (cdO c q):=by
 obtain⟨c',o,vs,t,e0,e1,e2,e3⟩:=e
 cases e0
 exact⟨⟨o,vs,t,e1,e2,e3⟩,⟨_,e1⟩,λ_ _ ⟨o,vs,t,a,b⟩ k=>⟨o,vs,t,k _ a,b⟩⟩
theorem qJG{P:Program}{w:World}{H:Hp}{h:Heap}{f:Addr}{fd:FuncData}(ok:HOk P w H h)(e:H f=some (fnO f fd)):h.get? f=some (fnOb fd):=(ok f _ e).1
theorem qJH{P:Program}{w:World}{H:Hp}{h:Heap}{c:Addr}{q:Str}(ok:HOk P w H h)(e:H c=some (cdO c q)):h.CodeRec (.ref c) q:=
 let⟨o,vs,t,a,b⟩:=(ok c _ e).1
 ⟨c,o,vs,t,rfl,a,b⟩
noncomputable def vJ(base:Heap)(cs:List Addr):Hp:=λb=>if(base.get? b).isSome=true∨b∈cs then none else some (.lst [])
theorem q22{h base base':Heap}:∀{l:List Env},h.FunFrames base l→(∀L∈frs l,base.get? L=none→base'.get? L=none)→h.FunFrames base' l
 | [],_,_=>trivial
 |env::r,⟨hk,⟨L,o,hf,hn,ho,hd⟩,hr⟩,k=>by
  have hL:L∈frs (env::r):=by unfold frs;rw[dD,hf];exact kU
  exact⟨hk,⟨L,o,hf,k L hL hn,ho,hd⟩,q22 hr λb hb=>k b (by
   unfold frs;rw[dD,hf];exact hU _ hb)⟩
theorem Inv.env0C{X:Cx}{pins:List (Addr×Obj)}{σ:St}{H:Hp}{s:Shared}(I:Inv X pins σ H s)(cs:List Addr)(hcs:∀c∈cs,∃x,X.fn x=true∧X.env.cells.lookup x=some c):
 Env0 X.prog X.w X.K X.mg (hidT s.heap (vJ X.base cs)) X.A X.stack s H∧(∀b o,X.base.get? b=some o→(hidT s.heap (vJ X.base cs)).get? b=some o)∧∀c∈cs,∀o,s.heap.get? c=some o→(hidT s.heap (vJ X.base cs)).get? c=some o:=by
 have up:∀b o,X.base.get? b=some o→(hidT s.heap (vJ X.base cs)).get? b=some o:=λb o e=>q5O (I.bk b o e) (kD (.inl (by rw[e];rfl)))
 have inv:∀{b:Addr} {o:Obj},(hidT s.heap (vJ X.base cs)).get? b=some o→s.heap.get? b=some o∧((∃o',X.base.get? b=some o')∨b∈cs):=fun {b o} e=>by
  obtain⟨e1,n⟩:=qBE e
  refine⟨e1,?_⟩
  by_cases z:(X.base.get? b).isSome=true∨b∈cs
  ·rcases z with z|z
   ·exact .inl (cM.mp z)
   ·exact .inr z
  ·rw[show vJ X.base cs b=some (.lst [])from kB z]at n
   cases n
 obtain⟨mb,hb1,hb2⟩:=I.ok.mod.blt
 refine⟨⟨I.ok.frames,⟨I.ok.mod.kin.keeps up,I.ok.mod.glob.keeps up,⟨mb,hb1.keeps up,hb2⟩,I.ok.mod.nolimit.keeps up⟩,λb o e=>?_,by rw[q7L];exact kM _,q22 I.stack λL hL n=>?_,I.stkFree,I.hok,I.bare⟩,up,λc hc o e=>q5O e (kD (.inr hc))⟩
 ·obtain⟨e1,z⟩:=inv e
  rcases z with⟨o',z⟩|z
  ·exact⟨e1,(I.bs b o' z).2⟩
  ·obtain⟨x,_,hx⟩:=hcs b z
   exact⟨e1,I.freeC x b hx⟩
 ·cases e:(hidT s.heap (vJ X.base cs)).get? L with
  |none=>rfl
  |some o=>
   obtain⟨e1,z⟩:=inv e
   rcases z with⟨o',z⟩|z
   ·rw[n]at z;cases z
   ·obtain⟨x,hf,hx⟩:=hcs L z
    rcases kI.mp (I.stkSub L hL)with y|y
    ·exact absurd y (I.cne x L hx)
    ·obtain⟨_,o2,ho,_⟩:=I.ok.funs.mem y
     exact absurd (kY ho) (pH.mpr (I.ok.cab x L hf hx))
noncomputable def q6I(cells:List (Str×Addr))(σ:St)(base':Heap)(ix:List (Nat×Str)):Prop:=∀p∈ix,∀v,σ[p.1]?=some (some v)→∃c u,cells.lookup p.2=some c∧RelV v u∧base'.IsCell c (some u)
noncomputable def qKR(T:Addr)(pos:Pos)(qual:Str)(params:Arguments)(body:Expr)(scope:Scope)(clos:List (Str×Addr))(pm:Value):TE:=λσ H Q=>∃ps,H T=some (.tbl ps)∧TriplesOk ps.toList∧codeAmong pos ps.toList=none∧
 ∀(f c':Addr) (ctv:Value),H f=none→H c'=none→f≠c'→Q (.ref f) (upd (upd (upd H T (.tbl (ps++#[rawInt pos.line,rawInt pos.col,.ref c']))) c' (cdO c' qual)) f (fnO f (kla_fn "<lambda>" qual params body scope clos pm (.ref c') ctv)))
theorem qGJ{X:Cx}{c T:Addr}{params:Arguments}{body:Expr}{scope:Scope}{pos:Pos}{clos:List (Str×Addr)}(hcode:X.env.code=.ref c)(hcd:codeHdIn X.K c T=true)(B:BmIn X.base X.mg)(hcl:closureFor scope X.env=pure clos)(hdef:defaultsOf params X.env=([],[])):
 PE X (.Lambda params body scope pos) (qKR T pos (X.env.qual++"<lambda>") params body scope clos ((X.mg "__name__").getD .none)):=by
 intro pins s σ H Q I hZ
 obtain⟨ps,hT,ht,hnf,q⟩:=hZ
 have hP:s.heap.get? T=some (tabObj ps):=I.hok T _ hT
 have hgs:s.heap.Ns mainGlobals X.mg:=I.ok.mod.glob.keeps I.bk
 obtain⟨bm,ob,b1,b2,b3,b4,b5,b6⟩:=B
 have b3':=I.bk _ _ b3
 have hgP:mainGlobals≠T:=λz=>by
  obtain⟨o,es,ep,e,hd,_⟩:=hgs
  rw[z,hP]at e;cases e;cases hd
 have hbP:bm≠T:=λz=>by rw[z,hP]at b3';cases b3';cases b4
 have hbG:bm≠mainGlobals:=λz=>by
  obtain⟨o,es,ep,e,hd,_⟩:=hgs
  rw[z,e]at b3';cases b3';rw[hd]at b6;cases b6
 refine kla_eval hdef (kla_makeFunction (clos:=clos) hcl I.ok.glob hgs hcode (xX I.kIn hcd) hP ht hnf hgP ⟨bm,ob,b1,b2,hbG,hbP,b3',b4,b5,b6⟩ λc' ctv h' tk hx hge hlt hrec htb=>?_)
 have trk:∀b u,s.heap.get? b=some u→b≠T→∀o,(h'.push o).get? b=some u:=λb u e n o=>kF _ (hx b u n e)
 have sz:s.heap.objs.size≤h'.objs.size:=kO hge (wN hlt)
 have nF:H h'.objs.size=none:=I.hok.fresh sz
 have nC:H c'=none:=I.hok.fresh hge
 have fc:h'.objs.size≠c':=d9 hlt
 have other:∀{b:Addr},b≠T→b≠c'→b≠h'.objs.size→∀u:HO,(upd (upd (upd H T (.tbl (ps++#[rawInt pos.line,rawInt pos.col,.ref c']))) c' (cdO c' (X.env.qual++"<lambda>"))) h'.objs.size (fnO h'.objs.size (kla_fn "<lambda>" (X.env.qual++"<lambda>") params body scope clos ((X.mg "__name__").getD .none) (.ref c') ctv))) b=H b:=fun {b} z1 z2 z3 _=>by
  rw[qC z3,qC z2,qC z1]
 refine⟨.ref h'.objs.size,_,?_,rfl,q _ c' ctv nF nC fc⟩
 refine I.un (t':=tk) ⟨λb o e n _ _=>trk b o e (qF hT n).symm _,λb o e n _ _=>⟨o.slots,trk b o e (qF hT n).symm _⟩,λb o e n _=>?_,λb o e _=>?_,λb xs e=>?_,λb o u e=>?_,λb qs e=>?_⟩ λb u e=>?_
 ·have hb:b<s.heap.objs.size:=kY e
  rw[other (qF hT n).symm (m9 (mY hb hge)) (m9 (mY hb sz)) (.lst [])]
  exact n
 ·by_cases z:b=T
  ·subst z;exact⟨_,kF _ htb⟩
  ·exact⟨o,trk b o e z _⟩
 ·rw[other (λz=>by rw[z,hT]at e;cases e) (qF e nC) (qF e nF) (.lst [])];exact e
 ·rw[other (λz=>by rw[z,hT]at e;cases e) (qF e nC) (qF e nF) (.lst [])];exact e
 ·by_cases z:b=T
  ·subst z
   rw[hT]at e;cases e
   refine⟨#[rawInt pos.line,rawInt pos.col,.ref c'],?_⟩
   rw[qC (qF hT nF),qC (qF hT nC)]
   exact qH
  ·exact⟨#[],by rw[other z (qF e nC) (qF e nF) (.lst []),e];simp⟩
 ·by_cases z3:b=h'.objs.size
  ·subst z3
   rw[qH]at e;cases e
   exact qEX (mP _ rfl)
  ·by_cases z2:b=c'
   ·subst z2
    rw[qC z3,qH]at e;cases e
    exact qJF (hrec.push _)
   ·by_cases z:b=T
    ·subst z
     rw[qC z3,qC z2,qH]at e;cases e
     exact kF _ htb
    ·rw[other z z2 z3 (.lst [])]at e
     refine(I.hok b u e).stay (λd v hd r=>trk d v r (λy=>?_) _) (λd r=>?_) λd xs r=>?_
     ·rcases hd with hd|hd
      ·exact z (hd▸y)
      ·rw[y,hT]at hd;cases hd
     ·rw[other (λy=>by rw[y,hT]at r;cases r) (qF r nC) (qF r nF) (.lst [])];exact r
     ·rw[other (λy=>by rw[y,hT]at r;cases r) (qF r nC) (qF r nF) (.lst [])];exact r
noncomputable abbrev envL(qual:Str)(scope:Scope)(clos:List (Str×Addr))(L f:Addr)(cd:Value):Env:=newEnv scope L mainGlobals clos (qual++".<locals>.") (some f) cd none builtinsNs
noncomputable def qEY(CX:CXT)(P:Program)(w:World)(K:PySem.W.Frag)(mg:Str→Option Value)(base:Heap)(N:List Str)(qual:Str)(scope:Scope)(clos:List (Str×Addr))(f:Addr)(cd:Value)(A:Around)(outer:List Env)(s:Shared)(H:Hp)(E:XK):Cx where
 prog:=P
 w:=w
 K:=K
 mg:=mg
 base:=base
 A:=A.deeper (envL qual scope clos s.heap.objs.size f cd)
 N:=N
 s₀:=s
 H₀:=H
 env:=envL qual scope clos s.heap.objs.size f cd
 outer:=outer
 stack:=envL qual scope clos s.heap.objs.size f cd::outer
 ex:=[]
 calm:=true
 fn:=λ_=>false
 pn:=[]
 xe:=λe s'=>wpAny (model P w) (A.deeper (envL qual scope clos s.heap.objs.size f cd)) (leaving (envL qual scope clos s.heap.objs.size f cd) e) (λ_ s''=>CX outer H s E e s'') (λe' s''=>CX outer H s E e' s'') s'
structure LamSc(scope:Scope)(x0:Str)(clos:List (Str×Addr))(fvs:List V)(base:Heap):Prop where
 kind:scope.kind=.function
 co:scope.isCoroutine=false
 gen:scope.isGenerator=false
 par:scope.names.lookup x0=some .local
 nocell:∀y∈scope.names,y.2≠ .cell
 free:∀y,scope.names.lookup y=some .free→∃c,clos.lookup y=some c
 inj:∀x y c,clos.lookup x=some c→clos.lookup y=some c→x=y
 at':∀(j:Nat) (x:Str) (c:Addr),clos[j]?=some (x,c)→scope.names.lookup x=some .free∧clos.lookup x=some c∧∃v u,fvs[j]?=some v∧RelV v u∧base.IsCell c (some u)
 len:fvs.length=clos.length
theorem qGK{CX:CXT}{P:Program}{w:World}{K:PySem.W.Frag}{mg:Str→Option Value}{base:Heap}{k:Nat}{f c:Addr}{name qual:Str}{params:Arguments}{body:Expr}{scope:Scope}{pm ct:Value}{x0:Str}{clos:List (Str×Addr)}{fvs:List V}{sp:Sp}(S:LamSc scope x0 clos fvs base)
 (len:∀vs H Q E,sp vs H Q E→vs.length=1) (hf:∀vs H Q E,sp vs H Q E→H f=some (fnO f (kla_fn name qual params body scope clos pm (.ref c) ct))∧H c=some (cdO c qual))
 (hbody:∀(A:Around) (outer:List Env) (s:Shared) (H:Hp) (v0:V) (Q:VK) (E:XK),Room k (A.deeper (envL qual scope clos s.heap.objs.size f (.ref c)))→sp [v0] H Q E→
  ∃t,PE (qEY CX P w K mg base (x0::clos.map (·.1)) qual scope clos f (.ref c) A outer s H E) body t∧t (some v0::fvs.map some) H Q):
 FnOk P w K mg base CX (k+1) f (kla_fn name qual params body scope clos pm (.ref c) ct) [x0] sp:=by
 refine⟨len,λA outer s H args us vs Q E hr e0 hb r hsp=>?_⟩
 have hl:=len _ _ _ _ hsp
 obtain⟨v0,rfl⟩:∃v0,vs=[v0]:=match vs,hl with| [v],_=>⟨v,rfl⟩
 obtain⟨u0,rfl,r0⟩:=q1Q r
 have lim:s.heap.NoLimit:=e0.mod.nolimit.keeps λb o e=>(e0.bs b o e).1
 obtain⟨hf1,hc1⟩:=hf _ _ _ _ hsp
 refine kla_callFunE hr.depth (qJG e0.hok hf1) rfl S.co S.gen rfl (qJH e0.hok hc1) (hb _ _ _ _ ?_)
 refine lG S.nocell (λy hy=>?_) (λh' hn hs=>?_) S.kind
 ·obtain rfl:y=(x0,u0):=by simpa using hy
  exact S.par
 have hk:∀b o,s.heap.get? b=some o→h'.get? b=some o:=λb o e=>by
  have:=hs.2 b (m9 (kY e))
  rw[this]
  exact kF _ e
 refine⟨lim.keeps hk,kla_codeExpr ?_⟩
 obtain⟨t,ht,hq⟩:=hbody A outer s H v0 Q E (hr.deeper _) hsp
 have noA:∀b:Addr,b∉(qEY CX P w K mg base (x0::clos.map (·.1)) qual scope clos f (.ref c) A outer s H E).ex:=λb z=>absurd (show b∈([]:List Addr)from z) (by simp)
 have cat:∀y d,clos.lookup y=some d→∃u,base.IsCell d (some u):=λy d e=>by
  obtain⟨j,hj,ej⟩:=wI (gR e)
  obtain⟨_,_,v,u,_,_,hu⟩:=S.at' j y d (kC.mpr ⟨hj,ej⟩)
  exact⟨u,hu⟩
 have I:Inv (qEY CX P w K mg base (x0::clos.map (·.1)) qual scope clos f (.ref c) A outer s H E) [] (some v0::fvs.map some) H { s with heap:=h',toks:=s.toks + [(x0,u0)].length }:=by
  refine⟨⟨e0.mod,S.kind,rfl,rfl,kM _,S.inj,λy hy=>?_,λy c z _=>absurd (show false=true from z) (by decide),λ_=>hr.hd,lB e0.frames,.inr ⟨rfl,rfl⟩,λb z=>absurd z (noA b),e0.bs,e0.bsz,λb _ _=>noA b,λb z=>absurd z (noA b),e0.funs,e0.frf⟩,
   rfl,e0.bare,Un.kept hk,⟨_,hn,λi y v h1 h2 h3=>?_⟩,λy d e=>?_,e0.hok.fresh (kM _),λy d e=>?_,λp hp=>absurd (show p∈([]:List (Addr×Obj))from hp) (by simp),e0.hok.kept hk,?_⟩
  ·have hy:scope.names.lookup y=some .cell∨scope.names.lookup y=some .free:=hy
   rcases hy with hy|hy
   ·exact absurd rfl (S.nocell _ (gR hy))
   ·exact S.free y hy
  ·cases i with
   |zero=>
    obtain rfl:=kN h1
    obtain rfl:=kN (kN h2)
    refine⟨u0,r0,.inl ⟨S.par,?_⟩⟩
    show([(x0,u0)]:List (Str×Value)).reverse.lookup x0=some u0
    simp
   |succ j=>
    have h1:(clos.map (·.1))[j]?=some y:=h1
    have h2:(fvs.map some)[j]?=some (some v):=h2
    rw[mC]at h1 h2
    obtain⟨⟨y',d⟩,hd,rfl⟩:=mK.mp h1
    obtain⟨v',hv,ev⟩:=mK.mp h2
    obtain rfl:=kN ev
    obtain⟨a1,a2,v2,u,a3,a4,a5⟩:=S.at' j _ d hd
    rw[hv]at a3
    obtain rfl:=kN a3
    exact⟨u,a4,.inr ⟨.inr a1,d,a2,a5.keeps λb o e=>hk b o (e0.bs b o e).1⟩⟩
  ·obtain⟨u,hu⟩:=cat y d e
   exact⟨_,hu.keeps λb o e=>hk b o (e0.bs b o e).1⟩
  ·obtain⟨u,o,ho,_⟩:=cat y d e
   exact(e0.bs _ _ ho).2
  ·show(some v0::fvs.map some).length=(x0::clos.map (·.1)).length
   rw[mM,mM,hC,hC,S.len]
 exact dP (ht [] _ _ H _ I hq) (λu s' ⟨v,H',J,rv,q⟩=>⟨v,H',J.os,J.bare,J.base,J.hok,rv,q⟩) λe s' hs=>hs
theorem qGL{scope:Scope}{env:Env}(h:(scope.names.all λy=>decide (y.2≠ .free)||(env.cells.lookup y.1).isSome)=true):closureFor scope env=pure (clOf env scope.names []):=
 q62 λy hy hf=>by
  have q:=d7.mp h y hy
  rw[wR,kX]at q
  rcases q with q|q
  ·exact absurd hf q
  ·exact cM.mp q
theorem qD6{scope:Scope}{x0 y:Str}{ca:Addr}{v:V}{u:Value}{base:Heap}(hk:scope.kind=.function)(hco:scope.isCoroutine=false)(hg:scope.isGenerator=false)(hp:scope.names.lookup x0=some .local)
 (hn:(scope.names.all λz=>decide (z.2≠ .cell)&&(decide (z.2≠ .free)||decide (z.1=y)))=true) (hf:scope.names.lookup y=some .free) (r:RelV v u) (hc:base.IsCell ca (some u)):LamSc scope x0 [(y,ca)] [v] base:=by
 have at1:∀z∈scope.names,z.2≠ .cell∧(z.2≠ .free∨z.1=y):=λz hz=>by
  have q:=d7.mp hn z hz
  rw[mU,wR,kX,kX,kX]at q
  exact q
 have lk:([(y,ca)]:List (Str×Addr)).lookup y=some ca:=by simp
 have one:∀x c,([(y,ca)]:List (Str×Addr)).lookup x=some c→x=y∧c=ca:=λx c e=>by
  have m:=gR e
  simpa using m
 refine⟨hk,hco,hg,hp,λz hz=>(at1 z hz).1,λz hz=>?_,λa b c h1 h2=>?_,λj x c h=>?_,rfl⟩
 ·have m:=(at1 _ (gR hz)).2
  rcases m with m|m
  ·exact absurd rfl m
  ·exact⟨ca,by rw[show z=y from m];exact lk⟩
 ·rw[(one _ _ h1).1,(one _ _ h2).1]
 ·match j,h with
  |0,h=>
   obtain⟨rfl,rfl⟩:y=x∧ca=c:=by simpa using h
   exact⟨hf,lk,v,u,rfl,r,hc⟩
  |j+1,h=>exact absurd h (by simp)
theorem qA0{env:Env}{names:List (Str×NameKind)}{y:Str}{ca:Addr}(e:env.cells.lookup y=some ca)(h:clOf env names []=match env.cells.lookup y with|some a=>[(y,a)] |none=>[]):clOf env names []=[(y,ca)]:=by
 rw[h,e]
noncomputable def qJI(T:Addr)(pos:Pos)(qual:Str)(params:Arguments)(body:Expr)(scope:Scope)(clos:List (Str×Addr))(pm:Value):TE:=λσ H Q=>∃ps c',H T=some (.tbl ps)∧TriplesOk ps.toList∧codeAmong pos ps.toList=some (.ref c')∧
 ∀(f:Addr) (ctv:Value),H f=none→Q (.ref f) (upd H f (fnO f (kla_fn "<lambda>" qual params body scope clos pm (.ref c') ctv)))
theorem qEZ{X:Cx}{c T:Addr}{params:Arguments}{body:Expr}{scope:Scope}{pos:Pos}{clos:List (Str×Addr)}(hcode:X.env.code=.ref c)(hcd:codeHdIn X.K c T=true)(B:BmIn X.base X.mg)(hcl:closureFor scope X.env=pure clos)(hdef:defaultsOf params X.env=([],[])):
 PE X (.Lambda params body scope pos) (qJI T pos (X.env.qual++"<lambda>") params body scope clos ((X.mg "__name__").getD .none)):=by
 intro pins s σ H Q I hZ
 obtain⟨ps,c',hT,ht,hnf,q⟩:=hZ
 have hP:s.heap.get? T=some (tabObj ps):=I.hok T _ hT
 have hgs:s.heap.Ns mainGlobals X.mg:=I.ok.mod.glob.keeps I.bk
 obtain⟨bm,ob,b1,b2,b3,b4,b5,b6⟩:=B
 have b3':=I.bk _ _ b3
 have hbP:bm≠T:=λz=>by rw[z,hP]at b3';cases b3';cases b4
 have hbG:bm≠mainGlobals:=λz=>by
  obtain⟨o,es,ep,e,hd,_⟩:=hgs
  rw[z,e]at b3';cases b3';rw[hd]at b6;cases b6
 refine kla_eval hdef (kla_makeFunctionHit (clos:=clos) hcl I.ok.glob hgs hcode (xX I.kIn hcd) hP ht hnf ⟨bm,ob,b1,b2,hbG,hbP,b3',b4,b5,b6⟩ λctv h' tk hx sz=>?_)
 have trk:∀b u,s.heap.get? b=some u→∀o,(h'.push o).get? b=some u:=λb u e o=>kF _ (hx b u e)
 have nF:H h'.objs.size=none:=I.hok.fresh sz
 refine⟨.ref h'.objs.size,_,?_,rfl,q _ ctv nF⟩
 refine I.un (t':=tk) ⟨λb o e n _ _=>trk b o e _,λb o e n _ _=>⟨o.slots,trk b o e _⟩,λb o e n _=>?_,λb o e _=>⟨o,trk b o e _⟩,λb xs e=>?_,λb o u e=>?_,λb qs e=>?_⟩ λb u e=>?_
 ·rw[qC (m9 (mY (kY e) sz))]
  exact n
 ·rw[qC (qF e nF)];exact e
 ·rw[qC (qF e nF)];exact e
 ·exact⟨#[],by rw[qC (qF e nF),e];simp⟩
 ·by_cases z3:b=h'.objs.size
  ·subst z3
   rw[qH]at e;cases e
   exact qEX (mP _ rfl)
  ·rw[qC z3]at e
   refine(I.hok b u e).stay (λd v hd r=>trk d v r _) (λd r=>?_) λd xs r=>?_
   ·rw[qC (qF r nF)];exact r
   ·rw[qC (qF r nF)];exact r
noncomputable def qKS(T:Addr)(pos:Pos)(qual:Str)(params:Arguments)(body:Expr)(scope:Scope)(clos:List (Str×Addr))(pm:Value):TE:=λσ H Q=>∃ps,H T=some (.tbl ps)∧TriplesOk ps.toList∧
 ((codeAmong pos ps.toList=none∧∀(f c':Addr) (ctv:Value) (H':Hp),H f=none→H' f=some (fnO f (kla_fn "<lambda>" qual params body scope clos pm (.ref c') ctv))→H' c'=some (cdO c' qual)→H' T=some (.tbl (ps++#[rawInt pos.line,rawInt pos.col,.ref c']))→(∀b o,b≠T→H b=some o→H' b=some o)→Q (.ref f) H')∨
  ∃c',codeAmong pos ps.toList=some (.ref c')∧∀(f:Addr) (ctv:Value) (H':Hp),H f=none→H' f=some (fnO f (kla_fn "<lambda>" qual params body scope clos pm (.ref c') ctv))→Same H H'→Q (.ref f) H')
theorem qGM{X:Cx}{c T:Addr}{params:Arguments}{body:Expr}{scope:Scope}{pos:Pos}{clos:List (Str×Addr)}(hcode:X.env.code=.ref c)(hcd:codeHdIn X.K c T=true)(B:BmIn X.base X.mg)(hcl:closureFor scope X.env=pure clos)(hdef:defaultsOf params X.env=([],[])):
 PE X (.Lambda params body scope pos) (qKS T pos (X.env.qual++"<lambda>") params body scope clos ((X.mg "__name__").getD .none)):=λpins s σ H Q I ⟨ps,hT,ht,h⟩=>by
 rcases h with⟨hn,q⟩|⟨c',hn,q⟩
 ·exact qGJ hcode hcd B hcl hdef pins s σ H Q I ⟨ps,hT,ht,hn,λf c' ctv nf nc fc=>q f c' ctv _ nf qH (by rw[qC fc.symm];exact qH) (by rw[qC (qF hT nf),qC (qF hT nc)];exact qH) λb o nb e=>by rw[qC (qF e nf),qC (qF e nc),qC nb];exact e⟩
 ·exact qEZ hcode hcd B hcl hdef pins s σ H Q I ⟨ps,c',hT,ht,hn,λf ctv nf=>q f ctv _ nf qH (Same.upd nf)⟩
theorem qGN{X:Cx}{CX:CXT}{k:Nat}{f:Addr}{fd:FuncData}{ps:List Str}{sp:Heap→Sp}{dvs:List V}{ds:List Value}{E:XK}{pins:List (Addr×Obj)}{σ:St}{H:Hp}{s:Shared}{Q:VK}{us:List Value}{vs:List V}(ix:List (Nat×Str))
 (hix:∀p∈ix,X.N[p.1]?=some p.2∧X.env.scope.names.lookup p.2=some .cell∧X.fn p.2=true)
 (F:∀base',(∀b o,X.base.get? b=some o→base'.get? b=some o)→q6I X.env.cells σ base' ix→FnOk X.prog X.w X.K X.mg base' CX k f fd ps (sp base')) (hr:Room k X.A) (hb:yN X.K fd ps ds) (hd:Vals dvs ds) (hx:q14 CX X E)
 (I:Inv X pins σ H s) (r:Vals vs us) (h:∀base',(∀b o,X.base.get? b=some o→base'.get? b=some o)→q6I X.env.cells σ base' ix→sp base' (vs++dvs) H Q E):wpAny (model X.prog X.w) X.A (call (.ref f) us) (EP X pins σ Q) X.xe s:=by
 have r2:Vals (vs++dvs) (us++ds):=r.append hd
 obtain⟨e0,up,cel⟩:=I.env0C (ix.filterMap λp=>X.env.cells.lookup p.2) (λc hc=>by
  obtain⟨p,hp,e⟩:=rR.mp hc
  exact⟨p.2,(hix p hp).2.2,e⟩)
 have cv:q6I X.env.cells σ (hidT s.heap (vJ X.base (ix.filterMap λp=>X.env.cells.lookup p.2))) ix:=λp hp v hv=>by
  obtain⟨h1,h2,h3⟩:=hix p hp
  obtain⟨m,_,hl⟩:=I.loc
  obtain⟨u,ru,lk⟩:=hl p.1 p.2 v h1 hv (.inr (.inl h2))
  rcases lk with⟨z,_⟩|⟨_,c,hc,o,ho,hd⟩
  ·have z:X.env.scope.names.lookup p.2=some .local:=z
   rw[h2]at z;cases z
  ·exact⟨c,u,hc,ru,o,cel c (rR.mpr ⟨p,hp,hc⟩) o ho,hd⟩
 have q:=h _ up cv
 have hl:(us++ds).length=ps.length:=by rw[←r2.length];exact(F _ up cv).len _ _ _ _ q
 refine pG (cZ ((F _ up cv).run X.A X.stack s H ⟨us,[]⟩ (us++ds) (vs++dvs) Q E hr e0 (hb s us I.kIn hl) r2 q) λr s' hq=>?_)
 cases r with
 |error e=>exact hx pins σ H s e s' I hq
 |ok fl=>
  cases fl with
  |ret u=>exact I.after hq
  |next=>exact False.elim hq
  |brk=>exact False.elim hq
  |cont=>exact False.elim hq
section
variable{X:Cx}{pins:List (Addr×Obj)}{σ:St}{H:Hp}{s:Shared}
theorem qD7{P:PySem.Fin→Shared→Prop}{EE:Value→Shared→Prop}{a f:Addr}{n:Nat}{vs:List Value}{us:List V}(I:Inv X pins σ H s)
 (ho:s.heap.get? a=some (seqObj "list" vs.toArray n)) (fa:FpOk X pins H a) (ha:X.s₀.heap.objs.size≤a) (rv:Vals us vs) (h64:us.length<64)
 (Pv:Nat→List V→Hp→Prop) (h0:Pv 0 [] H) (hs:∀i x zs H' pins' s' u,us[i]?=some x→RelV x u→Pv i zs H'→Inv { X with A:=X.A.in1.in1,xe:=λ_ _=>False } pins' σ H' s'→wpAny (model X.prog X.w) X.A.in1.in1 (call (.ref f) [u]) (EP { X with A:=X.A.in1.in1,xe:=λ_ _=>False } pins' σ (λz H''=>Pv (i+1) (zs++[z]) H'')) (λ_ _=>False) s')
 (hd:∀zs H',H' a=none→zs.length=us.length→Pv us.length zs H'→∃kk m,Paired (TupI X.K H') zs kk∧(∀k∈kk,k.length=m)∧0<m∧∀q:List Nat,q.Perm (List.range us.length)→(q.map λi=>kk.getD i []).Pairwise (λa b=>lx b a=false)→∀s',Inv X pins σ (upd H' a (.lst (q.map λi=>us.getD i .non))) s'→P (.done (.ret .none)) s'):
 wpAny (model X.prog X.w) X.A.in1.in1 (ksk_tree a (.ref f) false) P EE s:=by
 have hal:a<s.heap.objs.size:=kY ho
 have hl:=rv.length
 obtain⟨e1,g1⟩:∃e1,(s.heap.update a (Obj.mapSeq λ_=>(#[]:Array Value))).get? a=some (seqObj "list" #[] e1):=⟨_,pO ho λ_=>#[]⟩
 unfold ksk_tree
 refine kL (xJ ho rfl (kL (wT ho rfl (kL (sJ g1 rfl ?_)) (by rw[mD,gI];lia) (mV _))))
 refine kL (wpAny_newTuple (kL (pL (dH ?_) (mV _))) (by show vs.length≤_;rw[gI];lia))
 have hks:((s.heap.update a (Obj.mapSeq λ_=>(#[]:Array Value))).push (seqObj "tuple" vs.toArray 0)).objs.size=s.heap.objs.size+1:=by rw[l9,sT]
 obtain⟨kS,eks⟩:∃kS:Addr,kS=((s.heap.update a (Obj.mapSeq λ_=>(#[]:Array Value))).push (seqObj "tuple" vs.toArray 0)).objs.size:=⟨_,rfl⟩
 have ksz:s.heap.objs.size≤kS:=by rw[eks,hks];exact rC _
 have ne:kS≠a:=d9 (mY hal ksz)
 show wpAny (model X.prog X.w) X.A.in1.in1 (ksk_rest a (.ref f) false vs.toArray e1 (.ref ((s.heap.update a (Obj.mapSeq λ_=>(#[]:Array Value))).push (seqObj "tuple" vs.toArray 0)).objs.size)) P EE { s with heap:=((s.heap.update a (Obj.mapSeq λ_=>(#[]:Array Value))).push (seqObj "tuple" vs.toArray 0)).push (seqObj "list" #[] 0) }
 rw[←eks]
 have gk0:(((s.heap.update a (Obj.mapSeq λ_=>(#[]:Array Value))).push (seqObj "tuple" vs.toArray 0)).push (seqObj "list" #[] 0)).get? kS=some (seqObj "list" #[] 0):=by rw[eks];exact mP _ rfl
 have ga0:=kF (seqObj "list" #[] 0) (kF (seqObj "tuple" vs.toArray 0) g1)
 have I0:Inv X pins σ H { s with heap:=((s.heap.update a (Obj.mapSeq λ_=>(#[]:Array Value))).push (seqObj "tuple" vs.toArray 0)).push (seqObj "list" #[] 0),toks:=s.toks }:=
  I.turnedN (fp:=[a]) (λb o hb' e=>kF _ (kF _ ((mZ _ _ (λz=>hb' (kE.mpr z.symm))).trans e))) (λb hb'=>by rw[kE.mp hb'];exact fa)
 have fk0:FpOk X pins H kS:=I.fpOk ksz (I.hok.fresh ksz)
 have fp:∀{H':Hp} {b:Addr},FpOk X pins H b→H' b=none→FpOk X pins H' b:=λf e=>⟨e,f.2⟩
 unfold ksk_rest
 refine kL (wpAny_rule ?_)
 first
  |rw[List.forIn_toArray]
  |(rw[←Array.forIn_toList];simp only[List.toList_toArray])
 refine kL (ksk_fold (I:=λi s'=>∃H' zs ks e,Inv X pins σ H' s'∧s'.heap.get? a=some (seqObj "list" #[] e1)∧s'.heap.get? kS=some (seqObj "list" (List.toArray ks) e)∧Vals zs ks∧zs.length=i∧Pv i zs H'∧H' a=none∧H' kS=none) vs 0 _ ⟨H,[],[],0,I0,ga0,gk0,.nil,rfl,h0,fa.1,fk0.1⟩ (λj x s' hx hJ=>?_) λs' hJ=>?_)
 ·obtain⟨H',zs,ks,e,I1,ga,gk,rz,lz,pv,na,nk⟩:=hJ
  rw[pZ]at lz pv ⊢
  have hj:j<vs.length:=(kC.mp hx).1
  obtain⟨y,ey,ry⟩:=rv.atN (j:=j) hj
  obtain rfl:vs[j]=x:=(kC.mp hx).2
  have I2:=(I1.near (A':=X.A.in1.in1) rfl rfl λ_ _=>False).pinned (fp:=[a,kS]) (λb hb'=>by
   simp only[kI,gW,cE]at hb'
   rcases hb' with rfl|rfl
   ·exact fp fa na
   ·exact fp fk0 nk) (λb hb'=>by
   simp only[kI,gW,cE]at hb'
   rcases hb' with rfl|rfl
   ·exact⟨_,ga,λv z=>by cases z⟩
   ·exact⟨_,gk,λv z=>by cases z⟩)
  refine kL (lQ (dP (hs j y zs H' _ _ _ ey ry pv I2) (λu s'' hq=>?_) λ_ _ z=>z.elim))
  obtain⟨z,H'',I3,ru,q⟩:=hq
  have pa:=I3.pin (a,seqObj "list" #[] e1) (mQ _ (mQ _ (v9 (by simp) ga)))
  have pk:=I3.pin (kS,seqObj "list" (List.toArray ks) e) (mQ _ (mQ _ (v9 (by simp) gk)))
  have lk:=rz.length
  have ea:(List.toArray ks).push u=List.toArray (ks++[u]):=by simp
  obtain⟨c2,g2⟩:∃c2,(s''.heap.update kS (Obj.mapSeq (·.push u))).get? kS=some (seqObj "list" (List.toArray (ks++[u])) c2):=⟨_,by rw[←ea];exact pO pk.1 (·.push u)⟩
  try dsimp only
  refine kL (wT pk.1 rfl ?_ (by rw[mD,gI];lia) (kO (cX (Array.size_push ..)) (by rw[mD,gI];lia)))
  have I4:Inv X pins σ H'' s'':=(I3.unpinned).near (A':=X.A) rfl rfl X.xe
  have I5:Inv X pins σ H'' { s'' with heap:=s''.heap.update kS (Obj.mapSeq (·.push u)),toks:=s''.toks }:=
   I4.turnedN (fp:=[kS]) (λb o hb' e=>(mZ _ _ (λz=>hb' (kE.mpr z.symm))).trans e) (λb hb'=>by rw[kE.mp hb'];exact fp fk0 pk.2.1)
  exact mO ⟨rfl,H'',zs++[z],ks++[u],c2,I5,(mZ _ _ ne).trans pa.1,g2,rz.append (.cons ru .nil),by rw[kZ,lz];rfl,q,pa.2.1,pk.2.1⟩
 ·obtain⟨H',zs,ks,e,I1,ga,gk,rz,lz,pv,na,nk⟩:=hJ
  rw[pZ,←hl]at lz pv
  obtain⟨kk,m,hti,hw,hm,fin⟩:=hd zs H' na lz pv
  try dsimp only
  refine kL (xJ gk rfl ?_)
  exact qGF I1 (fp fa na) (fp fk0 nk) ha ne ga gk rz rv lz h64 hti hw hm fin
end
noncomputable def oneQ(R:V→Hp→Prop):List V→Hp→Prop
 | [v],H=>R v H
 |_,_=>False
theorem qGO{R:V→Hp→Prop}:∀{xs:List V} {H:Hp},oneQ R xs H→∃v,xs=[v]∧R v H
 | [v],_,h=>⟨v,rfl,h⟩
 | [],_,h=>h.elim
 |_::_::_,_,h=>h.elim
noncomputable def tSL(P:Program)(w:World)(K:PySem.W.Frag)(mg:Str→Option Value)(base:Heap)(cells:List (Str×Addr))(ix:List (Nat×Str))(k:Nat)(x:Str)(tl:TE)(ta:TA):TE:=λσ H Q=>ta σ H λvs H1=>tl σ H1 λfv H2=>∃(f:Addr) (fd:FuncData) (sp:Heap→Sp),fv=.ref f∧
 (∀base',(∀b o,base.get? b=some o→base'.get? b=some o)→q6I cells σ base' ix→FnOk P w K mg base' CX0 k f fd [x] (sp base'))∧yN K fd [x] []∧
 ∃(l:Addr) (us:List V) (Pv:Nat→List V→Hp→Prop),vs=[.ref l]∧SqL K H2 l us∧us.length<64∧Pv 0 [] H2∧(∀base' i x zs H',q6I cells σ base' ix→us[i]?=some x→Pv i zs H'→sp base' [x] H' (λz H''=>Pv (i+1) (zs++[z]) H'') E0)∧
 ∀zs H',zs.length=us.length→Pv us.length zs H'→∃kk m,Paired (TupI K H') zs kk∧(∀k∈kk,k.length=m)∧0<m∧∀q:List Nat,q.Perm (List.range us.length)→(q.map λi=>kk.getD i []).Pairwise (λa b=>lx b a=false)→NewO H' (.lst (q.map λi=>us.getD i .non)) Q
theorem qB5{X:Cx}{k:Nat}{x:Str}{e le:Expr}{tl:TE}{ta:TA}{p kp pos:Pos}(ix:List (Nat×Str))(hix:∀p∈ix,X.N[p.1]?=some p.2∧X.env.scope.names.lookup p.2=some .cell∧X.fn p.2=true)(hr:Room (k+2) X.A)(hg:Gl X "sorted")(hm:X.mg "sorted"=none)(hl:PE X le tl)(ha:PA X [e] ta)
 (he:starEach [e] X.env=[(false,eval e X.env)]:=by rfl) (hse:starEach ([]:List Expr) X.env=[]:=by rfl):
 PE X (.Call (.Name "sorted" p) [e] [⟨some "key",le,kp⟩] pos) (tSL X.prog X.w X.K X.mg X.base X.env.cells ix k x tl ta):=by
 intro pins s σ H Q I h
 refine rT (q3G I hg hm (u:=.builtin "sorted") (by kernel_rfl) ?_ (by decide) (by decide))
 refine callWith_kw (thn (ha pos pins s σ H _ I h) λus s1 ⟨vs,H1,I1,r1,q1⟩=>?_) (by rw[he,hse];rfl) (by rw[he];rfl)
 have pk:PK X [⟨some "key",le,kp⟩] (qBK tl tNil):=qFW hl qI9
 refine thn (pk pos pins s1 σ H1 (oneQ _) I1 q1) λws s2 hZ=>?_
 obtain⟨xs,H2,I2,r2,q2⟩:=hZ
 obtain⟨v,rfl,f,fd,sp,rfl,F,hb,q2⟩:=qGO q2
 obtain⟨w,rfl,rw⟩:=q1Q r2
 obtain rfl:w=Value.ref f:=rw
 obtain⟨l,us',Pv,ev,hq,h64,p0,hs,hd⟩:=q2
 subst ev
 obtain⟨u,rfl,ru⟩:=q1Q r1
 obtain rfl:u=Value.ref l:=ru
 obtain⟨its,rv,pl,hz⟩:=I2.list hq
 have hlen:=rv.length
 show wpAny (model X.prog X.w) X.A (call (.builtin "sorted") [.ref l] [(Str.ofString "key",.ref f)]) _ _ _
 refine call_function_entry_kw xW xL xM (ksk_s1 _ _) ?_
 unfold Builtin.«sorted»
 refine kL (m:=checkCount "sorted" 1 1 _) (mO (kL (collect_list pl.isList (kL (pL ?_ (by rw[gI];show its.length≤_;lia))))))
 have hsz:((s2.heap.push (seqObj "list" #[] 0)).update s2.heap.objs.size (Obj.mapSeq (· ++its.toArray))).objs.size=s2.heap.objs.size+1:=by
  rw[sT,l9]
 have g:(((s2.heap.push (seqObj "list" #[] 0)).update s2.heap.objs.size (Obj.mapSeq (· ++its.toArray))).push (seqObj "list" its.toArray 0)).get? (s2.heap.objs.size+1)=some (seqObj "list" its.toArray 0):=by
  rw[←hsz];exact mP _ rfl
 show wpAny _ _ _ _ _ { s2 with heap:=((s2.heap.push (seqObj "list" #[] 0)).update s2.heap.objs.size (Obj.mapSeq (· ++its.toArray))).push (seqObj "list" its.toArray 0) }
 rw[hsz]
 have I3:Inv X pins σ H2 { s2 with heap:=((s2.heap.push (seqObj "list" #[] 0)).update s2.heap.objs.size (Obj.mapSeq (· ++its.toArray))).push (seqObj "list" its.toArray 0),toks:=s2.toks }:=
  I2.kept (t':=s2.toks) λb o e=>kF _ ((mZ _ _ (d9 (kY e))).trans (kF _ e))
 refine kL (dH (wpAny_call_entry_kw lI ⟨_,g,rfl⟩ nS ?_ (ksk_l1 _ _)))
 rw[ksk_t1]
 have fr:s2.heap.objs.size≤s2.heap.objs.size+1:=rC _
 refine qD7 I3 g (I2.fpOk fr (I2.hok.fresh fr)) (kO I2.sz fr) rv h64 Pv p0 (λi x zs H' pins' s' u hx rx pv I'=>qGN (X:={ X with A:=X.A.in1.in1,xe:=λ_ _=>False }) (dvs:=[]) (ds:=[]) (E:=E0) ix hix F hr.in1.in1 hb .nil qK I' (.cons rx .nil) (λbase' up cv=>hs base' i x zs H' cv hx pv)) λzs H' na lz pv=>?_
 obtain⟨kk,m,a1,a2,a3,a4⟩:=hd zs H' lz pv
 refine⟨kk,m,a1,a2,a3,λq b1 b2 s' I'=>⟨_,rfl,mO ⟨_,rfl,.ref _,_,I',rfl,(a4 q b1 b2).at _ na⟩⟩⟩
end L2
namespace W1
open PySem L2
structure QM where
 P:Nat
 B:Nat
 nx:Int
 V:Mp
 lv:List Int
 fi:List Int
 bo:List Int
namespace QM
structure Ok(m:QM):Prop where
 p1:1≤m.P
 p2:m.P≤16
 b2:m.B≤16
 ll:m.lv.length=m.B
 lf:m.fi.length=m.B
 lo:m.bo.length=m.B
 nd:(m.V.map (·.1)).Nodup
 nm:∀q∈m.V,0≤q.1∧q.1≤64
 blk:∀q∈m.V,∃b:Nat,b<m.B∧q.2 / (m.P:Int)=(b:Int)
 wr:∀b,b<m.B→∃f:Nat,m.fi.getD b 0=(f:Int)∧f≤m.P
variable{m:QM}
theorem Ok.lenV(h:m.Ok):m.V.length≤65:=by
 have:=qHR (l:=m.V.map (·.1)) (m:=(List.range 65).map λi:Nat=>(i:Int)) h.nd λx hx=>by
  obtain⟨q,hq,rfl⟩:=kP.mp hx
  have:=h.nm q hq
  exact kP.mpr ⟨q.1.toNat,mL.mpr (by lia),by lia⟩
 rw[hC,hC,mG]at this
 exact this
noncomputable def forget(m:QM)(n:Int):QM:={ m with V:=jE m.V n,lv:=BM.lvF m.P m.V m.lv n }
theorem find_V{n:Int}:(∃p,(n,p)∈m.V∧m.V.find? (λq=>decide (q.1=n))=some (n,p))∨((∀q∈m.V,q.1≠n)∧m.V.find? (λq=>decide (q.1=n))=none):=by
 cases e:m.V.find? (λq=>decide (q.1=n))with
 |none=>
  refine .inr ⟨λq hq z=>?_,rfl⟩
  have:=dQ.mp e q hq
  exact this (hG z)
 |some q=>
  have h1:q.1=n:=by
   have:=dO e
   simpa using this
  have h2:=dY e
  refine .inl ⟨q.2,by rw[←h1];exact h2,by rw[←h1]⟩
theorem lvF_len{n:Int}:(BM.lvF m.P m.V m.lv n).length=m.lv.length:=by
 unfold BM.lvF
 split
 ·rw[gD]
 ·rfl
theorem Ok.forget(h:m.Ok)(n:Int):(m.forget n).Ok:=
 { h with ll:=by show(BM.lvF m.P m.V m.lv n).length=m.B;rw[lvF_len];exact h.ll,nd:=q6F h.nd,nm:=λq hq=>h.nm q (j0.mp hq).1,blk:=λq hq=>h.blk q (j0.mp hq).1 }
noncomputable def put(m:QM)(b f:Nat)(n:Int):QM:=
 { m with V:=jE m.V n++[(n,((b*m.P+f:Nat):Int))],lv:=(BM.lvF m.P m.V m.lv n).set b ((BM.lvF m.P m.V m.lv n).getD b 0+1),bo:=if m.fi.getD b 0=0 then m.bo.set b m.nx else m.bo,fi:=m.fi.set b (m.fi.getD b 0+1),nx:=m.nx+1 }
theorem Ok.put(h:m.Ok){b f:Nat}{n:Int}(hb:b<m.B)(hf:f<m.P)(ef:m.fi.getD b 0=(f:Int))(n0:0≤n)(n1:n≤64):(m.put b f n).Ok where
 p1:=h.p1
 p2:=h.p2
 b2:=h.b2
 ll:=by show(List.set _ _ _).length=m.B;rw[gD,lvF_len];exact h.ll
 lf:=by show(List.set _ _ _).length=m.B;rw[gD];exact h.lf
 lo:=by
  show(if m.fi.getD b 0=0 then m.bo.set b m.nx else m.bo).length=m.B
  split
  ·rw[gD];exact h.lo
  ·exact h.lo
 nd:=by
  show((jE m.V n++[(n,((b*m.P+f:Nat):Int))]).map (·.1)).Nodup
  rw[mJ]
  refine wC.mpr ⟨q6F h.nd,by simp,λa ha c hc=>?_⟩
  obtain⟨q,hq,rfl⟩:=kP.mp ha
  have hc:c=n:=by simpa using hc
  rw[hc]
  exact(j0.mp hq).2
 nm:=λq hq=>by
  rcases gO.mp hq with hq|hq
  ·exact h.nm q (j0.mp hq).1
  ·rw[kE.mp hq];exact⟨n0,n1⟩
 blk:=λq hq=>by
  rcases gO.mp hq with hq|hq
  ·exact h.blk q (j0.mp hq).1
  ·rw[kE.mp hq]
   refine⟨b,hb,?_⟩
   show((b*m.P+f:Nat):Int) / (m.P:Int)=_
   rw[←dC,yB hf]
 wr:=λc hc=>by
  show ∃g:Nat,(m.fi.set b (m.fi.getD b 0+1)).getD c 0=(g:Int)∧g≤m.P
  rw[qZ]
  split
  ·exact⟨f+1,by rw[ef];rfl,hf⟩
  ·exact h.wr c hc
end QM
noncomputable def vn(b:Nat):V:=.int (b:Int)
noncomputable def uD(B:Nat)(br:List Bool):List Nat:=(List.range B).filter λb=>!(br.getD b false)
noncomputable def yI(B:Nat)(br:List Bool)(fi:List Int):List Nat:=(uD B br).filter λb=>decide (fi.getD b 0=0)
noncomputable def keyN(cl:List Int)(b:Nat):List Int:=[cl.getD b 0,(b:Int)]
structure FreeIs(B:Nat)(br:List Bool)(cl fi:List Int)(l:List Nat):Prop where
 pm:l.Perm (yI B br fi)
 so:(l.map (keyN cl)).Pairwise λa b=>lx b a=false
theorem qGP{cl:List Int}{a b:Nat}(h:keyN cl a=keyN cl b):a=b:=by
 unfold keyN at h
 injection h with _ h
 injection h with h _
 lia
theorem q0L{B:Nat}{br:List Bool}{b:Nat}:b∈uD B br↔b<B∧br.getD b false=false:=by
 unfold uD
 rw[mI,mL,rD]
theorem q31{B:Nat}{br:List Bool}{fi:List Int}{b:Nat}:b∈yI B br fi↔(b<B∧br.getD b false=false)∧fi.getD b 0=0:=by
 unfold yI
 rw[mI,q0L,kX]
theorem q23{B:Nat}{br:List Bool}:(uD B br).length≤B:=kO (mB _ _) (by rw[mG];exact kM _)
theorem q81{B:Nat}{br:List Bool}{fi:List Int}:(yI B br fi).length≤B:=kO (mB _ _) q23
theorem FreeIs.mem{B:Nat}{br:List Bool}{cl fi:List Int}{l:List Nat}(h:FreeIs B br cl fi l){b:Nat}(hb:b∈l):b<B∧br.getD b false=false∧fi.getD b 0=0:=by
 have:=q31.mp (h.pm.mem_iff.mp hb)
 exact⟨this.1.1,this.1.2,this.2⟩
theorem FreeIs.len{B:Nat}{br:List Bool}{cl fi:List Int}{l:List Nat}(h:FreeIs B br cl fi l):l.length≤B:=by
 rw[h.pm.length_eq]
 exact q81
noncomputable def jP(P:Nat)(fi:List Int)(b:Nat):Bool:=decide (0<fi.getD b 0)&&decide (fi.getD b 0<(P:Int))
noncomputable def jM(B P:Nat)(br:List Bool)(fi:List Int):Option Nat:=(uD B br).find? (jP P fi)
theorem zH{B P:Nat}{br:List Bool}{fi:List Int}{b:Nat}(h:jM B P br fi=some b):b<B∧br.getD b false=false∧0<fi.getD b 0∧fi.getD b 0<(P:Int):=by
 have h1:=q0L.mp (dY h)
 have h2:=dO h
 unfold jP at h2
 rw[mU,kX,kX]at h2
 exact⟨h1.1,h1.2,h2.1,h2.2⟩
noncomputable def q0M(B P:Nat)(br:List Bool)(fi:List Int)(l:List Nat):Option Nat:=match jM B P br fi with
 |some b=>some b
 |none=>l.head?
theorem qA1{B P:Nat}{br:List Bool}{cl fi:List Int}{l:List Nat}(hl:FreeIs B br cl fi l)(hP:1≤P){b:Nat}(h:q0M B P br fi l=some b):b<B∧br.getD b false=false∧0≤fi.getD b 0∧fi.getD b 0<(P:Int):=by
 unfold q0M at h
 split at h
 ·rename_i b' e
  cases h
  have:=zH e
  exact⟨this.1,this.2.1,by lia,this.2.2.2⟩
 ·cases l with
  |nil=>cases h
  |cons c r=>
   cases h
   have:=hl.mem kU
   exact⟨this.1,this.2.1,by lia,by lia⟩
noncomputable def pgV(P:Nat)(fi:List Int):Option Nat→V
 |none=>.non
 |some b=>.int ((b:Int)*(P:Int)+fi.getD b 0)
noncomputable def oV:Option Nat→V
 |none=>.non
 |some b=>.int (b:Int)
theorem q6J{α β:Type}{L:List α}{f:α→β}{d:β}{e:α}:∀{q:List Nat},(∀i∈q,i<L.length)→(q.map λi=>(L.map f).getD i d)=(q.map λi=>L.getD i e).map f
 | [],_=>rfl
 |i::q,h=>by
  have hi:=h i kU
  rw[mE,mE,mE,q6J (q:=q) λj hj=>h j (hU _ hj)]
  congr 1
  rw[kJ,kJ,mC,hX hi]
  rfl
theorem qB6{α:Type}{L:List α}{e:α}{q:List Nat}(h:q.Perm (List.range L.length)):(q.map λi=>L.getD i e).Perm L:=by
 have:=h.map λi=>L.getD i e
 refine this.trans ?_
 have eq:(List.range L.length).map (λi=>L.getD i e)=L:=by
  refine cG (by simp) λi h1 h2=>?_
  rw[sV,cT,kJ,hX h2]
  rfl
 rw[eq]
theorem qGQ{B:Nat}{br:List Bool}{cl fi:List Int}{q:List Nat}(h:q.Perm (List.range (yI B br fi).length))(so:(q.map λi=>((yI B br fi).map (keyN cl)).getD i []).Pairwise λa b=>lx b a=false):FreeIs B br cl fi (q.map λi=>(yI B br fi).getD i 0):=by
 have hin:∀i∈q,i<(yI B br fi).length:=λi hi=>mL.mp (h.mem_iff.mp hi)
 refine⟨qB6 h,?_⟩
 rw[q6J (e:=0) hin]at so
 exact so
theorem qD8{α β:Type}{L:List α}{f:α→β}{i:Nat}{x:α}(h:L[i]?=some x):(L.take (i+1)).map f=(L.take i).map f++[f x]:=by
 have hi:=(kC.mp h).1
 obtain rfl:L[i]=x:=(kC.mp h).2
 rw[←mH hi,mJ]
 rfl
theorem qGR{a b:List Int}(h:lx a b=true):lx b a=false:=by
 cases z:lx b a with
 |false=>rfl
 |true=>
  have:=q20 a b a h z
  rw[q6B]at this
  cases this
theorem qHT{a b c:List Int}(h1:lx b a=false)(h2:lx c b=false):lx c a=false:=by
 cases z:lx c a with
 |false=>rfl
 |true=>
  cases y:lx a b with
  |true=>
   have:=q20 c a b z y
   rw[h2]at this
   cases this
  |false=>
   have e:=q6C a b y h1
   rw[e]at z
   rw[h2]at z
   cases z
theorem FreeIs.ex(B:Nat)(br:List Bool)(cl fi:List Int):∃l,FreeIs B br cl fi l:=by
 refine⟨(yI B br fi).mergeSort λa b=>!(lx (keyN cl b) (keyN cl a)),cL _ _,?_⟩
 have:=cW (le:=λa b=>!(lx (keyN cl b) (keyN cl a))) (λa b c h1 h2=>by
  rw[rD]at h1 h2 ⊢
  exact qHT h1 h2) (λa b=>by
  cases z:lx (keyN cl b) (keyN cl a)with
  |false=>rfl
  |true=>rw[qGR z];rfl) (yI B br fi)
 rw[g7]
 exact this.imp λh=>by
  rw[rD]at h
  exact h
theorem rep8{α:Type}{n i:Nat}{y:α}:(List.replicate n y).getD i y=y:=by
 rw[kJ,wJ]
 split<;>rfl
end W1
namespace W1
noncomputable def sumB(p:Nat→Bool):Nat→Nat
 |0=>0
 |n+1=>sumB p n+if p n then 2 ^ n else 0
theorem q82(x:Nat):∀n,sumB x.testBit n=x%2 ^ n
 |0=>by simp[sumB,Nat.mod_one]
 |n+1=>by
  show sumB x.testBit n+(if x.testBit n then 2 ^ n else 0)=_
  rw[q82 x n,Nat.pow_succ,Nat.mod_mul,Nat.testBit_eq_decide_div_mod_eq]
  have:=Nat.mod_two_eq_zero_or_one (x / 2 ^ n)
  rcases this with h|h<;>simp[h]
theorem q3H{p q:Nat→Bool}:∀n,(∀k,k<n→p k=q k)→sumB p n=sumB q n
 |0,_=>rfl
 |n+1,h=>by
  show sumB p n+ _=sumB q n+ _
  rw[q3H n λk hk=>h k (by lia),h n (by lia)]
noncomputable def orB:List Nat→Nat→Nat
 | [],b=>b
 |s::r,b=>orB r (b|||2 ^ s)
theorem qA2(k:Nat):∀(l:List Nat) (b:Nat),(orB l b).testBit k=(b.testBit k||decide (k∈l))
 | [],b=>by simp[orB]
 |s::r,b=>by
  show(orB r (b|||2 ^ s)).testBit k=_
  rw[qA2 k r,Nat.testBit_or,Nat.testBit_two_pow]
  by_cases h:s=k
  ·simp[h]
  ·have:¬k=s:=λz=>h z.symm
   simp[h,this]
theorem qF0(n:Nat):∀(l:List Nat) (b:Nat),b<2 ^ n→(∀s∈l,s<n)→orB l b<2 ^ n
 | [],b,h,_=>h
 |s::r,b,h,hs=>qF0 n r _ (Nat.or_lt_two_pow h (Nat.pow_lt_pow_right (by decide) (hs s (kU ..)))) λx hx=>hs x (hU _ hx)
theorem q8R{l:List Nat}{n:Nat}(h:∀s∈l,s<n):orB l 0=sumB (λk=>decide (k∈l)) n:=by
 have lt:=qF0 n l 0 (Nat.two_pow_pos n) h
 have:=q82 (orB l 0) n
 rw[cH lt]at this
 rw[←this]
 exact q3H n λk _=>by rw[qA2];simp
theorem q83(p:Nat→Bool):∀n,(((List.range n).filter p).map λk=>(2:Nat) ^ k).sum=sumB p n
 |0=>rfl
 |n+1=>by
  rw[rF,gF,mJ,aH,q83 p n]
  show sumB p n+((([n]:List Nat).filter p).map λk=>(2:Nat) ^ k).sum=sumB p n+if p n then 2 ^ n else 0
  cases h:p n<;>simp[h]
end W1
namespace W1
open PySem L2
theorem yD{B:Nat}:uD B (List.replicate B false)=List.range B:=by
 unfold uD
 refine rH.mpr λb _=>?_
 rw[rep8]
 rfl
end W1
namespace L2
open PySem PySem.Spec PyProof.Rows
structure ClM(K:PySem.W.Frag)(W:Addr)(m:Str)(f:Addr):Prop where
 rd:PySem.W.readsIn K W (.type "type")=true
 fd:PySem.W.findCls K (.ref W) (.type "type") m=some (.val (.ref f))
 ga:PySem.W.specialIn K (.ref W) "__getattribute__"=some (some (.builtin "type.__getattribute__"))
 kp:PySem.W.keepIn K (.ref f)=true
theorem qGS{K:PySem.W.Frag}{a:Addr}{xs:List V}{D:Addr}{H2:Hp}{g:TG}{tc:TT}{te:TE}{σ0:St}{R:Hp→Prop}(Pv:Nat→Hp→Prop)(h0:Pv 0 H2)(hl:∀i H,Pv i H→SqT K H a xs)
 (hs:∀(i:Nat) x H,xs[i]?=some x→Pv i H→g x σ0 H λσ5 H5=>tc σ5 H5 λb H6=>if b=true then te σ5 H6 (λv H7=>∃vs,H7 D=some (.lst vs)∧vs.length<sizeLine∧Pv (i+1) (upd H7 D (.lst (vs++[v]))))else Pv (i+1) H6) (hd:∀H,Pv xs.length H→R H):
 ∃W:Nat→Nat→Hp→Prop,(∃m,W 0 m H2)∧∀i m H3,W i m H3→((Itt K a).stop i H3∧R H3)∨
  ((Itt K a).go i H3∧∃N:Hp→Prop,(∀H',N H'→∃m',m'<m∧W (i+1) m' H')∧∀x H4,(Itt K a).yld i H3 x H4→g x σ0 H4 λσ5 H5=>tc σ5 H5 λb H6=>
   if b=true then te σ5 H6 (λv H7=>∃vs,H7 D=some (.lst vs)∧vs.length<sizeLine∧N (upd H7 D (.lst (vs++[v]))))else N H6):=by
 refine⟨λi m H=>m=xs.length-i∧i≤xs.length∧Pv i H,⟨xs.length,by simp,mV _,h0⟩,?_⟩
 rintro i m H ⟨rfl,hi,p⟩
 have hq:=hl i H p
 by_cases hlt:i<xs.length
 ·have e1:xs[i]?=some xs[i]:=hX hlt
  refine .inr ⟨⟨xs,_,hq,e1⟩,Pv (i+1),λH' z=>⟨xs.length-(i+1),by lia,rfl,by lia,z⟩,?_⟩
  rintro x H4 ⟨rfl,hx⟩
  exact hs i x _ (hx xs hq) p
 ·obtain rfl:i=xs.length:=by lia
  exact .inl ⟨⟨xs,hq,kM _⟩,hd _ p⟩
noncomputable def gLst(K:PySem.W.Frag)(n:Nat)(t:TGs):TG:=λv σ H Q=>∃a xs,v=.ref a∧SqL K H a xs∧xs.length=n∧t xs σ H Q
theorem qJJ{X:Cx}{pos:Pos}{es:List Expr}{k:Nat}{t:TGs}{n:Nat}(hc:X.calm=true)(h:PGs X es t)
 (hn:(assignEach es X.env).length=n:=by rfl) (hst:(assignEach es X.env).findIdx? (·.1)=none:=by rfl):PG X (.Tuple es k pos) (gLst X.K n t):=by
 intro pins s σ H v u Q I r hw
 obtain⟨a,xs,e1,hq,hl,hw⟩:=hw
 subst e1
 cases r
 obtain⟨its,rv,p,hz⟩:=I.list hq
 rw[PyProof.Rows.assign_Tuple]
 refine kL (pK ?_)
 unfold unpack
 rw[show(assignEach es X.env).length=its.toArray.size by simp[hn,←hl,rv.length],hst]
 refine kL (dH (PySem.W.kun_itemsOf (I.ok.hd hc) p.isList λh' hx=>?_))
 have I1:Inv X pins σ H { s with heap:=h' }:=I.kept (t':=s.toks) λb o e=>hx b o (m9 (kY e)) e
 exact h pins _ σ H xs _ Q I1 (by simpa using rv) hw
end L2
namespace W1
open PySem L2
noncomputable def rdy(ie:Int)(l:List Nat)(p:Option Nat):Bool:=decide ((l.length:Int)-(1+ie)>0)||(decide ((l.length:Int)-(1+ie)=0)&&p.isSome)
noncomputable abbrev tyL(m:CM)(q:QM)(b:Nat):List V:=[.int (b:Int),.int (q.lv.getD b 0),.int (m.cl.getD b 0),.int (q.bo.getD b 0)]
noncomputable def spcN(ie:Int)(l:List Nat)(P:Nat)(fi:List Int)(p:Option Nat):Int:=if 1+ie≤(l.length:Int)then(P:Int)else match p with|none=>0|some b=>(P:Int)-fi.getD b 0
noncomputable def yA(B P:Nat)(br:List Bool)(fi:List Int):List Nat:=(uD B br).filter λb=>decide (fi.getD b 0=(P:Int))
noncomputable def optN(ie:Int)(m:CM)(q:QM)(l:List Nat):List Nat:=((yA q.B q.P m.br q.fi).filter λb=>decide (q.lv.getD b 0≤spcN ie l q.P q.fi (jM q.B q.P m.br q.fi))).filter λb=>decide (q.lv.getD b 0<(q.P:Int))
noncomputable def qF1(q:QM)(r:Int×Nat×Int):QM:={ q with nx:=r.1 }.put (r.2.1 / q.P) (r.2.1%q.P) r.2.2
structure Fits(q:QM)(r:Int×Nat×Int):Prop where
 b:r.2.1 / q.P<q.B
 f:q.fi.getD (r.2.1 / q.P) 0=((r.2.1%q.P:Nat):Int)
 s:q.nx≤r.1
 n0:0≤r.2.2
 n1:r.2.2≤64
section
variable{q q0:QM}{r:Int×Nat×Int}{R:List (Int×Nat×Int)}
theorem Fits.ok(h:Fits q r)(ok:q.Ok):(qF1 q r).Ok:=by
 have okn:QM.Ok { q with nx:=r.1 }:={ ok with }
 exact okn.put h.b (Nat.mod_lt _ ok.p1) h.f h.n0 h.n1
structure QS(q:QM):Prop where
 ok:q.Ok
 lv:∀b,b<q.B→q.lv.getD b 0=(cntB q.P q.V b:Nat)
theorem qC3(h:QS q)(n:Int){b:Nat}(hb:b<q.B):(BM.lvF q.P q.V q.lv n).getD b 0=(cntB q.P (jE q.V n) b:Nat):=by
 unfold BM.lvF
 rcases QM.find_V (m:=q) (n:=n)with⟨p,hp,e⟩|⟨no,e⟩
 ·rw[e]
  obtain⟨c,hc,ec⟩:=h.ok.blk _ hp
  have ec:p / (q.P:Int)=(c:Int):=ec
  have cd:=qET (P:=q.P) (b:=b) h.ok.nd hp
  show(q.lv.set (p / (q.P:Int)).toNat (q.lv.getD (p / (q.P:Int)).toNat 0-1)).getD b 0=_
  rw[ec,kW,qZ]
  rw[ec]at cd
  have e1:=h.lv b hb
  by_cases z:c=b
  ·subst z
   rw[kD rfl]at cd
   rw[kD ⟨rfl,by rw[h.ok.ll];exact hb⟩,e1]
   lia
  ·rw[kB (by lia)]at cd
   rw[kB (λy=>z y.1),e1]
   lia
 ·rw[e,h.lv b hb,show jE q.V n=q.V from rH.mpr λy hy=>hG (no y hy)]
theorem Fits.qs(h:Fits q r)(qs:QS q):QS (qF1 q r):=by
 refine⟨h.ok qs.ok,λb hb=>?_⟩
 have hb:b<q.B:=hb
 have lc:=qC3 qs r.2.2 hb
 show((BM.lvF q.P q.V q.lv r.2.2).set (r.2.1 / q.P) ((BM.lvF q.P q.V q.lv r.2.2).getD (r.2.1 / q.P) 0+1)).getD b 0=((cntB q.P (jE q.V r.2.2++[(r.2.2,((r.2.1 / q.P*q.P+r.2.1%q.P:Nat):Int))]) b:Nat):Int)
 have ep:r.2.1 / q.P*q.P+r.2.1%q.P=r.2.1:=by
  rw[wP]
  exact Nat.div_add_mod _ _
 have ea:cntB q.P (jE q.V r.2.2++[(r.2.2,(r.2.1:Int))]) b=cntB q.P (jE q.V r.2.2) b+(if r.2.1 / q.P=b then 1 else 0):=by
  unfold cntB
  rw[List.countP_append,List.countP_singleton,←dC]
  by_cases z:r.2.1 / q.P=b
  ·rw[kD z,z,hG rfl]
   rfl
  ·rw[kB z,hI (by lia)]
   rfl
 rw[ep,ea,qZ]
 by_cases z:r.2.1 / q.P=b
 ·rw[kD z,kD ⟨z,by rw[QM.lvF_len,qs.ok.ll];lia⟩,z,lc]
  lia
 ·rw[kB z,kB (λy=>z y.1),lc]
  lia
end
noncomputable def OneP(B P:Nat)(fi:List Int):Prop:=∀b c,b<B→c<B→jP P fi b=true→jP P fi c=true→b=c
noncomputable def clr1(P:Nat)(fi:List Int)(b:Nat):Nat:=P-(fi.getD b 0).toNat
noncomputable def rm(B P:Nat)(fi:List Int):Nat:=((List.range B).map (clr1 P fi)).sum
theorem qC4{L:List Nat}{f g:Nat→Nat}:(L.map λb=>f b+g b).sum=(L.map f).sum+(L.map g).sum:=by
 induction L with
 |nil=>rfl
 |cons x L ih=>
  rw[mE,mE,mE,dJ,dJ,dJ,ih]
  lia
theorem q0N{L:List Nat}{f g:Nat→Nat}(h:∀b∈L,f b=g b):(L.map f).sum=(L.map g).sum:=by rw[gN h]
theorem qJK{L:List Nat}{p:Nat→Bool}{c:Nat}:(L.map λb=>if p b=true then c else 0).sum=(L.filter p).length*c:=by
 induction L with
 |nil=>rw[cQ];simp
 |cons x L ih=>
  rw[mE,dJ,ih,mW]
  by_cases h:p x=true
  ·rw[kD h,kD h,mM,rA]
   lia
  ·rw[kB h,kB h]
   lia
theorem qC5{L:List Nat}{p:Nat→Bool}{h:Nat→Nat}(nd:L.Nodup)(one:∀a∈L,∀b∈L,p a=true→p b=true→a=b):(L.map λb=>if p b=true then h b else 0).sum=match L.find? p with|some b=>h b|none=>0:=by
 induction L with
 |nil=>rfl
 |cons x L ih=>
  obtain⟨n1,n2⟩:=m7.mp nd
  rw[mE,dJ,dN]
  by_cases hx:p x=true
  ·rw[hx,kD rfl]
   have:(L.map λb=>if p b=true then h b else 0).sum=(L.map λ_=>0).sum:=q0N λb hb=>by
    rw[kB]
    intro z
    exact n1 (by rw[one x (by simp) b (hU _ hb) hx z];exact hb)
   rw[this]
   have z:(L.map λ_=>0).sum=0:=by
    clear this ih nd one n1 n2
    induction L with
    |nil=>rfl
    |cons y L ih=>rw[mE,dJ,ih]
   rw[z]
   rfl
  ·rw[kB hx]
   rw[Bool.not_eq_true]at hx
   rw[hx]
   rw[pZ]
   exact ih n2 λa ha b hb=>one a (hU _ ha) b (hU _ hb)
section
variable{B P:Nat}{fi cl:List Int}{l:List Nat}
noncomputable abbrev noB(B:Nat):List Bool:=List.replicate B false
theorem qKT(on:OneP B P fi)(wr:∀b,b<B→∃f:Nat,fi.getD b 0=(f:Int)∧f≤P)(p1:1≤P)(hl:FreeIs B (noB B) cl fi l):
 rm B P fi=l.length*P+(match jM B P (noB B) fi with|some b=>P-(fi.getD b 0).toNat|none=>0):=by
 have h1:l.length=((List.range B).filter λb=>decide (fi.getD b 0=0)).length:=by
  rw[hl.pm.length_eq]
  unfold yI
  rw[yD]
 unfold rm jM
 rw[yD,h1,←qJK,←qC5 (p:=jP P fi) (h:=λb=>P-(fi.getD b 0).toNat) d8 (λa ha b hb=>on a b (mL.mp ha) (mL.mp hb)),←qC4]
 refine q0N λb hb=>?_
 obtain⟨f,ef,hf⟩:=wr b (mL.mp hb)
 unfold clr1 jP
 rw[ef,kW]
 by_cases z:f=0
 ·subst z
  simp
 ·by_cases y:f<P
  ·rw[kB (by simp;lia),hG (by lia),hG (by lia)]
   simp
  ·rw[kB (by simp;lia),hI (show ¬(f:Int)<(P:Int) by lia)]
   simp
   lia
theorem qA3{b:Nat}(h:jM B P (noB B) fi=some b):b<B∧0<fi.getD b 0∧fi.getD b 0<(P:Int):=by
 have:=zH h
 exact⟨this.1,this.2.2⟩
theorem q24(on:OneP B P fi)(wr:∀b,b<B→∃f:Nat,fi.getD b 0=(f:Int)∧f≤P)(p1:1≤P)(hl:FreeIs B (noB B) cl fi l):
 (jM B P (noB B) fi=none∧rm B P fi=l.length*P)∨∃b e,jM B P (noB B) fi=some b∧1≤e∧e<P∧rm B P fi=l.length*P+e∧fi.getD b 0+(e:Int)=(P:Int):=by
 have h:=qKT on wr p1 hl
 cases hp:jM B P (noB B) fi with
 |none=>
  rw[hp]at h
  exact .inl ⟨rfl,h⟩
 |some b=>
  rw[hp]at h
  obtain⟨a,c,d⟩:=qA3 hp
  exact .inr ⟨b,P-(fi.getD b 0).toNat,rfl,by lia,by lia,h,by lia⟩
theorem qGT{ie:Nat}(on:OneP B P fi)(wr:∀b,b<B→∃f:Nat,fi.getD b 0=(f:Int)∧f≤P)(p1:1≤P)(hl:FreeIs B (noB B) cl fi l):
 rdy (ie:Int) l (jM B P (noB B) fi)=decide ((1+ie)*P<rm B P fi):=by
 have key:∀e,e<P→((1+ie)*P<l.length*P+e↔(1+ie<l.length∨(1+ie=l.length∧0<e))):=λe he=>by
  rcases Nat.lt_trichotomy (1+ie) l.length with h|h|h
  ·have:=gA P (show 1+ie+1≤l.length from h)
   rw[rA]at this
   exact⟨λ_=>.inl h,λ_=>by lia⟩
  ·rw[h]
   exact⟨λz=>.inr ⟨rfl,by lia⟩,λz=>by lia⟩
  ·have:=gA P (show l.length+1≤1+ie from h)
   rw[rA]at this
   exact⟨λz=>by lia,λz=>by lia⟩
 unfold rdy
 rcases q24 on wr p1 hl with⟨h1,h2⟩|⟨b,e,h1,e1,e2,h2,_⟩
 ·rw[h1,h2]
  have k:=key 0 (by lia)
  rw[c7]at k
  by_cases z:(1+ie)*P<l.length*P
  ·rw[hG z,hG (show(l.length:Int)-(1+(ie:Int))>0 by rcases k.mp z with h|h<;>lia)]
   rfl
  ·rw[hI z,hI (show ¬(l.length:Int)-(1+(ie:Int))>0 by intro y;exact z (k.mpr (.inl (by lia))))]
   simp
 ·rw[h1,h2]
  have k:=key e e2
  by_cases z:(1+ie)*P<l.length*P+e
  ·rw[hG z]
   rcases k.mp z with h|h
   ·rw[hG (show(l.length:Int)-(1+(ie:Int))>0 by lia)]
    rfl
   ·rw[hG (show(l.length:Int)-(1+(ie:Int))=0 by lia)]
    simp
  ·rw[hI z,hI (show ¬(l.length:Int)-(1+(ie:Int))>0 by intro y;exact z (k.mpr (.inl (by lia)))),hI (show ¬(l.length:Int)-(1+(ie:Int))=0 by intro y;exact z (k.mpr (.inr ⟨by lia,by lia⟩)))]
   rfl
theorem q84(on:OneP B P fi)(wr:∀b,b<B→∃f:Nat,fi.getD b 0=(f:Int)∧f≤P)(p1:1≤P)(hl:FreeIs B (noB B) cl fi l)(h:0<rm B P fi):∃b,q0M B P (noB B) fi l=some b∧((jM B P (noB B) fi=some b)∨(jM B P (noB B) fi=none∧fi.getD b 0=0)):=by
 unfold q0M
 rcases q24 on wr p1 hl with⟨h1,h2⟩|⟨b,e,h1,_⟩
 ·rw[h1]
  cases l with
  |nil=>rw[h2]at h;simp at h
  |cons x l=>exact⟨x,rfl,.inr ⟨rfl,(hl.mem (by simp)).2.2⟩⟩
 ·rw[h1]
  exact⟨b,rfl,.inl rfl⟩
theorem qGU{L:List Nat}{f g:Nat→Nat}{b:Nat}(nd:L.Nodup)(hb:b∈L)(h:∀c∈L,c≠b→f c=g c):(L.map f).sum+g b=(L.map g).sum+f b:=by
 induction L with
 |nil=>exact absurd hb (by simp)
 |cons x L ih=>
  obtain⟨n1,n2⟩:=m7.mp nd
  rw[mE,mE,dJ,dJ]
  rcases kI.mp hb with rfl|hb
  ·rw[q0N (L:=L) (f:=f) (g:=g) λc hc=>h c (hU _ hc) λz=>n1 (by rw[←z];exact hc)]
   lia
  ·have:=ih n2 hb λc hc=>h c (hU _ hc)
   have e:=h x (by simp) λz=>n1 (by rw[z];exact hb)
   lia
theorem qF2{b:Nat}{v:Int}(hb:b<B)(lf:fi.length=B):rm B P (fi.set b v)+(P-(fi.getD b 0).toNat)=rm B P fi+(P-v.toNat):=by
 have:=qGU (L:=List.range B) (f:=clr1 P (fi.set b v)) (g:=clr1 P fi) (b:=b) d8 (mL.mpr hb) λc _ hc=>by
  unfold clr1
  rw[qZ,kB (λz=>hc z.1.symm)]
 unfold rm
 have e:clr1 P (fi.set b v) b=P-v.toNat:=by
  unfold clr1
  rw[qZ,kD ⟨rfl,by lia⟩]
 rw[e]at this
 exact this
theorem qJL{b f:Nat}(hb:b<B)(lf:fi.length=B)(ef:fi.getD b 0=(f:Int))(hf:f<P):rm B P (fi.set b (fi.getD b 0+1))+1=rm B P fi:=by
 have:=qF2 (P:=P) (v:=fi.getD b 0+1) hb lf
 rw[ef]at this ⊢
 have e1:((f:Int)).toNat=f:=kW f
 have e2:((f:Int)+1).toNat=f+1:=by lia
 rw[e1,e2]at this
 lia
theorem qGV{b:Nat}(hb:b<B)(lf:fi.length=B)(ef:fi.getD b 0=(P:Int)):rm B P (fi.set b 0)=rm B P fi+P:=by
 have:=qF2 (P:=P) (v:=0) hb lf
 rw[ef]at this
 have e1:((P:Int)).toNat=P:=kW P
 rw[e1]at this
 simpa using this
theorem qGW{b:Nat}(on:OneP B P fi)(hb:b<B)(lf:fi.length=B)(h:(jM B P (noB B) fi=some b)∨(jM B P (noB B) fi=none∧fi.getD b 0=0)):OneP B P (fi.set b (fi.getD b 0+1)):=by
 have other:∀c,c<B→c≠b→jP P (fi.set b (fi.getD b 0+1)) c=true→False:=λc hc nc hp=>by
  have hp':jP P fi c=true:=by
   unfold jP at hp ⊢
   rw[qZ,kB (λz=>nc z.1.symm)]at hp
   exact hp
  rcases h with h|⟨h,_⟩
  ·have h2:jP P fi b=true:=dO h
   exact nc (on c b hc hb hp' h2)
  ·have:=dQ.mp h c (by rw[yD];exact mL.mpr hc)
   exact this hp'
 intro c d hc hd pc pd
 by_cases e1:c=b
 ·by_cases e2:d=b
  ·rw[e1,e2]
  ·exact(other d hd e2 pd).elim
 ·exact(other c hc e1 pc).elim
theorem qF3{b:Nat}(on:OneP B P fi):OneP B P (fi.set b 0):=by
 have old:∀c,c<B→jP P (fi.set b 0) c=true→jP P fi c=true:=λc hc hp=>by
  unfold jP at hp ⊢
  rw[qZ]at hp
  split at hp
  ·simp at hp
  ·exact hp
 exact λc d hc hd pc pd=>on c d hc hd (old c hc pc) (old d hd pd)
theorem qGX{V:Mp}:∀{L:List Nat},L.Nodup→(L.map (cntB P V)).sum≤V.length:=by
 induction V with
 |nil=>
  intro L _
  have:(L.map (cntB P [])).sum=(L.map λ_=>0).sum:=q0N λb _=>rfl
  rw[this]
  clear this
  induction L with
  |nil=>exact kM _
  |cons x L ih=>
   rename_i h
   rw[mE,dJ]
   have:=ih (m7.mp h).2
   lia
 |cons x V ih=>
  intro L nd
  have e:(L.map (cntB P (x::V))).sum=(L.map (cntB P V)).sum+(L.map λb=>if(λb:Nat=>decide (x.2 / (P:Int)=(b:Int))) b=true then 1 else 0).sum:=by
   rw[←qC4]
   refine q0N λb _=>?_
   unfold cntB
   rw[pJ]
  rw[e,qC5 (h:=λ_=>1) nd λa _ b _ ha hb=>by
   have h1:=mF ha
   have h2:=mF hb
   lia]
  have:=ih nd
  rw[mM]
  cases L.find? (λb:Nat=>decide (x.2 / (P:Int)=(b:Int)))with
  |none=>show _ +0≤_;lia
  |some b=>show _ +1≤_;lia
theorem qF4{L:List Nat}{f:Nat→Nat}{k:Nat}(h:∀b∈L,k≤f b):L.length*k≤(L.map f).sum:=by
 induction L with
 |nil=>simp
 |cons x L ih=>
  rw[mM,mE,dJ,rA]
  have:=ih λb hb=>h b (hU _ hb)
  have:=h x (by simp)
  lia
theorem qA4(on:OneP B P fi)(wr:∀b,b<B→∃f:Nat,fi.getD b 0=(f:Int)∧f≤P)(p1:1≤P)(hl:FreeIs B (noB B) cl fi l)(hp:jM B P (noB B) fi=none):(yA B P (noB B) fi).length+l.length=B:=by
 have h1:l.length=((List.range B).filter λb=>decide (fi.getD b 0=0)).length:=by
  rw[hl.pm.length_eq]
  unfold yI
  rw[yD]
 have h2:yA B P (noB B) fi=(List.range B).filter λb=>!decide (fi.getD b 0=0):=by
  unfold yA
  rw[yD]
  refine wD λb hb=>?_
  obtain⟨f,ef,hf⟩:=wr b (mL.mp hb)
  have np:=dQ.mp hp b (by rw[yD];exact hb)
  unfold jP at np
  rw[ef]at np ⊢
  by_cases z:f=0
  ·subst z
   rw[hG (show((0:Nat):Int)=0 from rfl),hI (by lia)]
   rfl
  ·rw[hI (show ¬(f:Int)=0 by lia)]
   by_cases y:f<P
   ·exact(np (by rw[hG (show(0:Int)<(f:Int) by lia),hG (show(f:Int)<(P:Int) by lia)];rfl)).elim
   ·exact hG (by lia)
 rw[h1,h2]
 have e:∀{L:List Nat} {p:Nat→Bool},(L.filter λb=>!p b).length+(L.filter p).length=L.length:=by
  intro L p
  induction L with
  |nil=>rfl
  |cons x L ih=>
   rw[mW,mW]
   cases p x<;>simp<;>lia
 have:=e (L:=List.range B) (p:=λb=>decide (fi.getD b 0=0))
 rw[mG]at this
 exact this
end
section
variable{q:QM}{m:CM}{l:List Nat}
theorem qF5{b f:Nat}{n:Int}(hf:f<q.P):qF1 q (q.nx,b*q.P+f,n)=q.put b f n:=by
 show({ q with nx:=q.nx }:QM).put ((b*q.P+f) / q.P) ((b*q.P+f)%q.P) n=_
 rw[yB hf,wP,pP,cH hf]
theorem QS.put{b f:Nat}{n:Int}(h:QS q)(hb:b<q.B)(hf:f<q.P)(ef:q.fi.getD b 0=(f:Int))(n0:0≤n)(n1:n≤64):QS (q.put b f n):=by
 have ft:Fits q (q.nx,b*q.P+f,n):=by
  refine⟨?_,?_,gP _,n0,n1⟩
  ·show(b*q.P+f) / q.P<q.B
   rw[yB hf]
   exact hb
  ·show q.fi.getD ((b*q.P+f) / q.P) 0=(((b*q.P+f)%q.P:Nat):Int)
   rw[yB hf,ef,wP,pP,cH hf]
 have:=ft.qs h
 rw[qF5 hf]at this
 exact this
theorem yS{b f:Nat}{n:Int}{x:Int×Int}:x∈(q.put b f n).V↔x=(n,((b*q.P+f:Nat):Int))∨(x∈q.V∧x.1≠n):=by
 show x∈jE q.V n++[(n,((b*q.P+f:Nat):Int))]↔_
 rw[gO,j0,kE]
 exact⟨λh=>h.symm,λh=>h.symm⟩
theorem QS.forget(h:QS q)(n:Int):QS (q.forget n):=⟨h.ok.forget n,λb hb=>qC3 h n hb⟩
noncomputable def QM.emptied(q:QM)(b:Nat):QM:={ q with fi:=q.fi.set b 0,bo:=q.bo.set b 0 }
theorem QS.emptied(h:QS q)(b:Nat):QS (q.emptied b):=by
 refine⟨{ h.ok with lf:=by show(q.fi.set b 0).length=q.B;rw[gD];exact h.ok.lf,lo:=by show(q.bo.set b 0).length=q.B;rw[gD];exact h.ok.lo,wr:=λc hc=>?_ },h.lv⟩
 show ∃f:Nat,(q.fi.set b 0).getD c 0=(f:Int)∧f≤q.P
 rw[qZ]
 split
 ·exact⟨0,rfl,mV _⟩
 ·exact h.ok.wr c hc
noncomputable def tlOf(m:CM)(q:QM)(b:Nat):Tl:=⟨(b:Int),q.lv.getD b 0,m.cl.getD b 0,q.bo.getD b 0⟩
theorem qF6{f:Tl→Int}{ts:List Tl}(h:ts≠[]):∃T∈ts,pk f ts=T.b∧∀o∈ts,f T≤f o:=by
 obtain⟨i,hi,hu,hn⟩:=q67 f ts h
 exact⟨ts[i],gG hi,qHQ hi hu hn,λo ho=>by have:=q5J.mp hu o ho;lia⟩
theorem qF7{ie:Nat}(h:QS q)(on:OneP q.B q.P q.fi)(br:m.br=noB q.B)(hl:FreeIs q.B (noB q.B) m.cl q.fi l)(hr:rm q.B q.P q.fi=(1+ie)*q.P)(hv:q.V.length<(q.B-(1+ie))*q.P):
 optN (ie:Int) m q l≠[]∧∀b∈optN (ie:Int) m q l,(∀c∈optN (ie:Int) m q l,q.lv.getD b 0≤q.lv.getD c 0)→cntB q.P q.V b*(q.B-(1+ie))≤q.V.length:=by
 have p1:=h.ok.p1
 have ll:jM q.B q.P (noB q.B) q.fi=none∧l.length=1+ie:=by
  rcases q24 on h.ok.wr p1 hl with⟨h1,h2⟩|⟨b,e,h1,e1,e2,h2,_⟩
  ·refine⟨h1,?_⟩
   rw[hr]at h2
   exact(sD (by lia) h2).symm
  ·exfalso
   rw[hr]at h2
   have k:(1+ie)*q.P%q.P=e:=by rw[h2,wP,pP,cH e2]
   rw[xS]at k
   lia
 have fl:=qA4 on h.ok.wr p1 hl ll.1
 have flC:(yA q.B q.P (noB q.B) q.fi).length=q.B-(1+ie):=by lia
 have hsp:spcN (ie:Int) l q.P q.fi (jM q.B q.P (noB q.B) q.fi)=(q.P:Int):=by
  unfold spcN
  rw[kD (by lia)]
 have ndF:(yA q.B q.P (noB q.B) q.fi).Nodup:=by
  unfold yA
  rw[yD]
  exact g9 _ d8
 have hB:∀b∈yA q.B q.P (noB q.B) q.fi,b<q.B:=λb hb=>by
  unfold yA at hb
  rw[yD]at hb
  exact mL.mp (mI.mp hb).1
 have memo:∀b,b∈optN (ie:Int) m q l↔b∈yA q.B q.P (noB q.B) q.fi∧cntB q.P q.V b<q.P:=λb=>by
  unfold optN
  rw[br,hsp,mI,mI,kX,kX]
  constructor
  ·rintro⟨⟨a,_⟩,c⟩
   rw[h.lv b (hB b a)]at c
   exact⟨a,by lia⟩
  ·rintro⟨a,c⟩
   rw[h.lv b (hB b a)]
   exact⟨⟨a,by lia⟩,by lia⟩
 have cs:=qGX (P:=q.P) (V:=q.V) ndF
 constructor
 ·intro z
  have:(yA q.B q.P (noB q.B) q.fi).length*q.P≤((yA q.B q.P (noB q.B) q.fi).map (cntB q.P q.V)).sum:=qF4 λb hb=>by
   refine dZ λy=>?_
   have:b∈optN (ie:Int) m q l:=(memo b).mpr ⟨hb,by lia⟩
   rw[z]at this
   cases this
  rw[flC]at this
  lia
 ·intro b hb hmin
  obtain⟨bF,bP⟩:=(memo b).mp hb
  have:(yA q.B q.P (noB q.B) q.fi).length*cntB q.P q.V b≤((yA q.B q.P (noB q.B) q.fi).map (cntB q.P q.V)).sum:=qF4 λc hc=>by
   by_cases y:cntB q.P q.V c<q.P
   ·have:=hmin c ((memo c).mpr ⟨hc,y⟩)
    rw[h.lv b (hB b bF),h.lv c (hB c hc)]at this
    lia
   ·lia
  rw[flC,wP]at this
  lia
end
theorem qJM{V:Mp}(nd:(V.map (·.1)).Nodup):V.length≤((V.map (·.1)).filter λn=>decide (n≠64)).length+1:=by
 have e:∀{L:List Int},L.Nodup→L.length≤(L.filter λn=>decide (n≠64)).length+1:=by
  intro L
  induction L with
  |nil=>intro _;exact mV _
  |cons y L ih=>
   intro nd
   obtain⟨n1,n2⟩:=m7.mp nd
   rw[mW]
   by_cases z:y=64
   ·rw[kB (by simp[z])]
    have:L.filter (λn=>decide (n≠64))=L:=rH.mpr λw hw=>hG λe=>n1 (by rw[z,←e];exact hw)
    rw[this]
    exact kM _
   ·rw[kD (hG z),mM,mM]
    have:=ih n2
    lia
 have:=e nd
 rw[hC]at this
 exact this
inductive Rl where
 |rk (f:Int→Int→Tl→Int)
 |win (m:Int)
 |fol (row:List Int) (u:Nat)
noncomputable def Rl.Ok:Rl→Prop
 | .win m=>1≤m
 |_=>True
noncomputable def leL(k:Tl→List Int)(a b:Tl):Bool:=!lx (k b) (k a)
noncomputable def winC(m:Int)(ts:List Tl):List Tl:=((ts.mergeSort (leL λT=>[T.bo,T.b])).take m.toNat).mergeSort (leL Tl.ns)
theorem qGY{m:Int}{ts:List Tl}:∀o∈winC m ts,o∈ts:=λo ho=>cU.mp (List.mem_of_mem_take (cU.mp ho))
theorem qGZ{m:Int}{ts:List Tl}(m1:1≤m)(h:ts≠[]):winC m ts≠[]:=λz=>by
 have:=gX List.length z
 unfold winC at this
 rw[nY,gJ,nY,pN]at this
 have:=List.length_pos_iff.mpr h
 lia
noncomputable def fo(row:List Int)(u:Nat)(ts:List Tl):Int:=match row[u]? with
 |some n=>if n∈ts.map Tl.b then n else(ts.map Tl.b).headD 0
 |none=>(ts.map Tl.b).headD 0
noncomputable def Rl.ch:Rl→Int→Int→List Tl→Int×Rl
 | .rk f,pg,nw,ts=>(pk (f pg nw) ts,.rk f)
 | .win m,_,_,ts=>(pk Tl.lv (winC m ts),.win m)
 | .fol row u,_,_,ts=>(fo row u ts,.fol row (min (u+1) row.length))
noncomputable def minF(cl:List Int):List Nat→Option Nat
 | []=>none
 |b::L=>match minF cl L with
  |none=>some b
  |some c=>if cl.getD c 0<cl.getD b 0 then some c else some b
noncomputable def spF(q:QM)(cl:List Int):Nat:=match(List.range q.B).find? (jP q.P q.fi)with
 |some b=>b
 |none=>(minF cl ((List.range q.B).filter λb=>decide (q.fi.getD b 0=0))).getD 0
section
variable{B P:Nat}{q:QM}{m:CM}{cl fi:List Int}{l:List Nat}
theorem q47:∀{L:List Nat},L.Pairwise (· < ·)→(minF cl L=none→L=[])∧∀b,minF cl L=some b→b∈L∧∀c∈L,lx (keyN cl c) (keyN cl b)=false
 | [],_=>⟨λ_=>rfl,λb h=>by cases h⟩
 |a::L,pw=>by
  obtain⟨p1,p2⟩:=gQ.mp pw
  obtain⟨h1,h2⟩:=q47 p2
  unfold minF
  cases z:minF cl L with
  |none=>
   have:=h1 z
   subst this
   refine⟨λy=>(by cases y),λb h=>?_⟩
   injection h with h
   subst h
   exact⟨by simp,λc hc=>by rw[kE.mp hc];exact q6B _⟩
  |some c=>
   obtain⟨g1,g2⟩:=h2 c z
   have hac:=p1 c g1
   dsimp only
   by_cases y:cl.getD c 0<cl.getD a 0
   ·rw[kD y]
    refine⟨λw=>(by cases w),λb h=>?_⟩
    injection h with h
    subst h
    refine⟨hU _ g1,λd hd=>?_⟩
    rcases kI.mp hd with e|e
    ·subst e
     unfold keyN lx
     rw[kB (by lia)]
     exact hI (by lia)
    ·exact g2 d e
   ·rw[kB y]
    refine⟨λw=>(by cases w),λb h=>?_⟩
    injection h with h
    subst h
    refine⟨by simp,λd hd=>?_⟩
    rcases kI.mp hd with e|e
    ·subst e
     exact q6B _
    ·refine qHT (b:=keyN cl c) ?_ (g2 d e)
     unfold keyN lx
     by_cases w:cl.getD c 0=cl.getD a 0
     ·rw[kD w]
      unfold lx
      rw[kB (by lia)]
      exact hI (by lia)
     ·rw[kB w]
      exact hI (by lia)
theorem qD9(hl:FreeIs B (noB B) cl fi l):l.head?=minF cl ((List.range B).filter λb=>decide (fi.getD b 0=0)):=by
 have pm:=hl.pm
 unfold yI at pm
 rw[yD]at pm
 have pw:((List.range B).filter λb=>decide (fi.getD b 0=0)).Pairwise (· < ·):=g9 _ rM
 obtain⟨h1,h2⟩:=q47 (cl:=cl) pw
 cases l with
 |nil=>
  rw[lS.mp pm]
  rfl
 |cons a r=>
  cases z:minF cl ((List.range B).filter λb=>decide (fi.getD b 0=0))with
  |none=>
   rw[h1 z]at pm
   have:=pm.length_eq
   cases this
  |some b=>
   obtain⟨g1,g2⟩:=h2 b z
   have so:=hl.so
   rw[mE]at so
   have so:=(gQ.mp so).1
   have hb:=pm.mem_iff.mpr g1
   have e:a=b:=by
    rcases kI.mp hb with e|e
    ·exact e.symm
    ·exact qGP (q6C _ _ (g2 a (pm.mem_iff.mp (by simp))) (so _ (kP.mpr ⟨b,e,rfl⟩)))
   rw[e]
   rfl
theorem qJN(on:OneP q.B q.P q.fi)(wr:∀b,b<q.B→∃f:Nat,q.fi.getD b 0=(f:Int)∧f≤q.P)(p1:1≤q.P)(hl:FreeIs q.B (noB q.B) cl q.fi l)(h:0<rm q.B q.P q.fi):q0M q.B q.P (noB q.B) q.fi l=some (spF q cl):=by
 obtain⟨b,hb,_⟩:=q84 on wr p1 hl h
 rw[hb]
 unfold q0M jM at hb
 unfold spF
 rw[yD]at hb
 cases z:(List.range q.B).find? (jP q.P q.fi)with
 |some c=>rw[z]at hb;exact hb.symm
 |none=>
  rw[z]at hb
  rw[←qD9 hl]
  have hb:l.head?=some b:=hb
  rw[hb]
  rfl
noncomputable def lvP(P b:Nat)(V:Mp):List (List Int):=(List.range P).filterMap λf=>(V.find? λy=>decide (y.2=((b*P+f:Nat):Int))).map λy=>[y.2,y.1]
theorem q32{P b:Nat}{V:Mp}(hP:1≤P)(pd:(V.map (·.2)).Nodup){k:List Int}:k∈lvP P b V↔∃y∈V,y.2 / (P:Int)=(b:Int)∧k=[y.2,y.1]:=by
 unfold lvP
 rw[rR]
 constructor
 ·rintro⟨f,hf,e⟩
  have hf:=mL.mp hf
  cases z:V.find? λy=>decide (y.2=((b*P+f:Nat):Int))with
  |none=>rw[z]at e;cases e
  |some y=>
   rw[z]at e
   have e1:=dY z
   have e2:y.2=((b*P+f:Nat):Int):=by simpa using dO z
   refine⟨y,e1,?_,(kN e).symm⟩
   rw[e2,←dC,yB hf]
 ·rintro⟨y,hy,hb,rfl⟩
  have h0:0≤y.2:=by
   refine dZ λz=>?_
   have:=Int.ediv_neg_of_neg_of_pos (a:=y.2) (b:=(P:Int)) (by lia) (by lia)
   lia
  have e:=Int.mul_ediv_add_emod y.2 (P:Int)
  have m0:=x8 y.2 (show(P:Int)≠0 by lia)
  have m1:=l7 y.2 (show(0:Int)<(P:Int) by lia)
  refine⟨(y.2%(P:Int)).toNat,mL.mpr (by lia),?_⟩
  have ey:y.2=((b*P+(y.2%(P:Int)).toNat:Nat):Int):=by
   rw[dX,gL,←hb,Int.mul_comm]
   lia
  cases z:V.find? λw=>decide (w.2=((b*P+(y.2%(P:Int)).toNat:Nat):Int))with
  |none=>exact absurd (hG ey) (dQ.mp z y hy)
  |some w=>
   have e1:=dY z
   have e2:w.2=((b*P+(y.2%(P:Int)).toNat:Nat):Int):=by simpa using dO z
   have:w=y:=by
    clear z
    induction V with
    |nil=>cases e1
    |cons v V ih=>
     rw[mE]at pd
     obtain⟨n1,n2⟩:=m7.mp pd
     rcases kI.mp e1 with a|a<;>rcases kI.mp hy with c|c
     ·rw[a,c]
     ·exact(n1 (by rw[←a,e2,←ey];exact kP.mpr ⟨y,c,rfl⟩)).elim
     ·exact(n1 (by rw[←c,ey,←e2];exact kP.mpr ⟨w,a,rfl⟩)).elim
     ·exact ih n2 c a
   rw[this]
   rfl
theorem qB7{P b:Nat}{V:Mp}:(lvP P b V).Pairwise λa c=>lx c a=false∧a≠c:=by
 unfold lvP
 refine List.pairwise_filterMap.mpr (rM.imp fun {f g} hfg k hk k' hk'=>?_)
 cases z:V.find? λy=>decide (y.2=((b*P+f:Nat):Int))with
 |none=>rw[z]at hk;cases hk
 |some y=>
  cases z':V.find? λy=>decide (y.2=((b*P+g:Nat):Int))with
  |none=>rw[z']at hk';cases hk'
  |some y'=>
   rw[z]at hk
   rw[z']at hk'
   have e2:y.2=((b*P+f:Nat):Int):=by simpa using dO z
   have e3:y'.2=((b*P+g:Nat):Int):=by simpa using dO z'
   obtain rfl:[y.2,y.1]=k:=kN hk
   obtain rfl:[y'.2,y'.1]=k':=kN hk'
   refine⟨?_,λw=>?_⟩
   ·unfold lx
    rw[kB (by lia)]
    exact hI (by lia)
   ·injection w with w _
    lia
theorem qH0{P b:Nat}{V:Mp}{rs:List (List Int)}(hP:1≤P)(pd:(V.map (·.2)).Nodup)(nd:rs.Nodup)(mm:∀k,k∈rs↔∃n p,k=[p,n]∧(n,p)∈V∧p / (P:Int)=(b:Int))(so:rs.Pairwise λa b=>lx b a=false):rs=lvP P b V:=by
 refine qEV (vW nd (qB7.imp λz=>z.2) λk=>?_) so (qB7.imp λz=>z.1)
 rw[mm,q32 hP pd]
 constructor
 ·rintro⟨n,p,rfl,h1,h2⟩
  exact⟨(n,p),h1,h2,rfl⟩
 ·rintro⟨y,h1,h2,rfl⟩
  exact⟨y.1,y.2,rfl,h1,h2⟩
end
structure XS where
 q:QM
 cl:List Int
 pg:Nat→Option (Int×Int)
 lf:Option Int
 rc:List (Str×Int×Bool)
structure Tm where
 ie:Nat
 sp:Int
 ev:Bool
noncomputable def mnL:List Int→Option Int
 | []=>none
 |a::l=>match mnL l with
  |none=>some a
  |some m=>some (if a≤m then a else m)
theorem qB8:∀{l:List Int},l≠[]→∃m,mnL l=some m∧m∈l∧∀a∈l,m≤a
 | [],h=>absurd rfl h
 | [a],_=>⟨a,rfl,by simp,λb hb=>by rw[kE.mp hb];exact gP _⟩
 |a::b::l,_=>by
  obtain⟨m,e,h1,h2⟩:=qB8 (l:=b::l) (by simp)
  unfold mnL
  rw[e]
  by_cases z:a≤m
  ·refine⟨a,by dsimp only;rw[kD z],by simp,λc hc=>?_⟩
   rcases kI.mp hc with e|hc
   ·rw[e];exact gP _
   ·exact c6 z (h2 c hc)
  ·refine⟨m,by dsimp only;rw[kB z],hU _ h1,λc hc=>?_⟩
   rcases kI.mp hc with e|hc
   ·rw[e];lia
   ·exact h2 c hc
namespace XS
variable(s:XS)
noncomputable def pb:Nat:=spF s.q s.cl
noncomputable def pf:Nat:=(s.q.fi.getD s.pb 0).toNat
noncomputable def np:Nat:=s.pb*s.q.P+s.pf
noncomputable def put(n v:Int):XS:=⟨s.q.put s.pb s.pf n,s.cl,λi=>if i=s.np then some (s.q.nx*128+n,v)else s.pg i,s.lf.map (· - 1),s.rc++[(Str.ofString "put",(s.np:Int),true)]⟩
noncomputable def wip(b:Nat):XS:=⟨s.q.emptied b,s.cl.set b (s.cl.getD b 0+1),λi=>if i / s.q.P=b then none else s.pg i,s.lf.map (· - 1),s.rc++[(Str.ofString "wipe",(b:Int),true)]⟩
noncomputable def forg(n:Int):XS:={ s with q:=s.q.forget n }
noncomputable def rmX:Nat:=rm s.q.B s.q.P s.q.fi
noncomputable def hl:List Int:=((s.q.V.map (·.1)).filter λn=>decide (n≠64)).mergeSort λa b=>decide (a≤b)
noncomputable def bits(ns:List Int):Int:=((orB (ns.map Int.toNat) 0:Nat):Int)
noncomputable def val(p n:Int):Int:=if n=64 then bits s.hl else((s.pg p.toNat).getD (0,0)).2
noncomputable def mvs:List (List Int)→XS→XS×Option (List (List Int))
 | [],s=>(s,some [])
 |k::r,s=>if s.lf=some 0 then(s,none)else
  match mvs r (s.put (k.getD 1 0) (s.val (k.getD 0 0) (k.getD 1 0)))with
  |(s',none)=>(s',none)
  |(s',some ms)=>(s',some ([k.getD 1 0,k.getD 0 0,(s.np:Int)]::ms))
noncomputable def spc(k:Tm):Int:=if(1+k.ie)*s.q.P≤s.rmX then(s.q.P:Int)else(s.rmX:Int)-(k.ie*s.q.P:Nat)
noncomputable def ful(k:Tm):List Nat:=(List.range s.q.B).filter λb=>decide (s.q.fi.getD b 0=(s.q.P:Int))&&decide (s.q.lv.getD b 0≤s.spc k)
noncomputable def ded(k:Tm):List Nat:=(s.ful k).filter λb=>decide (s.q.lv.getD b 0<(s.q.P:Int))
noncomputable def lst:Int:=(mnL s.cl).getD 0
noncomputable def clb(k:Tm)(L:List Nat):List Nat:=L.filter λb=>decide (s.cl.getD b 0<s.lst+k.sp)
noncomputable def opt(k:Tm):List Nat:=if k.ev then s.clb k (s.ded k)else s.ded k
noncomputable def tl(b:Nat):Tl:=⟨(b:Int),s.q.lv.getD b 0,s.cl.getD b 0,s.q.bo.getD b 0⟩
noncomputable def ots(k:Tm):List Tl:=(s.opt k).map s.tl
noncomputable def chg(k:Tm):Option Nat:=minF s.cl (s.clb k (s.ful k))
noncomputable def rd(k:Tm):Bool:=decide ((1+k.ie)*s.q.P<s.rmX)
noncomputable def tk(k:Tm)(g:Rl):Option (Str×Nat×Rl):=
 if s.opt k=[]then(if k.ev then(s.chg k).map λb=>("even",b,g)else none)
 else some ("rule",(g.ch (s.q.P:Int) s.q.nx (s.ots k)).1.toNat,(g.ch (s.q.P:Int) s.q.nx (s.ots k)).2)
end XS
inductive Rf where
 |dark|room
structure Pa where
 why:Str
 ts:List Tl
 b:Nat
 mv:List (List Int)
structure Sx where
 s:XS
 g:Rl
 ps:List Pa
namespace Sx
noncomputable def room(k:Tm)(X:Sx):Sx×Except Rf Pa:=match X.s.tk k X.g with
 |none=>(X,.error .room)
 |some (y,b,g)=>match XS.mvs (lvP X.s.q.P b X.s.q.V) X.s with
  |(s,none)=>(⟨s,g,X.ps⟩,.error .dark)
  |(s,some ms)=>if s.lf=some 0 then(⟨s,g,X.ps⟩,.error .dark)else(⟨s.wip b,g,X.ps++[⟨y,X.s.ots k,b,ms⟩]⟩,.ok ⟨y,X.s.ots k,b,ms⟩)
noncomputable def rooms(k:Tm):Nat→Sx→Option (Sx×Except Rf Unit)
 |0,X=>if X.s.rd k then some (X,.ok ())else none
 |i+1,X=>if X.s.rd k then some (X,.ok ())else match X.room k with
  |(Y,.error e)=>some (Y,.error e)
  |(Y,.ok _)=>rooms k i Y
noncomputable def ask(k:Tm)(i:Nat)(X:Sx)(n v:Int):Option (Sx×Except Rf Nat):=match X.rooms k i with
 |none=>none
 |some (Y,.error e)=>some (Y,.error e)
 |some (Y,.ok _)=>if Y.s.lf=some 0 then some (Y,.error .dark)else some (⟨Y.s.put n v,Y.g,Y.ps⟩,.ok Y.s.np)
end Sx
structure WX(k:Tm)(s:XS):Prop where
 qs:QS s.q
 on:OneP s.q.B s.q.P s.q.fi
 lc:s.cl.length=s.q.B
 cr:∀b f:Nat,b<s.q.B→s.q.fi.getD b 0≤(f:Int)→f<s.q.P→s.pg (b*s.q.P+f)=none
 vl:∀y∈s.q.V,∃b f:Nat,∃v:Int×Int,b<s.q.B∧f<s.q.P∧y.2=((b*s.q.P+f:Nat):Int)∧(f:Int)<s.q.fi.getD b 0∧s.pg (b*s.q.P+f)=some v
 pd:(s.q.V.map (·.2)).Nodup
 c0:∀b,0≤s.cl.getD b 0∧s.cl.getD b 0≤(s.rc.length:Int)
 bo:∀b,0≤s.q.bo.getD b 0∧s.q.bo.getD b 0<s.q.nx
 nx:1≤s.q.nx
 sl:k.ie*s.q.P≤s.rmX
 l6:s.q.V.length<60
 l0:∀i,s.lf=some i→0≤i
theorem q6K{P b f c g:Nat}(hf:f<P)(hg:g<P)(e:b*P+f=c*P+g):b=c∧f=g:=by
 have h1:=yB (b:=b) hf
 have h2:=yB (b:=c) hg
 rw[e,h2]at h1
 subst h1
 exact⟨rfl,by lia⟩
theorem q0O{V:Mp}{n:Int}(nd:(V.map (·.1)).Nodup):(jE V n).length≤V.length∧∀p,(n,p)∈V→(jE V n).length+1=V.length:=by
 refine⟨mB _ _,λp h=>?_⟩
 induction V with
 |nil=>exact absurd h (by simp)
 |cons y V ih=>
  rw[mE]at nd
  obtain⟨n1,n2⟩:=m7.mp nd
  unfold jE
  rw[mW]
  rcases kI.mp h with e|h
  ·subst e
   rw[kB (by simp),mM]
   have:V.filter (λq=>decide (q.1≠n))=V:=rH.mpr λz hz=>hG λe=>n1 (kP.mpr ⟨z,hz,e⟩)
   rw[this]
  ·have ne:y.1≠n:=λe=>n1 (kP.mpr ⟨_,h,e.symm⟩)
   rw[kD (hG ne),mM,mM]
   have:=ih n2 h
   unfold jE at this
   lia
section
variable{k:Tm}{s:XS}
theorem WX.spot(h:WX k s)(hr:0<s.rmX):s.pb<s.q.B∧s.pf<s.q.P∧s.q.fi.getD s.pb 0=(s.pf:Int)∧((jM s.q.B s.q.P (noB s.q.B) s.q.fi=some s.pb)∨(jM s.q.B s.q.P (noB s.q.B) s.q.fi=none∧s.q.fi.getD s.pb 0=0))∧∀l,FreeIs s.q.B (noB s.q.B) s.cl s.q.fi l→q0M s.q.B s.q.P (noB s.q.B) s.q.fi l=some s.pb:=by
 have p1:=h.qs.ok.p1
 have sp:∀l,FreeIs s.q.B (noB s.q.B) s.cl s.q.fi l→q0M s.q.B s.q.P (noB s.q.B) s.q.fi l=some s.pb:=λl hl=>qJN h.on h.qs.ok.wr p1 hl hr
 obtain⟨l,hl⟩:=FreeIs.ex s.q.B (noB s.q.B) s.cl s.q.fi
 have hsp:=sp l hl
 obtain⟨b,hb,hc⟩:=q84 h.on h.qs.ok.wr p1 hl hr
 rw[hsp]at hb
 obtain rfl:=kN hb
 obtain⟨hB,_,f0,f1⟩:=qA1 hl p1 hsp
 have:(s.pf:Int)=s.q.fi.getD s.pb 0:=by unfold XS.pf;lia
 exact⟨hB,by lia,this.symm,hc,sp⟩
theorem q6L{b f:Nat}{n:Int}{q:QM}(lf:q.fi.length=q.B)(hb:b<q.B)(ef:q.fi.getD b 0=(f:Int))(c:Nat):(q.put b f n).fi.getD c 0=if b=c then(f:Int)+1 else q.fi.getD c 0:=by
 show(q.fi.set b (q.fi.getD b 0+1)).getD c 0=_
 rw[ef,qZ,lf]
 by_cases e:b=c
 ·rw[kD ⟨e,hb⟩,kD e]
 ·rw[kB (λz=>e z.1),kB e]
theorem WX.put(h:WX k s){n v:Int}(hr:k.ie*s.q.P<s.rmX)(n0:0≤n)(n1:n≤64)(hl:(∃p,(n,p)∈s.q.V)∨s.q.V.length<59)(dk:s.lf≠some 0):WX k (s.put n v)∧(s.put n v).rmX+1=s.rmX:=by
 obtain⟨hb,hf,ef,sp,_⟩:=h.spot (by lia)
 have okq:=h.qs.ok
 have gfi:∀c,(s.put n v).q.fi.getD c 0=if s.pb=c then(s.pf:Int)+1 else s.q.fi.getD c 0:=q6L okq.lf hb ef
 have rm1:(s.put n v).rmX+1=s.rmX:=qJL hb okq.lf ef hf
 refine⟨⟨h.qs.put hb hf ef n0 n1,qGW h.on hb okq.lf sp,h.lc,λc g hc hg hgP=>?_,λy hy=>?_,?_,λc=>?_,λc=>?_,?_,?_,?_,λi e=>?_⟩,rm1⟩
 ·have hgP:g<s.q.P:=hgP
  rw[gfi]at hg
  show(if c*s.q.P+g=s.np then some (s.q.nx*128+n,v)else s.pg (c*s.q.P+g))=none
  by_cases e:s.pb=c
  ·subst e
   rw[kD rfl]at hg
   rw[kB (by unfold XS.np;lia)]
   exact h.cr _ g hc (by lia) hgP
  ·rw[kB e]at hg
   rw[kB (λ(z:c*s.q.P+g=s.np)=>e (q6K hgP hf z).1.symm)]
   exact h.cr c g hc hg hgP
 ·rcases yS.mp hy with e|⟨hy,hne⟩
  ·rw[e]
   refine⟨s.pb,s.pf,_,hb,hf,rfl,?_,kD rfl⟩
   rw[gfi,kD rfl]
   lia
  ·obtain⟨c,g,w,a1,a2,a3,a4,a5⟩:=h.vl y hy
   refine⟨c,g,w,a1,a2,a3,?_,?_⟩
   ·rw[gfi]
    by_cases e:s.pb=c
    ·subst e;rw[kD rfl];lia
    ·rw[kB e];exact a4
   ·show(if c*s.q.P+g=s.np then some (s.q.nx*128+n,v)else s.pg (c*s.q.P+g))=some w
    rw[kB (λ(z:c*s.q.P+g=s.np)=>?_)]
    ·exact a5
    ·obtain⟨e1,e2⟩:=q6K a2 hf z
     rw[e1,ef]at a4
     lia
 ·show((jE s.q.V n++[(n,((s.pb*s.q.P+s.pf:Nat):Int))]).map (·.2)).Nodup
  rw[mJ]
  refine wC.mpr ⟨?_,by simp,λa ha c hc=>?_⟩
  ·exact pD (xT _ cK) h.pd
  ·obtain⟨y,hy,rfl⟩:=kP.mp ha
   have hc:c=((s.pb*s.q.P+s.pf:Nat):Int):=by simpa using hc
   rw[hc]
   intro z
   obtain⟨c',g,w,a1,a2,a3,a4,a5⟩:=h.vl y (j0.mp hy).1
   rw[a3]at z
   obtain⟨e1,e2⟩:=q6K a2 hf (by exact Int.ofNat.inj z)
   rw[e1,ef]at a4
   lia
 ·show 0≤s.cl.getD c 0∧s.cl.getD c 0≤((s.rc++[_]).length:Int)
  have:=h.c0 c
  rw[kZ,gB]
  lia
 ·show 0≤(if s.q.fi.getD s.pb 0=0 then s.q.bo.set s.pb s.q.nx else s.q.bo).getD c 0∧(if s.q.fi.getD s.pb 0=0 then s.q.bo.set s.pb s.q.nx else s.q.bo).getD c 0<s.q.nx+1
  have:=h.bo c
  have:=h.nx
  split
  ·rw[qZ]
   split<;>lia
  ·lia
 ·show 1≤s.q.nx+1
  have:=h.nx
  lia
 ·show k.ie*s.q.P≤(s.put n v).rmX
  lia
 ·show(jE s.q.V n++[_]).length<60
  rw[kZ,gB]
  obtain⟨d1,d2⟩:=q0O (V:=s.q.V) (n:=n) okq.nd
  have:=h.l6
  rcases hl with⟨p,hp⟩|hl
  ·have:=d2 p hp
   lia
  ·lia
 ·have e:s.lf.map (· - 1)=some i:=e
  cases z:s.lf with
  |none=>rw[z]at e;cases e
  |some j=>
   rw[z]at e
   have e:j-1=i:=kN e
   have:=h.l0 j z
   have:j≠0:=λy=>dk (by rw[z,y])
   lia
theorem WX.wip(h:WX k s){b:Nat}(hb:b<s.q.B)(ef:s.q.fi.getD b 0=(s.q.P:Int))(nl:∀y∈s.q.V,¬y.2 / (s.q.P:Int)=(b:Int))(dk:s.lf≠some 0):WX k (s.wip b)∧(s.wip b).rmX=s.rmX+s.q.P:=by
 have okq:=h.qs.ok
 have rm1:(s.wip b).rmX=s.rmX+s.q.P:=qGV hb okq.lf ef
 have gfi:∀c,(s.wip b).q.fi.getD c 0=if b=c then 0 else s.q.fi.getD c 0:=λc=>by
  show(s.q.fi.set b 0).getD c 0=_
  rw[qZ,okq.lf]
  by_cases e:b=c
  ·rw[kD ⟨e,hb⟩,kD e]
  ·rw[kB (λz=>e z.1),kB e]
 refine⟨⟨h.qs.emptied b,qF3 h.on,?_,λc g hc hg hgP=>?_,λy hy=>?_,h.pd,λc=>?_,λc=>?_,h.nx,?_,h.l6,λi e=>?_⟩,rm1⟩
 ·show(s.cl.set _ _).length=_
  rw[gD]
  exact h.lc
 ·show(if(c*s.q.P+g) / s.q.P=b then none else s.pg (c*s.q.P+g))=none
  have hgP:g<s.q.P:=hgP
  rw[yB hgP]
  by_cases e:c=b
  ·rw[kD e]
  ·rw[kB e]
   rw[gfi,kB (λz=>e z.symm)]at hg
   exact h.cr c g hc hg hgP
 ·obtain⟨c,g,w,a1,a2,a3,a4,a5⟩:=h.vl y hy
  have cb:c≠b:=λz=>nl _ hy (by rw[a3,←dC,yB a2,z])
  refine⟨c,g,w,a1,a2,a3,?_,?_⟩
  ·rw[gfi,kB (λz=>cb z.symm)]
   exact a4
  ·show(if(c*s.q.P+g) / s.q.P=b then none else s.pg (c*s.q.P+g))=_
   rw[yB a2,kB cb]
   exact a5
 ·show 0≤(s.cl.set b (s.cl.getD b 0+1)).getD c 0∧(s.cl.set b (s.cl.getD b 0+1)).getD c 0≤((s.rc++[_]).length:Int)
  have h1:=h.c0 c
  have h2:=h.c0 b
  rw[kZ,gB,qZ]
  split<;>lia
 ·show 0≤(s.q.bo.set b 0).getD c 0∧(s.q.bo.set b 0).getD c 0<s.q.nx
  have h1:=h.bo c
  have h2:=h.nx
  rw[qZ]
  split<;>lia
 ·show k.ie*s.q.P≤(s.wip b).rmX
  have:=h.sl
  lia
 ·have e:s.lf.map (· - 1)=some i:=e
  cases z:s.lf with
  |none=>rw[z]at e;cases e
  |some j=>
   rw[z]at e
   have e:j-1=i:=kN e
   have:=h.l0 j z
   have:j≠0:=λy=>dk (by rw[z,y])
   lia
theorem WX.forg(h:WX k s)(n:Int):WX k (s.forg n):=by
 refine⟨h.qs.forget n,h.on,h.lc,h.cr,λy hy=>h.vl y (j0.mp hy).1,?_,h.c0,h.bo,h.nx,h.sl,?_,h.l0⟩
 ·exact pD (xT _ cK) h.pd
 ·have:=(q0O (V:=s.q.V) (n:=n) h.qs.ok.nd).1
  have:=h.l6
  show(jE s.q.V n).length<60
  lia
end
theorem q8S{V:Mp}{n p p':Int}(nd:(V.map (·.1)).Nodup)(h:(n,p)∈V)(h':(n,p')∈V):p=p':=by
 induction V with
 |nil=>exact absurd h (by simp)
 |cons y V ih=>
  rw[mE]at nd
  obtain⟨n1,n2⟩:=m7.mp nd
  rcases kI.mp h with e|h<;>rcases kI.mp h' with e'|h'
  ·rw[←e]at e'
   injection e' with _ e'
   exact e'.symm
  ·exact(n1 (kP.mpr ⟨_,h',by rw[←e]⟩)).elim
  ·exact(n1 (kP.mpr ⟨_,h,by rw[←e']⟩)).elim
  ·exact ih n2 h h'
theorem q6M{P b:Nat}{V:Mp}:(lvP P b V).Nodup:=qB7.imp λz=>z.2
theorem q48{q:QM}{b:Nat}(h:QS q)(pd:(q.V.map (·.2)).Nodup)(hb:b<q.B):((lvP q.P b q.V).length:Int)=q.lv.getD b 0:=by
 rw[h.lv b hb]
 have nd:=h.ok.nd
 have:(lvP q.P b q.V).Perm ((q.V.filter λy=>decide (y.2 / (q.P:Int)=(b:Int))).map λy=>[y.2,y.1]):=vW q6M (g7.mpr (((g7.mp nd).imp fun {a c} hne z=>hne (by
  injection z with _ z
  injection z with z _)).filter _)) λk=>by
  rw[q32 h.ok.p1 pd,kP]
  constructor
  ·rintro⟨y,h1,h2,rfl⟩
   exact⟨y,mI.mpr ⟨h1,hG h2⟩,rfl⟩
  ·rintro⟨y,hy,rfl⟩
   obtain⟨a1,a2⟩:=mI.mp hy
   exact⟨y,a1,mF a2,rfl⟩
 rw[this.length_eq,hC]
 unfold cntB
 rw[wS]
structure MvI(k:Tm)(s0:XS)(b:Nat)(rs:List (List Int))(i:Nat)(s:XS)(ms:List (List Int)):Prop where
 w:WX k s
 e:XS.mvs rs s0=(match XS.mvs (rs.drop i) s with|(s',none)=>(s',none)|(s',some m)=>(s',some (ms++m)))
 l:ms.length=i
 rc:s.rc.length=s0.rc.length+i
 rm:s.rmX+i=s0.rmX
 eB:s.q.B=s0.q.B
 eP:s.q.P=s0.q.P
 ec:s.cl=s0.cl
 fb:s.q.fi.getD b 0=(s0.q.P:Int)
 fm:∀c,s0.q.fi.getD c 0≤s.q.fi.getD c 0∧(s0.q.fi.getD c 0=(s0.q.P:Int)→s.q.fi.getD c 0=(s0.q.P:Int))
 nm:∀n,(∃p,(n,p)∈s.q.V)↔∃p,(n,p)∈s0.q.V
 dr:∀kk∈rs.drop i,∃n p,kk=[p,n]∧(n,p)∈s.q.V∧p / (s0.q.P:Int)=(b:Int)
 dl:∀y∈s.q.V,y.2 / (s0.q.P:Int)=(b:Int)→[y.2,y.1]∈rs.drop i
 lV:s.q.V.length=s0.q.V.length
section
variable{k:Tm}{s0 s:XS}{b i:Nat}{ms:List (List Int)}
theorem MvI.zero(w:WX k s0)(fb:s0.q.fi.getD b 0=(s0.q.P:Int)):MvI k s0 b (lvP s0.q.P b s0.q.V) 0 s0 []:=by
 refine⟨w,?_,rfl,rfl,rfl,rfl,rfl,rfl,fb,λc=>⟨gP _,λz=>z⟩,λn=>aI,λkk hk=>?_,λy hy hb=>(q32 w.qs.ok.p1 w.pd).mpr ⟨y,hy,hb,rfl⟩,rfl⟩
 ·rw[List.drop_zero]
  cases XS.mvs (lvP s0.q.P b s0.q.V) s0 with
  |mk s' o=>cases o<;>rfl
 ·obtain⟨y,hy,hb,rfl⟩:=(q32 w.qs.ok.p1 w.pd).mp hk
  exact⟨y.1,y.2,rfl,hy,hb⟩
variable{rs:List (List Int)}
theorem MvI.at(h:MvI k s0 b rs i s ms)(hi:i<rs.length):∃n p,rs[i]=[p,n]∧(n,p)∈s.q.V∧0≤n∧n≤64:=by
 obtain⟨n,p,e1,e2,_⟩:=h.dr rs[i] (by rw[rZ hi];exact kU)
 have:=h.w.qs.ok.nm _ e2
 exact⟨n,p,e1,e2,this.1,this.2⟩
theorem MvI.dark(h:MvI k s0 b rs i s ms)(hi:i<rs.length)(dk:s.lf=some 0):XS.mvs rs s0=(s,none):=by
 rw[h.e,rZ hi]
 unfold XS.mvs
 rw[kD dk]
theorem MvI.fin(h:MvI k s0 b rs i s ms)(hi:i=rs.length):XS.mvs rs s0=(s,some ms)∧∀y∈s.q.V,¬y.2 / (s.q.P:Int)=(b:Int):=by
 subst hi
 refine⟨?_,λy hy z=>?_⟩
 ·rw[h.e,xU]
  show(s,some (ms++[]))=_
  rw[gK]
 ·have:=h.dl y hy (by rw[←h.eP];exact z)
  rw[xU]at this
  cases this
theorem MvI.step(h:MvI k s0 b rs i s ms)(nd:rs.Nodup)(hi:i<rs.length)(hr:k.ie*s0.q.P+rs.length≤s0.rmX)(dk:s.lf≠some 0){n p:Int}(er:rs[i]=[p,n]):
 MvI k s0 b rs (i+1) (s.put n (s.val p n)) (ms++[[n,p,(s.np:Int)]]):=by
 have dre:rs.drop i=[p,n]::rs.drop (i+1):=by rw[rZ hi,er]
 obtain⟨n',p',e0,hnp,hpb⟩:=h.dr [p,n] (by rw[dre];simp)
 obtain⟨rfl,rfl⟩:p=p'∧n=n':=by
  injection e0 with e1 e0
  injection e0 with e2 _
  exact⟨e1,e2⟩
 have nb:=h.w.qs.ok.nm _ hnp
 have rmE:=h.rm
 have hP:=h.eP
 have slk:k.ie*s.q.P<s.rmX:=by rw[hP];lia
 obtain⟨w',rm'⟩:=h.w.put (n:=n) (v:=s.val p n) slk nb.1 nb.2 (.inl ⟨p,hnp⟩) dk
 obtain⟨hb,hf,ef,_,_⟩:=h.w.spot (by lia)
 have gfi:∀c,(s.put n (s.val p n)).q.fi.getD c 0=if s.pb=c then(s.pf:Int)+1 else s.q.fi.getD c 0:=q6L h.w.qs.ok.lf hb ef
 have cb:s.pb≠b:=λz=>by
  rw[z,h.fb,←hP]at ef
  lia
 have newp:((s.np:Nat):Int) / (s0.q.P:Int)=(s.pb:Int):=by
  rw[←hP]
  unfold XS.np
  rw[←dC,yB hf]
 refine⟨w',?_,?_,?_,by lia,h.eB,h.eP,h.ec,?_,λc=>?_,λm=>?_,λkq hkq=>?_,λy hy hyb=>?_,?_⟩
 ·rw[h.e,dre]
  rw[XS.mvs,kB dk]
  show(match(match XS.mvs (rs.drop (i+1)) (s.put n (s.val p n))with|(s',none)=>(s',none)|(s',some m)=>(s',some ([n,p,(s.np:Int)]::m)))with|(s',none)=>(s',none)|(s',some m)=>(s',some (ms++m)))=_
  cases XS.mvs (rs.drop (i+1)) (s.put n (s.val p n))with
  |mk s' o=>
   cases o with
   |none=>rfl
   |some m=>
    show(s',some (ms++([n,p,(s.np:Int)]::m)))=(s',some ((ms++[[n,p,(s.np:Int)]])++m))
    rw[wA]
    rfl
 ·rw[kZ,h.l]
  rfl
 ·show(s.rc++[_]).length=_
  rw[kZ,h.rc]
  rfl
 ·rw[gfi,kB cb]
  exact h.fb
 ·obtain⟨m1,m2⟩:=h.fm c
  rw[gfi]
  by_cases e:s.pb=c
  ·subst e
   rw[kD rfl]
   refine⟨by lia,λz=>?_⟩
   have:=m2 z
   rw[ef,←hP]at this
   lia
  ·rw[kB e]
   exact⟨m1,m2⟩
 ·rw[←h.nm m]
  constructor
  ·rintro⟨p1,h1⟩
   rcases yS.mp h1 with e|⟨h1,_⟩
   ·cases e
    exact⟨p,hnp⟩
   ·exact⟨p1,h1⟩
  ·rintro⟨p1,h1⟩
   by_cases e:m=n
   ·exact⟨_,yS.mpr (.inl (by rw[e]))⟩
   ·exact⟨p1,yS.mpr (.inr ⟨h1,e⟩)⟩
 ·have hkq':kq∈rs.drop i:=by rw[dre];exact hU _ hkq
  obtain⟨n',p',rfl,h',hb'⟩:=h.dr kq hkq'
  refine⟨n',p',rfl,yS.mpr (.inr ⟨h',λe=>?_⟩),hb'⟩
  have e:n'=n:=e
  subst e
  have:=q8S h.w.qs.ok.nd h' hnp
  subst this
  have nn:=nd
  rw[←nZ i rs,dre]at nn
  have:=(wC.mp nn).2.1
  exact(m7.mp this).1 hkq
 ·rcases yS.mp hy with e|⟨hy,hne⟩
  ·rw[e]at hyb
   have hyb:((s.np:Nat):Int) / (s0.q.P:Int)=(b:Int):=hyb
   rw[newp]at hyb
   exact(cb (by lia)).elim
  ·have:=h.dl y hy hyb
   rw[dre]at this
   rcases kI.mp this with e|e
   ·injection e with _ e
    injection e with e _
    exact(hne e).elim
   ·exact e
 ·show(jE s.q.V n++[_]).length=_
  rw[kZ,gB,(q0O (V:=s.q.V) (n:=n) h.w.qs.ok.nd).2 p hnp]
  exact h.lV
structure Mvd(k:Tm)(s0:XS)(b:Nat)(s:XS)(n:Nat):Prop where
 w:WX k s
 rc:s.rc.length=s0.rc.length+n
 rm:s.rmX+n=s0.rmX
 eB:s.q.B=s0.q.B
 eP:s.q.P=s0.q.P
 ec:s.cl=s0.cl
 fb:s.q.fi.getD b 0=(s0.q.P:Int)
 fm:∀c,s0.q.fi.getD c 0≤s.q.fi.getD c 0∧(s0.q.fi.getD c 0=(s0.q.P:Int)→s.q.fi.getD c 0=(s0.q.P:Int))
 nm:∀n,(∃p,(n,p)∈s.q.V)↔∃p,(n,p)∈s0.q.V
 lV:s.q.V.length=s0.q.V.length
 lb:b<s0.q.B→s.q.lv.getD b 0+n=(lvP s0.q.P b s0.q.V).length
theorem MvI.mvd(h:MvI k s0 b (lvP s0.q.P b s0.q.V) i s ms)(hi:i≤(lvP s0.q.P b s0.q.V).length):Mvd k s0 b s i:=by
 refine⟨h.w,h.rc,h.rm,h.eB,h.eP,h.ec,h.fb,h.fm,h.nm,h.lV,λhb=>?_⟩
 rw[←q48 h.w.qs h.w.pd (by rw[h.eB];exact hb)]
 have:(lvP s.q.P b s.q.V).Perm ((lvP s0.q.P b s0.q.V).drop i):=vW q6M (pD (List.drop_sublist _ _) q6M) λk=>by
  rw[q32 h.w.qs.ok.p1 h.w.pd,h.eP]
  constructor
  ·rintro⟨y,h1,h2,rfl⟩
   exact h.dl y h1 h2
  ·intro hk
   obtain⟨n,p,rfl,h1,h2⟩:=h.dr k hk
   exact⟨_,h1,h2,rfl⟩
 rw[this.length_eq,List.length_drop]
 lia
end
section
variable{k:Tm}{s:XS}{l:List Nat}{m:CM}
theorem qJO(h:WX k s)(hl:FreeIs s.q.B (noB s.q.B) s.cl s.q.fi l):spcN (k.ie:Int) l s.q.P s.q.fi (jM s.q.B s.q.P (noB s.q.B) s.q.fi)=s.spc k:=by
 have p1:=h.qs.ok.p1
 have sl:=h.sl
 unfold spcN XS.spc
 unfold XS.rmX at sl ⊢
 rcases q24 h.on h.qs.ok.wr p1 hl with⟨h1,h2⟩|⟨b,e,h1,e1,e2,h2,e3⟩
 ·rw[h2]at sl
  rw[h1,h2]
  by_cases z:1+k.ie≤l.length
  ·rw[kD (by lia),kD (gA _ z)]
  ·have le:l.length=k.ie:=by
    have:¬l.length<k.ie:=λy=>by
     have:=gA s.q.P (show l.length+1≤k.ie by lia)
     rw[rN,rO]at this
     lia
    lia
   rw[kB (by lia),kB (by rw[le,rN,rO];lia),le]
   show(0:Int)=_
   lia
 ·rw[h2]at sl
  rw[h1,h2]
  by_cases z:1+k.ie≤l.length
  ·have:=gA s.q.P z
   rw[kD (by lia),kD (by lia)]
  ·have le:l.length=k.ie:=by
    have:¬l.length<k.ie:=λy=>by
     have:=gA s.q.P (show l.length+1≤k.ie by lia)
     rw[rN,rO]at this
     lia
    lia
   rw[kB (by lia),kB (by rw[le,rN,rO];lia),le]
   show(s.q.P:Int)-s.q.fi.getD b 0=_
   lia
theorem qJP(h:WX k s)(hl:FreeIs s.q.B (noB s.q.B) s.cl s.q.fi l):((yA s.q.B s.q.P (noB s.q.B) s.q.fi).filter λb=>decide (s.q.lv.getD b 0≤spcN (k.ie:Int) l s.q.P s.q.fi (jM s.q.B s.q.P (noB s.q.B) s.q.fi)))=s.ful k:=by
 unfold yA XS.ful
 rw[yD,qJO h hl,List.filter_filter]
 refine wD λb _=>?_
 rw[Bool.and_comm]
theorem qF8(h:WX k s)(br:m.br=noB s.q.B)(hl:FreeIs s.q.B (noB s.q.B) s.cl s.q.fi l):optN (k.ie:Int) m s.q l=s.ded k:=by
 unfold optN XS.ded
 rw[br,qJP h hl]
theorem qKU(e:m.cl=s.cl):tlOf m s.q=s.tl:=by
 funext b
 unfold tlOf XS.tl
 rw[e]
theorem qJQ(h:WX k s)(hl:FreeIs s.q.B (noB s.q.B) s.cl s.q.fi l):rdy (k.ie:Int) l (jM s.q.B s.q.P (noB s.q.B) s.q.fi)=s.rd k:=qGT h.on h.qs.ok.wr h.qs.ok.p1 hl
structure Full(k:Tm)(s:XS)(c:Nat):Prop where
 b:c<s.q.B
 f:s.q.fi.getD c 0=(s.q.P:Int)
 l:s.q.lv.getD c 0≤s.spc k
theorem q5L{b:Nat}:b∈s.ful k↔Full k s b:=by
 unfold XS.ful
 rw[mI,mL,mU,kX,kX]
 exact⟨λ⟨a,b,c⟩=>⟨a,b,c⟩,λh=>⟨h.b,h.f,h.l⟩⟩
theorem q33{b:Nat}:b∈s.ded k↔Full k s b∧s.q.lv.getD b 0<(s.q.P:Int):=by
 unfold XS.ded
 rw[mI,q5L,kX]
theorem vG{b:Nat}:b∈s.opt k↔(Full k s b∧s.q.lv.getD b 0<(s.q.P:Int))∧(k.ev=true→s.cl.getD b 0<s.lst+k.sp):=by
 unfold XS.opt XS.clb
 cases k.ev with
 |false=>
  rw[kB (by decide),q33]
  exact⟨λh=>⟨h,λz=>by cases z⟩,λh=>h.1⟩
 |true=>
  rw[kD rfl,mI,q33,kX]
  exact⟨λh=>⟨h.1,λ_=>h.2⟩,λh=>⟨h.1,h.2 rfl⟩⟩
theorem Full.sp(h:WX k s){b:Nat}(f:Full k s b):k.ie*s.q.P+(lvP s.q.P b s.q.V).length≤s.rmX:=by
 have e:=q48 h.qs h.pd f.b
 have l:=f.l
 have sl:=h.sl
 have lb:=h.qs.lv b f.b
 have cn:(lvP s.q.P b s.q.V).length≤s.q.P:=by
  unfold lvP
  refine kO (dL _ _) ?_
  rw[mG]
  exact kM _
 unfold XS.spc at l
 split at l
 ·rename_i z
  rw[rN,rO]at z
  lia
 ·lia
theorem qH1{L:List Nat}:∀a∈L.map s.tl,∀c∈L.map s.tl,a.b=c.b→a=c:=λa ha c hc e=>by
 obtain⟨x,_,rfl⟩:=kP.mp ha
 obtain⟨y,_,rfl⟩:=kP.mp hc
 have e:(x:Int)=(y:Int):=e
 rw[show x=y by lia]
theorem qF9(h:WX k s){b:Nat}(hb:b<s.q.B):0≤s.q.lv.getD b 0∧s.q.lv.getD b 0≤(s.q.P:Int):=by
 have e:=q48 h.qs h.pd hb
 have cn:(lvP s.q.P b s.q.V).length≤s.q.P:=by
  unfold lvP
  refine kO (dL _ _) ?_
  rw[mG]
  exact kM _
 lia
theorem qKV(h:WX k s)(rc:s.rc.length<1000000){b:Nat}(hb:b<s.q.B):(s.tl b).Ok (s.q.P:Int) s.q.nx:=by
 have b2:=h.qs.ok.b2
 have c:=h.c0 b
 have d:=h.bo b
 have e:=qF9 h hb
 refine⟨?_,?_,e.1,e.2,c.1,?_,d.1,d.2⟩
 ·show(0:Int)≤(b:Int)
  lia
 ·show(b:Int)<16
  lia
 ·show s.cl.getD b 0<10 ^ 30
  have:(1000000:Int)<10 ^ 30:=by decide
  lia
theorem qJR(h:WX k s):(s.opt k).length≤16:=by
 have b2:=h.qs.ok.b2
 have:(s.ded k).length≤16:=by
  unfold XS.ded XS.ful
  refine kO (mB _ _) (kO (mB _ _) ?_)
  rw[mG]
  exact b2
 unfold XS.opt XS.clb
 split
 ·exact kO (mB _ _) this
 ·exact this
end
structure Kp(s s':XS):Prop where
 eB:s'.q.B=s.q.B
 eP:s'.q.P=s.q.P
 nm:∀n,(∃p,(n,p)∈s'.q.V)↔∃p,(n,p)∈s.q.V
 lV:s'.q.V.length=s.q.V.length
theorem Kp.refl{s:XS}:Kp s s:=⟨rfl,rfl,λ_=>aI,rfl⟩
theorem Kp.trans{a b c:XS}(h:Kp a b)(g:Kp b c):Kp a c:=⟨g.eB.trans h.eB,g.eP.trans h.eP,λn=>(g.nm n).trans (h.nm n),g.lV.trans h.lV⟩
section
variable{k:Tm}{s:XS}{b:Nat}
theorem q6N{P b:Nat}{V:Mp}:(lvP P b V).length≤P:=by
 unfold lvP
 refine kO (dL _ _) ?_
 rw[mG]
 exact kM _
theorem q5M(R:XS→List (List Int)→Prop)(w:WX k s)(f:Full k s b)(r0:R s [])(rs:∀s' ms n p,WX k s'→Kp s s'→s'.cl=s.cl→s'.q.fi.getD b 0=(s.q.P:Int)→(n,p)∈s'.q.V→p / (s.q.P:Int)=(b:Int)→k.ie*s'.q.P<s'.rmX→s'.lf≠some 0→R s' ms→R (s'.put n (s'.val p n)) (ms++[[n,p,(s'.np:Int)]])):∃s' n ms,Mvd k s b s' n∧ms.length=n∧R s' ms∧((XS.mvs (lvP s.q.P b s.q.V) s=(s',none)∧n<(lvP s.q.P b s.q.V).length∧s'.lf=some 0)∨(XS.mvs (lvP s.q.P b s.q.V) s=(s',some ms)∧n=(lvP s.q.P b s.q.V).length∧∀y∈s'.q.V,¬y.2 / (s'.q.P:Int)=(b:Int))):=by
 have sp:=f.sp w
 have key:∀d i,i+d=(lvP s.q.P b s.q.V).length→∀s' ms,MvI k s b (lvP s.q.P b s.q.V) i s' ms→R s' ms→∃s' n ms,Mvd k s b s' n∧ms.length=n∧R s' ms∧((XS.mvs (lvP s.q.P b s.q.V) s=(s',none)∧n<(lvP s.q.P b s.q.V).length∧s'.lf=some 0)∨(XS.mvs (lvP s.q.P b s.q.V) s=(s',some ms)∧n=(lvP s.q.P b s.q.V).length∧∀y∈s'.q.V,¬y.2 / (s'.q.P:Int)=(b:Int))):=by
  intro d
  induction d with
  |zero=>
   intro i hi s' ms mi hR
   obtain⟨e,nl⟩:=mi.fin (by lia)
   exact⟨s',i,ms,mi.mvd (by lia),mi.l,hR,.inr ⟨e,by lia,nl⟩⟩
  |succ d ih=>
   intro i hi s' ms mi hR
   have hi':i<(lvP s.q.P b s.q.V).length:=by lia
   by_cases dk:s'.lf=some 0
   ·exact⟨s',i,ms,mi.mvd (by lia),mi.l,hR,.inl ⟨mi.dark hi' dk,hi',dk⟩⟩
   ·obtain⟨n,p,er,hnp,_⟩:=mi.at hi'
    have rme:=mi.rm
    obtain⟨n',p',e0,_,hpb⟩:=mi.dr [p,n] (by rw[rZ hi',er];exact kU)
    have e1:p=p':=by injection e0
    refine ih (i+1) (by lia) _ _ (mi.step q6M hi' sp dk er) (rs s' ms n p mi.w ⟨mi.eB,mi.eP,mi.nm,mi.lV⟩ mi.ec mi.fb hnp (by rw[e1];exact hpb) (by rw[mi.eP];lia) dk hR)
 exact key _ 0 (pZ _) s [] (MvI.zero w f.f) r0
end
theorem qFA{g:Rl}{pg nw:Int}{ts:List Tl}(ok:g.Ok)(h:ts≠[]):(g.ch pg nw ts).1∈ts.map Tl.b:=by
 cases g with
 |rk f=>
  obtain⟨A,hA,e,_⟩:=qF6 (f:=f pg nw) h
  show pk (f pg nw) ts∈_
  rw[e]
  exact kP.mpr ⟨A,hA,rfl⟩
 |win m=>
  obtain⟨A,hA,e,_⟩:=qF6 (f:=Tl.lv) (qGZ ok h)
  show pk Tl.lv (winC m ts)∈_
  rw[e]
  exact kP.mpr ⟨A,qGY A hA,rfl⟩
 |fol row u=>
  have h0:(ts.map Tl.b).headD 0∈ts.map Tl.b:=by
   cases ts with
   |nil=>exact absurd rfl h
   |cons a r=>simp
  show fo row u ts∈_
  unfold fo
  split
  ·split
   ·assumption
   ·exact h0
  ·exact h0
theorem qKW{g:Rl}{pg nw:Int}{ts:List Tl}(ok:g.Ok):(g.ch pg nw ts).2.Ok:=by
 cases g with
 |rk f=>trivial
 |win m=>exact ok
 |fol row u=>trivial
section
variable{k:Tm}{s:XS}{g g':Rl}{y:Str}{b:Nat}
theorem q0P(ok:g.Ok)(h:s.tk k g=some (y,b,g')):(y=Str.ofString "rule"∧b∈s.opt k∧(b:Int)=(g.ch (s.q.P:Int) s.q.nx (s.ots k)).1∧g'=(g.ch (s.q.P:Int) s.q.nx (s.ots k)).2)∨(y=Str.ofString "even"∧k.ev=true∧s.opt k=[]∧g'=g∧s.chg k=some b∧b∈s.clb k (s.ful k)∧∀c∈s.clb k (s.ful k),s.cl.getD b 0≤s.cl.getD c 0):=by
 unfold XS.tk at h
 split at h
 ·rename_i e0
  split at h
  ·rename_i ev
   cases z:s.chg k with
   |none=>rw[z]at h;cases h
   |some c=>
    rw[z]at h
    cases h
    have pw:(s.clb k (s.ful k)).Pairwise (· < ·):=by
     unfold XS.clb XS.ful
     exact g9 _ (g9 _ rM)
    obtain⟨m1,m2⟩:=(q47 (cl:=s.cl) pw).2 b z
    refine .inr ⟨rfl,ev,e0,rfl,rfl,m1,λc hc=>?_⟩
    have:=m2 c hc
    unfold keyN lx at this
    by_cases q:s.cl.getD c 0=s.cl.getD b 0
    ·lia
    ·rw[kB q]at this
     have:=dA this
     lia
  ·cases h
 ·rename_i ne
  have ne':s.ots k≠[]:=λz=>ne (pT.mp z)
  have cm:=qFA (pg:=(s.q.P:Int)) (nw:=s.q.nx) ok ne'
  injection h with h
  injection h with h1 h
  injection h with h h2
  obtain⟨c,hc,e⟩:=kP.mp cm
  obtain⟨c',hc',rfl⟩:=kP.mp hc
  have e:(c':Int)=(g.ch (s.q.P:Int) s.q.nx (s.ots k)).1:=e
  rw[←e,kW]at h
  subst h
  exact .inl ⟨h1.symm,hc',e,h2.symm⟩
theorem q34(ok:g.Ok)(h:s.tk k g=some (y,b,g')):Full k s b:=by
 rcases q0P ok h with⟨_,h1,_⟩|⟨_,_,_,_,_,h1,_⟩
 ·exact(vG.mp h1).1.1
 ·unfold XS.clb at h1
  exact q5L.mp (mI.mp h1).1
theorem qFB(ok:g.Ok)(h:s.tk k g=some (y,b,g')):g'.Ok:=by
 rcases q0P ok h with⟨_,_,_,e⟩|⟨_,_,_,e,_⟩
 ·rw[e];exact qKW ok
 ·rw[e];exact ok
end
section
variable{k:Tm}{X Y:Sx}
inductive RoomR(k:Tm)(X:Sx):Sx×Except Rf Pa→Prop
 |no:X.s.tk k X.g=none→RoomR k X (X,.error .room)
 |dark {y b g' s' n}:X.s.tk k X.g=some (y,b,g')→Mvd k X.s b s' n→n≤(lvP X.s.q.P b X.s.q.V).length→s'.lf=some 0→RoomR k X (⟨s',g',X.ps⟩,.error .dark)
 |ok {y b g' s' ms}:X.s.tk k X.g=some (y,b,g')→XS.mvs (lvP X.s.q.P b X.s.q.V) X.s=(s',some ms)→Mvd k X.s b s' (lvP X.s.q.P b X.s.q.V).length→ms.length=(lvP X.s.q.P b X.s.q.V).length→s'.lf≠some 0→WX k (s'.wip b)→(s'.wip b).rmX=s'.rmX+X.s.q.P→RoomR k X (⟨s'.wip b,g',X.ps++[⟨y,X.s.ots k,b,ms⟩]⟩,.ok ⟨y,X.s.ots k,b,ms⟩)
theorem qA5(w:WX k X.s)(ok:X.g.Ok):RoomR k X (X.room k):=by
 unfold Sx.room
 cases htk:X.s.tk k X.g with
 |none=>exact .no htk
 |some ybg=>
  obtain⟨y,b,g'⟩:=ybg
  have f:=q34 ok htk
  obtain⟨s',n,ms,md,lm,_,h|h⟩:=q5M (λ_ _=>True) w f trivial (λ_ _ _ _ _ _ _ _ _ _ _ _ _=>trivial)
  ·obtain⟨e,hn,dk⟩:=h
   dsimp only
   rw[e]
   exact .dark htk md (by lia) dk
  ·obtain⟨e,hn,nl⟩:=h
   dsimp only
   rw[e]
   dsimp only
   subst hn
   by_cases dk:s'.lf=some 0
   ·rw[kD dk]
    exact .dark htk md (kM _) dk
   ·rw[kB dk]
    obtain⟨w',rm'⟩:=md.w.wip (b:=b) (by rw[md.eB];exact f.b) (by rw[md.eP];exact md.fb) nl dk
    exact .ok htk e md lm dk w' (by rw[rm',md.eP])
theorem qA6{p:Pa}(w:WX k X.s)(ok:X.g.Ok)(h:X.room k=(Y,.ok p)):Y.s.rc.length≤X.s.rc.length+17∧Y.ps.length=X.ps.length+1:=by
 have r:=qA5 w ok
 rw[h]at r
 have l16:∀b,(lvP X.s.q.P b X.s.q.V).length≤X.s.q.P:=λb=>q6N
 have p2:=w.qs.ok.p2
 cases r with
 |@ok y b g' s' ms htk e md lm dk w' rm'=>
  have:=l16 b
  refine⟨?_,kZ⟩
  show(_++[_]).length≤_
  rw[kZ,md.rc,gB]
  lia
theorem Mvd.kp{s s':XS}{b n:Nat}(h:Mvd k s b s' n):Kp s s':=⟨h.eB,h.eP,h.nm,h.lV⟩
theorem qC6{r:Except Rf Pa}(w:WX k X.s)(ok:X.g.Ok)(h:X.room k=(Y,r)):WX k Y.s∧Y.g.Ok∧Kp X.s Y.s∧Y.s.rc.length≤X.s.rc.length+17∧Y.ps.length≤X.ps.length+1:=by
 have rr:=qA5 w ok
 rw[h]at rr
 have l16:∀b,(lvP X.s.q.P b X.s.q.V).length≤X.s.q.P:=λb=>q6N
 have p2:=w.qs.ok.p2
 cases rr with
 |no htk=>exact⟨w,ok,Kp.refl,by lia,by lia⟩
 |@dark y b g' s' n htk md hn dk=>
  have:=l16 b
  refine⟨md.w,qFB ok htk,md.kp,?_,rC _⟩
  show s'.rc.length≤_
  rw[md.rc]
  lia
 |@ok y b g' s' ms htk e md lm dk w' rm'=>
  have:=l16 b
  refine⟨w',qFB ok htk,md.kp.trans ⟨rfl,rfl,λ_=>aI,rfl⟩,?_,?_⟩
  ·show(_++[_]).length≤_
   rw[kZ,md.rc,gB]
   lia
  ·show(_++[_]).length≤_
   rw[kZ]
   exact kM _
theorem q0Q:∀{i:Nat} {X Y:Sx} {r:Except Rf Unit},WX k X.s→X.g.Ok→X.rooms k i=some (Y,r)→WX k Y.s∧Y.g.Ok∧Kp X.s Y.s∧Y.s.rc.length≤X.s.rc.length+17*i∧Y.ps.length≤X.ps.length+i∧(r=.ok ()→Y.s.rd k=true)
 |0,X,Y,r,w,ok,h=>by
  unfold Sx.rooms at h
  split at h
  ·rename_i z
   cases h
   exact⟨w,ok,Kp.refl,kM _,kM _,λ_=>z⟩
  ·cases h
 |i+1,X,Y,r,w,ok,h=>by
  unfold Sx.rooms at h
  split at h
  ·rename_i z
   cases h
   exact⟨w,ok,Kp.refl,sP _ _,sP _ _,λ_=>z⟩
  ·cases e:X.room k with
   |mk W o=>
    rw[e]at h
    obtain⟨a1,a2,a3,a4,a5⟩:=qC6 w ok e
    cases o with
    |error x=>
     cases h
     exact⟨a1,a2,a3,by lia,by lia,λz=>by cases z⟩
    |ok p=>
     obtain⟨b1,b2,b3,b4,b5,b6⟩:=q0Q a1 a2 h
     exact⟨b1,b2,a3.trans b3,by lia,by lia,b6⟩
noncomputable def gvn(ns ss:List Int):List Int:=ns.filter λn=>decide (n∈ss)
noncomputable def rst(ns g:List Int):List Int:=ns.filter λn=>!decide (n∈g)
noncomputable def XS.forgs(s:XS)(g:List Int):XS:=g.foldl XS.forg s
theorem qB9{s:XS}{g:List Int}{i:Nat}{n:Int}(h:g[i]?=some n):s.forgs (g.take (i+1))=(s.forgs (g.take i)).forg n:=by
 have hi:=(kC.mp h).1
 obtain rfl:g[i]=n:=(kC.mp h).2
 unfold XS.forgs
 rw[←mH hi,wY]
 rfl
end
noncomputable def Hv(s:XS)(n v:Int):Prop:=∃p mk,(n,p)∈s.q.V∧s.pg p.toNat=some (mk,v)
noncomputable def putR(m:List Int):Str×Int×Bool:=(Str.ofString "put",m.getD 2 0,true)
section
variable{k:Tm}{s s':XS}{n m v u:Int}{b:Nat}
theorem Hv.put(w:WX k s)(hr:0<s.rmX)(ne:m≠n)(h:Hv s m u):Hv (s.put n v) m u:=by
 obtain⟨p,mk,hp,e⟩:=h
 obtain⟨c,g,x,a1,a2,a3,a4,a5⟩:=w.vl _ hp
 obtain⟨hb,hf,ef,_⟩:=w.spot hr
 have a3:p=_:=a3
 refine⟨p,mk,yS.mpr (.inr ⟨hp,ne⟩),?_⟩
 show(if p.toNat=s.np then _ else s.pg p.toNat)=_
 rw[kB]
 ·exact e
 ·rw[a3,kW]
  intro z
  obtain⟨e1,e2⟩:=q6K a2 hf z
  rw[e1,ef]at a4
  lia
theorem Hv.new:Hv (s.put n v) n v:=⟨(s.np:Int),_,yS.mpr (.inl rfl),by
 show(if((s.np:Nat):Int).toNat=s.np then _ else _)=_
 rw[kW,kD rfl]⟩
theorem Hv.wip(w:WX k s)(nl:∀y∈s.q.V,¬y.2 / (s.q.P:Int)=(b:Int))(h:Hv s m u):Hv (s.wip b) m u:=by
 obtain⟨p,mk,hp,e⟩:=h
 obtain⟨c,g,x,a1,a2,a3,a4,a5⟩:=w.vl _ hp
 have a3:p=_:=a3
 refine⟨p,mk,hp,?_⟩
 show(if p.toNat / s.q.P=b then none else s.pg p.toNat)=_
 rw[kB]
 ·exact e
 ·have:=nl _ hp
  rw[a3,kW,yB a2]
  rw[show((m,p).2:Int)=p from rfl,a3,←dC,yB a2]at this
  intro z
  exact this (by rw[z])
theorem Hv.forg(ne:m≠n)(h:Hv s m u):Hv (s.forg n) m u:=by
 obtain⟨p,mk,hp,e⟩:=h
 exact⟨p,mk,j0.mpr ⟨hp,ne⟩,e⟩
theorem Hv.val(w:WX k s){p:Int}(hp:(n,p)∈s.q.V)(n6:n≠64)(h:Hv s n u):s.val p n=u:=by
 obtain⟨p',mk,hp',e⟩:=h
 rw[q8S w.qs.ok.nd hp hp']
 unfold XS.val
 rw[kB n6,e]
 rfl
theorem q8T(w:WX k s){c:Nat}(hc:c<s.q.B):s.lst≤s.cl.getD c 0:=by
 have hc':c<s.cl.length:=by rw[w.lc];exact hc
 obtain⟨m,e,h1,h2⟩:=qB8 (l:=s.cl) (λz=>by rw[z]at hc';cases hc')
 unfold XS.lst
 rw[e,kJ,hX hc']
 exact h2 _ (gG _)
theorem qFC(w:WX k s)(hb:0<s.q.B):∃c,c<s.q.B∧s.cl.getD c 0=s.lst:=by
 have hb':0<s.cl.length:=by rw[w.lc];exact hb
 obtain⟨m,e,h1,h2⟩:=qB8 (l:=s.cl) (λz=>by rw[z]at hb';cases hb')
 obtain⟨c,hc,ec⟩:=wI h1
 refine⟨c,by rw[←w.lc];exact hc,?_⟩
 unfold XS.lst
 rw[e,kJ,hX hc,ec]
theorem qFD(w:WX k s)(hr:0<s.rmX)(z:s.q.fi.getD s.pb 0=0){c:Nat}(hc:c<s.q.B)(fc:s.q.fi.getD c 0=0):s.cl.getD s.pb 0≤s.cl.getD c 0:=by
 have e:s.pb=spF s.q s.cl:=rfl
 unfold spF at e
 cases q:(List.range s.q.B).find? (jP s.q.P s.q.fi)with
 |some d=>
  rw[q]at e
  have h2:=dO q
  unfold jP at h2
  rw[mU,kX]at h2
  rw[show s.pb=d from e]at z
  lia
 |none=>
  rw[q]at e
  have pw:((List.range s.q.B).filter λb=>decide (s.q.fi.getD b 0=0)).Pairwise (· < ·):=g9 _ rM
  have hm:c∈(List.range s.q.B).filter λb=>decide (s.q.fi.getD b 0=0):=mI.mpr ⟨mL.mpr hc,hG fc⟩
  obtain⟨h1,h2⟩:=q47 (cl:=s.cl) pw
  cases y:minF s.cl ((List.range s.q.B).filter λb=>decide (s.q.fi.getD b 0=0))with
  |none=>rw[h1 y]at hm;cases hm
  |some d=>
   rw[y]at e
   have e:s.pb=d:=e
   have:=(h2 d y).2 c hm
   rw[e]
   unfold keyN lx at this
   by_cases x:s.cl.getD c 0=s.cl.getD d 0
   ·lia
   ·rw[kB x]at this
    have:=dA this
    lia
structure Ix(k:Tm)(s:XS):Prop where
 w:WX k s
 sh:s.q.V.length<(s.q.B-(1+k.ie))*s.q.P
 s1:1≤k.sp
 gp:k.ev=true→∀b c,b<s.q.B→c<s.q.B→s.cl.getD b 0≤s.cl.getD c 0+k.sp
 e2:k.ev=true→∀d c,d<s.q.B→c<s.q.B→s.q.fi.getD d 0≠0→s.q.fi.getD c 0=0→s.cl.getD d 0<s.cl.getD c 0+k.sp
noncomputable def Wt(k:Tm)(s:XS):Prop:=s.rmX<(1+k.ie)*s.q.P→∃b,b<s.q.B∧s.q.fi.getD b 0=(s.q.P:Int)∧s.q.lv.getD b 0<(s.q.P:Int)∧s.q.lv.getD b 0+((1+k.ie)*s.q.P:Nat)≤(s.rmX:Int)+(s.q.P:Int)∧(k.ev=true→s.cl.getD b 0<s.lst+k.sp)
theorem Ix.put(x:Ix k s)(hr:k.ie*s.q.P<s.rmX)(w':WX k (s.put n v))(hs:(s.put n v).q.V.length<(s.q.B-(1+k.ie))*s.q.P):Ix k (s.put n v):=by
 obtain⟨hb,hf,ef,_⟩:=x.w.spot (by lia)
 have s1:=x.s1
 have gfi:∀c,(s.put n v).q.fi.getD c 0=if s.pb=c then(s.pf:Int)+1 else s.q.fi.getD c 0:=q6L x.w.qs.ok.lf hb ef
 refine⟨w',hs,x.s1,x.gp,λev d c hd hc fd fc=>?_⟩
 rw[gfi]at fd fc
 have hc:c<s.q.B:=hc
 have hd:d<s.q.B:=hd
 show s.cl.getD d 0<s.cl.getD c 0+k.sp
 by_cases c1:s.pb=c
 ·rw[kD c1]at fc
  lia
 ·rw[kB c1]at fc
  by_cases d1:s.pb=d
  ·subst d1
   by_cases z:s.q.fi.getD s.pb 0=0
   ·have:=qFD x.w (by lia) z hc fc
    lia
   ·exact x.e2 ev _ _ hd hc z fc
  ·rw[kB d1]at fd
   exact x.e2 ev _ _ hd hc fd fc
theorem Ix.wip(x:Ix k s)(hb:b<s.q.B)(w':WX k (s.wip b))(cb:k.ev=true→s.cl.getD b 0<s.lst+k.sp):Ix k (s.wip b):=by
 have lc:=x.w.lc
 have gcl:∀c,(s.wip b).cl.getD c 0=if b=c then s.cl.getD b 0+1 else s.cl.getD c 0:=λc=>by
  show(s.cl.set b (s.cl.getD b 0+1)).getD c 0=_
  rw[qZ,lc]
  by_cases e:b=c
  ·rw[kD ⟨e,hb⟩,kD e]
  ·rw[kB (λz=>e z.1),kB e]
 have gfi:∀c,(s.wip b).q.fi.getD c 0=if b=c then 0 else s.q.fi.getD c 0:=λc=>by
  show(s.q.fi.set b 0).getD c 0=_
  rw[qZ,x.w.qs.ok.lf]
  by_cases e:b=c
  ·rw[kD ⟨e,hb⟩,kD e]
  ·rw[kB (λz=>e z.1),kB e]
 refine⟨w',x.sh,x.s1,λev c d hc hd=>?_,λev d c hd hc fd fc=>?_⟩
 ·have hc:c<s.q.B:=hc
  have hd:d<s.q.B:=hd
  rw[gcl,gcl]
  have:=cb ev
  have:=x.gp ev c d hc hd
  have:=x.gp ev c b hc hb
  have:=q8T x.w hd
  have:=x.s1
  split<;>split<;>lia
 ·have hc:c<s.q.B:=hc
  have hd:d<s.q.B:=hd
  rw[gfi]at fd fc
  rw[gcl,gcl]
  by_cases d1:b=d
  ·rw[kD d1]at fd
   exact absurd rfl fd
  ·rw[kB d1]at fd ⊢
   by_cases c1:b=c
   ·rw[kD c1]
    have:=x.gp ev d b hd hb
    lia
   ·rw[kB c1]at fc ⊢
    exact x.e2 ev d c hd hc fd fc
end
section
variable{k:Tm}{X Y:Sx}
structure RmX(k:Tm)(X Y:Sx):Prop where
 x:Ix k Y.s
 wt:Wt k Y.s
 ok:Y.g.Ok
 kp:Kp X.s Y.s
 hv:∀m u,m≠64→Hv X.s m u→Hv Y.s m u
theorem q49{r:Except Rf Pa}(x:Ix k X.s)(wt:Wt k X.s)(ok:X.g.Ok)(h:X.room k=(Y,r)):RmX k X Y∧(match r with
 | .ok p=>Y.ps=X.ps++[p]∧Y.s.rc=X.s.rc++p.mv.map putR++[(Str.ofString "wipe",(p.b:Int),true)]∧(1+k.ie)*X.s.q.P≤Y.s.rmX∧Y.s.rmX+p.mv.length=X.s.rmX+X.s.q.P∧(∃g',X.s.tk k X.g=some (p.why,p.b,g'))∧p.mv.length=(lvP X.s.q.P p.b X.s.q.V).length∧p.ts=X.s.ots k∧(∃s',XS.mvs (lvP X.s.q.P p.b X.s.q.V) X.s=(s',some p.mv)∧Y.s=s'.wip p.b∧Mvd k X.s p.b s' p.mv.length)
 | .error .dark=>Y.s.lf=some 0∧Y.ps=X.ps∧∃ms,Y.s.rc=X.s.rc++List.map putR ms
 | .error .room=>Y=X∧X.s.tk k X.g=none):=by
 unfold Sx.room at h
 cases htk:X.s.tk k X.g with
 |none=>
  rw[htk]at h
  cases h
  exact⟨⟨x,wt,ok,Kp.refl,λ_ _ _ z=>z⟩,rfl,rfl⟩
 |some ybg=>
  obtain⟨y,b,g'⟩:=ybg
  rw[htk]at h
  dsimp only at h
  have f:=q34 ok htk
  have g'ok:=qFB ok htk
  have spc:=f.l
  have lvb:=q48 x.w.qs x.w.pd f.b
  have sl:=x.w.sl
  have clb:k.ev=true→X.s.cl.getD b 0<X.s.lst+k.sp:=λev=>by
   rcases q0P ok htk with⟨_,h1,_⟩|⟨_,_,_,_,_,h1,_⟩
   ·exact(vG.mp h1).2 ev
   ·unfold XS.clb at h1
    exact mF (mI.mp h1).2
  obtain⟨s',n,ms,md,lm,⟨xi,hv,rcE⟩,hh⟩:=q5M (λs' ms=>Ix k s'∧(∀m u,m≠64→Hv X.s m u→Hv s' m u)∧s'.rc=X.s.rc++ms.map putR) x.w f ⟨x,λ_ _ _ z=>z,by simp⟩ (λs' ms n p w' kp ec fb hnp hpb hr dk ⟨xi,hv,rcE⟩=>by
   have nb:=w'.qs.ok.nm _ hnp
   obtain⟨w2,_⟩:=w'.put (v:=s'.val p n) hr nb.1 nb.2 (.inl ⟨p,hnp⟩) dk
   refine⟨xi.put hr w2 ?_,λm u m6 hm=>?_,?_⟩
   ·show(jE s'.q.V n++[_]).length< _
    rw[kZ,gB,(q0O (V:=s'.q.V) (n:=n) w'.qs.ok.nd).2 p hnp]
    exact xi.sh
   ·have:=hv m u m6 hm
    by_cases e:m=n
    ·subst e
     have z:=Hv.new (s:=s') (n:=m) (v:=s'.val p m)
     rw[this.val w' hnp m6]at z ⊢
     exact z
    ·exact this.put w' (by lia) e
   ·show s'.rc++[_]=_
    rw[rcE,mJ,wA]
    rfl)
  have kp:Kp X.s s':=⟨md.eB,md.eP,md.nm,md.lV⟩
  have rme:=md.rm
  have lbe:=md.lb f.b
  have ec:=md.ec
  have wt':Wt k s':=λhlt=>by
   rw[md.eP]at hlt
   refine⟨b,by rw[md.eB];exact f.b,by rw[md.eP];exact md.fb,?_,?_,λev=>?_⟩
   ·rw[md.eP]
    by_cases n0:n=0
    ·have:X.s.rmX<(1+k.ie)*X.s.q.P:=by lia
     have lt:X.s.q.lv.getD b 0<(X.s.q.P:Int):=by
      rcases q0P ok htk with⟨_,h1,_⟩|⟨_,_,e0,_⟩
      ·exact(vG.mp h1).1.2
      ·exfalso
       obtain⟨c,c1,c2,c3,c4,c5⟩:=wt this
       have:c∈X.s.opt k:=vG.mpr ⟨⟨⟨c1,c2,by
        unfold XS.spc
        rw[kB (by lia)]
        rw[rN,rO]at c4
        lia⟩,c3⟩,c5⟩
       rw[e0]at this
       cases this
     lia
    ·have:=q6N (P:=X.s.q.P) (b:=b) (V:=X.s.q.V)
     lia
   ·rw[md.eP]
    unfold XS.spc at spc
    rw[rN,rO]at *
    split at spc<;>lia
   ·have e1:s'.lst=X.s.lst:=by unfold XS.lst;rw[ec]
    rw[ec,e1]
    exact clb ev
  rcases hh with⟨e,hn,dk⟩|⟨e,hn,nl⟩
  ·rw[e]at h
   cases h
   exact⟨⟨xi,wt',g'ok,kp,hv⟩,dk,rfl,ms,rcE⟩
  ·rw[e]at h
   dsimp only at h
   by_cases dk:s'.lf=some 0
   ·rw[kD dk]at h
    cases h
    exact⟨⟨xi,wt',g'ok,kp,hv⟩,dk,rfl,ms,rcE⟩
   ·rw[kB dk]at h
    cases h
    obtain⟨w2,rm2⟩:=md.w.wip (b:=b) (by rw[md.eB];exact f.b) (by rw[md.eP];exact md.fb) nl dk
    have e1:s'.lst=X.s.lst:=by unfold XS.lst;rw[ec]
    have ge:(1+k.ie)*X.s.q.P≤(s'.wip b).rmX:=by
     rw[rm2,md.eP]
     unfold XS.spc at spc
     rw[rN,rO]at *
     split at spc<;>lia
    refine⟨⟨xi.wip (by rw[md.eB];exact f.b) w2 (λev=>by rw[ec,e1];exact clb ev),λhlt=>?_,g'ok,kp.trans ⟨rfl,rfl,λ_=>aI,rfl⟩,λm u m6 hm=>(hv m u m6 hm).wip md.w nl⟩,rfl,?_,ge,?_,⟨g',rfl⟩,by rw[lm,hn],rfl,s',e,rfl,by rw[lm];exact md⟩
    ·have hlt:(s'.wip b).rmX<(1+k.ie)*s'.q.P:=hlt
     rw[md.eP]at hlt
     lia
    ·show s'.rc++[_]=_
     rw[rcE]
    ·show(s'.wip b).rmX+ms.length=_
     rw[rm2,md.eP,lm]
     lia
end
section
variable{k:Tm}{s:XS}
theorem q4P(w:WX k s)(hr:s.rmX=(1+k.ie)*s.q.P):(∀b,b<s.q.B→s.q.fi.getD b 0=0∨s.q.fi.getD b 0=(s.q.P:Int))∧((List.range s.q.B).filter λb=>decide (s.q.fi.getD b 0=(s.q.P:Int))).length=s.q.B-(1+k.ie):=by
 have p1:=w.qs.ok.p1
 obtain⟨l,hl⟩:=FreeIs.ex s.q.B (noB s.q.B) s.cl s.q.fi
 have ll:jM s.q.B s.q.P (noB s.q.B) s.q.fi=none∧l.length=1+k.ie:=by
  rcases q24 w.on w.qs.ok.wr p1 hl with⟨h1,h2⟩|⟨b,e,h1,e1,e2,h2,_⟩
  ·refine⟨h1,?_⟩
   unfold XS.rmX at hr
   rw[hr]at h2
   exact(sD (by lia) h2).symm
  ·exfalso
   unfold XS.rmX at hr
   rw[hr]at h2
   have k:(1+k.ie)*s.q.P%s.q.P=e:=by rw[h2,wP,pP,cH e2]
   rw[xS]at k
   lia
 have fl:=qA4 w.on w.qs.ok.wr p1 hl ll.1
 unfold yA at fl
 rw[yD]at fl
 refine⟨λb hb=>?_,by lia⟩
 have np:=ll.1
 unfold jM at np
 rw[yD]at np
 have:=dQ.mp np b (mL.mpr hb)
 obtain⟨f,ef,hf⟩:=w.qs.ok.wr b hb
 unfold jP at this
 rw[mU,kX,kX]at this
 lia
theorem zB(x:Ix k s)(hr:s.rmX=(1+k.ie)*s.q.P):s.ded k≠[]:=by
 obtain⟨l,hl⟩:=FreeIs.ex s.q.B (noB s.q.B) s.cl s.q.fi
 have m:CM:=⟨0,0,0,[],[],s.cl,[],noB s.q.B,none,[]⟩
 have:=(qF7 (m:=⟨0,0,0,[],[],s.cl,[],noB s.q.B,none,[]⟩) (ie:=k.ie) x.w.qs x.w.on rfl hl hr x.sh).1
 rw[qF8 x.w rfl hl]at this
 exact this
theorem qFE(wt:Wt k s)(hr:s.rmX<(1+k.ie)*s.q.P):s.opt k≠[]:=λz=>by
 obtain⟨b,b1,b2,b3,b4,b5⟩:=wt hr
 have:b∈s.opt k:=vG.mpr ⟨⟨⟨b1,b2,by
  unfold XS.spc
  rw[kB (by lia)]
  rw[rN,rO]at b4
  lia⟩,b3⟩,b5⟩
 rw[z]at this
 cases this
theorem q85(x:Ix k s)(hr:s.rmX=(1+k.ie)*s.q.P)(ev:k.ev=true)(e0:s.opt k=[]):(∀c,c<s.q.B→s.q.fi.getD c 0=0→s.lst<s.cl.getD c 0)∧∃b,s.chg k=some b∧b<s.q.B∧s.q.fi.getD b 0=(s.q.P:Int)∧s.cl.getD b 0=s.lst∧s.q.lv.getD b 0=(s.q.P:Int):=by
 have s1:=x.s1
 have p1:=x.w.qs.ok.p1
 have nop:∀d,Full k s d→s.q.lv.getD d 0<(s.q.P:Int)→s.lst+k.sp≤s.cl.getD d 0:=λd fd ld=>by
  refine aP.mp λz=>?_
  have:d∈s.opt k:=vG.mpr ⟨⟨fd,ld⟩,λ_=>z⟩
  rw[e0]at this
  cases this
 have fr:∀c,c<s.q.B→s.q.fi.getD c 0=0→s.lst<s.cl.getD c 0:=λc hc fc=>by
  obtain⟨d,hd⟩:=r6 _ (zB x hr)
  obtain⟨fd,ld⟩:=q33.mp hd
  have h1:=nop d fd ld
  have h2:=x.e2 ev d c fd.b hc (by rw[fd.f];lia) fc
  lia
 refine⟨fr,?_⟩
 obtain⟨rp,_⟩:=q4P x.w hr
 have hB:0<s.q.B:=by
  obtain⟨d,hd⟩:=r6 _ (zB x hr)
  have:=(q33.mp hd).1.b
  lia
 obtain⟨c,hc,ec⟩:=qFC x.w hB
 have fc:s.q.fi.getD c 0=(s.q.P:Int):=by
  rcases rp c hc with z|z
  ·have:=fr c hc z
   lia
  ·exact z
 have spc:s.spc k=(s.q.P:Int):=by
  unfold XS.spc
  rw[kD (by lia)]
 have hc':c∈s.clb k (s.ful k):=by
  unfold XS.clb
  exact mI.mpr ⟨q5L.mpr ⟨hc,fc,by rw[spc];exact(qF9 x.w hc).2⟩,hG (by lia)⟩
 have pw:(s.clb k (s.ful k)).Pairwise (· < ·):=by
  unfold XS.clb XS.ful
  exact g9 _ (g9 _ rM)
 obtain⟨h1,h2⟩:=q47 (cl:=s.cl) pw
 cases z:s.chg k with
 |none=>
  rw[h1 z]at hc'
  cases hc'
 |some b=>
  obtain⟨m1,m2⟩:=h2 b z
  have m1':=m1
  unfold XS.clb at m1'
  obtain⟨fb,_⟩:=mI.mp m1'
  have fb:=q5L.mp fb
  have:=m2 c hc'
  have le:s.cl.getD b 0≤s.cl.getD c 0:=by
   unfold keyN lx at this
   by_cases q:s.cl.getD c 0=s.cl.getD b 0
   ·lia
   ·rw[kB q]at this
    have:=dA this
    lia
  have cb:s.cl.getD b 0=s.lst:=by
   have:=q8T x.w fb.b
   lia
  refine⟨b,rfl,fb.b,fb.f,cb,?_⟩
  have:=qF9 x.w fb.b
  have:¬s.q.lv.getD b 0<(s.q.P:Int):=λy=>by
   have:=nop b fb y
   lia
  lia
noncomputable def nlc(s:XS):Nat:=((List.range s.q.B).filter λb=>decide (s.q.fi.getD b 0=(s.q.P:Int))&&decide (s.cl.getD b 0=s.lst)).length
noncomputable def need(k:Tm)(s:XS):Nat:=if s.rd k=true then 0 else if s.rmX<(1+k.ie)*s.q.P then 1+(if k.ev=true then s.q.B-(1+k.ie)else 1)else if s.opt k≠[]then 1 else nlc s+1
theorem qBA{α:Type}{p p':α→Bool}:∀{l:List α},(∀x∈l,p' x=true→p x=true)→(∃x∈l,p x=true∧p' x=false)→(l.filter p').length<(l.filter p).length
 | [],_,h=>by obtain⟨x,hx,_⟩:=h;cases hx
 |a::l,h,g=>by
  have le:(l.filter p').length≤(l.filter p).length:=by
   have:(l.filter p').length≤(l.filter p).length:=by
    rw[←wS,←wS]
    exact pC λx hx=>h x (hU _ hx)
   exact this
  rw[mW,mW]
  obtain⟨x,hx,h1,h2⟩:=g
  rcases kI.mp hx with e|hx
  ·subst e
   rw[kD h1,kB (by rw[h2];decide),mM]
   lia
  ·have ih:=qBA (λy hy=>h y (hU _ hy)) ⟨x,hx,h1,h2⟩
   by_cases z:p' a=true
   ·rw[kD z,kD (h a (by simp) z),mM,mM]
    lia
   ·rw[kB z]
    split
    ·rw[mM]
     lia
    ·exact ih
theorem qJS(x:Ix k s)(hr:s.rmX=(1+k.ie)*s.q.P)(ev:k.ev=true)(e0:s.opt k=[]):nlc s+1≤s.q.B-(1+k.ie):=by
 obtain⟨_,fl⟩:=q4P x.w hr
 rw[←fl]
 obtain⟨d,hd⟩:=r6 _ (zB x hr)
 obtain⟨fd,ld⟩:=q33.mp hd
 refine qBA (λy _ hy=>?_) ⟨d,mL.mpr fd.b,hG fd.f,?_⟩
 ·rw[mU]at hy
  exact hy.1
 ·have:¬s.cl.getD d 0<s.lst+k.sp:=λz=>by
   have:d∈s.opt k:=vG.mpr ⟨⟨fd,ld⟩,λ_=>z⟩
   rw[e0]at this
   cases this
  have s1:=x.s1
  rw[hI (show ¬s.cl.getD d 0=s.lst by lia),aM]
theorem qC7(x:Ix k s)(hr:(1+k.ie)*s.q.P≤s.rmX):need k s≤if k.ev=true then s.q.B-(1+k.ie)else 1:=by
 have b1:1≤s.q.B-(1+k.ie):=by
  have:=x.sh
  refine Nat.pos_of_ne_zero λz=>?_
  rw[z,Nat.zero_mul]at this
  cases this
 unfold need
 split
 ·exact mV _
 ·rename_i nr
  have e:s.rmX=(1+k.ie)*s.q.P:=by
   unfold XS.rd at nr
   have:=dA (xI.mpr nr)
   lia
  rw[kB (by lia)]
  split
  ·split<;>lia
  ·rename_i z
   have z:s.opt k=[]:=dZ z
   cases ev:k.ev with
   |true=>
    rw[kD rfl]
    exact qJS x e ev z
   |false=>
    exfalso
    have:=zB x e
    unfold XS.opt at z
    rw[ev]at z
    exact this z
end
section
variable{k:Tm}{X Y:Sx}
theorem qH2(x:Ix k X.s)(wt:Wt k X.s)(nr:X.s.rd k=false):∃ybg,X.s.tk k X.g=some ybg:=by
 unfold XS.tk
 by_cases z:X.s.opt k=[]
 ·rw[kD z]
  have nr':=dA nr
  have e:X.s.rmX=(1+k.ie)*X.s.q.P:=by
   have:¬X.s.rmX<(1+k.ie)*X.s.q.P:=λy=>qFE wt y z
   lia
  cases ev:k.ev with
  |true=>
   obtain⟨_,b,hb,_⟩:=q85 x e ev z
   rw[kD rfl,hb]
   exact⟨_,rfl⟩
  |false=>
   exfalso
   have:=zB x e
   unfold XS.opt at z
   rw[ev]at z
   exact this z
 ·rw[kB z]
  exact⟨_,rfl⟩
theorem qH3{p:Pa}(x:Ix k X.s)(wt:Wt k X.s)(ok:X.g.Ok)(nr:X.s.rd k=false)(h:X.room k=(Y,.ok p)):need k Y.s<need k X.s:=by
 obtain⟨rx,hp,_,ge,rmE,⟨g',htk⟩,lm,_,s',emv,eY,md⟩:=q49 x wt ok h
 have eP:=rx.kp.eP
 have eB:=rx.kp.eB
 have fb:=q34 ok htk
 have lvb:=q48 x.w.qs x.w.pd fb.b
 have nr':=dA nr
 have ge':(1+k.ie)*Y.s.q.P≤Y.s.rmX:=by rw[eP];exact ge
 have nl:=qC7 rx.x ge'
 rw[eB]at nl
 have p1:=x.w.qs.ok.p1
 have eX:need k X.s=if X.s.rmX<(1+k.ie)*X.s.q.P then 1+(if k.ev=true then X.s.q.B-(1+k.ie)else 1)else if X.s.opt k≠[]then 1 else nlc X.s+1:=by
  rw[need,nr,kB (by decide)]
 rw[eX]
 by_cases lk:X.s.rmX<(1+k.ie)*X.s.q.P
 ·rw[kD lk]
  lia
 rw[kB lk]
 have eR:X.s.rmX=(1+k.ie)*X.s.q.P:=by lia
 rcases q0P ok htk with⟨_,h1,_⟩|⟨_,ev,e0,_,hc,h1,_⟩
 ·have ne:X.s.opt k≠[]:=λz=>by rw[z]at h1;cases h1
  rw[kD ne]
  have lt:=(vG.mp h1).1.2
  have:Y.s.rd k=true:=hG (by rw[eP];lia)
  rw[need,kD this]
  decide
 ·rw[kB (λz=>z e0)]
  obtain⟨fr,b,hb,b1,b2,b3,b4⟩:=q85 x eR ev e0
  rw[hc]at hb
  obtain rfl:=kN hb
  have rY:Y.s.rmX=(1+k.ie)*Y.s.q.P:=by rw[eP];lia
  have nrY:¬Y.s.rd k=true:=λz=>by
   have:=mF z
   lia
  rw[need,kB nrY,kB (by lia)]
  have bin:p.b∈(List.range X.s.q.B).filter λb=>decide (X.s.q.fi.getD b 0=(X.s.q.P:Int))&&decide (X.s.cl.getD b 0=X.s.lst):=mI.mpr ⟨mL.mpr b1,by rw[hG b2,hG b3];rfl⟩
  have n1:1≤nlc X.s:=c8 bin
  split
  ·lia
  ·rename_i z
   have z:Y.s.opt k=[]:=dZ z
   have gcl:∀c,Y.s.cl.getD c 0=if p.b=c then X.s.cl.getD p.b 0+1 else X.s.cl.getD c 0:=λc=>by
    rw[eY]
    show(s'.cl.set p.b (s'.cl.getD p.b 0+1)).getD c 0=_
    rw[md.ec,qZ,x.w.lc]
    by_cases e:p.b=c
    ·rw[kD ⟨e,b1⟩,kD e]
    ·rw[kB (λz=>e z.1),kB e]
   have gfi:∀c,Y.s.q.fi.getD c 0=if p.b=c then 0 else s'.q.fi.getD c 0:=λc=>by
    rw[eY]
    show(s'.q.fi.set p.b 0).getD c 0=_
    rw[qZ,md.w.qs.ok.lf,md.eB]
    by_cases e:p.b=c
    ·rw[kD ⟨e,b1⟩,kD e]
    ·rw[kB (λz=>e z.1),kB e]
   have lle:X.s.lst≤Y.s.lst:=by
    obtain⟨c,hc,ec⟩:=qFC rx.x.w (by rw[eB];lia)
    rw[eB]at hc
    rw[←ec,gcl]
    have:=q8T x.w hc
    have:=q8T x.w b1
    split<;>lia
   have leq:Y.s.lst=X.s.lst:=by
    refine Int.le_antisymm (aP.mp λy=>?_) lle
    obtain⟨d,hd⟩:=r6 _ (zB rx.x rY)
    obtain⟨fd,ld⟩:=q33.mp hd
    have nc:¬Y.s.cl.getD d 0<Y.s.lst+k.sp:=λy=>by
     have:d∈Y.s.opt k:=vG.mpr ⟨⟨fd,ld⟩,λ_=>y⟩
     rw[z]at this
     cases this
    have ne:p.b≠d:=λy=>by
     have:=fd.f
     rw[gfi,kD y,eP]at this
     lia
    rw[gcl,kB ne]at nc
    have hd':=fd.b
    rw[eB]at hd'
    have:=x.gp ev d p.b hd' b1
    lia
   refine Nat.succ_lt_succ ?_
   unfold nlc
   rw[eB,eP,leq]
   refine qBA (λc hc y=>?_) ⟨p.b,mL.mpr b1,by rw[hG b2,hG b3];rfl,?_⟩
   ·have hc:=mL.mp hc
    rw[mU,kX,kX]at y ⊢
    obtain⟨y1,y2⟩:=y
    have ne:p.b≠c:=λw=>by
     rw[gfi,kD w]at y1
     lia
    rw[gcl,kB ne]at y2
    refine⟨?_,y2⟩
    rcases(q4P x.w eR).1 c hc with q|q
    ·have:=fr c hc q
     lia
    ·exact q
   ·rw[gfi,kD rfl,hI (by lia)]
    rfl
noncomputable def dOf(p:Pa):List (Str×Int×Bool):=p.mv.map putR++[(Str.ofString "wipe",(p.b:Int),true)]
structure Rms(k:Tm)(X Y:Sx)(qs:List Pa):Prop extends RmX k X Y where
 ps:Y.ps=X.ps++qs
 ln:qs.length≤need k X.s
theorem q86:∀{i:Nat} {X:Sx},Ix k X.s→Wt k X.s→X.g.Ok→need k X.s≤i→∃Y ps ms,Rms k X Y ps∧Y.s.rc=X.s.rc++ps.flatMap dOf++ms.map putR∧((X.rooms k i=some (Y,.ok ())∧Y.s.rd k=true∧ms=[])∨(X.rooms k i=some (Y,.error .dark)∧Y.s.lf=some 0))
 |i,X,x,wt,ok,hi=>by
  cases rd:X.s.rd k with
  |true=>
   refine⟨X,[],[],⟨⟨x,wt,ok,Kp.refl,λ_ _ _ z=>z⟩,by simp,mV _⟩,by simp,.inl ⟨?_,rd,rfl⟩⟩
   cases i with
   |zero=>unfold Sx.rooms;rw[rd,kD rfl]
   |succ i=>unfold Sx.rooms;rw[rd,kD rfl]
  |false=>
   cases i with
   |zero=>
    exfalso
    unfold need at hi
    rw[rd,kB (by decide)]at hi
    split at hi
    ·lia
    ·split at hi<;>lia
   |succ i=>
    cases e:X.room k with
    |mk W o=>
     obtain⟨rx,hh⟩:=q49 x wt ok e
     cases o with
     |error q=>
      cases q with
      |room=>
       obtain⟨_,h⟩:=hh
       obtain⟨ybg,h'⟩:=qH2 x wt rd
       rw[h]at h'
       cases h'
      |dark=>
       obtain⟨dk,eps,ms,erc⟩:=hh
       refine⟨W,[],ms,⟨rx,by rw[eps];simp,mV _⟩,by rw[erc];simp,.inr ⟨?_,dk⟩⟩
       unfold Sx.rooms
       rw[rd,kB (by decide),e]
     |ok p=>
      have lt:=qH3 x wt ok rd e
      obtain⟨eps,erc,_⟩:=hh
      obtain⟨Y,ps,ms,ry,hrc,hr⟩:=q86 (i:=i) rx.x rx.wt rx.ok (by lia)
      refine⟨Y,p::ps,ms,⟨⟨ry.x,ry.wt,ry.ok,rx.kp.trans ry.kp,λm u m6 z=>ry.hv m u m6 (rx.hv m u m6 z)⟩,?_,?_⟩,?_,?_⟩
      ·rw[ry.ps,eps,wA]
       rfl
      ·have:=ry.ln
       rw[mM]
       lia
      ·rw[hrc,erc,wE]
       simp[dOf]
      ·have er:X.rooms k (i+1)=W.rooms k i:=by
        rw[Sx.rooms,rd,kB (by decide),e]
       rw[er]
       exact hr
end
structure AskO(k:Tm)(i:Nat)(X:Sx)(n v:Int)(Y:Sx)(qs:List Pa)(p:Nat):Prop where
 rl:Y.s.rc.length≤X.s.rc.length+17*i+1
 x:Ix k Y.s
 ge:(1+k.ie)*Y.s.q.P≤Y.s.rmX
 ok:Y.g.Ok
 ps:Y.ps=X.ps++qs
 ln:qs.length≤need k X.s
 eB:Y.s.q.B=X.s.q.B
 eP:Y.s.q.P=X.s.q.P
 nm:∀m,(∃p,(m,p)∈Y.s.q.V)↔m=n∨∃p,(m,p)∈X.s.q.V
 hv:∀m u,m≠64→m≠n→Hv X.s m u→Hv Y.s m u
 hn:Hv Y.s n v
 rc:Y.s.rc=X.s.rc++qs.flatMap dOf++[(Str.ofString "put",(p:Int),true)]
structure AskD(k:Tm)(i:Nat)(X:Sx)(Y:Sx)(qs:List Pa):Prop where
 rl:Y.s.rc.length≤X.s.rc.length+17*i+1
 x:Ix k Y.s
 wt:Wt k Y.s
 ok:Y.g.Ok
 ps:Y.ps=X.ps++qs
 ln:qs.length≤need k X.s
 kp:Kp X.s Y.s
 hv:∀m u,m≠64→Hv X.s m u→Hv Y.s m u
 lf:Y.s.lf=some 0
 rc:∃ms,Y.s.rc=X.s.rc++qs.flatMap dOf++List.map putR ms
section
variable{k:Tm}{X:Sx}{n v:Int}
theorem qC8{i:Nat}(x:Ix k X.s)(wt:Wt k X.s)(ok:X.g.Ok)(hi:need k X.s≤i)(n0:0≤n)(n1:n≤64)(hl:(∃p,(n,p)∈X.s.q.V)∨(X.s.q.V.length<59∧X.s.q.V.length+1<(X.s.q.B-(1+k.ie))*X.s.q.P)):(∃Y qs p,X.ask k i n v=some (Y,.ok p)∧AskO k i X n v Y qs p)∨∃Y qs,X.ask k i n v=some (Y,.error .dark)∧AskD k i X Y qs:=by
 obtain⟨Y,ps,ms,r,hrc,⟨hr,rd,e0⟩|⟨hr,dk⟩⟩:=q86 x wt ok hi
 ·have rl:=(q0Q x.w ok hr).2.2.2.1
  have rd:=mF rd
  unfold Sx.ask
  rw[hr]
  dsimp only
  by_cases dk:Y.s.lf=some 0
  ·rw[kD dk]
   exact .inr ⟨Y,ps,rfl,by lia,r.x,r.wt,r.ok,r.ps,r.ln,r.kp,r.hv,dk,ms,hrc⟩
  ·rw[kB dk]
   have rd':=rd
   rw[rN,rO]at rd'
   have hl':(∃p,(n,p)∈Y.s.q.V)∨Y.s.q.V.length<59:=by
    rw[r.kp.lV]
    exact hl.imp (λz=>(r.kp.nm n).mpr z) λz=>z.1
   obtain⟨w',rm'⟩:=r.x.w.put (n:=n) (v:=v) (by lia) n0 n1 hl' dk
   refine .inl ⟨_,ps,_,rfl,?_,r.x.put (by lia) w' ?_,?_,r.ok,r.ps,r.ln,r.kp.eB,r.kp.eP,λm=>?_,λm u m6 mn z=>(r.hv m u m6 z).put r.x.w (by lia) mn,Hv.new,?_⟩
   ·show(Y.s.rc++[_]).length≤_
    rw[kZ,gB]
    lia
   ·show(jE Y.s.q.V n++[_]).length< _
    rw[kZ,gB]
    obtain⟨d1,d2⟩:=q0O (V:=Y.s.q.V) (n:=n) r.x.w.qs.ok.nd
    have lV:=r.kp.lV
    rcases hl with z|⟨_,z⟩
    ·obtain⟨p,hp⟩:=(r.kp.nm n).mpr z
     rw[d2 p hp]
     exact r.x.sh
    ·rw[r.kp.eB,r.kp.eP]
     lia
   ·show(1+k.ie)*Y.s.q.P≤(Y.s.put n v).rmX
    lia
   ·rw[←r.kp.nm m]
    constructor
    ·rintro⟨p,h⟩
     rcases yS.mp h with e|⟨h,_⟩
     ·cases e
      exact .inl rfl
     ·exact .inr ⟨p,h⟩
    ·intro z
     by_cases e:m=n
     ·exact⟨_,yS.mpr (.inl (by rw[e]))⟩
     ·rcases z with z|⟨p,h⟩
      ·exact absurd z e
      ·exact⟨p,yS.mpr (.inr ⟨h,e⟩)⟩
   ·show Y.s.rc++[_]=_
    rw[hrc,e0]
    simp
 ·have rl:=(q0Q x.w ok hr).2.2.2.1
  unfold Sx.ask
  rw[hr]
  exact .inr ⟨Y,ps,rfl,by lia,r.x,r.wt,r.ok,r.ps,r.ln,r.kp,r.hv,dk,ms,hrc⟩
end
section
variable{k:Tm}{s:XS}
theorem WX.lf(w:WX k s){l:Option Int}(h:∀i,l=some i→0≤i):WX k { s with lf:=l }:={ w with l0:=h }
theorem Ix.forg(x:Ix k s)(n:Int):Ix k (s.forg n):=by
 refine⟨x.w.forg n,?_,x.s1,x.gp,x.e2⟩
 have:=(q0O (V:=s.q.V) (n:=n) x.w.qs.ok.nd).1
 have:=x.sh
 show(jE s.q.V n).length< _
 show _ <(s.q.B-(1+k.ie))*s.q.P
 lia
theorem q1B(x:Ix k s):∀(g:List Int),Ix k (s.forgs g)∧(s.forgs g).rmX=s.rmX∧(s.forgs g).rc=s.rc∧(s.forgs g).cl=s.cl∧(s.forgs g).lf=s.lf∧(s.forgs g).q.B=s.q.B∧(s.forgs g).q.P=s.q.P∧(∀m,(∃p,(m,p)∈(s.forgs g).q.V)↔m∉g∧∃p,(m,p)∈s.q.V)∧∀m u,m∉g→Hv s m u→Hv (s.forgs g) m u:=by
 intro g
 induction g generalizing s with
 |nil=>exact⟨x,rfl,rfl,rfl,rfl,rfl,rfl,λm=>by simp[XS.forgs],λm u _ h=>h⟩
 |cons n g ih=>
  obtain⟨a1,a2,a3,a4,a5,a6,a7,a8,a9⟩:=ih (x.forg n)
  refine⟨a1,a2,a3,a4,a5,a6,a7,λm=>?_,λm u hm h=>?_⟩
  ·show(∃p,(m,p)∈((s.forg n).forgs g).q.V)↔_
   rw[a8]
   constructor
   ·rintro⟨h1,p,hp⟩
    obtain⟨h2,h3⟩:=j0.mp hp
    exact⟨λz=>(kI.mp z).elim h3 h1,p,h2⟩
   ·rintro⟨h1,p,hp⟩
    exact⟨λz=>h1 (hU _ z),p,j0.mpr ⟨hp,λz=>h1 (by rw[show m=n from z];exact kU)⟩⟩
  ·exact a9 m u (λz=>hm (hU _ z)) (h.forg λz=>hm (by rw[z];exact kU))
theorem Wt.of(h:(1+k.ie)*s.q.P≤s.rmX):Wt k s:=λz=>by lia
theorem qBB{n:Int}:n∈s.hl↔n≠64∧∃p,(n,p)∈s.q.V:=by
 unfold XS.hl
 rw[cU,mI,kP]
 constructor
 ·rintro⟨⟨y,h,e⟩,h2⟩
  refine⟨mF h2,y.2,?_⟩
  rw[←e]
  exact h
 ·rintro⟨h1,p,hp⟩
  exact⟨⟨_,hp,rfl⟩,hG h1⟩
end
noncomputable def newX(B P:Nat):XS:=⟨⟨P,B,1,[],List.replicate B 0,List.replicate B 0,List.replicate B 0⟩,List.replicate B 0,λ_=>none,none,[]⟩
theorem qH4{k:Tm}{B P:Nat}(b2:B≤16)(p1:1≤P)(p2:P≤16)(hk:1+k.ie<B)(s1:1≤k.sp):Ix k (newX B P)∧(1+k.ie)*P≤(newX B P).rmX:=by
 have r0:∀n i:Nat,(List.replicate n (0:Int)).getD i 0=0:=λn i=>rep8
 have rmE:(newX B P).rmX=B*P:=by
  unfold XS.rmX newX rm clr1
  dsimp only
  have:∀n,((List.range n).map λb=>P-((List.replicate B (0:Int)).getD b 0).toNat).sum=n*P:=λn=>by
   induction n with
   |zero=>simp
   |succ n ih=>
    rw[rF,mJ,aH,ih,rA,List.map_singleton,r0]
    simp
  exact this B
 have le:(1+k.ie)*P≤B*P:=gA _ (by lia)
 have ok:(newX B P).q.Ok:=by
  refine⟨p1,p2,b2,gM,gM,gM,by simp[newX],λq hq=>absurd (show q∈([]:Mp)from hq) (by simp),λq hq=>absurd (show q∈([]:Mp)from hq) (by simp),λb hb=>⟨0,r0 _ _,mV _⟩⟩
 refine⟨⟨⟨⟨ok,λb hb=>?_⟩,λb c _ _ h1 _=>?_,gM,λ_ _ _ _ _=>rfl,λy hy=>absurd (show y∈([]:Mp)from hy) (by simp),by simp[newX],λb=>?_,λb=>?_,gP _,?_,?_,λi e=>by cases e⟩,?_,s1,λ_ b c _ _=>?_,λ_ d c _ _ h _=>absurd (r0 _ _) h⟩,?_⟩
 ·rw[show(newX B P).q.lv=List.replicate B 0 from rfl,r0]
  rfl
 ·unfold jP at h1
  rw[show(newX B P).q.fi=List.replicate B 0 from rfl,r0]at h1
  simp at h1
 ·rw[show(newX B P).cl=List.replicate B 0 from rfl,r0]
  exact⟨gP _,gP _⟩
 ·rw[show(newX B P).q.bo=List.replicate B 0 from rfl,r0]
  exact⟨gP _,by show(0:Int)<1;decide⟩
 ·rw[rmE]
  show k.ie*P≤B*P
  exact gA _ (by lia)
 ·show 0<60
  decide
 ·show 0<(B-(1+k.ie))*P
  exact Nat.mul_pos (by lia) p1
 ·rw[show(newX B P).cl=List.replicate B 0 from rfl,r0,r0]
  lia
 ·rw[rmE]
  exact le
structure Kd(k:Tm)(sh:Int)(sr:Nat)(X:Sx)(KD:Mp):Prop where
 x:Ix k X.s
 wt:Wt k X.s
 ok:X.g.Ok
 nd:(KD.map (·.1)).Nodup
 kb:∀y∈KD,0≤y.1∧y.1<sh
 eq:∀n,n≠64→((∃p,(n,p)∈X.s.q.V)↔n∈KD.map (·.1))
 hv:∀y∈KD,Hv X.s y.1 y.2
 ls:KD.length≤sr
 hs:sr+2≤(X.s.q.B-(1+k.ie))*X.s.q.P
 s57:sr≤57
 h64:sh≤64
section
variable{k:Tm}{sh:Int}{sr:Nat}{X Y:Sx}{KD:Mp}{n v:Int}{i:Nat}{qs:List Pa}{p:Nat}
theorem Kd.pm(h:Kd k sh sr X KD):((X.s.q.V.map (·.1)).filter λn=>decide (n≠64)).Perm (KD.map (·.1)):=by
 refine vW (g9 _ h.x.w.qs.ok.nd) h.nd λy=>?_
 rw[mI,kX]
 constructor
 ·rintro⟨a,b⟩
  refine(h.eq y b).mp ?_
  obtain⟨z,hz,rfl⟩:=kP.mp a
  exact⟨z.2,hz⟩
 ·intro hy
  have:y≠64:=by
   obtain⟨z,hz,rfl⟩:=kP.mp hy
   have:=h.kb z hz
   have:=h.h64
   lia
  obtain⟨p,hp⟩:=(h.eq y this).mpr hy
  exact⟨kP.mpr ⟨_,hp,rfl⟩,this⟩
theorem Kd.lV(h:Kd k sh sr X KD):X.s.q.V.length≤KD.length+1:=by
 have h1:=qJM h.x.w.qs.ok.nd
 have h2:=h.pm.length_eq
 rw[hC]at h2
 lia
theorem Kd.hl(h:Kd k sh sr X KD){n:Int}:n∈X.s.hl↔n∈KD.map (·.1):=by
 rw[qBB]
 constructor
 ·rintro⟨a,b⟩
  exact(h.eq n a).mp b
 ·intro hy
  have:n≠64:=by
   obtain⟨z,hz,rfl⟩:=kP.mp hy
   have:=h.kb z hz
   have:=h.h64
   lia
  exact⟨this,(h.eq n this).mpr hy⟩
theorem q5N{s:XS}(x:Ix k s):need k s≤17:=by
 have b2:=x.w.qs.ok.b2
 by_cases z:(1+k.ie)*s.q.P≤s.rmX
 ·have:=qC7 x z
  split at this<;>lia
 ·unfold need
  split
  ·lia
  ·rw[kD (by lia)]
   split<;>lia
theorem Kd.can(h:Kd k sh sr X KD)(n0:0≤n)(n1:n<sh)(hc:n∈KD.map (·.1)∨KD.length<sr):(∃p,(n,p)∈X.s.q.V)∨(X.s.q.V.length<59∧X.s.q.V.length+1<(X.s.q.B-(1+k.ie))*X.s.q.P):=by
 have:=h.lV
 have:=h.hs
 have:=h.s57
 have:=h.h64
 rcases hc with z|z
 ·exact .inl ((h.eq n (by lia)).mpr z)
 ·exact .inr ⟨by lia,by lia⟩
theorem Kd.can64(h:Kd k sh sr X KD)(ne:KD≠[]):(∃p,((64:Int),p)∈X.s.q.V)∨(X.s.q.V.length<59∧X.s.q.V.length+1<(X.s.q.B-(1+k.ie))*X.s.q.P):=by
 have hs:=h.hs
 have ls:=h.ls
 have s57:=h.s57
 by_cases z:∃p,((64:Int),p)∈X.s.q.V
 ·exact .inl z
 ·have e:(X.s.q.V.map (·.1)).filter (λn=>decide (n≠64))=X.s.q.V.map (·.1):=rH.mpr λy hy=>hG λw=>z (by
   obtain⟨u,hu,rfl⟩:=kP.mp hy
   exact⟨u.2,by rw[←w];exact hu⟩)
  have:=h.pm.length_eq
  rw[e,hC,hC]at this
  exact .inr ⟨by lia,by lia⟩
theorem Kd.wrote(h:Kd k sh sr X KD)(n0:0≤n)(n1:n<sh)(hc:n∈KD.map (·.1)∨KD.length<sr)(a:AskO k i X n v Y qs p):Kd k sh sr Y (putW KD n v):=by
 have h64:=h.h64
 have mp:∀q,q∈putW KD n v↔q=(n,v)∨(q∈KD∧q.1≠n):=λq=>by rw[q46 h.nd,j0]
 have mk:∀m,m∈(putW KD n v).map (·.1)↔m=n∨m∈KD.map (·.1):=λm=>by
  rw[kP,kP]
  constructor
  ·rintro⟨q,hq,rfl⟩
   rcases(mp q).mp hq with e|⟨e,_⟩
   ·rw[e];exact .inl rfl
   ·exact .inr ⟨q,e,rfl⟩
  ·intro z
   by_cases e:m=n
   ·exact⟨(n,v),(mp _).mpr (.inl rfl),e.symm⟩
   ·rcases z with z|⟨q,hq,rfl⟩
    ·exact absurd z e
    ·exact⟨q,(mp _).mpr (.inr ⟨hq,e⟩),rfl⟩
 refine⟨a.x,Wt.of a.ge,a.ok,qD3 h.nd,λy hy=>?_,λm m6=>?_,λy hy=>?_,?_,by rw[a.eB,a.eP];exact h.hs,h.s57,h64⟩
 ·rcases(mp y).mp hy with e|⟨e,_⟩
  ·rw[e];exact⟨n0,n1⟩
  ·exact h.kb y e
 ·rw[a.nm,mk,h.eq m m6]
 ·rcases(mp y).mp hy with e|⟨e,en⟩
  ·rw[e];exact a.hn
  ·have:=h.kb y e
   exact a.hv _ _ (by lia) en (h.hv y e)
 ·unfold putW
  split
  ·rw[hC]
   exact h.ls
  ·rename_i z
   rw[kZ,gB]
   rcases hc with w|w
   ·exfalso
    obtain⟨q,hq,e⟩:=kP.mp w
    exact z (wM.mpr ⟨q,hq,hG e⟩)
   ·lia
theorem Kd.gave(h:Kd k sh sr X KD){b:Int}(a:AskO k i X 64 b Y qs p){g:List Int}(hg:∀m∈g,m≠64):Kd k sh sr ⟨Y.s.forgs g,Y.g,Y.ps⟩ (KD.filter λy=>!decide (y.1∈g)):=by
 have h64:=h.h64
 obtain⟨a1,a2,a3,a4,a5,a6,a7,a8,a9⟩:=q1B a.x g
 have mk:∀y,y∈KD.filter (λy=>!decide (y.1∈g))↔y∈KD∧y.1∉g:=λy=>by
  rw[mI,rD,rE]
 refine⟨a1,Wt.of ?_,a.ok,h.nd.sublist (cK.map _),λy hy=>h.kb y ((mk y).mp hy).1,λm m6=>?_,λy hy=>?_,kO (mB _ _) h.ls,?_,h.s57,h64⟩
 ·show(1+k.ie)*(Y.s.forgs g).q.P≤(Y.s.forgs g).rmX
  rw[a2,a7]
  exact a.ge
 ·rw[a8,a.nm,kP]
  constructor
  ·rintro⟨e1,e|e⟩
   ·exact absurd e m6
   ·obtain⟨y,hy,e⟩:=kP.mp ((h.eq m m6).mp e)
    exact⟨y,(mk y).mpr ⟨hy,by rw[e];exact e1⟩,e⟩
  ·rintro⟨y,hy,rfl⟩
   obtain⟨h1,h2⟩:=(mk y).mp hy
   exact⟨h2,.inr ((h.eq _ m6).mpr (kP.mpr ⟨y,h1,rfl⟩))⟩
 ·obtain⟨h1,h2⟩:=(mk y).mp hy
  have:=h.kb y h1
  exact a9 _ _ h2 (a.hv _ _ (by lia) (by lia) (h.hv y h1))
 ·show sr+2≤((Y.s.forgs g).q.B-(1+k.ie))*(Y.s.forgs g).q.P
  rw[a6,a7,a.eB,a.eP]
  exact h.hs
end
end W1
namespace L2
open PySem PySem.Spec PyProof.Rows
section
variable{X:Cx}{k:Nat}{f W:Addr}{fd:FuncData}{ps:List Str}{sp:Sp}{dvs:List V}{ds:List Value}{x m:Str}{p pos apos:Pos}{e:Expr}{es:List Expr}{t:TA}
theorem qJT{CX:CXT}{E:XK}(b:ClM X.K W m f)(F:FnOk X.prog X.w X.K X.mg X.base CX k f fd ps sp)(hr:Room k X.A)(hg:Gl X x)(hm:X.mg x=some (.ref W))(hb:yN X.K fd ps ds)(hd:Vals dvs ds)(hx:q14 CX X E)(ha:PA X (e::es) t)(hdb:(x==("__debug__":Str))=false:=by decide)
 (he:starEach (e::es) X.env=(false,eval e X.env)::starEach es X.env:=by rfl) (hpl:(backTo pos (starEach es X.env)).any (·.1)=false:=by rfl) {pl:Sem Bool}
 (ht:eval (.Call (.Attribute (.Name x p) m apos) (e::es) [] pos) X.env=(do
  let ov←eval (.Name x p) X.env
  standAt apos.atName
  let(f,first)←holding [ov] (getMethod ov m pl)
  callWith pos f first (backTo pos (starEach (e::es) X.env)) (backToKw pos (keywordEach [] X.env))):=by rfl):
 PE X (.Call (.Attribute (.Name x p) m apos) (e::es) [] pos) (qHK sp dvs E t):=by
 intro pins s σ H Q I h
 refine rW (pl:=pl) (q2V I hg hm ?_ hdb) ht
 refine PySem.W.method_cls I.kIn b.ga (PySem.W.cls_value I.kIn b.rd b.fd rfl ?_)
 refine wO (first:=[]) (h₀:=X.base) I.ok.mod.kin b.kp (thn (ha pos pins _ σ H _ (I.tok _) h) λus s2 ⟨vs,H2,I2,r,q2⟩=>⟨I2.kIn,?_⟩) he hpl
 exact q8C F hr hb hd hx I2 r q2
end
end L2
namespace W1
open PySem L2
structure Pgs(s:XS):Prop where
 wr:∀b f:Nat,b<s.q.B→f<s.q.P→(f:Int)<s.q.fi.getD b 0→∃v,s.pg (b*s.q.P+f)=some v
 mr:∀i v,s.pg i=some v→128≤v.1∧v.1<s.q.nx*128∧v.1%128≤64
 one:∀i j a b,s.pg i=some a→s.pg j=some b→a.1 / 128=b.1 / 128→i=j
 nw:∀y∈s.q.V,∃v,s.pg y.2.toNat=some v∧v.1%128=y.1∧∀j w,s.pg j=some w→w.1%128=y.1→w.1≤v.1
 rl:(∃i v,s.pg i=some v∧v.1%128=64)→∃p,((64:Int),p)∈s.q.V
 bn:∀b,b<s.q.B→(s.q.fi.getD b 0=0→s.q.bo.getD b 0=0)∧(0<s.q.fi.getD b 0→∃v,s.pg (b*s.q.P)=some v∧s.q.bo.getD b 0=v.1 / 128)
section
variable{k:Tm}{s:XS}{n v:Int}{b:Nat}
theorem Pgs.put(h:Pgs s)(w:WX k s)(hr:0<s.rmX)(n0:0≤n)(n1:n≤64):Pgs (s.put n v):=by
 obtain⟨hb,hf,ef,_⟩:=w.spot hr
 have nx1:=w.nx
 have gfi:∀c,(s.put n v).q.fi.getD c 0=if s.pb=c then(s.pf:Int)+1 else s.q.fi.getD c 0:=q6L w.qs.ok.lf hb ef
 have gpg:∀i,(s.put n v).pg i=if i=s.np then some (s.q.nx*128+n,v)else s.pg i:=λi=>rfl
 have npn:s.pg s.np=none:=w.cr s.pb s.pf hb (by rw[ef];exact gP _) hf
 have ene:∀{c f:Nat},f<s.q.P→c*s.q.P+f=s.np→c=s.pb∧f=s.pf:=λhf' e=>q6K hf' hf e
 have enx:(s.put n v).q.nx=s.q.nx+1:=rfl
 refine⟨λc f hc hf' lt=>?_,λi u e=>?_,λi j a c ea ec eq=>?_,λy hy=>?_,λ⟨i,u,e,e6⟩=>?_,λc hc=>?_⟩
 ·have hc:c<s.q.B:=hc
  have hf':f<s.q.P:=hf'
  show ∃u,(s.put n v).pg (c*s.q.P+f)=some u
  rw[gpg]
  split
  ·exact⟨_,rfl⟩
  ·rename_i ne
   rw[gfi]at lt
   refine h.wr c f hc hf' ?_
   split at lt
   ·rename_i z
    have:f≠s.pf:=λz2=>ne (by unfold XS.np;rw[z,z2])
    rw[←z,ef]
    lia
   ·exact lt
 ·rw[gpg]at e
  rw[enx]
  split at e
  ·cases e
   show 128≤s.q.nx*128+n∧s.q.nx*128+n< _∧(s.q.nx*128+n)%128≤64
   lia
  ·obtain⟨a1,a2,a3⟩:=h.mr i u e
   exact⟨a1,by lia,a3⟩
 ·rw[gpg]at ea ec
  split at ea
  ·rename_i zi
   cases ea
   split at ec
   ·rename_i zj
    rw[zi,zj]
   ·obtain⟨_,a2,_⟩:=h.mr j c ec
    have eq:(s.q.nx*128+n) / 128=c.1 / 128:=eq
    lia
  ·split at ec
   ·cases ec
    obtain⟨_,a2,_⟩:=h.mr i a ea
    have eq:a.1 / 128=(s.q.nx*128+n) / 128:=eq
    lia
   ·exact h.one i j a c ea ec eq
 ·rcases yS.mp hy with e|⟨hy,ne⟩
  ·subst e
   refine⟨(s.q.nx*128+n,v),?_,?_,λj u e _=>?_⟩
   ·rw[gpg,kD (by show((s.pb*s.q.P+s.pf:Nat):Int).toNat=s.np;rw[kW];rfl)]
   ·show(s.q.nx*128+n)%128=n
    lia
   ·rw[gpg]at e
    split at e
    ·cases e
     exact gP _
    ·obtain⟨_,a2,_⟩:=h.mr j u e
     show u.1≤s.q.nx*128+n
     lia
  ·obtain⟨u,e1,e2,e3⟩:=h.nw y hy
   refine⟨u,?_,e2,λj x e ex=>?_⟩
   ·rw[gpg,kB λz=>by rw[z,npn]at e1;cases e1]
    exact e1
   ·rw[gpg]at e
    split at e
    ·cases e
     have ex:(s.q.nx*128+n)%128=y.1:=ex
     exact absurd (show y.1=n by lia) ne
    ·exact e3 j x e ex
 ·by_cases z:n=64
  ·exact⟨_,yS.mpr (.inl (by rw[z]))⟩
  ·rw[gpg]at e
   split at e
   ·cases e
    have e6:(s.q.nx*128+n)%128=64:=e6
    lia
   ·obtain⟨p,hp⟩:=h.rl ⟨i,u,e,e6⟩
    exact⟨p,yS.mpr (.inr ⟨hp,λy=>z y.symm⟩)⟩
 ·have hc:c<s.q.B:=hc
  have lo:=w.qs.ok.lo
  have ebo:(s.put n v).q.bo=if s.q.fi.getD s.pb 0=0 then s.q.bo.set s.pb s.q.nx else s.q.bo:=rfl
  rw[gfi]
  show(_→(s.put n v).q.bo.getD c 0=0)∧(_→∃u,(s.put n v).pg (c*s.q.P)=some u∧(s.put n v).q.bo.getD c 0=_)
  obtain⟨b1,b2⟩:=h.bn c hc
  by_cases z:s.pb=c
  ·rw[kD z]
   refine⟨λe=>by lia,λ_=>?_⟩
   rw[gpg,ebo]
   by_cases y:s.q.fi.getD s.pb 0=0
   ·have pf0:s.pf=0:=by rw[ef]at y;lia
    rw[kD (by unfold XS.np;rw[z,pf0];rfl),kD y]
    refine⟨_,rfl,?_⟩
    rw[qZ,kD ⟨z,by rw[lo];exact hb⟩]
    show s.q.nx=(s.q.nx*128+n) / 128
    lia
   ·rw[kB λq=>y (by
     have:=(ene (c:=c) (f:=0) (by lia) (by rw[c7];exact q)).2
     rw[ef,←this];rfl),kB y]
    exact b2 (by rw[←z];rw[ef]at y ⊢;lia)
  ·rw[kB z]
   have nz:¬c*s.q.P=s.np:=λq=>z (ene (c:=c) (f:=0) (by lia) (by rw[c7];exact q)).1.symm
   have eb:(s.put n v).q.bo.getD c 0=s.q.bo.getD c 0:=by
    rw[ebo]
    split
    ·rw[qZ,kB λq=>z q.1]
    ·rfl
   rw[eb,gpg,kB nz]
   exact⟨b1,b2⟩
theorem Pgs.wip(h:Pgs s)(w:WX k s)(hb:b<s.q.B)(nl:∀y∈s.q.V,¬y.2 / (s.q.P:Int)=(b:Int)):Pgs (s.wip b):=by
 have p1:=w.qs.ok.p1
 have gfi:∀c,(s.wip b).q.fi.getD c 0=if b=c then 0 else s.q.fi.getD c 0:=λc=>by
  show(s.q.fi.set b 0).getD c 0=_
  rw[qZ,w.qs.ok.lf]
  by_cases e:b=c
  ·rw[kD ⟨e,hb⟩,kD e]
  ·rw[kB (λz=>e z.1),kB e]
 have gbo:∀c,(s.wip b).q.bo.getD c 0=if b=c then 0 else s.q.bo.getD c 0:=λc=>by
  show(s.q.bo.set b 0).getD c 0=_
  rw[qZ,w.qs.ok.lo]
  by_cases e:b=c
  ·rw[kD ⟨e,hb⟩,kD e]
  ·rw[kB (λz=>e z.1),kB e]
 have gpg:∀i,(s.wip b).pg i=if i / s.q.P=b then none else s.pg i:=λi=>rfl
 have old:∀{i u},(s.wip b).pg i=some u→s.pg i=some u:=fun {i u} e=>by
  rw[gpg]at e
  split at e
  ·cases e
  ·exact e
 have dv:∀{c f:Nat},f<s.q.P→(c*s.q.P+f) / s.q.P=c:=λhf=>yB hf
 refine⟨λc f hc hf lt=>?_,λi u e=>h.mr i u (old e),λi j a c ea ec=>h.one i j a c (old ea) (old ec),λy hy=>?_,λ⟨i,u,e,e6⟩=>h.rl ⟨i,u,old e,e6⟩,λc hc=>?_⟩
 ·have hf:f<s.q.P:=hf
  rw[gfi]at lt
  show ∃u,(s.wip b).pg (c*s.q.P+f)=some u
  rw[gpg,dv hf]
  by_cases z:b=c
  ·rw[kD z]at lt
   lia
  ·rw[kB z]at lt
   rw[kB (λq=>z q.symm)]
   exact h.wr c f hc hf lt
 ·obtain⟨u,e1,e2,e3⟩:=h.nw y hy
  refine⟨u,?_,e2,λj x e=>e3 j x (old e)⟩
  obtain⟨c,f,_,_,hf,e,_⟩:=w.vl y hy
  rw[gpg,kB λq=>nl y hy (by
   rw[e,kW]at q
   rw[e,←dC,q])]
  exact e1
 ·rw[gfi,gbo]
  show _∧(_→∃u,(s.wip b).pg (c*s.q.P)=some u∧_)
  obtain⟨b1,b2⟩:=h.bn c hc
  by_cases z:b=c
  ·rw[kD z,kD z]
   exact⟨λ_=>rfl,λq=>by lia⟩
  ·rw[kB z,kB z,gpg,kB λq=>z (by
    have:=dv (c:=c) (f:=0) (by lia)
    rw[c7]at this
    rw[←q,this])]
   exact⟨b1,b2⟩
theorem Pgs.forg(h:Pgs s){m:Int}(ne:m≠64):Pgs (s.forg m):=⟨h.wr,h.mr,h.one,λy hy=>h.nw y (j0.mp hy).1,λz=>let⟨p,hp⟩:=h.rl z;⟨p,j0.mpr ⟨hp,λy=>ne y.symm⟩⟩,h.bn⟩
theorem Pgs.forgs:∀{g:List Int} {s:XS},Pgs s→(∀m∈g,m≠64)→Pgs (s.forgs g)
 | [],_,h,_=>h
 |m::g,s,h,ne=>Pgs.forgs (g:=g) (h.forg (ne m kU)) λx hx=>ne x (hU _ hx)
end
theorem qFF{B P:Nat}:Pgs (newX B P):=by
 have r0:∀n i:Nat,(List.replicate n (0:Int)).getD i 0=0:=λn i=>rep8
 refine⟨λb f _ _ lt=>?_,λi v e=>(by cases e),λi j a b e=>(by cases e),λy hy=>absurd (show y∈([]:Mp)from hy) (by simp),λ⟨_,_,e,_⟩=>(by cases e),λb _=>⟨λ_=>r0 _ _,λlt=>?_⟩⟩
 ·rw[show(newX B P).q.fi=List.replicate B 0 from rfl,r0]at lt
  lia
 ·rw[show(newX B P).q.fi=List.replicate B 0 from rfl,r0]at lt
  lia
section
variable{F:V→Int→Prop}{kvs:List (Key×V)}{W:Mp}
noncomputable def KvP(F:V→Int→Prop)(kv:Key×V)(x:Int×Int):Prop:=kv.1=Sum.inl x.1∧F kv.2 x.2
theorem qC9{n:Int}:∀{kvs:List (Key×V)} {W:Mp},Paired (KvP F) kvs W→(kvs.any λkv=>decide (kv.1=(Sum.inl n:Key)))=W.any λx=>decide (x.1=n)
 |_,_,.nil=>rfl
 |_,_,.cons (a:=a) (b:=b) h r=>by
  rw[wG,wG,qC9 r,h.1]
  congr 1
  by_cases z:b.1=n
  ·rw[z,hG rfl,hG rfl]
  ·rw[hI z,hI (λy=>z (rB y))]
theorem qCA{n p:Int}{v:V}(hv:F v p):∀{kvs:List (Key×V)} {W:Mp},Paired (KvP F) kvs W→Paired (KvP F) (kvs.map λkv=>if kv.1=(Sum.inl n:Key)then(kv.1,v)else kv) (W.map λx=>if x.1=n then(x.1,p)else x)
 |_,_,.nil=>.nil
 |_,_,.cons (a:=a) (b:=b) h r=>by
  rw[mE,mE]
  refine .cons ?_ (qCA hv r)
  by_cases z:b.1=n
  ·rw[kD z,kD (by rw[h.1,z])]
   exact⟨h.1,hv⟩
  ·rw[kB z,kB (λy=>z (rB (h.1.symm.trans y)))]
   exact h
theorem qH5{n p:Int}{v:V}(h:Paired (KvP F) kvs W)(hv:F v p):Paired (KvP F) (putK kvs (Sum.inl n:Key) v) (putW W n p):=by
 unfold putK putW
 rw[qC9 h]
 split
 ·exact qCA hv h
 ·exact L2.Paired.snoc h ⟨rfl,hv⟩
theorem q8U{n p:Int}:∀{kvs:List (Key×V)} {W:Mp},Paired (KvP F) kvs W→(W.map (·.1)).Nodup→(n,p)∈W→∃v,valV kvs (Sum.inl n:Key)=some v∧F v p
 |_,_,.nil,_,h=>absurd h (by simp)
 |_,_,.cons (a:=a) (b:=b) h r,nd,hm=>by
  rw[mE]at nd
  obtain⟨n1,n2⟩:=m7.mp nd
  rcases kI.mp hm with e|hm
  ·subst e
   exact⟨a.2,zE h.1,h.2⟩
  ·obtain⟨v,a1,a2⟩:=q8U r n2 hm
   refine⟨v,?_,a2⟩
   rw[uV]
   ·exact a1
   ·rw[h.1]
    intro z
    exact n1 (kP.mpr ⟨_,hm,(rB z).symm⟩)
theorem qFG{n:Int}:∀{kvs:List (Key×V)} {W:Mp},Paired (KvP F) kvs W→n∉W.map (·.1)→valV kvs (Sum.inl n:Key)=none
 |_,_,.nil,_=>rfl
 |_,_,.cons (a:=a) (b:=b) h r,hn=>by
  rw[mE]at hn
  rw[uV]
  ·exact qFG r λz=>hn (hU _ z)
  ·rw[h.1]
   intro z
   exact hn (by rw[rB z];simp)
end
noncomputable def wpS(cs:List Int)(d:Str×Int×Bool):List Int:=if d.1=Str.ofString "wipe" then cs.set d.2.1.toNat (cs.getD d.2.1.toNat 0+1)else cs
structure Wp(s:XS):Prop where
 e:s.rc.foldl wpS (List.replicate s.q.B 0)=s.cl
 r:∀d∈s.rc,d.1=Str.ofString "wipe"→∃b:Nat,d.2.1=(b:Int)∧b<s.q.B
 bd:∀i v,s.pg i=some v→i<s.q.B*s.q.P
theorem Wp.put{k:Tm}{s:XS}{n v:Int}(h:Wp s)(w:WX k s)(hr:0<s.rmX):Wp (s.put n v):=by
 refine⟨?_,λd hd e=>?_,λi u e=>?_⟩
 ·show(s.rc++[(Str.ofString "put",(s.np:Int),true)]).foldl wpS (List.replicate s.q.B 0)=s.cl
  rw[wY,h.e]
  rw[nQ,aQ]
  unfold wpS
  exact kB (show ¬Str.ofString "put"=Str.ofString "wipe" by decide)
 ·rcases gO.mp hd with hd|hd
  ·exact h.r d hd e
  ·rw[kE.mp hd]at e
   exact absurd (show Str.ofString "put"=Str.ofString "wipe" from e) (by decide)
 ·have e:(if i=s.np then some (s.q.nx*128+n,v)else s.pg i)=some u:=e
  split at e
  ·rename_i z
   obtain⟨hb,hf,_⟩:=w.spot hr
   rw[z]
   exact qJD hb hf
  ·exact h.bd i u e
theorem Wp.wip{s:XS}{b:Nat}(h:Wp s)(hb:b<s.q.B):Wp (s.wip b):=by
 refine⟨?_,λd hd e=>?_,λi u e=>?_⟩
 ·show(s.rc++[(Str.ofString "wipe",(b:Int),true)]).foldl wpS (List.replicate s.q.B 0)=s.cl.set b (s.cl.getD b 0+1)
  rw[wY,h.e]
  rw[nQ,aQ]
  unfold wpS
  rw[kD rfl]
  show s.cl.set (b:Int).toNat (s.cl.getD (b:Int).toNat 0+1)=_
  rw[kW]
 ·rcases gO.mp hd with hd|hd
  ·exact h.r d hd e
  ·rw[kE.mp hd]
   exact⟨b,rfl,hb⟩
 ·have e:(if i / s.q.P=b then none else s.pg i)=some u:=e
  split at e
  ·cases e
  ·exact h.bd i u e
theorem Wp.forgs{k:Tm}{s:XS}(x:Ix k s)(h:Wp s)(g:List Int):Wp (s.forgs g):=by
 obtain⟨_,_,e1,e2,_,e3,e4,_⟩:=q1B x g
 have ep:∀(g:List Int) (s:XS),(s.forgs g).pg=s.pg:=λg=>by
  induction g with
  |nil=>exact λ_=>rfl
  |cons m g ih=>exact λs=>ih (s.forg m)
 exact⟨by rw[e1,e2,e3];exact h.e,by rw[e1,e3];exact h.r,by rw[ep,e3,e4];exact h.bd⟩
structure Kpr(k:Tm)(R:XS→Prop):Prop where
 p:∀s n v,WX k s→0<s.rmX→0≤n→n≤64→R s→R (s.put n v)
 w:∀s b,WX k s→b<s.q.B→(∀y∈s.q.V,¬y.2 / (s.q.P:Int)=(b:Int))→R s→R (s.wip b)
section
variable{k:Tm}{R:XS→Prop}
theorem Kpr.room(K:Kpr k R){X Y:Sx}{r:Except Rf Pa}(w:WX k X.s)(ok:X.g.Ok)(h:X.room k=(Y,r))(p:R X.s):R Y.s:=by
 unfold Sx.room at h
 cases htk:X.s.tk k X.g with
 |none=>rw[htk]at h;cases h;exact p
 |some ybg=>
  obtain⟨y,b,g'⟩:=ybg
  rw[htk]at h
  dsimp only at h
  have f:=q34 ok htk
  obtain⟨s',n,ms,md,lm,pg,hh⟩:=q5M (λs' _=>R s') w f p (λs' ms n q w' kp ec fb hnp hpb hr dk pg=>K.p s' n _ w' (by lia) (w'.qs.ok.nm _ hnp).1 (w'.qs.ok.nm _ hnp).2 pg)
  rcases hh with⟨e,_,_⟩|⟨e,_,nl⟩
  ·rw[e]at h
   cases h
   exact pg
  ·rw[e]at h
   dsimp only at h
   split at h
   ·cases h;exact pg
   ·cases h
    exact K.w s' b md.w (by rw[md.eB];exact f.b) nl pg
theorem Kpr.rooms(K:Kpr k R):∀{i:Nat} {X Y:Sx} {r:Except Rf Unit},WX k X.s→X.g.Ok→X.rooms k i=some (Y,r)→R X.s→R Y.s
 |0,X,Y,r,w,ok,h,p=>by
  unfold Sx.rooms at h
  split at h
  ·cases h;exact p
  ·cases h
 |i+1,X,Y,r,w,ok,h,p=>by
  unfold Sx.rooms at h
  split at h
  ·cases h;exact p
  ·cases e:X.room k with
   |mk W o=>
    obtain⟨w',ok',_⟩:=qC6 w ok e
    have p':=K.room w ok e p
    rw[e]at h
    cases o with
    |error q=>cases h;exact p'
    |ok q=>exact Kpr.rooms K w' ok' h p'
theorem Kpr.ask(K:Kpr k R){i:Nat}{X Y:Sx}{n v:Int}{r:Except Rf Nat}(w:WX k X.s)(ok:X.g.Ok)(n0:0≤n)(n1:n≤64)(h:X.ask k i n v=some (Y,r))(p:R X.s):R Y.s:=by
 unfold Sx.ask at h
 cases e:X.rooms k i with
 |none=>rw[e]at h;cases h
 |some Zr=>
  obtain⟨Z,o⟩:=Zr
  obtain⟨w',_,_,_,_,rd⟩:=q0Q w ok e
  have p':=K.rooms w ok e p
  rw[e]at h
  cases o with
  |error q=>cases h;exact p'
  |ok u=>
   dsimp only at h
   split at h
   ·cases h;exact p'
   ·cases h
    exact K.p _ n v w' (by have:=mF (rd rfl);lia) n0 n1 p'
end
noncomputable def Pw(s:XS):Prop:=Pgs s∧Wp s
theorem qFH{k:Tm}:Kpr k Pw:=⟨λs n v w hr n0 n1 h=>⟨h.1.put w hr n0 n1,h.2.put w hr⟩,λs b w hb nl h=>⟨h.1.wip w hb nl,h.2.wip hb⟩⟩
structure Lat(pg:Nat→Option (Int×Int))(ok:Int→Prop)(j:Nat)(W:Mp):Prop where
 nd:(W.map (·.1)).Nodup
 fr:∀d∈W,ok d.1∧∃i v,i<j∧d.2=((i:Nat):Int)∧pg i=some v∧v.1%128=d.1∧∀i' w,i'<j→pg i'=some w→w.1%128=d.1→w.1 / 128≤v.1 / 128
 al:∀i w,i<j→pg i=some w→ok (w.1%128)→w.1%128∈W.map (·.1)
theorem Lat.zero{pg:Nat→Option (Int×Int)}{ok:Int→Prop}:Lat pg ok 0 []:=⟨aR,λd hd=>(by cases hd),λi w hi=>absurd hi (nR _)⟩
section
variable{pg:Nat→Option (Int×Int)}{ok:Int→Prop}{j:Nat}{W:Mp}{v:Int×Int}
theorem qH6{W:Mp}{n p:Int}(h:(W.map (·.1)).Nodup):((putW W n p).map (·.1)).Nodup:=by
 unfold putW
 split
 ·rw[gS,gN (g:=(·.1)) λx _=>by
   show(if x.1=n then(x.1,p)else x).1=x.1
   split<;>rfl]
  exact h
 ·rename_i z
  rw[mJ]
  refine wC.mpr ⟨h,by simp,λa ha c hc=>?_⟩
  rw[show c=n by simpa using hc]
  intro e
  obtain⟨x,hx,ex⟩:=kP.mp ha
  exact z (wM.mpr ⟨x,hx,hG (ex.trans e)⟩)
theorem Lat.skip(h:Lat pg ok j W)(no:∀v,pg j=some v→ok (v.1%128)→∃p u,(v.1%128,p)∈W∧pg p.toNat=some u∧v.1 / 128≤u.1 / 128):Lat pg ok (j+1) W:=by
 refine⟨h.nd,λd hd=>?_,λi w hi e o=>?_⟩
 ·obtain⟨o,i,u,hi,e1,e2,e3,e4⟩:=h.fr d hd
  refine⟨o,i,u,by lia,e1,e2,e3,λi' w hi' e em=>?_⟩
  by_cases z:i'=j
  ·subst z
   obtain⟨p,u',hp,e',le⟩:=no w e (by rw[em];exact o)
   rw[em]at hp
   have:p=d.2:=q8S h.nd hp hd
   rw[this,e1,kW,e2]at e'
   cases e'
   exact le
  ·exact e4 i' w (by lia) e em
 ·by_cases z:i=j
  ·subst z
   obtain⟨p,_,hp,_⟩:=no w e o
   exact kP.mpr ⟨_,hp,rfl⟩
  ·exact h.al i w (by lia) e o
theorem Lat.take(h:Lat pg ok j W)(e:pg j=some v)(o:ok (v.1%128))(nw:∀p u,(v.1%128,p)∈W→pg p.toNat=some u→u.1 / 128<v.1 / 128):Lat pg ok (j+1) (putW W (v.1%128) (j:Int)):=by
 refine⟨qH6 h.nd,λd hd=>?_,λi w hi ew ow=>?_⟩
 ·rcases(q46 h.nd).mp hd with rfl|hd
  ·refine⟨o,j,v,rP _,rfl,e,rfl,λi' w hi' e' em=>?_⟩
   by_cases z:i'=j
   ·rw[z,e]at e'
    cases e'
    exact gP _
   ·have em:w.1%128=v.1%128:=em
    have hm:=h.al i' w (by lia) e' (by rw[em];exact o)
    rw[em]at hm
    obtain⟨d,hd,ed⟩:=kP.mp hm
    obtain⟨_,i,u,hi,e1,e2,e3,e4⟩:=h.fr d hd
    have:=e4 i' w (by lia) e' (by rw[em];exact ed.symm)
    have hd':(v.1%128,d.2)∈W:=by rw[←ed];exact hd
    have:=nw d.2 u hd' (by rw[e1,kW];exact e2)
    lia
  ·obtain⟨hd,ne⟩:=j0.mp hd
   obtain⟨o',i,u,hi,e1,e2,e3,e4⟩:=h.fr d hd
   refine⟨o',i,u,by lia,e1,e2,e3,λi' w hi' e' em=>?_⟩
   by_cases z:i'=j
   ·rw[z,e]at e'
    cases e'
    exact absurd em.symm ne
   ·exact e4 i' w (by lia) e' em
 ·have key:∀n,n∈W.map (·.1)∨n=v.1%128→n∈(putW W (v.1%128) (j:Int)).map (·.1):=λn hn=>by
   by_cases z:n=v.1%128
   ·exact kP.mpr ⟨_,(q46 h.nd).mpr (.inl rfl),z.symm⟩
   ·rcases hn with hn|hn
    ·obtain⟨d,hd,ed⟩:=kP.mp hn
     exact kP.mpr ⟨d,(q46 h.nd).mpr (.inr (j0.mpr ⟨hd,λy=>z (ed.symm.trans y)⟩)),ed⟩
    ·exact absurd hn z
  by_cases z:i=j
  ·rw[z,e]at ew
   cases ew
   exact key _ (.inr rfl)
  ·exact key _ (.inl (h.al i w (by lia) ew ow))
end
end W1
namespace L2
open PySem PySem.W PySem.Spec PyProof.Rows
theorem qH7{K:PySem.W.Frag}{l1 l2:Addr}{xs ys:List V}{D:Addr}{H2:Hp}{g:TG}{tc:TT}{te:TE}{σ0:St}{R:Hp→Prop}(Pv:Nat→Hp→Prop)(h0:Pv 0 H2)(hl:∀i H,Pv i H→SqL K H l1 xs∧SqL K H l2 ys)(hle:xs.length≤ys.length)
 (hs:∀(i:Nat) x y T H,xs[i]?=some x→ys[i]?=some y→Pv i H→H T=none→g (.ref T) σ0 (upd H T (.tup [x,y])) λσ5 H5=>tc σ5 H5 λb H6=>if b=true then te σ5 H6 (λv H7=>∃vs,H7 D=some (.lst vs)∧vs.length<sizeLine∧Pv (i+1) (upd H7 D (.lst (vs++[v]))))else Pv (i+1) H6) (hd:∀H,Pv xs.length H→R H):
 ∃W:Nat→Nat→Hp→Prop,(∃m,W 0 m H2)∧∀i m H3,W i m H3→((Itz K l1 l2).stop i H3∧R H3)∨
  ((Itz K l1 l2).go i H3∧∃N:Hp→Prop,(∀H',N H'→∃m',m'<m∧W (i+1) m' H')∧∀x H4,(Itz K l1 l2).yld i H3 x H4→g x σ0 H4 λσ5 H5=>tc σ5 H5 λb H6=>
   if b=true then te σ5 H6 (λv H7=>∃vs,H7 D=some (.lst vs)∧vs.length<sizeLine∧N (upd H7 D (.lst (vs++[v]))))else N H6):=by
 refine⟨λi m H=>m=xs.length-i∧i≤xs.length∧Pv i H,⟨xs.length,by simp,mV _,h0⟩,?_⟩
 rintro i m H ⟨rfl,hi,p⟩
 obtain⟨q1,q2⟩:=hl i H p
 by_cases hlt:i<xs.length
 ·have e1:xs[i]?=some xs[i]:=hX hlt
  have e2:ys[i]?=some (ys[i]'(by lia)):=hX (by lia)
  refine .inr ⟨⟨xs,ys,_,_,q1,q2,e1,e2⟩,Pv (i+1),λH' z=>⟨xs.length-(i+1),by lia,rfl,by lia,z⟩,?_⟩
  rintro v H4 ⟨T,x,y,rfl,nT,rfl,z1,z2⟩
  exact hs i x y T H (z1 _ q1) (z2 _ q2) p nT
 ·obtain rfl:i=xs.length:=by lia
  exact .inl ⟨⟨xs,ys,q1,q2,.inl (kM _)⟩,hd _ p⟩
end L2
namespace W1
open PySem L2
noncomputable def dB(KD:Mp):List (Key×V):=KD.map λy=>((Sum.inl y.1:Key),V.bl true)
theorem qFI{KD:Mp}{n:Int}:q3C (dB KD) (Sum.inl n:Key)=dB (jE KD n):=by
 unfold q3C dB jE
 rw[aG]
 congr 1
 apply wD
 intro q _
 show decide ((Sum.inl q.1:Key)≠Sum.inl n)=decide (q.1≠n)
 by_cases e:q.1=n<;>simp[e]
theorem qH8{KD:Mp}{n p:Int}:putK (dB KD) (Sum.inl n:Key) (.bl true)=dB (putW KD n p):=by
 unfold putK dB putW
 have e:((KD.map λy=>((Sum.inl y.1:Key),V.bl true)).any λkv=>decide (kv.1=Sum.inl n))=KD.any λq=>decide (q.1=n):=by
  rw[bG]
  congr 1
  funext q
  show decide ((Sum.inl q.1:Key)=Sum.inl n)=decide (q.1=n)
  by_cases e:q.1=n
  ·rw[e];simp
  ·rw[hI e,hI (λz=>e (rB z))]
 rw[e]
 by_cases h:(KD.any λq=>decide (q.1=n))=true
 ·rw[kD h,kD h,gS,gS]
  apply gN
  intro q _
  show(if(Sum.inl q.1:Key)=Sum.inl n then((Sum.inl q.1:Key),V.bl true)else((Sum.inl q.1:Key),V.bl true))=((Sum.inl (if q.1=n then(q.1,p)else q).1:Key),V.bl true)
  rw[ite_self]
  split<;>rfl
 ·rw[kB h,kB h,mJ]
  rfl
theorem q4A:∀{KD:Mp} {n:Int},(valV (dB KD) (Sum.inl n:Key)).isSome=decide (n∈KD.map (·.1))
 | [],n=>rfl
 |p::KD,n=>by
  show(valV (((.inl p.1:Key),V.bl true)::dB KD) (.inl n)).isSome=_
  by_cases e:p.1=n
  ·subst e
   rw[zE rfl,hG (by simp)]
   rfl
  ·rw[uV (λz=>e (rB z)),q4A]
   refine cI.mpr ?_
   rw[mE,kI]
   exact⟨.inr,λz=>z.resolve_left λy=>e y.symm⟩
theorem qFJ{KD:Mp}:(dB KD).length=KD.length:=by
 unfold dB
 rw[hC]
noncomputable def clrP(s:XS)(b:Nat):List Int:=(List.range (s.q.P-(s.q.fi.getD b 0).toNat)).map λi=>((b*s.q.P+((s.q.fi.getD b 0).toNat+i):Nat):Int)
noncomputable def opn(s:XS):List Int:=((List.range s.q.B).filter λb=>decide (s.q.fi.getD b 0≠0)).flatMap (clrP s)
noncomputable def sptL(s:XS)(l:List Nat):List Int:=opn s++l.flatMap (clrP s)
theorem q0I{f:Nat→List Int}{b:Nat}:∀{l:List Nat},b∈l→l.Nodup→(∀c∈l,c≠b→f c=[])→l.flatMap f=f b
 | [],h,_,_=>absurd h (by simp)
 |a::l,h,nd,e=>by
  obtain⟨n1,n2⟩:=m7.mp nd
  rw[wE]
  by_cases z:a=b
  ·subst z
   rw[show l.flatMap f=[]from sY.mpr λc hc=>e c (hU _ hc) (λy=>n1 (y▸hc)),gK]
  ·rw[e a kU z,dM]
   exact q0I ((kI.mp h).resolve_left (λy=>z y.symm)) n2 λc hc=>e c (hU _ hc)
section
variable{k:Tm}{s:XS}
theorem qFK{n v:Int}{l:List Nat}(w:WX k s)(hr:0<s.rmX)(hl:FreeIs s.q.B (noB s.q.B) s.cl s.q.fi l):∃l',FreeIs s.q.B (noB s.q.B) s.cl (s.put n v).q.fi l'∧sptL s l=(s.np:Int)::sptL (s.put n v) l':=by
 obtain⟨hb,hf,ef,sp,spl⟩:=w.spot hr
 have gfi:∀c,(s.put n v).q.fi.getD c 0=if s.pb=c then(s.pf:Int)+1 else s.q.fi.getD c 0:=q6L w.qs.ok.lf hb ef
 have p1:=w.qs.ok.p1
 have cs:clrP s s.pb=(s.np:Int)::clrP (s.put n v) s.pb:=by
  unfold clrP
  rw[gfi,kD rfl,ef]
  show _=_::List.map (λi=>((s.pb*s.q.P+(((s.pf:Int)+1).toNat+i):Nat):Int)) (List.range (s.q.P-((s.pf:Int)+1).toNat))
  rw[kW,show((s.pf:Int)+1).toNat=s.pf+1 by lia,show s.q.P-s.pf=(s.q.P-(s.pf+1))+1 by lia,List.range_succ_eq_map,mE,gS,c7]
  refine gX (_:: ·) (gN λi _=>?_)
  show((s.pb*s.q.P+(s.pf+(i+1)):Nat):Int)=((s.pb*s.q.P+(s.pf+1+i):Nat):Int)
  rw[show s.pf+(i+1)=s.pf+1+i by lia]
 have co:∀c,c≠s.pb→clrP (s.put n v) c=clrP s c:=λc hc=>by
  unfold clrP
  rw[gfi,kB (λz=>hc z.symm)]
  rfl
 have oth:∀c,c<s.q.B→c≠s.pb→s.q.fi.getD c 0≠0→clrP s c=[]:=λc hc ne nz=>by
  obtain⟨f,e,le⟩:=w.qs.ok.wr c hc
  have np:jP s.q.P s.q.fi c=false:=by
   rcases sp with z|⟨z,_⟩
   ·cases y:jP s.q.P s.q.fi c with
    |false=>rfl
    |true=>exact absurd (w.on c s.pb hc hb y (dO z)) ne
   ·unfold jM at z
    rw[yD]at z
    have:=dQ.mp z c (mL.mpr hc)
    cases y:jP s.q.P s.q.fi c with
    |false=>rfl
    |true=>exact absurd y this
  have:f=s.q.P:=by
   unfold jP at np
   rw[e]at np nz
   by_cases z:f<s.q.P
   ·rw[hG (show(0:Int)<(f:Int) by lia),hG (show(f:Int)<(s.q.P:Int) by lia)]at np
    cases np
   ·lia
  unfold clrP
  rw[e,this,kW,xO]
  rfl
 have o':opn (s.put n v)=clrP (s.put n v) s.pb:=by
  refine q0I (mI.mpr ⟨mL.mpr hb,hG ?_⟩) (d8.filter _) (λc hc ne=>?_)
  ·rw[gfi,kD rfl]
   lia
  ·obtain⟨h1,h2⟩:=mI.mp hc
   have h2:=mF h2
   rw[gfi,kB (λz=>ne z.symm)]at h2
   rw[co c ne]
   exact oth c (mL.mp h1) ne h2
 have fl:∀l2:List Nat,(∀c∈l2,c≠s.pb)→l2.flatMap (clrP (s.put n v))=l2.flatMap (clrP s):=λl2 h=>by
  rw[xV,xV,gN λc hc=>co c (h c hc)]
 rcases sp with z|⟨z,z0⟩
 ·have f0:=(zH z).2.2.1
  have ne:∀c∈l,c≠s.pb:=λc hc e=>by
   have:=(hl.mem hc).2.2
   rw[e]at this
   lia
  refine⟨l,⟨?_,hl.so⟩,?_⟩
  ·have:yI s.q.B (noB s.q.B) (s.put n v).q.fi=yI s.q.B (noB s.q.B) s.q.fi:=by
    unfold yI
    refine wD λc _=>cI.mpr ?_
    rw[gfi]
    split
    ·rename_i e
     rw[←e]
     lia
    ·exact aI
   rw[this]
   exact hl.pm
  ·unfold sptL
   rw[o',fl l ne,←rQ,←cs]
   refine gX (· ++_) (q0I (mI.mpr ⟨mL.mpr hb,hG (by lia)⟩) (d8.filter _) (λc hc ne=>?_))
   obtain⟨h1,h2⟩:=mI.mp hc
   exact oth c (mL.mp h1) ne (mF h2)
 ·have hd:=spl l hl
  unfold q0M at hd
  rw[z]at hd
  cases l with
  |nil=>cases hd
  |cons a l2=>
   obtain rfl:a=s.pb:=kN hd
   have nd:(s.pb::l2).Nodup:=hl.pm.nodup_iff.mpr ((d8.filter _).filter _)
   obtain⟨n1,n2⟩:=m7.mp nd
   have so:=hl.so
   rw[mE]at so
   refine⟨l2,⟨vW n2 ((d8.filter _).filter _) λc=>?_,(gQ.mp so).2⟩,?_⟩
   ·rw[q31,gfi]
    have:=(hl.pm.mem_iff (a:=c)).trans q31
    rw[kI]at this
    constructor
    ·intro h
     have ne:c≠s.pb:=λe=>n1 (e▸h)
     rw[kB (λe=>ne e.symm)]
     exact this.mp (.inr h)
    ·rintro⟨h1,h2⟩
     split at h2
     ·lia
     ·rename_i ne
      exact(this.mpr ⟨h1,h2⟩).resolve_left (λe=>ne e.symm)
   ·unfold sptL
    rw[o',fl l2 (λc hc e=>n1 (e▸hc)),wE,←rQ,←cs,show opn s=[]from sY.mpr λc hc=>?_,dM]
    obtain⟨h1,h2⟩:=mI.mp hc
    have h2:=mF h2
    exact oth c (mL.mp h1) (λe=>h2 (by rw[e];exact z0)) h2
noncomputable def bhS(s0:XS)(a:Int×(Nat→Option (Int×Int)))(m:List Int):Int×(Nat→Option (Int×Int)):=
 (a.1+1,λj=>if j=(m.getD 2 0).toNat then some ((a.1+1)*128+m.getD 0 0,s0.val (m.getD 1 0) (m.getD 0 0))else a.2 j)
theorem qCB:∀{rs:List (List Int)} {s s':XS} {ms:List (List Int)},XS.mvs rs s=(s',some ms)→List.zipWith (λr e=>[r.getD 1 0,r.getD 0 0,e]) rs (ms.map λm=>m.getD 2 0)=ms∧ms.length=rs.length
 | [],s,s',ms,h=>by
  cases h
  exact⟨rfl,rfl⟩
 |r::rs,s,s',ms,h=>by
  unfold XS.mvs at h
  split at h
  ·cases h
  ·split at h
   ·cases h
   ·rename_i s2 m2 e
    cases h
    obtain⟨i1,i2⟩:=qCB e
    refine⟨?_,by rw[mM,mM,i2]⟩
    rw[mE,c9,i1]
    rfl
theorem qKX{s s':XS}(w:WX k s)(w':WX k s')(kp:Kp s s'):s'.hl=s.hl:=by
 have so:∀s:XS,s.hl.Pairwise (·≤·):=λs=>by
  have:=cW (le:=λa b:Int=>decide (a≤b)) (λa b c h1 h2=>hG (c6 (mF h1) (mF h2))) (λa b=>by
   by_cases z:a≤b
   ·rw[hG z];rfl
   ·rw[hI z,hG (show b≤a by lia)];rfl) ((s.q.V.map (·.1)).filter λn=>decide (n≠64))
  exact this.imp λz=>mF z
 refine q8P (vW ?_ ?_ λn=>?_) (so s') (so s)
 ·exact(cL _ _).nodup_iff.mpr (w'.qs.ok.nd.filter _)
 ·exact(cL _ _).nodup_iff.mpr (w.qs.ok.nd.filter _)
 ·rw[qBB,qBB,kp.nm]
theorem qJU{b:Nat}{s':XS}{ms:List (List Int)}{l:List Nat}(w:WX k s)(f:Full k s b)(hl:FreeIs s.q.B (noB s.q.B) s.cl s.q.fi l)(h:XS.mvs (lvP s.q.P b s.q.V) s=(s',some ms)):
 ms=List.zipWith (λr e=>[r.getD 1 0,r.getD 0 0,e]) (lvP s.q.P b s.q.V) (sptL s l)∧ms.foldl (bhS s) (s.q.nx-1,s.pg)=(s'.q.nx-1,s'.pg)∧ms.length=(lvP s.q.P b s.q.V).length∧ms.length≤(sptL s l).length∧(∀m∈ms,m.length=3∧0≤m.getD 2 0∧(m.getD 2 0).toNat<s.q.B*s.q.P):=by
 obtain⟨sA,n,mA,md,lm,⟨⟨l',hl',e1⟩,e2,e3,e4⟩,hh⟩:=q5M (λs' ms=>(∃l',FreeIs s.q.B (noB s.q.B) s.cl s'.q.fi l'∧sptL s l=ms.map (λm=>m.getD 2 0)++sptL s' l')∧ms.foldl (bhS s) (s.q.nx-1,s.pg)=(s'.q.nx-1,s'.pg)∧(∀j,j / s.q.P=b→s'.pg j=s.pg j)∧∀m∈ms,m.length=3∧0≤m.getD 2 0∧(m.getD 2 0).toNat<s.q.B*s.q.P) w f ⟨⟨l,hl,rfl⟩,rfl,λ_ _=>rfl,λm hm=>by cases hm⟩ (λs' ms n p w' kp ec fb hnp hpb hr dk ⟨⟨l',hl',e1⟩,e2,e3,e4⟩=>by
  have hr0:0<s'.rmX:=by lia
  obtain⟨hb,hf,ef,_⟩:=w'.spot hr0
  have nb:s'.pb≠b:=λz=>by
   rw[z,fb]at ef
   have:=kp.eP
   lia
  have eP:=kp.eP
  have eB:=kp.eB
  have npb:s'.np / s.q.P=s'.pb:=by
   rw[←eP]
   exact yB hf
  obtain⟨l2,h2,h3⟩:=qFK (n:=n) (v:=s'.val p n) w' hr0 (by rw[eB,ec];exact hl')
  rw[eB,ec]at h2
  refine⟨⟨l2,h2,?_⟩,?_,λj hj=>?_,λm hm=>?_⟩
  ·rw[mJ,e1,h3,wA]
   rfl
  ·rw[wY,e2]
   show bhS s _ _=_
   unfold bhS
   have ev:s.val p n=s'.val p n:=by
    unfold XS.val
    rw[qKX w w' kp]
    split
    ·rfl
    ·have:0≤p:=by
      obtain⟨c,g,_,_,_,a3,_⟩:=w'.vl _ hnp
      have a3:p=_:=a3
      rw[a3]
      lia
     rw[e3 p.toNat]
     have h1:((p.toNat / s.q.P:Nat):Int)=(b:Int):=by
      rw[dC,pU this]
      exact hpb
     lia
   show(_,λj=>if j=s'.np then some (_,s.val p n)else _)=_
   rw[ev]
   show(s'.q.nx-1+1,λj=>if j=s'.np then some ((s'.q.nx-1+1)*128+n,_)else _)=(s'.q.nx+1-1,_)
   rw[show s'.q.nx-1+1=s'.q.nx by lia,show s'.q.nx+1-1=s'.q.nx by lia]
   rfl
  ·show(if j=s'.np then _ else s'.pg j)=_
   rw[kB (λz=>nb (by rw[←npb,←z];exact hj))]
   exact e3 j hj
  ·rcases gO.mp hm with hm|hm
   ·exact e4 m hm
   ·rw[kE.mp hm]
    refine⟨rfl,xA _,?_⟩
    show s'.np< _
    rw[←eB,←eP]
    exact(wW w'.qs.ok.p1).mp (by rw[eP,npb];exact hb))
 rcases hh with⟨z,_⟩|⟨z,_⟩
 ·rw[h]at z
  cases z
 ·rw[h]at z
  cases z
  obtain⟨i1,i2⟩:=qCB h
  refine⟨?_,e2,i2,by rw[e1,kZ,hC];lia,e4⟩
  rw[e1]
  have:∀{rs:List (List Int)} {A C:List Int},A.length=rs.length→List.zipWith (λr e=>[r.getD 1 0,r.getD 0 0,e]) rs (A++C)=List.zipWith (λr e=>[r.getD 1 0,r.getD 0 0,e]) rs A:=fun {rs}=>by
   induction rs with
   |nil=>intro A C _;rfl
   |cons r rs ih=>
    intro A C hA
    cases A with
    |nil=>cases hA
    |cons a A=>
     rw[rQ,c9,c9,ih (by simpa using hA)]
  rw[this (by rw[hC];exact i2)]
  exact i1.symm
noncomputable def TopN(s:XS)(n:Int):Prop:=∃p v,(n,p)∈s.q.V∧s.pg p.toNat=some v∧v.1 / 128=s.q.nx-1
noncomputable def Top(s:XS):Prop:=s.q.nx=1∨∃n,TopN s n
theorem qCC{n v:Int}(n0:0≤n)(n1:n≤64):TopN (s.put n v) n:=⟨(s.np:Int),_,yS.mpr (.inl rfl),by
 show(if(s.np:Int).toNat=s.np then _ else _)=_
 rw[kW,kD rfl],by
 show(s.q.nx*128+n) / 128=s.q.nx+1-1
 lia⟩
theorem qCD:Kpr k Top:=⟨λs n v w hr n0 n1 h=>.inr ⟨n,qCC n0 n1⟩,λs b w hb nl h=>h.imp id λ⟨n,p,v,h1,h2,h3⟩=>⟨n,p,v,h1,by
 show(if p.toNat / s.q.P=b then none else s.pg p.toNat)=some v
 rw[kB,h2]
 intro z
 obtain⟨c,g,_,_,_,a3,_⟩:=w.vl _ h1
 have a3:p=_:=a3
 refine nl _ h1 ?_
 show p / (s.q.P:Int)=(b:Int)
 rw[←z,dC,pU (by rw[a3];lia)],h3⟩⟩
theorem qH9{i:Nat}{X Y:Sx}{n v:Int}{p:Nat}(n0:0≤n)(n1:n≤64)(h:X.ask k i n v=some (Y,.ok p)):TopN Y.s n:=by
 unfold Sx.ask at h
 split at h
 ·cases h
 ·cases h
 ·split at h
  ·cases h
  ·cases h
   exact qCC n0 n1
theorem TopN.forgs:∀{g:List Int} {s:XS} {n:Int},TopN s n→n∉g→TopN (s.forgs g) n
 | [],_,_,h,_=>h
 |m::g,s,n,h,ng=>by
  refine TopN.forgs (g:=g) (s:=s.forg m) ?_ (λz=>ng (hU _ z))
  obtain⟨p,v,h1,h2,h3⟩:=h
  exact⟨p,v,j0.mpr ⟨h1,λz=>ng (by rw[←z];exact kU)⟩,h2,h3⟩
theorem Lat.mv{N:Nat}{W:Mp}(h:Lat s.pg (λ_=>True) N W)(p:Pgs s)(vn:∀y∈s.q.V,0≤y.2∧y.2.toNat<N){i:Nat}{v:Int×Int}(e:s.pg i=some v){q:Int}(hq:(v.1%128,q)∈W):(q=(i:Int)∧(v.1%128=64∨∃p,(v.1%128,p)∈s.q.V))↔(v.1%128,(i:Int))∈s.q.V:=by
 obtain⟨_,j,u,hj,ej,epg,en,mx⟩:=h.fr _ hq
 have ej:q=(j:Int):=ej
 have en:u.1%128=v.1%128:=en
 have key:∀r,(v.1%128,r)∈s.q.V→r=(j:Int):=λr hr=>by
  obtain⟨x,u1,u2,u3⟩:=p.nw _ hr
  have u1:s.pg r.toNat=some x:=u1
  have u2:x.1%128=v.1%128:=u2
  obtain⟨q0,qN⟩:=vn _ hr
  have q0:0≤r:=q0
  have m1:=mx r.toNat x qN u1 u2
  have m2:=u3 j _ epg en
  have:j=r.toNat:=p.one j r.toNat _ _ epg u1 (by lia)
  lia
 constructor
 ·rintro⟨e1,e2⟩
  have:∃r,(v.1%128,r)∈s.q.V:=by
   rcases e2 with z|z
   ·obtain⟨r,hr⟩:=p.rl ⟨i,_,e,z⟩
    exact⟨r,by rw[z];exact hr⟩
   ·exact z
  obtain⟨r,hr⟩:=this
  have:=key r hr
  rw[←e1,ej,←this]
  exact hr
 ·intro hr
  exact⟨ej.trans (key _ hr).symm,.inr ⟨_,hr⟩⟩
theorem qDA{V:Mp}{n i:Int}(pd:(V.map (·.2)).Nodup)(h:(n,i)∈V):(V.find? λy=>decide (y.2=i))=some (n,i):=by
 cases e:V.find? λy=>decide (y.2=i)with
 |none=>exact absurd (hG rfl) (dQ.mp e _ h)
 |some y=>
  have h1:=dY e
  have h2:=mF (dO (p:=λy:Int×Int=>decide (y.2=i)) e)
  induction V with
  |nil=>cases h
  |cons a V ih=>
   rw[mE]at pd
   obtain⟨n1,n2⟩:=m7.mp pd
   rcases kI.mp h with z|z<;>rcases kI.mp h1 with z'|z'
   ·rw[z',←z]
   ·exact(n1 (kP.mpr ⟨y,z',by rw[←z];exact h2⟩)).elim
   ·exact(n1 (kP.mpr ⟨_,z,by rw[←z',h2]⟩)).elim
   ·rw[dN]at e
    split at e
    ·cases e
     exact(n1 (kP.mpr ⟨_,z',rfl⟩)).elim
    ·exact ih n2 z e z'
noncomputable def lvF(s:XS)(b f:Nat):List (List Int):=(List.range f).filterMap λf=>(s.q.V.find? λy=>decide (y.2=((b*s.q.P+f:Nat):Int))).map λy=>[y.1,y.2]
theorem q4B{b:Nat}:lvF s b s.q.P=(lvP s.q.P b s.q.V).map λr=>[r.getD 1 0,r.getD 0 0]:=by
 unfold lvF lvP
 rw[List.map_filterMap]
 refine gX (λg=>List.filterMap g (List.range s.q.P)) (funext λf=>?_)
 rw[Option.map_map]
 rfl
theorem qHA{b f:Nat}{n:Int}(w:WX k s)(h:(n,((b*s.q.P+f:Nat):Int))∈s.q.V):lvF s b (f+1)=lvF s b f++[[n,((b*s.q.P+f:Nat):Int)]]:=by
 unfold lvF
 rw[rF,pE,dD,qDA w.pd h]
 rfl
theorem qJV{b f:Nat}(h:∀n,(n,((b*s.q.P+f:Nat):Int))∉s.q.V):lvF s b (f+1)=lvF s b f:=by
 unfold lvF
 have:(s.q.V.find? λy=>decide (y.2=((b*s.q.P+f:Nat):Int)))=none:=dQ.mpr λy hy z=>h y.1 (by
  have:=mF z
  rw[←this]
  exact hy)
 rw[rF,pE,dD,this]
 simp
theorem qHB{X Y:Sx}{p:Pa}{l:List Nat}(x:Ix k X.s)(wt:Wt k X.s)(ok:X.g.Ok)(hl:FreeIs X.s.q.B (noB X.s.q.B) X.s.cl X.s.q.fi l)(h:X.room k=(Y,.ok p)):Full k X.s p.b∧p.mv=List.zipWith (λa e=>[a.getD 0 0,a.getD 1 0,e]) (lvF X.s p.b X.s.q.P) (sptL X.s l)∧(lvF X.s p.b X.s.q.P).length≤(sptL X.s l).length∧(∀m∈p.mv,∃n q e,m=[n,q,e]∧(n,q)∈X.s.q.V∧0≤e∧e.toNat<X.s.q.B*X.s.q.P)∧Y.s.pg=λj=>if j / X.s.q.P=p.b then none else(p.mv.foldl (bhS X.s) (X.s.q.nx-1,X.s.pg)).2 j:=by
 obtain⟨_,_,_,_,_,⟨g',tk⟩,_,_,s',hm,eY,md⟩:=q49 x wt ok h
 have f:=q34 ok tk
 obtain⟨m1,m2,m3,m4,m5⟩:=qJU x.w f hl hm
 have ez:List.zipWith (λa e=>[a.getD 0 0,a.getD 1 0,e]) (lvF X.s p.b X.s.q.P) (sptL X.s l)=List.zipWith (λr e=>[r.getD 1 0,r.getD 0 0,e]) (lvP X.s.q.P p.b X.s.q.V) (sptL X.s l):=by
  rw[q4B,List.zipWith_map_left]
  rfl
 refine⟨f,m1.trans ez.symm,by rw[q4B,hC,←m3];exact m4,λm hmm=>?_,?_⟩
 ·obtain⟨_,b1,b2⟩:=m5 m hmm
  rw[m1]at hmm
  obtain⟨i,hi,rfl⟩:=wI hmm
  rw[List.getElem_zipWith]at b1 b2 ⊢
  rw[lN]at hi
  have hr:(lvP X.s.q.P p.b X.s.q.V)[i]∈lvP X.s.q.P p.b X.s.q.V:=gG (by lia)
  obtain⟨y,hy,_,e⟩:=(q32 x.w.qs.ok.p1 x.w.pd).mp hr
  rw[e]at b1 b2 ⊢
  exact⟨y.1,y.2,_,rfl,hy,b1,b2⟩
 ·rw[eY,m2]
  show(λi=>if i / s'.q.P=p.b then none else s'.pg i)=_
  rw[md.eP]
structure Pk(s:XS):Prop where
 pw:Pw s
 top:Top s
 lf:s.lf=none
 rc:s.q.nx=1∨s.rc≠[]
theorem q4Q:Kpr k Pk:=⟨λs n v w hr n0 n1 h=>⟨qFH.p s n v w hr n0 n1 h.pw,qCD.p s n v w hr n0 n1 h.top,by
 show s.lf.map _=none
 rw[h.lf]
 rfl,.inr (by show s.rc++[_]≠[];simp)⟩,λs b w hb nl h=>⟨qFH.w s b w hb nl h.pw,qCD.w s b w hb nl h.top,by
 show s.lf.map _=none
 rw[h.lf]
 rfl,.inr (by show s.rc++[_]≠[];simp)⟩⟩
theorem qA7:∀{g:List Int} {s:XS},(s.forgs g).q.nx=s.q.nx
 | [],_=>rfl
 |m::g,s=>qA7 (g:=g) (s:=s.forg m)
theorem Pk.forgs{g:List Int}{n:Int}(h:Pk s)(x:Ix k s)(ne:∀m∈g,m≠64)(t:TopN s n)(ng:n∉g):Pk (s.forgs g):=by
 obtain⟨_,_,f3,_,f5,_⟩:=q1B x g
 exact⟨⟨h.pw.1.forgs ne,h.pw.2.forgs x g⟩,.inr ⟨n,t.forgs ng⟩,f5.trans h.lf,by rw[qA7,f3];exact h.rc⟩
theorem qFL{ns:List Int}(nd:ns.Nodup)(h:∀n∈ns,0≤n∧n<64):XS.bits ns=(ns.map λn=>(2:Int) ^ n.toNat).sum:=by
 have nd2:(ns.map Int.toNat).Nodup:=g7.mpr (nd.imp_of_mem fun {a b} ha hb ne z=>ne (by
  have:=h a ha
  have:=h b hb
  lia))
 have l64:∀u∈ns.map Int.toNat,u<64:=λu hu=>by
  obtain⟨y,hy,rfl⟩:=kP.mp hu
  have:=h y hy
  lia
 have e1:orB (ns.map Int.toNat) 0=((ns.map Int.toNat).map λk=>(2:Nat) ^ k).sum:=by
  rw[q8R l64,←q83]
  refine List.Perm.sum_nat ((vW (d8.filter _) nd2 λu=>?_).map _)
  rw[mI,mL,kX]
  exact⟨λz=>z.2,λz=>⟨l64 u z,z⟩⟩
 unfold XS.bits
 rw[e1,gS]
 clear e1 nd2 l64 nd h
 induction ns with
 |nil=>rfl
 |cons a r ih=>
  rw[mE,mE,dJ,dJ,←ih,dX]
  congr 1
theorem Kd.made{sh:Int}{sr:Nat}{X Y:Sx}{KD:Mp}(h:Kd k sh sr X KD)(a:RmX k X Y):Kd k sh sr Y KD:=by
 have h64:=h.h64
 exact⟨a.x,a.wt,a.ok,h.nd,h.kb,λm m6=>by rw[a.kp.nm,h.eq m m6],λy hy=>a.hv _ _ (by have:=h.kb y hy;lia) (h.hv y hy),h.ls,by rw[a.kp.eB,a.kp.eP];exact h.hs,h.s57,h64⟩
theorem Kd.bits{sh:Int}{sr:Nat}{X:Sx}{KD:Mp}(h:Kd k sh sr X KD):(KD.map λy=>(2:Int) ^ y.1.toNat).sum=XS.bits X.s.hl:=by
 have h64:=h.h64
 have kb:∀n∈KD.map (·.1),0≤n∧n<64:=λn hn=>by
  obtain⟨y,hy,rfl⟩:=kP.mp hn
  have:=h.kb y hy
  lia
 have e:=qFL h.nd kb
 rw[gS]at e
 refine e.symm.trans ?_
 have l64:∀{l:List Int},(∀n∈l,0≤n∧n<64)→∀u∈l.map Int.toNat,u<64:=fun {l} hl u hu=>by
  obtain⟨y,hy,rfl⟩:=kP.mp hu
  have:=hl y hy
  lia
 unfold XS.bits
 rw[q8R (l64 kb),q8R (l64 λn hn=>kb n (h.hl.mp hn))]
 refine gX _ (q3H 64 λu _=>cI.mpr ?_)
 rw[kP,kP]
 exact exists_congr λa=>and_congr_left λ_=>h.hl.symm
end
end W1
namespace L2
open PySem
theorem q4R{K:PySem.W.Frag}{a:Addr}{xs:List V}{g:TG}{tb:TS}{D:Ends}{σ:St}{H:Hp}(Pv:Nat→St→Hp→Prop)(h0:Pv 0 σ H)(hl:∀i σ H,i≤xs.length→Pv i σ H→SqL K H a xs)
 (hs:∀i x σ H (D':Ends),(∀σ' H',Pv (i+1) σ' H'→D'.nx σ' H')→xs[i]?=some x→Pv i σ H→g x σ H λσ2 H2=>tb D' σ2 H2) (hd:∀σ H,Pv xs.length σ H→D.nx σ H):
 ∃W:Nat→Nat→St→Hp→Prop,(∃m,W 0 m σ H)∧∀i m σ H,W i m σ H→
  ((Itl K a).stop i H∧D.nx σ H)∨((Itl K a).go i H∧∃N:St→Hp→Prop,(∀σ' H',N σ' H'→∃m',m'<m∧W (i+1) m' σ' H')∧∀x H',(Itl K a).yld i H x H'→g x σ H' λσ2 H2=>tb { D with nx:=N,ct:=N,bk:=D.nx } σ2 H2):=
 vH Pv h0 hl (λi x σ H hx p=>hs i x σ H _ (λ_ _ q=>q) hx p) hd
theorem zI{lo:Int}{n:Nat}{g:TG}{tb:TS}{D:Ends}{σ:St}{H:Hp}(Pv:Nat→St→Hp→Prop)(h0:Pv 0 σ H)
 (hs:∀i σ H (D':Ends),(∀σ' H',Pv (i+1) σ' H'→D'.nx σ' H')→i<n→Pv i σ H→g (.int (lo+i)) σ H λσ2 H2=>tb D' σ2 H2) (hd:∀σ H,Pv n σ H→D.nx σ H):
 ∃W:Nat→Nat→St→Hp→Prop,(∃m,W 0 m σ H)∧∀i m σ H,W i m σ H→
  ((Itr lo n).stop i H∧D.nx σ H)∨((Itr lo n).go i H∧∃N:St→Hp→Prop,(∀σ' H',N σ' H'→∃m',m'<m∧W (i+1) m' σ' H')∧∀x H',(Itr lo n).yld i H x H'→g x σ H' λσ2 H2=>tb { D with nx:=N,ct:=N,bk:=D.nx } σ2 H2):=
 q7N Pv h0 (λi σ H hx p=>hs i σ H _ (λ_ _ q=>q) hx p) hd
theorem iV{σ:St}{i:Nat}{v:V}{Q:V→Prop}(e:σ[i]?=some (some v))(q:Q v):∃v,σ[i]?=some (some v)∧Q v:=⟨v,e,q⟩
theorem iF{K:PySem.W.Frag}{H:Hp}{f:Str}{a C d:Addr}{fs:List (Str×V)}{v:V}{Q:V→Prop}(o:H a=some (.ins C d fs))(cl:Cls K C)(na:qQ K C f)(lk:fs.lookup f=some v)(q:Q v):
 ∃a' C dx fs v,V.ref a=.ref a'∧H a'=some (.ins C dx fs)∧Cls K C∧qQ K C f∧fs.lookup f=some v∧Q v:=⟨a,C,d,fs,v,rfl,o,cl,na,lk,q⟩
theorem iM{H:Hp}{m:Str}{a C d:Addr}{fs:List (Str×V)}{q:Prop}(o:H a=some (.ins C d fs))(lk:fs.lookup m=none)(k:q):
 ∃a' dx fs,V.ref a=.ref a'∧H a'=some (.ins C dx fs)∧fs.lookup m=none∧q:=⟨a,d,fs,rfl,o,lk,k⟩
theorem iI{i j:Int}{Q:Int→Int→Prop}(q:Q i j):∃i' j',V.int i=.int i'∧V.int j=.int j'∧Q i' j':=⟨i,j,rfl,rfl,q⟩
theorem iL{K:PySem.W.Frag}{H:Hp}{p:Addr}{xs:List V}{k:Int}{v:V}{Q:V→Prop}(h:SqL K H p xs)(e:atI xs k=some v)(q:Q v):∃p' xs k' v,V.ref p=.ref p'∧V.int k=.int k'∧SqL K H p' xs∧atI xs k'=some v∧Q v:=⟨p,xs,k,v,rfl,rfl,h,e,q⟩
theorem iT{K:PySem.W.Frag}{H:Hp}{p:Addr}{xs:List V}{k:Int}{v:V}{Q:V→Prop}(h:SqT K H p xs)(e:atI xs k=some v)(q:Q v):∃p' xs k' v,V.ref p=.ref p'∧V.int k=.int k'∧SqT K H p' xs∧atI xs k'=some v∧Q v:=⟨p,xs,k,v,rfl,rfl,h,e,q⟩
end L2
namespace L2
open PySem PySem.Spec PyProof.Rows
structure Fn1(K:PySem.W.Frag)(x q:Str)(st:Stmt)(f:Addr)(ps:List Str) where
 fd:FuncData
 F:FunD K x q st .none f fd
 b:yN K fd ps []
noncomputable abbrev Fn1.Ok0{K:PySem.W.Frag}{x q:Str}{st:Stmt}{f:Addr}{ps:List Str}(F:Fn1 K x q st f ps)(P:Program)(w:World)(mg:Str→Option Value)(base:Heap)(k:Nat)(sp:Sp):Prop:=FnOk P w K mg base CX0 k f F.fd ps sp
noncomputable abbrev Fn1.OkE{K:PySem.W.Frag}{x q:Str}{st:Stmt}{f:Addr}{ps:List Str}(F:Fn1 K x q st f ps)(P:Program)(w:World)(mg:Str→Option Value)(base:Heap)(k:Nat)(sp:Sp):Prop:=FnOk P w K mg base (CXe P w) k f F.fd ps sp
noncomputable abbrev FnX(K:PySem.W.Frag)(x q:Str)(st:Stmt)(f:Addr):Prop:=∃fd,FunD K x q st .none f fd
section
variable{K:PySem.W.Frag}{x q:Str}{st:Stmt}{f:Addr}{ps:List Str}
noncomputable def BnX(x q:Str)(st:Stmt)(ps:List Str):Prop:=∀(kV doc pm:Value) (an:Option Addr) (cdv ct:Value) (us:List Value),us.length=ps.length→bindArgs (PySem.W.fnOf x q (yR st) (yG st) (qG st) .none kV doc pm an cdv ct) ⟨us,[]⟩=pure (ps.zip us)
theorem fn1b(h:BnX x q st ps){fd:FuncData}(F:FunD K x q st .none f fd):yN K fd ps []:=by
 obtain⟨oc,od,kV,doc,pm,an,cdv,ct,osl,rfl,lk,hcd⟩:=F.ex
 exact yN.all λus hl=>h kV doc pm an cdv ct us hl
theorem lnx{us:List Value}{n:Nat}(h:us.length=n):us=(List.range n).map (us.getD · .none):=by
 subst h
 refine cG (by simp) λi h1 h2=>?_
 simp[hX h1]
theorem bnx(h:∀kV doc pm an cdv ct (g:Nat→Value),bindArgs (PySem.W.fnOf x q (yR st) (yG st) (qG st) .none kV doc pm an cdv ct) ⟨(List.range ps.length).map g,[]⟩=pure (ps.zip ((List.range ps.length).map g))):BnX x q st ps:=λkV doc pm an cdv ct us hl=>by
 rw[lnx hl]
 exact h ..
noncomputable def fn1 (l:FnX K x q st f) (h:∀kV doc pm an cdv ct (g:Nat→Value),bindArgs (PySem.W.fnOf x q (yR st) (yG st) (qG st) .none kV doc pm an cdv ct) ⟨(List.range ps.length).map g,[]⟩=pure (ps.zip ((List.range ps.length).map g)):=by intros;rfl):Fn1 K x q st f ps:=⟨l.choose,l.choose_spec,fn1b (bnx h) l.choose_spec⟩
theorem FnX.bind1{a:Str}{fd:FuncData}(h:∀kV doc pm an cdv ct u,bindArgs (PySem.W.fnOf x q (yR st) (yG st) (qG st) .none kV doc pm an cdv ct) ⟨[u],[]⟩=pure [(a,u)])(F:FunD K x q st .none f fd)(s:Shared)(v:Value):BindsTo s fd ⟨[v],[]⟩ [(a,v)]:=by
 obtain⟨oc,od,kV,doc,pm,an,cdv,ct,osl,rfl,lk,hcd⟩:=F.ex
 exact .of_eq (h kV doc pm an cdv ct v)
theorem FnX.of{oc:Value}{od an:Option Addr}{osl:Array (Option Value)}{kV doc pm cdv ct:Value}(l:K.lookup f=some ⟨oc,od,.func (PySem.W.fnOf x q (yR st) (yG st) (qG st) .none kV doc pm an cdv ct),osl⟩)(c:PySem.W.codeIn K cdv q=true):FnX K x q st f:=⟨_,FunD.mk' l c⟩
theorem qV{N P:List Str}{sc:Scope}(h:(sc.kind=.function∧sc.isCoroutine=false∧sc.isGenerator=false)∧N.Nodup∧N.take P.length=P∧(∀x∈P,sc.names.lookup x=some .local∨sc.names.lookup x=some .cell)∧∀y∈sc.names,y.2≠ .free):FnScope N P sc:=⟨h.1.1,h.1.2.1,h.1.2.2,h.2.1,h.2.2.1,h.2.2.2.1,h.2.2.2.2⟩
end
noncomputable abbrev GFn(K:PySem.W.Frag)(n:Str)(f:Addr):Prop:=PySem.W.nsIn K mainGlobals n=some (some (.ref f))∧PySem.W.keepIn K (.ref f)=true
theorem sz0:0≤sizeLine:=by decide
theorem sz1:1≤sizeLine:=by decide
theorem sz2:2≤sizeLine:=by decide
theorem sz3:3≤sizeLine:=by decide
theorem sz4:4≤sizeLine:=by decide
theorem sz5:5≤sizeLine:=by decide
end L2
namespace W1
open PySem L2
noncomputable def top(i:Nat):Stmt:=PySem.Challenge.pw_wornpages_k34_a_paper.main.body.getD i (.Pass ⟨0,0,0,0⟩)
noncomputable abbrev q3I:Stmt:=(top 15)
noncomputable abbrev q25:Stmt:=(top 16)
noncomputable abbrev q3J:Stmt:=(top 17)
noncomputable abbrev q3K:Stmt:=(top 18)
noncomputable abbrev q4S:Stmt:=(top 22)
noncomputable abbrev q4T:Stmt:=(top 23)
noncomputable abbrev q26:Stmt:=(qM (top 25) 0)
noncomputable abbrev q27:Stmt:=(qM (top 25) 1)
noncomputable abbrev q28:Stmt:=(qM (top 25) 2)
noncomputable abbrev zY:Stmt:=(qM (top 25) 3)
noncomputable abbrev zJ:Stmt:=(qM (top 25) 4)
noncomputable abbrev uX:Stmt:=(qM (top 25) 6)
noncomputable abbrev q29:Stmt:=(qM (top 25) 7)
noncomputable abbrev q1C:Stmt:=(qM (top 27) 0)
noncomputable abbrev q1D:Stmt:=(qM (top 27) 1)
noncomputable abbrev jU:Stmt:=(qM (top 27) 2)
noncomputable abbrev q1E:Stmt:=(qM (top 27) 3)
noncomputable abbrev q1F:Stmt:=(qM (top 27) 4)
noncomputable abbrev zZ:Stmt:=(qM (top 27) 6)
noncomputable abbrev vA:Stmt:=(qM (top 27) 8)
noncomputable abbrev q2A:Stmt:=(qM (top 27) 9)
noncomputable abbrev q00:Stmt:=(qM (top 27) 10)
noncomputable abbrev vM:Stmt:=(qM (top 27) 11)
noncomputable abbrev q1G:Stmt:=(qM (top 27) 13)
noncomputable abbrev uG:Stmt:=(qM (top 27) 14)
noncomputable abbrev uH:Stmt:=(qM (top 27) 15)
noncomputable abbrev q3L:Stmt:=(top 29)
noncomputable abbrev q1H:Stmt:=(qM (top 30) 0)
noncomputable abbrev vO:Stmt:=(qM (top 30) 2)
noncomputable abbrev q01:Stmt:=(qM (top 30) 3)
noncomputable abbrev q02:Stmt:=(qM (top 30) 4)
noncomputable abbrev uY:Stmt:=(qM (top 30) 5)
noncomputable abbrev yT:Stmt:=(qM (top 30) 6)
noncomputable abbrev vP:Stmt:=(qM (top 30) 7)
noncomputable abbrev zK:Stmt:=(qM (top 30) 8)
noncomputable abbrev yU:Stmt:=(qM (top 30) 9)
noncomputable abbrev q03:Stmt:=(qM (top 30) 10)
noncomputable abbrev u6:Stmt:=(qM (top 30) 11)
noncomputable abbrev q04:Stmt:=(qM (top 30) 12)
noncomputable abbrev uZ:Stmt:=(qM (top 30) 13)
noncomputable abbrev v3:Stmt:=(qM (top 30) 14)
noncomputable abbrev uM:Stmt:=(qM (top 30) 15)
noncomputable abbrev uN:Stmt:=(qM (top 30) 16)
noncomputable abbrev q2B:Stmt:=(top 32)
noncomputable abbrev uT:Stmt:=(qM (top 33) 0)
noncomputable abbrev q3M:Stmt:=(qM (top 33) 1)
noncomputable abbrev q2C:Stmt:=(qM (top 33) 2)
noncomputable abbrev q2D:Stmt:=(qM (top 33) 3)
noncomputable abbrev zL:Stmt:=(qM (top 33) 6)
noncomputable abbrev zM:Stmt:=(qM (top 33) 7)
noncomputable abbrev q05:Stmt:=(qM (top 33) 8)
noncomputable abbrev q1I:Stmt:=(qM (top 33) 9)
noncomputable abbrev v4:Stmt:=(qM (top 33) 10)
noncomputable abbrev uO:Stmt:=(qM (top 33) 11)
noncomputable abbrev uP:Stmt:=(qM (top 33) 12)
noncomputable abbrev v5:Stmt:=(qM (top 33) 13)
noncomputable abbrev vQ:Stmt:=(qM (top 33) 14)
noncomputable abbrev zN:Stmt:=(qM (top 33) 15)
noncomputable abbrev q06:Stmt:=(top 35)
noncomputable abbrev vB:Stmt:=(top 36)
noncomputable abbrev v6:Stmt:=(qM (top 37) 0)
noncomputable abbrev q07:Stmt:=(qM (top 37) 1)
noncomputable abbrev uI:Stmt:=(qM (top 38) 0)
noncomputable abbrev uJ:Stmt:=(qM (top 39) 0)
noncomputable abbrev uA:Stmt:=(qM (top 41) 0)
noncomputable abbrev zO:Stmt:=(qM (top 41) 1)
noncomputable abbrev q08:Stmt:=(top 43)
noncomputable abbrev q2E:Stmt:=(top 44)
noncomputable abbrev q2F:Stmt:=(top 45)
noncomputable abbrev q2G:Stmt:=(top 46)
noncomputable abbrev q3N:Stmt:=(top 47)
noncomputable abbrev q2H:Stmt:=(top 48)
noncomputable abbrev q2I:Stmt:=(top 49)
noncomputable abbrev q1J:Stmt:=(top 50)
noncomputable abbrev q2J:Stmt:=(top 51)
noncomputable abbrev q3O:Stmt:=(top 52)
noncomputable abbrev qFM:Stmt:=(top 53)
set_option genInjectivity false in
structure Adr where
 (f_is_whole f_is_within f_is_shape f_is_value f_mark_of f_bits_of f_Book_init f_Book_mark f_Book_note f_Book_forget f_Book_emptied f_Book_live_pages f_Book_held f_Plain_init f_Plain_good f_Plain_free f_Plain_part f_Plain_spot f_Plain_ready f_Plain_set_down f_Plain_lay f_Plain_write f_Plain_give_up f_Plain_held f_Plain_check_sheet f_Plain_check_share f_paper_of f_Store_init f_Store_reserve f_Store_tally f_Store_space f_Store_full_ones f_Store_with_dead_page f_Store_options f_Store_choice f_Store_choice_by_rule f_Store_moved f_Store_value_to_move f_Store_wiped f_Store_clear_out f_Store_make_room f_Store_make_ready f_Store_make_rooms f_limits_of f_Chip_init f_Chip_put f_Chip_wipe f_Chip_read f_Chip_is_dark f_Chip_cleared f_Chip_failed f_Chip_deeds f_Chip_check_page f_Chip_check_block f_Chip_check_power f_Chip_check_deed f_Chip_is_spent f_Chip_do_deed f_is_unbeaten f_first_unbeaten f_Rule_goes_ahead f_Rule_choose f_Fewest_goes_ahead f_Eldest_goes_ahead f_Terms_init f_Terms_closed f_law_cell_at f_law_whole f_law_shape f_law_sheet f_law_bits f_law_moves f_law_spots f_law_behind f_law_paper f_law_made f_law C_Book C_Plain C_Store C_Chip C_Rule C_Fewest C_Eldest C_Terms C_PowerGone C_NoRoom:Addr)
 iG:Tok
 aBM:Tok
 aAF:Tok
 t6:Addr
 bJ:Addr
structure Txt(K:W.Frag)(mg:Str→Option Value)(t:Adr):Prop where
 aDN:mg "Book"=some (.ref t.C_Book)
 bO:Cls K t.C_Book
 aA1:qQ K t.C_Book "blocks"
 fR:qQ K t.C_Book "pages"
 b8:qQ K t.C_Book "stamp"
 eJ:qQ K t.C_Book "where"
 iA:qQ K t.C_Book "live"
 bS:qQ K t.C_Book "filled"
 iB:qQ K t.C_Book "born"
 aCU:Meth K t.C_Book "mark" t.f_Book_mark
 aCI:Meth K t.C_Book "note" t.f_Book_note
 tM:Meth K t.C_Book "forget" t.f_Book_forget
 aA0:Meth K t.C_Book "emptied" t.f_Book_emptied
 tV:Meth K t.C_Book "live_pages" t.f_Book_live_pages
 aCV:Meth K t.C_Book "held" t.f_Book_held
 aDO:Mk K t.C_Book t.f_Book_init
 aDH:mg "Plain"=some (.ref t.C_Plain)
 aDG:mg "Store"=some (.ref t.C_Store)
 bK:Cls K t.C_Store
 b9:qQ K t.C_Store "chip"
 bN:qQ K t.C_Store "terms"
 bM:qQ K t.C_Store "book"
 fS:qQ K t.C_Store "rule"
 fB:qQ K t.C_Store "papers"
 oC:Meth K t.C_Store "reserve" t.f_Store_reserve
 aBS:Meth K t.C_Store "tally" t.f_Store_tally
 aBU:Meth K t.C_Store "space" t.f_Store_space
 tW:Meth K t.C_Store "full_ones" t.f_Store_full_ones
 i6:Meth K t.C_Store "with_dead_page" t.f_Store_with_dead_page
 fY:Meth K t.C_Store "options" t.f_Store_options
 aA2:Meth K t.C_Store "choice" t.f_Store_choice
 i5:Meth K t.C_Store "choice_by_rule" t.f_Store_choice_by_rule
 aBF:Meth K t.C_Store "moved" t.f_Store_moved
 oI:Meth K t.C_Store "value_to_move" t.f_Store_value_to_move
 aBL:Meth K t.C_Store "wiped" t.f_Store_wiped
 tS:Meth K t.C_Store "clear_out" t.f_Store_clear_out
 iS:Meth K t.C_Store "make_room" t.f_Store_make_room
 iE:Meth K t.C_Store "make_ready" t.f_Store_make_ready
 tL:Meth K t.C_Store "make_rooms" t.f_Store_make_rooms
 oQ:Meth K t.C_Store "good" t.f_Plain_good
 oR:Meth K t.C_Store "free" t.f_Plain_free
 oK:Meth K t.C_Store "part" t.f_Plain_part
 aCB:Meth K t.C_Store "spot" t.f_Plain_spot
 aBD:Meth K t.C_Store "ready" t.f_Plain_ready
 aAC:Meth K t.C_Store "set_down" t.f_Plain_set_down
 o8:Meth K t.C_Store "lay" t.f_Plain_lay
 aBC:Meth K t.C_Store "write" t.f_Plain_write
 aAP:Meth K t.C_Store "give_up" t.f_Plain_give_up
 oG:Meth K t.C_Store "held" t.f_Plain_held
 fX:Meth K t.C_Store "check_sheet" t.f_Plain_check_sheet
 tF:Meth K t.C_Store "check_share" t.f_Plain_check_share
 aC8:Mk K t.C_Store t.f_Store_init
 aDM:mg "Chip"=some (.ref t.C_Chip)
 bL:Cls K t.C_Chip
 eF:qQ K t.C_Chip "blocks"
 eA:qQ K t.C_Chip "pages"
 aAA:qQ K t.C_Chip "most"
 oW:qQ K t.C_Chip "limits"
 fA:qQ K t.C_Chip "borne"
 eI:qQ K t.C_Chip "clearings"
 fZ:qQ K t.C_Chip "deed_counts"
 iO:qQ K t.C_Chip "broken"
 eG:qQ K t.C_Chip "deeds_left"
 iH:qQ K t.C_Chip "record"
 aCY:Meth K t.C_Chip "put" t.f_Chip_put
 aCK:Meth K t.C_Chip "wipe" t.f_Chip_wipe
 tG:Meth K t.C_Chip "read" t.f_Chip_read
 aA6:Meth K t.C_Chip "is_dark" t.f_Chip_is_dark
 iK:Meth K t.C_Chip "cleared" t.f_Chip_cleared
 aBK:Meth K t.C_Chip "failed" t.f_Chip_failed
 oO:Meth K t.C_Chip "deeds" t.f_Chip_deeds
 iX:Meth K t.C_Chip "check_page" t.f_Chip_check_page
 fE:Meth K t.C_Chip "check_block" t.f_Chip_check_block
 iC:Meth K t.C_Chip "check_power" t.f_Chip_check_power
 iY:Meth K t.C_Chip "check_deed" t.f_Chip_check_deed
 oP:Meth K t.C_Chip "is_spent" t.f_Chip_is_spent
 oS:Meth K t.C_Chip "do_deed" t.f_Chip_do_deed
 aDL:Mk K t.C_Chip t.f_Chip_init
 aDK:mg "Rule"=some (.ref t.C_Rule)
 aC4:Cls K t.C_Rule
 tZ:Meth K t.C_Rule "goes_ahead" t.f_Rule_goes_ahead
 aBG:Meth K t.C_Rule "choose" t.f_Rule_choose
 aDB:Mk0 K t.C_Rule
 aC3:mg "Fewest"=some (.ref t.C_Fewest)
 aCD:Cls K t.C_Fewest
 tK:Meth K t.C_Fewest "goes_ahead" t.f_Fewest_goes_ahead
 aAQ:Meth K t.C_Fewest "choose" t.f_Rule_choose
 aC0:Mk0 K t.C_Fewest
 aC1:mg "Eldest"=some (.ref t.C_Eldest)
 aCC:Cls K t.C_Eldest
 oZ:Meth K t.C_Eldest "goes_ahead" t.f_Eldest_goes_ahead
 aAM:Meth K t.C_Eldest "choose" t.f_Rule_choose
 aCW:Mk0 K t.C_Eldest
 aC9:mg "Terms"=some (.ref t.C_Terms)
 bR:Cls K t.C_Terms
 eZ:qQ K t.C_Terms "blocks"
 bQ:qQ K t.C_Terms "pages"
 oM:qQ K t.C_Terms "sheets"
 oX:qQ K t.C_Terms "share"
 oE:qQ K t.C_Terms "ill"
 aAH:qQ K t.C_Terms "spread"
 aA8:Meth K t.C_Terms "closed" t.f_Terms_closed
 aDA:Mk K t.C_Terms t.f_Terms_init
 aCA:mg "PowerGone"=some (.ref t.C_PowerGone)
 aCH:XCls K t.C_PowerGone
 aB1:mg "NoRoom"=some (.ref t.C_NoRoom)
 aDD:XCls K t.C_NoRoom
 aDF:ClM K t.C_Plain "__init__" t.f_Plain_init
 aAB:W.exmOne K (.ref t.C_NoRoom) (.ref t.C_NoRoom)=some true
 aBQ:W.codeHdIn K t.t6 t.bJ=true
 aCR:mg "is_whole"=some (.ref t.f_is_whole)
 aCL:W.keepIn K (.ref t.f_is_whole)=true
 bU:mg "is_within"=some (.ref t.f_is_within)
 bT:W.keepIn K (.ref t.f_is_within)=true
 aAV:mg "is_shape"=some (.ref t.f_is_shape)
 aAU:W.keepIn K (.ref t.f_is_shape)=true
 aCO:mg "is_value"=some (.ref t.f_is_value)
 aCT:W.keepIn K (.ref t.f_is_value)=true
 aCX:mg "mark_of"=some (.ref t.f_mark_of)
 aCZ:W.keepIn K (.ref t.f_mark_of)=true
 aA9:mg "bits_of"=some (.ref t.f_bits_of)
 aBA:W.keepIn K (.ref t.f_bits_of)=true
 aAL:mg "paper_of"=some (.ref t.f_paper_of)
 aAX:W.keepIn K (.ref t.f_paper_of)=true
 aB4:mg "limits_of"=some (.ref t.f_limits_of)
 aB7:W.keepIn K (.ref t.f_limits_of)=true
 aA7:mg "is_unbeaten"=some (.ref t.f_is_unbeaten)
 aA4:W.keepIn K (.ref t.f_is_unbeaten)=true
 tX:mg "first_unbeaten"=some (.ref t.f_first_unbeaten)
 tQ:W.keepIn K (.ref t.f_first_unbeaten)=true
 bV:mg "_law_cell_at"=some (.ref t.f_law_cell_at)
 bW:W.keepIn K (.ref t.f_law_cell_at)=true
 t9:mg "_law_whole"=some (.ref t.f_law_whole)
 t8:W.keepIn K (.ref t.f_law_whole)=true
 aBY:mg "_law_shape"=some (.ref t.f_law_shape)
 aB6:W.keepIn K (.ref t.f_law_shape)=true
 aB8:mg "_law_sheet"=some (.ref t.f_law_sheet)
 aB2:W.keepIn K (.ref t.f_law_sheet)=true
 aCN:mg "_law_bits"=some (.ref t.f_law_bits)
 aCG:W.keepIn K (.ref t.f_law_bits)=true
 aCF:mg "_law_moves"=some (.ref t.f_law_moves)
 aB9:W.keepIn K (.ref t.f_law_moves)=true
 aBZ:mg "_law_spots"=some (.ref t.f_law_spots)
 aCE:W.keepIn K (.ref t.f_law_spots)=true
 aBI:mg "_law_behind"=some (.ref t.f_law_behind)
 aBP:W.keepIn K (.ref t.f_law_behind)=true
 aBW:mg "_law_paper"=some (.ref t.f_law_paper)
 aBX:W.keepIn K (.ref t.f_law_paper)=true
 aCJ:mg "_law_made"=some (.ref t.f_law_made)
 aCS:W.keepIn K (.ref t.f_law_made)=true
 t7:mg "MOST_TOLD"=some (.int 1000000 t.iG)
 aCQ:mg "ROLL"=some (.int 64 t.aBM)
 aC7:mg "NAMES"=some (.int 128 t.aAF)
 aDJ:mg "bool"=none
 aDQ:mg "int"=none
 bZ:mg "isinstance"=none
 tY:mg "len"=none
 aAG:mg "list"=none
 aDS:mg "max"=none
 aDR:mg "min"=none
 f9:mg "range"=none
 tO:mg "sorted"=none
 aDT:mg "sum"=none
 aC2:mg "tuple"=none
 aDU:mg "zip"=none
set_option genInjectivity false
structure Fns(K:W.Frag)(t:Adr) where
 aBT:Fn1 K "is_whole" "is_whole" q3I t.f_is_whole ["thing"]
 bY:Fn1 K "is_within" "is_within" q25 t.f_is_within ["thing","low","high"]
 aAE:Fn1 K "is_shape" "is_shape" q3J t.f_is_shape ["blocks","pages"]
 aBV:Fn1 K "is_value" "is_value" q3K t.f_is_value ["thing"]
 aCM:Fn1 K "mark_of" "mark_of" q4S t.f_mark_of ["stamp","name"]
 aBH:Fn1 K "bits_of" "bits_of" q4T t.f_bits_of ["sheets"]
 aAT:Fn1 K "__init__" "Book.__init__" q26 t.f_Book_init ["self","blocks","pages"]
 aAS:Fn1 K "mark" "Book.mark" q27 t.f_Book_mark ["self","name"]
 aAN:Fn1 K "note" "Book.note" q28 t.f_Book_note ["self","page","name"]
 i3:Fn1 K "forget" "Book.forget" zY t.f_Book_forget ["self","name"]
 oB:Fn1 K "emptied" "Book.emptied" zJ t.f_Book_emptied ["self","block"]
 fU:Fn1 K "live_pages" "Book.live_pages" uX t.f_Book_live_pages ["self","block"]
 aAK:Fn1 K "held" "Book.held" q29 t.f_Book_held ["self"]
 tU:Fn1 K "__init__" "Plain.__init__" q1C t.f_Plain_init ["self","chip","terms"]
 iR:Fn1 K "good" "Plain.good" q1D t.f_Plain_good ["self"]
 i4:FuncData
 aB5:FunT K "free" "Plain.free" jU t.t6 t.f_Plain_free i4
 oA:yN K i4 ["self"] []
 iW:Fn1 K "part" "Plain.part" q1E t.f_Plain_part ["self"]
 tT:Fn1 K "spot" "Plain.spot" q1F t.f_Plain_spot ["self"]
 tJ:Fn1 K "ready" "Plain.ready" zZ t.f_Plain_ready ["self"]
 iP:Fn1 K "set_down" "Plain.set_down" vA t.f_Plain_set_down ["self","name","value"]
 i9:Fn1 K "lay" "Plain.lay" q2A t.f_Plain_lay ["self","name","value"]
 o7:Fn1 K "write" "Plain.write" q00 t.f_Plain_write ["self","sheet","value"]
 iZ:Fn1 K "give_up" "Plain.give_up" vM t.f_Plain_give_up ["self","sheets"]
 iU:Fn1 K "held" "Plain.held" q1G t.f_Plain_held ["self"]
 eL:Fn1 K "check_sheet" "Plain.check_sheet" uG t.f_Plain_check_sheet ["self","sheet"]
 fJ:Fn1 K "check_share" "Plain.check_share" uH t.f_Plain_check_share ["self","sheet"]
 aAD:Fn1 K "paper_of" "paper_of" q3L t.f_paper_of ["why","options","block","moved","wiped"]
 tR:Fn1 K "__init__" "Store.__init__" q1H t.f_Store_init ["self","chip","terms","rule"]
 fO:Fn1 K "reserve" "Store.reserve" vO t.f_Store_reserve ["self"]
 tH:Fn1 K "tally" "Store.tally" q01 t.f_Store_tally ["self","block"]
 tI:Fn1 K "space" "Store.space" q02 t.f_Store_space ["self"]
 f8:Fn1 K "full_ones" "Store.full_ones" uY t.f_Store_full_ones ["self"]
 eQ:Fn1 K "with_dead_page" "Store.with_dead_page" yT t.f_Store_with_dead_page ["self"]
 eW:Fn1 K "options" "Store.options" vP t.f_Store_options ["self"]
 oN:Fn1 K "choice" "Store.choice" zK t.f_Store_choice ["self"]
 eO:Fn1 K "choice_by_rule" "Store.choice_by_rule" yU t.f_Store_choice_by_rule ["self","options"]
 o6:Fn1 K "moved" "Store.moved" q03 t.f_Store_moved ["self","block"]
 eU:Fn1 K "value_to_move" "Store.value_to_move" u6 t.f_Store_value_to_move ["self","page","name"]
 o9:Fn1 K "wiped" "Store.wiped" q04 t.f_Store_wiped ["self","block"]
 fT:Fn1 K "clear_out" "Store.clear_out" uZ t.f_Store_clear_out ["self","block"]
 fG:Fn1 K "make_room" "Store.make_room" v3 t.f_Store_make_room ["self"]
 eT:Fn1 K "make_ready" "Store.make_ready" uM t.f_Store_make_ready ["self"]
 fN:Fn1 K "make_rooms" "Store.make_rooms" uN t.f_Store_make_rooms ["self"]
 aAO:Fn1 K "limits_of" "limits_of" q2B t.f_limits_of ["ills","blocks"]
 fM:FuncData
 aB0:Value
 aCP:FunD K "__init__" "Chip.__init__" uT aB0 t.f_Chip_init fM
 aDP:yN K fM ["self","blocks","pages","most","ills"] []
 oY:List Value
 aDE:yN K fM ["self","blocks","pages","most","ills"] oY
 aDC:Vals [.non] oY
 oU:List Value
 aBN:yN K fM ["self","blocks","pages","most","ills"] oU
 aBR:Vals [.int 1000000,.non] oU
 aBO:Fn1 K "put" "Chip.put" q3M t.f_Chip_put ["self","page","stuff"]
 aAI:Fn1 K "wipe" "Chip.wipe" q2C t.f_Chip_wipe ["self","block"]
 oF:Fn1 K "read" "Chip.read" q2D t.f_Chip_read ["self","page"]
 i8:Fn1 K "is_dark" "Chip.is_dark" zL t.f_Chip_is_dark ["self"]
 fL:Fn1 K "cleared" "Chip.cleared" zM t.f_Chip_cleared ["self","block"]
 tE:Fn1 K "failed" "Chip.failed" q05 t.f_Chip_failed ["self","block"]
 iQ:Fn1 K "deeds" "Chip.deeds" q1I t.f_Chip_deeds ["self"]
 e9:Fn1 K "check_page" "Chip.check_page" v4 t.f_Chip_check_page ["self","page"]
 eE:Fn1 K "check_block" "Chip.check_block" uO t.f_Chip_check_block ["self","block"]
 eS:Fn1 K "check_power" "Chip.check_power" uP t.f_Chip_check_power ["self"]
 fH:Fn1 K "check_deed" "Chip.check_deed" v5 t.f_Chip_check_deed ["self","block"]
 fQ:Fn1 K "is_spent" "Chip.is_spent" vQ t.f_Chip_is_spent ["self","block"]
 iD:Fn1 K "do_deed" "Chip.do_deed" zN t.f_Chip_do_deed ["self","word","place","block","fails"]
 tD:Fn1 K "is_unbeaten" "is_unbeaten" q06 t.f_is_unbeaten ["rule","tally","tallies","pages","now"]
 iJ:Fn1 K "first_unbeaten" "first_unbeaten" vB t.f_first_unbeaten ["rule","tallies","pages","now"]
 fW:Fn1 K "goes_ahead" "Rule.goes_ahead" v6 t.f_Rule_goes_ahead ["self","one","other","pages","now"]
 fV:Fn1 K "choose" "Rule.choose" q07 t.f_Rule_choose ["self","tallies","pages","now"]
 fI:Fn1 K "goes_ahead" "Fewest.goes_ahead" uI t.f_Fewest_goes_ahead ["self","one","other","pages","now"]
 fK:Fn1 K "goes_ahead" "Eldest.goes_ahead" uJ t.f_Eldest_goes_ahead ["self","one","other","pages","now"]
 fF:FuncData
 aBJ:Value
 aB3:FunD K "__init__" "Terms.__init__" uA aBJ t.f_Terms_init fF
 aDI:yN K fF ["self","blocks","pages","sheets","share","ill","spread"] []
 i7:List Value
 aA3:yN K fF ["self","blocks","pages","sheets","share","ill","spread"] i7
 aA5:Vals [.int 1000000] i7
 oJ:List Value
 aC6:yN K fF ["self","blocks","pages","sheets","share","ill","spread"] oJ
 aC5:Vals [.int 0,.int 1000000] oJ
 oH:Fn1 K "closed" "Terms.closed" zO t.f_Terms_closed ["self"]
 bX:Fn1 K "_law_cell_at" "_law_cell_at" q08 t.f_law_cell_at ["_law_script","_law_k"]
 tN:Fn1 K "_law_whole" "_law_whole" q2E t.f_law_whole ["_law_found"]
 aAJ:Fn1 K "_law_shape" "_law_shape" q2F t.f_law_shape ["_law_script"]
 aAZ:Fn1 K "_law_sheet" "_law_sheet" q2G t.f_law_sheet ["_law_cell","_law_kept","_law_sheets","_law_share"]
 aBB:Fn1 K "_law_bits" "_law_bits" q3N t.f_law_bits ["_law_kept"]
 aAR:Fn1 K "_law_moves" "_law_moves" q2H t.f_law_moves ["_law_stuff","_law_pages","_law_block","_law_kept"]
 aAW:Fn1 K "_law_spots" "_law_spots" q2I t.f_law_spots ["_law_chip","_law_stuff","_law_pages"]
 tP:Fn1 K "_law_behind" "_law_behind" q1J t.f_law_behind ["_law_stuff","_law_pages","_law_block","_law_moves_here","_law_kept"]
 aAY:Fn1 K "_law_paper" "_law_paper" q2J t.f_law_paper ["_law_paper_here","_law_options"]
 aBE:Fn1 K "_law_made" "_law_made" q3O t.f_law_made ["_law_store","_law_chip","_law_pages","_law_kept"]
 law:Fn1 K "law" "law" qFM t.f_law ["_law_script"]
structure HkE where
 P:Program
 w:World
 K:W.Frag
 mg:Str→Option Value
 t:Adr
noncomputable def hkB(e:HkE):Prop:=∃(S:Fns e.K e.t) (base:Heap),Txt e.K e.mg e.t∧BmIn base e.mg∧¬S.law.Ok0 e.P e.w e.mg base 18 (q4O e.K [e.t.bJ])
instance:Nonempty HkE:=⟨⟨PySem.Challenge.pw_wornpages_k34_a_paper,⟨λ_ _=>0,{ strHash:=λ_=>0,shareClass:=λ_=>0,mergeTok:=id,idOf:=λ_=>0,idOfShared:=λ_ _=>0,followText:=λ_=>false,idOfImm:=λ_=>0 }⟩,[],λ_=>none,by constructor<;>exact(0:Nat)⟩⟩
@[irreducible] noncomputable def hkE:HkE:=Classical.epsilon hkB
noncomputable def P:Program:=hkE.P
noncomputable def w:World:=hkE.w
noncomputable def K:W.Frag:=hkE.K
noncomputable def mg:Str→Option Value:=hkE.mg
noncomputable def t:Adr:=hkE.t
section
variable{base:Heap}
theorem qA8:FnScope ["thing"] ["thing"] (qG q3I):=qV (by decide+kernel)
theorem q8V:FnScope ["thing","low","high"] ["thing","low","high"] (qG q25):=qV (by decide+kernel)
theorem qA9:FnScope ["blocks","pages"] ["blocks","pages"] (qG q3J):=qV (by decide+kernel)
theorem qAA:FnScope ["thing"] ["thing"] (qG q3K):=qV (by decide+kernel)
theorem qBC:FnScope ["stamp","name"] ["stamp","name"] (qG q4S):=qV (by decide+kernel)
theorem q1K:FnScope ["sheets","bits","sheet"] ["sheets"] (qG q4T):=qV (by decide+kernel)
theorem q8W:FnScope ["self","blocks","pages"] ["self","blocks","pages"] (qG q26):=qV (by decide+kernel)
theorem q8X:FnScope ["self","name"] ["self","name"] (qG q27):=qV (by decide+kernel)
theorem q4C:FnScope ["self","page","name","block"] ["self","page","name"] (qG q28):=qV (by decide+kernel)
theorem q2K:FnScope ["self","name","page"] ["self","name"] (qG zY):=qV (by decide+kernel)
theorem q56:FnScope ["self","block"] ["self","block"] (qG zJ):=qV (by decide+kernel)
theorem q3P:FnScope ["self","block"] ["self","block"] (qG uX):=qV (by decide+kernel)
theorem q8Y:FnScope ["self"] ["self"] (qG q29):=qV (by decide+kernel)
theorem q79:FnScope ["self","chip","terms"] ["self","chip","terms"] (qG q1C):=qV (by decide+kernel)
theorem q7A:FnScope ["self"] ["self"] (qG q1D):=qV (by decide+kernel)
theorem q3E:FnScope ["self","clear"] ["self"] (qG jU):=qV (by decide+kernel)
theorem q3F:FnScope ["self","block"] ["self"] (qG q1E):=qV (by decide+kernel)
theorem q09:FnScope ["self","part","free"] ["self"] (qG q1F):=qV (by decide+kernel)
theorem q2L:FnScope ["self","spare"] ["self"] (qG zZ):=qV (by decide+kernel)
theorem zV:FnScope ["self","name","value","page"] ["self","name","value"] (qG vA):=qV (by decide+kernel)
theorem q8Z:FnScope ["self","name","value"] ["self","name","value"] (qG q2A):=qV (by decide+kernel)
theorem q6O:FnScope ["self","sheet","value"] ["self","sheet","value"] (qG q00):=qV (by decide+kernel)
theorem yQ:FnScope ["self","sheets","sheet","held","gone"] ["self","sheets"] (qG vM):=qV (by decide+kernel)
theorem q7B:FnScope ["self"] ["self"] (qG q1G):=qV (by decide+kernel)
theorem q2M:FnScope ["self","sheet"] ["self","sheet"] (qG uG):=qV (by decide+kernel)
theorem vK:FnScope ["self","sheet","held"] ["self","sheet"] (qG uH):=qV (by decide+kernel)
theorem qAB:FnScope ["why","options","block","moved","wiped"] ["why","options","block","moved","wiped"] (qG q3L):=qV (by decide+kernel)
theorem q7C:FnScope ["self","chip","terms","rule"] ["self","chip","terms","rule"] (qG q1H):=qV (by decide+kernel)
theorem q4U:FnScope ["self"] ["self"] (qG vO):=qV (by decide+kernel)
theorem q6P:FnScope ["self","block"] ["self","block"] (qG q01):=qV (by decide+kernel)
theorem q2N:FnScope ["self","part"] ["self"] (qG q02):=qV (by decide+kernel)
theorem yV:FnScope ["self","space","full","tallies"] ["self"] (qG uY):=qV (by decide+kernel)
theorem q0R:FnScope ["self"] ["self"] (qG yT):=qV (by decide+kernel)
theorem q4V:FnScope ["self"] ["self"] (qG vP):=qV (by decide+kernel)
theorem q1R:FnScope ["self","options"] ["self"] (qG zK):=qV (by decide+kernel)
theorem q0S:FnScope ["self","options"] ["self","options"] (qG yU):=qV (by decide+kernel)
theorem v7:FnScope ["self","block","moves","page","name"] ["self","block"] (qG q03):=qV (by decide+kernel)
theorem q1L:FnScope ["self","page","name"] ["self","page","name"] (qG u6):=qV (by decide+kernel)
theorem q6Q:FnScope ["self","block"] ["self","block"] (qG q04):=qV (by decide+kernel)
theorem q3Q:FnScope ["self","block"] ["self","block"] (qG uZ):=qV (by decide+kernel)
theorem yE:FnScope ["self","options","chosen","moved","wiped"] ["self"] (qG v3):=qV (by decide+kernel)
theorem q35:FnScope ["self"] ["self"] (qG uM):=qV (by decide+kernel)
theorem q36:FnScope ["self"] ["self"] (qG uN):=qV (by decide+kernel)
theorem vX:FnScope ["ills","blocks","limits","block","deeds"] ["ills","blocks"] (qG q2B):=qV (by decide+kernel)
theorem q90:FnScope ["self","blocks","pages","most","ills"] ["self","blocks","pages","most","ills"] (qG uT):=qV (by decide+kernel)
theorem q52:FnScope ["self","page","stuff","block"] ["self","page","stuff"] (qG q3M):=qV (by decide+kernel)
theorem vY:FnScope ["self","block","fails","first","page"] ["self","block"] (qG q2C):=qV (by decide+kernel)
theorem q91:FnScope ["self","page"] ["self","page"] (qG q2D):=qV (by decide+kernel)
theorem q57:FnScope ["self"] ["self"] (qG zL):=qV (by decide+kernel)
theorem q58:FnScope ["self","block"] ["self","block"] (qG zM):=qV (by decide+kernel)
theorem q6R:FnScope ["self","block"] ["self","block"] (qG q05):=qV (by decide+kernel)
theorem q7D:FnScope ["self"] ["self"] (qG q1I):=qV (by decide+kernel)
theorem q3R:FnScope ["self","page"] ["self","page"] (qG v4):=qV (by decide+kernel)
theorem q37:FnScope ["self","block"] ["self","block"] (qG uO):=qV (by decide+kernel)
theorem q38:FnScope ["self"] ["self"] (qG uP):=qV (by decide+kernel)
theorem q3S:FnScope ["self","block"] ["self","block"] (qG v5):=qV (by decide+kernel)
theorem q4W:FnScope ["self","block"] ["self","block"] (qG vQ):=qV (by decide+kernel)
theorem q59:FnScope ["self","word","place","block","fails"] ["self","word","place","block","fails"] (qG zN):=qV (by decide+kernel)
theorem q2O:FnScope ["rule","tally","tallies","pages","now","other"] ["rule","tally","tallies","pages","now"] (qG q06):=qV (by decide+kernel)
theorem v8:FnScope ["rule","tallies","pages","now","place"] ["rule","tallies","pages","now"] (qG vB):=qV (by decide+kernel)
theorem q3T:FnScope ["self","one","other","pages","now"] ["self","one","other","pages","now"] (qG v6):=qV (by decide+kernel)
theorem q6S:FnScope ["self","tallies","pages","now"] ["self","tallies","pages","now"] (qG q07):=qV (by decide+kernel)
theorem q2P:FnScope ["self","one","other","pages","now"] ["self","one","other","pages","now"] (qG uI):=qV (by decide+kernel)
theorem q2Q:FnScope ["self","one","other","pages","now"] ["self","one","other","pages","now"] (qG uJ):=qV (by decide+kernel)
theorem q7E:FnScope ["self","blocks","pages","sheets","share","ill","spread"] ["self","blocks","pages","sheets","share","ill","spread"] (qG uA):=qV (by decide+kernel)
theorem q5A:FnScope ["self"] ["self"] (qG zO):=qV (by decide+kernel)
theorem q6T:FnScope ["_law_script","_law_k"] ["_law_script","_law_k"] (qG q08):=qV (by decide+kernel)
theorem q92:FnScope ["_law_found"] ["_law_found"] (qG q2E):=qV (by decide+kernel)
theorem yW:FnScope ["_law_script","_law_pages","_law_closed","_law_ill","_law_share"] ["_law_script"] (qG q2F):=qV (by decide+kernel)
theorem q1M:FnScope ["_law_cell","_law_kept","_law_sheets","_law_share","_law_sheet_here","_law_held"] ["_law_cell","_law_kept","_law_sheets","_law_share"] (qG q2G):=qV (by decide+kernel)
theorem qAC:FnScope ["_law_kept"] ["_law_kept"] (qG q3N):=qV (by decide+kernel)
theorem uB:FnScope ["_law_stuff","_law_pages","_law_block","_law_kept","_law_latest","_law_page","_law_found","_law_name"] ["_law_stuff","_law_pages","_law_block","_law_kept"] (qG q2H):=qV (by decide+kernel)
theorem yX:FnScope ["_law_chip","_law_stuff","_law_pages","_law_spots_here","_law_clear","_law_block","_law_mine","_law_count"] ["_law_chip","_law_stuff","_law_pages"] (qG q2I):=qV (by decide+kernel)
theorem yC:FnScope ["_law_stuff","_law_pages","_law_block","_law_moves_here","_law_kept","_law_behind_here","_law_stamp","_law_name","_law_start","_law_end","_law_page"] ["_law_stuff","_law_pages","_law_block","_law_moves_here","_law_kept"] (qG q1J):=qV (by decide+kernel)
theorem q4D:FnScope ["_law_paper_here","_law_options","_law_row"] ["_law_paper_here","_law_options"] (qG q2J):=qV (by decide+kernel)
theorem jN:FnScope ["_law_store","_law_chip","_law_pages","_law_kept","_law_many","_law_stuff","_law_options","_law_deeds","_law_spots_here","_law_refused","_law_paper_here","_law_block","_law_moves_here"] ["_law_store","_law_chip","_law_pages","_law_kept"] (qG q3O):=qV (by decide+kernel)
theorem uQ:FnScope ["_law_script","_law_blocks","_law_pages","_law_share","_law_ill","_law_sheets","_law_rule","_law_chip","_law_store","_law_kept","_law_k","_law_cell","_law_sheet_here"] ["_law_script"] (qG qFM):=qV (by decide+kernel)
local macro_rules| `(tactic|walk_at "r")=>`(tactic|repeat (first|with_reducible refine⟨_,rfl,?_⟩|refine⟨_,rfl,?_⟩|refine(iI ?_)))
theorem qAD(T:Txt K mg t)(S:Fns K t):S.aBT.Ok0 P w mg base 1 qBN:=by
 refine S.aBT.F.ok0 qA8 λcdv A _ s H vs Q E hr h=>?_
 ·obtain⟨x,rfl,kn,k⟩:=h
  refine⟨_,(qE (qL (q1T (j9 yK (by rfl) T.bZ (by kernel_rfl) (qA (pv 0) (qA (zT rfl T.aDQ (by kernel_rfl) rfl (v:=.ty "int")) qD))) (q10 (qAN (j9 yK (by rfl) T.bZ (by kernel_rfl) (qA (pv 0) (qA (zT rfl T.aDJ (by kernel_rfl) rfl (v:=.ty "bool")) qD)))))))),?_⟩
  try dsimp-beta-proj-iota-zeta-eta only[wishK,cxK]
  obtain⟨ty,q,e1,e2,_⟩:=kn.ty (K:=K)
  refine⟨_,rfl,x,_,_,ty,_,rfl,rfl,.inl q,e1,_,rfl,?_⟩
  have z:=qE5 x
  cases qi:isI x with
  |true=>
   rw[qi,kD rfl]at z
   refine iteT ?_
   refine⟨_,rfl,x,_,_,ty,_,rfl,rfl,.inl q,e2,_,rfl,?_⟩
   rw[z]
   exact k
  |false=>
   rw[qi]at z
   refine iteF ?_
   have z':false=isW x:=z
   rw[z']
   exact k
theorem jL(T:Txt K mg t)(S:Fns K t):S.bY.Ok0 P w mg base 2 qE6:=by
 refine S.bY.F.ok0 q8V λcdv A _ s H vs Q E hr h=>?_
 ·obtain⟨x,lo,hi,rfl,kn,k⟩:=h
  refine⟨_,(qE (qL (q1T (qY (qAD T S).mono hr rfl T.aCR T.aCL S.aBT.b .nil qK (qA (pv 0) qD)) (q10 (qDL qDJ qDJ (pv 1) (pv 0) (pv 2)))))),?_⟩
  try dsimp-beta-proj-iota-zeta-eta only[wishK,cxK]
  refine⟨_,rfl,x,rfl,kn,_,rfl,?_⟩
  cases x with
  |int i=>
   refine iteT ?_
   refine⟨_,rfl,_,rfl,iI ⟨_,rfl,?_⟩⟩
   have k':Q (V.bl (decide (lo≤i)&&decide (i≤hi))) H:=k
   by_cases h1:lo≤i
   ·rw[hG h1]at k' ⊢
    refine iteT ?_
    exact⟨_,rfl,iI k'⟩
   ·rw[hI h1]at k' ⊢
    refine iteF ?_
    exact k'
  |_=>exact iteF k
theorem q53(T:Txt K mg t)(S:Fns K t):S.aAE.Ok0 P w mg base 3 qG9:=by
 refine S.aAE.F.ok0 qA9 λcdv A _ s H vs Q E hr h=>?_
 ·obtain⟨x,y,rfl,kx,ky,k⟩:=h
  refine⟨_,(qE (qL (q1T (qY (jL T S).mono hr rfl T.bU T.bT S.bY.b .nil qK (qA (pv 0) (qA qI (qA qI qD)))) (q10 (qY (jL T S).mono hr rfl T.bU T.bT S.bY.b .nil qK (qA (pv 1) (qA qI (qA qI qD)))))))),?_⟩
  try dsimp-beta-proj-iota-zeta-eta only[wishK,cxK]
  refine⟨_,rfl,x,_,_,rfl,kx,_,rfl,?_⟩
  cases q:inB x 2 16 with
  |true=>
   rw[q]at k
   refine iteT ⟨_,rfl,y,_,_,rfl,ky,k⟩
  |false=>
   rw[q]at k
   exact iteF k
structure Gd(m:CM):Prop where
 br:∀b,m.br.getD b false=false
 li:∀b,valV m.lim (Sum.inl b)=none
theorem inBi{v lo hi:Int}(h1:lo≤v)(h2:v≤hi):inB (.int v) lo hi=true:=by
 show(decide (lo≤v)&&decide (v≤hi))=true
 rw[hG h1,hG h2]
 rfl
noncomputable def putC(m:CM)(p:Nat)(st:V):CM:={ m.deed "put" (p:Int) ((p:Int) / m.pg) false with bo:=m.bo.set p st }
noncomputable def wipC(m:CM)(b:Nat):CM:={ m.deed "wipe" (b:Int) (b:Int) false with bo:=clr m.bo ((b:Int)*m.pg).toNat m.pg.toNat,cl:=m.cl.set b (m.cl.getD b 0+1) }
noncomputable def spCP(t:Adr):Sp:=λvs H Q E=>∃c a m,∃p:Int,vs=[.ref c,.int p]∧ChipAt t.C_Chip H c a m∧m.Ok∧0≤p∧p≤m.bl*m.pg-1∧Q .non H
theorem zP(T:Txt K mg t)(S:Fns K t):S.e9.Ok0 P w mg base 3 (spCP t):=by
 refine S.e9.F.ok0 q3R λcdv A _ s H vs Q E hr h=>?_
 ·obtain⟨c,a,m,p,rfl,hc,ok,p0,p1,q⟩:=h
  refine⟨_,(qE (jB (yL (jS (qY (jL T S).mono hr rfl T.bU T.bT S.bY.b .nil qK (qA (pv 1) (qA qI (qA (qO zD (qO yM (qJ (pv 0) rfl) (qJ (pv 0) rfl)) qI) qD)))))) (qE jG) qR)),?_⟩
  try dsimp-beta-proj-iota-zeta-eta only[wishK,cxK]
  have b1:=ok.bl1
  have b2:=ok.bl2
  refine⟨_,rfl,iV rfl (iF hc.ins T.bL T.eF rfl (iV rfl (iF hc.ins T.bL T.eA rfl ?_)))⟩
  refine(iI ⟨.inl ⟨by lia,by lia⟩,iI ⟨.int p,_,_,rfl,.int p,_,rfl,?_⟩⟩)
  rw[inBi p0 p1]
  exact iteF q
noncomputable def spCB(t:Adr):Sp:=λvs H Q E=>∃c a m,∃p:Int,vs=[.ref c,.int p]∧ChipAt t.C_Chip H c a m∧0≤p∧p≤m.bl-1∧Q .non H
theorem uK(T:Txt K mg t)(S:Fns K t):S.eE.Ok0 P w mg base 3 (spCB t):=by
 refine S.eE.F.ok0 q37 λcdv A _ s H vs Q E hr h=>?_
 ·obtain⟨c,a,m,p,rfl,hc,p0,p1,q⟩:=h
  refine⟨_,(qE (jB (yL (jS (qY (jL T S).mono hr rfl T.bU T.bT S.bY.b .nil qK (qA (pv 1) (qA qI (qA (qO zD (qJ (pv 0) rfl) qI) qD)))))) (qE jG) qR)),?_⟩
  try dsimp-beta-proj-iota-zeta-eta only[wishK,cxK]
  refine⟨_,rfl,iV rfl (iF hc.ins T.bL T.eF rfl (iI ⟨.int p,_,_,rfl,.int p,_,rfl,?_⟩))⟩
  rw[inBi p0 p1]
  exact iteF q
noncomputable def spID(t:Adr):Sp:=λvs H Q E=>∃c a m,vs=[.ref c]∧ChipAt t.C_Chip H c a m∧Q (.bl (decide (m.lf=some 0))) H
theorem q5B(T:Txt K mg t)(S:Fns K t):S.i8.Ok0 P w mg base 1 (spID t):=by
 refine S.i8.F.ok0 q57 λcdv A _ s H vs Q E hr h=>?_
 ·obtain⟨c,a,m,rfl,hc,q⟩:=h
  refine⟨_,(qE (qL (uU vS (qJ (pv 0) rfl) qI (qS _)))),?_⟩
  try dsimp-beta-proj-iota-zeta-eta only[wishK,cxK]
  refine⟨_,rfl,c,_,a.dx,_,_,rfl,hc.ins,T.bL,T.eG,rfl,qG8,?_⟩
  rw[lf0]
  exact q
noncomputable def spPW(t:Adr):Sp:=λvs H Q E=>∃c a m,vs=[.ref c]∧ChipAt t.C_Chip H c a m∧(if m.lf=some 0 then E (.ref t.C_PowerGone) none H else Q .non H)
theorem vU(T:Txt K mg t)(S:Fns K t):S.eS.OkE P w mg base 2 (spPW t):=by
 refine S.eS.F.okE q38 (λvs H Q E h=>?_) (λcdv A outer s H vs Q E hr h=>?_)
 ·repeat obtain⟨_,h⟩:=h
  all_goals subst_vars;rfl
 ·obtain⟨c,a,m,rfl,hc,q⟩:=h
  refine⟨_,(qE (jB (jS (j8 (pv 0) T.bL T.aA6 (q5B T S).mono hr S.i8.b .nil qK)) (qE (q9P jH rfl rfl T.aCA T.aCH (qA q0Y qD))) qR)),?_⟩
  try dsimp-beta-proj-iota-zeta-eta only[wishK,cxK]
  refine(iV rfl (iM hc.ins rfl ⟨c,a,m,rfl,hc,_,rfl,?_⟩))
  by_cases z:m.lf=some 0
  ·rw[kD z]at q
   rw[hG z]
   exact iteT ⟨sz1,q⟩
  ·rw[kB z]at q
   rw[hI z]
   exact iteF q
noncomputable def spCD(t:Adr):Sp:=λvs H Q E=>∃c a m b,vs=[.ref c,.int b]∧ChipAt t.C_Chip H c a m∧m.Ok∧Gd m∧0≤b∧b<m.bl∧(if m.lf=some 0 then E (.ref t.C_PowerGone) none H else Q .non H)
theorem zQ(T:Txt K mg t)(S:Fns K t):S.fH.OkE P w mg base 3 (spCD t):=by
 refine S.fH.F.okE q3S (λvs H Q E h=>?_) (λcdv A outer s H vs Q E hr h=>?_)
 ·repeat obtain⟨_,h⟩:=h
  all_goals subst_vars;rfl
 ·obtain⟨c,a,m,b,rfl,hc,ok,g,b0,b1,q⟩:=h
  refine⟨_,(qB (qX (uS jH (pv 0) T.bL T.iC (vU T S).mono hr S.eS.b .nil)) (qE (jB (jS (qW jD (qJ (pv 0) rfl) (pv 1) (λ_ _=>rfl))) (qE jG) qR))),?_⟩
  try dsimp-beta-proj-iota-zeta-eta only[wishK,cxK]
  have nb:=ok.nbr
  refine(iV rfl (iM hc.ins rfl ⟨c,a,m,rfl,hc,?_⟩))
  split
  ·rename_i z
   rw[kD z]at q
   exact q
  ·rename_i z
   rw[kB z]at q
   refine(iV rfl (iF hc.ins T.bL T.iO rfl ⟨_,rfl,iL (k:=b) (v:=_) (SqL.of hc.br) (getB b0 (by lia)) ⟨_,rfl,?_⟩⟩))
   rw[g.br]
   exact iteF q
noncomputable def spIS(t:Adr):Sp:=λvs H Q E=>∃c a m b,vs=[.ref c,.int b]∧ChipAt t.C_Chip H c a m∧Gd m∧Q (.bl false) H
theorem q0T(T:Txt K mg t)(S:Fns K t):S.fQ.Ok0 P w mg base 1 (spIS t):=by
 refine S.fQ.F.ok0 q4W λcdv A _ s H vs Q E hr h=>?_
 ·obtain⟨c,a,m,b,rfl,hc,g,q⟩:=h
  have hu:=q1X hr
  refine⟨_,(qE (qL (q1T (qI1 (q8G hu (pv 1) (qJ (pv 0) rfl))) (q10 (uU qBJ (qW jD (qJ (pv 0) rfl) (pv 1) (λ_ _=>rfl)) (qBM hu (qJ (pv 0) rfl) (pv 1) (λ_ _=>rfl)) (qS _)))))),?_⟩
  try dsimp-beta-proj-iota-zeta-eta only[wishK,cxK]
  refine⟨_,rfl,iV rfl (iF hc.ins T.bL T.oW rfl ⟨a.li,_,rfl,DGet.k (k:=Sum.inl b) hc.li,_,rfl,?_⟩)⟩
  rw[g.li]
  exact iteF q
noncomputable def spDD(t:Adr):Sp:=λvs H Q E=>∃c a m w pl b,vs=[.ref c,.str w,.int pl,.int b,.bl false]∧ChipAt t.C_Chip H c a m∧m.Ok∧m.rc.length<1000000∧0≤b∧b<m.bl∧
 ∀H',ChipAt t.C_Chip H' c a (m.deed w pl b false)→Keep (foot c a) H H'→Q .non H'
theorem q1S(T:Txt K mg t)(S:Fns K t):S.iD.Ok0 P w mg base 3 (spDD t):=by
 refine S.iD.F.ok0 q59 λcdv A _ s H vs Q E hr h=>?_
 ·obtain⟨c,a,m,w,pl,b,rfl,hc,ok,hr1,b0,b1,q⟩:=h
  refine⟨_,(q17 (jB (qP q2W (qJ (pv 0) rfl) yY (qS _)) (qE (q7P (pv 0) qI qI8)) qR) (qB (q3Y (qJ (pv 0) rfl) (pv 3) q1Y qI q5R yO) (qB (qX (q3B gH g0 g5 uR (qJ (pv 0) rfl) (qA (yH (qA (pv 1) (qA (pv 2) (qA (qAN (pv 4)) qD)))) qD q0J))) (qE (jB (jS (pv 4)) (qB jG (qE jG)) qR))))),?_⟩
  try dsimp-beta-proj-iota-zeta-eta only[wishK,cxK]
  have nd:=ok.ndc
  refine⟨λσ' H1=>σ'=[some (.ref c),some (.str w),some (.int pl),some (.int b),some (.bl false)]∧ChipAt t.C_Chip H1 c a { m with lf:=m.lf.map (· - 1) }∧Keep (foot c a) H H1,?_,?_⟩
  ·refine⟨_,rfl,c,_,a.dx,_,_,rfl,hc.ins,T.bL,T.eG,rfl,rfl,_,rfl,?_⟩
   cases hl:m.lf with
   |none=>
    refine iteF ⟨rfl,?_,Keep.refl⟩
    show ChipAt t.C_Chip H c a { m with lf:=none }
    rw[←hl]
    exact hc
   |some i=>
    refine iteT ?_
    refine⟨_,rfl,c,_,a.dx,_,_,rfl,hc.ins,T.bL,T.eG,(by unfold chF;rw[hl];rfl),iI ⟨a.dx,_,hc.ins,by show 10<1000;decide,?_⟩⟩
    refine⟨rfl,hc.setLf (some (i-1)),Keep.upd hc.ins (λ_ z=>by cases z) (by simp[foot])⟩
  rintro _ H1 ⟨rfl,hc1,k1⟩
  refine(iV rfl (iF hc1.ins T.bL T.fZ rfl ⟨_,rfl,iL (k:=b) (v:=_) (SqL.of hc1.dc) (getI b0 (by show b<(m.dc.length:Int);lia)) (iI ⟨a.dc,_,b,b.toNat,rfl,rfl,hc1.dc,by rw[hC];exact ixOk b0 (by show b<(m.dc.length:Int);lia),?_⟩)⟩))
  rw[←xN]
  have hc2:=hc1.setDc (m.dc.set b.toNat (m.dc.getD b.toNat 0+1))
  have k2:Keep (foot c a) H (upd H1 a.dc (.lst ((m.dc.set b.toNat (m.dc.getD b.toNat 0+1)).map V.int))):=k1.trans (Keep.upd hc1.dc (λ_ z=>by cases z) (by simp[foot]))
  generalize upd H1 a.dc (.lst ((m.dc.set b.toNat (m.dc.getD b.toNat 0+1)).map V.int))=H2 at hc2 k2 ⊢
  obtain⟨rs,er,pr⟩:=hc2.rc
  have ln:rs.length≤1000000:=by
   rw[pr.len]
   exact wN hr1
  refine(iV rfl (iF hc2.ins T.bL T.iH rfl ⟨.inl ⟨rfl,_,SqL.of er⟩,_,rfl,_,rfl,_,rfl,_,rfl,sz3,λp H3 np sm hp=>?_⟩))
  have er3:=sm _ _ er
  refine⟨a.rc,rs,_,rfl,rfl,er3,rV ln (by decide),?_⟩
  exact⟨_,rfl,_,rfl,iteF (q _ ((hc2.same sm).addRc (d:=(w,pl,!false)) er3 hp) ((k2.trans (Keep.same sm)).trans (Keep.upd (o:=.lst (rs++[.ref p])) er3 (λ_ z=>by cases z) (by simp[foot]))))⟩
noncomputable def qKY(t:Adr):Sp:=λvs H Q E=>∃c a m,∃p:Nat,∃st,vs=[.ref c,.int (p:Int),st]∧ChipAt t.C_Chip H c a m∧m.Ok∧m.rc.length<1000000∧Gd m∧(p:Int)≤m.bl*m.pg-1∧m.bo.getD p .non=.non∧(m.lf=some 0→E (.ref t.C_PowerGone) none H)∧(m.lf≠some 0→∀H',ChipAt t.C_Chip H' c a (putC m p st)→Keep (foot c a) H H'→Q .non H')
theorem qAE(T:Txt K mg t)(S:Fns K t):S.aBO.OkE P w mg base 4 (qKY t):=by
 refine S.aBO.F.okE q52 (λvs H Q E h=>?_) (λcdv A outer s H vs Q E hr h=>?_)
 ·repeat obtain⟨_,h⟩:=h
  all_goals subst_vars;rfl
 ·obtain⟨c,a,m,p,st,rfl,hc,ok,hr1,g,p1,hw,dk,q⟩:=h
  refine⟨_,(qB (qX (jC (pv 0) T.bL T.iX (zP T S).mono hr S.e9.b .nil qK (qA (pv 1) qD))) (qB (qT (i:=3) q52.nd rfl (Or.inl rfl) (qO vD (pv 1) (qJ (pv 0) rfl))) (qB (qX (jW jH (pv 0) T.bL T.iY (zQ T S).mono hr S.fH.b .nil (qA (pv 3) qD))) (qB (jB (qP q2W (qW jD (qJ (pv 0) rfl) (pv 1) (λ_ _=>rfl)) yY (qS _)) (qE jG) qR) (qB (qX (jC (pv 0) T.bL T.oS (q1S T S).mono hr S.iD.b .nil qK (qA q0Y (qA (pv 1) (qA (pv 3) (qA (jC (pv 0) T.bL T.oP (q0T T S).mono hr S.fQ.b .nil qK (qA (pv 3) qD)) qD)))))) (qE (q12 (pv 2) (q1V (qJ (pv 0) rfl) (pv 1) yO)))))))),?_⟩
  try dsimp-beta-proj-iota-zeta-eta only[wishK,cxK]
  have pg1:=ok.pg1
  have pg2:=ok.pg2
  have nbo:=ok.nbo
  have p0:(0:Int)≤p:=by lia
  obtain⟨b0,b1⟩:=qJ5 ok p0 p1
  refine(iV rfl (iM hc.ins rfl ⟨_,rfl,c,a,m,p,rfl,hc,ok,p0,p1,?_⟩))
  refine⟨_,rfl,iV rfl (iF hc.ins T.bL T.eA rfl (iI ⟨⟨by lia,by lia⟩,?_⟩))⟩
  refine(iV rfl (iM hc.ins rfl ⟨_,rfl,c,a,m,_,rfl,hc,ok,g,b0,b1,?_⟩))
  by_cases z:m.lf=some 0
  ·rw[kD z]
   exact dk z
  rw[kB z]
  have q:=q z
  refine(iV rfl (iF hc.ins T.bL T.fA rfl ⟨_,rfl,iL (k:=p) (v:=_) (SqL.of hc.bo) (getV p0 (by lia)) ⟨rfl,_,rfl,?_⟩⟩))
  rw[kW,hG hw]
  refine iteF ?_
  refine(iV rfl (iM hc.ins rfl ⟨_,rfl,_,rfl,iV rfl (iM hc.ins rfl ⟨_,rfl,c,a,m,_,rfl,hc,g,?_⟩)⟩))
  refine⟨c,a,m,"put",p,_,rfl,hc,ok,hr1,b0,b1,λH' hc' k'=>?_⟩
  refine⟨_,rfl,iV rfl (iF hc'.ins T.bL T.fA rfl ⟨_,rfl,a.bo,_,p,p,rfl,rfl,hc'.bo,ixOk p0 (by show(p:Int)<(m.bo.length:Int);lia),?_⟩)⟩
  exact q _ (hc'.setBo (m.bo.set p st)) (k'.trans (Keep.upd hc'.bo (λ_ z=>by cases z) (by simp[foot])))
noncomputable def qFN(t:Adr):Sp:=λvs H Q E=>∃c a m,∃p:Int,vs=[.ref c,.int p]∧ChipAt t.C_Chip H c a m∧m.Ok∧0≤p∧p≤m.bl*m.pg-1∧(m.lf=some 0→E (.ref t.C_PowerGone) none H)∧(m.lf≠some 0→Q (m.bo.getD p.toNat .non) H)
theorem q1N(T:Txt K mg t)(S:Fns K t):S.oF.OkE P w mg base 4 (qFN t):=by
 refine S.oF.F.okE q91 (λvs H Q E h=>?_) (λcdv A outer s H vs Q E hr h=>?_)
 ·repeat obtain⟨_,h⟩:=h
  all_goals subst_vars;rfl
 ·obtain⟨c,a,m,p,rfl,hc,ok,p0,p1,dk,q⟩:=h
  refine⟨_,(qB (qX (jC (pv 0) T.bL T.iX (zP T S).mono hr S.e9.b .nil qK (qA (pv 1) qD))) (qB (qX (uS jH (pv 0) T.bL T.iC (vU T S).mono hr S.eS.b .nil)) (qE (qL (qW jD (qJ (pv 0) rfl) (pv 1) (λ_ _=>rfl)))))),?_⟩
  try dsimp-beta-proj-iota-zeta-eta only[wishK,cxK]
  have nbo:=ok.nbo
  refine(iV rfl (iM hc.ins rfl ⟨_,rfl,c,a,m,p,rfl,hc,ok,p0,p1,iV rfl (iM hc.ins rfl ⟨c,a,m,rfl,hc,?_⟩)⟩))
  by_cases z:m.lf=some 0
  ·rw[kD z]
   exact dk z
  rw[kB z]
  exact(iV rfl (iF hc.ins T.bL T.fA rfl ⟨_,rfl,iL (k:=p) (v:=_) (SqL.of hc.bo) (getV p0 (by lia)) (q z)⟩))
noncomputable def spCl(t:Adr):Sp:=λvs H Q E=>∃c a m b,vs=[.ref c,.int b]∧ChipAt t.C_Chip H c a m∧m.Ok∧0≤b∧b≤m.bl-1∧Q (.int (m.cl.getD b.toNat 0)) H
theorem vR(T:Txt K mg t)(S:Fns K t):S.fL.Ok0 P w mg base 4 (spCl t):=by
 refine S.fL.F.ok0 q58 λcdv A _ s H vs Q E hr h=>?_
 ·obtain⟨c,a,m,b,rfl,hc,ok,b0,b1,q⟩:=h
  refine⟨_,(qB (qX (jC (pv 0) T.bL T.fE (uK T S).mono hr S.eE.b .nil qK (qA (pv 1) qD))) (qE (qL (qW jD (qJ (pv 0) rfl) (pv 1) (λ_ _=>rfl))))),?_⟩
  try dsimp-beta-proj-iota-zeta-eta only[wishK,cxK]
  have n:=ok.ncl
  exact(iV rfl (iM hc.ins rfl ⟨_,rfl,c,a,m,b,rfl,hc,b0,b1,iV rfl (iF hc.ins T.bL T.eI rfl ⟨_,rfl,iL (k:=b) (v:=_) (SqL.of hc.cl) (getI b0 (by lia)) q⟩)⟩))
noncomputable def spFa(t:Adr):Sp:=λvs H Q E=>∃c a m b,vs=[.ref c,.int b]∧ChipAt t.C_Chip H c a m∧m.Ok∧0≤b∧b≤m.bl-1∧Q (.bl (m.br.getD b.toNat false)) H
theorem q6U(T:Txt K mg t)(S:Fns K t):S.tE.Ok0 P w mg base 4 (spFa t):=by
 refine S.tE.F.ok0 q6R λcdv A _ s H vs Q E hr h=>?_
 ·obtain⟨c,a,m,b,rfl,hc,ok,b0,b1,q⟩:=h
  refine⟨_,(qB (qX (jC (pv 0) T.bL T.fE (uK T S).mono hr S.eE.b .nil qK (qA (pv 1) qD))) (qE (qL (qW jD (qJ (pv 0) rfl) (pv 1) (λ_ _=>rfl))))),?_⟩
  try dsimp-beta-proj-iota-zeta-eta only[wishK,cxK]
  have n:=ok.nbr
  exact(iV rfl (iM hc.ins rfl ⟨_,rfl,c,a,m,b,rfl,hc,b0,b1,iV rfl (iF hc.ins T.bL T.iO rfl ⟨_,rfl,iL (k:=b) (v:=_) (SqL.of hc.br) (getB b0 (by lia)) q⟩)⟩))
noncomputable def spDe(t:Adr):Sp:=λvs H Q E=>∃c a m,vs=[.ref c]∧ChipAt t.C_Chip H c a m∧∀rs,H a.rc=some (.lst rs)→Recd H rs m.rc→NewO H (.lst rs) Q
theorem q0A(T:Txt K mg t)(S:Fns K t):S.iQ.Ok0 P w mg base 1 (spDe t):=by
 refine S.iQ.F.ok0 q7D λcdv A _ s H vs Q E hr h=>?_
 ·obtain⟨c,a,m,rfl,hc,q⟩:=h
  refine⟨_,(qE (qL (zA vE (by rfl) T.aAG (by kernel_rfl) (qA (qJ (pv 0) rfl) qD)))),?_⟩
  try dsimp-beta-proj-iota-zeta-eta only[wishK,cxK]
  obtain⟨rs,er,pr⟩:=hc.rc
  exact(iV rfl (iF hc.ins T.bL T.iH rfl ⟨a.rc,rs,rfl,.inl (SqL.of er),q rs er pr⟩))
noncomputable def qJW(t:Adr):Sp:=λvs H Q E=>∃c a m,∃b:Nat,vs=[.ref c,.int (b:Int)]∧ChipAt t.C_Chip H c a m∧m.Ok∧m.rc.length<1000000∧Gd m∧(b:Int)≤m.bl-1∧m.cl.getD b 0<m.mo∧(m.lf=some 0→E (.ref t.C_PowerGone) none H)∧(m.lf≠some 0→∀H',ChipAt t.C_Chip H' c a (wipC m b)→Keep (foot c a) H H'→Q .non H')
theorem q93(T:Txt K mg t)(S:Fns K t):S.aAI.OkE P w mg base 4 (qJW t):=by
 refine S.aAI.F.okE vY (λvs H Q E h=>?_) (λcdv A outer s H vs Q E hr h=>?_)
 ·repeat obtain⟨_,h⟩:=h
  all_goals subst_vars;rfl
 ·obtain⟨c,a,m,b,rfl,hc,ok,hr1,g,b1,hm,dk,q⟩:=h
  refine⟨_,(qB (qX (jC (pv 0) T.bL T.fE (uK T S).mono hr S.eE.b .nil qK (qA (pv 1) qD))) (qB (qX (jW jH (pv 0) T.bL T.iY (zQ T S).mono hr S.fH.b .nil (qA (pv 1) qD))) (qB (qT (i:=2) vY.nd rfl (Or.inl rfl) (qHF (jC (pv 0) T.bL T.oP (q0T T S).mono hr S.fQ.b .nil qK (qA (pv 1) qD)) (q10 (uU qBJ (qW jD (qJ (pv 0) rfl) (pv 1) (λ_ _=>rfl)) (qJ (pv 0) rfl) (qS _))))) (qB (qX (jC (pv 0) T.bL T.oS (q1S T S).mono hr S.iD.b .nil qK (qA q0Y (qA (pv 1) (qA (pv 1) (qA (pv 2) qD)))))) (qB (qT (i:=3) vY.nd rfl (Or.inl rfl) (qO yM (pv 1) (qJ (pv 0) rfl))) (qB (uE wZ rfl (q0H rfl T.f9 (qA (pv 3) (qA (qO yZ (pv 3) (qJ (pv 0) rfl)) qD))) (qU (i:=4) vY.nd rfl (Or.inl rfl)) (qE (q12 yY (q1V (qJ (pv 0) rfl) (pv 4) yO)))) (qE (q3Y (qJ (pv 0) rfl) (pv 1) q1Y qI q5R yO)))))))),?_⟩
  try dsimp-beta-proj-iota-zeta-eta only[wishK,cxK]
  have b0:(0:Int)≤b:=by lia
  have pg1:=ok.pg1
  have pg2:=ok.pg2
  have bl1:=ok.bl2
  have nbo:=ok.nbo
  have ncl:=ok.ncl
  refine(iV rfl (iM hc.ins rfl ⟨_,rfl,c,a,m,b,rfl,hc,b0,b1,?_⟩))
  refine(iV rfl (iM hc.ins rfl ⟨_,rfl,c,a,m,b,rfl,hc,ok,g,b0,by lia,?_⟩))
  by_cases z:m.lf=some 0
  ·rw[kD z]
   exact dk z
  rw[kB z]
  have q:=q z
  refine(iV rfl (iM hc.ins rfl ⟨_,rfl,c,a,m,b,rfl,hc,g,_,rfl,iteF ?_⟩))
  refine(iV rfl (iF hc.ins T.bL T.eI rfl ⟨_,rfl,iL (k:=b) (v:=_) (SqL.of hc.cl) (getI b0 (by lia)) (iV rfl (iF hc.ins T.bL T.aAA rfl (iI ?_)))⟩))
  show q1U 2 (V.bl (decide (m.mo≤m.cl.getD b 0))) _ _ _
  rw[hI (by lia)]
  refine(iV rfl (iM hc.ins rfl ⟨_,rfl,_,rfl,_,rfl,c,a,m,"wipe",b,b,rfl,hc,ok,hr1,b0,by lia,λH' hc' k'=>?_⟩))
  have bp:b*m.pg+m.pg≤m.bl*m.pg:=by
   have:=Int.mul_le_mul_of_nonneg_right (show(b:Int)+1≤m.bl by lia) (show 0≤m.pg by lia)
   rw[Int.add_mul,xY]at this
   exact this
  have bq:0≤b*m.pg:=lF b0 (by lia)
  have bmax:m.bl*m.pg≤256:=by
   have:=aS bl1 pg2 (by lia) (by decide)
   lia
  refine⟨_,rfl,_,rfl,c,_,a.dx,_,.int m.pg,rfl,hc'.ins,T.bL,T.eA,rfl,iI ⟨.inl ⟨by lia,by lia⟩,?_⟩⟩
  refine⟨_,rfl,_,rfl,_,rfl,c,_,a.dx,_,.int m.pg,rfl,hc'.ins,T.bL,T.eA,rfl,iI ⟨_,_,rfl,⟨by lia,by lia,by lia,by lia⟩,?_⟩⟩
  refine q7N (λi σ' H1=>∃y,σ'=[some (.ref c),some (.int b),some (.bl false),some (.int (b*m.pg)),y]∧ChipAt t.C_Chip H1 c a { m.deed "wipe" b b false with bo:=clr m.bo (b*m.pg).toNat i }∧Keep (foot c a) H H1) ⟨_,rfl,hc',k'⟩ (λi σ' H1 hi hp=>?_) (λσ' H1 hp=>?_)
  ·obtain⟨y,rfl,h1,k1⟩:=hp
   have hi':(i:Int)<m.pg:=by
    have:i<(b*m.pg+m.pg-b*m.pg).toNat:=hi
    lia
   refine(iV rfl (iF h1.ins T.bL T.fA rfl ⟨_,rfl,a.bo,_,_,(b*m.pg+i).toNat,rfl,rfl,h1.bo,ixOk (by lia) (by rw[q5I];lia),?_⟩))
   have e:(b*m.pg+(i:Int)).toNat=(b*m.pg).toNat+i:=by lia
   rw[e]
   exact⟨_,rfl,h1.setBo _,k1.trans (Keep.upd h1.bo (λ_ z=>by cases z) (by simp[foot]))⟩
  ·obtain⟨y,rfl,h1,k1⟩:=hp
   have e:(b*m.pg+m.pg-b*m.pg).toNat=m.pg.toNat:=by lia
   rw[e]at h1
   refine(iV rfl (iF h1.ins T.bL T.eI rfl ⟨_,rfl,iL (k:=b) (v:=_) (SqL.of h1.cl) (getI b0 (by show(b:Int)<(m.cl.length:Int);lia)) (iI ⟨a.cl,_,b,b,rfl,rfl,h1.cl,by rw[hC];exact ixOk b0 (by show(b:Int)<(m.cl.length:Int);lia),?_⟩)⟩))
   rw[←xN]
   exact q _ (h1.setCl _) (k1.trans (Keep.upd h1.cl (λ_ z=>by cases z) (by simp[foot])))
noncomputable def qKZ(K:W.Frag):Sp:=λvs H Q E=>∃l bl,vs=[.ref l,.int bl]∧SqL K H l []∧NewO H (.dK []) Q
theorem q94(T:Txt K mg t)(S:Fns K t):S.aAO.Ok0 P w mg base 3 (qKZ K):=by
 refine S.aAO.F.ok0 vX λcdv A _ s H vs Q E hr h=>?_
 ·obtain⟨l,bl,rfl,sq,q⟩:=h
  refine⟨_,(qB (qT (i:=2) vX.nd rfl (Or.inl rfl) q41) (qB (uE gU rfl (jZ (pv 0)) (q5Q rfl (jV (qU (i:=3) vX.nd rfl (Or.inl rfl)) (jV (qU (i:=4) vX.nd rfl (Or.inl rfl)) q11))) (qB jG (qB jG (qB jG (qE jG))))) (qE (qL (pv 2))))),?_⟩
  try dsimp-beta-proj-iota-zeta-eta only[wishK,cxK]
  refine λp np=>?_
  have s0:Same H (upd H p (.dK [])):=Same.upd np
  refine⟨_,rfl,l,rfl,⟨[],s0.seq sq⟩,vH (K:=K) (xs:=[]) (λ_ σ' H1=>(∃y z,σ'=[some (.ref l),some (.int bl),some (.ref p),y,z])∧H1=upd H p (.dK [])) ⟨⟨_,_,rfl⟩,rfl⟩ (λi σ' H1 _ hp=>by rw[hp.2];exact s0.seq sq) (λi x σ' H1 hx _=>by simp at hx) (λσ' H1 hp=>?_)⟩
  obtain⟨⟨y,z,rfl⟩,rfl⟩:=hp
  exact⟨_,rfl,q p _ np s0 qH⟩
structure Wm(C x dx:Addr)(H G:Hp)(fs:List (Str×V))(os:List (Addr×HO)):Prop where
 i:G x=some (.ins C dx fs)
 u:Up x H G
 o:∀p∈os,G p.1=some p.2∧H p.1=none∧p.1≠x
 n:(os.map (·.1)).Nodup
section
variable{C x dx:Addr}{H G B:Hp}{fs fs':List (Str×V)}{os:List (Addr×HO)}
theorem Wm.same(h:Wm C x dx H G fs os)(s:Same G B):Wm C x dx H B fs os:=⟨s _ _ h.i,λb o n e=>s _ _ (h.u b o n e),λp hp=>⟨s _ _ (h.o p hp).1,(h.o p hp).2⟩,h.n⟩
theorem Wm.add(h:Wm C x dx H G fs os){a:Addr}{o:HO}(na:G a=none)(s:Same G B)(e:B a=some o):Wm C x dx H B fs (os++[(a,o)]):=by
 have ax:a≠x:=λz=>by rw[z,h.i]at na;cases na
 have w:=h.same s
 refine⟨w.i,w.u,λp hp=>?_,?_⟩
 ·rcases gO.mp hp with hp|hp
  ·exact w.o p hp
  ·rw[kE.mp hp]
   exact⟨e,Up.free h.u ax na,ax⟩
 ·rw[mJ]
  refine wC.mpr ⟨h.n,by simp,λb hb c hc=>?_⟩
  obtain⟨p,hp,rfl⟩:=kP.mp hb
  obtain rfl:c=a:=by simpa using hc
  exact qF (h.o p hp).1 na
theorem Wm.set(h:Wm C x dx H G fs os):Wm C x dx H (upd G x (.ins C dx fs')) fs' os:=⟨qH,λb o n e=>by rw[qC n];exact h.u b o n e,λp hp=>⟨by rw[qC (h.o p hp).2.2];exact(h.o p hp).1,(h.o p hp).2⟩,h.n⟩
theorem Wm.fr(h:Wm C x dx H G fs os)(a:Addr)(ha:a∈os.map (·.1)):H a=none:=by
 obtain⟨p,hp,rfl⟩:=kP.mp ha
 exact(h.o p hp).2.1
theorem Wm.put(h:Wm C x dx H G fs os)(f:Str)(v:V):Wm C x dx H (upd G x (.ins C dx (putF f v fs))) (putF f v fs) os:=h.set
end
noncomputable def spMk(t:Adr):Sp:=λvs H Q E=>∃x dx,∃b p m:Int,vs=[.ref x,.int b,.int p,.int m,.non]∧H x=some (.ins t.C_Chip dx [])∧2≤b∧b≤16∧1≤p∧p≤16∧0≤m∧m≤1000000∧
 ∀a H',ChipAt t.C_Chip H' x a (CM.new b p m [])→(∀b∈[a.li,a.bo,a.cl,a.dc,a.br,a.rc],H b=none)→Up x H H'→Q .non H'
theorem q95(T:Txt K mg t)(S:Fns K t):FnOk P w K mg base (CX0) 4 t.f_Chip_init S.fM ["self","blocks","pages","most","ills"] (spMk t):=by
 refine S.aCP.ok0 q90 λcdv A _ s H vs Q E hr h=>?_
 ·obtain⟨x,dx,b,p,m,rfl,hx,b1,b2,p1,p2,m1,m2,q⟩:=h
  refine⟨_,(qB (jB (yL (jS (qY (q53 T S).mono hr rfl T.aAV T.aAU S.aAE.b .nil qK (qA (pv 1) (qA (pv 2) qD))))) (qE jG) qR) (qB (jB (yL (jS (qY (jL T S).mono hr rfl T.bU T.bT S.bY.b .nil qK (qA (pv 3) (qA qI (qA (q0Z rfl T.t7 ⟨_,rfl⟩ (v:=.int 1000000)) qD)))))) (qE jG) qR) (qB (jO (pv 0) (pv 1) rfl) (qB (jO (pv 0) (pv 2) rfl) (qB (jO (pv 0) (pv 3) rfl) (qB (jO (pv 0) (qY (q94 T S).mono hr rfl T.aB4 T.aB7 S.aAO.b .nil qK (qA (qDE (qP q8B (pv 4) yY (qS _)) (jT qD) (pv 4)) (qA (pv 1) qD))) rfl) (qB (jO (pv 0) (qO q16 (jT (qA yY qD)) (qO yM (pv 1) (pv 2))) rfl) (qB (jO (pv 0) (qO q16 (jT (qA qI qD)) (pv 1)) rfl) (qB (jO (pv 0) (qO q16 (jT (qA qI qD)) (pv 1)) rfl) (qB (jO (pv 0) (qO q16 (jT (qA uC qD)) (pv 1)) rfl) (qB (jO (pv 0) yY rfl) (qE (jO (pv 0) (jT qD) rfl))))))))))))),?_⟩
  try dsimp-beta-proj-iota-zeta-eta only[wishK,cxK]
  refine⟨_,rfl,_,rfl,.int b,.int p,rfl,.int b,.int p,_,rfl,?_⟩
  rw[inBi b1 b2,inBi p1 p2]
  refine iteF ?_
  refine⟨_,rfl,.int m,_,_,rfl,.int m,_,rfl,?_⟩
  rw[inBi m1 m2]
  refine iteF ?_
  have bp:b*p≤256:=aS b2 p2 (by lia) (by decide)
  have bp0:0≤b*p:=lF (by lia) (by lia)
  refine⟨_,rfl,_,rfl,x,_,dx,_,rfl,hx,T.bL,T.eF,by simp,?_⟩
  have w1:Wm t.C_Chip x dx H (upd H x (.ins t.C_Chip dx (putF "blocks" (.int b) []))) (putF "blocks" (.int b) []) []:=⟨qH,Up.of (Same.refl H),by simp,by simp⟩
  refine⟨_,rfl,_,rfl,x,_,dx,_,rfl,w1.i,T.bL,T.eA,by show 1<1000;decide,?_⟩
  have w2:=w1.put "pages" (.int p)
  refine⟨_,rfl,_,rfl,x,_,dx,_,rfl,w2.i,T.bL,T.aAA,by show 2<1000;decide,?_⟩
  have w3:=w2.put "most" (.int m)
  refine⟨_,rfl,rfl,_,rfl,iteT ⟨sz0,λl0 H2 n0 s0 e0=>?_⟩⟩
  refine⟨_,rfl,l0,b,rfl,SqL.of e0,λli H3 n1 s1 e1=>?_⟩
  have w4:=(w3.same s0).add n1 s1 e1
  refine⟨_,rfl,x,_,dx,_,rfl,w4.i,T.bL,T.oW,by show 3<1000;decide,?_⟩
  have w4:=w4.put "limits" (.ref li)
  refine⟨sz1,λwa A1 n1 s1 e1=>⟨_,rfl,_,rfl,iI ⟨.inl ⟨by lia,by lia⟩,wa,_,_,rfl,rfl,e1,by lia,by lia,λbo B1 m1 r1 hbo=>?_⟩⟩⟩
  have w5:=(w4.same s1).add m1 r1 hbo
  refine⟨_,rfl,x,_,dx,_,rfl,w5.i,T.bL,T.fA,by show 4<1000;decide,?_⟩
  have w5:=w5.put "borne" (.ref bo)
  refine⟨sz1,λwa A2 n2 s2 e2=>⟨_,rfl,wa,_,_,rfl,rfl,e2,by lia,by lia,λcl B2 m2 r2 hcl=>?_⟩⟩
  have w6:=(w5.same s2).add m2 r2 hcl
  refine⟨_,rfl,x,_,dx,_,rfl,w6.i,T.bL,T.eI,by show 5<1000;decide,?_⟩
  have w6:=w6.put "clearings" (.ref cl)
  refine⟨sz1,λwa A3 n3 s3 e3=>⟨_,rfl,wa,_,_,rfl,rfl,e3,by lia,by lia,λdc B3 m3 r3 hdc=>?_⟩⟩
  have w7:=(w6.same s3).add m3 r3 hdc
  refine⟨_,rfl,x,_,dx,_,rfl,w7.i,T.bL,T.fZ,by show 6<1000;decide,?_⟩
  have w7:=w7.put "deed_counts" (.ref dc)
  refine⟨sz1,λwa A4 n4 s4 e4=>⟨_,rfl,wa,_,_,rfl,rfl,e4,by lia,by lia,λbr B4 m4 r4 hbr=>?_⟩⟩
  have w8:=(w7.same s4).add m4 r4 hbr
  refine⟨_,rfl,x,_,dx,_,rfl,w8.i,T.bL,T.iO,by show 7<1000;decide,?_⟩
  have w8:=w8.put "broken" (.ref br)
  refine⟨_,rfl,x,_,dx,_,rfl,w8.i,T.bL,T.eG,by show 8<1000;decide,?_⟩
  have w9:=w8.put "deeds_left" .non
  refine⟨sz0,λrc B5 m5 r5 hrc=>?_⟩
  have w:=w9.add m5 r5 hrc
  refine⟨_,rfl,x,_,dx,_,rfl,w.i,T.bL,T.iH,by show 9<1000;decide,?_⟩
  have w:=w.set (fs':=chF ⟨dx,li,bo,cl,dc,br,rc⟩ (CM.new b p m []))
  refine q ⟨dx,li,bo,cl,dc,br,rc⟩ _ ⟨w.i,(w.o (li,.dK []) (by simp)).1,(w.o (bo,.lst (List.replicate (b*p).toNat .non)) (by simp)).1,?_,?_,?_,⟨[],(w.o (rc,.lst []) (by simp)).1,.nil⟩,(m7.mp (show(li::[bo,cl,dc,br,rc]).Nodup from w.n)).2⟩ (λb' hb'=>w.fr b' hb') w.u
  ·show _=some (HO.lst ((List.replicate b.toNat (0:Int)).map V.int))
   rw[cV]
   exact(w.o (cl,.lst (List.replicate b.toNat (.int 0))) (by simp)).1
  ·show _=some (HO.lst ((List.replicate b.toNat (0:Int)).map V.int))
   rw[cV]
   exact(w.o (dc,.lst (List.replicate b.toNat (.int 0))) (by simp)).1
  ·show _=some (HO.lst ((List.replicate b.toNat false).map V.bl))
   rw[cV]
   exact(w.o (br,.lst (List.replicate b.toNat (.bl false))) (by simp)).1
theorem jY(T:Txt K mg t)(S:Fns K t):S.bX.Ok0 P w mg base 1 (qJ0 K):=by
 refine S.bX.F.ok0 q6T λcdv A _ s H vs Q E hr h=>?_
 ·obtain⟨a,ns,k,rfl,hS,h0,q⟩:=h
  refine⟨_,(qB (jB (qP q3Z (pv 1) (j9 jK (by rfl) T.tY gZ (qA (pv 0) qD)) (qS _)) (qE (qL (qW jD (pv 0) (pv 1) (λ_ _=>rfl)))) qR) (qE (qL qI))),?_⟩
  try dsimp-beta-proj-iota-zeta-eta only[wishK,cxK]
  refine⟨_,rfl,_,rfl,a,_,rfl,.inl hS,_,_,rfl,rfl,_,rfl,?_⟩
  rw[hC]
  by_cases h1:k<(ns.length:Int)
  ·rw[hG h1]
   refine iteT ?_
   exact⟨_,rfl,_,rfl,a,_,k,_,rfl,rfl,hS,qCX h0 h1,q⟩
  ·rw[hI h1]
   refine iteF ?_
   have e:=qAU h0 h1
   rw[e]at q
   exact q
theorem qL0{H:Hp}{bl pg mo:Int}{Q:Addr→Hp→Prop}{E:XK}(b1:2≤bl)(b2:bl≤16)(p1:1≤pg)(p2:pg≤16)(m1:0≤mo)(m2:mo≤1000000)
 (q:∀x a H',ChipAt t.C_Chip H' x a (CM.new bl pg mo [])→Same H H'→(∀b∈a.li::foot x a,H b=none)→Q x H') (x dx:Addr) (nx:H x=none) (ndx:H dx=none) (ne:dx≠x):
 spMk t [.ref x,.int bl,.int pg,.int mo,.non] (upd (upd H dx (.own x)) x (.ins t.C_Chip dx [])) (λv H2=>v=.non∧Q x H2) E:=by
 have s0:Same H (upd (upd H dx (.own x)) x (.ins t.C_Chip dx [])):=λb o e=>by rw[qC (qF e nx),qC (qF e ndx)];exact e
 refine⟨x,dx,bl,pg,mo,rfl,qH,b1,b2,p1,p2,m1,m2,λa H' hc fr u=>⟨rfl,q x a H' hc (λb o e=>u b o (qF e nx) (s0 b o e)) λb hb=>?_⟩⟩
 have hb:b=x∨b∈[a.li,a.bo,a.cl,a.dc,a.br,a.rc]:=by
  simp[foot]at hb ⊢
  rcases hb with rfl|rfl|rfl|rfl|rfl|rfl|rfl<;>simp
 rcases hb with rfl|hb
 ·exact nx
 ·exact s0.free (fr _ hb)
theorem q4E(T:Txt K mg t)(S:Fns K t):S.tN.Ok0 P w mg base 1 qBN:=by
 refine S.tN.F.ok0 q92 λcdv A _ s H vs Q E hr h=>?_
 ·obtain⟨x,rfl,kn,k⟩:=h
  refine⟨_,(qE (qL (q1T (j9 yK (by rfl) T.bZ (by kernel_rfl) (qA (pv 0) (qA (zT rfl T.aDQ (by kernel_rfl) rfl (v:=.ty "int")) qD))) (q10 (qAN (j9 yK (by rfl) T.bZ (by kernel_rfl) (qA (pv 0) (qA (zT rfl T.aDJ (by kernel_rfl) rfl (v:=.ty "bool")) qD)))))))),?_⟩
  try dsimp-beta-proj-iota-zeta-eta only[wishK,cxK]
  obtain⟨ty,q,e1,e2,_⟩:=kn.ty (K:=K)
  refine⟨_,rfl,x,_,_,ty,_,rfl,rfl,.inl q,e1,_,rfl,?_⟩
  have z:=qE5 x
  cases qi:isI x with
  |true=>
   rw[qi,kD rfl]at z
   refine iteT ?_
   refine⟨_,rfl,x,_,_,ty,_,rfl,rfl,.inl q,e2,_,rfl,?_⟩
   rw[z]
   exact k
  |false=>
   rw[qi]at z
   refine iteF ?_
   have z':false=isW x:=z
   rw[z']
   exact k
noncomputable def qL1(t:Adr):Sp:=λvs H Q E=>∃x dx fs b e,vs=[.ref x]∧H x=some (.ins t.C_Terms dx fs)∧fs.lookup (Str.ofString "blocks")=some (.int b)∧fs.lookup (Str.ofString "ill")=some (.int e)∧Q (.int (b-1-e)) H
theorem q5C(T:Txt K mg t)(S:Fns K t):S.oH.Ok0 P w mg base 1 (qL1 t):=by
 refine S.oH.F.ok0 q5A λcdv A _ s H vs Q E hr h=>?_
 ·obtain⟨x,dx,fs,b,e,rfl,hx,l1,l2,q⟩:=h
  refine⟨_,(qE (qL (qO zD (qO zD (qJ (pv 0) rfl) qI) (qJ (pv 0) rfl)))),?_⟩
  try dsimp-beta-proj-iota-zeta-eta only[wishK,cxK]
  exact(iV rfl (iF hx T.bR T.eZ l1 (iI (iV rfl (iF hx T.bR T.oE l2 (iI q))))))
noncomputable def teF(r0 r1 r2 r3 r4 r5:V):List (Str×V):=[("blocks",r0),("pages",r1),("sheets",r2),("share",r3),("ill",r4),("spread",r5)]
noncomputable def spTm(t:Adr):Sp:=λvs H Q E=>∃x dx,∃b p s r e d:Int,vs=[.ref x,.int b,.int p,.int s,.int r,.int e,.int d]∧H x=some (.ins t.C_Terms dx [])∧2≤b∧b≤16∧1≤p∧p≤16∧1≤s∧s≤64∧1≤r∧r≤(b-1-e)*p-2∧0≤e∧e≤b-2∧1≤d∧d≤1000000∧
 ∀H',H' x=some (.ins t.C_Terms dx (teF (.int b) (.int p) (.int s) (.int r) (.int e) (.int d)))→Up x H H'→Q .non H'
theorem q7F(T:Txt K mg t)(S:Fns K t):FnOk P w K mg base (CX0) 4 t.f_Terms_init S.fF ["self","blocks","pages","sheets","share","ill","spread"] (spTm t):=by
 refine S.aB3.ok0 q7E λcdv A _ s H vs Q E hr h=>?_
 ·obtain⟨x,dx,b,p,s',r,e,d,rfl,hx,b1,b2,p1,p2,s1,s2,r1,r2,e1,e2,d1,d2,q⟩:=h
  refine⟨_,(qB (jB (yL (jS (qY (q53 T S).mono hr rfl T.aAV T.aAU S.aAE.b .nil qK (qA (pv 1) (qA (pv 2) qD))))) (qE jG) qR) (qB (jB (yL (jS (qY (jL T S).mono hr rfl T.bU T.bT S.bY.b .nil qK (qA (pv 3) (qA qI (qA qI qD)))))) (qE jG) qR) (qB (jB (yL (jS (qY (jL T S).mono hr rfl T.bU T.bT S.bY.b .nil qK (qA (pv 5) (qA qI (qA (qO zD (pv 1) qI) qD)))))) (qE jG) qR) (qB (jB (yL (jS (qY (jL T S).mono hr rfl T.bU T.bT S.bY.b .nil qK (qA (pv 6) (qA qI (qA (q0Z rfl T.t7 ⟨_,rfl⟩ (v:=.int 1000000)) qD)))))) (qE jG) qR) (qB (jO (pv 0) (pv 1) rfl) (qB (jO (pv 0) (pv 2) rfl) (qB (jO (pv 0) (pv 3) rfl) (qB (jO (pv 0) (pv 4) rfl) (qB (jO (pv 0) (pv 5) rfl) (qB (jO (pv 0) (pv 6) rfl) (qE (jB (yL (jS (qY (jL T S).mono hr rfl T.bU T.bT S.bY.b .nil qK (qA (pv 4) (qA qI (qA (qO zD (qO yM (j8 (pv 0) T.bR T.aA8 (q5C T S).mono hr S.oH.b .nil qK) (pv 2)) qI) qD)))))) (qE jG) qR)))))))))))),?_⟩
  try dsimp-beta-proj-iota-zeta-eta only[wishK,cxK]
  refine⟨_,rfl,_,rfl,.int b,.int p,rfl,.int b,.int p,_,rfl,?_⟩
  rw[inBi b1 b2,inBi p1 p2]
  refine iteF ⟨_,rfl,.int s',_,_,rfl,.int s',_,rfl,?_⟩
  rw[inBi s1 s2]
  refine iteF ⟨_,rfl,_,rfl,iI ⟨.int e,_,_,rfl,.int e,_,rfl,?_⟩⟩
  rw[inBi e1 e2]
  refine iteF ⟨_,rfl,.int d,_,_,rfl,.int d,_,rfl,?_⟩
  rw[inBi d1 d2]
  refine iteF ⟨_,rfl,_,rfl,x,_,dx,_,rfl,hx,T.bR,T.eZ,by simp,?_⟩
  have w1:Wm t.C_Terms x dx H (upd H x (.ins t.C_Terms dx (putF "blocks" (.int b) []))) (putF "blocks" (.int b) []) []:=⟨qH,Up.of (Same.refl H),by simp,by simp⟩
  refine⟨_,rfl,_,rfl,x,_,dx,_,rfl,w1.i,T.bR,T.bQ,by show 1<1000;decide,?_⟩
  have w2:=w1.put "pages" (.int p)
  refine⟨_,rfl,_,rfl,x,_,dx,_,rfl,w2.i,T.bR,T.oM,by show 2<1000;decide,?_⟩
  have w3:=w2.put "sheets" (.int s')
  refine⟨_,rfl,_,rfl,x,_,dx,_,rfl,w3.i,T.bR,T.oX,by show 3<1000;decide,?_⟩
  have w4:=w3.put "share" (.int r)
  refine⟨_,rfl,_,rfl,x,_,dx,_,rfl,w4.i,T.bR,T.oE,by show 4<1000;decide,?_⟩
  have w5:=w4.put "ill" (.int e)
  refine⟨_,rfl,_,rfl,x,_,dx,_,rfl,w5.i,T.bR,T.aAH,by show 5<1000;decide,?_⟩
  have w:=w5.put "spread" (.int d)
  refine⟨_,rfl,_,rfl,x,dx,_,rfl,w.i,rfl,x,dx,_,b,e,rfl,w.i,rfl,rfl,_,rfl,iI ⟨.inr ⟨by lia,by lia⟩,iI ⟨.int r,_,_,rfl,.int r,_,rfl,?_⟩⟩⟩
  rw[inBi r1 r2]
  exact iteF (q _ w.i w.u)
theorem qL2{H:Hp}{b p s r e d:Int}{Q:Addr→Hp→Prop}{E:XK}(b1:2≤b)(b2:b≤16)(p1:1≤p)(p2:p≤16)(s1:1≤s)(s2:s≤64)(r1:1≤r)(r2:r≤(b-1-e)*p-2)(e1:0≤e)(e2:e≤b-2)(d1:1≤d)(d2:d≤1000000)
 (q:∀x dx H',Same H H'→H' x=some (.ins t.C_Terms dx (teF (.int b) (.int p) (.int s) (.int r) (.int e) (.int d)))→Q x H') (x dx:Addr) (nx:H x=none) (ndx:H dx=none) (ne:dx≠x):
 spTm t [.ref x,.int b,.int p,.int s,.int r,.int e,.int d] (upd (upd H dx (.own x)) x (.ins t.C_Terms dx [])) (λv H2=>v=.non∧Q x H2) E:=by
 have s0:Same H (upd (upd H dx (.own x)) x (.ins t.C_Terms dx [])):=λb o e=>by rw[qC (qF e nx),qC (qF e ndx)];exact e
 exact⟨x,dx,b,p,s,r,e,d,rfl,qH,b1,b2,p1,p2,s1,s2,r1,r2,e1,e2,d1,d2,λH' h u=>⟨rfl,q x dx H' (λb o e=>u b o (qF e nx) (s0 b o e)) h⟩⟩
noncomputable def qL3:Sp:=λvs H Q _=>∃s n,vs=[.int s,.int n]∧Q (.int (s*128+n)) H
theorem qBD(T:Txt K mg t)(S:Fns K t):S.aCM.Ok0 P w mg base 1 qL3:=by
 refine S.aCM.F.ok0 qBC λcdv A _ s H vs Q E hr h=>?_
 ·obtain⟨s',n,rfl,q⟩:=h
  refine⟨_,(qE (qL (qO yZ (qO yM (pv 0) (q0Z rfl T.aC7 ⟨_,rfl⟩ (v:=.int 128))) (pv 1)))),?_⟩
  try dsimp-beta-proj-iota-zeta-eta only[wishK,cxK]
  exact⟨_,rfl,iI ⟨.inr ⟨by decide,by decide⟩,_,rfl,iI q⟩⟩
structure BkA where
 bk:Addr
 dx:Addr
 wv:Addr
 lv:Addr
 fi:Addr
 bo:Addr
structure BkAt(t:Adr)(H:Hp)(a:BkA)(m:QM):Prop where
 o:H a.bk=some (.ins t.C_Book a.dx [("blocks",.int (m.B:Int)),("pages",.int (m.P:Int)),("stamp",.int m.nx),("where",.ref a.wv),("live",.ref a.lv),("filled",.ref a.fi),("born",.ref a.bo)])
 w:H a.wv=some (.dK (dI m.V))
 l:H a.lv=some (.lst (m.lv.map V.int))
 f:H a.fi=some (.lst (m.fi.map V.int))
 b:H a.bo=some (.lst (m.bo.map V.int))
structure Dst(a:BkA):Prop where
 lf:a.lv≠a.fi
 lb:a.lv≠a.bo
 fb:a.fi≠a.bo
theorem BkAt.same{t:Adr}{H H':Hp}{a:BkA}{m:QM}(h:BkAt t H a m)(s:Same H H'):BkAt t H' a m:=⟨s _ _ h.o,s _ _ h.w,s _ _ h.l,s _ _ h.f,s _ _ h.b⟩
theorem BkAt.keep{t:Adr}{H H':Hp}{a:BkA}{m:QM}{F:List Addr}(h:BkAt t H a m)(k:Keep F H H')(n:∀b∈[a.bk,a.wv,a.lv,a.fi,a.bo],b∉F):BkAt t H' a m:=
 ⟨k.k _ _ (n _ (by simp)) h.o,k.k _ _ (n _ (by simp)) h.w,k.k _ _ (n _ (by simp)) h.l,k.k _ _ (n _ (by simp)) h.f,k.k _ _ (n _ (by simp)) h.b⟩
noncomputable def bk0(B P:Nat):QM:=⟨P,B,1,[],List.replicate B 0,List.replicate B 0,List.replicate B 0⟩
noncomputable def qL4(t:Adr):Sp:=λvs H Q _=>∃x dx B P,vs=[.ref x,.int (B:Nat),.int (P:Nat)]∧B≤16∧H x=some (.ins t.C_Book dx [])∧
 ∀(a:BkA) H',a.bk=x→a.dx=dx→BkAt t H' a (bk0 B P)→Dst a→(∀b∈[a.wv,a.lv,a.fi,a.bo],H b=none)→(∀b o,b≠x→H b=some o→H' b=some o)→Q .non H'
theorem q96(T:Txt K mg t)(S:Fns K t):S.aAT.Ok0 P w mg base 1 (qL4 t):=by
 refine S.aAT.F.ok0 q8W λcdv A _ s H vs Q E hr h=>?_
 ·obtain⟨x,dx,B,P,rfl,hB,hx,q⟩:=h
  refine⟨_,(qB (jO (pv 0) (pv 1) rfl) (qB (jO (pv 0) (pv 2) rfl) (qB (jO (pv 0) qI rfl) (qB (jO (pv 0) q41 rfl) (qB (jO (pv 0) (qO q16 (jT (qA qI qD)) (pv 1)) rfl) (qB (jO (pv 0) (qO q16 (jT (qA qI qD)) (pv 1)) rfl) (qE (jO (pv 0) (qO q16 (jT (qA qI qD)) (pv 1)) rfl)))))))),?_⟩
  try dsimp-beta-proj-iota-zeta-eta only[wishK,cxK]
  refine⟨_,rfl,_,rfl,x,_,dx,_,rfl,hx,T.bO,T.aA1,by decide,?_⟩
  refine⟨_,rfl,_,rfl,x,_,dx,_,rfl,qH,T.bO,T.fR,by show 1<1000;decide,?_⟩
  refine⟨_,rfl,x,_,dx,_,rfl,qH,T.bO,T.b8,by show 2<1000;decide,?_⟩
  rw[q89,q89]
  have w1:Wm t.C_Book x dx H (upd H x (.ins t.C_Book dx (putF "stamp" (.int 1) (putF "pages" (.int (P:Int)) (putF "blocks" (.int (B:Int)) []))))) (putF "stamp" (.int 1) (putF "pages" (.int (P:Int)) (putF "blocks" (.int (B:Int)) []))) []:=⟨qH,Up.of (Same.refl H),by simp,by simp⟩
  have rep:∀n:Nat,List.replicate n (V.int 0)=(List.replicate n (0:Int)).map V.int:=λn=>by rw[cV]
  have eB:((B:Int)).toNat=B:=by lia
  refine λwv nwv=>?_
  have w2:=w1.add nwv (Same.upd (o:=.dK []) nwv) qH
  refine⟨_,rfl,x,_,dx,_,rfl,w2.i,T.bO,T.eJ,by show 3<1000;decide,?_⟩
  have w2:=w2.put "where" (.ref wv)
  refine⟨sz1,λwa A3 n3 s3 e3=>⟨_,rfl,wa,_,_,rfl,rfl,e3,by lia,by lia,λlv B3 m3 r3 hlv=>?_⟩⟩
  rw[eB,rep]at hlv
  have w3:=(w2.same s3).add m3 r3 hlv
  refine⟨_,rfl,x,_,dx,_,rfl,w3.i,T.bO,T.iA,by show 4<1000;decide,?_⟩
  have w3:=w3.put "live" (.ref lv)
  refine⟨sz1,λwa A4 n4 s4 e4=>⟨_,rfl,wa,_,_,rfl,rfl,e4,by lia,by lia,λfi B4 m4 r4 hfi=>?_⟩⟩
  rw[eB,rep]at hfi
  have w4:=(w3.same s4).add m4 r4 hfi
  refine⟨_,rfl,x,_,dx,_,rfl,w4.i,T.bO,T.bS,by show 5<1000;decide,?_⟩
  have w4:=w4.put "filled" (.ref fi)
  refine⟨sz1,λwa A5 n5 s5 e5=>⟨_,rfl,wa,_,_,rfl,rfl,e5,by lia,by lia,λbo B5 m5 r5 hbo=>?_⟩⟩
  rw[eB,rep]at hbo
  have w5:=(w4.same s5).add m5 r5 hbo
  refine⟨_,rfl,x,_,dx,_,rfl,w5.i,T.bO,T.iB,by show 6<1000;decide,?_⟩
  have w5:=w5.put "born" (.ref bo)
  have nd:[wv,lv,fi,bo].Nodup:=w5.n
  simp only[m7,kI,gW,not_or,cE]at nd
  exact q ⟨x,dx,wv,lv,fi,bo⟩ _ rfl rfl ⟨w5.i,(w5.o (wv,.dK []) (by simp)).1,(w5.o (lv,.lst ((List.replicate B (0:Int)).map V.int)) (by simp)).1,(w5.o (fi,.lst ((List.replicate B (0:Int)).map V.int)) (by simp)).1,(w5.o (bo,.lst ((List.replicate B (0:Int)).map V.int)) (by simp)).1⟩ ⟨nd.2.1.1,nd.2.1.2,nd.2.2.1⟩ (λb' hb'=>w5.fr b' hb') w5.u
noncomputable def qJX(t:Adr):Sp:=λvs H Q _=>∃a,∃m:QM,∃n,vs=[.ref a.bk,.int n]∧BkAt t H a m∧Q (.int (m.nx*128+n)) H
theorem q97(T:Txt K mg t)(S:Fns K t):S.aAS.Ok0 P w mg base 2 (qJX t):=by
 refine S.aAS.F.ok0 q8X λcdv A _ s H vs Q E hr h=>?_
 ·obtain⟨a,m,n,rfl,hb,q⟩:=h
  refine⟨_,(qE (qL (qY (qBD T S).mono hr rfl T.aCX T.aCZ S.aCM.b .nil qK (qA (qJ (pv 0) rfl) (qA (pv 1) qD))))),?_⟩
  try dsimp-beta-proj-iota-zeta-eta only[wishK,cxK]
  exact(iV rfl (iF hb.o T.bO T.b8 rfl ⟨_,rfl,_,_,rfl,q⟩))
noncomputable def spFg(t:Adr):Sp:=λvs H Q _=>∃a,∃m:QM,∃n,vs=[.ref a.bk,.int n]∧BkAt t H a m∧m.Ok∧Dst a∧∀H',BkAt t H' a (m.forget n)→Keep [a.wv,a.lv] H H'→Q .non H'
theorem q2R(T:Txt K mg t)(S:Fns K t):S.i3.Ok0 P w mg base 1 (spFg t):=by
 refine S.i3.F.ok0 q2K λcdv A _ s H vs Q E hr h=>?_
 ·obtain⟨a,m,n,rfl,hb,ok,ds,q⟩:=h
  have hu:=q1X hr
  have p1:=ok.p1
  have p2:=ok.p2
  have ob:a.bk≠a.wv:=jR hb.o hb.w (by intro z;cases z)
  have ol:a.bk≠a.lv:=jR hb.o hb.l (by intro z;cases z)
  have wl:a.wv≠a.lv:=jR hb.w hb.l (by intro z;cases z)
  have wf:a.fi≠a.wv:=jR hb.f hb.w (by intro z;cases z)
  have wb:a.bo≠a.wv:=jR hb.b hb.w (by intro z;cases z)
  refine⟨_,(qE (jB (qAM (q8G hu (pv 1) (qJ (pv 0) rfl))) (qB (qT (i:=2) q2K.nd rfl (Or.inl rfl) (qE1 (qJ (pv 0) rfl) (pv 1) ⟨rfl,rfl,rfl,rfl⟩)) (qE (q3Y (qJ (pv 0) rfl) (qO vD (pv 2) (qJ (pv 0) rfl)) q1Y qI qI4 yO))) qR)),?_⟩
  try dsimp-beta-proj-iota-zeta-eta only[wishK,cxK]
  refine⟨_,rfl,iV rfl (iF hb.o T.bO T.eJ rfl ⟨a.wv,_,rfl,DGet.k (k:=Sum.inl n) hb.w,_,rfl,?_⟩)⟩
  rcases QM.find_V (m:=m) (n:=n)with⟨p,hp,ef⟩|⟨hn,ef⟩
  ·have hv:(n,p)∈m.V:=hp
   rw[q8O ok.nd hv]
   refine iteT ?_
   refine(iV rfl (iF hb.o T.bO T.eJ rfl ⟨a.wv,rfl,.inl ⟨_,.inl hb.w⟩,_,rfl,_,Sum.inl n,_,hb.w,rfl,q8O ok.nd hv,?_⟩))
   rw[qEU]
   have k1:Keep [a.wv,a.lv] H (upd H a.wv (.dK (dI (jE m.V n)))):=Keep.upd hb.w (λ_ z=>by cases z) (by simp)
   have w1:(upd H a.wv (.dK (dI (jE m.V n)))) a.wv=some (.dK (dI (jE m.V n))):=qH
   have u1:∀b o,b≠a.wv→H b=some o→(upd H a.wv (.dK (dI (jE m.V n)))) b=some o:=λb o nb e=>by
    rw[qC nb]
    exact e
   generalize upd H a.wv (.dK (dI (jE m.V n)))=H1 at k1 w1 u1 ⊢
   obtain⟨c,hc,ec⟩:=ok.blk _ hp
   have ec:p / (m.P:Int)=(c:Int):=ec
   have hcl:c<m.lv.length:=by rw[ok.ll];exact hc
   have l1:=u1 _ _ wl.symm hb.l
   refine(iV rfl (iF (u1 _ _ ob hb.o) T.bO T.iA rfl ⟨_,rfl,iV rfl (iF (u1 _ _ ob hb.o) T.bO T.fR rfl (iI ⟨⟨by lia,by lia⟩,iL (k:=_) (v:=_) (SqL.of l1) (by rw[ec];exact atV hcl) (iI ⟨a.lv,_,_,c,rfl,rfl,l1,(by rw[ec];exact q21 (by rw[hC];exact hcl)),?_⟩)⟩))⟩))
   rw[setV]
   have el:(m.forget n).lv=m.lv.set c (m.lv.getD c 0-1):=by
    show BM.lvF m.P m.V m.lv n=_
    unfold BM.lvF
    rw[ef]
    show m.lv.set (p / (m.P:Int)).toNat (m.lv.getD (p / (m.P:Int)).toNat 0-1)=_
    rw[ec,show((c:Int)).toNat=c by lia]
   refine q _ ⟨?_,?_,?_,?_,?_⟩ (k1.trans (Keep.upd l1 (λ_ z=>by cases z) (by simp)))
   ·rw[qC ol]
    exact u1 _ _ ob hb.o
   ·rw[qC wl]
    exact w1
   ·rw[el]
    exact qH
   ·rw[qC ds.lf.symm]
    exact u1 _ _ wf hb.f
   ·rw[qC ds.lb.symm]
    exact u1 _ _ wb hb.b
  ·rw[q6E (λz=>by
    obtain⟨r,hr',e⟩:=kP.mp z
    exact hn r hr' e)]
   refine iteF ?_
   have el:(m.forget n).lv=m.lv:=by
    show BM.lvF m.P m.V m.lv n=_
    unfold BM.lvF
    rw[ef]
   have eV:(m.forget n).V=m.V:=qGH λr hr'=>hn r hr'
   exact q H ⟨hb.o,by rw[eV];exact hb.w,by rw[el];exact hb.l,hb.f,hb.b⟩ Keep.refl
theorem q6V{V:Mp}:(dI V).length=V.length:=by unfold dI;rw[hC]
noncomputable def spNt(t:Adr):Sp:=λvs H Q _=>∃a,∃m:QM,∃b f n,vs=[.ref a.bk,.int ((b*m.P+f:Nat):Int),.int n]∧BkAt t H a m∧m.Ok∧Dst a∧b<m.B∧f<m.P∧m.fi.getD b 0=(f:Int)∧∀H',BkAt t H' a (m.put b f n)→Keep [a.bk,a.wv,a.lv,a.fi,a.bo] H H'→Q .non H'
theorem q98(T:Txt K mg t)(S:Fns K t):S.aAN.Ok0 P w mg base 2 (spNt t):=by
 refine S.aAN.F.ok0 q4C λcdv A _ s H vs Q E hr h=>?_
 ·obtain⟨a,m,b,f,n,rfl,hb,ok,ds,hB,hf,ef,q⟩:=h
  have hu:=q1X hr
  have p1:=ok.p1
  have p2:=ok.p2
  have ob:a.bk≠a.wv:=jR hb.o hb.w (by intro z;cases z)
  have ol:a.bk≠a.lv:=jR hb.o hb.l (by intro z;cases z)
  have of':a.bk≠a.fi:=jR hb.o hb.f (by intro z;cases z)
  have oo:a.bk≠a.bo:=jR hb.o hb.b (by intro z;cases z)
  have wl:a.wv≠a.lv:=jR hb.w hb.l (by intro z;cases z)
  have wf:a.fi≠a.wv:=jR hb.f hb.w (by intro z;cases z)
  have wb:a.bo≠a.wv:=jR hb.b hb.w (by intro z;cases z)
  have eb:((b*m.P+f:Nat):Int) / (m.P:Int)=(b:Int):=by rw[←dC,yB hf]
  refine⟨_,(qB (qT (i:=3) q4C.nd rfl (Or.inl rfl) (qO vD (pv 1) (qJ (pv 0) rfl))) (qB (qX (jC (pv 0) T.bO T.tM (q2R T S).mono hr S.i3.b .nil qK (qA (pv 2) qD))) (qB (q8H hu (qJ (pv 0) rfl) (pv 2) (pv 1) rfl) (qB (q3Y (qJ (pv 0) rfl) (pv 3) q1Y qI q5R yO) (q17 (jB (qP vS (qW jD (qJ (pv 0) rfl) (pv 3) (λ_ _=>rfl)) qI (qS _)) (qE (q12 (qJ (pv 0) rfl) (q1V (qJ (pv 0) rfl) (pv 3) yO))) qR) (qB (q3Y (qJ (pv 0) rfl) (pv 3) q1Y qI q5R yO) (qE (q7P (pv 0) qI qI7)))))))),?_⟩
  try dsimp-beta-proj-iota-zeta-eta only[wishK,cxK]
  refine⟨_,rfl,iV rfl (iF hb.o T.bO T.fR rfl (iI ⟨⟨by lia,by lia⟩,?_⟩))⟩
  try dsimp only
  rw[eb]
  refine(iV rfl (iM hb.o rfl ⟨_,rfl,a,m,n,rfl,hb,ok,ds,λH1 hb1 k1=>?_⟩))
  have k1:Keep [a.bk,a.wv,a.lv,a.fi,a.bo] H H1:=k1.mono (by intro x hx;simp at hx ⊢;rcases hx with rfl|rfl<;>simp)
  have lnV:(jE m.V n).length≤65:=kO (mB _ _) ok.lenV
  have w0:H1 a.wv=some (.dK (dI (jE m.V n))):=hb1.w
  refine⟨_,rfl,iV rfl (iF hb1.o T.bO T.eJ rfl ⟨_,rfl,a.wv,_,rfl,.inl ⟨_,Sum.inl n,w0,rfl,(by rw[q6V];exact rV (m:=65) (by lia) (by decide)),rfl⟩,?_⟩)⟩
  rw[qGI,qD4]
  have k2:Keep [a.bk,a.wv,a.lv,a.fi,a.bo] H1 (upd H1 a.wv (.dK (dI (jE m.V n++[(n,((b*m.P+f:Nat):Int))])))):=Keep.upd w0 (λ_ z=>by cases z) (by simp)
  have w2:(upd H1 a.wv (.dK (dI (jE m.V n++[(n,((b*m.P+f:Nat):Int))])))) a.wv=some (.dK (dI (jE m.V n++[(n,((b*m.P+f:Nat):Int))]))):=qH
  have u2:∀x o,x≠a.wv→H1 x=some o→(upd H1 a.wv (.dK (dI (jE m.V n++[(n,((b*m.P+f:Nat):Int))])))) x=some o:=λx o nb e=>by
   rw[qC nb]
   exact e
  generalize upd H1 a.wv (.dK (dI (jE m.V n++[(n,((b*m.P+f:Nat):Int))])))=H2 at k2 w2 u2 ⊢
  have o2:=u2 _ _ ob hb1.o
  have l2:H2 a.lv=some (.lst ((BM.lvF m.P m.V m.lv n).map V.int)):=u2 _ _ wl.symm hb1.l
  have f2:H2 a.fi=some (.lst (m.fi.map V.int)):=u2 _ _ wf hb1.f
  have b2:H2 a.bo=some (.lst (m.bo.map V.int)):=u2 _ _ wb hb1.b
  have hbl:b<(BM.lvF m.P m.V m.lv n).length:=by rw[show(BM.lvF m.P m.V m.lv n).length=m.B from(ok.forget n).ll];exact hB
  have hbf:b<m.fi.length:=by rw[ok.lf];exact hB
  have hbo:b<m.bo.length:=by rw[ok.lo];exact hB
  refine(iV rfl (iF o2 T.bO T.iA rfl ⟨_,rfl,iL (k:=_) (v:=_) (SqL.of l2) (atV hbl) (iI ⟨a.lv,_,_,b,rfl,rfl,l2,q21 (by rw[hC];exact hbl),?_⟩)⟩))
  rw[setV]
  have k3:Keep [a.bk,a.wv,a.lv,a.fi,a.bo] H2 (upd H2 a.lv (.lst (((BM.lvF m.P m.V m.lv n).set b ((BM.lvF m.P m.V m.lv n).getD b 0+1)).map V.int))):=Keep.upd l2 (λ_ z=>by cases z) (by simp)
  have l3:(upd H2 a.lv (.lst (((BM.lvF m.P m.V m.lv n).set b ((BM.lvF m.P m.V m.lv n).getD b 0+1)).map V.int))) a.lv=some (.lst (((BM.lvF m.P m.V m.lv n).set b ((BM.lvF m.P m.V m.lv n).getD b 0+1)).map V.int)):=qH
  have u3:∀x o,x≠a.lv→H2 x=some o→(upd H2 a.lv (.lst (((BM.lvF m.P m.V m.lv n).set b ((BM.lvF m.P m.V m.lv n).getD b 0+1)).map V.int))) x=some o:=λx o nb e=>by
   rw[qC nb]
   exact e
  generalize upd H2 a.lv (.lst (((BM.lvF m.P m.V m.lv n).set b ((BM.lvF m.P m.V m.lv n).getD b 0+1)).map V.int))=H3 at k3 l3 u3 ⊢
  have o3:=u3 _ _ ol o2
  have w3:=u3 _ _ wl w2
  have f3:=u3 _ _ ds.lf.symm f2
  have b3:=u3 _ _ ds.lb.symm b2
  refine⟨λσ' H'=>σ'=[some (.ref a.bk),some (.int ((b*m.P+f:Nat):Int)),some (.int n),some (.int (b:Int))]∧Keep [a.bk,a.wv,a.lv,a.fi,a.bo] H3 H'∧H' a.bo=some (.lst ((m.put b f n).bo.map V.int))∧∀x o,x≠a.bo→H3 x=some o→H' x=some o,?_,?_⟩
  ·refine(iV rfl (iF o3 T.bO T.bS rfl ⟨_,rfl,iL (k:=_) (v:=_) (SqL.of f3) (atV hbf) ⟨rfl,_,rfl,?_⟩⟩))
   rw[zF]
   by_cases z:m.fi.getD b 0=0
   ·rw[hG z]
    refine iteT ?_
    refine(iV rfl (iF o3 T.bO T.b8 rfl (iV rfl (iF o3 T.bO T.iB rfl ⟨_,rfl,a.bo,_,_,b,rfl,rfl,b3,q21 (by rw[hC];exact hbo),?_⟩))))
    rw[setV]
    refine⟨rfl,Keep.upd b3 (λ_ z=>by cases z) (by simp),?_,λx o nb e=>by rw[qC nb];exact e⟩
    rw[qH]
    show _=some (HO.lst ((if m.fi.getD b 0=0 then m.bo.set b m.nx else m.bo).map V.int))
    rw[kD z]
    rfl
   ·rw[hI z]
    refine iteF ⟨rfl,Keep.refl,?_,λx o _ e=>e⟩
    show _=some (HO.lst ((if m.fi.getD b 0=0 then m.bo.set b m.nx else m.bo).map V.int))
    rw[kB z]
    exact b3
  rintro σ' H4 ⟨rfl,k4,b4,u4⟩
  have o4:=u4 _ _ oo o3
  have w4:=u4 _ _ wb.symm w3
  have l4:=u4 _ _ ds.lb l3
  have f4:=u4 _ _ ds.fb f3
  refine(iV rfl (iF o4 T.bO T.bS rfl ⟨_,rfl,iL (k:=_) (v:=_) (SqL.of f4) (atV hbf) (iI ⟨a.fi,_,_,b,rfl,rfl,f4,q21 (by rw[hC];exact hbf),?_⟩)⟩))
  rw[setV]
  have k5:Keep [a.bk,a.wv,a.lv,a.fi,a.bo] H4 (upd H4 a.fi (.lst ((m.fi.set b (m.fi.getD b 0+1)).map V.int))):=Keep.upd f4 (λ_ z=>by cases z) (by simp)
  have f5:(upd H4 a.fi (.lst ((m.fi.set b (m.fi.getD b 0+1)).map V.int))) a.fi=some (.lst ((m.fi.set b (m.fi.getD b 0+1)).map V.int)):=qH
  have u5:∀x o,x≠a.fi→H4 x=some o→(upd H4 a.fi (.lst ((m.fi.set b (m.fi.getD b 0+1)).map V.int))) x=some o:=λx o nb e=>by
   rw[qC nb]
   exact e
  generalize upd H4 a.fi (.lst ((m.fi.set b (m.fi.getD b 0+1)).map V.int))=H5 at k5 f5 u5 ⊢
  have o5:=u5 _ _ of' o4
  refine⟨_,rfl,a.bk,_,a.dx,_,_,rfl,o5,T.bO,T.b8,rfl,_,_,rfl,rfl,a.dx,_,o5,by show 7<1000;decide,?_⟩
  refine q _ ⟨?_,?_,?_,?_,?_⟩ ((((k1.trans k2).trans k3).trans k4).trans (k5.trans (Keep.upd o5 (λ_ z=>by cases z) (by simp))))
  ·exact qH
  ·rw[qC ob.symm]
   exact u5 _ _ wf.symm w4
  ·rw[qC ol.symm]
   exact u5 _ _ ds.lf l4
  ·rw[qC of'.symm]
   exact f5
  ·rw[qC oo.symm]
   exact u5 _ _ ds.fb.symm b4
noncomputable def lamE:Expr:=match((yG jU).getLast?:Option Stmt)with
 |some (Stmt.Return (some (Expr.Call _ _ (k::_) _)) _)=>k.value
 |_=>Expr.Name "" ⟨0,0,0,0⟩
noncomputable abbrev lamA:Arguments:=match lamE with
 | .Lambda a _ _ _=>a
 |_=>yR jU
noncomputable abbrev lamB:Expr:=match lamE with
 | .Lambda _ b _ _=>b
 |_=>lamE
noncomputable abbrev qFO:Scope:=match lamE with
 | .Lambda _ _ s _=>s
 |_=>qG jU
noncomputable abbrev lamP:Pos:=match lamE with
 | .Lambda _ _ _ p=>p
 |_=>⟨0,0,0,0⟩
noncomputable abbrev lamQ:Str:=(PyProof.Rows.envOfC "Plain.free" (qG jU) 0 0 .none).qual++"<lambda>"
noncomputable abbrev q6W(clos:List (Str×Addr))(pm ct:Value)(c:Addr):FuncData:=W.kla_fn "<lambda>" lamQ lamA lamB qFO clos pm (.ref c) ct
noncomputable def tri(c:Addr):Array Value:=#[rawInt lamP.line,rawInt lamP.col,.ref c]
noncomputable def TbF(t:Adr)(H:Hp):Prop:=∃ps,H t.bJ=some (.tbl ps)∧(ps=#[]∨∃c,ps=tri c∧H c=some (cdO c lamQ))
theorem TbF.same{t:Adr}{H H':Hp}(s:Same H H')(h:TbF t H):TbF t H':=by
 obtain⟨ps,hT,h⟩:=h
 refine⟨ps,s _ _ hT,?_⟩
 rcases h with h|⟨c,h,a⟩
 ·exact .inl h
 ·exact .inr ⟨c,h,s _ _ a⟩
structure Sto where
 s:Addr
 sd:Addr
 tm:Addr
 td:Addr
 c:Addr
 a:CA
 k:BkA
 ru:V
 pa:V
noncomputable def bf(k:BkA):List Addr:=[k.bk,k.wv,k.lv,k.fi,k.bo]
noncomputable def sf(x:Sto):List Addr:=foot x.c x.a++bf x.k
structure Fit(m:CM)(q:QM):Prop where
 ok:m.Ok
 oq:q.Ok
 eB:m.bl=(q.B:Int)
 eP:m.pg=(q.P:Int)
structure StAt(t:Adr)(H:Hp)(x:Sto)(r2 r3 r4 r5:V)(m:CM)(q:QM):Prop where
 o:H x.s=some (.ins t.C_Store x.sd [("chip",.ref x.c),("terms",.ref x.tm),("book",.ref x.k.bk),("rule",x.ru),("papers",x.pa)])
 te:H x.tm=some (.ins t.C_Terms x.td (teF (.int m.bl) (.int m.pg) r2 r3 r4 r5))
 ch:ChipAt t.C_Chip H x.c x.a m
 bk:BkAt t H x.k q
 tb:TbF t H
 ds:Dst x.k
 d1:∀b∈x.a.li::foot x.c x.a,b∉bf x.k
 d2:∀b∈[x.s,x.tm],b∉sf x
section
variable{H H':Hp}{x:Sto}{r2 r3 r4 r5:V}{m:CM}{q:QM}
theorem StAt.same(h:StAt t H x r2 r3 r4 r5 m q)(s:Same H H'):StAt t H' x r2 r3 r4 r5 m q:=⟨s _ _ h.o,s _ _ h.te,h.ch.same s,h.bk.same s,h.tb.same s,h.ds,h.d1,h.d2⟩
theorem TbF.ne(h:TbF t H){b:Addr}{o:HO}(e:H b=some o)(n:∀ps,o≠ .tbl ps):b≠t.bJ:=λz=>by
 obtain⟨ps,hT,_⟩:=h
 rw[z,hT]at e
 exact n ps (kN e).symm
theorem StAt.nT(h:StAt t H x r2 r3 r4 r5 m q):∀b∈[x.s,x.tm]++(x.a.li::sf x),b∉[t.bJ]:=by
 intro b hb z
 have z:b=t.bJ:=by simpa using z
 have ne:∀{b:Addr} {o:HO},H b=some o→(∀ps,o≠ .tbl ps)→b≠t.bJ:=λe n=>h.tb.ne e n
 obtain⟨rs,er,_⟩:=h.ch.rc
 have hb:b=x.s∨b=x.tm∨b=x.a.li∨b=x.c∨b=x.a.bo∨b=x.a.cl∨b=x.a.dc∨b=x.a.br∨b=x.a.rc∨b=x.k.bk∨b=x.k.wv∨b=x.k.lv∨b=x.k.fi∨b=x.k.bo:=by simpa[sf,bf,foot]using hb
 rcases hb with y|y|y|y|y|y|y|y|y|y|y|y|y|y<;>rw[y]at z
 ·exact ne h.o (λ_ z=>by cases z) z
 ·exact ne h.te (λ_ z=>by cases z) z
 ·exact ne h.ch.li (λ_ z=>by cases z) z
 ·exact ne h.ch.ins (λ_ z=>by cases z) z
 ·exact ne h.ch.bo (λ_ z=>by cases z) z
 ·exact ne h.ch.cl (λ_ z=>by cases z) z
 ·exact ne h.ch.dc (λ_ z=>by cases z) z
 ·exact ne h.ch.br (λ_ z=>by cases z) z
 ·exact ne er (λ_ z=>by cases z) z
 ·exact ne h.bk.o (λ_ z=>by cases z) z
 ·exact ne h.bk.w (λ_ z=>by cases z) z
 ·exact ne h.bk.l (λ_ z=>by cases z) z
 ·exact ne h.bk.f (λ_ z=>by cases z) z
 ·exact ne h.bk.b (λ_ z=>by cases z) z
theorem StAt.keep(h:StAt t H x r2 r3 r4 r5 m q){F:List Addr}(k:Keep F H H')(n:∀b∈[x.s,x.tm]++(x.a.li::sf x),b∉F)(tb:TbF t H'):StAt t H' x r2 r3 r4 r5 m q:=
 ⟨k.k _ _ (n _ (by simp)) h.o,k.k _ _ (n _ (by simp)) h.te,h.ch.keep k (λb hb=>n b (by
  rcases kI.mp hb with rfl|hb
  ·simp
  ·simp[sf,hb])),h.bk.keep k (λb hb=>n b (by
  have hb:b∈bf x.k:=hb
  simp[sf,hb])),tb,h.ds,h.d1,h.d2⟩
theorem StAt.kT(h:StAt t H x r2 r3 r4 r5 m q)(k:Keep [t.bJ] H H')(tb:TbF t H'):StAt t H' x r2 r3 r4 r5 m q:=h.keep k h.nT tb
end
noncomputable def spGd(t:Adr):Sp:=λvs H Q _=>∃x r2 r3 r4 r5 m q,vs=[.ref x.s]∧StAt t H x r2 r3 r4 r5 m q∧Fit m q∧NewO H (.lst ((uD q.B m.br).map vn)) Q
theorem q0B(T:Txt K mg t)(S:Fns K t):S.iR.Ok0 P w mg base 5 (spGd t):=by
 refine S.iR.F.ok0 q7A λcdv A _ s H vs Q E hr h=>?_
 ·obtain⟨x,r2,r3,r4,r5,m,q,rfl,hs,ft,k⟩:=h
  have b2:=ft.oq.b2
  have eB:=ft.eB
  refine⟨_,(qE (qL (u9 ["self","block"] [0] rfl (q0G rfl T.f9 (qA (qJ (qJ (pv 0) rfl) rfl) qD)) (λ_ _ _ _ _=>(qU (i:=1) (show List.Nodup (["self","block"]:List Str)from by decide) rfl (Or.inl rfl))) (λ_ _ _ _ _=>(uL (yL (jS (jC (vF (K:=K) rfl (pv 0) rfl) T.bL T.aBK (q6U T S).mono hr S.tE.b .nil qK (qA (pv 1) qD)))))) (λ_ _ _ _ _=>(pv 1)) (by kernel_rfl) (jX (by decide))))),?_⟩
  try dsimp-beta-proj-iota-zeta-eta only[wishK,cxK]
  refine(iV rfl (iF hs.o T.bK T.bN rfl (iF hs.te T.bR T.eZ rfl ⟨m.bl,rfl,by lia,by lia,λD H2 nD s2 hD=>?_⟩)))
  refine q4N (D:=D) (λi H3=>Same H H3∧H3 D=some (.lst (((List.range i).filter λb=>!(m.br.getD b false)).map vn))) ⟨s2,hD⟩ (λi H3 hi hp=>?_) (λH3 hp=>?_)
  ·obtain⟨sm,hd⟩:=hp
   have hi:i<q.B:=by lia
   have h3:=hs.same sm
   refine(iV rfl (iF h3.o T.bK T.b9 rfl (iM h3.ch.ins rfl ⟨_,rfl,x.c,x.a,m,_,rfl,h3.ch,ft.ok,by lia,by lia,?_⟩)))
   rw[show(0+(i:Int)).toNat=i by lia,nN]
   refine⟨_,rfl,?_⟩
   rw[rF,gF,mJ]
   cases z:m.br.getD i false with
   |true=>
    refine iteF ⟨sm,?_⟩
    rw[hd,mW,z]
    simp
   |false=>
    refine iteT ?_
    refine⟨_,rfl,_,hd,?_,λb o e=>?_,?_⟩
    ·rw[hC]
     have:((List.range i).filter λb=>!(m.br.getD b false)).length≤i:=kO (mB _ _) (by rw[mG];exact kM _)
     have:(16:Nat)<sizeLine:=by decide
     lia
    ·rw[qC (qF e nD)]
     exact sm _ _ e
    ·rw[qH,mW,z]
     rfl
  ·obtain⟨sm,hd⟩:=hp
   rw[show m.bl.toNat=q.B by lia]at hd
   exact k D H3 nD sm hd
noncomputable def spLm(t:Adr)(x:Sto)(g c:Addr)(fd:FuncData):Sp:=λvs H Q _=>∃r2 r3 r4 r5,∃m:CM,∃q:QM,∃b:Nat,vs=[.int (b:Int)]∧StAt t H x r2 r3 r4 r5 m q∧Fit m q∧b<q.B∧H g=some (fnO g fd)∧H c=some (cdO c lamQ)∧∀tp H',H tp=none→Same H H'→H' tp=some (.tup [.int (m.cl.getD b 0),.int (b:Int)])→Q (.ref tp) H'
theorem qJY(T:Txt K mg t)(S:Fns K t){g c ca:Addr}{pm ct:Value}{x:Sto}(hc:base.IsCell ca (some (.ref x.s))):
 FnOk P w K mg base CX0 5 g (q6W [("self",ca)] pm ct c) ["block"] (spLm t x g c (q6W [("self",ca)] pm ct c)):=by
 refine qGK (k:=4) (x0:="block") (fvs:=[.ref x.s]) (qD6 (u:=.ref x.s) rfl rfl rfl (by decide+kernel) (by decide+kernel) (by decide+kernel) rfl hc) (λvs H Q E h=>?_) (λvs H Q E h=>?_) (λA outer s H v0 Q E hr h=>?_)
 ·repeat obtain⟨_,h⟩:=h
  all_goals subst_vars;rfl
 ·obtain⟨r2,r3,r4,r5,m,q,b,rfl,_,_,_,a,d,_⟩:=h
  exact⟨a,d⟩
 ·obtain⟨r2,r3,r4,r5,m,q,b,e,hs,ft,hb,_,_,k⟩:=h
  obtain rfl:v0=.int (b:Int):=by simpa using e
  have eB:=ft.eB
  refine⟨_,yH (qA (jC (qJ (pv 1) rfl) T.bL T.iK (vR T S).mono hr S.fL.b .nil qK (qA (pv 0) qD)) (qA (pv 0) qD)),?_⟩
  refine(iV rfl (iF hs.o T.bK T.b9 rfl (iM hs.ch.ins rfl ⟨_,rfl,x.c,x.a,m,_,rfl,hs.ch,ft.ok,by lia,by lia,?_⟩)))
  rw[kW]
  exact⟨_,rfl,sz2,k⟩
theorem qDB{clos:List (Str×Addr)}{c:Addr}{pm ct:Value}:yN K (q6W clos pm ct c) ["block"] []:=yN.all λus hl=>match us,hl with| [_],_=>rfl
theorem qHC{t:Adr}{H:Hp}(h:TbF t H):∃ps,H t.bJ=some (.tbl ps)∧TriplesOk ps.toList∧
 ((codeAmong lamP ps.toList=none∧∀c H',H' t.bJ=some (.tbl (ps++tri c))→H' c=some (cdO c lamQ)→TbF t H')∨∃c,codeAmong lamP ps.toList=some (.ref c)∧H c=some (cdO c lamQ)):=by
 obtain⟨ps,hT,h⟩:=h
 rcases h with rfl|⟨c,rfl,a⟩
 ·exact⟨_,hT,trivial,.inl ⟨rfl,λc H' e1 e2=>⟨_,e1,.inr ⟨c,rfl,e2⟩⟩⟩⟩
 ·exact⟨_,hT,trivial,.inr ⟨c,rfl,a⟩⟩
theorem q87(T:Txt K mg t)(S:Fns K t){cells:List (Str×Addr)}{σ:St}{H4:Hp}{D f c':Addr}{x:Sto}{r2 r3 r4 r5:V}{m:CM}{q:QM}{clos:List (Str×Addr)}{pm ct:Value}{Q:VK}(hσ:σ[0]?=some (some (.ref x.s)))(hcl:∀ca,cells.lookup ("self":Str)=some ca→clos=[(("self":Str),ca)])
 (hs:StAt t H4 x r2 r3 r4 r5 m q) (ft:Fit m q) (hD:H4 D=some (.lst ((yI q.B m.br q.fi).map vn))) (hf:H4 f=some (fnO f (q6W clos pm ct c'))) (hc:H4 c'=some (cdO c' lamQ)) (k:∀l p H',FreeIs q.B m.br m.cl q.fi l→H4 p=none→Same H4 H'→H' p=some (.lst (l.map vn))→Q (.ref p) H'):
 ∃(f':Addr) (fd:FuncData) (sp:Heap→Sp),V.ref f=.ref f'∧(∀base',(∀b o,base.get? b=some o→base'.get? b=some o)→q6I cells σ base' [(0,"self")]→FnOk P w K mg base' CX0 5 f' fd ["block"] (sp base'))∧yN K fd ["block"] []∧
  ∃(l:Addr) (us:List V) (Pv:Nat→List V→Hp→Prop),[V.ref D]=[.ref l]∧SqL K H4 l us∧us.length<64∧Pv 0 [] H4∧(∀base' i x zs H',q6I cells σ base' [(0,"self")]→us[i]?=some x→Pv i zs H'→sp base' [x] H' (λz H''=>Pv (i+1) (zs++[z]) H'') E0)∧
  ∀zs H',zs.length=us.length→Pv us.length zs H'→∃kk m,Paired (TupI K H') zs kk∧(∀k∈kk,k.length=m)∧0<m∧∀q:List Nat,q.Perm (List.range us.length)→(q.map λi=>kk.getD i []).Pairwise (λa b=>lx b a=false)→NewO H' (.lst (q.map λi=>us.getD i .non)) Q:=by
 have b2:=ft.oq.b2
 have ln:=q81 (B:=q.B) (br:=m.br) (fi:=q.fi)
 refine⟨f,q6W clos pm ct c',λ_=>spLm t x f c' (q6W clos pm ct c'),rfl,λbase' _ cv=>?_,qDB,D,_,λi zs H'=>Same H4 H'∧Paired (TupD H') zs (((yI q.B m.br q.fi).take i).map (keyN m.cl)),rfl,SqL.of hD,by rw[hC];lia,⟨Same.refl H4,.nil⟩,λbase' i y zs H' _ hy hp=>?_,λzs H' lz hp=>?_⟩
 ·obtain⟨ca,u,hk,ru,hcell⟩:=cv (0,"self") (kE.mpr rfl) (.ref x.s) hσ
  obtain rfl:u=Value.ref x.s:=ru
  rw[hcl ca hk]
  exact qJY T S hcell
 ·obtain⟨sm,pr⟩:=hp
  rw[mC]at hy
  obtain⟨b,hb,rfl⟩:=mK.mp hy
  have mb:=q31.mp (gE hb)
  refine⟨r2,r3,r4,r5,m,q,b,rfl,hs.same sm,ft,mb.1.1,sm _ _ hf,sm _ _ hc,λtp H5 ntp s5 e5=>⟨sm.trans s5,?_⟩⟩
  rw[qD8 (f:=keyN m.cl) hb]
  exact L2.Paired.snoc (jA pr s5) ⟨tp,rfl,e5⟩
 ·obtain⟨sm,pr⟩:=hp
  rw[hC,gC]at pr
  refine⟨_,2,q8Q pr,λk hk=>?_,by decide,λq' p1 p2 p H5 np s5 e5=>?_⟩
  ·obtain⟨b,_,rfl⟩:=kP.mp hk
   rfl
  ·rw[hC]at p1
   have hin:∀i∈q',i<(yI q.B m.br q.fi).length:=λi hi=>mL.mp (p1.mem_iff.mp hi)
   rw[q6J (e:=0) hin]at e5
   exact k _ p H5 (qGQ p1 p2) (Same.free sm np) (sm.trans s5) e5
noncomputable def spFr(t:Adr):Sp:=λvs H Q _=>∃x r2 r3 r4 r5 m q,vs=[.ref x.s]∧StAt t H x r2 r3 r4 r5 m q∧Fit m q∧∀l p H',FreeIs q.B m.br m.cl q.fi l→H p=none→Keep [t.bJ] H H'→TbF t H'→H' p=some (.lst (l.map vn))→Q (.ref p) H'
theorem q0C(T:Txt K mg t)(S:Fns K t)(B:BmIn base mg):FnOk P w K mg base (CX0) 8 t.f_Plain_free S.i4 ["self"] (spFr t):=by
 refine S.aB5.ok0 q3E λA _ s H vs Q E hr h=>?_
 ·obtain⟨x,r2,r3,r4,r5,m,q,rfl,hs,ft,k⟩:=h
  have b2:=ft.oq.b2
  have eB:=ft.eB
  refine⟨_,(qB (q0K (i:=1) ["self","block"] [0] rfl (jZ (j8 (pv 0) T.bK T.oQ (q0B T S).mono hr S.iR.b .nil qK)) (λ_ _ _ _ _=>(qU (i:=1) (show List.Nodup (["self","block"]:List Str)from by decide) rfl (Or.inl rfl))) (λ_ _ _ _ _=>(uL (qP vS (qW (q68 (K:=K) rfl) (vF (K:=K) rfl (vF (K:=K) rfl (pv 0) rfl) rfl) (pv 1) (λ_ _=>rfl)) qI (qS _)))) (λ_ _ _ _ _=>(pv 1)) (by kernel_rfl) (jX (by decide)) q3E.nd rfl (Or.inl rfl)) (qE (qL (qB5 (k:=5) (x:="block") [(0,"self")] (by intro p hp;simp only[kI,gW,cE]at hp;rcases hp with rfl<;>exact⟨rfl,by kernel_rfl,rfl⟩) hr (by rfl) T.tO (qGM rfl T.aBQ B (qGL (by kernel_rfl)) rfl) (qA (pv 1) qD))))),?_⟩
  try dsimp-beta-proj-iota-zeta-eta only[wishK,cxK]
  refine(iV rfl (iM hs.o rfl ⟨x,r2,r3,r4,r5,m,q,rfl,hs,ft,λp H1 n1 s1 h1=>?_⟩))
  refine⟨p,rfl,⟨_,SqL.of h1⟩,λD H2 nD s2 hD=>?_⟩
  refine uW (K:=K) (xs:=(uD q.B m.br).map vn) (D:=D) (λi H3=>Same H1 H3∧H3 D=some (.lst ((((uD q.B m.br).take i).filter λb=>decide (q.fi.getD b 0=0)).map vn))) ⟨s2,hD⟩ (λi H3 hp=>SqL.of (hp.1 _ _ h1)) (λi y H3 hy hp=>?_) (λH3 hp=>?_)
  ·obtain⟨sm,hd⟩:=hp
   have h3:=(hs.same s1).same sm
   rw[mC]at hy
   obtain⟨b,hb,rfl⟩:=mK.mp hy
   have hi:=(kC.mp hb).1
   have mb:=q0L.mp (gE hb)
   refine(iV rfl (iF h3.o T.bK T.bM rfl (iF h3.bk.o T.bO T.bS rfl ⟨_,rfl,iL (k:=_) (v:=_) (SqL.of h3.bk.f) (atV (by rw[ft.oq.lf];exact mb.1)) ⟨rfl,_,rfl,?_⟩⟩)))
   rw[zF,←mH hi,gF,mJ]
   obtain rfl:(uD q.B m.br)[i]=b:=(kC.mp hb).2
   by_cases z:q.fi.getD (uD q.B m.br)[i] 0=0
   ·rw[hG z]
    refine iteT ?_
    refine⟨_,rfl,_,hd,?_,λb o e=>?_,?_⟩
    ·rw[hC]
     have l1:(((uD q.B m.br).take i).filter λb=>decide (q.fi.getD b 0=0)).length≤q.B:=kO (mB _ _) (kO (by rw[gJ];lia) (q23 (B:=q.B) (br:=m.br)))
     have:(16:Nat)<sizeLine:=by decide
     lia
    ·rw[qC (qF e nD)]
     exact sm _ _ e
    ·rw[qH,mW,hG z]
     rfl
   ·rw[hI z]
    refine iteF ⟨sm,?_⟩
    rw[hd,mW,hI z]
    simp
  ·obtain⟨sm,hd⟩:=hp
   rw[hC,gC]at hd
   have hd:H3 D=some (.lst ((yI q.B m.br q.fi).map vn)):=hd
   have h3:=(hs.same s1).same sm
   refine⟨_,rfl,?_⟩
   obtain⟨ps,hT,ht,hc⟩:=qHC h3.tb
   have nT:D≠t.bJ:=h3.tb.ne hd (λ_ z=>by cases z)
   have keep:∀(f c':Addr) (ctv pm:Value) (clos:List (Str×Addr)) (H4:Hp),H4 f=some (fnO f (q6W clos pm ctv c'))→H4 c'=some (cdO c' lamQ)→TbF t H4→(∀b o,b≠t.bJ→H3 b=some o→H4 b=some o)→Keep [t.bJ] H3 H4:=λf c' ctv pm clos H4 _ _ tb4 kp=>⟨λb o nb e=>kp b o (λz=>nb (by rw[z];simp)) e,λb xs e=>kp b _ (h3.tb.ne e (λ_ z=>by cases z)) e⟩
   refine⟨ps,hT,ht,?_⟩
   rcases hc with⟨hn,tb⟩|⟨c0,hn,hc0⟩
   ·refine .inl ⟨hn,λf c' ctv H4 nf hf hc' hT4 kp=>?_⟩
    have tb4:=tb c' H4 hT4 hc'
    have k4:=keep f c' ctv _ _ H4 hf hc' tb4 kp
    refine q87 T S rfl (λca hk=>qA0 (names:=qFO.names) hk rfl) (h3.kT k4 tb4) ft (kp _ _ nT hd) hf hc' (λl p' H5 hl np s5 e5=>k l p' H5 hl ?_ ?_ (tb4.same s5) e5)
    ·refine Same.free s1 (Same.free sm (k4.none (λz=>?_) np))
     obtain⟨ps',hT',_⟩:=tb4
     rw[kE.mp z,hT']at np
     cases np
    ·exact((Keep.same s1).trans (Keep.same sm)).trans (k4.trans (Keep.same s5))
   ·refine .inr ⟨c0,hn,λf ctv H4 nf hf s4=>?_⟩
    refine q87 T S rfl (λca hk=>qA0 (names:=qFO.names) hk rfl) (h3.same s4) ft (s4 _ _ hd) hf (s4 _ _ hc0) (λl p' H5 hl np s5 e5=>k l p' H5 hl ?_ ?_ ((h3.tb.same s4).same s5) e5)
    ·exact Same.free s1 (Same.free sm (Same.free s4 np))
    ·exact Keep.same (((s1.trans sm).trans s4).trans s5)
noncomputable def spPt(t:Adr):Sp:=λvs H Q _=>∃x r2 r3 r4 r5 m q,vs=[.ref x.s]∧StAt t H x r2 r3 r4 r5 m q∧Fit m q∧∀H',Same H H'→Q (oV (jM q.B q.P m.br q.fi)) H'
theorem qDC{α:Type}{p:α→Bool}{L:List α}{i:Nat}{x:α}(h:L[i]?=some x)(n:(L.take i).find? p=none):(p x=true→L.find? p=some x)∧(p x=false→(L.take (i+1)).find? p=none):=by
 have hi:=(kC.mp h).1
 obtain rfl:L[i]=x:=(kC.mp h).2
 constructor
 ·intro hp
  have e:L=L.take i++L[i]::L.drop (i+1):=by rw[List.getElem_cons_drop,nZ]
  conv=>lhs;arg 2;rw[e]
  rw[xP,n,dN,hp]
  rfl
 ·intro hp
  rw[←mH hi,xP,n,dN,hp]
  rfl
theorem q0D(T:Txt K mg t)(S:Fns K t):S.iW.Ok0 P w mg base 6 (spPt t):=by
 refine S.iW.F.ok0 q3F λcdv A _ s H vs Q E hr h=>?_
 ·obtain⟨x,r2,r3,r4,r5,m,q,rfl,hs,ft,k⟩:=h
  refine⟨_,(qB (uE gU rfl (jZ (j8 (pv 0) T.bK T.oQ (q0B T S).mono hr S.iR.b .nil qK)) (qU (i:=1) q3F.nd rfl (Or.inl rfl)) (qE (jB (qDM q3Z q3Z qI (qW jD (qJ (qJ (pv 0) rfl) rfl) (pv 1) (λ_ _=>rfl)) (qJ (qJ (pv 0) rfl) rfl)) (qE (qL (pv 1))) qR))) (qE (qL yY))),?_⟩
  try dsimp-beta-proj-iota-zeta-eta only[wishK,cxK]
  refine(iV rfl (iM hs.o rfl ⟨x,r2,r3,r4,r5,m,q,rfl,hs,ft,λp H1 n1 s1 h1=>?_⟩))
  refine⟨p,rfl,⟨_,SqL.of h1⟩,?_⟩
  refine vH (K:=K) (xs:=(uD q.B m.br).map vn) (λi σ' H2=>∃y,σ'=[some (.ref x.s),y]∧Same H1 H2∧((uD q.B m.br).take i).find? (jP q.P q.fi)=none) ⟨_,rfl,Same.refl H1,rfl⟩ (λi σ' H2 hi hp=>?_) (λi y σ' H2 hy hp=>?_) (λσ' H2 hp=>?_)
  ·obtain⟨y,rfl,sm,_⟩:=hp
   exact SqL.of (sm _ _ h1)
  ·obtain⟨y',rfl,sm,hn⟩:=hp
   have h3:=(hs.same s1).same sm
   rw[mC]at hy
   obtain⟨b,hb,rfl⟩:=mK.mp hy
   have mb:=q0L.mp (gE hb)
   obtain⟨y1,y2⟩:=qDC hb hn
   refine(iV rfl (iF h3.o T.bK T.bM rfl (iF h3.bk.o T.bO T.bS rfl ⟨_,rfl,iL (k:=_) (v:=_) (SqL.of h3.bk.f) (atV (by rw[ft.oq.lf];exact mb.1)) ?_⟩)))
   refine(iI ⟨_,rfl,?_⟩)
   by_cases z1:0<q.fi.getD b 0
   ·rw[hG z1]
    refine iteT ?_
    refine(iV rfl (iF h3.o T.bK T.bN rfl (iF h3.te T.bR T.bQ rfl (iI ⟨_,rfl,?_⟩))))
    by_cases z2:q.fi.getD b 0<m.pg
    ·rw[hG z2]
     have z:=k H2 (s1.trans sm)
     unfold jM at z
     rw[y1 (by unfold jP;rw[hG z1,hG (by rw[←ft.eP];exact z2)];rfl)]at z
     exact iteT ⟨_,rfl,z⟩
    ·rw[hI z2]
     exact iteF ⟨_,rfl,sm,y2 (by unfold jP;rw[hG z1,hI (by rw[←ft.eP];exact z2)];rfl)⟩
   ·rw[hI z1]
    exact iteF ⟨_,rfl,iteF ⟨_,rfl,sm,y2 (by unfold jP;rw[hI z1];rfl)⟩⟩
  ·obtain⟨y',rfl,sm,hn⟩:=hp
   rw[hC,gC]at hn
   have z:=k H2 (s1.trans sm)
   unfold jM at z
   rw[hn]at z
   exact z
noncomputable def spSp(t:Adr):Sp:=λvs H Q _=>∃x r2 r3 r4 r5 m q,vs=[.ref x.s]∧StAt t H x r2 r3 r4 r5 m q∧Fit m q∧∀l H',FreeIs q.B m.br m.cl q.fi l→Keep [t.bJ] H H'→TbF t H'→Q (pgV q.P q.fi (q0M q.B q.P m.br q.fi l)) H'
theorem q7G(T:Txt K mg t)(S:Fns K t)(B:BmIn base mg):S.tT.Ok0 P w mg base 9 (spSp t):=by
 refine S.tT.F.ok0 q09 λcdv A _ s H vs Q E hr h=>?_
 ·obtain⟨x,r2,r3,r4,r5,m,q,rfl,hs,ft,k⟩:=h
  refine⟨_,(qB (qT (i:=1) q09.nd rfl (Or.inl rfl) (j8 (pv 0) T.bK T.oK (q0D T S).mono hr S.iW.b .nil qK)) (qB (jB (qP q2W (pv 1) yY (qS _)) (qE (qL (qO yZ (qO yM (pv 1) (qJ (qJ (pv 0) rfl) rfl)) (qW jD (qJ (qJ (pv 0) rfl) rfl) (pv 1) (λ_ _=>rfl))))) qR) (qB (qT (i:=2) q09.nd rfl (Or.inl rfl) (j8 (pv 0) T.bK T.oR (q0C T S B).mono hr S.oA .nil qK)) (qB (jB (qP (q65 hr.units) (pv 2) (jT qD) (qS _)) (qE (qL yY)) qR) (qE (qL (qO yM (qW jD (pv 2) qI (λ_ _=>rfl)) (qJ (qJ (pv 0) rfl) rfl)))))))),?_⟩
  try dsimp-beta-proj-iota-zeta-eta only[wishK,cxK]
  refine(iV rfl (iM hs.o rfl ⟨x,r2,r3,r4,r5,m,q,rfl,hs,ft,λH1 s1=>?_⟩))
  have h1:=hs.same s1
  have b2:=ft.oq.b2
  have p2:=ft.oq.p2
  have eP:=ft.eP
  cases hpn:jM q.B q.P m.br q.fi with
  |some b=>
   have hb:=zH hpn
   refine⟨_,rfl,rfl,_,rfl,iteT ?_⟩
   refine⟨_,rfl,iV rfl (iF h1.o T.bK T.bN rfl (iF h1.te T.bR T.bQ rfl (iI ⟨.inl ⟨by lia,by lia⟩,?_⟩)))⟩
   refine(iV rfl (iF h1.o T.bK T.bM rfl (iF h1.bk.o T.bO T.bS rfl ⟨_,rfl,iL (k:=_) (v:=_) (SqL.of h1.bk.f) (atV (by rw[ft.oq.lf];exact hb.1)) (iI ?_)⟩)))
   obtain⟨l,hl⟩:=FreeIs.ex q.B m.br m.cl q.fi
   have kk:=k l H1 hl (Keep.same s1) h1.tb
   unfold q0M at kk
   rw[hpn]at kk
   have e:pgV q.P q.fi (some b)=V.int ((b:Int)*m.pg+q.fi.getD b 0):=by
    rw[eP]
    rfl
   have kk:Q (pgV q.P q.fi (some b)) H1:=kk
   rw[e]at kk
   exact kk
  |none=>
   refine⟨_,rfl,rfl,_,rfl,iteF ?_⟩
   refine(iV rfl (iM h1.o rfl ⟨x,r2,r3,r4,r5,m,q,rfl,h1,ft,λl p H2 hl np k2 tb2 h2=>?_⟩))
   have h2':=h1.kT k2 tb2
   refine⟨_,rfl,sz0,λe H3 n3 s3 h3=>⟨p,_,e,rfl,rfl,SqL.of (s3 _ _ h2),SqL.of h3,_,rfl,?_⟩⟩
   have h3':=h2'.same s3
   have kk:=k l H3 hl (((Keep.same s1).trans k2).trans (Keep.same s3)) (tb2.same s3)
   unfold q0M at kk
   rw[hpn]at kk
   cases l with
   |nil=>
    refine iteT ?_
    exact kk
   |cons b r=>
    refine iteF ?_
    have hb:=hl.mem (kU (a:=b) (l:=r))
    refine⟨_,rfl,iL (k:=0) (v:=.int (b:Int)) (SqL.of (s3 _ _ h2)) (u7 (j:=0) rfl) (iV rfl (iF h3'.o T.bK T.bN rfl (iF h3'.te T.bR T.bQ rfl (iI ⟨.inl ⟨by lia,by lia⟩,?_⟩))))⟩
    have e:pgV q.P q.fi ((b::r).head?)=V.int ((b:Int)*m.pg):=by
     show V.int ((b:Int)*(q.P:Int)+q.fi.getD b 0)=_
     rw[hb.2.2,eP,Int.add_zero]
    have kk:Q (pgV q.P q.fi ((b::r).head?)) H3:=kk
    rw[e]at kk
    exact kk
noncomputable def qCE(t:Adr):Sp:=λvs H Q E=>∃x r2 r3 r4 r5 m q n v,vs=[.ref x.s,.int n,.int v]∧StAt t H x r2 r3 r4 r5 m q∧Fit m q∧Gd m∧m.rc.length<1000000∧∀l,FreeIs q.B m.br m.cl q.fi l→∃b f:Nat,q0M q.B q.P m.br q.fi l=some b∧q.fi.getD b 0=(f:Int)∧m.bo.getD (b*q.P+f) .non=.non∧(m.lf=some 0→∀H',Keep (t.bJ::sf x) H H'→StAt t H' x r2 r3 r4 r5 m q→E (.ref t.C_PowerGone) none H')∧
 (m.lf≠some 0→∀tp H',H' tp=some (.tup [.int (q.nx*128+n),.int v])→Keep (t.bJ::sf x) H H'→StAt t H' x r2 r3 r4 r5 (putC m (b*q.P+f) (.ref tp)) (q.put b f n)→Q (.int ((b*q.P+f:Nat):Int)) H')
theorem StAt.put{H H':Hp}{x:Sto}{r2 r3 r4 r5:V}{m m':CM}{q:QM}(h:StAt t H x r2 r3 r4 r5 m q)(hc:ChipAt t.C_Chip H' x.c x.a m')(k:Keep (foot x.c x.a) H H')(e1:m'.bl=m.bl)(e2:m'.pg=m.pg):StAt t H' x r2 r3 r4 r5 m' q:=by
 have nf:∀b∈bf x.k,b∉foot x.c x.a:=λb hb z=>h.d1 b (hU _ z) hb
 have n2:∀b∈[x.s,x.tm],b∉foot x.c x.a:=λb hb z=>h.d2 b hb (by unfold sf;exact g8 _ z)
 obtain⟨ps,hT,hc'⟩:=h.tb
 have nT:t.bJ∉foot x.c x.a:=λz=>h.nT t.bJ (by simp[sf,z]) (by simp)
 refine⟨k.k _ _ (n2 _ (by simp)) h.o,by rw[e1,e2];exact k.k _ _ (n2 _ (by simp)) h.te,hc,h.bk.keep k nf,⟨ps,k.k _ _ nT hT,?_⟩,h.ds,h.d1,h.d2⟩
 rcases hc' with z|⟨c,z,hcd⟩
 ·exact .inl z
 ·refine .inr ⟨c,z,k.k _ _ (λy=>?_) hcd⟩
  have y:c=x.c∨c=x.a.bo∨c=x.a.cl∨c=x.a.dc∨c=x.a.br∨c=x.a.rc:=by simpa[foot]using y
  obtain⟨rs,er,_⟩:=h.ch.rc
  rcases y with y|y|y|y|y|y<;>rw[y]at hcd
  ·rw[h.ch.ins]at hcd;cases hcd
  ·rw[h.ch.bo]at hcd;cases hcd
  ·rw[h.ch.cl]at hcd;cases hcd
  ·rw[h.ch.dc]at hcd;cases hcd
  ·rw[h.ch.br]at hcd;cases hcd
  ·rw[er]at hcd;cases hcd
theorem StAt.note{H H':Hp}{x:Sto}{r2 r3 r4 r5:V}{m:CM}{q q':QM}(h:StAt t H x r2 r3 r4 r5 m q)(hb:BkAt t H' x.k q')(k:Keep (bf x.k) H H'):StAt t H' x r2 r3 r4 r5 m q':=by
 have n2:∀b∈[x.s,x.tm],b∉bf x.k:=λb hb z=>h.d2 b hb (by unfold sf;exact mQ _ z)
 obtain⟨ps,hT,hc'⟩:=h.tb
 have nT:t.bJ∉bf x.k:=λz=>h.nT t.bJ (by simp[sf,z]) (by simp)
 refine⟨k.k _ _ (n2 _ (by simp)) h.o,k.k _ _ (n2 _ (by simp)) h.te,h.ch.keep k h.d1,hb,⟨ps,k.k _ _ nT hT,?_⟩,h.ds,h.d1,h.d2⟩
 rcases hc' with z|⟨c,z,hcd⟩
 ·exact .inl z
 ·refine .inr ⟨c,z,k.k _ _ (λy=>?_) hcd⟩
  have y:c=x.k.bk∨c=x.k.wv∨c=x.k.lv∨c=x.k.fi∨c=x.k.bo:=by simpa[bf]using y
  rcases y with y|y|y|y|y<;>rw[y]at hcd
  ·rw[h.bk.o]at hcd;cases hcd
  ·rw[h.bk.w]at hcd;cases hcd
  ·rw[h.bk.l]at hcd;cases hcd
  ·rw[h.bk.f]at hcd;cases hcd
  ·rw[h.bk.b]at hcd;cases hcd
theorem q4F(T:Txt K mg t)(S:Fns K t)(B:BmIn base mg):S.iP.OkE P w mg base 10 (qCE t):=by
 refine S.iP.F.okE zV (λvs H Q E h=>?_) (λcdv A outer s H vs Q E hr h=>?_)
 ·repeat obtain⟨_,h⟩:=h
  all_goals subst_vars;rfl
 ·obtain⟨x,r2,r3,r4,r5,m,q,n,v,rfl,hs,ft,gd,hrc,k⟩:=h
  refine⟨_,(qB (qT (i:=3) zV.nd rfl (Or.inl rfl) (j8 (pv 0) T.bK T.aCB (q7G T S B).mono hr S.tT.b .nil qK)) (qB (jB (qP q8B (pv 3) yY (qS _)) (qE jG) qR) (qB (qX (jW jH (qJ (pv 0) rfl) T.bL T.aCY (qAE T S).mono hr S.aBO.b .nil (qA (pv 3) (qA (yH (qA (jC (qJ (pv 0) rfl) T.bO T.aCU (q97 T S).mono hr S.aAS.b .nil qK (qA (pv 1) qD)) (qA (pv 2) qD))) qD q0J)))) (qB (qX (jC (qJ (pv 0) rfl) T.bO T.aCI (q98 T S).mono hr S.aAN.b .nil qK (qA (pv 3) (qA (pv 1) qD)))) (qE (qL (pv 3))))))),?_⟩
  try dsimp-beta-proj-iota-zeta-eta only[wishK,cxK]
  refine(iV rfl (iM hs.o rfl ⟨x,r2,r3,r4,r5,m,q,rfl,hs,ft,λl H1 hl k1 tb1=>?_⟩))
  have hs1:=hs.kT k1 tb1
  obtain⟨b,f,hsp,ef,hn,dk,kk⟩:=k l hl
  rw[hsp]
  obtain⟨hB,hbr,f0,f1⟩:=qA1 hl ft.oq.p1 hsp
  have hf:f<q.P:=by lia
  have epg:pgV q.P q.fi (some b)=V.int ((b*q.P+f:Nat):Int):=by
   show V.int ((b:Int)*(q.P:Int)+q.fi.getD b 0)=_
   rw[ef,dX,gL]
  rw[epg]
  refine⟨_,rfl,rfl,_,rfl,iteF ?_⟩
  refine(iV rfl (iF hs1.o T.bK T.b9 rfl (iM hs1.ch.ins rfl ⟨_,rfl,?_⟩)))
  refine(iV rfl (iF hs1.o T.bK T.bM rfl (iM hs1.bk.o rfl ⟨_,rfl,x.k,q,n,rfl,hs1.bk,_,rfl,sz2,λtp H2 n2 s2 e2=>?_⟩)))
  have hs2:=hs1.same s2
  have hpg:((b*q.P+f:Nat):Int)≤m.bl*m.pg-1:=by
   rw[ft.eB,ft.eP,←gL]
   have:b*q.P+f<q.B*q.P:=(wW (by lia)).mp (by rw[yB hf];exact hB)
   lia
  refine⟨x.c,x.a,m,_,.ref tp,rfl,hs2.ch,ft.ok,hrc,gd,hpg,hn,λz=>dk z H2 ((k1.mono (by simp)).trans (Keep.same s2)) hs2,λz H3 hc3 k3=>?_⟩
  have hs3:=hs2.put hc3 k3 rfl rfl
  refine(iV rfl (iF hs3.o T.bK T.bM rfl (iM hs3.bk.o rfl ⟨_,rfl,_,rfl,x.k,q,b,f,n,rfl,hs3.bk,ft.oq,hs3.ds,hB,hf,ef,λH4 hb4 k4=>⟨_,rfl,?_⟩⟩)))
  exact kk z tp H4 (k4.tp _ _ (k3.tp _ _ e2)) ((((k1.mono (by simp)).trans (Keep.same s2)).trans (k3.mono (λb hb=>by unfold sf;exact hU _ (g8 _ hb)))).trans (k4.mono (λb hb=>by unfold sf;exact hU _ (mQ _ hb)))) (hs3.note hb4 k4)
theorem q1O(T:Txt K mg t)(S:Fns K t)(B:BmIn base mg):S.i9.OkE P w mg base 11 (qCE t):=by
 refine S.i9.F.okE q8Z (λvs H Q E h=>?_) (λcdv A outer s H vs Q E hr h=>?_)
 ·repeat obtain⟨_,h⟩:=h
  all_goals subst_vars;rfl
 ·obtain⟨x,r2,r3,r4,r5,m,q,n,v,rfl,hs,k⟩:=h
  refine⟨_,(qE (qL (jW jH (pv 0) T.bK T.aAC (q4F T S B).mono hr S.iP.b .nil (qA (pv 1) (qA (pv 2) qD))))),?_⟩
  try dsimp-beta-proj-iota-zeta-eta only[wishK,cxK]
  exact(iV rfl (iM hs.o rfl ⟨_,rfl,_,rfl,x,r2,r3,r4,r5,m,q,n,v,rfl,hs,k⟩))
theorem bor(a b:Nat):Builtin.bitOr (a:Int) (b:Int)=((a|||b:Nat):Int):=by
 have e:∀c:Nat,Builtin.bitNot (Builtin.bitNot (c:Int))=(c:Int):=λc=>by unfold Builtin.bitNot;lia
 have n:∀c:Nat,decide (0≤Builtin.bitNot (c:Int))=false:=λc=>hI (by unfold Builtin.bitNot;lia)
 unfold Builtin.bitOr Builtin.bitAnd
 rw[n a,n b]
 show Builtin.bitNot (Builtin.bitNot (((Builtin.bitNot (Builtin.bitNot (a:Int))).toNat|||(Builtin.bitNot (Builtin.bitNot (b:Int))).toNat:Nat):Int))=_
 rw[e,e a,e b,kW,kW]
noncomputable abbrev vN(ks:List Nat):List V:=ks.map λ(k:Nat)=>V.int (k:Int)
noncomputable def spBo(K:W.Frag):Sp:=λvs H Q _=>∃l ss,vs=[.ref l]∧SqL K H l (vN ss)∧(∀s∈ss,s<64)∧Q (.int ((orB ss 0:Nat):Int)) H
theorem qAF(s:Nat):∀(l:List Nat) (b:Nat),orB (l++[s]) b=orB l b|||2 ^ s
 | [],b=>rfl
 |x::r,b=>qAF s r _
theorem q6X(T:Txt K mg t)(S:Fns K t):S.aBH.Ok0 P w mg base 1 (spBo K):=by
 refine S.aBH.F.ok0 q1K λcdv A _ s H vs Q E hr h=>?_
 ·obtain⟨l,ss,rfl,hl,hs,q⟩:=h
  refine⟨_,(qB (qT (i:=1) q1K.nd rfl (Or.inl rfl) qI) (qB (uE gU rfl (jZ (pv 0)) (qU (i:=2) q1K.nd rfl (Or.inl rfl)) (qE (qT (i:=1) q1K.nd rfl (Or.inl rfl) (qO qKB (pv 1) (qO qDG qI (pv 2)))))) (qE (qL (pv 1))))),?_⟩
  try dsimp-beta-proj-iota-zeta-eta only[wishK,cxK]
  refine⟨_,rfl,l,rfl,⟨_,hl⟩,?_⟩
  refine vH (K:=K) (xs:=vN ss) (λi σ' H2=>∃y,σ'=[some (.ref l),some (.int ((orB (ss.take i) 0:Nat):Int)),y]∧H2=H) ⟨_,rfl,rfl⟩ (λi σ' H2 hi hp=>?_) (λi x σ' H2 hx hp=>?_) (λσ' H2 hp=>?_)
  ·obtain⟨y,rfl,rfl⟩:=hp
   exact hl
  ·obtain⟨y,rfl,rfl⟩:=hp
   rw[mC]at hx
   obtain⟨n,hn,rfl⟩:=mK.mp hx
   obtain⟨hi,rfl⟩:=kC.mp hn
   have:=hs _ (gG hi)
   refine⟨_,rfl,_,rfl,iI ⟨⟨by lia,by lia,by decide⟩,iI ?_⟩⟩
   have e:(1:Int)*2 ^ ((ss[i]:Nat):Int).toNat=((2 ^ ss[i]:Nat):Int):=by
    rw[xY,kW]
    exact(Int.natCast_pow 2 _).symm
   try dsimp only
   rw[e,bor]
   refine⟨some (.int ((ss[i]:Nat):Int)),?_,rfl⟩
   rw[←mH hi,qAF]
   rfl
  ·obtain⟨y,rfl,rfl⟩:=hp
   rw[show(vN ss).length=ss.length by simp[vN],gC]
   exact⟨_,rfl,q⟩
noncomputable def hdN(W:Mp):List Int:=(W.map (·.1)).filter λn=>decide (n≠64)
noncomputable def spHe(t:Adr):Sp:=λvs H Q _=>∃a,∃m:QM,vs=[.ref a.bk]∧BkAt t H a m∧m.Ok∧(hdN m.V).length<64∧∀l ns H',Same H H'→H l=none→H' l=some (.lst (List.map V.int ns))→ns.Perm (hdN m.V)→ns.Pairwise (·≤·)→Q (.ref l) H'
theorem q99(T:Txt K mg t)(S:Fns K t):S.aAK.Ok0 P w mg base 1 (spHe t):=by
 refine S.aAK.F.ok0 q8Y λcdv A _ s H vs Q E hr h=>?_
 ·obtain⟨a,m,rfl,hb,ok,hl64,q⟩:=h
  have hu:=q1X hr
  have lV:m.V.length≤65:=ok.lenV
  refine⟨_,(qE (qL (j9 q8I (by rfl) T.tO (by kernel_rfl) (qA (q8K (u9 ["name"] [] rfl (qBW (qJ (pv 0) rfl)) (λ_ _ _ _ _=>(qU (i:=0) (show List.Nodup (["name"]:List Str)from by decide) rfl (Or.inl rfl))) (λ_ _ _ _ _=>(uL (qP q5T (pv 0) (q0Z rfl T.aCQ ⟨_,rfl⟩ (v:=.int 64)) (qS _)))) (λ_ _ _ _ _=>(pv 0)) (by kernel_rfl) (jX (by decide)))) qD)))),?_⟩
  try dsimp-beta-proj-iota-zeta-eta only[wishK,cxK]
  refine⟨a.wv,_,hb.w,iV rfl (iF hb.o T.bO T.eJ rfl ⟨a.wv,_,rfl,hb.w,λo D H2 nD s2 hD=>?_⟩)⟩
  have kk:∀x u,x≠a.wv→H x=some u→H2 x=some u:=λx u nx e=>s2 _ _ (by rw[qC nx];exact e)
  have fz:H2 a.wv=some (.frz o (.dK (dI m.V))):=s2 _ _ qH
  have Dw:D≠a.wv:=λz=>by rw[z,fz]at hD;cases hD
  have nDH:H D=none:=by
   rw[qC Dw]at nD
   exact nD
  refine q9Z (D:=D) (λi H3=>H3 a.wv=some (.frz o (.dK (dI m.V)))∧(∀x u,x≠a.wv→H x=some u→H3 x=some u)∧H3 D=some (.lst ((hdN (m.V.take i)).map V.int))) ⟨fz,kk,hD⟩ (λi H3 hp=>hp.1) (λi kv H3 hk hp=>?_) (λH3 hp=>?_)
  ·obtain⟨fz3,k3,hd⟩:=hp
   have hi:i<m.V.length:=by
    have:=(kC.mp hk).1
    rw[q6V]at this
    exact this
   obtain rfl:((Sum.inl m.V[i].1:Key),V.int m.V[i].2)=kv:=by
    have e:(dI m.V)[i]?=some ((Sum.inl m.V[i].1:Key),V.int m.V[i].2):=by unfold dI;rw[mC,hX hi];rfl
    rw[e]at hk
    exact kN hk
   have tk:m.V.take (i+1)=m.V.take i++[m.V[i]]:=(mH hi).symm
   show q1U _ (V.int m.V[i].1) _ _ _
   refine⟨_,rfl,rfl,_,rfl,?_⟩
   rw[zF]
   by_cases e:m.V[i].1=64
   ·rw[hG e]
    refine iteF ?_
    refine⟨fz3,k3,?_⟩
    have:hdN (m.V.take (i+1))=hdN (m.V.take i):=by
     unfold hdN
     rw[tk,mJ,gF]
     simp[e]
    rw[this]
    exact hd
   ·rw[hI e]
    refine iteT ?_
    refine⟨_,rfl,_,hd,?_,?_,λx u nx e'=>?_,?_⟩
    ·rw[hC]
     have l2:(hdN (m.V.take i)).length≤65:=by
      unfold hdN
      refine kO (mB _ _) ?_
      rw[hC,gJ]
      lia
     have:(65:Nat)<sizeLine:=by decide
     lia
    ·rw[qC Dw.symm]
     exact fz3
    ·rw[qC (qF e' nDH)]
     exact k3 _ _ nx e'
    ·have:hdN (m.V.take (i+1))=hdN (m.V.take i)++[m.V[i].1]:=by
      unfold hdN
      rw[tk,mJ,gF]
      simp[e]
     rw[qH,this,mJ]
     rfl
  ·obtain⟨fz3,k3,hd⟩:=hp
   rw[q6V,gC]at hd
   refine⟨o,_,fz3,?_⟩
   have sH:Same H (upd H3 a.wv (.dK (dI m.V))):=qB4 hb.w k3
   have hd4:(upd H3 a.wv (.dK (dI m.V))) D=some (.lst ((hdN m.V).map V.int)):=by rw[qC Dw];exact hd
   generalize upd H3 a.wv (.dK (dI m.V))=H4 at sH hd4 ⊢
   refine⟨D,hdN m.V,rfl,SqL.of hd4,by lia,λns pp pw l H5 n5 s5 h5=>?_⟩
   exact q l ns H5 (sH.trans s5) (sH.free n5) h5 pp pw
structure HeldIs(q:QM)(ns:List Int):Prop where
 pm:ns.Perm (hdN q.V)
 so:ns.Pairwise (·≤·)
noncomputable def spHd(t:Adr):Sp:=λvs H Q _=>∃x r2 r3 r4 r5 m q,vs=[.ref x.s]∧StAt t H x r2 r3 r4 r5 m q∧Fit m q∧(hdN q.V).length<64∧∀l ns H',HeldIs q ns→Same H H'→H l=none→H' l=some (.lst (List.map V.int ns))→Q (.ref l) H'
theorem q0E(T:Txt K mg t)(S:Fns K t):S.iU.Ok0 P w mg base 2 (spHd t):=by
 refine S.iU.F.ok0 q7B λcdv A _ s H vs Q E hr h=>?_
 ·obtain⟨x,r2,r3,r4,r5,m,q,rfl,hs,ft,h64,k⟩:=h
  refine⟨_,(qE (qL (j8 (qJ (pv 0) rfl) T.bO T.aCV (q99 T S).mono hr S.aAK.b .nil qK))),?_⟩
  try dsimp-beta-proj-iota-zeta-eta only[wishK,cxK]
  exact(iV rfl (iF hs.o T.bK T.bM rfl (iM hs.bk.o rfl ⟨x.k,q,rfl,hs.bk,ft.oq,h64,λl ns H' s' n' h' pm so=>k l ns H' ⟨pm,so⟩ s' n' h'⟩)))
noncomputable def spCs(t:Adr):Sp:=λvs H Q E=>∃x r3 r4 r5 m q v,∃sh:Int,vs=[.ref x.s,v]∧StAt t H x (.int sh) r3 r4 r5 m q∧Knd H v∧(if inB v 0 (sh-1)=true then Q .non H else False)
theorem vL(T:Txt K mg t)(S:Fns K t):S.eL.Ok0 P w mg base 3 (spCs t):=by
 refine S.eL.F.ok0 q2M λcdv A _ s H vs Q E hr h=>?_
 ·obtain⟨x,r3,r4,r5,m,q,v,sh,rfl,hs,kn,k⟩:=h
  refine⟨_,(qE (jB (yL (jS (qY (jL T S).mono hr rfl T.bU T.bT S.bY.b .nil qK (qA (pv 1) (qA qI (qA (qO zD (qJ (qJ (pv 0) rfl) rfl) qI) qD)))))) (qE jG) qR)),?_⟩
  try dsimp-beta-proj-iota-zeta-eta only[wishK,cxK]
  refine⟨_,rfl,iV rfl (iF hs.o T.bK T.bN rfl (iF hs.te T.bR T.oM rfl (iI ⟨v,_,_,rfl,kn,_,rfl,?_⟩)))⟩
  cases z:inB v 0 (sh-1)with
  |true=>
   rw[z,kD rfl]at k
   exact iteF k
  |false=>
   rw[z,kB (by decide)]at k
   exact k.elim
theorem qAG(T:Txt K mg t)(S:Fns K t):S.aBV.Ok0 P w mg base 3 (λvs H Q _=>∃v,vs=[v]∧Knd H v∧Q (.bl (inB v 0 (10 ^ 30-1))) H):=by
 refine S.aBV.F.ok0 qAA λcdv A _ s H vs Q E hr h=>?_
 ·obtain⟨v,rfl,kn,k⟩:=h
  refine⟨_,(qE (qL (qY (jL T S).mono hr rfl T.bU T.bT S.bY.b .nil qK (qA (pv 0) (qA qI (qA (qO zD (qO qDF qI qI) qI) qD)))))),?_⟩
  try dsimp-beta-proj-iota-zeta-eta only[wishK,cxK]
  exact⟨_,rfl,iI ⟨⟨by decide,by decide,by decide⟩,iI ⟨v,_,_,rfl,kn,k⟩⟩⟩
noncomputable def hold(q:QM)(s:Int):Bool:=decide (s∈hdN q.V)
theorem q4G{s:Int}:∀{ns:List Int},inV (.int s) (ns.map V.int)=decide (s∈ns)
 | []=>rfl
 |n::r=>by
  have ih:=q4G (s:=s) (ns:=r)
  unfold inV at ih ⊢
  rw[mE,wG,ih]
  by_cases e:n=s
  ·subst e
   simp[eqV]
  ·have e':¬s=n:=λz=>e z.symm
   simp[eqV,e,e']
theorem qCF{ns:List Int}:(ns.map V.int).all zU=true:=by
 rw[d7]
 intro v hv
 obtain⟨n,_,rfl⟩:=kP.mp hv
 rfl
theorem HeldIs.hold{q:QM}{ns:List Int}(h:HeldIs q ns)(s:Int):decide (s∈ns)=hold q s:=by
 unfold W1.hold
 by_cases z:s∈ns
 ·rw[hG z,hG (h.pm.mem_iff.mp z)]
 ·rw[hI z,hI (λy=>z (h.pm.mem_iff.mpr y))]
noncomputable def spSh(t:Adr):Sp:=λvs H Q E=>∃x r2 r4 r5 m q,∃s sr:Int,vs=[.ref x.s,.int s]∧StAt t H x r2 (.int sr) r4 r5 m q∧Fit m q∧(hdN q.V).length<64∧∀H',Same H H'→if hold q s=false∧sr≤((hdN q.V).length:Int)then False else Q .non H'
theorem q2S(T:Txt K mg t)(S:Fns K t):S.fJ.Ok0 P w mg base 3 (spSh t):=by
 refine S.fJ.F.ok0 vK λcdv A _ s H vs Q E hr h=>?_
 ·obtain⟨x,r2,r4,r5,m,q,s,sr,rfl,hs,ft,h64,k⟩:=h
  refine⟨_,(qB (qT (i:=2) vK.nd rfl (Or.inl rfl) (j8 (pv 0) T.bK T.oG (q0E T S).mono hr S.iU.b .nil qK)) (qE (jB (PW.pt (q8A (qP q15 (pv 1) (pv 2) rfl) (q5F (qP qBJ (j9 jK (by rfl) T.tY gZ (qA (pv 2) qD)) (qJ (qJ (pv 0) rfl) rfl) (qS _))))) (qE jG) qR))),?_⟩
  try dsimp-beta-proj-iota-zeta-eta only[wishK,cxK]
  refine(iV rfl (iM hs.o rfl ⟨x,r2,.int sr,r4,r5,m,q,rfl,hs,ft,h64,λl ns H1 hn s1 n1 h1=>?_⟩))
  refine⟨_,rfl,_,rfl,?_⟩
  refine⟨l,_,rfl,.inl (SqL.of h1),rfl,qCF,_,rfl,?_⟩
  have kk:=k H1 s1
  have e:inV (.int s) (ns.map V.int)=hold q s:=by rw[q4G];exact hn.hold s
  show if(!inV (.int s) (ns.map V.int))=true then _ else _
  rw[e]
  cases z:hold q s with
  |true=>
   rw[z,kB (λy=>by cases y.1)]at kk
   exact iteF kk
  |false=>
   refine iteT ?_
   refine⟨_,rfl,l,_,rfl,.inl (SqL.of h1),iV rfl (iF (hs.same s1).o T.bK T.bN rfl (iF (hs.same s1).te T.bR T.oX rfl (iI ⟨_,rfl,?_⟩)))⟩
   rw[hC,hn.pm.length_eq]
   by_cases y:sr≤((hdN q.V).length:Int)
   ·rw[hG y]
    rw[kD ⟨z,y⟩]at kk
    exact kk.elim
   ·rw[hI y]
    rw[kB (λw=>y w.2)]at kk
    exact iteF kk
noncomputable def RT(t:Adr)(H H':Hp):Prop:=∀b o,b≠t.bJ→H b=some o→H' b=some o
theorem RT.keep{H Hi Hj:Hp}{F:List Addr}(r:RT t H Hi)(k:Keep F Hi Hj)(f:∀b∈F,b=t.bJ∨H b=none):RT t H Hj:=λb o nb e=>k.k b o (λz=>by
 rcases f b z with z|z
 ·exact nb z
 ·rw[z]at e;cases e) (r b o nb e)
theorem RT.same{H Hi Hj:Hp}(r:RT t H Hi)(s:Same Hi Hj):RT t H Hj:=λb o nb e=>s b o (r b o nb e)
theorem RT.of{H Hi:Hp}(s:Same H Hi):RT t H Hi:=λb o _ e=>s b o e
theorem RT.sq{H Hi:Hp}{ps:Array Value}{sa:Addr}{xs:List V}(r:RT t H Hi)(hT:H t.bJ=some (.tbl ps))(h:SqL K H sa xs):SqL K Hi sa xs:=by
 rcases h with(h|⟨ob,h⟩)|h
 ·exact .inl (.inl (r _ _ (λz=>by rw[z,hT]at h;cases h) h))
 ·exact .inl (.inr ⟨ob,r _ _ (λz=>by rw[z,hT]at h;cases h) h⟩)
 ·exact .inr h
noncomputable def spRs(t:Adr):Sp:=λvs H Q _=>∃x r2 r3 r5 m q,∃ie:Int,vs=[.ref x.s]∧StAt t H x r2 r3 (.int ie) r5 m q∧Q (.int (1+ie)) H
theorem q0U(T:Txt K mg t)(S:Fns K t):S.fO.Ok0 P w mg base 1 (spRs t):=by
 refine S.fO.F.ok0 q4U λcdv A _ s H vs Q E hr h=>?_
 ·obtain⟨x,r2,r3,r5,m,q,ie,rfl,hs,k⟩:=h
  refine⟨_,(qE (qL (qO yZ qI (qJ (qJ (pv 0) rfl) rfl)))),?_⟩
  try dsimp-beta-proj-iota-zeta-eta only[wishK,cxK]
  exact(iV rfl (iF hs.o T.bK T.bN rfl (iF hs.te T.bR T.oE rfl (iI k))))
noncomputable def spRd(t:Adr):Sp:=λvs H Q _=>∃x r2 r3 r5 m q,∃ie:Int,vs=[.ref x.s]∧StAt t H x r2 r3 (.int ie) r5 m q∧Fit m q∧∀l H',FreeIs q.B m.br m.cl q.fi l→Keep [t.bJ] H H'→TbF t H'→Q (.bl (rdy ie l (jM q.B q.P m.br q.fi))) H'
theorem q6Y(T:Txt K mg t)(S:Fns K t)(B:BmIn base mg):S.tJ.Ok0 P w mg base 9 (spRd t):=by
 refine S.tJ.F.ok0 q2L λcdv A _ s H vs Q E hr h=>?_
 ·obtain⟨x,r2,r3,r5,m,q,ie,rfl,hs,ft,k⟩:=h
  refine⟨_,(qB (qT (i:=1) q2L.nd rfl (Or.inl rfl) (qO zD (j9 jK (by rfl) T.tY gZ (qA (j8 (pv 0) T.bK T.oR (q0C T S B).mono hr S.oA .nil qK) qD)) (j8 (pv 0) T.bK T.oC (q0U T S).mono hr S.fO.b .nil qK))) (qE (qL (qHF (uU qHI (pv 1) qI (qS _)) (q10 (q1T (uU vS (pv 1) qI (qS _)) (q10 (uU q2W (j8 (pv 0) T.bK T.oK (q0D T S).mono hr S.iW.b .nil qK) yY (qS _))))))))),?_⟩
  try dsimp-beta-proj-iota-zeta-eta only[wishK,cxK]
  refine(iV rfl (iM hs.o rfl ⟨x,r2,r3,_,r5,m,q,rfl,hs,ft,λl p H1 hl np k1 tb1 h1=>?_⟩))
  have hs1:=hs.kT k1 tb1
  refine⟨p,_,rfl,.inl (SqL.of h1),iV rfl (iM hs1.o rfl ⟨x,r2,r3,r5,m,q,ie,rfl,hs1,_,_,rfl,rfl,?_⟩)⟩
  refine⟨_,rfl,_,_,rfl,rfl,_,rfl,?_⟩
  have kk:=λH' s'=>k l H' hl (k1.trans (Keep.same s')) (tb1.same s')
  unfold rdy at kk
  rw[hC]
  by_cases z:(l.length:Int)-(1+ie)>0
  ·rw[hG z]
   refine iteT ?_
   have:=kk H1 (Same.refl H1)
   rw[hG z]at this
   exact this
  ·rw[hI z]
   refine iteF ?_
   rw[hI z]at kk
   refine⟨_,rfl,rfl,_,rfl,?_⟩
   rw[zF]
   by_cases e0:(l.length:Int)-(1+ie)=0
   ·rw[hG e0]
    rw[hG e0]at kk
    refine iteT ?_
    refine(iV rfl (iM hs1.o rfl ⟨x,r2,r3,_,r5,m,q,rfl,hs1,ft,λH2 s2=>⟨rfl,?_⟩⟩))
    have:=kk H2 s2
    cases hp:jM q.B q.P m.br q.fi with
    |none=>
     rw[hp]at this
     exact this
    |some b=>
     rw[hp]at this
     exact this
   ·rw[hI e0]
    rw[hI e0]at kk
    refine iteF ?_
    exact kk H1 (Same.refl H1)
noncomputable def spTy(t:Adr):Sp:=λvs H Q _=>∃x r2 r3 r4 r5 m q,∃b:Nat,vs=[.ref x.s,.int (b:Int)]∧StAt t H x r2 r3 r4 r5 m q∧Fit m q∧b<q.B∧NewO H (.tup (tyL m q b)) Q
theorem q6Z(T:Txt K mg t)(S:Fns K t):S.tH.Ok0 P w mg base 5 (spTy t):=by
 refine S.tH.F.ok0 q6P λcdv A _ s H vs Q E hr h=>?_
 ·obtain⟨x,r2,r3,r4,r5,m,q,b,rfl,hs,ft,hb,k⟩:=h
  have eB:=ft.eB
  refine⟨_,(qE (qL (yH (qA (pv 1) (qA (qW jD (qJ (qJ (pv 0) rfl) rfl) (pv 1) (λ_ _=>rfl)) (qA (jC (qJ (pv 0) rfl) T.bL T.iK (vR T S).mono hr S.fL.b .nil qK (qA (pv 1) qD)) (qA (qW jD (qJ (qJ (pv 0) rfl) rfl) (pv 1) (λ_ _=>rfl)) qD))))))),?_⟩
  try dsimp-beta-proj-iota-zeta-eta only[wishK,cxK]
  refine⟨_,rfl,iV rfl (iF hs.o T.bK T.bM rfl (iF hs.bk.o T.bO T.iA rfl ⟨_,rfl,iL (k:=_) (v:=_) (SqL.of hs.bk.l) (atV (by rw[ft.oq.ll];exact hb)) ?_⟩))⟩
  refine(iV rfl (iF hs.o T.bK T.b9 rfl (iM hs.ch.ins rfl ⟨_,rfl,x.c,x.a,m,_,rfl,hs.ch,ft.ok,by lia,by lia,?_⟩)))
  rw[kW]
  refine(iV rfl (iF hs.o T.bK T.bM rfl (iF hs.bk.o T.bO T.iB rfl ⟨_,rfl,iL (k:=_) (v:=_) (SqL.of hs.bk.b) (atV (by rw[ft.oq.lo];exact hb)) ?_⟩)))
  exact⟨sz4,k⟩
noncomputable def spSc(t:Adr):Sp:=λvs H Q _=>∃x r2 r3 r5 m q,∃ie:Int,vs=[.ref x.s]∧StAt t H x r2 r3 (.int ie) r5 m q∧Fit m q∧∀l H',FreeIs q.B m.br m.cl q.fi l→Keep [t.bJ] H H'→TbF t H'→Q (.int (spcN ie l q.P q.fi (jM q.B q.P m.br q.fi))) H'
theorem q70(T:Txt K mg t)(S:Fns K t)(B:BmIn base mg):S.tI.Ok0 P w mg base 9 (spSc t):=by
 refine S.tI.F.ok0 q2N λcdv A _ s H vs Q E hr h=>?_
 ·obtain⟨x,r2,r3,r5,m,q,ie,rfl,hs,ft,k⟩:=h
  have eP:=ft.eP
  refine⟨_,(qB (jB (qP qBJ (j9 jK (by rfl) T.tY gZ (qA (j8 (pv 0) T.bK T.oR (q0C T S B).mono hr S.oA .nil qK) qD)) (j8 (pv 0) T.bK T.oC (q0U T S).mono hr S.fO.b .nil qK) (qS _)) (qE (qL (qJ (qJ (pv 0) rfl) rfl))) qR) (qB (qT (i:=1) q2N.nd rfl (Or.inl rfl) (j8 (pv 0) T.bK T.oK (q0D T S).mono hr S.iW.b .nil qK)) (qB (jB (qP q8B (pv 1) yY (qS _)) (qE (qL qI)) qR) (qE (qL (qO zD (qJ (qJ (pv 0) rfl) rfl) (qW jD (qJ (qJ (pv 0) rfl) rfl) (pv 1) (λ_ _=>rfl)))))))),?_⟩
  try dsimp-beta-proj-iota-zeta-eta only[wishK,cxK]
  refine(iV rfl (iM hs.o rfl ⟨x,r2,r3,_,r5,m,q,rfl,hs,ft,λl p H1 hl np k1 tb1 h1=>?_⟩))
  have hs1:=hs.kT k1 tb1
  refine⟨p,_,rfl,.inl (SqL.of h1),iV rfl (iM hs1.o rfl ⟨x,r2,r3,r5,m,q,ie,rfl,hs1,_,_,rfl,rfl,_,rfl,?_⟩)⟩
  have kk:=λH' s'=>k l H' hl (k1.trans (Keep.same s')) (tb1.same s')
  unfold spcN at kk
  rw[hC]
  by_cases z:1+ie≤(l.length:Int)
  ·rw[hG (show(l.length:Int)≥1+ie from z)]
   refine iteT ?_
   refine(iV rfl (iF hs1.o T.bK T.bN rfl (iF hs1.te T.bR T.bQ rfl ?_)))
   have:=kk H1 (Same.refl H1)
   rw[kD z,←eP]at this
   exact this
  ·rw[hI (show ¬(l.length:Int)≥1+ie from z)]
   refine iteF ?_
   refine(iV rfl (iM hs1.o rfl ⟨x,r2,r3,_,r5,m,q,rfl,hs1,ft,λH2 s2=>?_⟩))
   have kk:=kk H2 s2
   rw[kB z]at kk
   cases hp:jM q.B q.P m.br q.fi with
   |none=>
    rw[hp]at kk
    exact⟨_,rfl,rfl,_,rfl,iteT kk⟩
   |some b=>
    rw[hp]at kk
    have hs2:=hs1.same s2
    refine⟨_,rfl,rfl,_,rfl,iteF ?_⟩
    refine(iV rfl (iF hs2.o T.bK T.bN rfl (iF hs2.te T.bR T.bQ rfl (iV rfl (iF hs2.o T.bK T.bM rfl (iF hs2.bk.o T.bO T.bS rfl ⟨_,rfl,iL (k:=_) (v:=_) (SqL.of hs2.bk.f) (atV (by rw[ft.oq.lf];exact(zH hp).1)) (iI ?_)⟩))))))
    rw[eP]
    exact kk
noncomputable abbrev Tys(H:Hp)(m:CM)(q:QM):List V→List Nat→Prop:=Paired λv b=>∃p,v=.ref p∧H p=some (.tup (tyL m q b))
theorem qAH{F:List Addr}{H H':Hp}{m:CM}{q:QM}(k:Keep F H H'){rs:List V}{L:List Nat}(r:Tys H m q rs L):Tys H' m q rs L:=Paired.mapP r λv d ⟨p,e,h⟩=>⟨p,e,k.tp _ _ h⟩
noncomputable def spFo(t:Adr):Sp:=λvs H Q _=>∃x r2 r3 r5 m q,∃ie:Int,vs=[.ref x.s]∧StAt t H x r2 r3 (.int ie) r5 m q∧Fit m q∧∀l p rs H',FreeIs q.B m.br m.cl q.fi l→H p=none→Keep [t.bJ] H H'→TbF t H'→H' p=some (.lst rs)→Tys H' m q rs ((yA q.B q.P m.br q.fi).filter λb=>decide (q.lv.getD b 0≤spcN ie l q.P q.fi (jM q.B q.P m.br q.fi)))→Q (.ref p) H'
theorem q3U(T:Txt K mg t)(S:Fns K t)(B:BmIn base mg):S.f8.Ok0 P w mg base 10 (spFo t):=by
 refine S.f8.F.ok0 yV λcdv A _ s H vs Q E hr h=>?_
 ·obtain⟨x,r2,r3,r5,m,q,ie,rfl,hs,ft,k⟩:=h
  have b2:=ft.oq.b2
  have eP:=ft.eP
  have sz:(16:Nat)<sizeLine:=by decide
  have fl:(yA q.B q.P m.br q.fi).length≤16:=kO (mB _ _) (kO (q23 (B:=q.B) (br:=m.br)) b2)
  refine⟨_,(qB (qT (i:=1) yV.nd rfl (Or.inr rfl) (j8 (pv 0) T.bK T.aBU (q70 T S B).mono hr S.tI.b .nil qK)) (qB (q0K (i:=2) ["self","block"] [0] rfl (jZ (j8 (pv 0) T.bK T.oQ (q0B T S).mono hr S.iR.b .nil qK)) (λ_ _ _ _ _=>(qU (i:=1) (show List.Nodup (["self","block"]:List Str)from by decide) rfl (Or.inl rfl))) (λ_ _ _ _ _=>(uL (qP vS (qW (q68 (K:=K) rfl) (vF (K:=K) rfl (vF (K:=K) rfl (pv 0) rfl) rfl) (pv 1) (λ_ _=>rfl)) (vF (K:=K) rfl (vF (K:=K) rfl (pv 0) rfl) rfl) (qS _)))) (λ_ _ _ _ _=>(pv 1)) (by kernel_rfl) (jX (by decide)) yV.nd rfl (Or.inl rfl)) (qB (q0K (i:=3) ["self","block"] [0] rfl (jZ (pv 2)) (λ_ _ _ _ _=>(qU (i:=1) (show List.Nodup (["self","block"]:List Str)from by decide) rfl (Or.inl rfl))) (λ_ _ _ _ _=>q18) (λ_ _ _ _ _=>(jC (pv 0) T.bK T.aBS (q6Z T S).mono hr S.tH.b .nil qK (qA (pv 1) qD))) (by kernel_rfl) (jX (by decide)) yV.nd rfl (Or.inl rfl)) (qE (qL (u9 ["space","tally"] [1] rfl (jZ (pv 3)) (λ_ _ _ _ _=>(qU (i:=1) (show List.Nodup (["space","tally"]:List Str)from by decide) rfl (Or.inl rfl))) (λ_ _ _ _ _=>(uL (qP qDJ (qW (q1A (K:=K) rfl) (pv 1) qI (λ_ _=>rfl)) (pv 0) (qS _)))) (λ_ _ _ _ _=>(pv 1)) (by kernel_rfl) (jX (by decide)))))))),?_⟩
  try dsimp-beta-proj-iota-zeta-eta only[wishK,cxK]
  refine(iV rfl (iM hs.o rfl ⟨x,r2,r3,r5,m,q,ie,rfl,hs,ft,λl H1 hl k1 tb1=>?_⟩))
  have hs1:=hs.kT k1 tb1
  have kk:=λp rs H' np k'=>k l p rs H' hl np (k1.trans k')
  generalize spcN ie l q.P q.fi (jM q.B q.P m.br q.fi)=sp at kk
  refine(iV rfl (iM hs1.o rfl ⟨x,r2,r3,_,r5,m,q,rfl,hs1,ft,λp H2 n2 s2 h2=>?_⟩))
  refine⟨p,rfl,⟨_,SqL.of h2⟩,λD H3 nD s3 hD=>?_⟩
  refine uW (K:=K) (xs:=(uD q.B m.br).map vn) (D:=D) (λi H3=>Same H2 H3∧H3 D=some (.lst ((((uD q.B m.br).take i).filter λb=>decide (q.fi.getD b 0=(q.P:Int))).map vn))) ⟨s3,hD⟩ (λi H3 hp=>SqL.of (hp.1 _ _ h2)) (λi y H3 hy hp=>?_) (λH3 hp=>?_)
  ·obtain⟨sm,hd⟩:=hp
   have h3:=(hs1.same s2).same sm
   rw[mC]at hy
   obtain⟨b,hb,rfl⟩:=mK.mp hy
   have hi:=(kC.mp hb).1
   have mb:=q0L.mp (gE hb)
   refine(iV rfl (iF h3.o T.bK T.bM rfl (iF h3.bk.o T.bO T.bS rfl ⟨_,rfl,iL (k:=_) (v:=_) (SqL.of h3.bk.f) (atV (by rw[ft.oq.lf];exact mb.1)) (iV rfl (iF h3.o T.bK T.bN rfl (iF h3.te T.bR T.bQ rfl ⟨rfl,_,rfl,?_⟩)))⟩)))
   rw[zF,eP,←mH hi,gF,mJ]
   obtain rfl:(uD q.B m.br)[i]=b:=(kC.mp hb).2
   by_cases z:q.fi.getD (uD q.B m.br)[i] 0=(q.P:Int)
   ·rw[hG z]
    refine iteT ?_
    refine⟨_,rfl,_,hd,?_,λb o e=>?_,?_⟩
    ·rw[hC]
     have l1:(((uD q.B m.br).take i).filter λb=>decide (q.fi.getD b 0=(q.P:Int))).length≤q.B:=kO (mB _ _) (kO (by rw[gJ];lia) (q23 (B:=q.B) (br:=m.br)))
     lia
    ·rw[qC (qF e nD)]
     exact sm _ _ e
    ·rw[qH,mW,hG z]
     rfl
   ·rw[hI z]
    refine iteF ⟨sm,?_⟩
    rw[hd,mW,hI z]
    simp
  ·obtain⟨sm,hd⟩:=hp
   rw[hC,gC]at hd
   have hd:H3 D=some (.lst ((yA q.B q.P m.br q.fi).map vn)):=hd
   have s13:=s2.trans sm
   have h3:=hs1.same s13
   refine⟨_,rfl,D,rfl,⟨_,SqL.of hd⟩,λD2 H4 nD2 s4 hD2=>?_⟩
   refine qEM (K:=K) (xs:=(yA q.B q.P m.br q.fi).map vn) (D:=D2) (λi H5=>∃rs,Same H3 H5∧H5 D2=some (.lst rs)∧Tys H5 m q rs ((yA q.B q.P m.br q.fi).take i)) ⟨_,s4,hD2,.nil⟩ (λi H5 hp=>by obtain⟨rs,sm5,_⟩:=hp;exact SqL.of (sm5 _ _ hd)) (λi y H5 hy hp=>?_) (λH5 hp=>?_)
   ·obtain⟨rs,sm5,hd5,ty⟩:=hp
    have h5:=h3.same sm5
    rw[mC]at hy
    obtain⟨b,hb,rfl⟩:=mK.mp hy
    have hi:=(kC.mp hb).1
    have mb:=q0L.mp (mI.mp (gE hb)).1
    obtain rfl:(yA q.B q.P m.br q.fi)[i]=b:=(kC.mp hb).2
    have ln:=ty.len
    rw[gJ]at ln
    refine(iV rfl (iM h5.o rfl ⟨_,rfl,x,r2,r3,_,r5,m,q,_,rfl,h5,ft,mb.1,λtp H6 n6 s6 h6=>⟨_,s6 _ _ hd5,by lia,?_⟩⟩))
    have ne:∀b o,H6 b=some (.tup o)→b≠D2:=λb o e z=>by
     rw[z,s6 _ _ hd5]at e
     cases e
    refine⟨_,λb o e=>?_,qH,?_⟩
    ·rw[qC (qF e nD2)]
     exact s6 _ _ (sm5 _ _ e)
    ·rw[←mH hi]
     refine L2.Paired.snoc (Paired.mapP ty λv d ⟨p,e,h⟩=>⟨p,e,?_⟩) ⟨tp,rfl,?_⟩
     ·rw[qC (ne _ _ (s6 _ _ h))]
      exact s6 _ _ h
     ·rw[qC (ne _ _ h6)]
      exact h6
   ·obtain⟨rs,sm5,hd5,ty⟩:=hp
    rw[hC,gC]at ty
    have s15:=s13.trans sm5
    have h5:=hs1.same s15
    refine⟨_,rfl,D2,rfl,⟨_,SqL.of hd5⟩,λD3 H6 nD3 s6 hD3=>?_⟩
    refine uW (K:=K) (xs:=rs) (D:=D3) (λi H7=>∃rs',Same H5 H7∧H7 D3=some (.lst rs')∧rs'.length≤i∧Tys H5 m q rs' (((yA q.B q.P m.br q.fi).take i).filter λb=>decide (q.lv.getD b 0≤sp))) ⟨_,s6,hD3,kM _,.nil⟩ (λi H7 hp=>by obtain⟨_,sm7,_⟩:=hp;exact SqL.of (sm7 _ _ hd5)) (λi y H7 hy hp=>?_) (λH7 hp=>?_)
    ·obtain⟨rs',sm7,hd7,ln,ty'⟩:=hp
     obtain⟨b,hb,tp,rfl,htp⟩:=Paired.at ty hy
     have hi:=(kC.mp hb).1
     obtain rfl:(yA q.B q.P m.br q.fi)[i]=b:=(kC.mp hb).2
     refine⟨_,rfl,iT (k:=_) (v:=_) (SqT.of (sm7 _ _ htp)) rfl ⟨_,rfl,iI ⟨_,rfl,?_⟩⟩⟩
     have ln':=ty.len
     have hir:=(kC.mp hy).1
     have e1:((yA q.B q.P m.br q.fi).take (i+1)).filter (λb=>decide (q.lv.getD b 0≤sp))=((yA q.B q.P m.br q.fi).take i).filter (λb=>decide (q.lv.getD b 0≤sp))++(if q.lv.getD (yA q.B q.P m.br q.fi)[i] 0≤sp then[(yA q.B q.P m.br q.fi)[i]]else[]):=by
      rw[←mH hi,gF,mW]
      by_cases z:q.lv.getD (yA q.B q.P m.br q.fi)[i] 0≤sp
      ·rw[hG z,kD z];rfl
      ·rw[hI z,kB z];rfl
     rw[e1]
     by_cases z:q.lv.getD (yA q.B q.P m.br q.fi)[i] 0≤sp
     ·rw[hG z,kD z]
      refine iteT ?_
      refine⟨_,rfl,_,hd7,by lia,_,λb o e=>?_,qH,?_,L2.Paired.snoc ty' ⟨tp,rfl,htp⟩⟩
      ·rw[qC (qF e nD3)]
       exact sm7 _ _ e
      ·rw[kZ]
       exact cF ln 1
     ·rw[hI z,kB z,gK]
      exact iteF ⟨_,sm7,hd7,by lia,ty'⟩
    ·obtain⟨rs',sm7,hd7,ln,ty'⟩:=hp
     rw[ty.len,gC]at ty'
     have s17:=s15.trans sm7
     refine kk D3 rs' H7 ?_ (Keep.same s17) (tb1.same s17) hd7 (qAH (Keep.same (F:=[]) sm7) ty')
     refine k1.none (λz=>?_) (Same.free s15 nD3)
     obtain⟨ps',hT',_⟩:=tb1.same s15
     rw[kE.mp z,hT']at nD3
     cases nD3
theorem qFP{L:List Nat}{p:Nat→Bool}{i:Nat}(hi:i<L.length):(L.take (i+1)).filter p=(L.take i).filter p++(if p L[i]=true then[L[i]]else[]):=by
 rw[←mH hi,gF,mW]
 rfl
noncomputable def spOp(t:Adr):Sp:=λvs H Q _=>∃x r2 r3 r5 m q,∃ie:Int,vs=[.ref x.s]∧StAt t H x r2 r3 (.int ie) r5 m q∧Fit m q∧∀l p rs H',FreeIs q.B m.br m.cl q.fi l→H p=none→Keep [t.bJ] H H'→TbF t H'→H' p=some (.lst rs)→Tys H' m q rs (optN ie m q l)→Q (.ref p) H'
theorem q0V(T:Txt K mg t)(S:Fns K t)(B:BmIn base mg):S.eQ.Ok0 P w mg base 11 (spOp t):=by
 refine S.eQ.F.ok0 q0R λcdv A _ s H vs Q E hr h=>?_
 ·obtain⟨x,r2,r3,r5,m,q,ie,rfl,hs,ft,k⟩:=h
  have b2:=ft.oq.b2
  have eP:=ft.eP
  have sz:(16:Nat)<sizeLine:=by decide
  have fl:(yA q.B q.P m.br q.fi).length≤16:=kO (mB _ _) (kO (q23 (B:=q.B) (br:=m.br)) b2)
  refine⟨_,(qE (qL (u9 ["self","tally"] [0] rfl (jZ (j8 (pv 0) T.bK T.tW (q3U T S B).mono hr S.f8.b .nil qK)) (λ_ _ _ _ _=>(qU (i:=1) (show List.Nodup (["self","tally"]:List Str)from by decide) rfl (Or.inl rfl))) (λ_ _ _ _ _=>(uL (qP q3Z (qW (q1A (K:=K) rfl) (pv 1) qI (λ_ _=>rfl)) (vF (K:=K) rfl (vF (K:=K) rfl (pv 0) rfl) rfl) (qS _)))) (λ_ _ _ _ _=>(pv 1)) (by kernel_rfl) (jX (by decide))))),?_⟩
  try dsimp-beta-proj-iota-zeta-eta only[wishK,cxK]
  refine(iV rfl (iM hs.o rfl ⟨x,r2,r3,r5,m,q,ie,rfl,hs,ft,λl p0 rs H5 hl np k1 tb1 hd5 ty=>?_⟩))
  have h5:=hs.kT k1 tb1
  have kk:=λp rs H' np=>k l p rs H' hl np
  unfold optN at kk
  have fl':=kO (mB (λb=>decide (q.lv.getD b 0≤spcN ie l q.P q.fi (jM q.B q.P m.br q.fi))) _) fl
  generalize (yA q.B q.P m.br q.fi).filter (λb=>decide (q.lv.getD b 0≤spcN ie l q.P q.fi (jM q.B q.P m.br q.fi)))=L at kk ty fl'
  refine⟨p0,rfl,⟨_,SqL.of hd5⟩,λD3 H6 nD3 s6 hD3=>?_⟩
  refine uW (K:=K) (xs:=rs) (D:=D3) (λi H7=>∃rs',Same H5 H7∧H7 D3=some (.lst rs')∧rs'.length≤i∧Tys H5 m q rs' ((L.take i).filter λb=>decide (q.lv.getD b 0<(q.P:Int)))) ⟨_,s6,hD3,kM _,.nil⟩ (λi H7 hp=>by obtain⟨_,sm7,_⟩:=hp;exact SqL.of (sm7 _ _ hd5)) (λi y H7 hy hp=>?_) (λH7 hp=>?_)
  ·obtain⟨rs',sm7,hd7,ln,ty'⟩:=hp
   obtain⟨b,hb,tp,rfl,htp⟩:=Paired.at ty hy
   have hi:=(kC.mp hb).1
   obtain rfl:L[i]=b:=(kC.mp hb).2
   have h7:=h5.same sm7
   refine⟨_,rfl,iT (k:=_) (v:=_) (SqT.of (sm7 _ _ htp)) rfl (iV rfl (iF h7.o T.bK T.bN rfl (iF h7.te T.bR T.bQ rfl (iI ⟨_,rfl,?_⟩))))⟩
   rw[eP,qFP hi]
   by_cases z:q.lv.getD L[i] 0<(q.P:Int)
   ·rw[hG z,kD rfl]
    refine iteT ?_
    refine⟨_,rfl,_,hd7,by lia,_,λb o e=>?_,qH,?_,L2.Paired.snoc ty' ⟨tp,rfl,htp⟩⟩
    ·rw[qC (qF e nD3)]
     exact sm7 _ _ e
    ·rw[kZ]
     exact cF ln 1
   ·rw[hI z,kB (by decide),gK]
    exact iteF ⟨_,sm7,hd7,by lia,ty'⟩
  ·obtain⟨rs',sm7,hd7,ln,ty'⟩:=hp
   rw[ty.len,gC]at ty'
   refine kk D3 rs' H7 ?_ (k1.trans (Keep.same sm7)) (tb1.same sm7) hd7 (qAH (Keep.same (F:=[]) sm7) ty')
   refine k1.none (λz=>?_) nD3
   obtain⟨ps',hT',_⟩:=tb1
   rw[kE.mp z,hT']at nD3
   cases nD3
theorem vC(T:Txt K mg t)(S:Fns K t)(B:BmIn base mg):S.eW.Ok0 P w mg base 12 (spOp t):=by
 refine S.eW.F.ok0 q4V λcdv A _ s H vs Q E hr h=>?_
 ·obtain⟨x,r2,r3,r5,m,q,ie,rfl,hs,ft,k⟩:=h
  refine⟨_,(qE (qL (j8 (pv 0) T.bK T.i6 (q0V T S B).mono hr S.eQ.b .nil qK))),?_⟩
  try dsimp-beta-proj-iota-zeta-eta only[wishK,cxK]
  exact(iV rfl (iM hs.o rfl ⟨x,r2,r3,r5,m,q,ie,rfl,hs,ft,k⟩))
theorem _root_.L2.ChipAt.has{C c:Addr}{a:CA}{m:CM}{H:Hp}(h:ChipAt C H c a m){b:Addr}(hb:b∈a.li::foot c a):∃o,H b=some o∧(b≠c→∀C d f,o≠ .ins C d f):=by
 obtain⟨rs,er,_⟩:=h.rc
 have hb:b=a.li∨b=c∨b=a.bo∨b=a.cl∨b=a.dc∨b=a.br∨b=a.rc:=by simpa[foot]using hb
 rcases hb with rfl|rfl|rfl|rfl|rfl|rfl|rfl
 ·exact⟨_,h.li,λ_ _ _ _ z=>by cases z⟩
 ·exact⟨_,h.ins,λn=>absurd rfl n⟩
 ·exact⟨_,h.bo,λ_ _ _ _ z=>by cases z⟩
 ·exact⟨_,h.cl,λ_ _ _ _ z=>by cases z⟩
 ·exact⟨_,h.dc,λ_ _ _ _ z=>by cases z⟩
 ·exact⟨_,h.br,λ_ _ _ _ z=>by cases z⟩
 ·exact⟨_,er,λ_ _ _ _ z=>by cases z⟩
theorem StAt.off{H:Hp}{x:Sto}{r2 r3 r4 r5:V}{m:CM}{q:QM}(h:StAt t H x r2 r3 r4 r5 m q){p:Addr}(n:H p=none):p∉t.bJ::sf x:=λz=>by
 obtain⟨rs,er,_⟩:=h.ch.rc
 obtain⟨ps,hT,_⟩:=h.tb
 have z:p=t.bJ∨p=x.c∨p=x.a.bo∨p=x.a.cl∨p=x.a.dc∨p=x.a.br∨p=x.a.rc∨p=x.k.bk∨p=x.k.wv∨p=x.k.lv∨p=x.k.fi∨p=x.k.bo:=by simpa[sf,bf,foot]using z
 rcases z with rfl|rfl|rfl|rfl|rfl|rfl|rfl|rfl|rfl|rfl|rfl|rfl
 ·rw[hT]at n;cases n
 ·rw[h.ch.ins]at n;cases n
 ·rw[h.ch.bo]at n;cases n
 ·rw[h.ch.cl]at n;cases n
 ·rw[h.ch.dc]at n;cases n
 ·rw[h.ch.br]at n;cases n
 ·rw[er]at n;cases n
 ·rw[h.bk.o]at n;cases n
 ·rw[h.bk.w]at n;cases n
 ·rw[h.bk.l]at n;cases n
 ·rw[h.bk.f]at n;cases n
 ·rw[h.bk.b]at n;cases n
noncomputable def spPi(t:Adr):Sp:=λvs H Q E=>∃x dx tm td c a r2 r3 r4 r5,∃m:CM,∃B P:Nat,vs=[.ref x,.ref c,.ref tm]∧H x=some (.ins t.C_Store dx [])∧H tm=some (.ins t.C_Terms td (teF (.int (B:Int)) (.int (P:Int)) r2 r3 r4 r5))∧ChipAt t.C_Chip H c a m∧m.bl=(B:Int)∧m.pg=(P:Int)∧B≤16∧TbF t H∧
 ∀k H',H' x=some (.ins t.C_Store dx [("chip",.ref c),("terms",.ref tm),("book",.ref k.bk)])→(∀ru pa H2,Keep [x] H' H2→H2 x=some (.ins t.C_Store dx [("chip",.ref c),("terms",.ref tm),("book",.ref k.bk),("rule",ru),("papers",pa)])→StAt t H2 ⟨x,dx,tm,td,c,a,k,ru,pa⟩ r2 r3 r4 r5 m (bk0 B P))→(∀b∈bf k,H b=none)→(∀b o,b≠x→H b=some o→H' b=some o)→Q .non H'
theorem q7H(T:Txt K mg t)(S:Fns K t):S.tU.Ok0 P w mg base 3 (spPi t):=by
 refine S.tU.F.ok0 q79 λcdv A _ s H vs Q E hr h=>?_
 ·obtain⟨x,dx,tm,td,c,a,r2,r3,r4,r5,m,B,P',rfl,hx,htm,hc,eB,eP,hB,tb,k⟩:=h
  refine⟨_,(qB (jB (PW.pt (q0F (qP q5T (qJ (pv 2) rfl) (qJ (pv 1) rfl) (qS _)) (zX (qP q5T (qJ (pv 2) rfl) (qJ (pv 1) rfl) (qS _))))) (qE jG) qR) (qB (jO (pv 0) (pv 1) rfl) (qB (jO (pv 0) (pv 2) rfl) (qE (jO (pv 0) (q5H T.aDO (q96 T S).mono hr rfl T.aDN S.aAT.b .nil qK (qA (qJ (pv 1) rfl) (qA (qJ (pv 1) rfl) qD))) rfl))))),?_⟩
  try dsimp-beta-proj-iota-zeta-eta only[wishK,cxK]
  refine(iV rfl (iF htm T.bR T.eZ rfl (iV rfl (iF hc.ins T.bL T.eF rfl ⟨rfl,_,rfl,?_⟩))))
  rw[show(!decide (V.int (B:Int)=V.int m.bl))=false by rw[eB];simp]
  refine iteF ?_
  refine(iV rfl (iF htm T.bR T.bQ rfl (iV rfl (iF hc.ins T.bL T.eA rfl ⟨rfl,_,rfl,?_⟩))))
  rw[show(!decide (V.int (P':Int)=V.int m.pg))=false by rw[eP];simp]
  refine iteF ?_
  refine⟨_,rfl,_,rfl,x,_,dx,_,rfl,hx,T.bK,T.b9,by decide,?_⟩
  refine⟨_,rfl,_,rfl,x,_,dx,_,rfl,qH,T.bK,T.bN,by show 1<1000;decide,?_⟩
  rw[q89]
  have tx:tm≠x:=jR htm hx (by intro z;injection z with z1 z2 z3;unfold teF at z3;cases z3)
  have cx:c≠x:=jR hc.ins hx (by intro z;injection z with z1 z2 z3;unfold chF at z3;cases z3)
  have k1:∀b o,b≠x→H b=some o→(upd H x (.ins t.C_Store dx [("chip",.ref c),("terms",.ref tm)])) b=some o:=λb o nb e=>by
   rw[qC nb]
   exact e
  have o1:(upd H x (.ins t.C_Store dx [("chip",.ref c),("terms",.ref tm)])) x=some (.ins t.C_Store dx [("chip",.ref c),("terms",.ref tm)]):=qH
  have f1:∀b,(upd H x (.ins t.C_Store dx [("chip",.ref c),("terms",.ref tm)])) b=none→H b=none:=λb e=>by
   by_cases z:b=x
   ·rw[z,qH]at e
    cases e
   ·rw[qC z]at e
    exact e
  rw[show putF "terms" (.ref tm) (putF "chip" (.ref c) ([]:List (Str×V)))=([("chip",V.ref c),("terms",V.ref tm)]:List (Str×V))from rfl]
  generalize upd H x (.ins t.C_Store dx [("chip",.ref c),("terms",.ref tm)])=H1 at k1 o1 f1 ⊢
  have hc1:=k1 _ _ cx hc.ins
  refine(iV rfl (iF hc1 T.bL T.eF rfl (iV rfl (iF hc1 T.bL T.eA rfl (λk' kd nk nkd nn=>?_)))))
  rw[eB,eP]
  refine⟨k',kd,B,P',rfl,hB,qH,λka H3 e1 e2 hb3 ds fr up=>⟨rfl,?_⟩⟩
  have s0:Same H1 (upd (upd H1 kd (.own k')) k' (.ins t.C_Book kd [])):=q43 nk nkd
  have up':∀b o,H1 b=some o→H3 b=some o:=λb o e=>up b o (qF e nk) (s0 b o e)
  refine⟨_,rfl,x,_,dx,_,rfl,up' _ _ o1,T.bK,T.bM,by show 2<1000;decide,?_⟩
  have hx3:=up' _ _ o1
  have kx:ka.bk≠x:=by
   rw[e1]
   exact(qF o1 nk).symm
  have lH:∀b∈bf ka,H b=none:=λb hb=>by
   have hb:b=ka.bk∨b∈[ka.wv,ka.lv,ka.fi,ka.bo]:=by simpa[bf]using hb
   rcases hb with rfl|hb
   ·rw[e1]
    exact f1 _ nk
   ·exact f1 _ (Same.free s0 (fr b hb))
  have kpx:∀b o,b≠x→H3 b=some o→(upd H3 x (.ins t.C_Store dx (putF "book" (.ref k') [("chip",V.ref c),("terms",V.ref tm)]))) b=some o:=λb o nb e=>by
   rw[qC nb]
   exact e
  have up2:∀b o,b≠x→H b=some o→(upd H3 x (.ins t.C_Store dx (putF "book" (.ref k') [("chip",V.ref c),("terms",V.ref tm)]))) b=some o:=λb o nb e=>kpx b o nb (up' b o (k1 b o nb e))
  have nx:∀{b:Addr} {o:HO},H3 b=some o→(∀C d fs,o≠ .ins C d fs)→b≠x:=fun {b o} e n z=>by
   rw[z,hx3]at e
   exact n _ _ _ (kN e).symm
  have cfx:∀b∈a.li::foot c a,b≠x:=λb hb z=>by
   obtain⟨o,e,no⟩:=hc.has hb
   by_cases y:b=c
   ·exact cx (y.symm.trans z)
   ·rw[z,hx]at e
    exact no y _ _ _ (kN e).symm
  refine k ka _ (by rw[e1];exact qH) (λru pa H2 kk hx2=>?_) lH up2
  have kp2:∀b o,b≠x→H3 b=some o→H2 b=some o:=λb o nb e=>kk.k b o (by simpa using nb) (kpx b o nb e)
  have up3:∀b o,b≠x→H b=some o→H2 b=some o:=λb o nb e=>kk.k b o (by simpa using nb) (up2 b o nb e)
  have kK:Keep [x] H H2:=⟨λb o nb e=>up3 b o (λz=>nb (by rw[z];simp)) e,λb xs e=>up3 b _ (λz=>by rw[z,hx]at e;cases e) e⟩
  refine⟨hx2,?_,?_,?_,?_,ds,?_,?_⟩
  ·rw[eB,eP]
   exact up3 _ _ tx htm
  ·exact hc.keep kK (λb hb z=>cfx b hb (kE.mp z))
  ·exact⟨kp2 _ _ kx hb3.o,kp2 _ _ (nx hb3.w (λ_ _ _ z=>by cases z)) hb3.w,kp2 _ _ (nx hb3.l (λ_ _ _ z=>by cases z)) hb3.l,kp2 _ _ (nx hb3.f (λ_ _ _ z=>by cases z)) hb3.f,kp2 _ _ (nx hb3.b (λ_ _ _ z=>by cases z)) hb3.b⟩
  ·obtain⟨ps,hT,h⟩:=tb
   refine⟨ps,up3 _ _ (λz=>by rw[z,hx]at hT;cases hT) hT,?_⟩
   rcases h with h|⟨c',h,hcd⟩
   ·exact .inl h
   ·exact .inr ⟨c',h,up3 _ _ (λz=>by rw[z,hx]at hcd;cases hcd) hcd⟩
  ·intro b hb z
   obtain⟨o,e,_⟩:=hc.has hb
   rw[lH b z]at e
   cases e
  ·intro b hb z
   have hb:b=x∨b=tm:=by simpa using hb
   have y0:b∈foot c a∨b∈bf ka:=by simpa[sf]using z
   clear z
   rcases y0 with z|z
   ·rcases hb with rfl|rfl
    ·exact cfx _ (hU _ z) rfl
    ·obtain⟨o,e,no⟩:=hc.has (hU _ z)
     by_cases y:b=c
     ·rw[y,hc.ins]at htm
      have htm:=kN htm
      injection htm with z1 z2 z3
      unfold chF teF at z3
      have:=gX List.length z3
      simp at this
     ·rw[htm]at e
      exact no y _ _ _ (kN e).symm
   ·have n:=lH b z
    rcases hb with rfl|rfl
    ·rw[hx]at n;cases n
    ·rw[htm]at n;cases n
noncomputable def spSi(t:Adr):Sp:=λvs H Q E=>∃x dx tm td c a r2 r3 r4 r5 ru,∃m:CM,∃B P:Nat,vs=[.ref x,.ref c,.ref tm,ru]∧H x=some (.ins t.C_Store dx [])∧H tm=some (.ins t.C_Terms td (teF (.int (B:Int)) (.int (P:Int)) r2 r3 r4 r5))∧ChipAt t.C_Chip H c a m∧m.bl=(B:Int)∧m.pg=(P:Int)∧B≤16∧TbF t H∧
 ∀k p H',StAt t H' ⟨x,dx,tm,td,c,a,k,ru,.ref p⟩ r2 r3 r4 r5 m (bk0 B P)→H' p=some (.lst [])→H p=none→(∀b∈bf k,H b=none)→p∉t.bJ::sf ⟨x,dx,tm,td,c,a,k,ru,.ref p⟩→(∀b o,b≠x→H b=some o→H' b=some o)→Q .non H'
theorem q7I(T:Txt K mg t)(S:Fns K t):S.tR.Ok0 P w mg base 4 (spSi t):=by
 refine S.tR.F.ok0 q7C λcdv A _ s H vs Q E hr h=>?_
 ·obtain⟨x,dx,tm,td,c,a,r2,r3,r4,r5,ru,m,B,P',rfl,hx,htm,hc,eB,eP,hB,tb,k⟩:=h
  refine⟨_,(qB (qX (qJT T.aDF (q7H T S).mono hr rfl T.aDH S.tU.b .nil qK (qA (pv 0) (qA (pv 1) (qA (pv 2) qD))))) (qB (jO (pv 0) (pv 3) rfl) (qE (jO (pv 0) (jT qD) rfl)))),?_⟩
  try dsimp-beta-proj-iota-zeta-eta only[wishK,cxK]
  refine⟨_,rfl,_,rfl,_,rfl,x,dx,tm,td,c,a,r2,r3,r4,r5,m,B,P',rfl,hx,htm,hc,eB,eP,hB,tb,λka H1 hx1 st fk up=>?_⟩
  refine⟨_,rfl,_,rfl,x,_,dx,_,rfl,hx1,T.bK,T.fS,by show 3<1000;decide,?_⟩
  refine⟨sz0,λp H2 np s2 h2=>?_⟩
  have px:p≠x:=λz=>by rw[z,qH]at np;cases np
  rw[qC px]at np
  have hx2:=s2 _ _ qH
  refine⟨_,rfl,x,_,dx,_,rfl,hx2,T.bK,T.fB,by show 4<1000;decide,?_⟩
  have stA:=st ru .non (upd H1 x (.ins t.C_Store dx [("chip",.ref c),("terms",.ref tm),("book",.ref ka.bk),("rule",ru),("papers",.non)])) (Keep.upd hx1 (λ_ z=>by cases z) (by simp)) qH
  have off:=stA.off (p:=p) (by rw[qC px];exact np)
  have kA:Keep [x] H1 (upd H2 x (.ins t.C_Store dx (putF "papers" (.ref p) (putF "rule" ru [("chip",.ref c),("terms",.ref tm),("book",.ref ka.bk)])))):=((Keep.upd hx1 (λ_ z=>by cases z) (by simp)).trans (Keep.same s2)).trans (Keep.upd hx2 (λ_ z=>by cases z) (by simp))
  refine k ka p _ (st ru (.ref p) _ kA qH) (by rw[qC px];exact h2) ?_ fk off (λb o nb e=>kA.k b o (by simpa using nb) (up b o nb e))
  cases e:H p with
  |none=>rfl
  |some o=>
   rw[up p o px e]at np
   cases np
noncomputable def spEm(t:Adr):Sp:=λvs H Q _=>∃a,∃m:QM,∃b,vs=[.ref a.bk,.int ((b:Nat):Int)]∧BkAt t H a m∧m.Ok∧Dst a∧b<m.B∧∀H',BkAt t H' a (m.emptied b)→Keep [a.fi,a.bo] H H'→Q .non H'
theorem q5D(T:Txt K mg t)(S:Fns K t):S.oB.Ok0 P w mg base 1 (spEm t):=by
 refine S.oB.F.ok0 q56 λcdv A _ s H vs Q E hr h=>?_
 ·obtain⟨a,m,b,rfl,hb,ok,ds,hB,q⟩:=h
  have of':a.bk≠a.fi:=jR hb.o hb.f (by intro z;cases z)
  have oo:a.bk≠a.bo:=jR hb.o hb.b (by intro z;cases z)
  have wf:a.wv≠a.fi:=jR hb.w hb.f (by intro z;cases z)
  have wb:a.wv≠a.bo:=jR hb.w hb.b (by intro z;cases z)
  have hbf:b<m.fi.length:=by rw[ok.lf];exact hB
  have hbo:b<m.bo.length:=by rw[ok.lo];exact hB
  refine⟨_,(qB (q12 qI (q1V (qJ (pv 0) rfl) (pv 1) yO)) (qE (q12 qI (q1V (qJ (pv 0) rfl) (pv 1) yO)))),?_⟩
  try dsimp-beta-proj-iota-zeta-eta only[wishK,cxK]
  refine(iV rfl (iF hb.o T.bO T.bS rfl ⟨_,rfl,a.fi,_,_,b,rfl,rfl,hb.f,q21 (by rw[hC];exact hbf),?_⟩))
  rw[setV]
  have b1:(upd H a.fi (.lst ((m.fi.set b 0).map V.int))) a.bo=some (.lst (m.bo.map V.int)):=by rw[qC ds.fb.symm];exact hb.b
  have o1':∀o,H a.bk=some o→(upd H a.fi (.lst ((m.fi.set b 0).map V.int))) a.bk=some o:=λo e=>by rw[qC of'];exact e
  have o1:=o1' _ hb.o
  refine(iV rfl (iF o1 T.bO T.iB rfl ⟨_,rfl,a.bo,_,_,b,rfl,rfl,b1,q21 (by rw[hC];exact hbo),?_⟩))
  rw[setV]
  refine q _ ⟨?_,?_,?_,?_,?_⟩ (Keep.trans (H1:=upd H a.fi (.lst ((m.fi.set b 0).map V.int))) (Keep.upd hb.f (λ_ z=>by cases z) (by simp)) (Keep.upd b1 (λ_ z=>by cases z) (by simp)))
  ·rw[qC oo]
   exact o1
  ·rw[qC wb,qC wf]
   exact hb.w
  ·rw[qC ds.lb,qC ds.lf]
   exact hb.l
  ·rw[qC ds.fb]
   exact qH
  ·exact qH
noncomputable def lpK(P b:Nat)(V:Mp):List (List Int):=(V.filter λq=>decide (q.2 / (P:Int)=(b:Int))).map λq=>[q.2,q.1]
theorem qAI{P b:Nat}{V:Mp}{q:Int×Int}:lpK P b (V++[q])=if q.2 / (P:Int)=(b:Int)then lpK P b V++[[q.2,q.1]]else lpK P b V:=by
 unfold lpK
 rw[gF,mJ]
 by_cases e:q.2 / (P:Int)=(b:Int)
 ·rw[kD e]
  simp[e]
 ·rw[kB e]
  simp[e]
noncomputable def spLp(t:Adr):Sp:=λvs H Q _=>∃a,∃m:QM,∃b,vs=[.ref a.bk,.int ((b:Nat):Int)]∧BkAt t H a m∧m.Ok∧m.V.length<64∧∀l us rs H',Same H H'→H l=none→H' l=some (.lst us)→Paired (TupD H') us rs→rs.Perm (lpK m.P b m.V)→(rs.Pairwise λa b=>lx b a=false)→Q (.ref l) H'
theorem q3V(T:Txt K mg t)(S:Fns K t):S.fU.Ok0 P w mg base 1 (spLp t):=by
 refine S.fU.F.ok0 q3P λcdv A _ s H vs Q E hr h=>?_
 ·obtain⟨a,m,b,rfl,hb,ok,lV,q⟩:=h
  have hu:=q1X hr
  have p1:=ok.p1
  have p2:=ok.p2
  have ob:a.bk≠a.wv:=jR hb.o hb.w (by intro z;cases z)
  refine⟨_,(qE (qL (j9 q45 (by rfl) T.tO (by kernel_rfl) (qA (q8K (u9 ["self","block","name","page"] [0,1] rfl (qJC (qDV wK sX PySem.F.type_dict_items qES (qJ (pv 0) rfl))) (λ_ _ _ _ _=>(qC2 (K:=K) (n:=2) rfl rfl (jV (qU (i:=2) (show List.Nodup (["self","block","name","page"]:List Str)from by decide) rfl (Or.inl rfl)) (jV (qU (i:=3) (show List.Nodup (["self","block","name","page"]:List Str)from by decide) rfl (Or.inl rfl)) q11)) rfl rfl)) (λ_ _ _ _ _=>(uL (qP vS (qO vD (pv 3) (vF (K:=K) rfl (pv 0) rfl)) (pv 1) (qS _)))) (λ_ _ _ _ _=>(yH (qA (pv 3) (qA (pv 2) qD)))) (by kernel_rfl) (qBS (q42 (by decide) (q42 (by decide) qBR))))) qD)))),?_⟩
  try dsimp-beta-proj-iota-zeta-eta only[wishK,cxK]
  refine⟨a.wv,_,hb.w,iV rfl (iF hb.o T.bO T.eJ rfl ⟨.inr (.inr (.inl ⟨rfl,.inl ⟨_,hb.w⟩⟩)),a.wv,_,rfl,rfl,hb.w,λv nv=>?_⟩)⟩
  have sv:Same H (upd H v (q51 v a.wv)):=Same.upd nv
  have vv:(upd H v (q51 v a.wv)) v=some (q51 v a.wv):=qH
  generalize upd H v (q51 v a.wv)=H1 at sv vv ⊢
  refine⟨v,a.wv,_,rfl,vv,sv _ _ hb.w,λo D H2 nD s2 hD=>?_⟩
  have kk:∀x u,x≠a.wv→H x=some u→H2 x=some u:=λx u nx e=>s2 _ _ (by rw[qC nx];exact sv _ _ e)
  have fz:H2 a.wv=some (.frz o (.dK (dI m.V))):=s2 _ _ qH
  have nDH:H D=none:=by
   cases z:H D with
   |none=>rfl
   |some u=>
    by_cases y:D=a.wv
    ·rw[y,qH]at nD
     cases nD
    ·rw[qC y,sv _ _ z]at nD
     cases nD
  have Dw:D≠a.wv:=λz=>by rw[z,fz]at hD;cases hD
  refine qGG (D:=D) (λi H3=>H3 a.wv=some (.frz o (.dK (dI m.V)))∧(∀x u,x≠a.wv→H x=some u→H3 x=some u)∧∃us,H3 D=some (.lst us)∧Paired (TupD H3) us (lpK m.P b (m.V.take i))) ⟨fz,kk,[],hD,.nil⟩ (λi H3 hp=>hp.1) (λi kv W H3 hk hp nW=>?_) (λH3 hp=>?_)
  ·obtain⟨fz3,k3,us,hd,pr⟩:=hp
   have hi:i<m.V.length:=by
    have:=(kC.mp hk).1
    rw[q6V]at this
    exact this
   obtain rfl:((Sum.inl m.V[i].1:Key),V.int m.V[i].2)=kv:=by
    have e:(dI m.V)[i]?=some ((Sum.inl m.V[i].1:Key),V.int m.V[i].2):=by unfold dI;rw[mC,hX hi];rfl
    rw[e]at hk
    exact kN hk
   have sW:Same H3 (upd H3 W (.tup [.int m.V[i].1,.int m.V[i].2])):=Same.upd nW
   have hW:(upd H3 W (.tup [.int m.V[i].1,.int m.V[i].2])) W=some (.tup [.int m.V[i].1,.int m.V[i].2]):=qH
   show gTup _ _ _ _ _ (upd H3 W (.tup [.int m.V[i].1,.int m.V[i].2])) _
   generalize upd H3 W (.tup [.int m.V[i].1,.int m.V[i].2])=H4 at sW hW ⊢
   refine⟨W,_,rfl,SqT.of hW,rfl,_,_,rfl,_,_,rfl,rfl,?_⟩
   refine⟨_,rfl,iV rfl (iF (sW _ _ (k3 _ _ ob hb.o)) T.bO T.fR rfl (iI ⟨⟨by lia,by lia⟩,_,rfl,rfl,_,rfl,?_⟩))⟩
   rw[zF]
   have tk:m.V.take (i+1)=m.V.take i++[m.V[i]]:=(mH hi).symm
   by_cases e:m.V[i].2 / (m.P:Int)=(b:Int)
   ·rw[hG e]
    refine iteT ?_
    refine⟨_,rfl,_,rfl,sz2,λtp H5 n5 s5 h5=>?_⟩
    have s35:=sW.trans s5
    have hd5:=s35 _ _ hd
    have lu:us.length≤64:=by
     have:=pr.len
     have l2:(lpK m.P b (m.V.take i)).length≤(m.V.take i).length:=by unfold lpK;rw[hC];exact mB _ _
     rw[gJ]at l2
     lia
    refine⟨us,hd5,(by exact rV (m:=64) (by lia) (by decide)),?_,λx u nx e'=>?_,us++[.ref tp],qH,?_⟩
    ·rw[qC Dw.symm]
     exact s35 _ _ fz3
    ·rw[qC (qF e' nDH)]
     exact s35 _ _ (k3 _ _ nx e')
    ·rw[tk,qAI,kD e]
     exact L2.Paired.snoc (Paired.mapP (jA pr s35) λx k z=>z.upd hd5 (λ_ q=>by cases q)) (TupD.upd ⟨tp,rfl,h5⟩ hd5 (λ_ q=>by cases q))
   ·rw[hI e]
    refine iteF ?_
    refine⟨sW _ _ fz3,λx u nx e'=>sW _ _ (k3 _ _ nx e'),us,sW _ _ hd,?_⟩
    rw[tk,qAI,kB e]
    exact jA pr sW
  ·obtain⟨fz3,k3,us,hd,pr⟩:=hp
   rw[q6V,gC]at pr
   refine⟨o,_,fz3,?_⟩
   have sH:Same H (upd H3 a.wv (.dK (dI m.V))):=qB4 hb.w k3
   have hd4:(upd H3 a.wv (.dK (dI m.V))) D=some (.lst us):=by rw[qC Dw];exact hd
   have pr4:Paired (TupD (upd H3 a.wv (.dK (dI m.V)))) us (lpK m.P b m.V):=Paired.mapP pr λx k z=>z.upd fz3 (λ_ q=>by cases q)
   generalize upd H3 a.wv (.dK (dI m.V))=H4 at sH hd4 pr4 ⊢
   have hl:(lpK m.P b m.V).length<64:=by
    unfold lpK
    rw[hC]
    exact rV (mB _ _) lV
   have ul:=pr4.len
   refine⟨D,us,lpK m.P b m.V,2,rfl,SqL.of hd4,q8Q pr4,λk hk=>?_,by decide,by lia,λqs pp pw l H5 n5 s5 h5=>?_⟩
   ·unfold lpK at hk
    obtain⟨x,_,rfl⟩:=kP.mp hk
    rfl
   ·refine q l _ _ H5 (sH.trans s5) (sH.free n5) h5 (q6H (jA pr4 s5) λi hi=>mL.mp (pp.mem_iff.mp hi)) (q6G ul.symm pp) pw
theorem qCG(xs:List V)(i:Nat):∀n p,(clr xs i n).getD p .non=if i≤p∧p<i+n then .non else xs.getD p .non
 |0,p=>by rw[kB (by lia)];rfl
 |n+1,p=>by
  show((clr xs i n).set (i+n) .non).getD p .non=_
  rw[qZ,qCG xs i n p]
  by_cases e:i+n=p
  ·subst e
   rw[kD (show i≤i+n∧i+n<i+(n+1) by lia),kB (show ¬(i≤i+n∧i+n<i+n) by lia)]
   by_cases z:i+n<(clr xs i n).length
   ·rw[kD ⟨rfl,z⟩]
   ·rw[kB (λy=>z y.2)]
    rw[q5I]at z
    rw[kJ,dG (by lia)]
    rfl
  ·rw[kB (λy=>e y.1)]
   by_cases z:i≤p∧p<i+n
   ·rw[kD z,kD (by lia)]
   ·rw[kB z,kB (by lia)]
structure PgAt(H:Hp)(bs:List V)(pg:Nat→Option (Int×Int)):Prop where
 n:∀i,pg i=none→bs.getD i .non=.non
 v:∀i v,pg i=some v→∃tp,bs.getD i .non=.ref tp∧H tp=some (.tup [.int v.1,.int v.2])
theorem PgAt.keep{F:List Addr}{H H':Hp}{bs:List V}{pg:Nat→Option (Int×Int)}(h:PgAt H bs pg)(k:Keep F H H'):PgAt H' bs pg:=⟨h.n,λi v e=>by
 obtain⟨tp,e1,e2⟩:=h.v i v e
 exact⟨tp,e1,k.tp _ _ e2⟩⟩
structure Cm(m:CM)(s:XS):Prop where
 ft:Fit m s.q
 br:m.br=noB s.q.B
 li:∀b,valV m.lim (Sum.inl b)=none
 mo:m.mo=1000000
 cl:m.cl=s.cl
 lf:m.lf=s.lf
 rc:m.rc=s.rc
theorem Cm.gd{m:CM}{s:XS}(h:Cm m s):Gd m:=⟨λb=>by rw[h.br];exact rep8,h.li⟩
structure XR(t:Adr)(H:Hp)(x:Sto)(k:Tm)(sh sr:Int)(s:XS):Prop where
 e:∃m:CM,StAt t H x (.int sh) (.int sr) (.int (k.ie:Int)) (.int k.sp) m s.q∧Cm m s∧PgAt H m.bo s.pg
 w:WX k s
theorem Cm.pgs{m:CM}{s:XS}(h:Cm m s){b f:Nat}(hb:b<s.q.B)(hf:f<s.q.P):((b*s.q.P+f:Nat):Int)≤m.bl*m.pg-1∧b*s.q.P+f<m.bo.length:=by
 have nbo:=h.ft.ok.nbo
 rw[h.ft.eB,h.ft.eP,←gL]at *
 have:b*s.q.P+f<s.q.B*s.q.P:=(wW (by lia)).mp (by rw[yB hf];exact hb)
 lia
section
variable{H H':Hp}{x:Sto}{k:Tm}{sh sr:Int}{s:XS}
theorem XR.keep(j:XR t H x k sh sr s){F:List Addr}(kk:Keep F H H')(n:∀b∈[x.s,x.tm]++(x.a.li::sf x),b∉F)(tb:TbF t H'):XR t H' x k sh sr s:=by
 obtain⟨m,st,c,pg⟩:=j.e
 exact⟨⟨m,st.keep kk n tb,c,pg.keep kk⟩,j.w⟩
theorem XR.kT(j:XR t H x k sh sr s)(kk:Keep [t.bJ] H H')(tb:TbF t H'):XR t H' x k sh sr s:=by
 obtain⟨m,st,c,pg⟩:=j.e
 exact⟨⟨m,st.kT kk tb,c,pg.keep kk⟩,j.w⟩
theorem XR.tb(j:XR t H x k sh sr s):TbF t H:=by
 obtain⟨m,st,c,pg⟩:=j.e
 exact st.tb
theorem XR.same(j:XR t H x k sh sr s)(ss:Same H H'):XR t H' x k sh sr s:=by
 obtain⟨m,st,c,pg⟩:=j.e
 exact⟨⟨m,st.same ss,c,pg.keep (F:=[]) (Keep.same ss)⟩,j.w⟩
theorem XR.o(j:XR t H x k sh sr s):H x.s=some (.ins t.C_Store x.sd [("chip",.ref x.c),("terms",.ref x.tm),("book",.ref x.k.bk),("rule",x.ru),("papers",x.pa)]):=by
 obtain⟨m,st,c,pg⟩:=j.e
 exact st.o
theorem XR.inH(j:XR t H x k sh sr s):∀y∈t.bJ::sf x,∃o,H y=some o:=λy hy=>by
 obtain⟨m,hs,_⟩:=j.e
 rcases kI.mp hy with e|e
 ·obtain⟨pt,hT,_⟩:=hs.tb
  exact⟨_,by rw[e];exact hT⟩
 ·unfold sf at e
  rcases gO.mp e with e|e
  ·obtain⟨o,ho,_⟩:=hs.ch.has (hU _ e)
   exact⟨o,ho⟩
  ·have e:y=x.k.bk∨y=x.k.wv∨y=x.k.lv∨y=x.k.fi∨y=x.k.bo:=by simpa[bf]using e
   rcases e with rfl|rfl|rfl|rfl|rfl
   ·exact⟨_,hs.bk.o⟩
   ·exact⟨_,hs.bk.w⟩
   ·exact⟨_,hs.bk.l⟩
   ·exact⟨_,hs.bk.f⟩
   ·exact⟨_,hs.bk.b⟩
theorem XR.off(j:XR t H x k sh sr s){p:Addr}(n:H p=none):p∉t.bJ::sf x:=λz=>by
 obtain⟨o,e⟩:=j.inH p z
 rw[n]at e
 cases e
theorem TbF.updL{H:Hp}{p:Addr}{xs:List V}{o:HO}(h:TbF t H)(e:H p=some (.lst xs)):TbF t (upd H p o):=by
 obtain⟨ps,hT,h⟩:=h
 refine⟨ps,by rw[qC (jR hT e (by intro z;cases z))];exact hT,?_⟩
 rcases h with h|⟨c,h,hc⟩
 ·exact .inl h
 ·exact .inr ⟨c,h,by rw[qC (jR hc e (by intro z;cases z))];exact hc⟩
theorem XR.lst(j:XR t H x k sh sr s){p:Addr}{xs:List V}{o:HO}(e:H p=some (.lst xs))(np:p∉t.bJ::sf x):XR t (upd H p o) x k sh sr s:=by
 obtain⟨m,st,_⟩:=j.e
 have k:=Keep.upd (F:=[p]) (o:=o) e (λ_ z=>by cases z) (by simp)
 refine j.keep k (λy hy z=>?_) (TbF.updL st.tb e)
 rw[kE.mp z]at hy
 rcases gO.mp hy with hy|hy
 ·have hy:p=x.s∨p=x.tm:=by simpa using hy
  rcases hy with h|h
  ·rw[h,st.o]at e;cases e
  ·rw[h,st.te]at e;cases e
 ·rcases kI.mp hy with h|h
  ·rw[h,st.ch.li]at e;cases e
  ·exact np (hU _ h)
theorem XR.set(j:XR t H x k sh sr s){n v:Int}(n0:0≤n)(n1:n≤64)(rc:s.rc.length<1000000)(hr:k.ie*s.q.P<s.rmX)(hl:(∃p,(n,p)∈s.q.V)∨s.q.V.length<59){Q:VK}{E:XK}
 (dk:s.lf=some 0→∀H',XR t H' x k sh sr s→Keep (t.bJ::sf x) H H'→E (.ref t.C_PowerGone) none H')
 (kk:s.lf≠some 0→∀H',XR t H' x k sh sr (s.put n v)→Keep (t.bJ::sf x) H H'→Q (.int (s.np:Int)) H'):qCE t [.ref x.s,.int n,.int v] H Q E:=by
 obtain⟨m,st,c,pg⟩:=j.e
 obtain⟨hb,hf,ef,_,sp⟩:=j.w.spot (by lia)
 obtain⟨hp1,hp2⟩:=c.pgs hb hf
 refine⟨x,_,_,_,_,m,s.q,n,v,rfl,st,c.ft,c.gd,by rw[c.rc];exact rc,λl hfr=>⟨s.pb,s.pf,?_,ef,pg.n _ (j.w.cr _ _ hb (by lia) hf),λz H' k' st'=>dk (by rw[←c.lf];exact z) H' ⟨⟨m,st',c,pg.keep k'⟩,j.w⟩ k',λz tp H' htp k' st'=>?_⟩⟩
 ·rw[c.br]at hfr ⊢
  rw[c.cl]at hfr
  exact sp l hfr
 ·have dk':s.lf≠some 0:=by rw[←c.lf];exact z
  obtain⟨w',_⟩:=j.w.put (v:=v) hr n0 n1 hl dk'
  have okd:(m.deed "put" ((s.pb*s.q.P+s.pf:Nat):Int) (((s.pb*s.q.P+s.pf:Nat):Int) / m.pg) false).Ok:=c.ft.ok.deed (by rw[c.rc];exact rc)
  refine kk dk' H' ⟨⟨_,st',⟨⟨⟨okd.bl1,okd.bl2,okd.pg1,okd.pg2,?_,okd.ncl,okd.ndc,okd.nbr,okd.lim,okd.nrc⟩,w'.qs.ok,c.ft.eB,c.ft.eP⟩,c.br,c.li,c.mo,c.cl,?_,?_⟩,⟨λi e=>?_,λi w e=>?_⟩⟩,w'⟩ k'
  ·show((m.bo.set _ _).length:Int)=_
   rw[gD]
   exact c.ft.ok.nbo
  ·show m.lf.map _=_
   rw[c.lf]
   rfl
  ·show m.rc++[_]=_
   rw[c.rc]
   rfl
  ·have e:(if i=s.np then some (s.q.nx*128+n,v)else s.pg i)=none:=e
   show(m.bo.set (s.pb*s.q.P+s.pf) (.ref tp)).getD i .non=.non
   by_cases z:i=s.np
   ·rw[kD z]at e
    cases e
   ·rw[kB z]at e
    rw[qZ,kB (λy=>z y.1.symm)]
    exact pg.n i e
  ·have e:(if i=s.np then some (s.q.nx*128+n,v)else s.pg i)=some w:=e
   show ∃tq,(m.bo.set (s.pb*s.q.P+s.pf) (.ref tp)).getD i .non=.ref tq∧_
   by_cases z:i=s.np
   ·rw[kD z]at e
    cases e
    exact⟨tp,by rw[qZ,kD ⟨z.symm,hp2⟩],htp⟩
   ·rw[kB z]at e
    obtain⟨tq,e1,e2⟩:=pg.v i w e
    exact⟨tq,by rw[qZ,kB (λy=>z y.1.symm)];exact e1,k'.tp _ _ e2⟩
end
noncomputable def spCo(t:Adr):Sp:=λvs H Q E=>∃x k sh sr s,∃b:Nat,vs=[.ref x.s,.int (b:Int)]∧XR t H x k sh sr s∧b<s.q.B∧s.q.fi.getD b 0=(s.q.P:Int)∧s.rc.length<1000000∧(∀y∈s.q.V,¬y.2 / (s.q.P:Int)=(b:Int))∧
 (s.lf=some 0→E (.ref t.C_PowerGone) none H)∧(s.lf≠some 0→∀H',XR t H' x k sh sr (s.wip b)→Keep (t.bJ::sf x) H H'→Q .non H')
theorem q3W(T:Txt K mg t)(S:Fns K t):S.fT.OkE P w mg base 5 (spCo t):=by
 refine S.fT.F.okE q3Q (λvs H Q E h=>?_) (λcdv A outer s H vs Q E hr h=>?_)
 ·repeat obtain⟨_,h⟩:=h
  all_goals subst_vars;rfl
 ·obtain⟨x,k,sh,sr,s,b,rfl,j,hb,ef,rc,nl,dk,kk⟩:=h
  obtain⟨m,hs,c,pg⟩:=j.e
  have eB:=c.ft.eB
  have clb:=(j.w.c0 b).2
  refine⟨_,(qB (qX (jW jH (qJ (pv 0) rfl) T.bL T.aCK (q93 T S).mono hr S.aAI.b .nil (qA (pv 1) qD))) (qE (qX (jC (qJ (pv 0) rfl) T.bO T.aA0 (q5D T S).mono hr S.oB.b .nil qK (qA (pv 1) qD))))),?_⟩
  try dsimp-beta-proj-iota-zeta-eta only[wishK,cxK]
  refine(iV rfl (iF hs.o T.bK T.b9 rfl (iM hs.ch.ins rfl ⟨_,rfl,x.c,x.a,m,_,rfl,hs.ch,c.ft.ok,by rw[c.rc];exact rc,c.gd,by lia,by rw[c.mo,c.cl];lia,λz=>dk (by rw[←c.lf];exact z),λz H1 hc1 k1=>?_⟩)))
  have dk':s.lf≠some 0:=by rw[←c.lf];exact z
  have hs1:=hs.put hc1 k1 rfl rfl
  refine(iV rfl (iF hs1.o T.bK T.bM rfl (iM hs1.bk.o rfl ⟨_,rfl,x.k,s.q,b,rfl,hs1.bk,j.w.qs.ok,hs1.ds,hb,λH2 hb2 k2=>?_⟩)))
  have k2':Keep (bf x.k) H1 H2:=k2.mono (by intro y hy;simp[bf]at hy ⊢;rcases hy with rfl|rfl<;>simp)
  have kA:Keep (t.bJ::sf x) H H2:=(k1.mono (λy hy=>by unfold sf;exact hU _ (g8 _ hy))).trans (k2'.mono (λy hy=>by unfold sf;exact hU _ (mQ _ hy)))
  have hs2:=hs1.note hb2 k2'
  obtain⟨w',_⟩:=j.w.wip hb ef nl dk'
  have okd:(m.deed "wipe" (b:Int) (b:Int) false).Ok:=c.ft.ok.deed (by rw[c.rc];exact rc)
  have gbo:∀p,(wipC m b).bo.getD p .non=if p / s.q.P=b then .non else m.bo.getD p .non:=λp=>by
   show(clr m.bo ((b:Int)*m.pg).toNat m.pg.toNat).getD p .non=_
   have p1:=j.w.qs.ok.p1
   rw[c.ft.eP,←gL,kW,kW,qCG]
   have:(b*s.q.P≤p∧p<b*s.q.P+s.q.P)↔p / s.q.P=b:=by
    rw[aT (by lia)]
    generalize b*s.q.P=z
    lia
   by_cases z:p / s.q.P=b
   ·rw[kD z,kD (this.mpr z)]
   ·rw[kB z,kB (λy=>z (this.mp y))]
  refine kk dk' H2 ⟨⟨_,hs2,⟨⟨⟨okd.bl1,okd.bl2,okd.pg1,okd.pg2,?_,?_,okd.ndc,okd.nbr,okd.lim,okd.nrc⟩,w'.qs.ok,c.ft.eB,c.ft.eP⟩,c.br,c.li,c.mo,?_,?_,?_⟩,⟨λi e=>?_,λi w e=>?_⟩⟩,w'⟩ kA
  ·show((clr m.bo _ _).length:Int)=_
   rw[q5I]
   exact c.ft.ok.nbo
  ·show((m.cl.set _ _).length:Int)=_
   rw[gD]
   exact c.ft.ok.ncl
  ·show m.cl.set b (m.cl.getD b 0+1)=_
   rw[c.cl]
   rfl
  ·show m.lf.map _=_
   rw[c.lf]
   rfl
  ·show m.rc++[_]=_
   rw[c.rc]
   rfl
  ·have e:(if i / s.q.P=b then none else s.pg i)=none:=e
   rw[gbo]
   by_cases z:i / s.q.P=b
   ·rw[kD z]
   ·rw[kB z]at e ⊢
    exact pg.n i e
  ·have e:(if i / s.q.P=b then none else s.pg i)=some w:=e
   rw[gbo]
   by_cases z:i / s.q.P=b
   ·rw[kD z]at e
    cases e
   ·rw[kB z]at e ⊢
    obtain⟨tq,e1,e2⟩:=pg.v i w e
    exact⟨tq,e1,kA.tp _ _ e2⟩
theorem q71(T:Txt K mg t)(S:Fns K t):S.o9.OkE P w mg base 6 (λvs H Q E=>spCo t vs H (λv H'=>v=.non∧Q (.bl true) H') E):=by
 refine S.o9.F.okE q6Q (λvs H Q E h=>?_) (λcdv A outer s H vs Q E hr h=>?_)
 ·repeat obtain⟨_,h⟩:=h
  all_goals subst_vars;rfl
 ·obtain⟨x,k,sh,sr,s,b,rfl,j,hb,ef,rc,nl,dk,kk⟩:=h
  refine⟨_,(qB (qX (jW jH (pv 0) T.bK T.tS (q3W T S).mono hr S.fT.b .nil (qA (pv 1) qD))) (qE (qL uC))),?_⟩
  try dsimp-beta-proj-iota-zeta-eta only[wishK,cxK]
  exact(iV rfl (iM j.o rfl ⟨_,rfl,x,k,sh,sr,s,b,rfl,j,hb,ef,rc,nl,dk,λz H' j' k'=>(kk z H' j' k').2⟩))
theorem qFQ{s:XS}{ns:List Int}(h:HeldIs s.q ns):ns=s.hl:=by
 refine q8P (h.pm.trans (cL _ _).symm) h.so ?_
 have:=cW (le:=λa b:Int=>decide (a≤b)) (λa b c h1 h2=>hG (c6 (mF h1) (mF h2))) (λa b=>by
  by_cases z:a≤b
  ·rw[hG z];rfl
  ·rw[hI z,hG (show b≤a by lia)];rfl) (hdN s.q.V)
 exact this.imp λz=>mF z
theorem hd64{k:Tm}{s:XS}(w:WX k s):(hdN s.q.V).length<64:=by
 unfold hdN
 refine rV (mB _ _) ?_
 have:=w.l6
 rw[hC]
 lia
theorem qHU{k:Tm}{s:XS}(w:WX k s):∀y∈s.hl,0≤y∧y<64:=λy hy=>by
 have hy:=cU.mp hy
 obtain⟨a1,a2⟩:=mI.mp hy
 obtain⟨y',hy',rfl⟩:=kP.mp a1
 have:=w.qs.ok.nm y' hy'
 have:=mF a2
 lia
theorem qHV{ns:List Int}(h:∀y∈ns,0≤y∧y<64):ns.map V.int=vN (ns.map Int.toNat)∧∀u∈ns.map Int.toNat,u<64:=by
 refine⟨?_,λu hu=>?_⟩
 ·unfold vN
  rw[gS]
  refine gN λy hy=>?_
  have:=h y hy
  show V.int y=V.int ((y.toNat:Nat):Int)
  rw[show((y.toNat:Nat):Int)=y by lia]
 ·obtain⟨y,hy,rfl⟩:=kP.mp hu
  have:=h y hy
  lia
noncomputable def spVm(t:Adr):Sp:=λvs H Q E=>∃x k sh sr s,∃n p:Int,vs=[.ref x.s,.int p,.int n]∧XR t H x k sh sr s∧(n,p)∈s.q.V∧(s.lf=some 0→E (.ref t.C_PowerGone) none H)∧∀H',Same H H'→Q (.int (s.val p n)) H'
theorem q1P(T:Txt K mg t)(S:Fns K t):S.eU.OkE P w mg base 6 (spVm t):=by
 refine S.eU.F.okE q1L (λvs H Q E h=>?_) (λcdv A outer s H vs Q E hr h=>?_)
 ·repeat obtain⟨_,h⟩:=h
  all_goals subst_vars;rfl
 ·obtain⟨x,k,sh,sr,s,n,p,rfl,j,hm,dk,kk⟩:=h
  obtain⟨m,hs,c,pg⟩:=j.e
  refine⟨_,(qB (jB (qP vS (pv 2) (q0Z rfl T.aCQ ⟨_,rfl⟩ (v:=.int 64)) (qS _)) (qE (qL (qY (q6X T S).mono hr rfl T.aA9 T.aBA S.aBH.b .nil qK (qA (j8 (pv 0) T.bK T.oG (q0E T S).mono hr S.iU.b .nil qK) qD)))) qR) (qE (qL (qW jI (jW jH (qJ (pv 0) rfl) T.bL T.tG (q1N T S).mono hr S.oF.b .nil (qA (pv 1) qD)) qI (λ_ _=>rfl))))),?_⟩
  try dsimp-beta-proj-iota-zeta-eta only[wishK,cxK]
  refine⟨_,rfl,rfl,_,rfl,?_⟩
  rw[zF]
  by_cases z:n=64
  ·rw[hG z]
   refine iteT ?_
   refine(iV rfl (iM hs.o rfl ⟨x,_,_,_,_,m,s.q,rfl,hs,c.ft,hd64 j.w,λl ns H1 hn s1 n1 h1=>?_⟩))
   obtain rfl:=qFQ hn
   obtain⟨en,lt⟩:=qHV (qHU j.w)
   rw[en]at h1
   refine⟨l,_,rfl,SqL.of h1,lt,?_⟩
   have:=kk H1 s1
   unfold XS.val at this
   rw[kD z]at this
   exact this
  ·rw[hI z]
   refine iteF ?_
   obtain⟨b,f,v,a1,a2,a3,a4,a5⟩:=j.w.vl _ hm
   have a3:p=_:=a3
   obtain⟨tp,e1,e2⟩:=pg.v _ _ a5
   have hp:=(c.pgs a1 a2).1
   refine(iV rfl (iF hs.o T.bK T.b9 rfl (iM hs.ch.ins rfl ⟨_,rfl,x.c,x.a,m,_,rfl,hs.ch,c.ft.ok,by rw[a3];lia,by rw[a3];exact hp,λy=>dk (by rw[←c.lf];exact y),λ_=>?_⟩)))
   have:=kk H (Same.refl H)
   unfold XS.val at this
   rw[kB z]at this
   rw[a3,kW,e1]
   rw[a3,kW,a5]at this
   exact(iT (k:=1) (v:=_) (SqT.of e2) rfl this)
noncomputable def qL5:Sp:=λvs H Q _=>∃x a b p n,vs=[x,a,b,p,n]∧Q (.bl false) H
theorem q3X(T:Txt K mg t)(S:Fns K t):S.fW.Ok0 P w mg base 1 qL5:=by
 refine S.fW.F.ok0 q3T λcdv A _ s H vs Q E hr h=>?_
 ·obtain⟨x,a,b,p,n,rfl,q⟩:=h
  refine⟨_,(qE (qL uC)),?_⟩
  try dsimp-beta-proj-iota-zeta-eta only[wishK,cxK]
  exact q
noncomputable def spGa(f:Tl→Int):Sp:=λvs H Q _=>∃x a b p n A B,vs=[x,a,b,p,n]∧TlAt H a A∧TlAt H b B∧Q (.bl (decide (f A<f B))) H
theorem q2T(T:Txt K mg t)(S:Fns K t):S.fI.Ok0 P w mg base 1 (spGa Tl.lv):=by
 refine S.fI.F.ok0 q2P λcdv A _ s H vs Q E hr h=>?_
 ·obtain⟨x,a,b,p,n,A,B,rfl,⟨ad,rfl,ha⟩,⟨bd,rfl,hb⟩,q⟩:=h
  refine⟨_,(qE (qL (uU q3Z (qW jI (pv 1) qI (λ_ _=>rfl)) (qW jI (pv 2) qI (λ_ _=>rfl)) (qS _)))),?_⟩
  try dsimp-beta-proj-iota-zeta-eta only[wishK,cxK]
  exact⟨_,rfl,iT (k:=1) (v:=_) (SqT.of ha) rfl ⟨_,rfl,iT (k:=1) (v:=_) (SqT.of hb) rfl (iI q)⟩⟩
theorem q2U(T:Txt K mg t)(S:Fns K t):S.fK.Ok0 P w mg base 1 (spGa Tl.bo):=by
 refine S.fK.F.ok0 q2Q λcdv A _ s H vs Q E hr h=>?_
 ·obtain⟨x,a,b,p,n,A,B,rfl,⟨ad,rfl,ha⟩,⟨bd,rfl,hb⟩,q⟩:=h
  refine⟨_,(qE (qL (uU q3Z (qW jI (pv 1) qI (λ_ _=>rfl)) (qW jI (pv 2) qI (λ_ _=>rfl)) (qS _)))),?_⟩
  try dsimp-beta-proj-iota-zeta-eta only[wishK,cxK]
  exact⟨_,rfl,iT (k:=3) (v:=_) (SqT.of ha) rfl ⟨_,rfl,iT (k:=3) (v:=_) (SqT.of hb) rfl (iI q)⟩⟩
noncomputable def RuAt(t:Adr)(H:Hp)(r:Addr)(pg nw:Int)(f:Tl→Int):Prop:=(∃dx,H r=some (.ins t.C_Rule dx [])∧f=λ_=>0)∨(∃dx,H r=some (.ins t.C_Fewest dx [])∧f=Tl.lv)∨(∃dx,H r=some (.ins t.C_Eldest dx [])∧f=Tl.bo)
noncomputable def spUn(t:Adr)(K:W.Frag):Sp:=λvs H Q _=>∃r v l pg nw T us ts f,vs=[.ref r,v,.ref l,.int pg,.int nw]∧RuAt t H r pg nw f∧TlAt H v T∧SqL K H l us∧Tls H us ts∧T.Ok pg nw∧(∀o∈ts,o.Ok pg nw)∧pg≤16∧Q (.bl (unb f ts T)) H
theorem q72(T:Txt K mg t)(S:Fns K t):S.tD.Ok0 P w mg base 2 (spUn t K):=by
 refine S.tD.F.ok0 q2O λcdv A _ s H vs Q E hr h=>?_
 ·obtain⟨r,v,l,pg,nw,A,us,ts,f,rfl,hR,hv,hl,hts,oa,os,hpg,q⟩:=h
  obtain⟨va,rfl,hva⟩:=id hv
  have hlen:=hts.len
  refine⟨_,(qB (uE gU rfl (jZ (pv 2)) (qU (i:=5) q2O.nd rfl (Or.inl rfl)) (qE (jB (PW.pt (q8A (qP (qGD hr.units) (pv 5) (pv 1) (qS _)) (q5F (jS (qJ7 (q8J (jC (pv 0) T.aC4 T.tZ (q3X T S).mono hr S.fW.b .nil qK (qA (pv 5) (qA (pv 1) (qA (pv 3) (qA (pv 4) qD))))) (q8J (jC (pv 0) T.aCD T.tK (q2T T S).mono hr S.fI.b .nil qK (qA (pv 5) (qA (pv 1) (qA (pv 3) (qA (pv 4) qD))))) (jC (pv 0) T.aCC T.oZ (q2U T S).mono hr S.fK.b .nil qK (qA (pv 5) (qA (pv 1) (qA (pv 3) (qA (pv 4) qD)))))))))))) (qE (qL uC)) qR))) (qE (qL uC))),?_⟩
  try dsimp-beta-proj-iota-zeta-eta only[wishK,cxK]
  refine⟨_,rfl,l,rfl,⟨us,hl⟩,?_⟩
  refine vH (K:=K) (xs:=us) (λi σ' H2=>∃y,σ'=[some (.ref r),some (.ref va),some (.ref l),some (.int pg),some (.int nw),y]∧H2=H∧∀j,∀hj:j<ts.length,j<i→¬f ts[j] <f A) ⟨_,rfl,rfl,λj _ z=>absurd z (nR _)⟩ (λi σ' H2 hi hp=>?_) (λi x σ' H2 hx hp=>?_) (λσ' H2 hp=>?_)
  ·obtain⟨y,rfl,rfl,_⟩:=hp
   exact hl
  ·obtain⟨y,rfl,rfl,hm⟩:=hp
   obtain⟨O,hO,ho⟩:=Paired.at hts hx
   obtain⟨xa,rfl,hxa⟩:=id ho
   have hi:i<ts.length:=(kC.mp hO).1
   obtain rfl:ts[i]=O:=(kC.mp hO).2
   have ok:(ts[i]).Ok pg nw:=os _ (gG hi)
   refine⟨_,rfl,_,rfl,xa,va,(ts[i]).ns,A.ns,rfl,rfl,SqT.of hxa,SqT.of hva,rfl,_,rfl,?_⟩
   by_cases e:(ts[i]).ns=A.ns
   ·rw[hG e]
    refine iteF (iteF ⟨_,rfl,rfl,λj hj z=>?_⟩)
    by_cases ej:j=i
    ·subst ej
     rw[Tl.eq_of e]
     exact Int.lt_irrefl _
    ·exact hm j hj (by lia)
   ·rw[hI e]
    refine iteT ?_
    refine⟨λv' H'=>v'=.bl (decide (f ts[i] <f A))∧H'=H2,?_,?_⟩
    ·rcases hR with⟨dx,hins,rfl⟩|⟨dx,hins,rfl⟩|⟨dx,hins,rfl⟩
     ·exact .inl ⟨_,rfl,r,dx,_,rfl,hins,rfl,_,rfl,_,rfl,_,rfl,_,rfl,_,_,_,_,_,rfl,rfl,rfl⟩
     ·exact .inr (.inl ⟨_,rfl,r,dx,_,rfl,hins,rfl,_,rfl,_,rfl,_,rfl,_,rfl,_,_,_,_,_,ts[i],A,rfl,ho,hv,rfl,rfl⟩)
     ·exact .inr (.inr (⟨_,rfl,r,dx,_,rfl,hins,rfl,_,rfl,_,rfl,_,rfl,_,rfl,_,_,_,_,_,ts[i],A,rfl,ho,hv,rfl,rfl⟩))
    ·rintro v' H' ⟨rfl,rfl⟩
     refine⟨_,rfl,?_⟩
     by_cases g:f ts[i] <f A
     ·rw[hG g]
      refine iteT ?_
      have z:unb f ts A=false:=by
       cases z:unb f ts A with
       |false=>rfl
       |true=>exact absurd (q5J.mp z _ (gG hi)) (by lia)
      rw[z]at q
      exact q
     ·rw[hI g]
      refine iteF ⟨_,rfl,rfl,λj hj z=>?_⟩
      by_cases ej:j=i
      ·subst ej
       exact g
      ·exact hm j hj (by lia)
  ·obtain⟨y,rfl,rfl,hm⟩:=hp
   have z:unb f ts A=true:=q5J.mpr λo ho=>by
    obtain⟨j,hj,rfl⟩:=wI ho
    have:=hm j hj (by lia)
    lia
   rw[z]at q
   exact q
noncomputable def spFu(t:Adr)(K:W.Frag):Sp:=λvs H Q _=>∃r l pg nw us ts f,vs=[.ref r,.ref l,.int pg,.int nw]∧RuAt t H r pg nw f∧SqL K H l us∧Tls H us ts∧(∀o∈ts,o.Ok pg nw)∧pg≤16∧ts≠[]∧Q (.int (pk f ts)) H
theorem q4H(T:Txt K mg t)(S:Fns K t):S.iJ.Ok0 P w mg base 3 (spFu t K):=by
 refine S.iJ.F.ok0 v8 λcdv A _ s H vs Q E hr h=>?_
 ·obtain⟨r,l,pg,nw,us,ts,f,rfl,hR,hl,hts,os,hpg,hne,q⟩:=h
  have hlen:=hts.len
  obtain⟨i,hi,hu,hn⟩:=q67 f ts hne
  have at':∀j,∀hj:j<ts.length,∃x,us[j]?=some x∧TlAt H x ts[j]:=λj hj=>by
   have e:us[j]?=some (us[j]'(by lia)):=hX (by lia)
   obtain⟨O,hO,ho⟩:=Paired.at hts e
   obtain rfl:ts[j]=O:=(kC.mp hO).2
   exact⟨_,e,ho⟩
  refine⟨_,(qB (qT (i:=4) v8.nd rfl (Or.inl rfl) qI) (qB (q9I gU (yL (jS (qY (q72 T S).mono hr rfl T.aA7 T.aA4 S.tD.b .nil qK (qA (pv 0) (qA (qW jD (pv 1) (pv 4) (λ_ _=>rfl)) (qA (pv 1) (qA (pv 2) (qA (pv 3) qD)))))))) (qE (qI3 (i:=4) v8.nd rfl (Or.inl rfl) qI q5R))) (qE (qL (qW jI (qW jD (pv 1) (pv 4) (λ_ _=>rfl)) qI (λ_ _=>rfl)))))),?_⟩
  try dsimp-beta-proj-iota-zeta-eta only[wishK,cxK]
  refine⟨λm σ' H2=>H2=H∧∃p:Nat,σ'=[some (.ref r),some (.ref l),some (.int pg),some (.int nw),some (.int p)]∧p≤i∧m=i-p,⟨i,rfl,0,rfl,mV _,rfl⟩,?_⟩
  rintro m σ' H2 ⟨rfl,p,rfl,hpi,rfl⟩
  obtain⟨x,hx,tx⟩:=at' p (by lia)
  refine⟨_,rfl,_,rfl,_,rfl,l,us,p,x,rfl,rfl,hl,u7 hx,_,rfl,_,rfl,_,rfl,r,x,l,pg,nw,ts[p],us,ts,f,rfl,hR,tx,hl,hts,os _ (gG _),os,hpg,?_⟩
  by_cases e:p=i
  ·subst e
   rw[hu]
   refine⟨_,rfl,iteF ?_⟩
   obtain⟨xa,rfl,hxa⟩:=tx
   refine⟨_,rfl,_,rfl,l,us,p,_,rfl,rfl,hl,u7 hx,iT (k:=0) (v:=_) (SqT.of hxa) rfl ?_⟩
   rw[qHQ hi hu hn]at q
   exact q
  ·rw[hn p (by lia)]
   refine⟨_,rfl,iteT ⟨_,λ_ _ z=>z,?_⟩⟩
   exact⟨_,rfl,iI ⟨i-(p+1),by lia,rfl,p+1,rfl,by lia,rfl⟩⟩
theorem zR(T:Txt K mg t)(S:Fns K t):S.fV.Ok0 P w mg base 4 (spFu t K):=by
 refine S.fV.F.ok0 q6S λcdv A _ s H vs Q E hr h=>?_
 ·obtain⟨r,l,pg,nw,us,ts,f,rfl,z⟩:=h
  refine⟨_,(qE (qL (qY (q4H T S).mono hr rfl T.tX T.tQ S.iJ.b .nil qK (qA (pv 0) (qA (pv 1) (qA (pv 2) (qA (pv 3) qD))))))),?_⟩
  try dsimp-beta-proj-iota-zeta-eta only[wishK,cxK]
  exact⟨_,rfl,_,rfl,_,rfl,_,rfl,r,l,pg,nw,us,ts,f,rfl,z⟩
theorem qCH{H:Hp}{m:CM}{q:QM}:∀{rs:List V} {L:List Nat},Tys H m q rs L→Tls H rs (L.map (tlOf m q))
 |_,_,.nil=>.nil
 |_,_,.cons ⟨p,e,h⟩ r=>.cons ⟨p,e,h⟩ (qCH r)
noncomputable def RuX(t:Adr)(H:Hp)(r:Addr)(rl:List Addr):Rl→Prop
 | .rk f=>(∃dx,H r=some (.ins t.C_Rule dx [])∧f=λ_ _ _=>0)∨(∃dx,H r=some (.ins t.C_Fewest dx [])∧f=λ_ _=>Tl.lv)∨(∃dx,H r=some (.ins t.C_Eldest dx [])∧f=λ_ _=>Tl.bo)
 |_=>False
theorem RuX.ok{H:Hp}{r:Addr}{rl:List Addr}{g:Rl}(h:RuX t H r rl g):g.Ok:=by
 cases g with
 |rk f=>trivial
 |win m=>exact h.elim
 |fol row u=>exact h.elim
theorem RuX.map{H H':Hp}{r:Addr}{rl:List Addr}{g:Rl}(h:RuX t H r rl g)(h1:∀y∈r::rl,∀o,H y=some o→H' y=some o):RuX t H' r rl g:=by
 have h1:=h1 r kU
 cases g with
 |rk f=>
  rcases h with⟨dx,a,b⟩|⟨dx,a,b⟩|⟨dx,a,b⟩
  ·exact .inl ⟨dx,h1 _ a,b⟩
  ·exact .inr (.inl ⟨dx,h1 _ a,b⟩)
  ·exact .inr (.inr (⟨dx,h1 _ a,b⟩))
 |win m=>exact h.elim
 |fol row u=>exact h.elim
theorem RuX.keep{H H':Hp}{r:Addr}{rl:List Addr}{F:List Addr}{g:Rl}(h:RuX t H r rl g)(k:Keep F H H')(n:∀y∈r::rl,y∉F):RuX t H' r rl g:=h.map λy hy o e=>k.k _ _ (n y hy) e
theorem RuX.ins{H:Hp}{r:Addr}{rl:List Addr}{g:Rl}(h:RuX t H r rl g):∃C d fs,H r=some (.ins C d fs):=by
 cases g with
 |rk f=>
  rcases h with⟨dx,a,b⟩|⟨dx,a,b⟩|⟨dx,a,b⟩
  ·exact⟨_,_,_,a⟩
  ·exact⟨_,_,_,a⟩
  ·exact⟨_,_,_,a⟩
 |win m=>exact h.elim
 |fol row u=>exact h.elim
noncomputable def spCr(t:Adr)(K:W.Frag):Sp:=λvs H Q _=>∃x r2 r3 r4 r5 m q r rl g op rs ts,vs=[.ref x.s,.ref op]∧StAt t H x r2 r3 r4 r5 m q∧Fit m q∧x.ru=.ref r∧RuX t H r rl g∧H op=some (.lst rs)∧Tls H rs ts∧ts≠[]∧ts.length≤16∧(∀o∈ts,o.Ok (q.P:Int) q.nx)∧(∀a∈ts,∀c∈ts,a.b=c.b→a=c)∧∀p H',Keep [r] H H'→RuX t H' r rl (g.ch (q.P:Int) q.nx ts).2→H' p=some (.tup [.str "rule",.int (g.ch (q.P:Int) q.nx ts).1])→Q (.ref p) H'
theorem q0W(T:Txt K mg t)(S:Fns K t):S.eO.Ok0 P w mg base 5 (spCr t K):=by
 refine S.eO.F.ok0 q0S λcdv A _ s H vs Q E hr h=>?_
 ·obtain⟨x,r2,r3,r4,r5,m,q,r,rl,g,op,rs,ts,rfl,hs,ft,er,hR,hop,tl,ne,l16,ok,unl,k⟩:=h
  have eP:=ft.eP
  have p1:=ft.oq.p1
  have p2:=ft.oq.p2
  have te:=hs.te
  rw[eP]at te
  refine⟨_,(qE (qL (yH (qA q0Y (qA (q8J (jC (qJ (pv 0) rfl) T.aC4 T.aBG (zR T S).mono hr S.fV.b .nil qK (qA (pv 1) (qA (qJ (qJ (pv 0) rfl) rfl) (qA (qJ (qJ (pv 0) rfl) rfl) qD)))) (q8J (jC (qJ (pv 0) rfl) T.aCD T.aAQ (zR T S).mono hr S.fV.b .nil qK (qA (pv 1) (qA (qJ (qJ (pv 0) rfl) rfl) (qA (qJ (qJ (pv 0) rfl) rfl) qD)))) (jC (qJ (pv 0) rfl) T.aCC T.aAM (zR T S).mono hr S.fV.b .nil qK (qA (pv 1) (qA (qJ (qJ (pv 0) rfl) rfl) (qA (qJ (qJ (pv 0) rfl) rfl) qD)))))) qD))))),?_⟩
  try dsimp-beta-proj-iota-zeta-eta only[wishK,cxK]
  cases g with
  |rk f=>
   have sz2:2≤sizeLine:=by decide
   rcases id hR with⟨dx,hins,rfl⟩|⟨dx,hins,rfl⟩|⟨dx,hins,rfl⟩
   ·exact .inl (iV rfl (iF hs.o T.bK T.fS rfl ⟨r,dx,_,er,hins,rfl,_,rfl,iV rfl (iF hs.o T.bK T.bN rfl (iF te T.bR T.bQ rfl (iV rfl (iF hs.o T.bK T.bM rfl (iF hs.bk.o T.bO T.b8 rfl ⟨r,op,_,_,rs,ts,_,(by rw[er];rfl),.inl ⟨dx,hins,rfl⟩,SqL.of hop,tl,ok,by lia,ne,sz2,λp H2 n2 s2 e2=>k p H2 (Keep.same s2) (hR.keep (Keep.same s2) (F:=[]) (by simp)) e2⟩)))))⟩))
   ·exact .inr (.inl (iV rfl (iF hs.o T.bK T.fS rfl ⟨r,dx,_,er,hins,rfl,_,rfl,iV rfl (iF hs.o T.bK T.bN rfl (iF te T.bR T.bQ rfl (iV rfl (iF hs.o T.bK T.bM rfl (iF hs.bk.o T.bO T.b8 rfl ⟨r,op,_,_,rs,ts,_,(by rw[er];rfl),.inr (.inl ⟨dx,hins,rfl⟩),SqL.of hop,tl,ok,by lia,ne,sz2,λp H2 n2 s2 e2=>k p H2 (Keep.same s2) (hR.keep (Keep.same s2) (F:=[]) (by simp)) e2⟩)))))⟩)))
   ·exact .inr (.inr ((iV rfl (iF hs.o T.bK T.fS rfl ⟨r,dx,_,er,hins,rfl,_,rfl,iV rfl (iF hs.o T.bK T.bN rfl (iF te T.bR T.bQ rfl (iV rfl (iF hs.o T.bK T.bM rfl (iF hs.bk.o T.bO T.b8 rfl ⟨r,op,_,_,rs,ts,_,(by rw[er];rfl),.inr (.inr (⟨dx,hins,rfl⟩)),SqL.of hop,tl,ok,by lia,ne,sz2,λp H2 n2 s2 e2=>k p H2 (Keep.same s2) (hR.keep (Keep.same s2) (F:=[]) (by simp)) e2⟩)))))⟩))))
  |win m=>exact hR.elim
  |fol row u=>exact hR.elim
section
variable{H H':Hp}{x:Sto}{k:Tm}{sh sr:Int}{s:XS}{r:Addr}{rl:List Addr}{g:Rl}
theorem TbF.keepR(h:TbF t H){C d:Addr}{fs:List (Str×V)}(e:H r=some (.ins C d fs))(k:Keep [r] H H'):TbF t H':=by
 obtain⟨ps,hT,h⟩:=h
 have ne:∀{b:Addr} {o:HO},H b=some o→(∀C d fs,o≠ .ins C d fs)→H' b=some o:=fun {b o} hb n=>k.k _ _ (λz=>by
  rw[kE.mp z,e]at hb
  exact n _ _ _ (kN hb).symm) hb
 refine⟨ps,ne hT (λ_ _ _ z=>by cases z),?_⟩
 rcases h with h|⟨c,h,hc⟩
 ·exact .inl h
 ·exact .inr ⟨c,h,ne hc (λ_ _ _ z=>by cases z)⟩
noncomputable def Off(t:Adr)(x:Sto)(R:List Addr):Prop:=∀y∈[x.s,x.tm]++(x.a.li::t.bJ::sf x),y∉R
theorem Off.n{R:List Addr}(o:Off t x R){y:Addr}(hy:y∈R):y∉t.bJ::sf x:=λz=>o y (by simp at z ⊢;rcases z with z|z<;>simp[z]) hy
theorem XR.kR(j:XR t H x k sh sr s)(o:Off t x (r::rl))(kk:Keep [r] H H')(hR:RuX t H r rl g):XR t H' x k sh sr s:=by
 obtain⟨C,d,fs,e⟩:=hR.ins
 refine j.keep kk (λy hy z=>o y ?_ (by rw[kE.mp z];exact kU)) (j.tb.keepR e kk)
 have hy:y=x.s∨y=x.tm∨y=x.a.li∨y∈sf x:=by simpa using hy
 rcases hy with h|h|h|h<;>simp[h]
theorem XR.opts(j:XR t H x k sh sr s)(ev:k.ev=false){Q:VK}{E:XK}(kk:∀p rs H',H p=none→XR t H' x k sh sr s→Keep [t.bJ] H H'→H' p=some (.lst rs)→Tls H' rs (s.ots k)→Q (.ref p) H'):spOp t [.ref x.s] H Q E:=by
 obtain⟨m,hs,c,_⟩:=j.e
 refine⟨x,_,_,_,m,s.q,_,rfl,hs,c.ft,λl p rs H' hl np k1 tb1 h1 ty=>kk p rs H' np (j.kT k1 tb1) k1 h1 ?_⟩
 have ty:=qCH ty
 rw[c.br,c.cl]at hl
 rw[qF8 j.w c.br hl,qKU c.cl]at ty
 unfold XS.ots XS.opt
 rw[ev]
 exact ty
theorem yF{H H':Hp}{F:List Addr}(k:Keep F H H'):∀{rs:List V} {ts:List Tl},Tls H rs ts→Tls H' rs ts
 |_,_,.nil=>.nil
 |_,_,.cons ⟨p,e,h⟩ r=>.cons ⟨p,e,k.tp _ _ h⟩ (yF k r)
end
noncomputable def spCh(t:Adr):Sp:=λvs H Q E=>∃x k sh sr s r rl g,vs=[.ref x.s]∧XR t H x k sh sr s∧k.ev=false∧x.ru=.ref r∧RuX t H r rl g∧Off t x (r::rl)∧s.rc.length<1000000∧(match s.tk k g with
 |none=>∀H',XR t H' x k sh sr s→Keep [t.bJ] H H'→E (.ref t.C_NoRoom) none H'
 |some (y,b,g')=>∀p H',Keep [t.bJ,r] H H'→XR t H' x k sh sr s→RuX t H' r rl g'→H' p=some (.tup [.str y,.int (b:Int)])→Q (.ref p) H')
theorem q5E(T:Txt K mg t)(S:Fns K t)(B:BmIn base mg):S.oN.OkE P w mg base 13 (spCh t):=by
 refine S.oN.F.okE q1R (λvs H Q E h=>?_) (λcdv A outer s H vs Q E hr h=>?_)
 ·repeat obtain⟨_,h⟩:=h
  all_goals subst_vars;rfl
 ·obtain⟨x,k,sh,sr,s,r,rl,g,rfl,j,ev,er,hR,of,rc,kk⟩:=h
  refine⟨_,(qB (qT (i:=1) q1R.nd rfl (Or.inl rfl) (j8 (pv 0) T.bK T.fY (vC T S B).mono hr S.eW.b .nil qK)) (qB (jB (qP (q65 hr.units) (pv 1) (jT qD) (qS _)) (qE (q9P jH rfl rfl T.aB1 T.aDD (qA q0Y qD))) qR) (qE (qL (jC (pv 0) T.bK T.i5 (q0W T S).mono hr S.eO.b .nil qK (qA (pv 1) qD)))))),?_⟩
  try dsimp-beta-proj-iota-zeta-eta only[wishK,cxK]
  refine(iV rfl (iM j.o rfl ?_))
  dsimp only[tNil,dM]
  refine j.opts ev λp rs H1 np j1 k1 h1 ty=>?_
  refine⟨_,rfl,sz0,λe6 H6 n6 s6 h6=>⟨p,_,e6,rfl,rfl,SqL.of (s6 _ _ h1),SqL.of h6,_,rfl,?_⟩⟩
  have k6:Keep [t.bJ] H H6:=k1.trans (Keep.same s6)
  have j6:=j1.same s6
  have ln:=ty.len
  unfold XS.tk at kk
  cases rs with
  |nil=>
   have e0:s.opt k=[]:=pT.mp (List.eq_nil_of_length_eq_zero ln.symm)
   rw[kD e0,ev,kB (by decide)]at kk
   exact iteT ⟨sz1,kk H6 j6 k6⟩
  |cons u us=>
   have ne:s.opt k≠[]:=λz=>by
    unfold XS.ots at ln
    rw[z]at ln
    cases ln
   rw[kB ne]at kk
   refine iteF ?_
   obtain⟨m,hs6,c,_⟩:=j6.e
   have oT:=of t.bJ (by simp)
   have hR6:=hR.keep k6 (λy hy z=>oT (by rw[←kE.mp z];exact hy))
   have ne':s.ots k≠[]:=λz=>ne (pT.mp z)
   have okT:∀o∈s.ots k,o.Ok (s.q.P:Int) s.q.nx:=λo ho=>by
    obtain⟨b,hb,rfl⟩:=kP.mp ho
    exact qKV j.w rc (vG.mp hb).1.1.b
   refine(iV rfl (iM hs6.o rfl ⟨_,rfl,x,_,_,_,_,m,s.q,r,rl,g,p,_,_,rfl,hs6,c.ft,er,hR6,s6 _ _ h1,ty.same s6,ne',by unfold XS.ots;rw[hC];exact qJR j.w,okT,qH1,λpp H7 k7 hR7 h7=>?_⟩))
   have cm:=qFA (pg:=(s.q.P:Int)) (nw:=s.q.nx) hR.ok ne'
   refine kk pp H7 ((k6.mono (by simp)).trans (k7.mono (by simp))) (j6.kR of k7 hR6) hR7 ?_
   rw[h7]
   obtain⟨b,hb,e⟩:=kP.mp cm
   obtain⟨c',_,rfl⟩:=kP.mp hb
   have e:(c':Int)=(g.ch (s.q.P:Int) s.q.nx (s.ots k)).1:=e
   rw[←e,kW]
noncomputable def spPp(K:W.Frag):Sp:=λvs H Q _=>∃wy bl wi l1 l2 rs us,vs=[wy,.ref l1,bl,.ref l2,wi]∧H l1=some (.lst rs)∧H l2=some (.lst us)∧∀pa a1 a2 H',Same H H'→H pa=none→H a1=none→H a2=none→a1≠a2→H' pa=some (.tup [wy,.ref a1,bl,.ref a2,wi])→H' a1=some (.lst rs)→H' a2=some (.lst us)→Q (.ref pa) H'
theorem q54(T:Txt K mg t)(S:Fns K t):S.aAD.Ok0 P w mg base 1 (spPp K):=by
 refine S.aAD.F.ok0 qAB λcdv A _ s H vs Q E hr h=>?_
 ·obtain⟨wy,bl,wi,l1,l2,rs,us,rfl,h1,h2,k⟩:=h
  refine⟨_,(qE (qL (yH (qA (pv 0) (qA (zA vE (by rfl) T.aAG (by kernel_rfl) (qA (pv 1) qD)) (qA (pv 2) (qA (zA vE (by rfl) T.aAG (by kernel_rfl) (qA (pv 3) qD)) (qA (pv 4) qD)))))))),?_⟩
  try dsimp-beta-proj-iota-zeta-eta only[wishK,cxK]
  refine⟨_,rfl,_,rfl,l1,rs,rfl,.inl (SqL.of h1),λa1 H1 n1 s1 e1=>?_⟩
  refine⟨_,rfl,_,rfl,l2,us,rfl,.inl (SqL.of (s1 _ _ h2)),λa2 H2 n2 s2 e2=>?_⟩
  refine⟨_,rfl,sz5,λpa H3 n3 s3 e3=>?_⟩
  exact k pa a1 a2 H3 ((s1.trans s2).trans s3) ((s1.trans s2).free n3) n1 (s1.free n2) (qF e1 n2) e3 (s3 _ _ (s2 _ _ e1)) (s3 _ _ e2)
theorem qHD{s:XS}{k:Tm}{b:Nat}{rs:List (List Int)}(w:WX k s)(pm:rs.Perm (lpK s.q.P b s.q.V))(so:rs.Pairwise λa b=>lx b a=false):rs=lvP s.q.P b s.q.V:=by
 refine qH0 w.qs.ok.p1 w.pd ?_ (λkk=>?_) so
 ·refine pm.nodup_iff.mpr ?_
  unfold lpK
  refine g7.mpr (((g7.mp w.qs.ok.nd).imp fun {a c} hne z=>hne ?_).filter _)
  injection z with _ z
  injection z with z _
 ·rw[pm.mem_iff]
  unfold lpK
  rw[kP]
  constructor
  ·rintro⟨y,hy,rfl⟩
   obtain⟨a1,a2⟩:=mI.mp hy
   exact⟨y.1,y.2,rfl,a1,mF a2⟩
  ·rintro⟨n,p,rfl,a1,a2⟩
   exact⟨(n,p),mI.mpr ⟨a1,hG a2⟩,rfl⟩
noncomputable def spMv(t:Adr):Sp:=λvs H Q E=>∃x k sh sr s,∃b:Nat,vs=[.ref x.s,.int (b:Int)]∧XR t H x k sh sr s∧Full k s b∧s.rc.length+100<1000000∧(match XS.mvs (lvP s.q.P b s.q.V) s with
 |(s',none)=>∀H',XR t H' x k sh sr s'→Keep (t.bJ::sf x) H H'→E (.ref t.C_PowerGone) none H'
 |(s',some ms)=>∀ml us H',XR t H' x k sh sr s'→H ml=none→H' ml=some (.lst us)→Paired (TupD H') us ms→Mvd k s b s' (lvP s.q.P b s.q.V).length→(∀y∈s'.q.V,¬y.2 / (s'.q.P:Int)=(b:Int))→Keep (t.bJ::sf x) H H'→Q (.ref ml) H')
theorem q73(T:Txt K mg t)(S:Fns K t)(B:BmIn base mg):S.o6.OkE P w mg base 12 (spMv t):=by
 refine S.o6.F.okE v7 (λvs H Q E h=>?_) (λcdv A outer s H vs Q E hr h=>?_)
 ·repeat obtain⟨_,h⟩:=h
  all_goals subst_vars;rfl
 ·obtain⟨x,k,sh,sr,s,b,rfl,j,fl,rc,kk⟩:=h
  have s9:(99999:Nat)<sizeLine:=by decide
  have spR:=fl.sp j.w
  have l6:=j.w.l6
  refine⟨_,(qB (qT (i:=2) v7.nd rfl (Or.inl rfl) (jT qD)) (qB (uE wZ rfl (jZ (jC (qJ (pv 0) rfl) T.bO T.tV (q3V T S).mono hr S.fU.b .nil qK (qA (pv 1) qD))) (q5Q rfl (jV (qU (i:=3) v7.nd rfl (Or.inl rfl)) (jV (qU (i:=4) v7.nd rfl (Or.inl rfl)) q11))) (qE (qX (q3B gH g0 g5 uR (pv 2) (qA (yH (qA (pv 4) (qA (pv 3) (qA (jW jH (pv 0) T.bK T.o8 (q1O T S B).mono hr S.i9.b .nil (qA (pv 4) (qA (jW jH (pv 0) T.bK T.oI (q1P T S).mono hr S.eU.b .nil (qA (pv 3) (qA (pv 4) qD))) qD))) qD)))) qD q0J))))) (qE (qL (pv 2))))),?_⟩
  try dsimp-beta-proj-iota-zeta-eta only[wishK,cxK]
  refine⟨sz0,λml H1 n1 s1 h1=>?_⟩
  obtain⟨m,hs1,c,_⟩:=(j.same s1).e
  refine(iV rfl (iF hs1.o T.bK T.bM rfl (iM hs1.bk.o rfl ⟨_,rfl,x.k,s.q,b,rfl,hs1.bk,j.w.qs.ok,by lia,λll ps rs H2 s2 n2 h2 pr2 pm so=>?_⟩)))
  obtain rfl:=qHD j.w pm so
  have s02:=s1.trans s2
  have mlF:=j.off n1
  have llF:=(j.same s1).off n2
  have llm:ll≠ml:=(qF h1 n2).symm
  have lps:=pr2.len
  have lr:(lvP s.q.P b s.q.V).length≤16:=by
   have:=j.w.qs.ok.p2
   unfold lvP
   refine kO (dL _ _) ?_
   rw[mG]
   exact this
  refine⟨ll,rfl,⟨_,SqL.of h2⟩,?_⟩
  refine vH (K:=K) (xs:=ps) (λi σ' H'=>∃y3 y4 us s' ms,σ'=[some (.ref x.s),some (.int (b:Int)),some (.ref ml),y3,y4]∧XR t H' x k sh sr s'∧MvI k s b (lvP s.q.P b s.q.V) i s' ms∧H' ml=some (.lst us)∧Paired (TupD H') us ms∧Keep (ml::t.bJ::sf x) H2 H') ⟨_,_,[],s,[],rfl,j.same s02,MvI.zero j.w fl.f,s2 _ _ h1,.nil,Keep.refl⟩ (λi σ' H' hi hp=>?_) (λi v σ' H' hv hp=>?_) (λσ' H' hp=>?_)
  ·obtain⟨y3,y4,us,s',ms,rfl,j',mi,hml,pr,kk'⟩:=hp
   refine SqL.of (kk'.k _ _ (λz=>?_) h2)
   rcases kI.mp z with e|e
   ·exact llm e
   ·exact llF e
  ·obtain⟨y3,y4,us,s',ms,rfl,j',mi,hml,pr,kk'⟩:=hp
   obtain⟨kv,hk,tp,rfl,htp⟩:=Paired.at pr2 hv
   obtain⟨hi,ekv⟩:=kC.mp hk
   obtain⟨n,p,er,hnp,n0,n64⟩:=mi.at hi
   rw[er]at ekv
   subst ekv
   have htp':=kk'.tp _ _ htp
   have rce:=mi.rc
   have rme:=mi.rm
   have kH:∀{G},Keep (t.bJ::sf x) H' G→Keep (t.bJ::sf x) H G:=fun {G} kG=>by
    refine⟨λy o ny e=>kG.k y o ny (kk'.k y o (λz=>?_) (s02 _ _ e)),λy ys e=>kG.tp _ _ (kk'.tp _ _ (s02 _ _ e))⟩
    rcases kI.mp z with z|z
    ·rw[z,n1]at e;cases e
    ·exact ny z
   refine⟨tp,_,rfl,SqT.of htp',rfl,_,_,rfl,_,_,rfl,rfl,?_⟩
   refine⟨_,rfl,.inl ⟨rfl,_,SqL.of hml⟩,_,rfl,_,rfl,iV rfl (iM j'.o rfl ⟨_,rfl,iV rfl (iM j'.o rfl ⟨_,rfl,_,rfl,x,k,sh,sr,s',n,p,rfl,j',hnp,λdk=>?_,λH3 s3=>?_⟩)⟩)⟩
   ·rw[mi.dark hi dk]at kk
    exact kk H' j' (kH Keep.refl)
   dsimp only[tNil,rQ,dM,gK]
   have hml3:=s3 _ _ hml
   refine(j'.same s3).set n0 n64 (by lia) (by rw[mi.eP];lia) (.inl ⟨p,hnp⟩) (λdk H5 j5 k5=>?_) (λdk H5 j5 k5=>?_)
   ·rw[mi.dark hi dk]at kk
    exact kk H5 j5 (kH ((Keep.same s3).trans k5))
   have hml5:=k5.k _ _ mlF hml3
   refine⟨sz3,λtu H6 n6 s6 h6=>⟨ml,us,_,rfl,rfl,s6 _ _ hml5,by have:=pr.len;have:=mi.l;lia,?_⟩⟩
   have hml6:=s6 _ _ hml5
   have k7:=Keep.upd (F:=[ml]) (o:=.lst (us++[.ref tu])) hml6 (λ_ z=>by cases z) (by simp)
   have hml7:(upd H6 ml (.lst (us++[.ref tu]))) ml=_:=qH
   have j7:=(j5.same s6).lst (o:=.lst (us++[.ref tu])) hml6 mlF
   generalize upd H6 ml (.lst (us++[.ref tu]))=H7 at k7 hml7 j7 ⊢
   have kA:Keep (ml::t.bJ::sf x) H' H7:=(((Keep.same s3).trans (k5.mono (λy hy=>hU _ hy))).trans (Keep.same s6)).trans (k7.mono (by simp))
   exact⟨some (.int p),some (.int n),us++[.ref tu],_,_,rfl,j7,mi.step q6M hi spR dk er,hml7,L2.Paired.snoc (Paired.mapP pr λv d ⟨p',e',h'⟩=>⟨p',e',kA.tp _ _ h'⟩) ⟨tu,rfl,k7.tp _ _ h6⟩,kk'.trans kA⟩
  obtain⟨y3,y4,us,s',ms,rfl,j',mi,hml,pr,kk'⟩:=hp
  rw[lps]at mi
  obtain⟨e,nl⟩:=mi.fin rfl
  rw[e]at kk
  have kH:Keep (t.bJ::sf x) H H':=by
   refine⟨λy o ny e=>kk'.k y o (λz=>?_) (s02 _ _ e),λy ys e=>kk'.tp _ _ (s02 _ _ e)⟩
   rcases kI.mp z with z|z
   ·rw[z,n1]at e;cases e
   ·exact ny z
  exact⟨_,rfl,kk ml us H' j' n1 hml pr (mi.mvd (kM _)) nl kH⟩
noncomputable abbrev fx(t:Adr)(x:Sto)(r pp:Addr):List Addr:=pp::r::t.bJ::sf x
noncomputable def PapA(H:Hp)(F:List Addr)(v:V)(p:Pa):Prop:=∃pa l1 l2 us rs,v=.ref pa∧H pa=some (.tup [.str p.why,.ref l1,.int (p.b:Int),.ref l2,.bl true])∧H l1=some (.lst rs)∧Tls H rs p.ts∧H l2=some (.lst us)∧Paired (TupD H) us p.mv∧l1∉F∧l2∉F
theorem PapA.keep{H H':Hp}{F G:List Addr}{v:V}{p:Pa}(h:PapA H F v p)(k:Keep G H H')(s:∀y∈G,y∈F):PapA H' F v p:=by
 obtain⟨pa,l1,l2,us,rs,e,a,b,c,d,f,g1,g2⟩:=h
 exact⟨pa,l1,l2,us,rs,e,k.tp _ _ a,k.k _ _ (λz=>g1 (s _ z)) b,yF k c,k.k _ _ (λz=>g2 (s _ z)) d,Paired.mapP f λv d ⟨p',e',h'⟩=>⟨p',e',k.tp _ _ h'⟩,g1,g2⟩
structure XX(t:Adr)(H:Hp)(x:Sto)(k:Tm)(sh sr:Int)(r:Addr)(rl:List Addr)(pp:Addr)(X:Sx):Prop where
 j:XR t H x k sh sr X.s
 er:x.ru=.ref r
 ru:RuX t H r rl X.g
 of:Off t x (r::rl)
 ep:x.pa=.ref pp
 hp:∃ps,H pp=some (.lst ps)∧Paired (PapA H (fx t x r pp)) ps X.ps
 np:pp∉t.bJ::sf x
 nr:pp∉r::rl
section
variable{H H':Hp}{x:Sto}{k:Tm}{sh sr:Int}{r:Addr}{rl:List Addr}{pp:Addr}{X:Sx}
theorem XX.kT(h:XX t H x k sh sr r rl pp X)(kk:Keep [t.bJ] H H')(tb:TbF t H'):XX t H' x k sh sr r rl pp X:=by
 obtain⟨ps,h1,h2⟩:=h.hp
 have oT:=h.of t.bJ (by simp)
 exact⟨h.j.kT kk tb,h.er,h.ru.keep kk (λy hy z=>oT (by rw[←kE.mp z];exact hy)),h.of,h.ep,⟨ps,kk.k _ _ (λz=>h.np (by rw[kE.mp z];simp)) h1,Paired.mapP h2 λ_ _ z=>z.keep kk (by simp)⟩,h.np,h.nr⟩
theorem XX.same(h:XX t H x k sh sr r rl pp X)(s:Same H H'):XX t H' x k sh sr r rl pp X:=h.kT (Keep.same s) (h.j.tb.same s)
theorem XX.on(h:XX t H x k sh sr r rl pp X){s:XS}(kk:Keep (t.bJ::sf x) H H')(j:XR t H' x k sh sr s):XX t H' x k sh sr r rl pp ⟨s,X.g,X.ps⟩:=by
 obtain⟨ps,h1,h2⟩:=h.hp
 exact⟨j,h.er,h.ru.keep kk (λy hy=>h.of.n hy),h.of,h.ep,⟨ps,kk.k _ _ h.np h1,Paired.mapP h2 λ_ _ z=>z.keep kk (by intro y hy;simp at hy ⊢;rcases hy with e|e<;>simp[e])⟩,h.np,h.nr⟩
end
noncomputable def rfE(t:Adr)(e:Rf)(E:XK)(H:Hp):Prop:=match e with
 | .dark=>E (.ref t.C_PowerGone) none H
 | .room=>E (.ref t.C_NoRoom) none H
noncomputable def PapN(H6 H:Hp)(v:V)(p:Pa):Prop:=∃pa c1 c2 us rs,v=.ref pa∧H6 pa=none∧H6 c1=none∧H6 c2=none∧c1≠c2∧H pa=some (.tup [.str p.why,.ref c1,.int (p.b:Int),.ref c2,.bl true])∧H c1=some (.lst rs)∧Tls H rs p.ts∧H c2=some (.lst us)∧Paired (TupD H) us p.mv
noncomputable def qL6(t:Adr):Sp:=λvs H Q E=>∃x k sh sr r rl pp X,vs=[.ref x.s]∧XX t H x k sh sr r rl pp X∧k.ev=false∧X.s.rc.length+200<1000000∧X.ps.length<90000∧(match X.room k with
 |(Y,.error e)=>∀H',XX t H' x k sh sr r rl pp Y→Keep (fx t x r pp) H H'→rfE t e E H'
 |(Y,.ok p)=>∀v H6 H',XX t H6 x k sh sr r rl pp Y→Keep (fx t x r pp) H H6→Same H6 H'→PapN H6 H' v p→Q v H')
theorem zS(T:Txt K mg t)(S:Fns K t)(B:BmIn base mg):S.fG.OkE P w mg base 14 (qL6 t):=by
 refine S.fG.F.okE yE (λvs H Q E h=>?_) (λcdv A outer s H vs Q E hr h=>?_)
 ·repeat obtain⟨_,h⟩:=h
  all_goals subst_vars;rfl
 ·obtain⟨x,k,sh,sr,r,rl,pp,X,rfl,h,ev,rc,lp,kk⟩:=h
  have s9:(99999:Nat)<sizeLine:=by decide
  refine⟨_,(qB (qT (i:=1) yE.nd rfl (Or.inl rfl) (j8 (pv 0) T.bK T.fY (vC T S B).mono hr S.eW.b .nil qK)) (qB (qT (i:=2) yE.nd rfl (Or.inl rfl) (uS jH (pv 0) T.bK T.aA2 (q5E T S B).mono hr S.oN.b .nil)) (qB (qT (i:=3) yE.nd rfl (Or.inl rfl) (jW jH (pv 0) T.bK T.aBF (q73 T S B).mono hr S.o6.b .nil (qA (qW jI (pv 2) qI (λ_ _=>rfl)) qD))) (qB (qT (i:=4) yE.nd rfl (Or.inl rfl) (jW jH (pv 0) T.bK T.aBL (q71 T S).mono hr S.o9.b .nil (qA (qW jI (pv 2) qI (λ_ _=>rfl)) qD))) (qB (qX (q3B gH g0 g5 uR (qJ (pv 0) rfl) (qA (qY (q54 T S).mono hr rfl T.aAL T.aAX S.aAD.b .nil qK (qA (qW jI (pv 2) qI (λ_ _=>rfl)) (qA (pv 1) (qA (qW jI (pv 2) qI (λ_ _=>rfl)) (qA (pv 3) (qA (pv 4) qD)))))) qD))) (qE (qL (qY (q54 T S).mono hr rfl T.aAL T.aAX S.aAD.b .nil qK (qA (qW jI (pv 2) qI (λ_ _=>rfl)) (qA (pv 1) (qA (qW jI (pv 2) qI (λ_ _=>rfl)) (qA (pv 3) (qA (pv 4) qD))))))))))))),?_⟩
  try dsimp-beta-proj-iota-zeta-eta only[wishK,cxK]
  refine(iV rfl (iM h.j.o rfl ?_))
  dsimp only[tNil,dM]
  refine h.j.opts ev λop rs H1 np j1 k1 h1 ty=>?_
  have h1':=h.kT k1 j1.tb
  have mT:∀y∈[t.bJ],y∈fx t x r pp:=by simp
  refine(iV rfl (iM j1.o rfl ⟨x,k,sh,sr,X.s,r,rl,X.g,rfl,j1,ev,h.er,h1'.ru,h.of,by lia,?_⟩))
  unfold Sx.room at kk
  cases htk:X.s.tk k X.g with
  |none=>
   rw[htk]at kk
   exact λH2 j2 k2=>kk H2 (h1'.kT k2 j2.tb) ((k1.mono mT).trans (k2.mono mT))
  |some ybg=>
   obtain⟨y,b,g'⟩:=ybg
   rw[htk]at kk
   have fb:=q34 h.ru.ok htk
   refine λcp H2 k2 j2 hR2 h2=>?_
   have m2:∀y∈[t.bJ,r],y∈fx t x r pp:=by simp
   have mS:∀y∈t.bJ::sf x,y∈fx t x r pp:=λy hy=>hU _ (hU _ hy)
   have k02:Keep (fx t x r pp) H H2:=(k1.mono mT).trans (k2.mono m2)
   have npr:pp∉r::t.bJ::sf x:=λz=>(kI.mp z).elim (λe=>h.nr (by rw[e];exact kU)) h.np
   have np2:pp∉[t.bJ,r]:=λz=>npr (by simp at z ⊢;rcases z with z|z<;>simp[z])
   obtain⟨ps,hp0,hpp0⟩:=h.hp
   have lps:=hpp0.len
   have h2':XX t H2 x k sh sr r rl pp ⟨X.s,g',X.ps⟩:=⟨j2,h.er,hR2,h.of,h.ep,⟨ps,k2.k _ _ np2 (k1.k _ _ (λz=>h.np (by rw[kE.mp z];simp)) hp0),Paired.mapP hpp0 λ_ _ z=>(z.keep k1 mT).keep k2 m2⟩,h.np,h.nr⟩
   have opn:=h.j.off np
   obtain⟨C0,d0,f0,er0⟩:=h.ru.ins
   have opr:op≠r:=λz=>by rw[z,er0]at np;cases np
   have opp:op≠pp:=λz=>by rw[z,hp0]at np;cases np
   have opH2:H2 op=some (.lst rs):=k2.k _ _ (λz=>by
    have z:op=t.bJ∨op=r:=by simpa using z
    rcases z with z|z
    ·exact opn (by rw[z];simp)
    ·exact opr z) h1
   refine(iV rfl (iM j2.o rfl ⟨_,rfl,iT (k:=1) (v:=.int (b:Int)) (SqT.of h2) rfl ⟨x,k,sh,sr,X.s,b,rfl,j2,fb,by lia,?_⟩⟩))
   cases hmv:XS.mvs (lvP X.s.q.P b X.s.q.V) X.s with
   |mk s o=>
    dsimp only at kk
    rw[hmv]at kk
    cases o with
    |none=>exact λH3 j3 k3=>kk H3 (h2'.on k3 j3) (k02.trans (k3.mono mS))
    |some ms=>
     refine λml us H3 j3 nm hml prm md nl k3=>?_
     dsimp only at kk
     have h3:=k3.tp _ _ h2
     have mrc:=md.rc
     have l16:(lvP X.s.q.P b X.s.q.V).length≤16:=by
      have:=h.j.w.qs.ok.p2
      unfold lvP
      refine kO (dL _ _) ?_
      rw[mG]
      exact this
     refine(iV rfl (iM j3.o rfl ⟨_,rfl,iT (k:=1) (v:=.int (b:Int)) (SqT.of h3) rfl ⟨x,k,sh,sr,s,b,rfl,j3,by rw[md.eB];exact fb.b,by rw[md.eP];exact md.fb,by lia,nl,λdk=>?_,λdk H4 j4 k4=>⟨rfl,?_⟩⟩⟩))
     ·rw[kD dk]at kk
      exact kk H3 (h2'.on k3 j3) (k02.trans (k3.mono mS))
     rw[kB dk]at kk
     have k34:Keep (t.bJ::sf x) H2 H4:=k3.trans k4
     have h4x:=h2'.on k34 j4
     obtain⟨ps4,hpp4,prp4⟩:=h4x.hp
     have lps4:=prp4.len
     have hR4:=h4x.ru
     obtain⟨C4,d4,f4,er4⟩:=hR4.ins
     have h4:=k34.tp _ _ h2
     have hop4:=k34.k _ _ opn opH2
     have mln:=j2.off nm
     have hml4:=k4.k _ _ mln hml
     have o4:=j4.o
     rw[h.ep]at o4
     refine(iV rfl (iF o4 T.bK T.fB rfl ⟨.inl ⟨rfl,_,SqL.of hpp4⟩,_,rfl,iT (k:=0) (v:=_) (SqT.of h4) rfl ⟨_,rfl,_,rfl,iT (k:=1) (v:=_) (SqT.of h4) rfl ⟨_,rfl,_,rfl,.str y,.int (b:Int),.bl true,op,ml,rs,us,rfl,hop4,hml4,λpa a1 a2 H5 s5 npa na1 na2 n12 e5 e51 e52=>⟨pp,ps4,_,rfl,rfl,s5 _ _ hpp4,by simp only at lps4;lia,?_⟩⟩⟩⟩))
     have hpp5:=s5 _ _ hpp4
     have k6:=Keep.upd (F:=[pp]) (o:=.lst (ps4++[.ref pa])) hpp5 (λ_ z=>by cases z) (by simp)
     have hpp6:(upd H5 pp (.lst (ps4++[.ref pa]))) pp=_:=qH
     have j6:=(j4.same s5).lst (o:=.lst (ps4++[.ref pa])) hpp5 h.np
     generalize upd H5 pp (.lst (ps4++[.ref pa]))=H6 at k6 hpp6 j6 ⊢
     have m6:∀y∈[pp],y∈fx t x r pp:=by simp
     have npp:∀{y:Addr},H4 y=none→y∉[pp]:=fun {y} e z=>by
      rw[kE.mp z,hpp4]at e
      cases e
     have inF:∀{y:Addr},H4 y=none→y∉fx t x r pp:=fun {y} e z=>by
      rcases kI.mp z with z|z
      ·rw[z,hpp4]at e;cases e
      ·rcases kI.mp z with z|z
       ·rw[z,er4]at e;cases e
       ·exact(j4.off e) z
     have opp6:op∉[pp]:=λz=>opp (kE.mp z)
     have mlp:ml∉[pp]:=λz=>by
      obtain⟨ps2,e2,_⟩:=h2'.hp
      rw[kE.mp z,e2]at nm
      cases nm
     refine⟨_,rfl,iT (k:=0) (v:=_) (SqT.of (k6.tp _ _ (s5 _ _ h4))) rfl ⟨_,rfl,_,rfl,iT (k:=1) (v:=_) (SqT.of (k6.tp _ _ (s5 _ _ h4))) rfl ⟨_,rfl,_,rfl,.str y,.int (b:Int),.bl true,op,ml,rs,us,rfl,k6.k _ _ opp6 (s5 _ _ hop4),k6.k _ _ mlp (s5 _ _ hml4),λpb c1 c2 H7 s7 npb nc1 nc2 n12' e7 e71 e72=>?_⟩⟩⟩
     have k46:Keep [pp] H4 H6:=(Keep.same s5).trans k6
     have k06:Keep (fx t x r pp) H H6:=(k02.trans (k34.mono mS)).trans (k46.mono m6)
     have ty6:Tls H6 rs (X.s.ots k):=yF k46 (yF k34 (yF k2 ty))
     have prm6:Paired (TupD H6) us ms:=Paired.mapP prm λv d ⟨p',e',h'⟩=>⟨p',e',k46.tp _ _ (k4.tp _ _ h')⟩
     exact kk (.ref pb) H6 H7 ⟨j6,h.er,(hR4.keep k46 (λy hy z=>h.nr (by rw[←kE.mp z];exact hy))),h.of,h.ep,⟨ps4++[.ref pa],hpp6,L2.Paired.snoc (Paired.mapP prp4 λ_ _ z=>z.keep k46 m6) ⟨pa,a1,a2,us,rs,rfl,k6.tp _ _ e5,k6.k _ _ (npp na1) e51,ty6,k6.k _ _ (npp na2) e52,prm6,inF na1,inF na2⟩⟩,h.np,h.nr⟩ k06 s7 ⟨pb,c1,c2,us,rs,rfl,npb,nc1,nc2,n12',e7,e71,yF (Keep.same s7) (F:=[]) ty6,e72,jA prm6 s7⟩
noncomputable def spMr(t:Adr):Sp:=λvs H Q E=>∃x k sh sr r rl pp X,∃i Z,vs=[.ref x.s]∧XX t H x k sh sr r rl pp X∧k.ev=false∧X.s.rc.length+100*i+200<1000000∧X.ps.length+i<90000∧X.rooms k i=some Z∧(match Z with
 |(Y,.error e)=>∀H',XX t H' x k sh sr r rl pp Y→Keep (fx t x r pp) H H'→rfE t e E H'
 |(Y,.ok _)=>∀H',XX t H' x k sh sr r rl pp Y→Keep (fx t x r pp) H H'→Q .non H')
theorem q39(T:Txt K mg t)(S:Fns K t)(B:BmIn base mg):S.fN.OkE P w mg base 15 (spMr t):=by
 refine S.fN.F.okE q36 (λvs H Q E h=>?_) (λcdv A outer s H vs Q E hr h=>?_)
 ·repeat obtain⟨_,h⟩:=h
  all_goals subst_vars;rfl
 ·obtain⟨x,k,sh,sr,r,rl,pp,X,i,Z,rfl,h,ev,rc,lp,hZ,kk⟩:=h
  refine⟨_,(qE (q9I wZ (yL (jS (j8 (pv 0) T.bK T.aBD (q6Y T S B).mono hr S.tJ.b .nil qK))) (qE (qX (uS jH (pv 0) T.bK T.iS (zS T S B).mono hr S.fG.b .nil))))),?_⟩
  try dsimp-beta-proj-iota-zeta-eta only[wishK,cxK]
  refine⟨λn σ' H2=>σ'=[some (.ref x.s)]∧∃Y,XX t H2 x k sh sr r rl pp Y∧Keep (fx t x r pp) H H2∧Y.rooms k n=some Z∧Y.s.rc.length+100*n+200<1000000∧Y.ps.length+n<90000,⟨i,rfl,X,h,Keep.refl,hZ,rc,lp⟩,?_⟩
  rintro n σ' H2 ⟨rfl,Y,hY,k2,eY,rcY,lpY⟩
  obtain⟨m,hs,c,_⟩:=hY.j.e
  have mT:∀y∈[t.bJ],y∈fx t x r pp:=by simp
  refine(iV rfl (iM hs.o rfl ⟨x,_,_,_,m,Y.s.q,_,rfl,hs,c.ft,λl H3 hl k3 tb3=>⟨_,rfl,?_⟩⟩))
  rw[c.br,c.cl]at hl
  rw[c.br,qJQ hY.j.w hl]
  have hY3:=hY.kT k3 tb3
  have k03:=k2.trans (k3.mono mT)
  cases n with
  |zero=>
   unfold Sx.rooms at eY
   cases z:Y.s.rd k with
   |false=>rw[z,kB (by decide)]at eY;cases eY
   |true=>
    rw[z,kD rfl]at eY
    cases eY
    exact iteF (kk H3 hY3 k03)
  |succ n=>
   unfold Sx.rooms at eY
   cases z:Y.s.rd k with
   |true=>
    rw[z,kD rfl]at eY
    cases eY
    exact iteF (kk H3 hY3 k03)
   |false=>
    rw[z,kB (by decide)]at eY
    refine iteT ⟨_,λ_ _ z=>z,?_⟩
    refine(iV rfl (iM hY3.j.o rfl ⟨x,k,sh,sr,r,rl,pp,Y,rfl,hY3,ev,by lia,by lia,?_⟩))
    cases hr':Y.room k with
    |mk W o=>
     rw[hr']at eY
     cases o with
     |error e=>
      cases eY
      exact λH4 h4 k4=>kk H4 h4 (k03.trans k4)
     |ok p=>
      obtain⟨r1,r2⟩:=qA6 hY.j.w hY.ru.ok hr'
      exact λv H6 H4 h6 k6 s4 _=>⟨n,rP _,rfl,W,h6.same s4,k03.trans (k6.trans (Keep.same s4)),eY,by lia,by lia⟩
theorem vV(T:Txt K mg t)(S:Fns K t)(B:BmIn base mg):S.eT.OkE P w mg base 16 (spMr t):=by
 refine S.eT.F.okE q35 (λvs H Q E h=>?_) (λcdv A outer s H vs Q E hr h=>?_)
 ·repeat obtain⟨_,h⟩:=h
  all_goals subst_vars;rfl
 ·obtain⟨x,k,sh,sr,r,rl,pp,X,i,Z,rfl,h⟩:=h
  refine⟨_,(qE (qX (uS jH (pv 0) T.bK T.tL (q39 T S B).mono hr S.fN.b .nil))),?_⟩
  try dsimp-beta-proj-iota-zeta-eta only[wishK,cxK]
  exact(iV rfl (iM h.1.j.o rfl ⟨x,k,sh,sr,r,rl,pp,X,i,Z,rfl,h⟩))
noncomputable def qL7(t:Adr):Sp:=λvs H Q E=>∃x k sh sr r rl pp X,∃n v:Int,∃i Z,vs=[.ref x.s,.int n,.int v]∧XX t H x k sh sr r rl pp X∧k.ev=false∧X.s.rc.length+100*i+300<1000000∧X.ps.length+i<90000∧sh≤64∧inB (.int n) 0 (sh-1)=true∧inB (.int v) 0 (10 ^ 30-1)=true∧¬(hold X.s.q n=false∧sr≤((hdN X.s.q.V).length:Int))∧((∃p,(n,p)∈X.s.q.V)∨X.s.q.V.length<59)∧X.ask k i n v=some Z∧(match Z with
 |(Y,.error e)=>∀H',XX t H' x k sh sr r rl pp Y→Keep (fx t x r pp) H H'→rfE t e E H'
 |(Y,.ok p)=>∀H',XX t H' x k sh sr r rl pp Y→Keep (fx t x r pp) H H'→Q (.int (p:Int)) H')
theorem XX.lay{H H2:Hp}{x:Sto}{k:Tm}{sh sr:Int}{r:Addr}{rl:List Addr}{pp:Addr}{X Y:Sx}{i:Nat}{n v:Int}{Z:Sx×Except Rf Nat}(h:XX t H x k sh sr r rl pp X)(rc:X.s.rc.length+100*i+300<1000000)(hl:(∃p,(n,p)∈X.s.q.V)∨X.s.q.V.length<59)(hZ:X.ask k i n v=some Z)(hY:X.rooms k i=some (Y,.ok ()))(n0:0≤n)(n1:n≤64)(h2:XX t H2 x k sh sr r rl pp Y){Q:VK}{E:XK}
 (kk:match Z with
  |(Y,.error e)=>∀H',XX t H' x k sh sr r rl pp Y→Keep (t.bJ::sf x) H2 H'→rfE t e E H'
  |(Y,.ok p)=>∀H',XX t H' x k sh sr r rl pp Y→Keep (t.bJ::sf x) H2 H'→Q (.int (p:Int)) H'):qCE t [.ref x.s,.int n,.int v] H2 Q E:=by
 obtain⟨_,_,kp,r1,_,rd⟩:=q0Q h.j.w h.ru.ok hY
 have rd:=mF (rd rfl)
 rw[rN,rO]at rd
 unfold Sx.ask at hZ
 rw[hY]at hZ
 dsimp only at hZ
 refine h2.j.set n0 n1 (by lia) (by lia) ?_ (λdk H' j' k'=>?_) (λdk H' j' k'=>?_)
 ·rw[kp.lV]
  exact hl.imp (λz=>(kp.nm n).mpr z) id
 ·rw[kD dk]at hZ
  cases hZ
  exact kk H' (h2.on k' j') k'
 ·rw[kB dk]at hZ
  cases hZ
  exact kk H' (h2.on k' j') k'
theorem q74(T:Txt K mg t)(S:Fns K t)(B:BmIn base mg):S.o7.OkE P w mg base 17 (qL7 t):=by
 refine S.o7.F.okE q6O (λvs H Q E h=>?_) (λcdv A outer s H vs Q E hr h=>?_)
 ·repeat obtain⟨_,h⟩:=h
  all_goals subst_vars;rfl
 ·obtain⟨x,k,sh,sr,r,rl,pp,X,n,v,i,Z,rfl,h,ev,rc,lp,sh64,z,w,ff,hl,hZ,kk⟩:=h
  obtain⟨m,hs,c,_⟩:=h.j.e
  refine⟨_,(qB (qX (jC (pv 0) T.bK T.fX (vL T S).mono hr S.eL.b .nil qK (qA (pv 1) qD))) (qB (jB (yL (jS (qY (qAG T S).mono hr rfl T.aCO T.aCT S.aBV.b .nil qK (qA (pv 2) qD)))) (qE jG) qR) (qB (qX (jC (pv 0) T.bK T.tF (q2S T S).mono hr S.fJ.b .nil qK (qA (pv 1) qD))) (qB (qX (uS jH (pv 0) T.bK T.iE (vV T S B).mono hr S.eT.b .nil)) (qE (qL (jW jH (pv 0) T.bK T.o8 (q1O T S B).mono hr S.i9.b .nil (qA (pv 1) (qA (pv 2) qD))))))))),?_⟩
  try dsimp-beta-proj-iota-zeta-eta only[wishK,cxK]
  refine(iV rfl (iM hs.o rfl ⟨_,rfl,x,.int sr,_,_,m,X.s.q,.int n,sh,rfl,hs,.int _,?_⟩))
  rw[kD z]
  obtain⟨n',e,n0,n1⟩:=qG7 z
  injection e with e
  subst e
  refine⟨_,rfl,.int v,rfl,.int _,_,rfl,?_⟩
  rw[w]
  refine iteF ?_
  refine(iV rfl (iM hs.o rfl ⟨_,rfl,x,.int sh,_,_,m,X.s.q,n,sr,rfl,hs,c.ft,hd64 h.j.w,λH1 s1=>?_⟩))
  rw[kB ff]
  have h1:=h.same s1
  have hZ':=hZ
  unfold Sx.ask at hZ'
  cases hR:X.rooms k i with
  |none=>rw[hR]at hZ';cases hZ'
  |some YR=>
   obtain⟨Y,o⟩:=YR
   refine(iV rfl (iM h1.j.o rfl ⟨x,k,sh,sr,r,rl,pp,X,i,(Y,o),rfl,h1,ev,by lia,lp,hR,?_⟩))
   rw[hR]at hZ'
   cases o with
   |error e=>
    cases hZ'
    exact λH2 h2 k2=>kk H2 h2 ((Keep.same s1).trans k2)
   |ok u=>
    refine λH2 h2 k2=>?_
    refine(iV rfl (iM h2.j.o rfl ⟨_,rfl,_,rfl,?_⟩))
    dsimp only[tNil,rQ,dM,gK]
    refine h.lay rc hl hZ hR n0 (by lia) h2 ?_
    have mS:∀y∈t.bJ::sf x,y∈fx t x r pp:=λy hy=>hU _ (hU _ hy)
    obtain⟨W,o⟩:=Z
    cases o with
    |error e=>exact λH3 h3 k3=>kk H3 h3 (((Keep.same s1).trans k2).trans (k3.mono mS))
    |ok p=>exact λH3 h3 k3=>kk H3 h3 (((Keep.same s1).trans k2).trans (k3.mono mS))
theorem XR.forg{H H':Hp}{x:Sto}{k:Tm}{sh sr:Int}{s:XS}(j:XR t H x k sh sr s)(n:Int)(hb:∀{m},StAt t H x (.int sh) (.int sr) (.int (k.ie:Int)) (.int k.sp) m s.q→BkAt t H' x.k (s.q.forget n))(kb:Keep (bf x.k) H H'):XR t H' x k sh sr (s.forg n):=by
 obtain⟨m,st,c,pg⟩:=j.e
 exact⟨⟨m,st.note (hb st) kb,⟨⟨c.ft.ok,c.ft.oq.forget n,c.ft.eB,c.ft.eP⟩,c.br,c.li,c.mo,c.cl,c.lf,c.rc⟩,pg.keep kb⟩,j.w.forg n⟩
noncomputable def spGu(t:Adr):Sp:=λvs H Q E=>∃x k sh sr r rl pp X,∃l0:Addr,∃ss:List Int,vs=[.ref x.s,.ref l0]∧XX t H x k sh sr r rl pp X∧k.ev=false∧H l0=some (.lst (ss.map V.int))∧(∀n∈ss,inB (.int n) 0 (sh-1)=true)∧(gvn X.s.hl ss=[]→∀H',Same H H'→Q (.int 0) H')∧(gvn X.s.hl ss≠[]→∃i Z,X.s.rc.length+100*i+300<1000000∧X.ps.length+i<90000∧((∃p,((64:Int),p)∈X.s.q.V)∨X.s.q.V.length<59)∧X.ask k i 64 (XS.bits (rst X.s.hl (gvn X.s.hl ss)))=some Z∧(match Z with
 |(Y,.error e)=>∀H',XX t H' x k sh sr r rl pp Y→Keep (fx t x r pp) H H'→rfE t e E H'
 |(Y,.ok p)=>∀H',XX t H' x k sh sr r rl pp ⟨Y.s.forgs (gvn X.s.hl ss),Y.g,Y.ps⟩→Keep (fx t x r pp) H H'→Q (.int ((gvn X.s.hl ss).length:Nat)) H'))
theorem q4X(T:Txt K mg t)(S:Fns K t)(B:BmIn base mg):S.iZ.OkE P w mg base 17 (spGu t):=by
 refine S.iZ.F.okE yQ (λvs H Q E h=>?_) (λcdv A outer s H vs Q E hr h=>?_)
 ·repeat obtain⟨_,h⟩:=h
  all_goals subst_vars;rfl
 ·obtain⟨x,k,sh,sr,r,rl,pp,X,l0,ss,rfl,h,ev,hl0,hin,kn,kk⟩:=h
  have s9:(99999:Nat)<sizeLine:=by decide
  obtain⟨m,hs,c,_⟩:=h.j.e
  refine⟨_,(qB (uE wZ rfl (jZ (pv 1)) (qU (i:=2) yQ.nd rfl (Or.inl rfl)) (qE (qX (jC (pv 0) T.bK T.fX (vL T S).mono hr S.eL.b .nil qK (qA (pv 2) qD))))) (qB (qT (i:=3) yQ.nd rfl (Or.inl rfl) (j8 (pv 0) T.bK T.oG (q0E T S).mono hr S.iU.b .nil qK)) (qB (qT (i:=4) yQ.nd rfl (Or.inr rfl) (u9 ["sheets","sheet"] [1] rfl (jZ (pv 3)) (λ_ _ _ _ _=>(qU (i:=1) (show List.Nodup (["sheets","sheet"]:List Str)from by decide) rfl (Or.inl rfl))) (λ_ _ _ _ _=>(uL (qP (qAY (K:=K) rfl) (pv 1) (pv 0) rfl))) (λ_ _ _ _ _=>(pv 1)) (by kernel_rfl) (jX (by decide)))) (qB (jB (qP (q65 hr.units) (pv 4) (jT qD) (qS _)) (qE (qL qI)) qR) (qB (qX (uS jH (pv 0) T.bK T.iE (vV T S B).mono hr S.eT.b .nil)) (qB (qX (jW jH (pv 0) T.bK T.o8 (q1O T S B).mono hr S.i9.b .nil (qA (q0Z rfl T.aCQ ⟨_,rfl⟩ (v:=.int 64)) (qA (qY (q6X T S).mono hr rfl T.aA9 T.aBA S.aBH.b .nil qK (qA (u9 ["gone","sheet"] [4] rfl (jZ (pv 3)) (λ_ _ _ _ _=>(qU (i:=1) (show List.Nodup (["gone","sheet"]:List Str)from by decide) rfl (Or.inl rfl))) (λ_ _ _ _ _=>(uL (qP (q77 (K:=K) rfl) (pv 1) (pv 0) rfl))) (λ_ _ _ _ _=>(pv 1)) (by kernel_rfl) (jX (by decide))) qD)) qD)))) (qB (uE wZ rfl (jZ (pv 4)) (qU (i:=2) yQ.nd rfl (Or.inl rfl)) (qE (qX (jC (qJ (pv 0) rfl) T.bO T.tM (q2R T S).mono hr S.i3.b .nil qK (qA (pv 2) qD))))) (qE (qL (j9 jK (by rfl) T.tY gZ (qA (pv 4) qD))))))))))),?_⟩
  try dsimp-beta-proj-iota-zeta-eta only[wishK,cxK]
  refine⟨_,rfl,l0,rfl,⟨_,SqL.of hl0⟩,?_⟩
  refine vH (K:=K) (xs:=ss.map V.int) (λi σ' H2=>∃y,σ'=[some (.ref x.s),some (.ref l0),y,none,none]∧H=H2) ⟨_,rfl,rfl⟩ (λi σ' H2 hi hp=>?_) (λi v σ' H2 hv hp=>?_) (λσ' H2 hp=>?_)
  ·obtain⟨y,rfl,rfl⟩:=hp
   exact SqL.of hl0
  ·obtain⟨y,rfl,rfl⟩:=hp
   rw[mC]at hv
   obtain⟨n,hw,rfl⟩:=mK.mp hv
   refine(iV rfl (iM hs.o rfl ⟨_,rfl,x,_,_,_,m,X.s.q,.int n,sh,rfl,hs,.int _,?_⟩))
   rw[kD (hin n (gE hw))]
   exact⟨_,rfl,rfl⟩
  obtain⟨y,rfl,rfl⟩:=hp
  refine(iV rfl (iM hs.o rfl ⟨x,.int sh,_,_,_,m,X.s.q,rfl,hs,c.ft,hd64 h.j.w,λhl ns H1 hn s1 n1 h1=>?_⟩))
  have l64:ns.length<64:=by rw[hn.pm.length_eq];exact hd64 h.j.w
  obtain rfl:=qFQ hn
  refine⟨_,rfl,hl,rfl,⟨_,SqL.of h1⟩,λD H2 nD s2 hD=>?_⟩
  refine uW (K:=K) (xs:=X.s.hl.map V.int) (D:=D) (λi H3=>Same H1 H3∧H3 D=some (.lst ((gvn (X.s.hl.take i) ss).map V.int))) ⟨s2,hD⟩ (λi H3 hp=>SqL.of (hp.1 _ _ h1)) (λi v H3 hv hp=>?_) (λH3 hp=>?_)
  ·obtain⟨sm,hd⟩:=hp
   rw[mC]at hv
   obtain⟨n,hw,rfl⟩:=mK.mp hv
   have hi:=(kC.mp hw).1
   have ev':=(kC.mp hw).2
   refine⟨_,rfl,_,rfl,l0,_,rfl,.inl (SqL.of (sm _ _ (s1 _ _ hl0))),rfl,qCF,_,rfl,?_⟩
   show if inV (.int n) (ss.map V.int)=true then _ else _
   rw[q4G]
   have eg:gvn (X.s.hl.take (i+1)) ss=gvn (X.s.hl.take i) ss++(if n∈ss then[n]else[]):=by
    unfold gvn
    rw[←mH hi,gF,ev',mW]
    by_cases z:n∈ss
    ·rw[hG z,kD z];rfl
    ·rw[hI z,kB z];rfl
   rw[eg]
   by_cases z:n∈ss
   ·rw[hG z,kD z]
    refine iteT ?_
    refine⟨_,rfl,_,hd,?_,λb o e=>?_,?_⟩
    ·rw[hC]
     have l1:(gvn (X.s.hl.take i) ss).length≤(X.s.hl.take i).length:=mB _ _
     rw[gJ]at l1
     lia
    ·rw[qC (qF e nD)]
     exact sm _ _ e
    ·rw[qH,mJ]
     rfl
   ·rw[hI z,kB z,gK]
    exact iteF ⟨sm,hd⟩
  obtain⟨sm,hd⟩:=hp
  rw[hC,gC]at hd
  have s03:Same H H3:=s1.trans sm
  refine⟨_,rfl,sz0,λe H4 n4 s4 h4=>⟨D,_,e,rfl,rfl,SqL.of (s4 _ _ hd),SqL.of h4,_,rfl,?_⟩⟩
  have s04:=s03.trans s4
  by_cases z:gvn X.s.hl ss=[]
  ·rw[z]
   exact iteT (kn z H4 s04)
  rw[hI (λy=>z (by cases hq:gvn X.s.hl ss with|nil=>rfl|cons a r=>rw[hq]at y;cases y))]
  refine iteF ?_
  obtain⟨i,Z,rc,lp,hl6,hZ,kk⟩:=kk z
  have h4x:=h.same s04
  have hZ':=hZ
  unfold Sx.ask at hZ'
  cases hR:X.rooms k i with
  |none=>rw[hR]at hZ';cases hZ'
  |some YR=>
   obtain⟨Y,o⟩:=YR
   refine(iV rfl (iM h4x.j.o rfl ⟨x,k,sh,sr,r,rl,pp,X,i,(Y,o),rfl,h4x,ev,by lia,lp,hR,?_⟩))
   rw[hR]at hZ'
   cases o with
   |error e=>
    cases hZ'
    exact λH2 h2 k2=>kk H2 h2 ((Keep.same s04).trans k2)
   |ok u=>
    refine λH5 h5 k5=>?_
    obtain⟨ps0,hp0,_⟩:=h.hp
    obtain⟨C0,d0,f0,er0⟩:=h.ru.ins
    have offF:∀{y:Addr},H y=none→y∉fx t x r pp:=fun {y} e zz=>by
     rcases kI.mp zz with zz|zz
     ·rw[zz,hp0]at e;cases e
     ·rcases kI.mp zz with zz|zz
      ·rw[zz,er0]at e;cases e
      ·exact h.j.off e zz
    have dF:=offF (s1.free nD)
    have h1_5:=k5.k _ _ (offF n1) (s4 _ _ (sm _ _ h1))
    have hd5:=k5.k _ _ dF (s4 _ _ hd)
    refine(iV rfl (iM h5.j.o rfl ?_))
    refine⟨_,rfl,hl,rfl,⟨_,SqL.of h1_5⟩,λD2 H6 n6 s6 hD2=>?_⟩
    refine uW (K:=K) (xs:=X.s.hl.map V.int) (D:=D2) (λi H7=>Same H5 H7∧H7 D2=some (.lst ((rst (X.s.hl.take i) (gvn X.s.hl ss)).map V.int))) ⟨s6,hD2⟩ (λi H7 hp=>SqL.of (hp.1 _ _ h1_5)) (λi v H7 hv hp=>?_) (λH7 hp=>?_)
    ·obtain⟨sm7,hd7⟩:=hp
     rw[mC]at hv
     obtain⟨n,hw,rfl⟩:=mK.mp hv
     have hi:=(kC.mp hw).1
     have ev':=(kC.mp hw).2
     refine⟨_,rfl,_,rfl,D,_,rfl,.inl (SqL.of (sm7 _ _ hd5)),rfl,qCF,_,rfl,?_⟩
     show if(!inV (.int n) ((gvn X.s.hl ss).map V.int))=true then _ else _
     rw[q4G]
     have eg:rst (X.s.hl.take (i+1)) (gvn X.s.hl ss)=rst (X.s.hl.take i) (gvn X.s.hl ss)++(if n∈gvn X.s.hl ss then[]else[n]):=by
      unfold rst
      rw[←mH hi,gF,ev',mW]
      by_cases y:n∈gvn X.s.hl ss
      ·rw[hG y,kD y];rfl
      ·rw[hI y,kB y];rfl
     rw[eg]
     by_cases y:n∈gvn X.s.hl ss
     ·rw[hG y,kD y,gK]
      exact iteF ⟨sm7,hd7⟩
     ·rw[hI y,kB y]
      refine iteT ?_
      refine⟨_,rfl,_,hd7,?_,λb o e=>?_,?_⟩
      ·rw[hC]
       have l1:(rst (X.s.hl.take i) (gvn X.s.hl ss)).length≤(X.s.hl.take i).length:=mB _ _
       rw[gJ]at l1
       lia
      ·rw[qC (qF e n6)]
       exact sm7 _ _ e
      ·rw[qH,mJ]
       rfl
    obtain⟨sm7,hd7⟩:=hp
    rw[hC,gC]at hd7
    obtain⟨en,lt⟩:=qHV (ns:=rst X.s.hl (gvn X.s.hl ss)) (λn hn'=>qHU h.j.w n (mI.mp hn').1)
    rw[en]at hd7
    refine⟨D2,_,rfl,SqL.of hd7,lt,?_⟩
    have h7:=h5.same sm7
    have mS:∀y∈t.bJ::sf x,y∈fx t x r pp:=λy hy=>hU _ (hU _ hy)
    dsimp only[tNil,rQ,dM,gK]
    refine h.lay (Z:=Z) rc hl6 hZ hR (by decide) (by decide) h7 ?_
    obtain⟨W,o⟩:=Z
    have k07:Keep (fx t x r pp) H H7:=((Keep.same s04).trans k5).trans (Keep.same sm7)
    cases o with
    |error e=>exact λH8 h8 k8=>kk H8 h8 (k07.trans (k8.mono mS))
    |ok p=>
     refine λH8 h8 k8=>?_
     have hd8:=k8.k _ _ (λy=>dF (mS _ y)) (sm7 _ _ hd5)
     refine⟨_,rfl,D,rfl,⟨_,SqL.of hd8⟩,?_⟩
     refine vH (K:=K) (xs:=(gvn X.s.hl ss).map V.int) (λi σ' H'=>∃y',σ'=[some (.ref x.s),some (.ref l0),y',some (.ref hl),some (.ref D)]∧XR t H' x k sh sr (W.s.forgs ((gvn X.s.hl ss).take i))∧Keep (bf x.k) H8 H') ⟨_,rfl,h8.j,Keep.refl⟩ (λi σ' H' hi hp=>?_) (λi v σ' H' hv hp=>?_) (λσ' H' hp=>?_)
     ·obtain⟨y',rfl,j',kb⟩:=hp
      exact SqL.of (kb.k _ _ (λw=>dF (mS _ (by simp[sf,w]))) hd8)
     ·obtain⟨y',rfl,j',kb⟩:=hp
      rw[mC]at hv
      obtain⟨n,hw,rfl⟩:=mK.mp hv
      obtain⟨m',st,c',_⟩:=j'.e
      refine(iV rfl (iF st.o T.bK T.bM rfl (iM st.bk.o rfl ⟨_,rfl,x.k,_,n,rfl,st.bk,j'.w.qs.ok,st.ds,λH9 hb9 k9=>?_⟩)))
      have k9:Keep (bf x.k) H' H9:=k9.mono (by intro b hb;simp at hb;rcases hb with rfl|rfl<;>simp[bf])
      refine⟨_,rfl,?_,kb.trans k9⟩
      rw[qB9 hw]
      exact j'.forg n (λ_=>hb9) k9
     ·obtain⟨y',rfl,j',kb⟩:=hp
      rw[hC,gC]at j'
      have hd9:=kb.k _ _ (λw=>dF (mS _ (by simp[sf,w]))) hd8
      refine⟨_,rfl,D,_,rfl,.inl (SqL.of hd9),?_⟩
      rw[hC]
      have kb':Keep (t.bJ::sf x) H8 H':=kb.mono (λb hb=>by simp[sf,hb])
      exact kk H' (h8.on kb' j') ((k07.trans (k8.mono mS)).trans (kb'.mono mS))
theorem TbF.updD{H:Hp}{p:Addr}{kvs:List (Key×V)}{o:HO}(h:TbF t H)(e:H p=some (.dK kvs)):TbF t (upd H p o):=by
 obtain⟨ps,hT,h⟩:=h
 refine⟨ps,by rw[qC (jR hT e (by intro z;cases z))];exact hT,?_⟩
 rcases h with h|⟨c,h,hc⟩
 ·exact .inl h
 ·exact .inr ⟨c,h,by rw[qC (jR hc e (by intro z;cases z))];exact hc⟩
section
variable{H H':Hp}{x:Sto}{k:Tm}{sh sr:Int}{r:Addr}{rl:List Addr}{pp:Addr}{X:Sx}
theorem XX.dct(h:XX t H x k sh sr r rl pp X){p:Addr}{kvs kvs':List (Key×V)}(e:H p=some (.dK kvs))(np:p∉x.a.li::fx t x r pp)(nr:p∉rl):XX t (upd H p (.dK kvs')) x k sh sr r rl pp X:=by
 have kk:=Keep.upd (F:=[p]) (o:=.dK kvs') e (λ_ z=>by cases z) (by simp)
 obtain⟨ps,h1,h2⟩:=h.hp
 obtain⟨m,st,_⟩:=h.j.e
 have fr:∀{y:Addr} {xs:List V},H y=some (.lst xs)→(upd H p (.dK kvs')) y=some (.lst xs):=fun {y xs} e'=>kk.k _ _ (λz=>by
  rw[kE.mp z,e]at e'
  cases e') e'
 refine⟨h.j.keep kk (λy hy z=>?_) (TbF.updD st.tb e),h.er,h.ru.keep kk (λy hy z=>?_),h.of,h.ep,⟨ps,fr h1,Paired.mapP h2 λv pa ⟨a,l1,l2,us,rs,e1,e2,e3,e4,e5,e6,e7,e8⟩=>⟨a,l1,l2,us,rs,e1,kk.tp _ _ e2,fr e3,yF kk e4,fr e5,Paired.mapP e6 λv d ⟨p',e',h'⟩=>⟨p',e',kk.tp _ _ h'⟩,e7,e8⟩⟩,h.np,h.nr⟩
 ·rw[kE.mp z]at hy
  rcases gO.mp hy with hy|hy
  ·have hy:p=x.s∨p=x.tm:=by simpa using hy
   rcases hy with h|h
   ·rw[h,st.o]at e;cases e
   ·rw[h,st.te]at e;cases e
  ·rcases kI.mp hy with h|h
   ·exact np (by rw[h];simp)
   ·exact np (by simp[h])
 ·rw[kE.mp z]at hy
  rcases kI.mp hy with h|h
  ·exact np (by rw[h];simp)
  ·exact nr h
theorem XX.chip(h:XX t H x k sh sr r rl pp X):∃m,ChipAt t.C_Chip H x.c x.a m∧m.Ok∧m.lf=X.s.lf∧m.rc=X.s.rc∧m.cl=X.s.cl∧m.bl=(X.s.q.B:Int)∧m.pg=(X.s.q.P:Int)∧PgAt H m.bo X.s.pg∧∀l,(∀i,l=some i→0≤i)→∀H',ChipAt t.C_Chip H' x.c x.a { m with lf:=l }→Keep (foot x.c x.a) H H'→XX t H' x k sh sr r rl pp ⟨{ X.s with lf:=l },X.g,X.ps⟩:=by
 obtain⟨m,st,c,pg⟩:=h.j.e
 refine⟨m,st.ch,c.ft.ok,c.lf,c.rc,c.cl,c.ft.eB,c.ft.eP,pg,λl hl H' hc k'=>?_⟩
 have k2:Keep (t.bJ::sf x) H H':=k'.mono (λy hy=>by unfold sf;exact hU _ (g8 _ hy))
 have ok':({ m with lf:=l }:CM).Ok:=⟨c.ft.ok.bl1,c.ft.ok.bl2,c.ft.ok.pg1,c.ft.ok.pg2,c.ft.ok.nbo,c.ft.ok.ncl,c.ft.ok.ndc,c.ft.ok.nbr,c.ft.ok.lim,c.ft.ok.nrc⟩
 exact h.on k2 ⟨⟨_,st.put hc k' rfl rfl,⟨⟨ok',c.ft.oq,c.ft.eB,c.ft.eP⟩,c.br,c.li,c.mo,c.cl,rfl,c.rc⟩,pg.keep k'⟩,h.j.w.lf hl⟩
theorem XX.inF(h:XX t H x k sh sr r rl pp X):∀y∈fx t x r pp,∃o,H y=some o:=λy hy=>by
 rcases kI.mp hy with e|hy
 ·obtain⟨ps,e',_⟩:=h.hp
  exact⟨_,by rw[e];exact e'⟩
 ·rcases kI.mp hy with e|hy
  ·obtain⟨_,_,_,z⟩:=h.ru.ins
   exact⟨_,by rw[e];exact z⟩
  ·exact h.j.inH y hy
end
structure KX(t:Adr)(H:Hp)(x:Sto)(k:Tm)(sh:Int)(sr:Nat)(r:Addr)(rl:List Addr)(pp:Addr)(X:Sx)(kd:Addr)(KD:Mp)(n:Nat):Prop where
 h:XX t H x k sh (sr:Int) r rl pp X
 d:Kd k sh sr X KD
 hk:H kd=some (.dK (dB KD))
 nk:kd∉x.a.li::fx t x r pp
 nr:kd∉rl
 rcn:X.s.rc.length≤300*n
 psn:X.ps.length≤20*n
section
variable{H H':Hp}{x:Sto}{k:Tm}{sh:Int}{sr:Nat}{r:Addr}{rl:List Addr}{pp:Addr}{X X':Sx}{kd:Addr}{KD KD':Mp}{n n':Nat}
theorem KX.same(h:KX t H x k sh sr r rl pp X kd KD n)(s:Same H H'):KX t H' x k sh sr r rl pp X kd KD n:={ h with h:=h.h.same s,hk:=s _ _ h.hk }
theorem KX.nkF(h:KX t H x k sh sr r rl pp X kd KD n):kd∉fx t x r pp:=λz=>h.nk (hU _ z)
theorem KX.hold(h:KX t H x k sh sr r rl pp X kd KD n){y:Int}:hold X.s.q y=decide (y∈KD.map (·.1)):=by
 unfold W1.hold
 exact cI.mpr h.d.pm.mem_iff
theorem KX.set(h:KX t H x k sh sr r rl pp X kd KD n)(hx:XX t H' x k sh (sr:Int) r rl pp X')(kk:Keep (fx t x r pp) H H')(d:Kd k sh sr X' KD')(rc:X'.s.rc.length≤300*n')(ps:X'.ps.length≤20*n'):KX t (upd H' kd (.dK (dB KD'))) x k sh sr r rl pp X' kd KD' n':=
 ⟨hx.dct (kk.k _ _ h.nkF h.hk) h.nk h.nr,d,qH,h.nk,h.nr,rc,ps⟩
theorem KX.stay(h:KX t H x k sh sr r rl pp X kd KD n)(hx:XX t H' x k sh (sr:Int) r rl pp X')(kk:Keep (fx t x r pp) H H')(d:Kd k sh sr X' KD)(rc:X'.s.rc.length≤300*n')(ps:X'.ps.length≤20*n'):KX t H' x k sh sr r rl pp X' kd KD n':=
 ⟨hx,d,kk.k _ _ h.nkF h.hk,h.nk,h.nr,rc,ps⟩
end
theorem qJZ{H:Hp}{x:Sto}{k:Tm}{sh sr:Int}{r:Addr}{rl:List Addr}{pp:Addr}{B P:Nat}{g:Rl}(st:StAt t H x (.int sh) (.int sr) (.int (k.ie:Int)) (.int k.sp) (CM.new (B:Int) (P:Int) 1000000 []) (bk0 B P))(er:x.ru=.ref r)(ru:RuX t H r rl g)(of:Off t x (r::rl))(ep:x.pa=.ref pp)(hp:H pp=some (.lst []))(np:pp∉t.bJ::sf x)(nr:pp∉r::rl)
 (b1:2≤B) (b2:B≤16) (p1:1≤P) (p2:P≤16) (w:WX k (newX B P)):XX t H x k sh sr r rl pp ⟨newX B P,g,[]⟩:=by
 have nok:(CM.new (B:Int) (P:Int) 1000000 []).Ok:=qJ6 (by lia) (by lia) (by lia) (by lia) (λb v e=>by cases e)
 refine⟨⟨⟨_,st,⟨⟨nok,w.qs.ok,rfl,rfl⟩,?_,λb=>rfl,rfl,?_,rfl,rfl⟩,⟨λi _=>rep8,λi v e=>by cases e⟩⟩,w⟩,er,ru,of,ep,⟨[],hp,.nil⟩,np,nr⟩
 ·show List.replicate (B:Int).toNat false=_
  rw[kW]
  rfl
 ·show List.replicate (B:Int).toNat (0:Int)=_
  rw[kW]
  rfl
noncomputable def spSz(K:W.Frag):Sp:=λvs H Q _=>∃a ns,vs=[.ref a]∧SqL K H a (List.map V.int ns)∧∀c P i s:Nat,1≤c→c≤4→1≤P→P≤4→i≤2→1≤s→s+2≤c*P→NewO H (.lst [.int ((c+1+i:Nat):Int),.int (P:Int),.int (s:Int),.int (i:Int)]) Q
theorem q9A(T:Txt K mg t)(S:Fns K t):S.aAJ.Ok0 P w mg base 2 (spSz K):=by
 refine S.aAJ.F.ok0 yW λcdv A _ s H vs Q E hr h=>?_
 ·obtain⟨a,ns,rfl,hS,k⟩:=h
  refine⟨_,(qB (qT (i:=1) yW.nd rfl (Or.inl rfl) (qO yZ qI (qO uF (qY (jY T S).mono hr rfl T.bV T.bW S.bX.b .nil qK (qA (pv 0) (qA qI qD))) qI))) (qB (qT (i:=2) yW.nd rfl (Or.inl rfl) (qO yZ qI (qO uF (qY (jY T S).mono hr rfl T.bV T.bW S.bX.b .nil qK (qA (pv 0) (qA qI qD))) qI))) (q17 (jB (qP q3Z (qO yM (pv 2) (pv 1)) qI (qS _)) (qE (qT (i:=2) yW.nd rfl (Or.inl rfl) qI)) qR) (qB (qT (i:=3) yW.nd rfl (Or.inl rfl) (qO uF (qY (jY T S).mono hr rfl T.bV T.bW S.bX.b .nil qK (qA (pv 0) (qA qI qD))) qI)) (qB (qT (i:=4) yW.nd rfl (Or.inl rfl) (qO zD (qO yM (pv 2) (pv 1)) qI)) (q17 (jB (qP vS (qO uF (qY (jY T S).mono hr rfl T.bV T.bW S.bX.b .nil qK (qA (pv 0) (qA qI qD))) qI) qI (qS _)) (qE (qT (i:=4) yW.nd rfl (Or.inl rfl) (qO yZ qI (qO uF (qO vD (qY (jY T S).mono hr rfl T.bV T.bW S.bX.b .nil qK (qA (pv 0) (qA qI qD))) qI) (pv 4))))) qR) (qE (qL (jT (qA (qO yZ (qO yZ (pv 2) qI) (pv 3)) (qA (pv 1) (qA (pv 4) (qA (pv 3) qD))))))))))))),?_⟩
  try dsimp-beta-proj-iota-zeta-eta only[wishK,cxK]
  refine⟨_,rfl,a,ns,0,rfl,hS,by decide,_,_,rfl,rfl,(by show(0:Int)<4;decide),iI ?_⟩
  refine⟨_,rfl,a,ns,1,rfl,hS,by decide,_,_,rfl,rfl,(by show(0:Int)<4;decide),iI ?_⟩
  try dsimp only
  have c0:=q1Z (yP ns 0) 4 (by decide)
  have c1:=q1Z (yP ns 1) 4 (by decide)
  obtain⟨P0,eP0⟩:∃n:Nat,1+yP ns 0%4=(n:Int):=⟨(1+yP ns 0%4).toNat,by lia⟩
  obtain⟨c',ec⟩:∃n:Nat,1+yP ns 1%4=(n:Int):=⟨(1+yP ns 1%4).toNat,by lia⟩
  rw[eP0,ec]
  have hP1:1≤P0:=by lia
  have hP2:P0≤4:=by lia
  have hc1:1≤c':=by lia
  have hc2:c'≤4:=by lia
  clear c0 c1 eP0 ec
  refine⟨λσ' H'=>∃c:Nat,σ'=[some (.ref a),some (.int (P0:Int)),some (.int (c:Int)),none,none]∧H=H'∧1≤c∧c≤4∧3≤c*P0,?_,?_⟩
  ·refine⟨_,rfl,_,rfl,iI ⟨.inl ⟨by lia,by lia⟩,iI ⟨_,rfl,?_⟩⟩⟩
   refine ite2 (λz=>?_) (λz=>?_)
   ·exact⟨3,rfl,rfl,by decide,by decide,by lia⟩
   ·have z:¬(c':Int)*(P0:Int)<3:=λy=>z (hG y)
    rw[←gL]at z
    exact⟨c',rfl,rfl,hc1,hc2,by lia⟩
  rintro σ' _ ⟨c,rfl,rfl,p1,p2,cp⟩
  refine⟨_,rfl,a,ns,2,rfl,hS,by decide,_,_,rfl,rfl,(by show(0:Int)<3;decide),?_⟩
  have c2:=q1Z (yP ns 2) 3 (by decide)
  try dsimp only
  obtain⟨i,ei⟩:∃n:Nat,yP ns 2%3=(n:Int):=⟨(yP ns 2%3).toNat,by lia⟩
  rw[ei]
  have hi:i≤2:=by lia
  clear c2 ei
  refine⟨_,rfl,_,rfl,iI ⟨.inl ⟨by lia,by lia⟩,iI ?_⟩⟩
  try dsimp only
  obtain⟨M,eM⟩:∃n:Nat,(c:Int)*(P0:Int)-2=(n:Int):=⟨c*P0-2,by rw[←gL];lia⟩
  rw[eM]
  have hM:M+2=c*P0:=by
   rw[←gL]at eM
   lia
  refine⟨λσ' H'=>∃s:Nat,σ'=[some (.ref a),some (.int (P0:Int)),some (.int (c:Int)),some (.int (i:Int)),some (.int (s:Int))]∧H=H'∧1≤s∧s≤M,?_,?_⟩
  ·refine⟨_,rfl,a,ns,3,rfl,hS,by decide,_,_,rfl,rfl,(by show(0:Int)<3;decide),rfl,_,rfl,?_⟩
   refine ite2 (λz=>?_) (λz=>?_)
   ·refine⟨_,rfl,a,ns,3,rfl,hS,by decide,_,_,rfl,rfl,⟨by decide,by decide⟩,_,rfl,iI ⟨(by show(0:Int)<(M:Int);lia),iI ?_⟩⟩
    have c3:=q1Z (yP ns 3 / 3) (M:Int) (by lia)
    try dsimp only
    obtain⟨s,es⟩:∃n:Nat,1+yP ns 3 / 3%(M:Int)=(n:Int):=⟨(1+yP ns 3 / 3%(M:Int)).toNat,by lia⟩
    rw[es]
    exact⟨s,rfl,rfl,by lia,by lia⟩
   ·exact⟨M,rfl,rfl,by lia,by lia⟩
  rintro σ' _ ⟨s,rfl,rfl,s1,s2⟩
  refine⟨_,rfl,iI ⟨_,rfl,iI ⟨_,rfl,_,rfl,_,rfl,sz4,?_⟩⟩⟩
  exact k c P0 i s p1 p2 hP1 hP2 hi s1 (by lia)
theorem q88{n:Int}:∀{kvs:List (Key×V)} {ks:List Int},kvs.map (·.1)=ks.map Sum.inl→(valV kvs (Sum.inl n:Key)).isSome=decide (n∈ks)
 | [],[],_=>rfl
 | [],_::_,h=>by cases h
 |_::_,[],h=>by cases h
 |y::kvs,a::ks,h=>by
  rw[mE,mE]at h
  injection h with h1 h2
  by_cases e:a=n
  ·rw[zE (by rw[h1,e]),hG (by rw[e];simp)]
   rfl
  ·rw[uV (λz=>e (rB (h1.symm.trans z))),q88 h2]
   by_cases z:n∈ks
   ·rw[hG z,hG (hU _ z)]
   ·rw[hI z,hI (λw=>?_)]
    rcases kI.mp w with w|w
    ·exact e w.symm
    ·exact z w
noncomputable def qL8:Sp:=λvs H Q _=>∃kd kvs,∃ks:List Int,∃cell:Int,∃w s:Nat,vs=[.int cell,.ref kd,.int (w:Int),.int (s:Int)]∧1≤w∧H kd=some (.dK kvs)∧kvs.map (·.1)=ks.map Sum.inl∧(∀n∈ks,0≤n∧n<(w:Int))∧ks.length<64∧1≤s∧∀(n:Int) H',Same H H'→0≤n→n<(w:Int)→(n∈ks∨ks.length<s)→Q (.int n) H'
theorem q9B(T:Txt K mg t)(S:Fns K t):S.aAZ.Ok0 P w mg base 1 qL8:=by
 refine S.aAZ.F.ok0 q1M λcdv A _ s H vs Q E hr h=>?_
 ·obtain⟨kd,kvs,ks,cell,w',s',rfl,w1,hk,ek,kb,l64,s1,k⟩:=h
  have hu:=q1X hr
  have lk:kvs.length=ks.length:=by
   have:=gX List.length ek
   rw[hC,hC]at this
   exact this
  refine⟨_,(qB (qT (i:=4) q1M.nd rfl (Or.inl rfl) (qO uF (pv 0) (pv 2))) (qB (jB (qAW (PW.pt (q0F (qAM (q8G hu (pv 4) (pv 1))) (zX (qP q3Z (j9 qCW (by rfl) T.tY gZ (qA (pv 1) qD)) (pv 3) (qS _)))))) (qE (qL (pv 4))) qR) (qB (qT (i:=5) q1M.nd rfl (Or.inl rfl) (j9 (q78 rfl) (by rfl) T.tO (by kernel_rfl) (qA (pv 1) qD))) (qE (qL (qW jD (pv 5) (qO uF (pv 0) (j9 jK (by rfl) T.tY gZ (qA (pv 5) qD))) (λ_ _=>rfl))))))),?_⟩
  try dsimp-beta-proj-iota-zeta-eta only[wishK,cxK]
  refine⟨_,rfl,_,rfl,iI ⟨(by show(0:Int)<(w':Int);lia),?_⟩⟩
  have mm:=q1Z cell (w':Int) (by lia)
  try dsimp only
  generalize cell%(w':Int)=n at mm ⊢
  refine⟨λb H'=>H=H'∧b=decide (n∈ks∨ks.length<s'),?_,?_⟩
  ·refine⟨_,rfl,_,rfl,kd,_,rfl,DGet.k (k:=Sum.inl n) hk,_,rfl,?_⟩
   rw[q88 ek]
   by_cases z:n∈ks
   ·rw[hG z,hG (.inl z)]
    exact iteT ⟨rfl,rfl⟩
   ·rw[hI z]
    refine iteF ?_
    refine⟨_,rfl,kd,_,rfl,hk,_,rfl,iI ⟨_,rfl,rfl,?_⟩⟩
    rw[lk]
    by_cases y:ks.length<s'
    ·rw[hG (show n∈ks∨ks.length<s' from .inr y),hG (by lia)]
    ·rw[hI (show ¬(n∈ks∨ks.length<s')from λw=>w.elim z y),hI (by lia)]
  rintro b H' ⟨rfl,rfl⟩
  by_cases z:n∈ks∨ks.length<s'
  ·rw[hG z]
   exact iteT ⟨_,rfl,k n H (Same.refl H) mm.1 mm.2 z⟩
  ·rw[hI z]
   refine iteF ?_
   refine⟨_,rfl,kd,kvs,ks,rfl,hk,ek,l64,λns pn so l H1 n1 s1' h1=>?_⟩
   have ln:=pn.length_eq
   have pos:0<ns.length:=by
    have:¬ks.length<s':=λy=>z (.inr y)
    lia
   refine⟨_,rfl,_,rfl,_,rfl,l,_,rfl,.inl (SqL.of h1),iI ⟨(by rw[hC];show(0:Int)<(ns.length:Int);lia),?_⟩⟩
   rw[hC]
   have m2:=q1Z cell (ns.length:Int) (by lia)
   try dsimp only
   obtain⟨i,ei⟩:∃i:Nat,cell%(ns.length:Int)=(i:Int):=⟨(cell%(ns.length:Int)).toNat,by lia⟩
   rw[ei]
   have hi:i<ns.length:=by lia
   refine(iL (k:=_) (v:=.int ns[i]) (SqL.of h1) (u7 (by rw[mC,hX hi];rfl)) ?_)
   have mk:=pn.mem_iff.mp (gG hi)
   exact k _ H1 s1' (kb _ mk).1 (kb _ mk).2 (.inl mk)
noncomputable def spBt:Sp:=λvs H Q _=>∃kd KD,vs=[.ref kd]∧H kd=some (.dK (dB KD))∧KD.length≤64∧(∀y∈KD,0≤y.1∧y.1<64)∧∀H',Same H H'→Q (.int (KD.map λy=>(2:Int) ^ y.1.toNat).sum) H'
theorem qAJ(T:Txt K mg t)(S:Fns K t):S.aBB.Ok0 P w mg base 1 spBt:=by
 refine S.aBB.F.ok0 qAC λcdv A _ s H vs Q E hr h=>?_
 ·obtain⟨kd,KD,rfl,hk,l64,kb,kk⟩:=h
  refine⟨_,(qE (qL (j9 (qD1 rfl) (by rfl) T.aDT (by kernel_rfl) (qA (q8K (u9 ["_law_sheet_here"] [] rfl (qBW (pv 0)) (λ_ _ _ _ _=>(qU (i:=0) (show List.Nodup (["_law_sheet_here"]:List Str)from by decide) rfl (Or.inl rfl))) (λ_ _ _ _ _=>q18) (λ_ _ _ _ _=>(qO qDG qI (pv 0))) (by kernel_rfl) (jX (by decide)))) qD)))),?_⟩
  try dsimp-beta-proj-iota-zeta-eta only[wishK,cxK]
  refine⟨kd,_,hk,_,rfl,kd,_,rfl,hk,λo D H2 nD s2 hD=>?_⟩
  have k2:∀x u,x≠kd→H x=some u→H2 x=some u:=λx u nx e=>s2 _ _ (by rw[qC nx];exact e)
  have fz:H2 kd=some (.frz o (.dK (dB KD))):=s2 _ _ qH
  have Dw:D≠kd:=λz=>by rw[z,fz]at hD;cases hD
  have nDH:H D=none:=by
   rw[qC Dw]at nD
   exact nD
  refine q9Z (D:=D) (λi H3=>H3 kd=some (.frz o (.dK (dB KD)))∧(∀x u,x≠kd→H x=some u→H3 x=some u)∧H3 D=some (.lst (((KD.take i).map λy=>(2:Int) ^ y.1.toNat).map V.int))) ⟨fz,k2,hD⟩ (λi H3 hp=>hp.1) (λi kv H3 hi hp=>?_) (λH3 hp=>?_)
  ·obtain⟨fz3,k3,hd⟩:=hp
   unfold dB at hi
   rw[mC]at hi
   obtain⟨y,hy,rfl⟩:=mK.mp hi
   obtain⟨il,rfl⟩:=kC.mp hy
   have b:=kb _ (gG il)
   refine⟨_,rfl,iI ⟨⟨b.1,by lia,by decide⟩,_,hd,?_,?_,λx u nx e'=>?_,?_⟩⟩
   ·rw[hC,hC,gJ]
    have:(65:Nat)<sizeLine:=by decide
    lia
   ·rw[qC Dw.symm]
    exact fz3
   ·rw[qC (qF e' nDH)]
    exact k3 _ _ nx e'
   ·rw[qH,←mH il,mJ,mJ]
    show some (HO.lst (_++[V.int (1*2 ^ KD[i].1.toNat)]))=_
    rw[xY]
    rfl
  ·obtain⟨fz3,k3,hd⟩:=hp
   rw[qFJ,gC]at hd
   refine⟨o,_,fz3,?_⟩
   have sH:Same H (upd H3 kd (.dK (dB KD))):=qB4 hk k3
   exact⟨D,_,rfl,SqL.of (by rw[qC Dw];exact hd),kk _ sH⟩
theorem cmN{a:Nat}{x:Int}(h:a≤256):CMul (a:Int) x:=.inl ⟨by lia,by lia⟩
theorem rngB{a b:Nat}(h:a+b≤256):-(2 ^ 62)≤(a:Int)∧(a:Int)<2 ^ 62∧-(2 ^ 62)≤(a:Int)+(b:Int)∧(a:Int)+(b:Int)<2 ^ 62:=by lia
theorem rngN{a b:Nat}:((a:Int)+(b:Int)-(a:Int)).toNat=b:=by lia
noncomputable def FLt(pg:Nat→Option (Int×Int))(H:Hp)(v:V)(p:Int):Prop:=∃a u,v=.ref a∧pg p.toNat=some u∧H a=some (.tup [.int (u.1 / 128),.int p])
noncomputable def spMo:Sp:=λvs H Q _=>∃sl bs kd KD k,∃s:XS,∃b:Nat,vs=[.ref sl,.int (s.q.P:Int),.int (b:Int),.ref kd]∧H sl=some (.lst bs)∧bs.length=s.q.B*s.q.P∧PgAt H bs s.pg∧H kd=some (.dK (dB KD))∧WX k s∧Pgs s∧(∀n,n≠64→((∃p,(n,p)∈s.q.V)↔n∈KD.map (·.1)))∧b<s.q.B∧s.q.fi.getD b 0=(s.q.P:Int)∧∀l us H',Same H H'→H l=none→H' l=some (.lst us)→Paired (TupD H') us (lvF s b s.q.P)→Q (.ref l) H'
theorem q9C(T:Txt K mg t)(S:Fns K t):S.aAR.Ok0 P w mg base 1 spMo:=by
 refine S.aAR.F.ok0 uB λcdv A _ s H vs Q E hr h=>?_
 ·obtain⟨sl,bs,kd,KD,k,s,b,rfl,hs,lbs,pa,hk,w,p,ke,hb,ef,kk⟩:=h
  have hu:=q1X hr
  have s9:(99999:Nat)<sizeLine:=by decide
  have p1:=w.qs.ok.p1
  have p2:=w.qs.ok.p2
  have b2:=w.qs.ok.b2
  have l256:bs.length≤256:=by
   rw[lbs]
   exact pA b2 p2
  have vn:∀y∈s.q.V,0≤y.2∧y.2.toNat<bs.length:=λy hy=>by
   obtain⟨c,f,_,a1,a2,a3,_⟩:=w.vl y hy
   rw[a3,kW,lbs]
   exact⟨xA _,(wW p1).mp (by rw[yB a2];exact a1)⟩
  refine⟨_,(qB (qT (i:=4) uB.nd rfl (Or.inl rfl) q41) (qB (uE gU rfl (q0G rfl T.f9 (qA (j9 jK (by rfl) T.tY gZ (qA (pv 0) qD)) qD)) (qU (i:=5) uB.nd rfl (Or.inl rfl)) (qE (jB (qAW (PW.pt (q8A (qP q2W (qW jD (pv 0) (pv 5) (λ_ _=>rfl)) yY (qS _)) (q5F (qP qHI (qO vD (qW jI (qW jD (pv 0) (pv 5) (λ_ _=>rfl)) qI (λ_ _=>rfl)) qI) (qW jI (qE0 hu (pv 4) (qO uF (qW jI (qW jD (pv 0) (pv 5) (λ_ _=>rfl)) qI (λ_ _=>rfl)) qI) (yH (qA qI (qA qI qD))) ⟨rfl,rfl,rfl,rfl⟩) qI (λ_ _=>rfl)) (qS _)))))) (qE (q8H hu (pv 4) (qO uF (qW jI (qW jD (pv 0) (pv 5) (λ_ _=>rfl)) qI (λ_ _=>rfl)) qI) (yH (qA (qO vD (qW jI (qW jD (pv 0) (pv 5) (λ_ _=>rfl)) qI (λ_ _=>rfl)) qI) (qA (pv 5) qD))) rfl)) qR))) (qB (qT (i:=6) uB.nd rfl (Or.inl rfl) (jT qD)) (qB (uE gU rfl (q0H rfl T.f9 (qA (qO yM (pv 2) (pv 1)) (qA (qO yZ (qO yM (pv 2) (pv 1)) (pv 1)) qD))) (qU (i:=5) uB.nd rfl (Or.inl rfl)) (qB (qT (i:=7) uB.nd rfl (Or.inl rfl) (qO uF (qW jI (qW jD (pv 0) (pv 5) (λ_ _=>rfl)) qI (λ_ _=>rfl)) qI)) (qE (jB (qAW (PW.pt (q8A (qP vS (qW jI (qBM hu (pv 4) (pv 7) (λ_ _=>rfl)) qI (λ_ _=>rfl)) (pv 5) (qS _)) (q5F (PW.pt (q0F (qP vS (pv 7) qI (qS _)) (zX (qAM (q8G hu (pv 7) (pv 3)))))))))) (qE (qX (q3B gH g0 g5 uR (pv 6) (qA (yH (qA (pv 7) (qA (pv 5) qD))) qD q0J)))) qR)))) (qE (qL (pv 6))))))),?_⟩
  try dsimp-beta-proj-iota-zeta-eta only[wishK,cxK]
  refine λld nld=>?_
  have sd:Same H (upd H ld (.dK [])):=Same.upd nld
  have hd:(upd H ld (.dK [])) ld=some (.dK []):=qH
  generalize upd H ld (.dK [])=H1 at sd hd ⊢
  refine⟨_,rfl,sl,bs,rfl,.inl (SqL.of (sd _ _ hs)),_,rfl,by lia,by lia,?_⟩
  rw[kW]
  refine zI (λj σ' H'=>∃y5 kvs W,σ'=[some (.ref sl),some (.int (s.q.P:Int)),some (.int (b:Int)),some (.ref kd),some (.ref ld),y5,none,none]∧H' ld=some (.dK kvs)∧Paired (KvP (FLt s.pg H')) kvs W∧Lat s.pg (λ_=>True) j W∧W.length≤j∧∀b o,b≠ld→H1 b=some o→H' b=some o) ⟨_,[],[],rfl,hd,.nil,Lat.zero,kM _,λ_ _ _ e=>e⟩ (λj σ' H' D' nxt hj hp=>?_) (λσ' H' hp=>?_)
  ·obtain⟨y5,kvs,W,rfl,hd',pr,la,lw,kp⟩:=hp
   have hs':=kp _ _ (qF hs nld) (sd _ _ hs)
   have at1:atI bs (0+(j:Int))=some (bs.getD j .non):=by
    rw[nN]
    exact u7 (by rw[kJ,hX hj];rfl)
   refine⟨λc H2=>Same H' H2∧(c=true→∃v,s.pg j=some v∧∀p u,(v.1%128,p)∈W→s.pg p.toNat=some u→u.1 / 128<v.1 / 128)∧(c=false→∀v,s.pg j=some v→∃p u,(v.1%128,p)∈W∧s.pg p.toNat=some u∧v.1 / 128≤u.1 / 128),?_,?_⟩
   ·refine⟨_,rfl,_,rfl,sl,bs,_,_,rfl,rfl,SqL.of hs',at1,rfl,_,rfl,?_⟩
    cases hpg:s.pg j with
    |none=>
     rw[pa.n j hpg,hG rfl]
     exact iteF ⟨Same.refl _,λc=>(by cases c),λ_ v e=>(by cases e)⟩
    |some v=>
     obtain⟨tp,e1,e2⟩:=pa.v j v hpg
     have htp:=kp _ _ (qF e2 nld) (sd _ _ e2)
     rw[e1]at at1
     rw[e1,hI (λz=>by cases z)]
     refine iteT ?_
     have v128:=(p.mr j v hpg).1
     refine⟨_,rfl,_,rfl,sl,bs,_,.ref tp,rfl,rfl,SqL.of hs',at1,iT (k:=0) (v:=.int v.1) (SqT.of htp) rfl (iI ⟨⟨by decide,by decide⟩,_,rfl,ld,rfl,.inl ⟨_,.inl hd'⟩,_,rfl,_,rfl,sl,bs,_,.ref tp,rfl,rfl,SqL.of hs',at1,iT (k:=0) (v:=.int v.1) (SqT.of htp) rfl (iI ⟨(by show(0:Int)<128;decide),sz2,λt0 H2 n2 s2 h2=>⟨_,DGet.k (k:=Sum.inl (v.1%128)) (s2 _ _ hd'),?_⟩⟩)⟩)⟩
     by_cases z:v.1%128∈W.map (·.1)
     ·obtain⟨d,hd,ed⟩:=kP.mp z
      have hd:(v.1%128,d.2)∈W:=by rw[←ed];exact hd
      obtain⟨x,e,a,u,rfl,g3,g4⟩:=q8U pr la.nd hd
      rw[e]
      refine(iT (k:=0) (v:=.int (u.1 / 128)) (SqT.of (s2 _ _ g4)) rfl (iI ⟨_,rfl,s2,λc=>⟨v,rfl,λp u' hp e'=>?_⟩,λc v' ev=>?_⟩))
      ·rw[q8S la.nd hp hd,g3]at e'
       cases e'
       exact mF c
      ·cases ev
       exact⟨d.2,u,hd,g3,aP.mp (dA c)⟩
     ·rw[qFG pr z]
      refine(iT (k:=0) (v:=.int 0) (SqT.of h2) rfl (iI ⟨_,rfl,s2,λc=>⟨v,rfl,λp u' hp _=>absurd (kP.mpr ⟨_,hp,rfl⟩) z⟩,λc=>?_⟩))
      have:=dA c
      lia
   rintro c H2 ⟨s2,c1,c2⟩
   have hd2:=s2 _ _ hd'
   have pr2:Paired (KvP (FLt s.pg H2)) kvs W:=Paired.mapP pr λa d ⟨g1,x,u,g2,g3,g4⟩=>⟨g1,x,u,g2,g3,s2 _ _ g4⟩
   have kp2:∀b o,b≠ld→H1 b=some o→H2 b=some o:=λb o nb e=>s2 _ _ (kp b o nb e)
   cases c with
   |false=>exact iteF (nxt _ _ ⟨_,kvs,W,rfl,hd2,pr2,la.skip (λv e _=>c2 rfl v e),by lia,kp2⟩)
   |true=>
    obtain⟨v,hpg,nw⟩:=c1 rfl
    obtain⟨tp,e1,e2⟩:=pa.v j v hpg
    have htp:=kp2 _ _ (qF e2 nld) (sd _ _ e2)
    have hs2:=s2 _ _ hs'
    rw[e1]at at1
    have lk:kvs.length=W.length:=pr2.len
    refine iteT ⟨_,rfl,_,rfl,sl,bs,_,.ref tp,rfl,rfl,SqL.of hs2,at1,iT (k:=0) (v:=.int v.1) (SqT.of htp) rfl (iI ⟨⟨by decide,by decide⟩,_,rfl,sz2,λtn H4 n4 s4 h4=>?_⟩)⟩
    refine⟨_,rfl,_,rfl,_,rfl,sl,bs,_,.ref tp,rfl,rfl,SqL.of (s4 _ _ hs2),at1,iT (k:=0) (v:=.int v.1) (SqT.of (s4 _ _ htp)) rfl (iI ⟨(by show(0:Int)<128;decide),ld,_,rfl,.inl ⟨_,Sum.inl (v.1%128),s4 _ _ hd2,rfl,by lia,rfl⟩,?_⟩)⟩
    rw[nN]at h4
    have hd4:=s4 _ _ hd2
    have nt:∀{a xs},H4 a=some (.tup xs)→(upd H4 ld (.dK (putK kvs (Sum.inl (v.1%128):Key) (.ref tn)))) a=some (.tup xs):=fun {a xs} e=>by
     rw[qC (λz=>by rw[z,hd4]at e;cases e)]
     exact e
    refine nxt _ _ ⟨_,_,putW W (v.1%128) (j:Int),rfl,qH,qH5 (Paired.mapP pr2 λa d ⟨g1,x,u,g2,g3,g4⟩=>⟨g1,x,u,g2,g3,nt (s4 _ _ g4)⟩) ⟨tn,v,rfl,by rw[kW];exact hpg,nt h4⟩,la.take hpg trivial nw,?_,λb o nb e=>?_⟩
    ·unfold putW
     split
     ·rw[hC];lia
     ·rw[kZ];exact cF lw 1
    ·rw[qC nb]
     exact s4 _ _ (kp2 b o nb e)
  ·obtain⟨y5,kvs,W,rfl,hd',pr,la,lw,kp⟩:=hp
   have sH:∀{H2:Hp},Same H' H2→Same H H2:=fun {H2} s2 b o e=>s2 _ _ (kp _ _ (qF e nld) (sd _ _ e))
   refine⟨sz0,λfl H2 n2 s2 h2=>?_⟩
   have bB:b*s.q.P+s.q.P≤s.q.B*s.q.P:=by
    rw[←rA]
    exact gA _ hb
   have bB':=kO bB (lbs▸l256)
   have b256:b≤256:=kO (wN hb) (kO b2 (by decide))
   refine⟨_,rfl,_,rfl,iI ⟨cmN b256,_,rfl,_,rfl,iI ⟨cmN b256,_,rfl,iI ⟨_,_,rfl,?_⟩⟩⟩⟩
   rw[←gL]
   refine⟨rngB bB',?_⟩
   rw[rngN]
   refine zI (λf σ' H3=>∃y5 y7 us,σ'=[some (.ref sl),some (.int (s.q.P:Int)),some (.int (b:Int)),some (.ref kd),some (.ref ld),y5,some (.ref fl),y7]∧H3 fl=some (.lst us)∧Paired (TupD H3) us (lvF s b f)∧us.length≤f∧Same H' H3) ⟨_,_,[],rfl,h2,.nil,kM _,s2⟩ (λf σ' H3 D' nxt hf hp=>?_) (λσ' H3 hp=>?_)
   ·obtain⟨y5',y7,us,rfl,h3,pr3,lu,s3⟩:=hp
    have hiB:b*s.q.P+f<bs.length:=by lia
    obtain⟨v,epg⟩:=p.wr b f hb hf (by rw[ef];lia)
    obtain⟨tp,e1,e2⟩:=pa.v _ v epg
    have htp:=sH s3 _ _ e2
    have at1:atI bs (((b*s.q.P:Nat):Int)+(f:Int))=some (.ref tp):=by
     rw[←dX,←e1]
     exact u7 (by rw[kJ,hX hiB];rfl)
    obtain⟨d,hdW,ed⟩:=kP.mp (la.al _ v hiB epg trivial)
    have hdW:(v.1%128,d.2)∈W:=by rw[←ed];exact hdW
    obtain⟨x,ex,a,u,rfl,g3,g4⟩:=q8U pr la.nd hdW
    have mvI:=la.mv p vn epg hdW
    refine⟨_,rfl,_,rfl,sl,bs,_,.ref tp,rfl,rfl,SqL.of (sH s3 _ _ hs),at1,iT (k:=0) (v:=.int v.1) (SqT.of htp) rfl (iI ⟨(by show(0:Int)<128;decide),?_⟩)⟩
    refine⟨λc H4=>H4=H3∧c=decide ((v.1%128,((b*s.q.P+f:Nat):Int))∈s.q.V),?_,?_⟩
    ·refine⟨_,rfl,_,rfl,ld,.ref a,rfl,?_,iT (k:=1) (v:=.int d.2) (SqT.of (s3 _ _ g4)) rfl ⟨_,rfl,rfl,_,rfl,?_⟩⟩
     ·have:=DGet.k (k:=Sum.inl (v.1%128)) (s3 _ _ hd')
      rw[ex]at this
      exact this
     rw[zF]
     by_cases z:d.2=((b*s.q.P:Nat):Int)+(f:Int)
     ·rw[hG z]
      refine iteT ⟨_,rfl,rfl,_,rfl,?_⟩
      rw[zF]
      by_cases y:v.1%128=64
      ·rw[hG y]
       exact iteT ⟨rfl,(hG (mvI.mp ⟨z,.inl y⟩)).symm⟩
      ·rw[hI y]
       refine iteF ⟨_,rfl,_,rfl,kd,_,rfl,DGet.k (k:=Sum.inl (v.1%128)) (sH s3 _ _ hk),_,rfl,rfl,?_⟩
       rw[q4A]
       exact cI.mpr ⟨λg=>mvI.mp ⟨z,.inr ((ke _ y).mpr g)⟩,λg=>(ke _ y).mp ⟨_,g⟩⟩
     ·rw[hI z]
      exact iteF ⟨rfl,(hI λg=>z (mvI.mpr g).1).symm⟩
    rintro c H4 ⟨rfl,rfl⟩
    by_cases z:(v.1%128,((b*s.q.P+f:Nat):Int))∈s.q.V
    ·rw[hG z]
     refine iteT ?_
     refine⟨_,rfl,.inl ⟨rfl,_,SqL.of h3⟩,_,rfl,_,rfl,sz2,λtn H5 n5 s5 h5=>⟨fl,us,_,rfl,rfl,s5 _ _ h3,by lia,?_⟩⟩
     refine nxt _ _ ⟨_,_,_,rfl,qH,?_,by rw[kZ];exact cF lu 1,λb o e=>?_⟩
     ·rw[qHA w z]
      exact L2.Paired.snoc (Paired.mapP (jA pr3 s5) λx k z=>z.upd (s5 _ _ h3) (λ_ q=>by cases q)) (TupD.upd ⟨tn,rfl,by rw[dX];exact h5⟩ (s5 _ _ h3) (λ_ q=>by cases q))
     ·rw[qC (qF e n2)]
      exact s5 _ _ (s3 _ _ e)
    ·rw[hI z]
     refine iteF (nxt _ _ ⟨_,_,us,rfl,h3,?_,by lia,s3⟩)
     rw[qJV λn g=>z ?_]
     ·exact pr3
     ·obtain⟨u',f1,f2,_⟩:=p.nw _ g
      have f1:s.pg ((b*s.q.P+f:Nat):Int).toNat=some u':=f1
      rw[kW,epg]at f1
      cases f1
      have f2:v.1%128=n:=f2
      rw[f2]
      exact g
   ·obtain⟨y5',y7,us,rfl,h3,pr3,lu,s3⟩:=hp
    exact⟨_,rfl,kk fl us H3 (sH s3) (Same.free (sH (Same.refl _)) n2) h3 pr3⟩
noncomputable def opU(s:XS)(u:Nat):List Int:=((List.range u).filter λb=>decide (s.q.fi.getD b 0≠0)).flatMap (clrP s)
noncomputable def clU(s:XS)(u:Nat):List Nat:=(List.range u).filter λb=>decide (s.q.fi.getD b 0=0)
theorem qFR{s:XS}{b:Nat}:(clrP s b).length≤s.q.P:=by
 unfold clrP
 rw[hC,mG]
 lia
theorem q4I{s:XS}:∀(l:List Nat),(l.flatMap (clrP s)).length≤l.length*s.q.P
 | []=>mV _
 |a::l=>by
  rw[wE,kZ,mM,rA]
  have:=q4I (s:=s) l
  have:=qFR (s:=s) (b:=a)
  lia
noncomputable def spSs(t:Adr):Sp:=λvs H Q _=>∃c a m sl bs k,∃s:XS,vs=[.ref c,.ref sl,.int (s.q.P:Int)]∧ChipAt t.C_Chip H c a m∧m.Ok∧m.cl=s.cl∧m.bl=(s.q.B:Int)∧H sl=some (.lst bs)∧bs.length=s.q.B*s.q.P∧PgAt H bs s.pg∧WX k s∧Pgs s∧∀l fl H',FreeIs s.q.B (noB s.q.B) s.cl s.q.fi fl→Same H H'→H l=none→H' l=some (.lst ((sptL s fl).map V.int))→Q (.ref l) H'
theorem q9D(T:Txt K mg t)(S:Fns K t):S.aAW.Ok0 P w mg base 5 (spSs t):=by
 refine S.aAW.F.ok0 yX λcdv A _ s H vs Q E hr h=>?_
 ·obtain⟨c,a,m,sl,bs,k,s,rfl,hc,mok,ecl,ebl,hs,lbs,pa,w,p,kk⟩:=h
  have hu:=q1X hr
  have s9:(99999:Nat)<sizeLine:=by decide
  have p1:=w.qs.ok.p1
  have p2:=w.qs.ok.p2
  have b2:=w.qs.ok.b2
  have lbp:s.q.B*s.q.P≤256:=pA b2 p2
  have cap:∀u,u≤s.q.B→u*s.q.P≤256:=λu hu=>kO (gA _ hu) lbp
  have bPe:∀b:Nat,(b:Int)*(s.q.P:Int)=((b*s.q.P:Nat):Int):=λb=>by rw[gL]
  have bP:∀b,b<s.q.B→b*s.q.P+s.q.P≤s.q.B*s.q.P:=λb hb=>by
   rw[←rA]
   exact gA _ hb
  have c256:∀b,b<s.q.B→b≤256:=λb hb=>kO (wN hb) (kO b2 (by decide))
  refine⟨_,(qB (qT (i:=3) yX.nd rfl (Or.inl rfl) (jT qD)) (qB (qT (i:=4) yX.nd rfl (Or.inl rfl) (jT qD)) (qB (uE gU rfl (q0G rfl T.f9 (qA (qO vD (j9 jK (by rfl) T.tY gZ (qA (pv 1) qD)) (pv 2)) qD)) (qU (i:=5) yX.nd rfl (Or.inl rfl)) (qB (q0K (i:=6) ["_law_stuff","_law_page"] [1] rfl (q0H rfl T.f9 (qA (qO yM (pv 5) (pv 2)) (qA (qO yZ (qO yM (pv 5) (pv 2)) (pv 2)) qD))) (λ_ _ _ _ _=>(qU (i:=1) (show List.Nodup (["_law_stuff","_law_page"]:List Str)from by decide) rfl (Or.inl rfl))) (λ_ _ _ _ _=>(uL (qP q8B (qW (q68 (K:=K) rfl) (pv 0) (pv 1) (λ_ _=>rfl)) yY (qS _)))) (λ_ _ _ _ _=>(pv 1)) (by kernel_rfl) (jX (by decide)) yX.nd rfl (Or.inl rfl)) (qE (jB (qP vS (j9 jK (by rfl) T.tY gZ (qA (pv 6) qD)) (pv 2) (qS _)) (qE (qX (q3B gH g0 g5 uR (pv 4) (qA (yH (qA (jC (pv 0) T.bL T.iK (vR T S).mono hr S.fL.b .nil qK (qA (pv 5) qD)) (qA (pv 5) qD))) qD q0J)))) (qE (qX (q3B gH cO cP q4L (pv 3) (qA (pv 6) qD)))))))) (qB (uE gU rfl (jZ (j9 q45 (by rfl) T.tO (by kernel_rfl) (qA (pv 4) qD))) (q5Q rfl (jV (qU (i:=7) yX.nd rfl (Or.inl rfl)) (jV (qU (i:=5) yX.nd rfl (Or.inl rfl)) q11))) (qE (qX (q3B gH cO cP q4L (pv 3) (qA (zA (q76 rfl) (by rfl) T.aAG (by kernel_rfl) (qA (zA q9T (by rfl) T.f9 (by kernel_rfl) (qA (qO yM (pv 5) (pv 2)) (qA (qO yZ (qO yM (pv 5) (pv 2)) (pv 2)) qD))) qD)) qD))))) (qE (qL (pv 3))))))),?_⟩
  try dsimp-beta-proj-iota-zeta-eta only[wishK,cxK]
  refine⟨sz0,λsp H1 n1 s1 h1=>⟨sz0,λcl H2 n2 s2 h2=>?_⟩⟩
  have spc:sp≠cl:=qF h1 n2
  have s02:=s1.trans s2
  have nsp:=n1
  have ncl:=s1.free n2
  have eB:((bs.length:Nat):Int) / (s.q.P:Int)=(s.q.B:Int):=by
   rw[lbs,gL,Int.mul_ediv_cancel _ (show(s.q.P:Int)≠0 by lia)]
  refine⟨_,rfl,sl,bs,rfl,.inl (SqL.of (s02 _ _ hs)),_,rfl,iI ⟨⟨by lia,by lia⟩,(s.q.B:Int),gX (λx=>[V.int x]) eB,by lia,by lia,?_⟩⟩
  rw[kW]
  refine zI (λu σ' H'=>∃y5 y6 cs,σ'=[some (.ref c),some (.ref sl),some (.int (s.q.P:Int)),some (.ref sp),some (.ref cl),y5,y6,none]∧H' sp=some (.lst ((opU s u).map V.int))∧H' cl=some (.lst cs)∧Paired (TupD H') cs ((clU s u).map (keyN s.cl))∧Same H H') ⟨_,_,[],rfl,s2 _ _ h1,h2,.nil,s02⟩ (λu σ' H' D' nxt hu' hp=>?_) (λσ' H' hp=>?_)
  ·obtain⟨y5,y6,cs,rfl,hsp,hcl,pr,sm⟩:=hp
   obtain⟨f,ef,fP⟩:=w.qs.ok.wr u hu'
   have:=bP u hu'
   rw[nN]
   refine⟨_,rfl,_,rfl,iI ⟨cmN (c256 u hu'),_,rfl,_,rfl,iI ⟨cmN (c256 u hu'),_,rfl,iI ⟨_,_,rfl,?_⟩⟩⟩⟩
   rw[bPe]
   refine⟨rngB (kO (bP u hu') lbp),λml H3 n3 s3 h3=>?_⟩
   rw[rngN]
   have ecu:clrP s u=(List.range (s.q.P-f)).map λi=>((u*s.q.P+(f+i):Nat):Int):=by
    unfold clrP
    rw[ef,kW]
   refine q4N (D:=ml) (λi HA=>Same H' HA∧HA ml=some (.lst (((List.range (i-f)).map λj=>((u*s.q.P+(f+j):Nat):Int)).map V.int))) ⟨s3,by rw[Nat.zero_sub];exact h3⟩ (λi HA hi hp=>?_) (λHA hp=>?_)
   ·obtain⟨sA,hA⟩:=hp
    have iN:u*s.q.P+i<bs.length:=by lia
    have at1:atI bs (((u*s.q.P:Nat):Int)+(i:Int))=some (bs.getD (u*s.q.P+i) .non):=by
     rw[←dX]
     exact u7 (by rw[kJ,hX iN];rfl)
    refine⟨_,rfl,_,rfl,sl,bs,_,_,rfl,rfl,SqL.of (sA _ _ (sm _ _ hs)),at1,rfl,_,rfl,?_⟩
    cases hpg:s.pg (u*s.q.P+i)with
    |none=>
     have fi:f≤i:=pH.mp λy=>by
      obtain⟨v,e⟩:=p.wr u i hu' hi (by rw[ef];lia)
      rw[hpg]at e
      cases e
     rw[pa.n _ hpg,hG rfl]
     refine iteT ⟨_,rfl,_,hA,?_,λb o e=>?_,?_⟩
     ·rw[hC,hC,mG]
      lia
     ·rw[qC (qF e n3)]
      exact sA _ _ e
     ·rw[qH,show i+1-f=i-f+1 by lia,rF,mJ,mJ,←dX]
      show _=some (HO.lst (_++[V.int ((u*s.q.P+(f+(i-f)):Nat):Int)]))
      rw[show f+(i-f)=i by lia]
    |some v=>
     have fi:i<f:=Nat.not_le.mp λy=>by
      rw[w.cr u i hu' (by rw[ef];lia) hi]at hpg
      cases hpg
     obtain⟨tp,e1,_⟩:=pa.v _ v hpg
     rw[e1,hI (λz=>by cases z)]
     refine iteF ⟨sA,?_⟩
     rw[show i+1-f=i-f by lia]
     exact hA
   obtain⟨sA,hA⟩:=hp
   rw[←ecu]at hA
   have lcu:(clrP s u).length=s.q.P-f:=by rw[ecu,hC,mG]
   refine⟨_,rfl,ml,_,rfl,.inl (SqL.of hA),_,rfl,rfl,_,rfl,?_⟩
   rw[hC,lcu,zF]
   have ru:List.range (u+1)=List.range u++[u]:=rF
   by_cases z:f=0
   ·rw[hG (show((s.q.P-f:Nat):Int)=(s.q.P:Int) by lia)]
    have fz:s.q.fi.getD u 0=0:=by rw[ef];lia
    have hcl':=sA _ _ hcl
    have lcs:cs.length≤u:=by
     rw[pr.len,hC]
     refine kO (mB _ _) ?_
     rw[mG]
     exact kM _
    have hc':=hc.same (sm.trans sA)
    refine iteT ⟨_,rfl,.inl ⟨rfl,_,SqL.of hcl'⟩,iV rfl (iM hc'.ins rfl ⟨_,rfl,c,a,m,_,rfl,hc',mok,by lia,by lia,_,rfl,sz2,λtn H5 n5 s5 h5=>⟨cl,cs,_,rfl,rfl,s5 _ _ hcl',by lia,?_⟩⟩)⟩
    rw[kW,ecl]at h5
    refine nxt _ _ ⟨_,_,_,rfl,?_,qH,?_,λb o e=>?_⟩
    ·rw[qC spc]
     unfold opU
     rw[ru,gF,mW,kB (by rw[fz];decide),cQ,gK]
     exact s5 _ _ (sA _ _ hsp)
    ·unfold clU
     rw[ru,gF,mW,kD (by rw[fz];decide),cQ,mJ]
     exact L2.Paired.snoc (Paired.mapP (jA (jA pr sA) s5) λx k z=>z.upd (s5 _ _ hcl') (λ_ q=>by cases q)) (TupD.upd ⟨tn,rfl,h5⟩ (s5 _ _ hcl') (λ_ q=>by cases q))
    ·rw[qC (qF e ncl)]
     exact s5 _ _ (sA _ _ (sm _ _ e))
   ·rw[hI (show ¬((s.q.P-f:Nat):Int)=(s.q.P:Int) by lia)]
    have fz:s.q.fi.getD u 0≠0:=by rw[ef];lia
    have hsp':=sA _ _ hsp
    have lsp:(opU s u).length≤256:=by
     refine kO (q4I _) (kO (gA _ (kO (mB _ _) ?_)) (cap u (by lia)))
     rw[mG]
     exact kM _
    refine iteF ⟨_,rfl,.inl ⟨rfl,_,SqL.of hsp'⟩,_,rfl,sp,ml,_,_,rfl,rfl,hsp',hA,by rw[hC,hC];lia,?_⟩
    refine nxt _ _ ⟨_,_,cs,rfl,?_,?_,?_,λb o e=>?_⟩
    ·unfold opU
     rw[qH,ru,gF,mW,kD (hG fz),cQ,lO,wE,sZ,gK,mJ]
    ·rw[qC spc.symm]
     exact sA _ _ hcl
    ·unfold clU
     rw[ru,gF,mW,kB (by rw[hI fz];decide),cQ,gK]
     exact Paired.mapP (jA pr sA) λx k z=>z.upd hsp' (λ_ q=>by cases q)
    ·rw[qC (qF e nsp)]
     exact sA _ _ (sm _ _ e)
  ·obtain⟨y5,y6,cs,rfl,hsp,hcl,pr,sm⟩:=hp
   have lcs:cs.length≤16:=by
    rw[pr.len,hC]
    refine kO (mB _ _) ?_
    rw[mG]
    exact b2
   refine⟨_,rfl,cl,cs,_,2,rfl,SqL.of hcl,q8Q pr,λk hk=>?_,by decide,by lia,λqs pp pw l H5 n5 s5 h5=>?_⟩
   ·obtain⟨b,_,rfl⟩:=kP.mp hk
    rfl
   have pr5:=q6H (jA pr s5) (λi hi=>mL.mp (pp.mem_iff.mp hi))
   have pm5:=q6G pr.len.symm pp
   generalize (qs.map λi=>((clU s s.q.B).map (keyN s.cl)).getD i [])=Lk at pw pr5 pm5
   obtain⟨fl,efl⟩:∃fl:List Nat,Lk=fl.map (keyN s.cl):=⟨Lk.map λk=>(k.getD 1 0).toNat,by
    rw[gS]
    refine(xZ _).symm.trans (gN λk hk=>?_)
    obtain⟨b,_,rfl⟩:=kP.mp (pm5.mem_iff.mp hk)
    rfl⟩
   subst efl
   have eC:yI s.q.B (noB s.q.B) s.q.fi=clU s s.q.B:=by
    unfold yI clU
    rw[show uD s.q.B (noB s.q.B)=List.range s.q.B from yD]
   have fr:FreeIs s.q.B (noB s.q.B) s.cl s.q.fi fl:=⟨by
    rw[eC]
    have:=pm5.map λk=>(k.getD 1 0).toNat
    rw[gS,gS,show((λk:List Int=>(k.getD 1 0).toNat) ∘ keyN s.cl)=id from rfl,xZ,xZ]at this
    exact this,pw⟩
   have s05:=sm.trans s5
   have llf:=fr.len
   refine⟨l,rfl,⟨_,SqL.of h5⟩,?_⟩
   refine q4R (K:=K) (xs:=qs.map λi=>cs.getD i .non) (λi σ' H6=>∃y5 y6 y7,σ'=[some (.ref c),some (.ref sl),some (.int (s.q.P:Int)),some (.ref sp),some (.ref cl),y5,y6,y7]∧H6 sp=some (.lst ((opn s++(fl.take i).flatMap (clrP s)).map V.int))∧∀b o,b≠sp→H5 b=some o→H6 b=some o) ⟨_,_,_,rfl,by rw[List.take_zero,sZ,gK];exact s5 _ _ hsp,λ_ _ _ e=>e⟩ (λi σ' H6 hi hp=>?_) (λi v σ' H6 D' nxt hv hp=>?_) (λσ' H6 hp=>?_)
   ·obtain⟨y5,y6,y7,rfl,hsp6,kp⟩:=hp
    exact SqL.of (kp _ _ (qF hsp n5).symm h5)
   ·obtain⟨y5,y6,y7,rfl,hsp6,kp⟩:=hp
    obtain⟨kd,hkd,x',rfl,hx⟩:=Paired.at pr5 hv
    rw[mC]at hkd
    obtain⟨b,hb,rfl⟩:=mK.mp hkd
    obtain⟨il,rfl⟩:=kC.mp hb
    obtain⟨bB,_,b0⟩:=fr.mem (gG il)
    have hx6:=kp _ _ (λz=>by rw[z,s5 _ _ hsp]at hx;cases hx) hx
    have:=bP _ bB
    have lsp:(opn s++(fl.take i).flatMap (clrP s)).length≤512:=by
     rw[kZ]
     have h1:(opn s).length≤256:=by
      refine kO (q4I _) (kO (gA _ (kO (mB _ _) ?_)) (cap s.q.B (kM _)))
      rw[mG]
      exact kM _
     have h2:((fl.take i).flatMap (clrP s)).length≤256:=by
      refine kO (q4I _) (kO (gA _ ?_) (cap s.q.B (kM _)))
      rw[gJ]
      lia
     lia
    refine⟨x',_,rfl,SqT.of hx6,rfl,_,_,rfl,_,_,rfl,rfl,?_⟩
    refine⟨_,rfl,.inl ⟨rfl,_,SqL.of hsp6⟩,_,rfl,_,rfl,iI ⟨cmN (c256 _ bB),_,rfl,_,rfl,iI ⟨cmN (c256 _ bB),_,rfl,iI ⟨_,_,rfl,λrg H7 n7 s7 h7=>?_⟩⟩⟩⟩
    rw[bPe]at h7
    obtain⟨g1,g2,g3,g4⟩:=rngB (kO (bP _ bB) lbp)
    refine⟨rg,_,_,rfl,h7,g1,g2,g3,g4,by rw[rngN];exact kO p2 (by decide),λll H8 n8 s8 h8=>?_⟩
    rw[rngN]at h8
    have hsp8:=s8 _ _ (s7 _ _ hsp6)
    refine⟨sp,ll,_,_,rfl,rfl,hsp8,h8,by rw[hC,hC,mG];lia,?_⟩
    refine nxt _ _ ⟨_,_,_,rfl,?_,λb o nb e=>?_⟩
    ·rw[qH,←mH il,lO,wE,sZ,gK,←wA,mJ (l₂:=clrP s fl[i])]
     refine gX (λz=>some (HO.lst (List.map V.int (opn s++(fl.take i).flatMap (clrP s))++z))) ?_
     unfold clrP
     rw[b0,gS]
     refine gN λj _=>?_
     show V.int (((fl[i] *s.q.P:Nat):Int)+(j:Int))=V.int ((fl[i] *s.q.P+((0:Int).toNat+j):Nat):Int)
     rw[←dX,show(0:Int).toNat+j=j from pZ j]
    ·rw[qC nb]
     exact s8 _ _ (s7 _ _ (kp b o nb e))
   ·obtain⟨y5,y6,y7,rfl,hsp6,kp⟩:=hp
    have lq:=pr5.len.trans (hC _)
    rw[lq,gC]at hsp6
    exact⟨_,rfl,kk sp fl H6 fr (λb o e=>kp _ _ (qF e nsp) (s05 _ _ e)) nsp hsp6⟩
theorem PgAt.set{H:Hp}{xs:List V}{g:Nat→Option (Int×Int)}(h:PgAt H xs g){e:Nat}{tn:Addr}{u:Int×Int}(he:e<xs.length)(ht:H tn=some (.tup [.int u.1,.int u.2])):PgAt H (xs.set e (.ref tn)) (λj=>if j=e then some u else g j):=by
 refine⟨λi z=>?_,λi v z=>?_⟩
 ·split at z
  ·cases z
  ·rename_i ne
   rw[qZ,kB (λy=>ne y.1.symm)]
   exact h.n i z
 ·split at z
  ·rename_i y
   cases z
   exact⟨tn,by rw[qZ,kD ⟨y.symm,he⟩],ht⟩
  ·rename_i ne
   rw[qZ,kB (λy=>ne y.1.symm)]
   exact h.v i v z
theorem PgAt.non{H:Hp}{xs:List V}{g:Nat→Option (Int×Int)}(h:PgAt H xs g){e:Nat}:PgAt H (xs.set e .non) (λj=>if j=e then none else g j):=by
 refine⟨λi z=>?_,λi v z=>?_⟩
 ·rw[qZ]
  split
  ·rfl
  ·rename_i ne
   split at z
   ·rename_i y
    rw[kJ,dG (pH.mp λq=>ne ⟨y.symm,by rw[←y];exact q⟩)]
    rfl
   ·exact h.n i z
 ·split at z
  ·cases z
  ·rename_i ne
   rw[qZ,kB (λy=>ne y.1.symm)]
   exact h.v i v z
noncomputable def stpL(s:XS)(i:Nat):List Int:=(List.range i).filterMap λj=>(s.pg j).map λv=>v.1 / 128
noncomputable def spBh:Sp:=λvs H Q _=>∃sl bs ml us ms kd KD k,∃s:XS,∃b:Nat,vs=[.ref sl,.int (s.q.P:Int),.int (b:Int),.ref ml,.ref kd]∧H sl=some (.lst bs)∧bs.length=s.q.B*s.q.P∧PgAt H bs s.pg∧H ml=some (.lst us)∧Paired (TupD H) us ms∧H kd=some (.dK (dB KD))∧KD.length≤64∧(∀y∈KD,0≤y.1∧y.1<64)∧(KD.map λy=>(2:Int) ^ y.1.toNat).sum=XS.bits s.hl∧WX k s∧Pgs s∧(∀i v,s.pg i=some v→i<s.q.B*s.q.P)∧(∃n,TopN s n)∧b<s.q.B∧(∀m∈ms,∃n p e,m=[n,p,e]∧(n,p)∈s.q.V∧0≤e∧e.toNat<s.q.B*s.q.P)∧∀l xs H',Same H H'→H l=none→H' l=some (.lst xs)→xs.length=s.q.B*s.q.P→PgAt H' xs (λj=>if j / s.q.P=b then none else(ms.foldl (bhS s) (s.q.nx-1,s.pg)).2 j)→Q (.ref l) H'
theorem q7J(T:Txt K mg t)(S:Fns K t):S.tP.Ok0 P w mg base 2 spBh:=by
 refine S.tP.F.ok0 yC λcdv A _ s H vs Q E hr h=>?_
 ·obtain⟨sl,bs,ml,us,ms,kd,KD,k,s,b,rfl,hs,lbs,pa,hm,pm,hk,lk,kb,sk,w,p,bd,⟨n0,top⟩,hb,mk,kk⟩:=h
  have hu:=q1X hr
  have s9:(99999:Nat)<sizeLine:=by decide
  have p1:=w.qs.ok.p1
  have p2:=w.qs.ok.p2
  have b2:=w.qs.ok.b2
  have lbp:s.q.B*s.q.P≤256:=pA b2 p2
  refine⟨_,(qB (qT (i:=5) yC.nd rfl (Or.inl rfl) (zA vE (by rfl) T.aAG (by kernel_rfl) (qA (pv 0) qD))) (qB (qT (i:=6) yC.nd rfl (Or.inl rfl) (j9 (qD0 rfl) (by rfl) T.aDS (by kernel_rfl) (qA (u9 ["_law_thing"] [] rfl (jZ (pv 0)) (λ_ _ _ _ _=>(qU (i:=0) (show List.Nodup (["_law_thing"]:List Str)from by decide) rfl (Or.inl rfl))) (λ_ _ _ _ _=>(uL (qP q2W (pv 0) yY (qS _)))) (λ_ _ _ _ _=>(qO vD (qW (q1A (K:=K) rfl) (pv 0) qI (λ_ _=>rfl)) qI)) (by kernel_rfl) (jX (by decide))) qD))) (qB (uE gU rfl (jZ (pv 3)) (q5Q rfl (jV (qU (i:=7) yC.nd rfl (Or.inl rfl)) (jV (qU (i:=8) yC.nd rfl (Or.inl rfl)) (jV (qU (i:=9) yC.nd rfl (Or.inl rfl)) q11)))) (qB (qT (i:=6) yC.nd rfl (Or.inl rfl) (qO yZ (pv 6) qI)) (qB (q12 (yH (qA (qO yZ (qO yM (pv 6) qI) (pv 7)) (qA (qW jI (qW jD (pv 0) (pv 8) (λ_ _=>rfl)) qI (λ_ _=>rfl)) qD))) (q1V (pv 5) (pv 9) yO)) (qE (jB (qP vS (pv 7) qI (qS _)) (qE (q12 (yH (qA (qO yZ (qO yM (pv 6) qI) qI) (qA (qY (qAJ T S).mono hr rfl T.aCN T.aCG S.aBB.b .nil qK (qA (pv 4) qD)) qD))) (q1V (pv 5) (pv 9) yO))) qR))))) (qB (uE gU rfl (q0H rfl T.f9 (qA (qO yM (pv 2) (pv 1)) (qA (qO yZ (qO yM (pv 2) (pv 1)) (pv 1)) qD))) (qU (i:=10) yC.nd rfl (Or.inl rfl)) (qE (q12 yY (q1V (pv 5) (pv 10) yO)))) (qE (qL (pv 5))))))),?_⟩
  try dsimp-beta-proj-iota-zeta-eta only[wishK,cxK]
  refine⟨_,rfl,sl,bs,rfl,.inl (SqL.of hs),λbl H1 n1 s1 h1=>?_⟩
  refine⟨_,rfl,sl,rfl,⟨_,SqL.of (s1 _ _ hs)⟩,λD H2 nD s2 hD=>?_⟩
  refine uW (K:=K) (xs:=bs) (D:=D) (λi H3=>Same H1 H3∧H3 D=some (.lst ((stpL s i).map V.int))) ⟨s2,hD⟩ (λi H3 hp=>SqL.of (hp.1 _ _ (s1 _ _ hs))) (λi v H3 hv hp=>?_) (λH3 hp=>?_)
  ·obtain⟨s3,h3⟩:=hp
   obtain⟨il,ev⟩:=kC.mp hv
   have gv:bs.getD i .non=v:=by rw[kJ,hv];rfl
   have ls:(stpL s i).length≤i:=by
    unfold stpL
    refine kO (dL _ _) ?_
    rw[mG]
    exact kM _
   have es:stpL s (i+1)=stpL s i++((s.pg i).map λv=>v.1 / 128).toList:=by
    unfold stpL
    rw[rF,pE,dD]
    cases s.pg i<;>rfl
   refine⟨_,rfl,rfl,_,rfl,?_⟩
   cases hpg:s.pg i with
   |none=>
    rw[←gv,pa.n i hpg,hG rfl]
    refine iteF ⟨s3,?_⟩
    rw[es,hpg]
    simpa using h3
   |some u=>
    obtain⟨tp,e1,e2⟩:=pa.v i u hpg
    rw[←gv,e1,hI (λz=>by cases z)]
    refine iteT ⟨_,rfl,iT (k:=0) (v:=.int u.1) (SqT.of (s3 _ _ (s1 _ _ e2))) rfl (iI ⟨⟨by decide,by decide⟩,_,h3,by rw[hC];lia,λb o e=>?_,?_⟩)⟩
    ·rw[qC (qF e nD)]
     exact s3 _ _ e
    ·rw[qH,es,hpg,mJ]
     rfl
  obtain⟨s3,h3⟩:=hp
  have s03:=s1.trans s3
  have mst:∀a,a∈stpL s bs.length↔∃j v,j<bs.length∧s.pg j=some v∧v.1 / 128=a:=λa=>by
   unfold stpL
   rw[rR]
   constructor
   ·rintro⟨j,hj,e⟩
    obtain⟨v,e1,e2⟩:=mK.mp e
    exact⟨j,v,mL.mp hj,e1,e2⟩
   ·rintro⟨j,v,hj,e1,e2⟩
    exact⟨j,mL.mpr hj,by rw[e1,←e2];rfl⟩
  have tin:s.q.nx-1∈stpL s bs.length:=by
   obtain⟨p',v,h1,h2,h3⟩:=top
   exact(mst _).mpr ⟨_,v,by rw[lbs];exact bd _ _ h2,h2,h3⟩
  refine⟨D,_,rfl,SqL.of h3,c8 tin,λM hM hle=>?_⟩
  obtain rfl:M=s.q.nx-1:=by
   obtain⟨j,v,_,e1,e2⟩:=(mst _).mp hM
   have:=(p.mr j v e1).2.1
   have:=hle _ tin
   lia
  have h13:=s3 _ _ h1
  refine⟨_,rfl,ml,rfl,⟨_,SqL.of (s03 _ _ hm)⟩,?_⟩
  refine q4R (K:=K) (xs:=us) (λi σ' H'=>∃y7 y8 y9 xs,σ'=[some (.ref sl),some (.int (s.q.P:Int)),some (.int (b:Int)),some (.ref ml),some (.ref kd),some (.ref bl),some (.int ((ms.take i).foldl (bhS s) (s.q.nx-1,s.pg)).1),y7,y8,y9,none]∧Same H H'∧H' bl=some (.lst xs)∧xs.length=s.q.B*s.q.P∧PgAt H' xs ((ms.take i).foldl (bhS s) (s.q.nx-1,s.pg)).2) ⟨_,_,_,bs,rfl,s03,h13,lbs,pa.keep (Keep.same s03) (F:=[])⟩ (λi σ' H' hi hp=>?_) (λi v σ' H' D' nxt hv hp=>?_) (λσ' H' hp=>?_)
  ·obtain⟨y7,y8,y9,xs,rfl,sm,hbl,lx,px⟩:=hp
   exact SqL.of (sm _ _ hm)
  ·obtain⟨y7,y8,y9,xs,rfl,sm,hbl,lx,px⟩:=hp
   obtain⟨m,hmm,x',rfl,hx⟩:=Paired.at pm hv
   obtain⟨il,rfl⟩:=kC.mp hmm
   obtain⟨n,q,e,em,hV,e0,eN⟩:=mk _ (gG il)
   have tk:(ms.take (i+1)).foldl (bhS s) (s.q.nx-1,s.pg)=bhS s ((ms.take i).foldl (bhS s) (s.q.nx-1,s.pg)) [n,q,e]:=by
    rw[←mH il,wY,em]
    rfl
   rw[tk]at nxt
   rw[em]at hx
   generalize (ms.take i).foldl (bhS s) (s.q.nx-1,s.pg)=A at px nxt ⊢
   obtain⟨st,g⟩:=A
   obtain⟨c,f,v,a1,a2,a3,a4,a5⟩:=w.vl _ hV
   have a3:q=_:=a3
   obtain⟨tp,e1,e2⟩:=pa.v _ v a5
   have hcf:c*s.q.P+f<bs.length:=by
    rw[lbs]
    exact bd _ _ a5
   refine⟨x',_,rfl,SqT.of (sm _ _ hx),rfl,_,_,rfl,_,_,rfl,_,_,rfl,rfl,?_⟩
   refine⟨_,rfl,iI ?_⟩
   refine⟨_,rfl,iI ⟨.inr ⟨by decide,by decide⟩,_,rfl,iI ⟨_,rfl,_,rfl,sl,bs,_,.ref tp,rfl,rfl,SqL.of (sm _ _ hs),?_,iT (k:=1) (v:=.int v.2) (SqT.of (sm _ _ e2)) rfl ⟨sz2,λtn H4 n4 s4 h4=>?_⟩⟩⟩⟩
   ·rw[a3]
    refine u7 ?_
    rw[←e1,kJ,hX hcf]
    rfl
   have hbl4:=s4 _ _ hbl
   have eN':e.toNat<xs.length:=by rw[lx];exact eN
   have ixe:ixN xs.length e=some e.toNat:=by
    have:=q21 (j:=e.toNat) eN'
    rw[pU e0]at this
    exact this
   refine⟨_,rfl,_,rfl,bl,xs,e,_,rfl,rfl,hbl4,ixe,?_⟩
   have up:∀{o:HO} {b:Addr} {ys:List V},H4 b=some (.tup ys)→(upd H4 bl o) b=some (.tup ys):=fun {o b ys} z=>by
    rw[qC (λy=>by rw[y,hbl4]at z;cases z)]
    exact z
   have h45:=up (o:=.lst (xs.set e.toNat (.ref tn))) h4
   have hbl5:(upd H4 bl (.lst (xs.set e.toNat (.ref tn)))) bl=_:=qH
   have sm5:Same H (upd H4 bl (.lst (xs.set e.toNat (.ref tn)))):=λb o z=>by
    rw[qC (qF z n1)]
    exact s4 _ _ (sm _ _ z)
   have px5:PgAt (upd H4 bl (.lst (xs.set e.toNat (.ref tn)))) xs g:=⟨px.n,λi v z=>by
    obtain⟨tq,z1,z2⟩:=px.v i v z
    exact⟨tq,z1,up (s4 _ _ z2)⟩⟩
   generalize upd H4 bl (.lst (xs.set e.toNat (.ref tn)))=H5 at h45 hbl5 sm5 px5 ⊢
   have px5':=px5.set (u:=((st+1)*128+n,v.2)) eN' h45
   refine⟨_,rfl,rfl,_,rfl,?_⟩
   rw[zF]
   by_cases z:n=64
   ·rw[hG z]
    refine iteT ?_
    refine⟨_,rfl,iI ⟨.inr ⟨by decide,by decide⟩,iI ⟨_,rfl,kd,KD,rfl,sm5 _ _ hk,lk,kb,λH6 s6=>⟨sz2,λtm H7 n7 s7 h7=>?_⟩⟩⟩⟩
    have hbl7:=s7 _ _ (s6 _ _ hbl5)
    have eN7:e.toNat<(xs.set e.toNat (.ref tn)).length:=by rw[gD];exact eN'
    refine⟨_,rfl,_,rfl,bl,_,e,e.toNat,rfl,rfl,hbl7,by rw[gD];exact ixe,?_⟩
    have up7:∀{o:HO} {b:Addr} {ys:List V},H7 b=some (.tup ys)→(upd H7 bl o) b=some (.tup ys):=fun {o b ys} z=>by
     rw[qC (λy=>by rw[y,hbl7]at z;cases z)]
     exact z
    refine nxt _ _ ⟨_,_,_,_,rfl,λb o z=>?_,qH,by rw[gD,gD];exact lx,?_⟩
    ·rw[qC (qF z n1)]
     exact s7 _ _ (s6 _ _ (sm5 _ _ z))
    have px8:=PgAt.set (u:=((st+1)*128+64,(KD.map λy=>(2:Int) ^ y.1.toNat).sum)) ⟨px5'.n,λi v z=>by
     obtain⟨tq,z1,z2⟩:=px5'.v i v z
     exact⟨tq,z1,up7 (o:=.lst ((xs.set e.toNat (.ref tn)).set e.toNat (.ref tm))) (s7 _ _ (s6 _ _ z2))⟩⟩ eN7 (up7 h7)
    have ev:s.val q n=(KD.map λy=>(2:Int) ^ y.1.toNat).sum:=by
     unfold XS.val
     rw[kD z,sk]
    show PgAt _ _ (λj=>if j=e.toNat then some ((st+1)*128+n,s.val q n)else g j)
    rw[ev,z,show(λj=>if j=e.toNat then some ((st+1)*128+64,(KD.map λy=>(2:Int) ^ y.1.toNat).sum)else g j)=λj=>if j=e.toNat then some ((st+1)*128+64,(KD.map λy=>(2:Int) ^ y.1.toNat).sum)else if j=e.toNat then some ((st+1)*128+n,v.2)else g j from funext λj=>by split<;>simp_all]
    exact px8
   ·rw[hI z]
    refine iteF (nxt _ _ ⟨_,_,_,_,rfl,sm5,hbl5,by rw[gD];exact lx,?_⟩)
    have ev:s.val q n=v.2:=by
     unfold XS.val
     rw[kB z,a3,kW,a5]
     rfl
    show PgAt H5 _ (λj=>if j=e.toNat then some ((st+1)*128+n,s.val q n)else g j)
    rw[ev]
    exact px5'
  ·obtain⟨y7,y8,y9,xs,rfl,sm,hbl,lx,px⟩:=hp
   rw[pm.len,gC]at px
   have bB:b*s.q.P+s.q.P≤s.q.B*s.q.P:=by
    rw[←rA]
    exact gA _ hb
   have b256:b≤256:=kO (wN hb) (kO b2 (by decide))
   refine⟨_,rfl,_,rfl,iI ⟨cmN b256,_,rfl,_,rfl,iI ⟨cmN b256,_,rfl,iI ⟨_,_,rfl,?_⟩⟩⟩⟩
   rw[←gL]
   refine⟨rngB (kO bB lbp),?_⟩
   rw[rngN]
   generalize (us.length:Nat)=lu
   generalize (ms.foldl (bhS s) (s.q.nx-1,s.pg)).2=g at px kk
   refine zI (λf σ' H3=>∃y10 xs,σ'=[some (.ref sl),some (.int (s.q.P:Int)),some (.int (b:Int)),some (.ref ml),some (.ref kd),some (.ref bl),some (.int ((ms.take lu).foldl (bhS s) (s.q.nx-1,s.pg)).1),y7,y8,y9,y10]∧Same H H3∧H3 bl=some (.lst xs)∧xs.length=s.q.B*s.q.P∧PgAt H3 xs (λj=>if b*s.q.P≤j∧j<b*s.q.P+f then none else g j)) ⟨_,xs,rfl,sm,hbl,lx,?_⟩ (λf σ' H3 D' nxt hf hp=>?_) (λσ' H3 hp=>?_)
   ·rw[show(λj=>if b*s.q.P≤j∧j<b*s.q.P+0 then none else g j)=g from funext λj=>kB (by lia)]
    exact px
   ·obtain⟨y10,xs,rfl,sm,hbl,lx,px⟩:=hp
    refine⟨_,rfl,_,rfl,bl,xs,_,b*s.q.P+f,rfl,rfl,hbl,by rw[←dX];exact q21 (by lia),?_⟩
    refine nxt _ _ ⟨_,_,rfl,λb o z=>?_,qH,by rw[gD];exact lx,?_⟩
    ·rw[qC (qF z n1)]
     exact sm _ _ z
    have px3:=px.non (e:=b*s.q.P+f)
    rw[show(λj=>if b*s.q.P≤j∧j<b*s.q.P+(f+1)then none else g j)=λj=>if j=b*s.q.P+f then none else if b*s.q.P≤j∧j<b*s.q.P+f then none else g j from funext λj=>by
     by_cases z:j=b*s.q.P+f
     ·rw[kD (by lia),kD z]
     ·rw[kB z]
      by_cases y:b*s.q.P≤j∧j<b*s.q.P+f
      ·rw[kD y,kD (by lia)]
      ·rw[kB y,kB (by lia)]]
    exact⟨px3.n,λi v z=>by
     obtain⟨tq,z1,z2⟩:=px3.v i v z
     refine⟨tq,z1,?_⟩
     rw[qC (λy=>by rw[y,hbl]at z2;cases z2)]
     exact z2⟩
   ·obtain⟨y10,xs,rfl,sm,hbl,lx,px⟩:=hp
    refine⟨_,rfl,kk bl xs H3 sm n1 hbl lx ?_⟩
    rw[show(λj=>if j / s.q.P=b then none else g j)=λj=>if b*s.q.P≤j∧j<b*s.q.P+s.q.P then none else g j from funext λj=>by
     have:(b*s.q.P≤j∧j<b*s.q.P+s.q.P)↔j / s.q.P=b:=by
      rw[aT (by lia)]
      generalize b*s.q.P=z
      lia
     by_cases z:j / s.q.P=b
     ·rw[kD z,kD (this.mpr z)]
     ·rw[kB z,kB (λy=>z (this.mp y))]]
    exact px
theorem vZ{H:Hp}:∀{rs:List V} {ts:List Tl},Tls H rs ts→Paired (TupD H) rs (ts.map λT=>[T.b,T.lv,T.cl,T.bo])
 |_,_,.nil=>.nil
 |_,_,.cons ⟨p,e,h⟩ r=>.cons ⟨p,e,h⟩ (vZ r)
theorem q0X{H:Hp}{rs ds:List V}{L:List (List Int)}{p r:Addr}(n:Nat)(hp:H p=some (.lst rs))(hq:H r=some (.lst ds))(t1:Paired (TupD H) rs L)(t2:Paired (TupD H) ds L):Eqv K H (n+2) (.ref p) (.ref r):=by
 refine .lst (SqL.of hp) (SqL.of hq) (t1.len.trans t2.len.symm) λj x y hx hy=>?_
 obtain⟨b,hb,x',rfl,hx'⟩:=Paired.at t1 hx
 obtain⟨b',hb',y',rfl,hy'⟩:=Paired.at t2 hy
 obtain rfl:b=b':=kN (hb.symm.trans hb')
 refine .tup (SqT.of hx') (SqT.of hy') rfl λi u v hu hv=>?_
 obtain rfl:u=v:=kN (hu.symm.trans hv)
 rw[mC]at hu
 obtain⟨z,_,rfl⟩:=mK.mp hu
 exact .flat rfl
noncomputable def spPr:Sp:=λvs H Q _=>∃pa c1 c2 us rs op os p,vs=[.ref pa,.ref op]∧H pa=some (.tup [.str "rule",.ref c1,.int ((p:Pa).b:Int),.ref c2,.bl true])∧H c1=some (.lst rs)∧Tls H rs p.ts∧H op=some (.lst os)∧Tls H os p.ts∧H c2=some (.lst us)∧Paired (TupD H) us p.mv∧(∀m∈p.mv,m.length=3)∧(p.b:Int)∈p.ts.map Tl.b∧p.ts.length≤16∧∀H',Same H H'→Q (.bl true) H'
theorem q9E(T:Txt K mg t)(S:Fns K t):S.aAY.Ok0 P w mg base 2 spPr:=by
 refine S.aAY.F.ok0 q4D λcdv A _ s H vs Q E hr h=>?_
 ·obtain⟨pa,c1,c2,us,rs,op,os,p,rfl,hpa,h1,t1,ho,t2,h2,pr,m3,bi,l16,k⟩:=h
  have s9:(99999:Nat)<sizeLine:=by decide
  refine⟨_,(qB (jB (PW.pt (q0F (yL (jS (j9 yK (by rfl) T.bZ (by kernel_rfl) (qA (pv 0) (qA (zT rfl T.aC2 (by kernel_rfl) rfl (v:=.ty "tuple")) qD))))) (q0F (qP q5T (j9 jK (by rfl) T.tY gZ (qA (pv 0) qD)) qI (qS _)) (q0F (qP q5T (qW jI (pv 0) qI (λ_ _=>rfl)) q0Y (qS _)) (zX (qP qG2 (qW jI (pv 0) qI (λ_ _=>rfl)) uC (qS _))))))) (qE (qL uC)) qR) (qB (jB (PW.pt (q0F (yL (jS (j9 yK (by rfl) T.bZ (by kernel_rfl) (qA (qW jI (pv 0) qI (λ_ _=>rfl)) (qA (zT rfl T.aAG (by kernel_rfl) rfl (v:=.ty "list")) qD))))) (q0F (qP (q61 hr.units) (qW jI (pv 0) qI (λ_ _=>rfl)) (pv 1) (qS _)) (zX (yL (jS (j9 yK (by rfl) T.bZ (by kernel_rfl) (qA (qW jI (pv 0) qI (λ_ _=>rfl)) (qA (zT rfl T.aAG (by kernel_rfl) rfl (v:=.ty "list")) qD))))))))) (qE (qL uC)) qR) (qB (jB (PW.pt (q0F (yL (jS (qY (q4E T S).mono hr rfl T.t9 T.t8 S.tN.b .nil qK (qA (qW jI (pv 0) qI (λ_ _=>rfl)) qD)))) (zX (qP q15 (qW jI (pv 0) qI (λ_ _=>rfl)) (u9 ["_law_tally"] [] rfl (jZ (pv 1)) (λ_ _ _ _ _=>(qU (i:=0) (show List.Nodup (["_law_tally"]:List Str)from by decide) rfl (Or.inl rfl))) (λ_ _ _ _ _=>q18) (λ_ _ _ _ _=>(qW (q1A (K:=K) rfl) (pv 0) qI (λ_ _=>rfl))) (by kernel_rfl) (jX (by decide))) rfl)))) (qE (qL uC)) qR) (qB (uE gU rfl (jZ (qW jI (pv 0) qI (λ_ _=>rfl))) (qU (i:=2) q4D.nd rfl (Or.inl rfl)) (qE (jB (PW.pt (q0F (yL (jS (j9 yK (by rfl) T.bZ (by kernel_rfl) (qA (pv 2) (qA (zT rfl T.aC2 (by kernel_rfl) rfl (v:=.ty "tuple")) qD))))) (zX (qP q5T (j9 jK (by rfl) T.tY gZ (qA (u9 ["_law_number"] [] rfl (qI6 (pv 2)) (λ_ _ _ _ _=>(qU (i:=0) (show List.Nodup (["_law_number"]:List Str)from by decide) rfl (Or.inl rfl))) (λ_ _ _ _ _=>(uL (jS (qY (q4E T S).mono hr rfl T.t9 T.t8 S.tN.b .nil qK (qA (pv 0) qD))))) (λ_ _ _ _ _=>(pv 0)) (by kernel_rfl) (jX (by decide))) qD)) qI (qS _))))) (qE (qL uC)) qR))) (qE (qL uC)))))),?_⟩
  try dsimp-beta-proj-iota-zeta-eta only[wishK,cxK]
  refine⟨_,rfl,.ref pa,_,_,.type "tuple",_,rfl,rfl,.inl (.tup hpa),qE3,_,rfl,iteF ?_⟩
  refine⟨_,rfl,pa,_,rfl,.inr (SqT.of hpa),rfl,_,rfl,iteF ?_⟩
  refine⟨_,rfl,iT (k:=0) (v:=_) (SqT.of hpa) rfl ⟨rfl,_,rfl,iteF ?_⟩⟩
  refine⟨_,rfl,iT (k:=4) (v:=_) (SqT.of hpa) rfl ⟨true,true,rfl,rfl,_,rfl,iteF ?_⟩⟩
  refine⟨_,rfl,iT (k:=1) (v:=_) (SqT.of hpa) rfl ⟨.ref c1,_,_,.type "list",_,rfl,rfl,.inl (.lst h1),qE4,_,rfl,iteF ?_⟩⟩
  refine⟨_,rfl,iT (k:=1) (v:=_) (SqT.of hpa) rfl ⟨_,rfl,q0X 4 h1 ho (vZ t1) (vZ t2),_,rfl,iteF ?_⟩⟩
  refine⟨_,rfl,iT (k:=3) (v:=_) (SqT.of hpa) rfl ⟨.ref c2,_,_,.type "list",_,rfl,rfl,.inl (.lst h2),qE4,_,rfl,iteF ?_⟩⟩
  refine⟨_,rfl,iT (k:=2) (v:=_) (SqT.of hpa) rfl ⟨_,rfl,.int _,_,rfl,iteF ?_⟩⟩
  refine⟨_,rfl,iT (k:=2) (v:=_) (SqT.of hpa) rfl ⟨_,rfl,op,rfl,⟨_,SqL.of ho⟩,λD H1 nD s1 hD=>?_⟩⟩
  have po:=vZ t2
  have lo:=po.len
  rw[hC]at lo
  refine uW (K:=K) (xs:=os) (D:=D) (λi H2=>Same H H2∧H2 D=some (.lst (((p.ts.take i).map Tl.b).map V.int))) ⟨s1,hD⟩ (λi H2 hp=>SqL.of (hp.1 _ _ ho)) (λi v H2 hv hp=>?_) (λH2 hp=>?_)
  ·obtain⟨s2,hd⟩:=hp
   obtain⟨d,hdd,x',rfl,hx⟩:=Paired.at po hv
   rw[mC]at hdd
   obtain⟨A,hA,rfl⟩:=mK.mp hdd
   obtain⟨il,rfl⟩:=kC.mp hA
   refine⟨_,rfl,iT (k:=0) (v:=.int (p.ts[i].b)) (SqT.of (s2 _ _ hx)) rfl ⟨_,hd,by rw[hC,hC,gJ];lia,λb o e=>?_,?_⟩⟩
   ·rw[qC (qF e nD)]
    exact s2 _ _ e
   ·rw[qH,←mH il,mJ,mJ]
    rfl
  obtain⟨s2,hd⟩:=hp
  rw[lo,gC]at hd
  refine⟨D,_,rfl,.inl (SqL.of hd),rfl,qCF,_,rfl,?_⟩
  show if(!inV (.int (p.b:Int)) ((p.ts.map Tl.b).map V.int))=true then _ else _
  rw[q4G,hG bi]
  refine iteF ?_
  have hpa2:=s2 _ _ hpa
  have h22:=s2 _ _ h2
  refine⟨_,rfl,iT (k:=3) (v:=_) (SqT.of hpa2) rfl ⟨c2,rfl,⟨_,SqL.of h22⟩,?_⟩⟩
  refine q4R (K:=K) (xs:=us) (λi σ' H'=>∃v2,σ'=[some (.ref pa),some (.ref op),v2]∧Same H H') ⟨_,rfl,s2⟩ (λi σ' H' _ hp'=>?_) (λi x σ' H' D' nxt hx hp'=>?_) (λσ' H' hp'=>?_)
  ·obtain⟨v2,rfl,sm⟩:=hp'
   exact SqL.of (sm _ _ h2)
  ·obtain⟨v2,rfl,sm⟩:=hp'
   obtain⟨l,hl,x',rfl,hx'⟩:=Paired.at pr hx
   have l3:=m3 l (gE hl)
   have hx2:=sm _ _ hx'
   refine⟨_,rfl,.ref x',_,_,.type "tuple",_,rfl,rfl,.inl (.tup hx2),qE3,_,rfl,iteF ?_⟩
   refine⟨_,rfl,x',rfl,⟨_,SqT.of hx2⟩,λD H1 nD s1 hD=>?_⟩
   refine qGS (K:=K) (xs:=l.map V.int) (D:=D) (λi H2=>Same H' H2∧H2 D=some (.lst ((l.take i).map V.int))) ⟨s1,hD⟩ (λi H2 hp'=>SqT.of (hp'.1 _ _ hx2)) (λi y H2 hy hp'=>?_) (λH2 hp'=>?_)
   ·obtain⟨sm2,hd⟩:=hp'
    rw[mC]at hy
    obtain⟨z,hz,rfl⟩:=mK.mp hy
    have hi:=(kC.mp hz).1
    obtain rfl:l[i]=z:=(kC.mp hz).2
    refine⟨_,rfl,_,rfl,.int _,_,rfl,iteT ?_⟩
    refine⟨_,rfl,_,hd,?_,λb o e=>?_,?_⟩
    ·rw[hC,gJ]
     lia
    ·rw[qC (qF e nD)]
     exact sm2 _ _ e
    ·rw[qH,←mH hi,mJ]
     rfl
   ·obtain⟨sm2,hd⟩:=hp'
    rw[hC,gC]at hd
    refine⟨D,_,rfl,.inl (SqL.of hd),rfl,_,rfl,?_⟩
    rw[hC,l3]
    exact iteF (nxt _ _ ⟨_,rfl,sm.trans sm2⟩)
  ·obtain⟨v2,rfl,sm⟩:=hp'
   exact k H' sm
theorem q75{α β:Type}{F:α→β→Prop}:∀{l₁ m₁:List α} {l₂ m₂:List β},Paired F l₁ l₂→Paired F m₁ m₂→Paired F (l₁++m₁) (l₂++m₂)
 |_,_,_,_,.nil,g=>g
 |_,_,_,_,.cons a b,g=>.cons a (q75 b g)
theorem zW{H H':Hp}{zs:List V}{ds:List (Str×Int×Bool)}(pr:Recd H zs ds)(k:∀{y:Addr} {xs:List V},H y=some (.tup xs)→H' y=some (.tup xs)):Recd H' zs ds:=Paired.mapP pr λv d z=>by
 obtain⟨p,e,h⟩:=z
 exact⟨p,e,k h⟩
theorem qAK{M:Nat}{c:Addr}{a:CA}{m:CM}{s:XS}{D:Addr}{H H2:Hp}{R:Hp→Prop}(eN:M=s.q.B*s.q.P)(hc:ChipAt t.C_Chip H c a m)(mok:m.Ok)(elf:m.lf≠some 0)(ebl:m.bl=(s.q.B:Int))(epg:m.pg=(s.q.P:Int))(pat:PgAt H m.bo s.pg)(bd:∀i v,s.pg i=some v→i<s.q.B*s.q.P)(bp:s.q.B*s.q.P≤256)(nD:H D=none)(s2:Same H H2)(hD:H2 D=some (.lst []))
 (hd:∀bs H3,Same H H3→H3 D=some (.lst bs)→bs.length=s.q.B*s.q.P→PgAt H3 bs s.pg→R H3):
 ∃W:Nat→Nat→Hp→Prop,(∃m,W 0 m H2)∧∀i m H3,W i m H3→((Itr 0 M).stop i H3∧R H3)∨
  ((Itr 0 M).go i H3∧∃N:Hp→Prop,(∀H',N H'→∃m',m'<m∧W (i+1) m' H')∧∀y H4,(Itr 0 M).yld i H3 y H4→q1U 1 y [some (.ref c),none] H4 λσ5 H5=>q80 σ5 H5 λb H6=>
   if b=true then qAV t.C_Chip (Str.ofString "read") (qFN t) [] (λ_ _ _ _=>False) (tVar 0) (qBK (tVar 1) tNil) σ5 H6 (λv H7=>∃vs,H7 D=some (.lst vs)∧vs.length<sizeLine∧N (upd H7 D (.lst (vs++[v]))))else N H6):=by
 subst eN
 have s9:(99999:Nat)<sizeLine:=by decide
 have ebp:(s.q.B:Int)*(s.q.P:Int)=((s.q.B*s.q.P:Nat):Int):=by rw[gL]
 refine q4N (D:=D) (λi H3=>Same H H3∧H3 D=some (.lst (((List.range (s.q.B*s.q.P)).take i).map λi=>m.bo.getD i .non))) ⟨s2,hD⟩ (λi H3 hi hp=>?_) (λH3 hp=>?_)
 ·obtain⟨sm,hd⟩:=hp
  have hi':i<((List.range (s.q.B*s.q.P))).length:=by rw[mG];exact hi
  refine⟨_,rfl,c,a.dx,_,rfl,(hc.same sm).ins,rfl,_,rfl,c,a,m,_,rfl,hc.same sm,mok,by lia,by rw[ebl,epg,ebp];lia,λz=>absurd z elf,λ_=>?_⟩
  rw[show(0+(i:Int)).toNat=i by lia]
  refine⟨_,hd,?_,λb o e=>?_,?_⟩
  ·rw[hC,gJ,mG]
   lia
  ·rw[qC (qF e nD)]
   exact sm _ _ e
  ·rw[qH,←mH hi',mJ]
   simp
 ·obtain⟨s3,hd3⟩:=hp
  rw[nM (by rw[mG];exact kM _)]at hd3
  have gbs:∀i,i<s.q.B*s.q.P→((List.range (s.q.B*s.q.P)).map λi=>m.bo.getD i .non).getD i .non=m.bo.getD i .non:=λi hi=>by
   rw[kJ,mC,List.getElem?_range hi]
   rfl
  refine hd _ H3 s3 hd3 (by rw[hC,mG]) ⟨λi e=>?_,λi v e=>?_⟩
  ·by_cases z:i<s.q.B*s.q.P
   ·rw[gbs i z]
    exact pat.n i e
   ·rw[kJ,dG (by rw[hC,mG];lia)]
    rfl
  ·obtain⟨tp,e1,e2⟩:=pat.v i v e
   exact⟨tp,by rw[gbs i (bd i v e)];exact e1,s3 _ _ e2⟩
theorem qCI{H:Hp}{a b l1 l2 m1 m2:Addr}{y:Str}{z:Int}(ha:H a=some (.tup [.str y,.ref l1,.int z,.ref l2,.bl true]))(hb:H b=some (.tup [.str y,.ref m1,.int z,.ref m2,.bl true]))(e1:Eqv K H 5 (.ref l1) (.ref m1))(e2:Eqv K H 5 (.ref l2) (.ref m2)):Eqv K H 6 (.ref a) (.ref b):=by
 refine .tup (SqT.of ha) (SqT.of hb) rfl λj u v hu hv=>?_
 match j with
 |0=>cases hu;cases hv;exact .flat rfl
 |1=>cases hu;cases hv;exact e1
 |2=>cases hu;cases hv;exact .flat rfl
 |3=>cases hu;cases hv;exact e2
 |4=>cases hu;cases hv;exact .flat rfl
 |j+5=>cases hu
theorem qDD{H:Hp}{a b:Addr}{xs ys:List V}{g:Nat→Option (Int×Int)}(ha:H a=some (.lst xs))(hb:H b=some (.lst ys))(el:xs.length=ys.length)(pa:PgAt H xs g)(pb:PgAt H ys g):Eqv K H 6 (.ref a) (.ref b):=by
 refine .lst (SqL.of ha) (SqL.of hb) el λj u v hu hv=>?_
 have hu:xs.getD j .non=u:=by rw[kJ,hu];rfl
 have hv:ys.getD j .non=v:=by rw[kJ,hv];rfl
 cases e:g j with
 |none=>
  rw[←hu,←hv,pa.n j e,pb.n j e]
  exact .flat rfl
 |some w=>
  obtain⟨p,e1,e2⟩:=pa.v j w e
  obtain⟨q,f1,f2⟩:=pb.v j w e
  rw[←hu,←hv,e1,f1]
  refine .tup (SqT.of e2) (SqT.of f2) rfl λi u v hu hv=>?_
  obtain rfl:u=v:=kN (hu.symm.trans hv)
  match i with
  |0=>cases hu;exact .flat rfl
  |1=>cases hu;exact .flat rfl
  |i+2=>cases hu
theorem XX.log{H:Hp}{x:Sto}{k:Tm}{sh sr:Int}{r pp:Addr}{X:Sx}(h:XX t H x k sh sr r [] pp X){q:Addr}{zs zs':List V}{ds:List (Str×Int×Bool)}(e:H q=some (.lst zs))(pr:Recd H zs ds)(ne:ds≠[])(np:q∉fx t x r pp):XX t (upd H q (.lst zs')) x k sh sr r [] pp X:=by
 have kk:=Keep.upd (F:=[q]) (o:=.lst zs') e (λ_ z=>by cases z) (by simp)
 obtain⟨ps,h1,h2⟩:=h.hp
 obtain⟨z,zs0,rfl,y,d2,d3,hz⟩:∃z zs0,zs=.ref z::zs0∧∃y d2 d3,H z=some (.tup [.str y,d2,d3]):=by
  cases pr with
  |nil=>exact absurd rfl ne
  |cons a b=>
   obtain⟨p,rfl,hp⟩:=a
   exact⟨p,_,rfl,_,_,_,hp⟩
 have no:∀{l:Addr} {us:List V} {L:List (List Int)},H l=some (.lst us)→Paired (TupD H) us L→(upd H q (.lst zs')) l=some (.lst us):=fun {l us L} el pl=>by
  rw[qC (λy=>?_)]
  ·exact el
  ·rw[y,e]at el
   cases el
   cases pl with
   |cons a b=>
    obtain⟨p,e1,e2⟩:=a
    cases e1
    rw[hz]at e2
    rename_i m _
    cases m with
    |nil=>cases e2
    |cons i m=>injection e2 with e2;injection e2 with e2;injection e2 with e2;cases e2
 have npr:r∉[q]:=λy=>np (by rw[←kE.mp y];simp)
 refine⟨h.j.lst e (λy=>np (hU _ (hU _ y))),h.er,h.ru.keep kk (λy hy=>by rw[kE.mp hy];exact npr),h.of,h.ep,⟨ps,kk.k _ _ (λy=>np (by rw[←kE.mp y];simp)) h1,Paired.mapP h2 λv pa ⟨a,l1,l2,us,rs,e1,e2,e3,e4,e5,e6,e7,e8⟩=>⟨a,l1,l2,us,rs,e1,kk.tp _ _ e2,no e3 (vZ e4),yF kk e4,no e5 e6,Paired.mapP e6 λv d ⟨p',e',h'⟩=>⟨p',e',kk.tp _ _ h'⟩,e7,e8⟩⟩,h.np,h.nr⟩
theorem XX.offF{H:Hp}{x:Sto}{k:Tm}{sh sr:Int}{r:Addr}{rl:List Addr}{pp:Addr}{X:Sx}(h:XX t H x k sh sr r rl pp X){y:Addr}(e:H y=none):y∉fx t x r pp:=λz=>by
 obtain⟨o,e'⟩:=h.inF y z
 rw[e]at e'
 cases e'
noncomputable def spMd(t:Adr):Sp:=λvs H Q _=>∃x k sh sr r pp X kd KD,∃n:Nat,vs=[.ref x.s,.ref x.c,.int (X.s.q.P:Int),.ref kd]∧KX t H x k sh sr r [] pp X kd KD n∧k.ev=false∧Pk X.s∧n<1000∧∀X' H',KX t H' x k sh sr r [] pp X' kd KD (n+1)→Keep (fx t x r pp) H H'→Pk X'.s→X'.s.q.B=X.s.q.B→X'.s.q.P=X.s.q.P→Q (.bl true) H'
theorem qAL(T:Txt K mg t)(S:Fns K t)(B:BmIn base mg):S.aBE.Ok0 P w mg base 15 (spMd t):=by
 refine S.aBE.F.ok0 jN λcdv A _ s H vs Q E hr h=>?_
 ·obtain⟨x,k,sh,sr,r,pp,X,kd,KD,n,rfl,h,ev,pk,n9,kk⟩:=h
  have s9:(999999:Nat)<sizeLine:=by decide
  have hu:=q1X hr
  have w:=h.d.x.w
  have p1:=w.qs.ok.p1
  have p2:=w.qs.ok.p2
  have b2:=w.qs.ok.b2
  have pgs:=pk.pw.1
  have bd:=pk.pw.2.bd
  have rcn:=h.rcn
  have psn:=h.psn
  have bp:X.s.q.B*X.s.q.P≤16*16:=pA b2 p2
  have ebp:(X.s.q.B:Int)*(X.s.q.P:Int)=((X.s.q.B*X.s.q.P:Nat):Int):=by rw[gL]
  obtain⟨m,hc,mok,elf,erc,ecl,ebl,epg,pat,_⟩:=h.h.chip
  refine⟨_,(qB (qT (i:=4) jN.nd rfl (Or.inl rfl) (qO yM (qJ (pv 1) rfl) (pv 2))) (qB (q0K (i:=5) ["_law_chip","_law_page"] [1] rfl (q0G rfl T.f9 (qA (pv 4) qD)) (λ_ _ _ _ _=>(qU (i:=1) (show List.Nodup (["_law_chip","_law_page"]:List Str)from by decide) rfl (Or.inl rfl))) (λ_ _ _ _ _=>q18) (λ_ _ _ _ _=>(jW vI (pv 0) T.bL T.tG (q1N T S).mono hr S.oF.b .nil (qA (pv 1) qD))) (by kernel_rfl) (jX (by decide)) jN.nd rfl (Or.inl rfl)) (qB (qT (i:=6) jN.nd rfl (Or.inl rfl) (j8 (pv 0) T.bK T.fY (vC T S B).mono hr S.eW.b .nil qK)) (qB (qT (i:=7) jN.nd rfl (Or.inl rfl) (j8 (pv 1) T.bL T.oO (q0A T S).mono hr S.iQ.b .nil qK)) (qB (qT (i:=8) jN.nd rfl (Or.inl rfl) (qY (q9D T S).mono hr rfl T.aBZ T.aCE S.aAW.b .nil qK (qA (pv 1) (qA (pv 5) (qA (pv 2) qD))))) (qB (qT (i:=9) jN.nd rfl (Or.inl rfl) uC) (qB (qT (i:=10) jN.nd rfl (Or.inl rfl) yY) (q17 (qJ3 (λpins XE ES tk1 po1=>(qE (qT (i:=10) jN.nd rfl (Or.inl rfl) (uS tk1 (pv 0) T.bK T.iS (zS T S B).mono hr S.fG.b .nil)))) (qG5 (λea=>(q0Z rfl T.aB1 rfl (v:=.ref t.C_NoRoom))) rfl (λea=>(qE (qT (i:=9) jN.nd rfl (Or.inl rfl) uC))) (qJ2 vI))) (qB (jB (PW.pt (q0F (qP (q65 hr.units) (pv 6) (jT qD) (qS _)) (zX (jS (pv 9))))) (qE (qL (q1T (uU (q65 hr.units) (pv 6) (jT qD) (qS _)) (q1T (pv 9) (q10 (uU (qEE hr.units) (j8 (pv 1) T.bL T.oO (q0A T S).mono hr S.iQ.b .nil qK) (pv 7) (qS _))))))) qR) (qB (jB (yL (jS (qY (q9E T S).mono hr rfl T.aBW T.aBX S.aAY.b .nil qK (qA (pv 10) (qA (pv 6) qD))))) (qE (qL uC)) qR) (qB (qT (i:=11) jN.nd rfl (Or.inl rfl) (qW jI (pv 10) qI (λ_ _=>rfl))) (qB (q0K (i:=12) ["_law_row","_law_end"] [] rfl (qJ8 rfl T.aDU (qA (qY (q9C T S).mono hr rfl T.aCF T.aB9 S.aAR.b .nil qK (qA (pv 5) (qA (pv 2) (qA (pv 11) (qA (pv 3) qD))))) (qA (pv 8) qD))) (λ_ _ _ _ _=>(qC2 (K:=K) (n:=2) rfl rfl (jV (qU (i:=0) (show List.Nodup (["_law_row","_law_end"]:List Str)from by decide) rfl (Or.inl rfl)) (jV (qU (i:=1) (show List.Nodup (["_law_row","_law_end"]:List Str)from by decide) rfl (Or.inl rfl)) q11)) rfl rfl)) (λ_ _ _ _ _=>q18) (λ_ _ _ _ _=>(yH (qA (qW (q1A (K:=K) rfl) (pv 0) qI (λ_ _=>rfl)) (qA (qW (q1A (K:=K) rfl) (pv 0) qI (λ_ _=>rfl)) (qA (pv 1) qD))))) (by kernel_rfl) (qBS (q42 (by decide) (q42 (by decide) qBR))) jN.nd rfl (Or.inl rfl)) (qB (jB (PW.pt (q0F (qP (q61 hr.units) (qW jI (pv 10) qI (λ_ _=>rfl)) (pv 12) (qS _)) (zX (qP (q61 hr.units) (qW jD (qJ (pv 0) rfl) (qHH qDH qI) (λ_ _=>rfl)) (pv 10) (qS _))))) (qE (qL uC)) qR) (qB (qX (q3B gH cO cP q4L (pv 7) (qA (u9 ["_law_move"] [] rfl (jZ (pv 12)) (λ_ _ _ _ _=>(qU (i:=0) (show List.Nodup (["_law_move"]:List Str)from by decide) rfl (Or.inl rfl))) (λ_ _ _ _ _=>q18) (λ_ _ _ _ _=>(yH (qA q0Y (qA (qW (q1A (K:=K) rfl) (pv 0) qI (λ_ _=>rfl)) (qA uC qD))))) (by kernel_rfl) (jX (by decide))) qD))) (qB (qX (q3B gH g0 g5 uR (pv 7) (qA (yH (qA q0Y (qA (pv 11) (qA uC qD)))) qD q0J))) (qB (qX (qDV gH PySem.F.slot_list_clear PySem.F.type_list_clear qDW (qW jI (pv 10) qI (λ_ _=>rfl)))) (qB (qX (q3B gH g0 g5 uR (qW jI (pv 10) qI (λ_ _=>rfl)) (qA qI qD))) (qB (jB (PW.pt (q0F (qP (q61 hr.units) (qW jD (qJ (pv 0) rfl) (qHH qDH qI) (λ_ _=>rfl)) (yH (qA q0Y (qA (pv 6) (qA (pv 11) (qA (pv 12) (qA uC qD)))))) (qS _)) (zX (qP (q61 hr.units) (j8 (pv 1) T.bL T.oO (q0A T S).mono hr S.iQ.b .nil qK) (pv 7) (qS _))))) (qE (qL uC)) qR) (qE (qL (uU (qEE hr.units) (u9 ["_law_chip","_law_page"] [1] rfl (q0G rfl T.f9 (qA (pv 4) qD)) (λ_ _ _ _ _=>(qU (i:=1) (show List.Nodup (["_law_chip","_law_page"]:List Str)from by decide) rfl (Or.inl rfl))) (λ_ _ _ _ _=>q18) (λ_ _ _ _ _=>(jW vI (pv 0) T.bL T.tG (q1N T S).mono hr S.oF.b .nil (qA (pv 1) qD))) (by kernel_rfl) (jX (by decide))) (qY (q7J T S).mono hr rfl T.aBI T.aBP S.tP.b .nil qK (qA (pv 5) (qA (pv 2) (qA (pv 11) (qA (pv 12) (qA (pv 3) qD)))))) (qS _)))))))))))))))))))))),?_⟩
  try dsimp-beta-proj-iota-zeta-eta only[wishK,cxK]
  refine(iV rfl (iF hc.ins T.bL T.eF rfl ⟨_,rfl,iI ⟨.inl ⟨by lia,by lia⟩,?_⟩⟩))
  refine⟨_,rfl,_,rfl,by rw[ebl,ebp];lia,by rw[ebl,ebp];lia,λD H1 nD s1 hD=>?_⟩
  dsimp only
  rw[ebl,ebp,kW]
  refine qAK rfl hc mok (by rw[elf,pk.lf];simp) ebl epg pat bd bp nD s1 hD λbs H2 s2 h2 lbs pa2=>?_
  have h2x:=h.same s2
  refine(iV rfl (iM h2x.h.j.o rfl ?_))
  dsimp only[tNil,dM]
  refine h2x.h.j.opts ev λop os H3 nop j3 k3 h3 ty3=>?_
  have mT:∀y∈[t.bJ],y∈fx t x r pp:=by simp
  have nT:∀{y:Addr},H y=none→y∉[t.bJ]:=λe z=>h.h.offF e (mT _ z)
  have hx3:=h2x.h.kT k3 j3.tb
  have k03:Keep (fx t x r pp) H H3:=(Keep.same s2).trans (k3.mono mT)
  have hD3:=k3.k _ _ (nT nD) h2
  obtain⟨m3,hc3,mok3,elf3,erc3,ecl3,ebl3,epg3,_,_⟩:=hx3.chip
  refine(iV rfl (iM hc3.ins rfl ⟨x.c,x.a,m3,rfl,hc3,λds er3 prd dl H4 n4 s4 h4=>?_⟩))
  have hc4:=hc3.same s4
  refine⟨_,rfl,_,rfl,_,rfl,x.c,x.a,m3,D,bs,k,X.s,rfl,hc4,mok3,ecl3,ebl3,s4 _ _ hD3,lbs,(pa2.keep k3).keep (Keep.same s4) (F:=[]),w,pgs,λsp fl H5 fr s5 nsp h5=>?_⟩
  have hx5:=(hx3.same s4).same s5
  have s35:=s4.trans s5
  have k05:Keep (fx t x r pp) H H5:=k03.trans (Keep.same s35)
  have fD:=h.h.offF nD
  have fo:=h.h.offF (s2.free nop)
  have fd:=hx3.offF n4
  have fs:=hx3.offF (s4.free nsp)
  have h05:H5 D=some (.lst bs):=s35 _ _ hD3
  have ho5:=s35 _ _ h3
  have hd5:=s5 _ _ h4
  have pa5:PgAt H5 bs X.s.pg:=(pa2.keep k3).keep (Keep.same s35) (F:=[])
  have ty5:=yF (Keep.same s35) (F:=[]) ty3
  have pd5:Recd H5 ds X.s.rc:=by
   rw[←erc3]
   exact zW prd (s35 _ _)
  have hk5:=k05.k _ _ h.nkF h.hk
  have nDd:D≠dl:=qF hD3 n4
  have nod:op≠dl:=qF h3 n4
  have nkd:kd≠dl:=qF (k03.k _ _ h.nkF h.hk) n4
  clear pa2 hD3 h3 ty3 h4 prd er3 hc4
  refine⟨λσ' H'=>∃rf v,σ'=[some (.ref x.s),some (.ref x.c),some (.int (X.s.q.P:Int)),some (.ref kd),some (.int ((X.s.q.B*X.s.q.P:Nat):Int)),some (.ref D),some (.ref op),some (.ref dl),some (.ref sp),some (.bl rf),some v,none,none]∧((rf=true∧X.s.tk k X.g=none∧XX t H' x k sh (sr:Int) r [] pp X∧Keep (fx t x r pp) H5 H')∨(rf=false∧∃Y p H6,X.room k=(Y,.ok p)∧XX t H6 x k sh (sr:Int) r [] pp Y∧Keep (fx t x r pp) H5 H6∧Same H6 H'∧PapN H6 H' v p)),?_,?_⟩
  ·refine(iV rfl (iM hx5.j.o rfl ⟨x,k,sh,_,r,[],pp,X,rfl,hx5,ev,by lia,by lia,?_⟩))
   cases hro:X.room k with
   |mk Y o=>
    obtain⟨rx,hro'⟩:=q49 h.d.x h.d.wt h.d.ok hro
    have pkY:=q4Q.room w h.d.ok hro pk
    cases o with
    |error e=>
     cases e with
     |dark=>
      rw[pkY.lf]at hro'
      cases hro'.1
     |room=>
      obtain⟨rfl,tk⟩:=hro'
      refine λH' h' k'=>?_
      intro ea hea
      refine⟨_,T.aAB,iteT ?_⟩
      exact⟨_,_,rfl,.inl ⟨rfl,tk,h',k'⟩⟩
    |ok p=>exact λv H6 H' h6 k6 s' pn=>⟨_,_,rfl,.inr ⟨rfl,Y,p,H6,rfl,h6,k6,s',pn⟩⟩
  rintro σ' H' ⟨rf,v,rfl,⟨rfl,tk,hx6,k6⟩|⟨rfl,Y,p,H6,hro,hx6,k6,s7,pn⟩⟩
  ·have e0:X.s.opt k=[]:=by
    unfold XS.tk at tk
    split at tk
    ·assumption
    ·cases tk
   have e1:X.s.ots k=[]:=by
    unfold XS.ots
    rw[e0]
    rfl
   rw[e1]at ty5
   cases ty5
   have ho6:=k6.k _ _ fo ho5
   refine⟨_,rfl,sz0,λe H7 n7 s7 h7=>⟨op,_,e,rfl,rfl,SqL.of (s7 _ _ ho6),SqL.of h7,_,rfl,iteT (iteT ?_)⟩⟩
   refine⟨_,rfl,sz0,λe2 H8 n8 s8 h8=>⟨op,_,e2,rfl,rfl,SqL.of (s8 _ _ (s7 _ _ ho6)),SqL.of h8,_,rfl,iteT ?_⟩⟩
   refine⟨_,rfl,_,rfl,iteT ?_⟩
   have s68:=s7.trans s8
   have hx8:=hx6.same s68
   obtain⟨m8,hc8,_,_,erc8,_⟩:=hx8.chip
   refine(iV rfl (iM hc8.ins rfl ⟨x.c,x.a,m8,rfl,hc8,λds' er8 pr8 dl' H9 n9' s9' h9=>?_⟩))
   have k59:Keep (fx t x r pp) H5 H9:=k6.trans (Keep.same (s68.trans s9'))
   refine⟨_,rfl,qBQ h9 (k59.k _ _ fd hd5) (by rw[erc8]at pr8;exact zW pr8 (s9' _ _)) (zW pd5 (k59.tp _ _)),?_⟩
   exact kk X H9 (h.stay (hx8.same s9') (k05.trans k59) h.d (by lia) (by lia)) (k05.trans k59) pk rfl rfl
  ·obtain⟨rx,rps,rrc,_,_,⟨g',tk⟩,_,ets,_⟩:=q49 h.d.x h.d.wt h.d.ok hro
   obtain⟨ful,emv,lmv,mform,epgY⟩:=qHB h.d.x h.d.wt h.d.ok fr hro
   have pkY:=q4Q.room w h.d.ok hro pk
   obtain⟨ewhy,bo⟩:p.why=Str.ofString "rule"∧p.b∈X.s.opt k:=by
    rcases q0P h.d.ok tk with⟨z1,z2,_⟩|⟨_,z,_⟩
    ·exact⟨z1,z2⟩
    ·rw[ev]at z
     cases z
   have bi:(p.b:Int)∈p.ts.map Tl.b:=by
    rw[ets]
    unfold XS.ots
    rw[gS]
    exact kP.mpr ⟨p.b,bo,rfl⟩
   have l16:p.ts.length≤16:=by
    rw[ets]
    unfold XS.ots
    rw[hC]
    refine kO ?_ b2
    unfold XS.opt
    rw[ev]
    unfold XS.ded XS.ful
    refine kO (mB _ _) (kO (mB _ _) ?_)
    rw[mG]
    exact kM _
   have m3:∀q∈p.mv,q.length=3:=λq hq=>by
    obtain⟨_,_,_,rfl,_⟩:=mform q hq
    rfl
   rw[←ets]at ty5
   obtain⟨pa,c1,c2,us,rs,rfl,npa,nc1,nc2,n12,hpa,h1,t1,h2,prm⟩:=pn
   rw[ewhy]at hpa
   have k57:Keep (fx t x r pp) H5 H':=k6.trans (Keep.same s7)
   have ho7:=k57.k _ _ fo ho5
   have one:¬os=[]:=λz=>by
    rw[z]at ty5
    cases hts:p.ts with
    |nil=>rw[hts]at bi;cases bi
    |cons a b=>rw[hts]at ty5;cases ty5
   refine⟨_,rfl,sz0,λe H8 n8 s8 h8=>⟨op,_,e,rfl,rfl,SqL.of (s8 _ _ ho7),SqL.of h8,_,rfl,?_⟩⟩
   rw[hI one]
   refine iteF ⟨_,rfl,_,rfl,iteF ?_⟩
   have k58:=k57.trans (Keep.same s8)
   have ty8:=yF k58 ty5
   refine⟨_,rfl,_,rfl,pa,c1,c2,us,rs,op,os,p,rfl,s8 _ _ hpa,s8 _ _ h1,yF (Keep.same s8) (F:=[]) t1,s8 _ _ ho7,ty8,s8 _ _ h2,jA prm s8,m3,bi,l16,λH9 s9'=>⟨_,rfl,iteF ?_⟩⟩
   have s79:=s8.trans s9'
   have k59:=k57.trans (Keep.same s79)
   refine⟨_,rfl,iT (k:=2) (v:=_) (SqT.of (s79 _ _ hpa)) rfl ?_⟩
   refine⟨_,rfl,_,rfl,_,rfl,_,rfl,D,bs,kd,KD,k,X.s,p.b,rfl,k59.k _ _ fD h05,lbs,pa5.keep k59,k59.k _ _ h.nkF hk5,w,pgs,h.d.eq,ful.b,ful.f,λml mus Ha sa nml hml prl=>?_⟩
   have k5a:=k59.trans (Keep.same sa)
   have hsa:=k5a.k _ _ fs h5
   refine⟨_,rfl,ml,sp,rfl,⟨_,SqL.of hml⟩,⟨_,SqL.of hsa⟩,λD2 Hb nb sb hb=>?_⟩
   have lml:=prl.len
   have lmv2:p.mv.length=(lvF X.s p.b X.s.q.P).length:=by
    rw[emv,lN]
    lia
   refine qH7 (K:=K) (xs:=mus) (ys:=(sptL X.s fl).map V.int) (D:=D2) (λi Hc=>Same Ha Hc∧∃zs,Hc D2=some (.lst zs)∧Paired (TupD Hc) zs (p.mv.take i)) ⟨sb,[],hb,.nil⟩ (λi Hc hp=>⟨SqL.of (hp.1 _ _ hml),SqL.of (hp.1 _ _ hsa)⟩) (by rw[lml,hC];exact lmv) (λi v u W Hc hv hu hp nW=>?_) (λHc hp=>?_)
   ·obtain⟨sc,zs,hz,pz⟩:=hp
    obtain⟨d,hd,x',rfl,hx'⟩:=Paired.at prl hv
    obtain⟨il,ed⟩:=kC.mp hd
    rw[mC]at hu
    obtain⟨z,hz',rfl⟩:=mK.mp hu
    have im:i<p.mv.length:=by rw[lmv2];exact il
    have emi:p.mv[i]=[d.getD 0 0,d.getD 1 0,z]:=by
     have e1:p.mv[i]?=some [d.getD 0 0,d.getD 1 0,z]:=by
      rw[emv,List.getElem?_zipWith,hd,hz']
     rw[hX im]at e1
     exact kN e1
    have ld:d=[d.getD 0 0,d.getD 1 0]:=by
     rw[q4B]at hd
     obtain⟨_,_,rfl⟩:=kP.mp (gE hd)
     rfl
    rw[ld]at hx'
    generalize d.getD 0 0=n' at emi hx'
    generalize d.getD 1 0=q' at emi hx'
    have sW:Same Hc (upd Hc W (.tup [.ref x',.int z])):=Same.upd nW
    have hW:(upd Hc W (.tup [.ref x',.int z])) W=some (.tup [.ref x',.int z]):=qH
    generalize upd Hc W (.tup [.ref x',.int z])=Hd at sW hW ⊢
    refine⟨W,_,rfl,SqT.of hW,rfl,_,_,rfl,_,_,rfl,rfl,?_⟩
    have hxd:=sW _ _ (sc _ _ hx')
    refine⟨_,rfl,iT (k:=0) (v:=.int n') (SqT.of hxd) rfl ⟨_,rfl,iT (k:=1) (v:=.int q') (SqT.of hxd) rfl ⟨_,rfl,sz3,λtn He ne se he=>?_⟩⟩⟩
    have lz:=pz.len
    rw[gJ]at lz
    have lf16:(lvF X.s p.b X.s.q.P).length≤16:=by
     rw[q4B,hC]
     exact kO q6N p2
    have hze:=se _ _ (sW _ _ hz)
    refine⟨zs,hze,by lia,λb o e=>?_,zs++[.ref tn],qH,?_⟩
    ·rw[qC (qF e nb)]
     exact se _ _ (sW _ _ (sc _ _ e))
    ·rw[←mH im,emi]
     exact L2.Paired.snoc (Paired.mapP (jA (jA pz sW) se) λx k z=>z.upd hze (λ_ q=>by cases q)) (TupD.upd ⟨tn,rfl,he⟩ hze (λ_ q=>by cases q))
   obtain⟨sc,zs,hz,pz⟩:=hp
   rw[lml,←lmv2,gC]at pz
   have s7c:=(s79.trans sa).trans sc
   have s6c:=s7.trans s7c
   have k5c:=k57.trans (Keep.same s7c)
   have hxc:=hx6.same s6c
   have hpac:=s7c _ _ hpa
   have h1c:=s7c _ _ h1
   have h2c:=s7c _ _ h2
   have prmc:=jA prm s7c
   refine⟨_,rfl,iT (k:=3) (v:=_) (SqT.of hpac) rfl ⟨_,rfl,q0X 4 h2c hz prmc pz,_,rfl,iteF ?_⟩⟩
   obtain⟨ps,hps,prp⟩:=hxc.hp
   have lps:=prp.len
   rw[rps,kZ,gB]at lps
   obtain⟨v,hv⟩:∃v,ps[X.ps.length]?=some v:=⟨_,hX (by lia)⟩
   have aL:atI ps (-1)=some v:=by
    rw[q9V (by lia),lps]
    exact hv
   obtain⟨p',hp',qa,l1,l2,us',rs',rfl,q1,q2,q3,q4,q5,q6,q7⟩:=Paired.at prp hv
   rw[rps,dS (kM _),xO]at hp'
   obtain rfl:p=p':=kN hp'
   rw[ewhy]at q1
   have oc:=hxc.j.o
   rw[hxc.ep]at oc
   refine(iV rfl (iF oc T.bK T.fB rfl ⟨1,rfl,pp,ps,_,.ref qa,rfl,rfl,SqL.of hps,aL,_,rfl,qCI q1 hpac (q0X 3 q2 h1c (vZ q3) (vZ (yF (Keep.same s7c) (F:=[]) t1))) (q0X 3 q4 h2c q5 prmc),_,rfl,iteF ?_⟩))
   have hd6:=k6.k _ _ fd hd5
   have hdc:=s6c _ _ hd6
   have pd6:Recd H6 ds X.s.rc:=zW pd5 (k6.tp _ _)
   have lds:=pd6.len
   have lm16:p.mv.length≤16:=by
    rw[lmv2,q4B,hC]
    exact kO q6N p2
   refine⟨_,rfl,.inl ⟨rfl,_,SqL.of hdc⟩,_,rfl,D2,rfl,⟨_,SqL.of hz⟩,λD3 Hd nd sd hd=>?_⟩
   refine uW (K:=K) (xs:=zs) (D:=D3) (λi He=>Same Hc He∧∃ws,He D3=some (.lst ws)∧Recd He ws ((p.mv.take i).map putR)) ⟨sd,[],hd,.nil⟩ (λi He hp=>SqL.of (hp.1 _ _ hz)) (λi v He hv hp=>?_) (λHe hp=>?_)
   ·obtain⟨se,ws,hw,pw⟩:=hp
    obtain⟨d,hd',x',rfl,hx'⟩:=Paired.at pz hv
    obtain⟨im,ed⟩:=kC.mp hd'
    obtain⟨n',q',e,ed',_⟩:=mform d (gE hd')
    rw[ed']at hx'
    have lw:=pw.len
    rw[hC,gJ]at lw
    refine⟨_,rfl,iT (k:=2) (v:=.int e) (SqT.of (se _ _ hx')) rfl ⟨sz3,λtn Hf nf sf hf=>?_⟩⟩
    have hwf:=sf _ _ hw
    have up:∀{a:Addr} {xs:List V} {o:HO},Hf a=some (.tup xs)→(upd Hf D3 o) a=some (.tup xs):=fun {a xs o} e=>by
     rw[qC (λz=>by rw[z,hwf]at e;cases e)]
     exact e
    refine⟨ws,hwf,by lia,λb o e=>?_,ws++[.ref tn],qH,?_⟩
    ·rw[qC (qF e nd)]
     exact sf _ _ (se _ _ e)
    ·rw[←mH im,mJ,ed,ed']
     exact L2.Paired.snoc (zW pw λh'=>up (sf _ _ h')) ⟨tn,rfl,up hf⟩
   obtain⟨se,ws,hw,pw⟩:=hp
   rw[pz.len,gC]at pw
   have lw:=pw.len
   rw[hC]at lw
   have hde:=se _ _ hdc
   refine⟨dl,D3,ds,ws,rfl,rfl,hde,hw,by lia,?_⟩
   have kf:=Keep.upd (F:=[dl]) (o:=.lst (ds++ws)) hde (λ_ z=>by cases z) (by simp)
   have hdf:(upd He dl (.lst (ds++ws))) dl=_:=qH
   generalize upd He dl (.lst (ds++ws))=Hf at kf hdf ⊢
   refine⟨_,rfl,.inl ⟨rfl,_,SqL.of hdf⟩,_,rfl,sz3,λtw Hg ng sg hg=>⟨dl,_,_,rfl,rfl,sg _ _ hdf,by rw[kZ];lia,?_⟩⟩
   have kg:=Keep.upd (F:=[dl]) (o:=.lst (ds++ws++[.ref tw])) (sg _ _ hdf) (λ_ z=>by cases z) (by simp)
   have hdg:(upd Hg dl (.lst (ds++ws++[.ref tw]))) dl=_:=qH
   generalize upd Hg dl (.lst (ds++ws++[.ref tw]))=Hh at kg hdg ⊢
   have keh:Keep [dl] He Hh:=(kf.trans (Keep.same sg)).trans kg
   have dc1:c1∉[dl]:=λz=>by
    rw[kE.mp z,hd6]at nc1
    cases nc1
   have dc2:c2∉[dl]:=λz=>by
    rw[kE.mp z,hd6]at nc2
    cases nc2
   have hpah:=keh.tp _ _ (se _ _ hpac)
   have h1h:=keh.k _ _ dc1 (se _ _ h1c)
   refine⟨_,rfl,iT (k:=1) (v:=_) (SqT.of hpah) rfl ⟨.inl ⟨rfl,_,SqL.of h1h⟩,c1,rs,rfl,rfl,h1h,?_⟩⟩
   have ki:=Keep.upd (F:=[c1]) (o:=.lst []) h1h (λ_ z=>by cases z) (by simp)
   generalize upd Hh c1 (.lst [])=Hi at ki ⊢
   have h2i:=ki.k _ _ (λz=>n12 (kE.mp z).symm) (keh.k _ _ dc2 (se _ _ h2c))
   have lus:=prmc.len
   refine⟨_,rfl,iT (k:=3) (v:=_) (SqT.of (ki.tp _ _ hpah)) rfl ⟨.inl ⟨rfl,_,SqL.of h2i⟩,c2,us,_,rfl,rfl,h2i,by lia,?_⟩⟩
   have kj:=Keep.upd (F:=[c2]) (o:=.lst (us++[.int 0])) h2i (λ_ z=>by cases z) (by simp)
   generalize upd Hi c2 (.lst (us++[.int 0]))=Hj at kj ⊢
   have kej:Keep [dl,c1,c2] He Hj:=((keh.mono (by simp)).trans (ki.mono (by simp))).trans (kj.mono (by simp))
   have hdj:Hj dl=some (.lst (ds++ws++[.ref tw])):=kj.k _ _ (λz=>dc2 (by rw[←kE.mp z];simp)) (ki.k _ _ (λz=>dc1 (by rw[←kE.mp z];simp)) hdg)
   obtain⟨v1,hv1⟩:=pgs.wr p.b 0 ful.b p1 (by rw[ful.f];lia)
   have nx1:X.s.q.nx≠1:=λz=>by
    have:=pgs.mr _ _ hv1
    lia
   have rcne:X.s.rc≠[]:=pk.rc.resolve_left nx1
   have top:∃n,TopN X.s n:=pk.top.resolve_left nx1
   have hxj:XX t Hj x k sh (sr:Int) r [] pp Y:=(hx6.log (zs':=ds++ws++[.ref tw]) hd6 pd6 rcne fd).same λy o e=>by
    by_cases z:y=dl
    ·rw[z,qH]at e
     cases e
     rw[z]
     exact hdj
    ·rw[qC z]at e
     refine kej.k _ _ (λu=>?_) (se _ _ (s6c _ _ e))
     have u:y=dl∨y=c1∨y=c2:=by simpa using u
     rcases u with u|u|u
     ·exact z u
     ·rw[u,nc1]at e;cases e
     ·rw[u,nc2]at e;cases e
   have own:∀{y:Addr} {o:HO},H5 y=some o→y∉fx t x r pp→y≠dl→Hj y=some o:=fun {y o} e ny nd=>by
    have e6:=k6.k _ _ ny e
    refine kej.k _ _ (λu=>?_) (se _ _ (s6c _ _ e6))
    have u:y=dl∨y=c1∨y=c2:=by simpa using u
    rcases u with u|u|u
    ·exact nd u
    ·rw[u,nc1]at e6;cases e6
    ·rw[u,nc2]at e6;cases e6
   have k5j:∀{y:Addr} {xs:List V},H5 y=some (.tup xs)→Hj y=some (.tup xs):=λe=>kej.tp _ _ (se _ _ (k5c.tp _ _ e))
   have hoj:=own ho5 fo nod
   have tyj:Tls Hj os p.ts:=yF kej (yF (Keep.same se) (F:=[]) (yF k5c ty5))
   have s7a:=s79.trans sa
   have hzj:Hj D2=some (.lst zs):=kej.k _ _ (λu=>by
    have u:D2=dl∨D2=c1∨D2=c2:=by simpa using u
    rcases u with u|u|u
    ·rw[u,s7a _ _ (s7 _ _ hd6)]at nb;cases nb
    ·rw[u,s7a _ _ h1]at nb;cases nb
    ·rw[u,s7a _ _ h2]at nb;cases nb) (se _ _ hz)
   have pzj:Paired (TupD Hj) zs p.mv:=Paired.mapP (jA pz se) λv d ⟨p',e',h'⟩=>⟨p',e',kej.tp _ _ h'⟩
   obtain⟨psj,hpsj,prpj⟩:=hxj.hp
   have lpsj:=prpj.len
   rw[rps,kZ,gB]at lpsj
   obtain⟨vj,hvj⟩:∃v,psj[X.ps.length]?=some v:=⟨_,hX (by lia)⟩
   have aLj:atI psj (-1)=some vj:=by
    rw[q9V (by lia),lpsj]
    exact hvj
   obtain⟨p',hp',qj,l1j,l2j,usj,rsj,rfl,q1j,q2j,q3j,q4j,q5j,_,_⟩:=Paired.at prpj hvj
   rw[rps,dS (kM _),xO]at hp'
   obtain rfl:p=p':=kN hp'
   rw[ewhy]at q1j
   have oj:=hxj.j.o
   rw[hxj.ep]at oj
   refine(iV rfl (iF oj T.bK T.fB rfl ⟨1,rfl,pp,psj,_,.ref qj,rfl,rfl,SqL.of hpsj,aLj,_,rfl,_,rfl,_,rfl,sz5,λtq Hk nk sk hk'=>⟨qCI (sk _ _ q1j) hk' (q0X 3 (sk _ _ q2j) (sk _ _ hoj) (jA (vZ q3j) sk) (jA (vZ tyj) sk)) (q0X 3 (sk _ _ q4j) (sk _ _ hzj) (jA q5j sk) (jA pzj sk)),_,rfl,iteF ?_⟩⟩))
   have hxk:=hxj.same sk
   obtain⟨mk,hck,mokk,elfk,erck,eclk,eblk,epgk,patk,_⟩:=hxk.chip
   refine(iV rfl (iM hck.ins rfl ⟨x.c,x.a,mk,rfl,hck,λds' er' pr' dl' Hl nl sl hl=>?_⟩))
   have tpl:∀{y:Addr} {xs:List V},Hj y=some (.tup xs)→Hl y=some (.tup xs):=λe=>sl _ _ (sk _ _ e)
   have hgj:Hj tw=some (.tup [.str (Str.ofString "wipe"),.int (p.b:Int),.bl true]):=kj.tp _ _ (ki.tp _ _ (kg.tp _ _ hg))
   have pdl:Recd Hl (ds++ws++[.ref tw]) Y.s.rc:=by
    rw[rrc]
    exact L2.Paired.snoc (q75 (zW pd5 λh'=>tpl (k5j h')) (zW pw λh'=>tpl (kej.tp _ _ h'))) ⟨tw,rfl,tpl hgj⟩
   refine⟨_,rfl,qBQ hl (sl _ _ (sk _ _ hdj)) (by rw[erck]at pr';exact zW pr' (sl _ _)) pdl,_,rfl,iteF ?_⟩
   have sjl:=sk.trans sl
   have hckl:=hck.same sl
   refine⟨_,rfl,_,rfl,by lia,by lia,λD5 Hm nm sm hm=>?_⟩
   rw[kW]
   refine qAK (s:=Y.s) (by rw[rx.kp.eB,rx.kp.eP]) hckl mokk (by rw[elfk,pkY.lf];simp) eblk epgk (patk.keep (Keep.same sl) (F:=[])) pkY.pw.2.bd (by rw[rx.kp.eB,rx.kp.eP];exact bp) nm sm hm λb5 Hn sn hn lb5 pan=>?_
   have sjn:=sjl.trans sn
   have h64:=h.d.h64
   refine⟨_,rfl,_,rfl,_,rfl,_,rfl,_,rfl,D,bs,D2,zs,p.mv,kd,KD,k,X.s,p.b,rfl,sjn _ _ (own h05 fD nDd),lbs,⟨pa5.n,λi v e=>by
    obtain⟨tp,e1,e2⟩:=pa5.v i v e
    exact⟨tp,e1,sjn _ _ (k5j e2)⟩⟩,sjn _ _ hzj,jA pzj sjn,sjn _ _ (own hk5 h.nkF nkd),by have:=h.d.ls;have:=h.d.s57;lia,λy hy=>by have:=h.d.kb y hy;lia,h.d.bits,w,pgs,bd,top,ful.b,mform,λl xs Ho so nl' hl' lx px=>?_⟩
   rw[←epgY]at px
   have sjo:=sjn.trans so
   have k0o:Keep (fx t x r pp) H Ho:=by
    refine⟨λy o ny e=>?_,λy xs e=>sjo _ _ (k5j (k05.tp _ _ e))⟩
    have e5:=k05.k _ _ ny e
    refine sjo _ _ (own e5 ny λz=>?_)
    rw[z]at e
    have:=k03.k _ _ (by rw[←z];exact ny) e
    rw[n4]at this
    cases this
   refine⟨qDD (so _ _ hn) hl' (by rw[lb5,lx,rx.kp.eB,rx.kp.eP]) (pan.keep (Keep.same so) (F:=[])) px,?_⟩
   obtain⟨r1,r2⟩:=qA6 w h.d.ok hro
   exact kk Y Ho (h.stay (hxj.same sjo) k0o (h.d.made rx) (by lia) (by lia)) k0o pkY rx.kp.eB rx.kp.eP
theorem qHE{B P:Nat}:Pk (newX B P):=⟨⟨qFF,⟨rfl,λd hd=>(by cases hd),λi v e=>(by cases e)⟩⟩,.inl rfl,rfl,.inl rfl⟩
theorem q4J{hl:List Int}{y:Int}:(∀m,m∈gvn hl [y]↔m=y∧y∈hl)∧(gvn hl [y]=[]↔y∉hl):=by
 have a:∀m,m∈gvn hl [y]↔m=y∧y∈hl:=λm=>by
  unfold gvn
  rw[mI,kX,kE]
  constructor
  ·rintro⟨h,e⟩
   exact⟨e,by rw[←e];exact h⟩
  ·rintro⟨e,h⟩
   exact⟨by rw[e];exact h,e⟩
 refine⟨a,?_⟩
 rw[List.eq_nil_iff_forall_not_mem]
 constructor
 ·intro h z
  exact h y ((a y).mpr ⟨rfl,z⟩)
 ·intro h m hm
  exact h ((a m).mp hm).2
theorem qK0(T:Txt K mg t)(S:Fns K t)(B:BmIn base mg):S.law.Ok0 P w mg base 18 (q4O K [t.bJ]):=by
 refine S.law.F.ok0 uQ λcdv A _ s H vs Q E hr h=>?_
 ·obtain⟨a,ns,rfl,hS,hlen,hT0,k⟩:=h
  have hT:H t.bJ=some (.tbl #[]):=hT0 _ (kE.mpr rfl)
  have hu:=q1X hr
  have s9:(99999:Nat)<sizeLine:=by decide
  refine⟨_,(qB (q12 (qY (q9A T S).mono hr rfl T.aBY T.aB6 S.aAJ.b .nil qK (qA (pv 0) qD)) (qJJ rfl (jV (qU (i:=1) uQ.nd rfl (Or.inl rfl)) (jV (qU (i:=2) uQ.nd rfl (Or.inl rfl)) (jV (qU (i:=3) uQ.nd rfl (Or.inl rfl)) (jV (qU (i:=4) uQ.nd rfl (Or.inl rfl)) q11)))))) (qB (qT (i:=5) uQ.nd rfl (Or.inl rfl) (qO yZ qI (qO uF (qY (jY T S).mono hr rfl T.bV T.bW S.bX.b .nil qK (qA (pv 0) (qA qI qD))) qI))) (qB (qT (i:=6) uQ.nd rfl (Or.inl rfl) (qAX T.aC0 rfl T.aC3)) (q17 (jB (qP vS (qO uF (qY (jY T S).mono hr rfl T.bV T.bW S.bX.b .nil qK (qA (pv 0) (qA qI qD))) qI) qI (qS _)) (qE (qT (i:=6) uQ.nd rfl (Or.inl rfl) (qAX T.aCW rfl T.aC1))) qR) (q17 (jB (qP vS (qO uF (qY (jY T S).mono hr rfl T.bV T.bW S.bX.b .nil qK (qA (pv 0) (qA qI qD))) qI) qI (qS _)) (qE (qT (i:=6) uQ.nd rfl (Or.inl rfl) (qAX T.aDB rfl T.aDK))) qR) (qB (qT (i:=7) uQ.nd rfl (Or.inl rfl) (q5H T.aDL (q95 T S).mono hr rfl T.aDM S.aBN S.aBR qK (qA (pv 1) (qA (pv 2) qD)))) (qB (qT (i:=8) uQ.nd rfl (Or.inl rfl) (q5H T.aC8 (q7I T S).mono hr rfl T.aDG S.tR.b .nil qK (qA (pv 7) (qA (q5H T.aDA (q7F T S).mono hr rfl T.aC9 S.aA3 S.aA5 qK (qA (pv 1) (qA (pv 2) (qA (pv 5) (qA (pv 3) (qA (pv 4) qD)))))) (qA (pv 6) qD))))) (qB (qT (i:=9) uQ.nd rfl (Or.inl rfl) q41) (qB (uE gU rfl (q0H rfl T.f9 (qA qI (qA (j9 (qCN rfl) (by rfl) T.aDR (by kernel_rfl) (qA (j9 jK (by rfl) T.tY gZ (qA (pv 0) qD)) (qA qI qD))) qD))) (qU (i:=10) uQ.nd rfl (Or.inl rfl)) (qB (qT (i:=11) uQ.nd rfl (Or.inl rfl) (qW jD (pv 0) (pv 10) (λ_ _=>rfl))) (qB (qT (i:=12) uQ.nd rfl (Or.inl rfl) (qY (q9B T S).mono hr rfl T.aB8 T.aB2 S.aAZ.b .nil qK (qA (qO vD (pv 11) qI) (qA (pv 9) (qA (pv 5) (qA (pv 3) qD)))))) (qE (jB (qP vS (qO uF (pv 11) qI) qI (qS _)) (qB (qX (jW vI (pv 8) T.bK T.aAP (q4X T S B).mono hr S.iZ.b .nil (qA (jT (qA (pv 12) qD)) qD qEC))) (qE (qX (qE2 (pv 9) (pv 12) yY ⟨rfl,rfl,rfl,rfl⟩)))) (qE (jB (qP q3Z (qO uF (pv 11) qI) qI (qS _)) (qE (jB (yL (jS (qY (qAL T S B).mono hr rfl T.aCJ T.aCS S.aBE.b .nil qK (qA (pv 8) (qA (pv 7) (qA (pv 2) (qA (pv 9) qD))))))) (qE (qL uC)) qR)) (qB (qX (jW vI (pv 8) T.bK T.aBC (q74 T S B).mono hr S.o7.b .nil (qA (pv 12) (qA (qO uF (qO yZ (qO yM (pv 11) qI) (pv 10)) (qO qDF qI qI)) qD)))) (qE (q8H hu (pv 9) (pv 12) uC rfl)))))))))) (qE (qL uC))))))))))),?_⟩
  try dsimp-beta-proj-iota-zeta-eta only[wishK,cxK]
  refine⟨_,rfl,a,ns,rfl,hS,λc P1 i sh hc1 hc4 hP1 hP2 hi2 hs1 hs2 p0 H1 n0 s1 h1=>?_⟩
  refine⟨p0,_,rfl,SqL.of h1,rfl,_,_,rfl,_,_,rfl,_,_,rfl,_,_,rfl,rfl,?_⟩
  have hcp:c*P1≤4*4:=pA hc4 hP2
  have sh14:sh≤14:=by lia
  refine⟨_,rfl,a,ns,4,rfl,s1.seq hS,by decide,_,_,rfl,rfl,(by show(0:Int)<64;decide),iI ?_⟩
  have c4:=q1Z (yP ns 4) 64 (by decide)
  try dsimp only
  obtain⟨w,ew⟩:∃n:Nat,1+yP ns 4%64=(n:Int):=⟨(1+yP ns 4%64).toNat,by lia⟩
  rw[ew]
  have w1:1≤w:=by lia
  have w64:w≤64:=by lia
  clear c4 ew
  refine λr1 d1 nr1 nd1 ne1=>?_
  have sR:Same H1 (upd (upd H1 d1 (.own r1)) r1 (.ins t.C_Fewest d1 [])):=q43 nr1 nd1
  refine⟨λσ' H'=>∃ru f,σ'=[some (.ref a),some (.int ((c+1+i:Nat):Int)),some (.int (P1:Int)),some (.int (sh:Int)),some (.int (i:Int)),some (.int (w:Int)),some (.ref ru),none,none,none,none,none,none]∧RuX t H' ru [] (.rk f)∧Same H1 H'∧H1 ru=none∧∃C d,H' ru=some (.ins C d []),?_,?_⟩
  ·refine⟨_,rfl,a,ns,5,rfl,(s1.trans sR).seq hS,by decide,_,_,rfl,rfl,(by show(0:Int)<3;decide),rfl,_,rfl,ite2 (λ_=>?_) (λ_=>?_)⟩
   ·refine λr dx nr ndx ne=>⟨r,_,rfl,.inr (.inr ⟨dx,qH,rfl⟩),sR.trans (q43 nr ndx),sR.free nr,_,_,qH⟩
   ·exact⟨r1,_,rfl,.inr (.inl ⟨d1,qH,rfl⟩),sR,nr1,_,_,qH⟩
  rintro σ' H1' ⟨ru1,f1,rfl,hR1,s1',nru1,Cr1,dr1,er1⟩
  refine⟨λσ' H'=>∃ru f,σ'=[some (.ref a),some (.int ((c+1+i:Nat):Int)),some (.int (P1:Int)),some (.int (sh:Int)),some (.int (i:Int)),some (.int (w:Int)),some (.ref ru),none,none,none,none,none,none]∧RuX t H' ru [] (.rk f)∧Same H1 H'∧H1 ru=none∧∃C d,H' ru=some (.ins C d []),?_,?_⟩
  ·refine⟨_,rfl,a,ns,5,rfl,(s1.trans s1').seq hS,by decide,_,_,rfl,rfl,(by show(0:Int)<3;decide),rfl,_,rfl,ite2 (λ_=>?_) (λ_=>?_)⟩
   ·refine λr dx nr ndx ne=>⟨r,_,rfl,.inl ⟨dx,qH,rfl⟩,s1'.trans (q43 nr ndx),s1'.free nr,_,_,qH⟩
   ·exact⟨ru1,_,rfl,hR1,s1',nru1,_,_,er1⟩
  rintro σ' H2 ⟨ru,f,rfl,hR2,s2,nru,Cr,dr,er2⟩
  have s02:=s1.trans s2
  clear hR1 s1' nru1 er1 sR
  refine⟨_,rfl,_,rfl,?_⟩
  dsimp only[tNil]
  refine qL0 (by lia) (by lia) (by lia) (by lia) (by decide) (by decide) ?_
  refine λch ca H3 hc sC fC=>?_
  have s03:=s02.trans sC
  have frC:∀b∈foot ch ca,b=t.bJ∨H b=none:=λb hb=>.inr (s02.free (fC b (hU _ hb)))
  refine⟨_,rfl,_,rfl,_,rfl,_,rfl,_,rfl,_,rfl,?_⟩
  dsimp only[tNil,rQ,dM]
  refine qL2 (by lia) (by lia) (by lia) (by lia) (by lia) (by lia) (by lia) (by
   rw[show((c+1+i:Nat):Int)-1-(i:Int)=(c:Int) by lia,←gL]
   lia) (by lia) (by lia) (by decide) (by decide) ?_
  intro tm td H7 s7 htm
  refine⟨_,rfl,λsA sd nA nsd nn=>?_⟩
  have sM:Same H7 (upd (upd H7 sd (.own sA)) sA (.ins t.C_Store sd [])):=q43 nA nsd
  have hc7:=hc.same s7
  have s37:=sC.trans s7
  have s07:=s02.trans s37
  have hT7:=s07 _ _ hT
  have tb7:TbF t H7:=⟨#[],hT7,.inl rfl⟩
  refine⟨sA,sd,tm,td,ch,ca,_,_,_,_,_,_,c+1+i,P1,rfl,qH,sM _ _ htm,hc7.same sM,rfl,rfl,by lia,tb7.same sM,λkb pp H9 st9 hp9 npp fk off up=>⟨rfl,?_⟩⟩
  have s79:Same H7 H9:=λb o e=>up b o (qF e nA) (sM b o e)
  have er7:=s37 _ _ er2
  have hR7:=hR2.keep (Keep.same s37) (F:=[]) (by simp)
  have nrC:ru∉foot ch ca:=λz=>by
   have:=fC ru (hU _ z)
   rw[er2]at this
   cases this
  have npp7:H7 pp=none:=Same.free sM npp
  obtain⟨kt,ekt⟩:∃kt:Tm,kt=⟨i,1000000,false⟩:=⟨_,rfl⟩
  have ev:kt.ev=false:=by rw[ekt]
  obtain⟨ix0,ge0⟩:=qH4 (k:=kt) (B:=c+1+i) (P:=P1) (by lia) hP1 (by lia) (by rw[ekt];show 1+i< _;lia) (by rw[ekt];show(1:Int)≤1000000;decide)
  obtain⟨X,eX⟩:∃X:Sto,X=⟨sA,sd,tm,td,ch,ca,kb,.ref ru,.ref pp⟩:=⟨_,rfl⟩
  have of:Off t X [ru]:=by
   rw[eX]
   intro y hy hu
   rw[kE.mp hu]at hy
   have hy:ru=sA∨ru=tm∨ru=ca.li∨ru=t.bJ∨ru∈foot ch ca∨ru∈bf kb:=by simpa[sf]using hy
   rcases hy with hy|hy|hy|hy|hy|hy
   ·rw[hy,nA]at er7;cases er7
   ·rw[hy,htm]at er7
    injection er7 with e
    injection e with _ _ e
    cases e
   ·have:=fC ru (by rw[hy];exact kU)
    rw[er2]at this;cases this
   ·rw[hy,s1 _ _ hT]at nru;cases nru
   ·exact nrC hy
   ·have:=fk _ hy
    rw[sM _ _ er7]at this;cases this
  rw[←eX]at st9 off
  have hx9:XX t H9 X kt (w:Int) (sh:Int) ru [] pp ⟨newX (c+1+i) P1,.rk f,[]⟩:=qJZ (by rw[ekt];exact st9) (by rw[eX]) (hR7.keep (Keep.same s79) (F:=[]) (by simp)) of (by rw[eX]) hp9 off (λz=>by rw[kE.mp z,er7]at npp7;cases npp7) (by lia) (by lia) hP1 (by lia) ix0.w
  have rt7:RT t H H7:=RT.of s07
  have rtf:∀{b:Addr},H7 b=none→b=t.bJ∨H b=none:=λe=>.inr (s07.free e)
  have frX:∀b∈fx t X ru pp,b=t.bJ∨H b=none:=by
   intro b hb
   rw[eX]at hb
   have hb:b=pp∨b=ru∨b=t.bJ∨b∈foot ch ca∨b∈bf kb:=by simpa[sf]using hb
   rcases hb with hb|hb|hb|hb|hb
   ·rw[hb];exact rtf npp7
   ·exact .inr (by rw[hb];exact s1.free nru)
   ·exact .inl hb
   ·exact frC b hb
   ·exact rtf (Same.free sM (fk b hb))
  refine λkd nkd=>?_
  have sK:Same H9 (upd H9 kd (.dK [])):=Same.upd nkd
  have hkd:(upd H9 kd (.dK [])) kd=some (.dK []):=qH
  generalize upd H9 kd (.dK [])=HA at sK hkd ⊢
  have kin:kd∉X.a.li::fx t X ru pp:=λz=>by
   rcases kI.mp z with z|z
   ·obtain⟨m,hc',_⟩:=hx9.chip
    obtain⟨o,e,_⟩:=hc'.has (show X.a.li∈X.a.li::foot X.c X.a by simp)
    rw[←z,nkd]at e;cases e
   ·obtain⟨o,e⟩:=hx9.inF kd z
    rw[nkd]at e;cases e
  have kx0:KX t HA X kt (w:Int) sh ru [] pp ⟨newX (c+1+i) P1,.rk f,[]⟩ kd [] 1:=by
   refine⟨hx9.same sK,⟨ix0,Wt.of ge0,trivial,aR,λy hy=>absurd hy (by simp),λn _=>?_,λy hy=>absurd hy (by simp),mV _,?_,by lia,by lia⟩,hkd,kin,by simp,mV _,mV _⟩
   ·show(∃p,(n,p)∈([]:Mp))↔_
    simp
   ·show sh+2≤(c+1+i-(1+kt.ie))*P1
    rw[ekt]
    show sh+2≤(c+1+i-(1+i))*P1
    rw[show c+1+i-(1+i)=c by lia]
    exact hs2
  have pk0:Pk (newX (c+1+i) P1):=qHE
  have frF:∀b∈kd::fx t X ru pp,b=t.bJ∨H b=none:=λb hb=>by
   rcases kI.mp hb with e|hb
   ·rw[e];exact rtf (Same.free s79 nkd)
   ·exact frX b hb
  have rtA:RT t H HA:=(rt7.same s79).same sK
  rw[show sA=X.s by rw[eX],show ch=X.c by rw[eX]]
  have eP0:(newX (c+1+i) P1).q.P=P1:=rfl
  generalize newX (c+1+i) P1=s0 at kx0 pk0 eP0
  have hSA:=rtA.sq hT hS
  refine⟨_,rfl,a,_,rfl,.inl hSA,_,_,rfl,?_⟩
  obtain⟨hi,eh,h36,hln⟩:∃h:Nat,(if(36:Int)<((ns.map V.int).length:Nat)then(36:Int)else((ns.map V.int).length:Nat))=(h:Int)∧h≤36∧h≤ns.length:=by
   rw[hC]
   by_cases z:(36:Int)<(ns.length:Nat)
   ·exact⟨36,kD z,by lia,by lia⟩
   ·exact⟨ns.length,kB z,by lia,by lia⟩
  rw[eh]
  refine⟨_,_,rfl,⟨by decide,by decide,by lia,by lia⟩,?_⟩
  clear st9 hx9 of er7 hR7 hR2 er2 htm hc hc7 tb7 ix0 ge0
  refine zI (λu σ' H'=>∃y10 y11 y12 Y KD n,σ'=[some (.ref a),some (.int ((c+1+i:Nat):Int)),some (.int (P1:Int)),some (.int (sh:Int)),some (.int (i:Int)),some (.int (w:Int)),some (.ref ru),some (.ref X.c),some (.ref X.s),some (.ref kd),y10,y11,y12]∧n≤u+1∧KX t H' X kt (w:Int) sh ru [] pp Y kd KD n∧Pk Y.s∧Y.s.q.P=P1∧RT t H H') ⟨_,_,_,_,[],1,rfl,by lia,kx0,pk0,eP0,rtA⟩ (λu σ' H2 D' nxt hu' hp=>?_) (λσ' H2 hp=>?_)
  ·obtain⟨y10,y11,y12,Y,KD,n,rfl,nu,h,pk,eP,rt⟩:=hp
   have hi6:6+u<ns.length:=by lia
   have u45:u<45:=by lia
   have at1:atI (ns.map V.int) (6+(u:Int))=some (.int ns[6+u]):=by
    refine(show atI (ns.map V.int) ((6+u:Nat):Int)=_ from u7 ?_)
    rw[mC,hX hi6]
    rfl
   generalize ns[6+u]=z at at1
   have hS2:=rt.sq hT hS
   refine⟨_,rfl,_,rfl,a,_,_,.int z,rfl,rfl,hS2,at1,?_⟩
   have kb:∀m∈KD.map (·.1),0≤m∧m<(w:Int):=λm hm=>by
    obtain⟨y,hy,rfl⟩:=kP.mp hm
    exact h.d.kb y hy
   have ls:=h.d.ls
   have rcn:=h.rcn
   have psn:=h.psn
   refine⟨_,rfl,iI ⟨⟨by decide,by decide⟩,_,rfl,_,rfl,_,rfl,kd,dB KD,KD.map (·.1),_,w,sh,rfl,w1,h.hk,by unfold dB;rw[gS,gS];rfl,kb,by rw[hC];lia,hs1,λy H4 s4 y0 y1 y2=>?_⟩⟩
   rw[hC]at y2
   have h4:=h.same s4
   have rt4:=rt.same s4
   refine⟨_,rfl,iI ⟨(by show(0:Int)<8;decide),rfl,_,rfl,ite2 (λ_=>?_) (λ_=>?_)⟩⟩
   ·refine(iV rfl (iM h4.h.j.o rfl ⟨_,rfl,sz1,λl0 H5 n5 s5 h5=>?_⟩))
    have h5x:=h4.same s5
    refine⟨X,kt,_,_,ru,[],pp,Y,l0,[y],rfl,h5x.h,ev,h5,λm hm=>by rw[kE.mp hm];exact inBi y0 (by lia),λe0 H6 s6=>?_,λe0=>?_⟩
    ·have e1:y∉KD.map (·.1):=λq=>q4J.2.mp e0 (h.d.hl.mpr q)
     have h6:=h5x.same s6
     refine⟨_,rfl,kd,rfl,.inl ⟨_,.inl h6.hk⟩,_,rfl,_,Sum.inl y,h6.hk,rfl,λv ev'=>?_,λ_=>?_⟩
     ·have:=q4A (KD:=KD) (n:=y)
      rw[ev',hI e1]at this
      cases this
     ·exact nxt _ _ ⟨_,_,_,Y,KD,n,rfl,by lia,h6,pk,eP,(rt4.same s5).same s6⟩
    ·have e1:y∈KD.map (·.1):=dZ λq=>e0 (q4J.2.mpr λv=>q (h.d.hl.mp v))
     have hcn:=h.d.can64 (λq=>by rw[q]at e1;cases e1)
     rcases qC8 (n:=64) (v:=XS.bits (rst Y.s.hl (gvn Y.s.hl [y]))) h.d.x h.d.wt h.d.ok (q5N h.d.x) (by decide) (by decide) hcn with⟨Z,qs,q,hZ,aO⟩|⟨Z,qs,hZ,aD⟩
     ·refine⟨17,_,by lia,by lia,hcn.imp id λq=>q.1,hZ,λH6 h6 k6=>?_⟩
      have k56:Keep (fx t X ru pp) H5 H6:=k6
      have hk6:=k6.k _ _ h.nkF h5x.hk
      refine⟨_,rfl,kd,rfl,.inl ⟨_,.inl hk6⟩,_,rfl,_,Sum.inl y,hk6,rfl,λv ev'=>?_,λhn=>?_⟩
      ·rw[qFI]
       have yl:y∈Y.s.hl:=h.d.hl.mpr e1
       have eD:(KD.filter λq=>!decide (q.1∈gvn Y.s.hl [y]))=jE KD y:=by
        unfold jE
        refine wD λq _=>?_
        by_cases e:q.1=y
        ·rw[hG ((q4J.1 q.1).mpr ⟨e,yl⟩),hI (λw=>w e)]
         rfl
        ·rw[hI (λw=>e ((q4J.1 q.1).mp w).1),hG e]
         rfl
       have n64:∀m∈gvn Y.s.hl [y],m≠64:=λm hm=>by rw[((q4J.1 m).mp hm).1];lia
       have d':=h.d.gave aO (g:=gvn Y.s.hl [y]) n64
       rw[eD]at d'
       obtain⟨_,f2,f3,_,_,f6,f7,_⟩:=q1B aO.x (gvn Y.s.hl [y])
       have:=aO.rl
       have:=aO.ln
       have:=q5N h.d.x
       have rcE:(Z.s.forgs (gvn Y.s.hl [y])).rc.length≤300*(n+1):=by rw[f3];lia
       have psE:(⟨Z.s.forgs (gvn Y.s.hl [y]),Z.g,Z.ps⟩:Sx).ps.length≤20*(n+1):=by show Z.ps.length≤_;rw[aO.ps,kZ];lia
       have g:=h5x.set h6 k6 d' (n':=n+1) rcE psE
       have pkZ:=q4Q.ask h.d.x.w h.d.ok (by decide) (by decide) hZ pk
       exact nxt _ _ ⟨_,_,_,_,_,n+1,rfl,by lia,g,pkZ.forgs aO.x n64 (qH9 (by decide) (by decide) hZ) (λq=>n64 _ q rfl),f7.trans (aO.eP.trans eP),((rt4.same s5).keep (k6.mono λb hb=>hU _ hb) frF).keep (Keep.upd hk6 (λ_ z=>by cases z) (by simp)) frF⟩
      ·have:=q4A (KD:=KD) (n:=y)
       rw[hn,hG e1]at this
       cases this
     ·have:=(q4Q.ask h.d.x.w h.d.ok (by decide) (by decide) hZ pk).lf
      rw[aD.lf]at this
      cases this
   ·refine⟨_,rfl,iI ⟨(by show(0:Int)<8;decide),iI ⟨_,rfl,ite2 (λ_=>?_) (λ_=>?_)⟩⟩⟩
    ·refine⟨_,rfl,_,rfl,_,rfl,_,rfl,X,kt,_,sh,ru,pp,Y,kd,KD,n,by rw[eP];rfl,h4,ev,pk,by lia,λY' H5 h5 k5 pk5 eB5 eP5=>⟨_,rfl,iteF (nxt _ _ ⟨_,_,_,Y',KD,n+1,rfl,by lia,h5,pk5,eP5.trans eP,rt4.keep (k5.mono λb hb=>hU _ hb) frF⟩)⟩⟩
    ·have mv:=q1Z (z*48271+(6+(u:Int))) (10 ^ (30:Int).toNat) (by decide)
     have hcn:=h.d.can y0 y1 y2
     have ff:¬(hold Y.s.q y=false∧(sh:Int)≤((hdN Y.s.q.V).length:Int)):=λ⟨f1,f2⟩=>by
      rw[h.hold]at f1
      have f1:=dA f1
      have pl:=h.d.pm.length_eq
      rw[hC]at pl
      have f2:(sh:Int)≤((((Y.s.q.V.map (·.1)).filter λn=>decide (n≠64)).length:Nat):Int):=f2
      rcases y2 with w|w
      ·exact f1 w
      ·lia
     rcases qC8 (n:=y) (v:=(z*48271+(6+(u:Int)))%10 ^ (30:Int).toNat) h.d.x h.d.wt h.d.ok (q5N h.d.x) y0 (by lia) hcn with⟨Z,qs,q,hZ,aO⟩|⟨Z,qs,hZ,aD⟩
     ·refine(iV rfl (iM h4.h.j.o rfl ⟨_,rfl,_,rfl,iI ⟨.inr ⟨by decide,by decide⟩,_,rfl,iI (iI ⟨⟨by decide,by decide,by decide⟩,iI ⟨(by show(0:Int)<10 ^ (30:Int).toNat;decide),?_⟩⟩)⟩⟩))
      refine⟨X,kt,_,_,ru,[],pp,Y,y,_,17,_,rfl,h4.h,ev,by have:=h.rcn;lia,by have:=h.psn;lia,by lia,inBi y0 (by lia),inBi mv.1 (by have:_ <(10:Int) ^ 30:=mv.2;lia),ff,hcn.imp id λq=>q.1,hZ,λH6 h6 k6=>?_⟩
      have hk6:=k6.k _ _ h.nkF h4.hk
      refine⟨_,rfl,_,rfl,kd,_,rfl,.inl ⟨_,Sum.inl y,hk6,rfl,by rw[qFJ];lia,rfl⟩,?_⟩
      rw[qH8 (p:=(z*48271+(6+(u:Int)))%10 ^ (30:Int).toNat)]
      have:=aO.rl
      have:=aO.ln
      have:=q5N h.d.x
      have:=h.rcn
      have:=h.psn
      have g:=h4.set h6 k6 (h.d.wrote y0 y1 y2 aO) (n':=n+1) (by lia) (by rw[aO.ps,kZ];lia)
      exact nxt _ _ ⟨_,_,_,_,_,n+1,rfl,by lia,g,q4Q.ask h.d.x.w h.d.ok y0 (by lia) hZ pk,aO.eP.trans eP,(rt4.keep (k6.mono λb hb=>hU _ hb) frF).keep (Keep.upd hk6 (λ_ z=>by cases z) (by simp)) frF⟩
     ·have:=(q4Q.ask h.d.x.w h.d.ok y0 (by lia) hZ pk).lf
      rw[aD.lf]at this
      cases this
  ·obtain⟨y10,y11,y12,Y,KD,n,rfl,nu,h,pk,eP,rt⟩:=hp
   exact k _
theorem qK1{P:Program}{w:World}{K:W.Frag}{mg:Str→Option Value}{t:Adr}(T:Txt K mg t)(S:Fns K t)(B:BmIn base mg):S.law.Ok0 P w mg base 18 (q4O K [t.bJ]):=Classical.byContradiction λn=>by
 have hs:hkB hkE:=by
  unfold hkE
  exact Classical.epsilon_spec ⟨⟨P,w,K,mg,t⟩,S,base,T,B,n⟩
 obtain⟨S',b',T',B1,n'⟩:=hs
 exact n' (qK0 T' S' B1)
end
theorem qK2{l:W.OpenLaw}{w:World}{K:W.Frag}{h:Heap}{mg:Str→Option Value}{fa z0 z1 z2 z3 z4 z5 z6 z7 z8 z9 z10 z11 z12 z13 z14 z15 z16 z17 z18 z19 z20 z21 z22 z23 z24 z25 z26 z27 z28 z29 z30 z31 z32 z33 z34 z35 z36 z37 z38 z39 z40 z41 z42 z43 z44 z45 z46 z47 z48 z49 z50 z51 z52 z53 z54 z55 z56 z57 z58 z59 z60 z61 z62 z63 z64 z65 z66 z67 z68 z69 z70 z71 z72 z73 z74 z75 z76 z77 z78 z79 z80 z81 z82 z83 z84 z85 z86 z87 z88 z89 z90:Addr}(X:K.In h)(G:h.Ns mainGlobals mg)(hfa:mg "law"=some (.ref fa))
 {z91 z92 z103 z104 z115 z116:Option Addr} {z93 z105 z117:Array (Option Value)} {z94 z95 z96 z97 z99 z106 z107 z108 z109 z110 z111 z118 z119 z120 z121 z122 z123:Value} {z112:Option Addr} {z113:Nat} {z114:Array (Option Value)} {e0_Chip_init:Tok} {z124:Option Addr} {z125:Nat} {z126:Array (Option Value)} {e0_Terms_init:Tok} {e1_Terms_init:Tok} {iG:Tok} {aBM:Tok} {aAF:Tok}
 (z127:W.nsIn K mainGlobals "Book"=some (some (.ref z79)))
 (z128:Cls K z79)
 (z129:qQ K z79 "blocks")
 (z130:qQ K z79 "pages")
 (z131:qQ K z79 "stamp")
 (z132:qQ K z79 "where")
 (z133:qQ K z79 "live")
 (z134:qQ K z79 "filled")
 (z135:qQ K z79 "born")
 (z136:Meth K z79 "mark" z9)
 (z137:Meth K z79 "note" z10)
 (z138:Meth K z79 "forget" z11)
 (z139:Meth K z79 "emptied" z12)
 (z140:Meth K z79 "live_pages" z13)
 (z141:Meth K z79 "held" z14)
 (z142:Mk K z79 z8)
 (z143:W.nsIn K mainGlobals "Plain"=some (some (.ref z80)))
 (z144:W.nsIn K mainGlobals "Store"=some (some (.ref z81)))
 (z145:Cls K z81)
 (z146:qQ K z81 "chip")
 (z147:qQ K z81 "terms")
 (z148:qQ K z81 "book")
 (z149:qQ K z81 "rule")
 (z150:qQ K z81 "papers")
 (z151:Meth K z81 "reserve" z30)
 (z152:Meth K z81 "tally" z31)
 (z153:Meth K z81 "space" z32)
 (z154:Meth K z81 "full_ones" z33)
 (z155:Meth K z81 "with_dead_page" z34)
 (z156:Meth K z81 "options" z35)
 (z157:Meth K z81 "choice" z36)
 (z158:Meth K z81 "choice_by_rule" z37)
 (z159:Meth K z81 "moved" z38)
 (z160:Meth K z81 "value_to_move" z39)
 (z161:Meth K z81 "wiped" z40)
 (z162:Meth K z81 "clear_out" z41)
 (z163:Meth K z81 "make_room" z42)
 (z164:Meth K z81 "make_ready" z43)
 (z165:Meth K z81 "make_rooms" z44)
 (z166:Meth K z81 "good" z16)
 (z167:Meth K z81 "free" z17)
 (z168:Meth K z81 "part" z18)
 (z169:Meth K z81 "spot" z19)
 (z170:Meth K z81 "ready" z20)
 (z171:Meth K z81 "set_down" z21)
 (z172:Meth K z81 "lay" z22)
 (z173:Meth K z81 "write" z23)
 (z174:Meth K z81 "give_up" z24)
 (z175:Meth K z81 "held" z25)
 (z176:Meth K z81 "check_sheet" z26)
 (z177:Meth K z81 "check_share" z27)
 (z178:Mk K z81 z29)
 (z179:W.nsIn K mainGlobals "Chip"=some (some (.ref z82)))
 (z180:Cls K z82)
 (z181:qQ K z82 "blocks")
 (z182:qQ K z82 "pages")
 (z183:qQ K z82 "most")
 (z184:qQ K z82 "limits")
 (z185:qQ K z82 "borne")
 (z186:qQ K z82 "clearings")
 (z187:qQ K z82 "deed_counts")
 (z188:qQ K z82 "broken")
 (z189:qQ K z82 "deeds_left")
 (z190:qQ K z82 "record")
 (z191:Meth K z82 "put" z47)
 (z192:Meth K z82 "wipe" z48)
 (z193:Meth K z82 "read" z49)
 (z194:Meth K z82 "is_dark" z50)
 (z195:Meth K z82 "cleared" z51)
 (z196:Meth K z82 "failed" z52)
 (z197:Meth K z82 "deeds" z53)
 (z198:Meth K z82 "check_page" z54)
 (z199:Meth K z82 "check_block" z55)
 (z200:Meth K z82 "check_power" z56)
 (z201:Meth K z82 "check_deed" z57)
 (z202:Meth K z82 "is_spent" z58)
 (z203:Meth K z82 "do_deed" z59)
 (z204:Mk K z82 z46)
 (z205:W.nsIn K mainGlobals "Rule"=some (some (.ref z83)))
 (z206:Cls K z83)
 (z207:Meth K z83 "goes_ahead" z62)
 (z208:Meth K z83 "choose" z63)
 (z209:W.makesIn K z83=true)
 (z210:W.findIn K (.ref z83) "__init__"=some (some (.builtin "object.__init__")))
 (z211:W.keepIn K (.ref z83)=true)
 (z212:W.nsIn K mainGlobals "Fewest"=some (some (.ref z84)))
 (z213:Cls K z84)
 (z214:Meth K z84 "goes_ahead" z64)
 (z215:Meth K z84 "choose" z63)
 (z216:W.makesIn K z84=true)
 (z217:W.findIn K (.ref z84) "__init__"=some (some (.builtin "object.__init__")))
 (z218:W.keepIn K (.ref z84)=true)
 (z219:W.nsIn K mainGlobals "Eldest"=some (some (.ref z85)))
 (z220:Cls K z85)
 (z221:Meth K z85 "goes_ahead" z65)
 (z222:Meth K z85 "choose" z63)
 (z223:W.makesIn K z85=true)
 (z224:W.findIn K (.ref z85) "__init__"=some (some (.builtin "object.__init__")))
 (z225:W.keepIn K (.ref z85)=true)
 (z226:W.nsIn K mainGlobals "Terms"=some (some (.ref z86)))
 (z227:Cls K z86)
 (z228:qQ K z86 "blocks")
 (z229:qQ K z86 "pages")
 (z230:qQ K z86 "sheets")
 (z231:qQ K z86 "share")
 (z232:qQ K z86 "ill")
 (z233:qQ K z86 "spread")
 (z234:Meth K z86 "closed" z67)
 (z235:Mk K z86 z66)
 (z236:W.nsIn K mainGlobals "PowerGone"=some (some (.ref z87)))
 (z237:W.excIn K z87 bmVE "ValueError.__new__"=true)
 (z238:W.nsIn K mainGlobals "NoRoom"=some (some (.ref z88)))
 (z239:W.excIn K z88 bmVE "ValueError.__new__"=true)
 (z240:ClM K z80 "__init__" z15)
 (z241:W.exmOne K (.ref z88) (.ref z88)=some true)
 (z242:W.codeHdIn K z0 z1=true)
 (z243:GFn K "is_whole" z2)
 (z244:GFn K "is_within" z3)
 (z245:GFn K "is_shape" z4)
 (z246:GFn K "is_value" z5)
 (z247:GFn K "mark_of" z6)
 (z248:GFn K "bits_of" z7)
 (z249:GFn K "paper_of" z28)
 (z250:GFn K "limits_of" z45)
 (z251:GFn K "is_unbeaten" z60)
 (z252:GFn K "first_unbeaten" z61)
 (z253:GFn K "_law_cell_at" z68)
 (z254:GFn K "_law_whole" z69)
 (z255:GFn K "_law_shape" z70)
 (z256:GFn K "_law_sheet" z71)
 (z257:GFn K "_law_bits" z72)
 (z258:GFn K "_law_moves" z73)
 (z259:GFn K "_law_spots" z74)
 (z260:GFn K "_law_behind" z75)
 (z261:GFn K "_law_paper" z76)
 (z262:GFn K "_law_made" z77)
 (z263:W.nsIn K mainGlobals "MOST_TOLD"=some (some (.int 1000000 iG)))
 (z264:W.nsIn K mainGlobals "ROLL"=some (some (.int 64 aBM)))
 (z265:W.nsIn K mainGlobals "NAMES"=some (some (.int 128 aAF)))
 (z266:W.nsIn K mainGlobals "bool"=some none)
 (z267:W.nsIn K mainGlobals "int"=some none)
 (z268:W.nsIn K mainGlobals "isinstance"=some none)
 (z269:W.nsIn K mainGlobals "len"=some none)
 (z270:W.nsIn K mainGlobals "list"=some none)
 (z271:W.nsIn K mainGlobals "max"=some none)
 (z272:W.nsIn K mainGlobals "min"=some none)
 (z273:W.nsIn K mainGlobals "range"=some none)
 (z274:W.nsIn K mainGlobals "sorted"=some none)
 (z275:W.nsIn K mainGlobals "sum"=some none)
 (z276:W.nsIn K mainGlobals "tuple"=some none)
 (z277:W.nsIn K mainGlobals "zip"=some none)
 (z278:FnX K "is_whole" "is_whole" q3I z2)
 (z279:FnX K "is_within" "is_within" q25 z3)
 (z280:FnX K "is_shape" "is_shape" q3J z4)
 (z281:FnX K "is_value" "is_value" q3K z5)
 (z282:FnX K "mark_of" "mark_of" q4S z6)
 (z283:FnX K "bits_of" "bits_of" q4T z7)
 (z284:FnX K "__init__" "Book.__init__" q26 z8)
 (z285:FnX K "mark" "Book.mark" q27 z9)
 (z286:FnX K "note" "Book.note" q28 z10)
 (z287:FnX K "forget" "Book.forget" zY z11)
 (z288:FnX K "emptied" "Book.emptied" zJ z12)
 (z289:FnX K "live_pages" "Book.live_pages" uX z13)
 (z290:FnX K "held" "Book.held" q29 z14)
 (z291:FnX K "__init__" "Plain.__init__" q1C z15)
 (z292:FnX K "good" "Plain.good" q1D z16)
 (z293:K.lookup z17=some ⟨z94,z91,.func (W.fnOf "free" "Plain.free" (yR jU) (yG jU) (qG jU) .none z95 z96 z97 z92 (.ref z0) z99),z93⟩)
 (z294:W.codeIn K (.ref z0) "Plain.free"=true)
 (z295:FnX K "part" "Plain.part" q1E z18)
 (z296:FnX K "spot" "Plain.spot" q1F z19)
 (z297:FnX K "ready" "Plain.ready" zZ z20)
 (z298:FnX K "set_down" "Plain.set_down" vA z21)
 (z299:FnX K "lay" "Plain.lay" q2A z22)
 (z300:FnX K "write" "Plain.write" q00 z23)
 (z301:FnX K "give_up" "Plain.give_up" vM z24)
 (z302:FnX K "held" "Plain.held" q1G z25)
 (z303:FnX K "check_sheet" "Plain.check_sheet" uG z26)
 (z304:FnX K "check_share" "Plain.check_share" uH z27)
 (z305:FnX K "paper_of" "paper_of" q3L z28)
 (z306:FnX K "__init__" "Store.__init__" q1H z29)
 (z307:FnX K "reserve" "Store.reserve" vO z30)
 (z308:FnX K "tally" "Store.tally" q01 z31)
 (z309:FnX K "space" "Store.space" q02 z32)
 (z310:FnX K "full_ones" "Store.full_ones" uY z33)
 (z311:FnX K "with_dead_page" "Store.with_dead_page" yT z34)
 (z312:FnX K "options" "Store.options" vP z35)
 (z313:FnX K "choice" "Store.choice" zK z36)
 (z314:FnX K "choice_by_rule" "Store.choice_by_rule" yU z37)
 (z315:FnX K "moved" "Store.moved" q03 z38)
 (z316:FnX K "value_to_move" "Store.value_to_move" u6 z39)
 (z317:FnX K "wiped" "Store.wiped" q04 z40)
 (z318:FnX K "clear_out" "Store.clear_out" uZ z41)
 (z319:FnX K "make_room" "Store.make_room" v3 z42)
 (z320:FnX K "make_ready" "Store.make_ready" uM z43)
 (z321:FnX K "make_rooms" "Store.make_rooms" uN z44)
 (z322:FnX K "limits_of" "limits_of" q2B z45)
 (z323:K.lookup z46=some ⟨z106,z103,.func (W.fnOf "__init__" "Chip.__init__" (yR uT) (yG uT) (qG uT) (.ref z89) z107 z108 z109 z104 z110 z111),z105⟩)
 (z324:W.codeIn K z110 "Chip.__init__"=true)
 (z325:K.lookup z89=some ⟨.type "tuple",z112,.seq #[.int 1000000 e0_Chip_init,.none] z113,z114⟩)
 (z326:FnX K "put" "Chip.put" q3M z47)
 (z327:FnX K "wipe" "Chip.wipe" q2C z48)
 (z328:FnX K "read" "Chip.read" q2D z49)
 (z329:FnX K "is_dark" "Chip.is_dark" zL z50)
 (z330:FnX K "cleared" "Chip.cleared" zM z51)
 (z331:FnX K "failed" "Chip.failed" q05 z52)
 (z332:FnX K "deeds" "Chip.deeds" q1I z53)
 (z333:FnX K "check_page" "Chip.check_page" v4 z54)
 (z334:FnX K "check_block" "Chip.check_block" uO z55)
 (z335:FnX K "check_power" "Chip.check_power" uP z56)
 (z336:FnX K "check_deed" "Chip.check_deed" v5 z57)
 (z337:FnX K "is_spent" "Chip.is_spent" vQ z58)
 (z338:FnX K "do_deed" "Chip.do_deed" zN z59)
 (z339:FnX K "is_unbeaten" "is_unbeaten" q06 z60)
 (z340:FnX K "first_unbeaten" "first_unbeaten" vB z61)
 (z341:FnX K "goes_ahead" "Rule.goes_ahead" v6 z62)
 (z342:FnX K "choose" "Rule.choose" q07 z63)
 (z343:FnX K "goes_ahead" "Fewest.goes_ahead" uI z64)
 (z344:FnX K "goes_ahead" "Eldest.goes_ahead" uJ z65)
 (z345:K.lookup z66=some ⟨z118,z115,.func (W.fnOf "__init__" "Terms.__init__" (yR uA) (yG uA) (qG uA) (.ref z90) z119 z120 z121 z116 z122 z123),z117⟩)
 (z346:W.codeIn K z122 "Terms.__init__"=true)
 (z347:K.lookup z90=some ⟨.type "tuple",z124,.seq #[.int 0 e0_Terms_init,.int 1000000 e1_Terms_init] z125,z126⟩)
 (z348:FnX K "closed" "Terms.closed" zO z67)
 (z349:FnX K "_law_cell_at" "_law_cell_at" q08 z68)
 (z350:FnX K "_law_whole" "_law_whole" q2E z69)
 (z351:FnX K "_law_shape" "_law_shape" q2F z70)
 (z352:FnX K "_law_sheet" "_law_sheet" q2G z71)
 (z353:FnX K "_law_bits" "_law_bits" q3N z72)
 (z354:FnX K "_law_moves" "_law_moves" q2H z73)
 (z355:FnX K "_law_spots" "_law_spots" q2I z74)
 (z356:FnX K "_law_behind" "_law_behind" q1J z75)
 (z357:FnX K "_law_paper" "_law_paper" q2J z76)
 (z358:FnX K "_law_made" "_law_made" q3O z77)
 (z359:W.nsIn K mainGlobals "law"=some (some (.ref z78)))
 (z360:FnX K "law" "law" qFM z78):
 ∃fd:FuncData,(∀(s:Shared) (v:Value),BindsTo s fd ⟨[v],[]⟩ [("_law_script",v)])∧∀base:Heap,K.In base→base.Ns mainGlobals mg→BmIn base mg→FnOk l.prog w K mg base (CX0) 18 fa fd ["_law_script"] (q4O K [z1]):=by
 have e:=hfa.symm.trans (gT X G z359)
 cases e
 let t:Adr:=⟨z2,z3,z4,z5,z6,z7,z8,z9,z10,z11,z12,z13,z14,z15,z16,z17,z18,z19,z20,z21,z22,z23,z24,z25,z26,z27,z28,z29,z30,z31,z32,z33,z34,z35,z36,z37,z38,z39,z40,z41,z42,z43,z44,z45,z46,z47,z48,z49,z50,z51,z52,z53,z54,z55,z56,z57,z58,z59,z60,z61,z62,z63,z64,z65,z66,z67,z68,z69,z70,z71,z72,z73,z74,z75,z76,z77,fa,z79,z80,z81,z82,z83,z84,z85,z86,z87,z88,iG,aBM,aAF,z0,z1⟩
 have T:Txt K mg t:=⟨gT X G z127,z128,z129,z130,z131,z132,z133,z134,z135,z136,z137,z138,z139,z140,z141,z142,gT X G z143,gT X G z144,z145,z146,z147,z148,z149,z150,z151,z152,z153,z154,z155,z156,z157,z158,z159,z160,z161,z162,z163,z164,z165,z166,z167,z168,z169,z170,z171,z172,z173,z174,z175,z176,z177,z178,gT X G z179,z180,z181,z182,z183,z184,z185,z186,z187,z188,z189,z190,z191,z192,z193,z194,z195,z196,z197,z198,z199,z200,z201,z202,z203,z204,gT X G z205,z206,z207,z208,⟨z209,z210,z211⟩,gT X G z212,z213,z214,z215,⟨z216,z217,z218⟩,gT X G z219,z220,z221,z222,⟨z223,z224,z225⟩,gT X G z226,z227,z228,z229,z230,z231,z232,z233,z234,z235,gT X G z236,z237,gT X G z238,z239,z240,z241,z242,gT X G z243.1,z243.2,gT X G z244.1,z244.2,gT X G z245.1,z245.2,gT X G z246.1,z246.2,gT X G z247.1,z247.2,gT X G z248.1,z248.2,gT X G z249.1,z249.2,gT X G z250.1,z250.2,gT X G z251.1,z251.2,gT X G z252.1,z252.2,gT X G z253.1,z253.2,gT X G z254.1,z254.2,gT X G z255.1,z255.2,gT X G z256.1,z256.2,gT X G z257.1,z257.2,gT X G z258.1,z258.2,gT X G z259.1,z259.2,gT X G z260.1,z260.2,gT X G z261.1,z261.2,gT X G z262.1,z262.2,gT X G z263,gT X G z264,gT X G z265,dU X G z266,dU X G z267,dU X G z268,dU X G z269,dU X G z270,dU X G z271,dU X G z272,dU X G z273,dU X G z274,dU X G z275,dU X G z276,dU X G z277⟩
 let S:Fns K t:=⟨fn1 z278,
  fn1 z279,
  fn1 z280,
  fn1 z281,
  fn1 z282,
  fn1 z283,
  fn1 z284,
  fn1 z285,
  fn1 z286,
  fn1 z287,
  fn1 z288,
  fn1 z289,
  fn1 z290,
  fn1 z291,
  fn1 z292,
  _,
  FunT.mk' (st:=jU) z293 z294,
  yN.all λus hl=>by rw[lnx hl];rfl,
  fn1 z295,
  fn1 z296,
  fn1 z297,
  fn1 z298,
  fn1 z299,
  fn1 z300,
  fn1 z301,
  fn1 z302,
  fn1 z303,
  fn1 z304,
  fn1 z305,
  fn1 z306,
  fn1 z307,
  fn1 z308,
  fn1 z309,
  fn1 z310,
  fn1 z311,
  fn1 z312,
  fn1 z313,
  fn1 z314,
  fn1 z315,
  fn1 z316,
  fn1 z317,
  fn1 z318,
  fn1 z319,
  fn1 z320,
  fn1 z321,
  fn1 z322,
  _,
  (.ref z89),
  FunD.mk' (st:=uT) z323 z324,
  λs us kin hl=>by rw[lnx (us:=us) (n:=5) (by simpa using hl)];exact rJ rfl (kin _ _ z325) rfl rfl rfl,
  [.none],
  λs us kin hl=>by rw[lnx (us:=us) (n:=4) (by simpa using hl)];exact rJ rfl (kin _ _ z325) rfl rfl rfl,
  (.cons rfl .nil),
  [.int 1000000 e0_Chip_init,.none],
  λs us kin hl=>by rw[lnx (us:=us) (n:=3) (by simpa using hl)];exact rJ rfl (kin _ _ z325) rfl rfl rfl,
  (.cons ⟨_,rfl⟩ (.cons rfl .nil)),
  fn1 z326,
  fn1 z327,
  fn1 z328,
  fn1 z329,
  fn1 z330,
  fn1 z331,
  fn1 z332,
  fn1 z333,
  fn1 z334,
  fn1 z335,
  fn1 z336,
  fn1 z337,
  fn1 z338,
  fn1 z339,
  fn1 z340,
  fn1 z341,
  fn1 z342,
  fn1 z343,
  fn1 z344,
  _,
  (.ref z90),
  FunD.mk' (st:=uA) z345 z346,
  λs us kin hl=>by rw[lnx (us:=us) (n:=7) (by simpa using hl)];exact rJ rfl (kin _ _ z347) rfl rfl rfl,
  [.int 1000000 e1_Terms_init],
  λs us kin hl=>by rw[lnx (us:=us) (n:=6) (by simpa using hl)];exact rJ rfl (kin _ _ z347) rfl rfl rfl,
  (.cons ⟨_,rfl⟩ .nil),
  [.int 0 e0_Terms_init,.int 1000000 e1_Terms_init],
  λs us kin hl=>by rw[lnx (us:=us) (n:=5) (by simpa using hl)];exact rJ rfl (kin _ _ z347) rfl rfl rfl,
  (.cons ⟨_,rfl⟩ (.cons ⟨_,rfl⟩ .nil)),
  fn1 z348,
  fn1 z349,
  fn1 z350,
  fn1 z351,
  fn1 z352,
  fn1 z353,
  fn1 z354,
  fn1 z355,
  fn1 z356,
  fn1 z357,
  fn1 z358,
  fn1 z360⟩
 exact⟨_,FnX.bind1 (by intros;rfl) S.law.F,λbase _ _ bm=>qK1 T S bm⟩
theorem walk{l:W.OpenLaw}{q:Program}{loose:List Str}{XP:(Str→Option Value)→Heap→Prop}{YP:World→Heap→Prop}{d:DefRec}{K:Params→W.Frag}(hn:l.most=some 63)(hdf:d.params.defaults=[])
 (hY:∀(w:World) (h:Heap),YP w h→(K w.params).In h∧∀T∈([304]:List Addr),h.get? T=some (W.tabObj #[])) (hT:∀w:World,∀T∈([304]:List Addr),(K w.params).lookup T=none∧∃c,W.codeHdIn (K w.params) c T=true)
 (F:∀(w:World) (mg:Str→Option Value) (fa:Addr) (h:Heap),(K w.params).In h→h.Ns mainGlobals mg→mg d.name=some (.ref fa)→
  ∃fd:FuncData,(∀(s:Shared) (u:Value),BindsTo s fd ⟨[u],[]⟩ [("_law_script",u)])∧∀base:Heap,(K w.params).In base→base.Ns mainGlobals mg→BmIn base mg→FnOk l.prog w (K w.params) mg base (CX0) 18 fa fd ["_law_script"] (q4O (K w.params) [304])):
 W.WalkO q loose XP YP l.row.toRowW d [] (λf vs=>PySem.call f vs):=
 L2.qEW (n:=63) (k:=18) (x:="_law_script") (CX:=λ_=>CX0) (sp:=λw=>q4O (K w.params) [304]) [304] hn (by decide) hdf ⟨rfl,by decide,by decide⟩ hY hT F (λ_ _ a ns hl hS hT=>⟨a,ns,rfl,hS,hl,hT,λ_=>rfl⟩) (λ_ _ _ _ _ z=>z)
end W1
namespace PySem.W.Fast
theorem tw1758892457146167841:True:=⟨⟩
theorem tw1575491515006596096:True:=⟨⟩
theorem tw15160654218914406561:True:=⟨⟩
theorem tw12482179175600377313:True:=⟨⟩
theorem tw5494653861330883778:True:=⟨⟩
theorem tw9650713559075700578:True:=⟨⟩
theorem tw9906035449916346306:True:=⟨⟩
theorem tw9099220431047988803:True:=⟨⟩
theorem tw13439250091100155587:True:=⟨⟩
theorem tw14196129625390441668:True:=⟨⟩
theorem tw1594292544932912484:True:=⟨⟩
theorem tw16618544309456235717:True:=⟨⟩
theorem tw7261787881764915525:True:=⟨⟩
theorem tw1742739110579822469:True:=⟨⟩
theorem tw7824463580973793221:True:=⟨⟩
theorem tw15199441785675834374:True:=⟨⟩
theorem tw3527941405675796198:True:=⟨⟩
theorem tw409549891478563111:True:=⟨⟩
theorem tw1653007047418551783:True:=⟨⟩
theorem tw3106512122703646952:True:=⟨⟩
theorem tw11778273388517136873:True:=⟨⟩
theorem tw10073784958141395529:True:=⟨⟩
theorem tw17173936765478798507:True:=⟨⟩
theorem tw15734064725109345643:True:=⟨⟩
theorem tw16271236965496768235:True:=⟨⟩
theorem tw1079596631879336044:True:=⟨⟩
theorem tw14385882450958519756:True:=⟨⟩
theorem tw14330380881003327149:True:=⟨⟩
theorem tw674179694102547534:True:=⟨⟩
theorem tw3216283121682787278:True:=⟨⟩
theorem tw17510571034413335599:True:=⟨⟩
theorem tw759908856269844751:True:=⟨⟩
theorem tw15804037030098273999:True:=⟨⟩
theorem tw5521058731236932335:True:=⟨⟩
theorem tw4302166676481719537:True:=⟨⟩
theorem tw15290809723503996689:True:=⟨⟩
theorem tw5410662181862171186:True:=⟨⟩
theorem tw10615483383320440467:True:=⟨⟩
theorem tw17167970669693795283:True:=⟨⟩
theorem tw4698431936826834292:True:=⟨⟩
theorem tw6090713315666131700:True:=⟨⟩
theorem tw16182438330632389877:True:=⟨⟩
theorem tw18085863103199482197:True:=⟨⟩
theorem tw17057218448656929685:True:=⟨⟩
theorem tw9465536727238683446:True:=⟨⟩
theorem tw1133704782274224919:True:=⟨⟩
theorem tw12000643817719542840:True:=⟨⟩
theorem tw5290295802777301560:True:=⟨⟩
theorem tw10055873335820547417:True:=⟨⟩
theorem tw5000169491085267417:True:=⟨⟩
theorem tw885220671048467225:True:=⟨⟩
theorem tw16310106196918163163:True:=⟨⟩
theorem tw16087665384403198620:True:=⟨⟩
theorem tw8779310709063507804:True:=⟨⟩
theorem tw16984800913778051996:True:=⟨⟩
theorem tw2545448028514581726:True:=⟨⟩
theorem tw17432128403289541438:True:=⟨⟩
theorem tw8464044404496196251:True:=⟨⟩
theorem tw5801033483244458557:True:=⟨⟩
theorem tw11307010617041298094:True:=⟨⟩
theorem tw4781416834879079244:True:=⟨⟩
theorem tw12254664608017649640:True:=⟨⟩
theorem tw5158333909878376482:True:=⟨⟩
theorem tw11341704389085948217:True:=⟨⟩
theorem tw16843905899877597779:True:=⟨⟩
theorem tw3132245091341719177:True:=⟨⟩
theorem tw284631448802427230:True:=⟨⟩
theorem tw17848700838971022987:True:=⟨⟩
theorem tw138163285069213848:True:=⟨⟩
theorem tw9715067216649550042:True:=⟨⟩
theorem tw17725979465027681594:True:=⟨⟩
theorem tw14677867838664723673:True:=⟨⟩
theorem tw17647971560484785003:True:=⟨⟩
theorem tw12646156145038561193:True:=⟨⟩
theorem tw13336790272936252307:True:=⟨⟩
theorem tw18217049834349661916:True:=⟨⟩
theorem tw12952699076152693178:True:=⟨⟩
theorem tw7758793041205709554:True:=⟨⟩
theorem tw12528155356949854532:True:=⟨⟩
theorem tw16297259122730154365:True:=⟨⟩
theorem tw5326539398388599995:True:=⟨⟩
theorem tw18220072742357846969:True:=⟨⟩
theorem tw10083520357754499810:True:=⟨⟩
theorem tw14047145598494396838:True:=⟨⟩
theorem tw2794894572032301766:True:=⟨⟩
theorem tw10814406798479110158:True:=⟨⟩
theorem tw14676597456564833247:True:=⟨⟩
theorem tw5381802730700103724:True:=⟨⟩
theorem tw8169465691990730413:True:=⟨⟩
theorem tw8440128205739174803:True:=⟨⟩
theorem tw10725453783551581008:True:=⟨⟩
theorem tw13720084462164775360:True:=⟨⟩
theorem tw11663368293116728782:True:=⟨⟩
theorem tw1084101083235028952:True:=⟨⟩
theorem tw11658093983468237739:True:=⟨⟩
theorem tw10512000453884129354:True:=⟨⟩
theorem tw16707512505850725337:True:=⟨⟩
theorem tw7983694707731884923:True:=⟨⟩
theorem tw18199921448355983217:True:=⟨⟩
theorem tw13528099173704265808:True:=⟨⟩
theorem tw4767497154686671816:True:=⟨⟩
theorem tw7303770521239703728:True:=⟨⟩
theorem tw16006251274885749712:True:=⟨⟩
theorem tw6412299536785365730:True:=⟨⟩
theorem tw2002226591749748049:True:=⟨⟩
theorem tw17976704959027296806:True:=⟨⟩
theorem tw874740900608627470:True:=⟨⟩
theorem tw13732967291232011569:True:=⟨⟩
theorem tw12903942665497060019:True:=⟨⟩
theorem tw5762442518684300737:True:=⟨⟩
theorem tw2633531376882208813:True:=⟨⟩
theorem tw4371957723782898375:True:=⟨⟩
theorem tw8606012608631357189:True:=⟨⟩
theorem tw978722763459003416:True:=⟨⟩
theorem tw2079618720058117994:True:=⟨⟩
theorem tw18187947438941178126:True:=⟨⟩
theorem tw7634127701682116281:True:=⟨⟩
theorem tw11912469611130235240:True:=⟨⟩
theorem tw76103740210911326:True:=⟨⟩
theorem tw16805505032137833842:True:=⟨⟩
theorem tw14356787282727323823:True:=⟨⟩
theorem tw6941660954158316629:True:=⟨⟩
theorem tw1053757711721268137:True:=⟨⟩
theorem tw14818867141598387482:True:=⟨⟩
theorem tw13354655642095272823:True:=⟨⟩
theorem tw8467396694464140676:True:=⟨⟩
theorem tw589803026189202722:True:=⟨⟩
theorem tw16186168120680390503:True:=⟨⟩
theorem tw1223027925820262575:True:=⟨⟩
theorem tw16252982145271818402:True:=⟨⟩
theorem tw17342703633702164612:True:=⟨⟩
theorem tw13307042107520503337:True:=⟨⟩
theorem tw8588473263992826844:True:=⟨⟩
theorem tw1569973160606995929:True:=⟨⟩
theorem tw3396920867015975141:True:=⟨⟩
theorem tw17753579618888676807:True:=⟨⟩
theorem tw14163980162618413418:True:=⟨⟩
theorem tw14942303241518183596:True:=⟨⟩
theorem tw334543468178877615:True:=⟨⟩
theorem tw8000427652481847490:True:=⟨⟩
theorem tw18304764909822729782:True:=⟨⟩
theorem tw2029596772051625344:True:=⟨⟩
theorem tw16632886938160159707:True:=⟨⟩
theorem tw11638014970114786125:True:=⟨⟩
theorem tw15567832303180948395:True:=⟨⟩
theorem tw11049390856214960652:True:=⟨⟩
theorem tw12913521259222246698:True:=⟨⟩
theorem tw4455574284650770321:True:=⟨⟩
theorem tw6069450134481449068:True:=⟨⟩
theorem tw14179336213395371325:True:=⟨⟩
theorem tw8725898159571462863:True:=⟨⟩
theorem tw7984847896751722194:True:=⟨⟩
theorem tw3421211891288849781:True:=⟨⟩
theorem tw5671361234827976088:True:=⟨⟩
theorem tw11089871772917414181:True:=⟨⟩
theorem tw7478382212480402476:True:=⟨⟩
theorem tw7734248865157302764:True:=⟨⟩
theorem tw4935791076984818798:True:=⟨⟩
theorem tw6788556358545667042:True:=⟨⟩
theorem tw12656269486600676962:True:=⟨⟩
theorem tw17801038439445584307:True:=⟨⟩
theorem tw6304753121903904777:True:=⟨⟩
theorem tw4398656161147136994:True:=⟨⟩
theorem tw12630057597569463154:True:=⟨⟩
theorem tw6742716066816882187:True:=⟨⟩
theorem tw13368025935437920123:True:=⟨⟩
theorem tw5288964343215282008:True:=⟨⟩
theorem tw18142214655715541540:True:=⟨⟩
theorem tw2216350785490822477:True:=⟨⟩
theorem tw320039680132315878:True:=⟨⟩
theorem tw10543115085851581885:True:=⟨⟩
theorem tw8303686669518621477:True:=⟨⟩
theorem tw984035259245933694:True:=⟨⟩
theorem tw5329410336978753638:True:=⟨⟩
theorem tw12656237930930803236:True:=⟨⟩
theorem tw11561723941149553239:True:=⟨⟩
theorem tw426812351820963910:True:=⟨⟩
theorem tw1360426697046251451:True:=⟨⟩
theorem tw9753212208141685972:True:=⟨⟩
theorem tw998951140251492693:True:=⟨⟩
theorem tw6760745320464081862:True:=⟨⟩
theorem tw14041118956265777240:True:=⟨⟩
theorem tw256285669055075439:True:=⟨⟩
theorem tw7086291126285312163:True:=⟨⟩
theorem tw7778217038719337539:True:=⟨⟩
theorem tw5376843113911326401:True:=⟨⟩
theorem tw6236931985034827526:True:=⟨⟩
theorem tw15275818397910232374:True:=⟨⟩
theorem tw16535542740689185347:True:=⟨⟩
theorem tw10600641651031256687:True:=⟨⟩
theorem tw17342065333599847124:True:=⟨⟩
theorem tw9710685334409209290:True:=⟨⟩
theorem tw10824450402185994109:True:=⟨⟩
theorem tw1120728473413223422:True:=⟨⟩
theorem tw9393498517064832206:True:=⟨⟩
theorem tw10889785137016783348:True:=⟨⟩
theorem tw11171122161784409939:True:=⟨⟩
theorem tw15825474422631525154:True:=⟨⟩
theorem tw12160249166750848376:True:=⟨⟩
theorem tw13159699059522663314:True:=⟨⟩
theorem tw205492379364870795:True:=⟨⟩
theorem tw8171468861833938161:True:=⟨⟩
theorem tw274731945468894736:True:=⟨⟩
theorem tw15491212044567491496:True:=⟨⟩
theorem tw3009087168396470878:True:=⟨⟩
theorem tw15650983488280324225:True:=⟨⟩
theorem tw13251246027043580191:True:=⟨⟩
theorem tw6058245138161944411:True:=⟨⟩
theorem tw6096941035705987744:True:=⟨⟩
theorem tw263731855211716220:True:=⟨⟩
theorem tw3691656218527456328:True:=⟨⟩
theorem tw13378460811252524894:True:=⟨⟩
theorem tw17053476734015290546:True:=⟨⟩
theorem tw3388714905894723177:True:=⟨⟩
theorem tw3353307655867644502:True:=⟨⟩
theorem tw3377007313437027597:True:=⟨⟩
theorem tw11745705722048965340:True:=⟨⟩
theorem tw7900821564515950459:True:=⟨⟩
theorem tw13727824657107950043:True:=⟨⟩
theorem tw12951600014916999169:True:=⟨⟩
theorem tw953906254396849498:True:=⟨⟩
theorem tw14152083421839881017:True:=⟨⟩
theorem tw5052138529434540466:True:=⟨⟩
theorem tw12419948607216356283:True:=⟨⟩
theorem tw13950105442067506961:True:=⟨⟩
theorem tw3950885391546923763:True:=⟨⟩
theorem tw1165106163796575013:True:=⟨⟩
theorem tw7590401239099050012:True:=⟨⟩
theorem tw17177836394827833735:True:=⟨⟩
theorem tw1486310287560719907:True:=⟨⟩
theorem tw15597017968397198934:True:=⟨⟩
theorem tw17628906073231624405:True:=⟨⟩
theorem tw16376542756242816795:True:=⟨⟩
theorem tw8898173920419712893:True:=⟨⟩
theorem tw9705490073907113831:True:=⟨⟩
theorem tw15771627411405837787:True:=⟨⟩
theorem tw665586320889575650:True:=⟨⟩
theorem tw17483850690517982210:True:=⟨⟩
theorem tw14018101765312128101:True:=⟨⟩
theorem tw11393677273480500051:True:=⟨⟩
theorem tw2534497546509757853:True:=⟨⟩
theorem tw2586251073339608676:True:=⟨⟩
theorem tw845266068063388826:True:=⟨⟩
theorem tw12061788362727449354:True:=⟨⟩
theorem tw9432463502969507600:True:=⟨⟩
theorem tw2273677740564931856:True:=⟨⟩
theorem tw6690043124199546139:True:=⟨⟩
theorem tw18287135345713987588:True:=⟨⟩
theorem tw18415430725036066834:True:=⟨⟩
theorem tw12436865322260060577:True:=⟨⟩
theorem tw8022762937705967954:True:=⟨⟩
theorem tw137762838024397185:True:=⟨⟩
theorem tw2246243967214805648:True:=⟨⟩
theorem tw18234540458032548742:True:=⟨⟩
theorem tw14054746915752839187:True:=⟨⟩
theorem tw9763578042410369507:True:=⟨⟩
theorem tw14587205681038379573:True:=⟨⟩
theorem tw10643350007712986246:True:=⟨⟩
theorem tw2504360084430388694:True:=⟨⟩
theorem tw467933574862487186:True:=⟨⟩
theorem tw11728548069022089703:True:=⟨⟩
theorem tw8941416069571210384:True:=⟨⟩
theorem tw1365164327348987157:True:=⟨⟩
theorem tw12653382439465411689:True:=⟨⟩
theorem tw11152493957752546030:True:=⟨⟩
theorem tw13221278434104780041:True:=⟨⟩
theorem tw4976097669736626234:True:=⟨⟩
theorem tw8966428386875719551:True:=⟨⟩
theorem tw45801124485976388:True:=⟨⟩
theorem tw10253838297986417043:True:=⟨⟩
theorem tw2162010049629913024:True:=⟨⟩
theorem tw4165319751074340991:True:=⟨⟩
theorem tw2792109682669739672:True:=⟨⟩
theorem tw5531973798773987450:True:=⟨⟩
theorem tw1875102156093097782:True:=⟨⟩
theorem tw1051296852134870299:True:=⟨⟩
theorem tw3288713461167699671:True:=⟨⟩
theorem tw3382797503576406389:True:=⟨⟩
theorem tw6206281329052607239:True:=⟨⟩
theorem tw16465383429951433826:True:=⟨⟩
theorem tw15591106395955138290:True:=⟨⟩
theorem tw14740982885461388373:True:=⟨⟩
theorem tw4406127097253875676:True:=⟨⟩
theorem tw12852866915300682824:True:=⟨⟩
theorem tw5144587577177305170:True:=⟨⟩
theorem tw8502259152551566479:True:=⟨⟩
theorem tw9341567497257314763:True:=⟨⟩
theorem tw9435273186023760979:True:=⟨⟩
theorem tw7962947382883643734:True:=⟨⟩
theorem tw13752340478330916871:True:=⟨⟩
theorem tw18147097476177880183:True:=⟨⟩
theorem tw9025346060441086196:True:=⟨⟩
theorem tw4761891369253430705:True:=⟨⟩
theorem tw18338893258422077616:True:=⟨⟩
theorem tw8623260182042847951:True:=⟨⟩
theorem tw8448642569228010803:True:=⟨⟩
theorem tw7732081936849723504:True:=⟨⟩
theorem tw4651979154988301494:True:=⟨⟩
theorem tw1975021223447336899:True:=⟨⟩
theorem tw18152728927074477494:True:=⟨⟩
theorem tw5341544936396934599:True:=⟨⟩
theorem tw7969299582346939820:True:=⟨⟩
theorem tw1222696384895883713:True:=⟨⟩
theorem tw11932728847187280573:True:=⟨⟩
theorem tw11168756552244958762:True:=⟨⟩
theorem tw3347434431070484930:True:=⟨⟩
theorem tw10466653760804055302:True:=⟨⟩
theorem tw285879631707728572:True:=⟨⟩
theorem tw3206923579338888861:True:=⟨⟩
theorem tw6613495382055463848:True:=⟨⟩
theorem tw12593101146688282527:True:=⟨⟩
theorem tw8371455637751054612:True:=⟨⟩
theorem tw4356368150235419975:True:=⟨⟩
theorem tw11499266406102784179:True:=⟨⟩
theorem tw7591191531514134775:True:=⟨⟩
theorem tw1925112347087776254:True:=⟨⟩
theorem tw8554075642481206852:True:=⟨⟩
theorem tw18279518261216113551:True:=⟨⟩
theorem tw14919867818751857192:True:=⟨⟩
theorem tw7804109217409814130:True:=⟨⟩
theorem tw15687708606421538004:True:=⟨⟩
theorem tw8367150773957612010:True:=⟨⟩
theorem tw7704747923195517618:True:=⟨⟩
theorem tw11998691765297881379:True:=⟨⟩
theorem tw11493553179096031740:True:=⟨⟩
theorem tw11310316426992973717:True:=⟨⟩
theorem tw4097836685765643685:True:=⟨⟩
theorem tw11709160069512786589:True:=⟨⟩
theorem tw10241754215779160200:True:=⟨⟩
theorem tw8697413892165614616:True:=⟨⟩
theorem tw18442952667743739802:True:=⟨⟩
theorem tw1196233058699542268:True:=⟨⟩
theorem tw8678071655338568627:True:=⟨⟩
theorem tw11209472666740342843:True:=⟨⟩
theorem tw3569264033925659445:True:=⟨⟩
theorem tw15929035275391858022:True:=⟨⟩
theorem tw9651774838945882237:True:=⟨⟩
theorem tw5647958759532516808:True:=⟨⟩
theorem tw2038969660010466197:True:=⟨⟩
theorem tw11131290079071972438:True:=⟨⟩
theorem tw7301219066877166522:True:=⟨⟩
theorem tw3686144151848275723:True:=⟨⟩
theorem tw2723497546615389292:True:=⟨⟩
theorem tw6743398657979320613:True:=⟨⟩
theorem tw5437021373980936774:True:=⟨⟩
theorem tw13200382580326386203:True:=⟨⟩
theorem tw700663065835128871:True:=⟨⟩
theorem tw2611785204328505967:True:=⟨⟩
theorem tw13717705339059175078:True:=⟨⟩
theorem tw3215990160412496754:True:=⟨⟩
theorem tw6318699226220624723:True:=⟨⟩
theorem tw5481461800400945648:True:=⟨⟩
theorem tw13908770007736886976:True:=⟨⟩
theorem tw9610957846491278276:True:=⟨⟩
theorem tw6435758403934522858:True:=⟨⟩
theorem tw2927683581038061980:True:=⟨⟩
theorem tw17711571492542671798:True:=⟨⟩
theorem tw5889252987291747427:True:=⟨⟩
theorem tw15511123595182371942:True:=⟨⟩
theorem tw8621076627681817669:True:=⟨⟩
theorem tw15976540866271833072:True:=⟨⟩
theorem tw11749061017499565280:True:=⟨⟩
theorem tw104328905345157386:True:=⟨⟩
theorem tw3902426354715460963:True:=⟨⟩
theorem tw3779824728197609684:True:=⟨⟩
theorem tw1752981677285330552:True:=⟨⟩
theorem tw14469342216839865414:True:=⟨⟩
theorem tw7134651082132771954:True:=⟨⟩
theorem tw785220080735792537:True:=⟨⟩
theorem tw15740369920151334399:True:=⟨⟩
theorem tw3062656240554299526:True:=⟨⟩
theorem tw12562955942344422011:True:=⟨⟩
theorem tw12179795904153609087:True:=⟨⟩
theorem tw14874650415567290884:True:=⟨⟩
theorem tw4581863840380736930:True:=⟨⟩
theorem tw6879923817757614891:True:=⟨⟩
theorem tw5276022365596587756:True:=⟨⟩
theorem tw11345965981232325154:True:=⟨⟩
theorem tw10265298026030608980:True:=⟨⟩
theorem tw8564225227303467087:True:=⟨⟩
theorem tw1655338929783111670:True:=⟨⟩
theorem tw5648620691066902981:True:=⟨⟩
theorem tw2490122791297165008:True:=⟨⟩
theorem tw10241976132749156441:True:=⟨⟩
theorem tw8307155970581788906:True:=⟨⟩
theorem tw8261934458817715973:True:=⟨⟩
theorem tw7899168152664454779:True:=⟨⟩
theorem tw6886518180423755067:True:=⟨⟩
theorem tw6529789581863481319:True:=⟨⟩
theorem tw2694365389359469551:True:=⟨⟩
theorem tw13945059362721013518:True:=⟨⟩
theorem tw12922755397655437494:True:=⟨⟩
theorem tw11541503792442896853:True:=⟨⟩
theorem tw10658690822968956786:True:=⟨⟩
theorem tw10073761841328885836:True:=⟨⟩
theorem tw7080519774223548443:True:=⟨⟩
theorem tw158190379831170782:True:=⟨⟩
theorem tw2896731492375031853:True:=⟨⟩
theorem tw2718462419418960104:True:=⟨⟩
theorem tw10259068130866579934:True:=⟨⟩
theorem tw9236586563321397619:True:=⟨⟩
theorem tw895523325950131561:True:=⟨⟩
theorem tw8920643708960561170:True:=⟨⟩
theorem tw7132424606269541906:True:=⟨⟩
theorem tw6200963458232105416:True:=⟨⟩
theorem tw6108950472570615260:True:=⟨⟩
theorem tw6087383675227491081:True:=⟨⟩
theorem tw5558489334144915290:True:=⟨⟩
theorem tw4937373802105923011:True:=⟨⟩
theorem tw4570873977976997104:True:=⟨⟩
theorem tw3624082472910431920:True:=⟨⟩
theorem tw335277762185355557:True:=⟨⟩
theorem tw3167998367135506292:True:=⟨⟩
theorem tw2673854715874603197:True:=⟨⟩
theorem tw18440922127222122833:True:=⟨⟩
theorem tw18408490502379257635:True:=⟨⟩
theorem tw18138252500262542810:True:=⟨⟩
theorem tw17312392718272579915:True:=⟨⟩
theorem tw17092505720553048592:True:=⟨⟩
theorem tw16711145394659959959:True:=⟨⟩
theorem tw14717444098155425043:True:=⟨⟩
theorem tw1377948811011950533:True:=⟨⟩
theorem tw13352941502406136935:True:=⟨⟩
theorem tw12957066054661763035:True:=⟨⟩
theorem tw12786433432881760438:True:=⟨⟩
theorem tw12031776284514780629:True:=⟨⟩
theorem tw10512205384111568393:True:=⟨⟩
theorem tw10375493238593036328:True:=⟨⟩
theorem tw15569262887457506841:True:=⟨⟩
theorem tw298647060394815666:True:=⟨⟩
theorem tw14492472003458483562:True:=⟨⟩
theorem tw11788344205179752110:True:=⟨⟩
theorem tw8489010720572969408:True:=⟨⟩
theorem tw8214208172410523376:True:=⟨⟩
theorem tw7353948638964671499:True:=⟨⟩
theorem tw1990899691895519993:True:=⟨⟩
theorem tw13804652572277218573:True:=⟨⟩
theorem tw13481564434974315543:True:=⟨⟩
theorem tw7996868098893077334:True:=⟨⟩
theorem tw11527377910319633209:True:=⟨⟩
theorem tw12040304876235782230:True:=⟨⟩
theorem tw9163220262878005857:True:=⟨⟩
theorem tw16451968145612909664:True:=⟨⟩
theorem tw14965102680481593304:True:=⟨⟩
theorem tw15591815368552348108:True:=⟨⟩
theorem tw13755224585077663742:True:=⟨⟩
theorem tw615141946474371227:True:=⟨⟩
theorem tw13395772138777312521:True:=⟨⟩
theorem tw6815072187451299332:True:=⟨⟩
theorem tw6737141939738981923:True:=⟨⟩
theorem tw6089228790073833938:True:=⟨⟩
theorem tw5357688471570546910:True:=⟨⟩
theorem tw2390877439222223692:True:=⟨⟩
theorem tw17477138648028159334:True:=⟨⟩
theorem tw17350305046943825833:True:=⟨⟩
theorem tw15872414521360906323:True:=⟨⟩
theorem tw14116812637551401579:True:=⟨⟩
theorem tw1386281147485636426:True:=⟨⟩
theorem tw11220480292137442854:True:=⟨⟩
theorem tw14426671363106585948:True:=⟨⟩
theorem tw4574796764394145122:True:=⟨⟩
theorem tw11667140742286552246:True:=⟨⟩
theorem tw16963108311849552493:True:=⟨⟩
theorem tw14565205232869689371:True:=⟨⟩
theorem tw9727676247898333215:True:=⟨⟩
theorem tw9496677042211380665:True:=⟨⟩
theorem tw670647253223752217:True:=⟨⟩
theorem tw6416884270408664997:True:=⟨⟩
theorem tw3122565980439117979:True:=⟨⟩
theorem tw2812045789517771522:True:=⟨⟩
theorem tw2694237619891813188:True:=⟨⟩
theorem tw17123817074286794340:True:=⟨⟩
theorem tw14936856163298941647:True:=⟨⟩
theorem tw14375681353941352050:True:=⟨⟩
theorem tw13611983840008133561:True:=⟨⟩
theorem tw13428239957320171054:True:=⟨⟩
theorem tw13377141641135398799:True:=⟨⟩
theorem tw11600201433573395825:True:=⟨⟩
theorem tw10982215279242840292:True:=⟨⟩
theorem tw10953839019863899209:True:=⟨⟩
theorem tw10078293561314772070:True:=⟨⟩
theorem tw7045031685194584046:True:=⟨⟩
theorem tw15775390197605399803:True:=⟨⟩
theorem tw15434683940543670137:True:=⟨⟩
theorem tw14141586254666570503:True:=⟨⟩
theorem tw11087330865274780165:True:=⟨⟩
theorem tw10738055652954155419:True:=⟨⟩
theorem tw7667760571184849421:True:=⟨⟩
theorem tw8989864959553430097:True:=⟨⟩
theorem tw8725986390720378205:True:=⟨⟩
theorem tw7363753093459644277:True:=⟨⟩
theorem tw1499762388506048249:True:=⟨⟩
theorem tw13618416137850845530:True:=⟨⟩
theorem tw12390828285900903387:True:=⟨⟩
theorem tw9259393896729015902:True:=⟨⟩
theorem tw8069063509539565450:True:=⟨⟩
theorem tw5403187571564876139:True:=⟨⟩
theorem tw5114280248359338850:True:=⟨⟩
theorem tw4869094682836541549:True:=⟨⟩
theorem tw3857771278261609217:True:=⟨⟩
theorem tw265068726714471688:True:=⟨⟩
theorem tw2517832431253640516:True:=⟨⟩
theorem tw2480555668125035380:True:=⟨⟩
theorem tw17264953414175905316:True:=⟨⟩
theorem tw16370311795977815897:True:=⟨⟩
theorem tw16000186013624002487:True:=⟨⟩
theorem tw15181238806851884879:True:=⟨⟩
theorem tw14877956758877117300:True:=⟨⟩
theorem tw126775993825078897:True:=⟨⟩
theorem tw17312993230557349517:True:=⟨⟩
theorem tw16648306768284238474:True:=⟨⟩
theorem tw9271790681961859290:True:=⟨⟩
theorem tw6618195517680518116:True:=⟨⟩
theorem tw4088855776767040064:True:=⟨⟩
theorem tw1094180614772512430:True:=⟨⟩
theorem tw15096111164963800294:True:=⟨⟩
theorem tw15176357782931650622:True:=⟨⟩
theorem tw633370090736247515:True:=⟨⟩
theorem tw13108828647873664986:True:=⟨⟩
theorem tw1883934418042679243:True:=⟨⟩
theorem tw8609804995424067796:True:=⟨⟩
theorem tw2543289969374671716:True:=⟨⟩
theorem tw9950575327378741499:True:=⟨⟩
theorem tw9301667731990817552:True:=⟨⟩
theorem tw929025901007692411:True:=⟨⟩
theorem tw8863991485947652929:True:=⟨⟩
theorem tw7978888398656325096:True:=⟨⟩
theorem tw717957474849543648:True:=⟨⟩
theorem tw6163416171852373489:True:=⟨⟩
theorem tw613989967924081517:True:=⟨⟩
theorem tw5430465257905877977:True:=⟨⟩
theorem tw5224883133637261687:True:=⟨⟩
theorem tw3262243320474199470:True:=⟨⟩
theorem tw2374419523375634622:True:=⟨⟩
theorem tw2045586309670973202:True:=⟨⟩
theorem tw17835619501448559040:True:=⟨⟩
theorem tw17097864126666260573:True:=⟨⟩
theorem tw15873322707974746776:True:=⟨⟩
theorem tw15617414616775755086:True:=⟨⟩
theorem tw1289268491752073514:True:=⟨⟩
theorem tw11085083352095766750:True:=⟨⟩
theorem tw3265360475554206566:True:=⟨⟩
theorem tw2468980526804513063:True:=⟨⟩
theorem tw1834251191361046726:True:=⟨⟩
theorem tw17160201305325689596:True:=⟨⟩
theorem tw17055065528423199037:True:=⟨⟩
theorem tw1012990544547442718:True:=⟨⟩
theorem tw9626011042065925825:True:=⟨⟩
theorem tw8721964967774826243:True:=⟨⟩
end PySem.W.Fast
set_option genInjectivity false in
set_option genSizeOf false in
structure PySem.W.Fast:Prop where
 (tw806135768152941307 tw7854720024229171938 tw7459962118858409046 tw6702283306684858572 tw6245720514764483624 tw4167816049641757563 tw3030968971524729213 tw2348048727800916137 tw16958003723755920826 tw16522320036363460384 tw16328878758215148317 tw13870772673460935466 tw12806111442116767018 tw12450852630459166215 tw10602228910190281079 tw10083358699915126241 tw6245643701167572345 tw5944310578368615648 tw4540037547622253453 tw2830053153982869662 tw17114946233489371213 tw15937135785576364637 tw15281367754167329191 tw13713836189331491066 tw11766158254204434678:True)
open PySem PySem.W PyProof.Rows
set_option maxRecDepth 100000 in
theorem PySem.Challenge.cw_wornpages_k34_a_paper_holds : PySem.Challenge.rw_wornpages_k34_a_paper.Holds := by
 w_on;o_law;k_head;(case hw=>w_witness2)
 k_fill
 refine W1.walk (l:=PySem.Challenge.rw_wornpages_k34_a_paper) rfl rfl (λw h Y=>⟨W.km_in_of Y,λT hT=>W.km_tabs_of Y T (by simp at hT ⊢;first|exact hT|exact hT.symm)⟩) (?T) ?F
 case T=>
  intro w T hT
  have hT:T=304:=by simpa using hT
  subst hT
  exact⟨by kernel_rfl,306,by kernel_rfl⟩
 case F=>
  intro w mg fa h KX G hmg
  refine' W1.qK2 (z1:=304) (z0:=306) KX G hmg ?_ ?_ ?_ ?_ ?_ ?_ ?_ ?_ ?_ ?_ ?_ ?_ ?_ ?_ ?_ ?_ ?_ ?_ ?_ ?_ ?_ ?_ ?_ ?_ ?_ ?_ ?_ ?_ ?_ ?_ ?_ ?_ ?_ ?_ ?_ ?_ ?_ ?_ ?_ ?_ ?_ ?_ ?_ ?_ ?_ ?_ ?_ ?_ ?_ ?_ ?_ ?_ ?_ ?_ ?_ ?_ ?_ ?_ ?_ ?_ ?_ ?_ ?_ ?_ ?_ ?_ ?_ ?_ ?_ ?_ ?_ ?_ ?_ ?_ ?_ ?_ ?_ ?_ ?_ ?_ ?_ ?_ ?_ ?_ ?_ ?_ ?_ ?_ ?_ ?_ ?_ ?_ ?_ ?_ ?_ ?_ ?_ ?_ ?_ ?_ ?_ ?_ ?_ ?_ ?_ ?_ ?_ ?_ ?_ ?_ ?_ ?_ ?_ ?_ ?_ ?_ ?_ ?_ ?_ ?_ ?_ ?_ ?_ ?_ ?_ ?_ ?_ ?_ ?_ ?_ ?_ ?_ ?_ ?_ ?_ ?_ ?_ ?_ ?_ ?_ ?_ ?_ ?_ ?_ ?_ ?_ ?_ ?_ ?_ ?_ ?_ ?_ ?_ ?_ ?_ ?_ ?_ ?_ ?_ ?_ ?_ ?_ ?_ ?_ ?_ ?_ ?_ ?_ ?_ ?_ ?_ ?_ ?_ ?_ ?_ ?_ ?_ ?_ ?_ ?_ ?_ ?_ ?_ ?_ ?_ ?_ ?_ ?_ ?_ ?_ ?_ ?_ ?_ ?_ ?_ ?_ ?_ ?_ ?_ ?_ ?_ ?_ ?_ ?_ ?_ ?_ ?_ ?_ ?_ ?_ ?_ ?_ ?_ ?_ ?_ ?_ ?_ ?_ ?_ ?_ ?_ ?_ ?_ ?_ ?_ ?_ ?_ ?_ ?_ ?_ ?_ ?_ ?_ ?_
  any_goals first|k_is|(refine' L2.FnX.of ?fa ?fb;(case fa=>k_is);(case fb=>k_is))|((first|apply And.intro|apply L2.Meth.mk|apply L2.Mk.mk|apply L2.Cls.mk|apply L2.XAt.mk|apply L2.BIni.mk|apply L2.ClM.mk|apply L2.XRd.mk)<;>first|k_is|kernel_rfl)|(show W.findIn _ _ _=_;k_is)
  all_goals first|k_exc|kts_exm|kit_is|kernel_rfl|decide
