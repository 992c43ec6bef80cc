import PyProof.Rows.All
import Wide.All
import OpenK.AllK
import Wide.FinOn
import Lean
import PyProof.EqAt
import PyProof.EqKinds
import PyProof.TupleCall
import PyProof.StationsW
import PyProof.NsDelKeeps
import PyProof.PassesOwn
import PyProof.ZipIter
import PyProof.NeKinds
import PyProof.CompFree
import KE.KDictList
import PyProof.ConsumeWalk
import PyProof.WalkInts
import PyProof.WalksMore
import PyProof.SumAny
import PyProof.Rows.MinMaxN
import PyProof.Rows.SortWalk
import PyProof.ListRange
import KE.KTupSum
import PyProof.EnumFor
import PyProof.EnumMake
import PyProof.EnumStmt
import OpenK.KMake
import PyProof.DictWalks
import PyProof.FitsBits
import PyProof.CompUse
import KE.KSortTup
import PyProof.MinMaxWalk
import PyProof.SeqI3
import PyProof.DictItems
import KE.KItemsList
import KE.KEqDict
import KE.KDictSum
import PyProof.DictValues
import KE.KLam
import KE.KNestM
import PyProof.ExcClass3
import PySem.Challenge.RW_wornpages_k48_no_spread
set_option Elab.async false
set_option linter.all false
set_option maxRecDepth 100000
set_option maxHeartbeats 0
noncomputable abbrev hG:=@decide_eq_true
noncomputable abbrev hX:=@decide_eq_false
noncomputable abbrev kF:=@if_neg
noncomputable abbrev kJ:=@if_pos
noncomputable abbrev kQ:=@decide_eq_true_eq
noncomputable abbrev mM:=@of_decide_eq_true
noncomputable abbrev gZ:=@congrArg
noncomputable abbrev dC:=@of_decide_eq_false
noncomputable abbrev d8:=@decide_eq_false_iff_not
noncomputable abbrev rA:=@beq_eq_false_iff_ne
noncomputable abbrev rK:=@or_false
noncomputable abbrev rW:=@beq_iff_eq
open List renaming mem_cons_of_mem→hU, mem_singleton→h9, length_map→kB, getElem?_eq_getElem→kC, getElem?_eq_some_iff→kD, mem_cons→kI, getD_eq_getElem?_getD→kL, mem_append_right→kU, mem_cons_self→kX, mem_map→kZ, getElem?_map→mB, size_toArray→mD, length_filter_le→mE, length_cons→mG, length_append→mH, mem_filter→mK, map_cons→mL, mem_range→mV, take_append_getElem→mY, map_append→m8, filter_cons→m9, nodup_cons→gA, length_range→gC, length_singleton→gD, not_mem_nil→gE, mem_append→gF, mem_of_getElem?→gH, getElem_mem→gJ, take_length→gK, length_set→gM, length_replicate→gN, mem_append_left→gO, pairwise_cons→gT, filter_append→gU, length_take→gX, pairwise_map→g4, append_nil→g5, nil_append→g7, getElem?_append_right→dH, pairwise_lt_range→dL, replicate_succ→dP, filter_eq_self→dQ, find?_cons→dR, lookup_cons→dX, all_eq_true→dY, sum_cons→dZ, length_filterMap_le→d3, find?_some→d9, map_congr_left→rB, getElem?_eq_none→rM, getElem?_append_left→rO, mem_of_find?_eq_some→rP, drop_eq_getElem_cons→rQ, exists_mem_of_ne_nil→rR, length_nil→rT, filterMap_cons→rZ, getElem_of_mem→r9, map_eq_nil_iff→wA, getElem?_replicate→wC, ext_getElem→wE, cons_append→wF, eq_nil_of_length_eq_zero→wH, mem_filterMap→wI, map_map→wM, find?_eq_none→wN, countP_eq_length_filter→wR, flatten_cons→wX, nodup_append→wY, filter_congr→wZ, getElem?_set_ne→cD, any_eq_true→cH, pairwise_iff_getElem→cI, filter_sublist→cJ, any_cons→cL, mem_mergeSort→cT, map_replicate→cU, append_assoc→c6, countP_mono_left→c9, countP_cons→pE, of_mem_zip→pN, mem_map_of_mem→pR, getElem_range→p9, getElem?_cons_succ→sJ, getElem_map→sS, pairwise_mergeSort→sU, nodup_range→sV, getElem?_set_self→sX, length_pos_of_mem→nJ, length_mergeSort→nQ, take_append_drop→nU, mergeSort_perm→lL, length_pos_iff→lM, nil_perm→lP, zip_cons_cons→lT, map_set→xN, find?_append→xQ, drop_length→xU, forIn_cons→x8, filter_map→aE, range_succ→aG, perm_cons→aL, all_cons→aV, map_nil→aY, any_map→aZ
open PySem renaming wpAny_bind→hV, wpAny_pure→kY, sizeLine_eq→gG, wpAny_holding→gL, mem_of_lookup→gQ, wpAny_truthy_bool→gR, wpAny_mono→g8, wpAny_Call_Name_kw→g9, wpAny_tryCatch→dN, boot_len→dO, wpAny_passesOwn→rS, plainId_quiet→rX, wpAny_letGo→wG, codeAny_builtin→wS, wpAny_updateSeq→wT, wpAny_newList→wV, wpAny_seqItems→cG, wpAny_call→cQ, codeAny_mono→cY, wpAny_standAt→pH, codeAny_call_builtin→pK, wpAny_execs_nil→pM, wpAny_newFunctionEnv_cells→pZ, tupleKind_room_in1→p7, wpAny_call_entry→sR, seqIndex_neg→sY, wpAny_getItem_list_neg→nG, wpAny_loadPart'→nL, wpAny_isTrue_Compare1→nO, wpAny_loadName_local→nY, seqIndex_of→lA, wpAny_setField→lB, wpAny_field→lC, wpAny_newFunctionEnv→lE, wpAny_loadName_cell→lI, wpAny_attempt→lO, wpAny_assign_Name→l8, wpAny_pyIter_list→l9, call_meetsIn→xE, wpAny_Call_method→xF, wpAny_newObj_type→xH, wpAny_Name→aH, typeIs_int→aI, call_meets→aJ
open PySem.Heap renaming get?_push_of_some→kE, lt_size→kP, get?_update_other→kW, get?_push_size→mJ, get?_update_self→dW, get?_none_of_le→cC, size_push→pX, size_update→sQ
open Option.some renaming inj→kM
open Nat renaming le_refl→kN, le_trans→mF, ne_of_lt→mP, zero_le→mU, lt_of_lt_of_le→mW, mul_le_mul_right→g0, le_succ→dD, lt_irrefl→dE, ne_of_gt→dG, lt_succ_of_lt→dJ, add_mul→rE, one_mul→rF, lt_succ_self→rG, lt_of_le_of_lt→rJ, mul_comm→wL, le_of_eq→cX, succ_mul→c7, mod_eq_of_lt→pF, add_le_add_right→pL, mul_add_mod→pO, le_of_lt→pT, eq_of_mul_eq_mul_right→sC, le_add_right→sL, zero_add→nK, div_lt_iff_lt_mul→nV, lt_of_succ_lt→xG, mul_mod_left→xS, not_lt_zero→aA, not_lt→aK
open Bool renaming false_ne_true→kO, and_eq_true→mR, not_eq_true'→d7, eq_iff_iff→wO, or_eq_true→wP, false_eq_true→cS, eq_false_iff→xI, true_and→aW
open Option renaming map_eq_some_iff→mI, isSome_iff_exists→cK, bind_some→pD, isSome_map→xD, map_some→x9
open Int renaming toNat_natCast→mQ, le_refl→gP, natCast_mul→dS, natCast_ediv→rH, eq_ofNat_of_zero_le→wD, le_of_lt→c8, mul_le_mul_of_nonneg_right→pG, le_trans→pU, mul_ediv_cancel_left→sG, mul_nonneg→lD, emod_lt_of_pos→lW, emod_nonneg→x6, natCast_add→aF, mul_le_mul→aM
open Array renaming length_toList→mZ, getElem?_eq_some_iff→cF, getD_eq_getD_getElem?→pV, perm_iff_toList_perm→p8, toList_inj→sO, toList_map→sP, append_assoc→lS, map_map→aX
open PySem.F renaming plain_min_loop→m7, entry_min_loop→dM, slot_dict_pop→wW, slot_dict_itemiterator_iter→cM, slot_list_append→cN, type_list_append→cO, plainAttrs_dict→cV, plainAttrs_list→cW, args_dict_pop_3→sI, slot_dict_items→sT, entry_dict_pop→nH, type_dict_pop→nP, plain_min→xO, entry_min→xP, kind_min→xV, slot_int_rmul→xZ
open PySem.W renaming kia_one→gW, mg_of→gY, methodCall_KW→rL, mg_none_of→rV, callWith_K→wJ, looks_findIn→cE, cellsFrom_some→cZ, any_some→pC, plainGet_of→pP, callWith_K0→pQ, check_slot→lU, make_core→xA, kitx_list→xB, kitx_dict→xC, makes_of→xR, codeHd_of_K→xX
open List.Pairwise renaming filter→g3, sublist→pA
open Decidable renaming byContradiction→dU
open PySem.Around renaming under_plainId→d6, frames_deeper→n9
open PySem.BindsTo renaming of_defaults→rC
open PyProof.Rows renaming callWith_type1→rD, get?_update_seq→wQ, listUpdate_at→wU, seqEpoch_at→sF, subscriptTail_builtinR→nE, size_push'→nI, entry_list_sort→nN, slot_list_sort→lF, getElem?_mirror_all→lK, listItems_at→xJ, pairsOf_size→xK, plain_sorted→xL, entry_sorted→xM, kind_sorted→xW, callWith_kw→xY
open PySem.Obj renaming isFreed_of_fields→rN, data_mapFields→cR
open PySem.PassesOwn renaming never→rU, leaving→cA
open Ne renaming symm→r6
open PySem.Calls renaming callWith_builtin→wK, spliced_cons→cP, evalArgs_plain→pJ, Name_function_global→pW, call_function_entry→sD, spliced_nil→sE
open Sum.inl renaming inj→cB
open PySem.SeqAt.EqAt renaming int_int→p6, same→nM, int_str→lQ, str_int→lR, of_refs→lY
open PySem.Value renaming isStrOf_shape→lG, isInt_shape→l7
open PySem.SeqAt.RcNeAt renaming tuples→lJ
open PySem.Paired renaming length→lN
open PySem.Walks renaming list→lZ
open List.Sublist renaming map→xT
open Array.Perm renaming refl→aB
open StateT renaming run_pure→aD
open PySem.EqMixed renaming eq_bool_str→aN, eq_str_bool→aO, ne_bool_str→aP, ne_str_bool→aQ, eq_int_str→aR, eq_str_int→aS, ne_int_str→aT, ne_str_int→aU
open Iff renaming rfl→bA
open PySem.W.Looks renaming of_pure→bD, here→bE, ld→bG
set_option genSizeOf false
namespace L2
open PySem PySem.Spec PyProof.Rows
noncomputable abbrev Key:=Sum Int Str
noncomputable def q72:Key→Value→Bool
| .inl k,v=>Value.isInt k v
| .inr x,v=>Value.isStrOf x v
noncomputable def keyH(w:World):Key→Int
| .inl k=>hashInt k
| .inr x=>hashStr w x
theorem y7:∀{k:Key} {v:Value},q72 k v=true→(∃i t,k=Sum.inl i∧v=Value.int i t)∨(∃x t,k=Sum.inr x∧v=Value.str x t)
| .inl i,v,h=>by obtain⟨t,e⟩:=l7 (k:=i) (v:=v) h;exact .inl ⟨i,t,rfl,e⟩
| .inr x,v,h=>by obtain⟨t,e⟩:=lG (x:=x) (v:=v) h;exact .inr ⟨x,t,rfl,e⟩
theorem qC0(i:Int)(t:Tok):q72 (.inl i) (.int i t)=true:=by simp[q72,Value.isInt]
theorem qC1(x:Str)(t:Tok):q72 (.inr x) (.str x t)=true:=by simp[q72,Value.isStrOf]
theorem qHQ(a b:Int):decide ((Sum.inl a:Key)=Sum.inl b)=(a==b):=by(
by_cases e:a=b
·subst e;simp
have h:¬(Sum.inl a:Key)=Sum.inl b:=λq=>e (cB q)
rw[hX h]
exact(rA.mpr e).symm)
theorem qHR(a b:Str):decide ((Sum.inr a:Key)=Sum.inr b)=decide (a=b):=by(
by_cases e:a=b
·subst e;simp
have h:¬(Sum.inr a:Key)=Sum.inr b:=λq=>e (Sum.inr.inj q)
rw[hX h,hX e])
theorem qHS(a:Int)(b:Str):decide ((Sum.inl a:Key)=Sum.inr b)=false:=hX (λq=>nomatch q)
theorem qHT(a:Str)(b:Int):decide ((Sum.inr a:Key)=Sum.inl b)=false:=hX (λq=>nomatch q)
noncomputable def jP(prog:Program)(w:World):PySem.KeyKind prog w Key where
is:=q72
hash:=keyH w
inj:=λv a b ha hb=>by
 rcases y7 ha with⟨i,t,rfl,rfl⟩|⟨x,t,rfl,rfl⟩
 ·rcases y7 hb with⟨j,u,rfl,e⟩|⟨y,u,rfl,e⟩
  ·injection e with e1 _;rw[e1]
  exact nomatch e
 rcases y7 hb with⟨j,u,rfl,e⟩|⟨y,u,rfl,e⟩
 ·exact nomatch e
 injection e with e1 _;rw[e1]
byValue:=λk v h=>by rcases y7 h with⟨i,t,rfl,rfl⟩|⟨x,t,rfl,rfl⟩<;>rfl
pyHash:=λhv h=>by
 rcases y7 hv with⟨i,t,rfl,rfl⟩|⟨x,t,rfl,rfl⟩
 ·exact wpAny_pyHash_int h
 exact wpAny_pyHash_str h
eqBool:=λhu hv h=>by
 rcases y7 hu with⟨i,t,rfl,rfl⟩|⟨x,t,rfl,rfl⟩
 ·rcases y7 hv with⟨j,u,rfl,rfl⟩|⟨y,u,rfl,rfl⟩
  ·rw[qHQ]at h;exact wpAny_eqBool_int h
  rw[qHS]at h;exact lQ i t y u _ _ _ _ h
 rcases y7 hv with⟨j,u,rfl,rfl⟩|⟨y,u,rfl,rfl⟩
 ·rw[qHT]at h;exact lR x t j u _ _ _ _ h
 rw[qHR]at h;exact wpAny_eqBool_str h
«strs»:=λk x t v h=>by
 rcases y7 h with⟨i,u,rfl,e⟩|⟨y,u,rfl,e⟩
 ·exact nomatch e
 injection e with e1 _
 subst e1;cases v<;>rfl
theorem q8S(prog:Program)(w:World)(i:Int)(t:Tok):(jP prog w).is (.inl i) (.int i t)=true:=qC0 i t
theorem q8T(prog:Program)(w:World)(x:Str)(t:Tok):(jP prog w).is (.inr x) (.str x t)=true:=qC1 x t
inductive V where
|non|bl (b:Bool)|int (i:Int)|str (x:Str)|byt (b:Array UInt8)|flt (b:UInt64)|ref (a:Addr)|ty (n:String)
deriving DecidableEq
noncomputable def RelV:V→Value→Prop
| .non,u=>u=Value.none
| .bl b,u=>u=Value.bool b
| .int i,u=>∃t,u=Value.int i t
| .str x,u=>∃t,u=Value.str x t
| .byt b,u=>∃t,u=Value.bytes b t
| .flt b,u=>∃t,u=Value.float b t
| .ref a,u=>u=Value.ref a
| .ty n,u=>u=Value.type n
noncomputable abbrev Vals:List V→List Value→Prop:=Paired RelV
theorem Vals.length{xs:List V}{us:List Value}(r:Vals xs us):xs.length=us.length:=lN r
theorem Vals.get:∀{xs:List V} {us:List Value} {i:Nat} {x:V},Vals xs us→xs[i]?=some x→∃u,us[i]?=some u∧RelV x u
|_,_,_,_,.nil,e=>by simp at e
|_,_,0,_,.cons r _,e=>by simp at e;subst e;exact⟨_,rfl,r⟩
|_,_,i+1,x,.cons _ t,e=>by obtain⟨u,h1,h2⟩:=Vals.get (i:=i) (x:=x) t (by simpa using e);exact⟨u,by simpa using h1,h2⟩
theorem Vals.set{x:V}{u:Value}(r:RelV x u):∀{xs:List V} {us:List Value} (i:Nat),Vals xs us→Vals (xs.set i x) (us.set i u)
|_,_,_,.nil=>.nil
|_,_,0,.cons _ t=>.cons r t
|_,_,i+1,.cons q t=>.cons q (Vals.set r i t)
theorem Vals.append:∀{xs ys:List V} {us ws:List Value},Vals xs us→Vals ys ws→Vals (xs++ys) (us++ws)
|_,_,_,_,.nil,s=>s
|_,_,_,_,.cons r t,s=>.cons r (Vals.append t s)
noncomputable def RelO:Option V→Option Value→Prop
|some v,some u=>RelV v u
|none,none=>True
|_,_=>False
noncomputable def KV{κ:Type}:List (κ×V)→List (κ×Value)→Prop:=Paired λ(p:κ×V) (q:κ×Value)=>p.1=q.1∧RelV p.2 q.2
noncomputable def kV:Key→V
| .inl i=>.int i
| .inr x=>.str x
inductive HO where
|lst (xs:List V)
|tup (xs:List V)
|dK (kvs:List (Key×V))|dT (kvs:List (List Key×V))
|set (S:Int→Bool) (n:Nat)
|ins (C dx:Addr) (fs:List (Str×V))
|own (x:Addr)
|xd (fs:List (Str×V))
|met (f x:Addr)
|rng (lo hi:Int)
|frz (o:Obj) (u:HO)
|tbl (ps:Array Value)
|ext (φ:Heap→Prop)
noncomputable abbrev Hp:=Addr→Option HO
noncomputable def upd(H:Hp)(a:Addr)(o:HO):Hp:=λb=>if b=a then some o else H b
theorem qG{H:Hp}{a:Addr}{o:HO}:upd H a o a=some o:=by unfold upd;rw[kJ rfl]
theorem qC{H:Hp}{a b:Addr}{o:HO}(h:b≠a):upd H a o b=H b:=by unfold upd;rw[kF h]
theorem q7T{H:Hp}{a:Addr}{o u:HO}:upd (upd H a o) a u=upd H a u:=by funext b;unfold upd;split<;>rfl
theorem jS{H:Hp}{a b:Addr}{o u:HO}(h:H a=some o)(h':H b=some u)(d:o≠u):a≠b:=by intro e;subst e;rw[h]at h';exact d (kM h')
theorem qH{H:Hp}{a b:Addr}{o:HO}(h:H a=some o)(h':H b=none):a≠b:=by intro e;subst e;rw[h]at h';cases h'
section
variable(P:Program)(w:World)
noncomputable def jH(H:Hp)(h:Heap)(a:Addr):HO→Prop
| .lst xs=>xs.length≤sizeLine∧∃(its:List Value) (n:Nat),Vals xs its∧h.get? a=some { cls:=.type "list",data:=.seq its.toArray n }
| .tup xs=>xs.length≤sizeLine∧∃its:List Value,Vals xs its∧IsTup h a its.toArray
| .dK kvs=>kvs.length≤sizeLine∧(a==sysModules)=false∧∃vs,KV kvs vs∧h.DictOf (jP P w) a vs
| .dT kvs=>kvs.length≤sizeLine∧(a==sysModules)=false∧∃xs:List (List Key×Addr×Value),Paired (λ(p:List Key×V) (q:List Key×Addr×Value)=>p.1=q.1∧H q.2.1=some (.tup (p.1.map kV))∧RelV p.2 q.2.2) kvs xs∧∃o es ep,h.get? a=some o∧o.ExactDict∧o.data=.dict es ep∧es.toList=xs.map (entryOfKey (tupleKind (jP P w)))∧(xs.map (·.1)).Nodup
| .set S n=>h.SetOf (intKind P w) a S n
| .ins C dx fs=>H dx=some (.own a)∧fs.length≤1000∧dx≠a∧h.get? a=some (PySem.W.instObj C dx)∧∃mA,h.Ns1 dx mA∧(∀f,RelO (fs.lookup f) (mA f))∧PySem.Within mA (fs.map (·.1))
| .own _=>∃o,h.get? a=some o
| .xd fs=>∃mA,h.Ns1 a mA∧∀f,RelO (fs.lookup f) (mA f)
| .rng lo hi=>∃t u v,h.get? a=some { cls:=.type "range",data:=.fields #[.int lo t,.int hi u,.int 1 v] }
| .frz o u=>h.get? a=some o∧jH H h a u
| .tbl ps=>h.get? a=some { cls:=.none,data:=.fields ps }
| .met f x=>h.get? a=some (PySem.W.methodObj (.ref f) (.ref x))
| .ext φ=>φ h∧(∃o,h.get? a=some o)∧∀h1 h2:Heap,φ h1→(∀o,h1.get? a=some o→h2.get? a=some o)→φ h2
noncomputable def HOk(H:Hp)(h:Heap):Prop:=∀a o,H a=some o→jH P w H h a o
end
section
variable{P:Program}{w:World}{H H':Hp}{h h':Heap}{a:Addr}{o:HO}
theorem jH.lt(x:jH P w H h a o):a<h.objs.size:=by(
cases o with
|lst xs=>obtain⟨_,_,_,_,e⟩:=x;exact kP e
|tup xs=>obtain⟨_,_,_,p⟩:=x;exact p.lt
|dK kvs=>obtain⟨_,_,_,_,o,_,_,e,_⟩:=x;exact kP e
|dT kvs=>obtain⟨_,_,_,_,o,_,_,e,_⟩:=x;exact kP e
|set S n=>obtain⟨o,_,_,_,e,_⟩:=x;exact kP e
|ins C dx fs=>obtain⟨_,_,_,e,_⟩:=x;exact kP e
|own y=>obtain⟨_,e⟩:=x;exact kP e
|xd fs=>obtain⟨_,⟨_,_,_,e,_⟩,_⟩:=x;exact kP e
|rng lo hi=>obtain⟨_,_,_,e⟩:=x;exact kP e
|frz ob u=>obtain⟨e,_⟩:=x;exact kP e
|tbl ps=>exact kP (show h.get? a=some _ from x)
|met f y=>exact kP (show h.get? a=some _ from x)
|ext φ=>obtain⟨_,⟨_,e⟩,_⟩:=x;exact kP e)
theorem Paired.mapP{α β:Type}{F G:α→β→Prop}:∀{l₁:List α} {l₂:List β},Paired F l₁ l₂→(∀a b,F a b→G a b)→Paired G l₁ l₂
|_,_,.nil,_=>.nil
|_,_,.cons r t,f=>.cons (f _ _ r) (Paired.mapP t f)
theorem jH.stay(x:jH P w H h a o)(k:∀b u,(b=a∨H b=some (.own a))→h.get? b=some u→h'.get? b=some u)
 (ho:∀b,H b=some (.own a)→H' b=some (.own a)) (ht:∀b xs,H b=some (.tup xs)→H' b=some (.tup xs)):jH P w H' h' a o:=by(
induction o with
|lst xs=>obtain⟨z,its,n,r,e⟩:=x;exact⟨z,its,n,r,k _ _ (.inl rfl) e⟩
|tup xs=>obtain⟨z,its,r,ob,e,c⟩:=x;exact⟨z,its,r,ob,k _ _ (.inl rfl) e,c⟩
|dK kvs=>obtain⟨z,y,vs,r,ob,es,ep,e,c⟩:=x;exact⟨z,y,vs,r,ob,es,ep,k _ _ (.inl rfl) e,c⟩
|dT kvs=>obtain⟨z,y,xs,r,ob,es,ep,e,c⟩:=x;exact⟨z,y,xs,Paired.mapP r λp q z=>⟨z.1,ht _ _ z.2.1,z.2.2⟩,ob,es,ep,k _ _ (.inl rfl) e,c⟩
|set S n=>obtain⟨ob,es,ep,t,e,c⟩:=x;exact⟨ob,es,ep,t,k _ _ (.inl rfl) e,c⟩
|ins C dx fs=>obtain⟨d,z,ne,e,mA,⟨od,es,ep,e2,c⟩,r⟩:=x;exact⟨ho _ d,z,ne,k _ _ (.inl rfl) e,mA,⟨od,es,ep,k _ _ (.inr d) e2,c⟩,r⟩
|own y=>obtain⟨ob,e⟩:=x;exact⟨ob,k _ _ (.inl rfl) e⟩
|xd fs=>obtain⟨mA,⟨od,es,ep,e,c⟩,r⟩:=x;exact⟨mA,⟨od,es,ep,k _ _ (.inl rfl) e,c⟩,r⟩
|rng lo hi=>obtain⟨t,u,v,e⟩:=x;exact⟨t,u,v,k _ _ (.inl rfl) e⟩
|frz ob u ih=>obtain⟨e,q⟩:=x;exact⟨k _ _ (.inl rfl) e,ih q⟩
|tbl ps=>have e:h.get? a=some { cls:=.none,data:=.fields ps }:=x;show h'.get? a=some { cls:=.none,data:=.fields ps };exact k a _ (.inl rfl) e
|met f y=>have e:h.get? a=some (PySem.W.methodObj (.ref f) (.ref y)):=x;show h'.get? a=some (PySem.W.methodObj (.ref f) (.ref y));exact k a _ (.inl rfl) e
|ext φ=>obtain⟨p,⟨o,e⟩,st⟩:=x;exact⟨st _ _ p λo q=>k _ _ (.inl rfl) q,⟨o,k _ _ (.inl rfl) e⟩,st⟩)
theorem HOk.lt(x:HOk P w H h)(e:H a=some o):a<h.objs.size:=(x a o e).lt
theorem HOk.fresh(x:HOk P w H h)(e:h.objs.size≤a):H a=none:=by(
cases q:H a with
|none=>rfl
|some u=>exact absurd (mW (x.lt q) e) (dE _))
theorem HOk.kept(x:HOk P w H h)(k:∀b u,h.get? b=some u→h'.get? b=some u):HOk P w H h':=λa o e=>(x a o e).stay (λb u _ q=>k b u q) (λ_ q=>q) λ_ _ q=>q
theorem HOk.laid(x:HOk P w H h)(k:∀b u,h.get? b=some u→h'.get? b=some u)(hp:h.objs.size≤a)(new:jH P w (upd H a o) h' a o):HOk P w (upd H a o) h':=λb u e=>by(
have hn:=x.fresh hp
by_cases hb:b=a
·subst hb;rw[qG]at e;cases e;exact new
rw[qC hb]at e
exact(x b u e).stay (λc v _ q=>k c v q) (λc q=>by rw[qC (qH q hn)];exact q) λc xs q=>by rw[qC (qH q hn)];exact q)
end
noncomputable def Rd(H:Hp)(a:Addr)(u:HO):Prop:=H a=some u∨∃o,H a=some (.frz o u)
theorem Rd.ok{P:Program}{w:World}{H:Hp}{h:Heap}{a:Addr}{u:HO}(r:Rd H a u)(x:HOk P w H h):jH P w H h a u:=by(
rcases r with r|⟨o,r⟩
·exact x a u r
obtain⟨_,q⟩:=x a _ r
exact q)
noncomputable def Mut:Option HO→Prop
|some (.lst _)=>True
|some (.dK _)=>True
|some (.dT _)=>True
|some (.set _ _)=>True
|some (.ins _ _ _)=>True
|some (.ext _)=>True
|_=>False
section
variable{P:Program}{w:World}{H:Hp}{h h':Heap}{x e:Addr}{o':HO}
theorem HOk.write(ok:HOk P w H h)(mu:Mut (H x))(he:e=x∨H e=some (.own x))(k:∀b u,b≠e→h.get? b=some u→h'.get? b=some u)(heo:∃u,h'.get? e=some u)
 (new:jH P w (upd H x o') h' x o'):HOk P w (upd H x o') h':=λb u q=>by(
have nown:∀c y,H c=some (.own y)→c≠x:=λc y r z=>by subst z;rw[r]at mu;exact mu
have ntup:∀c xs,H c=some (.tup xs)→c≠x:=λc xs r z=>by subst z;rw[r]at mu;exact mu
by_cases hb:b=x
·subst hb;rw[qG]at q;cases q;exact new
rw[qC hb]at q
by_cases hbe:b=e
·have q':H b=some (.own x):=by
  rcases he with z|z
  ·exact absurd (hbe.trans z) hb
  rw[hbe];exact z
 rw[q]at q';cases q';obtain⟨v,hv⟩:=heo;exact⟨v,by rw[hbe];exact hv⟩
refine(ok b u q).stay (λc v hc r=>k c v ?_ r) (λc r=>by rw[qC (nown c b r)];exact r) λc xs r=>by rw[qC (ntup c xs r)];exact r
rcases hc with rfl|hc
·exact hbe
rintro rfl
rcases he with z|z
·exact nown c b hc z
rw[hc]at z;cases z;exact hb rfl)
end
structure Un(fs ex:List Addr)(H H':Hp)(h h':Heap):Prop where
keep:∀b o,h.get? b=some o→H b=none→b∉fs→b∉ex→h'.get? b=some o
slot:∀b o,h.get? b=some o→H b=none→b∈fs→b∉ex→∃sl,h'.get? b=some { o with slots:=sl }
free:∀b o,h.get? b=some o→H b=none→b∉ex→H' b=none
there:∀b o,h.get? b=some o→b∉ex→∃o',h'.get? b=some o'
tups:∀b xs,H b=some (.tup xs)→H' b=some (.tup xs)
frzs:∀b o u,H b=some (.frz o u)→H' b=some (.frz o u)
tbls:∀b ps,H b=some (.tbl ps)→∃more,H' b=some (.tbl (ps++more))
section
variable{fs fs' ex ex':List Addr}{H H1 H2:Hp}{h h1 h2 h':Heap}{a x e:Addr}{o:HO}
theorem Un.any(u:Un fs ex H H1 h h1){b:Addr}{ob:Obj}(q:h.get? b=some ob)(n:H b=none)(hx:b∉ex):∃sl,h1.get? b=some { ob with slots:=sl }:=by(
by_cases hb:b∈fs
·exact u.slot b ob q n hb hx
exact⟨ob.slots,u.keep b ob q n hb hx⟩)
theorem Un.trans(a:Un fs ex H H1 h h1)(b:Un fs ex H1 H2 h1 h2):Un fs ex H H2 h h2 where
keep:=λc ob q n hc hx=>b.keep c ob (a.keep c ob q n hc hx) (a.free c ob q n hx) hc hx
slot:=λc ob q n hc hx=>by obtain⟨sl,e1⟩:=a.slot c ob q n hc hx;obtain⟨sl',e2⟩:=b.slot c _ e1 (a.free c ob q n hx) hc hx;exact⟨sl',e2⟩
free:=λc ob q n hx=>by obtain⟨o',e1⟩:=a.there c ob q hx;exact b.free c o' e1 (a.free c ob q n hx) hx
there:=λc ob q hx=>by obtain⟨o',e1⟩:=a.there c ob q hx;exact b.there c o' e1 hx
tups:=λc xs q=>b.tups c xs (a.tups c xs q)
frzs:=λc ob xs q=>b.frzs c ob xs (a.frzs c ob xs q)
tbls:=λc ps q=>by obtain⟨m1,e1⟩:=a.tbls c ps q;obtain⟨m2,e2⟩:=b.tbls c _ e1;exact⟨m1++m2,by rw[e2,lS]⟩
theorem Un.kept(k:∀b u,h.get? b=some u→h'.get? b=some u):Un fs ex H H h h':=⟨λb ob q _ _ _=>k b ob q,λb ob q _ _ _=>⟨ob.slots,k b ob q⟩,λ_ _ _ n _=>n,λb ob q _=>⟨ob,k b ob q⟩,λ_ _ q=>q,λ_ _ _ q=>q,λ_ ps q=>⟨#[],by rw[q];simp⟩⟩
theorem Un.refl:Un fs ex H H h h:=Un.kept λ_ _ q=>q
theorem Un.laid(k:∀b u,h.get? b=some u→h'.get? b=some u)(hp:h.objs.size≤a)(hn:H a=none):Un fs ex H (upd H a o) h h' where
keep:=λb u q _ _ _=>k b u q
slot:=λb u q _ _ _=>⟨u.slots,k b u q⟩
free:=λb u q n _=>by rw[qC (mP (mW (kP q) hp))];exact n
there:=λb u q _=>⟨u,k b u q⟩
tups:=λb xs q=>by rw[qC (qH q hn)];exact q
frzs:=λb u xs q=>by rw[qC (qH q hn)];exact q
tbls:=λb ps q=>⟨#[],by rw[qC (qH q hn),q];simp⟩
theorem Un.write(mu:Mut (H x))(he:e=x∨H e=some (.own x))(k:∀b u,b≠e→h.get? b=some u→h'.get? b=some u)(heo:∃u,h'.get? e=some u):Un fs ex H (upd H x o) h h':=by(
have hx:∀b,H b=none→b≠x:=λb n z=>by subst z;rw[n]at mu;exact mu
have hb:∀b,H b=none→b≠e:=λb n z=>by
 subst z;rcases he with r|r
 ·exact hx b n r
 rw[n]at r;cases r
have hm:∀b u,H b=some u→¬Mut (some u)→b≠x:=λb u q nm z=>by subst z;rw[q]at mu;exact nm mu
refine⟨λb u q n _ _=>k b u (hb b n) q,λb u q n _ _=>⟨u.slots,k b u (hb b n) q⟩,λb u q n _=>by rw[qC (hx b n)];exact n,λb u q _=>?_,λb xs q=>by rw[qC (hm b _ q λz=>z)];exact q,λb u xs q=>by rw[qC (hm b _ q λz=>z)];exact q,λb ps q=>⟨#[],by rw[qC (hm b _ q λz=>z),q];simp⟩⟩
by_cases hbe:b=e
·subst hbe;exact heo
exact⟨u,k b u hbe q⟩)
end
noncomputable def trk(h:Heap)(H:Hp):List Addr:=(List.range h.objs.size).filter λa=>(H a).isSome
noncomputable def hidT(h:Heap)(H:Hp):Heap:=PySem.W.hideAll h (trk h H)
theorem q73(h:Heap)(H:Hp):(hidT h H).objs.size=h.objs.size:=PySem.W.hideAll_size _ _
theorem q57{h:Heap}{H:Hp}{b:Addr}{o:Obj}(e:h.get? b=some o)(n:H b=none):(hidT h H).get? b=some o:=PySem.W.hideAll_get _ e λhm=>by  have q:(H b).isSome=true:=(mK.mp hm).2;rw[n]at q;simp at q
theorem qAW{h:Heap}{H:Hp}{b:Addr}{o:Obj}(e:(hidT h H).get? b=some o):h.get? b=some o∧H b=none:=by(
have e':h.get? b=some o:=PySem.W.of_hideAll (trk h H) e
refine⟨e',?_⟩
cases q:H b with
|none=>rfl
|some x=>have hm:b∈trk h H:=mK.mpr ⟨mV.mpr (kP e'),by simp[q]⟩;have z:(hidT h H).get? b=none:=PySem.W.hideAll_none (trk h H) hm;rw[z]at e;cases e)
structure Mod(K:PySem.W.Frag)(mg:Str→Option Value)(base:Heap):Prop where
kin:K.In base
glob:base.Ns mainGlobals mg
blt:∃mb,base.Ns builtinsNs mb∧∀x:Str,x≠"__name__"→mb x=bootBuiltins x
nolimit:base.NoLimit
structure Cx where
prog:Program
w:World
K:PySem.W.Frag
mg:Str→Option Value
base:Heap
A:Around
N:List Str
s₀:Shared
H₀:Hp
env:Env
outer:List Env
stack:List Env
ex:List Addr
fn:Str→Bool
calm:Bool
pn:List (Addr×Obj)
xe:Value→Shared→Prop
noncomputable def frs(l:List Env):List Addr:=l.filterMap (·.frame)
noncomputable abbrev Cx.fs(X:Cx):List Addr:=frs X.outer
noncomputable def Vis(sc:Scope)(x:Str):Prop:=sc.names.lookup x=some .local∨sc.names.lookup x=some .cell∨sc.names.lookup x=some .free
noncomputable def Loc(sc:Scope)(x:Str):Prop:=sc.names.lookup x=some .local∨sc.names.lookup x=some .cell
noncomputable def Look(env:Env)(h:Heap)(m:Str→Option Value)(x:Str)(u:Value):Prop:=(env.kindOf x=some .local∧m x=some u)∨((env.kindOf x=some .cell∨env.kindOf x=some .free)∧∃c,env.cells.lookup x=some c∧h.IsCell c (some u))
structure Cx.Ok(X:Cx):Prop where
mod:Mod X.K X.mg X.base
kind:X.env.scope.kind=.function
glob:X.env.globals=mainGlobals
blt:X.env.builtins=builtinsNs
above:X.s₀.heap.objs.size≤X.env.locals
inj:∀x y c,X.env.cells.lookup x=some c→X.env.cells.lookup y=some c→x=y
has:∀x,(X.env.kindOf x=some .cell∨X.env.kindOf x=some .free)→∃c,X.env.cells.lookup x=some c
cab:∀x c,X.fn x=true→X.env.cells.lookup x=some c→X.s₀.heap.objs.size≤c
hd:X.calm=true→X.A.handled=none
frames:X.A.frames=some X.stack
stk:X.stack=X.outer∨(X.stack=X.env::X.outer∧X.env.frame=some X.env.locals)
exf:∀b∈X.ex,b≠X.env.locals∧∀x c,X.env.cells.lookup x=some c→c≠b
bs:∀b o,X.base.get? b=some o→X.s₀.heap.get? b=some o∧X.H₀ b=none
bsz:X.base.objs.size≤X.s₀.heap.objs.size
noex:∀b o,X.base.get? b=some o→b∉X.ex
exfs:∀b∈X.ex,b∉X.fs
funs:X.s₀.heap.FunFrames X.base X.outer
frf:∀b∈X.fs,X.H₀ b=none
structure Inv(X:Cx)(pins:List (Addr×Obj))(σ:List (Option V))(H:Hp)(s:Shared):Prop where
ok:X.Ok
os:s.os=X.s₀.os
bare:AllBare s.gens
base:Un X.fs X.ex X.H₀ H X.s₀.heap s.heap
loc:∃m,s.heap.Ns X.env.locals m∧∀(i:Nat) (x:Str) (v:V),X.N[i]?=some x→σ[i]?=some (some v)→Vis X.env.scope x→∃u,RelV v u∧Look X.env s.heap m x u
cell:∀x c,X.env.cells.lookup x=some c→∃v,s.heap.IsCell c v
free:H X.env.locals=none
freeC:∀x c,X.env.cells.lookup x=some c→H c=none
pin:∀p∈X.pn++pins,s.heap.get? p.1=some p.2∧H p.1=none∧p.1≠X.env.locals∧p.1∉X.fs∧∀v,p.2.data≠ .cell v
hok:HOk X.prog X.w H s.heap
len:σ.length=X.N.length
section
variable{X:Cx}{pins:List (Addr×Obj)}{σ:List (Option V)}{H H':Hp}{s:Shared}{h':Heap}
theorem Cx.Ok.nofr(ok:X.Ok){b:Addr}{o:Obj}(e:X.base.get? b=some o):b∉X.fs:=λhb=>by have:=(ok.funs.mem hb).1;rw[e]at this;cases this
theorem Inv.bs(I:Inv X pins σ H s):∀b o,X.base.get? b=some o→s.heap.get? b=some o∧H b=none:=λb o e=>⟨I.base.keep b o (I.ok.bs b o e).1 (I.ok.bs b o e).2 (I.ok.nofr e) (I.ok.noex b o e),I.base.free b o (I.ok.bs b o e).1 (I.ok.bs b o e).2 (I.ok.noex b o e)⟩
theorem Inv.bk(I:Inv X pins σ H s):∀b o,X.base.get? b=some o→s.heap.get? b=some o:=λb o e=>(I.bs b o e).1
theorem Inv.mod(I:Inv X pins σ H s):Mod X.K X.mg X.base:=I.ok.mod
theorem Inv.kIn(I:Inv X pins σ H s):X.K.In s.heap:=I.ok.mod.kin.keeps I.bk
theorem Inv.fr(I:Inv X pins σ H s):∃m,Fr X.base X.env.locals s.heap m:=let⟨m,hn,_⟩:=I.loc
 ⟨m,hn,I.bk,mF I.ok.bsz I.ok.above⟩
theorem Inv.lt(I:Inv X pins σ H s):X.env.locals<s.heap.objs.size:=let⟨_,hn,_⟩:=I.loc;hn.lt
theorem Inv.sz(I:Inv X pins σ H s):X.s₀.heap.objs.size≤s.heap.objs.size:=mF I.ok.above (pT I.lt)
theorem Inv.nofs(I:Inv X pins σ H s){a:Addr}(h:s.heap.objs.size≤a):a∉X.fs:=λhb=>by obtain⟨_,o,ho,_⟩:=I.ok.funs.mem hb;exact absurd (mW (kP ho) (mF I.sz h)) (dE _)
theorem Inv.cne(I:Inv X pins σ H s):∀x c,X.env.cells.lookup x=some c→c≠X.env.locals:=λx c e z=>by obtain⟨v,o,ho,hd⟩:=I.cell x c e;obtain⟨m,⟨o',es,ep,ho',hd',_⟩,_⟩:=I.loc;rw[z,ho']at ho;cases ho;rw[hd']at hd;cases hd
theorem Inv.funs(I:Inv X pins σ H s):s.heap.FunFrames X.base X.outer:=by(
have all:∀(l:List Env),(∀b∈frs l,b∈X.fs)→X.s₀.heap.FunFrames X.base l→s.heap.FunFrames X.base l:=by
 intro l;induction l with
 |nil=>intro _ _;trivial
 |cons env r ih=>intro hs hl;obtain⟨hk,⟨L,o,hf,hn,ho,hd⟩,hr⟩:=hl;have hL:L∈X.fs:=hs L (by unfold frs;rw[rZ,hf];exact kX);obtain⟨sl,e⟩:=I.base.slot L o ho (I.ok.frf L hL) hL λz=>I.ok.exfs L z hL;exact⟨hk,⟨L,_,hf,hn,e,hd⟩,ih (λb hb=>hs b (by unfold frs;rw[rZ,hf];exact hU _ hb)) hr⟩
exact all X.outer (λ_ hb=>hb) I.ok.funs)
theorem Inv.stack(I:Inv X pins σ H s):s.heap.FunFrames X.base X.stack:=by(
rcases I.ok.stk with e|⟨e,hf⟩
·rw[e];exact I.funs
rw[e]
obtain⟨m,hn,_⟩:=I.loc
refine .cons (by rw[I.ok.kind];decide) hf hn ?_ I.funs
exact cC (mF I.ok.bsz I.ok.above))
theorem Inv.stkSub(I:Inv X pins σ H s):∀b∈frs X.stack,b∈X.env.locals::X.fs:=λb hb=>by(
rcases I.ok.stk with e|⟨e,hf⟩
·rw[e]at hb;exact hU _ hb
rw[e]at hb
unfold frs at hb
rw[rZ,hf]at hb
exact hb)
theorem Inv.stkFree(I:Inv X pins σ H s):∀b∈frs X.stack,H b=none:=λb hb=>by(
rcases kI.mp (I.stkSub b hb)with e|hb
·rw[e];exact I.free
obtain⟨_,o,ho,_⟩:=I.ok.funs.mem hb
exact I.base.free b o ho (I.ok.frf b hb) λz=>I.ok.exfs b z hb)
theorem Inv.step{g':Array GenState}{t':Nat}{d':Drawn}{ch:List Addr}(I:Inv X pins σ H s)
 (hch:∀b∈ch,(b∈X.ex∨X.s₀.heap.objs.size≤b)∧b≠X.env.locals∧(∀x c,X.env.cells.lookup x=some c→c≠b)∧∀p∈X.pn++pins,p.1≠b)
 (keep:∀b o,b≠X.env.locals→b∉X.fs→b∉ch→s.heap.get? b=some o→H b=none→h'.get? b=some o)
 (slot:∀b o,b≠X.env.locals→b∈X.fs→b∉ch→s.heap.get? b=some o→H b=none→∃sl,h'.get? b=some { o with slots:=sl }) (free:∀b o,b∉ch→s.heap.get? b=some o→H b=none→H' b=none)
 (there:∀b o,b∉ch→s.heap.get? b=some o→∃o',h'.get? b=some o')
 (tups:∀b xs,H b=some (.tup xs)→H' b=some (.tup xs)) (frzs:∀b o u,H b=some (.frz o u)→H' b=some (.frz o u)) (tbls:∀b ps,H b=some (.tbl ps)→∃more,H' b=some (.tbl (ps++more)))
 (ns:∀m,s.heap.Ns X.env.locals m→h'.Ns X.env.locals m) (hok:HOk X.prog X.w H' h') (hg:AllBare g'):
 Inv X pins σ H' { s with heap:=h',gens:=g',drawn:=d',toks:=t' }:=by(
have neL:∀b o,X.s₀.heap.get? b=some o→b≠X.env.locals:=λb o e=>mP (mW (kP e) I.ok.above)
have neC:∀b o,X.s₀.heap.get? b=some o→b∉X.ex→b∉ch:=λb o e hx hb=>by
 rcases(hch b hb).1 with z|z
 ·exact hx z
 exact absurd (mW (kP e) z) (dE _)
have cellK:∀x c,X.env.cells.lookup x=some c→∀v,s.heap.IsCell c v→h'.IsCell c v:=λx c e v ⟨o,ho,hd⟩=>by
 have nch:c∉ch:=λz=>(hch c z).2.2.1 x c e rfl;by_cases hc:c∈X.fs
 ·obtain⟨sl,q⟩:=slot c o (I.cne x c e) hc nch ho (I.freeC x c e);exact⟨_,q,hd⟩
 exact⟨o,keep c o (I.cne x c e) hc nch ho (I.freeC x c e),hd⟩
refine⟨I.ok,I.os,hg,⟨λb o e n hb hx=>?_,λb o e n hb hx=>?_,λb o e n hx=>?_,λb o e hx=>?_,λb xs e=>tups b xs (I.base.tups b xs e),λb o xs e=>frzs b o xs (I.base.frzs b o xs e),λb ps e=>?_⟩,?_,λx c e=>?_,?_,λx c e=>?_,λp hp=>?_,hok,I.len⟩
·exact keep b o (neL b o e) hb (neC b o e hx) (I.base.keep b o e n hb hx) (I.base.free b o e n hx)
·obtain⟨sl,e1⟩:=I.base.slot b o e n hb hx;obtain⟨sl',e2⟩:=slot b _ (neL b o e) hb (neC b o e hx) e1 (I.base.free b o e n hx);exact⟨sl',e2⟩
·obtain⟨o',e1⟩:=I.base.there b o e hx;exact free b o' (neC b o e hx) e1 (I.base.free b o e n hx)
·obtain⟨o',e1⟩:=I.base.there b o e hx;exact there b o' (neC b o e hx) e1
·obtain⟨m1,e1⟩:=I.base.tbls b ps e;obtain⟨m2,e2⟩:=tbls b _ e1;exact⟨m1++m2,by rw[e2,lS]⟩
·obtain⟨m,hn,hl⟩:=I.loc;refine⟨m,ns m hn,λi x v e1 e2 e3=>?_⟩;obtain⟨u,r,l⟩:=hl i x v e1 e2 e3;refine⟨u,r,?_⟩;rcases l with l|⟨k,c,e,z⟩
 ·exact .inl l
 exact .inr ⟨k,c,e,cellK x c e _ z⟩
·obtain⟨v,z⟩:=I.cell x c e;exact⟨v,cellK x c e v z⟩
·obtain⟨m,⟨o,_,_,ho,_⟩,_⟩:=I.loc;exact free _ o (λz=>(hch _ z).2.1 rfl) ho I.free
·obtain⟨v,o,ho,hd⟩:=I.cell x c e;exact free c o (λz=>(hch c z).2.2.1 x c e rfl) ho (I.freeC x c e)
obtain⟨e,n,ne,nf,d⟩:=I.pin p hp
have nch:p.1∉ch:=λz=>(hch p.1 z).2.2.2 p hp rfl
exact⟨keep p.1 p.2 ne nf nch e n,free p.1 p.2 nch e n,ne,nf,d⟩)
theorem Inv.un{t':Nat}(I:Inv X pins σ H s)(u:Un X.fs [] H H' s.heap h')(hok:HOk X.prog X.w H' h'):Inv X pins σ H' { s with heap:=h',toks:=t' }:=by obtain⟨m,⟨o,es,ep,ho,r⟩,_⟩:=id I.loc;obtain⟨sl,hL⟩:=u.any ho I.free (by simp);exact I.step (g':=s.gens) (d':=s.drawn) (ch:=[]) (λ_ z=>nomatch z) (λb o _ hb _ e n=>u.keep b o e n hb (by simp)) (λb o _ hb _ e n=>u.slot b o e n hb (by simp)) (λb o _ e n=>u.free b o e n (by simp)) (λb o _ e=>u.there b o e (by simp)) u.tups u.frzs u.tbls (λm' hm=>by obtain⟨o',es',ep',ho',r'⟩:=hm;rw[ho]at ho';cases ho';exact⟨_,es',ep',hL,r'⟩) hok I.bare
theorem Inv.call{g':Array GenState}{t':Nat}{d':Drawn}{ch:List Addr}(I:Inv X pins σ H s)(u:Un (frs X.stack) ch H H' s.heap h')(hok:HOk X.prog X.w H' h')(hg:AllBare g')
 (hch:∀b∈ch,(b∈X.ex∨X.s₀.heap.objs.size≤b)∧b≠X.env.locals∧(∀x c,X.env.cells.lookup x=some c→c≠b)∧∀p∈X.pn++pins,p.1≠b):
 Inv X pins σ H' { s with heap:=h',gens:=g',drawn:=d',toks:=t' }:=by obtain⟨m,⟨o,es,ep,ho,r⟩,_⟩:=id I.loc;obtain⟨sl,hL⟩:=u.any ho I.free λz=>(hch _ z).2.1 rfl;exact I.step (ch:=ch) hch (λb o hL hb hc e n=>u.keep b o e n (λz=>(kI.mp (I.stkSub b z)).elim hL hb) hc) (λb o _ _ hc e n=>u.any e n hc) (λb o hc e n=>u.free b o e n hc) (λb o hc e=>u.there b o e hc) u.tups u.frzs u.tbls (λm' hm=>by obtain⟨o',es',ep',ho',r'⟩:=hm;rw[ho]at ho';cases ho';exact⟨_,es',ep',hL,r'⟩) hok hg
theorem Inv.turned{t':Nat}{it:Addr}(I:Inv X pins σ H s)(k:∀b o,b≠it→s.heap.get? b=some o→h'.get? b=some o)(hn:H it=none)(hL:it≠X.env.locals)
 (h1:it∈X.ex∨X.s₀.heap.objs.size≤it) (h2:∀x c,X.env.cells.lookup x=some c→c≠it) (h3:∀p∈X.pn++pins,p.1≠it):Inv X pins σ H { s with heap:=h',toks:=t' }:=by(
have nit:∀b u,H b=some u→b≠it:=λb u e z=>by rw[z,hn]at e;cases e
refine I.step (g':=s.gens) (d':=s.drawn) (ch:=[it]) (λb hb=>?_) (λb o _ _ hc e _=>k b o (λz=>hc (by simp[z])) e) (λb o _ _ hc e _=>⟨o.slots,k b o (λz=>hc (by simp[z])) e⟩) (λ_ _ _ _ n=>n)
 (λb o hc e=>⟨o,k b o (λz=>hc (by simp[z])) e⟩) (λ_ _ e=>e) (λ_ _ _ e=>e) (λb ps e=>⟨#[],by rw[e];simp⟩) (λm hm=>?_) (λb u e=>?_) I.bare
·have e:b=it:=by simpa using hb
 subst e;exact⟨h1,hL,h2,h3⟩
·obtain⟨o,es,ep,ho,r⟩:=hm;exact⟨o,es,ep,k _ o (r6 hL) ho,r⟩
refine(I.hok b u e).stay (λc v hc q=>k c v ?_ q) (λ_ q=>q) λ_ _ q=>q
rcases hc with z|z
·rw[z];exact nit b u e
exact nit c _ z)
theorem Inv.tok(I:Inv X pins σ H s)(t:Nat):Inv X pins σ H { s with toks:=t }:=I.un (h':=s.heap) (t':=t) Un.refl I.hok
theorem Inv.kept{t':Nat}(I:Inv X pins σ H s)(k:∀b u,s.heap.get? b=some u→h'.get? b=some u):Inv X pins σ H { s with heap:=h',toks:=t' }:=I.un (Un.kept k) (I.hok.kept k)
theorem Inv.laid{a:Addr}{o:HO}{t':Nat}(I:Inv X pins σ H s)(k:∀b u,s.heap.get? b=some u→h'.get? b=some u)(hp:s.heap.objs.size≤a)(new:jH X.prog X.w (upd H a o) h' a o):
 Inv X pins σ (upd H a o) { s with heap:=h',toks:=t' }:=I.un (Un.laid k hp (I.hok.fresh hp)) (I.hok.laid k hp new)
theorem Inv.write{x e:Addr}{o:HO}{t':Nat}(I:Inv X pins σ H s)(mu:Mut (H x))(he:e=x∨H e=some (.own x))(k:∀b u,b≠e→s.heap.get? b=some u→h'.get? b=some u)(heo:∃u,h'.get? e=some u)
 (new:jH X.prog X.w (upd H x o) h' x o):Inv X pins σ (upd H x o) { s with heap:=h',toks:=t' }:=I.un (Un.write mu he k heo) (I.hok.write mu he k heo new)
theorem Inv.weak{σ':List (Option V)}(I:Inv X pins σ H s)(hl:σ'.length=σ.length)(w:∀(i:Nat) v,σ'[i]?=some (some v)→σ[i]?=some (some v)):Inv X pins σ' H s:=⟨I.ok,I.os,I.bare,I.base,let⟨m,hn,hl'⟩:=I.loc;⟨m,hn,λi x v e1 e2 e3=>hl' i x v e1 (w i v e2) e3⟩,I.cell,I.free,I.freeC,I.pin,I.hok,hl.trans I.len⟩
theorem Inv.pins_of{pins':List (Addr×Obj)}(I:Inv X pins σ H s)(h:∀p∈pins',s.heap.get? p.1=some p.2∧H p.1=none∧p.1≠X.env.locals∧p.1∉X.fs∧∀v,p.2.data≠ .cell v):Inv X pins' σ H s:=⟨I.ok,I.os,I.bare,I.base,I.loc,I.cell,I.free,I.freeC,λp hp=>(gF.mp hp).elim (λz=>I.pin p (gO _ z)) (h p),I.hok,I.len⟩
theorem q8U{N:List Str}(hN:N.Nodup){i j:Nat}{x:Str}(a:N[i]?=some x)(b:N[j]?=some x):i=j:=by obtain⟨h1,e1⟩:=kD.mp a;obtain⟨h2,e2⟩:=kD.mp b;exact(List.getElem_inj hN).mp (e1.trans e2.symm)
theorem q74{M:Model}{A:Around}{E:Value→Shared→Prop}{i:Nat}{x:Str}{v:V}{u:Value}{Q:Unit→Shared→Prop}(I:Inv X pins σ H s)(hN:X.N.Nodup)(hi:X.N[i]?=some x)(hx:Loc X.env.scope x)(r:RelV v u)
 (h:∀s',Inv X pins (σ.set i (some v)) H s'→(∃a,Heap.SameBut a s.heap s'.heap∧(a=X.env.locals∨X.env.cells.lookup x=some a))→Q () s') (hf:X.fn x=true∨X.env.scope.names.lookup x=some .local:=by first|exact .inl rfl|exact .inr rfl|assumption):wpAny M A (storeName X.env x u) Q E s:=by(
obtain⟨m,hn,hl⟩:=id I.loc
have hcls:(X.env.scope.kind== .class||(X.env.scope.kind== .module&&X.env.locals !=X.env.globals))=false:=by rw[I.ok.kind];rfl
have hiσ:i<σ.length:=by rw[I.len];exact(kD.mp hi).1
have cne:=I.cne
have tracked:∀{a:Addr} {h':Heap},(∃o,s.heap.get? a=some o∧H a=none)→Heap.SameBut a s.heap h'→HOk X.prog X.w H h':=fun {a h'} ha hs b ob e=>by
 obtain⟨_,_,hfree⟩:=ha;refine(I.hok b ob e).stay (λc w' hc q=>(hs.2 c ?_).trans q) (λ_ q=>q) λ_ _ q=>q;rintro rfl
 rcases hc with rfl|hc
 ·rw[hfree]at e;cases e
 rw[hfree]at hc;cases hc
rcases hx with hk|hk
·refine wpAny_storeName_local hk hn (λh' hn' hs=>?_) hcls;obtain⟨oL,_,_,hoL,_⟩:=id hn;refine h _ ⟨I.ok,I.os,I.bare,⟨λb o e n hb hx=>?_,λb o e n hb hx=>?_,I.base.free,λb o e hx=>?_,I.base.tups,I.base.frzs,I.base.tbls⟩,⟨_,hn',λj y v' e1 e2 e3=>?_⟩,λy c e=>?_,I.free,I.freeC,λp hp=>?_,tracked ⟨oL,hoL,I.free⟩ hs,by simpa using I.len⟩ ⟨_,hs,.inl rfl⟩
 ·exact(hs.2 b (mP (mW (kP e) I.ok.above))).trans (I.base.keep b o e n hb hx)
 ·obtain⟨sl,e1⟩:=I.base.slot b o e n hb hx;exact⟨sl,(hs.2 b (mP (mW (kP e) I.ok.above))).trans e1⟩
 ·obtain⟨o',e1⟩:=I.base.there b o e hx;exact⟨o',(hs.2 b (mP (mW (kP e) I.ok.above))).trans e1⟩
 ·by_cases hj:j=i
  ·subst hj;rw[hi]at e1;cases e1;rw[sX hiσ]at e2;cases e2;exact⟨u,r,.inl ⟨hk,by simp⟩⟩
  rw[cD (r6 hj)]at e2;obtain⟨u',r',q⟩:=hl j y v' e1 e2 e3;refine⟨u',r',?_⟩;rcases q with⟨k,e⟩|⟨k,c,e,z⟩
  ·refine .inl ⟨k,?_⟩;have:y≠x:=λe=>hj (q8U hN e1 (e▸hi));simp[this,e]
  exact .inr ⟨k,c,e,z.sameBut hs (cne y c e)⟩
 ·obtain⟨w',z⟩:=I.cell y c e;exact⟨w',z.sameBut hs (cne y c e)⟩
 obtain⟨e,n,ne,nf,d⟩:=I.pin p hp;exact⟨(hs.2 p.1 ne).trans e,n,ne,nf,d⟩
have hfn:X.fn x=true:=by
 rcases hf with z|z
 ·exact z
 rw[z]at hk;cases hk
obtain⟨c,hc⟩:=I.ok.has x (.inl hk)
obtain⟨w',z⟩:=I.cell x c hc
refine wpAny_storeName_cell I.ok.kind hk hc z (λh' hc' hs=>?_)
obtain⟨oc,hoc,hocd⟩:=id z
refine h { s with heap:=h' } ⟨I.ok,I.os,I.bare,⟨λb o e n hb hx=>?_,λb o e n hb hx=>?_,I.base.free,λb o e hx=>?_,I.base.tups,I.base.frzs,I.base.tbls⟩,⟨m,hn.sameBut hs (r6 (cne x c hc)),λj y v' e1 e2 e3=>?_⟩,λy c' e=>?_,I.free,I.freeC,λp hp=>?_,tracked ⟨oc,hoc,I.freeC x c hc⟩ hs,by simpa using I.len⟩ ⟨c,hs,.inr hc⟩
·exact(hs.2 b (mP (mW (kP e) (I.ok.cab x c hfn hc)))).trans (I.base.keep b o e n hb hx)
·obtain⟨sl,e1⟩:=I.base.slot b o e n hb hx;exact⟨sl,(hs.2 b (mP (mW (kP e) (I.ok.cab x c hfn hc)))).trans e1⟩
·obtain⟨o',e1⟩:=I.base.there b o e hx;exact⟨o',(hs.2 b (mP (mW (kP e) (I.ok.cab x c hfn hc)))).trans e1⟩
·by_cases hj:j=i
 ·subst hj;rw[hi]at e1;cases e1;rw[sX hiσ]at e2;cases e2;exact⟨u,r,.inr ⟨.inl hk,c,hc,hc'⟩⟩
 rw[cD (r6 hj)]at e2;obtain⟨u',r',q⟩:=hl j y v' e1 e2 e3;refine⟨u',r',?_⟩;rcases q with q|⟨k,c',e,z'⟩
 ·exact .inl q
 refine .inr ⟨k,c',e,z'.sameBut hs ?_⟩;rintro rfl
 exact hj (q8U hN e1 (I.ok.inj _ _ _ e hc▸hi))
·by_cases hcc:c'=c
 ·subst hcc;exact⟨_,hc'⟩
 obtain⟨w2,z2⟩:=I.cell y c' e;exact⟨w2,z2.sameBut hs hcc⟩
obtain⟨e,n,ne,nf,d⟩:=I.pin p hp
refine⟨(hs.2 p.1 ?_).trans e,n,ne,nf,d⟩
intro q
rw[q,hoc]at e
have q':oc=p.2:=kM e
exact d w' (by rw[←q'];exact hocd))
theorem q58{M:Model}{A:Around}{E:Value→Shared→Prop}{i:Nat}{x:Str}{v:V}{u:Value}{Q:Unit→Shared→Prop}(I:Inv X pins σ H s)(hN:X.N.Nodup)(hi:X.N[i]?=some x)(hx:Loc X.env.scope x)(r:RelV v u)
 (h:∀s',Inv X pins (σ.set i (some v)) H s'→Q () s') (hf:X.fn x=true∨X.env.scope.names.lookup x=some .local:=by first|exact .inl rfl|exact .inr rfl|assumption):wpAny M A (storeName X.env x u) Q E s:=q74 I hN hi hx r (λs' I' _=>h s' I') hf
theorem Inv.call'{s':Shared}{ch:List Addr}(I:Inv X pins σ H s)(ho:s'.os=s.os)(u:Un (frs X.stack) ch H H' s.heap s'.heap)(hok:HOk X.prog X.w H' s'.heap)(hg:AllBare s'.gens)
 (hch:∀b∈ch,(b∈X.ex∨X.s₀.heap.objs.size≤b)∧b≠X.env.locals∧(∀x c,X.env.cells.lookup x=some c→c≠b)∧∀p∈X.pn++pins,p.1≠b):Inv X pins σ H' s':=by(
obtain⟨h',g',d',t',o'⟩:=s'
have e:o'=s.os:=ho
subst e
exact I.call (g':=g') (t':=t') (d':=d') u hok hg hch)
end
noncomputable abbrev XK:=Value→Option Addr→Hp→Prop
noncomputable abbrev St:=List (Option V)
noncomputable abbrev VK:=V→Hp→Prop
noncomputable abbrev TE:=St→Hp→VK→Prop
noncomputable abbrev TT:=St→Hp→(Bool→Hp→Prop)→Prop
noncomputable abbrev TA:=St→Hp→(List V→Hp→Prop)→Prop
structure Ends where
nx:St→Hp→Prop
rt:VK
bk:St→Hp→Prop:=λ_ _=>False
ct:St→Hp→Prop:=λ_ _=>False
noncomputable abbrev TS:=Ends→St→Hp→Prop
inductive EP(X:Cx)(pins:List (Addr×Obj))(σ:St)(Q:VK)(u:Value)(s':Shared):Prop
|mk (v:V) (H':Hp) (I:Inv X pins σ H' s') (r:RelV v u) (q:Q v H'):EP X pins σ Q u s'
inductive TP(X:Cx)(pins:List (Addr×Obj))(σ:St)(Q:Bool→Hp→Prop)(b:Bool)(s':Shared):Prop
|mk (H':Hp) (I:Inv X pins σ H' s') (q:Q b H'):TP X pins σ Q b s'
inductive AP(X:Cx)(pins:List (Addr×Obj))(σ:St)(Q:List V→Hp→Prop)(us:List Value)(s':Shared):Prop
|mk (vs:List V) (H':Hp) (I:Inv X pins σ H' s') (r:Vals vs us) (q:Q vs H'):AP X pins σ Q us s'
noncomputable def SP(X:Cx)(pins:List (Addr×Obj))(D:Ends)(f:Flow)(s':Shared):Prop:=match f with
| .next=>∃σ' H',Inv X pins σ' H' s'∧D.nx σ' H'
| .brk=>∃σ' H',Inv X pins σ' H' s'∧D.bk σ' H'
| .cont=>∃σ' H',Inv X pins σ' H' s'∧D.ct σ' H'
| .ret u=>∃v σ' H',Inv X pins σ' H' s'∧RelV v u∧D.rt v H'
noncomputable def PE(X:Cx)(e:Expr)(t:TE):Prop:=∀(pins:List (Addr×Obj)) (s:Shared) (σ:St) (H:Hp) (Q:VK),Inv X pins σ H s→t σ H Q→wpAny (model X.prog X.w) X.A (eval e X.env) (EP X pins σ Q) X.xe s
noncomputable def PT(X:Cx)(e:Expr)(t:TT):Prop:=∀(pins:List (Addr×Obj)) (s:Shared) (σ:St) (H:Hp) (Q:Bool→Hp→Prop),Inv X pins σ H s→t σ H Q→wpAny (model X.prog X.w) X.A (isTrue e X.env (eval e X.env)) (TP X pins σ Q) X.xe s
noncomputable def PW(X:Cx)(e:Expr)(t:TT):Prop:=∀(whole:Sem Value) (pins:List (Addr×Obj)) (s:Shared) (σ:St) (H:Hp) (Q:Bool→Hp→Prop),Inv X pins σ H s→t σ H Q→wpAny (model X.prog X.w) X.A (isTrue e X.env whole) (TP X pins σ Q) X.xe s
theorem PW.pt{X:Cx}{e:Expr}{t:TT}(h:PW X e t):PT X e t:=h _
noncomputable def PA(X:Cx)(es:List Expr)(t:TA):Prop:=∀(pos:Pos) (pins:List (Addr×Obj)) (s:Shared) (σ:St) (H:Hp) (Q:List V→Hp→Prop),Inv X pins σ H s→t σ H Q→wpAny (model X.prog X.w) X.A (spliced (backTo pos (starEach es X.env))) (AP X pins σ Q) X.xe s
noncomputable def PS(X:Cx)(st:Stmt)(t:TS):Prop:=∀(pins:List (Addr×Obj)) (s:Shared) (σ:St) (H:Hp) (D:Ends),Inv X pins σ H s→t D σ H→wpAny (model X.prog X.w) X.A (exec st X.env) (SP X pins D) X.xe s
noncomputable def PSs(X:Cx)(st:List Stmt)(t:TS):Prop:=∀(pins:List (Addr×Obj)) (s:Shared) (σ:St) (H:Hp) (D:Ends),Inv X pins σ H s→t D σ H→wpAny (model X.prog X.w) X.A (execs st X.env) (SP X pins D) X.xe s
theorem thn{α:Type}{t:Sem α}{Q Q':α→Shared→Prop}{M:Model}{A:Around}{E:Value→Shared→Prop}{s:Shared}(h:wpAny M A t Q E s)(hQ:∀a s,Q a s→Q' a s):wpAny M A t Q' E s:=g8 h hQ λ_ _ x=>x
section
variable{X:Cx}
theorem bin{a b:Expr}{ta tb:TE}(ha:PE X a ta)(hb:PE X b tb){pins:List (Addr×Obj)}{s:Shared}{σ:St}{H:Hp}{R:V→V→Hp→Prop}(I:Inv X pins σ H s)(h:ta σ H λx H1=>tb σ H1 λy H2=>R x y H2)
 {α:Type} {Q:α→Shared→Prop} {f:Value→Value→Sem α}
 (hf:∀v u s2 x y H2,Inv X pins σ H2 s2→RelV x v→RelV y u→R x y H2→wpAny (model X.prog X.w) X.A (f v u) Q X.xe s2):
 wpAny (model X.prog X.w) X.A (eval a X.env) (λv s₁=>wpAny (model X.prog X.w) X.A (eval b X.env) (λu s₂=>wpAny (model X.prog X.w) X.A (f v u) Q X.xe s₂) X.xe s₁) X.xe s:=by(
refine thn (ha pins s σ H _ I h) λv s1 hZ=>?_
obtain⟨x,H1,I1,r1,q1⟩:=hZ
refine thn (hb pins s1 σ H1 _ I1 q1) λu s2 hZ=>?_
obtain⟨y,H2,I2,r2,q2⟩:=hZ
exact hf v u s2 x y H2 I2 r1 r2 q2)
noncomputable def tVar(i:Nat):TE:=λσ H Q=>∃v,σ[i]?=some (some v)∧Q v H
noncomputable def tC(v:V):TE:=λ_ H Q=>Q v H
theorem qHU{i:Nat}{x:Str}{pos:Pos}(hN:X.N[i]?=some x)(hv:Vis X.env.scope x)(hd:(x==("__debug__":Str))=false:=by decide)(hcd:(x==("__classdict__":Str))=false:=by decide):PE X (.Name x pos) (tVar i):=by(
intro pins s σ H Q I h
obtain⟨v,e,h⟩:=h
obtain⟨m,hn,hl⟩:=I.loc
obtain⟨u,r,l⟩:=hl i x v hN e hv
have fin:EP X pins σ Q u s:=⟨v,H,I,r,h⟩
rcases l with⟨hk,hm⟩|⟨hk,c,hc,hcell⟩
·exact aH (nY I.ok.kind hk hn hm fin) hd
rcases hk with hk|hk
·exact aH (lI I.ok.kind hk hc hcell fin) hd
exact aH (wpAny_loadName_free I.ok.kind hk hc hcell fin hcd) hd)
theorem qI{i j pos}:PE X (.Constant (.int i) j pos) (tC (.int i)):=λ_ _ _ H _ I h=>wpAny_Constant_int ⟨.int i,H,I.tok _,⟨_,rfl⟩,h⟩
theorem q2M{b j pos}:PE X (.Constant (.bool b) j pos) (tC (.bl b)):=λ_ _ _ H _ I h=>Constant_bool ⟨.bl b,H,I,rfl,h⟩
theorem uY{j pos}:PE X (.Constant .none j pos) (tC .non):=λ_ _ _ H _ I h=>Constant_none ⟨.non,H,I,rfl,h⟩
theorem q19{x j pos}:PE X (.Constant (.str x) j pos) (tC (.str x)):=λ_ _ _ H _ I h=>Calls.Constant_str ⟨.str x,H,I.tok _,⟨_,rfl⟩,h⟩
noncomputable def Gl(X:Cx)(x:Str):Prop:=X.env.kindOf x=some .globalImplicit
theorem q26{E:Value→Shared→Prop}{pins:List (Addr×Obj)}{s:Shared}{σ:St}{H:Hp}{x:Str}{u:Value}{pos:Pos}{Q:Value→Shared→Prop}(I:Inv X pins σ H s)(hg:Gl X x)(hm:X.mg x=some u)(h:Q u s)
 (hd:(x==("__debug__":Str))=false:=by decide):wpAny (model X.prog X.w) X.A (eval (.Name x pos) X.env) Q E s:=pW I.ok.kind hg (Calls.loadGlobal_global (by rw[I.ok.glob];exact I.mod.glob.keeps I.bk) hm h) hd
theorem q0K{E:Value→Shared→Prop}{pins:List (Addr×Obj)}{s:Shared}{σ:St}{H:Hp}{x:Str}{u:Value}{pos:Pos}{Q:Value→Shared→Prop}(I:Inv X pins σ H s)(hg:Gl X x)(hm:X.mg x=none)(hv:bootBuiltins x=some u)(h:Q u s)
 (hn:x≠"__name__":=by decide) (hd:(x==("__debug__":Str))=false:=by decide):wpAny (model X.prog X.w) X.A (eval (.Name x pos) X.env) Q E s:=by obtain⟨mb,h1,h2⟩:=I.mod.blt;exact pW I.ok.kind hg (Calls.loadGlobal_builtin (by rw[I.ok.glob];exact I.mod.glob.keeps I.bk) hm (by rw[I.ok.blt];exact h1.keeps I.bk) ((h2 x hn).trans hv) h) hd
theorem q27{x:Str}{v:V}{u:Value}{pos:Pos}(hg:Gl X x)(hm:X.mg x=some u)(r:RelV v u)(hd:(x==("__debug__":Str))=false:=by decide):PE X (.Name x pos) (tC v):=λ_ _ _ H _ I h=>q26 I hg hm ⟨v,H,I,r,h⟩ hd
theorem qAX{x:Str}{v:V}{u:Value}{pos:Pos}(hg:Gl X x)(hm:X.mg x=none)(hv:bootBuiltins x=some u)(r:RelV v u)(hn:x≠"__name__":=by decide)(hd:(x==("__debug__":Str))=false:=by decide):PE X (.Name x pos) (tC v):=λ_ _ _ H _ I h=>q0K I hg hm hv ⟨v,H,I,r,h⟩ hn hd
variable{a b:Expr}{ta tb:TE}{pos:Pos}
noncomputable def PC(X:Cx)(op:CmpOp)(a b:Expr)(t:TE):Prop:=∀(pins:List (Addr×Obj)) (s:Shared) (σ:St) (H:Hp) (Q:VK),Inv X pins σ H s→t σ H Q→wpAny (model X.prog X.w) X.A (eval a X.env) (λv s₁=>wpAny (model X.prog X.w) X.A (eval b X.env) (λu s₂=>wpAny (model X.prog X.w) X.A (compareOp op v u) (EP X pins σ Q) X.xe s₂) X.xe s₁) X.xe s
noncomputable def tB(t:TE):TT:=λσ H Q=>t σ H λx H1=>∃c,x=.bl c∧Q c H1
theorem qHV{op:CmpOp}{t:TE}(h:PC X op a b t)(h1:behindInMarks op b=false:=by first|exact nobehind _ (by decide) (by decide)|rfl):PE X (.Compare a [op] [b] pos) t:=λpins s σ H Q I hw=>wpAny_Compare1 (h pins s σ H Q I hw) h1
theorem qCU{op:CmpOp}{t:TE}(h:PC X op a b t)(h1:behindInMarks op b=false:=by first|exact nobehind _ (by decide) (by decide)|rfl):PT X (.Compare a [op] [b] pos) (tB t):=by(
intro pins s σ H Q I hw
refine nO (thn (h pins s σ H _ I hw) λv s1 h1=>thn h1 λu s2 h2=>thn h2 λc s3 hZ=>?_) h1
obtain⟨x,H1,I1,r1,q1⟩:=hZ
obtain⟨d,rfl,q⟩:=q1
cases r1
exact gR ⟨H1,I1,q⟩)
theorem yK{e:Expr}{t:TE}(h:PE X e t)(he:∀whole,isTrue e X.env whole=(do let v←whole;standAt e.pos;holding [v] (truthy v)):=by intro _;rfl):PT X e (tB t):=by(
intro pins s σ H Q I hw
refine isTrue_plain (thn (h pins s σ H _ I hw) λv s1 hZ=>?_) (he _)
obtain⟨x,H1,I1,r1,q1⟩:=hZ
obtain⟨d,rfl,q⟩:=q1
cases r1
exact gR ⟨H1,I1,q⟩)
variable{tA tB':TT}{rest:List Expr}
noncomputable def tAnd(t u:TT):TT:=λσ H Q=>t σ H λc H1=>if c=true then u σ H1 Q else Q false H1
noncomputable def tOr(t u:TT):TT:=λσ H Q=>t σ H λc H1=>if c=true then Q true H1 else u σ H1 Q
noncomputable def tNot(t:TT):TT:=λσ H Q=>t σ H λc H1=>Q (!c) H1
theorem qAY(ha:PT X a tA):PW X (.BoolOp .And [a] pos) tA:=by(
intro wh pins s σ H Q I h
refine isTrue_and (thn (ha pins s σ H Q I h) λc s1 e=>?_)
cases c with
|true=>exact isTrue_and_nil e
|false=>exact e)
theorem q9Z(ha:PT X a tA):PW X (.BoolOp .Or [a] pos) tA:=by(
intro wh pins s σ H Q I h
refine isTrue_or (thn (ha pins s σ H Q I h) λc s1 e=>?_)
cases c with
|false=>exact isTrue_or_nil e
|true=>exact e)
theorem qCV(ha:PT X a tA)(hb:PW X (.BoolOp .And (b::rest) pos) tB'):PW X (.BoolOp .And (a::b::rest) pos) (tAnd tA tB'):=by(
intro wh pins s σ H Q I h
refine isTrue_and (thn (ha pins s σ H _ I h) λc s1 hZ=>?_)
obtain⟨H1,I1,q1⟩:=hZ
cases c with
|true=>exact hb wh pins s1 σ H1 Q I1 q1
|false=>exact⟨H1,I1,q1⟩)
theorem qCW(ha:PT X a tA)(hb:PW X (.BoolOp .Or (b::rest) pos) tB'):PW X (.BoolOp .Or (a::b::rest) pos) (tOr tA tB'):=by(
intro wh pins s σ H Q I h
refine isTrue_or (thn (ha pins s σ H _ I h) λc s1 hZ=>?_)
obtain⟨H1,I1,q1⟩:=hZ
cases c with
|true=>exact⟨H1,I1,q1⟩
|false=>exact hb wh pins s1 σ H1 Q I1 q1)
theorem uG(ha:PT X a tA):PT X (.UnaryOp .Not a pos) (tNot tA):=by intro pins s σ H Q I h;exact isTrue_not (thn (ha pins s σ H (λc H1=>Q (!c) H1) I h) λc s1 ⟨H1,I1,q⟩=>⟨H1,I1,q⟩)
noncomputable def qJV(ta tb:TE):TE:=λσ H Q=>ta σ H λx H1=>∃c,x=.bl c∧if c=true then tb σ H1 Q else Q (.bl false) H1
noncomputable def tOrV(ta tb:TE):TE:=λσ H Q=>ta σ H λx H1=>∃c,x=.bl c∧if c=true then Q (.bl true) H1 else tb σ H1 Q
noncomputable def qJW(ta:TE):TE:=λσ H Q=>ta σ H λx H1=>∃c,x=.bl c∧Q (.bl (!c)) H1
theorem q2T{op}{t:TE}(h:PE X a t):PE X (.BoolOp op [a] pos) t:=λpins s σ H Q I hw=>BoolOp_one (h pins s σ H Q I hw)
theorem q59(ha:PE X a ta)(hb:PE X (.BoolOp .And (b::rest) pos) tb):PE X (.BoolOp .And (a::b::rest) pos) (qJV ta tb):=by(
intro pins s σ H Q I h
refine BoolOp_and (thn (ha pins s σ H _ I h) λv s1 hZ=>?_)
obtain⟨x,H1,I1,r1,q1⟩:=hZ
obtain⟨c,rfl,q1⟩:=q1
cases r1
refine gR ?_
cases c with
|true=>exact hb pins s1 σ H1 Q I1 q1
|false=>exact⟨.bl false,H1,I1,rfl,q1⟩)
theorem qH9(ha:PE X a ta)(hb:PE X (.BoolOp .Or (b::rest) pos) tb):PE X (.BoolOp .Or (a::b::rest) pos) (tOrV ta tb):=by(
intro pins s σ H Q I h
refine BoolOp_or (thn (ha pins s σ H _ I h) λv s1 hZ=>?_)
obtain⟨x,H1,I1,r1,q1⟩:=hZ
obtain⟨c,rfl,q1⟩:=q1
cases r1
refine gR ?_
cases c with
|false=>exact hb pins s1 σ H1 Q I1 q1
|true=>exact⟨.bl true,H1,I1,rfl,q1⟩)
theorem qCX(ha:PE X a ta):PE X (.UnaryOp .Not a pos) (qJW ta):=by(
intro pins s σ H Q I h
refine UnaryOp_ (thn (ha pins s σ H _ I h) λv s1 hZ=>?_)
obtain⟨x,H1,I1,r1,q1⟩:=hZ
obtain⟨c,rfl,q1⟩:=q1
cases r1
exact not_of (gR ⟨.bl (!c),H1,I1,rfl,q1⟩))
noncomputable def tIf(t:TT)(ta tb:TE):TE:=λσ H Q=>t σ H λc H1=>if c=true then ta σ H1 Q else tb σ H1 Q
theorem qCY{c:Expr}(hc:PT X c tA)(ha:PE X a ta)(hb:PE X b tb):PE X (.IfExp c a b pos) (tIf tA ta tb):=by(
intro pins s σ H Q I h
refine wpAny_IfExp (thn (hc pins s σ H _ I h) λd s1 hZ=>?_)
obtain⟨H1,I1,q1⟩:=hZ
cases d with
|true=>exact ha pins s1 σ H1 Q I1 q1
|false=>exact hb pins s1 σ H1 Q I1 q1)
end
noncomputable def SqL(K:PySem.W.Frag)(H:Hp)(a:Addr)(xs:List V):Prop:=Rd H a (.lst xs)∨∃(o:Obj) (its:Array Value) (n:Nat),K.lookup a=some o∧o.cls=.type "list"∧o.dict=none∧o.data=.seq its n∧its.size≤sizeLine∧Vals xs its.toList
noncomputable def SqT(K:PySem.W.Frag)(H:Hp)(a:Addr)(xs:List V):Prop:=Rd H a (.tup xs)∨∃(o:Obj) (its:Array Value) (n:Nat),K.lookup a=some o∧o.cls=.type "tuple"∧o.data=.seq its n∧its.size≤sizeLine∧Vals xs its.toList
noncomputable def absV:Value→Option V
| .none=>some .non
| .bool b=>some (.bl b)
| .int i _=>some (.int i)
| .str x _=>some (.str x)
| .bytes b _=>some (.byt b)
| .float b _=>some (.flt b)
| .ref a=>some (.ref a)
| .type n=>some (.ty n)
|_=>none
theorem RelV.abs{x:V}{u:Value}(r:RelV x u):absV u=some x:=by(
cases x with
|non=>cases r;rfl
|bl _=>cases r;rfl
|int _=>obtain⟨t,rfl⟩:=r;rfl
|str _=>obtain⟨t,rfl⟩:=r;rfl
|byt _=>obtain⟨t,rfl⟩:=r;rfl
|flt _=>obtain⟨t,rfl⟩:=r;rfl
|ref _=>cases r;rfl
|ty _=>cases r;rfl)
theorem RelV.inj{x y:V}{u:Value}(r:RelV x u)(q:RelV y u):x=y:=kM (r.abs.symm.trans q.abs)
theorem Vals.inj{xs ys:List V}{us:List Value}(h:Vals xs us):Vals ys us→xs=ys:=by(
induction h generalizing ys with
|nil=>exact λg=>by cases g;rfl
|cons r t ih=>
 intro g;cases g with
 |cons r' t'=>rw[r.inj r',ih t'])
section
variable{X:Cx}{pins:List (Addr×Obj)}{σ:St}{H:Hp}{s:Shared}{a:Addr}{xs ys:List V}
theorem SqL.of{K:PySem.W.Frag}(h:H a=some (.lst xs)):SqL K H a xs:=.inl (.inl h)
theorem SqT.of{K:PySem.W.Frag}(h:H a=some (.tup xs)):SqT K H a xs:=.inl (.inl h)
theorem Inv.list(I:Inv X pins σ H s)(h:SqL X.K H a xs):∃its:List Value,Vals xs its∧PlainL s.heap a its.toArray∧xs.length≤sizeLine:=by(
rcases h with h|⟨o,its,n,hk,hc,hd,hs,hz,r⟩
·obtain⟨z,its,n,r,e⟩:=h.ok I.hok;exact⟨its,r,⟨_,n,e,rfl,rfl,rfl⟩,z⟩
refine⟨its.toList,r,⟨o,n,I.kIn a o hk,hc,hd,by simpa using hs⟩,?_⟩
have e:=r.length
simp only[mZ]at e
lia)
theorem Inv.tuple(I:Inv X pins σ H s)(h:SqT X.K H a xs):∃its:List Value,Vals xs its∧IsTup s.heap a its.toArray∧xs.length≤sizeLine:=by(
rcases h with h|⟨o,its,n,hk,hc,hs,hz,r⟩
·obtain⟨z,its,r,p⟩:=h.ok I.hok;exact⟨its,r,p,z⟩
refine⟨its.toList,r,⟨o,I.kIn a o hk,hc,n,by simpa using hs⟩,?_⟩
have e:=r.length
simp only[mZ]at e
lia)
theorem Inv.list_inj(I:Inv X pins σ H s)(h:SqL X.K H a xs)(h':SqL X.K H a ys):xs=ys:=by(
obtain⟨its,r,⟨o,n,e,_,_,d⟩,_⟩:=I.list h
obtain⟨its',r',⟨o',n',e',_,_,d'⟩,_⟩:=I.list h'
rw[e]at e';cases e'
rw[d]at d'
injection d' with d1 _
have:its=its':=by simpa using gZ Array.toList d1
subst this
exact r.inj r')
end
noncomputable abbrev Cx.wish(X:Cx)(E:Value→Shared→Prop):Cx:={ X with xe:=E }
noncomputable abbrev Cx.nox(X:Cx):Cx:=X.wish λ_ _=>False
theorem Cx.Ok.wish{X:Cx}(ok:X.Ok)(E:Value→Shared→Prop):(X.wish E).Ok:=⟨ok.mod,ok.kind,ok.glob,ok.blt,ok.above,ok.inj,ok.has,ok.cab,ok.hd,ok.frames,ok.stk,ok.exf,ok.bs,ok.bsz,ok.noex,ok.exfs,ok.funs,ok.frf⟩
theorem Cx.Ok.unwish{X:Cx}{E:Value→Shared→Prop}(ok:(X.wish E).Ok):X.Ok:=⟨ok.mod,ok.kind,ok.glob,ok.blt,ok.above,ok.inj,ok.has,ok.cab,ok.hd,ok.frames,ok.stk,ok.exf,ok.bs,ok.bsz,ok.noex,ok.exfs,ok.funs,ok.frf⟩
section
variable{X:Cx}{pins:List (Addr×Obj)}{σ:St}{H:Hp}{s:Shared}{E:Value→Shared→Prop}
theorem Inv.wish(I:Inv X pins σ H s)(E:Value→Shared→Prop):Inv (X.wish E) pins σ H s:=⟨I.ok.wish E,I.os,I.bare,I.base,I.loc,I.cell,I.free,I.freeC,I.pin,I.hok,I.len⟩
theorem Inv.unwish(I:Inv (X.wish E) pins σ H s):Inv X pins σ H s:=⟨I.ok.unwish,I.os,I.bare,I.base,I.loc,I.cell,I.free,I.freeC,I.pin,I.hok,I.len⟩
theorem SP.unwish{D:Ends}{f:Flow}{s':Shared}(h:SP (X.wish E) pins D f s'):SP X pins D f s':=by(
cases f with
|next=>obtain⟨σ',H',I,q⟩:=h;exact⟨σ',H',I.unwish,q⟩
|brk=>obtain⟨σ',H',I,q⟩:=h;exact⟨σ',H',I.unwish,q⟩
|cont=>obtain⟨σ',H',I,q⟩:=h;exact⟨σ',H',I.unwish,q⟩
|ret u=>obtain⟨v,σ',H',I,r,q⟩:=h;exact⟨v,σ',H',I.unwish,r,q⟩)
theorem PSs.nox{st:List Stmt}{t:TS}(h:PSs X.nox st t):PSs X st t:=λpins s σ H D I hw=>g8 (h pins s σ H D (I.wish _) hw) (λ_ _ q=>q.unwish) λ_ _ z=>False.elim z
end
section
variable{X:Cx}{st:Stmt}{rest:List Stmt}{t u:TS}{e:Expr}{te:TE}{pos:Pos}
noncomputable def qJX:TS:=λD σ H=>D.nx σ H
noncomputable def tSeq(t u:TS):TS:=λD σ H=>t { D with nx:=u D } σ H
theorem qQ:PSs X [] qJX:=λ_ _ σ H _ I h=>pM ⟨σ,H,I,h⟩
theorem qB(h1:PS X st t)(h2:PSs X rest u):PSs X (st::rest) (tSeq t u):=by(
intro pins s σ H D I h
refine wpAny_execs_cons (thn (h1 pins s σ H { D with nx:=u D } I h) λf s1 q=>?_)
cases f with
|next=>obtain⟨σ',H',I',q⟩:=q;exact h2 pins s1 σ' H' D I' q
|ret v=>exact q
|brk=>exact q
|cont=>exact q)
theorem qD(h1:PS X st t):PSs X [st] t:=by(
intro pins s σ H D I h
refine wpAny_execs_cons (thn (h1 pins s σ H D I h) λf s1 q=>?_)
cases f with
|next=>exact pM q
|ret v=>exact q
|brk=>exact q
|cont=>exact q)
theorem Inv.quiet{pins:List (Addr×Obj)}{σ:St}{H:Hp}{s:Shared}(I:Inv X pins σ H s):interactive X.env=false:=by simp[interactive,I.ok.kind]
noncomputable def qJY(te:TE):TS:=λD σ H=>te σ H λ_ H1=>D.nx σ H1
theorem qY(he:PE X e te)(hs:swapsWith e none pos.line X.env=pure false:=by rfl):PS X (.Expr e pos) (qJY te):=by intro pins s σ H D I h;exact wpAny_Expr_any (thn (he pins s σ H _ I h) λv s1 ⟨x,H1,I1,r1,q1⟩=>⟨σ,H1,I1,q1⟩) I.quiet hs
noncomputable def tRet(te:TE):TS:=λD σ H=>te σ H D.rt
theorem qN(he:PE X e te):PS X (.Return (some e) pos) (tRet te):=by intro pins s σ H D I h;exact wpAny_Return_some (thn (he pins s σ H _ I h) λv s1 ⟨x,H1,I1,r1,q1⟩=>⟨x,σ,H1,I1,r1,q1⟩)
noncomputable def tIfS(c:TT)(t u:TS):TS:=λD σ H=>c σ H λb H1=>if b=true then t D σ H1 else u D σ H1
theorem jE{c:Expr}{a b:List Stmt}{tc:TT}(hc:PT X c tc)(ha:PSs X a t)(hb:PSs X b u):PS X (.If c a b pos) (tIfS tc t u):=by(
intro pins s σ H D I h
refine wpAny_If (thn (hc pins s σ H _ I h) λd s1 hZ=>?_)
obtain⟨H1,I1,q1⟩:=hZ
cases d with
|true=>exact ha pins s1 σ H1 D I1 q1
|false=>exact hb pins s1 σ H1 D I1 q1)
noncomputable def qHW:TS:=λ_ _ _=>False
theorem jD:PS X st qHW:=λ_ _ _ _ _ _ h=>h.elim
end
noncomputable abbrev TG:=V→St→Hp→(St→Hp→Prop)→Prop
noncomputable abbrev TGs:=List V→St→Hp→(St→Hp→Prop)→Prop
noncomputable def PG(X:Cx)(target:Expr)(t:TG):Prop:=∀(pins:List (Addr×Obj)) (s:Shared) (σ:St) (H:Hp) (v:V) (u:Value) (Q:St→Hp→Prop),Inv X pins σ H s→RelV v u→t v σ H Q→wpAny (model X.prog X.w) X.A (assign target X.env u) (λ_ s'=>∃σ' H',Inv X pins σ' H' s'∧Q σ' H') X.xe s
noncomputable def PGs(X:Cx)(ts:List Expr)(t:TGs):Prop:=∀(pins:List (Addr×Obj)) (s:Shared) (σ:St) (H:Hp) (vs:List V) (us:List Value) (Q:St→Hp→Prop),Inv X pins σ H s→Vals vs us→t vs σ H Q→wpAny (model X.prog X.w) X.A (assignInOrder ((assignEach ts X.env).map (·.2)) us) (λ_ s'=>∃σ' H',Inv X pins σ' H' s'∧Q σ' H') X.xe s
noncomputable abbrev TSet:=V→V→V→Hp→(Hp→Prop)→Prop
noncomputable def PSet(X:Cx)(t:TSet):Prop:=∀(pins:List (Addr×Obj)) (s:Shared) (σ:St) (H:Hp) (o i v:V) (ov iv u:Value) (Q:Hp→Prop),Inv X pins σ H s→RelV o ov→RelV i iv→RelV v u→t o i v H Q→wpAny (model X.prog X.w) X.A (setItem ov iv u) (λ_ s'=>∃H',Inv X pins σ H' s'∧Q H') X.xe s
noncomputable abbrev TIp:=V→V→Hp→VK→Prop
noncomputable def PIp(X:Cx)(op:Operator)(t:TIp):Prop:=∀(pins:List (Addr×Obj)) (s:Shared) (σ:St) (H:Hp) (x y:V) (v u:Value) (Q:VK),Inv X pins σ H s→RelV x v→RelV y u→t x y H Q→wpAny (model X.prog X.w) X.A (inplaceOp op v u) (EP X pins σ Q) X.xe s
section
variable{X:Cx}{pos:Pos}
noncomputable def q2N(i:Nat):TG:=λv σ H Q=>Q (σ.set i (some v)) H
theorem qZ{i:Nat}{x:Str}(hN:X.N.Nodup)(hi:X.N[i]?=some x)(hx:Loc X.env.scope x)(hf:X.fn x=true∨X.env.scope.names.lookup x=some .local:=by first|exact .inl rfl|exact .inr rfl|assumption):PG X (.Name x pos) (q2N i):=by intro pins s σ H v u Q I r h;exact l8 (q58 I hN hi hx r (λs' I'=>⟨_,H,I',h⟩) hf)
noncomputable def gNil:TGs:=λvs σ H Q=>vs=[]∧Q σ H
noncomputable def qHA(t:TG)(u:TGs):TGs:=λvs σ H Q=>∃v r,vs=v::r∧t v σ H λσ' H'=>u r σ' H' Q
theorem q3C:PGs X [] gNil:=by(
intro pins s σ H vs us Q I r h
obtain⟨e,h⟩:=h
subst e
cases r
exact assignInOrder_nil ⟨σ,H,I,h⟩)
theorem yI{e:Expr}{es:List Expr}{t:TG}{u:TGs}(h1:PG X e t)(h2:PGs X es u)
 (hs:(assignEach (e::es) X.env).map (·.2)=assign e X.env::(assignEach es X.env).map (·.2):=by rfl):PGs X (e::es) (qHA t u):=by(
intro pins s σ H vs us Q I r h
obtain⟨v,vr,e1,h⟩:=h
subst e1
cases r with
|cons r rr=>rw[hs];refine assignInOrder_cons (thn (h1 pins s σ H _ _ _ I r h) λ_ s1 hZ=>?_);obtain⟨σ1,H1,I1,q1⟩:=hZ;exact h2 pins s1 σ1 H1 _ _ Q I1 rr q1)
noncomputable def gTup(K:PySem.W.Frag)(n:Nat)(t:TGs):TG:=λv σ H Q=>∃a xs,v=.ref a∧SqT K H a xs∧xs.length=n∧t xs σ H Q
theorem q7U{es:List Expr}{k:Nat}{t:TGs}{n:Nat}(hc:X.calm=true)(h:PGs X es t)
 (hn:(assignEach es X.env).length=n:=by rfl) (hst:(assignEach es X.env).findIdx? (·.1)=none:=by rfl):PG X (.Tuple es k pos) (gTup X.K n t):=by(
intro pins s σ H v u Q I r hw
obtain⟨a,xs,e1,hq,hl,hw⟩:=hw
subst e1
cases r
obtain⟨its,rv,ht,hz⟩:=I.tuple hq
refine assign_Tuple_tuple (I.ok.hd hc) ht (by simp[hn,←hl,rv.length]) hst λh' hx=>?_
have I1:Inv X pins σ H { s with heap:=h' }:=I.kept (t':=s.toks) λb o e=>hx b o (mP (kP e)) e
exact h pins _ σ H xs _ Q I1 (by simpa using rv) hw)
noncomputable def gSub(to ti:TE)(t:TSet):TG:=λv σ H Q=>to σ H λo H1=>ti σ H1 λi H2=>t o i v H2 λH3=>Q σ H3
theorem q5A{o i:Expr}{to ti:TE}{t:TSet}(ho:PE X o to)(hi:PE X i ti)(hs:PSet X t)
 (ha:∀v,assign (.Subscript o i pos) X.env v=(do
  let ov←holding [v] (eval o X.env)
  let iv←holding [v,ov] (eval i X.env)
  standAt pos
  holding [v,ov,iv] (setItem ov iv v)
  release [v,ov,iv] []):=by intro _;rfl):PG X (.Subscript o i pos) (gSub to ti t):=by(
intro pins s σ H v u Q I r h
rw[ha]
refine hV (gL (thn (ho pins s σ H _ I h) λov s1 hZ=>?_))
obtain⟨x,H1,I1,r1,q1⟩:=hZ
refine hV (gL (thn (hi pins s1 σ H1 _ I1 q1) λiv s2 hZ=>?_))
obtain⟨y,H2,I2,r2,q2⟩:=hZ
refine hV (pH (hV (gL (thn (hs pins s2 σ H2 x y v ov iv u _ I2 r1 r2 r q2) λ_ s3 hZ=>?_))))
obtain⟨H3,I3,q3⟩:=hZ
exact wpAny_release ⟨σ,H3,I3,q3⟩)
noncomputable def tAsg(te:TE)(g:TG):TS:=λD σ H=>te σ H λx H1=>g x σ H1 D.nx
theorem q3U{tg e:Expr}{te:TE}{g:TG}(he:PE X e te)(hg:PG X tg g)(hs:swapsWithSole [tg] e pos.line X.env=pure false:=by rfl)(hw:swappedStores [tg] e X.env=pure none:=by rfl)
 (h1:(assignEach [tg] X.env).map (·.2)=[assign tg X.env]:=by rfl):PS X (.Assign [tg] e pos) (tAsg te g):=by(
intro pins s σ H D I h
refine wpAny_Assign_stores (thn (he pins s σ H _ I h) λv s1 hZ=>?_) hs hw
obtain⟨x,H1,I1,r1,q1⟩:=hZ
rw[h1]
exact thn (hg pins s1 σ H1 x v _ I1 r1 q1) λ_ s2 q=>q)
theorem qW{i:Nat}{x:Str}{e:Expr}{te:TE}{pos':Pos}(hN:X.N.Nodup)(hi:X.N[i]?=some x)(hx:Loc X.env.scope x)(he:PE X e te)(hs:swapsWith e (some (.Name x pos')) pos.line X.env=pure false:=by rfl)(hf:X.fn x=true∨X.env.scope.names.lookup x=some .local:=by first|exact .inl rfl|exact .inr rfl|assumption):
 PS X (.Assign [.Name x pos'] e pos) (tAsg te (q2N i)):=by(
intro pins s σ H D I h
refine wpAny_Assign_Name (thn (he pins s σ H _ I h) λv s1 hZ=>?_) hs
obtain⟨y,H1,I1,r1,q1⟩:=hZ
exact q58 I1 hN hi hx r1 (λs2 I2=>⟨_,H1,I2,q1⟩) hf)
noncomputable def tAug(i:Nat)(te:TE)(ti:TIp):TS:=λD σ H=>∃x,σ[i]?=some (some x)∧te σ H λy H1=>ti x y H1 λz H2=>D.nx (σ.set i (some z)) H2
theorem qHX{i:Nat}{x:Str}{e:Expr}{te:TE}{op:Operator}{ti:TIp}{pos':Pos}(hN:X.N.Nodup)(hi:X.N[i]?=some x)(hx:Loc X.env.scope x)(he:PE X e te)(ho:PIp X op ti)(hf:X.fn x=true∨X.env.scope.names.lookup x=some .local:=by first|exact .inl rfl|exact .inr rfl|assumption):
 PS X (.AugAssign (.Name x pos') op e pos) (tAug i te ti):=by(
intro pins s σ H D I h
obtain⟨v,e1,h⟩:=h
obtain⟨m,hn,hl⟩:=I.loc
have vis:Vis X.env.scope x:=by rcases hx with k|k;exact .inl k;exact .inr (.inl k)
obtain⟨u,r,l⟩:=hl i x v hi e1 vis
refine wpAny_AugAssign_Name ?_
have go:wpAny (model X.prog X.w) X.A (eval e X.env) (λw s₂=>wpAny (model X.prog X.w) X.A (inplaceOp op u w) (λr s₃=>wpAny (model X.prog X.w) X.A (storeName X.env x r) (λ_=>SP X pins D .next) X.xe s₃) X.xe s₂) X.xe s:=by refine thn (he pins s σ H _ I h) λw s1 hZ=>?_;obtain⟨y,H1,I1,r1,q1⟩:=hZ;refine thn (ho pins s1 σ H1 v y u w _ I1 r r1 q1) λz s2 hZ=>?_;obtain⟨zv,H2,I2,r2,q2⟩:=hZ;exact q58 I2 hN hi hx r2 (λs3 I3=>⟨_,H2,I3,q2⟩) hf
rcases l with⟨hk,hm⟩|⟨hk,c,hc,hcell⟩
·exact nY I.ok.kind hk hn hm go
rcases hk with hk|hk
·exact lI I.ok.kind hk hc hcell go
rcases hx with k|k
·have:X.env.scope.names.lookup x=some .free:=hk;rw[k]at this;cases this
have:X.env.scope.names.lookup x=some .free:=hk
rw[k]at this;cases this)
noncomputable def qJZ(to ti te:TE)(tget:V→V→Hp→VK→Prop)(tip:TIp)(tset:TSet):TS:=λD σ H=>to σ H λo H1=>ti σ H1 λi H2=>tget o i H2 λx H3=>te σ H3 λy H4=>tip x y H4 λz H5=>tset o i z H5 λH6=>D.nx σ H6
noncomputable def PGet(X:Cx)(t:V→V→Hp→VK→Prop):Prop:=∀(pins:List (Addr×Obj)) (s:Shared) (σ:St) (H:Hp) (o i:V) (ov iv:Value) (Q:VK),Inv X pins σ H s→RelV o ov→RelV i iv→t o i H Q→wpAny (model X.prog X.w) X.A (getItem ov iv) (EP X pins σ Q) X.xe s
theorem q3D{o i e:Expr}{to ti te:TE}{tget:V→V→Hp→VK→Prop}{tip:TIp}{tset:TSet}{op:Operator}{tpos:Pos}(ho:PE X o to)(hi:PE X i ti)(hg:PGet X tget)(he:PE X e te)(hp:PIp X op tip)(hs:PSet X tset)
 (ha:∀ov iv new,augStore i ov iv new=(do holding [new,ov,iv] (setItem ov iv new);release [new,ov,iv] [];pure .next):=by intros;rfl):PS X (.AugAssign (.Subscript o i tpos) op e pos) (qJZ to ti te tget tip tset):=by(
intro pins s σ H D I h
refine wpAny_AugAssign_SubscriptAny (thn (ho pins s σ H _ I h) λov s1 hZ=>?_) ha
obtain⟨x1,H1,I1,r1,q1⟩:=hZ
refine thn (hi pins s1 σ H1 _ I1 q1) λiv s2 hZ=>?_
obtain⟨x2,H2,I2,r2,q2⟩:=hZ
refine thn (hg pins s2 σ H2 x1 x2 ov iv _ I2 r1 r2 q2) λold s3 hZ=>?_
obtain⟨x3,H3,I3,r3,q3⟩:=hZ
refine thn (he pins s3 σ H3 _ I3 q3) λv s4 hZ=>?_
obtain⟨x4,H4,I4,r4,q4⟩:=hZ
refine thn (hp pins s4 σ H4 x3 x4 old v _ I4 r3 r4 q4) λnew s5 hZ=>?_
obtain⟨x5,H5,I5,r5,q5⟩:=hZ
exact thn (hs pins s5 σ H5 x1 x2 x5 ov iv new _ I5 r1 r2 r5 q5) λ_ s6 ⟨H6,I6,q6⟩=>⟨σ,H6,I6,q6⟩)
noncomputable def ipI(f:Int→Int→Int):TIp:=λx y H Q=>∃i j,x=.int i∧y=.int j∧Q (.int (f i j)) H
theorem q5B:PIp X .Add (ipI λi j=>i+j):=by(
intro pins s σ H x y v u Q I r1 r2 h
obtain⟨i,j,e1,e2,q⟩:=h
subst e1;subst e2
obtain⟨t,rfl⟩:=r1
obtain⟨t',rfl⟩:=r2
exact iadd_int ⟨.int _,H,I.tok _,⟨_,rfl⟩,q⟩)
theorem qHY:PIp X .Sub (ipI λi j=>i-j):=by(
intro pins s σ H x y v u Q I r1 r2 h
obtain⟨i,j,e1,e2,q⟩:=h
subst e1;subst e2
obtain⟨t,rfl⟩:=r1
obtain⟨t',rfl⟩:=r2
exact isub_int ⟨.int _,H,I.tok _,⟨_,rfl⟩,q⟩)
end
section
variable{X:Cx}{pos:Pos}
noncomputable def qHZ(c:TT)(tb:TS):TS:=λD σ H=>∃W:Nat→St→Hp→Prop,(∃m,W m σ H)∧∀m σ H,W m σ H→c σ H λb H1=>if b=true then ∃N:St→Hp→Prop,(∀σ' H',N σ' H'→∃m',m'<m∧W m' σ' H')∧tb { D with nx:=N,ct:=N,bk:=D.nx } σ H1 else D.nx σ H1
theorem q8V{c:Expr}{body:List Stmt}{tc:TT}{tb:TS}(hp:PassesOwn (model X.prog X.w) X.A X.env X.xe)(hc:PT X c tc)(hb:PSs X body tb):PS X (.While c body [] pos) (qHZ tc tb):=by(
intro pins s σ H D I h
obtain⟨W,⟨m0,w0⟩,turn⟩:=h
refine wpAny_While (codeAny_whileLoop (λn s'=>∃σ' H',Inv X pins σ' H' s'∧W n σ' H') ?_ m0 ⟨σ,H,I,w0⟩)
rintro n s1 ⟨σ1,H1,I1,w1⟩
refine rS hp (thn (hc pins s1 σ1 H1 _ I1 (turn n σ1 H1 w1)) λb s2 hZ=>?_)
obtain⟨H2,I2,q2⟩:=hZ
cases b with
|true=>
 obtain⟨N,hN,q2⟩:=q2;rw[kJ rfl];refine rS hp (thn (hb pins s2 σ1 H2 _ I2 q2) λf s3 q3=>?_);cases f with
 |next=>obtain⟨σ3,H3,I3,n3⟩:=q3;obtain⟨m',hm,w3⟩:=hN σ3 H3 n3;exact⟨m',hm,σ3,H3,I3,w3⟩
 |cont=>obtain⟨σ3,H3,I3,n3⟩:=q3;obtain⟨m',hm,w3⟩:=hN σ3 H3 n3;exact⟨m',hm,σ3,H3,I3,w3⟩
 |brk=>exact q3
 |ret v=>exact q3
|false=>rw[kF kO];exact pM ⟨σ1,H2,I2,q2⟩)
end
structure It where
go:Nat→Hp→Prop
yld:Nat→Hp→V→Hp→Prop
stop:Nat→Hp→Prop
noncomputable def FpOk(X:Cx)(pins:List (Addr×Obj))(H:Hp)(b:Addr):Prop:=H b=none∧b≠X.env.locals∧b∉X.fs∧(b∈X.ex∨X.s₀.heap.objs.size≤b)∧(∀x c,X.env.cells.lookup x=some c→c≠b)∧∀p∈X.pn++pins,p.1≠b
theorem Inv.fpOk{X:Cx}{pins:List (Addr×Obj)}{σ:St}{H H':Hp}{s:Shared}{b:Addr}(I:Inv X pins σ H s)(hb:s.heap.objs.size≤b)(hn:H' b=none):FpOk X pins H' b:=by(
refine⟨hn,dG (mW I.lt hb),I.nofs hb,.inr (mF I.sz hb),λx c e z=>?_,λp hp z=>?_⟩
·obtain⟨v,q⟩:=I.cell x c e;exact absurd (mW q.lt (by rw[z];exact hb)) (dE _)
exact absurd (mW (kP (I.pin p hp).1) (by rw[z];exact hb)) (dE _))
structure Turn(P:Program)(w:World)(K:PySem.W.Frag)(tg:Expr)(J:It)(fp:List Addr)(it:Addr)(tn:Nat→Heap→Prop):Prop where
mem:it∈fp
obj:∀i h,tn i h→∀b∈fp,∃o,h.get? b=some o∧∀v,o.data≠ .cell v
keep:∀i h h',tn i h→(∀b∈fp,∀o,h.get? b=some o→h'.get? b=some o)→tn i h'
item:∀(X:Cx),X.prog=P→X.w=w→X.K=K→X.calm=true→∀(i:Nat) (pins:List (Addr×Obj)) (s:Shared) (σ:St) (H:Hp) (E:Value→Shared→Prop),Inv X pins σ H s→(∀b∈fp,FpOk X pins H b)→tn i s.heap→J.go i H→wpAny (model P w) X.A (pyNext (.ref it)) (λr s1=>∃u,r=some u∧wpAny (model P w) X.A (letOwnedTupleGo tg (.ref it) u) (λ_ s2=>∃x H',Inv X pins σ H' s2∧RelV x u∧J.yld i H x H'∧tn (i+1) s2.heap∧∀b∈fp,H' b=none) E s1) E s
done:∀(X:Cx),X.prog=P→X.w=w→X.K=K→X.calm=true→∀(i:Nat) (pins:List (Addr×Obj)) (s:Shared) (σ:St) (H:Hp) (E:Value→Shared→Prop),Inv X pins σ H s→(∀b∈fp,FpOk X pins H b)→tn i s.heap→J.stop i H→wpAny (model P w) X.A (pyNext (.ref it)) (λr s1=>r=none∧Inv X pins σ H s1) E s
self:∀(A:Around) (i:Nat) (s:Shared) (Q:Value→Shared→Prop) (E:Value→Shared→Prop),tn i s.heap→Q (.ref it) s→wpAny (model P w) A (pyIter (.ref it)) Q E s
noncomputable abbrev TI:=St→Hp→(It→Hp→Prop)→Prop
noncomputable def PIE(X:Cx)(pins:List (Addr×Obj))(σ:St)(tg:Expr)(R:It→Hp→Prop)(itv:Value)(s2:Shared):Prop:=∃(it:Addr) (fp:List Addr) (tn:Nat→Heap→Prop) (J:It) (H':Hp),itv=.ref it∧Inv X pins σ H' s2∧Turn X.prog X.w X.K tg J fp it tn∧tn 0 s2.heap∧(∀b∈fp,FpOk X pins H' b)∧R J H'
noncomputable def PI(X:Cx)(tg iter:Expr)(wi:TI):Prop:=∀(pins:List (Addr×Obj)) (s:Shared) (σ:St) (H:Hp) (R:It→Hp→Prop),Inv X pins σ H s→wi σ H R→wpAny (model X.prog X.w) X.A (eval iter X.env) (λv s1=>wpAny (model X.prog X.w) X.A (pyIter v) (PIE X pins σ tg R) X.xe s1) X.xe s
theorem qCZ{M:Model}{A:Around}{E:Value→Shared→Prop}{s:Shared}{tg:Expr}{it:Addr}{u:Value}{o:Obj}{n:String}{vs:Array Value}{Q:Unit→Shared→Prop}(ho:s.heap.get? it=some o)(hc:o.cls=.type n)(hd:o.data=.fields vs)
 (hn:["enumerate","zip","dict_itemiterator","dict_reverseitemiterator","odict_iterator","itertools.zip_longest","itertools.pairwise"].contains n=false) (hQ:Q () s):wpAny M A (letOwnedTupleGo tg (.ref it) u) Q E s:=by(
unfold letOwnedTupleGo
cases tg<;>first
 |exact kY hQ
 |(cases u<;>first
  |exact kY hQ
  |(refine hV (wpAny_load ho ?_)
    rw[hc,hd];show wpAny M A (if(["enumerate","zip","dict_itemiterator","dict_reverseitemiterator","odict_iterator","itertools.zip_longest","itertools.pairwise"].contains n&&vs[0]?==some (rawInt _))=true then _ else _) Q E s;rw[kF (by intro h;rw[hn,Bool.false_and]at h;cases h)];exact kY hQ)))
noncomputable def Itl(K:PySem.W.Frag)(a:Addr):It:=⟨λi H=>∃xs x,SqL K H a xs∧xs[i]?=some x,λi H x H'=>H'=H∧∀xs,SqL K H a xs→xs[i]?=some x,λi H=>∃xs,SqL K H a xs∧xs.length≤i⟩
noncomputable def Itr(lo:Int)(n:Nat):It:=⟨λi _=>i<n,λi H x H'=>H'=H∧x=.int (lo+i),λi _=>n≤i⟩
theorem qC2{P:Program}{w:World}{K:PySem.W.Frag}{tg:Expr}(a it:Addr):Turn P w K tg (Itl K a) [it] it (λi h=>h.IsListIter it a i) where
mem:=by simp
obj:=λi h st b hb=>by
 have e:b=it:=by simpa using hb
 subst e;obtain⟨o,e,c,d⟩:=st;exact⟨o,e,λv z=>by rw[d]at z;cases z⟩
keep:=λi h h' st k=>st.at λo e=>k it (by simp) o e
item:=by intro X hP hw hK hc i pins s σ H E I hf st hg;subst hP hw hK;obtain⟨xs,x,hq,hx⟩:=hg;obtain⟨its,rv,p,hz⟩:=I.list hq;obtain⟨u,hu,ru⟩:=rv.get hx;obtain⟨f0,f1,f2,f3,f4,f5⟩:=hf it (by simp);refine wpAny_pyNext_list_item st p.isList (x:=u) (by simpa using hu) λh' st' sb=>?_;have I1:Inv X pins σ H { s with heap:=h' }:=I.turned (t':=s.toks) (λb o hb e=>(sb.2 b hb).trans e) f0 f1 f3 f4 f5;obtain⟨o,e,c,d⟩:=id st';exact⟨u,rfl,qCZ (s:={ s with heap:=h' }) e c d (by decide) ⟨x,H,I1,ru,⟨rfl,λys hy=>by rw[I.list_inj hy hq];exact hx⟩,st',λb hb=>(hf b hb).1⟩⟩
done:=by intro X hP hw hK hc i pins s σ H E I hf st hg;subst hP hw hK;obtain⟨xs,hq,hx⟩:=hg;obtain⟨its,rv,p,hz⟩:=I.list hq;obtain⟨f0,f1,f2,f3,f4,f5⟩:=hf it (by simp);have hl:=rv.length;exact wpAny_pyNext_list_end (I.ok.hd hc) st p.isList (by simp;lia) λh' eb=>⟨rfl,I.turned (t':=s.toks) (λb o hb e=>eb b o hb e) f0 f1 f3 f4 f5⟩
self:=λ_ _ _ _ _ st h=>wpAny_pyIter_listiter st h
theorem qA0{P:Program}{w:World}{K:PySem.W.Frag}{tg:Expr}(it:Addr)(lo:Int)(n:Nat):Turn P w K tg (Itr lo n) [it] it (λi h=>IsRangeIter h it (lo+(i:Nat)*1) ((n:Int)-(i:Nat)) 1) where
mem:=by simp
obj:=λi h st b hb=>by
 have e:b=it:=by simpa using hb
 subst e;exact⟨_,st,λv z=>by have z':Data.fields _=Data.cell v:=z;cases z'⟩
keep:=λi h h' st k=>k it (by simp) _ st
item:=by intro X hP hw hK hc i pins s σ H E I hf st hg;subst hP hw hK;obtain⟨f0,f1,f2,f3,f4,f5⟩:=hf it (by simp);have W:=Walks.range (prog:=X.prog) (w:=X.w) (I.ok.hd hc) it lo 1 n;refine W.item i s _ _ hg st λv h' tk hv st' kk=>?_;obtain⟨t,rfl⟩:=hv;have I1:Inv X pins σ H { s with heap:=h',toks:=tk }:=I.turned (λb o hb e=>kk b o (by simpa using hb) e) f0 f1 f3 f4 f5;refine⟨_,rfl,qCZ (s:={ s with heap:=h',toks:=tk }) (n:="range_iterator") st' rfl rfl (by decide) ⟨.int (lo+i),H,I1,⟨t,?_⟩,⟨rfl,rfl⟩,st',λb hb=>(hf b hb).1⟩⟩;rw[Int.mul_one]
done:=by intro X hP hw hK hc i pins s σ H E I hf st hg;subst hP hw hK;obtain⟨f0,f1,f2,f3,f4,f5⟩:=hf it (by simp);exact wpAny_pyNext_range_end (I.ok.hd hc) st (by have:n≤i:=hg;lia) λh' eb=>⟨rfl,I.turned (t':=s.toks) (λb o hb e=>eb b o hb e) f0 f1 f3 f4 f5⟩
self:=λ_ _ _ _ _ st h=>wpAny_pyIter_rangeiter st h
section
variable{X:Cx}{tg:Expr}
noncomputable def qK0(K:PySem.W.Frag)(tl:TE):TI:=λσ H R=>tl σ H λx H1=>∃a,x=.ref a∧(∃xs,SqL K H1 a xs)∧R (Itl K a) H1
theorem y8{l:Expr}{tl:TE}(hl:PE X l tl):PI X tg l (qK0 X.K tl):=by(
intro pins s σ H R I h
refine thn (hl pins s σ H _ I h) λv s1 hZ=>?_
obtain⟨x,H1,I1,r1,q1⟩:=hZ
obtain⟨a,e,⟨xs,hq⟩,q⟩:=q1
subst e
cases r1
obtain⟨its,rv,p,hz⟩:=I1.list hq
refine l9 p.isList ?_
refine⟨s1.heap.objs.size,[s1.heap.objs.size],_,_,H1,rfl,I1.kept (t':=s1.toks) λb o e=>kE _ e,qC2 a _,⟨_,mJ _ rfl,rfl,rfl⟩,λb hb=>?_,q⟩
have e:b=s1.heap.objs.size:=by simpa using hb
subst e
exact I1.fpOk (kN _) (I1.hok.fresh (kN _)))
theorem q8W{pins:List (Addr×Obj)}{σ:St}{H:Hp}{s:Shared}{R:It→Hp→Prop}{E:Value→Shared→Prop}{lo hi:Int}{t u v:Tok}{tk:Nat}(I:Inv X pins σ H s)(h1:-(2 ^ 62)≤lo)(h2:lo<2 ^ 62)(h3:-(2 ^ 62)≤hi)(h4:hi<2 ^ 62)
 (q:R (Itr lo (hi-lo).toNat) H):wpAny (model X.prog X.w) X.A (pyIter (.ref s.heap.objs.size)) (PIE X pins σ tg R) E { s with heap:=s.heap.push { cls:=.type "range",data:=.fields #[.int lo t,.int hi u,.int 1 v] },toks:=tk }:=by(
refine wpAny_pyIter_range (IsRange.new ..) (small_one h1 h2 h3 h4) ?_
have I1:Inv X pins σ H { s with heap:=s.heap.push { cls:=.type "range",data:=.fields #[.int lo t,.int hi u,.int 1 v] },toks:=tk }:=I.kept λb o e=>kE _ e
refine⟨(s.heap.push { cls:=.type "range",data:=.fields #[.int lo t,.int hi u,.int 1 v] }).objs.size,[(s.heap.push { cls:=.type "range",data:=.fields #[.int lo t,.int hi u,.int 1 v] }).objs.size],_,_,H,rfl,I1.kept (t':=tk) λb o e=>kE _ e,qA0 _ lo (hi-lo).toNat,?_,λb hb=>?_,q⟩
·have e1:lo+((0:Nat):Int)*1=lo:=by simp
 have e2:(((hi-lo).toNat:Nat):Int)-((0:Nat):Int)=Builtin.Range.rangeSize lo hi 1:=by rw[rangeSize_one];split<;>lia
 show IsRangeIter _ _ (lo+((0:Nat):Int)*1) ((((hi-lo).toNat:Nat):Int)-((0:Nat):Int)) 1;rw[e1,e2];exact mJ _ rfl
have e:b=(s.heap.push { cls:=.type "range",data:=.fields #[.int lo t,.int hi u,.int 1 v] }).objs.size:=by simpa using hb
subst e
exact I1.fpOk (kN _) (I1.hok.fresh (kN _)))
noncomputable def qK1(ta:TA):TI:=λσ H R=>ta σ H λvs H1=>∃j:Int,vs=[.int j]∧-(2 ^ 62)≤j∧j<2 ^ 62∧R (Itr 0 j.toNat) H1
noncomputable def qK2(ta:TA):TI:=λσ H R=>ta σ H λvs H1=>∃i j:Int,vs=[.int i,.int j]∧(-(2 ^ 62)≤i∧i<2 ^ 62∧-(2 ^ 62)≤j∧j<2 ^ 62)∧R (Itr i (j-i).toNat) H1
theorem qC3{a:Expr}{ta:TA}{p pos:Pos}(hg:Gl X "range")(hm:X.mg "range"=none)(ha:PA X [a] ta)(hs:starEach [a] X.env=[(false,eval a X.env)]:=by rfl):PI X tg (.Call (.Name "range" p) [a] [] pos) (qK1 ta):=by(
intro pins s σ H R I h
refine Call_ (q0K I hg hm boot_range (rD (thn (ha pos pins s σ H _ I h) λus s1 hZ=>?_) hs rfl))
obtain⟨vs,H1,I1,r1,q1⟩:=hZ
obtain⟨j,e,q1,q2,q⟩:=q1
subst e
cases r1 with
|cons r rr=>cases rr;obtain⟨t,rfl⟩:=r;exact call_range_1 (q8W I1 (by lia) (by lia) q1 q2 (by simpa using q)))
theorem q75{a b:Expr}{ta:TA}{p pos:Pos}(hg:Gl X "range")(hm:X.mg "range"=none)(ha:PA X [a,b] ta)(hs:starEach [a,b] X.env=[(false,eval a X.env),(false,eval b X.env)]:=by rfl)(hs2:starEach [b] X.env=[(false,eval b X.env)]:=by rfl):
 PI X tg (.Call (.Name "range" p) [a,b] [] pos) (qK2 ta):=by(
intro pins s σ H R I h
refine Call_ (q0K I hg hm boot_range (rD (thn (ha pos pins s σ H _ I h) λus s1 ⟨vs,H1,I1,r1,q1⟩=>?_) (by rw[hs,hs2]) (by rw[hs2];rfl)))
obtain⟨i,j,e,⟨q1,q2,q3,q4⟩,q⟩:=q1
subst e
cases r1 with
|cons r rr=>
 cases rr with
 |cons r' rr=>cases rr;obtain⟨t,rfl⟩:=r;obtain⟨t',rfl⟩:=r';exact call_range_2 (q8W I1 q1 q2 q3 q4 q))
noncomputable def tFor(wi:TI)(g:TG)(tb:TS):TS:=λD σ H=>wi σ H λJ H1=>∃W:Nat→Nat→St→Hp→Prop,(∃m,W 0 m σ H1)∧∀i m σ H,W i m σ H→(J.stop i H∧D.nx σ H)∨(J.go i H∧∃N:St→Hp→Prop,(∀σ' H',N σ' H'→∃m',m'<m∧W (i+1) m' σ' H')∧∀x H',J.yld i H x H'→g x σ H' λσ2 H2=>tb { D with nx:=N,ct:=N,bk:=D.nx } σ2 H2)
noncomputable def q5C(fp:List Addr)(h:Heap):List (Addr×Obj):=fp.filterMap λb=>(h.get? b).map λo=>(b,o)
theorem yB{fp:List Addr}{h:Heap}{b:Addr}{o:Obj}(hb:b∈fp)(e:h.get? b=some o):(b,o)∈q5C fp h:=wI.mpr ⟨b,hb,by rw[e];rfl⟩
theorem qC4{fp:List Addr}{h:Heap}{p:Addr×Obj}(hp:p∈q5C fp h):p.1∈fp∧h.get? p.1=some p.2:=by(
obtain⟨b,hb,e⟩:=wI.mp hp
cases q:h.get? b with
|none=>rw[q]at e;cases e
|some o=>rw[q]at e;have e':(b,o)=p:=kM e;subst e';exact⟨hb,q⟩)
theorem Inv.pinned{pins:List (Addr×Obj)}{σ:St}{H:Hp}{s:Shared}{fp:List Addr}(I:Inv X pins σ H s)(hf:∀b∈fp,FpOk X pins H b)(ho:∀b∈fp,∃o,s.heap.get? b=some o∧∀v,o.data≠ .cell v):Inv X (pins++q5C fp s.heap) σ H s:=I.pins_of λp hp=>(gF.mp hp).elim (λz=>I.pin p (kU _ z)) λz=>by  obtain⟨hb,e⟩:=qC4 z;obtain⟨f0,f1,f2,_⟩:=hf p.1 hb;obtain⟨o,e',d⟩:=ho p.1 hb;rw[e]at e';cases e';exact⟨e,f0,f1,f2,d⟩
theorem Inv.unpinned{pins pl:List (Addr×Obj)}{σ:St}{H:Hp}{s:Shared}(I:Inv X (pins++pl) σ H s):Inv X pins σ H s:=I.pins_of λp hp=>I.pin p (kU _ (gO _ hp))
theorem zL{iter:Expr}{body:List Stmt}{wi:TI}{g:TG}{tb:TS}{pos:Pos}(hp:PassesOwn (model X.prog X.w) X.A X.env X.xe)(hc:X.calm=true)(hi:PI X tg iter wi)(hg:PG X tg g)(hb:PSs X body tb)
 (hs:∀x,foldedSetIterable iter X.env x=pure x:=by intro _;rfl):PS X (.For tg iter body [] pos) (tFor wi g tb):=by(
intro pins s σ H D I h
refine wpAny_For (thn (hi pins s σ H _ I h) λv s1 h1=>thn h1 λitv s2 h2=>?_) hs
obtain⟨it,fp,tn,J,H2,e,I2,T,st2,f2,W,⟨m0,w0⟩,turn⟩:=h2
subst e
have stat:∀{H':Hp},(∀b∈fp,H' b=none)→∀b∈fp,FpOk X pins H' b:=λhn b hb=>⟨hn b hb,(f2 b hb).2⟩
refine codeAny_forLoop_any (λn s'=>∃i σ' H',Inv X pins σ' H' s'∧tn i s'.heap∧(∀b∈fp,H' b=none)∧W i n σ' H') ?_ m0 ⟨0,σ,H2,I2,st2,λb hb=>(f2 b hb).1,w0⟩
rintro n s3 ⟨i,σ3,H3,I3,st3,fr3,w3⟩
rcases turn i n σ3 H3 w3 with⟨stop,qn⟩|⟨go,N,hN,step⟩
·refine rS hp (thn (T.done X rfl rfl rfl hc i pins s3 σ3 H3 X.xe I3 (stat fr3) st3 stop) λr s4 hZ=>?_);obtain⟨hr,I4⟩:=hZ;subst hr;exact pM ⟨σ3,H3,I4,qn⟩
refine rS hp (thn (T.item X rfl rfl rfl hc i pins s3 σ3 H3 X.xe I3 (stat fr3) st3 go) λr s4 hZ=>?_)
obtain⟨u,hr,h4⟩:=hZ
subst hr
refine rS hp (thn h4 λ_ s5 hZ=>?_)
obtain⟨x,H5,I5,r5,y5,st5,fr5⟩:=hZ
have I5':=I5.pinned (stat fr5) (T.obj _ _ st5)
refine rS hp (thn (hg _ s5 σ3 H5 x u _ I5' r5 (step x H5 y5)) λ_ s6 hZ=>?_)
obtain⟨σ6,H6,I6,q6⟩:=hZ
refine rS hp (thn (hb _ s6 σ6 H6 _ I6 q6) λf s7 q7=>?_)
have again:∀{σ7:St} {H7:Hp},Inv X (pins++q5C fp s5.heap) σ7 H7 s7→N σ7 H7→∃m,m<n∧∃i σ' H',Inv X pins σ' H' s7∧tn i s7.heap∧(∀b∈fp,H' b=none)∧W i m σ' H':=fun {σ7 H7} I7 n7=>by obtain⟨m',hm,w7⟩:=hN σ7 H7 n7;refine⟨m',hm,i+1,σ7,H7,I7.unpinned,T.keep _ _ _ st5 λb hb o e=>(I7.pin (b,o) (kU _ (kU _ (yB hb e)))).1,λb hb=>?_,w7⟩;obtain⟨o,e,d⟩:=T.obj _ _ st5 b hb;exact(I7.pin (b,o) (kU _ (kU _ (yB hb e)))).2.1
cases f with
|next=>obtain⟨σ7,H7,I7,n7⟩:=q7;exact again I7 n7
|cont=>obtain⟨σ7,H7,I7,n7⟩:=q7;exact again I7 n7
|brk=>obtain⟨σ7,H7,I7,q7⟩:=q7;exact⟨σ7,H7,I7.unpinned,q7⟩
|ret v=>obtain⟨x7,σ7,H7,I7,r7,q7⟩:=q7;exact⟨x7,σ7,H7,I7.unpinned,r7,q7⟩)
end
theorem vR{K:PySem.W.Frag}{a:Addr}{xs:List V}{g:TG}{tb:TS}{D:Ends}{σ:St}{H:Hp}(Pv:Nat→St→Hp→Prop)(h0:Pv 0 σ H)(hl:∀i σ H,i≤xs.length→Pv i σ H→SqL K H a xs)
 (hs:∀i x σ H,xs[i]?=some x→Pv i σ H→g x σ H λσ2 H2=>tb { D with nx:=Pv (i+1),ct:=Pv (i+1),bk:=D.nx } σ2 H2) (hd:∀σ H,Pv xs.length σ H→D.nx σ H):
 ∃W:Nat→Nat→St→Hp→Prop,(∃m,W 0 m σ H)∧∀i m σ H,W i m σ H→((Itl K a).stop i H∧D.nx σ H)∨((Itl K a).go i H∧∃N:St→Hp→Prop,(∀σ' H',N σ' H'→∃m',m'<m∧W (i+1) m' σ' H')∧∀x H',(Itl K a).yld i H x H'→g x σ H' λσ2 H2=>tb { D with nx:=N,ct:=N,bk:=D.nx } σ2 H2):=by(
refine⟨λi m σ H=>m=xs.length-i∧i≤xs.length∧Pv i σ H,⟨xs.length,by simp,mU _,h0⟩,?_⟩
rintro i m σ H ⟨rfl,hi,p⟩
have q:=hl i σ H hi p
by_cases hlt:i<xs.length
·refine .inr ⟨⟨xs,xs[i],q,by simp[hlt]⟩,Pv (i+1),λσ' H' p'=>⟨xs.length-(i+1),by lia,rfl,hlt,p'⟩,λx H' y=>?_⟩;obtain⟨e,y⟩:=y;subst e;exact hs i x σ _ (y xs q) p
have e:i=xs.length:=by lia
subst e
exact .inl ⟨⟨xs,q,kN _⟩,hd σ H p⟩)
theorem q76{lo:Int}{n:Nat}{g:TG}{tb:TS}{D:Ends}{σ:St}{H:Hp}(Pv:Nat→St→Hp→Prop)(h0:Pv 0 σ H)
 (hs:∀i σ H,i<n→Pv i σ H→g (.int (lo+i)) σ H λσ2 H2=>tb { D with nx:=Pv (i+1),ct:=Pv (i+1),bk:=D.nx } σ2 H2) (hd:∀σ H,Pv n σ H→D.nx σ H):
 ∃W:Nat→Nat→St→Hp→Prop,(∃m,W 0 m σ H)∧∀i m σ H,W i m σ H→((Itr lo n).stop i H∧D.nx σ H)∨((Itr lo n).go i H∧∃N:St→Hp→Prop,(∀σ' H',N σ' H'→∃m',m'<m∧W (i+1) m' σ' H')∧∀x H',(Itr lo n).yld i H x H'→g x σ H' λσ2 H2=>tb { D with nx:=N,ct:=N,bk:=D.nx } σ2 H2):=by(
refine⟨λi m σ H=>m=n-i∧i≤n∧Pv i σ H,⟨n,by simp,mU _,h0⟩,?_⟩
rintro i m σ H ⟨rfl,hi,p⟩
by_cases hlt:i<n
·refine .inr ⟨hlt,Pv (i+1),λσ' H' p'=>⟨n-(i+1),by lia,rfl,hlt,p'⟩,λx H' y=>?_⟩;obtain⟨e,y⟩:=y;subst e y;exact hs i σ _ hlt p
have e:i=n:=by lia
subst e
exact .inl ⟨kN _,hd σ H p⟩)
noncomputable abbrev R2:=V→V→Hp→VK→Prop
noncomputable def OpR(X:Cx)(f:Value→Value→Sem Value)(r:R2):Prop:=∀(pins:List (Addr×Obj)) (s:Shared) (σ:St) (H:Hp) (x y:V) (v u:Value) (Q:VK),Inv X pins σ H s→RelV x v→RelV y u→r x y H Q→wpAny (model X.prog X.w) X.A (f v u) (EP X pins σ Q) X.xe s
noncomputable def q1A(X:Cx)(f:Value)(r:List V→Hp→VK→Prop):Prop:=∀(pins:List (Addr×Obj)) (s:Shared) (σ:St) (H:Hp) (xs:List V) (us:List Value) (Q:VK),Inv X pins σ H s→Vals xs us→r xs H Q→wpAny (model X.prog X.w) X.A (call f us) (EP X pins σ Q) X.xe s
noncomputable def tOp(r:R2)(ta tb:TE):TE:=λσ H Q=>ta σ H λx H1=>tb σ H1 λy H2=>r x y H2 Q
noncomputable def rI(C:Int→Int→Prop)(g:Int→Int→V):R2:=λx y H Q=>∃i j,x=.int i∧y=.int j∧C i j∧Q (g i j) H
noncomputable def rI0(g:Int→Int→V):R2:=λx y H Q=>∃i j,x=.int i∧y=.int j∧Q (g i j) H
section
variable{X:Cx}{a b c:Expr}{ta tb tc:TE}{pos:Pos}
theorem binT(ha:PE X a ta)(hb:PE X b tb){pins:List (Addr×Obj)}{s:Shared}{σ:St}{H:Hp}{R:V→V→Hp→Prop}(I:Inv X pins σ H s)
 (h:ta σ H λx H1=>tb σ H1 λy H2=>R x y H2) {Q:Value→Shared→Prop} {f:Value→Value→Sem Value}
 (hf:∀v u s2 x y H2,Inv X pins σ H2 s2→RelV x v→RelV y u→R x y H2→wpAny (model X.prog X.w) X.A (f v u) Q X.xe s2):
 wpAny (model X.prog X.w) X.A (eval a X.env) (λv s₁=>wpAny (model X.prog X.w) X.A (eval b X.env) (λu s₂=>wpAny (model X.prog X.w) X.A (f v u) Q X.xe s₂) X.xe s₁) X.xe s:=by(
refine thn (ha pins s σ H _ I h) λv s1 hZ=>?_
obtain⟨x,H1,I1,r1,q1⟩:=hZ
refine thn (hb pins s1 σ H1 _ I1 q1) λu s2 hZ=>?_
obtain⟨y,H2,I2,r2,q2⟩:=hZ
exact hf v u s2 x y H2 I2 r1 r2 q2)
theorem qP{op:Operator}{r:R2}(ho:OpR X (binaryOp op) r)(ha:PE X a ta)(hb:PE X b tb):PE X (.BinOp a op b pos) (tOp r ta tb):=by intro pins s σ H Q I h;exact wpAny_BinOp (binT ha hb I h λv u s2 x y H2 I2 rx ry q=>ho pins s2 σ H2 x y v u Q I2 rx ry q)
theorem opI{f:Value→Value→Sem Value}{C:Int→Int→Prop}{g:Int→Int→Int}
 (rule:∀(i j:Int) (t u:Tok) (s:Shared) (Q:Value→Shared→Prop) (E:Value→Shared→Prop),C i j→Q (.int (g i j) s.toks) { s with toks:=s.toks+1 }→wpAny (model X.prog X.w) X.A (f (.int i t) (.int j u)) Q E s):
 OpR X f (rI C λi j=>.int (g i j)):=by(
intro pins s σ H x y v u Q I rx ry h
obtain⟨i,j,rfl,rfl,hc,q⟩:=h
obtain⟨t,rfl⟩:=rx
obtain⟨t',rfl⟩:=ry
exact rule i j t t' s _ _ hc ⟨.int (g i j),H,I.tok _,⟨_,rfl⟩,q⟩)
theorem opI0{f:Value→Value→Sem Value}{g:Int→Int→Int}
 (rule:∀(i j:Int) (t u:Tok) (s:Shared) (Q:Value→Shared→Prop) (E:Value→Shared→Prop),Q (.int (g i j) s.toks) { s with toks:=s.toks+1 }→wpAny (model X.prog X.w) X.A (f (.int i t) (.int j u)) Q E s):
 OpR X f (rI0 λi j=>.int (g i j)):=by(
intro pins s σ H x y v u Q I rx ry h
obtain⟨i,j,rfl,rfl,q⟩:=h
obtain⟨t,rfl⟩:=rx
obtain⟨t',rfl⟩:=ry
exact rule i j t t' s _ _ ⟨.int (g i j),H,I.tok _,⟨_,rfl⟩,q⟩)
theorem opB0{f:Value→Value→Sem Value}{g:Int→Int→Bool}
 (rule:∀(i j:Int) (t u:Tok) (s:Shared) (Q:Value→Shared→Prop) (E:Value→Shared→Prop),Q (.bool (g i j)) s→wpAny (model X.prog X.w) X.A (f (.int i t) (.int j u)) Q E s):
 OpR X f (rI0 λi j=>.bl (g i j)):=by(
intro pins s σ H x y v u Q I rx ry h
obtain⟨i,j,rfl,rfl,q⟩:=h
obtain⟨t,rfl⟩:=rx
obtain⟨t',rfl⟩:=ry
exact rule i j t t' s _ _ ⟨.bl (g i j),H,I,rfl,q⟩)
noncomputable def CDiv(i j:Int):Prop:=0<j∧j<1073741824
noncomputable def CPow(i j:Int):Prop:=0≤j∧j≤1000000∧i.natAbs<2 ^ 64
noncomputable def CMul(i j:Int):Prop:=(-(2 ^ 64)<i∧i<2 ^ 64)∨(-(2 ^ 64)<j∧j<2 ^ 64)
theorem CMul.ok{i j:Int}(h:CMul i j):IntMulOk i j:=by(
rcases h with⟨h1,h2⟩|⟨h1,h2⟩
·exact .of_left (intBits_le_64 h1 h2)
exact .of_right (intBits_le_64 h1 h2))
theorem uZ:OpR X (binaryOp .Add) (rI0 λi j=>.int (i+j)):=opI0 λ_ _ _ _ _ _ _ q=>add_int q
theorem yZ:OpR X (binaryOp .Sub) (rI0 λi j=>.int (i-j)):=opI0 λ_ _ _ _ _ _ _ q=>sub_int q
theorem uH:OpR X (binaryOp .Mult) (rI CMul λi j=>.int (i*j)):=opI λ_ _ _ _ _ _ _ hc q=>mul_int q hc.ok
theorem q3E:OpR X (binaryOp .FloorDiv) (rI CDiv λi j=>.int (i / j)):=opI λi j _ _ _ _ _ hc q=>by have h1:(0:Int)<j:=hc.1;have h2:j<1073741824:=hc.2;exact floordiv_int (by lia) (by rw[Int.fdiv_eq_ediv_of_nonneg i (by lia)];exact q) (.inl (PyProof.noPylong_small (by lia)))
theorem uI:OpR X (binaryOp .Mod) (rI (λ_ j=>0<j) λi j=>.int (i%j)):=opI λi j _ _ _ _ _ hc q=>by have h1:(0:Int)<j:=hc;exact mod_int' (by lia) (by rw[Int.fmod_eq_emod_of_nonneg i (by lia)];exact q)
theorem qA1:OpR X (binaryOp .Pow) (rI CPow λi j=>.int (i ^ j.toNat)):=opI λ_ _ _ _ _ _ _ hc q=>pow_int_small hc.1 hc.2.1 hc.2.2 q
theorem qI0:OpR X (binaryOp .LShift) (rI CPow λi j=>.int (i*2 ^ j.toNat)):=opI λ_ _ _ _ _ _ _ hc q=>lshift_int_small hc.1 hc.2.1 hc.2.2 q
theorem qK3:OpR X (binaryOp .BitOr) (rI0 λi j=>.int (Builtin.bitOr i j)):=opI0 λ_ _ _ _ _ _ _ q=>or_int q
end
noncomputable def scal:V→V→Bool
| .non,.non=>true| .non,.int _=>true| .int _,.non=>true| .non,.bl _=>true| .bl _,.non=>true| .non,.str _=>true| .str _,.non=>true
| .int _,.int _=>true| .bl _,.bl _=>true| .str _,.str _=>true| .byt _,.byt _=>true
| .int _,.str _=>true| .str _,.int _=>true| .bl _,.str _=>true| .str _,.bl _=>true
|_,_=>false
noncomputable def rEq:R2:=λx y H Q=>scal x y=true∧Q (.bl (decide (x=y))) H
noncomputable def rNe:R2:=λx y H Q=>scal x y=true∧Q (.bl (!decide (x=y))) H
theorem qAZ{i j:Int}:decide (V.int i=V.int j)=(i==j):=by rw[wO];simp
theorem qD0{i j:Bool}:decide (V.bl i=V.bl j)=(i==j):=by rw[wO];simp
theorem qB0{i j:Str}:decide (V.str i=V.str j)=(i==j):=by rw[wO];simp
theorem qB1{i j:Array UInt8}:decide (V.byt i=V.byt j)=(i.toList==j.toList):=by(
rw[wO]
cases i
cases j
simp)
section
variable{X:Cx}{a b c:Expr}{ta tb tc:TE}{pos:Pos}
theorem jF{pins:List (Addr×Obj)}{σ:St}{H:Hp}{s:Shared}{Q:VK}{k k':Bool}(I:Inv X pins σ H s)(q:Q (.bl k) H)(e:k=k'):EP X pins σ Q (.bool k') s:=by subst e;exact⟨.bl k,H,I,rfl,q⟩
theorem q04:OpR X (compareOp .Eq) rEq:=by(
intro pins s σ H x y v u Q I rx ry h
obtain⟨hs,q⟩:=h
cases x with
|non=>
 cases rx;cases y with
 |non=>cases ry;exact PySem.EqNone.eq_none_none (jF I q (by simp))
 |bl j=>cases ry;exact PySem.EqNone.eq_none_bool (jF I q (by simp))
 |int j=>obtain⟨t',rfl⟩:=ry;exact PySem.EqNone.eq_none_int (jF I q (by simp))
 |str j=>obtain⟨t',rfl⟩:=ry;exact PySem.EqNone.eq_none_str (jF I q (by simp))
 |_=>exact absurd (show false=true from hs) kO
|bl i=>
 cases rx;cases y with
 |non=>cases ry;exact PySem.EqNone.eq_bool_none (jF I q (by simp))
 |bl j=>cases ry;exact eq_bool (jF I q qD0)
 |str j=>obtain⟨t',rfl⟩:=ry;exact aN (jF I q (by simp))
 |_=>exact absurd (show false=true from hs) kO
|int i=>
 obtain⟨t,rfl⟩:=rx;cases y with
 |non=>cases ry;exact PySem.EqNone.eq_int_none (jF I q (by simp))
 |int j=>obtain⟨t',rfl⟩:=ry;exact eq_int (jF I q qAZ)
 |str j=>obtain⟨t',rfl⟩:=ry;exact aR (jF I q (by simp))
 |_=>exact absurd (show false=true from hs) kO
|str i=>
 obtain⟨t,rfl⟩:=rx;cases y with
 |non=>cases ry;exact PySem.EqNone.eq_str_none (jF I q (by simp))
 |bl j=>cases ry;exact aO (jF I q (by simp))
 |int j=>obtain⟨t',rfl⟩:=ry;exact aS (jF I q (by simp))
 |str j=>obtain⟨t',rfl⟩:=ry;exact eq_str (jF I q qB0)
 |_=>exact absurd (show false=true from hs) kO
|byt i=>
 obtain⟨t,rfl⟩:=rx;cases y with
 |byt j=>obtain⟨t',rfl⟩:=ry;exact PySem.W.eq_bytes (jF I q qB1)
 |_=>exact absurd (show false=true from hs) kO
|_=>cases y<;>exact absurd (show false=true from hs) kO)
theorem q5D:OpR X (compareOp .NotEq) rNe:=by(
intro pins s σ H x y v u Q I rx ry h
obtain⟨hs,q⟩:=h
cases x with
|non=>
 cases rx;cases y with
 |non=>cases ry;exact PySem.EqNone.ne_none_none (jF I q (by simp))
 |bl j=>cases ry;exact PySem.EqNone.ne_none_bool (jF I q (by simp))
 |int j=>obtain⟨t',rfl⟩:=ry;exact PySem.EqNone.ne_none_int (jF I q (by simp))
 |str j=>obtain⟨t',rfl⟩:=ry;exact PySem.EqNone.ne_none_str (jF I q (by simp))
 |_=>exact absurd (show false=true from hs) kO
|bl i=>
 cases rx;cases y with
 |non=>cases ry;exact PySem.EqNone.ne_bool_none (jF I q (by simp))
 |bl j=>cases ry;exact ne_bool (jF I q (gZ not qD0))
 |str j=>obtain⟨t',rfl⟩:=ry;exact aP (jF I q (by simp))
 |_=>exact absurd (show false=true from hs) kO
|int i=>
 obtain⟨t,rfl⟩:=rx;cases y with
 |non=>cases ry;exact PySem.EqNone.ne_int_none (jF I q (by simp))
 |int j=>obtain⟨t',rfl⟩:=ry;exact ne_int (jF I q (gZ not qAZ))
 |str j=>obtain⟨t',rfl⟩:=ry;exact aT (jF I q (by simp))
 |_=>exact absurd (show false=true from hs) kO
|str i=>
 obtain⟨t,rfl⟩:=rx;cases y with
 |non=>cases ry;exact PySem.EqNone.ne_str_none (jF I q (by simp))
 |bl j=>cases ry;exact aQ (jF I q (by simp))
 |int j=>obtain⟨t',rfl⟩:=ry;exact aU (jF I q (by simp))
 |str j=>obtain⟨t',rfl⟩:=ry;exact ne_str (jF I q (gZ not qB0))
 |_=>exact absurd (show false=true from hs) kO
|byt i=>
 obtain⟨t,rfl⟩:=rx;cases y with
 |byt j=>obtain⟨t',rfl⟩:=ry;exact PySem.W.ne_bytes (jF I q (gZ not qB1))
 |_=>exact absurd (show false=true from hs) kO
|_=>cases y<;>exact absurd (show false=true from hs) kO)
theorem q3F:OpR X (compareOp .Lt) (rI0 λi j=>.bl (decide (i<j))):=opB0 λ_ _ _ _ _ _ _ q=>lt_int q
theorem qD1:OpR X (compareOp .LtE) (rI0 λi j=>.bl (decide (i≤j))):=opB0 λ_ _ _ _ _ _ _ q=>le_int q
theorem qHB:OpR X (compareOp .Gt) (rI0 λi j=>.bl (decide (j<i))):=opB0 λ_ _ _ _ _ _ _ q=>gt_int q
theorem qB2:OpR X (compareOp .GtE) (rI0 λi j=>.bl (decide (j≤i))):=opB0 λ_ _ _ _ _ _ _ q=>ge_int q
theorem qA2:OpR X (compareOp .Is) (λx y H Q=>y=.non∧Q (.bl (decide (x=.non))) H):=by(
intro pins s σ H x y v u Q I rx ry h
obtain⟨rfl,q⟩:=h
cases ry
refine is_none_gen (jF I q ?_)
cases x<;>first
 |(cases rx;rfl)
 |(obtain⟨t,rfl⟩:=rx;rfl))
theorem q4W:OpR X (compareOp .IsNot) (λx y H Q=>y=.non∧Q (.bl (!decide (x=.non))) H):=by(
intro pins s σ H x y v u Q I rx ry h
obtain⟨rfl,q⟩:=h
cases ry
refine isnot_none_gen (jF I q ?_)
cases x<;>first
 |(cases rx;rfl)
 |(obtain⟨t,rfl⟩:=rx;rfl))
theorem qT(b:Expr){op:CmpOp}(h:op≠ .In:=by decide)(h2:op≠ .NotIn:=by decide):behindInMarks op b=false:=by(
have e1:(op==CmpOp.In)=false:=by cases op<;>first|rfl|exact absurd rfl h
have e2:(op==CmpOp.NotIn)=false:=by cases op<;>first|rfl|exact absurd rfl h2
cases b<;>simp[behindInMarks,e1,e2])
theorem v7{op:CmpOp}{r:R2}(ho:OpR X (compareOp op) r)(ha:PE X a ta)(hb:PE X b tb)(hm:behindInMarks op b=false):PE X (.Compare a [op] [b] pos) (tOp r ta tb):=by intro pins s σ H Q I h;exact wpAny_Compare1 (binT ha hb I h λv u s2 x y H2 I2 rx ry q=>ho pins s2 σ H2 x y v u Q I2 rx ry q) hm
noncomputable def qHC(t:TE):TT:=λσ H Q=>t σ H λx H'=>∃k,x=.bl k∧Q k H'
theorem qS{op:CmpOp}{r:R2}(ho:OpR X (compareOp op) r)(ha:PE X a ta)(hb:PE X b tb)(hm:behindInMarks op b=false):PT X (.Compare a [op] [b] pos) (qHC (tOp r ta tb)):=by(
intro pins s σ H Q I h
refine nO (thn (ha pins s σ H _ I h) λv s1 ⟨x,H1,I1,r1,q1⟩=>thn (hb pins s1 σ H1 _ I1 q1) λu s2 ⟨y,H2,I2,r2,q2⟩=>thn (ho pins s2 σ H2 x y v u _ I2 r1 r2 q2) λc s3 ⟨z,H3,I3,r3,k,e,q3⟩=>?_) hm
subst e
cases r3
exact gR ⟨H3,I3,q3⟩)
noncomputable def qD2(r r':R2)(ta tb tc:TE):TE:=λσ H Q=>ta σ H λx H1=>tb σ H1 λy H2=>r x y H2 λz H3=>∃k,z=.bl k∧(if k=true then tc σ H3 λw' H4=>r' y w' H4 Q else Q (.bl false) H3)
theorem qD3{op op':CmpOp}{r r':R2}(ho:OpR X (compareOp op) r)(ho':OpR X (compareOp op') r')(ha:PE X a ta)(hb:PE X b tb)(hc:PE X c tc)
 (hm:lastMarks [op,op'] [b,c]=false:=by with_unfolding_all rfl):PE X (.Compare a [op,op'] [b,c] pos) (qD2 r r' ta tb tc):=by(
intro pins s σ H Q I h
refine Compare_chain (thn (ha pins s σ H _ I h) λv s1 ⟨x,H1,I1,r1,q1⟩=>chain_link (thn (hb pins s1 σ H1 _ I1 q1) λu s2 ⟨y,H2,I2,r2,q2⟩=>thn (ho pins s2 σ H2 x y v u _ I2 r1 r2 q2) λd s3 ⟨z,H3,I3,r3,k,e,q3⟩=>?_)) hm
subst e
cases r3
refine gR ?_
cases k with
|false=>exact ite_ff ⟨.bl false,H3,I3,rfl,q3⟩
|true=>exact ite_tt (chain_last (thn (hc pins s3 σ H3 _ I3 q3) λw' s4 ⟨z',H4,I4,r4,q4⟩=>ho' pins s4 σ H4 y z' u w' Q I4 r2 r4 q4)))
theorem qD4{op op':CmpOp}{r r':R2}(ho:OpR X (compareOp op) r)(ho':OpR X (compareOp op') r')(ha:PE X a ta)(hb:PE X b tb)(hc:PE X c tc)
 (hm:lastMarks [op,op'] [b,c]=false:=by with_unfolding_all rfl):PT X (.Compare a [op,op'] [b,c] pos) (qHC (qD2 r r' ta tb tc)):=by(
intro pins s σ H Q I h
refine isTrue_chain (thn (ha pins s σ H _ I h) λv s1 ⟨x,H1,I1,r1,q1⟩=>test_link (thn (hb pins s1 σ H1 _ I1 q1) λu s2 ⟨y,H2,I2,r2,q2⟩=>thn (ho pins s2 σ H2 x y v u _ I2 r1 r2 q2) λd s3 ⟨z,H3,I3,r3,k,e,q3⟩=>?_)) hm
subst e
cases r3
refine gR ?_
cases k with
|false=>obtain⟨k',e',q'⟩:=q3;cases e';exact ite_ff ⟨H3,I3,q'⟩
|true=>refine ite_tt (test_last (thn (hc pins s3 σ H3 _ I3 q3) λw' s4 ⟨z',H4,I4,r4,q4⟩=>thn (ho' pins s4 σ H4 y z' u w' _ I4 r2 r4 q4) λd' s5 hZ=>?_));obtain⟨z2,H5,I5,r5,k2,e2,q5⟩:=hZ;subst e2;cases r5;exact gR ⟨H5,I5,q5⟩)
theorem q5E:(sizeLine:Nat)<2 ^ 63:=by rw[gG];decide
theorem q05{x:V}{us:List Value}(r:Vals [x] us):∃u,us=[u]∧RelV x u:=by
 cases r with
 |cons r1 r2=>cases r2;exact⟨_,rfl,r1⟩
theorem qD5{x y:V}{us:List Value}(r:Vals [x,y] us):∃u w',us=[u,w']∧RelV x u∧RelV y w':=by(
cases r with
|cons r1 r2=>
 cases r2 with
 |cons r3 r4=>cases r4;exact⟨_,_,rfl,r1,r3⟩)
theorem qC5(hc:X.calm=true):q1A X (.builtin "min") (λxs H Q=>∃i j,xs=[.int i,.int j]∧Q (.int (if j<i then j else i)) H):=by(
intro pins s σ H xs us Q I r h
obtain⟨i,j,rfl,q⟩:=h
obtain⟨u,w',rfl,⟨t,rfl⟩,⟨t',rfl⟩⟩:=qD5 r
refine min_two_ints (I.ok.hd hc) λh' tk k=>⟨_,H,I.kept k,?_,q⟩
by_cases hj:j<i
·rw[kJ hj,kJ hj];exact⟨_,rfl⟩
rw[kF hj,kF hj];exact⟨_,rfl⟩)
end
structure ObjM(h:Heap)(x dx C:Addr)(mA:Str→Option Value):Prop where
obj:h.get? x=some (PySem.W.instObj C dx)
ns:h.Ns1 dx mA
ne:dx≠x
theorem q77{h:Heap}{dx:Addr}{mA:Str→Option Value}(n:h.Ns1 dx mA):∃od,h.get? dx=some od∧∀name,PySem.W.lookIn name od=some (mA name):=by(
obtain⟨o,es,ep,ho,hd,hk,_,hm⟩:=n
refine⟨o,ho,λname=>?_⟩
have e:=hm name
unfold nsFind findBy at e
rw[←Array.find?_toList]at e
unfold PySem.W.lookIn
rw[hd]
dsimp only
split
·rename_i y q;rw[q]at e;exact gZ some e
rename_i q
rw[q]at e
have a:es.toList.any (·.refKey)=false:=by rw[List.any_eq_false];intro y hy;obtain⟨z,t,hkey⟩:=hk y (Array.mem_toList_iff.mp hy);simp[DictEntry.refKey,hkey]
have a':¬es.toList.any (·.refKey)=true:=by rw[a];exact kO
rw[kF a']
exact gZ some e)
theorem ObjM.look{h:Heap}{x dx C:Addr}{mA:Str→Option Value}(I:ObjM h x dx C mA):∃od,PySem.W.InstAt h x (PySem.W.instObj C dx) C (some od)∧∀name,PySem.W.lookIn name od=some (mA name):=let⟨od,ho,hl⟩:=q77 I.ns
 ⟨od,⟨I.obj,rfl,rfl,ho⟩,hl⟩
section
variable{prog:Program}{w:World}{A:Around}{E:Value→Shared→Prop}{s:Shared}{K:PySem.W.Frag}{x dx C f:Addr}{mA:Str→Option Value}{name:Str}{v:Value}
theorem qFG{expr:Bool}{Q:Value→Shared→Prop}(X:K.In s.heap)(I:ObjM s.heap x dx C mA)(hg:PySem.W.plainGet K C name=true)(hh:PySem.W.hasDictIn K C=true)
 (ha:PySem.W.findIn K (.ref C) name=some none) (hv:mA name=some v) (hv':PySem.W.handedIn v=true) (h:Q v { s with toks:=s.toks+1 }):
 wpAny (model prog w) A (getAttr (.ref x) name expr) Q E s:=by obtain⟨od,J,hl⟩:=I.look;exact PySem.W.get_value X J (pP hg).1 (PySem.W.findObj_own hh ha rfl (by rw[hl,hv])) hv' h
theorem qD6{pl:Sem Bool}{Q:Value×List Value→Shared→Prop}(X:K.In s.heap)(I:ObjM s.heap x dx C mA)(hg:PySem.W.plainGet K C name=true)
 (hf:PySem.W.findIn K (.ref C) name=some (some (.ref f))) (ht:PySem.W.isFn K (.ref f)=true) (hv:mA name=none) (h:Q (.ref f,[.ref x]) s):
 wpAny (model prog w) A (getMethod (.ref x) name pl) Q E s:=by obtain⟨od,J,hl⟩:=I.look;exact PySem.W.method_fn X J (pP hg).1 (pP hg).2 hf (rW.mp ht) (by show(PySem.W.lookIn name od).map (·.isSome)=some false;rw[hl,hv];rfl) h
theorem qFH{ns:List Str}{Q:Unit→Shared→Prop}(X:K.In s.heap)(I:ObjM s.heap x dx C mA)
 (hs:PySem.W.findIn K (.ref C) "__setattr__"=some (some (.builtin "object.__setattr__"))) (hp:PySem.W.plainOver K C=true) (ht:PySem.W.takerIn K C name=some none) (hh:PySem.W.hasDictIn K C=true)
 (hw:PySem.Within mA ns) (hsz:ns.length≤sizeLine)
 (h:∀h',ObjM h' x dx C (λy=>if y=name then some v else mA y)→Heap.SameBut dx s.heap h'→Q () { s with heap:=h',toks:=s.toks+2 }):
 wpAny (model prog w) A (setAttr (.ref x) name v) Q E s:=by(
obtain⟨od,J,hl⟩:=I.look
refine PySem.W.set_plain X J hs (PySem.W.osa_open (s:={ s with toks:=s.toks+1 }) (r:=none) X J hp ht λb=>?_)
obtain⟨cd,hc,hd'⟩:=pC hh
have hx:s.heap.get? x=some ⟨.ref C,some dx,.plain,#[]⟩:=I.obj
refine hV (kY (hV (hV (wpAny_loadPart hx (hV (bE (s:={ s with toks:=s.toks+1 }) (PySem.W.looks_clsIn X hc) ?_))))))
rw[hd']
refine kY (a:=some dx) (hV (kY (hV ?_)))
refine wpAny_nsSet1 (s:={ s with toks:=s.toks+1 }) I.ns λh' hn2 hs2=>?_
obtain⟨oD,esD,epD,hoD,hdD,hcD⟩:=hn2.count (PySem.Within.cons name v hw)
refine hV (wpAny_lookBehind hoD (by rw[hdD];exact pastItsLine_dict (mF hcD (by rw[mG];lia))) ?_)
exact kY (h _ ⟨(hs2.2 _ (r6 I.ne)).trans I.obj,hn2,I.ne⟩ hs2))
theorem qD7{R:Result→Shared→Prop}{vs:List Value}{kw:List (Str×Value)}(X:K.In s.heap)(hm:PySem.W.makesIn K C=true)
 (hi:PySem.W.findIn K (.ref C) "__init__"=some (some (.ref f))) (hf:PySem.W.typeIn K (.ref f)=some (.type "function"))
 (h:codeAny (model prog w) (A.under (.builtin "type.__call__" ⟨.ref C::vs,kw⟩)) (.call (.ref f) ⟨.ref (s.heap.objs.size+1)::vs,kw⟩) (PySem.W.InitBack (s.heap.objs.size+1) R)
  { s with heap:=(s.heap.push PySem.W.emptyDict).push (PySem.W.instObj C s.heap.objs.size) }):
 codeAny (model prog w) A (.call (.ref C) ⟨vs,kw⟩) R s:=by obtain⟨hh,g,d,t,os⟩:=s;exact xA (xR X hm) (cE X hi) (λself=>PySem.W.bind_fn X self hf) (.inl rfl) h
end
noncomputable def putF(f:Str)(v:V):List (Str×V)→List (Str×V)
| []=>[(f,v)]
|(g,x)::r=>if g=f then(g,v)::r else(g,x)::putF f v r
theorem q4A(f g:Str)(v:V):∀fs:List (Str×V),(putF f v fs).lookup g=if g=f then some v else fs.lookup g
| []=>by
 show List.lookup g [(f,v)]=_;by_cases h:g=f
 ·have hb:(g==f)=true:=rW.mpr h;simp only[List.lookup,hb,kJ h]
 have hb:(g==f)=false:=rA.mpr h;simp only[List.lookup,hb,kF h]
|(k,x)::r=>by
 have ih:=q4A f g v r;rw[show putF f v ((k,x)::r)=(if k=f then(k,v)::r else(k,x)::putF f v r)from rfl];by_cases hk:k=f
 ·rw[kJ hk];by_cases h:g=k
  ·have hb:(g==k)=true:=rW.mpr h;simp only[List.lookup,hb,kJ (h.trans hk)]
  have hb:(g==k)=false:=rA.mpr h;simp only[List.lookup,hb,kF (λe:g=f=>h (e.trans hk.symm))]
 rw[kF hk];by_cases h:g=k
 ·have hb:(g==k)=true:=rW.mpr h;simp only[List.lookup,hb,kF (λe:g=f=>hk (h.symm.trans e))]
 have hb:(g==k)=false:=rA.mpr h;simp only[List.lookup,hb];exact ih
theorem q3V(f:Str)(v:V):∀fs:List (Str×V),f∈(putF f v fs).map (·.1)∧∀g,g∈fs.map (·.1)→g∈(putF f v fs).map (·.1)
| []=>⟨by simp[putF],λg h=>by simp at h⟩
|(k,x)::r=>by
 obtain⟨i1,i2⟩:=q3V f v r;rw[show putF f v ((k,x)::r)=(if k=f then(k,v)::r else(k,x)::putF f v r)from rfl];by_cases hk:k=f
 ·rw[kJ hk];subst hk;exact⟨by simp,λg h=>by simpa using h⟩
 rw[kF hk];refine⟨?_,λg h=>?_⟩
 ·rw[mL];exact hU _ i1
 rw[mL]at h ⊢;rcases kI.mp h with e|e
 ·exact kI.mpr (.inl e)
 exact hU _ (i2 g e)
theorem q4B(f:Str)(v:V):∀fs:List (Str×V),(putF f v fs).length≤fs.length+1
| []=>by simp[putF]
|(k,x)::r=>by
 have ih:=q4B f v r;rw[show putF f v ((k,x)::r)=(if k=f then(k,v)::r else(k,x)::putF f v r)from rfl];by_cases hk:k=f
 ·rw[kJ hk,mG,mG];lia
 rw[kF hk,mG,mG];lia
theorem RelO.some_of{v:V}{o:Option Value}(r:RelO (some v) o):∃u,o=some u∧RelV v u:=by(
cases o with
|none=>exact(show False from r).elim
|some u=>exact⟨u,rfl,r⟩)
theorem RelO.none_of{o:Option Value}(r:RelO none o):o=none:=by(
cases o with
|none=>rfl
|some u=>exact(show False from r).elim)
theorem qC6{v:V}{u:Value}(r:RelV v u):PySem.W.handedIn u=true:=by(
cases v with
|non=>cases(show u=Value.none from r);rfl
|bl b=>cases(show u=Value.bool b from r);rfl
|int i=>obtain⟨t,e⟩:=(show ∃t,u=Value.int i t from r);cases e;rfl
|str x=>obtain⟨t,e⟩:=(show ∃t,u=Value.str x t from r);cases e;rfl
|byt b=>obtain⟨t,e⟩:=(show ∃t,u=Value.bytes b t from r);cases e;rfl
|flt b=>obtain⟨t,e⟩:=(show ∃t,u=Value.float b t from r);cases e;rfl
|ref a=>cases(show u=Value.ref a from r);rfl
|ty n=>cases(show u=Value.type n from r);rfl)
section
variable{P:Program}{w:World}{H H':Hp}{h h':Heap}{a C dx:Addr}{fs fs':List (Str×V)}
theorem q4X(hok:HOk P w H h)(e:H a=some (.ins C dx fs)):∃mA,ObjM h a dx C mA∧(∀f,RelO (fs.lookup f) (mA f))∧PySem.Within mA (fs.map (·.1))∧fs.length≤1000∧H dx=some (.own a):=by obtain⟨d,z,ne,ob,mA,n,r,q⟩:=(show jH P w H h a (.ins C dx fs)from hok a _ e);exact⟨mA,⟨ob,n,ne⟩,r,q,z,d⟩
end
structure Cls(K:PySem.W.Frag)(C:Addr):Prop where
pg:PySem.W.plainGet K C Str.empty=true
hd:PySem.W.hasDictIn K C=true
po:PySem.W.plainOver K C=true
sa:PySem.W.findIn K (.ref C) "__setattr__"=some (some (.builtin "object.__setattr__"))
theorem Cls.get{K:PySem.W.Frag}{C:Addr}(c:Cls K C)(f:Str):PySem.W.plainGet K C f=true:=c.pg
noncomputable def qM(K:PySem.W.Frag)(C:Addr)(f:Str):Prop:=PySem.W.findIn K (.ref C) f=some none
theorem qM.taker{K:PySem.W.Frag}{C:Addr}{f:Str}(n:qM K C f):PySem.W.takerIn K C f=some none:=by unfold PySem.W.takerIn;rw[show PySem.W.findIn K (.ref C) f=some none from n];rfl
structure Meth(K:PySem.W.Frag)(C:Addr)(m:Str)(f:Addr):Prop where
at_:PySem.W.findIn K (.ref C) m=some (some (.ref f))
fn:PySem.W.isFn K (.ref f)=true
kp:PySem.W.keepIn K (.ref f)=true
section
variable{X:Cx}{pins:List (Addr×Obj)}{σ:St}{H:Hp}{s:Shared}{a C dx:Addr}{fs:List (Str×V)}{f:Str}{v:V}{A:Around}{E:Value→Shared→Prop}
theorem q5F{b:Bool}{Q:Value→Shared→Prop}(I:Inv X pins σ H s)(e:H a=some (.ins C dx fs))(c:Cls X.K C)(n:qM X.K C f)(l:fs.lookup f=some v)
 (h:∀u s',Inv X pins σ H s'→RelV v u→Q u s'):wpAny (model X.prog X.w) A (getAttr (.ref a) f b) Q E s:=by obtain⟨mA,O,r,_,_,_⟩:=q4X I.hok e;obtain⟨u,hu,ru⟩:=RelO.some_of (v:=v) (o:=mA f) (by rw[←l];exact r f);exact qFG I.kIn O (c.get f) c.hd n hu (qC6 ru) (h u _ (I.tok _) ru)
theorem q0L{m:Str}{g:Addr}{pl:Sem Bool}{Q:Value×List Value→Shared→Prop}(I:Inv X pins σ H s)(e:H a=some (.ins C dx fs))(c:Cls X.K C)(k:Meth X.K C m g)(l:fs.lookup m=none)
 (h:Q (.ref g,[.ref a]) s):wpAny (model X.prog X.w) A (getMethod (.ref a) m pl) Q E s:=by obtain⟨mA,O,r,_,_,_⟩:=q4X I.hok e;have hn:mA m=none:=RelO.none_of (by rw[←l];exact r m);exact qD6 I.kIn O (c.get m) k.at_ k.fn hn h
theorem q5G{y:V}{u:Value}{Q:Unit→Shared→Prop}(I:Inv X pins σ H s)(e:H a=some (.ins C dx fs))(c:Cls X.K C)(n:qM X.K C f)(hl:fs.length<1000)(ry:RelV y u)
 (h:∀s',Inv X pins σ (upd H a (.ins C dx (putF f y fs))) s'→Q () s'):wpAny (model X.prog X.w) A (setAttr (.ref a) f u) Q E s:=by(
obtain⟨mA,O,r,wi,_,ho⟩:=q4X I.hok e
have hz:(fs.map (·.1)).length≤sizeLine:=by rw[kB,gG];lia
refine qFH I.kIn O c.sa c.po n.taker c.hd wi hz λh' O' sb=>h _ ?_
have hd:∃o,h'.get? dx=some o:=let⟨o,_,_,e',_⟩:=O'.ns;⟨o,e'⟩
refine I.write (x:=a) (e:=dx) (by rw[e];exact True.intro) (.inr ho) (λb q hb z=>(sb.2 b hb).trans z) hd ?_
refine⟨by rw[qC O.ne];exact ho,?_,O.ne,O'.obj,_,O'.ns,λg=>?_,λg hg=>?_⟩
·have:=q4B f y fs;lia
·show RelO ((putF f y fs).lookup g) (if g=f then some u else mA g);rw[q4A];by_cases q:g=f
 ·rw[kJ q,kJ q];exact ry
 rw[kF q,kF q];exact r g
by_cases q:g=f
·rw[q];exact(q3V f y fs).1
refine(q3V f y fs).2 g (wi g λz=>hg ?_)
show(if g=f then some u else mA g)=none
rw[kF q];exact z)
theorem Inv.made(I:Inv X pins σ H s):Inv X pins σ (upd (upd H s.heap.objs.size (.own (s.heap.objs.size+1))) (s.heap.objs.size+1) (.ins C s.heap.objs.size []))
 { s with heap:=(s.heap.push PySem.W.emptyDict).push (PySem.W.instObj C s.heap.objs.size) }:=by(
have e1:(s.heap.push PySem.W.emptyDict).get? s.heap.objs.size=some PySem.W.emptyDict:=mJ s.heap rfl
have e2:((s.heap.push PySem.W.emptyDict).push (PySem.W.instObj C s.heap.objs.size)).get? (s.heap.objs.size+1)=some (PySem.W.instObj C s.heap.objs.size):=by have:=mJ (s.heap.push PySem.W.emptyDict) (o:=PySem.W.instObj C s.heap.objs.size) rfl;rwa [pX]at this
have e3:(s.heap.push PySem.W.emptyDict).Ns s.heap.objs.size (λ_=>none):=⟨PySem.W.emptyDict,#[],_,e1,rfl,(λe he=>absurd he (by simp)),λ_=>rfl⟩
have I1:=I.laid (a:=s.heap.objs.size) (o:=.own (s.heap.objs.size+1)) (h':=s.heap.push PySem.W.emptyDict) (t':=s.toks) (λb u q=>kE _ q) (kN _) ⟨_,e1⟩
refine I1.laid (a:=s.heap.objs.size+1) (o:=.ins C s.heap.objs.size []) (t':=s.toks) (λb u q=>kE _ q) (cX (pX _ _)) ?_
have ne:s.heap.objs.size≠s.heap.objs.size+1:=mP (rG _)
refine⟨by rw[qC ne,qG],mU _,ne,e2,λ_=>none,(Heap.Ns1.of_empty e3).at λo q=>kE _ q,λ_=>True.intro,λy hy=>absurd rfl hy⟩)
theorem qFI{prog:Program}{w:World}{env:Env}{e:Expr}{f:Str}{pos:Pos}{s:Shared}{Q:Value→Shared→Prop}(hb:attributeBase e f env (eval e env)=eval e env)
 (h:wpAny (model prog w) A (eval e env) (λo s₁=>wpAny (model prog w) A (getAttr o f true) Q E s₁) E s):wpAny (model prog w) A (eval (.Attribute e f pos) env) Q E s:=Attribute_any_ h (by rw[arm_eval_Attribute,hb])
end
noncomputable def tFld(K:PySem.W.Frag)(ta:TE)(f:Str):TE:=λσ H Q=>ta σ H λx H1=>∃a C dx fs v,x=.ref a∧H1 a=some (.ins C dx fs)∧Cls K C∧qM K C f∧fs.lookup f=some v∧Q v H1
noncomputable def sFld(K:PySem.W.Frag)(ta tv:TE)(f:Str):TS:=λD σ H=>tv σ H λy H1=>ta σ H1 λx H2=>∃a C dx fs,x=.ref a∧H2 a=some (.ins C dx fs)∧Cls K C∧qM K C f∧fs.length<1000∧D.nx σ (upd H2 a (.ins C dx (putF f y fs)))
noncomputable def InOp(X:Cx)(op:Operator)(rd:V→V→Hp→VK→Prop):Prop:=∀(pins:List (Addr×Obj)) (s:Shared) (σ:St) (H:Hp) (x y:V) (u v:Value) (Q:VK),Inv X pins σ H s→RelV x u→RelV y v→rd x y H Q→wpAny (model X.prog X.w) X.A (inplaceOp op u v) (EP X pins σ Q) X.xe s
noncomputable def qFJ(K:PySem.W.Frag)(ta tv:TE)(rd:V→V→Hp→VK→Prop)(f:Str):TS:=λD σ H=>ta σ H λx H1=>∃a C dx fs v,x=.ref a∧H1 a=some (.ins C dx fs)∧Cls K C∧qM K C f∧fs.lookup f=some v∧tv σ H1 λy H2=>rd v y H2 λz H3=>∃dx' fs',H3 a=some (.ins C dx' fs')∧fs'.length<1000∧D.nx σ (upd H3 a (.ins C dx' (putF f z fs')))
section
variable{X:Cx}{o e value:Expr}{f:Str}{pos pos' tpos:Pos}{ta tv:TE}
theorem qJ(he:PE X e ta)(hb:attributeBase e f X.env (eval e X.env)=eval e X.env):PE X (.Attribute e f pos) (tFld X.K ta f):=by(
intro pins s σ H Q I h
refine qFI hb (thn (he pins s σ H _ I h) λu s1 hZ=>?_)
obtain⟨x,H1,I1,rx,a,C,dx,fs,v,ex,ea,c,n,l,q⟩:=hZ
subst ex
obtain rfl:u=Value.ref a:=rx
exact q5F I1 ea c n l λu' s2 I2 ru=>⟨v,H1,I2,ru,q⟩)
theorem jJ(ha:PE X o ta)(hv:PE X value tv)(hs:swapsWith value (some (.Attribute o f pos')) pos.line X.env=pure false):PS X (.Assign [.Attribute o f pos'] value pos) (sFld X.K ta tv f):=by(
intro pins s σ H D I h
refine plainObj_wpAny_Assign_Attribute (thn (hv pins s σ H _ I h) λu s1 ⟨y,H1,I1,ry,q⟩=>thn (ha pins s1 σ H1 _ I1 q) λov s2 hZ=>?_) hs
obtain⟨x,H2,I2,rx,a,C,dx,fs,ex,ea,c,n,l,q2⟩:=hZ
subst ex
obtain rfl:ov=Value.ref a:=rx
exact q5G I2 ea c n l ry λs3 I3=>⟨σ,_,I3,q2⟩)
theorem q78{op:Operator}{rd:V→V→Hp→VK→Prop}(ha:PE X o ta)(hv:PE X value tv)(hop:InOp X op rd):PS X (.AugAssign (.Attribute o f tpos) op value pos) (qFJ X.K ta tv rd f):=by(
intro pins s σ H D I h
refine wpAny_AugAssign_AttributeAny (thn (ha pins s σ H _ I h) λov s1 hZ=>?_)
obtain⟨x,H1,I1,rx,a,C,dx,fs,v,ex,ea,c,n,l,q⟩:=hZ
subst ex
obtain rfl:ov=Value.ref a:=rx
refine q5F I1 ea c n l λu s2 I2 ru=>thn (hv pins s2 σ H1 _ I2 q) λw3 s3 ⟨y,H2,I3,ry,q3⟩=>thn (hop pins s3 σ H2 v y u w3 _ I3 ru ry q3) λw4 s4 hZ=>?_
obtain⟨z,H3,I4,rz,dx',fs',ea',l',q4⟩:=hZ
exact q5G I4 ea' c n l' rz λs5 I5=>⟨σ,_,I5,q4⟩)
noncomputable def rAdd:V→V→Hp→VK→Prop:=λx y H Q=>∃i j,x=.int i∧y=.int j∧Q (.int (i+j)) H
noncomputable def rSub:V→V→Hp→VK→Prop:=λx y H Q=>∃i j,x=.int i∧y=.int j∧Q (.int (i-j)) H
theorem qI1:InOp X .Add rAdd:=by(
rintro pins s σ H x y u v Q I rx ry ⟨i,j,rfl,rfl,q⟩
obtain⟨t,rfl⟩:=(show ∃t,u=Value.int i t from rx)
obtain⟨t',rfl⟩:=(show ∃t',v=Value.int j t' from ry)
exact PyProof.Rows.iadd_int ⟨.int (i+j),H,I.tok _,⟨_,rfl⟩,q⟩)
theorem qI2:InOp X .Sub rSub:=by(
rintro pins s σ H x y u v Q I rx ry ⟨i,j,rfl,rfl,q⟩
obtain⟨t,rfl⟩:=(show ∃t,u=Value.int i t from rx)
obtain⟨t',rfl⟩:=(show ∃t',v=Value.int j t' from ry)
exact PyProof.Rows.isub_int ⟨.int (i-j),H,I.tok _,⟨_,rfl⟩,q⟩)
end
section
variable{X:Cx}{pins:List (Addr×Obj)}{σ:St}{H:Hp}{s:Shared}{A:Around}{E:Value→Shared→Prop}{Q:Value→Shared→Prop}{c:Value}{b:Bool}
inductive TyOf(K:PySem.W.Frag)(H:Hp):V→Value→Prop where
|non:TyOf K H .non (.type "NoneType")
|bl (x:Bool):TyOf K H (.bl x) (.type "bool")
|int (i:Int):TyOf K H (.int i) (.type "int")
|str (x:Str):TyOf K H (.str x) (.type "str")
|flt (x:UInt64):TyOf K H (.flt x) (.type "float")
|lst {a:Addr} {xs:List V} (e:H a=some (.lst xs)):TyOf K H (.ref a) (.type "list")
|frz {a:Addr} {o:Obj} {xs:List V} (e:H a=some (.frz o (.lst xs))):TyOf K H (.ref a) (.type "list")
|tup {a:Addr} {xs:List V} (e:H a=some (.tup xs)):TyOf K H (.ref a) (.type "tuple")
|dK {a:Addr} {kvs:List (Key×V)} (e:H a=some (.dK kvs)):TyOf K H (.ref a) (.type "dict")
|dT {a:Addr} {kvs:List (List Key×V)} (e:H a=some (.dT kvs)):TyOf K H (.ref a) (.type "dict")
|ins {a C dx:Addr} {fs:List (Str×V)} (e:H a=some (.ins C dx fs)) (cl:Cls K C) (ha:PySem.W.findIn K (.ref C) "__class__"=some (some (.builtin "object.__class__")))
 (hn:PySem.W.specialIn K (.builtin "object.__class__") "__get__"=some (some (.builtin "getset_descriptor.__get__"))) (htk:PySem.W.takesIn K (.builtin "object.__class__")=some true)
 (hm:PySem.W.mroIn K C (.type "object")=some true):TyOf K H (.ref a) (.ref C)
theorem qC7{x:V}{u t:Value}(I:Inv X pins σ H s)(rx:RelV x u)(ty:TyOf X.K H x t)(e:PySem.W.kitOne X.K t c=some b)(h:∀tk,Q (.bool b) { s with toks:=tk }):
 wpAny (model X.prog X.w) A (call (.builtin "isinstance") [u,c]) Q E s:=by(
cases ty with
|non=>cases(show u=Value.none from rx);exact gW PySem.W.kitx_none I.kIn True.intro e (λz=>nomatch z) h
|bl y=>cases(show u=Value.bool y from rx);exact gW PySem.W.kitx_bool I.kIn True.intro e (λz=>nomatch z) h
|int i=>obtain⟨t,q⟩:=(show ∃t,u=Value.int i t from rx);cases q;exact gW PySem.W.kitx_int I.kIn True.intro e (λz=>nomatch z) h
|str y=>obtain⟨t,q⟩:=(show ∃t,u=Value.str y t from rx);cases q;exact gW PySem.W.kitx_str I.kIn True.intro e (λz=>nomatch z) h
|flt y=>obtain⟨t,q⟩:=(show ∃t,u=Value.float y t from rx);cases q;exact gW PySem.W.kitx_float I.kIn True.intro e (λz=>nomatch z) h
|@lst a xs ea=>cases(show u=Value.ref a from rx);obtain⟨_,_,n,_,h1⟩:=(show jH X.prog X.w H s.heap a (.lst xs)from I.hok a _ ea);exact gW xB I.kIn ⟨_,h1,rfl⟩ e (λz=>nomatch z) h
|@frz a ob xs ea=>cases(show u=Value.ref a from rx);obtain⟨_,_,_,n,_,h1⟩:=(show jH X.prog X.w H s.heap a (.frz ob (.lst xs))from I.hok a _ ea);exact gW xB I.kIn ⟨_,h1,rfl⟩ e (λz=>nomatch z) h
|@tup a xs ea=>cases(show u=Value.ref a from rx);obtain⟨_,_,_,p⟩:=(show jH X.prog X.w H s.heap a (.tup xs)from I.hok a _ ea);obtain⟨o,h1,h2,_⟩:=p;exact gW PySem.W.kitx_tuple I.kIn ⟨o,h1,h2⟩ e (λz=>nomatch z) h
|@dK a kvs ea=>cases(show u=Value.ref a from rx);obtain⟨_,_,vs,_,p⟩:=(show jH X.prog X.w H s.heap a (.dK kvs)from I.hok a _ ea);obtain⟨o,es,ep,h1,h2,_⟩:=p;exact gW xC I.kIn ⟨o,h1,h2.1⟩ e (λz=>nomatch z) h
|@dT a kvs ea=>cases(show u=Value.ref a from rx);obtain⟨_,_,xs,_,o,es,ep,h1,h2,_⟩:=(show jH X.prog X.w H s.heap a (.dT kvs)from I.hok a _ ea);exact gW xC I.kIn ⟨o,h1,h2.1⟩ e (λz=>nomatch z) h
|@ins a C dx fs ea cl ha hn htk hm=>cases(show u=Value.ref a from rx);obtain⟨mA,O,_⟩:=q4X I.hok ea;obtain⟨od,J,_⟩:=O.look;exact gW (PySem.W.kitx_own (cl.get _) cl.hd ha hn htk hm) I.kIn J e (λz=>nomatch z) h)
end
structure Room(k:Nat)(A:Around):Prop where
hd:A.handled=none
dp:A.depth+3*k+5<recursionLimit
un:A.units+16*k+200<cLine
theorem Room.mono{j k:Nat}{A:Around}(r:Room k A)(h:j≤k):Room j A:=⟨r.hd,by have:=r.dp;lia,by have:=r.un;lia⟩
theorem Room.deeper{k:Nat}{A:Around}(r:Room (k+1) A)(env:Env):Room k (A.deeper env):=⟨r.hd,by have:=r.dp;show A.depth+1+3*k+5< _;lia,by have:=r.un;show A.units+3+16*k+200< _;lia⟩
theorem Room.in1{k:Nat}{A:Around}(r:Room (k+1) A):Room k A.in1:=⟨r.hd,by have:=r.dp;show A.depth+3*k+5< _;lia,by have:=r.un;show A.units+1+16*k+200< _;lia⟩
theorem qA3{A:Around}{C:Addr}{us:List Value}{kw:List (Str×Value)}:(A.under (.builtin "type.__call__" ⟨.ref C::us,kw⟩)).depth=A.depth+1:=by first|rfl|simp[Around.under,Code.weight,Code.isCreation,Code.isGuard,Code.isCaller,Code.frames,Code.isFrame,guardIds]
theorem qA4{A:Around}{C:Addr}{us:List Value}{kw:List (Str×Value)}:(A.under (.builtin "type.__call__" ⟨.ref C::us,kw⟩)).units=A.units+1:=by first|rfl|simp[Around.under,Code.cUnits,Code.frames,Code.isFrame]
theorem Room.make{k:Nat}{A:Around}(r:Room (k+1) A)(C:Addr)(us:List Value)(kw:List (Str×Value)):Room k (A.under (.builtin "type.__call__" ⟨.ref C::us,kw⟩)):=⟨r.hd,by have:=r.dp;rw[qA3];lia,by have:=r.un;rw[qA4];lia⟩
theorem Room.depth{k:Nat}{A:Around}(r:Room k A):A.depth<recursionLimit:=by have:=r.dp;lia
theorem Room.units{k:Nat}{A:Around}(r:Room k A):A.units+64<cLine:=by have:=r.un;lia
noncomputable def tNil:TA:=λ_ H Q=>Q [] H
noncomputable def q8X(ta:TE)(tr:TA):TA:=λσ H Q=>ta σ H λx H1=>tr σ H1 λxs H2=>Q (x::xs) H2
section
variable{X:Cx}{e:Expr}{es:List Expr}{te:TE}{t:TA}{pos:Pos}
theorem qF:PA X [] tNil:=λ_ _ _ _ H Q I h=>sE ⟨[],H,I,.nil,h⟩
theorem qA(ha:PE X e te)(hr:PA X es t)(hs:starEach (e::es) X.env=(false,eval e X.env)::starEach es X.env:=by rfl):PA X (e::es) (q8X te t):=by(
intro pos pins s σ H Q I h
rw[hs]
show wpAny _ _ (spliced ((false,eval e X.env)::backTo pos (starEach es X.env))) _ _ s
refine cP (thn (ha pins s σ H _ I h) λu s1 hZ=>?_)
obtain⟨x,H1,I1,r1,q1⟩:=hZ
exact thn (hr pos pins s1 σ H1 _ I1 q1) λus s2 ⟨xs,H2,I2,r2,q2⟩=>⟨x::xs,H2,I2,.cons r1 r2,q2⟩)
end
noncomputable abbrev Sp:=List V→Hp→VK→XK→Prop
noncomputable abbrev CXT:=List Env→Hp→Shared→XK→Value→Shared→Prop
structure Env0(P:Program)(w:World)(K:PySem.W.Frag)(mg:Str→Option Value)(base:Heap)(A:Around)(outer:List Env)(s:Shared)(H:Hp):Prop where
frames:A.frames=some outer
mod:Mod K mg base
bs:∀b o,base.get? b=some o→s.heap.get? b=some o∧H b=none
bsz:base.objs.size≤s.heap.objs.size
funs:s.heap.FunFrames base outer
frf:∀b∈frs outer,H b=none
hok:HOk P w H s.heap
bare:AllBare s.gens
noncomputable def CE(outer:List Env)(P:Program)(w:World)(H:Hp)(s:Shared)(Q:VK)(u:Value)(s':Shared):Prop:=∃v H',s'.os=s.os∧AllBare s'.gens∧Un (frs outer) [] H H' s.heap s'.heap∧HOk P w H' s'.heap∧RelV v u∧Q v H'
noncomputable def CR(CX:CXT)(outer:List Env)(P:Program)(w:World)(H:Hp)(s:Shared)(Q:VK)(E:XK)(r:Result)(s':Shared):Prop:=match r with
| .ok (.ret u)=>CE outer P w H s Q u s'
| .ok _=>False
| .error e=>CX outer H s E e s'
structure FnOk(P:Program)(w:World)(K:PySem.W.Frag)(mg:Str→Option Value)(base:Heap)(CX:CXT)(k:Nat)(f:Addr)(fd:FuncData)(ps:List Str)(sp:Sp):Prop where
len:∀vs H Q E,sp vs H Q E→vs.length=ps.length
run:∀(A:Around) (outer:List Env) (s:Shared) (H:Hp) (args:Args) (us:List Value) (vs:List V) (Q:VK) (E:XK),Room k A→Env0 P w K mg base A outer s H→BindsTo s fd args (ps.zip us)→Vals vs us→sp vs H Q E→codeAny (model P w) A (.call (.ref f) args) (CR CX outer P w H s Q E) s
theorem FnOk.mono{P:Program}{w:World}{K:PySem.W.Frag}{mg:Str→Option Value}{base:Heap}{CX:CXT}{j k:Nat}{f:Addr}{fd:FuncData}{ps:List Str}{sp:Sp}(F:FnOk P w K mg base CX j f fd ps sp)(h:j≤k:=by decide):
 FnOk P w K mg base CX k f fd ps sp:=⟨F.len,λA outer s H args us vs Q E hr=>F.run A outer s H args us vs Q E (hr.mono h)⟩
theorem Env0.make{P:Program}{w:World}{K:PySem.W.Frag}{mg:Str→Option Value}{base:Heap}{A:Around}{outer:List Env}{s:Shared}{H:Hp}(e:Env0 P w K mg base A outer s H)(C:Addr)(us:List Value)(kw:List (Str×Value)):
 Env0 P w K mg base (A.under (.builtin "type.__call__" ⟨.ref C::us,kw⟩)) outer s H:=⟨by first|exact e.frames|(simpa[Around.under,Code.envs,Code.isFrame,pushEnvs]using e.frames),e.mod,e.bs,e.bsz,e.funs,e.frf,e.hok,e.bare⟩
section
variable{X:Cx}{pins:List (Addr×Obj)}{σ:St}{H:Hp}{s s':Shared}
theorem Inv.env0(I:Inv X pins σ H s):Env0 X.prog X.w X.K X.mg X.base X.A X.stack s H:=⟨I.ok.frames,I.ok.mod,I.bs,mF I.ok.bsz I.sz,I.stack,I.stkFree,I.hok,I.bare⟩
theorem Inv.after{Q:VK}{u:Value}(I:Inv X pins σ H s)(h:CE X.stack X.prog X.w H s Q u s'):EP X pins σ Q u s':=by(
obtain⟨v,H',os,bare,un,hok,r,q⟩:=h
obtain⟨hh,g,d,t,os'⟩:=s'
obtain rfl:os'=s.os:=os
exact⟨v,H',I.call (h':=hh) (g':=g) (d':=d) (t':=t) (ch:=[]) un hok bare (λb z=>absurd z (by simp)),r,q⟩)
end
noncomputable def qHD(sp:Sp)(dvs:List V)(E:XK)(t:TA):TE:=λσ H Q=>t σ H λvs H1=>sp (vs++dvs) H1 Q E
noncomputable def qHE(C:Addr)(m:Str)(sp:Sp)(dvs:List V)(E:XK)(ta:TE)(t:TA):TE:=λσ H Q=>ta σ H λx H1=>∃a dx fs,x=.ref a∧H1 a=some (.ins C dx fs)∧fs.lookup m=none∧t σ H1 λvs H2=>sp (x::(vs++dvs)) H2 Q E
noncomputable def qK4(C:Addr)(sp:Sp)(dvs:List V)(E:XK)(t:TA):TE:=λσ H Q=>t σ H λvs H1=>∀x dx,H1 x=none→H1 dx=none→dx≠x→sp (.ref x::(vs++dvs)) (upd (upd H1 dx (.own x)) x (.ins C dx [])) (λv H2=>v=.non∧Q (.ref x) H2) E
noncomputable def jL(K:PySem.W.Frag)(fd:FuncData)(ps:List Str)(ds:List Value):Prop:=∀(s:Shared) (us:List Value),K.In s.heap→(us++ds).length=ps.length→BindsTo s fd ⟨us,[]⟩ (ps.zip (us++ds))
theorem jL.all{K:PySem.W.Frag}{fd:FuncData}{ps:List Str}(h:∀us:List Value,us.length=ps.length→bindArgs fd ⟨us,[]⟩=pure (ps.zip us)):jL K fd ps []:=λs us _ hl=>by rw[g5]at hl ⊢;exact .of_eq (h us hl)
noncomputable def q0M(CX:CXT)(X:Cx)(E:XK):Prop:=∀(pins:List (Addr×Obj)) (σ:St) (H:Hp) (s:Shared) (e:Value) (s':Shared),Inv X pins σ H s→CX X.stack H s E e s'→X.xe e s'
section
variable{X:Cx}{CX:CXT}{k:Nat}{f C:Addr}{fd:FuncData}{ps:List Str}{sp:Sp}{dvs:List V}{ds:List Value}{E:XK}{x m:Str}{p pos apos:Pos}{e o:Expr}{es:List Expr}{ta:TE}{t:TA}
theorem q7V{pins:List (Addr×Obj)}{σ:St}{H:Hp}{s:Shared}{Q:VK}{us:List Value}{vs:List V}(F:FnOk X.prog X.w X.K X.mg X.base CX k f fd ps sp)(hr:Room k X.A)(hb:jL X.K fd ps ds)(hd:Vals dvs ds)(hx:q0M CX X E)
 (I:Inv X pins σ H s) (r:Vals vs us) (h:sp (vs++dvs) H Q E):wpAny (model X.prog X.w) X.A (call (.ref f) us) (EP X pins σ Q) X.xe s:=by(
have r2:Vals (vs++dvs) (us++ds):=r.append hd
have hl:(us++ds).length=ps.length:=by rw[←r2.length];exact F.len _ _ _ _ h
refine cQ (cY (F.run X.A X.stack s H ⟨us,[]⟩ (us++ds) (vs++dvs) Q E hr I.env0 (hb s us I.kIn hl) r2 h) λr s' hq=>?_)
cases r with
|error e=>exact hx pins σ H s e s' I hq
|ok fl=>
 cases fl with
 |ret u=>exact I.after hq
 |next=>exact False.elim hq
 |brk=>exact False.elim hq
 |cont=>exact False.elim hq)
theorem qX(F:FnOk X.prog X.w X.K X.mg X.base CX k f fd ps sp)(hr:Room k X.A)(hg:Gl X x)(hm:X.mg x=some (.ref f))(hk:PySem.W.keepIn X.K (.ref f)=true)(hb:jL X.K fd ps ds)(hd:Vals dvs ds)(hx:q0M CX X E)
 (ha:PA X (e::es) t) (hdb:(x==("__debug__":Str))=false:=by decide) (he:starEach (e::es) X.env=(false,eval e X.env)::starEach es X.env:=by rfl) (hpl:(backTo pos (starEach es X.env)).any (·.1)=false:=by rfl):
 PE X (.Call (.Name x p) (e::es) [] pos) (qHD sp dvs E t):=by(
intro pins s σ H Q I h
refine g9 (q26 I hg hm ?_ hdb)
refine wJ (h₀:=X.base) I.ok.mod.kin hk (thn (ha pos pins s σ H _ I h) λus s1 ⟨vs,H1,I1,r,q⟩=>⟨I1.kIn,?_⟩) he hpl
exact q7V F hr hb hd hx I1 r q)
theorem qV{pl:Sem Bool}(he:PE X o ta)(c:Cls X.K C)(hm:Meth X.K C m f)(F:FnOk X.prog X.w X.K X.mg X.base CX k f fd ps sp)(hr:Room k X.A)(hb:jL X.K fd ps ds)(hd:Vals dvs ds)(hx:q0M CX X E)(ha:PA X (e::es) t)
 (hst:starEach (e::es) X.env=(false,eval e X.env)::starEach es X.env:=by rfl) (hpl:(backTo pos (starEach es X.env)).any (·.1)=false:=by rfl)
 (ht:eval (.Call (.Attribute o m apos) (e::es) [] pos) X.env=(do
  let ov←eval o X.env
  standAt apos.atName
  let(f,first)←holding [ov] (getMethod ov m pl)
  callWith pos f first (backTo pos (starEach (e::es) X.env)) (backToKw pos (keywordEach [] X.env))):=by rfl):
 PE X (.Call (.Attribute o m apos) (e::es) [] pos) (qHE C m sp dvs E ta t):=by(
intro pins s σ H Q I h
refine rL (pl:=pl) (thn (he pins s σ H _ I h) λu s1 hZ=>?_) ht
obtain⟨x,H1,I1,rx,a,dx,fs,ex,ea,l,q⟩:=hZ
subst ex
obtain rfl:u=Value.ref a:=rx
refine q0L I1 ea c hm l ?_
refine wJ (first:=[.ref a]) (h₀:=X.base) I.ok.mod.kin hm.kp (thn (ha pos pins s1 σ H1 _ I1 q) λus s2 ⟨vs,H2,I2,r,q2⟩=>⟨I2.kIn,?_⟩) hst hpl
exact q7V (us:=.ref a::us) (vs:=.ref a::vs) F hr hb hd hx I2 (.cons rfl r) q2)
theorem qU{pl:Sem Bool}(he:PE X o ta)(c:Cls X.K C)(hm:Meth X.K C m f)(F:FnOk X.prog X.w X.K X.mg X.base CX k f fd ps sp)(hr:Room k X.A)(hb:jL X.K fd ps ds)(hd:Vals dvs ds)(hx:q0M CX X E)
 (ht:eval (.Call (.Attribute o m apos) [] [] pos) X.env=(do
  let ov←eval o X.env
  standAt apos.atName
  let(f,first)←holding [ov] (getMethod ov m pl)
  callWith pos f first (backTo pos (starEach [] X.env)) (backToKw pos (keywordEach [] X.env))):=by rfl):
 PE X (.Call (.Attribute o m apos) [] [] pos) (qHE C m sp dvs E ta tNil):=by(
intro pins s σ H Q I h
refine rL (pl:=pl) (thn (he pins s σ H _ I h) λu s1 hZ=>?_) ht
obtain⟨x,H1,I1,rx,a,dx,fs,ex,ea,l,q⟩:=hZ
subst ex
obtain rfl:u=Value.ref a:=rx
refine q0L I1 ea c hm l ?_
exact pQ (first:=[.ref a]) I1.kIn hm.kp (q7V (us:=[.ref a]) (vs:=[.ref a]) F hr hb hd hx I1 (.cons rfl .nil) q))
structure Mk(K:PySem.W.Frag)(C f:Addr):Prop where
makes:PySem.W.makesIn K C=true
init:PySem.W.findIn K (.ref C) "__init__"=some (some (.ref f))
fn:PySem.W.isFn K (.ref f)=true
kp:PySem.W.keepIn K (.ref C)=true
theorem qD8{pins:List (Addr×Obj)}{σ:St}{H:Hp}{s:Shared}{Q:VK}{us:List Value}{vs:List V}(M:Mk X.K C f)(F:FnOk X.prog X.w X.K X.mg X.base CX k f fd ps sp)(hr:Room (k+1) X.A)(hb:jL X.K fd ps ds)(hd:Vals dvs ds)
 (hx:q0M CX X E) (I:Inv X pins σ H s) (r:Vals vs us)
 (h:∀x dx,H x=none→H dx=none→dx≠x→sp (.ref x::(vs++dvs)) (upd (upd H dx (.own x)) x (.ins C dx [])) (λv H2=>v=.non∧Q (.ref x) H2) E):
 wpAny (model X.prog X.w) X.A (call (.ref C) us) (EP X pins σ Q) X.xe s:=by(
have hq:=h (s.heap.objs.size+1) s.heap.objs.size (I.hok.fresh (dD _)) (I.hok.fresh (kN _)) (mP (rG _))
have I2:=Inv.made (C:=C) I
have r2:Vals (V.ref (s.heap.objs.size+1)::(vs++dvs)) (Value.ref (s.heap.objs.size+1)::(us++ds)):=.cons rfl (r.append hd)
have hl:(Value.ref (s.heap.objs.size+1)::us++ds).length=ps.length:=by have e:=r2.length;rw[F.len _ _ _ _ hq]at e;exact e.symm
refine cQ (qD7 (f:=f) I.kIn M.makes M.init (rW.mp M.fn) (cY (F.run _ X.stack _ _ ⟨Value.ref (s.heap.objs.size+1)::us,[]⟩ (Value.ref (s.heap.objs.size+1)::(us++ds)) _ _ E (hr.make C us [])
 (I2.env0.make C us []) (hb _ (Value.ref (s.heap.objs.size+1)::us) I2.kIn hl) r2 hq) λr s' hq'=>?_))
cases r with
|error e=>exact hx pins σ _ _ e s' I2 hq'
|ok fl=>
 cases fl with
 |ret u=>obtain⟨v,H',I3,rv,ev,q3⟩:=I2.after hq';subst ev;exact⟨rv,⟨V.ref (s.heap.objs.size+1),H',I3,rfl,q3⟩⟩
 |next=>exact False.elim hq'
 |brk=>exact False.elim hq'
 |cont=>exact False.elim hq')
theorem q28(M:Mk X.K C f)(F:FnOk X.prog X.w X.K X.mg X.base CX k f fd ps sp)(hr:Room (k+1) X.A)(hg:Gl X x)(hm:X.mg x=some (.ref C))(hb:jL X.K fd ps ds)(hd:Vals dvs ds)(hx:q0M CX X E)
 (ha:PA X (e::es) t) (hdb:(x==("__debug__":Str))=false:=by decide) (he:starEach (e::es) X.env=(false,eval e X.env)::starEach es X.env:=by rfl) (hpl:(backTo pos (starEach es X.env)).any (·.1)=false:=by rfl):
 PE X (.Call (.Name x p) (e::es) [] pos) (qK4 C sp dvs E t):=by(
intro pins s σ H Q I h
refine g9 (q26 I hg hm ?_ hdb)
refine wJ (h₀:=X.base) I.ok.mod.kin M.kp (thn (ha pos pins s σ H _ I h) λus s1 ⟨vs,H1,I1,r,q⟩=>⟨I1.kIn,?_⟩) he hpl
exact qD8 M F hr hb hd hx I1 r q)
end
noncomputable def PK(X:Cx)(kws:List Keyword)(t:TA):Prop:=∀(pos:Pos) (pins:List (Addr×Obj)) (s:Shared) (σ:St) (H:Hp) (Q:List V→Hp→Prop),Inv X pins σ H s→t σ H Q→wpAny (model X.prog X.w) X.A (evalAll ((backToKw pos (keywordEach kws X.env)).map (·.2))) (AP X pins σ Q) X.xe s
section
variable{X:Cx}{CX:CXT}{k:Nat}{f C:Addr}{fd:FuncData}{ps ks:List Str}{sp:Sp}{E:XK}{x m:Str}{p pos apos kpos:Pos}{e o:Expr}{es:List Expr}{kws:List Keyword}{te ta:TE}{t tk:TA}{nm:Option Str}
theorem qA5:PK X [] tNil:=λ_ _ _ _ H Q I h=>wpAny_evalAll_nil ⟨[],H,I,.nil,h⟩
theorem q7W(ha:PE X e te)(hr:PK X kws t):PK X (⟨nm,e,kpos⟩::kws) (q8X te t):=by(
intro pos pins s σ H Q I h
show wpAny _ _ (evalAll ((do let v←eval e X.env;standAt pos;pure v)::(backToKw pos (keywordEach kws X.env)).map (·.2))) _ _ s
refine wpAny_evalAll_cons (hV (thn (ha pins s σ H _ I h) λu s1 ⟨x,H1,I1,r1,q1⟩=>hV (pH (kY ?_))))
exact thn (hr pos pins s1 σ H1 _ I1 q1) λus s2 ⟨xs,H2,I2,r2,q2⟩=>⟨x::xs,H2,I2,.cons r1 r2,q2⟩)
variable{g:List Value→List Value→List Value}{gV:List V→List V→List V}
end
structure FnScope(N P:List Str)(sc:Scope):Prop where
kind:sc.kind=.function
co:sc.isCoroutine=false
gen:sc.isGenerator=false
nd:N.Nodup
pre:N.take P.length=P
par:∀x∈P,sc.names.lookup x=some .local∨sc.names.lookup x=some .cell
nofree:∀y∈sc.names,y.2≠ .free
theorem q79{kindOf:Str→Option NameKind}{x:Str}:∀{binds:List (Str×Value)} {m:Str→Option Value},(∀v,(x,v)∉binds)→bindL kindOf binds m x=m x
| [],_,_=>rfl
|(n,v)::r,m,h=>by
 unfold bindL;rw[q79 λw hw=>h w (hU _ hw)];split
 ·have:x≠n:=by rintro rfl;exact h v kX
  simp[this]
 rfl
theorem q7A{kindOf:Str→Option NameKind}{x:Str}:∀{binds:List (Str×Value)} {m:Str→Option Value},(∀v,(x,v)∉binds)→bindC kindOf binds m x=m x
| [],_,_=>rfl
|(n,v)::r,m,h=>by
 unfold bindC;rw[q7A λw hw=>h w (hU _ hw)];split
 ·rfl
 have:x≠n:=by rintro rfl;exact h v kX
 simp[this]
theorem q7B{kindOf:Str→Option NameKind}{x:Str}{v:Value}:∀{P:List Str} {vs:List Value} {i:Nat} {m:Str→Option Value},P.Nodup→P[i]?=some x→vs[i]?=some v→kindOf x=some .local→bindL kindOf (P.zip vs) m x=some v
| [],_,_,_,_,h,_,_=>by simp at h
|_::_,[],_,_,_,_,h,_=>by simp at h
|p::P,w::vs,0,m,nd,h1,h2,hk=>by simp at h1 h2;subst h1;subst h2;show bindL kindOf ((p,w)::P.zip vs) m p=_;unfold bindL;rw[q79 λv hv=>(gA.mp nd).1 (pN hv).1,kJ hk];simp
|p::P,w::vs,i+1,m,nd,h1,h2,hk=>by show bindL kindOf ((p,w)::P.zip vs) m x=_;unfold bindL;exact q7B (i:=i) (gA.mp nd).2 (by simpa using h1) (by simpa using h2) hk
theorem q7C{kindOf:Str→Option NameKind}{x:Str}{v:Value}:∀{P:List Str} {vs:List Value} {i:Nat} {m:Str→Option Value},P.Nodup→P[i]?=some x→vs[i]?=some v→kindOf x≠some .local→bindC kindOf (P.zip vs) m x=some v
| [],_,_,_,_,h,_,_=>by simp at h
|_::_,[],_,_,_,_,h,_=>by simp at h
|p::P,w::vs,0,m,nd,h1,h2,hk=>by simp at h1 h2;subst h1;subst h2;show bindC kindOf ((p,w)::P.zip vs) m p=_;unfold bindC;rw[q7A λv hv=>(gA.mp nd).1 (pN hv).1,kF hk];simp
|p::P,w::vs,i+1,m,nd,h1,h2,hk=>by show bindC kindOf ((p,w)::P.zip vs) m x=_;unfold bindC;exact q7C (i:=i) (gA.mp nd).2 (by simpa using h1) (by simpa using h2) hk
noncomputable def zF(N:List Str)(vs:List V):St:=vs.map some++List.replicate (N.length-vs.length) none
noncomputable def cxOf(CX:CXT)(P:Program)(w:World)(K:PySem.W.Frag)(mg:Str→Option Value)(base:Heap)(N:List Str)(qual:Str)(scope:Scope)(f:Addr)(cd:Value)(A:Around)(outer:List Env)(s:Shared)(H:Hp)(E:XK):Cx where
prog:=P
w:=w
K:=K
mg:=mg
base:=base
A:=A.deeper (envOfC qual scope s.heap.objs.size f cd)
N:=N
s₀:=s
H₀:=H
env:=envOfC qual scope s.heap.objs.size f cd
outer:=outer
stack:=envOfC qual scope s.heap.objs.size f cd::outer
ex:=[]
calm:=true
fn:=λ_=>true
pn:=[]
xe:=λe s'=>wpAny (model P w) (A.deeper (envOfC qual scope s.heap.objs.size f cd)) (leaving (envOfC qual scope s.heap.objs.size f cd) e) (λ_ s''=>CX outer H s E e s'') (λe' s''=>CX outer H s E e' s'') s'
theorem q8Y{sc:Scope}{n:Nat}{x:Str}(h:sc.names.lookup x=some .cell):∃c,(cellsFrom n sc.names []).lookup x=some c:=by have q:=cZ sc.names n [] (.inl h);exact cK.mp q
theorem q7D{CX:CXT}{P:Program}{w:World}{K:PySem.W.Frag}{mg:Str→Option Value}{base:Heap}{N ps:List Str}{qual:Str}{scope:Scope}{f:Addr}{cd:Value}{A:Around}{outer:List Env}{s s1:Shared}{H:Hp}{E:XK}{us:List Value}{vs:List V}
 (S:FnScope N ps scope) (hd:A.handled=none) (e0:Env0 P w K mg base A outer s H) (hl:vs.length=ps.length) (r:Vals vs us)
 (x:InCallC s s.heap.objs.size (bindL (envOfC qual scope s.heap.objs.size f cd).kindOf (ps.zip us) λ_=>none) (cellsFrom (s.heap.objs.size+1) scope.names []) (bindC (envOfC qual scope s.heap.objs.size f cd).kindOf (ps.zip us) λ_=>none) s1):
 Inv (cxOf CX P w K mg base N qual scope f cd A outer s H E) [] (zF N vs) H s1:=by(
have hpl:ps.length≤N.length:=by have:=gZ List.length S.pre;rw[gX]at this;lia
obtain⟨h1,tk,rfl,hk⟩:=x.done
have noA:∀b:Addr,b∉(cxOf CX P w K mg base N qual scope f cd A outer s H E).ex:=λb z=>absurd (show b∈([]:List Addr)from z) (by simp)
refine⟨⟨e0.mod,S.kind,rfl,rfl,kN _,λy z c h1 h2=>?_,λy hy=>?_,λy c _ h=>?_,λ_=>hd,n9 e0.frames,.inr ⟨rfl,rfl⟩,λb z=>absurd z (noA b),e0.bs,e0.bsz,λb _ _=>noA b,λb z=>absurd z (noA b),e0.funs,e0.frf⟩,rfl,e0.bare,Un.kept hk,⟨_,x.toInCall.ns,λi y v h1 h2 h3=>?_⟩,λy c h=>⟨_,x.cell y c h⟩,e0.hok.fresh (kN _),λy c h=>?_,λp hp=>absurd (show p∈([]:List (Addr×Obj))from hp) (by simp),e0.hok.kept hk,?_⟩
·exact name_of_addr x.apart (gQ h1) (gQ h2)
·have hy:scope.names.lookup y=some .cell∨scope.names.lookup y=some .free:=hy;rcases hy with hy|hy
 ·exact q8Y hy
 exact absurd rfl (S.nofree _ (gQ hy))
·exact pT (x.above y c (gQ h))
·have hi:i<vs.length:=by
  unfold zF at h2;by_cases hi:i<vs.length
  ·exact hi
  rw[dH (by simpa using hi)]at h2;rw[wC]at h2;split at h2<;>cases h2
 have ha:vs[i]?=some v:=by
  unfold zF at h2;rw[rO (by simpa using hi),mB]at h2;cases e:vs[i]? with
  |none=>rw[e]at h2;cases h2
  |some a=>rw[e]at h2;cases h2;rfl
 obtain⟨u,hu,rv⟩:=r.get ha;have hp:ps[i]?=some y:=by rw[←S.pre,List.getElem?_take_of_lt (by lia)];exact h1
 have ndP:ps.Nodup:=by rw[←S.pre];exact S.nd.sublist (List.take_sublist _ _)
 refine⟨u,rv,?_⟩;rcases S.par y (gH hp)with k|k
 ·exact .inl ⟨k,q7B ndP hp hu k⟩
 obtain⟨c,e⟩:=q8Y (n:=s.heap.objs.size+1) k;refine .inr ⟨.inl k,c,e,?_⟩;have q:=x.cell y c e;rw[q7C ndP hp hu (by show scope.names.lookup y≠_;rw[k];decide)]at q;exact q
·exact e0.hok.fresh (pT (x.above y c (gQ h)))
unfold zF
show _=N.length
rw[mH,kB,gN]
lia)
theorem qB3{CX:CXT}{P:Program}{w:World}{K:PySem.W.Frag}{mg:Str→Option Value}{base:Heap}{k:Nat}{f:Addr}{name qual:Str}{params:Arguments}{body:List Stmt}{scope:Scope}{dV kV doc pm cdv ct oc:Value}{an od:Option Addr}
 {osl:Array (Option Value)} {N ps:List Str} {sp:Sp} (lk:K.lookup f=some ⟨oc,od,.func (PySem.W.fnOf name qual params body scope dV kV doc pm an cdv ct),osl⟩) (hcd:PySem.W.codeIn K cdv qual=true) (S:FnScope N ps scope)
 (len:∀vs H Q E,sp vs H Q E→vs.length=ps.length)
 (hbody:∀(A:Around) (outer:List Env) (s:Shared) (H:Hp) (vs:List V) (Q:VK) (E:XK),Room k (A.deeper (envOfC qual scope s.heap.objs.size f cdv))→sp vs H Q E→∃t,PSs (cxOf CX P w K mg base N qual scope f cdv A outer s H E) body t∧t { nx:=λ_ H'=>Q .non H',rt:=Q } (zF N vs) H):
 FnOk P w K mg base CX (k+1) f (PySem.W.fnOf name qual params body scope dV kV doc pm an cdv ct) ps sp:=by(
refine⟨len,λA outer s H args us vs Q E hr e0 hb r hsp=>?_⟩
have hl:=len _ _ _ _ hsp
have KX:K.In s.heap:=e0.mod.kin.keeps λb o e=>(e0.bs b o e).1
have lim:s.heap.NoLimit:=e0.mod.nolimit.keeps λb o e=>(e0.bs b o e).1
have hkind:∀y∈ps.zip us,scope.names.lookup y.1=some .local∨(scope.names.lookup y.1=some .cell∧((cellsFrom (s.heap.objs.size+1) scope.names []).lookup y.1).isSome=true):=λ⟨n,v⟩ hy=>by
 rcases S.par n (pN hy).1 with q|q
 ·exact .inl q
 exact .inr ⟨q,cZ _ _ _ (.inl q)⟩
refine codeAny_call_function hr.depth (KX _ _ lk) rfl S.co S.gen rfl (PySem.W.codeRec_of KX hcd) (hb _ _ _ _ ?_)
refine pZ S.kind hkind λenv he s1 x=>?_
subst he
refine⟨lim.keeps x.toInCall.keep,codeAny_func ?_⟩
obtain⟨t,ht,hq⟩:=hbody A outer s H vs Q E (hr.deeper _) hsp
have I:Inv (cxOf CX P w K mg base N qual scope f cdv A outer s H E) [] (zF N vs) H s1:=q7D S hr.hd e0 hl r x
refine g8 (ht [] s1 (zF N vs) H _ I hq) (λfl s' hs=>?_) λe s' hs=>hs
have fin:∀{σ':St} {H':Hp} {v:V} {u:Value},Inv (cxOf CX P w K mg base N qual scope f cdv A outer s H E) [] σ' H' s'→RelV v u→Q v H'→CE outer P w H s Q u s':=fun {σ' H' v u} J rv q=>⟨v,H',J.os,J.bare,J.base,J.hok,rv,q⟩
cases fl with
|ret u=>obtain⟨v,σ',H',J,rv,q⟩:=hs;exact fin J rv q
|next=>obtain⟨σ',H',J,q⟩:=hs;exact fin (v:=V.non) (u:=Value.none) J rfl q
|brk=>obtain⟨_,_,_,q⟩:=hs;exact False.elim q
|cont=>obtain⟨_,_,_,q⟩:=hs;exact False.elim q)
section
variable{X:Cx}{x:Str}{p pos:Pos}{e:Expr}{es:List Expr}{t:TA}{id T:String}{r:List V→Hp→VK→Prop}
noncomputable def tCB(r:List V→Hp→VK→Prop)(t:TA):TE:=λσ H Q=>t σ H λvs H1=>r vs H1 Q
theorem jT(hc:q1A X (.builtin id) r)(hg:Gl X x)(hm:X.mg x=none)(hv:bootBuiltins x=some (.builtin id))(ha:PA X (e::es) t)(hn:x≠"__name__":=by decide)(hdb:(x==("__debug__":Str))=false:=by decide)
 (he:starEach (e::es) X.env=(false,eval e X.env)::starEach es X.env:=by rfl) (hpl:(backTo pos (starEach es X.env)).any (·.1)=false:=by rfl):PE X (.Call (.Name x p) (e::es) [] pos) (tCB r t):=by intro pins s σ H Q I h;refine g9 (q0K I hg hm hv ?_ hn hdb);exact PyProof.Rows.callWith_builtin1 (thn (ha pos pins s σ H _ I h) λus s1 ⟨vs,H1,I1,r1,q1⟩=>hc pins s1 σ H1 vs us Q I1 r1 q1) he hpl
theorem q3W(hc:q1A X (.type T) r)(hg:Gl X x)(hm:X.mg x=none)(hv:bootBuiltins x=some (.type T))(ha:PA X (e::es) t)(hn:x≠"__name__":=by decide)(hdb:(x==("__debug__":Str))=false:=by decide)
 (he:starEach (e::es) X.env=(false,eval e X.env)::starEach es X.env:=by rfl) (hpl:(backTo pos (starEach es X.env)).any (·.1)=false:=by rfl):PE X (.Call (.Name x p) (e::es) [] pos) (tCB r t):=by intro pins s σ H Q I h;refine g9 (q0K I hg hm hv ?_ hn hdb);exact rD (thn (ha pos pins s σ H _ I h) λus s1 ⟨vs,H1,I1,r1,q1⟩=>hc pins s1 σ H1 vs us Q I1 r1 q1) he hpl
end
end L2
namespace HT
open PySem PyProof.Rows
noncomputable def lexLt:List Int→List Int→Bool
| [],[]=>false
| [],_::_=>true
|_::_,[]=>false
|x::xs,y::ys=>if x=y then lexLt xs ys else decide (x<y)
theorem qA6(x y:Int)(xs ys:List Int):lexLt (x::xs) (y::ys)=if x=y then lexLt xs ys else decide (x<y):=rfl
theorem q6N:lexLt [] []=false:=rfl
theorem q5H(y:Int)(ys:List Int):lexLt [] (y::ys)=true:=rfl
theorem q5I(x:Int)(xs:List Int):lexLt (x::xs) []=false:=rfl
theorem qD9(A:Around)(s:Shared)(a:Int)(t:Tok)(c:Int)(u:Tok):∃e,SeqAt.EqAt A s (.int a t) (.int c u) e∧(e=true↔a=c):=⟨(a==c),p6 a t c u,by simp⟩
theorem qDA(A:Around)(s:Shared)(a:Int)(t:Tok)(c:Int)(u:Tok)(prog:Program)(w:World)(E:Value→Shared→Prop)(Q:Value→Shared→Prop)(h:Q (.bool (decide (a<c))) s):
 wpAny (model prog w) A (richCompare .Lt (.int a t) (.int c u)) Q E s:=(PyProof.Rows.lt_int h:wpAny (model prog w) A (compareOp .Lt (.int a t) (.int c u)) Q E s)
section
open PySem.SeqAt
open PySem.AutoSeq1 (wpAny_loadPart')
open PySem.MeetsSeq PySem.MeetsSeq2 PySem.MeetsSeq3
theorem q6O(l b:Addr)(items items2:Array Value)(n n2:Nat)(dd dd2:Option Addr)(sl sl2:Array (Option Value))(ns ms:List Int)(hi:IntsAre items.toList ns)(hj:IntsAre items2.toList ms):
 Meets (Builtin.«tuple.__lt__» ⟨[.ref l,.ref b],[]⟩)
  (λ_ R s=>s.heap.get? l=some { cls:=.type "tuple",dict:=dd,data:=.seq items n,slots:=sl }∧s.heap.get? b=some { cls:=.type "tuple",dict:=dd2,data:=.seq items2 n2,slots:=sl2 }∧R (.ok (.ret (.bool (lexLt ns ms)))) s):=.of_wp λprog w A R s h=>by(
 obtain⟨hp,g,d,tk,os⟩:=s;obtain⟨hl,hb,h⟩:=h;have f2:=AutoSeq1.sub_tuple_tuple;have z1:items.size=ns.length:=by rw[←hi.length];simp
 have z2:items2.size=ms.length:=by rw[←hj.length];simp
 wp_walk using nL hl,nL hb,wpAny_forIn_list _ (λrest b s'=>b.1=none∧s'=⟨hp,g,d,tk,os⟩∧∃(vs ws:List Value) (ns' ms':List Int),rest=vs.zip ws∧IntsAre vs ns'∧IntsAre ws ms'∧ns'.length+items2.size=ms'.length+items.size∧R (.ok (.ret (.bool (lexLt ns' ms')))) ⟨hp,g,d,tk,os⟩) _
 case turn=>
  rintro⟨y,x⟩ rest b s' ⟨hb',rfl,vs,ws,ns',ms',hz,hvi,hwi,hlen,hR⟩
  cases hvi with
  |nil=>rw[List.zip_nil_left]at hz;cases hz
  |cons a t hvi'=>
   cases hwi with
   |nil=>rw[List.zip_nil_right]at hz;cases hz
   |cons c u hwi'=>
    rw[lT]at hz;injection hz with hyx hrest
    injection hyx with hy hx
    subst hy hx;rw[qA6]at hR;simp only[mG]at hlen;obtain⟨e,he,hiff⟩:=qD9 A.in1 ⟨hp,g,d,tk,os⟩ a t c u;refine hV (he prog w _ _ ?_);cases e with
    |true=>
     rw[kJ (hiff.mp rfl)]at hR;wp_walk
     exact⟨rfl,rfl,_,_,_,_,hrest,hvi',hwi',by lia,hR⟩
    |false=>
     rw[kF (λq=>absurd (hiff.mpr q) kO)]at hR;have hri:=qDA A.in1 ⟨hp,g,d,tk,os⟩ a t c u prog w;wp_walk using hri
     exact⟨_,rfl,by simpa using hR⟩
 case fin=>
  rintro⟨b1,b2⟩ s' ⟨hb',rfl,vs,ws,ns',ms',hz,hvi,hwi,hlen,hR⟩
  simp only at hb';subst hb';have hv:lexLt ns' ms'=decide (items.size<items2.size):=by
   cases hvi with
   |nil=>
    cases hwi with
    |nil=>simp only[rT]at hlen;rw[q6N];exact(hX (by lia)).symm
    |cons c u hw=>simp only[rT,mG]at hlen;rw[q5H];exact(hG (by lia)).symm
   |cons a t hv=>
    cases hwi with
    |nil=>simp only[rT,mG]at hlen;rw[q5I];exact(hX (by lia)).symm
    |cons c u hw=>rw[lT]at hz;cases hz
  rw[hv]at hR;wp_walk
  exact⟨_,rfl,by simpa[Builtin.Tuple.tupleCompareSizes]using hR⟩
 case h=>exact⟨rfl,rfl,items.toList,items2.toList,ns,ms,rfl,hi,hj,by lia,h⟩)
end
section
variable{prog:Program}{w:World}{A:Around}{E:Value→Shared→Prop}{s:Shared}
theorem lt_tupInts{l b:Addr}{items items2:Array Value}{ns ms:List Int}{Q:Value→Shared→Prop}(hl:IsTup s.heap l items)(hb:IsTup s.heap b items2)(hi:IntsAre items.toList ns)(hj:IntsAre items2.toList ms)
 (hu:A.units<cLine) (h:Q (.bool (lexLt ns ms)) s):wpAny (model prog w) A (compareOp .Lt (.ref l) (.ref b)) Q E s:=by(
obtain⟨⟨cls,dd,data,sl⟩,ho,hc,n,hd⟩:=id hl
obtain⟨⟨cls2,dd2,data2,sl2⟩,ho2,hc2,n2,hd2⟩:=id hb
simp only at hc hd hc2 hd2
subst hc hd hc2 hd2
exact richCompare_meets_room (op:=.Lt) ⟨_,ho,rfl⟩ ⟨_,ho2,rfl⟩ PySem.F.slot_tuple_lt PySem.F.entry_tuple_lt (PySem.F.args_tuple_lt_2 _ _) (q6O l b items items2 n n2 dd dd2 sl sl2 ns ms hi hj)
 ⟨ho,ho2,show Value.bool (lexLt ns ms)≠Value.notImplemented∧Q (.bool (lexLt ns ms)) s from⟨(λx=>nomatch x),h⟩⟩ hu)
end
end HT
namespace L2
open PySem PySem.Spec PyProof.Rows
noncomputable def ixN(n:Nat)(i:Int):Option Nat:=if 0≤i then(if i<n then some i.toNat else none)else if-(n:Int)≤i then some (i+n).toNat else none
noncomputable def atI{α:Type}(xs:List α)(i:Int):Option α:=(ixN xs.length i).bind λj=>xs[j]?
theorem qB4{n:Nat}{i:Int}{j:Nat}(h:ixN n i=some j):seqIndex? i n=some j∧j<n∧-(n:Int)≤i∧i<n:=by(
unfold ixN at h
by_cases h0:0≤i
·rw[kJ h0]at h;by_cases h1:i<n
 ·rw[kJ h1]at h;have e:i.toNat=j:=kM h;exact⟨by rw[lA h0 h1,e],by lia,by lia,h1⟩
 rw[kF h1]at h;cases h
rw[kF h0]at h
by_cases h1:-(n:Int)≤i
·rw[kJ h1]at h;have e:(i+n).toNat=j:=kM h;exact⟨by rw[sY (by lia) h1,e],by lia,h1,by lia⟩
rw[kF h1]at h;cases h)
theorem q7X{α:Type}{xs:List α}{i:Int}{v:α}(h:atI xs i=some v):∃j,seqIndex? i xs.length=some j∧xs[j]?=some v∧j<xs.length∧-(xs.length:Int)≤i∧i<xs.length:=by(
unfold atI at h
cases e:ixN xs.length i with
|none=>rw[e]at h;cases h
|some j=>rw[e]at h;obtain⟨h1,h2,h3,h4⟩:=qB4 e;exact⟨j,h1,h,h2,h3,h4⟩)
theorem v8{α:Type}{xs:List α}{j:Nat}{v:α}(h:xs[j]?=some v):atI xs (j:Int)=some v:=by
 have hj:j<xs.length:=(kD.mp h).1;have e:ixN xs.length (j:Int)=some j:=by unfold ixN;rw[kJ (by lia),kJ (by lia)];simp
 unfold atI;rw[e];exact h
noncomputable def qFK(b:Expr):Prop:=∀o i,subscripted b false o i=operate [o,i] (getItem o i)
noncomputable def IxR(X:Cx)(r:R2):Prop:=∀(value slice:Expr) (pins:List (Addr×Obj)) (s:Shared) (σ:St) (H:Hp) (x y:V) (v u:Value) (Q:VK),Inv X pins σ H s→RelV x v→RelV y u→r x y H Q→subscripted slice false v u=operate [v,u] (getItem v u)→wpAny (model X.prog X.w) X.A (subscriptTail value slice v u) (EP X pins σ Q) X.xe s
noncomputable def MtR(X:Cx)(id:String)(r:V→List V→Hp→VK→Prop):Prop:=∀(pins:List (Addr×Obj)) (s:Shared) (σ:St) (H:Hp) (x:V) (xs:List V) (v:Value) (us:List Value) (Q:VK),Inv X pins σ H s→RelV x v→Vals xs us→r x xs H Q→wpAny (model X.prog X.w) X.A (call (.builtin id) (v::us)) (EP X pins σ Q) X.xe s
section
variable{X:Cx}{a b:Expr}{ta tb:TE}{pos:Pos}
theorem jA{r:R2}(hr:IxR X r)(ha:PE X a ta)(hb:PE X b tb)(hs:qFK b):PE X (.Subscript a b pos) (tOp r ta tb):=by intro pins s σ H Q I h;exact Subscript_ (binT ha hb I h λv u s2 x y H2 I2 rx ry q=>hr a b pins s2 σ H2 x y v u Q I2 rx ry q (hs _ _))
noncomputable def rIxL(K:PySem.W.Frag):R2:=λx y H Q=>∃p xs i v,x=.ref p∧y=.int i∧SqL K H p xs∧atI xs i=some v∧Q v H
noncomputable def rIxT(K:PySem.W.Frag):R2:=λx y H Q=>∃p xs i v,x=.ref p∧y=.int i∧SqT K H p xs∧atI xs i=some v∧Q v H
theorem jQ:IxR X (rIxL X.K):=by(
intro value slice pins s σ H x y v u Q I rx ry h hs
obtain⟨p,xs,i,z,rfl,rfl,hq,he,q⟩:=h
cases rx
obtain⟨t,rfl⟩:=ry
obtain⟨its,r,pl,hz⟩:=I.list hq
obtain⟨j,h1,h2,h3,h4,h5⟩:=q7X he
obtain⟨w,ew,rw'⟩:=r.get h2
have hl:=r.length
have hn:=q5E
have fin:EP X pins σ Q w s:=⟨z,H,I,rw',q⟩
by_cases h0:0≤i
·have hj:i.toNat=j:=by rw[lA h0 h5]at h1;exact kM h1
 exact item_listR pl.isList h0 (by lia) (by rw[hj];simpa using ew) fin hs
have hj:(i+(its.toArray.size:Int)).toNat=j:=by rw[sY (by lia) h4]at h1;rw[mD,←hl];exact kM h1
exact nE (x:=w) pl.isList.typeIs slot_list_getitem.lookup
 (nG (Q:=λr s'=>r=w∧EP X pins σ Q r s') pl.isList (by lia) (by rw[mD]<;>lia) (by lia) (by rw[hj];simpa using ew) ⟨rfl,fin⟩) hs)
theorem y6:IxR X (rIxT X.K):=by(
intro value slice pins s σ H x y v u Q I rx ry h hs
obtain⟨p,xs,i,z,rfl,rfl,hq,he,q⟩:=h
cases rx
obtain⟨t,rfl⟩:=ry
obtain⟨its,r,pl,hz⟩:=I.tuple hq
obtain⟨j,h1,h2,h3,h4,h5⟩:=q7X he
obtain⟨w,ew,rw'⟩:=r.get h2
have hl:=r.length
have hn:=q5E
have fin:EP X pins σ Q w s:=⟨z,H,I,rw',q⟩
exact nE (x:=w) pl.typeIs slot_tuple_getitem.lookup
 (getItem_tuple (j:=j) (Q:=λr s'=>r=w∧EP X pins σ Q r s') pl (by lia) (by lia) (by rw[mD,←hl];exact h1) (by simpa using ew) ⟨rfl,fin⟩) hs)
theorem qA7(its:List Value)(n j:Nat)(u:Value):Obj.mapSeq (·.setIfInBounds j u) { cls:=.type "list",data:=.seq its.toArray n } = { cls:=.type "list",data:=.seq (its.set j u).toArray n }:=by simp[Obj.mapSeq]
theorem Inv.lst{pins:List (Addr×Obj)}{σ:St}{H:Hp}{s:Shared}{p:Addr}{xs:List V}(I:Inv X pins σ H s)(h:H p=some (.lst xs)):
 ∃(its:List Value) (n:Nat),Vals xs its∧s.heap.get? p=some { cls:=.type "list",data:=.seq its.toArray n }∧xs.length≤sizeLine:=by obtain⟨z,its,n,r,e⟩:=I.hok p _ h;exact⟨its,n,r,e,z⟩
theorem Inv.lstUpd{pins:List (Addr×Obj)}{σ:St}{H:Hp}{s:Shared}{p:Addr}{xs ys:List V}{its its':List Value}{n n':Nat}{f:Obj→Obj}(I:Inv X pins σ H s)(h:H p=some (.lst xs))
 (ho:s.heap.get? p=some { cls:=.type "list",data:=.seq its.toArray n }) (hf:f { cls:=.type "list",data:=.seq its.toArray n } = { cls:=.type "list",data:=.seq its'.toArray n' }) (r:Vals ys its') (hz:ys.length≤sizeLine) (t:Nat):
 Inv X pins σ (upd H p (.lst ys)) { s with heap:=s.heap.update p f,toks:=t }:=by
 have e:(s.heap.update p f).get? p=some { cls:=.type "list",data:=.seq its'.toArray n' }:=by rw[dW f ho (by rw[hf]<;>rfl),hf]
 refine I.write (x:=p) (e:=p) (by rw[h];trivial) (.inl rfl) (λb u hb q=>(kW _ _ (r6 hb)).trans q) ⟨_,e⟩ ?_;exact⟨hz,its',n',r,e⟩
noncomputable def qK5:V→V→V→Hp→(Hp→Prop)→Prop:=λo i v H Q=>∃p xs k j,o=.ref p∧i=.int k∧H p=some (.lst xs)∧ixN xs.length k=some j∧Q (upd H p (.lst (xs.set j v)))
theorem yX:PSet X qK5:=by(
intro pins s σ H o i v ov iv u Q I ro ri rv h
obtain⟨p,xs,k,j,rfl,rfl,hp,hj,q⟩:=h
cases ro
obtain⟨t,rfl⟩:=ri
obtain⟨its,n,r,ho,hz⟩:=I.lst hp
obtain⟨h1,h2,h3,h4⟩:=qB4 hj
have hl:=r.length
have hn:=q5E
have I':Inv X pins σ (upd H p (.lst (xs.set j v))) { s with heap:=s.heap.update p (Obj.mapSeq (·.setIfInBounds j u)) }:=I.lstUpd hp ho (qA7 its n j u) (r.set rv j) (by rw[gM];exact hz) s.toks
by_cases h0:0≤k
·have hk:k.toNat=j:=by rw[lA h0 h4]at h1;exact kM h1
 exact PySem.W.ki_setAt ho h0 (by lia) (by rw[mD,←hl];exact h4) (by rw[hk];exact⟨_,I',q⟩)
have hk:(k+(its.toArray.size:Int)).toNat=j:=by rw[sY (by lia) h3]at h1;rw[mD,←hl];exact kM h1
exact PySem.W.ki_setBack ho (by lia) (by rw[mD,←hl];exact h3) (by lia) (by rw[hk];exact⟨_,I',q⟩))
noncomputable def zG:V→Bool
| .non=>true
| .bl _=>true
| .int _=>true
| .str _=>true
|_=>false
noncomputable def eqV:V→V→Bool
| .non,.non=>true
| .bl a,.bl b=>a==b
| .bl a,.int b=>(if a then 1 else 0)==b
| .int a,.bl b=>a==(if b then 1 else 0)
| .int a,.int b=>a==b
| .str a,.str b=>a==b
|_,_=>false
theorem qDB{A:Around}{s:Shared}{y x:V}{u v:Value}(ry:RelV y u)(rx:RelV x v)(fy:zG y=true)(fx:zG x=true):SeqAt.EqAt A s u v (eqV y x):=by(
cases y with
|non=>
 cases ry;cases x with
 |non=>cases rx;exact nM _
 |bl b=>cases rx;exact SeqAt.EqAt.none_bool b
 |int b=>obtain⟨t,rfl⟩:=rx;exact SeqAt.EqAt.none_int b t
 |str b=>obtain⟨t,rfl⟩:=rx;exact SeqAt.EqAt.none_str b t
 |_=>exact absurd (show false=true from fx) kO
|bl a=>
 cases ry;cases x with
 |non=>cases rx;exact SeqAt.EqAt.bool_none a
 |bl b=>cases rx;exact SeqAt.EqAt.bool_bool a b
 |int b=>obtain⟨t,rfl⟩:=rx;exact SeqAt.EqAt.bool_int a b t
 |str b=>obtain⟨t,rfl⟩:=rx;exact SeqAt.EqAt.bool_str a b t
 |_=>exact absurd (show false=true from fx) kO
|int a=>
 obtain⟨t',rfl⟩:=ry;cases x with
 |non=>cases rx;exact SeqAt.EqAt.int_none a t'
 |bl b=>cases rx;exact SeqAt.EqAt.int_bool a t' b
 |int b=>obtain⟨t,rfl⟩:=rx;exact p6 a t' b t
 |str b=>obtain⟨t,rfl⟩:=rx;exact lQ a t' b t
 |_=>exact absurd (show false=true from fx) kO
|str a=>
 obtain⟨t',rfl⟩:=ry;cases x with
 |non=>cases rx;exact SeqAt.EqAt.str_none a t'
 |bl b=>cases rx;exact SeqAt.EqAt.str_bool a t' b
 |int b=>obtain⟨t,rfl⟩:=rx;exact lR a t' b t
 |str b=>obtain⟨t,rfl⟩:=rx;exact SeqAt.EqAt.str_str a t' b t
 |_=>exact absurd (show false=true from fx) kO
|_=>exact absurd (show false=true from fy) kO)
noncomputable def eqU(x:V)(u:Value):Bool:=match u with
| .none=>eqV .non x
| .bool b=>eqV (.bl b) x
| .int i _=>eqV (.int i) x
| .str z _=>eqV (.str z) x
|_=>false
theorem qDC{x y:V}{u:Value}(r:RelV y u)(f:zG y=true):eqU x u=eqV y x:=by(
cases y with
|non=>cases r;rfl
|bl b=>cases r;rfl
|int i=>obtain⟨t,rfl⟩:=r;rfl
|str z=>obtain⟨t,rfl⟩:=r;rfl
|_=>exact absurd (show false=true from f) kO)
theorem q3G{x:V}:∀{xs:List V} {us:List Value},Vals xs us→xs.all zG=true→us.any (eqU x)=xs.any λy=>eqV y x
|_,_,.nil,_=>rfl
|y::xs,u::us,.cons r t,f=>by rw[aV,mR]at f;rw[cL,cL,qDC r f.1,q3G t f.2]
theorem q1B{A:Around}{s:Shared}{x:V}{v:Value}(rx:RelV x v)(fx:zG x=true):∀{xs:List V} {us:List Value},Vals xs us→xs.all zG=true→∀u∈us,SeqAt.EqAt A s u v (eqU x u)
|_,_,.nil,_=>λu hu=>by cases hu
|y::xs,u::us,.cons r t,f=>λu' hu=>by
 rw[aV,mR]at f;rcases kI.mp hu with rfl|hu
 ·rw[qDC r f.1];exact qDB r rx f.1 fx
 exact q1B rx fx t f.2 u' hu
noncomputable def inV(x:V)(xs:List V):Bool:=xs.any λy=>eqV y x
noncomputable def rIn(K:PySem.W.Frag)(neg:Bool):R2:=λx y H Q=>∃p xs,y=.ref p∧(SqL K H p xs∨SqT K H p xs)∧zG x=true∧xs.all zG=true∧Q (.bl (if neg then !inV x xs else inV x xs)) H
theorem qC8:OpR X (compareOp .In) (rIn X.K false):=by(
intro pins s σ H x y v u Q I rx ry h
obtain⟨p,xs,rfl,hq,fx,fs,q⟩:=h
cases ry
rcases hq with hq|hq
·obtain⟨its,r,pl,hz⟩:=I.list hq;refine SeqAt.in_listAt (eqU x) pl.isList (λw hw=>q1B rx fx r fs w (by simpa using hw)) ⟨.bl _,H,I,rfl,?_⟩;rw[show its.toArray.any (eqU x)=its.any (eqU x) by simp,q3G r fs];exact q
obtain⟨its,r,pl,hz⟩:=I.tuple hq
refine SeqAt.in_tupleAt (eqU x) pl (λw hw=>q1B rx fx r fs w (by simpa using hw)) ⟨.bl _,H,I,rfl,?_⟩
rw[show its.toArray.any (eqU x)=its.any (eqU x) by simp,q3G r fs]
exact q)
theorem q3H:OpR X (compareOp .NotIn) (rIn X.K true):=by(
intro pins s σ H x y v u Q I rx ry h
obtain⟨p,xs,rfl,hq,fx,fs,q⟩:=h
cases ry
rcases hq with hq|hq
·obtain⟨its,r,pl,hz⟩:=I.list hq;refine SeqAt.notIn_listAt (eqU x) pl.isList (λw hw=>q1B rx fx r fs w (by simpa using hw)) ⟨.bl _,H,I,rfl,?_⟩;rw[show its.toArray.any (eqU x)=its.any (eqU x) by simp,q3G r fs];exact q
obtain⟨its,r,pl,hz⟩:=I.tuple hq
refine SeqAt.notIn_tupleAt (eqU x) pl (λw hw=>q1B rx fx r fs w (by simpa using hw)) ⟨.bl _,H,I,rfl,?_⟩
rw[show its.toArray.any (eqU x)=its.any (eqU x) by simp,q3G r fs]
exact q)
theorem jV:q1A X (.builtin "len") (λxs H Q=>∃p ys,xs=[.ref p]∧(SqL X.K H p ys∨SqT X.K H p ys)∧Q (.int ys.length) H):=by(
intro pins s σ H xs us Q I r h
obtain⟨p,ys,rfl,hq,q⟩:=h
obtain⟨u,rfl,rx⟩:=q05 r
cases rx
have hn:=q5E
rcases hq with hq|hq
·obtain⟨its,r',pl,hz⟩:=I.list hq;have hlen:=r'.length;exact Calls.call_len_list pl.isList (by simp only[mD]<;>lia) ⟨.int ys.length,H,I.tok _,⟨s.toks+1,by rw[mD,hlen]⟩,q⟩
obtain⟨its,r',pl,hz⟩:=I.tuple hq
have hlen:=r'.length
exact len_tuple pl (by simp only[mD]<;>lia) ⟨.int ys.length,H,I.tok _,⟨s.toks+1,by rw[mD,hlen]⟩,q⟩)
theorem q7Y:q1A X (.type "list") (λxs H Q=>∃p ys,xs=[.ref p]∧(SqL X.K H p ys∨SqT X.K H p ys)∧∀l,H l=none→Q (.ref l) (upd H l (.lst ys))):=by(
intro pins s σ H xs us Q I r h
obtain⟨p,ys,rfl,hq,q⟩:=h
obtain⟨u,rfl,rx⟩:=q05 r
cases rx
have fin:∀(its:List Value),Vals ys its→ys.length≤sizeLine→∀(h':Heap) (c':Nat),(∀b o',s.heap.get? b=some o'→h'.get? b=some o')→h'.get? s.heap.objs.size=some { cls:=.type "list",dict:=none,data:=.seq its.toArray c',slots:=#[] }→EP X pins σ Q (.ref s.heap.objs.size) { s with heap:=h' }:=λits r' hz h' c' kp e=>⟨.ref s.heap.objs.size,_,I.laid (t':=s.toks) kp (kN _) (show jH X.prog X.w _ h' _ (.lst ys)from⟨hz,its,c',r',e⟩),rfl,q _ (I.hok.fresh (kN _))⟩
rcases hq with hq|hq
·obtain⟨its,r',pl,hz⟩:=I.list hq;have hlen:=r'.length;obtain⟨o,ho,hc,n,hd⟩:=pl.isList;exact call_list_seq p (.inl rfl) ho hc hd (λh' c' kp e=>fin its r' hz h' c' kp e) (by simp only[mD]<;>lia)
obtain⟨its,r',pl,hz⟩:=I.tuple hq
have hlen:=r'.length
obtain⟨o,ho,hc,n,hd⟩:=pl
exact call_list_seq p (.inr rfl) ho hc hd (λh' c' kp e=>fin its r' hz h' c' kp e) (by simp only[mD]<;>lia))
noncomputable def tyV(K:PySem.W.Frag)(T:String)(x:V)(H:Hp):Prop:=match x with
| .str _=>T="str"
| .int _=>T="int"
| .ref p=>(T="list"∧∃xs,SqL K H p xs)∨(T="tuple"∧∃o,K.lookup p=some o∧o.cls=.type "tuple"∧o.dict=none)∨(T="dict"∧((∃kvs,H p=some (.dK kvs))∨∃kvs,H p=some (.dT kvs)))∨(T="set"∧∃S n,H p=some (.set S n))
|_=>False
theorem qDD{pins:List (Addr×Obj)}{σ:St}{H:Hp}{s:Shared}{T:String}{x:V}{v:Value}(I:Inv X pins σ H s)(r:RelV x v)(ty:tyV X.K T x H):
 s.TypeIs v T∧∀a,v=.ref a→∃ob,s.heap.get? a=some ob∧ob.dict=none:=by(
cases x with
|str z=>obtain⟨t,rfl⟩:=r;cases(show T="str" from ty);exact⟨typeIs_str s z t,λ_ e=>nomatch e⟩
|int i=>obtain⟨t,rfl⟩:=r;cases(show T="int" from ty);exact⟨aI s i t,λ_ e=>nomatch e⟩
|ref p=>
 cases r;rcases ty with⟨rfl,xs,hq⟩|⟨rfl,o,hk,hc,hd⟩|⟨rfl,hk⟩|⟨rfl,S,n,hk⟩
 ·obtain⟨its,_,pl,_⟩:=I.list hq;refine⟨pl.isList.typeIs,λa e=>?_⟩;cases e;obtain⟨o,n,e,c,hd,_⟩:=pl;exact⟨o,e,hd⟩
 ·refine⟨⟨o,I.kIn p o hk,hc⟩,λa e=>?_⟩;cases e;exact⟨o,I.kIn _ o hk,hd⟩
 ·have z:∃o,s.heap.get? p=some o∧o.ExactDict:=by
   rcases hk with⟨kvs,hk⟩|⟨kvs,hk⟩
   ·obtain⟨_,_,_,_,o,_,_,e,ex,_⟩:=I.hok p _ hk;exact⟨o,e,ex⟩
   obtain⟨_,_,_,_,o,_,_,e,ex,_⟩:=I.hok p _ hk;exact⟨o,e,ex⟩
  obtain⟨o,e,ex⟩:=z;refine⟨⟨o,e,ex.1⟩,λa e2=>?_⟩;cases e2;exact⟨o,e,ex.2.1⟩
 obtain⟨o,_,_,_,e,ex,_⟩:=I.hok p _ hk;refine⟨⟨o,e,ex.1⟩,λa e2=>?_⟩;cases e2;exact⟨o,e,ex.2.1⟩
|_=>exact False.elim ty)
noncomputable def tBM0(K:PySem.W.Frag)(T:String)(r:V→List V→Hp→VK→Prop)(to:TE):TE:=λσ H Q=>to σ H λx H1=>tyV K T x H1∧r x [] H1 Q
noncomputable def tBM(K:PySem.W.Frag)(T:String)(r:V→List V→Hp→VK→Prop)(to:TE)(t:TA):TE:=λσ H Q=>to σ H λx H1=>tyV K T x H1∧t σ H1 λxs H2=>r x xs H2 Q
variable{o e:Expr}{es:List Expr}{to:TE}{t:TA}{name:Str}{apos cpos:Pos}{T id:String}{r:V→List V→Hp→VK→Prop}
theorem qI3(pa:PlainAttrs T)(slot:Slot T name id)(hty:typeOf (.builtin id)=pure (.type "method_descriptor"))(hm:MtR X id r)(ho:PE X o to)
 (hbase:attributeBase o name X.env (eval o X.env)=eval o X.env:=by rfl) (hline:(apos.endLine==cpos.line)=true:=by rfl):PE X (.Call (.Attribute o name apos) [] [] cpos) (tBM0 X.K T r to):=by(
intro pins s σ H Q I h
refine wpAny_Call_method0_late hbase hline (thn (ho pins s σ H _ I h) λv s1 hZ=>?_)
obtain⟨x,H1,I1,r1,ty,q1⟩:=hZ
obtain⟨h1,h2⟩:=qDD I1 r1 ty
exact⟨T,id,pa,slot,hty,h1,h2,wK rfl (PySem.evalArgs_none (hm pins s1 σ H1 x [] v [] Q I1 r1 .nil q1))⟩)
theorem qDE(pa:PlainAttrs T)(slot:Slot T name id)(hty:typeOf (.builtin id)=pure (.type "method_descriptor"))(hm:MtR X id r)(ho:PE X o to)(ha:PA X (e::es) t)
 (hbase:attributeBase o name X.env (eval o X.env)=eval o X.env:=by rfl)
 (hfew:((backTo cpos (starEach (e::es) X.env)).all (λx=>!x.1)&&(backToKw cpos (keywordEach [] X.env)).all (λx=>x.1.isSome)
  &&decide ((e::es).length+([]:List Keyword).length+(if([]:List Keyword).isEmpty then 0 else 1)<30))=true:=by rfl)
 (hline:(apos.endLine==cpos.line)=true:=by rfl) (hs:starEach (e::es) X.env=(false,eval e X.env)::starEach es X.env:=by rfl) (hplain:(backTo cpos (starEach es X.env)).any (·.1)=false:=by rfl):
 PE X (.Call (.Attribute o name apos) (e::es) [] cpos) (tBM X.K T r to t):=by(
intro pins s σ H Q I h
refine wpAny_Call_method_late hbase hfew hline rfl (thn (ho pins s σ H _ I h) λv s1 hZ=>?_)
obtain⟨x,H1,I1,r1,ty,q1⟩:=hZ
obtain⟨h1,h2⟩:=qDD I1 r1 ty
refine⟨T,id,pa,slot,hty,h1,h2,?_⟩
have hA:=ha cpos pins s1 σ H1 _ I1 q1
rw[hs]at hA ⊢
refine wK (by show(false||(backTo cpos (starEach es X.env)).any (·.1))=false;rw[hplain]<;>rfl) (pJ ?_)
exact thn hA λus s2 ⟨vs,H2,I2,r2,q2⟩=>hm pins s2 σ H2 x vs v us Q I2 r1 r2 q2)
end
noncomputable def MtM(X:Cx)(id:String)(r:V→List V→Hp→VK→Prop):Prop:=∀(pins:List (Addr×Obj)) (s:Shared) (σ:St) (H:Hp) (x:V) (xs:List V) (v:Value) (us:List Value) (Q:VK),Inv X pins σ H s→RelV x v→Vals xs us→r x xs H Q→wpAny (model X.prog X.w) X.A (call (.builtin id) (v::us)) (EP X pins σ Q) X.xe s
theorem Vals.one{x:V}{us:List Value}(h:Vals [x] us):∃u,us=[u]∧RelV x u:=by
 cases h with
 |cons r t=>cases t;exact⟨_,rfl,r⟩
theorem Vals.zero:∀{us:List Value},Vals [] us→us=[]
|_,.nil=>rfl
theorem Vals.rep{xs:List V}{us:List Value}(h:Vals xs us):∀k:Nat,Vals (List.replicate k xs).flatten (List.replicate k us).flatten
|0=>.nil
|k+1=>by rw[dP,dP,wX,wX];exact Vals.append h (Vals.rep h k)
theorem q7E(its:List Value):∀(k:Nat) (acc:List Value),List.foldl (λx1 x2=>x1++x2) acc.toArray (List.replicate k its.toArray)=(acc++(List.replicate k its).flatten).toArray
|0,acc=>by simp
|k+1,acc=>by
 have e:acc.toArray++its.toArray=(acc++its).toArray:=by simp
 have e2:(acc++its)++(List.replicate k its).flatten=acc++(List.replicate (k+1) its).flatten:=by rw[dP,wX,c6]
 rw[←e2,←q7E its k (acc++its),←e,dP,List.foldl_cons]
section
variable{X:Cx}{pins:List (Addr×Obj)}{σ:St}{H:Hp}{s:Shared}{l b:Addr}{xs ys zs:List V}
theorem Inv.lset{its its':List Value}{n:Nat}{f:Array Value→Array Value}{t':Nat}(I:Inv X pins σ H s)(hH:H l=some (.lst xs))
 (e:s.heap.get? l=some { cls:=.type "list",data:=.seq its.toArray n }) (hf:f its.toArray=its'.toArray) (hv:Vals ys its') (hz:ys.length≤sizeLine):
 Inv X pins σ (upd H l (.lst ys)) { s with heap:=s.heap.update l (Obj.mapSeq f),toks:=t' }:=by(
have q:=PySem.IsL.update e f
rw[hf]at q
refine I.write (x:=l) (e:=l) (by rw[hH];exact trivial) (.inl rfl) (λb' u hb hu=>(kW s.heap (Obj.mapSeq f) (r6 hb)).trans hu) ⟨_,q⟩ ?_
exact⟨hz,its',_,hv,q⟩)
theorem Inv.lnew{its:List Value}{t':Nat}(I:Inv X pins σ H s)(hv:Vals ys its)(hz:ys.length≤sizeLine):
 Inv X pins σ (upd H s.heap.objs.size (.lst ys)) { s with heap:=s.heap.push { cls:=.type "list",data:=.seq its.toArray },toks:=t' }:=I.laid (λ_ _ q=>kE _ q) (kN _) ⟨hz,its,0,hv,mJ _ rfl⟩
theorem Inv.fresh(I:Inv X pins σ H s):H s.heap.objs.size=none:=I.hok.fresh (kN _)
theorem Inv.lstM(I:Inv X pins σ H s)(hH:H l=some (.lst xs)):xs.length≤sizeLine∧∃(its:List Value) (n:Nat),Vals xs its∧xs.length=its.length∧s.heap.get? l=some { cls:=.type "list",data:=.seq its.toArray n }:=by obtain⟨z,its,n,r,e⟩:=I.hok l _ hH;exact⟨z,its,n,r,r.length,e⟩
theorem qDF{n:Nat}(h:n≤sizeLine):Builtin.List.listTooLong n=false:=by unfold Builtin.List.listTooLong;exact hX (by lia)
end
section
variable{X:Cx}
noncomputable def qFL:V→List V→Hp→VK→Prop:=λx vs H Q=>∃l xs y,x=.ref l∧vs=[y]∧H l=some (.lst xs)∧xs.length<sizeLine∧Q .non (upd H l (.lst (xs++[y])))
theorem q29:MtM X "list.append" qFL:=by(
intro pins s σ H x vs v us Q I rx rv h
obtain⟨l,xs,y,rfl,rfl,hH,hz,q⟩:=h
cases rx
obtain⟨u,rfl,ru⟩:=rv.one
obtain⟨z,its,n,r,hl,e⟩:=I.lstM hH
refine aJ F.slot_list_append ⟨_,e,rfl⟩ F.entry_list_append (F.args_list_append_2 _ _) (PySem.list_append l its.toArray n u (by rw[mD];lia)) ⟨e,?_⟩
refine⟨.non,_,I.lset (its':=its++[u]) hH e (by simp) (r.append (.cons ru .nil)) ?_,rfl,q⟩
rw[mH,gD]
lia)
noncomputable def rRep:R2:=λx y H Q=>∃l k xs,x=.ref l∧y=.int k∧H l=some (.lst xs)∧-(2 ^ 63)≤k∧k<2 ^ 63∧xs.length*k.toNat≤sizeLine∧∀p,H p=none→Q (.ref p) (upd H p (.lst (List.replicate k.toNat xs).flatten))
theorem qFM{α:Type}(xs:List α)(k:Nat):(List.replicate k xs).flatten.length=k*xs.length:=by(
induction k with
|zero=>simp
|succ k ih=>rw[dP,wX,mH,ih,c7,Nat.add_comm])
theorem qI4:OpR X (binaryOp .Mult) rRep:=by(
intro pins s σ H x y v u Q I rx ry h
obtain⟨l,k,xs,rfl,rfl,hH,h1,h2,hz,q⟩:=h
cases rx
obtain⟨t,rfl⟩:=ry
obtain⟨z,its,n,r,hl,e⟩:=I.lstM hH
have hlen:its.toArray.size*k.toNat≤sizeLine:=by rw[mD,←hl];exact hz
have hcap:¬its.toArray.size*k.toNat>(2 ^ 63-1) / 8:=by
 have:(sizeLine:Nat)≤(2 ^ 63-1) / 8:=by decide
 lia
have hfit:¬(!Builtin.List.listFitsIndex k)=true:=by rw[fitsIndex_both h1 h2];exact kO
have hlong:¬Builtin.List.listTooLong (its.toArray.size*k.toNat)=true:=by rw[qDF hlen];exact kO
have hnew:List.foldl (λx1 x2=>x1++x2) #[] (List.replicate (if its.toArray.isEmpty=true then 0 else k.toNat) its.toArray)=(List.replicate k.toNat its).flatten.toArray:=by
 have f0:∀m:Nat,List.foldl (λx1 x2=>x1++x2) #[] (List.replicate m its.toArray)=(List.replicate m its).flatten.toArray:=λm=>by have:=q7E its m [];rw[g7]at this;exact this
 rw[f0];cases its with
 |nil=>simp
 |cons a r'=>rw[kF (by simp)]
refine wpAny_binaryOp_repeat_ref (T:="list") (U:="int") (by decide) ⟨_,e,rfl⟩ (λs'=>aI s' k t) noFill_list_mul F.fills_int_mul xZ repeat_list F.slot_int_index.lookup
 (aJ xZ (aI s k t) F.entry_int_rmul (F.args_int_rmul_2 _ _) (int___rmul___int_list k t l its.toArray n)
  ⟨e,rfl,⟨_,e,rfl⟩,aJ F.slot_list_mul ⟨_,e,rfl⟩ F.entry_list_mul (F.args_list_mul_2 _ _) (AutoListH.list___mul___list_int_3 l its.toArray n k t hfit hcap hlong) ⟨e,?_⟩⟩)
rw[hnew]
exact⟨.ref _,_,I.lnew (t':=s.toks) (r.rep k.toNat) (by rw[qFM,wL];exact hz),rfl,q _ I.fresh⟩)
end
section
variable{κ:Type}[DecidableEq κ]
noncomputable def valV(kvs:List (κ×V))(k:κ):Option V:=(kvs.find? λkv=>decide (kv.1=k)).map (·.2)
noncomputable def putK(kvs:List (κ×V))(k:κ)(v:V):List (κ×V):=if(kvs.any λkv=>decide (kv.1=k))=true then kvs.map (λkv=>if kv.1=k then(kv.1,v)else kv)else kvs++[(k,v)]
noncomputable def q2O(kvs:List (κ×V))(k:κ):List (κ×V):=kvs.filter λkv=>decide (kv.1≠k)
theorem q06{p:κ×V}{r:List (κ×V)}{k:κ}(e:p.1=k):valV (p::r) k=some p.2:=by simp[valV,dR,e]
theorem vS{p:κ×V}{r:List (κ×V)}{k:κ}(e:¬p.1=k):valV (p::r) k=valV r k:=by simp[valV,dR,e]
theorem q8Z(k:κ):∀kvs:List (κ×V),(kvs.any λkv=>decide (kv.1=k))=(valV kvs k).isSome
| []=>rfl
|p::r=>by
 rw[cL];by_cases e:p.1=k
 ·simp only[q06 e,hG e,Bool.true_or,Option.isSome_some]
 rw[vS e,hX e,Bool.false_or];exact q8Z k r
theorem q4C(kvs:List (κ×V))(k:κ)(v:V):(putK kvs k v).length≤kvs.length+1:=by(
unfold putK
split
·rw[kB];lia
rw[mH,mG,rT];lia)
theorem RelO.isSome_eq{o:Option V}{u:Option Value}(r:RelO o u):o.isSome=u.isSome:=by(
cases o with
|none=>cases u with
 |none=>rfl
 |some _=>exact(show False from r).elim
|some _=>cases u with
 |none=>exact(show False from r).elim
 |some _=>rfl)
theorem KV.val{kvs:List (κ×V)}{vs:List (κ×Value)}(r:KV kvs vs)(k:κ):RelO (valV kvs k) (valueAt vs k):=by(
unfold KV at r
induction r with
|nil=>exact True.intro
|@cons p q ps qs h t ih=>
 obtain⟨h1,h2⟩:=h;by_cases e:p.1=k
 ·have e':q.1=k:=h1.symm.trans e;have b:valueAt (q::qs) k=some q.2:=by simp[valueAt,dR,e']
  rw[q06 e,b];exact h2
 have e':¬q.1=k:=λz=>e (h1.trans z);have b:valueAt (q::qs) k=valueAt qs k:=by simp[valueAt,dR,e']
 rw[vS e,b];exact ih)
theorem KV.any{kvs:List (κ×V)}{vs:List (κ×Value)}(r:KV kvs vs)(k:κ):(kvs.any λkv=>decide (kv.1=k))=vs.any λkv=>decide (kv.1=k):=by(
unfold KV at r
induction r with
|nil=>rfl
|cons h t ih=>rw[cL,cL,ih,h.1])
theorem KV.repl{kvs:List (κ×V)}{vs:List (κ×Value)}(r:KV kvs vs)(k:κ){y:V}{u:Value}(ry:RelV y u):
 KV (kvs.map λkv=>if kv.1=k then(kv.1,y)else kv) (vs.map λkv=>if kv.1=k then(kv.1,u)else kv):=by(
unfold KV at r ⊢
induction r with
|nil=>exact .nil
|@cons p q ps qs h t ih=>
 rw[mL,mL];refine .cons ?_ ih;obtain⟨h1,h2⟩:=h;by_cases e:p.1=k
 ·rw[kJ e,kJ (h1.symm.trans e)];exact⟨h1,ry⟩
 rw[kF e,kF (λz=>e (h1.trans z))];exact⟨h1,h2⟩)
theorem KV.put{kvs:List (κ×V)}{vs:List (κ×Value)}(r:KV kvs vs)(k:κ){y:V}{u:Value}(ry:RelV y u):KV (putK kvs k y) (stored vs k u):=by(
unfold putK stored
rw[r.any k]
by_cases e:(vs.any λkv=>decide (kv.1=k))=true
·rw[kJ e,kJ e];exact r.repl k ry
rw[kF e,kF e];exact Paired.snoc r ⟨rfl,ry⟩)
theorem KV.drop{kvs:List (κ×V)}{vs:List (κ×Value)}(r:KV kvs vs)(k:κ):KV (q2O kvs k) (without vs k):=by(
unfold KV at r ⊢
unfold q2O without
induction r with
|nil=>exact .nil
|@cons p q ps qs h t ih=>
 obtain⟨h1,h2⟩:=h;rw[m9,m9];by_cases e:p.1=k
 ·have a:¬decide (p.1≠k)=true:=by simp[e]
  have b:¬decide (q.1≠k)=true:=by simp[h1.symm.trans e]
  rw[kF a,kF b];exact ih
 have e':¬q.1=k:=λz=>e (h1.trans z);have a:decide (p.1≠k)=true:=by simp[e]
 have b:decide (q.1≠k)=true:=by simp[e']
 rw[kJ a,kJ b];exact .cons ⟨h1,h2⟩ ih)
theorem KV.keys{kvs:List (κ×V)}{vs:List (κ×Value)}(r:KV kvs vs):kvs.map (·.1)=vs.map (·.1):=by(
unfold KV at r
induction r with
|nil=>rfl
|cons h t ih=>rw[mL,mL,ih,h.1])
theorem KV.length{kvs:List (κ×V)}{vs:List (κ×Value)}(r:KV kvs vs):kvs.length=vs.length:=lN r
theorem qDG(kvs:List (κ×V))(k:κ):(q2O kvs k).length≤kvs.length:=mE _ _
end
theorem q7F{P:Program}{w:World}{k:Key}{u:Value}(r:RelV (kV k) u):(jP P w).is k u=true:=by(
cases k with
|inl i=>obtain⟨t,e⟩:=(show ∃t,u=Value.int i t from r);subst e;exact q8S P w i t
|inr x=>obtain⟨t,e⟩:=(show ∃t,u=Value.str x t from r);subst e;exact q8T P w x t)
theorem q7G{P:Program}{w:World}:∀{ks:List Key} {us:List Value},Vals (ks.map kV) us→ItemsAre (jP P w) ks us
| [],_,r=>by rw[aY]at r;cases r;exact .nil
|k::ks,_,r=>by
 rw[mL]at r;cases r with
 |cons h t=>exact .cons (q7F h) (q7G t)
noncomputable abbrev KT(H:Hp):List (List Key×V)→List (List Key×Addr×Value)→Prop:=Paired λp q=>p.1=q.1∧H q.2.1=some (.tup (p.1.map kV))∧RelV p.2 q.2.2
theorem KT.val{H:Hp}{kvs:List (List Key×V)}{xs:List (List Key×Addr×Value)}(r:KT H kvs xs)(k:List Key):RelO (valV kvs k) ((atKey xs k).map (·.2)):=by(
induction r with
|nil=>exact True.intro
|@cons p q ps qs h t ih=>
 obtain⟨h1,_,h2⟩:=h;by_cases e:p.1=k
 ·have e':q.1=k:=h1.symm.trans e;have b:atKey (q::qs) k=some q.2:=by simp[atKey,dR,e']
  rw[q06 e,b];exact h2
 have e':¬q.1=k:=λz=>e (h1.trans z);have b:atKey (q::qs) k=atKey qs k:=by simp[atKey,dR,e']
 rw[vS e,b];exact ih)
theorem KT.repl{H:Hp}{kvs:List (List Key×V)}{xs:List (List Key×Addr×Value)}(r:KT H kvs xs)(k:List Key){y:V}{u:Value}(ry:RelV y u):
 KT H (kvs.map λkv=>if kv.1=k then(kv.1,y)else kv) (xs.map (putAt k u)):=by(
induction r with
|nil=>exact .nil
|@cons p q ps qs h t ih=>
 rw[mL,mL];refine .cons ?_ ih;obtain⟨h1,h2,h3⟩:=h;unfold putAt;by_cases e:p.1=k
 ·rw[kJ e,kJ (h1.symm.trans e)];exact⟨h1,h2,ry⟩
 rw[kF e,kF (λz=>e (h1.trans z))];exact⟨h1,h2,h3⟩)
theorem KT.put{H:Hp}{kvs:List (List Key×V)}{xs:List (List Key×Addr×Value)}(r:KT H kvs xs)(k:List Key){b:Addr}{y:V}{u:Value}(hb:H b=some (.tup (k.map kV)))(ry:RelV y u):
 KT H (putK kvs k y) (storedH xs k b u):=by(
have e:(kvs.any λkv=>decide (kv.1=k))=(atKey xs k).isSome:=by rw[q8Z,(r.val k).isSome_eq,xD]
unfold putK storedH
rw[e]
by_cases q:(atKey xs k).isSome=true
·rw[kJ q,kJ q];exact r.repl k ry
rw[kF q,kF q];exact Paired.snoc r ⟨rfl,hb,ry⟩)
theorem KT.keeps{H H':Hp}{kvs:List (List Key×V)}{xs:List (List Key×Addr×Value)}(r:KT H kvs xs)(ht:∀b ys,H b=some (.tup ys)→H' b=some (.tup ys)):KT H' kvs xs:=Paired.mapP r λ_ _ z=>⟨z.1,ht _ _ z.2.1,z.2.2⟩
section
variable{P:Program}{w:World}{H:Hp}{h:Heap}{a:Addr}
theorem qHF{u:HO}(ok:HOk P w H h)(e:Rd H a u):jH P w H h a u:=e.ok ok
theorem q7H{kvs:List (Key×V)}(ok:HOk P w H h)(e:Rd H a (.dK kvs)):kvs.length≤sizeLine∧(a==sysModules)=false∧∃vs,KV kvs vs∧h.DictOf (jP P w) a vs:=show jH P w H h a (.dK kvs)from qHF ok e
theorem q5J{kvs:List (Key×V)}(ok:HOk P w H h)(e:H a=some (.dK kvs)):kvs.length≤sizeLine∧(a==sysModules)=false∧∃vs,KV kvs vs∧h.DictOf (jP P w) a vs:=q7H ok (.inl e)
theorem q7Z{ks:List Key}(ok:HOk P w H h)(e:H a=some (.tup (ks.map kV))):(tupleKind (jP P w)).is h ks a:=by obtain⟨_,its,r,o,h1,h2,n,h3⟩:=(show jH P w H h a (.tup (ks.map kV))from ok a _ e);exact⟨o,its.toArray,n,h1,h2,h3,by simpa using q7G r⟩
theorem q90{kvs:List (List Key×V)}(ok:HOk P w H h)(e:Rd H a (.dT kvs)):kvs.length≤sizeLine∧(a==sysModules)=false∧∃xs,KT H kvs xs∧h.DictOfH (tupleKind (jP P w)) a xs:=by(
obtain⟨z,y,xs,r,o,es,ep,h1,h2,h3,h4,h5⟩:=(show jH P w H h a (.dT kvs)from qHF ok e)
refine⟨z,y,xs,r,o,es,ep,h1,h2,h3,h4,λx hx=>?_,h5⟩
have all:∀{l:List (List Key×V)} {m:List (List Key×Addr×Value)},KT H l m→∀x∈m,(tupleKind (jP P w)).is h x.1 x.2.1:=by
 intro l m q;induction q with
 |nil=>intro x hx;exact nomatch hx
 |@cons p q ps qs hq t ih=>
  intro x hx;rcases kI.mp hx with e|hx
  ·subst e;exact q7Z ok (by rw[←hq.1];exact hq.2.1)
  exact ih x hx
exact all r x hx)
theorem qK6{kvs:List (List Key×V)}(ok:HOk P w H h)(e:H a=some (.dT kvs)):kvs.length≤sizeLine∧(a==sysModules)=false∧∃xs,KT H kvs xs∧h.DictOfH (tupleKind (jP P w)) a xs:=q90 ok (.inl e)
end
noncomputable def DGet(H:Hp)(a:Addr)(y:V)(r:Option V):Prop:=(∃kvs k,Rd H a (.dK kvs)∧y=kV k∧r=valV kvs k)∨∃kvs k b,Rd H a (.dT kvs)∧y=.ref b∧H b=some (.tup (k.map kV))∧r=valV kvs k
noncomputable def DPut(H:Hp)(a:Addr)(y v:V)(H':Hp):Prop:=(∃kvs k,H a=some (.dK kvs)∧y=kV k∧kvs.length<sizeLine∧H'=upd H a (.dK (putK kvs k v)))∨∃kvs k b,H a=some (.dT kvs)∧y=.ref b∧H b=some (.tup (k.map kV))∧kvs.length<sizeLine∧H'=upd H a (.dT (putK kvs k v))
theorem DGet.k{H:Hp}{a:Addr}{kvs:List (Key×V)}{k:Key}(e:H a=some (.dK kvs)):DGet H a (kV k) (valV kvs k):=.inl ⟨kvs,k,.inl e,rfl,rfl⟩
section
variable{X:Cx}{pins:List (Addr×Obj)}{σ:St}{H:Hp}{s:Shared}{a:Addr}{y v:V}{u r:Value}{o:Option V}{A:Around}{E:Value→Shared→Prop}
theorem Inv.big(I:Inv X pins σ H s):sysModules<s.heap.objs.size:=by have h:mainGlobals<s.heap.objs.size:=(I.mod.glob.keeps I.bk).lt;exact Nat.lt_trans (by decide) h
theorem qC9{Q:Value→Shared→Prop}(hu:A.units+1<cLine)(I:Inv X pins σ H s)(g:DGet H a y (some v))(ry:RelV y u)(h:∀w' s',Inv X pins σ H s'→RelV v w'→Q w' s'):
 wpAny (model X.prog X.w) A (getItem (.ref a) u) Q E s:=by(
rcases g with⟨kvs,k,e,ey,l⟩|⟨kvs,k,b,e,ey,eb,l⟩
·subst ey;obtain⟨z,hd,vs,rel,dd⟩:=q7H I.hok e;obtain⟨w',hw,rw'⟩:=RelO.some_of (v:=v) (o:=valueAt vs k) (by rw[l];exact rel.val k);exact wpAny_getItem_of (q7F ry) dd.mapOf hw (h w' _ (I.tok _) rw')
subst ey
cases(show u=Value.ref b from ry)
obtain⟨z,hd,xs,rel,dd⟩:=q90 I.hok e
obtain⟨w',hw,rw'⟩:=RelO.some_of (v:=v) (o:=(atKey xs k).map (·.2)) (by rw[l];exact rel.val k)
obtain⟨p,hp,hp2⟩:=mI.mp hw
refine wpAny_getItem_heap (p7 hu) (q7Z I.hok eb) dd hp ?_
rw[hp2]
exact h w' _ (I.tok _) rw')
theorem d_in{Q:Value→Shared→Prop}(hu:A.units+1<cLine)(I:Inv X pins σ H s)(g:DGet H a y o)(ry:RelV y u)(h:∀s',Inv X pins σ H s'→Q (.bool o.isSome) s'):
 wpAny (model X.prog X.w) A (compareOp .In u (.ref a)) Q E s:=by(
rcases g with⟨kvs,k,e,ey,l⟩|⟨kvs,k,b,e,ey,eb,l⟩
·subst ey;obtain⟨z,hd,vs,rel,dd⟩:=q7H I.hok e;refine wpAny_in_of (q7F ry) hd dd.mapOf ?_;rw[←(rel.val k).isSome_eq,←l];exact h _ (I.tok _)
subst ey
cases(show u=Value.ref b from ry)
obtain⟨z,hd,xs,rel,dd⟩:=q90 I.hok e
refine wpAny_in_heap (p7 hu) (q7Z I.hok eb) hd dd ?_
have q:=(rel.val k).isSome_eq
rw[xD]at q
rw[←q,←l]
exact h _ (I.tok _))
theorem q80{h':Heap}{t':Nat}{ob:HO}(I:Inv X pins σ H s)(mu:Mut (H a))(hs:Heap.SameBut a s.heap h')(he:∃q,h'.get? a=some q)(new:jH X.prog X.w (upd H a ob) h' a ob):
 Inv X pins σ (upd H a ob) { s with heap:=h',toks:=t' }:=I.write (x:=a) (e:=a) mu (.inl rfl) (λb q hb z=>(hs.2 b hb).trans z) he new
theorem qDH{P:Program}{w:World}{H':Hp}{h':Heap}{kvs:List (Key×V)}{vs:List (Key×Value)}(z:kvs.length≤sizeLine)(hd:(a==sysModules)=false)(rel:KV kvs vs)(dd:h'.DictOf (jP P w) a vs):
 jH P w H' h' a (.dK kvs):=⟨z,hd,vs,rel,dd⟩
theorem qCA{H':Hp}{Q:Unit→Shared→Prop}(hu:A.units+1<cLine)(I:Inv X pins σ H s)(g:DPut H a y v H')(ry:RelV y u)(rv:RelV v r)(h:∀s',Inv X pins σ H' s'→Q () s'):
 wpAny (model X.prog X.w) A (setItem (.ref a) u r) Q E s:=by(
rcases g with⟨kvs,k,e,ey,l,eH⟩|⟨kvs,k,b,e,ey,eb,l,eH⟩
·subst ey eH;obtain⟨z,hd,vs,rel,dd⟩:=q5J I.hok e;have hz:vs.length≤sizeLine:=by rw[←rel.length];exact z
 have hl:(putK kvs k v).length≤sizeLine:=by have:=q4C kvs k v;lia
 refine wpAny_setItem_pairs (hsz:=hz) (q7F ry) dd λh' dd' hs=>h _ ?_;have he:∃q,h'.get? a=some q:=let⟨q,_,_,hq,_⟩:=dd';⟨q,hq⟩
 exact q80 I (by rw[e];exact True.intro) hs he (qDH hl hd (rel.put k rv) dd')
subst ey eH
cases(show u=Value.ref b from ry)
obtain⟨z,hd,xs,rel,dd⟩:=qK6 I.hok e
have hz:xs.length≤sizeLine:=by rw[←lN rel];exact z
have hl:(putK kvs k v).length≤sizeLine:=by have:=q4C kvs k v;lia
refine wpAny_setItem_heap (hsz:=hz) (p7 hu) (q7Z I.hok eb) dd λh' dd' hs=>h _ ?_
obtain⟨q,es,ep,hq,h2,h3,h4,_,h5⟩:=dd'
refine q80 I (by rw[e];exact True.intro) hs ⟨q,hq⟩ ⟨hl,hd,_,(rel.put k eb rv).keeps λc ys ec=>?_,q,es,ep,hq,h2,h3,h4,h5⟩
rw[qC (jS ec e (λz=>nomatch z))]
exact ec)
end
section
variable{X:Cx}{pins:List (Addr×Obj)}{σ:St}{H:Hp}{s:Shared}{a:Addr}{kvs:List (Key×V)}{k:Key}{u:Value}{A:Around}{E:Value→Shared→Prop}
theorem qHG{v:V}{more:List Value}{Q:Value→Shared→Prop}(I:Inv X pins σ H s)(e:H a=some (.dK kvs))(ry:RelV (kV k) u)(l:valV kvs k=some v)(hm:more=[]∨∃x,more=[x])
 (h:∀w' s',Inv X pins σ (upd H a (.dK (q2O kvs k))) s'→RelV v w'→Q w' s'):wpAny (model X.prog X.w) A (call (.builtin "dict.pop") (.ref a::u::more)) Q E s:=by(
obtain⟨z,hd,vs,rel,dd⟩:=q5J I.hok e
obtain⟨w',hw,rw'⟩:=RelO.some_of (v:=v) (o:=valueAt vs k) (by rw[←l];exact rel.val k)
have hp:(keyPart u).isSome=true:=by
 cases k with
 |inl i=>obtain⟨t,q⟩:=(show ∃t,u=Value.int i t from ry);subst q;rfl
 |inr x=>obtain⟨t,q⟩:=(show ∃t,u=Value.str x t from ry);subst q;rfl
have ha:argsOk "dict.pop" ⟨.ref a::u::more,[]⟩:=by
 rcases hm with q|⟨x,q⟩
 ·subst q;exact PySem.F.args_dict_pop_2 _ _
 subst q;exact sI _ _ _
refine xE wW dd.typeIs nH ha (meets_dict_pop_there (jP X.prog X.w) a (q7F ry) more hm hp)
 ⟨vs,w',dd,by rw[←rel.length];exact z,hw,λh' dd' hs=>h w' _ ?_ rw'⟩
have he:∃q,h'.get? a=some q:=let⟨q,_,_,hq,_⟩:=dd';⟨q,hq⟩
exact q80 I (by rw[e];exact True.intro) hs he (qDH (mF (qDG kvs k) z) hd (rel.drop k) dd'))
theorem qI5{r:Value}{Q:Value→Shared→Prop}(I:Inv X pins σ H s)(e:H a=some (.dK kvs))(ry:RelV (kV k) u)(l:valV kvs k=none)(h:∀s',Inv X pins σ H s'→Q r s'):
 wpAny (model X.prog X.w) A (call (.builtin "dict.pop") [.ref a,u,r]) Q E s:=by(
obtain⟨z,hd,vs,rel,dd⟩:=q5J I.hok e
have hn:valueAt vs k=none:=RelO.none_of (by rw[←l];exact rel.val k)
have hp:(keyPart u).isSome=true:=by
 cases k with
 |inl i=>obtain⟨t,q⟩:=(show ∃t,u=Value.int i t from ry);subst q;rfl
 |inr x=>obtain⟨t,q⟩:=(show ∃t,u=Value.str x t from ry);subst q;rfl
exact xE wW dd.typeIs nH (sI _ _ _) (meets_dict_pop_default (jP X.prog X.w) a (q7F ry) hd hp r) ⟨vs,dd,hn,h _ (I.tok _)⟩)
theorem qK7{Q:Value→Shared→Prop}(I:Inv X pins σ H s)(e:Rd H a (.dK kvs))(h:∀t s',Inv X pins σ H s'→Q (.int kvs.length t) s'):wpAny (model X.prog X.w) A (call (.builtin "len") [.ref a]) Q E s:=by(
obtain⟨z,hd,vs,rel,dd⟩:=q7H I.hok e
refine call_len_dict hd dd (by rw[←rel.length];rw[gG]at z;lia) ?_
rw[←rel.length]
exact h _ _ (I.tok _))
end
noncomputable def NoSl(i:Expr):Prop:=∀ov iv,subscripted i false ov iv=operate [ov,iv] (getItem ov iv)
theorem qFN{prog:Program}{w:World}{A:Around}{E:Value→Shared→Prop}{s:Shared}{env:Env}{value slice:Expr}{pos:Pos}{T id:String}{Q:Value→Shared→Prop}
 (hl:typeLookup (.type T) "__getitem__"=pure (some (.builtin id))) (hs:NoSl slice)
 (h:wpAny (model prog w) A (eval value env) (λo s₁=>wpAny (model prog w) A (eval slice env) (λi s₂=>s₂.TypeIs o T∧wpAny (model prog w) A (getItem o i) Q E s₂) E s₁) E s):
 wpAny (model prog w) A (eval (.Subscript value slice pos) env) Q E s:=by(
refine Subscript_ (g8 h (λo s₁ h₁=>g8 h₁ (λi s₂ h₂=>?_) λ_ _ x=>x) λ_ _ x=>x)
obtain⟨hT,h₂⟩:=h₂
unfold subscriptTail
refine hV ?_
rw[getitemInPython_of_ne hT.not_modules]
refine hV (wpAny_specialOf hT hl ?_)
have fin:wpAny (model prog w) A (subscripted slice false o i) (λr s₃=>wpAny (model prog w) A (letTemporaryGo value o r >>= λ_=>pure r) Q E s₃) E s₂:=by rw[hs o i];exact wpAny_operating (g8 h₂ (λr s₃ h₃=>hV (wpAny_letTemporaryGo (kY h₃))) λ_ _ x=>x)
first
 |exact kY (hV fin)
 |exact hV (kY (hV fin))
 |exact hV fin)
theorem q91{X:Cx}{pins:List (Addr×Obj)}{σ:St}{H:Hp}{s:Shared}{a:Addr}{y:V}{o:Option V}(I:Inv X pins σ H s)(g:DGet H a y o):s.TypeIs (.ref a) "dict":=by(
rcases g with⟨kvs,k,e,_,_⟩|⟨kvs,k,b,e,_,_,_⟩
·obtain⟨_,_,vs,_,dd⟩:=q7H I.hok e;exact dd.typeIs
obtain⟨_,_,xs,_,dd⟩:=q90 I.hok e
exact dd.typeIs)
noncomputable def qK8(td ty:TE):TE:=λσ H Q=>td σ H λx H1=>ty σ H1 λy H2=>∃a v,x=.ref a∧DGet H2 a y (some v)∧Q v H2
noncomputable def tDIn(ty td:TE):TE:=λσ H Q=>ty σ H λy H1=>td σ H1 λx H2=>∃a o,x=.ref a∧DGet H2 a y o∧Q (.bl o.isSome) H2
noncomputable def qK9(td ty tv:TE):TS:=λD σ H=>tv σ H λv H1=>td σ H1 λx H2=>ty σ H2 λy H3=>∃a H4,x=.ref a∧DPut H3 a y v H4∧D.nx σ H4
section
variable{X:Cx}{o i e value:Expr}{pos pos' tpos:Pos}{td ty tv:TE}
theorem qFO(hu:X.A.units+1<cLine)(ho:PE X o td)(hi:PE X i ty)(hs:NoSl i):PE X (.Subscript o i pos) (qK8 td ty):=by(
intro pins s σ H Q I h
refine qFN PySem.F.slot_dict_getitem.lookup hs (thn (ho pins s σ H _ I h) λu s1 ⟨x,H1,I1,rx,q1⟩=>thn (hi pins s1 σ H1 _ I1 q1) λiv s2 hZ=>?_)
obtain⟨y,H2,I2,ry,a,v,ex,g,q2⟩:=hZ
subst ex
obtain rfl:u=Value.ref a:=rx
exact⟨q91 I2 g,qC9 hu I2 g ry λw' s3 I3 rw'=>⟨v,H2,I3,rw',q2⟩⟩)
theorem qA8(hu:X.A.units+1<cLine)(hi:PE X i ty)(ho:PE X o td):PC X .In i o (tDIn ty td):=by(
intro pins s σ H Q I h
refine thn (hi pins s σ H _ I h) λiv s1 ⟨y,H1,I1,ry,q1⟩=>thn (ho pins s1 σ H1 _ I1 q1) λu s2 hZ=>?_
obtain⟨x,H2,I2,rx,a,ov,ex,g,q2⟩:=hZ
subst ex
obtain rfl:u=Value.ref a:=rx
exact d_in hu I2 g ry λs3 I3=>⟨.bl ov.isSome,H2,I3,rfl,q2⟩)
theorem qB5(hu:X.A.units+1<cLine)(ho:PE X o td)(hi:PE X i ty)(hv:PE X value tv)(hs:swapsWith value (some (.Subscript o i pos')) pos.line X.env=pure false):
 PS X (.Assign [.Subscript o i pos'] value pos) (qK9 td ty tv):=by(
intro pins s σ H D I h
refine wpAny_Assign_Subscript (thn (hv pins s σ H _ I h) λr s1 ⟨v,H1,I1,rv,q1⟩=>thn (ho pins s1 σ H1 _ I1 q1) λu s2 ⟨x,H2,I2,rx,q2⟩=>thn (hi pins s2 σ H2 _ I2 q2) λiv s3 hZ=>?_) hs
obtain⟨y,H3,I3,ry,a,H4,ex,g,q3⟩:=hZ
subst ex
obtain rfl:u=Value.ref a:=rx
exact qCA hu I3 g ry rv λs4 I4=>⟨σ,H4,I4,q3⟩)
end
theorem qDI{P:Program}{w:World}{H:Hp}(h:Heap)(hb:sysModules<h.objs.size):jH P w H (h.push { cls:=.type "dict",data:=.dict #[] }) h.objs.size (.dK []):=⟨mU _,rA.mpr (r6 (mP hb)),[],.nil,Heap.DictOf.new h⟩
noncomputable def qI6:TE:=λ_ H Q=>∀p,H p=none→Q (.ref p) (upd H p (.dK []))
section
variable{X:Cx}{pos:Pos}
theorem q5K:PE X (.Dict [] [] pos) qI6:=λpins s σ H Q I h=>wpAny_Dict_empty ⟨.ref s.heap.objs.size,_,I.laid (a:=s.heap.objs.size) (o:=.dK []) (t':=s.toks) (λ_ _ q=>kE _ q) (kN _) (qDI s.heap I.big),rfl,h _ (I.hok.fresh (kN _))⟩
end
structure M1(X:Cx)(o:Expr)(m:Str)(apos:Pos)(e:Expr)(cpos:Pos):Prop where
base:attributeBase o m X.env (eval o X.env)=eval o X.env
few:((backTo cpos (starEach [e] X.env)).all (λx=>!x.1)&&(backToKw cpos (keywordEach [] X.env)).all (λx=>x.1.isSome)
 &&decide (([e]:List Expr).length+([]:List Keyword).length+(if([]:List Keyword).isEmpty then 0 else 1)<30))=true
line:(apos.endLine==cpos.line)=true
trees:backTo cpos (starEach [e] X.env)=[(false,eval e X.env)]
structure M2(X:Cx)(o:Expr)(m:Str)(apos:Pos)(e f:Expr)(cpos:Pos):Prop where
base:attributeBase o m X.env (eval o X.env)=eval o X.env
few:((backTo cpos (starEach [e,f] X.env)).all (λx=>!x.1)&&(backToKw cpos (keywordEach [] X.env)).all (λx=>x.1.isSome)
 &&decide (([e,f]:List Expr).length+([]:List Keyword).length+(if([]:List Keyword).isEmpty then 0 else 1)<30))=true
line:(apos.endLine==cpos.line)=true
trees:backTo cpos (starEach [e,f] X.env)=[(false,eval e X.env),(false,eval f X.env)]
noncomputable def IsD(H:Hp)(a:Addr):Prop:=(∃kvs,Rd H a (.dK kvs))∨∃kvs,Rd H a (.dT kvs)
theorem qDJ{X:Cx}{pins:List (Addr×Obj)}{σ:St}{H:Hp}{s:Shared}{a:Addr}(I:Inv X pins σ H s)(d:IsD H a):
 s.TypeIs (.ref a) "dict"∧(∀b,Value.ref a=.ref b→∃ob,s.heap.get? b=some ob∧ob.dict=none)∧(a==sysModules)=false:=by(
rcases d with⟨kvs,e⟩|⟨kvs,e⟩
·obtain⟨_,hd,vs,_,dd⟩:=q7H I.hok e;refine⟨dd.typeIs,λb q=>?_,hd⟩;cases q;obtain⟨ob,_,_,h1,h2,_⟩:=dd;exact⟨ob,h1,h2.2.1⟩
obtain⟨_,hd,xs,_,dd⟩:=q90 I.hok e
refine⟨dd.typeIs,λb q=>?_,hd⟩
cases q
obtain⟨ob,_,_,h1,h2,_⟩:=dd
exact⟨ob,h1,h2.2.1⟩)
noncomputable def qI7(td ty:TE):TE:=λσ H Q=>td σ H λx H1=>∃a,x=.ref a∧IsD H1 a∧ty σ H1 λy H2=>∃kvs k v,H2 a=some (.dK kvs)∧y=kV k∧valV kvs k=some v∧Q v (upd H2 a (.dK (q2O kvs k)))
noncomputable def qI8(td ty tx:TE):TE:=λσ H Q=>td σ H λx H1=>∃a,x=.ref a∧IsD H1 a∧ty σ H1 λy H2=>tx σ H2 λz H3=>∃kvs k,H3 a=some (.dK kvs)∧y=kV k∧(∀v,valV kvs k=some v→Q v (upd H3 a (.dK (q2O kvs k))))∧(valV kvs k=none→Q z H3)
section
variable{X:Cx}{o e f:Expr}{apos cpos:Pos}{td ty tx:TE}
theorem qDK(ho:PE X o td)(he:PE X e ty)(m:M1 X o "pop" apos e cpos):PE X (.Call (.Attribute o "pop" apos) [e] [] cpos) (qI7 td ty):=by(
intro pins s σ H Q I h
refine xF m.base m.few m.line cV wW nP (thn (ho pins s σ H _ I h) λu s1 hZ=>?_)
obtain⟨x,H1,I1,rx,a,ex,d,q1⟩:=hZ
subst ex
obtain rfl:u=Value.ref a:=rx
obtain⟨t1,t2,_⟩:=qDJ I1 d
refine⟨t1,t2,?_⟩
rw[m.trees]
refine wK rfl (pJ (cP (thn (he pins s1 σ H1 _ I1 q1) λiv s2 ⟨y,H2,I2,ry,kvs,k,v,ea,ey,l,q2⟩=>sE ?_)))
subst ey
exact qHG I2 ea ry l (.inl rfl) λw' s3 I3 rw'=>⟨v,_,I3,rw',q2⟩)
theorem qDL(ho:PE X o td)(he:PE X e ty)(hf:PE X f tx)(m:M2 X o "pop" apos e f cpos):PE X (.Call (.Attribute o "pop" apos) [e,f] [] cpos) (qI8 td ty tx):=by(
intro pins s σ H Q I h
refine xF m.base m.few m.line cV wW nP (thn (ho pins s σ H _ I h) λu s1 hZ=>?_)
obtain⟨x,H1,I1,rx,a,ex,d,q1⟩:=hZ
subst ex
obtain rfl:u=Value.ref a:=rx
obtain⟨t1,t2,_⟩:=qDJ I1 d
refine⟨t1,t2,?_⟩
rw[m.trees]
refine wK rfl (pJ (cP (thn (he pins s1 σ H1 _ I1 q1) λiv s2 ⟨y,H2,I2,ry,q2⟩=>cP (thn (hf pins s2 σ H2 _ I2 q2) λfv s3 ⟨z,H3,I3,rz,kvs,k,ea,ey,q3,q4⟩=>sE ?_))))
subst ey
cases l:valV kvs k with
|some v=>exact qHG I3 ea ry l (.inr ⟨fv,rfl⟩) λw' s4 I4 rw'=>⟨v,_,I4,rw',q3 v l⟩
|none=>exact qI5 I3 ea ry l λs4 I4=>⟨z,H3,I4,rz,q4 l⟩)
end
end L2
namespace Att
open PySem PySem.W PySem.Calls PyProof.Rows
theorem q4J{P:Params}{h:Heap}:∀(ns:List Int) (vs:List Value),WellAll P h vs (ns.map WData.int)→IntsAre vs ns:=by(
intro ns
induction ns with
|nil=>intro vs w;rw[aY]at w;cases w;exact .nil
|cons n ns ih=>
 intro vs w;rw[mL]at w;cases w with
 |cons a b=>cases a;exact .cons _ _ (ih _ b))
theorem qCB{l:OpenLaw}{n:Nat}(hn:l.most=some n){P:Params}{h:Heap}{args:List WData}{vals:List Value}
 (hpre:l.row.toRowW.claim.pre args=true) (hwl:WellAll P h vals args):
 ∃a vs ns,vals=[Value.ref a]∧args=[WData.list (ns.map WData.int)]∧h.get? a=some { cls:=.type "list",data:=.seq vs.toArray }∧IntsAre vs ns∧ns.length≤n:=by(
have hsh:WShape.hasAll [] args [.list .int]=true:=(pre_splitW hpre).1
have hc:l.pre.holds [] { args:=args } =true:=(pre_splitW hpre).2
obtain⟨d,r,rfl,h1,h2⟩:=hasAllW_cons hsh
obtain rfl:=hasAllW_nil h2
obtain⟨xs,rfl,h3⟩:=hasW_list h1
obtain⟨ns,rfl⟩:=items_int h3
have hlen:ns.length≤n:=by
 unfold OpenLaw.pre at hc;have h4:(WTm.not (.lt (.lit (.int (n:Int))) (.len (.arg 0)))).holds [] { args:=[.list (ns.map .int)] } =true:=by have h4:=(holds_andW hc).1;rw[hn]at h4;exact h4
 have h5:=condW_of h4 (w_not (w_lt w_lit (w_len_list (w_arg rfl))));rw[kB]at h5;refine Nat.le_of_not_lt λq=>?_;have q':(n:Int)<((ns.length:Nat):Int):=by lia
 first
  |(rw[hG q']at h5;exact absurd h5 (by decide))
  |(simp at h5;lia)
cases hwl with
|cons w1 w2=>
 cases w2;cases w1 with
 |list ho hall=>exact⟨_,_,ns,rfl,rfl,ho,q4J ns _ hall,hlen⟩)
theorem qCC(l:OpenLaw)(args:List WData):l.row.toRowW.claim.post args (.bool true) args=true:=postW_of (r:=l.row.toRowW) (X:=(true==true))
  (show WShape.has [] (.bool true) .bool=true by first|rfl|decide|simp[WShape.has,WShape.arms,WShape.armsAll])
  (show(WTm.eq .res (.lit (.bool true))).value [] { args:=args,res:=some (.bool true),after:=args } =some (.bool (true==true))from w_eq_bool (w_res rfl) w_lit) rfl
theorem attach_call{l:OpenLaw}{n:Nat}{q:Program}{loose:List Str}{XP:(Str→Option Value)→Heap→Prop}{YP:World→Heap→Prop}{d:DefRec}
 (hn:l.most=some n) (hdf:d.params.defaults=[])
 (call:∀(w:World) (s₀ s₁:Shared) (mg mb:Str→Option Value) (fa:Addr) (o:Obj) (pm cd doc:Value) (a:Addr) (vs:List Value) (ns:List Int),Ground q loose [] XP w s₀ mg mb s₁.heap→YP w s₁.heap→s₁.heap.get? fa=some o→o.data=.func (docDef d.name d.params d.body d.scope pm cd doc)→s₁.heap.CodeRec cd d.name→mg d.name=some (.ref fa)→s₁.heap.get? a=some { cls:=.type "list",data:=.seq vs.toArray }→IntsAre vs ns→ns.length≤n→s₁.gens=#[]→codeAny (model l.prog w) callerA (.call (.ref fa) ⟨[.ref a],[]⟩) (λr s'=>r=.ok (.ret (.bool true))∧OldK s₁.heap s'.heap∧s'.os=s₁.os∧AllBare s'.gens) s₁):
 WalkO q loose XP YP l.row.toRowW d [] (λf vs=>PySem.call f vs):=by(
intro w s₀ s₁ mg mb G Y fa o pm cd doc dV kV ho hd hcd hD hmg hg args vals as hpre hlay hrd hwl hlo
obtain rfl:dV=.none:=Dflts.none hD hdf
obtain rfl:kV=.none:=Dflts.noKw hD
obtain⟨a,vs,ns,rfl,rfl,hobj,hints,hlen⟩:=qCB hn hpre hwl
refine enter_call (cY (call w s₀ s₁ mg mb fa o pm cd doc a vs ns G Y ho (fd_plain hd) hcd hmg hobj hints hlen hg) λr s' hq=>?_)
obtain⟨rfl,h2,h3,h4⟩:=hq
exact⟨.inl ⟨.bool true,.bool true,[],rfl,λ_=>rfl,.bool true,qCC l _,λ_=>⟨List.Pairwise.nil,λ_ hm=>(nomatch hm)⟩⟩,h2,h3,h4⟩)
end Att
namespace L2
open PySem PySem.Spec PyProof.Rows
theorem q7I:∀{vs:List Value} {ns:List Int},IntsAre vs ns→Vals (ns.map V.int) vs
|_,_,.nil=>.nil
|_,_,.cons n t h=>.cons ⟨t,rfl⟩ (q7I h)
noncomputable def qL(s:Stmt)(j:Nat):Stmt:=match s with
| .ClassDef _ _ _ body _ _ _ _ _ _ _=>body.getD j (.Pass ⟨0,0,0,0⟩)
|_=>.Pass ⟨0,0,0,0⟩
noncomputable def y9(s:Stmt):Arguments:=match s with
| .FunctionDef _ a _ _ _ _ _ _ _ _=>a
|_=>{ posonlyargs:=[],args:=[],vararg:=none,kwonlyargs:=[],kw_defaults:=[],kwarg:=none,defaults:=[] }
noncomputable def jM(s:Stmt):List Stmt:=match s with
| .FunctionDef _ _ b _ _ _ _ _ _ _=>b
|_=>[]
noncomputable def qE(s:Stmt):Scope:=match s with
| .FunctionDef _ _ _ _ _ _ sc _ _ _=>sc
|_=>{ kind:=.function,names:=[],isGenerator:=false,isCoroutine:=false }
noncomputable abbrev CX0:CXT:=λ_ _ _ _ _ _=>False
noncomputable abbrev E0:XK:=λ_ _ _=>False
theorem qK{X:Cx}:q0M CX0 X E0:=λ_ _ _ _ _ _ _ h=>h.elim
theorem q5L{A:Around}{k:Nat}(hr:Room k A):A.units+1<cLine:=rJ (Nat.add_le_add_left (by decide:1≤64) _) hr.units
section
variable{X:Cx}
theorem pv(i:Nat){x:Str}{pos:Pos}(hN:X.N[i]?=some x:=by rfl)(hv:Vis X.env.scope x:=by first|exact Or.inl rfl|exact Or.inr (Or.inl rfl)|exact Or.inr (Or.inr rfl))(hd:(x==("__debug__":Str))=false:=by decide)
 (hcd:(x==("__classdict__":Str))=false:=by decide):PE X (.Name x pos) (tVar i):=qHU hN hv hd hcd
end
theorem iteF{A B:Prop}(h:B):if false=true then A else B:=by rw[kF kO];exact h
theorem iteT{A B:Prop}(h:A):if true=true then A else B:=by rw[kJ rfl];exact h
theorem ite2{c A B:Prop}[Decidable c](h1:c→A)(h2:¬c→B):if c then A else B:=by(
by_cases h:c
·rw[kJ h];exact h1 h
rw[kF h]
exact h2 h)
noncomputable def Same(H H':Hp):Prop:=∀b o,H b=some o→H' b=some o
theorem Same.refl(H:Hp):Same H H:=λ_ _ h=>h
theorem Same.trans{H H1 H2:Hp}(a:Same H H1)(b:Same H1 H2):Same H H2:=λc o h=>b c o (a c o h)
theorem Same.free{H H':Hp}(e:Same H H'){l:Addr}(h:H' l=Option.none):H l=Option.none:=by(
cases q:H l with
|none=>rfl
|some o=>rw[e l o q]at h;cases h)
theorem Same.seq{K:PySem.W.Frag}{H H':Hp}{a:Addr}{xs:List V}(e:Same H H')(h:SqL K H a xs):SqL K H' a xs:=by(
rcases h with(h|⟨o,h⟩)|h
·exact .inl (.inl (e _ _ h))
·exact .inl (.inr ⟨o,e _ _ h⟩)
exact .inr h)
section
variable{X:Cx}
theorem qCD:q1A X (.builtin "len") (λxs H Q=>∃a kvs,xs=[V.ref a]∧H a=some (.dK kvs)∧Q (.int kvs.length) H):=by(
intro pins s σ H xs us Q I r h
obtain⟨a,kvs,rfl,ha,q⟩:=h
obtain⟨u,rfl,ru⟩:=q05 r
cases ru
exact qK7 I (.inl ha) λt s' I'=>⟨.int kvs.length,H,I',⟨t,rfl⟩,q⟩)
end
section
variable{X:Cx}
theorem q1C:PGet X (rIxL X.K):=by(
intro pins s σ H o i ov iv Q I ro ri h
obtain⟨p,xs,k,z,rfl,rfl,hq,he,q⟩:=h
cases ro
obtain⟨t,rfl⟩:=ri
obtain⟨its,r,pl,hz⟩:=I.list hq
obtain⟨j,h1,h2,h3,h4,h5⟩:=q7X he
obtain⟨w,ew,rw'⟩:=r.get h2
have hl:=r.length
have hn:=q5E
have fin:EP X pins σ Q w s:=⟨z,H,I,rw',q⟩
by_cases h0:0≤k
·have hj:k.toNat=j:=by rw[lA h0 h5]at h1;exact kM h1
 exact wpAny_getItem_list pl.isList h0 (by lia) (by rw[hj];simpa using ew) fin
have hj:(k+(its.toArray.size:Int)).toNat=j:=by rw[sY (by lia) h4]at h1;rw[mD,←hl];exact kM h1
exact nG pl.isList (by lia) (by rw[mD]<;>lia) (by lia) (by rw[hj];simpa using ew) fin)
end
noncomputable def isW:V→Bool
| .int _=>true
|_=>false
noncomputable def isI:V→Bool
| .int _=>true
| .bl _=>true
|_=>false
noncomputable def isB:V→Bool
| .bl _=>true
|_=>false
noncomputable def isS:V→Bool
| .str _=>true
|_=>false
inductive Knd(H:Hp):V→Prop where
|non:Knd H .non
|bl (b:Bool):Knd H (.bl b)
|int (i:Int):Knd H (.int i)
|str (x:Str):Knd H (.str x)
|lst {a:Addr} {xs:List V} (e:H a=some (.lst xs)):Knd H (.ref a)
|tup {a:Addr} {xs:List V} (e:H a=some (.tup xs)):Knd H (.ref a)
section
variable{K:PySem.W.Frag}{H:Hp}{x:V}
theorem qI9:PySem.W.kitOne K (.type "NoneType") (.type "int")=some false:=by kernel_rfl
theorem qIA:PySem.W.kitOne K (.type "bool") (.type "int")=some true:=by kernel_rfl
theorem qIB:PySem.W.kitOne K (.type "int") (.type "int")=some true:=by kernel_rfl
theorem qIC:PySem.W.kitOne K (.type "str") (.type "int")=some false:=by kernel_rfl
theorem qID:PySem.W.kitOne K (.type "list") (.type "int")=some false:=by kernel_rfl
theorem qIE:PySem.W.kitOne K (.type "tuple") (.type "int")=some false:=by kernel_rfl
theorem qIF:PySem.W.kitOne K (.type "NoneType") (.type "bool")=some false:=by kernel_rfl
theorem qIG:PySem.W.kitOne K (.type "bool") (.type "bool")=some true:=by kernel_rfl
theorem qIH:PySem.W.kitOne K (.type "int") (.type "bool")=some false:=by kernel_rfl
theorem qII:PySem.W.kitOne K (.type "str") (.type "bool")=some false:=by kernel_rfl
theorem qIJ:PySem.W.kitOne K (.type "list") (.type "bool")=some false:=by kernel_rfl
theorem qIK:PySem.W.kitOne K (.type "tuple") (.type "bool")=some false:=by kernel_rfl
theorem qIL:PySem.W.kitOne K (.type "NoneType") (.type "str")=some false:=by kernel_rfl
theorem qIM:PySem.W.kitOne K (.type "bool") (.type "str")=some false:=by kernel_rfl
theorem qIN:PySem.W.kitOne K (.type "int") (.type "str")=some false:=by kernel_rfl
theorem qIO:PySem.W.kitOne K (.type "str") (.type "str")=some true:=by kernel_rfl
theorem qIP:PySem.W.kitOne K (.type "list") (.type "str")=some false:=by kernel_rfl
theorem qIQ:PySem.W.kitOne K (.type "tuple") (.type "str")=some false:=by kernel_rfl
theorem Knd.ty(k:Knd H x):∃t,TyOf K H x t∧PySem.W.kitOne K t (.type "int")=some (isI x)∧PySem.W.kitOne K t (.type "bool")=some (isB x)∧PySem.W.kitOne K t (.type "str")=some (isS x):=by(
cases k with
|non=>exact⟨_,.non,qI9,qIF,qIL⟩
|bl b=>exact⟨_,.bl b,qIA,qIG,qIM⟩
|int i=>exact⟨_,.int i,qIB,qIH,qIN⟩
|str y=>exact⟨_,.str y,qIC,qII,qIO⟩
|lst e=>exact⟨_,.lst e,qID,qIJ,qIP⟩
|tup e=>exact⟨_,.tup e,qIE,qIK,qIQ⟩)
theorem qIR(x:V):(if isI x=true then !isB x else false)=isW x:=by cases x<;>rfl
end
noncomputable def jX(ns:List Int)(k:Int):Int:=ns.getD k.toNat 0
theorem qCE{ns:List Int}{k:Int}(h0:0≤k)(h:k<ns.length):atI (ns.map V.int) k=some (.int (jX ns k)):=by(
obtain⟨j,rfl⟩:=wD h0
refine v8 ?_
have hj:j<ns.length:=by lia
unfold jX
simp[hj])
theorem qA9{ns:List Int}{k:Int}(h0:0≤k)(h:¬k<ns.length):jX ns k=0:=by unfold jX;rw[kL,rM (by lia)];rfl
theorem Same.upd{H:Hp}{p:Addr}{o:HO}(h:H p=none):Same H (upd H p o):=λb u e=>by rw[qC (qH e h)];exact e
noncomputable abbrev NewO(H:Hp)(o:HO)(Q:VK):Prop:=∀p H',H p=none→Same H H'→H' p=some o→Q (.ref p) H'
theorem NewO.at{H:Hp}{o:HO}{Q:VK}(q:NewO H o Q)(p:Addr)(n:H p=none):Q (.ref p) (upd H p o):=q p _ n (Same.upd n) qG
section
variable{X:Cx}{e:Expr}{es:List Expr}{t:TA}{pos:Pos}
noncomputable def qKA(t:TA):TE:=λσ H Q=>t σ H λxs H1=>xs.length≤sizeLine∧NewO H1 (.tup xs) Q
noncomputable def qKB(t:TA):TE:=λσ H Q=>t σ H λxs H1=>xs.length≤sizeLine∧NewO H1 (.lst xs) Q
theorem uJ{x1}(h:PA X es t):PE X (.Tuple es x1 pos) (qKA t):=by(
intro pins s σ H Q I hq
refine wpAny_Tuple_spliced (thn (h pos pins s σ H _ I hq) λus s1 ⟨xs,H1,I1,r,z,q⟩=>⟨by rw[←r.length];exact z,?_⟩)
have hf:H1 s1.heap.objs.size=none:=I1.hok.fresh (kN _)
refine⟨.ref s1.heap.objs.size,upd H1 s1.heap.objs.size (.tup xs),I1.laid (t':=s1.toks) (λb u e=>kE _ e) (kN _) ?_,rfl,q.at _ hf⟩
exact⟨z,us,r,⟨_,mJ _ rfl,rfl,_,rfl⟩⟩)
theorem jR(h:PA X es t):PE X (.List es pos) (qKB t):=by(
intro pins s σ H Q I hq
refine wpAny_List_spliced (thn (h pos pins s σ H _ I hq) λus s1 ⟨xs,H1,I1,r,z,q⟩=>⟨by rw[←r.length];exact z,?_⟩)
have hf:H1 s1.heap.objs.size=none:=I1.hok.fresh (kN _)
refine⟨.ref s1.heap.objs.size,upd H1 s1.heap.objs.size (.lst xs),I1.laid (t':=s1.toks) (λb u e=>kE _ e) (kN _) ?_,rfl,q.at _ hf⟩
exact⟨z,us,0,r,mJ _ rfl⟩)
noncomputable def qKC:R2:=λx y H Q=>∃l k v,x=.ref l∧y=.int k∧H l=some (.lst [v])∧0≤k∧k≤100000∧NewO H (.lst (List.replicate k.toNat v)) Q
theorem q92{α:Type}(v:α):∀k:Nat,(List.replicate k [v]).flatten=List.replicate k v
|0=>rfl
|k+1=>by rw[dP,wX,q92 v k,dP];rfl
theorem q0N:OpR X (binaryOp .Mult) qKC:=by(
intro pins s σ H x y v u Q I rx ry hZ
obtain⟨l,k,z,e1,e2,h1,h2,h3,q⟩:=hZ
refine qI4 pins s σ H x y v u Q I rx ry ⟨l,k,[z],e1,e2,h1,by lia,by lia,?_,?_⟩
·rw[gG,gD];lia
rw[q92]
exact q.at)
theorem zM:q1A X (.type "list") (λxs H Q=>∃p ys,xs=[.ref p]∧(SqL X.K H p ys∨SqT X.K H p ys)∧NewO H (.lst ys) Q):=by intro pins s σ H xs us Q I r hZ;obtain⟨p,ys,e,h,q⟩:=hZ;exact q7Y pins s σ H xs us Q I r ⟨p,ys,e,h,q.at⟩
end
noncomputable def qFP:Sp:=λvs H Q _=>∃x,vs=[x]∧Knd H x∧Q (.bl (isW x)) H
noncomputable def inB(x:V)(lo hi:Int):Bool:=match x with
| .int i=>decide (lo≤i)&&decide (i≤hi)
|_=>false
noncomputable def qDM:Sp:=λvs H Q _=>∃x lo hi,vs=[x,.int lo,.int hi]∧Knd H x∧Q (.bl (inB x lo hi)) H
noncomputable def qIS(K:PySem.W.Frag):Sp:=λvs H Q _=>∃a ns k,vs=[.ref a,.int k]∧SqL K H a (ns.map V.int)∧0≤k∧Q (.int (jX ns k)) H
end L2
namespace L2
open PySem
theorem lt2{vs:Array Value}{v:Value}(h:vs[2]?=some v):1<vs.size:=xG (cF.mp h).1
noncomputable def ExO(h:Heap)(e:Addr)(C:Value)(od:Option Addr)(vs:Array Value):Prop:=∃oe,h.get? e=some oe∧oe.cls=C∧oe.dict=od∧oe.data=.fields vs∧vs[2]?=some .none
noncomputable def TrO(h:Heap)(e T:Addr)(vs:Array Value)(f:Value):Prop:=vs[1]?=some (.ref T)∧T≠e∧∃oT ts,h.get? T=some oT∧oT.data=.fields ts∧ts[3]?=some f
noncomputable def Air(L:Addr)(h:Heap)(e:Addr)(C:Value)(od:Option Addr):Option Addr→Prop
|none=>∃vs,ExO h e C od vs∧vs[1]?=some .none
|some T=>∃vs f,ExO h e C od vs∧TrO h e T vs f∧(f=.none∨f=rawInt L)
noncomputable def Held(f:Value)(h:Heap)(e T:Addr)(C:Value)(od:Option Addr):Prop:=∃vs,ExO h e C od vs∧TrO h e T vs f
structure Chg(fr rs:List Addr)(h h':Heap):Prop where
keep:∀b o,b∉fr→b∉rs→h.get? b=some o→h'.get? b=some o
slot:∀b o,b∉rs→h.get? b=some o→∃sl,h'.get? b=some { o with slots:=sl }
there:∀b o,h.get? b=some o→∃o',h'.get? b=some o'
theorem Chg.refl{fr rs:List Addr}{h:Heap}:Chg fr rs h h:=⟨λ_ _ _ _ e=>e,λ_ o _ e=>⟨o.slots,e⟩,λ_ o e=>⟨o,e⟩⟩
theorem Chg.trans{fr rs:List Addr}{h h1 h2:Heap}(x:Chg fr rs h h1)(y:Chg fr rs h1 h2):Chg fr rs h h2:=⟨λb o f r e=>y.keep b o f r (x.keep b o f r e),λb o r e=>let⟨_,e1⟩:=x.slot b o r e;let⟨sl,e2⟩:=y.slot b _ r e1;⟨sl,e2⟩,λb o e=>let⟨_,e1⟩:=x.there b o e;y.there b _ e1⟩
theorem Chg.fresh{fr rs rs':List Addr}{h h1 h2:Heap}(x:Chg fr rs h h1)(y:Chg fr rs' h1 h2)(n:∀b∈rs',b∈rs∨h.get? b=none):Chg fr rs h h2:=by
 have m:∀b o,b∉rs→h.get? b=some o→b∉rs':=λb o r e z=>(n b z).elim r λq=>by rw[q]at e;cases e
 exact⟨λb o f r e=>y.keep b o f (m b o r e) (x.keep b o f r e),λb o r e=>let⟨_,e1⟩:=x.slot b o r e;let⟨sl,e2⟩:=y.slot b _ (m b o r e) e1;⟨sl,e2⟩,λb o e=>let⟨_,e1⟩:=x.there b o e;y.there b _ e1⟩
theorem Chg.slots{fr rs:List Addr}{h h':Heap}(x:Heap.SlotsOnly fr h h'):Chg fr rs h h':=⟨λb o f _ e=>(x.2.1 b f).trans e,λb o _ e=>x.2.2 b o e,λb o e=>let⟨sl,q⟩:=x.2.2 b o e;⟨_,q⟩⟩
theorem Chg.upd{fr rs:List Addr}{h:Heap}{a:Addr}{f:Obj→Obj}(ha:a∈rs)(hf:∀o,h.get? a=some o→(f o).isFreed=false):Chg fr rs h (h.update a f):=by(
have k:∀b o,b∉rs→h.get? b=some o→(h.update a f).get? b=some o:=λb o r e=>by exact(kW h f (λ(q:a=b)=>r (q▸ha))).trans e
refine⟨λb o _ r e=>k b o r e,λb o r e=>⟨o.slots,k b o r e⟩,λb o e=>?_⟩
by_cases q:b=a
·subst q;exact⟨_,dW f e (hf o e)⟩
exact⟨o,by rw[kW h f (r6 q)];exact e⟩)
theorem Chg.push{fr rs:List Addr}{h:Heap}{o:Obj}:Chg fr rs h (h.push o):=⟨λb u _ _ e=>kE _ e,λb u _ e=>⟨u.slots,kE _ e⟩,λb u e=>⟨u,kE _ e⟩⟩
theorem qCF(o:Obj)(f:Array Value→Array Value):(o.mapFields f).dict=o.dict:=by obtain⟨c,d,dt,sl⟩:=o;cases dt<;>rfl
theorem ExO.set{h:Heap}{e:Addr}{C:Value}{od:Option Addr}{vs:Array Value}(x:ExO h e C od vs)(i:Nat)(v:Value)(hi:i≠2:=by decide):ExO (h.update e (Obj.mapFields (·.setIfInBounds i v))) e C od (vs.setIfInBounds i v):=by obtain⟨oe,h1,h2,h3,h4,h5⟩:=x;have hd:=cR h4 (·.setIfInBounds i v);exact⟨_,dW _ h1 (rN hd),(Obj.cls_mapFields _ _).trans h2,(qCF _ _).trans h3,hd,(Array.getElem?_setIfInBounds_ne hi).trans h5⟩
theorem ExO.of{h h':Heap}{e:Addr}{C:Value}{od:Option Addr}{vs:Array Value}(x:ExO h e C od vs)(k:∀o,h.get? e=some o→h'.get? e=some o):ExO h' e C od vs:=let⟨oe,h1,r⟩:=x;⟨oe,k _ h1,r⟩
section
variable{M:Model}{A:Around}{E:Value→Shared→Prop}{s:Shared}{env:Env}{outer:List Env}{L e T:Addr}{C:Value}{od:Option Addr}{base:Heap}
theorem ExO.nofr{h:Heap}{l:List Env}{vs:Array Value}(x:ExO h e C od vs)(hl:h.FunFrames base l):e∉l.filterMap (·.frame):=λhm=>by(
obtain⟨_,o,ho,hn⟩:=hl.mem hm
obtain⟨oe,h1,_,_,h4,_⟩:=x
rw[h1]at ho
cases ho
exact hn _ h4)
theorem q93{head:Value}{hn:Bool}{vs:Array Value}{Q:Unit→Shared→Prop}(hfr:A.frames=some (env::outer))(hl:s.heap.FunFrames base (env::outer))(hf:env.frame=some L)(x:ExO s.heap e C od vs)
 (q:∀h' T,Chg ((env::outer).filterMap (·.frame)) [e] s.heap h'→Held (rawInt L) h' e T C od→s.heap.objs.size≤T→Q () { s with heap:=h' }):
 wpAny M A (do let a←frameOf env;let pl←entryPlaceOf L hn;let b←EntryCells.newEntry head a .none (rawInt L) .none pl;setField (.ref e) 1 b) Q E s:=by(
have ne:=x.nofr hl
refine hV (wpAny_frameOf_fun hfr hl hf λh1 so=>hV (wpAny_entryPlaceOf λpl hp=>?_))
unfold EntryCells.newEntry newFields
refine hV (xH ?_ (hp.sizeOk5 _ _ _ _ _))
have x1:ExO h1 e C od vs:=x.of λo z=>(so.2.1 e ne).trans z
have x2:=x1.of (h':=h1.push _) λo z=>kE { cls:=.type "traceback",dict:=none,data:=.fields ([head,.ref L,.none,rawInt L,.none]++(if pl.isEmpty then List.replicate 6 Value.none else pl)).toArray } z
obtain⟨oe,a1,a2,a3,a4,a5⟩:=id x2
refine lB a1 a4 (lt2 a5) ?_
have hlt:e<h1.objs.size:=let⟨_,z,_⟩:=x1;kP z
have fresh:s.heap.objs.size≤h1.objs.size:=cX so.1.symm
refine q _ h1.objs.size (((Chg.slots so).trans Chg.push).trans (Chg.upd (h9.mpr rfl) λo z=>?_)) ⟨_,x2.set 1 _,?_,dG hlt,{ cls:=.type "traceback",dict:=none,data:=.fields ([head,.ref L,.none,rawInt L,.none]++(if pl.isEmpty then List.replicate 6 Value.none else pl)).toArray },_,?_,rfl,?_⟩ fresh
·rw[a1]at z;cases z;exact rN (cR a4 _)
·simp[lt2 a5]
·rw[kW _ _ (mP hlt)];exact mJ h1 rfl
first|(simp;done)|(rcases hp with rfl|⟨_,_,_,_,_,_,_,rfl⟩<;>simp))
theorem qFQ{tr:Option Addr}{Q:Unit→Shared→Prop}(hfr:A.frames=some (env::outer))(hl:s.heap.FunFrames base (env::outer))(hf:env.frame=some L)(x:Air L s.heap e C od tr)
 (q:∀h' T,Chg ((env::outer).filterMap (·.frame)) (e::tr.toList) s.heap h'→Held (rawInt L) h' e T C od→(T∈tr∨s.heap.objs.size≤T)→Q () { s with heap:=h' }):
 wpAny M A (noteFrame (.ref e) env) Q E s:=by(
unfold noteFrame
simp only[hf]
cases tr with
|none=>obtain⟨vs,x,h1⟩:=x;obtain⟨oe,a1,a2,a3,a4,a5⟩:=id x;refine hV (lC a1 a4 h1 ?_);rw[kF (by decide)];exact q93 hfr hl hf x λh' T c hd n=>q h' T c hd (.inr n)
|some T=>
 obtain⟨vs,f,x,⟨t1,t2,oT,ts,t3,t4,t5⟩,hfl⟩:=x;obtain⟨oe,a1,a2,a3,a4,a5⟩:=id x;refine hV (lC a1 a4 t1 ?_);rw[kJ (by simp)];refine hV (lC t3 t4 t5 ?_);rcases hfl with rfl|rfl
 ·rw[kF (by simp[rawInt])];refine hV (lB t3 t4 (cF.mp t5).1 ?_);have k:∀b o,b≠T→s.heap.get? b=some o→(s.heap.update T (Obj.mapFields (·.setIfInBounds 3 Value.none))).get? b=some o:=λb o n z=>(kW _ _ (r6 n)).trans z;have hl2:(s.heap.update T (Obj.mapFields (·.setIfInBounds 3 Value.none))).FunFrames base (env::outer):=hl.of_keeps λb o z nf=>⟨o,k b o (λw=>by subst w;rw[t3]at z;cases z;exact nf _ t4) z,rfl⟩;refine q93 (s:={ s with heap:=s.heap.update T (Obj.mapFields (·.setIfInBounds 3 Value.none)) }) hfr hl2 hf (x.of λo z=>k e o (r6 t2) z) λh' T' c hd n=>q h' T' ?_ hd ?_
  ·refine(Chg.upd (a:=T) (by simp) λo z=>?_).fresh c λb hb=>.inl ?_
   ·rw[t3]at z;cases z;exact rN (cR t4 _)
   rw[h9.mp hb];exact kX
  exact .inr (mF (cX (Heap.size_after_update ..).symm) n)
 rw[kJ (by simp)];exact kY (q _ T .refl ⟨vs,x,t1,t2,oT,ts,t3,t4,t5⟩ (.inl rfl)))
theorem qCG{f:Value}{fr:Option Addr}{Q:Unit→Shared→Prop}(x:Held f s.heap e T C od)
 (q:∀h',Chg [] [T] s.heap h'→Held (fr.elim .none λf=>rawInt f) h' e T C od→Q () { s with heap:=h' }):wpAny M A (setFlight (.ref e) fr) Q E s:=by(
obtain⟨vs,x,t1,t2,oT,ts,t3,t4,t5⟩:=x
obtain⟨oe,a1,a2,a3,a4,a5⟩:=id x
have hz:=(cF.mp t5).1
unfold setFlight
refine hV (lC a1 a4 t1 ?_)
rw[kJ (by simp)]
have hd:=cR t4 (·.setIfInBounds 3 (fr.elim .none λf=>rawInt f))
refine lB t3 t4 hz (q _ (Chg.upd (by simp) λo z=>?_) ⟨vs,x.of λo z=>?_,t1,t2,_,_,dW _ t3 (rN hd),hd,by simp[hz]⟩)
·rw[t3]at z;cases z;exact rN hd
exact(kW _ _ t2).trans z)
theorem Held.air{f:Value}{h:Heap}(x:Held f h e T C od)(hf:f=.none∨f=rawInt L):Air L h e C od (some T):=let⟨vs,a,b⟩:=x;⟨vs,f,a,b,hf⟩
theorem qDN{tr:Option Addr}{Q:Unit→Shared→Prop}(hfr:A.frames=some (env::outer))(hl:s.heap.FunFrames base (env::outer))(hf:env.frame=some L)(x:Air L s.heap e C od tr)
 (q:∀h' T,Chg ((env::outer).filterMap (·.frame)) (e::tr.toList) s.heap h'→Held .none h' e T C od→(T∈tr∨s.heap.objs.size≤T)→Q () { s with heap:=h' }):wpAny M A (leaving env (.ref e)) Q E s:=by(
unfold leaving
refine hV (qFQ hfr hl hf x λh' T c hd n=>qCG hd λh2 c2 hd2=>q h2 T ?_ hd2 n)
refine c.fresh (rs':=[T]) ⟨λb o _ r z=>c2.keep b o (by simp) r z,c2.slot,c2.there⟩ λb hb=>?_
rw[h9.mp hb]
exact n.imp (λz=>hU _ (by cases tr with|none=>cases z|some t=>cases z;exact h9.mpr rfl)) cC)
end
end L2
namespace L2
open PySem PySem.Spec PyProof.Rows
section
variable{P:Program}{w:World}{H:Hp}{h h':Heap}{a:Addr}{o:HO}
theorem jH.there(x:jH P w H h a o):∃ob,h.get? a=some ob:=by(
cases o with
|lst xs=>obtain⟨_,_,_,_,e⟩:=x;exact⟨_,e⟩
|tup xs=>obtain⟨_,_,_,_,e,_⟩:=x;exact⟨_,e⟩
|dK kvs=>obtain⟨_,_,_,_,o,_,_,e,_⟩:=x;exact⟨_,e⟩
|dT kvs=>obtain⟨_,_,_,_,o,_,_,e,_⟩:=x;exact⟨_,e⟩
|set S n=>obtain⟨o,_,_,_,e,_⟩:=x;exact⟨_,e⟩
|ins C dx fs=>obtain⟨_,_,_,e,_⟩:=x;exact⟨_,e⟩
|own y=>exact x
|xd fs=>obtain⟨_,⟨_,_,_,e,_⟩,_⟩:=x;exact⟨_,e⟩
|rng lo hi=>obtain⟨_,_,_,e⟩:=x;exact⟨_,e⟩
|frz ob u=>exact⟨_,x.1⟩
|tbl ps=>exact⟨_,show h.get? a=some _ from x⟩
|met f y=>exact⟨_,show h.get? a=some _ from x⟩
|ext φ=>exact x.2.1)
theorem HOk.free(x:HOk P w H h)(e:h.get? a=none):H a=none:=by(
cases q:H a with
|none=>rfl
|some o=>obtain⟨_,z⟩:=(x a o q).there;rw[e]at z;cases z)
theorem HOk.chg{fr rs:List Addr}(x:HOk P w H h)(c:Chg fr rs h h')(hf:∀b∈fr,H b=none)(hr:∀b∈rs,H b=none):HOk P w H h':=by(
intro a o e
refine(x a o e).stay (λb u hb z=>?_) (λ_ q=>q) λ_ _ q=>q
have n:H b≠none:=by
 rcases hb with rfl|q
 ·rw[e];intro y;cases y
 rw[q];intro y;cases y
exact c.keep b u (λm=>n (hf b m)) (λm=>n (hr b m)) z)
end
noncomputable def Recs(h:Heap)(rs:List Addr):Prop:=∀b∈rs,∃o vs,h.get? b=some o∧o.data=.fields vs
theorem Air.recs{L e:Addr}{h:Heap}{C:Value}{od tr:Option Addr}(x:Air L h e C od tr):Recs h (e::tr.toList):=by(
intro b hb
cases tr with
|none=>
 obtain⟨vs,⟨oe,a1,_,_,a4,_⟩,_⟩:=x;have e':b=e:=by simpa using hb
 subst e';exact⟨_,_,a1,a4⟩
|some T=>
 obtain⟨vs,f,⟨oe,a1,_,_,a4,_⟩,⟨_,_,oT,ts,t3,t4,_⟩,_⟩:=x;have e':b=e∨b=T:=by simpa using hb
 rcases e' with rfl|rfl
 ·exact⟨_,_,a1,a4⟩
 exact⟨_,_,t3,t4⟩)
noncomputable def Ours(X:Cx)(pins:List (Addr×Obj))(H:Hp)(rs:List Addr):Prop:=∀b∈rs,(X.s₀.heap.get? b=none∨b∈X.ex)∧H b=none∧∀p∈X.pn++pins,p.1≠b
section
variable{X:Cx}{pins:List (Addr×Obj)}{σ:St}{H:Hp}{s:Shared}{h':Heap}{rs:List Addr}
theorem Inv.chg{t':Nat}(I:Inv X pins σ H s)(c:Chg (frs X.stack) rs s.heap h')(o:Ours X pins H rs)(rc:Recs s.heap rs):Inv X pins σ H { s with heap:=h',toks:=t' }:=by(
obtain⟨m,hn,hv⟩:=I.loc
have nl:X.env.locals∉rs:=λz=>by obtain⟨ob,vs,e,d⟩:=rc _ z;obtain⟨o',es,ep,ho,hd,_⟩:=hn;rw[e]at ho;cases ho;rw[d]at hd;cases hd
have nc:∀c v,s.heap.IsCell c v→c∉rs:=λc v q z=>by obtain⟨ob,vs,e,d⟩:=rc _ z;obtain⟨o',ho,hd⟩:=q;rw[e]at ho;cases ho;rw[d]at hd;cases hd
have cellk:∀c v,s.heap.IsCell c v→h'.IsCell c v:=λa v q=>by have n:=nc a v q;obtain⟨o',ho,hd⟩:=q;obtain⟨sl,z⟩:=c.slot a o' n ho;exact⟨_,z,hd⟩
have old:∀b ob,X.s₀.heap.get? b=some ob→b∉X.ex→b∉rs:=λb ob q ne z=>by
 rcases(o b z).1 with y|y
 ·rw[q]at y;cases y
 exact ne y
have ns':h'.Ns X.env.locals m:=by obtain⟨o',es,ep,ho,r⟩:=hn;obtain⟨sl,z⟩:=c.slot _ o' nl ho;exact⟨_,es,ep,z,r⟩
refine⟨I.ok,I.os,I.bare,⟨λb ob q n nf ne=>?_,λb ob q n hf ne=>?_,I.base.free,λb ob q ne=>?_,I.base.tups,I.base.frzs,I.base.tbls⟩,⟨m,ns',λi x v e1 e2 e3=>?_⟩,λx a e=>?_,I.free,I.freeC,λp hp=>?_,I.hok.chg c I.stkFree λb hb=>(o b hb).2.1,I.len⟩
·refine c.keep b ob (λz=>?_) (old b ob q ne) (I.base.keep b ob q n nf ne);rcases kI.mp (I.stkSub b z)with rfl|y
 ·exact absurd (kP q) (aK.mpr I.ok.above)
 exact nf y
·obtain⟨sl,z⟩:=I.base.slot b ob q n hf ne;obtain⟨sl',z'⟩:=c.slot b _ (old b ob q ne) z;exact⟨sl',z'⟩
·obtain⟨o',z⟩:=I.base.there b ob q ne;exact c.there b o' z
·obtain⟨u,r,lk⟩:=hv i x v e1 e2 e3;refine⟨u,r,lk.imp id λ⟨k,cc,l,q⟩=>⟨k,cc,l,cellk _ _ q⟩⟩
·obtain⟨v,q⟩:=I.cell x a e;exact⟨v,cellk _ _ q⟩
obtain⟨p1,p2,p3,p4,p5⟩:=I.pin p hp
refine⟨c.keep _ _ (λz=>?_) (λz=>(o _ z).2.2 p hp rfl) p1,p2,p3,p4,p5⟩
rcases kI.mp (I.stkSub _ z)with y|y
·exact p3 y
exact p4 y)
end
noncomputable def CXe(P:Program)(w:World):CXT:=λouter H s E e s'=>∃ea T C od H',e=.ref ea∧s'.os=s.os∧AllBare s'.gens∧Un (frs outer) [] H H' s.heap s'.heap∧HOk P w H' s'.heap∧Held .none s'.heap ea T C od∧(s.heap.get? ea=none∧s.heap.get? T=none)∧(H' ea=none∧H' T=none)∧E C od H'
noncomputable def q4D(X:Cx)(ES:St→XK):Prop:=∀(pins:List (Addr×Obj)) (σ:St) (H:Hp) (s:Shared) (ea:Addr) (tr:Option Addr) (C:Value) (od:Option Addr),Inv X pins σ H s→Air X.env.locals s.heap ea C od tr→Ours X pins H (ea::tr.toList)→ES σ C od H→X.xe (.ref ea) s
noncomputable def qFR(CX:CXT)(X:Cx)(ES:St→XK):Prop:=∀(pins:List (Addr×Obj)) (σ:St) (H:Hp) (s:Shared) (e:Value) (s':Shared),Inv X pins σ H s→CX X.stack H s (ES σ) e s'→X.xe e s'
theorem q4D.passes{X:Cx}{ES:St→XK}(t:q4D X ES):qFR (CXe X.prog X.w) X ES:=by(
intro pins σ H s e s' I hZ
obtain⟨ea,T,C,od,H',e1,ho,hg,u,hok,hd,⟨f1,f2⟩,⟨g1,g2⟩,q⟩:=hZ
subst e1
refine t pins σ H' s' ea (some T) C od (I.call' ho u hok hg λb hb=>by cases hb) (hd.air (.inl rfl)) (λb hb=>?_) q
have key:∀b,s.heap.get? b=none→H' b=none→(X.s₀.heap.get? b=none∨b∈X.ex)∧H' b=none∧∀p∈X.pn++pins,p.1≠b:=λb f g=>by
 refine⟨?_,g,λp hp z=>?_⟩
 ·by_cases y:b∈X.ex
  ·exact .inr y
  refine .inl ?_;cases z:X.s₀.heap.get? b with
  |none=>rfl
  |some ob=>obtain⟨o',z'⟩:=I.base.there b ob z y;rw[f]at z';cases z'
 have y:=(I.pin p hp).1;rw[z,f]at y;cases y
have e':b=ea∨b=T:=by simpa using hb
rcases e' with rfl|rfl
·exact key _ f1 g1
exact key _ f2 g2)
theorem j9{P:Program}{w:World}{K:PySem.W.Frag}{mg:Str→Option Value}{base:Heap}{N:List Str}{qual:Str}{scope:Scope}{f:Addr}{cd:Value}{A:Around}{outer:List Env}{s:Shared}{H:Hp}{E:XK}:
 q4D (cxOf (CXe P w) P w K mg base N qual scope f cd A outer s H E) (λ_=>E):=by(
intro pins σ H' s' ea tr C od I air ours q
refine qDN (base:=base) I.ok.frames I.stack rfl air λh' T c hd n=>?_
have I2:=I.chg (t':=s'.toks) c ours air.recs
have out:∀b,s'.heap.objs.size≤b→s.heap.get? b=none:=λb z=>by
 cases y:s.heap.get? b with
 |none=>rfl
 |some ob=>obtain⟨o',y'⟩:=I.base.there b ob y (by intro m;cases m);exact absurd (kP y') (aK.mpr z)
have own:∀b,b∈ea::tr.toList→s.heap.get? b=none∧H' b=none:=λb hb=>⟨(ours b hb).1.elim id (λz=>by cases z),(ours b hb).2.1⟩
have hT:s.heap.get? T=none∧H' T=none:=by
 rcases n with z|z
 ·exact own T (hU _ (by cases tr with|none=>cases z|some t=>cases z;exact h9.mpr rfl))
 exact⟨out T z,I.hok.fresh z⟩
exact⟨ea,T,C,od,H',rfl,I.os,I.bare,I2.base,I2.hok,hd,⟨(own ea (kX)).1,hT.1⟩,⟨(own ea (kX)).2,hT.2⟩,q⟩)
noncomputable def qDO(C:Addr)(m:Str)(sp:Sp)(dvs:List V)(ES:St→XK)(ta:TE)(t:TA):TE:=λσ H Q=>ta σ H λx H1=>∃a dx fs,x=.ref a∧H1 a=some (.ins C dx fs)∧fs.lookup m=none∧t σ H1 λvs H2=>sp (x::(vs++dvs)) H2 Q (ES σ)
theorem zH{X:Cx}:q4D X (λ_ _ _ _=>False):=λ_ _ _ _ _ _ _ _ _ _ _ h=>h.elim
section
variable{X:Cx}{k:Nat}{f C:Addr}{fd:FuncData}{ps:List Str}{sp:Sp}{dvs:List V}{ds:List Value}{E:XK}{ES:St→XK}{x m:Str}{p pos apos:Pos}{e o:Expr}{es:List Expr}{ta:TE}{t:TA}
theorem qB6{pins:List (Addr×Obj)}{σ:St}{H:Hp}{s:Shared}{Q:VK}{us:List Value}{vs:List V}(F:FnOk X.prog X.w X.K X.mg X.base (CXe X.prog X.w) k f fd ps sp)(hr:Room k X.A)(hb:jL X.K fd ps ds)(hd:Vals dvs ds)(tk:q4D X ES)
 (I:Inv X pins σ H s) (r:Vals vs us) (h:sp (vs++dvs) H Q (ES σ)):wpAny (model X.prog X.w) X.A (call (.ref f) us) (EP X pins σ Q) X.xe s:=by(
have r2:Vals (vs++dvs) (us++ds):=r.append hd
have hl:(us++ds).length=ps.length:=by rw[←r2.length];exact F.len _ _ _ _ h
refine cQ (cY (F.run X.A X.stack s H ⟨us,[]⟩ (us++ds) (vs++dvs) Q (ES σ) hr I.env0 (hb s us I.kIn hl) r2 h) λr s' hq=>?_)
cases r with
|error e=>exact tk.passes pins σ H s e s' I hq
|ok fl=>
 cases fl with
 |ret u=>exact I.after hq
 |next=>exact False.elim hq
 |brk=>exact False.elim hq
 |cont=>exact False.elim hq)
theorem jO{pl:Sem Bool}(tk:q4D X ES)(he:PE X o ta)(c:Cls X.K C)(hm:Meth X.K C m f)(F:FnOk X.prog X.w X.K X.mg X.base (CXe X.prog X.w) k f fd ps sp)(hr:Room k X.A)(hb:jL X.K fd ps ds)(hd:Vals dvs ds)(ha:PA X (e::es) t)
 (hst:starEach (e::es) X.env=(false,eval e X.env)::starEach es X.env:=by rfl) (hpl:(backTo pos (starEach es X.env)).any (·.1)=false:=by rfl)
 (ht:eval (.Call (.Attribute o m apos) (e::es) [] pos) X.env=(do
  let ov←eval o X.env
  standAt apos.atName
  let(f,first)←holding [ov] (getMethod ov m pl)
  callWith pos f first (backTo pos (starEach (e::es) X.env)) (backToKw pos (keywordEach [] X.env))):=by rfl):
 PE X (.Call (.Attribute o m apos) (e::es) [] pos) (qDO C m sp dvs ES ta t):=by(
intro pins s σ H Q I h
refine rL (pl:=pl) (thn (he pins s σ H _ I h) λu s1 hZ=>?_) ht
obtain⟨x,H1,I1,rx,a,dx,fs,ex,ea,l,q⟩:=hZ
subst ex
obtain rfl:u=Value.ref a:=rx
refine q0L I1 ea c hm l ?_
refine wJ (first:=[.ref a]) (h₀:=X.base) I.ok.mod.kin hm.kp (thn (ha pos pins s1 σ H1 _ I1 q) λus s2 ⟨vs,H2,I2,r,q2⟩=>⟨I2.kIn,?_⟩) hst hpl
exact qB6 (us:=.ref a::us) (vs:=.ref a::vs) F hr hb hd tk I2 (.cons rfl r) q2)
theorem uB{pl:Sem Bool}(tk:q4D X ES)(he:PE X o ta)(c:Cls X.K C)(hm:Meth X.K C m f)(F:FnOk X.prog X.w X.K X.mg X.base (CXe X.prog X.w) k f fd ps sp)(hr:Room k X.A)(hb:jL X.K fd ps ds)(hd:Vals dvs ds)
 (ht:eval (.Call (.Attribute o m apos) [] [] pos) X.env=(do
  let ov←eval o X.env
  standAt apos.atName
  let(f,first)←holding [ov] (getMethod ov m pl)
  callWith pos f first (backTo pos (starEach [] X.env)) (backToKw pos (keywordEach [] X.env))):=by rfl):
 PE X (.Call (.Attribute o m apos) [] [] pos) (qDO C m sp dvs ES ta tNil):=by(
intro pins s σ H Q I h
refine rL (pl:=pl) (thn (he pins s σ H _ I h) λu s1 hZ=>?_) ht
obtain⟨x,H1,I1,rx,a,dx,fs,ex,ea,l,q⟩:=hZ
subst ex
obtain rfl:u=Value.ref a:=rx
refine q0L I1 ea c hm l ?_
exact pQ (first:=[.ref a]) I1.kIn hm.kp (qB6 (us:=[.ref a]) (vs:=[.ref a]) F hr hb hd tk I1 (.cons rfl .nil) q))
end
structure FunD(K:PySem.W.Frag)(x qual:Str)(st:Stmt)(dV:Value)(f:Addr)(fd:FuncData):Prop where
ex:∃(oc:Value) (od:Option Addr) (kV doc pm:Value) (an:Option Addr) (cdv ct:Value) (osl:Array (Option Value)),fd=PySem.W.fnOf x qual (y9 st) (jM st) (qE st) dV kV doc pm an cdv ct∧K.lookup f=some ⟨oc,od,.func fd,osl⟩∧PySem.W.codeIn K cdv qual=true
section
variable{P:Program}{w:World}{K:PySem.W.Frag}{mg:Str→Option Value}{base:Heap}{dV:Value}
theorem FunD.mk'{x qual:Str}{st:Stmt}{f:Addr}{oc:Value}{od an:Option Addr}{osl:Array (Option Value)}{kV doc pm cdv ct:Value}(l:K.lookup f=some ⟨oc,od,.func (PySem.W.fnOf x qual (y9 st) (jM st) (qE st) dV kV doc pm an cdv ct),osl⟩)
 (c:PySem.W.codeIn K cdv qual=true):FunD K x qual st dV f (PySem.W.fnOf x qual (y9 st) (jM st) (qE st) dV kV doc pm an cdv ct):=⟨⟨oc,od,kV,doc,pm,an,cdv,ct,osl,rfl,l,c⟩⟩
theorem FunD.okE{x qual:Str}{st:Stmt}{f:Addr}{fd:FuncData}{N ps:List Str}{k:Nat}{sp:Sp}(F:FunD K x qual st dV f fd)(S:FnScope N ps (qE st))(len:∀vs H Q E,sp vs H Q E→vs.length=ps.length)
 (hbody:∀(cdv:Value) (A:Around) (outer:List Env) (s:Shared) (H:Hp) (vs:List V) (Q:VK) (E:XK),Room k (A.deeper (envOfC qual (qE st) s.heap.objs.size f cdv))→sp vs H Q E→∃t,PSs (cxOf (CXe P w) P w K mg base N qual (qE st) f cdv A outer s H E) (jM st) t∧t { nx:=λ_ H'=>Q .non H',rt:=Q } (zF N vs) H):FnOk P w K mg base (CXe P w) (k+1) f fd ps sp:=by obtain⟨oc,od,kV,doc,pm,an,cdv,ct,osl,rfl,lk,hcd⟩:=F.ex;exact qB3 lk hcd S len λA outer s H vs Q E hr hsp=>hbody cdv A outer s H vs Q E hr hsp
theorem FunD.ok0{x qual:Str}{st:Stmt}{f:Addr}{fd:FuncData}{N ps:List Str}{k:Nat}{sp:Sp}(F:FunD K x qual st dV f fd)(S:FnScope N ps (qE st))
 (hbody:∀(cdv:Value) (A:Around) (outer:List Env) (s:Shared) (H:Hp) (vs:List V) (Q:VK) (E:XK),Room k (A.deeper (envOfC qual (qE st) s.heap.objs.size f cdv))→sp vs H Q E→∃t,PSs (cxOf CX0 P w K mg base N qual (qE st) f cdv A outer s H E).nox (jM st) t∧t { nx:=λ_ H'=>Q .non H',rt:=Q } (zF N vs) H)(len:∀vs H Q E,sp vs H Q E→vs.length=ps.length:=by intro _ _ _ _ h;first|(cases h;subst_vars;rfl)|((repeat obtain⟨_,h⟩:=h);all_goals subst_vars;rfl)):FnOk P w K mg base CX0 (k+1) f fd ps sp:=by(
obtain⟨oc,od,kV,doc,pm,an,cdv,ct,osl,rfl,lk,hcd⟩:=F.ex
refine qB3 lk hcd S len λA outer s H vs Q E hr hsp=>?_
obtain⟨t,h,q⟩:=hbody cdv A outer s H vs Q E hr hsp
exact⟨t,h.nox,q⟩)
end
noncomputable abbrev bmVE:List Value:=[.type "ValueError",.type "Exception",.type "BaseException",.type "object"]
noncomputable abbrev XCls(K:PySem.W.Frag)(C:Addr):Prop:=PySem.W.excIn K C bmVE "ValueError.__new__"=true
theorem qFS{K:PySem.W.Frag}{C:Addr}(q:XCls K C):∃bm N nm qn bs hd sn sub ab col dd k0 k1 k2 k3 k5,K.lookup C=some (excClassObj nm qn C N bs bm hd sn sub ab col dd k0 k1 k2 k3 k5 "ValueError.__new__")∧PySem.W.tailIn K bmVE bm=true∧PySem.W.nsOkIn K N=true∧PySem.W.nsIn K N "__init__"=some none:=by(
unfold XCls PySem.W.excIn at q
split at q
·rename_i dd cd sl ho;split at q
 ·rename_i C' bm k0 k1 k2 k3 n k5 hm hs;obtain⟨nm,bs,mro,ns,qn,hd,sn,sub,ab,col,del⟩:=cd;obtain⟨l⟩:=sl;simp only[mR,rW,d7]at q hm hs;obtain⟨⟨⟨⟨⟨e1,e2⟩,e3⟩,e4⟩,e5⟩,e6⟩:=q;subst e1 e2 e3 hm hs;exact⟨bm,ns,nm,qn,bs,hd,sn,sub,ab,col,dd,k0,k1,k2,k3,k5,ho,e4,e5,e6⟩
 cases q
cases q)
noncomputable def qIT(ES:St→XK)(C:Addr)(t:TA):TS:=λ_ σ H=>t σ H λvs H1=>vs.length≤sizeLine∧ES σ (.ref C) none H1
section
variable{X:Cx}{ES:St→XK}{C:Addr}{x:Str}{np cpos pos:Pos}{e:Expr}{es:List Expr}{t:TA}
theorem qDP{pins:List (Addr×Obj)}{σ:St}{H:Hp}{s:Shared}{h':Heap}{ea:Addr}{C:Value}{vs:List Value}(I:Inv X pins σ H s)(m:Heap.MadeExcOf s.heap h' ea C vs):
 Air X.env.locals h' ea C none none∧Ours X pins H [ea]:=by(
obtain⟨t,m1,m2,m3⟩:=m.there
refine⟨⟨_,⟨_,m1,rfl,rfl,rfl,by simp⟩,rfl⟩,λb hb=>?_⟩
rw[h9.mp hb]
refine⟨?_,I.hok.free m.new,λp hp z=>?_⟩
·by_cases y:ea∈X.ex
 ·exact .inr y
 refine .inl ?_;cases z:X.s₀.heap.get? ea with
 |none=>rfl
 |some ob=>obtain⟨o',z'⟩:=I.base.there ea ob z y;rw[m.new]at z';cases z'
have y:=(I.pin p hp).1
rw[z,m.new]at y
cases y)
theorem q5M(tk:q4D X ES)(hc:X.calm=true)(hg:Gl X x)(hm:X.mg x=some (.ref C))(hx:XCls X.K C)(ha:PA X (e::es) t)(hdb:(x==("__debug__":Str))=false:=by decide)
 (he:starEach (e::es) X.env=(false,eval e X.env)::starEach es X.env:=by rfl) (hpl:(backTo cpos (starEach es X.env)).any (·.1)=false:=by rfl):
 PS X (.Raise (some (.Call (.Name x np) (e::es) [] cpos)) none pos) (qIT ES C t):=by(
intro pins s σ H D I hq
obtain⟨bm,N,nm,qn,bs,hd,sn,sub,ab,col,dd,k0,k1,k2,k3,k5,lk,tl,ok,ni⟩:=qFS hx
have kb:=I.mod.kin
have T0:=PySem.W.tail_of_in kb tl
have hN:X.base.Ns N (X.base.nsMap N):=.of_isNs (PySem.W.isNs_of_in kb ok)
have hni:=PySem.W.nsMap_none_of_in kb ok ni
have hplain:(backTo cpos (starEach (e::es) X.env)).any (·.1)=false:=by rw[he];show(false||(backTo cpos (starEach es X.env)).any (·.1))=false;rw[hpl];rfl
refine wpAny_Raise_call_subT (C:=C) (nm:=nm) (q:=qn) (N:=N) (bs:=bs) (bm:=bm) (hdct:=hd) (sn:=sn) (sub:=sub) (ab:=ab) (col:=col) (dd:=dd) (k0:=k0) (k1:=k1) (k2:=k2) (k3:=k3) (k5:=k5) (mN:=X.base.nsMap N)
 PySem.F.excBase_ValueError (T0.hasType (by decide)) (I.ok.hd hc) hplain hni (q26 I hg hm ⟨rfl,?_⟩ hdb)
have h0:=ha cpos pins s σ H _ I hq
rw[he]at h0 ⊢
refine PySem.Calls.evalArgs_plain (g8 h0 (λus s1 h1=>?_) λ_ _ y=>y)
obtain⟨vs,H1,I1,r,hz,hE⟩:=h1
refine⟨rfl,by rw[←r.length];exact hz,I1.bk _ _ (kb _ _ lk),?_,T0.keeps I1.bk,λh' ea m=>?_⟩
·obtain⟨o',es',ep',z,rr⟩:=hN;exact⟨o',es',ep',I1.bk _ _ z,rr⟩
obtain⟨air,ours⟩:=qDP I1 m
refine tk pins σ H1 { s1 with heap:=h' } ea none (.ref C) none (I1.kept (t':=s1.toks) m.keeps) air ours hE)
end
noncomputable def qKD(ea:Addr)(C:Value)(od:Option Addr):Heap→Prop:=λh=>∃o vs,h.get? ea=some o∧o.cls=C∧o.dict=od∧o.data=.fields vs
noncomputable abbrev XO(ea:Addr)(C:Value)(od:Option Addr):HO:=.ext (qKD ea C od)
noncomputable def NewX(ea:Addr)(C:Value)(od:Option Addr):Heap→Prop:=λh=>∃vs sl,h.get? ea=some ⟨C,od,.fields vs,sl⟩∧vs[2]?=some .none∧vs[1]?=some .none
noncomputable abbrev XN(ea:Addr)(C:Value)(od:Option Addr):HO:=.ext (NewX ea C od)
noncomputable def qHH(X:Cx)(pins:List (Addr×Obj))(a:Addr):Prop:=(X.s₀.heap.get? a=none∨a∈X.ex)∧∀p∈X.pn++pins,p.1≠a
section
variable{X:Cx}{pins:List (Addr×Obj)}{σ:St}{H:Hp}{s:Shared}{a:Addr}
theorem Inv.young(I:Inv X pins σ H s)(e:s.heap.get? a=none):qHH X pins a:=by(
refine⟨?_,λp hp z=>?_⟩
·by_cases y:a∈X.ex
 ·exact .inr y
 refine .inl ?_;cases z:X.s₀.heap.get? a with
 |none=>rfl
 |some ob=>obtain⟨o',z'⟩:=I.base.there a ob z y;rw[e]at z';cases z'
have y:=(I.pin p hp).1
rw[z,e]at y
cases y)
theorem Inv.trackG{o:HO}(I:Inv X pins σ H s)(n:H a=none)(y:qHH X pins a)(nl:a≠X.env.locals)(nc:∀x c,X.env.cells.lookup x=some c→c≠a)(new:jH X.prog X.w (upd H a o) s.heap a o):Inv X pins σ (upd H a o) s:=by(
have ne:∀b o',X.s₀.heap.get? b=some o'→b∉X.ex→b≠a:=λb o' z x q=>by
 subst q;rcases y.1 with w|w
 ·rw[z]at w;cases w
 exact x w
have nt:∀b u,H b=some u→b≠a:=λb u z q=>by rw[q,n]at z;cases z
refine⟨I.ok,I.os,I.bare,⟨I.base.keep,I.base.slot,λb o' z m x=>?_,I.base.there,λb xs z=>?_,λb o' u z=>?_,λb ps z=>?_⟩,I.loc,I.cell,?_,λx c z=>?_,λp hp=>?_,λb u z=>?_,I.len⟩
·rw[qC (ne b o' z x)];exact I.base.free b o' z m x
·have w:=I.base.tups b xs z;rw[qC (nt _ _ w)];exact w
·have w:=I.base.frzs b o' u z;rw[qC (nt _ _ w)];exact w
·obtain⟨more,w⟩:=I.base.tbls b ps z;exact⟨more,by rw[qC (nt _ _ w)];exact w⟩
·rw[qC (r6 nl)];exact I.free
·rw[qC (nc x c z)];exact I.freeC x c z
·obtain⟨p1,p2,p3,p4,p5⟩:=I.pin p hp;exact⟨p1,by rw[qC (y.2 p hp)];exact p2,p3,p4,p5⟩
by_cases q:b=a
·subst q;rw[qG]at z;cases z;exact new
rw[qC q]at z
refine(I.hok b u z).stay (λ_ _ _ g=>g) (λc g=>?_) λc xs g=>?_
·rw[qC (nt _ _ g)];exact g
rw[qC (nt _ _ g)];exact g)
end
noncomputable def qDQ:List Value→Bool
| .ref _::r=>qDQ r
|l=>l==bmVE
noncomputable def veIn(K:PySem.W.Frag)(C:Addr):Bool:=(PySem.W.clsIn K C).any (λcd=>qDQ cd.mro)
structure XAt(K:PySem.W.Frag)(C:Addr):Prop where
hd:PySem.W.hasDictIn K C=true
sa:PySem.W.findIn K (.ref C) "__setattr__"=some (some (.builtin "object.__setattr__"))
mro:veIn K C=true
structure XRd(K:PySem.W.Frag)(C:Addr):Prop where
ga:PySem.W.findIn K (.ref C) "__getattribute__"=some (some (.builtin "BaseException.__getattribute__"))
gn:PySem.W.findIn K (.ref C) "__getattr__"=some none
mb:PySem.W.mroIn K C (.type "BaseException")=some true
hd:PySem.W.hasDictIn K C=true
cls:PySem.W.findIn K (.ref C) "__class__"=some (some (.builtin "object.__class__"))
cget:PySem.W.specialIn K (.builtin "object.__class__") "__get__"=some (some (.builtin "getset_descriptor.__get__"))
ctk:PySem.W.takesIn K (.builtin "object.__class__")=some true
mo:PySem.W.mroIn K C (.type "object")=some true
noncomputable def XAny(H:Hp)(ea:Addr)(C:Value)(od:Option Addr):Prop:=H ea=some (XO ea C od)∨H ea=some (XN ea C od)
section
variable{X:Cx}{pins:List (Addr×Obj)}{σ:St}{H:Hp}{s:Shared}{ea C:Addr}{od:Option Addr}
theorem XAny.at{C:Value}(x:XAny H ea C od)(I:Inv X pins σ H s):∃o vs,s.heap.get? ea=some o∧o.cls=C∧o.dict=od∧o.data=.fields vs:=by(
rcases x with e|e
·exact(I.hok ea _ e).1
obtain⟨vs,sl,z,_⟩:=(I.hok ea _ e).1
exact⟨_,vs,z,rfl,rfl,rfl⟩)
theorem qFT{A:Around}{E:Value→Shared→Prop}{K:PySem.W.Frag}{prog:Program}{w:World}{s:Shared}{x:Addr}{ox:Obj}{od:Option Obj}{name:Str}{tk:Tok}{fill b:Bool}{Q:Value→Shared→Prop}(X:K.In s.heap)(J:PySem.W.InstAt s.heap x ox C od)(c:XRd K C)
 (h:∀A',wpAny (model prog w) A' (Builtin.«object.__getattribute__» ⟨[.ref x,.str name tk],[]⟩) (λfin s'=>∃v,fin=.done (.ret v)∧PySem.W.handedIn v=true∧Q v s') (λ_ _=>False) s):wpAny (model prog w) A (getAttrBy (.ref x) (.str name tk) fill b) Q E s:=by(
obtain⟨hh,g,d,t,os⟩:=s
have L0:=J.type (M:=model prog w)
have L1:=cE (M:=model prog w) X c.ga
have L2:=cE (M:=model prog w) X c.gn
have SF:=PySem.F.excAttr_ValueError.ga
unfold getAttrBy
refine gL (hV (L0.at (hV (L1.at ?_))))
show wpAny _ _ (getAttrByItsOwn (.ref x) (.str name tk) (.ref C) (.builtin "BaseException.__getattribute__") fill b) _ _ _
unfold getAttrByItsOwn
refine hV ?_
show wpAny _ _ (typeLookup (.ref C) "__getattr__") _ _ _
refine L2.at ?_
refine hV (lO (gL ?_))
have e1:callGetattribute (.ref x) (.str name tk) (.builtin "BaseException.__getattribute__") b=boundAndCalled (.builtin "BaseException.__getattribute__") (.ref x) (.str name tk):=by unfold callGetattribute;rw[kF (by cases b<;>exact Bool.noConfusion)]
rw[e1]
unfold boundAndCalled
rw[SF.bind (.ref x)]
refine hV (kY ?_)
refine cQ (pK SF.plain PySem.F.entry_bexc_ga ?_)
have su:PySem.W.Looks (model prog w) hh (isInstance (.ref x) (.type "BaseException")) true:=J.type.andThen (PySem.W.looks_mroIn X c.mb)
have hk:builtinKind "BaseException.__getattribute__"=some .slot:=by decide+kernel
have hs:splitId "BaseException.__getattribute__"=some ("BaseException","__getattribute__"):=by decide+kernel
refine @lU (model prog w) _ _ ⟨hh,g,d,t,os⟩ "BaseException.__getattribute__" "BaseException" "__getattribute__" (.ref x) [.str name tk] [] _ hk hs su (PySem.F.args_bexc_ga (.ref x) (.str name tk)) ?_
refine g8 (h _) (λfin s' z=>?_) (λ_ _ z=>z.elim)
obtain⟨v,rfl,z1,z2⟩:=z
exact PySem.W.handed_on z1 z2)
end
noncomputable def clsV:V→Option Value
| .ref a=>some (.ref a)
| .ty n=>some (.type n)
|_=>none
theorem qDR{c:V}{cv u:Value}(h:clsV c=some cv)(r:RelV c u):u=cv:=by cases c<;>first|(cases h;exact r)|cases h
noncomputable def KndT(K:PySem.W.Frag)(H:Hp)(x:V)(t:Value):Prop:=TyOf K H x t∨∃ea C od,x=.ref ea∧t=.ref C∧XAny H ea (.ref C) od∧XRd K C∧(od=none∨∃dx fs,od=some dx∧H dx=some (.xd fs))
theorem qIU{K:PySem.W.Frag}{x D:Addr}{ox:Obj}{od:Option Obj}(c:XRd K D):PySem.W.KitX K (.ref x) (.ref D) (λh=>PySem.W.InstAt h x ox D od) where
ty:=λ_ _ _ I=>I.type
it:=λ_ _ X _=>by
 obtain⟨cd,hc,_⟩:=pC c.hd;unfold PySem.W.clsIn at hc;split at hc
 ·rename_i ho;intro A' Q' E' s' k q;unfold isType loadHead;exact hV (wpAny_loadPart (k _ _ (X _ _ ho)) (kY q))
 cases hc
ne:=λh tp dd its n sl X htp=>by
 obtain⟨cd,hc,_⟩:=pC c.hd;refine xI.mpr λq=>?_;have e:D=tp:=Value.ref.inj (rW.mp q);subst e;unfold PySem.W.clsIn at hc;split at hc
 ·rename_i ho;have z:=(X _ _ ho).symm.trans htp;cases z
 cases hc
ca:=fun {prog w _ _ _ s} X I k=>by
 have hf:PySem.W.findObj K D od "__class__"=some (.bind (.builtin "getset_descriptor.__get__") (.builtin "object.__class__")):=by obtain⟨cd,hc,_⟩:=pC c.hd;unfold PySem.W.findObj;rw[hc,pD,c.cls,pD];dsimp only;rw[c.cget,pD];dsimp only;rw[c.ctk,pD]
 unfold getAttr? getAttrBy?;refine hV (wpAny_mkText (hV (lO (qFT (s:={ s with toks:=s.toks+1 }) X I c λA'=>?_))));have L0:=I.type (M:=model prog w);have L1:=PySem.W.looks_find (M:=model prog w) X I hf;obtain⟨hh,gg,d,t,os⟩:=s;refine hV (kY (hV (kY (hV (L0.at (hV (L1.at ?_)))))));show wpAny _ _ (holding [.builtin "object.__class__"] (call (.builtin "getset_descriptor.__get__") [.builtin "object.__class__",.ref x,.ref D]) >>= ret) _ _ _;exact hV (gL (cQ (PySem.W.class_get (s:=⟨hh,gg,d,t+1,os⟩) (ox:=ox) (od:=od) X I c.mo (kY ⟨_,rfl,rfl,kY k⟩))))
theorem q3I{X:Cx}:q1A X (.builtin "isinstance") (λxs H Q=>∃x c cv t b,xs=[x,c]∧clsV c=some cv∧KndT X.K H x t∧PySem.W.kitOne X.K t cv=some b∧Q (.bl b) H):=by(
intro pins s σ H xs us Q I r h
obtain⟨x,c,cv,t,b,rfl,hc,ty,e,q⟩:=h
obtain⟨u,w',rfl,ru,rw'⟩:=qD5 r
cases qDR hc rw'
rcases ty with ty|⟨ea,C,od,rfl,rfl,hx,ca,hd⟩
·exact qC7 I ru ty e λtk=>⟨.bl b,H,I.tok tk,rfl,q⟩
obtain rfl:u=Value.ref ea:=ru
obtain⟨o,vs,e1,e2,e3,e4⟩:=hx.at I
have hno:PySem.W.notCls o=true:=by rw[PySem.W.notCls,e4]
have J:∃oD,PySem.W.InstAt s.heap ea o C oD:=by
 rcases hd with rfl|⟨dx,fs,rfl,hdx⟩
 ·exact⟨none,e1,e2,hno,by rw[e3];exact True.intro⟩
 obtain⟨mA,n1,rl⟩:=I.hok dx _ hdx;obtain⟨oD,g1,g2⟩:=q77 n1;exact⟨some oD,e1,e2,hno,by rw[e3];exact g1⟩
obtain⟨oD,J⟩:=J
exact gW (qIU ca) I.kIn J e (λz=>nomatch z) λtk=>⟨.bl b,H,I.tok tk,rfl,q⟩)
structure BIni(K:PySem.W.Frag)(W:Addr):Prop where
rd:PySem.W.readsIn K W (.type "type")=true
fd:PySem.W.findCls K (.ref W) (.type "type") "__init__"=some (.val (.builtin "ValueError.__init__"))
ga:PySem.W.specialIn K (.ref W) "__getattribute__"=some (some (.builtin "type.__getattribute__"))
end L2
namespace L2
open PySem
structure Keep(F:List Addr)(H H':Hp):Prop where
k:∀b o,b∉F→H b=some o→H' b=some o
tp:∀b xs,H b=some (.tup xs)→H' b=some (.tup xs)
theorem Keep.refl{F:List Addr}{H:Hp}:Keep F H H:=⟨λ_ _ _ e=>e,λ_ _ e=>e⟩
theorem Keep.trans{F:List Addr}{H H1 H2:Hp}(a:Keep F H H1)(b:Keep F H1 H2):Keep F H H2:=⟨λx o n e=>b.k x o n (a.k x o n e),λx xs e=>b.tp x xs (a.tp x xs e)⟩
theorem Keep.mono{F F':List Addr}{H H':Hp}(a:Keep F H H')(s:∀b∈F,b∈F'):Keep F' H H':=⟨λx o n e=>a.k x o (λm=>n (s x m)) e,a.tp⟩
theorem Keep.upd{F:List Addr}{H:Hp}{p:Addr}{o u:HO}(h:H p=some u)(nt:∀xs,u≠ .tup xs)(m:p∈F):Keep F H (upd H p o):=by(
refine⟨λb x n e=>?_,λb xs e=>?_⟩
·rw[qC (λ(z:b=p)=>n (z▸m))];exact e
rw[qC (jS e h (λz=>nt xs z.symm))];exact e)
theorem Keep.same{F:List Addr}{H H':Hp}(s:Same H H'):Keep F H H':=⟨λb o _ e=>s b o e,λb xs e=>s b _ e⟩
theorem Keep.none{F:List Addr}{H H':Hp}(a:Keep F H H'){b:Addr}(n:b∉F)(e:H' b=Option.none):H b=Option.none:=by(
cases q:H b with
|none=>rfl
|some o=>rw[a.k b o n q]at e;cases e)
structure CM where
bl:Int
pg:Int
mo:Int
lim:List (Key×V)
bo:List V
cl:List Int
dc:List Int
br:List Bool
lf:Option Int
rc:List (Str×Int×Bool)
structure CA where
dx:Addr
li:Addr
bo:Addr
cl:Addr
dc:Addr
br:Addr
rc:Addr
noncomputable def lfV:Option Int→V
| .none=>.non
| .some i=>.int i
noncomputable def chF(a:CA)(m:CM):List (Str×V):=[("blocks",.int m.bl),("pages",.int m.pg),("most",.int m.mo),("limits",.ref a.li),("borne",.ref a.bo),("clearings",.ref a.cl),("deed_counts",.ref a.dc),("broken",.ref a.br),("deeds_left",lfV m.lf),("record",.ref a.rc)]
noncomputable def trip(H:Hp)(v:V)(d:Str×Int×Bool):Prop:=∃p,v=.ref p∧H p=some (.tup [.str d.1,.int d.2.1,.bl d.2.2])
noncomputable abbrev Recd(H:Hp):List V→List (Str×Int×Bool)→Prop:=Paired (trip H)
theorem Recd.keep{F:List Addr}{H H':Hp}(k:Keep F H H'){rs:List V}{ds:List (Str×Int×Bool)}(r:Recd H rs ds):Recd H' rs ds:=Paired.mapP r λv d ⟨p,e,h⟩=>⟨p,e,k.tp _ _ h⟩
theorem _root_.PySem.Paired.len{α β:Type}{F:α→β→Prop}:∀{l₁:List α} {l₂:List β},Paired F l₁ l₂→l₁.length=l₂.length
|_,_,.nil=>rfl
|_,_,.cons _ t=>gZ (· + 1) t.len
theorem Paired.snoc{α β:Type}{F:α→β→Prop}:∀{l₁:List α} {l₂:List β} {a:α} {b:β},Paired F l₁ l₂→F a b→Paired F (l₁++[a]) (l₂++[b])
|_,_,_,_,.nil,h=>.cons h .nil
|_,_,_,_,.cons r t,h=>.cons r (Paired.snoc t h)
noncomputable def foot(c:Addr)(a:CA):List Addr:=[c,a.bo,a.cl,a.dc,a.br,a.rc]
structure ChipAt(C:Addr)(H:Hp)(c:Addr)(a:CA)(m:CM):Prop where
ins:H c=some (.ins C a.dx (chF a m))
li:H a.li=some (.dK m.lim)
bo:H a.bo=some (.lst m.bo)
cl:H a.cl=some (.lst (m.cl.map V.int))
dc:H a.dc=some (.lst (m.dc.map V.int))
br:H a.br=some (.lst (m.br.map V.bl))
rc:∃rs,H a.rc=some (.lst rs)∧Recd H rs m.rc
nd:[a.bo,a.cl,a.dc,a.br,a.rc].Nodup
structure CM.Ok(m:CM):Prop where
bl1:2≤m.bl
bl2:m.bl≤16
pg1:1≤m.pg
pg2:m.pg≤16
nbo:(m.bo.length:Int)=m.bl*m.pg
ncl:(m.cl.length:Int)=m.bl
ndc:(m.dc.length:Int)=m.bl
nbr:(m.br.length:Int)=m.bl
lim:∀b v,valV m.lim (Sum.inl b)=some v→∃n,v=.int n
nrc:m.rc.length≤1000000
section
variable{C c:Addr}{a:CA}{m:CM}{H H':Hp}
theorem ChipAt.ne(h:ChipAt C H c a m):c≠a.bo∧c≠a.cl∧c≠a.dc∧c≠a.br∧c≠a.rc:=by obtain⟨rs,e,_⟩:=h.rc;exact⟨jS h.ins h.bo (by intro z;cases z),jS h.ins h.cl (by intro z;cases z),jS h.ins h.dc (by intro z;cases z),jS h.ins h.br (by intro z;cases z),jS h.ins e (by intro z;cases z)⟩
theorem ChipAt.nel(h:ChipAt C H c a m):a.li≠c∧a.li≠a.bo∧a.li≠a.cl∧a.li≠a.dc∧a.li≠a.br∧a.li≠a.rc:=by obtain⟨rs,e,_⟩:=h.rc;exact⟨jS h.li h.ins (by intro z;cases z),jS h.li h.bo (by intro z;cases z),jS h.li h.cl (by intro z;cases z),jS h.li h.dc (by intro z;cases z),jS h.li h.br (by intro z;cases z),jS h.li e (by intro z;cases z)⟩
theorem ChipAt.dst(h:ChipAt C H c a m):(a.bo≠a.cl∧a.bo≠a.dc∧a.bo≠a.br∧a.bo≠a.rc)∧(a.cl≠a.dc∧a.cl≠a.br∧a.cl≠a.rc)∧(a.dc≠a.br∧a.dc≠a.rc)∧a.br≠a.rc:=by(
have:=h.nd
simp only[gA,kI,gE,not_or,rK]at this
obtain⟨⟨a1,a2,a3,a4⟩,⟨b1,b2,b3⟩,⟨c1,c2⟩,d1,_⟩:=this
exact⟨⟨a1,a2,a3,a4⟩,⟨b1,b2,b3⟩,⟨c1,c2⟩,d1⟩)
theorem ChipAt.keep{F:List Addr}(h:ChipAt C H c a m)(k:Keep F H H')(n:∀b∈a.li::foot c a,b∉F):ChipAt C H' c a m:=by obtain⟨rs,e,r⟩:=h.rc;exact⟨k.k _ _ (n _ (by simp[foot])) h.ins,k.k _ _ (n _ (by simp)) h.li,k.k _ _ (n _ (by simp[foot])) h.bo,k.k _ _ (n _ (by simp[foot])) h.cl,k.k _ _ (n _ (by simp[foot])) h.dc,k.k _ _ (n _ (by simp[foot])) h.br,⟨rs,k.k _ _ (n _ (by simp[foot])) e,r.keep k⟩,h.nd⟩
theorem ChipAt.same(h:ChipAt C H c a m)(s:Same H H'):ChipAt C H' c a m:=h.keep (F:=[]) (Keep.same s) (by simp)
theorem ChipAt.setLf(h:ChipAt C H c a m)(v:Option Int):ChipAt C (upd H c (.ins C a.dx (chF a { m with lf:=v }))) c a { m with lf:=v }:=by(
obtain⟨n1,n2,n3,n4,n5⟩:=h.ne
obtain⟨l1,_⟩:=h.nel
obtain⟨rs,e,r⟩:=h.rc
have k:Keep [c] H (upd H c (.ins C a.dx (chF a { m with lf:=v }))):=Keep.upd h.ins (λ_ z=>by cases z) (by simp)
exact⟨qG,by rw[qC l1];exact h.li,by rw[qC n1.symm];exact h.bo,by rw[qC n2.symm];exact h.cl,by rw[qC n3.symm];exact h.dc,by rw[qC n4.symm];exact h.br,⟨rs,by rw[qC n5.symm];exact e,r.keep k⟩,h.nd⟩)
theorem ChipAt.setBo(h:ChipAt C H c a m)(v:List V):ChipAt C (upd H a.bo (.lst v)) c a { m with bo:=v }:=by(
obtain⟨n1,n2,n3,n4,n5⟩:=h.ne
obtain⟨l0,l1,l2,l3,l4,l5⟩:=h.nel
obtain⟨⟨a1,a2,a3,a4⟩,⟨b1,b2,b3⟩,⟨c1,c2⟩,d1⟩:=h.dst
obtain⟨rs,e,r⟩:=h.rc
have k:Keep [a.bo] H (upd H a.bo (.lst v)):=Keep.upd h.bo (λ_ z=>by cases z) (by simp)
exact⟨by rw[qC n1];exact h.ins,by rw[qC l1];exact h.li,qG,by rw[qC a1.symm];exact h.cl,by rw[qC a2.symm];exact h.dc,by rw[qC a3.symm];exact h.br,⟨rs,by rw[qC a4.symm];exact e,r.keep k⟩,h.nd⟩)
theorem ChipAt.setCl(h:ChipAt C H c a m)(v:List Int):ChipAt C (upd H a.cl (.lst (v.map V.int))) c a { m with cl:=v }:=by(
obtain⟨n1,n2,n3,n4,n5⟩:=h.ne
obtain⟨l0,l1,l2,l3,l4,l5⟩:=h.nel
obtain⟨⟨a1,a2,a3,a4⟩,⟨b1,b2,b3⟩,⟨c1,c2⟩,d1⟩:=h.dst
obtain⟨rs,e,r⟩:=h.rc
have k:Keep [a.cl] H (upd H a.cl (.lst (v.map V.int))):=Keep.upd h.cl (λ_ z=>by cases z) (by simp)
exact⟨by rw[qC n2];exact h.ins,by rw[qC l2];exact h.li,by rw[qC a1];exact h.bo,qG,by rw[qC b1.symm];exact h.dc,by rw[qC b2.symm];exact h.br,⟨rs,by rw[qC b3.symm];exact e,r.keep k⟩,h.nd⟩)
theorem ChipAt.setDc(h:ChipAt C H c a m)(v:List Int):ChipAt C (upd H a.dc (.lst (v.map V.int))) c a { m with dc:=v }:=by(
obtain⟨n1,n2,n3,n4,n5⟩:=h.ne
obtain⟨l0,l1,l2,l3,l4,l5⟩:=h.nel
obtain⟨⟨a1,a2,a3,a4⟩,⟨b1,b2,b3⟩,⟨c1,c2⟩,d1⟩:=h.dst
obtain⟨rs,e,r⟩:=h.rc
have k:Keep [a.dc] H (upd H a.dc (.lst (v.map V.int))):=Keep.upd h.dc (λ_ z=>by cases z) (by simp)
exact⟨by rw[qC n3];exact h.ins,by rw[qC l3];exact h.li,by rw[qC a2];exact h.bo,by rw[qC b1];exact h.cl,qG,by rw[qC c1.symm];exact h.br,⟨rs,by rw[qC c2.symm];exact e,r.keep k⟩,h.nd⟩)
theorem ChipAt.addRc{p:Addr}{rs:List V}{d:Str×Int×Bool}(h:ChipAt C H c a m)(e:H a.rc=some (.lst rs))(hp:H p=some (.tup [.str d.1,.int d.2.1,.bl d.2.2])):ChipAt C (upd H a.rc (.lst (rs++[.ref p]))) c a { m with rc:=m.rc++[d] }:=by(
obtain⟨n1,n2,n3,n4,n5⟩:=h.ne
obtain⟨l0,l1,l2,l3,l4,l5⟩:=h.nel
obtain⟨⟨a1,a2,a3,a4⟩,⟨b1,b2,b3⟩,⟨c1,c2⟩,d1⟩:=h.dst
obtain⟨rs',e',r⟩:=h.rc
rw[e]at e'
cases e'
have k:Keep [a.rc] H (upd H a.rc (.lst (rs++[.ref p]))):=Keep.upd e (λ_ z=>by cases z) (by simp)
exact⟨by rw[qC n5];exact h.ins,by rw[qC l5];exact h.li,by rw[qC a4];exact h.bo,by rw[qC b3];exact h.cl,by rw[qC c2];exact h.dc,by rw[qC d1];exact h.br,⟨_,qG,Paired.snoc (r.keep k) ⟨p,rfl,k.tp _ _ hp⟩⟩,h.nd⟩)
end
noncomputable def CM.deed(m:CM)(w:Str)(pl b:Int)(f:Bool):CM:={ m with lf:=m.lf.map (· - 1),dc:=m.dc.set b.toNat (m.dc.getD b.toNat 0+1),rc:=m.rc++[(w,pl,!f)],br:=if f then m.br.set b.toNat true else m.br }
noncomputable def clr(xs:List V)(i n:Nat):List V:=match n with
|0=>xs
|n+1=>(clr xs i n).set (i+n) .non
noncomputable def CM.new(bl pg mo:Int)(lim:List (Key×V)):CM:=⟨bl,pg,mo,lim,List.replicate (bl*pg).toNat .non,List.replicate bl.toNat 0,List.replicate bl.toNat 0,List.replicate bl.toNat false,none,[]⟩
theorem qFU{x:V}{lo hi:Int}(h:inB x lo hi=true):∃p,x=.int p∧lo≤p∧p≤hi:=by(
cases x with
|int p=>have h:(decide (lo≤p)&&decide (p≤hi))=true:=h;rw[mR]at h;exact⟨p,rfl,mM h.1,mM h.2⟩
|_=>cases h)
theorem qIV{m:CM}{p:Int}(ok:m.Ok)(p0:0≤p)(p1:p≤m.bl*m.pg-1):0≤p / m.pg∧p / m.pg<m.bl:=by have:=ok.pg1;exact⟨Int.ediv_nonneg p0 (by lia),Int.ediv_lt_of_lt_mul (by lia) (by lia)⟩
theorem lf0{m:CM}:decide (lfV m.lf=V.int 0)=decide (m.lf=some 0):=by(
cases e:m.lf with
|none=>rfl
|some i=>
 show decide (V.int i=V.int 0)=_;by_cases z:i=0
 ·subst z;rfl
 rw[hX (λq=>z (by injection q)),hX (λq=>z (by injection q))])
theorem qFV{m:CM}:scal (lfV m.lf) (.int 0)=true:=by cases m.lf<;>rfl
theorem getB{m:CM}{b:Int}(h0:0≤b)(h:b<(m.br.length:Int)):atI (m.br.map V.bl) b=some (.bl (m.br.getD b.toNat false)):=by(
obtain⟨j,rfl⟩:=wD h0
refine v8 ?_
have hj:j<m.br.length:=by lia
simp[hj])
theorem getI{xs:List Int}{b:Int}(h0:0≤b)(h:b<(xs.length:Int)):atI (xs.map V.int) b=some (.int (xs.getD b.toNat 0)):=by(
obtain⟨j,rfl⟩:=wD h0
refine v8 ?_
have hj:j<xs.length:=by lia
simp[hj])
theorem getV{xs:List V}{b:Int}(h0:0≤b)(h:b<(xs.length:Int)):atI xs b=some (xs.getD b.toNat .non):=by(
obtain⟨j,rfl⟩:=wD h0
refine v8 ?_
have hj:j<xs.length:=by lia
simp[hj])
theorem ixOk{n:Nat}{b:Int}(h0:0≤b)(h:b<(n:Int)):ixN n b=some b.toNat:=by unfold ixN;rw[kJ h0,kJ h]
theorem CM.Ok.deed{m:CM}(ok:m.Ok){w:Str}{pl b:Int}{f:Bool}(h:m.rc.length<1000000):(m.deed w pl b f).Ok:=by(
refine⟨ok.bl1,ok.bl2,ok.pg1,ok.pg2,ok.nbo,ok.ncl,?_,?_,ok.lim,?_⟩
·show((m.dc.set _ _).length:Int)=m.bl;rw[gM];exact ok.ndc
·show(((if f then m.br.set b.toNat true else m.br)).length:Int)=m.bl;cases f with
 |true=>rw[kJ rfl,gM];exact ok.nbr
 |false=>exact ok.nbr
show(m.rc++[_]).length≤1000000
rw[mH,gD]
lia)
noncomputable def qFW:Sp:=λvs H Q _=>∃x y,vs=[x,y]∧Knd H x∧Knd H y∧Q (.bl (inB x 2 16&&inB y 1 16)) H
theorem Paired.at{α β:Type}{F:α→β→Prop}:∀{l₁:List α} {l₂:List β} {i:Nat} {a:α},Paired F l₁ l₂→l₁[i]?=some a→∃b,l₂[i]?=some b∧F a b
|_,_,0,_,.cons r _,e=>by simp at e;subst e;exact⟨_,rfl,r⟩
|_,_,i+1,_,.cons _ t,e=>by have e2:=sJ.symm.trans e;obtain⟨b,h1,h2⟩:=Paired.at t e2;exact⟨b,sJ.trans h1,h2⟩
|_,_,_,_,.nil,e=>by simp at e
theorem q4Y(xs:List V)(i:Nat):∀n,(clr xs i n).length=xs.length
|0=>rfl
|n+1=>by show((clr xs i n).set (i+n) .non).length=xs.length;rw[gM,q4Y xs i n]
theorem qIW{bl pg mo:Int}{lim:List (Key×V)}(b1:2≤bl)(b2:bl≤16)(p1:1≤pg)(p2:pg≤16)(hl:∀b v,valV lim (Sum.inl b)=some v→∃n,v=V.int n):(CM.new bl pg mo lim).Ok:=by(
have h:0≤bl*pg:=lD (by lia) (by lia)
refine⟨b1,b2,p1,p2,?_,?_,?_,?_,hl,by show 0≤1000000;decide⟩
·show((List.replicate (bl*pg).toNat V.non).length:Int)=bl*pg;rw[gN];lia
·show((List.replicate bl.toNat (0:Int)).length:Int)=bl;rw[gN];lia
·show((List.replicate bl.toNat (0:Int)).length:Int)=bl;rw[gN];lia
show((List.replicate bl.toNat false).length:Int)=bl
rw[gN]
lia)
noncomputable def Up(x:Addr)(H H':Hp):Prop:=∀b o,b≠x→H b=some o→H' b=some o
section
variable{x C dx:Addr}{fs:List (Str×V)}{H H':Hp}
theorem Up.of{o:HO}(s:Same H H'):Up x H (upd H' x o):=λb u n e=>by rw[qC n];exact s b u e
theorem Up.free(u:Up x H H'){b:Addr}(n:b≠x)(e:H' b=none):H b=none:=by(
cases q:H b with
|none=>rfl
|some o=>rw[u b o n q]at e;cases e)
end
end L2
namespace L2
open PySem PySem.Spec PyProof.Rows
noncomputable def tMid(t u:TS):TS:=λD σ H=>∃M:St→Hp→Prop,t { D with nx:=M } σ H∧∀σ' H',M σ' H'→u D σ' H'
noncomputable def qKE(t:TT):TT:=λσ H Q=>∃M:Bool→Hp→Prop,t σ H M∧∀b H',M b H'→Q b H'
noncomputable def qKF(t:TE):TE:=λσ H Q=>∃M:VK,t σ H M∧∀v H',M v H'→Q v H'
section
variable{X:Cx}{st:Stmt}{rest:List Stmt}{t u:TS}{e:Expr}{te:TE}{tt:TT}
theorem q4Z(h1:PS X st t)(h2:PSs X rest u):PSs X (st::rest) (tMid t u):=by(
intro pins s σ H D I hZ
obtain⟨M,a,b⟩:=hZ
refine hV (thn (h1 pins s σ H _ I a) λf s1 z=>?_)
cases f with
|next=>obtain⟨σ',H',I',q⟩:=z;exact h2 pins s1 σ' H' D I' (b σ' H' q)
|brk=>exact kY z
|cont=>exact kY z
|ret v=>exact kY z)
theorem qIX(h:PT X e tt):PT X e (qKE tt):=λpins s σ H Q I ⟨M,a,b⟩=>thn (h pins s σ H M I a) λc s1 ⟨H',I',q⟩=>⟨H',I',b c H' q⟩
theorem qDS(h:PE X e te):PE X e (qKF te):=λpins s σ H Q I ⟨M,a,b⟩=>thn (h pins s σ H M I a) λc s1 ⟨v,H',I',r,q⟩=>⟨v,H',I',r,b v H' q⟩
end
theorem q2U{a b:Int}:decide (V.int a=V.int b)=decide (a=b):=by(
by_cases e:a=b
·subst e;simp
rw[hX e,hX (λz=>e (by injection z))])
theorem q2V(x n:Int)(h:0<n):0≤x%n∧x%n<n:=⟨x6 _ (by lia),lW _ h⟩
section
variable{X:Cx}{pins:List (Addr×Obj)}{σ:St}{H:Hp}{s:Shared}{h':Heap}
theorem Inv.turnedN{t':Nat}{fp:List Addr}(I:Inv X pins σ H s)(k:∀b o,b∉fp→s.heap.get? b=some o→h'.get? b=some o)(hf:∀b∈fp,FpOk X pins H b):Inv X pins σ H { s with heap:=h',toks:=t' }:=by(
have nit:∀b u,H b=some u→b∉fp:=λb u e z=>by rw[(hf b z).1]at e;cases e
refine I.step (g':=s.gens) (d':=s.drawn) (ch:=fp) (λb hb=>?_) (λb o _ _ hc e _=>k b o hc e) (λb o _ _ hc e _=>⟨o.slots,k b o hc e⟩) (λ_ _ _ _ n=>n)
 (λb o hc e=>⟨o,k b o hc e⟩) (λ_ _ e=>e) (λ_ _ _ e=>e) (λb ps e=>⟨#[],by rw[e];simp⟩) (λm hm=>?_) (λb u e=>?_) I.bare
·obtain⟨f0,f1,f2,f3,f4,f5⟩:=hf b hb;exact⟨f3,f1,f4,f5⟩
·obtain⟨o,es,ep,ho,r⟩:=hm;exact⟨o,es,ep,k _ o (λz=>(hf _ z).2.1 rfl) ho,r⟩
refine(I.hok b u e).stay (λc v hc q=>k c v ?_ q) (λ_ q=>q) λ_ _ q=>q
rcases hc with z|z
·rw[z];exact nit b u e
exact nit c _ z)
end
noncomputable def Itz(K:PySem.W.Frag)(l1 l2:Addr):It:=⟨λi H=>∃xs ys x y,SqL K H l1 xs∧SqL K H l2 ys∧xs[i]?=some x∧ys[i]?=some y,λi H v H'=>∃T x y,v=.ref T∧H T=none∧H'=upd H T (.tup [x,y])∧(∀xs,SqL K H l1 xs→xs[i]?=some x)∧∀ys,SqL K H l2 ys→ys[i]?=some y,λi H=>∃xs ys,SqL K H l1 xs∧SqL K H l2 ys∧(xs.length≤i∨ys.length≤i)⟩
theorem qDT{P:Program}{w:World}{K:PySem.W.Frag}{elts:List Expr}{x1}{pos:Pos}(z TI TO i1 i2 l1 l2:Addr)(D:ZipApart z TI TO i1 i2 l1 l2):
 Turn P w K (.Tuple elts x1 pos) (Itz K l1 l2) [z,TI,TO,i1,i2] z (λi h=>IsZip h z TI TO .none∧IsPair h TI (.ref i1) (.ref i2)∧(∃a b,IsPair h TO a b)∧h.IsListIter i1 l1 i∧h.IsListIter i2 l2 i) where
mem:=by simp
obj:=λi h st b hb=>by
 obtain⟨a1,a2,⟨p,q,a3⟩,⟨o4,e4,c4,d4⟩,⟨o5,e5,c5,d5⟩⟩:=st;simp only[kI,gE,rK]at hb;rcases hb with rfl|rfl|rfl|rfl|rfl
 ·exact⟨_,a1,λv z=>by cases z⟩
 ·exact⟨_,a2,λv z=>by cases z⟩
 ·exact⟨_,a3,λv z=>by cases z⟩
 ·exact⟨_,e4,λv z=>by rw[d4]at z;cases z⟩
 exact⟨_,e5,λv z=>by rw[d5]at z;cases z⟩
keep:=λi h h' st k=>by obtain⟨a1,a2,⟨p,q,a3⟩,a4,a5⟩:=st;exact⟨k z (by simp) _ a1,k TI (by simp) _ a2,⟨p,q,k TO (by simp) _ a3⟩,a4.at λo e=>k i1 (by simp) o e,a5.at λo e=>k i2 (by simp) o e⟩
item:=by
 intro X hP hw hK hc i pins s σ H E I hf st hg;subst hP hw hK;obtain⟨xs,ys,x,y,hq1,hq2,hx,hy⟩:=hg;obtain⟨its1,rv1,p1,hz1⟩:=I.list hq1;obtain⟨u1,hu1,ru1⟩:=rv1.get hx;obtain⟨its2,rv2,p2,hz2⟩:=I.list hq2;obtain⟨u2,hu2,ru2⟩:=rv2.get hy;obtain⟨a1,a2,⟨p,q,a3⟩,a4,a5⟩:=st;refine wpAny_pyNext_zip_item D a1 a2 a3 a4 a5 p1.isList p2.isList (x:=u1) (y:=u2) (by simpa using hu1) (by simpa using hu2) λh' b1 b2 b3 b4 b5 b6 b7=>?_;refine⟨_,rfl,wpAny_letOwnedTupleGo_zip (s:={ s with heap:=h' }) b1 λh'' c1 c2=>?_⟩;have lt:∀{c o},s.heap.get? c=some o→s.heap.objs.size≠c:=λe=>dG (kP e);have kk:∀b o,b∉[z,TI,TO,i1,i2]→s.heap.get? b=some o→h''.get? b=some o:=λb o hb e=>by simp only[kI,gE,rK,not_or]at hb;exact c2.extBut _ _ hb.1 (b7 b o hb.1 hb.2.2.1 hb.2.2.2.1 hb.2.2.2.2 e)
 have I1:Inv X pins σ H { s with heap:=h'' }:=I.turnedN (t':=s.toks) kk hf;have fr:H s.heap.objs.size=none:=I.hok.fresh (kN _);have yg:=I.young (a:=s.heap.objs.size) (cC (kN _));have pr:IsPair h'' s.heap.objs.size u1 u2:=c2.extBut _ _ (lt a1) b5;have I2:=I1.trackG (o:=.tup [x,y]) fr yg (dG I.lt) (λx' c' w q'=>by obtain⟨v,o',ho,_⟩:=I.cell x' c' w;exact absurd (kP ho) (by rw[q'];exact dE _)) ⟨by rw[gG,mG,mG,rT];lia,[u1,u2],.cons ru1 (.cons ru2 .nil),⟨_,pr,rfl,_,rfl⟩⟩;refine⟨.ref s.heap.objs.size,_,I2,rfl,⟨_,x,y,rfl,fr,rfl,λxs' h=>by rw[I.list_inj h hq1];exact hx,λys' h=>by rw[I.list_inj h hq2];exact hy⟩,⟨c1,c2.extBut _ _ D.TIz (b7 _ _ D.TIz D.TITO D.TIi1 D.TIi2 a2),⟨_,_,c2.extBut _ _ D.TOz b2⟩,b3.extBut c2.extBut D.i1z,b4.extBut c2.extBut D.i2z⟩,λb hb=>?_⟩;have ob:∃o,s.heap.get? b=some o:=by
  obtain⟨o4,e4,_⟩:=a4;obtain⟨o5,e5,_⟩:=a5;simp only[kI,gE,rK]at hb;rcases hb with rfl|rfl|rfl|rfl|rfl
  ·exact⟨_,a1⟩
  ·exact⟨_,a2⟩
  ·exact⟨_,a3⟩
  ·exact⟨_,e4⟩
  exact⟨_,e5⟩
 obtain⟨o,e⟩:=ob;rw[qC (r6 (lt e))];exact(hf b hb).1
done:=by intro X hP hw hK hc i pins s σ H E I hf st hg;subst hP hw hK;obtain⟨xs,ys,hq1,hq2,hx⟩:=hg;obtain⟨its1,rv1,p1,hz1⟩:=I.list hq1;obtain⟨its2,rv2,p2,hz2⟩:=I.list hq2;obtain⟨a1,a2,⟨p,q,a3⟩,a4,a5⟩:=st;have e1:=rv1.length;have e2:=rv2.length;refine wpAny_pyNext_zip_end (I.ok.hd hc) D a1 a2 a3 a4 a5 p1.isList p2.isList (hx.elim (λh=>.inl (by simp;lia)) λh=>.inr (by simp;lia)) λh' k=>⟨rfl,I.turnedN (t':=s.toks) (λb o hb e=>?_) hf⟩;simp only[kI,gE,rK,not_or]at hb;exact k b o hb.1 hb.2.2.1 hb.2.2.2.1 hb.2.2.2.2 e
self:=λ_ _ _ _ _ st h=>wpAny_pyIter_zip st.1 h
section
variable{X:Cx}
noncomputable def iZip(K:PySem.W.Frag)(ta:TA):TI:=λσ H R=>ta σ H λvs H1=>∃a b,vs=[.ref a,.ref b]∧(∃xs,SqL K H1 a xs)∧(∃ys,SqL K H1 b ys)∧R (Itz K a b) H1
theorem qIY{a b:Expr}{ta:TA}{p pos:Pos}{elts:List Expr}{x1}{pz:Pos}(hg:Gl X "zip")(hm:X.mg "zip"=none)(ha:PA X [a,b] ta)(hs:starEach [a,b] X.env=[(false,eval a X.env),(false,eval b X.env)]:=by rfl)(hs2:starEach [b] X.env=[(false,eval b X.env)]:=by rfl):
 PI X (.Tuple elts x1 pz) (.Call (.Name "zip" p) [a,b] [] pos) (iZip X.K ta):=by(
intro pins s σ H R I h
refine Call_ (q0K I hg hm (u:=.type "zip") (by kernel_rfl) (rD (thn (ha pos pins s σ H _ I h) λus s1 ⟨vs,H1,I1,r1,q1⟩=>?_) (by rw[hs,hs2]) (by rw[hs2];rfl)))
obtain⟨a,b,e,⟨xs,hq1⟩,⟨ys,hq2⟩,q⟩:=q1
subst e
obtain⟨u,u',rfl,ru,ru'⟩:=qD5 r1
cases ru
cases ru'
obtain⟨its1,rv1,p1,hz1⟩:=I1.list hq1
obtain⟨its2,rv2,p2,hz2⟩:=I1.list hq2
refine call_zip_2 p1.isList p2.isList λh' a1 a2 a3 a4 a5 a6 k=>?_
have n1:@LT.lt Nat _ a s1.heap.objs.size:=by obtain⟨o,n,e,_⟩:=p1;exact kP e
have n2:@LT.lt Nat _ b s1.heap.objs.size:=by obtain⟨o,n,e,_⟩:=p2;exact kP e
refine wpAny_pyIter_zip a1 ?_
have I2:Inv X pins σ H1 { s1 with heap:=h' }:=I1.kept (t':=s1.toks) k
refine⟨_,[s1.heap.objs.size+4,s1.heap.objs.size+2,s1.heap.objs.size+3,s1.heap.objs.size,s1.heap.objs.size+1],_,_,H1,rfl,I2,qDT _ _ _ _ _ a b ⟨?_,?_,?_,?_,?_,?_,?_,?_,?_,?_,?_,?_,?_,?_,?_,?_,?_,?_⟩,⟨a1,a2,⟨_,_,a3⟩,a4,a5⟩,λc hc=>?_,q⟩
case refine_19=>
 have hc':s1.heap.objs.size≤c:=by simp only[kI,gE,rK]at hc;rcases hc with rfl|rfl|rfl|rfl|rfl<;>lia
 exact I1.fpOk hc' (I1.hok.fresh hc')
all_goals (show @Ne Nat _ _;first|exact(λh=>absurd (show(_:Nat)=_ from h) (by lia))))
end
end L2
namespace L2
open PySem
theorem q5N{es rest:List Expr}{x1}{p:Pos}{env:Env}:starEach (.Tuple es x1 p::rest) env=(false,eval (.Tuple es x1 p) env)::starEach rest env:=rfl
theorem q94{es rest:List Expr}{p:Pos}{env:Env}:starEach (.List es p::rest) env=(false,eval (.List es p) env)::starEach rest env:=rfl
end L2
namespace L2
open PySem PySem.Spec PyProof.Rows
inductive Eqv(K:PySem.W.Frag)(H:Hp):Nat→V→V→Prop where
|flat {n:Nat} {x:V} (f:zG x=true):Eqv K H n x x
|lst {n:Nat} {a b:Addr} {xs ys:List V} (ha:SqL K H a xs) (hb:SqL K H b ys) (hl:xs.length=ys.length) (hi:∀(i:Nat) x y,xs[i]?=some x→ys[i]?=some y→Eqv K H n x y):Eqv K H (n+1) (.ref a) (.ref b)
|tup {n:Nat} {a b:Addr} {xs ys:List V} (ha:SqT K H a xs) (hb:SqT K H b ys) (hl:xs.length=ys.length) (hi:∀(i:Nat) x y,xs[i]?=some x→ys[i]?=some y→Eqv K H n x y):Eqv K H (n+1) (.ref a) (.ref b)
theorem qDU{x:V}(f:zG x=true):eqV x x=true:=by(
cases x with
|non=>rfl
|bl b=>cases b<;>rfl
|int i=>show(i==i)=true;exact beq_self_eq_true i
|str z=>show(z==z)=true;exact beq_self_eq_true z
|_=>exact absurd (show false=true from f) kO)
theorem q1D{n:Nat}:(List.range n).all (λ_=>true)=true:=by simp
section
variable{X:Cx}{pins:List (Addr×Obj)}{σ:St}{H:Hp}{s:Shared}
theorem Vals.atN{xs:List V}{us:List Value}(r:Vals xs us){j:Nat}(h:j<us.length):∃x,xs[j]?=some x∧RelV x us[j]:=by(
have e:xs[j]?=some (xs[j]'(by rw[r.length];exact h)):=kC _
obtain⟨u,hu,ru⟩:=r.get e
rw[kC h]at hu
cases hu
exact⟨_,e,ru⟩)
theorem Eqv.at(I:Inv X pins σ H s){n:Nat}{y x:V}(h:Eqv X.K H n y x):∀{A:Around} {u v:Value},RelV y u→RelV x v→A.units+n<cLine→SeqAt.EqAt A s u v true:=by(
induction h with
|flat f=>intro A u v ru rv _;have e:=qDB (A:=A) (s:=s) ru rv f f;rw[qDU f]at e;exact e
|@lst n a b xs ys ha hb hl hi ih=>
 intro A u v ru rv hu;cases ru;cases rv;by_cases hab:a=b
 ·subst hab;exact nM _
 obtain⟨i1,r1,p1,_⟩:=I.list ha;obtain⟨i2,r2,p2,_⟩:=I.list hb;have l1:=r1.length;have l2:=r2.length;refine lY hab ?_;have e:=SeqAt.RcAt.lists (A:=A) (e:=λ_=>true) p1.isList p2.isList (by simp;lia) (by lia) (λj h1 h2=>?_)
 ·rw[q1D]at e;exact e
 obtain⟨x1,e1,q1⟩:=r1.atN (j:=j) (by simpa using h1);obtain⟨x2,e2,q2⟩:=r2.atN (j:=j) (by simpa using h2);exact ih j x1 x2 e1 e2 (by simpa using q1) (by simpa using q2) (by show A.units+1+n<cLine;lia)
|@tup n a b xs ys ha hb hl hi ih=>
 intro A u v ru rv hu;cases ru;cases rv;by_cases hab:a=b
 ·subst hab;exact nM _
 obtain⟨i1,r1,p1,_⟩:=I.tuple ha;obtain⟨i2,r2,p2,_⟩:=I.tuple hb;have l1:=r1.length;have l2:=r2.length;refine lY hab ?_;have e:=SeqAt.RcAt.tuples (A:=A) (e:=λ_=>true) (show s.heap.IsTuple a i1.toArray from p1) (show s.heap.IsTuple b i2.toArray from p2) (by lia) (λj h1 h2=>?_)
 ·rw[q1D,aW,show(i1.toArray.size==i2.toArray.size)=true by simp;lia]at e;exact e
 obtain⟨x1,e1,q1⟩:=r1.atN (j:=j) (by simpa using h1);obtain⟨x2,e2,q2⟩:=r2.atN (j:=j) (by simpa using h2);exact ih j x1 x2 e1 e2 (by simpa using q1) (by simpa using q2) (by show A.units+1+n<cLine;lia))
theorem qCH{x:V}(f:zG x=true):scal x x=true:=by(
cases x with
|non=>rfl
|bl b=>rfl
|int i=>rfl
|str z=>rfl
|_=>exact absurd (show false=true from f) kO)
noncomputable def qKG(K:PySem.W.Frag)(r:Bool):R2:=λx y H Q=>Eqv K H 6 x y∧Q (.bl r) H
theorem qDV(hu:X.A.units+64<cLine):OpR X (compareOp .NotEq) (qKG X.K false):=by(
intro pins s σ H x y v u Q I rx ry hZ
obtain⟨h,q⟩:=hZ
cases h with
|flat f=>exact q5D pins s σ H x x v u Q I rx ry ⟨qCH f,by rw[hG rfl];exact q⟩
|@lst _ a b xs ys ha hb hl hi=>cases rx;cases ry;obtain⟨i1,r1,p1,_⟩:=I.list ha;obtain⟨i2,r2,p2,_⟩:=I.list hb;have l1:=r1.length;have l2:=r2.length;refine SeqAt.RcNeAt.lists (e:=λ_=>true) p1.isList p2.isList (by simp;lia) (by lia) (λj h1 h2=>?_) _ _ _ _ ⟨.bl false,H,I,by rw[q1D];rfl,q⟩;obtain⟨x1,e1,q1⟩:=r1.atN (j:=j) (by simpa using h1);obtain⟨x2,e2,q2⟩:=r2.atN (j:=j) (by simpa using h2);exact(hi j x1 x2 e1 e2).at I (by simpa using q1) (by simpa using q2) (by show X.A.units+1+5<cLine;lia)
|@tup _ a b xs ys ha hb hl hi=>cases rx;cases ry;obtain⟨i1,r1,p1,_⟩:=I.tuple ha;obtain⟨i2,r2,p2,_⟩:=I.tuple hb;have l1:=r1.length;have l2:=r2.length;refine lJ (e:=λ_=>true) (show s.heap.IsTuple a i1.toArray from p1) (show s.heap.IsTuple b i2.toArray from p2) (by lia) (λj h1 h2=>?_) _ _ _ _ ⟨.bl false,H,I,by rw[q1D,aW,show(i1.toArray.size==i2.toArray.size)=true by simp;lia];rfl,q⟩;obtain⟨x1,e1,q1⟩:=r1.atN (j:=j) (by simpa using h1);obtain⟨x2,e2,q2⟩:=r2.atN (j:=j) (by simpa using h2);exact(hi j x1 x2 e1 e2).at I (by simpa using q1) (by simpa using q2) (by show X.A.units+1+5<cLine;lia))
end
end L2
namespace L2
open PySem
theorem q7J{K:PySem.W.Frag}{H:Hp}{n:Nat}{a b:Addr}{xs:List V}(ha:SqT K H a xs)(hb:SqT K H b xs)(f:∀x∈xs,zG x=true):Eqv K H (n+1) (.ref a) (.ref b):=.tup ha hb rfl λi x y hx hy=>by  have e:=kM (hx.symm.trans hy);subst e;exact .flat (f x (gH hx))
theorem qFX{K:PySem.W.Frag}{H:Hp}{a b:Addr}{rs rs':List V}{ds:List (Str×Int×Bool)}(ha:H a=some (.lst rs))(hb:H b=some (.lst rs'))(r:Recd H rs ds)(r':Recd H rs' ds):Eqv K H 6 (.ref a) (.ref b):=.lst (SqL.of ha) (SqL.of hb) (r.len.trans r'.len.symm) λi x y hx hy=>by  obtain⟨d,hd,p,rfl,hp⟩:=Paired.at r hx;obtain⟨d',hd',p',rfl,hp'⟩:=Paired.at r' hy;have e:=kM (hd.symm.trans hd');subst e;exact q7J (SqT.of hp) (SqT.of hp') (by simp[zG])
end L2
namespace W1
open PySem L2
section
variable{K:PySem.W.Frag}{H:Hp}{Q:VK}{N:St→Hp→Prop}
theorem qFY{l1 l2:Addr}{xs ys:List V}{g:TG}{tb:TS}{D:Ends}{σ:St}{H:Hp}(Pv:Nat→St→Hp→Prop)(h0:Pv 0 σ H)(hl:∀i σ H,Pv i σ H→SqL K H l1 xs∧SqL K H l2 ys)(he:xs.length=ys.length)
 (hs:∀i σ H x y T,xs[i]?=some x→ys[i]?=some y→Pv i σ H→H T=none→g (.ref T) σ (upd H T (.tup [x,y])) λσ2 H2=>tb { D with nx:=Pv (i+1),ct:=Pv (i+1),bk:=D.nx } σ2 H2) (hd:∀σ H,Pv xs.length σ H→D.nx σ H):
 ∃W:Nat→Nat→St→Hp→Prop,(∃m,W 0 m σ H)∧∀i m σ H,W i m σ H→((Itz K l1 l2).stop i H∧D.nx σ H)∨((Itz K l1 l2).go i H∧∃N:St→Hp→Prop,(∀σ' H',N σ' H'→∃m',m'<m∧W (i+1) m' σ' H')∧∀x H',(Itz K l1 l2).yld i H x H'→g x σ H' λσ2 H2=>tb { D with nx:=N,ct:=N,bk:=D.nx } σ2 H2):=by(
refine⟨λi m σ H=>m=xs.length-i∧i≤xs.length∧Pv i σ H,⟨xs.length,by simp,mU _,h0⟩,?_⟩
rintro i m σ H ⟨rfl,hi,p⟩
obtain⟨q1,q2⟩:=hl i σ H p
by_cases hlt:i<xs.length
·right;have e1:xs[i]?=some xs[i]:=kC hlt;have e2:ys[i]?=some (ys[i]'(by lia)):=kC (by lia);refine⟨⟨xs,ys,_,_,q1,q2,e1,e2⟩,Pv (i+1),λσ' H' z=>⟨xs.length-(i+1),by lia,rfl,by lia,z⟩,?_⟩;rintro v H' ⟨T,x,y,rfl,nT,rfl,z1,z2⟩
 exact hs i σ H x y T (z1 _ q1) (z2 _ q2) p nT
left
obtain rfl:i=xs.length:=by lia
exact⟨⟨xs,ys,q1,q2,.inl (kN _)⟩,hd σ H p⟩)
end
end W1
namespace L2
open PySem PySem.Spec PyProof.Rows
noncomputable def clOf(env:Env):List (Str×NameKind)→List (Str×Addr)→List (Str×Addr)
| [],cs=>cs
|(n,k)::r,cs=>clOf env r (if(k==NameKind.free)=true then(match env.cells.lookup n with|some a=>(n,a)::cs|none=>cs)else cs)
theorem q5O{scope:Scope}{env:Env}(h:∀y∈scope.names,y.2=.free→∃c,env.cells.lookup y.1=some c):closureFor scope env=pure (clOf env scope.names []):=by(
unfold closureFor
have go:∀(l:List (Str×NameKind)) (cs:List (Str×Addr)),(∀y∈l,y.2=.free→∃c,env.cells.lookup y.1=some c)→(forIn l cs λx r=>(match x with|(name,kind)=>if(kind==NameKind.free)=true then do let a←cellOf env name;pure (ForInStep.yield ((name,a)::r))else pure (ForInStep.yield r):Sem (ForInStep (List (Str×Addr)))))=pure (clOf env l cs):=by
 intro l;induction l with
 |nil=>intro cs _;rfl
 |cons y r ih=>
  intro cs hl;obtain⟨n,k⟩:=y;rw[x8];by_cases hk:(k==NameKind.free)=true
  ·obtain⟨c,e⟩:=hl (n,k) kX (by simpa using hk);have e2:cellOf env n=pure c:=by unfold cellOf;rw[e]
   show(bind (if(k==NameKind.free)=true then _ else _) _:Sem _)=_;rw[kJ hk,e2];show(forIn r ((n,c)::cs) _:Sem _)=pure (clOf env r (if(k==NameKind.free)=true then(match env.cells.lookup n with|some a=>(n,a)::cs|none=>cs)else cs));rw[kJ hk,e];exact ih _ λy hy=>hl y (hU _ hy)
  show(bind (if(k==NameKind.free)=true then _ else _) _:Sem _)=_;rw[kF hk];show(forIn r cs _:Sem _)=pure (clOf env r (if(k==NameKind.free)=true then(match env.cells.lookup n with|some a=>(n,a)::cs|none=>cs)else cs));rw[kF hk];exact ih _ λy hy=>hl y (hU _ hy)
exact(gZ (λz:Sem (List (Str×Addr))=>z >>= λs=>pure s) (go scope.names [] h)).trans rfl)
theorem q5P{env:Env}{x:Str}{c:Addr}:∀(l:List (Str×NameKind)) (cs:List (Str×Addr)),(cs.lookup x=some c→env.cells.lookup x=some c)→(clOf env l cs).lookup x=some c→env.cells.lookup x=some c
| [],cs,hcs,h=>hcs h
|(n,k)::r,cs,hcs,h=>by
 refine q5P r _ ?_ h;intro q;split at q
 ·cases e:env.cells.lookup n with
  |none=>rw[e]at q;exact hcs q
  |some a=>
   rw[e]at q;have q:List.lookup x ((n,a)::cs)=some c:=q;rw[dX]at q;cases z:x==n with
   |true=>
    rw[z]at q;have z':x=n:=by simpa using z
    rw[z',e,←q]
   |false=>rw[z]at q;exact hcs q
 exact hcs q
theorem q5Q{env:Env}{x:Str}{c:Addr}(e:env.cells.lookup x=some c):∀(l:List (Str×NameKind)) (cs:List (Str×Addr)),((x,NameKind.free)∈l∨cs.lookup x=some c)→(clOf env l cs).lookup x=some c
| [],cs,h=>h.resolve_left (by simp)
|(n,k)::r,cs,h=>by
 refine q5Q e r _ ?_;by_cases hn:(x==n)=true
 ·have z':x=n:=by simpa using hn
  by_cases hk:(k==NameKind.free)=true
  ·refine .inr ?_;rw[kJ hk,←z',e];show List.lookup x ((x,c)::cs)=some c;simp
  rcases h with h|h
  ·rcases kI.mp h with q|q
   ·cases q;exact absurd (by simp) hk
   exact .inl q
  rw[kF hk];exact .inr h
 have nx:x≠n:=λz=>hn (by simp[z]);rcases h with h|h
 ·rcases kI.mp h with q|q
  ·cases q;exact absurd rfl nx
  exact .inl q
 refine .inr ?_;split
 ·cases en:env.cells.lookup n with
  |none=>exact h
  |some a=>
   show List.lookup x ((n,a)::cs)=some c;have hn:(x==n)=false:=by simpa using nx
   rw[dX,hn];exact h
 exact h
theorem q95{env:Env}{x:Str}:∀{names:List (Str×NameKind)},(∀y∈names,y.2≠ .cell)→((names.map λ(n,k)=>if(k==NameKind.free&&env.scope.kind== .function&&env.kindOf n==some .cell)then(n,NameKind.cell)else(n,k)).lookup x=some .cell∨(names.map λ(n,k)=>if(k==NameKind.free&&env.scope.kind== .function&&env.kindOf n==some .cell)then(n,NameKind.cell)else(n,k)).lookup x=some .free)→(x,NameKind.free)∈names
| [],_,h=>by simp at h
|(n,k)::r,hc,h=>by
 have ih:=@q95 env x r λy hy=>hc y (hU _ hy);rw[mL]at h;by_cases hq:(k==NameKind.free&&env.scope.kind== .function&&env.kindOf n==some .cell)=true
 ·have hk:k=.free:=by rw[mR,mR]at hq;simpa using hq.1.1
  simp only[kJ hq,dX]at h;cases hx:x==n with
  |true=>
   have e:x=n:=by simpa using hx
   rw[e,hk];exact kX
  |false=>simp only[hx]at h;exact hU _ (ih h)
 simp only[kF hq,dX]at h;cases hx:x==n with
 |true=>
  simp only[hx]at h;have e:x=n:=by simpa using hx
  rcases h with h|h
  ·cases h;exact absurd rfl (hc _ kX)
  cases h;rw[e];exact kX
 |false=>simp only[hx]at h;exact hU _ (ih h)
theorem q96{env:Env}{x:Str}(hk:env.scope.kind=.function)(he:env.kindOf x=some .cell):∀{names:List (Str×NameKind)},names.lookup x=some .free→(names.map λ(n,k)=>if(k==NameKind.free&&env.scope.kind== .function&&env.kindOf n==some .cell)then(n,NameKind.cell)else(n,k)).lookup x=some .cell
| [],h=>by simp at h
|(n,k)::r,h=>by
 have ih:=@q96 env x hk he r;rw[mL];rw[dX]at h;cases hx:x==n with
 |true=>
  simp only[hx]at h;have e:x=n:=by simpa using hx
  cases h;subst e;show List.lookup x ((if(NameKind.free==NameKind.free&&env.scope.kind==ScopeKind.function&&env.kindOf x==some NameKind.cell)=true then(x,NameKind.cell)else(x,NameKind.free))::_)=_;rw[kJ (by rw[hk,he];rfl),dX];simp
 |false=>
  simp only[hx]at h;show List.lookup x ((if(k==NameKind.free&&env.scope.kind==ScopeKind.function&&env.kindOf n==some NameKind.cell)=true then(n,NameKind.cell)else(n,k))::_)=_;by_cases hq:(k==NameKind.free&&env.scope.kind== .function&&env.kindOf n==some .cell)=true
  ·rw[kJ hq,dX];simp only[hx];exact ih h
  rw[kF hq,dX];simp only[hx];exact ih h
noncomputable abbrev vB(X:Cx)(N:List Str)(scope:Scope)(C:Addr)(fp:List Addr)(s:Shared)(H:Hp)(xe:Value→Shared→Prop):Cx:={ X with N:=N,s₀:=s,H₀:=H,env:=compEnvC scope (clOf X.env scope.names []) C X.env,outer:=X.stack,ex:=fp,fn:=λ_=>false,xe:=xe }
noncomputable def pick(ix:List Nat)(σ:St):St:=ix.map λi=>σ.getD i none
noncomputable def q7K(XN:List Str)(kd:Str→Option NameKind)(names:List (Str×NameKind))(N:List Str)(ix:List Nat):Bool:=(List.range ix.length).all λj=>match N[j]?,ix[j]? with
 |some x,some i=>decide (XN[i]?=some x)&&decide (names.lookup x=some .free)&&decide (kd x=some .cell)
 |_,_=>false
theorem qDW{XN:List Str}{kd:Str→Option NameKind}{names:List (Str×NameKind)}{N:List Str}{ix:List Nat}(h:q7K XN kd names N ix=true){j:Nat}(hj:j<ix.length){x:Str}(hx:N[j]?=some x):
 ∃i,ix[j]?=some i∧XN[i]?=some x∧names.lookup x=some .free∧kd x=some .cell:=by(
unfold q7K at h
rw[dY]at h
have q:=h j (mV.mpr hj)
rw[hx,kC hj]at q
simp only[mR,kQ]at q
exact⟨_,kC hj,q.1.1,q.1.2,q.2⟩)
theorem qFZ{X:Cx}{pins:List (Addr×Obj)}{σ:St}{H:Hp}{s:Shared}(I:Inv X pins σ H s){N:List Str}{ix:List Nat}{scope:Scope}{fp:List Addr}{xe:Value→Shared→Prop}(hf:∀b∈fp,FpOk X pins H b)(ho:∀b∈fp,∃o,s.heap.get? b=some o)
 (hk:scope.kind=.function) (hc:∀y∈scope.names,y.2≠ .cell) (hfr:∀y∈scope.names,y.2=.free→X.env.kindOf y.1=some .cell) (hcap:q7K X.N X.env.kindOf scope.names N ix=true) (hN:ix.length≤N.length) {h₁:Heap} {tk n:Nat} {m:Str→Option Value}
 (hn:h₁.Ns (s.heap.objs.size+1) m) (hkp:∀b u,s.heap.get? b=some u→h₁.get? b=some u) (hD:h₁.get? s.heap.objs.size=some { cls:=.type "list",data:=.seq ([]:List Value).toArray n }):
 Inv (vB X N scope (s.heap.objs.size+1) fp s H xe) [] (pick ix σ++List.replicate (N.length-ix.length) none) (upd H s.heap.objs.size (.lst [])) { s with heap:=h₁,toks:=tk }:=by(
have fresh:H s.heap.objs.size=none:=I.hok.fresh (kN _)
have fresh1:H (s.heap.objs.size+1)=none:=I.hok.fresh (dD _)
have cel:∀x c,(clOf X.env scope.names []).lookup x=some c→X.env.cells.lookup x=some c:=λx c e=>q5P _ _ (by intro q;simp at q) e
have clt:∀x c,(clOf X.env scope.names []).lookup x=some c→c<s.heap.objs.size:=λx c e=>by obtain⟨v,q⟩:=I.cell x c (cel x c e);exact q.lt
refine⟨⟨I.ok.mod,hk,I.ok.glob,I.ok.blt,dD _,λx y c h1 h2=>I.ok.inj x y c (cel x c h1) (cel y c h2),λx hx=>?_,λx c h=>absurd h kO,I.ok.hd,I.ok.frames,.inl rfl,λb hb=>⟨?_,λx c e=>?_⟩,I.bs,mF I.ok.bsz I.sz,λb o e hb=>?_,λb hb z=>?_,I.stack,I.stkFree⟩,rfl,I.bare,Un.laid hkp (kN _) fresh,⟨m,hn,λi x v e1 e2 e3=>?_⟩,λx c e=>?_,?_,λx c e=>?_,λp hp=>?_,I.hok.laid hkp (kN _) ⟨by simp,[],n,.nil,hD⟩,?_⟩
·have hx:(x,NameKind.free)∈scope.names:=q95 hc hx;obtain⟨c,e⟩:=I.ok.has x (.inl (hfr _ hx rfl));exact⟨c,q5Q e _ _ (.inl hx)⟩
·obtain⟨o,e⟩:=ho b hb;exact mP (dJ (kP e))
·exact(hf b hb).2.2.2.2.1 x c (cel x c e)
·rcases(hf b hb).2.2.2.1 with z|z
 ·exact I.ok.noex b o e z
 exact absurd (mW (kP e) (mF I.ok.bsz z)) (dE _)
·rcases kI.mp (I.stkSub b z)with z|z
 ·exact(hf b hb).2.1 z
 exact(hf b hb).2.2.1 z
·have hi:i<ix.length:=by
  by_cases hi:i<ix.length
  ·exact hi
  rw[dH (by simpa[pick]using hi),wC]at e2;split at e2<;>cases e2
 obtain⟨i0,q1,q2,q3,q4⟩:=qDW hcap hi e1;rw[rO (by simpa[pick]using hi)]at e2;have e2:σ[i0]?=some (some v):=by
  unfold pick at e2;rw[mB,q1]at e2;have e2:σ.getD i0 none=some v:=kM e2;rw[kL]at e2;cases z:σ[i0]? with
  |none=>rw[z]at e2;cases e2
  |some y=>rw[z]at e2;exact gZ some e2
 obtain⟨mX,_,lX⟩:=I.loc;obtain⟨u,r,l⟩:=lX i0 x v q2 e2 (.inr (.inl q4));refine⟨u,r,.inr ⟨.inl (q96 I.ok.kind q4 q3),?_⟩⟩;rcases l with⟨l,_⟩|⟨_,c,e,z⟩
 ·rw[q4]at l;cases l
 obtain⟨o,e',d⟩:=z;exact⟨c,q5Q e _ _ (.inl (gQ q3)),o,hkp _ _ e',d⟩
·obtain⟨v,o,e',d⟩:=I.cell x c (cel x c e);exact⟨v,o,hkp _ _ e',d⟩
·show upd H s.heap.objs.size (.lst []) (s.heap.objs.size+1)=none;rw[qC (dG (rG _))];exact fresh1
·rw[qC (mP (clt x c e))];exact I.freeC x c (cel x c e)
·obtain⟨p1,p2,p3,p4,p5⟩:=I.pin p (gO _ (by simpa using hp));have lt:=kP p1;exact⟨hkp _ _ p1,by rw[qC (mP lt)];exact p2,mP (dJ lt),λz=>(kI.mp (I.stkSub _ z)).elim p3 p4,p5⟩
show _=N.length
rw[mH,gN]
simp only[pick,kB]
lia)
noncomputable def PIf(X:Cx)(ifs:List Expr)(t:TT):Prop:=∀(pins:List (Addr×Obj)) (s:Shared) (σ:St) (H:Hp) (Q:Bool→Hp→Prop),Inv X pins σ H s→t σ H Q→wpAny (model X.prog X.w) X.A (forIn ifs true λc r=>if r=true then do let ok←isTrue c X.env (eval c X.env);pure (ForInStep.yield ok)else pure (ForInStep.yield r)) (TP X pins σ Q) X.xe s
noncomputable def q97:TT:=λ_ H Q=>Q true H
theorem qDX{A B:Hp→Prop}{σ:St}{H:Hp}(h:A H):q97 σ H (λb H6=>if b=true then A H6 else B H6):=by show if true=true then A H else B H;rw[kJ rfl];exact h
theorem qB7{X:Cx}:PIf X [] q97:=λpins s σ H Q I h=>kY ⟨H,I,h⟩
theorem uK{X:Cx}{c:Expr}{t:TT}(hc:PT X c t):PIf X [c] t:=λpins s σ H Q I h=>by(
rw[x8]
show wpAny _ _ (bind (if true=true then _ else _) _) _ _ _
rw[kJ rfl]
refine hV (hV (thn (hc pins s σ H Q I h) λb s1 q=>?_))
exact kY (kY q))
noncomputable def tLC(wi:TI)(g:TG)(tc:TT)(te:TE)(ix:List Nat)(k:Nat):TE:=λσ H Q=>wi σ H λJ H1=>∀D H2,H1 D=none→Same H1 H2→H2 D=some (.lst [])→∃W:Nat→Nat→Hp→Prop,(∃m,W 0 m H2)∧∀i m H3,W i m H3→(J.stop i H3∧Q (.ref D) H3)∨(J.go i H3∧∃N:Hp→Prop,(∀H',N H'→∃m',m'<m∧W (i+1) m' H')∧∀x H4,J.yld i H3 x H4→g x (pick ix σ++List.replicate k none) H4 λσ5 H5=>tc σ5 H5 λb H6=>
   if b=true then te σ5 H6 (λv H7=>∃vs,H7 D=some (.lst vs)∧vs.length<sizeLine∧N (upd H7 D (.lst (vs++[v]))))else N H6)
noncomputable def Own(g:TG)(k:Nat):Prop:=∀x σ H Q,g x σ H Q→g x σ H λσ' H'=>Q σ' H'∧σ'.length=σ.length∧∀j,j<k→σ'[j]?=σ[j]?
noncomputable def OwnS(g:TGs)(k:Nat):Prop:=∀(xs:List V) (σ:St) (H:Hp) (Q:St→Hp→Prop) (σ0:St),σ.length=σ0.length→(∀j,j<k→σ[j]?=σ0[j]?)→g xs σ H Q→g xs σ H λσ' H'=>Q σ' H'∧σ'.length=σ0.length∧∀j,j<k→σ'[j]?=σ0[j]?
theorem qG0{k:Nat}:OwnS gNil k:=λxs σ H Q σ0 h1 h2 ⟨e,q⟩=>⟨e,q,h1,h2⟩
theorem q98{i k:Nat}{u:TGs}(h:k≤i)(hu:OwnS u k):OwnS (qHA (q2N i) u) k:=λxs σ H Q σ0 h1 h2 ⟨v,r,e,q⟩=>⟨v,r,e,hu r (σ.set i (some v)) H Q σ0 (gM.trans h1) (λj hj=>by rw[cD (by lia)];exact h2 j hj) q⟩
theorem qG1{K:PySem.W.Frag}{n k:Nat}{g:TGs}(h:OwnS g k):Own (gTup K n g) k:=λx σ H Q ⟨a,xs,e1,e2,e3,q⟩=>⟨a,xs,e1,e2,e3,h xs σ H Q σ rfl (λ_ _=>rfl) q⟩
theorem yJ{i k:Nat}(h:k≤i):Own (q2N i) k:=λx σ H Q q=>⟨q,gM,λj hj=>by rw[cD (by lia)]⟩
theorem qG2{P:Program}{w:World}{A:Around}{R:Result→Shared→Prop}{s:Shared}{elt tg iter:Expr}{ifs:List Expr}{sc:Scope}{pos:Pos}{it acc:Value}{env:Env}(J:Nat→Shared→Prop)
 (turn:∀n s1,J n s1→wpAny (model P w) A (pyNext it) (λr s2=>match r with
  |none=>R (.ok .next) s2
  |some v=>wpAny (model P w) A (letOwnedTupleGo tg it v) (λ_ s3=>wpAny (model P w) A (assign tg env v) (λ_ s4=>
   wpAny (model P w) A (forIn ifs true λc r=>if r=true then do let ok←isTrue c env (eval c env);pure (ForInStep.yield ok)else pure (ForInStep.yield r)) (λok s5=>
    if ok=true then wpAny (model P w) A (eval elt env) (λx s6=>wpAny (model P w) A (call (.builtin "list.append") [acc,x]) (λ_ s7=>∃m,m<n∧J m s7) (notedBy (model P w) A env λe s'=>R (.error e) s') s6) (notedBy (model P w) A env λe s'=>R (.error e) s') s5
    else ∃m,m<n∧J m s5) (notedBy (model P w) A env λe s'=>R (.error e) s') s4) (notedBy (model P w) A env λe s'=>R (.error e) s') s3) (notedBy (model P w) A env λe s'=>R (.error e) s') s2) (notedBy (model P w) A env λe s'=>R (.error e) s') s1)
 (n:Nat) (h:J n s):codeAny (model P w) A (.compLoop (.ListComp elt [⟨tg,iter,ifs,0⟩] sc pos) 0 it acc env) R s:=by(
refine codeAny_loop rfl J (λm s1 hJ=>?_) n h
show wpAny _ A ((compTurn _ 0 it acc env).onRaise (λx=>do noteFrame x env;theTreesLotGoes x)) _ _ s1
refine wpAny_noted ?_
rw[compTurn_list]
refine hV (pH (hV (thn (turn m s1 hJ) λr s2 h2=>?_)))
cases r with
|none=>exact kY h2
|some v=>
 refine hV (thn h2 λ_ s3 h3=>hV (thn h3 λ_ s4 h4=>hV (thn h4 λok s5 h5=>?_)));cases ok with
 |false=>exact kY ⟨rfl,h5⟩
 |true=>exact hV (hV (thn h5 λx s6 h6=>hV (thn h6 λ_ s7 h7=>kY (kY ⟨rfl,h7⟩)))))
structure TurnC(ok:Cx→Prop)(P:Program)(w:World)(K:PySem.W.Frag)(tg:Expr)(J:It)(fp:List Addr)(it:Addr)(tn:Nat→Heap→Prop):Prop where
obj:∀i h,tn i h→∀b∈fp,∃o,h.get? b=some o∧∀v,o.data≠ .cell v
keep:∀i h h',tn i h→(∀b∈fp,∀o,h.get? b=some o→h'.get? b=some o)→tn i h'
item:∀(X:Cx),X.prog=P→X.w=w→X.K=K→ok X→∀(i:Nat) (pins:List (Addr×Obj)) (s:Shared) (σ:St) (H:Hp) (E:Value→Shared→Prop),Inv X pins σ H s→(∀b∈fp,FpOk X pins H b)→tn i s.heap→J.go i H→wpAny (model P w) X.A (pyNext (.ref it)) (λr s1=>∃u,r=some u∧wpAny (model P w) X.A (letOwnedTupleGo tg (.ref it) u) (λ_ s2=>∃x H',Inv X pins σ H' s2∧RelV x u∧J.yld i H x H'∧tn (i+1) s2.heap∧∀b∈fp,H' b=none) E s1) E s
done:∀(X:Cx),X.prog=P→X.w=w→X.K=K→ok X→∀(i:Nat) (pins:List (Addr×Obj)) (s:Shared) (σ:St) (H:Hp) (E:Value→Shared→Prop),Inv X pins σ H s→(∀b∈fp,FpOk X pins H b)→tn i s.heap→J.stop i H→wpAny (model P w) X.A (pyNext (.ref it)) (λr s1=>r=none∧Inv X pins σ H s1) E s
self:∀(A:Around) (i:Nat) (s:Shared) (Q:Value→Shared→Prop) (E:Value→Shared→Prop),tn i s.heap→Q (.ref it) s→wpAny (model P w) A (pyIter (.ref it)) Q E s
noncomputable def PIc(ok:Cx→Prop)(X:Cx)(tg iter:Expr)(wi:TI):Prop:=∀(pins:List (Addr×Obj)) (s:Shared) (σ:St) (H:Hp) (R:It→Hp→Prop),Inv X pins σ H s→wi σ H R→wpAny (model X.prog X.w) X.A (eval iter X.env) (λv s1=>wpAny (model X.prog X.w) X.A (pyIter v) (λitv s2=>∃(it:Addr) (fp:List Addr) (tn:Nat→Heap→Prop) (J:It) (H':Hp),itv=.ref it∧Inv X pins σ H' s2∧TurnC ok X.prog X.w X.K tg J fp it tn∧tn 0 s2.heap∧(∀b∈fp,FpOk X pins H' b)∧R J H') X.xe s1) X.xe s
theorem PI.c{X:Cx}{tg iter:Expr}{wi:TI}(h:PI X tg iter wi):PIc (λX=>X.calm=true) X tg iter wi:=λpins s σ H R I q=>thn (h pins s σ H R I q) λv s1 h1=>thn h1 λitv s2 ⟨it,fp,tn,J,H',a,b,T,r⟩=>⟨it,fp,tn,J,H',a,b,⟨T.obj,T.keep,T.item,T.done,T.self⟩,r⟩
theorem qB8{X:Cx}{elt iter tg:Expr}{ifs:List Expr}{scope:Scope}{pos cp:Pos}{wi:TI}{g:TG}{tc:TT}{te:TE}{use:Option (Value→Sem Unit)}{QQ:Value→Shared→Prop}{pins:List (Addr×Obj)}{s:Shared}{σ:St}{H:Hp}{Q:VK}(N:List Str)(ix:List Nat)(ok:Cx→Prop)(hok:∀C fp s H xe,ok (vB X N scope C fp s H xe))(hi:PIc ok X tg iter wi)
 (hg:∀C fp s H xe,PG (vB X N scope C fp s H xe) tg g) (hif:∀C fp s H xe,PIf (vB X N scope C fp s H xe) ifs tc) (he:∀C fp s H xe,PE (vB X N scope C fp s H xe) elt te)
 (hk:scope.kind=.function) (hc:∀y∈scope.names,y.2≠ .cell) (hfr:∀y∈scope.names,y.2=.free→X.env.kindOf y.1=some .cell) (hcap:q7K X.N X.env.kindOf scope.names N ix=true) (hN:ix.length≤N.length)
 (hnames:∀x∈scope.names,x.2=.local→scope.names.lookup x.1=some .local) (hown:Own g ix.length) (I:Inv X pins σ H s) (h:tLC wi g tc te ix (N.length-ix.length) σ H Q)
 (hfin:∀(C D:Addr) (H':Hp) (s':Shared) (m:Str→Option Value),s'.heap.Ns C m→FpOk X pins H' C→(∀h',Heap.SameBut C s'.heap h'→Inv X pins σ H' { s' with heap:=h' })→Q (.ref D) H'→compPost (model X.prog X.w) X.A X.xe use QQ (.ref D) C (.ok .next) s')
 (hs:∀x,foldedSetIterable iter X.env x=pure x:=by intro _;rfl):
 wpAny (model X.prog X.w) X.A (comprehension (.ListComp elt [⟨tg,iter,ifs,0⟩] scope pos) scope X.env cp (newList []) false (eval iter X.env) use) QQ X.xe s:=by(
refine wpAny_comprehension_free (use:=use) (cl:=clOf X.env scope.names []) rfl hs (q5O λy hy hyf=>I.ok.has _ (.inl (hfr y hy hyf))) hk hnames (thn (hi pins s σ H _ I h) λv s1 h1=>thn h1 λitv s2 h2=>?_)
obtain⟨it,fp,tn,J,H2,e,I2,T,st2,f2,q2⟩:=h2
subst e
refine xH (lE hc (by intro y hy;simp at hy) (λh₁ hns₁ hsb₁=>?_) hk)
dsimp only at hns₁ hsb₁ ⊢
rw[pX]at hns₁ hsb₁ ⊢
have old:∀b o,s2.heap.get? b=some o→h₁.get? b=some o:=λb o e=>hsb₁.extBut b o (mP (dJ (kP e))) (kE _ (kE _ e))
have hacc:h₁.get? s2.heap.objs.size=some { cls:=.type "list",data:=.seq ([]:List Value).toArray }:=hsb₁.extBut _ _ (mP (rG _)) (kE _ (mJ _ rfl))
have fob:∀b∈fp,∃o,s2.heap.get? b=some o:=λb hb=>let⟨o,e,_⟩:=T.obj _ _ st2 b hb;⟨o,e⟩
have fresh:H2 s2.heap.objs.size=none:=I2.hok.fresh (kN _)
obtain⟨W,⟨m0,w0⟩,turn⟩:=q2 s2.heap.objs.size (upd H2 s2.heap.objs.size (.lst [])) fresh (Same.upd fresh) qG
have fin:∀{pY σ' H' s'},Inv (vB X N scope (s2.heap.objs.size+1) fp s2 H2 (notedBy (model X.prog X.w) X.A (compEnvC scope (clOf X.env scope.names []) (s2.heap.objs.size+1) X.env) λe s'=>compPost (model X.prog X.w) X.A X.xe use QQ (.ref s2.heap.objs.size) (s2.heap.objs.size+1) (.error e) s')) pY σ' H' s'→Q (.ref s2.heap.objs.size) H'→compPost (model X.prog X.w) X.A X.xe use QQ (.ref s2.heap.objs.size) (s2.heap.objs.size+1) (.ok .next) s':=fun {pY σ' H' s'} J q=>by
 obtain⟨m,hm,_⟩:=id J.loc;refine hfin (s2.heap.objs.size+1) s2.heap.objs.size H' s' m hm (I2.fpOk (dD _) J.free) (λh' sb=>?_) q;have eb:∀b o,b≠s2.heap.objs.size+1→s'.heap.get? b=some o→h'.get? b=some o:=λb o nb e=>sb.extBut b o nb e;have low:∀b o,s2.heap.get? b=some o→b≠s2.heap.objs.size+1:=λb o e=>mP (dJ (kP e));have u:=J.base;have nC:H' (s2.heap.objs.size+1)=none:=J.free;refine I2.call' (ch:=fp) (s':={ s' with heap:=h' }) J.os ⟨λb o e n1 n2 n3=>eb b o (low b o e) (u.keep b o e n1 n2 n3),λb o e n1 n2 n3=>?_,u.free,λb o e n1=>?_,u.tups,u.frzs,u.tbls⟩ (λb o e=>?_) J.bare λb hb=>⟨(f2 b hb).2.2.2.1,(f2 b hb).2.1,(f2 b hb).2.2.2.2.1,(f2 b hb).2.2.2.2.2⟩
 ·obtain⟨sl,q1⟩:=u.slot b o e n1 n2 n3;exact⟨sl,eb b _ (low b o e) q1⟩
 ·obtain⟨o',q1⟩:=u.there b o e n1;exact⟨o',eb b _ (low b o e) q1⟩
 refine(J.hok b o e).stay (λc v hc q1=>eb c v ?_ q1) (λ_ q1=>q1) λ_ _ q1=>q1;rcases hc with rfl|z
 ·exact qH e nC
 exact qH z nC
have IY:Inv (vB X N scope (s2.heap.objs.size+1) fp s2 H2 (notedBy (model X.prog X.w) X.A (compEnvC scope (clOf X.env scope.names []) (s2.heap.objs.size+1) X.env) λe s'=>compPost (model X.prog X.w) X.A X.xe use QQ (.ref s2.heap.objs.size) (s2.heap.objs.size+1) (.error e) s')) [] (pick ix σ++List.replicate (N.length-ix.length) none) (upd H2 s2.heap.objs.size (.lst [])) { s2 with heap:=h₁,toks:=s2.toks+([]:List (Str×Value)).length }:=qFZ I2 f2 fob hk hc hfr hcap hN hns₁ old hacc
generalize hY:vB X N scope (s2.heap.objs.size+1) fp s2 H2 (notedBy (model X.prog X.w) X.A (compEnvC scope (clOf X.env scope.names []) (s2.heap.objs.size+1) X.env) λe s'=>compPost (model X.prog X.w) X.A X.xe use QQ (.ref s2.heap.objs.size) (s2.heap.objs.size+1) (.error e) s')=Y at IY fin
have hgY:PG Y tg g:=hY▸hg _ _ _ _ _
have hifY:PIf Y ifs tc:=hY▸hif _ _ _ _ _
have heY:PE Y elt te:=hY▸he _ _ _ _ _
have hP:Y.prog=X.prog:=by rw[←hY]
have hw:Y.w=X.w:=by rw[←hY]
have hK:Y.K=X.K:=by rw[←hY]
have hcl:ok Y:=hY▸hok _ _ _ _ _
have stat:∀{H':Hp},(∀b∈fp,H' b=none)→∀b∈fp,FpOk Y [] H' b:=fun {H'} hn b hb=>by
 rw[←hY];refine⟨hn b hb,?_,λz=>?_,.inl hb,λx c e=>?_,λp hp=>(f2 b hb).2.2.2.2.2 p (gO _ (by simpa using hp))⟩
 ·obtain⟨o,e⟩:=fob b hb;exact mP (dJ (kP e))
 ·rcases kI.mp (I2.stkSub b z)with z|z
  ·exact(f2 b hb).2.1 z
  exact(f2 b hb).2.2.1 z
 exact(f2 b hb).2.2.2.2.1 x c (q5P _ _ (by intro q;simp at q) e)
have loop:codeAny (model X.prog X.w) X.A (.compLoop (.ListComp elt [⟨tg,iter,ifs,0⟩] scope pos) 0 (.ref it) (.ref s2.heap.objs.size) (compEnvC scope (clOf X.env scope.names []) (s2.heap.objs.size+1) X.env))
 (compPost (model X.prog X.w) X.A X.xe use QQ (.ref s2.heap.objs.size) (s2.heap.objs.size+1)) { s2 with heap:=h₁,toks:=s2.toks+([]:List (Str×Value)).length }:=by
 refine qG2 (λn s'=>∃i H',Inv Y [] (pick ix σ++List.replicate (N.length-ix.length) none) H' s'∧tn i s'.heap∧(∀b∈fp,H' b=none)∧W i n H') ?_ m0
  ⟨0,_,IY,T.keep _ _ _ st2 (λb hb o e=>old b o e),λb hb=>by obtain⟨o,e⟩:=fob b hb;rw[qC (mP (kP e))];exact(f2 b hb).1,w0⟩
 rintro n s3 ⟨i,H3,I3,st3,fr3,w3⟩
 rcases turn i n H3 w3 with⟨stop,qn⟩|⟨go,NN,hNN,step⟩
 ·have d:=T.done Y hP hw hK hcl i [] s3 _ H3 Y.xe I3 (stat fr3) st3 stop;subst hY;refine thn d λr s4 hZ=>?_;obtain⟨hr,I4⟩:=hZ;subst hr;exact fin I4 qn
 have d:=T.item Y hP hw hK hcl i [] s3 _ H3 Y.xe I3 (stat fr3) st3 go;have again:∀{p5:List (Addr×Obj)} {s5 s8:Shared} {σ6:St} {H8:Hp},p5=q5C fp s5.heap→tn (i+1) s5.heap→σ6.length=(pick ix σ++List.replicate (N.length-ix.length) none).length→(∀j,j<ix.length→σ6[j]?=(pick ix σ++List.replicate (N.length-ix.length) none)[j]?)→Inv Y ([]++p5) σ6 H8 s8→NN H8→∃m',m'<n∧∃i H',Inv Y [] (pick ix σ++List.replicate (N.length-ix.length) none) H' s8∧tn i s8.heap∧(∀b∈fp,H' b=none)∧W i m' H':=fun {p5 s5 s8 σ6 H8} e5 st5 l6 k6 I8 q8=>by
  subst e5;obtain⟨m',hm,w8⟩:=hNN _ q8;refine⟨m',hm,i+1,H8,I8.unpinned.weak l6.symm (λj v e=>?_),T.keep _ _ _ st5 λb hb o e=>(I8.pin (b,o) (kU _ (kU _ (yB hb e)))).1,λb hb=>?_,w8⟩
  ·by_cases hj:j<ix.length
   ·rw[k6 j hj];exact e
   rw[dH (by simpa[pick]using hj),wC]at e;split at e<;>cases e
  obtain⟨o,e,_⟩:=T.obj _ _ st5 b hb;exact(I8.pin (b,o) (kU _ (kU _ (yB hb e)))).2.1
 have tail:∀(r:Option Value) (s4:Shared),(∃u,r=some u∧wpAny (model Y.prog Y.w) Y.A (letOwnedTupleGo tg (.ref it) u) (λ_ s2=>∃x H',Inv Y [] (pick ix σ++List.replicate (N.length-ix.length) none) H' s2∧RelV x u∧J.yld i H3 x H'∧tn (i+1) s2.heap∧∀b∈fp,H' b=none) Y.xe s4)→(match r with
  |none=>compPost (model X.prog X.w) X.A X.xe use QQ (.ref s2.heap.objs.size) (s2.heap.objs.size+1) (.ok .next) s4
  |some v=>wpAny (model Y.prog Y.w) Y.A (letOwnedTupleGo tg (.ref it) v) (λ_ s₁=>wpAny (model Y.prog Y.w) Y.A (assign tg Y.env v) (λ_ s₂=>
   wpAny (model Y.prog Y.w) Y.A (forIn ifs true λc r=>if r=true then do let ok←isTrue c Y.env (eval c Y.env);pure (ForInStep.yield ok)else pure (ForInStep.yield r)) (λok s₃=>
    if ok=true then wpAny (model Y.prog Y.w) Y.A (eval elt Y.env) (λx s₄=>wpAny (model Y.prog Y.w) Y.A (call (.builtin "list.append") [.ref s2.heap.objs.size,x]) (λ_ s₅=>∃m,m<n∧∃i H',Inv Y [] (pick ix σ++List.replicate (N.length-ix.length) none) H' s₅∧tn i s₅.heap∧(∀b∈fp,H' b=none)∧W i m H') Y.xe s₄) Y.xe s₃
    else ∃m,m<n∧∃i H',Inv Y [] (pick ix σ++List.replicate (N.length-ix.length) none) H' s₃∧tn i s₃.heap∧(∀b∈fp,H' b=none)∧W i m H') Y.xe s₂) Y.xe s₁) Y.xe s4):=by
  rintro r s4 ⟨u,rfl,h4⟩
  dsimp only;refine thn h4 λ_ s5 hZ=>?_;obtain⟨x,H5,I5,r5,y5,st5,fr5⟩:=hZ;have I5':=I5.pinned (stat fr5) (T.obj _ _ st5);refine thn (hgY _ s5 _ H5 x u _ I5' r5 (hown _ _ _ _ (step x H5 y5))) λ_ s6 hZ=>?_;obtain⟨σ6,H6,I6,q6,l6,k6⟩:=hZ;refine thn (hifY _ s6 σ6 H6 _ I6 q6) λb s7 hZ=>?_;obtain⟨H7,I7,q7⟩:=hZ;cases b with
  |false=>rw[kF (by decide)]at q7 ⊢;exact again rfl st5 l6 k6 I7 q7
  |true=>rw[kJ rfl]at q7 ⊢;refine thn (heY _ s7 σ6 H7 _ I7 q7) λy s8 hZ=>?_;obtain⟨v,H8,I8,r8,vs,e8,hz,q8⟩:=hZ;refine thn (q29 (X:=Y) _ s8 σ6 H8 (.ref s2.heap.objs.size) [v] (.ref s2.heap.objs.size) [y] (λ_ H9=>NN H9) I8 rfl (.cons r8 .nil) ⟨s2.heap.objs.size,vs,v,rfl,rfl,e8,hz,q8⟩) λ_ s9 hZ=>?_;obtain⟨_,H9,I9,_,q9⟩:=hZ;exact again rfl st5 l6 k6 I9 q9
 subst hY;exact thn d tail
exact codeAny_compStart_list loop (T.self X.A 0 _ _ _ (T.keep _ _ _ st2 λb hb o e=>old b o e) loop))
theorem qKH{X:Cx}{elt iter tg:Expr}{ifs:List Expr}{scope:Scope}{pos:Pos}{wi:TI}{g:TG}{tc:TT}{te:TE}(N:List Str)(ix:List Nat)(hcalm:X.calm=true)(hi:PI X tg iter wi)
 (hg:∀C fp s H xe,PG (vB X N scope C fp s H xe) tg g) (hif:∀C fp s H xe,PIf (vB X N scope C fp s H xe) ifs tc) (he:∀C fp s H xe,PE (vB X N scope C fp s H xe) elt te)
 (hk:scope.kind=.function) (hc:∀y∈scope.names,y.2≠ .cell) (hfr:∀y∈scope.names,y.2=.free→X.env.kindOf y.1=some .cell) (hcap:q7K X.N X.env.kindOf scope.names N ix=true) (hN:ix.length≤N.length)
 (hnames:∀x∈scope.names,x.2=.local→scope.names.lookup x.1=some .local) (hown:Own g ix.length) (hs:∀x,foldedSetIterable iter X.env x=pure x:=by intro _;rfl):
 PE X (.ListComp elt [⟨tg,iter,ifs,0⟩] scope pos) (tLC wi g tc te ix (N.length-ix.length)):=by intro pins s σ H Q I h;rw[eval_ListComp];exact qB8 N ix _ (λ_ _ _ _ _=>hcalm) hi.c hg hif he hk hc hfr hcap hN hnames hown I h (λC D H' s' m hm fok inv q=>⟨m,hm,λh' sb=>⟨.ref D,H',inv h' sb,rfl,q⟩⟩) hs
noncomputable def qB9(XN:List Str)(kd:Str→Option NameKind)(sc:Scope)(N:List Str)(ix:List Nat):Bool:=decide (sc.kind=.function)&&sc.names.all (λy=>decide (y.2≠ .cell)&&(decide (y.2≠ .free)||decide (kd y.1=some .cell))&&(decide (y.2≠ .local)||decide (sc.names.lookup y.1=some .local)))&&q7K XN kd sc.names N ix&&decide (ix.length≤N.length)
theorem v9{X:Cx}{elt iter tg:Expr}{ifs:List Expr}{scope:Scope}{pos:Pos}{wi:TI}{g:TG}{tc:TT}{te:TE}(N:List Str)(ix:List Nat)(hcalm:X.calm=true)(hi:PI X tg iter wi)
 (hg:∀C fp s H xe,PG (vB X N scope C fp s H xe) tg g) (hif:∀C fp s H xe,PIf (vB X N scope C fp s H xe) ifs tc) (he:∀C fp s H xe,PE (vB X N scope C fp s H xe) elt te)
 (ok:qB9 X.N X.env.kindOf scope N ix=true) (hown:Own g ix.length) (hs:∀x,foldedSetIterable iter X.env x=pure x:=by intro _;rfl):
 PE X (.ListComp elt [⟨tg,iter,ifs,0⟩] scope pos) (tLC wi g tc te ix (N.length-ix.length)):=by(
unfold qB9 at ok
rw[mR,mR,mR,dY]at ok
obtain⟨⟨⟨h1,h2⟩,h3⟩,h4⟩:=ok
have h2':∀y∈scope.names,y.2≠ .cell∧(y.2≠ .free∨X.env.kindOf y.1=some .cell)∧(y.2≠ .local∨scope.names.lookup y.1=some .local):=λy hy=>by have q:=h2 y hy;rw[mR,mR,wP,wP,kQ,kQ,kQ,kQ,kQ]at q;exact⟨q.1.1,q.1.2,q.2⟩
exact qKH N ix hcalm hi hg hif he (mM h1) (λy hy=>(h2' y hy).1) (λy hy e=>(h2' y hy).2.1.resolve_left (λz=>z e)) h3 (mM h4) (λy hy e=>(h2' y hy).2.2.resolve_left (λz=>z e)) hown hs)
theorem qDY{lo:Int}{n:Nat}{D:Addr}{H2:Hp}{g:TG}{tc:TT}{te:TE}{σ0:St}{Q:VK}(Pv:Nat→Hp→Prop)(h0:Pv 0 H2)
 (hs:∀(i:Nat) H,i<n→Pv i H→g (.int (lo+i)) σ0 H λσ5 H5=>tc σ5 H5 λb H6=>if b=true then te σ5 H6 (λv H7=>∃vs,H7 D=some (.lst vs)∧vs.length<sizeLine∧Pv (i+1) (upd H7 D (.lst (vs++[v]))))else Pv (i+1) H6) (hd:∀H,Pv n H→Q (.ref D) H):
 ∃W:Nat→Nat→Hp→Prop,(∃m,W 0 m H2)∧∀i m H3,W i m H3→((Itr lo n).stop i H3∧Q (.ref D) H3)∨((Itr lo n).go i H3∧∃N:Hp→Prop,(∀H',N H'→∃m',m'<m∧W (i+1) m' H')∧∀x H4,(Itr lo n).yld i H3 x H4→g x σ0 H4 λσ5 H5=>tc σ5 H5 λb H6=>
   if b=true then te σ5 H6 (λv H7=>∃vs,H7 D=some (.lst vs)∧vs.length<sizeLine∧N (upd H7 D (.lst (vs++[v]))))else N H6):=by(
refine⟨λi m H=>m=n-i∧i≤n∧Pv i H,⟨n,by simp,mU _,h0⟩,?_⟩
rintro i m H ⟨rfl,hi,p⟩
by_cases hlt:i<n
·refine .inr ⟨hlt,Pv (i+1),λH' z=>⟨n-(i+1),by lia,rfl,by lia,z⟩,?_⟩;rintro x H4 ⟨rfl,rfl⟩
 exact hs i _ hlt p
obtain rfl:i=n:=by lia
exact .inl ⟨kN _,hd _ p⟩)
theorem qBA{K:PySem.W.Frag}{a:Addr}{xs:List V}{D:Addr}{H2:Hp}{g:TG}{tc:TT}{te:TE}{σ0:St}{Q:VK}(Pv:Nat→Hp→Prop)(h0:Pv 0 H2)(hl:∀i H,Pv i H→SqL K H a xs)
 (hs:∀(i:Nat) x H,xs[i]?=some x→Pv i H→g x σ0 H λσ5 H5=>tc σ5 H5 λb H6=>if b=true then te σ5 H6 (λv H7=>∃vs,H7 D=some (.lst vs)∧vs.length<sizeLine∧Pv (i+1) (upd H7 D (.lst (vs++[v]))))else Pv (i+1) H6) (hd:∀H,Pv xs.length H→Q (.ref D) H):
 ∃W:Nat→Nat→Hp→Prop,(∃m,W 0 m H2)∧∀i m H3,W i m H3→((Itl K a).stop i H3∧Q (.ref D) H3)∨((Itl K a).go i H3∧∃N:Hp→Prop,(∀H',N H'→∃m',m'<m∧W (i+1) m' H')∧∀x H4,(Itl K a).yld i H3 x H4→g x σ0 H4 λσ5 H5=>tc σ5 H5 λb H6=>
   if b=true then te σ5 H6 (λv H7=>∃vs,H7 D=some (.lst vs)∧vs.length<sizeLine∧N (upd H7 D (.lst (vs++[v]))))else N H6):=by(
refine⟨λi m H=>m=xs.length-i∧i≤xs.length∧Pv i H,⟨xs.length,by simp,mU _,h0⟩,?_⟩
rintro i m H ⟨rfl,hi,p⟩
have hq:=hl i H p
by_cases hlt:i<xs.length
·have e1:xs[i]?=some xs[i]:=kC hlt;refine .inr ⟨⟨xs,_,hq,e1⟩,Pv (i+1),λH' z=>⟨xs.length-(i+1),by lia,rfl,by lia,z⟩,?_⟩;rintro x H4 ⟨rfl,hx⟩
 exact hs i x _ (hx xs hq) p
obtain rfl:i=xs.length:=by lia
exact .inl ⟨⟨xs,hq,kN _⟩,hd _ p⟩)
theorem qDZ{K:PySem.W.Frag}{a:Addr}{xs:List V}{k:Nat}{D:Addr}{H2:Hp}{te:TE}{σ0:St}{Q:VK}(Pv:Nat→Hp→Prop)(h0:Pv 0 H2)(hl:∀i H,Pv i H→SqL K H a xs)
 (hs:∀(i:Nat) x H,xs[i]?=some x→Pv i H→te (σ0.set k (some x)) H (λv H7=>∃vs,H7 D=some (.lst vs)∧vs.length<sizeLine∧Pv (i+1) (upd H7 D (.lst (vs++[v]))))) (hd:∀H,Pv xs.length H→Q (.ref D) H):
 ∃W:Nat→Nat→Hp→Prop,(∃m,W 0 m H2)∧∀i m H3,W i m H3→((Itl K a).stop i H3∧Q (.ref D) H3)∨((Itl K a).go i H3∧∃N:Hp→Prop,(∀H',N H'→∃m',m'<m∧W (i+1) m' H')∧∀x H4,(Itl K a).yld i H3 x H4→q2N k x σ0 H4 λσ5 H5=>q97 σ5 H5 λb H6=>if b=true then te σ5 H6 (λv H7=>∃vs,H7 D=some (.lst vs)∧vs.length<sizeLine∧N (upd H7 D (.lst (vs++[v]))))else N H6):=qBA (g:=q2N k) (tc:=q97) Pv h0 hl (λi x H hx p=>qDX (σ:=σ0.set k (some x)) (A:=λH6=>te (σ0.set k (some x)) H6 _) (B:=λH6=>Pv (i+1) H6) (hs i x H hx p)) hd
noncomputable def rEmp(K:PySem.W.Frag):R2:=λx y H Q=>∃p xs e,x=.ref p∧y=.ref e∧SqL K H p xs∧SqL K H e []∧Q (.bl (decide (xs=[]))) H
theorem q3X{X:Cx}(hu:X.A.units+64<cLine):OpR X (compareOp .Eq) (rEmp X.K):=by(
intro pins s σ H x y v u Q I rx ry hZ
obtain⟨p,xs,e,ex,ey,hp,he,q⟩:=hZ
subst ex ey
cases rx
cases ry
obtain⟨i1,r1,p1,_⟩:=I.list hp
obtain⟨i2,r2,p2,_⟩:=I.list he
have l1:=r1.length
have l2:=r2.length
cases xs with
|nil=>exact SeqAt.eq_listAt (e:=λ_=>true) p1.isList p2.isList (by simp at l1 l2 ⊢;lia) (by lia) (λj h1 h2=>by simp at l1 h1;lia) ⟨.bl true,H,I,by rw[q1D];rfl,q⟩
|cons z zs=>exact SeqAt.eq_list_lengthsAt p1.isList p2.isList (by simp at l1 l2 ⊢;lia) (by lia) ⟨.bl false,H,I,rfl,q⟩)
section
variable{X:Cx}{o e f:Expr}{apos cpos:Pos}{td ty tx:TE}
theorem qE0{P:Program}{w:World}{k:Key}{u:Value}(h:(jP P w).is k u=true):RelV (kV k) u:=by(
cases k with
|inl i=>exact l7 h
|inr x=>exact lG h)
theorem q3Y{α β:Type}{F:α→β→Prop}:∀{l₁:List α} {l₂:List β},l₁.length=l₂.length→(∀(j:Nat) a b,l₁[j]?=some a→l₂[j]?=some b→F a b)→Paired F l₁ l₂
| [],[],_,_=>.nil
|a::l,b::l',h,k=>.cons (k 0 a b rfl rfl) (q3Y (by simpa using h) λj x y hx hy=>k (j+1) x y (by simpa using hx) (by simpa using hy))
| [],_::_,h,_=>by simp at h
|_::_,[],h,_=>by simp at h
end
theorem q3J:∀{ns:List Int} {vs:List Value},Vals (ns.map V.int) vs→IntsAre vs ns
| [],_,.nil=>.nil
|n::ns,_,.cons h t=>by obtain⟨t0,rfl⟩:=h;exact .cons n t0 (q3J t)
section
variable{X:Cx}
theorem q0O:∀{vs:List Value} {ns:List Int},IntsAre vs ns→Vals (ns.map V.int) vs
|_,_,.nil=>.nil
|_,_,.cons n t h=>.cons ⟨t,rfl⟩ (q0O h)
theorem q81:q1A X (.builtin "sorted") (λxs H Q=>∃(p:Addr) (ns:List Int),xs=[.ref p]∧SqL X.K H p (ns.map V.int)∧ns.length<64∧∀ns':List Int,ns'.Perm ns→ns'.Pairwise (·≤·)→NewO H (.lst (ns'.map V.int)) Q):=by(
intro pins s σ H xs us Q I r hZ
obtain⟨p,ns,ex,hq,h64,q⟩:=hZ
subst ex
obtain⟨u,rfl,rx⟩:=q05 r
cases rx
obtain⟨its,rv,pl,hz⟩:=I.list hq
have hi:=q3J rv
have hlen:its.length<64:=by rw[←rv.length,kB];exact h64
refine sorted_ints pl.isList hi hlen λout ns' a1 a2 a3=>?_
obtain⟨e,he⟩:=sortedAll_at s.heap its out
have hz':(ns'.map V.int).length≤sizeLine:=by rw[kB,a2.length_eq,gG];lia
exact⟨.ref (s.heap.objs.size+1),_,I.laid (t':=s.toks) (λ_ _ h=>sortedAll_old h) (dD _) (show jH X.prog X.w _ _ _ (.lst _)from⟨hz',out.toList,e,q0O a1,by simpa[seqObj]using he⟩),rfl,(q ns' a2 a3).at _ (I.hok.fresh (dD _))⟩)
end
structure Mk0(K:PySem.W.Frag)(C:Addr):Prop where
makes:PySem.W.makesIn K C=true
init:PySem.W.findIn K (.ref C) "__init__"=some (some (.builtin "object.__init__"))
kp:PySem.W.keepIn K (.ref C)=true
section
variable{X:Cx}{C:Addr}{x:Str}{p pos:Pos}
noncomputable def tMk0(C:Addr):TE:=λσ H Q=>∀x dx,H x=none→H dx=none→dx≠x→Q (.ref x) (upd (upd H dx (.own x)) x (.ins C dx []))
theorem qE1{pins:List (Addr×Obj)}{σ:St}{H:Hp}{s:Shared}{Q:VK}(M:Mk0 X.K C)(I:Inv X pins σ H s)(h:tMk0 C σ H Q):wpAny (model X.prog X.w) X.A (call (.ref C) []) (EP X pins σ Q) X.xe s:=by(
have hq:=h (s.heap.objs.size+1) s.heap.objs.size (I.hok.fresh (dD _)) (I.hok.fresh (kN _)) (mP (rG _))
have I2:=Inv.made (C:=C) I
have kin:=I.kIn
obtain⟨hp,g,d,t,os⟩:=s
have Y:=xR (M:=model X.prog X.w) kin M.makes
have hx:((hp.push PySem.W.emptyDict).push (PySem.W.instObj C hp.objs.size)).get? (hp.objs.size+1)=some (PySem.W.instObj C hp.objs.size):=by have:=mJ (hp.push PySem.W.emptyDict) (o:=PySem.W.instObj C hp.objs.size) rfl;rwa [pX]at this
have ty:PySem.W.Looks (model X.prog X.w) ((hp.push PySem.W.emptyDict).push (PySem.W.instObj C hp.objs.size)) (typeOf (.ref (hp.objs.size+1))) (.ref C):=(bG hx).andThen .now
have top:PySem.W.Looks (model X.prog X.w) ((hp.push PySem.W.emptyDict).push (PySem.W.instObj C hp.objs.size)) (isInstance (.ref (hp.objs.size+1)) (.type "object")) true:=ty.andThen (Y.top.keeps λb o e=>kE _ (kE _ e))
refine cQ (xA Y (cE kin M.init) (λself=>bD (PySem.W.oi_bind self)) (.inr ⟨rfl,rfl⟩) ?_)
refine pK PySem.W.oi_plain PySem.W.entry_oi (@lU (model X.prog X.w) _ _ _ "object.__init__" "object" "__init__" (.ref (hp.objs.size+1)) [] [] _ PySem.W.oi_kind PySem.W.oi_split top (PySem.W.oi_args (.ref (hp.objs.size+1))) ?_)
rw[PySem.W.oi_run]
exact kY ⟨rfl,⟨.ref (hp.objs.size+1),_,I2,rfl,hq⟩⟩)
theorem q82(M:Mk0 X.K C)(hg:Gl X x)(hm:X.mg x=some (.ref C))(hdb:(x==("__debug__":Str))=false:=by decide):PE X (.Call (.Name x p) [] [] pos) (tMk0 C):=by intro pins s σ H Q I h;exact g9 (q26 I hg hm (pQ I.kIn M.kp (qE1 M I h)) hdb)
theorem q3Z{e:Expr}{t1 t2:TE}(h1:PE X e t1)(h2:PE X e t2):PE X e (λσ H Q=>t1 σ H Q∨t2 σ H Q):=λpins s σ H Q I h=>h.elim (h1 pins s σ H Q I) (h2 pins s σ H Q I)
end
section
variable{X:Cx}{pins:List (Addr×Obj)}{σ:St}{H:Hp}{s:Shared}{a:Addr}
theorem Inv.freeze{kvs:List (Key×V)}{o:Obj}(I:Inv X pins σ H s)(e:H a=some (.dK kvs))(ho:s.heap.get? a=some o):Inv X pins σ (upd H a (.frz o (.dK kvs))) s:=by(
have ne:∀b u,H b=some u→u≠ .dK kvs→b≠a:=λb u q n z=>by rw[z,e]at q;exact n (kM q).symm
have nn:∀b,H b=none→b≠a:=λb q z=>by rw[z,e]at q;cases q
refine⟨I.ok,I.os,I.bare,I.base.trans ⟨λb u q _ _ _=>q,λb u q _ _ _=>⟨u.slots,q⟩,λb u q n _=>by rw[qC (nn b n)];exact n,λb u q _=>⟨u,q⟩,λb xs q=>by rw[qC (ne b _ q (by intro z;cases z))];exact q,λb u v q=>by rw[qC (ne b _ q (by intro z;cases z))];exact q,λb ps q=>⟨#[],by rw[qC (ne b _ q (by intro z;cases z)),q];simp⟩⟩,I.loc,I.cell,by rw[qC (nn _ I.free)];exact I.free,λx c q=>by rw[qC (nn _ (I.freeC x c q))];exact I.freeC x c q,λp hp=>?_,λb u q=>?_,I.len⟩
·obtain⟨q1,q2,q3⟩:=I.pin p hp;exact⟨q1,by rw[qC (nn _ q2)];exact q2,q3⟩
have st:∀b u,jH X.prog X.w H s.heap b u→jH X.prog X.w (upd H a (.frz o (.dK kvs))) s.heap b u:=λb u q=>q.stay (λ_ _ _ z=>z) (λc z=>by rw[qC (ne c _ z (by intro z;cases z))];exact z) (λc xs z=>by rw[qC (ne c _ z (by intro z;cases z))];exact z)
by_cases hb:b=a
·subst hb;rw[qG]at q;cases q;exact⟨ho,st b _ (I.hok b _ e)⟩
rw[qC hb]at q
exact st b u (I.hok b u q))
theorem Inv.thaw{o:Obj}{u:HO}(I:Inv X pins σ H s)(hne:∀o u,X.H₀ a≠some (.frz o u))(e:H a=some (.frz o u)):Inv X pins σ (upd H a u) s:=by(
have ne:∀b v,H b=some v→v≠ .frz o u→b≠a:=λb v q n z=>by rw[z,e]at q;exact n (kM q).symm
have nn:∀b,H b=none→b≠a:=λb q z=>by rw[z,e]at q;cases q
have nf:∀b v,X.H₀ b=some v→(∃o' u',v=.frz o' u')→b≠a:=λb v q ⟨o',u',z⟩ w=>by rw[w,z]at q;exact hne o' u' q
refine⟨I.ok,I.os,I.bare,⟨I.base.keep,I.base.slot,λb v q n hx=>?_,I.base.there,λb xs q=>?_,λb v w q=>?_,λb ps q=>?_⟩,I.loc,I.cell,by rw[qC (nn _ I.free)];exact I.free,λx c q=>by rw[qC (nn _ (I.freeC x c q))];exact I.freeC x c q,λp hp=>?_,λb v q=>?_,I.len⟩
·have:=I.base.free b v q n hx;rw[qC (nn b this)];exact this
·have:=I.base.tups b xs q;rw[qC (ne b _ this (by intro z;cases z))];exact this
·rw[qC (nf b _ q ⟨_,_,rfl⟩)];exact I.base.frzs b v w q
·obtain⟨more,q2⟩:=I.base.tbls b ps q;exact⟨more,by rw[qC (ne b _ q2 (by intro z;cases z))];exact q2⟩
·obtain⟨q1,q2,q3⟩:=I.pin p hp;exact⟨q1,by rw[qC (nn _ q2)];exact q2,q3⟩
have st:∀b v,jH X.prog X.w H s.heap b v→jH X.prog X.w (upd H a u) s.heap b v:=λb v q=>q.stay (λ_ _ _ z=>z) (λc z=>by rw[qC (ne c _ z (by intro z;cases z))];exact z) (λc xs z=>by rw[qC (ne c _ z (by intro z;cases z))];exact z)
by_cases hb:b=a
·subst hb;rw[qG]at q;cases q;exact st b _ (I.hok b _ e).2
rw[qC hb]at q
exact st b v (I.hok b v q))
end
noncomputable def Itd(a:Addr)(o:Obj)(kvs:List (Key×V)):It:=⟨λi H=>H a=some (.frz o (.dK kvs))∧i<kvs.length,λi H x H'=>H'=H∧∃kv,kvs[i]?=some kv∧x=kV kv.1,λi H=>H a=some (.frz o (.dK kvs))∧kvs.length≤i⟩
theorem qCI{P:Program}{w:World}{K:PySem.W.Frag}{tg:Expr}(a it:Addr)(o:Obj){kvs:List (Key×V)}{vs:List (Key×Value)}{ep:Nat}(rel:KV kvs vs)(hD:∀h:Heap,h.get? a=some o→h.DictAt (jP P w) a vs ep):
 Turn P w K tg (Itd a o kvs) [it] it (λi h=>h.IsKeyIter it a i vs.length ep) where
mem:=by simp
obj:=λi h st b hb=>by
 have e:b=it:=by simpa using hb
 subst e;obtain⟨o',e,c,d⟩:=st;exact⟨o',e,λv z=>by rw[d]at z;cases z⟩
keep:=λi h h' st k=>st.at λo e=>k it (by simp) o e
item:=by
 intro X hP hw hK hc i pins s σ H E I hf st hg;subst hP hw hK;obtain⟨ha,hi⟩:=hg;obtain⟨ho,_⟩:=I.hok a _ ha;have hl:=rel.length;have hi':i<vs.length:=by lia
 obtain⟨f0,f1,f2,f3,f4,f5⟩:=hf it (by simp);refine wpAny_pyNext_dict_item (k:=vs[i].1) (v:=vs[i].2) st (hD _ ho) (kC hi') λkey h' hk st' sb=>?_;have I1:Inv X pins σ H { s with heap:=h' }:=I.turned (t':=s.toks) (λb o hb e=>(sb.2 b hb).trans e) f0 f1 f3 f4 f5;obtain⟨o',e',c',d'⟩:=id st';refine⟨key,rfl,qCZ (s:={ s with heap:=h' }) e' c' d' (by decide) ⟨kV kvs[i].1,H,I1,?_,⟨rfl,kvs[i],kC hi,rfl⟩,st',λb hb=>(hf b hb).1⟩⟩;have ek:=gZ (λl=>l[i]?) rel.keys;simp only[mB,kC hi,kC hi',x9]at ek;rw[kM ek];exact qE0 hk
done:=by intro X hP hw hK hc i pins s σ H E I hf st hg;subst hP hw hK;obtain⟨ha,hi⟩:=hg;obtain⟨ho,_⟩:=I.hok a _ ha;have hl:=rel.length;obtain⟨f0,f1,f2,f3,f4,f5⟩:=hf it (by simp);exact wpAny_pyNext_dict_end (I.ok.hd hc) st (hD _ ho) (rM (by lia)) λh' eb=>⟨rfl,I.turned (t':=s.toks) (λb o hb e=>eb b o hb e) f0 f1 f3 f4 f5⟩
self:=λ_ _ _ _ _ st h=>wpAny_pyIter_keyiter st h
section
variable{X:Cx}{tg:Expr}
noncomputable def iDct(td:TE):TI:=λσ H R=>td σ H λx H1=>∃a kvs,x=.ref a∧H1 a=some (.dK kvs)∧∀o,R (Itd a o kvs) (upd H1 a (.frz o (.dK kvs)))
theorem qG3{d:Expr}{td:TE}(hd:PE X d td):PI X tg d (iDct td):=by(
intro pins s σ H R I h
refine thn (hd pins s σ H _ I h) λv s1 hZ=>?_
obtain⟨x,H1,I1,r1,q1⟩:=hZ
obtain⟨a,kvs,e,ha,q⟩:=q1
subst e
cases r1
obtain⟨z,lo,vs,rel,dd⟩:=q5J I1.hok ha
obtain⟨ep,hat⟩:=dd.dictAt
obtain⟨o,es,ho,hr⟩:=id hat
have I2:=I1.freeze ha ho
refine wpAny_pyIter_dict lo hat ?_
refine⟨s1.heap.objs.size,[s1.heap.objs.size],_,_,_,rfl,I2.kept (t':=s1.toks) λb o e=>kE _ e,qCI a _ o rel (λh' h=>⟨o,es,h,hr⟩),⟨_,mJ _ rfl,rfl,rfl⟩,λb hb=>?_,q o⟩
have e:b=s1.heap.objs.size:=by simpa using hb
subst e
exact I2.fpOk (kN _) (I2.hok.fresh (kN _)))
theorem qIZ{pins:List (Addr×Obj)}{σ:St}{H:Hp}{s:Shared}{a:Addr}{kvs:List (Key×V)}(I:Inv X pins σ H s)(e:H a=some (.dK kvs)):∀o u,X.H₀ a≠some (.frz o u):=λo u q=>by have:=I.base.frzs a o u q;rw[e]at this;cases this
noncomputable def qKI(t:TE):TE:=λσ H Q=>∃a kvs,H a=some (.dK kvs)∧t σ H λv H'=>∃o u,H' a=some (.frz o u)∧Q v (upd H' a u)
theorem qBB{e:Expr}{t:TE}(h:PE X e t):PE X e (qKI t):=by(
intro pins s σ H Q I hZ
obtain⟨a,kvs,ha,q⟩:=hZ
have nf:=qIZ I ha
refine thn (h pins s σ H _ I q) λu s' ⟨v,H',I',r,o,w,e,q⟩=>⟨v,_,I'.thaw nf e,r,q⟩)
theorem qG4{a:Addr}{o:Obj}{kvs:List (Key×V)}{D:Addr}{H2:Hp}{g:TG}{tc:TT}{te:TE}{σ0:St}{Q:VK}(Pv:Nat→Hp→Prop)(h0:Pv 0 H2)(hl:∀i H,Pv i H→H a=some (.frz o (.dK kvs)))
 (hs:∀(i:Nat) kv H,kvs[i]?=some kv→Pv i H→g (kV kv.1) σ0 H λσ5 H5=>tc σ5 H5 λb H6=>if b=true then te σ5 H6 (λv H7=>∃vs,H7 D=some (.lst vs)∧vs.length<sizeLine∧Pv (i+1) (upd H7 D (.lst (vs++[v]))))else Pv (i+1) H6) (hd:∀H,Pv kvs.length H→Q (.ref D) H):
 ∃W:Nat→Nat→Hp→Prop,(∃m,W 0 m H2)∧∀i m H3,W i m H3→((Itd a o kvs).stop i H3∧Q (.ref D) H3)∨((Itd a o kvs).go i H3∧∃N:Hp→Prop,(∀H',N H'→∃m',m'<m∧W (i+1) m' H')∧∀x H4,(Itd a o kvs).yld i H3 x H4→g x σ0 H4 λσ5 H5=>tc σ5 H5 λb H6=>
   if b=true then te σ5 H6 (λv H7=>∃vs,H7 D=some (.lst vs)∧vs.length<sizeLine∧N (upd H7 D (.lst (vs++[v]))))else N H6):=by(
refine⟨λi m H=>m=kvs.length-i∧i≤kvs.length∧Pv i H,⟨kvs.length,by simp,mU _,h0⟩,?_⟩
rintro i m H ⟨rfl,hi,p⟩
have q:=hl i H p
by_cases hlt:i<kvs.length
·refine .inr ⟨⟨q,hlt⟩,Pv (i+1),λH' z=>⟨kvs.length-(i+1),by lia,rfl,by lia,z⟩,?_⟩;rintro v H' ⟨rfl,kv,hk,rfl⟩
 exact hs i kv _ hk p
obtain rfl:i=kvs.length:=by lia
exact .inl ⟨⟨q,kN _⟩,hd _ p⟩)
end
section
variable{X:Cx}
theorem q99{ns:List Int}{us:List Value}(r:Vals (ns.map V.int) us){j:Nat}(h:j<us.length):∃t,us[j]=.int (ns.getD j 0) t:=by(
obtain⟨x,e,q⟩:=r.atN h
rw[mB]at e
cases z:ns[j]? with
|none=>rw[z]at e;cases e
|some i=>rw[z]at e;obtain rfl:V.int i=x:=kM e;obtain⟨t,q⟩:=q;refine⟨t,?_⟩;rw[kL,z];exact q)
theorem qE2{ns ms:List Int}(h:ns.length=ms.length):(List.range ns.length).all (λj=>ns.getD j 0==ms.getD j 0)=decide (ns=ms):=by(
rw[wO,dY,kQ]
constructor
·intro z;refine wE h λj h1 h2=>?_;have:=z j (mV.mpr h1);rw[rW,kL,kL,kC h1,kC h2]at this;exact this
rintro rfl j _
exact beq_self_eq_true _)
noncomputable def qKJ(K:PySem.W.Frag):R2:=λx y H Q=>∃(a b:Addr) (ns ms:List Int),x=.ref a∧y=.ref b∧SqT K H a (ns.map V.int)∧SqT K H b (ms.map V.int)∧ns.length=ms.length∧Q (.bl (!decide (ns=ms))) H
theorem qG5(hu:X.A.units+64<cLine):OpR X (compareOp .NotEq) (qKJ X.K):=by(
intro pins s σ H x y v u Q I rx ry h
obtain⟨a,b,ns,ms,rfl,rfl,ha,hb,hl,q⟩:=h
cases rx
cases ry
obtain⟨i1,r1,p1,_⟩:=I.tuple ha
obtain⟨i2,r2,p2,_⟩:=I.tuple hb
have l1:=r1.length
have l2:=r2.length
rw[kB]at l1 l2
refine lJ (e:=λj=>ns.getD j 0==ms.getD j 0) (show s.heap.IsTuple a i1.toArray from p1) (show s.heap.IsTuple b i2.toArray from p2) (by lia) (λj h1 h2=>?_) _ _ _ _ ⟨.bl _,H,I,?_,q⟩
·obtain⟨t1,e1⟩:=q99 r1 (j:=j) (by simpa using h1);obtain⟨t2,e2⟩:=q99 r2 (j:=j) (by simpa using h2);have z:=p6 (A:=X.A.in1) (s:=s) (ns.getD j 0) t1 (ms.getD j 0) t2;rw[←e1,←e2]at z;simpa using z
rw[show min i1.toArray.size i2.toArray.size=ns.length by simp;lia,qE2 hl,show(i1.toArray.size==i2.toArray.size)=true by simp;lia,Bool.and_true]
rfl)
end
end L2
namespace W1
open PySem L2
structure Tl where
b:Int
lv:Int
cl:Int
bo:Int
noncomputable abbrev Tl.ns(T:Tl):List Int:=[T.b,T.lv,T.cl,T.bo]
noncomputable def TlAt(H:Hp)(v:V)(T:Tl):Prop:=∃a,v=.ref a∧H a=some (.tup (T.ns.map V.int))
theorem TlAt.same{H H':Hp}{v:V}{T:Tl}(s:Same H H')(h:TlAt H v T):TlAt H' v T:=let⟨a,e,z⟩:=h;⟨a,e,s _ _ z⟩
noncomputable abbrev Tls(H:Hp):List V→List Tl→Prop:=Paired (TlAt H)
theorem Tls.same{H H':Hp}{vs:List V}{ts:List Tl}(s:Same H H')(h:Tls H vs ts):Tls H' vs ts:=Paired.mapP h λ_ _ z=>z.same s
theorem Tl.eq_of{A B:Tl}(h:A.ns=B.ns):A=B:=by cases A;cases B;simp[Tl.ns]at h;simp[h]
structure Tl.Ok(pg nw:Int)(T:Tl):Prop where
b0:0≤T.b
b1:T.b<16
l0:0≤T.lv
l1:T.lv≤pg
c0:0≤T.cl
c1:T.cl<10 ^ 30
o0:0≤T.bo
o1:T.bo<nw
noncomputable def unb(f:Tl→Int)(ts:List Tl)(T:Tl):Bool:=ts.all λo=>!decide (f o<f T)
theorem q5R(f:Tl→Int):∀ts:List Tl,ts≠[]→∃T∈ts,∀o∈ts,f T≤f o
| [],h=>absurd rfl h
| [T],_=>⟨T,h9.mpr rfl,λo ho=>by rw[h9.mp ho];exact gP _⟩
|T::U::r,_=>by
 obtain⟨M,hm,hl⟩:=q5R f (U::r) (by simp);by_cases h:f T≤f M
 ·refine⟨T,kX ..,λo ho=>?_⟩;rcases kI.mp ho with rfl|ho
  ·exact gP _
  have:=hl o ho;lia
 refine⟨M,hU _ hm,λo ho=>?_⟩;rcases kI.mp ho with rfl|ho
 ·lia
 exact hl o ho
theorem q50{f:Tl→Int}{ts:List Tl}{T:Tl}:unb f ts T=true↔∀o∈ts,f T≤f o:=by(
unfold unb
rw[dY]
constructor
·intro h o ho;have:=h o ho;rw[d7,d8]at this;lia
intro h o ho
have:=h o ho
rw[d7,d8]
lia)
theorem q5S(f:Tl→Int)(ts:List Tl)(h:ts≠[]):∃i,∃hi:i<ts.length,unb f ts ts[i]=true∧∀j,∀hj:j<i,unb f ts (ts[j]'(by lia))=false:=by(
obtain⟨T,hT,hm⟩:=q5R f ts h
obtain⟨k,hk,e⟩:=r9 hT
have key:∀n,n<ts.length→(∃z:n<ts.length,unb f ts ts[n]=true)→∃i,∃hi:i<ts.length,unb f ts ts[i]=true∧∀j,∀hj:j<i,unb f ts (ts[j]'(by lia))=false:=by
 intro n;induction n using Nat.strongRecOn with
 |ind n ih=>
  intro hn hZ;obtain⟨z,hu⟩:=hZ;by_cases g:∃j,∃hj:j<n,unb f ts (ts[j]'(by lia))=true
  ·obtain⟨j,hj,u⟩:=g;exact ih j hj (by lia) ⟨by lia,u⟩
  refine⟨n,hn,hu,λj hj=>?_⟩;cases u:unb f ts (ts[j]'(by lia))with
  |false=>rfl
  |true=>exact absurd ⟨j,hj,u⟩ g
exact key k hk ⟨hk,q50.mpr (by rw[e];exact hm)⟩)
noncomputable def pk(f:Tl→Int)(ts:List Tl):Int:=((ts.find? (unb f ts)).map Tl.b).getD 0
theorem qHI{f:Tl→Int}{ts:List Tl}{i:Nat}(hi:i<ts.length)(u:unb f ts ts[i]=true)(n:∀j,∀hj:j<i,unb f ts (ts[j]'(by lia))=false):pk f ts=ts[i].b:=by(
have e:ts.find? (unb f ts)=some ts[i]:=by rw[List.find?_eq_some_iff_getElem];exact⟨u,i,hi,rfl,λj hj=>by rw[n j hj];rfl⟩
unfold pk
rw[e]
rfl)
theorem q0P{H:Hp}{x dx C:Addr}(nx:H x=none)(nd:H dx=none):Same H (upd (upd H dx (.own x)) x (.ins C dx [])):=λb o e=>by rw[qC (qH e nx),qC (qH e nd)];exact e
end W1
namespace L2
open PySem PySem.Spec PyProof.Rows
theorem q2A{X:Cx}{K:PySem.W.Frag}(e:X.K=K):IxR X (rIxT K):=by subst e;exact y6
theorem q9A{X:Cx}{K:PySem.W.Frag}(e:X.K=K):IxR X (rIxL K):=by subst e;exact jQ
theorem qAA{X:Cx}{K:PySem.W.Frag}(e:X.K=K):OpR X (compareOp .In) (rIn K false):=by subst e;exact qC8
theorem q6P{X:Cx}{K:PySem.W.Frag}(e:X.K=K):OpR X (compareOp .NotIn) (rIn K true):=by subst e;exact q3H
theorem q5T{X:Cx}{elt iter tg:Expr}{ifs:List Expr}{scope:Scope}{pos py spos:Pos}{wi:TI}{g:TG}{tc:TT}{te:TE}{i:Nat}{y:Str}(N:List Str)(ix:List Nat)(hcalm:X.calm=true)(hi:PI X tg iter wi)
 (hg:∀C fp s H xe,PG (vB X N scope C fp s H xe) tg g) (hif:∀C fp s H xe,PIf (vB X N scope C fp s H xe) ifs tc) (he:∀C fp s H xe,PE (vB X N scope C fp s H xe) elt te)
 (ok:qB9 X.N X.env.kindOf scope N ix=true) (hown:Own g ix.length) (hN:X.N.Nodup) (hy:X.N[i]?=some y) (hl:Loc X.env.scope y)
 (hsw:swapsWith (.ListComp elt [⟨tg,iter,ifs,0⟩] scope pos) (some (.Name y py)) spos.line X.env=pure true:=by rfl) (hf:X.fn y=true∨X.env.scope.names.lookup y=some .local:=by first|exact .inl rfl|exact .inr rfl|assumption)
 (hs:∀x,foldedSetIterable iter X.env x=pure x:=by intro _;rfl):
 PS X (.Assign [.Name y py] (.ListComp elt [⟨tg,iter,ifs,0⟩] scope pos) spos) (tAsg (tLC wi g tc te ix (N.length-ix.length)) (q2N i)):=by(
unfold qB9 at ok
rw[mR,mR,mR,dY]at ok
obtain⟨⟨⟨h1,h2⟩,h3⟩,h4⟩:=ok
have h2':∀y∈scope.names,y.2≠ .cell∧(y.2≠ .free∨X.env.kindOf y.1=some .cell)∧(y.2≠ .local∨scope.names.lookup y.1=some .local):=λy hy=>by have q:=h2 y hy;rw[mR,mR,wP,wP,kQ,kQ,kQ,kQ,kQ]at q;exact⟨q.1.1,q.1.2,q.2⟩
intro pins s σ H D I h
rw[exec_Assign_Name_used _ _ _ _ hsw]
refine hV (pH (hV ?_))
show wpAny _ X.A (do let _←comprehension (.ListComp elt [⟨tg,iter,ifs,0⟩] scope pos) scope X.env _ (newList []) false (eval iter X.env) (some (assign (.Name y py) X.env))) _ _ s
refine hV (g8 (qB8 (use:=some (assign (.Name y py) X.env)) (QQ:=λ_ s'=>∃σ' H',Inv X pins σ' H' s'∧D.nx σ' H') N ix _ (λ_ _ _ _ _=>hcalm) hi.c hg hif he (mM h1) (λy hy=>(h2' y hy).1) (λy hy e=>(h2' y hy).2.1.resolve_left (λz=>z e)) h3 (mM h4) (λy hy e=>(h2' y hy).2.2.resolve_left (λz=>z e)) hown I h
 (λC Dl H' s' m hm fp inv q=>?_) hs) (λ_ s' hq=>kY (kY hq)) λ_ _ e=>e)
have I':Inv X pins σ H' s':=inv s'.heap (Heap.SameBut.refl _ _)
show wpAny _ _ (assign (.Name y py) X.env (.ref Dl)) _ _ _
refine l8 (q74 (v:=.ref Dl) I' hN hy hl rfl (λs'' I'' hZ=>?_) hf)
obtain⟨a,sb,ha⟩:=hZ
have aC:C≠a:=λz=>by
 rcases ha with ha|ha
 ·exact fp.2.1 (z.trans ha)
 exact fp.2.2.2.2.1 _ _ ha z.symm
refine⟨m,hm.sameBut sb aC,λh' sb'=>⟨_,H',I''.turnedN (t':=s''.toks) (fp:=[C]) (λb o hb e=>sb'.extBut b o (λz=>hb (h9.mpr z)) e) (λb hb=>by rw[h9.mp hb];exact fp),q⟩⟩)
theorem vC{K:PySem.W.Frag}{a:Addr}{xs:List V}{D:Addr}{H2:Hp}{g:TG}{tc:TT}{te:TE}{σ0:St}{R:Hp→Prop}(Pv:Nat→Hp→Prop)(h0:Pv 0 H2)(hl:∀i H,Pv i H→SqL K H a xs)
 (hs:∀(i:Nat) x H,xs[i]?=some x→Pv i H→g x σ0 H λσ5 H5=>tc σ5 H5 λb H6=>if b=true then te σ5 H6 (λv H7=>∃vs,H7 D=some (.lst vs)∧vs.length<sizeLine∧Pv (i+1) (upd H7 D (.lst (vs++[v]))))else Pv (i+1) H6) (hd:∀H,Pv xs.length H→R H):
 ∃W:Nat→Nat→Hp→Prop,(∃m,W 0 m H2)∧∀i m H3,W i m H3→((Itl K a).stop i H3∧R H3)∨((Itl K a).go i H3∧∃N:Hp→Prop,(∀H',N H'→∃m',m'<m∧W (i+1) m' H')∧∀x H4,(Itl K a).yld i H3 x H4→g x σ0 H4 λσ5 H5=>tc σ5 H5 λb H6=>if b=true then te σ5 H6 (λv H7=>∃vs,H7 D=some (.lst vs)∧vs.length<sizeLine∧N (upd H7 D (.lst (vs++[v]))))else N H6):=qBA (Q:=λ_ H=>R H) Pv h0 hl hs hd
theorem q9B{K:PySem.W.Frag}{a:Addr}{xs:List V}{k:Nat}{D:Addr}{H2:Hp}{te:TE}{σ0:St}{R:Hp→Prop}(Pv:Nat→Hp→Prop)(h0:Pv 0 H2)(hl:∀i H,Pv i H→SqL K H a xs)
 (hs:∀(i:Nat) x H,xs[i]?=some x→Pv i H→te (σ0.set k (some x)) H (λv H7=>∃vs,H7 D=some (.lst vs)∧vs.length<sizeLine∧Pv (i+1) (upd H7 D (.lst (vs++[v]))))) (hd:∀H,Pv xs.length H→R H):
 ∃W:Nat→Nat→Hp→Prop,(∃m,W 0 m H2)∧∀i m H3,W i m H3→((Itl K a).stop i H3∧R H3)∨((Itl K a).go i H3∧∃N:Hp→Prop,(∀H',N H'→∃m',m'<m∧W (i+1) m' H')∧∀x H4,(Itl K a).yld i H3 x H4→q2N k x σ0 H4 λσ5 H5=>q97 σ5 H5 λb H6=>if b=true then te σ5 H6 (λv H7=>∃vs,H7 D=some (.lst vs)∧vs.length<sizeLine∧N (upd H7 D (.lst (vs++[v]))))else N H6):=qDZ (Q:=λ_ H=>R H) Pv h0 hl hs hd
end L2
namespace L2
open PySem PySem.W PyProof.Rows
noncomputable def hT{α:Type}(c:Nat→Nat→Bool)(n:Nat):KasT α→(α→Prop)→Prop
| .ret a,Q=>Q a
| .ask i j k,Q=>i<n∧j<n∧hT c n (k (c i j)) Q
theorem yN{α:Type}{c:Nat→Nat→Bool}{n:Nat}{Q Q':α→Prop}(h:∀a,Q a→Q' a):∀t:KasT α,hT c n t Q→hT c n t Q'
| .ret a,q=>h a q
| .ask i j k,q=>⟨q.1,q.2.1,yN h (k (c i j)) q.2.2⟩
theorem q2B{α β:Type}{c:Nat→Nat→Bool}{n:Nat}{f:α→KasT β}{Q:β→Prop}:∀t:KasT α,hT c n t (λa=>hT c n (f a) Q)→hT c n (t.bind f) Q
| .ret a,q=>q
| .ask i j k,q=>⟨q.1,q.2.1,q2B (k (c i j)) q.2.2⟩
theorem qE3{α:Type}{c:Nat→Nat→Bool}{n:Nat}{cmp:Nat→Nat→(Bool→Shared→Prop)→Shared→Prop}{G:α→Shared→Prop}{s:Shared}(hc:∀i j C,i<n→j<n→C (c i j) s→cmp i j C s):
 ∀t:KasT α,hT c n t (λa=>G a s)→t.kasWp cmp G s
| .ret a,q=>q
| .ask i j k,q=>hc i j _ q.1 q.2.1 (qE3 hc (k (c i j)) q.2.2)
section
variable{r:Nat→Int}{n:Nat}
noncomputable abbrev rc(r:Nat→Int):Nat→Nat→Bool:=λi j=>decide (r i<r j)
noncomputable abbrev kk(r:Nat→Int)(p:Array Nat)(i:Nat):Int:=r (p.getD i 0)
noncomputable def Srt(r:Nat→Int)(p:Array Nat)(m:Nat):Prop:=∀i j,i≤j→j<m→kk r p i≤kk r p j
noncomputable def Dec(r:Nat→Int)(p:Array Nat)(m:Nat):Prop:=∀i j,i≤j→j<m→kk r p j≤kk r p i
noncomputable def Gp(n:Nat)(p:Array Nat):Prop:=p.Perm (List.range n).toArray
theorem Gp.size{p:Array Nat}(g:Gp n p):p.size=n:=by have:=g.size_eq;simpa using this
theorem Gp.lt{p:Array Nat}(g:Gp n p){i:Nat}(h:i<n):p.getD i 0<n:=by(
have hi:i<p.size:=by rw[g.size];exact h
have e:p.getD i 0=p[i]:=by simp[Array.getD,hi]
have:p[i]∈(List.range n).toArray:=g.mem_iff.mp (Array.getElem_mem hi)
rw[e]
simpa using this)
theorem Srt.more{p:Array Nat}{m:Nat}(h:Srt r p m)(e:kk r p (m-1)≤kk r p m):Srt r p (m+1):=λi j hij hj=>by(
by_cases z:j<m
·exact h i j hij z
have ej:j=m:=by lia
subst ej
by_cases z2:i=j
·subst z2;exact gP _
exact pU (h i (j-1) (by lia) (by lia)) e)
theorem Dec.more{p:Array Nat}{m:Nat}(h:Dec r p m)(e:kk r p m≤kk r p (m-1)):Dec r p (m+1):=λi j hij hj=>by(
by_cases z:j<m
·exact h i j hij z
have ej:j=m:=by lia
subst ej
by_cases z2:i=j
·subst z2;exact gP _
exact pU e (h i (j-1) (by lia) (by lia)))
theorem q3K{p q:Array Nat}{i j:Nat}(h:p[i]?=q[j]?):p.getD i 0=q.getD j 0:=by rw[pV,pV,h]
theorem qAB{p:Array Nat}{i j:Nat}(hj:j≤p.size)(k:Nat):(kas_rev p i j).getD k 0=if i≤k∧k<j then p.getD (i+j-1-k) 0 else p.getD k 0:=by(
unfold kas_rev
by_cases h:i≤k∧k<j
·rw[kJ h];exact q3K (by rw[lK hj,kJ h])
rw[kF h]
exact q3K (by rw[lK hj,kF h]))
theorem Gp.rev{p:Array Nat}(g:Gp n p)(i j:Nat):Gp n (kas_rev p i j):=(mirror_perm _ _ _ _).trans g
theorem qAC{p:Array Nat}(g:Gp n p):∀(f m:Nat),1≤m→m+f≤n→Srt r p m→hT (rc r) n (kas_asc p f m) (λe=>m≤e∧e≤m+f∧Srt r p e∧(e<m+f→kk r p e<kk r p (e-1)))
|0,m,h1,hz,h=>⟨kN _,kN _,h,λz=>absurd z (dE _)⟩
|f+1,m,h1,hz,h=>by
 refine⟨g.lt (by lia),g.lt (by lia),?_⟩;by_cases e:r (p.getD m 0)<r (p.getD (m-1) 0)
 ·rw[show rc r (p.getD m 0) (p.getD (m-1) 0)=true from hG e];dsimp only;rw[kJ rfl];exact⟨kN _,by lia,h,λ_=>e⟩
 rw[show rc r (p.getD m 0) (p.getD (m-1) 0)=false from hX e];dsimp only;rw[kF kO];refine yN ?_ _ (qAC g f (m+1) (by lia) (by lia) (h.more (by show r _≤r _;lia)));rintro a ⟨a1,a2,a3,a4⟩
 exact⟨by lia,by lia,a3,λz=>a4 (by lia)⟩
noncomputable def Eql(r:Nat→Int)(p:Array Nat)(a b:Nat):Prop:=∀k,a≤k→k<b→kk r p k=kk r p (b-1)
theorem q83{p:Array Nat}{i j:Nat}(hj:j≤p.size)(h:Eql r p i j)(k:Nat):kk r (kas_rev p i j) k=kk r p k:=by(
show r _=r _
rw[qAB hj]
by_cases z:i≤k∧k<j
·rw[kJ z];exact(h _ (by lia) (by lia)).trans (h k z.1 z.2).symm
rw[kF z])
theorem q51:∀(f:Nat) (p:Array Nat) (m q:Nat),Gp n p→q+1≤m→m+f≤n→Dec r p m→Eql r p (m-(q+1)) m→hT (rc r) n (kas_desc f p m q) (λz=>Gp n z.1∧m≤z.2.1∧z.2.1≤m+f∧Dec r z.1 z.2.1∧z.2.2+1≤z.2.1∧Eql r z.1 (z.2.1-(z.2.2+1)) z.2.1)
|0,p,m,q,g,hq,hz,d,e=>⟨g,kN _,kN _,d,hq,e⟩
|f+1,p,m,q,g,hq,hz,d,e=>by
 have hs:=g.size;refine⟨g.lt (by lia),g.lt (by lia),?_⟩;by_cases c:r (p.getD m 0)<r (p.getD (m-1) 0)
 ·rw[show rc r (p.getD m 0) (p.getD (m-1) 0)=true from hG c];dsimp only;rw[kJ rfl];by_cases q0:q>0
  ·rw[kJ q0];have kq:=q83 (r:=r) (p:=p) (i:=m-(q+1)) (j:=m) (by lia) e;have d1:Dec r (kas_rev p (m-(q+1)) m) (m+1):=λi j hij hj=>by rw[kq,kq];exact d.more (c8 c) i j hij hj
   refine yN ?_ _ (q51 f _ (m+1) 0 (g.rev _ _) (by lia) (by lia) d1 λk h1 h2=>by rw[show k=m by lia];rfl);rintro a ⟨a1,a2,a3,a4⟩
   exact⟨a1,by lia,by lia,a4⟩
  rw[kF q0];refine yN ?_ _ (q51 f p (m+1) 0 g (by lia) (by lia) (d.more (c8 c)) λk h1 h2=>by rw[show k=m by lia];rfl);rintro a ⟨a1,a2,a3,a4⟩
  exact⟨a1,by lia,by lia,a4⟩
 rw[show rc r (p.getD m 0) (p.getD (m-1) 0)=false from hX c];dsimp only;rw[kF kO];refine⟨g.lt (by lia),g.lt (by lia),?_⟩;by_cases c2:r (p.getD (m-1) 0)<r (p.getD m 0)
 ·rw[show rc r (p.getD (m-1) 0) (p.getD m 0)=true from hG c2];dsimp only;rw[kJ rfl];exact⟨g,kN _,sL _ _,d,hq,e⟩
 rw[show rc r (p.getD (m-1) 0) (p.getD m 0)=false from hX c2];dsimp only;rw[kF kO];have ee:r (p.getD m 0)=r (p.getD (m-1) 0):=by lia
 refine yN ?_ _ (q51 f p (m+1) (q+1) g (by lia) (by lia) (d.more (Int.le_of_eq ee)) λk h1 h2=>?_)
 ·rintro a ⟨a1,a2,a3,a4⟩
  exact⟨a1,by lia,by lia,a4⟩
 show r (p.getD k 0)=r (p.getD m 0);by_cases z:k=m
 ·rw[z]
 rw[ee];exact e k (by lia) (by lia)
theorem qBC{p:Array Nat}{m:Nat}(g:Gp n p)(h1:1≤m)(hm:m≤n)(d:Dec r p m):hT (rc r) n (kas_tail3 m n p) (λz=>Gp n z.2∧1≤z.1∧z.1≤n∧Srt r z.2 z.1):=by(
have hs:=g.size
have sr:Srt r (kas_rev p 0 m) m:=λi j hij hj=>by show r _≤r _;rw[qAB (by lia),qAB (by lia),kJ ⟨mU _,by lia⟩,kJ ⟨mU _,hj⟩];exact d _ _ (by lia) (by lia)
refine q2B _ (yN ?_ _ (qAC (g.rev 0 m) (n-m) m h1 (by lia) sr))
rintro a ⟨a1,a2,a3,_⟩
exact⟨g.rev _ _,by lia,by lia,a3⟩)
theorem qBD{p:Array Nat}{m:Nat}(g:Gp n p)(hm:m+1≤n)(d:Dec r p (m+1)):hT (rc r) n (kas_descPart m n p) (λz=>Gp n z.2∧1≤z.1∧z.1≤n∧Srt r z.2 z.1):=by(
refine q2B _ (yN ?_ _ (q51 (n-(m+1)) p (m+1) 0 g (by lia) (by lia) d λk h1 h2=>by rw[show k=m by lia];rfl))
rintro⟨p',m',q'⟩ ⟨a1,a2,a3,a4,a5,a6⟩
dsimp only at a1 a2 a3 a4 a5 a6 ⊢
have hs:=a1.size
by_cases q0:q'>0
·rw[kJ q0];have kq:=q83 (r:=r) (p:=p') (i:=m'-(q'+1)) (j:=m') (by lia) a6;exact qBC (a1.rev _ _) (by lia) (by lia) λi j hij hj=>by rw[kq,kq];exact a4 i j hij hj
rw[kF q0]
exact qBC a1 (by lia) (by lia) a4)
theorem qE4{p:Array Nat}(g:Gp n p)(h1:1≤n):hT (rc r) n (kas_count n p) (λz=>Gp n z.2∧1≤z.1∧z.1≤n∧Srt r z.2 z.1):=by(
have hs:=g.size
have s1:Srt r p 1:=λi j hij hj=>by rw[show i=j by lia];exact gP _
refine q2B _ (yN ?_ _ (qAC g (n-1) 1 (kN _) (by lia) s1))
rintro m ⟨a1,a2,a3,a4⟩
try dsimp only
by_cases e:m=n
·rw[kJ (by rw[rW];exact e)];exact⟨g,a1,by lia,a3⟩
rw[kF (by rw[rW];exact e)]
have lt:=a4 (by lia)
by_cases m1:m>1
·rw[kJ m1];refine⟨g.lt (by lia),g.lt (by lia),?_⟩;by_cases c:r (p.getD 0 0)<r (p.getD (m-1) 0)
 ·rw[show rc r (p.getD 0 0) (p.getD (m-1) 0)=true from hG c];dsimp only;rw[kJ rfl];exact⟨g,a1,by lia,a3⟩
 rw[show rc r (p.getD 0 0) (p.getD (m-1) 0)=false from hX c];dsimp only;rw[kF kO];have eq:Eql r p 0 m:=λk _ hk=>by have z1:=a3 0 k (mU _) hk;have z2:=a3 k (m-1) (by lia) (by lia);show r _=r _;have z1:r (p.getD 0 0)≤r (p.getD k 0):=z1;have z2:r (p.getD k 0)≤r (p.getD (m-1) 0):=z2;lia
 have kq:=q83 (r:=r) (p:=p) (i:=0) (j:=m) (by lia) eq;refine qBD (g.rev _ _) (by lia) λi j hij hj=>?_;rw[kq,kq];refine Dec.more (m:=m) (λi j hij hj=>?_) (c8 lt) i j hij hj;rw[eq i (mU _) (by lia),eq j (mU _) hj];exact gP _
rw[kF m1]
have:m=1:=by lia
subst this
refine qBD g (by lia) (Dec.more (λi j hij hj=>?_) (c8 lt))
rw[show i=j by lia]
exact gP _)
theorem q5U{p:Array Nat}(g:Gp n p){k:Nat}(hk:k<n)(sr:Srt r p k):∀(f l u:Nat),u-l≤f→l≤u→u≤k→(∀i,i<l→kk r p i≤kk r p k)→(∀i,u≤i→i<k→kk r p k<kk r p i)→hT (rc r) n (kas_place p k f l u) (λm=>m≤k∧(∀i,i<m→kk r p i≤kk r p k)∧∀i,m≤i→i<k→kk r p k<kk r p i)
|0,l,u,hf,hl,hu,a,b=>⟨by lia,a,λi h1 h2=>b i (by lia) h2⟩
|f+1,l,u,hf,hl,hu,a,b=>by
 unfold kas_place;by_cases e:l≥u
 ·rw[kJ e];exact⟨by lia,a,λi h1 h2=>b i (by lia) h2⟩
 rw[kF e];refine⟨g.lt hk,g.lt (by lia),?_⟩;by_cases c:r (p.getD k 0)<r (p.getD ((l+u) / 2) 0)
 ·rw[show rc r (p.getD k 0) (p.getD ((l+u) / 2) 0)=true from hG c];dsimp only;rw[kJ rfl];refine q5U g hk sr f l ((l+u) / 2) (by lia) (by lia) (by lia) a λi h1 h2=>?_;exact Int.lt_of_lt_of_le c (sr _ _ h1 h2)
 rw[show rc r (p.getD k 0) (p.getD ((l+u) / 2) 0)=false from hX c];dsimp only;rw[kF kO];refine q5U g hk sr f ((l+u) / 2+1) u (by lia) (by lia) hu (λi h1=>?_) b;exact pU (sr i ((l+u) / 2) (by lia) (by lia)) (by show r _≤r _;lia)
theorem qJ0{p:Array Nat}{k l:Nat}(hk:k<p.size)(hl:l≤k)(i:Nat):(bubble p k (k-l)).getD i 0=if i=l then p.getD k 0 else if l<i∧i≤k then p.getD (i-1) 0 else p.getD i 0:=by(
have e:=getElem?_bubble hk (k-l) (by lia) i
rw[show k-(k-l)=l by lia]at e
by_cases h1:i=l
·rw[kJ h1]at e ⊢;exact q3K e
rw[kF h1]at e ⊢
by_cases h2:l<i∧i≤k
·rw[kJ h2]at e ⊢;exact q3K e
rw[kF h2]at e ⊢
exact q3K e)
theorem qE5:∀(f:Nat) (p:Array Nat) (k:Nat),Gp n p→k+f≤n→Srt r p k→hT (rc r) n (kas_bin f p k) (λq=>Gp n q∧Srt r q (k+f))
|0,p,k,g,hz,sr=>⟨g,sr⟩
|f+1,p,k,g,hz,sr=>by
 have hs:=g.size;refine q2B _ (yN ?_ _ (q5U g (show k<n by lia) sr k 0 k (by lia) (mU _) (kN _) (λi h=>absurd h (aA _)) λi h1 h2=>absurd h2 (by lia)));rintro l ⟨a1,a2,a3⟩
 have at':=qJ0 (p:=p) (k:=k) (l:=l) (by lia) a1;refine yN ?_ _ (qE5 f _ (k+1) ((bubble_perm _ _ _).trans g) (by lia) λi j hij hj=>?_)
 ·rintro q ⟨b1,b2⟩
  exact⟨b1,by rw[show k+(f+1)=k+1+f by lia];exact b2⟩
 show r _≤r _;rw[at',at'];by_cases i1:i=l
 ·rw[kJ i1];by_cases j1:j=l
  ·rw[kJ j1];exact gP _
  rw[kF j1,kJ ⟨by lia,by lia⟩];exact c8 (a3 (j-1) (by lia) (by lia))
 rw[kF i1];by_cases i2:l<i∧i≤k
 ·rw[kJ i2,kF (by lia),kJ ⟨by lia,by lia⟩];exact sr _ _ (by lia) (by lia)
 rw[kF i2];by_cases j1:j=l
 ·rw[kJ j1];exact a2 i (by lia)
 rw[kF j1];by_cases j2:l<j∧j≤k
 ·rw[kJ j2];exact sr _ _ (by lia) (by lia)
 rw[kF j2];exact sr _ _ hij (by lia)
theorem qBE(h1:1≤n):hT (rc r) n (kas_sort n) (λp=>Gp n p∧Srt r p n):=by(
refine q2B _ (yN ?_ _ (qE4 (p:=(List.range n).toArray) (aB _) h1))
rintro⟨m,p⟩ ⟨a1,a2,a3,a4⟩
dsimp only at a1 a2 a3 a4 ⊢
by_cases e:m<n
·rw[kJ e];refine yN ?_ _ (qE5 (n-max m 1) p (max m 1) a1 (by lia) (by rw[Nat.max_eq_left a2];exact a4));rintro q ⟨b1,b2⟩
 exact⟨b1,by rw[show max m 1+(n-max m 1)=n by lia]at b2;exact b2⟩
rw[kF e]
have:m=n:=by lia
subst this
exact⟨a1,a4⟩)
end
end L2
namespace L2
open PySem PySem.W PySem.Spec PyProof.Rows
section
variable{prog:Program}{w:World}{A:Around}{E:Value→Shared→Prop}{s:Shared}
noncomputable abbrev q5V(vs:List Value)(p:Array Nat):Array Value:=List.toArray (p.toList.map λi=>vs.getD i Value.none)
structure RkAt(prog:Program)(w:World)(A:Around)(vs:List Value)(κ:SortKind)(r:Nat→Int)(s:Shared):Prop where
kind:∀(Q:SortKind→Shared→Prop) (E:Value→Shared→Prop),Q κ s→wpAny (model prog w) A (keyKind' vs.toArray) Q E s
lt:∀i j (C:Bool→Shared→Prop),i<vs.length→j<vs.length→C (decide (r i<r j)) s→wpAny (model prog w) A (keyLt' κ (vs.getD i Value.none) (vs.getD j Value.none)) C (λ_ _=>False) s
theorem qAD{a:Addr}{vs:List Value}{n:Nat}{κ:SortKind}{r:Nat→Int}{P:PySem.Fin→Shared→Prop}(ho:s.heap.get? a=some (seqObj "list" vs.toArray n))(h64:vs.length<64)
 (hr:2≤vs.length→∀h',(∀b o,b≠a→s.heap.get? b=some o→h'.get? b=some o)→RkAt prog w A vs κ r { s with heap:=h' })
 (h:∀p:Array Nat,Gp vs.length p→Srt r p vs.length→P (.done (.ret .none)) { s with heap:=sortedHeap s.heap a vs (q5V vs p) }):wpAny (model prog w) A (Builtin.«list.sort» ⟨[.ref a],[]⟩) P E s:=by(
have ha:a<s.heap.objs.size:=kP ho
have hsz:vs.toArray.size=vs.length:=mD ..
obtain⟨e1,g1⟩:∃e1,(s.heap.update a (Obj.mapSeq λ_=>(#[]:Array Value))).get? a=some (seqObj "list" #[] e1):=⟨_,wQ ho λ_=>#[]⟩
have g6:=kE (seqObj "list" #[] 0) (kE (seqObj "tuple" vs.toArray 0) g1)
rw[list_sort_plain]
refine hV (xJ ho rfl (hV (wU ho rfl (hV (sF g1 rfl ?_)) (by rw[hsz,gG];lia) (mU _))))
refine hV (wpAny_newTuple (hV (wV (gL ?_) (mU _))) (by show vs.length≤_;rw[gG];lia))
show wpAny (model prog w) A _ P E { s with heap:=((s.heap.update a (Obj.mapSeq λ_=>(#[]:Array Value))).push (seqObj "tuple" vs.toArray 0)).push (seqObj "list" #[] 0) }
dsimp only
by_cases h2:vs.toArray.size<2
·rw[kJ h2,kJ h2];refine hV (kY ?_);rw[aD];refine hV (kY ?_);dsimp only;have fin:=h (List.range vs.length).toArray (aB _) λi j hij hj=>by rw[show i=j by lia];exact gP _
 have eo:(pairsOf vs).map (·.2)=q5V vs (List.range vs.length).toArray:=by
  have em:(pairsOf vs)=(List.toArray (List.range vs.length)).map (kas_item (pairsOf vs)):=by have e:=kas_range (pairsOf vs);rw[xK]at e;exact e.symm
  apply sO.mp;rw[em,aX,sP];exact rB λi _=>by show(kas_item (pairsOf vs) i).2=_;rw[kas_item_eq]
 refine hV (sF g6 rfl ?_);refine hV (wU g6 rfl ?_ (mU _) (by rw[Array.size_map];show(pairsOf vs).size≤_;rw[xK,gG];lia));simp only[bne_self_eq_false,cS,if_false];refine kY ?_;rw[←eo]at fin;exact fin
rw[kF h2,kF h2]
have h2':2≤vs.length:=by lia
have K:=hr h2' (((s.heap.update a (Obj.mapSeq λ_=>(#[]:Array Value))).push (seqObj "tuple" vs.toArray 0)).push (seqObj "list" #[] 0)) λb o nb e=>kE _ (kE _ ((kW _ _ (r6 nb)).trans e))
refine hV (K.kind _ _ ?_)
have est:SortSt.mk' κ (vs.toArray.zip vs.toArray) #[] 7 none=kas_st κ (pairsOf vs) (List.toArray (List.range vs.length)):=by have e:=kas_range (pairsOf vs);rw[xK]at e;unfold kas_st;rw[e];rfl
have tree:(kas_sort vs.length).kasWp (kas_cmp prog w A κ (pairsOf vs)) (λp s'=>s'= { s with heap:=((s.heap.update a (Obj.mapSeq λ_=>(#[]:Array Value))).push (seqObj "tuple" vs.toArray 0)).push (seqObj "list" #[] 0) }∧Gp vs.length p∧Srt r p vs.length) { s with heap:=((s.heap.update a (Obj.mapSeq λ_=>(#[]:Array Value))).push (seqObj "tuple" vs.toArray 0)).push (seqObj "list" #[] 0) }:=by rw[←kas_ask_eq];exact qE3 (c:=rc r) (n:=vs.length) (λi j C hi hj c=>K.lt i j C hi hj c) _ (yN (λp q=>⟨rfl,q⟩) _ (qBE (by lia)))
have run:=kas_runs (E:=E) (Q:=λ_ st' s'=>∃p:Array Nat,arrOf st'=p.map (kas_item (pairsOf vs))∧failedOf st'=none∧s'= { s with heap:=((s.heap.update a (Obj.mapSeq λ_=>(#[]:Array Value))).push (seqObj "tuple" vs.toArray 0)).push (seqObj "list" #[] 0) }∧Gp vs.length p∧Srt r p vs.length) h2' h64 (λp' st' s' _ a2 a3 a4=>⟨p',a2,a3,a4⟩) tree
rw[←est]at run
refine hV (g8 run ?_ λ_ _ e=>e)
rintro⟨⟨⟩,st'⟩ s' ⟨p,har,hf,rfl,gp,sr⟩
dsimp only
have hout:(arrOf st').map (·.2)=q5V vs p:=by apply sO.mp;rw[har,aX,sP];exact rB λi _=>by show(kas_item (pairsOf vs) i).2=_;rw[kas_item_eq]
have hol:(q5V vs p).size=vs.length:=by rw[mD,kB,mZ,gp.size]
rw[hout]
refine hV (sF g6 rfl ?_)
refine hV (wU g6 rfl ?_ (mU _) (mF (cX hol) (by rw[gG];lia)))
rw[hf]
simp only[bne_self_eq_false,cS,if_false]
exact kY (h p gp sr))
theorem q84{l:Addr}{vs:List Value}{κ:SortKind}{r:Nat→Int}{Q:Value→Shared→Prop}(hl:s.heap.IsList l vs.toArray)(h64:vs.length<64)
 (hr:2≤vs.length→∀h',(∀b o,s.heap.get? b=some o→h'.get? b=some o)→RkAt prog w A.in1.in1 vs κ r { s with heap:=h' })
 (h:∀p:Array Nat,Gp vs.length p→Srt r p vs.length→Q (.ref (s.heap.objs.size+1)) { s with heap:=sortedAll s.heap vs (q5V vs p) }):
 wpAny (model prog w) A (call (.builtin "sorted") [.ref l]) Q E s:=by(
refine sD xW xL xM (args_sorted1 _) ?_
unfold Builtin.«sorted»
refine hV (m:=checkCount "sorted" 1 1 _) (kY (hV (collect_list hl (hV (wV ?_ (by rw[gG];show vs.length≤_;lia))))))
have hsz:((s.heap.push (seqObj "list" #[] 0)).update s.heap.objs.size (Obj.mapSeq (· ++vs.toArray))).objs.size=s.heap.objs.size+1:=by rw[sQ,nI]
have g:(((s.heap.push (seqObj "list" #[] 0)).update s.heap.objs.size (Obj.mapSeq (· ++vs.toArray))).push (seqObj "list" vs.toArray 0)).get? (s.heap.objs.size+1)=some (seqObj "list" vs.toArray 0):=by rw[←hsz];exact mJ _ rfl
show wpAny _ _ _ _ _ { s with heap:=((s.heap.push (seqObj "list" #[] 0)).update s.heap.objs.size (Obj.mapSeq (· ++vs.toArray))).push (seqObj "list" vs.toArray 0) }
rw[hsz]
refine hV (gL (sR lF ⟨_,g,rfl⟩ nN (qAD (κ:=κ) (r:=r) g h64 (λh2 h' k=>hr h2 h' λb o e=>k b o (mP (dJ (kP e))) (kE _ ((kW _ _ (dG (kP e))).trans (kE _ e)))) λp a1 a2=>⟨_,rfl,?_⟩) (args_list_sort _)))
exact kY ⟨_,rfl,h p a1 a2⟩)
end
noncomputable def lx:List Int→List Int→Bool
|a::r,b::s=>if a=b then lx r s else decide (a<b)
| [],_::_=>true
|_,[]=>false
theorem q2W:∀a:List Int,lx a a=false
| []=>rfl
|a::r=>by show(if a=a then lx r r else decide (a<a))=false;rw[kJ rfl];exact q2W r
theorem q07:∀a b c:List Int,lx a b=true→lx b c=true→lx a c=true
| [],[],c,h,_=>by cases h
| [],_::_,[],_,h=>by cases h
| [],_::_,_::_,_,_=>rfl
|_::_,[],c,h,_=>by cases h
|_::_,_::_,[],_,h=>by cases h
|a::r,b::s,c::t,h,g=>by
 have h:(if a=b then lx r s else decide (a<b))=true:=h;have g:(if b=c then lx s t else decide (b<c))=true:=g;show(if a=c then lx r t else decide (a<c))=true;by_cases e1:a=b
 ·subst e1;rw[kJ rfl]at h;by_cases e2:a=c
  ·subst e2;rw[kJ rfl]at g ⊢;exact q07 r s t h g
  rw[kF e2]at g ⊢;exact g
 rw[kF e1,kQ]at h;by_cases e2:b=c
 ·subst e2;rw[kF e1];exact hG h
 rw[kF e2,kQ]at g;rw[kF (by lia)];exact hG (by lia)
theorem q40:∀a b:List Int,lx a b=false→lx b a=false→a=b
| [],[],_,_=>rfl
| [],_::_,h,_=>by cases h
|_::_,[],_,h=>by cases h
|a::r,b::s,h,g=>by
 have h:(if a=b then lx r s else decide (a<b))=false:=h;have g:(if b=a then lx s r else decide (b<a))=false:=g;by_cases e:a=b
 ·subst e;rw[kJ rfl]at h g;rw[q40 r s h g]
 rw[kF e,d8]at h;rw[kF (λz=>e z.symm),d8]at g;lia
theorem q9C{α:Type}{p q:α→Bool}:∀{l:List α} {x:α},(∀y∈l,p y=true→q y=true)→x∈l→q x=true→p x=false→l.countP p<l.countP q
|a::l,x,h,hx,h1,h2=>by
 have ml:l.countP p≤l.countP q:=c9 λy hy=>h y (hU _ hy);rw[pE,pE];rcases kI.mp hx with e|hx
 ·subst e;rw[h1,h2,kF kO,kJ rfl];lia
 have ih:=q9C (λy hy=>h y (hU _ hy)) hx h1 h2;have ha:=h a (kX ..);cases pa:p a with
 |false=>rw[kF kO];lia
 |true=>rw[ha pa];lia
noncomputable def rkOf(ks:List (List Int))(k:List Int):Int:=((ks.countP λy=>lx y k:Nat):Int)
theorem qAE{ks:List (List Int)}{k k':List Int}(h:k∈ks)(h':k'∈ks):rkOf ks k<rkOf ks k'↔lx k k'=true:=by(
constructor
·intro lt;cases e:lx k k' with
 |true=>rfl
 |false=>
  have:ks.countP (λy=>lx y k')≤ks.countP (λy=>lx y k):=c9 λy _ hy=>by
   cases g:lx k' k with
   |true=>exact q07 _ _ _ hy g
   |false=>rw[q40 k k' e g];exact hy
  unfold rkOf at lt;lia
intro e
have:=q9C (p:=λy=>lx y k) (q:=λy=>lx y k') (l:=ks) (x:=k) (λy _ hy=>q07 _ _ _ hy e) h e (q2W k)
unfold rkOf
lia)
section
variable{prog:Program}{w:World}{A:Around}{E:Value→Shared→Prop}{s:Shared}
theorem qG6{b:Bool}{x y:Int}{t u:Tok}{Q:Bool→Shared→Prop}(h:Q (decide (x<y)) s):wpAny (model prog w) A (oneLt' b (.int x t) (.int y u)) Q E s:=by(
cases b with
|true=>have z:=kat_lt_int (prog:=prog) (w:=w) (A:=A) (E:=E) (t:=t) (u:=u) h;rw[keyLt'_oneType]at z;exact z
|false=>refine kat_one _ _ ?_;exact lt_int h)
theorem q9D{b:Bool}{Q:Bool→Shared→Prop}:∀{ns ms:List Int} {us vs:List Value} (i:Nat),IntsAre us ns→IntsAre vs ms→ns.length=ms.length→Q (lx ns ms) s→KatLex prog w A b false Q (us.zip vs) i s
| [],[],_,_,i,.nil,.nil,_,h=>h
|n::ns,m::ms,_,_,i,.cons _ t hn,.cons _ u hm,hl,h=>by
 refine kat_cons (wpAny_eqBool_int ?_);have h:Q (if n=m then lx ns ms else decide (n<m)) s:=h;by_cases e:n=m
 ·rw[kJ e]at h;rw[show(n==m)=true by rw[rW];exact e];exact kat_yes (q9D (i+1) hn hm (by simpa using hl) h)
 rw[kF e]at h;rw[show(n==m)=false by rw[rA];exact e];exact kat_no (qG6 h)
| [],_::_,_,_,_,_,_,hl,_=>by simp at hl
|_::_,[],_,_,_,_,_,hl,_=>by simp at hl
noncomputable def IsTI(h:Heap)(v:Value)(k:List Int):Prop:=∃a us,v=.ref a∧h.IsTuple a us.toArray∧IntsAre us k
theorem IsTI.at{h h':Heap}{v:Value}{k:List Int}(x:IsTI h v k)(e:∀b o,h.get? b=some o→h'.get? b=some o):IsTI h' v k:=let⟨a,us,e1,⟨o,e2,r⟩,i⟩:=x
 ⟨a,us,e1,⟨o,e _ _ e2,r⟩,i⟩
theorem qBF{h:Heap}:∀{vs:List Value} {ks:List (List Int)},Paired (IsTI h) vs ks→(∀k∈ks,0<k.length)→∃fs,KatTups h vs fs∧fs.length=ks.length∧∀v∈fs,∃i t,v=.int i t
| [],[],.nil,_=>⟨[],trivial,rfl,λv hv=>by cases hv⟩
|v::vs,k::ks,.cons x t,hp=>by
 obtain⟨fs,r,hl,hi⟩:=qBF t λk hk=>hp k (hU _ hk);obtain⟨a,us,rfl,⟨o,ho,hc,n,hd⟩,iu⟩:=x;have h0:=hp k (kX ..);cases iu with
 |nil=>simp at h0
 |cons i t0 hr=>
  refine⟨.int i t0::fs,KatTups.cons ho hc hd (by simp) r,by simp[hl],λv hv=>?_⟩;rcases kI.mp hv with rfl|hv
  ·exact⟨i,t0,rfl⟩
  exact hi v hv
theorem qBG{vs:List Value}{ks:List (List Int)}{m:Nat}(h:Paired (IsTI s.heap) vs ks)(hw:∀k∈ks,k.length=m)(hm:0<m)(h2:2≤vs.length):RkAt prog w A vs (tuples' true) (λi=>rkOf ks (ks.getD i [])) s:=by(
have hl:=h.len
constructor
·intro Q E' q;obtain⟨fs,t,e,hi⟩:=qBF h λk hk=>by rw[hw k hk];exact hm
 exact kat_kind (T:=Value.type "int") t (by lia) (λv hv=>by obtain⟨i,t0,rfl⟩:=hi v hv;exact .now) rfl q
intro i j C hi hj c
have e1:vs[i]?=some (vs.getD i Value.none):=by rw[kC hi];simp[hi]
have e2:vs[j]?=some (vs.getD j Value.none):=by rw[kC hj];simp[hj]
obtain⟨k1,g1,a1,us1,q1,⟨o1,ho1,_,n1,d1⟩,i1⟩:=Paired.at h e1
obtain⟨k2,g2,a2,us2,q2,⟨o2,ho2,_,n2,d2⟩,i2⟩:=Paired.at h e2
have m1:k1∈ks:=gH g1
have m2:k2∈ks:=gH g2
have z1:ks.getD i []=k1:=by rw[kL,g1];rfl
have z2:ks.getD j []=k2:=by rw[kL,g2];rfl
have ll:k1.length=k2.length:=by rw[hw _ m1,hw _ m2]
have c:C (lx k1 k2) s:=by
 have y:decide (rkOf ks (ks.getD i [])<rkOf ks (ks.getD j []))=lx k1 k2:=by rw[z1,z2,wO,kQ];exact qAE m1 m2
 rw[←y];exact c
rw[q1,q2]
refine kat_lt ho1 d1 ho2 d2 ?_
have f:decide (us1.toArray.size<us2.toArray.size)=false:=by rw[mD,mD,i1.length,i2.length,ll];exact hX (dE _)
rw[f]
exact q9D 0 i1 i2 ll c)
end
section
variable{X:Cx}
noncomputable def TupI(K:PySem.W.Frag)(H:Hp)(v:V)(k:List Int):Prop:=∃a,v=.ref a∧SqT K H a (k.map V.int)
theorem q3L{pins:List (Addr×Obj)}{σ:St}{H:Hp}{s:Shared}(I:Inv X pins σ H s):∀{xs:List V} {us:List Value} {ks:List (List Int)},Vals xs us→Paired (TupI X.K H) xs ks→Paired (IsTI s.heap) us ks
| [],_,_,.nil,.nil=>.nil
|x::xs,u::us,_,.cons r t,.cons ⟨a,e,h⟩ y=>by subst e;obtain rfl:u=Value.ref a:=r;obtain⟨its,rv,p,_⟩:=I.tuple h;exact .cons ⟨a,its,rfl,p,q3J rv⟩ (q3L I t y)
theorem q41{xs:List V}{us:List Value}(r:Vals xs us):∀{q:List Nat},(∀i∈q,i<xs.length)→Vals (q.map λi=>xs.getD i .non) (q.map λi=>us.getD i Value.none)
| [],_=>.nil
|i::q,h=>by have hi:=h i (kX ..);have hl:=r.length;refine .cons ?_ (q41 r λj hj=>h j (hU _ hj));obtain⟨x,e,z⟩:=r.atN (j:=i) (by lia);show RelV (xs.getD i .non) (us.getD i Value.none);rw[kL,e,kL,kC (by lia)];exact z
theorem q85:q1A X (.builtin "sorted") (λxs H Q=>∃(p:Addr) (us:List V) (ks:List (List Int)) (m:Nat),xs=[.ref p]∧SqL X.K H p us∧Paired (TupI X.K H) us ks∧(∀k∈ks,k.length=m)∧0<m∧us.length<64∧∀q:List Nat,q.Perm (List.range us.length)→(q.map λi=>ks.getD i []).Pairwise (λa b=>lx b a=false)→NewO H (.lst (q.map λi=>us.getD i .non)) Q):=by(
intro pins s σ H xs us Q I r hZ
obtain⟨p,xs',ks,m,ex,hq,hk,hw,hm,h64,q⟩:=hZ
subst ex
obtain⟨u,rfl,rx⟩:=q05 r
cases rx
obtain⟨its,rv,pl,hz⟩:=I.list hq
have hlen:=rv.length
have hti:=q3L I rv hk
refine q84 (κ:=tuples' true) (r:=λi=>rkOf ks (ks.getD i [])) pl.isList (by lia) (λh2 h' k=>qBG (Paired.mapP hti λ_ _ z=>z.at k) hw hm h2) λa gp sr=>?_
have pp:a.toList.Perm (List.range its.length):=by have:=p8.mp gp;simpa using this
obtain⟨e,he⟩:=sortedAll_at s.heap its (q5V its a)
have hin:∀i∈a.toList,i<xs'.length:=λi hi=>by rw[hlen];exact mV.mp (pp.mem_iff.mp hi)
have kl:=hk.len
have pw:(a.toList.map λi=>ks.getD i []).Pairwise (λx y=>lx y x=false):=by
 rw[g4,cI];intro i j hi hj hij;rw[mZ,gp.size]at hi hj;have z:rkOf ks (ks.getD (a.getD i 0) [])≤rkOf ks (ks.getD (a.getD j 0) []):=sr i j (by lia) hj;have gi:a.getD i 0=a.toList[i]'(by rw[mZ,gp.size];exact hi):=by simp[Array.getD,gp.size,hi]
 have gj:a.getD j 0=a.toList[j]'(by rw[mZ,gp.size];exact hj):=by simp[Array.getD,gp.size,hj]
 rw[gi,gj]at z;have mem:∀x,x<ks.length→ks.getD x []∈ks:=λx hx=>by rw[kL,kC hx];exact gJ hx
 cases g:lx (ks.getD (a.toList[j]'(by rw[mZ,gp.size];exact hj)) []) (ks.getD (a.toList[i]'(by rw[mZ,gp.size];exact hi)) [])with
 |false=>rfl
 |true=>have lt:=(qAE (mem _ (by rw[←kl];exact hin _ (gJ _))) (mem _ (by rw[←kl];exact hin _ (gJ _)))).mpr g;lia
refine⟨.ref (s.heap.objs.size+1),_,I.laid (t':=s.toks) (λ_ _ h=>sortedAll_old h) (dD _) (show jH X.prog X.w _ _ _ (.lst _)from⟨?_,(q5V its a).toList,e,?_,he⟩),rfl,(q a.toList (by rw[hlen];exact pp) pw).at _ (I.hok.fresh (dD _))⟩
·rw[kB,pp.length_eq,gC,gG];lia
exact q41 rv hin)
end
section
variable{X:Cx}{pins:List (Addr×Obj)}{σ:St}{H:Hp}{s:Shared}
theorem Inv.adopt{D:Addr}{o:HO}(I:Inv X pins σ H s)(f:FpOk X pins H D)(hD:X.s₀.heap.objs.size≤D)(ok:jH X.prog X.w (upd H D o) s.heap D o):Inv X pins σ (upd H D o) s:=by(
have low:∀b ob,X.s₀.heap.get? b=some ob→b≠D:=λb ob e=>mP (mW (kP e) hD)
have trk:∀b u,H b=some u→b≠D:=λb u e=>qH e f.1
refine⟨I.ok,I.os,I.bare,⟨I.base.keep,I.base.slot,λb ob e n x=>?_,I.base.there,λb xs e=>?_,λb ob u e=>?_,λb ps e=>?_⟩,I.loc,I.cell,?_,λx c e=>?_,λp hp=>?_,λb u e=>?_,I.len⟩
·rw[qC (low b ob e)];exact I.base.free b ob e n x
·have z:=I.base.tups b xs e;rw[qC (trk _ _ z)];exact z
·have z:=I.base.frzs b ob u e;rw[qC (trk _ _ z)];exact z
·obtain⟨m,z⟩:=I.base.tbls b ps e;exact⟨m,by rw[qC (trk _ _ z)];exact z⟩
·rw[qC (λz=>f.2.1 z.symm)];exact I.free
·rw[qC (f.2.2.2.2.1 x c e)];exact I.freeC x c e
·obtain⟨a1,a2,a3⟩:=I.pin p hp;exact⟨a1,by rw[qC (f.2.2.2.2.2 p hp)];exact a2,a3⟩
by_cases hb:b=D
·subst hb;rw[qG]at e;cases e;exact ok
rw[qC hb]at e
exact(I.hok b u e).stay (λ_ _ _ q=>q) (λc q=>by rw[qC (trk _ _ q)];exact q) λc xs q=>by rw[qC (trk _ _ q)];exact q)
theorem Inv.near(I:Inv X pins σ H s){A':Around}(h1:A'.handled=X.A.handled)(h2:A'.frames=X.A.frames)(xe:Value→Shared→Prop):Inv { X with A:=A',xe:=xe } pins σ H s:=⟨{ mod:=I.ok.mod,kind:=I.ok.kind,glob:=I.ok.glob,blt:=I.ok.blt,above:=I.ok.above,inj:=I.ok.inj,has:=I.ok.has,cab:=I.ok.cab,hd:=λc=>h1.trans (I.ok.hd c),frames:=h2.trans I.ok.frames,stk:=I.ok.stk,exf:=I.ok.exf,bs:=I.ok.bs,bsz:=I.ok.bsz,noex:=I.ok.noex,exfs:=I.ok.exfs,funs:=I.ok.funs,frf:=I.ok.frf },I.os,I.bare,I.base,I.loc,I.cell,I.free,I.freeC,I.pin,I.hok,I.len⟩
theorem q9E{P:PySem.Fin→Shared→Prop}{EE:Value→Shared→Prop}{A:Around}{a kS:Addr}{st:SortSt}{e1 e:Nat}{ks:List Value}{out:List Value}{us:List V}(I:Inv X pins σ H s)(fa:FpOk X pins H a)(fk:FpOk X pins H kS)(ha:X.s₀.heap.objs.size≤a)(ne:kS≠a)
 (ga:s.heap.get? a=some (seqObj "list" #[] e1)) (gk:s.heap.get? kS=some (seqObj "list" ks.toArray e)) (hk:ks.length<64) (hout:(arrOf st).map (·.2)=out.toArray) (ho:out.length<64) (hf:failedOf st=none) (rv:Vals us out)
 (h:∀s',Inv X pins σ (upd H a (.lst us)) s'→P (.done (.ret .none)) s'):wpAny (model X.prog X.w) A (ksk_tail a false e1 (.ref kS) st) P EE s:=by(
unfold ksk_tail
try dsimp only
rw[hout]
refine hV (wU gk rfl ?_ (by rw[mD,gG];lia) (mU _))
refine hV (wG ?_)
have ga':(s.heap.update kS (Obj.mapSeq λ_=>(#[]:Array Value))).get? a=some (seqObj "list" #[] e1):=(kW _ _ ne).trans ga
refine hV (sF ga' rfl ?_)
refine hV (wU ga' rfl ?_ (mU _) (by rw[kF kO,mD,gG];lia))
rw[hf]
simp only[bne_self_eq_false,cS,if_false]
refine kY (h _ ?_)
obtain⟨c2,g2⟩:∃c2,((s.heap.update kS (Obj.mapSeq λ_=>(#[]:Array Value))).update a (Obj.mapSeq λ_=>out.toArray)).get? a=some (seqObj "list" out.toArray c2):=⟨_,wQ ga' λ_=>out.toArray⟩
have I2:Inv X pins σ H { s with heap:=(s.heap.update kS (Obj.mapSeq λ_=>(#[]:Array Value))).update a (Obj.mapSeq λ_=>out.toArray),toks:=s.toks }:=I.turnedN (fp:=[kS,a]) (λb o hb eb=>by
  simp only[kI,gE,rK,not_or]at hb;exact(kW _ _ (r6 hb.2)).trans ((kW _ _ (r6 hb.1)).trans eb)) (λb hb=>by
  simp only[kI,gE,rK]at hb;rcases hb with rfl|rfl
  ·exact fk
  exact fa)
exact I2.adopt fa ha (show jH X.prog X.w _ _ _ (.lst us)from⟨by rw[rv.length,gG];lia,out,c2,rv,g2⟩))
theorem qG7{P:PySem.Fin→Shared→Prop}{EE:Value→Shared→Prop}{A:Around}{a kS:Addr}{e1 e:Nat}{ks vs:List Value}{us zs:List V}{kk:List (List Int)}{m:Nat}(I:Inv X pins σ H s)(fa:FpOk X pins H a)(fk:FpOk X pins H kS)(ha:X.s₀.heap.objs.size≤a)(ne:kS≠a)
 (ga:s.heap.get? a=some (seqObj "list" #[] e1)) (gk:s.heap.get? kS=some (seqObj "list" ks.toArray e)) (rz:Vals zs ks) (rv:Vals us vs) (hl:zs.length=us.length) (h64:us.length<64) (hti:Paired (TupI X.K H) zs kk) (hw:∀k∈kk,k.length=m) (hm:0<m)
 (h:∀q:List Nat,q.Perm (List.range us.length)→(q.map λi=>kk.getD i []).Pairwise (λa b=>lx b a=false)→∀s',Inv X pins σ (upd H a (.lst (q.map λi=>us.getD i .non))) s'→P (.done (.ret .none)) s'):
 wpAny (model X.prog X.w) A (ksk_end a false vs.toArray e1 (.ref kS) ks.toArray) P EE s:=by(
have l1:=rz.length
have l2:=rv.length
have l3:=hti.len
have hlk:ks.length=vs.length:=by lia
unfold ksk_end
try dsimp only
rw[kF kO]
by_cases h2:vs.toArray.size<2
·rw[kJ h2,kJ h2];refine hV (kY ?_);rw[aD];refine hV (kY ?_);try dsimp only
 have hn2:vs.length<2:=by rw[mD]at h2;exact h2
 refine q9E (out:=vs) (us:=us) I fa fk ha ne ga gk (by lia) ?_ (by lia) rfl rv λs' I'=>?_
 ·rw[kF kO];show(ks.toArray.zip vs.toArray).map (·.2)=vs.toArray;apply sO.mp;rw[sP,Array.toList_zip];show(ks.zip vs).map Prod.snd=vs;exact List.map_snd_zip (by lia)
 have e:(List.range us.length).map (λi=>us.getD i .non)=us:=by refine wE (by simp) λi h1 h3=>?_;rw[sS,p9,kL,kC h3];rfl
 have z:=h (List.range us.length) (List.Perm.refl _) (by rw[g4,cI];intro i j hi hj hij;rw[gC]at hi hj;lia);rw[e]at z;exact z s' I'
rw[kF h2,kF h2]
have h2':2≤ks.length:=by rw[mD]at h2;lia
have K:=qBG (prog:=X.prog) (w:=X.w) (A:=A) (s:=s) (q3L I rz hti) hw hm h2'
refine hV (K.kind _ _ ?_)
rw[kF kO]
refine hV (g8 (kat_run (κ:=tuples' true) (G:=λp s'=>s'=s∧Gp vs.length p∧Srt (λi=>rkOf kk (kk.getD i [])) p vs.length) (Q:=λst' s'=>∃p:Array Nat,arrOf st'=p.map (kas_item (ks.toArray.zip vs.toArray))∧failedOf st'=none∧s'=s∧Gp vs.length p∧Srt (λi=>rkOf kk (kk.getD i [])) p vs.length) hlk (by lia) (by lia) (λp' st' s' _ a2 a3 a4=>⟨p',a2,a3,a4⟩) ?_) ?_ λ_ _ x=>x)
·refine qE3 (c:=rc λi=>rkOf kk (kk.getD i [])) (n:=vs.length) (λi j C hi hj c=>K.lt i j C (by lia) (by lia) c) _ (yN (λp q=>⟨rfl,q⟩) _ (qBE (by lia)))
rintro⟨⟨⟩,st'⟩ s' ⟨p,har,hf,rfl,gp,sr⟩
try dsimp only
have pp:p.toList.Perm (List.range vs.length):=by have:=p8.mp gp;simpa using this
have hin:∀i∈p.toList,i<us.length:=λi hi=>by rw[l2];exact mV.mp (pp.mem_iff.mp hi)
have pw:(p.toList.map λi=>kk.getD i []).Pairwise (λx y=>lx y x=false):=by
 rw[g4,cI];intro i j hi hj hij;rw[mZ,gp.size]at hi hj;have z:rkOf kk (kk.getD (p.getD i 0) [])≤rkOf kk (kk.getD (p.getD j 0) []):=sr i j (by lia) hj;have gi:p.getD i 0=p.toList[i]'(by rw[mZ,gp.size];exact hi):=by simp[Array.getD,gp.size,hi]
 have gj:p.getD j 0=p.toList[j]'(by rw[mZ,gp.size];exact hj):=by simp[Array.getD,gp.size,hj]
 rw[gi,gj]at z;have mem:∀x,x<kk.length→kk.getD x []∈kk:=λx hx=>by rw[kL,kC hx];exact gJ hx
 cases g:lx (kk.getD (p.toList[j]'(by rw[mZ,gp.size];exact hj)) []) (kk.getD (p.toList[i]'(by rw[mZ,gp.size];exact hi)) [])with
 |false=>rfl
 |true=>have b1:=hin _ (gJ (show j<p.toList.length by rw[mZ,gp.size];exact hj));have b2:=hin _ (gJ (show i<p.toList.length by rw[mZ,gp.size];exact hi));have lt:=(qAE (mem _ (by lia)) (mem _ (by lia))).mpr g;lia
exact q9E (out:=p.toList.map λi=>vs.getD i Value.none) (us:=p.toList.map λi=>us.getD i .non) I fa fk ha ne ga gk (by lia) (kat_snds hlk har) (by rw[kB,pp.length_eq,gC];lia) hf (q41 rv hin) λs' I'=>h p.toList (by rw[l2];exact pp) pw s' I')
end
theorem q9F:∀a b:List Int,HT.lexLt a b=lx a b
| [],[]=>rfl
| [],_::_=>rfl
|_::_,[]=>rfl
|x::xs,y::ys=>by show(if x=y then HT.lexLt xs ys else decide (x<y))=(if x=y then lx xs ys else decide (x<y));rw[q9F xs ys]
end L2
namespace L2
open PySem PySem.Spec PyProof.Rows
theorem qG8{X:Cx}{K:PySem.W.Frag}{es:List Expr}{k:Nat}{t:TGs}{n:Nat}{pos:Pos}(e:X.K=K)(hc:X.calm=true)(h:PGs X es t)(hn:(assignEach es X.env).length=n)(hst:(assignEach es X.env).findIdx? (·.1)=none):PG X (.Tuple es k pos) (gTup K n t):=by subst e;exact q7U hc h hn hst
noncomputable def q4E(v a:Addr):HO:=.ext λh=>h.IsItemsView v a
theorem qE6{P:Program}{w:World}{H:Hp}{h:Heap}{v a:Addr}(e:h.IsItemsView v a):jH P w H h v (q4E v a):=by obtain⟨o,e1,e2,e3⟩:=id e;exact⟨e,⟨_,e1⟩,λ_ _ ⟨o,a1,a2⟩ k=>⟨o,k _ a1,a2⟩⟩
theorem qE7{P:Program}{w:World}{H:Hp}{h:Heap}{v a:Addr}(ok:HOk P w H h)(e:H v=some (q4E v a)):h.IsItemsView v a:=(ok v _ e).1
noncomputable def qJ1:V→List V→Hp→VK→Prop:=λx vs H Q=>∃a kvs,x=.ref a∧vs=[]∧H a=some (.dK kvs)∧∀v,H v=none→Q (.ref v) (upd H v (q4E v a))
theorem qE8{X:Cx}:MtR X "dict.items" qJ1:=by(
intro pins s σ H x vs v us Q I rx rv hZ
obtain⟨a,kvs,ex,ev,ha,q⟩:=hZ
subst ex ev
cases rx
have hus:=rv.zero
subst hus
obtain⟨z,lo,ws,rel,dd⟩:=q5J I.hok ha
refine xE sT dd.typeIs PySem.F.entry_dict_items (PySem.F.args_dict_items_1 _) (meets_dict_items (jP X.prog X.w) a lo) ⟨⟨ws,dd⟩,?_⟩
exact⟨.ref s.heap.objs.size,_,I.laid (t':=s.toks) (λb o e=>kE _ e) (kN _) (qE6 ⟨_,mJ _ rfl,rfl,rfl⟩),rfl,q _ (I.hok.fresh (kN _))⟩)
theorem q5W:entryFor table "dict_itemiterator.__iter__"=some Builtin.«dict_keyiterator.__iter__»:=entryFor_alias (id':="dict_keyiterator.__iter__") (by kernel_rfl) (by first|decide+kernel|rfl|(unfold String.splitOn;simp+decide [String.splitOnAux])) (by decide+kernel) (by kernel_rfl)
noncomputable def Iti(a:Addr)(o:Obj)(kvs:List (Key×V)):It:=⟨λi H=>H a=some (.frz o (.dK kvs))∧i<kvs.length,λi H v H'=>∃T kv,v=.ref T∧H T=none∧H'=upd H T (.tup [kV kv.1,kv.2])∧kvs[i]?=some kv,λi H=>H a=some (.frz o (.dK kvs))∧kvs.length≤i⟩
theorem qAF{P:Program}{w:World}{K:PySem.W.Frag}{elts:List Expr}{x1}{pos:Pos}(a it:Addr)(o:Obj){kvs:List (Key×V)}{vs:List (Key×Value)}{ep:Nat}(rel:KV kvs vs)(hD:∀h:Heap,h.get? a=some o→h.DictAt (jP P w) a vs ep):
 Turn P w K (.Tuple elts x1 pos) (Iti a o kvs) [it] it (λi h=>∃k0 v0,IsItemIter h it a i vs.length ep k0 v0) where
mem:=by simp
obj:=λi h st b hb=>by
 have e:b=it:=by simpa using hb
 subst e;obtain⟨k0,v0,e⟩:=st;exact⟨_,e,λv z=>by cases z⟩
keep:=λi h h' st k=>let⟨k0,v0,e⟩:=st;⟨k0,v0,k it (by simp) _ e⟩
item:=by
 intro X hP hw hK hc i pins s σ H E I hf st hg;subst hP hw hK;obtain⟨ha,hi⟩:=hg;obtain⟨ho,_⟩:=I.hok a _ ha;have hl:=rel.length;have hi':i<vs.length:=by lia
 obtain⟨k0,v0,st⟩:=st;obtain⟨f0,f1,f2,f3,f4,f5⟩:=hf it (by simp);refine wpAny_pyNext_items_item (k:=vs[i].1) (v:=vs[i].2) st (hD _ ho) (kC hi') λkey h' hk b1 b5 b6 b7=>?_;refine⟨_,rfl,wpAny_letOwnedTupleGo_items (s:={ s with heap:=h' }) b1 λh'' c1 c2=>?_⟩;have kk:∀b o,b∉[it]→s.heap.get? b=some o→h''.get? b=some o:=λb o hb e=>by have nb:b≠it:=λz=>hb (h9.mpr z);exact c2.extBut _ _ nb (b7 b o nb e)
 have I1:Inv X pins σ H { s with heap:=h'' }:=I.turnedN (t':=s.toks) kk hf;have fr:H s.heap.objs.size=none:=I.hok.fresh (kN _);have yg:=I.young (a:=s.heap.objs.size) (cC (kN _));have nit:s.heap.objs.size≠it:=dG (kP st);have ek:=gZ (λl=>l[i]?) rel.keys;simp only[mB,kC hi,kC hi',x9]at ek;have rk:RelV (kV kvs[i].1) key:=by rw[kM ek];exact qE0 hk
 have rv:RelV kvs[i].2 vs[i].2:=by obtain⟨q,hq,z1,z2⟩:=Paired.at rel (kC hi);rw[kC hi']at hq;rw[kM hq];exact z2
 have I2:=I1.trackG (o:=.tup [kV kvs[i].1,kvs[i].2]) fr yg (dG I.lt) (λx' c' w q'=>by obtain⟨v,o',ho,_⟩:=I.cell x' c' w;exact absurd (kP ho) (by rw[q'];exact dE _)) ⟨by rw[gG,mG,mG,rT];lia,[key,vs[i].2],.cons rk (.cons rv .nil),⟨_,c2.extBut _ _ nit b5,rfl,_,rfl⟩⟩;refine⟨.ref s.heap.objs.size,_,I2,rfl,⟨_,kvs[i],rfl,fr,rfl,kC hi⟩,⟨_,_,c1⟩,λb hb=>?_⟩;have e:b=it:=by simpa using hb
 subst e;rw[qC (r6 nit)];exact(hf b hb).1
done:=by intro X hP hw hK hc i pins s σ H E I hf st hg;subst hP hw hK;obtain⟨ha,hi⟩:=hg;obtain⟨ho,_⟩:=I.hok a _ ha;have hl:=rel.length;obtain⟨k0,v0,st⟩:=st;obtain⟨f0,f1,f2,f3,f4,f5⟩:=hf it (by simp);exact wpAny_pyNext_items_end (I.ok.hd hc) st (hD _ ho) (rM (by lia)) λh' eb=>⟨rfl,I.turned (t':=s.toks) (λb o hb e=>eb b o hb e) f0 f1 f3 f4 f5⟩
self:=λA i s Q E ⟨k0,v0,st⟩ h=>by have ty:s.TypeIs (.ref it) "dict_itemiterator":=⟨_,st,rfl⟩;refine wpAny_pyIter_slot ty cM (sR cM ty q5W ?_ (PySem.F.args_dict_itemiterator_iter_1 _));show wpAny _ _ (ret (.ref it)) _ _ s;exact kY ⟨_,rfl,"dict_itemiterator",_,ty,PySem.F.slot_dict_itemiterator_next.lookup,h⟩
section
variable{X:Cx}
noncomputable def iItm(td:TE):TI:=λσ H R=>td σ H λx H1=>∃v a kvs,x=.ref v∧H1 v=some (q4E v a)∧H1 a=some (.dK kvs)∧∀o,R (Iti a o kvs) (upd H1 a (.frz o (.dK kvs)))
theorem qJ2{elts:List Expr}{x1}{pos:Pos}{d:Expr}{td:TE}(hd:PE X d td):PI X (.Tuple elts x1 pos) d (iItm td):=by(
intro pins s σ H R I h
refine thn (hd pins s σ H _ I h) λv s1 hZ=>?_
obtain⟨x,H1,I1,r1,q1⟩:=hZ
obtain⟨vw,a,kvs,e,hv,ha,q⟩:=q1
subst e
cases r1
obtain⟨z,lo,vs,rel,dd⟩:=q5J I1.hok ha
obtain⟨ep,hat⟩:=dd.dictAt
obtain⟨o,es,ho,hr⟩:=id hat
have I2:=I1.freeze ha ho
refine wpAny_pyIter_items (qE7 I1.hok hv) hat ?_
refine⟨s1.heap.objs.size,[s1.heap.objs.size],_,_,_,rfl,I2.kept (t':=s1.toks) λb o e=>kE _ e,qAF a _ o rel (λh' h=>⟨o,es,h,hr⟩),⟨_,_,mJ _ rfl⟩,λb hb=>?_,q o⟩
have e:b=s1.heap.objs.size:=by simpa using hb
subst e
exact I2.fpOk (kN _) (I2.hok.fresh (kN _)))
end
theorem qG9{a:Addr}{o:Obj}{kvs:List (Key×V)}{D:Addr}{H2:Hp}{g:TG}{tc:TT}{te:TE}{σ0:St}{R:Hp→Prop}(Pv:Nat→Hp→Prop)(h0:Pv 0 H2)(hl:∀i H,Pv i H→H a=some (.frz o (.dK kvs)))
 (hs:∀(i:Nat) kv T H,kvs[i]?=some kv→Pv i H→H T=none→g (.ref T) σ0 (upd H T (.tup [kV kv.1,kv.2])) λσ5 H5=>tc σ5 H5 λb H6=>if b=true then te σ5 H6 (λv H7=>∃vs,H7 D=some (.lst vs)∧vs.length<sizeLine∧Pv (i+1) (upd H7 D (.lst (vs++[v]))))else Pv (i+1) H6) (hd:∀H,Pv kvs.length H→R H):
 ∃W:Nat→Nat→Hp→Prop,(∃m,W 0 m H2)∧∀i m H3,W i m H3→((Iti a o kvs).stop i H3∧R H3)∨((Iti a o kvs).go i H3∧∃N:Hp→Prop,(∀H',N H'→∃m',m'<m∧W (i+1) m' H')∧∀x H4,(Iti a o kvs).yld i H3 x H4→g x σ0 H4 λσ5 H5=>tc σ5 H5 λb H6=>
   if b=true then te σ5 H6 (λv H7=>∃vs,H7 D=some (.lst vs)∧vs.length<sizeLine∧N (upd H7 D (.lst (vs++[v]))))else N H6):=by(
refine⟨λi m H=>m=kvs.length-i∧i≤kvs.length∧Pv i H,⟨kvs.length,by simp,mU _,h0⟩,?_⟩
rintro i m H ⟨rfl,hi,p⟩
have q:=hl i H p
by_cases hlt:i<kvs.length
·refine .inr ⟨⟨q,hlt⟩,Pv (i+1),λH' z=>⟨kvs.length-(i+1),by lia,rfl,by lia,z⟩,?_⟩;rintro v H' ⟨T,kv,rfl,nT,rfl,hk⟩
 exact hs i kv T _ hk p nT
obtain rfl:i=kvs.length:=by lia
exact .inl ⟨⟨q,kN _⟩,hd _ p⟩)
end L2
namespace L2
open PySem PySem.W PySem.Spec PyProof.Rows
section
variable{X:Cx}{pins:List (Addr×Obj)}{σ:St}
noncomputable def TupD(H:Hp)(v:V)(k:List Int):Prop:=∃a,v=.ref a∧H a=some (.tup (k.map V.int))
theorem TupD.i{K:PySem.W.Frag}{H:Hp}{v:V}{k:List Int}(h:TupD H v k):TupI K H v k:=let⟨a,e,z⟩:=h;⟨a,e,SqT.of z⟩
theorem TupD.same{H H':Hp}{v:V}{k:List Int}(h:TupD H v k)(s:Same H H'):TupD H' v k:=let⟨a,e,z⟩:=h;⟨a,e,s _ _ z⟩
theorem TupD.upd{H:Hp}{v:V}{k:List Int}{D:Addr}{u o:HO}(h:TupD H v k)(hd:H D=some u)(n:∀ys,u≠ .tup ys):TupD (L2.upd H D o) v k:=let⟨a,e,z⟩:=h;⟨a,e,by rw[qC (jS z hd (λq=>n _ q.symm))];exact z⟩
noncomputable def dI(ks:List (Int×Int)):List (Key×V):=ks.map λp=>((.inl p.1:Key),V.int p.2)
theorem q86:∀{ks:List (Int×Int)} {n m:Int},(ks.map (·.1)).Nodup→(n,m)∈ks→valV (dI ks) (.inl n:Key)=some (.int m)
|p::ks,n,m,nd,h=>by
 obtain⟨n1,n2⟩:=gA.mp nd;show valV (((.inl p.1:Key),V.int p.2)::dI ks) (.inl n)=_;rcases kI.mp h with rfl|h
 ·exact q06 rfl
 have ne:p.1≠n:=λe=>n1 (by show p.1∈_;rw[e];exact pR (f:=λx:Int×Int=>x.1) h);rw[vS (λe=>ne (cB e))];exact q86 n2 h
theorem q5X:∀{ks:List (Int×Int)} {n:Int},n∉ks.map (·.1)→valV (dI ks) (.inl n:Key)=none
| [],n,_=>rfl
|p::ks,n,h=>by
 show valV (((.inl p.1:Key),V.int p.2)::dI ks) (.inl n)=_;have h':n≠p.1∧n∉ks.map (·.1):=by simpa using h
 rw[vS (λe=>h'.1 (cB e).symm)];exact q5X h'.2
end
section
variable{X:Cx}
theorem q6Q(hc:X.calm=true):q1A X (.builtin "sorted") (λxs H Q=>∃(a:Addr) (kvs:List (Key×V)) (ks:List Int),xs=[.ref a]∧H a=some (.dK kvs)∧kvs.map (·.1)=ks.map Sum.inl∧ks.length<64∧∀ns':List Int,ns'.Perm ks→ns'.Pairwise (·≤·)→NewO H (.lst (ns'.map V.int)) Q):=by(
intro pins s σ H xs us Q I r hZ
obtain⟨a,kvs,ks,ex,ha,ek,h64,q⟩:=hZ
subst ex
obtain⟨u,rfl,rx⟩:=q05 r
cases rx
obtain⟨z,lo,ws,rel,dd⟩:=q5J I.hok ha
obtain⟨ep,hat⟩:=dd.dictAt
have hwl:ks.length=ws.length:=by rw[←rel.length];have:=gZ List.length ek;rw[kB,kB]at this;exact this.symm
refine sD xW xL xM (args_sorted1 _) ?_
unfold Builtin.«sorted»
refine hV (m:=checkCount "sorted" 1 1 _) (kY ?_)
refine hV (kdu_collect (A:=X.A.in1) (kdl_dict (knd:=jP X.prog X.w) (kvs:=ws) (ep:=ep) lo) (I.ok.hd hc) hat (by rw[gG];lia) λh' tk acc hk hacc=>?_)
have I1:Inv X pins σ H { s with heap:=h',toks:=tk }:=I.kept (t':=tk) hk
have hal:acc.toList.length=ks.length:=by rw[mZ,hacc.1,hwl]
have rv:Vals (ks.map V.int) acc.toList:=q3Y (by rw[kB,hal]) λj x v hx hv=>by
 rw[Array.getElem?_toList]at hv;obtain⟨k,y,hw,hi⟩:=hacc.2 j v hv;have hj:j<ks.length:=by have:=(kD.mp hw).1;lia
 rw[mB,kC hj]at hx;obtain rfl:V.int ks[j]=x:=kM hx;have hj2:j<kvs.length:=by rw[rel.length,←hwl];exact hj
 have hd:kvs[j]?=some kvs[j]:=kC hj2;have hk:kvs[j].1=(.inl ks[j]:Key):=by have:=gZ (λl=>l[j]?) ek;rw[mB,mB,hd,kC hj]at this;exact kM this
 obtain⟨q',hq',e1,e2⟩:=Paired.at rel hd;rw[hw]at hq';obtain rfl:=kM hq';have e1:(.inl ks[j]:Key)=k:=hk.symm.trans e1;have:=qE0 (k:=k) hi;rw[←e1]at this;exact this
have hi:=q3J rv
refine hV (wV ?_ (by rw[hal,gG];lia))
have g:(h'.push (seqObj "list" acc.toList.toArray 0)).get? h'.objs.size=some (seqObj "list" acc.toList.toArray 0):=mJ _ rfl
show wpAny _ _ _ _ _ { s with heap:=h'.push (seqObj "list" acc.toList.toArray 0),toks:=tk }
refine hV (gL (sR lF ⟨_,g,rfl⟩ nN (list_sort_tree g hi (by rw[hal];exact h64) λout ns' a1 a2 a3=>⟨_,rfl,?_⟩) (args_list_sort _)))
refine kY ⟨_,rfl,?_⟩
have old:∀b o,h'.get? b=some o→(sortedHeap (h'.push (seqObj "list" acc.toList.toArray 0)) h'.objs.size acc.toList out).get? b=some o:=λb o e=>by rw[sortedHeap_old (mP (kP e)) (by rw[nI];exact dJ (kP e))];exact kE _ e
obtain⟨e,he⟩:=sortedHeap_at (vs:=acc.toList) (out:=out) g
have hz':(ns'.map V.int).length≤sizeLine:=by rw[kB,a2.length_eq,gG];lia
exact⟨.ref h'.objs.size,_,I1.laid (t':=tk) (λb o e=>old b o e) (kN _) (show jH X.prog X.w _ _ _ (.lst _)from⟨hz',out.toList,e,q0O a1,by simpa[seqObj]using he⟩),rfl,(q ns' a2 a3).at _ (I1.hok.fresh (kN _))⟩)
end
end L2
namespace W1
theorem jG{α:Type}(l:List α)(i j:Nat)(x d:α):(l.set i x).getD j d=if i=j∧i<l.length then x else l.getD j d:=by(
rw[kL,List.getElem?_set,kL]
by_cases h:i=j
·subst h;rw[kJ rfl];by_cases h2:i<l.length
 ·rw[kJ h2,kJ ⟨rfl,h2⟩];rfl
 rw[kF h2,kF (λz=>h2 z.2),rM (by lia)]
rw[kF h,kF (λz=>h z.1)])
theorem yC{P b j:Nat}(h:j<P):(b*P+j) / P=b:=by rw[wL,Nat.mul_add_div (by lia),Nat.div_eq_of_lt h,Nat.add_zero]
theorem q2C{α:Type}[DecidableEq α]:∀{l m:List α},l.Nodup→m.Nodup→(∀x,x∈l↔x∈m)→l.Perm m
| [],m,_,_,h=>by
 cases m with
 |nil=>exact .nil
 |cons a m=>exact absurd ((h a).mpr kX) (by simp)
|a::l,m,h1,h2,h=>by
 have ha:=(h a).mp kX;obtain⟨n1,n2⟩:=gA.mp h1;refine List.Perm.trans (List.Perm.cons a (q2C n2 (h2.erase a) λx=>?_)) (List.perm_cons_erase ha).symm;rw[List.Nodup.mem_erase_iff h2];constructor
 ·intro hx;exact⟨λe=>n1 (e▸hx),(h x).mp (hU _ hx)⟩
 rintro⟨ne,hx⟩
 exact(kI.mp ((h x).mpr hx)).resolve_left ne
theorem qHJ{α:Type}[DecidableEq α]:∀{l m:List α},l.Nodup→(∀x∈l,x∈m)→l.length≤m.length
| [],_,_,_=>mU _
|a::l,m,h1,h=>by obtain⟨n1,n2⟩:=gA.mp h1;have ha:=h a kX;have:=qHJ (m:=m.erase a) n2 λx hx=>(List.mem_erase_of_ne (show x≠a from λe=>n1 (e▸hx))).mpr (h x (hU _ hx));rw[List.length_erase_of_mem ha]at this;have h0:=nJ ha;rw[mG];lia
noncomputable abbrev Mp:=List (Int×Int)
noncomputable def jB(W:Mp)(n:Int):Mp:=W.filter λq=>decide (q.1≠n)
noncomputable def putW(W:Mp)(n p:Int):Mp:=if(W.any λq=>decide (q.1=n))=true then W.map (λq=>if q.1=n then(q.1,p)else q)else W++[(n,p)]
theorem jC{W:Mp}{n:Int}{q:Int×Int}:q∈jB W n↔q∈W∧q.1≠n:=by unfold jB;rw[mK,kQ]
theorem qHK{W:Mp}(h:(W.map (·.1)).Nodup):W.Nodup:=(g4.mp h).imp λz e=>z (gZ Prod.fst e)
theorem qJ3{W:Mp}(h:(W.map (·.1)).Nodup){q r:Int×Int}(hq:q∈W)(hr:r∈W)(e:q.1=r.1):q=r:=by(
induction W with
|nil=>cases hq
|cons a W ih=>
 obtain⟨n1,n2⟩:=gA.mp h;rcases kI.mp hq with e1|h1
 ·rcases kI.mp hr with e2|h2
  ·rw[e1,e2]
  exact absurd (by show a.1∈_;rw[←e1,e];exact pR (f:=λx:Int×Int=>x.1) h2) n1
 rcases kI.mp hr with e2|h2
 ·exact absurd (by show a.1∈_;rw[←e2,←e];exact pR (f:=λx:Int×Int=>x.1) h1) n1
 exact ih n2 h1 h2)
theorem q5Y{W:Mp}{n:Int}(h:(W.map (·.1)).Nodup):((jB W n).map (·.1)).Nodup:=(h.sublist ((cJ ..).map _))
theorem qE9{W:Mp}{n p:Int}(h:(W.map (·.1)).Nodup){q:Int×Int}:q∈putW W n p↔q=(n,p)∨q∈jB W n:=by(
unfold putW
by_cases e:(W.any λq=>decide (q.1=n))=true
·rw[kJ e,kZ];obtain⟨r,hr,er⟩:=cH.mp e;have er:r.1=n:=mM er;constructor
 ·rintro⟨x,hx,rfl⟩
  by_cases ex:x.1=n
  ·rw[kJ ex];exact .inl (by rw[ex])
  rw[kF ex];exact .inr (jC.mpr ⟨hx,ex⟩)
 rintro(rfl|h2)
 ·exact⟨r,hr,by rw[kJ er,er]⟩
 obtain⟨a,b⟩:=jC.mp h2;exact⟨q,a,kF b⟩
rw[kF e,gF,h9]
have no:∀x∈W,x.1≠n:=λx hx z=>e (cH.mpr ⟨x,hx,hG z⟩)
constructor
·rintro(h1|h1)
 ·exact .inr (jC.mpr ⟨h1,no _ h1⟩)
 exact .inl h1
rintro(h1|h1)
·exact .inr h1
exact .inl (jC.mp h1).1)
theorem qCJ{W:Mp}{n p:Int}(h:(W.map (·.1)).Nodup):((putW W n p).map (·.1)).Nodup:=by(
unfold putW
by_cases e:(W.any λq=>decide (q.1=n))=true
·rw[kJ e,wM];have:(λx:Int×Int=>x.1) ∘ (λq:Int×Int=>if q.1=n then(q.1,p)else q)=λx=>x.1:=by funext x;show(if x.1=n then(x.1,p)else x).1=x.1;split<;>rfl
 rw[this];exact h
rw[kF e,m8]
refine wY.mpr ⟨h,by simp,λa ha b hb z=>e ?_⟩
obtain⟨x,hx,rfl⟩:=kZ.mp ha
have hb:b=n:=by simpa using hb
exact cH.mpr ⟨x,hx,hG (by rw[z,hb])⟩)
noncomputable def cntB(P:Nat)(W:Mp)(b:Nat):Nat:=W.countP λq=>decide (q.2 / (P:Int)=(b:Int))
theorem qEA{P:Nat}{W:Mp}{n p:Int}{b:Nat}(nd:(W.map (·.1)).Nodup)(h:(n,p)∈W):cntB P W b=cntB P (jB W n) b+if p / (P:Int)=(b:Int)then 1 else 0:=by(
have pm:W.Perm ((n,p)::jB W n):=q2C (qHK nd) (gA.mpr ⟨λz=>(jC.mp z).2 rfl,qHK (q5Y nd)⟩) λx=>by
 rw[kI,jC];constructor
 ·intro hx;by_cases e:x.1=n
  ·exact .inl (qJ3 nd hx h e)
  exact .inr ⟨hx,e⟩
 rintro(rfl|hx)
 ·exact h
 exact hx.1
unfold cntB
rw[pm.countP_eq,pE]
by_cases e:p / (P:Int)=(b:Int)
·rw[kJ e,kJ (hG e)]
rw[kF e,kF (by rw[kQ];exact e)])
theorem qGA{W:Mp}{n:Int}(h:∀q∈W,q.1≠n):jB W n=W:=dQ.mpr λq hq=>hG (h q hq)
structure BM where
P:Nat
B:Nat
ns:List Int
W:Mp
V:Mp
nx:Int
bs:List (Option Int)
ss:List Int
lv:List Int
fi:List Int
bo:List Int
namespace BM
variable{m:BM}
noncomputable def lvF(P:Nat)(V:Mp)(lv:List Int)(n:Int):List Int:=match V.find? λq=>decide (q.1=n)with
|some q=>lv.set (q.2 / (P:Int)).toNat (lv.getD (q.2 / (P:Int)).toNat 0-1)
|none=>lv
end BM
end W1
namespace L2
open PySem PySem.Spec PyProof.Rows
theorem q42{n j:Nat}(h:j<n):ixN n (j:Int)=some j:=by(
unfold ixN
have a:(0:Int)≤j:=by lia
have b:(j:Int)<n:=by lia
simp[a,b,h])
theorem qEB{V:List (Int×Int)}{n:Int}:q2O (dI V) (Sum.inl n:Key)=dI (W1.jB V n):=by(
unfold q2O dI W1.jB
rw[aE]
congr 1
apply wZ
intro q _
show decide ((Sum.inl q.1:Key)≠Sum.inl n)=decide (q.1≠n)
by_cases e:q.1=n<;>simp[e])
theorem qGB{W:List (Int×Int)}{n p:Int}:putK (dI W) (Sum.inl n:Key) (.int p)=dI (W1.putW W n p):=by(
unfold putK dI W1.putW
have e:((W.map λp=>((Sum.inl p.1:Key),V.int p.2)).any λkv=>decide (kv.1=Sum.inl n))=W.any λq=>decide (q.1=n):=by
 rw[aZ];congr 1;funext q;show decide ((Sum.inl q.1:Key)=Sum.inl n)=decide (q.1=n);by_cases e:q.1=n
 ·rw[e];simp
 rw[hX e,hX (λz=>e (cB z))]
rw[e]
by_cases h:(W.any λq=>decide (q.1=n))=true
·rw[kJ h,kJ h,wM,wM];apply rB;intro q _;show(if(Sum.inl q.1:Key)=Sum.inl n then((Sum.inl q.1:Key),V.int p)else((Sum.inl q.1:Key),V.int q.2))=_;by_cases e:q.1=n
 ·rw[kJ (by rw[e])];show _=(λp:Int×Int=>((Sum.inl p.1:Key),V.int p.2)) (if q.1=n then(q.1,p)else q);rw[kJ e]
 rw[kF (λz=>e (cB z))];show _=(λp:Int×Int=>((Sum.inl p.1:Key),V.int p.2)) (if q.1=n then(q.1,p)else q);rw[kF e]
rw[kF h,kF h,m8]
rfl)
theorem qCK{V:List (Int×Int)}{n p:Int}:W1.putW (W1.jB V n) n p=W1.jB V n++[(n,p)]:=by(
unfold W1.putW
rw[kF]
intro h
obtain⟨q,hq,e⟩:=cH.mp h
exact(W1.jC.mp hq).2 (mM e))
theorem setV{ns:List Int}{c:Nat}{x:Int}:(ns.map V.int).set c (.int x)=(ns.set c x).map V.int:=by rw[xN]
theorem atV{ns:List Int}{c:Nat}(h:c<ns.length):atI (ns.map V.int) (c:Int)=some (.int (ns.getD c 0)):=by refine v8 ?_;rw[mB,kC h,kL,kC h];rfl
theorem qEC:∀{A B:List (List Int)},A.Perm B→A.Pairwise (λa b=>lx b a=false)→B.Pairwise (λa b=>lx b a=false)→A=B
| [],B,p,_,_=>(lP.mp p).symm▸rfl
|a::A,[],p,_,_=>absurd p.length_eq (by simp)
|a::A,b::B,p,h1,h2=>by
 have e:a=b:=by
  by_cases e:a=b
  ·exact e
  have hb:b∈A:=(kI.mp (p.mem_iff.mpr kX)).resolve_left (λz=>e z.symm);have ha:a∈B:=(kI.mp (p.mem_iff.mp kX)).resolve_left e;exact q40 a b ((gT.mp h2).1 a ha) ((gT.mp h1).1 b hb)
 subst e;rw[qEC ((aL a).mp p) (gT.mp h1).2 (gT.mp h2).2]
theorem qBH:∀{A B:List Int},A.Perm B→A.Pairwise (·≤·)→B.Pairwise (·≤·)→A=B
| [],B,p,_,_=>(lP.mp p).symm▸rfl
|a::A,[],p,_,_=>absurd p.length_eq (by simp)
|a::A,b::B,p,h1,h2=>by
 have e:a=b:=by
  by_cases e:a=b
  ·exact e
  have hb:b∈A:=(kI.mp (p.mem_iff.mpr kX)).resolve_left (λz=>e z.symm);have ha:a∈B:=(kI.mp (p.mem_iff.mp kX)).resolve_left e;have:=(gT.mp h2).1 a ha;have:=(gT.mp h1).1 b hb;lia
 subst e;rw[qBH ((aL a).mp p) (gT.mp h1).2 (gT.mp h2).2]
theorem qED{a:Addr}{o:Obj}{kvs:List (Key×V)}{D:Addr}{H2:Hp}{g:TG}{tc:TT}{te:TE}{σ0:St}{R:Hp→Prop}(Pv:Nat→Hp→Prop)(h0:Pv 0 H2)(hl:∀i H,Pv i H→H a=some (.frz o (.dK kvs)))
 (hs:∀(i:Nat) kv H,kvs[i]?=some kv→Pv i H→g (kV kv.1) σ0 H λσ5 H5=>tc σ5 H5 λb H6=>if b=true then te σ5 H6 (λv H7=>∃vs,H7 D=some (.lst vs)∧vs.length<sizeLine∧Pv (i+1) (upd H7 D (.lst (vs++[v]))))else Pv (i+1) H6) (hd:∀H,Pv kvs.length H→R H):
 ∃W:Nat→Nat→Hp→Prop,(∃m,W 0 m H2)∧∀i m H3,W i m H3→((Itd a o kvs).stop i H3∧R H3)∨((Itd a o kvs).go i H3∧∃N:Hp→Prop,(∀H',N H'→∃m',m'<m∧W (i+1) m' H')∧∀x H4,(Itd a o kvs).yld i H3 x H4→g x σ0 H4 λσ5 H5=>tc σ5 H5 λb H6=>if b=true then te σ5 H6 (λv H7=>∃vs,H7 D=some (.lst vs)∧vs.length<sizeLine∧N (upd H7 D (.lst (vs++[v]))))else N H6):=qG4 (Q:=λ_ H=>R H) Pv h0 hl hs hd
theorem qAG{ks:List (List Int)}{q:List Nat}{n:Nat}(hn:ks.length=n)(p:q.Perm (List.range n)):(q.map λi=>ks.getD i []).Perm ks:=by(
refine(p.map λi=>ks.getD i []).trans ?_
have e:(List.range n).map (λi=>ks.getD i [])=ks:=by
 apply wE
 ·rw[kB,gC,hn]
 intro i h1 h2;rw[sS,p9,kL,kC h2];rfl
rw[e])
theorem qAH{F:V→List Int→Prop}{us:List V}{ks:List (List Int)}{q:List Nat}(h:Paired F us ks)(hq:∀i∈q,i<us.length):Paired F (q.map λi=>us.getD i .non) (q.map λi=>ks.getD i []):=by(
refine q3Y (by rw[kB,kB]) λj x k hx hk=>?_
rw[mB]at hx hk
obtain⟨i,hi,rfl⟩:=mI.mp hx
rw[hi]at hk
obtain rfl:=kM hk
have hl:=hq i (gH hi)
have e1:us[i]?=some (us.getD i .non):=by rw[kL,kC hl];rfl
obtain⟨k,hk1,z⟩:=Paired.at h e1
show F (us.getD i .non) (ks.getD i [])
rw[show ks.getD i []=k from by rw[kL,hk1];rfl]
exact z)
theorem vT{H H':Hp}{us:List V}{ks:List (List Int)}(h:Paired (TupD H) us ks)(s:Same H H'):Paired (TupD H') us ks:=Paired.mapP h λ_ _ z=>z.same s
theorem qBI{K:PySem.W.Frag}{H:Hp}{us:List V}{ks:List (List Int)}(h:Paired (TupD H) us ks):Paired (TupI K H) us ks:=Paired.mapP h λ_ _ z=>z.i
theorem qCL{lo:Int}{n:Nat}{D:Addr}{H2:Hp}{g:TG}{tc:TT}{te:TE}{σ0:St}{R:Hp→Prop}(Pv:Nat→Hp→Prop)(h0:Pv 0 H2)
 (hs:∀(i:Nat) H,i<n→Pv i H→g (.int (lo+i)) σ0 H λσ5 H5=>tc σ5 H5 λb H6=>if b=true then te σ5 H6 (λv H7=>∃vs,H7 D=some (.lst vs)∧vs.length<sizeLine∧Pv (i+1) (upd H7 D (.lst (vs++[v]))))else Pv (i+1) H6) (hd:∀H,Pv n H→R H):
 ∃W:Nat→Nat→Hp→Prop,(∃m,W 0 m H2)∧∀i m H3,W i m H3→((Itr lo n).stop i H3∧R H3)∨((Itr lo n).go i H3∧∃N:Hp→Prop,(∀H',N H'→∃m',m'<m∧W (i+1) m' H')∧∀x H4,(Itr lo n).yld i H3 x H4→g x σ0 H4 λσ5 H5=>tc σ5 H5 λb H6=>if b=true then te σ5 H6 (λv H7=>∃vs,H7 D=some (.lst vs)∧vs.length<sizeLine∧N (upd H7 D (.lst (vs++[v]))))else N H6):=qDY (Q:=λ_ H=>R H) Pv h0 hs hd
theorem qEE{H H3:Hp}{a:Addr}{u:HO}(ha:H a=some u)(k:∀b o,b≠a→H b=some o→H3 b=some o):Same H (upd H3 a u):=λb o e=>by(
by_cases z:b=a
·rw[z,qG,←ha,←z];exact e
rw[qC z]
exact k b o z e)
theorem uL{X:Cx}{K:PySem.W.Frag}{e:Expr}{ta:TE}{f:Str}{pos:Pos}(eK:X.K=K)(he:PE X e ta)(hb:attributeBase e f X.env (eval e X.env)=eval e X.env):PE X (.Attribute e f pos) (tFld K ta f):=by subst eK;exact qJ he hb
end L2
namespace L2
open PySem PySem.W PySem.Spec PyProof.Rows
noncomputable def BmIn(base:Heap)(mg:Str→Option Value):Prop:=∃bm o,mg "__builtins__"=some (.ref bm)∧bm≠builtinsNs∧base.get? bm=some o∧o.cls=.type "module"∧o.dict=some builtinsNs∧o.data=.plain
theorem qCM{P:Program}{w:World}{K:PySem.W.Frag}{mg mb:Str→Option Value}{CX:CXT}{k:Nat}{fa a:Addr}{fd:FuncData}{x:Str}{sp:Sp}{s₁:Shared}{vs:List Value}{ns:List Int}(ts:List Addr)
 (KX:K.In s₁.heap) (hts:∀T∈ts,s₁.heap.get? T=some (tabObj #[])∧K.lookup T=none∧∃c,codeHdIn K c T=true) (hns:s₁.heap.Ns mainGlobals mg) (hb:s₁.heap.Ns builtinsNs mb) (hbb:∀x:Str,x≠"__name__"→mb x=bootBuiltins x) (hlim:s₁.heap.NoLimit) (hbm:BmIn s₁.heap mg) (hg:s₁.gens=#[])
 (ha:s₁.heap.get? a=some { cls:=.type "list",data:=.seq vs.toArray }) (hi:IntsAre vs ns) (hl:ns.length≤sizeLine) (hr:Room k callerA)
 (F:∀base:Heap,K.In base→base.Ns mainGlobals mg→BmIn base mg→FnOk P w K mg base CX k fa fd [x] sp) (hbind:∀(s:Shared) (u:Value),BindsTo s fd ⟨[u],[]⟩ [(x,u)])
 (hsp:∀H:Hp,SqL K H a (ns.map V.int)→(∀T∈ts,H T=some (.tbl #[]))→sp [.ref a] H (λv _=>v=.bl true) λ_ _ _=>False)
 (hCX:∀H e s',CX [] H s₁ (λ_ _ _=>False) e s'→False):
 codeAny (model P w) callerA (.call (.ref fa) ⟨[.ref a],[]⟩) (λr s'=>r=.ok (.ret (.bool true))∧OldK s₁.heap s'.heap∧s'.os=s₁.os∧AllBare s'.gens) s₁:=by(
have rv:=q7I hi
have lenV:=hi.length
have nat:a∉ts:=λz=>by have e:=(hts a z).1;rw[ha]at e;cases e
have core:∀H:Hp,SqL K H a (ns.map V.int)→HOk P w H s₁.heap→(∀b,H b=none∨(b=a∧K.lookup a=none∧∃o xs,H b=some (.frz o (.lst xs)))∨(b∈ts∧H b=some (.tbl #[])))→(∀T∈ts,H T=some (.tbl #[]))→codeAny (model P w) callerA (.call (.ref fa) ⟨[.ref a],[]⟩) (λr s'=>r=.ok (.ret (.bool true))∧OldK s₁.heap s'.heap∧s'.os=s₁.os∧AllBare s'.gens) s₁:=by
 intro H hS hok hO hT;have base_of:∀{b:Addr} {o:Obj},s₁.heap.get? b=some o→H b=none→(hidT s₁.heap H).get? b=some o:=λe n=>q57 e n;have noA:∀{b:Addr} {o:Obj} {es:Array DictEntry} {ep:Nat},s₁.heap.get? b=some o→o.data=.dict es ep→H b=none:=fun {b o es ep} e d=>by
  rcases hO b with z|⟨rfl,_⟩|⟨z,_⟩
  ·exact z
  ·rw[ha]at e;cases e;cases d
  rw[(hts b z).1]at e;cases e;cases d
 have nsK:∀{b:Addr} {m:Str→Option Value},s₁.heap.Ns b m→(hidT s₁.heap H).Ns b m:=fun {b m} ⟨o,es,ep,e,d,r⟩=>⟨o,es,ep,base_of e (noA e d),d,r⟩
 have hKb:K.In (hidT s₁.heap H):=λb o e=>base_of (KX b o e) (by
  rcases hO b with z|⟨rfl,z,_⟩|⟨z,_⟩
  ·exact z
  ·rw[z]at e;cases e
  rw[(hts b z).2.1]at e;cases e)
 have hM:Mod K mg (hidT s₁.heap H):=⟨hKb,nsK hns,⟨mb,nsK hb,hbb⟩,let⟨mc,h1,h2⟩:=hlim;⟨mc,nsK h1,h2⟩⟩;have hB:BmIn (hidT s₁.heap H) mg:=by
  obtain⟨bm,o,b1,b2,b3,b4,b5,b6⟩:=hbm;refine⟨bm,o,b1,b2,base_of b3 ?_,b4,b5,b6⟩;rcases hO bm with z|⟨rfl,_⟩|⟨z,_⟩
  ·exact z
  ·rw[ha]at b3;cases b3;exact absurd (Value.type.inj b4) (by decide)
  rw[(hts bm z).1]at b3;cases b3;cases b4
 have e0:Env0 P w K mg (hidT s₁.heap H) callerA [] s₁ H:=⟨rfl,hM,λb o e=>qAW e,cX (q73 _ _),trivial,λb hb=>absurd (show b∈([]:List Addr)from hb) (by simp),hok,.of_eq hg⟩;refine cY ((F _ hKb (nsK hns) hB).run callerA [] s₁ H ⟨[.ref a],[]⟩ [.ref a] [.ref a] _ _ hr e0 (hbind s₁ (.ref a)) (.cons rfl .nil) (hsp H hS hT)) λr s' h=>?_;cases r with
 |error e=>exact(hCX H e s' h).elim
 |ok fl=>
  cases fl with
  |next=>exact False.elim h
  |brk=>exact False.elim h
  |cont=>exact False.elim h
  |ret u=>
   obtain⟨v,H',os,bare,un,hok',r',q⟩:=h;have q':v=.bl true:=q;subst q';obtain rfl:u=Value.bool true:=r';have kept:∀b o,s₁.heap.get? b=some o→b∉ts→s'.heap.get? b=some o:=λb o e nb=>by
    rcases hO b with z|⟨rfl,_,ob,xs,z⟩|⟨z,_⟩
    ·exact un.keep b o e z (by intro z;exact absurd (show b∈([]:List Addr)from z) (by simp)) (by simp)
    ·have z2:=un.frzs _ ob _ z;obtain⟨e1,_⟩:=hok _ _ z;obtain⟨e2,_⟩:=hok' _ _ z2;rw[e]at e1;cases e1;exact e2
    exact absurd z nb
   refine⟨rfl,⟨λb o e=>?_,λb o e=>?_⟩,os,bare⟩
   ·by_cases nb:b∈ts
    ·obtain⟨g,_,c,hc⟩:=hts b nb;obtain⟨more,z2⟩:=un.tbls b _ (hT b nb);have g2:s'.heap.get? b=some { cls:=.none,data:=.fields (#[]++more) }:=hok' _ _ z2;rw[g]at e;cases e;exact .inr (.inl ⟨((xX KX hc).tab g).isCodeTable,rfl,#[],more,rfl,g2⟩)
    exact .inl (kept b o e nb)
   by_cases nb:b∈ts
   ·obtain⟨more,z2⟩:=un.tbls b _ (hT b nb);exact⟨_,hok' _ _ z2⟩
   exact⟨o,kept b o e nb⟩
have tb:∀T∈ts,∀H:Hp,H T=some (.tbl #[])→∀u,H T=some u→jH P w H s₁.heap T u:=λT hT H e u e'=>by rw[e]at e';cases e';exact(hts T hT).1
cases hk:K.lookup a with
|some o=>
 have e:=KX a o hk;rw[ha]at e;cases e;refine core (λb=>if b∈ts then some (.tbl #[])else none) (.inr ⟨_,vs.toArray,_,hk,rfl,rfl,rfl,by rw[mD,lenV];exact hl,by simpa using rv⟩) (λb u z=>?_) (λb=>?_) λT hT=>kJ hT
 ·by_cases hb':b∈ts
  ·exact tb b hb' _ (kJ hb') u z
  have z':=(kF hb').symm.trans z;cases z'
 by_cases hb':b∈ts
 ·exact .inr (.inr ⟨hb',kJ hb'⟩)
 exact .inl (kF hb')
|none=>
 refine core (λb=>if b=a then some (.frz { cls:=.type "list",data:=.seq vs.toArray } (.lst (ns.map V.int)))else if b∈ts then some (.tbl #[])else none) (.inl (.inr ⟨{ cls:=.type "list",data:=.seq vs.toArray },kJ rfl⟩)) (λb u z=>?_) (λb=>?_) λT hT=>?_
 ·by_cases hb':b=a
  ·have z':=(kJ hb').symm.trans z;cases z';subst hb';exact⟨ha,by rw[kB];exact hl,vs,_,rv,ha⟩
  by_cases hb2:b∈ts
  ·exact tb b hb2 _ ((kF hb').trans (kJ hb2)) u z
  have z':=((kF hb').trans (kF hb2)).symm.trans z;cases z'
 ·by_cases hb':b=a
  ·exact .inr (.inl ⟨hb',hk,_,_,kJ hb'⟩)
  by_cases hb2:b∈ts
  ·exact .inr (.inr ⟨hb2,(kF hb').trans (kJ hb2)⟩)
  exact .inl ((kF hb').trans (kF hb2))
 have:T≠a:=λz=>nat (z▸hT);exact(kF this).trans (kJ hT))
theorem qEF{l:PySem.W.OpenLaw}{n k:Nat}{q:Program}{loose:List Str}{XP:(Str→Option Value)→Heap→Prop}{YP:World→Heap→Prop}{d:DefRec}{K:Params→PySem.W.Frag}{CX:World→CXT}{sp:World→Sp}{x:Str}(ts:List Addr)
 (hn:l.most=some n) (hn2:n≤sizeLine) (hdf:d.params.defaults=[]) (hr:Room k callerA)
 (hY:∀(w:World) (h:Heap),YP w h→(K w.params).In h∧∀T∈ts,h.get? T=some (tabObj #[])) (hT:∀w:World,∀T∈ts,(K w.params).lookup T=none∧∃c,codeHdIn (K w.params) c T=true)
 (F:∀(w:World) (mg:Str→Option Value) (fa:Addr) (h:Heap),(K w.params).In h→h.Ns mainGlobals mg→mg d.name=some (.ref fa)→∃fd:FuncData,(∀(s:Shared) (u:Value),BindsTo s fd ⟨[u],[]⟩ [(x,u)])∧∀base:Heap,(K w.params).In base→base.Ns mainGlobals mg→BmIn base mg→FnOk l.prog w (K w.params) mg base (CX w) k fa fd [x] (sp w))
 (hsp:∀(w:World) (H:Hp) (a:Addr) (ns:List Int),ns.length≤n→SqL (K w.params) H a (ns.map V.int)→(∀T∈ts,H T=some (.tbl #[]))→sp w [.ref a] H (λv _=>v=.bl true) λ_ _ _=>False)
 (hCX:∀(w:World) (H:Hp) (s:Shared) (e:Value) (s':Shared),CX w [] H s (λ_ _ _=>False) e s'→False):
 PySem.W.WalkO q loose XP YP l.row.toRowW d [] (λf vs=>PySem.call f vs):=by(
refine Att.attach_call hn hdf λw s₀ s₁ mg mb fa o pm cd doc a vs ns G Y ho hd hcd hmg hobj hints hlen hg=>?_
obtain⟨KX,KT⟩:=hY w _ Y
obtain⟨fd,hb,hF⟩:=F w mg fa _ KX G.T.g hmg
exact qCM ts KX (λT h=>⟨KT T h,hT w T h⟩) G.T.g G.T.b G.T.builtins G.T.nolimit (let⟨bm,ob,b1,b2,b3,b4,b5,b6⟩:=G.T.bmain;⟨bm,ob,b1,b2,b3,b4,b5,b6⟩) hg hobj hints (mF hlen hn2) hr hF hb (λH hS hH=>hsp w H a ns hlen hS hH) λH e s'=>hCX w H s₁ e s')
structure FunT(K:PySem.W.Frag)(x qual:Str)(st:Stmt)(c f:Addr)(fd:FuncData):Prop where
ex:∃(oc:Value) (od:Option Addr) (kV doc pm:Value) (an:Option Addr) (ct:Value) (osl:Array (Option Value)),fd=PySem.W.fnOf x qual (y9 st) (jM st) (qE st) .none kV doc pm an (.ref c) ct∧K.lookup f=some ⟨oc,od,.func fd,osl⟩∧PySem.W.codeIn K (.ref c) qual=true
section
variable{P:Program}{w:World}{K:PySem.W.Frag}{mg:Str→Option Value}{base:Heap}
theorem FunT.mk'{x qual:Str}{st:Stmt}{c f:Addr}{oc:Value}{od an:Option Addr}{osl:Array (Option Value)}{kV doc pm ct:Value}(l:K.lookup f=some ⟨oc,od,.func (PySem.W.fnOf x qual (y9 st) (jM st) (qE st) .none kV doc pm an (.ref c) ct),osl⟩)
 (h:PySem.W.codeIn K (.ref c) qual=true):FunT K x qual st c f (PySem.W.fnOf x qual (y9 st) (jM st) (qE st) .none kV doc pm an (.ref c) ct):=⟨⟨oc,od,kV,doc,pm,an,ct,osl,rfl,l,h⟩⟩
theorem FunT.okE{x qual:Str}{st:Stmt}{c f:Addr}{fd:FuncData}{N ps:List Str}{k:Nat}{sp:Sp}(F:FunT K x qual st c f fd)(S:FnScope N ps (qE st))(len:∀vs H Q E,sp vs H Q E→vs.length=ps.length)
 (hbody:∀(A:Around) (outer:List Env) (s:Shared) (H:Hp) (vs:List V) (Q:VK) (E:XK),Room k (A.deeper (envOfC qual (qE st) s.heap.objs.size f (.ref c)))→sp vs H Q E→∃t,PSs (cxOf (CXe P w) P w K mg base N qual (qE st) f (.ref c) A outer s H E) (jM st) t∧t { nx:=λ_ H'=>Q .non H',rt:=Q } (zF N vs) H):FnOk P w K mg base (CXe P w) (k+1) f fd ps sp:=by obtain⟨oc,od,kV,doc,pm,an,ct,osl,rfl,lk,hcd⟩:=F.ex;exact qB3 lk hcd S len λA outer s H vs Q E hr hsp=>hbody A outer s H vs Q E hr hsp
theorem FunT.ok0{x qual:Str}{st:Stmt}{c f:Addr}{fd:FuncData}{N ps:List Str}{k:Nat}{sp:Sp}(F:FunT K x qual st c f fd)(S:FnScope N ps (qE st))
 (hbody:∀(A:Around) (outer:List Env) (s:Shared) (H:Hp) (vs:List V) (Q:VK) (E:XK),Room k (A.deeper (envOfC qual (qE st) s.heap.objs.size f (.ref c)))→sp vs H Q E→∃t,PSs (cxOf CX0 P w K mg base N qual (qE st) f (.ref c) A outer s H E).nox (jM st) t∧t { nx:=λ_ H'=>Q .non H',rt:=Q } (zF N vs) H)(len:∀vs H Q E,sp vs H Q E→vs.length=ps.length:=by intro _ _ _ _ h;first|(cases h;subst_vars;rfl)|((repeat obtain⟨_,h⟩:=h);all_goals subst_vars;rfl)):FnOk P w K mg base CX0 (k+1) f fd ps sp:=by(
obtain⟨oc,od,kV,doc,pm,an,ct,osl,rfl,lk,hcd⟩:=F.ex
refine qB3 lk hcd S len λA outer s H vs Q E hr hsp=>?_
obtain⟨t,h,q⟩:=hbody A outer s H vs Q E hr hsp
exact⟨t,h.nox,q⟩)
noncomputable def q43(K:PySem.W.Frag)(ts:List Addr):Sp:=λvs H Q _=>∃(a:Addr) (ns:List Int),vs=[.ref a]∧SqL K H a (ns.map V.int)∧ns.length≤63∧(∀T∈ts,H T=some (.tbl #[]))∧∀H',Q (.bl true) H'
end
noncomputable def qL4(K:PySem.W.Frag)(C:Addr):Prop:=PySem.W.findIn K (.ref C) "__class__"=some (some (.builtin "object.__class__"))∧PySem.W.specialIn K (.builtin "object.__class__") "__get__"=some (some (.builtin "getset_descriptor.__get__"))∧PySem.W.takesIn K (.builtin "object.__class__")=some true∧PySem.W.mroIn K C (.type "object")=some true
noncomputable def fnOb(fd:FuncData):Obj:={ cls:=.type "function",data:=.func fd }
noncomputable def fnO(f:Addr)(fd:FuncData):HO:=.ext λh=>h.get? f=some (fnOb fd)
noncomputable def cdO(c:Addr)(q:Str):HO:=.ext λh=>∃o vs t,h.get? c=some o∧o.data=.fields vs∧vs[1]?=some (.str q t)
theorem qEG{P:Program}{w:World}{H:Hp}{h:Heap}{f:Addr}{fd:FuncData}(e:h.get? f=some (fnOb fd)):jH P w H h f (fnO f fd):=⟨e,⟨_,e⟩,λ_ _ a b=>b _ a⟩
theorem qJ4{P:Program}{w:World}{H:Hp}{h:Heap}{c:Addr}{q:Str}(e:h.CodeRec (.ref c) q):jH P w H h c (cdO c q):=by obtain⟨c',o,vs,t,e0,e1,e2,e3⟩:=e;cases e0;exact⟨⟨o,vs,t,e1,e2,e3⟩,⟨_,e1⟩,λ_ _ ⟨o,vs,t,a,b⟩ k=>⟨o,vs,t,k _ a,b⟩⟩
theorem qEH{P:Program}{w:World}{H:Hp}{h:Heap}{f:Addr}{fd:FuncData}(ok:HOk P w H h)(e:H f=some (fnO f fd)):h.get? f=some (fnOb fd):=(ok f _ e).1
theorem qEI{P:Program}{w:World}{H:Hp}{h:Heap}{c:Addr}{q:Str}(ok:HOk P w H h)(e:H c=some (cdO c q)):h.CodeRec (.ref c) q:=let⟨o,vs,t,a,b⟩:=(ok c _ e).1
 ⟨c,o,vs,t,rfl,a,b⟩
theorem qJ5{CX:CXT}{P:Program}{w:World}{K:PySem.W.Frag}{mg:Str→Option Value}{base:Heap}{k:Nat}{f c:Addr}{name qual:Str}{params:Arguments}{body:Expr}{scope:Scope}{pm ct:Value}{N ps:List Str}{sp:Sp}(S:FnScope N ps scope)
 (len:∀vs H Q E,sp vs H Q E→vs.length=ps.length) (hf:∀vs H Q E,sp vs H Q E→H f=some (fnO f (kla_fn name qual params body scope [] pm (.ref c) ct))∧H c=some (cdO c qual))
 (hbody:∀(A:Around) (outer:List Env) (s:Shared) (H:Hp) (vs:List V) (Q:VK) (E:XK),Room k (A.deeper (envOfC qual scope s.heap.objs.size f (.ref c)))→sp vs H Q E→∃t,PE (cxOf CX P w K mg base N qual scope f (.ref c) A outer s H E) body t∧t (zF N vs) H Q):
 FnOk P w K mg base CX (k+1) f (kla_fn name qual params body scope [] pm (.ref c) ct) ps sp:=by(
refine⟨len,λA outer s H args us vs Q E hr e0 hb r hsp=>?_⟩
have hl:=len _ _ _ _ hsp
have KX:K.In s.heap:=e0.mod.kin.keeps λb o e=>(e0.bs b o e).1
have lim:s.heap.NoLimit:=e0.mod.nolimit.keeps λb o e=>(e0.bs b o e).1
have hkind:∀y∈ps.zip us,scope.names.lookup y.1=some .local∨(scope.names.lookup y.1=some .cell∧((cellsFrom (s.heap.objs.size+1) scope.names []).lookup y.1).isSome=true):=λ⟨n,v⟩ hy=>by
 rcases S.par n (pN hy).1 with q|q
 ·exact .inl q
 exact .inr ⟨q,cZ _ _ _ (.inl q)⟩
obtain⟨hf1,hc1⟩:=hf _ _ _ _ hsp
refine kla_callFunE hr.depth (qEH e0.hok hf1) rfl S.co S.gen rfl (qEI e0.hok hc1) (hb _ _ _ _ ?_)
refine pZ S.kind hkind λenv he s1 x=>?_
subst he
refine⟨lim.keeps x.toInCall.keep,kla_codeExpr ?_⟩
obtain⟨t,ht,hq⟩:=hbody A outer s H vs Q E (hr.deeper _) hsp
have I:Inv (cxOf CX P w K mg base N qual scope f (.ref c) A outer s H E) [] (zF N vs) H s1:=q7D S hr.hd e0 hl r x
exact g8 (ht [] s1 (zF N vs) H _ I hq) (λu s' ⟨v,H',J,rv,q⟩=>⟨v,H',J.os,J.bare,J.base,J.hok,rv,q⟩) λe s' hs=>hs)
noncomputable def vD(base:Heap)(cs:List Addr):Hp:=λb=>if(base.get? b).isSome=true∨b∈cs then none else some (.lst [])
theorem q1E{h base base':Heap}:∀{l:List Env},h.FunFrames base l→(∀L∈frs l,base.get? L=none→base'.get? L=none)→h.FunFrames base' l
| [],_,_=>trivial
|env::r,⟨hk,⟨L,o,hf,hn,ho,hd⟩,hr⟩,k=>by
 have hL:L∈frs (env::r):=by unfold frs;rw[rZ,hf];exact kX
 exact⟨hk,⟨L,o,hf,k L hL hn,ho,hd⟩,q1E hr λb hb=>k b (by unfold frs;rw[rZ,hf];exact hU _ hb)⟩
theorem Inv.env0C{X:Cx}{pins:List (Addr×Obj)}{σ:St}{H:Hp}{s:Shared}(I:Inv X pins σ H s)(cs:List Addr)(hcs:∀c∈cs,∃x,X.fn x=true∧X.env.cells.lookup x=some c):
 Env0 X.prog X.w X.K X.mg (hidT s.heap (vD X.base cs)) X.A X.stack s H∧(∀b o,X.base.get? b=some o→(hidT s.heap (vD X.base cs)).get? b=some o)∧∀c∈cs,∀o,s.heap.get? c=some o→(hidT s.heap (vD X.base cs)).get? c=some o:=by(
have up:∀b o,X.base.get? b=some o→(hidT s.heap (vD X.base cs)).get? b=some o:=λb o e=>q57 (I.bk b o e) (kJ (.inl (by rw[e];rfl)))
have inv:∀{b:Addr} {o:Obj},(hidT s.heap (vD X.base cs)).get? b=some o→s.heap.get? b=some o∧((∃o',X.base.get? b=some o')∨b∈cs):=fun {b o} e=>by
 obtain⟨e1,n⟩:=qAW e;refine⟨e1,?_⟩;by_cases z:(X.base.get? b).isSome=true∨b∈cs
 ·rcases z with z|z
  ·exact .inl (cK.mp z)
  exact .inr z
 rw[show vD X.base cs b=some (.lst [])from kF z]at n;cases n
obtain⟨mb,hb1,hb2⟩:=I.ok.mod.blt
refine⟨⟨I.ok.frames,⟨I.ok.mod.kin.keeps up,I.ok.mod.glob.keeps up,⟨mb,hb1.keeps up,hb2⟩,I.ok.mod.nolimit.keeps up⟩,λb o e=>?_,by rw[q73];exact kN _,q1E I.stack λL hL n=>?_,I.stkFree,I.hok,I.bare⟩,up,λc hc o e=>q57 e (kJ (.inr hc))⟩
·obtain⟨e1,z⟩:=inv e;rcases z with⟨o',z⟩|z
 ·exact⟨e1,(I.bs b o' z).2⟩
 obtain⟨x,_,hx⟩:=hcs b z;exact⟨e1,I.freeC x b hx⟩
cases e:(hidT s.heap (vD X.base cs)).get? L with
|none=>rfl
|some o=>
 obtain⟨e1,z⟩:=inv e;rcases z with⟨o',z⟩|z
 ·rw[n]at z;cases z
 obtain⟨x,hf,hx⟩:=hcs L z;rcases kI.mp (I.stkSub L hL)with y|y
 ·exact absurd y (I.cne x L hx)
 obtain⟨_,o2,ho,_⟩:=I.ok.funs.mem y;exact absurd (kP ho) (aK.mpr (I.ok.cab x L hf hx)))
noncomputable def q1F(cells:List (Str×Addr))(σ:St)(base':Heap)(ix:List (Nat×Str)):Prop:=∀p∈ix,∀v,σ[p.1]?=some (some v)→∃c u,cells.lookup p.2=some c∧RelV v u∧base'.IsCell c (some u)
noncomputable def qKK(T:Addr)(pos:Pos)(qual:Str)(params:Arguments)(body:Expr)(scope:Scope)(clos:List (Str×Addr))(pm:Value):TE:=λσ H Q=>∃ps,H T=some (.tbl ps)∧TriplesOk ps.toList∧codeAmong pos ps.toList=none∧∀(f c':Addr) (ctv:Value),H f=none→H c'=none→f≠c'→Q (.ref f) (upd (upd (upd H T (.tbl (ps++#[rawInt pos.line,rawInt pos.col,.ref c']))) c' (cdO c' qual)) f (fnO f (kla_fn "<lambda>" qual params body scope clos pm (.ref c') ctv)))
theorem qGC{X:Cx}{c T:Addr}{params:Arguments}{body:Expr}{scope:Scope}{pos:Pos}{clos:List (Str×Addr)}(hcode:X.env.code=.ref c)(hcd:codeHdIn X.K c T=true)(B:BmIn X.base X.mg)(hcl:closureFor scope X.env=pure clos)(hdef:defaultsOf params X.env=([],[])):
 PE X (.Lambda params body scope pos) (qKK T pos (X.env.qual++"<lambda>") params body scope clos ((X.mg "__name__").getD .none)):=by(
intro pins s σ H Q I hZ
obtain⟨ps,hT,ht,hnf,q⟩:=hZ
have hP:s.heap.get? T=some (tabObj ps):=I.hok T _ hT
have hgs:s.heap.Ns mainGlobals X.mg:=I.ok.mod.glob.keeps I.bk
obtain⟨bm,ob,b1,b2,b3,b4,b5,b6⟩:=B
have b3':=I.bk _ _ b3
have hgP:mainGlobals≠T:=λz=>by obtain⟨o,es,ep,e,hd,_⟩:=hgs;rw[z,hP]at e;cases e;cases hd
have hbP:bm≠T:=λz=>by rw[z,hP]at b3';cases b3';cases b4
have hbG:bm≠mainGlobals:=λz=>by obtain⟨o,es,ep,e,hd,_⟩:=hgs;rw[z,e]at b3';cases b3';rw[hd]at b6;cases b6
refine kla_eval hdef (kla_makeFunction (clos:=clos) hcl I.ok.glob hgs hcode (xX I.kIn hcd) hP ht hnf hgP ⟨bm,ob,b1,b2,hbG,hbP,b3',b4,b5,b6⟩ λc' ctv h' tk hx hge hlt hrec htb=>?_)
have trk:∀b u,s.heap.get? b=some u→b≠T→∀o,(h'.push o).get? b=some u:=λb u e n o=>kE _ (hx b u n e)
have sz:s.heap.objs.size≤h'.objs.size:=mF hge (pT hlt)
have nF:H h'.objs.size=none:=I.hok.fresh sz
have nC:H c'=none:=I.hok.fresh hge
have fc:h'.objs.size≠c':=dG hlt
have other:∀{b:Addr},b≠T→b≠c'→b≠h'.objs.size→∀u:HO,(upd (upd (upd H T (.tbl (ps++#[rawInt pos.line,rawInt pos.col,.ref c']))) c' (cdO c' (X.env.qual++"<lambda>"))) h'.objs.size (fnO h'.objs.size (kla_fn "<lambda>" (X.env.qual++"<lambda>") params body scope clos ((X.mg "__name__").getD .none) (.ref c') ctv))) b=H b:=fun {b} z1 z2 z3 _=>by rw[qC z3,qC z2,qC z1]
refine⟨.ref h'.objs.size,_,?_,rfl,q _ c' ctv nF nC fc⟩
refine I.un (t':=tk) ⟨λb o e n _ _=>trk b o e (qH hT n).symm _,λb o e n _ _=>⟨o.slots,trk b o e (qH hT n).symm _⟩,λb o e n _=>?_,λb o e _=>?_,λb xs e=>?_,λb o u e=>?_,λb qs e=>?_⟩ λb u e=>?_
·have hb:b<s.heap.objs.size:=kP e;rw[other (qH hT n).symm (mP (mW hb hge)) (mP (mW hb sz)) (.lst [])];exact n
·by_cases z:b=T
 ·subst z;exact⟨_,kE _ htb⟩
 exact⟨o,trk b o e z _⟩
·rw[other (λz=>by rw[z,hT]at e;cases e) (qH e nC) (qH e nF) (.lst [])];exact e
·rw[other (λz=>by rw[z,hT]at e;cases e) (qH e nC) (qH e nF) (.lst [])];exact e
·by_cases z:b=T
 ·subst z;rw[hT]at e;cases e;refine⟨#[rawInt pos.line,rawInt pos.col,.ref c'],?_⟩;rw[qC (qH hT nF),qC (qH hT nC)];exact qG
 exact⟨#[],by rw[other z (qH e nC) (qH e nF) (.lst []),e];simp⟩
by_cases z3:b=h'.objs.size
·subst z3;rw[qG]at e;cases e;exact qEG (mJ _ rfl)
by_cases z2:b=c'
·subst z2;rw[qC z3,qG]at e;cases e;exact qJ4 (hrec.push _)
by_cases z:b=T
·subst z;rw[qC z3,qC z2,qG]at e;cases e;exact kE _ htb
rw[other z z2 z3 (.lst [])]at e
refine(I.hok b u e).stay (λd v hd r=>trk d v r (λy=>?_) _) (λd r=>?_) λd xs r=>?_
·rcases hd with hd|hd
 ·exact z (hd▸y)
 rw[y,hT]at hd;cases hd
·rw[other (λy=>by rw[y,hT]at r;cases r) (qH r nC) (qH r nF) (.lst [])];exact r
rw[other (λy=>by rw[y,hT]at r;cases r) (qH r nC) (qH r nF) (.lst [])];exact r)
noncomputable abbrev envL(qual:Str)(scope:Scope)(clos:List (Str×Addr))(L f:Addr)(cd:Value):Env:=newEnv scope L mainGlobals clos (qual++".<locals>.") (some f) cd none builtinsNs
noncomputable def qEJ(CX:CXT)(P:Program)(w:World)(K:PySem.W.Frag)(mg:Str→Option Value)(base:Heap)(N:List Str)(qual:Str)(scope:Scope)(clos:List (Str×Addr))(f:Addr)(cd:Value)(A:Around)(outer:List Env)(s:Shared)(H:Hp)(E:XK):Cx where
prog:=P
w:=w
K:=K
mg:=mg
base:=base
A:=A.deeper (envL qual scope clos s.heap.objs.size f cd)
N:=N
s₀:=s
H₀:=H
env:=envL qual scope clos s.heap.objs.size f cd
outer:=outer
stack:=envL qual scope clos s.heap.objs.size f cd::outer
ex:=[]
calm:=true
fn:=λ_=>false
pn:=[]
xe:=λe s'=>wpAny (model P w) (A.deeper (envL qual scope clos s.heap.objs.size f cd)) (leaving (envL qual scope clos s.heap.objs.size f cd) e) (λ_ s''=>CX outer H s E e s'') (λe' s''=>CX outer H s E e' s'') s'
structure LamSc(scope:Scope)(x0:Str)(clos:List (Str×Addr))(fvs:List V)(base:Heap):Prop where
kind:scope.kind=.function
co:scope.isCoroutine=false
gen:scope.isGenerator=false
par:scope.names.lookup x0=some .local
nocell:∀y∈scope.names,y.2≠ .cell
free:∀y,scope.names.lookup y=some .free→∃c,clos.lookup y=some c
inj:∀x y c,clos.lookup x=some c→clos.lookup y=some c→x=y
at':∀(j:Nat) (x:Str) (c:Addr),clos[j]?=some (x,c)→scope.names.lookup x=some .free∧clos.lookup x=some c∧∃v u,fvs[j]?=some v∧RelV v u∧base.IsCell c (some u)
len:fvs.length=clos.length
theorem qGD{CX:CXT}{P:Program}{w:World}{K:PySem.W.Frag}{mg:Str→Option Value}{base:Heap}{k:Nat}{f c:Addr}{name qual:Str}{params:Arguments}{body:Expr}{scope:Scope}{pm ct:Value}{x0:Str}{clos:List (Str×Addr)}{fvs:List V}{sp:Sp}(S:LamSc scope x0 clos fvs base)
 (len:∀vs H Q E,sp vs H Q E→vs.length=1) (hf:∀vs H Q E,sp vs H Q E→H f=some (fnO f (kla_fn name qual params body scope clos pm (.ref c) ct))∧H c=some (cdO c qual))
 (hbody:∀(A:Around) (outer:List Env) (s:Shared) (H:Hp) (v0:V) (Q:VK) (E:XK),Room k (A.deeper (envL qual scope clos s.heap.objs.size f (.ref c)))→sp [v0] H Q E→∃t,PE (qEJ CX P w K mg base (x0::clos.map (·.1)) qual scope clos f (.ref c) A outer s H E) body t∧t (some v0::fvs.map some) H Q):
 FnOk P w K mg base CX (k+1) f (kla_fn name qual params body scope clos pm (.ref c) ct) [x0] sp:=by(
refine⟨len,λA outer s H args us vs Q E hr e0 hb r hsp=>?_⟩
have hl:=len _ _ _ _ hsp
obtain⟨v0,rfl⟩:∃v0,vs=[v0]:=match vs,hl with| [v],_=>⟨v,rfl⟩
obtain⟨u0,rfl,r0⟩:=q05 r
have lim:s.heap.NoLimit:=e0.mod.nolimit.keeps λb o e=>(e0.bs b o e).1
obtain⟨hf1,hc1⟩:=hf _ _ _ _ hsp
refine kla_callFunE hr.depth (qEH e0.hok hf1) rfl S.co S.gen rfl (qEI e0.hok hc1) (hb _ _ _ _ ?_)
refine lE S.nocell (λy hy=>?_) (λh' hn hs=>?_) S.kind
·obtain rfl:y=(x0,u0):=by simpa using hy
 exact S.par
have hk:∀b o,s.heap.get? b=some o→h'.get? b=some o:=λb o e=>by have:=hs.2 b (mP (kP e));rw[this];exact kE _ e
refine⟨lim.keeps hk,kla_codeExpr ?_⟩
obtain⟨t,ht,hq⟩:=hbody A outer s H v0 Q E (hr.deeper _) hsp
have noA:∀b:Addr,b∉(qEJ CX P w K mg base (x0::clos.map (·.1)) qual scope clos f (.ref c) A outer s H E).ex:=λb z=>absurd (show b∈([]:List Addr)from z) (by simp)
have cat:∀y d,clos.lookup y=some d→∃u,base.IsCell d (some u):=λy d e=>by obtain⟨j,hj,ej⟩:=r9 (gQ e);obtain⟨_,_,v,u,_,_,hu⟩:=S.at' j y d (kD.mpr ⟨hj,ej⟩);exact⟨u,hu⟩
have I:Inv (qEJ CX P w K mg base (x0::clos.map (·.1)) qual scope clos f (.ref c) A outer s H E) [] (some v0::fvs.map some) H { s with heap:=h',toks:=s.toks + [(x0,u0)].length }:=by
 refine⟨⟨e0.mod,S.kind,rfl,rfl,kN _,S.inj,λy hy=>?_,λy c z _=>absurd (show false=true from z) (by decide),λ_=>hr.hd,n9 e0.frames,.inr ⟨rfl,rfl⟩,λb z=>absurd z (noA b),e0.bs,e0.bsz,λb _ _=>noA b,λb z=>absurd z (noA b),e0.funs,e0.frf⟩,rfl,e0.bare,Un.kept hk,⟨_,hn,λi y v h1 h2 h3=>?_⟩,λy d e=>?_,e0.hok.fresh (kN _),λy d e=>?_,λp hp=>absurd (show p∈([]:List (Addr×Obj))from hp) (by simp),e0.hok.kept hk,?_⟩
 ·have hy:scope.names.lookup y=some .cell∨scope.names.lookup y=some .free:=hy;rcases hy with hy|hy
  ·exact absurd rfl (S.nocell _ (gQ hy))
  exact S.free y hy
 ·cases i with
  |zero=>obtain rfl:=kM h1;obtain rfl:=kM (kM h2);refine⟨u0,r0,.inl ⟨S.par,?_⟩⟩;show([(x0,u0)]:List (Str×Value)).reverse.lookup x0=some u0;simp
  |succ j=>have h1:(clos.map (·.1))[j]?=some y:=h1;have h2:(fvs.map some)[j]?=some (some v):=h2;rw[mB]at h1 h2;obtain⟨⟨y',d⟩,hd,rfl⟩:=mI.mp h1;obtain⟨v',hv,ev⟩:=mI.mp h2;obtain rfl:=kM ev;obtain⟨a1,a2,v2,u,a3,a4,a5⟩:=S.at' j _ d hd;rw[hv]at a3;obtain rfl:=kM a3;exact⟨u,a4,.inr ⟨.inr a1,d,a2,a5.keeps λb o e=>hk b o (e0.bs b o e).1⟩⟩
 ·obtain⟨u,hu⟩:=cat y d e;exact⟨_,hu.keeps λb o e=>hk b o (e0.bs b o e).1⟩
 ·obtain⟨u,o,ho,_⟩:=cat y d e;exact(e0.bs _ _ ho).2
 show(some v0::fvs.map some).length=(x0::clos.map (·.1)).length;rw[mG,mG,kB,kB,S.len]
exact g8 (ht [] _ _ H _ I hq) (λu s' ⟨v,H',J,rv,q⟩=>⟨v,H',J.os,J.bare,J.base,J.hok,rv,q⟩) λe s' hs=>hs)
theorem qGE{scope:Scope}{env:Env}(h:(scope.names.all λy=>decide (y.2≠ .free)||(env.cells.lookup y.1).isSome)=true):closureFor scope env=pure (clOf env scope.names []):=q5O λy hy hf=>by(
 have q:=dY.mp h y hy;rw[wP,kQ]at q;rcases q with q|q
 ·exact absurd hf q
 exact cK.mp q)
theorem qCN{scope:Scope}{x0 y:Str}{ca:Addr}{v:V}{u:Value}{base:Heap}(hk:scope.kind=.function)(hco:scope.isCoroutine=false)(hg:scope.isGenerator=false)(hp:scope.names.lookup x0=some .local)
 (hn:(scope.names.all λz=>decide (z.2≠ .cell)&&(decide (z.2≠ .free)||decide (z.1=y)))=true) (hf:scope.names.lookup y=some .free) (r:RelV v u) (hc:base.IsCell ca (some u)):LamSc scope x0 [(y,ca)] [v] base:=by(
have at1:∀z∈scope.names,z.2≠ .cell∧(z.2≠ .free∨z.1=y):=λz hz=>by have q:=dY.mp hn z hz;rw[mR,wP,kQ,kQ,kQ]at q;exact q
have lk:([(y,ca)]:List (Str×Addr)).lookup y=some ca:=by simp
have one:∀x c,([(y,ca)]:List (Str×Addr)).lookup x=some c→x=y∧c=ca:=λx c e=>by have m:=gQ e;simpa using m
refine⟨hk,hco,hg,hp,λz hz=>(at1 z hz).1,λz hz=>?_,λa b c h1 h2=>?_,λj x c h=>?_,rfl⟩
·have m:=(at1 _ (gQ hz)).2;rcases m with m|m
 ·exact absurd rfl m
 exact⟨ca,by rw[show z=y from m];exact lk⟩
·rw[(one _ _ h1).1,(one _ _ h2).1]
match j,h with
|0,h=>
 obtain⟨rfl,rfl⟩:y=x∧ca=c:=by simpa using h
 exact⟨hf,lk,v,u,rfl,r,hc⟩
|j+1,h=>exact absurd h (by simp))
theorem q9G{env:Env}{names:List (Str×NameKind)}{y:Str}{ca:Addr}(e:env.cells.lookup y=some ca)(h:clOf env names []=match env.cells.lookup y with|some a=>[(y,a)] |none=>[]):clOf env names []=[(y,ca)]:=by rw[h,e]
noncomputable def qJ6(T:Addr)(pos:Pos)(qual:Str)(params:Arguments)(body:Expr)(scope:Scope)(clos:List (Str×Addr))(pm:Value):TE:=λσ H Q=>∃ps c',H T=some (.tbl ps)∧TriplesOk ps.toList∧codeAmong pos ps.toList=some (.ref c')∧∀(f:Addr) (ctv:Value),H f=none→Q (.ref f) (upd H f (fnO f (kla_fn "<lambda>" qual params body scope clos pm (.ref c') ctv)))
theorem qEK{X:Cx}{c T:Addr}{params:Arguments}{body:Expr}{scope:Scope}{pos:Pos}{clos:List (Str×Addr)}(hcode:X.env.code=.ref c)(hcd:codeHdIn X.K c T=true)(B:BmIn X.base X.mg)(hcl:closureFor scope X.env=pure clos)(hdef:defaultsOf params X.env=([],[])):
 PE X (.Lambda params body scope pos) (qJ6 T pos (X.env.qual++"<lambda>") params body scope clos ((X.mg "__name__").getD .none)):=by(
intro pins s σ H Q I hZ
obtain⟨ps,c',hT,ht,hnf,q⟩:=hZ
have hP:s.heap.get? T=some (tabObj ps):=I.hok T _ hT
have hgs:s.heap.Ns mainGlobals X.mg:=I.ok.mod.glob.keeps I.bk
obtain⟨bm,ob,b1,b2,b3,b4,b5,b6⟩:=B
have b3':=I.bk _ _ b3
have hbP:bm≠T:=λz=>by rw[z,hP]at b3';cases b3';cases b4
have hbG:bm≠mainGlobals:=λz=>by obtain⟨o,es,ep,e,hd,_⟩:=hgs;rw[z,e]at b3';cases b3';rw[hd]at b6;cases b6
refine kla_eval hdef (kla_makeFunctionHit (clos:=clos) hcl I.ok.glob hgs hcode (xX I.kIn hcd) hP ht hnf ⟨bm,ob,b1,b2,hbG,hbP,b3',b4,b5,b6⟩ λctv h' tk hx sz=>?_)
have trk:∀b u,s.heap.get? b=some u→∀o,(h'.push o).get? b=some u:=λb u e o=>kE _ (hx b u e)
have nF:H h'.objs.size=none:=I.hok.fresh sz
refine⟨.ref h'.objs.size,_,?_,rfl,q _ ctv nF⟩
refine I.un (t':=tk) ⟨λb o e n _ _=>trk b o e _,λb o e n _ _=>⟨o.slots,trk b o e _⟩,λb o e n _=>?_,λb o e _=>⟨o,trk b o e _⟩,λb xs e=>?_,λb o u e=>?_,λb qs e=>?_⟩ λb u e=>?_
·rw[qC (mP (mW (kP e) sz))];exact n
·rw[qC (qH e nF)];exact e
·rw[qC (qH e nF)];exact e
·exact⟨#[],by rw[qC (qH e nF),e];simp⟩
by_cases z3:b=h'.objs.size
·subst z3;rw[qG]at e;cases e;exact qEG (mJ _ rfl)
rw[qC z3]at e
refine(I.hok b u e).stay (λd v hd r=>trk d v r _) (λd r=>?_) λd xs r=>?_
·rw[qC (qH r nF)];exact r
rw[qC (qH r nF)];exact r)
noncomputable def qKL(T:Addr)(pos:Pos)(qual:Str)(params:Arguments)(body:Expr)(scope:Scope)(clos:List (Str×Addr))(pm:Value):TE:=λσ H Q=>∃ps,H T=some (.tbl ps)∧TriplesOk ps.toList∧((codeAmong pos ps.toList=none∧∀(f c':Addr) (ctv:Value) (H':Hp),H f=none→H' f=some (fnO f (kla_fn "<lambda>" qual params body scope clos pm (.ref c') ctv))→H' c'=some (cdO c' qual)→H' T=some (.tbl (ps++#[rawInt pos.line,rawInt pos.col,.ref c']))→(∀b o,b≠T→H b=some o→H' b=some o)→Q (.ref f) H')∨∃c',codeAmong pos ps.toList=some (.ref c')∧∀(f:Addr) (ctv:Value) (H':Hp),H f=none→H' f=some (fnO f (kla_fn "<lambda>" qual params body scope clos pm (.ref c') ctv))→Same H H'→Q (.ref f) H')
theorem qBJ{X:Cx}{c T:Addr}{params:Arguments}{body:Expr}{scope:Scope}{pos:Pos}{clos:List (Str×Addr)}(hcode:X.env.code=.ref c)(hcd:codeHdIn X.K c T=true)(B:BmIn X.base X.mg)(hcl:closureFor scope X.env=pure clos)(hdef:defaultsOf params X.env=([],[])):
 PE X (.Lambda params body scope pos) (qKL T pos (X.env.qual++"<lambda>") params body scope clos ((X.mg "__name__").getD .none)):=λpins s σ H Q I ⟨ps,hT,ht,h⟩=>by(
rcases h with⟨hn,q⟩|⟨c',hn,q⟩
·exact qGC hcode hcd B hcl hdef pins s σ H Q I ⟨ps,hT,ht,hn,λf c' ctv nf nc fc=>q f c' ctv _ nf qG (by rw[qC fc.symm];exact qG) (by rw[qC (qH hT nf),qC (qH hT nc)];exact qG) λb o nb e=>by rw[qC (qH e nf),qC (qH e nc),qC nb];exact e⟩
exact qEK hcode hcd B hcl hdef pins s σ H Q I ⟨ps,c',hT,ht,hn,λf ctv nf=>q f ctv _ nf qG (Same.upd nf)⟩)
theorem qBK{X:Cx}{CX:CXT}{k:Nat}{f:Addr}{fd:FuncData}{ps:List Str}{sp:Heap→Sp}{dvs:List V}{ds:List Value}{E:XK}{pins:List (Addr×Obj)}{σ:St}{H:Hp}{s:Shared}{Q:VK}{us:List Value}{vs:List V}(ix:List (Nat×Str))
 (hix:∀p∈ix,X.N[p.1]?=some p.2∧X.env.scope.names.lookup p.2=some .cell∧X.fn p.2=true)
 (F:∀base',(∀b o,X.base.get? b=some o→base'.get? b=some o)→q1F X.env.cells σ base' ix→FnOk X.prog X.w X.K X.mg base' CX k f fd ps (sp base')) (hr:Room k X.A) (hb:jL X.K fd ps ds) (hd:Vals dvs ds) (hx:q0M CX X E)
 (I:Inv X pins σ H s) (r:Vals vs us) (h:∀base',(∀b o,X.base.get? b=some o→base'.get? b=some o)→q1F X.env.cells σ base' ix→sp base' (vs++dvs) H Q E):wpAny (model X.prog X.w) X.A (call (.ref f) us) (EP X pins σ Q) X.xe s:=by(
have r2:Vals (vs++dvs) (us++ds):=r.append hd
obtain⟨e0,up,cel⟩:=I.env0C (ix.filterMap λp=>X.env.cells.lookup p.2) (λc hc=>by obtain⟨p,hp,e⟩:=wI.mp hc;exact⟨p.2,(hix p hp).2.2,e⟩)
have cv:q1F X.env.cells σ (hidT s.heap (vD X.base (ix.filterMap λp=>X.env.cells.lookup p.2))) ix:=λp hp v hv=>by
 obtain⟨h1,h2,h3⟩:=hix p hp;obtain⟨m,_,hl⟩:=I.loc;obtain⟨u,ru,lk⟩:=hl p.1 p.2 v h1 hv (.inr (.inl h2));rcases lk with⟨z,_⟩|⟨_,c,hc,o,ho,hd⟩
 ·have z:X.env.scope.names.lookup p.2=some .local:=z;rw[h2]at z;cases z
 exact⟨c,u,hc,ru,o,cel c (wI.mpr ⟨p,hp,hc⟩) o ho,hd⟩
have q:=h _ up cv
have hl:(us++ds).length=ps.length:=by rw[←r2.length];exact(F _ up cv).len _ _ _ _ q
refine cQ (cY ((F _ up cv).run X.A X.stack s H ⟨us,[]⟩ (us++ds) (vs++dvs) Q E hr e0 (hb s us I.kIn hl) r2 q) λr s' hq=>?_)
cases r with
|error e=>exact hx pins σ H s e s' I hq
|ok fl=>
 cases fl with
 |ret u=>exact I.after hq
 |next=>exact False.elim hq
 |brk=>exact False.elim hq
 |cont=>exact False.elim hq)
section
variable{X:Cx}{pins:List (Addr×Obj)}{σ:St}{H:Hp}{s:Shared}
theorem qCO{P:PySem.Fin→Shared→Prop}{EE:Value→Shared→Prop}{a f:Addr}{n:Nat}{vs:List Value}{us:List V}(I:Inv X pins σ H s)
 (ho:s.heap.get? a=some (seqObj "list" vs.toArray n)) (fa:FpOk X pins H a) (ha:X.s₀.heap.objs.size≤a) (rv:Vals us vs) (h64:us.length<64)
 (Pv:Nat→List V→Hp→Prop) (h0:Pv 0 [] H) (hs:∀i x zs H' pins' s' u,us[i]?=some x→RelV x u→Pv i zs H'→Inv { X with A:=X.A.in1.in1,xe:=λ_ _=>False } pins' σ H' s'→wpAny (model X.prog X.w) X.A.in1.in1 (call (.ref f) [u]) (EP { X with A:=X.A.in1.in1,xe:=λ_ _=>False } pins' σ (λz H''=>Pv (i+1) (zs++[z]) H'')) (λ_ _=>False) s')
 (hd:∀zs H',H' a=none→zs.length=us.length→Pv us.length zs H'→∃kk m,Paired (TupI X.K H') zs kk∧(∀k∈kk,k.length=m)∧0<m∧∀q:List Nat,q.Perm (List.range us.length)→(q.map λi=>kk.getD i []).Pairwise (λa b=>lx b a=false)→∀s',Inv X pins σ (upd H' a (.lst (q.map λi=>us.getD i .non))) s'→P (.done (.ret .none)) s'):
 wpAny (model X.prog X.w) X.A.in1.in1 (ksk_tree a (.ref f) false) P EE s:=by(
have hal:a<s.heap.objs.size:=kP ho
have hl:=rv.length
obtain⟨e1,g1⟩:∃e1,(s.heap.update a (Obj.mapSeq λ_=>(#[]:Array Value))).get? a=some (seqObj "list" #[] e1):=⟨_,wQ ho λ_=>#[]⟩
unfold ksk_tree
refine hV (xJ ho rfl (hV (wU ho rfl (hV (sF g1 rfl ?_)) (by rw[mD,gG];lia) (mU _))))
refine hV (wpAny_newTuple (hV (wV (gL ?_) (mU _))) (by show vs.length≤_;rw[gG];lia))
have hks:((s.heap.update a (Obj.mapSeq λ_=>(#[]:Array Value))).push (seqObj "tuple" vs.toArray 0)).objs.size=s.heap.objs.size+1:=by rw[nI,sQ]
obtain⟨kS,eks⟩:∃kS:Addr,kS=((s.heap.update a (Obj.mapSeq λ_=>(#[]:Array Value))).push (seqObj "tuple" vs.toArray 0)).objs.size:=⟨_,rfl⟩
have ksz:s.heap.objs.size≤kS:=by rw[eks,hks];exact dD _
have ne:kS≠a:=dG (mW hal ksz)
show wpAny (model X.prog X.w) X.A.in1.in1 (ksk_rest a (.ref f) false vs.toArray e1 (.ref ((s.heap.update a (Obj.mapSeq λ_=>(#[]:Array Value))).push (seqObj "tuple" vs.toArray 0)).objs.size)) P EE { s with heap:=((s.heap.update a (Obj.mapSeq λ_=>(#[]:Array Value))).push (seqObj "tuple" vs.toArray 0)).push (seqObj "list" #[] 0) }
rw[←eks]
have gk0:(((s.heap.update a (Obj.mapSeq λ_=>(#[]:Array Value))).push (seqObj "tuple" vs.toArray 0)).push (seqObj "list" #[] 0)).get? kS=some (seqObj "list" #[] 0):=by rw[eks];exact mJ _ rfl
have ga0:=kE (seqObj "list" #[] 0) (kE (seqObj "tuple" vs.toArray 0) g1)
have I0:Inv X pins σ H { s with heap:=((s.heap.update a (Obj.mapSeq λ_=>(#[]:Array Value))).push (seqObj "tuple" vs.toArray 0)).push (seqObj "list" #[] 0),toks:=s.toks }:=I.turnedN (fp:=[a]) (λb o hb' e=>kE _ (kE _ ((kW _ _ (λz=>hb' (h9.mpr z.symm))).trans e))) (λb hb'=>by rw[h9.mp hb'];exact fa)
have fk0:FpOk X pins H kS:=I.fpOk ksz (I.hok.fresh ksz)
have fp:∀{H':Hp} {b:Addr},FpOk X pins H b→H' b=none→FpOk X pins H' b:=λf e=>⟨e,f.2⟩
unfold ksk_rest
refine hV (wpAny_rule ?_)
first
 |rw[List.forIn_toArray]
 |(rw[←Array.forIn_toList];simp only[List.toList_toArray])
refine hV (ksk_fold (I:=λi s'=>∃H' zs ks e,Inv X pins σ H' s'∧s'.heap.get? a=some (seqObj "list" #[] e1)∧s'.heap.get? kS=some (seqObj "list" (List.toArray ks) e)∧Vals zs ks∧zs.length=i∧Pv i zs H'∧H' a=none∧H' kS=none) vs 0 _ ⟨H,[],[],0,I0,ga0,gk0,.nil,rfl,h0,fa.1,fk0.1⟩ (λj x s' hx hJ=>?_) λs' hJ=>?_)
·obtain⟨H',zs,ks,e,I1,ga,gk,rz,lz,pv,na,nk⟩:=hJ;rw[nK]at lz pv ⊢;have hj:j<vs.length:=(kD.mp hx).1;obtain⟨y,ey,ry⟩:=rv.atN (j:=j) hj;obtain rfl:vs[j]=x:=(kD.mp hx).2;have I2:=(I1.near (A':=X.A.in1.in1) rfl rfl λ_ _=>False).pinned (fp:=[a,kS]) (λb hb'=>by
  simp only[kI,gE,rK]at hb';rcases hb' with rfl|rfl
  ·exact fp fa na
  ·exact fp fk0 nk) (λb hb'=>by
  simp only[kI,gE,rK]at hb';rcases hb' with rfl|rfl
  ·exact⟨_,ga,λv z=>by cases z⟩
  exact⟨_,gk,λv z=>by cases z⟩)
 refine hV (lO (g8 (hs j y zs H' _ _ _ ey ry pv I2) (λu s'' hq=>?_) λ_ _ z=>z.elim));obtain⟨z,H'',I3,ru,q⟩:=hq;have pa:=I3.pin (a,seqObj "list" #[] e1) (kU _ (kU _ (yB (by simp) ga)));have pk:=I3.pin (kS,seqObj "list" (List.toArray ks) e) (kU _ (kU _ (yB (by simp) gk)));have lk:=rz.length;have ea:(List.toArray ks).push u=List.toArray (ks++[u]):=by simp
 obtain⟨c2,g2⟩:∃c2,(s''.heap.update kS (Obj.mapSeq (·.push u))).get? kS=some (seqObj "list" (List.toArray (ks++[u])) c2):=⟨_,by rw[←ea];exact wQ pk.1 (·.push u)⟩;try dsimp only
 refine hV (wU pk.1 rfl ?_ (by rw[mD,gG];lia) (mF (cX (Array.size_push ..)) (by rw[mD,gG];lia)));have I4:Inv X pins σ H'' s'':=(I3.unpinned).near (A':=X.A) rfl rfl X.xe;have I5:Inv X pins σ H'' { s'' with heap:=s''.heap.update kS (Obj.mapSeq (·.push u)),toks:=s''.toks }:=I4.turnedN (fp:=[kS]) (λb o hb' e=>(kW _ _ (λz=>hb' (h9.mpr z.symm))).trans e) (λb hb'=>by rw[h9.mp hb'];exact fp fk0 pk.2.1);exact kY ⟨rfl,H'',zs++[z],ks++[u],c2,I5,(kW _ _ ne).trans pa.1,g2,rz.append (.cons ru .nil),by rw[mH,lz];rfl,q,pa.2.1,pk.2.1⟩
obtain⟨H',zs,ks,e,I1,ga,gk,rz,lz,pv,na,nk⟩:=hJ
rw[nK,←hl]at lz pv
obtain⟨kk,m,hti,hw,hm,fin⟩:=hd zs H' na lz pv
try dsimp only
refine hV (xJ gk rfl ?_)
exact qG7 I1 (fp fa na) (fp fk0 nk) ha ne ga gk rz rv lz h64 hti hw hm fin)
end
noncomputable def oneQ(R:V→Hp→Prop):List V→Hp→Prop
| [v],H=>R v H
|_,_=>False
theorem qBL{R:V→Hp→Prop}:∀{xs:List V} {H:Hp},oneQ R xs H→∃v,xs=[v]∧R v H
| [v],_,h=>⟨v,rfl,h⟩
| [],_,h=>h.elim
|_::_::_,_,h=>h.elim
noncomputable def tSL(P:Program)(w:World)(K:PySem.W.Frag)(mg:Str→Option Value)(base:Heap)(cells:List (Str×Addr))(ix:List (Nat×Str))(k:Nat)(x:Str)(tl:TE)(ta:TA):TE:=λσ H Q=>ta σ H λvs H1=>tl σ H1 λfv H2=>∃(f:Addr) (fd:FuncData) (sp:Heap→Sp),fv=.ref f∧(∀base',(∀b o,base.get? b=some o→base'.get? b=some o)→q1F cells σ base' ix→FnOk P w K mg base' CX0 k f fd [x] (sp base'))∧jL K fd [x] []∧∃(l:Addr) (us:List V) (Pv:Nat→List V→Hp→Prop),vs=[.ref l]∧SqL K H2 l us∧us.length<64∧Pv 0 [] H2∧(∀base' i x zs H',q1F cells σ base' ix→us[i]?=some x→Pv i zs H'→sp base' [x] H' (λz H''=>Pv (i+1) (zs++[z]) H'') E0)∧∀zs H',zs.length=us.length→Pv us.length zs H'→∃kk m,Paired (TupI K H') zs kk∧(∀k∈kk,k.length=m)∧0<m∧∀q:List Nat,q.Perm (List.range us.length)→(q.map λi=>kk.getD i []).Pairwise (λa b=>lx b a=false)→NewO H' (.lst (q.map λi=>us.getD i .non)) Q
theorem qAI{X:Cx}{k:Nat}{x:Str}{e le:Expr}{tl:TE}{ta:TA}{p kp pos:Pos}(ix:List (Nat×Str))(hix:∀p∈ix,X.N[p.1]?=some p.2∧X.env.scope.names.lookup p.2=some .cell∧X.fn p.2=true)(hr:Room (k+2) X.A)(hg:Gl X "sorted")(hm:X.mg "sorted"=none)(hl:PE X le tl)(ha:PA X [e] ta)
 (he:starEach [e] X.env=[(false,eval e X.env)]:=by rfl) (hse:starEach ([]:List Expr) X.env=[]:=by rfl):
 PE X (.Call (.Name "sorted" p) [e] [⟨some "key",le,kp⟩] pos) (tSL X.prog X.w X.K X.mg X.base X.env.cells ix k x tl ta):=by(
intro pins s σ H Q I h
refine g9 (q0K I hg hm (u:=.builtin "sorted") (by kernel_rfl) ?_ (by decide) (by decide))
refine xY (thn (ha pos pins s σ H _ I h) λus s1 ⟨vs,H1,I1,r1,q1⟩=>?_) (by rw[he,hse];rfl) (by rw[he];rfl)
have pk:PK X [⟨some "key",le,kp⟩] (q8X tl tNil):=q7W hl qA5
refine thn (pk pos pins s1 σ H1 (oneQ _) I1 q1) λws s2 hZ=>?_
obtain⟨xs,H2,I2,r2,q2⟩:=hZ
obtain⟨v,rfl,f,fd,sp,rfl,F,hb,q2⟩:=qBL q2
obtain⟨w,rfl,rw⟩:=q05 r2
obtain rfl:w=Value.ref f:=rw
obtain⟨l,us',Pv,ev,hq,h64,p0,hs,hd⟩:=q2
subst ev
obtain⟨u,rfl,ru⟩:=q05 r1
obtain rfl:u=Value.ref l:=ru
obtain⟨its,rv,pl,hz⟩:=I2.list hq
have hlen:=rv.length
show wpAny (model X.prog X.w) X.A (call (.builtin "sorted") [.ref l] [(Str.ofString "key",.ref f)]) _ _ _
refine call_function_entry_kw xW xL xM (ksk_s1 _ _) ?_
unfold Builtin.«sorted»
refine hV (m:=checkCount "sorted" 1 1 _) (kY (hV (collect_list pl.isList (hV (wV ?_ (by rw[gG];show its.length≤_;lia))))))
have hsz:((s2.heap.push (seqObj "list" #[] 0)).update s2.heap.objs.size (Obj.mapSeq (· ++its.toArray))).objs.size=s2.heap.objs.size+1:=by rw[sQ,nI]
have g:(((s2.heap.push (seqObj "list" #[] 0)).update s2.heap.objs.size (Obj.mapSeq (· ++its.toArray))).push (seqObj "list" its.toArray 0)).get? (s2.heap.objs.size+1)=some (seqObj "list" its.toArray 0):=by rw[←hsz];exact mJ _ rfl
show wpAny _ _ _ _ _ { s2 with heap:=((s2.heap.push (seqObj "list" #[] 0)).update s2.heap.objs.size (Obj.mapSeq (· ++its.toArray))).push (seqObj "list" its.toArray 0) }
rw[hsz]
have I3:Inv X pins σ H2 { s2 with heap:=((s2.heap.push (seqObj "list" #[] 0)).update s2.heap.objs.size (Obj.mapSeq (· ++its.toArray))).push (seqObj "list" its.toArray 0),toks:=s2.toks }:=I2.kept (t':=s2.toks) λb o e=>kE _ ((kW _ _ (dG (kP e))).trans (kE _ e))
refine hV (gL (wpAny_call_entry_kw lF ⟨_,g,rfl⟩ nN ?_ (ksk_l1 _ _)))
rw[ksk_t1]
have fr:s2.heap.objs.size≤s2.heap.objs.size+1:=dD _
refine qCO I3 g (I2.fpOk fr (I2.hok.fresh fr)) (mF I2.sz fr) rv h64 Pv p0 (λi x zs H' pins' s' u hx rx pv I'=>qBK (X:={ X with A:=X.A.in1.in1,xe:=λ_ _=>False }) (dvs:=[]) (ds:=[]) (E:=E0) ix hix F hr.in1.in1 hb .nil qK I' (.cons rx .nil) (λbase' up cv=>hs base' i x zs H' cv hx pv)) λzs H' na lz pv=>?_
obtain⟨kk,m,a1,a2,a3,a4⟩:=hd zs H' lz pv
refine⟨kk,m,a1,a2,a3,λq b1 b2 s' I'=>⟨_,rfl,kY ⟨_,rfl,.ref _,_,I',rfl,(a4 q b1 b2).at _ na⟩⟩⟩)
end L2
namespace W1
open PySem L2
structure QM where
P:Nat
B:Nat
nx:Int
V:Mp
lv:List Int
fi:List Int
bo:List Int
namespace QM
structure Ok(m:QM):Prop where
p1:1≤m.P
p2:m.P≤16
b2:m.B≤16
ll:m.lv.length=m.B
lf:m.fi.length=m.B
lo:m.bo.length=m.B
nd:(m.V.map (·.1)).Nodup
nm:∀q∈m.V,0≤q.1∧q.1≤64
blk:∀q∈m.V,∃b:Nat,b<m.B∧q.2 / (m.P:Int)=(b:Int)
wr:∀b,b<m.B→∃f:Nat,m.fi.getD b 0=(f:Int)∧f≤m.P
variable{m:QM}
theorem Ok.lenV(h:m.Ok):m.V.length≤65:=by
 have:=qHJ (l:=m.V.map (·.1)) (m:=(List.range 65).map λi:Nat=>(i:Int)) h.nd λx hx=>by obtain⟨q,hq,rfl⟩:=kZ.mp hx;have:=h.nm q hq;exact kZ.mpr ⟨q.1.toNat,mV.mpr (by lia),by lia⟩
 rw[kB,kB,gC]at this;exact this
noncomputable def forget(m:QM)(n:Int):QM:={ m with V:=jB m.V n,lv:=BM.lvF m.P m.V m.lv n }
theorem find_V{n:Int}:(∃p,(n,p)∈m.V∧m.V.find? (λq=>decide (q.1=n))=some (n,p))∨((∀q∈m.V,q.1≠n)∧m.V.find? (λq=>decide (q.1=n))=none):=by(
cases e:m.V.find? (λq=>decide (q.1=n))with
|none=>refine .inr ⟨λq hq z=>?_,rfl⟩;have:=wN.mp e q hq;exact this (hG z)
|some q=>
 have h1:q.1=n:=by have:=d9 e;simpa using this
 have h2:=rP e;refine .inl ⟨q.2,by rw[←h1];exact h2,by rw[←h1]⟩)
theorem lvF_len{n:Int}:(BM.lvF m.P m.V m.lv n).length=m.lv.length:=by(
unfold BM.lvF
split
·rw[gM]
rfl)
theorem Ok.forget(h:m.Ok)(n:Int):(m.forget n).Ok:={ h with ll:=by show(BM.lvF m.P m.V m.lv n).length=m.B;rw[lvF_len];exact h.ll,nd:=q5Y h.nd,nm:=λq hq=>h.nm q (jC.mp hq).1,blk:=λq hq=>h.blk q (jC.mp hq).1 }
noncomputable def put(m:QM)(b f:Nat)(n:Int):QM:={ m with V:=jB m.V n++[(n,((b*m.P+f:Nat):Int))],lv:=(BM.lvF m.P m.V m.lv n).set b ((BM.lvF m.P m.V m.lv n).getD b 0+1),bo:=if m.fi.getD b 0=0 then m.bo.set b m.nx else m.bo,fi:=m.fi.set b (m.fi.getD b 0+1),nx:=m.nx+1 }
theorem Ok.put(h:m.Ok){b f:Nat}{n:Int}(hb:b<m.B)(hf:f<m.P)(ef:m.fi.getD b 0=(f:Int))(n0:0≤n)(n1:n≤64):(m.put b f n).Ok where
p1:=h.p1
p2:=h.p2
b2:=h.b2
ll:=by show(List.set _ _ _).length=m.B;rw[gM,lvF_len];exact h.ll
lf:=by show(List.set _ _ _).length=m.B;rw[gM];exact h.lf
lo:=by
 show(if m.fi.getD b 0=0 then m.bo.set b m.nx else m.bo).length=m.B;split
 ·rw[gM];exact h.lo
 exact h.lo
nd:=by
 show((jB m.V n++[(n,((b*m.P+f:Nat):Int))]).map (·.1)).Nodup;rw[m8];refine wY.mpr ⟨q5Y h.nd,by simp,λa ha c hc=>?_⟩;obtain⟨q,hq,rfl⟩:=kZ.mp ha;have hc:c=n:=by simpa using hc
 rw[hc];exact(jC.mp hq).2
nm:=λq hq=>by
 rcases gF.mp hq with hq|hq
 ·exact h.nm q (jC.mp hq).1
 rw[h9.mp hq];exact⟨n0,n1⟩
blk:=λq hq=>by
 rcases gF.mp hq with hq|hq
 ·exact h.blk q (jC.mp hq).1
 rw[h9.mp hq];refine⟨b,hb,?_⟩;show((b*m.P+f:Nat):Int) / (m.P:Int)=_;rw[←rH,yC hf]
wr:=λc hc=>by
 show ∃g:Nat,(m.fi.set b (m.fi.getD b 0+1)).getD c 0=(g:Int)∧g≤m.P;rw[jG];split
 ·exact⟨f+1,by rw[ef];rfl,hf⟩
 exact h.wr c hc
end QM
noncomputable def vn(b:Nat):V:=.int (b:Int)
noncomputable def yY(B:Nat)(br:List Bool):List Nat:=(List.range B).filter λb=>!(br.getD b false)
noncomputable def yO(B:Nat)(br:List Bool)(fi:List Int):List Nat:=(yY B br).filter λb=>decide (fi.getD b 0=0)
noncomputable def keyN(cl:List Int)(b:Nat):List Int:=[cl.getD b 0,(b:Int)]
structure FreeIs(B:Nat)(br:List Bool)(cl fi:List Int)(l:List Nat):Prop where
pm:l.Perm (yO B br fi)
so:(l.map (keyN cl)).Pairwise λa b=>lx b a=false
theorem qGF{cl:List Int}{a b:Nat}(h:keyN cl a=keyN cl b):a=b:=by(
unfold keyN at h
injection h with _ h
injection h with h _
lia)
theorem q08{B:Nat}{br:List Bool}{b:Nat}:b∈yY B br↔b<B∧br.getD b false=false:=by unfold yY;rw[mK,mV,d7]
theorem q7L{B:Nat}{br:List Bool}{fi:List Int}{b:Nat}:b∈yO B br fi↔(b<B∧br.getD b false=false)∧fi.getD b 0=0:=by unfold yO;rw[mK,q08,kQ]
theorem q1G{B:Nat}{br:List Bool}:(yY B br).length≤B:=mF (mE _ _) (by rw[gC];exact kN _)
theorem qCP{B:Nat}{br:List Bool}{fi:List Int}:(yO B br fi).length≤B:=mF (mE _ _) q1G
theorem FreeIs.mem{B:Nat}{br:List Bool}{cl fi:List Int}{l:List Nat}(h:FreeIs B br cl fi l){b:Nat}(hb:b∈l):b<B∧br.getD b false=false∧fi.getD b 0=0:=by have:=q7L.mp (h.pm.mem_iff.mp hb);exact⟨this.1.1,this.1.2,this.2⟩
noncomputable def jW(P:Nat)(fi:List Int)(b:Nat):Bool:=decide (0<fi.getD b 0)&&decide (fi.getD b 0<(P:Int))
noncomputable def jK(B P:Nat)(br:List Bool)(fi:List Int):Option Nat:=(yY B br).find? (jW P fi)
theorem q0Q{B P:Nat}{br:List Bool}{fi:List Int}{b:Nat}(h:jK B P br fi=some b):b<B∧br.getD b false=false∧0<fi.getD b 0∧fi.getD b 0<(P:Int):=by(
have h1:=q08.mp (rP h)
have h2:=d9 h
unfold jW at h2
rw[mR,kQ,kQ]at h2
exact⟨h1.1,h1.2,h2.1,h2.2⟩)
noncomputable def q15(B P:Nat)(br:List Bool)(fi:List Int)(l:List Nat):Option Nat:=match jK B P br fi with
|some b=>some b
|none=>l.head?
theorem q9H{B P:Nat}{br:List Bool}{cl fi:List Int}{l:List Nat}(hl:FreeIs B br cl fi l)(hP:1≤P){b:Nat}(h:q15 B P br fi l=some b):b<B∧br.getD b false=false∧0≤fi.getD b 0∧fi.getD b 0<(P:Int):=by(
unfold q15 at h
split at h
·rename_i b' e;cases h;have:=q0Q e;exact⟨this.1,this.2.1,by lia,this.2.2.2⟩
cases l with
|nil=>cases h
|cons c r=>cases h;have:=hl.mem kX;exact⟨this.1,this.2.1,by lia,by lia⟩)
noncomputable def pgV(P:Nat)(fi:List Int):Option Nat→V
|none=>.non
|some b=>.int ((b:Int)*(P:Int)+fi.getD b 0)
noncomputable def oV:Option Nat→V
|none=>.non
|some b=>.int (b:Int)
theorem q5Z{α β:Type}{L:List α}{f:α→β}{d:β}{e:α}:∀{q:List Nat},(∀i∈q,i<L.length)→(q.map λi=>(L.map f).getD i d)=(q.map λi=>L.getD i e).map f
| [],_=>rfl
|i::q,h=>by have hi:=h i kX;rw[mL,mL,mL,q5Z (q:=q) λj hj=>h j (hU _ hj)];congr 1;rw[kL,kL,mB,kC hi];rfl
theorem qAJ{α:Type}{L:List α}{e:α}{q:List Nat}(h:q.Perm (List.range L.length)):(q.map λi=>L.getD i e).Perm L:=by(
have:=h.map λi=>L.getD i e
refine this.trans ?_
have eq:(List.range L.length).map (λi=>L.getD i e)=L:=by refine wE (by simp) λi h1 h2=>?_;rw[sS,p9,kL,kC h2];rfl
rw[eq])
theorem qGG{B:Nat}{br:List Bool}{cl fi:List Int}{q:List Nat}(h:q.Perm (List.range (yO B br fi).length))(so:(q.map λi=>((yO B br fi).map (keyN cl)).getD i []).Pairwise λa b=>lx b a=false):FreeIs B br cl fi (q.map λi=>(yO B br fi).getD i 0):=by(
have hin:∀i∈q,i<(yO B br fi).length:=λi hi=>mV.mp (h.mem_iff.mp hi)
refine⟨qAJ h,?_⟩
rw[q5Z (e:=0) hin]at so
exact so)
theorem q7M{α β:Type}{L:List α}{f:α→β}{i:Nat}{x:α}(h:L[i]?=some x):(L.take (i+1)).map f=(L.take i).map f++[f x]:=by(
have hi:=(kD.mp h).1
obtain rfl:L[i]=x:=(kD.mp h).2
rw[←mY hi,m8]
rfl)
theorem qGH{a b:List Int}(h:lx a b=true):lx b a=false:=by(
cases z:lx b a with
|false=>rfl
|true=>have:=q07 a b a h z;rw[q2W]at this;cases this)
theorem qHL{a b c:List Int}(h1:lx b a=false)(h2:lx c b=false):lx c a=false:=by(
cases z:lx c a with
|false=>rfl
|true=>
 cases y:lx a b with
 |true=>have:=q07 c a b z y;rw[h2]at this;cases this
 |false=>have e:=q40 a b y h1;rw[e]at z;rw[h2]at z;cases z)
theorem FreeIs.ex(B:Nat)(br:List Bool)(cl fi:List Int):∃l,FreeIs B br cl fi l:=by(
refine⟨(yO B br fi).mergeSort λa b=>!(lx (keyN cl b) (keyN cl a)),lL _ _,?_⟩
have:=sU (le:=λa b=>!(lx (keyN cl b) (keyN cl a))) (λa b c h1 h2=>by
 rw[d7]at h1 h2 ⊢;exact qHL h1 h2) (λa b=>by
 cases z:lx (keyN cl b) (keyN cl a)with
 |false=>rfl
 |true=>rw[qGH z];rfl) (yO B br fi)
rw[g4]
exact this.imp λh=>by rw[d7]at h;exact h)
theorem rep8{α:Type}{n i:Nat}{y:α}:(List.replicate n y).getD i y=y:=by rw[kL,wC];split<;>rfl
end W1
namespace W1
noncomputable def orB:List Nat→Nat→Nat
| [],b=>b
|s::r,b=>orB r (b|||2 ^ s)
end W1
namespace W1
open PySem L2
theorem yA{B:Nat}:yY B (List.replicate B false)=List.range B:=by(
unfold yY
refine dQ.mpr λb _=>?_
rw[rep8]
rfl)
end W1
namespace L2
open PySem PySem.Spec PyProof.Rows
structure ClM(K:PySem.W.Frag)(W:Addr)(m:Str)(f:Addr):Prop where
rd:PySem.W.readsIn K W (.type "type")=true
fd:PySem.W.findCls K (.ref W) (.type "type") m=some (.val (.ref f))
ga:PySem.W.specialIn K (.ref W) "__getattribute__"=some (some (.builtin "type.__getattribute__"))
kp:PySem.W.keepIn K (.ref f)=true
noncomputable def gLst(K:PySem.W.Frag)(n:Nat)(t:TGs):TG:=λv σ H Q=>∃a xs,v=.ref a∧SqL K H a xs∧xs.length=n∧t xs σ H Q
theorem qJ7{X:Cx}{pos:Pos}{es:List Expr}{k:Nat}{t:TGs}{n:Nat}(hc:X.calm=true)(h:PGs X es t)
 (hn:(assignEach es X.env).length=n:=by rfl) (hst:(assignEach es X.env).findIdx? (·.1)=none:=by rfl):PG X (.Tuple es k pos) (gLst X.K n t):=by(
intro pins s σ H v u Q I r hw
obtain⟨a,xs,e1,hq,hl,hw⟩:=hw
subst e1
cases r
obtain⟨its,rv,p,hz⟩:=I.list hq
rw[PyProof.Rows.assign_Tuple]
refine hV (pH ?_)
unfold unpack
rw[show(assignEach es X.env).length=its.toArray.size by simp[hn,←hl,rv.length],hst]
refine hV (gL (PySem.W.kun_itemsOf (I.ok.hd hc) p.isList λh' hx=>?_))
have I1:Inv X pins σ H { s with heap:=h' }:=I.kept (t':=s.toks) λb o e=>hx b o (mP (kP e)) e
exact h pins _ σ H xs _ Q I1 (by simpa using rv) hw)
end L2
namespace W1
open PySem L2
noncomputable def rdy(ie:Int)(l:List Nat)(p:Option Nat):Bool:=decide ((l.length:Int)-(1+ie)>0)||(decide ((l.length:Int)-(1+ie)=0)&&p.isSome)
noncomputable abbrev tyL(m:CM)(q:QM)(b:Nat):List V:=[.int (b:Int),.int (q.lv.getD b 0),.int (m.cl.getD b 0),.int (q.bo.getD b 0)]
noncomputable def spcN(ie:Int)(l:List Nat)(P:Nat)(fi:List Int)(p:Option Nat):Int:=if 1+ie≤(l.length:Int)then(P:Int)else match p with|none=>0|some b=>(P:Int)-fi.getD b 0
noncomputable def jU(B P:Nat)(br:List Bool)(fi:List Int):List Nat:=(yY B br).filter λb=>decide (fi.getD b 0=(P:Int))
noncomputable def optN(ie:Int)(m:CM)(q:QM)(l:List Nat):List Nat:=((jU q.B q.P m.br q.fi).filter λb=>decide (q.lv.getD b 0≤spcN ie l q.P q.fi (jK q.B q.P m.br q.fi))).filter λb=>decide (q.lv.getD b 0<(q.P:Int))
noncomputable def qEL(q:QM)(r:Int×Nat×Int):QM:={ q with nx:=r.1 }.put (r.2.1 / q.P) (r.2.1%q.P) r.2.2
structure Fits(q:QM)(r:Int×Nat×Int):Prop where
b:r.2.1 / q.P<q.B
f:q.fi.getD (r.2.1 / q.P) 0=((r.2.1%q.P:Nat):Int)
s:q.nx≤r.1
n0:0≤r.2.2
n1:r.2.2≤64
section
variable{q q0:QM}{r:Int×Nat×Int}{R:List (Int×Nat×Int)}
theorem Fits.ok(h:Fits q r)(ok:q.Ok):(qEL q r).Ok:=by have okn:QM.Ok { q with nx:=r.1 }:={ ok with };exact okn.put h.b (Nat.mod_lt _ ok.p1) h.f h.n0 h.n1
structure QS(q:QM):Prop where
ok:q.Ok
lv:∀b,b<q.B→q.lv.getD b 0=(cntB q.P q.V b:Nat)
theorem qBM(h:QS q)(n:Int){b:Nat}(hb:b<q.B):(BM.lvF q.P q.V q.lv n).getD b 0=(cntB q.P (jB q.V n) b:Nat):=by(
unfold BM.lvF
rcases QM.find_V (m:=q) (n:=n)with⟨p,hp,e⟩|⟨no,e⟩
·rw[e];obtain⟨c,hc,ec⟩:=h.ok.blk _ hp;have ec:p / (q.P:Int)=(c:Int):=ec;have cd:=qEA (P:=q.P) (b:=b) h.ok.nd hp;show(q.lv.set (p / (q.P:Int)).toNat (q.lv.getD (p / (q.P:Int)).toNat 0-1)).getD b 0=_;rw[ec,mQ,jG];rw[ec]at cd;have e1:=h.lv b hb;by_cases z:c=b
 ·subst z;rw[kJ rfl]at cd;rw[kJ ⟨rfl,by rw[h.ok.ll];exact hb⟩,e1];lia
 rw[kF (by lia)]at cd;rw[kF (λy=>z y.1),e1];lia
rw[e,h.lv b hb,show jB q.V n=q.V from dQ.mpr λy hy=>hG (no y hy)])
theorem Fits.qs(h:Fits q r)(qs:QS q):QS (qEL q r):=by(
refine⟨h.ok qs.ok,λb hb=>?_⟩
have hb:b<q.B:=hb
have lc:=qBM qs r.2.2 hb
show((BM.lvF q.P q.V q.lv r.2.2).set (r.2.1 / q.P) ((BM.lvF q.P q.V q.lv r.2.2).getD (r.2.1 / q.P) 0+1)).getD b 0=((cntB q.P (jB q.V r.2.2++[(r.2.2,((r.2.1 / q.P*q.P+r.2.1%q.P:Nat):Int))]) b:Nat):Int)
have ep:r.2.1 / q.P*q.P+r.2.1%q.P=r.2.1:=by rw[wL];exact Nat.div_add_mod _ _
have ea:cntB q.P (jB q.V r.2.2++[(r.2.2,(r.2.1:Int))]) b=cntB q.P (jB q.V r.2.2) b+(if r.2.1 / q.P=b then 1 else 0):=by
 unfold cntB;rw[List.countP_append,List.countP_singleton,←rH];by_cases z:r.2.1 / q.P=b
 ·rw[kJ z,z,hG rfl];rfl
 rw[kF z,hX (by lia)];rfl
rw[ep,ea,jG]
by_cases z:r.2.1 / q.P=b
·rw[kJ z,kJ ⟨z,by rw[QM.lvF_len,qs.ok.ll];lia⟩,z,lc];lia
rw[kF z,kF (λy=>z y.1),lc]
lia)
end
noncomputable def OneP(B P:Nat)(fi:List Int):Prop:=∀b c,b<B→c<B→jW P fi b=true→jW P fi c=true→b=c
noncomputable def clr1(P:Nat)(fi:List Int)(b:Nat):Nat:=P-(fi.getD b 0).toNat
noncomputable def rm(B P:Nat)(fi:List Int):Nat:=((List.range B).map (clr1 P fi)).sum
theorem qBN{L:List Nat}{f g:Nat→Nat}:(L.map λb=>f b+g b).sum=(L.map f).sum+(L.map g).sum:=by(
induction L with
|nil=>rfl
|cons x L ih=>rw[mL,mL,mL,dZ,dZ,dZ,ih];lia)
theorem q09{L:List Nat}{f g:Nat→Nat}(h:∀b∈L,f b=g b):(L.map f).sum=(L.map g).sum:=by rw[rB h]
theorem qJ8{L:List Nat}{p:Nat→Bool}{c:Nat}:(L.map λb=>if p b=true then c else 0).sum=(L.filter p).length*c:=by(
induction L with
|nil=>rw[List.filter_nil];simp
|cons x L ih=>
 rw[mL,dZ,ih,m9];by_cases h:p x=true
 ·rw[kJ h,kJ h,mG,c7];lia
 rw[kF h,kF h];lia)
theorem qBO{L:List Nat}{p:Nat→Bool}{h:Nat→Nat}(nd:L.Nodup)(one:∀a∈L,∀b∈L,p a=true→p b=true→a=b):(L.map λb=>if p b=true then h b else 0).sum=match L.find? p with|some b=>h b|none=>0:=by(
induction L with
|nil=>rfl
|cons x L ih=>
 obtain⟨n1,n2⟩:=gA.mp nd;rw[mL,dZ,dR];by_cases hx:p x=true
 ·rw[hx,kJ rfl];have:(L.map λb=>if p b=true then h b else 0).sum=(L.map λ_=>0).sum:=q09 λb hb=>by rw[kF];intro z;exact n1 (by rw[one x (by simp) b (hU _ hb) hx z];exact hb)
  rw[this];have z:(L.map λ_=>0).sum=0:=by
   clear this ih nd one n1 n2;induction L with
   |nil=>rfl
   |cons y L ih=>rw[mL,dZ,ih]
  rw[z];rfl
 rw[kF hx];rw[Bool.not_eq_true]at hx;rw[hx];rw[nK];exact ih n2 λa ha b hb=>one a (hU _ ha) b (hU _ hb))
section
variable{B P:Nat}{fi cl:List Int}{l:List Nat}
noncomputable abbrev noB(B:Nat):List Bool:=List.replicate B false
theorem qKM(on:OneP B P fi)(wr:∀b,b<B→∃f:Nat,fi.getD b 0=(f:Int)∧f≤P)(p1:1≤P)(hl:FreeIs B (noB B) cl fi l):
 rm B P fi=l.length*P+(match jK B P (noB B) fi with|some b=>P-(fi.getD b 0).toNat|none=>0):=by(
have h1:l.length=((List.range B).filter λb=>decide (fi.getD b 0=0)).length:=by rw[hl.pm.length_eq];unfold yO;rw[yA]
unfold rm jK
rw[yA,h1,←qJ8,←qBO (p:=jW P fi) (h:=λb=>P-(fi.getD b 0).toNat) sV (λa ha b hb=>on a b (mV.mp ha) (mV.mp hb)),←qBN]
refine q09 λb hb=>?_
obtain⟨f,ef,hf⟩:=wr b (mV.mp hb)
unfold clr1 jW
rw[ef,mQ]
by_cases z:f=0
·subst z;simp
by_cases y:f<P
·rw[kF (by simp;lia),hG (by lia),hG (by lia)];simp
rw[kF (by simp;lia),hX (show ¬(f:Int)<(P:Int) by lia)]
simp
lia)
theorem q9I{b:Nat}(h:jK B P (noB B) fi=some b):b<B∧0<fi.getD b 0∧fi.getD b 0<(P:Int):=by have:=q0Q h;exact⟨this.1,this.2.2⟩
theorem q1H(on:OneP B P fi)(wr:∀b,b<B→∃f:Nat,fi.getD b 0=(f:Int)∧f≤P)(p1:1≤P)(hl:FreeIs B (noB B) cl fi l):
 (jK B P (noB B) fi=none∧rm B P fi=l.length*P)∨∃b e,jK B P (noB B) fi=some b∧1≤e∧e<P∧rm B P fi=l.length*P+e∧fi.getD b 0+(e:Int)=(P:Int):=by(
have h:=qKM on wr p1 hl
cases hp:jK B P (noB B) fi with
|none=>rw[hp]at h;exact .inl ⟨rfl,h⟩
|some b=>rw[hp]at h;obtain⟨a,c,d⟩:=q9I hp;exact .inr ⟨b,P-(fi.getD b 0).toNat,rfl,by lia,by lia,h,by lia⟩)
theorem qGI{ie:Nat}(on:OneP B P fi)(wr:∀b,b<B→∃f:Nat,fi.getD b 0=(f:Int)∧f≤P)(p1:1≤P)(hl:FreeIs B (noB B) cl fi l):
 rdy (ie:Int) l (jK B P (noB B) fi)=decide ((1+ie)*P<rm B P fi):=by(
have key:∀e,e<P→((1+ie)*P<l.length*P+e↔(1+ie<l.length∨(1+ie=l.length∧0<e))):=λe he=>by
 rcases Nat.lt_trichotomy (1+ie) l.length with h|h|h
 ·have:=g0 P (show 1+ie+1≤l.length from h);rw[c7]at this;exact⟨λ_=>.inl h,λ_=>by lia⟩
 ·rw[h];exact⟨λz=>.inr ⟨rfl,by lia⟩,λz=>by lia⟩
 have:=g0 P (show l.length+1≤1+ie from h);rw[c7]at this;exact⟨λz=>by lia,λz=>by lia⟩
unfold rdy
rcases q1H on wr p1 hl with⟨h1,h2⟩|⟨b,e,h1,e1,e2,h2,_⟩
·rw[h1,h2];have k:=key 0 (by lia);rw[Nat.add_zero]at k;by_cases z:(1+ie)*P<l.length*P
 ·rw[hG z,hG (show(l.length:Int)-(1+(ie:Int))>0 by rcases k.mp z with h|h<;>lia)];rfl
 rw[hX z,hX (show ¬(l.length:Int)-(1+(ie:Int))>0 by intro y;exact z (k.mpr (.inl (by lia))))];simp
rw[h1,h2]
have k:=key e e2
by_cases z:(1+ie)*P<l.length*P+e
·rw[hG z];rcases k.mp z with h|h
 ·rw[hG (show(l.length:Int)-(1+(ie:Int))>0 by lia)];rfl
 rw[hG (show(l.length:Int)-(1+(ie:Int))=0 by lia)];simp
rw[hX z,hX (show ¬(l.length:Int)-(1+(ie:Int))>0 by intro y;exact z (k.mpr (.inl (by lia)))),hX (show ¬(l.length:Int)-(1+(ie:Int))=0 by intro y;exact z (k.mpr (.inr ⟨by lia,by lia⟩)))]
rfl)
theorem q7N(on:OneP B P fi)(wr:∀b,b<B→∃f:Nat,fi.getD b 0=(f:Int)∧f≤P)(p1:1≤P)(hl:FreeIs B (noB B) cl fi l)(h:0<rm B P fi):∃b,q15 B P (noB B) fi l=some b∧((jK B P (noB B) fi=some b)∨(jK B P (noB B) fi=none∧fi.getD b 0=0)):=by(
unfold q15
rcases q1H on wr p1 hl with⟨h1,h2⟩|⟨b,e,h1,_⟩
·rw[h1];cases l with
 |nil=>rw[h2]at h;simp at h
 |cons x l=>exact⟨x,rfl,.inr ⟨rfl,(hl.mem (by simp)).2.2⟩⟩
rw[h1]
exact⟨b,rfl,.inl rfl⟩)
theorem qGJ{L:List Nat}{f g:Nat→Nat}{b:Nat}(nd:L.Nodup)(hb:b∈L)(h:∀c∈L,c≠b→f c=g c):(L.map f).sum+g b=(L.map g).sum+f b:=by(
induction L with
|nil=>exact absurd hb (by simp)
|cons x L ih=>
 obtain⟨n1,n2⟩:=gA.mp nd;rw[mL,mL,dZ,dZ];rcases kI.mp hb with rfl|hb
 ·rw[q09 (L:=L) (f:=f) (g:=g) λc hc=>h c (hU _ hc) λz=>n1 (by rw[←z];exact hc)];lia
 have:=ih n2 hb λc hc=>h c (hU _ hc);have e:=h x (by simp) λz=>n1 (by rw[z];exact hb);lia)
theorem qEM{b:Nat}{v:Int}(hb:b<B)(lf:fi.length=B):rm B P (fi.set b v)+(P-(fi.getD b 0).toNat)=rm B P fi+(P-v.toNat):=by(
have:=qGJ (L:=List.range B) (f:=clr1 P (fi.set b v)) (g:=clr1 P fi) (b:=b) sV (mV.mpr hb) λc _ hc=>by unfold clr1;rw[jG,kF (λz=>hc z.1.symm)]
unfold rm
have e:clr1 P (fi.set b v) b=P-v.toNat:=by unfold clr1;rw[jG,kJ ⟨rfl,by lia⟩]
rw[e]at this
exact this)
theorem qJ9{b f:Nat}(hb:b<B)(lf:fi.length=B)(ef:fi.getD b 0=(f:Int))(hf:f<P):rm B P (fi.set b (fi.getD b 0+1))+1=rm B P fi:=by(
have:=qEM (P:=P) (v:=fi.getD b 0+1) hb lf
rw[ef]at this ⊢
have e1:((f:Int)).toNat=f:=mQ f
have e2:((f:Int)+1).toNat=f+1:=by lia
rw[e1,e2]at this
lia)
theorem qGK{b:Nat}(hb:b<B)(lf:fi.length=B)(ef:fi.getD b 0=(P:Int)):rm B P (fi.set b 0)=rm B P fi+P:=by(
have:=qEM (P:=P) (v:=0) hb lf
rw[ef]at this
have e1:((P:Int)).toNat=P:=mQ P
rw[e1]at this
simpa using this)
theorem qGL{b:Nat}(on:OneP B P fi)(hb:b<B)(lf:fi.length=B)(h:(jK B P (noB B) fi=some b)∨(jK B P (noB B) fi=none∧fi.getD b 0=0)):OneP B P (fi.set b (fi.getD b 0+1)):=by(
have other:∀c,c<B→c≠b→jW P (fi.set b (fi.getD b 0+1)) c=true→False:=λc hc nc hp=>by
 have hp':jW P fi c=true:=by unfold jW at hp ⊢;rw[jG,kF (λz=>nc z.1.symm)]at hp;exact hp
 rcases h with h|⟨h,_⟩
 ·have h2:jW P fi b=true:=d9 h;exact nc (on c b hc hb hp' h2)
 have:=wN.mp h c (by rw[yA];exact mV.mpr hc);exact this hp'
intro c d hc hd pc pd
by_cases e1:c=b
·by_cases e2:d=b
 ·rw[e1,e2]
 exact(other d hd e2 pd).elim
exact(other c hc e1 pc).elim)
theorem qEN{b:Nat}(on:OneP B P fi):OneP B P (fi.set b 0):=by(
have old:∀c,c<B→jW P (fi.set b 0) c=true→jW P fi c=true:=λc hc hp=>by
 unfold jW at hp ⊢;rw[jG]at hp;split at hp
 ·simp at hp
 exact hp
exact λc d hc hd pc pd=>on c d hc hd (old c hc pc) (old d hd pd))
theorem qGM{V:Mp}:∀{L:List Nat},L.Nodup→(L.map (cntB P V)).sum≤V.length:=by(
induction V with
|nil=>
 intro L _;have:(L.map (cntB P [])).sum=(L.map λ_=>0).sum:=q09 λb _=>rfl;rw[this];clear this;induction L with
 |nil=>exact kN _
 |cons x L ih=>rename_i h;rw[mL,dZ];have:=ih (gA.mp h).2;lia
|cons x V ih=>
 intro L nd;have e:(L.map (cntB P (x::V))).sum=(L.map (cntB P V)).sum+(L.map λb=>if(λb:Nat=>decide (x.2 / (P:Int)=(b:Int))) b=true then 1 else 0).sum:=by rw[←qBN];refine q09 λb _=>?_;unfold cntB;rw[pE]
 rw[e,qBO (h:=λ_=>1) nd λa _ b _ ha hb=>by have h1:=mM ha;have h2:=mM hb;lia];have:=ih nd;rw[mG];cases L.find? (λb:Nat=>decide (x.2 / (P:Int)=(b:Int)))with
 |none=>show _ +0≤_;lia
 |some b=>show _ +1≤_;lia)
theorem qEO{L:List Nat}{f:Nat→Nat}{k:Nat}(h:∀b∈L,k≤f b):L.length*k≤(L.map f).sum:=by(
induction L with
|nil=>simp
|cons x L ih=>rw[mG,mL,dZ,c7];have:=ih λb hb=>h b (hU _ hb);have:=h x (by simp);lia)
theorem q9J(on:OneP B P fi)(wr:∀b,b<B→∃f:Nat,fi.getD b 0=(f:Int)∧f≤P)(p1:1≤P)(hl:FreeIs B (noB B) cl fi l)(hp:jK B P (noB B) fi=none):(jU B P (noB B) fi).length+l.length=B:=by(
have h1:l.length=((List.range B).filter λb=>decide (fi.getD b 0=0)).length:=by rw[hl.pm.length_eq];unfold yO;rw[yA]
have h2:jU B P (noB B) fi=(List.range B).filter λb=>!decide (fi.getD b 0=0):=by
 unfold jU;rw[yA];refine wZ λb hb=>?_;obtain⟨f,ef,hf⟩:=wr b (mV.mp hb);have np:=wN.mp hp b (by rw[yA];exact hb);unfold jW at np;rw[ef]at np ⊢;by_cases z:f=0
 ·subst z;rw[hG (show((0:Nat):Int)=0 from rfl),hX (by lia)];rfl
 rw[hX (show ¬(f:Int)=0 by lia)];by_cases y:f<P
 ·exact(np (by rw[hG (show(0:Int)<(f:Int) by lia),hG (show(f:Int)<(P:Int) by lia)];rfl)).elim
 exact hG (by lia)
rw[h1,h2]
have e:∀{L:List Nat} {p:Nat→Bool},(L.filter λb=>!p b).length+(L.filter p).length=L.length:=by
 intro L p;induction L with
 |nil=>rfl
 |cons x L ih=>rw[m9,m9];cases p x<;>simp<;>lia
have:=e (L:=List.range B) (p:=λb=>decide (fi.getD b 0=0))
rw[gC]at this
exact this)
end
section
variable{q:QM}{m:CM}{l:List Nat}
theorem qEP{b f:Nat}{n:Int}(hf:f<q.P):qEL q (q.nx,b*q.P+f,n)=q.put b f n:=by show({ q with nx:=q.nx }:QM).put ((b*q.P+f) / q.P) ((b*q.P+f)%q.P) n=_;rw[yC hf,wL,pO,pF hf]
theorem QS.put{b f:Nat}{n:Int}(h:QS q)(hb:b<q.B)(hf:f<q.P)(ef:q.fi.getD b 0=(f:Int))(n0:0≤n)(n1:n≤64):QS (q.put b f n):=by(
have ft:Fits q (q.nx,b*q.P+f,n):=by
 refine⟨?_,?_,gP _,n0,n1⟩
 ·show(b*q.P+f) / q.P<q.B;rw[yC hf];exact hb
 show q.fi.getD ((b*q.P+f) / q.P) 0=(((b*q.P+f)%q.P:Nat):Int);rw[yC hf,ef,wL,pO,pF hf]
have:=ft.qs h
rw[qEP hf]at this
exact this)
theorem uM{b f:Nat}{n:Int}{x:Int×Int}:x∈(q.put b f n).V↔x=(n,((b*q.P+f:Nat):Int))∨(x∈q.V∧x.1≠n):=by show x∈jB q.V n++[(n,((b*q.P+f:Nat):Int))]↔_;rw[gF,jC,h9];exact⟨λh=>h.symm,λh=>h.symm⟩
theorem QS.forget(h:QS q)(n:Int):QS (q.forget n):=⟨h.ok.forget n,λb hb=>qBM h n hb⟩
noncomputable def QM.emptied(q:QM)(b:Nat):QM:={ q with fi:=q.fi.set b 0,bo:=q.bo.set b 0 }
theorem QS.emptied(h:QS q)(b:Nat):QS (q.emptied b):=by(
refine⟨{ h.ok with lf:=by show(q.fi.set b 0).length=q.B;rw[gM];exact h.ok.lf,lo:=by show(q.bo.set b 0).length=q.B;rw[gM];exact h.ok.lo,wr:=λc hc=>?_ },h.lv⟩
show ∃f:Nat,(q.fi.set b 0).getD c 0=(f:Int)∧f≤q.P
rw[jG]
split
·exact⟨0,rfl,mU _⟩
exact h.ok.wr c hc)
noncomputable def tlOf(m:CM)(q:QM)(b:Nat):Tl:=⟨(b:Int),q.lv.getD b 0,m.cl.getD b 0,q.bo.getD b 0⟩
theorem qEQ{f:Tl→Int}{ts:List Tl}(h:ts≠[]):∃T∈ts,pk f ts=T.b∧∀o∈ts,f T≤f o:=by obtain⟨i,hi,hu,hn⟩:=q5S f ts h;exact⟨ts[i],gJ hi,qHI hi hu hn,λo ho=>by have:=q50.mp hu o ho;lia⟩
theorem qER{ie:Nat}(h:QS q)(on:OneP q.B q.P q.fi)(br:m.br=noB q.B)(hl:FreeIs q.B (noB q.B) m.cl q.fi l)(hr:rm q.B q.P q.fi=(1+ie)*q.P)(hv:q.V.length<(q.B-(1+ie))*q.P):
 optN (ie:Int) m q l≠[]∧∀b∈optN (ie:Int) m q l,(∀c∈optN (ie:Int) m q l,q.lv.getD b 0≤q.lv.getD c 0)→cntB q.P q.V b*(q.B-(1+ie))≤q.V.length:=by(
have p1:=h.ok.p1
have ll:jK q.B q.P (noB q.B) q.fi=none∧l.length=1+ie:=by
 rcases q1H on h.ok.wr p1 hl with⟨h1,h2⟩|⟨b,e,h1,e1,e2,h2,_⟩
 ·refine⟨h1,?_⟩;rw[hr]at h2;exact(sC (by lia) h2).symm
 exfalso;rw[hr]at h2;have k:(1+ie)*q.P%q.P=e:=by rw[h2,wL,pO,pF e2]
 rw[xS]at k;lia
have fl:=q9J on h.ok.wr p1 hl ll.1
have flC:(jU q.B q.P (noB q.B) q.fi).length=q.B-(1+ie):=by lia
have hsp:spcN (ie:Int) l q.P q.fi (jK q.B q.P (noB q.B) q.fi)=(q.P:Int):=by unfold spcN;rw[kJ (by lia)]
have ndF:(jU q.B q.P (noB q.B) q.fi).Nodup:=by unfold jU;rw[yA];exact g3 _ sV
have hB:∀b∈jU q.B q.P (noB q.B) q.fi,b<q.B:=λb hb=>by unfold jU at hb;rw[yA]at hb;exact mV.mp (mK.mp hb).1
have memo:∀b,b∈optN (ie:Int) m q l↔b∈jU q.B q.P (noB q.B) q.fi∧cntB q.P q.V b<q.P:=λb=>by
 unfold optN;rw[br,hsp,mK,mK,kQ,kQ];constructor
 ·rintro⟨⟨a,_⟩,c⟩
  rw[h.lv b (hB b a)]at c;exact⟨a,by lia⟩
 rintro⟨a,c⟩
 rw[h.lv b (hB b a)];exact⟨⟨a,by lia⟩,by lia⟩
have cs:=qGM (P:=q.P) (V:=q.V) ndF
constructor
·intro z;have:(jU q.B q.P (noB q.B) q.fi).length*q.P≤((jU q.B q.P (noB q.B) q.fi).map (cntB q.P q.V)).sum:=qEO λb hb=>by refine dU λy=>?_;have:b∈optN (ie:Int) m q l:=(memo b).mpr ⟨hb,by lia⟩;rw[z]at this;cases this
 rw[flC]at this;lia
intro b hb hmin
obtain⟨bF,bP⟩:=(memo b).mp hb
have:(jU q.B q.P (noB q.B) q.fi).length*cntB q.P q.V b≤((jU q.B q.P (noB q.B) q.fi).map (cntB q.P q.V)).sum:=qEO λc hc=>by
 by_cases y:cntB q.P q.V c<q.P
 ·have:=hmin c ((memo c).mpr ⟨hc,y⟩);rw[h.lv b (hB b bF),h.lv c (hB c hc)]at this;lia
 lia
rw[flC,wL]at this
lia)
end
theorem qJA{V:Mp}(nd:(V.map (·.1)).Nodup):V.length≤((V.map (·.1)).filter λn=>decide (n≠64)).length+1:=by(
have e:∀{L:List Int},L.Nodup→L.length≤(L.filter λn=>decide (n≠64)).length+1:=by
 intro L;induction L with
 |nil=>intro _;exact mU _
 |cons y L ih=>
  intro nd;obtain⟨n1,n2⟩:=gA.mp nd;rw[m9];by_cases z:y=64
  ·rw[kF (by simp[z])];have:L.filter (λn=>decide (n≠64))=L:=dQ.mpr λw hw=>hG λe=>n1 (by rw[z,←e];exact hw);rw[this];exact kN _
  rw[kJ (hG z),mG,mG];have:=ih n2;lia
have:=e nd
rw[kB]at this
exact this)
inductive Rl where
|rk (f:Int→Int→Tl→Int)
|win (m:Int)
|fol (row:List Int) (u:Nat)
noncomputable def Rl.Ok:Rl→Prop
| .win m=>1≤m
|_=>True
noncomputable def leL(k:Tl→List Int)(a b:Tl):Bool:=!lx (k b) (k a)
noncomputable def winC(m:Int)(ts:List Tl):List Tl:=((ts.mergeSort (leL λT=>[T.bo,T.b])).take m.toNat).mergeSort (leL Tl.ns)
theorem qGN{m:Int}{ts:List Tl}:∀o∈winC m ts,o∈ts:=λo ho=>cT.mp (List.mem_of_mem_take (cT.mp ho))
theorem qGO{m:Int}{ts:List Tl}(m1:1≤m)(h:ts≠[]):winC m ts≠[]:=λz=>by(
have:=gZ List.length z
unfold winC at this
rw[nQ,gX,nQ,rT]at this
have:=lM.mpr h
lia)
noncomputable def fo(row:List Int)(u:Nat)(ts:List Tl):Int:=match row[u]? with
|some n=>if n∈ts.map Tl.b then n else(ts.map Tl.b).headD 0
|none=>(ts.map Tl.b).headD 0
noncomputable def Rl.ch:Rl→Int→Int→List Tl→Int×Rl
| .rk f,pg,nw,ts=>(pk (f pg nw) ts,.rk f)
| .win m,_,_,ts=>(pk Tl.lv (winC m ts),.win m)
| .fol row u,_,_,ts=>(fo row u ts,.fol row (min (u+1) row.length))
noncomputable def minF(cl:List Int):List Nat→Option Nat
| []=>none
|b::L=>match minF cl L with
 |none=>some b
 |some c=>if cl.getD c 0<cl.getD b 0 then some c else some b
noncomputable def spF(q:QM)(cl:List Int):Nat:=match(List.range q.B).find? (jW q.P q.fi)with
|some b=>b
|none=>(minF cl ((List.range q.B).filter λb=>decide (q.fi.getD b 0=0))).getD 0
section
variable{B P:Nat}{q:QM}{m:CM}{cl fi:List Int}{l:List Nat}
theorem q2D:∀{L:List Nat},L.Pairwise (· < ·)→(minF cl L=none→L=[])∧∀b,minF cl L=some b→b∈L∧∀c∈L,lx (keyN cl c) (keyN cl b)=false
| [],_=>⟨λ_=>rfl,λb h=>by cases h⟩
|a::L,pw=>by
 obtain⟨p1,p2⟩:=gT.mp pw;obtain⟨h1,h2⟩:=q2D p2;unfold minF;cases z:minF cl L with
 |none=>
  have:=h1 z;subst this;refine⟨λy=>(by cases y),λb h=>?_⟩;injection h with h
  subst h;exact⟨by simp,λc hc=>by rw[h9.mp hc];exact q2W _⟩
 |some c=>
  obtain⟨g1,g2⟩:=h2 c z;have hac:=p1 c g1;dsimp only;by_cases y:cl.getD c 0<cl.getD a 0
  ·rw[kJ y];refine⟨λw=>(by cases w),λb h=>?_⟩;injection h with h
   subst h;refine⟨hU _ g1,λd hd=>?_⟩;rcases kI.mp hd with e|e
   ·subst e;unfold keyN lx;rw[kF (by lia)];exact hX (by lia)
   exact g2 d e
  rw[kF y];refine⟨λw=>(by cases w),λb h=>?_⟩;injection h with h
  subst h;refine⟨by simp,λd hd=>?_⟩;rcases kI.mp hd with e|e
  ·subst e;exact q2W _
  refine qHL (b:=keyN cl c) ?_ (g2 d e);unfold keyN lx;by_cases w:cl.getD c 0=cl.getD a 0
  ·rw[kJ w];unfold lx;rw[kF (by lia)];exact hX (by lia)
  rw[kF w];exact hX (by lia)
theorem qCQ(hl:FreeIs B (noB B) cl fi l):l.head?=minF cl ((List.range B).filter λb=>decide (fi.getD b 0=0)):=by(
have pm:=hl.pm
unfold yO at pm
rw[yA]at pm
have pw:((List.range B).filter λb=>decide (fi.getD b 0=0)).Pairwise (· < ·):=g3 _ dL
obtain⟨h1,h2⟩:=q2D (cl:=cl) pw
cases l with
|nil=>rw[lP.mp pm];rfl
|cons a r=>
 cases z:minF cl ((List.range B).filter λb=>decide (fi.getD b 0=0))with
 |none=>rw[h1 z]at pm;have:=pm.length_eq;cases this
 |some b=>
  obtain⟨g1,g2⟩:=h2 b z;have so:=hl.so;rw[mL]at so;have so:=(gT.mp so).1;have hb:=pm.mem_iff.mpr g1;have e:a=b:=by
   rcases kI.mp hb with e|e
   ·exact e.symm
   exact qGF (q40 _ _ (g2 a (pm.mem_iff.mp (by simp))) (so _ (kZ.mpr ⟨b,e,rfl⟩)))
  rw[e];rfl)
theorem qJB(on:OneP q.B q.P q.fi)(wr:∀b,b<q.B→∃f:Nat,q.fi.getD b 0=(f:Int)∧f≤q.P)(p1:1≤q.P)(hl:FreeIs q.B (noB q.B) cl q.fi l)(h:0<rm q.B q.P q.fi):q15 q.B q.P (noB q.B) q.fi l=some (spF q cl):=by(
obtain⟨b,hb,_⟩:=q7N on wr p1 hl h
rw[hb]
unfold q15 jK at hb
unfold spF
rw[yA]at hb
cases z:(List.range q.B).find? (jW q.P q.fi)with
|some c=>rw[z]at hb;exact hb.symm
|none=>rw[z]at hb;rw[←qCQ hl];have hb:l.head?=some b:=hb;rw[hb];rfl)
noncomputable def lvP(P b:Nat)(V:Mp):List (List Int):=(List.range P).filterMap λf=>(V.find? λy=>decide (y.2=((b*P+f:Nat):Int))).map λy=>[y.2,y.1]
theorem q3M{P b:Nat}{V:Mp}(hP:1≤P)(pd:(V.map (·.2)).Nodup){k:List Int}:k∈lvP P b V↔∃y∈V,y.2 / (P:Int)=(b:Int)∧k=[y.2,y.1]:=by(
unfold lvP
rw[wI]
constructor
·rintro⟨f,hf,e⟩
 have hf:=mV.mp hf;cases z:V.find? λy=>decide (y.2=((b*P+f:Nat):Int))with
 |none=>rw[z]at e;cases e
 |some y=>
  rw[z]at e;have e1:=rP z;have e2:y.2=((b*P+f:Nat):Int):=by simpa using d9 z
  refine⟨y,e1,?_,(kM e).symm⟩;rw[e2,←rH,yC hf]
rintro⟨y,hy,hb,rfl⟩
have h0:0≤y.2:=by refine dU λz=>?_;have:=Int.ediv_neg_of_neg_of_pos (a:=y.2) (b:=(P:Int)) (by lia) (by lia);lia
have e:=Int.mul_ediv_add_emod y.2 (P:Int)
have m0:=x6 y.2 (show(P:Int)≠0 by lia)
have m1:=lW y.2 (show(0:Int)<(P:Int) by lia)
refine⟨(y.2%(P:Int)).toNat,mV.mpr (by lia),?_⟩
have ey:y.2=((b*P+(y.2%(P:Int)).toNat:Nat):Int):=by rw[aF,dS,←hb,Int.mul_comm];lia
cases z:V.find? λw=>decide (w.2=((b*P+(y.2%(P:Int)).toNat:Nat):Int))with
|none=>exact absurd (hG ey) (wN.mp z y hy)
|some w=>
 have e1:=rP z;have e2:w.2=((b*P+(y.2%(P:Int)).toNat:Nat):Int):=by simpa using d9 z
 have:w=y:=by
  clear z;induction V with
  |nil=>cases e1
  |cons v V ih=>
   rw[mL]at pd;obtain⟨n1,n2⟩:=gA.mp pd;rcases kI.mp e1 with a|a<;>rcases kI.mp hy with c|c
   ·rw[a,c]
   ·exact(n1 (by rw[←a,e2,←ey];exact kZ.mpr ⟨y,c,rfl⟩)).elim
   ·exact(n1 (by rw[←c,ey,←e2];exact kZ.mpr ⟨w,a,rfl⟩)).elim
   exact ih n2 c a
 rw[this];rfl)
theorem qAK{P b:Nat}{V:Mp}:(lvP P b V).Pairwise λa c=>lx c a=false∧a≠c:=by(
unfold lvP
refine List.pairwise_filterMap.mpr (dL.imp fun {f g} hfg k hk k' hk'=>?_)
cases z:V.find? λy=>decide (y.2=((b*P+f:Nat):Int))with
|none=>rw[z]at hk;cases hk
|some y=>
 cases z':V.find? λy=>decide (y.2=((b*P+g:Nat):Int))with
 |none=>rw[z']at hk';cases hk'
 |some y'=>
  rw[z]at hk;rw[z']at hk';have e2:y.2=((b*P+f:Nat):Int):=by simpa using d9 z
  have e3:y'.2=((b*P+g:Nat):Int):=by simpa using d9 z'
  obtain rfl:[y.2,y.1]=k:=kM hk;obtain rfl:[y'.2,y'.1]=k':=kM hk';refine⟨?_,λw=>?_⟩
  ·unfold lx;rw[kF (by lia)];exact hX (by lia)
  injection w with w _
  lia)
theorem qGP{P b:Nat}{V:Mp}{rs:List (List Int)}(hP:1≤P)(pd:(V.map (·.2)).Nodup)(nd:rs.Nodup)(mm:∀k,k∈rs↔∃n p,k=[p,n]∧(n,p)∈V∧p / (P:Int)=(b:Int))(so:rs.Pairwise λa b=>lx b a=false):rs=lvP P b V:=by(
refine qEC (q2C nd (qAK.imp λz=>z.2) λk=>?_) so (qAK.imp λz=>z.1)
rw[mm,q3M hP pd]
constructor
·rintro⟨n,p,rfl,h1,h2⟩
 exact⟨(n,p),h1,h2,rfl⟩
rintro⟨y,h1,h2,rfl⟩
exact⟨y.1,y.2,rfl,h1,h2⟩)
end
structure XS where
q:QM
cl:List Int
pg:Nat→Option (Int×Int)
lf:Option Int
rc:List (Str×Int×Bool)
structure Tm where
ie:Nat
sp:Int
ev:Bool
noncomputable def mnL:List Int→Option Int
| []=>none
|a::l=>match mnL l with
 |none=>some a
 |some m=>some (if a≤m then a else m)
theorem q87:∀{l:List Int},l≠[]→∃m,mnL l=some m∧m∈l∧∀a∈l,m≤a
| [],h=>absurd rfl h
| [a],_=>⟨a,rfl,by simp,λb hb=>by rw[h9.mp hb];exact gP _⟩
|a::b::l,_=>by
 obtain⟨m,e,h1,h2⟩:=q87 (l:=b::l) (by simp);unfold mnL;rw[e];by_cases z:a≤m
 ·refine⟨a,by dsimp only;rw[kJ z],by simp,λc hc=>?_⟩;rcases kI.mp hc with e|hc
  ·rw[e];exact gP _
  exact pU z (h2 c hc)
 refine⟨m,by dsimp only;rw[kF z],hU _ h1,λc hc=>?_⟩;rcases kI.mp hc with e|hc
 ·rw[e];lia
 exact h2 c hc
namespace XS
variable(s:XS)
noncomputable def pb:Nat:=spF s.q s.cl
noncomputable def pf:Nat:=(s.q.fi.getD s.pb 0).toNat
noncomputable def np:Nat:=s.pb*s.q.P+s.pf
noncomputable def put(n v:Int):XS:=⟨s.q.put s.pb s.pf n,s.cl,λi=>if i=s.np then some (s.q.nx*128+n,v)else s.pg i,s.lf.map (· - 1),s.rc++[(Str.ofString "put",(s.np:Int),true)]⟩
noncomputable def wip(b:Nat):XS:=⟨s.q.emptied b,s.cl.set b (s.cl.getD b 0+1),λi=>if i / s.q.P=b then none else s.pg i,s.lf.map (· - 1),s.rc++[(Str.ofString "wipe",(b:Int),true)]⟩
noncomputable def forg(n:Int):XS:={ s with q:=s.q.forget n }
noncomputable def rmX:Nat:=rm s.q.B s.q.P s.q.fi
noncomputable def hl:List Int:=((s.q.V.map (·.1)).filter λn=>decide (n≠64)).mergeSort λa b=>decide (a≤b)
noncomputable def bits(ns:List Int):Int:=((orB (ns.map Int.toNat) 0:Nat):Int)
noncomputable def val(p n:Int):Int:=if n=64 then bits s.hl else((s.pg p.toNat).getD (0,0)).2
noncomputable def mvs:List (List Int)→XS→XS×Option (List (List Int))
| [],s=>(s,some [])
|k::r,s=>if s.lf=some 0 then(s,none)else
 match mvs r (s.put (k.getD 1 0) (s.val (k.getD 0 0) (k.getD 1 0)))with
 |(s',none)=>(s',none)
 |(s',some ms)=>(s',some ([k.getD 1 0,k.getD 0 0,(s.np:Int)]::ms))
noncomputable def spc(k:Tm):Int:=if(1+k.ie)*s.q.P≤s.rmX then(s.q.P:Int)else(s.rmX:Int)-(k.ie*s.q.P:Nat)
noncomputable def ful(k:Tm):List Nat:=(List.range s.q.B).filter λb=>decide (s.q.fi.getD b 0=(s.q.P:Int))&&decide (s.q.lv.getD b 0≤s.spc k)
noncomputable def ded(k:Tm):List Nat:=(s.ful k).filter λb=>decide (s.q.lv.getD b 0<(s.q.P:Int))
noncomputable def lst:Int:=(mnL s.cl).getD 0
noncomputable def clb(k:Tm)(L:List Nat):List Nat:=L.filter λb=>decide (s.cl.getD b 0<s.lst+k.sp)
noncomputable def opt(k:Tm):List Nat:=if k.ev then s.clb k (s.ded k)else s.ded k
noncomputable def tl(b:Nat):Tl:=⟨(b:Int),s.q.lv.getD b 0,s.cl.getD b 0,s.q.bo.getD b 0⟩
noncomputable def ots(k:Tm):List Tl:=(s.opt k).map s.tl
noncomputable def chg(k:Tm):Option Nat:=minF s.cl (s.clb k (s.ful k))
noncomputable def rd(k:Tm):Bool:=decide ((1+k.ie)*s.q.P<s.rmX)
noncomputable def tk(k:Tm)(g:Rl):Option (Str×Nat×Rl):=if s.opt k=[]then(if k.ev then(s.chg k).map λb=>("even",b,g)else none)
 else some ("rule",(g.ch (s.q.P:Int) s.q.nx (s.ots k)).1.toNat,(g.ch (s.q.P:Int) s.q.nx (s.ots k)).2)
end XS
inductive Rf where
|dark|room
structure Pa where
why:Str
ts:List Tl
b:Nat
mv:List (List Int)
structure Sx where
s:XS
g:Rl
ps:List Pa
namespace Sx
noncomputable def room(k:Tm)(X:Sx):Sx×Except Rf Pa:=match X.s.tk k X.g with
|none=>(X,.error .room)
|some (y,b,g)=>match XS.mvs (lvP X.s.q.P b X.s.q.V) X.s with
 |(s,none)=>(⟨s,g,X.ps⟩,.error .dark)
 |(s,some ms)=>if s.lf=some 0 then(⟨s,g,X.ps⟩,.error .dark)else(⟨s.wip b,g,X.ps++[⟨y,X.s.ots k,b,ms⟩]⟩,.ok ⟨y,X.s.ots k,b,ms⟩)
noncomputable def rooms(k:Tm):Nat→Sx→Option (Sx×Except Rf Unit)
|0,X=>if X.s.rd k then some (X,.ok ())else none
|i+1,X=>if X.s.rd k then some (X,.ok ())else match X.room k with
 |(Y,.error e)=>some (Y,.error e)
 |(Y,.ok _)=>rooms k i Y
noncomputable def ask(k:Tm)(i:Nat)(X:Sx)(n v:Int):Option (Sx×Except Rf Nat):=match X.rooms k i with
|none=>none
|some (Y,.error e)=>some (Y,.error e)
|some (Y,.ok _)=>if Y.s.lf=some 0 then some (Y,.error .dark)else some (⟨Y.s.put n v,Y.g,Y.ps⟩,.ok Y.s.np)
end Sx
structure WX(k:Tm)(s:XS):Prop where
qs:QS s.q
on:OneP s.q.B s.q.P s.q.fi
lc:s.cl.length=s.q.B
cr:∀b f:Nat,b<s.q.B→s.q.fi.getD b 0≤(f:Int)→f<s.q.P→s.pg (b*s.q.P+f)=none
vl:∀y∈s.q.V,∃b f:Nat,∃v:Int×Int,b<s.q.B∧f<s.q.P∧y.2=((b*s.q.P+f:Nat):Int)∧(f:Int)<s.q.fi.getD b 0∧s.pg (b*s.q.P+f)=some v
pd:(s.q.V.map (·.2)).Nodup
c0:∀b,0≤s.cl.getD b 0∧s.cl.getD b 0≤(s.rc.length:Int)
bo:∀b,0≤s.q.bo.getD b 0∧s.q.bo.getD b 0<s.q.nx
nx:1≤s.q.nx
sl:k.ie*s.q.P≤s.rmX
l6:s.q.V.length<60
l0:∀i,s.lf=some i→0≤i
theorem q88{P b f c g:Nat}(hf:f<P)(hg:g<P)(e:b*P+f=c*P+g):b=c∧f=g:=by(
have h1:=yC (b:=b) hf
have h2:=yC (b:=c) hg
rw[e,h2]at h1
subst h1
exact⟨rfl,by lia⟩)
theorem q0A{V:Mp}{n:Int}(nd:(V.map (·.1)).Nodup):(jB V n).length≤V.length∧∀p,(n,p)∈V→(jB V n).length+1=V.length:=by(
refine⟨mE _ _,λp h=>?_⟩
induction V with
|nil=>exact absurd h (by simp)
|cons y V ih=>
 rw[mL]at nd;obtain⟨n1,n2⟩:=gA.mp nd;unfold jB;rw[m9];rcases kI.mp h with e|h
 ·subst e;rw[kF (by simp),mG];have:V.filter (λq=>decide (q.1≠n))=V:=dQ.mpr λz hz=>hG λe=>n1 (kZ.mpr ⟨z,hz,e⟩);rw[this]
 have ne:y.1≠n:=λe=>n1 (kZ.mpr ⟨_,h,e.symm⟩);rw[kJ (hG ne),mG,mG];have:=ih n2 h;unfold jB at this;lia)
section
variable{k:Tm}{s:XS}
theorem WX.spot(h:WX k s)(hr:0<s.rmX):s.pb<s.q.B∧s.pf<s.q.P∧s.q.fi.getD s.pb 0=(s.pf:Int)∧((jK s.q.B s.q.P (noB s.q.B) s.q.fi=some s.pb)∨(jK s.q.B s.q.P (noB s.q.B) s.q.fi=none∧s.q.fi.getD s.pb 0=0))∧∀l,FreeIs s.q.B (noB s.q.B) s.cl s.q.fi l→q15 s.q.B s.q.P (noB s.q.B) s.q.fi l=some s.pb:=by(
have p1:=h.qs.ok.p1
have sp:∀l,FreeIs s.q.B (noB s.q.B) s.cl s.q.fi l→q15 s.q.B s.q.P (noB s.q.B) s.q.fi l=some s.pb:=λl hl=>qJB h.on h.qs.ok.wr p1 hl hr
obtain⟨l,hl⟩:=FreeIs.ex s.q.B (noB s.q.B) s.cl s.q.fi
have hsp:=sp l hl
obtain⟨b,hb,hc⟩:=q7N h.on h.qs.ok.wr p1 hl hr
rw[hsp]at hb
obtain rfl:=kM hb
obtain⟨hB,_,f0,f1⟩:=q9H hl p1 hsp
have:(s.pf:Int)=s.q.fi.getD s.pb 0:=by unfold XS.pf;lia
exact⟨hB,by lia,this.symm,hc,sp⟩)
theorem qAL{b f:Nat}{n:Int}{q:QM}(lf:q.fi.length=q.B)(hb:b<q.B)(ef:q.fi.getD b 0=(f:Int))(c:Nat):(q.put b f n).fi.getD c 0=if b=c then(f:Int)+1 else q.fi.getD c 0:=by(
show(q.fi.set b (q.fi.getD b 0+1)).getD c 0=_
rw[ef,jG,lf]
by_cases e:b=c
·rw[kJ ⟨e,hb⟩,kJ e]
rw[kF (λz=>e z.1),kF e])
theorem WX.put(h:WX k s){n v:Int}(hr:k.ie*s.q.P<s.rmX)(n0:0≤n)(n1:n≤64)(hl:(∃p,(n,p)∈s.q.V)∨s.q.V.length<59)(dk:s.lf≠some 0):WX k (s.put n v)∧(s.put n v).rmX+1=s.rmX:=by(
obtain⟨hb,hf,ef,sp,_⟩:=h.spot (by lia)
have okq:=h.qs.ok
have gfi:∀c,(s.put n v).q.fi.getD c 0=if s.pb=c then(s.pf:Int)+1 else s.q.fi.getD c 0:=qAL okq.lf hb ef
have rm1:(s.put n v).rmX+1=s.rmX:=qJ9 hb okq.lf ef hf
refine⟨⟨h.qs.put hb hf ef n0 n1,qGL h.on hb okq.lf sp,h.lc,λc g hc hg hgP=>?_,λy hy=>?_,?_,λc=>?_,λc=>?_,?_,?_,?_,λi e=>?_⟩,rm1⟩
·have hgP:g<s.q.P:=hgP;rw[gfi]at hg;show(if c*s.q.P+g=s.np then some (s.q.nx*128+n,v)else s.pg (c*s.q.P+g))=none;by_cases e:s.pb=c
 ·subst e;rw[kJ rfl]at hg;rw[kF (by unfold XS.np;lia)];exact h.cr _ g hc (by lia) hgP
 rw[kF e]at hg;rw[kF (λ(z:c*s.q.P+g=s.np)=>e (q88 hgP hf z).1.symm)];exact h.cr c g hc hg hgP
·rcases uM.mp hy with e|⟨hy,hne⟩
 ·rw[e];refine⟨s.pb,s.pf,_,hb,hf,rfl,?_,kJ rfl⟩;rw[gfi,kJ rfl];lia
 obtain⟨c,g,w,a1,a2,a3,a4,a5⟩:=h.vl y hy;refine⟨c,g,w,a1,a2,a3,?_,?_⟩
 ·rw[gfi];by_cases e:s.pb=c
  ·subst e;rw[kJ rfl];lia
  rw[kF e];exact a4
 show(if c*s.q.P+g=s.np then some (s.q.nx*128+n,v)else s.pg (c*s.q.P+g))=some w;rw[kF (λ(z:c*s.q.P+g=s.np)=>?_)]
 ·exact a5
 obtain⟨e1,e2⟩:=q88 a2 hf z;rw[e1,ef]at a4;lia
·show((jB s.q.V n++[(n,((s.pb*s.q.P+s.pf:Nat):Int))]).map (·.2)).Nodup;rw[m8];refine wY.mpr ⟨?_,by simp,λa ha c hc=>?_⟩
 ·exact pA (xT _ cJ) h.pd
 obtain⟨y,hy,rfl⟩:=kZ.mp ha;have hc:c=((s.pb*s.q.P+s.pf:Nat):Int):=by simpa using hc
 rw[hc];intro z;obtain⟨c',g,w,a1,a2,a3,a4,a5⟩:=h.vl y (jC.mp hy).1;rw[a3]at z;obtain⟨e1,e2⟩:=q88 a2 hf (by exact Int.ofNat.inj z);rw[e1,ef]at a4;lia
·show 0≤s.cl.getD c 0∧s.cl.getD c 0≤((s.rc++[_]).length:Int);have:=h.c0 c;rw[mH,gD];lia
·show 0≤(if s.q.fi.getD s.pb 0=0 then s.q.bo.set s.pb s.q.nx else s.q.bo).getD c 0∧(if s.q.fi.getD s.pb 0=0 then s.q.bo.set s.pb s.q.nx else s.q.bo).getD c 0<s.q.nx+1;have:=h.bo c;have:=h.nx;split
 ·rw[jG];split<;>lia
 lia
·show 1≤s.q.nx+1;have:=h.nx;lia
·show k.ie*s.q.P≤(s.put n v).rmX;lia
·show(jB s.q.V n++[_]).length<60;rw[mH,gD];obtain⟨d1,d2⟩:=q0A (V:=s.q.V) (n:=n) okq.nd;have:=h.l6;rcases hl with⟨p,hp⟩|hl
 ·have:=d2 p hp;lia
 lia
have e:s.lf.map (· - 1)=some i:=e
cases z:s.lf with
|none=>rw[z]at e;cases e
|some j=>rw[z]at e;have e:j-1=i:=kM e;have:=h.l0 j z;have:j≠0:=λy=>dk (by rw[z,y]);lia)
theorem WX.wip(h:WX k s){b:Nat}(hb:b<s.q.B)(ef:s.q.fi.getD b 0=(s.q.P:Int))(nl:∀y∈s.q.V,¬y.2 / (s.q.P:Int)=(b:Int))(dk:s.lf≠some 0):WX k (s.wip b)∧(s.wip b).rmX=s.rmX+s.q.P:=by(
have okq:=h.qs.ok
have rm1:(s.wip b).rmX=s.rmX+s.q.P:=qGK hb okq.lf ef
have gfi:∀c,(s.wip b).q.fi.getD c 0=if b=c then 0 else s.q.fi.getD c 0:=λc=>by
 show(s.q.fi.set b 0).getD c 0=_;rw[jG,okq.lf];by_cases e:b=c
 ·rw[kJ ⟨e,hb⟩,kJ e]
 rw[kF (λz=>e z.1),kF e]
refine⟨⟨h.qs.emptied b,qEN h.on,?_,λc g hc hg hgP=>?_,λy hy=>?_,h.pd,λc=>?_,λc=>?_,h.nx,?_,h.l6,λi e=>?_⟩,rm1⟩
·show(s.cl.set _ _).length=_;rw[gM];exact h.lc
·show(if(c*s.q.P+g) / s.q.P=b then none else s.pg (c*s.q.P+g))=none;have hgP:g<s.q.P:=hgP;rw[yC hgP];by_cases e:c=b
 ·rw[kJ e]
 rw[kF e];rw[gfi,kF (λz=>e z.symm)]at hg;exact h.cr c g hc hg hgP
·obtain⟨c,g,w,a1,a2,a3,a4,a5⟩:=h.vl y hy;have cb:c≠b:=λz=>nl _ hy (by rw[a3,←rH,yC a2,z]);refine⟨c,g,w,a1,a2,a3,?_,?_⟩
 ·rw[gfi,kF (λz=>cb z.symm)];exact a4
 show(if(c*s.q.P+g) / s.q.P=b then none else s.pg (c*s.q.P+g))=_;rw[yC a2,kF cb];exact a5
·show 0≤(s.cl.set b (s.cl.getD b 0+1)).getD c 0∧(s.cl.set b (s.cl.getD b 0+1)).getD c 0≤((s.rc++[_]).length:Int);have h1:=h.c0 c;have h2:=h.c0 b;rw[mH,gD,jG];split<;>lia
·show 0≤(s.q.bo.set b 0).getD c 0∧(s.q.bo.set b 0).getD c 0<s.q.nx;have h1:=h.bo c;have h2:=h.nx;rw[jG];split<;>lia
·show k.ie*s.q.P≤(s.wip b).rmX;have:=h.sl;lia
have e:s.lf.map (· - 1)=some i:=e
cases z:s.lf with
|none=>rw[z]at e;cases e
|some j=>rw[z]at e;have e:j-1=i:=kM e;have:=h.l0 j z;have:j≠0:=λy=>dk (by rw[z,y]);lia)
theorem WX.forg(h:WX k s)(n:Int):WX k (s.forg n):=by(
refine⟨h.qs.forget n,h.on,h.lc,h.cr,λy hy=>h.vl y (jC.mp hy).1,?_,h.c0,h.bo,h.nx,h.sl,?_,h.l0⟩
·exact pA (xT _ cJ) h.pd
have:=(q0A (V:=s.q.V) (n:=n) h.qs.ok.nd).1
have:=h.l6
show(jB s.q.V n).length<60
lia)
end
theorem qES{V:Mp}{n p p':Int}(nd:(V.map (·.1)).Nodup)(h:(n,p)∈V)(h':(n,p')∈V):p=p':=by(
induction V with
|nil=>exact absurd h (by simp)
|cons y V ih=>
 rw[mL]at nd;obtain⟨n1,n2⟩:=gA.mp nd;rcases kI.mp h with e|h<;>rcases kI.mp h' with e'|h'
 ·rw[←e]at e';injection e' with _ e'
  exact e'.symm
 ·exact(n1 (kZ.mpr ⟨_,h',by rw[←e]⟩)).elim
 ·exact(n1 (kZ.mpr ⟨_,h,by rw[←e']⟩)).elim
 exact ih n2 h h')
theorem q60{P b:Nat}{V:Mp}:(lvP P b V).Nodup:=qAK.imp λz=>z.2
theorem q3N{q:QM}{b:Nat}(h:QS q)(pd:(q.V.map (·.2)).Nodup)(hb:b<q.B):((lvP q.P b q.V).length:Int)=q.lv.getD b 0:=by(
rw[h.lv b hb]
have nd:=h.ok.nd
have:(lvP q.P b q.V).Perm ((q.V.filter λy=>decide (y.2 / (q.P:Int)=(b:Int))).map λy=>[y.2,y.1]):=q2C q60 (g4.mpr (((g4.mp nd).imp fun {a c} hne z=>hne (by
 injection z with _ z
 injection z with z _)).filter _)) λk=>by
 rw[q3M h.ok.p1 pd,kZ];constructor
 ·rintro⟨y,h1,h2,rfl⟩
  exact⟨y,mK.mpr ⟨h1,hG h2⟩,rfl⟩
 rintro⟨y,hy,rfl⟩
 obtain⟨a1,a2⟩:=mK.mp hy;exact⟨y,a1,mM a2,rfl⟩
rw[this.length_eq,kB]
unfold cntB
rw[wR])
structure MvI(k:Tm)(s0:XS)(b:Nat)(rs:List (List Int))(i:Nat)(s:XS)(ms:List (List Int)):Prop where
w:WX k s
e:XS.mvs rs s0=(match XS.mvs (rs.drop i) s with|(s',none)=>(s',none)|(s',some m)=>(s',some (ms++m)))
l:ms.length=i
rc:s.rc.length=s0.rc.length+i
rm:s.rmX+i=s0.rmX
eB:s.q.B=s0.q.B
eP:s.q.P=s0.q.P
ec:s.cl=s0.cl
fb:s.q.fi.getD b 0=(s0.q.P:Int)
fm:∀c,s0.q.fi.getD c 0≤s.q.fi.getD c 0∧(s0.q.fi.getD c 0=(s0.q.P:Int)→s.q.fi.getD c 0=(s0.q.P:Int))
nm:∀n,(∃p,(n,p)∈s.q.V)↔∃p,(n,p)∈s0.q.V
dr:∀kk∈rs.drop i,∃n p,kk=[p,n]∧(n,p)∈s.q.V∧p / (s0.q.P:Int)=(b:Int)
dl:∀y∈s.q.V,y.2 / (s0.q.P:Int)=(b:Int)→[y.2,y.1]∈rs.drop i
lV:s.q.V.length=s0.q.V.length
section
variable{k:Tm}{s0 s:XS}{b i:Nat}{ms:List (List Int)}
theorem MvI.zero(w:WX k s0)(fb:s0.q.fi.getD b 0=(s0.q.P:Int)):MvI k s0 b (lvP s0.q.P b s0.q.V) 0 s0 []:=by(
refine⟨w,?_,rfl,rfl,rfl,rfl,rfl,rfl,fb,λc=>⟨gP _,λz=>z⟩,λn=>bA,λkk hk=>?_,λy hy hb=>(q3M w.qs.ok.p1 w.pd).mpr ⟨y,hy,hb,rfl⟩,rfl⟩
·rw[List.drop_zero];cases XS.mvs (lvP s0.q.P b s0.q.V) s0 with
 |mk s' o=>cases o<;>rfl
obtain⟨y,hy,hb,rfl⟩:=(q3M w.qs.ok.p1 w.pd).mp hk
exact⟨y.1,y.2,rfl,hy,hb⟩)
variable{rs:List (List Int)}
theorem MvI.at(h:MvI k s0 b rs i s ms)(hi:i<rs.length):∃n p,rs[i]=[p,n]∧(n,p)∈s.q.V∧0≤n∧n≤64:=by obtain⟨n,p,e1,e2,_⟩:=h.dr rs[i] (by rw[rQ hi];exact kX);have:=h.w.qs.ok.nm _ e2;exact⟨n,p,e1,e2,this.1,this.2⟩
theorem MvI.dark(h:MvI k s0 b rs i s ms)(hi:i<rs.length)(dk:s.lf=some 0):XS.mvs rs s0=(s,none):=by rw[h.e,rQ hi];unfold XS.mvs;rw[kJ dk]
theorem MvI.fin(h:MvI k s0 b rs i s ms)(hi:i=rs.length):XS.mvs rs s0=(s,some ms)∧∀y∈s.q.V,¬y.2 / (s.q.P:Int)=(b:Int):=by(
subst hi
refine⟨?_,λy hy z=>?_⟩
·rw[h.e,xU];show(s,some (ms++[]))=_;rw[g5]
have:=h.dl y hy (by rw[←h.eP];exact z)
rw[xU]at this
cases this)
theorem MvI.step(h:MvI k s0 b rs i s ms)(nd:rs.Nodup)(hi:i<rs.length)(hr:k.ie*s0.q.P+rs.length≤s0.rmX)(dk:s.lf≠some 0){n p:Int}(er:rs[i]=[p,n]):
 MvI k s0 b rs (i+1) (s.put n (s.val p n)) (ms++[[n,p,(s.np:Int)]]):=by(
have dre:rs.drop i=[p,n]::rs.drop (i+1):=by rw[rQ hi,er]
obtain⟨n',p',e0,hnp,hpb⟩:=h.dr [p,n] (by rw[dre];simp)
obtain⟨rfl,rfl⟩:p=p'∧n=n':=by
 injection e0 with e1 e0
 injection e0 with e2 _
 exact⟨e1,e2⟩
have nb:=h.w.qs.ok.nm _ hnp
have rmE:=h.rm
have hP:=h.eP
have slk:k.ie*s.q.P<s.rmX:=by rw[hP];lia
obtain⟨w',rm'⟩:=h.w.put (n:=n) (v:=s.val p n) slk nb.1 nb.2 (.inl ⟨p,hnp⟩) dk
obtain⟨hb,hf,ef,_,_⟩:=h.w.spot (by lia)
have gfi:∀c,(s.put n (s.val p n)).q.fi.getD c 0=if s.pb=c then(s.pf:Int)+1 else s.q.fi.getD c 0:=qAL h.w.qs.ok.lf hb ef
have cb:s.pb≠b:=λz=>by rw[z,h.fb,←hP]at ef;lia
have newp:((s.np:Nat):Int) / (s0.q.P:Int)=(s.pb:Int):=by rw[←hP];unfold XS.np;rw[←rH,yC hf]
refine⟨w',?_,?_,?_,by lia,h.eB,h.eP,h.ec,?_,λc=>?_,λm=>?_,λkq hkq=>?_,λy hy hyb=>?_,?_⟩
·rw[h.e,dre];rw[XS.mvs,kF dk];show(match(match XS.mvs (rs.drop (i+1)) (s.put n (s.val p n))with|(s',none)=>(s',none)|(s',some m)=>(s',some ([n,p,(s.np:Int)]::m)))with|(s',none)=>(s',none)|(s',some m)=>(s',some (ms++m)))=_;cases XS.mvs (rs.drop (i+1)) (s.put n (s.val p n))with
 |mk s' o=>
  cases o with
  |none=>rfl
  |some m=>show(s',some (ms++([n,p,(s.np:Int)]::m)))=(s',some ((ms++[[n,p,(s.np:Int)]])++m));rw[c6];rfl
·rw[mH,h.l];rfl
·show(s.rc++[_]).length=_;rw[mH,h.rc];rfl
·rw[gfi,kF cb];exact h.fb
·obtain⟨m1,m2⟩:=h.fm c;rw[gfi];by_cases e:s.pb=c
 ·subst e;rw[kJ rfl];refine⟨by lia,λz=>?_⟩;have:=m2 z;rw[ef,←hP]at this;lia
 rw[kF e];exact⟨m1,m2⟩
·rw[←h.nm m];constructor
 ·rintro⟨p1,h1⟩
  rcases uM.mp h1 with e|⟨h1,_⟩
  ·cases e;exact⟨p,hnp⟩
  exact⟨p1,h1⟩
 rintro⟨p1,h1⟩
 by_cases e:m=n
 ·exact⟨_,uM.mpr (.inl (by rw[e]))⟩
 exact⟨p1,uM.mpr (.inr ⟨h1,e⟩)⟩
·have hkq':kq∈rs.drop i:=by rw[dre];exact hU _ hkq
 obtain⟨n',p',rfl,h',hb'⟩:=h.dr kq hkq';refine⟨n',p',rfl,uM.mpr (.inr ⟨h',λe=>?_⟩),hb'⟩;have e:n'=n:=e;subst e;have:=qES h.w.qs.ok.nd h' hnp;subst this;have nn:=nd;rw[←nU i rs,dre]at nn;have:=(wY.mp nn).2.1;exact(gA.mp this).1 hkq
·rcases uM.mp hy with e|⟨hy,hne⟩
 ·rw[e]at hyb;have hyb:((s.np:Nat):Int) / (s0.q.P:Int)=(b:Int):=hyb;rw[newp]at hyb;exact(cb (by lia)).elim
 have:=h.dl y hy hyb;rw[dre]at this;rcases kI.mp this with e|e
 ·injection e with _ e
  injection e with e _
  exact(hne e).elim
 exact e
show(jB s.q.V n++[_]).length=_
rw[mH,gD,(q0A (V:=s.q.V) (n:=n) h.w.qs.ok.nd).2 p hnp]
exact h.lV)
structure Mvd(k:Tm)(s0:XS)(b:Nat)(s:XS)(n:Nat):Prop where
w:WX k s
rc:s.rc.length=s0.rc.length+n
rm:s.rmX+n=s0.rmX
eB:s.q.B=s0.q.B
eP:s.q.P=s0.q.P
ec:s.cl=s0.cl
fb:s.q.fi.getD b 0=(s0.q.P:Int)
fm:∀c,s0.q.fi.getD c 0≤s.q.fi.getD c 0∧(s0.q.fi.getD c 0=(s0.q.P:Int)→s.q.fi.getD c 0=(s0.q.P:Int))
nm:∀n,(∃p,(n,p)∈s.q.V)↔∃p,(n,p)∈s0.q.V
lV:s.q.V.length=s0.q.V.length
lb:b<s0.q.B→s.q.lv.getD b 0+n=(lvP s0.q.P b s0.q.V).length
theorem MvI.mvd(h:MvI k s0 b (lvP s0.q.P b s0.q.V) i s ms)(hi:i≤(lvP s0.q.P b s0.q.V).length):Mvd k s0 b s i:=by(
refine⟨h.w,h.rc,h.rm,h.eB,h.eP,h.ec,h.fb,h.fm,h.nm,h.lV,λhb=>?_⟩
rw[←q3N h.w.qs h.w.pd (by rw[h.eB];exact hb)]
have:(lvP s.q.P b s.q.V).Perm ((lvP s0.q.P b s0.q.V).drop i):=q2C q60 (pA (List.drop_sublist _ _) q60) λk=>by
 rw[q3M h.w.qs.ok.p1 h.w.pd,h.eP];constructor
 ·rintro⟨y,h1,h2,rfl⟩
  exact h.dl y h1 h2
 intro hk;obtain⟨n,p,rfl,h1,h2⟩:=h.dr k hk;exact⟨_,h1,h2,rfl⟩
rw[this.length_eq,List.length_drop]
lia)
end
section
variable{k:Tm}{s:XS}{l:List Nat}{m:CM}
theorem qJC(h:WX k s)(hl:FreeIs s.q.B (noB s.q.B) s.cl s.q.fi l):spcN (k.ie:Int) l s.q.P s.q.fi (jK s.q.B s.q.P (noB s.q.B) s.q.fi)=s.spc k:=by(
have p1:=h.qs.ok.p1
have sl:=h.sl
unfold spcN XS.spc
unfold XS.rmX at sl ⊢
rcases q1H h.on h.qs.ok.wr p1 hl with⟨h1,h2⟩|⟨b,e,h1,e1,e2,h2,e3⟩
·rw[h2]at sl;rw[h1,h2];by_cases z:1+k.ie≤l.length
 ·rw[kJ (by lia),kJ (g0 _ z)]
 have le:l.length=k.ie:=by
  have:¬l.length<k.ie:=λy=>by have:=g0 s.q.P (show l.length+1≤k.ie by lia);rw[rE,rF]at this;lia
  lia
 rw[kF (by lia),kF (by rw[le,rE,rF];lia),le];show(0:Int)=_;lia
rw[h2]at sl
rw[h1,h2]
by_cases z:1+k.ie≤l.length
·have:=g0 s.q.P z;rw[kJ (by lia),kJ (by lia)]
have le:l.length=k.ie:=by
 have:¬l.length<k.ie:=λy=>by have:=g0 s.q.P (show l.length+1≤k.ie by lia);rw[rE,rF]at this;lia
 lia
rw[kF (by lia),kF (by rw[le,rE,rF];lia),le]
show(s.q.P:Int)-s.q.fi.getD b 0=_
lia)
theorem qET(h:WX k s)(hl:FreeIs s.q.B (noB s.q.B) s.cl s.q.fi l):((jU s.q.B s.q.P (noB s.q.B) s.q.fi).filter λb=>decide (s.q.lv.getD b 0≤spcN (k.ie:Int) l s.q.P s.q.fi (jK s.q.B s.q.P (noB s.q.B) s.q.fi)))=s.ful k:=by(
unfold jU XS.ful
rw[yA,qJC h hl,List.filter_filter]
refine wZ λb _=>?_
rw[Bool.and_comm])
theorem qAM(h:WX k s)(br:m.br=noB s.q.B)(hl:FreeIs s.q.B (noB s.q.B) s.cl s.q.fi l):optN (k.ie:Int) m s.q l=s.ded k:=by unfold optN XS.ded;rw[br,qET h hl]
theorem qEU(e:m.cl=s.cl):tlOf m s.q=s.tl:=by funext b;unfold tlOf XS.tl;rw[e]
theorem qJD(h:WX k s)(hl:FreeIs s.q.B (noB s.q.B) s.cl s.q.fi l):rdy (k.ie:Int) l (jK s.q.B s.q.P (noB s.q.B) s.q.fi)=s.rd k:=qGI h.on h.qs.ok.wr h.qs.ok.p1 hl
structure Full(k:Tm)(s:XS)(c:Nat):Prop where
b:c<s.q.B
f:s.q.fi.getD c 0=(s.q.P:Int)
l:s.q.lv.getD c 0≤s.spc k
theorem q52{b:Nat}:b∈s.ful k↔Full k s b:=by unfold XS.ful;rw[mK,mV,mR,kQ,kQ];exact⟨λ⟨a,b,c⟩=>⟨a,b,c⟩,λh=>⟨h.b,h.f,h.l⟩⟩
theorem q0R{b:Nat}:b∈s.ded k↔Full k s b∧s.q.lv.getD b 0<(s.q.P:Int):=by unfold XS.ded;rw[mK,q52,kQ]
theorem uN{b:Nat}:b∈s.opt k↔(Full k s b∧s.q.lv.getD b 0<(s.q.P:Int))∧(k.ev=true→s.cl.getD b 0<s.lst+k.sp):=by(
unfold XS.opt XS.clb
cases k.ev with
|false=>rw[kF (by decide),q0R];exact⟨λh=>⟨h,λz=>by cases z⟩,λh=>h.1⟩
|true=>rw[kJ rfl,mK,q0R,kQ];exact⟨λh=>⟨h.1,λ_=>h.2⟩,λh=>⟨h.1,h.2 rfl⟩⟩)
theorem Full.sp(h:WX k s){b:Nat}(f:Full k s b):k.ie*s.q.P+(lvP s.q.P b s.q.V).length≤s.rmX:=by(
have e:=q3N h.qs h.pd f.b
have l:=f.l
have sl:=h.sl
have lb:=h.qs.lv b f.b
have cn:(lvP s.q.P b s.q.V).length≤s.q.P:=by unfold lvP;refine mF (d3 _ _) ?_;rw[gC];exact kN _
unfold XS.spc at l
split at l
·rename_i z;rw[rE,rF]at z;lia
lia)
theorem qBP{L:List Nat}:∀a∈L.map s.tl,∀c∈L.map s.tl,a.b=c.b→a=c:=λa ha c hc e=>by(
obtain⟨x,_,rfl⟩:=kZ.mp ha
obtain⟨y,_,rfl⟩:=kZ.mp hc
have e:(x:Int)=(y:Int):=e
rw[show x=y by lia])
theorem qEV(h:WX k s){b:Nat}(hb:b<s.q.B):0≤s.q.lv.getD b 0∧s.q.lv.getD b 0≤(s.q.P:Int):=by
 have e:=q3N h.qs h.pd hb;have cn:(lvP s.q.P b s.q.V).length≤s.q.P:=by unfold lvP;refine mF (d3 _ _) ?_;rw[gC];exact kN _
 lia
theorem qHM(h:WX k s)(rc:s.rc.length<1000000){b:Nat}(hb:b<s.q.B):(s.tl b).Ok (s.q.P:Int) s.q.nx:=by(
have b2:=h.qs.ok.b2
have c:=h.c0 b
have d:=h.bo b
have e:=qEV h hb
refine⟨?_,?_,e.1,e.2,c.1,?_,d.1,d.2⟩
·show(0:Int)≤(b:Int);lia
·show(b:Int)<16;lia
show s.cl.getD b 0<10 ^ 30
have:(1000000:Int)<10 ^ 30:=by decide
lia)
theorem qEW(h:WX k s):(s.opt k).length≤16:=by(
have b2:=h.qs.ok.b2
have:(s.ded k).length≤16:=by unfold XS.ded XS.ful;refine mF (mE _ _) (mF (mE _ _) ?_);rw[gC];exact b2
unfold XS.opt XS.clb
split
·exact mF (mE _ _) this
exact this)
end
structure Kp(s s':XS):Prop where
eB:s'.q.B=s.q.B
eP:s'.q.P=s.q.P
nm:∀n,(∃p,(n,p)∈s'.q.V)↔∃p,(n,p)∈s.q.V
lV:s'.q.V.length=s.q.V.length
theorem Kp.refl{s:XS}:Kp s s:=⟨rfl,rfl,λ_=>bA,rfl⟩
theorem Kp.trans{a b c:XS}(h:Kp a b)(g:Kp b c):Kp a c:=⟨g.eB.trans h.eB,g.eP.trans h.eP,λn=>(g.nm n).trans (h.nm n),g.lV.trans h.lV⟩
section
variable{k:Tm}{s:XS}{b:Nat}
theorem qAN{P b:Nat}{V:Mp}:(lvP P b V).length≤P:=by(
unfold lvP
refine mF (d3 _ _) ?_
rw[gC]
exact kN _)
theorem q89(R:XS→List (List Int)→Prop)(w:WX k s)(f:Full k s b)(r0:R s [])(rs:∀s' ms n p,WX k s'→Kp s s'→s'.cl=s.cl→s'.q.fi.getD b 0=(s.q.P:Int)→(n,p)∈s'.q.V→p / (s.q.P:Int)=(b:Int)→k.ie*s'.q.P<s'.rmX→s'.lf≠some 0→R s' ms→R (s'.put n (s'.val p n)) (ms++[[n,p,(s'.np:Int)]])):∃s' n ms,Mvd k s b s' n∧ms.length=n∧R s' ms∧((XS.mvs (lvP s.q.P b s.q.V) s=(s',none)∧n<(lvP s.q.P b s.q.V).length∧s'.lf=some 0)∨(XS.mvs (lvP s.q.P b s.q.V) s=(s',some ms)∧n=(lvP s.q.P b s.q.V).length∧∀y∈s'.q.V,¬y.2 / (s'.q.P:Int)=(b:Int))):=by(
have sp:=f.sp w
have key:∀d i,i+d=(lvP s.q.P b s.q.V).length→∀s' ms,MvI k s b (lvP s.q.P b s.q.V) i s' ms→R s' ms→∃s' n ms,Mvd k s b s' n∧ms.length=n∧R s' ms∧((XS.mvs (lvP s.q.P b s.q.V) s=(s',none)∧n<(lvP s.q.P b s.q.V).length∧s'.lf=some 0)∨(XS.mvs (lvP s.q.P b s.q.V) s=(s',some ms)∧n=(lvP s.q.P b s.q.V).length∧∀y∈s'.q.V,¬y.2 / (s'.q.P:Int)=(b:Int))):=by
 intro d;induction d with
 |zero=>intro i hi s' ms mi hR;obtain⟨e,nl⟩:=mi.fin (by lia);exact⟨s',i,ms,mi.mvd (by lia),mi.l,hR,.inr ⟨e,by lia,nl⟩⟩
 |succ d ih=>
  intro i hi s' ms mi hR;have hi':i<(lvP s.q.P b s.q.V).length:=by lia
  by_cases dk:s'.lf=some 0
  ·exact⟨s',i,ms,mi.mvd (by lia),mi.l,hR,.inl ⟨mi.dark hi' dk,hi',dk⟩⟩
  obtain⟨n,p,er,hnp,_⟩:=mi.at hi';have rme:=mi.rm;obtain⟨n',p',e0,_,hpb⟩:=mi.dr [p,n] (by rw[rQ hi',er];exact kX);have e1:p=p':=by injection e0
  refine ih (i+1) (by lia) _ _ (mi.step q60 hi' sp dk er) (rs s' ms n p mi.w ⟨mi.eB,mi.eP,mi.nm,mi.lV⟩ mi.ec mi.fb hnp (by rw[e1];exact hpb) (by rw[mi.eP];lia) dk hR)
exact key _ 0 (nK _) s [] (MvI.zero w f.f) r0)
end
theorem qAO{g:Rl}{pg nw:Int}{ts:List Tl}(ok:g.Ok)(h:ts≠[]):(g.ch pg nw ts).1∈ts.map Tl.b:=by(
cases g with
|rk f=>obtain⟨A,hA,e,_⟩:=qEQ (f:=f pg nw) h;show pk (f pg nw) ts∈_;rw[e];exact kZ.mpr ⟨A,hA,rfl⟩
|win m=>obtain⟨A,hA,e,_⟩:=qEQ (f:=Tl.lv) (qGO ok h);show pk Tl.lv (winC m ts)∈_;rw[e];exact kZ.mpr ⟨A,qGN A hA,rfl⟩
|fol row u=>
 have h0:(ts.map Tl.b).headD 0∈ts.map Tl.b:=by
  cases ts with
  |nil=>exact absurd rfl h
  |cons a r=>simp
 show fo row u ts∈_;unfold fo;split
 ·split
  ·assumption
  exact h0
 exact h0)
theorem qKN{g:Rl}{pg nw:Int}{ts:List Tl}(ok:g.Ok):(g.ch pg nw ts).2.Ok:=by(
cases g with
|rk f=>trivial
|win m=>exact ok
|fol row u=>trivial)
section
variable{k:Tm}{s:XS}{g g':Rl}{y:Str}{b:Nat}
theorem q0B(ok:g.Ok)(h:s.tk k g=some (y,b,g')):(y=Str.ofString "rule"∧b∈s.opt k∧(b:Int)=(g.ch (s.q.P:Int) s.q.nx (s.ots k)).1∧g'=(g.ch (s.q.P:Int) s.q.nx (s.ots k)).2)∨(y=Str.ofString "even"∧k.ev=true∧s.opt k=[]∧g'=g∧s.chg k=some b∧b∈s.clb k (s.ful k)∧∀c∈s.clb k (s.ful k),s.cl.getD b 0≤s.cl.getD c 0):=by(
unfold XS.tk at h
split at h
·rename_i e0;split at h
 ·rename_i ev;cases z:s.chg k with
  |none=>rw[z]at h;cases h
  |some c=>
   rw[z]at h;cases h;have pw:(s.clb k (s.ful k)).Pairwise (· < ·):=by unfold XS.clb XS.ful;exact g3 _ (g3 _ dL)
   obtain⟨m1,m2⟩:=(q2D (cl:=s.cl) pw).2 b z;refine .inr ⟨rfl,ev,e0,rfl,rfl,m1,λc hc=>?_⟩;have:=m2 c hc;unfold keyN lx at this;by_cases q:s.cl.getD c 0=s.cl.getD b 0
   ·lia
   rw[kF q]at this;have:=dC this;lia
 cases h
rename_i ne
have ne':s.ots k≠[]:=λz=>ne (wA.mp z)
have cm:=qAO (pg:=(s.q.P:Int)) (nw:=s.q.nx) ok ne'
injection h with h
injection h with h1 h
injection h with h h2
obtain⟨c,hc,e⟩:=kZ.mp cm
obtain⟨c',hc',rfl⟩:=kZ.mp hc
have e:(c':Int)=(g.ch (s.q.P:Int) s.q.nx (s.ots k)).1:=e
rw[←e,mQ]at h
subst h
exact .inl ⟨h1.symm,hc',e,h2.symm⟩)
theorem q3O(ok:g.Ok)(h:s.tk k g=some (y,b,g')):Full k s b:=by(
rcases q0B ok h with⟨_,h1,_⟩|⟨_,_,_,_,_,h1,_⟩
·exact(uN.mp h1).1.1
unfold XS.clb at h1
exact q52.mp (mK.mp h1).1)
theorem qEX(ok:g.Ok)(h:s.tk k g=some (y,b,g')):g'.Ok:=by(
rcases q0B ok h with⟨_,_,_,e⟩|⟨_,_,_,e,_⟩
·rw[e];exact qKN ok
rw[e];exact ok)
end
section
variable{k:Tm}{X Y:Sx}
inductive RoomR(k:Tm)(X:Sx):Sx×Except Rf Pa→Prop
|no:X.s.tk k X.g=none→RoomR k X (X,.error .room)
|dark {y b g' s' n}:X.s.tk k X.g=some (y,b,g')→Mvd k X.s b s' n→n≤(lvP X.s.q.P b X.s.q.V).length→s'.lf=some 0→RoomR k X (⟨s',g',X.ps⟩,.error .dark)
|ok {y b g' s' ms}:X.s.tk k X.g=some (y,b,g')→XS.mvs (lvP X.s.q.P b X.s.q.V) X.s=(s',some ms)→Mvd k X.s b s' (lvP X.s.q.P b X.s.q.V).length→ms.length=(lvP X.s.q.P b X.s.q.V).length→s'.lf≠some 0→WX k (s'.wip b)→(s'.wip b).rmX=s'.rmX+X.s.q.P→RoomR k X (⟨s'.wip b,g',X.ps++[⟨y,X.s.ots k,b,ms⟩]⟩,.ok ⟨y,X.s.ots k,b,ms⟩)
theorem q61(w:WX k X.s)(ok:X.g.Ok):RoomR k X (X.room k):=by(
unfold Sx.room
cases htk:X.s.tk k X.g with
|none=>exact .no htk
|some ybg=>
 obtain⟨y,b,g'⟩:=ybg;have f:=q3O ok htk;obtain⟨s',n,ms,md,lm,_,h|h⟩:=q89 (λ_ _=>True) w f trivial (λ_ _ _ _ _ _ _ _ _ _ _ _ _=>trivial)
 ·obtain⟨e,hn,dk⟩:=h;dsimp only;rw[e];exact .dark htk md (by lia) dk
 obtain⟨e,hn,nl⟩:=h;dsimp only;rw[e];dsimp only;subst hn;by_cases dk:s'.lf=some 0
 ·rw[kJ dk];exact .dark htk md (kN _) dk
 rw[kF dk];obtain⟨w',rm'⟩:=md.w.wip (b:=b) (by rw[md.eB];exact f.b) (by rw[md.eP];exact md.fb) nl dk;exact .ok htk e md lm dk w' (by rw[rm',md.eP]))
theorem qEY{p:Pa}(w:WX k X.s)(ok:X.g.Ok)(h:X.room k=(Y,.ok p)):Y.s.rc.length≤X.s.rc.length+17∧Y.ps.length=X.ps.length+1:=by(
have r:=q61 w ok
rw[h]at r
have l16:∀b,(lvP X.s.q.P b X.s.q.V).length≤X.s.q.P:=λb=>qAN
have p2:=w.qs.ok.p2
cases r with
|@ok y b g' s' ms htk e md lm dk w' rm'=>have:=l16 b;refine⟨?_,mH⟩;show(_++[_]).length≤_;rw[mH,md.rc,gD];lia)
theorem Mvd.kp{s s':XS}{b n:Nat}(h:Mvd k s b s' n):Kp s s':=⟨h.eB,h.eP,h.nm,h.lV⟩
theorem q53{r:Except Rf Pa}(w:WX k X.s)(ok:X.g.Ok)(h:X.room k=(Y,r)):WX k Y.s∧Y.g.Ok∧Kp X.s Y.s∧Y.s.rc.length≤X.s.rc.length+17∧Y.ps.length≤X.ps.length+1:=by(
have rr:=q61 w ok
rw[h]at rr
have l16:∀b,(lvP X.s.q.P b X.s.q.V).length≤X.s.q.P:=λb=>qAN
have p2:=w.qs.ok.p2
cases rr with
|no htk=>exact⟨w,ok,Kp.refl,by lia,by lia⟩
|@dark y b g' s' n htk md hn dk=>have:=l16 b;refine⟨md.w,qEX ok htk,md.kp,?_,dD _⟩;show s'.rc.length≤_;rw[md.rc];lia
|@ok y b g' s' ms htk e md lm dk w' rm'=>
 have:=l16 b;refine⟨w',qEX ok htk,md.kp.trans ⟨rfl,rfl,λ_=>bA,rfl⟩,?_,?_⟩
 ·show(_++[_]).length≤_;rw[mH,md.rc,gD];lia
 show(_++[_]).length≤_;rw[mH];exact kN _)
theorem q2E:∀{i:Nat} {X Y:Sx} {r:Except Rf Unit},WX k X.s→X.g.Ok→X.rooms k i=some (Y,r)→WX k Y.s∧Y.g.Ok∧Kp X.s Y.s∧Y.s.rc.length≤X.s.rc.length+17*i∧Y.ps.length≤X.ps.length+i∧(r=.ok ()→Y.s.rd k=true)
|0,X,Y,r,w,ok,h=>by
 unfold Sx.rooms at h;split at h
 ·rename_i z;cases h;exact⟨w,ok,Kp.refl,kN _,kN _,λ_=>z⟩
 cases h
|i+1,X,Y,r,w,ok,h=>by
 unfold Sx.rooms at h;split at h
 ·rename_i z;cases h;exact⟨w,ok,Kp.refl,sL _ _,sL _ _,λ_=>z⟩
 cases e:X.room k with
 |mk W o=>
  rw[e]at h;obtain⟨a1,a2,a3,a4,a5⟩:=q53 w ok e;cases o with
  |error x=>cases h;exact⟨a1,a2,a3,by lia,by lia,λz=>by cases z⟩
  |ok p=>obtain⟨b1,b2,b3,b4,b5,b6⟩:=q2E a1 a2 h;exact⟨b1,b2,a3.trans b3,by lia,by lia,b6⟩
noncomputable def gvn(ns ss:List Int):List Int:=ns.filter λn=>decide (n∈ss)
noncomputable def rst(ns g:List Int):List Int:=ns.filter λn=>!decide (n∈g)
noncomputable def XS.forgs(s:XS)(g:List Int):XS:=g.foldl XS.forg s
theorem qAP{s:XS}{g:List Int}{i:Nat}{n:Int}(h:g[i]?=some n):s.forgs (g.take (i+1))=(s.forgs (g.take i)).forg n:=by(
have hi:=(kD.mp h).1
obtain rfl:g[i]=n:=(kD.mp h).2
unfold XS.forgs
rw[←mY hi,List.foldl_append]
rfl)
end
noncomputable def Hv(s:XS)(n v:Int):Prop:=∃p mk,(n,p)∈s.q.V∧s.pg p.toNat=some (mk,v)
noncomputable def putR(m:List Int):Str×Int×Bool:=(Str.ofString "put",m.getD 2 0,true)
section
variable{k:Tm}{s s':XS}{n m v u:Int}{b:Nat}
theorem Hv.put(w:WX k s)(hr:0<s.rmX)(ne:m≠n)(h:Hv s m u):Hv (s.put n v) m u:=by(
obtain⟨p,mk,hp,e⟩:=h
obtain⟨c,g,x,a1,a2,a3,a4,a5⟩:=w.vl _ hp
obtain⟨hb,hf,ef,_⟩:=w.spot hr
have a3:p=_:=a3
refine⟨p,mk,uM.mpr (.inr ⟨hp,ne⟩),?_⟩
show(if p.toNat=s.np then _ else s.pg p.toNat)=_
rw[kF]
·exact e
rw[a3,mQ]
intro z
obtain⟨e1,e2⟩:=q88 a2 hf z
rw[e1,ef]at a4
lia)
theorem Hv.new:Hv (s.put n v) n v:=⟨(s.np:Int),_,uM.mpr (.inl rfl),by
 show(if((s.np:Nat):Int).toNat=s.np then _ else _)=_;rw[mQ,kJ rfl]⟩
theorem Hv.wip(w:WX k s)(nl:∀y∈s.q.V,¬y.2 / (s.q.P:Int)=(b:Int))(h:Hv s m u):Hv (s.wip b) m u:=by(
obtain⟨p,mk,hp,e⟩:=h
obtain⟨c,g,x,a1,a2,a3,a4,a5⟩:=w.vl _ hp
have a3:p=_:=a3
refine⟨p,mk,hp,?_⟩
show(if p.toNat / s.q.P=b then none else s.pg p.toNat)=_
rw[kF]
·exact e
have:=nl _ hp
rw[a3,mQ,yC a2]
rw[show((m,p).2:Int)=p from rfl,a3,←rH,yC a2]at this
intro z
exact this (by rw[z]))
theorem Hv.forg(ne:m≠n)(h:Hv s m u):Hv (s.forg n) m u:=by obtain⟨p,mk,hp,e⟩:=h;exact⟨p,mk,jC.mpr ⟨hp,ne⟩,e⟩
theorem Hv.val(w:WX k s){p:Int}(hp:(n,p)∈s.q.V)(n6:n≠64)(h:Hv s n u):s.val p n=u:=by(
obtain⟨p',mk,hp',e⟩:=h
rw[qES w.qs.ok.nd hp hp']
unfold XS.val
rw[kF n6,e]
rfl)
theorem q8A(w:WX k s){c:Nat}(hc:c<s.q.B):s.lst≤s.cl.getD c 0:=by(
have hc':c<s.cl.length:=by rw[w.lc];exact hc
obtain⟨m,e,h1,h2⟩:=q87 (l:=s.cl) (λz=>by rw[z]at hc';cases hc')
unfold XS.lst
rw[e,kL,kC hc']
exact h2 _ (gJ _))
theorem qAQ(w:WX k s)(hb:0<s.q.B):∃c,c<s.q.B∧s.cl.getD c 0=s.lst:=by(
have hb':0<s.cl.length:=by rw[w.lc];exact hb
obtain⟨m,e,h1,h2⟩:=q87 (l:=s.cl) (λz=>by rw[z]at hb';cases hb')
obtain⟨c,hc,ec⟩:=r9 h1
refine⟨c,by rw[←w.lc];exact hc,?_⟩
unfold XS.lst
rw[e,kL,kC hc,ec])
theorem qEZ(w:WX k s)(hr:0<s.rmX)(z:s.q.fi.getD s.pb 0=0){c:Nat}(hc:c<s.q.B)(fc:s.q.fi.getD c 0=0):s.cl.getD s.pb 0≤s.cl.getD c 0:=by(
have e:s.pb=spF s.q s.cl:=rfl
unfold spF at e
cases q:(List.range s.q.B).find? (jW s.q.P s.q.fi)with
|some d=>rw[q]at e;have h2:=d9 q;unfold jW at h2;rw[mR,kQ]at h2;rw[show s.pb=d from e]at z;lia
|none=>
 rw[q]at e;have pw:((List.range s.q.B).filter λb=>decide (s.q.fi.getD b 0=0)).Pairwise (· < ·):=g3 _ dL;have hm:c∈(List.range s.q.B).filter λb=>decide (s.q.fi.getD b 0=0):=mK.mpr ⟨mV.mpr hc,hG fc⟩;obtain⟨h1,h2⟩:=q2D (cl:=s.cl) pw;cases y:minF s.cl ((List.range s.q.B).filter λb=>decide (s.q.fi.getD b 0=0))with
 |none=>rw[h1 y]at hm;cases hm
 |some d=>
  rw[y]at e;have e:s.pb=d:=e;have:=(h2 d y).2 c hm;rw[e];unfold keyN lx at this;by_cases x:s.cl.getD c 0=s.cl.getD d 0
  ·lia
  rw[kF x]at this;have:=dC this;lia)
structure Ix(k:Tm)(s:XS):Prop where
w:WX k s
sh:s.q.V.length<(s.q.B-(1+k.ie))*s.q.P
s1:1≤k.sp
gp:k.ev=true→∀b c,b<s.q.B→c<s.q.B→s.cl.getD b 0≤s.cl.getD c 0+k.sp
e2:k.ev=true→∀d c,d<s.q.B→c<s.q.B→s.q.fi.getD d 0≠0→s.q.fi.getD c 0=0→s.cl.getD d 0<s.cl.getD c 0+k.sp
noncomputable def Wt(k:Tm)(s:XS):Prop:=s.rmX<(1+k.ie)*s.q.P→∃b,b<s.q.B∧s.q.fi.getD b 0=(s.q.P:Int)∧s.q.lv.getD b 0<(s.q.P:Int)∧s.q.lv.getD b 0+((1+k.ie)*s.q.P:Nat)≤(s.rmX:Int)+(s.q.P:Int)∧(k.ev=true→s.cl.getD b 0<s.lst+k.sp)
theorem Ix.put(x:Ix k s)(hr:k.ie*s.q.P<s.rmX)(w':WX k (s.put n v))(hs:(s.put n v).q.V.length<(s.q.B-(1+k.ie))*s.q.P):Ix k (s.put n v):=by(
obtain⟨hb,hf,ef,_⟩:=x.w.spot (by lia)
have s1:=x.s1
have gfi:∀c,(s.put n v).q.fi.getD c 0=if s.pb=c then(s.pf:Int)+1 else s.q.fi.getD c 0:=qAL x.w.qs.ok.lf hb ef
refine⟨w',hs,x.s1,x.gp,λev d c hd hc fd fc=>?_⟩
rw[gfi]at fd fc
have hc:c<s.q.B:=hc
have hd:d<s.q.B:=hd
show s.cl.getD d 0<s.cl.getD c 0+k.sp
by_cases c1:s.pb=c
·rw[kJ c1]at fc;lia
rw[kF c1]at fc
by_cases d1:s.pb=d
·subst d1;by_cases z:s.q.fi.getD s.pb 0=0
 ·have:=qEZ x.w (by lia) z hc fc;lia
 exact x.e2 ev _ _ hd hc z fc
rw[kF d1]at fd
exact x.e2 ev _ _ hd hc fd fc)
theorem Ix.wip(x:Ix k s)(hb:b<s.q.B)(w':WX k (s.wip b))(cb:k.ev=true→s.cl.getD b 0<s.lst+k.sp):Ix k (s.wip b):=by(
have lc:=x.w.lc
have gcl:∀c,(s.wip b).cl.getD c 0=if b=c then s.cl.getD b 0+1 else s.cl.getD c 0:=λc=>by
 show(s.cl.set b (s.cl.getD b 0+1)).getD c 0=_;rw[jG,lc];by_cases e:b=c
 ·rw[kJ ⟨e,hb⟩,kJ e]
 rw[kF (λz=>e z.1),kF e]
have gfi:∀c,(s.wip b).q.fi.getD c 0=if b=c then 0 else s.q.fi.getD c 0:=λc=>by
 show(s.q.fi.set b 0).getD c 0=_;rw[jG,x.w.qs.ok.lf];by_cases e:b=c
 ·rw[kJ ⟨e,hb⟩,kJ e]
 rw[kF (λz=>e z.1),kF e]
refine⟨w',x.sh,x.s1,λev c d hc hd=>?_,λev d c hd hc fd fc=>?_⟩
·have hc:c<s.q.B:=hc;have hd:d<s.q.B:=hd;rw[gcl,gcl];have:=cb ev;have:=x.gp ev c d hc hd;have:=x.gp ev c b hc hb;have:=q8A x.w hd;have:=x.s1;split<;>split<;>lia
have hc:c<s.q.B:=hc
have hd:d<s.q.B:=hd
rw[gfi]at fd fc
rw[gcl,gcl]
by_cases d1:b=d
·rw[kJ d1]at fd;exact absurd rfl fd
rw[kF d1]at fd ⊢
by_cases c1:b=c
·rw[kJ c1];have:=x.gp ev d b hd hb;lia
rw[kF c1]at fc ⊢
exact x.e2 ev d c hd hc fd fc)
end
section
variable{k:Tm}{X Y:Sx}
structure RmX(k:Tm)(X Y:Sx):Prop where
x:Ix k Y.s
wt:Wt k Y.s
ok:Y.g.Ok
kp:Kp X.s Y.s
hv:∀m u,m≠64→Hv X.s m u→Hv Y.s m u
theorem q8B{r:Except Rf Pa}(x:Ix k X.s)(wt:Wt k X.s)(ok:X.g.Ok)(h:X.room k=(Y,r)):RmX k X Y∧(match r with
 | .ok p=>Y.ps=X.ps++[p]∧Y.s.rc=X.s.rc++p.mv.map putR++[(Str.ofString "wipe",(p.b:Int),true)]∧(1+k.ie)*X.s.q.P≤Y.s.rmX∧Y.s.rmX+p.mv.length=X.s.rmX+X.s.q.P∧(∃g',X.s.tk k X.g=some (p.why,p.b,g'))∧p.mv.length=(lvP X.s.q.P p.b X.s.q.V).length∧p.ts=X.s.ots k∧(∃s',XS.mvs (lvP X.s.q.P p.b X.s.q.V) X.s=(s',some p.mv)∧Y.s=s'.wip p.b∧Mvd k X.s p.b s' p.mv.length)
 | .error .dark=>Y.s.lf=some 0∧Y.ps=X.ps∧∃ms,Y.s.rc=X.s.rc++List.map putR ms
 | .error .room=>Y=X∧X.s.tk k X.g=none):=by(
unfold Sx.room at h
cases htk:X.s.tk k X.g with
|none=>rw[htk]at h;cases h;exact⟨⟨x,wt,ok,Kp.refl,λ_ _ _ z=>z⟩,rfl,rfl⟩
|some ybg=>
 obtain⟨y,b,g'⟩:=ybg;rw[htk]at h;dsimp only at h;have f:=q3O ok htk;have g'ok:=qEX ok htk;have spc:=f.l;have lvb:=q3N x.w.qs x.w.pd f.b;have sl:=x.w.sl;have clb:k.ev=true→X.s.cl.getD b 0<X.s.lst+k.sp:=λev=>by
  rcases q0B ok htk with⟨_,h1,_⟩|⟨_,_,_,_,_,h1,_⟩
  ·exact(uN.mp h1).2 ev
  unfold XS.clb at h1;exact mM (mK.mp h1).2
 obtain⟨s',n,ms,md,lm,⟨xi,hv,rcE⟩,hh⟩:=q89 (λs' ms=>Ix k s'∧(∀m u,m≠64→Hv X.s m u→Hv s' m u)∧s'.rc=X.s.rc++ms.map putR) x.w f ⟨x,λ_ _ _ z=>z,by simp⟩ (λs' ms n p w' kp ec fb hnp hpb hr dk ⟨xi,hv,rcE⟩=>by
  have nb:=w'.qs.ok.nm _ hnp;obtain⟨w2,_⟩:=w'.put (v:=s'.val p n) hr nb.1 nb.2 (.inl ⟨p,hnp⟩) dk;refine⟨xi.put hr w2 ?_,λm u m6 hm=>?_,?_⟩
  ·show(jB s'.q.V n++[_]).length< _;rw[mH,gD,(q0A (V:=s'.q.V) (n:=n) w'.qs.ok.nd).2 p hnp];exact xi.sh
  ·have:=hv m u m6 hm;by_cases e:m=n
   ·subst e;have z:=Hv.new (s:=s') (n:=m) (v:=s'.val p m);rw[this.val w' hnp m6]at z ⊢;exact z
   exact this.put w' (by lia) e
  show s'.rc++[_]=_;rw[rcE,m8,c6];rfl)
 have kp:Kp X.s s':=⟨md.eB,md.eP,md.nm,md.lV⟩;have rme:=md.rm;have lbe:=md.lb f.b;have ec:=md.ec;have wt':Wt k s':=λhlt=>by
  rw[md.eP]at hlt;refine⟨b,by rw[md.eB];exact f.b,by rw[md.eP];exact md.fb,?_,?_,λev=>?_⟩
  ·rw[md.eP];by_cases n0:n=0
   ·have:X.s.rmX<(1+k.ie)*X.s.q.P:=by lia
    have lt:X.s.q.lv.getD b 0<(X.s.q.P:Int):=by
     rcases q0B ok htk with⟨_,h1,_⟩|⟨_,_,e0,_⟩
     ·exact(uN.mp h1).1.2
     exfalso;obtain⟨c,c1,c2,c3,c4,c5⟩:=wt this;have:c∈X.s.opt k:=uN.mpr ⟨⟨⟨c1,c2,by unfold XS.spc;rw[kF (by lia)];rw[rE,rF]at c4;lia⟩,c3⟩,c5⟩;rw[e0]at this;cases this
    lia
   have:=qAN (P:=X.s.q.P) (b:=b) (V:=X.s.q.V);lia
  ·rw[md.eP];unfold XS.spc at spc;rw[rE,rF]at *;split at spc<;>lia
  have e1:s'.lst=X.s.lst:=by unfold XS.lst;rw[ec]
  rw[ec,e1];exact clb ev
 rcases hh with⟨e,hn,dk⟩|⟨e,hn,nl⟩
 ·rw[e]at h;cases h;exact⟨⟨xi,wt',g'ok,kp,hv⟩,dk,rfl,ms,rcE⟩
 rw[e]at h;dsimp only at h;by_cases dk:s'.lf=some 0
 ·rw[kJ dk]at h;cases h;exact⟨⟨xi,wt',g'ok,kp,hv⟩,dk,rfl,ms,rcE⟩
 rw[kF dk]at h;cases h;obtain⟨w2,rm2⟩:=md.w.wip (b:=b) (by rw[md.eB];exact f.b) (by rw[md.eP];exact md.fb) nl dk;have e1:s'.lst=X.s.lst:=by unfold XS.lst;rw[ec]
 have ge:(1+k.ie)*X.s.q.P≤(s'.wip b).rmX:=by rw[rm2,md.eP];unfold XS.spc at spc;rw[rE,rF]at *;split at spc<;>lia
 refine⟨⟨xi.wip (by rw[md.eB];exact f.b) w2 (λev=>by rw[ec,e1];exact clb ev),λhlt=>?_,g'ok,kp.trans ⟨rfl,rfl,λ_=>bA,rfl⟩,λm u m6 hm=>(hv m u m6 hm).wip md.w nl⟩,rfl,?_,ge,?_,⟨g',rfl⟩,by rw[lm,hn],rfl,s',e,rfl,by rw[lm];exact md⟩
 ·have hlt:(s'.wip b).rmX<(1+k.ie)*s'.q.P:=hlt;rw[md.eP]at hlt;lia
 ·show s'.rc++[_]=_;rw[rcE]
 show(s'.wip b).rmX+ms.length=_;rw[rm2,md.eP,lm];lia)
end
section
variable{k:Tm}{s:XS}
theorem q44(w:WX k s)(hr:s.rmX=(1+k.ie)*s.q.P):(∀b,b<s.q.B→s.q.fi.getD b 0=0∨s.q.fi.getD b 0=(s.q.P:Int))∧((List.range s.q.B).filter λb=>decide (s.q.fi.getD b 0=(s.q.P:Int))).length=s.q.B-(1+k.ie):=by(
have p1:=w.qs.ok.p1
obtain⟨l,hl⟩:=FreeIs.ex s.q.B (noB s.q.B) s.cl s.q.fi
have ll:jK s.q.B s.q.P (noB s.q.B) s.q.fi=none∧l.length=1+k.ie:=by
 rcases q1H w.on w.qs.ok.wr p1 hl with⟨h1,h2⟩|⟨b,e,h1,e1,e2,h2,_⟩
 ·refine⟨h1,?_⟩;unfold XS.rmX at hr;rw[hr]at h2;exact(sC (by lia) h2).symm
 exfalso;unfold XS.rmX at hr;rw[hr]at h2;have k:(1+k.ie)*s.q.P%s.q.P=e:=by rw[h2,wL,pO,pF e2]
 rw[xS]at k;lia
have fl:=q9J w.on w.qs.ok.wr p1 hl ll.1
unfold jU at fl
rw[yA]at fl
refine⟨λb hb=>?_,by lia⟩
have np:=ll.1
unfold jK at np
rw[yA]at np
have:=wN.mp np b (mV.mpr hb)
obtain⟨f,ef,hf⟩:=w.qs.ok.wr b hb
unfold jW at this
rw[mR,kQ,kQ]at this
lia)
theorem v3(x:Ix k s)(hr:s.rmX=(1+k.ie)*s.q.P):s.ded k≠[]:=by(
obtain⟨l,hl⟩:=FreeIs.ex s.q.B (noB s.q.B) s.cl s.q.fi
have m:CM:=⟨0,0,0,[],[],s.cl,[],noB s.q.B,none,[]⟩
have:=(qER (m:=⟨0,0,0,[],[],s.cl,[],noB s.q.B,none,[]⟩) (ie:=k.ie) x.w.qs x.w.on rfl hl hr x.sh).1
rw[qAM x.w rfl hl]at this
exact this)
theorem q9K(wt:Wt k s)(hr:s.rmX<(1+k.ie)*s.q.P):s.opt k≠[]:=λz=>by(
obtain⟨b,b1,b2,b3,b4,b5⟩:=wt hr
have:b∈s.opt k:=uN.mpr ⟨⟨⟨b1,b2,by unfold XS.spc;rw[kF (by lia)];rw[rE,rF]at b4;lia⟩,b3⟩,b5⟩
rw[z]at this
cases this)
theorem q7O(x:Ix k s)(hr:s.rmX=(1+k.ie)*s.q.P)(ev:k.ev=true)(e0:s.opt k=[]):(∀c,c<s.q.B→s.q.fi.getD c 0=0→s.lst<s.cl.getD c 0)∧∃b,s.chg k=some b∧b<s.q.B∧s.q.fi.getD b 0=(s.q.P:Int)∧s.cl.getD b 0=s.lst∧s.q.lv.getD b 0=(s.q.P:Int):=by(
have s1:=x.s1
have p1:=x.w.qs.ok.p1
have nop:∀d,Full k s d→s.q.lv.getD d 0<(s.q.P:Int)→s.lst+k.sp≤s.cl.getD d 0:=λd fd ld=>by refine Int.not_lt.mp λz=>?_;have:d∈s.opt k:=uN.mpr ⟨⟨fd,ld⟩,λ_=>z⟩;rw[e0]at this;cases this
have fr:∀c,c<s.q.B→s.q.fi.getD c 0=0→s.lst<s.cl.getD c 0:=λc hc fc=>by obtain⟨d,hd⟩:=rR _ (v3 x hr);obtain⟨fd,ld⟩:=q0R.mp hd;have h1:=nop d fd ld;have h2:=x.e2 ev d c fd.b hc (by rw[fd.f];lia) fc;lia
refine⟨fr,?_⟩
obtain⟨rp,_⟩:=q44 x.w hr
have hB:0<s.q.B:=by obtain⟨d,hd⟩:=rR _ (v3 x hr);have:=(q0R.mp hd).1.b;lia
obtain⟨c,hc,ec⟩:=qAQ x.w hB
have fc:s.q.fi.getD c 0=(s.q.P:Int):=by
 rcases rp c hc with z|z
 ·have:=fr c hc z;lia
 exact z
have spc:s.spc k=(s.q.P:Int):=by unfold XS.spc;rw[kJ (by lia)]
have hc':c∈s.clb k (s.ful k):=by unfold XS.clb;exact mK.mpr ⟨q52.mpr ⟨hc,fc,by rw[spc];exact(qEV x.w hc).2⟩,hG (by lia)⟩
have pw:(s.clb k (s.ful k)).Pairwise (· < ·):=by unfold XS.clb XS.ful;exact g3 _ (g3 _ dL)
obtain⟨h1,h2⟩:=q2D (cl:=s.cl) pw
cases z:s.chg k with
|none=>rw[h1 z]at hc';cases hc'
|some b=>
 obtain⟨m1,m2⟩:=h2 b z;have m1':=m1;unfold XS.clb at m1';obtain⟨fb,_⟩:=mK.mp m1';have fb:=q52.mp fb;have:=m2 c hc';have le:s.cl.getD b 0≤s.cl.getD c 0:=by
  unfold keyN lx at this;by_cases q:s.cl.getD c 0=s.cl.getD b 0
  ·lia
  rw[kF q]at this;have:=dC this;lia
 have cb:s.cl.getD b 0=s.lst:=by have:=q8A x.w fb.b;lia
 refine⟨b,rfl,fb.b,fb.f,cb,?_⟩;have:=qEV x.w fb.b;have:¬s.q.lv.getD b 0<(s.q.P:Int):=λy=>by have:=nop b fb y;lia
 lia)
noncomputable def nlc(s:XS):Nat:=((List.range s.q.B).filter λb=>decide (s.q.fi.getD b 0=(s.q.P:Int))&&decide (s.cl.getD b 0=s.lst)).length
noncomputable def need(k:Tm)(s:XS):Nat:=if s.rd k=true then 0 else if s.rmX<(1+k.ie)*s.q.P then 1+(if k.ev=true then s.q.B-(1+k.ie)else 1)else if s.opt k≠[]then 1 else nlc s+1
theorem qAR{α:Type}{p p':α→Bool}:∀{l:List α},(∀x∈l,p' x=true→p x=true)→(∃x∈l,p x=true∧p' x=false)→(l.filter p').length<(l.filter p).length
| [],_,h=>by obtain⟨x,hx,_⟩:=h;cases hx
|a::l,h,g=>by
 have le:(l.filter p').length≤(l.filter p).length:=by
  have:(l.filter p').length≤(l.filter p).length:=by rw[←wR,←wR];exact c9 λx hx=>h x (hU _ hx)
  exact this
 rw[m9,m9];obtain⟨x,hx,h1,h2⟩:=g;rcases kI.mp hx with e|hx
 ·subst e;rw[kJ h1,kF (by rw[h2];decide),mG];lia
 have ih:=qAR (λy hy=>h y (hU _ hy)) ⟨x,hx,h1,h2⟩;by_cases z:p' a=true
 ·rw[kJ z,kJ (h a (by simp) z),mG,mG];lia
 rw[kF z];split
 ·rw[mG];lia
 exact ih
theorem qJE(x:Ix k s)(hr:s.rmX=(1+k.ie)*s.q.P)(ev:k.ev=true)(e0:s.opt k=[]):nlc s+1≤s.q.B-(1+k.ie):=by(
obtain⟨_,fl⟩:=q44 x.w hr
rw[←fl]
obtain⟨d,hd⟩:=rR _ (v3 x hr)
obtain⟨fd,ld⟩:=q0R.mp hd
refine qAR (λy _ hy=>?_) ⟨d,mV.mpr fd.b,hG fd.f,?_⟩
·rw[mR]at hy;exact hy.1
have:¬s.cl.getD d 0<s.lst+k.sp:=λz=>by have:d∈s.opt k:=uN.mpr ⟨⟨fd,ld⟩,λ_=>z⟩;rw[e0]at this;cases this
have s1:=x.s1
rw[hX (show ¬s.cl.getD d 0=s.lst by lia),Bool.and_false])
theorem qBQ(x:Ix k s)(hr:(1+k.ie)*s.q.P≤s.rmX):need k s≤if k.ev=true then s.q.B-(1+k.ie)else 1:=by(
have b1:1≤s.q.B-(1+k.ie):=by have:=x.sh;refine Nat.pos_of_ne_zero λz=>?_;rw[z,Nat.zero_mul]at this;cases this
unfold need
split
·exact mU _
rename_i nr
have e:s.rmX=(1+k.ie)*s.q.P:=by unfold XS.rd at nr;have:=dC (xI.mpr nr);lia
rw[kF (by lia)]
split
·split<;>lia
rename_i z
have z:s.opt k=[]:=dU z
cases ev:k.ev with
|true=>rw[kJ rfl];exact qJE x e ev z
|false=>exfalso;have:=v3 x e;unfold XS.opt at z;rw[ev]at z;exact this z)
end
section
variable{k:Tm}{X Y:Sx}
theorem qGQ(x:Ix k X.s)(wt:Wt k X.s)(nr:X.s.rd k=false):∃ybg,X.s.tk k X.g=some ybg:=by(
unfold XS.tk
by_cases z:X.s.opt k=[]
·rw[kJ z];have nr':=dC nr;have e:X.s.rmX=(1+k.ie)*X.s.q.P:=by have:¬X.s.rmX<(1+k.ie)*X.s.q.P:=λy=>q9K wt y z;lia
 cases ev:k.ev with
 |true=>obtain⟨_,b,hb,_⟩:=q7O x e ev z;rw[kJ rfl,hb];exact⟨_,rfl⟩
 |false=>exfalso;have:=v3 x e;unfold XS.opt at z;rw[ev]at z;exact this z
rw[kF z]
exact⟨_,rfl⟩)
theorem qGR{p:Pa}(x:Ix k X.s)(wt:Wt k X.s)(ok:X.g.Ok)(nr:X.s.rd k=false)(h:X.room k=(Y,.ok p)):need k Y.s<need k X.s:=by(
obtain⟨rx,hp,_,ge,rmE,⟨g',htk⟩,lm,_,s',emv,eY,md⟩:=q8B x wt ok h
have eP:=rx.kp.eP
have eB:=rx.kp.eB
have fb:=q3O ok htk
have lvb:=q3N x.w.qs x.w.pd fb.b
have nr':=dC nr
have ge':(1+k.ie)*Y.s.q.P≤Y.s.rmX:=by rw[eP];exact ge
have nl:=qBQ rx.x ge'
rw[eB]at nl
have p1:=x.w.qs.ok.p1
have eX:need k X.s=if X.s.rmX<(1+k.ie)*X.s.q.P then 1+(if k.ev=true then X.s.q.B-(1+k.ie)else 1)else if X.s.opt k≠[]then 1 else nlc X.s+1:=by rw[need,nr,kF (by decide)]
rw[eX]
by_cases lk:X.s.rmX<(1+k.ie)*X.s.q.P
·rw[kJ lk];lia
rw[kF lk]
have eR:X.s.rmX=(1+k.ie)*X.s.q.P:=by lia
rcases q0B ok htk with⟨_,h1,_⟩|⟨_,ev,e0,_,hc,h1,_⟩
·have ne:X.s.opt k≠[]:=λz=>by rw[z]at h1;cases h1
 rw[kJ ne];have lt:=(uN.mp h1).1.2;have:Y.s.rd k=true:=hG (by rw[eP];lia);rw[need,kJ this];decide
rw[kF (λz=>z e0)]
obtain⟨fr,b,hb,b1,b2,b3,b4⟩:=q7O x eR ev e0
rw[hc]at hb
obtain rfl:=kM hb
have rY:Y.s.rmX=(1+k.ie)*Y.s.q.P:=by rw[eP];lia
have nrY:¬Y.s.rd k=true:=λz=>by have:=mM z;lia
rw[need,kF nrY,kF (by lia)]
have bin:p.b∈(List.range X.s.q.B).filter λb=>decide (X.s.q.fi.getD b 0=(X.s.q.P:Int))&&decide (X.s.cl.getD b 0=X.s.lst):=mK.mpr ⟨mV.mpr b1,by rw[hG b2,hG b3];rfl⟩
have n1:1≤nlc X.s:=nJ bin
split
·lia
rename_i z
have z:Y.s.opt k=[]:=dU z
have gcl:∀c,Y.s.cl.getD c 0=if p.b=c then X.s.cl.getD p.b 0+1 else X.s.cl.getD c 0:=λc=>by
 rw[eY];show(s'.cl.set p.b (s'.cl.getD p.b 0+1)).getD c 0=_;rw[md.ec,jG,x.w.lc];by_cases e:p.b=c
 ·rw[kJ ⟨e,b1⟩,kJ e]
 rw[kF (λz=>e z.1),kF e]
have gfi:∀c,Y.s.q.fi.getD c 0=if p.b=c then 0 else s'.q.fi.getD c 0:=λc=>by
 rw[eY];show(s'.q.fi.set p.b 0).getD c 0=_;rw[jG,md.w.qs.ok.lf,md.eB];by_cases e:p.b=c
 ·rw[kJ ⟨e,b1⟩,kJ e]
 rw[kF (λz=>e z.1),kF e]
have lle:X.s.lst≤Y.s.lst:=by obtain⟨c,hc,ec⟩:=qAQ rx.x.w (by rw[eB];lia);rw[eB]at hc;rw[←ec,gcl];have:=q8A x.w hc;have:=q8A x.w b1;split<;>lia
have leq:Y.s.lst=X.s.lst:=by
 refine Int.le_antisymm (Int.not_lt.mp λy=>?_) lle;obtain⟨d,hd⟩:=rR _ (v3 rx.x rY);obtain⟨fd,ld⟩:=q0R.mp hd;have nc:¬Y.s.cl.getD d 0<Y.s.lst+k.sp:=λy=>by have:d∈Y.s.opt k:=uN.mpr ⟨⟨fd,ld⟩,λ_=>y⟩;rw[z]at this;cases this
 have ne:p.b≠d:=λy=>by have:=fd.f;rw[gfi,kJ y,eP]at this;lia
 rw[gcl,kF ne]at nc;have hd':=fd.b;rw[eB]at hd';have:=x.gp ev d p.b hd' b1;lia
refine Nat.succ_lt_succ ?_
unfold nlc
rw[eB,eP,leq]
refine qAR (λc hc y=>?_) ⟨p.b,mV.mpr b1,by rw[hG b2,hG b3];rfl,?_⟩
·have hc:=mV.mp hc;rw[mR,kQ,kQ]at y ⊢;obtain⟨y1,y2⟩:=y;have ne:p.b≠c:=λw=>by rw[gfi,kJ w]at y1;lia
 rw[gcl,kF ne]at y2;refine⟨?_,y2⟩;rcases(q44 x.w eR).1 c hc with q|q
 ·have:=fr c hc q;lia
 exact q
rw[gfi,kJ rfl,hX (by lia)]
rfl)
noncomputable def dOf(p:Pa):List (Str×Int×Bool):=p.mv.map putR++[(Str.ofString "wipe",(p.b:Int),true)]
structure Rms(k:Tm)(X Y:Sx)(qs:List Pa):Prop extends RmX k X Y where
ps:Y.ps=X.ps++qs
ln:qs.length≤need k X.s
theorem q7P:∀{i:Nat} {X:Sx},Ix k X.s→Wt k X.s→X.g.Ok→need k X.s≤i→∃Y ps ms,Rms k X Y ps∧Y.s.rc=X.s.rc++ps.flatMap dOf++ms.map putR∧((X.rooms k i=some (Y,.ok ())∧Y.s.rd k=true∧ms=[])∨(X.rooms k i=some (Y,.error .dark)∧Y.s.lf=some 0))
|i,X,x,wt,ok,hi=>by
 cases rd:X.s.rd k with
 |true=>
  refine⟨X,[],[],⟨⟨x,wt,ok,Kp.refl,λ_ _ _ z=>z⟩,by simp,mU _⟩,by simp,.inl ⟨?_,rd,rfl⟩⟩;cases i with
  |zero=>unfold Sx.rooms;rw[rd,kJ rfl]
  |succ i=>unfold Sx.rooms;rw[rd,kJ rfl]
 |false=>
  cases i with
  |zero=>
   exfalso;unfold need at hi;rw[rd,kF (by decide)]at hi;split at hi
   ·lia
   split at hi<;>lia
  |succ i=>
   cases e:X.room k with
   |mk W o=>
    obtain⟨rx,hh⟩:=q8B x wt ok e;cases o with
    |error q=>
     cases q with
     |room=>obtain⟨_,h⟩:=hh;obtain⟨ybg,h'⟩:=qGQ x wt rd;rw[h]at h';cases h'
     |dark=>obtain⟨dk,eps,ms,erc⟩:=hh;refine⟨W,[],ms,⟨rx,by rw[eps];simp,mU _⟩,by rw[erc];simp,.inr ⟨?_,dk⟩⟩;unfold Sx.rooms;rw[rd,kF (by decide),e]
    |ok p=>
     have lt:=qGR x wt ok rd e;obtain⟨eps,erc,_⟩:=hh;obtain⟨Y,ps,ms,ry,hrc,hr⟩:=q7P (i:=i) rx.x rx.wt rx.ok (by lia);refine⟨Y,p::ps,ms,⟨⟨ry.x,ry.wt,ry.ok,rx.kp.trans ry.kp,λm u m6 z=>ry.hv m u m6 (rx.hv m u m6 z)⟩,?_,?_⟩,?_,?_⟩
     ·rw[ry.ps,eps,c6];rfl
     ·have:=ry.ln;rw[mG];lia
     ·rw[hrc,erc,List.flatMap_cons];simp[dOf]
     have er:X.rooms k (i+1)=W.rooms k i:=by rw[Sx.rooms,rd,kF (by decide),e]
     rw[er];exact hr
end
structure AskO(k:Tm)(i:Nat)(X:Sx)(n v:Int)(Y:Sx)(qs:List Pa)(p:Nat):Prop where
rl:Y.s.rc.length≤X.s.rc.length+17*i+1
x:Ix k Y.s
ge:(1+k.ie)*Y.s.q.P≤Y.s.rmX
ok:Y.g.Ok
ps:Y.ps=X.ps++qs
ln:qs.length≤need k X.s
eB:Y.s.q.B=X.s.q.B
eP:Y.s.q.P=X.s.q.P
nm:∀m,(∃p,(m,p)∈Y.s.q.V)↔m=n∨∃p,(m,p)∈X.s.q.V
hv:∀m u,m≠64→m≠n→Hv X.s m u→Hv Y.s m u
hn:Hv Y.s n v
rc:Y.s.rc=X.s.rc++qs.flatMap dOf++[(Str.ofString "put",(p:Int),true)]
structure AskD(k:Tm)(i:Nat)(X:Sx)(Y:Sx)(qs:List Pa):Prop where
rl:Y.s.rc.length≤X.s.rc.length+17*i+1
x:Ix k Y.s
wt:Wt k Y.s
ok:Y.g.Ok
ps:Y.ps=X.ps++qs
ln:qs.length≤need k X.s
kp:Kp X.s Y.s
hv:∀m u,m≠64→Hv X.s m u→Hv Y.s m u
lf:Y.s.lf=some 0
rc:∃ms,Y.s.rc=X.s.rc++qs.flatMap dOf++List.map putR ms
section
variable{k:Tm}{X:Sx}{n v:Int}
theorem qGS{i:Nat}(x:Ix k X.s)(wt:Wt k X.s)(ok:X.g.Ok)(hi:need k X.s≤i)(n0:0≤n)(n1:n≤64)(hl:(∃p,(n,p)∈X.s.q.V)∨(X.s.q.V.length<59∧X.s.q.V.length+1<(X.s.q.B-(1+k.ie))*X.s.q.P)):(∃Y qs p,X.ask k i n v=some (Y,.ok p)∧AskO k i X n v Y qs p)∨∃Y qs,X.ask k i n v=some (Y,.error .dark)∧AskD k i X Y qs:=by(
obtain⟨Y,ps,ms,r,hrc,⟨hr,rd,e0⟩|⟨hr,dk⟩⟩:=q7P x wt ok hi
·have rl:=(q2E x.w ok hr).2.2.2.1;have rd:=mM rd;unfold Sx.ask;rw[hr];dsimp only;by_cases dk:Y.s.lf=some 0
 ·rw[kJ dk];exact .inr ⟨Y,ps,rfl,by lia,r.x,r.wt,r.ok,r.ps,r.ln,r.kp,r.hv,dk,ms,hrc⟩
 rw[kF dk];have rd':=rd;rw[rE,rF]at rd';have hl':(∃p,(n,p)∈Y.s.q.V)∨Y.s.q.V.length<59:=by rw[r.kp.lV];exact hl.imp (λz=>(r.kp.nm n).mpr z) λz=>z.1
 obtain⟨w',rm'⟩:=r.x.w.put (n:=n) (v:=v) (by lia) n0 n1 hl' dk;refine .inl ⟨_,ps,_,rfl,?_,r.x.put (by lia) w' ?_,?_,r.ok,r.ps,r.ln,r.kp.eB,r.kp.eP,λm=>?_,λm u m6 mn z=>(r.hv m u m6 z).put r.x.w (by lia) mn,Hv.new,?_⟩
 ·show(Y.s.rc++[_]).length≤_;rw[mH,gD];lia
 ·show(jB Y.s.q.V n++[_]).length< _;rw[mH,gD];obtain⟨d1,d2⟩:=q0A (V:=Y.s.q.V) (n:=n) r.x.w.qs.ok.nd;have lV:=r.kp.lV;rcases hl with z|⟨_,z⟩
  ·obtain⟨p,hp⟩:=(r.kp.nm n).mpr z;rw[d2 p hp];exact r.x.sh
  rw[r.kp.eB,r.kp.eP];lia
 ·show(1+k.ie)*Y.s.q.P≤(Y.s.put n v).rmX;lia
 ·rw[←r.kp.nm m];constructor
  ·rintro⟨p,h⟩
   rcases uM.mp h with e|⟨h,_⟩
   ·cases e;exact .inl rfl
   exact .inr ⟨p,h⟩
  intro z;by_cases e:m=n
  ·exact⟨_,uM.mpr (.inl (by rw[e]))⟩
  rcases z with z|⟨p,h⟩
  ·exact absurd z e
  exact⟨p,uM.mpr (.inr ⟨h,e⟩)⟩
 show Y.s.rc++[_]=_;rw[hrc,e0];simp
have rl:=(q2E x.w ok hr).2.2.2.1
unfold Sx.ask
rw[hr]
exact .inr ⟨Y,ps,rfl,by lia,r.x,r.wt,r.ok,r.ps,r.ln,r.kp,r.hv,dk,ms,hrc⟩)
end
section
variable{k:Tm}{s:XS}
theorem WX.lf(w:WX k s){l:Option Int}(h:∀i,l=some i→0≤i):WX k { s with lf:=l }:={ w with l0:=h }
theorem Ix.forg(x:Ix k s)(n:Int):Ix k (s.forg n):=by(
refine⟨x.w.forg n,?_,x.s1,x.gp,x.e2⟩
have:=(q0A (V:=s.q.V) (n:=n) x.w.qs.ok.nd).1
have:=x.sh
show(jB s.q.V n).length< _
show _ <(s.q.B-(1+k.ie))*s.q.P
lia)
theorem qAS(x:Ix k s):∀(g:List Int),Ix k (s.forgs g)∧(s.forgs g).rmX=s.rmX∧(s.forgs g).rc=s.rc∧(s.forgs g).cl=s.cl∧(s.forgs g).lf=s.lf∧(s.forgs g).q.B=s.q.B∧(s.forgs g).q.P=s.q.P∧(∀m,(∃p,(m,p)∈(s.forgs g).q.V)↔m∉g∧∃p,(m,p)∈s.q.V)∧∀m u,m∉g→Hv s m u→Hv (s.forgs g) m u:=by(
intro g
induction g generalizing s with
|nil=>exact⟨x,rfl,rfl,rfl,rfl,rfl,rfl,λm=>by simp[XS.forgs],λm u _ h=>h⟩
|cons n g ih=>
 obtain⟨a1,a2,a3,a4,a5,a6,a7,a8,a9⟩:=ih (x.forg n);refine⟨a1,a2,a3,a4,a5,a6,a7,λm=>?_,λm u hm h=>?_⟩
 ·show(∃p,(m,p)∈((s.forg n).forgs g).q.V)↔_;rw[a8];constructor
  ·rintro⟨h1,p,hp⟩
   obtain⟨h2,h3⟩:=jC.mp hp;exact⟨λz=>(kI.mp z).elim h3 h1,p,h2⟩
  rintro⟨h1,p,hp⟩
  exact⟨λz=>h1 (hU _ z),p,jC.mpr ⟨hp,λz=>h1 (by rw[show m=n from z];exact kX)⟩⟩
 exact a9 m u (λz=>hm (hU _ z)) (h.forg λz=>hm (by rw[z];exact kX)))
theorem Wt.of(h:(1+k.ie)*s.q.P≤s.rmX):Wt k s:=λz=>by lia
theorem qJF{n:Int}:n∈s.hl↔n≠64∧∃p,(n,p)∈s.q.V:=by(
unfold XS.hl
rw[cT,mK,kZ]
constructor
·rintro⟨⟨y,h,e⟩,h2⟩
 refine⟨mM h2,y.2,?_⟩;rw[←e];exact h
rintro⟨h1,p,hp⟩
exact⟨⟨_,hp,rfl⟩,hG h1⟩)
end
noncomputable def newX(B P:Nat):XS:=⟨⟨P,B,1,[],List.replicate B 0,List.replicate B 0,List.replicate B 0⟩,List.replicate B 0,λ_=>none,none,[]⟩
theorem qBR{k:Tm}{B P:Nat}(b2:B≤16)(p1:1≤P)(p2:P≤16)(hk:1+k.ie<B)(s1:1≤k.sp):Ix k (newX B P)∧(1+k.ie)*P≤(newX B P).rmX:=by(
have r0:∀n i:Nat,(List.replicate n (0:Int)).getD i 0=0:=λn i=>rep8
have rmE:(newX B P).rmX=B*P:=by
 unfold XS.rmX newX rm clr1;dsimp only;have:∀n,((List.range n).map λb=>P-((List.replicate B (0:Int)).getD b 0).toNat).sum=n*P:=λn=>by
  induction n with
  |zero=>simp
  |succ n ih=>rw[aG,m8,List.sum_append,ih,c7,List.map_singleton,r0];simp
 exact this B
have le:(1+k.ie)*P≤B*P:=g0 _ (by lia)
have ok:(newX B P).q.Ok:=by refine⟨p1,p2,b2,gN,gN,gN,by simp[newX],λq hq=>absurd (show q∈([]:Mp)from hq) (by simp),λq hq=>absurd (show q∈([]:Mp)from hq) (by simp),λb hb=>⟨0,r0 _ _,mU _⟩⟩
refine⟨⟨⟨⟨ok,λb hb=>?_⟩,λb c _ _ h1 _=>?_,gN,λ_ _ _ _ _=>rfl,λy hy=>absurd (show y∈([]:Mp)from hy) (by simp),by simp[newX],λb=>?_,λb=>?_,gP _,?_,?_,λi e=>by cases e⟩,?_,s1,λ_ b c _ _=>?_,λ_ d c _ _ h _=>absurd (r0 _ _) h⟩,?_⟩
·rw[show(newX B P).q.lv=List.replicate B 0 from rfl,r0];rfl
·unfold jW at h1;rw[show(newX B P).q.fi=List.replicate B 0 from rfl,r0]at h1;simp at h1
·rw[show(newX B P).cl=List.replicate B 0 from rfl,r0];exact⟨gP _,gP _⟩
·rw[show(newX B P).q.bo=List.replicate B 0 from rfl,r0];exact⟨gP _,by show(0:Int)<1;decide⟩
·rw[rmE];show k.ie*P≤B*P;exact g0 _ (by lia)
·show 0<60;decide
·show 0<(B-(1+k.ie))*P;exact Nat.mul_pos (by lia) p1
·rw[show(newX B P).cl=List.replicate B 0 from rfl,r0,r0];lia
rw[rmE]
exact le)
structure Kd(k:Tm)(sh:Int)(sr:Nat)(X:Sx)(KD:Mp):Prop where
x:Ix k X.s
wt:Wt k X.s
ok:X.g.Ok
nd:(KD.map (·.1)).Nodup
kb:∀y∈KD,0≤y.1∧y.1<sh
eq:∀n,n≠64→((∃p,(n,p)∈X.s.q.V)↔n∈KD.map (·.1))
hv:∀y∈KD,Hv X.s y.1 y.2
ls:KD.length≤sr
hs:sr+2≤(X.s.q.B-(1+k.ie))*X.s.q.P
s57:sr≤57
h64:sh≤64
section
variable{k:Tm}{sh:Int}{sr:Nat}{X Y:Sx}{KD:Mp}{n v:Int}{i:Nat}{qs:List Pa}{p:Nat}
theorem Kd.pm(h:Kd k sh sr X KD):((X.s.q.V.map (·.1)).filter λn=>decide (n≠64)).Perm (KD.map (·.1)):=by(
refine q2C (g3 _ h.x.w.qs.ok.nd) h.nd λy=>?_
rw[mK,kQ]
constructor
·rintro⟨a,b⟩
 refine(h.eq y b).mp ?_;obtain⟨z,hz,rfl⟩:=kZ.mp a;exact⟨z.2,hz⟩
intro hy
have:y≠64:=by obtain⟨z,hz,rfl⟩:=kZ.mp hy;have:=h.kb z hz;have:=h.h64;lia
obtain⟨p,hp⟩:=(h.eq y this).mpr hy
exact⟨kZ.mpr ⟨_,hp,rfl⟩,this⟩)
theorem Kd.lV(h:Kd k sh sr X KD):X.s.q.V.length≤KD.length+1:=by(
have h1:=qJA h.x.w.qs.ok.nd
have h2:=h.pm.length_eq
rw[kB]at h2
lia)
theorem Kd.hl(h:Kd k sh sr X KD){n:Int}:n∈X.s.hl↔n∈KD.map (·.1):=by(
rw[qJF]
constructor
·rintro⟨a,b⟩
 exact(h.eq n a).mp b
intro hy
have:n≠64:=by obtain⟨z,hz,rfl⟩:=kZ.mp hy;have:=h.kb z hz;have:=h.h64;lia
exact⟨this,(h.eq n this).mpr hy⟩)
theorem qBS{s:XS}(x:Ix k s):need k s≤17:=by(
have b2:=x.w.qs.ok.b2
by_cases z:(1+k.ie)*s.q.P≤s.rmX
·have:=qBQ x z;split at this<;>lia
unfold need
split
·lia
rw[kJ (by lia)]
split<;>lia)
theorem Kd.can(h:Kd k sh sr X KD)(n0:0≤n)(n1:n<sh)(hc:n∈KD.map (·.1)∨KD.length<sr):(∃p,(n,p)∈X.s.q.V)∨(X.s.q.V.length<59∧X.s.q.V.length+1<(X.s.q.B-(1+k.ie))*X.s.q.P):=by(
have:=h.lV
have:=h.hs
have:=h.s57
have:=h.h64
rcases hc with z|z
·exact .inl ((h.eq n (by lia)).mpr z)
exact .inr ⟨by lia,by lia⟩)
theorem Kd.can64(h:Kd k sh sr X KD)(ne:KD≠[]):(∃p,((64:Int),p)∈X.s.q.V)∨(X.s.q.V.length<59∧X.s.q.V.length+1<(X.s.q.B-(1+k.ie))*X.s.q.P):=by(
have hs:=h.hs
have ls:=h.ls
have s57:=h.s57
by_cases z:∃p,((64:Int),p)∈X.s.q.V
·exact .inl z
have e:(X.s.q.V.map (·.1)).filter (λn=>decide (n≠64))=X.s.q.V.map (·.1):=dQ.mpr λy hy=>hG λw=>z (by obtain⟨u,hu,rfl⟩:=kZ.mp hy;exact⟨u.2,by rw[←w];exact hu⟩)
have:=h.pm.length_eq
rw[e,kB,kB]at this
exact .inr ⟨by lia,by lia⟩)
theorem Kd.wrote(h:Kd k sh sr X KD)(n0:0≤n)(n1:n<sh)(hc:n∈KD.map (·.1)∨KD.length<sr)(a:AskO k i X n v Y qs p):Kd k sh sr Y (putW KD n v):=by(
have h64:=h.h64
have mp:∀q,q∈putW KD n v↔q=(n,v)∨(q∈KD∧q.1≠n):=λq=>by rw[qE9 h.nd,jC]
have mk:∀m,m∈(putW KD n v).map (·.1)↔m=n∨m∈KD.map (·.1):=λm=>by
 rw[kZ,kZ];constructor
 ·rintro⟨q,hq,rfl⟩
  rcases(mp q).mp hq with e|⟨e,_⟩
  ·rw[e];exact .inl rfl
  exact .inr ⟨q,e,rfl⟩
 intro z;by_cases e:m=n
 ·exact⟨(n,v),(mp _).mpr (.inl rfl),e.symm⟩
 rcases z with z|⟨q,hq,rfl⟩
 ·exact absurd z e
 exact⟨q,(mp _).mpr (.inr ⟨hq,e⟩),rfl⟩
refine⟨a.x,Wt.of a.ge,a.ok,qCJ h.nd,λy hy=>?_,λm m6=>?_,λy hy=>?_,?_,by rw[a.eB,a.eP];exact h.hs,h.s57,h64⟩
·rcases(mp y).mp hy with e|⟨e,_⟩
 ·rw[e];exact⟨n0,n1⟩
 exact h.kb y e
·rw[a.nm,mk,h.eq m m6]
·rcases(mp y).mp hy with e|⟨e,en⟩
 ·rw[e];exact a.hn
 have:=h.kb y e;exact a.hv _ _ (by lia) en (h.hv y e)
unfold putW
split
·rw[kB];exact h.ls
rename_i z
rw[mH,gD]
rcases hc with w|w
·exfalso;obtain⟨q,hq,e⟩:=kZ.mp w;exact z (cH.mpr ⟨q,hq,hG e⟩)
lia)
theorem Kd.gave(h:Kd k sh sr X KD){b:Int}(a:AskO k i X 64 b Y qs p){g:List Int}(hg:∀m∈g,m≠64):Kd k sh sr ⟨Y.s.forgs g,Y.g,Y.ps⟩ (KD.filter λy=>!decide (y.1∈g)):=by(
have h64:=h.h64
obtain⟨a1,a2,a3,a4,a5,a6,a7,a8,a9⟩:=qAS a.x g
have mk:∀y,y∈KD.filter (λy=>!decide (y.1∈g))↔y∈KD∧y.1∉g:=λy=>by rw[mK,d7,d8]
refine⟨a1,Wt.of ?_,a.ok,h.nd.sublist (cJ.map _),λy hy=>h.kb y ((mk y).mp hy).1,λm m6=>?_,λy hy=>?_,mF (mE _ _) h.ls,?_,h.s57,h64⟩
·show(1+k.ie)*(Y.s.forgs g).q.P≤(Y.s.forgs g).rmX;rw[a2,a7];exact a.ge
·rw[a8,a.nm,kZ];constructor
 ·rintro⟨e1,e|e⟩
  ·exact absurd e m6
  obtain⟨y,hy,e⟩:=kZ.mp ((h.eq m m6).mp e);exact⟨y,(mk y).mpr ⟨hy,by rw[e];exact e1⟩,e⟩
 rintro⟨y,hy,rfl⟩
 obtain⟨h1,h2⟩:=(mk y).mp hy;exact⟨h2,.inr ((h.eq _ m6).mpr (kZ.mpr ⟨y,h1,rfl⟩))⟩
·obtain⟨h1,h2⟩:=(mk y).mp hy;have:=h.kb y h1;exact a9 _ _ h2 (a.hv _ _ (by lia) (by lia) (h.hv y h1))
show sr+2≤((Y.s.forgs g).q.B-(1+k.ie))*(Y.s.forgs g).q.P
rw[a6,a7,a.eB,a.eP]
exact h.hs)
end
end W1
namespace L2
open PySem PySem.Spec PyProof.Rows
section
variable{X:Cx}{k:Nat}{f W:Addr}{fd:FuncData}{ps:List Str}{sp:Sp}{dvs:List V}{ds:List Value}{x m:Str}{p pos apos:Pos}{e:Expr}{es:List Expr}{t:TA}
theorem qJG{CX:CXT}{E:XK}(b:ClM X.K W m f)(F:FnOk X.prog X.w X.K X.mg X.base CX k f fd ps sp)(hr:Room k X.A)(hg:Gl X x)(hm:X.mg x=some (.ref W))(hb:jL X.K fd ps ds)(hd:Vals dvs ds)(hx:q0M CX X E)(ha:PA X (e::es) t)(hdb:(x==("__debug__":Str))=false:=by decide)
 (he:starEach (e::es) X.env=(false,eval e X.env)::starEach es X.env:=by rfl) (hpl:(backTo pos (starEach es X.env)).any (·.1)=false:=by rfl) {pl:Sem Bool}
 (ht:eval (.Call (.Attribute (.Name x p) m apos) (e::es) [] pos) X.env=(do
  let ov←eval (.Name x p) X.env
  standAt apos.atName
  let(f,first)←holding [ov] (getMethod ov m pl)
  callWith pos f first (backTo pos (starEach (e::es) X.env)) (backToKw pos (keywordEach [] X.env))):=by rfl):
 PE X (.Call (.Attribute (.Name x p) m apos) (e::es) [] pos) (qHD sp dvs E t):=by(
intro pins s σ H Q I h
refine rL (pl:=pl) (q26 I hg hm ?_ hdb) ht
refine PySem.W.method_cls I.kIn b.ga (PySem.W.cls_value I.kIn b.rd b.fd rfl ?_)
refine wJ (first:=[]) (h₀:=X.base) I.ok.mod.kin b.kp (thn (ha pos pins _ σ H _ (I.tok _) h) λus s2 ⟨vs,H2,I2,r,q2⟩=>⟨I2.kIn,?_⟩) he hpl
exact q7V F hr hb hd hx I2 r q2)
end
end L2
namespace W1
open PySem L2
theorem qGT{k:Tm}{X Y:Sx}{r:Except Rf Pa}(R:XS→Prop)(hp:∀s n v,R s→R (s.put n v))(hw:∀s b,R s→R (s.wip b))(w:WX k X.s)(ok:X.g.Ok)(h:X.room k=(Y,r))(c:R X.s):R Y.s:=by(
unfold Sx.room at h
cases htk:X.s.tk k X.g with
|none=>rw[htk]at h;cases h;exact c
|some ybg=>
 obtain⟨y,b,g'⟩:=ybg;rw[htk]at h;dsimp only at h;have f:=q3O ok htk;obtain⟨s',n,ms,md,lm,cs,hh⟩:=q89 (λs' _=>R s') w f c (λs' ms n p _ _ _ _ _ _ _ _ hc=>hp _ _ _ hc);rcases hh with⟨e,_⟩|⟨e,_⟩
 ·rw[e]at h;cases h;exact cs
 rw[e]at h;dsimp only at h;split at h
 ·cases h;exact cs
 cases h;exact hw _ _ cs)
theorem q9L{k:Tm}(R:XS→Prop)(hp:∀s n v,R s→R (s.put n v))(hw:∀s b,R s→R (s.wip b)):∀{i:Nat} {X Y:Sx} {r:Except Rf Unit},WX k X.s→X.g.Ok→X.rooms k i=some (Y,r)→R X.s→R Y.s
|0,X,Y,r,w,ok,h,c=>by
 unfold Sx.rooms at h;split at h
 ·cases h;exact c
 cases h
|i+1,X,Y,r,w,ok,h,c=>by
 unfold Sx.rooms at h;split at h
 ·cases h;exact c
 cases hr:X.room k with
 |mk Z q=>
  rw[hr]at h;obtain⟨w2,ok2,_⟩:=q53 w ok hr;have c2:=qGT R hp hw w ok hr c;cases q with
  |error e=>dsimp only at h;cases h;exact c2
  |ok p=>exact q9L R hp hw w2 ok2 h c2
theorem qJH{k:Tm}{X Y:Sx}{i:Nat}{n v:Int}{r:Except Rf Nat}(R:XS→Prop)(hp:∀s n v,R s→R (s.put n v))(hw:∀s b,R s→R (s.wip b))(w:WX k X.s)(ok:X.g.Ok)(h:X.ask k i n v=some (Y,r))(c:R X.s):R Y.s:=by(
unfold Sx.ask at h
cases hr:X.rooms k i with
|none=>rw[hr]at h;cases h
|some zq=>
 obtain⟨Z,q⟩:=zq;rw[hr]at h;have c2:=q9L R hp hw w ok hr c;cases q with
 |error e=>dsimp only at h;cases h;exact c2
 |ok u=>
  dsimp only at h;split at h
  ·cases h;exact c2
  cases h;exact hp _ _ _ c2)
theorem qBT{k:Tm}{X Y:Sx}{i:Nat}{n v:Int}{r:Except Rf Nat}(w:WX k X.s)(ok:X.g.Ok)(h:X.ask k i n v=some (Y,r))(c:X.s.lf=none):Y.s.lf=none:=qJH (λs=>s.lf=none) (λs n v e=>by show s.lf.map _=none;rw[e];rfl) (λs b e=>by show s.lf.map _=none;rw[e];rfl) w ok h c
noncomputable def lev(k:Tm):Tm:=⟨k.ie,k.sp,true⟩
section
variable{k:Tm}{s:XS}{X Y:Sx}
theorem qGU(ev:k.ev=false)(h:∀b,b<s.q.B→s.cl.getD b 0<s.lst+k.sp):s.opt (lev k)=s.opt k:=by(
unfold XS.opt
rw[kJ (show(lev k).ev=true from rfl),kF (by rw[ev];decide)]
refine dQ.mpr λb hb=>hG ?_
have hb:b∈s.ded k:=hb
exact h b (q0R.mp hb).1.b)
theorem qF0(x:Ix k X.s)(wt:Wt k X.s)(ev:k.ev=false)(nr:X.s.rd k=false)(rc:(X.s.rc.length:Int)<k.sp):X.room (lev k)=X.room k:=by(
have lt:∀b,b<X.s.q.B→X.s.cl.getD b 0<X.s.lst+k.sp:=λb hb=>by have h1:=(x.w.c0 b).2;obtain⟨c,hc,e⟩:=qAQ x.w (by lia:0<X.s.q.B);have h2:=(x.w.c0 c).1;lia
have eo:=qGU ev lt
have ne:X.s.opt k≠[]:=by
 by_cases z:X.s.rmX<(1+k.ie)*X.s.q.P
 ·exact q9K wt z
 have nr:¬(1+k.ie)*X.s.q.P<X.s.rmX:=dC nr;have:=v3 x (by lia);unfold XS.opt;rw[kF (by rw[ev];decide)];exact this
have et:X.s.tk (lev k) X.g=X.s.tk k X.g:=by unfold XS.tk XS.ots;rw[eo,kF ne,kF ne]
unfold Sx.room
rw[et]
unfold XS.ots
rw[eo])
theorem q7Q(ev:k.ev=false):∀{i:Nat} {X:Sx},Ix k X.s→Wt k X.s→X.g.Ok→((X.s.rc.length+17*i:Nat):Int)<k.sp→X.rooms (lev k) i=X.rooms k i
|0,X,x,wt,ok,rc=>rfl
|i+1,X,x,wt,ok,rc=>by
 unfold Sx.rooms;rw[show X.s.rd (lev k)=X.s.rd k from rfl];by_cases z:X.s.rd k=true
 ·rw[kJ z,kJ z]
 rw[kF z,kF z,qF0 x wt ev (by simpa using z) (by lia)];cases e:X.room k with
 |mk W o=>
  obtain⟨rx,_⟩:=q8B x wt ok e;have rl:=(q53 x.w ok e).2.2.2.1;cases o with
  |error q=>rfl
  |ok p=>exact q7Q ev rx.x rx.wt rx.ok (by lia)
theorem qGV(ev:k.ev=false){i:Nat}{n v:Int}(x:Ix k X.s)(wt:Wt k X.s)(ok:X.g.Ok)(rc:((X.s.rc.length+17*i:Nat):Int)<k.sp):X.ask (lev k) i n v=X.ask k i n v:=by unfold Sx.ask;rw[q7Q ev x wt ok rc]
theorem qF1{p:Pa}(ok:X.g.Ok)(w:WX k X.s)(ev:k.ev=false)(h:X.room k=(Y,.ok p)):p.why=Str.ofString "rule":=by(
have rr:=q61 w ok
rw[h]at rr
cases rr with
|ok tk mv md ml lf w' rm=>
 rcases q0B ok tk with⟨e,_⟩|⟨_,e,_⟩
 ·exact e
 rw[ev]at e;cases e)
end
noncomputable def dB(KD:Mp):List (Key×V):=KD.map λy=>((Sum.inl y.1:Key),V.bl true)
theorem qF2{KD:Mp}{n:Int}:q2O (dB KD) (Sum.inl n:Key)=dB (jB KD n):=by(
unfold q2O dB jB
rw[aE]
congr 1
apply wZ
intro q _
show decide ((Sum.inl q.1:Key)≠Sum.inl n)=decide (q.1≠n)
by_cases e:q.1=n<;>simp[e])
theorem qGW{KD:Mp}{n p:Int}:putK (dB KD) (Sum.inl n:Key) (.bl true)=dB (putW KD n p):=by(
unfold putK dB putW
have e:((KD.map λy=>((Sum.inl y.1:Key),V.bl true)).any λkv=>decide (kv.1=Sum.inl n))=KD.any λq=>decide (q.1=n):=by
 rw[aZ];congr 1;funext q;show decide ((Sum.inl q.1:Key)=Sum.inl n)=decide (q.1=n);by_cases e:q.1=n
 ·rw[e];simp
 rw[hX e,hX (λz=>e (cB z))]
rw[e]
by_cases h:(KD.any λq=>decide (q.1=n))=true
·rw[kJ h,kJ h,wM,wM];apply rB;intro q _;show(if(Sum.inl q.1:Key)=Sum.inl n then((Sum.inl q.1:Key),V.bl true)else((Sum.inl q.1:Key),V.bl true))=((Sum.inl (if q.1=n then(q.1,p)else q).1:Key),V.bl true);rw[ite_self];split<;>rfl
rw[kF h,kF h,m8]
rfl)
theorem q62:∀{KD:Mp} {n:Int},(valV (dB KD) (Sum.inl n:Key)).isSome=decide (n∈KD.map (·.1))
| [],n=>rfl
|p::KD,n=>by
 show(valV (((.inl p.1:Key),V.bl true)::dB KD) (.inl n)).isSome=_;by_cases e:p.1=n
 ·subst e;rw[q06 rfl,hG (by simp)];rfl
 rw[vS (λz=>e (cB z)),q62];refine decide_eq_decide.mpr ?_;rw[mL,kI];exact⟨.inr,λz=>z.resolve_left λy=>e y.symm⟩
theorem qJI{KD:Mp}:(dB KD).length=KD.length:=by unfold dB;rw[kB]
end W1
namespace L2
open PySem PySem.Spec PyProof.Rows
section
variable{prog:Program}{w:World}{A:Around}{E:Value→Shared→Prop}
theorem qBU{s:Shared}{nm:String}{f:Builtin}{us:List Value}{ks:List (Str×Value)}{Q:Value→Shared→Prop}(h1:builtinKind nm=none)(h2:plainId nm=true)(h3:entryFor table nm=some f)(h4:argsOk nm ⟨us,ks⟩)
 (go:wpAny (model prog w) A.in1 (f ⟨us,ks⟩) (λfin s'=>match fin with| .done r=>(match(Except.ok r:Result)with| .ok (.ret v)=>Q v s'| .ok _=>False| .error e=>E e s')| .again c=>c.quiet=true∧codeAny (model prog w) A c (λr s'=>match r with| .ok (.ret v)=>Q v s'| .ok _=>False| .error e=>E e s') s') E s):
 wpAny (model prog w) A (call (.builtin nm) us ks) Q E s:=cQ (pK h2 h3 (by simp only[checkBuiltinCall,h1];unfold argsOk at h4;cases e:Manifest.signature? nm with
 |none=>exact kY go
 |some sg=>rw[e]at h4;replace h4:Bind.checkArgs nm sg ⟨us,ks⟩=pure ():=h4;simp only[h4];exact kY go))
theorem qGX(a d:Value):argsOk "min" ⟨[a],[(Str.ofString "default",d)]⟩:=by unfold argsOk;kernel_rfl
theorem qF3{I B:Addr}{fp wr:List Addr}{n:Nat}{P:Nat→Value→Prop}{St:Nat→Heap→Prop}{R:Result→Shared→Prop}{kw:List (Str×Value)}(val:Nat→Int)(hval:∀i v,P i v→∃t,v=.int (val i) t)
 (W:Walks prog w A.in1 I fp wr n P St) (nB:B∉fp):∀(r j i0:Nat) (s:Shared) (v0:Value) (c:Nat),j+r=n→St j s.heap→P i0 v0→i0<j→(∀i,i<j→val i0≤val i)→s.heap.get? B=some { cls:=.type "list",dict:=none,data:=.seq #[v0,v0] c,slots:=#[] }→(∀i v h' tk,P i v→i<n→(∀i',i'<n→val i≤val i')→(∀b o,b∉wr→b≠B→s.heap.get? b=some o→h'.get? b=some o)→R (.ok (.ret v)) { s with heap:=h',toks:=tk })→codeAny (model prog w) A (.builtin "min.loop" ⟨[.ref I,.none,.ref B],kw⟩) R s:=by(
have wB:B∉wr:=λz=>nB (W.sub _ z)
have nm:(toString "min"++toString ".loop":String)="min.loop":=by decide
intro r
induction r with
|zero=>intro j i0 s v0 c ej st p0 l0 le gB fin;obtain rfl:j=n:=ej;refine wS dM (id ?_);rw[d6 m7 _];show wpAny _ A.in1 (seqItems? (.ref B) >>= _) _ (λ_ _=>_) _;refine hV (cG gB rfl ?_);show wpAny _ A.in1 (tryCatch (pyNext (.ref I)) _ >>= _) _ (λ_ _=>_) _;refine hV (dN (W.done s _ _ st λh1 t1 kp=>?_));show wpAny _ A.in1 (updateSeq B (λ_=>#[]) >>= _) _ (λ_ _=>_) _;refine hV ?_;exact wT (kp B _ wB gB) rfl (hV (wG (kY (fin i0 v0 _ t1 p0 l0 le λb o b1 b2 e=>(kW _ _ b2.symm).trans (kp b o b1 e)))))
|succ r ih=>
 intro j i0 s v0 c ej st p0 l0 le gB fin;refine wS dM (id ?_);rw[d6 m7 _];show wpAny _ A.in1 (seqItems? (.ref B) >>= _) _ (λ_ _=>_) _;refine hV (cG gB rfl ?_);show wpAny _ A.in1 (tryCatch (pyNext (.ref I)) _ >>= _) _ (λ_ _=>_) _;refine hV (dN (W.item j s _ _ (by omega) st λv1 h1 t1 p1 st1 kp=>?_));have gB1:=kp B _ wB gB;show wpAny _ A.in1 (tryCatch (holding [v1,v1] (richCompare .Lt v1 v0 >>= _)) _ >>= _) _ (λ_ _=>_) _;refine hV (dN (gL (hV (CmpOf.ints_lt val hval j i0 v1 v0 _ _ _ p1 p0 (hV (gL (gR (hV (wG (kY ?_))))))))));dsimp only;by_cases z:val j<val i0
 ·rw[hG z];rw[kJ rfl];refine hV (wT gB1 rfl (hV (wG ?_)));rw[nm];refine kY ⟨rX m7 _,ih (j+1) j _ v1 _ (by omega) (W.frame _ _ _ st1 λb hb o e=>(kW _ _ λy:B=b=>nB (by rw[y];exact hb)).trans e) p1 (by omega) (λi hi=>?_) (dW _ gB1 rfl) λi v h2 t2 a1 a2 a3 a4=>fin i v h2 t2 a1 a2 a3 λb o b1 b2 e=>a4 b o b1 b2 ((kW _ _ b2.symm).trans (kp b o b1 e))⟩;by_cases y:i=j
  ·rw[y];omega
  have:=le i (by omega);omega
 rw[hX z];rw[kF (by decide)];refine hV (wG ?_);rw[nm];refine kY ⟨rX m7 _,ih (j+1) i0 _ v0 c (by omega) st1 p0 (by omega) (λi hi=>?_) gB1 λi v h2 t2 a1 a2 a3 a4=>fin i v h2 t2 a1 a2 a3 λb o b1 b2 e=>a4 b o b1 b2 (kp b o b1 e)⟩;by_cases y:i=j
 ·rw[y];omega
 exact le i (by omega))
theorem qF4{s:Shared}{l:Addr}{xs:Array (Int×Tok)}{d:Value}{Q:Value→Shared→Prop}(hh:A.handled=none)(hl:s.heap.IsList l (intItems xs))(h0:xs.size=0→∀h' tk,(∀b o,s.heap.get? b=some o→h'.get? b=some o)→Q d { s with heap:=h',toks:=tk })
 (h1':∀i v h' tk,(intItems xs)[i]?=some v→i<xs.size→(∀i',i'<xs.size→numAt xs i≤numAt xs i')→(∀b o,s.heap.get? b=some o→h'.get? b=some o)→Q v { s with heap:=h',toks:=tk }):
 wpAny (model prog w) A (call (.builtin "min") [.ref l] [(Str.ofString "default",d)]) Q E s:=by(
have nm:(toString "min"++toString ".loop":String)="min.loop":=by decide
have zs:(intItems xs).size=xs.size:=by simp[intItems]
refine qBU xV xO xP (qGX _ _) ?_
refine hV (m:=Builtin.Builtins.bindParams "min" ["key","default"] 0 ⟨[],[(Str.ofString "default",d)]⟩) (wpAny_of_eq (a:=[none,some d]) rfl ?_)
refine hV (kY (hV (iter_intList hl λs2 e st hfp ne=>?_)))
subst e
refine hV (wV ?_ (mU _))
rw[nm]
refine kY ⟨rX m7 _,?_⟩
have W:=lZ (prog:=prog) (w:=w) (A:=A.in1) hh s.heap.objs.size l ne (intItems xs)
have gB:=mJ (o:={ cls:=.type "list",data:=.seq #[] }) (s.heap.push { cls:=.type "list_iterator",data:=.fields #[.ref l,.int 0 0] }) rfl
have nB:(s.heap.push { cls:=.type "list_iterator",data:=.fields #[.ref l,.int 0 0] }).objs.size∉[s.heap.objs.size,l]:=λz=>dE _ (hfp _ z)
have old:∀{b:Addr} {o:Obj},s.heap.get? b=some o→b≠s.heap.objs.size∧b≠(s.heap.push { cls:=.type "list_iterator",data:=.fields #[.ref l,.int 0 0] }).objs.size:=fun {b o} e=>⟨mP (kP e),mP (kP (kE _ e))⟩
refine wS dM (id ?_)
rw[d6 m7 _]
show wpAny _ A.in1 (seqItems? (.ref (s.heap.push { cls:=.type "list_iterator",data:=.fields #[.ref l,.int 0 0] }).objs.size) >>= _) _ (λ_ _=>_) _
refine hV (cG gB rfl ?_)
show wpAny _ A.in1 (tryCatch (pyNext (.ref s.heap.objs.size)) _ >>= _) _ (λ_ _=>_) _
refine hV (dN ?_)
have st0:=W.frame 0 _ (Heap.push (Heap.push s.heap { cls:=.type "list_iterator",data:=.fields #[.ref l,.int 0 0] }) ({ cls:=.type "list",data:=.seq #[] }:Obj)) st λb _ o e=>kE _ e
have wB:(s.heap.push { cls:=.type "list_iterator",data:=.fields #[.ref l,.int 0 0] }).objs.size∉[s.heap.objs.size]:=λz=>nB (W.sub _ z)
by_cases z:xs.size=0
·refine W.done _ _ _ (by rw[zs,z];exact st0) λh1 t1 kp=>?_;exact hV (wpAny_rule (kY (h0 z h1 t1 λb o e=>kp b o (by simpa using(old e).1) (kE _ (kE _ e)))))
refine W.item 0 _ _ _ (by rw[zs];omega) st0 λv1 h1 t1 p1 st1 kp=>?_
have gB1:=kp (s.heap.push { cls:=.type "list_iterator",data:=.fields #[.ref l,.int 0 0] }).objs.size _ wB gB
show wpAny _ A.in1 (updateSeq (s.heap.push { cls:=.type "list_iterator",data:=.fields #[.ref l,.int 0 0] }).objs.size (λ_=>#[v1,v1]) >>= _) _ (λ_ _=>_) _
refine hV (wT gB1 rfl ?_)
rw[nm]
refine kY ⟨rX m7 _,qF3 (numAt xs) (λ_ _=>intItems_at) W nB (xs.size-1) 1 0 _ v1 _ (by rw[zs];omega) (W.frame _ _ _ st1 λb hb o e=>(kW _ _ λy:(s.heap.push { cls:=.type "list_iterator",data:=.fields #[.ref l,.int 0 0] }).objs.size=b=>nB (by rw[y];exact hb)).trans e) p1 (by omega) (λi hi=>?_) (dW _ gB1 rfl) λi v h2 t2 a1 a2 a3 a4=>?_⟩
·rw[show i=0 by omega];exact gP _
rw[zs]at a2 a3
exact h1' i v h2 t2 a1 a2 a3 λb o e=>a4 b o (by simpa using(old e).1) (old e).2 ((kW _ _ (old e).2.symm).trans (kp b o (by simpa using(old e).1) (kE _ (kE _ e)))))
end
noncomputable def qKO(K:PySem.W.Frag)(d:Int)(ta:TA):TE:=λσ H Q=>ta σ H λvs H1=>∃(p:Addr) (ns:List Int),vs=[.ref p]∧SqL K H1 p (ns.map V.int)∧(ns=[]→Q (.int d) H1)∧∀M,M∈ns→(∀a∈ns,M≤a)→Q (.int M) H1
theorem qGY{X:Cx}{e c:Expr}{ta:TA}{p kp pos:Pos}{d:Int}(hc:X.calm=true)(hg:Gl X "min")(hm:X.mg "min"=none)(hd:PE X c (tC (.int d)))(ha:PA X [e] ta)(he:starEach [e] X.env=[(false,eval e X.env)]:=by rfl)(hse:starEach ([]:List Expr) X.env=[]:=by rfl):
 PE X (.Call (.Name "min" p) [e] [⟨some "default",c,kp⟩] pos) (qKO X.K d ta):=by(
intro pins s σ H Q I h
refine g9 (q0K I hg hm (u:=.builtin "min") (by kernel_rfl) ?_ (by decide) (by decide))
refine xY (thn (ha pos pins s σ H _ I h) λus s1 ⟨vs,H1,I1,r1,q1⟩=>?_) (by rw[he,hse];rfl) (by rw[he];rfl)
have pk:PK X [⟨some "default",c,kp⟩] (q8X (tC (.int d)) tNil):=q7W hd qA5
refine thn (pk pos pins s1 σ H1 (λxs H2=>xs=[.int d]∧H2=H1) I1 ⟨rfl,rfl⟩) λws s2 hZ=>?_
obtain⟨xs,H2,I2,r2,ex,eH⟩:=hZ
subst ex eH
obtain⟨w,rfl,td,rfl⟩:=q05 r2
obtain⟨l,ns,ev,hq,h0,h1⟩:=q1
subst ev
obtain⟨u,rfl,ru⟩:=q05 r1
obtain rfl:u=Value.ref l:=ru
obtain⟨its,rv,pl,hz⟩:=I2.list hq
have hi:=q3J rv
obtain⟨xs,e⟩:=hi.allInts.items
have hns:ns=xs.toList.map (·.1):=by rw[←hi.numsOf,←nums_intItems,←e]
have hl:=pl.isList
rw[e]at hl
show wpAny (model X.prog X.w) X.A (call (.builtin "min") [.ref l] [(Str.ofString "default",.int d td)]) _ _ _
refine qF4 (I2.ok.hd hc) hl (λz h' tk kp=>⟨.int d,_,I2.kept kp,⟨_,rfl⟩,h0 ?_⟩) (λi v h' tk hv hi le kp=>?_)
·rw[hns,Array.eq_empty_of_size_eq_zero z];rfl
obtain⟨t,rfl⟩:=intItems_at hv
refine⟨.int _,_,I2.kept kp,⟨t,rfl⟩,h1 _ ?_ λa ha=>?_⟩
·rw[hns,numAt_eq];exact getD_mem (by rw[kB,mZ];omega)
rw[hns]at ha
obtain⟨j,hj,rfl⟩:=mem_getD ha
rw[kB,mZ]at hj
rw[←numAt_eq]
exact le j hj)
end L2
namespace L2
open PySem PySem.W PySem.Spec PyProof.Rows
theorem qGZ(a d:Value):argsOk "min" ⟨[a],[(Str.ofString "key",d)]⟩:=by unfold argsOk;kernel_rfl
noncomputable def KeyI(K:PySem.W.Frag)(kf:Nat→List Int)(H:Hp)(zs:List V):Prop:=∀j z,zs[j]?=some z→TupI K H z (kf j)
section
variable{X:Cx}{pins:List (Addr×Obj)}{σ:St}
theorem qH0{A:Around}{H:Hp}{s:Shared}{z1 z2:V}{u1 u2:Value}{k1 k2:List Int}{Q:Value→Shared→Prop}{E:Value→Shared→Prop}(I:Inv X pins σ H s)(hu:A.units+1<cLine)(t1:TupI X.K H z1 k1)(t2:TupI X.K H z2 k2)(r1:RelV z1 u1)(r2:RelV z2 u2)(c:Q (.bool (lx k1 k2)) s):wpAny (model X.prog X.w) A (richCompare .Lt u1 u2) Q E s:=by(
have p1:=q3L I (.cons r1 .nil) (.cons t1 .nil)
have p2:=q3L I (.cons r2 .nil) (.cons t2 .nil)
obtain⟨k1',g1,a1,us1,rfl,q1,i1⟩:=Paired.at (i:=0) p1 rfl
obtain⟨k2',g2,a2,us2,rfl,q2,i2⟩:=Paired.at (i:=0) p2 rfl
cases g1
cases g2
rw[←q9F]at c
exact HT.lt_tupInts (items:=us1.toArray) (items2:=us2.toArray) q1 q2 (by simpa using i1) (by simpa using i2) (xG hu) c)
theorem qH1{R:Result→Shared→Prop}{l f I S:Addr}{us:List V}{kf:Nat→List Int}(hc:X.A.handled=none)(hu:X.A.units+64<cLine)(Pv:Nat→List V→Hp→Prop)
 (hq:∀i zs H',Pv i zs H'→SqL X.K H' l us∧zs.length=i∧KeyI X.K kf H' zs) (nl:l≠I) (nS:S≠I) (nlS:l≠S)
 (hI:∀H',H' I=none→FpOk X pins H' I) (hS:∀H',H' S=none→FpOk X pins H' S)
 (hs:∀i x zs H' pins' s' u,us[i]?=some x→RelV x u→Pv i zs H'→Inv { X with A:=X.A.in1,xe:=λ_ _=>False } pins' σ H' s'→wpAny (model X.prog X.w) X.A.in1 (call (.ref f) [u]) (EP { X with A:=X.A.in1,xe:=λ_ _=>False } pins' σ (λz H''=>Pv (i+1) (zs++[z]) H'')) (λ_ _=>False) s')
 (hR:∀i v zs H' s',i<us.length→RelV (us.getD i .non) v→(∀j,j<us.length→lx (kf j) (kf i)=false)→Pv us.length zs H'→Inv X pins σ H' s'→R (.ok (.ret v)) s'):
 ∀(r j i:Nat) (s:Shared) (H:Hp) (zs:List V) (vb kb:Value) (c:Nat),j+r=us.length→i<j→Inv X pins σ H s→Pv j zs H→H I=none→H S=none→s.heap.IsListIter I l j→s.heap.get? S=some (seqObj "list" #[vb,kb] c)→RelV (us.getD i .non) vb→RelV (zs.getD i .non) kb→(∀j',j'<j→lx (kf j') (kf i)=false)→codeAny (model X.prog X.w) X.A (.builtin "min.loop" ⟨[.ref I,.ref f,.ref S],[]⟩) R s:=by(
have nm:(toString "min"++toString ".loop":String)="min.loop":=by decide
intro r
induction r with
|zero=>intro j i s H zs vb kb c ej ij J pv n1 n2 it gS rb rk best;obtain rfl:j=us.length:=ej;obtain⟨sq,lz,ky⟩:=hq _ _ _ pv;obtain⟨its,rv,pl,hz⟩:=J.list sq;have hlen:=rv.length;have W:=lZ (prog:=X.prog) (w:=X.w) (A:=X.A.in1) hc I l nl its.toArray;refine wS dM (id ?_);rw[d6 m7 _];show wpAny _ X.A.in1 (seqItems? (.ref S) >>= _) _ (λ_ _=>_) _;refine hV (cG gS rfl ?_);show wpAny _ X.A.in1 (tryCatch (pyNext (.ref I)) _ >>= _) _ (λ_ _=>_) _;refine hV (dN (W.done s _ _ ⟨by rw[mD,←hlen];exact it,pl.isList⟩ λh1 t1 kp=>?_));have J1:Inv X pins σ H { s with heap:=h1,toks:=t1 }:=J.turnedN (fp:=[I]) kp (λb hb=>by rw[h9.mp hb];exact hI _ n1);have gS1:=kp S _ (λz=>nS (h9.mp z)) gS;show wpAny _ X.A.in1 (updateSeq S (λ_=>#[]) >>= _) _ (λ_ _=>_) _;refine hV (wT gS1 rfl (hV (wG (kY ?_))));exact hR i vb zs H _ ij rb best pv (J1.turnedN (fp:=[S]) (λb o hb e=>(kW _ _ (λz=>hb (h9.mpr z.symm))).trans e) (λb hb=>by rw[h9.mp hb];exact hS _ n2))
|succ r ih=>
 intro j i s H zs vb kb c ej ij J pv n1 n2 it gS rb rk best;have lt:j<us.length:=by omega
 obtain⟨sq,lz,ky⟩:=hq _ _ _ pv;obtain⟨its,rv,pl,hz⟩:=J.list sq;have hlen:=rv.length;have W:=lZ (prog:=X.prog) (w:=X.w) (A:=X.A.in1) hc I l nl its.toArray;refine wS dM (id ?_);rw[d6 m7 _];show wpAny _ X.A.in1 (seqItems? (.ref S) >>= _) _ (λ_ _=>_) _;refine hV (cG gS rfl ?_);show wpAny _ X.A.in1 (tryCatch (pyNext (.ref I)) _ >>= _) _ (λ_ _=>_) _;refine hV (dN (W.item j s _ _ (by rw[mD];omega) ⟨it,pl.isList⟩ λv h1 t1 pv1 st1 kp=>?_));have hv:its[j]?=some v:=by simpa using pv1
 obtain⟨x,ex,rx⟩:=rv.atN (j:=j) (by omega);obtain rfl:its[j]=v:=(kD.mp hv).2;have J1:Inv X pins σ H { s with heap:=h1,toks:=t1 }:=J.turnedN (fp:=[I]) kp (λb hb=>by rw[h9.mp hb];exact hI _ n1);have gS1:=kp S _ (λz=>nS (h9.mp z)) gS;obtain⟨oI,gI,hoc,hod⟩:=id st1.1;have J2:=(J1.near (A':=X.A.in1) rfl rfl λ_ _=>False).pinned (fp:=[I,S]) (λb hb'=>by
  simp only[kI,gE,rK]at hb';rcases hb' with rfl|rfl
  ·exact hI _ n1
  ·exact hS _ n2) (λb hb'=>by
  simp only[kI,gE,rK]at hb';rcases hb' with rfl|rfl
  ·exact⟨_,gI,λv z=>by rw[hod]at z;cases z⟩
  exact⟨_,gS1,λv z=>by cases z⟩)
 show wpAny _ X.A.in1 (tryCatch (holding [its[j]] (call (.ref f) [its[j]])) _ >>= _) _ (λ_ _=>_) _;refine hV (dN (gL (g8 (hs j x zs H _ _ _ ex rx pv J2) (λu s2 hq2=>?_) λ_ _ z=>z.elim)));obtain⟨z,H2,J3,ru,pv2⟩:=hq2;have pI:=J3.pin (I,oI) (kU _ (kU _ (yB (by simp) gI)));have pS:=J3.pin (S,seqObj "list" #[vb,kb] c) (kU _ (kU _ (yB (by simp) gS1)));have J4:Inv X pins σ H2 s2:=(J3.unpinned).near (A':=X.A) rfl rfl X.xe;obtain⟨sq2,lz2,ky2⟩:=hq _ _ _ pv2;have kz:TupI X.K H2 z (kf j):=ky2 j z (by rw[dH (by omega),lz,Nat.sub_self];rfl);have gi:zs[i]?=some (zs.getD i .non):=by rw[kL,kC (by omega)];rfl
 have ki:TupI X.K H2 (zs.getD i .non) (kf i):=ky2 i _ (by rw[rO (by omega)];exact gi);have it2:s2.heap.IsListIter I l (j+1):=⟨oI,pI.1,hoc,hod⟩;show wpAny _ X.A.in1 (tryCatch (holding [its[j],u] (richCompare .Lt u kb >>= _)) _ >>= _) _ (λ_ _=>_) _;refine hV (dN (gL (hV (qH0 J4 (by show X.A.units+1+1<cLine;omega) kz ki ru rk ?_))));refine hV (gL (gR (hV (wG (kY ?_)))));cases e:lx (kf j) (kf i)with
 |true=>
  simp only[if_true];refine hV (wT pS.1 rfl (hV (wG ?_)));rw[nm];obtain⟨c2,g2⟩:∃c2,(s2.heap.update S (Obj.mapSeq λ_=>#[its[j],u])).get? S=some (seqObj "list" #[its[j],u] c2):=⟨_,wQ pS.1 λ_=>#[its[j],u]⟩;have J5:Inv X pins σ H2 { s2 with heap:=s2.heap.update S (Obj.mapSeq λ_=>#[its[j],u]),toks:=s2.toks }:=J4.turnedN (fp:=[S]) (λb o hb e=>(kW _ _ (λz=>hb (h9.mpr z.symm))).trans e) (λb hb=>by rw[h9.mp hb];exact hS _ pS.2.1);refine kY ⟨rX m7 _,ih (j+1) j _ H2 _ _ u c2 (by omega) (by omega) J5 pv2 pI.2.1 pS.2.1 ⟨oI,(kW _ _ nS).trans pI.1,hoc,hod⟩ g2 ?_ ?_ λj' hj'=>?_⟩
  ·rw[kL,ex];exact rx
  ·rw[kL,dH (by omega),lz,Nat.sub_self];exact ru
  by_cases y:j'=j
  ·rw[y];exact q2W _
  cases g:lx (kf j') (kf j)with
  |false=>rfl
  |true=>have:=q07 _ _ _ g e;rw[best j' (by omega)]at this;cases this
 |false=>
  simp only[cS,if_false];refine hV (wG ?_);rw[nm];refine kY ⟨rX m7 _,ih (j+1) i _ H2 _ vb kb c (by omega) (by omega) J4 pv2 pI.2.1 pS.2.1 it2 pS.1 rb ?_ λj' hj'=>?_⟩
  ·rw[kL,rO (by omega),gi];exact rk
  by_cases y:j'=j
  ·rw[y];exact e
  exact best j' (by omega))
end
noncomputable def tML(P:Program)(w:World)(K:PySem.W.Frag)(mg:Str→Option Value)(base:Heap)(cells:List (Str×Addr))(ix:List (Nat×Str))(k:Nat)(x:Str)(tl:TE)(ta:TA):TE:=λσ H Q=>ta σ H λvs H1=>tl σ H1 λfv H2=>∃(f:Addr) (fd:FuncData) (sp:Heap→Sp),fv=.ref f∧(∀base',(∀b o,base.get? b=some o→base'.get? b=some o)→q1F cells σ base' ix→FnOk P w K mg base' CX0 k f fd [x] (sp base'))∧jL K fd [x] []∧∃(l:Addr) (us:List V) (kf:Nat→List Int) (Pv:Nat→List V→Hp→Prop),vs=[.ref l]∧0<us.length∧Pv 0 [] H2∧(∀i zs H',Pv i zs H'→SqL K H' l us∧zs.length=i∧KeyI K kf H' zs)∧(∀base' i x zs H',q1F cells σ base' ix→us[i]?=some x→Pv i zs H'→sp base' [x] H' (λz H''=>Pv (i+1) (zs++[z]) H'') E0)∧∀i zs H',i<us.length→(∀j,j<us.length→lx (kf j) (kf i)=false)→Pv us.length zs H'→Q (us.getD i .non) H'
theorem qH2{X:Cx}{k:Nat}{x:Str}{e le:Expr}{tl:TE}{ta:TA}{p kp pos:Pos}(ix:List (Nat×Str))(hix:∀p∈ix,X.N[p.1]?=some p.2∧X.env.scope.names.lookup p.2=some .cell∧X.fn p.2=true)(hc:X.calm=true)(hu:X.A.units+64<cLine)(hr:Room (k+1) X.A)(hg:Gl X "min")(hm:X.mg "min"=none)(hl:PE X le tl)(ha:PA X [e] ta)
 (he:starEach [e] X.env=[(false,eval e X.env)]:=by rfl) (hse:starEach ([]:List Expr) X.env=[]:=by rfl):
 PE X (.Call (.Name "min" p) [e] [⟨some "key",le,kp⟩] pos) (tML X.prog X.w X.K X.mg X.base X.env.cells ix k x tl ta):=by(
intro pins s σ H Q I h
have nm:(toString "min"++toString ".loop":String)="min.loop":=by decide
refine g9 (q0K I hg hm (u:=.builtin "min") (by kernel_rfl) ?_ (by decide) (by decide))
refine xY (thn (ha pos pins s σ H _ I h) λus s1 ⟨vs,H1,I1,r1,q1⟩=>?_) (by rw[he,hse];rfl) (by rw[he];rfl)
have pk:PK X [⟨some "key",le,kp⟩] (q8X tl tNil):=q7W hl qA5
refine thn (pk pos pins s1 σ H1 (oneQ _) I1 q1) λws s2 hZ=>?_
obtain⟨xs,H2,I2,r2,q2⟩:=hZ
obtain⟨v,rfl,f,fd,sp,rfl,F,hb,q2⟩:=qBL q2
obtain⟨w,rfl,rw⟩:=q05 r2
obtain rfl:w=Value.ref f:=rw
obtain⟨l,us',kf,Pv,ev,hn,p0,hq,hs,hd⟩:=q2
subst ev
obtain⟨u,rfl,ru⟩:=q05 r1
obtain rfl:u=Value.ref l:=ru
obtain⟨sq,_,_⟩:=hq _ _ _ p0
obtain⟨its,rv,pl,hz⟩:=I2.list sq
have hlen:=rv.length
have hd0:=I2.ok.hd hc
have hlt:l<s2.heap.objs.size:=by obtain⟨_,e,_⟩:=pl.isList;exact kP e
show wpAny (model X.prog X.w) X.A (call (.builtin "min") [.ref l] [(Str.ofString "key",.ref f)]) _ _ _
refine qBU xV xO xP (qGZ _ _) ?_
refine hV (m:=Builtin.Builtins.bindParams "min" ["key","default"] 0 ⟨[],[(Str.ofString "key",.ref f)]⟩) (wpAny_of_eq (a:=[some (.ref f),none]) rfl ?_)
refine hV (kY (hV (l9 pl.isList ?_)))
refine hV (wV ?_ (mU _))
rw[nm]
refine kY ⟨rX m7 _,?_⟩
have hS:(s2.heap.push { cls:=.type "list_iterator",data:=.fields #[.ref l,.int 0 0] }).objs.size=s2.heap.objs.size+1:=nI ..
have gS:=mJ (o:=seqObj "list" #[] 0) (s2.heap.push { cls:=.type "list_iterator",data:=.fields #[.ref l,.int 0 0] }) rfl
have gI:((s2.heap.push { cls:=.type "list_iterator",data:=.fields #[.ref l,.int 0 0] }).push (seqObj "list" #[] 0)).get? s2.heap.objs.size=some { cls:=.type "list_iterator",data:=.fields #[.ref l,.int 0 0] }:=kE _ (mJ _ rfl)
have I3:Inv X pins σ H2 { s2 with heap:=(s2.heap.push { cls:=.type "list_iterator",data:=.fields #[.ref l,.int 0 0] }).push (seqObj "list" #[] 0),toks:=s2.toks }:=I2.kept (t':=s2.toks) λb o e=>kE _ (kE _ e)
obtain⟨S,eS⟩:∃S:Addr,S=(s2.heap.push { cls:=.type "list_iterator",data:=.fields #[.ref l,.int 0 0] }).objs.size:=⟨_,rfl⟩
obtain⟨J,eJ⟩:∃J:Addr,J=s2.heap.objs.size:=⟨_,rfl⟩
have fJ:FpOk X pins H2 J:=by rw[eJ];exact I2.fpOk (kN _) (I2.hok.fresh (kN _))
have fS:FpOk X pins H2 S:=by rw[eS,hS];exact I2.fpOk (dD _) (I2.hok.fresh (dD _))
have hJ:∀H',H' J=none→FpOk X pins H' J:=λH' e=>⟨e,fJ.2⟩
have hS':∀H',H' S=none→FpOk X pins H' S:=λH' e=>⟨e,fS.2⟩
have nl:l≠J:=by rw[eJ];exact mP hlt
have nSJ:S≠J:=by rw[eS,eJ,hS];exact dG (rG _)
have nlS:l≠S:=by rw[eS,hS];exact mP (dJ hlt)
have hc':X.A.handled=none:=hd0
rw[←eS]at gS
show codeAny (model X.prog X.w) X.A (.builtin "min.loop" ⟨[.ref s2.heap.objs.size,.ref f,.ref (s2.heap.push { cls:=.type "list_iterator",data:=.fields #[.ref l,.int 0 0] }).objs.size],[]⟩) _ _
rw[←eS,←eJ]
rw[←eJ]at gI
clear hS eS eJ
obtain⟨h3,eh⟩:∃h3,h3=(s2.heap.push { cls:=.type "list_iterator",data:=.fields #[.ref l,.int 0 0] }).push (seqObj "list" #[] 0):=⟨_,rfl⟩
rw[←eh]at gS gI I3
show codeAny _ _ _ _ { s2 with heap:=(s2.heap.push { cls:=.type "list_iterator",data:=.fields #[.ref l,.int 0 0] }).push (seqObj "list" #[] 0) }
rw[←eh]
clear eh
obtain⟨its,rv,pl,hz⟩:=I3.list sq
have hlen:=rv.length
have W:=lZ (prog:=X.prog) (w:=X.w) (A:=X.A.in1) hc' J l nl its.toArray
refine wS dM (id ?_)
rw[d6 m7 _]
show wpAny _ X.A.in1 (seqItems? (.ref S) >>= _) _ (λ_ _=>_) _
refine hV (cG gS rfl ?_)
show wpAny _ X.A.in1 (tryCatch (pyNext (.ref J)) _ >>= _) _ (λ_ _=>_) _
refine hV (dN (W.item 0 _ _ _ (by rw[mD];omega) ⟨⟨_,gI,rfl,rfl⟩,pl.isList⟩ λv h1 t1 pv1 st1 kp=>?_))
have hv:its[0]?=some v:=by simpa using pv1
obtain⟨x0,ex,rx⟩:=rv.atN (j:=0) (by omega)
obtain rfl:its[0]=v:=(kD.mp hv).2
have J1:Inv X pins σ H2 { s2 with heap:=h1,toks:=t1 }:=Inv.turnedN (s:={ s2 with heap:=h3 }) (fp:=[J]) I3 kp (λb hb=>by rw[h9.mp hb];exact fJ)
have gS1:=kp S _ (λz=>nSJ (h9.mp z)) gS
obtain⟨oI,gI1,hoc,hod⟩:=id st1.1
have J2:=(J1.near (A':=X.A.in1) rfl rfl λ_ _=>False).pinned (fp:=[J,S]) (λb hb'=>by
 simp only[kI,gE,rK]at hb';rcases hb' with rfl|rfl
 ·exact fJ
 ·exact fS) (λb hb'=>by
 simp only[kI,gE,rK]at hb';rcases hb' with rfl|rfl
 ·exact⟨_,gI1,λv z=>by rw[hod]at z;cases z⟩
 exact⟨_,gS1,λv z=>by cases z⟩)
have hs':∀i x zs H' pins' s' u,us'[i]?=some x→RelV x u→Pv i zs H'→Inv { X with A:=X.A.in1,xe:=λ_ _=>False } pins' σ H' s'→wpAny (model X.prog X.w) X.A.in1 (call (.ref f) [u]) (EP { X with A:=X.A.in1,xe:=λ_ _=>False } pins' σ (λz H''=>Pv (i+1) (zs++[z]) H'')) (λ_ _=>False) s':=λi x zs H' pins' s' u hx rx pv I'=>qBK (X:={ X with A:=X.A.in1,xe:=λ_ _=>False }) (dvs:=[]) (ds:=[]) (E:=E0) ix hix F hr.in1 hb .nil qK I' (.cons rx .nil) (λbase' up cv=>hs base' i x zs H' cv hx pv)
show wpAny _ X.A.in1 (tryCatch (holding [its[0]] (call (.ref f) [its[0]])) _ >>= _) _ (λ_ _=>_) _
refine hV (dN (gL (g8 (hs' 0 x0 [] H2 _ _ _ ex rx p0 J2) (λu s3 hq2=>?_) λ_ _ z=>z.elim)))
obtain⟨z,H3,J3,ru,pv2⟩:=hq2
have pI:=J3.pin (J,oI) (kU _ (kU _ (yB (by simp) gI1)))
have pS:=J3.pin (S,seqObj "list" #[] 0) (kU _ (kU _ (yB (by simp) gS1)))
have J4:Inv X pins σ H3 s3:=(J3.unpinned).near (A':=X.A) rfl rfl X.xe
show wpAny _ X.A.in1 (updateSeq S (λ_=>#[its[0],u]) >>= _) _ (λ_ _=>_) _
refine hV (wT pS.1 rfl ?_)
rw[nm]
obtain⟨c2,g2⟩:∃c2,(s3.heap.update S (Obj.mapSeq λ_=>#[its[0],u])).get? S=some (seqObj "list" #[its[0],u] c2):=⟨_,wQ pS.1 λ_=>#[its[0],u]⟩
have J5:Inv X pins σ H3 { s3 with heap:=s3.heap.update S (Obj.mapSeq λ_=>#[its[0],u]),toks:=s3.toks }:=J4.turnedN (fp:=[S]) (λb o hb e=>(kW _ _ (λz=>hb (h9.mpr z.symm))).trans e) (λb hb=>by rw[h9.mp hb];exact hS' _ pS.2.1)
refine kY ⟨rX m7 _,qH1 hc' hu Pv hq nl nSJ nlS hJ hS' hs' (λi v zs H' s' a1 a2 a3 a4 a5=>?_) (us'.length-1) 1 0 _ H3 _ its[0] u c2 (by omega) (by omega) J5 pv2 pI.2.1 pS.2.1 ⟨oI,(kW _ _ nSJ).trans pI.1,hoc,hod⟩ g2 ?_ ?_ λj' hj'=>?_⟩
·exact⟨_,H',a5,a2,hd i zs H' a1 a3 a4⟩
·rw[kL,ex];exact rx
·exact ru
obtain rfl:j'=0:=by omega
exact q2W _)
end L2
namespace L2
open PySem
theorem qAT{lo:Int}{n:Nat}{g:TG}{tb:TS}{D:Ends}{σ:St}{H:Hp}(Pv:Nat→St→Hp→Prop)(h0:Pv 0 σ H)
 (hs:∀i σ H (D':Ends),(∀σ' H',Pv (i+1) σ' H'→D'.nx σ' H')→i<n→Pv i σ H→g (.int (lo+i)) σ H λσ2 H2=>tb D' σ2 H2) (hd:∀σ H,Pv n σ H→D.nx σ H):
 ∃W:Nat→Nat→St→Hp→Prop,(∃m,W 0 m σ H)∧∀i m σ H,W i m σ H→((Itr lo n).stop i H∧D.nx σ H)∨((Itr lo n).go i H∧∃N:St→Hp→Prop,(∀σ' H',N σ' H'→∃m',m'<m∧W (i+1) m' σ' H')∧∀x H',(Itr lo n).yld i H x H'→g x σ H' λσ2 H2=>tb { D with nx:=N,ct:=N,bk:=D.nx } σ2 H2):=q76 Pv h0 (λi σ H hx p=>hs i σ H _ (λ_ _ q=>q) hx p) hd
theorem iV{σ:St}{i:Nat}{v:V}{Q:V→Prop}(e:σ[i]?=some (some v))(q:Q v):∃v,σ[i]?=some (some v)∧Q v:=⟨v,e,q⟩
theorem iF{K:PySem.W.Frag}{H:Hp}{f:Str}{a C d:Addr}{fs:List (Str×V)}{v:V}{Q:V→Prop}(o:H a=some (.ins C d fs))(cl:Cls K C)(na:qM K C f)(lk:fs.lookup f=some v)(q:Q v):
 ∃a' C dx fs v,V.ref a=.ref a'∧H a'=some (.ins C dx fs)∧Cls K C∧qM K C f∧fs.lookup f=some v∧Q v:=⟨a,C,d,fs,v,rfl,o,cl,na,lk,q⟩
theorem iM{H:Hp}{m:Str}{a C d:Addr}{fs:List (Str×V)}{q:Prop}(o:H a=some (.ins C d fs))(lk:fs.lookup m=none)(k:q):
 ∃a' dx fs,V.ref a=.ref a'∧H a'=some (.ins C dx fs)∧fs.lookup m=none∧q:=⟨a,d,fs,rfl,o,lk,k⟩
theorem iI{i j:Int}{Q:Int→Int→Prop}(q:Q i j):∃i' j',V.int i=.int i'∧V.int j=.int j'∧Q i' j':=⟨i,j,rfl,rfl,q⟩
theorem iL{K:PySem.W.Frag}{H:Hp}{p:Addr}{xs:List V}{k:Int}{v:V}{Q:V→Prop}(h:SqL K H p xs)(e:atI xs k=some v)(q:Q v):∃p' xs k' v,V.ref p=.ref p'∧V.int k=.int k'∧SqL K H p' xs∧atI xs k'=some v∧Q v:=⟨p,xs,k,v,rfl,rfl,h,e,q⟩
theorem iT{K:PySem.W.Frag}{H:Hp}{p:Addr}{xs:List V}{k:Int}{v:V}{Q:V→Prop}(h:SqT K H p xs)(e:atI xs k=some v)(q:Q v):∃p' xs k' v,V.ref p=.ref p'∧V.int k=.int k'∧SqT K H p' xs∧atI xs k'=some v∧Q v:=⟨p,xs,k,v,rfl,rfl,h,e,q⟩
end L2
namespace L2
open PySem PySem.Spec PyProof.Rows
structure Fn1(K:PySem.W.Frag)(x q:Str)(st:Stmt)(f:Addr)(ps:List Str) where
fd:FuncData
F:FunD K x q st .none f fd
b:jL K fd ps []
noncomputable abbrev Fn1.Ok0{K:PySem.W.Frag}{x q:Str}{st:Stmt}{f:Addr}{ps:List Str}(F:Fn1 K x q st f ps)(P:Program)(w:World)(mg:Str→Option Value)(base:Heap)(k:Nat)(sp:Sp):Prop:=FnOk P w K mg base CX0 k f F.fd ps sp
noncomputable abbrev Fn1.OkE{K:PySem.W.Frag}{x q:Str}{st:Stmt}{f:Addr}{ps:List Str}(F:Fn1 K x q st f ps)(P:Program)(w:World)(mg:Str→Option Value)(base:Heap)(k:Nat)(sp:Sp):Prop:=FnOk P w K mg base (CXe P w) k f F.fd ps sp
noncomputable abbrev FnX(K:PySem.W.Frag)(x q:Str)(st:Stmt)(f:Addr):Prop:=∃fd,FunD K x q st .none f fd
section
variable{K:PySem.W.Frag}{x q:Str}{st:Stmt}{f:Addr}{ps:List Str}
noncomputable def BnX(x q:Str)(st:Stmt)(ps:List Str):Prop:=∀(kV doc pm:Value) (an:Option Addr) (cdv ct:Value) (us:List Value),us.length=ps.length→bindArgs (PySem.W.fnOf x q (y9 st) (jM st) (qE st) .none kV doc pm an cdv ct) ⟨us,[]⟩=pure (ps.zip us)
theorem fn1b(h:BnX x q st ps){fd:FuncData}(F:FunD K x q st .none f fd):jL K fd ps []:=by obtain⟨oc,od,kV,doc,pm,an,cdv,ct,osl,rfl,lk,hcd⟩:=F.ex;exact jL.all λus hl=>h kV doc pm an cdv ct us hl
theorem lnx{us:List Value}{n:Nat}(h:us.length=n):us=(List.range n).map (us.getD · .none):=by subst h;refine wE (by simp) λi h1 h2=>?_;simp[kC h1]
theorem bnx(h:∀kV doc pm an cdv ct (g:Nat→Value),bindArgs (PySem.W.fnOf x q (y9 st) (jM st) (qE st) .none kV doc pm an cdv ct) ⟨(List.range ps.length).map g,[]⟩=pure (ps.zip ((List.range ps.length).map g))):BnX x q st ps:=λkV doc pm an cdv ct us hl=>by rw[lnx hl];exact h ..
noncomputable def fn1 (l:FnX K x q st f) (h:∀kV doc pm an cdv ct (g:Nat→Value),bindArgs (PySem.W.fnOf x q (y9 st) (jM st) (qE st) .none kV doc pm an cdv ct) ⟨(List.range ps.length).map g,[]⟩=pure (ps.zip ((List.range ps.length).map g)):=by intros;rfl):Fn1 K x q st f ps:=⟨l.choose,l.choose_spec,fn1b (bnx h) l.choose_spec⟩
theorem FnX.bind1{a:Str}{fd:FuncData}(h:∀kV doc pm an cdv ct u,bindArgs (PySem.W.fnOf x q (y9 st) (jM st) (qE st) .none kV doc pm an cdv ct) ⟨[u],[]⟩=pure [(a,u)])(F:FunD K x q st .none f fd)(s:Shared)(v:Value):BindsTo s fd ⟨[v],[]⟩ [(a,v)]:=by obtain⟨oc,od,kV,doc,pm,an,cdv,ct,osl,rfl,lk,hcd⟩:=F.ex;exact .of_eq (h kV doc pm an cdv ct v)
theorem FnX.of{oc:Value}{od an:Option Addr}{osl:Array (Option Value)}{kV doc pm cdv ct:Value}(l:K.lookup f=some ⟨oc,od,.func (PySem.W.fnOf x q (y9 st) (jM st) (qE st) .none kV doc pm an cdv ct),osl⟩)(c:PySem.W.codeIn K cdv q=true):FnX K x q st f:=⟨_,FunD.mk' l c⟩
theorem qO{N P:List Str}{sc:Scope}(h:(sc.kind=.function∧sc.isCoroutine=false∧sc.isGenerator=false)∧N.Nodup∧N.take P.length=P∧(∀x∈P,sc.names.lookup x=some .local∨sc.names.lookup x=some .cell)∧∀y∈sc.names,y.2≠ .free):FnScope N P sc:=⟨h.1.1,h.1.2.1,h.1.2.2,h.2.1,h.2.2.1,h.2.2.2.1,h.2.2.2.2⟩
end
noncomputable abbrev GFn(K:PySem.W.Frag)(n:Str)(f:Addr):Prop:=PySem.W.nsIn K mainGlobals n=some (some (.ref f))∧PySem.W.keepIn K (.ref f)=true
theorem sz0:0≤sizeLine:=by decide
theorem sz1:1≤sizeLine:=by decide
theorem sz2:2≤sizeLine:=by decide
theorem sz3:3≤sizeLine:=by decide
theorem sz4:4≤sizeLine:=by decide
theorem sz5:5≤sizeLine:=by decide
end L2
namespace W1
open PySem L2
noncomputable def top(i:Nat):Stmt:=PySem.Challenge.pw_wornpages_k48_no_spread.main.body.getD i (.Pass ⟨0,0,0,0⟩)
noncomputable abbrev q2X:Stmt:=(top 15)
noncomputable abbrev q1I:Stmt:=(top 16)
noncomputable abbrev q2Y:Stmt:=(top 17)
noncomputable abbrev q2Z:Stmt:=(top 18)
noncomputable abbrev q45:Stmt:=(top 22)
noncomputable abbrev q46:Stmt:=(top 23)
noncomputable abbrev q1J:Stmt:=(qL (top 25) 0)
noncomputable abbrev q1K:Stmt:=(qL (top 25) 1)
noncomputable abbrev q1L:Stmt:=(qL (top 25) 2)
noncomputable abbrev zN:Stmt:=(qL (top 25) 3)
noncomputable abbrev vU:Stmt:=(qL (top 25) 4)
noncomputable abbrev uO:Stmt:=(qL (top 25) 6)
noncomputable abbrev q1M:Stmt:=(qL (top 25) 7)
noncomputable abbrev q0S:Stmt:=(qL (top 27) 0)
noncomputable abbrev q0T:Stmt:=(qL (top 27) 1)
noncomputable abbrev jN:Stmt:=(qL (top 27) 2)
noncomputable abbrev q0U:Stmt:=(qL (top 27) 3)
noncomputable abbrev q0V:Stmt:=(qL (top 27) 4)
noncomputable abbrev zO:Stmt:=(qL (top 27) 6)
noncomputable abbrev v4:Stmt:=(qL (top 27) 8)
noncomputable abbrev q1N:Stmt:=(qL (top 27) 9)
noncomputable abbrev zP:Stmt:=(qL (top 27) 10)
noncomputable abbrev vG:Stmt:=(qL (top 27) 11)
noncomputable abbrev q0W:Stmt:=(qL (top 27) 13)
noncomputable abbrev yQ:Stmt:=(qL (top 27) 14)
noncomputable abbrev yR:Stmt:=(qL (top 27) 15)
noncomputable abbrev q30:Stmt:=(top 29)
noncomputable abbrev q0X:Stmt:=(qL (top 30) 0)
noncomputable abbrev vH:Stmt:=(qL (top 30) 2)
noncomputable abbrev zQ:Stmt:=(qL (top 30) 3)
noncomputable abbrev zR:Stmt:=(qL (top 30) 4)
noncomputable abbrev uP:Stmt:=(qL (top 30) 5)
noncomputable abbrev yE:Stmt:=(qL (top 30) 6)
noncomputable abbrev vI:Stmt:=(qL (top 30) 7)
noncomputable abbrev vV:Stmt:=(qL (top 30) 8)
noncomputable abbrev yF:Stmt:=(qL (top 30) 9)
noncomputable abbrev zS:Stmt:=(qL (top 30) 10)
noncomputable abbrev yL:Stmt:=(qL (top 30) 11)
noncomputable abbrev zT:Stmt:=(qL (top 30) 12)
noncomputable abbrev uQ:Stmt:=(qL (top 30) 13)
noncomputable abbrev uR:Stmt:=(qL (top 30) 14)
noncomputable abbrev u6:Stmt:=(qL (top 30) 15)
noncomputable abbrev u7:Stmt:=(qL (top 30) 16)
noncomputable abbrev q0Y:Stmt:=(qL (top 32) 0)
noncomputable abbrev v5:Stmt:=(qL (top 32) 2)
noncomputable abbrev vW:Stmt:=(qL (top 32) 3)
noncomputable abbrev zU:Stmt:=(qL (top 32) 4)
noncomputable abbrev qR:Stmt:=(qL (top 32) 5)
noncomputable abbrev vX:Stmt:=(qL (top 32) 6)
noncomputable abbrev zV:Stmt:=(qL (top 32) 7)
noncomputable abbrev q1O:Stmt:=(top 34)
noncomputable abbrev uC:Stmt:=(qL (top 35) 0)
noncomputable abbrev q31:Stmt:=(qL (top 35) 1)
noncomputable abbrev q1P:Stmt:=(qL (top 35) 2)
noncomputable abbrev q1Q:Stmt:=(qL (top 35) 3)
noncomputable abbrev vY:Stmt:=(qL (top 35) 6)
noncomputable abbrev vZ:Stmt:=(qL (top 35) 7)
noncomputable abbrev zW:Stmt:=(qL (top 35) 8)
noncomputable abbrev q0Z:Stmt:=(qL (top 35) 9)
noncomputable abbrev uS:Stmt:=(qL (top 35) 10)
noncomputable abbrev u8:Stmt:=(qL (top 35) 11)
noncomputable abbrev u9:Stmt:=(qL (top 35) 12)
noncomputable abbrev uT:Stmt:=(qL (top 35) 13)
noncomputable abbrev vJ:Stmt:=(qL (top 35) 14)
noncomputable abbrev zA:Stmt:=(qL (top 35) 15)
noncomputable abbrev zX:Stmt:=(top 37)
noncomputable abbrev v6:Stmt:=(top 38)
noncomputable abbrev uU:Stmt:=(qL (top 39) 0)
noncomputable abbrev zY:Stmt:=(qL (top 39) 1)
noncomputable abbrev yS:Stmt:=(qL (top 40) 0)
noncomputable abbrev yT:Stmt:=(qL (top 41) 0)
noncomputable abbrev uA:Stmt:=(qL (top 42) 0)
noncomputable abbrev yP:Stmt:=(qL (top 44) 0)
noncomputable abbrev zB:Stmt:=(qL (top 44) 1)
noncomputable abbrev zZ:Stmt:=(top 46)
noncomputable abbrev q1R:Stmt:=(top 47)
noncomputable abbrev q1S:Stmt:=(top 48)
noncomputable abbrev q32:Stmt:=(top 49)
noncomputable abbrev qF5:Stmt:=(top 50)
set_option genInjectivity false in
structure Adr where
(f_is_whole f_is_within f_is_shape f_is_value f_mark_of f_bits_of f_Book_init f_Book_mark f_Book_note f_Book_forget f_Book_emptied f_Book_live_pages f_Book_held f_Plain_init f_Plain_good f_Plain_free f_Plain_part f_Plain_spot f_Plain_ready f_Plain_set_down f_Plain_lay f_Plain_write f_Plain_give_up f_Plain_held f_Plain_check_sheet f_Plain_check_share f_paper_of f_Store_init f_Store_reserve f_Store_tally f_Store_space f_Store_full_ones f_Store_with_dead_page f_Store_options f_Store_choice f_Store_choice_by_rule f_Store_moved f_Store_value_to_move f_Store_wiped f_Store_clear_out f_Store_make_room f_Store_make_ready f_Store_make_rooms f_Even_least f_Even_clearable f_Even_options f_Even_choice f_Even_block_to_change f_Even_changes f_Even_takers f_limits_of f_Chip_init f_Chip_put f_Chip_wipe f_Chip_read f_Chip_is_dark f_Chip_cleared f_Chip_failed f_Chip_deeds f_Chip_check_page f_Chip_check_block f_Chip_check_power f_Chip_check_deed f_Chip_is_spent f_Chip_do_deed f_is_unbeaten f_first_unbeaten f_Rule_goes_ahead f_Rule_choose f_Fewest_goes_ahead f_Eldest_goes_ahead f_Worth_goes_ahead f_Terms_init f_Terms_closed f_law_cell_at f_law_shape f_law_sheet f_law_rule f_law C_Book C_Plain C_Store C_Even C_Chip C_Rule C_Fewest C_Eldest C_Worth C_Terms C_PowerGone C_NoRoom:Addr)
iY:Tok
aCL:Tok
aBG:Tok
aA9:Addr
bH:Addr
fT:Addr
bI:Addr
structure Txt(K:W.Frag)(mg:Str→Option Value)(t:Adr):Prop where
aER:mg "Book"=some (.ref t.C_Book)
bR:Cls K t.C_Book
aCA:qM K t.C_Book "blocks"
iC:qM K t.C_Book "pages"
bY:qM K t.C_Book "stamp"
e9:qM K t.C_Book "where"
iW:qM K t.C_Book "live"
bV:qM K t.C_Book "filled"
iS:qM K t.C_Book "born"
aDW:Meth K t.C_Book "mark" t.f_Book_mark
aDX:Meth K t.C_Book "note" t.f_Book_note
aAQ:Meth K t.C_Book "forget" t.f_Book_forget
aCB:Meth K t.C_Book "emptied" t.f_Book_emptied
aA3:Meth K t.C_Book "live_pages" t.f_Book_live_pages
aDT:Meth K t.C_Book "held" t.f_Book_held
aEU:Mk K t.C_Book t.f_Book_init
aEL:mg "Plain"=some (.ref t.C_Plain)
aEF:mg "Store"=some (.ref t.C_Store)
bJ:Cls K t.C_Store
bZ:qM K t.C_Store "chip"
bM:qM K t.C_Store "terms"
bN:qM K t.C_Store "book"
fP:qM K t.C_Store "rule"
eU:qM K t.C_Store "papers"
tJ:Meth K t.C_Store "reserve" t.f_Store_reserve
aCT:Meth K t.C_Store "tally" t.f_Store_tally
aCJ:Meth K t.C_Store "space" t.f_Store_space
oE:Meth K t.C_Store "full_ones" t.f_Store_full_ones
fR:Meth K t.C_Store "with_dead_page" t.f_Store_with_dead_page
o7:Meth K t.C_Store "options" t.f_Store_options
aB8:Meth K t.C_Store "choice" t.f_Store_choice
fQ:Meth K t.C_Store "choice_by_rule" t.f_Store_choice_by_rule
aCW:Meth K t.C_Store "moved" t.f_Store_moved
tP:Meth K t.C_Store "value_to_move" t.f_Store_value_to_move
aCS:Meth K t.C_Store "wiped" t.f_Store_wiped
aAU:Meth K t.C_Store "clear_out" t.f_Store_clear_out
aAX:Meth K t.C_Store "make_room" t.f_Store_make_room
iZ:Meth K t.C_Store "make_ready" t.f_Store_make_ready
aAP:Meth K t.C_Store "make_rooms" t.f_Store_make_rooms
iU:Meth K t.C_Store "good" t.f_Plain_good
tM:Meth K t.C_Store "free" t.f_Plain_free
tH:Meth K t.C_Store "part" t.f_Plain_part
aC8:Meth K t.C_Store "spot" t.f_Plain_spot
aCX:Meth K t.C_Store "ready" t.f_Plain_ready
aBB:Meth K t.C_Store "set_down" t.f_Plain_set_down
aAF:Meth K t.C_Store "lay" t.f_Plain_lay
aCR:Meth K t.C_Store "write" t.f_Plain_write
aBW:Meth K t.C_Store "give_up" t.f_Plain_give_up
tQ:Meth K t.C_Store "held" t.f_Plain_held
iK:Meth K t.C_Store "check_sheet" t.f_Plain_check_sheet
aAI:Meth K t.C_Store "check_share" t.f_Plain_check_share
aEM:Mk K t.C_Store t.f_Store_init
aEX:mg "Even"=some (.ref t.C_Even)
bK:Cls K t.C_Even
eI:qM K t.C_Even "chip"
bQ:qM K t.C_Even "terms"
bS:qM K t.C_Even "book"
f9:qM K t.C_Even "rule"
fB:qM K t.C_Even "papers"
aDF:Meth K t.C_Even "least" t.f_Even_least
oR:Meth K t.C_Even "clearable" t.f_Even_clearable
tV:Meth K t.C_Even "options" t.f_Even_options
aCK:Meth K t.C_Even "choice" t.f_Even_choice
oS:Meth K t.C_Even "block_to_change" t.f_Even_block_to_change
aCD:Meth K t.C_Even "changes" t.f_Even_changes
aCI:Meth K t.C_Even "takers" t.f_Even_takers
t6:Meth K t.C_Even "reserve" t.f_Store_reserve
aDC:Meth K t.C_Even "tally" t.f_Store_tally
aDA:Meth K t.C_Even "space" t.f_Store_space
oQ:Meth K t.C_Even "full_ones" t.f_Store_full_ones
fZ:Meth K t.C_Even "with_dead_page" t.f_Store_with_dead_page
f7:Meth K t.C_Even "choice_by_rule" t.f_Store_choice_by_rule
aC7:Meth K t.C_Even "moved" t.f_Store_moved
tT:Meth K t.C_Even "value_to_move" t.f_Store_value_to_move
aC1:Meth K t.C_Even "wiped" t.f_Store_wiped
aBA:Meth K t.C_Even "clear_out" t.f_Store_clear_out
aBC:Meth K t.C_Even "make_room" t.f_Store_make_room
oC:Meth K t.C_Even "make_ready" t.f_Store_make_ready
aAV:Meth K t.C_Even "make_rooms" t.f_Store_make_rooms
oM:Meth K t.C_Even "good" t.f_Plain_good
aAA:Meth K t.C_Even "free" t.f_Plain_free
t8:Meth K t.C_Even "part" t.f_Plain_part
aDU:Meth K t.C_Even "spot" t.f_Plain_spot
aDE:Meth K t.C_Even "ready" t.f_Plain_ready
aBZ:Meth K t.C_Even "set_down" t.f_Plain_set_down
aA1:Meth K t.C_Even "lay" t.f_Plain_lay
aDD:Meth K t.C_Even "write" t.f_Plain_write
aB2:Meth K t.C_Even "give_up" t.f_Plain_give_up
aAJ:Meth K t.C_Even "held" t.f_Plain_held
i3:Meth K t.C_Even "check_sheet" t.f_Plain_check_sheet
aAS:Meth K t.C_Even "check_share" t.f_Plain_check_share
aET:Mk K t.C_Even t.f_Store_init
aEC:mg "Chip"=some (.ref t.C_Chip)
bL:Cls K t.C_Chip
fA:qM K t.C_Chip "blocks"
eN:qM K t.C_Chip "pages"
aA7:qM K t.C_Chip "most"
tW:qM K t.C_Chip "limits"
fI:qM K t.C_Chip "borne"
eW:qM K t.C_Chip "clearings"
iN:qM K t.C_Chip "deed_counts"
i6:qM K t.C_Chip "broken"
eT:qM K t.C_Chip "deeds_left"
oA:qM K t.C_Chip "record"
aD5:Meth K t.C_Chip "put" t.f_Chip_put
aDL:Meth K t.C_Chip "wipe" t.f_Chip_wipe
aDM:Meth K t.C_Chip "read" t.f_Chip_read
aB3:Meth K t.C_Chip "is_dark" t.f_Chip_is_dark
i9:Meth K t.C_Chip "cleared" t.f_Chip_cleared
aCH:Meth K t.C_Chip "failed" t.f_Chip_failed
aA5:Meth K t.C_Chip "deeds" t.f_Chip_deeds
oH:Meth K t.C_Chip "check_page" t.f_Chip_check_page
fH:Meth K t.C_Chip "check_block" t.f_Chip_check_block
iX:Meth K t.C_Chip "check_power" t.f_Chip_check_power
oF:Meth K t.C_Chip "check_deed" t.f_Chip_check_deed
tN:Meth K t.C_Chip "is_spent" t.f_Chip_is_spent
t7:Meth K t.C_Chip "do_deed" t.f_Chip_do_deed
aEA:Mk K t.C_Chip t.f_Chip_init
aEV:mg "Rule"=some (.ref t.C_Rule)
aEB:Cls K t.C_Rule
aA2:Meth K t.C_Rule "goes_ahead" t.f_Rule_goes_ahead
aCU:Meth K t.C_Rule "choose" t.f_Rule_choose
aEK:Mk0 K t.C_Rule
aD6:mg "Fewest"=some (.ref t.C_Fewest)
aDJ:Cls K t.C_Fewest
aAG:Meth K t.C_Fewest "goes_ahead" t.f_Fewest_goes_ahead
aBP:Meth K t.C_Fewest "choose" t.f_Rule_choose
aD2:Mk0 K t.C_Fewest
aD8:mg "Eldest"=some (.ref t.C_Eldest)
aC0:Cls K t.C_Eldest
aAN:Meth K t.C_Eldest "goes_ahead" t.f_Eldest_goes_ahead
aBI:Meth K t.C_Eldest "choose" t.f_Rule_choose
aD3:Mk0 K t.C_Eldest
aEJ:mg "Worth"=some (.ref t.C_Worth)
aDZ:Cls K t.C_Worth
aAR:Meth K t.C_Worth "goes_ahead" t.f_Worth_goes_ahead
aB7:Meth K t.C_Worth "choose" t.f_Rule_choose
aD7:Mk0 K t.C_Worth
aEG:mg "Terms"=some (.ref t.C_Terms)
bU:Cls K t.C_Terms
fL:qM K t.C_Terms "blocks"
bT:qM K t.C_Terms "pages"
o9:qM K t.C_Terms "sheets"
tY:qM K t.C_Terms "share"
tD:qM K t.C_Terms "ill"
tK:qM K t.C_Terms "spread"
aB1:Meth K t.C_Terms "closed" t.f_Terms_closed
aEH:Mk K t.C_Terms t.f_Terms_init
aC5:mg "PowerGone"=some (.ref t.C_PowerGone)
aDY:XCls K t.C_PowerGone
aC9:mg "NoRoom"=some (.ref t.C_NoRoom)
aD0:XCls K t.C_NoRoom
aEO:ClM K t.C_Plain "__init__" t.f_Plain_init
aCG:W.kitOne K (.ref t.C_Store) (.ref t.C_Even)=some false
aCQ:W.kitOne K (.ref t.C_Even) (.ref t.C_Store)=some true
aCN:W.codeHdIn K t.aA9 t.bH=true
oO:W.codeHdIn K t.fT t.bI=true
tZ:t.bH≠t.bI
aDP:mg "is_whole"=some (.ref t.f_is_whole)
aDQ:W.keepIn K (.ref t.f_is_whole)=true
bX:mg "is_within"=some (.ref t.f_is_within)
bW:W.keepIn K (.ref t.f_is_within)=true
aBU:mg "is_shape"=some (.ref t.f_is_shape)
aBX:W.keepIn K (.ref t.f_is_shape)=true
aDO:mg "is_value"=some (.ref t.f_is_value)
aDN:W.keepIn K (.ref t.f_is_value)=true
aD1:mg "mark_of"=some (.ref t.f_mark_of)
aD4:W.keepIn K (.ref t.f_mark_of)=true
aCF:mg "bits_of"=some (.ref t.f_bits_of)
aCE:W.keepIn K (.ref t.f_bits_of)=true
aBN:mg "paper_of"=some (.ref t.f_paper_of)
aBY:W.keepIn K (.ref t.f_paper_of)=true
aDG:mg "limits_of"=some (.ref t.f_limits_of)
aCZ:W.keepIn K (.ref t.f_limits_of)=true
aB6:mg "is_unbeaten"=some (.ref t.f_is_unbeaten)
aB5:W.keepIn K (.ref t.f_is_unbeaten)=true
aAZ:mg "first_unbeaten"=some (.ref t.f_first_unbeaten)
aAY:W.keepIn K (.ref t.f_first_unbeaten)=true
b8:mg "_law_cell_at"=some (.ref t.f_law_cell_at)
b9:W.keepIn K (.ref t.f_law_cell_at)=true
aC2:mg "_law_shape"=some (.ref t.f_law_shape)
aDH:W.keepIn K (.ref t.f_law_shape)=true
aDB:mg "_law_sheet"=some (.ref t.f_law_sheet)
aDI:W.keepIn K (.ref t.f_law_sheet)=true
aBL:mg "_law_rule"=some (.ref t.f_law_rule)
aBM:W.keepIn K (.ref t.f_law_rule)=true
aA6:mg "MOST_TOLD"=some (.int 1000000 t.iY)
aDK:mg "ROLL"=some (.int 64 t.aCL)
aEI:mg "NAMES"=some (.int 128 t.aBG)
aEY:mg "bool"=none
aE0:mg "int"=none
aA8:mg "isinstance"=none
aB4:mg "len"=none
aD9:mg "list"=none
aEW:mg "min"=none
aDV:mg "range"=none
aBH:mg "sorted"=none
aEZ:mg "zip"=none
set_option genInjectivity false
structure Fns(K:W.Frag)(t:Adr) where
aCY:Fn1 K "is_whole" "is_whole" q2X t.f_is_whole ["thing"]
eG:Fn1 K "is_within" "is_within" q1I t.f_is_within ["thing","low","high"]
aBE:Fn1 K "is_shape" "is_shape" q2Y t.f_is_shape ["blocks","pages"]
aCV:Fn1 K "is_value" "is_value" q2Z t.f_is_value ["thing"]
aDR:Fn1 K "mark_of" "mark_of" q45 t.f_mark_of ["stamp","name"]
aCM:Fn1 K "bits_of" "bits_of" q46 t.f_bits_of ["sheets"]
aBK:Fn1 K "__init__" "Book.__init__" q1J t.f_Book_init ["self","blocks","pages"]
aBJ:Fn1 K "mark" "Book.mark" q1K t.f_Book_mark ["self","name"]
aB0:Fn1 K "note" "Book.note" q1L t.f_Book_note ["self","page","name"]
oN:Fn1 K "forget" "Book.forget" zN t.f_Book_forget ["self","name"]
tO:Fn1 K "emptied" "Book.emptied" vU t.f_Book_emptied ["self","block"]
iO:Fn1 K "live_pages" "Book.live_pages" uO t.f_Book_live_pages ["self","block"]
aBO:Fn1 K "held" "Book.held" q1M t.f_Book_held ["self"]
aAW:Fn1 K "__init__" "Plain.__init__" q0S t.f_Plain_init ["self","chip","terms"]
iJ:Fn1 K "good" "Plain.good" q0T t.f_Plain_good ["self"]
oK:FuncData
aC4:FunT K "free" "Plain.free" jN t.aA9 t.f_Plain_free oK
tL:jL K oK ["self"] []
oJ:Fn1 K "part" "Plain.part" q0U t.f_Plain_part ["self"]
aA4:Fn1 K "spot" "Plain.spot" q0V t.f_Plain_spot ["self"]
aAD:Fn1 K "ready" "Plain.ready" zO t.f_Plain_ready ["self"]
i8:Fn1 K "set_down" "Plain.set_down" v4 t.f_Plain_set_down ["self","name","value"]
o8:Fn1 K "lay" "Plain.lay" q1N t.f_Plain_lay ["self","name","value"]
oP:Fn1 K "write" "Plain.write" zP t.f_Plain_write ["self","sheet","value"]
iH:Fn1 K "give_up" "Plain.give_up" vG t.f_Plain_give_up ["self","sheets"]
oG:Fn1 K "held" "Plain.held" q0W t.f_Plain_held ["self"]
eZ:Fn1 K "check_sheet" "Plain.check_sheet" yQ t.f_Plain_check_sheet ["self","sheet"]
fU:Fn1 K "check_share" "Plain.check_share" yR t.f_Plain_check_share ["self","sheet"]
aBF:Fn1 K "paper_of" "paper_of" q30 t.f_paper_of ["why","options","block","moved","wiped"]
tS:Fn1 K "__init__" "Store.__init__" q0X t.f_Store_init ["self","chip","terms","rule"]
iE:Fn1 K "reserve" "Store.reserve" vH t.f_Store_reserve ["self"]
aAE:Fn1 K "tally" "Store.tally" zQ t.f_Store_tally ["self","block"]
aAM:Fn1 K "space" "Store.space" zR t.f_Store_space ["self"]
fM:Fn1 K "full_ones" "Store.full_ones" uP t.f_Store_full_ones ["self"]
eE:Fn1 K "with_dead_page" "Store.with_dead_page" yE t.f_Store_with_dead_page ["self"]
iD:Fn1 K "options" "Store.options" vI t.f_Store_options ["self"]
oY:Fn1 K "choice" "Store.choice" vV t.f_Store_choice ["self"]
eA:Fn1 K "choice_by_rule" "Store.choice_by_rule" yF t.f_Store_choice_by_rule ["self","options"]
t9:Fn1 K "moved" "Store.moved" zS t.f_Store_moved ["self","block"]
fF:Fn1 K "value_to_move" "Store.value_to_move" yL t.f_Store_value_to_move ["self","page","name"]
aAK:Fn1 K "wiped" "Store.wiped" zT t.f_Store_wiped ["self","block"]
iR:Fn1 K "clear_out" "Store.clear_out" uQ t.f_Store_clear_out ["self","block"]
iQ:Fn1 K "make_room" "Store.make_room" uR t.f_Store_make_room ["self"]
fD:Fn1 K "make_ready" "Store.make_ready" u6 t.f_Store_make_ready ["self"]
iA:Fn1 K "make_rooms" "Store.make_rooms" u7 t.f_Store_make_rooms ["self"]
aA0:Fn1 K "least" "Even.least" q0Y t.f_Even_least ["self"]
fY:Fn1 K "clearable" "Even.clearable" v5 t.f_Even_clearable ["self","tallies"]
i4:Fn1 K "options" "Even.options" vW t.f_Even_options ["self"]
aAB:Fn1 K "choice" "Even.choice" zU t.f_Even_choice ["self"]
eL:FuncData
oU:FunT K "block_to_change" "Even.block_to_change" qR t.fT t.f_Even_block_to_change eL
oW:jL K eL ["self"] []
tF:Fn1 K "changes" "Even.changes" vX t.f_Even_changes ["self"]
aAH:Fn1 K "takers" "Even.takers" zV t.f_Even_takers ["self","moved"]
aBV:Fn1 K "limits_of" "limits_of" q1O t.f_limits_of ["ills","blocks"]
f6:FuncData
aC3:Value
aDS:FunD K "__init__" "Chip.__init__" uC aC3 t.f_Chip_init f6
aES:jL K f6 ["self","blocks","pages","most","ills"] []
tU:List Value
aEP:jL K f6 ["self","blocks","pages","most","ills"] tU
aEN:Vals [.non] tU
tX:List Value
aAT:jL K f6 ["self","blocks","pages","most","ills"] tX
aAO:Vals [.int 1000000,.non] tX
aCO:Fn1 K "put" "Chip.put" q31 t.f_Chip_put ["self","page","stuff"]
aBT:Fn1 K "wipe" "Chip.wipe" q1P t.f_Chip_wipe ["self","block"]
aBS:Fn1 K "read" "Chip.read" q1Q t.f_Chip_read ["self","page"]
oZ:Fn1 K "is_dark" "Chip.is_dark" vY t.f_Chip_is_dark ["self"]
f8:Fn1 K "cleared" "Chip.cleared" vZ t.f_Chip_cleared ["self","block"]
aAC:Fn1 K "failed" "Chip.failed" zW t.f_Chip_failed ["self","block"]
tR:Fn1 K "deeds" "Chip.deeds" q0Z t.f_Chip_deeds ["self"]
fK:Fn1 K "check_page" "Chip.check_page" uS t.f_Chip_check_page ["self","page"]
eQ:Fn1 K "check_block" "Chip.check_block" u8 t.f_Chip_check_block ["self","block"]
fE:Fn1 K "check_power" "Chip.check_power" u9 t.f_Chip_check_power ["self"]
fG:Fn1 K "check_deed" "Chip.check_deed" uT t.f_Chip_check_deed ["self","block"]
iG:Fn1 K "is_spent" "Chip.is_spent" vJ t.f_Chip_is_spent ["self","block"]
i5:Fn1 K "do_deed" "Chip.do_deed" zA t.f_Chip_do_deed ["self","word","place","block","fails"]
aAL:Fn1 K "is_unbeaten" "is_unbeaten" zX t.f_is_unbeaten ["rule","tally","tallies","pages","now"]
i7:Fn1 K "first_unbeaten" "first_unbeaten" v6 t.f_first_unbeaten ["rule","tallies","pages","now"]
iP:Fn1 K "goes_ahead" "Rule.goes_ahead" uU t.f_Rule_goes_ahead ["self","one","other","pages","now"]
fW:Fn1 K "choose" "Rule.choose" zY t.f_Rule_choose ["self","tallies","pages","now"]
fV:Fn1 K "goes_ahead" "Fewest.goes_ahead" yS t.f_Fewest_goes_ahead ["self","one","other","pages","now"]
fX:Fn1 K "goes_ahead" "Eldest.goes_ahead" yT t.f_Eldest_goes_ahead ["self","one","other","pages","now"]
iB:Fn1 K "goes_ahead" "Worth.goes_ahead" uA t.f_Worth_goes_ahead ["self","one","other","pages","now"]
fN:FuncData
aCP:Value
aC6:FunD K "__init__" "Terms.__init__" yP aCP t.f_Terms_init fN
aEQ:jL K fN ["self","blocks","pages","sheets","share","ill","spread"] []
tI:List Value
aCC:jL K fN ["self","blocks","pages","sheets","share","ill","spread"] tI
aB9:Vals [.int 1000000] tI
oX:List Value
aED:jL K fN ["self","blocks","pages","sheets","share","ill","spread"] oX
aEE:Vals [.int 0,.int 1000000] oX
tG:Fn1 K "closed" "Terms.closed" zB t.f_Terms_closed ["self"]
eO:Fn1 K "_law_cell_at" "_law_cell_at" zZ t.f_law_cell_at ["_law_script","_law_k"]
aBQ:Fn1 K "_law_shape" "_law_shape" q1R t.f_law_shape ["_law_script"]
aBR:Fn1 K "_law_sheet" "_law_sheet" q1S t.f_law_sheet ["_law_cell","_law_kept","_law_sheets","_law_share"]
aBD:Fn1 K "_law_rule" "_law_rule" q32 t.f_law_rule ["_law_cell"]
law:Fn1 K "law" "law" qF5 t.f_law ["_law_script"]
structure HkE where
P:Program
w:World
K:W.Frag
mg:Str→Option Value
t:Adr
noncomputable def hkB(e:HkE):Prop:=∃(S:Fns e.K e.t) (base:Heap),Txt e.K e.mg e.t∧BmIn base e.mg∧¬S.law.Ok0 e.P e.w e.mg base 18 (q43 e.K [e.t.bH,e.t.bI])
instance:Nonempty HkE:=⟨⟨PySem.Challenge.pw_wornpages_k48_no_spread,⟨λ_ _=>0,{ strHash:=λ_=>0,shareClass:=λ_=>0,mergeTok:=id,idOf:=λ_=>0,idOfShared:=λ_ _=>0,followText:=λ_=>false,idOfImm:=λ_=>0 }⟩,[],λ_=>none,by constructor<;>exact(0:Nat)⟩⟩
@[irreducible] noncomputable def hkE:HkE:=Classical.epsilon hkB
noncomputable def P:Program:=hkE.P
noncomputable def w:World:=hkE.w
noncomputable def K:W.Frag:=hkE.K
noncomputable def mg:Str→Option Value:=hkE.mg
noncomputable def t:Adr:=hkE.t
section
variable{base:Heap}
theorem q9M:FnScope ["thing"] ["thing"] (qE q2X):=qO (by decide+kernel)
theorem q8C:FnScope ["thing","low","high"] ["thing","low","high"] (qE q1I):=qO (by decide+kernel)
theorem q9N:FnScope ["blocks","pages"] ["blocks","pages"] (qE q2Y):=qO (by decide+kernel)
theorem q9O:FnScope ["thing"] ["thing"] (qE q2Z):=qO (by decide+kernel)
theorem qAU:FnScope ["stamp","name"] ["stamp","name"] (qE q45):=qO (by decide+kernel)
theorem q10:FnScope ["sheets","bits","sheet"] ["sheets"] (qE q46):=qO (by decide+kernel)
theorem q8D:FnScope ["self","blocks","pages"] ["self","blocks","pages"] (qE q1J):=qO (by decide+kernel)
theorem q8E:FnScope ["self","name"] ["self","name"] (qE q1K):=qO (by decide+kernel)
theorem q3P:FnScope ["self","page","name","block"] ["self","page","name"] (qE q1L):=qO (by decide+kernel)
theorem q1T:FnScope ["self","name","page"] ["self","name"] (qE zN):=qO (by decide+kernel)
theorem q4K:FnScope ["self","block"] ["self","block"] (qE vU):=qO (by decide+kernel)
theorem q33:FnScope ["self","block"] ["self","block"] (qE uO):=qO (by decide+kernel)
theorem q8F:FnScope ["self"] ["self"] (qE q1M):=qO (by decide+kernel)
theorem q6R:FnScope ["self","chip","terms"] ["self","chip","terms"] (qE q0S):=qO (by decide+kernel)
theorem q6S:FnScope ["self"] ["self"] (qE q0T):=qO (by decide+kernel)
theorem q2P:FnScope ["self","clear"] ["self"] (qE jN):=qO (by decide+kernel)
theorem q2Q:FnScope ["self","block"] ["self"] (qE q0U):=qO (by decide+kernel)
theorem q00:FnScope ["self","part","free"] ["self"] (qE q0V):=qO (by decide+kernel)
theorem q1U:FnScope ["self","spare"] ["self"] (qE zO):=qO (by decide+kernel)
theorem zI:FnScope ["self","name","value","page"] ["self","name","value"] (qE v4):=qO (by decide+kernel)
theorem q8G:FnScope ["self","name","value"] ["self","name","value"] (qE q1N):=qO (by decide+kernel)
theorem q63:FnScope ["self","sheet","value"] ["self","sheet","value"] (qE zP):=qO (by decide+kernel)
theorem yD:FnScope ["self","sheets","sheet","held","gone"] ["self","sheets"] (qE vG):=qO (by decide+kernel)
theorem q6T:FnScope ["self"] ["self"] (qE q0W):=qO (by decide+kernel)
theorem q1V:FnScope ["self","sheet"] ["self","sheet"] (qE yQ):=qO (by decide+kernel)
theorem vE:FnScope ["self","sheet","held"] ["self","sheet"] (qE yR):=qO (by decide+kernel)
theorem q9P:FnScope ["why","options","block","moved","wiped"] ["why","options","block","moved","wiped"] (qE q30):=qO (by decide+kernel)
theorem q6U:FnScope ["self","chip","terms","rule"] ["self","chip","terms","rule"] (qE q0X):=qO (by decide+kernel)
theorem q47:FnScope ["self"] ["self"] (qE vH):=qO (by decide+kernel)
theorem q64:FnScope ["self","block"] ["self","block"] (qE zQ):=qO (by decide+kernel)
theorem q1W:FnScope ["self","part"] ["self"] (qE zR):=qO (by decide+kernel)
theorem yG:FnScope ["self","space","full","tallies"] ["self"] (qE uP):=qO (by decide+kernel)
theorem q0C:FnScope ["self"] ["self"] (qE yE):=qO (by decide+kernel)
theorem q48:FnScope ["self"] ["self"] (qE vI):=qO (by decide+kernel)
theorem q16:FnScope ["self","options"] ["self"] (qE vV):=qO (by decide+kernel)
theorem q0D:FnScope ["self","options"] ["self","options"] (qE yF):=qO (by decide+kernel)
theorem uV:FnScope ["self","block","moves","page","name"] ["self","block"] (qE zS):=qO (by decide+kernel)
theorem q11:FnScope ["self","page","name"] ["self","page","name"] (qE yL):=qO (by decide+kernel)
theorem q65:FnScope ["self","block"] ["self","block"] (qE zT):=qO (by decide+kernel)
theorem q34:FnScope ["self","block"] ["self","block"] (qE uQ):=qO (by decide+kernel)
theorem jY:FnScope ["self","options","chosen","moved","wiped"] ["self"] (qE uR):=qO (by decide+kernel)
theorem q2G:FnScope ["self"] ["self"] (qE u6):=qO (by decide+kernel)
theorem q2H:FnScope ["self"] ["self"] (qE u7):=qO (by decide+kernel)
theorem q6V:FnScope ["self"] ["self"] (qE q0Y):=qO (by decide+kernel)
theorem zJ:FnScope ["self","tallies","bound"] ["self","tallies"] (qE v5):=qO (by decide+kernel)
theorem q4L:FnScope ["self"] ["self"] (qE vW):=qO (by decide+kernel)
theorem q1X:FnScope ["self","options"] ["self"] (qE zU):=qO (by decide+kernel)
theorem uD:FnScope ["self","tallies"] ["self"] (qE qR):=qO (by decide+kernel)
theorem q4M:FnScope ["self"] ["self"] (qE vX):=qO (by decide+kernel)
theorem q66:FnScope ["self","moved"] ["self","moved"] (qE zV):=qO (by decide+kernel)
theorem vO:FnScope ["ills","blocks","limits","block","deeds"] ["ills","blocks"] (qE q1O):=qO (by decide+kernel)
theorem q8H:FnScope ["self","blocks","pages","most","ills"] ["self","blocks","pages","most","ills"] (qE uC):=qO (by decide+kernel)
theorem q4F:FnScope ["self","page","stuff","block"] ["self","page","stuff"] (qE q31):=qO (by decide+kernel)
theorem vP:FnScope ["self","block","fails","first","page"] ["self","block"] (qE q1P):=qO (by decide+kernel)
theorem q8I:FnScope ["self","page"] ["self","page"] (qE q1Q):=qO (by decide+kernel)
theorem q4N:FnScope ["self"] ["self"] (qE vY):=qO (by decide+kernel)
theorem q4O:FnScope ["self","block"] ["self","block"] (qE vZ):=qO (by decide+kernel)
theorem q67:FnScope ["self","block"] ["self","block"] (qE zW):=qO (by decide+kernel)
theorem q6W:FnScope ["self"] ["self"] (qE q0Z):=qO (by decide+kernel)
theorem q35:FnScope ["self","page"] ["self","page"] (qE uS):=qO (by decide+kernel)
theorem q2I:FnScope ["self","block"] ["self","block"] (qE u8):=qO (by decide+kernel)
theorem q2J:FnScope ["self"] ["self"] (qE u9):=qO (by decide+kernel)
theorem q36:FnScope ["self","block"] ["self","block"] (qE uT):=qO (by decide+kernel)
theorem q49:FnScope ["self","block"] ["self","block"] (qE vJ):=qO (by decide+kernel)
theorem q4P:FnScope ["self","word","place","block","fails"] ["self","word","place","block","fails"] (qE zA):=qO (by decide+kernel)
theorem q1Y:FnScope ["rule","tally","tallies","pages","now","other"] ["rule","tally","tallies","pages","now"] (qE zX):=qO (by decide+kernel)
theorem uW:FnScope ["rule","tallies","pages","now","place"] ["rule","tallies","pages","now"] (qE v6):=qO (by decide+kernel)
theorem q37:FnScope ["self","one","other","pages","now"] ["self","one","other","pages","now"] (qE uU):=qO (by decide+kernel)
theorem q68:FnScope ["self","tallies","pages","now"] ["self","tallies","pages","now"] (qE zY):=qO (by decide+kernel)
theorem q1Z:FnScope ["self","one","other","pages","now"] ["self","one","other","pages","now"] (qE yS):=qO (by decide+kernel)
theorem q20:FnScope ["self","one","other","pages","now"] ["self","one","other","pages","now"] (qE yT):=qO (by decide+kernel)
theorem yU:FnScope ["self","one","other","pages","now","gain_of_one","gain_of_other"] ["self","one","other","pages","now"] (qE uA):=qO (by decide+kernel)
theorem q6X:FnScope ["self","blocks","pages","sheets","share","ill","spread"] ["self","blocks","pages","sheets","share","ill","spread"] (qE yP):=qO (by decide+kernel)
theorem q4Q:FnScope ["self"] ["self"] (qE zB):=qO (by decide+kernel)
theorem q69:FnScope ["_law_script","_law_k"] ["_law_script","_law_k"] (qE zZ):=qO (by decide+kernel)
theorem yH:FnScope ["_law_script","_law_pages","_law_closed","_law_ill","_law_share"] ["_law_script"] (qE q1R):=qO (by decide+kernel)
theorem q12:FnScope ["_law_cell","_law_kept","_law_sheets","_law_share","_law_sheet_here","_law_held"] ["_law_cell","_law_kept","_law_sheets","_law_share"] (qE q1S):=qO (by decide+kernel)
theorem q9Q:FnScope ["_law_cell"] ["_law_cell"] (qE q32):=qO (by decide+kernel)
theorem yV:FnScope ["_law_script","_law_blocks","_law_pages","_law_share","_law_ill","_law_terms","_law_chip","_law_other","_law_store","_law_even","_law_kept","_law_k","_law_cell","_law_sheet_here","_law_one","_law_two"] ["_law_script"] (qE qF5):=qO (by decide+kernel)
local macro_rules| `(tactic|walk_at "r")=>`(tactic|repeat (first|with_reducible refine⟨_,rfl,?_⟩|refine⟨_,rfl,?_⟩|refine(iI ?_)))
theorem q9R(T:Txt K mg t)(S:Fns K t):S.aCY.Ok0 P w mg base 1 qFP:=by(
refine S.aCY.F.ok0 q9M λcdv A _ s H vs Q E hr h=>?_
obtain⟨x,rfl,kn,k⟩:=h
refine⟨_,(qD (qN (q59 (jT q3I (by rfl) T.aA8 (by kernel_rfl) (qA (pv 0) (qA (qAX rfl T.aE0 (by kernel_rfl) rfl (v:=.ty "int")) qF))) (q2T (qCX (jT q3I (by rfl) T.aA8 (by kernel_rfl) (qA (pv 0) (qA (qAX rfl T.aEY (by kernel_rfl) rfl (v:=.ty "bool")) qF)))))))),?_⟩
try dsimp-beta-proj-iota-zeta-eta only[wishK,cxK]
obtain⟨ty,q,e1,e2,_⟩:=kn.ty (K:=K)
refine⟨_,rfl,x,_,_,ty,_,rfl,rfl,.inl q,e1,_,rfl,?_⟩
have z:=qIR x
cases qi:isI x with
|true=>rw[qi,kJ rfl]at z;refine iteT ?_;refine⟨_,rfl,x,_,_,ty,_,rfl,rfl,.inl q,e2,_,rfl,?_⟩;rw[z];exact k
|false=>rw[qi]at z;refine iteF ?_;have z':false=isW x:=z;rw[z'];exact k)
theorem jI(T:Txt K mg t)(S:Fns K t):S.eG.Ok0 P w mg base 2 qDM:=by(
refine S.eG.F.ok0 q8C λcdv A _ s H vs Q E hr h=>?_
obtain⟨x,lo,hi,rfl,kn,k⟩:=h
refine⟨_,(qD (qN (q59 (qX (q9R T S).mono hr rfl T.aDP T.aDQ S.aCY.b .nil qK (qA (pv 0) qF)) (q2T (qD3 qD1 qD1 (pv 1) (pv 0) (pv 2)))))),?_⟩
try dsimp-beta-proj-iota-zeta-eta only[wishK,cxK]
refine⟨_,rfl,x,rfl,kn,_,rfl,?_⟩
cases x with
|int i=>
 refine iteT ?_;refine⟨_,rfl,_,rfl,iI ⟨_,rfl,?_⟩⟩;have k':Q (V.bl (decide (lo≤i)&&decide (i≤hi))) H:=k;by_cases h1:lo≤i
 ·rw[hG h1]at k' ⊢;refine iteT ?_;exact⟨_,rfl,iI k'⟩
 rw[hX h1]at k' ⊢;refine iteF ?_;exact k'
|_=>exact iteF k)
theorem q4G(T:Txt K mg t)(S:Fns K t):S.aBE.Ok0 P w mg base 3 qFW:=by(
refine S.aBE.F.ok0 q9N λcdv A _ s H vs Q E hr h=>?_
obtain⟨x,y,rfl,kx,ky,k⟩:=h
refine⟨_,(qD (qN (q59 (qX (jI T S).mono hr rfl T.bX T.bW S.eG.b .nil qK (qA (pv 0) (qA qI (qA qI qF)))) (q2T (qX (jI T S).mono hr rfl T.bX T.bW S.eG.b .nil qK (qA (pv 1) (qA qI (qA qI qF)))))))),?_⟩
try dsimp-beta-proj-iota-zeta-eta only[wishK,cxK]
refine⟨_,rfl,x,_,_,rfl,kx,_,rfl,?_⟩
cases q:inB x 2 16 with
|true=>rw[q]at k;refine iteT ⟨_,rfl,y,_,_,rfl,ky,k⟩
|false=>rw[q]at k;exact iteF k)
structure Gd(m:CM):Prop where
br:∀b,m.br.getD b false=false
li:∀b,valV m.lim (Sum.inl b)=none
theorem inBi{v lo hi:Int}(h1:lo≤v)(h2:v≤hi):inB (.int v) lo hi=true:=by show(decide (lo≤v)&&decide (v≤hi))=true;rw[hG h1,hG h2];rfl
noncomputable def putC(m:CM)(p:Nat)(st:V):CM:={ m.deed "put" (p:Int) ((p:Int) / m.pg) false with bo:=m.bo.set p st }
noncomputable def wipC(m:CM)(b:Nat):CM:={ m.deed "wipe" (b:Int) (b:Int) false with bo:=clr m.bo ((b:Int)*m.pg).toNat m.pg.toNat,cl:=m.cl.set b (m.cl.getD b 0+1) }
noncomputable def spCP(t:Adr):Sp:=λvs H Q E=>∃c a m,∃p:Int,vs=[.ref c,.int p]∧ChipAt t.C_Chip H c a m∧m.Ok∧0≤p∧p≤m.bl*m.pg-1∧Q .non H
theorem zC(T:Txt K mg t)(S:Fns K t):S.fK.Ok0 P w mg base 3 (spCP t):=by(
refine S.fK.F.ok0 q35 λcdv A _ s H vs Q E hr h=>?_
obtain⟨c,a,m,p,rfl,hc,ok,p0,p1,q⟩:=h
refine⟨_,(qD (jE (uG (yK (qX (jI T S).mono hr rfl T.bX T.bW S.eG.b .nil qK (qA (pv 1) (qA qI (qA (qP yZ (qP uH (qJ (pv 0) rfl) (qJ (pv 0) rfl)) qI) qF)))))) (qD jD) qQ)),?_⟩
try dsimp-beta-proj-iota-zeta-eta only[wishK,cxK]
have b1:=ok.bl1
have b2:=ok.bl2
refine⟨_,rfl,iV rfl (iF hc.ins T.bL T.fA rfl (iV rfl (iF hc.ins T.bL T.eN rfl ?_)))⟩
refine(iI ⟨.inl ⟨by lia,by lia⟩,iI ⟨.int p,_,_,rfl,.int p,_,rfl,?_⟩⟩)
rw[inBi p0 p1]
exact iteF q)
noncomputable def spCB(t:Adr):Sp:=λvs H Q E=>∃c a m,∃p:Int,vs=[.ref c,.int p]∧ChipAt t.C_Chip H c a m∧0≤p∧p≤m.bl-1∧Q .non H
theorem yW(T:Txt K mg t)(S:Fns K t):S.eQ.Ok0 P w mg base 3 (spCB t):=by(
refine S.eQ.F.ok0 q2I λcdv A _ s H vs Q E hr h=>?_
obtain⟨c,a,m,p,rfl,hc,p0,p1,q⟩:=h
refine⟨_,(qD (jE (uG (yK (qX (jI T S).mono hr rfl T.bX T.bW S.eG.b .nil qK (qA (pv 1) (qA qI (qA (qP yZ (qJ (pv 0) rfl) qI) qF)))))) (qD jD) qQ)),?_⟩
try dsimp-beta-proj-iota-zeta-eta only[wishK,cxK]
refine⟨_,rfl,iV rfl (iF hc.ins T.bL T.fA rfl (iI ⟨.int p,_,_,rfl,.int p,_,rfl,?_⟩))⟩
rw[inBi p0 p1]
exact iteF q)
noncomputable def spID(t:Adr):Sp:=λvs H Q E=>∃c a m,vs=[.ref c]∧ChipAt t.C_Chip H c a m∧Q (.bl (decide (m.lf=some 0))) H
theorem q4R(T:Txt K mg t)(S:Fns K t):S.oZ.Ok0 P w mg base 1 (spID t):=by(
refine S.oZ.F.ok0 q4N λcdv A _ s H vs Q E hr h=>?_
obtain⟨c,a,m,rfl,hc,q⟩:=h
refine⟨_,(qD (qN (v7 q04 (qJ (pv 0) rfl) qI (qT _)))),?_⟩
try dsimp-beta-proj-iota-zeta-eta only[wishK,cxK]
refine⟨_,rfl,c,_,a.dx,_,_,rfl,hc.ins,T.bL,T.eT,rfl,qFV,?_⟩
rw[lf0]
exact q)
noncomputable def spPW(t:Adr):Sp:=λvs H Q E=>∃c a m,vs=[.ref c]∧ChipAt t.C_Chip H c a m∧(if m.lf=some 0 then E (.ref t.C_PowerGone) none H else Q .non H)
theorem vL(T:Txt K mg t)(S:Fns K t):S.fE.OkE P w mg base 2 (spPW t):=by(
refine S.fE.F.okE q2J (λvs H Q E h=>?_) (λcdv A outer s H vs Q E hr h=>?_)
·repeat obtain⟨_,h⟩:=h
 all_goals subst_vars;rfl
obtain⟨c,a,m,rfl,hc,q⟩:=h
refine⟨_,(qD (jE (yK (qU (pv 0) T.bL T.aB3 (q4R T S).mono hr S.oZ.b .nil qK)) (qD (q5M j9 rfl rfl T.aC5 T.aDY (qA q19 qF))) qQ)),?_⟩
try dsimp-beta-proj-iota-zeta-eta only[wishK,cxK]
refine(iV rfl (iM hc.ins rfl ⟨c,a,m,rfl,hc,_,rfl,?_⟩))
by_cases z:m.lf=some 0
·rw[kJ z]at q;rw[hG z];exact iteT ⟨sz1,q⟩
rw[kF z]at q
rw[hX z]
exact iteF q)
noncomputable def spCD(t:Adr):Sp:=λvs H Q E=>∃c a m b,vs=[.ref c,.int b]∧ChipAt t.C_Chip H c a m∧m.Ok∧Gd m∧0≤b∧b<m.bl∧(if m.lf=some 0 then E (.ref t.C_PowerGone) none H else Q .non H)
theorem zD(T:Txt K mg t)(S:Fns K t):S.fG.OkE P w mg base 3 (spCD t):=by(
refine S.fG.F.okE q36 (λvs H Q E h=>?_) (λcdv A outer s H vs Q E hr h=>?_)
·repeat obtain⟨_,h⟩:=h
 all_goals subst_vars;rfl
obtain⟨c,a,m,b,rfl,hc,ok,g,b0,b1,q⟩:=h
refine⟨_,(qB (qY (uB j9 (pv 0) T.bL T.iX (vL T S).mono hr S.fE.b .nil)) (qD (jE (yK (jA jQ (qJ (pv 0) rfl) (pv 1) (λ_ _=>rfl))) (qD jD) qQ))),?_⟩
try dsimp-beta-proj-iota-zeta-eta only[wishK,cxK]
have nb:=ok.nbr
refine(iV rfl (iM hc.ins rfl ⟨c,a,m,rfl,hc,?_⟩))
split
·rename_i z;rw[kJ z]at q;exact q
rename_i z
rw[kF z]at q
refine(iV rfl (iF hc.ins T.bL T.i6 rfl ⟨_,rfl,iL (k:=b) (v:=_) (SqL.of hc.br) (getB b0 (by lia)) ⟨_,rfl,?_⟩⟩))
rw[g.br]
exact iteF q)
noncomputable def spIS(t:Adr):Sp:=λvs H Q E=>∃c a m b,vs=[.ref c,.int b]∧ChipAt t.C_Chip H c a m∧Gd m∧Q (.bl false) H
theorem q0E(T:Txt K mg t)(S:Fns K t):S.iG.Ok0 P w mg base 1 (spIS t):=by(
refine S.iG.F.ok0 q49 λcdv A _ s H vs Q E hr h=>?_
obtain⟨c,a,m,b,rfl,hc,g,q⟩:=h
have hu:=q5L hr
refine⟨_,(qD (qN (q59 (qHV (qA8 hu (pv 1) (qJ (pv 0) rfl))) (q2T (v7 qB2 (jA jQ (qJ (pv 0) rfl) (pv 1) (λ_ _=>rfl)) (qFO hu (qJ (pv 0) rfl) (pv 1) (λ_ _=>rfl)) (qT _)))))),?_⟩
try dsimp-beta-proj-iota-zeta-eta only[wishK,cxK]
refine⟨_,rfl,iV rfl (iF hc.ins T.bL T.tW rfl ⟨a.li,_,rfl,DGet.k (k:=Sum.inl b) hc.li,_,rfl,?_⟩)⟩
rw[g.li]
exact iteF q)
noncomputable def spDD(t:Adr):Sp:=λvs H Q E=>∃c a m w pl b,vs=[.ref c,.str w,.int pl,.int b,.bl false]∧ChipAt t.C_Chip H c a m∧m.Ok∧m.rc.length<1000000∧0≤b∧b<m.bl∧∀H',ChipAt t.C_Chip H' c a (m.deed w pl b false)→Keep (foot c a) H H'→Q .non H'
theorem q17(T:Txt K mg t)(S:Fns K t):S.i5.Ok0 P w mg base 3 (spDD t):=by(
refine S.i5.F.ok0 q4P λcdv A _ s H vs Q E hr h=>?_
obtain⟨c,a,m,w,pl,b,rfl,hc,ok,hr1,b0,b1,q⟩:=h
refine⟨_,(q4Z (jE (qS q4W (qJ (pv 0) rfl) uY (qT _)) (qD (q78 (pv 0) qI qI2)) qQ) (qB (q3D (qJ (pv 0) rfl) (pv 3) q1C qI q5B yX) (qB (qY (qDE cW cN cO q29 (qJ (pv 0) rfl) (qA (uJ (qA (pv 1) (qA (pv 2) (qA (qCX (pv 4)) qF)))) qF q5N))) (qD (jE (yK (pv 4)) (qB jD (qD jD)) qQ))))),?_⟩
try dsimp-beta-proj-iota-zeta-eta only[wishK,cxK]
have nd:=ok.ndc
refine⟨λσ' H1=>σ'=[some (.ref c),some (.str w),some (.int pl),some (.int b),some (.bl false)]∧ChipAt t.C_Chip H1 c a { m with lf:=m.lf.map (· - 1) }∧Keep (foot c a) H H1,?_,?_⟩
·refine⟨_,rfl,c,_,a.dx,_,_,rfl,hc.ins,T.bL,T.eT,rfl,rfl,_,rfl,?_⟩;cases hl:m.lf with
 |none=>refine iteF ⟨rfl,?_,Keep.refl⟩;show ChipAt t.C_Chip H c a { m with lf:=none };rw[←hl];exact hc
 |some i=>refine iteT ?_;refine⟨_,rfl,c,_,a.dx,_,_,rfl,hc.ins,T.bL,T.eT,(by unfold chF;rw[hl];rfl),iI ⟨a.dx,_,hc.ins,by show 10<1000;decide,?_⟩⟩;refine⟨rfl,hc.setLf (some (i-1)),Keep.upd hc.ins (λ_ z=>by cases z) (by simp[foot])⟩
rintro _ H1 ⟨rfl,hc1,k1⟩
refine(iV rfl (iF hc1.ins T.bL T.iN rfl ⟨_,rfl,iL (k:=b) (v:=_) (SqL.of hc1.dc) (getI b0 (by show b<(m.dc.length:Int);lia)) (iI ⟨a.dc,_,b,b.toNat,rfl,rfl,hc1.dc,by rw[kB];exact ixOk b0 (by show b<(m.dc.length:Int);lia),?_⟩)⟩))
rw[←xN]
have hc2:=hc1.setDc (m.dc.set b.toNat (m.dc.getD b.toNat 0+1))
have k2:Keep (foot c a) H (upd H1 a.dc (.lst ((m.dc.set b.toNat (m.dc.getD b.toNat 0+1)).map V.int))):=k1.trans (Keep.upd hc1.dc (λ_ z=>by cases z) (by simp[foot]))
generalize upd H1 a.dc (.lst ((m.dc.set b.toNat (m.dc.getD b.toNat 0+1)).map V.int))=H2 at hc2 k2 ⊢
obtain⟨rs,er,pr⟩:=hc2.rc
have ln:rs.length≤1000000:=by rw[pr.len];exact pT hr1
refine(iV rfl (iF hc2.ins T.bL T.oA rfl ⟨.inl ⟨rfl,_,SqL.of er⟩,_,rfl,_,rfl,_,rfl,_,rfl,sz3,λp H3 np sm hp=>?_⟩))
have er3:=sm _ _ er
refine⟨a.rc,rs,_,rfl,rfl,er3,rJ ln (by decide),?_⟩
exact⟨_,rfl,_,rfl,iteF (q _ ((hc2.same sm).addRc (d:=(w,pl,!false)) er3 hp) ((k2.trans (Keep.same sm)).trans (Keep.upd (o:=.lst (rs++[.ref p])) er3 (λ_ z=>by cases z) (by simp[foot]))))⟩)
noncomputable def qKP(t:Adr):Sp:=λvs H Q E=>∃c a m,∃p:Nat,∃st,vs=[.ref c,.int (p:Int),st]∧ChipAt t.C_Chip H c a m∧m.Ok∧m.rc.length<1000000∧Gd m∧(p:Int)≤m.bl*m.pg-1∧m.bo.getD p .non=.non∧(m.lf=some 0→E (.ref t.C_PowerGone) none H)∧(m.lf≠some 0→∀H',ChipAt t.C_Chip H' c a (putC m p st)→Keep (foot c a) H H'→Q .non H')
theorem q9S(T:Txt K mg t)(S:Fns K t):S.aCO.OkE P w mg base 4 (qKP t):=by(
refine S.aCO.F.okE q4F (λvs H Q E h=>?_) (λcdv A outer s H vs Q E hr h=>?_)
·repeat obtain⟨_,h⟩:=h
 all_goals subst_vars;rfl
obtain⟨c,a,m,p,st,rfl,hc,ok,hr1,g,p1,hw,dk,q⟩:=h
refine⟨_,(qB (qY (qV (pv 0) T.bL T.oH (zC T S).mono hr S.fK.b .nil qK (qA (pv 1) qF))) (qB (qW (i:=3) q4F.nd rfl (Or.inl rfl) (qP q3E (pv 1) (qJ (pv 0) rfl))) (qB (qY (jO j9 (pv 0) T.bL T.oF (zD T S).mono hr S.fG.b .nil (qA (pv 3) qF))) (qB (jE (qS q4W (jA jQ (qJ (pv 0) rfl) (pv 1) (λ_ _=>rfl)) uY (qT _)) (qD jD) qQ) (qB (qY (qV (pv 0) T.bL T.t7 (q17 T S).mono hr S.i5.b .nil qK (qA q19 (qA (pv 1) (qA (pv 3) (qA (qV (pv 0) T.bL T.tN (q0E T S).mono hr S.iG.b .nil qK (qA (pv 3) qF)) qF)))))) (qD (q3U (pv 2) (q5A (qJ (pv 0) rfl) (pv 1) yX)))))))),?_⟩
try dsimp-beta-proj-iota-zeta-eta only[wishK,cxK]
have pg1:=ok.pg1
have pg2:=ok.pg2
have nbo:=ok.nbo
have p0:(0:Int)≤p:=by lia
obtain⟨b0,b1⟩:=qIV ok p0 p1
refine(iV rfl (iM hc.ins rfl ⟨_,rfl,c,a,m,p,rfl,hc,ok,p0,p1,?_⟩))
refine⟨_,rfl,iV rfl (iF hc.ins T.bL T.eN rfl (iI ⟨⟨by lia,by lia⟩,?_⟩))⟩
refine(iV rfl (iM hc.ins rfl ⟨_,rfl,c,a,m,_,rfl,hc,ok,g,b0,b1,?_⟩))
by_cases z:m.lf=some 0
·rw[kJ z];exact dk z
rw[kF z]
have q:=q z
refine(iV rfl (iF hc.ins T.bL T.fI rfl ⟨_,rfl,iL (k:=p) (v:=_) (SqL.of hc.bo) (getV p0 (by lia)) ⟨rfl,_,rfl,?_⟩⟩))
rw[mQ,hG hw]
refine iteF ?_
refine(iV rfl (iM hc.ins rfl ⟨_,rfl,_,rfl,iV rfl (iM hc.ins rfl ⟨_,rfl,c,a,m,_,rfl,hc,g,?_⟩)⟩))
refine⟨c,a,m,"put",p,_,rfl,hc,ok,hr1,b0,b1,λH' hc' k'=>?_⟩
refine⟨_,rfl,iV rfl (iF hc'.ins T.bL T.fI rfl ⟨_,rfl,a.bo,_,p,p,rfl,rfl,hc'.bo,ixOk p0 (by show(p:Int)<(m.bo.length:Int);lia),?_⟩)⟩
exact q _ (hc'.setBo (m.bo.set p st)) (k'.trans (Keep.upd hc'.bo (λ_ z=>by cases z) (by simp[foot]))))
noncomputable def qJJ(t:Adr):Sp:=λvs H Q E=>∃c a m,∃p:Int,vs=[.ref c,.int p]∧ChipAt t.C_Chip H c a m∧m.Ok∧0≤p∧p≤m.bl*m.pg-1∧(m.lf=some 0→E (.ref t.C_PowerGone) none H)∧(m.lf≠some 0→Q (m.bo.getD p.toNat .non) H)
theorem q8J(T:Txt K mg t)(S:Fns K t):S.aBS.OkE P w mg base 4 (qJJ t):=by(
refine S.aBS.F.okE q8I (λvs H Q E h=>?_) (λcdv A outer s H vs Q E hr h=>?_)
·repeat obtain⟨_,h⟩:=h
 all_goals subst_vars;rfl
obtain⟨c,a,m,p,rfl,hc,ok,p0,p1,dk,q⟩:=h
refine⟨_,(qB (qY (qV (pv 0) T.bL T.oH (zC T S).mono hr S.fK.b .nil qK (qA (pv 1) qF))) (qB (qY (uB j9 (pv 0) T.bL T.iX (vL T S).mono hr S.fE.b .nil)) (qD (qN (jA jQ (qJ (pv 0) rfl) (pv 1) (λ_ _=>rfl)))))),?_⟩
try dsimp-beta-proj-iota-zeta-eta only[wishK,cxK]
have nbo:=ok.nbo
refine(iV rfl (iM hc.ins rfl ⟨_,rfl,c,a,m,p,rfl,hc,ok,p0,p1,iV rfl (iM hc.ins rfl ⟨c,a,m,rfl,hc,?_⟩)⟩))
by_cases z:m.lf=some 0
·rw[kJ z];exact dk z
rw[kF z]
exact(iV rfl (iF hc.ins T.bL T.fI rfl ⟨_,rfl,iL (k:=p) (v:=_) (SqL.of hc.bo) (getV p0 (by lia)) (q z)⟩)))
noncomputable def spCl(t:Adr):Sp:=λvs H Q E=>∃c a m b,vs=[.ref c,.int b]∧ChipAt t.C_Chip H c a m∧m.Ok∧0≤b∧b≤m.bl-1∧Q (.int (m.cl.getD b.toNat 0)) H
theorem vK(T:Txt K mg t)(S:Fns K t):S.f8.Ok0 P w mg base 4 (spCl t):=by(
refine S.f8.F.ok0 q4O λcdv A _ s H vs Q E hr h=>?_
obtain⟨c,a,m,b,rfl,hc,ok,b0,b1,q⟩:=h
refine⟨_,(qB (qY (qV (pv 0) T.bL T.fH (yW T S).mono hr S.eQ.b .nil qK (qA (pv 1) qF))) (qD (qN (jA jQ (qJ (pv 0) rfl) (pv 1) (λ_ _=>rfl))))),?_⟩
try dsimp-beta-proj-iota-zeta-eta only[wishK,cxK]
have n:=ok.ncl
exact(iV rfl (iM hc.ins rfl ⟨_,rfl,c,a,m,b,rfl,hc,b0,b1,iV rfl (iF hc.ins T.bL T.eW rfl ⟨_,rfl,iL (k:=b) (v:=_) (SqL.of hc.cl) (getI b0 (by lia)) q⟩)⟩)))
noncomputable def spFa(t:Adr):Sp:=λvs H Q E=>∃c a m b,vs=[.ref c,.int b]∧ChipAt t.C_Chip H c a m∧m.Ok∧0≤b∧b≤m.bl-1∧Q (.bl (m.br.getD b.toNat false)) H
theorem q6A(T:Txt K mg t)(S:Fns K t):S.aAC.Ok0 P w mg base 4 (spFa t):=by(
refine S.aAC.F.ok0 q67 λcdv A _ s H vs Q E hr h=>?_
obtain⟨c,a,m,b,rfl,hc,ok,b0,b1,q⟩:=h
refine⟨_,(qB (qY (qV (pv 0) T.bL T.fH (yW T S).mono hr S.eQ.b .nil qK (qA (pv 1) qF))) (qD (qN (jA jQ (qJ (pv 0) rfl) (pv 1) (λ_ _=>rfl))))),?_⟩
try dsimp-beta-proj-iota-zeta-eta only[wishK,cxK]
have n:=ok.nbr
exact(iV rfl (iM hc.ins rfl ⟨_,rfl,c,a,m,b,rfl,hc,b0,b1,iV rfl (iF hc.ins T.bL T.i6 rfl ⟨_,rfl,iL (k:=b) (v:=_) (SqL.of hc.br) (getB b0 (by lia)) q⟩)⟩)))
noncomputable def spDe(t:Adr):Sp:=λvs H Q E=>∃c a m,vs=[.ref c]∧ChipAt t.C_Chip H c a m∧∀rs,H a.rc=some (.lst rs)→Recd H rs m.rc→NewO H (.lst rs) Q
theorem q2R(T:Txt K mg t)(S:Fns K t):S.tR.Ok0 P w mg base 1 (spDe t):=by(
refine S.tR.F.ok0 q6W λcdv A _ s H vs Q E hr h=>?_
obtain⟨c,a,m,rfl,hc,q⟩:=h
refine⟨_,(qD (qN (q3W zM (by rfl) T.aD9 (by kernel_rfl) (qA (qJ (pv 0) rfl) qF)))),?_⟩
try dsimp-beta-proj-iota-zeta-eta only[wishK,cxK]
obtain⟨rs,er,pr⟩:=hc.rc
exact(iV rfl (iF hc.ins T.bL T.oA rfl ⟨a.rc,rs,rfl,.inl (SqL.of er),q rs er pr⟩)))
noncomputable def qJK(t:Adr):Sp:=λvs H Q E=>∃c a m,∃b:Nat,vs=[.ref c,.int (b:Int)]∧ChipAt t.C_Chip H c a m∧m.Ok∧m.rc.length<1000000∧Gd m∧(b:Int)≤m.bl-1∧m.cl.getD b 0<m.mo∧(m.lf=some 0→E (.ref t.C_PowerGone) none H)∧(m.lf≠some 0→∀H',ChipAt t.C_Chip H' c a (wipC m b)→Keep (foot c a) H H'→Q .non H')
theorem q8K(T:Txt K mg t)(S:Fns K t):S.aBT.OkE P w mg base 4 (qJK t):=by(
refine S.aBT.F.okE vP (λvs H Q E h=>?_) (λcdv A outer s H vs Q E hr h=>?_)
·repeat obtain⟨_,h⟩:=h
 all_goals subst_vars;rfl
obtain⟨c,a,m,b,rfl,hc,ok,hr1,g,b1,hm,dk,q⟩:=h
refine⟨_,(qB (qY (qV (pv 0) T.bL T.fH (yW T S).mono hr S.eQ.b .nil qK (qA (pv 1) qF))) (qB (qY (jO j9 (pv 0) T.bL T.oF (zD T S).mono hr S.fG.b .nil (qA (pv 1) qF))) (qB (qW (i:=2) vP.nd rfl (Or.inl rfl) (qH9 (qV (pv 0) T.bL T.tN (q0E T S).mono hr S.iG.b .nil qK (qA (pv 1) qF)) (q2T (v7 qB2 (jA jQ (qJ (pv 0) rfl) (pv 1) (λ_ _=>rfl)) (qJ (pv 0) rfl) (qT _))))) (qB (qY (qV (pv 0) T.bL T.t7 (q17 T S).mono hr S.i5.b .nil qK (qA q19 (qA (pv 1) (qA (pv 1) (qA (pv 2) qF)))))) (qB (qW (i:=3) vP.nd rfl (Or.inl rfl) (qP uH (pv 1) (qJ (pv 0) rfl))) (qB (zL cA rfl (q75 rfl T.aDV (qA (pv 3) (qA (qP uZ (pv 3) (qJ (pv 0) rfl)) qF))) (qZ (i:=4) vP.nd rfl (Or.inl rfl)) (qD (q3U uY (q5A (qJ (pv 0) rfl) (pv 4) yX)))) (qD (q3D (qJ (pv 0) rfl) (pv 1) q1C qI q5B yX)))))))),?_⟩
try dsimp-beta-proj-iota-zeta-eta only[wishK,cxK]
have b0:(0:Int)≤b:=by lia
have pg1:=ok.pg1
have pg2:=ok.pg2
have bl1:=ok.bl2
have nbo:=ok.nbo
have ncl:=ok.ncl
refine(iV rfl (iM hc.ins rfl ⟨_,rfl,c,a,m,b,rfl,hc,b0,b1,?_⟩))
refine(iV rfl (iM hc.ins rfl ⟨_,rfl,c,a,m,b,rfl,hc,ok,g,b0,by lia,?_⟩))
by_cases z:m.lf=some 0
·rw[kJ z];exact dk z
rw[kF z]
have q:=q z
refine(iV rfl (iM hc.ins rfl ⟨_,rfl,c,a,m,b,rfl,hc,g,_,rfl,iteF ?_⟩))
refine(iV rfl (iF hc.ins T.bL T.eW rfl ⟨_,rfl,iL (k:=b) (v:=_) (SqL.of hc.cl) (getI b0 (by lia)) (iV rfl (iF hc.ins T.bL T.aA7 rfl (iI ?_)))⟩))
show q2N 2 (V.bl (decide (m.mo≤m.cl.getD b 0))) _ _ _
rw[hX (by lia)]
refine(iV rfl (iM hc.ins rfl ⟨_,rfl,_,rfl,_,rfl,c,a,m,"wipe",b,b,rfl,hc,ok,hr1,b0,by lia,λH' hc' k'=>?_⟩))
have bp:b*m.pg+m.pg≤m.bl*m.pg:=by have:=pG (show(b:Int)+1≤m.bl by lia) (show 0≤m.pg by lia);rw[Int.add_mul,Int.one_mul]at this;exact this
have bq:0≤b*m.pg:=lD b0 (by lia)
have bmax:m.bl*m.pg≤256:=by have:=aM bl1 pg2 (by lia) (by decide);lia
refine⟨_,rfl,_,rfl,c,_,a.dx,_,.int m.pg,rfl,hc'.ins,T.bL,T.eN,rfl,iI ⟨.inl ⟨by lia,by lia⟩,?_⟩⟩
refine⟨_,rfl,_,rfl,_,rfl,c,_,a.dx,_,.int m.pg,rfl,hc'.ins,T.bL,T.eN,rfl,iI ⟨_,_,rfl,⟨by lia,by lia,by lia,by lia⟩,?_⟩⟩
refine q76 (λi σ' H1=>∃y,σ'=[some (.ref c),some (.int b),some (.bl false),some (.int (b*m.pg)),y]∧ChipAt t.C_Chip H1 c a { m.deed "wipe" b b false with bo:=clr m.bo (b*m.pg).toNat i }∧Keep (foot c a) H H1) ⟨_,rfl,hc',k'⟩ (λi σ' H1 hi hp=>?_) (λσ' H1 hp=>?_)
·obtain⟨y,rfl,h1,k1⟩:=hp;have hi':(i:Int)<m.pg:=by have:i<(b*m.pg+m.pg-b*m.pg).toNat:=hi;lia
 refine(iV rfl (iF h1.ins T.bL T.fI rfl ⟨_,rfl,a.bo,_,_,(b*m.pg+i).toNat,rfl,rfl,h1.bo,ixOk (by lia) (by rw[q4Y];lia),?_⟩));have e:(b*m.pg+(i:Int)).toNat=(b*m.pg).toNat+i:=by lia
 rw[e];exact⟨_,rfl,h1.setBo _,k1.trans (Keep.upd h1.bo (λ_ z=>by cases z) (by simp[foot]))⟩
obtain⟨y,rfl,h1,k1⟩:=hp
have e:(b*m.pg+m.pg-b*m.pg).toNat=m.pg.toNat:=by lia
rw[e]at h1
refine(iV rfl (iF h1.ins T.bL T.eW rfl ⟨_,rfl,iL (k:=b) (v:=_) (SqL.of h1.cl) (getI b0 (by show(b:Int)<(m.cl.length:Int);lia)) (iI ⟨a.cl,_,b,b,rfl,rfl,h1.cl,by rw[kB];exact ixOk b0 (by show(b:Int)<(m.cl.length:Int);lia),?_⟩)⟩))
rw[←xN]
exact q _ (h1.setCl _) (k1.trans (Keep.upd h1.cl (λ_ z=>by cases z) (by simp[foot]))))
noncomputable def qKQ(K:W.Frag):Sp:=λvs H Q E=>∃l bl,vs=[.ref l,.int bl]∧SqL K H l []∧NewO H (.dK []) Q
theorem q8L(T:Txt K mg t)(S:Fns K t):S.aBV.Ok0 P w mg base 3 (qKQ K):=by(
refine S.aBV.F.ok0 vO λcdv A _ s H vs Q E hr h=>?_
obtain⟨l,bl,rfl,sq,q⟩:=h
refine⟨_,(qB (qW (i:=2) vO.nd rfl (Or.inl rfl) q5K) (qB (zL rU rfl (y8 (pv 0)) (q7U rfl (yI (qZ (i:=3) vO.nd rfl (Or.inl rfl)) (yI (qZ (i:=4) vO.nd rfl (Or.inl rfl)) q3C))) (qB jD (qB jD (qB jD (qD jD))))) (qD (qN (pv 2))))),?_⟩
try dsimp-beta-proj-iota-zeta-eta only[wishK,cxK]
refine λp np=>?_
have s0:Same H (upd H p (.dK [])):=Same.upd np
refine⟨_,rfl,l,rfl,⟨[],s0.seq sq⟩,vR (K:=K) (xs:=[]) (λ_ σ' H1=>(∃y z,σ'=[some (.ref l),some (.int bl),some (.ref p),y,z])∧H1=upd H p (.dK [])) ⟨⟨_,_,rfl⟩,rfl⟩ (λi σ' H1 _ hp=>by rw[hp.2];exact s0.seq sq) (λi x σ' H1 hx _=>by simp at hx) (λσ' H1 hp=>?_)⟩
obtain⟨⟨y,z,rfl⟩,rfl⟩:=hp
exact⟨_,rfl,q p _ np s0 qG⟩)
structure Wm(C x dx:Addr)(H G:Hp)(fs:List (Str×V))(os:List (Addr×HO)):Prop where
i:G x=some (.ins C dx fs)
u:Up x H G
o:∀p∈os,G p.1=some p.2∧H p.1=none∧p.1≠x
n:(os.map (·.1)).Nodup
section
variable{C x dx:Addr}{H G B:Hp}{fs fs':List (Str×V)}{os:List (Addr×HO)}
theorem Wm.same(h:Wm C x dx H G fs os)(s:Same G B):Wm C x dx H B fs os:=⟨s _ _ h.i,λb o n e=>s _ _ (h.u b o n e),λp hp=>⟨s _ _ (h.o p hp).1,(h.o p hp).2⟩,h.n⟩
theorem Wm.add(h:Wm C x dx H G fs os){a:Addr}{o:HO}(na:G a=none)(s:Same G B)(e:B a=some o):Wm C x dx H B fs (os++[(a,o)]):=by(
have ax:a≠x:=λz=>by rw[z,h.i]at na;cases na
have w:=h.same s
refine⟨w.i,w.u,λp hp=>?_,?_⟩
·rcases gF.mp hp with hp|hp
 ·exact w.o p hp
 rw[h9.mp hp];exact⟨e,Up.free h.u ax na,ax⟩
rw[m8]
refine wY.mpr ⟨h.n,by simp,λb hb c hc=>?_⟩
obtain⟨p,hp,rfl⟩:=kZ.mp hb
obtain rfl:c=a:=by simpa using hc
exact qH (h.o p hp).1 na)
theorem Wm.set(h:Wm C x dx H G fs os):Wm C x dx H (upd G x (.ins C dx fs')) fs' os:=⟨qG,λb o n e=>by rw[qC n];exact h.u b o n e,λp hp=>⟨by rw[qC (h.o p hp).2.2];exact(h.o p hp).1,(h.o p hp).2⟩,h.n⟩
theorem Wm.fr(h:Wm C x dx H G fs os)(a:Addr)(ha:a∈os.map (·.1)):H a=none:=by obtain⟨p,hp,rfl⟩:=kZ.mp ha;exact(h.o p hp).2.1
theorem Wm.put(h:Wm C x dx H G fs os)(f:Str)(v:V):Wm C x dx H (upd G x (.ins C dx (putF f v fs))) (putF f v fs) os:=h.set
end
noncomputable def spMk(t:Adr):Sp:=λvs H Q E=>∃x dx,∃b p m:Int,vs=[.ref x,.int b,.int p,.int m,.non]∧H x=some (.ins t.C_Chip dx [])∧2≤b∧b≤16∧1≤p∧p≤16∧0≤m∧m≤1000000∧∀a H',ChipAt t.C_Chip H' x a (CM.new b p m [])→(∀b∈[a.li,a.bo,a.cl,a.dc,a.br,a.rc],H b=none)→Up x H H'→Q .non H'
theorem q3Q(T:Txt K mg t)(S:Fns K t):FnOk P w K mg base (CX0) 4 t.f_Chip_init S.f6 ["self","blocks","pages","most","ills"] (spMk t):=by(
refine S.aDS.ok0 q8H λcdv A _ s H vs Q E hr h=>?_
obtain⟨x,dx,b,p,m,rfl,hx,b1,b2,p1,p2,m1,m2,q⟩:=h
refine⟨_,(qB (jE (uG (yK (qX (q4G T S).mono hr rfl T.aBU T.aBX S.aBE.b .nil qK (qA (pv 1) (qA (pv 2) qF))))) (qD jD) qQ) (qB (jE (uG (yK (qX (jI T S).mono hr rfl T.bX T.bW S.eG.b .nil qK (qA (pv 3) (qA qI (qA (q27 rfl T.aA6 ⟨_,rfl⟩ (v:=.int 1000000)) qF)))))) (qD jD) qQ) (qB (jJ (pv 0) (pv 1) rfl) (qB (jJ (pv 0) (pv 2) rfl) (qB (jJ (pv 0) (pv 3) rfl) (qB (jJ (pv 0) (qX (q8L T S).mono hr rfl T.aDG T.aCZ S.aBV.b .nil qK (qA (qCY (qS qA2 (pv 4) uY (qT _)) (jR qF) (pv 4)) (qA (pv 1) qF))) rfl) (qB (jJ (pv 0) (qP q0N (jR (qA uY qF)) (qP uH (pv 1) (pv 2))) rfl) (qB (jJ (pv 0) (qP q0N (jR (qA qI qF)) (pv 1)) rfl) (qB (jJ (pv 0) (qP q0N (jR (qA qI qF)) (pv 1)) rfl) (qB (jJ (pv 0) (qP q0N (jR (qA q2M qF)) (pv 1)) rfl) (qB (jJ (pv 0) uY rfl) (qD (jJ (pv 0) (jR qF) rfl))))))))))))),?_⟩
try dsimp-beta-proj-iota-zeta-eta only[wishK,cxK]
refine⟨_,rfl,_,rfl,.int b,.int p,rfl,.int b,.int p,_,rfl,?_⟩
rw[inBi b1 b2,inBi p1 p2]
refine iteF ?_
refine⟨_,rfl,.int m,_,_,rfl,.int m,_,rfl,?_⟩
rw[inBi m1 m2]
refine iteF ?_
have bp:b*p≤256:=aM b2 p2 (by lia) (by decide)
have bp0:0≤b*p:=lD (by lia) (by lia)
refine⟨_,rfl,_,rfl,x,_,dx,_,rfl,hx,T.bL,T.fA,by simp,?_⟩
have w1:Wm t.C_Chip x dx H (upd H x (.ins t.C_Chip dx (putF "blocks" (.int b) []))) (putF "blocks" (.int b) []) []:=⟨qG,Up.of (Same.refl H),by simp,by simp⟩
refine⟨_,rfl,_,rfl,x,_,dx,_,rfl,w1.i,T.bL,T.eN,by show 1<1000;decide,?_⟩
have w2:=w1.put "pages" (.int p)
refine⟨_,rfl,_,rfl,x,_,dx,_,rfl,w2.i,T.bL,T.aA7,by show 2<1000;decide,?_⟩
have w3:=w2.put "most" (.int m)
refine⟨_,rfl,rfl,_,rfl,iteT ⟨sz0,λl0 H2 n0 s0 e0=>?_⟩⟩
refine⟨_,rfl,l0,b,rfl,SqL.of e0,λli H3 n1 s1 e1=>?_⟩
have w4:=(w3.same s0).add n1 s1 e1
refine⟨_,rfl,x,_,dx,_,rfl,w4.i,T.bL,T.tW,by show 3<1000;decide,?_⟩
have w4:=w4.put "limits" (.ref li)
refine⟨sz1,λwa A1 n1 s1 e1=>⟨_,rfl,_,rfl,iI ⟨.inl ⟨by lia,by lia⟩,wa,_,_,rfl,rfl,e1,by lia,by lia,λbo B1 m1 r1 hbo=>?_⟩⟩⟩
have w5:=(w4.same s1).add m1 r1 hbo
refine⟨_,rfl,x,_,dx,_,rfl,w5.i,T.bL,T.fI,by show 4<1000;decide,?_⟩
have w5:=w5.put "borne" (.ref bo)
refine⟨sz1,λwa A2 n2 s2 e2=>⟨_,rfl,wa,_,_,rfl,rfl,e2,by lia,by lia,λcl B2 m2 r2 hcl=>?_⟩⟩
have w6:=(w5.same s2).add m2 r2 hcl
refine⟨_,rfl,x,_,dx,_,rfl,w6.i,T.bL,T.eW,by show 5<1000;decide,?_⟩
have w6:=w6.put "clearings" (.ref cl)
refine⟨sz1,λwa A3 n3 s3 e3=>⟨_,rfl,wa,_,_,rfl,rfl,e3,by lia,by lia,λdc B3 m3 r3 hdc=>?_⟩⟩
have w7:=(w6.same s3).add m3 r3 hdc
refine⟨_,rfl,x,_,dx,_,rfl,w7.i,T.bL,T.iN,by show 6<1000;decide,?_⟩
have w7:=w7.put "deed_counts" (.ref dc)
refine⟨sz1,λwa A4 n4 s4 e4=>⟨_,rfl,wa,_,_,rfl,rfl,e4,by lia,by lia,λbr B4 m4 r4 hbr=>?_⟩⟩
have w8:=(w7.same s4).add m4 r4 hbr
refine⟨_,rfl,x,_,dx,_,rfl,w8.i,T.bL,T.i6,by show 7<1000;decide,?_⟩
have w8:=w8.put "broken" (.ref br)
refine⟨_,rfl,x,_,dx,_,rfl,w8.i,T.bL,T.eT,by show 8<1000;decide,?_⟩
have w9:=w8.put "deeds_left" .non
refine⟨sz0,λrc B5 m5 r5 hrc=>?_⟩
have w:=w9.add m5 r5 hrc
refine⟨_,rfl,x,_,dx,_,rfl,w.i,T.bL,T.oA,by show 9<1000;decide,?_⟩
have w:=w.set (fs':=chF ⟨dx,li,bo,cl,dc,br,rc⟩ (CM.new b p m []))
refine q ⟨dx,li,bo,cl,dc,br,rc⟩ _ ⟨w.i,(w.o (li,.dK []) (by simp)).1,(w.o (bo,.lst (List.replicate (b*p).toNat .non)) (by simp)).1,?_,?_,?_,⟨[],(w.o (rc,.lst []) (by simp)).1,.nil⟩,(gA.mp (show(li::[bo,cl,dc,br,rc]).Nodup from w.n)).2⟩ (λb' hb'=>w.fr b' hb') w.u
·show _=some (HO.lst ((List.replicate b.toNat (0:Int)).map V.int));rw[cU];exact(w.o (cl,.lst (List.replicate b.toNat (.int 0))) (by simp)).1
·show _=some (HO.lst ((List.replicate b.toNat (0:Int)).map V.int));rw[cU];exact(w.o (dc,.lst (List.replicate b.toNat (.int 0))) (by simp)).1
show _=some (HO.lst ((List.replicate b.toNat false).map V.bl))
rw[cU]
exact(w.o (br,.lst (List.replicate b.toNat (.bl false))) (by simp)).1)
theorem jZ(T:Txt K mg t)(S:Fns K t):S.eO.Ok0 P w mg base 1 (qIS K):=by(
refine S.eO.F.ok0 q69 λcdv A _ s H vs Q E hr h=>?_
obtain⟨a,ns,k,rfl,hS,h0,q⟩:=h
refine⟨_,(qB (jE (qS q3F (pv 1) (jT jV (by rfl) T.aB4 dO (qA (pv 0) qF)) (qT _)) (qD (qN (jA jQ (pv 0) (pv 1) (λ_ _=>rfl)))) qQ) (qD (qN qI))),?_⟩
try dsimp-beta-proj-iota-zeta-eta only[wishK,cxK]
refine⟨_,rfl,_,rfl,a,_,rfl,.inl hS,_,_,rfl,rfl,_,rfl,?_⟩
rw[kB]
by_cases h1:k<(ns.length:Int)
·rw[hG h1];refine iteT ?_;exact⟨_,rfl,_,rfl,a,_,k,_,rfl,rfl,hS,qCE h0 h1,q⟩
rw[hX h1]
refine iteF ?_
have e:=qA9 h0 h1
rw[e]at q
exact q)
theorem qHN{H:Hp}{bl pg mo:Int}{Q:Addr→Hp→Prop}{E:XK}(b1:2≤bl)(b2:bl≤16)(p1:1≤pg)(p2:pg≤16)(m1:0≤mo)(m2:mo≤1000000)
 (q:∀x a H',ChipAt t.C_Chip H' x a (CM.new bl pg mo [])→Same H H'→(∀b∈a.li::foot x a,H b=none)→Q x H') (x dx:Addr) (nx:H x=none) (ndx:H dx=none) (ne:dx≠x):
 spMk t [.ref x,.int bl,.int pg,.int mo,.non] (upd (upd H dx (.own x)) x (.ins t.C_Chip dx [])) (λv H2=>v=.non∧Q x H2) E:=by(
have s0:Same H (upd (upd H dx (.own x)) x (.ins t.C_Chip dx [])):=λb o e=>by rw[qC (qH e nx),qC (qH e ndx)];exact e
refine⟨x,dx,bl,pg,mo,rfl,qG,b1,b2,p1,p2,m1,m2,λa H' hc fr u=>⟨rfl,q x a H' hc (λb o e=>u b o (qH e nx) (s0 b o e)) λb hb=>?_⟩⟩
have hb:b=x∨b∈[a.li,a.bo,a.cl,a.dc,a.br,a.rc]:=by simp[foot]at hb ⊢;rcases hb with rfl|rfl|rfl|rfl|rfl|rfl|rfl<;>simp
rcases hb with rfl|hb
·exact nx
exact s0.free (fr _ hb))
noncomputable def qKR(t:Adr):Sp:=λvs H Q E=>∃x dx fs b e,vs=[.ref x]∧H x=some (.ins t.C_Terms dx fs)∧fs.lookup (Str.ofString "blocks")=some (.int b)∧fs.lookup (Str.ofString "ill")=some (.int e)∧Q (.int (b-1-e)) H
theorem q4S(T:Txt K mg t)(S:Fns K t):S.tG.Ok0 P w mg base 1 (qKR t):=by(
refine S.tG.F.ok0 q4Q λcdv A _ s H vs Q E hr h=>?_
obtain⟨x,dx,fs,b,e,rfl,hx,l1,l2,q⟩:=h
refine⟨_,(qD (qN (qP yZ (qP yZ (qJ (pv 0) rfl) qI) (qJ (pv 0) rfl)))),?_⟩
try dsimp-beta-proj-iota-zeta-eta only[wishK,cxK]
exact(iV rfl (iF hx T.bU T.fL l1 (iI (iV rfl (iF hx T.bU T.tD l2 (iI q)))))))
noncomputable def teF(r0 r1 r2 r3 r4 r5:V):List (Str×V):=[("blocks",r0),("pages",r1),("sheets",r2),("share",r3),("ill",r4),("spread",r5)]
noncomputable def spTm(t:Adr):Sp:=λvs H Q E=>∃x dx,∃b p s r e d:Int,vs=[.ref x,.int b,.int p,.int s,.int r,.int e,.int d]∧H x=some (.ins t.C_Terms dx [])∧2≤b∧b≤16∧1≤p∧p≤16∧1≤s∧s≤64∧1≤r∧r≤(b-1-e)*p-2∧0≤e∧e≤b-2∧1≤d∧d≤1000000∧∀H',H' x=some (.ins t.C_Terms dx (teF (.int b) (.int p) (.int s) (.int r) (.int e) (.int d)))→Up x H H'→Q .non H'
theorem q6Y(T:Txt K mg t)(S:Fns K t):FnOk P w K mg base (CX0) 4 t.f_Terms_init S.fN ["self","blocks","pages","sheets","share","ill","spread"] (spTm t):=by(
refine S.aC6.ok0 q6X λcdv A _ s H vs Q E hr h=>?_
obtain⟨x,dx,b,p,s',r,e,d,rfl,hx,b1,b2,p1,p2,s1,s2,r1,r2,e1,e2,d1,d2,q⟩:=h
refine⟨_,(qB (jE (uG (yK (qX (q4G T S).mono hr rfl T.aBU T.aBX S.aBE.b .nil qK (qA (pv 1) (qA (pv 2) qF))))) (qD jD) qQ) (qB (jE (uG (yK (qX (jI T S).mono hr rfl T.bX T.bW S.eG.b .nil qK (qA (pv 3) (qA qI (qA qI qF)))))) (qD jD) qQ) (qB (jE (uG (yK (qX (jI T S).mono hr rfl T.bX T.bW S.eG.b .nil qK (qA (pv 5) (qA qI (qA (qP yZ (pv 1) qI) qF)))))) (qD jD) qQ) (qB (jE (uG (yK (qX (jI T S).mono hr rfl T.bX T.bW S.eG.b .nil qK (qA (pv 6) (qA qI (qA (q27 rfl T.aA6 ⟨_,rfl⟩ (v:=.int 1000000)) qF)))))) (qD jD) qQ) (qB (jJ (pv 0) (pv 1) rfl) (qB (jJ (pv 0) (pv 2) rfl) (qB (jJ (pv 0) (pv 3) rfl) (qB (jJ (pv 0) (pv 4) rfl) (qB (jJ (pv 0) (pv 5) rfl) (qB (jJ (pv 0) (pv 6) rfl) (qD (jE (uG (yK (qX (jI T S).mono hr rfl T.bX T.bW S.eG.b .nil qK (qA (pv 4) (qA qI (qA (qP yZ (qP uH (qU (pv 0) T.bU T.aB1 (q4S T S).mono hr S.tG.b .nil qK) (pv 2)) qI) qF)))))) (qD jD) qQ)))))))))))),?_⟩
try dsimp-beta-proj-iota-zeta-eta only[wishK,cxK]
refine⟨_,rfl,_,rfl,.int b,.int p,rfl,.int b,.int p,_,rfl,?_⟩
rw[inBi b1 b2,inBi p1 p2]
refine iteF ⟨_,rfl,.int s',_,_,rfl,.int s',_,rfl,?_⟩
rw[inBi s1 s2]
refine iteF ⟨_,rfl,_,rfl,iI ⟨.int e,_,_,rfl,.int e,_,rfl,?_⟩⟩
rw[inBi e1 e2]
refine iteF ⟨_,rfl,.int d,_,_,rfl,.int d,_,rfl,?_⟩
rw[inBi d1 d2]
refine iteF ⟨_,rfl,_,rfl,x,_,dx,_,rfl,hx,T.bU,T.fL,by simp,?_⟩
have w1:Wm t.C_Terms x dx H (upd H x (.ins t.C_Terms dx (putF "blocks" (.int b) []))) (putF "blocks" (.int b) []) []:=⟨qG,Up.of (Same.refl H),by simp,by simp⟩
refine⟨_,rfl,_,rfl,x,_,dx,_,rfl,w1.i,T.bU,T.bT,by show 1<1000;decide,?_⟩
have w2:=w1.put "pages" (.int p)
refine⟨_,rfl,_,rfl,x,_,dx,_,rfl,w2.i,T.bU,T.o9,by show 2<1000;decide,?_⟩
have w3:=w2.put "sheets" (.int s')
refine⟨_,rfl,_,rfl,x,_,dx,_,rfl,w3.i,T.bU,T.tY,by show 3<1000;decide,?_⟩
have w4:=w3.put "share" (.int r)
refine⟨_,rfl,_,rfl,x,_,dx,_,rfl,w4.i,T.bU,T.tD,by show 4<1000;decide,?_⟩
have w5:=w4.put "ill" (.int e)
refine⟨_,rfl,_,rfl,x,_,dx,_,rfl,w5.i,T.bU,T.tK,by show 5<1000;decide,?_⟩
have w:=w5.put "spread" (.int d)
refine⟨_,rfl,_,rfl,x,dx,_,rfl,w.i,rfl,x,dx,_,b,e,rfl,w.i,rfl,rfl,_,rfl,iI ⟨.inr ⟨by lia,by lia⟩,iI ⟨.int r,_,_,rfl,.int r,_,rfl,?_⟩⟩⟩
rw[inBi r1 r2]
exact iteF (q _ w.i w.u))
theorem qKS{H:Hp}{b p s r e d:Int}{Q:Addr→Hp→Prop}{E:XK}(b1:2≤b)(b2:b≤16)(p1:1≤p)(p2:p≤16)(s1:1≤s)(s2:s≤64)(r1:1≤r)(r2:r≤(b-1-e)*p-2)(e1:0≤e)(e2:e≤b-2)(d1:1≤d)(d2:d≤1000000)
 (q:∀x dx H',Same H H'→H' x=some (.ins t.C_Terms dx (teF (.int b) (.int p) (.int s) (.int r) (.int e) (.int d)))→Q x H') (x dx:Addr) (nx:H x=none) (ndx:H dx=none) (ne:dx≠x):
 spTm t [.ref x,.int b,.int p,.int s,.int r,.int e,.int d] (upd (upd H dx (.own x)) x (.ins t.C_Terms dx [])) (λv H2=>v=.non∧Q x H2) E:=by
 have s0:Same H (upd (upd H dx (.own x)) x (.ins t.C_Terms dx [])):=λb o e=>by rw[qC (qH e nx),qC (qH e ndx)];exact e
 exact⟨x,dx,b,p,s,r,e,d,rfl,qG,b1,b2,p1,p2,s1,s2,r1,r2,e1,e2,d1,d2,λH' h u=>⟨rfl,q x dx H' (λb o e=>u b o (qH e nx) (s0 b o e)) h⟩⟩
noncomputable def qKT:Sp:=λvs H Q _=>∃s n,vs=[.int s,.int n]∧Q (.int (s*128+n)) H
theorem qAV(T:Txt K mg t)(S:Fns K t):S.aDR.Ok0 P w mg base 1 qKT:=by(
refine S.aDR.F.ok0 qAU λcdv A _ s H vs Q E hr h=>?_
obtain⟨s',n,rfl,q⟩:=h
refine⟨_,(qD (qN (qP uZ (qP uH (pv 0) (q27 rfl T.aEI ⟨_,rfl⟩ (v:=.int 128))) (pv 1)))),?_⟩
try dsimp-beta-proj-iota-zeta-eta only[wishK,cxK]
exact⟨_,rfl,iI ⟨.inr ⟨by decide,by decide⟩,_,rfl,iI q⟩⟩)
structure BkA where
bk:Addr
dx:Addr
wv:Addr
lv:Addr
fi:Addr
bo:Addr
structure BkAt(t:Adr)(H:Hp)(a:BkA)(m:QM):Prop where
o:H a.bk=some (.ins t.C_Book a.dx [("blocks",.int (m.B:Int)),("pages",.int (m.P:Int)),("stamp",.int m.nx),("where",.ref a.wv),("live",.ref a.lv),("filled",.ref a.fi),("born",.ref a.bo)])
w:H a.wv=some (.dK (dI m.V))
l:H a.lv=some (.lst (m.lv.map V.int))
f:H a.fi=some (.lst (m.fi.map V.int))
b:H a.bo=some (.lst (m.bo.map V.int))
structure Dst(a:BkA):Prop where
lf:a.lv≠a.fi
lb:a.lv≠a.bo
fb:a.fi≠a.bo
theorem BkAt.same{t:Adr}{H H':Hp}{a:BkA}{m:QM}(h:BkAt t H a m)(s:Same H H'):BkAt t H' a m:=⟨s _ _ h.o,s _ _ h.w,s _ _ h.l,s _ _ h.f,s _ _ h.b⟩
theorem BkAt.keep{t:Adr}{H H':Hp}{a:BkA}{m:QM}{F:List Addr}(h:BkAt t H a m)(k:Keep F H H')(n:∀b∈[a.bk,a.wv,a.lv,a.fi,a.bo],b∉F):BkAt t H' a m:=⟨k.k _ _ (n _ (by simp)) h.o,k.k _ _ (n _ (by simp)) h.w,k.k _ _ (n _ (by simp)) h.l,k.k _ _ (n _ (by simp)) h.f,k.k _ _ (n _ (by simp)) h.b⟩
noncomputable def bk0(B P:Nat):QM:=⟨P,B,1,[],List.replicate B 0,List.replicate B 0,List.replicate B 0⟩
noncomputable def qKU(t:Adr):Sp:=λvs H Q _=>∃x dx B P,vs=[.ref x,.int (B:Nat),.int (P:Nat)]∧B≤16∧H x=some (.ins t.C_Book dx [])∧∀(a:BkA) H',a.bk=x→a.dx=dx→BkAt t H' a (bk0 B P)→Dst a→(∀b∈[a.wv,a.lv,a.fi,a.bo],H b=none)→(∀b o,b≠x→H b=some o→H' b=some o)→Q .non H'
theorem q8M(T:Txt K mg t)(S:Fns K t):S.aBK.Ok0 P w mg base 1 (qKU t):=by(
refine S.aBK.F.ok0 q8D λcdv A _ s H vs Q E hr h=>?_
obtain⟨x,dx,B,P,rfl,hB,hx,q⟩:=h
refine⟨_,(qB (jJ (pv 0) (pv 1) rfl) (qB (jJ (pv 0) (pv 2) rfl) (qB (jJ (pv 0) qI rfl) (qB (jJ (pv 0) q5K rfl) (qB (jJ (pv 0) (qP q0N (jR (qA qI qF)) (pv 1)) rfl) (qB (jJ (pv 0) (qP q0N (jR (qA qI qF)) (pv 1)) rfl) (qD (jJ (pv 0) (qP q0N (jR (qA qI qF)) (pv 1)) rfl)))))))),?_⟩
try dsimp-beta-proj-iota-zeta-eta only[wishK,cxK]
refine⟨_,rfl,_,rfl,x,_,dx,_,rfl,hx,T.bR,T.aCA,by decide,?_⟩
refine⟨_,rfl,_,rfl,x,_,dx,_,rfl,qG,T.bR,T.iC,by show 1<1000;decide,?_⟩
refine⟨_,rfl,x,_,dx,_,rfl,qG,T.bR,T.bY,by show 2<1000;decide,?_⟩
rw[q7T,q7T]
have w1:Wm t.C_Book x dx H (upd H x (.ins t.C_Book dx (putF "stamp" (.int 1) (putF "pages" (.int (P:Int)) (putF "blocks" (.int (B:Int)) []))))) (putF "stamp" (.int 1) (putF "pages" (.int (P:Int)) (putF "blocks" (.int (B:Int)) []))) []:=⟨qG,Up.of (Same.refl H),by simp,by simp⟩
have rep:∀n:Nat,List.replicate n (V.int 0)=(List.replicate n (0:Int)).map V.int:=λn=>by rw[cU]
have eB:((B:Int)).toNat=B:=by lia
refine λwv nwv=>?_
have w2:=w1.add nwv (Same.upd (o:=.dK []) nwv) qG
refine⟨_,rfl,x,_,dx,_,rfl,w2.i,T.bR,T.e9,by show 3<1000;decide,?_⟩
have w2:=w2.put "where" (.ref wv)
refine⟨sz1,λwa A3 n3 s3 e3=>⟨_,rfl,wa,_,_,rfl,rfl,e3,by lia,by lia,λlv B3 m3 r3 hlv=>?_⟩⟩
rw[eB,rep]at hlv
have w3:=(w2.same s3).add m3 r3 hlv
refine⟨_,rfl,x,_,dx,_,rfl,w3.i,T.bR,T.iW,by show 4<1000;decide,?_⟩
have w3:=w3.put "live" (.ref lv)
refine⟨sz1,λwa A4 n4 s4 e4=>⟨_,rfl,wa,_,_,rfl,rfl,e4,by lia,by lia,λfi B4 m4 r4 hfi=>?_⟩⟩
rw[eB,rep]at hfi
have w4:=(w3.same s4).add m4 r4 hfi
refine⟨_,rfl,x,_,dx,_,rfl,w4.i,T.bR,T.bV,by show 5<1000;decide,?_⟩
have w4:=w4.put "filled" (.ref fi)
refine⟨sz1,λwa A5 n5 s5 e5=>⟨_,rfl,wa,_,_,rfl,rfl,e5,by lia,by lia,λbo B5 m5 r5 hbo=>?_⟩⟩
rw[eB,rep]at hbo
have w5:=(w4.same s5).add m5 r5 hbo
refine⟨_,rfl,x,_,dx,_,rfl,w5.i,T.bR,T.iS,by show 6<1000;decide,?_⟩
have w5:=w5.put "born" (.ref bo)
have nd:[wv,lv,fi,bo].Nodup:=w5.n
simp only[gA,kI,gE,not_or,rK]at nd
exact q ⟨x,dx,wv,lv,fi,bo⟩ _ rfl rfl ⟨w5.i,(w5.o (wv,.dK []) (by simp)).1,(w5.o (lv,.lst ((List.replicate B (0:Int)).map V.int)) (by simp)).1,(w5.o (fi,.lst ((List.replicate B (0:Int)).map V.int)) (by simp)).1,(w5.o (bo,.lst ((List.replicate B (0:Int)).map V.int)) (by simp)).1⟩ ⟨nd.2.1.1,nd.2.1.2,nd.2.2.1⟩ (λb' hb'=>w5.fr b' hb') w5.u)
noncomputable def qJL(t:Adr):Sp:=λvs H Q _=>∃a,∃m:QM,∃n,vs=[.ref a.bk,.int n]∧BkAt t H a m∧Q (.int (m.nx*128+n)) H
theorem q8N(T:Txt K mg t)(S:Fns K t):S.aBJ.Ok0 P w mg base 2 (qJL t):=by(
refine S.aBJ.F.ok0 q8E λcdv A _ s H vs Q E hr h=>?_
obtain⟨a,m,n,rfl,hb,q⟩:=h
refine⟨_,(qD (qN (qX (qAV T S).mono hr rfl T.aD1 T.aD4 S.aDR.b .nil qK (qA (qJ (pv 0) rfl) (qA (pv 1) qF))))),?_⟩
try dsimp-beta-proj-iota-zeta-eta only[wishK,cxK]
exact(iV rfl (iF hb.o T.bR T.bY rfl ⟨_,rfl,_,_,rfl,q⟩)))
noncomputable def spFg(t:Adr):Sp:=λvs H Q _=>∃a,∃m:QM,∃n,vs=[.ref a.bk,.int n]∧BkAt t H a m∧m.Ok∧Dst a∧∀H',BkAt t H' a (m.forget n)→Keep [a.wv,a.lv] H H'→Q .non H'
theorem q21(T:Txt K mg t)(S:Fns K t):S.oN.Ok0 P w mg base 1 (spFg t):=by(
refine S.oN.F.ok0 q1T λcdv A _ s H vs Q E hr h=>?_
obtain⟨a,m,n,rfl,hb,ok,ds,q⟩:=h
have hu:=q5L hr
have p1:=ok.p1
have p2:=ok.p2
have ob:a.bk≠a.wv:=jS hb.o hb.w (by intro z;cases z)
have ol:a.bk≠a.lv:=jS hb.o hb.l (by intro z;cases z)
have wl:a.wv≠a.lv:=jS hb.w hb.l (by intro z;cases z)
have wf:a.fi≠a.wv:=jS hb.f hb.w (by intro z;cases z)
have wb:a.bo≠a.wv:=jS hb.b hb.w (by intro z;cases z)
refine⟨_,(qD (jE (qCU (qA8 hu (pv 1) (qJ (pv 0) rfl))) (qB (qW (i:=2) q1T.nd rfl (Or.inl rfl) (qDK (qJ (pv 0) rfl) (pv 1) ⟨rfl,rfl,rfl,rfl⟩)) (qD (q3D (qJ (pv 0) rfl) (qP q3E (pv 2) (qJ (pv 0) rfl)) q1C qI qHY yX))) qQ)),?_⟩
try dsimp-beta-proj-iota-zeta-eta only[wishK,cxK]
refine⟨_,rfl,iV rfl (iF hb.o T.bR T.e9 rfl ⟨a.wv,_,rfl,DGet.k (k:=Sum.inl n) hb.w,_,rfl,?_⟩)⟩
rcases QM.find_V (m:=m) (n:=n)with⟨p,hp,ef⟩|⟨hn,ef⟩
·have hv:(n,p)∈m.V:=hp;rw[q86 ok.nd hv];refine iteT ?_;refine(iV rfl (iF hb.o T.bR T.e9 rfl ⟨a.wv,rfl,.inl ⟨_,.inl hb.w⟩,_,rfl,_,Sum.inl n,_,hb.w,rfl,q86 ok.nd hv,?_⟩));rw[qEB];have k1:Keep [a.wv,a.lv] H (upd H a.wv (.dK (dI (jB m.V n)))):=Keep.upd hb.w (λ_ z=>by cases z) (by simp);have w1:(upd H a.wv (.dK (dI (jB m.V n)))) a.wv=some (.dK (dI (jB m.V n))):=qG;have u1:∀b o,b≠a.wv→H b=some o→(upd H a.wv (.dK (dI (jB m.V n)))) b=some o:=λb o nb e=>by rw[qC nb];exact e
 generalize upd H a.wv (.dK (dI (jB m.V n)))=H1 at k1 w1 u1 ⊢;obtain⟨c,hc,ec⟩:=ok.blk _ hp;have ec:p / (m.P:Int)=(c:Int):=ec;have hcl:c<m.lv.length:=by rw[ok.ll];exact hc
 have l1:=u1 _ _ wl.symm hb.l;refine(iV rfl (iF (u1 _ _ ob hb.o) T.bR T.iW rfl ⟨_,rfl,iV rfl (iF (u1 _ _ ob hb.o) T.bR T.iC rfl (iI ⟨⟨by lia,by lia⟩,iL (k:=_) (v:=_) (SqL.of l1) (by rw[ec];exact atV hcl) (iI ⟨a.lv,_,_,c,rfl,rfl,l1,(by rw[ec];exact q42 (by rw[kB];exact hcl)),?_⟩)⟩))⟩));rw[setV];have el:(m.forget n).lv=m.lv.set c (m.lv.getD c 0-1):=by show BM.lvF m.P m.V m.lv n=_;unfold BM.lvF;rw[ef];show m.lv.set (p / (m.P:Int)).toNat (m.lv.getD (p / (m.P:Int)).toNat 0-1)=_;rw[ec,show((c:Int)).toNat=c by lia]
 refine q _ ⟨?_,?_,?_,?_,?_⟩ (k1.trans (Keep.upd l1 (λ_ z=>by cases z) (by simp)))
 ·rw[qC ol];exact u1 _ _ ob hb.o
 ·rw[qC wl];exact w1
 ·rw[el];exact qG
 ·rw[qC ds.lf.symm];exact u1 _ _ wf hb.f
 rw[qC ds.lb.symm];exact u1 _ _ wb hb.b
rw[q5X (λz=>by obtain⟨r,hr',e⟩:=kZ.mp z;exact hn r hr' e)]
refine iteF ?_
have el:(m.forget n).lv=m.lv:=by show BM.lvF m.P m.V m.lv n=_;unfold BM.lvF;rw[ef]
have eV:(m.forget n).V=m.V:=qGA λr hr'=>hn r hr'
exact q H ⟨hb.o,by rw[eV];exact hb.w,by rw[el];exact hb.l,hb.f,hb.b⟩ Keep.refl)
theorem q6B{V:Mp}:(dI V).length=V.length:=by unfold dI;rw[kB]
noncomputable def spNt(t:Adr):Sp:=λvs H Q _=>∃a,∃m:QM,∃b f n,vs=[.ref a.bk,.int ((b*m.P+f:Nat):Int),.int n]∧BkAt t H a m∧m.Ok∧Dst a∧b<m.B∧f<m.P∧m.fi.getD b 0=(f:Int)∧∀H',BkAt t H' a (m.put b f n)→Keep [a.bk,a.wv,a.lv,a.fi,a.bo] H H'→Q .non H'
theorem q8O(T:Txt K mg t)(S:Fns K t):S.aB0.Ok0 P w mg base 2 (spNt t):=by(
refine S.aB0.F.ok0 q3P λcdv A _ s H vs Q E hr h=>?_
obtain⟨a,m,b,f,n,rfl,hb,ok,ds,hB,hf,ef,q⟩:=h
have hu:=q5L hr
have p1:=ok.p1
have p2:=ok.p2
have ob:a.bk≠a.wv:=jS hb.o hb.w (by intro z;cases z)
have ol:a.bk≠a.lv:=jS hb.o hb.l (by intro z;cases z)
have of':a.bk≠a.fi:=jS hb.o hb.f (by intro z;cases z)
have oo:a.bk≠a.bo:=jS hb.o hb.b (by intro z;cases z)
have wl:a.wv≠a.lv:=jS hb.w hb.l (by intro z;cases z)
have wf:a.fi≠a.wv:=jS hb.f hb.w (by intro z;cases z)
have wb:a.bo≠a.wv:=jS hb.b hb.w (by intro z;cases z)
have eb:((b*m.P+f:Nat):Int) / (m.P:Int)=(b:Int):=by rw[←rH,yC hf]
refine⟨_,(qB (qW (i:=3) q3P.nd rfl (Or.inl rfl) (qP q3E (pv 1) (qJ (pv 0) rfl))) (qB (qY (qV (pv 0) T.bR T.aAQ (q21 T S).mono hr S.oN.b .nil qK (qA (pv 2) qF))) (qB (qB5 hu (qJ (pv 0) rfl) (pv 2) (pv 1) rfl) (qB (q3D (qJ (pv 0) rfl) (pv 3) q1C qI q5B yX) (q4Z (jE (qS q04 (jA jQ (qJ (pv 0) rfl) (pv 3) (λ_ _=>rfl)) qI (qT _)) (qD (q3U (qJ (pv 0) rfl) (q5A (qJ (pv 0) rfl) (pv 3) yX))) qQ) (qB (q3D (qJ (pv 0) rfl) (pv 3) q1C qI q5B yX) (qD (q78 (pv 0) qI qI1)))))))),?_⟩
try dsimp-beta-proj-iota-zeta-eta only[wishK,cxK]
refine⟨_,rfl,iV rfl (iF hb.o T.bR T.iC rfl (iI ⟨⟨by lia,by lia⟩,?_⟩))⟩
try dsimp only
rw[eb]
refine(iV rfl (iM hb.o rfl ⟨_,rfl,a,m,n,rfl,hb,ok,ds,λH1 hb1 k1=>?_⟩))
have k1:Keep [a.bk,a.wv,a.lv,a.fi,a.bo] H H1:=k1.mono (by intro x hx;simp at hx ⊢;rcases hx with rfl|rfl<;>simp)
have lnV:(jB m.V n).length≤65:=mF (mE _ _) ok.lenV
have w0:H1 a.wv=some (.dK (dI (jB m.V n))):=hb1.w
refine⟨_,rfl,iV rfl (iF hb1.o T.bR T.e9 rfl ⟨_,rfl,a.wv,_,rfl,.inl ⟨_,Sum.inl n,w0,rfl,(by rw[q6B];exact rJ (m:=65) (by lia) (by decide)),rfl⟩,?_⟩)⟩
rw[qGB,qCK]
have k2:Keep [a.bk,a.wv,a.lv,a.fi,a.bo] H1 (upd H1 a.wv (.dK (dI (jB m.V n++[(n,((b*m.P+f:Nat):Int))])))):=Keep.upd w0 (λ_ z=>by cases z) (by simp)
have w2:(upd H1 a.wv (.dK (dI (jB m.V n++[(n,((b*m.P+f:Nat):Int))])))) a.wv=some (.dK (dI (jB m.V n++[(n,((b*m.P+f:Nat):Int))]))):=qG
have u2:∀x o,x≠a.wv→H1 x=some o→(upd H1 a.wv (.dK (dI (jB m.V n++[(n,((b*m.P+f:Nat):Int))])))) x=some o:=λx o nb e=>by rw[qC nb];exact e
generalize upd H1 a.wv (.dK (dI (jB m.V n++[(n,((b*m.P+f:Nat):Int))])))=H2 at k2 w2 u2 ⊢
have o2:=u2 _ _ ob hb1.o
have l2:H2 a.lv=some (.lst ((BM.lvF m.P m.V m.lv n).map V.int)):=u2 _ _ wl.symm hb1.l
have f2:H2 a.fi=some (.lst (m.fi.map V.int)):=u2 _ _ wf hb1.f
have b2:H2 a.bo=some (.lst (m.bo.map V.int)):=u2 _ _ wb hb1.b
have hbl:b<(BM.lvF m.P m.V m.lv n).length:=by rw[show(BM.lvF m.P m.V m.lv n).length=m.B from(ok.forget n).ll];exact hB
have hbf:b<m.fi.length:=by rw[ok.lf];exact hB
have hbo:b<m.bo.length:=by rw[ok.lo];exact hB
refine(iV rfl (iF o2 T.bR T.iW rfl ⟨_,rfl,iL (k:=_) (v:=_) (SqL.of l2) (atV hbl) (iI ⟨a.lv,_,_,b,rfl,rfl,l2,q42 (by rw[kB];exact hbl),?_⟩)⟩))
rw[setV]
have k3:Keep [a.bk,a.wv,a.lv,a.fi,a.bo] H2 (upd H2 a.lv (.lst (((BM.lvF m.P m.V m.lv n).set b ((BM.lvF m.P m.V m.lv n).getD b 0+1)).map V.int))):=Keep.upd l2 (λ_ z=>by cases z) (by simp)
have l3:(upd H2 a.lv (.lst (((BM.lvF m.P m.V m.lv n).set b ((BM.lvF m.P m.V m.lv n).getD b 0+1)).map V.int))) a.lv=some (.lst (((BM.lvF m.P m.V m.lv n).set b ((BM.lvF m.P m.V m.lv n).getD b 0+1)).map V.int)):=qG
have u3:∀x o,x≠a.lv→H2 x=some o→(upd H2 a.lv (.lst (((BM.lvF m.P m.V m.lv n).set b ((BM.lvF m.P m.V m.lv n).getD b 0+1)).map V.int))) x=some o:=λx o nb e=>by rw[qC nb];exact e
generalize upd H2 a.lv (.lst (((BM.lvF m.P m.V m.lv n).set b ((BM.lvF m.P m.V m.lv n).getD b 0+1)).map V.int))=H3 at k3 l3 u3 ⊢
have o3:=u3 _ _ ol o2
have w3:=u3 _ _ wl w2
have f3:=u3 _ _ ds.lf.symm f2
have b3:=u3 _ _ ds.lb.symm b2
refine⟨λσ' H'=>σ'=[some (.ref a.bk),some (.int ((b*m.P+f:Nat):Int)),some (.int n),some (.int (b:Int))]∧Keep [a.bk,a.wv,a.lv,a.fi,a.bo] H3 H'∧H' a.bo=some (.lst ((m.put b f n).bo.map V.int))∧∀x o,x≠a.bo→H3 x=some o→H' x=some o,?_,?_⟩
·refine(iV rfl (iF o3 T.bR T.bV rfl ⟨_,rfl,iL (k:=_) (v:=_) (SqL.of f3) (atV hbf) ⟨rfl,_,rfl,?_⟩⟩));rw[q2U];by_cases z:m.fi.getD b 0=0
 ·rw[hG z];refine iteT ?_;refine(iV rfl (iF o3 T.bR T.bY rfl (iV rfl (iF o3 T.bR T.iS rfl ⟨_,rfl,a.bo,_,_,b,rfl,rfl,b3,q42 (by rw[kB];exact hbo),?_⟩))));rw[setV];refine⟨rfl,Keep.upd b3 (λ_ z=>by cases z) (by simp),?_,λx o nb e=>by rw[qC nb];exact e⟩;rw[qG];show _=some (HO.lst ((if m.fi.getD b 0=0 then m.bo.set b m.nx else m.bo).map V.int));rw[kJ z];rfl
 rw[hX z];refine iteF ⟨rfl,Keep.refl,?_,λx o _ e=>e⟩;show _=some (HO.lst ((if m.fi.getD b 0=0 then m.bo.set b m.nx else m.bo).map V.int));rw[kF z];exact b3
rintro σ' H4 ⟨rfl,k4,b4,u4⟩
have o4:=u4 _ _ oo o3
have w4:=u4 _ _ wb.symm w3
have l4:=u4 _ _ ds.lb l3
have f4:=u4 _ _ ds.fb f3
refine(iV rfl (iF o4 T.bR T.bV rfl ⟨_,rfl,iL (k:=_) (v:=_) (SqL.of f4) (atV hbf) (iI ⟨a.fi,_,_,b,rfl,rfl,f4,q42 (by rw[kB];exact hbf),?_⟩)⟩))
rw[setV]
have k5:Keep [a.bk,a.wv,a.lv,a.fi,a.bo] H4 (upd H4 a.fi (.lst ((m.fi.set b (m.fi.getD b 0+1)).map V.int))):=Keep.upd f4 (λ_ z=>by cases z) (by simp)
have f5:(upd H4 a.fi (.lst ((m.fi.set b (m.fi.getD b 0+1)).map V.int))) a.fi=some (.lst ((m.fi.set b (m.fi.getD b 0+1)).map V.int)):=qG
have u5:∀x o,x≠a.fi→H4 x=some o→(upd H4 a.fi (.lst ((m.fi.set b (m.fi.getD b 0+1)).map V.int))) x=some o:=λx o nb e=>by rw[qC nb];exact e
generalize upd H4 a.fi (.lst ((m.fi.set b (m.fi.getD b 0+1)).map V.int))=H5 at k5 f5 u5 ⊢
have o5:=u5 _ _ of' o4
refine⟨_,rfl,a.bk,_,a.dx,_,_,rfl,o5,T.bR,T.bY,rfl,_,_,rfl,rfl,a.dx,_,o5,by show 7<1000;decide,?_⟩
refine q _ ⟨?_,?_,?_,?_,?_⟩ ((((k1.trans k2).trans k3).trans k4).trans (k5.trans (Keep.upd o5 (λ_ z=>by cases z) (by simp))))
·exact qG
·rw[qC ob.symm];exact u5 _ _ wf.symm w4
·rw[qC ol.symm];exact u5 _ _ ds.lf l4
·rw[qC of'.symm];exact f5
rw[qC oo.symm]
exact u5 _ _ ds.fb.symm b4)
noncomputable def lamE:Expr:=match((jM jN).getLast?:Option Stmt)with
|some (Stmt.Return (some (Expr.Call _ _ (k::_) _)) _)=>k.value
|_=>Expr.Name "" ⟨0,0,0,0⟩
noncomputable abbrev lamA:Arguments:=match lamE with
| .Lambda a _ _ _=>a
|_=>y9 jN
noncomputable abbrev lamB:Expr:=match lamE with
| .Lambda _ b _ _=>b
|_=>lamE
noncomputable abbrev qF6:Scope:=match lamE with
| .Lambda _ _ s _=>s
|_=>qE jN
noncomputable abbrev lamP:Pos:=match lamE with
| .Lambda _ _ _ p=>p
|_=>⟨0,0,0,0⟩
noncomputable abbrev lamQ:Str:=(PyProof.Rows.envOfC "Plain.free" (qE jN) 0 0 .none).qual++"<lambda>"
noncomputable abbrev q6C(clos:List (Str×Addr))(pm ct:Value)(c:Addr):FuncData:=W.kla_fn "<lambda>" lamQ lamA lamB qF6 clos pm (.ref c) ct
noncomputable def tri(c:Addr):Array Value:=#[rawInt lamP.line,rawInt lamP.col,.ref c]
noncomputable def lbE:Expr:=match((jM qR).getLast?:Option Stmt)with
|some (Stmt.Return (some (Expr.Subscript (Expr.Call _ _ (k::_) _) _ _)) _)=>k.value
|_=>Expr.Name "" ⟨0,0,0,0⟩
noncomputable abbrev lbA:Arguments:=match lbE with
| .Lambda a _ _ _=>a
|_=>y9 qR
noncomputable abbrev lbB:Expr:=match lbE with
| .Lambda _ b _ _=>b
|_=>lbE
noncomputable abbrev lbSc:Scope:=match lbE with
| .Lambda _ _ s _=>s
|_=>qE qR
noncomputable abbrev lbP:Pos:=match lbE with
| .Lambda _ _ _ p=>p
|_=>⟨0,0,0,0⟩
noncomputable abbrev lbQ:Str:=(PyProof.Rows.envOfC "Even.block_to_change" (qE qR) 0 0 .none).qual++"<lambda>"
noncomputable abbrev lbFd(pm ct:Value)(c:Addr):FuncData:=W.kla_fn "<lambda>" lbQ lbA lbB lbSc [] pm (.ref c) ct
noncomputable def triB(c:Addr):Array Value:=#[rawInt lbP.line,rawInt lbP.col,.ref c]
noncomputable def TbB(t:Adr)(H:Hp):Prop:=∃ps,H t.bI=some (.tbl ps)∧(ps=#[]∨∃c,ps=triB c∧H c=some (cdO c lbQ))
noncomputable def TbF(t:Adr)(H:Hp):Prop:=∃ps,H t.bH=some (.tbl ps)∧(ps=#[]∨∃c,ps=tri c∧H c=some (cdO c lamQ))∧TbB t H
noncomputable def Tex(o:HO):Prop:=(∃ps,o=.tbl ps)∨∃p,o=.ext p
theorem TbB.gen{t:Adr}{H H':Hp}(h:TbB t H)(k:∀b o,Tex o→H b=some o→H' b=some o):TbB t H':=by(
obtain⟨ps,hT,h⟩:=h
refine⟨ps,k _ _ (.inl ⟨_,rfl⟩) hT,?_⟩
rcases h with h|⟨c,h,a⟩
·exact .inl h
exact .inr ⟨c,h,k _ _ (.inr ⟨_,rfl⟩) a⟩)
theorem TbF.gen{t:Adr}{H H':Hp}(h:TbF t H)(k:∀b o,Tex o→H b=some o→H' b=some o):TbF t H':=by(
obtain⟨ps,hT,h,hB⟩:=h
refine⟨ps,k _ _ (.inl ⟨_,rfl⟩) hT,?_,hB.gen k⟩
rcases h with h|⟨c,h,a⟩
·exact .inl h
exact .inr ⟨c,h,k _ _ (.inr ⟨_,rfl⟩) a⟩)
theorem TbF.same{t:Adr}{H H':Hp}(s:Same H H')(h:TbF t H):TbF t H':=h.gen λ_ _ _ e=>s _ _ e
theorem yM{H:Hp}{b c:Addr}{o o':HO}(x:Tex o)(e:H b=some o)(e':H c=some o')(n:¬Tex o'):b≠c:=λz=>by rw[z,e']at e;exact n (by rw[kM e];exact x)
theorem q2F{C d:Addr}{fs:List (Str×V)}:¬Tex (.ins C d fs):=λz=>by rcases z with⟨_,z⟩|⟨_,z⟩<;>cases z
theorem vQ{xs:List V}:¬Tex (.lst xs):=λz=>by rcases z with⟨_,z⟩|⟨_,z⟩<;>cases z
theorem qJM{xs:List (Key×V)}:¬Tex (.dK xs):=λz=>by rcases z with⟨_,z⟩|⟨_,z⟩<;>cases z
noncomputable abbrev IsC(C:Addr):Prop:=C=t.C_Store∨C=t.C_Even
theorem cl2{C A B:Addr}(h:C=A∨C=B)(a:Cls K A)(b:Cls K B):Cls K C:=h.elim (λe=>e▸a) λe=>e▸b
theorem na2{C A B:Addr}{n:Str}(h:C=A∨C=B)(a:qM K A n)(b:qM K B n):qM K C n:=h.elim (λe=>e▸a) λe=>e▸b
theorem m2{C A B:Addr}{n:Str}{f:Addr}(h:C=A∨C=B)(a:Meth K A n f)(b:Meth K B n f):Meth K C n f:=h.elim (λe=>e▸a) λe=>e▸b
theorem m2e{C A:Addr}{n:Str}{f:Addr}(h:C=A)(a:Meth K A n f):Meth K C n f:=h▸a
structure Sto where
s:Addr
sd:Addr
tm:Addr
td:Addr
c:Addr
a:CA
k:BkA
ru:V
pa:V
C:Addr
hC:IsC C
G:List Addr
noncomputable def bf(k:BkA):List Addr:=[k.bk,k.wv,k.lv,k.fi,k.bo]
noncomputable def sf(x:Sto):List Addr:=foot x.c x.a++bf x.k
structure Fit(m:CM)(q:QM):Prop where
ok:m.Ok
oq:q.Ok
eB:m.bl=(q.B:Int)
eP:m.pg=(q.P:Int)
structure StAt(t:Adr)(H:Hp)(x:Sto)(r2 r3 r4 r5:V)(m:CM)(q:QM):Prop where
o:H x.s=some (.ins x.C x.sd [("chip",.ref x.c),("terms",.ref x.tm),("book",.ref x.k.bk),("rule",x.ru),("papers",x.pa)])
te:H x.tm=some (.ins t.C_Terms x.td (teF (.int m.bl) (.int m.pg) r2 r3 r4 r5))
ch:ChipAt t.C_Chip H x.c x.a m
bk:BkAt t H x.k q
tb:TbF t H
ds:Dst x.k
d1:∀b∈x.a.li::foot x.c x.a,b∉bf x.k
d2:∀b∈[x.s,x.tm],b∉sf x
section
variable{H H':Hp}{x:Sto}{r2 r3 r4 r5:V}{m:CM}{q:QM}
theorem StAt.same(h:StAt t H x r2 r3 r4 r5 m q)(s:Same H H'):StAt t H' x r2 r3 r4 r5 m q:=⟨s _ _ h.o,s _ _ h.te,h.ch.same s,h.bk.same s,h.tb.same s,h.ds,h.d1,h.d2⟩
theorem TbF.ne(h:TbF t H){b:Addr}{o:HO}(e:H b=some o)(n:∀ps,o≠ .tbl ps):b≠t.bH:=λz=>by obtain⟨ps,hT,_⟩:=h;rw[z,hT]at e;exact n ps (kM e).symm
theorem StAt.nT(h:StAt t H x r2 r3 r4 r5 m q):∀b∈[x.s,x.tm]++(x.a.li::sf x),b∉[t.bH]:=by(
intro b hb z
have z:b=t.bH:=by simpa using z
have ne:∀{b:Addr} {o:HO},H b=some o→(∀ps,o≠ .tbl ps)→b≠t.bH:=λe n=>h.tb.ne e n
obtain⟨rs,er,_⟩:=h.ch.rc
have hb:b=x.s∨b=x.tm∨b=x.a.li∨b=x.c∨b=x.a.bo∨b=x.a.cl∨b=x.a.dc∨b=x.a.br∨b=x.a.rc∨b=x.k.bk∨b=x.k.wv∨b=x.k.lv∨b=x.k.fi∨b=x.k.bo:=by simpa[sf,bf,foot]using hb
rcases hb with y|y|y|y|y|y|y|y|y|y|y|y|y|y<;>rw[y]at z
·exact ne h.o (λ_ z=>by cases z) z
·exact ne h.te (λ_ z=>by cases z) z
·exact ne h.ch.li (λ_ z=>by cases z) z
·exact ne h.ch.ins (λ_ z=>by cases z) z
·exact ne h.ch.bo (λ_ z=>by cases z) z
·exact ne h.ch.cl (λ_ z=>by cases z) z
·exact ne h.ch.dc (λ_ z=>by cases z) z
·exact ne h.ch.br (λ_ z=>by cases z) z
·exact ne er (λ_ z=>by cases z) z
·exact ne h.bk.o (λ_ z=>by cases z) z
·exact ne h.bk.w (λ_ z=>by cases z) z
·exact ne h.bk.l (λ_ z=>by cases z) z
·exact ne h.bk.f (λ_ z=>by cases z) z
exact ne h.bk.b (λ_ z=>by cases z) z)
theorem StAt.nX(h:StAt t H x r2 r3 r4 r5 m q){b:Addr}{o:HO}(e:H b=some o)(to:Tex o):b∉[x.s,x.tm]++(x.a.li::sf x):=λhb=>by(
obtain⟨rs,er,_⟩:=h.ch.rc
have hb:b=x.s∨b=x.tm∨b=x.a.li∨b=x.c∨b=x.a.bo∨b=x.a.cl∨b=x.a.dc∨b=x.a.br∨b=x.a.rc∨b=x.k.bk∨b=x.k.wv∨b=x.k.lv∨b=x.k.fi∨b=x.k.bo:=by simpa[sf,bf,foot]using hb
rcases hb with y|y|y|y|y|y|y|y|y|y|y|y|y|y
·exact yM to e h.o q2F y
·exact yM to e h.te q2F y
·exact yM to e h.ch.li (λz=>by rcases z with⟨_,z⟩|⟨_,z⟩<;>cases z) y
·exact yM to e h.ch.ins q2F y
·exact yM to e h.ch.bo vQ y
·exact yM to e h.ch.cl vQ y
·exact yM to e h.ch.dc vQ y
·exact yM to e h.ch.br vQ y
·exact yM to e er vQ y
·exact yM to e h.bk.o q2F y
·exact yM to e h.bk.w (λz=>by rcases z with⟨_,z⟩|⟨_,z⟩<;>cases z) y
·exact yM to e h.bk.l vQ y
·exact yM to e h.bk.f vQ y
exact yM to e h.bk.b vQ y)
theorem StAt.keep(h:StAt t H x r2 r3 r4 r5 m q){F:List Addr}(k:Keep F H H')(n:∀b∈[x.s,x.tm]++(x.a.li::sf x),b∉F)(tb:TbF t H'):StAt t H' x r2 r3 r4 r5 m q:=⟨k.k _ _ (n _ (by simp)) h.o,k.k _ _ (n _ (by simp)) h.te,h.ch.keep k (λb hb=>n b (by
  rcases kI.mp hb with rfl|hb
  ·simp
  ·simp[sf,hb])),h.bk.keep k (λb hb=>n b (by
  have hb:b∈bf x.k:=hb;simp[sf,hb])),tb,h.ds,h.d1,h.d2⟩
theorem StAt.kT(h:StAt t H x r2 r3 r4 r5 m q)(k:Keep [t.bH] H H')(tb:TbF t H'):StAt t H' x r2 r3 r4 r5 m q:=h.keep k h.nT tb
end
noncomputable def spGd(t:Adr):Sp:=λvs H Q _=>∃x r2 r3 r4 r5 m q,vs=[.ref x.s]∧StAt t H x r2 r3 r4 r5 m q∧Fit m q∧NewO H (.lst ((yY q.B m.br).map vn)) Q
theorem vA(T:Txt K mg t)(S:Fns K t):S.iJ.Ok0 P w mg base 5 (spGd t):=by(
refine S.iJ.F.ok0 q6S λcdv A _ s H vs Q E hr h=>?_
obtain⟨x,r2,r3,r4,r5,m,q,rfl,hs,ft,k⟩:=h
have b2:=ft.oq.b2
have eB:=ft.eB
refine⟨_,(qD (qN (v9 ["self","block"] [0] rfl (qC3 rfl T.aDV (qA (qJ (qJ (pv 0) rfl) rfl) qF)) (λ_ _ _ _ _=>(qZ (i:=1) (show List.Nodup (["self","block"]:List Str)from by decide) rfl (Or.inl rfl))) (λ_ _ _ _ _=>(uK (uG (yK (qV (uL (K:=K) rfl (pv 0) rfl) T.bL T.aCH (q6A T S).mono hr S.aAC.b .nil qK (qA (pv 1) qF)))))) (λ_ _ _ _ _=>(pv 1)) (by kernel_rfl) (yJ (by decide))))),?_⟩
try dsimp-beta-proj-iota-zeta-eta only[wishK,cxK]
refine⟨_,rfl,x.s,_,x.sd,_,_,rfl,hs.o,(cl2 x.hC T.bJ T.bK),(na2 x.hC T.bM T.bQ),rfl,iF hs.te T.bU T.fL rfl ⟨m.bl,rfl,by lia,by lia,λD H2 nD s2 hD=>?_⟩⟩
refine qCL (D:=D) (λi H3=>Same H H3∧H3 D=some (.lst (((List.range i).filter λb=>!(m.br.getD b false)).map vn))) ⟨s2,hD⟩ (λi H3 hi hp=>?_) (λH3 hp=>?_)
·obtain⟨sm,hd⟩:=hp;have hi:i<q.B:=by lia
 have h3:=hs.same sm;refine⟨_,rfl,x.s,_,x.sd,_,_,rfl,h3.o,(cl2 x.hC T.bJ T.bK),(na2 x.hC T.bZ T.eI),rfl,iM h3.ch.ins rfl ⟨_,rfl,x.c,x.a,m,_,rfl,h3.ch,ft.ok,by lia,by lia,?_⟩⟩;rw[show(0+(i:Int)).toNat=i by lia,Int.zero_add];refine⟨_,rfl,?_⟩;rw[aG,gU,m8];cases z:m.br.getD i false with
 |true=>refine iteF ⟨sm,?_⟩;rw[hd,m9,z];simp
 |false=>
  refine iteT ?_;refine⟨_,rfl,_,hd,?_,λb o e=>?_,?_⟩
  ·rw[kB];have:((List.range i).filter λb=>!(m.br.getD b false)).length≤i:=mF (mE _ _) (by rw[gC];exact kN _);have:(16:Nat)<sizeLine:=by decide
   lia
  ·rw[qC (qH e nD)];exact sm _ _ e
  rw[qG,m9,z];rfl
obtain⟨sm,hd⟩:=hp
rw[show m.bl.toNat=q.B by lia]at hd
exact k D H3 nD sm hd)
noncomputable def spLm(t:Adr)(x:Sto)(g c:Addr)(fd:FuncData):Sp:=λvs H Q _=>∃r2 r3 r4 r5,∃m:CM,∃q:QM,∃b:Nat,vs=[.int (b:Int)]∧StAt t H x r2 r3 r4 r5 m q∧Fit m q∧b<q.B∧H g=some (fnO g fd)∧H c=some (cdO c lamQ)∧∀tp H',H tp=none→Same H H'→H' tp=some (.tup [.int (m.cl.getD b 0),.int (b:Int)])→Q (.ref tp) H'
theorem qJN(T:Txt K mg t)(S:Fns K t){g c ca:Addr}{pm ct:Value}{x:Sto}(hc:base.IsCell ca (some (.ref x.s))):
 FnOk P w K mg base CX0 5 g (q6C [("self",ca)] pm ct c) ["block"] (spLm t x g c (q6C [("self",ca)] pm ct c)):=by(
refine qGD (k:=4) (x0:="block") (fvs:=[.ref x.s]) (qCN (u:=.ref x.s) rfl rfl rfl (by decide+kernel) (by decide+kernel) (by decide+kernel) rfl hc) (λvs H Q E h=>?_) (λvs H Q E h=>?_) (λA outer s H v0 Q E hr h=>?_)
·repeat obtain⟨_,h⟩:=h
 all_goals subst_vars;rfl
·obtain⟨r2,r3,r4,r5,m,q,b,rfl,_,_,_,a,d,_⟩:=h;exact⟨a,d⟩
obtain⟨r2,r3,r4,r5,m,q,b,e,hs,ft,hb,_,_,k⟩:=h
obtain rfl:v0=.int (b:Int):=by simpa using e
have eB:=ft.eB
refine⟨_,uJ (qA (qV (qJ (pv 1) rfl) T.bL T.i9 (vK T S).mono hr S.f8.b .nil qK (qA (pv 0) qF)) (qA (pv 0) qF)),?_⟩
refine⟨_,rfl,x.s,_,x.sd,_,_,rfl,hs.o,(cl2 x.hC T.bJ T.bK),(na2 x.hC T.bZ T.eI),rfl,iM hs.ch.ins rfl ⟨_,rfl,x.c,x.a,m,_,rfl,hs.ch,ft.ok,by lia,by lia,?_⟩⟩
rw[mQ]
exact⟨_,rfl,sz2,k⟩)
theorem qCR{clos:List (Str×Addr)}{c:Addr}{pm ct:Value}:jL K (q6C clos pm ct c) ["block"] []:=jL.all λus hl=>match us,hl with| [_],_=>rfl
theorem qH3(T:Txt K mg t){H:Hp}(h:TbF t H):∃ps,H t.bH=some (.tbl ps)∧TriplesOk ps.toList∧((codeAmong lamP ps.toList=none∧∀c H',H' t.bH=some (.tbl (ps++tri c))→H' c=some (cdO c lamQ)→(∀b o,b≠t.bH→H b=some o→H' b=some o)→TbF t H')∨∃c,codeAmong lamP ps.toList=some (.ref c)∧H c=some (cdO c lamQ)):=by(
obtain⟨ps,hT,h,hB⟩:=h
rcases h with rfl|⟨c,rfl,a⟩
·refine⟨_,hT,trivial,.inl ⟨rfl,λc H' e1 e2 k=>⟨_,e1,.inr ⟨c,rfl,e2⟩,?_⟩⟩⟩;obtain⟨ps',hT',h'⟩:=hB;refine⟨ps',k _ _ (T.tZ.symm) hT',?_⟩;rcases h' with h'|⟨c',h',a'⟩
 ·exact .inl h'
 exact .inr ⟨c',h',k _ _ (λz=>by rw[z,hT]at a';cases a') a'⟩
exact⟨_,hT,trivial,.inr ⟨c,rfl,a⟩⟩)
theorem q7R(T:Txt K mg t)(S:Fns K t){cells:List (Str×Addr)}{σ:St}{H4:Hp}{D f c':Addr}{x:Sto}{r2 r3 r4 r5:V}{m:CM}{q:QM}{clos:List (Str×Addr)}{pm ct:Value}{Q:VK}(hσ:σ[0]?=some (some (.ref x.s)))(hcl:∀ca,cells.lookup ("self":Str)=some ca→clos=[(("self":Str),ca)])
 (hs:StAt t H4 x r2 r3 r4 r5 m q) (ft:Fit m q) (hD:H4 D=some (.lst ((yO q.B m.br q.fi).map vn))) (hf:H4 f=some (fnO f (q6C clos pm ct c'))) (hc:H4 c'=some (cdO c' lamQ)) (k:∀l p H',FreeIs q.B m.br m.cl q.fi l→H4 p=none→Same H4 H'→H' p=some (.lst (l.map vn))→Q (.ref p) H'):
 ∃(f':Addr) (fd:FuncData) (sp:Heap→Sp),V.ref f=.ref f'∧(∀base',(∀b o,base.get? b=some o→base'.get? b=some o)→q1F cells σ base' [(0,"self")]→FnOk P w K mg base' CX0 5 f' fd ["block"] (sp base'))∧jL K fd ["block"] []∧∃(l:Addr) (us:List V) (Pv:Nat→List V→Hp→Prop),[V.ref D]=[.ref l]∧SqL K H4 l us∧us.length<64∧Pv 0 [] H4∧(∀base' i x zs H',q1F cells σ base' [(0,"self")]→us[i]?=some x→Pv i zs H'→sp base' [x] H' (λz H''=>Pv (i+1) (zs++[z]) H'') E0)∧∀zs H',zs.length=us.length→Pv us.length zs H'→∃kk m,Paired (TupI K H') zs kk∧(∀k∈kk,k.length=m)∧0<m∧∀q:List Nat,q.Perm (List.range us.length)→(q.map λi=>kk.getD i []).Pairwise (λa b=>lx b a=false)→NewO H' (.lst (q.map λi=>us.getD i .non)) Q:=by(
have b2:=ft.oq.b2
have ln:=qCP (B:=q.B) (br:=m.br) (fi:=q.fi)
refine⟨f,q6C clos pm ct c',λ_=>spLm t x f c' (q6C clos pm ct c'),rfl,λbase' _ cv=>?_,qCR,D,_,λi zs H'=>Same H4 H'∧Paired (TupD H') zs (((yO q.B m.br q.fi).take i).map (keyN m.cl)),rfl,SqL.of hD,by rw[kB];lia,⟨Same.refl H4,.nil⟩,λbase' i y zs H' _ hy hp=>?_,λzs H' lz hp=>?_⟩
·obtain⟨ca,u,hk,ru,hcell⟩:=cv (0,"self") (h9.mpr rfl) (.ref x.s) hσ;obtain rfl:u=Value.ref x.s:=ru;rw[hcl ca hk];exact qJN T S hcell
·obtain⟨sm,pr⟩:=hp;rw[mB]at hy;obtain⟨b,hb,rfl⟩:=mI.mp hy;have mb:=q7L.mp (gH hb);refine⟨r2,r3,r4,r5,m,q,b,rfl,hs.same sm,ft,mb.1.1,sm _ _ hf,sm _ _ hc,λtp H5 ntp s5 e5=>⟨sm.trans s5,?_⟩⟩;rw[q7M (f:=keyN m.cl) hb];exact L2.Paired.snoc (vT pr s5) ⟨tp,rfl,e5⟩
obtain⟨sm,pr⟩:=hp
rw[kB,gK]at pr
refine⟨_,2,qBI pr,λk hk=>?_,by decide,λq' p1 p2 p H5 np s5 e5=>?_⟩
·obtain⟨b,_,rfl⟩:=kZ.mp hk;rfl
rw[kB]at p1
have hin:∀i∈q',i<(yO q.B m.br q.fi).length:=λi hi=>mV.mp (p1.mem_iff.mp hi)
rw[q5Z (e:=0) hin]at e5
exact k _ p H5 (qGG p1 p2) (Same.free sm np) (sm.trans s5) e5)
noncomputable def spFr(t:Adr):Sp:=λvs H Q _=>∃x r2 r3 r4 r5 m q,vs=[.ref x.s]∧StAt t H x r2 r3 r4 r5 m q∧Fit m q∧∀l p H',FreeIs q.B m.br m.cl q.fi l→H p=none→Keep [t.bH] H H'→TbF t H'→H' p=some (.lst (l.map vn))→Q (.ref p) H'
theorem q01(T:Txt K mg t)(S:Fns K t)(B:BmIn base mg):FnOk P w K mg base (CX0) 8 t.f_Plain_free S.oK ["self"] (spFr t):=by(
refine S.aC4.ok0 q2P λA _ s H vs Q E hr h=>?_
obtain⟨x,r2,r3,r4,r5,m,q,rfl,hs,ft,k⟩:=h
have b2:=ft.oq.b2
have eB:=ft.eB
refine⟨_,(qB (q5T (i:=1) ["self","block"] [0] rfl (y8 (qU (pv 0) (cl2 x.hC T.bJ T.bK) (m2 x.hC T.iU T.oM) (vA T S).mono hr S.iJ.b .nil qK)) (λ_ _ _ _ _=>(qZ (i:=1) (show List.Nodup (["self","block"]:List Str)from by decide) rfl (Or.inl rfl))) (λ_ _ _ _ _=>(uK (qS q04 (jA (q9A (K:=K) rfl) (uL (K:=K) rfl (uL (K:=K) rfl (pv 0) rfl) rfl) (pv 1) (λ_ _=>rfl)) qI (qT _)))) (λ_ _ _ _ _=>(pv 1)) (by kernel_rfl) (yJ (by decide)) q2P.nd rfl (Or.inl rfl)) (qD (qN (qAI (k:=5) (x:="block") [(0,"self")] (by intro p hp;simp only[kI,gE,rK]at hp;rcases hp with rfl<;>exact⟨rfl,by kernel_rfl,rfl⟩) hr (by rfl) T.aBH (qBJ rfl T.aCN B (qGE (by kernel_rfl)) rfl) (qA (pv 1) qF))))),?_⟩
try dsimp-beta-proj-iota-zeta-eta only[wishK,cxK]
refine(iV rfl (iM hs.o rfl ⟨x,r2,r3,r4,r5,m,q,rfl,hs,ft,λp H1 n1 s1 h1=>?_⟩))
refine⟨p,rfl,⟨_,SqL.of h1⟩,λD H2 nD s2 hD=>?_⟩
refine vC (K:=K) (xs:=(yY q.B m.br).map vn) (D:=D) (λi H3=>Same H1 H3∧H3 D=some (.lst ((((yY q.B m.br).take i).filter λb=>decide (q.fi.getD b 0=0)).map vn))) ⟨s2,hD⟩ (λi H3 hp=>SqL.of (hp.1 _ _ h1)) (λi y H3 hy hp=>?_) (λH3 hp=>?_)
·obtain⟨sm,hd⟩:=hp;have h3:=(hs.same s1).same sm;rw[mB]at hy;obtain⟨b,hb,rfl⟩:=mI.mp hy;have hi:=(kD.mp hb).1;have mb:=q08.mp (gH hb);refine⟨_,rfl,x.s,_,x.sd,_,_,rfl,h3.o,(cl2 x.hC T.bJ T.bK),(na2 x.hC T.bN T.bS),rfl,iF h3.bk.o T.bR T.bV rfl ⟨_,rfl,iL (k:=_) (v:=_) (SqL.of h3.bk.f) (atV (by rw[ft.oq.lf];exact mb.1)) ⟨rfl,_,rfl,?_⟩⟩⟩;rw[q2U,←mY hi,gU,m8];obtain rfl:(yY q.B m.br)[i]=b:=(kD.mp hb).2;by_cases z:q.fi.getD (yY q.B m.br)[i] 0=0
 ·rw[hG z];refine iteT ?_;refine⟨_,rfl,_,hd,?_,λb o e=>?_,?_⟩
  ·rw[kB];have l1:(((yY q.B m.br).take i).filter λb=>decide (q.fi.getD b 0=0)).length≤q.B:=mF (mE _ _) (mF (by rw[gX];lia) (q1G (B:=q.B) (br:=m.br)));have:(16:Nat)<sizeLine:=by decide
   lia
  ·rw[qC (qH e nD)];exact sm _ _ e
  rw[qG,m9,hG z];rfl
 rw[hX z];refine iteF ⟨sm,?_⟩;rw[hd,m9,hX z];simp
obtain⟨sm,hd⟩:=hp
rw[kB,gK]at hd
have hd:H3 D=some (.lst ((yO q.B m.br q.fi).map vn)):=hd
have h3:=(hs.same s1).same sm
refine⟨_,rfl,?_⟩
obtain⟨ps,hT,ht,hc⟩:=qH3 T h3.tb
have nT:D≠t.bH:=h3.tb.ne hd (λ_ z=>by cases z)
have keep:∀(f c':Addr) (ctv pm:Value) (clos:List (Str×Addr)) (H4:Hp),H4 f=some (fnO f (q6C clos pm ctv c'))→H4 c'=some (cdO c' lamQ)→TbF t H4→(∀b o,b≠t.bH→H3 b=some o→H4 b=some o)→Keep [t.bH] H3 H4:=λf c' ctv pm clos H4 _ _ tb4 kp=>⟨λb o nb e=>kp b o (λz=>nb (by rw[z];simp)) e,λb xs e=>kp b _ (h3.tb.ne e (λ_ z=>by cases z)) e⟩
refine⟨ps,hT,ht,?_⟩
rcases hc with⟨hn,tb⟩|⟨c0,hn,hc0⟩
·refine .inl ⟨hn,λf c' ctv H4 nf hf hc' hT4 kp=>?_⟩;have tb4:=tb c' H4 hT4 hc' kp;have k4:=keep f c' ctv _ _ H4 hf hc' tb4 kp;refine q7R T S rfl (λca hk=>q9G (names:=qF6.names) hk rfl) (h3.kT k4 tb4) ft (kp _ _ nT hd) hf hc' (λl p' H5 hl np s5 e5=>k l p' H5 hl ?_ ?_ (tb4.same s5) e5)
 ·refine Same.free s1 (Same.free sm (k4.none (λz=>?_) np));obtain⟨ps',hT',_⟩:=tb4;rw[h9.mp z,hT']at np;cases np
 exact((Keep.same s1).trans (Keep.same sm)).trans (k4.trans (Keep.same s5))
refine .inr ⟨c0,hn,λf ctv H4 nf hf s4=>?_⟩
refine q7R T S rfl (λca hk=>q9G (names:=qF6.names) hk rfl) (h3.same s4) ft (s4 _ _ hd) hf (s4 _ _ hc0) (λl p' H5 hl np s5 e5=>k l p' H5 hl ?_ ?_ ((h3.tb.same s4).same s5) e5)
·exact Same.free s1 (Same.free sm (Same.free s4 np))
exact Keep.same (((s1.trans sm).trans s4).trans s5))
noncomputable def spPt(t:Adr):Sp:=λvs H Q _=>∃x r2 r3 r4 r5 m q,vs=[.ref x.s]∧StAt t H x r2 r3 r4 r5 m q∧Fit m q∧∀H',Same H H'→Q (oV (jK q.B q.P m.br q.fi)) H'
theorem qCS{α:Type}{p:α→Bool}{L:List α}{i:Nat}{x:α}(h:L[i]?=some x)(n:(L.take i).find? p=none):(p x=true→L.find? p=some x)∧(p x=false→(L.take (i+1)).find? p=none):=by(
have hi:=(kD.mp h).1
obtain rfl:L[i]=x:=(kD.mp h).2
constructor
·intro hp;have e:L=L.take i++L[i]::L.drop (i+1):=by rw[List.getElem_cons_drop,nU]
 conv=>lhs;arg 2;rw[e]
 rw[xQ,n,dR,hp];rfl
intro hp
rw[←mY hi,xQ,n,dR,hp]
rfl)
theorem q02(T:Txt K mg t)(S:Fns K t):S.oJ.Ok0 P w mg base 6 (spPt t):=by(
refine S.oJ.F.ok0 q2Q λcdv A _ s H vs Q E hr h=>?_
obtain⟨x,r2,r3,r4,r5,m,q,rfl,hs,ft,k⟩:=h
refine⟨_,(qB (zL rU rfl (y8 (qU (pv 0) (cl2 x.hC T.bJ T.bK) (m2 x.hC T.iU T.oM) (vA T S).mono hr S.iJ.b .nil qK)) (qZ (i:=1) q2Q.nd rfl (Or.inl rfl)) (qD (jE (qD4 q3F q3F qI (jA jQ (qJ (qJ (pv 0) rfl) rfl) (pv 1) (λ_ _=>rfl)) (qJ (qJ (pv 0) rfl) rfl)) (qD (qN (pv 1))) qQ))) (qD (qN uY))),?_⟩
try dsimp-beta-proj-iota-zeta-eta only[wishK,cxK]
refine(iV rfl (iM hs.o rfl ⟨x,r2,r3,r4,r5,m,q,rfl,hs,ft,λp H1 n1 s1 h1=>?_⟩))
refine⟨p,rfl,⟨_,SqL.of h1⟩,?_⟩
refine vR (K:=K) (xs:=(yY q.B m.br).map vn) (λi σ' H2=>∃y,σ'=[some (.ref x.s),y]∧Same H1 H2∧((yY q.B m.br).take i).find? (jW q.P q.fi)=none) ⟨_,rfl,Same.refl H1,rfl⟩ (λi σ' H2 hi hp=>?_) (λi y σ' H2 hy hp=>?_) (λσ' H2 hp=>?_)
·obtain⟨y,rfl,sm,_⟩:=hp;exact SqL.of (sm _ _ h1)
·obtain⟨y',rfl,sm,hn⟩:=hp;have h3:=(hs.same s1).same sm;rw[mB]at hy;obtain⟨b,hb,rfl⟩:=mI.mp hy;have mb:=q08.mp (gH hb);obtain⟨y1,y2⟩:=qCS hb hn;refine⟨_,rfl,x.s,_,x.sd,_,_,rfl,h3.o,(cl2 x.hC T.bJ T.bK),(na2 x.hC T.bN T.bS),rfl,iF h3.bk.o T.bR T.bV rfl ⟨_,rfl,iL (k:=_) (v:=_) (SqL.of h3.bk.f) (atV (by rw[ft.oq.lf];exact mb.1)) ?_⟩⟩;refine(iI ⟨_,rfl,?_⟩);by_cases z1:0<q.fi.getD b 0
 ·rw[hG z1];refine iteT ?_;refine⟨_,rfl,x.s,_,x.sd,_,_,rfl,h3.o,(cl2 x.hC T.bJ T.bK),(na2 x.hC T.bM T.bQ),rfl,iF h3.te T.bU T.bT rfl (iI ⟨_,rfl,?_⟩)⟩;by_cases z2:q.fi.getD b 0<m.pg
  ·rw[hG z2];have z:=k H2 (s1.trans sm);unfold jK at z;rw[y1 (by unfold jW;rw[hG z1,hG (by rw[←ft.eP];exact z2)];rfl)]at z;exact iteT ⟨_,rfl,z⟩
  rw[hX z2];exact iteF ⟨_,rfl,sm,y2 (by unfold jW;rw[hG z1,hX (by rw[←ft.eP];exact z2)];rfl)⟩
 rw[hX z1];exact iteF ⟨_,rfl,iteF ⟨_,rfl,sm,y2 (by unfold jW;rw[hX z1];rfl)⟩⟩
obtain⟨y',rfl,sm,hn⟩:=hp
rw[kB,gK]at hn
have z:=k H2 (s1.trans sm)
unfold jK at z
rw[hn]at z
exact z)
noncomputable def spSp(t:Adr):Sp:=λvs H Q _=>∃x r2 r3 r4 r5 m q,vs=[.ref x.s]∧StAt t H x r2 r3 r4 r5 m q∧Fit m q∧∀l H',FreeIs q.B m.br m.cl q.fi l→Keep [t.bH] H H'→TbF t H'→Q (pgV q.P q.fi (q15 q.B q.P m.br q.fi l)) H'
theorem q6Z(T:Txt K mg t)(S:Fns K t)(B:BmIn base mg):S.aA4.Ok0 P w mg base 9 (spSp t):=by(
refine S.aA4.F.ok0 q00 λcdv A _ s H vs Q E hr h=>?_
obtain⟨x,r2,r3,r4,r5,m,q,rfl,hs,ft,k⟩:=h
refine⟨_,(qB (qW (i:=1) q00.nd rfl (Or.inl rfl) (qU (pv 0) (cl2 x.hC T.bJ T.bK) (m2 x.hC T.tH T.t8) (q02 T S).mono hr S.oJ.b .nil qK)) (qB (jE (qS q4W (pv 1) uY (qT _)) (qD (qN (qP uZ (qP uH (pv 1) (qJ (qJ (pv 0) rfl) rfl)) (jA jQ (qJ (qJ (pv 0) rfl) rfl) (pv 1) (λ_ _=>rfl))))) qQ) (qB (qW (i:=2) q00.nd rfl (Or.inl rfl) (qU (pv 0) (cl2 x.hC T.bJ T.bK) (m2 x.hC T.tM T.aAA) (q01 T S B).mono hr S.tL .nil qK)) (qB (jE (qS (q3X hr.units) (pv 2) (jR qF) (qT _)) (qD (qN uY)) qQ) (qD (qN (qP uH (jA jQ (pv 2) qI (λ_ _=>rfl)) (qJ (qJ (pv 0) rfl) rfl)))))))),?_⟩
try dsimp-beta-proj-iota-zeta-eta only[wishK,cxK]
refine(iV rfl (iM hs.o rfl ⟨x,r2,r3,r4,r5,m,q,rfl,hs,ft,λH1 s1=>?_⟩))
have h1:=hs.same s1
have b2:=ft.oq.b2
have p2:=ft.oq.p2
have eP:=ft.eP
cases hpn:jK q.B q.P m.br q.fi with
|some b=>
 have hb:=q0Q hpn;refine⟨_,rfl,rfl,_,rfl,iteT ?_⟩;refine⟨_,rfl,_,rfl,x.s,_,x.sd,_,_,rfl,h1.o,(cl2 x.hC T.bJ T.bK),(na2 x.hC T.bM T.bQ),rfl,iF h1.te T.bU T.bT rfl (iI ⟨.inl ⟨by lia,by lia⟩,?_⟩)⟩;refine⟨_,rfl,x.s,_,x.sd,_,_,rfl,h1.o,(cl2 x.hC T.bJ T.bK),(na2 x.hC T.bN T.bS),rfl,iF h1.bk.o T.bR T.bV rfl ⟨_,rfl,iL (k:=_) (v:=_) (SqL.of h1.bk.f) (atV (by rw[ft.oq.lf];exact hb.1)) (iI ?_)⟩⟩;obtain⟨l,hl⟩:=FreeIs.ex q.B m.br m.cl q.fi;have kk:=k l H1 hl (Keep.same s1) h1.tb;unfold q15 at kk;rw[hpn]at kk;have e:pgV q.P q.fi (some b)=V.int ((b:Int)*m.pg+q.fi.getD b 0):=by rw[eP];rfl
 have kk:Q (pgV q.P q.fi (some b)) H1:=kk;rw[e]at kk;exact kk
|none=>
 refine⟨_,rfl,rfl,_,rfl,iteF ?_⟩;refine(iV rfl (iM h1.o rfl ⟨x,r2,r3,r4,r5,m,q,rfl,h1,ft,λl p H2 hl np k2 tb2 h2=>?_⟩));have h2':=h1.kT k2 tb2;refine⟨_,rfl,sz0,λe H3 n3 s3 h3=>⟨p,_,e,rfl,rfl,SqL.of (s3 _ _ h2),SqL.of h3,_,rfl,?_⟩⟩;have h3':=h2'.same s3;have kk:=k l H3 hl (((Keep.same s1).trans k2).trans (Keep.same s3)) (tb2.same s3);unfold q15 at kk;rw[hpn]at kk;cases l with
 |nil=>refine iteT ?_;exact kk
 |cons b r=>
  refine iteF ?_;have hb:=hl.mem (kX (a:=b) (l:=r));refine⟨_,rfl,iL (k:=0) (v:=.int (b:Int)) (SqL.of (s3 _ _ h2)) (v8 (j:=0) rfl) ⟨_,rfl,x.s,_,x.sd,_,_,rfl,h3'.o,(cl2 x.hC T.bJ T.bK),(na2 x.hC T.bM T.bQ),rfl,iF h3'.te T.bU T.bT rfl (iI ⟨.inl ⟨by lia,by lia⟩,?_⟩)⟩⟩;have e:pgV q.P q.fi ((b::r).head?)=V.int ((b:Int)*m.pg):=by show V.int ((b:Int)*(q.P:Int)+q.fi.getD b 0)=_;rw[hb.2.2,eP,Int.add_zero]
  have kk:Q (pgV q.P q.fi ((b::r).head?)) H3:=kk;rw[e]at kk;exact kk)
noncomputable def qBV(t:Adr):Sp:=λvs H Q E=>∃x r2 r3 r4 r5 m q n v,vs=[.ref x.s,.int n,.int v]∧StAt t H x r2 r3 r4 r5 m q∧Fit m q∧Gd m∧m.rc.length<1000000∧∀l,FreeIs q.B m.br m.cl q.fi l→∃b f:Nat,q15 q.B q.P m.br q.fi l=some b∧q.fi.getD b 0=(f:Int)∧m.bo.getD (b*q.P+f) .non=.non∧(m.lf=some 0→∀H',Keep (t.bH::sf x) H H'→StAt t H' x r2 r3 r4 r5 m q→E (.ref t.C_PowerGone) none H')∧(m.lf≠some 0→∀tp H',H' tp=some (.tup [.int (q.nx*128+n),.int v])→Keep (t.bH::sf x) H H'→StAt t H' x r2 r3 r4 r5 (putC m (b*q.P+f) (.ref tp)) (q.put b f n)→Q (.int ((b*q.P+f:Nat):Int)) H')
theorem StAt.put{H H':Hp}{x:Sto}{r2 r3 r4 r5:V}{m m':CM}{q:QM}(h:StAt t H x r2 r3 r4 r5 m q)(hc:ChipAt t.C_Chip H' x.c x.a m')(k:Keep (foot x.c x.a) H H')(e1:m'.bl=m.bl)(e2:m'.pg=m.pg):StAt t H' x r2 r3 r4 r5 m' q:=by have nf:∀b∈bf x.k,b∉foot x.c x.a:=λb hb z=>h.d1 b (hU _ z) hb;have n2:∀b∈[x.s,x.tm],b∉foot x.c x.a:=λb hb z=>h.d2 b hb (by unfold sf;exact gO _ z);refine⟨k.k _ _ (n2 _ (by simp)) h.o,by rw[e1,e2];exact k.k _ _ (n2 _ (by simp)) h.te,hc,h.bk.keep k nf,h.tb.gen λb o to e=>k.k _ _ (λz=>h.nX e to (kU _ (hU _ (by unfold sf;exact gO _ z)))) e,h.ds,h.d1,h.d2⟩
theorem StAt.note{H H':Hp}{x:Sto}{r2 r3 r4 r5:V}{m:CM}{q q':QM}(h:StAt t H x r2 r3 r4 r5 m q)(hb:BkAt t H' x.k q')(k:Keep (bf x.k) H H'):StAt t H' x r2 r3 r4 r5 m q':=by have n2:∀b∈[x.s,x.tm],b∉bf x.k:=λb hb z=>h.d2 b hb (by unfold sf;exact kU _ z);refine⟨k.k _ _ (n2 _ (by simp)) h.o,k.k _ _ (n2 _ (by simp)) h.te,h.ch.keep k h.d1,hb,h.tb.gen λb o to e=>k.k _ _ (λz=>h.nX e to (kU _ (hU _ (by unfold sf;exact kU _ z)))) e,h.ds,h.d1,h.d2⟩
theorem q3R(T:Txt K mg t)(S:Fns K t)(B:BmIn base mg):S.i8.OkE P w mg base 10 (qBV t):=by(
refine S.i8.F.okE zI (λvs H Q E h=>?_) (λcdv A outer s H vs Q E hr h=>?_)
·repeat obtain⟨_,h⟩:=h
 all_goals subst_vars;rfl
obtain⟨x,r2,r3,r4,r5,m,q,n,v,rfl,hs,ft,gd,hrc,k⟩:=h
refine⟨_,(qB (qW (i:=3) zI.nd rfl (Or.inl rfl) (qU (pv 0) (cl2 x.hC T.bJ T.bK) (m2 x.hC T.aC8 T.aDU) (q6Z T S B).mono hr S.aA4.b .nil qK)) (qB (jE (qS qA2 (pv 3) uY (qT _)) (qD jD) qQ) (qB (qY (jO j9 (qJ (pv 0) rfl) T.bL T.aD5 (q9S T S).mono hr S.aCO.b .nil (qA (pv 3) (qA (uJ (qA (qV (qJ (pv 0) rfl) T.bR T.aDW (q8N T S).mono hr S.aBJ.b .nil qK (qA (pv 1) qF)) (qA (pv 2) qF))) qF q5N)))) (qB (qY (qV (qJ (pv 0) rfl) T.bR T.aDX (q8O T S).mono hr S.aB0.b .nil qK (qA (pv 3) (qA (pv 1) qF)))) (qD (qN (pv 3))))))),?_⟩
try dsimp-beta-proj-iota-zeta-eta only[wishK,cxK]
refine(iV rfl (iM hs.o rfl ⟨x,r2,r3,r4,r5,m,q,rfl,hs,ft,λl H1 hl k1 tb1=>?_⟩))
have hs1:=hs.kT k1 tb1
obtain⟨b,f,hsp,ef,hn,dk,kk⟩:=k l hl
rw[hsp]
obtain⟨hB,hbr,f0,f1⟩:=q9H hl ft.oq.p1 hsp
have hf:f<q.P:=by lia
have epg:pgV q.P q.fi (some b)=V.int ((b*q.P+f:Nat):Int):=by show V.int ((b:Int)*(q.P:Int)+q.fi.getD b 0)=_;rw[ef,aF,dS]
rw[epg]
refine⟨_,rfl,rfl,_,rfl,iteF ?_⟩
refine⟨_,rfl,x.s,_,x.sd,_,_,rfl,hs1.o,(cl2 x.hC T.bJ T.bK),(na2 x.hC T.bZ T.eI),rfl,iM hs1.ch.ins rfl ⟨_,rfl,?_⟩⟩
refine⟨_,rfl,x.s,_,x.sd,_,_,rfl,hs1.o,(cl2 x.hC T.bJ T.bK),(na2 x.hC T.bN T.bS),rfl,iM hs1.bk.o rfl ⟨_,rfl,x.k,q,n,rfl,hs1.bk,_,rfl,sz2,λtp H2 n2 s2 e2=>?_⟩⟩
have hs2:=hs1.same s2
have hpg:((b*q.P+f:Nat):Int)≤m.bl*m.pg-1:=by rw[ft.eB,ft.eP,←dS];have:b*q.P+f<q.B*q.P:=(nV (by lia)).mp (by rw[yC hf];exact hB);lia
refine⟨x.c,x.a,m,_,.ref tp,rfl,hs2.ch,ft.ok,hrc,gd,hpg,hn,λz=>dk z H2 ((k1.mono (by simp)).trans (Keep.same s2)) hs2,λz H3 hc3 k3=>?_⟩
have hs3:=hs2.put hc3 k3 rfl rfl
refine⟨_,rfl,x.s,_,x.sd,_,_,rfl,hs3.o,(cl2 x.hC T.bJ T.bK),(na2 x.hC T.bN T.bS),rfl,iM hs3.bk.o rfl ⟨_,rfl,_,rfl,x.k,q,b,f,n,rfl,hs3.bk,ft.oq,hs3.ds,hB,hf,ef,λH4 hb4 k4=>⟨_,rfl,?_⟩⟩⟩
exact kk z tp H4 (k4.tp _ _ (k3.tp _ _ e2)) ((((k1.mono (by simp)).trans (Keep.same s2)).trans (k3.mono (λb hb=>by unfold sf;exact hU _ (gO _ hb)))).trans (k4.mono (λb hb=>by unfold sf;exact hU _ (kU _ hb)))) (hs3.note hb4 k4))
theorem q13(T:Txt K mg t)(S:Fns K t)(B:BmIn base mg):S.o8.OkE P w mg base 11 (qBV t):=by(
refine S.o8.F.okE q8G (λvs H Q E h=>?_) (λcdv A outer s H vs Q E hr h=>?_)
·repeat obtain⟨_,h⟩:=h
 all_goals subst_vars;rfl
obtain⟨x,r2,r3,r4,r5,m,q,n,v,rfl,hs,k⟩:=h
refine⟨_,(qD (qN (jO j9 (pv 0) (cl2 x.hC T.bJ T.bK) (m2 x.hC T.aBB T.aBZ) (q3R T S B).mono hr S.i8.b .nil (qA (pv 1) (qA (pv 2) qF))))),?_⟩
try dsimp-beta-proj-iota-zeta-eta only[wishK,cxK]
exact(iV rfl (iM hs.o rfl ⟨_,rfl,_,rfl,x,r2,r3,r4,r5,m,q,n,v,rfl,hs,k⟩)))
theorem bor(a b:Nat):Builtin.bitOr (a:Int) (b:Int)=((a|||b:Nat):Int):=by(
have e:∀c:Nat,Builtin.bitNot (Builtin.bitNot (c:Int))=(c:Int):=λc=>by unfold Builtin.bitNot;lia
have n:∀c:Nat,decide (0≤Builtin.bitNot (c:Int))=false:=λc=>hX (by unfold Builtin.bitNot;lia)
unfold Builtin.bitOr Builtin.bitAnd
rw[n a,n b]
show Builtin.bitNot (Builtin.bitNot (((Builtin.bitNot (Builtin.bitNot (a:Int))).toNat|||(Builtin.bitNot (Builtin.bitNot (b:Int))).toNat:Nat):Int))=_
rw[e,e a,e b,mQ,mQ])
noncomputable abbrev vN(ks:List Nat):List V:=ks.map λ(k:Nat)=>V.int (k:Int)
noncomputable def spBo(K:W.Frag):Sp:=λvs H Q _=>∃l ss,vs=[.ref l]∧SqL K H l (vN ss)∧(∀s∈ss,s<64)∧Q (.int ((orB ss 0:Nat):Int)) H
theorem q9T(s:Nat):∀(l:List Nat) (b:Nat),orB (l++[s]) b=orB l b|||2 ^ s
| [],b=>rfl
|x::r,b=>q9T s r _
theorem q6D(T:Txt K mg t)(S:Fns K t):S.aCM.Ok0 P w mg base 1 (spBo K):=by(
refine S.aCM.F.ok0 q10 λcdv A _ s H vs Q E hr h=>?_
obtain⟨l,ss,rfl,hl,hs,q⟩:=h
refine⟨_,(qB (qW (i:=1) q10.nd rfl (Or.inl rfl) qI) (qB (zL rU rfl (y8 (pv 0)) (qZ (i:=2) q10.nd rfl (Or.inl rfl)) (qD (qW (i:=1) q10.nd rfl (Or.inl rfl) (qP qK3 (pv 1) (qP qI0 qI (pv 2)))))) (qD (qN (pv 1))))),?_⟩
try dsimp-beta-proj-iota-zeta-eta only[wishK,cxK]
refine⟨_,rfl,l,rfl,⟨_,hl⟩,?_⟩
refine vR (K:=K) (xs:=vN ss) (λi σ' H2=>∃y,σ'=[some (.ref l),some (.int ((orB (ss.take i) 0:Nat):Int)),y]∧H2=H) ⟨_,rfl,rfl⟩ (λi σ' H2 hi hp=>?_) (λi x σ' H2 hx hp=>?_) (λσ' H2 hp=>?_)
·obtain⟨y,rfl,rfl⟩:=hp;exact hl
·obtain⟨y,rfl,rfl⟩:=hp;rw[mB]at hx;obtain⟨n,hn,rfl⟩:=mI.mp hx;obtain⟨hi,rfl⟩:=kD.mp hn;have:=hs _ (gJ hi);refine⟨_,rfl,_,rfl,iI ⟨⟨by lia,by lia,by decide⟩,iI ?_⟩⟩;have e:(1:Int)*2 ^ ((ss[i]:Nat):Int).toNat=((2 ^ ss[i]:Nat):Int):=by rw[Int.one_mul,mQ];exact(Int.natCast_pow 2 _).symm
 try dsimp only
 rw[e,bor];refine⟨some (.int ((ss[i]:Nat):Int)),?_,rfl⟩;rw[←mY hi,q9T];rfl
obtain⟨y,rfl,rfl⟩:=hp
rw[show(vN ss).length=ss.length by simp[vN],gK]
exact⟨_,rfl,q⟩)
noncomputable def hdN(W:Mp):List Int:=(W.map (·.1)).filter λn=>decide (n≠64)
noncomputable def spHe(t:Adr):Sp:=λvs H Q _=>∃a,∃m:QM,vs=[.ref a.bk]∧BkAt t H a m∧m.Ok∧(hdN m.V).length<64∧∀l ns H',Same H H'→H l=none→H' l=some (.lst (List.map V.int ns))→ns.Perm (hdN m.V)→ns.Pairwise (·≤·)→Q (.ref l) H'
theorem q8P(T:Txt K mg t)(S:Fns K t):S.aBO.Ok0 P w mg base 1 (spHe t):=by(
refine S.aBO.F.ok0 q8F λcdv A _ s H vs Q E hr h=>?_
obtain⟨a,m,rfl,hb,ok,hl64,q⟩:=h
have hu:=q5L hr
have lV:m.V.length≤65:=ok.lenV
refine⟨_,(qD (qN (jT q81 (by rfl) T.aBH (by kernel_rfl) (qA (qBB (v9 ["name"] [] rfl (qG3 (qJ (pv 0) rfl)) (λ_ _ _ _ _=>(qZ (i:=0) (show List.Nodup (["name"]:List Str)from by decide) rfl (Or.inl rfl))) (λ_ _ _ _ _=>(uK (qS q5D (pv 0) (q27 rfl T.aDK ⟨_,rfl⟩ (v:=.int 64)) (qT _)))) (λ_ _ _ _ _=>(pv 0)) (by kernel_rfl) (yJ (by decide)))) qF)))),?_⟩
try dsimp-beta-proj-iota-zeta-eta only[wishK,cxK]
refine⟨a.wv,_,hb.w,iV rfl (iF hb.o T.bR T.e9 rfl ⟨a.wv,_,rfl,hb.w,λo D H2 nD s2 hD=>?_⟩)⟩
have kk:∀x u,x≠a.wv→H x=some u→H2 x=some u:=λx u nx e=>s2 _ _ (by rw[qC nx];exact e)
have fz:H2 a.wv=some (.frz o (.dK (dI m.V))):=s2 _ _ qG
have Dw:D≠a.wv:=λz=>by rw[z,fz]at hD;cases hD
have nDH:H D=none:=by rw[qC Dw]at nD;exact nD
refine qED (D:=D) (λi H3=>H3 a.wv=some (.frz o (.dK (dI m.V)))∧(∀x u,x≠a.wv→H x=some u→H3 x=some u)∧H3 D=some (.lst ((hdN (m.V.take i)).map V.int))) ⟨fz,kk,hD⟩ (λi H3 hp=>hp.1) (λi kv H3 hk hp=>?_) (λH3 hp=>?_)
·obtain⟨fz3,k3,hd⟩:=hp;have hi:i<m.V.length:=by have:=(kD.mp hk).1;rw[q6B]at this;exact this
 obtain rfl:((Sum.inl m.V[i].1:Key),V.int m.V[i].2)=kv:=by
  have e:(dI m.V)[i]?=some ((Sum.inl m.V[i].1:Key),V.int m.V[i].2):=by unfold dI;rw[mB,kC hi];rfl
  rw[e]at hk;exact kM hk
 have tk:m.V.take (i+1)=m.V.take i++[m.V[i]]:=(mY hi).symm;show q2N _ (V.int m.V[i].1) _ _ _;refine⟨_,rfl,rfl,_,rfl,?_⟩;rw[q2U];by_cases e:m.V[i].1=64
 ·rw[hG e];refine iteF ?_;refine⟨fz3,k3,?_⟩;have:hdN (m.V.take (i+1))=hdN (m.V.take i):=by unfold hdN;rw[tk,m8,gU];simp[e]
  rw[this];exact hd
 rw[hX e];refine iteT ?_;refine⟨_,rfl,_,hd,?_,?_,λx u nx e'=>?_,?_⟩
 ·rw[kB];have l2:(hdN (m.V.take i)).length≤65:=by unfold hdN;refine mF (mE _ _) ?_;rw[kB,gX];lia
  have:(65:Nat)<sizeLine:=by decide
  lia
 ·rw[qC Dw.symm];exact fz3
 ·rw[qC (qH e' nDH)];exact k3 _ _ nx e'
 have:hdN (m.V.take (i+1))=hdN (m.V.take i)++[m.V[i].1]:=by unfold hdN;rw[tk,m8,gU];simp[e]
 rw[qG,this,m8];rfl
obtain⟨fz3,k3,hd⟩:=hp
rw[q6B,gK]at hd
refine⟨o,_,fz3,?_⟩
have sH:Same H (upd H3 a.wv (.dK (dI m.V))):=qEE hb.w k3
have hd4:(upd H3 a.wv (.dK (dI m.V))) D=some (.lst ((hdN m.V).map V.int)):=by rw[qC Dw];exact hd
generalize upd H3 a.wv (.dK (dI m.V))=H4 at sH hd4 ⊢
refine⟨D,hdN m.V,rfl,SqL.of hd4,by lia,λns pp pw l H5 n5 s5 h5=>?_⟩
exact q l ns H5 (sH.trans s5) (sH.free n5) h5 pp pw)
structure HeldIs(q:QM)(ns:List Int):Prop where
pm:ns.Perm (hdN q.V)
so:ns.Pairwise (·≤·)
noncomputable def spHd(t:Adr):Sp:=λvs H Q _=>∃x r2 r3 r4 r5 m q,vs=[.ref x.s]∧StAt t H x r2 r3 r4 r5 m q∧Fit m q∧(hdN q.V).length<64∧∀l ns H',HeldIs q ns→Same H H'→H l=none→H' l=some (.lst (List.map V.int ns))→Q (.ref l) H'
theorem q03(T:Txt K mg t)(S:Fns K t):S.oG.Ok0 P w mg base 2 (spHd t):=by(
refine S.oG.F.ok0 q6T λcdv A _ s H vs Q E hr h=>?_
obtain⟨x,r2,r3,r4,r5,m,q,rfl,hs,ft,h64,k⟩:=h
refine⟨_,(qD (qN (qU (qJ (pv 0) rfl) T.bR T.aDT (q8P T S).mono hr S.aBO.b .nil qK))),?_⟩
try dsimp-beta-proj-iota-zeta-eta only[wishK,cxK]
exact⟨_,rfl,x.s,_,x.sd,_,_,rfl,hs.o,(cl2 x.hC T.bJ T.bK),(na2 x.hC T.bN T.bS),rfl,iM hs.bk.o rfl ⟨x.k,q,rfl,hs.bk,ft.oq,h64,λl ns H' s' n' h' pm so=>k l ns H' ⟨pm,so⟩ s' n' h'⟩⟩)
noncomputable def spCs(t:Adr):Sp:=λvs H Q E=>∃x r3 r4 r5 m q v,∃sh:Int,vs=[.ref x.s,v]∧StAt t H x (.int sh) r3 r4 r5 m q∧Knd H v∧(if inB v 0 (sh-1)=true then Q .non H else False)
theorem vF(T:Txt K mg t)(S:Fns K t):S.eZ.Ok0 P w mg base 3 (spCs t):=by(
refine S.eZ.F.ok0 q1V λcdv A _ s H vs Q E hr h=>?_
obtain⟨x,r3,r4,r5,m,q,v,sh,rfl,hs,kn,k⟩:=h
refine⟨_,(qD (jE (uG (yK (qX (jI T S).mono hr rfl T.bX T.bW S.eG.b .nil qK (qA (pv 1) (qA qI (qA (qP yZ (qJ (qJ (pv 0) rfl) rfl) qI) qF)))))) (qD jD) qQ)),?_⟩
try dsimp-beta-proj-iota-zeta-eta only[wishK,cxK]
refine⟨_,rfl,_,rfl,x.s,_,x.sd,_,_,rfl,hs.o,(cl2 x.hC T.bJ T.bK),(na2 x.hC T.bM T.bQ),rfl,iF hs.te T.bU T.o9 rfl (iI ⟨v,_,_,rfl,kn,_,rfl,?_⟩)⟩
cases z:inB v 0 (sh-1)with
|true=>rw[z,kJ rfl]at k;exact iteF k
|false=>rw[z,kF (by decide)]at k;exact k.elim)
theorem q9U(T:Txt K mg t)(S:Fns K t):S.aCV.Ok0 P w mg base 3 (λvs H Q _=>∃v,vs=[v]∧Knd H v∧Q (.bl (inB v 0 (10 ^ 30-1))) H):=by(
refine S.aCV.F.ok0 q9O λcdv A _ s H vs Q E hr h=>?_
obtain⟨v,rfl,kn,k⟩:=h
refine⟨_,(qD (qN (qX (jI T S).mono hr rfl T.bX T.bW S.eG.b .nil qK (qA (pv 0) (qA qI (qA (qP yZ (qP qA1 qI qI) qI) qF)))))),?_⟩
try dsimp-beta-proj-iota-zeta-eta only[wishK,cxK]
exact⟨_,rfl,iI ⟨⟨by decide,by decide,by decide⟩,iI ⟨v,_,_,rfl,kn,k⟩⟩⟩)
noncomputable def hold(q:QM)(s:Int):Bool:=decide (s∈hdN q.V)
theorem q54{s:Int}:∀{ns:List Int},inV (.int s) (ns.map V.int)=decide (s∈ns)
| []=>rfl
|n::r=>by
 have ih:=q54 (s:=s) (ns:=r);unfold inV at ih ⊢;rw[mL,cL,ih];by_cases e:n=s
 ·subst e;simp[eqV]
 have e':¬s=n:=λz=>e z.symm;simp[eqV,e,e']
theorem qF7{ns:List Int}:(ns.map V.int).all zG=true:=by(
rw[dY]
intro v hv
obtain⟨n,_,rfl⟩:=kZ.mp hv
rfl)
theorem HeldIs.hold{q:QM}{ns:List Int}(h:HeldIs q ns)(s:Int):decide (s∈ns)=hold q s:=by(
unfold W1.hold
by_cases z:s∈ns
·rw[hG z,hG (h.pm.mem_iff.mp z)]
rw[hX z,hX (λy=>z (h.pm.mem_iff.mpr y))])
noncomputable def spSh(t:Adr):Sp:=λvs H Q E=>∃x r2 r4 r5 m q,∃s sr:Int,vs=[.ref x.s,.int s]∧StAt t H x r2 (.int sr) r4 r5 m q∧Fit m q∧(hdN q.V).length<64∧∀H',Same H H'→if hold q s=false∧sr≤((hdN q.V).length:Int)then False else Q .non H'
theorem q22(T:Txt K mg t)(S:Fns K t):S.fU.Ok0 P w mg base 3 (spSh t):=by(
refine S.fU.F.ok0 vE λcdv A _ s H vs Q E hr h=>?_
obtain⟨x,r2,r4,r5,m,q,s,sr,rfl,hs,ft,h64,k⟩:=h
refine⟨_,(qB (qW (i:=2) vE.nd rfl (Or.inl rfl) (qU (pv 0) (cl2 x.hC T.bJ T.bK) (m2 x.hC T.tQ T.aAJ) (q03 T S).mono hr S.oG.b .nil qK)) (qD (jE (PW.pt (qCV (qS q3H (pv 1) (pv 2) rfl) (qAY (qS qB2 (jT jV (by rfl) T.aB4 dO (qA (pv 2) qF)) (qJ (qJ (pv 0) rfl) rfl) (qT _))))) (qD jD) qQ))),?_⟩
try dsimp-beta-proj-iota-zeta-eta only[wishK,cxK]
refine(iV rfl (iM hs.o rfl ⟨x,r2,.int sr,r4,r5,m,q,rfl,hs,ft,h64,λl ns H1 hn s1 n1 h1=>?_⟩))
refine⟨_,rfl,_,rfl,?_⟩
refine⟨l,_,rfl,.inl (SqL.of h1),rfl,qF7,_,rfl,?_⟩
have kk:=k H1 s1
have e:inV (.int s) (ns.map V.int)=hold q s:=by rw[q54];exact hn.hold s
show if(!inV (.int s) (ns.map V.int))=true then _ else _
rw[e]
cases z:hold q s with
|true=>rw[z,kF (λy=>by cases y.1)]at kk;exact iteF kk
|false=>
 refine iteT ?_;refine⟨_,rfl,l,_,rfl,.inl (SqL.of h1),_,rfl,x.s,_,x.sd,_,_,rfl,(hs.same s1).o,(cl2 x.hC T.bJ T.bK),(na2 x.hC T.bM T.bQ),rfl,iF (hs.same s1).te T.bU T.tY rfl (iI ⟨_,rfl,?_⟩)⟩;rw[kB,hn.pm.length_eq];by_cases y:sr≤((hdN q.V).length:Int)
 ·rw[hG y];rw[kJ ⟨z,y⟩]at kk;exact kk.elim
 rw[hX y];rw[kF (λw=>y w.2)]at kk;exact iteF kk)
noncomputable def spRs(t:Adr):Sp:=λvs H Q _=>∃x r2 r3 r5 m q,∃ie:Int,vs=[.ref x.s]∧StAt t H x r2 r3 (.int ie) r5 m q∧Q (.int (1+ie)) H
theorem q0F(T:Txt K mg t)(S:Fns K t):S.iE.Ok0 P w mg base 1 (spRs t):=by(
refine S.iE.F.ok0 q47 λcdv A _ s H vs Q E hr h=>?_
obtain⟨x,r2,r3,r5,m,q,ie,rfl,hs,k⟩:=h
refine⟨_,(qD (qN (qP uZ qI (qJ (qJ (pv 0) rfl) rfl)))),?_⟩
try dsimp-beta-proj-iota-zeta-eta only[wishK,cxK]
exact⟨_,rfl,x.s,_,x.sd,_,_,rfl,hs.o,(cl2 x.hC T.bJ T.bK),(na2 x.hC T.bM T.bQ),rfl,iF hs.te T.bU T.tD rfl (iI k)⟩)
noncomputable def spRd(t:Adr):Sp:=λvs H Q _=>∃x r2 r3 r5 m q,∃ie:Int,vs=[.ref x.s]∧StAt t H x r2 r3 (.int ie) r5 m q∧Fit m q∧∀l H',FreeIs q.B m.br m.cl q.fi l→Keep [t.bH] H H'→TbF t H'→Q (.bl (rdy ie l (jK q.B q.P m.br q.fi))) H'
theorem q6E(T:Txt K mg t)(S:Fns K t)(B:BmIn base mg):S.aAD.Ok0 P w mg base 9 (spRd t):=by(
refine S.aAD.F.ok0 q1U λcdv A _ s H vs Q E hr h=>?_
obtain⟨x,r2,r3,r5,m,q,ie,rfl,hs,ft,k⟩:=h
refine⟨_,(qB (qW (i:=1) q1U.nd rfl (Or.inl rfl) (qP yZ (jT jV (by rfl) T.aB4 dO (qA (qU (pv 0) (cl2 x.hC T.bJ T.bK) (m2 x.hC T.tM T.aAA) (q01 T S B).mono hr S.tL .nil qK) qF)) (qU (pv 0) (cl2 x.hC T.bJ T.bK) (m2 x.hC T.tJ T.t6) (q0F T S).mono hr S.iE.b .nil qK))) (qD (qN (qH9 (v7 qHB (pv 1) qI (qT _)) (q2T (q59 (v7 q04 (pv 1) qI (qT _)) (q2T (v7 q4W (qU (pv 0) (cl2 x.hC T.bJ T.bK) (m2 x.hC T.tH T.t8) (q02 T S).mono hr S.oJ.b .nil qK) uY (qT _))))))))),?_⟩
try dsimp-beta-proj-iota-zeta-eta only[wishK,cxK]
refine(iV rfl (iM hs.o rfl ⟨x,r2,r3,_,r5,m,q,rfl,hs,ft,λl p H1 hl np k1 tb1 h1=>?_⟩))
have hs1:=hs.kT k1 tb1
refine⟨p,_,rfl,.inl (SqL.of h1),iV rfl (iM hs1.o rfl ⟨x,r2,r3,r5,m,q,ie,rfl,hs1,_,_,rfl,rfl,?_⟩)⟩
refine⟨_,rfl,_,_,rfl,rfl,_,rfl,?_⟩
have kk:=λH' s'=>k l H' hl (k1.trans (Keep.same s')) (tb1.same s')
unfold rdy at kk
rw[kB]
by_cases z:(l.length:Int)-(1+ie)>0
·rw[hG z];refine iteT ?_;have:=kk H1 (Same.refl H1);rw[hG z]at this;exact this
rw[hX z]
refine iteF ?_
rw[hX z]at kk
refine⟨_,rfl,rfl,_,rfl,?_⟩
rw[q2U]
by_cases e0:(l.length:Int)-(1+ie)=0
·rw[hG e0];rw[hG e0]at kk;refine iteT ?_;refine(iV rfl (iM hs1.o rfl ⟨x,r2,r3,_,r5,m,q,rfl,hs1,ft,λH2 s2=>⟨rfl,?_⟩⟩));have:=kk H2 s2;cases hp:jK q.B q.P m.br q.fi with
 |none=>rw[hp]at this;exact this
 |some b=>rw[hp]at this;exact this
rw[hX e0]
rw[hX e0]at kk
refine iteF ?_
exact kk H1 (Same.refl H1))
noncomputable def spTy(t:Adr):Sp:=λvs H Q _=>∃x r2 r3 r4 r5 m q,∃b:Nat,vs=[.ref x.s,.int (b:Int)]∧StAt t H x r2 r3 r4 r5 m q∧Fit m q∧b<q.B∧NewO H (.tup (tyL m q b)) Q
theorem q6F(T:Txt K mg t)(S:Fns K t):S.aAE.Ok0 P w mg base 5 (spTy t):=by(
refine S.aAE.F.ok0 q64 λcdv A _ s H vs Q E hr h=>?_
obtain⟨x,r2,r3,r4,r5,m,q,b,rfl,hs,ft,hb,k⟩:=h
have eB:=ft.eB
refine⟨_,(qD (qN (uJ (qA (pv 1) (qA (jA jQ (qJ (qJ (pv 0) rfl) rfl) (pv 1) (λ_ _=>rfl)) (qA (qV (qJ (pv 0) rfl) T.bL T.i9 (vK T S).mono hr S.f8.b .nil qK (qA (pv 1) qF)) (qA (jA jQ (qJ (qJ (pv 0) rfl) rfl) (pv 1) (λ_ _=>rfl)) qF))))))),?_⟩
try dsimp-beta-proj-iota-zeta-eta only[wishK,cxK]
refine⟨_,rfl,_,rfl,x.s,_,x.sd,_,_,rfl,hs.o,(cl2 x.hC T.bJ T.bK),(na2 x.hC T.bN T.bS),rfl,iF hs.bk.o T.bR T.iW rfl ⟨_,rfl,iL (k:=_) (v:=_) (SqL.of hs.bk.l) (atV (by rw[ft.oq.ll];exact hb)) ?_⟩⟩
refine⟨_,rfl,x.s,_,x.sd,_,_,rfl,hs.o,(cl2 x.hC T.bJ T.bK),(na2 x.hC T.bZ T.eI),rfl,iM hs.ch.ins rfl ⟨_,rfl,x.c,x.a,m,_,rfl,hs.ch,ft.ok,by lia,by lia,?_⟩⟩
rw[mQ]
refine⟨_,rfl,x.s,_,x.sd,_,_,rfl,hs.o,(cl2 x.hC T.bJ T.bK),(na2 x.hC T.bN T.bS),rfl,iF hs.bk.o T.bR T.iS rfl ⟨_,rfl,iL (k:=_) (v:=_) (SqL.of hs.bk.b) (atV (by rw[ft.oq.lo];exact hb)) ?_⟩⟩
exact⟨sz4,k⟩)
noncomputable def spSc(t:Adr):Sp:=λvs H Q _=>∃x r2 r3 r5 m q,∃ie:Int,vs=[.ref x.s]∧StAt t H x r2 r3 (.int ie) r5 m q∧Fit m q∧∀l H',FreeIs q.B m.br m.cl q.fi l→Keep [t.bH] H H'→TbF t H'→Q (.int (spcN ie l q.P q.fi (jK q.B q.P m.br q.fi))) H'
theorem q6G(T:Txt K mg t)(S:Fns K t)(B:BmIn base mg):S.aAM.Ok0 P w mg base 9 (spSc t):=by(
refine S.aAM.F.ok0 q1W λcdv A _ s H vs Q E hr h=>?_
obtain⟨x,r2,r3,r5,m,q,ie,rfl,hs,ft,k⟩:=h
have eP:=ft.eP
refine⟨_,(qB (jE (qS qB2 (jT jV (by rfl) T.aB4 dO (qA (qU (pv 0) (cl2 x.hC T.bJ T.bK) (m2 x.hC T.tM T.aAA) (q01 T S B).mono hr S.tL .nil qK) qF)) (qU (pv 0) (cl2 x.hC T.bJ T.bK) (m2 x.hC T.tJ T.t6) (q0F T S).mono hr S.iE.b .nil qK) (qT _)) (qD (qN (qJ (qJ (pv 0) rfl) rfl))) qQ) (qB (qW (i:=1) q1W.nd rfl (Or.inl rfl) (qU (pv 0) (cl2 x.hC T.bJ T.bK) (m2 x.hC T.tH T.t8) (q02 T S).mono hr S.oJ.b .nil qK)) (qB (jE (qS qA2 (pv 1) uY (qT _)) (qD (qN qI)) qQ) (qD (qN (qP yZ (qJ (qJ (pv 0) rfl) rfl) (jA jQ (qJ (qJ (pv 0) rfl) rfl) (pv 1) (λ_ _=>rfl)))))))),?_⟩
try dsimp-beta-proj-iota-zeta-eta only[wishK,cxK]
refine(iV rfl (iM hs.o rfl ⟨x,r2,r3,_,r5,m,q,rfl,hs,ft,λl p H1 hl np k1 tb1 h1=>?_⟩))
have hs1:=hs.kT k1 tb1
refine⟨p,_,rfl,.inl (SqL.of h1),iV rfl (iM hs1.o rfl ⟨x,r2,r3,r5,m,q,ie,rfl,hs1,_,_,rfl,rfl,_,rfl,?_⟩)⟩
have kk:=λH' s'=>k l H' hl (k1.trans (Keep.same s')) (tb1.same s')
unfold spcN at kk
rw[kB]
by_cases z:1+ie≤(l.length:Int)
·rw[hG (show(l.length:Int)≥1+ie from z)];refine iteT ?_;refine⟨_,rfl,x.s,_,x.sd,_,_,rfl,hs1.o,(cl2 x.hC T.bJ T.bK),(na2 x.hC T.bM T.bQ),rfl,iF hs1.te T.bU T.bT rfl ?_⟩;have:=kk H1 (Same.refl H1);rw[kJ z,←eP]at this;exact this
rw[hX (show ¬(l.length:Int)≥1+ie from z)]
refine iteF ?_
refine(iV rfl (iM hs1.o rfl ⟨x,r2,r3,_,r5,m,q,rfl,hs1,ft,λH2 s2=>?_⟩))
have kk:=kk H2 s2
rw[kF z]at kk
cases hp:jK q.B q.P m.br q.fi with
|none=>rw[hp]at kk;exact⟨_,rfl,rfl,_,rfl,iteT kk⟩
|some b=>rw[hp]at kk;have hs2:=hs1.same s2;refine⟨_,rfl,rfl,_,rfl,iteF ?_⟩;refine⟨_,rfl,x.s,_,x.sd,_,_,rfl,hs2.o,(cl2 x.hC T.bJ T.bK),(na2 x.hC T.bM T.bQ),rfl,iF hs2.te T.bU T.bT rfl ⟨_,rfl,x.s,_,x.sd,_,_,rfl,hs2.o,(cl2 x.hC T.bJ T.bK),(na2 x.hC T.bN T.bS),rfl,iF hs2.bk.o T.bR T.bV rfl ⟨_,rfl,iL (k:=_) (v:=_) (SqL.of hs2.bk.f) (atV (by rw[ft.oq.lf];exact(q0Q hp).1)) (iI ?_)⟩⟩⟩;rw[eP];exact kk)
noncomputable abbrev Tys(H:Hp)(m:CM)(q:QM):List V→List Nat→Prop:=Paired λv b=>∃p,v=.ref p∧H p=some (.tup (tyL m q b))
theorem q9V{F:List Addr}{H H':Hp}{m:CM}{q:QM}(k:Keep F H H'){rs:List V}{L:List Nat}(r:Tys H m q rs L):Tys H' m q rs L:=Paired.mapP r λv d ⟨p,e,h⟩=>⟨p,e,k.tp _ _ h⟩
noncomputable def spFo(t:Adr):Sp:=λvs H Q _=>∃x r2 r3 r5 m q,∃ie:Int,vs=[.ref x.s]∧StAt t H x r2 r3 (.int ie) r5 m q∧Fit m q∧∀l p rs H',FreeIs q.B m.br m.cl q.fi l→H p=none→Keep [t.bH] H H'→TbF t H'→H' p=some (.lst rs)→Tys H' m q rs ((jU q.B q.P m.br q.fi).filter λb=>decide (q.lv.getD b 0≤spcN ie l q.P q.fi (jK q.B q.P m.br q.fi)))→Q (.ref p) H'
theorem zE(T:Txt K mg t)(S:Fns K t)(B:BmIn base mg):S.fM.Ok0 P w mg base 10 (spFo t):=by(
refine S.fM.F.ok0 yG λcdv A _ s H vs Q E hr h=>?_
obtain⟨x,r2,r3,r5,m,q,ie,rfl,hs,ft,k⟩:=h
have b2:=ft.oq.b2
have eP:=ft.eP
have sz:(16:Nat)<sizeLine:=by decide
have fl:(jU q.B q.P m.br q.fi).length≤16:=mF (mE _ _) (mF (q1G (B:=q.B) (br:=m.br)) b2)
refine⟨_,(qB (qW (i:=1) yG.nd rfl (Or.inr rfl) (qU (pv 0) (cl2 x.hC T.bJ T.bK) (m2 x.hC T.aCJ T.aDA) (q6G T S B).mono hr S.aAM.b .nil qK)) (qB (q5T (i:=2) ["self","block"] [0] rfl (y8 (qU (pv 0) (cl2 x.hC T.bJ T.bK) (m2 x.hC T.iU T.oM) (vA T S).mono hr S.iJ.b .nil qK)) (λ_ _ _ _ _=>(qZ (i:=1) (show List.Nodup (["self","block"]:List Str)from by decide) rfl (Or.inl rfl))) (λ_ _ _ _ _=>(uK (qS q04 (jA (q9A (K:=K) rfl) (uL (K:=K) rfl (uL (K:=K) rfl (pv 0) rfl) rfl) (pv 1) (λ_ _=>rfl)) (uL (K:=K) rfl (uL (K:=K) rfl (pv 0) rfl) rfl) (qT _)))) (λ_ _ _ _ _=>(pv 1)) (by kernel_rfl) (yJ (by decide)) yG.nd rfl (Or.inl rfl)) (qB (q5T (i:=3) ["self","block"] [0] rfl (y8 (pv 2)) (λ_ _ _ _ _=>(qZ (i:=1) (show List.Nodup (["self","block"]:List Str)from by decide) rfl (Or.inl rfl))) (λ_ _ _ _ _=>qB7) (λ_ _ _ _ _=>(qV (pv 0) (cl2 x.hC T.bJ T.bK) (m2 x.hC T.aCT T.aDC) (q6F T S).mono hr S.aAE.b .nil qK (qA (pv 1) qF))) (by kernel_rfl) (yJ (by decide)) yG.nd rfl (Or.inl rfl)) (qD (qN (v9 ["space","tally"] [1] rfl (y8 (pv 3)) (λ_ _ _ _ _=>(qZ (i:=1) (show List.Nodup (["space","tally"]:List Str)from by decide) rfl (Or.inl rfl))) (λ_ _ _ _ _=>(uK (qS qD1 (jA (q2A (K:=K) rfl) (pv 1) qI (λ_ _=>rfl)) (pv 0) (qT _)))) (λ_ _ _ _ _=>(pv 1)) (by kernel_rfl) (yJ (by decide)))))))),?_⟩
try dsimp-beta-proj-iota-zeta-eta only[wishK,cxK]
refine(iV rfl (iM hs.o rfl ⟨x,r2,r3,r5,m,q,ie,rfl,hs,ft,λl H1 hl k1 tb1=>?_⟩))
have hs1:=hs.kT k1 tb1
have kk:=λp rs H' np k'=>k l p rs H' hl np (k1.trans k')
generalize spcN ie l q.P q.fi (jK q.B q.P m.br q.fi)=sp at kk
refine(iV rfl (iM hs1.o rfl ⟨x,r2,r3,_,r5,m,q,rfl,hs1,ft,λp H2 n2 s2 h2=>?_⟩))
refine⟨p,rfl,⟨_,SqL.of h2⟩,λD H3 nD s3 hD=>?_⟩
refine vC (K:=K) (xs:=(yY q.B m.br).map vn) (D:=D) (λi H3=>Same H2 H3∧H3 D=some (.lst ((((yY q.B m.br).take i).filter λb=>decide (q.fi.getD b 0=(q.P:Int))).map vn))) ⟨s3,hD⟩ (λi H3 hp=>SqL.of (hp.1 _ _ h2)) (λi y H3 hy hp=>?_) (λH3 hp=>?_)
·obtain⟨sm,hd⟩:=hp;have h3:=(hs1.same s2).same sm;rw[mB]at hy;obtain⟨b,hb,rfl⟩:=mI.mp hy;have hi:=(kD.mp hb).1;have mb:=q08.mp (gH hb);refine⟨_,rfl,x.s,_,x.sd,_,_,rfl,h3.o,(cl2 x.hC T.bJ T.bK),(na2 x.hC T.bN T.bS),rfl,iF h3.bk.o T.bR T.bV rfl ⟨_,rfl,iL (k:=_) (v:=_) (SqL.of h3.bk.f) (atV (by rw[ft.oq.lf];exact mb.1)) ⟨_,rfl,x.s,_,x.sd,_,_,rfl,h3.o,(cl2 x.hC T.bJ T.bK),(na2 x.hC T.bM T.bQ),rfl,iF h3.te T.bU T.bT rfl ⟨rfl,_,rfl,?_⟩⟩⟩⟩;rw[q2U,eP,←mY hi,gU,m8];obtain rfl:(yY q.B m.br)[i]=b:=(kD.mp hb).2;by_cases z:q.fi.getD (yY q.B m.br)[i] 0=(q.P:Int)
 ·rw[hG z];refine iteT ?_;refine⟨_,rfl,_,hd,?_,λb o e=>?_,?_⟩
  ·rw[kB];have l1:(((yY q.B m.br).take i).filter λb=>decide (q.fi.getD b 0=(q.P:Int))).length≤q.B:=mF (mE _ _) (mF (by rw[gX];lia) (q1G (B:=q.B) (br:=m.br)));lia
  ·rw[qC (qH e nD)];exact sm _ _ e
  rw[qG,m9,hG z];rfl
 rw[hX z];refine iteF ⟨sm,?_⟩;rw[hd,m9,hX z];simp
obtain⟨sm,hd⟩:=hp
rw[kB,gK]at hd
have hd:H3 D=some (.lst ((jU q.B q.P m.br q.fi).map vn)):=hd
have s13:=s2.trans sm
have h3:=hs1.same s13
refine⟨_,rfl,D,rfl,⟨_,SqL.of hd⟩,λD2 H4 nD2 s4 hD2=>?_⟩
refine q9B (K:=K) (xs:=(jU q.B q.P m.br q.fi).map vn) (D:=D2) (λi H5=>∃rs,Same H3 H5∧H5 D2=some (.lst rs)∧Tys H5 m q rs ((jU q.B q.P m.br q.fi).take i)) ⟨_,s4,hD2,.nil⟩ (λi H5 hp=>by obtain⟨rs,sm5,_⟩:=hp;exact SqL.of (sm5 _ _ hd)) (λi y H5 hy hp=>?_) (λH5 hp=>?_)
·obtain⟨rs,sm5,hd5,ty⟩:=hp;have h5:=h3.same sm5;rw[mB]at hy;obtain⟨b,hb,rfl⟩:=mI.mp hy;have hi:=(kD.mp hb).1;have mb:=q08.mp (mK.mp (gH hb)).1;obtain rfl:(jU q.B q.P m.br q.fi)[i]=b:=(kD.mp hb).2;have ln:=ty.len;rw[gX]at ln;refine(iV rfl (iM h5.o rfl ⟨_,rfl,x,r2,r3,_,r5,m,q,_,rfl,h5,ft,mb.1,λtp H6 n6 s6 h6=>⟨_,s6 _ _ hd5,by lia,?_⟩⟩));have ne:∀b o,H6 b=some (.tup o)→b≠D2:=λb o e z=>by rw[z,s6 _ _ hd5]at e;cases e
 refine⟨_,λb o e=>?_,qG,?_⟩
 ·rw[qC (qH e nD2)];exact s6 _ _ (sm5 _ _ e)
 rw[←mY hi];refine L2.Paired.snoc (Paired.mapP ty λv d ⟨p,e,h⟩=>⟨p,e,?_⟩) ⟨tp,rfl,?_⟩
 ·rw[qC (ne _ _ (s6 _ _ h))];exact s6 _ _ h
 rw[qC (ne _ _ h6)];exact h6
obtain⟨rs,sm5,hd5,ty⟩:=hp
rw[kB,gK]at ty
have s15:=s13.trans sm5
have h5:=hs1.same s15
refine⟨_,rfl,D2,rfl,⟨_,SqL.of hd5⟩,λD3 H6 nD3 s6 hD3=>?_⟩
refine vC (K:=K) (xs:=rs) (D:=D3) (λi H7=>∃rs',Same H5 H7∧H7 D3=some (.lst rs')∧rs'.length≤i∧Tys H5 m q rs' (((jU q.B q.P m.br q.fi).take i).filter λb=>decide (q.lv.getD b 0≤sp))) ⟨_,s6,hD3,kN _,.nil⟩ (λi H7 hp=>by obtain⟨_,sm7,_⟩:=hp;exact SqL.of (sm7 _ _ hd5)) (λi y H7 hy hp=>?_) (λH7 hp=>?_)
·obtain⟨rs',sm7,hd7,ln,ty'⟩:=hp;obtain⟨b,hb,tp,rfl,htp⟩:=Paired.at ty hy;have hi:=(kD.mp hb).1;obtain rfl:(jU q.B q.P m.br q.fi)[i]=b:=(kD.mp hb).2;refine⟨_,rfl,iT (k:=_) (v:=_) (SqT.of (sm7 _ _ htp)) rfl ⟨_,rfl,iI ⟨_,rfl,?_⟩⟩⟩;have ln':=ty.len;have hir:=(kD.mp hy).1;have e1:((jU q.B q.P m.br q.fi).take (i+1)).filter (λb=>decide (q.lv.getD b 0≤sp))=((jU q.B q.P m.br q.fi).take i).filter (λb=>decide (q.lv.getD b 0≤sp))++(if q.lv.getD (jU q.B q.P m.br q.fi)[i] 0≤sp then[(jU q.B q.P m.br q.fi)[i]]else[]):=by
  rw[←mY hi,gU,m9];by_cases z:q.lv.getD (jU q.B q.P m.br q.fi)[i] 0≤sp
  ·rw[hG z,kJ z];rfl
  rw[hX z,kF z];rfl
 rw[e1];by_cases z:q.lv.getD (jU q.B q.P m.br q.fi)[i] 0≤sp
 ·rw[hG z,kJ z];refine iteT ?_;refine⟨_,rfl,_,hd7,by lia,_,λb o e=>?_,qG,?_,L2.Paired.snoc ty' ⟨tp,rfl,htp⟩⟩
  ·rw[qC (qH e nD3)];exact sm7 _ _ e
  rw[mH];exact pL ln 1
 rw[hX z,kF z,g5];exact iteF ⟨_,sm7,hd7,by lia,ty'⟩
obtain⟨rs',sm7,hd7,ln,ty'⟩:=hp
rw[ty.len,gK]at ty'
have s17:=s15.trans sm7
refine kk D3 rs' H7 ?_ (Keep.same s17) (tb1.same s17) hd7 (q9V (Keep.same (F:=[]) sm7) ty')
refine k1.none (λz=>?_) (Same.free s15 nD3)
obtain⟨ps',hT',_⟩:=tb1.same s15
rw[h9.mp z,hT']at nD3
cases nD3)
theorem q9W{L:List Nat}{p:Nat→Bool}{i:Nat}(hi:i<L.length):(L.take (i+1)).filter p=(L.take i).filter p++(if p L[i]=true then[L[i]]else[]):=by rw[←mY hi,gU,m9];rfl
noncomputable def spOp(t:Adr):Sp:=λvs H Q _=>∃x r2 r3 r5 m q,∃ie:Int,vs=[.ref x.s]∧StAt t H x r2 r3 (.int ie) r5 m q∧Fit m q∧∀l p rs H',FreeIs q.B m.br m.cl q.fi l→H p=none→Keep [t.bH] H H'→TbF t H'→H' p=some (.lst rs)→Tys H' m q rs (optN ie m q l)→Q (.ref p) H'
theorem uE(T:Txt K mg t)(S:Fns K t)(B:BmIn base mg):S.eE.Ok0 P w mg base 11 (spOp t):=by(
refine S.eE.F.ok0 q0C λcdv A _ s H vs Q E hr h=>?_
obtain⟨x,r2,r3,r5,m,q,ie,rfl,hs,ft,k⟩:=h
have b2:=ft.oq.b2
have eP:=ft.eP
have sz:(16:Nat)<sizeLine:=by decide
have fl:(jU q.B q.P m.br q.fi).length≤16:=mF (mE _ _) (mF (q1G (B:=q.B) (br:=m.br)) b2)
refine⟨_,(qD (qN (v9 ["self","tally"] [0] rfl (y8 (qU (pv 0) (cl2 x.hC T.bJ T.bK) (m2 x.hC T.oE T.oQ) (zE T S B).mono hr S.fM.b .nil qK)) (λ_ _ _ _ _=>(qZ (i:=1) (show List.Nodup (["self","tally"]:List Str)from by decide) rfl (Or.inl rfl))) (λ_ _ _ _ _=>(uK (qS q3F (jA (q2A (K:=K) rfl) (pv 1) qI (λ_ _=>rfl)) (uL (K:=K) rfl (uL (K:=K) rfl (pv 0) rfl) rfl) (qT _)))) (λ_ _ _ _ _=>(pv 1)) (by kernel_rfl) (yJ (by decide))))),?_⟩
try dsimp-beta-proj-iota-zeta-eta only[wishK,cxK]
refine(iV rfl (iM hs.o rfl ⟨x,r2,r3,r5,m,q,ie,rfl,hs,ft,λl p0 rs H5 hl np k1 tb1 hd5 ty=>?_⟩))
have h5:=hs.kT k1 tb1
have kk:=λp rs H' np=>k l p rs H' hl np
unfold optN at kk
have fl':=mF (mE (λb=>decide (q.lv.getD b 0≤spcN ie l q.P q.fi (jK q.B q.P m.br q.fi))) _) fl
generalize (jU q.B q.P m.br q.fi).filter (λb=>decide (q.lv.getD b 0≤spcN ie l q.P q.fi (jK q.B q.P m.br q.fi)))=L at kk ty fl'
refine⟨p0,rfl,⟨_,SqL.of hd5⟩,λD3 H6 nD3 s6 hD3=>?_⟩
refine vC (K:=K) (xs:=rs) (D:=D3) (λi H7=>∃rs',Same H5 H7∧H7 D3=some (.lst rs')∧rs'.length≤i∧Tys H5 m q rs' ((L.take i).filter λb=>decide (q.lv.getD b 0<(q.P:Int)))) ⟨_,s6,hD3,kN _,.nil⟩ (λi H7 hp=>by obtain⟨_,sm7,_⟩:=hp;exact SqL.of (sm7 _ _ hd5)) (λi y H7 hy hp=>?_) (λH7 hp=>?_)
·obtain⟨rs',sm7,hd7,ln,ty'⟩:=hp;obtain⟨b,hb,tp,rfl,htp⟩:=Paired.at ty hy;have hi:=(kD.mp hb).1;obtain rfl:L[i]=b:=(kD.mp hb).2;have h7:=h5.same sm7;refine⟨_,rfl,iT (k:=_) (v:=_) (SqT.of (sm7 _ _ htp)) rfl ⟨_,rfl,x.s,_,x.sd,_,_,rfl,h7.o,(cl2 x.hC T.bJ T.bK),(na2 x.hC T.bM T.bQ),rfl,iF h7.te T.bU T.bT rfl (iI ⟨_,rfl,?_⟩)⟩⟩;rw[eP,q9W hi];by_cases z:q.lv.getD L[i] 0<(q.P:Int)
 ·rw[hG z,kJ rfl];refine iteT ?_;refine⟨_,rfl,_,hd7,by lia,_,λb o e=>?_,qG,?_,L2.Paired.snoc ty' ⟨tp,rfl,htp⟩⟩
  ·rw[qC (qH e nD3)];exact sm7 _ _ e
  rw[mH];exact pL ln 1
 rw[hX z,kF (by decide),g5];exact iteF ⟨_,sm7,hd7,by lia,ty'⟩
obtain⟨rs',sm7,hd7,ln,ty'⟩:=hp
rw[ty.len,gK]at ty'
refine kk D3 rs' H7 ?_ (k1.trans (Keep.same sm7)) (tb1.same sm7) hd7 (q9V (Keep.same (F:=[]) sm7) ty')
refine k1.none (λz=>?_) nD3
obtain⟨ps',hT',_⟩:=tb1
rw[h9.mp z,hT']at nD3
cases nD3)
theorem _root_.L2.ChipAt.has{C c:Addr}{a:CA}{m:CM}{H:Hp}(h:ChipAt C H c a m){b:Addr}(hb:b∈a.li::foot c a):∃o,H b=some o∧(b≠c→∀C d f,o≠ .ins C d f):=by(
obtain⟨rs,er,_⟩:=h.rc
have hb:b=a.li∨b=c∨b=a.bo∨b=a.cl∨b=a.dc∨b=a.br∨b=a.rc:=by simpa[foot]using hb
rcases hb with rfl|rfl|rfl|rfl|rfl|rfl|rfl
·exact⟨_,h.li,λ_ _ _ _ z=>by cases z⟩
·exact⟨_,h.ins,λn=>absurd rfl n⟩
·exact⟨_,h.bo,λ_ _ _ _ z=>by cases z⟩
·exact⟨_,h.cl,λ_ _ _ _ z=>by cases z⟩
·exact⟨_,h.dc,λ_ _ _ _ z=>by cases z⟩
·exact⟨_,h.br,λ_ _ _ _ z=>by cases z⟩
exact⟨_,er,λ_ _ _ _ z=>by cases z⟩)
theorem StAt.off{H:Hp}{x:Sto}{r2 r3 r4 r5:V}{m:CM}{q:QM}(h:StAt t H x r2 r3 r4 r5 m q){p:Addr}(n:H p=none):p∉t.bH::sf x:=λz=>by(
obtain⟨rs,er,_⟩:=h.ch.rc
obtain⟨ps,hT,_⟩:=h.tb
have z:p=t.bH∨p=x.c∨p=x.a.bo∨p=x.a.cl∨p=x.a.dc∨p=x.a.br∨p=x.a.rc∨p=x.k.bk∨p=x.k.wv∨p=x.k.lv∨p=x.k.fi∨p=x.k.bo:=by simpa[sf,bf,foot]using z
rcases z with rfl|rfl|rfl|rfl|rfl|rfl|rfl|rfl|rfl|rfl|rfl|rfl
·rw[hT]at n;cases n
·rw[h.ch.ins]at n;cases n
·rw[h.ch.bo]at n;cases n
·rw[h.ch.cl]at n;cases n
·rw[h.ch.dc]at n;cases n
·rw[h.ch.br]at n;cases n
·rw[er]at n;cases n
·rw[h.bk.o]at n;cases n
·rw[h.bk.w]at n;cases n
·rw[h.bk.l]at n;cases n
·rw[h.bk.f]at n;cases n
rw[h.bk.b]at n;cases n)
noncomputable def spPi(t:Adr):Sp:=λvs H Q E=>∃C,∃hC:IsC C,∃x dx tm td c a r2 r3 r4 r5,∃m:CM,∃B P:Nat,vs=[.ref x,.ref c,.ref tm]∧H x=some (.ins C dx [])∧H tm=some (.ins t.C_Terms td (teF (.int (B:Int)) (.int (P:Int)) r2 r3 r4 r5))∧ChipAt t.C_Chip H c a m∧m.bl=(B:Int)∧m.pg=(P:Int)∧B≤16∧TbF t H∧∀k H',H' x=some (.ins C dx [("chip",.ref c),("terms",.ref tm),("book",.ref k.bk)])→(∀ru pa H2,Keep [x] H' H2→H2 x=some (.ins C dx [("chip",.ref c),("terms",.ref tm),("book",.ref k.bk),("rule",ru),("papers",pa)])→StAt t H2 ⟨x,dx,tm,td,c,a,k,ru,pa,C,hC,[]⟩ r2 r3 r4 r5 m (bk0 B P))→(∀b∈bf k,H b=none)→(∀b o,b≠x→H b=some o→H' b=some o)→Q .non H'
theorem q70(T:Txt K mg t)(S:Fns K t):S.aAW.Ok0 P w mg base 3 (spPi t):=by(
refine S.aAW.F.ok0 q6R λcdv A _ s H vs Q E hr h=>?_
obtain⟨C,hC,x,dx,tm,td,c,a,r2,r3,r4,r5,m,B,P',rfl,hx,htm,hc,eB,eP,hB,tb,k⟩:=h
refine⟨_,(qB (jE (PW.pt (qCW (qS q5D (qJ (pv 2) rfl) (qJ (pv 1) rfl) (qT _)) (q9Z (qS q5D (qJ (pv 2) rfl) (qJ (pv 1) rfl) (qT _))))) (qD jD) qQ) (qB (jJ (pv 0) (pv 1) rfl) (qB (jJ (pv 0) (pv 2) rfl) (qD (jJ (pv 0) (q28 T.aEU (q8M T S).mono hr rfl T.aER S.aBK.b .nil qK (qA (qJ (pv 1) rfl) (qA (qJ (pv 1) rfl) qF))) rfl))))),?_⟩
try dsimp-beta-proj-iota-zeta-eta only[wishK,cxK]
refine(iV rfl (iF htm T.bU T.fL rfl (iV rfl (iF hc.ins T.bL T.fA rfl ⟨rfl,_,rfl,?_⟩))))
rw[show(!decide (V.int (B:Int)=V.int m.bl))=false by rw[eB];simp]
refine iteF ?_
refine(iV rfl (iF htm T.bU T.bT rfl (iV rfl (iF hc.ins T.bL T.eN rfl ⟨rfl,_,rfl,?_⟩))))
rw[show(!decide (V.int (P':Int)=V.int m.pg))=false by rw[eP];simp]
refine iteF ?_
refine⟨_,rfl,_,rfl,x,_,dx,_,rfl,hx,(cl2 hC T.bJ T.bK),(na2 hC T.bZ T.eI),by decide,?_⟩
refine⟨_,rfl,_,rfl,x,_,dx,_,rfl,qG,(cl2 hC T.bJ T.bK),(na2 hC T.bM T.bQ),by show 1<1000;decide,?_⟩
rw[q7T]
have tx:tm≠x:=jS htm hx (by intro z;injection z with z1 z2 z3;unfold teF at z3;cases z3)
have cx:c≠x:=jS hc.ins hx (by intro z;injection z with z1 z2 z3;unfold chF at z3;cases z3)
have k1:∀b o,b≠x→H b=some o→(upd H x (.ins C dx [("chip",.ref c),("terms",.ref tm)])) b=some o:=λb o nb e=>by rw[qC nb];exact e
have o1:(upd H x (.ins C dx [("chip",.ref c),("terms",.ref tm)])) x=some (.ins C dx [("chip",.ref c),("terms",.ref tm)]):=qG
have f1:∀b,(upd H x (.ins C dx [("chip",.ref c),("terms",.ref tm)])) b=none→H b=none:=λb e=>by
 by_cases z:b=x
 ·rw[z,qG]at e;cases e
 rw[qC z]at e;exact e
rw[show putF "terms" (.ref tm) (putF "chip" (.ref c) ([]:List (Str×V)))=([("chip",V.ref c),("terms",V.ref tm)]:List (Str×V))from rfl]
generalize upd H x (.ins C dx [("chip",.ref c),("terms",.ref tm)])=H1 at k1 o1 f1 ⊢
have hc1:=k1 _ _ cx hc.ins
refine(iV rfl (iF hc1 T.bL T.fA rfl (iV rfl (iF hc1 T.bL T.eN rfl (λk' kd nk nkd nn=>?_)))))
rw[eB,eP]
refine⟨k',kd,B,P',rfl,hB,qG,λka H3 e1 e2 hb3 ds fr up=>⟨rfl,?_⟩⟩
have s0:Same H1 (upd (upd H1 kd (.own k')) k' (.ins t.C_Book kd [])):=q0P nk nkd
have up':∀b o,H1 b=some o→H3 b=some o:=λb o e=>up b o (qH e nk) (s0 b o e)
refine⟨_,rfl,x,_,dx,_,rfl,up' _ _ o1,(cl2 hC T.bJ T.bK),(na2 hC T.bN T.bS),by show 2<1000;decide,?_⟩
have hx3:=up' _ _ o1
have kx:ka.bk≠x:=by rw[e1];exact(qH o1 nk).symm
have lH:∀b∈bf ka,H b=none:=λb hb=>by
 have hb:b=ka.bk∨b∈[ka.wv,ka.lv,ka.fi,ka.bo]:=by simpa[bf]using hb
 rcases hb with rfl|hb
 ·rw[e1];exact f1 _ nk
 exact f1 _ (Same.free s0 (fr b hb))
have kpx:∀b o,b≠x→H3 b=some o→(upd H3 x (.ins C dx (putF "book" (.ref k') [("chip",V.ref c),("terms",V.ref tm)]))) b=some o:=λb o nb e=>by rw[qC nb];exact e
have up2:∀b o,b≠x→H b=some o→(upd H3 x (.ins C dx (putF "book" (.ref k') [("chip",V.ref c),("terms",V.ref tm)]))) b=some o:=λb o nb e=>kpx b o nb (up' b o (k1 b o nb e))
have nx:∀{b:Addr} {o:HO},H3 b=some o→(∀C d fs,o≠ .ins C d fs)→b≠x:=fun {b o} e n z=>by rw[z,hx3]at e;exact n _ _ _ (kM e).symm
have cfx:∀b∈a.li::foot c a,b≠x:=λb hb z=>by
 obtain⟨o,e,no⟩:=hc.has hb;by_cases y:b=c
 ·exact cx (y.symm.trans z)
 rw[z,hx]at e;exact no y _ _ _ (kM e).symm
refine k ka _ (by rw[e1];exact qG) (λru pa H2 kk hx2=>?_) lH up2
have kp2:∀b o,b≠x→H3 b=some o→H2 b=some o:=λb o nb e=>kk.k b o (by simpa using nb) (kpx b o nb e)
have up3:∀b o,b≠x→H b=some o→H2 b=some o:=λb o nb e=>kk.k b o (by simpa using nb) (up2 b o nb e)
have kK:Keep [x] H H2:=⟨λb o nb e=>up3 b o (λz=>nb (by rw[z];simp)) e,λb xs e=>up3 b _ (λz=>by rw[z,hx]at e;cases e) e⟩
refine⟨hx2,?_,?_,?_,?_,ds,?_,?_⟩
·rw[eB,eP];exact up3 _ _ tx htm
·exact hc.keep kK (λb hb z=>cfx b hb (h9.mp z))
·exact⟨kp2 _ _ kx hb3.o,kp2 _ _ (nx hb3.w (λ_ _ _ z=>by cases z)) hb3.w,kp2 _ _ (nx hb3.l (λ_ _ _ z=>by cases z)) hb3.l,kp2 _ _ (nx hb3.f (λ_ _ _ z=>by cases z)) hb3.f,kp2 _ _ (nx hb3.b (λ_ _ _ z=>by cases z)) hb3.b⟩
·exact tb.gen λb o to e=>up3 _ _ (yM to e hx q2F) e
·intro b hb z;obtain⟨o,e,_⟩:=hc.has hb;rw[lH b z]at e;cases e
intro b hb z
have hb:b=x∨b=tm:=by simpa using hb
have y0:b∈foot c a∨b∈bf ka:=by simpa[sf]using z
clear z
rcases y0 with z|z
·rcases hb with rfl|rfl
 ·exact cfx _ (hU _ z) rfl
 obtain⟨o,e,no⟩:=hc.has (hU _ z);by_cases y:b=c
 ·rw[y,hc.ins]at htm;have htm:=kM htm;injection htm with z1 z2 z3
  unfold chF teF at z3;have:=gZ List.length z3;simp at this
 rw[htm]at e;exact no y _ _ _ (kM e).symm
have n:=lH b z
rcases hb with rfl|rfl
·rw[hx]at n;cases n
rw[htm]at n;cases n)
noncomputable def spSi(t:Adr):Sp:=λvs H Q E=>∃C,∃hC:IsC C,∃x dx tm td c a r2 r3 r4 r5 ru,∃m:CM,∃B P:Nat,vs=[.ref x,.ref c,.ref tm,ru]∧H x=some (.ins C dx [])∧H tm=some (.ins t.C_Terms td (teF (.int (B:Int)) (.int (P:Int)) r2 r3 r4 r5))∧ChipAt t.C_Chip H c a m∧m.bl=(B:Int)∧m.pg=(P:Int)∧B≤16∧TbF t H∧∀k p H',StAt t H' ⟨x,dx,tm,td,c,a,k,ru,.ref p,C,hC,[]⟩ r2 r3 r4 r5 m (bk0 B P)→H' p=some (.lst [])→H p=none→(∀b∈bf k,H b=none)→p∉t.bH::sf ⟨x,dx,tm,td,c,a,k,ru,.ref p,C,hC,[]⟩→(∀b o,b≠x→H b=some o→H' b=some o)→Q .non H'
theorem q2S(T:Txt K mg t)(S:Fns K t):S.tS.Ok0 P w mg base 4 (spSi t):=by(
refine S.tS.F.ok0 q6U λcdv A _ s H vs Q E hr h=>?_
obtain⟨C,hC,x,dx,tm,td,c,a,r2,r3,r4,r5,ru,m,B,P',rfl,hx,htm,hc,eB,eP,hB,tb,k⟩:=h
refine⟨_,(qB (qY (qJG T.aEO (q70 T S).mono hr rfl T.aEL S.aAW.b .nil qK (qA (pv 0) (qA (pv 1) (qA (pv 2) qF))))) (qB (jJ (pv 0) (pv 3) rfl) (qD (jJ (pv 0) (jR qF) rfl)))),?_⟩
try dsimp-beta-proj-iota-zeta-eta only[wishK,cxK]
refine⟨_,rfl,_,rfl,_,rfl,C,hC,x,dx,tm,td,c,a,r2,r3,r4,r5,m,B,P',rfl,hx,htm,hc,eB,eP,hB,tb,λka H1 hx1 st fk up=>?_⟩
refine⟨_,rfl,_,rfl,x,_,dx,_,rfl,hx1,(cl2 hC T.bJ T.bK),(na2 hC T.fP T.f9),by show 3<1000;decide,?_⟩
refine⟨sz0,λp H2 np s2 h2=>?_⟩
have px:p≠x:=λz=>by rw[z,qG]at np;cases np
rw[qC px]at np
have hx2:=s2 _ _ qG
refine⟨_,rfl,x,_,dx,_,rfl,hx2,(cl2 hC T.bJ T.bK),(na2 hC T.eU T.fB),by show 4<1000;decide,?_⟩
have stA:=st ru .non (upd H1 x (.ins C dx [("chip",.ref c),("terms",.ref tm),("book",.ref ka.bk),("rule",ru),("papers",.non)])) (Keep.upd hx1 (λ_ z=>by cases z) (by simp)) qG
have off:=stA.off (p:=p) (by rw[qC px];exact np)
have kA:Keep [x] H1 (upd H2 x (.ins C dx (putF "papers" (.ref p) (putF "rule" ru [("chip",.ref c),("terms",.ref tm),("book",.ref ka.bk)])))):=((Keep.upd hx1 (λ_ z=>by cases z) (by simp)).trans (Keep.same s2)).trans (Keep.upd hx2 (λ_ z=>by cases z) (by simp))
refine k ka p _ (st ru (.ref p) _ kA qG) (by rw[qC px];exact h2) ?_ fk off (λb o nb e=>kA.k b o (by simpa using nb) (up b o nb e))
cases e:H p with
|none=>rfl
|some o=>rw[up p o px e]at np;cases np)
noncomputable def spEm(t:Adr):Sp:=λvs H Q _=>∃a,∃m:QM,∃b,vs=[.ref a.bk,.int ((b:Nat):Int)]∧BkAt t H a m∧m.Ok∧Dst a∧b<m.B∧∀H',BkAt t H' a (m.emptied b)→Keep [a.fi,a.bo] H H'→Q .non H'
theorem q4T(T:Txt K mg t)(S:Fns K t):S.tO.Ok0 P w mg base 1 (spEm t):=by(
refine S.tO.F.ok0 q4K λcdv A _ s H vs Q E hr h=>?_
obtain⟨a,m,b,rfl,hb,ok,ds,hB,q⟩:=h
have of':a.bk≠a.fi:=jS hb.o hb.f (by intro z;cases z)
have oo:a.bk≠a.bo:=jS hb.o hb.b (by intro z;cases z)
have wf:a.wv≠a.fi:=jS hb.w hb.f (by intro z;cases z)
have wb:a.wv≠a.bo:=jS hb.w hb.b (by intro z;cases z)
have hbf:b<m.fi.length:=by rw[ok.lf];exact hB
have hbo:b<m.bo.length:=by rw[ok.lo];exact hB
refine⟨_,(qB (q3U qI (q5A (qJ (pv 0) rfl) (pv 1) yX)) (qD (q3U qI (q5A (qJ (pv 0) rfl) (pv 1) yX)))),?_⟩
try dsimp-beta-proj-iota-zeta-eta only[wishK,cxK]
refine(iV rfl (iF hb.o T.bR T.bV rfl ⟨_,rfl,a.fi,_,_,b,rfl,rfl,hb.f,q42 (by rw[kB];exact hbf),?_⟩))
rw[setV]
have b1:(upd H a.fi (.lst ((m.fi.set b 0).map V.int))) a.bo=some (.lst (m.bo.map V.int)):=by rw[qC ds.fb.symm];exact hb.b
have o1':∀o,H a.bk=some o→(upd H a.fi (.lst ((m.fi.set b 0).map V.int))) a.bk=some o:=λo e=>by rw[qC of'];exact e
have o1:=o1' _ hb.o
refine(iV rfl (iF o1 T.bR T.iS rfl ⟨_,rfl,a.bo,_,_,b,rfl,rfl,b1,q42 (by rw[kB];exact hbo),?_⟩))
rw[setV]
refine q _ ⟨?_,?_,?_,?_,?_⟩ (Keep.trans (H1:=upd H a.fi (.lst ((m.fi.set b 0).map V.int))) (Keep.upd hb.f (λ_ z=>by cases z) (by simp)) (Keep.upd b1 (λ_ z=>by cases z) (by simp)))
·rw[qC oo];exact o1
·rw[qC wb,qC wf];exact hb.w
·rw[qC ds.lb,qC ds.lf];exact hb.l
·rw[qC ds.fb];exact qG
exact qG)
noncomputable def lpK(P b:Nat)(V:Mp):List (List Int):=(V.filter λq=>decide (q.2 / (P:Int)=(b:Int))).map λq=>[q.2,q.1]
theorem q9X{P b:Nat}{V:Mp}{q:Int×Int}:lpK P b (V++[q])=if q.2 / (P:Int)=(b:Int)then lpK P b V++[[q.2,q.1]]else lpK P b V:=by(
unfold lpK
rw[gU,m8]
by_cases e:q.2 / (P:Int)=(b:Int)
·rw[kJ e];simp[e]
rw[kF e]
simp[e])
noncomputable def spLp(t:Adr):Sp:=λvs H Q _=>∃a,∃m:QM,∃b,vs=[.ref a.bk,.int ((b:Nat):Int)]∧BkAt t H a m∧m.Ok∧m.V.length<64∧∀l us rs H',Same H H'→H l=none→H' l=some (.lst us)→Paired (TupD H') us rs→rs.Perm (lpK m.P b m.V)→(rs.Pairwise λa b=>lx b a=false)→Q (.ref l) H'
theorem q38(T:Txt K mg t)(S:Fns K t):S.iO.Ok0 P w mg base 1 (spLp t):=by(
refine S.iO.F.ok0 q33 λcdv A _ s H vs Q E hr h=>?_
obtain⟨a,m,b,rfl,hb,ok,lV,q⟩:=h
have hu:=q5L hr
have p1:=ok.p1
have p2:=ok.p2
have ob:a.bk≠a.wv:=jS hb.o hb.w (by intro z;cases z)
refine⟨_,(qD (qN (jT q85 (by rfl) T.aBH (by kernel_rfl) (qA (qBB (v9 ["self","block","name","page"] [0,1] rfl (qJ2 (qI3 cV sT PySem.F.type_dict_items qE8 (qJ (pv 0) rfl))) (λ_ _ _ _ _=>(qG8 (K:=K) (n:=2) rfl rfl (yI (qZ (i:=2) (show List.Nodup (["self","block","name","page"]:List Str)from by decide) rfl (Or.inl rfl)) (yI (qZ (i:=3) (show List.Nodup (["self","block","name","page"]:List Str)from by decide) rfl (Or.inl rfl)) q3C)) rfl rfl)) (λ_ _ _ _ _=>(uK (qS q04 (qP q3E (pv 3) (uL (K:=K) rfl (pv 0) rfl)) (pv 1) (qT _)))) (λ_ _ _ _ _=>(uJ (qA (pv 3) (qA (pv 2) qF)))) (by kernel_rfl) (qG1 (q98 (by decide) (q98 (by decide) qG0))))) qF)))),?_⟩
try dsimp-beta-proj-iota-zeta-eta only[wishK,cxK]
refine⟨a.wv,_,hb.w,iV rfl (iF hb.o T.bR T.e9 rfl ⟨.inr (.inr (.inl ⟨rfl,.inl ⟨_,hb.w⟩⟩)),a.wv,_,rfl,rfl,hb.w,λv nv=>?_⟩)⟩
have sv:Same H (upd H v (q4E v a.wv)):=Same.upd nv
have vv:(upd H v (q4E v a.wv)) v=some (q4E v a.wv):=qG
generalize upd H v (q4E v a.wv)=H1 at sv vv ⊢
refine⟨v,a.wv,_,rfl,vv,sv _ _ hb.w,λo D H2 nD s2 hD=>?_⟩
have kk:∀x u,x≠a.wv→H x=some u→H2 x=some u:=λx u nx e=>s2 _ _ (by rw[qC nx];exact sv _ _ e)
have fz:H2 a.wv=some (.frz o (.dK (dI m.V))):=s2 _ _ qG
have nDH:H D=none:=by
 cases z:H D with
 |none=>rfl
 |some u=>
  by_cases y:D=a.wv
  ·rw[y,qG]at nD;cases nD
  rw[qC y,sv _ _ z]at nD;cases nD
have Dw:D≠a.wv:=λz=>by rw[z,fz]at hD;cases hD
refine qG9 (D:=D) (λi H3=>H3 a.wv=some (.frz o (.dK (dI m.V)))∧(∀x u,x≠a.wv→H x=some u→H3 x=some u)∧∃us,H3 D=some (.lst us)∧Paired (TupD H3) us (lpK m.P b (m.V.take i))) ⟨fz,kk,[],hD,.nil⟩ (λi H3 hp=>hp.1) (λi kv W H3 hk hp nW=>?_) (λH3 hp=>?_)
·obtain⟨fz3,k3,us,hd,pr⟩:=hp;have hi:i<m.V.length:=by have:=(kD.mp hk).1;rw[q6B]at this;exact this
 obtain rfl:((Sum.inl m.V[i].1:Key),V.int m.V[i].2)=kv:=by
  have e:(dI m.V)[i]?=some ((Sum.inl m.V[i].1:Key),V.int m.V[i].2):=by unfold dI;rw[mB,kC hi];rfl
  rw[e]at hk;exact kM hk
 have sW:Same H3 (upd H3 W (.tup [.int m.V[i].1,.int m.V[i].2])):=Same.upd nW;have hW:(upd H3 W (.tup [.int m.V[i].1,.int m.V[i].2])) W=some (.tup [.int m.V[i].1,.int m.V[i].2]):=qG;show gTup _ _ _ _ _ (upd H3 W (.tup [.int m.V[i].1,.int m.V[i].2])) _;generalize upd H3 W (.tup [.int m.V[i].1,.int m.V[i].2])=H4 at sW hW ⊢;refine⟨W,_,rfl,SqT.of hW,rfl,_,_,rfl,_,_,rfl,rfl,?_⟩;refine⟨_,rfl,iV rfl (iF (sW _ _ (k3 _ _ ob hb.o)) T.bR T.iC rfl (iI ⟨⟨by lia,by lia⟩,_,rfl,rfl,_,rfl,?_⟩))⟩;rw[q2U];have tk:m.V.take (i+1)=m.V.take i++[m.V[i]]:=(mY hi).symm;by_cases e:m.V[i].2 / (m.P:Int)=(b:Int)
 ·rw[hG e];refine iteT ?_;refine⟨_,rfl,_,rfl,sz2,λtp H5 n5 s5 h5=>?_⟩;have s35:=sW.trans s5;have hd5:=s35 _ _ hd;have lu:us.length≤64:=by
   have:=pr.len;have l2:(lpK m.P b (m.V.take i)).length≤(m.V.take i).length:=by unfold lpK;rw[kB];exact mE _ _
   rw[gX]at l2;lia
  refine⟨us,hd5,(by exact rJ (m:=64) (by lia) (by decide)),?_,λx u nx e'=>?_,us++[.ref tp],qG,?_⟩
  ·rw[qC Dw.symm];exact s35 _ _ fz3
  ·rw[qC (qH e' nDH)];exact s35 _ _ (k3 _ _ nx e')
  rw[tk,q9X,kJ e];exact L2.Paired.snoc (Paired.mapP (vT pr s35) λx k z=>z.upd hd5 (λ_ q=>by cases q)) (TupD.upd ⟨tp,rfl,h5⟩ hd5 (λ_ q=>by cases q))
 rw[hX e];refine iteF ?_;refine⟨sW _ _ fz3,λx u nx e'=>sW _ _ (k3 _ _ nx e'),us,sW _ _ hd,?_⟩;rw[tk,q9X,kF e];exact vT pr sW
obtain⟨fz3,k3,us,hd,pr⟩:=hp
rw[q6B,gK]at pr
refine⟨o,_,fz3,?_⟩
have sH:Same H (upd H3 a.wv (.dK (dI m.V))):=qEE hb.w k3
have hd4:(upd H3 a.wv (.dK (dI m.V))) D=some (.lst us):=by rw[qC Dw];exact hd
have pr4:Paired (TupD (upd H3 a.wv (.dK (dI m.V)))) us (lpK m.P b m.V):=Paired.mapP pr λx k z=>z.upd fz3 (λ_ q=>by cases q)
generalize upd H3 a.wv (.dK (dI m.V))=H4 at sH hd4 pr4 ⊢
have hl:(lpK m.P b m.V).length<64:=by unfold lpK;rw[kB];exact rJ (mE _ _) lV
have ul:=pr4.len
refine⟨D,us,lpK m.P b m.V,2,rfl,SqL.of hd4,qBI pr4,λk hk=>?_,by decide,by lia,λqs pp pw l H5 n5 s5 h5=>?_⟩
·unfold lpK at hk;obtain⟨x,_,rfl⟩:=kZ.mp hk;rfl
refine q l _ _ H5 (sH.trans s5) (sH.free n5) h5 (qAH (vT pr4 s5) λi hi=>mV.mp (pp.mem_iff.mp hi)) (qAG ul.symm pp) pw)
theorem qBW(xs:List V)(i:Nat):∀n p,(clr xs i n).getD p .non=if i≤p∧p<i+n then .non else xs.getD p .non
|0,p=>by rw[kF (by lia)];rfl
|n+1,p=>by
 show((clr xs i n).set (i+n) .non).getD p .non=_;rw[jG,qBW xs i n p];by_cases e:i+n=p
 ·subst e;rw[kJ (show i≤i+n∧i+n<i+(n+1) by lia),kF (show ¬(i≤i+n∧i+n<i+n) by lia)];by_cases z:i+n<(clr xs i n).length
  ·rw[kJ ⟨rfl,z⟩]
  rw[kF (λy=>z y.2)];rw[q4Y]at z;rw[kL,rM (by lia)];rfl
 rw[kF (λy=>e y.1)];by_cases z:i≤p∧p<i+n
 ·rw[kJ z,kJ (by lia)]
 rw[kF z,kF (by lia)]
structure PgAt(H:Hp)(bs:List V)(pg:Nat→Option (Int×Int)):Prop where
n:∀i,pg i=none→bs.getD i .non=.non
v:∀i v,pg i=some v→∃tp,bs.getD i .non=.ref tp∧H tp=some (.tup [.int v.1,.int v.2])
theorem PgAt.keep{F:List Addr}{H H':Hp}{bs:List V}{pg:Nat→Option (Int×Int)}(h:PgAt H bs pg)(k:Keep F H H'):PgAt H' bs pg:=⟨h.n,λi v e=>by
 obtain⟨tp,e1,e2⟩:=h.v i v e;exact⟨tp,e1,k.tp _ _ e2⟩⟩
structure Cm(m:CM)(s:XS):Prop where
ft:Fit m s.q
br:m.br=noB s.q.B
li:∀b,valV m.lim (Sum.inl b)=none
mo:m.mo=1000000
cl:m.cl=s.cl
lf:m.lf=s.lf
rc:m.rc=s.rc
theorem Cm.gd{m:CM}{s:XS}(h:Cm m s):Gd m:=⟨λb=>by rw[h.br];exact rep8,h.li⟩
structure XR(t:Adr)(H:Hp)(x:Sto)(k:Tm)(sh sr:Int)(s:XS):Prop where
e:∃m:CM,StAt t H x (.int sh) (.int sr) (.int (k.ie:Int)) (.int k.sp) m s.q∧Cm m s∧PgAt H m.bo s.pg
w:WX k s
theorem Cm.pgs{m:CM}{s:XS}(h:Cm m s){b f:Nat}(hb:b<s.q.B)(hf:f<s.q.P):((b*s.q.P+f:Nat):Int)≤m.bl*m.pg-1∧b*s.q.P+f<m.bo.length:=by(
have nbo:=h.ft.ok.nbo
rw[h.ft.eB,h.ft.eP,←dS]at *
have:b*s.q.P+f<s.q.B*s.q.P:=(nV (by lia)).mp (by rw[yC hf];exact hb)
lia)
section
variable{H H':Hp}{x:Sto}{k:Tm}{sh sr:Int}{s:XS}
theorem XR.keep(j:XR t H x k sh sr s){F:List Addr}(kk:Keep F H H')(n:∀b∈[x.s,x.tm]++(x.a.li::sf x),b∉F)(tb:TbF t H'):XR t H' x k sh sr s:=by obtain⟨m,st,c,pg⟩:=j.e;exact⟨⟨m,st.keep kk n tb,c,pg.keep kk⟩,j.w⟩
theorem XR.kT(j:XR t H x k sh sr s)(kk:Keep [t.bH] H H')(tb:TbF t H'):XR t H' x k sh sr s:=by obtain⟨m,st,c,pg⟩:=j.e;exact⟨⟨m,st.kT kk tb,c,pg.keep kk⟩,j.w⟩
theorem XR.tb(j:XR t H x k sh sr s):TbF t H:=by obtain⟨m,st,c,pg⟩:=j.e;exact st.tb
theorem XR.same(j:XR t H x k sh sr s)(ss:Same H H'):XR t H' x k sh sr s:=by obtain⟨m,st,c,pg⟩:=j.e;exact⟨⟨m,st.same ss,c,pg.keep (F:=[]) (Keep.same ss)⟩,j.w⟩
theorem XR.o(j:XR t H x k sh sr s):H x.s=some (.ins x.C x.sd [("chip",.ref x.c),("terms",.ref x.tm),("book",.ref x.k.bk),("rule",x.ru),("papers",x.pa)]):=by obtain⟨m,st,c,pg⟩:=j.e;exact st.o
theorem XR.inH(j:XR t H x k sh sr s):∀y∈t.bH::sf x,∃o,H y=some o:=λy hy=>by(
obtain⟨m,hs,_⟩:=j.e
rcases kI.mp hy with e|e
·obtain⟨pt,hT,_⟩:=hs.tb;exact⟨_,by rw[e];exact hT⟩
unfold sf at e
rcases gF.mp e with e|e
·obtain⟨o,ho,_⟩:=hs.ch.has (hU _ e);exact⟨o,ho⟩
have e:y=x.k.bk∨y=x.k.wv∨y=x.k.lv∨y=x.k.fi∨y=x.k.bo:=by simpa[bf]using e
rcases e with rfl|rfl|rfl|rfl|rfl
·exact⟨_,hs.bk.o⟩
·exact⟨_,hs.bk.w⟩
·exact⟨_,hs.bk.l⟩
·exact⟨_,hs.bk.f⟩
exact⟨_,hs.bk.b⟩)
theorem XR.off(j:XR t H x k sh sr s){p:Addr}(n:H p=none):p∉t.bH::sf x:=λz=>by obtain⟨o,e⟩:=j.inH p z;rw[n]at e;cases e
theorem TbF.updL{H:Hp}{p:Addr}{xs:List V}{o:HO}(h:TbF t H)(e:H p=some (.lst xs)):TbF t (upd H p o):=by exact h.gen λb o' to e'=>by rw[qC (yM to e' e vQ)];exact e'
theorem XR.lst(j:XR t H x k sh sr s){p:Addr}{xs:List V}{o:HO}(e:H p=some (.lst xs))(np:p∉t.bH::sf x):XR t (upd H p o) x k sh sr s:=by(
obtain⟨m,st,_⟩:=j.e
have k:=Keep.upd (F:=[p]) (o:=o) e (λ_ z=>by cases z) (by simp)
refine j.keep k (λy hy z=>?_) (TbF.updL st.tb e)
rw[h9.mp z]at hy
rcases gF.mp hy with hy|hy
·have hy:p=x.s∨p=x.tm:=by simpa using hy
 rcases hy with h|h
 ·rw[h,st.o]at e;cases e
 rw[h,st.te]at e;cases e
rcases kI.mp hy with h|h
·rw[h,st.ch.li]at e;cases e
exact np (hU _ h))
theorem XR.set(j:XR t H x k sh sr s){n v:Int}(n0:0≤n)(n1:n≤64)(rc:s.rc.length<1000000)(hr:k.ie*s.q.P<s.rmX)(hl:(∃p,(n,p)∈s.q.V)∨s.q.V.length<59){Q:VK}{E:XK}
 (dk:s.lf=some 0→∀H',XR t H' x k sh sr s→Keep (t.bH::sf x) H H'→E (.ref t.C_PowerGone) none H')
 (kk:s.lf≠some 0→∀H',XR t H' x k sh sr (s.put n v)→Keep (t.bH::sf x) H H'→Q (.int (s.np:Int)) H'):qBV t [.ref x.s,.int n,.int v] H Q E:=by(
obtain⟨m,st,c,pg⟩:=j.e
obtain⟨hb,hf,ef,_,sp⟩:=j.w.spot (by lia)
obtain⟨hp1,hp2⟩:=c.pgs hb hf
refine⟨x,_,_,_,_,m,s.q,n,v,rfl,st,c.ft,c.gd,by rw[c.rc];exact rc,λl hfr=>⟨s.pb,s.pf,?_,ef,pg.n _ (j.w.cr _ _ hb (by lia) hf),λz H' k' st'=>dk (by rw[←c.lf];exact z) H' ⟨⟨m,st',c,pg.keep k'⟩,j.w⟩ k',λz tp H' htp k' st'=>?_⟩⟩
·rw[c.br]at hfr ⊢;rw[c.cl]at hfr;exact sp l hfr
have dk':s.lf≠some 0:=by rw[←c.lf];exact z
obtain⟨w',_⟩:=j.w.put (v:=v) hr n0 n1 hl dk'
have okd:(m.deed "put" ((s.pb*s.q.P+s.pf:Nat):Int) (((s.pb*s.q.P+s.pf:Nat):Int) / m.pg) false).Ok:=c.ft.ok.deed (by rw[c.rc];exact rc)
refine kk dk' H' ⟨⟨_,st',⟨⟨⟨okd.bl1,okd.bl2,okd.pg1,okd.pg2,?_,okd.ncl,okd.ndc,okd.nbr,okd.lim,okd.nrc⟩,w'.qs.ok,c.ft.eB,c.ft.eP⟩,c.br,c.li,c.mo,c.cl,?_,?_⟩,⟨λi e=>?_,λi w e=>?_⟩⟩,w'⟩ k'
·show((m.bo.set _ _).length:Int)=_;rw[gM];exact c.ft.ok.nbo
·show m.lf.map _=_;rw[c.lf];rfl
·show m.rc++[_]=_;rw[c.rc];rfl
·have e:(if i=s.np then some (s.q.nx*128+n,v)else s.pg i)=none:=e;show(m.bo.set (s.pb*s.q.P+s.pf) (.ref tp)).getD i .non=.non;by_cases z:i=s.np
 ·rw[kJ z]at e;cases e
 rw[kF z]at e;rw[jG,kF (λy=>z y.1.symm)];exact pg.n i e
have e:(if i=s.np then some (s.q.nx*128+n,v)else s.pg i)=some w:=e
show ∃tq,(m.bo.set (s.pb*s.q.P+s.pf) (.ref tp)).getD i .non=.ref tq∧_
by_cases z:i=s.np
·rw[kJ z]at e;cases e;exact⟨tp,by rw[jG,kJ ⟨z.symm,hp2⟩],htp⟩
rw[kF z]at e
obtain⟨tq,e1,e2⟩:=pg.v i w e
exact⟨tq,by rw[jG,kF (λy=>z y.1.symm)];exact e1,k'.tp _ _ e2⟩)
end
noncomputable def spCo(t:Adr):Sp:=λvs H Q E=>∃x k sh sr s,∃b:Nat,vs=[.ref x.s,.int (b:Int)]∧XR t H x k sh sr s∧b<s.q.B∧s.q.fi.getD b 0=(s.q.P:Int)∧s.rc.length<1000000∧(∀y∈s.q.V,¬y.2 / (s.q.P:Int)=(b:Int))∧(s.lf=some 0→E (.ref t.C_PowerGone) none H)∧(s.lf≠some 0→∀H',XR t H' x k sh sr (s.wip b)→Keep (t.bH::sf x) H H'→Q .non H')
theorem q39(T:Txt K mg t)(S:Fns K t):S.iR.OkE P w mg base 5 (spCo t):=by(
refine S.iR.F.okE q34 (λvs H Q E h=>?_) (λcdv A outer s H vs Q E hr h=>?_)
·repeat obtain⟨_,h⟩:=h
 all_goals subst_vars;rfl
obtain⟨x,k,sh,sr,s,b,rfl,j,hb,ef,rc,nl,dk,kk⟩:=h
obtain⟨m,hs,c,pg⟩:=j.e
have eB:=c.ft.eB
have clb:=(j.w.c0 b).2
refine⟨_,(qB (qY (jO j9 (qJ (pv 0) rfl) T.bL T.aDL (q8K T S).mono hr S.aBT.b .nil (qA (pv 1) qF))) (qD (qY (qV (qJ (pv 0) rfl) T.bR T.aCB (q4T T S).mono hr S.tO.b .nil qK (qA (pv 1) qF))))),?_⟩
try dsimp-beta-proj-iota-zeta-eta only[wishK,cxK]
refine⟨_,rfl,x.s,_,x.sd,_,_,rfl,hs.o,(cl2 x.hC T.bJ T.bK),(na2 x.hC T.bZ T.eI),rfl,iM hs.ch.ins rfl ⟨_,rfl,x.c,x.a,m,_,rfl,hs.ch,c.ft.ok,by rw[c.rc];exact rc,c.gd,by lia,by rw[c.mo,c.cl];lia,λz=>dk (by rw[←c.lf];exact z),λz H1 hc1 k1=>?_⟩⟩
have dk':s.lf≠some 0:=by rw[←c.lf];exact z
have hs1:=hs.put hc1 k1 rfl rfl
refine⟨_,rfl,x.s,_,x.sd,_,_,rfl,hs1.o,(cl2 x.hC T.bJ T.bK),(na2 x.hC T.bN T.bS),rfl,iM hs1.bk.o rfl ⟨_,rfl,x.k,s.q,b,rfl,hs1.bk,j.w.qs.ok,hs1.ds,hb,λH2 hb2 k2=>?_⟩⟩
have k2':Keep (bf x.k) H1 H2:=k2.mono (by intro y hy;simp[bf]at hy ⊢;rcases hy with rfl|rfl<;>simp)
have kA:Keep (t.bH::sf x) H H2:=(k1.mono (λy hy=>by unfold sf;exact hU _ (gO _ hy))).trans (k2'.mono (λy hy=>by unfold sf;exact hU _ (kU _ hy)))
have hs2:=hs1.note hb2 k2'
obtain⟨w',_⟩:=j.w.wip hb ef nl dk'
have okd:(m.deed "wipe" (b:Int) (b:Int) false).Ok:=c.ft.ok.deed (by rw[c.rc];exact rc)
have gbo:∀p,(wipC m b).bo.getD p .non=if p / s.q.P=b then .non else m.bo.getD p .non:=λp=>by
 show(clr m.bo ((b:Int)*m.pg).toNat m.pg.toNat).getD p .non=_;have p1:=j.w.qs.ok.p1;rw[c.ft.eP,←dS,mQ,mQ,qBW];have:(b*s.q.P≤p∧p<b*s.q.P+s.q.P)↔p / s.q.P=b:=by rw[Nat.div_eq_iff (by lia)];generalize b*s.q.P=z;lia
 by_cases z:p / s.q.P=b
 ·rw[kJ z,kJ (this.mpr z)]
 rw[kF z,kF (λy=>z (this.mp y))]
refine kk dk' H2 ⟨⟨_,hs2,⟨⟨⟨okd.bl1,okd.bl2,okd.pg1,okd.pg2,?_,?_,okd.ndc,okd.nbr,okd.lim,okd.nrc⟩,w'.qs.ok,c.ft.eB,c.ft.eP⟩,c.br,c.li,c.mo,?_,?_,?_⟩,⟨λi e=>?_,λi w e=>?_⟩⟩,w'⟩ kA
·show((clr m.bo _ _).length:Int)=_;rw[q4Y];exact c.ft.ok.nbo
·show((m.cl.set _ _).length:Int)=_;rw[gM];exact c.ft.ok.ncl
·show m.cl.set b (m.cl.getD b 0+1)=_;rw[c.cl];rfl
·show m.lf.map _=_;rw[c.lf];rfl
·show m.rc++[_]=_;rw[c.rc];rfl
·have e:(if i / s.q.P=b then none else s.pg i)=none:=e;rw[gbo];by_cases z:i / s.q.P=b
 ·rw[kJ z]
 rw[kF z]at e ⊢;exact pg.n i e
have e:(if i / s.q.P=b then none else s.pg i)=some w:=e
rw[gbo]
by_cases z:i / s.q.P=b
·rw[kJ z]at e;cases e
rw[kF z]at e ⊢
obtain⟨tq,e1,e2⟩:=pg.v i w e
exact⟨tq,e1,kA.tp _ _ e2⟩)
theorem q6H(T:Txt K mg t)(S:Fns K t):S.aAK.OkE P w mg base 6 (λvs H Q E=>spCo t vs H (λv H'=>v=.non∧Q (.bl true) H') E):=by(
refine S.aAK.F.okE q65 (λvs H Q E h=>?_) (λcdv A outer s H vs Q E hr h=>?_)
·repeat obtain⟨_,h⟩:=h
 all_goals subst_vars;rfl
obtain⟨x,k,sh,sr,s,b,rfl,j,hb,ef,rc,nl,dk,kk⟩:=h
refine⟨_,(qB (qY (jO j9 (pv 0) (cl2 x.hC T.bJ T.bK) (m2 x.hC T.aAU T.aBA) (q39 T S).mono hr S.iR.b .nil (qA (pv 1) qF))) (qD (qN q2M))),?_⟩
try dsimp-beta-proj-iota-zeta-eta only[wishK,cxK]
exact(iV rfl (iM j.o rfl ⟨_,rfl,x,k,sh,sr,s,b,rfl,j,hb,ef,rc,nl,dk,λz H' j' k'=>(kk z H' j' k').2⟩)))
theorem qF8{s:XS}{ns:List Int}(h:HeldIs s.q ns):ns=s.hl:=by(
refine qBH (h.pm.trans (lL _ _).symm) h.so ?_
have:=sU (le:=λa b:Int=>decide (a≤b)) (λa b c h1 h2=>hG (pU (mM h1) (mM h2))) (λa b=>by
 by_cases z:a≤b
 ·rw[hG z];rfl
 rw[hX z,hG (show b≤a by lia)];rfl) (hdN s.q.V)
exact this.imp λz=>mM z)
theorem hd64{k:Tm}{s:XS}(w:WX k s):(hdN s.q.V).length<64:=by(
unfold hdN
refine rJ (mE _ _) ?_
have:=w.l6
rw[kB]
lia)
theorem qHO{k:Tm}{s:XS}(w:WX k s):∀y∈s.hl,0≤y∧y<64:=λy hy=>by(
have hy:=cT.mp hy
obtain⟨a1,a2⟩:=mK.mp hy
obtain⟨y',hy',rfl⟩:=kZ.mp a1
have:=w.qs.ok.nm y' hy'
have:=mM a2
lia)
theorem qHP{ns:List Int}(h:∀y∈ns,0≤y∧y<64):ns.map V.int=vN (ns.map Int.toNat)∧∀u∈ns.map Int.toNat,u<64:=by(
refine⟨?_,λu hu=>?_⟩
·unfold vN;rw[wM];refine rB λy hy=>?_;have:=h y hy;show V.int y=V.int ((y.toNat:Nat):Int);rw[show((y.toNat:Nat):Int)=y by lia]
obtain⟨y,hy,rfl⟩:=kZ.mp hu
have:=h y hy
lia)
noncomputable def spVm(t:Adr):Sp:=λvs H Q E=>∃x k sh sr s,∃n p:Int,vs=[.ref x.s,.int p,.int n]∧XR t H x k sh sr s∧(n,p)∈s.q.V∧(s.lf=some 0→E (.ref t.C_PowerGone) none H)∧∀H',Same H H'→Q (.int (s.val p n)) H'
theorem q14(T:Txt K mg t)(S:Fns K t):S.fF.OkE P w mg base 6 (spVm t):=by(
refine S.fF.F.okE q11 (λvs H Q E h=>?_) (λcdv A outer s H vs Q E hr h=>?_)
·repeat obtain⟨_,h⟩:=h
 all_goals subst_vars;rfl
obtain⟨x,k,sh,sr,s,n,p,rfl,j,hm,dk,kk⟩:=h
obtain⟨m,hs,c,pg⟩:=j.e
refine⟨_,(qB (jE (qS q04 (pv 2) (q27 rfl T.aDK ⟨_,rfl⟩ (v:=.int 64)) (qT _)) (qD (qN (qX (q6D T S).mono hr rfl T.aCF T.aCE S.aCM.b .nil qK (qA (qU (pv 0) (cl2 x.hC T.bJ T.bK) (m2 x.hC T.tQ T.aAJ) (q03 T S).mono hr S.oG.b .nil qK) qF)))) qQ) (qD (qN (jA y6 (jO j9 (qJ (pv 0) rfl) T.bL T.aDM (q8J T S).mono hr S.aBS.b .nil (qA (pv 1) qF)) qI (λ_ _=>rfl))))),?_⟩
try dsimp-beta-proj-iota-zeta-eta only[wishK,cxK]
refine⟨_,rfl,rfl,_,rfl,?_⟩
rw[q2U]
by_cases z:n=64
·rw[hG z];refine iteT ?_;refine(iV rfl (iM hs.o rfl ⟨x,_,_,_,_,m,s.q,rfl,hs,c.ft,hd64 j.w,λl ns H1 hn s1 n1 h1=>?_⟩));obtain rfl:=qF8 hn;obtain⟨en,lt⟩:=qHP (qHO j.w);rw[en]at h1;refine⟨l,_,rfl,SqL.of h1,lt,?_⟩;have:=kk H1 s1;unfold XS.val at this;rw[kJ z]at this;exact this
rw[hX z]
refine iteF ?_
obtain⟨b,f,v,a1,a2,a3,a4,a5⟩:=j.w.vl _ hm
have a3:p=_:=a3
obtain⟨tp,e1,e2⟩:=pg.v _ _ a5
have hp:=(c.pgs a1 a2).1
refine⟨_,rfl,x.s,_,x.sd,_,_,rfl,hs.o,(cl2 x.hC T.bJ T.bK),(na2 x.hC T.bZ T.eI),rfl,iM hs.ch.ins rfl ⟨_,rfl,x.c,x.a,m,_,rfl,hs.ch,c.ft.ok,by rw[a3];lia,by rw[a3];exact hp,λy=>dk (by rw[←c.lf];exact y),λ_=>?_⟩⟩
have:=kk H (Same.refl H)
unfold XS.val at this
rw[kF z]at this
rw[a3,mQ,e1]
rw[a3,mQ,a5]at this
exact(iT (k:=1) (v:=_) (SqT.of e2) rfl this))
noncomputable def qKV:Sp:=λvs H Q _=>∃x a b p n,vs=[x,a,b,p,n]∧Q (.bl false) H
theorem q3A(T:Txt K mg t)(S:Fns K t):S.iP.Ok0 P w mg base 1 qKV:=by(
refine S.iP.F.ok0 q37 λcdv A _ s H vs Q E hr h=>?_
obtain⟨x,a,b,p,n,rfl,q⟩:=h
refine⟨_,(qD (qN q2M)),?_⟩
try dsimp-beta-proj-iota-zeta-eta only[wishK,cxK]
exact q)
noncomputable def spGa(f:Tl→Int):Sp:=λvs H Q _=>∃x a b p n A B,vs=[x,a,b,p,n]∧TlAt H a A∧TlAt H b B∧Q (.bl (decide (f A<f B))) H
theorem q23(T:Txt K mg t)(S:Fns K t):S.fV.Ok0 P w mg base 1 (spGa Tl.lv):=by(
refine S.fV.F.ok0 q1Z λcdv A _ s H vs Q E hr h=>?_
obtain⟨x,a,b,p,n,A,B,rfl,⟨ad,rfl,ha⟩,⟨bd,rfl,hb⟩,q⟩:=h
refine⟨_,(qD (qN (v7 q3F (jA y6 (pv 1) qI (λ_ _=>rfl)) (jA y6 (pv 2) qI (λ_ _=>rfl)) (qT _)))),?_⟩
try dsimp-beta-proj-iota-zeta-eta only[wishK,cxK]
exact⟨_,rfl,iT (k:=1) (v:=_) (SqT.of ha) rfl ⟨_,rfl,iT (k:=1) (v:=_) (SqT.of hb) rfl (iI q)⟩⟩)
theorem q24(T:Txt K mg t)(S:Fns K t):S.fX.Ok0 P w mg base 1 (spGa Tl.bo):=by(
refine S.fX.F.ok0 q20 λcdv A _ s H vs Q E hr h=>?_
obtain⟨x,a,b,p,n,A,B,rfl,⟨ad,rfl,ha⟩,⟨bd,rfl,hb⟩,q⟩:=h
refine⟨_,(qD (qN (v7 q3F (jA y6 (pv 1) qI (λ_ _=>rfl)) (jA y6 (pv 2) qI (λ_ _=>rfl)) (qT _)))),?_⟩
try dsimp-beta-proj-iota-zeta-eta only[wishK,cxK]
exact⟨_,rfl,iT (k:=3) (v:=_) (SqT.of ha) rfl ⟨_,rfl,iT (k:=3) (v:=_) (SqT.of hb) rfl (iI q)⟩⟩)
noncomputable def gain(pg nw:Int)(T:Tl):Int:=(pg-T.lv)*(nw-T.bo)
noncomputable def qKW:Sp:=λvs H Q _=>∃x a b pg nw A B,vs=[x,a,b,.int pg,.int nw]∧TlAt H a A∧TlAt H b B∧A.Ok pg nw∧B.Ok pg nw∧pg≤16∧Q (.bl (decide (gain pg nw A*(pg+B.lv)>gain pg nw B*(pg+A.lv)))) H
theorem q2K(T:Txt K mg t)(S:Fns K t):S.iB.Ok0 P w mg base 1 qKW:=by(
refine S.iB.F.ok0 yU λcdv A _ s H vs Q E hr h=>?_
obtain⟨x,a,b,pg,nw,A,B,rfl,⟨ad,rfl,ha⟩,⟨bd,rfl,hb⟩,oa,ob,hp,q⟩:=h
have a0:=oa.l0
have a1:=oa.l1
have b0:=ob.l0
have b1:=ob.l1
refine⟨_,(qB (qW (i:=5) yU.nd rfl (Or.inl rfl) (qP uH (qP yZ (pv 3) (jA y6 (pv 1) qI (λ_ _=>rfl))) (qP yZ (pv 4) (jA y6 (pv 1) qI (λ_ _=>rfl))))) (qB (qW (i:=6) yU.nd rfl (Or.inl rfl) (qP uH (qP yZ (pv 3) (jA y6 (pv 2) qI (λ_ _=>rfl))) (qP yZ (pv 4) (jA y6 (pv 2) qI (λ_ _=>rfl))))) (qD (qN (v7 qHB (qP uH (pv 5) (qP uZ (pv 3) (jA y6 (pv 2) qI (λ_ _=>rfl)))) (qP uH (pv 6) (qP uZ (pv 3) (jA y6 (pv 1) qI (λ_ _=>rfl)))) (qT _)))))),?_⟩
try dsimp-beta-proj-iota-zeta-eta only[wishK,cxK]
refine⟨_,rfl,_,rfl,iT (k:=1) (v:=_) (SqT.of ha) rfl (iI ⟨_,rfl,_,rfl,iT (k:=3) (v:=_) (SqT.of ha) rfl (iI (iI ⟨.inl ⟨by lia,by lia⟩,?_⟩))⟩)⟩
refine⟨_,rfl,_,rfl,iT (k:=1) (v:=_) (SqT.of hb) rfl (iI ⟨_,rfl,_,rfl,iT (k:=3) (v:=_) (SqT.of hb) rfl (iI (iI ⟨.inl ⟨by lia,by lia⟩,?_⟩))⟩)⟩
refine⟨_,rfl,_,rfl,_,rfl,iT (k:=1) (v:=_) (SqT.of hb) rfl (iI (iI ⟨.inr ⟨by lia,by lia⟩,?_⟩))⟩
exact⟨_,rfl,_,rfl,_,rfl,iT (k:=1) (v:=_) (SqT.of ha) rfl (iI (iI ⟨.inr ⟨by lia,by lia⟩,iI q⟩))⟩)
noncomputable def Mny(pg many:Int):Prop:=1≤pg∧0<many∧∀j:Int,0≤j→j≤pg→(pg+j) ∣ many
noncomputable def rkW(pg nw many:Int)(T:Tl):Int:=0-(pg-T.lv)*(nw-T.bo)*(many / (pg+T.lv))
theorem q6I{x y m:Int}(h:0<m):x*m<y*m↔x<y:=by(
constructor
·intro z;refine Int.not_le.mp λw=>?_;have:=pG w (c8 h);lia
intro z
exact Int.mul_lt_mul_of_pos_right z h)
theorem qCT{pg nw many:Int}{A B:Tl}(m:Mny pg many)(oa:A.Ok pg nw)(ob:B.Ok pg nw):(gain pg nw A*(pg+B.lv)>gain pg nw B*(pg+A.lv))↔rkW pg nw many A<rkW pg nw many B:=by(
obtain⟨p1,m0,md⟩:=m
have a0:=oa.l0
have b0:=ob.l0
obtain⟨sa,ea⟩:=md A.lv oa.l0 oa.l1
obtain⟨sb,eb⟩:=md B.lv ob.l0 ob.l1
have da:many / (pg+A.lv)=sa:=by rw[ea];exact sG _ (by lia)
have db:many / (pg+B.lv)=sb:=by rw[eb];exact sG _ (by lia)
unfold rkW
rw[da,db]
show gain pg nw B*(pg+A.lv)<gain pg nw A*(pg+B.lv)↔0-gain pg nw A*sa<0-gain pg nw B*sb
have pa:0<pg+A.lv:=by lia
have pb:0<pg+B.lv:=by lia
have e:(0-gain pg nw A*sa<0-gain pg nw B*sb)↔gain pg nw B*sb<gain pg nw A*sa:=by lia
rw[e,←q6I (x:=gain pg nw B*(pg+A.lv)) m0,←q6I (x:=gain pg nw B*sb) (Int.mul_pos pa pb)]
have e1:gain pg nw B*(pg+A.lv)*many=gain pg nw B*sb*((pg+A.lv)*(pg+B.lv)):=by rw[eb];ac_rfl
have e2:gain pg nw A*(pg+B.lv)*many=gain pg nw A*sa*((pg+A.lv)*(pg+B.lv)):=by rw[ea];ac_rfl
rw[e1,e2])
noncomputable def RuAt(t:Adr)(H:Hp)(r:Addr)(pg nw:Int)(f:Tl→Int):Prop:=(∃dx,H r=some (.ins t.C_Rule dx [])∧f=λ_=>0)∨(∃dx,H r=some (.ins t.C_Fewest dx [])∧f=Tl.lv)∨(∃dx,H r=some (.ins t.C_Eldest dx [])∧f=Tl.bo)∨(∃dx many,H r=some (.ins t.C_Worth dx [])∧f=rkW pg nw many∧Mny pg many)
noncomputable def spUn(t:Adr)(K:W.Frag):Sp:=λvs H Q _=>∃r v l pg nw T us ts f,vs=[.ref r,v,.ref l,.int pg,.int nw]∧RuAt t H r pg nw f∧TlAt H v T∧SqL K H l us∧Tls H us ts∧T.Ok pg nw∧(∀o∈ts,o.Ok pg nw)∧pg≤16∧Q (.bl (unb f ts T)) H
theorem q6J(T:Txt K mg t)(S:Fns K t):S.aAL.Ok0 P w mg base 2 (spUn t K):=by(
refine S.aAL.F.ok0 q1Y λcdv A _ s H vs Q E hr h=>?_
obtain⟨r,v,l,pg,nw,A,us,ts,f,rfl,hR,hv,hl,hts,oa,os,hpg,q⟩:=h
obtain⟨va,rfl,hva⟩:=id hv
have hlen:=hts.len
refine⟨_,(qB (zL rU rfl (y8 (pv 2)) (qZ (i:=5) q1Y.nd rfl (Or.inl rfl)) (qD (jE (PW.pt (qCV (qS (qG5 hr.units) (pv 5) (pv 1) (qT _)) (qAY (yK (qDS (q3Z (qV (pv 0) T.aEB T.aA2 (q3A T S).mono hr S.iP.b .nil qK (qA (pv 5) (qA (pv 1) (qA (pv 3) (qA (pv 4) qF))))) (q3Z (qV (pv 0) T.aDJ T.aAG (q23 T S).mono hr S.fV.b .nil qK (qA (pv 5) (qA (pv 1) (qA (pv 3) (qA (pv 4) qF))))) (q3Z (qV (pv 0) T.aC0 T.aAN (q24 T S).mono hr S.fX.b .nil qK (qA (pv 5) (qA (pv 1) (qA (pv 3) (qA (pv 4) qF))))) (qV (pv 0) T.aDZ T.aAR (q2K T S).mono hr S.iB.b .nil qK (qA (pv 5) (qA (pv 1) (qA (pv 3) (qA (pv 4) qF))))))))))))) (qD (qN q2M)) qQ))) (qD (qN q2M))),?_⟩
try dsimp-beta-proj-iota-zeta-eta only[wishK,cxK]
refine⟨_,rfl,l,rfl,⟨us,hl⟩,?_⟩
refine vR (K:=K) (xs:=us) (λi σ' H2=>∃y,σ'=[some (.ref r),some (.ref va),some (.ref l),some (.int pg),some (.int nw),y]∧H2=H∧∀j,∀hj:j<ts.length,j<i→¬f ts[j] <f A) ⟨_,rfl,rfl,λj _ z=>absurd z (aA _)⟩ (λi σ' H2 hi hp=>?_) (λi x σ' H2 hx hp=>?_) (λσ' H2 hp=>?_)
·obtain⟨y,rfl,rfl,_⟩:=hp;exact hl
·obtain⟨y,rfl,rfl,hm⟩:=hp;obtain⟨O,hO,ho⟩:=Paired.at hts hx;obtain⟨xa,rfl,hxa⟩:=id ho;have hi:i<ts.length:=(kD.mp hO).1;obtain rfl:ts[i]=O:=(kD.mp hO).2;have ok:(ts[i]).Ok pg nw:=os _ (gJ hi);refine⟨_,rfl,_,rfl,xa,va,(ts[i]).ns,A.ns,rfl,rfl,SqT.of hxa,SqT.of hva,rfl,_,rfl,?_⟩;by_cases e:(ts[i]).ns=A.ns
 ·rw[hG e];refine iteF (iteF ⟨_,rfl,rfl,λj hj z=>?_⟩);by_cases ej:j=i
  ·subst ej;rw[Tl.eq_of e];exact Int.lt_irrefl _
  exact hm j hj (by lia)
 rw[hX e];refine iteT ?_;refine⟨λv' H'=>v'=.bl (decide (f ts[i] <f A))∧H'=H2,?_,?_⟩
 ·rcases hR with⟨dx,hins,rfl⟩|⟨dx,hins,rfl⟩|⟨dx,hins,rfl⟩|⟨dx,many,hins,rfl,mm⟩
  ·exact .inl ⟨_,rfl,r,dx,_,rfl,hins,rfl,_,rfl,_,rfl,_,rfl,_,rfl,_,_,_,_,_,rfl,rfl,rfl⟩
  ·exact .inr (.inl ⟨_,rfl,r,dx,_,rfl,hins,rfl,_,rfl,_,rfl,_,rfl,_,rfl,_,_,_,_,_,ts[i],A,rfl,ho,hv,rfl,rfl⟩)
  ·exact .inr (.inr (.inl ⟨_,rfl,r,dx,_,rfl,hins,rfl,_,rfl,_,rfl,_,rfl,_,rfl,_,_,_,_,_,ts[i],A,rfl,ho,hv,rfl,rfl⟩))
  refine .inr (.inr (.inr (⟨_,rfl,r,dx,_,rfl,hins,rfl,_,rfl,_,rfl,_,rfl,_,rfl,_,_,_,pg,nw,ts[i],A,rfl,ho,hv,ok,oa,hpg,?_,rfl⟩)));exact gZ V.bl (decide_eq_decide.mpr (qCT mm ok oa))
 rintro v' H' ⟨rfl,rfl⟩
 refine⟨_,rfl,?_⟩;by_cases g:f ts[i] <f A
 ·rw[hG g];refine iteT ?_;have z:unb f ts A=false:=by
   cases z:unb f ts A with
   |false=>rfl
   |true=>exact absurd (q50.mp z _ (gJ hi)) (by lia)
  rw[z]at q;exact q
 rw[hX g];refine iteF ⟨_,rfl,rfl,λj hj z=>?_⟩;by_cases ej:j=i
 ·subst ej;exact g
 exact hm j hj (by lia)
obtain⟨y,rfl,rfl,hm⟩:=hp
have z:unb f ts A=true:=q50.mpr λo ho=>by obtain⟨j,hj,rfl⟩:=r9 ho;have:=hm j hj (by lia);lia
rw[z]at q
exact q)
noncomputable def spFu(t:Adr)(K:W.Frag):Sp:=λvs H Q _=>∃r l pg nw us ts f,vs=[.ref r,.ref l,.int pg,.int nw]∧RuAt t H r pg nw f∧SqL K H l us∧Tls H us ts∧(∀o∈ts,o.Ok pg nw)∧pg≤16∧ts≠[]∧Q (.int (pk f ts)) H
theorem q3S(T:Txt K mg t)(S:Fns K t):S.i7.Ok0 P w mg base 3 (spFu t K):=by(
refine S.i7.F.ok0 uW λcdv A _ s H vs Q E hr h=>?_
obtain⟨r,l,pg,nw,us,ts,f,rfl,hR,hl,hts,os,hpg,hne,q⟩:=h
have hlen:=hts.len
obtain⟨i,hi,hu,hn⟩:=q5S f ts hne
have at':∀j,∀hj:j<ts.length,∃x,us[j]?=some x∧TlAt H x ts[j]:=λj hj=>by have e:us[j]?=some (us[j]'(by lia)):=kC (by lia);obtain⟨O,hO,ho⟩:=Paired.at hts e;obtain rfl:ts[j]=O:=(kD.mp hO).2;exact⟨_,e,ho⟩
refine⟨_,(qB (qW (i:=4) uW.nd rfl (Or.inl rfl) qI) (qB (q8V rU (uG (yK (qX (q6J T S).mono hr rfl T.aB6 T.aB5 S.aAL.b .nil qK (qA (pv 0) (qA (jA jQ (pv 1) (pv 4) (λ_ _=>rfl)) (qA (pv 1) (qA (pv 2) (qA (pv 3) qF)))))))) (qD (qHX (i:=4) uW.nd rfl (Or.inl rfl) qI q5B))) (qD (qN (jA y6 (jA jQ (pv 1) (pv 4) (λ_ _=>rfl)) qI (λ_ _=>rfl)))))),?_⟩
try dsimp-beta-proj-iota-zeta-eta only[wishK,cxK]
refine⟨λm σ' H2=>H2=H∧∃p:Nat,σ'=[some (.ref r),some (.ref l),some (.int pg),some (.int nw),some (.int p)]∧p≤i∧m=i-p,⟨i,rfl,0,rfl,mU _,rfl⟩,?_⟩
rintro m σ' H2 ⟨rfl,p,rfl,hpi,rfl⟩
obtain⟨x,hx,tx⟩:=at' p (by lia)
refine⟨_,rfl,_,rfl,_,rfl,l,us,p,x,rfl,rfl,hl,v8 hx,_,rfl,_,rfl,_,rfl,r,x,l,pg,nw,ts[p],us,ts,f,rfl,hR,tx,hl,hts,os _ (gJ _),os,hpg,?_⟩
by_cases e:p=i
·subst e;rw[hu];refine⟨_,rfl,iteF ?_⟩;obtain⟨xa,rfl,hxa⟩:=tx;refine⟨_,rfl,_,rfl,l,us,p,_,rfl,rfl,hl,v8 hx,iT (k:=0) (v:=_) (SqT.of hxa) rfl ?_⟩;rw[qHI hi hu hn]at q;exact q
rw[hn p (by lia)]
refine⟨_,rfl,iteT ⟨_,λ_ _ z=>z,?_⟩⟩
exact⟨_,rfl,iI ⟨i-(p+1),by lia,rfl,p+1,rfl,by lia,rfl⟩⟩)
theorem uX(T:Txt K mg t)(S:Fns K t):S.fW.Ok0 P w mg base 4 (spFu t K):=by(
refine S.fW.F.ok0 q68 λcdv A _ s H vs Q E hr h=>?_
obtain⟨r,l,pg,nw,us,ts,f,rfl,z⟩:=h
refine⟨_,(qD (qN (qX (q3S T S).mono hr rfl T.aAZ T.aAY S.i7.b .nil qK (qA (pv 0) (qA (pv 1) (qA (pv 2) (qA (pv 3) qF))))))),?_⟩
try dsimp-beta-proj-iota-zeta-eta only[wishK,cxK]
exact⟨_,rfl,_,rfl,_,rfl,_,rfl,r,l,pg,nw,us,ts,f,rfl,z⟩)
theorem q55{H:Hp}{m:CM}{q:QM}:∀{rs:List V} {L:List Nat},Tys H m q rs L→Tls H rs (L.map (tlOf m q))
|_,_,.nil=>.nil
|_,_,.cons ⟨p,e,h⟩ r=>.cons ⟨p,e,h⟩ (q55 r)
noncomputable def mnC:Int:=144403552893600
theorem qJO{pg:Int}(p1:1≤pg)(p2:pg≤16):Mny pg mnC:=by(
refine⟨p1,by decide,λj j0 j1=>?_⟩
have key:∀n:Nat,n<33→0<n→n ∣ 144403552893600:=by decide+kernel
have:=key (pg+j).toNat (by lia) (by lia)
rw[show pg+j=(((pg+j).toNat:Nat):Int) by lia]
exact Int.natCast_dvd_natCast.mpr this)
noncomputable def RuX(t:Adr)(H:Hp)(r:Addr)(rl:List Addr):Rl→Prop
| .rk f=>(∃dx,H r=some (.ins t.C_Rule dx [])∧f=λ_ _ _=>0)∨(∃dx,H r=some (.ins t.C_Fewest dx [])∧f=λ_ _=>Tl.lv)∨(∃dx,H r=some (.ins t.C_Eldest dx [])∧f=λ_ _=>Tl.bo)∨(∃dx,H r=some (.ins t.C_Worth dx [])∧f=λpg nw=>rkW pg nw mnC)
|_=>False
theorem RuX.ok{H:Hp}{r:Addr}{rl:List Addr}{g:Rl}(h:RuX t H r rl g):g.Ok:=by(
cases g with
|rk f=>trivial
|win m=>exact h.elim
|fol row u=>exact h.elim)
theorem RuX.map{H H':Hp}{r:Addr}{rl:List Addr}{g:Rl}(h:RuX t H r rl g)(h1:∀y∈r::rl,∀o,H y=some o→H' y=some o):RuX t H' r rl g:=by(
have h1:=h1 r kX
cases g with
|rk f=>
 rcases h with⟨dx,a,b⟩|⟨dx,a,b⟩|⟨dx,a,b⟩|⟨dx,a,b⟩
 ·exact .inl ⟨dx,h1 _ a,b⟩
 ·exact .inr (.inl ⟨dx,h1 _ a,b⟩)
 ·exact .inr (.inr (.inl ⟨dx,h1 _ a,b⟩))
 exact .inr (.inr (.inr (⟨dx,h1 _ a,b⟩)))
|win m=>exact h.elim
|fol row u=>exact h.elim)
theorem RuX.keep{H H':Hp}{r:Addr}{rl:List Addr}{F:List Addr}{g:Rl}(h:RuX t H r rl g)(k:Keep F H H')(n:∀y∈r::rl,y∉F):RuX t H' r rl g:=h.map λy hy o e=>k.k _ _ (n y hy) e
theorem RuX.ins{H:Hp}{r:Addr}{rl:List Addr}{g:Rl}(h:RuX t H r rl g):∃C d fs,H r=some (.ins C d fs):=by(
cases g with
|rk f=>
 rcases h with⟨dx,a,b⟩|⟨dx,a,b⟩|⟨dx,a,b⟩|⟨dx,a,b⟩
 ·exact⟨_,_,_,a⟩
 ·exact⟨_,_,_,a⟩
 ·exact⟨_,_,_,a⟩
 exact⟨_,_,_,a⟩
|win m=>exact h.elim
|fol row u=>exact h.elim)
noncomputable def spCr(t:Adr)(K:W.Frag):Sp:=λvs H Q _=>∃x r2 r3 r4 r5 m q r rl g op rs ts,vs=[.ref x.s,.ref op]∧StAt t H x r2 r3 r4 r5 m q∧Fit m q∧x.ru=.ref r∧RuX t H r rl g∧H op=some (.lst rs)∧Tls H rs ts∧ts≠[]∧ts.length≤16∧(∀o∈ts,o.Ok (q.P:Int) q.nx)∧(∀a∈ts,∀c∈ts,a.b=c.b→a=c)∧∀p H',Keep [r] H H'→RuX t H' r rl (g.ch (q.P:Int) q.nx ts).2→H' p=some (.tup [.str "rule",.int (g.ch (q.P:Int) q.nx ts).1])→Q (.ref p) H'
theorem uF(T:Txt K mg t)(S:Fns K t):S.eA.Ok0 P w mg base 5 (spCr t K):=by(
refine S.eA.F.ok0 q0D λcdv A _ s H vs Q E hr h=>?_
obtain⟨x,r2,r3,r4,r5,m,q,r,rl,g,op,rs,ts,rfl,hs,ft,er,hR,hop,tl,ne,l16,ok,unl,k⟩:=h
have eP:=ft.eP
have p1:=ft.oq.p1
have p2:=ft.oq.p2
have te:=hs.te
rw[eP]at te
refine⟨_,(qD (qN (uJ (qA q19 (qA (q3Z (qV (qJ (pv 0) rfl) T.aEB T.aCU (uX T S).mono hr S.fW.b .nil qK (qA (pv 1) (qA (qJ (qJ (pv 0) rfl) rfl) (qA (qJ (qJ (pv 0) rfl) rfl) qF)))) (q3Z (qV (qJ (pv 0) rfl) T.aDJ T.aBP (uX T S).mono hr S.fW.b .nil qK (qA (pv 1) (qA (qJ (qJ (pv 0) rfl) rfl) (qA (qJ (qJ (pv 0) rfl) rfl) qF)))) (q3Z (qV (qJ (pv 0) rfl) T.aC0 T.aBI (uX T S).mono hr S.fW.b .nil qK (qA (pv 1) (qA (qJ (qJ (pv 0) rfl) rfl) (qA (qJ (qJ (pv 0) rfl) rfl) qF)))) (qV (qJ (pv 0) rfl) T.aDZ T.aB7 (uX T S).mono hr S.fW.b .nil qK (qA (pv 1) (qA (qJ (qJ (pv 0) rfl) rfl) (qA (qJ (qJ (pv 0) rfl) rfl) qF))))))) qF))))),?_⟩
try dsimp-beta-proj-iota-zeta-eta only[wishK,cxK]
cases g with
|rk f=>
 have sz2:2≤sizeLine:=by decide
 rcases id hR with⟨dx,hins,rfl⟩|⟨dx,hins,rfl⟩|⟨dx,hins,rfl⟩|⟨dx,hins,rfl⟩
 ·exact .inl ⟨_,rfl,x.s,_,x.sd,_,_,rfl,hs.o,(cl2 x.hC T.bJ T.bK),(na2 x.hC T.fP T.f9),rfl,r,dx,_,er,hins,rfl,_,rfl,_,rfl,x.s,_,x.sd,_,_,rfl,hs.o,(cl2 x.hC T.bJ T.bK),(na2 x.hC T.bM T.bQ),rfl,iF te T.bU T.bT rfl ⟨_,rfl,x.s,_,x.sd,_,_,rfl,hs.o,(cl2 x.hC T.bJ T.bK),(na2 x.hC T.bN T.bS),rfl,iF hs.bk.o T.bR T.bY rfl ⟨r,op,_,_,rs,ts,_,(by rw[er];rfl),.inl ⟨dx,hins,rfl⟩,SqL.of hop,tl,ok,by lia,ne,sz2,λp H2 n2 s2 e2=>k p H2 (Keep.same s2) (hR.keep (Keep.same s2) (F:=[]) (by simp)) e2⟩⟩⟩
 ·exact .inr (.inl ⟨_,rfl,x.s,_,x.sd,_,_,rfl,hs.o,(cl2 x.hC T.bJ T.bK),(na2 x.hC T.fP T.f9),rfl,r,dx,_,er,hins,rfl,_,rfl,_,rfl,x.s,_,x.sd,_,_,rfl,hs.o,(cl2 x.hC T.bJ T.bK),(na2 x.hC T.bM T.bQ),rfl,iF te T.bU T.bT rfl ⟨_,rfl,x.s,_,x.sd,_,_,rfl,hs.o,(cl2 x.hC T.bJ T.bK),(na2 x.hC T.bN T.bS),rfl,iF hs.bk.o T.bR T.bY rfl ⟨r,op,_,_,rs,ts,_,(by rw[er];rfl),.inr (.inl ⟨dx,hins,rfl⟩),SqL.of hop,tl,ok,by lia,ne,sz2,λp H2 n2 s2 e2=>k p H2 (Keep.same s2) (hR.keep (Keep.same s2) (F:=[]) (by simp)) e2⟩⟩⟩)
 ·exact .inr (.inr (.inl ⟨_,rfl,x.s,_,x.sd,_,_,rfl,hs.o,(cl2 x.hC T.bJ T.bK),(na2 x.hC T.fP T.f9),rfl,r,dx,_,er,hins,rfl,_,rfl,_,rfl,x.s,_,x.sd,_,_,rfl,hs.o,(cl2 x.hC T.bJ T.bK),(na2 x.hC T.bM T.bQ),rfl,iF te T.bU T.bT rfl ⟨_,rfl,x.s,_,x.sd,_,_,rfl,hs.o,(cl2 x.hC T.bJ T.bK),(na2 x.hC T.bN T.bS),rfl,iF hs.bk.o T.bR T.bY rfl ⟨r,op,_,_,rs,ts,_,(by rw[er];rfl),.inr (.inr (.inl ⟨dx,hins,rfl⟩)),SqL.of hop,tl,ok,by lia,ne,sz2,λp H2 n2 s2 e2=>k p H2 (Keep.same s2) (hR.keep (Keep.same s2) (F:=[]) (by simp)) e2⟩⟩⟩))
 exact .inr (.inr (.inr (⟨_,rfl,x.s,_,x.sd,_,_,rfl,hs.o,(cl2 x.hC T.bJ T.bK),(na2 x.hC T.fP T.f9),rfl,r,dx,_,er,hins,rfl,_,rfl,_,rfl,x.s,_,x.sd,_,_,rfl,hs.o,(cl2 x.hC T.bJ T.bK),(na2 x.hC T.bM T.bQ),rfl,iF te T.bU T.bT rfl ⟨_,rfl,x.s,_,x.sd,_,_,rfl,hs.o,(cl2 x.hC T.bJ T.bK),(na2 x.hC T.bN T.bS),rfl,iF hs.bk.o T.bR T.bY rfl ⟨r,op,_,_,rs,ts,_,(by rw[er];rfl),.inr (.inr (.inr (⟨dx,_,hins,rfl,qJO (by lia) (by lia)⟩))),SqL.of hop,tl,ok,by lia,ne,sz2,λp H2 n2 s2 e2=>k p H2 (Keep.same s2) (hR.keep (Keep.same s2) (F:=[]) (by simp)) e2⟩⟩⟩)))
|win m=>exact hR.elim
|fol row u=>exact hR.elim)
section
variable{H H':Hp}{x:Sto}{k:Tm}{sh sr:Int}{s:XS}{r:Addr}{rl:List Addr}{g:Rl}
theorem TbF.keepR(h:TbF t H){C d:Addr}{fs:List (Str×V)}(e:H r=some (.ins C d fs))(k:Keep [r] H H'):TbF t H':=by refine h.gen λb o to e'=>k.k _ _ (λz=>yM to e' e q2F (h9.mp z)) e'
noncomputable def Off(t:Adr)(x:Sto)(R:List Addr):Prop:=∀y∈[x.s,x.tm]++(x.a.li::t.bH::t.bI::sf x),y∉R
theorem Off.n{R:List Addr}(o:Off t x R){y:Addr}(hy:y∈R):y∉t.bH::sf x:=λz=>o y (by simp at z ⊢;rcases z with z|z<;>simp[z]) hy
theorem XR.kR(j:XR t H x k sh sr s)(o:Off t x (r::rl))(kk:Keep [r] H H')(hR:RuX t H r rl g):XR t H' x k sh sr s:=by(
obtain⟨C,d,fs,e⟩:=hR.ins
refine j.keep kk (λy hy z=>o y ?_ (by rw[h9.mp z];exact kX)) (j.tb.keepR e kk)
have hy:y=x.s∨y=x.tm∨y=x.a.li∨y∈sf x:=by simpa using hy
rcases hy with h|h|h|h<;>simp[h])
theorem q0G{H H':Hp}{F:List Addr}(k:Keep F H H'):∀{rs:List V} {ts:List Tl},Tls H rs ts→Tls H' rs ts
|_,_,.nil=>.nil
|_,_,.cons ⟨p,e,h⟩ r=>.cons ⟨p,e,k.tp _ _ h⟩ (q0G k r)
end
noncomputable def Evc(t:Adr)(x:Sto)(k:Tm):Prop:=(k.ev=true∧x.C=t.C_Even)∨(k.ev=false∧x.C=t.C_Store)
theorem Evc.ev{x:Sto}{k:Tm}(n:t.C_Store≠t.C_Even)(h:Evc t x k)(e:x.C=t.C_Even):k.ev=true:=h.elim (λz=>z.1) λz=>absurd (z.2.symm.trans e) n
theorem Evc.st{x:Sto}{k:Tm}(n:t.C_Store≠t.C_Even)(h:Evc t x k)(e:x.C=t.C_Store):k.ev=false:=h.elim (λz=>absurd (e.symm.trans z.2) n) λz=>z.1
noncomputable def spLs(t:Adr):Sp:=λvs H Q _=>∃x k sh sr s,vs=[.ref x.s]∧XR t H x k sh sr s∧∀H',Same H H'→Q (.int s.lst) H'
theorem qJP{s:XS}{M:Int}(lc:s.cl.length=s.q.B)(b1:1≤s.q.B)(hM:M∈(List.range s.q.B).map λb=>s.cl.getD b 0)(le:∀a∈(List.range s.q.B).map λb=>s.cl.getD b 0,M≤a):M=s.lst:=by(
have ecl:((List.range s.q.B).map λb=>s.cl.getD b 0)=s.cl:=by rw[←lc];refine wE (by simp) λi h1 h2=>?_;simp[kC h2]
rw[ecl]at hM le
obtain⟨m,e,h1,h2⟩:=q87 (l:=s.cl) (λz=>by rw[z]at hM;cases hM)
unfold XS.lst
rw[e]
have:=h2 M hM
have:=le m h1
show M=m
lia)
theorem q71(T:Txt K mg t)(S:Fns K t):S.aA0.Ok0 P w mg base 6 (spLs t):=by(
refine S.aA0.F.ok0 q6V λcdv A _ s H vs Q E hr h=>?_
obtain⟨x,k,sh,sr,s,rfl,j,kk⟩:=h
obtain⟨m,hs,c,_⟩:=j.e
have b1:=c.ft.ok.bl1
have b2:=j.w.qs.ok.b2
have eB:=c.ft.eB
refine⟨_,(qD (qN (qGY rfl (by rfl) T.aEW qI (qA (v9 ["self","block"] [0] rfl (y8 (qU (pv 0) (cl2 x.hC T.bJ T.bK) (m2 x.hC T.iU T.oM) (vA T S).mono hr S.iJ.b .nil qK)) (λ_ _ _ _ _=>(qZ (i:=1) (show List.Nodup (["self","block"]:List Str)from by decide) rfl (Or.inl rfl))) (λ_ _ _ _ _=>qB7) (λ_ _ _ _ _=>(qV (uL (K:=K) rfl (pv 0) rfl) T.bL T.i9 (vK T S).mono hr S.f8.b .nil qK (qA (pv 1) qF))) (by kernel_rfl) (yJ (by decide))) qF)))),?_⟩
try dsimp-beta-proj-iota-zeta-eta only[wishK,cxK]
refine(iV rfl (iM hs.o rfl ⟨x,_,_,_,_,m,s.q,rfl,hs,c.ft,λp H1 n1 s1 h1=>?_⟩))
rw[c.br,yA]at h1
refine⟨p,rfl,⟨_,SqL.of h1⟩,λD H2 nD s2 hD=>?_⟩
refine q9B (K:=K) (xs:=(List.range s.q.B).map vn) (D:=D) (λi H3=>Same H1 H3∧H3 D=some (.lst ((((List.range s.q.B).take i).map λb=>s.cl.getD b 0).map V.int))) ⟨s2,hD⟩ (λi H3 hp=>SqL.of (hp.1 _ _ h1)) (λi y H3 hy hp=>?_) (λH3 hp=>?_)
·obtain⟨sm,hd⟩:=hp;have h3:=hs.same (s1.trans sm);rw[mB]at hy;obtain⟨b,hb,rfl⟩:=mI.mp hy;obtain⟨hi,eb⟩:=kD.mp hb;have bB:b<s.q.B:=mV.mp (gH hb);refine⟨_,rfl,x.s,_,x.sd,_,_,rfl,h3.o,(cl2 x.hC T.bJ T.bK),(na2 x.hC T.bZ T.eI),rfl,iM h3.ch.ins rfl ⟨_,rfl,x.c,x.a,m,_,rfl,h3.ch,c.ft.ok,by lia,by lia,?_⟩⟩;rw[mQ,c.cl];refine⟨_,hd,?_,λb o e=>?_,?_⟩
 ·rw[kB,kB,gX,gC];have:(16:Nat)<sizeLine:=by decide
  lia
 ·rw[qC (qH e nD)];exact sm _ _ e
 rw[qG,←mY hi,m8,m8,eb];rfl
obtain⟨sm,hd⟩:=hp
rw[kB,gK]at hd
refine⟨D,_,rfl,SqL.of hd,λe=>?_,λM hM le=>?_⟩
·have e:(List.range s.q.B).map (λb=>s.cl.getD b 0)=[]:=by simpa using e
 have:=gZ List.length e;rw[kB,gC]at this;simp at this;lia
rw[qJP j.w.lc (by lia) hM le]
exact kk H3 (s1.trans sm))
noncomputable def spCb(t:Adr):Sp:=λvs H Q _=>∃x k sh sr s p rs,∃L:List Nat,vs=[.ref x.s,.ref p]∧XR t H x k sh sr s∧x.C=t.C_Even∧H p=some (.lst rs)∧Tls H rs (L.map s.tl)∧L.length≤16∧∀p' rs' H',H p'=none→Same H H'→H' p'=some (.lst rs')→Tls H' rs' ((s.clb k L).map s.tl)→Q (.ref p') H'
theorem zK(T:Txt K mg t)(S:Fns K t):S.fY.Ok0 P w mg base 7 (spCb t):=by(
refine S.fY.F.ok0 zJ λcdv A _ s H vs Q E hr h=>?_
obtain⟨x,k,sh,sr,s,p,rs,L,rfl,j,eC,hp0,ty,l16,kk⟩:=h
have sz:(16:Nat)<sizeLine:=by decide
refine⟨_,(qB (qW (i:=2) zJ.nd rfl (Or.inr rfl) (qP uZ (qU (pv 0) (cl2 x.hC T.bJ T.bK) (m2e eC T.aDF) (q71 T S).mono hr S.aA0.b .nil qK) (qJ (qJ (pv 0) rfl) rfl))) (qD (qN (v9 ["bound","tally"] [2] rfl (y8 (pv 1)) (λ_ _ _ _ _=>(qZ (i:=1) (show List.Nodup (["bound","tally"]:List Str)from by decide) rfl (Or.inl rfl))) (λ_ _ _ _ _=>(uK (qS q3F (jA (q2A (K:=K) rfl) (pv 1) qI (λ_ _=>rfl)) (pv 0) (qT _)))) (λ_ _ _ _ _=>(pv 1)) (by kernel_rfl) (yJ (by decide)))))),?_⟩
try dsimp-beta-proj-iota-zeta-eta only[wishK,cxK]
refine(iV rfl (iM j.o rfl ⟨x,k,sh,sr,s,rfl,j,λH1 s1=>?_⟩))
obtain⟨m,h1,c,_⟩:=(j.same s1).e
refine⟨_,rfl,x.s,_,x.sd,_,_,rfl,h1.o,(cl2 x.hC T.bJ T.bK),(na2 x.hC T.bM T.bQ),rfl,iF h1.te T.bU T.tK rfl (iI ?_)⟩
refine⟨_,rfl,p,rfl,⟨_,SqL.of (s1 _ _ hp0)⟩,λD H2 nD s2 hD=>?_⟩
have ty1:=ty.same s1
unfold XS.clb at kk
refine vC (K:=K) (xs:=rs) (D:=D) (λi H3=>∃rs',Same H1 H3∧H3 D=some (.lst rs')∧rs'.length≤i∧Tls H1 rs' (((L.take i).filter λb=>decide (s.cl.getD b 0<s.lst+k.sp)).map s.tl)) ⟨_,s2,hD,kN _,.nil⟩ (λi H3 hp=>by obtain⟨_,sm,_⟩:=hp;exact SqL.of (sm _ _ (s1 _ _ hp0))) (λi y H3 hy hp=>?_) (λH3 hp=>?_)
·obtain⟨rs',sm,hd,ln,ty'⟩:=hp;obtain⟨o,ho,tp,rfl,htp⟩:=Paired.at ty1 hy;rw[mB]at ho;obtain⟨b,hb,rfl⟩:=mI.mp ho;have hi:=(kD.mp hb).1;obtain rfl:L[i]=b:=(kD.mp hb).2;refine⟨_,rfl,iT (k:=_) (v:=_) (SqT.of (sm _ _ htp)) rfl ⟨_,rfl,iI ⟨_,rfl,?_⟩⟩⟩;rw[q9W hi];have e2:(s.tl L[i]).cl=s.cl.getD L[i] 0:=rfl;by_cases z:s.cl.getD L[i] 0<s.lst+k.sp
 ·rw[hG (show(s.tl L[i]).cl<s.lst+k.sp from z),hG z,kJ rfl,m8];refine iteT ?_;refine⟨_,rfl,_,hd,by lia,_,λb o e=>?_,qG,?_,L2.Paired.snoc ty' ⟨tp,rfl,htp⟩⟩
  ·rw[qC (qH e nD)];exact sm _ _ e
  rw[mH];exact pL ln 1
 rw[hX (show ¬(s.tl L[i]).cl<s.lst+k.sp from z),hX z,kF (by decide),g5];exact iteF ⟨_,sm,hd,by lia,ty'⟩
obtain⟨rs',sm,hd,ln,ty'⟩:=hp
have lr:=ty.len
rw[kB]at lr
rw[lr,gK]at ty'
exact kk D rs' H3 (s1.free nD) (s1.trans sm) hd (ty'.same sm))
noncomputable def qBX(t:Adr)(C:Addr):Sp:=λvs H Q _=>∃x k sh sr s,vs=[.ref x.s]∧XR t H x k sh sr s∧(Evc t x k∧x.C=C)∧∀p rs H',H p=none→XR t H' x k sh sr s→Keep [t.bH] H H'→H' p=some (.lst rs)→Tls H' rs (s.ots k)→Q (.ref p) H'
theorem XR.opts{H:Hp}{x:Sto}{k:Tm}{sh sr:Int}{s:XS}(j:XR t H x k sh sr s)(ev:Evc t x k){C:Addr}(eC:x.C=C){Q:VK}{E:XK}(kk:∀p rs H',H p=none→XR t H' x k sh sr s→Keep [t.bH] H H'→H' p=some (.lst rs)→Tls H' rs (s.ots k)→Q (.ref p) H'):qBX t C [.ref x.s] H Q E:=⟨x,k,sh,sr,s,rfl,j,⟨ev,eC⟩,kk⟩
theorem qF9{k:Tm}{s:XS}(h:WX k s):(s.ded k).length≤16∧(s.ful k).length≤16:=by
 have b2:=h.qs.ok.b2;have:(s.ful k).length≤16:=by unfold XS.ful;refine mF (mE _ _) ?_;rw[gC];exact b2
 exact⟨mF (mE _ _) this,this⟩
theorem qH4{H H':Hp}{p:Addr}(k1:Keep [t.bH] H H')(tb:TbF t H')(np:H' p=none):H p=none:=by(
refine k1.none (λz=>?_) np
obtain⟨ps',hT',_⟩:=tb
rw[h9.mp z,hT']at np
cases np)
theorem q18(T:Txt K mg t)(S:Fns K t)(nC:t.C_Store≠t.C_Even)(B:BmIn base mg):S.i4.Ok0 P w mg base 12 (qBX t t.C_Even):=by(
refine S.i4.F.ok0 q4L λcdv A _ s H vs Q E hr h=>?_
obtain⟨x,k,sh,sr,s,rfl,j,⟨evc,eC⟩,kk⟩:=h
have ev:=evc.ev nC eC
refine⟨_,(qD (qN (qV (pv 0) (cl2 x.hC T.bJ T.bK) (m2e eC T.oR) (zK T S).mono hr S.fY.b .nil qK (qA (qU (pv 0) (cl2 x.hC T.bJ T.bK) (m2 x.hC T.fR T.fZ) (uE T S B).mono hr S.eE.b .nil qK) qF)))),?_⟩
try dsimp-beta-proj-iota-zeta-eta only[wishK,cxK]
obtain⟨m,hs,c,_⟩:=j.e
refine(iV rfl (iM hs.o rfl (iV rfl (iM hs.o rfl ⟨x,_,_,_,m,s.q,_,rfl,hs,c.ft,λl p rs H1 hl np k1 tb1 h1 ty=>?_⟩))))
have j1:=j.kT k1 tb1
have ty:=q55 ty
rw[c.br,c.cl]at hl
rw[qAM j.w c.br hl,qEU c.cl]at ty
refine⟨x,k,sh,sr,s,p,rs,s.ded k,rfl,j1,eC,h1,ty,(qF9 j.w).1,λp' rs' H2 np' s2 h2 ty2=>?_⟩
refine kk p' rs' H2 (qH4 k1 tb1 np') (j1.same s2) (k1.trans (Keep.same s2)) h2 ?_
unfold XS.ots XS.opt
rw[ev]
exact ty2)
theorem q0H(T:Txt K mg t)(S:Fns K t)(nC:t.C_Store≠t.C_Even)(B:BmIn base mg):S.iD.Ok0 P w mg base 12 (qBX t t.C_Store):=by(
refine S.iD.F.ok0 q48 λcdv A _ s H vs Q E hr h=>?_
obtain⟨x,k,sh,sr,s,rfl,j,⟨evc,eC⟩,kk⟩:=h
have ev:=evc.st nC eC
refine⟨_,(qD (qN (qU (pv 0) (cl2 x.hC T.bJ T.bK) (m2 x.hC T.fR T.fZ) (uE T S B).mono hr S.eE.b .nil qK))),?_⟩
try dsimp-beta-proj-iota-zeta-eta only[wishK,cxK]
obtain⟨m,hs,c,_⟩:=j.e
refine(iV rfl (iM hs.o rfl ⟨x,_,_,_,m,s.q,_,rfl,hs,c.ft,λl p rs H1 hl np k1 tb1 h1 ty=>?_⟩))
have ty:=q55 ty
rw[c.br,c.cl]at hl
rw[qAM j.w c.br hl,qEU c.cl]at ty
refine kk p rs H1 np (j.kT k1 tb1) k1 h1 ?_
unfold XS.ots XS.opt
rw[ev]
exact ty)
theorem qKX:FnScope ["tally"] ["tally"] lbSc:=⟨rfl,rfl,rfl,by decide+kernel,rfl,by decide+kernel,by decide+kernel⟩
noncomputable def spLb(g c:Addr)(pm ct:Value):Sp:=λvs H Q _=>∃v T,vs=[v]∧TlAt H v T∧H g=some (fnO g (lbFd pm ct c))∧H c=some (cdO c lbQ)∧NewO H (.tup [.int (Tl.cl T),.int (Tl.b T)]) Q
theorem qKY{g c:Addr}{pm ct:Value}{bs:Heap}:FnOk P w K mg bs CX0 1 g (lbFd pm ct c) ["tally"] (spLb g c pm ct):=by(
refine qJ5 (k:=0) qKX (λvs H Q E h=>?_) (λvs H Q E h=>?_) (λA outer s H vs Q E hr h=>?_)
·repeat obtain⟨_,h⟩:=h
 all_goals subst_vars;rfl
·obtain⟨v,T,rfl,_,a,b,_⟩:=h;exact⟨a,b⟩
obtain⟨v,T,rfl,⟨ad,rfl,ha⟩,_,_,q⟩:=h
refine⟨_,uJ (qA (jA y6 (pv 0) qI (λ_ _=>rfl)) (qA (jA y6 (pv 0) qI (λ_ _=>rfl)) qF)),?_⟩
exact⟨_,rfl,iT (k:=2) (v:=_) (SqT.of ha) rfl ⟨_,rfl,iT (k:=0) (v:=_) (SqT.of ha) rfl ⟨sz2,q⟩⟩⟩)
theorem qFA{c:Addr}{pm ct:Value}:jL K (lbFd pm ct c) ["tally"] []:=jL.all λus hl=>match us,hl with| [_],_=>rfl
theorem qH5{H:Hp}(h:TbB t H):∃ps,H t.bI=some (.tbl ps)∧TriplesOk ps.toList∧((codeAmong lbP ps.toList=none∧∀c H',H' t.bI=some (.tbl (ps++triB c))→H' c=some (cdO c lbQ)→TbB t H')∨∃c,codeAmong lbP ps.toList=some (.ref c)∧H c=some (cdO c lbQ)):=by(
obtain⟨ps,hT,h⟩:=h
rcases h with rfl|⟨c,rfl,a⟩
·exact⟨_,hT,trivial,.inl ⟨rfl,λc H' e1 e2=>⟨_,e1,.inr ⟨c,rfl,e2⟩⟩⟩⟩
exact⟨_,hT,trivial,.inr ⟨c,rfl,a⟩⟩)
theorem qH6{cl:List Int}{L:List Nat}{i:Nat}(pw:L.Pairwise (· < ·))(hi:i<L.length)(h:∀j,j<L.length→lx (keyN cl (L.getD j 0)) (keyN cl (L.getD i 0))=false):minF cl L=some (L.getD i 0):=by(
have gd:∀{j},(hj:j<L.length)→L.getD j 0=L[j]:=fun {j} hj=>by rw[kL,kC hj];rfl
obtain⟨h1,h2⟩:=q2D (cl:=cl) pw
cases z:minF cl L with
|none=>rw[h1 z]at hi;cases hi
|some b=>
 obtain⟨m1,m2⟩:=h2 b z;obtain⟨j,hj,rfl⟩:=r9 m1;have a1:=h j hj;have a2:=m2 (L.getD i 0) (by rw[gd hi];exact gJ hi);rw[gd hj]at a1;have e:=q40 _ _ a1 a2;unfold keyN at e;injection e with _ e
 injection e with e _
 rw[show L[j]=L.getD i 0 by lia])
theorem qJQ{k:Tm}{s:XS}:(s.clb k (s.ful k)).Pairwise (· < ·):=by unfold XS.clb XS.ful;exact(dL.filter _).filter _
theorem qBY{kn:Nat}{cells:List (Str×Addr)}{σ:St}{H4:Hp}{D f c':Addr}{k:Tm}{s:XS}{rs:List V}{L:List Nat}{pm ct:Value}{Q:VK}(hk:1≤kn)(ne:L≠[])(pw:L.Pairwise (· < ·))(hD:H4 D=some (.lst rs))(ty:Tls H4 rs (L.map s.tl))(hf:H4 f=some (fnO f (lbFd pm ct c')))(hc:H4 c'=some (cdO c' lbQ))
 (kk:∀b v H',minF s.cl L=some b→Same H4 H'→TlAt H' v (s.tl b)→Q v H'):
 ∃(f':Addr) (fd:FuncData) (sp:Heap→Sp),V.ref f=.ref f'∧(∀base',(∀b o,base.get? b=some o→base'.get? b=some o)→q1F cells σ base' []→FnOk P w K mg base' CX0 kn f' fd ["tally"] (sp base'))∧jL K fd ["tally"] []∧∃(l:Addr) (us:List V) (kf:Nat→List Int) (Pv:Nat→List V→Hp→Prop),[V.ref D]=[.ref l]∧0<us.length∧Pv 0 [] H4∧(∀i zs H',Pv i zs H'→SqL K H' l us∧zs.length=i∧KeyI K kf H' zs)∧(∀base' i x zs H',q1F cells σ base' []→us[i]?=some x→Pv i zs H'→sp base' [x] H' (λz H''=>Pv (i+1) (zs++[z]) H'') E0)∧∀i zs H',i<us.length→(∀j,j<us.length→lx (kf j) (kf i)=false)→Pv us.length zs H'→Q (us.getD i .non) H':=by(
have ln:=ty.len
rw[kB]at ln
refine⟨f,lbFd pm ct c',λ_=>spLb f c' pm ct,rfl,λ_ _ _=>qKY.mono hk,qFA,D,rs,λj=>keyN s.cl (L.getD j 0),λi zs H'=>Same H4 H'∧i≤L.length∧Paired (TupD H') zs ((L.take i).map (keyN s.cl)),rfl,by have:=lM.mpr ne;lia,⟨Same.refl H4,mU _,.nil⟩,λi zs H' hp=>?_,λbase' i y zs H' _ hy hp=>?_,λi zs H' hi hm hp=>?_⟩
·obtain⟨sm,le,pr⟩:=hp;have lz:=pr.len;rw[kB,gX]at lz;refine⟨SqL.of (sm _ _ hD),by lia,λj z hz=>?_⟩;have hj:=(kD.mp hz).1;obtain⟨kv,hk,tp,rfl,htp⟩:=Paired.at pr hz;rw[mB,List.getElem?_take,kJ (by lia)]at hk;obtain⟨b,hb,rfl⟩:=mI.mp hk;show TupI K H' (V.ref tp) (keyN s.cl (L.getD j 0));rw[kL,hb];exact⟨tp,rfl,SqT.of htp⟩
·obtain⟨sm,le,pr⟩:=hp;obtain⟨o,ho,hv⟩:=Paired.at ty hy;rw[mB]at ho;obtain⟨b,hb,rfl⟩:=mI.mp ho;have hi:=(kD.mp hb).1;refine⟨y,s.tl b,rfl,hv.same sm,sm _ _ hf,sm _ _ hc,λtp H5 ntp s5 e5=>⟨sm.trans s5,hi,?_⟩⟩;rw[q7M (f:=keyN s.cl) hb];exact L2.Paired.snoc (vT pr s5) ⟨tp,rfl,e5⟩
obtain⟨sm,le,pr⟩:=hp
have hiL:i<L.length:=by lia
obtain⟨o,ho,hv⟩:=Paired.at ty (kC hi)
rw[mB]at ho
obtain⟨b,hb,rfl⟩:=mI.mp ho
have e:L.getD i 0=b:=by rw[kL,hb];rfl
have:=qH6 (cl:=s.cl) pw hiL (λj hj=>hm j (by lia))
rw[e]at this
refine kk b _ H' this sm ?_
rw[kL,kC hi]
exact hv.same sm)
noncomputable def spBc(t:Adr):Sp:=λvs H Q E=>∃x k sh sr s,vs=[.ref x.s]∧XR t H x k sh sr s∧(k.ev=true∧x.C=t.C_Even)∧(match s.chg k with
|none=>∀H',XR t H' x k sh sr s→Keep [t.bH] H H'→E (.ref t.C_NoRoom) none H'
|some b=>∀H',XR t H' x k sh sr s→Keep [t.bH,t.bI] H H'→Q (.int (b:Int)) H')
theorem q0I(T:Txt K mg t)(S:Fns K t)(B:BmIn base mg):FnOk P w K mg base (CXe P w) 11 t.f_Even_block_to_change S.eL ["self"] (spBc t):=by(
refine S.oU.okE uD (λvs H Q E h=>?_) (λA outer s H vs Q E hr h=>?_)
·repeat obtain⟨_,h⟩:=h
 all_goals subst_vars;rfl
obtain⟨x,k,sh,sr,s,rfl,j,⟨ev,eC⟩,kk⟩:=h
refine⟨_,(qB (qW (i:=1) uD.nd rfl (Or.inl rfl) (qV (pv 0) (cl2 x.hC T.bJ T.bK) (m2e eC T.oR) (zK T S).mono hr S.fY.b .nil qK (qA (qU (pv 0) (cl2 x.hC T.bJ T.bK) (m2 x.hC T.oE T.oQ) (zE T S B).mono hr S.fM.b .nil qK) qF))) (qB (jE (qS (q3X hr.units) (pv 1) (jR qF) (qT _)) (qD (q5M j9 rfl rfl T.aC9 T.aD0 (qA q19 qF))) qQ) (qD (qN (jA y6 (qDS (qH2 (k:=9) (x:="tally") [] (by intro p hp;cases hp) rfl hr.units hr (by rfl) T.aEW (qBJ (clos:=[]) rfl T.oO B rfl rfl) (qA (pv 1) qF))) qI (λ_ _=>rfl)))))),?_⟩
try dsimp-beta-proj-iota-zeta-eta only[wishK,cxK]
obtain⟨m,hs,c,_⟩:=j.e
refine(iV rfl (iM hs.o rfl (iV rfl (iM hs.o rfl ⟨x,_,_,_,m,s.q,_,rfl,hs,c.ft,λl p rs H1 hl np k1 tb1 h1 ty=>?_⟩))))
have j1:=j.kT k1 tb1
have ty:=q55 ty
rw[c.br,c.cl]at hl
rw[c.br,qET j.w hl,qEU c.cl]at ty
refine⟨x,k,sh,sr,s,p,rs,s.ful k,rfl,j1,eC,h1,ty,(qF9 j.w).2,λp' rs' H2 np' s2 h2 ty2=>?_⟩
have j2:=j1.same s2
have k2:Keep [t.bH] H H2:=k1.trans (Keep.same s2)
refine⟨_,rfl,sz0,λe6 H6 n6 s6 h6=>⟨p',_,e6,rfl,rfl,SqL.of (s6 _ _ h2),SqL.of h6,_,rfl,?_⟩⟩
have k6:Keep [t.bH] H H6:=k2.trans (Keep.same s6)
have j6:=j2.same s6
have ty6:=ty2.same s6
have h26:=s6 _ _ h2
have ln:=ty6.len
rw[kB]at ln
have pw:=qJQ (k:=k) (s:=s)
unfold XS.chg at kk
generalize s.clb k (s.ful k)=L at kk ty6 ln pw
cases rs' with
|nil=>obtain rfl:L=[]:=wH ln.symm;exact iteT ⟨sz1,kk H6 j6 k6⟩
|cons u us=>
 have ne:L≠[]:=λz=>by rw[z]at ln;cases ln
 refine iteF ?_;obtain⟨J,eJ⟩:∃J:VK,J=λv H5=>∃tp b,v=.ref tp∧H5 tp=some (.tup ((s.tl b).ns.map V.int))∧minF s.cl L=some b∧XR t H5 x k sh sr s∧Keep [t.bH,t.bI] H H5:=⟨_,rfl⟩;refine⟨J,?_,?_⟩
 ·refine⟨_,rfl,?_⟩;obtain⟨pf,hTf,hf0,tB⟩:=j6.tb;obtain⟨ps,hT,ht,hcc⟩:=qH5 tB;have nT:p'≠t.bI:=λz=>by rw[z,hT]at h26;cases h26
  refine⟨ps,hT,ht,?_⟩;have fin:∀b v H4 H5,Keep [t.bH,t.bI] H6 H4→XR t H4 x k sh sr s→minF s.cl L=some b→Same H4 H5→TlAt H5 v (s.tl b)→J v H5:=λb v H4 H5 k4 j4 e s5 hv=>by obtain⟨tp,rfl,h5⟩:=hv;rw[eJ];exact⟨tp,b,rfl,h5,e,j4.same s5,((k6.mono (by simp)).trans k4).trans (Keep.same s5)⟩
  rcases hcc with⟨hn,tb⟩|⟨c0,hn,hc0⟩
  ·refine .inl ⟨hn,λf c' ctv H4 nf hf hc' hT4 kp=>?_⟩;have nTT:t.bH≠t.bI:=T.tZ;have k4:Keep [t.bH,t.bI] H6 H4:=⟨λb o nb e=>kp b o (λz=>nb (by rw[z];simp)) e,λb xs e=>kp b _ (λz=>by rw[z,hT]at e;cases e) e⟩;have k4':Keep [t.bI] H6 H4:=⟨λb o nb e=>kp b o (λz=>nb (by rw[z];simp)) e,k4.tp⟩;have tb4:TbF t H4:=by
    refine⟨pf,kp _ _ nTT hTf,?_,tb c' H4 hT4 hc'⟩;rcases hf0 with z|⟨c1,z,a⟩
    ·exact .inl z
    exact .inr ⟨c1,z,kp _ _ (λz=>by rw[z,hT]at a;cases a) a⟩
   obtain⟨m6,st6,_⟩:=j6.e;have j4:=j6.keep k4' (λb hb z=>st6.nX hT (.inl ⟨_,rfl⟩) (by rw[←h9.mp z];exact hb)) tb4;exact qBY (k:=k) (s:=s) (show 1≤11-2 by decide) ne pw (kp _ _ nT h26) (Paired.mapP ty6 λv o ⟨a,e,z⟩=>⟨a,e,k4.tp _ _ z⟩) hf hc' λb v H5 e s5 hv=>fin b v H4 H5 k4 j4 e s5 hv
  refine .inr ⟨c0,hn,λf ctv H4 nf hf s4=>?_⟩;exact qBY (k:=k) (s:=s) (show 1≤11-2 by decide) ne pw (s4 _ _ h26) (ty6.same s4) hf (s4 _ _ hc0) λb v H5 e s5 hv=>fin b v H4 H5 (Keep.same s4) (j6.same s4) e s5 hv
 rw[eJ];rintro v H5 ⟨tp,b,rfl,h5,e,j5,k5⟩
 rw[e]at kk;exact(iT (k:=0) (v:=_) (SqT.of h5) rfl (kk H5 j5 k5)))
noncomputable def spCh(t:Adr)(C:Addr):Sp:=λvs H Q E=>∃x k sh sr s r rl g,vs=[.ref x.s]∧XR t H x k sh sr s∧(Evc t x k∧x.C=C)∧x.ru=.ref r∧RuX t H r rl g∧Off t x (r::rl)∧s.rc.length<1000000∧(match s.tk k g with
|none=>∀H',XR t H' x k sh sr s→Keep [t.bH] H H'→E (.ref t.C_NoRoom) none H'
|some (y,b,g')=>∀p H',Keep [t.bH,t.bI,r] H H'→XR t H' x k sh sr s→RuX t H' r rl g'→H' p=some (.tup [.str y,.int (b:Int)])→Q (.ref p) H')
theorem q6K(T:Txt K mg t)(S:Fns K t)(nC:t.C_Store≠t.C_Even)(B:BmIn base mg):S.aAB.OkE P w mg base 13 (spCh t t.C_Even):=by(
refine S.aAB.F.okE q1X (λvs H Q E h=>?_) (λcdv A outer s H vs Q E hr h=>?_)
·repeat obtain⟨_,h⟩:=h
 all_goals subst_vars;rfl
obtain⟨x,k,sh,sr,s,r,rl,g,rfl,j,⟨evc,eC⟩,er,hR,of,rc,kk⟩:=h
have ev:=evc.ev nC eC
refine⟨_,(qB (qW (i:=1) q1X.nd rfl (Or.inl rfl) (qU (pv 0) (cl2 x.hC T.bJ T.bK) (m2e eC T.tV) ((q18 T S nC B).mono (by decide)) hr S.i4.b .nil qK)) (qB (jE (qS (q3X hr.units) (pv 1) (jR qF) (qT _)) (qD (qN (uJ (qA q19 (qA (uB j9 (pv 0) (cl2 x.hC T.bJ T.bK) (m2e eC T.oS) (q0I T S B).mono hr S.oW .nil) qF))))) qQ) (qD (qN (qV (pv 0) (cl2 x.hC T.bJ T.bK) (m2 x.hC T.fQ T.f7) (uF T S).mono hr S.eA.b .nil qK (qA (pv 1) qF)))))),?_⟩
try dsimp-beta-proj-iota-zeta-eta only[wishK,cxK]
refine(iV rfl (iM j.o rfl ?_))
dsimp only[tNil,g7]
refine j.opts evc eC λp rs H1 np j1 k1 h1 ty=>?_
refine⟨_,rfl,sz0,λe6 H6 n6 s6 h6=>⟨p,_,e6,rfl,rfl,SqL.of (s6 _ _ h1),SqL.of h6,_,rfl,?_⟩⟩
have k6:Keep [t.bH] H H6:=k1.trans (Keep.same s6)
have j6:=j1.same s6
have ln:=ty.len
unfold XS.tk at kk
cases rs with
|nil=>
 have e0:s.opt k=[]:=wA.mp (wH ln.symm);rw[kJ e0,ev,kJ rfl]at kk;refine iteT ?_;refine(iV rfl (iM j6.o rfl ⟨x,k,sh,sr,s,rfl,j6,⟨ev,eC⟩,?_⟩));have oT:=of t.bH (by simp);have oB:=of t.bI (by simp);cases z:s.chg k with
 |none=>rw[z]at kk;exact λH7 j7 k7=>kk H7 j7 (k6.trans k7)
 |some b=>
  rw[z]at kk;refine λH7 j7 k7=>⟨sz2,λtp H8 n8 s8 h8=>?_⟩;have k8:Keep [t.bH,t.bI] H H8:=((k6.mono (by simp)).trans k7).trans (Keep.same s8);refine kk tp H8 (k8.mono (by intro y hy;simp at hy ⊢;rcases hy with e|e<;>simp[e])) (j7.same s8) (hR.keep k8 λy hy z=>?_) h8;have z:y=t.bH∨y=t.bI:=by simpa using z
  rcases z with z|z
  ·exact oT (by rw[←z];exact hy)
  exact oB (by rw[←z];exact hy)
|cons u us=>
 have ne:s.opt k≠[]:=λz=>by unfold XS.ots at ln;rw[z]at ln;cases ln
 rw[kF ne]at kk;refine iteF ?_;obtain⟨m,hs6,c,_⟩:=j6.e;have oT:=of t.bH (by simp);have hR6:=hR.keep k6 (λy hy z=>oT (by rw[←h9.mp z];exact hy));have ne':s.ots k≠[]:=λz=>ne (wA.mp z);have okT:∀o∈s.ots k,o.Ok (s.q.P:Int) s.q.nx:=λo ho=>by obtain⟨b,hb,rfl⟩:=kZ.mp ho;exact qHM j.w rc (uN.mp hb).1.1.b
 refine(iV rfl (iM hs6.o rfl ⟨_,rfl,x,_,_,_,_,m,s.q,r,rl,g,p,_,_,rfl,hs6,c.ft,er,hR6,s6 _ _ h1,ty.same s6,ne',by unfold XS.ots;rw[kB];exact qEW j.w,okT,qBP,λpp H7 k7 hR7 h7=>?_⟩));have cm:=qAO (pg:=(s.q.P:Int)) (nw:=s.q.nx) hR.ok ne';refine kk pp H7 ((k6.mono (by simp)).trans (k7.mono (by simp))) (j6.kR of k7 hR6) hR7 ?_;rw[h7];obtain⟨b,hb,e⟩:=kZ.mp cm;obtain⟨c',_,rfl⟩:=kZ.mp hb;have e:(c':Int)=(g.ch (s.q.P:Int) s.q.nx (s.ots k)).1:=e;rw[←e,mQ])
theorem q4U(T:Txt K mg t)(S:Fns K t)(nC:t.C_Store≠t.C_Even)(B:BmIn base mg):S.oY.OkE P w mg base 13 (spCh t t.C_Store):=by(
refine S.oY.F.okE q16 (λvs H Q E h=>?_) (λcdv A outer s H vs Q E hr h=>?_)
·repeat obtain⟨_,h⟩:=h
 all_goals subst_vars;rfl
obtain⟨x,k,sh,sr,s,r,rl,g,rfl,j,⟨evc,eC⟩,er,hR,of,rc,kk⟩:=h
have ev:=evc.st nC eC
refine⟨_,(qB (qW (i:=1) q16.nd rfl (Or.inl rfl) (qU (pv 0) (cl2 x.hC T.bJ T.bK) (m2e eC T.o7) ((q0H T S nC B).mono (by decide)) hr S.iD.b .nil qK)) (qB (jE (qS (q3X hr.units) (pv 1) (jR qF) (qT _)) (qD (q5M j9 rfl rfl T.aC9 T.aD0 (qA q19 qF))) qQ) (qD (qN (qV (pv 0) (cl2 x.hC T.bJ T.bK) (m2 x.hC T.fQ T.f7) (uF T S).mono hr S.eA.b .nil qK (qA (pv 1) qF)))))),?_⟩
try dsimp-beta-proj-iota-zeta-eta only[wishK,cxK]
refine(iV rfl (iM j.o rfl ?_))
dsimp only[tNil,g7]
refine j.opts evc eC λp rs H1 np j1 k1 h1 ty=>?_
refine⟨_,rfl,sz0,λe6 H6 n6 s6 h6=>⟨p,_,e6,rfl,rfl,SqL.of (s6 _ _ h1),SqL.of h6,_,rfl,?_⟩⟩
have k6:Keep [t.bH] H H6:=k1.trans (Keep.same s6)
have j6:=j1.same s6
have ln:=ty.len
unfold XS.tk at kk
cases rs with
|nil=>have e0:s.opt k=[]:=wA.mp (wH ln.symm);rw[kJ e0,kF (by rw[ev];decide)]at kk;refine iteT ?_;exact⟨sz1,kk H6 j6 k6⟩
|cons u us=>
 have ne:s.opt k≠[]:=λz=>by unfold XS.ots at ln;rw[z]at ln;cases ln
 rw[kF ne]at kk;refine iteF ?_;obtain⟨m,hs6,c,_⟩:=j6.e;have oT:=of t.bH (by simp);have hR6:=hR.keep k6 (λy hy z=>oT (by rw[←h9.mp z];exact hy));have ne':s.ots k≠[]:=λz=>ne (wA.mp z);have okT:∀o∈s.ots k,o.Ok (s.q.P:Int) s.q.nx:=λo ho=>by obtain⟨b,hb,rfl⟩:=kZ.mp ho;exact qHM j.w rc (uN.mp hb).1.1.b
 refine(iV rfl (iM hs6.o rfl ⟨_,rfl,x,_,_,_,_,m,s.q,r,rl,g,p,_,_,rfl,hs6,c.ft,er,hR6,s6 _ _ h1,ty.same s6,ne',by unfold XS.ots;rw[kB];exact qEW j.w,okT,qBP,λpp H7 k7 hR7 h7=>?_⟩));have cm:=qAO (pg:=(s.q.P:Int)) (nw:=s.q.nx) hR.ok ne';refine kk pp H7 ((k6.mono (by simp)).trans (k7.mono (by simp))) (j6.kR of k7 hR6) hR7 ?_;rw[h7];obtain⟨b,hb,e⟩:=kZ.mp cm;obtain⟨c',_,rfl⟩:=kZ.mp hb;have e:(c':Int)=(g.ch (s.q.P:Int) s.q.nx (s.ots k)).1:=e;rw[←e,mQ])
theorem opt2(T:Txt K mg t)(S:Fns K t)(nC:t.C_Store≠t.C_Even)(B:BmIn base mg){C:Addr}(h:C=t.C_Store∨C=t.C_Even):∃f fd,Meth K C "options" f∧FnOk P w K mg base CX0 12 f fd ["self"] (qBX t C)∧jL K fd ["self"] []:=by(
rcases h with rfl|rfl
·exact⟨_,_,T.o7,(q0H T S nC B).mono (by decide),S.iD.b⟩
exact⟨_,_,T.tV,(q18 T S nC B).mono (by decide),S.i4.b⟩)
theorem cho2(T:Txt K mg t)(S:Fns K t)(nC:t.C_Store≠t.C_Even)(B:BmIn base mg){C:Addr}(h:C=t.C_Store∨C=t.C_Even):∃f fd,Meth K C "choice" f∧FnOk P w K mg base (CXe P w) 13 f fd ["self"] (spCh t C)∧jL K fd ["self"] []:=by(
rcases h with rfl|rfl
·exact⟨_,_,T.aB8,(q4U T S nC B).mono (by decide),S.oY.b⟩
exact⟨_,_,T.aCK,(q6K T S nC B).mono (by decide),S.aAB.b⟩)
noncomputable def spPp(K:W.Frag):Sp:=λvs H Q _=>∃wy bl wi l1 l2 rs us,vs=[wy,.ref l1,bl,.ref l2,wi]∧H l1=some (.lst rs)∧H l2=some (.lst us)∧∀pa a1 a2 H',Same H H'→H pa=none→H a1=none→H a2=none→H' pa=some (.tup [wy,.ref a1,bl,.ref a2,wi])→H' a1=some (.lst rs)→H' a2=some (.lst us)→Q (.ref pa) H'
theorem q4H(T:Txt K mg t)(S:Fns K t):S.aBF.Ok0 P w mg base 1 (spPp K):=by(
refine S.aBF.F.ok0 q9P λcdv A _ s H vs Q E hr h=>?_
obtain⟨wy,bl,wi,l1,l2,rs,us,rfl,h1,h2,k⟩:=h
refine⟨_,(qD (qN (uJ (qA (pv 0) (qA (q3W zM (by rfl) T.aD9 (by kernel_rfl) (qA (pv 1) qF)) (qA (pv 2) (qA (q3W zM (by rfl) T.aD9 (by kernel_rfl) (qA (pv 3) qF)) (qA (pv 4) qF)))))))),?_⟩
try dsimp-beta-proj-iota-zeta-eta only[wishK,cxK]
refine⟨_,rfl,_,rfl,l1,rs,rfl,.inl (SqL.of h1),λa1 H1 n1 s1 e1=>?_⟩
refine⟨_,rfl,_,rfl,l2,us,rfl,.inl (SqL.of (s1 _ _ h2)),λa2 H2 n2 s2 e2=>?_⟩
refine⟨_,rfl,sz5,λpa H3 n3 s3 e3=>?_⟩
exact k pa a1 a2 H3 ((s1.trans s2).trans s3) ((s1.trans s2).free n3) n1 (s1.free n2) e3 (s3 _ _ (s2 _ _ e1)) (s3 _ _ e2))
theorem qH7{s:XS}{k:Tm}{b:Nat}{rs:List (List Int)}(w:WX k s)(pm:rs.Perm (lpK s.q.P b s.q.V))(so:rs.Pairwise λa b=>lx b a=false):rs=lvP s.q.P b s.q.V:=by(
refine qGP w.qs.ok.p1 w.pd ?_ (λkk=>?_) so
·refine pm.nodup_iff.mpr ?_;unfold lpK;refine g4.mpr (((g4.mp w.qs.ok.nd).imp fun {a c} hne z=>hne ?_).filter _);injection z with _ z
 injection z with z _
rw[pm.mem_iff]
unfold lpK
rw[kZ]
constructor
·rintro⟨y,hy,rfl⟩
 obtain⟨a1,a2⟩:=mK.mp hy;exact⟨y.1,y.2,rfl,a1,mM a2⟩
rintro⟨n,p,rfl,a1,a2⟩
exact⟨(n,p),mK.mpr ⟨a1,hG a2⟩,rfl⟩)
noncomputable def spMv(t:Adr):Sp:=λvs H Q E=>∃x k sh sr s,∃b:Nat,vs=[.ref x.s,.int (b:Int)]∧XR t H x k sh sr s∧Full k s b∧s.rc.length+100<1000000∧(match XS.mvs (lvP s.q.P b s.q.V) s with
|(s',none)=>∀H',XR t H' x k sh sr s'→Keep (t.bH::sf x) H H'→E (.ref t.C_PowerGone) none H'
|(s',some ms)=>∀ml us H',XR t H' x k sh sr s'→H ml=none→H' ml=some (.lst us)→Paired (TupD H') us ms→Mvd k s b s' (lvP s.q.P b s.q.V).length→(∀y∈s'.q.V,¬y.2 / (s'.q.P:Int)=(b:Int))→Keep (t.bH::sf x) H H'→Q (.ref ml) H')
theorem q6L(T:Txt K mg t)(S:Fns K t)(B:BmIn base mg):S.t9.OkE P w mg base 12 (spMv t):=by(
refine S.t9.F.okE uV (λvs H Q E h=>?_) (λcdv A outer s H vs Q E hr h=>?_)
·repeat obtain⟨_,h⟩:=h
 all_goals subst_vars;rfl
obtain⟨x,k,sh,sr,s,b,rfl,j,fl,rc,kk⟩:=h
have s9:(99999:Nat)<sizeLine:=by decide
have spR:=fl.sp j.w
have l6:=j.w.l6
refine⟨_,(qB (qW (i:=2) uV.nd rfl (Or.inl rfl) (jR qF)) (qB (zL cA rfl (y8 (qV (qJ (pv 0) rfl) T.bR T.aA3 (q38 T S).mono hr S.iO.b .nil qK (qA (pv 1) qF))) (q7U rfl (yI (qZ (i:=3) uV.nd rfl (Or.inl rfl)) (yI (qZ (i:=4) uV.nd rfl (Or.inl rfl)) q3C))) (qD (qY (qDE cW cN cO q29 (pv 2) (qA (uJ (qA (pv 4) (qA (pv 3) (qA (jO j9 (pv 0) (cl2 x.hC T.bJ T.bK) (m2 x.hC T.aAF T.aA1) (q13 T S B).mono hr S.o8.b .nil (qA (pv 4) (qA (jO j9 (pv 0) (cl2 x.hC T.bJ T.bK) (m2 x.hC T.tP T.tT) (q14 T S).mono hr S.fF.b .nil (qA (pv 3) (qA (pv 4) qF))) qF))) qF)))) qF q5N))))) (qD (qN (pv 2))))),?_⟩
try dsimp-beta-proj-iota-zeta-eta only[wishK,cxK]
refine⟨sz0,λml H1 n1 s1 h1=>?_⟩
obtain⟨m,hs1,c,_⟩:=(j.same s1).e
refine⟨_,rfl,x.s,_,x.sd,_,_,rfl,hs1.o,(cl2 x.hC T.bJ T.bK),(na2 x.hC T.bN T.bS),rfl,iM hs1.bk.o rfl ⟨_,rfl,x.k,s.q,b,rfl,hs1.bk,j.w.qs.ok,by lia,λll ps rs H2 s2 n2 h2 pr2 pm so=>?_⟩⟩
obtain rfl:=qH7 j.w pm so
have s02:=s1.trans s2
have mlF:=j.off n1
have llF:=(j.same s1).off n2
have llm:ll≠ml:=(qH h1 n2).symm
have lps:=pr2.len
have lr:(lvP s.q.P b s.q.V).length≤16:=by have:=j.w.qs.ok.p2;unfold lvP;refine mF (d3 _ _) ?_;rw[gC];exact this
refine⟨ll,rfl,⟨_,SqL.of h2⟩,?_⟩
refine vR (K:=K) (xs:=ps) (λi σ' H'=>∃y3 y4 us s' ms,σ'=[some (.ref x.s),some (.int (b:Int)),some (.ref ml),y3,y4]∧XR t H' x k sh sr s'∧MvI k s b (lvP s.q.P b s.q.V) i s' ms∧H' ml=some (.lst us)∧Paired (TupD H') us ms∧Keep (ml::t.bH::sf x) H2 H') ⟨_,_,[],s,[],rfl,j.same s02,MvI.zero j.w fl.f,s2 _ _ h1,.nil,Keep.refl⟩ (λi σ' H' hi hp=>?_) (λi v σ' H' hv hp=>?_) (λσ' H' hp=>?_)
·obtain⟨y3,y4,us,s',ms,rfl,j',mi,hml,pr,kk'⟩:=hp;refine SqL.of (kk'.k _ _ (λz=>?_) h2);rcases kI.mp z with e|e
 ·exact llm e
 exact llF e
·obtain⟨y3,y4,us,s',ms,rfl,j',mi,hml,pr,kk'⟩:=hp;obtain⟨kv,hk,tp,rfl,htp⟩:=Paired.at pr2 hv;obtain⟨hi,ekv⟩:=kD.mp hk;obtain⟨n,p,er,hnp,n0,n64⟩:=mi.at hi;rw[er]at ekv;subst ekv;have htp':=kk'.tp _ _ htp;have rce:=mi.rc;have rme:=mi.rm;have kH:∀{G},Keep (t.bH::sf x) H' G→Keep (t.bH::sf x) H G:=fun {G} kG=>by
  refine⟨λy o ny e=>kG.k y o ny (kk'.k y o (λz=>?_) (s02 _ _ e)),λy ys e=>kG.tp _ _ (kk'.tp _ _ (s02 _ _ e))⟩;rcases kI.mp z with z|z
  ·rw[z,n1]at e;cases e
  exact ny z
 refine⟨tp,_,rfl,SqT.of htp',rfl,_,_,rfl,_,_,rfl,rfl,?_⟩;refine⟨_,rfl,.inl ⟨rfl,_,SqL.of hml⟩,_,rfl,_,rfl,iV rfl (iM j'.o rfl ⟨_,rfl,iV rfl (iM j'.o rfl ⟨_,rfl,_,rfl,x,k,sh,sr,s',n,p,rfl,j',hnp,λdk=>?_,λH3 s3=>?_⟩)⟩)⟩
 ·rw[mi.dark hi dk]at kk;exact kk H' j' (kH Keep.refl)
 dsimp only[tNil,wF,g7,g5];have hml3:=s3 _ _ hml;refine(j'.same s3).set n0 n64 (by lia) (by rw[mi.eP];lia) (.inl ⟨p,hnp⟩) (λdk H5 j5 k5=>?_) (λdk H5 j5 k5=>?_)
 ·rw[mi.dark hi dk]at kk;exact kk H5 j5 (kH ((Keep.same s3).trans k5))
 have hml5:=k5.k _ _ mlF hml3;refine⟨sz3,λtu H6 n6 s6 h6=>⟨ml,us,_,rfl,rfl,s6 _ _ hml5,by have:=pr.len;have:=mi.l;lia,?_⟩⟩;have hml6:=s6 _ _ hml5;have k7:=Keep.upd (F:=[ml]) (o:=.lst (us++[.ref tu])) hml6 (λ_ z=>by cases z) (by simp);have hml7:(upd H6 ml (.lst (us++[.ref tu]))) ml=_:=qG;have j7:=(j5.same s6).lst (o:=.lst (us++[.ref tu])) hml6 mlF;generalize upd H6 ml (.lst (us++[.ref tu]))=H7 at k7 hml7 j7 ⊢;have kA:Keep (ml::t.bH::sf x) H' H7:=(((Keep.same s3).trans (k5.mono (λy hy=>hU _ hy))).trans (Keep.same s6)).trans (k7.mono (by simp));exact⟨some (.int p),some (.int n),us++[.ref tu],_,_,rfl,j7,mi.step q60 hi spR dk er,hml7,L2.Paired.snoc (Paired.mapP pr λv d ⟨p',e',h'⟩=>⟨p',e',kA.tp _ _ h'⟩) ⟨tu,rfl,k7.tp _ _ h6⟩,kk'.trans kA⟩
obtain⟨y3,y4,us,s',ms,rfl,j',mi,hml,pr,kk'⟩:=hp
rw[lps]at mi
obtain⟨e,nl⟩:=mi.fin rfl
rw[e]at kk
have kH:Keep (t.bH::sf x) H H':=by
 refine⟨λy o ny e=>kk'.k y o (λz=>?_) (s02 _ _ e),λy ys e=>kk'.tp _ _ (s02 _ _ e)⟩;rcases kI.mp z with z|z
 ·rw[z,n1]at e;cases e
 exact ny z
exact⟨_,rfl,kk ml us H' j' n1 hml pr (mi.mvd (kN _)) nl kH⟩)
noncomputable abbrev fx(t:Adr)(x:Sto)(r pp:Addr):List Addr:=pp::r::t.bI::t.bH::sf x
noncomputable def PapA(H:Hp)(F:List Addr)(v:V)(p:Pa):Prop:=∃pa l1 l2 us rs,v=.ref pa∧H pa=some (.tup [.str p.why,.ref l1,.int (p.b:Int),.ref l2,.bl true])∧H l1=some (.lst rs)∧Tls H rs p.ts∧H l2=some (.lst us)∧Paired (TupD H) us p.mv∧l1∉F∧l2∉F
theorem PapA.keep{H H':Hp}{F G:List Addr}{v:V}{p:Pa}(h:PapA H F v p)(k:Keep G H H')(s:∀y∈G,y∈F):PapA H' F v p:=by obtain⟨pa,l1,l2,us,rs,e,a,b,c,d,f,g1,g2⟩:=h;exact⟨pa,l1,l2,us,rs,e,k.tp _ _ a,k.k _ _ (λz=>g1 (s _ z)) b,q0G k c,k.k _ _ (λz=>g2 (s _ z)) d,Paired.mapP f λv d ⟨p',e',h'⟩=>⟨p',e',k.tp _ _ h'⟩,g1,g2⟩
theorem PapA.kp{H H':Hp}{F G A:List Addr}{v:V}{p:Pa}(h:PapA H (F++G) v p)(k:Keep A H H')(s:∀y∈A,y∈F):PapA H' (F++G) v p:=h.keep k λy hy=>gO _ (s y hy)
structure XX(t:Adr)(H:Hp)(x:Sto)(k:Tm)(sh sr:Int)(r:Addr)(rl:List Addr)(pp:Addr)(X:Sx):Prop where
j:XR t H x k sh sr X.s
er:x.ru=.ref r
ru:RuX t H r rl X.g
of:Off t x (r::rl)
ep:x.pa=.ref pp
hp:∃ps,H pp=some (.lst ps)∧Paired (PapA H (fx t x r pp++x.G)) ps X.ps
np:pp∉t.bH::sf x
nr:pp∉r::rl
gi:∀y∈x.G,y∉fx t x r pp∧∃o,H y=some o
section
variable{H H':Hp}{x:Sto}{k:Tm}{sh sr:Int}{r:Addr}{rl:List Addr}{pp:Addr}{X:Sx}
theorem XX.gk(h:XX t H x k sh sr r rl pp X){F:List Addr}(kk:Keep F H H')(s:∀y∈F,y∈fx t x r pp):∀y∈x.G,y∉fx t x r pp∧∃o,H' y=some o:=λy hy=>by obtain⟨n,o,e⟩:=h.gi y hy;exact⟨n,o,kk.k _ _ (λz=>n (s y z)) e⟩
theorem XX.kT(h:XX t H x k sh sr r rl pp X)(kk:Keep [t.bH] H H')(tb:TbF t H'):XX t H' x k sh sr r rl pp X:=by obtain⟨ps,h1,h2⟩:=h.hp;have oT:=h.of t.bH (by simp);exact⟨h.j.kT kk tb,h.er,h.ru.keep kk (λy hy z=>oT (by rw[←h9.mp z];exact hy)),h.of,h.ep,⟨ps,kk.k _ _ (λz=>h.np (by rw[h9.mp z];simp)) h1,Paired.mapP h2 λ_ _ z=>z.kp kk (by simp)⟩,h.np,h.nr,h.gk kk (by simp)⟩
theorem XX.same(h:XX t H x k sh sr r rl pp X)(s:Same H H'):XX t H' x k sh sr r rl pp X:=h.kT (Keep.same s) (h.j.tb.same s)
theorem XX.on(h:XX t H x k sh sr r rl pp X){s:XS}(kk:Keep (t.bH::sf x) H H')(j:XR t H' x k sh sr s):XX t H' x k sh sr r rl pp ⟨s,X.g,X.ps⟩:=by obtain⟨ps,h1,h2⟩:=h.hp;exact⟨j,h.er,h.ru.keep kk (λy hy=>h.of.n hy),h.of,h.ep,⟨ps,kk.k _ _ h.np h1,Paired.mapP h2 λ_ _ z=>z.kp kk (by intro y hy;simp at hy ⊢;rcases hy with e|e<;>simp[e])⟩,h.np,h.nr,h.gk kk (by intro y hy;simp at hy ⊢;rcases hy with e|e<;>simp[e])⟩
end
noncomputable def rfE(t:Adr)(e:Rf)(E:XK)(H:Hp):Prop:=match e with
| .dark=>E (.ref t.C_PowerGone) none H
| .room=>E (.ref t.C_NoRoom) none H
noncomputable def qKZ(t:Adr):Sp:=λvs H Q E=>∃x k sh sr r rl pp X,vs=[.ref x.s]∧XX t H x k sh sr r rl pp X∧Evc t x k∧X.s.rc.length+200<1000000∧X.ps.length<90000∧(match X.room k with
|(Y,.error e)=>∀H',XX t H' x k sh sr r rl pp Y→Keep (fx t x r pp) H H'→rfE t e E H'
|(Y,.ok p)=>∀v H',XX t H' x k sh sr r rl pp Y→Keep (fx t x r pp) H H'→Q v H')
theorem q3B(T:Txt K mg t)(S:Fns K t)(nC:t.C_Store≠t.C_Even)(B:BmIn base mg):S.iQ.OkE P w mg base 14 (qKZ t):=by(
refine S.iQ.F.okE jY (λvs H Q E h=>?_) (λcdv A outer s H vs Q E hr h=>?_)
·repeat obtain⟨_,h⟩:=h
 all_goals subst_vars;rfl
obtain⟨x,k,sh,sr,r,rl,pp,X,rfl,h,ev,rc,lp,kk⟩:=h
have s9:(99999:Nat)<sizeLine:=by decide
obtain⟨fO,fdO,mO,okO,bO⟩:=opt2 T S nC B x.hC
obtain⟨fC,fdC,mC,okC,bC⟩:=cho2 T S nC B x.hC
refine⟨_,(qB (qW (i:=1) jY.nd rfl (Or.inl rfl) (qU (pv 0) (cl2 x.hC T.bJ T.bK) mO (okO.mono (by decide)) hr bO .nil qK)) (qB (qW (i:=2) jY.nd rfl (Or.inl rfl) (uB j9 (pv 0) (cl2 x.hC T.bJ T.bK) mC (okC.mono (by decide)) hr bC .nil)) (qB (qW (i:=3) jY.nd rfl (Or.inl rfl) (jO j9 (pv 0) (cl2 x.hC T.bJ T.bK) (m2 x.hC T.aCW T.aC7) (q6L T S B).mono hr S.t9.b .nil (qA (jA y6 (pv 2) qI (λ_ _=>rfl)) qF))) (qB (qW (i:=4) jY.nd rfl (Or.inl rfl) (jO j9 (pv 0) (cl2 x.hC T.bJ T.bK) (m2 x.hC T.aCS T.aC1) (q6H T S).mono hr S.aAK.b .nil (qA (jA y6 (pv 2) qI (λ_ _=>rfl)) qF))) (qB (qY (qDE cW cN cO q29 (qJ (pv 0) rfl) (qA (qX (q4H T S).mono hr rfl T.aBN T.aBY S.aBF.b .nil qK (qA (jA y6 (pv 2) qI (λ_ _=>rfl)) (qA (pv 1) (qA (jA y6 (pv 2) qI (λ_ _=>rfl)) (qA (pv 3) (qA (pv 4) qF)))))) qF))) (qD (qN (qX (q4H T S).mono hr rfl T.aBN T.aBY S.aBF.b .nil qK (qA (jA y6 (pv 2) qI (λ_ _=>rfl)) (qA (pv 1) (qA (jA y6 (pv 2) qI (λ_ _=>rfl)) (qA (pv 3) (qA (pv 4) qF))))))))))))),?_⟩
try dsimp-beta-proj-iota-zeta-eta only[wishK,cxK]
refine(iV rfl (iM h.j.o rfl ?_))
dsimp only[tNil,g7]
refine h.j.opts ev rfl λop rs H1 np j1 k1 h1 ty=>?_
have h1':=h.kT k1 j1.tb
have mT:∀y∈[t.bH],y∈fx t x r pp:=by simp
refine(iV rfl (iM j1.o rfl ⟨x,k,sh,sr,X.s,r,rl,X.g,rfl,j1,⟨ev,rfl⟩,h.er,h1'.ru,h.of,by lia,?_⟩))
unfold Sx.room at kk
cases htk:X.s.tk k X.g with
|none=>rw[htk]at kk;exact λH2 j2 k2=>kk H2 (h1'.kT k2 j2.tb) ((k1.mono mT).trans (k2.mono mT))
|some ybg=>
 obtain⟨y,b,g'⟩:=ybg;rw[htk]at kk;have fb:=q3O h.ru.ok htk;refine λcp H2 k2 j2 hR2 h2=>?_;have m2:∀y∈[t.bH,t.bI,r],y∈fx t x r pp:=by simp
 have mS:∀y∈t.bH::sf x,y∈fx t x r pp:=λy hy=>hU _ (hU _ (hU _ hy));have k02:Keep (fx t x r pp) H H2:=(k1.mono mT).trans (k2.mono m2);have npr:pp∉r::t.bH::sf x:=λz=>(kI.mp z).elim (λe=>h.nr (by rw[e];exact kX)) h.np;obtain⟨ps,hp0,hpp0⟩:=h.hp;obtain⟨_,hTF,_,pB,hTB,_⟩:=h.j.tb;have np2:pp∉[t.bH,t.bI,r]:=λz=>by
  have z:pp=t.bH∨pp=t.bI∨pp=r:=by simpa using z
  rcases z with z|z|z
  ·exact npr (by rw[z];simp)
  ·rw[z,hTB]at hp0;cases hp0
  exact npr (by rw[z];simp)
 have lps:=hpp0.len;have h2':XX t H2 x k sh sr r rl pp ⟨X.s,g',X.ps⟩:=⟨j2,h.er,hR2,h.of,h.ep,⟨ps,k2.k _ _ np2 (k1.k _ _ (λz=>h.np (by rw[h9.mp z];simp)) hp0),Paired.mapP hpp0 λ_ _ z=>(z.kp k1 mT).kp k2 m2⟩,h.np,h.nr,h.gk k02 (λ_ z=>z)⟩;have opn:=h.j.off np;obtain⟨C0,d0,f0,er0⟩:=h.ru.ins;have opr:op≠r:=λz=>by rw[z,er0]at np;cases np
 have opp:op≠pp:=λz=>by rw[z,hp0]at np;cases np
 have opH2:H2 op=some (.lst rs):=k2.k _ _ (λz=>by
  have z:op=t.bH∨op=t.bI∨op=r:=by simpa using z
  rcases z with z|z|z
  ·exact opn (by rw[z];simp)
  ·rw[z,hTB]at np;cases np
  exact opr z) h1
 refine(iV rfl (iM j2.o rfl ⟨_,rfl,iT (k:=1) (v:=.int (b:Int)) (SqT.of h2) rfl ⟨x,k,sh,sr,X.s,b,rfl,j2,fb,by lia,?_⟩⟩));cases hmv:XS.mvs (lvP X.s.q.P b X.s.q.V) X.s with
 |mk s o=>
  dsimp only at kk;rw[hmv]at kk;cases o with
  |none=>exact λH3 j3 k3=>kk H3 (h2'.on k3 j3) (k02.trans (k3.mono mS))
  |some ms=>
   refine λml us H3 j3 nm hml prm md nl k3=>?_;dsimp only at kk;have h3:=k3.tp _ _ h2;have mrc:=md.rc;have l16:(lvP X.s.q.P b X.s.q.V).length≤16:=by have:=h.j.w.qs.ok.p2;unfold lvP;refine mF (d3 _ _) ?_;rw[gC];exact this
   refine(iV rfl (iM j3.o rfl ⟨_,rfl,iT (k:=1) (v:=.int (b:Int)) (SqT.of h3) rfl ⟨x,k,sh,sr,s,b,rfl,j3,by rw[md.eB];exact fb.b,by rw[md.eP];exact md.fb,by lia,nl,λdk=>?_,λdk H4 j4 k4=>⟨rfl,?_⟩⟩⟩))
   ·rw[kJ dk]at kk;exact kk H3 (h2'.on k3 j3) (k02.trans (k3.mono mS))
   rw[kF dk]at kk;have k34:Keep (t.bH::sf x) H2 H4:=k3.trans k4;have h4x:=h2'.on k34 j4;obtain⟨ps4,hpp4,prp4⟩:=h4x.hp;have lps4:=prp4.len;have hR4:=h4x.ru;obtain⟨C4,d4,f4,er4⟩:=hR4.ins;have h4:=k34.tp _ _ h2;have hop4:=k34.k _ _ opn opH2;have mln:=j2.off nm;have hml4:=k4.k _ _ mln hml;have o4:=j4.o;rw[h.ep]at o4;refine⟨_,rfl,x.s,_,x.sd,_,_,rfl,o4,(cl2 x.hC T.bJ T.bK),(na2 x.hC T.eU T.fB),rfl,.inl ⟨rfl,_,SqL.of hpp4⟩,_,rfl,iT (k:=0) (v:=_) (SqT.of h4) rfl ⟨_,rfl,_,rfl,iT (k:=1) (v:=_) (SqT.of h4) rfl ⟨_,rfl,_,rfl,.str y,.int (b:Int),.bl true,op,ml,rs,us,rfl,hop4,hml4,λpa a1 a2 H5 s5 npa na1 na2 e5 e51 e52=>⟨pp,ps4,_,rfl,rfl,s5 _ _ hpp4,by simp only at lps4;lia,?_⟩⟩⟩⟩;have hpp5:=s5 _ _ hpp4;have k6:=Keep.upd (F:=[pp]) (o:=.lst (ps4++[.ref pa])) hpp5 (λ_ z=>by cases z) (by simp);have hpp6:(upd H5 pp (.lst (ps4++[.ref pa]))) pp=_:=qG;have j6:=(j4.same s5).lst (o:=.lst (ps4++[.ref pa])) hpp5 h.np;generalize upd H5 pp (.lst (ps4++[.ref pa]))=H6 at k6 hpp6 j6 ⊢;have m6:∀y∈[pp],y∈fx t x r pp:=by simp
   have npp:∀{y:Addr},H4 y=none→y∉[pp]:=fun {y} e z=>by rw[h9.mp z,hpp4]at e;cases e
   have inF:∀{y:Addr},H4 y=none→y∉fx t x r pp:=fun {y} e z=>by
    rcases kI.mp z with z|z
    ·rw[z,hpp4]at e;cases e
    rcases kI.mp z with z|z
    ·rw[z,er4]at e;cases e
    rcases kI.mp z with z|z
    ·obtain⟨_,_,_,_,hTB4,_⟩:=j4.tb;rw[z,hTB4]at e;cases e
    exact(j4.off e) z
   have inG:∀{y:Addr},H4 y=none→y∉fx t x r pp++x.G:=fun {y} e z=>by
    rcases gF.mp z with z|z
    ·exact inF e z
    obtain⟨_,o,e'⟩:=h4x.gi y z;rw[e]at e';cases e'
   have opp6:op∉[pp]:=λz=>opp (h9.mp z);have mlp:ml∉[pp]:=λz=>by obtain⟨ps2,e2,_⟩:=h2'.hp;rw[h9.mp z,e2]at nm;cases nm
   refine⟨_,rfl,iT (k:=0) (v:=_) (SqT.of (k6.tp _ _ (s5 _ _ h4))) rfl ⟨_,rfl,_,rfl,iT (k:=1) (v:=_) (SqT.of (k6.tp _ _ (s5 _ _ h4))) rfl ⟨_,rfl,_,rfl,.str y,.int (b:Int),.bl true,op,ml,rs,us,rfl,k6.k _ _ opp6 (s5 _ _ hop4),k6.k _ _ mlp (s5 _ _ hml4),λpb c1 c2 H7 s7 npb nc1 nc2 e7 e71 e72=>?_⟩⟩⟩;have k47:Keep [pp] H4 H7:=((Keep.same s5).trans k6).trans (Keep.same s7);have k07:Keep (fx t x r pp) H H7:=(k02.trans (k34.mono mS)).trans (k47.mono m6);have ty7:Tls H7 rs (X.s.ots k):=q0G k47 (q0G k34 (q0G k2 ty));have prm7:Paired (TupD H7) us ms:=Paired.mapP prm λv d ⟨p',e',h'⟩=>⟨p',e',k47.tp _ _ (k4.tp _ _ h')⟩;exact kk (.ref pb) H7 ⟨j6.same s7,h.er,(hR4.keep k47 (λy hy z=>h.nr (by rw[←h9.mp z];exact hy))),h.of,h.ep,⟨ps4++[.ref pa],s7 _ _ hpp6,L2.Paired.snoc (Paired.mapP prp4 λ_ _ z=>z.kp k47 m6) ⟨pa,a1,a2,us,rs,rfl,s7 _ _ (k6.tp _ _ e5),s7 _ _ (k6.k _ _ (npp na1) e51),ty7,s7 _ _ (k6.k _ _ (npp na2) e52),prm7,inG na1,inG na2⟩⟩,h.np,h.nr,h.gk k07 (λ_ z=>z)⟩ k07)
noncomputable def spMr(t:Adr):Sp:=λvs H Q E=>∃x k sh sr r rl pp X,∃i Z,vs=[.ref x.s]∧XX t H x k sh sr r rl pp X∧Evc t x k∧X.s.rc.length+100*i+200<1000000∧X.ps.length+i<90000∧X.rooms k i=some Z∧(match Z with
|(Y,.error e)=>∀H',XX t H' x k sh sr r rl pp Y→Keep (fx t x r pp) H H'→rfE t e E H'
|(Y,.ok _)=>∀H',XX t H' x k sh sr r rl pp Y→Keep (fx t x r pp) H H'→Q .non H')
theorem q2L(T:Txt K mg t)(S:Fns K t)(nC:t.C_Store≠t.C_Even)(B:BmIn base mg):S.iA.OkE P w mg base 15 (spMr t):=by(
refine S.iA.F.okE q2H (λvs H Q E h=>?_) (λcdv A outer s H vs Q E hr h=>?_)
·repeat obtain⟨_,h⟩:=h
 all_goals subst_vars;rfl
obtain⟨x,k,sh,sr,r,rl,pp,X,i,Z,rfl,h,ev,rc,lp,hZ,kk⟩:=h
refine⟨_,(qD (q8V cA (uG (yK (qU (pv 0) (cl2 x.hC T.bJ T.bK) (m2 x.hC T.aCX T.aDE) (q6E T S B).mono hr S.aAD.b .nil qK))) (qD (qY (uB j9 (pv 0) (cl2 x.hC T.bJ T.bK) (m2 x.hC T.aAX T.aBC) ((q3B T S nC B).mono (by decide)) hr S.iQ.b .nil))))),?_⟩
try dsimp-beta-proj-iota-zeta-eta only[wishK,cxK]
refine⟨λn σ' H2=>σ'=[some (.ref x.s)]∧∃Y,XX t H2 x k sh sr r rl pp Y∧Keep (fx t x r pp) H H2∧Y.rooms k n=some Z∧Y.s.rc.length+100*n+200<1000000∧Y.ps.length+n<90000,⟨i,rfl,X,h,Keep.refl,hZ,rc,lp⟩,?_⟩
rintro n σ' H2 ⟨rfl,Y,hY,k2,eY,rcY,lpY⟩
obtain⟨m,hs,c,_⟩:=hY.j.e
have mT:∀y∈[t.bH],y∈fx t x r pp:=by simp
refine(iV rfl (iM hs.o rfl ⟨x,_,_,_,m,Y.s.q,_,rfl,hs,c.ft,λl H3 hl k3 tb3=>⟨_,rfl,?_⟩⟩))
rw[c.br,c.cl]at hl
rw[c.br,qJD hY.j.w hl]
have hY3:=hY.kT k3 tb3
have k03:=k2.trans (k3.mono mT)
cases n with
|zero=>
 unfold Sx.rooms at eY;cases z:Y.s.rd k with
 |false=>rw[z,kF (by decide)]at eY;cases eY
 |true=>rw[z,kJ rfl]at eY;cases eY;exact iteF (kk H3 hY3 k03)
|succ n=>
 unfold Sx.rooms at eY;cases z:Y.s.rd k with
 |true=>rw[z,kJ rfl]at eY;cases eY;exact iteF (kk H3 hY3 k03)
 |false=>
  rw[z,kF (by decide)]at eY;refine iteT ⟨_,λ_ _ z=>z,?_⟩;refine(iV rfl (iM hY3.j.o rfl ⟨x,k,sh,sr,r,rl,pp,Y,rfl,hY3,ev,by lia,by lia,?_⟩));cases hr':Y.room k with
  |mk W o=>
   rw[hr']at eY;cases o with
   |error e=>cases eY;exact λH4 h4 k4=>kk H4 h4 (k03.trans k4)
   |ok p=>obtain⟨r1,r2⟩:=qEY hY.j.w hY.ru.ok hr';exact λv H4 h4 k4=>⟨n,rG _,rfl,W,h4,k03.trans k4,eY,by lia,by lia⟩)
theorem vM(T:Txt K mg t)(S:Fns K t)(nC:t.C_Store≠t.C_Even)(B:BmIn base mg):S.fD.OkE P w mg base 16 (spMr t):=by(
refine S.fD.F.okE q2G (λvs H Q E h=>?_) (λcdv A outer s H vs Q E hr h=>?_)
·repeat obtain⟨_,h⟩:=h
 all_goals subst_vars;rfl
obtain⟨x,k,sh,sr,r,rl,pp,X,i,Z,rfl,h⟩:=h
refine⟨_,(qD (qY (uB j9 (pv 0) (cl2 x.hC T.bJ T.bK) (m2 x.hC T.aAP T.aAV) ((q2L T S nC B).mono (by decide)) hr S.iA.b .nil))),?_⟩
try dsimp-beta-proj-iota-zeta-eta only[wishK,cxK]
exact(iV rfl (iM h.1.j.o rfl ⟨x,k,sh,sr,r,rl,pp,X,i,Z,rfl,h⟩)))
noncomputable def qL0(t:Adr):Sp:=λvs H Q E=>∃x k sh sr r rl pp X,∃n v:Int,∃i Z,vs=[.ref x.s,.int n,.int v]∧XX t H x k sh sr r rl pp X∧Evc t x k∧X.s.rc.length+100*i+300<1000000∧X.ps.length+i<90000∧sh≤64∧inB (.int n) 0 (sh-1)=true∧inB (.int v) 0 (10 ^ 30-1)=true∧¬(hold X.s.q n=false∧sr≤((hdN X.s.q.V).length:Int))∧((∃p,(n,p)∈X.s.q.V)∨X.s.q.V.length<59)∧X.ask k i n v=some Z∧(match Z with
|(Y,.error e)=>∀H',XX t H' x k sh sr r rl pp Y→Keep (fx t x r pp) H H'→rfE t e E H'
|(Y,.ok p)=>∀H',XX t H' x k sh sr r rl pp Y→Keep (fx t x r pp) H H'→Q (.int (p:Int)) H')
theorem XX.lay{H H2:Hp}{x:Sto}{k:Tm}{sh sr:Int}{r:Addr}{rl:List Addr}{pp:Addr}{X Y:Sx}{i:Nat}{n v:Int}{Z:Sx×Except Rf Nat}(h:XX t H x k sh sr r rl pp X)(rc:X.s.rc.length+100*i+300<1000000)(hl:(∃p,(n,p)∈X.s.q.V)∨X.s.q.V.length<59)(hZ:X.ask k i n v=some Z)(hY:X.rooms k i=some (Y,.ok ()))(n0:0≤n)(n1:n≤64)(h2:XX t H2 x k sh sr r rl pp Y){Q:VK}{E:XK}
 (kk:match Z with
  |(Y,.error e)=>∀H',XX t H' x k sh sr r rl pp Y→Keep (t.bH::sf x) H2 H'→rfE t e E H'
  |(Y,.ok p)=>∀H',XX t H' x k sh sr r rl pp Y→Keep (t.bH::sf x) H2 H'→Q (.int (p:Int)) H'):qBV t [.ref x.s,.int n,.int v] H2 Q E:=by(
obtain⟨_,_,kp,r1,_,rd⟩:=q2E h.j.w h.ru.ok hY
have rd:=mM (rd rfl)
rw[rE,rF]at rd
unfold Sx.ask at hZ
rw[hY]at hZ
dsimp only at hZ
refine h2.j.set n0 n1 (by lia) (by lia) ?_ (λdk H' j' k'=>?_) (λdk H' j' k'=>?_)
·rw[kp.lV];exact hl.imp (λz=>(kp.nm n).mpr z) id
·rw[kJ dk]at hZ;cases hZ;exact kk H' (h2.on k' j') k'
rw[kF dk]at hZ
cases hZ
exact kk H' (h2.on k' j') k')
theorem q25(T:Txt K mg t)(S:Fns K t)(nC:t.C_Store≠t.C_Even)(B:BmIn base mg):S.oP.OkE P w mg base 17 (qL0 t):=by(
refine S.oP.F.okE q63 (λvs H Q E h=>?_) (λcdv A outer s H vs Q E hr h=>?_)
·repeat obtain⟨_,h⟩:=h
 all_goals subst_vars;rfl
obtain⟨x,k,sh,sr,r,rl,pp,X,n,v,i,Z,rfl,h,ev,rc,lp,sh64,z,w,ff,hl,hZ,kk⟩:=h
obtain⟨m,hs,c,_⟩:=h.j.e
refine⟨_,(qB (qY (qV (pv 0) (cl2 x.hC T.bJ T.bK) (m2 x.hC T.iK T.i3) (vF T S).mono hr S.eZ.b .nil qK (qA (pv 1) qF))) (qB (jE (uG (yK (qX (q9U T S).mono hr rfl T.aDO T.aDN S.aCV.b .nil qK (qA (pv 2) qF)))) (qD jD) qQ) (qB (qY (qV (pv 0) (cl2 x.hC T.bJ T.bK) (m2 x.hC T.aAI T.aAS) (q22 T S).mono hr S.fU.b .nil qK (qA (pv 1) qF))) (qB (qY (uB j9 (pv 0) (cl2 x.hC T.bJ T.bK) (m2 x.hC T.iZ T.oC) ((vM T S nC B).mono (by decide)) hr S.fD.b .nil)) (qD (qN (jO j9 (pv 0) (cl2 x.hC T.bJ T.bK) (m2 x.hC T.aAF T.aA1) (q13 T S B).mono hr S.o8.b .nil (qA (pv 1) (qA (pv 2) qF))))))))),?_⟩
try dsimp-beta-proj-iota-zeta-eta only[wishK,cxK]
refine(iV rfl (iM hs.o rfl ⟨_,rfl,x,.int sr,_,_,m,X.s.q,.int n,sh,rfl,hs,.int _,?_⟩))
rw[kJ z]
obtain⟨n',e,n0,n1⟩:=qFU z
injection e with e
subst e
refine⟨_,rfl,.int v,rfl,.int _,_,rfl,?_⟩
rw[w]
refine iteF ?_
refine(iV rfl (iM hs.o rfl ⟨_,rfl,x,.int sh,_,_,m,X.s.q,n,sr,rfl,hs,c.ft,hd64 h.j.w,λH1 s1=>?_⟩))
rw[kF ff]
have h1:=h.same s1
have hZ':=hZ
unfold Sx.ask at hZ'
cases hR:X.rooms k i with
|none=>rw[hR]at hZ';cases hZ'
|some YR=>
 obtain⟨Y,o⟩:=YR;refine(iV rfl (iM h1.j.o rfl ⟨x,k,sh,sr,r,rl,pp,X,i,(Y,o),rfl,h1,ev,by lia,lp,hR,?_⟩));rw[hR]at hZ';cases o with
 |error e=>cases hZ';exact λH2 h2 k2=>kk H2 h2 ((Keep.same s1).trans k2)
 |ok u=>
  refine λH2 h2 k2=>?_;refine(iV rfl (iM h2.j.o rfl ⟨_,rfl,_,rfl,?_⟩));dsimp only[tNil,wF,g7,g5];refine h.lay rc hl hZ hR n0 (by lia) h2 ?_;have mS:∀y∈t.bH::sf x,y∈fx t x r pp:=λy hy=>hU _ (hU _ (hU _ hy));obtain⟨W,o⟩:=Z;cases o with
  |error e=>exact λH3 h3 k3=>kk H3 h3 (((Keep.same s1).trans k2).trans (k3.mono mS))
  |ok p=>exact λH3 h3 k3=>kk H3 h3 (((Keep.same s1).trans k2).trans (k3.mono mS)))
theorem XR.forg{H H':Hp}{x:Sto}{k:Tm}{sh sr:Int}{s:XS}(j:XR t H x k sh sr s)(n:Int)(hb:∀{m},StAt t H x (.int sh) (.int sr) (.int (k.ie:Int)) (.int k.sp) m s.q→BkAt t H' x.k (s.q.forget n))(kb:Keep (bf x.k) H H'):XR t H' x k sh sr (s.forg n):=by obtain⟨m,st,c,pg⟩:=j.e;exact⟨⟨m,st.note (hb st) kb,⟨⟨c.ft.ok,c.ft.oq.forget n,c.ft.eB,c.ft.eP⟩,c.br,c.li,c.mo,c.cl,c.lf,c.rc⟩,pg.keep kb⟩,j.w.forg n⟩
noncomputable def spGu(t:Adr):Sp:=λvs H Q E=>∃x k sh sr r rl pp X,∃l0:Addr,∃ss:List Int,vs=[.ref x.s,.ref l0]∧XX t H x k sh sr r rl pp X∧Evc t x k∧H l0=some (.lst (ss.map V.int))∧(∀n∈ss,inB (.int n) 0 (sh-1)=true)∧(gvn X.s.hl ss=[]→∀H',Same H H'→Q (.int 0) H')∧(gvn X.s.hl ss≠[]→∃i Z,X.s.rc.length+100*i+300<1000000∧X.ps.length+i<90000∧((∃p,((64:Int),p)∈X.s.q.V)∨X.s.q.V.length<59)∧X.ask k i 64 (XS.bits (rst X.s.hl (gvn X.s.hl ss)))=some Z∧(match Z with
|(Y,.error e)=>∀H',XX t H' x k sh sr r rl pp Y→Keep (fx t x r pp) H H'→rfE t e E H'
|(Y,.ok p)=>∀H',XX t H' x k sh sr r rl pp ⟨Y.s.forgs (gvn X.s.hl ss),Y.g,Y.ps⟩→Keep (fx t x r pp) H H'→Q (.int ((gvn X.s.hl ss).length:Nat)) H'))
theorem q0J(T:Txt K mg t)(S:Fns K t)(nC:t.C_Store≠t.C_Even)(B:BmIn base mg):S.iH.OkE P w mg base 17 (spGu t):=by(
refine S.iH.F.okE yD (λvs H Q E h=>?_) (λcdv A outer s H vs Q E hr h=>?_)
·repeat obtain⟨_,h⟩:=h
 all_goals subst_vars;rfl
obtain⟨x,k,sh,sr,r,rl,pp,X,l0,ss,rfl,h,ev,hl0,hin,kn,kk⟩:=h
have s9:(99999:Nat)<sizeLine:=by decide
obtain⟨m,hs,c,_⟩:=h.j.e
refine⟨_,(qB (zL cA rfl (y8 (pv 1)) (qZ (i:=2) yD.nd rfl (Or.inl rfl)) (qD (qY (qV (pv 0) (cl2 x.hC T.bJ T.bK) (m2 x.hC T.iK T.i3) (vF T S).mono hr S.eZ.b .nil qK (qA (pv 2) qF))))) (qB (qW (i:=3) yD.nd rfl (Or.inl rfl) (qU (pv 0) (cl2 x.hC T.bJ T.bK) (m2 x.hC T.tQ T.aAJ) (q03 T S).mono hr S.oG.b .nil qK)) (qB (qW (i:=4) yD.nd rfl (Or.inr rfl) (v9 ["sheets","sheet"] [1] rfl (y8 (pv 3)) (λ_ _ _ _ _=>(qZ (i:=1) (show List.Nodup (["sheets","sheet"]:List Str)from by decide) rfl (Or.inl rfl))) (λ_ _ _ _ _=>(uK (qS (qAA (K:=K) rfl) (pv 1) (pv 0) rfl))) (λ_ _ _ _ _=>(pv 1)) (by kernel_rfl) (yJ (by decide)))) (qB (jE (qS (q3X hr.units) (pv 4) (jR qF) (qT _)) (qD (qN qI)) qQ) (qB (qY (uB j9 (pv 0) (cl2 x.hC T.bJ T.bK) (m2 x.hC T.iZ T.oC) ((vM T S nC B).mono (by decide)) hr S.fD.b .nil)) (qB (qY (jO j9 (pv 0) (cl2 x.hC T.bJ T.bK) (m2 x.hC T.aAF T.aA1) (q13 T S B).mono hr S.o8.b .nil (qA (q27 rfl T.aDK ⟨_,rfl⟩ (v:=.int 64)) (qA (qX (q6D T S).mono hr rfl T.aCF T.aCE S.aCM.b .nil qK (qA (v9 ["gone","sheet"] [4] rfl (y8 (pv 3)) (λ_ _ _ _ _=>(qZ (i:=1) (show List.Nodup (["gone","sheet"]:List Str)from by decide) rfl (Or.inl rfl))) (λ_ _ _ _ _=>(uK (qS (q6P (K:=K) rfl) (pv 1) (pv 0) rfl))) (λ_ _ _ _ _=>(pv 1)) (by kernel_rfl) (yJ (by decide))) qF)) qF)))) (qB (zL cA rfl (y8 (pv 4)) (qZ (i:=2) yD.nd rfl (Or.inl rfl)) (qD (qY (qV (qJ (pv 0) rfl) T.bR T.aAQ (q21 T S).mono hr S.oN.b .nil qK (qA (pv 2) qF))))) (qD (qN (jT jV (by rfl) T.aB4 dO (qA (pv 4) qF))))))))))),?_⟩
try dsimp-beta-proj-iota-zeta-eta only[wishK,cxK]
refine⟨_,rfl,l0,rfl,⟨_,SqL.of hl0⟩,?_⟩
refine vR (K:=K) (xs:=ss.map V.int) (λi σ' H2=>∃y,σ'=[some (.ref x.s),some (.ref l0),y,none,none]∧H=H2) ⟨_,rfl,rfl⟩ (λi σ' H2 hi hp=>?_) (λi v σ' H2 hv hp=>?_) (λσ' H2 hp=>?_)
·obtain⟨y,rfl,rfl⟩:=hp;exact SqL.of hl0
·obtain⟨y,rfl,rfl⟩:=hp;rw[mB]at hv;obtain⟨n,hw,rfl⟩:=mI.mp hv;refine(iV rfl (iM hs.o rfl ⟨_,rfl,x,_,_,_,m,X.s.q,.int n,sh,rfl,hs,.int _,?_⟩));rw[kJ (hin n (gH hw))];exact⟨_,rfl,rfl⟩
obtain⟨y,rfl,rfl⟩:=hp
refine(iV rfl (iM hs.o rfl ⟨x,.int sh,_,_,_,m,X.s.q,rfl,hs,c.ft,hd64 h.j.w,λhl ns H1 hn s1 n1 h1=>?_⟩))
have l64:ns.length<64:=by rw[hn.pm.length_eq];exact hd64 h.j.w
obtain rfl:=qF8 hn
refine⟨_,rfl,hl,rfl,⟨_,SqL.of h1⟩,λD H2 nD s2 hD=>?_⟩
refine vC (K:=K) (xs:=X.s.hl.map V.int) (D:=D) (λi H3=>Same H1 H3∧H3 D=some (.lst ((gvn (X.s.hl.take i) ss).map V.int))) ⟨s2,hD⟩ (λi H3 hp=>SqL.of (hp.1 _ _ h1)) (λi v H3 hv hp=>?_) (λH3 hp=>?_)
·obtain⟨sm,hd⟩:=hp;rw[mB]at hv;obtain⟨n,hw,rfl⟩:=mI.mp hv;have hi:=(kD.mp hw).1;have ev':=(kD.mp hw).2;refine⟨_,rfl,_,rfl,l0,_,rfl,.inl (SqL.of (sm _ _ (s1 _ _ hl0))),rfl,qF7,_,rfl,?_⟩;show if inV (.int n) (ss.map V.int)=true then _ else _;rw[q54];have eg:gvn (X.s.hl.take (i+1)) ss=gvn (X.s.hl.take i) ss++(if n∈ss then[n]else[]):=by
  unfold gvn;rw[←mY hi,gU,ev',m9];by_cases z:n∈ss
  ·rw[hG z,kJ z];rfl
  rw[hX z,kF z];rfl
 rw[eg];by_cases z:n∈ss
 ·rw[hG z,kJ z];refine iteT ?_;refine⟨_,rfl,_,hd,?_,λb o e=>?_,?_⟩
  ·rw[kB];have l1:(gvn (X.s.hl.take i) ss).length≤(X.s.hl.take i).length:=mE _ _;rw[gX]at l1;lia
  ·rw[qC (qH e nD)];exact sm _ _ e
  rw[qG,m8];rfl
 rw[hX z,kF z,g5];exact iteF ⟨sm,hd⟩
obtain⟨sm,hd⟩:=hp
rw[kB,gK]at hd
have s03:Same H H3:=s1.trans sm
refine⟨_,rfl,sz0,λe H4 n4 s4 h4=>⟨D,_,e,rfl,rfl,SqL.of (s4 _ _ hd),SqL.of h4,_,rfl,?_⟩⟩
have s04:=s03.trans s4
by_cases z:gvn X.s.hl ss=[]
·rw[z];exact iteT (kn z H4 s04)
rw[hX (λy=>z (by cases hq:gvn X.s.hl ss with|nil=>rfl|cons a r=>rw[hq]at y;cases y))]
refine iteF ?_
obtain⟨i,Z,rc,lp,hl6,hZ,kk⟩:=kk z
have h4x:=h.same s04
have hZ':=hZ
unfold Sx.ask at hZ'
cases hR:X.rooms k i with
|none=>rw[hR]at hZ';cases hZ'
|some YR=>
 obtain⟨Y,o⟩:=YR;refine(iV rfl (iM h4x.j.o rfl ⟨x,k,sh,sr,r,rl,pp,X,i,(Y,o),rfl,h4x,ev,by lia,lp,hR,?_⟩));rw[hR]at hZ';cases o with
 |error e=>cases hZ';exact λH2 h2 k2=>kk H2 h2 ((Keep.same s04).trans k2)
 |ok u=>
  refine λH5 h5 k5=>?_;obtain⟨ps0,hp0,_⟩:=h.hp;obtain⟨C0,d0,f0,er0⟩:=h.ru.ins;have offF:∀{y:Addr},H y=none→y∉fx t x r pp:=fun {y} e zz=>by
   rcases kI.mp zz with zz|zz
   ·rw[zz,hp0]at e;cases e
   rcases kI.mp zz with zz|zz
   ·rw[zz,er0]at e;cases e
   rcases kI.mp zz with zz|zz
   ·obtain⟨_,_,_,_,hTB,_⟩:=h.j.tb;rw[zz,hTB]at e;cases e
   exact h.j.off e zz
  have dF:=offF (s1.free nD);have h1_5:=k5.k _ _ (offF n1) (s4 _ _ (sm _ _ h1));have hd5:=k5.k _ _ dF (s4 _ _ hd);refine(iV rfl (iM h5.j.o rfl ?_));refine⟨_,rfl,hl,rfl,⟨_,SqL.of h1_5⟩,λD2 H6 n6 s6 hD2=>?_⟩;refine vC (K:=K) (xs:=X.s.hl.map V.int) (D:=D2) (λi H7=>Same H5 H7∧H7 D2=some (.lst ((rst (X.s.hl.take i) (gvn X.s.hl ss)).map V.int))) ⟨s6,hD2⟩ (λi H7 hp=>SqL.of (hp.1 _ _ h1_5)) (λi v H7 hv hp=>?_) (λH7 hp=>?_)
  ·obtain⟨sm7,hd7⟩:=hp;rw[mB]at hv;obtain⟨n,hw,rfl⟩:=mI.mp hv;have hi:=(kD.mp hw).1;have ev':=(kD.mp hw).2;refine⟨_,rfl,_,rfl,D,_,rfl,.inl (SqL.of (sm7 _ _ hd5)),rfl,qF7,_,rfl,?_⟩;show if(!inV (.int n) ((gvn X.s.hl ss).map V.int))=true then _ else _;rw[q54];have eg:rst (X.s.hl.take (i+1)) (gvn X.s.hl ss)=rst (X.s.hl.take i) (gvn X.s.hl ss)++(if n∈gvn X.s.hl ss then[]else[n]):=by
    unfold rst;rw[←mY hi,gU,ev',m9];by_cases y:n∈gvn X.s.hl ss
    ·rw[hG y,kJ y];rfl
    rw[hX y,kF y];rfl
   rw[eg];by_cases y:n∈gvn X.s.hl ss
   ·rw[hG y,kJ y,g5];exact iteF ⟨sm7,hd7⟩
   rw[hX y,kF y];refine iteT ?_;refine⟨_,rfl,_,hd7,?_,λb o e=>?_,?_⟩
   ·rw[kB];have l1:(rst (X.s.hl.take i) (gvn X.s.hl ss)).length≤(X.s.hl.take i).length:=mE _ _;rw[gX]at l1;lia
   ·rw[qC (qH e n6)];exact sm7 _ _ e
   rw[qG,m8];rfl
  obtain⟨sm7,hd7⟩:=hp;rw[kB,gK]at hd7;obtain⟨en,lt⟩:=qHP (ns:=rst X.s.hl (gvn X.s.hl ss)) (λn hn'=>qHO h.j.w n (mK.mp hn').1);rw[en]at hd7;refine⟨D2,_,rfl,SqL.of hd7,lt,?_⟩;have h7:=h5.same sm7;have mS:∀y∈t.bH::sf x,y∈fx t x r pp:=λy hy=>hU _ (hU _ (hU _ hy));dsimp only[tNil,wF,g7,g5];refine h.lay (Z:=Z) rc hl6 hZ hR (by decide) (by decide) h7 ?_;obtain⟨W,o⟩:=Z;have k07:Keep (fx t x r pp) H H7:=((Keep.same s04).trans k5).trans (Keep.same sm7);cases o with
  |error e=>exact λH8 h8 k8=>kk H8 h8 (k07.trans (k8.mono mS))
  |ok p=>
   refine λH8 h8 k8=>?_;have hd8:=k8.k _ _ (λy=>dF (mS _ y)) (sm7 _ _ hd5);refine⟨_,rfl,D,rfl,⟨_,SqL.of hd8⟩,?_⟩;refine vR (K:=K) (xs:=(gvn X.s.hl ss).map V.int) (λi σ' H'=>∃y',σ'=[some (.ref x.s),some (.ref l0),y',some (.ref hl),some (.ref D)]∧XR t H' x k sh sr (W.s.forgs ((gvn X.s.hl ss).take i))∧Keep (bf x.k) H8 H') ⟨_,rfl,h8.j,Keep.refl⟩ (λi σ' H' hi hp=>?_) (λi v σ' H' hv hp=>?_) (λσ' H' hp=>?_)
   ·obtain⟨y',rfl,j',kb⟩:=hp;exact SqL.of (kb.k _ _ (λw=>dF (mS _ (by simp[sf,w]))) hd8)
   ·obtain⟨y',rfl,j',kb⟩:=hp;rw[mB]at hv;obtain⟨n,hw,rfl⟩:=mI.mp hv;obtain⟨m',st,c',_⟩:=j'.e;refine⟨_,rfl,x.s,_,x.sd,_,_,rfl,st.o,(cl2 x.hC T.bJ T.bK),(na2 x.hC T.bN T.bS),rfl,iM st.bk.o rfl ⟨_,rfl,x.k,_,n,rfl,st.bk,j'.w.qs.ok,st.ds,λH9 hb9 k9=>?_⟩⟩;have k9:Keep (bf x.k) H' H9:=k9.mono (by intro b hb;simp at hb;rcases hb with rfl|rfl<;>simp[bf]);refine⟨_,rfl,?_,kb.trans k9⟩;rw[qAP hw];exact j'.forg n (λ_=>hb9) k9
   obtain⟨y',rfl,j',kb⟩:=hp;rw[kB,gK]at j';have hd9:=kb.k _ _ (λw=>dF (mS _ (by simp[sf,w]))) hd8;refine⟨_,rfl,D,_,rfl,.inl (SqL.of hd9),?_⟩;rw[kB];have kb':Keep (t.bH::sf x) H8 H':=kb.mono (λb hb=>by simp[sf,hb]);exact kk H' (h8.on kb' j') ((k07.trans (k8.mono mS)).trans (kb'.mono mS)))
theorem TbF.updD{H:Hp}{p:Addr}{kvs:List (Key×V)}{o:HO}(h:TbF t H)(e:H p=some (.dK kvs)):TbF t (upd H p o):=by exact h.gen λb o' to e'=>by rw[qC (yM to e' e qJM)];exact e'
section
variable{H H':Hp}{x:Sto}{k:Tm}{sh sr:Int}{r:Addr}{rl:List Addr}{pp:Addr}{X:Sx}
theorem XX.dct(h:XX t H x k sh sr r rl pp X){p:Addr}{kvs kvs':List (Key×V)}(e:H p=some (.dK kvs))(np:p∉x.a.li::fx t x r pp)(nr:p∉rl):XX t (upd H p (.dK kvs')) x k sh sr r rl pp X:=by(
have kk:=Keep.upd (F:=[p]) (o:=.dK kvs') e (λ_ z=>by cases z) (by simp)
obtain⟨ps,h1,h2⟩:=h.hp
obtain⟨m,st,_⟩:=h.j.e
have fr:∀{y:Addr} {xs:List V},H y=some (.lst xs)→(upd H p (.dK kvs')) y=some (.lst xs):=fun {y xs} e'=>kk.k _ _ (λz=>by rw[h9.mp z,e]at e';cases e') e'
refine⟨h.j.keep kk (λy hy z=>?_) (TbF.updD st.tb e),h.er,h.ru.keep kk (λy hy z=>?_),h.of,h.ep,⟨ps,fr h1,Paired.mapP h2 λv pa ⟨a,l1,l2,us,rs,e1,e2,e3,e4,e5,e6,e7,e8⟩=>⟨a,l1,l2,us,rs,e1,kk.tp _ _ e2,fr e3,q0G kk e4,fr e5,Paired.mapP e6 λv d ⟨p',e',h'⟩=>⟨p',e',kk.tp _ _ h'⟩,e7,e8⟩⟩,h.np,h.nr,λy hy=>?_⟩
·rw[h9.mp z]at hy;rcases gF.mp hy with hy|hy
 ·have hy:p=x.s∨p=x.tm:=by simpa using hy
  rcases hy with h|h
  ·rw[h,st.o]at e;cases e
  rw[h,st.te]at e;cases e
 rcases kI.mp hy with h|h
 ·exact np (by rw[h];simp)
 exact np (by simp[h])
·rw[h9.mp z]at hy;rcases kI.mp hy with h|h
 ·exact np (by rw[h];simp)
 exact nr h
obtain⟨n,o,e'⟩:=h.gi y hy
by_cases z:y=p
·exact⟨n,_,by rw[z];exact qG⟩
exact⟨n,o,by rw[qC z];exact e'⟩)
theorem XX.chip(h:XX t H x k sh sr r rl pp X):∃m,ChipAt t.C_Chip H x.c x.a m∧m.Ok∧m.lf=X.s.lf∧m.rc=X.s.rc∧m.cl=X.s.cl∧m.bl=(X.s.q.B:Int)∧m.pg=(X.s.q.P:Int)∧PgAt H m.bo X.s.pg∧∀l,(∀i,l=some i→0≤i)→∀H',ChipAt t.C_Chip H' x.c x.a { m with lf:=l }→Keep (foot x.c x.a) H H'→XX t H' x k sh sr r rl pp ⟨{ X.s with lf:=l },X.g,X.ps⟩:=by(
obtain⟨m,st,c,pg⟩:=h.j.e
refine⟨m,st.ch,c.ft.ok,c.lf,c.rc,c.cl,c.ft.eB,c.ft.eP,pg,λl hl H' hc k'=>?_⟩
have k2:Keep (t.bH::sf x) H H':=k'.mono (λy hy=>by unfold sf;exact hU _ (gO _ hy))
have ok':({ m with lf:=l }:CM).Ok:=⟨c.ft.ok.bl1,c.ft.ok.bl2,c.ft.ok.pg1,c.ft.ok.pg2,c.ft.ok.nbo,c.ft.ok.ncl,c.ft.ok.ndc,c.ft.ok.nbr,c.ft.ok.lim,c.ft.ok.nrc⟩
exact h.on k2 ⟨⟨_,st.put hc k' rfl rfl,⟨⟨ok',c.ft.oq,c.ft.eB,c.ft.eP⟩,c.br,c.li,c.mo,c.cl,rfl,c.rc⟩,pg.keep k'⟩,h.j.w.lf hl⟩)
theorem XX.inF(h:XX t H x k sh sr r rl pp X):∀y∈fx t x r pp,∃o,H y=some o:=λy hy=>by(
rcases kI.mp hy with e|hy
·obtain⟨ps,e',_⟩:=h.hp;exact⟨_,by rw[e];exact e'⟩
rcases kI.mp hy with e|hy
·obtain⟨_,_,_,z⟩:=h.ru.ins;exact⟨_,by rw[e];exact z⟩
rcases kI.mp hy with e|hy
·obtain⟨ps,_,_,ps',z,_⟩:=h.j.tb;exact⟨_,by rw[e];exact z⟩
exact h.j.inH y hy)
end
structure KX(t:Adr)(H:Hp)(x:Sto)(k:Tm)(sh:Int)(sr:Nat)(r:Addr)(rl:List Addr)(pp:Addr)(X:Sx)(kd:Addr)(KD:Mp)(n:Nat):Prop where
h:XX t H x k sh (sr:Int) r rl pp X
d:Kd k sh sr X KD
hk:H kd=some (.dK (dI KD))
nk:kd∉x.a.li::fx t x r pp
nr:kd∉rl
rcn:X.s.rc.length≤300*n
psn:X.ps.length≤20*n
theorem qFB{H:Hp}{x:Sto}{k:Tm}{sh sr:Int}{r:Addr}{rl:List Addr}{pp:Addr}{B P:Nat}{g:Rl}(st:StAt t H x (.int sh) (.int sr) (.int (k.ie:Int)) (.int k.sp) (CM.new (B:Int) (P:Int) 1000000 []) (bk0 B P))(er:x.ru=.ref r)(ru:RuX t H r rl g)(of:Off t x (r::rl))(ep:x.pa=.ref pp)(hp:H pp=some (.lst []))(np:pp∉t.bH::sf x)(nr:pp∉r::rl)
 (gg:x.G=[]) (b1:2≤B) (b2:B≤16) (p1:1≤P) (p2:P≤16) (w:WX k (newX B P)):XX t H x k sh sr r rl pp ⟨newX B P,g,[]⟩:=by(
have nok:(CM.new (B:Int) (P:Int) 1000000 []).Ok:=qIW (by lia) (by lia) (by lia) (by lia) (λb v e=>by cases e)
refine⟨⟨⟨_,st,⟨⟨nok,w.qs.ok,rfl,rfl⟩,?_,λb=>rfl,rfl,?_,rfl,rfl⟩,⟨λi _=>rep8,λi v e=>by cases e⟩⟩,w⟩,er,ru,of,ep,⟨[],hp,.nil⟩,np,nr,λy hy=>by rw[gg]at hy;cases hy⟩
·show List.replicate (B:Int).toNat false=_;rw[mQ];rfl
show List.replicate (B:Int).toNat (0:Int)=_
rw[mQ]
rfl)
theorem qFC{C:Addr}{hC:IsC C}{H7 H8 HM:Hp}{sA sd tm td ch pa:Addr}{ca:CA}{kb:BkA}{ru:V}{m:CM}{R:List Addr}{o1 o2 o3:HO}(hc:ChipAt t.C_Chip H7 ch ca m)(htm:H7 tm=some o1)(hT:H7 t.bH=some o2)(hB:H7 t.bI=some o3)(nR:∀u∈R,H7 u=none)(eR:∀u∈R,∃o,H8 u=some o)(nA:H8 sA=none)(sM:Same H8 HM)(fk:∀b∈bf kb,HM b=none):Off t ⟨sA,sd,tm,td,ch,ca,kb,ru,.ref pa,C,hC,[]⟩ R:=λy hy hu=>by(
obtain⟨o,e8⟩:=eR y hu
have n7:=nR y hu
have hy:y=sA∨y=tm∨y=ca.li∨y=t.bH∨y=t.bI∨y∈foot ch ca∨y∈bf kb:=by simpa[sf]using hy
rcases hy with h|h|h|h|h|h|h
·rw[h,nA]at e8;cases e8
·rw[h,htm]at n7;cases n7
·obtain⟨o',e',_⟩:=hc.has (show ca.li∈ca.li::foot ch ca by simp);rw[←h,n7]at e';cases e'
·rw[h,hT]at n7;cases n7
·rw[h,hB]at n7;cases n7
·obtain⟨o',e',_⟩:=hc.has (hU ca.li h);rw[n7]at e';cases e'
rw[Same.free sM (fk y h)]at e8;cases e8)
noncomputable def lwF(cell:Int):Int→Int→Tl→Int:=if cell%4=0 then λ_ _=>Tl.lv else if cell%4=1 then λ_ _=>Tl.bo else if cell%4=2 then λpg nw=>rkW pg nw mnC else λ_ _ _=>0
noncomputable def spLr(t:Adr):Sp:=λvs H Q _=>∃cell:Int,vs=[.int cell]∧∀r H',RuX t H' r [] (.rk (lwF cell))→Same H H'→H r=none→Q (.ref r) H'
theorem q4I(T:Txt K mg t)(S:Fns K t):S.aBD.Ok0 P w mg base 1 (spLr t):=by(
refine S.aBD.F.ok0 q9Q λcdv A _ s H vs Q E hr h=>?_
obtain⟨cell,rfl,k⟩:=h
refine⟨_,(qB (jE (qS q04 (qP uI (pv 0) qI) qI (qT _)) (qD (qN (q82 T.aD2 rfl T.aD6))) qQ) (qB (jE (qS q04 (qP uI (pv 0) qI) qI (qT _)) (qD (qN (q82 T.aD3 rfl T.aD8))) qQ) (qB (jE (qS q04 (qP uI (pv 0) qI) qI (qT _)) (qD (qN (q82 T.aD7 rfl T.aEJ))) qQ) (qD (qN (q82 T.aEK rfl T.aEV)))))),?_⟩
try dsimp-beta-proj-iota-zeta-eta only[wishK,cxK]
unfold lwF at k
refine⟨_,rfl,iI ⟨(by show(0:Int)<4;decide),rfl,_,rfl,ite2 (λz=>?_) (λz=>?_)⟩⟩
·rw[kJ (V.int.inj (mM z))]at k;refine λr dx nr ndx ne=>k r _ (.inr (.inl ⟨dx,qG,rfl⟩)) (q0P nr ndx) nr
rw[kF (λy=>z (hG (gZ V.int y)))]at k
refine⟨_,rfl,iI ⟨(by show(0:Int)<4;decide),rfl,_,rfl,ite2 (λz=>?_) (λz=>?_)⟩⟩
·rw[kJ (V.int.inj (mM z))]at k;refine λr dx nr ndx ne=>k r _ (.inr (.inr (.inl ⟨dx,qG,rfl⟩))) (q0P nr ndx) nr
rw[kF (λy=>z (hG (gZ V.int y)))]at k
refine⟨_,rfl,iI ⟨(by show(0:Int)<4;decide),rfl,_,rfl,ite2 (λz=>?_) (λz=>?_)⟩⟩
·rw[kJ (V.int.inj (mM z))]at k;refine λr dx nr ndx ne=>k r _ (.inr (.inr (.inr ⟨dx,qG,rfl⟩))) (q0P nr ndx) nr
rw[kF (λy=>z (hG (gZ V.int y)))]at k
refine λr dx nr ndx ne=>k r _ (.inl ⟨dx,qG,rfl⟩) (q0P nr ndx) nr)
noncomputable def spSz(K:W.Frag):Sp:=λvs H Q _=>∃a ns,vs=[.ref a]∧SqL K H a (List.map V.int ns)∧∀c P i s:Nat,1≤c→c≤4→1≤P→P≤4→i≤2→1≤s→s+2≤c*P→NewO H (.lst [.int ((c+1+i:Nat):Int),.int (P:Int),.int (s:Int),.int (i:Int)]) Q
theorem q8Q(T:Txt K mg t)(S:Fns K t):S.aBQ.Ok0 P w mg base 2 (spSz K):=by(
refine S.aBQ.F.ok0 yH λcdv A _ s H vs Q E hr h=>?_
obtain⟨a,ns,rfl,hS,k⟩:=h
refine⟨_,(qB (qW (i:=1) yH.nd rfl (Or.inl rfl) (qP uZ qI (qP uI (qX (jZ T S).mono hr rfl T.b8 T.b9 S.eO.b .nil qK (qA (pv 0) (qA qI qF))) qI))) (qB (qW (i:=2) yH.nd rfl (Or.inl rfl) (qP uZ qI (qP uI (qX (jZ T S).mono hr rfl T.b8 T.b9 S.eO.b .nil qK (qA (pv 0) (qA qI qF))) qI))) (q4Z (jE (qS q3F (qP uH (pv 2) (pv 1)) qI (qT _)) (qD (qW (i:=2) yH.nd rfl (Or.inl rfl) qI)) qQ) (qB (qW (i:=3) yH.nd rfl (Or.inl rfl) (qP uI (qX (jZ T S).mono hr rfl T.b8 T.b9 S.eO.b .nil qK (qA (pv 0) (qA qI qF))) qI)) (qB (qW (i:=4) yH.nd rfl (Or.inl rfl) (qP yZ (qP uH (pv 2) (pv 1)) qI)) (q4Z (jE (qS q04 (qP uI (qX (jZ T S).mono hr rfl T.b8 T.b9 S.eO.b .nil qK (qA (pv 0) (qA qI qF))) qI) qI (qT _)) (qD (qW (i:=4) yH.nd rfl (Or.inl rfl) (qP uZ qI (qP uI (qP q3E (qX (jZ T S).mono hr rfl T.b8 T.b9 S.eO.b .nil qK (qA (pv 0) (qA qI qF))) qI) (pv 4))))) qQ) (qD (qN (jR (qA (qP uZ (qP uZ (pv 2) qI) (pv 3)) (qA (pv 1) (qA (pv 4) (qA (pv 3) qF))))))))))))),?_⟩
try dsimp-beta-proj-iota-zeta-eta only[wishK,cxK]
refine⟨_,rfl,a,ns,0,rfl,hS,by decide,_,_,rfl,rfl,(by show(0:Int)<4;decide),iI ?_⟩
refine⟨_,rfl,a,ns,1,rfl,hS,by decide,_,_,rfl,rfl,(by show(0:Int)<4;decide),iI ?_⟩
try dsimp only
have c0:=q2V (jX ns 0) 4 (by decide)
have c1:=q2V (jX ns 1) 4 (by decide)
obtain⟨P0,eP0⟩:∃n:Nat,1+jX ns 0%4=(n:Int):=⟨(1+jX ns 0%4).toNat,by lia⟩
obtain⟨c',ec⟩:∃n:Nat,1+jX ns 1%4=(n:Int):=⟨(1+jX ns 1%4).toNat,by lia⟩
rw[eP0,ec]
have hP1:1≤P0:=by lia
have hP2:P0≤4:=by lia
have hc1:1≤c':=by lia
have hc2:c'≤4:=by lia
clear c0 c1 eP0 ec
refine⟨λσ' H'=>∃c:Nat,σ'=[some (.ref a),some (.int (P0:Int)),some (.int (c:Int)),none,none]∧H=H'∧1≤c∧c≤4∧3≤c*P0,?_,?_⟩
·refine⟨_,rfl,_,rfl,iI ⟨.inl ⟨by lia,by lia⟩,iI ⟨_,rfl,?_⟩⟩⟩;refine ite2 (λz=>?_) (λz=>?_)
 ·exact⟨3,rfl,rfl,by decide,by decide,by lia⟩
 have z:¬(c':Int)*(P0:Int)<3:=λy=>z (hG y);rw[←dS]at z;exact⟨c',rfl,rfl,hc1,hc2,by lia⟩
rintro σ' _ ⟨c,rfl,rfl,p1,p2,cp⟩
refine⟨_,rfl,a,ns,2,rfl,hS,by decide,_,_,rfl,rfl,(by show(0:Int)<3;decide),?_⟩
have c2:=q2V (jX ns 2) 3 (by decide)
try dsimp only
obtain⟨i,ei⟩:∃n:Nat,jX ns 2%3=(n:Int):=⟨(jX ns 2%3).toNat,by lia⟩
rw[ei]
have hi:i≤2:=by lia
clear c2 ei
refine⟨_,rfl,_,rfl,iI ⟨.inl ⟨by lia,by lia⟩,iI ?_⟩⟩
try dsimp only
obtain⟨M,eM⟩:∃n:Nat,(c:Int)*(P0:Int)-2=(n:Int):=⟨c*P0-2,by rw[←dS];lia⟩
rw[eM]
have hM:M+2=c*P0:=by rw[←dS]at eM;lia
refine⟨λσ' H'=>∃s:Nat,σ'=[some (.ref a),some (.int (P0:Int)),some (.int (c:Int)),some (.int (i:Int)),some (.int (s:Int))]∧H=H'∧1≤s∧s≤M,?_,?_⟩
·refine⟨_,rfl,a,ns,3,rfl,hS,by decide,_,_,rfl,rfl,(by show(0:Int)<3;decide),rfl,_,rfl,?_⟩;refine ite2 (λz=>?_) (λz=>?_)
 ·refine⟨_,rfl,a,ns,3,rfl,hS,by decide,_,_,rfl,rfl,⟨by decide,by decide⟩,_,rfl,iI ⟨(by show(0:Int)<(M:Int);lia),iI ?_⟩⟩;have c3:=q2V (jX ns 3 / 3) (M:Int) (by lia);try dsimp only
  obtain⟨s,es⟩:∃n:Nat,1+jX ns 3 / 3%(M:Int)=(n:Int):=⟨(1+jX ns 3 / 3%(M:Int)).toNat,by lia⟩;rw[es];exact⟨s,rfl,rfl,by lia,by lia⟩
 exact⟨M,rfl,rfl,by lia,by lia⟩
rintro σ' _ ⟨s,rfl,rfl,s1,s2⟩
refine⟨_,rfl,iI ⟨_,rfl,iI ⟨_,rfl,_,rfl,_,rfl,sz4,?_⟩⟩⟩
exact k c P0 i s p1 p2 hP1 hP2 hi s1 (by lia))
theorem q7S{n:Int}:∀{kvs:List (Key×V)} {ks:List Int},kvs.map (·.1)=ks.map Sum.inl→(valV kvs (Sum.inl n:Key)).isSome=decide (n∈ks)
| [],[],_=>rfl
| [],_::_,h=>by cases h
|_::_,[],h=>by cases h
|y::kvs,a::ks,h=>by
 rw[mL,mL]at h;injection h with h1 h2
 by_cases e:a=n
 ·rw[q06 (by rw[h1,e]),hG (by rw[e];simp)];rfl
 rw[vS (λz=>e (cB (h1.symm.trans z))),q7S h2];by_cases z:n∈ks
 ·rw[hG z,hG (hU _ z)]
 rw[hX z,hX (λw=>?_)];rcases kI.mp w with w|w
 ·exact e w.symm
 exact z w
noncomputable def qL1:Sp:=λvs H Q _=>∃kd kvs,∃ks:List Int,∃cell:Int,∃w s:Nat,vs=[.int cell,.ref kd,.int (w:Int),.int (s:Int)]∧1≤w∧H kd=some (.dK kvs)∧kvs.map (·.1)=ks.map Sum.inl∧(∀n∈ks,0≤n∧n<(w:Int))∧ks.length<64∧1≤s∧∀(n:Int) H',Same H H'→0≤n→n<(w:Int)→(n∈ks∨ks.length<s)→Q (.int n) H'
theorem q8R(T:Txt K mg t)(S:Fns K t):S.aBR.Ok0 P w mg base 1 qL1:=by(
refine S.aBR.F.ok0 q12 λcdv A _ s H vs Q E hr h=>?_
obtain⟨kd,kvs,ks,cell,w',s',rfl,w1,hk,ek,kb,l64,s1,k⟩:=h
have hu:=q5L hr
have lk:kvs.length=ks.length:=by have:=gZ List.length ek;rw[kB,kB]at this;exact this
refine⟨_,(qB (qW (i:=4) q12.nd rfl (Or.inl rfl) (qP uI (pv 0) (pv 2))) (qB (jE (qIX (PW.pt (qCW (qCU (qA8 hu (pv 4) (pv 1))) (q9Z (qS q3F (jT qCD (by rfl) T.aB4 dO (qA (pv 1) qF)) (pv 3) (qT _)))))) (qD (qN (pv 4))) qQ) (qB (qW (i:=5) q12.nd rfl (Or.inl rfl) (jT (q6Q rfl) (by rfl) T.aBH (by kernel_rfl) (qA (pv 1) qF))) (qD (qN (jA jQ (pv 5) (qP uI (pv 0) (jT jV (by rfl) T.aB4 dO (qA (pv 5) qF))) (λ_ _=>rfl))))))),?_⟩
try dsimp-beta-proj-iota-zeta-eta only[wishK,cxK]
refine⟨_,rfl,_,rfl,iI ⟨(by show(0:Int)<(w':Int);lia),?_⟩⟩
have mm:=q2V cell (w':Int) (by lia)
try dsimp only
generalize cell%(w':Int)=n at mm ⊢
refine⟨λb H'=>H=H'∧b=decide (n∈ks∨ks.length<s'),?_,?_⟩
·refine⟨_,rfl,_,rfl,kd,_,rfl,DGet.k (k:=Sum.inl n) hk,_,rfl,?_⟩;rw[q7S ek];by_cases z:n∈ks
 ·rw[hG z,hG (.inl z)];exact iteT ⟨rfl,rfl⟩
 rw[hX z];refine iteF ?_;refine⟨_,rfl,kd,_,rfl,hk,_,rfl,iI ⟨_,rfl,rfl,?_⟩⟩;rw[lk];by_cases y:ks.length<s'
 ·rw[hG (show n∈ks∨ks.length<s' from .inr y),hG (by lia)]
 rw[hX (show ¬(n∈ks∨ks.length<s')from λw=>w.elim z y),hX (by lia)]
rintro b H' ⟨rfl,rfl⟩
by_cases z:n∈ks∨ks.length<s'
·rw[hG z];exact iteT ⟨_,rfl,k n H (Same.refl H) mm.1 mm.2 z⟩
rw[hX z]
refine iteF ?_
refine⟨_,rfl,kd,kvs,ks,rfl,hk,ek,l64,λns pn so l H1 n1 s1' h1=>?_⟩
have ln:=pn.length_eq
have pos:0<ns.length:=by have:¬ks.length<s':=λy=>z (.inr y);lia
refine⟨_,rfl,_,rfl,_,rfl,l,_,rfl,.inl (SqL.of h1),iI ⟨(by rw[kB];show(0:Int)<(ns.length:Int);lia),?_⟩⟩
rw[kB]
have m2:=q2V cell (ns.length:Int) (by lia)
try dsimp only
obtain⟨i,ei⟩:∃i:Nat,cell%(ns.length:Int)=(i:Int):=⟨(cell%(ns.length:Int)).toNat,by lia⟩
rw[ei]
have hi:i<ns.length:=by lia
refine(iL (k:=_) (v:=.int ns[i]) (SqL.of h1) (v8 (by rw[mB,kC hi];rfl)) ?_)
have mk:=pn.mem_iff.mp (gJ hi)
exact k _ H1 s1' (kb _ mk).1 (kb _ mk).2 (.inl mk))
noncomputable def qL2:Sp:=λ_ _ _ _=>False
theorem q6M(T:Txt K mg t)(S:Fns K t):S.aAH.Ok0 P w mg base 1 qL2:=by(
refine S.aAH.F.ok0 q66 (len:=λvs H Q E h=>?_) λcdv A outer s H vs Q E hr h=>?_
rotate_left
·exact h.elim
exact h.elim)
noncomputable def qL3(t:Adr):Sp:=λvs H Q _=>∃x k sh sr r rl pp X,vs=[.ref x.s]∧XX t H x k sh sr r rl pp X∧x.C=t.C_Even∧(∀p∈X.ps,p.why=Str.ofString "rule")∧NewO H (.lst []) Q
theorem q4V(T:Txt K mg t)(S:Fns K t):S.tF.Ok0 P w mg base 2 (qL3 t):=by(
refine S.tF.F.ok0 q4M λcdv A _ s H vs Q E hr h=>?_
obtain⟨x,k,sh,sr,r,rl,pp,X,rfl,h,eC,hw,kk⟩:=h
obtain⟨ps,h1,h2⟩:=h.hp
refine⟨_,(qD (qN (v9 ["self","paper"] [0] rfl (y8 (qJ (pv 0) rfl)) (λ_ _ _ _ _=>(qZ (i:=1) (show List.Nodup (["self","paper"]:List Str)from by decide) rfl (Or.inl rfl))) (λ_ _ _ _ _=>(uK (qS q04 (jA (q2A (K:=K) rfl) (pv 1) qI (λ_ _=>rfl)) q19 (qT _)))) (λ_ _ _ _ _=>(uJ (qA (jA (q2A (K:=K) rfl) (pv 1) qI (λ_ _=>rfl)) (qA (qV (pv 0) (cl2 x.hC T.bJ T.bK) (m2e eC T.aCI) (q6M T S).mono hr S.aAH.b .nil qK (qA (jA (q2A (K:=K) rfl) (pv 1) qI (λ_ _=>rfl)) qF)) qF)))) (by kernel_rfl) (yJ (by decide))))),?_⟩
try dsimp-beta-proj-iota-zeta-eta only[wishK,cxK]
obtain⟨_,hs,_⟩:=h.j.e
refine⟨_,rfl,x.s,_,x.sd,_,_,rfl,hs.o,(cl2 x.hC T.bJ T.bK),(na2 x.hC T.eU T.fB),rfl,pp,h.ep,⟨_,SqL.of h1⟩,λD H2 nD s2 hD=>?_⟩
refine vC (K:=K) (xs:=ps) (D:=D) (λi H3=>Same H H3∧H3 D=some (.lst [])) ⟨s2,hD⟩ (λi H3 hp=>SqL.of (hp.1 _ _ h1)) (λi y H3 hy hp=>?_) (λH3 hp=>kk D H3 nD hp.1 hp.2)
obtain⟨sm,hd⟩:=hp
obtain⟨q,hq,pa,l1,l2,us2,rs2,rfl,hpa,_⟩:=Paired.at h2 hy
obtain⟨hi,rfl⟩:=kD.mp hq
refine⟨_,rfl,iT (k:=_) (v:=_) (SqT.of (sm _ _ hpa)) rfl ⟨rfl,_,rfl,?_⟩⟩
rw[show decide (V.str X.ps[i].why=V.str (Str.ofString "even"))=false from hX (λy=>by have y:=V.str.inj y;rw[hw _ (gJ hi)]at y;exact absurd y (by decide))]
exact iteF ⟨sm,hd⟩)
section
variable{H H':Hp}{x:Sto}{k:Tm}{sh sr:Int}{r:Addr}{rl:List Addr}{pp:Addr}{X:Sx}
theorem XX.setG{s:XS}{g:Rl}(h:XX t H x k sh sr r rl pp ⟨s,g,[]⟩){G:List Addr}(gi:∀y∈G,y∉fx t x r pp∧∃o,H y=some o):XX t H { x with G:=G } k sh sr r rl pp ⟨s,g,[]⟩:=by(
obtain⟨ps,h1,h2⟩:=h.hp
cases h2
obtain⟨m,st,c,pg⟩:=h.j.e
exact⟨⟨⟨m,⟨st.o,st.te,st.ch,st.bk,st.tb,st.ds,st.d1,st.d2⟩,c,pg⟩,h.j.w⟩,h.er,h.ru,h.of,h.ep,⟨[],h1,.nil⟩,h.np,h.nr,gi⟩)
theorem XX.other(h:XX t H x k sh sr r [] pp X){x2:Sto}{k2:Tm}{r2 p2:Addr}{X2:Sx}(h2:XX t H' x2 k2 sh sr r2 [] p2 X2)(kk:Keep (fx t x2 r2 p2) H H')(e:x.G=p2::r2::sf x2)(d:∀y∈x.s::x.tm::x.a.li::pp::r::sf x,y∉x.G):XX t H' x k sh sr r [] pp X:=by(
obtain⟨ps,h1,hp⟩:=h.hp
obtain⟨m,st,c,pg⟩:=h.j.e
have tb:=h.j.tb
obtain⟨q1,hT,_,q2,hB,_⟩:=h.j.tb
have nT:∀{y:Addr} {o:HO},H y=some o→(∀z,o≠ .tbl z)→y∉x.G→y∉fx t x2 r2 p2:=fun {y o} ey no ng z=>by
 rw[e]at ng;have z:y=p2∨y=r2∨y=t.bI∨y=t.bH∨y∈sf x2:=by simpa using z
 rcases z with z|z|z|z|z
 ·exact ng (by simp[z])
 ·exact ng (by simp[z])
 ·rw[z,hB]at ey;exact no _ (kM ey).symm
 ·rw[z,hT]at ey;exact no _ (kM ey).symm
 exact ng (by simp[z])
have own:∀y∈[x.s,x.tm]++(x.a.li::sf x),y∉fx t x2 r2 p2:=λy hy z=>by
 have dy:=d y (by simp at hy ⊢;rcases hy with h|h|h|h<;>simp[h]);rw[e]at dy;have z:y=p2∨y=r2∨y=t.bI∨y=t.bH∨y∈sf x2:=by simpa using z
 rcases z with z|z|z|z|z
 ·exact dy (by simp[z])
 ·exact dy (by simp[z])
 ·exact st.nX hB (.inl ⟨_,rfl⟩) (z▸hy)
 ·exact st.nX hT (.inl ⟨_,rfl⟩) (z▸hy)
 exact dy (by simp[z])
obtain⟨_,_,_,er⟩:=h.ru.ins
refine⟨h.j.keep kk own h2.j.tb,h.er,h.ru.keep kk (λy hy=>?_),h.of,h.ep,⟨ps,kk.k _ _ (nT h1 (λ_ z=>by cases z) (d _ (by simp))) h1,Paired.mapP hp λ_ _ z=>z.keep kk (λy hy=>?_)⟩,h.np,h.nr,λy hy=>⟨(h.gi y hy).1,?_⟩⟩
·rw[h9.mp hy];exact nT er (λ_ z=>by cases z) (d _ (by simp))
·rw[e];simp at hy ⊢;rcases hy with h|h|h|h|h<;>simp[h]
rw[e]at hy
exact h2.inF y (by simp at hy ⊢;rcases hy with h|h|h<;>simp[h]))
end
section
variable{k:Tm}{sh:Int}{sr:Nat}{X Y:Sx}{KD:Mp}{n v:Int}{j:Nat}
noncomputable def Wy(ps:List Pa):Prop:=∀p∈ps,p.why=Str.ofString "rule"
theorem qH8{r:Except Rf Pa}(ev:k.ev=false)(w:WX k X.s)(ok:X.g.Ok)(h:X.room k=(Y,r))(m:Wy X.ps):Wy Y.ps:=by(
have h':=h
unfold Sx.room at h
cases htk:X.s.tk k X.g with
|none=>rw[htk]at h;cases h;exact m
|some ybg=>
 obtain⟨y,b,g'⟩:=ybg;rw[htk]at h;dsimp only at h;cases e:XS.mvs (lvP X.s.q.P b X.s.q.V) X.s with
 |mk s o=>
  rw[e]at h;cases o with
  |none=>cases h;exact m
  |some ms=>
   dsimp only at h;split at h
   ·cases h;exact m
   cases h;intro q hq;rcases gF.mp hq with hq|hq
   ·exact m q hq
   rw[h9.mp hq];exact qF1 ok w ev h')
theorem q9Y(ev:k.ev=false):∀{i:Nat} {X Y:Sx} {r:Except Rf Unit},WX k X.s→X.g.Ok→X.rooms k i=some (Y,r)→Wy X.ps→Wy Y.ps
|0,X,Y,r,w,ok,h,m=>by
 unfold Sx.rooms at h;split at h
 ·cases h;exact m
 cases h
|i+1,X,Y,r,w,ok,h,m=>by
 unfold Sx.rooms at h;split at h
 ·cases h;exact m
 cases e:X.room k with
 |mk W o=>
  rw[e]at h;have m2:=qH8 ev w ok e m;obtain⟨w2,ok2,kp,_⟩:=q53 w ok e;cases o with
  |error q=>cases h;exact m2
  |ok p=>exact q9Y ev w2 ok2 h m2
theorem qJR{i:Nat}{r:Except Rf Nat}(ev:k.ev=false)(w:WX k X.s)(ok:X.g.Ok)(h:X.ask k i n v=some (Y,r))(m:Wy X.ps):Wy Y.ps:=by(
unfold Sx.ask at h
cases e:X.rooms k i with
|none=>rw[e]at h;cases h
|some Zr=>
 obtain⟨Z,o⟩:=Zr;rw[e]at h;have m2:=q9Y ev w ok e m;cases o with
 |error q=>cases h;exact m2
 |ok u=>
  dsimp only at h;split at h
  ·cases h;exact m2
  cases h;exact m2)
structure Ld(k:Tm)(sh:Int)(sr:Nat)(X:Sx)(KD:Mp)(j:Nat):Prop where
d:Kd k sh sr X KD
lf:X.s.lf=none
wy:Wy X.ps
rcn:X.s.rc.length≤300*j
psn:X.ps.length≤20*j
theorem Ld.any(h:Ld k sh sr X KD j)(ev:k.ev=false)(sp:k.sp=1000000)(hj:j<100)(n0:0≤n)(n1:n≤64)(hc:(∃p,(n,p)∈X.s.q.V)∨(X.s.q.V.length<59∧X.s.q.V.length+1<(X.s.q.B-(1+k.ie))*X.s.q.P)):∃Y qs p,X.ask k 17 n v=some (Y,.ok p)∧X.ask (lev k) 17 n v=some (Y,.ok p)∧AskO k 17 X n v Y qs p∧Y.s.lf=none∧Wy Y.ps∧Y.s.rc.length≤300*(j+1)∧Y.ps.length≤20*(j+1):=by(
have r1:=h.rcn
have r2:=h.psn
have lv:=qGV (n:=n) (v:=v) (i:=17) ev h.d.x h.d.wt h.d.ok (by rw[sp];lia)
rcases qGS (n:=n) (v:=v) h.d.x h.d.wt h.d.ok (qBS h.d.x) n0 n1 hc with⟨Y,qs,p,hZ,a⟩|⟨Y,qs,hZ,a⟩
·have rl:=a.rl;have ln:=mF a.ln (qBS h.d.x);refine⟨Y,qs,p,hZ,lv.trans hZ,a,qBT h.d.x.w h.d.ok hZ h.lf,qJR ev h.d.x.w h.d.ok hZ h.wy,by lia,?_⟩;rw[a.ps,mH];lia
have:=qBT h.d.x.w h.d.ok hZ h.lf
rw[a.lf]at this
cases this)
theorem Ld.ask(h:Ld k sh sr X KD j)(ev:k.ev=false)(sp:k.sp=1000000)(hj:j<100)(n0:0≤n)(n1:n<sh)(hc:n∈KD.map (·.1)∨KD.length<sr):∃Y p,X.ask k 17 n v=some (Y,.ok p)∧X.ask (lev k) 17 n v=some (Y,.ok p)∧Ld k sh sr Y (putW KD n v) (j+1):=by have h64:=h.d.h64;obtain⟨Y,qs,p,e1,e2,a,lf,wy,b1,b2⟩:=h.any (v:=v) ev sp hj n0 (by lia) (h.d.can n0 n1 hc);exact⟨Y,p,e1,e2,h.d.wrote n0 n1 hc a,lf,wy,b1,b2⟩
theorem Ld.give(h:Ld k sh sr X KD j)(ev:k.ev=false)(sp:k.sp=1000000)(hj:j<100)(ne:KD≠[]){g:List Int}(hg:∀m∈g,m≠64):∃Y p,X.ask k 17 64 v=some (Y,.ok p)∧X.ask (lev k) 17 64 v=some (Y,.ok p)∧Ld k sh sr ⟨Y.s.forgs g,Y.g,Y.ps⟩ (KD.filter λy=>!decide (y.1∈g)) (j+1):=by(
obtain⟨Y,qs,p,e1,e2,a,lf,wy,b1,b2⟩:=h.any (v:=v) ev sp hj (by decide) (gP _) (h.d.can64 ne)
refine⟨Y,p,e1,e2,h.d.gave a hg,?_,wy,?_,b2⟩
·show(Y.s.forgs g).lf=none;have:∀(g:List Int) (s:XS),(s.forgs g).lf=s.lf:=λg=>by
  induction g with
  |nil=>exact λ_=>rfl
  |cons a g ih=>exact λs=>ih _
 rw[this];exact lf
show(Y.s.forgs g).rc.length≤_
have:∀(g:List Int) (s:XS),(s.forgs g).rc=s.rc:=λg=>by
 induction g with
 |nil=>exact λ_=>rfl
 |cons a g ih=>exact λs=>ih _
rw[this];exact b1)
end
noncomputable def RE(H H':Hp):Prop:=∀b o,(∀ps,o≠ .tbl ps)→H b=some o→H' b=some o
theorem RE.keep{H Hi Hj:Hp}{F:List Addr}(r:RE H Hi)(k:Keep F Hi Hj)(f:∀b∈F,H b=none∨∃ps,H b=some (.tbl ps)):RE H Hj:=λb o nb e=>k.k b o (λz=>by
 rcases f b z with z|⟨ps,z⟩
 ·rw[z]at e;cases e
 rw[z]at e;exact nb ps (kM e).symm) (r b o nb e)
theorem RE.same{H Hi Hj:Hp}(r:RE H Hi)(s:Same Hi Hj):RE H Hj:=λb o nb e=>s b o (r b o nb e)
theorem RE.sq{H Hi:Hp}{sa:Addr}{xs:List V}(r:RE H Hi)(h:SqL K H sa xs):SqL K Hi sa xs:=by(
rcases h with(h|⟨ob,h⟩)|h
·exact .inl (.inl (r _ _ (λ_ z=>by cases z) h))
·exact .inl (.inr ⟨ob,r _ _ (λ_ z=>by cases z) h⟩)
exact .inr h)
theorem sep{tm:Addr}{C1 C2 N1 N2:List Addr}{H2 H5 H7 H9:Hp}(s25:Same H2 H5)(s57:Same H5 H7)(s79:Same H7 H9)(tE:∃o,H2 tm=some o)(a1:∀y∈C1,H2 y=none)(a2:∀y∈C1,∃o,H5 y=some o)(b1:∀y∈C2,H5 y=none)(b2:∀y∈C2,∃o,H7 y=some o)(c1:∀y∈N1,H7 y=none)(c2:∀y∈N1,∃o,H9 y=some o)(d1:∀y∈N2,H9 y=none):(∀y∈tm::(C1++N1),y∉N2++C2)∧∀y∈tm::(C2++N2),y∉C1++N1:=by(
have X:∀{Ha Hb:Hp} {y:Addr},Same Ha Hb→Hb y=none→(∃o,Ha y=some o)→False:=fun {Ha Hb y} s n ⟨o,e⟩=>by rw[s _ _ e]at n;cases n
have s29:=s25.trans (s57.trans s79)
have s27:=s25.trans s57
have s59:=s57.trans s79
refine⟨λy hy z=>?_,λy hy z=>?_⟩<;>rcases gF.mp z with z|z<;>rcases kI.mp hy with h|h
·exact X s29 (d1 y z) (h▸tE)
·rcases gF.mp h with h|h
 ·exact X s59 (d1 y z) (a2 y h)
 exact X (Same.refl _) (d1 y z) (c2 y h)
·exact X s25 (b1 y z) (h▸tE)
·rcases gF.mp h with h|h
 ·exact X (Same.refl _) (b1 y z) (a2 y h)
 exact X (Same.refl _) (c1 y h) (b2 y z)
·exact X (Same.refl _) (a1 y z) (h▸tE)
·rcases gF.mp h with h|h
 ·exact X (Same.refl _) (b1 y h) (a2 y z)
 exact X s59 (d1 y h) (a2 y z)
·exact X s27 (c1 y z) (h▸tE)
rcases gF.mp h with h|h
·exact X (Same.refl _) (c1 y z) (b2 y h)
exact X (Same.refl _) (d1 y h) (c2 y z))
theorem XX.gg{H:Hp}{x1 x2:Sto}{k1 k2:Tm}{sh sr:Int}{r1 r2 p1 p2:Addr}{X1 X2:Sx}(h1:XX t H x1 k1 sh sr r1 [] p1 X1)(h2:XX t H x2 k2 sh sr r2 [] p2 X2)(d:∀y∈p1::r1::sf x1,y∉p2::r2::sf x2):∀y∈p2::r2::sf x2,y∉fx t x1 r1 p1∧∃o,H y=some o:=λy hy=>by(
obtain⟨q1,hT,_,q2,hB,_⟩:=h2.j.tb
obtain⟨m,st,_⟩:=h2.j.e
obtain⟨ps,hp,_⟩:=h2.hp
obtain⟨_,_,_,er⟩:=h2.ru.ins
have nt:∀{b:Addr} {z},H b=some (.tbl z)→y≠b:=fun {b z} e w=>by
 rw[w]at hy;have hy:b=p2∨b=r2∨b∈sf x2:=by simpa using hy
 rcases hy with h|h|h
 ·rw[h,hp]at e;cases e
 ·rw[h,er]at e;cases e
 exact st.nX e (.inl ⟨_,rfl⟩) (by simp[h])
refine⟨λz=>?_,h2.inF y (by simp at hy ⊢;rcases hy with h|h|h<;>simp[h])⟩
have z:y=p1∨y=r1∨y=t.bI∨y=t.bH∨y∈sf x1:=by simpa using z
rcases z with z|z|z|z|z
·exact d y (by simp[z]) hy
·exact d y (by simp[z]) hy
·exact nt hB z
·exact nt hT z
exact d y (by simp[z]) hy)
theorem qFD{H:Hp}{n:Nat}{a b:Addr}{us vs:List V}{ts:List Tl}(ha:SqL K H a us)(hb:SqL K H b vs)(h:Tls H us ts)(g:Tls H vs ts):Eqv K H (n+2) (.ref a) (.ref b):=.lst ha hb (h.len.trans g.len.symm) λj x y hx hy=>by  obtain⟨O,hO,c,rfl,hc⟩:=Paired.at h hx;obtain⟨O',hO',c',rfl,hc'⟩:=Paired.at g hy;obtain rfl:O=O':=kM (hO.symm.trans hO');refine q7J (SqT.of hc) (SqT.of hc') λv hv=>?_;obtain⟨n,_,rfl⟩:=kZ.mp hv;rfl
theorem qFE{H:Hp}{rs ds:List V}{L:List (List Int)}{p r:Addr}(n:Nat)(hp:H p=some (.lst rs))(hq:H r=some (.lst ds))(t1:Paired (TupD H) rs L)(t2:Paired (TupD H) ds L):Eqv K H (n+2) (.ref p) (.ref r):=by(
refine .lst (SqL.of hp) (SqL.of hq) (t1.len.trans t2.len.symm) λj x y hx hy=>?_
obtain⟨b,hb,x',rfl,hx'⟩:=Paired.at t1 hx
obtain⟨b',hb',y',rfl,hy'⟩:=Paired.at t2 hy
obtain rfl:b=b':=kM (hb.symm.trans hb')
refine .tup (SqT.of hx') (SqT.of hy') rfl λi u v hu hv=>?_
obtain rfl:u=v:=kM (hu.symm.trans hv)
rw[mB]at hu
obtain⟨z,_,rfl⟩:=mI.mp hu
exact .flat rfl)
theorem qFF{H:Hp}{F G:List Addr}{v w:V}{p:Pa}(h:PapA H F v p)(g:PapA H G w p):Eqv K H 6 v w:=by(
obtain⟨a,l1,l2,us,rs,rfl,ha,hl1,ty,hl2,pr,_⟩:=h
obtain⟨b,m1,m2,us',rs',rfl,hb,hm1,ty',hm2,pr',_⟩:=g
refine .tup (SqT.of ha) (SqT.of hb) rfl λj u v hu hv=>?_
match j with
|0=>cases hu;cases hv;exact .flat rfl
|1=>cases hu;cases hv;exact qFD (n:=3) (SqL.of hl1) (SqL.of hm1) ty ty'
|2=>cases hu;cases hv;exact .flat rfl
|3=>cases hu;cases hv;exact qFE 3 hl2 hm2 pr pr'
|4=>cases hu;cases hv;exact .flat rfl
|j+5=>cases hu)
theorem q56{v:V}{A B:Prop}(h:B):if(!decide (v=v))=true then A else B:=by rw[kF (by simp)];exact h
theorem qBZ{H H':Hp}{zs:List V}{ds:List (Str×Int×Bool)}(pr:Recd H zs ds)(k:∀{y:Addr} {xs:List V},H y=some (.tup xs)→H' y=some (.tup xs)):Recd H' zs ds:=Paired.mapP pr λv d z=>by obtain⟨p,e,h⟩:=z;exact⟨p,e,k h⟩
theorem q3T{hl:List Int}{y:Int}:(∀m,m∈gvn hl [y]↔m=y∧y∈hl)∧(gvn hl [y]=[]↔y∉hl):=by(
have a:∀m,m∈gvn hl [y]↔m=y∧y∈hl:=λm=>by
 unfold gvn;rw[mK,kQ,h9];constructor
 ·rintro⟨h,e⟩
  exact⟨e,by rw[←e];exact h⟩
 rintro⟨e,h⟩
 exact⟨by rw[e];exact h,e⟩
refine⟨a,?_⟩
rw[List.eq_nil_iff_forall_not_mem]
constructor
·intro h z;exact h y ((a y).mpr ⟨rfl,z⟩)
intro h m hm
exact h ((a m).mp hm).2)
structure J2(t:Adr)(H0 H:Hp)(x1 x2:Sto)(k:Tm)(sr:Nat)(r1 p1 r2 p2 kd:Addr)(X:Sx)(KD:Mp)(j:Nat):Prop where
a:XX t H x1 k 64 (sr:Int) r1 [] p1 X
b:XX t H x2 (lev k) 64 (sr:Int) r2 [] p2 X
l:Ld k 64 sr X KD j
hk:H kd=some (.dK (dB KD))
re:RE H0 H
structure S2(t:Adr)(H0:Hp)(x1 x2:Sto)(k:Tm)(r1 p1 r2 p2 kd:Addr):Prop where
e1:x1.G=p2::r2::sf x2
e2:x2.G=p1::r1::sf x1
d1:∀y∈x1.s::x1.tm::x1.a.li::p1::r1::sf x1,y∉x1.G
d2:∀y∈x2.s::x2.tm::x2.a.li::p2::r2::sf x2,y∉x2.G
k1:kd∉x1.a.li::fx t x1 r1 p1
k2:kd∉x2.a.li::fx t x2 r2 p2
f0:H0 kd=none∨∃ps,H0 kd=some (.tbl ps)
f1:∀b∈fx t x1 r1 p1,H0 b=none∨∃ps,H0 b=some (.tbl ps)
f2:∀b∈fx t x2 r2 p2,H0 b=none∨∃ps,H0 b=some (.tbl ps)
v1:Evc t x1 k
v2:Evc t x2 (lev k)
ev:k.ev=false
sp:k.sp=1000000
section
variable{H0 H H' H'':Hp}{x1 x2:Sto}{k:Tm}{sr:Nat}{r1 p1 r2 p2 kd:Addr}{X Y:Sx}{KD KD':Mp}{j:Nat}
theorem J2.one(h:J2 t H0 H x1 x2 k sr r1 p1 r2 p2 kd X KD j)(s:S2 t H0 x1 x2 k r1 p1 r2 p2 kd)(hy:XX t H' x1 k 64 (sr:Int) r1 [] p1 Y)(kk:Keep (fx t x1 r1 p1) H H'):XX t H' x2 (lev k) 64 (sr:Int) r2 [] p2 X:=h.b.other hy kk s.e2 s.d2
theorem J2.two(h:J2 t H0 H x1 x2 k sr r1 p1 r2 p2 kd X KD j)(s:S2 t H0 x1 x2 k r1 p1 r2 p2 kd)(hy:XX t H' x1 k 64 (sr:Int) r1 [] p1 Y)(kk:Keep (fx t x1 r1 p1) H H')(hz:XX t H'' x2 (lev k) 64 (sr:Int) r2 [] p2 Y)(kk':Keep (fx t x2 r2 p2) H' H'')(l:Ld k 64 sr Y KD' (j+1)):J2 t H0 (upd H'' kd (.dK (dB KD'))) x1 x2 k sr r1 p1 r2 p2 kd Y KD' (j+1):=by have hk1:=kk.k _ _ (λz=>s.k1 (hU _ z)) h.hk;have hk2:=kk'.k _ _ (λz=>s.k2 (hU _ z)) hk1;exact⟨(hy.other hz kk' s.e1 s.d1).dct hk2 s.k1 (by simp),hz.dct hk2 s.k2 (by simp),l,qG,((h.re.keep kk s.f1).keep kk' s.f2).keep (Keep.upd (F:=[kd]) hk2 (λ_ z=>by cases z) (by simp)) (λb hb=>by rw[h9.mp hb];exact s.f0)⟩
theorem J2.hk2(h:J2 t H0 H x1 x2 k sr r1 p1 r2 p2 kd X KD j)(s:S2 t H0 x1 x2 k r1 p1 r2 p2 kd)(kk:Keep (fx t x1 r1 p1) H H')(kk':Keep (fx t x2 r2 p2) H' H''):H'' kd=some (.dK (dB KD)):=kk'.k _ _ (λz=>s.k2 (hU _ z)) (kk.k _ _ (λz=>s.k1 (hU _ z)) h.hk)
theorem J2.same(h:J2 t H0 H x1 x2 k sr r1 p1 r2 p2 kd X KD j)(s:Same H H'):J2 t H0 H' x1 x2 k sr r1 p1 r2 p2 kd X KD j:=⟨h.a.same s,h.b.same s,h.l,s _ _ h.hk,h.re.same s⟩
theorem J2.up(h:J2 t H0 H x1 x2 k sr r1 p1 r2 p2 kd X KD j):J2 t H0 H x1 x2 k sr r1 p1 r2 p2 kd X KD (j+1):=⟨h.a,h.b,⟨h.l.d,h.l.lf,h.l.wy,by have:=h.l.rcn;lia,by have:=h.l.psn;lia⟩,h.hk,h.re⟩
end
theorem qJS(T:Txt K mg t)(S:Fns K t)(B:BmIn base mg):S.law.Ok0 P w mg base 18 (q43 K [t.bH,t.bI]):=by(
refine S.law.F.ok0 yV λcdv A _ s H vs Q E hr h=>?_
obtain⟨a,ns,rfl,hS,hlen,hT0,k⟩:=h
have hT:H t.bH=some (.tbl #[]):=hT0 _ (by simp)
have hTB:H t.bI=some (.tbl #[]):=hT0 _ (by simp)
have hu:=q5L hr
have s9:(99999:Nat)<sizeLine:=by decide
have nC:t.C_Store≠t.C_Even:=by have a:=T.aCG;have b:=T.aCQ;intro z;rw[z]at a b;exact absurd (a.symm.trans b) (by decide)
refine⟨_,(qB (q3U (qX (q8Q T S).mono hr rfl T.aC2 T.aDH S.aBQ.b .nil qK (qA (pv 0) qF)) (qJ7 rfl (yI (qZ (i:=1) yV.nd rfl (Or.inl rfl)) (yI (qZ (i:=2) yV.nd rfl (Or.inl rfl)) (yI (qZ (i:=3) yV.nd rfl (Or.inl rfl)) (yI (qZ (i:=4) yV.nd rfl (Or.inl rfl)) q3C)))))) (qB (qW (i:=5) yV.nd rfl (Or.inl rfl) (q28 T.aEH (q6Y T S).mono hr rfl T.aEG S.aCC S.aB9 qK (qA (pv 1) (qA (pv 2) (qA qI (qA (pv 3) (qA (pv 4) qF))))))) (qB (qW (i:=6) yV.nd rfl (Or.inl rfl) (q28 T.aEA (q3Q T S).mono hr rfl T.aEC S.aAT S.aAO qK (qA (pv 1) (qA (pv 2) qF)))) (qB (qW (i:=7) yV.nd rfl (Or.inl rfl) (q28 T.aEA (q3Q T S).mono hr rfl T.aEC S.aAT S.aAO qK (qA (pv 1) (qA (pv 2) qF)))) (qB (qW (i:=8) yV.nd rfl (Or.inl rfl) (q28 T.aEM (q2S T S).mono hr rfl T.aEF S.tS.b .nil qK (qA (pv 6) (qA (pv 5) (qA (qX (q4I T S).mono hr rfl T.aBL T.aBM S.aBD.b .nil qK (qA (qX (jZ T S).mono hr rfl T.b8 T.b9 S.eO.b .nil qK (qA (pv 0) (qA qI qF))) qF)) qF))))) (qB (qW (i:=9) yV.nd rfl (Or.inl rfl) (q28 T.aET (q2S T S).mono hr rfl T.aEX S.tS.b .nil qK (qA (pv 7) (qA (pv 5) (qA (qX (q4I T S).mono hr rfl T.aBL T.aBM S.aBD.b .nil qK (qA (qX (jZ T S).mono hr rfl T.b8 T.b9 S.eO.b .nil qK (qA (pv 0) (qA qI qF))) qF)) qF))))) (qB (qW (i:=10) yV.nd rfl (Or.inl rfl) q5K) (qB (zL rU rfl (q75 rfl T.aDV (qA qI (qA (jT (qC5 rfl) (by rfl) T.aEW (by kernel_rfl) (qA (jT jV (by rfl) T.aB4 dO (qA (pv 0) qF)) (qA qI qF))) qF))) (qZ (i:=11) yV.nd rfl (Or.inl rfl)) (qB (qW (i:=12) yV.nd rfl (Or.inl rfl) (jA jQ (pv 0) (pv 11) (λ_ _=>rfl))) (qB (qW (i:=13) yV.nd rfl (Or.inl rfl) (qX (q8R T S).mono hr rfl T.aDB T.aDI S.aBR.b .nil qK (qA (qP uI (qP uH (qP uZ (pv 12) (pv 11)) qI) qI) (qA (pv 10) (qA qI (qA (pv 3) qF)))))) (qD (jE (qS q04 (qP uI (pv 12) qI) qI (qT _)) (qB (jE (qS q5D (jO zH (pv 8) T.bJ T.aBW ((q0J T S nC B).mono (by decide)) hr S.iH.b .nil (qA (jR (qA (pv 13) qF)) qF q94)) (jO zH (pv 9) T.bK T.aB2 ((q0J T S nC B).mono (by decide)) hr S.iH.b .nil (qA (jR (qA (pv 13) qF)) qF q94)) (qT _)) (qD (qN q2M)) qQ) (qD (qY (qDL (pv 10) (pv 13) uY ⟨rfl,rfl,rfl,rfl⟩)))) (qB (jE (qS q5D (jO zH (pv 8) T.bJ T.aCR ((q25 T S nC B).mono (by decide)) hr S.oP.b .nil (qA (pv 13) (qA (qP uI (pv 12) (qP qA1 qI qI)) qF))) (jO zH (pv 9) T.bK T.aDD ((q25 T S nC B).mono (by decide)) hr S.oP.b .nil (qA (pv 13) (qA (qP uI (pv 12) (qP qA1 qI qI)) qF))) (qT _)) (qD (qN q2M)) qQ) (qD (qB5 hu (pv 10) (pv 13) q2M rfl)))))))) (qB (jE (PW.pt (qCW (qS (qDV hr.units) (qU (pv 6) T.bL T.aA5 (q2R T S).mono hr S.tR.b .nil qK) (qU (pv 7) T.bL T.aA5 (q2R T S).mono hr S.tR.b .nil qK) (qT _)) (q9Z (qS q5D (jT jV (by rfl) T.aB4 dO (qA (qJ (pv 8) rfl) qF)) (jT jV (by rfl) T.aB4 dO (qA (qJ (pv 9) rfl) qF)) (qT _))))) (qD (qN q2M)) qQ) (qB (zL rU rfl (qIY rfl T.aEZ (qA (qJ (pv 8) rfl) (qA (qJ (pv 9) rfl) qF))) (q7U rfl (yI (qZ (i:=14) yV.nd rfl (Or.inl rfl)) (yI (qZ (i:=15) yV.nd rfl (Or.inl rfl)) q3C))) (qD (jE (qS (qDV hr.units) (pv 14) (pv 15) (qT _)) (qD (qN q2M)) qQ))) (qD (qN (v7 (q3X hr.units) (qU (pv 9) T.bK T.aCD (q4V T S).mono hr S.tF.b .nil qK) (jR qF) (qT _)))))))))))))),?_⟩
try dsimp-beta-proj-iota-zeta-eta only[wishK,cxK]
refine⟨_,rfl,a,ns,rfl,hS,λc P1 i sh hc1 hc4 hP1 hP2 hi2 hs1 hs2 p0 H1 n0 s1 h1=>?_⟩
refine⟨p0,_,rfl,SqL.of h1,rfl,_,_,rfl,_,_,rfl,_,_,rfl,_,_,rfl,rfl,?_⟩
have hcp:c*P1≤4*4:=Nat.mul_le_mul hc4 hP2
have sh14:sh≤14:=by lia
refine⟨_,rfl,_,rfl,_,rfl,_,rfl,?_⟩
dsimp only[tNil,wF,g7]
refine qKS (by lia) (by lia) (by lia) (by lia) (by decide) (by decide) (by lia) (by rw[show((c+1+i:Nat):Int)-1-(i:Int)=(c:Int) by lia,←dS];lia) (by lia) (by lia) (by lia) (by lia) ?_
intro tm td H2 s2 htm
have s02:=s1.trans s2
refine⟨_,rfl,_,rfl,?_⟩
dsimp only[tNil]
refine qHN (by lia) (by lia) (by lia) (by lia) (by decide) (by decide) ?_
refine λch ca H5 hc5 s25 fC=>?_
refine⟨_,rfl,_,rfl,?_⟩
dsimp only[tNil]
refine qHN (by lia) (by lia) (by lia) (by lia) (by decide) (by decide) ?_
refine λco cb H7 ho7 s57 fO=>?_
have s07:=(s02.trans s25).trans s57
have htm7:=s57 _ _ (s25 _ _ htm)
have hc7:=hc5.same s57
refine⟨_,rfl,_,rfl,_,rfl,a,ns,4,rfl,s07.seq hS,by decide,_,rfl,λr1 H8 hR8 s8 nr1=>?_⟩
have s08:=s07.trans s8
have tb8:TbF t H8:=⟨#[],s08 _ _ hT,.inl rfl,#[],s08 _ _ hTB,.inl rfl⟩
refine λsA sd nA nsd nn=>?_
have sM:Same H8 (upd (upd H8 sd (.own sA)) sA (.ins t.C_Store sd [])):=q0P nA nsd
refine⟨t.C_Store,.inl rfl,sA,sd,tm,td,ch,ca,_,_,_,_,_,_,c+1+i,P1,rfl,qG,sM _ _ (s8 _ _ htm7),(hc7.same s8).same sM,rfl,rfl,by lia,tb8.same sM,λkb p1 H9 st9 hp9 np1 fk off1 up=>⟨rfl,?_⟩⟩
have s89:Same H8 H9:=λb o e=>up b o (qH e nA) (sM b o e)
have s79:=s8.trans s89
have s09:=s07.trans s79
obtain⟨_,_,_,er8⟩:=hR8.ins
have np18:H8 p1=none:=Same.free sM np1
obtain⟨kt,ekt⟩:∃kt:Tm,kt=⟨i,1000000,false⟩:=⟨_,rfl⟩
obtain⟨ix0,ge0⟩:=qBR (k:=kt) (B:=c+1+i) (P:=P1) (by lia) hP1 (by lia) (by rw[ekt];show 1+i< _;lia) (by rw[ekt];show(1:Int)≤1000000;decide)
obtain⟨X0,eX0⟩:∃X:Sto,X=⟨sA,sd,tm,td,ch,ca,kb,.ref r1,.ref p1,t.C_Store,.inl rfl,[]⟩:=⟨_,rfl⟩
have of1:Off t X0 [r1]:=by rw[eX0];exact qFC hc7 htm7 (s07 _ _ hT) (s07 _ _ hTB) (λu hu=>by rw[h9.mp hu];exact nr1) (λu hu=>by rw[h9.mp hu];exact⟨_,er8⟩) nA sM fk
rw[←eX0]at st9 off1
have hx9:XX t H9 X0 kt 64 (sh:Int) r1 [] p1 ⟨newX (c+1+i) P1,.rk (lwF (jX ns 4)),[]⟩:=qFB (by rw[ekt];exact st9) (by rw[eX0]) (hR8.keep (Keep.same s89) (F:=[]) (by simp)) of1 (by rw[eX0]) hp9 off1 (λz=>by rw[h9.mp z,er8]at np18;cases np18) (by rw[eX0]) (by lia) (by lia) hP1 (by lia) ix0.w
refine⟨_,rfl,_,rfl,_,rfl,a,ns,4,rfl,s09.seq hS,by decide,_,rfl,λr2 HA hRA sRA nr2=>?_⟩
have s9A:=sRA
have s0A:=s09.trans sRA
have tbA:TbF t HA:=⟨#[],s0A _ _ hT,.inl rfl,#[],s0A _ _ hTB,.inl rfl⟩
refine λsB se nB nse nn2=>?_
have sN:Same HA (upd (upd HA se (.own sB)) sB (.ins t.C_Even se [])):=q0P nB nse
have ho9:=ho7.same s79
have htm9:=s79 _ _ htm7
refine⟨t.C_Even,.inr rfl,sB,se,tm,td,co,cb,_,_,_,_,_,_,c+1+i,P1,rfl,qG,sN _ _ (sRA _ _ htm9),(ho9.same sRA).same sN,rfl,rfl,by lia,tbA.same sN,λkc p2 HB stB hpB np2 fk2 off2 up2=>⟨rfl,?_⟩⟩
have sAB:Same HA HB:=λb o e=>up2 b o (qH e nB) (sN b o e)
have s9B:=s9A.trans sAB
have s0B:=s09.trans s9B
obtain⟨_,_,_,erA⟩:=hRA.ins
have np2A:HA p2=none:=Same.free sN np2
obtain⟨X2,eX2⟩:∃X:Sto,X=⟨sB,se,tm,td,co,cb,kc,.ref r2,.ref p2,t.C_Even,.inr rfl,[]⟩:=⟨_,rfl⟩
have of2:Off t X2 [r2]:=by rw[eX2];exact qFC ho9 htm9 (s09 _ _ hT) (s09 _ _ hTB) (λu hu=>by rw[h9.mp hu];exact nr2) (λu hu=>by rw[h9.mp hu];exact⟨_,erA⟩) nB sN fk2
rw[←eX2]at stB off2
have hyB:XX t HB X2 (lev kt) 64 (sh:Int) r2 [] p2 ⟨newX (c+1+i) P1,.rk (lwF (jX ns 4)),[]⟩:=qFB (by rw[ekt];exact stB) (by rw[eX2]) (hRA.keep (Keep.same sAB) (F:=[]) (by simp)) of2 (by rw[eX2]) hpB off2 (λz=>by rw[h9.mp z,erA]at np2A;cases np2A) (by rw[eX2]) (by lia) (by lia) hP1 (by lia) (qBR (k:=lev kt) (B:=c+1+i) (P:=P1) (by lia) hP1 (by lia) (by rw[ekt];show 1+i< _;lia) (by rw[ekt];show(1:Int)≤1000000;decide)).1.w
have hxB:=hx9.same s9B
obtain⟨dA,dB⟩:=sep (tm:=tm) (C1:=ca.li::foot ch ca) (C2:=cb.li::foot co cb) (N1:=sA::p1::r1::bf kb) (N2:=sB::p2::r2::bf kc) s25 s57 s79 ⟨_,htm⟩ fC (λy hy=>(hc5.has hy).imp λ_ z=>z.1) fO (λy hy=>(ho7.has hy).imp λ_ z=>z.1) (λy hy=>by
 have hy:y=sA∨y=p1∨y=r1∨y∈bf kb:=by simpa using hy
 rcases hy with h|h|h|h
 ·rw[h];exact s8.free nA
 ·rw[h];exact s8.free np18
 ·rw[h];exact nr1
 ·exact s8.free (sM.free (fk y h))) (λy hy=>by
 have hy:y=sA∨y=p1∨y=r1∨y∈bf kb:=by simpa using hy
 rcases hy with h|h|h|h
 ·have:=hx9.j.o;rw[eX0]at this;exact⟨_,by rw[h];exact this⟩
 ·exact⟨_,by rw[h];exact hp9⟩
 ·exact⟨_,by rw[h];exact s89 _ _ er8⟩
 ·exact hx9.j.inH y (by rw[eX0];simp[sf,h])) (λy hy=>by
 have hy:y=sB∨y=p2∨y=r2∨y∈bf kc:=by simpa using hy
 rcases hy with h|h|h|h
 ·rw[h];exact s9A.free nB
 ·rw[h];exact s9A.free np2A
 ·rw[h];exact nr2
 exact s9A.free (sN.free (fk2 y h)))
obtain⟨X1,eX1⟩:∃X:Sto,X= { X0 with G:=p2::r2::sf X2 }:=⟨_,rfl⟩
obtain⟨X3,eX3⟩:∃X:Sto,X= { X2 with G:=p1::r1::sf X0 }:=⟨_,rfl⟩
have m1:∀y∈X0.s::X0.tm::X0.a.li::p1::r1::sf X0,y∈tm::((ca.li::foot ch ca)++(sA::p1::r1::bf kb)):=λy hy=>by rw[eX0]at hy;simp[sf]at hy ⊢;rcases hy with h|h|h|h|h|h|h<;>simp[h]
have m2:∀y∈X2.s::X2.tm::X2.a.li::p2::r2::sf X2,y∈tm::((cb.li::foot co cb)++(sB::p2::r2::bf kc)):=λy hy=>by rw[eX2]at hy;simp[sf]at hy ⊢;rcases hy with h|h|h|h|h|h|h<;>simp[h]
have g1:∀y∈p2::r2::sf X2,y∈(sB::p2::r2::bf kc)++(cb.li::foot co cb):=λy hy=>by rw[eX2]at hy;simp[sf]at hy ⊢;rcases hy with h|h|h|h<;>simp[h]
have g2:∀y∈p1::r1::sf X0,y∈(ca.li::foot ch ca)++(sA::p1::r1::bf kb):=λy hy=>by rw[eX0]at hy;simp[sf]at hy ⊢;rcases hy with h|h|h|h<;>simp[h]
have D1:∀y∈X0.s::X0.tm::X0.a.li::p1::r1::sf X0,y∉p2::r2::sf X2:=λy hy z=>dA y (m1 y hy) (g1 y z)
have D2:∀y∈X2.s::X2.tm::X2.a.li::p2::r2::sf X2,y∉p1::r1::sf X0:=λy hy z=>dB y (m2 y hy) (g2 y z)
have hA:XX t HB X1 kt 64 (sh:Int) r1 [] p1 ⟨newX (c+1+i) P1,.rk (lwF (jX ns 4)),[]⟩:=by rw[eX1];exact hxB.setG (hxB.gg hyB λy hy=>D1 y (by simp at hy ⊢;rcases hy with h|h|h<;>simp[h]))
have hB:XX t HB X3 (lev kt) 64 (sh:Int) r2 [] p2 ⟨newX (c+1+i) P1,.rk (lwF (jX ns 4)),[]⟩:=by rw[eX3];exact hyB.setG (hyB.gg hxB λy hy=>D2 y (by simp at hy ⊢;rcases hy with h|h|h<;>simp[h]))
refine λkd nkd=>?_
have sK:Same HB (upd HB kd (.dK [])):=Same.upd nkd
have hkd:(upd HB kd (.dK [])) kd=some (.dK []):=qG
generalize upd HB kd (.dK [])=HC at sK hkd ⊢
have kin:∀{x:Sto} {k r p X},XX t HB x k 64 (sh:Int) r [] p X→kd∉x.a.li::fx t x r p:=fun {x k r p X} h z=>by
 rcases kI.mp z with z|z
 ·obtain⟨m,hc',_⟩:=h.chip;obtain⟨o,e,_⟩:=hc'.has (show x.a.li∈x.a.li::foot x.c x.a by simp);rw[←z,nkd]at e;cases e
 obtain⟨o,e⟩:=h.inF kd z;rw[nkd]at e;cases e
have fr:∀{b:Addr},H b=none→H b=none∨∃ps,H b=some (.tbl ps):=λe=>.inl e
have S':S2 t H X1 X3 kt r1 p1 r2 p2 kd:=by
 refine⟨by rw[eX1,eX3];rfl,by rw[eX1,eX3];rfl,by rw[eX1];exact D1,by rw[eX3];exact D2,kin hA,kin hB,fr (s0B.free nkd),λb hb=>?_,λb hb=>?_,.inr ⟨by rw[ekt],by rw[eX1,eX0]⟩,.inl ⟨rfl,by rw[eX3,eX2]⟩,by rw[ekt],by rw[ekt]⟩
 ·rw[eX1,eX0]at hb;have hb:b=p1∨b=r1∨b=t.bI∨b=t.bH∨b∈foot ch ca∨b∈bf kb:=by simpa[sf]using hb
  rcases hb with hb|hb|hb|hb|hb|hb
  ·exact .inl (by rw[hb];exact s08.free np18)
  ·exact .inl (by rw[hb];exact s07.free nr1)
  ·exact .inr ⟨_,by rw[hb];exact hTB⟩
  ·exact .inr ⟨_,by rw[hb];exact hT⟩
  ·exact .inl (s02.free (fC b (hU _ hb)))
  exact .inl (s08.free (sM.free (fk b hb)))
 rw[eX3,eX2]at hb;have hb:b=p2∨b=r2∨b=t.bI∨b=t.bH∨b∈foot co cb∨b∈bf kc:=by simpa[sf]using hb
 rcases hb with hb|hb|hb|hb|hb|hb
 ·exact .inl (by rw[hb];exact s0A.free np2A)
 ·exact .inl (by rw[hb];exact s09.free nr2)
 ·exact .inr ⟨_,by rw[hb];exact hTB⟩
 ·exact .inr ⟨_,by rw[hb];exact hT⟩
 ·exact .inl ((s02.trans s25).free (fO b (hU _ hb)))
 exact .inl (s0A.free (sN.free (fk2 b hb)))
have j0:J2 t H HC X1 X3 kt sh r1 p1 r2 p2 kd ⟨newX (c+1+i) P1,.rk (lwF (jX ns 4)),[]⟩ [] 0:=by
 refine⟨hA.same sK,hB.same sK,⟨⟨ix0,Wt.of ge0,trivial,List.nodup_nil,λy hy=>absurd hy (by simp),λn _=>?_,λy hy=>absurd hy (by simp),mU _,?_,by lia,by lia⟩,rfl,λq hq=>(by cases hq),mU _,mU _⟩,hkd,λb o _ e=>sK _ _ (s0B b o e)⟩
 ·show(∃p,(n,p)∈([]:Mp))↔_;simp
 show sh+2≤(c+1+i-(1+kt.ie))*P1;rw[ekt];show sh+2≤(c+1+i-(1+i))*P1;rw[show c+1+i-(1+i)=c by lia];exact hs2
have eC1:X1.C=t.C_Store:=by rw[eX1,eX0]
have eC2:X3.C=t.C_Even:=by rw[eX3,eX2]
rw[show sA=X1.s by rw[eX1,eX0],show sB=X3.s by rw[eX3,eX2],show ch=X1.c by rw[eX1,eX0],show co=X3.c by rw[eX3,eX2]]
clear hA hB kin D1 D2 m1 m2 g1 g2 dA dB hxB hyB hx9 eX1 eX3 eX0 eX2 of1 of2 st9 stB off1 off2 up up2 fk fk2 sM sN hpB hp9 np1 np2 np18 np2A s0B s9B sAB s0A s9A sRA s09 s79 s89 s08 s8 s07 ho9 ho7 hc7 hc5 htm7 htm9 htm fC fO s25 s57 s2 s02 tb8 tbA hR8 hRA er8 erA sK
generalize (⟨newX (c+1+i) P1,.rk (lwF (jX ns 4)),[]⟩:Sx)=x0 at j0
obtain⟨F,eF⟩:∃F:Option V→Option V→Option V→Option V→Option V→St,F=λy11 y12 y13 y14 y15=>[some (.ref a),some (.int ((c+1+i:Nat):Int)),some (.int (P1:Int)),some (.int (sh:Int)),some (.int (i:Int)),some (.ref tm),some (.ref X1.c),some (.ref X3.c),some (.ref X1.s),some (.ref X3.s),some (.ref kd),y11,y12,y13,y14,y15]:=⟨_,rfl⟩
refine⟨_,rfl,a,_,rfl,.inl (j0.re.sq hS),_,_,rfl,?_⟩
obtain⟨hi,eh,h30,hln⟩:∃h:Nat,(if(30:Int)<((ns.map V.int).length:Nat)then(30:Int)else((ns.map V.int).length:Nat))=(h:Int)∧h≤30∧h≤ns.length:=by
 rw[kB];by_cases z:(30:Int)<(ns.length:Nat)
 ·exact⟨30,kJ z,by lia,by lia⟩
 exact⟨ns.length,kF z,by lia,by lia⟩
rw[eh]
refine⟨_,_,rfl,⟨by decide,by decide,by lia,by lia⟩,?_⟩
refine qAT (λu σ' H'=>∃y11 y12 y13 Y KD,σ'=F y11 y12 y13 none none∧J2 t H H' X1 X3 kt sh r1 p1 r2 p2 kd Y KD u) ⟨_,none,none,_,[],by rw[eF];rfl,j0⟩ (λu σ' H3 D' nxt hu' hp=>?_) (λσ' H3 hp=>?_)
·obtain⟨y11,y12,y13,Y,KD,eσ,j⟩:=hp;rw[eF]at eσ;subst eσ;have hi6:6+u<ns.length:=by lia
 have at1:atI (ns.map V.int) (6+(u:Int))=some (.int ns[6+u]):=by refine(show atI (ns.map V.int) ((6+u:Nat):Int)=_ from v8 ?_);rw[mB,kC hi6];rfl
 generalize ns[6+u]=z at at1;refine⟨_,rfl,_,rfl,a,_,_,.int z,rfl,rfl,j.re.sq hS,at1,?_⟩;have rcn:=j.l.rcn;have psn:=j.l.psn;have ls:=j.l.d.ls;refine⟨_,rfl,_,rfl,iI (iI ⟨.inr ⟨by decide,by decide⟩,iI ⟨(by show(0:Int)<1000003;decide),_,rfl,_,rfl,kd,dB KD,KD.map (·.1),_,64,sh,rfl,by decide,j.hk,by unfold dB;rw[wM,wM];rfl,λn hn=>?_,by rw[kB];lia,hs1,λy H4 s4 y0 y1 y2=>?_⟩⟩)⟩
 ·obtain⟨q,hq,e⟩:=kZ.mp hn;rw[←e];exact j.l.d.kb q hq
 rw[kB]at y2;have j4:=j.same s4;have o1:=j4.a.j.o;have o2:=j4.b.j.o;rw[eC1]at o1;rw[eC2]at o2;refine⟨_,rfl,iI ⟨(by show(0:Int)<8;decide),rfl,_,rfl,ite2 (λ_=>?_) (λ_=>?_)⟩⟩
 ·refine⟨_,rfl,X1.s,X1.sd,_,rfl,o1,rfl,_,rfl,sz1,λl0 H5 n5 s5 h5=>?_⟩;refine⟨X1,kt,64,_,r1,[],p1,Y,l0,[y],rfl,j4.a.same s5,S'.v1,h5,λm hm=>by rw[h9.mp hm];exact inBi y0 (by lia),λe H6 s6=>?_,λe=>?_⟩
  ·have s46:=s5.trans s6;refine⟨_,rfl,X3.s,X3.sd,_,rfl,s46 _ _ o2,rfl,_,rfl,sz1,λl1 H7 n7 s7 h7=>?_⟩;have j7:=j4.same (s46.trans s7);refine⟨X3,lev kt,64,_,r2,[],p2,Y,l1,[y],rfl,j7.b,S'.v2,h7,λm hm=>by rw[h9.mp hm];exact inBi y0 (by lia),λ_ H8 s8=>?_,λe'=>absurd e e'⟩;refine⟨rfl,_,rfl,q56 ?_⟩;have j8:=j7.same s8;have z':y∉KD.map (·.1):=λw=>q3T.2.mp e (j.l.d.hl.mpr w);refine⟨_,rfl,kd,rfl,.inl ⟨_,.inl j8.hk⟩,_,rfl,_,Sum.inl y,j8.hk,rfl,λv ev=>?_,λ_=>?_⟩
   ·have:=q62 (KD:=KD) (n:=y);rw[ev,hX z']at this;cases this
   exact nxt _ _ ⟨_,_,_,Y,KD,by rw[eF];rfl,j8.up⟩
  have z':y∈KD.map (·.1):=dU λw=>e (q3T.2.mpr λv=>w (j.l.d.hl.mp v));have ne:KD≠[]:=λw=>by rw[w]at z';cases z'
  have hc:=j.l.d.can64 ne;obtain⟨W,p,a1,a2,lw⟩:=j.l.give (v:=XS.bits (rst Y.s.hl (gvn Y.s.hl [y]))) S'.ev S'.sp (by lia) ne (g:=gvn Y.s.hl [y]) (λm hm=>by rw[((q3T.1 m).mp hm).1];lia);have yl:y∈Y.s.hl:=j.l.d.hl.mpr z';have eD:(KD.filter λq=>!decide (q.1∈gvn Y.s.hl [y]))=jB KD y:=by
   unfold jB;refine wZ λq _=>?_;by_cases e:q.1=y
   ·rw[hG ((q3T.1 q.1).mpr ⟨e,yl⟩),hX (λw=>w e)];rfl
   rw[hX (λw=>e ((q3T.1 q.1).mp w).1),hG e];rfl
  rw[eD]at lw;refine⟨17,_,by lia,by lia,hc.imp id λw=>w.1,a1,λH6 h6 k6=>?_⟩;have j5:=j4.same s5;have b6:=j5.one S' h6 k6;have o6:=b6.j.o;rw[eC2]at o6;refine⟨_,rfl,X3.s,X3.sd,_,rfl,o6,rfl,_,rfl,sz1,λl1 H7 n7 s7 h7=>?_⟩;refine⟨X3,lev kt,64,_,r2,[],p2,Y,l1,[y],rfl,b6.same s7,S'.v2,h7,λm hm=>by rw[h9.mp hm];exact inBi y0 (by lia),λe'=>absurd e' e,λ_=>⟨17,_,by lia,by lia,hc.imp id λw=>w.1,a2,λH8 h8 k8=>?_⟩⟩;refine⟨rfl,_,rfl,q56 ?_⟩;have k78:=(Keep.same s7).trans k8;have hk8:=j5.hk2 S' k6 k78;refine⟨_,rfl,kd,rfl,.inl ⟨_,.inl hk8⟩,_,rfl,_,Sum.inl y,hk8,rfl,λv ev=>?_,λhn=>?_⟩
  ·rw[qF2];exact nxt _ _ ⟨_,_,_,_,_,by rw[eF];rfl,j5.two S' h6 k6 h8 k78 lw⟩
  have:=q62 (KD:=KD) (n:=y);rw[hn,hG z']at this;cases this
 have mv:=q2V z (10 ^ (30:Int).toNat) (by decide);have mv2:z%10 ^ (30:Int).toNat≤10 ^ 30-1:=by have:_ <(10:Int) ^ 30:=mv.2;lia
 have hc:=j.l.d.can y0 y1 y2;have ff:¬(hold Y.s.q y=false∧(sh:Int)≤((hdN Y.s.q.V).length:Int)):=λ⟨f1,f2⟩=>by
  have ehd:hold Y.s.q y=decide (y∈KD.map (·.1)):=by unfold W1.hold;exact decide_eq_decide.mpr j.l.d.pm.mem_iff
  rw[ehd]at f1;have f1:=dC f1;have pl:=j.l.d.pm.length_eq;rw[kB]at pl;have f2:(sh:Int)≤((((Y.s.q.V.map (·.1)).filter λn=>decide (n≠64)).length:Nat):Int):=f2;rcases y2 with w|w
  ·exact f1 w
  lia
 obtain⟨W,p,a1,a2,lw⟩:=j.l.ask (v:=z%10 ^ (30:Int).toNat) S'.ev S'.sp (by lia) y0 y1 y2;refine⟨_,rfl,X1.s,X1.sd,_,rfl,o1,rfl,_,rfl,_,rfl,iI ⟨⟨by decide,by decide,by decide⟩,iI ⟨(by show(0:Int)<10 ^ (30:Int).toNat;decide),?_⟩⟩⟩;dsimp only[tNil,wF,g7];refine⟨X1,kt,64,_,r1,[],p1,Y,y,_,17,_,rfl,j4.a,S'.v1,by lia,by lia,by decide,inBi y0 (by lia),inBi mv.1 mv2,ff,hc.imp id λw=>w.1,a1,λH5 h5 k5=>?_⟩;have b5:=j4.one S' h5 k5;have o5:=b5.j.o;rw[eC2]at o5;refine⟨_,rfl,X3.s,X3.sd,_,rfl,o5,rfl,_,rfl,_,rfl,iI ⟨⟨by decide,by decide,by decide⟩,iI ⟨(by show(0:Int)<10 ^ (30:Int).toNat;decide),?_⟩⟩⟩;dsimp only[tNil,wF,g7];refine⟨X3,lev kt,64,_,r2,[],p2,Y,y,_,17,_,rfl,b5,S'.v2,by lia,by lia,by decide,inBi y0 (by lia),inBi mv.1 mv2,ff,hc.imp id λw=>w.1,a2,λH6 h6 k6=>?_⟩;refine⟨rfl,_,rfl,q56 ?_⟩;have hk6:=j4.hk2 S' k5 k6;refine⟨_,rfl,_,rfl,kd,_,rfl,.inl ⟨_,Sum.inl y,hk6,rfl,by rw[qJI];lia,rfl⟩,?_⟩;rw[qGW (p:=z%10 ^ (30:Int).toNat)];exact nxt _ _ ⟨_,_,_,_,_,by rw[eF];rfl,j4.two S' h5 k5 h6 k6 lw⟩
obtain⟨y11,y12,y13,Y,KD,eσ,j⟩:=hp
rw[eF]at eσ
subst eσ
obtain⟨m1,hc1,_,_,erc1,_⟩:=j.a.chip
refine(iV rfl (iM hc1.ins rfl ⟨X1.c,X1.a,m1,rfl,hc1,λds1 er1 prd1 d1 H4 n4 s4 h4=>?_⟩))
have j4:=j.same s4
obtain⟨m2,hc2,_,_,erc2,_⟩:=j4.b.chip
refine(iV rfl (iM hc2.ins rfl ⟨X3.c,X3.a,m2,rfl,hc2,λds2 er2 prd2 d2 H5 n5 s5 h5=>?_⟩))
have j5:=j4.same s5
refine⟨qFX (s5 _ _ h4) h5 (qBZ (ds:=Y.s.rc) (by rw[←erc1];exact prd1) (λe=>s5 _ _ (s4 _ _ e))) (qBZ (ds:=Y.s.rc) (by rw[←erc2];exact prd2) (λe=>s5 _ _ e)),_,rfl,iteF ?_⟩
have o1:=j5.a.j.o
rw[eC1,j5.a.ep]at o1
have o2:=j5.b.j.o
rw[eC2,j5.b.ep]at o2
obtain⟨ps1,hp1,pr1⟩:=j5.a.hp
obtain⟨ps2,hp2,pr2⟩:=j5.b.hp
have lp1:=pr1.len
have lp2:=pr2.len
refine(iV rfl (iF o1 T.bJ T.eU rfl ⟨p1,_,rfl,.inl (SqL.of hp1),iV rfl (iF o2 T.bK T.fB rfl ⟨p2,_,rfl,.inl (SqL.of hp2),rfl,_,rfl,?_⟩)⟩))
rw[lp1,lp2]
refine q56 ?_
refine(iV rfl (iF o1 T.bJ T.eU rfl (iV rfl (iF o2 T.bK T.fB rfl ⟨p1,p2,rfl,⟨_,SqL.of hp1⟩,⟨_,SqL.of hp2⟩,?_⟩))))
refine qFY (K:=K) (xs:=ps1) (ys:=ps2) (λu σ' H'=>∃y14 y15,σ'=F y11 y12 y13 y14 y15∧Same H5 H') ⟨_,_,by rw[eF],Same.refl H5⟩ (λu σ' H' hp=>by obtain⟨_,_,_,sm⟩:=hp;exact⟨SqL.of (sm _ _ hp1),SqL.of (sm _ _ hp2)⟩) (lp1.trans lp2.symm) (λu σ' H' x y Z hx hy hp nZ=>?_) (λσ' H' hp=>?_)
·obtain⟨y14,y15,eσ,sm⟩:=hp;rw[eF]at eσ;subst eσ;have sZ:Same H' (upd H' Z (.tup [x,y])):=Same.upd nZ;obtain⟨q,hq,pa⟩:=Paired.at pr1 hx;obtain⟨q',hq',pb⟩:=Paired.at pr2 hy;obtain rfl:=kM (hq.symm.trans hq');have s5':=sm.trans sZ;refine⟨Z,[x,y],rfl,SqT.of qG,rfl,x,[y],rfl,y,[],rfl,rfl,?_⟩;refine⟨_,rfl,_,rfl,qFF (pa.keep (Keep.same (F:=[]) s5') (by simp)) (pb.keep (Keep.same (F:=[]) s5') (by simp)),_,rfl,iteF ⟨_,_,by rw[eF];rfl,s5'⟩⟩
obtain⟨y14,y15,eσ,sm⟩:=hp
rw[eF]at eσ
subst eσ
have j6:=j5.same sm
have o6:=j6.b.j.o
rw[eC2]at o6
refine⟨_,rfl,X3.s,X3.sd,_,rfl,o6,rfl,X3,lev kt,64,_,r2,[],p2,Y,rfl,j6.b,eC2,j6.l.wy,λD H7 nD s7 h7=>?_⟩
refine⟨sz0,λe0 H8 n8 s8 h8=>⟨D,_,e0,rfl,rfl,SqL.of (s8 _ _ h7),SqL.of h8,?_⟩⟩
exact k _)
theorem qJT{P:Program}{w:World}{K:W.Frag}{mg:Str→Option Value}{t:Adr}(T:Txt K mg t)(S:Fns K t)(B:BmIn base mg):S.law.Ok0 P w mg base 18 (q43 K [t.bH,t.bI]):=Classical.byContradiction λn=>by
 have hs:hkB hkE:=by unfold hkE;exact Classical.epsilon_spec ⟨⟨P,w,K,mg,t⟩,S,base,T,B,n⟩
 obtain⟨S',b',T',B1,n'⟩:=hs;exact n' (qJS T' S' B1)
end
theorem qJU{l:W.OpenLaw}{w:World}{K:W.Frag}{h:Heap}{mg:Str→Option Value}{fa z0 z1 z2 z3 z4 z5 z6 z7 z8 z9 z10 z11 z12 z13 z14 z15 z16 z17 z18 z19 z20 z21 z22 z23 z24 z25 z26 z27 z28 z29 z30 z31 z32 z33 z34 z35 z36 z37 z38 z39 z40 z41 z42 z43 z44 z45 z46 z47 z48 z49 z50 z51 z52 z53 z54 z55 z56 z57 z58 z59 z60 z61 z62 z63 z64 z65 z66 z67 z68 z69 z70 z71 z72 z73 z74 z75 z76 z77 z78 z79 z80 z81 z82 z83 z84 z85 z86 z87 z88 z89 z90 z91 z92 z93 z94 z95 z96:Addr}(X:K.In h)(G:h.Ns mainGlobals mg)(hfa:mg "law"=some (.ref fa))
 {z97 z98 z109 z110 z121 z122 z133 z134:Option Addr} {z99 z111 z123 z135:Array (Option Value)} {z100 z101 z102 z103 z105 z112 z113 z114 z115 z117 z124 z125 z126 z127 z128 z129 z136 z137 z138 z139 z140 z141:Value} {z130:Option Addr} {z131:Nat} {z132:Array (Option Value)} {e0_Chip_init:Tok} {z142:Option Addr} {z143:Nat} {z144:Array (Option Value)} {e0_Terms_init:Tok} {e1_Terms_init:Tok} {iY:Tok} {aCL:Tok} {aBG:Tok}
 (z145:W.nsIn K mainGlobals "Book"=some (some (.ref z83)))
 (z146:Cls K z83)
 (z147:qM K z83 "blocks")
 (z148:qM K z83 "pages")
 (z149:qM K z83 "stamp")
 (z150:qM K z83 "where")
 (z151:qM K z83 "live")
 (z152:qM K z83 "filled")
 (z153:qM K z83 "born")
 (z154:Meth K z83 "mark" z11)
 (z155:Meth K z83 "note" z12)
 (z156:Meth K z83 "forget" z13)
 (z157:Meth K z83 "emptied" z14)
 (z158:Meth K z83 "live_pages" z15)
 (z159:Meth K z83 "held" z16)
 (z160:Mk K z83 z10)
 (z161:W.nsIn K mainGlobals "Plain"=some (some (.ref z84)))
 (z162:W.nsIn K mainGlobals "Store"=some (some (.ref z85)))
 (z163:Cls K z85)
 (z164:qM K z85 "chip")
 (z165:qM K z85 "terms")
 (z166:qM K z85 "book")
 (z167:qM K z85 "rule")
 (z168:qM K z85 "papers")
 (z169:Meth K z85 "reserve" z32)
 (z170:Meth K z85 "tally" z33)
 (z171:Meth K z85 "space" z34)
 (z172:Meth K z85 "full_ones" z35)
 (z173:Meth K z85 "with_dead_page" z36)
 (z174:Meth K z85 "options" z37)
 (z175:Meth K z85 "choice" z38)
 (z176:Meth K z85 "choice_by_rule" z39)
 (z177:Meth K z85 "moved" z40)
 (z178:Meth K z85 "value_to_move" z41)
 (z179:Meth K z85 "wiped" z42)
 (z180:Meth K z85 "clear_out" z43)
 (z181:Meth K z85 "make_room" z44)
 (z182:Meth K z85 "make_ready" z45)
 (z183:Meth K z85 "make_rooms" z46)
 (z184:Meth K z85 "good" z18)
 (z185:Meth K z85 "free" z19)
 (z186:Meth K z85 "part" z20)
 (z187:Meth K z85 "spot" z21)
 (z188:Meth K z85 "ready" z22)
 (z189:Meth K z85 "set_down" z23)
 (z190:Meth K z85 "lay" z24)
 (z191:Meth K z85 "write" z25)
 (z192:Meth K z85 "give_up" z26)
 (z193:Meth K z85 "held" z27)
 (z194:Meth K z85 "check_sheet" z28)
 (z195:Meth K z85 "check_share" z29)
 (z196:Mk K z85 z31)
 (z197:W.nsIn K mainGlobals "Even"=some (some (.ref z86)))
 (z198:Cls K z86)
 (z199:qM K z86 "chip")
 (z200:qM K z86 "terms")
 (z201:qM K z86 "book")
 (z202:qM K z86 "rule")
 (z203:qM K z86 "papers")
 (z204:Meth K z86 "least" z47)
 (z205:Meth K z86 "clearable" z48)
 (z206:Meth K z86 "options" z49)
 (z207:Meth K z86 "choice" z50)
 (z208:Meth K z86 "block_to_change" z51)
 (z209:Meth K z86 "changes" z52)
 (z210:Meth K z86 "takers" z53)
 (z211:Meth K z86 "reserve" z32)
 (z212:Meth K z86 "tally" z33)
 (z213:Meth K z86 "space" z34)
 (z214:Meth K z86 "full_ones" z35)
 (z215:Meth K z86 "with_dead_page" z36)
 (z216:Meth K z86 "choice_by_rule" z39)
 (z217:Meth K z86 "moved" z40)
 (z218:Meth K z86 "value_to_move" z41)
 (z219:Meth K z86 "wiped" z42)
 (z220:Meth K z86 "clear_out" z43)
 (z221:Meth K z86 "make_room" z44)
 (z222:Meth K z86 "make_ready" z45)
 (z223:Meth K z86 "make_rooms" z46)
 (z224:Meth K z86 "good" z18)
 (z225:Meth K z86 "free" z19)
 (z226:Meth K z86 "part" z20)
 (z227:Meth K z86 "spot" z21)
 (z228:Meth K z86 "ready" z22)
 (z229:Meth K z86 "set_down" z23)
 (z230:Meth K z86 "lay" z24)
 (z231:Meth K z86 "write" z25)
 (z232:Meth K z86 "give_up" z26)
 (z233:Meth K z86 "held" z27)
 (z234:Meth K z86 "check_sheet" z28)
 (z235:Meth K z86 "check_share" z29)
 (z236:Mk K z86 z31)
 (z237:W.nsIn K mainGlobals "Chip"=some (some (.ref z87)))
 (z238:Cls K z87)
 (z239:qM K z87 "blocks")
 (z240:qM K z87 "pages")
 (z241:qM K z87 "most")
 (z242:qM K z87 "limits")
 (z243:qM K z87 "borne")
 (z244:qM K z87 "clearings")
 (z245:qM K z87 "deed_counts")
 (z246:qM K z87 "broken")
 (z247:qM K z87 "deeds_left")
 (z248:qM K z87 "record")
 (z249:Meth K z87 "put" z56)
 (z250:Meth K z87 "wipe" z57)
 (z251:Meth K z87 "read" z58)
 (z252:Meth K z87 "is_dark" z59)
 (z253:Meth K z87 "cleared" z60)
 (z254:Meth K z87 "failed" z61)
 (z255:Meth K z87 "deeds" z62)
 (z256:Meth K z87 "check_page" z63)
 (z257:Meth K z87 "check_block" z64)
 (z258:Meth K z87 "check_power" z65)
 (z259:Meth K z87 "check_deed" z66)
 (z260:Meth K z87 "is_spent" z67)
 (z261:Meth K z87 "do_deed" z68)
 (z262:Mk K z87 z55)
 (z263:W.nsIn K mainGlobals "Rule"=some (some (.ref z88)))
 (z264:Cls K z88)
 (z265:Meth K z88 "goes_ahead" z71)
 (z266:Meth K z88 "choose" z72)
 (z267:W.makesIn K z88=true)
 (z268:W.findIn K (.ref z88) "__init__"=some (some (.builtin "object.__init__")))
 (z269:W.keepIn K (.ref z88)=true)
 (z270:W.nsIn K mainGlobals "Fewest"=some (some (.ref z89)))
 (z271:Cls K z89)
 (z272:Meth K z89 "goes_ahead" z73)
 (z273:Meth K z89 "choose" z72)
 (z274:W.makesIn K z89=true)
 (z275:W.findIn K (.ref z89) "__init__"=some (some (.builtin "object.__init__")))
 (z276:W.keepIn K (.ref z89)=true)
 (z277:W.nsIn K mainGlobals "Eldest"=some (some (.ref z90)))
 (z278:Cls K z90)
 (z279:Meth K z90 "goes_ahead" z74)
 (z280:Meth K z90 "choose" z72)
 (z281:W.makesIn K z90=true)
 (z282:W.findIn K (.ref z90) "__init__"=some (some (.builtin "object.__init__")))
 (z283:W.keepIn K (.ref z90)=true)
 (z284:W.nsIn K mainGlobals "Worth"=some (some (.ref z91)))
 (z285:Cls K z91)
 (z286:Meth K z91 "goes_ahead" z75)
 (z287:Meth K z91 "choose" z72)
 (z288:W.makesIn K z91=true)
 (z289:W.findIn K (.ref z91) "__init__"=some (some (.builtin "object.__init__")))
 (z290:W.keepIn K (.ref z91)=true)
 (z291:W.nsIn K mainGlobals "Terms"=some (some (.ref z92)))
 (z292:Cls K z92)
 (z293:qM K z92 "blocks")
 (z294:qM K z92 "pages")
 (z295:qM K z92 "sheets")
 (z296:qM K z92 "share")
 (z297:qM K z92 "ill")
 (z298:qM K z92 "spread")
 (z299:Meth K z92 "closed" z77)
 (z300:Mk K z92 z76)
 (z301:W.nsIn K mainGlobals "PowerGone"=some (some (.ref z93)))
 (z302:W.excIn K z93 bmVE "ValueError.__new__"=true)
 (z303:W.nsIn K mainGlobals "NoRoom"=some (some (.ref z94)))
 (z304:W.excIn K z94 bmVE "ValueError.__new__"=true)
 (z305:ClM K z84 "__init__" z17)
 (z306:W.kitOne K (.ref z85) (.ref z86)=some false)
 (z307:W.kitOne K (.ref z86) (.ref z85)=some true)
 (z308:W.codeHdIn K z0 z1=true)
 (z309:W.codeHdIn K z2 z3=true)
 (z310:z1≠z3)
 (z311:GFn K "is_whole" z4)
 (z312:GFn K "is_within" z5)
 (z313:GFn K "is_shape" z6)
 (z314:GFn K "is_value" z7)
 (z315:GFn K "mark_of" z8)
 (z316:GFn K "bits_of" z9)
 (z317:GFn K "paper_of" z30)
 (z318:GFn K "limits_of" z54)
 (z319:GFn K "is_unbeaten" z69)
 (z320:GFn K "first_unbeaten" z70)
 (z321:GFn K "_law_cell_at" z78)
 (z322:GFn K "_law_shape" z79)
 (z323:GFn K "_law_sheet" z80)
 (z324:GFn K "_law_rule" z81)
 (z325:W.nsIn K mainGlobals "MOST_TOLD"=some (some (.int 1000000 iY)))
 (z326:W.nsIn K mainGlobals "ROLL"=some (some (.int 64 aCL)))
 (z327:W.nsIn K mainGlobals "NAMES"=some (some (.int 128 aBG)))
 (z328:W.nsIn K mainGlobals "bool"=some none)
 (z329:W.nsIn K mainGlobals "int"=some none)
 (z330:W.nsIn K mainGlobals "isinstance"=some none)
 (z331:W.nsIn K mainGlobals "len"=some none)
 (z332:W.nsIn K mainGlobals "list"=some none)
 (z333:W.nsIn K mainGlobals "min"=some none)
 (z334:W.nsIn K mainGlobals "range"=some none)
 (z335:W.nsIn K mainGlobals "sorted"=some none)
 (z336:W.nsIn K mainGlobals "zip"=some none)
 (z337:FnX K "is_whole" "is_whole" q2X z4)
 (z338:FnX K "is_within" "is_within" q1I z5)
 (z339:FnX K "is_shape" "is_shape" q2Y z6)
 (z340:FnX K "is_value" "is_value" q2Z z7)
 (z341:FnX K "mark_of" "mark_of" q45 z8)
 (z342:FnX K "bits_of" "bits_of" q46 z9)
 (z343:FnX K "__init__" "Book.__init__" q1J z10)
 (z344:FnX K "mark" "Book.mark" q1K z11)
 (z345:FnX K "note" "Book.note" q1L z12)
 (z346:FnX K "forget" "Book.forget" zN z13)
 (z347:FnX K "emptied" "Book.emptied" vU z14)
 (z348:FnX K "live_pages" "Book.live_pages" uO z15)
 (z349:FnX K "held" "Book.held" q1M z16)
 (z350:FnX K "__init__" "Plain.__init__" q0S z17)
 (z351:FnX K "good" "Plain.good" q0T z18)
 (z352:K.lookup z19=some ⟨z100,z97,.func (W.fnOf "free" "Plain.free" (y9 jN) (jM jN) (qE jN) .none z101 z102 z103 z98 (.ref z0) z105),z99⟩)
 (z353:W.codeIn K (.ref z0) "Plain.free"=true)
 (z354:FnX K "part" "Plain.part" q0U z20)
 (z355:FnX K "spot" "Plain.spot" q0V z21)
 (z356:FnX K "ready" "Plain.ready" zO z22)
 (z357:FnX K "set_down" "Plain.set_down" v4 z23)
 (z358:FnX K "lay" "Plain.lay" q1N z24)
 (z359:FnX K "write" "Plain.write" zP z25)
 (z360:FnX K "give_up" "Plain.give_up" vG z26)
 (z361:FnX K "held" "Plain.held" q0W z27)
 (z362:FnX K "check_sheet" "Plain.check_sheet" yQ z28)
 (z363:FnX K "check_share" "Plain.check_share" yR z29)
 (z364:FnX K "paper_of" "paper_of" q30 z30)
 (z365:FnX K "__init__" "Store.__init__" q0X z31)
 (z366:FnX K "reserve" "Store.reserve" vH z32)
 (z367:FnX K "tally" "Store.tally" zQ z33)
 (z368:FnX K "space" "Store.space" zR z34)
 (z369:FnX K "full_ones" "Store.full_ones" uP z35)
 (z370:FnX K "with_dead_page" "Store.with_dead_page" yE z36)
 (z371:FnX K "options" "Store.options" vI z37)
 (z372:FnX K "choice" "Store.choice" vV z38)
 (z373:FnX K "choice_by_rule" "Store.choice_by_rule" yF z39)
 (z374:FnX K "moved" "Store.moved" zS z40)
 (z375:FnX K "value_to_move" "Store.value_to_move" yL z41)
 (z376:FnX K "wiped" "Store.wiped" zT z42)
 (z377:FnX K "clear_out" "Store.clear_out" uQ z43)
 (z378:FnX K "make_room" "Store.make_room" uR z44)
 (z379:FnX K "make_ready" "Store.make_ready" u6 z45)
 (z380:FnX K "make_rooms" "Store.make_rooms" u7 z46)
 (z381:FnX K "least" "Even.least" q0Y z47)
 (z382:FnX K "clearable" "Even.clearable" v5 z48)
 (z383:FnX K "options" "Even.options" vW z49)
 (z384:FnX K "choice" "Even.choice" zU z50)
 (z385:K.lookup z51=some ⟨z112,z109,.func (W.fnOf "block_to_change" "Even.block_to_change" (y9 qR) (jM qR) (qE qR) .none z113 z114 z115 z110 (.ref z2) z117),z111⟩)
 (z386:W.codeIn K (.ref z2) "Even.block_to_change"=true)
 (z387:FnX K "changes" "Even.changes" vX z52)
 (z388:FnX K "takers" "Even.takers" zV z53)
 (z389:FnX K "limits_of" "limits_of" q1O z54)
 (z390:K.lookup z55=some ⟨z124,z121,.func (W.fnOf "__init__" "Chip.__init__" (y9 uC) (jM uC) (qE uC) (.ref z95) z125 z126 z127 z122 z128 z129),z123⟩)
 (z391:W.codeIn K z128 "Chip.__init__"=true)
 (z392:K.lookup z95=some ⟨.type "tuple",z130,.seq #[.int 1000000 e0_Chip_init,.none] z131,z132⟩)
 (z393:FnX K "put" "Chip.put" q31 z56)
 (z394:FnX K "wipe" "Chip.wipe" q1P z57)
 (z395:FnX K "read" "Chip.read" q1Q z58)
 (z396:FnX K "is_dark" "Chip.is_dark" vY z59)
 (z397:FnX K "cleared" "Chip.cleared" vZ z60)
 (z398:FnX K "failed" "Chip.failed" zW z61)
 (z399:FnX K "deeds" "Chip.deeds" q0Z z62)
 (z400:FnX K "check_page" "Chip.check_page" uS z63)
 (z401:FnX K "check_block" "Chip.check_block" u8 z64)
 (z402:FnX K "check_power" "Chip.check_power" u9 z65)
 (z403:FnX K "check_deed" "Chip.check_deed" uT z66)
 (z404:FnX K "is_spent" "Chip.is_spent" vJ z67)
 (z405:FnX K "do_deed" "Chip.do_deed" zA z68)
 (z406:FnX K "is_unbeaten" "is_unbeaten" zX z69)
 (z407:FnX K "first_unbeaten" "first_unbeaten" v6 z70)
 (z408:FnX K "goes_ahead" "Rule.goes_ahead" uU z71)
 (z409:FnX K "choose" "Rule.choose" zY z72)
 (z410:FnX K "goes_ahead" "Fewest.goes_ahead" yS z73)
 (z411:FnX K "goes_ahead" "Eldest.goes_ahead" yT z74)
 (z412:FnX K "goes_ahead" "Worth.goes_ahead" uA z75)
 (z413:K.lookup z76=some ⟨z136,z133,.func (W.fnOf "__init__" "Terms.__init__" (y9 yP) (jM yP) (qE yP) (.ref z96) z137 z138 z139 z134 z140 z141),z135⟩)
 (z414:W.codeIn K z140 "Terms.__init__"=true)
 (z415:K.lookup z96=some ⟨.type "tuple",z142,.seq #[.int 0 e0_Terms_init,.int 1000000 e1_Terms_init] z143,z144⟩)
 (z416:FnX K "closed" "Terms.closed" zB z77)
 (z417:FnX K "_law_cell_at" "_law_cell_at" zZ z78)
 (z418:FnX K "_law_shape" "_law_shape" q1R z79)
 (z419:FnX K "_law_sheet" "_law_sheet" q1S z80)
 (z420:FnX K "_law_rule" "_law_rule" q32 z81)
 (z421:W.nsIn K mainGlobals "law"=some (some (.ref z82)))
 (z422:FnX K "law" "law" qF5 z82):
 ∃fd:FuncData,(∀(s:Shared) (v:Value),BindsTo s fd ⟨[v],[]⟩ [("_law_script",v)])∧∀base:Heap,K.In base→base.Ns mainGlobals mg→BmIn base mg→FnOk l.prog w K mg base (CX0) 18 fa fd ["_law_script"] (q43 K [z1,z3]):=by(
have e:=hfa.symm.trans (gY X G z421)
cases e
let t:Adr:=⟨z4,z5,z6,z7,z8,z9,z10,z11,z12,z13,z14,z15,z16,z17,z18,z19,z20,z21,z22,z23,z24,z25,z26,z27,z28,z29,z30,z31,z32,z33,z34,z35,z36,z37,z38,z39,z40,z41,z42,z43,z44,z45,z46,z47,z48,z49,z50,z51,z52,z53,z54,z55,z56,z57,z58,z59,z60,z61,z62,z63,z64,z65,z66,z67,z68,z69,z70,z71,z72,z73,z74,z75,z76,z77,z78,z79,z80,z81,fa,z83,z84,z85,z86,z87,z88,z89,z90,z91,z92,z93,z94,iY,aCL,aBG,z0,z1,z2,z3⟩
have T:Txt K mg t:=⟨gY X G z145,z146,z147,z148,z149,z150,z151,z152,z153,z154,z155,z156,z157,z158,z159,z160,gY X G z161,gY X G z162,z163,z164,z165,z166,z167,z168,z169,z170,z171,z172,z173,z174,z175,z176,z177,z178,z179,z180,z181,z182,z183,z184,z185,z186,z187,z188,z189,z190,z191,z192,z193,z194,z195,z196,gY X G z197,z198,z199,z200,z201,z202,z203,z204,z205,z206,z207,z208,z209,z210,z211,z212,z213,z214,z215,z216,z217,z218,z219,z220,z221,z222,z223,z224,z225,z226,z227,z228,z229,z230,z231,z232,z233,z234,z235,z236,gY X G z237,z238,z239,z240,z241,z242,z243,z244,z245,z246,z247,z248,z249,z250,z251,z252,z253,z254,z255,z256,z257,z258,z259,z260,z261,z262,gY X G z263,z264,z265,z266,⟨z267,z268,z269⟩,gY X G z270,z271,z272,z273,⟨z274,z275,z276⟩,gY X G z277,z278,z279,z280,⟨z281,z282,z283⟩,gY X G z284,z285,z286,z287,⟨z288,z289,z290⟩,gY X G z291,z292,z293,z294,z295,z296,z297,z298,z299,z300,gY X G z301,z302,gY X G z303,z304,z305,z306,z307,z308,z309,z310,gY X G z311.1,z311.2,gY X G z312.1,z312.2,gY X G z313.1,z313.2,gY X G z314.1,z314.2,gY X G z315.1,z315.2,gY X G z316.1,z316.2,gY X G z317.1,z317.2,gY X G z318.1,z318.2,gY X G z319.1,z319.2,gY X G z320.1,z320.2,gY X G z321.1,z321.2,gY X G z322.1,z322.2,gY X G z323.1,z323.2,gY X G z324.1,z324.2,gY X G z325,gY X G z326,gY X G z327,rV X G z328,rV X G z329,rV X G z330,rV X G z331,rV X G z332,rV X G z333,rV X G z334,rV X G z335,rV X G z336⟩
let S:Fns K t:=⟨fn1 z337,fn1 z338,fn1 z339,fn1 z340,fn1 z341,fn1 z342,fn1 z343,fn1 z344,fn1 z345,fn1 z346,fn1 z347,fn1 z348,fn1 z349,fn1 z350,fn1 z351,_,FunT.mk' (st:=jN) z352 z353,jL.all λus hl=>by rw[lnx hl];rfl,fn1 z354,fn1 z355,fn1 z356,fn1 z357,fn1 z358,fn1 z359,fn1 z360,fn1 z361,fn1 z362,fn1 z363,fn1 z364,fn1 z365,fn1 z366,fn1 z367,fn1 z368,fn1 z369,fn1 z370,fn1 z371,fn1 z372,fn1 z373,fn1 z374,fn1 z375,fn1 z376,fn1 z377,fn1 z378,fn1 z379,fn1 z380,fn1 z381,fn1 z382,fn1 z383,fn1 z384,_,FunT.mk' (st:=qR) z385 z386,jL.all λus hl=>by rw[lnx hl];rfl,fn1 z387,fn1 z388,fn1 z389,_,(.ref z95),FunD.mk' (st:=uC) z390 z391,λs us kin hl=>by rw[lnx (us:=us) (n:=5) (by simpa using hl)];exact rC rfl (kin _ _ z392) rfl rfl rfl,[.none],λs us kin hl=>by rw[lnx (us:=us) (n:=4) (by simpa using hl)];exact rC rfl (kin _ _ z392) rfl rfl rfl,(.cons rfl .nil),[.int 1000000 e0_Chip_init,.none],λs us kin hl=>by rw[lnx (us:=us) (n:=3) (by simpa using hl)];exact rC rfl (kin _ _ z392) rfl rfl rfl,(.cons ⟨_,rfl⟩ (.cons rfl .nil)),fn1 z393,fn1 z394,fn1 z395,fn1 z396,fn1 z397,fn1 z398,fn1 z399,fn1 z400,fn1 z401,fn1 z402,fn1 z403,fn1 z404,fn1 z405,fn1 z406,fn1 z407,fn1 z408,fn1 z409,fn1 z410,fn1 z411,fn1 z412,_,(.ref z96),FunD.mk' (st:=yP) z413 z414,λs us kin hl=>by rw[lnx (us:=us) (n:=7) (by simpa using hl)];exact rC rfl (kin _ _ z415) rfl rfl rfl,[.int 1000000 e1_Terms_init],λs us kin hl=>by rw[lnx (us:=us) (n:=6) (by simpa using hl)];exact rC rfl (kin _ _ z415) rfl rfl rfl,(.cons ⟨_,rfl⟩ .nil),[.int 0 e0_Terms_init,.int 1000000 e1_Terms_init],λs us kin hl=>by rw[lnx (us:=us) (n:=5) (by simpa using hl)];exact rC rfl (kin _ _ z415) rfl rfl rfl,(.cons ⟨_,rfl⟩ (.cons ⟨_,rfl⟩ .nil)),fn1 z416,fn1 z417,fn1 z418,fn1 z419,fn1 z420,fn1 z422⟩
exact⟨_,FnX.bind1 (by intros;rfl) S.law.F,λbase _ _ bm=>qJT T S bm⟩)
theorem walk{l:W.OpenLaw}{q:Program}{loose:List Str}{XP:(Str→Option Value)→Heap→Prop}{YP:World→Heap→Prop}{d:DefRec}{K:Params→W.Frag}(hn:l.most=some 63)(hdf:d.params.defaults=[])
 (hY:∀(w:World) (h:Heap),YP w h→(K w.params).In h∧∀T∈([304,577]:List Addr),h.get? T=some (W.tabObj #[])) (hT:∀w:World,∀T∈([304,577]:List Addr),(K w.params).lookup T=none∧∃c,W.codeHdIn (K w.params) c T=true)
 (F:∀(w:World) (mg:Str→Option Value) (fa:Addr) (h:Heap),(K w.params).In h→h.Ns mainGlobals mg→mg d.name=some (.ref fa)→∃fd:FuncData,(∀(s:Shared) (u:Value),BindsTo s fd ⟨[u],[]⟩ [("_law_script",u)])∧∀base:Heap,(K w.params).In base→base.Ns mainGlobals mg→BmIn base mg→FnOk l.prog w (K w.params) mg base (CX0) 18 fa fd ["_law_script"] (q43 (K w.params) [304,577])):
 W.WalkO q loose XP YP l.row.toRowW d [] (λf vs=>PySem.call f vs):=L2.qEF (n:=63) (k:=18) (x:="_law_script") (CX:=λ_=>CX0) (sp:=λw=>q43 (K w.params) [304,577]) [304,577] hn (by decide) hdf ⟨rfl,by decide,by decide⟩ hY hT F (λ_ _ a ns hl hS hT=>⟨a,ns,rfl,hS,hl,hT,λ_=>rfl⟩) (λ_ _ _ _ _ z=>z)
end W1
namespace PySem.W.Fast
theorem tw9702034925804083974:True:=⟨⟩
theorem tw8297724780306967776:True:=⟨⟩
theorem tw12514343635679504672:True:=⟨⟩
theorem tw11580984824778012288:True:=⟨⟩
theorem tw10851879491555954592:True:=⟨⟩
theorem tw9757000048864514209:True:=⟨⟩
theorem tw16306027376023346562:True:=⟨⟩
theorem tw16004025753105443298:True:=⟨⟩
theorem tw8075625074815203043:True:=⟨⟩
theorem tw11766360799550803747:True:=⟨⟩
theorem tw14795008073893457891:True:=⟨⟩
theorem tw10124894239271024868:True:=⟨⟩
theorem tw8740196180910770277:True:=⟨⟩
theorem tw18138668574070821989:True:=⟨⟩
theorem tw3899848309532236357:True:=⟨⟩
theorem tw429987768703203431:True:=⟨⟩
theorem tw8139044170749493831:True:=⟨⟩
theorem tw17552117012683419335:True:=⟨⟩
theorem tw1429085817785194344:True:=⟨⟩
theorem tw17792684736325218633:True:=⟨⟩
theorem tw16356953801177466345:True:=⟨⟩
theorem tw6659436957241429513:True:=⟨⟩
theorem tw5355611477353412106:True:=⟨⟩
theorem tw14413535606371140492:True:=⟨⟩
theorem tw9170773680433035405:True:=⟨⟩
theorem tw16161677795045336301:True:=⟨⟩
theorem tw6604587064340662318:True:=⟨⟩
theorem tw8457049890302286895:True:=⟨⟩
theorem tw11890504556507359472:True:=⟨⟩
theorem tw16730371472668987888:True:=⟨⟩
theorem tw15467240754405709873:True:=⟨⟩
theorem tw4800718752641248753:True:=⟨⟩
theorem tw15257926462033910226:True:=⟨⟩
theorem tw6046510633663958610:True:=⟨⟩
theorem tw5098892379815820819:True:=⟨⟩
theorem tw2761876792972072340:True:=⟨⟩
theorem tw3516559280247662484:True:=⟨⟩
theorem tw637607321986638165:True:=⟨⟩
theorem tw6817256829249403287:True:=⟨⟩
theorem tw14847985510485937975:True:=⟨⟩
theorem tw513629210279959576:True:=⟨⟩
theorem tw13069396139345254808:True:=⟨⟩
theorem tw13632494462661005208:True:=⟨⟩
theorem tw489986536163758041:True:=⟨⟩
theorem tw14960201112600534234:True:=⟨⟩
theorem tw17088322943066505562:True:=⟨⟩
theorem tw13787113168303016282:True:=⟨⟩
theorem tw10695994926002142778:True:=⟨⟩
theorem tw11187840740283875707:True:=⟨⟩
theorem tw14906705848427814299:True:=⟨⟩
theorem tw5170459822524454843:True:=⟨⟩
theorem tw16677297391358249820:True:=⟨⟩
theorem tw5003552609283681244:True:=⟨⟩
theorem tw1217160794969309341:True:=⟨⟩
theorem tw1814272466184338653:True:=⟨⟩
theorem tw17114671207176459741:True:=⟨⟩
theorem tw4646621844115975965:True:=⟨⟩
theorem tw17816457986268936029:True:=⟨⟩
theorem tw12605330143668647454:True:=⟨⟩
theorem tw8936346236500424254:True:=⟨⟩
theorem tw11746620344440560414:True:=⟨⟩
theorem tw7822842245159936031:True:=⟨⟩
theorem tw2991782968530016607:True:=⟨⟩
theorem tw2829223612933288473:True:=⟨⟩
theorem tw17787600946613930287:True:=⟨⟩
theorem tw16514891621217307231:True:=⟨⟩
theorem tw11627382968315386106:True:=⟨⟩
theorem tw11836203495549776364:True:=⟨⟩
theorem tw2669756028687046760:True:=⟨⟩
theorem tw9552827986173814234:True:=⟨⟩
theorem tw6317098982772939382:True:=⟨⟩
theorem tw15102839328364005679:True:=⟨⟩
theorem tw2627646656316742746:True:=⟨⟩
theorem tw9226203767649355129:True:=⟨⟩
theorem tw5715065900996408322:True:=⟨⟩
theorem tw15879455867402025693:True:=⟨⟩
theorem tw15031290667443237407:True:=⟨⟩
theorem tw16105805387436931412:True:=⟨⟩
theorem tw5398697882692321869:True:=⟨⟩
theorem tw2380213921939554352:True:=⟨⟩
theorem tw14161308145693414918:True:=⟨⟩
theorem tw16159826561465830333:True:=⟨⟩
theorem tw3098662447195624271:True:=⟨⟩
theorem tw3229887128044366910:True:=⟨⟩
theorem tw17192235562208704299:True:=⟨⟩
theorem tw3006206809405796742:True:=⟨⟩
theorem tw13242655228696731674:True:=⟨⟩
theorem tw8796865277632238341:True:=⟨⟩
theorem tw14999596290164586535:True:=⟨⟩
theorem tw10803080695561663932:True:=⟨⟩
theorem tw3523650666854261445:True:=⟨⟩
theorem tw17686833222430688777:True:=⟨⟩
theorem tw2021455369922497951:True:=⟨⟩
theorem tw6962285581217574866:True:=⟨⟩
theorem tw16285113057132101372:True:=⟨⟩
theorem tw18094348629965921204:True:=⟨⟩
theorem tw10650837936058948191:True:=⟨⟩
theorem tw18162313323594562876:True:=⟨⟩
theorem tw15217070434932301007:True:=⟨⟩
theorem tw9085340791504998725:True:=⟨⟩
theorem tw2003987060168145336:True:=⟨⟩
theorem tw11540036309672078788:True:=⟨⟩
theorem tw9767249279872953175:True:=⟨⟩
theorem tw4548181198761739031:True:=⟨⟩
theorem tw8140756896136640206:True:=⟨⟩
theorem tw9531547221474028594:True:=⟨⟩
theorem tw16676115513028451173:True:=⟨⟩
theorem tw4349658535165637468:True:=⟨⟩
theorem tw18280521968803215122:True:=⟨⟩
theorem tw685468295984593470:True:=⟨⟩
theorem tw5278244345362070693:True:=⟨⟩
theorem tw11396718739253129652:True:=⟨⟩
theorem tw3090966325958116620:True:=⟨⟩
theorem tw15943948090180316614:True:=⟨⟩
theorem tw6163169791041145633:True:=⟨⟩
theorem tw18436797177279914551:True:=⟨⟩
theorem tw16098893248370249330:True:=⟨⟩
theorem tw11734452401561356169:True:=⟨⟩
theorem tw3791565133812636985:True:=⟨⟩
theorem tw13391983915769321978:True:=⟨⟩
theorem tw5875892875237893492:True:=⟨⟩
theorem tw4699805872192218468:True:=⟨⟩
theorem tw1037909920202528169:True:=⟨⟩
theorem tw18080599970385546498:True:=⟨⟩
theorem tw18356891237151855963:True:=⟨⟩
theorem tw8757215595671158741:True:=⟨⟩
theorem tw8126715242165669453:True:=⟨⟩
theorem tw15782576929241780838:True:=⟨⟩
theorem tw5063763443112728968:True:=⟨⟩
theorem tw14659464575149343197:True:=⟨⟩
theorem tw18361651516614820917:True:=⟨⟩
theorem tw17894721709304204218:True:=⟨⟩
theorem tw11549927261197979305:True:=⟨⟩
theorem tw353926639672603134:True:=⟨⟩
theorem tw14551013700993658573:True:=⟨⟩
theorem tw10928557664117165129:True:=⟨⟩
theorem tw1590675000500974582:True:=⟨⟩
theorem tw15855912858453081782:True:=⟨⟩
theorem tw17720682074040534762:True:=⟨⟩
theorem tw6332866503725199584:True:=⟨⟩
theorem tw12685959298493107409:True:=⟨⟩
theorem tw14230285553398343075:True:=⟨⟩
theorem tw4607503100927990302:True:=⟨⟩
theorem tw12724484374608509796:True:=⟨⟩
theorem tw16898066460052172527:True:=⟨⟩
theorem tw338800805873915769:True:=⟨⟩
theorem tw6770680711228444011:True:=⟨⟩
theorem tw12347733650179129036:True:=⟨⟩
theorem tw16629829994159029774:True:=⟨⟩
theorem tw1848427431970620608:True:=⟨⟩
theorem tw17639161624389875503:True:=⟨⟩
theorem tw16340192757088050644:True:=⟨⟩
theorem tw9948226684883077347:True:=⟨⟩
theorem tw7676560263747758987:True:=⟨⟩
theorem tw13639790919118256878:True:=⟨⟩
theorem tw392931353702559933:True:=⟨⟩
theorem tw7532306198301293934:True:=⟨⟩
theorem tw15731523620215890661:True:=⟨⟩
theorem tw11328497450993962059:True:=⟨⟩
theorem tw9534753903015359441:True:=⟨⟩
theorem tw16874206396108178187:True:=⟨⟩
theorem tw7741413796775843009:True:=⟨⟩
theorem tw7686791984165988084:True:=⟨⟩
theorem tw10845208391537656139:True:=⟨⟩
theorem tw6391425809101802875:True:=⟨⟩
theorem tw14093620791489429313:True:=⟨⟩
theorem tw12486166409265769184:True:=⟨⟩
theorem tw11661424018519706272:True:=⟨⟩
theorem tw6417534244244763025:True:=⟨⟩
theorem tw12383034587783892023:True:=⟨⟩
theorem tw11933768494646702783:True:=⟨⟩
theorem tw8315081419121001050:True:=⟨⟩
theorem tw8788710116864309566:True:=⟨⟩
theorem tw2775881927247845369:True:=⟨⟩
theorem tw1507394234354622631:True:=⟨⟩
theorem tw9077897201553936591:True:=⟨⟩
theorem tw15256214538285415613:True:=⟨⟩
theorem tw4655240880675691689:True:=⟨⟩
theorem tw18279377149539664424:True:=⟨⟩
theorem tw14203671716799689169:True:=⟨⟩
theorem tw12189513908013174915:True:=⟨⟩
theorem tw15127395374289592184:True:=⟨⟩
theorem tw18102341188076750778:True:=⟨⟩
theorem tw3289243051132587829:True:=⟨⟩
theorem tw3168820977593874047:True:=⟨⟩
theorem tw8248396756131783033:True:=⟨⟩
theorem tw5135846082322397022:True:=⟨⟩
theorem tw1112123173746973118:True:=⟨⟩
theorem tw15341792043385174299:True:=⟨⟩
theorem tw13848626181433633750:True:=⟨⟩
theorem tw12509908876082953318:True:=⟨⟩
theorem tw14543941991879867660:True:=⟨⟩
theorem tw5676676722007523233:True:=⟨⟩
theorem tw13625029978863624795:True:=⟨⟩
theorem tw1170933776648760609:True:=⟨⟩
theorem tw7241083528357857131:True:=⟨⟩
theorem tw875064911120391611:True:=⟨⟩
theorem tw15682457312970957479:True:=⟨⟩
theorem tw561922448459934581:True:=⟨⟩
theorem tw6644643567146031082:True:=⟨⟩
theorem tw16953057111252283188:True:=⟨⟩
theorem tw1113508858205757431:True:=⟨⟩
theorem tw14822036940818915017:True:=⟨⟩
theorem tw1162319864831238520:True:=⟨⟩
theorem tw14528038476551705746:True:=⟨⟩
theorem tw1224963179905786230:True:=⟨⟩
theorem tw8291812802898330615:True:=⟨⟩
theorem tw12038208900009026234:True:=⟨⟩
theorem tw9814575339788230356:True:=⟨⟩
theorem tw4294989624569398320:True:=⟨⟩
theorem tw17751470885390095285:True:=⟨⟩
theorem tw15289085533339608752:True:=⟨⟩
theorem tw1217818619730627037:True:=⟨⟩
theorem tw13271222092406422149:True:=⟨⟩
theorem tw15554236561400266962:True:=⟨⟩
theorem tw9381775742795338933:True:=⟨⟩
theorem tw6884031599898615740:True:=⟨⟩
theorem tw14227942039998494682:True:=⟨⟩
theorem tw10714038892463748783:True:=⟨⟩
theorem tw11502099447767059841:True:=⟨⟩
theorem tw1154039995024212030:True:=⟨⟩
theorem tw2400668141146479993:True:=⟨⟩
theorem tw12701915753966560188:True:=⟨⟩
theorem tw4959998940289362862:True:=⟨⟩
theorem tw7286763717110233295:True:=⟨⟩
theorem tw8916197247511326394:True:=⟨⟩
theorem tw3600409845181673965:True:=⟨⟩
theorem tw9597544655183329897:True:=⟨⟩
theorem tw13610371766701194388:True:=⟨⟩
theorem tw9541302982821394298:True:=⟨⟩
theorem tw11919815423374100606:True:=⟨⟩
theorem tw3851079349897345030:True:=⟨⟩
theorem tw5429400746820477627:True:=⟨⟩
theorem tw17315355681844002063:True:=⟨⟩
theorem tw12981374225657941483:True:=⟨⟩
theorem tw11740221404734551714:True:=⟨⟩
theorem tw1952322681858239895:True:=⟨⟩
theorem tw11863870523658214703:True:=⟨⟩
theorem tw12922607150763123814:True:=⟨⟩
theorem tw12075106944434434833:True:=⟨⟩
theorem tw4532830901053893159:True:=⟨⟩
theorem tw16532960740764968214:True:=⟨⟩
theorem tw17474645515253557657:True:=⟨⟩
theorem tw10025043492121990317:True:=⟨⟩
theorem tw401507608569412362:True:=⟨⟩
theorem tw2941743508127919164:True:=⟨⟩
theorem tw18189853488484163759:True:=⟨⟩
theorem tw16229348236773960030:True:=⟨⟩
theorem tw14867129326738919240:True:=⟨⟩
theorem tw9653466930276985990:True:=⟨⟩
theorem tw11688444446877153109:True:=⟨⟩
theorem tw5406509091981887932:True:=⟨⟩
theorem tw3794888667939253062:True:=⟨⟩
theorem tw9409052905723341265:True:=⟨⟩
theorem tw18377349866600441816:True:=⟨⟩
theorem tw1658284754964746351:True:=⟨⟩
theorem tw3419956333603407676:True:=⟨⟩
theorem tw8964949669707896590:True:=⟨⟩
theorem tw7165922704243830895:True:=⟨⟩
theorem tw15729670114357831748:True:=⟨⟩
theorem tw4571927066181093328:True:=⟨⟩
theorem tw11739352458798915162:True:=⟨⟩
theorem tw2451587491642274656:True:=⟨⟩
theorem tw6745990780626027528:True:=⟨⟩
theorem tw12321545114849135037:True:=⟨⟩
theorem tw9758039434382671578:True:=⟨⟩
theorem tw14282344689171026103:True:=⟨⟩
theorem tw18444665024168804979:True:=⟨⟩
theorem tw1797319912787844409:True:=⟨⟩
theorem tw7419956818958354433:True:=⟨⟩
theorem tw4112898968191490980:True:=⟨⟩
theorem tw10493655687381926085:True:=⟨⟩
theorem tw4967106126092671061:True:=⟨⟩
theorem tw3992619821184751092:True:=⟨⟩
theorem tw2049208964644151534:True:=⟨⟩
theorem tw13086221006386324931:True:=⟨⟩
theorem tw10880549798004658785:True:=⟨⟩
theorem tw3963074580656607937:True:=⟨⟩
theorem tw2289473829381986221:True:=⟨⟩
theorem tw17035677257265953466:True:=⟨⟩
theorem tw16931674212779205843:True:=⟨⟩
theorem tw6213013069976650239:True:=⟨⟩
theorem tw12210684385785392618:True:=⟨⟩
theorem tw7542371453323249057:True:=⟨⟩
theorem tw6825094274682141990:True:=⟨⟩
theorem tw4709365390889305053:True:=⟨⟩
theorem tw14403503579349906997:True:=⟨⟩
theorem tw4813470788000949902:True:=⟨⟩
theorem tw16209434126237358364:True:=⟨⟩
theorem tw14090134165373463523:True:=⟨⟩
theorem tw13369777771533503235:True:=⟨⟩
theorem tw10608330809770489803:True:=⟨⟩
theorem tw8120534817857591651:True:=⟨⟩
theorem tw18167934092672697034:True:=⟨⟩
theorem tw12331904436527623168:True:=⟨⟩
theorem tw10919886119543179831:True:=⟨⟩
theorem tw4829167066500883096:True:=⟨⟩
theorem tw7213849510990144500:True:=⟨⟩
theorem tw13089016506627448544:True:=⟨⟩
theorem tw2091322639223738354:True:=⟨⟩
theorem tw8885646704941343678:True:=⟨⟩
theorem tw2946071310753168522:True:=⟨⟩
theorem tw13235321650420203276:True:=⟨⟩
theorem tw12753203853729623926:True:=⟨⟩
theorem tw689420782405767510:True:=⟨⟩
theorem tw14633165393387956677:True:=⟨⟩
theorem tw5625330851931151553:True:=⟨⟩
theorem tw12440809088859799167:True:=⟨⟩
theorem tw10438776510055235144:True:=⟨⟩
theorem tw5983831988351991858:True:=⟨⟩
theorem tw11107041428792602359:True:=⟨⟩
theorem tw1522395346569271045:True:=⟨⟩
theorem tw3412060052808542764:True:=⟨⟩
theorem tw17870962134849755253:True:=⟨⟩
theorem tw6159579715081123424:True:=⟨⟩
theorem tw3677248359254492615:True:=⟨⟩
theorem tw17031250424951672279:True:=⟨⟩
theorem tw5939040200283249290:True:=⟨⟩
theorem tw122327261867198993:True:=⟨⟩
theorem tw7380936427374564168:True:=⟨⟩
theorem tw4466804067226846163:True:=⟨⟩
theorem tw2263605121790590768:True:=⟨⟩
theorem tw13147172606514275178:True:=⟨⟩
theorem tw609804407695186736:True:=⟨⟩
theorem tw15301503629145437991:True:=⟨⟩
theorem tw15899112545305656562:True:=⟨⟩
theorem tw11188082647255780250:True:=⟨⟩
theorem tw14676126767913133853:True:=⟨⟩
theorem tw1248618819437289903:True:=⟨⟩
theorem tw16705198787085073462:True:=⟨⟩
theorem tw7127186445577131193:True:=⟨⟩
theorem tw9827113011574291792:True:=⟨⟩
theorem tw17220227418354696345:True:=⟨⟩
theorem tw3313824743539229799:True:=⟨⟩
theorem tw13337526716368495191:True:=⟨⟩
theorem tw7584788962472002713:True:=⟨⟩
theorem tw2296098441440632994:True:=⟨⟩
theorem tw17952140336760710487:True:=⟨⟩
theorem tw1894464341822819438:True:=⟨⟩
theorem tw1891593294672387471:True:=⟨⟩
theorem tw16616047283163455352:True:=⟨⟩
theorem tw12900350029364314427:True:=⟨⟩
theorem tw9569258902739763953:True:=⟨⟩
theorem tw16210775435733190236:True:=⟨⟩
theorem tw10758153486991444548:True:=⟨⟩
theorem tw427811647089536333:True:=⟨⟩
theorem tw409919671442553551:True:=⟨⟩
theorem tw1765281127522939985:True:=⟨⟩
theorem tw8990622072087309745:True:=⟨⟩
theorem tw1131752320064689060:True:=⟨⟩
theorem tw5670880961844943847:True:=⟨⟩
theorem tw3396849010000029294:True:=⟨⟩
theorem tw7100061427617921259:True:=⟨⟩
theorem tw7061381465056748115:True:=⟨⟩
theorem tw5575519490548796086:True:=⟨⟩
theorem tw7174026441228095108:True:=⟨⟩
theorem tw5583635546596631343:True:=⟨⟩
theorem tw6663891820016030660:True:=⟨⟩
theorem tw6398848505637657721:True:=⟨⟩
theorem tw456916046026911824:True:=⟨⟩
theorem tw1525756521693100769:True:=⟨⟩
theorem tw9886518303641302753:True:=⟨⟩
theorem tw6647237709103561175:True:=⟨⟩
theorem tw37635480894475812:True:=⟨⟩
theorem tw14806275000486031083:True:=⟨⟩
theorem tw13621964697143457448:True:=⟨⟩
theorem tw126174084919548890:True:=⟨⟩
theorem tw7159345899620193977:True:=⟨⟩
theorem tw4960472225787120567:True:=⟨⟩
theorem tw13012882552964179248:True:=⟨⟩
theorem tw11444827267373751896:True:=⟨⟩
theorem tw8972989297582477860:True:=⟨⟩
theorem tw17799487896577253343:True:=⟨⟩
theorem tw3543563400221619175:True:=⟨⟩
theorem tw8355711003375146107:True:=⟨⟩
theorem tw7909899642206065308:True:=⟨⟩
theorem tw2941525231481829620:True:=⟨⟩
theorem tw13729912108484367661:True:=⟨⟩
theorem tw5210456139812471678:True:=⟨⟩
theorem tw3931684698337827347:True:=⟨⟩
theorem tw1134470289867546559:True:=⟨⟩
theorem tw2151189399447257149:True:=⟨⟩
theorem tw15169032270391256474:True:=⟨⟩
theorem tw11369491393022234287:True:=⟨⟩
theorem tw3248152004743127314:True:=⟨⟩
theorem tw13140708250960892460:True:=⟨⟩
theorem tw18135587329441843050:True:=⟨⟩
theorem tw6879808483226409814:True:=⟨⟩
theorem tw3698947314278050417:True:=⟨⟩
theorem tw1123121189691306855:True:=⟨⟩
theorem tw3399826765683434408:True:=⟨⟩
theorem tw899204783769469357:True:=⟨⟩
theorem tw15505773942904280858:True:=⟨⟩
theorem tw13101418719432166486:True:=⟨⟩
theorem tw15619931586906732991:True:=⟨⟩
theorem tw7004259573035233373:True:=⟨⟩
theorem tw12970594034331728330:True:=⟨⟩
theorem tw11694266044737657885:True:=⟨⟩
theorem tw6640955260096017979:True:=⟨⟩
theorem tw2191247371771342272:True:=⟨⟩
theorem tw15270610890720517882:True:=⟨⟩
theorem tw5899133091165758653:True:=⟨⟩
theorem tw11188188938663614860:True:=⟨⟩
theorem tw4226786516516150502:True:=⟨⟩
theorem tw15241588652835456331:True:=⟨⟩
theorem tw2251765654625502865:True:=⟨⟩
theorem tw10479849213536026725:True:=⟨⟩
theorem tw6915208142101289294:True:=⟨⟩
theorem tw16648905482602663427:True:=⟨⟩
theorem tw3024472706357016705:True:=⟨⟩
theorem tw13122267014482469753:True:=⟨⟩
theorem tw11921050489086909179:True:=⟨⟩
theorem tw15291860791692913145:True:=⟨⟩
theorem tw15939468927038381930:True:=⟨⟩
theorem tw4237618243846765984:True:=⟨⟩
theorem tw2336455769731684131:True:=⟨⟩
theorem tw17215845171518013198:True:=⟨⟩
theorem tw12115098428164117603:True:=⟨⟩
theorem tw16561534649019826947:True:=⟨⟩
theorem tw1509698878370407064:True:=⟨⟩
theorem tw10087632780933088594:True:=⟨⟩
theorem tw3153930718152863203:True:=⟨⟩
theorem tw11919976983663563302:True:=⟨⟩
theorem tw11778021522713248543:True:=⟨⟩
theorem tw9571412477450469423:True:=⟨⟩
theorem tw7362341667399220742:True:=⟨⟩
theorem tw5287568220648149814:True:=⟨⟩
theorem tw503617644293484154:True:=⟨⟩
theorem tw3812895401344099483:True:=⟨⟩
theorem tw16370312164221459450:True:=⟨⟩
theorem tw15361929377630147395:True:=⟨⟩
theorem tw15058441874480716071:True:=⟨⟩
theorem tw11456003122206166109:True:=⟨⟩
theorem tw1073636229803219357:True:=⟨⟩
theorem tw7694735557293718816:True:=⟨⟩
theorem tw4395681833527139224:True:=⟨⟩
theorem tw2893806812069583654:True:=⟨⟩
theorem tw9474448776751467365:True:=⟨⟩
theorem tw9452924192085875665:True:=⟨⟩
theorem tw8773416683784453174:True:=⟨⟩
theorem tw79076646315152581:True:=⟨⟩
theorem tw698828034738383384:True:=⟨⟩
theorem tw636771916667637504:True:=⟨⟩
theorem tw5947265513159261313:True:=⟨⟩
theorem tw3957464284840755963:True:=⟨⟩
theorem tw3509763532356899719:True:=⟨⟩
theorem tw18372489087307307151:True:=⟨⟩
theorem tw18137037799440599565:True:=⟨⟩
theorem tw17762639474898151719:True:=⟨⟩
theorem tw16626479797771678756:True:=⟨⟩
theorem tw1553856084358275598:True:=⟨⟩
theorem tw14995453955874510945:True:=⟨⟩
theorem tw13729196757094120463:True:=⟨⟩
theorem tw13072240845192235089:True:=⟨⟩
theorem tw11106362580607657996:True:=⟨⟩
theorem tw10922144946962337910:True:=⟨⟩
theorem tw10396012305567059432:True:=⟨⟩
theorem tw10112916567768295367:True:=⟨⟩
theorem tw16528171133901793873:True:=⟨⟩
theorem tw17684178881532811786:True:=⟨⟩
theorem tw1283061196752378605:True:=⟨⟩
theorem tw4436282412299216637:True:=⟨⟩
theorem tw9581068813016363037:True:=⟨⟩
theorem tw7689649086603959229:True:=⟨⟩
theorem tw3454071337321951821:True:=⟨⟩
theorem tw14512795951189359995:True:=⟨⟩
theorem tw9138323430630287688:True:=⟨⟩
theorem tw15338983066308379822:True:=⟨⟩
theorem tw10524163663828598589:True:=⟨⟩
theorem tw7512464191494956722:True:=⟨⟩
theorem tw18141915835178571692:True:=⟨⟩
theorem tw16891257474583110005:True:=⟨⟩
theorem tw14861182481757664668:True:=⟨⟩
theorem tw14516180892098041652:True:=⟨⟩
theorem tw13140461610832895546:True:=⟨⟩
theorem tw11727196769028660501:True:=⟨⟩
theorem tw9056049384249848482:True:=⟨⟩
theorem tw577595037851913482:True:=⟨⟩
theorem tw2156364073281650953:True:=⟨⟩
theorem tw12008547146340854777:True:=⟨⟩
theorem tw9625666006398622458:True:=⟨⟩
theorem tw7620883411450055042:True:=⟨⟩
theorem tw6594838019426209145:True:=⟨⟩
theorem tw4897070943767042760:True:=⟨⟩
theorem tw3824152224590832689:True:=⟨⟩
theorem tw1998748812954951520:True:=⟨⟩
theorem tw15406482609294041986:True:=⟨⟩
theorem tw13938856555069930496:True:=⟨⟩
theorem tw12001204351735217951:True:=⟨⟩
theorem tw8257198904714595959:True:=⟨⟩
theorem tw3374136193853465174:True:=⟨⟩
theorem tw12452215729689975825:True:=⟨⟩
theorem tw11721975532626229950:True:=⟨⟩
theorem tw6853606595357208646:True:=⟨⟩
theorem tw15177148828781335072:True:=⟨⟩
theorem tw10609169262452669688:True:=⟨⟩
theorem tw3034481932446489967:True:=⟨⟩
theorem tw2608977928685923848:True:=⟨⟩
theorem tw2392486030237019707:True:=⟨⟩
theorem tw2135512576702833191:True:=⟨⟩
theorem tw1688074722965391731:True:=⟨⟩
theorem tw1584282108149663458:True:=⟨⟩
theorem tw13707702124246870633:True:=⟨⟩
theorem tw13210384392372520943:True:=⟨⟩
theorem tw12560215828703206062:True:=⟨⟩
theorem tw11499417118257490679:True:=⟨⟩
theorem tw14472835578586982970:True:=⟨⟩
theorem tw13318110745044112640:True:=⟨⟩
theorem tw12648959051515630278:True:=⟨⟩
theorem tw14505989717114817497:True:=⟨⟩
theorem tw15588509137880366075:True:=⟨⟩
theorem tw12536335354865977855:True:=⟨⟩
theorem tw13584759704832308573:True:=⟨⟩
theorem tw5774546235315344975:True:=⟨⟩
theorem tw9040110268796445040:True:=⟨⟩
theorem tw8144390714998918680:True:=⟨⟩
theorem tw395375080879917309:True:=⟨⟩
theorem tw1564178641714114088:True:=⟨⟩
theorem tw15356701984776368012:True:=⟨⟩
theorem tw10039213411916520150:True:=⟨⟩
theorem tw13274658207473555744:True:=⟨⟩
theorem tw12432717658388758437:True:=⟨⟩
theorem tw5480318829052795910:True:=⟨⟩
theorem tw5009314224734157222:True:=⟨⟩
theorem tw439873697911667442:True:=⟨⟩
theorem tw2817653291761805123:True:=⟨⟩
theorem tw2612585638827281848:True:=⟨⟩
theorem tw2151022044461842178:True:=⟨⟩
theorem tw16173162519822155524:True:=⟨⟩
theorem tw12330464098403076533:True:=⟨⟩
theorem tw14169094771132121545:True:=⟨⟩
theorem tw13627303810565848859:True:=⟨⟩
theorem tw6411874671991577328:True:=⟨⟩
theorem tw4800970047962348160:True:=⟨⟩
theorem tw3314896015751606088:True:=⟨⟩
theorem tw3247180124396368837:True:=⟨⟩
theorem tw13831643589608300056:True:=⟨⟩
theorem tw12317519555912675119:True:=⟨⟩
theorem tw12089054255919393034:True:=⟨⟩
theorem tw10206071678105506680:True:=⟨⟩
theorem tw12769332196716837814:True:=⟨⟩
theorem tw10932772620879184262:True:=⟨⟩
theorem tw18038984588111444969:True:=⟨⟩
theorem tw12862136314999157817:True:=⟨⟩
theorem tw11502286062522896558:True:=⟨⟩
theorem tw929003835561948240:True:=⟨⟩
theorem tw13890851836908736322:True:=⟨⟩
theorem tw7368086847209674870:True:=⟨⟩
theorem tw13301354654184183151:True:=⟨⟩
theorem tw8828237735164948766:True:=⟨⟩
theorem tw5761468322039697465:True:=⟨⟩
theorem tw5244353933842210843:True:=⟨⟩
theorem tw16389183279745443638:True:=⟨⟩
theorem tw1602305394603258496:True:=⟨⟩
theorem tw10089773092269119563:True:=⟨⟩
theorem tw2842260445130856516:True:=⟨⟩
theorem tw15475272917717814120:True:=⟨⟩
theorem tw11909817839733826137:True:=⟨⟩
theorem tw10421803924144753541:True:=⟨⟩
theorem tw8203985962494951113:True:=⟨⟩
theorem tw7739636454410158002:True:=⟨⟩
theorem tw7075162838301370071:True:=⟨⟩
theorem tw5938287809098498434:True:=⟨⟩
theorem tw5446316261225328339:True:=⟨⟩
theorem tw2554049027172942820:True:=⟨⟩
theorem tw16406149894614274548:True:=⟨⟩
theorem tw15972786577735804670:True:=⟨⟩
theorem tw13688277817643403855:True:=⟨⟩
theorem tw13222952540947317006:True:=⟨⟩
theorem tw13135327974938375133:True:=⟨⟩
theorem tw12702128428277407361:True:=⟨⟩
theorem tw12654326792652926642:True:=⟨⟩
theorem tw11490487704122598668:True:=⟨⟩
theorem tw11173603279964710351:True:=⟨⟩
theorem tw10928940360568100303:True:=⟨⟩
theorem tw10674641041131312816:True:=⟨⟩
theorem tw5924742241593144153:True:=⟨⟩
theorem tw5552784776504146017:True:=⟨⟩
theorem tw16265737455661457466:True:=⟨⟩
theorem tw14193304601711717562:True:=⟨⟩
theorem tw13210742464110473529:True:=⟨⟩
theorem tw12878279506216007:True:=⟨⟩
theorem tw5730543087214633780:True:=⟨⟩
theorem tw9805479225028359:True:=⟨⟩
theorem tw8906868050490458191:True:=⟨⟩
theorem tw7353647511928730272:True:=⟨⟩
theorem tw4969761896648657229:True:=⟨⟩
theorem tw4226016673657396085:True:=⟨⟩
theorem tw3666399427690758410:True:=⟨⟩
theorem tw2387811340067410809:True:=⟨⟩
theorem tw212939213051622433:True:=⟨⟩
theorem tw2011736712257697491:True:=⟨⟩
theorem tw17337220884388514965:True:=⟨⟩
theorem tw16668163684485277732:True:=⟨⟩
theorem tw15961306715546541849:True:=⟨⟩
theorem tw14510850631451852803:True:=⟨⟩
theorem tw13374277979044585961:True:=⟨⟩
theorem tw12427730416975808503:True:=⟨⟩
theorem tw12161085663006791807:True:=⟨⟩
theorem tw11957932914565073516:True:=⟨⟩
theorem tw10282701578050241126:True:=⟨⟩
theorem tw688029759835726243:True:=⟨⟩
theorem tw6490866372163101098:True:=⟨⟩
theorem tw5401099323774452134:True:=⟨⟩
theorem tw5338511863132286070:True:=⟨⟩
theorem tw2199630672225914063:True:=⟨⟩
theorem tw14767864144560624041:True:=⟨⟩
theorem tw12090636926268409725:True:=⟨⟩
theorem tw11009975918160218385:True:=⟨⟩
theorem tw10186227379196743401:True:=⟨⟩
end PySem.W.Fast
open PySem PySem.W PyProof.Rows
set_option maxRecDepth 100000 in
theorem PySem.Challenge.cw_wornpages_k48_no_spread_holds : PySem.Challenge.rw_wornpages_k48_no_spread.Holds := by
 (
w_on;o_law;k_head;(case hw=>w_witness2)
k_fill
refine W1.walk (l:=PySem.Challenge.rw_wornpages_k48_no_spread) rfl rfl (λw h Y=>⟨W.km_in_of Y,λT hT=>W.km_tabs_of Y T (by simp at hT ⊢;first|exact hT|exact hT.symm)⟩) (?T) ?F
case T=>
 intro w T hT;have hT:T=304∨T=577:=by simpa using hT
 rcases hT with rfl|rfl
 ·exact⟨by kernel_rfl,306,by kernel_rfl⟩
 exact⟨by kernel_rfl,581,by kernel_rfl⟩
case F=>
 intro w mg fa h KX G hmg;refine' W1.qJU (z1:=304) (z0:=306) (z3:=577) (z2:=581) KX G hmg ?_ ?_ ?_ ?_ ?_ ?_ ?_ ?_ ?_ ?_ ?_ ?_ ?_ ?_ ?_ ?_ ?_ ?_ ?_ ?_ ?_ ?_ ?_ ?_ ?_ ?_ ?_ ?_ ?_ ?_ ?_ ?_ ?_ ?_ ?_ ?_ ?_ ?_ ?_ ?_ ?_ ?_ ?_ ?_ ?_ ?_ ?_ ?_ ?_ ?_ ?_ ?_ ?_ ?_ ?_ ?_ ?_ ?_ ?_ ?_ ?_ ?_ ?_ ?_ ?_ ?_ ?_ ?_ ?_ ?_ ?_ ?_ ?_ ?_ ?_ ?_ ?_ ?_ ?_ ?_ ?_ ?_ ?_ ?_ ?_ ?_ ?_ ?_ ?_ ?_ ?_ ?_ ?_ ?_ ?_ ?_ ?_ ?_ ?_ ?_ ?_ ?_ ?_ ?_ ?_ ?_ ?_ ?_ ?_ ?_ ?_ ?_ ?_ ?_ ?_ ?_ ?_ ?_ ?_ ?_ ?_ ?_ ?_ ?_ ?_ ?_ ?_ ?_ ?_ ?_ ?_ ?_ ?_ ?_ ?_ ?_ ?_ ?_ ?_ ?_ ?_ ?_ ?_ ?_ ?_ ?_ ?_ ?_ ?_ ?_ ?_ ?_ ?_ ?_ ?_ ?_ ?_ ?_ ?_ ?_ ?_ ?_ ?_ ?_ ?_ ?_ ?_ ?_ ?_ ?_ ?_ ?_ ?_ ?_ ?_ ?_ ?_ ?_ ?_ ?_ ?_ ?_ ?_ ?_ ?_ ?_ ?_ ?_ ?_ ?_ ?_ ?_ ?_ ?_ ?_ ?_ ?_ ?_ ?_ ?_ ?_ ?_ ?_ ?_ ?_ ?_ ?_ ?_ ?_ ?_ ?_ ?_ ?_ ?_ ?_ ?_ ?_ ?_ ?_ ?_ ?_ ?_ ?_ ?_ ?_ ?_ ?_ ?_ ?_ ?_ ?_ ?_ ?_ ?_ ?_ ?_ ?_ ?_ ?_ ?_ ?_ ?_ ?_ ?_ ?_ ?_ ?_ ?_ ?_ ?_ ?_ ?_ ?_ ?_ ?_ ?_ ?_ ?_ ?_ ?_ ?_ ?_ ?_ ?_ ?_ ?_ ?_ ?_ ?_ ?_ ?_ ?_ ?_ ?_ ?_ ?_ ?_ ?_
 any_goals first|k_is|(refine' L2.FnX.of ?fa ?fb;(case fa=>k_is);(case fb=>k_is))|((first|apply And.intro|apply L2.Meth.mk|apply L2.Mk.mk|apply L2.Cls.mk|apply L2.XAt.mk|apply L2.BIni.mk|apply L2.ClM.mk|apply L2.XRd.mk)<;>first|k_is|kernel_rfl)|(show W.findIn _ _ _=_;k_is)
 all_goals first|k_exc|kts_exm|kit_is|kernel_rfl|decide)
