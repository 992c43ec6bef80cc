import PyProof.Rows.All
import Wide.All
import OpenK.AllK
import Wide.FinOn
import Lean
import PyProof.EqAt
import PyProof.EqKinds
import PyProof.TupleCall
import PyProof.StationsW
import PyProof.NsDelKeeps
import PyProof.PassesOwn
import PyProof.ZipIter
import PyProof.NeKinds
import PyProof.CompFree
import KE.KDictList
import PyProof.ConsumeWalk
import PyProof.WalkInts
import PyProof.WalksMore
import PyProof.SumAny
import PyProof.Rows.MinMaxN
import PyProof.Rows.SortWalk
import PyProof.ListRange
import KE.KTupSum
import PyProof.EnumFor
import PyProof.EnumMake
import PyProof.EnumStmt
import OpenK.KMake
import PyProof.DictWalks
import PyProof.FitsBits
import PyProof.CompUse
import KE.KSortTup
import PyProof.MinMaxWalk
import PyProof.SeqI3
import PyProof.DictItems
import KE.KItemsList
import KE.KEqDict
import KE.KDictSum
import PyProof.DictValues
import KE.KLam
import KE.KNestM
import PyProof.ExcClass3
import PySem.Challenge.RW_wornpages_k33_the_choice
set_option Elab.async false
set_option linter.all false
set_option maxRecDepth 100000
set_option maxHeartbeats 0
noncomputable abbrev hG:=@decide_eq_true
noncomputable abbrev hU:=@decide_eq_false
noncomputable abbrev hV:=@if_neg
noncomputable abbrev kF:=@if_pos
noncomputable abbrev kP:=@decide_eq_true_eq
noncomputable abbrev mM:=@of_decide_eq_true
noncomputable abbrev g5:=@congrArg
noncomputable abbrev dL:=@of_decide_eq_false
noncomputable abbrev dR:=@beq_eq_false_iff_ne
noncomputable abbrev rF:=@beq_iff_eq
noncomputable abbrev rO:=@decide_eq_false_iff_not
noncomputable abbrev cN:=@decide_eq_decide
noncomputable abbrev cS:=@or_false
open PySem renaming wpAny_bind→hI, wpAny_pure→kX, sizeLine_eq→gA, boot_len→gC, mem_of_lookup→gP, wpAny_holding→gQ, wpAny_mono→gR, wpAny_truthy_bool→g0, wpAny_Call_Name_kw→g7, wpAny_passesOwn→rB, wpAny_call→rS, codeAny_call_builtin→wG, codeAny_mono→wJ, wpAny_newList→wQ, wpAny_execs_nil→wU, wpAny_execs_cons→cH, wpAny_standAt→cP, wpAny_newFunctionEnv_cells→pE, tupleKind_room_in1→pG, wpAny_field→pP, wpAny_attempt→pS, seqIndex_neg→sJ, wpAny_getItem_list_neg→sL, wpAny_isTrue_Compare1→sT, codeAny_call_function→sU, wpAny_loadName_local→nG, seqIndex_of→nI, wpAny_setField→nJ, wpAny_newFunctionEnv→nL, wpAny_newTuple→nM, wpAny_loadName_cell→nQ, wpAny_Return_some→lP, wpAny_assign_Name→lQ, slot_list_getitem→lY, wpAny_newObj_type→l7, wpAny_Name→aI, typeIs_int→aK, call_meets→aL
open List renaming mem_singleton→hX, length_map→h9, mem_cons_of_mem→kB, getElem?_eq_getElem→kC, getElem?_eq_some_iff→kD, getD_eq_getElem?_getD→kI, mem_cons→kJ, length_append→kO, mem_cons_self→kQ, size_toArray→kW, mem_map→kY, mem_append_right→kZ, length_cons→mB, getElem?_map→mC, take_append_getElem→mD, mem_range→mE, length_filter_le→mH, map_cons→mJ, mem_filter→mK, length_range→mQ, map_append→mR, length_singleton→mU, filter_cons→mV, nodup_cons→mW, take_length→mZ, getElem_mem→gD, length_set→gE, pairwise_map→gF, length_replicate→gG, length_take→gH, mem_append_left→gI, mem_of_getElem?→gJ, filter_append→gL, getElem?_eq_none→gM, pairwise_cons→gS, mem_append→gT, all_eq_true→gW, getElem_of_mem→gX, pairwise_lt_range→gZ, eq_nil_of_length_eq_zero→g4, not_mem_nil→g9, replicate_succ→dA, append_nil→dB, nil_append→dC, find?_cons→dD, pairwise_iff_getElem→dG, drop_eq_getElem_cons→dH, lookup_cons→dJ, sum_cons→dO, length_filterMap_le→dP, find?_some→dQ, map_congr_left→dS, map_eq_nil_iff→dU, mem_of_find?_eq_some→d8, exists_mem_of_ne_nil→rA, filterMap_cons→rH, filter_eq_self→rJ, getElem?_replicate→rL, ext_getElem→rN, any_eq_true→rP, mem_filterMap→rR, find?_eq_none→rV, countP_eq_length_filter→rZ, flatten_cons→wA, nodup_append→wB, getElem?_set_ne→wC, getElem?_append_right→wE, mem_of_mem_take→wH, mergeSort_perm→wM, length_pos_iff→wO, any_cons→wP, getElem_range→wW, mem_mergeSort→wX, map_replicate→wY, pairwise_mergeSort→wZ, append_assoc→cD, countP_mono_left→cG, countP_cons→cK, getElem_map→cL, of_mem_zip→cU, length_nil→cW, mem_map_of_mem→c6, map_map→pB, map_inj_right→pM, getElem?_append_left→pN, filter_congr→pQ, nil_perm→pT, length_drop→pW, getElem?_cons_succ→pZ, nodup_range→sE, cons_append→sG, getElem?_set_self→sI, length_pos_of_mem→sQ, range_succ→sS, take_eq_take_min→sX, length_mergeSort→sY, take_append_drop→nB, toList_toArray→nX, filter_sublist→nZ, forIn_toArray→lK, take_sublist→lW, map_set→xG, flatMap_cons→xI, find?_append→xK, drop_length→xP, forIn_cons→x8, filter_nil→aF, drop_zero→aM, perm_cons→aN, all_cons→aX, map_nil→a8
open PySem.Heap renaming get?_push_of_some→kE, lt_size→kU, get?_update_other→k9, get?_push_size→mF, get?_update_self→r6, size_update→wL, get?_none_of_le→cQ, size_push→pD
open Option.some renaming inj→kL
open Bool renaming false_ne_true→kM, and_eq_true→mI, not_eq_true'→g3, eq_iff_iff→rC, or_eq_true→rW, false_eq_true→pJ, true_and→lA, eq_false_iff→l8, and_true→aY
open Nat renaming le_refl→kN, le_trans→k8, lt_of_lt_of_le→mG, zero_le→mL, ne_of_lt→mP, mul_le_mul_right→gY, le_succ→g8, lt_irrefl→dM, ne_of_gt→dN, add_mul→dY, one_mul→dZ, lt_of_le_of_lt→d5, lt_succ_of_lt→rD, lt_succ_self→rK, mul_comm→rU, le_of_eq→wI, succ_mul→cE, zero_add→cF, mod_eq_of_lt→cM, mul_add_mod→cX, le_of_lt→c7, eq_of_mul_eq_mul_right→pL, le_add_right→p8, not_lt→sN, div_lt_iff_lt_mul→nE, add_le_add_right→nO, add_zero→xF, lt_trichotomy→xH, mul_mod_left→xO, min_eq_right→xQ, min_le_right→xT, succ_le_succ→xU, not_lt_zero→aA, min_eq_left→aH
open Int renaming toNat_natCast→mO, le_refl→gO, natCast_mul→dE, natCast_ediv→d3, eq_ofNat_of_zero_le→rM, le_of_lt→wK, mul_le_mul_of_nonneg_right→cO, le_trans→c8, lt_of_lt_of_le→pI, mul_ediv_cancel_left→pV, mul_nonneg→nK, emod_lt_of_pos→lI, not_lt→lM, zero_add→xJ, emod_nonneg→xZ, natCast_add→aG, mul_le_mul→aO, lt_irrefl→a7
open Array renaming length_toList→mY, getElem?_eq_some_iff→wF, getD_eq_getD_getElem?→c9, perm_iff_toList_perm→pK, toList_inj→p9, toList_map→sB, append_assoc→lD, forIn_toList→lL, size_push→aE, map_map→aZ
open List.Pairwise renaming filter→m8, sublist→sZ
open Option renaming map_eq_some_iff→m9, isSome_iff_exists→rG, bind_some→cJ, isSome_map→lZ, getD_none→xM, map_some→x9
open PySem.W renaming mg_of→gB, kia_one→gU, methodCall_KW→d6, mg_none_of→rE, callWith_K→rT, looks_findIn→wD, cellsFrom_some→cB, any_some→cI, plainGet_of→cY, callWith_K0→cZ, codeRec_of→lF, check_slot→lG, make_core→lR, kitx_list→lS, kitx_dict→lT, makes_of→xL, codeHd_of_K→xW
open PySem.PassesOwn renaming never→dF, leaving→pR
open PySem.BindsTo renaming of_defaults→dW
open PyProof.Rows renaming listUpdate_at→dX, get?_update_seq→rX, callWith_type1→r9, seqEpoch_at→cT, listItems_at→pA, subscriptTail_builtinR→sK, size_push'→sO, call_function_entry_kw→sP, entry_list_sort→sR, slot_list_sort→nN, getElem?_mirror_all→nV, wpAny_call_entry_kw→nY, pairsOf_size→xB, plain_sorted→xC, entry_sorted→xD, collect_list→xE, kind_sorted→xV, Subscript_→aJ
open PySem.Obj renaming isFreed_of_fields→d7, data_mapFields→wV
open Decidable renaming byContradiction→d9
open Ne renaming symm→rQ
open PySem.F renaming slot_dict_itemiterator_iter→wR, slot_list_append→wS, type_list_append→wT, plainAttrs_list→cA, plainAttrs_dict→pX, slot_dict_items→sD, slot_object_eq→sF, slot_dict_pop→sV, slot_object_ne→xR, slot_int_rmul→xY
open PySem.Calls renaming callWith_builtin→cC, evalArgs_plain→cR, Name_function_global→pC, spliced_cons→lE, spliced_nil→lU
open PySem.SeqAt.EqAt renaming same→cV, int_int→pF, of_refs→pH, int_str→lB, str_int→lC
open Sum.inl renaming inj→pO
open List.Perm renaming eq_of_pairwise→pU
open PySem.Around renaming frames_deeper→nH
open PySem.Value renaming isStrOf_shape→nP, isInt_shape→lO
open PySem.SeqAt.RcNeAt renaming tuples→nU, lists→lJ
open PySem.Paired renaming length→n9
open PySem.W.Looks renaming here→lN, ld→xN, of_pure→bA, here→bB
open PySem.SeqAt.RcAt renaming tuples→xA
open PySem.SeqAt renaming in_listAt→xX, eq_listAt→x6
open Array.Perm renaming refl→aB
open StateT renaming run_pure→aD
open PySem.EqMixed renaming eq_bool_str→aP, eq_str_bool→aQ, ne_bool_str→aR, ne_str_bool→aS, eq_int_str→aT, eq_str_int→aU, ne_int_str→aV, ne_str_int→aW
open Iff renaming rfl→a9
open PySem.Heap.IsSliceOf renaming new→bC
set_option genSizeOf false
namespace L2
open PySem PySem.Spec PyProof.Rows
noncomputable abbrev Key:=Sum Int Str
noncomputable def q86:Key→Value→Bool
| .inl k,v=>Value.isInt k v
| .inr x,v=>Value.isStrOf x v
noncomputable def keyH(w:World):Key→Int
| .inl k=>hashInt k
| .inr x=>hashStr w x
theorem yB:∀{k:Key} {v:Value},q86 k v=true→(∃i t,k=Sum.inl i∧v=Value.int i t)∨(∃x t,k=Sum.inr x∧v=Value.str x t)
| .inl i,v,h=>by obtain⟨t,e⟩:=lO (k:=i) (v:=v) h;exact .inl ⟨i,t,rfl,e⟩
| .inr x,v,h=>by obtain⟨t,e⟩:=nP (x:=x) (v:=v) h;exact .inr ⟨x,t,rfl,e⟩
theorem qDH(i:Int)(t:Tok):q86 (.inl i) (.int i t)=true:=by simp[q86,Value.isInt]
theorem qDI(x:Str)(t:Tok):q86 (.inr x) (.str x t)=true:=by simp[q86,Value.isStrOf]
theorem qIW(a b:Int):decide ((Sum.inl a:Key)=Sum.inl b)=(a==b):=by(
by_cases e:a=b
·subst e;simp
have h:¬(Sum.inl a:Key)=Sum.inl b:=λq=>e (pO q)
rw[hU h]
exact(dR.mpr e).symm)
theorem qIX(a b:Str):decide ((Sum.inr a:Key)=Sum.inr b)=decide (a=b):=by(
by_cases e:a=b
·subst e;simp
have h:¬(Sum.inr a:Key)=Sum.inr b:=λq=>e (Sum.inr.inj q)
rw[hU h,hU e])
theorem qIY(a:Int)(b:Str):decide ((Sum.inl a:Key)=Sum.inr b)=false:=hU (λq=>nomatch q)
theorem qIZ(a:Str)(b:Int):decide ((Sum.inr a:Key)=Sum.inl b)=false:=hU (λq=>nomatch q)
noncomputable def y8(prog:Program)(w:World):PySem.KeyKind prog w Key where
is:=q86
hash:=keyH w
inj:=λv a b ha hb=>by
 rcases yB ha with⟨i,t,rfl,rfl⟩|⟨x,t,rfl,rfl⟩
 ·rcases yB hb with⟨j,u,rfl,e⟩|⟨y,u,rfl,e⟩
  ·injection e with e1 _;rw[e1]
  exact nomatch e
 rcases yB hb with⟨j,u,rfl,e⟩|⟨y,u,rfl,e⟩
 ·exact nomatch e
 injection e with e1 _;rw[e1]
byValue:=λk v h=>by rcases yB h with⟨i,t,rfl,rfl⟩|⟨x,t,rfl,rfl⟩<;>rfl
pyHash:=λhv h=>by
 rcases yB hv with⟨i,t,rfl,rfl⟩|⟨x,t,rfl,rfl⟩
 ·exact wpAny_pyHash_int h
 exact wpAny_pyHash_str h
eqBool:=λhu hv h=>by
 rcases yB hu with⟨i,t,rfl,rfl⟩|⟨x,t,rfl,rfl⟩
 ·rcases yB hv with⟨j,u,rfl,rfl⟩|⟨y,u,rfl,rfl⟩
  ·rw[qIW]at h;exact wpAny_eqBool_int h
  rw[qIY]at h;exact lB i t y u _ _ _ _ h
 rcases yB hv with⟨j,u,rfl,rfl⟩|⟨y,u,rfl,rfl⟩
 ·rw[qIZ]at h;exact lC x t j u _ _ _ _ h
 rw[qIX]at h;exact wpAny_eqBool_str h
«strs»:=λk x t v h=>by
 rcases yB h with⟨i,u,rfl,e⟩|⟨y,u,rfl,e⟩
 ·exact nomatch e
 injection e with e1 _
 subst e1;cases v<;>rfl
theorem qA5(prog:Program)(w:World)(i:Int)(t:Tok):(y8 prog w).is (.inl i) (.int i t)=true:=qDH i t
theorem qA6(prog:Program)(w:World)(x:Str)(t:Tok):(y8 prog w).is (.inr x) (.str x t)=true:=qDI x t
inductive V where
|non|bl (b:Bool)|int (i:Int)|str (x:Str)|byt (b:Array UInt8)|flt (b:UInt64)|ref (a:Addr)|ty (n:String)
deriving DecidableEq
noncomputable def RelV:V→Value→Prop
| .non,u=>u=Value.none
| .bl b,u=>u=Value.bool b
| .int i,u=>∃t,u=Value.int i t
| .str x,u=>∃t,u=Value.str x t
| .byt b,u=>∃t,u=Value.bytes b t
| .flt b,u=>∃t,u=Value.float b t
| .ref a,u=>u=Value.ref a
| .ty n,u=>u=Value.type n
noncomputable abbrev Vals:List V→List Value→Prop:=Paired RelV
theorem Vals.length{xs:List V}{us:List Value}(r:Vals xs us):xs.length=us.length:=n9 r
theorem Vals.get:∀{xs:List V} {us:List Value} {i:Nat} {x:V},Vals xs us→xs[i]?=some x→∃u,us[i]?=some u∧RelV x u
|_,_,_,_,.nil,e=>by simp at e
|_,_,0,_,.cons r _,e=>by simp at e;subst e;exact⟨_,rfl,r⟩
|_,_,i+1,x,.cons _ t,e=>by obtain⟨u,h1,h2⟩:=Vals.get (i:=i) (x:=x) t (by simpa using e);exact⟨u,by simpa using h1,h2⟩
theorem Vals.set{x:V}{u:Value}(r:RelV x u):∀{xs:List V} {us:List Value} (i:Nat),Vals xs us→Vals (xs.set i x) (us.set i u)
|_,_,_,.nil=>.nil
|_,_,0,.cons _ t=>.cons r t
|_,_,i+1,.cons q t=>.cons q (Vals.set r i t)
theorem Vals.append:∀{xs ys:List V} {us ws:List Value},Vals xs us→Vals ys ws→Vals (xs++ys) (us++ws)
|_,_,_,_,.nil,s=>s
|_,_,_,_,.cons r t,s=>.cons r (Vals.append t s)
theorem Vals.take:∀{xs:List V} {us:List Value} (n:Nat),Vals xs us→Vals (xs.take n) (us.take n)
|_,_,0,_=>.nil
|_,_,_ +1,.nil=>.nil
|_,_,n+1,.cons r t=>.cons r (Vals.take n t)
theorem Vals.drop:∀{xs:List V} {us:List Value} (n:Nat),Vals xs us→Vals (xs.drop n) (us.drop n)
|_,_,0,r=>r
|_,_,_ +1,.nil=>.nil
|_,_,n+1,.cons _ t=>Vals.drop n t
noncomputable def RelO:Option V→Option Value→Prop
|some v,some u=>RelV v u
|none,none=>True
|_,_=>False
noncomputable def KV{κ:Type}:List (κ×V)→List (κ×Value)→Prop:=Paired λ(p:κ×V) (q:κ×Value)=>p.1=q.1∧RelV p.2 q.2
noncomputable def kV:Key→V
| .inl i=>.int i
| .inr x=>.str x
inductive HO where
|lst (xs:List V)
|tup (xs:List V)
|dK (kvs:List (Key×V))|dT (kvs:List (List Key×V))
|set (S:Int→Bool) (n:Nat)
|ins (C dx:Addr) (fs:List (Str×V))
|own (x:Addr)
|xd (fs:List (Str×V))
|met (f x:Addr)
|rng (lo hi:Int)
|frz (o:Obj) (u:HO)
|tbl (ps:Array Value)
|ext (φ:Heap→Prop)
noncomputable abbrev Hp:=Addr→Option HO
noncomputable def upd(H:Hp)(a:Addr)(o:HO):Hp:=λb=>if b=a then some o else H b
theorem qI{H:Hp}{a:Addr}{o:HO}:upd H a o a=some o:=by unfold upd;rw[kF rfl]
theorem qC{H:Hp}{a b:Addr}{o:HO}(h:b≠a):upd H a o b=H b:=by unfold upd;rw[hV h]
theorem q0T{H:Hp}{a:Addr}{o u:HO}:upd (upd H a o) a u=upd H a u:=by funext b;unfold upd;split<;>rfl
theorem jH{H:Hp}{a b:Addr}{o u:HO}(h:H a=some o)(h':H b=some u)(d:o≠u):a≠b:=by intro e;subst e;rw[h]at h';exact d (kL h')
theorem qH{H:Hp}{a b:Addr}{o:HO}(h:H a=some o)(h':H b=none):a≠b:=by intro e;subst e;rw[h]at h';cases h'
section
variable(P:Program)(w:World)
noncomputable def jK(H:Hp)(h:Heap)(a:Addr):HO→Prop
| .lst xs=>xs.length≤sizeLine∧∃(its:List Value) (n:Nat),Vals xs its∧h.get? a=some { cls:=.type "list",data:=.seq its.toArray n }
| .tup xs=>xs.length≤sizeLine∧∃its:List Value,Vals xs its∧IsTup h a its.toArray
| .dK kvs=>kvs.length≤sizeLine∧(a==sysModules)=false∧∃vs,KV kvs vs∧h.DictOf (y8 P w) a vs
| .dT kvs=>kvs.length≤sizeLine∧(a==sysModules)=false∧∃xs:List (List Key×Addr×Value),Paired (λ(p:List Key×V) (q:List Key×Addr×Value)=>p.1=q.1∧H q.2.1=some (.tup (p.1.map kV))∧RelV p.2 q.2.2) kvs xs∧∃o es ep,h.get? a=some o∧o.ExactDict∧o.data=.dict es ep∧es.toList=xs.map (entryOfKey (tupleKind (y8 P w)))∧(xs.map (·.1)).Nodup
| .set S n=>h.SetOf (intKind P w) a S n
| .ins C dx fs=>H dx=some (.own a)∧fs.length≤1000∧dx≠a∧h.get? a=some (PySem.W.instObj C dx)∧∃mA,h.Ns1 dx mA∧(∀f,RelO (fs.lookup f) (mA f))∧PySem.Within mA (fs.map (·.1))
| .own _=>∃o,h.get? a=some o
| .xd fs=>∃mA,h.Ns1 a mA∧∀f,RelO (fs.lookup f) (mA f)
| .rng lo hi=>∃t u v,h.get? a=some { cls:=.type "range",data:=.fields #[.int lo t,.int hi u,.int 1 v] }
| .frz o u=>h.get? a=some o∧jK H h a u
| .tbl ps=>h.get? a=some { cls:=.none,data:=.fields ps }
| .met f x=>h.get? a=some (PySem.W.methodObj (.ref f) (.ref x))
| .ext φ=>φ h∧(∃o,h.get? a=some o)∧∀h1 h2:Heap,φ h1→(∀o,h1.get? a=some o→h2.get? a=some o)→φ h2
noncomputable def HOk(H:Hp)(h:Heap):Prop:=∀a o,H a=some o→jK P w H h a o
end
section
variable{P:Program}{w:World}{H H':Hp}{h h':Heap}{a:Addr}{o:HO}
theorem jK.lt(x:jK P w H h a o):a<h.objs.size:=by(
cases o with
|lst xs=>obtain⟨_,_,_,_,e⟩:=x;exact kU e
|tup xs=>obtain⟨_,_,_,p⟩:=x;exact p.lt
|dK kvs=>obtain⟨_,_,_,_,o,_,_,e,_⟩:=x;exact kU e
|dT kvs=>obtain⟨_,_,_,_,o,_,_,e,_⟩:=x;exact kU e
|set S n=>obtain⟨o,_,_,_,e,_⟩:=x;exact kU e
|ins C dx fs=>obtain⟨_,_,_,e,_⟩:=x;exact kU e
|own y=>obtain⟨_,e⟩:=x;exact kU e
|xd fs=>obtain⟨_,⟨_,_,_,e,_⟩,_⟩:=x;exact kU e
|rng lo hi=>obtain⟨_,_,_,e⟩:=x;exact kU e
|frz ob u=>obtain⟨e,_⟩:=x;exact kU e
|tbl ps=>exact kU (show h.get? a=some _ from x)
|met f y=>exact kU (show h.get? a=some _ from x)
|ext φ=>obtain⟨_,⟨_,e⟩,_⟩:=x;exact kU e)
theorem Paired.mapP{α β:Type}{F G:α→β→Prop}:∀{l₁:List α} {l₂:List β},Paired F l₁ l₂→(∀a b,F a b→G a b)→Paired G l₁ l₂
|_,_,.nil,_=>.nil
|_,_,.cons r t,f=>.cons (f _ _ r) (Paired.mapP t f)
theorem Paired.imp'{α β:Type}{F G:α→β→Prop}(f:∀a b,F a b→G a b){l₁:List α}{l₂:List β}(r:Paired F l₁ l₂):Paired G l₁ l₂:=Paired.mapP r f
theorem jK.stay(x:jK P w H h a o)(k:∀b u,(b=a∨H b=some (.own a))→h.get? b=some u→h'.get? b=some u)
 (ho:∀b,H b=some (.own a)→H' b=some (.own a)) (ht:∀b xs,H b=some (.tup xs)→H' b=some (.tup xs)):jK P w H' h' a o:=by(
induction o with
|lst xs=>obtain⟨z,its,n,r,e⟩:=x;exact⟨z,its,n,r,k _ _ (.inl rfl) e⟩
|tup xs=>obtain⟨z,its,r,ob,e,c⟩:=x;exact⟨z,its,r,ob,k _ _ (.inl rfl) e,c⟩
|dK kvs=>obtain⟨z,y,vs,r,ob,es,ep,e,c⟩:=x;exact⟨z,y,vs,r,ob,es,ep,k _ _ (.inl rfl) e,c⟩
|dT kvs=>obtain⟨z,y,xs,r,ob,es,ep,e,c⟩:=x;exact⟨z,y,xs,Paired.mapP r λp q z=>⟨z.1,ht _ _ z.2.1,z.2.2⟩,ob,es,ep,k _ _ (.inl rfl) e,c⟩
|set S n=>obtain⟨ob,es,ep,t,e,c⟩:=x;exact⟨ob,es,ep,t,k _ _ (.inl rfl) e,c⟩
|ins C dx fs=>obtain⟨d,z,ne,e,mA,⟨od,es,ep,e2,c⟩,r⟩:=x;exact⟨ho _ d,z,ne,k _ _ (.inl rfl) e,mA,⟨od,es,ep,k _ _ (.inr d) e2,c⟩,r⟩
|own y=>obtain⟨ob,e⟩:=x;exact⟨ob,k _ _ (.inl rfl) e⟩
|xd fs=>obtain⟨mA,⟨od,es,ep,e,c⟩,r⟩:=x;exact⟨mA,⟨od,es,ep,k _ _ (.inl rfl) e,c⟩,r⟩
|rng lo hi=>obtain⟨t,u,v,e⟩:=x;exact⟨t,u,v,k _ _ (.inl rfl) e⟩
|frz ob u ih=>obtain⟨e,q⟩:=x;exact⟨k _ _ (.inl rfl) e,ih q⟩
|tbl ps=>have e:h.get? a=some { cls:=.none,data:=.fields ps }:=x;show h'.get? a=some { cls:=.none,data:=.fields ps };exact k a _ (.inl rfl) e
|met f y=>have e:h.get? a=some (PySem.W.methodObj (.ref f) (.ref y)):=x;show h'.get? a=some (PySem.W.methodObj (.ref f) (.ref y));exact k a _ (.inl rfl) e
|ext φ=>obtain⟨p,⟨o,e⟩,st⟩:=x;exact⟨st _ _ p λo q=>k _ _ (.inl rfl) q,⟨o,k _ _ (.inl rfl) e⟩,st⟩)
theorem HOk.lt(x:HOk P w H h)(e:H a=some o):a<h.objs.size:=(x a o e).lt
theorem HOk.fresh(x:HOk P w H h)(e:h.objs.size≤a):H a=none:=by(
cases q:H a with
|none=>rfl
|some u=>exact absurd (mG (x.lt q) e) (dM _))
theorem HOk.kept(x:HOk P w H h)(k:∀b u,h.get? b=some u→h'.get? b=some u):HOk P w H h':=λa o e=>(x a o e).stay (λb u _ q=>k b u q) (λ_ q=>q) λ_ _ q=>q
theorem HOk.laid(x:HOk P w H h)(k:∀b u,h.get? b=some u→h'.get? b=some u)(hp:h.objs.size≤a)(new:jK P w (upd H a o) h' a o):HOk P w (upd H a o) h':=λb u e=>by(
have hn:=x.fresh hp
by_cases hb:b=a
·subst hb;rw[qI]at e;cases e;exact new
rw[qC hb]at e
exact(x b u e).stay (λc v _ q=>k c v q) (λc q=>by rw[qC (qH q hn)];exact q) λc xs q=>by rw[qC (qH q hn)];exact q)
end
noncomputable def Rd(H:Hp)(a:Addr)(u:HO):Prop:=H a=some u∨∃o,H a=some (.frz o u)
theorem Rd.ok{P:Program}{w:World}{H:Hp}{h:Heap}{a:Addr}{u:HO}(r:Rd H a u)(x:HOk P w H h):jK P w H h a u:=by(
rcases r with r|⟨o,r⟩
·exact x a u r
obtain⟨_,q⟩:=x a _ r
exact q)
noncomputable def Mut:Option HO→Prop
|some (.lst _)=>True
|some (.dK _)=>True
|some (.dT _)=>True
|some (.set _ _)=>True
|some (.ins _ _ _)=>True
|some (.ext _)=>True
|_=>False
section
variable{P:Program}{w:World}{H:Hp}{h h':Heap}{x e:Addr}{o':HO}
theorem HOk.write(ok:HOk P w H h)(mu:Mut (H x))(he:e=x∨H e=some (.own x))(k:∀b u,b≠e→h.get? b=some u→h'.get? b=some u)(heo:∃u,h'.get? e=some u)
 (new:jK P w (upd H x o') h' x o'):HOk P w (upd H x o') h':=λb u q=>by(
have nown:∀c y,H c=some (.own y)→c≠x:=λc y r z=>by subst z;rw[r]at mu;exact mu
have ntup:∀c xs,H c=some (.tup xs)→c≠x:=λc xs r z=>by subst z;rw[r]at mu;exact mu
by_cases hb:b=x
·subst hb;rw[qI]at q;cases q;exact new
rw[qC hb]at q
by_cases hbe:b=e
·have q':H b=some (.own x):=by
  rcases he with z|z
  ·exact absurd (hbe.trans z) hb
  rw[hbe];exact z
 rw[q]at q';cases q';obtain⟨v,hv⟩:=heo;exact⟨v,by rw[hbe];exact hv⟩
refine(ok b u q).stay (λc v hc r=>k c v ?_ r) (λc r=>by rw[qC (nown c b r)];exact r) λc xs r=>by rw[qC (ntup c xs r)];exact r
rcases hc with rfl|hc
·exact hbe
rintro rfl
rcases he with z|z
·exact nown c b hc z
rw[hc]at z;cases z;exact hb rfl)
end
structure Un(fs ex:List Addr)(H H':Hp)(h h':Heap):Prop where
keep:∀b o,h.get? b=some o→H b=none→b∉fs→b∉ex→h'.get? b=some o
slot:∀b o,h.get? b=some o→H b=none→b∈fs→b∉ex→∃sl,h'.get? b=some { o with slots:=sl }
free:∀b o,h.get? b=some o→H b=none→b∉ex→H' b=none
there:∀b o,h.get? b=some o→b∉ex→∃o',h'.get? b=some o'
tups:∀b xs,H b=some (.tup xs)→H' b=some (.tup xs)
frzs:∀b o u,H b=some (.frz o u)→H' b=some (.frz o u)
tbls:∀b ps,H b=some (.tbl ps)→∃more,H' b=some (.tbl (ps++more))
section
variable{fs fs' ex ex':List Addr}{H H1 H2:Hp}{h h1 h2 h':Heap}{a x e:Addr}{o:HO}
theorem Un.any(u:Un fs ex H H1 h h1){b:Addr}{ob:Obj}(q:h.get? b=some ob)(n:H b=none)(hx:b∉ex):∃sl,h1.get? b=some { ob with slots:=sl }:=by(
by_cases hb:b∈fs
·exact u.slot b ob q n hb hx
exact⟨ob.slots,u.keep b ob q n hb hx⟩)
theorem Un.trans(a:Un fs ex H H1 h h1)(b:Un fs ex H1 H2 h1 h2):Un fs ex H H2 h h2 where
keep:=λc ob q n hc hx=>b.keep c ob (a.keep c ob q n hc hx) (a.free c ob q n hx) hc hx
slot:=λc ob q n hc hx=>by obtain⟨sl,e1⟩:=a.slot c ob q n hc hx;obtain⟨sl',e2⟩:=b.slot c _ e1 (a.free c ob q n hx) hc hx;exact⟨sl',e2⟩
free:=λc ob q n hx=>by obtain⟨o',e1⟩:=a.there c ob q hx;exact b.free c o' e1 (a.free c ob q n hx) hx
there:=λc ob q hx=>by obtain⟨o',e1⟩:=a.there c ob q hx;exact b.there c o' e1 hx
tups:=λc xs q=>b.tups c xs (a.tups c xs q)
frzs:=λc ob xs q=>b.frzs c ob xs (a.frzs c ob xs q)
tbls:=λc ps q=>by obtain⟨m1,e1⟩:=a.tbls c ps q;obtain⟨m2,e2⟩:=b.tbls c _ e1;exact⟨m1++m2,by rw[e2,lD]⟩
theorem Un.kept(k:∀b u,h.get? b=some u→h'.get? b=some u):Un fs ex H H h h':=⟨λb ob q _ _ _=>k b ob q,λb ob q _ _ _=>⟨ob.slots,k b ob q⟩,λ_ _ _ n _=>n,λb ob q _=>⟨ob,k b ob q⟩,λ_ _ q=>q,λ_ _ _ q=>q,λ_ ps q=>⟨#[],by rw[q];simp⟩⟩
theorem Un.refl:Un fs ex H H h h:=Un.kept λ_ _ q=>q
theorem Un.laid(k:∀b u,h.get? b=some u→h'.get? b=some u)(hp:h.objs.size≤a)(hn:H a=none):Un fs ex H (upd H a o) h h' where
keep:=λb u q _ _ _=>k b u q
slot:=λb u q _ _ _=>⟨u.slots,k b u q⟩
free:=λb u q n _=>by rw[qC (mP (mG (kU q) hp))];exact n
there:=λb u q _=>⟨u,k b u q⟩
tups:=λb xs q=>by rw[qC (qH q hn)];exact q
frzs:=λb u xs q=>by rw[qC (qH q hn)];exact q
tbls:=λb ps q=>⟨#[],by rw[qC (qH q hn),q];simp⟩
theorem Un.write(mu:Mut (H x))(he:e=x∨H e=some (.own x))(k:∀b u,b≠e→h.get? b=some u→h'.get? b=some u)(heo:∃u,h'.get? e=some u):Un fs ex H (upd H x o) h h':=by(
have hx:∀b,H b=none→b≠x:=λb n z=>by subst z;rw[n]at mu;exact mu
have hb:∀b,H b=none→b≠e:=λb n z=>by
 subst z;rcases he with r|r
 ·exact hx b n r
 rw[n]at r;cases r
have hm:∀b u,H b=some u→¬Mut (some u)→b≠x:=λb u q nm z=>by subst z;rw[q]at mu;exact nm mu
refine⟨λb u q n _ _=>k b u (hb b n) q,λb u q n _ _=>⟨u.slots,k b u (hb b n) q⟩,λb u q n _=>by rw[qC (hx b n)];exact n,λb u q _=>?_,λb xs q=>by rw[qC (hm b _ q λz=>z)];exact q,λb u xs q=>by rw[qC (hm b _ q λz=>z)];exact q,λb ps q=>⟨#[],by rw[qC (hm b _ q λz=>z),q];simp⟩⟩
by_cases hbe:b=e
·subst hbe;exact heo
exact⟨u,k b u hbe q⟩)
end
noncomputable def trk(h:Heap)(H:Hp):List Addr:=(List.range h.objs.size).filter λa=>(H a).isSome
noncomputable def hidT(h:Heap)(H:Hp):Heap:=PySem.W.hideAll h (trk h H)
theorem q4N(h:Heap)(H:Hp):(hidT h H).objs.size=h.objs.size:=PySem.W.hideAll_size _ _
theorem q1U{h:Heap}{H:Hp}{b:Addr}{o:Obj}(e:h.get? b=some o)(n:H b=none):(hidT h H).get? b=some o:=PySem.W.hideAll_get _ e λhm=>by  have q:(H b).isSome=true:=(mK.mp hm).2;rw[n]at q;simp at q
theorem q8X{h:Heap}{H:Hp}{b:Addr}{o:Obj}(e:(hidT h H).get? b=some o):h.get? b=some o∧H b=none:=by(
have e':h.get? b=some o:=PySem.W.of_hideAll (trk h H) e
refine⟨e',?_⟩
cases q:H b with
|none=>rfl
|some x=>have hm:b∈trk h H:=mK.mpr ⟨mE.mpr (kU e'),by simp[q]⟩;have z:(hidT h H).get? b=none:=PySem.W.hideAll_none (trk h H) hm;rw[z]at e;cases e)
structure Mod(K:PySem.W.Frag)(mg:Str→Option Value)(base:Heap):Prop where
kin:K.In base
glob:base.Ns mainGlobals mg
blt:∃mb,base.Ns builtinsNs mb∧∀x:Str,x≠"__name__"→mb x=bootBuiltins x
nolimit:base.NoLimit
structure Cx where
prog:Program
w:World
K:PySem.W.Frag
mg:Str→Option Value
base:Heap
A:Around
N:List Str
s₀:Shared
H₀:Hp
env:Env
outer:List Env
stack:List Env
ex:List Addr
fn:Str→Bool
calm:Bool
pn:List (Addr×Obj)
xe:Value→Shared→Prop
noncomputable def frs(l:List Env):List Addr:=l.filterMap (·.frame)
noncomputable abbrev Cx.fs(X:Cx):List Addr:=frs X.outer
noncomputable def Vis(sc:Scope)(x:Str):Prop:=sc.names.lookup x=some .local∨sc.names.lookup x=some .cell∨sc.names.lookup x=some .free
noncomputable def Loc(sc:Scope)(x:Str):Prop:=sc.names.lookup x=some .local∨sc.names.lookup x=some .cell
noncomputable def Look(env:Env)(h:Heap)(m:Str→Option Value)(x:Str)(u:Value):Prop:=(env.kindOf x=some .local∧m x=some u)∨((env.kindOf x=some .cell∨env.kindOf x=some .free)∧∃c,env.cells.lookup x=some c∧h.IsCell c (some u))
structure Cx.Ok(X:Cx):Prop where
mod:Mod X.K X.mg X.base
kind:X.env.scope.kind=.function
glob:X.env.globals=mainGlobals
blt:X.env.builtins=builtinsNs
above:X.s₀.heap.objs.size≤X.env.locals
inj:∀x y c,X.env.cells.lookup x=some c→X.env.cells.lookup y=some c→x=y
has:∀x,(X.env.kindOf x=some .cell∨X.env.kindOf x=some .free)→∃c,X.env.cells.lookup x=some c
cab:∀x c,X.fn x=true→X.env.cells.lookup x=some c→X.s₀.heap.objs.size≤c
hd:X.calm=true→X.A.handled=none
frames:X.A.frames=some X.stack
stk:X.stack=X.outer∨(X.stack=X.env::X.outer∧X.env.frame=some X.env.locals)
exf:∀b∈X.ex,b≠X.env.locals∧∀x c,X.env.cells.lookup x=some c→c≠b
bs:∀b o,X.base.get? b=some o→X.s₀.heap.get? b=some o∧X.H₀ b=none
bsz:X.base.objs.size≤X.s₀.heap.objs.size
noex:∀b o,X.base.get? b=some o→b∉X.ex
exfs:∀b∈X.ex,b∉X.fs
funs:X.s₀.heap.FunFrames X.base X.outer
frf:∀b∈X.fs,X.H₀ b=none
structure Inv(X:Cx)(pins:List (Addr×Obj))(σ:List (Option V))(H:Hp)(s:Shared):Prop where
ok:X.Ok
os:s.os=X.s₀.os
bare:AllBare s.gens
base:Un X.fs X.ex X.H₀ H X.s₀.heap s.heap
loc:∃m,s.heap.Ns X.env.locals m∧∀(i:Nat) (x:Str) (v:V),X.N[i]?=some x→σ[i]?=some (some v)→Vis X.env.scope x→∃u,RelV v u∧Look X.env s.heap m x u
cell:∀x c,X.env.cells.lookup x=some c→∃v,s.heap.IsCell c v
free:H X.env.locals=none
freeC:∀x c,X.env.cells.lookup x=some c→H c=none
pin:∀p∈X.pn++pins,s.heap.get? p.1=some p.2∧H p.1=none∧p.1≠X.env.locals∧p.1∉X.fs∧∀v,p.2.data≠ .cell v
hok:HOk X.prog X.w H s.heap
len:σ.length=X.N.length
section
variable{X:Cx}{pins:List (Addr×Obj)}{σ:List (Option V)}{H H':Hp}{s:Shared}{h':Heap}
theorem Cx.Ok.nofr(ok:X.Ok){b:Addr}{o:Obj}(e:X.base.get? b=some o):b∉X.fs:=λhb=>by have:=(ok.funs.mem hb).1;rw[e]at this;cases this
theorem Inv.bs(I:Inv X pins σ H s):∀b o,X.base.get? b=some o→s.heap.get? b=some o∧H b=none:=λb o e=>⟨I.base.keep b o (I.ok.bs b o e).1 (I.ok.bs b o e).2 (I.ok.nofr e) (I.ok.noex b o e),I.base.free b o (I.ok.bs b o e).1 (I.ok.bs b o e).2 (I.ok.noex b o e)⟩
theorem Inv.bk(I:Inv X pins σ H s):∀b o,X.base.get? b=some o→s.heap.get? b=some o:=λb o e=>(I.bs b o e).1
theorem Inv.mod(I:Inv X pins σ H s):Mod X.K X.mg X.base:=I.ok.mod
theorem Inv.kIn(I:Inv X pins σ H s):X.K.In s.heap:=I.ok.mod.kin.keeps I.bk
theorem Inv.fr(I:Inv X pins σ H s):∃m,Fr X.base X.env.locals s.heap m:=let⟨m,hn,_⟩:=I.loc
 ⟨m,hn,I.bk,k8 I.ok.bsz I.ok.above⟩
theorem Inv.lt(I:Inv X pins σ H s):X.env.locals<s.heap.objs.size:=let⟨_,hn,_⟩:=I.loc;hn.lt
theorem Inv.sz(I:Inv X pins σ H s):X.s₀.heap.objs.size≤s.heap.objs.size:=k8 I.ok.above (c7 I.lt)
theorem Inv.nofs(I:Inv X pins σ H s){a:Addr}(h:s.heap.objs.size≤a):a∉X.fs:=λhb=>by obtain⟨_,o,ho,_⟩:=I.ok.funs.mem hb;exact absurd (mG (kU ho) (k8 I.sz h)) (dM _)
theorem Inv.cne(I:Inv X pins σ H s):∀x c,X.env.cells.lookup x=some c→c≠X.env.locals:=λx c e z=>by obtain⟨v,o,ho,hd⟩:=I.cell x c e;obtain⟨m,⟨o',es,ep,ho',hd',_⟩,_⟩:=I.loc;rw[z,ho']at ho;cases ho;rw[hd']at hd;cases hd
theorem Inv.funs(I:Inv X pins σ H s):s.heap.FunFrames X.base X.outer:=by(
have all:∀(l:List Env),(∀b∈frs l,b∈X.fs)→X.s₀.heap.FunFrames X.base l→s.heap.FunFrames X.base l:=by
 intro l;induction l with
 |nil=>intro _ _;trivial
 |cons env r ih=>intro hs hl;obtain⟨hk,⟨L,o,hf,hn,ho,hd⟩,hr⟩:=hl;have hL:L∈X.fs:=hs L (by unfold frs;rw[rH,hf];exact kQ);obtain⟨sl,e⟩:=I.base.slot L o ho (I.ok.frf L hL) hL λz=>I.ok.exfs L z hL;exact⟨hk,⟨L,_,hf,hn,e,hd⟩,ih (λb hb=>hs b (by unfold frs;rw[rH,hf];exact kB _ hb)) hr⟩
exact all X.outer (λ_ hb=>hb) I.ok.funs)
theorem Inv.stack(I:Inv X pins σ H s):s.heap.FunFrames X.base X.stack:=by(
rcases I.ok.stk with e|⟨e,hf⟩
·rw[e];exact I.funs
rw[e]
obtain⟨m,hn,_⟩:=I.loc
refine .cons (by rw[I.ok.kind];decide) hf hn ?_ I.funs
exact cQ (k8 I.ok.bsz I.ok.above))
theorem Inv.stkSub(I:Inv X pins σ H s):∀b∈frs X.stack,b∈X.env.locals::X.fs:=λb hb=>by(
rcases I.ok.stk with e|⟨e,hf⟩
·rw[e]at hb;exact kB _ hb
rw[e]at hb
unfold frs at hb
rw[rH,hf]at hb
exact hb)
theorem Inv.stkFree(I:Inv X pins σ H s):∀b∈frs X.stack,H b=none:=λb hb=>by(
rcases kJ.mp (I.stkSub b hb)with e|hb
·rw[e];exact I.free
obtain⟨_,o,ho,_⟩:=I.ok.funs.mem hb
exact I.base.free b o ho (I.ok.frf b hb) λz=>I.ok.exfs b z hb)
theorem Inv.step{g':Array GenState}{t':Nat}{d':Drawn}{ch:List Addr}(I:Inv X pins σ H s)
 (hch:∀b∈ch,(b∈X.ex∨X.s₀.heap.objs.size≤b)∧b≠X.env.locals∧(∀x c,X.env.cells.lookup x=some c→c≠b)∧∀p∈X.pn++pins,p.1≠b)
 (keep:∀b o,b≠X.env.locals→b∉X.fs→b∉ch→s.heap.get? b=some o→H b=none→h'.get? b=some o)
 (slot:∀b o,b≠X.env.locals→b∈X.fs→b∉ch→s.heap.get? b=some o→H b=none→∃sl,h'.get? b=some { o with slots:=sl }) (free:∀b o,b∉ch→s.heap.get? b=some o→H b=none→H' b=none)
 (there:∀b o,b∉ch→s.heap.get? b=some o→∃o',h'.get? b=some o')
 (tups:∀b xs,H b=some (.tup xs)→H' b=some (.tup xs)) (frzs:∀b o u,H b=some (.frz o u)→H' b=some (.frz o u)) (tbls:∀b ps,H b=some (.tbl ps)→∃more,H' b=some (.tbl (ps++more)))
 (ns:∀m,s.heap.Ns X.env.locals m→h'.Ns X.env.locals m) (hok:HOk X.prog X.w H' h') (hg:AllBare g'):
 Inv X pins σ H' { s with heap:=h',gens:=g',drawn:=d',toks:=t' }:=by(
have neL:∀b o,X.s₀.heap.get? b=some o→b≠X.env.locals:=λb o e=>mP (mG (kU e) I.ok.above)
have neC:∀b o,X.s₀.heap.get? b=some o→b∉X.ex→b∉ch:=λb o e hx hb=>by
 rcases(hch b hb).1 with z|z
 ·exact hx z
 exact absurd (mG (kU e) z) (dM _)
have cellK:∀x c,X.env.cells.lookup x=some c→∀v,s.heap.IsCell c v→h'.IsCell c v:=λx c e v ⟨o,ho,hd⟩=>by
 have nch:c∉ch:=λz=>(hch c z).2.2.1 x c e rfl;by_cases hc:c∈X.fs
 ·obtain⟨sl,q⟩:=slot c o (I.cne x c e) hc nch ho (I.freeC x c e);exact⟨_,q,hd⟩
 exact⟨o,keep c o (I.cne x c e) hc nch ho (I.freeC x c e),hd⟩
refine⟨I.ok,I.os,hg,⟨λb o e n hb hx=>?_,λb o e n hb hx=>?_,λb o e n hx=>?_,λb o e hx=>?_,λb xs e=>tups b xs (I.base.tups b xs e),λb o xs e=>frzs b o xs (I.base.frzs b o xs e),λb ps e=>?_⟩,?_,λx c e=>?_,?_,λx c e=>?_,λp hp=>?_,hok,I.len⟩
·exact keep b o (neL b o e) hb (neC b o e hx) (I.base.keep b o e n hb hx) (I.base.free b o e n hx)
·obtain⟨sl,e1⟩:=I.base.slot b o e n hb hx;obtain⟨sl',e2⟩:=slot b _ (neL b o e) hb (neC b o e hx) e1 (I.base.free b o e n hx);exact⟨sl',e2⟩
·obtain⟨o',e1⟩:=I.base.there b o e hx;exact free b o' (neC b o e hx) e1 (I.base.free b o e n hx)
·obtain⟨o',e1⟩:=I.base.there b o e hx;exact there b o' (neC b o e hx) e1
·obtain⟨m1,e1⟩:=I.base.tbls b ps e;obtain⟨m2,e2⟩:=tbls b _ e1;exact⟨m1++m2,by rw[e2,lD]⟩
·obtain⟨m,hn,hl⟩:=I.loc;refine⟨m,ns m hn,λi x v e1 e2 e3=>?_⟩;obtain⟨u,r,l⟩:=hl i x v e1 e2 e3;refine⟨u,r,?_⟩;rcases l with l|⟨k,c,e,z⟩
 ·exact .inl l
 exact .inr ⟨k,c,e,cellK x c e _ z⟩
·obtain⟨v,z⟩:=I.cell x c e;exact⟨v,cellK x c e v z⟩
·obtain⟨m,⟨o,_,_,ho,_⟩,_⟩:=I.loc;exact free _ o (λz=>(hch _ z).2.1 rfl) ho I.free
·obtain⟨v,o,ho,hd⟩:=I.cell x c e;exact free c o (λz=>(hch c z).2.2.1 x c e rfl) ho (I.freeC x c e)
obtain⟨e,n,ne,nf,d⟩:=I.pin p hp
have nch:p.1∉ch:=λz=>(hch p.1 z).2.2.2 p hp rfl
exact⟨keep p.1 p.2 ne nf nch e n,free p.1 p.2 nch e n,ne,nf,d⟩)
theorem Inv.un{t':Nat}(I:Inv X pins σ H s)(u:Un X.fs [] H H' s.heap h')(hok:HOk X.prog X.w H' h'):Inv X pins σ H' { s with heap:=h',toks:=t' }:=by obtain⟨m,⟨o,es,ep,ho,r⟩,_⟩:=id I.loc;obtain⟨sl,hL⟩:=u.any ho I.free (by simp);exact I.step (g':=s.gens) (d':=s.drawn) (ch:=[]) (λ_ z=>nomatch z) (λb o _ hb _ e n=>u.keep b o e n hb (by simp)) (λb o _ hb _ e n=>u.slot b o e n hb (by simp)) (λb o _ e n=>u.free b o e n (by simp)) (λb o _ e=>u.there b o e (by simp)) u.tups u.frzs u.tbls (λm' hm=>by obtain⟨o',es',ep',ho',r'⟩:=hm;rw[ho]at ho';cases ho';exact⟨_,es',ep',hL,r'⟩) hok I.bare
theorem Inv.call{g':Array GenState}{t':Nat}{d':Drawn}{ch:List Addr}(I:Inv X pins σ H s)(u:Un (frs X.stack) ch H H' s.heap h')(hok:HOk X.prog X.w H' h')(hg:AllBare g')
 (hch:∀b∈ch,(b∈X.ex∨X.s₀.heap.objs.size≤b)∧b≠X.env.locals∧(∀x c,X.env.cells.lookup x=some c→c≠b)∧∀p∈X.pn++pins,p.1≠b):
 Inv X pins σ H' { s with heap:=h',gens:=g',drawn:=d',toks:=t' }:=by obtain⟨m,⟨o,es,ep,ho,r⟩,_⟩:=id I.loc;obtain⟨sl,hL⟩:=u.any ho I.free λz=>(hch _ z).2.1 rfl;exact I.step (ch:=ch) hch (λb o hL hb hc e n=>u.keep b o e n (λz=>(kJ.mp (I.stkSub b z)).elim hL hb) hc) (λb o _ _ hc e n=>u.any e n hc) (λb o hc e n=>u.free b o e n hc) (λb o hc e=>u.there b o e hc) u.tups u.frzs u.tbls (λm' hm=>by obtain⟨o',es',ep',ho',r'⟩:=hm;rw[ho]at ho';cases ho';exact⟨_,es',ep',hL,r'⟩) hok hg
theorem Inv.turned{t':Nat}{it:Addr}(I:Inv X pins σ H s)(k:∀b o,b≠it→s.heap.get? b=some o→h'.get? b=some o)(hn:H it=none)(hL:it≠X.env.locals)
 (h1:it∈X.ex∨X.s₀.heap.objs.size≤it) (h2:∀x c,X.env.cells.lookup x=some c→c≠it) (h3:∀p∈X.pn++pins,p.1≠it):Inv X pins σ H { s with heap:=h',toks:=t' }:=by(
have nit:∀b u,H b=some u→b≠it:=λb u e z=>by rw[z,hn]at e;cases e
refine I.step (g':=s.gens) (d':=s.drawn) (ch:=[it]) (λb hb=>?_) (λb o _ _ hc e _=>k b o (λz=>hc (by simp[z])) e) (λb o _ _ hc e _=>⟨o.slots,k b o (λz=>hc (by simp[z])) e⟩) (λ_ _ _ _ n=>n)
 (λb o hc e=>⟨o,k b o (λz=>hc (by simp[z])) e⟩) (λ_ _ e=>e) (λ_ _ _ e=>e) (λb ps e=>⟨#[],by rw[e];simp⟩) (λm hm=>?_) (λb u e=>?_) I.bare
·have e:b=it:=by simpa using hb
 subst e;exact⟨h1,hL,h2,h3⟩
·obtain⟨o,es,ep,ho,r⟩:=hm;exact⟨o,es,ep,k _ o (rQ hL) ho,r⟩
refine(I.hok b u e).stay (λc v hc q=>k c v ?_ q) (λ_ q=>q) λ_ _ q=>q
rcases hc with z|z
·rw[z];exact nit b u e
exact nit c _ z)
theorem Inv.tok(I:Inv X pins σ H s)(t:Nat):Inv X pins σ H { s with toks:=t }:=I.un (h':=s.heap) (t':=t) Un.refl I.hok
theorem Inv.kept{t':Nat}(I:Inv X pins σ H s)(k:∀b u,s.heap.get? b=some u→h'.get? b=some u):Inv X pins σ H { s with heap:=h',toks:=t' }:=I.un (Un.kept k) (I.hok.kept k)
theorem Inv.laid{a:Addr}{o:HO}{t':Nat}(I:Inv X pins σ H s)(k:∀b u,s.heap.get? b=some u→h'.get? b=some u)(hp:s.heap.objs.size≤a)(new:jK X.prog X.w (upd H a o) h' a o):
 Inv X pins σ (upd H a o) { s with heap:=h',toks:=t' }:=I.un (Un.laid k hp (I.hok.fresh hp)) (I.hok.laid k hp new)
theorem Inv.write{x e:Addr}{o:HO}{t':Nat}(I:Inv X pins σ H s)(mu:Mut (H x))(he:e=x∨H e=some (.own x))(k:∀b u,b≠e→s.heap.get? b=some u→h'.get? b=some u)(heo:∃u,h'.get? e=some u)
 (new:jK X.prog X.w (upd H x o) h' x o):Inv X pins σ (upd H x o) { s with heap:=h',toks:=t' }:=I.un (Un.write mu he k heo) (I.hok.write mu he k heo new)
theorem Inv.weak{σ':List (Option V)}(I:Inv X pins σ H s)(hl:σ'.length=σ.length)(w:∀(i:Nat) v,σ'[i]?=some (some v)→σ[i]?=some (some v)):Inv X pins σ' H s:=⟨I.ok,I.os,I.bare,I.base,let⟨m,hn,hl'⟩:=I.loc;⟨m,hn,λi x v e1 e2 e3=>hl' i x v e1 (w i v e2) e3⟩,I.cell,I.free,I.freeC,I.pin,I.hok,hl.trans I.len⟩
theorem Inv.pins_of{pins':List (Addr×Obj)}(I:Inv X pins σ H s)(h:∀p∈pins',s.heap.get? p.1=some p.2∧H p.1=none∧p.1≠X.env.locals∧p.1∉X.fs∧∀v,p.2.data≠ .cell v):Inv X pins' σ H s:=⟨I.ok,I.os,I.bare,I.base,I.loc,I.cell,I.free,I.freeC,λp hp=>(gT.mp hp).elim (λz=>I.pin p (gI _ z)) (h p),I.hok,I.len⟩
theorem qA7{N:List Str}(hN:N.Nodup){i j:Nat}{x:Str}(a:N[i]?=some x)(b:N[j]?=some x):i=j:=by obtain⟨h1,e1⟩:=kD.mp a;obtain⟨h2,e2⟩:=kD.mp b;exact(List.getElem_inj hN).mp (e1.trans e2.symm)
theorem q87{M:Model}{A:Around}{E:Value→Shared→Prop}{i:Nat}{x:Str}{v:V}{u:Value}{Q:Unit→Shared→Prop}(I:Inv X pins σ H s)(hN:X.N.Nodup)(hi:X.N[i]?=some x)(hx:Loc X.env.scope x)(r:RelV v u)
 (h:∀s',Inv X pins (σ.set i (some v)) H s'→(∃a,Heap.SameBut a s.heap s'.heap∧(a=X.env.locals∨X.env.cells.lookup x=some a))→Q () s') (hf:X.fn x=true∨X.env.scope.names.lookup x=some .local:=by first|exact .inl rfl|exact .inr rfl|assumption):wpAny M A (storeName X.env x u) Q E s:=by(
obtain⟨m,hn,hl⟩:=id I.loc
have hcls:(X.env.scope.kind== .class||(X.env.scope.kind== .module&&X.env.locals !=X.env.globals))=false:=by rw[I.ok.kind];rfl
have hiσ:i<σ.length:=by rw[I.len];exact(kD.mp hi).1
have cne:=I.cne
have tracked:∀{a:Addr} {h':Heap},(∃o,s.heap.get? a=some o∧H a=none)→Heap.SameBut a s.heap h'→HOk X.prog X.w H h':=fun {a h'} ha hs b ob e=>by
 obtain⟨_,_,hfree⟩:=ha;refine(I.hok b ob e).stay (λc w' hc q=>(hs.2 c ?_).trans q) (λ_ q=>q) λ_ _ q=>q;rintro rfl
 rcases hc with rfl|hc
 ·rw[hfree]at e;cases e
 rw[hfree]at hc;cases hc
rcases hx with hk|hk
·refine wpAny_storeName_local hk hn (λh' hn' hs=>?_) hcls;obtain⟨oL,_,_,hoL,_⟩:=id hn;refine h _ ⟨I.ok,I.os,I.bare,⟨λb o e n hb hx=>?_,λb o e n hb hx=>?_,I.base.free,λb o e hx=>?_,I.base.tups,I.base.frzs,I.base.tbls⟩,⟨_,hn',λj y v' e1 e2 e3=>?_⟩,λy c e=>?_,I.free,I.freeC,λp hp=>?_,tracked ⟨oL,hoL,I.free⟩ hs,by simpa using I.len⟩ ⟨_,hs,.inl rfl⟩
 ·exact(hs.2 b (mP (mG (kU e) I.ok.above))).trans (I.base.keep b o e n hb hx)
 ·obtain⟨sl,e1⟩:=I.base.slot b o e n hb hx;exact⟨sl,(hs.2 b (mP (mG (kU e) I.ok.above))).trans e1⟩
 ·obtain⟨o',e1⟩:=I.base.there b o e hx;exact⟨o',(hs.2 b (mP (mG (kU e) I.ok.above))).trans e1⟩
 ·by_cases hj:j=i
  ·subst hj;rw[hi]at e1;cases e1;rw[sI hiσ]at e2;cases e2;exact⟨u,r,.inl ⟨hk,by simp⟩⟩
  rw[wC (rQ hj)]at e2;obtain⟨u',r',q⟩:=hl j y v' e1 e2 e3;refine⟨u',r',?_⟩;rcases q with⟨k,e⟩|⟨k,c,e,z⟩
  ·refine .inl ⟨k,?_⟩;have:y≠x:=λe=>hj (qA7 hN e1 (e▸hi));simp[this,e]
  exact .inr ⟨k,c,e,z.sameBut hs (cne y c e)⟩
 ·obtain⟨w',z⟩:=I.cell y c e;exact⟨w',z.sameBut hs (cne y c e)⟩
 obtain⟨e,n,ne,nf,d⟩:=I.pin p hp;exact⟨(hs.2 p.1 ne).trans e,n,ne,nf,d⟩
have hfn:X.fn x=true:=by
 rcases hf with z|z
 ·exact z
 rw[z]at hk;cases hk
obtain⟨c,hc⟩:=I.ok.has x (.inl hk)
obtain⟨w',z⟩:=I.cell x c hc
refine wpAny_storeName_cell I.ok.kind hk hc z (λh' hc' hs=>?_)
obtain⟨oc,hoc,hocd⟩:=id z
refine h { s with heap:=h' } ⟨I.ok,I.os,I.bare,⟨λb o e n hb hx=>?_,λb o e n hb hx=>?_,I.base.free,λb o e hx=>?_,I.base.tups,I.base.frzs,I.base.tbls⟩,⟨m,hn.sameBut hs (rQ (cne x c hc)),λj y v' e1 e2 e3=>?_⟩,λy c' e=>?_,I.free,I.freeC,λp hp=>?_,tracked ⟨oc,hoc,I.freeC x c hc⟩ hs,by simpa using I.len⟩ ⟨c,hs,.inr hc⟩
·exact(hs.2 b (mP (mG (kU e) (I.ok.cab x c hfn hc)))).trans (I.base.keep b o e n hb hx)
·obtain⟨sl,e1⟩:=I.base.slot b o e n hb hx;exact⟨sl,(hs.2 b (mP (mG (kU e) (I.ok.cab x c hfn hc)))).trans e1⟩
·obtain⟨o',e1⟩:=I.base.there b o e hx;exact⟨o',(hs.2 b (mP (mG (kU e) (I.ok.cab x c hfn hc)))).trans e1⟩
·by_cases hj:j=i
 ·subst hj;rw[hi]at e1;cases e1;rw[sI hiσ]at e2;cases e2;exact⟨u,r,.inr ⟨.inl hk,c,hc,hc'⟩⟩
 rw[wC (rQ hj)]at e2;obtain⟨u',r',q⟩:=hl j y v' e1 e2 e3;refine⟨u',r',?_⟩;rcases q with q|⟨k,c',e,z'⟩
 ·exact .inl q
 refine .inr ⟨k,c',e,z'.sameBut hs ?_⟩;rintro rfl
 exact hj (qA7 hN e1 (I.ok.inj _ _ _ e hc▸hi))
·by_cases hcc:c'=c
 ·subst hcc;exact⟨_,hc'⟩
 obtain⟨w2,z2⟩:=I.cell y c' e;exact⟨w2,z2.sameBut hs hcc⟩
obtain⟨e,n,ne,nf,d⟩:=I.pin p hp
refine⟨(hs.2 p.1 ?_).trans e,n,ne,nf,d⟩
intro q
rw[q,hoc]at e
have q':oc=p.2:=kL e
exact d w' (by rw[←q'];exact hocd))
theorem q65{M:Model}{A:Around}{E:Value→Shared→Prop}{i:Nat}{x:Str}{v:V}{u:Value}{Q:Unit→Shared→Prop}(I:Inv X pins σ H s)(hN:X.N.Nodup)(hi:X.N[i]?=some x)(hx:Loc X.env.scope x)(r:RelV v u)
 (h:∀s',Inv X pins (σ.set i (some v)) H s'→Q () s') (hf:X.fn x=true∨X.env.scope.names.lookup x=some .local:=by first|exact .inl rfl|exact .inr rfl|assumption):wpAny M A (storeName X.env x u) Q E s:=q87 I hN hi hx r (λs' I' _=>h s' I') hf
theorem Inv.call'{s':Shared}{ch:List Addr}(I:Inv X pins σ H s)(ho:s'.os=s.os)(u:Un (frs X.stack) ch H H' s.heap s'.heap)(hok:HOk X.prog X.w H' s'.heap)(hg:AllBare s'.gens)
 (hch:∀b∈ch,(b∈X.ex∨X.s₀.heap.objs.size≤b)∧b≠X.env.locals∧(∀x c,X.env.cells.lookup x=some c→c≠b)∧∀p∈X.pn++pins,p.1≠b):Inv X pins σ H' s':=by(
obtain⟨h',g',d',t',o'⟩:=s'
have e:o'=s.os:=ho
subst e
exact I.call (g':=g') (t':=t') (d':=d') u hok hg hch)
end
noncomputable abbrev XK:=Value→Option Addr→Hp→Prop
noncomputable abbrev St:=List (Option V)
noncomputable abbrev VK:=V→Hp→Prop
noncomputable abbrev TE:=St→Hp→VK→Prop
noncomputable abbrev TT:=St→Hp→(Bool→Hp→Prop)→Prop
noncomputable abbrev TA:=St→Hp→(List V→Hp→Prop)→Prop
structure Ends where
nx:St→Hp→Prop
rt:VK
bk:St→Hp→Prop:=λ_ _=>False
ct:St→Hp→Prop:=λ_ _=>False
noncomputable abbrev TS:=Ends→St→Hp→Prop
inductive EP(X:Cx)(pins:List (Addr×Obj))(σ:St)(Q:VK)(u:Value)(s':Shared):Prop|mk (v) (H') (I:Inv X pins σ H' s') (r:RelV v u) (q:Q v H'):EP X pins σ Q u s'
inductive TP(X:Cx)(pins:List (Addr×Obj))(σ:St)(Q:Bool→Hp→Prop)(b:Bool)(s':Shared):Prop|mk (H') (I:Inv X pins σ H' s') (q:Q b H'):TP X pins σ Q b s'
inductive AP(X:Cx)(pins:List (Addr×Obj))(σ:St)(Q:List V→Hp→Prop)(us:List Value)(s':Shared):Prop|mk (vs) (H') (I:Inv X pins σ H' s') (r:Vals vs us) (q:Q vs H'):AP X pins σ Q us s'
noncomputable def SP(X:Cx)(pins:List (Addr×Obj))(D:Ends)(f:Flow)(s':Shared):Prop:=match f with
| .next=>∃σ' H',Inv X pins σ' H' s'∧D.nx σ' H'
| .brk=>∃σ' H',Inv X pins σ' H' s'∧D.bk σ' H'
| .cont=>∃σ' H',Inv X pins σ' H' s'∧D.ct σ' H'
| .ret u=>∃v σ' H',Inv X pins σ' H' s'∧RelV v u∧D.rt v H'
noncomputable def PE(X:Cx)(e:Expr)(t:TE):Prop:=∀(pins:List (Addr×Obj)) (s:Shared) (σ:St) (H:Hp) (Q:VK),Inv X pins σ H s→t σ H Q→wpAny (model X.prog X.w) X.A (eval e X.env) (EP X pins σ Q) X.xe s
noncomputable def PT(X:Cx)(e:Expr)(t:TT):Prop:=∀(pins:List (Addr×Obj)) (s:Shared) (σ:St) (H:Hp) (Q:Bool→Hp→Prop),Inv X pins σ H s→t σ H Q→wpAny (model X.prog X.w) X.A (isTrue e X.env (eval e X.env)) (TP X pins σ Q) X.xe s
noncomputable def PW(X:Cx)(e:Expr)(t:TT):Prop:=∀(whole:Sem Value) (pins:List (Addr×Obj)) (s:Shared) (σ:St) (H:Hp) (Q:Bool→Hp→Prop),Inv X pins σ H s→t σ H Q→wpAny (model X.prog X.w) X.A (isTrue e X.env whole) (TP X pins σ Q) X.xe s
theorem PW.pt{X:Cx}{e:Expr}{t:TT}(h:PW X e t):PT X e t:=h _
noncomputable def PA(X:Cx)(es:List Expr)(t:TA):Prop:=∀(pos:Pos) (pins:List (Addr×Obj)) (s:Shared) (σ:St) (H:Hp) (Q:List V→Hp→Prop),Inv X pins σ H s→t σ H Q→wpAny (model X.prog X.w) X.A (spliced (backTo pos (starEach es X.env))) (AP X pins σ Q) X.xe s
noncomputable def PS(X:Cx)(st:Stmt)(t:TS):Prop:=∀(pins:List (Addr×Obj)) (s:Shared) (σ:St) (H:Hp) (D:Ends),Inv X pins σ H s→t D σ H→wpAny (model X.prog X.w) X.A (exec st X.env) (SP X pins D) X.xe s
noncomputable def PSs(X:Cx)(st:List Stmt)(t:TS):Prop:=∀(pins:List (Addr×Obj)) (s:Shared) (σ:St) (H:Hp) (D:Ends),Inv X pins σ H s→t D σ H→wpAny (model X.prog X.w) X.A (execs st X.env) (SP X pins D) X.xe s
theorem thn{α:Type}{t:Sem α}{Q Q':α→Shared→Prop}{M:Model}{A:Around}{E:Value→Shared→Prop}{s:Shared}(h:wpAny M A t Q E s)(hQ:∀a s,Q a s→Q' a s):wpAny M A t Q' E s:=gR h hQ λ_ _ x=>x
section
variable{X:Cx}
theorem bin{a b:Expr}{ta tb:TE}(ha:PE X a ta)(hb:PE X b tb){pins:List (Addr×Obj)}{s:Shared}{σ:St}{H:Hp}{R:V→V→Hp→Prop}(I:Inv X pins σ H s)(h:ta σ H λx H1=>tb σ H1 λy H2=>R x y H2)
 {α:Type} {Q:α→Shared→Prop} {f:Value→Value→Sem α}
 (hf:∀v u s2 x y H2,Inv X pins σ H2 s2→RelV x v→RelV y u→R x y H2→wpAny (model X.prog X.w) X.A (f v u) Q X.xe s2):
 wpAny (model X.prog X.w) X.A (eval a X.env) (λv s₁=>wpAny (model X.prog X.w) X.A (eval b X.env) (λu s₂=>wpAny (model X.prog X.w) X.A (f v u) Q X.xe s₂) X.xe s₁) X.xe s:=by(
refine thn (ha pins s σ H _ I h) λv s1 hZ=>?_
obtain⟨x,H1,I1,r1,q1⟩:=hZ
refine thn (hb pins s1 σ H1 _ I1 q1) λu s2 hZ=>?_
obtain⟨y,H2,I2,r2,q2⟩:=hZ
exact hf v u s2 x y H2 I2 r1 r2 q2)
noncomputable def tVar(i:Nat):TE:=λσ H Q=>∃v,σ[i]?=some (some v)∧Q v H
noncomputable def tC(v:V):TE:=λ_ H Q=>Q v H
theorem qJ0{i:Nat}{x:Str}{pos:Pos}(hN:X.N[i]?=some x)(hv:Vis X.env.scope x)(hd:(x==("__debug__":Str))=false:=by decide)(hcd:(x==("__classdict__":Str))=false:=by decide):PE X (.Name x pos) (tVar i):=by(
intro pins s σ H Q I h
obtain⟨v,e,h⟩:=h
obtain⟨m,hn,hl⟩:=I.loc
obtain⟨u,r,l⟩:=hl i x v hN e hv
have fin:EP X pins σ Q u s:=⟨v,H,I,r,h⟩
rcases l with⟨hk,hm⟩|⟨hk,c,hc,hcell⟩
·exact aI (nG I.ok.kind hk hn hm fin) hd
rcases hk with hk|hk
·exact aI (nQ I.ok.kind hk hc hcell fin) hd
exact aI (wpAny_loadName_free I.ok.kind hk hc hcell fin hcd) hd)
theorem qG{i j pos}:PE X (.Constant (.int i) j pos) (tC (.int i)):=λ_ _ _ H _ I h=>wpAny_Constant_int ⟨.int i,H,I.tok _,⟨_,rfl⟩,h⟩
theorem vJ{b j pos}:PE X (.Constant (.bool b) j pos) (tC (.bl b)):=λ_ _ _ H _ I h=>Constant_bool ⟨.bl b,H,I,rfl,h⟩
theorem yW{j pos}:PE X (.Constant .none j pos) (tC .non):=λ_ _ _ H _ I h=>Constant_none ⟨.non,H,I,rfl,h⟩
theorem q1V{x j pos}:PE X (.Constant (.str x) j pos) (tC (.str x)):=λ_ _ _ H _ I h=>Calls.Constant_str ⟨.str x,H,I.tok _,⟨_,rfl⟩,h⟩
noncomputable def Gl(X:Cx)(x:Str):Prop:=X.env.kindOf x=some .globalImplicit
theorem q2U{E:Value→Shared→Prop}{pins:List (Addr×Obj)}{s:Shared}{σ:St}{H:Hp}{x:Str}{u:Value}{pos:Pos}{Q:Value→Shared→Prop}(I:Inv X pins σ H s)(hg:Gl X x)(hm:X.mg x=some u)(h:Q u s)
 (hd:(x==("__debug__":Str))=false:=by decide):wpAny (model X.prog X.w) X.A (eval (.Name x pos) X.env) Q E s:=pC I.ok.kind hg (Calls.loadGlobal_global (by rw[I.ok.glob];exact I.mod.glob.keeps I.bk) hm h) hd
theorem q3I{E:Value→Shared→Prop}{pins:List (Addr×Obj)}{s:Shared}{σ:St}{H:Hp}{x:Str}{u:Value}{pos:Pos}{Q:Value→Shared→Prop}(I:Inv X pins σ H s)(hg:Gl X x)(hm:X.mg x=none)(hv:bootBuiltins x=some u)(h:Q u s)
 (hn:x≠"__name__":=by decide) (hd:(x==("__debug__":Str))=false:=by decide):wpAny (model X.prog X.w) X.A (eval (.Name x pos) X.env) Q E s:=by obtain⟨mb,h1,h2⟩:=I.mod.blt;exact pC I.ok.kind hg (Calls.loadGlobal_builtin (by rw[I.ok.glob];exact I.mod.glob.keeps I.bk) hm (by rw[I.ok.blt];exact h1.keeps I.bk) ((h2 x hn).trans hv) h) hd
theorem zC{x:Str}{v:V}{u:Value}{pos:Pos}(hg:Gl X x)(hm:X.mg x=some u)(r:RelV v u)(hd:(x==("__debug__":Str))=false:=by decide):PE X (.Name x pos) (tC v):=λ_ _ _ H _ I h=>q2U I hg hm ⟨v,H,I,r,h⟩ hd
theorem q0U{x:Str}{v:V}{u:Value}{pos:Pos}(hg:Gl X x)(hm:X.mg x=none)(hv:bootBuiltins x=some u)(r:RelV v u)(hn:x≠"__name__":=by decide)(hd:(x==("__debug__":Str))=false:=by decide):PE X (.Name x pos) (tC v):=λ_ _ _ H _ I h=>q3I I hg hm hv ⟨v,H,I,r,h⟩ hn hd
variable{a b:Expr}{ta tb:TE}{pos:Pos}
noncomputable def PC(X:Cx)(op:CmpOp)(a b:Expr)(t:TE):Prop:=∀(pins:List (Addr×Obj)) (s:Shared) (σ:St) (H:Hp) (Q:VK),Inv X pins σ H s→t σ H Q→wpAny (model X.prog X.w) X.A (eval a X.env) (λv s₁=>wpAny (model X.prog X.w) X.A (eval b X.env) (λu s₂=>wpAny (model X.prog X.w) X.A (compareOp op v u) (EP X pins σ Q) X.xe s₂) X.xe s₁) X.xe s
noncomputable def tB(t:TE):TT:=λσ H Q=>t σ H λx H1=>∃c,x=.bl c∧Q c H1
theorem qJ1{op:CmpOp}{t:TE}(h:PC X op a b t)(h1:behindInMarks op b=false:=by first|exact nobehind _ (by decide) (by decide)|rfl):PE X (.Compare a [op] [b] pos) t:=λpins s σ H Q I hw=>wpAny_Compare1 (h pins s σ H Q I hw) h1
theorem qJ2{op:CmpOp}{t:TE}(h:PC X op a b t)(h1:behindInMarks op b=false:=by first|exact nobehind _ (by decide) (by decide)|rfl):PT X (.Compare a [op] [b] pos) (tB t):=by(
intro pins s σ H Q I hw
refine sT (thn (h pins s σ H _ I hw) λv s1 h1=>thn h1 λu s2 h2=>thn h2 λc s3 hZ=>?_) h1
obtain⟨x,H1,I1,r1,q1⟩:=hZ
obtain⟨d,rfl,q⟩:=q1
cases r1
exact g0 ⟨H1,I1,q⟩)
theorem jG{e:Expr}{t:TE}(h:PE X e t)(he:∀whole,isTrue e X.env whole=(do let v←whole;standAt e.pos;holding [v] (truthy v)):=by intro _;rfl):PT X e (tB t):=by(
intro pins s σ H Q I hw
refine isTrue_plain (thn (h pins s σ H _ I hw) λv s1 hZ=>?_) (he _)
obtain⟨x,H1,I1,r1,q1⟩:=hZ
obtain⟨d,rfl,q⟩:=q1
cases r1
exact g0 ⟨H1,I1,q⟩)
variable{tA tB':TT}{rest:List Expr}
noncomputable def tAnd(t u:TT):TT:=λσ H Q=>t σ H λc H1=>if c=true then u σ H1 Q else Q false H1
noncomputable def tOr(t u:TT):TT:=λσ H Q=>t σ H λc H1=>if c=true then Q true H1 else u σ H1 Q
noncomputable def tNot(t:TT):TT:=λσ H Q=>t σ H λc H1=>Q (!c) H1
theorem q2V(ha:PT X a tA):PW X (.BoolOp .And [a] pos) tA:=by(
intro wh pins s σ H Q I h
refine isTrue_and (thn (ha pins s σ H Q I h) λc s1 e=>?_)
cases c with
|true=>exact isTrue_and_nil e
|false=>exact e)
theorem q3J(ha:PT X a tA):PW X (.BoolOp .Or [a] pos) tA:=by(
intro wh pins s σ H Q I h
refine isTrue_or (thn (ha pins s σ H Q I h) λc s1 e=>?_)
cases c with
|false=>exact isTrue_or_nil e
|true=>exact e)
theorem q4O(ha:PT X a tA)(hb:PW X (.BoolOp .And (b::rest) pos) tB'):PW X (.BoolOp .And (a::b::rest) pos) (tAnd tA tB'):=by(
intro wh pins s σ H Q I h
refine isTrue_and (thn (ha pins s σ H _ I h) λc s1 hZ=>?_)
obtain⟨H1,I1,q1⟩:=hZ
cases c with
|true=>exact hb wh pins s1 σ H1 Q I1 q1
|false=>exact⟨H1,I1,q1⟩)
theorem q1W(ha:PT X a tA)(hb:PW X (.BoolOp .Or (b::rest) pos) tB'):PW X (.BoolOp .Or (a::b::rest) pos) (tOr tA tB'):=by(
intro wh pins s σ H Q I h
refine isTrue_or (thn (ha pins s σ H _ I h) λc s1 hZ=>?_)
obtain⟨H1,I1,q1⟩:=hZ
cases c with
|true=>exact⟨H1,I1,q1⟩
|false=>exact hb wh pins s1 σ H1 Q I1 q1)
theorem jU(ha:PT X a tA):PT X (.UnaryOp .Not a pos) (tNot tA):=by intro pins s σ H Q I h;exact isTrue_not (thn (ha pins s σ H (λc H1=>Q (!c) H1) I h) λc s1 ⟨H1,I1,q⟩=>⟨H1,I1,q⟩)
noncomputable def qL1(ta tb:TE):TE:=λσ H Q=>ta σ H λx H1=>∃c,x=.bl c∧if c=true then tb σ H1 Q else Q (.bl false) H1
noncomputable def tOrV(ta tb:TE):TE:=λσ H Q=>ta σ H λx H1=>∃c,x=.bl c∧if c=true then Q (.bl true) H1 else tb σ H1 Q
noncomputable def qL2(ta:TE):TE:=λσ H Q=>ta σ H λx H1=>∃c,x=.bl c∧Q (.bl (!c)) H1
theorem q0V{op}{t:TE}(h:PE X a t):PE X (.BoolOp op [a] pos) t:=λpins s σ H Q I hw=>BoolOp_one (h pins s σ H Q I hw)
theorem q1X(ha:PE X a ta)(hb:PE X (.BoolOp .And (b::rest) pos) tb):PE X (.BoolOp .And (a::b::rest) pos) (qL1 ta tb):=by(
intro pins s σ H Q I h
refine BoolOp_and (thn (ha pins s σ H _ I h) λv s1 hZ=>?_)
obtain⟨x,H1,I1,r1,q1⟩:=hZ
obtain⟨c,rfl,q1⟩:=q1
cases r1
refine g0 ?_
cases c with
|true=>exact hb pins s1 σ H1 Q I1 q1
|false=>exact⟨.bl false,H1,I1,rfl,q1⟩)
theorem qIC(ha:PE X a ta)(hb:PE X (.BoolOp .Or (b::rest) pos) tb):PE X (.BoolOp .Or (a::b::rest) pos) (tOrV ta tb):=by(
intro pins s σ H Q I h
refine BoolOp_or (thn (ha pins s σ H _ I h) λv s1 hZ=>?_)
obtain⟨x,H1,I1,r1,q1⟩:=hZ
obtain⟨c,rfl,q1⟩:=q1
cases r1
refine g0 ?_
cases c with
|false=>exact hb pins s1 σ H1 Q I1 q1
|true=>exact⟨.bl true,H1,I1,rfl,q1⟩)
theorem qBL(ha:PE X a ta):PE X (.UnaryOp .Not a pos) (qL2 ta):=by(
intro pins s σ H Q I h
refine UnaryOp_ (thn (ha pins s σ H _ I h) λv s1 hZ=>?_)
obtain⟨x,H1,I1,r1,q1⟩:=hZ
obtain⟨c,rfl,q1⟩:=q1
cases r1
exact not_of (g0 ⟨.bl (!c),H1,I1,rfl,q1⟩))
noncomputable def tIf(t:TT)(ta tb:TE):TE:=λσ H Q=>t σ H λc H1=>if c=true then ta σ H1 Q else tb σ H1 Q
theorem qA8{c:Expr}(hc:PT X c tA)(ha:PE X a ta)(hb:PE X b tb):PE X (.IfExp c a b pos) (tIf tA ta tb):=by(
intro pins s σ H Q I h
refine wpAny_IfExp (thn (hc pins s σ H _ I h) λd s1 hZ=>?_)
obtain⟨H1,I1,q1⟩:=hZ
cases d with
|true=>exact ha pins s1 σ H1 Q I1 q1
|false=>exact hb pins s1 σ H1 Q I1 q1)
end
noncomputable def SqL(K:PySem.W.Frag)(H:Hp)(a:Addr)(xs:List V):Prop:=Rd H a (.lst xs)∨∃(o:Obj) (its:Array Value) (n:Nat),K.lookup a=some o∧o.cls=.type "list"∧o.dict=none∧o.data=.seq its n∧its.size≤sizeLine∧Vals xs its.toList
noncomputable def SqT(K:PySem.W.Frag)(H:Hp)(a:Addr)(xs:List V):Prop:=Rd H a (.tup xs)∨∃(o:Obj) (its:Array Value) (n:Nat),K.lookup a=some o∧o.cls=.type "tuple"∧o.data=.seq its n∧its.size≤sizeLine∧Vals xs its.toList
noncomputable def absV:Value→Option V
| .none=>some .non
| .bool b=>some (.bl b)
| .int i _=>some (.int i)
| .str x _=>some (.str x)
| .bytes b _=>some (.byt b)
| .float b _=>some (.flt b)
| .ref a=>some (.ref a)
| .type n=>some (.ty n)
|_=>none
theorem RelV.abs{x:V}{u:Value}(r:RelV x u):absV u=some x:=by(
cases x with
|non=>cases r;rfl
|bl _=>cases r;rfl
|int _=>obtain⟨t,rfl⟩:=r;rfl
|str _=>obtain⟨t,rfl⟩:=r;rfl
|byt _=>obtain⟨t,rfl⟩:=r;rfl
|flt _=>obtain⟨t,rfl⟩:=r;rfl
|ref _=>cases r;rfl
|ty _=>cases r;rfl)
theorem RelV.inj{x y:V}{u:Value}(r:RelV x u)(q:RelV y u):x=y:=kL (r.abs.symm.trans q.abs)
theorem Vals.inj{xs ys:List V}{us:List Value}(h:Vals xs us):Vals ys us→xs=ys:=by(
induction h generalizing ys with
|nil=>exact λg=>by cases g;rfl
|cons r t ih=>
 intro g;cases g with
 |cons r' t'=>rw[r.inj r',ih t'])
section
variable{X:Cx}{pins:List (Addr×Obj)}{σ:St}{H:Hp}{s:Shared}{a:Addr}{xs ys:List V}
theorem SqL.of{K:PySem.W.Frag}(h:H a=some (.lst xs)):SqL K H a xs:=.inl (.inl h)
theorem SqT.of{K:PySem.W.Frag}(h:H a=some (.tup xs)):SqT K H a xs:=.inl (.inl h)
theorem Inv.list(I:Inv X pins σ H s)(h:SqL X.K H a xs):∃its:List Value,Vals xs its∧PlainL s.heap a its.toArray∧xs.length≤sizeLine:=by(
rcases h with h|⟨o,its,n,hk,hc,hd,hs,hz,r⟩
·obtain⟨z,its,n,r,e⟩:=h.ok I.hok;exact⟨its,r,⟨_,n,e,rfl,rfl,rfl⟩,z⟩
refine⟨its.toList,r,⟨o,n,I.kIn a o hk,hc,hd,by simpa using hs⟩,?_⟩
have e:=r.length
simp only[mY]at e
lia)
theorem Inv.tuple(I:Inv X pins σ H s)(h:SqT X.K H a xs):∃its:List Value,Vals xs its∧IsTup s.heap a its.toArray∧xs.length≤sizeLine:=by(
rcases h with h|⟨o,its,n,hk,hc,hs,hz,r⟩
·obtain⟨z,its,r,p⟩:=h.ok I.hok;exact⟨its,r,p,z⟩
refine⟨its.toList,r,⟨o,I.kIn a o hk,hc,n,by simpa using hs⟩,?_⟩
have e:=r.length
simp only[mY]at e
lia)
theorem Inv.list_inj(I:Inv X pins σ H s)(h:SqL X.K H a xs)(h':SqL X.K H a ys):xs=ys:=by(
obtain⟨its,r,⟨o,n,e,_,_,d⟩,_⟩:=I.list h
obtain⟨its',r',⟨o',n',e',_,_,d'⟩,_⟩:=I.list h'
rw[e]at e';cases e'
rw[d]at d'
injection d' with d1 _
have:its=its':=by simpa using g5 Array.toList d1
subst this
exact r.inj r')
theorem Inv.tuple_inj(I:Inv X pins σ H s)(h:SqT X.K H a xs)(h':SqT X.K H a ys):xs=ys:=by(
obtain⟨its,r,⟨o,e,_,n,d⟩,_⟩:=I.tuple h
obtain⟨its',r',⟨o',e',_,n',d'⟩,_⟩:=I.tuple h'
rw[e]at e';cases e'
rw[d]at d'
injection d' with d1 _
have:its=its':=by simpa using g5 Array.toList d1
subst this
exact r.inj r')
end
noncomputable abbrev Cx.wish(X:Cx)(E:Value→Shared→Prop):Cx:={ X with xe:=E }
noncomputable abbrev Cx.nox(X:Cx):Cx:=X.wish λ_ _=>False
theorem Cx.Ok.wish{X:Cx}(ok:X.Ok)(E:Value→Shared→Prop):(X.wish E).Ok:=⟨ok.mod,ok.kind,ok.glob,ok.blt,ok.above,ok.inj,ok.has,ok.cab,ok.hd,ok.frames,ok.stk,ok.exf,ok.bs,ok.bsz,ok.noex,ok.exfs,ok.funs,ok.frf⟩
theorem Cx.Ok.unwish{X:Cx}{E:Value→Shared→Prop}(ok:(X.wish E).Ok):X.Ok:=⟨ok.mod,ok.kind,ok.glob,ok.blt,ok.above,ok.inj,ok.has,ok.cab,ok.hd,ok.frames,ok.stk,ok.exf,ok.bs,ok.bsz,ok.noex,ok.exfs,ok.funs,ok.frf⟩
section
variable{X:Cx}{pins:List (Addr×Obj)}{σ:St}{H:Hp}{s:Shared}{E:Value→Shared→Prop}
theorem Inv.wish(I:Inv X pins σ H s)(E:Value→Shared→Prop):Inv (X.wish E) pins σ H s:=⟨I.ok.wish E,I.os,I.bare,I.base,I.loc,I.cell,I.free,I.freeC,I.pin,I.hok,I.len⟩
theorem Inv.unwish(I:Inv (X.wish E) pins σ H s):Inv X pins σ H s:=⟨I.ok.unwish,I.os,I.bare,I.base,I.loc,I.cell,I.free,I.freeC,I.pin,I.hok,I.len⟩
theorem SP.unwish{D:Ends}{f:Flow}{s':Shared}(h:SP (X.wish E) pins D f s'):SP X pins D f s':=by(
cases f with
|next=>obtain⟨σ',H',I,q⟩:=h;exact⟨σ',H',I.unwish,q⟩
|brk=>obtain⟨σ',H',I,q⟩:=h;exact⟨σ',H',I.unwish,q⟩
|cont=>obtain⟨σ',H',I,q⟩:=h;exact⟨σ',H',I.unwish,q⟩
|ret u=>obtain⟨v,σ',H',I,r,q⟩:=h;exact⟨v,σ',H',I.unwish,r,q⟩)
theorem PSs.nox{st:List Stmt}{t:TS}(h:PSs X.nox st t):PSs X st t:=λpins s σ H D I hw=>gR (h pins s σ H D (I.wish _) hw) (λ_ _ q=>q.unwish) λ_ _ z=>False.elim z
end
section
variable{X:Cx}{st:Stmt}{rest:List Stmt}{t u:TS}{e:Expr}{te:TE}{pos:Pos}
noncomputable def qID:TS:=λD σ H=>D.nx σ H
noncomputable def tSeq(t u:TS):TS:=λD σ H=>t { D with nx:=u D } σ H
theorem qR:PSs X [] qID:=λ_ _ σ H _ I h=>wU ⟨σ,H,I,h⟩
theorem qB(h1:PS X st t)(h2:PSs X rest u):PSs X (st::rest) (tSeq t u):=by(
intro pins s σ H D I h
refine cH (thn (h1 pins s σ H { D with nx:=u D } I h) λf s1 q=>?_)
cases f with
|next=>obtain⟨σ',H',I',q⟩:=q;exact h2 pins s1 σ' H' D I' q
|ret v=>exact q
|brk=>exact q
|cont=>exact q)
theorem qD(h1:PS X st t):PSs X [st] t:=by(
intro pins s σ H D I h
refine cH (thn (h1 pins s σ H D I h) λf s1 q=>?_)
cases f with
|next=>exact wU q
|ret v=>exact q
|brk=>exact q
|cont=>exact q)
theorem Inv.quiet{pins:List (Addr×Obj)}{σ:St}{H:Hp}{s:Shared}(I:Inv X pins σ H s):interactive X.env=false:=by simp[interactive,I.ok.kind]
noncomputable def qIE(te:TE):TS:=λD σ H=>te σ H λ_ H1=>D.nx σ H1
theorem jB(he:PE X e te)(hs:swapsWith e none pos.line X.env=pure false:=by rfl):PS X (.Expr e pos) (qIE te):=by intro pins s σ H D I h;exact wpAny_Expr_any (thn (he pins s σ H _ I h) λv s1 ⟨x,H1,I1,r1,q1⟩=>⟨σ,H1,I1,q1⟩) I.quiet hs
noncomputable def tRet(te:TE):TS:=λD σ H=>te σ H D.rt
theorem qL(he:PE X e te):PS X (.Return (some e) pos) (tRet te):=by intro pins s σ H D I h;exact lP (thn (he pins s σ H _ I h) λv s1 ⟨x,H1,I1,r1,q1⟩=>⟨x,σ,H1,I1,r1,q1⟩)
noncomputable def tIfS(c:TT)(t u:TS):TS:=λD σ H=>c σ H λb H1=>if b=true then t D σ H1 else u D σ H1
theorem j9{c:Expr}{a b:List Stmt}{tc:TT}(hc:PT X c tc)(ha:PSs X a t)(hb:PSs X b u):PS X (.If c a b pos) (tIfS tc t u):=by(
intro pins s σ H D I h
refine wpAny_If (thn (hc pins s σ H _ I h) λd s1 hZ=>?_)
obtain⟨H1,I1,q1⟩:=hZ
cases d with
|true=>exact ha pins s1 σ H1 D I1 q1
|false=>exact hb pins s1 σ H1 D I1 q1)
noncomputable def qJ3:TS:=λ_ _ _=>False
theorem jC:PS X st qJ3:=λ_ _ _ _ _ _ h=>h.elim
end
noncomputable abbrev TG:=V→St→Hp→(St→Hp→Prop)→Prop
noncomputable abbrev TGs:=List V→St→Hp→(St→Hp→Prop)→Prop
noncomputable def PG(X:Cx)(target:Expr)(t:TG):Prop:=∀(pins:List (Addr×Obj)) (s:Shared) (σ:St) (H:Hp) (v:V) (u:Value) (Q:St→Hp→Prop),Inv X pins σ H s→RelV v u→t v σ H Q→wpAny (model X.prog X.w) X.A (assign target X.env u) (λ_ s'=>∃σ' H',Inv X pins σ' H' s'∧Q σ' H') X.xe s
noncomputable def PGs(X:Cx)(ts:List Expr)(t:TGs):Prop:=∀(pins:List (Addr×Obj)) (s:Shared) (σ:St) (H:Hp) (vs:List V) (us:List Value) (Q:St→Hp→Prop),Inv X pins σ H s→Vals vs us→t vs σ H Q→wpAny (model X.prog X.w) X.A (assignInOrder ((assignEach ts X.env).map (·.2)) us) (λ_ s'=>∃σ' H',Inv X pins σ' H' s'∧Q σ' H') X.xe s
noncomputable abbrev TSet:=V→V→V→Hp→(Hp→Prop)→Prop
noncomputable def PSet(X:Cx)(t:TSet):Prop:=∀(pins:List (Addr×Obj)) (s:Shared) (σ:St) (H:Hp) (o i v:V) (ov iv u:Value) (Q:Hp→Prop),Inv X pins σ H s→RelV o ov→RelV i iv→RelV v u→t o i v H Q→wpAny (model X.prog X.w) X.A (setItem ov iv u) (λ_ s'=>∃H',Inv X pins σ H' s'∧Q H') X.xe s
noncomputable abbrev TIp:=V→V→Hp→VK→Prop
noncomputable def PIp(X:Cx)(op:Operator)(t:TIp):Prop:=∀(pins:List (Addr×Obj)) (s:Shared) (σ:St) (H:Hp) (x y:V) (v u:Value) (Q:VK),Inv X pins σ H s→RelV x v→RelV y u→t x y H Q→wpAny (model X.prog X.w) X.A (inplaceOp op v u) (EP X pins σ Q) X.xe s
section
variable{X:Cx}{pos:Pos}
noncomputable def vZ(i:Nat):TG:=λv σ H Q=>Q (σ.set i (some v)) H
theorem jA{i:Nat}{x:Str}(hN:X.N.Nodup)(hi:X.N[i]?=some x)(hx:Loc X.env.scope x)(hf:X.fn x=true∨X.env.scope.names.lookup x=some .local:=by first|exact .inl rfl|exact .inr rfl|assumption):PG X (.Name x pos) (vZ i):=by intro pins s σ H v u Q I r h;exact lQ (q65 I hN hi hx r (λs' I'=>⟨_,H,I',h⟩) hf)
noncomputable def gNil:TGs:=λvs σ H Q=>vs=[]∧Q σ H
noncomputable def qIF(t:TG)(u:TGs):TGs:=λvs σ H Q=>∃v r,vs=v::r∧t v σ H λσ' H'=>u r σ' H' Q
theorem q5W:PGs X [] gNil:=by(
intro pins s σ H vs us Q I r h
obtain⟨e,h⟩:=h
subst e
cases r
exact assignInOrder_nil ⟨σ,H,I,h⟩)
theorem uG{e:Expr}{es:List Expr}{t:TG}{u:TGs}(h1:PG X e t)(h2:PGs X es u)
 (hs:(assignEach (e::es) X.env).map (·.2)=assign e X.env::(assignEach es X.env).map (·.2):=by rfl):PGs X (e::es) (qIF t u):=by(
intro pins s σ H vs us Q I r h
obtain⟨v,vr,e1,h⟩:=h
subst e1
cases r with
|cons r rr=>rw[hs];refine assignInOrder_cons (thn (h1 pins s σ H _ _ _ I r h) λ_ s1 hZ=>?_);obtain⟨σ1,H1,I1,q1⟩:=hZ;exact h2 pins s1 σ1 H1 _ _ Q I1 rr q1)
noncomputable def gTup(K:PySem.W.Frag)(n:Nat)(t:TGs):TG:=λv σ H Q=>∃a xs,v=.ref a∧SqT K H a xs∧xs.length=n∧t xs σ H Q
theorem qBM{es:List Expr}{k:Nat}{t:TGs}{n:Nat}(hc:X.calm=true)(h:PGs X es t)
 (hn:(assignEach es X.env).length=n:=by rfl) (hst:(assignEach es X.env).findIdx? (·.1)=none:=by rfl):PG X (.Tuple es k pos) (gTup X.K n t):=by(
intro pins s σ H v u Q I r hw
obtain⟨a,xs,e1,hq,hl,hw⟩:=hw
subst e1
cases r
obtain⟨its,rv,ht,hz⟩:=I.tuple hq
refine assign_Tuple_tuple (I.ok.hd hc) ht (by simp[hn,←hl,rv.length]) hst λh' hx=>?_
have I1:Inv X pins σ H { s with heap:=h' }:=I.kept (t':=s.toks) λb o e=>hx b o (mP (kU e)) e
exact h pins _ σ H xs _ Q I1 (by simpa using rv) hw)
noncomputable def gSub(to ti:TE)(t:TSet):TG:=λv σ H Q=>to σ H λo H1=>ti σ H1 λi H2=>t o i v H2 λH3=>Q σ H3
theorem q66{o i:Expr}{to ti:TE}{t:TSet}(ho:PE X o to)(hi:PE X i ti)(hs:PSet X t)
 (ha:∀v,assign (.Subscript o i pos) X.env v=(do
  let ov←holding [v] (eval o X.env)
  let iv←holding [v,ov] (eval i X.env)
  standAt pos
  holding [v,ov,iv] (setItem ov iv v)
  release [v,ov,iv] []):=by intro _;rfl):PG X (.Subscript o i pos) (gSub to ti t):=by(
intro pins s σ H v u Q I r h
rw[ha]
refine hI (gQ (thn (ho pins s σ H _ I h) λov s1 hZ=>?_))
obtain⟨x,H1,I1,r1,q1⟩:=hZ
refine hI (gQ (thn (hi pins s1 σ H1 _ I1 q1) λiv s2 hZ=>?_))
obtain⟨y,H2,I2,r2,q2⟩:=hZ
refine hI (cP (hI (gQ (thn (hs pins s2 σ H2 x y v ov iv u _ I2 r1 r2 r q2) λ_ s3 hZ=>?_))))
obtain⟨H3,I3,q3⟩:=hZ
exact wpAny_release ⟨σ,H3,I3,q3⟩)
noncomputable def tAsg(te:TE)(g:TG):TS:=λD σ H=>te σ H λx H1=>g x σ H1 D.nx
theorem q4P{tg e:Expr}{te:TE}{g:TG}(he:PE X e te)(hg:PG X tg g)(hs:swapsWithSole [tg] e pos.line X.env=pure false:=by rfl)(hw:swappedStores [tg] e X.env=pure none:=by rfl)
 (h1:(assignEach [tg] X.env).map (·.2)=[assign tg X.env]:=by rfl):PS X (.Assign [tg] e pos) (tAsg te g):=by(
intro pins s σ H D I h
refine wpAny_Assign_stores (thn (he pins s σ H _ I h) λv s1 hZ=>?_) hs hw
obtain⟨x,H1,I1,r1,q1⟩:=hZ
rw[h1]
exact thn (hg pins s1 σ H1 x v _ I1 r1 q1) λ_ s2 q=>q)
theorem qS{i:Nat}{x:Str}{e:Expr}{te:TE}{pos':Pos}(hN:X.N.Nodup)(hi:X.N[i]?=some x)(hx:Loc X.env.scope x)(he:PE X e te)(hs:swapsWith e (some (.Name x pos')) pos.line X.env=pure false:=by rfl)(hf:X.fn x=true∨X.env.scope.names.lookup x=some .local:=by first|exact .inl rfl|exact .inr rfl|assumption):
 PS X (.Assign [.Name x pos'] e pos) (tAsg te (vZ i)):=by(
intro pins s σ H D I h
refine wpAny_Assign_Name (thn (he pins s σ H _ I h) λv s1 hZ=>?_) hs
obtain⟨y,H1,I1,r1,q1⟩:=hZ
exact q65 I1 hN hi hx r1 (λs2 I2=>⟨_,H1,I2,q1⟩) hf)
noncomputable def tAug(i:Nat)(te:TE)(ti:TIp):TS:=λD σ H=>∃x,σ[i]?=some (some x)∧te σ H λy H1=>ti x y H1 λz H2=>D.nx (σ.set i (some z)) H2
theorem qJ4{i:Nat}{x:Str}{e:Expr}{te:TE}{op:Operator}{ti:TIp}{pos':Pos}(hN:X.N.Nodup)(hi:X.N[i]?=some x)(hx:Loc X.env.scope x)(he:PE X e te)(ho:PIp X op ti)(hf:X.fn x=true∨X.env.scope.names.lookup x=some .local:=by first|exact .inl rfl|exact .inr rfl|assumption):
 PS X (.AugAssign (.Name x pos') op e pos) (tAug i te ti):=by(
intro pins s σ H D I h
obtain⟨v,e1,h⟩:=h
obtain⟨m,hn,hl⟩:=I.loc
have vis:Vis X.env.scope x:=by rcases hx with k|k;exact .inl k;exact .inr (.inl k)
obtain⟨u,r,l⟩:=hl i x v hi e1 vis
refine wpAny_AugAssign_Name ?_
have go:wpAny (model X.prog X.w) X.A (eval e X.env) (λw s₂=>wpAny (model X.prog X.w) X.A (inplaceOp op u w) (λr s₃=>wpAny (model X.prog X.w) X.A (storeName X.env x r) (λ_=>SP X pins D .next) X.xe s₃) X.xe s₂) X.xe s:=by refine thn (he pins s σ H _ I h) λw s1 hZ=>?_;obtain⟨y,H1,I1,r1,q1⟩:=hZ;refine thn (ho pins s1 σ H1 v y u w _ I1 r r1 q1) λz s2 hZ=>?_;obtain⟨zv,H2,I2,r2,q2⟩:=hZ;exact q65 I2 hN hi hx r2 (λs3 I3=>⟨_,H2,I3,q2⟩) hf
rcases l with⟨hk,hm⟩|⟨hk,c,hc,hcell⟩
·exact nG I.ok.kind hk hn hm go
rcases hk with hk|hk
·exact nQ I.ok.kind hk hc hcell go
rcases hx with k|k
·have:X.env.scope.names.lookup x=some .free:=hk;rw[k]at this;cases this
have:X.env.scope.names.lookup x=some .free:=hk
rw[k]at this;cases this)
noncomputable def qL3(to ti te:TE)(tget:V→V→Hp→VK→Prop)(tip:TIp)(tset:TSet):TS:=λD σ H=>to σ H λo H1=>ti σ H1 λi H2=>tget o i H2 λx H3=>te σ H3 λy H4=>tip x y H4 λz H5=>tset o i z H5 λH6=>D.nx σ H6
noncomputable def PGet(X:Cx)(t:V→V→Hp→VK→Prop):Prop:=∀(pins:List (Addr×Obj)) (s:Shared) (σ:St) (H:Hp) (o i:V) (ov iv:Value) (Q:VK),Inv X pins σ H s→RelV o ov→RelV i iv→t o i H Q→wpAny (model X.prog X.w) X.A (getItem ov iv) (EP X pins σ Q) X.xe s
theorem q40{o i e:Expr}{to ti te:TE}{tget:V→V→Hp→VK→Prop}{tip:TIp}{tset:TSet}{op:Operator}{tpos:Pos}(ho:PE X o to)(hi:PE X i ti)(hg:PGet X tget)(he:PE X e te)(hp:PIp X op tip)(hs:PSet X tset)
 (ha:∀ov iv new,augStore i ov iv new=(do holding [new,ov,iv] (setItem ov iv new);release [new,ov,iv] [];pure .next):=by intros;rfl):PS X (.AugAssign (.Subscript o i tpos) op e pos) (qL3 to ti te tget tip tset):=by(
intro pins s σ H D I h
refine wpAny_AugAssign_SubscriptAny (thn (ho pins s σ H _ I h) λov s1 hZ=>?_) ha
obtain⟨x1,H1,I1,r1,q1⟩:=hZ
refine thn (hi pins s1 σ H1 _ I1 q1) λiv s2 hZ=>?_
obtain⟨x2,H2,I2,r2,q2⟩:=hZ
refine thn (hg pins s2 σ H2 x1 x2 ov iv _ I2 r1 r2 q2) λold s3 hZ=>?_
obtain⟨x3,H3,I3,r3,q3⟩:=hZ
refine thn (he pins s3 σ H3 _ I3 q3) λv s4 hZ=>?_
obtain⟨x4,H4,I4,r4,q4⟩:=hZ
refine thn (hp pins s4 σ H4 x3 x4 old v _ I4 r3 r4 q4) λnew s5 hZ=>?_
obtain⟨x5,H5,I5,r5,q5⟩:=hZ
exact thn (hs pins s5 σ H5 x1 x2 x5 ov iv new _ I5 r1 r2 r5 q5) λ_ s6 ⟨H6,I6,q6⟩=>⟨σ,H6,I6,q6⟩)
noncomputable def ipI(f:Int→Int→Int):TIp:=λx y H Q=>∃i j,x=.int i∧y=.int j∧Q (.int (f i j)) H
theorem q67:PIp X .Add (ipI λi j=>i+j):=by(
intro pins s σ H x y v u Q I r1 r2 h
obtain⟨i,j,e1,e2,q⟩:=h
subst e1;subst e2
obtain⟨t,rfl⟩:=r1
obtain⟨t',rfl⟩:=r2
exact iadd_int ⟨.int _,H,I.tok _,⟨_,rfl⟩,q⟩)
theorem qJ5:PIp X .Sub (ipI λi j=>i-j):=by(
intro pins s σ H x y v u Q I r1 r2 h
obtain⟨i,j,e1,e2,q⟩:=h
subst e1;subst e2
obtain⟨t,rfl⟩:=r1
obtain⟨t',rfl⟩:=r2
exact isub_int ⟨.int _,H,I.tok _,⟨_,rfl⟩,q⟩)
end
section
variable{X:Cx}{pos:Pos}
noncomputable def qJ6(c:TT)(tb:TS):TS:=λD σ H=>∃W:Nat→St→Hp→Prop,(∃m,W m σ H)∧∀m σ H,W m σ H→c σ H λb H1=>if b=true then ∃N:St→Hp→Prop,(∀σ' H',N σ' H'→∃m',m'<m∧W m' σ' H')∧tb { D with nx:=N,ct:=N,bk:=D.nx } σ H1 else D.nx σ H1
theorem qA9{c:Expr}{body:List Stmt}{tc:TT}{tb:TS}(hp:PassesOwn (model X.prog X.w) X.A X.env X.xe)(hc:PT X c tc)(hb:PSs X body tb):PS X (.While c body [] pos) (qJ6 tc tb):=by(
intro pins s σ H D I h
obtain⟨W,⟨m0,w0⟩,turn⟩:=h
refine wpAny_While (codeAny_whileLoop (λn s'=>∃σ' H',Inv X pins σ' H' s'∧W n σ' H') ?_ m0 ⟨σ,H,I,w0⟩)
rintro n s1 ⟨σ1,H1,I1,w1⟩
refine rB hp (thn (hc pins s1 σ1 H1 _ I1 (turn n σ1 H1 w1)) λb s2 hZ=>?_)
obtain⟨H2,I2,q2⟩:=hZ
cases b with
|true=>
 obtain⟨N,hN,q2⟩:=q2;rw[kF rfl];refine rB hp (thn (hb pins s2 σ1 H2 _ I2 q2) λf s3 q3=>?_);cases f with
 |next=>obtain⟨σ3,H3,I3,n3⟩:=q3;obtain⟨m',hm,w3⟩:=hN σ3 H3 n3;exact⟨m',hm,σ3,H3,I3,w3⟩
 |cont=>obtain⟨σ3,H3,I3,n3⟩:=q3;obtain⟨m',hm,w3⟩:=hN σ3 H3 n3;exact⟨m',hm,σ3,H3,I3,w3⟩
 |brk=>exact q3
 |ret v=>exact q3
|false=>rw[hV kM];exact wU ⟨σ1,H2,I2,q2⟩)
end
structure It where
go:Nat→Hp→Prop
yld:Nat→Hp→V→Hp→Prop
stop:Nat→Hp→Prop
noncomputable def FpOk(X:Cx)(pins:List (Addr×Obj))(H:Hp)(b:Addr):Prop:=H b=none∧b≠X.env.locals∧b∉X.fs∧(b∈X.ex∨X.s₀.heap.objs.size≤b)∧(∀x c,X.env.cells.lookup x=some c→c≠b)∧∀p∈X.pn++pins,p.1≠b
theorem Inv.fpOk{X:Cx}{pins:List (Addr×Obj)}{σ:St}{H H':Hp}{s:Shared}{b:Addr}(I:Inv X pins σ H s)(hb:s.heap.objs.size≤b)(hn:H' b=none):FpOk X pins H' b:=by(
refine⟨hn,dN (mG I.lt hb),I.nofs hb,.inr (k8 I.sz hb),λx c e z=>?_,λp hp z=>?_⟩
·obtain⟨v,q⟩:=I.cell x c e;exact absurd (mG q.lt (by rw[z];exact hb)) (dM _)
exact absurd (mG (kU (I.pin p hp).1) (by rw[z];exact hb)) (dM _))
structure Turn(P:Program)(w:World)(K:PySem.W.Frag)(tg:Expr)(J:It)(fp:List Addr)(it:Addr)(tn:Nat→Heap→Prop):Prop where
mem:it∈fp
obj:∀i h,tn i h→∀b∈fp,∃o,h.get? b=some o∧∀v,o.data≠ .cell v
keep:∀i h h',tn i h→(∀b∈fp,∀o,h.get? b=some o→h'.get? b=some o)→tn i h'
item:∀(X:Cx),X.prog=P→X.w=w→X.K=K→X.calm=true→∀(i:Nat) (pins:List (Addr×Obj)) (s:Shared) (σ:St) (H:Hp) (E:Value→Shared→Prop),Inv X pins σ H s→(∀b∈fp,FpOk X pins H b)→tn i s.heap→J.go i H→wpAny (model P w) X.A (pyNext (.ref it)) (λr s1=>∃u,r=some u∧wpAny (model P w) X.A (letOwnedTupleGo tg (.ref it) u) (λ_ s2=>∃x H',Inv X pins σ H' s2∧RelV x u∧J.yld i H x H'∧tn (i+1) s2.heap∧∀b∈fp,H' b=none) E s1) E s
done:∀(X:Cx),X.prog=P→X.w=w→X.K=K→X.calm=true→∀(i:Nat) (pins:List (Addr×Obj)) (s:Shared) (σ:St) (H:Hp) (E:Value→Shared→Prop),Inv X pins σ H s→(∀b∈fp,FpOk X pins H b)→tn i s.heap→J.stop i H→wpAny (model P w) X.A (pyNext (.ref it)) (λr s1=>r=none∧Inv X pins σ H s1) E s
self:∀(A:Around) (i:Nat) (s:Shared) (Q:Value→Shared→Prop) (E:Value→Shared→Prop),tn i s.heap→Q (.ref it) s→wpAny (model P w) A (pyIter (.ref it)) Q E s
noncomputable abbrev TI:=St→Hp→(It→Hp→Prop)→Prop
noncomputable def PIE(X:Cx)(pins:List (Addr×Obj))(σ:St)(tg:Expr)(R:It→Hp→Prop)(itv:Value)(s2:Shared):Prop:=∃(it:Addr) (fp:List Addr) (tn:Nat→Heap→Prop) (J:It) (H':Hp),itv=.ref it∧Inv X pins σ H' s2∧Turn X.prog X.w X.K tg J fp it tn∧tn 0 s2.heap∧(∀b∈fp,FpOk X pins H' b)∧R J H'
noncomputable def PI(X:Cx)(tg iter:Expr)(wi:TI):Prop:=∀(pins:List (Addr×Obj)) (s:Shared) (σ:St) (H:Hp) (R:It→Hp→Prop),Inv X pins σ H s→wi σ H R→wpAny (model X.prog X.w) X.A (eval iter X.env) (λv s1=>wpAny (model X.prog X.w) X.A (pyIter v) (PIE X pins σ tg R) X.xe s1) X.xe s
theorem qE7{M:Model}{A:Around}{E:Value→Shared→Prop}{s:Shared}{tg:Expr}{it:Addr}{u:Value}{o:Obj}{n:String}{vs:Array Value}{Q:Unit→Shared→Prop}(ho:s.heap.get? it=some o)(hc:o.cls=.type n)(hd:o.data=.fields vs)
 (hn:["enumerate","zip","dict_itemiterator","dict_reverseitemiterator","odict_iterator","itertools.zip_longest","itertools.pairwise"].contains n=false) (hQ:Q () s):wpAny M A (letOwnedTupleGo tg (.ref it) u) Q E s:=by(
unfold letOwnedTupleGo
cases tg<;>first
 |exact kX hQ
 |(cases u<;>first
  |exact kX hQ
  |(refine hI (wpAny_load ho ?_)
    rw[hc,hd];show wpAny M A (if(["enumerate","zip","dict_itemiterator","dict_reverseitemiterator","odict_iterator","itertools.zip_longest","itertools.pairwise"].contains n&&vs[0]?==some (rawInt _))=true then _ else _) Q E s;rw[hV (by intro h;rw[hn,Bool.false_and]at h;cases h)];exact kX hQ)))
noncomputable def Itl(K:PySem.W.Frag)(a:Addr):It:=⟨λi H=>∃xs x,SqL K H a xs∧xs[i]?=some x,λi H x H'=>H'=H∧∀xs,SqL K H a xs→xs[i]?=some x,λi H=>∃xs,SqL K H a xs∧xs.length≤i⟩
noncomputable def Itr(lo:Int)(n:Nat):It:=⟨λi _=>i<n,λi H x H'=>H'=H∧x=.int (lo+i),λi _=>n≤i⟩
theorem qDJ{P:Program}{w:World}{K:PySem.W.Frag}{tg:Expr}(a it:Addr):Turn P w K tg (Itl K a) [it] it (λi h=>h.IsListIter it a i) where
mem:=by simp
obj:=λi h st b hb=>by
 have e:b=it:=by simpa using hb
 subst e;obtain⟨o,e,c,d⟩:=st;exact⟨o,e,λv z=>by rw[d]at z;cases z⟩
keep:=λi h h' st k=>st.at λo e=>k it (by simp) o e
item:=by intro X hP hw hK hc i pins s σ H E I hf st hg;subst hP hw hK;obtain⟨xs,x,hq,hx⟩:=hg;obtain⟨its,rv,p,hz⟩:=I.list hq;obtain⟨u,hu,ru⟩:=rv.get hx;obtain⟨f0,f1,f2,f3,f4,f5⟩:=hf it (by simp);refine wpAny_pyNext_list_item st p.isList (x:=u) (by simpa using hu) λh' st' sb=>?_;have I1:Inv X pins σ H { s with heap:=h' }:=I.turned (t':=s.toks) (λb o hb e=>(sb.2 b hb).trans e) f0 f1 f3 f4 f5;obtain⟨o,e,c,d⟩:=id st';exact⟨u,rfl,qE7 (s:={ s with heap:=h' }) e c d (by decide) ⟨x,H,I1,ru,⟨rfl,λys hy=>by rw[I.list_inj hy hq];exact hx⟩,st',λb hb=>(hf b hb).1⟩⟩
done:=by intro X hP hw hK hc i pins s σ H E I hf st hg;subst hP hw hK;obtain⟨xs,hq,hx⟩:=hg;obtain⟨its,rv,p,hz⟩:=I.list hq;obtain⟨f0,f1,f2,f3,f4,f5⟩:=hf it (by simp);have hl:=rv.length;exact wpAny_pyNext_list_end (I.ok.hd hc) st p.isList (by simp;lia) λh' eb=>⟨rfl,I.turned (t':=s.toks) (λb o hb e=>eb b o hb e) f0 f1 f3 f4 f5⟩
self:=λ_ _ _ _ _ st h=>wpAny_pyIter_listiter st h
theorem qBN{P:Program}{w:World}{K:PySem.W.Frag}{tg:Expr}(it:Addr)(lo:Int)(n:Nat):Turn P w K tg (Itr lo n) [it] it (λi h=>IsRangeIter h it (lo+(i:Nat)*1) ((n:Int)-(i:Nat)) 1) where
mem:=by simp
obj:=λi h st b hb=>by
 have e:b=it:=by simpa using hb
 subst e;exact⟨_,st,λv z=>by have z':Data.fields _=Data.cell v:=z;cases z'⟩
keep:=λi h h' st k=>k it (by simp) _ st
item:=by intro X hP hw hK hc i pins s σ H E I hf st hg;subst hP hw hK;obtain⟨f0,f1,f2,f3,f4,f5⟩:=hf it (by simp);have W:=Walks.range (prog:=X.prog) (w:=X.w) (I.ok.hd hc) it lo 1 n;refine W.item i s _ _ hg st λv h' tk hv st' kk=>?_;obtain⟨t,rfl⟩:=hv;have I1:Inv X pins σ H { s with heap:=h',toks:=tk }:=I.turned (λb o hb e=>kk b o (by simpa using hb) e) f0 f1 f3 f4 f5;refine⟨_,rfl,qE7 (s:={ s with heap:=h',toks:=tk }) (n:="range_iterator") st' rfl rfl (by decide) ⟨.int (lo+i),H,I1,⟨t,?_⟩,⟨rfl,rfl⟩,st',λb hb=>(hf b hb).1⟩⟩;rw[Int.mul_one]
done:=by intro X hP hw hK hc i pins s σ H E I hf st hg;subst hP hw hK;obtain⟨f0,f1,f2,f3,f4,f5⟩:=hf it (by simp);exact wpAny_pyNext_range_end (I.ok.hd hc) st (by have:n≤i:=hg;lia) λh' eb=>⟨rfl,I.turned (t':=s.toks) (λb o hb e=>eb b o hb e) f0 f1 f3 f4 f5⟩
self:=λ_ _ _ _ _ st h=>wpAny_pyIter_rangeiter st h
section
variable{X:Cx}{tg:Expr}
noncomputable def qL4(K:PySem.W.Frag)(tl:TE):TI:=λσ H R=>tl σ H λx H1=>∃a,x=.ref a∧(∃xs,SqL K H1 a xs)∧R (Itl K a) H1
theorem yC{l:Expr}{tl:TE}(hl:PE X l tl):PI X tg l (qL4 X.K tl):=by(
intro pins s σ H R I h
refine thn (hl pins s σ H _ I h) λv s1 hZ=>?_
obtain⟨x,H1,I1,r1,q1⟩:=hZ
obtain⟨a,e,⟨xs,hq⟩,q⟩:=q1
subst e
cases r1
obtain⟨its,rv,p,hz⟩:=I1.list hq
refine wpAny_pyIter_list p.isList ?_
refine⟨s1.heap.objs.size,[s1.heap.objs.size],_,_,H1,rfl,I1.kept (t':=s1.toks) λb o e=>kE _ e,qDJ a _,⟨_,mF _ rfl,rfl,rfl⟩,λb hb=>?_,q⟩
have e:b=s1.heap.objs.size:=by simpa using hb
subst e
exact I1.fpOk (kN _) (I1.hok.fresh (kN _)))
theorem qAA{pins:List (Addr×Obj)}{σ:St}{H:Hp}{s:Shared}{R:It→Hp→Prop}{E:Value→Shared→Prop}{lo hi:Int}{t u v:Tok}{tk:Nat}(I:Inv X pins σ H s)(h1:-(2 ^ 62)≤lo)(h2:lo<2 ^ 62)(h3:-(2 ^ 62)≤hi)(h4:hi<2 ^ 62)
 (q:R (Itr lo (hi-lo).toNat) H):wpAny (model X.prog X.w) X.A (pyIter (.ref s.heap.objs.size)) (PIE X pins σ tg R) E { s with heap:=s.heap.push { cls:=.type "range",data:=.fields #[.int lo t,.int hi u,.int 1 v] },toks:=tk }:=by(
refine wpAny_pyIter_range (IsRange.new ..) (small_one h1 h2 h3 h4) ?_
have I1:Inv X pins σ H { s with heap:=s.heap.push { cls:=.type "range",data:=.fields #[.int lo t,.int hi u,.int 1 v] },toks:=tk }:=I.kept λb o e=>kE _ e
refine⟨(s.heap.push { cls:=.type "range",data:=.fields #[.int lo t,.int hi u,.int 1 v] }).objs.size,[(s.heap.push { cls:=.type "range",data:=.fields #[.int lo t,.int hi u,.int 1 v] }).objs.size],_,_,H,rfl,I1.kept (t':=tk) λb o e=>kE _ e,qBN _ lo (hi-lo).toNat,?_,λb hb=>?_,q⟩
·have e1:lo+((0:Nat):Int)*1=lo:=by simp
 have e2:(((hi-lo).toNat:Nat):Int)-((0:Nat):Int)=Builtin.Range.rangeSize lo hi 1:=by rw[rangeSize_one];split<;>lia
 show IsRangeIter _ _ (lo+((0:Nat):Int)*1) ((((hi-lo).toNat:Nat):Int)-((0:Nat):Int)) 1;rw[e1,e2];exact mF _ rfl
have e:b=(s.heap.push { cls:=.type "range",data:=.fields #[.int lo t,.int hi u,.int 1 v] }).objs.size:=by simpa using hb
subst e
exact I1.fpOk (kN _) (I1.hok.fresh (kN _)))
noncomputable def qL5(ta:TA):TI:=λσ H R=>ta σ H λvs H1=>∃j:Int,vs=[.int j]∧-(2 ^ 62)≤j∧j<2 ^ 62∧R (Itr 0 j.toNat) H1
noncomputable def qL6(ta:TA):TI:=λσ H R=>ta σ H λvs H1=>∃i j:Int,vs=[.int i,.int j]∧(-(2 ^ 62)≤i∧i<2 ^ 62∧-(2 ^ 62)≤j∧j<2 ^ 62)∧R (Itr i (j-i).toNat) H1
theorem q4Q{a:Expr}{ta:TA}{p pos:Pos}(hg:Gl X "range")(hm:X.mg "range"=none)(ha:PA X [a] ta)(hs:starEach [a] X.env=[(false,eval a X.env)]:=by rfl):PI X tg (.Call (.Name "range" p) [a] [] pos) (qL5 ta):=by(
intro pins s σ H R I h
refine Call_ (q3I I hg hm boot_range (r9 (thn (ha pos pins s σ H _ I h) λus s1 hZ=>?_) hs rfl))
obtain⟨vs,H1,I1,r1,q1⟩:=hZ
obtain⟨j,e,q1,q2,q⟩:=q1
subst e
cases r1 with
|cons r rr=>cases rr;obtain⟨t,rfl⟩:=r;exact call_range_1 (qAA I1 (by lia) (by lia) q1 q2 (by simpa using q)))
theorem q88{a b:Expr}{ta:TA}{p pos:Pos}(hg:Gl X "range")(hm:X.mg "range"=none)(ha:PA X [a,b] ta)(hs:starEach [a,b] X.env=[(false,eval a X.env),(false,eval b X.env)]:=by rfl)(hs2:starEach [b] X.env=[(false,eval b X.env)]:=by rfl):
 PI X tg (.Call (.Name "range" p) [a,b] [] pos) (qL6 ta):=by(
intro pins s σ H R I h
refine Call_ (q3I I hg hm boot_range (r9 (thn (ha pos pins s σ H _ I h) λus s1 ⟨vs,H1,I1,r1,q1⟩=>?_) (by rw[hs,hs2]) (by rw[hs2];rfl)))
obtain⟨i,j,e,⟨q1,q2,q3,q4⟩,q⟩:=q1
subst e
cases r1 with
|cons r rr=>
 cases rr with
 |cons r' rr=>cases rr;obtain⟨t,rfl⟩:=r;obtain⟨t',rfl⟩:=r';exact call_range_2 (qAA I1 q1 q2 q3 q4 q))
noncomputable def tFor(wi:TI)(g:TG)(tb:TS):TS:=λD σ H=>wi σ H λJ H1=>∃W:Nat→Nat→St→Hp→Prop,(∃m,W 0 m σ H1)∧∀i m σ H,W i m σ H→(J.stop i H∧D.nx σ H)∨(J.go i H∧∃N:St→Hp→Prop,(∀σ' H',N σ' H'→∃m',m'<m∧W (i+1) m' σ' H')∧∀x H',J.yld i H x H'→g x σ H' λσ2 H2=>tb { D with nx:=N,ct:=N,bk:=D.nx } σ2 H2)
noncomputable def q68(fp:List Addr)(h:Heap):List (Addr×Obj):=fp.filterMap λb=>(h.get? b).map λo=>(b,o)
theorem u6{fp:List Addr}{h:Heap}{b:Addr}{o:Obj}(hb:b∈fp)(e:h.get? b=some o):(b,o)∈q68 fp h:=rR.mpr ⟨b,hb,by rw[e];rfl⟩
theorem qDK{fp:List Addr}{h:Heap}{p:Addr×Obj}(hp:p∈q68 fp h):p.1∈fp∧h.get? p.1=some p.2:=by(
obtain⟨b,hb,e⟩:=rR.mp hp
cases q:h.get? b with
|none=>rw[q]at e;cases e
|some o=>rw[q]at e;have e':(b,o)=p:=kL e;subst e';exact⟨hb,q⟩)
theorem Inv.pinned{pins:List (Addr×Obj)}{σ:St}{H:Hp}{s:Shared}{fp:List Addr}(I:Inv X pins σ H s)(hf:∀b∈fp,FpOk X pins H b)(ho:∀b∈fp,∃o,s.heap.get? b=some o∧∀v,o.data≠ .cell v):Inv X (pins++q68 fp s.heap) σ H s:=I.pins_of λp hp=>(gT.mp hp).elim (λz=>I.pin p (kZ _ z)) λz=>by  obtain⟨hb,e⟩:=qDK z;obtain⟨f0,f1,f2,_⟩:=hf p.1 hb;obtain⟨o,e',d⟩:=ho p.1 hb;rw[e]at e';cases e';exact⟨e,f0,f1,f2,d⟩
theorem Inv.unpinned{pins pl:List (Addr×Obj)}{σ:St}{H:Hp}{s:Shared}(I:Inv X (pins++pl) σ H s):Inv X pins σ H s:=I.pins_of λp hp=>I.pin p (kZ _ (gI _ hp))
theorem zY{iter:Expr}{body:List Stmt}{wi:TI}{g:TG}{tb:TS}{pos:Pos}(hp:PassesOwn (model X.prog X.w) X.A X.env X.xe)(hc:X.calm=true)(hi:PI X tg iter wi)(hg:PG X tg g)(hb:PSs X body tb)
 (hs:∀x,foldedSetIterable iter X.env x=pure x:=by intro _;rfl):PS X (.For tg iter body [] pos) (tFor wi g tb):=by(
intro pins s σ H D I h
refine wpAny_For (thn (hi pins s σ H _ I h) λv s1 h1=>thn h1 λitv s2 h2=>?_) hs
obtain⟨it,fp,tn,J,H2,e,I2,T,st2,f2,W,⟨m0,w0⟩,turn⟩:=h2
subst e
have stat:∀{H':Hp},(∀b∈fp,H' b=none)→∀b∈fp,FpOk X pins H' b:=λhn b hb=>⟨hn b hb,(f2 b hb).2⟩
refine codeAny_forLoop_any (λn s'=>∃i σ' H',Inv X pins σ' H' s'∧tn i s'.heap∧(∀b∈fp,H' b=none)∧W i n σ' H') ?_ m0 ⟨0,σ,H2,I2,st2,λb hb=>(f2 b hb).1,w0⟩
rintro n s3 ⟨i,σ3,H3,I3,st3,fr3,w3⟩
rcases turn i n σ3 H3 w3 with⟨stop,qn⟩|⟨go,N,hN,step⟩
·refine rB hp (thn (T.done X rfl rfl rfl hc i pins s3 σ3 H3 X.xe I3 (stat fr3) st3 stop) λr s4 hZ=>?_);obtain⟨hr,I4⟩:=hZ;subst hr;exact wU ⟨σ3,H3,I4,qn⟩
refine rB hp (thn (T.item X rfl rfl rfl hc i pins s3 σ3 H3 X.xe I3 (stat fr3) st3 go) λr s4 hZ=>?_)
obtain⟨u,hr,h4⟩:=hZ
subst hr
refine rB hp (thn h4 λ_ s5 hZ=>?_)
obtain⟨x,H5,I5,r5,y5,st5,fr5⟩:=hZ
have I5':=I5.pinned (stat fr5) (T.obj _ _ st5)
refine rB hp (thn (hg _ s5 σ3 H5 x u _ I5' r5 (step x H5 y5)) λ_ s6 hZ=>?_)
obtain⟨σ6,H6,I6,q6⟩:=hZ
refine rB hp (thn (hb _ s6 σ6 H6 _ I6 q6) λf s7 q7=>?_)
have again:∀{σ7:St} {H7:Hp},Inv X (pins++q68 fp s5.heap) σ7 H7 s7→N σ7 H7→∃m,m<n∧∃i σ' H',Inv X pins σ' H' s7∧tn i s7.heap∧(∀b∈fp,H' b=none)∧W i m σ' H':=fun {σ7 H7} I7 n7=>by obtain⟨m',hm,w7⟩:=hN σ7 H7 n7;refine⟨m',hm,i+1,σ7,H7,I7.unpinned,T.keep _ _ _ st5 λb hb o e=>(I7.pin (b,o) (kZ _ (kZ _ (u6 hb e)))).1,λb hb=>?_,w7⟩;obtain⟨o,e,d⟩:=T.obj _ _ st5 b hb;exact(I7.pin (b,o) (kZ _ (kZ _ (u6 hb e)))).2.1
cases f with
|next=>obtain⟨σ7,H7,I7,n7⟩:=q7;exact again I7 n7
|cont=>obtain⟨σ7,H7,I7,n7⟩:=q7;exact again I7 n7
|brk=>obtain⟨σ7,H7,I7,q7⟩:=q7;exact⟨σ7,H7,I7.unpinned,q7⟩
|ret v=>obtain⟨x7,σ7,H7,I7,r7,q7⟩:=q7;exact⟨x7,σ7,H7,I7.unpinned,r7,q7⟩)
end
theorem q0J{K:PySem.W.Frag}{a:Addr}{xs:List V}{g:TG}{tb:TS}{D:Ends}{σ:St}{H:Hp}(Pv:Nat→St→Hp→Prop)(h0:Pv 0 σ H)(hl:∀i σ H,i≤xs.length→Pv i σ H→SqL K H a xs)
 (hs:∀i x σ H,xs[i]?=some x→Pv i σ H→g x σ H λσ2 H2=>tb { D with nx:=Pv (i+1),ct:=Pv (i+1),bk:=D.nx } σ2 H2) (hd:∀σ H,Pv xs.length σ H→D.nx σ H):
 ∃W:Nat→Nat→St→Hp→Prop,(∃m,W 0 m σ H)∧∀i m σ H,W i m σ H→((Itl K a).stop i H∧D.nx σ H)∨((Itl K a).go i H∧∃N:St→Hp→Prop,(∀σ' H',N σ' H'→∃m',m'<m∧W (i+1) m' σ' H')∧∀x H',(Itl K a).yld i H x H'→g x σ H' λσ2 H2=>tb { D with nx:=N,ct:=N,bk:=D.nx } σ2 H2):=by(
refine⟨λi m σ H=>m=xs.length-i∧i≤xs.length∧Pv i σ H,⟨xs.length,by simp,mL _,h0⟩,?_⟩
rintro i m σ H ⟨rfl,hi,p⟩
have q:=hl i σ H hi p
by_cases hlt:i<xs.length
·refine .inr ⟨⟨xs,xs[i],q,by simp[hlt]⟩,Pv (i+1),λσ' H' p'=>⟨xs.length-(i+1),by lia,rfl,hlt,p'⟩,λx H' y=>?_⟩;obtain⟨e,y⟩:=y;subst e;exact hs i x σ _ (y xs q) p
have e:i=xs.length:=by lia
subst e
exact .inl ⟨⟨xs,q,kN _⟩,hd σ H p⟩)
theorem q4R{lo:Int}{n:Nat}{g:TG}{tb:TS}{D:Ends}{σ:St}{H:Hp}(Pv:Nat→St→Hp→Prop)(h0:Pv 0 σ H)
 (hs:∀i σ H,i<n→Pv i σ H→g (.int (lo+i)) σ H λσ2 H2=>tb { D with nx:=Pv (i+1),ct:=Pv (i+1),bk:=D.nx } σ2 H2) (hd:∀σ H,Pv n σ H→D.nx σ H):
 ∃W:Nat→Nat→St→Hp→Prop,(∃m,W 0 m σ H)∧∀i m σ H,W i m σ H→((Itr lo n).stop i H∧D.nx σ H)∨((Itr lo n).go i H∧∃N:St→Hp→Prop,(∀σ' H',N σ' H'→∃m',m'<m∧W (i+1) m' σ' H')∧∀x H',(Itr lo n).yld i H x H'→g x σ H' λσ2 H2=>tb { D with nx:=N,ct:=N,bk:=D.nx } σ2 H2):=by(
refine⟨λi m σ H=>m=n-i∧i≤n∧Pv i σ H,⟨n,by simp,mL _,h0⟩,?_⟩
rintro i m σ H ⟨rfl,hi,p⟩
by_cases hlt:i<n
·refine .inr ⟨hlt,Pv (i+1),λσ' H' p'=>⟨n-(i+1),by lia,rfl,hlt,p'⟩,λx H' y=>?_⟩;obtain⟨e,y⟩:=y;subst e y;exact hs i σ _ hlt p
have e:i=n:=by lia
subst e
exact .inl ⟨kN _,hd σ H p⟩)
noncomputable abbrev R2:=V→V→Hp→VK→Prop
noncomputable def OpR(X:Cx)(f:Value→Value→Sem Value)(r:R2):Prop:=∀(pins:List (Addr×Obj)) (s:Shared) (σ:St) (H:Hp) (x y:V) (v u:Value) (Q:VK),Inv X pins σ H s→RelV x v→RelV y u→r x y H Q→wpAny (model X.prog X.w) X.A (f v u) (EP X pins σ Q) X.xe s
noncomputable def q3A(X:Cx)(f:Value)(r:List V→Hp→VK→Prop):Prop:=∀(pins:List (Addr×Obj)) (s:Shared) (σ:St) (H:Hp) (xs:List V) (us:List Value) (Q:VK),Inv X pins σ H s→Vals xs us→r xs H Q→wpAny (model X.prog X.w) X.A (call f us) (EP X pins σ Q) X.xe s
noncomputable def tOp(r:R2)(ta tb:TE):TE:=λσ H Q=>ta σ H λx H1=>tb σ H1 λy H2=>r x y H2 Q
noncomputable def rI(C:Int→Int→Prop)(g:Int→Int→V):R2:=λx y H Q=>∃i j,x=.int i∧y=.int j∧C i j∧Q (g i j) H
noncomputable def rI0(g:Int→Int→V):R2:=λx y H Q=>∃i j,x=.int i∧y=.int j∧Q (g i j) H
section
variable{X:Cx}{a b c:Expr}{ta tb tc:TE}{pos:Pos}
theorem binT(ha:PE X a ta)(hb:PE X b tb){pins:List (Addr×Obj)}{s:Shared}{σ:St}{H:Hp}{R:V→V→Hp→Prop}(I:Inv X pins σ H s)
 (h:ta σ H λx H1=>tb σ H1 λy H2=>R x y H2) {Q:Value→Shared→Prop} {f:Value→Value→Sem Value}
 (hf:∀v u s2 x y H2,Inv X pins σ H2 s2→RelV x v→RelV y u→R x y H2→wpAny (model X.prog X.w) X.A (f v u) Q X.xe s2):
 wpAny (model X.prog X.w) X.A (eval a X.env) (λv s₁=>wpAny (model X.prog X.w) X.A (eval b X.env) (λu s₂=>wpAny (model X.prog X.w) X.A (f v u) Q X.xe s₂) X.xe s₁) X.xe s:=by(
refine thn (ha pins s σ H _ I h) λv s1 hZ=>?_
obtain⟨x,H1,I1,r1,q1⟩:=hZ
refine thn (hb pins s1 σ H1 _ I1 q1) λu s2 hZ=>?_
obtain⟨y,H2,I2,r2,q2⟩:=hZ
exact hf v u s2 x y H2 I2 r1 r2 q2)
theorem qN{op:Operator}{r:R2}(ho:OpR X (binaryOp op) r)(ha:PE X a ta)(hb:PE X b tb):PE X (.BinOp a op b pos) (tOp r ta tb):=by intro pins s σ H Q I h;exact wpAny_BinOp (binT ha hb I h λv u s2 x y H2 I2 rx ry q=>ho pins s2 σ H2 x y v u Q I2 rx ry q)
theorem opI{f:Value→Value→Sem Value}{C:Int→Int→Prop}{g:Int→Int→Int}
 (rule:∀(i j:Int) (t u:Tok) (s:Shared) (Q:Value→Shared→Prop) (E:Value→Shared→Prop),C i j→Q (.int (g i j) s.toks) { s with toks:=s.toks+1 }→wpAny (model X.prog X.w) X.A (f (.int i t) (.int j u)) Q E s):
 OpR X f (rI C λi j=>.int (g i j)):=by(
intro pins s σ H x y v u Q I rx ry h
obtain⟨i,j,rfl,rfl,hc,q⟩:=h
obtain⟨t,rfl⟩:=rx
obtain⟨t',rfl⟩:=ry
exact rule i j t t' s _ _ hc ⟨.int (g i j),H,I.tok _,⟨_,rfl⟩,q⟩)
theorem opI0{f:Value→Value→Sem Value}{g:Int→Int→Int}
 (rule:∀(i j:Int) (t u:Tok) (s:Shared) (Q:Value→Shared→Prop) (E:Value→Shared→Prop),Q (.int (g i j) s.toks) { s with toks:=s.toks+1 }→wpAny (model X.prog X.w) X.A (f (.int i t) (.int j u)) Q E s):
 OpR X f (rI0 λi j=>.int (g i j)):=by(
intro pins s σ H x y v u Q I rx ry h
obtain⟨i,j,rfl,rfl,q⟩:=h
obtain⟨t,rfl⟩:=rx
obtain⟨t',rfl⟩:=ry
exact rule i j t t' s _ _ ⟨.int (g i j),H,I.tok _,⟨_,rfl⟩,q⟩)
theorem opB0{f:Value→Value→Sem Value}{g:Int→Int→Bool}
 (rule:∀(i j:Int) (t u:Tok) (s:Shared) (Q:Value→Shared→Prop) (E:Value→Shared→Prop),Q (.bool (g i j)) s→wpAny (model X.prog X.w) X.A (f (.int i t) (.int j u)) Q E s):
 OpR X f (rI0 λi j=>.bl (g i j)):=by(
intro pins s σ H x y v u Q I rx ry h
obtain⟨i,j,rfl,rfl,q⟩:=h
obtain⟨t,rfl⟩:=rx
obtain⟨t',rfl⟩:=ry
exact rule i j t t' s _ _ ⟨.bl (g i j),H,I,rfl,q⟩)
noncomputable def CDiv(i j:Int):Prop:=0<j∧j<1073741824
noncomputable def CPow(i j:Int):Prop:=0≤j∧j≤1000000∧i.natAbs<2 ^ 64
noncomputable def CMul(i j:Int):Prop:=(-(2 ^ 64)<i∧i<2 ^ 64)∨(-(2 ^ 64)<j∧j<2 ^ 64)
theorem CMul.ok{i j:Int}(h:CMul i j):IntMulOk i j:=by(
rcases h with⟨h1,h2⟩|⟨h1,h2⟩
·exact .of_left (intBits_le_64 h1 h2)
exact .of_right (intBits_le_64 h1 h2))
theorem jV:OpR X (binaryOp .Add) (rI0 λi j=>.int (i+j)):=opI0 λ_ _ _ _ _ _ _ q=>add_int q
theorem yH:OpR X (binaryOp .Sub) (rI0 λi j=>.int (i-j)):=opI0 λ_ _ _ _ _ _ _ q=>sub_int q
theorem yP:OpR X (binaryOp .Mult) (rI CMul λi j=>.int (i*j)):=opI λ_ _ _ _ _ _ _ hc q=>mul_int q hc.ok
theorem zD:OpR X (binaryOp .FloorDiv) (rI CDiv λi j=>.int (i / j)):=opI λi j _ _ _ _ _ hc q=>by have h1:(0:Int)<j:=hc.1;have h2:j<1073741824:=hc.2;exact floordiv_int (by lia) (by rw[Int.fdiv_eq_ediv_of_nonneg i (by lia)];exact q) (.inl (PyProof.noPylong_small (by lia)))
theorem yX:OpR X (binaryOp .Mod) (rI (λ_ j=>0<j) λi j=>.int (i%j)):=opI λi j _ _ _ _ _ hc q=>by have h1:(0:Int)<j:=hc;exact mod_int' (by lia) (by rw[Int.fmod_eq_emod_of_nonneg i (by lia)];exact q)
theorem qE8:OpR X (binaryOp .Pow) (rI CPow λi j=>.int (i ^ j.toNat)):=opI λ_ _ _ _ _ _ _ hc q=>pow_int_small hc.1 hc.2.1 hc.2.2 q
theorem qJ7:OpR X (binaryOp .LShift) (rI CPow λi j=>.int (i*2 ^ j.toNat)):=opI λ_ _ _ _ _ _ _ hc q=>lshift_int_small hc.1 hc.2.1 hc.2.2 q
theorem qL7:OpR X (binaryOp .BitOr) (rI0 λi j=>.int (Builtin.bitOr i j)):=opI0 λ_ _ _ _ _ _ _ q=>or_int q
end
noncomputable def scal:V→V→Bool
| .non,.non=>true| .non,.int _=>true| .int _,.non=>true| .non,.bl _=>true| .bl _,.non=>true| .non,.str _=>true| .str _,.non=>true
| .int _,.int _=>true| .bl _,.bl _=>true| .str _,.str _=>true| .byt _,.byt _=>true
| .int _,.str _=>true| .str _,.int _=>true| .bl _,.str _=>true| .str _,.bl _=>true
|_,_=>false
noncomputable def rEq:R2:=λx y H Q=>scal x y=true∧Q (.bl (decide (x=y))) H
noncomputable def rNe:R2:=λx y H Q=>scal x y=true∧Q (.bl (!decide (x=y))) H
theorem qCC{i j:Int}:decide (V.int i=V.int j)=(i==j):=by rw[rC];simp
theorem qE9{i j:Bool}:decide (V.bl i=V.bl j)=(i==j):=by rw[rC];simp
theorem qCD{i j:Str}:decide (V.str i=V.str j)=(i==j):=by rw[rC];simp
theorem qCE{i j:Array UInt8}:decide (V.byt i=V.byt j)=(i.toList==j.toList):=by(
rw[rC]
cases i
cases j
simp)
section
variable{X:Cx}{a b c:Expr}{ta tb tc:TE}{pos:Pos}
theorem jI{pins:List (Addr×Obj)}{σ:St}{H:Hp}{s:Shared}{Q:VK}{k k':Bool}(I:Inv X pins σ H s)(q:Q (.bl k) H)(e:k=k'):EP X pins σ Q (.bool k') s:=by subst e;exact⟨.bl k,H,I,rfl,q⟩
theorem yO:OpR X (compareOp .Eq) rEq:=by(
intro pins s σ H x y v u Q I rx ry h
obtain⟨hs,q⟩:=h
cases x with
|non=>
 cases rx;cases y with
 |non=>cases ry;exact PySem.EqNone.eq_none_none (jI I q (by simp))
 |bl j=>cases ry;exact PySem.EqNone.eq_none_bool (jI I q (by simp))
 |int j=>obtain⟨t',rfl⟩:=ry;exact PySem.EqNone.eq_none_int (jI I q (by simp))
 |str j=>obtain⟨t',rfl⟩:=ry;exact PySem.EqNone.eq_none_str (jI I q (by simp))
 |_=>exact absurd (show false=true from hs) kM
|bl i=>
 cases rx;cases y with
 |non=>cases ry;exact PySem.EqNone.eq_bool_none (jI I q (by simp))
 |bl j=>cases ry;exact eq_bool (jI I q qE9)
 |str j=>obtain⟨t',rfl⟩:=ry;exact aP (jI I q (by simp))
 |_=>exact absurd (show false=true from hs) kM
|int i=>
 obtain⟨t,rfl⟩:=rx;cases y with
 |non=>cases ry;exact PySem.EqNone.eq_int_none (jI I q (by simp))
 |int j=>obtain⟨t',rfl⟩:=ry;exact eq_int (jI I q qCC)
 |str j=>obtain⟨t',rfl⟩:=ry;exact aT (jI I q (by simp))
 |_=>exact absurd (show false=true from hs) kM
|str i=>
 obtain⟨t,rfl⟩:=rx;cases y with
 |non=>cases ry;exact PySem.EqNone.eq_str_none (jI I q (by simp))
 |bl j=>cases ry;exact aQ (jI I q (by simp))
 |int j=>obtain⟨t',rfl⟩:=ry;exact aU (jI I q (by simp))
 |str j=>obtain⟨t',rfl⟩:=ry;exact eq_str (jI I q qCD)
 |_=>exact absurd (show false=true from hs) kM
|byt i=>
 obtain⟨t,rfl⟩:=rx;cases y with
 |byt j=>obtain⟨t',rfl⟩:=ry;exact PySem.W.eq_bytes (jI I q qCE)
 |_=>exact absurd (show false=true from hs) kM
|_=>cases y<;>exact absurd (show false=true from hs) kM)
theorem q3B:OpR X (compareOp .NotEq) rNe:=by(
intro pins s σ H x y v u Q I rx ry h
obtain⟨hs,q⟩:=h
cases x with
|non=>
 cases rx;cases y with
 |non=>cases ry;exact PySem.EqNone.ne_none_none (jI I q (by simp))
 |bl j=>cases ry;exact PySem.EqNone.ne_none_bool (jI I q (by simp))
 |int j=>obtain⟨t',rfl⟩:=ry;exact PySem.EqNone.ne_none_int (jI I q (by simp))
 |str j=>obtain⟨t',rfl⟩:=ry;exact PySem.EqNone.ne_none_str (jI I q (by simp))
 |_=>exact absurd (show false=true from hs) kM
|bl i=>
 cases rx;cases y with
 |non=>cases ry;exact PySem.EqNone.ne_bool_none (jI I q (by simp))
 |bl j=>cases ry;exact ne_bool (jI I q (g5 not qE9))
 |str j=>obtain⟨t',rfl⟩:=ry;exact aR (jI I q (by simp))
 |_=>exact absurd (show false=true from hs) kM
|int i=>
 obtain⟨t,rfl⟩:=rx;cases y with
 |non=>cases ry;exact PySem.EqNone.ne_int_none (jI I q (by simp))
 |int j=>obtain⟨t',rfl⟩:=ry;exact ne_int (jI I q (g5 not qCC))
 |str j=>obtain⟨t',rfl⟩:=ry;exact aV (jI I q (by simp))
 |_=>exact absurd (show false=true from hs) kM
|str i=>
 obtain⟨t,rfl⟩:=rx;cases y with
 |non=>cases ry;exact PySem.EqNone.ne_str_none (jI I q (by simp))
 |bl j=>cases ry;exact aS (jI I q (by simp))
 |int j=>obtain⟨t',rfl⟩:=ry;exact aW (jI I q (by simp))
 |str j=>obtain⟨t',rfl⟩:=ry;exact ne_str (jI I q (g5 not qCD))
 |_=>exact absurd (show false=true from hs) kM
|byt i=>
 obtain⟨t,rfl⟩:=rx;cases y with
 |byt j=>obtain⟨t',rfl⟩:=ry;exact PySem.W.ne_bytes (jI I q (g5 not qCE))
 |_=>exact absurd (show false=true from hs) kM
|_=>cases y<;>exact absurd (show false=true from hs) kM)
theorem q1L:OpR X (compareOp .Lt) (rI0 λi j=>.bl (decide (i<j))):=opB0 λ_ _ _ _ _ _ _ q=>lt_int q
theorem qEA:OpR X (compareOp .LtE) (rI0 λi j=>.bl (decide (i≤j))):=opB0 λ_ _ _ _ _ _ _ q=>le_int q
theorem qEB:OpR X (compareOp .Gt) (rI0 λi j=>.bl (decide (j<i))):=opB0 λ_ _ _ _ _ _ _ q=>gt_int q
theorem qCF:OpR X (compareOp .GtE) (rI0 λi j=>.bl (decide (j≤i))):=opB0 λ_ _ _ _ _ _ _ q=>ge_int q
theorem q69:OpR X (compareOp .Is) (λx y H Q=>y=.non∧Q (.bl (decide (x=.non))) H):=by(
intro pins s σ H x y v u Q I rx ry h
obtain⟨rfl,q⟩:=h
cases ry
refine is_none_gen (jI I q ?_)
cases x<;>first
 |(cases rx;rfl)
 |(obtain⟨t,rfl⟩:=rx;rfl))
theorem q5X:OpR X (compareOp .IsNot) (λx y H Q=>y=.non∧Q (.bl (!decide (x=.non))) H):=by(
intro pins s σ H x y v u Q I rx ry h
obtain⟨rfl,q⟩:=h
cases ry
refine isnot_none_gen (jI I q ?_)
cases x<;>first
 |(cases rx;rfl)
 |(obtain⟨t,rfl⟩:=rx;rfl))
theorem qO(b:Expr){op:CmpOp}(h:op≠ .In:=by decide)(h2:op≠ .NotIn:=by decide):behindInMarks op b=false:=by(
have e1:(op==CmpOp.In)=false:=by cases op<;>first|rfl|exact absurd rfl h
have e2:(op==CmpOp.NotIn)=false:=by cases op<;>first|rfl|exact absurd rfl h2
cases b<;>simp[behindInMarks,e1,e2])
theorem jR{op:CmpOp}{r:R2}(ho:OpR X (compareOp op) r)(ha:PE X a ta)(hb:PE X b tb)(hm:behindInMarks op b=false):PE X (.Compare a [op] [b] pos) (tOp r ta tb):=by intro pins s σ H Q I h;exact wpAny_Compare1 (binT ha hb I h λv u s2 x y H2 I2 rx ry q=>ho pins s2 σ H2 x y v u Q I2 rx ry q) hm
noncomputable def qCG(t:TE):TT:=λσ H Q=>t σ H λx H'=>∃k,x=.bl k∧Q k H'
theorem qQ{op:CmpOp}{r:R2}(ho:OpR X (compareOp op) r)(ha:PE X a ta)(hb:PE X b tb)(hm:behindInMarks op b=false):PT X (.Compare a [op] [b] pos) (qCG (tOp r ta tb)):=by(
intro pins s σ H Q I h
refine sT (thn (ha pins s σ H _ I h) λv s1 ⟨x,H1,I1,r1,q1⟩=>thn (hb pins s1 σ H1 _ I1 q1) λu s2 ⟨y,H2,I2,r2,q2⟩=>thn (ho pins s2 σ H2 x y v u _ I2 r1 r2 q2) λc s3 ⟨z,H3,I3,r3,k,e,q3⟩=>?_) hm
subst e
cases r3
exact g0 ⟨H3,I3,q3⟩)
noncomputable def qEC(r r':R2)(ta tb tc:TE):TE:=λσ H Q=>ta σ H λx H1=>tb σ H1 λy H2=>r x y H2 λz H3=>∃k,z=.bl k∧(if k=true then tc σ H3 λw' H4=>r' y w' H4 Q else Q (.bl false) H3)
theorem qED{op op':CmpOp}{r r':R2}(ho:OpR X (compareOp op) r)(ho':OpR X (compareOp op') r')(ha:PE X a ta)(hb:PE X b tb)(hc:PE X c tc)
 (hm:lastMarks [op,op'] [b,c]=false:=by with_unfolding_all rfl):PE X (.Compare a [op,op'] [b,c] pos) (qEC r r' ta tb tc):=by(
intro pins s σ H Q I h
refine Compare_chain (thn (ha pins s σ H _ I h) λv s1 ⟨x,H1,I1,r1,q1⟩=>chain_link (thn (hb pins s1 σ H1 _ I1 q1) λu s2 ⟨y,H2,I2,r2,q2⟩=>thn (ho pins s2 σ H2 x y v u _ I2 r1 r2 q2) λd s3 ⟨z,H3,I3,r3,k,e,q3⟩=>?_)) hm
subst e
cases r3
refine g0 ?_
cases k with
|false=>exact ite_ff ⟨.bl false,H3,I3,rfl,q3⟩
|true=>exact ite_tt (chain_last (thn (hc pins s3 σ H3 _ I3 q3) λw' s4 ⟨z',H4,I4,r4,q4⟩=>ho' pins s4 σ H4 y z' u w' Q I4 r2 r4 q4)))
theorem qEE{op op':CmpOp}{r r':R2}(ho:OpR X (compareOp op) r)(ho':OpR X (compareOp op') r')(ha:PE X a ta)(hb:PE X b tb)(hc:PE X c tc)
 (hm:lastMarks [op,op'] [b,c]=false:=by with_unfolding_all rfl):PT X (.Compare a [op,op'] [b,c] pos) (qCG (qEC r r' ta tb tc)):=by(
intro pins s σ H Q I h
refine isTrue_chain (thn (ha pins s σ H _ I h) λv s1 ⟨x,H1,I1,r1,q1⟩=>test_link (thn (hb pins s1 σ H1 _ I1 q1) λu s2 ⟨y,H2,I2,r2,q2⟩=>thn (ho pins s2 σ H2 x y v u _ I2 r1 r2 q2) λd s3 ⟨z,H3,I3,r3,k,e,q3⟩=>?_)) hm
subst e
cases r3
refine g0 ?_
cases k with
|false=>obtain⟨k',e',q'⟩:=q3;cases e';exact ite_ff ⟨H3,I3,q'⟩
|true=>refine ite_tt (test_last (thn (hc pins s3 σ H3 _ I3 q3) λw' s4 ⟨z',H4,I4,r4,q4⟩=>thn (ho' pins s4 σ H4 y z' u w' _ I4 r2 r4 q4) λd' s5 hZ=>?_));obtain⟨z2,H5,I5,r5,k2,e2,q5⟩:=hZ;subst e2;cases r5;exact g0 ⟨H5,I5,q5⟩)
theorem q6A:(sizeLine:Nat)<2 ^ 63:=by rw[gA];decide
theorem q1Y{x:V}{us:List Value}(r:Vals [x] us):∃u,us=[u]∧RelV x u:=by
 cases r with
 |cons r1 r2=>cases r2;exact⟨_,rfl,r1⟩
theorem qIG{x y:V}{us:List Value}(r:Vals [x,y] us):∃u w',us=[u,w']∧RelV x u∧RelV y w':=by(
cases r with
|cons r1 r2=>
 cases r2 with
 |cons r3 r4=>cases r4;exact⟨_,_,rfl,r1,r3⟩)
theorem qDL(hc:X.calm=true):q3A X (.builtin "min") (λxs H Q=>∃i j,xs=[.int i,.int j]∧Q (.int (if j<i then j else i)) H):=by(
intro pins s σ H xs us Q I r h
obtain⟨i,j,rfl,q⟩:=h
obtain⟨u,w',rfl,⟨t,rfl⟩,⟨t',rfl⟩⟩:=qIG r
refine min_two_ints (I.ok.hd hc) λh' tk k=>⟨_,H,I.kept k,?_,q⟩
by_cases hj:j<i
·rw[kF hj,kF hj];exact⟨_,rfl⟩
rw[hV hj,hV hj];exact⟨_,rfl⟩)
theorem qDM:q3A X (.type "int") (λxs H Q=>(∃i,xs=[.int i]∧Q (.int i) H)∨∃k,xs=[.bl k]∧Q (.int (if k then 1 else 0)) H):=by(
intro pins s σ H xs us Q I r h
rcases h with⟨i,rfl,q⟩|⟨k,rfl,q⟩
·obtain⟨u,rfl,t,rfl⟩:=q1Y r;exact call_int_int ⟨.int i,H,I,⟨_,rfl⟩,q⟩
obtain⟨u,rfl,r1⟩:=q1Y r
cases r1
exact call_int_bool ⟨.int (if k then 1 else 0),H,I.tok _,⟨_,rfl⟩,q⟩)
end
structure ObjM(h:Heap)(x dx C:Addr)(mA:Str→Option Value):Prop where
obj:h.get? x=some (PySem.W.instObj C dx)
ns:h.Ns1 dx mA
ne:dx≠x
theorem q89{h:Heap}{dx:Addr}{mA:Str→Option Value}(n:h.Ns1 dx mA):∃od,h.get? dx=some od∧∀name,PySem.W.lookIn name od=some (mA name):=by(
obtain⟨o,es,ep,ho,hd,hk,_,hm⟩:=n
refine⟨o,ho,λname=>?_⟩
have e:=hm name
unfold nsFind findBy at e
rw[←Array.find?_toList]at e
unfold PySem.W.lookIn
rw[hd]
dsimp only
split
·rename_i y q;rw[q]at e;exact g5 some e
rename_i q
rw[q]at e
have a:es.toList.any (·.refKey)=false:=by rw[List.any_eq_false];intro y hy;obtain⟨z,t,hkey⟩:=hk y (Array.mem_toList_iff.mp hy);simp[DictEntry.refKey,hkey]
have a':¬es.toList.any (·.refKey)=true:=by rw[a];exact kM
rw[hV a']
exact g5 some e)
theorem ObjM.look{h:Heap}{x dx C:Addr}{mA:Str→Option Value}(I:ObjM h x dx C mA):∃od,PySem.W.InstAt h x (PySem.W.instObj C dx) C (some od)∧∀name,PySem.W.lookIn name od=some (mA name):=let⟨od,ho,hl⟩:=q89 I.ns
 ⟨od,⟨I.obj,rfl,rfl,ho⟩,hl⟩
section
variable{prog:Program}{w:World}{A:Around}{E:Value→Shared→Prop}{s:Shared}{K:PySem.W.Frag}{x dx C f:Addr}{mA:Str→Option Value}{name:Str}{v:Value}
theorem qGP{expr:Bool}{Q:Value→Shared→Prop}(X:K.In s.heap)(I:ObjM s.heap x dx C mA)(hg:PySem.W.plainGet K C name=true)(hh:PySem.W.hasDictIn K C=true)
 (ha:PySem.W.findIn K (.ref C) name=some none) (hv:mA name=some v) (hv':PySem.W.handedIn v=true) (h:Q v { s with toks:=s.toks+1 }):
 wpAny (model prog w) A (getAttr (.ref x) name expr) Q E s:=by obtain⟨od,J,hl⟩:=I.look;exact PySem.W.get_value X J (cY hg).1 (PySem.W.findObj_own hh ha rfl (by rw[hl,hv])) hv' h
theorem qEF{pl:Sem Bool}{Q:Value×List Value→Shared→Prop}(X:K.In s.heap)(I:ObjM s.heap x dx C mA)(hg:PySem.W.plainGet K C name=true)
 (hf:PySem.W.findIn K (.ref C) name=some (some (.ref f))) (ht:PySem.W.isFn K (.ref f)=true) (hv:mA name=none) (h:Q (.ref f,[.ref x]) s):
 wpAny (model prog w) A (getMethod (.ref x) name pl) Q E s:=by obtain⟨od,J,hl⟩:=I.look;exact PySem.W.method_fn X J (cY hg).1 (cY hg).2 hf (rF.mp ht) (by show(PySem.W.lookIn name od).map (·.isSome)=some false;rw[hl,hv];rfl) h
theorem qGQ{ns:List Str}{Q:Unit→Shared→Prop}(X:K.In s.heap)(I:ObjM s.heap x dx C mA)
 (hs:PySem.W.findIn K (.ref C) "__setattr__"=some (some (.builtin "object.__setattr__"))) (hp:PySem.W.plainOver K C=true) (ht:PySem.W.takerIn K C name=some none) (hh:PySem.W.hasDictIn K C=true)
 (hw:PySem.Within mA ns) (hsz:ns.length≤sizeLine)
 (h:∀h',ObjM h' x dx C (λy=>if y=name then some v else mA y)→Heap.SameBut dx s.heap h'→Q () { s with heap:=h',toks:=s.toks+2 }):
 wpAny (model prog w) A (setAttr (.ref x) name v) Q E s:=by(
obtain⟨od,J,hl⟩:=I.look
refine PySem.W.set_plain X J hs (PySem.W.osa_open (s:={ s with toks:=s.toks+1 }) (r:=none) X J hp ht λb=>?_)
obtain⟨cd,hc,hd'⟩:=cI hh
have hx:s.heap.get? x=some ⟨.ref C,some dx,.plain,#[]⟩:=I.obj
refine hI (kX (hI (hI (wpAny_loadPart hx (hI (bB (s:={ s with toks:=s.toks+1 }) (PySem.W.looks_clsIn X hc) ?_))))))
rw[hd']
refine kX (a:=some dx) (hI (kX (hI ?_)))
refine wpAny_nsSet1 (s:={ s with toks:=s.toks+1 }) I.ns λh' hn2 hs2=>?_
obtain⟨oD,esD,epD,hoD,hdD,hcD⟩:=hn2.count (PySem.Within.cons name v hw)
refine hI (wpAny_lookBehind hoD (by rw[hdD];exact pastItsLine_dict (k8 hcD (by rw[mB];lia))) ?_)
exact kX (h _ ⟨(hs2.2 _ (rQ I.ne)).trans I.obj,hn2,I.ne⟩ hs2))
theorem qEG{R:Result→Shared→Prop}{vs:List Value}{kw:List (Str×Value)}(X:K.In s.heap)(hm:PySem.W.makesIn K C=true)
 (hi:PySem.W.findIn K (.ref C) "__init__"=some (some (.ref f))) (hf:PySem.W.typeIn K (.ref f)=some (.type "function"))
 (h:codeAny (model prog w) (A.under (.builtin "type.__call__" ⟨.ref C::vs,kw⟩)) (.call (.ref f) ⟨.ref (s.heap.objs.size+1)::vs,kw⟩) (PySem.W.InitBack (s.heap.objs.size+1) R)
  { s with heap:=(s.heap.push PySem.W.emptyDict).push (PySem.W.instObj C s.heap.objs.size) }):
 codeAny (model prog w) A (.call (.ref C) ⟨vs,kw⟩) R s:=by obtain⟨hh,g,d,t,os⟩:=s;exact lR (xL X hm) (wD X hi) (λself=>PySem.W.bind_fn X self hf) (.inl rfl) h
end
noncomputable def putF(f:Str)(v:V):List (Str×V)→List (Str×V)
| []=>[(f,v)]
|(g,x)::r=>if g=f then(g,v)::r else(g,x)::putF f v r
theorem q5B(f g:Str)(v:V):∀fs:List (Str×V),(putF f v fs).lookup g=if g=f then some v else fs.lookup g
| []=>by
 show List.lookup g [(f,v)]=_;by_cases h:g=f
 ·have hb:(g==f)=true:=rF.mpr h;simp only[List.lookup,hb,kF h]
 have hb:(g==f)=false:=dR.mpr h;simp only[List.lookup,hb,hV h]
|(k,x)::r=>by
 have ih:=q5B f g v r;rw[show putF f v ((k,x)::r)=(if k=f then(k,v)::r else(k,x)::putF f v r)from rfl];by_cases hk:k=f
 ·rw[kF hk];by_cases h:g=k
  ·have hb:(g==k)=true:=rF.mpr h;simp only[List.lookup,hb,kF (h.trans hk)]
  have hb:(g==k)=false:=dR.mpr h;simp only[List.lookup,hb,hV (λe:g=f=>h (e.trans hk.symm))]
 rw[hV hk];by_cases h:g=k
 ·have hb:(g==k)=true:=rF.mpr h;simp only[List.lookup,hb,hV (λe:g=f=>hk (h.symm.trans e))]
 have hb:(g==k)=false:=dR.mpr h;simp only[List.lookup,hb];exact ih
theorem q4S(f:Str)(v:V):∀fs:List (Str×V),f∈(putF f v fs).map (·.1)∧∀g,g∈fs.map (·.1)→g∈(putF f v fs).map (·.1)
| []=>⟨by simp[putF],λg h=>by simp at h⟩
|(k,x)::r=>by
 obtain⟨i1,i2⟩:=q4S f v r;rw[show putF f v ((k,x)::r)=(if k=f then(k,v)::r else(k,x)::putF f v r)from rfl];by_cases hk:k=f
 ·rw[kF hk];subst hk;exact⟨by simp,λg h=>by simpa using h⟩
 rw[hV hk];refine⟨?_,λg h=>?_⟩
 ·rw[mJ];exact kB _ i1
 rw[mJ]at h ⊢;rcases kJ.mp h with e|e
 ·exact kJ.mpr (.inl e)
 exact kB _ (i2 g e)
theorem q5C(f:Str)(v:V):∀fs:List (Str×V),(putF f v fs).length≤fs.length+1
| []=>by simp[putF]
|(k,x)::r=>by
 have ih:=q5C f v r;rw[show putF f v ((k,x)::r)=(if k=f then(k,v)::r else(k,x)::putF f v r)from rfl];by_cases hk:k=f
 ·rw[kF hk,mB,mB];lia
 rw[hV hk,mB,mB];lia
theorem RelO.some_of{v:V}{o:Option Value}(r:RelO (some v) o):∃u,o=some u∧RelV v u:=by(
cases o with
|none=>exact(show False from r).elim
|some u=>exact⟨u,rfl,r⟩)
theorem RelO.none_of{o:Option Value}(r:RelO none o):o=none:=by(
cases o with
|none=>rfl
|some u=>exact(show False from r).elim)
theorem qDN{v:V}{u:Value}(r:RelV v u):PySem.W.handedIn u=true:=by(
cases v with
|non=>cases(show u=Value.none from r);rfl
|bl b=>cases(show u=Value.bool b from r);rfl
|int i=>obtain⟨t,e⟩:=(show ∃t,u=Value.int i t from r);cases e;rfl
|str x=>obtain⟨t,e⟩:=(show ∃t,u=Value.str x t from r);cases e;rfl
|byt b=>obtain⟨t,e⟩:=(show ∃t,u=Value.bytes b t from r);cases e;rfl
|flt b=>obtain⟨t,e⟩:=(show ∃t,u=Value.float b t from r);cases e;rfl
|ref a=>cases(show u=Value.ref a from r);rfl
|ty n=>cases(show u=Value.type n from r);rfl)
section
variable{P:Program}{w:World}{H H':Hp}{h h':Heap}{a C dx:Addr}{fs fs':List (Str×V)}
theorem q5Y(hok:HOk P w H h)(e:H a=some (.ins C dx fs)):∃mA,ObjM h a dx C mA∧(∀f,RelO (fs.lookup f) (mA f))∧PySem.Within mA (fs.map (·.1))∧fs.length≤1000∧H dx=some (.own a):=by obtain⟨d,z,ne,ob,mA,n,r,q⟩:=(show jK P w H h a (.ins C dx fs)from hok a _ e);exact⟨mA,⟨ob,n,ne⟩,r,q,z,d⟩
end
structure Cls(K:PySem.W.Frag)(C:Addr):Prop where
pg:PySem.W.plainGet K C Str.empty=true
hd:PySem.W.hasDictIn K C=true
po:PySem.W.plainOver K C=true
sa:PySem.W.findIn K (.ref C) "__setattr__"=some (some (.builtin "object.__setattr__"))
theorem Cls.get{K:PySem.W.Frag}{C:Addr}(c:Cls K C)(f:Str):PySem.W.plainGet K C f=true:=c.pg
noncomputable def qP(K:PySem.W.Frag)(C:Addr)(f:Str):Prop:=PySem.W.findIn K (.ref C) f=some none
theorem qP.taker{K:PySem.W.Frag}{C:Addr}{f:Str}(n:qP K C f):PySem.W.takerIn K C f=some none:=by unfold PySem.W.takerIn;rw[show PySem.W.findIn K (.ref C) f=some none from n];rfl
structure Meth(K:PySem.W.Frag)(C:Addr)(m:Str)(f:Addr):Prop where
at_:PySem.W.findIn K (.ref C) m=some (some (.ref f))
fn:PySem.W.isFn K (.ref f)=true
kp:PySem.W.keepIn K (.ref f)=true
section
variable{X:Cx}{pins:List (Addr×Obj)}{σ:St}{H:Hp}{s:Shared}{a C dx:Addr}{fs:List (Str×V)}{f:Str}{v:V}{A:Around}{E:Value→Shared→Prop}
theorem q6B{b:Bool}{Q:Value→Shared→Prop}(I:Inv X pins σ H s)(e:H a=some (.ins C dx fs))(c:Cls X.K C)(n:qP X.K C f)(l:fs.lookup f=some v)
 (h:∀u s',Inv X pins σ H s'→RelV v u→Q u s'):wpAny (model X.prog X.w) A (getAttr (.ref a) f b) Q E s:=by obtain⟨mA,O,r,_,_,_⟩:=q5Y I.hok e;obtain⟨u,hu,ru⟩:=RelO.some_of (v:=v) (o:=mA f) (by rw[←l];exact r f);exact qGP I.kIn O (c.get f) c.hd n hu (qDN ru) (h u _ (I.tok _) ru)
theorem q0W{m:Str}{g:Addr}{pl:Sem Bool}{Q:Value×List Value→Shared→Prop}(I:Inv X pins σ H s)(e:H a=some (.ins C dx fs))(c:Cls X.K C)(k:Meth X.K C m g)(l:fs.lookup m=none)
 (h:Q (.ref g,[.ref a]) s):wpAny (model X.prog X.w) A (getMethod (.ref a) m pl) Q E s:=by obtain⟨mA,O,r,_,_,_⟩:=q5Y I.hok e;have hn:mA m=none:=RelO.none_of (by rw[←l];exact r m);exact qEF I.kIn O (c.get m) k.at_ k.fn hn h
theorem q6C{y:V}{u:Value}{Q:Unit→Shared→Prop}(I:Inv X pins σ H s)(e:H a=some (.ins C dx fs))(c:Cls X.K C)(n:qP X.K C f)(hl:fs.length<1000)(ry:RelV y u)
 (h:∀s',Inv X pins σ (upd H a (.ins C dx (putF f y fs))) s'→Q () s'):wpAny (model X.prog X.w) A (setAttr (.ref a) f u) Q E s:=by(
obtain⟨mA,O,r,wi,_,ho⟩:=q5Y I.hok e
have hz:(fs.map (·.1)).length≤sizeLine:=by rw[h9,gA];lia
refine qGQ I.kIn O c.sa c.po n.taker c.hd wi hz λh' O' sb=>h _ ?_
have hd:∃o,h'.get? dx=some o:=let⟨o,_,_,e',_⟩:=O'.ns;⟨o,e'⟩
refine I.write (x:=a) (e:=dx) (by rw[e];exact True.intro) (.inr ho) (λb q hb z=>(sb.2 b hb).trans z) hd ?_
refine⟨by rw[qC O.ne];exact ho,?_,O.ne,O'.obj,_,O'.ns,λg=>?_,λg hg=>?_⟩
·have:=q5C f y fs;lia
·show RelO ((putF f y fs).lookup g) (if g=f then some u else mA g);rw[q5B];by_cases q:g=f
 ·rw[kF q,kF q];exact ry
 rw[hV q,hV q];exact r g
by_cases q:g=f
·rw[q];exact(q4S f y fs).1
refine(q4S f y fs).2 g (wi g λz=>hg ?_)
show(if g=f then some u else mA g)=none
rw[hV q];exact z)
theorem Inv.made(I:Inv X pins σ H s):Inv X pins σ (upd (upd H s.heap.objs.size (.own (s.heap.objs.size+1))) (s.heap.objs.size+1) (.ins C s.heap.objs.size []))
 { s with heap:=(s.heap.push PySem.W.emptyDict).push (PySem.W.instObj C s.heap.objs.size) }:=by(
have e1:(s.heap.push PySem.W.emptyDict).get? s.heap.objs.size=some PySem.W.emptyDict:=mF s.heap rfl
have e2:((s.heap.push PySem.W.emptyDict).push (PySem.W.instObj C s.heap.objs.size)).get? (s.heap.objs.size+1)=some (PySem.W.instObj C s.heap.objs.size):=by have:=mF (s.heap.push PySem.W.emptyDict) (o:=PySem.W.instObj C s.heap.objs.size) rfl;rwa [pD]at this
have e3:(s.heap.push PySem.W.emptyDict).Ns s.heap.objs.size (λ_=>none):=⟨PySem.W.emptyDict,#[],_,e1,rfl,(λe he=>absurd he (by simp)),λ_=>rfl⟩
have I1:=I.laid (a:=s.heap.objs.size) (o:=.own (s.heap.objs.size+1)) (h':=s.heap.push PySem.W.emptyDict) (t':=s.toks) (λb u q=>kE _ q) (kN _) ⟨_,e1⟩
refine I1.laid (a:=s.heap.objs.size+1) (o:=.ins C s.heap.objs.size []) (t':=s.toks) (λb u q=>kE _ q) (wI (pD _ _)) ?_
have ne:s.heap.objs.size≠s.heap.objs.size+1:=mP (rK _)
refine⟨by rw[qC ne,qI],mL _,ne,e2,λ_=>none,(Heap.Ns1.of_empty e3).at λo q=>kE _ q,λ_=>True.intro,λy hy=>absurd rfl hy⟩)
theorem qGR{prog:Program}{w:World}{env:Env}{e:Expr}{f:Str}{pos:Pos}{s:Shared}{Q:Value→Shared→Prop}(hb:attributeBase e f env (eval e env)=eval e env)
 (h:wpAny (model prog w) A (eval e env) (λo s₁=>wpAny (model prog w) A (getAttr o f true) Q E s₁) E s):wpAny (model prog w) A (eval (.Attribute e f pos) env) Q E s:=Attribute_any_ h (by rw[arm_eval_Attribute,hb])
end
noncomputable def tFld(K:PySem.W.Frag)(ta:TE)(f:Str):TE:=λσ H Q=>ta σ H λx H1=>∃a C dx fs v,x=.ref a∧H1 a=some (.ins C dx fs)∧Cls K C∧qP K C f∧fs.lookup f=some v∧Q v H1
noncomputable def sFld(K:PySem.W.Frag)(ta tv:TE)(f:Str):TS:=λD σ H=>tv σ H λy H1=>ta σ H1 λx H2=>∃a C dx fs,x=.ref a∧H2 a=some (.ins C dx fs)∧Cls K C∧qP K C f∧fs.length<1000∧D.nx σ (upd H2 a (.ins C dx (putF f y fs)))
noncomputable def InOp(X:Cx)(op:Operator)(rd:V→V→Hp→VK→Prop):Prop:=∀(pins:List (Addr×Obj)) (s:Shared) (σ:St) (H:Hp) (x y:V) (u v:Value) (Q:VK),Inv X pins σ H s→RelV x u→RelV y v→rd x y H Q→wpAny (model X.prog X.w) X.A (inplaceOp op u v) (EP X pins σ Q) X.xe s
noncomputable def qGS(K:PySem.W.Frag)(ta tv:TE)(rd:V→V→Hp→VK→Prop)(f:Str):TS:=λD σ H=>ta σ H λx H1=>∃a C dx fs v,x=.ref a∧H1 a=some (.ins C dx fs)∧Cls K C∧qP K C f∧fs.lookup f=some v∧tv σ H1 λy H2=>rd v y H2 λz H3=>∃dx' fs',H3 a=some (.ins C dx' fs')∧fs'.length<1000∧D.nx σ (upd H3 a (.ins C dx' (putF f z fs')))
section
variable{X:Cx}{o e value:Expr}{f:Str}{pos pos' tpos:Pos}{ta tv:TE}
theorem qJ(he:PE X e ta)(hb:attributeBase e f X.env (eval e X.env)=eval e X.env):PE X (.Attribute e f pos) (tFld X.K ta f):=by(
intro pins s σ H Q I h
refine qGR hb (thn (he pins s σ H _ I h) λu s1 hZ=>?_)
obtain⟨x,H1,I1,rx,a,C,dx,fs,v,ex,ea,c,n,l,q⟩:=hZ
subst ex
obtain rfl:u=Value.ref a:=rx
exact q6B I1 ea c n l λu' s2 I2 ru=>⟨v,H1,I2,ru,q⟩)
theorem jD(ha:PE X o ta)(hv:PE X value tv)(hs:swapsWith value (some (.Attribute o f pos')) pos.line X.env=pure false):PS X (.Assign [.Attribute o f pos'] value pos) (sFld X.K ta tv f):=by(
intro pins s σ H D I h
refine plainObj_wpAny_Assign_Attribute (thn (hv pins s σ H _ I h) λu s1 ⟨y,H1,I1,ry,q⟩=>thn (ha pins s1 σ H1 _ I1 q) λov s2 hZ=>?_) hs
obtain⟨x,H2,I2,rx,a,C,dx,fs,ex,ea,c,n,l,q2⟩:=hZ
subst ex
obtain rfl:ov=Value.ref a:=rx
exact q6C I2 ea c n l ry λs3 I3=>⟨σ,_,I3,q2⟩)
theorem q4T{op:Operator}{rd:V→V→Hp→VK→Prop}(ha:PE X o ta)(hv:PE X value tv)(hop:InOp X op rd):PS X (.AugAssign (.Attribute o f tpos) op value pos) (qGS X.K ta tv rd f):=by(
intro pins s σ H D I h
refine wpAny_AugAssign_AttributeAny (thn (ha pins s σ H _ I h) λov s1 hZ=>?_)
obtain⟨x,H1,I1,rx,a,C,dx,fs,v,ex,ea,c,n,l,q⟩:=hZ
subst ex
obtain rfl:ov=Value.ref a:=rx
refine q6B I1 ea c n l λu s2 I2 ru=>thn (hv pins s2 σ H1 _ I2 q) λw3 s3 ⟨y,H2,I3,ry,q3⟩=>thn (hop pins s3 σ H2 v y u w3 _ I3 ru ry q3) λw4 s4 hZ=>?_
obtain⟨z,H3,I4,rz,dx',fs',ea',l',q4⟩:=hZ
exact q6C I4 ea' c n l' rz λs5 I5=>⟨σ,_,I5,q4⟩)
noncomputable def rAdd:V→V→Hp→VK→Prop:=λx y H Q=>∃i j,x=.int i∧y=.int j∧Q (.int (i+j)) H
noncomputable def rSub:V→V→Hp→VK→Prop:=λx y H Q=>∃i j,x=.int i∧y=.int j∧Q (.int (i-j)) H
theorem qEH:InOp X .Add rAdd:=by(
rintro pins s σ H x y u v Q I rx ry ⟨i,j,rfl,rfl,q⟩
obtain⟨t,rfl⟩:=(show ∃t,u=Value.int i t from rx)
obtain⟨t',rfl⟩:=(show ∃t',v=Value.int j t' from ry)
exact PyProof.Rows.iadd_int ⟨.int (i+j),H,I.tok _,⟨_,rfl⟩,q⟩)
theorem qJ8:InOp X .Sub rSub:=by(
rintro pins s σ H x y u v Q I rx ry ⟨i,j,rfl,rfl,q⟩
obtain⟨t,rfl⟩:=(show ∃t,u=Value.int i t from rx)
obtain⟨t',rfl⟩:=(show ∃t',v=Value.int j t' from ry)
exact PyProof.Rows.isub_int ⟨.int (i-j),H,I.tok _,⟨_,rfl⟩,q⟩)
end
section
variable{X:Cx}{pins:List (Addr×Obj)}{σ:St}{H:Hp}{s:Shared}{A:Around}{E:Value→Shared→Prop}{Q:Value→Shared→Prop}{c:Value}{b:Bool}
inductive TyOf(K:PySem.W.Frag)(H:Hp):V→Value→Prop where
|non:TyOf K H .non (.type "NoneType")
|bl (x:Bool):TyOf K H (.bl x) (.type "bool")
|int (i:Int):TyOf K H (.int i) (.type "int")
|str (x:Str):TyOf K H (.str x) (.type "str")
|flt (x:UInt64):TyOf K H (.flt x) (.type "float")
|lst {a:Addr} {xs:List V} (e:H a=some (.lst xs)):TyOf K H (.ref a) (.type "list")
|frz {a:Addr} {o:Obj} {xs:List V} (e:H a=some (.frz o (.lst xs))):TyOf K H (.ref a) (.type "list")
|tup {a:Addr} {xs:List V} (e:H a=some (.tup xs)):TyOf K H (.ref a) (.type "tuple")
|dK {a:Addr} {kvs:List (Key×V)} (e:H a=some (.dK kvs)):TyOf K H (.ref a) (.type "dict")
|dT {a:Addr} {kvs:List (List Key×V)} (e:H a=some (.dT kvs)):TyOf K H (.ref a) (.type "dict")
|ins {a C dx:Addr} {fs:List (Str×V)} (e:H a=some (.ins C dx fs)) (cl:Cls K C) (ha:PySem.W.findIn K (.ref C) "__class__"=some (some (.builtin "object.__class__")))
 (hn:PySem.W.specialIn K (.builtin "object.__class__") "__get__"=some (some (.builtin "getset_descriptor.__get__"))) (htk:PySem.W.takesIn K (.builtin "object.__class__")=some true)
 (hm:PySem.W.mroIn K C (.type "object")=some true):TyOf K H (.ref a) (.ref C)
theorem qDO{x:V}{u t:Value}(I:Inv X pins σ H s)(rx:RelV x u)(ty:TyOf X.K H x t)(e:PySem.W.kitOne X.K t c=some b)(h:∀tk,Q (.bool b) { s with toks:=tk }):
 wpAny (model X.prog X.w) A (call (.builtin "isinstance") [u,c]) Q E s:=by(
cases ty with
|non=>cases(show u=Value.none from rx);exact gU PySem.W.kitx_none I.kIn True.intro e (λz=>nomatch z) h
|bl y=>cases(show u=Value.bool y from rx);exact gU PySem.W.kitx_bool I.kIn True.intro e (λz=>nomatch z) h
|int i=>obtain⟨t,q⟩:=(show ∃t,u=Value.int i t from rx);cases q;exact gU PySem.W.kitx_int I.kIn True.intro e (λz=>nomatch z) h
|str y=>obtain⟨t,q⟩:=(show ∃t,u=Value.str y t from rx);cases q;exact gU PySem.W.kitx_str I.kIn True.intro e (λz=>nomatch z) h
|flt y=>obtain⟨t,q⟩:=(show ∃t,u=Value.float y t from rx);cases q;exact gU PySem.W.kitx_float I.kIn True.intro e (λz=>nomatch z) h
|@lst a xs ea=>cases(show u=Value.ref a from rx);obtain⟨_,_,n,_,h1⟩:=(show jK X.prog X.w H s.heap a (.lst xs)from I.hok a _ ea);exact gU lS I.kIn ⟨_,h1,rfl⟩ e (λz=>nomatch z) h
|@frz a ob xs ea=>cases(show u=Value.ref a from rx);obtain⟨_,_,_,n,_,h1⟩:=(show jK X.prog X.w H s.heap a (.frz ob (.lst xs))from I.hok a _ ea);exact gU lS I.kIn ⟨_,h1,rfl⟩ e (λz=>nomatch z) h
|@tup a xs ea=>cases(show u=Value.ref a from rx);obtain⟨_,_,_,p⟩:=(show jK X.prog X.w H s.heap a (.tup xs)from I.hok a _ ea);obtain⟨o,h1,h2,_⟩:=p;exact gU PySem.W.kitx_tuple I.kIn ⟨o,h1,h2⟩ e (λz=>nomatch z) h
|@dK a kvs ea=>cases(show u=Value.ref a from rx);obtain⟨_,_,vs,_,p⟩:=(show jK X.prog X.w H s.heap a (.dK kvs)from I.hok a _ ea);obtain⟨o,es,ep,h1,h2,_⟩:=p;exact gU lT I.kIn ⟨o,h1,h2.1⟩ e (λz=>nomatch z) h
|@dT a kvs ea=>cases(show u=Value.ref a from rx);obtain⟨_,_,xs,_,o,es,ep,h1,h2,_⟩:=(show jK X.prog X.w H s.heap a (.dT kvs)from I.hok a _ ea);exact gU lT I.kIn ⟨o,h1,h2.1⟩ e (λz=>nomatch z) h
|@ins a C dx fs ea cl ha hn htk hm=>cases(show u=Value.ref a from rx);obtain⟨mA,O,_⟩:=q5Y I.hok ea;obtain⟨od,J,_⟩:=O.look;exact gU (PySem.W.kitx_own (cl.get _) cl.hd ha hn htk hm) I.kIn J e (λz=>nomatch z) h)
end
structure Room(k:Nat)(A:Around):Prop where
hd:A.handled=none
dp:A.depth+3*k+5<recursionLimit
un:A.units+16*k+200<cLine
theorem Room.mono{j k:Nat}{A:Around}(r:Room k A)(h:j≤k):Room j A:=⟨r.hd,by have:=r.dp;lia,by have:=r.un;lia⟩
theorem Room.deeper{k:Nat}{A:Around}(r:Room (k+1) A)(env:Env):Room k (A.deeper env):=⟨r.hd,by have:=r.dp;show A.depth+1+3*k+5< _;lia,by have:=r.un;show A.units+3+16*k+200< _;lia⟩
theorem Room.in1{k:Nat}{A:Around}(r:Room (k+1) A):Room k A.in1:=⟨r.hd,by have:=r.dp;show A.depth+3*k+5< _;lia,by have:=r.un;show A.units+1+16*k+200< _;lia⟩
theorem qBO{A:Around}{C:Addr}{us:List Value}{kw:List (Str×Value)}:(A.under (.builtin "type.__call__" ⟨.ref C::us,kw⟩)).depth=A.depth+1:=by first|rfl|simp[Around.under,Code.weight,Code.isCreation,Code.isGuard,Code.isCaller,Code.frames,Code.isFrame,guardIds]
theorem qBP{A:Around}{C:Addr}{us:List Value}{kw:List (Str×Value)}:(A.under (.builtin "type.__call__" ⟨.ref C::us,kw⟩)).units=A.units+1:=by first|rfl|simp[Around.under,Code.cUnits,Code.frames,Code.isFrame]
theorem Room.make{k:Nat}{A:Around}(r:Room (k+1) A)(C:Addr)(us:List Value)(kw:List (Str×Value)):Room k (A.under (.builtin "type.__call__" ⟨.ref C::us,kw⟩)):=⟨r.hd,by have:=r.dp;rw[qBO];lia,by have:=r.un;rw[qBP];lia⟩
theorem Room.depth{k:Nat}{A:Around}(r:Room k A):A.depth<recursionLimit:=by have:=r.dp;lia
theorem Room.units{k:Nat}{A:Around}(r:Room k A):A.units+64<cLine:=by have:=r.un;lia
noncomputable def tNil:TA:=λ_ H Q=>Q [] H
noncomputable def qCH(ta:TE)(tr:TA):TA:=λσ H Q=>ta σ H λx H1=>tr σ H1 λxs H2=>Q (x::xs) H2
section
variable{X:Cx}{e:Expr}{es:List Expr}{te:TE}{t:TA}{pos:Pos}
theorem qE:PA X [] tNil:=λ_ _ _ _ H Q I h=>lU ⟨[],H,I,.nil,h⟩
theorem qA(ha:PE X e te)(hr:PA X es t)(hs:starEach (e::es) X.env=(false,eval e X.env)::starEach es X.env:=by rfl):PA X (e::es) (qCH te t):=by(
intro pos pins s σ H Q I h
rw[hs]
show wpAny _ _ (spliced ((false,eval e X.env)::backTo pos (starEach es X.env))) _ _ s
refine lE (thn (ha pins s σ H _ I h) λu s1 hZ=>?_)
obtain⟨x,H1,I1,r1,q1⟩:=hZ
exact thn (hr pos pins s1 σ H1 _ I1 q1) λus s2 ⟨xs,H2,I2,r2,q2⟩=>⟨x::xs,H2,I2,.cons r1 r2,q2⟩)
end
noncomputable abbrev Sp:=List V→Hp→VK→XK→Prop
noncomputable abbrev CXT:=List Env→Hp→Shared→XK→Value→Shared→Prop
structure Env0(P:Program)(w:World)(K:PySem.W.Frag)(mg:Str→Option Value)(base:Heap)(A:Around)(outer:List Env)(s:Shared)(H:Hp):Prop where
frames:A.frames=some outer
mod:Mod K mg base
bs:∀b o,base.get? b=some o→s.heap.get? b=some o∧H b=none
bsz:base.objs.size≤s.heap.objs.size
funs:s.heap.FunFrames base outer
frf:∀b∈frs outer,H b=none
hok:HOk P w H s.heap
bare:AllBare s.gens
noncomputable def CE(outer:List Env)(P:Program)(w:World)(H:Hp)(s:Shared)(Q:VK)(u:Value)(s':Shared):Prop:=∃v H',s'.os=s.os∧AllBare s'.gens∧Un (frs outer) [] H H' s.heap s'.heap∧HOk P w H' s'.heap∧RelV v u∧Q v H'
noncomputable def CR(CX:CXT)(outer:List Env)(P:Program)(w:World)(H:Hp)(s:Shared)(Q:VK)(E:XK)(r:Result)(s':Shared):Prop:=match r with
| .ok (.ret u)=>CE outer P w H s Q u s'
| .ok _=>False
| .error e=>CX outer H s E e s'
structure FnOk(P:Program)(w:World)(K:PySem.W.Frag)(mg:Str→Option Value)(base:Heap)(CX:CXT)(k:Nat)(f:Addr)(fd:FuncData)(ps:List Str)(sp:Sp):Prop where
len:∀vs H Q E,sp vs H Q E→vs.length=ps.length
run:∀(A:Around) (outer:List Env) (s:Shared) (H:Hp) (args:Args) (us:List Value) (vs:List V) (Q:VK) (E:XK),Room k A→Env0 P w K mg base A outer s H→BindsTo s fd args (ps.zip us)→Vals vs us→sp vs H Q E→codeAny (model P w) A (.call (.ref f) args) (CR CX outer P w H s Q E) s
theorem FnOk.mono{P:Program}{w:World}{K:PySem.W.Frag}{mg:Str→Option Value}{base:Heap}{CX:CXT}{j k:Nat}{f:Addr}{fd:FuncData}{ps:List Str}{sp:Sp}(F:FnOk P w K mg base CX j f fd ps sp)(h:j≤k:=by decide):
 FnOk P w K mg base CX k f fd ps sp:=⟨F.len,λA outer s H args us vs Q E hr=>F.run A outer s H args us vs Q E (hr.mono h)⟩
theorem Env0.make{P:Program}{w:World}{K:PySem.W.Frag}{mg:Str→Option Value}{base:Heap}{A:Around}{outer:List Env}{s:Shared}{H:Hp}(e:Env0 P w K mg base A outer s H)(C:Addr)(us:List Value)(kw:List (Str×Value)):
 Env0 P w K mg base (A.under (.builtin "type.__call__" ⟨.ref C::us,kw⟩)) outer s H:=⟨by first|exact e.frames|(simpa[Around.under,Code.envs,Code.isFrame,pushEnvs]using e.frames),e.mod,e.bs,e.bsz,e.funs,e.frf,e.hok,e.bare⟩
section
variable{X:Cx}{pins:List (Addr×Obj)}{σ:St}{H:Hp}{s s':Shared}
theorem Inv.env0(I:Inv X pins σ H s):Env0 X.prog X.w X.K X.mg X.base X.A X.stack s H:=⟨I.ok.frames,I.ok.mod,I.bs,k8 I.ok.bsz I.sz,I.stack,I.stkFree,I.hok,I.bare⟩
theorem Inv.after{Q:VK}{u:Value}(I:Inv X pins σ H s)(h:CE X.stack X.prog X.w H s Q u s'):EP X pins σ Q u s':=by(
obtain⟨v,H',os,bare,un,hok,r,q⟩:=h
obtain⟨hh,g,d,t,os'⟩:=s'
obtain rfl:os'=s.os:=os
exact⟨v,H',I.call (h':=hh) (g':=g) (d':=d) (t':=t) (ch:=[]) un hok bare (λb z=>absurd z (by simp)),r,q⟩)
end
noncomputable def qIH(sp:Sp)(dvs:List V)(E:XK)(t:TA):TE:=λσ H Q=>t σ H λvs H1=>sp (vs++dvs) H1 Q E
noncomputable def qEI(C:Addr)(m:Str)(sp:Sp)(dvs:List V)(E:XK)(ta:TE)(t:TA):TE:=λσ H Q=>ta σ H λx H1=>∃a dx fs,x=.ref a∧H1 a=some (.ins C dx fs)∧fs.lookup m=none∧t σ H1 λvs H2=>sp (x::(vs++dvs)) H2 Q E
noncomputable def qL8(C:Addr)(sp:Sp)(dvs:List V)(E:XK)(t:TA):TE:=λσ H Q=>t σ H λvs H1=>∀x dx,H1 x=none→H1 dx=none→dx≠x→sp (.ref x::(vs++dvs)) (upd (upd H1 dx (.own x)) x (.ins C dx [])) (λv H2=>v=.non∧Q (.ref x) H2) E
noncomputable def jQ(K:PySem.W.Frag)(fd:FuncData)(ps:List Str)(ds:List Value):Prop:=∀(s:Shared) (us:List Value),K.In s.heap→(us++ds).length=ps.length→BindsTo s fd ⟨us,[]⟩ (ps.zip (us++ds))
theorem jQ.all{K:PySem.W.Frag}{fd:FuncData}{ps:List Str}(h:∀us:List Value,us.length=ps.length→bindArgs fd ⟨us,[]⟩=pure (ps.zip us)):jQ K fd ps []:=λs us _ hl=>by rw[dB]at hl ⊢;exact .of_eq (h us hl)
noncomputable def q0X(CX:CXT)(X:Cx)(E:XK):Prop:=∀(pins:List (Addr×Obj)) (σ:St) (H:Hp) (s:Shared) (e:Value) (s':Shared),Inv X pins σ H s→CX X.stack H s E e s'→X.xe e s'
section
variable{X:Cx}{CX:CXT}{k:Nat}{f C:Addr}{fd:FuncData}{ps:List Str}{sp:Sp}{dvs:List V}{ds:List Value}{E:XK}{x m:Str}{p pos apos:Pos}{e o:Expr}{es:List Expr}{ta:TE}{t:TA}
theorem q6D{pins:List (Addr×Obj)}{σ:St}{H:Hp}{s:Shared}{Q:VK}{us:List Value}{vs:List V}(F:FnOk X.prog X.w X.K X.mg X.base CX k f fd ps sp)(hr:Room k X.A)(hb:jQ X.K fd ps ds)(hd:Vals dvs ds)(hx:q0X CX X E)
 (I:Inv X pins σ H s) (r:Vals vs us) (h:sp (vs++dvs) H Q E):wpAny (model X.prog X.w) X.A (call (.ref f) us) (EP X pins σ Q) X.xe s:=by(
have r2:Vals (vs++dvs) (us++ds):=r.append hd
have hl:(us++ds).length=ps.length:=by rw[←r2.length];exact F.len _ _ _ _ h
refine rS (wJ (F.run X.A X.stack s H ⟨us,[]⟩ (us++ds) (vs++dvs) Q E hr I.env0 (hb s us I.kIn hl) r2 h) λr s' hq=>?_)
cases r with
|error e=>exact hx pins σ H s e s' I hq
|ok fl=>
 cases fl with
 |ret u=>exact I.after hq
 |next=>exact False.elim hq
 |brk=>exact False.elim hq
 |cont=>exact False.elim hq)
theorem qU(F:FnOk X.prog X.w X.K X.mg X.base CX k f fd ps sp)(hr:Room k X.A)(hg:Gl X x)(hm:X.mg x=some (.ref f))(hk:PySem.W.keepIn X.K (.ref f)=true)(hb:jQ X.K fd ps ds)(hd:Vals dvs ds)(hx:q0X CX X E)
 (ha:PA X (e::es) t) (hdb:(x==("__debug__":Str))=false:=by decide) (he:starEach (e::es) X.env=(false,eval e X.env)::starEach es X.env:=by rfl) (hpl:(backTo pos (starEach es X.env)).any (·.1)=false:=by rfl):
 PE X (.Call (.Name x p) (e::es) [] pos) (qIH sp dvs E t):=by(
intro pins s σ H Q I h
refine g7 (q2U I hg hm ?_ hdb)
refine rT (h₀:=X.base) I.ok.mod.kin hk (thn (ha pos pins s σ H _ I h) λus s1 ⟨vs,H1,I1,r,q⟩=>⟨I1.kIn,?_⟩) he hpl
exact q6D F hr hb hd hx I1 r q)
theorem j8{pl:Sem Bool}(he:PE X o ta)(c:Cls X.K C)(hm:Meth X.K C m f)(F:FnOk X.prog X.w X.K X.mg X.base CX k f fd ps sp)(hr:Room k X.A)(hb:jQ X.K fd ps ds)(hd:Vals dvs ds)(hx:q0X CX X E)(ha:PA X (e::es) t)
 (hst:starEach (e::es) X.env=(false,eval e X.env)::starEach es X.env:=by rfl) (hpl:(backTo pos (starEach es X.env)).any (·.1)=false:=by rfl)
 (ht:eval (.Call (.Attribute o m apos) (e::es) [] pos) X.env=(do
  let ov←eval o X.env
  standAt apos.atName
  let(f,first)←holding [ov] (getMethod ov m pl)
  callWith pos f first (backTo pos (starEach (e::es) X.env)) (backToKw pos (keywordEach [] X.env))):=by rfl):
 PE X (.Call (.Attribute o m apos) (e::es) [] pos) (qEI C m sp dvs E ta t):=by(
intro pins s σ H Q I h
refine d6 (pl:=pl) (thn (he pins s σ H _ I h) λu s1 hZ=>?_) ht
obtain⟨x,H1,I1,rx,a,dx,fs,ex,ea,l,q⟩:=hZ
subst ex
obtain rfl:u=Value.ref a:=rx
refine q0W I1 ea c hm l ?_
refine rT (first:=[.ref a]) (h₀:=X.base) I.ok.mod.kin hm.kp (thn (ha pos pins s1 σ H1 _ I1 q) λus s2 ⟨vs,H2,I2,r,q2⟩=>⟨I2.kIn,?_⟩) hst hpl
exact q6D (us:=.ref a::us) (vs:=.ref a::vs) F hr hb hd hx I2 (.cons rfl r) q2)
theorem qW{pl:Sem Bool}(he:PE X o ta)(c:Cls X.K C)(hm:Meth X.K C m f)(F:FnOk X.prog X.w X.K X.mg X.base CX k f fd ps sp)(hr:Room k X.A)(hb:jQ X.K fd ps ds)(hd:Vals dvs ds)(hx:q0X CX X E)
 (ht:eval (.Call (.Attribute o m apos) [] [] pos) X.env=(do
  let ov←eval o X.env
  standAt apos.atName
  let(f,first)←holding [ov] (getMethod ov m pl)
  callWith pos f first (backTo pos (starEach [] X.env)) (backToKw pos (keywordEach [] X.env))):=by rfl):
 PE X (.Call (.Attribute o m apos) [] [] pos) (qEI C m sp dvs E ta tNil):=by(
intro pins s σ H Q I h
refine d6 (pl:=pl) (thn (he pins s σ H _ I h) λu s1 hZ=>?_) ht
obtain⟨x,H1,I1,rx,a,dx,fs,ex,ea,l,q⟩:=hZ
subst ex
obtain rfl:u=Value.ref a:=rx
refine q0W I1 ea c hm l ?_
exact cZ (first:=[.ref a]) I1.kIn hm.kp (q6D (us:=[.ref a]) (vs:=[.ref a]) F hr hb hd hx I1 (.cons rfl .nil) q))
structure Mk(K:PySem.W.Frag)(C f:Addr):Prop where
makes:PySem.W.makesIn K C=true
init:PySem.W.findIn K (.ref C) "__init__"=some (some (.ref f))
fn:PySem.W.isFn K (.ref f)=true
kp:PySem.W.keepIn K (.ref C)=true
theorem qEJ{pins:List (Addr×Obj)}{σ:St}{H:Hp}{s:Shared}{Q:VK}{us:List Value}{vs:List V}(M:Mk X.K C f)(F:FnOk X.prog X.w X.K X.mg X.base CX k f fd ps sp)(hr:Room (k+1) X.A)(hb:jQ X.K fd ps ds)(hd:Vals dvs ds)
 (hx:q0X CX X E) (I:Inv X pins σ H s) (r:Vals vs us)
 (h:∀x dx,H x=none→H dx=none→dx≠x→sp (.ref x::(vs++dvs)) (upd (upd H dx (.own x)) x (.ins C dx [])) (λv H2=>v=.non∧Q (.ref x) H2) E):
 wpAny (model X.prog X.w) X.A (call (.ref C) us) (EP X pins σ Q) X.xe s:=by(
have hq:=h (s.heap.objs.size+1) s.heap.objs.size (I.hok.fresh (g8 _)) (I.hok.fresh (kN _)) (mP (rK _))
have I2:=Inv.made (C:=C) I
have r2:Vals (V.ref (s.heap.objs.size+1)::(vs++dvs)) (Value.ref (s.heap.objs.size+1)::(us++ds)):=.cons rfl (r.append hd)
have hl:(Value.ref (s.heap.objs.size+1)::us++ds).length=ps.length:=by have e:=r2.length;rw[F.len _ _ _ _ hq]at e;exact e.symm
refine rS (qEG (f:=f) I.kIn M.makes M.init (rF.mp M.fn) (wJ (F.run _ X.stack _ _ ⟨Value.ref (s.heap.objs.size+1)::us,[]⟩ (Value.ref (s.heap.objs.size+1)::(us++ds)) _ _ E (hr.make C us [])
 (I2.env0.make C us []) (hb _ (Value.ref (s.heap.objs.size+1)::us) I2.kIn hl) r2 hq) λr s' hq'=>?_))
cases r with
|error e=>exact hx pins σ _ _ e s' I2 hq'
|ok fl=>
 cases fl with
 |ret u=>obtain⟨v,H',I3,rv,ev,q3⟩:=I2.after hq';subst ev;exact⟨rv,⟨V.ref (s.heap.objs.size+1),H',I3,rfl,q3⟩⟩
 |next=>exact False.elim hq'
 |brk=>exact False.elim hq'
 |cont=>exact False.elim hq')
theorem q0Y(M:Mk X.K C f)(F:FnOk X.prog X.w X.K X.mg X.base CX k f fd ps sp)(hr:Room (k+1) X.A)(hg:Gl X x)(hm:X.mg x=some (.ref C))(hb:jQ X.K fd ps ds)(hd:Vals dvs ds)(hx:q0X CX X E)
 (ha:PA X (e::es) t) (hdb:(x==("__debug__":Str))=false:=by decide) (he:starEach (e::es) X.env=(false,eval e X.env)::starEach es X.env:=by rfl) (hpl:(backTo pos (starEach es X.env)).any (·.1)=false:=by rfl):
 PE X (.Call (.Name x p) (e::es) [] pos) (qL8 C sp dvs E t):=by(
intro pins s σ H Q I h
refine g7 (q2U I hg hm ?_ hdb)
refine rT (h₀:=X.base) I.ok.mod.kin M.kp (thn (ha pos pins s σ H _ I h) λus s1 ⟨vs,H1,I1,r,q⟩=>⟨I1.kIn,?_⟩) he hpl
exact qEJ M F hr hb hd hx I1 r q)
end
noncomputable def PK(X:Cx)(kws:List Keyword)(t:TA):Prop:=∀(pos:Pos) (pins:List (Addr×Obj)) (s:Shared) (σ:St) (H:Hp) (Q:List V→Hp→Prop),Inv X pins σ H s→t σ H Q→wpAny (model X.prog X.w) X.A (evalAll ((backToKw pos (keywordEach kws X.env)).map (·.2))) (AP X pins σ Q) X.xe s
section
variable{X:Cx}{CX:CXT}{k:Nat}{f C:Addr}{fd:FuncData}{ps ks:List Str}{sp:Sp}{E:XK}{x m:Str}{p pos apos kpos:Pos}{e o:Expr}{es:List Expr}{kws:List Keyword}{te ta:TE}{t tk:TA}{nm:Option Str}
theorem qEK:PK X [] tNil:=λ_ _ _ _ H Q I h=>wpAny_evalAll_nil ⟨[],H,I,.nil,h⟩
theorem qCI(ha:PE X e te)(hr:PK X kws t):PK X (⟨nm,e,kpos⟩::kws) (qCH te t):=by(
intro pos pins s σ H Q I h
show wpAny _ _ (evalAll ((do let v←eval e X.env;standAt pos;pure v)::(backToKw pos (keywordEach kws X.env)).map (·.2))) _ _ s
refine wpAny_evalAll_cons (hI (thn (ha pins s σ H _ I h) λu s1 ⟨x,H1,I1,r1,q1⟩=>hI (cP (kX ?_))))
exact thn (hr pos pins s1 σ H1 _ I1 q1) λus s2 ⟨xs,H2,I2,r2,q2⟩=>⟨x::xs,H2,I2,.cons r1 r2,q2⟩)
variable{g:List Value→List Value→List Value}{gV:List V→List V→List V}
end
structure FnScope(N P:List Str)(sc:Scope):Prop where
kind:sc.kind=.function
co:sc.isCoroutine=false
gen:sc.isGenerator=false
nd:N.Nodup
pre:N.take P.length=P
par:∀x∈P,sc.names.lookup x=some .local∨sc.names.lookup x=some .cell
nofree:∀y∈sc.names,y.2≠ .free
theorem q8A{kindOf:Str→Option NameKind}{x:Str}:∀{binds:List (Str×Value)} {m:Str→Option Value},(∀v,(x,v)∉binds)→bindL kindOf binds m x=m x
| [],_,_=>rfl
|(n,v)::r,m,h=>by
 unfold bindL;rw[q8A λw hw=>h w (kB _ hw)];split
 ·have:x≠n:=by rintro rfl;exact h v kQ
  simp[this]
 rfl
theorem q8B{kindOf:Str→Option NameKind}{x:Str}:∀{binds:List (Str×Value)} {m:Str→Option Value},(∀v,(x,v)∉binds)→bindC kindOf binds m x=m x
| [],_,_=>rfl
|(n,v)::r,m,h=>by
 unfold bindC;rw[q8B λw hw=>h w (kB _ hw)];split
 ·rfl
 have:x≠n:=by rintro rfl;exact h v kQ
 simp[this]
theorem q8C{kindOf:Str→Option NameKind}{x:Str}{v:Value}:∀{P:List Str} {vs:List Value} {i:Nat} {m:Str→Option Value},P.Nodup→P[i]?=some x→vs[i]?=some v→kindOf x=some .local→bindL kindOf (P.zip vs) m x=some v
| [],_,_,_,_,h,_,_=>by simp at h
|_::_,[],_,_,_,_,h,_=>by simp at h
|p::P,w::vs,0,m,nd,h1,h2,hk=>by simp at h1 h2;subst h1;subst h2;show bindL kindOf ((p,w)::P.zip vs) m p=_;unfold bindL;rw[q8A λv hv=>(mW.mp nd).1 (cU hv).1,kF hk];simp
|p::P,w::vs,i+1,m,nd,h1,h2,hk=>by show bindL kindOf ((p,w)::P.zip vs) m x=_;unfold bindL;exact q8C (i:=i) (mW.mp nd).2 (by simpa using h1) (by simpa using h2) hk
theorem q8D{kindOf:Str→Option NameKind}{x:Str}{v:Value}:∀{P:List Str} {vs:List Value} {i:Nat} {m:Str→Option Value},P.Nodup→P[i]?=some x→vs[i]?=some v→kindOf x≠some .local→bindC kindOf (P.zip vs) m x=some v
| [],_,_,_,_,h,_,_=>by simp at h
|_::_,[],_,_,_,_,h,_=>by simp at h
|p::P,w::vs,0,m,nd,h1,h2,hk=>by simp at h1 h2;subst h1;subst h2;show bindC kindOf ((p,w)::P.zip vs) m p=_;unfold bindC;rw[q8B λv hv=>(mW.mp nd).1 (cU hv).1,hV hk];simp
|p::P,w::vs,i+1,m,nd,h1,h2,hk=>by show bindC kindOf ((p,w)::P.zip vs) m x=_;unfold bindC;exact q8D (i:=i) (mW.mp nd).2 (by simpa using h1) (by simpa using h2) hk
noncomputable def zA(N:List Str)(vs:List V):St:=vs.map some++List.replicate (N.length-vs.length) none
noncomputable def cxOf(CX:CXT)(P:Program)(w:World)(K:PySem.W.Frag)(mg:Str→Option Value)(base:Heap)(N:List Str)(qual:Str)(scope:Scope)(f:Addr)(cd:Value)(A:Around)(outer:List Env)(s:Shared)(H:Hp)(E:XK):Cx where
prog:=P
w:=w
K:=K
mg:=mg
base:=base
A:=A.deeper (envOfC qual scope s.heap.objs.size f cd)
N:=N
s₀:=s
H₀:=H
env:=envOfC qual scope s.heap.objs.size f cd
outer:=outer
stack:=envOfC qual scope s.heap.objs.size f cd::outer
ex:=[]
calm:=true
fn:=λ_=>true
pn:=[]
xe:=λe s'=>wpAny (model P w) (A.deeper (envOfC qual scope s.heap.objs.size f cd)) (leaving (envOfC qual scope s.heap.objs.size f cd) e) (λ_ s''=>CX outer H s E e s'') (λe' s''=>CX outer H s E e' s'') s'
theorem q6E{sc:Scope}{n:Nat}{x:Str}(h:sc.names.lookup x=some .cell):∃c,(cellsFrom n sc.names []).lookup x=some c:=by have q:=cB sc.names n [] (.inl h);exact rG.mp q
theorem q8E{CX:CXT}{P:Program}{w:World}{K:PySem.W.Frag}{mg:Str→Option Value}{base:Heap}{N ps:List Str}{qual:Str}{scope:Scope}{f:Addr}{cd:Value}{A:Around}{outer:List Env}{s s1:Shared}{H:Hp}{E:XK}{us:List Value}{vs:List V}
 (S:FnScope N ps scope) (hd:A.handled=none) (e0:Env0 P w K mg base A outer s H) (hl:vs.length=ps.length) (r:Vals vs us)
 (x:InCallC s s.heap.objs.size (bindL (envOfC qual scope s.heap.objs.size f cd).kindOf (ps.zip us) λ_=>none) (cellsFrom (s.heap.objs.size+1) scope.names []) (bindC (envOfC qual scope s.heap.objs.size f cd).kindOf (ps.zip us) λ_=>none) s1):
 Inv (cxOf CX P w K mg base N qual scope f cd A outer s H E) [] (zA N vs) H s1:=by(
have hpl:ps.length≤N.length:=by have:=g5 List.length S.pre;rw[gH]at this;lia
obtain⟨h1,tk,rfl,hk⟩:=x.done
have noA:∀b:Addr,b∉(cxOf CX P w K mg base N qual scope f cd A outer s H E).ex:=λb z=>absurd (show b∈([]:List Addr)from z) (by simp)
refine⟨⟨e0.mod,S.kind,rfl,rfl,kN _,λy z c h1 h2=>?_,λy hy=>?_,λy c _ h=>?_,λ_=>hd,nH e0.frames,.inr ⟨rfl,rfl⟩,λb z=>absurd z (noA b),e0.bs,e0.bsz,λb _ _=>noA b,λb z=>absurd z (noA b),e0.funs,e0.frf⟩,rfl,e0.bare,Un.kept hk,⟨_,x.toInCall.ns,λi y v h1 h2 h3=>?_⟩,λy c h=>⟨_,x.cell y c h⟩,e0.hok.fresh (kN _),λy c h=>?_,λp hp=>absurd (show p∈([]:List (Addr×Obj))from hp) (by simp),e0.hok.kept hk,?_⟩
·exact name_of_addr x.apart (gP h1) (gP h2)
·have hy:scope.names.lookup y=some .cell∨scope.names.lookup y=some .free:=hy;rcases hy with hy|hy
 ·exact q6E hy
 exact absurd rfl (S.nofree _ (gP hy))
·exact c7 (x.above y c (gP h))
·have hi:i<vs.length:=by
  unfold zA at h2;by_cases hi:i<vs.length
  ·exact hi
  rw[wE (by simpa using hi)]at h2;rw[rL]at h2;split at h2<;>cases h2
 have ha:vs[i]?=some v:=by
  unfold zA at h2;rw[pN (by simpa using hi),mC]at h2;cases e:vs[i]? with
  |none=>rw[e]at h2;cases h2
  |some a=>rw[e]at h2;cases h2;rfl
 obtain⟨u,hu,rv⟩:=r.get ha;have hp:ps[i]?=some y:=by rw[←S.pre,List.getElem?_take_of_lt (by lia)];exact h1
 have ndP:ps.Nodup:=by rw[←S.pre];exact S.nd.sublist (lW _ _)
 refine⟨u,rv,?_⟩;rcases S.par y (gJ hp)with k|k
 ·exact .inl ⟨k,q8C ndP hp hu k⟩
 obtain⟨c,e⟩:=q6E (n:=s.heap.objs.size+1) k;refine .inr ⟨.inl k,c,e,?_⟩;have q:=x.cell y c e;rw[q8D ndP hp hu (by show scope.names.lookup y≠_;rw[k];decide)]at q;exact q
·exact e0.hok.fresh (c7 (x.above y c (gP h)))
unfold zA
show _=N.length
rw[kO,h9,gG]
lia)
theorem qEL{CX:CXT}{P:Program}{w:World}{K:PySem.W.Frag}{mg:Str→Option Value}{base:Heap}{k:Nat}{f:Addr}{name qual:Str}{params:Arguments}{body:List Stmt}{scope:Scope}{dV kV doc pm cdv ct oc:Value}{an od:Option Addr}
 {osl:Array (Option Value)} {N ps:List Str} {sp:Sp} (lk:K.lookup f=some ⟨oc,od,.func (PySem.W.fnOf name qual params body scope dV kV doc pm an cdv ct),osl⟩) (hcd:PySem.W.codeIn K cdv qual=true) (S:FnScope N ps scope)
 (len:∀vs H Q E,sp vs H Q E→vs.length=ps.length)
 (hbody:∀(A:Around) (outer:List Env) (s:Shared) (H:Hp) (vs:List V) (Q:VK) (E:XK),Room k (A.deeper (envOfC qual scope s.heap.objs.size f cdv))→sp vs H Q E→∃t,PSs (cxOf CX P w K mg base N qual scope f cdv A outer s H E) body t∧t { nx:=λ_ H'=>Q .non H',rt:=Q } (zA N vs) H):
 FnOk P w K mg base CX (k+1) f (PySem.W.fnOf name qual params body scope dV kV doc pm an cdv ct) ps sp:=by(
refine⟨len,λA outer s H args us vs Q E hr e0 hb r hsp=>?_⟩
have hl:=len _ _ _ _ hsp
have KX:K.In s.heap:=e0.mod.kin.keeps λb o e=>(e0.bs b o e).1
have lim:s.heap.NoLimit:=e0.mod.nolimit.keeps λb o e=>(e0.bs b o e).1
have hkind:∀y∈ps.zip us,scope.names.lookup y.1=some .local∨(scope.names.lookup y.1=some .cell∧((cellsFrom (s.heap.objs.size+1) scope.names []).lookup y.1).isSome=true):=λ⟨n,v⟩ hy=>by
 rcases S.par n (cU hy).1 with q|q
 ·exact .inl q
 exact .inr ⟨q,cB _ _ _ (.inl q)⟩
refine sU hr.depth (KX _ _ lk) rfl S.co S.gen rfl (lF KX hcd) (hb _ _ _ _ ?_)
refine pE S.kind hkind λenv he s1 x=>?_
subst he
refine⟨lim.keeps x.toInCall.keep,codeAny_func ?_⟩
obtain⟨t,ht,hq⟩:=hbody A outer s H vs Q E (hr.deeper _) hsp
have I:Inv (cxOf CX P w K mg base N qual scope f cdv A outer s H E) [] (zA N vs) H s1:=q8E S hr.hd e0 hl r x
refine gR (ht [] s1 (zA N vs) H _ I hq) (λfl s' hs=>?_) λe s' hs=>hs
have fin:∀{σ':St} {H':Hp} {v:V} {u:Value},Inv (cxOf CX P w K mg base N qual scope f cdv A outer s H E) [] σ' H' s'→RelV v u→Q v H'→CE outer P w H s Q u s':=fun {σ' H' v u} J rv q=>⟨v,H',J.os,J.bare,J.base,J.hok,rv,q⟩
cases fl with
|ret u=>obtain⟨v,σ',H',J,rv,q⟩:=hs;exact fin J rv q
|next=>obtain⟨σ',H',J,q⟩:=hs;exact fin (v:=V.non) (u:=Value.none) J rfl q
|brk=>obtain⟨_,_,_,q⟩:=hs;exact False.elim q
|cont=>obtain⟨_,_,_,q⟩:=hs;exact False.elim q)
section
variable{X:Cx}{x:Str}{p pos:Pos}{e:Expr}{es:List Expr}{t:TA}{id T:String}{r:List V→Hp→VK→Prop}
noncomputable def tCB(r:List V→Hp→VK→Prop)(t:TA):TE:=λσ H Q=>t σ H λvs H1=>r vs H1 Q
theorem qX(hc:q3A X (.builtin id) r)(hg:Gl X x)(hm:X.mg x=none)(hv:bootBuiltins x=some (.builtin id))(ha:PA X (e::es) t)(hn:x≠"__name__":=by decide)(hdb:(x==("__debug__":Str))=false:=by decide)
 (he:starEach (e::es) X.env=(false,eval e X.env)::starEach es X.env:=by rfl) (hpl:(backTo pos (starEach es X.env)).any (·.1)=false:=by rfl):PE X (.Call (.Name x p) (e::es) [] pos) (tCB r t):=by intro pins s σ H Q I h;refine g7 (q3I I hg hm hv ?_ hn hdb);exact PyProof.Rows.callWith_builtin1 (thn (ha pos pins s σ H _ I h) λus s1 ⟨vs,H1,I1,r1,q1⟩=>hc pins s1 σ H1 vs us Q I1 r1 q1) he hpl
theorem zI(hc:q3A X (.type T) r)(hg:Gl X x)(hm:X.mg x=none)(hv:bootBuiltins x=some (.type T))(ha:PA X (e::es) t)(hn:x≠"__name__":=by decide)(hdb:(x==("__debug__":Str))=false:=by decide)
 (he:starEach (e::es) X.env=(false,eval e X.env)::starEach es X.env:=by rfl) (hpl:(backTo pos (starEach es X.env)).any (·.1)=false:=by rfl):PE X (.Call (.Name x p) (e::es) [] pos) (tCB r t):=by intro pins s σ H Q I h;refine g7 (q3I I hg hm hv ?_ hn hdb);exact r9 (thn (ha pos pins s σ H _ I h) λus s1 ⟨vs,H1,I1,r1,q1⟩=>hc pins s1 σ H1 vs us Q I1 r1 q1) he hpl
end
end L2
namespace HT
open PySem PyProof.Rows
section
variable{prog:Program}{w:World}{A:Around}{E:Value→Shared→Prop}{s:Shared}
noncomputable def sIx(n d:Nat):Option Int→Nat
|none=>d
|some v=>if v<0 then(v+(n:Int)).toNat else min v.toNat n
end
end HT
namespace L2
open PySem PySem.Spec PyProof.Rows
noncomputable abbrev TO:=St→Hp→(Option Int→Hp→Prop)→Prop
noncomputable def PO(X:Cx)(e:Option Expr)(t:TO):Prop:=∀(pins:List (Addr×Obj)) (s:Shared) (σ:St) (H:Hp) (Q:Option Int→Hp→Prop),Inv X pins σ H s→t σ H Q→wpAny (model X.prog X.w) X.A (evalPart e X.env) (λu s'=>∃o H',Inv X pins σ H' s'∧IsPart u o∧Q o H') X.xe s
noncomputable def qCJ:TO:=λ_ H Q=>Q none H
noncomputable def qII(t:TE):TO:=λσ H Q=>t σ H λx H1=>∃i,x=.int i∧Q (some i) H1
section
variable{X:Cx}{e:Expr}{te:TE}{lo hi:Option Expr}{tl th:TO}{pos p2:Pos}
theorem q8Y:PO X none qCJ:=by intro pins s σ H Q I h;rw[evalPart_none];exact kX ⟨none,H,I,.none,h⟩
theorem q8Z(h:PE X e te):PO X (some e) (qII te):=by(
intro pins s σ H Q I hw
rw[evalPart_some]
refine thn (h pins s σ H _ I hw) λu s1 hZ=>?_
obtain⟨x,H1,I1,r1,q1⟩:=hZ
obtain⟨i,rfl,q⟩:=q1
obtain⟨t,rfl⟩:=r1
exact⟨some i,H1,I1,.int i t,q⟩)
noncomputable def SlR(X:Cx)(r:V→Option Int→Option Int→Hp→VK→Prop):Prop:=∀(pins:List (Addr×Obj)) (s:Shared) (σ:St) (H:Hp) (x:V) (v vl vu:Value) (lo hi:Option Int) (sl:Addr) (Q:VK),Inv X pins σ H s→RelV x v→s.heap.IsSliceOf sl vl vu .none→IsPart vl lo→IsPart vu hi→r x lo hi H Q→∃T id,typeLookup (.type T) "__getitem__"=pure (some (.builtin id))∧s.TypeIs v T∧wpAny (model X.prog X.w) X.A (getItem v (.ref sl)) (EP X pins σ Q) X.xe s
noncomputable def tSl(r:V→Option Int→Option Int→Hp→VK→Prop)(te:TE)(tl th:TO):TE:=λσ H Q=>te σ H λx H1=>tl σ H1 λl H2=>th σ H2 λu H3=>r x l u H3 Q
theorem q6F{r:V→Option Int→Option Int→Hp→VK→Prop}(hr:SlR X r)(he:PE X e te)(hl:PO X lo tl)(hu:PO X hi th):PE X (.Subscript e (.Slice lo hi none p2) pos) (tSl r te tl th):=by(
intro pins s σ H Q I h
refine aJ (thn (he pins s σ H _ I h) λv s1 hZ=>?_)
obtain⟨x,H1,I1,r1,q1⟩:=hZ
refine wpAny_Slice (thn (hl pins s1 σ H1 _ I1 q1) λvl s2 ⟨l,H2,I2,pl,q2⟩=>thn (hu pins s2 σ H2 _ I2 q2) λvu s3 hZ=>?_)
obtain⟨u,H3,I3,pu,q3⟩:=hZ
rw[evalPart_none]
refine kX ?_
have I4:Inv X pins σ H3 { s3 with heap:=s3.heap.push { cls:=.type "slice",data:=.fields #[vl,vu,.none] } }:=I3.kept (t':=s3.toks) λb ob q=>kE _ q
obtain⟨T,id,hT,ht,hg⟩:=hr pins { s3 with heap:=s3.heap.push { cls:=.type "slice",data:=.fields #[vl,vu,.none] } } σ H3 x v vl vu l u s3.heap.objs.size Q I4 r1 (bC ..) pl pu q3
show wpAny (model X.prog X.w) X.A (subscriptTail e (.Slice lo hi none p2) v (.ref s3.heap.objs.size)) (EP X pins σ Q) X.xe { s3 with heap:=s3.heap.push { cls:=.type "slice",data:=.fields #[vl,vu,.none] } }
exact tail_any (ops:=[.ref s3.heap.objs.size,v]) ht hT hg (by with_unfolding_all rfl))
noncomputable def cutV(xs:List V)(lo hi:Option Int):List V:=(xs.drop (HT.sIx xs.length 0 lo)).take (HT.sIx xs.length xs.length hi-HT.sIx xs.length 0 lo)
theorem qAB(xs:List V)(lo hi:Option Int):(cutV xs lo hi).length≤xs.length:=by unfold cutV;rw[gH,pW];lia
end
noncomputable def ixN(n:Nat)(i:Int):Option Nat:=if 0≤i then(if i<n then some i.toNat else none)else if-(n:Int)≤i then some (i+n).toNat else none
noncomputable def atI{α:Type}(xs:List α)(i:Int):Option α:=(ixN xs.length i).bind λj=>xs[j]?
theorem qCK{n:Nat}{i:Int}{j:Nat}(h:ixN n i=some j):seqIndex? i n=some j∧j<n∧-(n:Int)≤i∧i<n:=by(
unfold ixN at h
by_cases h0:0≤i
·rw[kF h0]at h;by_cases h1:i<n
 ·rw[kF h1]at h;have e:i.toNat=j:=kL h;exact⟨by rw[nI h0 h1,e],by lia,by lia,h1⟩
 rw[hV h1]at h;cases h
rw[hV h0]at h
by_cases h1:-(n:Int)≤i
·rw[kF h1]at h;have e:(i+n).toNat=j:=kL h;exact⟨by rw[sJ (by lia) h1,e],by lia,h1,by lia⟩
rw[hV h1]at h;cases h)
theorem q90{α:Type}{xs:List α}{i:Int}{v:α}(h:atI xs i=some v):∃j,seqIndex? i xs.length=some j∧xs[j]?=some v∧j<xs.length∧-(xs.length:Int)≤i∧i<xs.length:=by(
unfold atI at h
cases e:ixN xs.length i with
|none=>rw[e]at h;cases h
|some j=>rw[e]at h;obtain⟨h1,h2,h3,h4⟩:=qCK e;exact⟨j,h1,h,h2,h3,h4⟩)
theorem yD{α:Type}{xs:List α}{j:Nat}{v:α}(h:xs[j]?=some v):atI xs (j:Int)=some v:=by
 have hj:j<xs.length:=(kD.mp h).1;have e:ixN xs.length (j:Int)=some j:=by unfold ixN;rw[kF (by lia),kF (by lia)];simp
 unfold atI;rw[e];exact h
noncomputable def qGT(b:Expr):Prop:=∀o i,subscripted b false o i=operate [o,i] (getItem o i)
noncomputable def IxR(X:Cx)(r:R2):Prop:=∀(value slice:Expr) (pins:List (Addr×Obj)) (s:Shared) (σ:St) (H:Hp) (x y:V) (v u:Value) (Q:VK),Inv X pins σ H s→RelV x v→RelV y u→r x y H Q→subscripted slice false v u=operate [v,u] (getItem v u)→wpAny (model X.prog X.w) X.A (subscriptTail value slice v u) (EP X pins σ Q) X.xe s
noncomputable def MtR(X:Cx)(id:String)(r:V→List V→Hp→VK→Prop):Prop:=∀(pins:List (Addr×Obj)) (s:Shared) (σ:St) (H:Hp) (x:V) (xs:List V) (v:Value) (us:List Value) (Q:VK),Inv X pins σ H s→RelV x v→Vals xs us→r x xs H Q→wpAny (model X.prog X.w) X.A (call (.builtin id) (v::us)) (EP X pins σ Q) X.xe s
section
variable{X:Cx}{a b:Expr}{ta tb:TE}{pos:Pos}
theorem qV{r:R2}(hr:IxR X r)(ha:PE X a ta)(hb:PE X b tb)(hs:qGT b):PE X (.Subscript a b pos) (tOp r ta tb):=by intro pins s σ H Q I h;exact aJ (binT ha hb I h λv u s2 x y H2 I2 rx ry q=>hr a b pins s2 σ H2 x y v u Q I2 rx ry q (hs _ _))
noncomputable def rIxL(K:PySem.W.Frag):R2:=λx y H Q=>∃p xs i v,x=.ref p∧y=.int i∧SqL K H p xs∧atI xs i=some v∧Q v H
noncomputable def rIxT(K:PySem.W.Frag):R2:=λx y H Q=>∃p xs i v,x=.ref p∧y=.int i∧SqT K H p xs∧atI xs i=some v∧Q v H
theorem jE:IxR X (rIxL X.K):=by(
intro value slice pins s σ H x y v u Q I rx ry h hs
obtain⟨p,xs,i,z,rfl,rfl,hq,he,q⟩:=h
cases rx
obtain⟨t,rfl⟩:=ry
obtain⟨its,r,pl,hz⟩:=I.list hq
obtain⟨j,h1,h2,h3,h4,h5⟩:=q90 he
obtain⟨w,ew,rw'⟩:=r.get h2
have hl:=r.length
have hn:=q6A
have fin:EP X pins σ Q w s:=⟨z,H,I,rw',q⟩
by_cases h0:0≤i
·have hj:i.toNat=j:=by rw[nI h0 h5]at h1;exact kL h1
 exact item_listR pl.isList h0 (by lia) (by rw[hj];simpa using ew) fin hs
have hj:(i+(its.toArray.size:Int)).toNat=j:=by rw[sJ (by lia) h4]at h1;rw[kW,←hl];exact kL h1
exact sK (x:=w) pl.isList.typeIs lY.lookup
 (sL (Q:=λr s'=>r=w∧EP X pins σ Q r s') pl.isList (by lia) (by rw[kW]<;>lia) (by lia) (by rw[hj];simpa using ew) ⟨rfl,fin⟩) hs)
theorem qZ:IxR X (rIxT X.K):=by(
intro value slice pins s σ H x y v u Q I rx ry h hs
obtain⟨p,xs,i,z,rfl,rfl,hq,he,q⟩:=h
cases rx
obtain⟨t,rfl⟩:=ry
obtain⟨its,r,pl,hz⟩:=I.tuple hq
obtain⟨j,h1,h2,h3,h4,h5⟩:=q90 he
obtain⟨w,ew,rw'⟩:=r.get h2
have hl:=r.length
have hn:=q6A
have fin:EP X pins σ Q w s:=⟨z,H,I,rw',q⟩
exact sK (x:=w) pl.typeIs slot_tuple_getitem.lookup
 (getItem_tuple (j:=j) (Q:=λr s'=>r=w∧EP X pins σ Q r s') pl (by lia) (by lia) (by rw[kW,←hl];exact h1) (by simpa using ew) ⟨rfl,fin⟩) hs)
theorem qBQ(its:List Value)(n j:Nat)(u:Value):Obj.mapSeq (·.setIfInBounds j u) { cls:=.type "list",data:=.seq its.toArray n } = { cls:=.type "list",data:=.seq (its.set j u).toArray n }:=by simp[Obj.mapSeq]
theorem Inv.lst{pins:List (Addr×Obj)}{σ:St}{H:Hp}{s:Shared}{p:Addr}{xs:List V}(I:Inv X pins σ H s)(h:H p=some (.lst xs)):
 ∃(its:List Value) (n:Nat),Vals xs its∧s.heap.get? p=some { cls:=.type "list",data:=.seq its.toArray n }∧xs.length≤sizeLine:=by obtain⟨z,its,n,r,e⟩:=I.hok p _ h;exact⟨its,n,r,e,z⟩
theorem Inv.lstUpd{pins:List (Addr×Obj)}{σ:St}{H:Hp}{s:Shared}{p:Addr}{xs ys:List V}{its its':List Value}{n n':Nat}{f:Obj→Obj}(I:Inv X pins σ H s)(h:H p=some (.lst xs))
 (ho:s.heap.get? p=some { cls:=.type "list",data:=.seq its.toArray n }) (hf:f { cls:=.type "list",data:=.seq its.toArray n } = { cls:=.type "list",data:=.seq its'.toArray n' }) (r:Vals ys its') (hz:ys.length≤sizeLine) (t:Nat):
 Inv X pins σ (upd H p (.lst ys)) { s with heap:=s.heap.update p f,toks:=t }:=by
 have e:(s.heap.update p f).get? p=some { cls:=.type "list",data:=.seq its'.toArray n' }:=by rw[r6 f ho (by rw[hf]<;>rfl),hf]
 refine I.write (x:=p) (e:=p) (by rw[h];trivial) (.inl rfl) (λb u hb q=>(k9 _ _ (rQ hb)).trans q) ⟨_,e⟩ ?_;exact⟨hz,its',n',r,e⟩
noncomputable def qL9:V→V→V→Hp→(Hp→Prop)→Prop:=λo i v H Q=>∃p xs k j,o=.ref p∧i=.int k∧H p=some (.lst xs)∧ixN xs.length k=some j∧Q (upd H p (.lst (xs.set j v)))
theorem uH:PSet X qL9:=by(
intro pins s σ H o i v ov iv u Q I ro ri rv h
obtain⟨p,xs,k,j,rfl,rfl,hp,hj,q⟩:=h
cases ro
obtain⟨t,rfl⟩:=ri
obtain⟨its,n,r,ho,hz⟩:=I.lst hp
obtain⟨h1,h2,h3,h4⟩:=qCK hj
have hl:=r.length
have hn:=q6A
have I':Inv X pins σ (upd H p (.lst (xs.set j v))) { s with heap:=s.heap.update p (Obj.mapSeq (·.setIfInBounds j u)) }:=I.lstUpd hp ho (qBQ its n j u) (r.set rv j) (by rw[gE];exact hz) s.toks
by_cases h0:0≤k
·have hk:k.toNat=j:=by rw[nI h0 h4]at h1;exact kL h1
 exact PySem.W.ki_setAt ho h0 (by lia) (by rw[kW,←hl];exact h4) (by rw[hk];exact⟨_,I',q⟩)
have hk:(k+(its.toArray.size:Int)).toNat=j:=by rw[sJ (by lia) h3]at h1;rw[kW,←hl];exact kL h1
exact PySem.W.ki_setBack ho (by lia) (by rw[kW,←hl];exact h3) (by lia) (by rw[hk];exact⟨_,I',q⟩))
theorem q91(lo hi:Option Int)(n:Nat):(sliceBounds lo hi none n).1=((HT.sIx n 0 lo:Nat):Int)∧(sliceBounds lo hi none n).2.1=((HT.sIx n n hi:Nat):Int)∧(sliceBounds lo hi none n).2.2=1:=by(
refine⟨?_,?_,rfl⟩
·cases lo with
 |none=>simp[sliceBounds,HT.sIx]
 |some i=>
  simp only[sliceBounds,HT.sIx,xM,show(1:Int)>0 by decide,if_true];by_cases h:i<0
  ·simp only[h,if_true]<;>lia
  simp only[h,if_false]<;>lia
cases hi with
|none=>simp[sliceBounds,HT.sIx]
|some i=>
 simp only[sliceBounds,HT.sIx,xM,show(1:Int)>0 by decide,if_true];by_cases h:i<0
 ·simp only[h,if_true]<;>lia
 simp only[h,if_false]<;>lia)
theorem q7Q(its:List Value)(lo hi:Option Int):slicePick its.toArray lo hi none=((its.drop (HT.sIx its.length 0 lo)).take (HT.sIx its.length its.length hi-HT.sIx its.length 0 lo)).toArray:=by(
obtain⟨h1,h2,h3⟩:=q91 lo hi its.toArray.size
unfold slicePick
rw[h1,h2,h3]
simp only[sliceRange_one,pick_run,kW]<;>rfl)
noncomputable def rSlL(K:PySem.W.Frag):V→Option Int→Option Int→Hp→VK→Prop:=λx lo hi H Q=>∃a xs,x=.ref a∧SqL K H a xs∧∀p,H p=none→Q (.ref p) (upd H p (.lst (cutV xs lo hi)))
theorem q92:SlR X (rSlL X.K):=by(
intro pins s σ H x v vl vu lo hi sl Q I rx hs pl pu h
obtain⟨a,xs,rfl,hx,q⟩:=h
cases rx
obtain⟨its,r,ht,hz⟩:=I.list hx
have hlen:=r.length
refine⟨"list",_,lY.lookup,ht.isList.typeIs,?_⟩
refine wpAny_getItem_list_slice ht.isList hs pl pu .none (by simp) ?_ (by rw[kW]<;>lia)
rw[q7Q,←hlen]
refine⟨.ref s.heap.objs.size,_,I.laid (t':=s.toks) (o:=.lst (cutV xs lo hi)) (λb ob q=>kE _ q) (kN _) ?_,rfl,q _ (I.hok.fresh (kN _))⟩
exact⟨k8 (qAB xs lo hi) hz,_,0,(r.drop (HT.sIx xs.length 0 lo)).take (HT.sIx xs.length xs.length hi-HT.sIx xs.length 0 lo),mF _ rfl⟩)
noncomputable def q1M:V→Bool
| .non=>true
| .bl _=>true
| .int _=>true
| .str _=>true
|_=>false
noncomputable def eqV:V→V→Bool
| .non,.non=>true
| .bl a,.bl b=>a==b
| .bl a,.int b=>(if a then 1 else 0)==b
| .int a,.bl b=>a==(if b then 1 else 0)
| .int a,.int b=>a==b
| .str a,.str b=>a==b
|_,_=>false
theorem qEM{A:Around}{s:Shared}{y x:V}{u v:Value}(ry:RelV y u)(rx:RelV x v)(fy:q1M y=true)(fx:q1M x=true):SeqAt.EqAt A s u v (eqV y x):=by(
cases y with
|non=>
 cases ry;cases x with
 |non=>cases rx;exact cV _
 |bl b=>cases rx;exact SeqAt.EqAt.none_bool b
 |int b=>obtain⟨t,rfl⟩:=rx;exact SeqAt.EqAt.none_int b t
 |str b=>obtain⟨t,rfl⟩:=rx;exact SeqAt.EqAt.none_str b t
 |_=>exact absurd (show false=true from fx) kM
|bl a=>
 cases ry;cases x with
 |non=>cases rx;exact SeqAt.EqAt.bool_none a
 |bl b=>cases rx;exact SeqAt.EqAt.bool_bool a b
 |int b=>obtain⟨t,rfl⟩:=rx;exact SeqAt.EqAt.bool_int a b t
 |str b=>obtain⟨t,rfl⟩:=rx;exact SeqAt.EqAt.bool_str a b t
 |_=>exact absurd (show false=true from fx) kM
|int a=>
 obtain⟨t',rfl⟩:=ry;cases x with
 |non=>cases rx;exact SeqAt.EqAt.int_none a t'
 |bl b=>cases rx;exact SeqAt.EqAt.int_bool a t' b
 |int b=>obtain⟨t,rfl⟩:=rx;exact pF a t' b t
 |str b=>obtain⟨t,rfl⟩:=rx;exact lB a t' b t
 |_=>exact absurd (show false=true from fx) kM
|str a=>
 obtain⟨t',rfl⟩:=ry;cases x with
 |non=>cases rx;exact SeqAt.EqAt.str_none a t'
 |bl b=>cases rx;exact SeqAt.EqAt.str_bool a t' b
 |int b=>obtain⟨t,rfl⟩:=rx;exact lC a t' b t
 |str b=>obtain⟨t,rfl⟩:=rx;exact SeqAt.EqAt.str_str a t' b t
 |_=>exact absurd (show false=true from fx) kM
|_=>exact absurd (show false=true from fy) kM)
noncomputable def eqU(x:V)(u:Value):Bool:=match u with
| .none=>eqV .non x
| .bool b=>eqV (.bl b) x
| .int i _=>eqV (.int i) x
| .str z _=>eqV (.str z) x
|_=>false
theorem qEN{x y:V}{u:Value}(r:RelV y u)(f:q1M y=true):eqU x u=eqV y x:=by(
cases y with
|non=>cases r;rfl
|bl b=>cases r;rfl
|int i=>obtain⟨t,rfl⟩:=r;rfl
|str z=>obtain⟨t,rfl⟩:=r;rfl
|_=>exact absurd (show false=true from f) kM)
theorem q41{x:V}:∀{xs:List V} {us:List Value},Vals xs us→xs.all q1M=true→us.any (eqU x)=xs.any λy=>eqV y x
|_,_,.nil,_=>rfl
|y::xs,u::us,.cons r t,f=>by rw[aX,mI]at f;rw[wP,wP,qEN r f.1,q41 t f.2]
theorem q1Z{A:Around}{s:Shared}{x:V}{v:Value}(rx:RelV x v)(fx:q1M x=true):∀{xs:List V} {us:List Value},Vals xs us→xs.all q1M=true→∀u∈us,SeqAt.EqAt A s u v (eqU x u)
|_,_,.nil,_=>λu hu=>by cases hu
|y::xs,u::us,.cons r t,f=>λu' hu=>by
 rw[aX,mI]at f;rcases kJ.mp hu with rfl|hu
 ·rw[qEN r f.1];exact qEM r rx f.1 fx
 exact q1Z rx fx t f.2 u' hu
noncomputable def inV(x:V)(xs:List V):Bool:=xs.any λy=>eqV y x
noncomputable def rIn(K:PySem.W.Frag)(neg:Bool):R2:=λx y H Q=>∃p xs,y=.ref p∧(SqL K H p xs∨SqT K H p xs)∧q1M x=true∧xs.all q1M=true∧Q (.bl (if neg then !inV x xs else inV x xs)) H
theorem q8F:OpR X (compareOp .In) (rIn X.K false):=by(
intro pins s σ H x y v u Q I rx ry h
obtain⟨p,xs,rfl,hq,fx,fs,q⟩:=h
cases ry
rcases hq with hq|hq
·obtain⟨its,r,pl,hz⟩:=I.list hq;refine xX (eqU x) pl.isList (λw hw=>q1Z rx fx r fs w (by simpa using hw)) ⟨.bl _,H,I,rfl,?_⟩;rw[show its.toArray.any (eqU x)=its.any (eqU x) by simp,q41 r fs];exact q
obtain⟨its,r,pl,hz⟩:=I.tuple hq
refine SeqAt.in_tupleAt (eqU x) pl (λw hw=>q1Z rx fx r fs w (by simpa using hw)) ⟨.bl _,H,I,rfl,?_⟩
rw[show its.toArray.any (eqU x)=its.any (eqU x) by simp,q41 r fs]
exact q)
theorem q93:OpR X (compareOp .NotIn) (rIn X.K true):=by(
intro pins s σ H x y v u Q I rx ry h
obtain⟨p,xs,rfl,hq,fx,fs,q⟩:=h
cases ry
rcases hq with hq|hq
·obtain⟨its,r,pl,hz⟩:=I.list hq;refine SeqAt.notIn_listAt (eqU x) pl.isList (λw hw=>q1Z rx fx r fs w (by simpa using hw)) ⟨.bl _,H,I,rfl,?_⟩;rw[show its.toArray.any (eqU x)=its.any (eqU x) by simp,q41 r fs];exact q
obtain⟨its,r,pl,hz⟩:=I.tuple hq
refine SeqAt.notIn_tupleAt (eqU x) pl (λw hw=>q1Z rx fx r fs w (by simpa using hw)) ⟨.bl _,H,I,rfl,?_⟩
rw[show its.toArray.any (eqU x)=its.any (eqU x) by simp,q41 r fs]
exact q)
theorem qY:q3A X (.builtin "len") (λxs H Q=>∃p ys,xs=[.ref p]∧(SqL X.K H p ys∨SqT X.K H p ys)∧Q (.int ys.length) H):=by(
intro pins s σ H xs us Q I r h
obtain⟨p,ys,rfl,hq,q⟩:=h
obtain⟨u,rfl,rx⟩:=q1Y r
cases rx
have hn:=q6A
rcases hq with hq|hq
·obtain⟨its,r',pl,hz⟩:=I.list hq;have hlen:=r'.length;exact Calls.call_len_list pl.isList (by simp only[kW]<;>lia) ⟨.int ys.length,H,I.tok _,⟨s.toks+1,by rw[kW,hlen]⟩,q⟩
obtain⟨its,r',pl,hz⟩:=I.tuple hq
have hlen:=r'.length
exact len_tuple pl (by simp only[kW]<;>lia) ⟨.int ys.length,H,I.tok _,⟨s.toks+1,by rw[kW,hlen]⟩,q⟩)
theorem q94:q3A X (.type "list") (λxs H Q=>∃p ys,xs=[.ref p]∧(SqL X.K H p ys∨SqT X.K H p ys)∧∀l,H l=none→Q (.ref l) (upd H l (.lst ys))):=by(
intro pins s σ H xs us Q I r h
obtain⟨p,ys,rfl,hq,q⟩:=h
obtain⟨u,rfl,rx⟩:=q1Y r
cases rx
have fin:∀(its:List Value),Vals ys its→ys.length≤sizeLine→∀(h':Heap) (c':Nat),(∀b o',s.heap.get? b=some o'→h'.get? b=some o')→h'.get? s.heap.objs.size=some { cls:=.type "list",dict:=none,data:=.seq its.toArray c',slots:=#[] }→EP X pins σ Q (.ref s.heap.objs.size) { s with heap:=h' }:=λits r' hz h' c' kp e=>⟨.ref s.heap.objs.size,_,I.laid (t':=s.toks) kp (kN _) (show jK X.prog X.w _ h' _ (.lst ys)from⟨hz,its,c',r',e⟩),rfl,q _ (I.hok.fresh (kN _))⟩
rcases hq with hq|hq
·obtain⟨its,r',pl,hz⟩:=I.list hq;have hlen:=r'.length;obtain⟨o,ho,hc,n,hd⟩:=pl.isList;exact call_list_seq p (.inl rfl) ho hc hd (λh' c' kp e=>fin its r' hz h' c' kp e) (by simp only[kW]<;>lia)
obtain⟨its,r',pl,hz⟩:=I.tuple hq
have hlen:=r'.length
obtain⟨o,ho,hc,n,hd⟩:=pl
exact call_list_seq p (.inr rfl) ho hc hd (λh' c' kp e=>fin its r' hz h' c' kp e) (by simp only[kW]<;>lia))
noncomputable def tyV(K:PySem.W.Frag)(T:String)(x:V)(H:Hp):Prop:=match x with
| .str _=>T="str"
| .int _=>T="int"
| .ref p=>(T="list"∧∃xs,SqL K H p xs)∨(T="tuple"∧∃o,K.lookup p=some o∧o.cls=.type "tuple"∧o.dict=none)∨(T="dict"∧((∃kvs,H p=some (.dK kvs))∨∃kvs,H p=some (.dT kvs)))∨(T="set"∧∃S n,H p=some (.set S n))
|_=>False
theorem qEO{pins:List (Addr×Obj)}{σ:St}{H:Hp}{s:Shared}{T:String}{x:V}{v:Value}(I:Inv X pins σ H s)(r:RelV x v)(ty:tyV X.K T x H):
 s.TypeIs v T∧∀a,v=.ref a→∃ob,s.heap.get? a=some ob∧ob.dict=none:=by(
cases x with
|str z=>obtain⟨t,rfl⟩:=r;cases(show T="str" from ty);exact⟨typeIs_str s z t,λ_ e=>nomatch e⟩
|int i=>obtain⟨t,rfl⟩:=r;cases(show T="int" from ty);exact⟨aK s i t,λ_ e=>nomatch e⟩
|ref p=>
 cases r;rcases ty with⟨rfl,xs,hq⟩|⟨rfl,o,hk,hc,hd⟩|⟨rfl,hk⟩|⟨rfl,S,n,hk⟩
 ·obtain⟨its,_,pl,_⟩:=I.list hq;refine⟨pl.isList.typeIs,λa e=>?_⟩;cases e;obtain⟨o,n,e,c,hd,_⟩:=pl;exact⟨o,e,hd⟩
 ·refine⟨⟨o,I.kIn p o hk,hc⟩,λa e=>?_⟩;cases e;exact⟨o,I.kIn _ o hk,hd⟩
 ·have z:∃o,s.heap.get? p=some o∧o.ExactDict:=by
   rcases hk with⟨kvs,hk⟩|⟨kvs,hk⟩
   ·obtain⟨_,_,_,_,o,_,_,e,ex,_⟩:=I.hok p _ hk;exact⟨o,e,ex⟩
   obtain⟨_,_,_,_,o,_,_,e,ex,_⟩:=I.hok p _ hk;exact⟨o,e,ex⟩
  obtain⟨o,e,ex⟩:=z;refine⟨⟨o,e,ex.1⟩,λa e2=>?_⟩;cases e2;exact⟨o,e,ex.2.1⟩
 obtain⟨o,_,_,_,e,ex,_⟩:=I.hok p _ hk;refine⟨⟨o,e,ex.1⟩,λa e2=>?_⟩;cases e2;exact⟨o,e,ex.2.1⟩
|_=>exact False.elim ty)
noncomputable def tBM0(K:PySem.W.Frag)(T:String)(r:V→List V→Hp→VK→Prop)(to:TE):TE:=λσ H Q=>to σ H λx H1=>tyV K T x H1∧r x [] H1 Q
noncomputable def tBM(K:PySem.W.Frag)(T:String)(r:V→List V→Hp→VK→Prop)(to:TE)(t:TA):TE:=λσ H Q=>to σ H λx H1=>tyV K T x H1∧t σ H1 λxs H2=>r x xs H2 Q
variable{o e:Expr}{es:List Expr}{to:TE}{t:TA}{name:Str}{apos cpos:Pos}{T id:String}{r:V→List V→Hp→VK→Prop}
theorem qJ9(pa:PlainAttrs T)(slot:Slot T name id)(hty:typeOf (.builtin id)=pure (.type "method_descriptor"))(hm:MtR X id r)(ho:PE X o to)
 (hbase:attributeBase o name X.env (eval o X.env)=eval o X.env:=by rfl) (hline:(apos.endLine==cpos.line)=true:=by rfl):PE X (.Call (.Attribute o name apos) [] [] cpos) (tBM0 X.K T r to):=by(
intro pins s σ H Q I h
refine wpAny_Call_method0_late hbase hline (thn (ho pins s σ H _ I h) λv s1 hZ=>?_)
obtain⟨x,H1,I1,r1,ty,q1⟩:=hZ
obtain⟨h1,h2⟩:=qEO I1 r1 ty
exact⟨T,id,pa,slot,hty,h1,h2,cC rfl (PySem.evalArgs_none (hm pins s1 σ H1 x [] v [] Q I1 r1 .nil q1))⟩)
theorem qEP(pa:PlainAttrs T)(slot:Slot T name id)(hty:typeOf (.builtin id)=pure (.type "method_descriptor"))(hm:MtR X id r)(ho:PE X o to)(ha:PA X (e::es) t)
 (hbase:attributeBase o name X.env (eval o X.env)=eval o X.env:=by rfl)
 (hfew:((backTo cpos (starEach (e::es) X.env)).all (λx=>!x.1)&&(backToKw cpos (keywordEach [] X.env)).all (λx=>x.1.isSome)
  &&decide ((e::es).length+([]:List Keyword).length+(if([]:List Keyword).isEmpty then 0 else 1)<30))=true:=by rfl)
 (hline:(apos.endLine==cpos.line)=true:=by rfl) (hs:starEach (e::es) X.env=(false,eval e X.env)::starEach es X.env:=by rfl) (hplain:(backTo cpos (starEach es X.env)).any (·.1)=false:=by rfl):
 PE X (.Call (.Attribute o name apos) (e::es) [] cpos) (tBM X.K T r to t):=by(
intro pins s σ H Q I h
refine wpAny_Call_method_late hbase hfew hline rfl (thn (ho pins s σ H _ I h) λv s1 hZ=>?_)
obtain⟨x,H1,I1,r1,ty,q1⟩:=hZ
obtain⟨h1,h2⟩:=qEO I1 r1 ty
refine⟨T,id,pa,slot,hty,h1,h2,?_⟩
have hA:=ha cpos pins s1 σ H1 _ I1 q1
rw[hs]at hA ⊢
refine cC (by show(false||(backTo cpos (starEach es X.env)).any (·.1))=false;rw[hplain]<;>rfl) (cR ?_)
exact thn hA λus s2 ⟨vs,H2,I2,r2,q2⟩=>hm pins s2 σ H2 x vs v us Q I2 r1 r2 q2)
end
noncomputable def MtM(X:Cx)(id:String)(r:V→List V→Hp→VK→Prop):Prop:=∀(pins:List (Addr×Obj)) (s:Shared) (σ:St) (H:Hp) (x:V) (xs:List V) (v:Value) (us:List Value) (Q:VK),Inv X pins σ H s→RelV x v→Vals xs us→r x xs H Q→wpAny (model X.prog X.w) X.A (call (.builtin id) (v::us)) (EP X pins σ Q) X.xe s
theorem Vals.one{x:V}{us:List Value}(h:Vals [x] us):∃u,us=[u]∧RelV x u:=by
 cases h with
 |cons r t=>cases t;exact⟨_,rfl,r⟩
theorem Vals.zero:∀{us:List Value},Vals [] us→us=[]
|_,.nil=>rfl
theorem Vals.rep{xs:List V}{us:List Value}(h:Vals xs us):∀k:Nat,Vals (List.replicate k xs).flatten (List.replicate k us).flatten
|0=>.nil
|k+1=>by rw[dA,dA,wA,wA];exact Vals.append h (Vals.rep h k)
theorem q8G(its:List Value):∀(k:Nat) (acc:List Value),List.foldl (λx1 x2=>x1++x2) acc.toArray (List.replicate k its.toArray)=(acc++(List.replicate k its).flatten).toArray
|0,acc=>by simp
|k+1,acc=>by
 have e:acc.toArray++its.toArray=(acc++its).toArray:=by simp
 have e2:(acc++its)++(List.replicate k its).flatten=acc++(List.replicate (k+1) its).flatten:=by rw[dA,wA,cD]
 rw[←e2,←q8G its k (acc++its),←e,dA,List.foldl_cons]
section
variable{X:Cx}{pins:List (Addr×Obj)}{σ:St}{H:Hp}{s:Shared}{l b:Addr}{xs ys zs:List V}
theorem Inv.lset{its its':List Value}{n:Nat}{f:Array Value→Array Value}{t':Nat}(I:Inv X pins σ H s)(hH:H l=some (.lst xs))
 (e:s.heap.get? l=some { cls:=.type "list",data:=.seq its.toArray n }) (hf:f its.toArray=its'.toArray) (hv:Vals ys its') (hz:ys.length≤sizeLine):
 Inv X pins σ (upd H l (.lst ys)) { s with heap:=s.heap.update l (Obj.mapSeq f),toks:=t' }:=by(
have q:=PySem.IsL.update e f
rw[hf]at q
refine I.write (x:=l) (e:=l) (by rw[hH];exact trivial) (.inl rfl) (λb' u hb hu=>(k9 s.heap (Obj.mapSeq f) (rQ hb)).trans hu) ⟨_,q⟩ ?_
exact⟨hz,its',_,hv,q⟩)
theorem Inv.lnew{its:List Value}{t':Nat}(I:Inv X pins σ H s)(hv:Vals ys its)(hz:ys.length≤sizeLine):
 Inv X pins σ (upd H s.heap.objs.size (.lst ys)) { s with heap:=s.heap.push { cls:=.type "list",data:=.seq its.toArray },toks:=t' }:=I.laid (λ_ _ q=>kE _ q) (kN _) ⟨hz,its,0,hv,mF _ rfl⟩
theorem Inv.fresh(I:Inv X pins σ H s):H s.heap.objs.size=none:=I.hok.fresh (kN _)
theorem Inv.lstM(I:Inv X pins σ H s)(hH:H l=some (.lst xs)):xs.length≤sizeLine∧∃(its:List Value) (n:Nat),Vals xs its∧xs.length=its.length∧s.heap.get? l=some { cls:=.type "list",data:=.seq its.toArray n }:=by obtain⟨z,its,n,r,e⟩:=I.hok l _ hH;exact⟨z,its,n,r,r.length,e⟩
theorem qEQ{n:Nat}(h:n≤sizeLine):Builtin.List.listTooLong n=false:=by unfold Builtin.List.listTooLong;exact hU (by lia)
end
section
variable{X:Cx}
noncomputable def qGU:V→List V→Hp→VK→Prop:=λx vs H Q=>∃l xs y,x=.ref l∧vs=[y]∧H l=some (.lst xs)∧xs.length<sizeLine∧Q .non (upd H l (.lst (xs++[y])))
theorem q2W:MtM X "list.append" qGU:=by(
intro pins s σ H x vs v us Q I rx rv h
obtain⟨l,xs,y,rfl,rfl,hH,hz,q⟩:=h
cases rx
obtain⟨u,rfl,ru⟩:=rv.one
obtain⟨z,its,n,r,hl,e⟩:=I.lstM hH
refine aL F.slot_list_append ⟨_,e,rfl⟩ F.entry_list_append (F.args_list_append_2 _ _) (PySem.list_append l its.toArray n u (by rw[kW];lia)) ⟨e,?_⟩
refine⟨.non,_,I.lset (its':=its++[u]) hH e (by simp) (r.append (.cons ru .nil)) ?_,rfl,q⟩
rw[kO,mU]
lia)
noncomputable def rRep:R2:=λx y H Q=>∃l k xs,x=.ref l∧y=.int k∧H l=some (.lst xs)∧-(2 ^ 63)≤k∧k<2 ^ 63∧xs.length*k.toNat≤sizeLine∧∀p,H p=none→Q (.ref p) (upd H p (.lst (List.replicate k.toNat xs).flatten))
theorem qGV{α:Type}(xs:List α)(k:Nat):(List.replicate k xs).flatten.length=k*xs.length:=by(
induction k with
|zero=>simp
|succ k ih=>rw[dA,wA,kO,ih,cE,Nat.add_comm])
theorem qJA:OpR X (binaryOp .Mult) rRep:=by(
intro pins s σ H x y v u Q I rx ry h
obtain⟨l,k,xs,rfl,rfl,hH,h1,h2,hz,q⟩:=h
cases rx
obtain⟨t,rfl⟩:=ry
obtain⟨z,its,n,r,hl,e⟩:=I.lstM hH
have hlen:its.toArray.size*k.toNat≤sizeLine:=by rw[kW,←hl];exact hz
have hcap:¬its.toArray.size*k.toNat>(2 ^ 63-1) / 8:=by
 have:(sizeLine:Nat)≤(2 ^ 63-1) / 8:=by decide
 lia
have hfit:¬(!Builtin.List.listFitsIndex k)=true:=by rw[fitsIndex_both h1 h2];exact kM
have hlong:¬Builtin.List.listTooLong (its.toArray.size*k.toNat)=true:=by rw[qEQ hlen];exact kM
have hnew:List.foldl (λx1 x2=>x1++x2) #[] (List.replicate (if its.toArray.isEmpty=true then 0 else k.toNat) its.toArray)=(List.replicate k.toNat its).flatten.toArray:=by
 have f0:∀m:Nat,List.foldl (λx1 x2=>x1++x2) #[] (List.replicate m its.toArray)=(List.replicate m its).flatten.toArray:=λm=>by have:=q8G its m [];rw[dC]at this;exact this
 rw[f0];cases its with
 |nil=>simp
 |cons a r'=>rw[hV (by simp)]
refine wpAny_binaryOp_repeat_ref (T:="list") (U:="int") (by decide) ⟨_,e,rfl⟩ (λs'=>aK s' k t) noFill_list_mul F.fills_int_mul xY repeat_list F.slot_int_index.lookup
 (aL xY (aK s k t) F.entry_int_rmul (F.args_int_rmul_2 _ _) (int___rmul___int_list k t l its.toArray n)
  ⟨e,rfl,⟨_,e,rfl⟩,aL F.slot_list_mul ⟨_,e,rfl⟩ F.entry_list_mul (F.args_list_mul_2 _ _) (AutoListH.list___mul___list_int_3 l its.toArray n k t hfit hcap hlong) ⟨e,?_⟩⟩)
rw[hnew]
exact⟨.ref _,_,I.lnew (t':=s.toks) (r.rep k.toNat) (by rw[qGV,rU];exact hz),rfl,q _ I.fresh⟩)
end
section
variable{κ:Type}[DecidableEq κ]
noncomputable def valV(kvs:List (κ×V))(k:κ):Option V:=(kvs.find? λkv=>decide (kv.1=k)).map (·.2)
noncomputable def putK(kvs:List (κ×V))(k:κ)(v:V):List (κ×V):=if(kvs.any λkv=>decide (kv.1=k))=true then kvs.map (λkv=>if kv.1=k then(kv.1,v)else kv)else kvs++[(k,v)]
noncomputable def q6G(kvs:List (κ×V))(k:κ):List (κ×V):=kvs.filter λkv=>decide (kv.1≠k)
theorem q42{p:κ×V}{r:List (κ×V)}{k:κ}(e:p.1=k):valV (p::r) k=some p.2:=by simp[valV,dD,e]
theorem q20{p:κ×V}{r:List (κ×V)}{k:κ}(e:¬p.1=k):valV (p::r) k=valV r k:=by simp[valV,dD,e]
theorem qAC(k:κ):∀kvs:List (κ×V),(kvs.any λkv=>decide (kv.1=k))=(valV kvs k).isSome
| []=>rfl
|p::r=>by
 rw[wP];by_cases e:p.1=k
 ·simp only[q42 e,hG e,Bool.true_or,Option.isSome_some]
 rw[q20 e,hU e,Bool.false_or];exact qAC k r
theorem q5D(kvs:List (κ×V))(k:κ)(v:V):(putK kvs k v).length≤kvs.length+1:=by(
unfold putK
split
·rw[h9];lia
rw[kO,mB,cW];lia)
theorem RelO.isSome_eq{o:Option V}{u:Option Value}(r:RelO o u):o.isSome=u.isSome:=by(
cases o with
|none=>cases u with
 |none=>rfl
 |some _=>exact(show False from r).elim
|some _=>cases u with
 |none=>exact(show False from r).elim
 |some _=>rfl)
theorem KV.val{kvs:List (κ×V)}{vs:List (κ×Value)}(r:KV kvs vs)(k:κ):RelO (valV kvs k) (valueAt vs k):=by(
unfold KV at r
induction r with
|nil=>exact True.intro
|@cons p q ps qs h t ih=>
 obtain⟨h1,h2⟩:=h;by_cases e:p.1=k
 ·have e':q.1=k:=h1.symm.trans e;have b:valueAt (q::qs) k=some q.2:=by simp[valueAt,dD,e']
  rw[q42 e,b];exact h2
 have e':¬q.1=k:=λz=>e (h1.trans z);have b:valueAt (q::qs) k=valueAt qs k:=by simp[valueAt,dD,e']
 rw[q20 e,b];exact ih)
theorem KV.any{kvs:List (κ×V)}{vs:List (κ×Value)}(r:KV kvs vs)(k:κ):(kvs.any λkv=>decide (kv.1=k))=vs.any λkv=>decide (kv.1=k):=by(
unfold KV at r
induction r with
|nil=>rfl
|cons h t ih=>rw[wP,wP,ih,h.1])
theorem KV.repl{kvs:List (κ×V)}{vs:List (κ×Value)}(r:KV kvs vs)(k:κ){y:V}{u:Value}(ry:RelV y u):
 KV (kvs.map λkv=>if kv.1=k then(kv.1,y)else kv) (vs.map λkv=>if kv.1=k then(kv.1,u)else kv):=by(
unfold KV at r ⊢
induction r with
|nil=>exact .nil
|@cons p q ps qs h t ih=>
 rw[mJ,mJ];refine .cons ?_ ih;obtain⟨h1,h2⟩:=h;by_cases e:p.1=k
 ·rw[kF e,kF (h1.symm.trans e)];exact⟨h1,ry⟩
 rw[hV e,hV (λz=>e (h1.trans z))];exact⟨h1,h2⟩)
theorem KV.put{kvs:List (κ×V)}{vs:List (κ×Value)}(r:KV kvs vs)(k:κ){y:V}{u:Value}(ry:RelV y u):KV (putK kvs k y) (stored vs k u):=by(
unfold putK stored
rw[r.any k]
by_cases e:(vs.any λkv=>decide (kv.1=k))=true
·rw[kF e,kF e];exact r.repl k ry
rw[hV e,hV e];exact Paired.snoc r ⟨rfl,ry⟩)
theorem KV.drop{kvs:List (κ×V)}{vs:List (κ×Value)}(r:KV kvs vs)(k:κ):KV (q6G kvs k) (without vs k):=by(
unfold KV at r ⊢
unfold q6G without
induction r with
|nil=>exact .nil
|@cons p q ps qs h t ih=>
 obtain⟨h1,h2⟩:=h;rw[mV,mV];by_cases e:p.1=k
 ·have a:¬decide (p.1≠k)=true:=by simp[e]
  have b:¬decide (q.1≠k)=true:=by simp[h1.symm.trans e]
  rw[hV a,hV b];exact ih
 have e':¬q.1=k:=λz=>e (h1.trans z);have a:decide (p.1≠k)=true:=by simp[e]
 have b:decide (q.1≠k)=true:=by simp[e']
 rw[kF a,kF b];exact .cons ⟨h1,h2⟩ ih)
theorem KV.keys{kvs:List (κ×V)}{vs:List (κ×Value)}(r:KV kvs vs):kvs.map (·.1)=vs.map (·.1):=by(
unfold KV at r
induction r with
|nil=>rfl
|cons h t ih=>rw[mJ,mJ,ih,h.1])
theorem KV.length{kvs:List (κ×V)}{vs:List (κ×Value)}(r:KV kvs vs):kvs.length=vs.length:=n9 r
theorem qER(kvs:List (κ×V))(k:κ):(q6G kvs k).length≤kvs.length:=mH _ _
end
theorem qAD{P:Program}{w:World}{k:Key}{u:Value}(r:RelV (kV k) u):(y8 P w).is k u=true:=by(
cases k with
|inl i=>obtain⟨t,e⟩:=(show ∃t,u=Value.int i t from r);subst e;exact qA5 P w i t
|inr x=>obtain⟨t,e⟩:=(show ∃t,u=Value.str x t from r);subst e;exact qA6 P w x t)
theorem q8H{P:Program}{w:World}:∀{ks:List Key} {us:List Value},Vals (ks.map kV) us→ItemsAre (y8 P w) ks us
| [],_,r=>by rw[a8]at r;cases r;exact .nil
|k::ks,_,r=>by
 rw[mJ]at r;cases r with
 |cons h t=>exact .cons (qAD h) (q8H t)
noncomputable abbrev KT(H:Hp):List (List Key×V)→List (List Key×Addr×Value)→Prop:=Paired λp q=>p.1=q.1∧H q.2.1=some (.tup (p.1.map kV))∧RelV p.2 q.2.2
theorem KT.val{H:Hp}{kvs:List (List Key×V)}{xs:List (List Key×Addr×Value)}(r:KT H kvs xs)(k:List Key):RelO (valV kvs k) ((atKey xs k).map (·.2)):=by(
induction r with
|nil=>exact True.intro
|@cons p q ps qs h t ih=>
 obtain⟨h1,_,h2⟩:=h;by_cases e:p.1=k
 ·have e':q.1=k:=h1.symm.trans e;have b:atKey (q::qs) k=some q.2:=by simp[atKey,dD,e']
  rw[q42 e,b];exact h2
 have e':¬q.1=k:=λz=>e (h1.trans z);have b:atKey (q::qs) k=atKey qs k:=by simp[atKey,dD,e']
 rw[q20 e,b];exact ih)
theorem KT.repl{H:Hp}{kvs:List (List Key×V)}{xs:List (List Key×Addr×Value)}(r:KT H kvs xs)(k:List Key){y:V}{u:Value}(ry:RelV y u):
 KT H (kvs.map λkv=>if kv.1=k then(kv.1,y)else kv) (xs.map (putAt k u)):=by(
induction r with
|nil=>exact .nil
|@cons p q ps qs h t ih=>
 rw[mJ,mJ];refine .cons ?_ ih;obtain⟨h1,h2,h3⟩:=h;unfold putAt;by_cases e:p.1=k
 ·rw[kF e,kF (h1.symm.trans e)];exact⟨h1,h2,ry⟩
 rw[hV e,hV (λz=>e (h1.trans z))];exact⟨h1,h2,h3⟩)
theorem KT.put{H:Hp}{kvs:List (List Key×V)}{xs:List (List Key×Addr×Value)}(r:KT H kvs xs)(k:List Key){b:Addr}{y:V}{u:Value}(hb:H b=some (.tup (k.map kV)))(ry:RelV y u):
 KT H (putK kvs k y) (storedH xs k b u):=by(
have e:(kvs.any λkv=>decide (kv.1=k))=(atKey xs k).isSome:=by rw[qAC,(r.val k).isSome_eq,lZ]
unfold putK storedH
rw[e]
by_cases q:(atKey xs k).isSome=true
·rw[kF q,kF q];exact r.repl k ry
rw[hV q,hV q];exact Paired.snoc r ⟨rfl,hb,ry⟩)
theorem KT.keeps{H H':Hp}{kvs:List (List Key×V)}{xs:List (List Key×Addr×Value)}(r:KT H kvs xs)(ht:∀b ys,H b=some (.tup ys)→H' b=some (.tup ys)):KT H' kvs xs:=Paired.mapP r λ_ _ z=>⟨z.1,ht _ _ z.2.1,z.2.2⟩
section
variable{P:Program}{w:World}{H:Hp}{h:Heap}{a:Addr}
theorem qIJ{u:HO}(ok:HOk P w H h)(e:Rd H a u):jK P w H h a u:=e.ok ok
theorem qAE{kvs:List (Key×V)}(ok:HOk P w H h)(e:Rd H a (.dK kvs)):kvs.length≤sizeLine∧(a==sysModules)=false∧∃vs,KV kvs vs∧h.DictOf (y8 P w) a vs:=show jK P w H h a (.dK kvs)from qIJ ok e
theorem qAF{kvs:List (Key×V)}(ok:HOk P w H h)(e:H a=some (.dK kvs)):kvs.length≤sizeLine∧(a==sysModules)=false∧∃vs,KV kvs vs∧h.DictOf (y8 P w) a vs:=qAE ok (.inl e)
theorem q95{ks:List Key}(ok:HOk P w H h)(e:H a=some (.tup (ks.map kV))):(tupleKind (y8 P w)).is h ks a:=by obtain⟨_,its,r,o,h1,h2,n,h3⟩:=(show jK P w H h a (.tup (ks.map kV))from ok a _ e);exact⟨o,its.toArray,n,h1,h2,h3,by simpa using q8H r⟩
theorem qAG{kvs:List (List Key×V)}(ok:HOk P w H h)(e:Rd H a (.dT kvs)):kvs.length≤sizeLine∧(a==sysModules)=false∧∃xs,KT H kvs xs∧h.DictOfH (tupleKind (y8 P w)) a xs:=by(
obtain⟨z,y,xs,r,o,es,ep,h1,h2,h3,h4,h5⟩:=(show jK P w H h a (.dT kvs)from qIJ ok e)
refine⟨z,y,xs,r,o,es,ep,h1,h2,h3,h4,λx hx=>?_,h5⟩
have all:∀{l:List (List Key×V)} {m:List (List Key×Addr×Value)},KT H l m→∀x∈m,(tupleKind (y8 P w)).is h x.1 x.2.1:=by
 intro l m q;induction q with
 |nil=>intro x hx;exact nomatch hx
 |@cons p q ps qs hq t ih=>
  intro x hx;rcases kJ.mp hx with e|hx
  ·subst e;exact q95 ok (by rw[←hq.1];exact hq.2.1)
  exact ih x hx
exact all r x hx)
theorem qLA{kvs:List (List Key×V)}(ok:HOk P w H h)(e:H a=some (.dT kvs)):kvs.length≤sizeLine∧(a==sysModules)=false∧∃xs,KT H kvs xs∧h.DictOfH (tupleKind (y8 P w)) a xs:=qAG ok (.inl e)
end
noncomputable def DGet(H:Hp)(a:Addr)(y:V)(r:Option V):Prop:=(∃kvs k,Rd H a (.dK kvs)∧y=kV k∧r=valV kvs k)∨∃kvs k b,Rd H a (.dT kvs)∧y=.ref b∧H b=some (.tup (k.map kV))∧r=valV kvs k
noncomputable def DPut(H:Hp)(a:Addr)(y v:V)(H':Hp):Prop:=(∃kvs k,H a=some (.dK kvs)∧y=kV k∧kvs.length<sizeLine∧H'=upd H a (.dK (putK kvs k v)))∨∃kvs k b,H a=some (.dT kvs)∧y=.ref b∧H b=some (.tup (k.map kV))∧kvs.length<sizeLine∧H'=upd H a (.dT (putK kvs k v))
theorem DGet.k{H:Hp}{a:Addr}{kvs:List (Key×V)}{k:Key}(e:H a=some (.dK kvs)):DGet H a (kV k) (valV kvs k):=.inl ⟨kvs,k,.inl e,rfl,rfl⟩
section
variable{X:Cx}{pins:List (Addr×Obj)}{σ:St}{H:Hp}{s:Shared}{a:Addr}{y v:V}{u r:Value}{o:Option V}{A:Around}{E:Value→Shared→Prop}
theorem Inv.big(I:Inv X pins σ H s):sysModules<s.heap.objs.size:=by have h:mainGlobals<s.heap.objs.size:=(I.mod.glob.keeps I.bk).lt;exact Nat.lt_trans (by decide) h
theorem qDP{Q:Value→Shared→Prop}(hu:A.units+1<cLine)(I:Inv X pins σ H s)(g:DGet H a y (some v))(ry:RelV y u)(h:∀w' s',Inv X pins σ H s'→RelV v w'→Q w' s'):
 wpAny (model X.prog X.w) A (getItem (.ref a) u) Q E s:=by(
rcases g with⟨kvs,k,e,ey,l⟩|⟨kvs,k,b,e,ey,eb,l⟩
·subst ey;obtain⟨z,hd,vs,rel,dd⟩:=qAE I.hok e;obtain⟨w',hw,rw'⟩:=RelO.some_of (v:=v) (o:=valueAt vs k) (by rw[l];exact rel.val k);exact wpAny_getItem_of (qAD ry) dd.mapOf hw (h w' _ (I.tok _) rw')
subst ey
cases(show u=Value.ref b from ry)
obtain⟨z,hd,xs,rel,dd⟩:=qAG I.hok e
obtain⟨w',hw,rw'⟩:=RelO.some_of (v:=v) (o:=(atKey xs k).map (·.2)) (by rw[l];exact rel.val k)
obtain⟨p,hp,hp2⟩:=m9.mp hw
refine wpAny_getItem_heap (pG hu) (q95 I.hok eb) dd hp ?_
rw[hp2]
exact h w' _ (I.tok _) rw')
theorem d_in{Q:Value→Shared→Prop}(hu:A.units+1<cLine)(I:Inv X pins σ H s)(g:DGet H a y o)(ry:RelV y u)(h:∀s',Inv X pins σ H s'→Q (.bool o.isSome) s'):
 wpAny (model X.prog X.w) A (compareOp .In u (.ref a)) Q E s:=by(
rcases g with⟨kvs,k,e,ey,l⟩|⟨kvs,k,b,e,ey,eb,l⟩
·subst ey;obtain⟨z,hd,vs,rel,dd⟩:=qAE I.hok e;refine wpAny_in_of (qAD ry) hd dd.mapOf ?_;rw[←(rel.val k).isSome_eq,←l];exact h _ (I.tok _)
subst ey
cases(show u=Value.ref b from ry)
obtain⟨z,hd,xs,rel,dd⟩:=qAG I.hok e
refine wpAny_in_heap (pG hu) (q95 I.hok eb) hd dd ?_
have q:=(rel.val k).isSome_eq
rw[lZ]at q
rw[←q,←l]
exact h _ (I.tok _))
theorem q96{h':Heap}{t':Nat}{ob:HO}(I:Inv X pins σ H s)(mu:Mut (H a))(hs:Heap.SameBut a s.heap h')(he:∃q,h'.get? a=some q)(new:jK X.prog X.w (upd H a ob) h' a ob):
 Inv X pins σ (upd H a ob) { s with heap:=h',toks:=t' }:=I.write (x:=a) (e:=a) mu (.inl rfl) (λb q hb z=>(hs.2 b hb).trans z) he new
theorem qES{P:Program}{w:World}{H':Hp}{h':Heap}{kvs:List (Key×V)}{vs:List (Key×Value)}(z:kvs.length≤sizeLine)(hd:(a==sysModules)=false)(rel:KV kvs vs)(dd:h'.DictOf (y8 P w) a vs):
 jK P w H' h' a (.dK kvs):=⟨z,hd,vs,rel,dd⟩
theorem qDQ{H':Hp}{Q:Unit→Shared→Prop}(hu:A.units+1<cLine)(I:Inv X pins σ H s)(g:DPut H a y v H')(ry:RelV y u)(rv:RelV v r)(h:∀s',Inv X pins σ H' s'→Q () s'):
 wpAny (model X.prog X.w) A (setItem (.ref a) u r) Q E s:=by(
rcases g with⟨kvs,k,e,ey,l,eH⟩|⟨kvs,k,b,e,ey,eb,l,eH⟩
·subst ey eH;obtain⟨z,hd,vs,rel,dd⟩:=qAF I.hok e;have hz:vs.length≤sizeLine:=by rw[←rel.length];exact z
 have hl:(putK kvs k v).length≤sizeLine:=by have:=q5D kvs k v;lia
 refine wpAny_setItem_pairs (hsz:=hz) (qAD ry) dd λh' dd' hs=>h _ ?_;have he:∃q,h'.get? a=some q:=let⟨q,_,_,hq,_⟩:=dd';⟨q,hq⟩
 exact q96 I (by rw[e];exact True.intro) hs he (qES hl hd (rel.put k rv) dd')
subst ey eH
cases(show u=Value.ref b from ry)
obtain⟨z,hd,xs,rel,dd⟩:=qLA I.hok e
have hz:xs.length≤sizeLine:=by rw[←n9 rel];exact z
have hl:(putK kvs k v).length≤sizeLine:=by have:=q5D kvs k v;lia
refine wpAny_setItem_heap (hsz:=hz) (pG hu) (q95 I.hok eb) dd λh' dd' hs=>h _ ?_
obtain⟨q,es,ep,hq,h2,h3,h4,_,h5⟩:=dd'
refine q96 I (by rw[e];exact True.intro) hs ⟨q,hq⟩ ⟨hl,hd,_,(rel.put k eb rv).keeps λc ys ec=>?_,q,es,ep,hq,h2,h3,h4,h5⟩
rw[qC (jH ec e (λz=>nomatch z))]
exact ec)
end
section
variable{X:Cx}{pins:List (Addr×Obj)}{σ:St}{H:Hp}{s:Shared}{a:Addr}{kvs:List (Key×V)}{k:Key}{u:Value}{A:Around}{E:Value→Shared→Prop}
theorem qLB{v:V}{more:List Value}{Q:Value→Shared→Prop}(I:Inv X pins σ H s)(e:H a=some (.dK kvs))(ry:RelV (kV k) u)(l:valV kvs k=some v)(hm:more=[]∨∃x,more=[x])
 (h:∀w' s',Inv X pins σ (upd H a (.dK (q6G kvs k))) s'→RelV v w'→Q w' s'):wpAny (model X.prog X.w) A (call (.builtin "dict.pop") (.ref a::u::more)) Q E s:=by(
obtain⟨z,hd,vs,rel,dd⟩:=qAF I.hok e
obtain⟨w',hw,rw'⟩:=RelO.some_of (v:=v) (o:=valueAt vs k) (by rw[←l];exact rel.val k)
have hp:(keyPart u).isSome=true:=by
 cases k with
 |inl i=>obtain⟨t,q⟩:=(show ∃t,u=Value.int i t from ry);subst q;rfl
 |inr x=>obtain⟨t,q⟩:=(show ∃t,u=Value.str x t from ry);subst q;rfl
have ha:argsOk "dict.pop" ⟨.ref a::u::more,[]⟩:=by
 rcases hm with q|⟨x,q⟩
 ·subst q;exact PySem.F.args_dict_pop_2 _ _
 subst q;exact PySem.F.args_dict_pop_3 _ _ _
refine call_meetsIn sV dd.typeIs PySem.F.entry_dict_pop ha (meets_dict_pop_there (y8 X.prog X.w) a (qAD ry) more hm hp)
 ⟨vs,w',dd,by rw[←rel.length];exact z,hw,λh' dd' hs=>h w' _ ?_ rw'⟩
have he:∃q,h'.get? a=some q:=let⟨q,_,_,hq,_⟩:=dd';⟨q,hq⟩
exact q96 I (by rw[e];exact True.intro) hs he (qES (k8 (qER kvs k) z) hd (rel.drop k) dd'))
end
noncomputable def NoSl(i:Expr):Prop:=∀ov iv,subscripted i false ov iv=operate [ov,iv] (getItem ov iv)
theorem qGW{prog:Program}{w:World}{A:Around}{E:Value→Shared→Prop}{s:Shared}{env:Env}{value slice:Expr}{pos:Pos}{T id:String}{Q:Value→Shared→Prop}
 (hl:typeLookup (.type T) "__getitem__"=pure (some (.builtin id))) (hs:NoSl slice)
 (h:wpAny (model prog w) A (eval value env) (λo s₁=>wpAny (model prog w) A (eval slice env) (λi s₂=>s₂.TypeIs o T∧wpAny (model prog w) A (getItem o i) Q E s₂) E s₁) E s):
 wpAny (model prog w) A (eval (.Subscript value slice pos) env) Q E s:=by(
refine aJ (gR h (λo s₁ h₁=>gR h₁ (λi s₂ h₂=>?_) λ_ _ x=>x) λ_ _ x=>x)
obtain⟨hT,h₂⟩:=h₂
unfold subscriptTail
refine hI ?_
rw[getitemInPython_of_ne hT.not_modules]
refine hI (wpAny_specialOf hT hl ?_)
have fin:wpAny (model prog w) A (subscripted slice false o i) (λr s₃=>wpAny (model prog w) A (letTemporaryGo value o r >>= λ_=>pure r) Q E s₃) E s₂:=by rw[hs o i];exact wpAny_operating (gR h₂ (λr s₃ h₃=>hI (wpAny_letTemporaryGo (kX h₃))) λ_ _ x=>x)
first
 |exact kX (hI fin)
 |exact hI (kX (hI fin))
 |exact hI fin)
theorem qAH{X:Cx}{pins:List (Addr×Obj)}{σ:St}{H:Hp}{s:Shared}{a:Addr}{y:V}{o:Option V}(I:Inv X pins σ H s)(g:DGet H a y o):s.TypeIs (.ref a) "dict":=by(
rcases g with⟨kvs,k,e,_,_⟩|⟨kvs,k,b,e,_,_,_⟩
·obtain⟨_,_,vs,_,dd⟩:=qAE I.hok e;exact dd.typeIs
obtain⟨_,_,xs,_,dd⟩:=qAG I.hok e
exact dd.typeIs)
noncomputable def qLC(td ty:TE):TE:=λσ H Q=>td σ H λx H1=>ty σ H1 λy H2=>∃a v,x=.ref a∧DGet H2 a y (some v)∧Q v H2
noncomputable def tDIn(ty td:TE):TE:=λσ H Q=>ty σ H λy H1=>td σ H1 λx H2=>∃a o,x=.ref a∧DGet H2 a y o∧Q (.bl o.isSome) H2
noncomputable def qLD(td ty tv:TE):TS:=λD σ H=>tv σ H λv H1=>td σ H1 λx H2=>ty σ H2 λy H3=>∃a H4,x=.ref a∧DPut H3 a y v H4∧D.nx σ H4
section
variable{X:Cx}{o i e value:Expr}{pos pos' tpos:Pos}{td ty tv:TE}
theorem qGX(hu:X.A.units+1<cLine)(ho:PE X o td)(hi:PE X i ty)(hs:NoSl i):PE X (.Subscript o i pos) (qLC td ty):=by(
intro pins s σ H Q I h
refine qGW PySem.F.slot_dict_getitem.lookup hs (thn (ho pins s σ H _ I h) λu s1 ⟨x,H1,I1,rx,q1⟩=>thn (hi pins s1 σ H1 _ I1 q1) λiv s2 hZ=>?_)
obtain⟨y,H2,I2,ry,a,v,ex,g,q2⟩:=hZ
subst ex
obtain rfl:u=Value.ref a:=rx
exact⟨qAH I2 g,qDP hu I2 g ry λw' s3 I3 rw'=>⟨v,H2,I3,rw',q2⟩⟩)
theorem qET(hu:X.A.units+1<cLine)(hi:PE X i ty)(ho:PE X o td):PC X .In i o (tDIn ty td):=by(
intro pins s σ H Q I h
refine thn (hi pins s σ H _ I h) λiv s1 ⟨y,H1,I1,ry,q1⟩=>thn (ho pins s1 σ H1 _ I1 q1) λu s2 hZ=>?_
obtain⟨x,H2,I2,rx,a,ov,ex,g,q2⟩:=hZ
subst ex
obtain rfl:u=Value.ref a:=rx
exact d_in hu I2 g ry λs3 I3=>⟨.bl ov.isSome,H2,I3,rfl,q2⟩)
theorem qGY(hu:X.A.units+1<cLine)(ho:PE X o td)(hi:PE X i ty)(hv:PE X value tv)(hs:swapsWith value (some (.Subscript o i pos')) pos.line X.env=pure false):
 PS X (.Assign [.Subscript o i pos'] value pos) (qLD td ty tv):=by(
intro pins s σ H D I h
refine wpAny_Assign_Subscript (thn (hv pins s σ H _ I h) λr s1 ⟨v,H1,I1,rv,q1⟩=>thn (ho pins s1 σ H1 _ I1 q1) λu s2 ⟨x,H2,I2,rx,q2⟩=>thn (hi pins s2 σ H2 _ I2 q2) λiv s3 hZ=>?_) hs
obtain⟨y,H3,I3,ry,a,H4,ex,g,q3⟩:=hZ
subst ex
obtain rfl:u=Value.ref a:=rx
exact qDQ hu I3 g ry rv λs4 I4=>⟨σ,H4,I4,q3⟩)
end
theorem qEU{P:Program}{w:World}{H:Hp}(h:Heap)(hb:sysModules<h.objs.size):jK P w H (h.push { cls:=.type "dict",data:=.dict #[] }) h.objs.size (.dK []):=⟨mL _,dR.mpr (rQ (mP hb)),[],.nil,Heap.DictOf.new h⟩
noncomputable def qJB:TE:=λ_ H Q=>∀p,H p=none→Q (.ref p) (upd H p (.dK []))
section
variable{X:Cx}{pos:Pos}
theorem qAI:PE X (.Dict [] [] pos) qJB:=λpins s σ H Q I h=>wpAny_Dict_empty ⟨.ref s.heap.objs.size,_,I.laid (a:=s.heap.objs.size) (o:=.dK []) (t':=s.toks) (λ_ _ q=>kE _ q) (kN _) (qEU s.heap I.big),rfl,h _ (I.hok.fresh (kN _))⟩
end
structure M1(X:Cx)(o:Expr)(m:Str)(apos:Pos)(e:Expr)(cpos:Pos):Prop where
base:attributeBase o m X.env (eval o X.env)=eval o X.env
few:((backTo cpos (starEach [e] X.env)).all (λx=>!x.1)&&(backToKw cpos (keywordEach [] X.env)).all (λx=>x.1.isSome)
 &&decide (([e]:List Expr).length+([]:List Keyword).length+(if([]:List Keyword).isEmpty then 0 else 1)<30))=true
line:(apos.endLine==cpos.line)=true
trees:backTo cpos (starEach [e] X.env)=[(false,eval e X.env)]
noncomputable def IsD(H:Hp)(a:Addr):Prop:=(∃kvs,Rd H a (.dK kvs))∨∃kvs,Rd H a (.dT kvs)
theorem qJC{X:Cx}{pins:List (Addr×Obj)}{σ:St}{H:Hp}{s:Shared}{a:Addr}(I:Inv X pins σ H s)(d:IsD H a):
 s.TypeIs (.ref a) "dict"∧(∀b,Value.ref a=.ref b→∃ob,s.heap.get? b=some ob∧ob.dict=none)∧(a==sysModules)=false:=by(
rcases d with⟨kvs,e⟩|⟨kvs,e⟩
·obtain⟨_,hd,vs,_,dd⟩:=qAE I.hok e;refine⟨dd.typeIs,λb q=>?_,hd⟩;cases q;obtain⟨ob,_,_,h1,h2,_⟩:=dd;exact⟨ob,h1,h2.2.1⟩
obtain⟨_,hd,xs,_,dd⟩:=qAG I.hok e
refine⟨dd.typeIs,λb q=>?_,hd⟩
cases q
obtain⟨ob,_,_,h1,h2,_⟩:=dd
exact⟨ob,h1,h2.2.1⟩)
noncomputable def qJD(td ty:TE):TE:=λσ H Q=>td σ H λx H1=>∃a,x=.ref a∧IsD H1 a∧ty σ H1 λy H2=>∃kvs k v,H2 a=some (.dK kvs)∧y=kV k∧valV kvs k=some v∧Q v (upd H2 a (.dK (q6G kvs k)))
section
variable{X:Cx}{o e f:Expr}{apos cpos:Pos}{td ty tx:TE}
theorem qEV(ho:PE X o td)(he:PE X e ty)(m:M1 X o "pop" apos e cpos):PE X (.Call (.Attribute o "pop" apos) [e] [] cpos) (qJD td ty):=by(
intro pins s σ H Q I h
refine wpAny_Call_method m.base m.few m.line pX sV PySem.F.type_dict_pop (thn (ho pins s σ H _ I h) λu s1 hZ=>?_)
obtain⟨x,H1,I1,rx,a,ex,d,q1⟩:=hZ
subst ex
obtain rfl:u=Value.ref a:=rx
obtain⟨t1,t2,_⟩:=qJC I1 d
refine⟨t1,t2,?_⟩
rw[m.trees]
refine cC rfl (cR (lE (thn (he pins s1 σ H1 _ I1 q1) λiv s2 ⟨y,H2,I2,ry,kvs,k,v,ea,ey,l,q2⟩=>lU ?_)))
subst ey
exact qLB I2 ea ry l (.inl rfl) λw' s3 I3 rw'=>⟨v,_,I3,rw',q2⟩)
end
end L2
namespace Att
open PySem PySem.W PySem.Calls PyProof.Rows
theorem q5M{P:Params}{h:Heap}:∀(ns:List Int) (vs:List Value),WellAll P h vs (ns.map WData.int)→IntsAre vs ns:=by(
intro ns
induction ns with
|nil=>intro vs w;rw[a8]at w;cases w;exact .nil
|cons n ns ih=>
 intro vs w;rw[mJ]at w;cases w with
 |cons a b=>cases a;exact .cons _ _ (ih _ b))
theorem qDR{l:OpenLaw}{n:Nat}(hn:l.most=some n){P:Params}{h:Heap}{args:List WData}{vals:List Value}
 (hpre:l.row.toRowW.claim.pre args=true) (hwl:WellAll P h vals args):
 ∃a vs ns,vals=[Value.ref a]∧args=[WData.list (ns.map WData.int)]∧h.get? a=some { cls:=.type "list",data:=.seq vs.toArray }∧IntsAre vs ns∧ns.length≤n:=by(
have hsh:WShape.hasAll [] args [.list .int]=true:=(pre_splitW hpre).1
have hc:l.pre.holds [] { args:=args } =true:=(pre_splitW hpre).2
obtain⟨d,r,rfl,h1,h2⟩:=hasAllW_cons hsh
obtain rfl:=hasAllW_nil h2
obtain⟨xs,rfl,h3⟩:=hasW_list h1
obtain⟨ns,rfl⟩:=items_int h3
have hlen:ns.length≤n:=by
 unfold OpenLaw.pre at hc;have h4:(WTm.not (.lt (.lit (.int (n:Int))) (.len (.arg 0)))).holds [] { args:=[.list (ns.map .int)] } =true:=by have h4:=(holds_andW hc).1;rw[hn]at h4;exact h4
 have h5:=condW_of h4 (w_not (w_lt w_lit (w_len_list (w_arg rfl))));rw[h9]at h5;refine Nat.le_of_not_lt λq=>?_;have q':(n:Int)<((ns.length:Nat):Int):=by lia
 first
  |(rw[hG q']at h5;exact absurd h5 (by decide))
  |(simp at h5;lia)
cases hwl with
|cons w1 w2=>
 cases w2;cases w1 with
 |list ho hall=>exact⟨_,_,ns,rfl,rfl,ho,q5M ns _ hall,hlen⟩)
theorem qDS(l:OpenLaw)(args:List WData):l.row.toRowW.claim.post args (.bool true) args=true:=postW_of (r:=l.row.toRowW) (X:=(true==true))
  (show WShape.has [] (.bool true) .bool=true by first|rfl|decide|simp[WShape.has,WShape.arms,WShape.armsAll])
  (show(WTm.eq .res (.lit (.bool true))).value [] { args:=args,res:=some (.bool true),after:=args } =some (.bool (true==true))from w_eq_bool (w_res rfl) w_lit) rfl
theorem attach_call{l:OpenLaw}{n:Nat}{q:Program}{loose:List Str}{XP:(Str→Option Value)→Heap→Prop}{YP:World→Heap→Prop}{d:DefRec}
 (hn:l.most=some n) (hdf:d.params.defaults=[])
 (call:∀(w:World) (s₀ s₁:Shared) (mg mb:Str→Option Value) (fa:Addr) (o:Obj) (pm cd doc:Value) (a:Addr) (vs:List Value) (ns:List Int),Ground q loose [] XP w s₀ mg mb s₁.heap→YP w s₁.heap→s₁.heap.get? fa=some o→o.data=.func (docDef d.name d.params d.body d.scope pm cd doc)→s₁.heap.CodeRec cd d.name→mg d.name=some (.ref fa)→s₁.heap.get? a=some { cls:=.type "list",data:=.seq vs.toArray }→IntsAre vs ns→ns.length≤n→s₁.gens=#[]→codeAny (model l.prog w) callerA (.call (.ref fa) ⟨[.ref a],[]⟩) (λr s'=>r=.ok (.ret (.bool true))∧OldK s₁.heap s'.heap∧s'.os=s₁.os∧AllBare s'.gens) s₁):
 WalkO q loose XP YP l.row.toRowW d [] (λf vs=>PySem.call f vs):=by(
intro w s₀ s₁ mg mb G Y fa o pm cd doc dV kV ho hd hcd hD hmg hg args vals as hpre hlay hrd hwl hlo
obtain rfl:dV=.none:=Dflts.none hD hdf
obtain rfl:kV=.none:=Dflts.noKw hD
obtain⟨a,vs,ns,rfl,rfl,hobj,hints,hlen⟩:=qDR hn hpre hwl
refine enter_call (wJ (call w s₀ s₁ mg mb fa o pm cd doc a vs ns G Y ho (fd_plain hd) hcd hmg hobj hints hlen hg) λr s' hq=>?_)
obtain⟨rfl,h2,h3,h4⟩:=hq
exact⟨.inl ⟨.bool true,.bool true,[],rfl,λ_=>rfl,.bool true,qDS l _,λ_=>⟨List.Pairwise.nil,λ_ hm=>(nomatch hm)⟩⟩,h2,h3,h4⟩)
end Att
namespace L2
open PySem PySem.Spec PyProof.Rows
theorem q8I:∀{vs:List Value} {ns:List Int},IntsAre vs ns→Vals (ns.map V.int) vs
|_,_,.nil=>.nil
|_,_,.cons n t h=>.cons ⟨t,rfl⟩ (q8I h)
noncomputable def qM(s:Stmt)(j:Nat):Stmt:=match s with
| .ClassDef _ _ _ body _ _ _ _ _ _ _=>body.getD j (.Pass ⟨0,0,0,0⟩)
|_=>.Pass ⟨0,0,0,0⟩
noncomputable def yE(s:Stmt):Arguments:=match s with
| .FunctionDef _ a _ _ _ _ _ _ _ _=>a
|_=>{ posonlyargs:=[],args:=[],vararg:=none,kwonlyargs:=[],kw_defaults:=[],kwarg:=none,defaults:=[] }
noncomputable def jS(s:Stmt):List Stmt:=match s with
| .FunctionDef _ _ b _ _ _ _ _ _ _=>b
|_=>[]
noncomputable def qF(s:Stmt):Scope:=match s with
| .FunctionDef _ _ _ _ _ _ sc _ _ _=>sc
|_=>{ kind:=.function,names:=[],isGenerator:=false,isCoroutine:=false }
noncomputable abbrev CX0:CXT:=λ_ _ _ _ _ _=>False
noncomputable abbrev E0:XK:=λ_ _ _=>False
theorem qK{X:Cx}:q0X CX0 X E0:=λ_ _ _ _ _ _ _ h=>h.elim
theorem q6H{A:Around}{k:Nat}(hr:Room k A):A.units+1<cLine:=d5 (Nat.add_le_add_left (by decide:1≤64) _) hr.units
section
variable{X:Cx}
theorem pv(i:Nat){x:Str}{pos:Pos}(hN:X.N[i]?=some x:=by rfl)(hv:Vis X.env.scope x:=by first|exact Or.inl rfl|exact Or.inr (Or.inl rfl)|exact Or.inr (Or.inr rfl))(hd:(x==("__debug__":Str))=false:=by decide)
 (hcd:(x==("__classdict__":Str))=false:=by decide):PE X (.Name x pos) (tVar i):=qJ0 hN hv hd hcd
end
theorem iteF{A B:Prop}(h:B):if false=true then A else B:=by rw[hV kM];exact h
theorem iteT{A B:Prop}(h:A):if true=true then A else B:=by rw[kF rfl];exact h
theorem ite2{c A B:Prop}[Decidable c](h1:c→A)(h2:¬c→B):if c then A else B:=by(
by_cases h:c
·rw[kF h];exact h1 h
rw[hV h]
exact h2 h)
noncomputable def Same(H H':Hp):Prop:=∀b o,H b=some o→H' b=some o
theorem Same.refl(H:Hp):Same H H:=λ_ _ h=>h
theorem Same.trans{H H1 H2:Hp}(a:Same H H1)(b:Same H1 H2):Same H H2:=λc o h=>b c o (a c o h)
theorem Same.free{H H':Hp}(e:Same H H'){l:Addr}(h:H' l=Option.none):H l=Option.none:=by(
cases q:H l with
|none=>rfl
|some o=>rw[e l o q]at h;cases h)
theorem Same.seq{K:PySem.W.Frag}{H H':Hp}{a:Addr}{xs:List V}(e:Same H H')(h:SqL K H a xs):SqL K H' a xs:=by(
rcases h with(h|⟨o,h⟩)|h
·exact .inl (.inl (e _ _ h))
·exact .inl (.inr ⟨o,e _ _ h⟩)
exact .inr h)
section
variable{X:Cx}
theorem q21:PGet X (rIxL X.K):=by(
intro pins s σ H o i ov iv Q I ro ri h
obtain⟨p,xs,k,z,rfl,rfl,hq,he,q⟩:=h
cases ro
obtain⟨t,rfl⟩:=ri
obtain⟨its,r,pl,hz⟩:=I.list hq
obtain⟨j,h1,h2,h3,h4,h5⟩:=q90 he
obtain⟨w,ew,rw'⟩:=r.get h2
have hl:=r.length
have hn:=q6A
have fin:EP X pins σ Q w s:=⟨z,H,I,rw',q⟩
by_cases h0:0≤k
·have hj:k.toNat=j:=by rw[nI h0 h5]at h1;exact kL h1
 exact wpAny_getItem_list pl.isList h0 (by lia) (by rw[hj];simpa using ew) fin
have hj:(k+(its.toArray.size:Int)).toNat=j:=by rw[sJ (by lia) h4]at h1;rw[kW,←hl];exact kL h1
exact sL pl.isList (by lia) (by rw[kW]<;>lia) (by lia) (by rw[hj];simpa using ew) fin)
end
noncomputable def isW:V→Bool
| .int _=>true
|_=>false
noncomputable def isI:V→Bool
| .int _=>true
| .bl _=>true
|_=>false
noncomputable def isB:V→Bool
| .bl _=>true
|_=>false
noncomputable def isS:V→Bool
| .str _=>true
|_=>false
inductive Knd(H:Hp):V→Prop where
|non:Knd H .non
|bl (b:Bool):Knd H (.bl b)
|int (i:Int):Knd H (.int i)
|str (x:Str):Knd H (.str x)
|lst {a:Addr} {xs:List V} (e:H a=some (.lst xs)):Knd H (.ref a)
|tup {a:Addr} {xs:List V} (e:H a=some (.tup xs)):Knd H (.ref a)
section
variable{K:PySem.W.Frag}{H:Hp}{x:V}
theorem qJE:PySem.W.kitOne K (.type "NoneType") (.type "int")=some false:=by kernel_rfl
theorem qJF:PySem.W.kitOne K (.type "bool") (.type "int")=some true:=by kernel_rfl
theorem qJG:PySem.W.kitOne K (.type "int") (.type "int")=some true:=by kernel_rfl
theorem qJH:PySem.W.kitOne K (.type "str") (.type "int")=some false:=by kernel_rfl
theorem qJI:PySem.W.kitOne K (.type "list") (.type "int")=some false:=by kernel_rfl
theorem qJJ:PySem.W.kitOne K (.type "tuple") (.type "int")=some false:=by kernel_rfl
theorem qJK:PySem.W.kitOne K (.type "NoneType") (.type "bool")=some false:=by kernel_rfl
theorem qJL:PySem.W.kitOne K (.type "bool") (.type "bool")=some true:=by kernel_rfl
theorem qJM:PySem.W.kitOne K (.type "int") (.type "bool")=some false:=by kernel_rfl
theorem qJN:PySem.W.kitOne K (.type "str") (.type "bool")=some false:=by kernel_rfl
theorem qJO:PySem.W.kitOne K (.type "list") (.type "bool")=some false:=by kernel_rfl
theorem qJP:PySem.W.kitOne K (.type "tuple") (.type "bool")=some false:=by kernel_rfl
theorem qJQ:PySem.W.kitOne K (.type "NoneType") (.type "str")=some false:=by kernel_rfl
theorem qJR:PySem.W.kitOne K (.type "bool") (.type "str")=some false:=by kernel_rfl
theorem qJS:PySem.W.kitOne K (.type "int") (.type "str")=some false:=by kernel_rfl
theorem qJT:PySem.W.kitOne K (.type "str") (.type "str")=some true:=by kernel_rfl
theorem qJU:PySem.W.kitOne K (.type "list") (.type "str")=some false:=by kernel_rfl
theorem qJV:PySem.W.kitOne K (.type "tuple") (.type "str")=some false:=by kernel_rfl
theorem qEW:PySem.W.kitOne K (.type "tuple") (.type "tuple")=some true:=by kernel_rfl
theorem qJW:PySem.W.kitOne K (.type "list") (.type "list")=some true:=by kernel_rfl
theorem Knd.ty(k:Knd H x):∃t,TyOf K H x t∧PySem.W.kitOne K t (.type "int")=some (isI x)∧PySem.W.kitOne K t (.type "bool")=some (isB x)∧PySem.W.kitOne K t (.type "str")=some (isS x):=by(
cases k with
|non=>exact⟨_,.non,qJE,qJK,qJQ⟩
|bl b=>exact⟨_,.bl b,qJF,qJL,qJR⟩
|int i=>exact⟨_,.int i,qJG,qJM,qJS⟩
|str y=>exact⟨_,.str y,qJH,qJN,qJT⟩
|lst e=>exact⟨_,.lst e,qJI,qJO,qJU⟩
|tup e=>exact⟨_,.tup e,qJJ,qJP,qJV⟩)
theorem qEX(x:V):(if isI x=true then !isB x else false)=isW x:=by cases x<;>rfl
end
noncomputable def jW(ns:List Int)(k:Int):Int:=ns.getD k.toNat 0
theorem qDT{ns:List Int}{k:Int}(h0:0≤k)(h:k<ns.length):atI (ns.map V.int) k=some (.int (jW ns k)):=by(
obtain⟨j,rfl⟩:=rM h0
refine yD ?_
have hj:j<ns.length:=by lia
unfold jW
simp[hj])
theorem qBR{ns:List Int}{k:Int}(h0:0≤k)(h:¬k<ns.length):jW ns k=0:=by unfold jW;rw[kI,gM (by lia)];rfl
theorem Same.upd{H:Hp}{p:Addr}{o:HO}(h:H p=none):Same H (upd H p o):=λb u e=>by rw[qC (qH e h)];exact e
noncomputable abbrev NewO(H:Hp)(o:HO)(Q:VK):Prop:=∀p H',H p=none→Same H H'→H' p=some o→Q (.ref p) H'
theorem NewO.at{H:Hp}{o:HO}{Q:VK}(q:NewO H o Q)(p:Addr)(n:H p=none):Q (.ref p) (upd H p o):=q p _ n (Same.upd n) qI
section
variable{X:Cx}{e:Expr}{es:List Expr}{t:TA}{pos:Pos}
noncomputable def qLE(t:TA):TE:=λσ H Q=>t σ H λxs H1=>xs.length≤sizeLine∧NewO H1 (.tup xs) Q
noncomputable def qIK(t:TA):TE:=λσ H Q=>t σ H λxs H1=>xs.length≤sizeLine∧NewO H1 (.lst xs) Q
theorem uK{x1}(h:PA X es t):PE X (.Tuple es x1 pos) (qLE t):=by(
intro pins s σ H Q I hq
refine wpAny_Tuple_spliced (thn (h pos pins s σ H _ I hq) λus s1 ⟨xs,H1,I1,r,z,q⟩=>⟨by rw[←r.length];exact z,?_⟩)
have hf:H1 s1.heap.objs.size=none:=I1.hok.fresh (kN _)
refine⟨.ref s1.heap.objs.size,upd H1 s1.heap.objs.size (.tup xs),I1.laid (t':=s1.toks) (λb u e=>kE _ e) (kN _) ?_,rfl,q.at _ hf⟩
exact⟨z,us,r,⟨_,mF _ rfl,rfl,_,rfl⟩⟩)
theorem yA(h:PA X es t):PE X (.List es pos) (qIK t):=by(
intro pins s σ H Q I hq
refine wpAny_List_spliced (thn (h pos pins s σ H _ I hq) λus s1 ⟨xs,H1,I1,r,z,q⟩=>⟨by rw[←r.length];exact z,?_⟩)
have hf:H1 s1.heap.objs.size=none:=I1.hok.fresh (kN _)
refine⟨.ref s1.heap.objs.size,upd H1 s1.heap.objs.size (.lst xs),I1.laid (t':=s1.toks) (λb u e=>kE _ e) (kN _) ?_,rfl,q.at _ hf⟩
exact⟨z,us,0,r,mF _ rfl⟩)
noncomputable def qLF:R2:=λx y H Q=>∃l k v,x=.ref l∧y=.int k∧H l=some (.lst [v])∧0≤k∧k≤100000∧NewO H (.lst (List.replicate k.toNat v)) Q
theorem qAJ{α:Type}(v:α):∀k:Nat,(List.replicate k [v]).flatten=List.replicate k v
|0=>rfl
|k+1=>by rw[dA,wA,qAJ v k,dA];rfl
theorem q0Z:OpR X (binaryOp .Mult) qLF:=by(
intro pins s σ H x y v u Q I rx ry hZ
obtain⟨l,k,z,e1,e2,h1,h2,h3,q⟩:=hZ
refine qJA pins s σ H x y v u Q I rx ry ⟨l,k,[z],e1,e2,h1,by lia,by lia,?_,?_⟩
·rw[gA,mU];lia
rw[qAJ]
exact q.at)
theorem uI:q3A X (.type "list") (λxs H Q=>∃p ys,xs=[.ref p]∧(SqL X.K H p ys∨SqT X.K H p ys)∧NewO H (.lst ys) Q):=by intro pins s σ H xs us Q I r hZ;obtain⟨p,ys,e,h,q⟩:=hZ;exact q94 pins s σ H xs us Q I r ⟨p,ys,e,h,q.at⟩
end
noncomputable def qCL:Sp:=λvs H Q _=>∃x,vs=[x]∧Knd H x∧Q (.bl (isW x)) H
noncomputable def inB(x:V)(lo hi:Int):Bool:=match x with
| .int i=>decide (lo≤i)&&decide (i≤hi)
|_=>false
noncomputable def qEY:Sp:=λvs H Q _=>∃x lo hi,vs=[x,.int lo,.int hi]∧Knd H x∧Q (.bl (inB x lo hi)) H
noncomputable def qJX(K:PySem.W.Frag):Sp:=λvs H Q _=>∃a ns k,vs=[.ref a,.int k]∧SqL K H a (ns.map V.int)∧0≤k∧Q (.int (jW ns k)) H
end L2
namespace L2
open PySem
theorem lt2{vs:Array Value}{v:Value}(h:vs[2]?=some v):1<vs.size:=Nat.lt_of_succ_lt (wF.mp h).1
noncomputable def ExO(h:Heap)(e:Addr)(C:Value)(od:Option Addr)(vs:Array Value):Prop:=∃oe,h.get? e=some oe∧oe.cls=C∧oe.dict=od∧oe.data=.fields vs∧vs[2]?=some .none
noncomputable def TrO(h:Heap)(e T:Addr)(vs:Array Value)(f:Value):Prop:=vs[1]?=some (.ref T)∧T≠e∧∃oT ts,h.get? T=some oT∧oT.data=.fields ts∧ts[3]?=some f
noncomputable def Air(L:Addr)(h:Heap)(e:Addr)(C:Value)(od:Option Addr):Option Addr→Prop
|none=>∃vs,ExO h e C od vs∧vs[1]?=some .none
|some T=>∃vs f,ExO h e C od vs∧TrO h e T vs f∧(f=.none∨f=rawInt L)
noncomputable def Held(f:Value)(h:Heap)(e T:Addr)(C:Value)(od:Option Addr):Prop:=∃vs,ExO h e C od vs∧TrO h e T vs f
structure Chg(fr rs:List Addr)(h h':Heap):Prop where
keep:∀b o,b∉fr→b∉rs→h.get? b=some o→h'.get? b=some o
slot:∀b o,b∉rs→h.get? b=some o→∃sl,h'.get? b=some { o with slots:=sl }
there:∀b o,h.get? b=some o→∃o',h'.get? b=some o'
theorem Chg.refl{fr rs:List Addr}{h:Heap}:Chg fr rs h h:=⟨λ_ _ _ _ e=>e,λ_ o _ e=>⟨o.slots,e⟩,λ_ o e=>⟨o,e⟩⟩
theorem Chg.trans{fr rs:List Addr}{h h1 h2:Heap}(x:Chg fr rs h h1)(y:Chg fr rs h1 h2):Chg fr rs h h2:=⟨λb o f r e=>y.keep b o f r (x.keep b o f r e),λb o r e=>let⟨_,e1⟩:=x.slot b o r e;let⟨sl,e2⟩:=y.slot b _ r e1;⟨sl,e2⟩,λb o e=>let⟨_,e1⟩:=x.there b o e;y.there b _ e1⟩
theorem Chg.fresh{fr rs rs':List Addr}{h h1 h2:Heap}(x:Chg fr rs h h1)(y:Chg fr rs' h1 h2)(n:∀b∈rs',b∈rs∨h.get? b=none):Chg fr rs h h2:=by
 have m:∀b o,b∉rs→h.get? b=some o→b∉rs':=λb o r e z=>(n b z).elim r λq=>by rw[q]at e;cases e
 exact⟨λb o f r e=>y.keep b o f (m b o r e) (x.keep b o f r e),λb o r e=>let⟨_,e1⟩:=x.slot b o r e;let⟨sl,e2⟩:=y.slot b _ (m b o r e) e1;⟨sl,e2⟩,λb o e=>let⟨_,e1⟩:=x.there b o e;y.there b _ e1⟩
theorem Chg.slots{fr rs:List Addr}{h h':Heap}(x:Heap.SlotsOnly fr h h'):Chg fr rs h h':=⟨λb o f _ e=>(x.2.1 b f).trans e,λb o _ e=>x.2.2 b o e,λb o e=>let⟨sl,q⟩:=x.2.2 b o e;⟨_,q⟩⟩
theorem Chg.upd{fr rs:List Addr}{h:Heap}{a:Addr}{f:Obj→Obj}(ha:a∈rs)(hf:∀o,h.get? a=some o→(f o).isFreed=false):Chg fr rs h (h.update a f):=by(
have k:∀b o,b∉rs→h.get? b=some o→(h.update a f).get? b=some o:=λb o r e=>by exact(k9 h f (λ(q:a=b)=>r (q▸ha))).trans e
refine⟨λb o _ r e=>k b o r e,λb o r e=>⟨o.slots,k b o r e⟩,λb o e=>?_⟩
by_cases q:b=a
·subst q;exact⟨_,r6 f e (hf o e)⟩
exact⟨o,by rw[k9 h f (rQ q)];exact e⟩)
theorem Chg.push{fr rs:List Addr}{h:Heap}{o:Obj}:Chg fr rs h (h.push o):=⟨λb u _ _ e=>kE _ e,λb u _ e=>⟨u.slots,kE _ e⟩,λb u e=>⟨u,kE _ e⟩⟩
theorem qDU(o:Obj)(f:Array Value→Array Value):(o.mapFields f).dict=o.dict:=by obtain⟨c,d,dt,sl⟩:=o;cases dt<;>rfl
theorem ExO.set{h:Heap}{e:Addr}{C:Value}{od:Option Addr}{vs:Array Value}(x:ExO h e C od vs)(i:Nat)(v:Value)(hi:i≠2:=by decide):ExO (h.update e (Obj.mapFields (·.setIfInBounds i v))) e C od (vs.setIfInBounds i v):=by obtain⟨oe,h1,h2,h3,h4,h5⟩:=x;have hd:=wV h4 (·.setIfInBounds i v);exact⟨_,r6 _ h1 (d7 hd),(Obj.cls_mapFields _ _).trans h2,(qDU _ _).trans h3,hd,(Array.getElem?_setIfInBounds_ne hi).trans h5⟩
theorem ExO.of{h h':Heap}{e:Addr}{C:Value}{od:Option Addr}{vs:Array Value}(x:ExO h e C od vs)(k:∀o,h.get? e=some o→h'.get? e=some o):ExO h' e C od vs:=let⟨oe,h1,r⟩:=x;⟨oe,k _ h1,r⟩
section
variable{M:Model}{A:Around}{E:Value→Shared→Prop}{s:Shared}{env:Env}{outer:List Env}{L e T:Addr}{C:Value}{od:Option Addr}{base:Heap}
theorem ExO.nofr{h:Heap}{l:List Env}{vs:Array Value}(x:ExO h e C od vs)(hl:h.FunFrames base l):e∉l.filterMap (·.frame):=λhm=>by(
obtain⟨_,o,ho,hn⟩:=hl.mem hm
obtain⟨oe,h1,_,_,h4,_⟩:=x
rw[h1]at ho
cases ho
exact hn _ h4)
theorem qAK{head:Value}{hn:Bool}{vs:Array Value}{Q:Unit→Shared→Prop}(hfr:A.frames=some (env::outer))(hl:s.heap.FunFrames base (env::outer))(hf:env.frame=some L)(x:ExO s.heap e C od vs)
 (q:∀h' T,Chg ((env::outer).filterMap (·.frame)) [e] s.heap h'→Held (rawInt L) h' e T C od→s.heap.objs.size≤T→Q () { s with heap:=h' }):
 wpAny M A (do let a←frameOf env;let pl←entryPlaceOf L hn;let b←EntryCells.newEntry head a .none (rawInt L) .none pl;setField (.ref e) 1 b) Q E s:=by(
have ne:=x.nofr hl
refine hI (wpAny_frameOf_fun hfr hl hf λh1 so=>hI (wpAny_entryPlaceOf λpl hp=>?_))
unfold EntryCells.newEntry newFields
refine hI (l7 ?_ (hp.sizeOk5 _ _ _ _ _))
have x1:ExO h1 e C od vs:=x.of λo z=>(so.2.1 e ne).trans z
have x2:=x1.of (h':=h1.push _) λo z=>kE { cls:=.type "traceback",dict:=none,data:=.fields ([head,.ref L,.none,rawInt L,.none]++(if pl.isEmpty then List.replicate 6 Value.none else pl)).toArray } z
obtain⟨oe,a1,a2,a3,a4,a5⟩:=id x2
refine nJ a1 a4 (lt2 a5) ?_
have hlt:e<h1.objs.size:=let⟨_,z,_⟩:=x1;kU z
have fresh:s.heap.objs.size≤h1.objs.size:=wI so.1.symm
refine q _ h1.objs.size (((Chg.slots so).trans Chg.push).trans (Chg.upd (hX.mpr rfl) λo z=>?_)) ⟨_,x2.set 1 _,?_,dN hlt,{ cls:=.type "traceback",dict:=none,data:=.fields ([head,.ref L,.none,rawInt L,.none]++(if pl.isEmpty then List.replicate 6 Value.none else pl)).toArray },_,?_,rfl,?_⟩ fresh
·rw[a1]at z;cases z;exact d7 (wV a4 _)
·simp[lt2 a5]
·rw[k9 _ _ (mP hlt)];exact mF h1 rfl
first|(simp;done)|(rcases hp with rfl|⟨_,_,_,_,_,_,_,rfl⟩<;>simp))
theorem qCM{tr:Option Addr}{Q:Unit→Shared→Prop}(hfr:A.frames=some (env::outer))(hl:s.heap.FunFrames base (env::outer))(hf:env.frame=some L)(x:Air L s.heap e C od tr)
 (q:∀h' T,Chg ((env::outer).filterMap (·.frame)) (e::tr.toList) s.heap h'→Held (rawInt L) h' e T C od→(T∈tr∨s.heap.objs.size≤T)→Q () { s with heap:=h' }):
 wpAny M A (noteFrame (.ref e) env) Q E s:=by(
unfold noteFrame
simp only[hf]
cases tr with
|none=>obtain⟨vs,x,h1⟩:=x;obtain⟨oe,a1,a2,a3,a4,a5⟩:=id x;refine hI (pP a1 a4 h1 ?_);rw[hV (by decide)];exact qAK hfr hl hf x λh' T c hd n=>q h' T c hd (.inr n)
|some T=>
 obtain⟨vs,f,x,⟨t1,t2,oT,ts,t3,t4,t5⟩,hfl⟩:=x;obtain⟨oe,a1,a2,a3,a4,a5⟩:=id x;refine hI (pP a1 a4 t1 ?_);rw[kF (by simp)];refine hI (pP t3 t4 t5 ?_);rcases hfl with rfl|rfl
 ·rw[hV (by simp[rawInt])];refine hI (nJ t3 t4 (wF.mp t5).1 ?_);have k:∀b o,b≠T→s.heap.get? b=some o→(s.heap.update T (Obj.mapFields (·.setIfInBounds 3 Value.none))).get? b=some o:=λb o n z=>(k9 _ _ (rQ n)).trans z;have hl2:(s.heap.update T (Obj.mapFields (·.setIfInBounds 3 Value.none))).FunFrames base (env::outer):=hl.of_keeps λb o z nf=>⟨o,k b o (λw=>by subst w;rw[t3]at z;cases z;exact nf _ t4) z,rfl⟩;refine qAK (s:={ s with heap:=s.heap.update T (Obj.mapFields (·.setIfInBounds 3 Value.none)) }) hfr hl2 hf (x.of λo z=>k e o (rQ t2) z) λh' T' c hd n=>q h' T' ?_ hd ?_
  ·refine(Chg.upd (a:=T) (by simp) λo z=>?_).fresh c λb hb=>.inl ?_
   ·rw[t3]at z;cases z;exact d7 (wV t4 _)
   rw[hX.mp hb];exact kQ
  exact .inr (k8 (wI (Heap.size_after_update ..).symm) n)
 rw[kF (by simp)];exact kX (q _ T .refl ⟨vs,x,t1,t2,oT,ts,t3,t4,t5⟩ (.inl rfl)))
theorem q2X{f:Value}{fr:Option Addr}{Q:Unit→Shared→Prop}(x:Held f s.heap e T C od)
 (q:∀h',Chg [] [T] s.heap h'→Held (fr.elim .none λf=>rawInt f) h' e T C od→Q () { s with heap:=h' }):wpAny M A (setFlight (.ref e) fr) Q E s:=by(
obtain⟨vs,x,t1,t2,oT,ts,t3,t4,t5⟩:=x
obtain⟨oe,a1,a2,a3,a4,a5⟩:=id x
have hz:=(wF.mp t5).1
unfold setFlight
refine hI (pP a1 a4 t1 ?_)
rw[kF (by simp)]
have hd:=wV t4 (·.setIfInBounds 3 (fr.elim .none λf=>rawInt f))
refine nJ t3 t4 hz (q _ (Chg.upd (by simp) λo z=>?_) ⟨vs,x.of λo z=>?_,t1,t2,_,_,r6 _ t3 (d7 hd),hd,by simp[hz]⟩)
·rw[t3]at z;cases z;exact d7 hd
exact(k9 _ _ t2).trans z)
theorem Held.air{f:Value}{h:Heap}(x:Held f h e T C od)(hf:f=.none∨f=rawInt L):Air L h e C od (some T):=let⟨vs,a,b⟩:=x;⟨vs,f,a,b,hf⟩
theorem qEZ{tr:Option Addr}{Q:Unit→Shared→Prop}(hfr:A.frames=some (env::outer))(hl:s.heap.FunFrames base (env::outer))(hf:env.frame=some L)(x:Air L s.heap e C od tr)
 (q:∀h' T,Chg ((env::outer).filterMap (·.frame)) (e::tr.toList) s.heap h'→Held .none h' e T C od→(T∈tr∨s.heap.objs.size≤T)→Q () { s with heap:=h' }):wpAny M A (leaving env (.ref e)) Q E s:=by(
unfold leaving
refine hI (qCM hfr hl hf x λh' T c hd n=>q2X hd λh2 c2 hd2=>q h2 T ?_ hd2 n)
refine c.fresh (rs':=[T]) ⟨λb o _ r z=>c2.keep b o (by simp) r z,c2.slot,c2.there⟩ λb hb=>?_
rw[hX.mp hb]
exact n.imp (λz=>kB _ (by cases tr with|none=>cases z|some t=>cases z;exact hX.mpr rfl)) cQ)
end
end L2
namespace L2
open PySem PySem.Spec PyProof.Rows
section
variable{P:Program}{w:World}{H:Hp}{h h':Heap}{a:Addr}{o:HO}
theorem jK.there(x:jK P w H h a o):∃ob,h.get? a=some ob:=by(
cases o with
|lst xs=>obtain⟨_,_,_,_,e⟩:=x;exact⟨_,e⟩
|tup xs=>obtain⟨_,_,_,_,e,_⟩:=x;exact⟨_,e⟩
|dK kvs=>obtain⟨_,_,_,_,o,_,_,e,_⟩:=x;exact⟨_,e⟩
|dT kvs=>obtain⟨_,_,_,_,o,_,_,e,_⟩:=x;exact⟨_,e⟩
|set S n=>obtain⟨o,_,_,_,e,_⟩:=x;exact⟨_,e⟩
|ins C dx fs=>obtain⟨_,_,_,e,_⟩:=x;exact⟨_,e⟩
|own y=>exact x
|xd fs=>obtain⟨_,⟨_,_,_,e,_⟩,_⟩:=x;exact⟨_,e⟩
|rng lo hi=>obtain⟨_,_,_,e⟩:=x;exact⟨_,e⟩
|frz ob u=>exact⟨_,x.1⟩
|tbl ps=>exact⟨_,show h.get? a=some _ from x⟩
|met f y=>exact⟨_,show h.get? a=some _ from x⟩
|ext φ=>exact x.2.1)
theorem HOk.free(x:HOk P w H h)(e:h.get? a=none):H a=none:=by(
cases q:H a with
|none=>rfl
|some o=>obtain⟨_,z⟩:=(x a o q).there;rw[e]at z;cases z)
theorem HOk.chg{fr rs:List Addr}(x:HOk P w H h)(c:Chg fr rs h h')(hf:∀b∈fr,H b=none)(hr:∀b∈rs,H b=none):HOk P w H h':=by(
intro a o e
refine(x a o e).stay (λb u hb z=>?_) (λ_ q=>q) λ_ _ q=>q
have n:H b≠none:=by
 rcases hb with rfl|q
 ·rw[e];intro y;cases y
 rw[q];intro y;cases y
exact c.keep b u (λm=>n (hf b m)) (λm=>n (hr b m)) z)
end
noncomputable def Recs(h:Heap)(rs:List Addr):Prop:=∀b∈rs,∃o vs,h.get? b=some o∧o.data=.fields vs
theorem Air.recs{L e:Addr}{h:Heap}{C:Value}{od tr:Option Addr}(x:Air L h e C od tr):Recs h (e::tr.toList):=by(
intro b hb
cases tr with
|none=>
 obtain⟨vs,⟨oe,a1,_,_,a4,_⟩,_⟩:=x;have e':b=e:=by simpa using hb
 subst e';exact⟨_,_,a1,a4⟩
|some T=>
 obtain⟨vs,f,⟨oe,a1,_,_,a4,_⟩,⟨_,_,oT,ts,t3,t4,_⟩,_⟩:=x;have e':b=e∨b=T:=by simpa using hb
 rcases e' with rfl|rfl
 ·exact⟨_,_,a1,a4⟩
 exact⟨_,_,t3,t4⟩)
noncomputable def Ours(X:Cx)(pins:List (Addr×Obj))(H:Hp)(rs:List Addr):Prop:=∀b∈rs,(X.s₀.heap.get? b=none∨b∈X.ex)∧H b=none∧∀p∈X.pn++pins,p.1≠b
section
variable{X:Cx}{pins:List (Addr×Obj)}{σ:St}{H:Hp}{s:Shared}{h':Heap}{rs:List Addr}
theorem Inv.chg{t':Nat}(I:Inv X pins σ H s)(c:Chg (frs X.stack) rs s.heap h')(o:Ours X pins H rs)(rc:Recs s.heap rs):Inv X pins σ H { s with heap:=h',toks:=t' }:=by(
obtain⟨m,hn,hv⟩:=I.loc
have nl:X.env.locals∉rs:=λz=>by obtain⟨ob,vs,e,d⟩:=rc _ z;obtain⟨o',es,ep,ho,hd,_⟩:=hn;rw[e]at ho;cases ho;rw[d]at hd;cases hd
have nc:∀c v,s.heap.IsCell c v→c∉rs:=λc v q z=>by obtain⟨ob,vs,e,d⟩:=rc _ z;obtain⟨o',ho,hd⟩:=q;rw[e]at ho;cases ho;rw[d]at hd;cases hd
have cellk:∀c v,s.heap.IsCell c v→h'.IsCell c v:=λa v q=>by have n:=nc a v q;obtain⟨o',ho,hd⟩:=q;obtain⟨sl,z⟩:=c.slot a o' n ho;exact⟨_,z,hd⟩
have old:∀b ob,X.s₀.heap.get? b=some ob→b∉X.ex→b∉rs:=λb ob q ne z=>by
 rcases(o b z).1 with y|y
 ·rw[q]at y;cases y
 exact ne y
have ns':h'.Ns X.env.locals m:=by obtain⟨o',es,ep,ho,r⟩:=hn;obtain⟨sl,z⟩:=c.slot _ o' nl ho;exact⟨_,es,ep,z,r⟩
refine⟨I.ok,I.os,I.bare,⟨λb ob q n nf ne=>?_,λb ob q n hf ne=>?_,I.base.free,λb ob q ne=>?_,I.base.tups,I.base.frzs,I.base.tbls⟩,⟨m,ns',λi x v e1 e2 e3=>?_⟩,λx a e=>?_,I.free,I.freeC,λp hp=>?_,I.hok.chg c I.stkFree λb hb=>(o b hb).2.1,I.len⟩
·refine c.keep b ob (λz=>?_) (old b ob q ne) (I.base.keep b ob q n nf ne);rcases kJ.mp (I.stkSub b z)with rfl|y
 ·exact absurd (kU q) (sN.mpr I.ok.above)
 exact nf y
·obtain⟨sl,z⟩:=I.base.slot b ob q n hf ne;obtain⟨sl',z'⟩:=c.slot b _ (old b ob q ne) z;exact⟨sl',z'⟩
·obtain⟨o',z⟩:=I.base.there b ob q ne;exact c.there b o' z
·obtain⟨u,r,lk⟩:=hv i x v e1 e2 e3;refine⟨u,r,lk.imp id λ⟨k,cc,l,q⟩=>⟨k,cc,l,cellk _ _ q⟩⟩
·obtain⟨v,q⟩:=I.cell x a e;exact⟨v,cellk _ _ q⟩
obtain⟨p1,p2,p3,p4,p5⟩:=I.pin p hp
refine⟨c.keep _ _ (λz=>?_) (λz=>(o _ z).2.2 p hp rfl) p1,p2,p3,p4,p5⟩
rcases kJ.mp (I.stkSub _ z)with y|y
·exact p3 y
exact p4 y)
end
noncomputable def CXe(P:Program)(w:World):CXT:=λouter H s E e s'=>∃ea T C od H',e=.ref ea∧s'.os=s.os∧AllBare s'.gens∧Un (frs outer) [] H H' s.heap s'.heap∧HOk P w H' s'.heap∧Held .none s'.heap ea T C od∧(s.heap.get? ea=none∧s.heap.get? T=none)∧(H' ea=none∧H' T=none)∧E C od H'
noncomputable def q3C(X:Cx)(ES:St→XK):Prop:=∀(pins:List (Addr×Obj)) (σ:St) (H:Hp) (s:Shared) (ea:Addr) (tr:Option Addr) (C:Value) (od:Option Addr),Inv X pins σ H s→Air X.env.locals s.heap ea C od tr→Ours X pins H (ea::tr.toList)→ES σ C od H→X.xe (.ref ea) s
noncomputable def qGZ(CX:CXT)(X:Cx)(ES:St→XK):Prop:=∀(pins:List (Addr×Obj)) (σ:St) (H:Hp) (s:Shared) (e:Value) (s':Shared),Inv X pins σ H s→CX X.stack H s (ES σ) e s'→X.xe e s'
theorem q3C.passes{X:Cx}{ES:St→XK}(t:q3C X ES):qGZ (CXe X.prog X.w) X ES:=by(
intro pins σ H s e s' I hZ
obtain⟨ea,T,C,od,H',e1,ho,hg,u,hok,hd,⟨f1,f2⟩,⟨g1,g2⟩,q⟩:=hZ
subst e1
refine t pins σ H' s' ea (some T) C od (I.call' ho u hok hg λb hb=>by cases hb) (hd.air (.inl rfl)) (λb hb=>?_) q
have key:∀b,s.heap.get? b=none→H' b=none→(X.s₀.heap.get? b=none∨b∈X.ex)∧H' b=none∧∀p∈X.pn++pins,p.1≠b:=λb f g=>by
 refine⟨?_,g,λp hp z=>?_⟩
 ·by_cases y:b∈X.ex
  ·exact .inr y
  refine .inl ?_;cases z:X.s₀.heap.get? b with
  |none=>rfl
  |some ob=>obtain⟨o',z'⟩:=I.base.there b ob z y;rw[f]at z';cases z'
 have y:=(I.pin p hp).1;rw[z,f]at y;cases y
have e':b=ea∨b=T:=by simpa using hb
rcases e' with rfl|rfl
·exact key _ f1 g1
exact key _ f2 g2)
theorem jL{P:Program}{w:World}{K:PySem.W.Frag}{mg:Str→Option Value}{base:Heap}{N:List Str}{qual:Str}{scope:Scope}{f:Addr}{cd:Value}{A:Around}{outer:List Env}{s:Shared}{H:Hp}{E:XK}:
 q3C (cxOf (CXe P w) P w K mg base N qual scope f cd A outer s H E) (λ_=>E):=by(
intro pins σ H' s' ea tr C od I air ours q
refine qEZ (base:=base) I.ok.frames I.stack rfl air λh' T c hd n=>?_
have I2:=I.chg (t':=s'.toks) c ours air.recs
have out:∀b,s'.heap.objs.size≤b→s.heap.get? b=none:=λb z=>by
 cases y:s.heap.get? b with
 |none=>rfl
 |some ob=>obtain⟨o',y'⟩:=I.base.there b ob y (by intro m;cases m);exact absurd (kU y') (sN.mpr z)
have own:∀b,b∈ea::tr.toList→s.heap.get? b=none∧H' b=none:=λb hb=>⟨(ours b hb).1.elim id (λz=>by cases z),(ours b hb).2.1⟩
have hT:s.heap.get? T=none∧H' T=none:=by
 rcases n with z|z
 ·exact own T (kB _ (by cases tr with|none=>cases z|some t=>cases z;exact hX.mpr rfl))
 exact⟨out T z,I.hok.fresh z⟩
exact⟨ea,T,C,od,H',rfl,I.os,I.bare,I2.base,I2.hok,hd,⟨(own ea (kQ)).1,hT.1⟩,⟨(own ea (kQ)).2,hT.2⟩,q⟩)
noncomputable def qF0(C:Addr)(m:Str)(sp:Sp)(dvs:List V)(ES:St→XK)(ta:TE)(t:TA):TE:=λσ H Q=>ta σ H λx H1=>∃a dx fs,x=.ref a∧H1 a=some (.ins C dx fs)∧fs.lookup m=none∧t σ H1 λvs H2=>sp (x::(vs++dvs)) H2 Q (ES σ)
theorem q5E{X:Cx}:q3C X (λ_ _ _ _=>False):=λ_ _ _ _ _ _ _ _ _ _ _ h=>h.elim
section
variable{X:Cx}{k:Nat}{f C:Addr}{fd:FuncData}{ps:List Str}{sp:Sp}{dvs:List V}{ds:List Value}{E:XK}{ES:St→XK}{x m:Str}{p pos apos:Pos}{e o:Expr}{es:List Expr}{ta:TE}{t:TA}
theorem qCN{pins:List (Addr×Obj)}{σ:St}{H:Hp}{s:Shared}{Q:VK}{us:List Value}{vs:List V}(F:FnOk X.prog X.w X.K X.mg X.base (CXe X.prog X.w) k f fd ps sp)(hr:Room k X.A)(hb:jQ X.K fd ps ds)(hd:Vals dvs ds)(tk:q3C X ES)
 (I:Inv X pins σ H s) (r:Vals vs us) (h:sp (vs++dvs) H Q (ES σ)):wpAny (model X.prog X.w) X.A (call (.ref f) us) (EP X pins σ Q) X.xe s:=by(
have r2:Vals (vs++dvs) (us++ds):=r.append hd
have hl:(us++ds).length=ps.length:=by rw[←r2.length];exact F.len _ _ _ _ h
refine rS (wJ (F.run X.A X.stack s H ⟨us,[]⟩ (us++ds) (vs++dvs) Q (ES σ) hr I.env0 (hb s us I.kIn hl) r2 h) λr s' hq=>?_)
cases r with
|error e=>exact tk.passes pins σ H s e s' I hq
|ok fl=>
 cases fl with
 |ret u=>exact I.after hq
 |next=>exact False.elim hq
 |brk=>exact False.elim hq
 |cont=>exact False.elim hq)
theorem yI{pl:Sem Bool}(tk:q3C X ES)(he:PE X o ta)(c:Cls X.K C)(hm:Meth X.K C m f)(F:FnOk X.prog X.w X.K X.mg X.base (CXe X.prog X.w) k f fd ps sp)(hr:Room k X.A)(hb:jQ X.K fd ps ds)(hd:Vals dvs ds)(ha:PA X (e::es) t)
 (hst:starEach (e::es) X.env=(false,eval e X.env)::starEach es X.env:=by rfl) (hpl:(backTo pos (starEach es X.env)).any (·.1)=false:=by rfl)
 (ht:eval (.Call (.Attribute o m apos) (e::es) [] pos) X.env=(do
  let ov←eval o X.env
  standAt apos.atName
  let(f,first)←holding [ov] (getMethod ov m pl)
  callWith pos f first (backTo pos (starEach (e::es) X.env)) (backToKw pos (keywordEach [] X.env))):=by rfl):
 PE X (.Call (.Attribute o m apos) (e::es) [] pos) (qF0 C m sp dvs ES ta t):=by(
intro pins s σ H Q I h
refine d6 (pl:=pl) (thn (he pins s σ H _ I h) λu s1 hZ=>?_) ht
obtain⟨x,H1,I1,rx,a,dx,fs,ex,ea,l,q⟩:=hZ
subst ex
obtain rfl:u=Value.ref a:=rx
refine q0W I1 ea c hm l ?_
refine rT (first:=[.ref a]) (h₀:=X.base) I.ok.mod.kin hm.kp (thn (ha pos pins s1 σ H1 _ I1 q) λus s2 ⟨vs,H2,I2,r,q2⟩=>⟨I2.kIn,?_⟩) hst hpl
exact qCN (us:=.ref a::us) (vs:=.ref a::vs) F hr hb hd tk I2 (.cons rfl r) q2)
theorem v8{pl:Sem Bool}(tk:q3C X ES)(he:PE X o ta)(c:Cls X.K C)(hm:Meth X.K C m f)(F:FnOk X.prog X.w X.K X.mg X.base (CXe X.prog X.w) k f fd ps sp)(hr:Room k X.A)(hb:jQ X.K fd ps ds)(hd:Vals dvs ds)
 (ht:eval (.Call (.Attribute o m apos) [] [] pos) X.env=(do
  let ov←eval o X.env
  standAt apos.atName
  let(f,first)←holding [ov] (getMethod ov m pl)
  callWith pos f first (backTo pos (starEach [] X.env)) (backToKw pos (keywordEach [] X.env))):=by rfl):
 PE X (.Call (.Attribute o m apos) [] [] pos) (qF0 C m sp dvs ES ta tNil):=by(
intro pins s σ H Q I h
refine d6 (pl:=pl) (thn (he pins s σ H _ I h) λu s1 hZ=>?_) ht
obtain⟨x,H1,I1,rx,a,dx,fs,ex,ea,l,q⟩:=hZ
subst ex
obtain rfl:u=Value.ref a:=rx
refine q0W I1 ea c hm l ?_
exact cZ (first:=[.ref a]) I1.kIn hm.kp (qCN (us:=[.ref a]) (vs:=[.ref a]) F hr hb hd tk I1 (.cons rfl .nil) q))
end
structure FunD(K:PySem.W.Frag)(x qual:Str)(st:Stmt)(dV:Value)(f:Addr)(fd:FuncData):Prop where
ex:∃(oc:Value) (od:Option Addr) (kV doc pm:Value) (an:Option Addr) (cdv ct:Value) (osl:Array (Option Value)),fd=PySem.W.fnOf x qual (yE st) (jS st) (qF st) dV kV doc pm an cdv ct∧K.lookup f=some ⟨oc,od,.func fd,osl⟩∧PySem.W.codeIn K cdv qual=true
section
variable{P:Program}{w:World}{K:PySem.W.Frag}{mg:Str→Option Value}{base:Heap}{dV:Value}
theorem FunD.mk'{x qual:Str}{st:Stmt}{f:Addr}{oc:Value}{od an:Option Addr}{osl:Array (Option Value)}{kV doc pm cdv ct:Value}(l:K.lookup f=some ⟨oc,od,.func (PySem.W.fnOf x qual (yE st) (jS st) (qF st) dV kV doc pm an cdv ct),osl⟩)
 (c:PySem.W.codeIn K cdv qual=true):FunD K x qual st dV f (PySem.W.fnOf x qual (yE st) (jS st) (qF st) dV kV doc pm an cdv ct):=⟨⟨oc,od,kV,doc,pm,an,cdv,ct,osl,rfl,l,c⟩⟩
theorem FunD.okE{x qual:Str}{st:Stmt}{f:Addr}{fd:FuncData}{N ps:List Str}{k:Nat}{sp:Sp}(F:FunD K x qual st dV f fd)(S:FnScope N ps (qF st))(len:∀vs H Q E,sp vs H Q E→vs.length=ps.length)
 (hbody:∀(cdv:Value) (A:Around) (outer:List Env) (s:Shared) (H:Hp) (vs:List V) (Q:VK) (E:XK),Room k (A.deeper (envOfC qual (qF st) s.heap.objs.size f cdv))→sp vs H Q E→∃t,PSs (cxOf (CXe P w) P w K mg base N qual (qF st) f cdv A outer s H E) (jS st) t∧t { nx:=λ_ H'=>Q .non H',rt:=Q } (zA N vs) H):FnOk P w K mg base (CXe P w) (k+1) f fd ps sp:=by obtain⟨oc,od,kV,doc,pm,an,cdv,ct,osl,rfl,lk,hcd⟩:=F.ex;exact qEL lk hcd S len λA outer s H vs Q E hr hsp=>hbody cdv A outer s H vs Q E hr hsp
theorem FunD.ok0{x qual:Str}{st:Stmt}{f:Addr}{fd:FuncData}{N ps:List Str}{k:Nat}{sp:Sp}(F:FunD K x qual st dV f fd)(S:FnScope N ps (qF st))
 (hbody:∀(cdv:Value) (A:Around) (outer:List Env) (s:Shared) (H:Hp) (vs:List V) (Q:VK) (E:XK),Room k (A.deeper (envOfC qual (qF st) s.heap.objs.size f cdv))→sp vs H Q E→∃t,PSs (cxOf CX0 P w K mg base N qual (qF st) f cdv A outer s H E).nox (jS st) t∧t { nx:=λ_ H'=>Q .non H',rt:=Q } (zA N vs) H)(len:∀vs H Q E,sp vs H Q E→vs.length=ps.length:=by intro _ _ _ _ h;first|(cases h;subst_vars;rfl)|((repeat obtain⟨_,h⟩:=h);all_goals subst_vars;rfl)):FnOk P w K mg base CX0 (k+1) f fd ps sp:=by(
obtain⟨oc,od,kV,doc,pm,an,cdv,ct,osl,rfl,lk,hcd⟩:=F.ex
refine qEL lk hcd S len λA outer s H vs Q E hr hsp=>?_
obtain⟨t,h,q⟩:=hbody cdv A outer s H vs Q E hr hsp
exact⟨t,h.nox,q⟩)
end
noncomputable abbrev bmVE:List Value:=[.type "ValueError",.type "Exception",.type "BaseException",.type "object"]
noncomputable abbrev XCls(K:PySem.W.Frag)(C:Addr):Prop:=PySem.W.excIn K C bmVE "ValueError.__new__"=true
theorem qH0{K:PySem.W.Frag}{C:Addr}(q:XCls K C):∃bm N nm qn bs hd sn sub ab col dd k0 k1 k2 k3 k5,K.lookup C=some (excClassObj nm qn C N bs bm hd sn sub ab col dd k0 k1 k2 k3 k5 "ValueError.__new__")∧PySem.W.tailIn K bmVE bm=true∧PySem.W.nsOkIn K N=true∧PySem.W.nsIn K N "__init__"=some none:=by(
unfold XCls PySem.W.excIn at q
split at q
·rename_i dd cd sl ho;split at q
 ·rename_i C' bm k0 k1 k2 k3 n k5 hm hs;obtain⟨nm,bs,mro,ns,qn,hd,sn,sub,ab,col,del⟩:=cd;obtain⟨l⟩:=sl;simp only[mI,rF,g3]at q hm hs;obtain⟨⟨⟨⟨⟨e1,e2⟩,e3⟩,e4⟩,e5⟩,e6⟩:=q;subst e1 e2 e3 hm hs;exact⟨bm,ns,nm,qn,bs,hd,sn,sub,ab,col,dd,k0,k1,k2,k3,k5,ho,e4,e5,e6⟩
 cases q
cases q)
noncomputable def qJY(ES:St→XK)(C:Addr)(t:TA):TS:=λ_ σ H=>t σ H λvs H1=>vs.length≤sizeLine∧ES σ (.ref C) none H1
section
variable{X:Cx}{ES:St→XK}{C:Addr}{x:Str}{np cpos pos:Pos}{e:Expr}{es:List Expr}{t:TA}
theorem qF1{pins:List (Addr×Obj)}{σ:St}{H:Hp}{s:Shared}{h':Heap}{ea:Addr}{C:Value}{vs:List Value}(I:Inv X pins σ H s)(m:Heap.MadeExcOf s.heap h' ea C vs):
 Air X.env.locals h' ea C none none∧Ours X pins H [ea]:=by(
obtain⟨t,m1,m2,m3⟩:=m.there
refine⟨⟨_,⟨_,m1,rfl,rfl,rfl,by simp⟩,rfl⟩,λb hb=>?_⟩
rw[hX.mp hb]
refine⟨?_,I.hok.free m.new,λp hp z=>?_⟩
·by_cases y:ea∈X.ex
 ·exact .inr y
 refine .inl ?_;cases z:X.s₀.heap.get? ea with
 |none=>rfl
 |some ob=>obtain⟨o',z'⟩:=I.base.there ea ob z y;rw[m.new]at z';cases z'
have y:=(I.pin p hp).1
rw[z,m.new]at y
cases y)
theorem qAL(tk:q3C X ES)(hc:X.calm=true)(hg:Gl X x)(hm:X.mg x=some (.ref C))(hx:XCls X.K C)(ha:PA X (e::es) t)(hdb:(x==("__debug__":Str))=false:=by decide)
 (he:starEach (e::es) X.env=(false,eval e X.env)::starEach es X.env:=by rfl) (hpl:(backTo cpos (starEach es X.env)).any (·.1)=false:=by rfl):
 PS X (.Raise (some (.Call (.Name x np) (e::es) [] cpos)) none pos) (qJY ES C t):=by(
intro pins s σ H D I hq
obtain⟨bm,N,nm,qn,bs,hd,sn,sub,ab,col,dd,k0,k1,k2,k3,k5,lk,tl,ok,ni⟩:=qH0 hx
have kb:=I.mod.kin
have T0:=PySem.W.tail_of_in kb tl
have hN:X.base.Ns N (X.base.nsMap N):=.of_isNs (PySem.W.isNs_of_in kb ok)
have hni:=PySem.W.nsMap_none_of_in kb ok ni
have hplain:(backTo cpos (starEach (e::es) X.env)).any (·.1)=false:=by rw[he];show(false||(backTo cpos (starEach es X.env)).any (·.1))=false;rw[hpl];rfl
refine wpAny_Raise_call_subT (C:=C) (nm:=nm) (q:=qn) (N:=N) (bs:=bs) (bm:=bm) (hdct:=hd) (sn:=sn) (sub:=sub) (ab:=ab) (col:=col) (dd:=dd) (k0:=k0) (k1:=k1) (k2:=k2) (k3:=k3) (k5:=k5) (mN:=X.base.nsMap N)
 PySem.F.excBase_ValueError (T0.hasType (by decide)) (I.ok.hd hc) hplain hni (q2U I hg hm ⟨rfl,?_⟩ hdb)
have h0:=ha cpos pins s σ H _ I hq
rw[he]at h0 ⊢
refine PySem.Calls.evalArgs_plain (gR h0 (λus s1 h1=>?_) λ_ _ y=>y)
obtain⟨vs,H1,I1,r,hz,hE⟩:=h1
refine⟨rfl,by rw[←r.length];exact hz,I1.bk _ _ (kb _ _ lk),?_,T0.keeps I1.bk,λh' ea m=>?_⟩
·obtain⟨o',es',ep',z,rr⟩:=hN;exact⟨o',es',ep',I1.bk _ _ z,rr⟩
obtain⟨air,ours⟩:=qF1 I1 m
refine tk pins σ H1 { s1 with heap:=h' } ea none (.ref C) none (I1.kept (t':=s1.toks) m.keeps) air ours hE)
end
noncomputable abbrev Cx.tr(X:Cx)(pins:List (Addr×Obj))(XE:Value→Shared→Prop):Cx:={ X with pn:=X.pn++pins,xe:=XE }
noncomputable abbrev Cx.sui(X:Cx)(e:Addr):Cx:={ X with A:=X.A.mark (some (.ref e)),calm:=false,xe:=λ_ _=>False }
theorem Chg.mono{fr fr' rs rs':List Addr}{h h':Heap}(c:Chg fr rs h h')(f:∀b∈fr,b∈fr')(r:∀b∈rs,b∈rs'):Chg fr' rs' h h':=⟨λb o a z e=>c.keep b o (λy=>a (f b y)) (λy=>z (r b y)) e,λb o z e=>c.slot b o (λy=>z (r b y)) e,c.there⟩
theorem Held.recs{f:Value}{e T:Addr}{h:Heap}{C:Value}{od:Option Addr}(x:Held f h e T C od):Recs h [e,T]:=by(
obtain⟨vs,⟨oe,a1,_,_,a4,_⟩,_,_,oT,ts,t3,t4,_⟩:=x
intro b hb
have e':b=e∨b=T:=by simpa using hb
rcases e' with rfl|rfl
·exact⟨_,_,a1,a4⟩
exact⟨_,_,t3,t4⟩)
section
variable{X:Cx}{pins:List (Addr×Obj)}{σ:St}{H:Hp}{s:Shared}{XE:Value→Shared→Prop}
theorem Inv.tr(I:Inv X pins σ H s)(XE:Value→Shared→Prop):Inv (X.tr pins XE) [] σ H s:=have ok:=I.ok
 ⟨⟨ok.mod,ok.kind,ok.glob,ok.blt,ok.above,ok.inj,ok.has,ok.cab,ok.hd,ok.frames,ok.stk,ok.exf,ok.bs,ok.bsz,ok.noex,ok.exfs,ok.funs,ok.frf⟩,I.os,I.bare,I.base,I.loc,I.cell,I.free,I.freeC,λp hp=>I.pin p (by simpa using hp),I.hok,I.len⟩
theorem Inv.untr{ps:List (Addr×Obj)}(I:Inv (X.tr pins XE) ps σ H s):Inv X pins σ H s:=have ok:=I.ok
 ⟨⟨ok.mod,ok.kind,ok.glob,ok.blt,ok.above,ok.inj,ok.has,ok.cab,ok.hd,ok.frames,ok.stk,ok.exf,ok.bs,ok.bsz,ok.noex,ok.exfs,ok.funs,ok.frf⟩,I.os,I.bare,I.base,I.loc,I.cell,I.free,I.freeC,λp hp=>I.pin p (gI _ hp),I.hok,I.len⟩
theorem Inv.sui(I:Inv X pins σ H s)(e:Addr):Inv (X.sui e) pins σ H s:=have ok:=I.ok
 ⟨⟨ok.mod,ok.kind,ok.glob,ok.blt,ok.above,ok.inj,ok.has,ok.cab,(λz=>by cases z),ok.frames,ok.stk,ok.exf,ok.bs,ok.bsz,ok.noex,ok.exfs,ok.funs,ok.frf⟩,I.os,I.bare,I.base,I.loc,I.cell,I.free,I.freeC,I.pin,I.hok,I.len⟩
theorem Inv.unsui{e:Addr}(hc:X.calm=true→X.A.handled=none)(I:Inv (X.sui e) pins σ H s):Inv X pins σ H s:=have ok:=I.ok
 ⟨⟨ok.mod,ok.kind,ok.glob,ok.blt,ok.above,ok.inj,ok.has,ok.cab,hc,ok.frames,ok.stk,ok.exf,ok.bs,ok.bsz,ok.noex,ok.exfs,ok.funs,ok.frf⟩,I.os,I.bare,I.base,I.loc,I.cell,I.free,I.freeC,I.pin,I.hok,I.len⟩
theorem SP.untr{D:Ends}{f:Flow}{s':Shared}(h:SP (X.tr pins XE) [] D f s'):SP X pins D f s':=by(
cases f with
|next=>obtain⟨σ',H',I,q⟩:=h;exact⟨σ',H',I.untr,q⟩
|brk=>obtain⟨σ',H',I,q⟩:=h;exact⟨σ',H',I.untr,q⟩
|cont=>obtain⟨σ',H',I,q⟩:=h;exact⟨σ',H',I.untr,q⟩
|ret u=>obtain⟨v,σ',H',I,r,q⟩:=h;exact⟨v,σ',H',I.untr,r,q⟩)
theorem SP.unsui{e:Addr}{D:Ends}{f:Flow}{s':Shared}(hc:X.calm=true→X.A.handled=none)(h:SP (X.sui e) pins D f s'):SP X pins D f s':=by(
cases f with
|next=>obtain⟨σ',H',I,q⟩:=h;exact⟨σ',H',I.unsui hc,q⟩
|brk=>obtain⟨σ',H',I,q⟩:=h;exact⟨σ',H',I.unsui hc,q⟩
|cont=>obtain⟨σ',H',I,q⟩:=h;exact⟨σ',H',I.unsui hc,q⟩
|ret u=>obtain⟨v,σ',H',I,r,q⟩:=h;exact⟨v,σ',H',I.unsui hc,r,q⟩)
end
noncomputable def qLG(ea:Addr)(C:Value)(od:Option Addr):Heap→Prop:=λh=>∃o vs,h.get? ea=some o∧o.cls=C∧o.dict=od∧o.data=.fields vs
noncomputable abbrev XO(ea:Addr)(C:Value)(od:Option Addr):HO:=.ext (qLG ea C od)
noncomputable abbrev TH:=Ends→St→Hp→Addr→Value→Option Addr→Prop
noncomputable def PHs(X:Cx)(hs:List ExceptHandler)(t:TH):Prop:=∀(pins:List (Addr×Obj)) (s:Shared) (σ:St) (H:Hp) (D:Ends) (ea T:Addr) (C:Value) (od:Option Addr),Inv X pins σ H s→Held .none s.heap ea T C od→Ours X pins H [ea,T]→t D σ H ea C od→wpAny (model X.prog X.w) X.A (handleBy (.ref ea) X.env hs) (SP X pins D) X.xe s
section
variable{X:Cx}{ES:St→XK}
theorem qF2(tk:q3C X ES)(hf:X.env.frame=some X.env.locals:=by rfl):PHs X [] (λ_ σ H _ C od=>ES σ C od H):=by(
intro pins s σ H D ea T C od I hd ours q
refine wpAny_handleBy_nil ?_
unfold PySem.passOn
have rc:=hd.recs
obtain⟨vs,x,t1,t2,oT,ts,t3,t4,t5⟩:=id hd
obtain⟨oe,a1,a2,a3,a4,a5⟩:=id x
refine hI (pP a1 a4 t1 ?_)
rw[hV (by simp)]
refine hI (q2X hd λh' c hd2=>wpAny_throw ?_)
rw[hf]at hd2
exact tk pins σ H { s with heap:=h' } ea (some T) C od (I.chg (t':=s.toks) (rs:=[ea,T]) (c.mono (by simp) (by simp)) ours rc) (hd2.air (.inr rfl)) ours q)
theorem Inv.pinX{pins:List (Addr×Obj)}{σ:St}{H:Hp}{s:Shared}{ea T:Addr}{C:Value}{od:Option Addr}{f:Value}(I:Inv X pins σ H s)(hd:Held f s.heap ea T C od)(ours:Ours X pins H [ea,T]):
 ∃oe oT,Inv X (pins++[(ea,oe),(T,oT)]) σ H s∧∀h':Heap,h'.get? ea=some oe→h'.get? T=some oT→Held f h' ea T C od:=by(
have rc:=hd.recs
obtain⟨vs,⟨oe,a1,a2,a3,a4,a5⟩,t1,t2,oT,ts,t3,t4,t5⟩:=hd
refine⟨oe,oT,I.pins_of λp hp=>?_,λh' z1 z2=>⟨vs,⟨oe,z1,a2,a3,a4,a5⟩,t1,t2,oT,ts,z2,t4,t5⟩⟩
have nl:∀b o ws,s.heap.get? b=some o→o.data=.fields ws→b≠X.env.locals∧b∉X.fs:=λb o ws e d=>by
 refine⟨λz=>?_,λz=>?_⟩
 ·obtain⟨m,⟨o',es,ep,ho,hd',_⟩,_⟩:=I.loc;rw[←z,e]at ho;cases ho;rw[d]at hd';cases hd'
 obtain⟨_,o',ho,hn⟩:=I.funs.mem z;rw[e]at ho;cases ho;exact hn _ d
rcases gT.mp hp with z|z
·exact I.pin p (kZ _ z)
have z:p=(ea,oe)∨p=(T,oT):=by simpa using z
rcases z with rfl|rfl
·exact⟨a1,(ours ea (by simp)).2.1,(nl _ _ _ a1 a4).1,(nl _ _ _ a1 a4).2,λv q=>by rw[a4]at q;cases q⟩
exact⟨t3,(ours T (by simp)).2.1,(nl _ _ _ t3 t4).1,(nl _ _ _ t3 t4).2,λv q=>by rw[t4]at q;cases q⟩)
theorem qAM{ty:Expr}{c:V}{cv:Value}{pins:List (Addr×Obj)}{s:Shared}{σ:St}{H:Hp}{ea T:Addr}{C:Value}{od:Option Addr}{b:Bool}{R:Result→Shared→Prop}{pos:Pos}(hc:PE (X.sui ea) ty (tC c))(rc:RelV c cv)
 (I:Inv X pins σ H s) (hh:X.calm=true→X.A.handled=none) (hd:Held .none s.heap ea T C od) (ours:Ours X pins H [ea,T]) (hx:PySem.W.exmOne X.K C cv=some b) (q:∀s',Inv X pins σ H s'→Held .none s'.heap ea T C od→R (.ok (if b then .brk else .next)) s'):
 codeAny (model X.prog X.w) (X.A.mark (some (.ref ea))) (.handlers (.ref ea) [.ExceptHandler (some ty) none [] pos] X.env) R s:=by(
obtain⟨oe,oT,I1,back⟩:=I.pinX hd ours
refine codeAny_handlers_test (gR (hc _ s σ H (λv H'=>v=c∧H'=H) (I1.sui ea) ⟨rfl,rfl⟩) (λu s1 h1=>?_) λ_ _ z=>z.elim)
obtain⟨v,H',I2,r,e1,e2⟩:=h1
subst e1 e2
have e3:u=cv:=by
 cases v with
 |non=>exact r.trans rc.symm
 |bl b=>exact r.trans rc.symm
 |ref a=>exact r.trans rc.symm
 |ty n=>exact r.trans rc.symm
 |int i=>obtain⟨t,e⟩:=r;obtain⟨t',e'⟩:=rc;subst e';unfold PySem.W.exmOne at hx;split at hx<;>cases hx
 |str i=>obtain⟨t,e⟩:=r;obtain⟨t',e'⟩:=rc;subst e';unfold PySem.W.exmOne at hx;split at hx<;>cases hx
 |byt i=>obtain⟨t,e⟩:=r;obtain⟨t',e'⟩:=rc;subst e';unfold PySem.W.exmOne at hx;split at hx<;>cases hx
 |flt i=>obtain⟨t,e⟩:=r;obtain⟨t',e'⟩:=rc;subst e';unfold PySem.W.exmOne at hx;split at hx<;>cases hx
subst e3
have p1:=(I2.pin (ea,oe) (by simp)).1
have p2:=(I2.pin (T,oT) (by simp)).1
have hd1:=back _ p1 p2
obtain⟨vs,⟨oe',z1,z2,_⟩,_⟩:=id hd1
have LT:PySem.W.Looks (model X.prog X.w) s1.heap (typeOf (.ref ea)) C:=by rw[←z2];exact(xN z1).andThen .now
have I3:Inv X pins σ H' s1:=(Inv.unsui hh I2).unpinned
exact(PySem.W.exm_one I2.kIn LT hx).here (q s1 I3 hd1))
theorem qCO{ty:Expr}{c:V}{cv:Value}{b₀:Stmt}{suite:List Stmt}{pos:Pos}{rest:List ExceptHandler}{ts:TS}{tr:TH}(hc:∀ea,PE (X.sui ea) ty (tC c))(rc:RelV c cv)(hs:∀ea,PSs (X.sui ea) (b₀::suite) ts)(hr:PHs X rest tr):
 PHs X (.ExceptHandler (some ty) none (b₀::suite) pos::rest) (λD σ H ea C od=>∃b,PySem.W.exmOne X.K C cv=some b∧if b=true then ts D σ H else tr D σ H ea C od):=by(
intro pins s σ H D ea T C od I hd ours hZ
obtain⟨b,hx,q⟩:=hZ
refine wpAny_handleBy_cons (qAM (hc ea) rc I I.ok.hd hd ours hx λs' I' hd'=>?_) (by intro z;cases z)
cases b with
|false=>rw[hV (by simp)]at q;exact hr pins s' σ H D ea T C od I' hd' ours q
|true=>rw[kF rfl]at q;refine codeAny_handlers_suite (q2X hd' λh' c hd2=>?_);have I2:=I'.chg (t':=s'.toks) (rs:=[ea,T]) (c.mono (by simp) (by simp)) ours hd'.recs;exact gR (hs ea pins { s' with heap:=h' } σ H D (I2.sui ea) q) (λf s2 z=>z.unsui I.ok.hd) λ_ _ z=>z.elim)
noncomputable def tTry(tb:(St→XK)→TS)(th:TH):TS:=λD σ H=>tb (λσ' C od H'=>∀ea,H' ea=none→th D σ' H' ea C od) D σ H
theorem qF3{body:List Stmt}{h₀:ExceptHandler}{hs:List ExceptHandler}{pos:Pos}{tb:(St→XK)→TS}{th:TH}
 (hb:∀(pins:List (Addr×Obj)) (XE:Value→Shared→Prop) (ES:St→XK),q3C (X.tr pins XE) ES→PassesOwn (model X.prog X.w) X.A X.env XE→PSs (X.tr pins XE) body (tb ES)) (hh:PHs X (h₀::hs) th)
 (hfs:∃fr,X.stack=X.env::fr:=by exact⟨_,rfl⟩) (hf:X.env.frame=some X.env.locals:=by rfl):PS X (.Try body (h₀::hs) [] [] pos) (tTry tb th):=by(
intro pins s σ H D I q
refine wpAny_Try_except (gR (hb pins (λe s1=>wpAny (model X.prog X.w) X.A (noteFrame e X.env) (λ_ s2=>wpAny (model X.prog X.w) X.A (setFlight e none) (λ_ s3=>wpAny (model X.prog X.w) X.A (handleBy e X.env (h₀::hs)) (SP X pins D) X.xe s3) X.xe s2) X.xe s1)
 (λσ' C od H'=>∀ea,H' ea=none→th D σ' H' ea C od) ?_ PassesOwn.looking [] s σ H D (I.tr _) q) (λf s1 z=>?_) λe s1 z=>z)
·intro pins' σ' H' s' ea tr C od I' air ours y;obtain⟨fr,ek⟩:=hfs;have frames:X.A.frames=some (X.env::fr):=by rw[I.ok.frames,ek]
 have ff:s'.heap.FunFrames X.base (X.env::fr):=by rw[←ek];exact I'.stack
 refine qCM frames ff hf air λh' T c hd n=>?_;have en:frs X.stack=(X.env::fr).filterMap (·.frame):=by rw[ek];rfl
 have I2:Inv (X.tr pins _) pins' σ' H' { s' with heap:=h' }:=I'.chg (t':=s'.toks) (by show Chg (frs X.stack) _ _ _;rw[en];exact c) ours air.recs;have oT:Ours (X.tr pins λe s1=>wpAny (model X.prog X.w) X.A (noteFrame e X.env) (λ_ s2=>wpAny (model X.prog X.w) X.A (setFlight e none) (λ_ s3=>wpAny (model X.prog X.w) X.A (handleBy e X.env (h₀::hs)) (SP X pins D) X.xe s3) X.xe s2) X.xe s1) pins' H' [ea,T]:=by
  intro b hb;have hb:b=ea∨b=T:=by simpa using hb
  rcases hb with rfl|rfl
  ·exact ours b (by simp)
  rcases n with z|z
  ·exact ours b (kB _ (by cases tr with|none=>cases z|some t=>cases z;exact hX.mpr rfl))
  refine⟨?_,I'.hok.fresh z,λp hp w=>?_⟩
  ·by_cases y:b∈X.ex
   ·exact .inr y
   refine .inl ?_;cases w:X.s₀.heap.get? b with
   |none=>rfl
   |some ob=>obtain⟨o',w'⟩:=I'.base.there b ob w y;exact absurd (kU w') (sN.mpr z)
  have w':=(I'.pin p hp).1;rw[w]at w';exact absurd (kU w') (sN.mpr z)
 refine q2X hd λh2 c2 hd2=>?_;have I3:=I2.chg (t':=s'.toks) (rs:=[ea,T]) (c2.mono (by simp) (by simp)) oT hd.recs;exact hh pins _ σ' H' D ea T C od I3.untr hd2 (λb hb=>⟨(oT b hb).1,(oT b hb).2.1,λp hp=>(oT b hb).2.2 p (gI _ hp)⟩) (y ea (ours ea (by simp)).2.1)
have z:=z.untr
cases f with
|next=>obtain⟨σ',H',I',y⟩:=z;exact qR pins s1 σ' H' D I' y
|_=>exact z)
end
noncomputable def NewX(ea:Addr)(C:Value)(od:Option Addr):Heap→Prop:=λh=>∃vs sl,h.get? ea=some ⟨C,od,.fields vs,sl⟩∧vs[2]?=some .none∧vs[1]?=some .none
noncomputable abbrev XN(ea:Addr)(C:Value)(od:Option Addr):HO:=.ext (NewX ea C od)
noncomputable def del(H:Hp)(a:Addr):Hp:=λb=>if b=a then none else H b
theorem vR{H:Hp}{a b:Addr}(h:b≠a):del H a b=H b:=hV h
theorem q43{H:Hp}{a:Addr}:del H a a=none:=kF rfl
noncomputable def qIL(X:Cx)(pins:List (Addr×Obj))(a:Addr):Prop:=(X.s₀.heap.get? a=none∨a∈X.ex)∧∀p∈X.pn++pins,p.1≠a
section
variable{X:Cx}{pins:List (Addr×Obj)}{σ:St}{H:Hp}{s:Shared}{a:Addr}
theorem Inv.young(I:Inv X pins σ H s)(e:s.heap.get? a=none):qIL X pins a:=by(
refine⟨?_,λp hp z=>?_⟩
·by_cases y:a∈X.ex
 ·exact .inr y
 refine .inl ?_;cases z:X.s₀.heap.get? a with
 |none=>rfl
 |some ob=>obtain⟨o',z'⟩:=I.base.there a ob z y;rw[e]at z';cases z'
have y:=(I.pin p hp).1
rw[z,e]at y
cases y)
theorem Inv.trackG{o:HO}(I:Inv X pins σ H s)(n:H a=none)(y:qIL X pins a)(nl:a≠X.env.locals)(nc:∀x c,X.env.cells.lookup x=some c→c≠a)(new:jK X.prog X.w (upd H a o) s.heap a o):Inv X pins σ (upd H a o) s:=by(
have ne:∀b o',X.s₀.heap.get? b=some o'→b∉X.ex→b≠a:=λb o' z x q=>by
 subst q;rcases y.1 with w|w
 ·rw[z]at w;cases w
 exact x w
have nt:∀b u,H b=some u→b≠a:=λb u z q=>by rw[q,n]at z;cases z
refine⟨I.ok,I.os,I.bare,⟨I.base.keep,I.base.slot,λb o' z m x=>?_,I.base.there,λb xs z=>?_,λb o' u z=>?_,λb ps z=>?_⟩,I.loc,I.cell,?_,λx c z=>?_,λp hp=>?_,λb u z=>?_,I.len⟩
·rw[qC (ne b o' z x)];exact I.base.free b o' z m x
·have w:=I.base.tups b xs z;rw[qC (nt _ _ w)];exact w
·have w:=I.base.frzs b o' u z;rw[qC (nt _ _ w)];exact w
·obtain⟨more,w⟩:=I.base.tbls b ps z;exact⟨more,by rw[qC (nt _ _ w)];exact w⟩
·rw[qC (rQ nl)];exact I.free
·rw[qC (nc x c z)];exact I.freeC x c z
·obtain⟨p1,p2,p3,p4,p5⟩:=I.pin p hp;exact⟨p1,by rw[qC (y.2 p hp)];exact p2,p3,p4,p5⟩
by_cases q:b=a
·subst q;rw[qI]at z;cases z;exact new
rw[qC q]at z
refine(I.hok b u z).stay (λ_ _ _ g=>g) (λc g=>?_) λc xs g=>?_
·rw[qC (nt _ _ g)];exact g
rw[qC (nt _ _ g)];exact g)
end
noncomputable def qF4:List Value→Bool
| .ref _::r=>qF4 r
|l=>l==bmVE
noncomputable def veIn(K:PySem.W.Frag)(C:Addr):Bool:=(PySem.W.clsIn K C).any (λcd=>qF4 cd.mro)
structure XAt(K:PySem.W.Frag)(C:Addr):Prop where
hd:PySem.W.hasDictIn K C=true
sa:PySem.W.findIn K (.ref C) "__setattr__"=some (some (.builtin "object.__setattr__"))
mro:veIn K C=true
structure XRd(K:PySem.W.Frag)(C:Addr):Prop where
ga:PySem.W.findIn K (.ref C) "__getattribute__"=some (some (.builtin "BaseException.__getattribute__"))
gn:PySem.W.findIn K (.ref C) "__getattr__"=some none
mb:PySem.W.mroIn K C (.type "BaseException")=some true
hd:PySem.W.hasDictIn K C=true
cls:PySem.W.findIn K (.ref C) "__class__"=some (some (.builtin "object.__class__"))
cget:PySem.W.specialIn K (.builtin "object.__class__") "__get__"=some (some (.builtin "getset_descriptor.__get__"))
ctk:PySem.W.takesIn K (.builtin "object.__class__")=some true
mo:PySem.W.mroIn K C (.type "object")=some true
noncomputable def XAny(H:Hp)(ea:Addr)(C:Value)(od:Option Addr):Prop:=H ea=some (XO ea C od)∨H ea=some (XN ea C od)
section
variable{X:Cx}{pins:List (Addr×Obj)}{σ:St}{H:Hp}{s:Shared}{ea C:Addr}{od:Option Addr}
theorem XAny.at{C:Value}(x:XAny H ea C od)(I:Inv X pins σ H s):∃o vs,s.heap.get? ea=some o∧o.cls=C∧o.dict=od∧o.data=.fields vs:=by(
rcases x with e|e
·exact(I.hok ea _ e).1
obtain⟨vs,sl,z,_⟩:=(I.hok ea _ e).1
exact⟨_,vs,z,rfl,rfl,rfl⟩)
theorem qH1{A:Around}{E:Value→Shared→Prop}{K:PySem.W.Frag}{prog:Program}{w:World}{s:Shared}{x:Addr}{ox:Obj}{od:Option Obj}{name:Str}{tk:Tok}{fill b:Bool}{Q:Value→Shared→Prop}(X:K.In s.heap)(J:PySem.W.InstAt s.heap x ox C od)(c:XRd K C)
 (h:∀A',wpAny (model prog w) A' (Builtin.«object.__getattribute__» ⟨[.ref x,.str name tk],[]⟩) (λfin s'=>∃v,fin=.done (.ret v)∧PySem.W.handedIn v=true∧Q v s') (λ_ _=>False) s):wpAny (model prog w) A (getAttrBy (.ref x) (.str name tk) fill b) Q E s:=by(
obtain⟨hh,g,d,t,os⟩:=s
have L0:=J.type (M:=model prog w)
have L1:=wD (M:=model prog w) X c.ga
have L2:=wD (M:=model prog w) X c.gn
have SF:=PySem.F.excAttr_ValueError.ga
unfold getAttrBy
refine gQ (hI (L0.at (hI (L1.at ?_))))
show wpAny _ _ (getAttrByItsOwn (.ref x) (.str name tk) (.ref C) (.builtin "BaseException.__getattribute__") fill b) _ _ _
unfold getAttrByItsOwn
refine hI ?_
show wpAny _ _ (typeLookup (.ref C) "__getattr__") _ _ _
refine L2.at ?_
refine hI (pS (gQ ?_))
have e1:callGetattribute (.ref x) (.str name tk) (.builtin "BaseException.__getattribute__") b=boundAndCalled (.builtin "BaseException.__getattribute__") (.ref x) (.str name tk):=by unfold callGetattribute;rw[hV (by cases b<;>exact Bool.noConfusion)]
rw[e1]
unfold boundAndCalled
rw[SF.bind (.ref x)]
refine hI (kX ?_)
refine rS (wG SF.plain PySem.F.entry_bexc_ga ?_)
have su:PySem.W.Looks (model prog w) hh (isInstance (.ref x) (.type "BaseException")) true:=J.type.andThen (PySem.W.looks_mroIn X c.mb)
have hk:builtinKind "BaseException.__getattribute__"=some .slot:=by decide+kernel
have hs:splitId "BaseException.__getattribute__"=some ("BaseException","__getattribute__"):=by decide+kernel
refine @lG (model prog w) _ _ ⟨hh,g,d,t,os⟩ "BaseException.__getattribute__" "BaseException" "__getattribute__" (.ref x) [.str name tk] [] _ hk hs su (PySem.F.args_bexc_ga (.ref x) (.str name tk)) ?_
refine gR (h _) (λfin s' z=>?_) (λ_ _ z=>z.elim)
obtain⟨v,rfl,z1,z2⟩:=z
exact PySem.W.handed_on z1 z2)
end
noncomputable def clsV:V→Option Value
| .ref a=>some (.ref a)
| .ty n=>some (.type n)
|_=>none
theorem qF5{c:V}{cv u:Value}(h:clsV c=some cv)(r:RelV c u):u=cv:=by cases c<;>first|(cases h;exact r)|cases h
noncomputable def KndT(K:PySem.W.Frag)(H:Hp)(x:V)(t:Value):Prop:=TyOf K H x t∨∃ea C od,x=.ref ea∧t=.ref C∧XAny H ea (.ref C) od∧XRd K C∧(od=none∨∃dx fs,od=some dx∧H dx=some (.xd fs))
theorem qJZ{K:PySem.W.Frag}{x D:Addr}{ox:Obj}{od:Option Obj}(c:XRd K D):PySem.W.KitX K (.ref x) (.ref D) (λh=>PySem.W.InstAt h x ox D od) where
ty:=λ_ _ _ I=>I.type
it:=λ_ _ X _=>by
 obtain⟨cd,hc,_⟩:=cI c.hd;unfold PySem.W.clsIn at hc;split at hc
 ·rename_i ho;intro A' Q' E' s' k q;unfold isType loadHead;exact hI (wpAny_loadPart (k _ _ (X _ _ ho)) (kX q))
 cases hc
ne:=λh tp dd its n sl X htp=>by
 obtain⟨cd,hc,_⟩:=cI c.hd;refine l8.mpr λq=>?_;have e:D=tp:=Value.ref.inj (rF.mp q);subst e;unfold PySem.W.clsIn at hc;split at hc
 ·rename_i ho;have z:=(X _ _ ho).symm.trans htp;cases z
 cases hc
ca:=fun {prog w _ _ _ s} X I k=>by
 have hf:PySem.W.findObj K D od "__class__"=some (.bind (.builtin "getset_descriptor.__get__") (.builtin "object.__class__")):=by obtain⟨cd,hc,_⟩:=cI c.hd;unfold PySem.W.findObj;rw[hc,cJ,c.cls,cJ];dsimp only;rw[c.cget,cJ];dsimp only;rw[c.ctk,cJ]
 unfold getAttr? getAttrBy?;refine hI (wpAny_mkText (hI (pS (qH1 (s:={ s with toks:=s.toks+1 }) X I c λA'=>?_))));have L0:=I.type (M:=model prog w);have L1:=PySem.W.looks_find (M:=model prog w) X I hf;obtain⟨hh,gg,d,t,os⟩:=s;refine hI (kX (hI (kX (hI (L0.at (hI (L1.at ?_)))))));show wpAny _ _ (holding [.builtin "object.__class__"] (call (.builtin "getset_descriptor.__get__") [.builtin "object.__class__",.ref x,.ref D]) >>= ret) _ _ _;exact hI (gQ (rS (PySem.W.class_get (s:=⟨hh,gg,d,t+1,os⟩) (ox:=ox) (od:=od) X I c.mo (kX ⟨_,rfl,rfl,kX k⟩))))
theorem yQ{X:Cx}:q3A X (.builtin "isinstance") (λxs H Q=>∃x c cv t b,xs=[x,c]∧clsV c=some cv∧KndT X.K H x t∧PySem.W.kitOne X.K t cv=some b∧Q (.bl b) H):=by(
intro pins s σ H xs us Q I r h
obtain⟨x,c,cv,t,b,rfl,hc,ty,e,q⟩:=h
obtain⟨u,w',rfl,ru,rw'⟩:=qIG r
cases qF5 hc rw'
rcases ty with ty|⟨ea,C,od,rfl,rfl,hx,ca,hd⟩
·exact qDO I ru ty e λtk=>⟨.bl b,H,I.tok tk,rfl,q⟩
obtain rfl:u=Value.ref ea:=ru
obtain⟨o,vs,e1,e2,e3,e4⟩:=hx.at I
have hno:PySem.W.notCls o=true:=by rw[PySem.W.notCls,e4]
have J:∃oD,PySem.W.InstAt s.heap ea o C oD:=by
 rcases hd with rfl|⟨dx,fs,rfl,hdx⟩
 ·exact⟨none,e1,e2,hno,by rw[e3];exact True.intro⟩
 obtain⟨mA,n1,rl⟩:=I.hok dx _ hdx;obtain⟨oD,g1,g2⟩:=q89 n1;exact⟨some oD,e1,e2,hno,by rw[e3];exact g1⟩
obtain⟨oD,J⟩:=J
exact gU (qJZ ca) I.kIn J e (λz=>nomatch z) λtk=>⟨.bl b,H,I.tok tk,rfl,q⟩)
structure BIni(K:PySem.W.Frag)(W:Addr):Prop where
rd:PySem.W.readsIn K W (.type "type")=true
fd:PySem.W.findCls K (.ref W) (.type "type") "__init__"=some (.val (.builtin "ValueError.__init__"))
ga:PySem.W.specialIn K (.ref W) "__getattribute__"=some (some (.builtin "type.__getattribute__"))
end L2
namespace L2
open PySem
structure Keep(F:List Addr)(H H':Hp):Prop where
k:∀b o,b∉F→H b=some o→H' b=some o
tp:∀b xs,H b=some (.tup xs)→H' b=some (.tup xs)
theorem Keep.refl{F:List Addr}{H:Hp}:Keep F H H:=⟨λ_ _ _ e=>e,λ_ _ e=>e⟩
theorem Keep.trans{F:List Addr}{H H1 H2:Hp}(a:Keep F H H1)(b:Keep F H1 H2):Keep F H H2:=⟨λx o n e=>b.k x o n (a.k x o n e),λx xs e=>b.tp x xs (a.tp x xs e)⟩
theorem Keep.mono{F F':List Addr}{H H':Hp}(a:Keep F H H')(s:∀b∈F,b∈F'):Keep F' H H':=⟨λx o n e=>a.k x o (λm=>n (s x m)) e,a.tp⟩
theorem Keep.upd{F:List Addr}{H:Hp}{p:Addr}{o u:HO}(h:H p=some u)(nt:∀xs,u≠ .tup xs)(m:p∈F):Keep F H (upd H p o):=by(
refine⟨λb x n e=>?_,λb xs e=>?_⟩
·rw[qC (λ(z:b=p)=>n (z▸m))];exact e
rw[qC (jH e h (λz=>nt xs z.symm))];exact e)
theorem Keep.same{F:List Addr}{H H':Hp}(s:Same H H'):Keep F H H':=⟨λb o _ e=>s b o e,λb xs e=>s b _ e⟩
theorem Keep.none{F:List Addr}{H H':Hp}(a:Keep F H H'){b:Addr}(n:b∉F)(e:H' b=Option.none):H b=Option.none:=by(
cases q:H b with
|none=>rfl
|some o=>rw[a.k b o n q]at e;cases e)
structure CM where
bl:Int
pg:Int
mo:Int
lim:List (Key×V)
bo:List V
cl:List Int
dc:List Int
br:List Bool
lf:Option Int
rc:List (Str×Int×Bool)
structure CA where
dx:Addr
li:Addr
bo:Addr
cl:Addr
dc:Addr
br:Addr
rc:Addr
noncomputable def lfV:Option Int→V
| .none=>.non
| .some i=>.int i
noncomputable def chF(a:CA)(m:CM):List (Str×V):=[("blocks",.int m.bl),("pages",.int m.pg),("most",.int m.mo),("limits",.ref a.li),("borne",.ref a.bo),("clearings",.ref a.cl),("deed_counts",.ref a.dc),("broken",.ref a.br),("deeds_left",lfV m.lf),("record",.ref a.rc)]
noncomputable def trip(H:Hp)(v:V)(d:Str×Int×Bool):Prop:=∃p,v=.ref p∧H p=some (.tup [.str d.1,.int d.2.1,.bl d.2.2])
noncomputable abbrev Recd(H:Hp):List V→List (Str×Int×Bool)→Prop:=Paired (trip H)
theorem Recd.keep{F:List Addr}{H H':Hp}(k:Keep F H H'){rs:List V}{ds:List (Str×Int×Bool)}(r:Recd H rs ds):Recd H' rs ds:=Paired.mapP r λv d ⟨p,e,h⟩=>⟨p,e,k.tp _ _ h⟩
theorem _root_.PySem.Paired.len{α β:Type}{F:α→β→Prop}:∀{l₁:List α} {l₂:List β},Paired F l₁ l₂→l₁.length=l₂.length
|_,_,.nil=>rfl
|_,_,.cons _ t=>g5 (· + 1) t.len
theorem Paired.snoc{α β:Type}{F:α→β→Prop}:∀{l₁:List α} {l₂:List β} {a:α} {b:β},Paired F l₁ l₂→F a b→Paired F (l₁++[a]) (l₂++[b])
|_,_,_,_,.nil,h=>.cons h .nil
|_,_,_,_,.cons r t,h=>.cons r (Paired.snoc t h)
noncomputable def foot(c:Addr)(a:CA):List Addr:=[c,a.bo,a.cl,a.dc,a.br,a.rc]
structure ChipAt(C:Addr)(H:Hp)(c:Addr)(a:CA)(m:CM):Prop where
ins:H c=some (.ins C a.dx (chF a m))
li:H a.li=some (.dK m.lim)
bo:H a.bo=some (.lst m.bo)
cl:H a.cl=some (.lst (m.cl.map V.int))
dc:H a.dc=some (.lst (m.dc.map V.int))
br:H a.br=some (.lst (m.br.map V.bl))
rc:∃rs,H a.rc=some (.lst rs)∧Recd H rs m.rc
nd:[a.bo,a.cl,a.dc,a.br,a.rc].Nodup
structure CM.Ok(m:CM):Prop where
bl1:2≤m.bl
bl2:m.bl≤16
pg1:1≤m.pg
pg2:m.pg≤16
nbo:(m.bo.length:Int)=m.bl*m.pg
ncl:(m.cl.length:Int)=m.bl
ndc:(m.dc.length:Int)=m.bl
nbr:(m.br.length:Int)=m.bl
lim:∀b v,valV m.lim (Sum.inl b)=some v→∃n,v=.int n
nrc:m.rc.length≤1000000
section
variable{C c:Addr}{a:CA}{m:CM}{H H':Hp}
theorem ChipAt.ne(h:ChipAt C H c a m):c≠a.bo∧c≠a.cl∧c≠a.dc∧c≠a.br∧c≠a.rc:=by obtain⟨rs,e,_⟩:=h.rc;exact⟨jH h.ins h.bo (by intro z;cases z),jH h.ins h.cl (by intro z;cases z),jH h.ins h.dc (by intro z;cases z),jH h.ins h.br (by intro z;cases z),jH h.ins e (by intro z;cases z)⟩
theorem ChipAt.nel(h:ChipAt C H c a m):a.li≠c∧a.li≠a.bo∧a.li≠a.cl∧a.li≠a.dc∧a.li≠a.br∧a.li≠a.rc:=by obtain⟨rs,e,_⟩:=h.rc;exact⟨jH h.li h.ins (by intro z;cases z),jH h.li h.bo (by intro z;cases z),jH h.li h.cl (by intro z;cases z),jH h.li h.dc (by intro z;cases z),jH h.li h.br (by intro z;cases z),jH h.li e (by intro z;cases z)⟩
theorem ChipAt.dst(h:ChipAt C H c a m):(a.bo≠a.cl∧a.bo≠a.dc∧a.bo≠a.br∧a.bo≠a.rc)∧(a.cl≠a.dc∧a.cl≠a.br∧a.cl≠a.rc)∧(a.dc≠a.br∧a.dc≠a.rc)∧a.br≠a.rc:=by(
have:=h.nd
simp only[mW,kJ,g9,not_or,cS]at this
obtain⟨⟨a1,a2,a3,a4⟩,⟨b1,b2,b3⟩,⟨c1,c2⟩,d1,_⟩:=this
exact⟨⟨a1,a2,a3,a4⟩,⟨b1,b2,b3⟩,⟨c1,c2⟩,d1⟩)
theorem ChipAt.keep{F:List Addr}(h:ChipAt C H c a m)(k:Keep F H H')(n:∀b∈a.li::foot c a,b∉F):ChipAt C H' c a m:=by obtain⟨rs,e,r⟩:=h.rc;exact⟨k.k _ _ (n _ (by simp[foot])) h.ins,k.k _ _ (n _ (by simp)) h.li,k.k _ _ (n _ (by simp[foot])) h.bo,k.k _ _ (n _ (by simp[foot])) h.cl,k.k _ _ (n _ (by simp[foot])) h.dc,k.k _ _ (n _ (by simp[foot])) h.br,⟨rs,k.k _ _ (n _ (by simp[foot])) e,r.keep k⟩,h.nd⟩
theorem ChipAt.same(h:ChipAt C H c a m)(s:Same H H'):ChipAt C H' c a m:=h.keep (F:=[]) (Keep.same s) (by simp)
theorem ChipAt.setLf(h:ChipAt C H c a m)(v:Option Int):ChipAt C (upd H c (.ins C a.dx (chF a { m with lf:=v }))) c a { m with lf:=v }:=by(
obtain⟨n1,n2,n3,n4,n5⟩:=h.ne
obtain⟨l1,_⟩:=h.nel
obtain⟨rs,e,r⟩:=h.rc
have k:Keep [c] H (upd H c (.ins C a.dx (chF a { m with lf:=v }))):=Keep.upd h.ins (λ_ z=>by cases z) (by simp)
exact⟨qI,by rw[qC l1];exact h.li,by rw[qC n1.symm];exact h.bo,by rw[qC n2.symm];exact h.cl,by rw[qC n3.symm];exact h.dc,by rw[qC n4.symm];exact h.br,⟨rs,by rw[qC n5.symm];exact e,r.keep k⟩,h.nd⟩)
theorem ChipAt.setBo(h:ChipAt C H c a m)(v:List V):ChipAt C (upd H a.bo (.lst v)) c a { m with bo:=v }:=by(
obtain⟨n1,n2,n3,n4,n5⟩:=h.ne
obtain⟨l0,l1,l2,l3,l4,l5⟩:=h.nel
obtain⟨⟨a1,a2,a3,a4⟩,⟨b1,b2,b3⟩,⟨c1,c2⟩,d1⟩:=h.dst
obtain⟨rs,e,r⟩:=h.rc
have k:Keep [a.bo] H (upd H a.bo (.lst v)):=Keep.upd h.bo (λ_ z=>by cases z) (by simp)
exact⟨by rw[qC n1];exact h.ins,by rw[qC l1];exact h.li,qI,by rw[qC a1.symm];exact h.cl,by rw[qC a2.symm];exact h.dc,by rw[qC a3.symm];exact h.br,⟨rs,by rw[qC a4.symm];exact e,r.keep k⟩,h.nd⟩)
theorem ChipAt.setCl(h:ChipAt C H c a m)(v:List Int):ChipAt C (upd H a.cl (.lst (v.map V.int))) c a { m with cl:=v }:=by(
obtain⟨n1,n2,n3,n4,n5⟩:=h.ne
obtain⟨l0,l1,l2,l3,l4,l5⟩:=h.nel
obtain⟨⟨a1,a2,a3,a4⟩,⟨b1,b2,b3⟩,⟨c1,c2⟩,d1⟩:=h.dst
obtain⟨rs,e,r⟩:=h.rc
have k:Keep [a.cl] H (upd H a.cl (.lst (v.map V.int))):=Keep.upd h.cl (λ_ z=>by cases z) (by simp)
exact⟨by rw[qC n2];exact h.ins,by rw[qC l2];exact h.li,by rw[qC a1];exact h.bo,qI,by rw[qC b1.symm];exact h.dc,by rw[qC b2.symm];exact h.br,⟨rs,by rw[qC b3.symm];exact e,r.keep k⟩,h.nd⟩)
theorem ChipAt.setDc(h:ChipAt C H c a m)(v:List Int):ChipAt C (upd H a.dc (.lst (v.map V.int))) c a { m with dc:=v }:=by(
obtain⟨n1,n2,n3,n4,n5⟩:=h.ne
obtain⟨l0,l1,l2,l3,l4,l5⟩:=h.nel
obtain⟨⟨a1,a2,a3,a4⟩,⟨b1,b2,b3⟩,⟨c1,c2⟩,d1⟩:=h.dst
obtain⟨rs,e,r⟩:=h.rc
have k:Keep [a.dc] H (upd H a.dc (.lst (v.map V.int))):=Keep.upd h.dc (λ_ z=>by cases z) (by simp)
exact⟨by rw[qC n3];exact h.ins,by rw[qC l3];exact h.li,by rw[qC a2];exact h.bo,by rw[qC b1];exact h.cl,qI,by rw[qC c1.symm];exact h.br,⟨rs,by rw[qC c2.symm];exact e,r.keep k⟩,h.nd⟩)
theorem ChipAt.addRc{p:Addr}{rs:List V}{d:Str×Int×Bool}(h:ChipAt C H c a m)(e:H a.rc=some (.lst rs))(hp:H p=some (.tup [.str d.1,.int d.2.1,.bl d.2.2])):ChipAt C (upd H a.rc (.lst (rs++[.ref p]))) c a { m with rc:=m.rc++[d] }:=by(
obtain⟨n1,n2,n3,n4,n5⟩:=h.ne
obtain⟨l0,l1,l2,l3,l4,l5⟩:=h.nel
obtain⟨⟨a1,a2,a3,a4⟩,⟨b1,b2,b3⟩,⟨c1,c2⟩,d1⟩:=h.dst
obtain⟨rs',e',r⟩:=h.rc
rw[e]at e'
cases e'
have k:Keep [a.rc] H (upd H a.rc (.lst (rs++[.ref p]))):=Keep.upd e (λ_ z=>by cases z) (by simp)
exact⟨by rw[qC n5];exact h.ins,by rw[qC l5];exact h.li,by rw[qC a4];exact h.bo,by rw[qC b3];exact h.cl,by rw[qC c2];exact h.dc,by rw[qC d1];exact h.br,⟨_,qI,Paired.snoc (r.keep k) ⟨p,rfl,k.tp _ _ hp⟩⟩,h.nd⟩)
end
noncomputable def CM.deed(m:CM)(w:Str)(pl b:Int)(f:Bool):CM:={ m with lf:=m.lf.map (· - 1),dc:=m.dc.set b.toNat (m.dc.getD b.toNat 0+1),rc:=m.rc++[(w,pl,!f)],br:=if f then m.br.set b.toNat true else m.br }
noncomputable def clr(xs:List V)(i n:Nat):List V:=match n with
|0=>xs
|n+1=>(clr xs i n).set (i+n) .non
noncomputable def CM.new(bl pg mo:Int)(lim:List (Key×V)):CM:=⟨bl,pg,mo,lim,List.replicate (bl*pg).toNat .non,List.replicate bl.toNat 0,List.replicate bl.toNat 0,List.replicate bl.toNat false,none,[]⟩
theorem qH2{x:V}{lo hi:Int}(h:inB x lo hi=true):∃p,x=.int p∧lo≤p∧p≤hi:=by(
cases x with
|int p=>have h:(decide (lo≤p)&&decide (p≤hi))=true:=h;rw[mI]at h;exact⟨p,rfl,mM h.1,mM h.2⟩
|_=>cases h)
theorem qK0{m:CM}{p:Int}(ok:m.Ok)(p0:0≤p)(p1:p≤m.bl*m.pg-1):0≤p / m.pg∧p / m.pg<m.bl:=by have:=ok.pg1;exact⟨Int.ediv_nonneg p0 (by lia),Int.ediv_lt_of_lt_mul (by lia) (by lia)⟩
theorem lf0{m:CM}:decide (lfV m.lf=V.int 0)=decide (m.lf=some 0):=by(
cases e:m.lf with
|none=>rfl
|some i=>
 show decide (V.int i=V.int 0)=_;by_cases z:i=0
 ·subst z;rfl
 rw[hU (λq=>z (by injection q)),hU (λq=>z (by injection q))])
theorem qH3{m:CM}:scal (lfV m.lf) (.int 0)=true:=by cases m.lf<;>rfl
theorem getB{m:CM}{b:Int}(h0:0≤b)(h:b<(m.br.length:Int)):atI (m.br.map V.bl) b=some (.bl (m.br.getD b.toNat false)):=by(
obtain⟨j,rfl⟩:=rM h0
refine yD ?_
have hj:j<m.br.length:=by lia
simp[hj])
theorem getI{xs:List Int}{b:Int}(h0:0≤b)(h:b<(xs.length:Int)):atI (xs.map V.int) b=some (.int (xs.getD b.toNat 0)):=by(
obtain⟨j,rfl⟩:=rM h0
refine yD ?_
have hj:j<xs.length:=by lia
simp[hj])
theorem getV{xs:List V}{b:Int}(h0:0≤b)(h:b<(xs.length:Int)):atI xs b=some (xs.getD b.toNat .non):=by(
obtain⟨j,rfl⟩:=rM h0
refine yD ?_
have hj:j<xs.length:=by lia
simp[hj])
theorem ixOk{n:Nat}{b:Int}(h0:0≤b)(h:b<(n:Int)):ixN n b=some b.toNat:=by unfold ixN;rw[kF h0,kF h]
theorem CM.Ok.deed{m:CM}(ok:m.Ok){w:Str}{pl b:Int}{f:Bool}(h:m.rc.length<1000000):(m.deed w pl b f).Ok:=by(
refine⟨ok.bl1,ok.bl2,ok.pg1,ok.pg2,ok.nbo,ok.ncl,?_,?_,ok.lim,?_⟩
·show((m.dc.set _ _).length:Int)=m.bl;rw[gE];exact ok.ndc
·show(((if f then m.br.set b.toNat true else m.br)).length:Int)=m.bl;cases f with
 |true=>rw[kF rfl,gE];exact ok.nbr
 |false=>exact ok.nbr
show(m.rc++[_]).length≤1000000
rw[kO,mU]
lia)
noncomputable def qH4:Sp:=λvs H Q _=>∃x y,vs=[x,y]∧Knd H x∧Knd H y∧Q (.bl (inB x 2 16&&inB y 1 16)) H
theorem Paired.at{α β:Type}{F:α→β→Prop}:∀{l₁:List α} {l₂:List β} {i:Nat} {a:α},Paired F l₁ l₂→l₁[i]?=some a→∃b,l₂[i]?=some b∧F a b
|_,_,0,_,.cons r _,e=>by simp at e;subst e;exact⟨_,rfl,r⟩
|_,_,i+1,_,.cons _ t,e=>by have e2:=pZ.symm.trans e;obtain⟨b,h1,h2⟩:=Paired.at t e2;exact⟨b,pZ.trans h1,h2⟩
|_,_,_,_,.nil,e=>by simp at e
theorem q5Z(xs:List V)(i:Nat):∀n,(clr xs i n).length=xs.length
|0=>rfl
|n+1=>by show((clr xs i n).set (i+n) .non).length=xs.length;rw[gE,q5Z xs i n]
theorem qK1{bl pg mo:Int}{lim:List (Key×V)}(b1:2≤bl)(b2:bl≤16)(p1:1≤pg)(p2:pg≤16)(hl:∀b v,valV lim (Sum.inl b)=some v→∃n,v=V.int n):(CM.new bl pg mo lim).Ok:=by(
have h:0≤bl*pg:=nK (by lia) (by lia)
refine⟨b1,b2,p1,p2,?_,?_,?_,?_,hl,by show 0≤1000000;decide⟩
·show((List.replicate (bl*pg).toNat V.non).length:Int)=bl*pg;rw[gG];lia
·show((List.replicate bl.toNat (0:Int)).length:Int)=bl;rw[gG];lia
·show((List.replicate bl.toNat (0:Int)).length:Int)=bl;rw[gG];lia
show((List.replicate bl.toNat false).length:Int)=bl
rw[gG]
lia)
noncomputable def Up(x:Addr)(H H':Hp):Prop:=∀b o,b≠x→H b=some o→H' b=some o
section
variable{x C dx:Addr}{fs:List (Str×V)}{H H':Hp}
theorem Up.of{o:HO}(s:Same H H'):Up x H (upd H' x o):=λb u n e=>by rw[qC n];exact s b u e
theorem Up.free(u:Up x H H'){b:Addr}(n:b≠x)(e:H' b=none):H b=none:=by(
cases q:H b with
|none=>rfl
|some o=>rw[u b o n q]at e;cases e)
end
end L2
namespace L2
open PySem PySem.Spec PyProof.Rows
noncomputable def tMid(t u:TS):TS:=λD σ H=>∃M:St→Hp→Prop,t { D with nx:=M } σ H∧∀σ' H',M σ' H'→u D σ' H'
noncomputable def qLH(t:TT):TT:=λσ H Q=>∃M:Bool→Hp→Prop,t σ H M∧∀b H',M b H'→Q b H'
noncomputable def qLI(t:TE):TE:=λσ H Q=>∃M:VK,t σ H M∧∀v H',M v H'→Q v H'
section
variable{X:Cx}{st:Stmt}{rest:List Stmt}{t u:TS}{e:Expr}{te:TE}{tt:TT}
theorem q10(h1:PS X st t)(h2:PSs X rest u):PSs X (st::rest) (tMid t u):=by(
intro pins s σ H D I hZ
obtain⟨M,a,b⟩:=hZ
refine hI (thn (h1 pins s σ H _ I a) λf s1 z=>?_)
cases f with
|next=>obtain⟨σ',H',I',q⟩:=z;exact h2 pins s1 σ' H' D I' (b σ' H' q)
|brk=>exact kX z
|cont=>exact kX z
|ret v=>exact kX z)
theorem qK2(h:PT X e tt):PT X e (qLH tt):=λpins s σ H Q I ⟨M,a,b⟩=>thn (h pins s σ H M I a) λc s1 ⟨H',I',q⟩=>⟨H',I',b c H' q⟩
theorem qK3(h:PE X e te):PE X e (qLI te):=λpins s σ H Q I ⟨M,a,b⟩=>thn (h pins s σ H M I a) λc s1 ⟨v,H',I',r,q⟩=>⟨v,H',I',r,b v H' q⟩
end
theorem zZ{a b:Int}:decide (V.int a=V.int b)=decide (a=b):=by(
by_cases e:a=b
·subst e;simp
rw[hU e,hU (λz=>e (by injection z))])
theorem vS(x n:Int)(h:0<n):0≤x%n∧x%n<n:=⟨xZ _ (by lia),lI _ h⟩
section
variable{X:Cx}{pins:List (Addr×Obj)}{σ:St}{H:Hp}{s:Shared}{h':Heap}
theorem Inv.turnedN{t':Nat}{fp:List Addr}(I:Inv X pins σ H s)(k:∀b o,b∉fp→s.heap.get? b=some o→h'.get? b=some o)(hf:∀b∈fp,FpOk X pins H b):Inv X pins σ H { s with heap:=h',toks:=t' }:=by(
have nit:∀b u,H b=some u→b∉fp:=λb u e z=>by rw[(hf b z).1]at e;cases e
refine I.step (g':=s.gens) (d':=s.drawn) (ch:=fp) (λb hb=>?_) (λb o _ _ hc e _=>k b o hc e) (λb o _ _ hc e _=>⟨o.slots,k b o hc e⟩) (λ_ _ _ _ n=>n)
 (λb o hc e=>⟨o,k b o hc e⟩) (λ_ _ e=>e) (λ_ _ _ e=>e) (λb ps e=>⟨#[],by rw[e];simp⟩) (λm hm=>?_) (λb u e=>?_) I.bare
·obtain⟨f0,f1,f2,f3,f4,f5⟩:=hf b hb;exact⟨f3,f1,f4,f5⟩
·obtain⟨o,es,ep,ho,r⟩:=hm;exact⟨o,es,ep,k _ o (λz=>(hf _ z).2.1 rfl) ho,r⟩
refine(I.hok b u e).stay (λc v hc q=>k c v ?_ q) (λ_ q=>q) λ_ _ q=>q
rcases hc with z|z
·rw[z];exact nit b u e
exact nit c _ z)
end
end L2
namespace L2
open PySem
theorem q6I{es rest:List Expr}{x1}{p:Pos}{env:Env}:starEach (.Tuple es x1 p::rest) env=(false,eval (.Tuple es x1 p) env)::starEach rest env:=rfl
end L2
namespace L2
open PySem PySem.Spec PyProof.Rows
inductive Eqv(K:PySem.W.Frag)(H:Hp):Nat→V→V→Prop where
|flat {n:Nat} {x:V} (f:q1M x=true):Eqv K H n x x
|lst {n:Nat} {a b:Addr} {xs ys:List V} (ha:SqL K H a xs) (hb:SqL K H b ys) (hl:xs.length=ys.length) (hi:∀(i:Nat) x y,xs[i]?=some x→ys[i]?=some y→Eqv K H n x y):Eqv K H (n+1) (.ref a) (.ref b)
|tup {n:Nat} {a b:Addr} {xs ys:List V} (ha:SqT K H a xs) (hb:SqT K H b ys) (hl:xs.length=ys.length) (hi:∀(i:Nat) x y,xs[i]?=some x→ys[i]?=some y→Eqv K H n x y):Eqv K H (n+1) (.ref a) (.ref b)
theorem qF6{x:V}(f:q1M x=true):eqV x x=true:=by(
cases x with
|non=>rfl
|bl b=>cases b<;>rfl
|int i=>show(i==i)=true;exact beq_self_eq_true i
|str z=>show(z==z)=true;exact beq_self_eq_true z
|_=>exact absurd (show false=true from f) kM)
theorem vK{n:Nat}:(List.range n).all (λ_=>true)=true:=by simp
section
variable{X:Cx}{pins:List (Addr×Obj)}{σ:St}{H:Hp}{s:Shared}
theorem Vals.atN{xs:List V}{us:List Value}(r:Vals xs us){j:Nat}(h:j<us.length):∃x,xs[j]?=some x∧RelV x us[j]:=by(
have e:xs[j]?=some (xs[j]'(by rw[r.length];exact h)):=kC _
obtain⟨u,hu,ru⟩:=r.get e
rw[kC h]at hu
cases hu
exact⟨_,e,ru⟩)
theorem Eqv.at(I:Inv X pins σ H s){n:Nat}{y x:V}(h:Eqv X.K H n y x):∀{A:Around} {u v:Value},RelV y u→RelV x v→A.units+n<cLine→SeqAt.EqAt A s u v true:=by(
induction h with
|flat f=>intro A u v ru rv _;have e:=qEM (A:=A) (s:=s) ru rv f f;rw[qF6 f]at e;exact e
|@lst n a b xs ys ha hb hl hi ih=>
 intro A u v ru rv hu;cases ru;cases rv;by_cases hab:a=b
 ·subst hab;exact cV _
 obtain⟨i1,r1,p1,_⟩:=I.list ha;obtain⟨i2,r2,p2,_⟩:=I.list hb;have l1:=r1.length;have l2:=r2.length;refine pH hab ?_;have e:=SeqAt.RcAt.lists (A:=A) (e:=λ_=>true) p1.isList p2.isList (by simp;lia) (by lia) (λj h1 h2=>?_)
 ·rw[vK]at e;exact e
 obtain⟨x1,e1,q1⟩:=r1.atN (j:=j) (by simpa using h1);obtain⟨x2,e2,q2⟩:=r2.atN (j:=j) (by simpa using h2);exact ih j x1 x2 e1 e2 (by simpa using q1) (by simpa using q2) (by show A.units+1+n<cLine;lia)
|@tup n a b xs ys ha hb hl hi ih=>
 intro A u v ru rv hu;cases ru;cases rv;by_cases hab:a=b
 ·subst hab;exact cV _
 obtain⟨i1,r1,p1,_⟩:=I.tuple ha;obtain⟨i2,r2,p2,_⟩:=I.tuple hb;have l1:=r1.length;have l2:=r2.length;refine pH hab ?_;have e:=xA (A:=A) (e:=λ_=>true) (show s.heap.IsTuple a i1.toArray from p1) (show s.heap.IsTuple b i2.toArray from p2) (by lia) (λj h1 h2=>?_)
 ·rw[vK,lA,show(i1.toArray.size==i2.toArray.size)=true by simp;lia]at e;exact e
 obtain⟨x1,e1,q1⟩:=r1.atN (j:=j) (by simpa using h1);obtain⟨x2,e2,q2⟩:=r2.atN (j:=j) (by simpa using h2);exact ih j x1 x2 e1 e2 (by simpa using q1) (by simpa using q2) (by show A.units+1+n<cLine;lia))
theorem q8J{x:V}(f:q1M x=true):scal x x=true:=by(
cases x with
|non=>rfl
|bl b=>rfl
|int i=>rfl
|str z=>rfl
|_=>exact absurd (show false=true from f) kM)
noncomputable def qF7(K:PySem.W.Frag)(r:Bool):R2:=λx y H Q=>Eqv K H 6 x y∧Q (.bl r) H
theorem qF8(hu:X.A.units+64<cLine):OpR X (compareOp .Eq) (qF7 X.K true):=by(
intro pins s σ H x y v u Q I rx ry hZ
obtain⟨h,q⟩:=hZ
cases h with
|flat f=>exact yO pins s σ H x x v u Q I rx ry ⟨q8J f,by rw[hG rfl];exact q⟩
|@lst _ a b xs ys ha hb hl hi=>cases rx;cases ry;obtain⟨i1,r1,p1,_⟩:=I.list ha;obtain⟨i2,r2,p2,_⟩:=I.list hb;have l1:=r1.length;have l2:=r2.length;refine x6 (e:=λ_=>true) p1.isList p2.isList (by simp;lia) (by lia) (λj h1 h2=>?_) ⟨.bl true,H,I,by rw[vK];rfl,q⟩;obtain⟨x1,e1,q1⟩:=r1.atN (j:=j) (by simpa using h1);obtain⟨x2,e2,q2⟩:=r2.atN (j:=j) (by simpa using h2);exact(hi j x1 x2 e1 e2).at I (by simpa using q1) (by simpa using q2) (by show X.A.units+1+5<cLine;lia)
|@tup _ a b xs ys ha hb hl hi=>cases rx;cases ry;obtain⟨i1,r1,p1,_⟩:=I.tuple ha;obtain⟨i2,r2,p2,_⟩:=I.tuple hb;have l1:=r1.length;have l2:=r2.length;refine SeqAt.eq_tupleAt (e:=λ_=>true) (show s.heap.IsTuple a i1.toArray from p1) (show s.heap.IsTuple b i2.toArray from p2) (by lia) (λj h1 h2=>?_) ⟨.bl true,H,I,by rw[vK,lA,show(i1.toArray.size==i2.toArray.size)=true by simp;lia];rfl,q⟩;obtain⟨x1,e1,q1⟩:=r1.atN (j:=j) (by simpa using h1);obtain⟨x2,e2,q2⟩:=r2.atN (j:=j) (by simpa using h2);exact(hi j x1 x2 e1 e2).at I (by simpa using q1) (by simpa using q2) (by show X.A.units+1+5<cLine;lia))
theorem qK4(hu:X.A.units+64<cLine):OpR X (compareOp .NotEq) (qF7 X.K false):=by(
intro pins s σ H x y v u Q I rx ry hZ
obtain⟨h,q⟩:=hZ
cases h with
|flat f=>exact q3B pins s σ H x x v u Q I rx ry ⟨q8J f,by rw[hG rfl];exact q⟩
|@lst _ a b xs ys ha hb hl hi=>cases rx;cases ry;obtain⟨i1,r1,p1,_⟩:=I.list ha;obtain⟨i2,r2,p2,_⟩:=I.list hb;have l1:=r1.length;have l2:=r2.length;refine lJ (e:=λ_=>true) p1.isList p2.isList (by simp;lia) (by lia) (λj h1 h2=>?_) _ _ _ _ ⟨.bl false,H,I,by rw[vK];rfl,q⟩;obtain⟨x1,e1,q1⟩:=r1.atN (j:=j) (by simpa using h1);obtain⟨x2,e2,q2⟩:=r2.atN (j:=j) (by simpa using h2);exact(hi j x1 x2 e1 e2).at I (by simpa using q1) (by simpa using q2) (by show X.A.units+1+5<cLine;lia)
|@tup _ a b xs ys ha hb hl hi=>cases rx;cases ry;obtain⟨i1,r1,p1,_⟩:=I.tuple ha;obtain⟨i2,r2,p2,_⟩:=I.tuple hb;have l1:=r1.length;have l2:=r2.length;refine nU (e:=λ_=>true) (show s.heap.IsTuple a i1.toArray from p1) (show s.heap.IsTuple b i2.toArray from p2) (by lia) (λj h1 h2=>?_) _ _ _ _ ⟨.bl false,H,I,by rw[vK,lA,show(i1.toArray.size==i2.toArray.size)=true by simp;lia];rfl,q⟩;obtain⟨x1,e1,q1⟩:=r1.atN (j:=j) (by simpa using h1);obtain⟨x2,e2,q2⟩:=r2.atN (j:=j) (by simpa using h2);exact(hi j x1 x2 e1 e2).at I (by simpa using q1) (by simpa using q2) (by show X.A.units+1+5<cLine;lia))
end
noncomputable def clOf(env:Env):List (Str×NameKind)→List (Str×Addr)→List (Str×Addr)
| [],cs=>cs
|(n,k)::r,cs=>clOf env r (if(k==NameKind.free)=true then(match env.cells.lookup n with|some a=>(n,a)::cs|none=>cs)else cs)
theorem q6J{scope:Scope}{env:Env}(h:∀y∈scope.names,y.2=.free→∃c,env.cells.lookup y.1=some c):closureFor scope env=pure (clOf env scope.names []):=by(
unfold closureFor
have go:∀(l:List (Str×NameKind)) (cs:List (Str×Addr)),(∀y∈l,y.2=.free→∃c,env.cells.lookup y.1=some c)→(forIn l cs λx r=>(match x with|(name,kind)=>if(kind==NameKind.free)=true then do let a←cellOf env name;pure (ForInStep.yield ((name,a)::r))else pure (ForInStep.yield r):Sem (ForInStep (List (Str×Addr)))))=pure (clOf env l cs):=by
 intro l;induction l with
 |nil=>intro cs _;rfl
 |cons y r ih=>
  intro cs hl;obtain⟨n,k⟩:=y;rw[x8];by_cases hk:(k==NameKind.free)=true
  ·obtain⟨c,e⟩:=hl (n,k) kQ (by simpa using hk);have e2:cellOf env n=pure c:=by unfold cellOf;rw[e]
   show(bind (if(k==NameKind.free)=true then _ else _) _:Sem _)=_;rw[kF hk,e2];show(forIn r ((n,c)::cs) _:Sem _)=pure (clOf env r (if(k==NameKind.free)=true then(match env.cells.lookup n with|some a=>(n,a)::cs|none=>cs)else cs));rw[kF hk,e];exact ih _ λy hy=>hl y (kB _ hy)
  show(bind (if(k==NameKind.free)=true then _ else _) _:Sem _)=_;rw[hV hk];show(forIn r cs _:Sem _)=pure (clOf env r (if(k==NameKind.free)=true then(match env.cells.lookup n with|some a=>(n,a)::cs|none=>cs)else cs));rw[hV hk];exact ih _ λy hy=>hl y (kB _ hy)
exact(g5 (λz:Sem (List (Str×Addr))=>z >>= λs=>pure s) (go scope.names [] h)).trans rfl)
theorem q6K{env:Env}{x:Str}{c:Addr}:∀(l:List (Str×NameKind)) (cs:List (Str×Addr)),(cs.lookup x=some c→env.cells.lookup x=some c)→(clOf env l cs).lookup x=some c→env.cells.lookup x=some c
| [],cs,hcs,h=>hcs h
|(n,k)::r,cs,hcs,h=>by
 refine q6K r _ ?_ h;intro q;split at q
 ·cases e:env.cells.lookup n with
  |none=>rw[e]at q;exact hcs q
  |some a=>
   rw[e]at q;have q:List.lookup x ((n,a)::cs)=some c:=q;rw[dJ]at q;cases z:x==n with
   |true=>
    rw[z]at q;have z':x=n:=by simpa using z
    rw[z',e,←q]
   |false=>rw[z]at q;exact hcs q
 exact hcs q
theorem q6L{env:Env}{x:Str}{c:Addr}(e:env.cells.lookup x=some c):∀(l:List (Str×NameKind)) (cs:List (Str×Addr)),((x,NameKind.free)∈l∨cs.lookup x=some c)→(clOf env l cs).lookup x=some c
| [],cs,h=>h.resolve_left (by simp)
|(n,k)::r,cs,h=>by
 refine q6L e r _ ?_;by_cases hn:(x==n)=true
 ·have z':x=n:=by simpa using hn
  by_cases hk:(k==NameKind.free)=true
  ·refine .inr ?_;rw[kF hk,←z',e];show List.lookup x ((x,c)::cs)=some c;simp
  rcases h with h|h
  ·rcases kJ.mp h with q|q
   ·cases q;exact absurd (by simp) hk
   exact .inl q
  rw[hV hk];exact .inr h
 have nx:x≠n:=λz=>hn (by simp[z]);rcases h with h|h
 ·rcases kJ.mp h with q|q
  ·cases q;exact absurd rfl nx
  exact .inl q
 refine .inr ?_;split
 ·cases en:env.cells.lookup n with
  |none=>exact h
  |some a=>
   show List.lookup x ((n,a)::cs)=some c;have hn:(x==n)=false:=by simpa using nx
   rw[dJ,hn];exact h
 exact h
theorem qAN{env:Env}{x:Str}:∀{names:List (Str×NameKind)},(∀y∈names,y.2≠ .cell)→((names.map λ(n,k)=>if(k==NameKind.free&&env.scope.kind== .function&&env.kindOf n==some .cell)then(n,NameKind.cell)else(n,k)).lookup x=some .cell∨(names.map λ(n,k)=>if(k==NameKind.free&&env.scope.kind== .function&&env.kindOf n==some .cell)then(n,NameKind.cell)else(n,k)).lookup x=some .free)→(x,NameKind.free)∈names
| [],_,h=>by simp at h
|(n,k)::r,hc,h=>by
 have ih:=@qAN env x r λy hy=>hc y (kB _ hy);rw[mJ]at h;by_cases hq:(k==NameKind.free&&env.scope.kind== .function&&env.kindOf n==some .cell)=true
 ·have hk:k=.free:=by rw[mI,mI]at hq;simpa using hq.1.1
  simp only[kF hq,dJ]at h;cases hx:x==n with
  |true=>
   have e:x=n:=by simpa using hx
   rw[e,hk];exact kQ
  |false=>simp only[hx]at h;exact kB _ (ih h)
 simp only[hV hq,dJ]at h;cases hx:x==n with
 |true=>
  simp only[hx]at h;have e:x=n:=by simpa using hx
  rcases h with h|h
  ·cases h;exact absurd rfl (hc _ kQ)
  cases h;rw[e];exact kQ
 |false=>simp only[hx]at h;exact kB _ (ih h)
theorem qAO{env:Env}{x:Str}(hk:env.scope.kind=.function)(he:env.kindOf x=some .cell):∀{names:List (Str×NameKind)},names.lookup x=some .free→(names.map λ(n,k)=>if(k==NameKind.free&&env.scope.kind== .function&&env.kindOf n==some .cell)then(n,NameKind.cell)else(n,k)).lookup x=some .cell
| [],h=>by simp at h
|(n,k)::r,h=>by
 have ih:=@qAO env x hk he r;rw[mJ];rw[dJ]at h;cases hx:x==n with
 |true=>
  simp only[hx]at h;have e:x=n:=by simpa using hx
  cases h;subst e;show List.lookup x ((if(NameKind.free==NameKind.free&&env.scope.kind==ScopeKind.function&&env.kindOf x==some NameKind.cell)=true then(x,NameKind.cell)else(x,NameKind.free))::_)=_;rw[kF (by rw[hk,he];rfl),dJ];simp
 |false=>
  simp only[hx]at h;show List.lookup x ((if(k==NameKind.free&&env.scope.kind==ScopeKind.function&&env.kindOf n==some NameKind.cell)=true then(n,NameKind.cell)else(n,k))::_)=_;by_cases hq:(k==NameKind.free&&env.scope.kind== .function&&env.kindOf n==some .cell)=true
  ·rw[kF hq,dJ];simp only[hx];exact ih h
  rw[hV hq,dJ];simp only[hx];exact ih h
noncomputable abbrev vL(X:Cx)(N:List Str)(scope:Scope)(C:Addr)(fp:List Addr)(s:Shared)(H:Hp)(xe:Value→Shared→Prop):Cx:={ X with N:=N,s₀:=s,H₀:=H,env:=compEnvC scope (clOf X.env scope.names []) C X.env,outer:=X.stack,ex:=fp,fn:=λ_=>false,xe:=xe }
noncomputable def pick(ix:List Nat)(σ:St):St:=ix.map λi=>σ.getD i none
noncomputable def q8K(XN:List Str)(kd:Str→Option NameKind)(names:List (Str×NameKind))(N:List Str)(ix:List Nat):Bool:=(List.range ix.length).all λj=>match N[j]?,ix[j]? with
 |some x,some i=>decide (XN[i]?=some x)&&decide (names.lookup x=some .free)&&decide (kd x=some .cell)
 |_,_=>false
theorem qF9{XN:List Str}{kd:Str→Option NameKind}{names:List (Str×NameKind)}{N:List Str}{ix:List Nat}(h:q8K XN kd names N ix=true){j:Nat}(hj:j<ix.length){x:Str}(hx:N[j]?=some x):
 ∃i,ix[j]?=some i∧XN[i]?=some x∧names.lookup x=some .free∧kd x=some .cell:=by(
unfold q8K at h
rw[gW]at h
have q:=h j (mE.mpr hj)
rw[hx,kC hj]at q
simp only[mI,kP]at q
exact⟨_,kC hj,q.1.1,q.1.2,q.2⟩)
theorem qH5{X:Cx}{pins:List (Addr×Obj)}{σ:St}{H:Hp}{s:Shared}(I:Inv X pins σ H s){N:List Str}{ix:List Nat}{scope:Scope}{fp:List Addr}{xe:Value→Shared→Prop}(hf:∀b∈fp,FpOk X pins H b)(ho:∀b∈fp,∃o,s.heap.get? b=some o)
 (hk:scope.kind=.function) (hc:∀y∈scope.names,y.2≠ .cell) (hfr:∀y∈scope.names,y.2=.free→X.env.kindOf y.1=some .cell) (hcap:q8K X.N X.env.kindOf scope.names N ix=true) (hN:ix.length≤N.length) {h₁:Heap} {tk n:Nat} {m:Str→Option Value}
 (hn:h₁.Ns (s.heap.objs.size+1) m) (hkp:∀b u,s.heap.get? b=some u→h₁.get? b=some u) (hD:h₁.get? s.heap.objs.size=some { cls:=.type "list",data:=.seq ([]:List Value).toArray n }):
 Inv (vL X N scope (s.heap.objs.size+1) fp s H xe) [] (pick ix σ++List.replicate (N.length-ix.length) none) (upd H s.heap.objs.size (.lst [])) { s with heap:=h₁,toks:=tk }:=by(
have fresh:H s.heap.objs.size=none:=I.hok.fresh (kN _)
have fresh1:H (s.heap.objs.size+1)=none:=I.hok.fresh (g8 _)
have cel:∀x c,(clOf X.env scope.names []).lookup x=some c→X.env.cells.lookup x=some c:=λx c e=>q6K _ _ (by intro q;simp at q) e
have clt:∀x c,(clOf X.env scope.names []).lookup x=some c→c<s.heap.objs.size:=λx c e=>by obtain⟨v,q⟩:=I.cell x c (cel x c e);exact q.lt
refine⟨⟨I.ok.mod,hk,I.ok.glob,I.ok.blt,g8 _,λx y c h1 h2=>I.ok.inj x y c (cel x c h1) (cel y c h2),λx hx=>?_,λx c h=>absurd h kM,I.ok.hd,I.ok.frames,.inl rfl,λb hb=>⟨?_,λx c e=>?_⟩,I.bs,k8 I.ok.bsz I.sz,λb o e hb=>?_,λb hb z=>?_,I.stack,I.stkFree⟩,rfl,I.bare,Un.laid hkp (kN _) fresh,⟨m,hn,λi x v e1 e2 e3=>?_⟩,λx c e=>?_,?_,λx c e=>?_,λp hp=>?_,I.hok.laid hkp (kN _) ⟨by simp,[],n,.nil,hD⟩,?_⟩
·have hx:(x,NameKind.free)∈scope.names:=qAN hc hx;obtain⟨c,e⟩:=I.ok.has x (.inl (hfr _ hx rfl));exact⟨c,q6L e _ _ (.inl hx)⟩
·obtain⟨o,e⟩:=ho b hb;exact mP (rD (kU e))
·exact(hf b hb).2.2.2.2.1 x c (cel x c e)
·rcases(hf b hb).2.2.2.1 with z|z
 ·exact I.ok.noex b o e z
 exact absurd (mG (kU e) (k8 I.ok.bsz z)) (dM _)
·rcases kJ.mp (I.stkSub b z)with z|z
 ·exact(hf b hb).2.1 z
 exact(hf b hb).2.2.1 z
·have hi:i<ix.length:=by
  by_cases hi:i<ix.length
  ·exact hi
  rw[wE (by simpa[pick]using hi),rL]at e2;split at e2<;>cases e2
 obtain⟨i0,q1,q2,q3,q4⟩:=qF9 hcap hi e1;rw[pN (by simpa[pick]using hi)]at e2;have e2:σ[i0]?=some (some v):=by
  unfold pick at e2;rw[mC,q1]at e2;have e2:σ.getD i0 none=some v:=kL e2;rw[kI]at e2;cases z:σ[i0]? with
  |none=>rw[z]at e2;cases e2
  |some y=>rw[z]at e2;exact g5 some e2
 obtain⟨mX,_,lX⟩:=I.loc;obtain⟨u,r,l⟩:=lX i0 x v q2 e2 (.inr (.inl q4));refine⟨u,r,.inr ⟨.inl (qAO I.ok.kind q4 q3),?_⟩⟩;rcases l with⟨l,_⟩|⟨_,c,e,z⟩
 ·rw[q4]at l;cases l
 obtain⟨o,e',d⟩:=z;exact⟨c,q6L e _ _ (.inl (gP q3)),o,hkp _ _ e',d⟩
·obtain⟨v,o,e',d⟩:=I.cell x c (cel x c e);exact⟨v,o,hkp _ _ e',d⟩
·show upd H s.heap.objs.size (.lst []) (s.heap.objs.size+1)=none;rw[qC (dN (rK _))];exact fresh1
·rw[qC (mP (clt x c e))];exact I.freeC x c (cel x c e)
·obtain⟨p1,p2,p3,p4,p5⟩:=I.pin p (gI _ (by simpa using hp));have lt:=kU p1;exact⟨hkp _ _ p1,by rw[qC (mP lt)];exact p2,mP (rD lt),λz=>(kJ.mp (I.stkSub _ z)).elim p3 p4,p5⟩
show _=N.length
rw[kO,gG]
simp only[pick,h9]
lia)
noncomputable def PIf(X:Cx)(ifs:List Expr)(t:TT):Prop:=∀(pins:List (Addr×Obj)) (s:Shared) (σ:St) (H:Hp) (Q:Bool→Hp→Prop),Inv X pins σ H s→t σ H Q→wpAny (model X.prog X.w) X.A (forIn ifs true λc r=>if r=true then do let ok←isTrue c X.env (eval c X.env);pure (ForInStep.yield ok)else pure (ForInStep.yield r)) (TP X pins σ Q) X.xe s
noncomputable def qAP:TT:=λ_ H Q=>Q true H
theorem qFA{A B:Hp→Prop}{σ:St}{H:Hp}(h:A H):qAP σ H (λb H6=>if b=true then A H6 else B H6):=by show if true=true then A H else B H;rw[kF rfl];exact h
theorem q44{X:Cx}:PIf X [] qAP:=λpins s σ H Q I h=>kX ⟨H,I,h⟩
theorem zE{X:Cx}{c:Expr}{t:TT}(hc:PT X c t):PIf X [c] t:=λpins s σ H Q I h=>by(
rw[x8]
show wpAny _ _ (bind (if true=true then _ else _) _) _ _ _
rw[kF rfl]
refine hI (hI (thn (hc pins s σ H Q I h) λb s1 q=>?_))
exact kX (kX q))
noncomputable def tLC(wi:TI)(g:TG)(tc:TT)(te:TE)(ix:List Nat)(k:Nat):TE:=λσ H Q=>wi σ H λJ H1=>∀D H2,H1 D=none→Same H1 H2→H2 D=some (.lst [])→∃W:Nat→Nat→Hp→Prop,(∃m,W 0 m H2)∧∀i m H3,W i m H3→(J.stop i H3∧Q (.ref D) H3)∨(J.go i H3∧∃N:Hp→Prop,(∀H',N H'→∃m',m'<m∧W (i+1) m' H')∧∀x H4,J.yld i H3 x H4→g x (pick ix σ++List.replicate k none) H4 λσ5 H5=>tc σ5 H5 λb H6=>
   if b=true then te σ5 H6 (λv H7=>∃vs,H7 D=some (.lst vs)∧vs.length<sizeLine∧N (upd H7 D (.lst (vs++[v]))))else N H6)
noncomputable def Own(g:TG)(k:Nat):Prop:=∀x σ H Q,g x σ H Q→g x σ H λσ' H'=>Q σ' H'∧σ'.length=σ.length∧∀j,j<k→σ'[j]?=σ[j]?
noncomputable def OwnS(g:TGs)(k:Nat):Prop:=∀(xs:List V) (σ:St) (H:Hp) (Q:St→Hp→Prop) (σ0:St),σ.length=σ0.length→(∀j,j<k→σ[j]?=σ0[j]?)→g xs σ H Q→g xs σ H λσ' H'=>Q σ' H'∧σ'.length=σ0.length∧∀j,j<k→σ'[j]?=σ0[j]?
theorem qH6{k:Nat}:OwnS gNil k:=λxs σ H Q σ0 h1 h2 ⟨e,q⟩=>⟨e,q,h1,h2⟩
theorem qAQ{i k:Nat}{u:TGs}(h:k≤i)(hu:OwnS u k):OwnS (qIF (vZ i) u) k:=λxs σ H Q σ0 h1 h2 ⟨v,r,e,q⟩=>⟨v,r,e,hu r (σ.set i (some v)) H Q σ0 (gE.trans h1) (λj hj=>by rw[wC (by lia)];exact h2 j hj) q⟩
theorem qH7{K:PySem.W.Frag}{n k:Nat}{g:TGs}(h:OwnS g k):Own (gTup K n g) k:=λx σ H Q ⟨a,xs,e1,e2,e3,q⟩=>⟨a,xs,e1,e2,e3,h xs σ H Q σ rfl (λ_ _=>rfl) q⟩
theorem yJ{i k:Nat}(h:k≤i):Own (vZ i) k:=λx σ H Q q=>⟨q,gE,λj hj=>by rw[wC (by lia)]⟩
theorem qH8{P:Program}{w:World}{A:Around}{R:Result→Shared→Prop}{s:Shared}{elt tg iter:Expr}{ifs:List Expr}{sc:Scope}{pos:Pos}{it acc:Value}{env:Env}(J:Nat→Shared→Prop)
 (turn:∀n s1,J n s1→wpAny (model P w) A (pyNext it) (λr s2=>match r with
  |none=>R (.ok .next) s2
  |some v=>wpAny (model P w) A (letOwnedTupleGo tg it v) (λ_ s3=>wpAny (model P w) A (assign tg env v) (λ_ s4=>
   wpAny (model P w) A (forIn ifs true λc r=>if r=true then do let ok←isTrue c env (eval c env);pure (ForInStep.yield ok)else pure (ForInStep.yield r)) (λok s5=>
    if ok=true then wpAny (model P w) A (eval elt env) (λx s6=>wpAny (model P w) A (call (.builtin "list.append") [acc,x]) (λ_ s7=>∃m,m<n∧J m s7) (notedBy (model P w) A env λe s'=>R (.error e) s') s6) (notedBy (model P w) A env λe s'=>R (.error e) s') s5
    else ∃m,m<n∧J m s5) (notedBy (model P w) A env λe s'=>R (.error e) s') s4) (notedBy (model P w) A env λe s'=>R (.error e) s') s3) (notedBy (model P w) A env λe s'=>R (.error e) s') s2) (notedBy (model P w) A env λe s'=>R (.error e) s') s1)
 (n:Nat) (h:J n s):codeAny (model P w) A (.compLoop (.ListComp elt [⟨tg,iter,ifs,0⟩] sc pos) 0 it acc env) R s:=by(
refine codeAny_loop rfl J (λm s1 hJ=>?_) n h
show wpAny _ A ((compTurn _ 0 it acc env).onRaise (λx=>do noteFrame x env;theTreesLotGoes x)) _ _ s1
refine wpAny_noted ?_
rw[compTurn_list]
refine hI (cP (hI (thn (turn m s1 hJ) λr s2 h2=>?_)))
cases r with
|none=>exact kX h2
|some v=>
 refine hI (thn h2 λ_ s3 h3=>hI (thn h3 λ_ s4 h4=>hI (thn h4 λok s5 h5=>?_)));cases ok with
 |false=>exact kX ⟨rfl,h5⟩
 |true=>exact hI (hI (thn h5 λx s6 h6=>hI (thn h6 λ_ s7 h7=>kX (kX ⟨rfl,h7⟩)))))
structure TurnC(ok:Cx→Prop)(P:Program)(w:World)(K:PySem.W.Frag)(tg:Expr)(J:It)(fp:List Addr)(it:Addr)(tn:Nat→Heap→Prop):Prop where
obj:∀i h,tn i h→∀b∈fp,∃o,h.get? b=some o∧∀v,o.data≠ .cell v
keep:∀i h h',tn i h→(∀b∈fp,∀o,h.get? b=some o→h'.get? b=some o)→tn i h'
item:∀(X:Cx),X.prog=P→X.w=w→X.K=K→ok X→∀(i:Nat) (pins:List (Addr×Obj)) (s:Shared) (σ:St) (H:Hp) (E:Value→Shared→Prop),Inv X pins σ H s→(∀b∈fp,FpOk X pins H b)→tn i s.heap→J.go i H→wpAny (model P w) X.A (pyNext (.ref it)) (λr s1=>∃u,r=some u∧wpAny (model P w) X.A (letOwnedTupleGo tg (.ref it) u) (λ_ s2=>∃x H',Inv X pins σ H' s2∧RelV x u∧J.yld i H x H'∧tn (i+1) s2.heap∧∀b∈fp,H' b=none) E s1) E s
done:∀(X:Cx),X.prog=P→X.w=w→X.K=K→ok X→∀(i:Nat) (pins:List (Addr×Obj)) (s:Shared) (σ:St) (H:Hp) (E:Value→Shared→Prop),Inv X pins σ H s→(∀b∈fp,FpOk X pins H b)→tn i s.heap→J.stop i H→wpAny (model P w) X.A (pyNext (.ref it)) (λr s1=>r=none∧Inv X pins σ H s1) E s
self:∀(A:Around) (i:Nat) (s:Shared) (Q:Value→Shared→Prop) (E:Value→Shared→Prop),tn i s.heap→Q (.ref it) s→wpAny (model P w) A (pyIter (.ref it)) Q E s
noncomputable def PIc(ok:Cx→Prop)(X:Cx)(tg iter:Expr)(wi:TI):Prop:=∀(pins:List (Addr×Obj)) (s:Shared) (σ:St) (H:Hp) (R:It→Hp→Prop),Inv X pins σ H s→wi σ H R→wpAny (model X.prog X.w) X.A (eval iter X.env) (λv s1=>wpAny (model X.prog X.w) X.A (pyIter v) (λitv s2=>∃(it:Addr) (fp:List Addr) (tn:Nat→Heap→Prop) (J:It) (H':Hp),itv=.ref it∧Inv X pins σ H' s2∧TurnC ok X.prog X.w X.K tg J fp it tn∧tn 0 s2.heap∧(∀b∈fp,FpOk X pins H' b)∧R J H') X.xe s1) X.xe s
theorem PI.c{X:Cx}{tg iter:Expr}{wi:TI}(h:PI X tg iter wi):PIc (λX=>X.calm=true) X tg iter wi:=λpins s σ H R I q=>thn (h pins s σ H R I q) λv s1 h1=>thn h1 λitv s2 ⟨it,fp,tn,J,H',a,b,T,r⟩=>⟨it,fp,tn,J,H',a,b,⟨T.obj,T.keep,T.item,T.done,T.self⟩,r⟩
theorem qCP{X:Cx}{elt iter tg:Expr}{ifs:List Expr}{scope:Scope}{pos cp:Pos}{wi:TI}{g:TG}{tc:TT}{te:TE}{use:Option (Value→Sem Unit)}{QQ:Value→Shared→Prop}{pins:List (Addr×Obj)}{s:Shared}{σ:St}{H:Hp}{Q:VK}(N:List Str)(ix:List Nat)(ok:Cx→Prop)(hok:∀C fp s H xe,ok (vL X N scope C fp s H xe))(hi:PIc ok X tg iter wi)
 (hg:∀C fp s H xe,PG (vL X N scope C fp s H xe) tg g) (hif:∀C fp s H xe,PIf (vL X N scope C fp s H xe) ifs tc) (he:∀C fp s H xe,PE (vL X N scope C fp s H xe) elt te)
 (hk:scope.kind=.function) (hc:∀y∈scope.names,y.2≠ .cell) (hfr:∀y∈scope.names,y.2=.free→X.env.kindOf y.1=some .cell) (hcap:q8K X.N X.env.kindOf scope.names N ix=true) (hN:ix.length≤N.length)
 (hnames:∀x∈scope.names,x.2=.local→scope.names.lookup x.1=some .local) (hown:Own g ix.length) (I:Inv X pins σ H s) (h:tLC wi g tc te ix (N.length-ix.length) σ H Q)
 (hfin:∀(C D:Addr) (H':Hp) (s':Shared) (m:Str→Option Value),s'.heap.Ns C m→FpOk X pins H' C→(∀h',Heap.SameBut C s'.heap h'→Inv X pins σ H' { s' with heap:=h' })→Q (.ref D) H'→compPost (model X.prog X.w) X.A X.xe use QQ (.ref D) C (.ok .next) s')
 (hs:∀x,foldedSetIterable iter X.env x=pure x:=by intro _;rfl):
 wpAny (model X.prog X.w) X.A (comprehension (.ListComp elt [⟨tg,iter,ifs,0⟩] scope pos) scope X.env cp (newList []) false (eval iter X.env) use) QQ X.xe s:=by(
refine wpAny_comprehension_free (use:=use) (cl:=clOf X.env scope.names []) rfl hs (q6J λy hy hyf=>I.ok.has _ (.inl (hfr y hy hyf))) hk hnames (thn (hi pins s σ H _ I h) λv s1 h1=>thn h1 λitv s2 h2=>?_)
obtain⟨it,fp,tn,J,H2,e,I2,T,st2,f2,q2⟩:=h2
subst e
refine l7 (nL hc (by intro y hy;simp at hy) (λh₁ hns₁ hsb₁=>?_) hk)
dsimp only at hns₁ hsb₁ ⊢
rw[pD]at hns₁ hsb₁ ⊢
have old:∀b o,s2.heap.get? b=some o→h₁.get? b=some o:=λb o e=>hsb₁.extBut b o (mP (rD (kU e))) (kE _ (kE _ e))
have hacc:h₁.get? s2.heap.objs.size=some { cls:=.type "list",data:=.seq ([]:List Value).toArray }:=hsb₁.extBut _ _ (mP (rK _)) (kE _ (mF _ rfl))
have fob:∀b∈fp,∃o,s2.heap.get? b=some o:=λb hb=>let⟨o,e,_⟩:=T.obj _ _ st2 b hb;⟨o,e⟩
have fresh:H2 s2.heap.objs.size=none:=I2.hok.fresh (kN _)
obtain⟨W,⟨m0,w0⟩,turn⟩:=q2 s2.heap.objs.size (upd H2 s2.heap.objs.size (.lst [])) fresh (Same.upd fresh) qI
have fin:∀{pY σ' H' s'},Inv (vL X N scope (s2.heap.objs.size+1) fp s2 H2 (notedBy (model X.prog X.w) X.A (compEnvC scope (clOf X.env scope.names []) (s2.heap.objs.size+1) X.env) λe s'=>compPost (model X.prog X.w) X.A X.xe use QQ (.ref s2.heap.objs.size) (s2.heap.objs.size+1) (.error e) s')) pY σ' H' s'→Q (.ref s2.heap.objs.size) H'→compPost (model X.prog X.w) X.A X.xe use QQ (.ref s2.heap.objs.size) (s2.heap.objs.size+1) (.ok .next) s':=fun {pY σ' H' s'} J q=>by
 obtain⟨m,hm,_⟩:=id J.loc;refine hfin (s2.heap.objs.size+1) s2.heap.objs.size H' s' m hm (I2.fpOk (g8 _) J.free) (λh' sb=>?_) q;have eb:∀b o,b≠s2.heap.objs.size+1→s'.heap.get? b=some o→h'.get? b=some o:=λb o nb e=>sb.extBut b o nb e;have low:∀b o,s2.heap.get? b=some o→b≠s2.heap.objs.size+1:=λb o e=>mP (rD (kU e));have u:=J.base;have nC:H' (s2.heap.objs.size+1)=none:=J.free;refine I2.call' (ch:=fp) (s':={ s' with heap:=h' }) J.os ⟨λb o e n1 n2 n3=>eb b o (low b o e) (u.keep b o e n1 n2 n3),λb o e n1 n2 n3=>?_,u.free,λb o e n1=>?_,u.tups,u.frzs,u.tbls⟩ (λb o e=>?_) J.bare λb hb=>⟨(f2 b hb).2.2.2.1,(f2 b hb).2.1,(f2 b hb).2.2.2.2.1,(f2 b hb).2.2.2.2.2⟩
 ·obtain⟨sl,q1⟩:=u.slot b o e n1 n2 n3;exact⟨sl,eb b _ (low b o e) q1⟩
 ·obtain⟨o',q1⟩:=u.there b o e n1;exact⟨o',eb b _ (low b o e) q1⟩
 refine(J.hok b o e).stay (λc v hc q1=>eb c v ?_ q1) (λ_ q1=>q1) λ_ _ q1=>q1;rcases hc with rfl|z
 ·exact qH e nC
 exact qH z nC
have IY:Inv (vL X N scope (s2.heap.objs.size+1) fp s2 H2 (notedBy (model X.prog X.w) X.A (compEnvC scope (clOf X.env scope.names []) (s2.heap.objs.size+1) X.env) λe s'=>compPost (model X.prog X.w) X.A X.xe use QQ (.ref s2.heap.objs.size) (s2.heap.objs.size+1) (.error e) s')) [] (pick ix σ++List.replicate (N.length-ix.length) none) (upd H2 s2.heap.objs.size (.lst [])) { s2 with heap:=h₁,toks:=s2.toks+([]:List (Str×Value)).length }:=qH5 I2 f2 fob hk hc hfr hcap hN hns₁ old hacc
generalize hY:vL X N scope (s2.heap.objs.size+1) fp s2 H2 (notedBy (model X.prog X.w) X.A (compEnvC scope (clOf X.env scope.names []) (s2.heap.objs.size+1) X.env) λe s'=>compPost (model X.prog X.w) X.A X.xe use QQ (.ref s2.heap.objs.size) (s2.heap.objs.size+1) (.error e) s')=Y at IY fin
have hgY:PG Y tg g:=hY▸hg _ _ _ _ _
have hifY:PIf Y ifs tc:=hY▸hif _ _ _ _ _
have heY:PE Y elt te:=hY▸he _ _ _ _ _
have hP:Y.prog=X.prog:=by rw[←hY]
have hw:Y.w=X.w:=by rw[←hY]
have hK:Y.K=X.K:=by rw[←hY]
have hcl:ok Y:=hY▸hok _ _ _ _ _
have stat:∀{H':Hp},(∀b∈fp,H' b=none)→∀b∈fp,FpOk Y [] H' b:=fun {H'} hn b hb=>by
 rw[←hY];refine⟨hn b hb,?_,λz=>?_,.inl hb,λx c e=>?_,λp hp=>(f2 b hb).2.2.2.2.2 p (gI _ (by simpa using hp))⟩
 ·obtain⟨o,e⟩:=fob b hb;exact mP (rD (kU e))
 ·rcases kJ.mp (I2.stkSub b z)with z|z
  ·exact(f2 b hb).2.1 z
  exact(f2 b hb).2.2.1 z
 exact(f2 b hb).2.2.2.2.1 x c (q6K _ _ (by intro q;simp at q) e)
have loop:codeAny (model X.prog X.w) X.A (.compLoop (.ListComp elt [⟨tg,iter,ifs,0⟩] scope pos) 0 (.ref it) (.ref s2.heap.objs.size) (compEnvC scope (clOf X.env scope.names []) (s2.heap.objs.size+1) X.env))
 (compPost (model X.prog X.w) X.A X.xe use QQ (.ref s2.heap.objs.size) (s2.heap.objs.size+1)) { s2 with heap:=h₁,toks:=s2.toks+([]:List (Str×Value)).length }:=by
 refine qH8 (λn s'=>∃i H',Inv Y [] (pick ix σ++List.replicate (N.length-ix.length) none) H' s'∧tn i s'.heap∧(∀b∈fp,H' b=none)∧W i n H') ?_ m0
  ⟨0,_,IY,T.keep _ _ _ st2 (λb hb o e=>old b o e),λb hb=>by obtain⟨o,e⟩:=fob b hb;rw[qC (mP (kU e))];exact(f2 b hb).1,w0⟩
 rintro n s3 ⟨i,H3,I3,st3,fr3,w3⟩
 rcases turn i n H3 w3 with⟨stop,qn⟩|⟨go,NN,hNN,step⟩
 ·have d:=T.done Y hP hw hK hcl i [] s3 _ H3 Y.xe I3 (stat fr3) st3 stop;subst hY;refine thn d λr s4 hZ=>?_;obtain⟨hr,I4⟩:=hZ;subst hr;exact fin I4 qn
 have d:=T.item Y hP hw hK hcl i [] s3 _ H3 Y.xe I3 (stat fr3) st3 go;have again:∀{p5:List (Addr×Obj)} {s5 s8:Shared} {σ6:St} {H8:Hp},p5=q68 fp s5.heap→tn (i+1) s5.heap→σ6.length=(pick ix σ++List.replicate (N.length-ix.length) none).length→(∀j,j<ix.length→σ6[j]?=(pick ix σ++List.replicate (N.length-ix.length) none)[j]?)→Inv Y ([]++p5) σ6 H8 s8→NN H8→∃m',m'<n∧∃i H',Inv Y [] (pick ix σ++List.replicate (N.length-ix.length) none) H' s8∧tn i s8.heap∧(∀b∈fp,H' b=none)∧W i m' H':=fun {p5 s5 s8 σ6 H8} e5 st5 l6 k6 I8 q8=>by
  subst e5;obtain⟨m',hm,w8⟩:=hNN _ q8;refine⟨m',hm,i+1,H8,I8.unpinned.weak l6.symm (λj v e=>?_),T.keep _ _ _ st5 λb hb o e=>(I8.pin (b,o) (kZ _ (kZ _ (u6 hb e)))).1,λb hb=>?_,w8⟩
  ·by_cases hj:j<ix.length
   ·rw[k6 j hj];exact e
   rw[wE (by simpa[pick]using hj),rL]at e;split at e<;>cases e
  obtain⟨o,e,_⟩:=T.obj _ _ st5 b hb;exact(I8.pin (b,o) (kZ _ (kZ _ (u6 hb e)))).2.1
 have tail:∀(r:Option Value) (s4:Shared),(∃u,r=some u∧wpAny (model Y.prog Y.w) Y.A (letOwnedTupleGo tg (.ref it) u) (λ_ s2=>∃x H',Inv Y [] (pick ix σ++List.replicate (N.length-ix.length) none) H' s2∧RelV x u∧J.yld i H3 x H'∧tn (i+1) s2.heap∧∀b∈fp,H' b=none) Y.xe s4)→(match r with
  |none=>compPost (model X.prog X.w) X.A X.xe use QQ (.ref s2.heap.objs.size) (s2.heap.objs.size+1) (.ok .next) s4
  |some v=>wpAny (model Y.prog Y.w) Y.A (letOwnedTupleGo tg (.ref it) v) (λ_ s₁=>wpAny (model Y.prog Y.w) Y.A (assign tg Y.env v) (λ_ s₂=>
   wpAny (model Y.prog Y.w) Y.A (forIn ifs true λc r=>if r=true then do let ok←isTrue c Y.env (eval c Y.env);pure (ForInStep.yield ok)else pure (ForInStep.yield r)) (λok s₃=>
    if ok=true then wpAny (model Y.prog Y.w) Y.A (eval elt Y.env) (λx s₄=>wpAny (model Y.prog Y.w) Y.A (call (.builtin "list.append") [.ref s2.heap.objs.size,x]) (λ_ s₅=>∃m,m<n∧∃i H',Inv Y [] (pick ix σ++List.replicate (N.length-ix.length) none) H' s₅∧tn i s₅.heap∧(∀b∈fp,H' b=none)∧W i m H') Y.xe s₄) Y.xe s₃
    else ∃m,m<n∧∃i H',Inv Y [] (pick ix σ++List.replicate (N.length-ix.length) none) H' s₃∧tn i s₃.heap∧(∀b∈fp,H' b=none)∧W i m H') Y.xe s₂) Y.xe s₁) Y.xe s4):=by
  rintro r s4 ⟨u,rfl,h4⟩
  dsimp only;refine thn h4 λ_ s5 hZ=>?_;obtain⟨x,H5,I5,r5,y5,st5,fr5⟩:=hZ;have I5':=I5.pinned (stat fr5) (T.obj _ _ st5);refine thn (hgY _ s5 _ H5 x u _ I5' r5 (hown _ _ _ _ (step x H5 y5))) λ_ s6 hZ=>?_;obtain⟨σ6,H6,I6,q6,l6,k6⟩:=hZ;refine thn (hifY _ s6 σ6 H6 _ I6 q6) λb s7 hZ=>?_;obtain⟨H7,I7,q7⟩:=hZ;cases b with
  |false=>rw[hV (by decide)]at q7 ⊢;exact again rfl st5 l6 k6 I7 q7
  |true=>rw[kF rfl]at q7 ⊢;refine thn (heY _ s7 σ6 H7 _ I7 q7) λy s8 hZ=>?_;obtain⟨v,H8,I8,r8,vs,e8,hz,q8⟩:=hZ;refine thn (q2W (X:=Y) _ s8 σ6 H8 (.ref s2.heap.objs.size) [v] (.ref s2.heap.objs.size) [y] (λ_ H9=>NN H9) I8 rfl (.cons r8 .nil) ⟨s2.heap.objs.size,vs,v,rfl,rfl,e8,hz,q8⟩) λ_ s9 hZ=>?_;obtain⟨_,H9,I9,_,q9⟩:=hZ;exact again rfl st5 l6 k6 I9 q9
 subst hY;exact thn d tail
exact codeAny_compStart_list loop (T.self X.A 0 _ _ _ (T.keep _ _ _ st2 λb hb o e=>old b o e) loop))
theorem qLJ{X:Cx}{elt iter tg:Expr}{ifs:List Expr}{scope:Scope}{pos:Pos}{wi:TI}{g:TG}{tc:TT}{te:TE}(N:List Str)(ix:List Nat)(hcalm:X.calm=true)(hi:PI X tg iter wi)
 (hg:∀C fp s H xe,PG (vL X N scope C fp s H xe) tg g) (hif:∀C fp s H xe,PIf (vL X N scope C fp s H xe) ifs tc) (he:∀C fp s H xe,PE (vL X N scope C fp s H xe) elt te)
 (hk:scope.kind=.function) (hc:∀y∈scope.names,y.2≠ .cell) (hfr:∀y∈scope.names,y.2=.free→X.env.kindOf y.1=some .cell) (hcap:q8K X.N X.env.kindOf scope.names N ix=true) (hN:ix.length≤N.length)
 (hnames:∀x∈scope.names,x.2=.local→scope.names.lookup x.1=some .local) (hown:Own g ix.length) (hs:∀x,foldedSetIterable iter X.env x=pure x:=by intro _;rfl):
 PE X (.ListComp elt [⟨tg,iter,ifs,0⟩] scope pos) (tLC wi g tc te ix (N.length-ix.length)):=by intro pins s σ H Q I h;rw[eval_ListComp];exact qCP N ix _ (λ_ _ _ _ _=>hcalm) hi.c hg hif he hk hc hfr hcap hN hnames hown I h (λC D H' s' m hm fok inv q=>⟨m,hm,λh' sb=>⟨.ref D,H',inv h' sb,rfl,q⟩⟩) hs
noncomputable def qCQ(XN:List Str)(kd:Str→Option NameKind)(sc:Scope)(N:List Str)(ix:List Nat):Bool:=decide (sc.kind=.function)&&sc.names.all (λy=>decide (y.2≠ .cell)&&(decide (y.2≠ .free)||decide (kd y.1=some .cell))&&(decide (y.2≠ .local)||decide (sc.names.lookup y.1=some .local)))&&q8K XN kd sc.names N ix&&decide (ix.length≤N.length)
theorem vE{X:Cx}{elt iter tg:Expr}{ifs:List Expr}{scope:Scope}{pos:Pos}{wi:TI}{g:TG}{tc:TT}{te:TE}(N:List Str)(ix:List Nat)(hcalm:X.calm=true)(hi:PI X tg iter wi)
 (hg:∀C fp s H xe,PG (vL X N scope C fp s H xe) tg g) (hif:∀C fp s H xe,PIf (vL X N scope C fp s H xe) ifs tc) (he:∀C fp s H xe,PE (vL X N scope C fp s H xe) elt te)
 (ok:qCQ X.N X.env.kindOf scope N ix=true) (hown:Own g ix.length) (hs:∀x,foldedSetIterable iter X.env x=pure x:=by intro _;rfl):
 PE X (.ListComp elt [⟨tg,iter,ifs,0⟩] scope pos) (tLC wi g tc te ix (N.length-ix.length)):=by(
unfold qCQ at ok
rw[mI,mI,mI,gW]at ok
obtain⟨⟨⟨h1,h2⟩,h3⟩,h4⟩:=ok
have h2':∀y∈scope.names,y.2≠ .cell∧(y.2≠ .free∨X.env.kindOf y.1=some .cell)∧(y.2≠ .local∨scope.names.lookup y.1=some .local):=λy hy=>by have q:=h2 y hy;rw[mI,mI,rW,rW,kP,kP,kP,kP,kP]at q;exact⟨q.1.1,q.1.2,q.2⟩
exact qLJ N ix hcalm hi hg hif he (mM h1) (λy hy=>(h2' y hy).1) (λy hy e=>(h2' y hy).2.1.resolve_left (λz=>z e)) h3 (mM h4) (λy hy e=>(h2' y hy).2.2.resolve_left (λz=>z e)) hown hs)
theorem qFB{lo:Int}{n:Nat}{D:Addr}{H2:Hp}{g:TG}{tc:TT}{te:TE}{σ0:St}{Q:VK}(Pv:Nat→Hp→Prop)(h0:Pv 0 H2)
 (hs:∀(i:Nat) H,i<n→Pv i H→g (.int (lo+i)) σ0 H λσ5 H5=>tc σ5 H5 λb H6=>if b=true then te σ5 H6 (λv H7=>∃vs,H7 D=some (.lst vs)∧vs.length<sizeLine∧Pv (i+1) (upd H7 D (.lst (vs++[v]))))else Pv (i+1) H6) (hd:∀H,Pv n H→Q (.ref D) H):
 ∃W:Nat→Nat→Hp→Prop,(∃m,W 0 m H2)∧∀i m H3,W i m H3→((Itr lo n).stop i H3∧Q (.ref D) H3)∨((Itr lo n).go i H3∧∃N:Hp→Prop,(∀H',N H'→∃m',m'<m∧W (i+1) m' H')∧∀x H4,(Itr lo n).yld i H3 x H4→g x σ0 H4 λσ5 H5=>tc σ5 H5 λb H6=>
   if b=true then te σ5 H6 (λv H7=>∃vs,H7 D=some (.lst vs)∧vs.length<sizeLine∧N (upd H7 D (.lst (vs++[v]))))else N H6):=by(
refine⟨λi m H=>m=n-i∧i≤n∧Pv i H,⟨n,by simp,mL _,h0⟩,?_⟩
rintro i m H ⟨rfl,hi,p⟩
by_cases hlt:i<n
·refine .inr ⟨hlt,Pv (i+1),λH' z=>⟨n-(i+1),by lia,rfl,by lia,z⟩,?_⟩;rintro x H4 ⟨rfl,rfl⟩
 exact hs i _ hlt p
obtain rfl:i=n:=by lia
exact .inl ⟨kN _,hd _ p⟩)
theorem qCR{K:PySem.W.Frag}{a:Addr}{xs:List V}{D:Addr}{H2:Hp}{g:TG}{tc:TT}{te:TE}{σ0:St}{Q:VK}(Pv:Nat→Hp→Prop)(h0:Pv 0 H2)(hl:∀i H,Pv i H→SqL K H a xs)
 (hs:∀(i:Nat) x H,xs[i]?=some x→Pv i H→g x σ0 H λσ5 H5=>tc σ5 H5 λb H6=>if b=true then te σ5 H6 (λv H7=>∃vs,H7 D=some (.lst vs)∧vs.length<sizeLine∧Pv (i+1) (upd H7 D (.lst (vs++[v]))))else Pv (i+1) H6) (hd:∀H,Pv xs.length H→Q (.ref D) H):
 ∃W:Nat→Nat→Hp→Prop,(∃m,W 0 m H2)∧∀i m H3,W i m H3→((Itl K a).stop i H3∧Q (.ref D) H3)∨((Itl K a).go i H3∧∃N:Hp→Prop,(∀H',N H'→∃m',m'<m∧W (i+1) m' H')∧∀x H4,(Itl K a).yld i H3 x H4→g x σ0 H4 λσ5 H5=>tc σ5 H5 λb H6=>
   if b=true then te σ5 H6 (λv H7=>∃vs,H7 D=some (.lst vs)∧vs.length<sizeLine∧N (upd H7 D (.lst (vs++[v]))))else N H6):=by(
refine⟨λi m H=>m=xs.length-i∧i≤xs.length∧Pv i H,⟨xs.length,by simp,mL _,h0⟩,?_⟩
rintro i m H ⟨rfl,hi,p⟩
have hq:=hl i H p
by_cases hlt:i<xs.length
·have e1:xs[i]?=some xs[i]:=kC hlt;refine .inr ⟨⟨xs,_,hq,e1⟩,Pv (i+1),λH' z=>⟨xs.length-(i+1),by lia,rfl,by lia,z⟩,?_⟩;rintro x H4 ⟨rfl,hx⟩
 exact hs i x _ (hx xs hq) p
obtain rfl:i=xs.length:=by lia
exact .inl ⟨⟨xs,hq,kN _⟩,hd _ p⟩)
theorem qFC{K:PySem.W.Frag}{a:Addr}{xs:List V}{k:Nat}{D:Addr}{H2:Hp}{te:TE}{σ0:St}{Q:VK}(Pv:Nat→Hp→Prop)(h0:Pv 0 H2)(hl:∀i H,Pv i H→SqL K H a xs)
 (hs:∀(i:Nat) x H,xs[i]?=some x→Pv i H→te (σ0.set k (some x)) H (λv H7=>∃vs,H7 D=some (.lst vs)∧vs.length<sizeLine∧Pv (i+1) (upd H7 D (.lst (vs++[v]))))) (hd:∀H,Pv xs.length H→Q (.ref D) H):
 ∃W:Nat→Nat→Hp→Prop,(∃m,W 0 m H2)∧∀i m H3,W i m H3→((Itl K a).stop i H3∧Q (.ref D) H3)∨((Itl K a).go i H3∧∃N:Hp→Prop,(∀H',N H'→∃m',m'<m∧W (i+1) m' H')∧∀x H4,(Itl K a).yld i H3 x H4→vZ k x σ0 H4 λσ5 H5=>qAP σ5 H5 λb H6=>if b=true then te σ5 H6 (λv H7=>∃vs,H7 D=some (.lst vs)∧vs.length<sizeLine∧N (upd H7 D (.lst (vs++[v]))))else N H6):=qCR (g:=vZ k) (tc:=qAP) Pv h0 hl (λi x H hx p=>qFA (σ:=σ0.set k (some x)) (A:=λH6=>te (σ0.set k (some x)) H6 _) (B:=λH6=>Pv (i+1) H6) (hs i x H hx p)) hd
noncomputable def rEmp(K:PySem.W.Frag):R2:=λx y H Q=>∃p xs e,x=.ref p∧y=.ref e∧SqL K H p xs∧SqL K H e []∧Q (.bl (decide (xs=[]))) H
theorem q97{X:Cx}(hu:X.A.units+64<cLine):OpR X (compareOp .Eq) (rEmp X.K):=by(
intro pins s σ H x y v u Q I rx ry hZ
obtain⟨p,xs,e,ex,ey,hp,he,q⟩:=hZ
subst ex ey
cases rx
cases ry
obtain⟨i1,r1,p1,_⟩:=I.list hp
obtain⟨i2,r2,p2,_⟩:=I.list he
have l1:=r1.length
have l2:=r2.length
cases xs with
|nil=>exact x6 (e:=λ_=>true) p1.isList p2.isList (by simp at l1 l2 ⊢;lia) (by lia) (λj h1 h2=>by simp at l1 h1;lia) ⟨.bl true,H,I,by rw[vK];rfl,q⟩
|cons z zs=>exact SeqAt.eq_list_lengthsAt p1.isList p2.isList (by simp at l1 l2 ⊢;lia) (by lia) ⟨.bl false,H,I,rfl,q⟩)
section
variable{X:Cx}{o e f:Expr}{apos cpos:Pos}{td ty tx:TE}
theorem qIM{P:Program}{w:World}{k:Key}{u:Value}(h:(y8 P w).is k u=true):RelV (kV k) u:=by(
cases k with
|inl i=>exact lO h
|inr x=>exact nP h)
theorem q2Y{α β:Type}{F:α→β→Prop}:∀{l₁:List α} {l₂:List β},l₁.length=l₂.length→(∀(j:Nat) a b,l₁[j]?=some a→l₂[j]?=some b→F a b)→Paired F l₁ l₂
| [],[],_,_=>.nil
|a::l,b::l',h,k=>.cons (k 0 a b rfl rfl) (q2Y (by simpa using h) λj x y hx hy=>k (j+1) x y (by simpa using hx) (by simpa using hy))
| [],_::_,h,_=>by simp at h
|_::_,[],h,_=>by simp at h
end
theorem q98:∀{ns:List Int} {vs:List Value},Vals (ns.map V.int) vs→IntsAre vs ns
| [],_,.nil=>.nil
|n::ns,_,.cons h t=>by obtain⟨t0,rfl⟩:=h;exact .cons n t0 (q98 t)
section
variable{X:Cx}
theorem q45:∀{vs:List Value} {ns:List Int},IntsAre vs ns→Vals (ns.map V.int) vs
|_,_,.nil=>.nil
|_,_,.cons n t h=>.cons ⟨t,rfl⟩ (q45 h)
theorem q99:q3A X (.builtin "sorted") (λxs H Q=>∃(p:Addr) (ns:List Int),xs=[.ref p]∧SqL X.K H p (ns.map V.int)∧ns.length<64∧∀ns':List Int,ns'.Perm ns→ns'.Pairwise (·≤·)→NewO H (.lst (ns'.map V.int)) Q):=by(
intro pins s σ H xs us Q I r hZ
obtain⟨p,ns,ex,hq,h64,q⟩:=hZ
subst ex
obtain⟨u,rfl,rx⟩:=q1Y r
cases rx
obtain⟨its,rv,pl,hz⟩:=I.list hq
have hi:=q98 rv
have hlen:its.length<64:=by rw[←rv.length,h9];exact h64
refine sorted_ints pl.isList hi hlen λout ns' a1 a2 a3=>?_
obtain⟨e,he⟩:=sortedAll_at s.heap its out
have hz':(ns'.map V.int).length≤sizeLine:=by rw[h9,a2.length_eq,gA];lia
exact⟨.ref (s.heap.objs.size+1),_,I.laid (t':=s.toks) (λ_ _ h=>sortedAll_old h) (g8 _) (show jK X.prog X.w _ _ _ (.lst _)from⟨hz',out.toList,e,q45 a1,by simpa[seqObj]using he⟩),rfl,(q ns' a2 a3).at _ (I.hok.fresh (g8 _))⟩)
end
structure Mk0(K:PySem.W.Frag)(C:Addr):Prop where
makes:PySem.W.makesIn K C=true
init:PySem.W.findIn K (.ref C) "__init__"=some (some (.builtin "object.__init__"))
kp:PySem.W.keepIn K (.ref C)=true
section
variable{X:Cx}{C:Addr}{x:Str}{p pos:Pos}
noncomputable def tMk0(C:Addr):TE:=λσ H Q=>∀x dx,H x=none→H dx=none→dx≠x→Q (.ref x) (upd (upd H dx (.own x)) x (.ins C dx []))
theorem qFD{pins:List (Addr×Obj)}{σ:St}{H:Hp}{s:Shared}{Q:VK}(M:Mk0 X.K C)(I:Inv X pins σ H s)(h:tMk0 C σ H Q):wpAny (model X.prog X.w) X.A (call (.ref C) []) (EP X pins σ Q) X.xe s:=by(
have hq:=h (s.heap.objs.size+1) s.heap.objs.size (I.hok.fresh (g8 _)) (I.hok.fresh (kN _)) (mP (rK _))
have I2:=Inv.made (C:=C) I
have kin:=I.kIn
obtain⟨hp,g,d,t,os⟩:=s
have Y:=xL (M:=model X.prog X.w) kin M.makes
have hx:((hp.push PySem.W.emptyDict).push (PySem.W.instObj C hp.objs.size)).get? (hp.objs.size+1)=some (PySem.W.instObj C hp.objs.size):=by have:=mF (hp.push PySem.W.emptyDict) (o:=PySem.W.instObj C hp.objs.size) rfl;rwa [pD]at this
have ty:PySem.W.Looks (model X.prog X.w) ((hp.push PySem.W.emptyDict).push (PySem.W.instObj C hp.objs.size)) (typeOf (.ref (hp.objs.size+1))) (.ref C):=(xN hx).andThen .now
have top:PySem.W.Looks (model X.prog X.w) ((hp.push PySem.W.emptyDict).push (PySem.W.instObj C hp.objs.size)) (isInstance (.ref (hp.objs.size+1)) (.type "object")) true:=ty.andThen (Y.top.keeps λb o e=>kE _ (kE _ e))
refine rS (lR Y (wD kin M.init) (λself=>bA (PySem.W.oi_bind self)) (.inr ⟨rfl,rfl⟩) ?_)
refine wG PySem.W.oi_plain PySem.W.entry_oi (@lG (model X.prog X.w) _ _ _ "object.__init__" "object" "__init__" (.ref (hp.objs.size+1)) [] [] _ PySem.W.oi_kind PySem.W.oi_split top (PySem.W.oi_args (.ref (hp.objs.size+1))) ?_)
rw[PySem.W.oi_run]
exact kX ⟨rfl,⟨.ref (hp.objs.size+1),_,I2,rfl,hq⟩⟩)
theorem q9A(M:Mk0 X.K C)(hg:Gl X x)(hm:X.mg x=some (.ref C))(hdb:(x==("__debug__":Str))=false:=by decide):PE X (.Call (.Name x p) [] [] pos) (tMk0 C):=by intro pins s σ H Q I h;exact g7 (q2U I hg hm (cZ I.kIn M.kp (qFD M I h)) hdb)
theorem q11{e:Expr}{t1 t2:TE}(h1:PE X e t1)(h2:PE X e t2):PE X e (λσ H Q=>t1 σ H Q∨t2 σ H Q):=λpins s σ H Q I h=>h.elim (h1 pins s σ H Q I) (h2 pins s σ H Q I)
end
section
variable{X:Cx}{pins:List (Addr×Obj)}{σ:St}{H:Hp}{s:Shared}{a:Addr}
theorem Inv.freeze{kvs:List (Key×V)}{o:Obj}(I:Inv X pins σ H s)(e:H a=some (.dK kvs))(ho:s.heap.get? a=some o):Inv X pins σ (upd H a (.frz o (.dK kvs))) s:=by(
have ne:∀b u,H b=some u→u≠ .dK kvs→b≠a:=λb u q n z=>by rw[z,e]at q;exact n (kL q).symm
have nn:∀b,H b=none→b≠a:=λb q z=>by rw[z,e]at q;cases q
refine⟨I.ok,I.os,I.bare,I.base.trans ⟨λb u q _ _ _=>q,λb u q _ _ _=>⟨u.slots,q⟩,λb u q n _=>by rw[qC (nn b n)];exact n,λb u q _=>⟨u,q⟩,λb xs q=>by rw[qC (ne b _ q (by intro z;cases z))];exact q,λb u v q=>by rw[qC (ne b _ q (by intro z;cases z))];exact q,λb ps q=>⟨#[],by rw[qC (ne b _ q (by intro z;cases z)),q];simp⟩⟩,I.loc,I.cell,by rw[qC (nn _ I.free)];exact I.free,λx c q=>by rw[qC (nn _ (I.freeC x c q))];exact I.freeC x c q,λp hp=>?_,λb u q=>?_,I.len⟩
·obtain⟨q1,q2,q3⟩:=I.pin p hp;exact⟨q1,by rw[qC (nn _ q2)];exact q2,q3⟩
have st:∀b u,jK X.prog X.w H s.heap b u→jK X.prog X.w (upd H a (.frz o (.dK kvs))) s.heap b u:=λb u q=>q.stay (λ_ _ _ z=>z) (λc z=>by rw[qC (ne c _ z (by intro z;cases z))];exact z) (λc xs z=>by rw[qC (ne c _ z (by intro z;cases z))];exact z)
by_cases hb:b=a
·subst hb;rw[qI]at q;cases q;exact⟨ho,st b _ (I.hok b _ e)⟩
rw[qC hb]at q
exact st b u (I.hok b u q))
theorem Inv.thaw{o:Obj}{u:HO}(I:Inv X pins σ H s)(hne:∀o u,X.H₀ a≠some (.frz o u))(e:H a=some (.frz o u)):Inv X pins σ (upd H a u) s:=by(
have ne:∀b v,H b=some v→v≠ .frz o u→b≠a:=λb v q n z=>by rw[z,e]at q;exact n (kL q).symm
have nn:∀b,H b=none→b≠a:=λb q z=>by rw[z,e]at q;cases q
have nf:∀b v,X.H₀ b=some v→(∃o' u',v=.frz o' u')→b≠a:=λb v q ⟨o',u',z⟩ w=>by rw[w,z]at q;exact hne o' u' q
refine⟨I.ok,I.os,I.bare,⟨I.base.keep,I.base.slot,λb v q n hx=>?_,I.base.there,λb xs q=>?_,λb v w q=>?_,λb ps q=>?_⟩,I.loc,I.cell,by rw[qC (nn _ I.free)];exact I.free,λx c q=>by rw[qC (nn _ (I.freeC x c q))];exact I.freeC x c q,λp hp=>?_,λb v q=>?_,I.len⟩
·have:=I.base.free b v q n hx;rw[qC (nn b this)];exact this
·have:=I.base.tups b xs q;rw[qC (ne b _ this (by intro z;cases z))];exact this
·rw[qC (nf b _ q ⟨_,_,rfl⟩)];exact I.base.frzs b v w q
·obtain⟨more,q2⟩:=I.base.tbls b ps q;exact⟨more,by rw[qC (ne b _ q2 (by intro z;cases z))];exact q2⟩
·obtain⟨q1,q2,q3⟩:=I.pin p hp;exact⟨q1,by rw[qC (nn _ q2)];exact q2,q3⟩
have st:∀b v,jK X.prog X.w H s.heap b v→jK X.prog X.w (upd H a u) s.heap b v:=λb v q=>q.stay (λ_ _ _ z=>z) (λc z=>by rw[qC (ne c _ z (by intro z;cases z))];exact z) (λc xs z=>by rw[qC (ne c _ z (by intro z;cases z))];exact z)
by_cases hb:b=a
·subst hb;rw[qI]at q;cases q;exact st b _ (I.hok b _ e).2
rw[qC hb]at q
exact st b v (I.hok b v q))
end
noncomputable def Itd(a:Addr)(o:Obj)(kvs:List (Key×V)):It:=⟨λi H=>H a=some (.frz o (.dK kvs))∧i<kvs.length,λi H x H'=>H'=H∧∃kv,kvs[i]?=some kv∧x=kV kv.1,λi H=>H a=some (.frz o (.dK kvs))∧kvs.length≤i⟩
theorem qDV{P:Program}{w:World}{K:PySem.W.Frag}{tg:Expr}(a it:Addr)(o:Obj){kvs:List (Key×V)}{vs:List (Key×Value)}{ep:Nat}(rel:KV kvs vs)(hD:∀h:Heap,h.get? a=some o→h.DictAt (y8 P w) a vs ep):
 Turn P w K tg (Itd a o kvs) [it] it (λi h=>h.IsKeyIter it a i vs.length ep) where
mem:=by simp
obj:=λi h st b hb=>by
 have e:b=it:=by simpa using hb
 subst e;obtain⟨o',e,c,d⟩:=st;exact⟨o',e,λv z=>by rw[d]at z;cases z⟩
keep:=λi h h' st k=>st.at λo e=>k it (by simp) o e
item:=by
 intro X hP hw hK hc i pins s σ H E I hf st hg;subst hP hw hK;obtain⟨ha,hi⟩:=hg;obtain⟨ho,_⟩:=I.hok a _ ha;have hl:=rel.length;have hi':i<vs.length:=by lia
 obtain⟨f0,f1,f2,f3,f4,f5⟩:=hf it (by simp);refine wpAny_pyNext_dict_item (k:=vs[i].1) (v:=vs[i].2) st (hD _ ho) (kC hi') λkey h' hk st' sb=>?_;have I1:Inv X pins σ H { s with heap:=h' }:=I.turned (t':=s.toks) (λb o hb e=>(sb.2 b hb).trans e) f0 f1 f3 f4 f5;obtain⟨o',e',c',d'⟩:=id st';refine⟨key,rfl,qE7 (s:={ s with heap:=h' }) e' c' d' (by decide) ⟨kV kvs[i].1,H,I1,?_,⟨rfl,kvs[i],kC hi,rfl⟩,st',λb hb=>(hf b hb).1⟩⟩;have ek:=g5 (λl=>l[i]?) rel.keys;simp only[mC,kC hi,kC hi',x9]at ek;rw[kL ek];exact qIM hk
done:=by intro X hP hw hK hc i pins s σ H E I hf st hg;subst hP hw hK;obtain⟨ha,hi⟩:=hg;obtain⟨ho,_⟩:=I.hok a _ ha;have hl:=rel.length;obtain⟨f0,f1,f2,f3,f4,f5⟩:=hf it (by simp);exact wpAny_pyNext_dict_end (I.ok.hd hc) st (hD _ ho) (gM (by lia)) λh' eb=>⟨rfl,I.turned (t':=s.toks) (λb o hb e=>eb b o hb e) f0 f1 f3 f4 f5⟩
self:=λ_ _ _ _ _ st h=>wpAny_pyIter_keyiter st h
section
variable{X:Cx}{tg:Expr}
noncomputable def iDct(td:TE):TI:=λσ H R=>td σ H λx H1=>∃a kvs,x=.ref a∧H1 a=some (.dK kvs)∧∀o,R (Itd a o kvs) (upd H1 a (.frz o (.dK kvs)))
theorem qH9{d:Expr}{td:TE}(hd:PE X d td):PI X tg d (iDct td):=by(
intro pins s σ H R I h
refine thn (hd pins s σ H _ I h) λv s1 hZ=>?_
obtain⟨x,H1,I1,r1,q1⟩:=hZ
obtain⟨a,kvs,e,ha,q⟩:=q1
subst e
cases r1
obtain⟨z,lo,vs,rel,dd⟩:=qAF I1.hok ha
obtain⟨ep,hat⟩:=dd.dictAt
obtain⟨o,es,ho,hr⟩:=id hat
have I2:=I1.freeze ha ho
refine wpAny_pyIter_dict lo hat ?_
refine⟨s1.heap.objs.size,[s1.heap.objs.size],_,_,_,rfl,I2.kept (t':=s1.toks) λb o e=>kE _ e,qDV a _ o rel (λh' h=>⟨o,es,h,hr⟩),⟨_,mF _ rfl,rfl,rfl⟩,λb hb=>?_,q o⟩
have e:b=s1.heap.objs.size:=by simpa using hb
subst e
exact I2.fpOk (kN _) (I2.hok.fresh (kN _)))
theorem qK5{pins:List (Addr×Obj)}{σ:St}{H:Hp}{s:Shared}{a:Addr}{kvs:List (Key×V)}(I:Inv X pins σ H s)(e:H a=some (.dK kvs)):∀o u,X.H₀ a≠some (.frz o u):=λo u q=>by have:=I.base.frzs a o u q;rw[e]at this;cases this
noncomputable def qLK(t:TE):TE:=λσ H Q=>∃a kvs,H a=some (.dK kvs)∧t σ H λv H'=>∃o u,H' a=some (.frz o u)∧Q v (upd H' a u)
theorem qCS{e:Expr}{t:TE}(h:PE X e t):PE X e (qLK t):=by(
intro pins s σ H Q I hZ
obtain⟨a,kvs,ha,q⟩:=hZ
have nf:=qK5 I ha
refine thn (h pins s σ H _ I q) λu s' ⟨v,H',I',r,o,w,e,q⟩=>⟨v,_,I'.thaw nf e,r,q⟩)
theorem qHA{a:Addr}{o:Obj}{kvs:List (Key×V)}{D:Addr}{H2:Hp}{g:TG}{tc:TT}{te:TE}{σ0:St}{Q:VK}(Pv:Nat→Hp→Prop)(h0:Pv 0 H2)(hl:∀i H,Pv i H→H a=some (.frz o (.dK kvs)))
 (hs:∀(i:Nat) kv H,kvs[i]?=some kv→Pv i H→g (kV kv.1) σ0 H λσ5 H5=>tc σ5 H5 λb H6=>if b=true then te σ5 H6 (λv H7=>∃vs,H7 D=some (.lst vs)∧vs.length<sizeLine∧Pv (i+1) (upd H7 D (.lst (vs++[v]))))else Pv (i+1) H6) (hd:∀H,Pv kvs.length H→Q (.ref D) H):
 ∃W:Nat→Nat→Hp→Prop,(∃m,W 0 m H2)∧∀i m H3,W i m H3→((Itd a o kvs).stop i H3∧Q (.ref D) H3)∨((Itd a o kvs).go i H3∧∃N:Hp→Prop,(∀H',N H'→∃m',m'<m∧W (i+1) m' H')∧∀x H4,(Itd a o kvs).yld i H3 x H4→g x σ0 H4 λσ5 H5=>tc σ5 H5 λb H6=>
   if b=true then te σ5 H6 (λv H7=>∃vs,H7 D=some (.lst vs)∧vs.length<sizeLine∧N (upd H7 D (.lst (vs++[v]))))else N H6):=by(
refine⟨λi m H=>m=kvs.length-i∧i≤kvs.length∧Pv i H,⟨kvs.length,by simp,mL _,h0⟩,?_⟩
rintro i m H ⟨rfl,hi,p⟩
have q:=hl i H p
by_cases hlt:i<kvs.length
·refine .inr ⟨⟨q,hlt⟩,Pv (i+1),λH' z=>⟨kvs.length-(i+1),by lia,rfl,by lia,z⟩,?_⟩;rintro v H' ⟨rfl,kv,hk,rfl⟩
 exact hs i kv _ hk p
obtain rfl:i=kvs.length:=by lia
exact .inl ⟨⟨q,kN _⟩,hd _ p⟩)
end
section
variable{X:Cx}
theorem q46{ns:List Int}{us:List Value}(r:Vals (ns.map V.int) us){j:Nat}(h:j<us.length):∃t,us[j]=.int (ns.getD j 0) t:=by(
obtain⟨x,e,q⟩:=r.atN h
rw[mC]at e
cases z:ns[j]? with
|none=>rw[z]at e;cases e
|some i=>rw[z]at e;obtain rfl:V.int i=x:=kL e;obtain⟨t,q⟩:=q;refine⟨t,?_⟩;rw[kI,z];exact q)
theorem qAR{ns ms:List Int}(h:ns.length=ms.length):(List.range ns.length).all (λj=>ns.getD j 0==ms.getD j 0)=decide (ns=ms):=by(
rw[rC,gW,kP]
constructor
·intro z;refine rN h λj h1 h2=>?_;have:=z j (mE.mpr h1);rw[rF,kI,kI,kC h1,kC h2]at this;exact this
rintro rfl j _
exact beq_self_eq_true _)
noncomputable def qLL(K:PySem.W.Frag):R2:=λx y H Q=>∃(a b:Addr) (ns ms:List Int),x=.ref a∧y=.ref b∧SqT K H a (ns.map V.int)∧SqT K H b (ms.map V.int)∧ns.length=ms.length∧Q (.bl (!decide (ns=ms))) H
theorem qHB(hu:X.A.units+64<cLine):OpR X (compareOp .NotEq) (qLL X.K):=by(
intro pins s σ H x y v u Q I rx ry h
obtain⟨a,b,ns,ms,rfl,rfl,ha,hb,hl,q⟩:=h
cases rx
cases ry
obtain⟨i1,r1,p1,_⟩:=I.tuple ha
obtain⟨i2,r2,p2,_⟩:=I.tuple hb
have l1:=r1.length
have l2:=r2.length
rw[h9]at l1 l2
refine nU (e:=λj=>ns.getD j 0==ms.getD j 0) (show s.heap.IsTuple a i1.toArray from p1) (show s.heap.IsTuple b i2.toArray from p2) (by lia) (λj h1 h2=>?_) _ _ _ _ ⟨.bl _,H,I,?_,q⟩
·obtain⟨t1,e1⟩:=q46 r1 (j:=j) (by simpa using h1);obtain⟨t2,e2⟩:=q46 r2 (j:=j) (by simpa using h2);have z:=pF (A:=X.A.in1) (s:=s) (ns.getD j 0) t1 (ms.getD j 0) t2;rw[←e1,←e2]at z;simpa using z
rw[show min i1.toArray.size i2.toArray.size=ns.length by simp;lia,qAR hl,show(i1.toArray.size==i2.toArray.size)=true by simp;lia,aY]
rfl)
end
end L2
namespace W1
open PySem L2
structure Tl where
b:Int
lv:Int
cl:Int
bo:Int
noncomputable abbrev Tl.ns(T:Tl):List Int:=[T.b,T.lv,T.cl,T.bo]
noncomputable def TlAt(H:Hp)(v:V)(T:Tl):Prop:=∃a,v=.ref a∧H a=some (.tup (T.ns.map V.int))
theorem TlAt.same{H H':Hp}{v:V}{T:Tl}(s:Same H H')(h:TlAt H v T):TlAt H' v T:=let⟨a,e,z⟩:=h;⟨a,e,s _ _ z⟩
noncomputable abbrev Tls(H:Hp):List V→List Tl→Prop:=Paired (TlAt H)
theorem Tls.same{H H':Hp}{vs:List V}{ts:List Tl}(s:Same H H')(h:Tls H vs ts):Tls H' vs ts:=Paired.mapP h λ_ _ z=>z.same s
theorem Tl.eq_of{A B:Tl}(h:A.ns=B.ns):A=B:=by cases A;cases B;simp[Tl.ns]at h;simp[h]
structure Tl.Ok(pg nw:Int)(T:Tl):Prop where
b0:0≤T.b
b1:T.b<16
l0:0≤T.lv
l1:T.lv≤pg
c0:0≤T.cl
c1:T.cl<10 ^ 30
o0:0≤T.bo
o1:T.bo<nw
noncomputable def unb(f:Tl→Int)(ts:List Tl)(T:Tl):Bool:=ts.all λo=>!decide (f o<f T)
theorem q6M(f:Tl→Int):∀ts:List Tl,ts≠[]→∃T∈ts,∀o∈ts,f T≤f o
| [],h=>absurd rfl h
| [T],_=>⟨T,hX.mpr rfl,λo ho=>by rw[hX.mp ho];exact gO _⟩
|T::U::r,_=>by
 obtain⟨M,hm,hl⟩:=q6M f (U::r) (by simp);by_cases h:f T≤f M
 ·refine⟨T,kQ ..,λo ho=>?_⟩;rcases kJ.mp ho with rfl|ho
  ·exact gO _
  have:=hl o ho;lia
 refine⟨M,kB _ hm,λo ho=>?_⟩;rcases kJ.mp ho with rfl|ho
 ·lia
 exact hl o ho
theorem q60{f:Tl→Int}{ts:List Tl}{T:Tl}:unb f ts T=true↔∀o∈ts,f T≤f o:=by(
unfold unb
rw[gW]
constructor
·intro h o ho;have:=h o ho;rw[g3,rO]at this;lia
intro h o ho
have:=h o ho
rw[g3,rO]
lia)
theorem q6N(f:Tl→Int)(ts:List Tl)(h:ts≠[]):∃i,∃hi:i<ts.length,unb f ts ts[i]=true∧∀j,∀hj:j<i,unb f ts (ts[j]'(by lia))=false:=by(
obtain⟨T,hT,hm⟩:=q6M f ts h
obtain⟨k,hk,e⟩:=gX hT
have key:∀n,n<ts.length→(∃z:n<ts.length,unb f ts ts[n]=true)→∃i,∃hi:i<ts.length,unb f ts ts[i]=true∧∀j,∀hj:j<i,unb f ts (ts[j]'(by lia))=false:=by
 intro n;induction n using Nat.strongRecOn with
 |ind n ih=>
  intro hn hZ;obtain⟨z,hu⟩:=hZ;by_cases g:∃j,∃hj:j<n,unb f ts (ts[j]'(by lia))=true
  ·obtain⟨j,hj,u⟩:=g;exact ih j hj (by lia) ⟨by lia,u⟩
  refine⟨n,hn,hu,λj hj=>?_⟩;cases u:unb f ts (ts[j]'(by lia))with
  |false=>rfl
  |true=>exact absurd ⟨j,hj,u⟩ g
exact key k hk ⟨hk,q60.mpr (by rw[e];exact hm)⟩)
noncomputable def pk(f:Tl→Int)(ts:List Tl):Int:=((ts.find? (unb f ts)).map Tl.b).getD 0
theorem qIN{f:Tl→Int}{ts:List Tl}{i:Nat}(hi:i<ts.length)(u:unb f ts ts[i]=true)(n:∀j,∀hj:j<i,unb f ts (ts[j]'(by lia))=false):pk f ts=ts[i].b:=by(
have e:ts.find? (unb f ts)=some ts[i]:=by rw[List.find?_eq_some_iff_getElem];exact⟨u,i,hi,rfl,λj hj=>by rw[n j hj];rfl⟩
unfold pk
rw[e]
rfl)
theorem qFE{xs:List V}{m:Int}(h:0≤m):cutV xs none (some m)=xs.take m.toNat:=by(
unfold cutV
rw[show HT.sIx xs.length 0 none=0 from rfl,aM,Nat.sub_zero]
have e:HT.sIx xs.length xs.length (some m)=min m.toNat xs.length:=by unfold HT.sIx;simp only;split<;>lia
rw[e,sX,Nat.min_assoc,Nat.min_self,←sX])
theorem Paired.takeP{α β:Type}{F:α→β→Prop}:∀(n:Nat) {l₁:List α} {l₂:List β},Paired F l₁ l₂→Paired F (l₁.take n) (l₂.take n)
|0,_,_,_=>.nil
|_ +1,_,_,.nil=>.nil
|n+1,_,_,.cons h t=>.cons h (Paired.takeP n t)
theorem q61{H:Hp}{x dx C:Addr}(nx:H x=none)(nd:H dx=none):Same H (upd (upd H dx (.own x)) x (.ins C dx [])):=λb o e=>by rw[qC (qH e nx),qC (qH e nd)];exact e
end W1
namespace L2
open PySem PySem.Spec PyProof.Rows
theorem zF{X:Cx}{K:PySem.W.Frag}(e:X.K=K):IxR X (rIxT K):=by subst e;exact qZ
theorem qAS{X:Cx}{K:PySem.W.Frag}(e:X.K=K):IxR X (rIxL K):=by subst e;exact jE
theorem q47{X:Cx}{elt iter tg:Expr}{ifs:List Expr}{scope:Scope}{pos py spos:Pos}{wi:TI}{g:TG}{tc:TT}{te:TE}{i:Nat}{y:Str}(N:List Str)(ix:List Nat)(hcalm:X.calm=true)(hi:PI X tg iter wi)
 (hg:∀C fp s H xe,PG (vL X N scope C fp s H xe) tg g) (hif:∀C fp s H xe,PIf (vL X N scope C fp s H xe) ifs tc) (he:∀C fp s H xe,PE (vL X N scope C fp s H xe) elt te)
 (ok:qCQ X.N X.env.kindOf scope N ix=true) (hown:Own g ix.length) (hN:X.N.Nodup) (hy:X.N[i]?=some y) (hl:Loc X.env.scope y)
 (hsw:swapsWith (.ListComp elt [⟨tg,iter,ifs,0⟩] scope pos) (some (.Name y py)) spos.line X.env=pure true:=by rfl) (hf:X.fn y=true∨X.env.scope.names.lookup y=some .local:=by first|exact .inl rfl|exact .inr rfl|assumption)
 (hs:∀x,foldedSetIterable iter X.env x=pure x:=by intro _;rfl):
 PS X (.Assign [.Name y py] (.ListComp elt [⟨tg,iter,ifs,0⟩] scope pos) spos) (tAsg (tLC wi g tc te ix (N.length-ix.length)) (vZ i)):=by(
unfold qCQ at ok
rw[mI,mI,mI,gW]at ok
obtain⟨⟨⟨h1,h2⟩,h3⟩,h4⟩:=ok
have h2':∀y∈scope.names,y.2≠ .cell∧(y.2≠ .free∨X.env.kindOf y.1=some .cell)∧(y.2≠ .local∨scope.names.lookup y.1=some .local):=λy hy=>by have q:=h2 y hy;rw[mI,mI,rW,rW,kP,kP,kP,kP,kP]at q;exact⟨q.1.1,q.1.2,q.2⟩
intro pins s σ H D I h
rw[exec_Assign_Name_used _ _ _ _ hsw]
refine hI (cP (hI ?_))
show wpAny _ X.A (do let _←comprehension (.ListComp elt [⟨tg,iter,ifs,0⟩] scope pos) scope X.env _ (newList []) false (eval iter X.env) (some (assign (.Name y py) X.env))) _ _ s
refine hI (gR (qCP (use:=some (assign (.Name y py) X.env)) (QQ:=λ_ s'=>∃σ' H',Inv X pins σ' H' s'∧D.nx σ' H') N ix _ (λ_ _ _ _ _=>hcalm) hi.c hg hif he (mM h1) (λy hy=>(h2' y hy).1) (λy hy e=>(h2' y hy).2.1.resolve_left (λz=>z e)) h3 (mM h4) (λy hy e=>(h2' y hy).2.2.resolve_left (λz=>z e)) hown I h
 (λC Dl H' s' m hm fp inv q=>?_) hs) (λ_ s' hq=>kX (kX hq)) λ_ _ e=>e)
have I':Inv X pins σ H' s':=inv s'.heap (Heap.SameBut.refl _ _)
show wpAny _ _ (assign (.Name y py) X.env (.ref Dl)) _ _ _
refine lQ (q87 (v:=.ref Dl) I' hN hy hl rfl (λs'' I'' hZ=>?_) hf)
obtain⟨a,sb,ha⟩:=hZ
have aC:C≠a:=λz=>by
 rcases ha with ha|ha
 ·exact fp.2.1 (z.trans ha)
 exact fp.2.2.2.2.1 _ _ ha z.symm
refine⟨m,hm.sameBut sb aC,λh' sb'=>⟨_,H',I''.turnedN (t':=s''.toks) (fp:=[C]) (λb o hb e=>sb'.extBut b o (λz=>hb (hX.mpr z)) e) (λb hb=>by rw[hX.mp hb];exact fp),q⟩⟩)
theorem vM{K:PySem.W.Frag}{a:Addr}{xs:List V}{D:Addr}{H2:Hp}{g:TG}{tc:TT}{te:TE}{σ0:St}{R:Hp→Prop}(Pv:Nat→Hp→Prop)(h0:Pv 0 H2)(hl:∀i H,Pv i H→SqL K H a xs)
 (hs:∀(i:Nat) x H,xs[i]?=some x→Pv i H→g x σ0 H λσ5 H5=>tc σ5 H5 λb H6=>if b=true then te σ5 H6 (λv H7=>∃vs,H7 D=some (.lst vs)∧vs.length<sizeLine∧Pv (i+1) (upd H7 D (.lst (vs++[v]))))else Pv (i+1) H6) (hd:∀H,Pv xs.length H→R H):
 ∃W:Nat→Nat→Hp→Prop,(∃m,W 0 m H2)∧∀i m H3,W i m H3→((Itl K a).stop i H3∧R H3)∨((Itl K a).go i H3∧∃N:Hp→Prop,(∀H',N H'→∃m',m'<m∧W (i+1) m' H')∧∀x H4,(Itl K a).yld i H3 x H4→g x σ0 H4 λσ5 H5=>tc σ5 H5 λb H6=>if b=true then te σ5 H6 (λv H7=>∃vs,H7 D=some (.lst vs)∧vs.length<sizeLine∧N (upd H7 D (.lst (vs++[v]))))else N H6):=qCR (Q:=λ_ H=>R H) Pv h0 hl hs hd
theorem qAT{K:PySem.W.Frag}{a:Addr}{xs:List V}{k:Nat}{D:Addr}{H2:Hp}{te:TE}{σ0:St}{R:Hp→Prop}(Pv:Nat→Hp→Prop)(h0:Pv 0 H2)(hl:∀i H,Pv i H→SqL K H a xs)
 (hs:∀(i:Nat) x H,xs[i]?=some x→Pv i H→te (σ0.set k (some x)) H (λv H7=>∃vs,H7 D=some (.lst vs)∧vs.length<sizeLine∧Pv (i+1) (upd H7 D (.lst (vs++[v]))))) (hd:∀H,Pv xs.length H→R H):
 ∃W:Nat→Nat→Hp→Prop,(∃m,W 0 m H2)∧∀i m H3,W i m H3→((Itl K a).stop i H3∧R H3)∨((Itl K a).go i H3∧∃N:Hp→Prop,(∀H',N H'→∃m',m'<m∧W (i+1) m' H')∧∀x H4,(Itl K a).yld i H3 x H4→vZ k x σ0 H4 λσ5 H5=>qAP σ5 H5 λb H6=>if b=true then te σ5 H6 (λv H7=>∃vs,H7 D=some (.lst vs)∧vs.length<sizeLine∧N (upd H7 D (.lst (vs++[v]))))else N H6):=qFC (Q:=λ_ H=>R H) Pv h0 hl hs hd
end L2
namespace L2
open PySem PySem.W PyProof.Rows
noncomputable def hT{α:Type}(c:Nat→Nat→Bool)(n:Nat):KasT α→(α→Prop)→Prop
| .ret a,Q=>Q a
| .ask i j k,Q=>i<n∧j<n∧hT c n (k (c i j)) Q
theorem yZ{α:Type}{c:Nat→Nat→Bool}{n:Nat}{Q Q':α→Prop}(h:∀a,Q a→Q' a):∀t:KasT α,hT c n t Q→hT c n t Q'
| .ret a,q=>h a q
| .ask i j k,q=>⟨q.1,q.2.1,yZ h (k (c i j)) q.2.2⟩
theorem q2Z{α β:Type}{c:Nat→Nat→Bool}{n:Nat}{f:α→KasT β}{Q:β→Prop}:∀t:KasT α,hT c n t (λa=>hT c n (f a) Q)→hT c n (t.bind f) Q
| .ret a,q=>q
| .ask i j k,q=>⟨q.1,q.2.1,q2Z (k (c i j)) q.2.2⟩
theorem qFF{α:Type}{c:Nat→Nat→Bool}{n:Nat}{cmp:Nat→Nat→(Bool→Shared→Prop)→Shared→Prop}{G:α→Shared→Prop}{s:Shared}(hc:∀i j C,i<n→j<n→C (c i j) s→cmp i j C s):
 ∀t:KasT α,hT c n t (λa=>G a s)→t.kasWp cmp G s
| .ret a,q=>q
| .ask i j k,q=>hc i j _ q.1 q.2.1 (qFF hc (k (c i j)) q.2.2)
section
variable{r:Nat→Int}{n:Nat}
noncomputable abbrev rc(r:Nat→Int):Nat→Nat→Bool:=λi j=>decide (r i<r j)
noncomputable abbrev kk(r:Nat→Int)(p:Array Nat)(i:Nat):Int:=r (p.getD i 0)
noncomputable def Srt(r:Nat→Int)(p:Array Nat)(m:Nat):Prop:=∀i j,i≤j→j<m→kk r p i≤kk r p j
noncomputable def Dec(r:Nat→Int)(p:Array Nat)(m:Nat):Prop:=∀i j,i≤j→j<m→kk r p j≤kk r p i
noncomputable def Gp(n:Nat)(p:Array Nat):Prop:=p.Perm (List.range n).toArray
theorem Gp.size{p:Array Nat}(g:Gp n p):p.size=n:=by have:=g.size_eq;simpa using this
theorem Gp.lt{p:Array Nat}(g:Gp n p){i:Nat}(h:i<n):p.getD i 0<n:=by(
have hi:i<p.size:=by rw[g.size];exact h
have e:p.getD i 0=p[i]:=by simp[Array.getD,hi]
have:p[i]∈(List.range n).toArray:=g.mem_iff.mp (Array.getElem_mem hi)
rw[e]
simpa using this)
theorem Srt.more{p:Array Nat}{m:Nat}(h:Srt r p m)(e:kk r p (m-1)≤kk r p m):Srt r p (m+1):=λi j hij hj=>by(
by_cases z:j<m
·exact h i j hij z
have ej:j=m:=by lia
subst ej
by_cases z2:i=j
·subst z2;exact gO _
exact c8 (h i (j-1) (by lia) (by lia)) e)
theorem Dec.more{p:Array Nat}{m:Nat}(h:Dec r p m)(e:kk r p m≤kk r p (m-1)):Dec r p (m+1):=λi j hij hj=>by(
by_cases z:j<m
·exact h i j hij z
have ej:j=m:=by lia
subst ej
by_cases z2:i=j
·subst z2;exact gO _
exact c8 e (h i (j-1) (by lia) (by lia)))
theorem q48{p q:Array Nat}{i j:Nat}(h:p[i]?=q[j]?):p.getD i 0=q.getD j 0:=by rw[c9,c9,h]
theorem qBS{p:Array Nat}{i j:Nat}(hj:j≤p.size)(k:Nat):(kas_rev p i j).getD k 0=if i≤k∧k<j then p.getD (i+j-1-k) 0 else p.getD k 0:=by(
unfold kas_rev
by_cases h:i≤k∧k<j
·rw[kF h];exact q48 (by rw[nV hj,kF h])
rw[hV h]
exact q48 (by rw[nV hj,hV h]))
theorem Gp.rev{p:Array Nat}(g:Gp n p)(i j:Nat):Gp n (kas_rev p i j):=(mirror_perm _ _ _ _).trans g
theorem qBT{p:Array Nat}(g:Gp n p):∀(f m:Nat),1≤m→m+f≤n→Srt r p m→hT (rc r) n (kas_asc p f m) (λe=>m≤e∧e≤m+f∧Srt r p e∧(e<m+f→kk r p e<kk r p (e-1)))
|0,m,h1,hz,h=>⟨kN _,kN _,h,λz=>absurd z (dM _)⟩
|f+1,m,h1,hz,h=>by
 refine⟨g.lt (by lia),g.lt (by lia),?_⟩;by_cases e:r (p.getD m 0)<r (p.getD (m-1) 0)
 ·rw[show rc r (p.getD m 0) (p.getD (m-1) 0)=true from hG e];dsimp only;rw[kF rfl];exact⟨kN _,by lia,h,λ_=>e⟩
 rw[show rc r (p.getD m 0) (p.getD (m-1) 0)=false from hU e];dsimp only;rw[hV kM];refine yZ ?_ _ (qBT g f (m+1) (by lia) (by lia) (h.more (by show r _≤r _;lia)));rintro a ⟨a1,a2,a3,a4⟩
 exact⟨by lia,by lia,a3,λz=>a4 (by lia)⟩
noncomputable def Eql(r:Nat→Int)(p:Array Nat)(a b:Nat):Prop:=∀k,a≤k→k<b→kk r p k=kk r p (b-1)
theorem q9B{p:Array Nat}{i j:Nat}(hj:j≤p.size)(h:Eql r p i j)(k:Nat):kk r (kas_rev p i j) k=kk r p k:=by(
show r _=r _
rw[qBS hj]
by_cases z:i≤k∧k<j
·rw[kF z];exact(h _ (by lia) (by lia)).trans (h k z.1 z.2).symm
rw[hV z])
theorem q62:∀(f:Nat) (p:Array Nat) (m q:Nat),Gp n p→q+1≤m→m+f≤n→Dec r p m→Eql r p (m-(q+1)) m→hT (rc r) n (kas_desc f p m q) (λz=>Gp n z.1∧m≤z.2.1∧z.2.1≤m+f∧Dec r z.1 z.2.1∧z.2.2+1≤z.2.1∧Eql r z.1 (z.2.1-(z.2.2+1)) z.2.1)
|0,p,m,q,g,hq,hz,d,e=>⟨g,kN _,kN _,d,hq,e⟩
|f+1,p,m,q,g,hq,hz,d,e=>by
 have hs:=g.size;refine⟨g.lt (by lia),g.lt (by lia),?_⟩;by_cases c:r (p.getD m 0)<r (p.getD (m-1) 0)
 ·rw[show rc r (p.getD m 0) (p.getD (m-1) 0)=true from hG c];dsimp only;rw[kF rfl];by_cases q0:q>0
  ·rw[kF q0];have kq:=q9B (r:=r) (p:=p) (i:=m-(q+1)) (j:=m) (by lia) e;have d1:Dec r (kas_rev p (m-(q+1)) m) (m+1):=λi j hij hj=>by rw[kq,kq];exact d.more (wK c) i j hij hj
   refine yZ ?_ _ (q62 f _ (m+1) 0 (g.rev _ _) (by lia) (by lia) d1 λk h1 h2=>by rw[show k=m by lia];rfl);rintro a ⟨a1,a2,a3,a4⟩
   exact⟨a1,by lia,by lia,a4⟩
  rw[hV q0];refine yZ ?_ _ (q62 f p (m+1) 0 g (by lia) (by lia) (d.more (wK c)) λk h1 h2=>by rw[show k=m by lia];rfl);rintro a ⟨a1,a2,a3,a4⟩
  exact⟨a1,by lia,by lia,a4⟩
 rw[show rc r (p.getD m 0) (p.getD (m-1) 0)=false from hU c];dsimp only;rw[hV kM];refine⟨g.lt (by lia),g.lt (by lia),?_⟩;by_cases c2:r (p.getD (m-1) 0)<r (p.getD m 0)
 ·rw[show rc r (p.getD (m-1) 0) (p.getD m 0)=true from hG c2];dsimp only;rw[kF rfl];exact⟨g,kN _,p8 _ _,d,hq,e⟩
 rw[show rc r (p.getD (m-1) 0) (p.getD m 0)=false from hU c2];dsimp only;rw[hV kM];have ee:r (p.getD m 0)=r (p.getD (m-1) 0):=by lia
 refine yZ ?_ _ (q62 f p (m+1) (q+1) g (by lia) (by lia) (d.more (Int.le_of_eq ee)) λk h1 h2=>?_)
 ·rintro a ⟨a1,a2,a3,a4⟩
  exact⟨a1,by lia,by lia,a4⟩
 show r (p.getD k 0)=r (p.getD m 0);by_cases z:k=m
 ·rw[z]
 rw[ee];exact e k (by lia) (by lia)
theorem qCT{p:Array Nat}{m:Nat}(g:Gp n p)(h1:1≤m)(hm:m≤n)(d:Dec r p m):hT (rc r) n (kas_tail3 m n p) (λz=>Gp n z.2∧1≤z.1∧z.1≤n∧Srt r z.2 z.1):=by(
have hs:=g.size
have sr:Srt r (kas_rev p 0 m) m:=λi j hij hj=>by show r _≤r _;rw[qBS (by lia),qBS (by lia),kF ⟨mL _,by lia⟩,kF ⟨mL _,hj⟩];exact d _ _ (by lia) (by lia)
refine q2Z _ (yZ ?_ _ (qBT (g.rev 0 m) (n-m) m h1 (by lia) sr))
rintro a ⟨a1,a2,a3,_⟩
exact⟨g.rev _ _,by lia,by lia,a3⟩)
theorem qCU{p:Array Nat}{m:Nat}(g:Gp n p)(hm:m+1≤n)(d:Dec r p (m+1)):hT (rc r) n (kas_descPart m n p) (λz=>Gp n z.2∧1≤z.1∧z.1≤n∧Srt r z.2 z.1):=by(
refine q2Z _ (yZ ?_ _ (q62 (n-(m+1)) p (m+1) 0 g (by lia) (by lia) d λk h1 h2=>by rw[show k=m by lia];rfl))
rintro⟨p',m',q'⟩ ⟨a1,a2,a3,a4,a5,a6⟩
dsimp only at a1 a2 a3 a4 a5 a6 ⊢
have hs:=a1.size
by_cases q0:q'>0
·rw[kF q0];have kq:=q9B (r:=r) (p:=p') (i:=m'-(q'+1)) (j:=m') (by lia) a6;exact qCT (a1.rev _ _) (by lia) (by lia) λi j hij hj=>by rw[kq,kq];exact a4 i j hij hj
rw[hV q0]
exact qCT a1 (by lia) (by lia) a4)
theorem qFG{p:Array Nat}(g:Gp n p)(h1:1≤n):hT (rc r) n (kas_count n p) (λz=>Gp n z.2∧1≤z.1∧z.1≤n∧Srt r z.2 z.1):=by(
have hs:=g.size
have s1:Srt r p 1:=λi j hij hj=>by rw[show i=j by lia];exact gO _
refine q2Z _ (yZ ?_ _ (qBT g (n-1) 1 (kN _) (by lia) s1))
rintro m ⟨a1,a2,a3,a4⟩
try dsimp only
by_cases e:m=n
·rw[kF (by rw[rF];exact e)];exact⟨g,a1,by lia,a3⟩
rw[hV (by rw[rF];exact e)]
have lt:=a4 (by lia)
by_cases m1:m>1
·rw[kF m1];refine⟨g.lt (by lia),g.lt (by lia),?_⟩;by_cases c:r (p.getD 0 0)<r (p.getD (m-1) 0)
 ·rw[show rc r (p.getD 0 0) (p.getD (m-1) 0)=true from hG c];dsimp only;rw[kF rfl];exact⟨g,a1,by lia,a3⟩
 rw[show rc r (p.getD 0 0) (p.getD (m-1) 0)=false from hU c];dsimp only;rw[hV kM];have eq:Eql r p 0 m:=λk _ hk=>by have z1:=a3 0 k (mL _) hk;have z2:=a3 k (m-1) (by lia) (by lia);show r _=r _;have z1:r (p.getD 0 0)≤r (p.getD k 0):=z1;have z2:r (p.getD k 0)≤r (p.getD (m-1) 0):=z2;lia
 have kq:=q9B (r:=r) (p:=p) (i:=0) (j:=m) (by lia) eq;refine qCU (g.rev _ _) (by lia) λi j hij hj=>?_;rw[kq,kq];refine Dec.more (m:=m) (λi j hij hj=>?_) (wK lt) i j hij hj;rw[eq i (mL _) (by lia),eq j (mL _) hj];exact gO _
rw[hV m1]
have:m=1:=by lia
subst this
refine qCU g (by lia) (Dec.more (λi j hij hj=>?_) (wK lt))
rw[show i=j by lia]
exact gO _)
theorem q6O{p:Array Nat}(g:Gp n p){k:Nat}(hk:k<n)(sr:Srt r p k):∀(f l u:Nat),u-l≤f→l≤u→u≤k→(∀i,i<l→kk r p i≤kk r p k)→(∀i,u≤i→i<k→kk r p k<kk r p i)→hT (rc r) n (kas_place p k f l u) (λm=>m≤k∧(∀i,i<m→kk r p i≤kk r p k)∧∀i,m≤i→i<k→kk r p k<kk r p i)
|0,l,u,hf,hl,hu,a,b=>⟨by lia,a,λi h1 h2=>b i (by lia) h2⟩
|f+1,l,u,hf,hl,hu,a,b=>by
 unfold kas_place;by_cases e:l≥u
 ·rw[kF e];exact⟨by lia,a,λi h1 h2=>b i (by lia) h2⟩
 rw[hV e];refine⟨g.lt hk,g.lt (by lia),?_⟩;by_cases c:r (p.getD k 0)<r (p.getD ((l+u) / 2) 0)
 ·rw[show rc r (p.getD k 0) (p.getD ((l+u) / 2) 0)=true from hG c];dsimp only;rw[kF rfl];refine q6O g hk sr f l ((l+u) / 2) (by lia) (by lia) (by lia) a λi h1 h2=>?_;exact pI c (sr _ _ h1 h2)
 rw[show rc r (p.getD k 0) (p.getD ((l+u) / 2) 0)=false from hU c];dsimp only;rw[hV kM];refine q6O g hk sr f ((l+u) / 2+1) u (by lia) (by lia) hu (λi h1=>?_) b;exact c8 (sr i ((l+u) / 2) (by lia) (by lia)) (by show r _≤r _;lia)
theorem qK6{p:Array Nat}{k l:Nat}(hk:k<p.size)(hl:l≤k)(i:Nat):(bubble p k (k-l)).getD i 0=if i=l then p.getD k 0 else if l<i∧i≤k then p.getD (i-1) 0 else p.getD i 0:=by(
have e:=getElem?_bubble hk (k-l) (by lia) i
rw[show k-(k-l)=l by lia]at e
by_cases h1:i=l
·rw[kF h1]at e ⊢;exact q48 e
rw[hV h1]at e ⊢
by_cases h2:l<i∧i≤k
·rw[kF h2]at e ⊢;exact q48 e
rw[hV h2]at e ⊢
exact q48 e)
theorem qFH:∀(f:Nat) (p:Array Nat) (k:Nat),Gp n p→k+f≤n→Srt r p k→hT (rc r) n (kas_bin f p k) (λq=>Gp n q∧Srt r q (k+f))
|0,p,k,g,hz,sr=>⟨g,sr⟩
|f+1,p,k,g,hz,sr=>by
 have hs:=g.size;refine q2Z _ (yZ ?_ _ (q6O g (show k<n by lia) sr k 0 k (by lia) (mL _) (kN _) (λi h=>absurd h (aA _)) λi h1 h2=>absurd h2 (by lia)));rintro l ⟨a1,a2,a3⟩
 have at':=qK6 (p:=p) (k:=k) (l:=l) (by lia) a1;refine yZ ?_ _ (qFH f _ (k+1) ((bubble_perm _ _ _).trans g) (by lia) λi j hij hj=>?_)
 ·rintro q ⟨b1,b2⟩
  exact⟨b1,by rw[show k+(f+1)=k+1+f by lia];exact b2⟩
 show r _≤r _;rw[at',at'];by_cases i1:i=l
 ·rw[kF i1];by_cases j1:j=l
  ·rw[kF j1];exact gO _
  rw[hV j1,kF ⟨by lia,by lia⟩];exact wK (a3 (j-1) (by lia) (by lia))
 rw[hV i1];by_cases i2:l<i∧i≤k
 ·rw[kF i2,hV (by lia),kF ⟨by lia,by lia⟩];exact sr _ _ (by lia) (by lia)
 rw[hV i2];by_cases j1:j=l
 ·rw[kF j1];exact a2 i (by lia)
 rw[hV j1];by_cases j2:l<j∧j≤k
 ·rw[kF j2];exact sr _ _ (by lia) (by lia)
 rw[hV j2];exact sr _ _ hij (by lia)
theorem qCV(h1:1≤n):hT (rc r) n (kas_sort n) (λp=>Gp n p∧Srt r p n):=by(
refine q2Z _ (yZ ?_ _ (qFG (p:=(List.range n).toArray) (aB _) h1))
rintro⟨m,p⟩ ⟨a1,a2,a3,a4⟩
dsimp only at a1 a2 a3 a4 ⊢
by_cases e:m<n
·rw[kF e];refine yZ ?_ _ (qFH (n-max m 1) p (max m 1) a1 (by lia) (by rw[Nat.max_eq_left a2];exact a4));rintro q ⟨b1,b2⟩
 exact⟨b1,by rw[show max m 1+(n-max m 1)=n by lia]at b2;exact b2⟩
rw[hV e]
have:m=n:=by lia
subst this
exact⟨a1,a4⟩)
end
end L2
namespace L2
open PySem PySem.W PySem.Spec PyProof.Rows
section
variable{prog:Program}{w:World}{A:Around}{E:Value→Shared→Prop}{s:Shared}
noncomputable abbrev q6P(vs:List Value)(p:Array Nat):Array Value:=List.toArray (p.toList.map λi=>vs.getD i Value.none)
structure RkAt(prog:Program)(w:World)(A:Around)(vs:List Value)(κ:SortKind)(r:Nat→Int)(s:Shared):Prop where
kind:∀(Q:SortKind→Shared→Prop) (E:Value→Shared→Prop),Q κ s→wpAny (model prog w) A (keyKind' vs.toArray) Q E s
lt:∀i j (C:Bool→Shared→Prop),i<vs.length→j<vs.length→C (decide (r i<r j)) s→wpAny (model prog w) A (keyLt' κ (vs.getD i Value.none) (vs.getD j Value.none)) C (λ_ _=>False) s
theorem qBU{a:Addr}{vs:List Value}{n:Nat}{κ:SortKind}{r:Nat→Int}{P:PySem.Fin→Shared→Prop}(ho:s.heap.get? a=some (seqObj "list" vs.toArray n))(h64:vs.length<64)
 (hr:2≤vs.length→∀h',(∀b o,b≠a→s.heap.get? b=some o→h'.get? b=some o)→RkAt prog w A vs κ r { s with heap:=h' })
 (h:∀p:Array Nat,Gp vs.length p→Srt r p vs.length→P (.done (.ret .none)) { s with heap:=sortedHeap s.heap a vs (q6P vs p) }):wpAny (model prog w) A (Builtin.«list.sort» ⟨[.ref a],[]⟩) P E s:=by(
have ha:a<s.heap.objs.size:=kU ho
have hsz:vs.toArray.size=vs.length:=kW ..
obtain⟨e1,g1⟩:∃e1,(s.heap.update a (Obj.mapSeq λ_=>(#[]:Array Value))).get? a=some (seqObj "list" #[] e1):=⟨_,rX ho λ_=>#[]⟩
have g6:=kE (seqObj "list" #[] 0) (kE (seqObj "tuple" vs.toArray 0) g1)
rw[list_sort_plain]
refine hI (pA ho rfl (hI (dX ho rfl (hI (cT g1 rfl ?_)) (by rw[hsz,gA];lia) (mL _))))
refine hI (nM (hI (wQ (gQ ?_) (mL _))) (by show vs.length≤_;rw[gA];lia))
show wpAny (model prog w) A _ P E { s with heap:=((s.heap.update a (Obj.mapSeq λ_=>(#[]:Array Value))).push (seqObj "tuple" vs.toArray 0)).push (seqObj "list" #[] 0) }
dsimp only
by_cases h2:vs.toArray.size<2
·rw[kF h2,kF h2];refine hI (kX ?_);rw[aD];refine hI (kX ?_);dsimp only;have fin:=h (List.range vs.length).toArray (aB _) λi j hij hj=>by rw[show i=j by lia];exact gO _
 have eo:(pairsOf vs).map (·.2)=q6P vs (List.range vs.length).toArray:=by
  have em:(pairsOf vs)=(List.toArray (List.range vs.length)).map (kas_item (pairsOf vs)):=by have e:=kas_range (pairsOf vs);rw[xB]at e;exact e.symm
  apply p9.mp;rw[em,aZ,sB];exact dS λi _=>by show(kas_item (pairsOf vs) i).2=_;rw[kas_item_eq]
 refine hI (cT g6 rfl ?_);refine hI (dX g6 rfl ?_ (mL _) (by rw[Array.size_map];show(pairsOf vs).size≤_;rw[xB,gA];lia));simp only[bne_self_eq_false,pJ,if_false];refine kX ?_;rw[←eo]at fin;exact fin
rw[hV h2,hV h2]
have h2':2≤vs.length:=by lia
have K:=hr h2' (((s.heap.update a (Obj.mapSeq λ_=>(#[]:Array Value))).push (seqObj "tuple" vs.toArray 0)).push (seqObj "list" #[] 0)) λb o nb e=>kE _ (kE _ ((k9 _ _ (rQ nb)).trans e))
refine hI (K.kind _ _ ?_)
have est:SortSt.mk' κ (vs.toArray.zip vs.toArray) #[] 7 none=kas_st κ (pairsOf vs) (List.toArray (List.range vs.length)):=by have e:=kas_range (pairsOf vs);rw[xB]at e;unfold kas_st;rw[e];rfl
have tree:(kas_sort vs.length).kasWp (kas_cmp prog w A κ (pairsOf vs)) (λp s'=>s'= { s with heap:=((s.heap.update a (Obj.mapSeq λ_=>(#[]:Array Value))).push (seqObj "tuple" vs.toArray 0)).push (seqObj "list" #[] 0) }∧Gp vs.length p∧Srt r p vs.length) { s with heap:=((s.heap.update a (Obj.mapSeq λ_=>(#[]:Array Value))).push (seqObj "tuple" vs.toArray 0)).push (seqObj "list" #[] 0) }:=by rw[←kas_ask_eq];exact qFF (c:=rc r) (n:=vs.length) (λi j C hi hj c=>K.lt i j C hi hj c) _ (yZ (λp q=>⟨rfl,q⟩) _ (qCV (by lia)))
have run:=kas_runs (E:=E) (Q:=λ_ st' s'=>∃p:Array Nat,arrOf st'=p.map (kas_item (pairsOf vs))∧failedOf st'=none∧s'= { s with heap:=((s.heap.update a (Obj.mapSeq λ_=>(#[]:Array Value))).push (seqObj "tuple" vs.toArray 0)).push (seqObj "list" #[] 0) }∧Gp vs.length p∧Srt r p vs.length) h2' h64 (λp' st' s' _ a2 a3 a4=>⟨p',a2,a3,a4⟩) tree
rw[←est]at run
refine hI (gR run ?_ λ_ _ e=>e)
rintro⟨⟨⟩,st'⟩ s' ⟨p,har,hf,rfl,gp,sr⟩
dsimp only
have hout:(arrOf st').map (·.2)=q6P vs p:=by apply p9.mp;rw[har,aZ,sB];exact dS λi _=>by show(kas_item (pairsOf vs) i).2=_;rw[kas_item_eq]
have hol:(q6P vs p).size=vs.length:=by rw[kW,h9,mY,gp.size]
rw[hout]
refine hI (cT g6 rfl ?_)
refine hI (dX g6 rfl ?_ (mL _) (k8 (wI hol) (by rw[gA];lia)))
rw[hf]
simp only[bne_self_eq_false,pJ,if_false]
exact kX (h p gp sr))
theorem q9C{l:Addr}{vs:List Value}{κ:SortKind}{r:Nat→Int}{Q:Value→Shared→Prop}(hl:s.heap.IsList l vs.toArray)(h64:vs.length<64)
 (hr:2≤vs.length→∀h',(∀b o,s.heap.get? b=some o→h'.get? b=some o)→RkAt prog w A.in1.in1 vs κ r { s with heap:=h' })
 (h:∀p:Array Nat,Gp vs.length p→Srt r p vs.length→Q (.ref (s.heap.objs.size+1)) { s with heap:=sortedAll s.heap vs (q6P vs p) }):
 wpAny (model prog w) A (call (.builtin "sorted") [.ref l]) Q E s:=by(
refine Calls.call_function_entry xV xC xD (args_sorted1 _) ?_
unfold Builtin.«sorted»
refine hI (m:=checkCount "sorted" 1 1 _) (kX (hI (xE hl (hI (wQ ?_ (by rw[gA];show vs.length≤_;lia))))))
have hsz:((s.heap.push (seqObj "list" #[] 0)).update s.heap.objs.size (Obj.mapSeq (· ++vs.toArray))).objs.size=s.heap.objs.size+1:=by rw[wL,sO]
have g:(((s.heap.push (seqObj "list" #[] 0)).update s.heap.objs.size (Obj.mapSeq (· ++vs.toArray))).push (seqObj "list" vs.toArray 0)).get? (s.heap.objs.size+1)=some (seqObj "list" vs.toArray 0):=by rw[←hsz];exact mF _ rfl
show wpAny _ _ _ _ _ { s with heap:=((s.heap.push (seqObj "list" #[] 0)).update s.heap.objs.size (Obj.mapSeq (· ++vs.toArray))).push (seqObj "list" vs.toArray 0) }
rw[hsz]
refine hI (gQ (wpAny_call_entry nN ⟨_,g,rfl⟩ sR (qBU (κ:=κ) (r:=r) g h64 (λh2 h' k=>hr h2 h' λb o e=>k b o (mP (rD (kU e))) (kE _ ((k9 _ _ (dN (kU e))).trans (kE _ e)))) λp a1 a2=>⟨_,rfl,?_⟩) (args_list_sort _)))
exact kX ⟨_,rfl,h p a1 a2⟩)
end
noncomputable def lx:List Int→List Int→Bool
|a::r,b::s=>if a=b then lx r s else decide (a<b)
| [],_::_=>true
|_,[]=>false
theorem q4U:∀a:List Int,lx a a=false
| []=>rfl
|a::r=>by show(if a=a then lx r r else decide (a<a))=false;rw[kF rfl];exact q4U r
theorem zK:∀a b c:List Int,lx a b=true→lx b c=true→lx a c=true
| [],[],c,h,_=>by cases h
| [],_::_,[],_,h=>by cases h
| [],_::_,_::_,_,_=>rfl
|_::_,[],c,h,_=>by cases h
|_::_,_::_,[],_,h=>by cases h
|a::r,b::s,c::t,h,g=>by
 have h:(if a=b then lx r s else decide (a<b))=true:=h;have g:(if b=c then lx s t else decide (b<c))=true:=g;show(if a=c then lx r t else decide (a<c))=true;by_cases e1:a=b
 ·subst e1;rw[kF rfl]at h;by_cases e2:a=c
  ·subst e2;rw[kF rfl]at g ⊢;exact zK r s t h g
  rw[hV e2]at g ⊢;exact g
 rw[hV e1,kP]at h;by_cases e2:b=c
 ·subst e2;rw[hV e1];exact hG h
 rw[hV e2,kP]at g;rw[hV (by lia)];exact hG (by lia)
theorem q22:∀a b:List Int,lx a b=false→lx b a=false→a=b
| [],[],_,_=>rfl
| [],_::_,h,_=>by cases h
|_::_,[],_,h=>by cases h
|a::r,b::s,h,g=>by
 have h:(if a=b then lx r s else decide (a<b))=false:=h;have g:(if b=a then lx s r else decide (b<a))=false:=g;by_cases e:a=b
 ·subst e;rw[kF rfl]at h g;rw[q22 r s h g]
 rw[hV e,rO]at h;rw[hV (λz=>e z.symm),rO]at g;lia
theorem qAU{α:Type}{p q:α→Bool}:∀{l:List α} {x:α},(∀y∈l,p y=true→q y=true)→x∈l→q x=true→p x=false→l.countP p<l.countP q
|a::l,x,h,hx,h1,h2=>by
 have ml:l.countP p≤l.countP q:=cG λy hy=>h y (kB _ hy);rw[cK,cK];rcases kJ.mp hx with e|hx
 ·subst e;rw[h1,h2,hV kM,kF rfl];lia
 have ih:=qAU (λy hy=>h y (kB _ hy)) hx h1 h2;have ha:=h a (kQ ..);cases pa:p a with
 |false=>rw[hV kM];lia
 |true=>rw[ha pa];lia
noncomputable def rkOf(ks:List (List Int))(k:List Int):Int:=((ks.countP λy=>lx y k:Nat):Int)
theorem qBV{ks:List (List Int)}{k k':List Int}(h:k∈ks)(h':k'∈ks):rkOf ks k<rkOf ks k'↔lx k k'=true:=by(
constructor
·intro lt;cases e:lx k k' with
 |true=>rfl
 |false=>
  have:ks.countP (λy=>lx y k')≤ks.countP (λy=>lx y k):=cG λy _ hy=>by
   cases g:lx k' k with
   |true=>exact zK _ _ _ hy g
   |false=>rw[q22 k k' e g];exact hy
  unfold rkOf at lt;lia
intro e
have:=qAU (p:=λy=>lx y k) (q:=λy=>lx y k') (l:=ks) (x:=k) (λy _ hy=>zK _ _ _ hy e) h e (q4U k)
unfold rkOf
lia)
section
variable{prog:Program}{w:World}{A:Around}{E:Value→Shared→Prop}{s:Shared}
theorem qHC{b:Bool}{x y:Int}{t u:Tok}{Q:Bool→Shared→Prop}(h:Q (decide (x<y)) s):wpAny (model prog w) A (oneLt' b (.int x t) (.int y u)) Q E s:=by(
cases b with
|true=>have z:=kat_lt_int (prog:=prog) (w:=w) (A:=A) (E:=E) (t:=t) (u:=u) h;rw[keyLt'_oneType]at z;exact z
|false=>refine kat_one _ _ ?_;exact lt_int h)
theorem qAV{b:Bool}{Q:Bool→Shared→Prop}:∀{ns ms:List Int} {us vs:List Value} (i:Nat),IntsAre us ns→IntsAre vs ms→ns.length=ms.length→Q (lx ns ms) s→KatLex prog w A b false Q (us.zip vs) i s
| [],[],_,_,i,.nil,.nil,_,h=>h
|n::ns,m::ms,_,_,i,.cons _ t hn,.cons _ u hm,hl,h=>by
 refine kat_cons (wpAny_eqBool_int ?_);have h:Q (if n=m then lx ns ms else decide (n<m)) s:=h;by_cases e:n=m
 ·rw[kF e]at h;rw[show(n==m)=true by rw[rF];exact e];exact kat_yes (qAV (i+1) hn hm (by simpa using hl) h)
 rw[hV e]at h;rw[show(n==m)=false by rw[dR];exact e];exact kat_no (qHC h)
| [],_::_,_,_,_,_,_,hl,_=>by simp at hl
|_::_,[],_,_,_,_,_,hl,_=>by simp at hl
noncomputable def IsTI(h:Heap)(v:Value)(k:List Int):Prop:=∃a us,v=.ref a∧h.IsTuple a us.toArray∧IntsAre us k
theorem IsTI.at{h h':Heap}{v:Value}{k:List Int}(x:IsTI h v k)(e:∀b o,h.get? b=some o→h'.get? b=some o):IsTI h' v k:=let⟨a,us,e1,⟨o,e2,r⟩,i⟩:=x
 ⟨a,us,e1,⟨o,e _ _ e2,r⟩,i⟩
theorem qCW{h:Heap}:∀{vs:List Value} {ks:List (List Int)},Paired (IsTI h) vs ks→(∀k∈ks,0<k.length)→∃fs,KatTups h vs fs∧fs.length=ks.length∧∀v∈fs,∃i t,v=.int i t
| [],[],.nil,_=>⟨[],trivial,rfl,λv hv=>by cases hv⟩
|v::vs,k::ks,.cons x t,hp=>by
 obtain⟨fs,r,hl,hi⟩:=qCW t λk hk=>hp k (kB _ hk);obtain⟨a,us,rfl,⟨o,ho,hc,n,hd⟩,iu⟩:=x;have h0:=hp k (kQ ..);cases iu with
 |nil=>simp at h0
 |cons i t0 hr=>
  refine⟨.int i t0::fs,KatTups.cons ho hc hd (by simp) r,by simp[hl],λv hv=>?_⟩;rcases kJ.mp hv with rfl|hv
  ·exact⟨i,t0,rfl⟩
  exact hi v hv
theorem qCX{vs:List Value}{ks:List (List Int)}{m:Nat}(h:Paired (IsTI s.heap) vs ks)(hw:∀k∈ks,k.length=m)(hm:0<m)(h2:2≤vs.length):RkAt prog w A vs (tuples' true) (λi=>rkOf ks (ks.getD i [])) s:=by(
have hl:=h.len
constructor
·intro Q E' q;obtain⟨fs,t,e,hi⟩:=qCW h λk hk=>by rw[hw k hk];exact hm
 exact kat_kind (T:=Value.type "int") t (by lia) (λv hv=>by obtain⟨i,t0,rfl⟩:=hi v hv;exact .now) rfl q
intro i j C hi hj c
have e1:vs[i]?=some (vs.getD i Value.none):=by rw[kC hi];simp[hi]
have e2:vs[j]?=some (vs.getD j Value.none):=by rw[kC hj];simp[hj]
obtain⟨k1,g1,a1,us1,q1,⟨o1,ho1,_,n1,d1⟩,i1⟩:=Paired.at h e1
obtain⟨k2,g2,a2,us2,q2,⟨o2,ho2,_,n2,d2⟩,i2⟩:=Paired.at h e2
have m1:k1∈ks:=gJ g1
have m2:k2∈ks:=gJ g2
have z1:ks.getD i []=k1:=by rw[kI,g1];rfl
have z2:ks.getD j []=k2:=by rw[kI,g2];rfl
have ll:k1.length=k2.length:=by rw[hw _ m1,hw _ m2]
have c:C (lx k1 k2) s:=by
 have y:decide (rkOf ks (ks.getD i [])<rkOf ks (ks.getD j []))=lx k1 k2:=by rw[z1,z2,rC,kP];exact qBV m1 m2
 rw[←y];exact c
rw[q1,q2]
refine kat_lt ho1 d1 ho2 d2 ?_
have f:decide (us1.toArray.size<us2.toArray.size)=false:=by rw[kW,kW,i1.length,i2.length,ll];exact hU (dM _)
rw[f]
exact qAV 0 i1 i2 ll c)
end
section
variable{X:Cx}
noncomputable def TupI(K:PySem.W.Frag)(H:Hp)(v:V)(k:List Int):Prop:=∃a,v=.ref a∧SqT K H a (k.map V.int)
theorem q9D{pins:List (Addr×Obj)}{σ:St}{H:Hp}{s:Shared}(I:Inv X pins σ H s):∀{xs:List V} {us:List Value} {ks:List (List Int)},Vals xs us→Paired (TupI X.K H) xs ks→Paired (IsTI s.heap) us ks
| [],_,_,.nil,.nil=>.nil
|x::xs,u::us,_,.cons r t,.cons ⟨a,e,h⟩ y=>by subst e;obtain rfl:u=Value.ref a:=r;obtain⟨its,rv,p,_⟩:=I.tuple h;exact .cons ⟨a,its,rfl,p,q98 rv⟩ (q9D I t y)
theorem q4V{xs:List V}{us:List Value}(r:Vals xs us):∀{q:List Nat},(∀i∈q,i<xs.length)→Vals (q.map λi=>xs.getD i .non) (q.map λi=>us.getD i Value.none)
| [],_=>.nil
|i::q,h=>by have hi:=h i (kQ ..);have hl:=r.length;refine .cons ?_ (q4V r λj hj=>h j (kB _ hj));obtain⟨x,e,z⟩:=r.atN (j:=i) (by lia);show RelV (xs.getD i .non) (us.getD i Value.none);rw[kI,e,kI,kC (by lia)];exact z
theorem q12:q3A X (.builtin "sorted") (λxs H Q=>∃(p:Addr) (us:List V) (ks:List (List Int)) (m:Nat),xs=[.ref p]∧SqL X.K H p us∧Paired (TupI X.K H) us ks∧(∀k∈ks,k.length=m)∧0<m∧us.length<64∧∀q:List Nat,q.Perm (List.range us.length)→(q.map λi=>ks.getD i []).Pairwise (λa b=>lx b a=false)→NewO H (.lst (q.map λi=>us.getD i .non)) Q):=by(
intro pins s σ H xs us Q I r hZ
obtain⟨p,xs',ks,m,ex,hq,hk,hw,hm,h64,q⟩:=hZ
subst ex
obtain⟨u,rfl,rx⟩:=q1Y r
cases rx
obtain⟨its,rv,pl,hz⟩:=I.list hq
have hlen:=rv.length
have hti:=q9D I rv hk
refine q9C (κ:=tuples' true) (r:=λi=>rkOf ks (ks.getD i [])) pl.isList (by lia) (λh2 h' k=>qCX (Paired.mapP hti λ_ _ z=>z.at k) hw hm h2) λa gp sr=>?_
have pp:a.toList.Perm (List.range its.length):=by have:=pK.mp gp;simpa using this
obtain⟨e,he⟩:=sortedAll_at s.heap its (q6P its a)
have hin:∀i∈a.toList,i<xs'.length:=λi hi=>by rw[hlen];exact mE.mp (pp.mem_iff.mp hi)
have kl:=hk.len
have pw:(a.toList.map λi=>ks.getD i []).Pairwise (λx y=>lx y x=false):=by
 rw[gF,dG];intro i j hi hj hij;rw[mY,gp.size]at hi hj;have z:rkOf ks (ks.getD (a.getD i 0) [])≤rkOf ks (ks.getD (a.getD j 0) []):=sr i j (by lia) hj;have gi:a.getD i 0=a.toList[i]'(by rw[mY,gp.size];exact hi):=by simp[Array.getD,gp.size,hi]
 have gj:a.getD j 0=a.toList[j]'(by rw[mY,gp.size];exact hj):=by simp[Array.getD,gp.size,hj]
 rw[gi,gj]at z;have mem:∀x,x<ks.length→ks.getD x []∈ks:=λx hx=>by rw[kI,kC hx];exact gD hx
 cases g:lx (ks.getD (a.toList[j]'(by rw[mY,gp.size];exact hj)) []) (ks.getD (a.toList[i]'(by rw[mY,gp.size];exact hi)) [])with
 |false=>rfl
 |true=>have lt:=(qBV (mem _ (by rw[←kl];exact hin _ (gD _))) (mem _ (by rw[←kl];exact hin _ (gD _)))).mpr g;lia
refine⟨.ref (s.heap.objs.size+1),_,I.laid (t':=s.toks) (λ_ _ h=>sortedAll_old h) (g8 _) (show jK X.prog X.w _ _ _ (.lst _)from⟨?_,(q6P its a).toList,e,?_,he⟩),rfl,(q a.toList (by rw[hlen];exact pp) pw).at _ (I.hok.fresh (g8 _))⟩
·rw[h9,pp.length_eq,mQ,gA];lia
exact q4V rv hin)
end
section
variable{X:Cx}{pins:List (Addr×Obj)}{σ:St}{H:Hp}{s:Shared}
theorem Inv.adopt{D:Addr}{o:HO}(I:Inv X pins σ H s)(f:FpOk X pins H D)(hD:X.s₀.heap.objs.size≤D)(ok:jK X.prog X.w (upd H D o) s.heap D o):Inv X pins σ (upd H D o) s:=by(
have low:∀b ob,X.s₀.heap.get? b=some ob→b≠D:=λb ob e=>mP (mG (kU e) hD)
have trk:∀b u,H b=some u→b≠D:=λb u e=>qH e f.1
refine⟨I.ok,I.os,I.bare,⟨I.base.keep,I.base.slot,λb ob e n x=>?_,I.base.there,λb xs e=>?_,λb ob u e=>?_,λb ps e=>?_⟩,I.loc,I.cell,?_,λx c e=>?_,λp hp=>?_,λb u e=>?_,I.len⟩
·rw[qC (low b ob e)];exact I.base.free b ob e n x
·have z:=I.base.tups b xs e;rw[qC (trk _ _ z)];exact z
·have z:=I.base.frzs b ob u e;rw[qC (trk _ _ z)];exact z
·obtain⟨m,z⟩:=I.base.tbls b ps e;exact⟨m,by rw[qC (trk _ _ z)];exact z⟩
·rw[qC (λz=>f.2.1 z.symm)];exact I.free
·rw[qC (f.2.2.2.2.1 x c e)];exact I.freeC x c e
·obtain⟨a1,a2,a3⟩:=I.pin p hp;exact⟨a1,by rw[qC (f.2.2.2.2.2 p hp)];exact a2,a3⟩
by_cases hb:b=D
·subst hb;rw[qI]at e;cases e;exact ok
rw[qC hb]at e
exact(I.hok b u e).stay (λ_ _ _ q=>q) (λc q=>by rw[qC (trk _ _ q)];exact q) λc xs q=>by rw[qC (trk _ _ q)];exact q)
theorem Inv.near(I:Inv X pins σ H s){A':Around}(h1:A'.handled=X.A.handled)(h2:A'.frames=X.A.frames)(xe:Value→Shared→Prop):Inv { X with A:=A',xe:=xe } pins σ H s:=⟨{ mod:=I.ok.mod,kind:=I.ok.kind,glob:=I.ok.glob,blt:=I.ok.blt,above:=I.ok.above,inj:=I.ok.inj,has:=I.ok.has,cab:=I.ok.cab,hd:=λc=>h1.trans (I.ok.hd c),frames:=h2.trans I.ok.frames,stk:=I.ok.stk,exf:=I.ok.exf,bs:=I.ok.bs,bsz:=I.ok.bsz,noex:=I.ok.noex,exfs:=I.ok.exfs,funs:=I.ok.funs,frf:=I.ok.frf },I.os,I.bare,I.base,I.loc,I.cell,I.free,I.freeC,I.pin,I.hok,I.len⟩
theorem qAW{P:PySem.Fin→Shared→Prop}{EE:Value→Shared→Prop}{A:Around}{a kS:Addr}{st:SortSt}{e1 e:Nat}{ks:List Value}{out:List Value}{us:List V}(I:Inv X pins σ H s)(fa:FpOk X pins H a)(fk:FpOk X pins H kS)(ha:X.s₀.heap.objs.size≤a)(ne:kS≠a)
 (ga:s.heap.get? a=some (seqObj "list" #[] e1)) (gk:s.heap.get? kS=some (seqObj "list" ks.toArray e)) (hk:ks.length<64) (hout:(arrOf st).map (·.2)=out.toArray) (ho:out.length<64) (hf:failedOf st=none) (rv:Vals us out)
 (h:∀s',Inv X pins σ (upd H a (.lst us)) s'→P (.done (.ret .none)) s'):wpAny (model X.prog X.w) A (ksk_tail a false e1 (.ref kS) st) P EE s:=by(
unfold ksk_tail
try dsimp only
rw[hout]
refine hI (dX gk rfl ?_ (by rw[kW,gA];lia) (mL _))
refine hI (wpAny_letGo ?_)
have ga':(s.heap.update kS (Obj.mapSeq λ_=>(#[]:Array Value))).get? a=some (seqObj "list" #[] e1):=(k9 _ _ ne).trans ga
refine hI (cT ga' rfl ?_)
refine hI (dX ga' rfl ?_ (mL _) (by rw[hV kM,kW,gA];lia))
rw[hf]
simp only[bne_self_eq_false,pJ,if_false]
refine kX (h _ ?_)
obtain⟨c2,g2⟩:∃c2,((s.heap.update kS (Obj.mapSeq λ_=>(#[]:Array Value))).update a (Obj.mapSeq λ_=>out.toArray)).get? a=some (seqObj "list" out.toArray c2):=⟨_,rX ga' λ_=>out.toArray⟩
have I2:Inv X pins σ H { s with heap:=(s.heap.update kS (Obj.mapSeq λ_=>(#[]:Array Value))).update a (Obj.mapSeq λ_=>out.toArray),toks:=s.toks }:=I.turnedN (fp:=[kS,a]) (λb o hb eb=>by
  simp only[kJ,g9,cS,not_or]at hb;exact(k9 _ _ (rQ hb.2)).trans ((k9 _ _ (rQ hb.1)).trans eb)) (λb hb=>by
  simp only[kJ,g9,cS]at hb;rcases hb with rfl|rfl
  ·exact fk
  exact fa)
exact I2.adopt fa ha (show jK X.prog X.w _ _ _ (.lst us)from⟨by rw[rv.length,gA];lia,out,c2,rv,g2⟩))
theorem qCY{P:PySem.Fin→Shared→Prop}{EE:Value→Shared→Prop}{A:Around}{a kS:Addr}{e1 e:Nat}{ks vs:List Value}{us zs:List V}{kk:List (List Int)}{m:Nat}(I:Inv X pins σ H s)(fa:FpOk X pins H a)(fk:FpOk X pins H kS)(ha:X.s₀.heap.objs.size≤a)(ne:kS≠a)
 (ga:s.heap.get? a=some (seqObj "list" #[] e1)) (gk:s.heap.get? kS=some (seqObj "list" ks.toArray e)) (rz:Vals zs ks) (rv:Vals us vs) (hl:zs.length=us.length) (h64:us.length<64) (hti:Paired (TupI X.K H) zs kk) (hw:∀k∈kk,k.length=m) (hm:0<m)
 (h:∀q:List Nat,q.Perm (List.range us.length)→(q.map λi=>kk.getD i []).Pairwise (λa b=>lx b a=false)→∀s',Inv X pins σ (upd H a (.lst (q.map λi=>us.getD i .non))) s'→P (.done (.ret .none)) s'):
 wpAny (model X.prog X.w) A (ksk_end a false vs.toArray e1 (.ref kS) ks.toArray) P EE s:=by(
have l1:=rz.length
have l2:=rv.length
have l3:=hti.len
have hlk:ks.length=vs.length:=by lia
unfold ksk_end
try dsimp only
rw[hV kM]
by_cases h2:vs.toArray.size<2
·rw[kF h2,kF h2];refine hI (kX ?_);rw[aD];refine hI (kX ?_);try dsimp only
 have hn2:vs.length<2:=by rw[kW]at h2;exact h2
 refine qAW (out:=vs) (us:=us) I fa fk ha ne ga gk (by lia) ?_ (by lia) rfl rv λs' I'=>?_
 ·rw[hV kM];show(ks.toArray.zip vs.toArray).map (·.2)=vs.toArray;apply p9.mp;rw[sB,Array.toList_zip];show(ks.zip vs).map Prod.snd=vs;exact List.map_snd_zip (by lia)
 have e:(List.range us.length).map (λi=>us.getD i .non)=us:=by refine rN (by simp) λi h1 h3=>?_;rw[cL,wW,kI,kC h3];rfl
 have z:=h (List.range us.length) (List.Perm.refl _) (by rw[gF,dG];intro i j hi hj hij;rw[mQ]at hi hj;lia);rw[e]at z;exact z s' I'
rw[hV h2,hV h2]
have h2':2≤ks.length:=by rw[kW]at h2;lia
have K:=qCX (prog:=X.prog) (w:=X.w) (A:=A) (s:=s) (q9D I rz hti) hw hm h2'
refine hI (K.kind _ _ ?_)
rw[hV kM]
refine hI (gR (kat_run (κ:=tuples' true) (G:=λp s'=>s'=s∧Gp vs.length p∧Srt (λi=>rkOf kk (kk.getD i [])) p vs.length) (Q:=λst' s'=>∃p:Array Nat,arrOf st'=p.map (kas_item (ks.toArray.zip vs.toArray))∧failedOf st'=none∧s'=s∧Gp vs.length p∧Srt (λi=>rkOf kk (kk.getD i [])) p vs.length) hlk (by lia) (by lia) (λp' st' s' _ a2 a3 a4=>⟨p',a2,a3,a4⟩) ?_) ?_ λ_ _ x=>x)
·refine qFF (c:=rc λi=>rkOf kk (kk.getD i [])) (n:=vs.length) (λi j C hi hj c=>K.lt i j C (by lia) (by lia) c) _ (yZ (λp q=>⟨rfl,q⟩) _ (qCV (by lia)))
rintro⟨⟨⟩,st'⟩ s' ⟨p,har,hf,rfl,gp,sr⟩
try dsimp only
have pp:p.toList.Perm (List.range vs.length):=by have:=pK.mp gp;simpa using this
have hin:∀i∈p.toList,i<us.length:=λi hi=>by rw[l2];exact mE.mp (pp.mem_iff.mp hi)
have pw:(p.toList.map λi=>kk.getD i []).Pairwise (λx y=>lx y x=false):=by
 rw[gF,dG];intro i j hi hj hij;rw[mY,gp.size]at hi hj;have z:rkOf kk (kk.getD (p.getD i 0) [])≤rkOf kk (kk.getD (p.getD j 0) []):=sr i j (by lia) hj;have gi:p.getD i 0=p.toList[i]'(by rw[mY,gp.size];exact hi):=by simp[Array.getD,gp.size,hi]
 have gj:p.getD j 0=p.toList[j]'(by rw[mY,gp.size];exact hj):=by simp[Array.getD,gp.size,hj]
 rw[gi,gj]at z;have mem:∀x,x<kk.length→kk.getD x []∈kk:=λx hx=>by rw[kI,kC hx];exact gD hx
 cases g:lx (kk.getD (p.toList[j]'(by rw[mY,gp.size];exact hj)) []) (kk.getD (p.toList[i]'(by rw[mY,gp.size];exact hi)) [])with
 |false=>rfl
 |true=>have b1:=hin _ (gD (show j<p.toList.length by rw[mY,gp.size];exact hj));have b2:=hin _ (gD (show i<p.toList.length by rw[mY,gp.size];exact hi));have lt:=(qBV (mem _ (by lia)) (mem _ (by lia))).mpr g;lia
exact qAW (out:=p.toList.map λi=>vs.getD i Value.none) (us:=p.toList.map λi=>us.getD i .non) I fa fk ha ne ga gk (by lia) (kat_snds hlk har) (by rw[h9,pp.length_eq,mQ];lia) hf (q4V rv hin) λs' I'=>h p.toList (by rw[l2];exact pp) pw s' I')
theorem qFI{P:PySem.Fin→Shared→Prop}{EE:Value→Shared→Prop}{a f:Addr}{n k:Nat}{fd:FuncData}{ps:List Str}{sp:Sp}{vs:List Value}{us:List V}(I:Inv X pins σ H s)(F:FnOk X.prog X.w X.K X.mg X.base CX0 k f fd ps sp)(hr:Room k X.A.in1.in1)(hb:jQ X.K fd ps [])
 (ho:s.heap.get? a=some (seqObj "list" vs.toArray n)) (fa:FpOk X pins H a) (ha:X.s₀.heap.objs.size≤a) (rv:Vals us vs) (h64:us.length<64)
 (Pv:Nat→List V→Hp→Prop) (h0:Pv 0 [] H) (hs:∀i x zs H',us[i]?=some x→Pv i zs H'→sp [x] H' (λz H''=>Pv (i+1) (zs++[z]) H'') E0)
 (hd:∀zs H',H' a=none→zs.length=us.length→Pv us.length zs H'→∃kk m,Paired (TupI X.K H') zs kk∧(∀k∈kk,k.length=m)∧0<m∧∀q:List Nat,q.Perm (List.range us.length)→(q.map λi=>kk.getD i []).Pairwise (λa b=>lx b a=false)→∀s',Inv X pins σ (upd H' a (.lst (q.map λi=>us.getD i .non))) s'→P (.done (.ret .none)) s'):
 wpAny (model X.prog X.w) X.A.in1.in1 (ksk_tree a (.ref f) false) P EE s:=by(
have hal:a<s.heap.objs.size:=kU ho
have hl:=rv.length
obtain⟨e1,g1⟩:∃e1,(s.heap.update a (Obj.mapSeq λ_=>(#[]:Array Value))).get? a=some (seqObj "list" #[] e1):=⟨_,rX ho λ_=>#[]⟩
unfold ksk_tree
refine hI (pA ho rfl (hI (dX ho rfl (hI (cT g1 rfl ?_)) (by rw[kW,gA];lia) (mL _))))
refine hI (nM (hI (wQ (gQ ?_) (mL _))) (by show vs.length≤_;rw[gA];lia))
have hks:((s.heap.update a (Obj.mapSeq λ_=>(#[]:Array Value))).push (seqObj "tuple" vs.toArray 0)).objs.size=s.heap.objs.size+1:=by rw[sO,wL]
obtain⟨kS,eks⟩:∃kS:Addr,kS=((s.heap.update a (Obj.mapSeq λ_=>(#[]:Array Value))).push (seqObj "tuple" vs.toArray 0)).objs.size:=⟨_,rfl⟩
have ksz:s.heap.objs.size≤kS:=by rw[eks,hks];exact g8 _
have ne:kS≠a:=dN (mG hal ksz)
show wpAny (model X.prog X.w) X.A.in1.in1 (ksk_rest a (.ref f) false vs.toArray e1 (.ref ((s.heap.update a (Obj.mapSeq λ_=>(#[]:Array Value))).push (seqObj "tuple" vs.toArray 0)).objs.size)) P EE { s with heap:=((s.heap.update a (Obj.mapSeq λ_=>(#[]:Array Value))).push (seqObj "tuple" vs.toArray 0)).push (seqObj "list" #[] 0) }
rw[←eks]
have gk0:(((s.heap.update a (Obj.mapSeq λ_=>(#[]:Array Value))).push (seqObj "tuple" vs.toArray 0)).push (seqObj "list" #[] 0)).get? kS=some (seqObj "list" #[] 0):=by rw[eks];exact mF _ rfl
have ga0:=kE (seqObj "list" #[] 0) (kE (seqObj "tuple" vs.toArray 0) g1)
have I0:Inv X pins σ H { s with heap:=((s.heap.update a (Obj.mapSeq λ_=>(#[]:Array Value))).push (seqObj "tuple" vs.toArray 0)).push (seqObj "list" #[] 0),toks:=s.toks }:=I.turnedN (fp:=[a]) (λb o hb' e=>kE _ (kE _ ((k9 _ _ (λz=>hb' (hX.mpr z.symm))).trans e))) (λb hb'=>by rw[hX.mp hb'];exact fa)
have fk0:FpOk X pins H kS:=I.fpOk ksz (I.hok.fresh ksz)
have fp:∀{H':Hp} {b:Addr},FpOk X pins H b→H' b=none→FpOk X pins H' b:=λf e=>⟨e,f.2⟩
unfold ksk_rest
refine hI (wpAny_rule ?_)
first
 |rw[lK]
 |(rw[←lL];simp only[nX])
refine hI (ksk_fold (I:=λi s'=>∃H' zs ks e,Inv X pins σ H' s'∧s'.heap.get? a=some (seqObj "list" #[] e1)∧s'.heap.get? kS=some (seqObj "list" (List.toArray ks) e)∧Vals zs ks∧zs.length=i∧Pv i zs H'∧H' a=none∧H' kS=none) vs 0 _ ⟨H,[],[],0,I0,ga0,gk0,.nil,rfl,h0,fa.1,fk0.1⟩ (λj x s' hx hJ=>?_) λs' hJ=>?_)
·obtain⟨H',zs,ks,e,I1,ga,gk,rz,lz,pv,na,nk⟩:=hJ;rw[cF]at lz pv ⊢;have hj:j<vs.length:=(kD.mp hx).1;obtain⟨y,ey,ry⟩:=rv.atN (j:=j) hj;obtain rfl:vs[j]=x:=(kD.mp hx).2;have I2:=(I1.near (A':=X.A.in1.in1) rfl rfl λ_ _=>False).pinned (fp:=[a,kS]) (λb hb'=>by
  simp only[kJ,g9,cS]at hb';rcases hb' with rfl|rfl
  ·exact fp fa na
  ·exact fp fk0 nk) (λb hb'=>by
  simp only[kJ,g9,cS]at hb';rcases hb' with rfl|rfl
  ·exact⟨_,ga,λv z=>by cases z⟩
  exact⟨_,gk,λv z=>by cases z⟩)
 refine hI (pS (gR (q6D (X:={ X with A:=X.A.in1.in1,xe:=λ_ _=>False }) (dvs:=[]) (E:=E0) F hr hb .nil qK I2 (vs:=[y]) (us:=[vs[j]]) (.cons ry .nil) (hs j y zs H' ey pv)) (λu s'' hq=>?_) λ_ _ z=>z.elim));obtain⟨z,H'',I3,ru,q⟩:=hq;have pa:=I3.pin (a,seqObj "list" #[] e1) (kZ _ (kZ _ (u6 (by simp) ga)));have pk:=I3.pin (kS,seqObj "list" (List.toArray ks) e) (kZ _ (kZ _ (u6 (by simp) gk)));have lk:=rz.length;have ea:(List.toArray ks).push u=List.toArray (ks++[u]):=by simp
 obtain⟨c2,g2⟩:∃c2,(s''.heap.update kS (Obj.mapSeq (·.push u))).get? kS=some (seqObj "list" (List.toArray (ks++[u])) c2):=⟨_,by rw[←ea];exact rX pk.1 (·.push u)⟩;try dsimp only
 refine hI (dX pk.1 rfl ?_ (by rw[kW,gA];lia) (k8 (wI (aE ..)) (by rw[kW,gA];lia)));have I4:Inv X pins σ H'' s'':=(I3.unpinned).near (A':=X.A) rfl rfl X.xe;have I5:Inv X pins σ H'' { s'' with heap:=s''.heap.update kS (Obj.mapSeq (·.push u)),toks:=s''.toks }:=I4.turnedN (fp:=[kS]) (λb o hb' e=>(k9 _ _ (λz=>hb' (hX.mpr z.symm))).trans e) (λb hb'=>by rw[hX.mp hb'];exact fp fk0 pk.2.1);exact kX ⟨rfl,H'',zs++[z],ks++[u],c2,I5,(k9 _ _ ne).trans pa.1,g2,rz.append (.cons ru .nil),by rw[kO,lz];rfl,q,pa.2.1,pk.2.1⟩
obtain⟨H',zs,ks,e,I1,ga,gk,rz,lz,pv,na,nk⟩:=hJ
rw[cF,←hl]at lz pv
obtain⟨kk,m,hti,hw,hm,fin⟩:=hd zs H' na lz pv
try dsimp only
refine hI (pA gk rfl ?_)
exact qCY I1 (fp fa na) (fp fk0 nk) ha ne ga gk rz rv lz h64 hti hw hm fin)
noncomputable def tSK(K:PySem.W.Frag)(sp:Sp)(ta:TA):TE:=λσ H Q=>ta σ H λvs H1=>∃(l:Addr) (us:List V) (Pv:Nat→List V→Hp→Prop),vs=[.ref l]∧SqL K H1 l us∧us.length<64∧Pv 0 [] H1∧(∀i x zs H',us[i]?=some x→Pv i zs H'→sp [x] H' (λz H''=>Pv (i+1) (zs++[z]) H'') E0)∧∀zs H',zs.length=us.length→Pv us.length zs H'→∃kk m,Paired (TupI K H') zs kk∧(∀k∈kk,k.length=m)∧0<m∧∀q:List Nat,q.Perm (List.range us.length)→(q.map λi=>kk.getD i []).Pairwise (λa b=>lx b a=false)→NewO H' (.lst (q.map λi=>us.getD i .non)) Q
theorem qBW{k:Nat}{f:Addr}{fd:FuncData}{ps:List Str}{sp:Sp}{e:Expr}{fx:Str}{ta:TA}{p pf kp pos:Pos}(F:FnOk X.prog X.w X.K X.mg X.base CX0 k f fd ps sp)(hr:Room (k+2) X.A)(hb:jQ X.K fd ps [])(hg:Gl X "sorted")(hm:X.mg "sorted"=none)(hgf:Gl X fx)(hmf:X.mg fx=some (.ref f))(ha:PA X [e] ta)
 (he:starEach [e] X.env=[(false,eval e X.env)]:=by rfl) (hse:starEach ([]:List Expr) X.env=[]:=by rfl) (hdb:(fx==("__debug__":Str))=false:=by decide):
 PE X (.Call (.Name "sorted" p) [e] [⟨some "key",.Name fx pf,kp⟩] pos) (tSK X.K sp ta):=by(
intro pins s σ H Q I h
refine g7 (q3I I hg hm (u:=.builtin "sorted") (by kernel_rfl) ?_ (by decide) (by decide))
refine callWith_kw (thn (ha pos pins s σ H _ I h) λus s1 ⟨vs,H1,I1,r1,q1⟩=>?_) (by rw[he,hse];rfl) (by rw[he];rfl)
have pk:PK X [⟨some "key",.Name fx pf,kp⟩] (qCH (tC (.ref f)) tNil):=qCI (zC hgf hmf rfl (v:=.ref f) (hd:=hdb)) qEK
refine thn (pk pos pins s1 σ H1 (λxs H2=>xs=[.ref f]∧H2=H1) I1 ⟨rfl,rfl⟩) λws s2 hZ=>?_
obtain⟨xs,H2,I2,r2,ex,eH⟩:=hZ
subst ex eH
obtain⟨w,rfl,rw⟩:=q1Y r2
obtain rfl:w=Value.ref f:=rw
obtain⟨l,us',Pv,ev,hq,h64,p0,hs,hd⟩:=q1
subst ev
obtain⟨u,rfl,ru⟩:=q1Y r1
obtain rfl:u=Value.ref l:=ru
obtain⟨its,rv,pl,hz⟩:=I2.list hq
have hlen:=rv.length
show wpAny (model X.prog X.w) X.A (call (.builtin "sorted") [.ref l] [(Str.ofString "key",.ref f)]) _ _ _
refine sP xV xC xD (ksk_s1 _ _) ?_
unfold Builtin.«sorted»
refine hI (m:=checkCount "sorted" 1 1 _) (kX (hI (xE pl.isList (hI (wQ ?_ (by rw[gA];show its.length≤_;lia))))))
have hsz:((s2.heap.push (seqObj "list" #[] 0)).update s2.heap.objs.size (Obj.mapSeq (· ++its.toArray))).objs.size=s2.heap.objs.size+1:=by rw[wL,sO]
have g:(((s2.heap.push (seqObj "list" #[] 0)).update s2.heap.objs.size (Obj.mapSeq (· ++its.toArray))).push (seqObj "list" its.toArray 0)).get? (s2.heap.objs.size+1)=some (seqObj "list" its.toArray 0):=by rw[←hsz];exact mF _ rfl
show wpAny _ _ _ _ _ { s2 with heap:=((s2.heap.push (seqObj "list" #[] 0)).update s2.heap.objs.size (Obj.mapSeq (· ++its.toArray))).push (seqObj "list" its.toArray 0) }
rw[hsz]
have I3:Inv X pins σ H2 { s2 with heap:=((s2.heap.push (seqObj "list" #[] 0)).update s2.heap.objs.size (Obj.mapSeq (· ++its.toArray))).push (seqObj "list" its.toArray 0),toks:=s2.toks }:=I2.kept (t':=s2.toks) λb o e=>kE _ ((k9 _ _ (dN (kU e))).trans (kE _ e))
refine hI (gQ (nY nN ⟨_,g,rfl⟩ sR ?_ (ksk_l1 _ _)))
rw[ksk_t1]
have fr:s2.heap.objs.size≤s2.heap.objs.size+1:=g8 _
refine qFI I3 F (hr.in1.in1) hb g (I2.fpOk fr (I2.hok.fresh fr)) (k8 I2.sz fr) rv h64 Pv p0 hs λzs H' na lz pv=>?_
obtain⟨kk,m,a1,a2,a3,a4⟩:=hd zs H' lz pv
refine⟨kk,m,a1,a2,a3,λq b1 b2 s' I'=>⟨_,rfl,kX ⟨_,rfl,.ref _,_,I',rfl,(a4 q b1 b2).at _ na⟩⟩⟩)
end
end L2
namespace W1
open PySem L2
noncomputable def T0:Tl:=⟨0,0,0,0⟩
noncomputable def pick(q:List Nat)(ts:List Tl):List Tl:=q.map λi=>ts.getD i T0
theorem q4W{q:List Nat}{ts:List Tl}(h:q.Perm (List.range ts.length)):(pick q ts).Perm ts:=by(
have e:(List.range ts.length).map (λi=>ts.getD i T0)=ts:=by refine rN (by simp) λi h1 h2=>?_;rw[cL,wW,kI,kC h2];rfl
have:=h.map λi=>ts.getD i T0
rw[e]at this
exact this)
theorem q49{q:List Nat}{ts:List Tl}(key:Tl→List Int)(h:∀i∈q,i<ts.length):(q.map λi=>(ts.map key).getD i [])=(pick q ts).map key:=by(
unfold pick
rw[pB]
refine dS λi hi=>?_
have hi':=h i hi
show(ts.map key).getD i []=key (ts.getD i T0)
rw[kI,kI,mC,kC hi']
rfl)
theorem zV{α β:Type}{F:α→β→Prop}{us:List α}{ts:List β}{d:α}{d':β}(h:Paired F us ts):∀{q:List Nat},(∀i∈q,i<us.length)→Paired F (q.map λi=>us.getD i d) (q.map λi=>ts.getD i d')
| [],_=>.nil
|i::q,hq=>by have hi:=hq i (kQ ..);obtain⟨b,e,f⟩:=Paired.at h (kC hi);refine .cons ?_ (zV h λj hj=>hq j (kB _ hj));show F (us.getD i d) (ts.getD i d');rw[kI,kI,kC hi,e];exact f
noncomputable def agR(x y:Tl):Prop:=lx [y.bo,y.b] [x.bo,x.b]=false
end W1
namespace L2
open PySem PySem.Spec PyProof.Rows
theorem qHD{X:Cx}{K:PySem.W.Frag}{es:List Expr}{k:Nat}{t:TGs}{n:Nat}{pos:Pos}(e:X.K=K)(hc:X.calm=true)(h:PGs X es t)(hn:(assignEach es X.env).length=n)(hst:(assignEach es X.env).findIdx? (·.1)=none):PG X (.Tuple es k pos) (gTup K n t):=by subst e;exact qBM hc h hn hst
noncomputable def q5F(v a:Addr):HO:=.ext λh=>h.IsItemsView v a
theorem qFJ{P:Program}{w:World}{H:Hp}{h:Heap}{v a:Addr}(e:h.IsItemsView v a):jK P w H h v (q5F v a):=by obtain⟨o,e1,e2,e3⟩:=id e;exact⟨e,⟨_,e1⟩,λ_ _ ⟨o,a1,a2⟩ k=>⟨o,k _ a1,a2⟩⟩
theorem qFK{P:Program}{w:World}{H:Hp}{h:Heap}{v a:Addr}(ok:HOk P w H h)(e:H v=some (q5F v a)):h.IsItemsView v a:=(ok v _ e).1
noncomputable def qK7:V→List V→Hp→VK→Prop:=λx vs H Q=>∃a kvs,x=.ref a∧vs=[]∧H a=some (.dK kvs)∧∀v,H v=none→Q (.ref v) (upd H v (q5F v a))
theorem qFL{X:Cx}:MtR X "dict.items" qK7:=by(
intro pins s σ H x vs v us Q I rx rv hZ
obtain⟨a,kvs,ex,ev,ha,q⟩:=hZ
subst ex ev
cases rx
have hus:=rv.zero
subst hus
obtain⟨z,lo,ws,rel,dd⟩:=qAF I.hok ha
refine call_meetsIn sD dd.typeIs PySem.F.entry_dict_items (PySem.F.args_dict_items_1 _) (meets_dict_items (y8 X.prog X.w) a lo) ⟨⟨ws,dd⟩,?_⟩
exact⟨.ref s.heap.objs.size,_,I.laid (t':=s.toks) (λb o e=>kE _ e) (kN _) (qFJ ⟨_,mF _ rfl,rfl,rfl⟩),rfl,q _ (I.hok.fresh (kN _))⟩)
theorem q6Q:entryFor table "dict_itemiterator.__iter__"=some Builtin.«dict_keyiterator.__iter__»:=entryFor_alias (id':="dict_keyiterator.__iter__") (by kernel_rfl) (by first|decide+kernel|rfl|(unfold String.splitOn;simp+decide [String.splitOnAux])) (by decide+kernel) (by kernel_rfl)
noncomputable def Iti(a:Addr)(o:Obj)(kvs:List (Key×V)):It:=⟨λi H=>H a=some (.frz o (.dK kvs))∧i<kvs.length,λi H v H'=>∃T kv,v=.ref T∧H T=none∧H'=upd H T (.tup [kV kv.1,kv.2])∧kvs[i]?=some kv,λi H=>H a=some (.frz o (.dK kvs))∧kvs.length≤i⟩
theorem qBX{P:Program}{w:World}{K:PySem.W.Frag}{elts:List Expr}{x1}{pos:Pos}(a it:Addr)(o:Obj){kvs:List (Key×V)}{vs:List (Key×Value)}{ep:Nat}(rel:KV kvs vs)(hD:∀h:Heap,h.get? a=some o→h.DictAt (y8 P w) a vs ep):
 Turn P w K (.Tuple elts x1 pos) (Iti a o kvs) [it] it (λi h=>∃k0 v0,IsItemIter h it a i vs.length ep k0 v0) where
mem:=by simp
obj:=λi h st b hb=>by
 have e:b=it:=by simpa using hb
 subst e;obtain⟨k0,v0,e⟩:=st;exact⟨_,e,λv z=>by cases z⟩
keep:=λi h h' st k=>let⟨k0,v0,e⟩:=st;⟨k0,v0,k it (by simp) _ e⟩
item:=by
 intro X hP hw hK hc i pins s σ H E I hf st hg;subst hP hw hK;obtain⟨ha,hi⟩:=hg;obtain⟨ho,_⟩:=I.hok a _ ha;have hl:=rel.length;have hi':i<vs.length:=by lia
 obtain⟨k0,v0,st⟩:=st;obtain⟨f0,f1,f2,f3,f4,f5⟩:=hf it (by simp);refine wpAny_pyNext_items_item (k:=vs[i].1) (v:=vs[i].2) st (hD _ ho) (kC hi') λkey h' hk b1 b5 b6 b7=>?_;refine⟨_,rfl,wpAny_letOwnedTupleGo_items (s:={ s with heap:=h' }) b1 λh'' c1 c2=>?_⟩;have kk:∀b o,b∉[it]→s.heap.get? b=some o→h''.get? b=some o:=λb o hb e=>by have nb:b≠it:=λz=>hb (hX.mpr z);exact c2.extBut _ _ nb (b7 b o nb e)
 have I1:Inv X pins σ H { s with heap:=h'' }:=I.turnedN (t':=s.toks) kk hf;have fr:H s.heap.objs.size=none:=I.hok.fresh (kN _);have yg:=I.young (a:=s.heap.objs.size) (cQ (kN _));have nit:s.heap.objs.size≠it:=dN (kU st);have ek:=g5 (λl=>l[i]?) rel.keys;simp only[mC,kC hi,kC hi',x9]at ek;have rk:RelV (kV kvs[i].1) key:=by rw[kL ek];exact qIM hk
 have rv:RelV kvs[i].2 vs[i].2:=by obtain⟨q,hq,z1,z2⟩:=Paired.at rel (kC hi);rw[kC hi']at hq;rw[kL hq];exact z2
 have I2:=I1.trackG (o:=.tup [kV kvs[i].1,kvs[i].2]) fr yg (dN I.lt) (λx' c' w q'=>by obtain⟨v,o',ho,_⟩:=I.cell x' c' w;exact absurd (kU ho) (by rw[q'];exact dM _)) ⟨by rw[gA,mB,mB,cW];lia,[key,vs[i].2],.cons rk (.cons rv .nil),⟨_,c2.extBut _ _ nit b5,rfl,_,rfl⟩⟩;refine⟨.ref s.heap.objs.size,_,I2,rfl,⟨_,kvs[i],rfl,fr,rfl,kC hi⟩,⟨_,_,c1⟩,λb hb=>?_⟩;have e:b=it:=by simpa using hb
 subst e;rw[qC (rQ nit)];exact(hf b hb).1
done:=by intro X hP hw hK hc i pins s σ H E I hf st hg;subst hP hw hK;obtain⟨ha,hi⟩:=hg;obtain⟨ho,_⟩:=I.hok a _ ha;have hl:=rel.length;obtain⟨k0,v0,st⟩:=st;obtain⟨f0,f1,f2,f3,f4,f5⟩:=hf it (by simp);exact wpAny_pyNext_items_end (I.ok.hd hc) st (hD _ ho) (gM (by lia)) λh' eb=>⟨rfl,I.turned (t':=s.toks) (λb o hb e=>eb b o hb e) f0 f1 f3 f4 f5⟩
self:=λA i s Q E ⟨k0,v0,st⟩ h=>by have ty:s.TypeIs (.ref it) "dict_itemiterator":=⟨_,st,rfl⟩;refine wpAny_pyIter_slot ty wR (wpAny_call_entry wR ty q6Q ?_ (PySem.F.args_dict_itemiterator_iter_1 _));show wpAny _ _ (ret (.ref it)) _ _ s;exact kX ⟨_,rfl,"dict_itemiterator",_,ty,PySem.F.slot_dict_itemiterator_next.lookup,h⟩
section
variable{X:Cx}
noncomputable def iItm(td:TE):TI:=λσ H R=>td σ H λx H1=>∃v a kvs,x=.ref v∧H1 v=some (q5F v a)∧H1 a=some (.dK kvs)∧∀o,R (Iti a o kvs) (upd H1 a (.frz o (.dK kvs)))
theorem qK8{elts:List Expr}{x1}{pos:Pos}{d:Expr}{td:TE}(hd:PE X d td):PI X (.Tuple elts x1 pos) d (iItm td):=by(
intro pins s σ H R I h
refine thn (hd pins s σ H _ I h) λv s1 hZ=>?_
obtain⟨x,H1,I1,r1,q1⟩:=hZ
obtain⟨vw,a,kvs,e,hv,ha,q⟩:=q1
subst e
cases r1
obtain⟨z,lo,vs,rel,dd⟩:=qAF I1.hok ha
obtain⟨ep,hat⟩:=dd.dictAt
obtain⟨o,es,ho,hr⟩:=id hat
have I2:=I1.freeze ha ho
refine wpAny_pyIter_items (qFK I1.hok hv) hat ?_
refine⟨s1.heap.objs.size,[s1.heap.objs.size],_,_,_,rfl,I2.kept (t':=s1.toks) λb o e=>kE _ e,qBX a _ o rel (λh' h=>⟨o,es,h,hr⟩),⟨_,_,mF _ rfl⟩,λb hb=>?_,q o⟩
have e:b=s1.heap.objs.size:=by simpa using hb
subst e
exact I2.fpOk (kN _) (I2.hok.fresh (kN _)))
end
theorem qHE{a:Addr}{o:Obj}{kvs:List (Key×V)}{D:Addr}{H2:Hp}{g:TG}{tc:TT}{te:TE}{σ0:St}{R:Hp→Prop}(Pv:Nat→Hp→Prop)(h0:Pv 0 H2)(hl:∀i H,Pv i H→H a=some (.frz o (.dK kvs)))
 (hs:∀(i:Nat) kv T H,kvs[i]?=some kv→Pv i H→H T=none→g (.ref T) σ0 (upd H T (.tup [kV kv.1,kv.2])) λσ5 H5=>tc σ5 H5 λb H6=>if b=true then te σ5 H6 (λv H7=>∃vs,H7 D=some (.lst vs)∧vs.length<sizeLine∧Pv (i+1) (upd H7 D (.lst (vs++[v]))))else Pv (i+1) H6) (hd:∀H,Pv kvs.length H→R H):
 ∃W:Nat→Nat→Hp→Prop,(∃m,W 0 m H2)∧∀i m H3,W i m H3→((Iti a o kvs).stop i H3∧R H3)∨((Iti a o kvs).go i H3∧∃N:Hp→Prop,(∀H',N H'→∃m',m'<m∧W (i+1) m' H')∧∀x H4,(Iti a o kvs).yld i H3 x H4→g x σ0 H4 λσ5 H5=>tc σ5 H5 λb H6=>
   if b=true then te σ5 H6 (λv H7=>∃vs,H7 D=some (.lst vs)∧vs.length<sizeLine∧N (upd H7 D (.lst (vs++[v]))))else N H6):=by(
refine⟨λi m H=>m=kvs.length-i∧i≤kvs.length∧Pv i H,⟨kvs.length,by simp,mL _,h0⟩,?_⟩
rintro i m H ⟨rfl,hi,p⟩
have q:=hl i H p
by_cases hlt:i<kvs.length
·refine .inr ⟨⟨q,hlt⟩,Pv (i+1),λH' z=>⟨kvs.length-(i+1),by lia,rfl,by lia,z⟩,?_⟩;rintro v H' ⟨T,kv,rfl,nT,rfl,hk⟩
 exact hs i kv T _ hk p nT
obtain rfl:i=kvs.length:=by lia
exact .inl ⟨⟨q,kN _⟩,hd _ p⟩)
end L2
namespace L2
open PySem PySem.W PySem.Spec PyProof.Rows
section
variable{X:Cx}{pins:List (Addr×Obj)}{σ:St}
noncomputable def TupD(H:Hp)(v:V)(k:List Int):Prop:=∃a,v=.ref a∧H a=some (.tup (k.map V.int))
theorem TupD.i{K:PySem.W.Frag}{H:Hp}{v:V}{k:List Int}(h:TupD H v k):TupI K H v k:=let⟨a,e,z⟩:=h;⟨a,e,SqT.of z⟩
theorem TupD.same{H H':Hp}{v:V}{k:List Int}(h:TupD H v k)(s:Same H H'):TupD H' v k:=let⟨a,e,z⟩:=h;⟨a,e,s _ _ z⟩
theorem TupD.upd{H:Hp}{v:V}{k:List Int}{D:Addr}{u o:HO}(h:TupD H v k)(hd:H D=some u)(n:∀ys,u≠ .tup ys):TupD (L2.upd H D o) v k:=let⟨a,e,z⟩:=h;⟨a,e,by rw[qC (jH z hd (λq=>n _ q.symm))];exact z⟩
noncomputable def dI(ks:List (Int×Int)):List (Key×V):=ks.map λp=>((.inl p.1:Key),V.int p.2)
theorem q9E:∀{ks:List (Int×Int)} {n m:Int},(ks.map (·.1)).Nodup→(n,m)∈ks→valV (dI ks) (.inl n:Key)=some (.int m)
|p::ks,n,m,nd,h=>by
 obtain⟨n1,n2⟩:=mW.mp nd;show valV (((.inl p.1:Key),V.int p.2)::dI ks) (.inl n)=_;rcases kJ.mp h with rfl|h
 ·exact q42 rfl
 have ne:p.1≠n:=λe=>n1 (by show p.1∈_;rw[e];exact c6 (f:=λx:Int×Int=>x.1) h);rw[q20 (λe=>ne (pO e))];exact q9E n2 h
theorem q6R:∀{ks:List (Int×Int)} {n:Int},n∉ks.map (·.1)→valV (dI ks) (.inl n:Key)=none
| [],n,_=>rfl
|p::ks,n,h=>by
 show valV (((.inl p.1:Key),V.int p.2)::dI ks) (.inl n)=_;have h':n≠p.1∧n∉ks.map (·.1):=by simpa using h
 rw[q20 (λe=>h'.1 (pO e).symm)];exact q6R h'.2
end
end L2
namespace W1
theorem jJ{α:Type}(l:List α)(i j:Nat)(x d:α):(l.set i x).getD j d=if i=j∧i<l.length then x else l.getD j d:=by(
rw[kI,List.getElem?_set,kI]
by_cases h:i=j
·subst h;rw[kF rfl];by_cases h2:i<l.length
 ·rw[kF h2,kF ⟨rfl,h2⟩];rfl
 rw[hV h2,hV (λz=>h2 z.2),gM (by lia)]
rw[hV h,hV (λz=>h z.1)])
theorem yG{P b j:Nat}(h:j<P):(b*P+j) / P=b:=by rw[rU,Nat.mul_add_div (by lia),Nat.div_eq_of_lt h,xF]
theorem q13{α:Type}[DecidableEq α]:∀{l m:List α},l.Nodup→m.Nodup→(∀x,x∈l↔x∈m)→l.Perm m
| [],m,_,_,h=>by
 cases m with
 |nil=>exact .nil
 |cons a m=>exact absurd ((h a).mpr kQ) (by simp)
|a::l,m,h1,h2,h=>by
 have ha:=(h a).mp kQ;obtain⟨n1,n2⟩:=mW.mp h1;refine List.Perm.trans (List.Perm.cons a (q13 n2 (h2.erase a) λx=>?_)) (List.perm_cons_erase ha).symm;rw[List.Nodup.mem_erase_iff h2];constructor
 ·intro hx;exact⟨λe=>n1 (e▸hx),(h x).mp (kB _ hx)⟩
 rintro⟨ne,hx⟩
 exact(kJ.mp ((h x).mpr hx)).resolve_left ne
theorem qFM{α:Type}[DecidableEq α]:∀{l m:List α},l.Nodup→(∀x∈l,x∈m)→l.length≤m.length
| [],_,_,_=>mL _
|a::l,m,h1,h=>by obtain⟨n1,n2⟩:=mW.mp h1;have ha:=h a kQ;have:=qFM (m:=m.erase a) n2 λx hx=>(List.mem_erase_of_ne (show x≠a from λe=>n1 (e▸hx))).mpr (h x (kB _ hx));rw[List.length_erase_of_mem ha]at this;have h0:=sQ ha;rw[mB];lia
noncomputable abbrev Mp:=List (Int×Int)
noncomputable def jM(W:Mp)(n:Int):Mp:=W.filter λq=>decide (q.1≠n)
noncomputable def putW(W:Mp)(n p:Int):Mp:=if(W.any λq=>decide (q.1=n))=true then W.map (λq=>if q.1=n then(q.1,p)else q)else W++[(n,p)]
theorem jO{W:Mp}{n:Int}{q:Int×Int}:q∈jM W n↔q∈W∧q.1≠n:=by unfold jM;rw[mK,kP]
theorem qIO{W:Mp}(h:(W.map (·.1)).Nodup):W.Nodup:=(gF.mp h).imp λz e=>z (g5 Prod.fst e)
theorem qK9{W:Mp}(h:(W.map (·.1)).Nodup){q r:Int×Int}(hq:q∈W)(hr:r∈W)(e:q.1=r.1):q=r:=by(
induction W with
|nil=>cases hq
|cons a W ih=>
 obtain⟨n1,n2⟩:=mW.mp h;rcases kJ.mp hq with e1|h1
 ·rcases kJ.mp hr with e2|h2
  ·rw[e1,e2]
  exact absurd (by show a.1∈_;rw[←e1,e];exact c6 (f:=λx:Int×Int=>x.1) h2) n1
 rcases kJ.mp hr with e2|h2
 ·exact absurd (by show a.1∈_;rw[←e2,←e];exact c6 (f:=λx:Int×Int=>x.1) h1) n1
 exact ih n2 h1 h2)
theorem q6S{W:Mp}{n:Int}(h:(W.map (·.1)).Nodup):((jM W n).map (·.1)).Nodup:=(h.sublist ((nZ ..).map _))
theorem qAX{W:Mp}{n p:Int}(h:(W.map (·.1)).Nodup){q:Int×Int}:q∈putW W n p↔q=(n,p)∨q∈jM W n:=by(
unfold putW
by_cases e:(W.any λq=>decide (q.1=n))=true
·rw[kF e,kY];obtain⟨r,hr,er⟩:=rP.mp e;have er:r.1=n:=mM er;constructor
 ·rintro⟨x,hx,rfl⟩
  by_cases ex:x.1=n
  ·rw[kF ex];exact .inl (by rw[ex])
  rw[hV ex];exact .inr (jO.mpr ⟨hx,ex⟩)
 rintro(rfl|h2)
 ·exact⟨r,hr,by rw[kF er,er]⟩
 obtain⟨a,b⟩:=jO.mp h2;exact⟨q,a,hV b⟩
rw[hV e,gT,hX]
have no:∀x∈W,x.1≠n:=λx hx z=>e (rP.mpr ⟨x,hx,hG z⟩)
constructor
·rintro(h1|h1)
 ·exact .inr (jO.mpr ⟨h1,no _ h1⟩)
 exact .inl h1
rintro(h1|h1)
·exact .inr h1
exact .inl (jO.mp h1).1)
theorem qDW{W:Mp}{n p:Int}(h:(W.map (·.1)).Nodup):((putW W n p).map (·.1)).Nodup:=by(
unfold putW
by_cases e:(W.any λq=>decide (q.1=n))=true
·rw[kF e,pB];have:(λx:Int×Int=>x.1) ∘ (λq:Int×Int=>if q.1=n then(q.1,p)else q)=λx=>x.1:=by funext x;show(if x.1=n then(x.1,p)else x).1=x.1;split<;>rfl
 rw[this];exact h
rw[hV e,mR]
refine wB.mpr ⟨h,by simp,λa ha b hb z=>e ?_⟩
obtain⟨x,hx,rfl⟩:=kY.mp ha
have hb:b=n:=by simpa using hb
exact rP.mpr ⟨x,hx,hG (by rw[z,hb])⟩)
noncomputable def cntB(P:Nat)(W:Mp)(b:Nat):Nat:=W.countP λq=>decide (q.2 / (P:Int)=(b:Int))
theorem qFN{P:Nat}{W:Mp}{n p:Int}{b:Nat}(nd:(W.map (·.1)).Nodup)(h:(n,p)∈W):cntB P W b=cntB P (jM W n) b+if p / (P:Int)=(b:Int)then 1 else 0:=by(
have pm:W.Perm ((n,p)::jM W n):=q13 (qIO nd) (mW.mpr ⟨λz=>(jO.mp z).2 rfl,qIO (q6S nd)⟩) λx=>by
 rw[kJ,jO];constructor
 ·intro hx;by_cases e:x.1=n
  ·exact .inl (qK9 nd hx h e)
  exact .inr ⟨hx,e⟩
 rintro(rfl|hx)
 ·exact h
 exact hx.1
unfold cntB
rw[pm.countP_eq,cK]
by_cases e:p / (P:Int)=(b:Int)
·rw[kF e,kF (hG e)]
rw[hV e,hV (by rw[kP];exact e)])
theorem qHF{W:Mp}{n:Int}(h:∀q∈W,q.1≠n):jM W n=W:=rJ.mpr λq hq=>hG (h q hq)
structure BM where
P:Nat
B:Nat
ns:List Int
W:Mp
V:Mp
nx:Int
bs:List (Option Int)
ss:List Int
lv:List Int
fi:List Int
bo:List Int
namespace BM
variable{m:BM}
noncomputable def lvF(P:Nat)(V:Mp)(lv:List Int)(n:Int):List Int:=match V.find? λq=>decide (q.1=n)with
|some q=>lv.set (q.2 / (P:Int)).toNat (lv.getD (q.2 / (P:Int)).toNat 0-1)
|none=>lv
end BM
end W1
namespace L2
open PySem PySem.Spec PyProof.Rows
noncomputable def qIP(K:PySem.W.Frag):R2:=λx y H Q=>∃p xs e,x=.ref p∧y=.ref e∧SqL K H p xs∧SqL K H e []∧Q (.bl (decide (xs≠[]))) H
theorem qFO{X:Cx}(hu:X.A.units+64<cLine):OpR X (compareOp .NotEq) (qIP X.K):=by(
intro pins s σ H x y v u Q I rx ry hZ
obtain⟨p,xs,e,ex,ey,hp,he,q⟩:=hZ
subst ex ey
cases rx
cases ry
obtain⟨i1,r1,p1,_⟩:=I.list hp
obtain⟨i2,r2,p2,_⟩:=I.list he
have l1:=r1.length
have l2:=r2.length
cases xs with
|nil=>exact lJ (e:=λ_=>true) p1.isList p2.isList (by simp at l1 l2 ⊢;lia) (by lia) (λj h1 h2=>by simp at l1 h1;lia) _ _ _ _ ⟨.bl false,H,I,by rw[vK];rfl,q⟩
|cons z zs=>exact SeqAt.RcNeAt.lists_lengths p1.isList p2.isList (by simp at l1 l2 ⊢;lia) (by lia) _ _ _ _ ⟨.bl true,H,I,rfl,q⟩)
theorem q4X{n j:Nat}(h:j<n):ixN n (j:Int)=some j:=by(
unfold ixN
have a:(0:Int)≤j:=by lia
have b:(j:Int)<n:=by lia
simp[a,b,h])
theorem qFP{V:List (Int×Int)}{n:Int}:q6G (dI V) (Sum.inl n:Key)=dI (W1.jM V n):=by(
unfold q6G dI W1.jM
rw[List.filter_map]
congr 1
apply pQ
intro q _
show decide ((Sum.inl q.1:Key)≠Sum.inl n)=decide (q.1≠n)
by_cases e:q.1=n<;>simp[e])
theorem qHG{W:List (Int×Int)}{n p:Int}:putK (dI W) (Sum.inl n:Key) (.int p)=dI (W1.putW W n p):=by(
unfold putK dI W1.putW
have e:((W.map λp=>((Sum.inl p.1:Key),V.int p.2)).any λkv=>decide (kv.1=Sum.inl n))=W.any λq=>decide (q.1=n):=by
 rw[List.any_map];congr 1;funext q;show decide ((Sum.inl q.1:Key)=Sum.inl n)=decide (q.1=n);by_cases e:q.1=n
 ·rw[e];simp
 rw[hU e,hU (λz=>e (pO z))]
rw[e]
by_cases h:(W.any λq=>decide (q.1=n))=true
·rw[kF h,kF h,pB,pB];apply dS;intro q _;show(if(Sum.inl q.1:Key)=Sum.inl n then((Sum.inl q.1:Key),V.int p)else((Sum.inl q.1:Key),V.int q.2))=_;by_cases e:q.1=n
 ·rw[kF (by rw[e])];show _=(λp:Int×Int=>((Sum.inl p.1:Key),V.int p.2)) (if q.1=n then(q.1,p)else q);rw[kF e]
 rw[hV (λz=>e (pO z))];show _=(λp:Int×Int=>((Sum.inl p.1:Key),V.int p.2)) (if q.1=n then(q.1,p)else q);rw[hV e]
rw[hV h,hV h,mR]
rfl)
theorem qDX{V:List (Int×Int)}{n p:Int}:W1.putW (W1.jM V n) n p=W1.jM V n++[(n,p)]:=by(
unfold W1.putW
rw[hV]
intro h
obtain⟨q,hq,e⟩:=rP.mp h
exact(W1.jO.mp hq).2 (mM e))
theorem setV{ns:List Int}{c:Nat}{x:Int}:(ns.map V.int).set c (.int x)=(ns.set c x).map V.int:=by rw[xG]
theorem atV{ns:List Int}{c:Nat}(h:c<ns.length):atI (ns.map V.int) (c:Int)=some (.int (ns.getD c 0)):=by refine yD ?_;rw[mC,kC h,kI,kC h];rfl
theorem qFQ:∀{A B:List (List Int)},A.Perm B→A.Pairwise (λa b=>lx b a=false)→B.Pairwise (λa b=>lx b a=false)→A=B
| [],B,p,_,_=>(pT.mp p).symm▸rfl
|a::A,[],p,_,_=>absurd p.length_eq (by simp)
|a::A,b::B,p,h1,h2=>by
 have e:a=b:=by
  by_cases e:a=b
  ·exact e
  have hb:b∈A:=(kJ.mp (p.mem_iff.mpr kQ)).resolve_left (λz=>e z.symm);have ha:a∈B:=(kJ.mp (p.mem_iff.mp kQ)).resolve_left e;exact q22 a b ((gS.mp h2).1 a ha) ((gS.mp h1).1 b hb)
 subst e;rw[qFQ ((aN a).mp p) (gS.mp h1).2 (gS.mp h2).2]
theorem qCZ:∀{A B:List Int},A.Perm B→A.Pairwise (·≤·)→B.Pairwise (·≤·)→A=B
| [],B,p,_,_=>(pT.mp p).symm▸rfl
|a::A,[],p,_,_=>absurd p.length_eq (by simp)
|a::A,b::B,p,h1,h2=>by
 have e:a=b:=by
  by_cases e:a=b
  ·exact e
  have hb:b∈A:=(kJ.mp (p.mem_iff.mpr kQ)).resolve_left (λz=>e z.symm);have ha:a∈B:=(kJ.mp (p.mem_iff.mp kQ)).resolve_left e;have:=(gS.mp h2).1 a ha;have:=(gS.mp h1).1 b hb;lia
 subst e;rw[qCZ ((aN a).mp p) (gS.mp h1).2 (gS.mp h2).2]
theorem qFR{a:Addr}{o:Obj}{kvs:List (Key×V)}{D:Addr}{H2:Hp}{g:TG}{tc:TT}{te:TE}{σ0:St}{R:Hp→Prop}(Pv:Nat→Hp→Prop)(h0:Pv 0 H2)(hl:∀i H,Pv i H→H a=some (.frz o (.dK kvs)))
 (hs:∀(i:Nat) kv H,kvs[i]?=some kv→Pv i H→g (kV kv.1) σ0 H λσ5 H5=>tc σ5 H5 λb H6=>if b=true then te σ5 H6 (λv H7=>∃vs,H7 D=some (.lst vs)∧vs.length<sizeLine∧Pv (i+1) (upd H7 D (.lst (vs++[v]))))else Pv (i+1) H6) (hd:∀H,Pv kvs.length H→R H):
 ∃W:Nat→Nat→Hp→Prop,(∃m,W 0 m H2)∧∀i m H3,W i m H3→((Itd a o kvs).stop i H3∧R H3)∨((Itd a o kvs).go i H3∧∃N:Hp→Prop,(∀H',N H'→∃m',m'<m∧W (i+1) m' H')∧∀x H4,(Itd a o kvs).yld i H3 x H4→g x σ0 H4 λσ5 H5=>tc σ5 H5 λb H6=>if b=true then te σ5 H6 (λv H7=>∃vs,H7 D=some (.lst vs)∧vs.length<sizeLine∧N (upd H7 D (.lst (vs++[v]))))else N H6):=qHA (Q:=λ_ H=>R H) Pv h0 hl hs hd
theorem qBY{ks:List (List Int)}{q:List Nat}{n:Nat}(hn:ks.length=n)(p:q.Perm (List.range n)):(q.map λi=>ks.getD i []).Perm ks:=by(
refine(p.map λi=>ks.getD i []).trans ?_
have e:(List.range n).map (λi=>ks.getD i [])=ks:=by
 apply rN
 ·rw[h9,mQ,hn]
 intro i h1 h2;rw[cL,wW,kI,kC h2];rfl
rw[e])
theorem qBZ{F:V→List Int→Prop}{us:List V}{ks:List (List Int)}{q:List Nat}(h:Paired F us ks)(hq:∀i∈q,i<us.length):Paired F (q.map λi=>us.getD i .non) (q.map λi=>ks.getD i []):=by(
refine q2Y (by rw[h9,h9]) λj x k hx hk=>?_
rw[mC]at hx hk
obtain⟨i,hi,rfl⟩:=m9.mp hx
rw[hi]at hk
obtain rfl:=kL hk
have hl:=hq i (gJ hi)
have e1:us[i]?=some (us.getD i .non):=by rw[kI,kC hl];rfl
obtain⟨k,hk1,z⟩:=Paired.at h e1
show F (us.getD i .non) (ks.getD i [])
rw[show ks.getD i []=k from by rw[kI,hk1];rfl]
exact z)
theorem uL{H H':Hp}{us:List V}{ks:List (List Int)}(h:Paired (TupD H) us ks)(s:Same H H'):Paired (TupD H') us ks:=Paired.mapP h λ_ _ z=>z.same s
theorem q9F{K:PySem.W.Frag}{H:Hp}{us:List V}{ks:List (List Int)}(h:Paired (TupD H) us ks):Paired (TupI K H) us ks:=Paired.mapP h λ_ _ z=>z.i
theorem q8L{lo:Int}{n:Nat}{D:Addr}{H2:Hp}{g:TG}{tc:TT}{te:TE}{σ0:St}{R:Hp→Prop}(Pv:Nat→Hp→Prop)(h0:Pv 0 H2)
 (hs:∀(i:Nat) H,i<n→Pv i H→g (.int (lo+i)) σ0 H λσ5 H5=>tc σ5 H5 λb H6=>if b=true then te σ5 H6 (λv H7=>∃vs,H7 D=some (.lst vs)∧vs.length<sizeLine∧Pv (i+1) (upd H7 D (.lst (vs++[v]))))else Pv (i+1) H6) (hd:∀H,Pv n H→R H):
 ∃W:Nat→Nat→Hp→Prop,(∃m,W 0 m H2)∧∀i m H3,W i m H3→((Itr lo n).stop i H3∧R H3)∨((Itr lo n).go i H3∧∃N:Hp→Prop,(∀H',N H'→∃m',m'<m∧W (i+1) m' H')∧∀x H4,(Itr lo n).yld i H3 x H4→g x σ0 H4 λσ5 H5=>tc σ5 H5 λb H6=>if b=true then te σ5 H6 (λv H7=>∃vs,H7 D=some (.lst vs)∧vs.length<sizeLine∧N (upd H7 D (.lst (vs++[v]))))else N H6):=qFB (Q:=λ_ H=>R H) Pv h0 hs hd
theorem qFS{H H3:Hp}{a:Addr}{u:HO}(ha:H a=some u)(k:∀b o,b≠a→H b=some o→H3 b=some o):Same H (upd H3 a u):=λb o e=>by(
by_cases z:b=a
·rw[z,qI,←ha,←z];exact e
rw[qC z]
exact k b o z e)
theorem vF{X:Cx}{K:PySem.W.Frag}{e:Expr}{ta:TE}{f:Str}{pos:Pos}(eK:X.K=K)(he:PE X e ta)(hb:attributeBase e f X.env (eval e X.env)=eval e X.env):PE X (.Attribute e f pos) (tFld K ta f):=by subst eK;exact qJ he hb
end L2
namespace L2
open PySem PySem.W PySem.Spec PyProof.Rows
noncomputable def BmIn(base:Heap)(mg:Str→Option Value):Prop:=∃bm o,mg "__builtins__"=some (.ref bm)∧bm≠builtinsNs∧base.get? bm=some o∧o.cls=.type "module"∧o.dict=some builtinsNs∧o.data=.plain
theorem qDY{P:Program}{w:World}{K:PySem.W.Frag}{mg mb:Str→Option Value}{CX:CXT}{k:Nat}{fa a:Addr}{fd:FuncData}{x:Str}{sp:Sp}{s₁:Shared}{vs:List Value}{ns:List Int}(ts:List Addr)
 (KX:K.In s₁.heap) (hts:∀T∈ts,s₁.heap.get? T=some (tabObj #[])∧K.lookup T=none∧∃c,codeHdIn K c T=true) (hns:s₁.heap.Ns mainGlobals mg) (hb:s₁.heap.Ns builtinsNs mb) (hbb:∀x:Str,x≠"__name__"→mb x=bootBuiltins x) (hlim:s₁.heap.NoLimit) (hbm:BmIn s₁.heap mg) (hg:s₁.gens=#[])
 (ha:s₁.heap.get? a=some { cls:=.type "list",data:=.seq vs.toArray }) (hi:IntsAre vs ns) (hl:ns.length≤sizeLine) (hr:Room k callerA)
 (F:∀base:Heap,K.In base→base.Ns mainGlobals mg→BmIn base mg→FnOk P w K mg base CX k fa fd [x] sp) (hbind:∀(s:Shared) (u:Value),BindsTo s fd ⟨[u],[]⟩ [(x,u)])
 (hsp:∀H:Hp,SqL K H a (ns.map V.int)→(∀T∈ts,H T=some (.tbl #[]))→sp [.ref a] H (λv _=>v=.bl true) λ_ _ _=>False)
 (hCX:∀H e s',CX [] H s₁ (λ_ _ _=>False) e s'→False):
 codeAny (model P w) callerA (.call (.ref fa) ⟨[.ref a],[]⟩) (λr s'=>r=.ok (.ret (.bool true))∧OldK s₁.heap s'.heap∧s'.os=s₁.os∧AllBare s'.gens) s₁:=by(
have rv:=q8I hi
have lenV:=hi.length
have nat:a∉ts:=λz=>by have e:=(hts a z).1;rw[ha]at e;cases e
have core:∀H:Hp,SqL K H a (ns.map V.int)→HOk P w H s₁.heap→(∀b,H b=none∨(b=a∧K.lookup a=none∧∃o xs,H b=some (.frz o (.lst xs)))∨(b∈ts∧H b=some (.tbl #[])))→(∀T∈ts,H T=some (.tbl #[]))→codeAny (model P w) callerA (.call (.ref fa) ⟨[.ref a],[]⟩) (λr s'=>r=.ok (.ret (.bool true))∧OldK s₁.heap s'.heap∧s'.os=s₁.os∧AllBare s'.gens) s₁:=by
 intro H hS hok hO hT;have base_of:∀{b:Addr} {o:Obj},s₁.heap.get? b=some o→H b=none→(hidT s₁.heap H).get? b=some o:=λe n=>q1U e n;have noA:∀{b:Addr} {o:Obj} {es:Array DictEntry} {ep:Nat},s₁.heap.get? b=some o→o.data=.dict es ep→H b=none:=fun {b o es ep} e d=>by
  rcases hO b with z|⟨rfl,_⟩|⟨z,_⟩
  ·exact z
  ·rw[ha]at e;cases e;cases d
  rw[(hts b z).1]at e;cases e;cases d
 have nsK:∀{b:Addr} {m:Str→Option Value},s₁.heap.Ns b m→(hidT s₁.heap H).Ns b m:=fun {b m} ⟨o,es,ep,e,d,r⟩=>⟨o,es,ep,base_of e (noA e d),d,r⟩
 have hKb:K.In (hidT s₁.heap H):=λb o e=>base_of (KX b o e) (by
  rcases hO b with z|⟨rfl,z,_⟩|⟨z,_⟩
  ·exact z
  ·rw[z]at e;cases e
  rw[(hts b z).2.1]at e;cases e)
 have hM:Mod K mg (hidT s₁.heap H):=⟨hKb,nsK hns,⟨mb,nsK hb,hbb⟩,let⟨mc,h1,h2⟩:=hlim;⟨mc,nsK h1,h2⟩⟩;have hB:BmIn (hidT s₁.heap H) mg:=by
  obtain⟨bm,o,b1,b2,b3,b4,b5,b6⟩:=hbm;refine⟨bm,o,b1,b2,base_of b3 ?_,b4,b5,b6⟩;rcases hO bm with z|⟨rfl,_⟩|⟨z,_⟩
  ·exact z
  ·rw[ha]at b3;cases b3;exact absurd (Value.type.inj b4) (by decide)
  rw[(hts bm z).1]at b3;cases b3;cases b4
 have e0:Env0 P w K mg (hidT s₁.heap H) callerA [] s₁ H:=⟨rfl,hM,λb o e=>q8X e,wI (q4N _ _),trivial,λb hb=>absurd (show b∈([]:List Addr)from hb) (by simp),hok,.of_eq hg⟩;refine wJ ((F _ hKb (nsK hns) hB).run callerA [] s₁ H ⟨[.ref a],[]⟩ [.ref a] [.ref a] _ _ hr e0 (hbind s₁ (.ref a)) (.cons rfl .nil) (hsp H hS hT)) λr s' h=>?_;cases r with
 |error e=>exact(hCX H e s' h).elim
 |ok fl=>
  cases fl with
  |next=>exact False.elim h
  |brk=>exact False.elim h
  |cont=>exact False.elim h
  |ret u=>
   obtain⟨v,H',os,bare,un,hok',r',q⟩:=h;have q':v=.bl true:=q;subst q';obtain rfl:u=Value.bool true:=r';have kept:∀b o,s₁.heap.get? b=some o→b∉ts→s'.heap.get? b=some o:=λb o e nb=>by
    rcases hO b with z|⟨rfl,_,ob,xs,z⟩|⟨z,_⟩
    ·exact un.keep b o e z (by intro z;exact absurd (show b∈([]:List Addr)from z) (by simp)) (by simp)
    ·have z2:=un.frzs _ ob _ z;obtain⟨e1,_⟩:=hok _ _ z;obtain⟨e2,_⟩:=hok' _ _ z2;rw[e]at e1;cases e1;exact e2
    exact absurd z nb
   refine⟨rfl,⟨λb o e=>?_,λb o e=>?_⟩,os,bare⟩
   ·by_cases nb:b∈ts
    ·obtain⟨g,_,c,hc⟩:=hts b nb;obtain⟨more,z2⟩:=un.tbls b _ (hT b nb);have g2:s'.heap.get? b=some { cls:=.none,data:=.fields (#[]++more) }:=hok' _ _ z2;rw[g]at e;cases e;exact .inr (.inl ⟨((xW KX hc).tab g).isCodeTable,rfl,#[],more,rfl,g2⟩)
    exact .inl (kept b o e nb)
   by_cases nb:b∈ts
   ·obtain⟨more,z2⟩:=un.tbls b _ (hT b nb);exact⟨_,hok' _ _ z2⟩
   exact⟨o,kept b o e nb⟩
have tb:∀T∈ts,∀H:Hp,H T=some (.tbl #[])→∀u,H T=some u→jK P w H s₁.heap T u:=λT hT H e u e'=>by rw[e]at e';cases e';exact(hts T hT).1
cases hk:K.lookup a with
|some o=>
 have e:=KX a o hk;rw[ha]at e;cases e;refine core (λb=>if b∈ts then some (.tbl #[])else none) (.inr ⟨_,vs.toArray,_,hk,rfl,rfl,rfl,by rw[kW,lenV];exact hl,by simpa using rv⟩) (λb u z=>?_) (λb=>?_) λT hT=>kF hT
 ·by_cases hb':b∈ts
  ·exact tb b hb' _ (kF hb') u z
  have z':=(hV hb').symm.trans z;cases z'
 by_cases hb':b∈ts
 ·exact .inr (.inr ⟨hb',kF hb'⟩)
 exact .inl (hV hb')
|none=>
 refine core (λb=>if b=a then some (.frz { cls:=.type "list",data:=.seq vs.toArray } (.lst (ns.map V.int)))else if b∈ts then some (.tbl #[])else none) (.inl (.inr ⟨{ cls:=.type "list",data:=.seq vs.toArray },kF rfl⟩)) (λb u z=>?_) (λb=>?_) λT hT=>?_
 ·by_cases hb':b=a
  ·have z':=(kF hb').symm.trans z;cases z';subst hb';exact⟨ha,by rw[h9];exact hl,vs,_,rv,ha⟩
  by_cases hb2:b∈ts
  ·exact tb b hb2 _ ((hV hb').trans (kF hb2)) u z
  have z':=((hV hb').trans (hV hb2)).symm.trans z;cases z'
 ·by_cases hb':b=a
  ·exact .inr (.inl ⟨hb',hk,_,_,kF hb'⟩)
  by_cases hb2:b∈ts
  ·exact .inr (.inr ⟨hb2,(hV hb').trans (kF hb2)⟩)
  exact .inl ((hV hb').trans (hV hb2))
 have:T≠a:=λz=>nat (z▸hT);exact(hV this).trans (kF hT))
theorem qFT{l:PySem.W.OpenLaw}{n k:Nat}{q:Program}{loose:List Str}{XP:(Str→Option Value)→Heap→Prop}{YP:World→Heap→Prop}{d:DefRec}{K:Params→PySem.W.Frag}{CX:World→CXT}{sp:World→Sp}{x:Str}(ts:List Addr)
 (hn:l.most=some n) (hn2:n≤sizeLine) (hdf:d.params.defaults=[]) (hr:Room k callerA)
 (hY:∀(w:World) (h:Heap),YP w h→(K w.params).In h∧∀T∈ts,h.get? T=some (tabObj #[])) (hT:∀w:World,∀T∈ts,(K w.params).lookup T=none∧∃c,codeHdIn (K w.params) c T=true)
 (F:∀(w:World) (mg:Str→Option Value) (fa:Addr) (h:Heap),(K w.params).In h→h.Ns mainGlobals mg→mg d.name=some (.ref fa)→∃fd:FuncData,(∀(s:Shared) (u:Value),BindsTo s fd ⟨[u],[]⟩ [(x,u)])∧∀base:Heap,(K w.params).In base→base.Ns mainGlobals mg→BmIn base mg→FnOk l.prog w (K w.params) mg base (CX w) k fa fd [x] (sp w))
 (hsp:∀(w:World) (H:Hp) (a:Addr) (ns:List Int),ns.length≤n→SqL (K w.params) H a (ns.map V.int)→(∀T∈ts,H T=some (.tbl #[]))→sp w [.ref a] H (λv _=>v=.bl true) λ_ _ _=>False)
 (hCX:∀(w:World) (H:Hp) (s:Shared) (e:Value) (s':Shared),CX w [] H s (λ_ _ _=>False) e s'→False):
 PySem.W.WalkO q loose XP YP l.row.toRowW d [] (λf vs=>PySem.call f vs):=by(
refine Att.attach_call hn hdf λw s₀ s₁ mg mb fa o pm cd doc a vs ns G Y ho hd hcd hmg hobj hints hlen hg=>?_
obtain⟨KX,KT⟩:=hY w _ Y
obtain⟨fd,hb,hF⟩:=F w mg fa _ KX G.T.g hmg
exact qDY ts KX (λT h=>⟨KT T h,hT w T h⟩) G.T.g G.T.b G.T.builtins G.T.nolimit (let⟨bm,ob,b1,b2,b3,b4,b5,b6⟩:=G.T.bmain;⟨bm,ob,b1,b2,b3,b4,b5,b6⟩) hg hobj hints (k8 hlen hn2) hr hF hb (λH hS hH=>hsp w H a ns hlen hS hH) λH e s'=>hCX w H s₁ e s')
structure FunT(K:PySem.W.Frag)(x qual:Str)(st:Stmt)(c f:Addr)(fd:FuncData):Prop where
ex:∃(oc:Value) (od:Option Addr) (kV doc pm:Value) (an:Option Addr) (ct:Value) (osl:Array (Option Value)),fd=PySem.W.fnOf x qual (yE st) (jS st) (qF st) .none kV doc pm an (.ref c) ct∧K.lookup f=some ⟨oc,od,.func fd,osl⟩∧PySem.W.codeIn K (.ref c) qual=true
section
variable{P:Program}{w:World}{K:PySem.W.Frag}{mg:Str→Option Value}{base:Heap}
theorem FunT.mk'{x qual:Str}{st:Stmt}{c f:Addr}{oc:Value}{od an:Option Addr}{osl:Array (Option Value)}{kV doc pm ct:Value}(l:K.lookup f=some ⟨oc,od,.func (PySem.W.fnOf x qual (yE st) (jS st) (qF st) .none kV doc pm an (.ref c) ct),osl⟩)
 (h:PySem.W.codeIn K (.ref c) qual=true):FunT K x qual st c f (PySem.W.fnOf x qual (yE st) (jS st) (qF st) .none kV doc pm an (.ref c) ct):=⟨⟨oc,od,kV,doc,pm,an,ct,osl,rfl,l,h⟩⟩
theorem FunT.ok0{x qual:Str}{st:Stmt}{c f:Addr}{fd:FuncData}{N ps:List Str}{k:Nat}{sp:Sp}(F:FunT K x qual st c f fd)(S:FnScope N ps (qF st))
 (hbody:∀(A:Around) (outer:List Env) (s:Shared) (H:Hp) (vs:List V) (Q:VK) (E:XK),Room k (A.deeper (envOfC qual (qF st) s.heap.objs.size f (.ref c)))→sp vs H Q E→∃t,PSs (cxOf CX0 P w K mg base N qual (qF st) f (.ref c) A outer s H E).nox (jS st) t∧t { nx:=λ_ H'=>Q .non H',rt:=Q } (zA N vs) H)(len:∀vs H Q E,sp vs H Q E→vs.length=ps.length:=by intro _ _ _ _ h;first|(cases h;subst_vars;rfl)|((repeat obtain⟨_,h⟩:=h);all_goals subst_vars;rfl)):FnOk P w K mg base CX0 (k+1) f fd ps sp:=by(
obtain⟨oc,od,kV,doc,pm,an,ct,osl,rfl,lk,hcd⟩:=F.ex
refine qEL lk hcd S len λA outer s H vs Q E hr hsp=>?_
obtain⟨t,h,q⟩:=hbody A outer s H vs Q E hr hsp
exact⟨t,h.nox,q⟩)
noncomputable def q4Y(K:PySem.W.Frag)(ts:List Addr):Sp:=λvs H Q _=>∃(a:Addr) (ns:List Int),vs=[.ref a]∧SqL K H a (ns.map V.int)∧ns.length≤63∧(∀T∈ts,H T=some (.tbl #[]))∧∀H',Q (.bl true) H'
end
noncomputable def fnOb(fd:FuncData):Obj:={ cls:=.type "function",data:=.func fd }
noncomputable def fnO(f:Addr)(fd:FuncData):HO:=.ext λh=>h.get? f=some (fnOb fd)
noncomputable def cdO(c:Addr)(q:Str):HO:=.ext λh=>∃o vs t,h.get? c=some o∧o.data=.fields vs∧vs[1]?=some (.str q t)
theorem qFU{P:Program}{w:World}{H:Hp}{h:Heap}{f:Addr}{fd:FuncData}(e:h.get? f=some (fnOb fd)):jK P w H h f (fnO f fd):=⟨e,⟨_,e⟩,λ_ _ a b=>b _ a⟩
theorem qKA{P:Program}{w:World}{H:Hp}{h:Heap}{c:Addr}{q:Str}(e:h.CodeRec (.ref c) q):jK P w H h c (cdO c q):=by obtain⟨c',o,vs,t,e0,e1,e2,e3⟩:=e;cases e0;exact⟨⟨o,vs,t,e1,e2,e3⟩,⟨_,e1⟩,λ_ _ ⟨o,vs,t,a,b⟩ k=>⟨o,vs,t,k _ a,b⟩⟩
theorem qFV{P:Program}{w:World}{H:Hp}{h:Heap}{f:Addr}{fd:FuncData}(ok:HOk P w H h)(e:H f=some (fnO f fd)):h.get? f=some (fnOb fd):=(ok f _ e).1
theorem qKB{P:Program}{w:World}{H:Hp}{h:Heap}{c:Addr}{q:Str}(ok:HOk P w H h)(e:H c=some (cdO c q)):h.CodeRec (.ref c) q:=let⟨o,vs,t,a,b⟩:=(ok c _ e).1
 ⟨c,o,vs,t,rfl,a,b⟩
noncomputable def yF(base:Heap)(cs:List Addr):Hp:=λb=>if(base.get? b).isSome=true∨b∈cs then none else some (.lst [])
theorem zL{h base base':Heap}:∀{l:List Env},h.FunFrames base l→(∀L∈frs l,base.get? L=none→base'.get? L=none)→h.FunFrames base' l
| [],_,_=>trivial
|env::r,⟨hk,⟨L,o,hf,hn,ho,hd⟩,hr⟩,k=>by
 have hL:L∈frs (env::r):=by unfold frs;rw[rH,hf];exact kQ
 exact⟨hk,⟨L,o,hf,k L hL hn,ho,hd⟩,zL hr λb hb=>k b (by unfold frs;rw[rH,hf];exact kB _ hb)⟩
theorem Inv.env0C{X:Cx}{pins:List (Addr×Obj)}{σ:St}{H:Hp}{s:Shared}(I:Inv X pins σ H s)(cs:List Addr)(hcs:∀c∈cs,∃x,X.fn x=true∧X.env.cells.lookup x=some c):
 Env0 X.prog X.w X.K X.mg (hidT s.heap (yF X.base cs)) X.A X.stack s H∧(∀b o,X.base.get? b=some o→(hidT s.heap (yF X.base cs)).get? b=some o)∧∀c∈cs,∀o,s.heap.get? c=some o→(hidT s.heap (yF X.base cs)).get? c=some o:=by(
have up:∀b o,X.base.get? b=some o→(hidT s.heap (yF X.base cs)).get? b=some o:=λb o e=>q1U (I.bk b o e) (kF (.inl (by rw[e];rfl)))
have inv:∀{b:Addr} {o:Obj},(hidT s.heap (yF X.base cs)).get? b=some o→s.heap.get? b=some o∧((∃o',X.base.get? b=some o')∨b∈cs):=fun {b o} e=>by
 obtain⟨e1,n⟩:=q8X e;refine⟨e1,?_⟩;by_cases z:(X.base.get? b).isSome=true∨b∈cs
 ·rcases z with z|z
  ·exact .inl (rG.mp z)
  exact .inr z
 rw[show yF X.base cs b=some (.lst [])from hV z]at n;cases n
obtain⟨mb,hb1,hb2⟩:=I.ok.mod.blt
refine⟨⟨I.ok.frames,⟨I.ok.mod.kin.keeps up,I.ok.mod.glob.keeps up,⟨mb,hb1.keeps up,hb2⟩,I.ok.mod.nolimit.keeps up⟩,λb o e=>?_,by rw[q4N];exact kN _,zL I.stack λL hL n=>?_,I.stkFree,I.hok,I.bare⟩,up,λc hc o e=>q1U e (kF (.inr hc))⟩
·obtain⟨e1,z⟩:=inv e;rcases z with⟨o',z⟩|z
 ·exact⟨e1,(I.bs b o' z).2⟩
 obtain⟨x,_,hx⟩:=hcs b z;exact⟨e1,I.freeC x b hx⟩
cases e:(hidT s.heap (yF X.base cs)).get? L with
|none=>rfl
|some o=>
 obtain⟨e1,z⟩:=inv e;rcases z with⟨o',z⟩|z
 ·rw[n]at z;cases z
 obtain⟨x,hf,hx⟩:=hcs L z;rcases kJ.mp (I.stkSub L hL)with y|y
 ·exact absurd y (I.cne x L hx)
 obtain⟨_,o2,ho,_⟩:=I.ok.funs.mem y;exact absurd (kU ho) (sN.mpr (I.ok.cab x L hf hx)))
noncomputable def q6T(cells:List (Str×Addr))(σ:St)(base':Heap)(ix:List (Nat×Str)):Prop:=∀p∈ix,∀v,σ[p.1]?=some (some v)→∃c u,cells.lookup p.2=some c∧RelV v u∧base'.IsCell c (some u)
noncomputable def qLM(T:Addr)(pos:Pos)(qual:Str)(params:Arguments)(body:Expr)(scope:Scope)(clos:List (Str×Addr))(pm:Value):TE:=λσ H Q=>∃ps,H T=some (.tbl ps)∧TriplesOk ps.toList∧codeAmong pos ps.toList=none∧∀(f c':Addr) (ctv:Value),H f=none→H c'=none→f≠c'→Q (.ref f) (upd (upd (upd H T (.tbl (ps++#[rawInt pos.line,rawInt pos.col,.ref c']))) c' (cdO c' qual)) f (fnO f (kla_fn "<lambda>" qual params body scope clos pm (.ref c') ctv)))
theorem qD0{X:Cx}{c T:Addr}{params:Arguments}{body:Expr}{scope:Scope}{pos:Pos}{clos:List (Str×Addr)}(hcode:X.env.code=.ref c)(hcd:codeHdIn X.K c T=true)(B:BmIn X.base X.mg)(hcl:closureFor scope X.env=pure clos)(hdef:defaultsOf params X.env=([],[])):
 PE X (.Lambda params body scope pos) (qLM T pos (X.env.qual++"<lambda>") params body scope clos ((X.mg "__name__").getD .none)):=by(
intro pins s σ H Q I hZ
obtain⟨ps,hT,ht,hnf,q⟩:=hZ
have hP:s.heap.get? T=some (tabObj ps):=I.hok T _ hT
have hgs:s.heap.Ns mainGlobals X.mg:=I.ok.mod.glob.keeps I.bk
obtain⟨bm,ob,b1,b2,b3,b4,b5,b6⟩:=B
have b3':=I.bk _ _ b3
have hgP:mainGlobals≠T:=λz=>by obtain⟨o,es,ep,e,hd,_⟩:=hgs;rw[z,hP]at e;cases e;cases hd
have hbP:bm≠T:=λz=>by rw[z,hP]at b3';cases b3';cases b4
have hbG:bm≠mainGlobals:=λz=>by obtain⟨o,es,ep,e,hd,_⟩:=hgs;rw[z,e]at b3';cases b3';rw[hd]at b6;cases b6
refine kla_eval hdef (kla_makeFunction (clos:=clos) hcl I.ok.glob hgs hcode (xW I.kIn hcd) hP ht hnf hgP ⟨bm,ob,b1,b2,hbG,hbP,b3',b4,b5,b6⟩ λc' ctv h' tk hx hge hlt hrec htb=>?_)
have trk:∀b u,s.heap.get? b=some u→b≠T→∀o,(h'.push o).get? b=some u:=λb u e n o=>kE _ (hx b u n e)
have sz:s.heap.objs.size≤h'.objs.size:=k8 hge (c7 hlt)
have nF:H h'.objs.size=none:=I.hok.fresh sz
have nC:H c'=none:=I.hok.fresh hge
have fc:h'.objs.size≠c':=dN hlt
have other:∀{b:Addr},b≠T→b≠c'→b≠h'.objs.size→∀u:HO,(upd (upd (upd H T (.tbl (ps++#[rawInt pos.line,rawInt pos.col,.ref c']))) c' (cdO c' (X.env.qual++"<lambda>"))) h'.objs.size (fnO h'.objs.size (kla_fn "<lambda>" (X.env.qual++"<lambda>") params body scope clos ((X.mg "__name__").getD .none) (.ref c') ctv))) b=H b:=fun {b} z1 z2 z3 _=>by rw[qC z3,qC z2,qC z1]
refine⟨.ref h'.objs.size,_,?_,rfl,q _ c' ctv nF nC fc⟩
refine I.un (t':=tk) ⟨λb o e n _ _=>trk b o e (qH hT n).symm _,λb o e n _ _=>⟨o.slots,trk b o e (qH hT n).symm _⟩,λb o e n _=>?_,λb o e _=>?_,λb xs e=>?_,λb o u e=>?_,λb qs e=>?_⟩ λb u e=>?_
·have hb:b<s.heap.objs.size:=kU e;rw[other (qH hT n).symm (mP (mG hb hge)) (mP (mG hb sz)) (.lst [])];exact n
·by_cases z:b=T
 ·subst z;exact⟨_,kE _ htb⟩
 exact⟨o,trk b o e z _⟩
·rw[other (λz=>by rw[z,hT]at e;cases e) (qH e nC) (qH e nF) (.lst [])];exact e
·rw[other (λz=>by rw[z,hT]at e;cases e) (qH e nC) (qH e nF) (.lst [])];exact e
·by_cases z:b=T
 ·subst z;rw[hT]at e;cases e;refine⟨#[rawInt pos.line,rawInt pos.col,.ref c'],?_⟩;rw[qC (qH hT nF),qC (qH hT nC)];exact qI
 exact⟨#[],by rw[other z (qH e nC) (qH e nF) (.lst []),e];simp⟩
by_cases z3:b=h'.objs.size
·subst z3;rw[qI]at e;cases e;exact qFU (mF _ rfl)
by_cases z2:b=c'
·subst z2;rw[qC z3,qI]at e;cases e;exact qKA (hrec.push _)
by_cases z:b=T
·subst z;rw[qC z3,qC z2,qI]at e;cases e;exact kE _ htb
rw[other z z2 z3 (.lst [])]at e
refine(I.hok b u e).stay (λd v hd r=>trk d v r (λy=>?_) _) (λd r=>?_) λd xs r=>?_
·rcases hd with hd|hd
 ·exact z (hd▸y)
 rw[y,hT]at hd;cases hd
·rw[other (λy=>by rw[y,hT]at r;cases r) (qH r nC) (qH r nF) (.lst [])];exact r
rw[other (λy=>by rw[y,hT]at r;cases r) (qH r nC) (qH r nF) (.lst [])];exact r)
noncomputable abbrev envL(qual:Str)(scope:Scope)(clos:List (Str×Addr))(L f:Addr)(cd:Value):Env:=newEnv scope L mainGlobals clos (qual++".<locals>.") (some f) cd none builtinsNs
noncomputable def qFW(CX:CXT)(P:Program)(w:World)(K:PySem.W.Frag)(mg:Str→Option Value)(base:Heap)(N:List Str)(qual:Str)(scope:Scope)(clos:List (Str×Addr))(f:Addr)(cd:Value)(A:Around)(outer:List Env)(s:Shared)(H:Hp)(E:XK):Cx where
prog:=P
w:=w
K:=K
mg:=mg
base:=base
A:=A.deeper (envL qual scope clos s.heap.objs.size f cd)
N:=N
s₀:=s
H₀:=H
env:=envL qual scope clos s.heap.objs.size f cd
outer:=outer
stack:=envL qual scope clos s.heap.objs.size f cd::outer
ex:=[]
calm:=true
fn:=λ_=>false
pn:=[]
xe:=λe s'=>wpAny (model P w) (A.deeper (envL qual scope clos s.heap.objs.size f cd)) (leaving (envL qual scope clos s.heap.objs.size f cd) e) (λ_ s''=>CX outer H s E e s'') (λe' s''=>CX outer H s E e' s'') s'
structure LamSc(scope:Scope)(x0:Str)(clos:List (Str×Addr))(fvs:List V)(base:Heap):Prop where
kind:scope.kind=.function
co:scope.isCoroutine=false
gen:scope.isGenerator=false
par:scope.names.lookup x0=some .local
nocell:∀y∈scope.names,y.2≠ .cell
free:∀y,scope.names.lookup y=some .free→∃c,clos.lookup y=some c
inj:∀x y c,clos.lookup x=some c→clos.lookup y=some c→x=y
at':∀(j:Nat) (x:Str) (c:Addr),clos[j]?=some (x,c)→scope.names.lookup x=some .free∧clos.lookup x=some c∧∃v u,fvs[j]?=some v∧RelV v u∧base.IsCell c (some u)
len:fvs.length=clos.length
theorem qD1{CX:CXT}{P:Program}{w:World}{K:PySem.W.Frag}{mg:Str→Option Value}{base:Heap}{k:Nat}{f c:Addr}{name qual:Str}{params:Arguments}{body:Expr}{scope:Scope}{pm ct:Value}{x0:Str}{clos:List (Str×Addr)}{fvs:List V}{sp:Sp}(S:LamSc scope x0 clos fvs base)
 (len:∀vs H Q E,sp vs H Q E→vs.length=1) (hf:∀vs H Q E,sp vs H Q E→H f=some (fnO f (kla_fn name qual params body scope clos pm (.ref c) ct))∧H c=some (cdO c qual))
 (hbody:∀(A:Around) (outer:List Env) (s:Shared) (H:Hp) (v0:V) (Q:VK) (E:XK),Room k (A.deeper (envL qual scope clos s.heap.objs.size f (.ref c)))→sp [v0] H Q E→∃t,PE (qFW CX P w K mg base (x0::clos.map (·.1)) qual scope clos f (.ref c) A outer s H E) body t∧t (some v0::fvs.map some) H Q):
 FnOk P w K mg base CX (k+1) f (kla_fn name qual params body scope clos pm (.ref c) ct) [x0] sp:=by(
refine⟨len,λA outer s H args us vs Q E hr e0 hb r hsp=>?_⟩
have hl:=len _ _ _ _ hsp
obtain⟨v0,rfl⟩:∃v0,vs=[v0]:=match vs,hl with| [v],_=>⟨v,rfl⟩
obtain⟨u0,rfl,r0⟩:=q1Y r
have lim:s.heap.NoLimit:=e0.mod.nolimit.keeps λb o e=>(e0.bs b o e).1
obtain⟨hf1,hc1⟩:=hf _ _ _ _ hsp
refine kla_callFunE hr.depth (qFV e0.hok hf1) rfl S.co S.gen rfl (qKB e0.hok hc1) (hb _ _ _ _ ?_)
refine nL S.nocell (λy hy=>?_) (λh' hn hs=>?_) S.kind
·obtain rfl:y=(x0,u0):=by simpa using hy
 exact S.par
have hk:∀b o,s.heap.get? b=some o→h'.get? b=some o:=λb o e=>by have:=hs.2 b (mP (kU e));rw[this];exact kE _ e
refine⟨lim.keeps hk,kla_codeExpr ?_⟩
obtain⟨t,ht,hq⟩:=hbody A outer s H v0 Q E (hr.deeper _) hsp
have noA:∀b:Addr,b∉(qFW CX P w K mg base (x0::clos.map (·.1)) qual scope clos f (.ref c) A outer s H E).ex:=λb z=>absurd (show b∈([]:List Addr)from z) (by simp)
have cat:∀y d,clos.lookup y=some d→∃u,base.IsCell d (some u):=λy d e=>by obtain⟨j,hj,ej⟩:=gX (gP e);obtain⟨_,_,v,u,_,_,hu⟩:=S.at' j y d (kD.mpr ⟨hj,ej⟩);exact⟨u,hu⟩
have I:Inv (qFW CX P w K mg base (x0::clos.map (·.1)) qual scope clos f (.ref c) A outer s H E) [] (some v0::fvs.map some) H { s with heap:=h',toks:=s.toks + [(x0,u0)].length }:=by
 refine⟨⟨e0.mod,S.kind,rfl,rfl,kN _,S.inj,λy hy=>?_,λy c z _=>absurd (show false=true from z) (by decide),λ_=>hr.hd,nH e0.frames,.inr ⟨rfl,rfl⟩,λb z=>absurd z (noA b),e0.bs,e0.bsz,λb _ _=>noA b,λb z=>absurd z (noA b),e0.funs,e0.frf⟩,rfl,e0.bare,Un.kept hk,⟨_,hn,λi y v h1 h2 h3=>?_⟩,λy d e=>?_,e0.hok.fresh (kN _),λy d e=>?_,λp hp=>absurd (show p∈([]:List (Addr×Obj))from hp) (by simp),e0.hok.kept hk,?_⟩
 ·have hy:scope.names.lookup y=some .cell∨scope.names.lookup y=some .free:=hy;rcases hy with hy|hy
  ·exact absurd rfl (S.nocell _ (gP hy))
  exact S.free y hy
 ·cases i with
  |zero=>obtain rfl:=kL h1;obtain rfl:=kL (kL h2);refine⟨u0,r0,.inl ⟨S.par,?_⟩⟩;show([(x0,u0)]:List (Str×Value)).reverse.lookup x0=some u0;simp
  |succ j=>have h1:(clos.map (·.1))[j]?=some y:=h1;have h2:(fvs.map some)[j]?=some (some v):=h2;rw[mC]at h1 h2;obtain⟨⟨y',d⟩,hd,rfl⟩:=m9.mp h1;obtain⟨v',hv,ev⟩:=m9.mp h2;obtain rfl:=kL ev;obtain⟨a1,a2,v2,u,a3,a4,a5⟩:=S.at' j _ d hd;rw[hv]at a3;obtain rfl:=kL a3;exact⟨u,a4,.inr ⟨.inr a1,d,a2,a5.keeps λb o e=>hk b o (e0.bs b o e).1⟩⟩
 ·obtain⟨u,hu⟩:=cat y d e;exact⟨_,hu.keeps λb o e=>hk b o (e0.bs b o e).1⟩
 ·obtain⟨u,o,ho,_⟩:=cat y d e;exact(e0.bs _ _ ho).2
 show(some v0::fvs.map some).length=(x0::clos.map (·.1)).length;rw[mB,mB,h9,h9,S.len]
exact gR (ht [] _ _ H _ I hq) (λu s' ⟨v,H',J,rv,q⟩=>⟨v,H',J.os,J.bare,J.base,J.hok,rv,q⟩) λe s' hs=>hs)
theorem qD2{scope:Scope}{env:Env}(h:(scope.names.all λy=>decide (y.2≠ .free)||(env.cells.lookup y.1).isSome)=true):closureFor scope env=pure (clOf env scope.names []):=q6J λy hy hf=>by(
 have q:=gW.mp h y hy;rw[rW,kP]at q;rcases q with q|q
 ·exact absurd hf q
 exact rG.mp q)
theorem q8M{scope:Scope}{x0 y:Str}{ca:Addr}{v:V}{u:Value}{base:Heap}(hk:scope.kind=.function)(hco:scope.isCoroutine=false)(hg:scope.isGenerator=false)(hp:scope.names.lookup x0=some .local)
 (hn:(scope.names.all λz=>decide (z.2≠ .cell)&&(decide (z.2≠ .free)||decide (z.1=y)))=true) (hf:scope.names.lookup y=some .free) (r:RelV v u) (hc:base.IsCell ca (some u)):LamSc scope x0 [(y,ca)] [v] base:=by(
have at1:∀z∈scope.names,z.2≠ .cell∧(z.2≠ .free∨z.1=y):=λz hz=>by have q:=gW.mp hn z hz;rw[mI,rW,kP,kP,kP]at q;exact q
have lk:([(y,ca)]:List (Str×Addr)).lookup y=some ca:=by simp
have one:∀x c,([(y,ca)]:List (Str×Addr)).lookup x=some c→x=y∧c=ca:=λx c e=>by have m:=gP e;simpa using m
refine⟨hk,hco,hg,hp,λz hz=>(at1 z hz).1,λz hz=>?_,λa b c h1 h2=>?_,λj x c h=>?_,rfl⟩
·have m:=(at1 _ (gP hz)).2;rcases m with m|m
 ·exact absurd rfl m
 exact⟨ca,by rw[show z=y from m];exact lk⟩
·rw[(one _ _ h1).1,(one _ _ h2).1]
match j,h with
|0,h=>
 obtain⟨rfl,rfl⟩:y=x∧ca=c:=by simpa using h
 exact⟨hf,lk,v,u,rfl,r,hc⟩
|j+1,h=>exact absurd h (by simp))
theorem q6U{env:Env}{names:List (Str×NameKind)}{y:Str}{ca:Addr}(e:env.cells.lookup y=some ca)(h:clOf env names []=match env.cells.lookup y with|some a=>[(y,a)] |none=>[]):clOf env names []=[(y,ca)]:=by rw[h,e]
noncomputable def qKC(T:Addr)(pos:Pos)(qual:Str)(params:Arguments)(body:Expr)(scope:Scope)(clos:List (Str×Addr))(pm:Value):TE:=λσ H Q=>∃ps c',H T=some (.tbl ps)∧TriplesOk ps.toList∧codeAmong pos ps.toList=some (.ref c')∧∀(f:Addr) (ctv:Value),H f=none→Q (.ref f) (upd H f (fnO f (kla_fn "<lambda>" qual params body scope clos pm (.ref c') ctv)))
theorem qAY{X:Cx}{c T:Addr}{params:Arguments}{body:Expr}{scope:Scope}{pos:Pos}{clos:List (Str×Addr)}(hcode:X.env.code=.ref c)(hcd:codeHdIn X.K c T=true)(B:BmIn X.base X.mg)(hcl:closureFor scope X.env=pure clos)(hdef:defaultsOf params X.env=([],[])):
 PE X (.Lambda params body scope pos) (qKC T pos (X.env.qual++"<lambda>") params body scope clos ((X.mg "__name__").getD .none)):=by(
intro pins s σ H Q I hZ
obtain⟨ps,c',hT,ht,hnf,q⟩:=hZ
have hP:s.heap.get? T=some (tabObj ps):=I.hok T _ hT
have hgs:s.heap.Ns mainGlobals X.mg:=I.ok.mod.glob.keeps I.bk
obtain⟨bm,ob,b1,b2,b3,b4,b5,b6⟩:=B
have b3':=I.bk _ _ b3
have hbP:bm≠T:=λz=>by rw[z,hP]at b3';cases b3';cases b4
have hbG:bm≠mainGlobals:=λz=>by obtain⟨o,es,ep,e,hd,_⟩:=hgs;rw[z,e]at b3';cases b3';rw[hd]at b6;cases b6
refine kla_eval hdef (kla_makeFunctionHit (clos:=clos) hcl I.ok.glob hgs hcode (xW I.kIn hcd) hP ht hnf ⟨bm,ob,b1,b2,hbG,hbP,b3',b4,b5,b6⟩ λctv h' tk hx sz=>?_)
have trk:∀b u,s.heap.get? b=some u→∀o,(h'.push o).get? b=some u:=λb u e o=>kE _ (hx b u e)
have nF:H h'.objs.size=none:=I.hok.fresh sz
refine⟨.ref h'.objs.size,_,?_,rfl,q _ ctv nF⟩
refine I.un (t':=tk) ⟨λb o e n _ _=>trk b o e _,λb o e n _ _=>⟨o.slots,trk b o e _⟩,λb o e n _=>?_,λb o e _=>⟨o,trk b o e _⟩,λb xs e=>?_,λb o u e=>?_,λb qs e=>?_⟩ λb u e=>?_
·rw[qC (mP (mG (kU e) sz))];exact n
·rw[qC (qH e nF)];exact e
·rw[qC (qH e nF)];exact e
·exact⟨#[],by rw[qC (qH e nF),e];simp⟩
by_cases z3:b=h'.objs.size
·subst z3;rw[qI]at e;cases e;exact qFU (mF _ rfl)
rw[qC z3]at e
refine(I.hok b u e).stay (λd v hd r=>trk d v r _) (λd r=>?_) λd xs r=>?_
·rw[qC (qH r nF)];exact r
rw[qC (qH r nF)];exact r)
noncomputable def qLN(T:Addr)(pos:Pos)(qual:Str)(params:Arguments)(body:Expr)(scope:Scope)(clos:List (Str×Addr))(pm:Value):TE:=λσ H Q=>∃ps,H T=some (.tbl ps)∧TriplesOk ps.toList∧((codeAmong pos ps.toList=none∧∀(f c':Addr) (ctv:Value) (H':Hp),H f=none→H' f=some (fnO f (kla_fn "<lambda>" qual params body scope clos pm (.ref c') ctv))→H' c'=some (cdO c' qual)→H' T=some (.tbl (ps++#[rawInt pos.line,rawInt pos.col,.ref c']))→(∀b o,b≠T→H b=some o→H' b=some o)→Q (.ref f) H')∨∃c',codeAmong pos ps.toList=some (.ref c')∧∀(f:Addr) (ctv:Value) (H':Hp),H f=none→H' f=some (fnO f (kla_fn "<lambda>" qual params body scope clos pm (.ref c') ctv))→Same H H'→Q (.ref f) H')
theorem qHH{X:Cx}{c T:Addr}{params:Arguments}{body:Expr}{scope:Scope}{pos:Pos}{clos:List (Str×Addr)}(hcode:X.env.code=.ref c)(hcd:codeHdIn X.K c T=true)(B:BmIn X.base X.mg)(hcl:closureFor scope X.env=pure clos)(hdef:defaultsOf params X.env=([],[])):
 PE X (.Lambda params body scope pos) (qLN T pos (X.env.qual++"<lambda>") params body scope clos ((X.mg "__name__").getD .none)):=λpins s σ H Q I ⟨ps,hT,ht,h⟩=>by(
rcases h with⟨hn,q⟩|⟨c',hn,q⟩
·exact qD0 hcode hcd B hcl hdef pins s σ H Q I ⟨ps,hT,ht,hn,λf c' ctv nf nc fc=>q f c' ctv _ nf qI (by rw[qC fc.symm];exact qI) (by rw[qC (qH hT nf),qC (qH hT nc)];exact qI) λb o nb e=>by rw[qC (qH e nf),qC (qH e nc),qC nb];exact e⟩
exact qAY hcode hcd B hcl hdef pins s σ H Q I ⟨ps,c',hT,ht,hn,λf ctv nf=>q f ctv _ nf qI (Same.upd nf)⟩)
theorem qHI{X:Cx}{CX:CXT}{k:Nat}{f:Addr}{fd:FuncData}{ps:List Str}{sp:Heap→Sp}{dvs:List V}{ds:List Value}{E:XK}{pins:List (Addr×Obj)}{σ:St}{H:Hp}{s:Shared}{Q:VK}{us:List Value}{vs:List V}(ix:List (Nat×Str))
 (hix:∀p∈ix,X.N[p.1]?=some p.2∧X.env.scope.names.lookup p.2=some .cell∧X.fn p.2=true)
 (F:∀base',(∀b o,X.base.get? b=some o→base'.get? b=some o)→q6T X.env.cells σ base' ix→FnOk X.prog X.w X.K X.mg base' CX k f fd ps (sp base')) (hr:Room k X.A) (hb:jQ X.K fd ps ds) (hd:Vals dvs ds) (hx:q0X CX X E)
 (I:Inv X pins σ H s) (r:Vals vs us) (h:∀base',(∀b o,X.base.get? b=some o→base'.get? b=some o)→q6T X.env.cells σ base' ix→sp base' (vs++dvs) H Q E):wpAny (model X.prog X.w) X.A (call (.ref f) us) (EP X pins σ Q) X.xe s:=by(
have r2:Vals (vs++dvs) (us++ds):=r.append hd
obtain⟨e0,up,cel⟩:=I.env0C (ix.filterMap λp=>X.env.cells.lookup p.2) (λc hc=>by obtain⟨p,hp,e⟩:=rR.mp hc;exact⟨p.2,(hix p hp).2.2,e⟩)
have cv:q6T X.env.cells σ (hidT s.heap (yF X.base (ix.filterMap λp=>X.env.cells.lookup p.2))) ix:=λp hp v hv=>by
 obtain⟨h1,h2,h3⟩:=hix p hp;obtain⟨m,_,hl⟩:=I.loc;obtain⟨u,ru,lk⟩:=hl p.1 p.2 v h1 hv (.inr (.inl h2));rcases lk with⟨z,_⟩|⟨_,c,hc,o,ho,hd⟩
 ·have z:X.env.scope.names.lookup p.2=some .local:=z;rw[h2]at z;cases z
 exact⟨c,u,hc,ru,o,cel c (rR.mpr ⟨p,hp,hc⟩) o ho,hd⟩
have q:=h _ up cv
have hl:(us++ds).length=ps.length:=by rw[←r2.length];exact(F _ up cv).len _ _ _ _ q
refine rS (wJ ((F _ up cv).run X.A X.stack s H ⟨us,[]⟩ (us++ds) (vs++dvs) Q E hr e0 (hb s us I.kIn hl) r2 q) λr s' hq=>?_)
cases r with
|error e=>exact hx pins σ H s e s' I hq
|ok fl=>
 cases fl with
 |ret u=>exact I.after hq
 |next=>exact False.elim hq
 |brk=>exact False.elim hq
 |cont=>exact False.elim hq)
section
variable{X:Cx}{pins:List (Addr×Obj)}{σ:St}{H:Hp}{s:Shared}
theorem qDZ{P:PySem.Fin→Shared→Prop}{EE:Value→Shared→Prop}{a f:Addr}{n:Nat}{vs:List Value}{us:List V}(I:Inv X pins σ H s)
 (ho:s.heap.get? a=some (seqObj "list" vs.toArray n)) (fa:FpOk X pins H a) (ha:X.s₀.heap.objs.size≤a) (rv:Vals us vs) (h64:us.length<64)
 (Pv:Nat→List V→Hp→Prop) (h0:Pv 0 [] H) (hs:∀i x zs H' pins' s' u,us[i]?=some x→RelV x u→Pv i zs H'→Inv { X with A:=X.A.in1.in1,xe:=λ_ _=>False } pins' σ H' s'→wpAny (model X.prog X.w) X.A.in1.in1 (call (.ref f) [u]) (EP { X with A:=X.A.in1.in1,xe:=λ_ _=>False } pins' σ (λz H''=>Pv (i+1) (zs++[z]) H'')) (λ_ _=>False) s')
 (hd:∀zs H',H' a=none→zs.length=us.length→Pv us.length zs H'→∃kk m,Paired (TupI X.K H') zs kk∧(∀k∈kk,k.length=m)∧0<m∧∀q:List Nat,q.Perm (List.range us.length)→(q.map λi=>kk.getD i []).Pairwise (λa b=>lx b a=false)→∀s',Inv X pins σ (upd H' a (.lst (q.map λi=>us.getD i .non))) s'→P (.done (.ret .none)) s'):
 wpAny (model X.prog X.w) X.A.in1.in1 (ksk_tree a (.ref f) false) P EE s:=by(
have hal:a<s.heap.objs.size:=kU ho
have hl:=rv.length
obtain⟨e1,g1⟩:∃e1,(s.heap.update a (Obj.mapSeq λ_=>(#[]:Array Value))).get? a=some (seqObj "list" #[] e1):=⟨_,rX ho λ_=>#[]⟩
unfold ksk_tree
refine hI (pA ho rfl (hI (dX ho rfl (hI (cT g1 rfl ?_)) (by rw[kW,gA];lia) (mL _))))
refine hI (nM (hI (wQ (gQ ?_) (mL _))) (by show vs.length≤_;rw[gA];lia))
have hks:((s.heap.update a (Obj.mapSeq λ_=>(#[]:Array Value))).push (seqObj "tuple" vs.toArray 0)).objs.size=s.heap.objs.size+1:=by rw[sO,wL]
obtain⟨kS,eks⟩:∃kS:Addr,kS=((s.heap.update a (Obj.mapSeq λ_=>(#[]:Array Value))).push (seqObj "tuple" vs.toArray 0)).objs.size:=⟨_,rfl⟩
have ksz:s.heap.objs.size≤kS:=by rw[eks,hks];exact g8 _
have ne:kS≠a:=dN (mG hal ksz)
show wpAny (model X.prog X.w) X.A.in1.in1 (ksk_rest a (.ref f) false vs.toArray e1 (.ref ((s.heap.update a (Obj.mapSeq λ_=>(#[]:Array Value))).push (seqObj "tuple" vs.toArray 0)).objs.size)) P EE { s with heap:=((s.heap.update a (Obj.mapSeq λ_=>(#[]:Array Value))).push (seqObj "tuple" vs.toArray 0)).push (seqObj "list" #[] 0) }
rw[←eks]
have gk0:(((s.heap.update a (Obj.mapSeq λ_=>(#[]:Array Value))).push (seqObj "tuple" vs.toArray 0)).push (seqObj "list" #[] 0)).get? kS=some (seqObj "list" #[] 0):=by rw[eks];exact mF _ rfl
have ga0:=kE (seqObj "list" #[] 0) (kE (seqObj "tuple" vs.toArray 0) g1)
have I0:Inv X pins σ H { s with heap:=((s.heap.update a (Obj.mapSeq λ_=>(#[]:Array Value))).push (seqObj "tuple" vs.toArray 0)).push (seqObj "list" #[] 0),toks:=s.toks }:=I.turnedN (fp:=[a]) (λb o hb' e=>kE _ (kE _ ((k9 _ _ (λz=>hb' (hX.mpr z.symm))).trans e))) (λb hb'=>by rw[hX.mp hb'];exact fa)
have fk0:FpOk X pins H kS:=I.fpOk ksz (I.hok.fresh ksz)
have fp:∀{H':Hp} {b:Addr},FpOk X pins H b→H' b=none→FpOk X pins H' b:=λf e=>⟨e,f.2⟩
unfold ksk_rest
refine hI (wpAny_rule ?_)
first
 |rw[lK]
 |(rw[←lL];simp only[nX])
refine hI (ksk_fold (I:=λi s'=>∃H' zs ks e,Inv X pins σ H' s'∧s'.heap.get? a=some (seqObj "list" #[] e1)∧s'.heap.get? kS=some (seqObj "list" (List.toArray ks) e)∧Vals zs ks∧zs.length=i∧Pv i zs H'∧H' a=none∧H' kS=none) vs 0 _ ⟨H,[],[],0,I0,ga0,gk0,.nil,rfl,h0,fa.1,fk0.1⟩ (λj x s' hx hJ=>?_) λs' hJ=>?_)
·obtain⟨H',zs,ks,e,I1,ga,gk,rz,lz,pv,na,nk⟩:=hJ;rw[cF]at lz pv ⊢;have hj:j<vs.length:=(kD.mp hx).1;obtain⟨y,ey,ry⟩:=rv.atN (j:=j) hj;obtain rfl:vs[j]=x:=(kD.mp hx).2;have I2:=(I1.near (A':=X.A.in1.in1) rfl rfl λ_ _=>False).pinned (fp:=[a,kS]) (λb hb'=>by
  simp only[kJ,g9,cS]at hb';rcases hb' with rfl|rfl
  ·exact fp fa na
  ·exact fp fk0 nk) (λb hb'=>by
  simp only[kJ,g9,cS]at hb';rcases hb' with rfl|rfl
  ·exact⟨_,ga,λv z=>by cases z⟩
  exact⟨_,gk,λv z=>by cases z⟩)
 refine hI (pS (gR (hs j y zs H' _ _ _ ey ry pv I2) (λu s'' hq=>?_) λ_ _ z=>z.elim));obtain⟨z,H'',I3,ru,q⟩:=hq;have pa:=I3.pin (a,seqObj "list" #[] e1) (kZ _ (kZ _ (u6 (by simp) ga)));have pk:=I3.pin (kS,seqObj "list" (List.toArray ks) e) (kZ _ (kZ _ (u6 (by simp) gk)));have lk:=rz.length;have ea:(List.toArray ks).push u=List.toArray (ks++[u]):=by simp
 obtain⟨c2,g2⟩:∃c2,(s''.heap.update kS (Obj.mapSeq (·.push u))).get? kS=some (seqObj "list" (List.toArray (ks++[u])) c2):=⟨_,by rw[←ea];exact rX pk.1 (·.push u)⟩;try dsimp only
 refine hI (dX pk.1 rfl ?_ (by rw[kW,gA];lia) (k8 (wI (aE ..)) (by rw[kW,gA];lia)));have I4:Inv X pins σ H'' s'':=(I3.unpinned).near (A':=X.A) rfl rfl X.xe;have I5:Inv X pins σ H'' { s'' with heap:=s''.heap.update kS (Obj.mapSeq (·.push u)),toks:=s''.toks }:=I4.turnedN (fp:=[kS]) (λb o hb' e=>(k9 _ _ (λz=>hb' (hX.mpr z.symm))).trans e) (λb hb'=>by rw[hX.mp hb'];exact fp fk0 pk.2.1);exact kX ⟨rfl,H'',zs++[z],ks++[u],c2,I5,(k9 _ _ ne).trans pa.1,g2,rz.append (.cons ru .nil),by rw[kO,lz];rfl,q,pa.2.1,pk.2.1⟩
obtain⟨H',zs,ks,e,I1,ga,gk,rz,lz,pv,na,nk⟩:=hJ
rw[cF,←hl]at lz pv
obtain⟨kk,m,hti,hw,hm,fin⟩:=hd zs H' na lz pv
try dsimp only
refine hI (pA gk rfl ?_)
exact qCY I1 (fp fa na) (fp fk0 nk) ha ne ga gk rz rv lz h64 hti hw hm fin)
end
noncomputable def oneQ(R:V→Hp→Prop):List V→Hp→Prop
| [v],H=>R v H
|_,_=>False
theorem qHJ{R:V→Hp→Prop}:∀{xs:List V} {H:Hp},oneQ R xs H→∃v,xs=[v]∧R v H
| [v],_,h=>⟨v,rfl,h⟩
| [],_,h=>h.elim
|_::_::_,_,h=>h.elim
noncomputable def tSL(P:Program)(w:World)(K:PySem.W.Frag)(mg:Str→Option Value)(base:Heap)(cells:List (Str×Addr))(ix:List (Nat×Str))(k:Nat)(x:Str)(tl:TE)(ta:TA):TE:=λσ H Q=>ta σ H λvs H1=>tl σ H1 λfv H2=>∃(f:Addr) (fd:FuncData) (sp:Heap→Sp),fv=.ref f∧(∀base',(∀b o,base.get? b=some o→base'.get? b=some o)→q6T cells σ base' ix→FnOk P w K mg base' CX0 k f fd [x] (sp base'))∧jQ K fd [x] []∧∃(l:Addr) (us:List V) (Pv:Nat→List V→Hp→Prop),vs=[.ref l]∧SqL K H2 l us∧us.length<64∧Pv 0 [] H2∧(∀base' i x zs H',q6T cells σ base' ix→us[i]?=some x→Pv i zs H'→sp base' [x] H' (λz H''=>Pv (i+1) (zs++[z]) H'') E0)∧∀zs H',zs.length=us.length→Pv us.length zs H'→∃kk m,Paired (TupI K H') zs kk∧(∀k∈kk,k.length=m)∧0<m∧∀q:List Nat,q.Perm (List.range us.length)→(q.map λi=>kk.getD i []).Pairwise (λa b=>lx b a=false)→NewO H' (.lst (q.map λi=>us.getD i .non)) Q
theorem qC0{X:Cx}{k:Nat}{x:Str}{e le:Expr}{tl:TE}{ta:TA}{p kp pos:Pos}(ix:List (Nat×Str))(hix:∀p∈ix,X.N[p.1]?=some p.2∧X.env.scope.names.lookup p.2=some .cell∧X.fn p.2=true)(hr:Room (k+2) X.A)(hg:Gl X "sorted")(hm:X.mg "sorted"=none)(hl:PE X le tl)(ha:PA X [e] ta)
 (he:starEach [e] X.env=[(false,eval e X.env)]:=by rfl) (hse:starEach ([]:List Expr) X.env=[]:=by rfl):
 PE X (.Call (.Name "sorted" p) [e] [⟨some "key",le,kp⟩] pos) (tSL X.prog X.w X.K X.mg X.base X.env.cells ix k x tl ta):=by(
intro pins s σ H Q I h
refine g7 (q3I I hg hm (u:=.builtin "sorted") (by kernel_rfl) ?_ (by decide) (by decide))
refine callWith_kw (thn (ha pos pins s σ H _ I h) λus s1 ⟨vs,H1,I1,r1,q1⟩=>?_) (by rw[he,hse];rfl) (by rw[he];rfl)
have pk:PK X [⟨some "key",le,kp⟩] (qCH tl tNil):=qCI hl qEK
refine thn (pk pos pins s1 σ H1 (oneQ _) I1 q1) λws s2 hZ=>?_
obtain⟨xs,H2,I2,r2,q2⟩:=hZ
obtain⟨v,rfl,f,fd,sp,rfl,F,hb,q2⟩:=qHJ q2
obtain⟨w,rfl,rw⟩:=q1Y r2
obtain rfl:w=Value.ref f:=rw
obtain⟨l,us',Pv,ev,hq,h64,p0,hs,hd⟩:=q2
subst ev
obtain⟨u,rfl,ru⟩:=q1Y r1
obtain rfl:u=Value.ref l:=ru
obtain⟨its,rv,pl,hz⟩:=I2.list hq
have hlen:=rv.length
show wpAny (model X.prog X.w) X.A (call (.builtin "sorted") [.ref l] [(Str.ofString "key",.ref f)]) _ _ _
refine sP xV xC xD (ksk_s1 _ _) ?_
unfold Builtin.«sorted»
refine hI (m:=checkCount "sorted" 1 1 _) (kX (hI (xE pl.isList (hI (wQ ?_ (by rw[gA];show its.length≤_;lia))))))
have hsz:((s2.heap.push (seqObj "list" #[] 0)).update s2.heap.objs.size (Obj.mapSeq (· ++its.toArray))).objs.size=s2.heap.objs.size+1:=by rw[wL,sO]
have g:(((s2.heap.push (seqObj "list" #[] 0)).update s2.heap.objs.size (Obj.mapSeq (· ++its.toArray))).push (seqObj "list" its.toArray 0)).get? (s2.heap.objs.size+1)=some (seqObj "list" its.toArray 0):=by rw[←hsz];exact mF _ rfl
show wpAny _ _ _ _ _ { s2 with heap:=((s2.heap.push (seqObj "list" #[] 0)).update s2.heap.objs.size (Obj.mapSeq (· ++its.toArray))).push (seqObj "list" its.toArray 0) }
rw[hsz]
have I3:Inv X pins σ H2 { s2 with heap:=((s2.heap.push (seqObj "list" #[] 0)).update s2.heap.objs.size (Obj.mapSeq (· ++its.toArray))).push (seqObj "list" its.toArray 0),toks:=s2.toks }:=I2.kept (t':=s2.toks) λb o e=>kE _ ((k9 _ _ (dN (kU e))).trans (kE _ e))
refine hI (gQ (nY nN ⟨_,g,rfl⟩ sR ?_ (ksk_l1 _ _)))
rw[ksk_t1]
have fr:s2.heap.objs.size≤s2.heap.objs.size+1:=g8 _
refine qDZ I3 g (I2.fpOk fr (I2.hok.fresh fr)) (k8 I2.sz fr) rv h64 Pv p0 (λi x zs H' pins' s' u hx rx pv I'=>qHI (X:={ X with A:=X.A.in1.in1,xe:=λ_ _=>False }) (dvs:=[]) (ds:=[]) (E:=E0) ix hix F hr.in1.in1 hb .nil qK I' (.cons rx .nil) (λbase' up cv=>hs base' i x zs H' cv hx pv)) λzs H' na lz pv=>?_
obtain⟨kk,m,a1,a2,a3,a4⟩:=hd zs H' lz pv
refine⟨kk,m,a1,a2,a3,λq b1 b2 s' I'=>⟨_,rfl,kX ⟨_,rfl,.ref _,_,I',rfl,(a4 q b1 b2).at _ na⟩⟩⟩)
end L2
namespace W1
open PySem L2
structure QM where
P:Nat
B:Nat
nx:Int
V:Mp
lv:List Int
fi:List Int
bo:List Int
namespace QM
structure Ok(m:QM):Prop where
p1:1≤m.P
p2:m.P≤16
b2:m.B≤16
ll:m.lv.length=m.B
lf:m.fi.length=m.B
lo:m.bo.length=m.B
nd:(m.V.map (·.1)).Nodup
nm:∀q∈m.V,0≤q.1∧q.1≤64
blk:∀q∈m.V,∃b:Nat,b<m.B∧q.2 / (m.P:Int)=(b:Int)
wr:∀b,b<m.B→∃f:Nat,m.fi.getD b 0=(f:Int)∧f≤m.P
variable{m:QM}
theorem Ok.lenV(h:m.Ok):m.V.length≤65:=by
 have:=qFM (l:=m.V.map (·.1)) (m:=(List.range 65).map λi:Nat=>(i:Int)) h.nd λx hx=>by obtain⟨q,hq,rfl⟩:=kY.mp hx;have:=h.nm q hq;exact kY.mpr ⟨q.1.toNat,mE.mpr (by lia),by lia⟩
 rw[h9,h9,mQ]at this;exact this
noncomputable def forget(m:QM)(n:Int):QM:={ m with V:=jM m.V n,lv:=BM.lvF m.P m.V m.lv n }
theorem find_V{n:Int}:(∃p,(n,p)∈m.V∧m.V.find? (λq=>decide (q.1=n))=some (n,p))∨((∀q∈m.V,q.1≠n)∧m.V.find? (λq=>decide (q.1=n))=none):=by(
cases e:m.V.find? (λq=>decide (q.1=n))with
|none=>refine .inr ⟨λq hq z=>?_,rfl⟩;have:=rV.mp e q hq;exact this (hG z)
|some q=>
 have h1:q.1=n:=by have:=dQ e;simpa using this
 have h2:=d8 e;refine .inl ⟨q.2,by rw[←h1];exact h2,by rw[←h1]⟩)
theorem lvF_len{n:Int}:(BM.lvF m.P m.V m.lv n).length=m.lv.length:=by(
unfold BM.lvF
split
·rw[gE]
rfl)
theorem Ok.forget(h:m.Ok)(n:Int):(m.forget n).Ok:={ h with ll:=by show(BM.lvF m.P m.V m.lv n).length=m.B;rw[lvF_len];exact h.ll,nd:=q6S h.nd,nm:=λq hq=>h.nm q (jO.mp hq).1,blk:=λq hq=>h.blk q (jO.mp hq).1 }
noncomputable def put(m:QM)(b f:Nat)(n:Int):QM:={ m with V:=jM m.V n++[(n,((b*m.P+f:Nat):Int))],lv:=(BM.lvF m.P m.V m.lv n).set b ((BM.lvF m.P m.V m.lv n).getD b 0+1),bo:=if m.fi.getD b 0=0 then m.bo.set b m.nx else m.bo,fi:=m.fi.set b (m.fi.getD b 0+1),nx:=m.nx+1 }
theorem Ok.put(h:m.Ok){b f:Nat}{n:Int}(hb:b<m.B)(hf:f<m.P)(ef:m.fi.getD b 0=(f:Int))(n0:0≤n)(n1:n≤64):(m.put b f n).Ok where
p1:=h.p1
p2:=h.p2
b2:=h.b2
ll:=by show(List.set _ _ _).length=m.B;rw[gE,lvF_len];exact h.ll
lf:=by show(List.set _ _ _).length=m.B;rw[gE];exact h.lf
lo:=by
 show(if m.fi.getD b 0=0 then m.bo.set b m.nx else m.bo).length=m.B;split
 ·rw[gE];exact h.lo
 exact h.lo
nd:=by
 show((jM m.V n++[(n,((b*m.P+f:Nat):Int))]).map (·.1)).Nodup;rw[mR];refine wB.mpr ⟨q6S h.nd,by simp,λa ha c hc=>?_⟩;obtain⟨q,hq,rfl⟩:=kY.mp ha;have hc:c=n:=by simpa using hc
 rw[hc];exact(jO.mp hq).2
nm:=λq hq=>by
 rcases gT.mp hq with hq|hq
 ·exact h.nm q (jO.mp hq).1
 rw[hX.mp hq];exact⟨n0,n1⟩
blk:=λq hq=>by
 rcases gT.mp hq with hq|hq
 ·exact h.blk q (jO.mp hq).1
 rw[hX.mp hq];refine⟨b,hb,?_⟩;show((b*m.P+f:Nat):Int) / (m.P:Int)=_;rw[←d3,yG hf]
wr:=λc hc=>by
 show ∃g:Nat,(m.fi.set b (m.fi.getD b 0+1)).getD c 0=(g:Int)∧g≤m.P;rw[jJ];split
 ·exact⟨f+1,by rw[ef];rfl,hf⟩
 exact h.wr c hc
end QM
noncomputable def vn(b:Nat):V:=.int (b:Int)
noncomputable def uJ(B:Nat)(br:List Bool):List Nat:=(List.range B).filter λb=>!(br.getD b false)
noncomputable def u7(B:Nat)(br:List Bool)(fi:List Int):List Nat:=(uJ B br).filter λb=>decide (fi.getD b 0=0)
noncomputable def keyN(cl:List Int)(b:Nat):List Int:=[cl.getD b 0,(b:Int)]
structure FreeIs(B:Nat)(br:List Bool)(cl fi:List Int)(l:List Nat):Prop where
pm:l.Perm (u7 B br fi)
so:(l.map (keyN cl)).Pairwise λa b=>lx b a=false
theorem qHK{cl:List Int}{a b:Nat}(h:keyN cl a=keyN cl b):a=b:=by(
unfold keyN at h
injection h with _ h
injection h with h _
lia)
theorem q0K{B:Nat}{br:List Bool}{b:Nat}:b∈uJ B br↔b<B∧br.getD b false=false:=by unfold uJ;rw[mK,mE,g3]
theorem q8N{B:Nat}{br:List Bool}{fi:List Int}{b:Nat}:b∈u7 B br fi↔(b<B∧br.getD b false=false)∧fi.getD b 0=0:=by unfold u7;rw[mK,q0K,kP]
theorem q23{B:Nat}{br:List Bool}:(uJ B br).length≤B:=k8 (mH _ _) (by rw[mQ];exact kN _)
theorem qE0{B:Nat}{br:List Bool}{fi:List Int}:(u7 B br fi).length≤B:=k8 (mH _ _) q23
theorem FreeIs.mem{B:Nat}{br:List Bool}{cl fi:List Int}{l:List Nat}(h:FreeIs B br cl fi l){b:Nat}(hb:b∈l):b<B∧br.getD b false=false∧fi.getD b 0=0:=by have:=q8N.mp (h.pm.mem_iff.mp hb);exact⟨this.1.1,this.1.2,this.2⟩
noncomputable def jY(P:Nat)(fi:List Int)(b:Nat):Bool:=decide (0<fi.getD b 0)&&decide (fi.getD b 0<(P:Int))
noncomputable def jP(B P:Nat)(br:List Bool)(fi:List Int):Option Nat:=(uJ B br).find? (jY P fi)
theorem q14{B P:Nat}{br:List Bool}{fi:List Int}{b:Nat}(h:jP B P br fi=some b):b<B∧br.getD b false=false∧0<fi.getD b 0∧fi.getD b 0<(P:Int):=by(
have h1:=q0K.mp (d8 h)
have h2:=dQ h
unfold jY at h2
rw[mI,kP,kP]at h2
exact⟨h1.1,h1.2,h2.1,h2.2⟩)
noncomputable def q1N(B P:Nat)(br:List Bool)(fi:List Int)(l:List Nat):Option Nat:=match jP B P br fi with
|some b=>some b
|none=>l.head?
theorem qAZ{B P:Nat}{br:List Bool}{cl fi:List Int}{l:List Nat}(hl:FreeIs B br cl fi l)(hP:1≤P){b:Nat}(h:q1N B P br fi l=some b):b<B∧br.getD b false=false∧0≤fi.getD b 0∧fi.getD b 0<(P:Int):=by(
unfold q1N at h
split at h
·rename_i b' e;cases h;have:=q14 e;exact⟨this.1,this.2.1,by lia,this.2.2.2⟩
cases l with
|nil=>cases h
|cons c r=>cases h;have:=hl.mem kQ;exact⟨this.1,this.2.1,by lia,by lia⟩)
noncomputable def pgV(P:Nat)(fi:List Int):Option Nat→V
|none=>.non
|some b=>.int ((b:Int)*(P:Int)+fi.getD b 0)
noncomputable def oV:Option Nat→V
|none=>.non
|some b=>.int (b:Int)
theorem q6V{α β:Type}{L:List α}{f:α→β}{d:β}{e:α}:∀{q:List Nat},(∀i∈q,i<L.length)→(q.map λi=>(L.map f).getD i d)=(q.map λi=>L.getD i e).map f
| [],_=>rfl
|i::q,h=>by have hi:=h i kQ;rw[mJ,mJ,mJ,q6V (q:=q) λj hj=>h j (kB _ hj)];congr 1;rw[kI,kI,mC,kC hi];rfl
theorem qC1{α:Type}{L:List α}{e:α}{q:List Nat}(h:q.Perm (List.range L.length)):(q.map λi=>L.getD i e).Perm L:=by(
have:=h.map λi=>L.getD i e
refine this.trans ?_
have eq:(List.range L.length).map (λi=>L.getD i e)=L:=by refine rN (by simp) λi h1 h2=>?_;rw[cL,wW,kI,kC h2];rfl
rw[eq])
theorem qHL{B:Nat}{br:List Bool}{cl fi:List Int}{q:List Nat}(h:q.Perm (List.range (u7 B br fi).length))(so:(q.map λi=>((u7 B br fi).map (keyN cl)).getD i []).Pairwise λa b=>lx b a=false):FreeIs B br cl fi (q.map λi=>(u7 B br fi).getD i 0):=by(
have hin:∀i∈q,i<(u7 B br fi).length:=λi hi=>mE.mp (h.mem_iff.mp hi)
refine⟨qC1 h,?_⟩
rw[q6V (e:=0) hin]at so
exact so)
theorem qE1{α β:Type}{L:List α}{f:α→β}{i:Nat}{x:α}(h:L[i]?=some x):(L.take (i+1)).map f=(L.take i).map f++[f x]:=by(
have hi:=(kD.mp h).1
obtain rfl:L[i]=x:=(kD.mp h).2
rw[←mD hi,mR]
rfl)
theorem qHM{a b:List Int}(h:lx a b=true):lx b a=false:=by(
cases z:lx b a with
|false=>rfl
|true=>have:=zK a b a h z;rw[q4U]at this;cases this)
theorem qIQ{a b c:List Int}(h1:lx b a=false)(h2:lx c b=false):lx c a=false:=by(
cases z:lx c a with
|false=>rfl
|true=>
 cases y:lx a b with
 |true=>have:=zK c a b z y;rw[h2]at this;cases this
 |false=>have e:=q22 a b y h1;rw[e]at z;rw[h2]at z;cases z)
theorem FreeIs.ex(B:Nat)(br:List Bool)(cl fi:List Int):∃l,FreeIs B br cl fi l:=by(
refine⟨(u7 B br fi).mergeSort λa b=>!(lx (keyN cl b) (keyN cl a)),wM _ _,?_⟩
have:=wZ (le:=λa b=>!(lx (keyN cl b) (keyN cl a))) (λa b c h1 h2=>by
 rw[g3]at h1 h2 ⊢;exact qIQ h1 h2) (λa b=>by
 cases z:lx (keyN cl b) (keyN cl a)with
 |false=>rfl
 |true=>rw[qHM z];rfl) (u7 B br fi)
rw[gF]
exact this.imp λh=>by rw[g3]at h;exact h)
theorem rep8{α:Type}{n i:Nat}{y:α}:(List.replicate n y).getD i y=y:=by rw[kI,rL];split<;>rfl
end W1
namespace W1
noncomputable def orB:List Nat→Nat→Nat
| [],b=>b
|s::r,b=>orB r (b|||2 ^ s)
end W1
namespace W1
open PySem L2
theorem yK{B:Nat}:uJ B (List.replicate B false)=List.range B:=by(
unfold uJ
refine rJ.mpr λb _=>?_
rw[rep8]
rfl)
end W1
namespace L2
open PySem PySem.Spec PyProof.Rows
structure ClM(K:PySem.W.Frag)(W:Addr)(m:Str)(f:Addr):Prop where
rd:PySem.W.readsIn K W (.type "type")=true
fd:PySem.W.findCls K (.ref W) (.type "type") m=some (.val (.ref f))
ga:PySem.W.specialIn K (.ref W) "__getattribute__"=some (some (.builtin "type.__getattribute__"))
kp:PySem.W.keepIn K (.ref f)=true
noncomputable def gLst(K:PySem.W.Frag)(n:Nat)(t:TGs):TG:=λv σ H Q=>∃a xs,v=.ref a∧SqL K H a xs∧xs.length=n∧t xs σ H Q
theorem qKD{X:Cx}{pos:Pos}{es:List Expr}{k:Nat}{t:TGs}{n:Nat}(hc:X.calm=true)(h:PGs X es t)
 (hn:(assignEach es X.env).length=n:=by rfl) (hst:(assignEach es X.env).findIdx? (·.1)=none:=by rfl):PG X (.Tuple es k pos) (gLst X.K n t):=by(
intro pins s σ H v u Q I r hw
obtain⟨a,xs,e1,hq,hl,hw⟩:=hw
subst e1
cases r
obtain⟨its,rv,p,hz⟩:=I.list hq
rw[PyProof.Rows.assign_Tuple]
refine hI (cP ?_)
unfold unpack
rw[show(assignEach es X.env).length=its.toArray.size by simp[hn,←hl,rv.length],hst]
refine hI (gQ (PySem.W.kun_itemsOf (I.ok.hd hc) p.isList λh' hx=>?_))
have I1:Inv X pins σ H { s with heap:=h' }:=I.kept (t':=s.toks) λb o e=>hx b o (mP (kU e)) e
exact h pins _ σ H xs _ Q I1 (by simpa using rv) hw)
end L2
namespace W1
open PySem L2
noncomputable def rdy(ie:Int)(l:List Nat)(p:Option Nat):Bool:=decide ((l.length:Int)-(1+ie)>0)||(decide ((l.length:Int)-(1+ie)=0)&&p.isSome)
noncomputable abbrev tyL(m:CM)(q:QM)(b:Nat):List V:=[.int (b:Int),.int (q.lv.getD b 0),.int (m.cl.getD b 0),.int (q.bo.getD b 0)]
noncomputable def spcN(ie:Int)(l:List Nat)(P:Nat)(fi:List Int)(p:Option Nat):Int:=if 1+ie≤(l.length:Int)then(P:Int)else match p with|none=>0|some b=>(P:Int)-fi.getD b 0
noncomputable def jX(B P:Nat)(br:List Bool)(fi:List Int):List Nat:=(uJ B br).filter λb=>decide (fi.getD b 0=(P:Int))
noncomputable def optN(ie:Int)(m:CM)(q:QM)(l:List Nat):List Nat:=((jX q.B q.P m.br q.fi).filter λb=>decide (q.lv.getD b 0≤spcN ie l q.P q.fi (jP q.B q.P m.br q.fi))).filter λb=>decide (q.lv.getD b 0<(q.P:Int))
noncomputable def qFX(q:QM)(r:Int×Nat×Int):QM:={ q with nx:=r.1 }.put (r.2.1 / q.P) (r.2.1%q.P) r.2.2
structure Fits(q:QM)(r:Int×Nat×Int):Prop where
b:r.2.1 / q.P<q.B
f:q.fi.getD (r.2.1 / q.P) 0=((r.2.1%q.P:Nat):Int)
s:q.nx≤r.1
n0:0≤r.2.2
n1:r.2.2≤64
section
variable{q q0:QM}{r:Int×Nat×Int}{R:List (Int×Nat×Int)}
theorem Fits.ok(h:Fits q r)(ok:q.Ok):(qFX q r).Ok:=by have okn:QM.Ok { q with nx:=r.1 }:={ ok with };exact okn.put h.b (Nat.mod_lt _ ok.p1) h.f h.n0 h.n1
structure QS(q:QM):Prop where
ok:q.Ok
lv:∀b,b<q.B→q.lv.getD b 0=(cntB q.P q.V b:Nat)
theorem qHN(h:QS q)(n:Int){b:Nat}(hb:b<q.B):(BM.lvF q.P q.V q.lv n).getD b 0=(cntB q.P (jM q.V n) b:Nat):=by(
unfold BM.lvF
rcases QM.find_V (m:=q) (n:=n)with⟨p,hp,e⟩|⟨no,e⟩
·rw[e];obtain⟨c,hc,ec⟩:=h.ok.blk _ hp;have ec:p / (q.P:Int)=(c:Int):=ec;have cd:=qFN (P:=q.P) (b:=b) h.ok.nd hp;show(q.lv.set (p / (q.P:Int)).toNat (q.lv.getD (p / (q.P:Int)).toNat 0-1)).getD b 0=_;rw[ec,mO,jJ];rw[ec]at cd;have e1:=h.lv b hb;by_cases z:c=b
 ·subst z;rw[kF rfl]at cd;rw[kF ⟨rfl,by rw[h.ok.ll];exact hb⟩,e1];lia
 rw[hV (by lia)]at cd;rw[hV (λy=>z y.1),e1];lia
rw[e,h.lv b hb,show jM q.V n=q.V from rJ.mpr λy hy=>hG (no y hy)])
theorem Fits.qs(h:Fits q r)(qs:QS q):QS (qFX q r):=by(
refine⟨h.ok qs.ok,λb hb=>?_⟩
have hb:b<q.B:=hb
have lc:=qHN qs r.2.2 hb
show((BM.lvF q.P q.V q.lv r.2.2).set (r.2.1 / q.P) ((BM.lvF q.P q.V q.lv r.2.2).getD (r.2.1 / q.P) 0+1)).getD b 0=((cntB q.P (jM q.V r.2.2++[(r.2.2,((r.2.1 / q.P*q.P+r.2.1%q.P:Nat):Int))]) b:Nat):Int)
have ep:r.2.1 / q.P*q.P+r.2.1%q.P=r.2.1:=by rw[rU];exact Nat.div_add_mod _ _
have ea:cntB q.P (jM q.V r.2.2++[(r.2.2,(r.2.1:Int))]) b=cntB q.P (jM q.V r.2.2) b+(if r.2.1 / q.P=b then 1 else 0):=by
 unfold cntB;rw[List.countP_append,List.countP_singleton,←d3];by_cases z:r.2.1 / q.P=b
 ·rw[kF z,z,hG rfl];rfl
 rw[hV z,hU (by lia)];rfl
rw[ep,ea,jJ]
by_cases z:r.2.1 / q.P=b
·rw[kF z,kF ⟨z,by rw[QM.lvF_len,qs.ok.ll];lia⟩,z,lc];lia
rw[hV z,hV (λy=>z y.1),lc]
lia)
end
noncomputable def OneP(B P:Nat)(fi:List Int):Prop:=∀b c,b<B→c<B→jY P fi b=true→jY P fi c=true→b=c
noncomputable def clr1(P:Nat)(fi:List Int)(b:Nat):Nat:=P-(fi.getD b 0).toNat
noncomputable def rm(B P:Nat)(fi:List Int):Nat:=((List.range B).map (clr1 P fi)).sum
theorem qD3{L:List Nat}{f g:Nat→Nat}:(L.map λb=>f b+g b).sum=(L.map f).sum+(L.map g).sum:=by(
induction L with
|nil=>rfl
|cons x L ih=>rw[mJ,mJ,mJ,dO,dO,dO,ih];lia)
theorem q0L{L:List Nat}{f g:Nat→Nat}(h:∀b∈L,f b=g b):(L.map f).sum=(L.map g).sum:=by rw[dS h]
theorem qKE{L:List Nat}{p:Nat→Bool}{c:Nat}:(L.map λb=>if p b=true then c else 0).sum=(L.filter p).length*c:=by(
induction L with
|nil=>rw[aF];simp
|cons x L ih=>
 rw[mJ,dO,ih,mV];by_cases h:p x=true
 ·rw[kF h,kF h,mB,cE];lia
 rw[hV h,hV h];lia)
theorem qD4{L:List Nat}{p:Nat→Bool}{h:Nat→Nat}(nd:L.Nodup)(one:∀a∈L,∀b∈L,p a=true→p b=true→a=b):(L.map λb=>if p b=true then h b else 0).sum=match L.find? p with|some b=>h b|none=>0:=by(
induction L with
|nil=>rfl
|cons x L ih=>
 obtain⟨n1,n2⟩:=mW.mp nd;rw[mJ,dO,dD];by_cases hx:p x=true
 ·rw[hx,kF rfl];have:(L.map λb=>if p b=true then h b else 0).sum=(L.map λ_=>0).sum:=q0L λb hb=>by rw[hV];intro z;exact n1 (by rw[one x (by simp) b (kB _ hb) hx z];exact hb)
  rw[this];have z:(L.map λ_=>0).sum=0:=by
   clear this ih nd one n1 n2;induction L with
   |nil=>rfl
   |cons y L ih=>rw[mJ,dO,ih]
  rw[z];rfl
 rw[hV hx];rw[Bool.not_eq_true]at hx;rw[hx];rw[cF];exact ih n2 λa ha b hb=>one a (kB _ ha) b (kB _ hb))
section
variable{B P:Nat}{fi cl:List Int}{l:List Nat}
noncomputable abbrev noB(B:Nat):List Bool:=List.replicate B false
theorem qLO(on:OneP B P fi)(wr:∀b,b<B→∃f:Nat,fi.getD b 0=(f:Int)∧f≤P)(p1:1≤P)(hl:FreeIs B (noB B) cl fi l):
 rm B P fi=l.length*P+(match jP B P (noB B) fi with|some b=>P-(fi.getD b 0).toNat|none=>0):=by(
have h1:l.length=((List.range B).filter λb=>decide (fi.getD b 0=0)).length:=by rw[hl.pm.length_eq];unfold u7;rw[yK]
unfold rm jP
rw[yK,h1,←qKE,←qD4 (p:=jY P fi) (h:=λb=>P-(fi.getD b 0).toNat) sE (λa ha b hb=>on a b (mE.mp ha) (mE.mp hb)),←qD3]
refine q0L λb hb=>?_
obtain⟨f,ef,hf⟩:=wr b (mE.mp hb)
unfold clr1 jY
rw[ef,mO]
by_cases z:f=0
·subst z;simp
by_cases y:f<P
·rw[hV (by simp;lia),hG (by lia),hG (by lia)];simp
rw[hV (by simp;lia),hU (show ¬(f:Int)<(P:Int) by lia)]
simp
lia)
theorem qB0{b:Nat}(h:jP B P (noB B) fi=some b):b<B∧0<fi.getD b 0∧fi.getD b 0<(P:Int):=by have:=q14 h;exact⟨this.1,this.2.2⟩
theorem q24(on:OneP B P fi)(wr:∀b,b<B→∃f:Nat,fi.getD b 0=(f:Int)∧f≤P)(p1:1≤P)(hl:FreeIs B (noB B) cl fi l):
 (jP B P (noB B) fi=none∧rm B P fi=l.length*P)∨∃b e,jP B P (noB B) fi=some b∧1≤e∧e<P∧rm B P fi=l.length*P+e∧fi.getD b 0+(e:Int)=(P:Int):=by(
have h:=qLO on wr p1 hl
cases hp:jP B P (noB B) fi with
|none=>rw[hp]at h;exact .inl ⟨rfl,h⟩
|some b=>rw[hp]at h;obtain⟨a,c,d⟩:=qB0 hp;exact .inr ⟨b,P-(fi.getD b 0).toNat,rfl,by lia,by lia,h,by lia⟩)
theorem qHO{ie:Nat}(on:OneP B P fi)(wr:∀b,b<B→∃f:Nat,fi.getD b 0=(f:Int)∧f≤P)(p1:1≤P)(hl:FreeIs B (noB B) cl fi l):
 rdy (ie:Int) l (jP B P (noB B) fi)=decide ((1+ie)*P<rm B P fi):=by(
have key:∀e,e<P→((1+ie)*P<l.length*P+e↔(1+ie<l.length∨(1+ie=l.length∧0<e))):=λe he=>by
 rcases xH (1+ie) l.length with h|h|h
 ·have:=gY P (show 1+ie+1≤l.length from h);rw[cE]at this;exact⟨λ_=>.inl h,λ_=>by lia⟩
 ·rw[h];exact⟨λz=>.inr ⟨rfl,by lia⟩,λz=>by lia⟩
 have:=gY P (show l.length+1≤1+ie from h);rw[cE]at this;exact⟨λz=>by lia,λz=>by lia⟩
unfold rdy
rcases q24 on wr p1 hl with⟨h1,h2⟩|⟨b,e,h1,e1,e2,h2,_⟩
·rw[h1,h2];have k:=key 0 (by lia);rw[xF]at k;by_cases z:(1+ie)*P<l.length*P
 ·rw[hG z,hG (show(l.length:Int)-(1+(ie:Int))>0 by rcases k.mp z with h|h<;>lia)];rfl
 rw[hU z,hU (show ¬(l.length:Int)-(1+(ie:Int))>0 by intro y;exact z (k.mpr (.inl (by lia))))];simp
rw[h1,h2]
have k:=key e e2
by_cases z:(1+ie)*P<l.length*P+e
·rw[hG z];rcases k.mp z with h|h
 ·rw[hG (show(l.length:Int)-(1+(ie:Int))>0 by lia)];rfl
 rw[hG (show(l.length:Int)-(1+(ie:Int))=0 by lia)];simp
rw[hU z,hU (show ¬(l.length:Int)-(1+(ie:Int))>0 by intro y;exact z (k.mpr (.inl (by lia)))),hU (show ¬(l.length:Int)-(1+(ie:Int))=0 by intro y;exact z (k.mpr (.inr ⟨by lia,by lia⟩)))]
rfl)
theorem q8O(on:OneP B P fi)(wr:∀b,b<B→∃f:Nat,fi.getD b 0=(f:Int)∧f≤P)(p1:1≤P)(hl:FreeIs B (noB B) cl fi l)(h:0<rm B P fi):∃b,q1N B P (noB B) fi l=some b∧((jP B P (noB B) fi=some b)∨(jP B P (noB B) fi=none∧fi.getD b 0=0)):=by(
unfold q1N
rcases q24 on wr p1 hl with⟨h1,h2⟩|⟨b,e,h1,_⟩
·rw[h1];cases l with
 |nil=>rw[h2]at h;simp at h
 |cons x l=>exact⟨x,rfl,.inr ⟨rfl,(hl.mem (by simp)).2.2⟩⟩
rw[h1]
exact⟨b,rfl,.inl rfl⟩)
theorem qHP{L:List Nat}{f g:Nat→Nat}{b:Nat}(nd:L.Nodup)(hb:b∈L)(h:∀c∈L,c≠b→f c=g c):(L.map f).sum+g b=(L.map g).sum+f b:=by(
induction L with
|nil=>exact absurd hb (by simp)
|cons x L ih=>
 obtain⟨n1,n2⟩:=mW.mp nd;rw[mJ,mJ,dO,dO];rcases kJ.mp hb with rfl|hb
 ·rw[q0L (L:=L) (f:=f) (g:=g) λc hc=>h c (kB _ hc) λz=>n1 (by rw[←z];exact hc)];lia
 have:=ih n2 hb λc hc=>h c (kB _ hc);have e:=h x (by simp) λz=>n1 (by rw[z];exact hb);lia)
theorem qFY{b:Nat}{v:Int}(hb:b<B)(lf:fi.length=B):rm B P (fi.set b v)+(P-(fi.getD b 0).toNat)=rm B P fi+(P-v.toNat):=by(
have:=qHP (L:=List.range B) (f:=clr1 P (fi.set b v)) (g:=clr1 P fi) (b:=b) sE (mE.mpr hb) λc _ hc=>by unfold clr1;rw[jJ,hV (λz=>hc z.1.symm)]
unfold rm
have e:clr1 P (fi.set b v) b=P-v.toNat:=by unfold clr1;rw[jJ,kF ⟨rfl,by lia⟩]
rw[e]at this
exact this)
theorem qKF{b f:Nat}(hb:b<B)(lf:fi.length=B)(ef:fi.getD b 0=(f:Int))(hf:f<P):rm B P (fi.set b (fi.getD b 0+1))+1=rm B P fi:=by(
have:=qFY (P:=P) (v:=fi.getD b 0+1) hb lf
rw[ef]at this ⊢
have e1:((f:Int)).toNat=f:=mO f
have e2:((f:Int)+1).toNat=f+1:=by lia
rw[e1,e2]at this
lia)
theorem qHQ{b:Nat}(hb:b<B)(lf:fi.length=B)(ef:fi.getD b 0=(P:Int)):rm B P (fi.set b 0)=rm B P fi+P:=by(
have:=qFY (P:=P) (v:=0) hb lf
rw[ef]at this
have e1:((P:Int)).toNat=P:=mO P
rw[e1]at this
simpa using this)
theorem qHR{b:Nat}(on:OneP B P fi)(hb:b<B)(lf:fi.length=B)(h:(jP B P (noB B) fi=some b)∨(jP B P (noB B) fi=none∧fi.getD b 0=0)):OneP B P (fi.set b (fi.getD b 0+1)):=by(
have other:∀c,c<B→c≠b→jY P (fi.set b (fi.getD b 0+1)) c=true→False:=λc hc nc hp=>by
 have hp':jY P fi c=true:=by unfold jY at hp ⊢;rw[jJ,hV (λz=>nc z.1.symm)]at hp;exact hp
 rcases h with h|⟨h,_⟩
 ·have h2:jY P fi b=true:=dQ h;exact nc (on c b hc hb hp' h2)
 have:=rV.mp h c (by rw[yK];exact mE.mpr hc);exact this hp'
intro c d hc hd pc pd
by_cases e1:c=b
·by_cases e2:d=b
 ·rw[e1,e2]
 exact(other d hd e2 pd).elim
exact(other c hc e1 pc).elim)
theorem qFZ{b:Nat}(on:OneP B P fi):OneP B P (fi.set b 0):=by(
have old:∀c,c<B→jY P (fi.set b 0) c=true→jY P fi c=true:=λc hc hp=>by
 unfold jY at hp ⊢;rw[jJ]at hp;split at hp
 ·simp at hp
 exact hp
exact λc d hc hd pc pd=>on c d hc hd (old c hc pc) (old d hd pd))
theorem qHS{V:Mp}:∀{L:List Nat},L.Nodup→(L.map (cntB P V)).sum≤V.length:=by(
induction V with
|nil=>
 intro L _;have:(L.map (cntB P [])).sum=(L.map λ_=>0).sum:=q0L λb _=>rfl;rw[this];clear this;induction L with
 |nil=>exact kN _
 |cons x L ih=>rename_i h;rw[mJ,dO];have:=ih (mW.mp h).2;lia
|cons x V ih=>
 intro L nd;have e:(L.map (cntB P (x::V))).sum=(L.map (cntB P V)).sum+(L.map λb=>if(λb:Nat=>decide (x.2 / (P:Int)=(b:Int))) b=true then 1 else 0).sum:=by rw[←qD3];refine q0L λb _=>?_;unfold cntB;rw[cK]
 rw[e,qD4 (h:=λ_=>1) nd λa _ b _ ha hb=>by have h1:=mM ha;have h2:=mM hb;lia];have:=ih nd;rw[mB];cases L.find? (λb:Nat=>decide (x.2 / (P:Int)=(b:Int)))with
 |none=>show _ +0≤_;lia
 |some b=>show _ +1≤_;lia)
theorem qG0{L:List Nat}{f:Nat→Nat}{k:Nat}(h:∀b∈L,k≤f b):L.length*k≤(L.map f).sum:=by(
induction L with
|nil=>simp
|cons x L ih=>rw[mB,mJ,dO,cE];have:=ih λb hb=>h b (kB _ hb);have:=h x (by simp);lia)
theorem qB1(on:OneP B P fi)(wr:∀b,b<B→∃f:Nat,fi.getD b 0=(f:Int)∧f≤P)(p1:1≤P)(hl:FreeIs B (noB B) cl fi l)(hp:jP B P (noB B) fi=none):(jX B P (noB B) fi).length+l.length=B:=by(
have h1:l.length=((List.range B).filter λb=>decide (fi.getD b 0=0)).length:=by rw[hl.pm.length_eq];unfold u7;rw[yK]
have h2:jX B P (noB B) fi=(List.range B).filter λb=>!decide (fi.getD b 0=0):=by
 unfold jX;rw[yK];refine pQ λb hb=>?_;obtain⟨f,ef,hf⟩:=wr b (mE.mp hb);have np:=rV.mp hp b (by rw[yK];exact hb);unfold jY at np;rw[ef]at np ⊢;by_cases z:f=0
 ·subst z;rw[hG (show((0:Nat):Int)=0 from rfl),hU (by lia)];rfl
 rw[hU (show ¬(f:Int)=0 by lia)];by_cases y:f<P
 ·exact(np (by rw[hG (show(0:Int)<(f:Int) by lia),hG (show(f:Int)<(P:Int) by lia)];rfl)).elim
 exact hG (by lia)
rw[h1,h2]
have e:∀{L:List Nat} {p:Nat→Bool},(L.filter λb=>!p b).length+(L.filter p).length=L.length:=by
 intro L p;induction L with
 |nil=>rfl
 |cons x L ih=>rw[mV,mV];cases p x<;>simp<;>lia
have:=e (L:=List.range B) (p:=λb=>decide (fi.getD b 0=0))
rw[mQ]at this
exact this)
end
section
variable{q:QM}{m:CM}{l:List Nat}
theorem qG1{b f:Nat}{n:Int}(hf:f<q.P):qFX q (q.nx,b*q.P+f,n)=q.put b f n:=by show({ q with nx:=q.nx }:QM).put ((b*q.P+f) / q.P) ((b*q.P+f)%q.P) n=_;rw[yG hf,rU,cX,cM hf]
theorem QS.put{b f:Nat}{n:Int}(h:QS q)(hb:b<q.B)(hf:f<q.P)(ef:q.fi.getD b 0=(f:Int))(n0:0≤n)(n1:n≤64):QS (q.put b f n):=by(
have ft:Fits q (q.nx,b*q.P+f,n):=by
 refine⟨?_,?_,gO _,n0,n1⟩
 ·show(b*q.P+f) / q.P<q.B;rw[yG hf];exact hb
 show q.fi.getD ((b*q.P+f) / q.P) 0=(((b*q.P+f)%q.P:Nat):Int);rw[yG hf,ef,rU,cX,cM hf]
have:=ft.qs h
rw[qG1 hf]at this
exact this)
theorem uS{b f:Nat}{n:Int}{x:Int×Int}:x∈(q.put b f n).V↔x=(n,((b*q.P+f:Nat):Int))∨(x∈q.V∧x.1≠n):=by show x∈jM q.V n++[(n,((b*q.P+f:Nat):Int))]↔_;rw[gT,jO,hX];exact⟨λh=>h.symm,λh=>h.symm⟩
noncomputable def QM.emptied(q:QM)(b:Nat):QM:={ q with fi:=q.fi.set b 0,bo:=q.bo.set b 0 }
theorem QS.emptied(h:QS q)(b:Nat):QS (q.emptied b):=by(
refine⟨{ h.ok with lf:=by show(q.fi.set b 0).length=q.B;rw[gE];exact h.ok.lf,lo:=by show(q.bo.set b 0).length=q.B;rw[gE];exact h.ok.lo,wr:=λc hc=>?_ },h.lv⟩
show ∃f:Nat,(q.fi.set b 0).getD c 0=(f:Int)∧f≤q.P
rw[jJ]
split
·exact⟨0,rfl,mL _⟩
exact h.ok.wr c hc)
noncomputable def tlOf(m:CM)(q:QM)(b:Nat):Tl:=⟨(b:Int),q.lv.getD b 0,m.cl.getD b 0,q.bo.getD b 0⟩
theorem qG2{f:Tl→Int}{ts:List Tl}(h:ts≠[]):∃T∈ts,pk f ts=T.b∧∀o∈ts,f T≤f o:=by obtain⟨i,hi,hu,hn⟩:=q6N f ts h;exact⟨ts[i],gD hi,qIN hi hu hn,λo ho=>by have:=q60.mp hu o ho;lia⟩
theorem qG3{ie:Nat}(h:QS q)(on:OneP q.B q.P q.fi)(br:m.br=noB q.B)(hl:FreeIs q.B (noB q.B) m.cl q.fi l)(hr:rm q.B q.P q.fi=(1+ie)*q.P)(hv:q.V.length<(q.B-(1+ie))*q.P):
 optN (ie:Int) m q l≠[]∧∀b∈optN (ie:Int) m q l,(∀c∈optN (ie:Int) m q l,q.lv.getD b 0≤q.lv.getD c 0)→cntB q.P q.V b*(q.B-(1+ie))≤q.V.length:=by(
have p1:=h.ok.p1
have ll:jP q.B q.P (noB q.B) q.fi=none∧l.length=1+ie:=by
 rcases q24 on h.ok.wr p1 hl with⟨h1,h2⟩|⟨b,e,h1,e1,e2,h2,_⟩
 ·refine⟨h1,?_⟩;rw[hr]at h2;exact(pL (by lia) h2).symm
 exfalso;rw[hr]at h2;have k:(1+ie)*q.P%q.P=e:=by rw[h2,rU,cX,cM e2]
 rw[xO]at k;lia
have fl:=qB1 on h.ok.wr p1 hl ll.1
have flC:(jX q.B q.P (noB q.B) q.fi).length=q.B-(1+ie):=by lia
have hsp:spcN (ie:Int) l q.P q.fi (jP q.B q.P (noB q.B) q.fi)=(q.P:Int):=by unfold spcN;rw[kF (by lia)]
have ndF:(jX q.B q.P (noB q.B) q.fi).Nodup:=by unfold jX;rw[yK];exact m8 _ sE
have hB:∀b∈jX q.B q.P (noB q.B) q.fi,b<q.B:=λb hb=>by unfold jX at hb;rw[yK]at hb;exact mE.mp (mK.mp hb).1
have memo:∀b,b∈optN (ie:Int) m q l↔b∈jX q.B q.P (noB q.B) q.fi∧cntB q.P q.V b<q.P:=λb=>by
 unfold optN;rw[br,hsp,mK,mK,kP,kP];constructor
 ·rintro⟨⟨a,_⟩,c⟩
  rw[h.lv b (hB b a)]at c;exact⟨a,by lia⟩
 rintro⟨a,c⟩
 rw[h.lv b (hB b a)];exact⟨⟨a,by lia⟩,by lia⟩
have cs:=qHS (P:=q.P) (V:=q.V) ndF
constructor
·intro z;have:(jX q.B q.P (noB q.B) q.fi).length*q.P≤((jX q.B q.P (noB q.B) q.fi).map (cntB q.P q.V)).sum:=qG0 λb hb=>by refine d9 λy=>?_;have:b∈optN (ie:Int) m q l:=(memo b).mpr ⟨hb,by lia⟩;rw[z]at this;cases this
 rw[flC]at this;lia
intro b hb hmin
obtain⟨bF,bP⟩:=(memo b).mp hb
have:(jX q.B q.P (noB q.B) q.fi).length*cntB q.P q.V b≤((jX q.B q.P (noB q.B) q.fi).map (cntB q.P q.V)).sum:=qG0 λc hc=>by
 by_cases y:cntB q.P q.V c<q.P
 ·have:=hmin c ((memo c).mpr ⟨hc,y⟩);rw[h.lv b (hB b bF),h.lv c (hB c hc)]at this;lia
 lia
rw[flC,rU]at this
lia)
end
theorem qKG{V:Mp}(nd:(V.map (·.1)).Nodup):V.length≤((V.map (·.1)).filter λn=>decide (n≠64)).length+1:=by(
have e:∀{L:List Int},L.Nodup→L.length≤(L.filter λn=>decide (n≠64)).length+1:=by
 intro L;induction L with
 |nil=>intro _;exact mL _
 |cons y L ih=>
  intro nd;obtain⟨n1,n2⟩:=mW.mp nd;rw[mV];by_cases z:y=64
  ·rw[hV (by simp[z])];have:L.filter (λn=>decide (n≠64))=L:=rJ.mpr λw hw=>hG λe=>n1 (by rw[z,←e];exact hw);rw[this];exact kN _
  rw[kF (hG z),mB,mB];have:=ih n2;lia
have:=e nd
rw[h9]at this
exact this)
inductive Rl where
|rk (f:Int→Int→Tl→Int)
|win (m:Int)
|fol (row:List Int) (u:Nat)
noncomputable def Rl.Ok:Rl→Prop
| .win m=>1≤m
|_=>True
noncomputable def leL(k:Tl→List Int)(a b:Tl):Bool:=!lx (k b) (k a)
noncomputable def winC(m:Int)(ts:List Tl):List Tl:=((ts.mergeSort (leL λT=>[T.bo,T.b])).take m.toNat).mergeSort (leL Tl.ns)
theorem qG4{k:Tl→List Int}{l:List Tl}:(l.mergeSort (leL k)).Pairwise λa b=>lx (k b) (k a)=false:=by(
have h:=wZ (le:=leL k) (λa b c h1 h2=>?_) (λa b=>?_) l
·exact h.imp fun {a b} z=>by unfold leL at z;rw[g3]at z;exact z
·unfold leL at *;rw[g3]at *;cases z:lx (k c) (k a)with
 |false=>rfl
 |true=>
  cases y:lx (k a) (k b)with
  |false=>rw[q22 _ _ y h1,h2]at z;cases z
  |true=>rw[zK _ _ _ z y]at h2;cases h2
unfold leL
cases z:lx (k b) (k a)with
|false=>rfl
|true=>
 cases y:lx (k a) (k b)with
 |false=>rfl
 |true=>have:=zK _ _ _ z y;rw[q4U]at this;cases this)
theorem qB2{m:Int}{ts A C:List Tl}(un:∀a∈ts,∀c∈ts,a.b=c.b→a=c)(AP:A.Perm ts)(w1:A.Pairwise agR)(CP:C.Perm (A.take m.toNat))(w2:C.Pairwise λx y=>lx (Tl.ns y) (Tl.ns x)=false):C=winC m ts:=by(
have eA:A=ts.mergeSort (leL λT=>[T.bo,T.b]):=pU (le:=agR) (λa b ha hb h1 h2=>by
 have:=q22 _ _ h2 h1;injection this with _ this
 injection this with this _
 exact un a (AP.mem_iff.mp ha) b (wX.mp hb) this) w1 qG4 (AP.trans (wM _ _).symm)
unfold winC
rw[←eA]
exact pU (le:=λx y=>lx (Tl.ns y) (Tl.ns x)=false) (λa b _ _ h1 h2=>Tl.eq_of (q22 _ _ h2 h1)) w2 qG4 (CP.trans (wM _ _).symm))
theorem qD5{m:Int}{ts:List Tl}:∀o∈winC m ts,o∈ts:=λo ho=>wX.mp (wH (wX.mp ho))
theorem qD6{m:Int}{ts:List Tl}(m1:1≤m)(h:ts≠[]):winC m ts≠[]:=λz=>by(
have:=g5 List.length z
unfold winC at this
rw[sY,gH,sY,cW]at this
have:=wO.mpr h
omega)
noncomputable def fo(row:List Int)(u:Nat)(ts:List Tl):Int:=match row[u]? with
|some n=>if n∈ts.map Tl.b then n else(ts.map Tl.b).headD 0
|none=>(ts.map Tl.b).headD 0
noncomputable def Rl.ch:Rl→Int→Int→List Tl→Int×Rl
| .rk f,pg,nw,ts=>(pk (f pg nw) ts,.rk f)
| .win m,_,_,ts=>(pk Tl.lv (winC m ts),.win m)
| .fol row u,_,_,ts=>(fo row u ts,.fol row (min (u+1) row.length))
noncomputable def minF(cl:List Int):List Nat→Option Nat
| []=>none
|b::L=>match minF cl L with
 |none=>some b
 |some c=>if cl.getD c 0<cl.getD b 0 then some c else some b
noncomputable def spF(q:QM)(cl:List Int):Nat:=match(List.range q.B).find? (jY q.P q.fi)with
|some b=>b
|none=>(minF cl ((List.range q.B).filter λb=>decide (q.fi.getD b 0=0))).getD 0
section
variable{B P:Nat}{q:QM}{m:CM}{cl fi:List Int}{l:List Nat}
theorem q4A:∀{L:List Nat},L.Pairwise (· < ·)→(minF cl L=none→L=[])∧∀b,minF cl L=some b→b∈L∧∀c∈L,lx (keyN cl c) (keyN cl b)=false
| [],_=>⟨λ_=>rfl,λb h=>by cases h⟩
|a::L,pw=>by
 obtain⟨p1,p2⟩:=gS.mp pw;obtain⟨h1,h2⟩:=q4A p2;unfold minF;cases z:minF cl L with
 |none=>
  have:=h1 z;subst this;refine⟨λy=>(by cases y),λb h=>?_⟩;injection h with h
  subst h;exact⟨by simp,λc hc=>by rw[hX.mp hc];exact q4U _⟩
 |some c=>
  obtain⟨g1,g2⟩:=h2 c z;have hac:=p1 c g1;dsimp only;by_cases y:cl.getD c 0<cl.getD a 0
  ·rw[kF y];refine⟨λw=>(by cases w),λb h=>?_⟩;injection h with h
   subst h;refine⟨kB _ g1,λd hd=>?_⟩;rcases kJ.mp hd with e|e
   ·subst e;unfold keyN lx;rw[hV (by omega)];exact hU (by omega)
   exact g2 d e
  rw[hV y];refine⟨λw=>(by cases w),λb h=>?_⟩;injection h with h
  subst h;refine⟨by simp,λd hd=>?_⟩;rcases kJ.mp hd with e|e
  ·subst e;exact q4U _
  refine qIQ (b:=keyN cl c) ?_ (g2 d e);unfold keyN lx;by_cases w:cl.getD c 0=cl.getD a 0
  ·rw[kF w];unfold lx;rw[hV (by omega)];exact hU (by omega)
  rw[hV w];exact hU (by omega)
theorem qE2(hl:FreeIs B (noB B) cl fi l):l.head?=minF cl ((List.range B).filter λb=>decide (fi.getD b 0=0)):=by(
have pm:=hl.pm
unfold u7 at pm
rw[yK]at pm
have pw:((List.range B).filter λb=>decide (fi.getD b 0=0)).Pairwise (· < ·):=m8 _ gZ
obtain⟨h1,h2⟩:=q4A (cl:=cl) pw
cases l with
|nil=>rw[pT.mp pm];rfl
|cons a r=>
 cases z:minF cl ((List.range B).filter λb=>decide (fi.getD b 0=0))with
 |none=>rw[h1 z]at pm;have:=pm.length_eq;cases this
 |some b=>
  obtain⟨g1,g2⟩:=h2 b z;have so:=hl.so;rw[mJ]at so;have so:=(gS.mp so).1;have hb:=pm.mem_iff.mpr g1;have e:a=b:=by
   rcases kJ.mp hb with e|e
   ·exact e.symm
   exact qHK (q22 _ _ (g2 a (pm.mem_iff.mp (by simp))) (so _ (kY.mpr ⟨b,e,rfl⟩)))
  rw[e];rfl)
theorem qKH(on:OneP q.B q.P q.fi)(wr:∀b,b<q.B→∃f:Nat,q.fi.getD b 0=(f:Int)∧f≤q.P)(p1:1≤q.P)(hl:FreeIs q.B (noB q.B) cl q.fi l)(h:0<rm q.B q.P q.fi):q1N q.B q.P (noB q.B) q.fi l=some (spF q cl):=by(
obtain⟨b,hb,_⟩:=q8O on wr p1 hl h
rw[hb]
unfold q1N jP at hb
unfold spF
rw[yK]at hb
cases z:(List.range q.B).find? (jY q.P q.fi)with
|some c=>rw[z]at hb;exact hb.symm
|none=>rw[z]at hb;rw[←qE2 hl];have hb:l.head?=some b:=hb;rw[hb];rfl)
noncomputable def lvP(P b:Nat)(V:Mp):List (List Int):=(List.range P).filterMap λf=>(V.find? λy=>decide (y.2=((b*P+f:Nat):Int))).map λy=>[y.2,y.1]
theorem q4B{P b:Nat}{V:Mp}(hP:1≤P)(pd:(V.map (·.2)).Nodup){k:List Int}:k∈lvP P b V↔∃y∈V,y.2 / (P:Int)=(b:Int)∧k=[y.2,y.1]:=by(
unfold lvP
rw[rR]
constructor
·rintro⟨f,hf,e⟩
 have hf:=mE.mp hf;cases z:V.find? λy=>decide (y.2=((b*P+f:Nat):Int))with
 |none=>rw[z]at e;cases e
 |some y=>
  rw[z]at e;have e1:=d8 z;have e2:y.2=((b*P+f:Nat):Int):=by simpa using dQ z
  refine⟨y,e1,?_,(kL e).symm⟩;rw[e2,←d3,yG hf]
rintro⟨y,hy,hb,rfl⟩
have h0:0≤y.2:=by refine d9 λz=>?_;have:=Int.ediv_neg_of_neg_of_pos (a:=y.2) (b:=(P:Int)) (by omega) (by omega);omega
have e:=Int.mul_ediv_add_emod y.2 (P:Int)
have m0:=xZ y.2 (show(P:Int)≠0 by omega)
have m1:=lI y.2 (show(0:Int)<(P:Int) by omega)
refine⟨(y.2%(P:Int)).toNat,mE.mpr (by omega),?_⟩
have ey:y.2=((b*P+(y.2%(P:Int)).toNat:Nat):Int):=by rw[aG,dE,←hb,Int.mul_comm];omega
cases z:V.find? λw=>decide (w.2=((b*P+(y.2%(P:Int)).toNat:Nat):Int))with
|none=>exact absurd (hG ey) (rV.mp z y hy)
|some w=>
 have e1:=d8 z;have e2:w.2=((b*P+(y.2%(P:Int)).toNat:Nat):Int):=by simpa using dQ z
 have:w=y:=by
  clear z;induction V with
  |nil=>cases e1
  |cons v V ih=>
   rw[mJ]at pd;obtain⟨n1,n2⟩:=mW.mp pd;rcases kJ.mp e1 with a|a<;>rcases kJ.mp hy with c|c
   ·rw[a,c]
   ·exact(n1 (by rw[←a,e2,←ey];exact kY.mpr ⟨y,c,rfl⟩)).elim
   ·exact(n1 (by rw[←c,ey,←e2];exact kY.mpr ⟨w,a,rfl⟩)).elim
   exact ih n2 c a
 rw[this];rfl)
theorem qC2{P b:Nat}{V:Mp}:(lvP P b V).Pairwise λa c=>lx c a=false∧a≠c:=by(
unfold lvP
refine List.pairwise_filterMap.mpr (gZ.imp fun {f g} hfg k hk k' hk'=>?_)
cases z:V.find? λy=>decide (y.2=((b*P+f:Nat):Int))with
|none=>rw[z]at hk;cases hk
|some y=>
 cases z':V.find? λy=>decide (y.2=((b*P+g:Nat):Int))with
 |none=>rw[z']at hk';cases hk'
 |some y'=>
  rw[z]at hk;rw[z']at hk';have e2:y.2=((b*P+f:Nat):Int):=by simpa using dQ z
  have e3:y'.2=((b*P+g:Nat):Int):=by simpa using dQ z'
  obtain rfl:[y.2,y.1]=k:=kL hk;obtain rfl:[y'.2,y'.1]=k':=kL hk';refine⟨?_,λw=>?_⟩
  ·unfold lx;rw[hV (by omega)];exact hU (by omega)
  injection w with w _
  omega)
theorem qHT{P b:Nat}{V:Mp}{rs:List (List Int)}(hP:1≤P)(pd:(V.map (·.2)).Nodup)(nd:rs.Nodup)(mm:∀k,k∈rs↔∃n p,k=[p,n]∧(n,p)∈V∧p / (P:Int)=(b:Int))(so:rs.Pairwise λa b=>lx b a=false):rs=lvP P b V:=by(
refine qFQ (q13 nd (qC2.imp λz=>z.2) λk=>?_) so (qC2.imp λz=>z.1)
rw[mm,q4B hP pd]
constructor
·rintro⟨n,p,rfl,h1,h2⟩
 exact⟨(n,p),h1,h2,rfl⟩
rintro⟨y,h1,h2,rfl⟩
exact⟨y.1,y.2,rfl,h1,h2⟩)
end
structure XS where
q:QM
cl:List Int
pg:Nat→Option (Int×Int)
lf:Option Int
rc:List (Str×Int×Bool)
structure Tm where
ie:Nat
sp:Int
ev:Bool
noncomputable def mnL:List Int→Option Int
| []=>none
|a::l=>match mnL l with
 |none=>some a
 |some m=>some (if a≤m then a else m)
theorem qC3:∀{l:List Int},l≠[]→∃m,mnL l=some m∧m∈l∧∀a∈l,m≤a
| [],h=>absurd rfl h
| [a],_=>⟨a,rfl,by simp,λb hb=>by rw[hX.mp hb];exact gO _⟩
|a::b::l,_=>by
 obtain⟨m,e,h1,h2⟩:=qC3 (l:=b::l) (by simp);unfold mnL;rw[e];by_cases z:a≤m
 ·refine⟨a,by dsimp only;rw[kF z],by simp,λc hc=>?_⟩;rcases kJ.mp hc with e|hc
  ·rw[e];exact gO _
  exact c8 z (h2 c hc)
 refine⟨m,by dsimp only;rw[hV z],kB _ h1,λc hc=>?_⟩;rcases kJ.mp hc with e|hc
 ·rw[e];lia
 exact h2 c hc
namespace XS
variable(s:XS)
noncomputable def pb:Nat:=spF s.q s.cl
noncomputable def pf:Nat:=(s.q.fi.getD s.pb 0).toNat
noncomputable def np:Nat:=s.pb*s.q.P+s.pf
noncomputable def put(n v:Int):XS:=⟨s.q.put s.pb s.pf n,s.cl,λi=>if i=s.np then some (s.q.nx*128+n,v)else s.pg i,s.lf.map (· - 1),s.rc++[(Str.ofString "put",(s.np:Int),true)]⟩
noncomputable def wip(b:Nat):XS:=⟨s.q.emptied b,s.cl.set b (s.cl.getD b 0+1),λi=>if i / s.q.P=b then none else s.pg i,s.lf.map (· - 1),s.rc++[(Str.ofString "wipe",(b:Int),true)]⟩
noncomputable def rmX:Nat:=rm s.q.B s.q.P s.q.fi
noncomputable def hl:List Int:=((s.q.V.map (·.1)).filter λn=>decide (n≠64)).mergeSort λa b=>decide (a≤b)
noncomputable def bits(ns:List Int):Int:=((orB (ns.map Int.toNat) 0:Nat):Int)
noncomputable def val(p n:Int):Int:=if n=64 then bits s.hl else((s.pg p.toNat).getD (0,0)).2
noncomputable def mvs:List (List Int)→XS→XS×Option (List (List Int))
| [],s=>(s,some [])
|k::r,s=>if s.lf=some 0 then(s,none)else
 match mvs r (s.put (k.getD 1 0) (s.val (k.getD 0 0) (k.getD 1 0)))with
 |(s',none)=>(s',none)
 |(s',some ms)=>(s',some ([k.getD 1 0,k.getD 0 0,(s.np:Int)]::ms))
noncomputable def spc(k:Tm):Int:=if(1+k.ie)*s.q.P≤s.rmX then(s.q.P:Int)else(s.rmX:Int)-(k.ie*s.q.P:Nat)
noncomputable def ful(k:Tm):List Nat:=(List.range s.q.B).filter λb=>decide (s.q.fi.getD b 0=(s.q.P:Int))&&decide (s.q.lv.getD b 0≤s.spc k)
noncomputable def ded(k:Tm):List Nat:=(s.ful k).filter λb=>decide (s.q.lv.getD b 0<(s.q.P:Int))
noncomputable def lst:Int:=(mnL s.cl).getD 0
noncomputable def clb(k:Tm)(L:List Nat):List Nat:=L.filter λb=>decide (s.cl.getD b 0<s.lst+k.sp)
noncomputable def opt(k:Tm):List Nat:=if k.ev then s.clb k (s.ded k)else s.ded k
noncomputable def tl(b:Nat):Tl:=⟨(b:Int),s.q.lv.getD b 0,s.cl.getD b 0,s.q.bo.getD b 0⟩
noncomputable def ots(k:Tm):List Tl:=(s.opt k).map s.tl
noncomputable def chg(k:Tm):Option Nat:=minF s.cl (s.clb k (s.ful k))
noncomputable def rd(k:Tm):Bool:=decide ((1+k.ie)*s.q.P<s.rmX)
noncomputable def tk(k:Tm)(g:Rl):Option (Str×Nat×Rl):=if s.opt k=[]then(if k.ev then(s.chg k).map λb=>("even",b,g)else none)
 else some ("rule",(g.ch (s.q.P:Int) s.q.nx (s.ots k)).1.toNat,(g.ch (s.q.P:Int) s.q.nx (s.ots k)).2)
end XS
inductive Rf where
|dark|room
structure Pa where
why:Str
ts:List Tl
b:Nat
mv:List (List Int)
structure Sx where
s:XS
g:Rl
ps:List Pa
namespace Sx
noncomputable def room(k:Tm)(X:Sx):Sx×Except Rf Pa:=match X.s.tk k X.g with
|none=>(X,.error .room)
|some (y,b,g)=>match XS.mvs (lvP X.s.q.P b X.s.q.V) X.s with
 |(s,none)=>(⟨s,g,X.ps⟩,.error .dark)
 |(s,some ms)=>if s.lf=some 0 then(⟨s,g,X.ps⟩,.error .dark)else(⟨s.wip b,g,X.ps++[⟨y,X.s.ots k,b,ms⟩]⟩,.ok ⟨y,X.s.ots k,b,ms⟩)
noncomputable def rooms(k:Tm):Nat→Sx→Option (Sx×Except Rf Unit)
|0,X=>if X.s.rd k then some (X,.ok ())else none
|i+1,X=>if X.s.rd k then some (X,.ok ())else match X.room k with
 |(Y,.error e)=>some (Y,.error e)
 |(Y,.ok _)=>rooms k i Y
noncomputable def ask(k:Tm)(i:Nat)(X:Sx)(n v:Int):Option (Sx×Except Rf Nat):=match X.rooms k i with
|none=>none
|some (Y,.error e)=>some (Y,.error e)
|some (Y,.ok _)=>if Y.s.lf=some 0 then some (Y,.error .dark)else some (⟨Y.s.put n v,Y.g,Y.ps⟩,.ok Y.s.np)
end Sx
structure WX(k:Tm)(s:XS):Prop where
qs:QS s.q
on:OneP s.q.B s.q.P s.q.fi
lc:s.cl.length=s.q.B
cr:∀b f:Nat,b<s.q.B→s.q.fi.getD b 0≤(f:Int)→f<s.q.P→s.pg (b*s.q.P+f)=none
vl:∀y∈s.q.V,∃b f:Nat,∃v:Int×Int,b<s.q.B∧f<s.q.P∧y.2=((b*s.q.P+f:Nat):Int)∧(f:Int)<s.q.fi.getD b 0∧s.pg (b*s.q.P+f)=some v
pd:(s.q.V.map (·.2)).Nodup
c0:∀b,0≤s.cl.getD b 0∧s.cl.getD b 0≤(s.rc.length:Int)
bo:∀b,0≤s.q.bo.getD b 0∧s.q.bo.getD b 0<s.q.nx
nx:1≤s.q.nx
sl:k.ie*s.q.P≤s.rmX
l6:s.q.V.length<60
l0:∀i,s.lf=some i→0≤i
theorem q9G{P b f c g:Nat}(hf:f<P)(hg:g<P)(e:b*P+f=c*P+g):b=c∧f=g:=by(
have h1:=yG (b:=b) hf
have h2:=yG (b:=c) hg
rw[e,h2]at h1
subst h1
exact⟨rfl,by lia⟩)
theorem q4C{V:Mp}{n:Int}(nd:(V.map (·.1)).Nodup):(jM V n).length≤V.length∧∀p,(n,p)∈V→(jM V n).length+1=V.length:=by(
refine⟨mH _ _,λp h=>?_⟩
induction V with
|nil=>exact absurd h (by simp)
|cons y V ih=>
 rw[mJ]at nd;obtain⟨n1,n2⟩:=mW.mp nd;unfold jM;rw[mV];rcases kJ.mp h with e|h
 ·subst e;rw[hV (by simp),mB];have:V.filter (λq=>decide (q.1≠n))=V:=rJ.mpr λz hz=>hG λe=>n1 (kY.mpr ⟨z,hz,e⟩);rw[this]
 have ne:y.1≠n:=λe=>n1 (kY.mpr ⟨_,h,e.symm⟩);rw[kF (hG ne),mB,mB];have:=ih n2 h;unfold jM at this;lia)
section
variable{k:Tm}{s:XS}
theorem WX.spot(h:WX k s)(hr:0<s.rmX):s.pb<s.q.B∧s.pf<s.q.P∧s.q.fi.getD s.pb 0=(s.pf:Int)∧((jP s.q.B s.q.P (noB s.q.B) s.q.fi=some s.pb)∨(jP s.q.B s.q.P (noB s.q.B) s.q.fi=none∧s.q.fi.getD s.pb 0=0))∧∀l,FreeIs s.q.B (noB s.q.B) s.cl s.q.fi l→q1N s.q.B s.q.P (noB s.q.B) s.q.fi l=some s.pb:=by(
have p1:=h.qs.ok.p1
have sp:∀l,FreeIs s.q.B (noB s.q.B) s.cl s.q.fi l→q1N s.q.B s.q.P (noB s.q.B) s.q.fi l=some s.pb:=λl hl=>qKH h.on h.qs.ok.wr p1 hl hr
obtain⟨l,hl⟩:=FreeIs.ex s.q.B (noB s.q.B) s.cl s.q.fi
have hsp:=sp l hl
obtain⟨b,hb,hc⟩:=q8O h.on h.qs.ok.wr p1 hl hr
rw[hsp]at hb
obtain rfl:=kL hb
obtain⟨hB,_,f0,f1⟩:=qAZ hl p1 hsp
have:(s.pf:Int)=s.q.fi.getD s.pb 0:=by unfold XS.pf;lia
exact⟨hB,by lia,this.symm,hc,sp⟩)
theorem qC4{b f:Nat}{n:Int}{q:QM}(lf:q.fi.length=q.B)(hb:b<q.B)(ef:q.fi.getD b 0=(f:Int))(c:Nat):(q.put b f n).fi.getD c 0=if b=c then(f:Int)+1 else q.fi.getD c 0:=by(
show(q.fi.set b (q.fi.getD b 0+1)).getD c 0=_
rw[ef,jJ,lf]
by_cases e:b=c
·rw[kF ⟨e,hb⟩,kF e]
rw[hV (λz=>e z.1),hV e])
theorem WX.put(h:WX k s){n v:Int}(hr:k.ie*s.q.P<s.rmX)(n0:0≤n)(n1:n≤64)(hl:(∃p,(n,p)∈s.q.V)∨s.q.V.length<59)(dk:s.lf≠some 0):WX k (s.put n v)∧(s.put n v).rmX+1=s.rmX:=by(
obtain⟨hb,hf,ef,sp,_⟩:=h.spot (by lia)
have okq:=h.qs.ok
have gfi:∀c,(s.put n v).q.fi.getD c 0=if s.pb=c then(s.pf:Int)+1 else s.q.fi.getD c 0:=qC4 okq.lf hb ef
have rm1:(s.put n v).rmX+1=s.rmX:=qKF hb okq.lf ef hf
refine⟨⟨h.qs.put hb hf ef n0 n1,qHR h.on hb okq.lf sp,h.lc,λc g hc hg hgP=>?_,λy hy=>?_,?_,λc=>?_,λc=>?_,?_,?_,?_,λi e=>?_⟩,rm1⟩
·have hgP:g<s.q.P:=hgP;rw[gfi]at hg;show(if c*s.q.P+g=s.np then some (s.q.nx*128+n,v)else s.pg (c*s.q.P+g))=none;by_cases e:s.pb=c
 ·subst e;rw[kF rfl]at hg;rw[hV (by unfold XS.np;lia)];exact h.cr _ g hc (by lia) hgP
 rw[hV e]at hg;rw[hV (λ(z:c*s.q.P+g=s.np)=>e (q9G hgP hf z).1.symm)];exact h.cr c g hc hg hgP
·rcases uS.mp hy with e|⟨hy,hne⟩
 ·rw[e];refine⟨s.pb,s.pf,_,hb,hf,rfl,?_,kF rfl⟩;rw[gfi,kF rfl];lia
 obtain⟨c,g,w,a1,a2,a3,a4,a5⟩:=h.vl y hy;refine⟨c,g,w,a1,a2,a3,?_,?_⟩
 ·rw[gfi];by_cases e:s.pb=c
  ·subst e;rw[kF rfl];lia
  rw[hV e];exact a4
 show(if c*s.q.P+g=s.np then some (s.q.nx*128+n,v)else s.pg (c*s.q.P+g))=some w;rw[hV (λ(z:c*s.q.P+g=s.np)=>?_)]
 ·exact a5
 obtain⟨e1,e2⟩:=q9G a2 hf z;rw[e1,ef]at a4;lia
·show((jM s.q.V n++[(n,((s.pb*s.q.P+s.pf:Nat):Int))]).map (·.2)).Nodup;rw[mR];refine wB.mpr ⟨?_,by simp,λa ha c hc=>?_⟩
 ·exact sZ (List.Sublist.map _ nZ) h.pd
 obtain⟨y,hy,rfl⟩:=kY.mp ha;have hc:c=((s.pb*s.q.P+s.pf:Nat):Int):=by simpa using hc
 rw[hc];intro z;obtain⟨c',g,w,a1,a2,a3,a4,a5⟩:=h.vl y (jO.mp hy).1;rw[a3]at z;obtain⟨e1,e2⟩:=q9G a2 hf (by exact Int.ofNat.inj z);rw[e1,ef]at a4;lia
·show 0≤s.cl.getD c 0∧s.cl.getD c 0≤((s.rc++[_]).length:Int);have:=h.c0 c;rw[kO,mU];lia
·show 0≤(if s.q.fi.getD s.pb 0=0 then s.q.bo.set s.pb s.q.nx else s.q.bo).getD c 0∧(if s.q.fi.getD s.pb 0=0 then s.q.bo.set s.pb s.q.nx else s.q.bo).getD c 0<s.q.nx+1;have:=h.bo c;have:=h.nx;split
 ·rw[jJ];split<;>lia
 lia
·show 1≤s.q.nx+1;have:=h.nx;lia
·show k.ie*s.q.P≤(s.put n v).rmX;lia
·show(jM s.q.V n++[_]).length<60;rw[kO,mU];obtain⟨d1,d2⟩:=q4C (V:=s.q.V) (n:=n) okq.nd;have:=h.l6;rcases hl with⟨p,hp⟩|hl
 ·have:=d2 p hp;lia
 lia
have e:s.lf.map (· - 1)=some i:=e
cases z:s.lf with
|none=>rw[z]at e;cases e
|some j=>rw[z]at e;have e:j-1=i:=kL e;have:=h.l0 j z;have:j≠0:=λy=>dk (by rw[z,y]);lia)
theorem WX.wip(h:WX k s){b:Nat}(hb:b<s.q.B)(ef:s.q.fi.getD b 0=(s.q.P:Int))(nl:∀y∈s.q.V,¬y.2 / (s.q.P:Int)=(b:Int))(dk:s.lf≠some 0):WX k (s.wip b)∧(s.wip b).rmX=s.rmX+s.q.P:=by(
have okq:=h.qs.ok
have rm1:(s.wip b).rmX=s.rmX+s.q.P:=qHQ hb okq.lf ef
have gfi:∀c,(s.wip b).q.fi.getD c 0=if b=c then 0 else s.q.fi.getD c 0:=λc=>by
 show(s.q.fi.set b 0).getD c 0=_;rw[jJ,okq.lf];by_cases e:b=c
 ·rw[kF ⟨e,hb⟩,kF e]
 rw[hV (λz=>e z.1),hV e]
refine⟨⟨h.qs.emptied b,qFZ h.on,?_,λc g hc hg hgP=>?_,λy hy=>?_,h.pd,λc=>?_,λc=>?_,h.nx,?_,h.l6,λi e=>?_⟩,rm1⟩
·show(s.cl.set _ _).length=_;rw[gE];exact h.lc
·show(if(c*s.q.P+g) / s.q.P=b then none else s.pg (c*s.q.P+g))=none;have hgP:g<s.q.P:=hgP;rw[yG hgP];by_cases e:c=b
 ·rw[kF e]
 rw[hV e];rw[gfi,hV (λz=>e z.symm)]at hg;exact h.cr c g hc hg hgP
·obtain⟨c,g,w,a1,a2,a3,a4,a5⟩:=h.vl y hy;have cb:c≠b:=λz=>nl _ hy (by rw[a3,←d3,yG a2,z]);refine⟨c,g,w,a1,a2,a3,?_,?_⟩
 ·rw[gfi,hV (λz=>cb z.symm)];exact a4
 show(if(c*s.q.P+g) / s.q.P=b then none else s.pg (c*s.q.P+g))=_;rw[yG a2,hV cb];exact a5
·show 0≤(s.cl.set b (s.cl.getD b 0+1)).getD c 0∧(s.cl.set b (s.cl.getD b 0+1)).getD c 0≤((s.rc++[_]).length:Int);have h1:=h.c0 c;have h2:=h.c0 b;rw[kO,mU,jJ];split<;>lia
·show 0≤(s.q.bo.set b 0).getD c 0∧(s.q.bo.set b 0).getD c 0<s.q.nx;have h1:=h.bo c;have h2:=h.nx;rw[jJ];split<;>lia
·show k.ie*s.q.P≤(s.wip b).rmX;have:=h.sl;lia
have e:s.lf.map (· - 1)=some i:=e
cases z:s.lf with
|none=>rw[z]at e;cases e
|some j=>rw[z]at e;have e:j-1=i:=kL e;have:=h.l0 j z;have:j≠0:=λy=>dk (by rw[z,y]);lia)
end
theorem qG5{V:Mp}{n p p':Int}(nd:(V.map (·.1)).Nodup)(h:(n,p)∈V)(h':(n,p')∈V):p=p':=by(
induction V with
|nil=>exact absurd h (by simp)
|cons y V ih=>
 rw[mJ]at nd;obtain⟨n1,n2⟩:=mW.mp nd;rcases kJ.mp h with e|h<;>rcases kJ.mp h' with e'|h'
 ·rw[←e]at e';injection e' with _ e'
  exact e'.symm
 ·exact(n1 (kY.mpr ⟨_,h',by rw[←e]⟩)).elim
 ·exact(n1 (kY.mpr ⟨_,h,by rw[←e']⟩)).elim
 exact ih n2 h h')
theorem q6W{P b:Nat}{V:Mp}:(lvP P b V).Nodup:=qC2.imp λz=>z.2
theorem q4D{q:QM}{b:Nat}(h:QS q)(pd:(q.V.map (·.2)).Nodup)(hb:b<q.B):((lvP q.P b q.V).length:Int)=q.lv.getD b 0:=by(
rw[h.lv b hb]
have nd:=h.ok.nd
have:(lvP q.P b q.V).Perm ((q.V.filter λy=>decide (y.2 / (q.P:Int)=(b:Int))).map λy=>[y.2,y.1]):=q13 q6W (gF.mpr (((gF.mp nd).imp fun {a c} hne z=>hne (by
 injection z with _ z
 injection z with z _)).filter _)) λk=>by
 rw[q4B h.ok.p1 pd,kY];constructor
 ·rintro⟨y,h1,h2,rfl⟩
  exact⟨y,mK.mpr ⟨h1,hG h2⟩,rfl⟩
 rintro⟨y,hy,rfl⟩
 obtain⟨a1,a2⟩:=mK.mp hy;exact⟨y,a1,mM a2,rfl⟩
rw[this.length_eq,h9]
unfold cntB
rw[rZ])
structure MvI(k:Tm)(s0:XS)(b:Nat)(rs:List (List Int))(i:Nat)(s:XS)(ms:List (List Int)):Prop where
w:WX k s
e:XS.mvs rs s0=(match XS.mvs (rs.drop i) s with|(s',none)=>(s',none)|(s',some m)=>(s',some (ms++m)))
l:ms.length=i
rc:s.rc.length=s0.rc.length+i
rm:s.rmX+i=s0.rmX
eB:s.q.B=s0.q.B
eP:s.q.P=s0.q.P
ec:s.cl=s0.cl
fb:s.q.fi.getD b 0=(s0.q.P:Int)
fm:∀c,s0.q.fi.getD c 0≤s.q.fi.getD c 0∧(s0.q.fi.getD c 0=(s0.q.P:Int)→s.q.fi.getD c 0=(s0.q.P:Int))
nm:∀n,(∃p,(n,p)∈s.q.V)↔∃p,(n,p)∈s0.q.V
dr:∀kk∈rs.drop i,∃n p,kk=[p,n]∧(n,p)∈s.q.V∧p / (s0.q.P:Int)=(b:Int)
dl:∀y∈s.q.V,y.2 / (s0.q.P:Int)=(b:Int)→[y.2,y.1]∈rs.drop i
lV:s.q.V.length=s0.q.V.length
section
variable{k:Tm}{s0 s:XS}{b i:Nat}{ms:List (List Int)}
theorem MvI.zero(w:WX k s0)(fb:s0.q.fi.getD b 0=(s0.q.P:Int)):MvI k s0 b (lvP s0.q.P b s0.q.V) 0 s0 []:=by(
refine⟨w,?_,rfl,rfl,rfl,rfl,rfl,rfl,fb,λc=>⟨gO _,λz=>z⟩,λn=>a9,λkk hk=>?_,λy hy hb=>(q4B w.qs.ok.p1 w.pd).mpr ⟨y,hy,hb,rfl⟩,rfl⟩
·rw[aM];cases XS.mvs (lvP s0.q.P b s0.q.V) s0 with
 |mk s' o=>cases o<;>rfl
obtain⟨y,hy,hb,rfl⟩:=(q4B w.qs.ok.p1 w.pd).mp hk
exact⟨y.1,y.2,rfl,hy,hb⟩)
variable{rs:List (List Int)}
theorem MvI.at(h:MvI k s0 b rs i s ms)(hi:i<rs.length):∃n p,rs[i]=[p,n]∧(n,p)∈s.q.V∧0≤n∧n≤64:=by obtain⟨n,p,e1,e2,_⟩:=h.dr rs[i] (by rw[dH hi];exact kQ);have:=h.w.qs.ok.nm _ e2;exact⟨n,p,e1,e2,this.1,this.2⟩
theorem MvI.dark(h:MvI k s0 b rs i s ms)(hi:i<rs.length)(dk:s.lf=some 0):XS.mvs rs s0=(s,none):=by rw[h.e,dH hi];unfold XS.mvs;rw[kF dk]
theorem MvI.fin(h:MvI k s0 b rs i s ms)(hi:i=rs.length):XS.mvs rs s0=(s,some ms)∧∀y∈s.q.V,¬y.2 / (s.q.P:Int)=(b:Int):=by(
subst hi
refine⟨?_,λy hy z=>?_⟩
·rw[h.e,xP];show(s,some (ms++[]))=_;rw[dB]
have:=h.dl y hy (by rw[←h.eP];exact z)
rw[xP]at this
cases this)
theorem MvI.step(h:MvI k s0 b rs i s ms)(nd:rs.Nodup)(hi:i<rs.length)(hr:k.ie*s0.q.P+rs.length≤s0.rmX)(dk:s.lf≠some 0){n p:Int}(er:rs[i]=[p,n]):
 MvI k s0 b rs (i+1) (s.put n (s.val p n)) (ms++[[n,p,(s.np:Int)]]):=by(
have dre:rs.drop i=[p,n]::rs.drop (i+1):=by rw[dH hi,er]
obtain⟨n',p',e0,hnp,hpb⟩:=h.dr [p,n] (by rw[dre];simp)
obtain⟨rfl,rfl⟩:p=p'∧n=n':=by
 injection e0 with e1 e0
 injection e0 with e2 _
 exact⟨e1,e2⟩
have nb:=h.w.qs.ok.nm _ hnp
have rmE:=h.rm
have hP:=h.eP
have slk:k.ie*s.q.P<s.rmX:=by rw[hP];lia
obtain⟨w',rm'⟩:=h.w.put (n:=n) (v:=s.val p n) slk nb.1 nb.2 (.inl ⟨p,hnp⟩) dk
obtain⟨hb,hf,ef,_,_⟩:=h.w.spot (by lia)
have gfi:∀c,(s.put n (s.val p n)).q.fi.getD c 0=if s.pb=c then(s.pf:Int)+1 else s.q.fi.getD c 0:=qC4 h.w.qs.ok.lf hb ef
have cb:s.pb≠b:=λz=>by rw[z,h.fb,←hP]at ef;lia
have newp:((s.np:Nat):Int) / (s0.q.P:Int)=(s.pb:Int):=by rw[←hP];unfold XS.np;rw[←d3,yG hf]
refine⟨w',?_,?_,?_,by lia,h.eB,h.eP,h.ec,?_,λc=>?_,λm=>?_,λkq hkq=>?_,λy hy hyb=>?_,?_⟩
·rw[h.e,dre];rw[XS.mvs,hV dk];show(match(match XS.mvs (rs.drop (i+1)) (s.put n (s.val p n))with|(s',none)=>(s',none)|(s',some m)=>(s',some ([n,p,(s.np:Int)]::m)))with|(s',none)=>(s',none)|(s',some m)=>(s',some (ms++m)))=_;cases XS.mvs (rs.drop (i+1)) (s.put n (s.val p n))with
 |mk s' o=>
  cases o with
  |none=>rfl
  |some m=>show(s',some (ms++([n,p,(s.np:Int)]::m)))=(s',some ((ms++[[n,p,(s.np:Int)]])++m));rw[cD];rfl
·rw[kO,h.l];rfl
·show(s.rc++[_]).length=_;rw[kO,h.rc];rfl
·rw[gfi,hV cb];exact h.fb
·obtain⟨m1,m2⟩:=h.fm c;rw[gfi];by_cases e:s.pb=c
 ·subst e;rw[kF rfl];refine⟨by lia,λz=>?_⟩;have:=m2 z;rw[ef,←hP]at this;lia
 rw[hV e];exact⟨m1,m2⟩
·rw[←h.nm m];constructor
 ·rintro⟨p1,h1⟩
  rcases uS.mp h1 with e|⟨h1,_⟩
  ·cases e;exact⟨p,hnp⟩
  exact⟨p1,h1⟩
 rintro⟨p1,h1⟩
 by_cases e:m=n
 ·exact⟨_,uS.mpr (.inl (by rw[e]))⟩
 exact⟨p1,uS.mpr (.inr ⟨h1,e⟩)⟩
·have hkq':kq∈rs.drop i:=by rw[dre];exact kB _ hkq
 obtain⟨n',p',rfl,h',hb'⟩:=h.dr kq hkq';refine⟨n',p',rfl,uS.mpr (.inr ⟨h',λe=>?_⟩),hb'⟩;have e:n'=n:=e;subst e;have:=qG5 h.w.qs.ok.nd h' hnp;subst this;have nn:=nd;rw[←nB i rs,dre]at nn;have:=(wB.mp nn).2.1;exact(mW.mp this).1 hkq
·rcases uS.mp hy with e|⟨hy,hne⟩
 ·rw[e]at hyb;have hyb:((s.np:Nat):Int) / (s0.q.P:Int)=(b:Int):=hyb;rw[newp]at hyb;exact(cb (by lia)).elim
 have:=h.dl y hy hyb;rw[dre]at this;rcases kJ.mp this with e|e
 ·injection e with _ e
  injection e with e _
  exact(hne e).elim
 exact e
show(jM s.q.V n++[_]).length=_
rw[kO,mU,(q4C (V:=s.q.V) (n:=n) h.w.qs.ok.nd).2 p hnp]
exact h.lV)
structure Mvd(k:Tm)(s0:XS)(b:Nat)(s:XS)(n:Nat):Prop where
w:WX k s
rc:s.rc.length=s0.rc.length+n
rm:s.rmX+n=s0.rmX
eB:s.q.B=s0.q.B
eP:s.q.P=s0.q.P
ec:s.cl=s0.cl
fb:s.q.fi.getD b 0=(s0.q.P:Int)
fm:∀c,s0.q.fi.getD c 0≤s.q.fi.getD c 0∧(s0.q.fi.getD c 0=(s0.q.P:Int)→s.q.fi.getD c 0=(s0.q.P:Int))
nm:∀n,(∃p,(n,p)∈s.q.V)↔∃p,(n,p)∈s0.q.V
lV:s.q.V.length=s0.q.V.length
lb:b<s0.q.B→s.q.lv.getD b 0+n=(lvP s0.q.P b s0.q.V).length
theorem MvI.mvd(h:MvI k s0 b (lvP s0.q.P b s0.q.V) i s ms)(hi:i≤(lvP s0.q.P b s0.q.V).length):Mvd k s0 b s i:=by(
refine⟨h.w,h.rc,h.rm,h.eB,h.eP,h.ec,h.fb,h.fm,h.nm,h.lV,λhb=>?_⟩
rw[←q4D h.w.qs h.w.pd (by rw[h.eB];exact hb)]
have:(lvP s.q.P b s.q.V).Perm ((lvP s0.q.P b s0.q.V).drop i):=q13 q6W (sZ (List.drop_sublist _ _) q6W) λk=>by
 rw[q4B h.w.qs.ok.p1 h.w.pd,h.eP];constructor
 ·rintro⟨y,h1,h2,rfl⟩
  exact h.dl y h1 h2
 intro hk;obtain⟨n,p,rfl,h1,h2⟩:=h.dr k hk;exact⟨_,h1,h2,rfl⟩
rw[this.length_eq,pW]
lia)
end
section
variable{k:Tm}{s:XS}{l:List Nat}{m:CM}
theorem qKI(h:WX k s)(hl:FreeIs s.q.B (noB s.q.B) s.cl s.q.fi l):spcN (k.ie:Int) l s.q.P s.q.fi (jP s.q.B s.q.P (noB s.q.B) s.q.fi)=s.spc k:=by(
have p1:=h.qs.ok.p1
have sl:=h.sl
unfold spcN XS.spc
unfold XS.rmX at sl ⊢
rcases q24 h.on h.qs.ok.wr p1 hl with⟨h1,h2⟩|⟨b,e,h1,e1,e2,h2,e3⟩
·rw[h2]at sl;rw[h1,h2];by_cases z:1+k.ie≤l.length
 ·rw[kF (by lia),kF (gY _ z)]
 have le:l.length=k.ie:=by
  have:¬l.length<k.ie:=λy=>by have:=gY s.q.P (show l.length+1≤k.ie by lia);rw[dY,dZ]at this;lia
  lia
 rw[hV (by lia),hV (by rw[le,dY,dZ];lia),le];show(0:Int)=_;lia
rw[h2]at sl
rw[h1,h2]
by_cases z:1+k.ie≤l.length
·have:=gY s.q.P z;rw[kF (by lia),kF (by lia)]
have le:l.length=k.ie:=by
 have:¬l.length<k.ie:=λy=>by have:=gY s.q.P (show l.length+1≤k.ie by lia);rw[dY,dZ]at this;lia
 lia
rw[hV (by lia),hV (by rw[le,dY,dZ];lia),le]
show(s.q.P:Int)-s.q.fi.getD b 0=_
lia)
theorem qKJ(h:WX k s)(hl:FreeIs s.q.B (noB s.q.B) s.cl s.q.fi l):((jX s.q.B s.q.P (noB s.q.B) s.q.fi).filter λb=>decide (s.q.lv.getD b 0≤spcN (k.ie:Int) l s.q.P s.q.fi (jP s.q.B s.q.P (noB s.q.B) s.q.fi)))=s.ful k:=by(
unfold jX XS.ful
rw[yK,qKI h hl,List.filter_filter]
refine pQ λb _=>?_
rw[Bool.and_comm])
theorem qG6(h:WX k s)(br:m.br=noB s.q.B)(hl:FreeIs s.q.B (noB s.q.B) s.cl s.q.fi l):optN (k.ie:Int) m s.q l=s.ded k:=by unfold optN XS.ded;rw[br,qKJ h hl]
theorem qLP(e:m.cl=s.cl):tlOf m s.q=s.tl:=by funext b;unfold tlOf XS.tl;rw[e]
theorem qKK(h:WX k s)(hl:FreeIs s.q.B (noB s.q.B) s.cl s.q.fi l):rdy (k.ie:Int) l (jP s.q.B s.q.P (noB s.q.B) s.q.fi)=s.rd k:=qHO h.on h.qs.ok.wr h.qs.ok.p1 hl
structure Full(k:Tm)(s:XS)(c:Nat):Prop where
b:c<s.q.B
f:s.q.fi.getD c 0=(s.q.P:Int)
l:s.q.lv.getD c 0≤s.spc k
theorem q63{b:Nat}:b∈s.ful k↔Full k s b:=by unfold XS.ful;rw[mK,mE,mI,kP,kP];exact⟨λ⟨a,b,c⟩=>⟨a,b,c⟩,λh=>⟨h.b,h.f,h.l⟩⟩
theorem q30{b:Nat}:b∈s.ded k↔Full k s b∧s.q.lv.getD b 0<(s.q.P:Int):=by unfold XS.ded;rw[mK,q63,kP]
theorem uT{b:Nat}:b∈s.opt k↔(Full k s b∧s.q.lv.getD b 0<(s.q.P:Int))∧(k.ev=true→s.cl.getD b 0<s.lst+k.sp):=by(
unfold XS.opt XS.clb
cases k.ev with
|false=>rw[hV (by decide),q30];exact⟨λh=>⟨h,λz=>by cases z⟩,λh=>h.1⟩
|true=>rw[kF rfl,mK,q30,kP];exact⟨λh=>⟨h.1,λ_=>h.2⟩,λh=>⟨h.1,h.2 rfl⟩⟩)
theorem Full.sp(h:WX k s){b:Nat}(f:Full k s b):k.ie*s.q.P+(lvP s.q.P b s.q.V).length≤s.rmX:=by(
have e:=q4D h.qs h.pd f.b
have l:=f.l
have sl:=h.sl
have lb:=h.qs.lv b f.b
have cn:(lvP s.q.P b s.q.V).length≤s.q.P:=by unfold lvP;refine k8 (dP _ _) ?_;rw[mQ];exact kN _
unfold XS.spc at l
split at l
·rename_i z;rw[dY,dZ]at z;lia
lia)
theorem qHU{L:List Nat}:∀a∈L.map s.tl,∀c∈L.map s.tl,a.b=c.b→a=c:=λa ha c hc e=>by(
obtain⟨x,_,rfl⟩:=kY.mp ha
obtain⟨y,_,rfl⟩:=kY.mp hc
have e:(x:Int)=(y:Int):=e
rw[show x=y by lia])
theorem qG7(h:WX k s){b:Nat}(hb:b<s.q.B):0≤s.q.lv.getD b 0∧s.q.lv.getD b 0≤(s.q.P:Int):=by
 have e:=q4D h.qs h.pd hb;have cn:(lvP s.q.P b s.q.V).length≤s.q.P:=by unfold lvP;refine k8 (dP _ _) ?_;rw[mQ];exact kN _
 lia
theorem qIR(h:WX k s)(rc:s.rc.length<1000000){b:Nat}(hb:b<s.q.B):(s.tl b).Ok (s.q.P:Int) s.q.nx:=by(
have b2:=h.qs.ok.b2
have c:=h.c0 b
have d:=h.bo b
have e:=qG7 h hb
refine⟨?_,?_,e.1,e.2,c.1,?_,d.1,d.2⟩
·show(0:Int)≤(b:Int);lia
·show(b:Int)<16;lia
show s.cl.getD b 0<10 ^ 30
have:(1000000:Int)<10 ^ 30:=by decide
lia)
theorem qG8(h:WX k s):(s.opt k).length≤16:=by(
have b2:=h.qs.ok.b2
have:(s.ded k).length≤16:=by unfold XS.ded XS.ful;refine k8 (mH _ _) (k8 (mH _ _) ?_);rw[mQ];exact b2
unfold XS.opt XS.clb
split
·exact k8 (mH _ _) this
exact this)
end
structure Kp(s s':XS):Prop where
eB:s'.q.B=s.q.B
eP:s'.q.P=s.q.P
nm:∀n,(∃p,(n,p)∈s'.q.V)↔∃p,(n,p)∈s.q.V
lV:s'.q.V.length=s.q.V.length
theorem Kp.refl{s:XS}:Kp s s:=⟨rfl,rfl,λ_=>a9,rfl⟩
theorem Kp.trans{a b c:XS}(h:Kp a b)(g:Kp b c):Kp a c:=⟨g.eB.trans h.eB,g.eP.trans h.eP,λn=>(g.nm n).trans (h.nm n),g.lV.trans h.lV⟩
section
variable{k:Tm}{s:XS}{b:Nat}
theorem qC5{P b:Nat}{V:Mp}:(lvP P b V).length≤P:=by(
unfold lvP
refine k8 (dP _ _) ?_
rw[mQ]
exact kN _)
theorem q9H(R:XS→List (List Int)→Prop)(w:WX k s)(f:Full k s b)(r0:R s [])(rs:∀s' ms n p,WX k s'→Kp s s'→s'.cl=s.cl→s'.q.fi.getD b 0=(s.q.P:Int)→(n,p)∈s'.q.V→p / (s.q.P:Int)=(b:Int)→k.ie*s'.q.P<s'.rmX→s'.lf≠some 0→R s' ms→R (s'.put n (s'.val p n)) (ms++[[n,p,(s'.np:Int)]])):∃s' n ms,Mvd k s b s' n∧ms.length=n∧R s' ms∧((XS.mvs (lvP s.q.P b s.q.V) s=(s',none)∧n<(lvP s.q.P b s.q.V).length∧s'.lf=some 0)∨(XS.mvs (lvP s.q.P b s.q.V) s=(s',some ms)∧n=(lvP s.q.P b s.q.V).length∧∀y∈s'.q.V,¬y.2 / (s'.q.P:Int)=(b:Int))):=by(
have sp:=f.sp w
have key:∀d i,i+d=(lvP s.q.P b s.q.V).length→∀s' ms,MvI k s b (lvP s.q.P b s.q.V) i s' ms→R s' ms→∃s' n ms,Mvd k s b s' n∧ms.length=n∧R s' ms∧((XS.mvs (lvP s.q.P b s.q.V) s=(s',none)∧n<(lvP s.q.P b s.q.V).length∧s'.lf=some 0)∨(XS.mvs (lvP s.q.P b s.q.V) s=(s',some ms)∧n=(lvP s.q.P b s.q.V).length∧∀y∈s'.q.V,¬y.2 / (s'.q.P:Int)=(b:Int))):=by
 intro d;induction d with
 |zero=>intro i hi s' ms mi hR;obtain⟨e,nl⟩:=mi.fin (by lia);exact⟨s',i,ms,mi.mvd (by lia),mi.l,hR,.inr ⟨e,by lia,nl⟩⟩
 |succ d ih=>
  intro i hi s' ms mi hR;have hi':i<(lvP s.q.P b s.q.V).length:=by lia
  by_cases dk:s'.lf=some 0
  ·exact⟨s',i,ms,mi.mvd (by lia),mi.l,hR,.inl ⟨mi.dark hi' dk,hi',dk⟩⟩
  obtain⟨n,p,er,hnp,_⟩:=mi.at hi';have rme:=mi.rm;obtain⟨n',p',e0,_,hpb⟩:=mi.dr [p,n] (by rw[dH hi',er];exact kQ);have e1:p=p':=by injection e0
  refine ih (i+1) (by lia) _ _ (mi.step q6W hi' sp dk er) (rs s' ms n p mi.w ⟨mi.eB,mi.eP,mi.nm,mi.lV⟩ mi.ec mi.fb hnp (by rw[e1];exact hpb) (by rw[mi.eP];lia) dk hR)
exact key _ 0 (cF _) s [] (MvI.zero w f.f) r0)
end
theorem qG9{g:Rl}{pg nw:Int}{ts:List Tl}(ok:g.Ok)(h:ts≠[]):(g.ch pg nw ts).1∈ts.map Tl.b:=by(
cases g with
|rk f=>obtain⟨A,hA,e,_⟩:=qG2 (f:=f pg nw) h;show pk (f pg nw) ts∈_;rw[e];exact kY.mpr ⟨A,hA,rfl⟩
|win m=>obtain⟨A,hA,e,_⟩:=qG2 (f:=Tl.lv) (qD6 ok h);show pk Tl.lv (winC m ts)∈_;rw[e];exact kY.mpr ⟨A,qD5 A hA,rfl⟩
|fol row u=>
 have h0:(ts.map Tl.b).headD 0∈ts.map Tl.b:=by
  cases ts with
  |nil=>exact absurd rfl h
  |cons a r=>simp
 show fo row u ts∈_;unfold fo;split
 ·split
  ·assumption
  exact h0
 exact h0)
theorem qLQ{g:Rl}{pg nw:Int}{ts:List Tl}(ok:g.Ok):(g.ch pg nw ts).2.Ok:=by(
cases g with
|rk f=>trivial
|win m=>exact ok
|fol row u=>trivial)
section
variable{k:Tm}{s:XS}{g g':Rl}{y:Str}{b:Nat}
theorem vO(ok:g.Ok)(h:s.tk k g=some (y,b,g')):(y=Str.ofString "rule"∧b∈s.opt k∧(b:Int)=(g.ch (s.q.P:Int) s.q.nx (s.ots k)).1∧g'=(g.ch (s.q.P:Int) s.q.nx (s.ots k)).2)∨(y=Str.ofString "even"∧k.ev=true∧s.opt k=[]∧g'=g∧s.chg k=some b∧b∈s.clb k (s.ful k)∧∀c∈s.clb k (s.ful k),s.cl.getD b 0≤s.cl.getD c 0):=by(
unfold XS.tk at h
split at h
·rename_i e0;split at h
 ·rename_i ev;cases z:s.chg k with
  |none=>rw[z]at h;cases h
  |some c=>
   rw[z]at h;cases h;have pw:(s.clb k (s.ful k)).Pairwise (· < ·):=by unfold XS.clb XS.ful;exact m8 _ (m8 _ gZ)
   obtain⟨m1,m2⟩:=(q4A (cl:=s.cl) pw).2 b z;refine .inr ⟨rfl,ev,e0,rfl,rfl,m1,λc hc=>?_⟩;have:=m2 c hc;unfold keyN lx at this;by_cases q:s.cl.getD c 0=s.cl.getD b 0
   ·lia
   rw[hV q]at this;have:=dL this;lia
 cases h
rename_i ne
have ne':s.ots k≠[]:=λz=>ne (dU.mp z)
have cm:=qG9 (pg:=(s.q.P:Int)) (nw:=s.q.nx) ok ne'
injection h with h
injection h with h1 h
injection h with h h2
obtain⟨c,hc,e⟩:=kY.mp cm
obtain⟨c',hc',rfl⟩:=kY.mp hc
have e:(c':Int)=(g.ch (s.q.P:Int) s.q.nx (s.ots k)).1:=e
rw[←e,mO]at h
subst h
exact .inl ⟨h1.symm,hc',e,h2.symm⟩)
theorem q4E(ok:g.Ok)(h:s.tk k g=some (y,b,g')):Full k s b:=by(
rcases vO ok h with⟨_,h1,_⟩|⟨_,_,_,_,_,h1,_⟩
·exact(uT.mp h1).1.1
unfold XS.clb at h1
exact q63.mp (mK.mp h1).1)
theorem qGA(ok:g.Ok)(h:s.tk k g=some (y,b,g')):g'.Ok:=by(
rcases vO ok h with⟨_,_,_,e⟩|⟨_,_,_,e,_⟩
·rw[e];exact qLQ ok
rw[e];exact ok)
end
section
variable{k:Tm}{X Y:Sx}
inductive RoomR(k:Tm)(X:Sx):Sx×Except Rf Pa→Prop
|no:X.s.tk k X.g=none→RoomR k X (X,.error .room)
|dark {y b g' s' n}:X.s.tk k X.g=some (y,b,g')→Mvd k X.s b s' n→n≤(lvP X.s.q.P b X.s.q.V).length→s'.lf=some 0→RoomR k X (⟨s',g',X.ps⟩,.error .dark)
|ok {y b g' s' ms}:X.s.tk k X.g=some (y,b,g')→XS.mvs (lvP X.s.q.P b X.s.q.V) X.s=(s',some ms)→Mvd k X.s b s' (lvP X.s.q.P b X.s.q.V).length→ms.length=(lvP X.s.q.P b X.s.q.V).length→s'.lf≠some 0→WX k (s'.wip b)→(s'.wip b).rmX=s'.rmX+X.s.q.P→RoomR k X (⟨s'.wip b,g',X.ps++[⟨y,X.s.ots k,b,ms⟩]⟩,.ok ⟨y,X.s.ots k,b,ms⟩)
theorem q6X(w:WX k X.s)(ok:X.g.Ok):RoomR k X (X.room k):=by(
unfold Sx.room
cases htk:X.s.tk k X.g with
|none=>exact .no htk
|some ybg=>
 obtain⟨y,b,g'⟩:=ybg;have f:=q4E ok htk;obtain⟨s',n,ms,md,lm,_,h|h⟩:=q9H (λ_ _=>True) w f trivial (λ_ _ _ _ _ _ _ _ _ _ _ _ _=>trivial)
 ·obtain⟨e,hn,dk⟩:=h;dsimp only;rw[e];exact .dark htk md (by lia) dk
 obtain⟨e,hn,nl⟩:=h;dsimp only;rw[e];dsimp only;subst hn;by_cases dk:s'.lf=some 0
 ·rw[kF dk];exact .dark htk md (kN _) dk
 rw[hV dk];obtain⟨w',rm'⟩:=md.w.wip (b:=b) (by rw[md.eB];exact f.b) (by rw[md.eP];exact md.fb) nl dk;exact .ok htk e md lm dk w' (by rw[rm',md.eP]))
theorem qGB{p:Pa}(w:WX k X.s)(ok:X.g.Ok)(h:X.room k=(Y,.ok p)):Y.s.rc.length≤X.s.rc.length+17∧Y.ps.length=X.ps.length+1:=by(
have r:=q6X w ok
rw[h]at r
have l16:∀b,(lvP X.s.q.P b X.s.q.V).length≤X.s.q.P:=λb=>qC5
have p2:=w.qs.ok.p2
cases r with
|@ok y b g' s' ms htk e md lm dk w' rm'=>have:=l16 b;refine⟨?_,kO⟩;show(_++[_]).length≤_;rw[kO,md.rc,mU];lia)
theorem Mvd.kp{s s':XS}{b n:Nat}(h:Mvd k s b s' n):Kp s s':=⟨h.eB,h.eP,h.nm,h.lV⟩
theorem q9I{r:Except Rf Pa}(w:WX k X.s)(ok:X.g.Ok)(h:X.room k=(Y,r)):WX k Y.s∧Y.g.Ok∧Kp X.s Y.s∧Y.s.rc.length≤X.s.rc.length+17∧Y.ps.length≤X.ps.length+1:=by(
have rr:=q6X w ok
rw[h]at rr
have l16:∀b,(lvP X.s.q.P b X.s.q.V).length≤X.s.q.P:=λb=>qC5
have p2:=w.qs.ok.p2
cases rr with
|no htk=>exact⟨w,ok,Kp.refl,by lia,by lia⟩
|@dark y b g' s' n htk md hn dk=>have:=l16 b;refine⟨md.w,qGA ok htk,md.kp,?_,g8 _⟩;show s'.rc.length≤_;rw[md.rc];lia
|@ok y b g' s' ms htk e md lm dk w' rm'=>
 have:=l16 b;refine⟨w',qGA ok htk,md.kp.trans ⟨rfl,rfl,λ_=>a9,rfl⟩,?_,?_⟩
 ·show(_++[_]).length≤_;rw[kO,md.rc,mU];lia
 show(_++[_]).length≤_;rw[kO];exact kN _)
theorem q31:∀{i:Nat} {X Y:Sx} {r:Except Rf Unit},WX k X.s→X.g.Ok→X.rooms k i=some (Y,r)→WX k Y.s∧Y.g.Ok∧Kp X.s Y.s∧Y.s.rc.length≤X.s.rc.length+17*i∧Y.ps.length≤X.ps.length+i∧(r=.ok ()→Y.s.rd k=true)
|0,X,Y,r,w,ok,h=>by
 unfold Sx.rooms at h;split at h
 ·rename_i z;cases h;exact⟨w,ok,Kp.refl,kN _,kN _,λ_=>z⟩
 cases h
|i+1,X,Y,r,w,ok,h=>by
 unfold Sx.rooms at h;split at h
 ·rename_i z;cases h;exact⟨w,ok,Kp.refl,p8 _ _,p8 _ _,λ_=>z⟩
 cases e:X.room k with
 |mk W o=>
  rw[e]at h;obtain⟨a1,a2,a3,a4,a5⟩:=q9I w ok e;cases o with
  |error x=>cases h;exact⟨a1,a2,a3,by lia,by lia,λz=>by cases z⟩
  |ok p=>obtain⟨b1,b2,b3,b4,b5,b6⟩:=q31 a1 a2 h;exact⟨b1,b2,a3.trans b3,by lia,by lia,b6⟩
end
noncomputable def Hv(s:XS)(n v:Int):Prop:=∃p mk,(n,p)∈s.q.V∧s.pg p.toNat=some (mk,v)
noncomputable def putR(m:List Int):Str×Int×Bool:=(Str.ofString "put",m.getD 2 0,true)
section
variable{k:Tm}{s s':XS}{n m v u:Int}{b:Nat}
theorem Hv.put(w:WX k s)(hr:0<s.rmX)(ne:m≠n)(h:Hv s m u):Hv (s.put n v) m u:=by(
obtain⟨p,mk,hp,e⟩:=h
obtain⟨c,g,x,a1,a2,a3,a4,a5⟩:=w.vl _ hp
obtain⟨hb,hf,ef,_⟩:=w.spot hr
have a3:p=_:=a3
refine⟨p,mk,uS.mpr (.inr ⟨hp,ne⟩),?_⟩
show(if p.toNat=s.np then _ else s.pg p.toNat)=_
rw[hV]
·exact e
rw[a3,mO]
intro z
obtain⟨e1,e2⟩:=q9G a2 hf z
rw[e1,ef]at a4
lia)
theorem Hv.new:Hv (s.put n v) n v:=⟨(s.np:Int),_,uS.mpr (.inl rfl),by
 show(if((s.np:Nat):Int).toNat=s.np then _ else _)=_;rw[mO,kF rfl]⟩
theorem Hv.wip(w:WX k s)(nl:∀y∈s.q.V,¬y.2 / (s.q.P:Int)=(b:Int))(h:Hv s m u):Hv (s.wip b) m u:=by(
obtain⟨p,mk,hp,e⟩:=h
obtain⟨c,g,x,a1,a2,a3,a4,a5⟩:=w.vl _ hp
have a3:p=_:=a3
refine⟨p,mk,hp,?_⟩
show(if p.toNat / s.q.P=b then none else s.pg p.toNat)=_
rw[hV]
·exact e
have:=nl _ hp
rw[a3,mO,yG a2]
rw[show((m,p).2:Int)=p from rfl,a3,←d3,yG a2]at this
intro z
exact this (by rw[z]))
theorem Hv.val(w:WX k s){p:Int}(hp:(n,p)∈s.q.V)(n6:n≠64)(h:Hv s n u):s.val p n=u:=by(
obtain⟨p',mk,hp',e⟩:=h
rw[qG5 w.qs.ok.nd hp hp']
unfold XS.val
rw[hV n6,e]
rfl)
theorem q9J(w:WX k s){c:Nat}(hc:c<s.q.B):s.lst≤s.cl.getD c 0:=by(
have hc':c<s.cl.length:=by rw[w.lc];exact hc
obtain⟨m,e,h1,h2⟩:=qC3 (l:=s.cl) (λz=>by rw[z]at hc';cases hc')
unfold XS.lst
rw[e,kI,kC hc']
exact h2 _ (gD _))
theorem qGC(w:WX k s)(hb:0<s.q.B):∃c,c<s.q.B∧s.cl.getD c 0=s.lst:=by(
have hb':0<s.cl.length:=by rw[w.lc];exact hb
obtain⟨m,e,h1,h2⟩:=qC3 (l:=s.cl) (λz=>by rw[z]at hb';cases hb')
obtain⟨c,hc,ec⟩:=gX h1
refine⟨c,by rw[←w.lc];exact hc,?_⟩
unfold XS.lst
rw[e,kI,kC hc,ec])
theorem qGD(w:WX k s)(hr:0<s.rmX)(z:s.q.fi.getD s.pb 0=0){c:Nat}(hc:c<s.q.B)(fc:s.q.fi.getD c 0=0):s.cl.getD s.pb 0≤s.cl.getD c 0:=by(
have e:s.pb=spF s.q s.cl:=rfl
unfold spF at e
cases q:(List.range s.q.B).find? (jY s.q.P s.q.fi)with
|some d=>rw[q]at e;have h2:=dQ q;unfold jY at h2;rw[mI,kP]at h2;rw[show s.pb=d from e]at z;lia
|none=>
 rw[q]at e;have pw:((List.range s.q.B).filter λb=>decide (s.q.fi.getD b 0=0)).Pairwise (· < ·):=m8 _ gZ;have hm:c∈(List.range s.q.B).filter λb=>decide (s.q.fi.getD b 0=0):=mK.mpr ⟨mE.mpr hc,hG fc⟩;obtain⟨h1,h2⟩:=q4A (cl:=s.cl) pw;cases y:minF s.cl ((List.range s.q.B).filter λb=>decide (s.q.fi.getD b 0=0))with
 |none=>rw[h1 y]at hm;cases hm
 |some d=>
  rw[y]at e;have e:s.pb=d:=e;have:=(h2 d y).2 c hm;rw[e];unfold keyN lx at this;by_cases x:s.cl.getD c 0=s.cl.getD d 0
  ·lia
  rw[hV x]at this;have:=dL this;lia)
structure Ix(k:Tm)(s:XS):Prop where
w:WX k s
sh:s.q.V.length<(s.q.B-(1+k.ie))*s.q.P
s1:1≤k.sp
gp:k.ev=true→∀b c,b<s.q.B→c<s.q.B→s.cl.getD b 0≤s.cl.getD c 0+k.sp
e2:k.ev=true→∀d c,d<s.q.B→c<s.q.B→s.q.fi.getD d 0≠0→s.q.fi.getD c 0=0→s.cl.getD d 0<s.cl.getD c 0+k.sp
noncomputable def Wt(k:Tm)(s:XS):Prop:=s.rmX<(1+k.ie)*s.q.P→∃b,b<s.q.B∧s.q.fi.getD b 0=(s.q.P:Int)∧s.q.lv.getD b 0<(s.q.P:Int)∧s.q.lv.getD b 0+((1+k.ie)*s.q.P:Nat)≤(s.rmX:Int)+(s.q.P:Int)∧(k.ev=true→s.cl.getD b 0<s.lst+k.sp)
theorem Ix.put(x:Ix k s)(hr:k.ie*s.q.P<s.rmX)(w':WX k (s.put n v))(hs:(s.put n v).q.V.length<(s.q.B-(1+k.ie))*s.q.P):Ix k (s.put n v):=by(
obtain⟨hb,hf,ef,_⟩:=x.w.spot (by lia)
have s1:=x.s1
have gfi:∀c,(s.put n v).q.fi.getD c 0=if s.pb=c then(s.pf:Int)+1 else s.q.fi.getD c 0:=qC4 x.w.qs.ok.lf hb ef
refine⟨w',hs,x.s1,x.gp,λev d c hd hc fd fc=>?_⟩
rw[gfi]at fd fc
have hc:c<s.q.B:=hc
have hd:d<s.q.B:=hd
show s.cl.getD d 0<s.cl.getD c 0+k.sp
by_cases c1:s.pb=c
·rw[kF c1]at fc;lia
rw[hV c1]at fc
by_cases d1:s.pb=d
·subst d1;by_cases z:s.q.fi.getD s.pb 0=0
 ·have:=qGD x.w (by lia) z hc fc;lia
 exact x.e2 ev _ _ hd hc z fc
rw[hV d1]at fd
exact x.e2 ev _ _ hd hc fd fc)
theorem Ix.wip(x:Ix k s)(hb:b<s.q.B)(w':WX k (s.wip b))(cb:k.ev=true→s.cl.getD b 0<s.lst+k.sp):Ix k (s.wip b):=by(
have lc:=x.w.lc
have gcl:∀c,(s.wip b).cl.getD c 0=if b=c then s.cl.getD b 0+1 else s.cl.getD c 0:=λc=>by
 show(s.cl.set b (s.cl.getD b 0+1)).getD c 0=_;rw[jJ,lc];by_cases e:b=c
 ·rw[kF ⟨e,hb⟩,kF e]
 rw[hV (λz=>e z.1),hV e]
have gfi:∀c,(s.wip b).q.fi.getD c 0=if b=c then 0 else s.q.fi.getD c 0:=λc=>by
 show(s.q.fi.set b 0).getD c 0=_;rw[jJ,x.w.qs.ok.lf];by_cases e:b=c
 ·rw[kF ⟨e,hb⟩,kF e]
 rw[hV (λz=>e z.1),hV e]
refine⟨w',x.sh,x.s1,λev c d hc hd=>?_,λev d c hd hc fd fc=>?_⟩
·have hc:c<s.q.B:=hc;have hd:d<s.q.B:=hd;rw[gcl,gcl];have:=cb ev;have:=x.gp ev c d hc hd;have:=x.gp ev c b hc hb;have:=q9J x.w hd;have:=x.s1;split<;>split<;>lia
have hc:c<s.q.B:=hc
have hd:d<s.q.B:=hd
rw[gfi]at fd fc
rw[gcl,gcl]
by_cases d1:b=d
·rw[kF d1]at fd;exact absurd rfl fd
rw[hV d1]at fd ⊢
by_cases c1:b=c
·rw[kF c1];have:=x.gp ev d b hd hb;lia
rw[hV c1]at fc ⊢
exact x.e2 ev d c hd hc fd fc)
end
section
variable{k:Tm}{X Y:Sx}
structure RmX(k:Tm)(X Y:Sx):Prop where
x:Ix k Y.s
wt:Wt k Y.s
ok:Y.g.Ok
kp:Kp X.s Y.s
hv:∀m u,m≠64→Hv X.s m u→Hv Y.s m u
theorem qD7{r:Except Rf Pa}(x:Ix k X.s)(wt:Wt k X.s)(ok:X.g.Ok)(h:X.room k=(Y,r)):RmX k X Y∧(match r with
 | .ok p=>Y.ps=X.ps++[p]∧Y.s.rc=X.s.rc++p.mv.map putR++[(Str.ofString "wipe",(p.b:Int),true)]∧(1+k.ie)*X.s.q.P≤Y.s.rmX∧Y.s.rmX+p.mv.length=X.s.rmX+X.s.q.P∧(∃g',X.s.tk k X.g=some (p.why,p.b,g'))∧p.mv.length=(lvP X.s.q.P p.b X.s.q.V).length∧p.ts=X.s.ots k∧(∃s',XS.mvs (lvP X.s.q.P p.b X.s.q.V) X.s=(s',some p.mv)∧Y.s=s'.wip p.b∧Mvd k X.s p.b s' p.mv.length)
 | .error .dark=>Y.s.lf=some 0∧Y.ps=X.ps∧∃ms,Y.s.rc=X.s.rc++List.map putR ms
 | .error .room=>Y=X∧X.s.tk k X.g=none):=by(
unfold Sx.room at h
cases htk:X.s.tk k X.g with
|none=>rw[htk]at h;cases h;exact⟨⟨x,wt,ok,Kp.refl,λ_ _ _ z=>z⟩,rfl,rfl⟩
|some ybg=>
 obtain⟨y,b,g'⟩:=ybg;rw[htk]at h;dsimp only at h;have f:=q4E ok htk;have g'ok:=qGA ok htk;have spc:=f.l;have lvb:=q4D x.w.qs x.w.pd f.b;have sl:=x.w.sl;have clb:k.ev=true→X.s.cl.getD b 0<X.s.lst+k.sp:=λev=>by
  rcases vO ok htk with⟨_,h1,_⟩|⟨_,_,_,_,_,h1,_⟩
  ·exact(uT.mp h1).2 ev
  unfold XS.clb at h1;exact mM (mK.mp h1).2
 obtain⟨s',n,ms,md,lm,⟨xi,hv,rcE⟩,hh⟩:=q9H (λs' ms=>Ix k s'∧(∀m u,m≠64→Hv X.s m u→Hv s' m u)∧s'.rc=X.s.rc++ms.map putR) x.w f ⟨x,λ_ _ _ z=>z,by simp⟩ (λs' ms n p w' kp ec fb hnp hpb hr dk ⟨xi,hv,rcE⟩=>by
  have nb:=w'.qs.ok.nm _ hnp;obtain⟨w2,_⟩:=w'.put (v:=s'.val p n) hr nb.1 nb.2 (.inl ⟨p,hnp⟩) dk;refine⟨xi.put hr w2 ?_,λm u m6 hm=>?_,?_⟩
  ·show(jM s'.q.V n++[_]).length< _;rw[kO,mU,(q4C (V:=s'.q.V) (n:=n) w'.qs.ok.nd).2 p hnp];exact xi.sh
  ·have:=hv m u m6 hm;by_cases e:m=n
   ·subst e;have z:=Hv.new (s:=s') (n:=m) (v:=s'.val p m);rw[this.val w' hnp m6]at z ⊢;exact z
   exact this.put w' (by lia) e
  show s'.rc++[_]=_;rw[rcE,mR,cD];rfl)
 have kp:Kp X.s s':=⟨md.eB,md.eP,md.nm,md.lV⟩;have rme:=md.rm;have lbe:=md.lb f.b;have ec:=md.ec;have wt':Wt k s':=λhlt=>by
  rw[md.eP]at hlt;refine⟨b,by rw[md.eB];exact f.b,by rw[md.eP];exact md.fb,?_,?_,λev=>?_⟩
  ·rw[md.eP];by_cases n0:n=0
   ·have:X.s.rmX<(1+k.ie)*X.s.q.P:=by lia
    have lt:X.s.q.lv.getD b 0<(X.s.q.P:Int):=by
     rcases vO ok htk with⟨_,h1,_⟩|⟨_,_,e0,_⟩
     ·exact(uT.mp h1).1.2
     exfalso;obtain⟨c,c1,c2,c3,c4,c5⟩:=wt this;have:c∈X.s.opt k:=uT.mpr ⟨⟨⟨c1,c2,by unfold XS.spc;rw[hV (by lia)];rw[dY,dZ]at c4;lia⟩,c3⟩,c5⟩;rw[e0]at this;cases this
    lia
   have:=qC5 (P:=X.s.q.P) (b:=b) (V:=X.s.q.V);lia
  ·rw[md.eP];unfold XS.spc at spc;rw[dY,dZ]at *;split at spc<;>lia
  have e1:s'.lst=X.s.lst:=by unfold XS.lst;rw[ec]
  rw[ec,e1];exact clb ev
 rcases hh with⟨e,hn,dk⟩|⟨e,hn,nl⟩
 ·rw[e]at h;cases h;exact⟨⟨xi,wt',g'ok,kp,hv⟩,dk,rfl,ms,rcE⟩
 rw[e]at h;dsimp only at h;by_cases dk:s'.lf=some 0
 ·rw[kF dk]at h;cases h;exact⟨⟨xi,wt',g'ok,kp,hv⟩,dk,rfl,ms,rcE⟩
 rw[hV dk]at h;cases h;obtain⟨w2,rm2⟩:=md.w.wip (b:=b) (by rw[md.eB];exact f.b) (by rw[md.eP];exact md.fb) nl dk;have e1:s'.lst=X.s.lst:=by unfold XS.lst;rw[ec]
 have ge:(1+k.ie)*X.s.q.P≤(s'.wip b).rmX:=by rw[rm2,md.eP];unfold XS.spc at spc;rw[dY,dZ]at *;split at spc<;>lia
 refine⟨⟨xi.wip (by rw[md.eB];exact f.b) w2 (λev=>by rw[ec,e1];exact clb ev),λhlt=>?_,g'ok,kp.trans ⟨rfl,rfl,λ_=>a9,rfl⟩,λm u m6 hm=>(hv m u m6 hm).wip md.w nl⟩,rfl,?_,ge,?_,⟨g',rfl⟩,by rw[lm,hn],rfl,s',e,rfl,by rw[lm];exact md⟩
 ·have hlt:(s'.wip b).rmX<(1+k.ie)*s'.q.P:=hlt;rw[md.eP]at hlt;lia
 ·show s'.rc++[_]=_;rw[rcE]
 show(s'.wip b).rmX+ms.length=_;rw[rm2,md.eP,lm];lia)
end
section
variable{k:Tm}{s:XS}
theorem q4Z(w:WX k s)(hr:s.rmX=(1+k.ie)*s.q.P):(∀b,b<s.q.B→s.q.fi.getD b 0=0∨s.q.fi.getD b 0=(s.q.P:Int))∧((List.range s.q.B).filter λb=>decide (s.q.fi.getD b 0=(s.q.P:Int))).length=s.q.B-(1+k.ie):=by(
have p1:=w.qs.ok.p1
obtain⟨l,hl⟩:=FreeIs.ex s.q.B (noB s.q.B) s.cl s.q.fi
have ll:jP s.q.B s.q.P (noB s.q.B) s.q.fi=none∧l.length=1+k.ie:=by
 rcases q24 w.on w.qs.ok.wr p1 hl with⟨h1,h2⟩|⟨b,e,h1,e1,e2,h2,_⟩
 ·refine⟨h1,?_⟩;unfold XS.rmX at hr;rw[hr]at h2;exact(pL (by lia) h2).symm
 exfalso;unfold XS.rmX at hr;rw[hr]at h2;have k:(1+k.ie)*s.q.P%s.q.P=e:=by rw[h2,rU,cX,cM e2]
 rw[xO]at k;lia
have fl:=qB1 w.on w.qs.ok.wr p1 hl ll.1
unfold jX at fl
rw[yK]at fl
refine⟨λb hb=>?_,by lia⟩
have np:=ll.1
unfold jP at np
rw[yK]at np
have:=rV.mp np b (mE.mpr hb)
obtain⟨f,ef,hf⟩:=w.qs.ok.wr b hb
unfold jY at this
rw[mI,kP,kP]at this
lia)
theorem zJ(x:Ix k s)(hr:s.rmX=(1+k.ie)*s.q.P):s.ded k≠[]:=by(
obtain⟨l,hl⟩:=FreeIs.ex s.q.B (noB s.q.B) s.cl s.q.fi
have m:CM:=⟨0,0,0,[],[],s.cl,[],noB s.q.B,none,[]⟩
have:=(qG3 (m:=⟨0,0,0,[],[],s.cl,[],noB s.q.B,none,[]⟩) (ie:=k.ie) x.w.qs x.w.on rfl hl hr x.sh).1
rw[qG6 x.w rfl hl]at this
exact this)
theorem qGE(wt:Wt k s)(hr:s.rmX<(1+k.ie)*s.q.P):s.opt k≠[]:=λz=>by(
obtain⟨b,b1,b2,b3,b4,b5⟩:=wt hr
have:b∈s.opt k:=uT.mpr ⟨⟨⟨b1,b2,by unfold XS.spc;rw[hV (by lia)];rw[dY,dZ]at b4;lia⟩,b3⟩,b5⟩
rw[z]at this
cases this)
theorem q8P(x:Ix k s)(hr:s.rmX=(1+k.ie)*s.q.P)(ev:k.ev=true)(e0:s.opt k=[]):(∀c,c<s.q.B→s.q.fi.getD c 0=0→s.lst<s.cl.getD c 0)∧∃b,s.chg k=some b∧b<s.q.B∧s.q.fi.getD b 0=(s.q.P:Int)∧s.cl.getD b 0=s.lst∧s.q.lv.getD b 0=(s.q.P:Int):=by(
have s1:=x.s1
have p1:=x.w.qs.ok.p1
have nop:∀d,Full k s d→s.q.lv.getD d 0<(s.q.P:Int)→s.lst+k.sp≤s.cl.getD d 0:=λd fd ld=>by refine lM.mp λz=>?_;have:d∈s.opt k:=uT.mpr ⟨⟨fd,ld⟩,λ_=>z⟩;rw[e0]at this;cases this
have fr:∀c,c<s.q.B→s.q.fi.getD c 0=0→s.lst<s.cl.getD c 0:=λc hc fc=>by obtain⟨d,hd⟩:=rA _ (zJ x hr);obtain⟨fd,ld⟩:=q30.mp hd;have h1:=nop d fd ld;have h2:=x.e2 ev d c fd.b hc (by rw[fd.f];lia) fc;lia
refine⟨fr,?_⟩
obtain⟨rp,_⟩:=q4Z x.w hr
have hB:0<s.q.B:=by obtain⟨d,hd⟩:=rA _ (zJ x hr);have:=(q30.mp hd).1.b;lia
obtain⟨c,hc,ec⟩:=qGC x.w hB
have fc:s.q.fi.getD c 0=(s.q.P:Int):=by
 rcases rp c hc with z|z
 ·have:=fr c hc z;lia
 exact z
have spc:s.spc k=(s.q.P:Int):=by unfold XS.spc;rw[kF (by lia)]
have hc':c∈s.clb k (s.ful k):=by unfold XS.clb;exact mK.mpr ⟨q63.mpr ⟨hc,fc,by rw[spc];exact(qG7 x.w hc).2⟩,hG (by lia)⟩
have pw:(s.clb k (s.ful k)).Pairwise (· < ·):=by unfold XS.clb XS.ful;exact m8 _ (m8 _ gZ)
obtain⟨h1,h2⟩:=q4A (cl:=s.cl) pw
cases z:s.chg k with
|none=>rw[h1 z]at hc';cases hc'
|some b=>
 obtain⟨m1,m2⟩:=h2 b z;have m1':=m1;unfold XS.clb at m1';obtain⟨fb,_⟩:=mK.mp m1';have fb:=q63.mp fb;have:=m2 c hc';have le:s.cl.getD b 0≤s.cl.getD c 0:=by
  unfold keyN lx at this;by_cases q:s.cl.getD c 0=s.cl.getD b 0
  ·lia
  rw[hV q]at this;have:=dL this;lia
 have cb:s.cl.getD b 0=s.lst:=by have:=q9J x.w fb.b;lia
 refine⟨b,rfl,fb.b,fb.f,cb,?_⟩;have:=qG7 x.w fb.b;have:¬s.q.lv.getD b 0<(s.q.P:Int):=λy=>by have:=nop b fb y;lia
 lia)
noncomputable def nlc(s:XS):Nat:=((List.range s.q.B).filter λb=>decide (s.q.fi.getD b 0=(s.q.P:Int))&&decide (s.cl.getD b 0=s.lst)).length
noncomputable def need(k:Tm)(s:XS):Nat:=if s.rd k=true then 0 else if s.rmX<(1+k.ie)*s.q.P then 1+(if k.ev=true then s.q.B-(1+k.ie)else 1)else if s.opt k≠[]then 1 else nlc s+1
theorem qC6{α:Type}{p p':α→Bool}:∀{l:List α},(∀x∈l,p' x=true→p x=true)→(∃x∈l,p x=true∧p' x=false)→(l.filter p').length<(l.filter p).length
| [],_,h=>by obtain⟨x,hx,_⟩:=h;cases hx
|a::l,h,g=>by
 have le:(l.filter p').length≤(l.filter p).length:=by
  have:(l.filter p').length≤(l.filter p).length:=by rw[←rZ,←rZ];exact cG λx hx=>h x (kB _ hx)
  exact this
 rw[mV,mV];obtain⟨x,hx,h1,h2⟩:=g;rcases kJ.mp hx with e|hx
 ·subst e;rw[kF h1,hV (by rw[h2];decide),mB];lia
 have ih:=qC6 (λy hy=>h y (kB _ hy)) ⟨x,hx,h1,h2⟩;by_cases z:p' a=true
 ·rw[kF z,kF (h a (by simp) z),mB,mB];lia
 rw[hV z];split
 ·rw[mB];lia
 exact ih
theorem qKL(x:Ix k s)(hr:s.rmX=(1+k.ie)*s.q.P)(ev:k.ev=true)(e0:s.opt k=[]):nlc s+1≤s.q.B-(1+k.ie):=by(
obtain⟨_,fl⟩:=q4Z x.w hr
rw[←fl]
obtain⟨d,hd⟩:=rA _ (zJ x hr)
obtain⟨fd,ld⟩:=q30.mp hd
refine qC6 (λy _ hy=>?_) ⟨d,mE.mpr fd.b,hG fd.f,?_⟩
·rw[mI]at hy;exact hy.1
have:¬s.cl.getD d 0<s.lst+k.sp:=λz=>by have:d∈s.opt k:=uT.mpr ⟨⟨fd,ld⟩,λ_=>z⟩;rw[e0]at this;cases this
have s1:=x.s1
rw[hU (show ¬s.cl.getD d 0=s.lst by lia),Bool.and_false])
theorem qD8(x:Ix k s)(hr:(1+k.ie)*s.q.P≤s.rmX):need k s≤if k.ev=true then s.q.B-(1+k.ie)else 1:=by(
have b1:1≤s.q.B-(1+k.ie):=by have:=x.sh;refine Nat.pos_of_ne_zero λz=>?_;rw[z,Nat.zero_mul]at this;cases this
unfold need
split
·exact mL _
rename_i nr
have e:s.rmX=(1+k.ie)*s.q.P:=by unfold XS.rd at nr;have:=dL (l8.mpr nr);lia
rw[hV (by lia)]
split
·split<;>lia
rename_i z
have z:s.opt k=[]:=d9 z
cases ev:k.ev with
|true=>rw[kF rfl];exact qKL x e ev z
|false=>exfalso;have:=zJ x e;unfold XS.opt at z;rw[ev]at z;exact this z)
end
section
variable{k:Tm}{X Y:Sx}
theorem qHV(x:Ix k X.s)(wt:Wt k X.s)(nr:X.s.rd k=false):∃ybg,X.s.tk k X.g=some ybg:=by(
unfold XS.tk
by_cases z:X.s.opt k=[]
·rw[kF z];have nr':=dL nr;have e:X.s.rmX=(1+k.ie)*X.s.q.P:=by have:¬X.s.rmX<(1+k.ie)*X.s.q.P:=λy=>qGE wt y z;lia
 cases ev:k.ev with
 |true=>obtain⟨_,b,hb,_⟩:=q8P x e ev z;rw[kF rfl,hb];exact⟨_,rfl⟩
 |false=>exfalso;have:=zJ x e;unfold XS.opt at z;rw[ev]at z;exact this z
rw[hV z]
exact⟨_,rfl⟩)
theorem qHW{p:Pa}(x:Ix k X.s)(wt:Wt k X.s)(ok:X.g.Ok)(nr:X.s.rd k=false)(h:X.room k=(Y,.ok p)):need k Y.s<need k X.s:=by(
obtain⟨rx,hp,_,ge,rmE,⟨g',htk⟩,lm,_,s',emv,eY,md⟩:=qD7 x wt ok h
have eP:=rx.kp.eP
have eB:=rx.kp.eB
have fb:=q4E ok htk
have lvb:=q4D x.w.qs x.w.pd fb.b
have nr':=dL nr
have ge':(1+k.ie)*Y.s.q.P≤Y.s.rmX:=by rw[eP];exact ge
have nl:=qD8 rx.x ge'
rw[eB]at nl
have p1:=x.w.qs.ok.p1
have eX:need k X.s=if X.s.rmX<(1+k.ie)*X.s.q.P then 1+(if k.ev=true then X.s.q.B-(1+k.ie)else 1)else if X.s.opt k≠[]then 1 else nlc X.s+1:=by rw[need,nr,hV (by decide)]
rw[eX]
by_cases lk:X.s.rmX<(1+k.ie)*X.s.q.P
·rw[kF lk];lia
rw[hV lk]
have eR:X.s.rmX=(1+k.ie)*X.s.q.P:=by lia
rcases vO ok htk with⟨_,h1,_⟩|⟨_,ev,e0,_,hc,h1,_⟩
·have ne:X.s.opt k≠[]:=λz=>by rw[z]at h1;cases h1
 rw[kF ne];have lt:=(uT.mp h1).1.2;have:Y.s.rd k=true:=hG (by rw[eP];lia);rw[need,kF this];decide
rw[hV (λz=>z e0)]
obtain⟨fr,b,hb,b1,b2,b3,b4⟩:=q8P x eR ev e0
rw[hc]at hb
obtain rfl:=kL hb
have rY:Y.s.rmX=(1+k.ie)*Y.s.q.P:=by rw[eP];lia
have nrY:¬Y.s.rd k=true:=λz=>by have:=mM z;lia
rw[need,hV nrY,hV (by lia)]
have bin:p.b∈(List.range X.s.q.B).filter λb=>decide (X.s.q.fi.getD b 0=(X.s.q.P:Int))&&decide (X.s.cl.getD b 0=X.s.lst):=mK.mpr ⟨mE.mpr b1,by rw[hG b2,hG b3];rfl⟩
have n1:1≤nlc X.s:=sQ bin
split
·lia
rename_i z
have z:Y.s.opt k=[]:=d9 z
have gcl:∀c,Y.s.cl.getD c 0=if p.b=c then X.s.cl.getD p.b 0+1 else X.s.cl.getD c 0:=λc=>by
 rw[eY];show(s'.cl.set p.b (s'.cl.getD p.b 0+1)).getD c 0=_;rw[md.ec,jJ,x.w.lc];by_cases e:p.b=c
 ·rw[kF ⟨e,b1⟩,kF e]
 rw[hV (λz=>e z.1),hV e]
have gfi:∀c,Y.s.q.fi.getD c 0=if p.b=c then 0 else s'.q.fi.getD c 0:=λc=>by
 rw[eY];show(s'.q.fi.set p.b 0).getD c 0=_;rw[jJ,md.w.qs.ok.lf,md.eB];by_cases e:p.b=c
 ·rw[kF ⟨e,b1⟩,kF e]
 rw[hV (λz=>e z.1),hV e]
have lle:X.s.lst≤Y.s.lst:=by obtain⟨c,hc,ec⟩:=qGC rx.x.w (by rw[eB];lia);rw[eB]at hc;rw[←ec,gcl];have:=q9J x.w hc;have:=q9J x.w b1;split<;>lia
have leq:Y.s.lst=X.s.lst:=by
 refine Int.le_antisymm (lM.mp λy=>?_) lle;obtain⟨d,hd⟩:=rA _ (zJ rx.x rY);obtain⟨fd,ld⟩:=q30.mp hd;have nc:¬Y.s.cl.getD d 0<Y.s.lst+k.sp:=λy=>by have:d∈Y.s.opt k:=uT.mpr ⟨⟨fd,ld⟩,λ_=>y⟩;rw[z]at this;cases this
 have ne:p.b≠d:=λy=>by have:=fd.f;rw[gfi,kF y,eP]at this;lia
 rw[gcl,hV ne]at nc;have hd':=fd.b;rw[eB]at hd';have:=x.gp ev d p.b hd' b1;lia
refine Nat.succ_lt_succ ?_
unfold nlc
rw[eB,eP,leq]
refine qC6 (λc hc y=>?_) ⟨p.b,mE.mpr b1,by rw[hG b2,hG b3];rfl,?_⟩
·have hc:=mE.mp hc;rw[mI,kP,kP]at y ⊢;obtain⟨y1,y2⟩:=y;have ne:p.b≠c:=λw=>by rw[gfi,kF w]at y1;lia
 rw[gcl,hV ne]at y2;refine⟨?_,y2⟩;rcases(q4Z x.w eR).1 c hc with q|q
 ·have:=fr c hc q;lia
 exact q
rw[gfi,kF rfl,hU (by lia)]
rfl)
noncomputable def dOf(p:Pa):List (Str×Int×Bool):=p.mv.map putR++[(Str.ofString "wipe",(p.b:Int),true)]
structure Rms(k:Tm)(X Y:Sx)(qs:List Pa):Prop extends RmX k X Y where
ps:Y.ps=X.ps++qs
ln:qs.length≤need k X.s
theorem q8Q:∀{i:Nat} {X:Sx},Ix k X.s→Wt k X.s→X.g.Ok→need k X.s≤i→∃Y ps ms,Rms k X Y ps∧Y.s.rc=X.s.rc++ps.flatMap dOf++ms.map putR∧((X.rooms k i=some (Y,.ok ())∧Y.s.rd k=true∧ms=[])∨(X.rooms k i=some (Y,.error .dark)∧Y.s.lf=some 0))
|i,X,x,wt,ok,hi=>by
 cases rd:X.s.rd k with
 |true=>
  refine⟨X,[],[],⟨⟨x,wt,ok,Kp.refl,λ_ _ _ z=>z⟩,by simp,mL _⟩,by simp,.inl ⟨?_,rd,rfl⟩⟩;cases i with
  |zero=>unfold Sx.rooms;rw[rd,kF rfl]
  |succ i=>unfold Sx.rooms;rw[rd,kF rfl]
 |false=>
  cases i with
  |zero=>
   exfalso;unfold need at hi;rw[rd,hV (by decide)]at hi;split at hi
   ·lia
   split at hi<;>lia
  |succ i=>
   cases e:X.room k with
   |mk W o=>
    obtain⟨rx,hh⟩:=qD7 x wt ok e;cases o with
    |error q=>
     cases q with
     |room=>obtain⟨_,h⟩:=hh;obtain⟨ybg,h'⟩:=qHV x wt rd;rw[h]at h';cases h'
     |dark=>obtain⟨dk,eps,ms,erc⟩:=hh;refine⟨W,[],ms,⟨rx,by rw[eps];simp,mL _⟩,by rw[erc];simp,.inr ⟨?_,dk⟩⟩;unfold Sx.rooms;rw[rd,hV (by decide),e]
    |ok p=>
     have lt:=qHW x wt ok rd e;obtain⟨eps,erc,_⟩:=hh;obtain⟨Y,ps,ms,ry,hrc,hr⟩:=q8Q (i:=i) rx.x rx.wt rx.ok (by lia);refine⟨Y,p::ps,ms,⟨⟨ry.x,ry.wt,ry.ok,rx.kp.trans ry.kp,λm u m6 z=>ry.hv m u m6 (rx.hv m u m6 z)⟩,?_,?_⟩,?_,?_⟩
     ·rw[ry.ps,eps,cD];rfl
     ·have:=ry.ln;rw[mB];lia
     ·rw[hrc,erc,xI];simp[dOf]
     have er:X.rooms k (i+1)=W.rooms k i:=by rw[Sx.rooms,rd,hV (by decide),e]
     rw[er];exact hr
end
structure AskO(k:Tm)(i:Nat)(X:Sx)(n v:Int)(Y:Sx)(qs:List Pa)(p:Nat):Prop where
rl:Y.s.rc.length≤X.s.rc.length+17*i+1
x:Ix k Y.s
ge:(1+k.ie)*Y.s.q.P≤Y.s.rmX
ok:Y.g.Ok
ps:Y.ps=X.ps++qs
ln:qs.length≤need k X.s
eB:Y.s.q.B=X.s.q.B
eP:Y.s.q.P=X.s.q.P
nm:∀m,(∃p,(m,p)∈Y.s.q.V)↔m=n∨∃p,(m,p)∈X.s.q.V
hv:∀m u,m≠64→m≠n→Hv X.s m u→Hv Y.s m u
hn:Hv Y.s n v
rc:Y.s.rc=X.s.rc++qs.flatMap dOf++[(Str.ofString "put",(p:Int),true)]
structure AskD(k:Tm)(i:Nat)(X:Sx)(Y:Sx)(qs:List Pa):Prop where
rl:Y.s.rc.length≤X.s.rc.length+17*i+1
x:Ix k Y.s
wt:Wt k Y.s
ok:Y.g.Ok
ps:Y.ps=X.ps++qs
ln:qs.length≤need k X.s
kp:Kp X.s Y.s
hv:∀m u,m≠64→Hv X.s m u→Hv Y.s m u
lf:Y.s.lf=some 0
rc:∃ms,Y.s.rc=X.s.rc++qs.flatMap dOf++List.map putR ms
section
variable{k:Tm}{X:Sx}{n v:Int}
theorem qHX{i:Nat}(x:Ix k X.s)(wt:Wt k X.s)(ok:X.g.Ok)(hi:need k X.s≤i)(n0:0≤n)(n1:n≤64)(hl:(∃p,(n,p)∈X.s.q.V)∨(X.s.q.V.length<59∧X.s.q.V.length+1<(X.s.q.B-(1+k.ie))*X.s.q.P)):(∃Y qs p,X.ask k i n v=some (Y,.ok p)∧AskO k i X n v Y qs p)∨∃Y qs,X.ask k i n v=some (Y,.error .dark)∧AskD k i X Y qs:=by(
obtain⟨Y,ps,ms,r,hrc,⟨hr,rd,e0⟩|⟨hr,dk⟩⟩:=q8Q x wt ok hi
·have rl:=(q31 x.w ok hr).2.2.2.1;have rd:=mM rd;unfold Sx.ask;rw[hr];dsimp only;by_cases dk:Y.s.lf=some 0
 ·rw[kF dk];exact .inr ⟨Y,ps,rfl,by lia,r.x,r.wt,r.ok,r.ps,r.ln,r.kp,r.hv,dk,ms,hrc⟩
 rw[hV dk];have rd':=rd;rw[dY,dZ]at rd';have hl':(∃p,(n,p)∈Y.s.q.V)∨Y.s.q.V.length<59:=by rw[r.kp.lV];exact hl.imp (λz=>(r.kp.nm n).mpr z) λz=>z.1
 obtain⟨w',rm'⟩:=r.x.w.put (n:=n) (v:=v) (by lia) n0 n1 hl' dk;refine .inl ⟨_,ps,_,rfl,?_,r.x.put (by lia) w' ?_,?_,r.ok,r.ps,r.ln,r.kp.eB,r.kp.eP,λm=>?_,λm u m6 mn z=>(r.hv m u m6 z).put r.x.w (by lia) mn,Hv.new,?_⟩
 ·show(Y.s.rc++[_]).length≤_;rw[kO,mU];lia
 ·show(jM Y.s.q.V n++[_]).length< _;rw[kO,mU];obtain⟨d1,d2⟩:=q4C (V:=Y.s.q.V) (n:=n) r.x.w.qs.ok.nd;have lV:=r.kp.lV;rcases hl with z|⟨_,z⟩
  ·obtain⟨p,hp⟩:=(r.kp.nm n).mpr z;rw[d2 p hp];exact r.x.sh
  rw[r.kp.eB,r.kp.eP];lia
 ·show(1+k.ie)*Y.s.q.P≤(Y.s.put n v).rmX;lia
 ·rw[←r.kp.nm m];constructor
  ·rintro⟨p,h⟩
   rcases uS.mp h with e|⟨h,_⟩
   ·cases e;exact .inl rfl
   exact .inr ⟨p,h⟩
  intro z;by_cases e:m=n
  ·exact⟨_,uS.mpr (.inl (by rw[e]))⟩
  rcases z with z|⟨p,h⟩
  ·exact absurd z e
  exact⟨p,uS.mpr (.inr ⟨h,e⟩)⟩
 show Y.s.rc++[_]=_;rw[hrc,e0];simp
have rl:=(q31 x.w ok hr).2.2.2.1
unfold Sx.ask
rw[hr]
exact .inr ⟨Y,ps,rfl,by lia,r.x,r.wt,r.ok,r.ps,r.ln,r.kp,r.hv,dk,ms,hrc⟩)
end
section
variable{k:Tm}{s:XS}
theorem WX.lf(w:WX k s){l:Option Int}(h:∀i,l=some i→0≤i):WX k { s with lf:=l }:={ w with l0:=h }
theorem Ix.lf(x:Ix k s){l:Option Int}(h:∀i,l=some i→0≤i):Ix k { s with lf:=l }:=⟨x.w.lf h,x.sh,x.s1,x.gp,x.e2⟩
theorem Wt.of(h:(1+k.ie)*s.q.P≤s.rmX):Wt k s:=λz=>by lia
end
noncomputable def newX(B P:Nat):XS:=⟨⟨P,B,1,[],List.replicate B 0,List.replicate B 0,List.replicate B 0⟩,List.replicate B 0,λ_=>none,none,[]⟩
theorem qHY{k:Tm}{B P:Nat}(b2:B≤16)(p1:1≤P)(p2:P≤16)(hk:1+k.ie<B)(s1:1≤k.sp):Ix k (newX B P)∧(1+k.ie)*P≤(newX B P).rmX:=by(
have r0:∀n i:Nat,(List.replicate n (0:Int)).getD i 0=0:=λn i=>rep8
have rmE:(newX B P).rmX=B*P:=by
 unfold XS.rmX newX rm clr1;dsimp only;have:∀n,((List.range n).map λb=>P-((List.replicate B (0:Int)).getD b 0).toNat).sum=n*P:=λn=>by
  induction n with
  |zero=>simp
  |succ n ih=>rw[sS,mR,List.sum_append,ih,cE,List.map_singleton,r0];simp
 exact this B
have le:(1+k.ie)*P≤B*P:=gY _ (by lia)
have ok:(newX B P).q.Ok:=by refine⟨p1,p2,b2,gG,gG,gG,by simp[newX],λq hq=>absurd (show q∈([]:Mp)from hq) (by simp),λq hq=>absurd (show q∈([]:Mp)from hq) (by simp),λb hb=>⟨0,r0 _ _,mL _⟩⟩
refine⟨⟨⟨⟨ok,λb hb=>?_⟩,λb c _ _ h1 _=>?_,gG,λ_ _ _ _ _=>rfl,λy hy=>absurd (show y∈([]:Mp)from hy) (by simp),by simp[newX],λb=>?_,λb=>?_,gO _,?_,?_,λi e=>by cases e⟩,?_,s1,λ_ b c _ _=>?_,λ_ d c _ _ h _=>absurd (r0 _ _) h⟩,?_⟩
·rw[show(newX B P).q.lv=List.replicate B 0 from rfl,r0];rfl
·unfold jY at h1;rw[show(newX B P).q.fi=List.replicate B 0 from rfl,r0]at h1;simp at h1
·rw[show(newX B P).cl=List.replicate B 0 from rfl,r0];exact⟨gO _,gO _⟩
·rw[show(newX B P).q.bo=List.replicate B 0 from rfl,r0];exact⟨gO _,by show(0:Int)<1;decide⟩
·rw[rmE];show k.ie*P≤B*P;exact gY _ (by lia)
·show 0<60;decide
·show 0<(B-(1+k.ie))*P;exact Nat.mul_pos (by lia) p1
·rw[show(newX B P).cl=List.replicate B 0 from rfl,r0,r0];lia
rw[rmE]
exact le)
structure Kd(k:Tm)(sh:Int)(sr:Nat)(X:Sx)(KD:Mp):Prop where
x:Ix k X.s
wt:Wt k X.s
ok:X.g.Ok
nd:(KD.map (·.1)).Nodup
kb:∀y∈KD,0≤y.1∧y.1<sh
eq:∀n,n≠64→((∃p,(n,p)∈X.s.q.V)↔n∈KD.map (·.1))
hv:∀y∈KD,Hv X.s y.1 y.2
ls:KD.length≤sr
hs:sr+2≤(X.s.q.B-(1+k.ie))*X.s.q.P
s57:sr≤57
h64:sh≤64
section
variable{k:Tm}{sh:Int}{sr:Nat}{X Y:Sx}{KD:Mp}{n v:Int}{i:Nat}{qs:List Pa}{p:Nat}
theorem Kd.pm(h:Kd k sh sr X KD):((X.s.q.V.map (·.1)).filter λn=>decide (n≠64)).Perm (KD.map (·.1)):=by(
refine q13 (m8 _ h.x.w.qs.ok.nd) h.nd λy=>?_
rw[mK,kP]
constructor
·rintro⟨a,b⟩
 refine(h.eq y b).mp ?_;obtain⟨z,hz,rfl⟩:=kY.mp a;exact⟨z.2,hz⟩
intro hy
have:y≠64:=by obtain⟨z,hz,rfl⟩:=kY.mp hy;have:=h.kb z hz;have:=h.h64;lia
obtain⟨p,hp⟩:=(h.eq y this).mpr hy
exact⟨kY.mpr ⟨_,hp,rfl⟩,this⟩)
theorem Kd.lV(h:Kd k sh sr X KD):X.s.q.V.length≤KD.length+1:=by(
have h1:=qKG h.x.w.qs.ok.nd
have h2:=h.pm.length_eq
rw[h9]at h2
lia)
theorem qD9{s:XS}(x:Ix k s):need k s≤17:=by(
have b2:=x.w.qs.ok.b2
by_cases z:(1+k.ie)*s.q.P≤s.rmX
·have:=qD8 x z;split at this<;>lia
unfold need
split
·lia
rw[kF (by lia)]
split<;>lia)
theorem Kd.can(h:Kd k sh sr X KD)(n0:0≤n)(n1:n<sh)(hc:n∈KD.map (·.1)∨KD.length<sr):(∃p,(n,p)∈X.s.q.V)∨(X.s.q.V.length<59∧X.s.q.V.length+1<(X.s.q.B-(1+k.ie))*X.s.q.P):=by(
have:=h.lV
have:=h.hs
have:=h.s57
have:=h.h64
rcases hc with z|z
·exact .inl ((h.eq n (by lia)).mpr z)
exact .inr ⟨by lia,by lia⟩)
theorem Kd.wrote(h:Kd k sh sr X KD)(n0:0≤n)(n1:n<sh)(hc:n∈KD.map (·.1)∨KD.length<sr)(a:AskO k i X n v Y qs p):Kd k sh sr Y (putW KD n v):=by(
have h64:=h.h64
have mp:∀q,q∈putW KD n v↔q=(n,v)∨(q∈KD∧q.1≠n):=λq=>by rw[qAX h.nd,jO]
have mk:∀m,m∈(putW KD n v).map (·.1)↔m=n∨m∈KD.map (·.1):=λm=>by
 rw[kY,kY];constructor
 ·rintro⟨q,hq,rfl⟩
  rcases(mp q).mp hq with e|⟨e,_⟩
  ·rw[e];exact .inl rfl
  exact .inr ⟨q,e,rfl⟩
 intro z;by_cases e:m=n
 ·exact⟨(n,v),(mp _).mpr (.inl rfl),e.symm⟩
 rcases z with z|⟨q,hq,rfl⟩
 ·exact absurd z e
 exact⟨q,(mp _).mpr (.inr ⟨hq,e⟩),rfl⟩
refine⟨a.x,Wt.of a.ge,a.ok,qDW h.nd,λy hy=>?_,λm m6=>?_,λy hy=>?_,?_,by rw[a.eB,a.eP];exact h.hs,h.s57,h64⟩
·rcases(mp y).mp hy with e|⟨e,_⟩
 ·rw[e];exact⟨n0,n1⟩
 exact h.kb y e
·rw[a.nm,mk,h.eq m m6]
·rcases(mp y).mp hy with e|⟨e,en⟩
 ·rw[e];exact a.hn
 have:=h.kb y e;exact a.hv _ _ (by lia) en (h.hv y e)
unfold putW
split
·rw[h9];exact h.ls
rename_i z
rw[kO,mU]
rcases hc with w|w
·exfalso;obtain⟨q,hq,e⟩:=kY.mp w;exact z (rP.mpr ⟨q,hq,hG e⟩)
lia)
theorem Kd.dark(h:Kd k sh sr X KD)(a:AskD k i X Y qs):Kd k sh sr Y KD:=by have h64:=h.h64;exact⟨a.x,a.wt,a.ok,h.nd,h.kb,λm m6=>by rw[a.kp.nm,h.eq m m6],λy hy=>a.hv _ _ (by have:=h.kb y hy;lia) (h.hv y hy),h.ls,by rw[a.kp.eB,a.kp.eP];exact h.hs,h.s57,h64⟩
theorem Kd.lf(h:Kd k sh sr X KD){l:Option Int}(hl:∀i,l=some i→0≤i):Kd k sh sr ⟨{ X.s with lf:=l },X.g,X.ps⟩ KD:=⟨h.x.lf hl,h.wt,h.ok,h.nd,h.kb,h.eq,h.hv,h.ls,h.hs,h.s57,h.h64⟩
end
end W1
namespace L2
open PySem PySem.Spec PyProof.Rows
section
variable{X:Cx}{k:Nat}{f W:Addr}{fd:FuncData}{ps:List Str}{sp:Sp}{dvs:List V}{ds:List Value}{x m:Str}{p pos apos:Pos}{e:Expr}{es:List Expr}{t:TA}
theorem qKM{CX:CXT}{E:XK}(b:ClM X.K W m f)(F:FnOk X.prog X.w X.K X.mg X.base CX k f fd ps sp)(hr:Room k X.A)(hg:Gl X x)(hm:X.mg x=some (.ref W))(hb:jQ X.K fd ps ds)(hd:Vals dvs ds)(hx:q0X CX X E)(ha:PA X (e::es) t)(hdb:(x==("__debug__":Str))=false:=by decide)
 (he:starEach (e::es) X.env=(false,eval e X.env)::starEach es X.env:=by rfl) (hpl:(backTo pos (starEach es X.env)).any (·.1)=false:=by rfl) {pl:Sem Bool}
 (ht:eval (.Call (.Attribute (.Name x p) m apos) (e::es) [] pos) X.env=(do
  let ov←eval (.Name x p) X.env
  standAt apos.atName
  let(f,first)←holding [ov] (getMethod ov m pl)
  callWith pos f first (backTo pos (starEach (e::es) X.env)) (backToKw pos (keywordEach [] X.env))):=by rfl):
 PE X (.Call (.Attribute (.Name x p) m apos) (e::es) [] pos) (qIH sp dvs E t):=by(
intro pins s σ H Q I h
refine d6 (pl:=pl) (q2U I hg hm ?_ hdb) ht
refine PySem.W.method_cls I.kIn b.ga (PySem.W.cls_value I.kIn b.rd b.fd rfl ?_)
refine rT (first:=[]) (h₀:=X.base) I.ok.mod.kin b.kp (thn (ha pos pins _ σ H _ (I.tok _) h) λus s2 ⟨vs,H2,I2,r,q2⟩=>⟨I2.kIn,?_⟩) he hpl
exact q6D F hr hb hd hx I2 r q2)
end
end L2
namespace W1
open PySem L2
theorem qHZ{k:Tm}{X Y:Sx}{r:Except Rf Pa}(R:XS→Prop)(hp:∀s n v,R s→R (s.put n v))(hw:∀s b,R s→R (s.wip b))(w:WX k X.s)(ok:X.g.Ok)(h:X.room k=(Y,r))(c:R X.s):R Y.s:=by(
unfold Sx.room at h
cases htk:X.s.tk k X.g with
|none=>rw[htk]at h;cases h;exact c
|some ybg=>
 obtain⟨y,b,g'⟩:=ybg;rw[htk]at h;dsimp only at h;have f:=q4E ok htk;obtain⟨s',n,ms,md,lm,cs,hh⟩:=q9H (λs' _=>R s') w f c (λs' ms n p _ _ _ _ _ _ _ _ hc=>hp _ _ _ hc);rcases hh with⟨e,_⟩|⟨e,_⟩
 ·rw[e]at h;cases h;exact cs
 rw[e]at h;dsimp only at h;split at h
 ·cases h;exact cs
 cases h;exact hw _ _ cs)
theorem qB3{k:Tm}(R:XS→Prop)(hp:∀s n v,R s→R (s.put n v))(hw:∀s b,R s→R (s.wip b)):∀{i:Nat} {X Y:Sx} {r:Except Rf Unit},WX k X.s→X.g.Ok→X.rooms k i=some (Y,r)→R X.s→R Y.s
|0,X,Y,r,w,ok,h,c=>by
 unfold Sx.rooms at h;split at h
 ·cases h;exact c
 cases h
|i+1,X,Y,r,w,ok,h,c=>by
 unfold Sx.rooms at h;split at h
 ·cases h;exact c
 cases hr:X.room k with
 |mk Z q=>
  rw[hr]at h;obtain⟨w2,ok2,_⟩:=q9I w ok hr;have c2:=qHZ R hp hw w ok hr c;cases q with
  |error e=>dsimp only at h;cases h;exact c2
  |ok p=>exact qB3 R hp hw w2 ok2 h c2
theorem qC7{k:Tm}{X Y:Sx}{i:Nat}{n v:Int}{r:Except Rf Nat}(R:XS→Prop)(hp:∀s n v,R s→R (s.put n v))(hw:∀s b,R s→R (s.wip b))(w:WX k X.s)(ok:X.g.Ok)(h:X.ask k i n v=some (Y,r))(c:R X.s):R Y.s:=by(
unfold Sx.ask at h
cases hr:X.rooms k i with
|none=>rw[hr]at h;cases h
|some zq=>
 obtain⟨Z,q⟩:=zq;rw[hr]at h;have c2:=qB3 R hp hw w ok hr c;cases q with
 |error e=>dsimp only at h;cases h;exact c2
 |ok u=>
  dsimp only at h;split at h
  ·cases h;exact c2
  cases h;exact hp _ _ _ c2)
theorem qI0{k:Tm}{X Y:Sx}{i:Nat}{n v:Int}{r:Except Rf Nat}(w:WX k X.s)(ok:X.g.Ok)(h:X.ask k i n v=some (Y,r))(c:X.s.lf=none):Y.s.lf=none:=qC7 (λs=>s.lf=none) (λs n v e=>by show s.lf.map _=none;rw[e];rfl) (λs b e=>by show s.lf.map _=none;rw[e];rfl) w ok h c
noncomputable def bst(f:Tl→Int)(b a:Tl):Tl:=if f a<f b then a else b
structure Bst(f:Tl→Int)(l:List Tl)(b:Tl):Prop where
sp:∃as bs,l=as++b::bs∧∀x∈as,f b<f x
le:∀x∈l,f b≤f x
theorem Bst.one{f:Tl→Int}{a:Tl}:Bst f [a] a:=⟨⟨[],[],rfl,λx hx=>(by cases hx)⟩,λx hx=>(by rw[hX.mp hx];exact gO _)⟩
theorem Bst.step{f:Tl→Int}{l:List Tl}{b a:Tl}(h:Bst f l b):Bst f (l++[a]) (bst f b a):=by(
unfold bst
split
·rename_i z;refine⟨⟨l,[],rfl,λx hx=>pI z (h.le x hx)⟩,λx hx=>?_⟩;rcases gT.mp hx with hx|hx
 ·exact wK (pI z (h.le x hx))
 rw[hX.mp hx];exact gO _
rename_i z
obtain⟨as,bs,e,lt⟩:=h.sp
refine⟨⟨as,bs++[a],by rw[e];simp,lt⟩,λx hx=>?_⟩
rcases gT.mp hx with hx|hx
·exact h.le x hx
rw[hX.mp hx]
exact lM.mp z)
theorem Bst.pk{f:Tl→Int}{l:List Tl}{b:Tl}(h:Bst f l b):pk f l=b.b:=by(
have:l.find? (unb f l)=some b:=by
 obtain⟨as,bs,e,lt⟩:=h.sp;refine List.find?_eq_some_iff_append.mpr ⟨?_,as,bs,e,λx hx=>?_⟩
 ·unfold unb;rw[gW];intro x hx;rw[hU (lM.mpr (h.le x hx))];rfl
 have:b∈l:=by rw[e];simp
 rw[g3];unfold unb;rw[List.all_eq_false];exact⟨b,this,by rw[hG (lt x hx)];decide⟩
unfold W1.pk
rw[this]
rfl)
theorem qKN{row:List Int}{n:Nat}{ts:List Tl}:fo row (min n row.length) ts=fo row n ts:=by(
by_cases z:n≤row.length
·rw[aH z]
rw[xQ (by lia)]
unfold fo
rw[gM (kN _),gM (by lia)])
noncomputable def ptN(rc:List (Str×Int×Bool)):Nat:=(rc.filter λd=>decide (d.1=Str.ofString "put")).length
theorem q4F{a b:List (Str×Int×Bool)}:ptN (a++b)=ptN a+ptN b:=by unfold ptN;rw[gL,kO]
end W1
namespace L2
open PySem PySem.W PySem.Spec PyProof.Rows
noncomputable def clO(c:Addr)(v:V):HO:=.ext λh=>∃u,RelV v u∧h.IsCell c (some u)
theorem qKO{P:Program}{w:World}{H:Hp}{h:Heap}{c:Addr}{v:V}{u:Value}(r:RelV v u)(e:h.IsCell c (some u)):jK P w H h c (clO c v):=by refine⟨⟨u,r,e⟩,?_,λh1 h2 ⟨u,r,o,a,b⟩ k=>⟨u,r,o,k _ a,b⟩⟩;obtain⟨o,a,_⟩:=e;exact⟨o,a⟩
theorem q25{H:Hp}{a b:Addr}(h:H b=none):del H a b=none:=by(
unfold del
split
·rfl
exact h)
theorem HOk.del{P:Program}{w:World}{H:Hp}{h:Heap}{a:Addr}{v:V}(ok:HOk P w H h)(e:H a=some (clO a v)):HOk P w (del H a) h:=λb o q=>by
 have hb:b≠a:=λz=>by rw[z,q43]at q;cases q
 rw[vR hb]at q;exact(ok b o q).stay (λ_ _ _ z=>z) (λc z=>by rw[vR (λy=>by rw[y,e]at z;cases z)];exact z) λc xs z=>by rw[vR (λy=>by rw[y,e]at z;cases z)];exact z
theorem HOk.cell{P:Program}{w:World}{H:Hp}{h:Heap}{a:Addr}{v:V}{u:Value}(ok:HOk P w H h)(n:H a=none)(r:RelV v u)(e:h.IsCell a (some u)):HOk P w (upd H a (clO a v)) h:=λb o q=>by(
by_cases hb:b=a
·subst hb;rw[qI]at q;cases q;exact qKO r e
rw[qC hb]at q
exact(ok b o q).stay (λ_ _ _ z=>z) (λc z=>by rw[qC (qH z n)];exact z) λc xs z=>by rw[qC (qH z n)];exact z)
noncomputable def PSr(X:Cx)(st:List Stmt)(t:TE):Prop:=∀(pins:List (Addr×Obj)) (s:Shared) (σ:St) (H:Hp) (Q:VK),Inv X pins σ H s→t σ H Q→wpAny (model X.prog X.w) X.A (execs st X.env) (λf s'=>∃u,f=.ret u∧EP X pins σ Q u s') X.xe s
section
variable{X:Cx}{rest a:List Stmt}{e c:Expr}{pos:Pos}{te ta tb:TE}{tc:TT}
theorem q32(he:PE X e te):PSr X (.Return (some e) pos::rest) te:=by intro pins s σ H Q I h;exact cH (lP (thn (he pins s σ H _ I h) λv s1 q=>⟨v,rfl,q⟩))
noncomputable def tIfR(c:TT)(t u:TE):TE:=λσ H Q=>c σ H λb H1=>if b=true then t σ H1 Q else u σ H1 Q
theorem q6Y(hc:PT X c tc)(ha:PSr X a ta)(hb:PSr X rest tb):PSr X (.If c a [] pos::rest) (tIfR tc ta tb):=by(
intro pins s σ H Q I h
refine cH (wpAny_If (thn (hc pins s σ H _ I h) λd s1 hZ=>?_))
obtain⟨H1,I1,q1⟩:=hZ
cases d with
|true=>exact thn (ha pins s1 σ H1 Q I1 q1) λf s2 ⟨u,e,q⟩=>by subst e;exact⟨u,rfl,q⟩
|false=>exact wU (hb pins s1 σ H1 Q I1 q1))
end
theorem qKP{CX:CXT}{P:Program}{w:World}{K:PySem.W.Frag}{mg:Str→Option Value}{base:Heap}{k:Nat}{f:Addr}{name qual:Str}{params:Arguments}{body:List Stmt}{scope:Scope}{dV kV doc pm cdv ct oc:Value}{an od:Option Addr}
 {osl:Array (Option Value)} {N ps:List Str} {sp:Sp} (lk:K.lookup f=some ⟨oc,od,.func (PySem.W.fnOf name qual params body scope dV kV doc pm an cdv ct),osl⟩) (hcd:PySem.W.codeIn K cdv qual=true) (S:FnScope N ps scope)
 (y:Str) (i:Nat) (hy:N[i]?=some y) (hyc:scope.names.lookup y=some .cell) (len:∀vs H Q E,sp vs H Q E→vs.length=ps.length)
 (hbody:∀(A:Around) (outer:List Env) (s:Shared) (H:Hp) (vs:List V) (Q:VK) (E:XK),Room k (A.deeper (envOfC qual scope s.heap.objs.size f cdv))→sp vs H Q E→∃v0,(zA N vs)[i]?=some (some v0)∧∀ca,(envOfC qual scope s.heap.objs.size f cdv).cells.lookup y=some ca→∃t,PSr (cxOf CX P w K mg base N qual scope f cdv A outer s H E) body t∧t (zA N vs) H λv H'=>H' ca=none→Q v (upd H' ca (clO ca v0))):
 FnOk P w K mg base CX (k+1) f (PySem.W.fnOf name qual params body scope dV kV doc pm an cdv ct) ps sp:=by(
refine⟨len,λA outer s H args us vs Q E hr e0 hb r hsp=>?_⟩
have hl:=len _ _ _ _ hsp
have KX:K.In s.heap:=e0.mod.kin.keeps λb o e=>(e0.bs b o e).1
have lim:s.heap.NoLimit:=e0.mod.nolimit.keeps λb o e=>(e0.bs b o e).1
have hkind:∀y∈ps.zip us,scope.names.lookup y.1=some .local∨(scope.names.lookup y.1=some .cell∧((cellsFrom (s.heap.objs.size+1) scope.names []).lookup y.1).isSome=true):=λ⟨n,v⟩ hy=>by
 rcases S.par n (cU hy).1 with q|q
 ·exact .inl q
 exact .inr ⟨q,cB _ _ _ (.inl q)⟩
refine sU hr.depth (KX _ _ lk) rfl S.co S.gen rfl (lF KX hcd) (hb _ _ _ _ ?_)
refine pE S.kind hkind λenv he s1 x=>?_
subst he
refine⟨lim.keeps x.toInCall.keep,codeAny_func ?_⟩
obtain⟨v0,hv0,hbody⟩:=hbody A outer s H vs Q E (hr.deeper _) hsp
obtain⟨ca,hca⟩:=q6E (n:=s.heap.objs.size+1) hyc
obtain⟨t,ht,hq⟩:=hbody ca hca
have I:Inv (cxOf CX P w K mg base N qual scope f cdv A outer s H E) [] (zA N vs) H s1:=q8E S hr.hd e0 hl r x
refine gR (ht [] s1 (zA N vs) H _ I hq) (λfl s' hs=>?_) λe s' hs=>hs
obtain⟨u,rfl,v,H',J,rv,q⟩:=hs
have nc:H' ca=none:=J.freeC y ca hca
have above:s.heap.objs.size≤ca:=J.ok.cab y ca rfl hca
obtain⟨m,_,hloc⟩:=J.loc
obtain⟨uc,ruc,lkc⟩:=hloc i y v0 hy hv0 (.inr (.inl hyc))
have isc:s'.heap.IsCell ca (some uc):=by
 rcases lkc with⟨z,_⟩|⟨_,c,hc,z⟩
 ·have z:scope.names.lookup y=some .local:=z;rw[hyc]at z;cases z
 have hc:(cellsFrom (s.heap.objs.size+1) scope.names []).lookup y=some c:=hc;rw[hca]at hc;cases hc;exact z
have un:Un (frs outer) [] H H' s.heap s'.heap:=J.base
refine⟨v,upd H' ca (clO ca v0),J.os,J.bare,?_,J.hok.cell nc ruc isc,rv,q nc⟩
exact⟨un.keep,un.slot,λb o e n hx=>by rw[qC (mP (mG (kU e) above))];exact un.free b o e n hx,un.there,λb xs e=>by rw[qC (qH (un.tups b xs e) nc)];exact un.tups b xs e,λb o u e=>by rw[qC (qH (un.frzs b o u e) nc)];exact un.frzs b o u e,λb ps e=>by obtain⟨more,z⟩:=un.tbls b ps e;exact⟨more,by rw[qC (qH z nc)];exact z⟩⟩)
noncomputable def qKQ(P:Program)(w:World)(K:PySem.W.Frag)(mg:Str→Option Value)(kk:Nat)(ta:TE)(t:TA):TE:=λσ H Q=>ta σ H λv H0=>∃f fd,v=.ref f∧t σ H0 λvs H1=>
 H1 f=some (fnO f fd)∧∃ca v0,H1 ca=some (clO ca v0)∧∃k ps sp,(∀base u,RelV v0 u→base.IsCell ca (some u)→FnOk P w K mg base CX0 k f fd ps sp)∧k≤kk∧jQ K fd ps []∧sp vs (del H1 ca) (λv H2=>H2 ca=none→Q v (upd H2 ca (clO ca v0))) E0
theorem qI1{X:Cx}{k:Nat}{f ca:Addr}{v0:V}{fd:FuncData}{ps:List Str}{sp:Sp}{pins:List (Addr×Obj)}{σ:St}{H:Hp}{s:Shared}{Q:VK}{us:List Value}{vs:List V}(hc:H ca=some (clO ca v0))
 (F:∀base u,RelV v0 u→base.IsCell ca (some u)→FnOk X.prog X.w X.K X.mg base CX0 k f fd ps sp) (hr:Room k X.A) (hb:jQ X.K fd ps [])
 (I:Inv X pins σ H s) (r:Vals vs us) (h:sp vs (del H ca) (λv H2=>H2 ca=none→Q v (upd H2 ca (clO ca v0))) E0):wpAny (model X.prog X.w) X.A (call (.ref f) us) (EP X pins σ Q) X.xe s:=by(
obtain⟨⟨u,ru,o,ho,hd⟩,_,_⟩:=I.hok ca _ hc
have up:∀b o,X.base.get? b=some o→(hidT s.heap (yF X.base [ca])).get? b=some o:=λb o e=>q1U (I.bk b o e) (kF (.inl (by rw[e];rfl)))
have inv:∀{b:Addr} {o:Obj},(hidT s.heap (yF X.base [ca])).get? b=some o→s.heap.get? b=some o∧((∃o',X.base.get? b=some o')∨b=ca):=fun {b o} e=>by
 obtain⟨e1,n⟩:=q8X e;refine⟨e1,?_⟩;by_cases z:(X.base.get? b).isSome=true∨b∈[ca]
 ·rcases z with z|z
  ·exact .inl (rG.mp z)
  exact .inr (hX.mp z)
 rw[show yF X.base [ca] b=some (.lst [])from hV z]at n;cases n
obtain⟨mb,hb1,hb2⟩:=I.ok.mod.blt
have e0:Env0 X.prog X.w X.K X.mg (hidT s.heap (yF X.base [ca])) X.A X.stack s (del H ca):=by
 refine⟨I.ok.frames,⟨I.ok.mod.kin.keeps up,I.ok.mod.glob.keeps up,⟨mb,hb1.keeps up,hb2⟩,I.ok.mod.nolimit.keeps up⟩,λb o e=>?_,by rw[q4N];exact kN _,zL I.stack λL hL n=>?_,λb hb=>q25 (I.stkFree b hb),I.hok.del hc,I.bare⟩
 ·obtain⟨e1,z⟩:=inv e;rcases z with⟨o',z⟩|z
  ·exact⟨e1,q25 (I.bs b o' z).2⟩
  exact⟨e1,by rw[z];exact q43⟩
 cases e:(hidT s.heap (yF X.base [ca])).get? L with
 |none=>rfl
 |some o=>
  obtain⟨e1,z⟩:=inv e;rcases z with⟨o',z⟩|z
  ·rw[n]at z;cases z
  have:=I.stkFree L hL;rw[z,hc]at this;cases this
have cel:(hidT s.heap (yF X.base [ca])).IsCell ca (some u):=⟨o,q1U ho (kF (.inr (by simp))),hd⟩
have F':=F _ u ru cel
have hl:us.length=ps.length:=by rw[←r.length];exact F'.len _ _ _ _ h
refine rS (wJ (F'.run X.A X.stack s (del H ca) ⟨us,[]⟩ us vs _ E0 hr e0 (by have:=hb s us I.kIn (by rw[dB];exact hl);rw[dB]at this;exact this) r h) λr s' hq=>?_)
cases r with
|error e=>exact False.elim hq
|ok fl=>
 cases fl with
 |ret u'=>
  obtain⟨v,H',os,bare,un,hok,rv,q⟩:=hq;have nc:H' ca=none:=un.free ca o ho q43 (by simp);have ncf:ca∉frs X.stack:=λz=>by have:=I.stkFree ca z;rw[hc]at this;cases this
  have ho':s'.heap.get? ca=some o:=un.keep ca o ho q43 ncf (by simp);have ne:∀{b:Addr} {x:HO},H b=some x→x≠clO ca v0→b≠ca:=fun {b x} e n z=>by rw[z,hc]at e;exact n (kL e).symm
  refine I.after ⟨v,upd H' ca (clO ca v0),os,bare,?_,hok.cell nc ru ⟨o,ho',hd⟩,rv,q nc⟩;refine⟨λb o e n=>un.keep b o e (q25 n),λb o e n=>un.slot b o e (q25 n),λb o e n hx=>?_,un.there,λb xs e=>?_,λb o u e=>?_,λb ps e=>?_⟩
  ·rw[qC (qH hc n).symm];exact un.free b o e (q25 n) hx
  ·have nb:b≠ca:=ne e (λz=>by cases z);rw[qC nb];exact un.tups b xs (by rw[vR nb];exact e)
  ·have nb:b≠ca:=ne e (λz=>by cases z);rw[qC nb];exact un.frzs b o u (by rw[vR nb];exact e)
  have nb:b≠ca:=ne e (λz=>by cases z);rw[qC nb];exact un.tbls b ps (by rw[vR nb];exact e)
 |next=>exact False.elim hq
 |brk=>exact False.elim hq
 |cont=>exact False.elim hq)
theorem q8R{X:Cx}{kk:Nat}{x:Str}{p pos:Pos}{e:Expr}{es:List Expr}{ta:TE}{t:TA}(hv:PE X (.Name x p) ta)(hr:Room kk X.A)(ha:PA X (e::es) t)
 (he:starEach (e::es) X.env=(false,eval e X.env)::starEach es X.env:=by rfl) (hpl:(backTo pos (starEach es X.env)).any (·.1)=false:=by rfl):
 PE X (.Call (.Name x p) (e::es) [] pos) (qKQ X.prog X.w X.K X.mg kk ta t):=by(
intro pins s σ H Q I h
refine g7 (thn (hv pins s σ H _ I h) λu s0 hZ=>?_)
obtain⟨v,H0,I0,r0,f,fd,e1,q⟩:=hZ
subst e1
cases r0
have ha':=ha pos pins s0 σ H0 _ I0 q
show wpAny _ _ (callWith pos (.ref f) [] (backTo pos (starEach (e::es) X.env)) []) _ _ _
rw[he]at ha' ⊢
refine Calls.callWith_function (o:=fnOb fd) (fd:=fd) (cR (thn ha' λus s1 ⟨vs,H1,I1,r,hf,ca,v0,hc,k,ps,sp,F,hk,hb,q⟩=>⟨⟨qFV I1.hok hf,rfl⟩,?_⟩))
exact qI1 hc (λb u r c=>(F b u r c).mono hk) hr hb I1 r q)
theorem PSr.nox{X:Cx}{st:List Stmt}{t:TE}(h:PSr X.nox st t):PSr X st t:=λpins s σ H Q I hw=>gR (h pins s σ H Q (I.wish _) hw) (λf s1 ⟨u,e,v,H1,J,r,q⟩=>⟨u,e,v,H1,J.unwish,r,q⟩) λ_ _ z=>z.elim
theorem FunT.okR{P:Program}{w:World}{K:PySem.W.Frag}{mg:Str→Option Value}{base:Heap}{x qual:Str}{st:Stmt}{c f:Addr}{fd:FuncData}{N ps:List Str}{k:Nat}{sp:Sp}(F:FunT K x qual st c f fd)(S:FnScope N ps (qF st))(y:Str)(i:Nat)(hy:N[i]?=some y)(hyc:(qF st).names.lookup y=some .cell)(len:∀vs H Q E,sp vs H Q E→vs.length=ps.length)
 (hbody:∀(A:Around) (outer:List Env) (s:Shared) (H:Hp) (vs:List V) (Q:VK) (E:XK),Room k (A.deeper (envOfC qual (qF st) s.heap.objs.size f (.ref c)))→sp vs H Q E→∃v0,(zA N vs)[i]?=some (some v0)∧∀ca,(envOfC qual (qF st) s.heap.objs.size f (.ref c)).cells.lookup y=some ca→∃t,PSr (cxOf CX0 P w K mg base N qual (qF st) f (.ref c) A outer s H E).nox (jS st) t∧t (zA N vs) H λv H'=>H' ca=none→Q v (upd H' ca (clO ca v0))):FnOk P w K mg base CX0 (k+1) f fd ps sp:=by(
obtain⟨oc,od,kV,doc,pm,an,ct,osl,rfl,lk,hcd⟩:=F.ex
refine qKP lk hcd S y i hy hyc len λA outer s H vs Q E hr hsp=>?_
obtain⟨v0,h0,hb⟩:=hbody A outer s H vs Q E hr hsp
refine⟨v0,h0,λca hca=>?_⟩
obtain⟨t,h,q⟩:=hb ca hca
exact⟨t,h.nox,q⟩)
noncomputable def qLR(T:Addr)(pos:Pos)(qual:Str)(params:Arguments)(body:Expr)(scope:Scope)(clos:List (Str×Addr))(pm:Value):TE:=λσ H Q=>∃ps,H T=some (.tbl ps)∧TriplesOk ps.toList∧((codeAmong pos ps.toList=none∧∀(f c':Addr) (ctv:Value) (H':Hp),H f=none→H c'=none→H' f=some (fnO f (kla_fn "<lambda>" qual params body scope clos pm (.ref c') ctv))→H' c'=some (cdO c' qual)→H' T=some (.tbl (ps++#[rawInt pos.line,rawInt pos.col,.ref c']))→(∀b o,b≠T→H b=some o→H' b=some o)→Q (.ref f) H')∨∃c',codeAmong pos ps.toList=some (.ref c')∧∀(f:Addr) (ctv:Value) (H':Hp),H f=none→H' f=some (fnO f (kla_fn "<lambda>" qual params body scope clos pm (.ref c') ctv))→Same H H'→Q (.ref f) H')
theorem qI2{X:Cx}{c T:Addr}{params:Arguments}{body:Expr}{scope:Scope}{pos:Pos}{clos:List (Str×Addr)}(hcode:X.env.code=.ref c)(hcd:codeHdIn X.K c T=true)(B:BmIn X.base X.mg)(hcl:closureFor scope X.env=pure clos)(hdef:defaultsOf params X.env=([],[])):
 PE X (.Lambda params body scope pos) (qLR T pos (X.env.qual++"<lambda>") params body scope clos ((X.mg "__name__").getD .none)):=λpins s σ H Q I ⟨ps,hT,ht,h⟩=>by(
rcases h with⟨hn,q⟩|⟨c',hn,q⟩
·exact qD0 hcode hcd B hcl hdef pins s σ H Q I ⟨ps,hT,ht,hn,λf c' ctv nf nc fc=>q f c' ctv _ nf nc qI (by rw[qC fc.symm];exact qI) (by rw[qC (qH hT nf),qC (qH hT nc)];exact qI) λb o nb e=>by rw[qC (qH e nf),qC (qH e nc),qC nb];exact e⟩
exact qAY hcode hcd B hcl hdef pins s σ H Q I ⟨ps,c',hT,ht,hn,λf ctv nf=>q f ctv _ nf qI (Same.upd nf)⟩)
structure EqNo(K:PySem.W.Frag)(C:Addr):Prop where
eq:findIn K (.ref C) "__eq__"=some (some (.builtin "object.__eq__"))
ne:findIn K (.ref C) "__ne__"=some (some (.builtin "object.__ne__"))
ob:mroIn K C (.type "object")=some true
section
variable{prog:Program}{w:World}{A:Around}{E:Value→Shared→Prop}{s:Shared}{K:Frag}{x C:Addr}{ox:Obj}{od:Option Obj}
theorem spb{name:Str}{id:String}{args:List Value}{Q:Option Value→Shared→Prop}(X:K.In s.heap)(I:W.InstAt s.heap x ox C od)(hs:findIn K (.ref C) name=some (some (.builtin id)))(hb:∀self:Value,bindSpecial (.builtin id) self=pure (.builtin id,[self]))
 (h:wpAny (model prog w) A (call (.builtin id) (.ref x::args)) (λv=>Q (some v)) E s):wpAny (model prog w) A (callSpecialIfBound? (.ref x) name args) Q E s:=by(
unfold callSpecialIfBound?
refine gQ (hI ?_)
unfold bindSpecialIfBound?
refine hI (hI (lN I.type (lN (looks_findIn X hs) ?_)))
simp only[hb]
have fin:wpAny (model prog w) A (match some (Value.builtin id,[Value.ref x])with|some (g,first)=>do let r←call g (first++args);pure (some r)|x=>pure none) Q E s:=hI (gR h (λv s' h'=>kX h') λ_ _ h'=>h')
refine hI (wpAny_askSetting (wpAny_ite ?_))
split
·exact hI (kX (kX fin))
exact wpAny_tryCatch (hI (kX (kX fin))))
theorem qGF{Q:Value→Shared→Prop}(X:K.In s.heap)(I:W.InstAt s.heap x ox C od)(hm:mroIn K C (.type "object")=some true)(hq:Q (.bool true) s):wpAny (model prog w) A (call (.builtin "object.__eq__") [.ref x,.ref x]) Q E s:=rS (wG sF.plain F.cmpEntry_eq (check_slot F.cmpKind_eq F.cmpSplit_eq (I.type.andThen (looks_mroIn X hm)) (F.cmpArgs_eq (.ref x) (.ref x)) (objEq_entry_same hq)))
theorem qKR{Q:Value→Shared→Prop}(X:K.In s.heap)(I:W.InstAt s.heap x ox C od)(c:EqNo K C)(hu:A.in1.units<cLine)(hq:Q (.bool false) s):wpAny (model prog w) A (call (.builtin "object.__ne__") [.ref x,.ref x]) Q E s:=by refine rS (wG xR.plain F.cmpEntry_ne (check_slot F.cmpKind_ne F.cmpSplit_ne (I.type.andThen (looks_mroIn X c.ob)) (F.cmpArgs_ne (.ref x) (.ref x)) ?_));refine hI (kX (hI (wpAny_cRoomFor hu (hI (spb X I c.eq sF.bind (qGF X I c.ob ?_))))));exact hI (kX (kX hq))
theorem q8S{op:CmpOp}{k:Bool}{Q:Value→Shared→Prop}(I:W.InstAt s.heap x ox C od)(hu:A.units<cLine)
 (h:∀Q':Option Value→Shared→Prop,Q' (some (.bool k)) s→wpAny (model prog w) A (callSpecialIfBound? (.ref x) (cmpInfo op).2.1 [.ref x]) Q' E s) (hq:Q (.bool k) s):wpAny (model prog w) A (richCompare op (.ref x) (.ref x)) Q E s:=by(
unfold richCompare
refine gQ (hI (wpAny_cRoomFor hu ?_))
refine hI (lN I.type (hI (lN I.type ?_)))
rw[hV (by simp)]
refine hI (kX ?_)
dsimp only
rw[hV (by decide)]
refine hI (hI (h _ (kX (kX hq)))))
end
section
variable{X:Cx}
noncomputable def qIS(K:Frag)(k:Bool):R2:=λx y H Q=>∃a C dx fs,x=.ref a∧y=.ref a∧H a=some (.ins C dx fs)∧EqNo K C∧Q (.bl k) H
theorem qKS(hu:X.A.units+64<cLine):OpR X (compareOp .Eq) (qIS X.K true):=by(
intro pins s σ H x y v u Q I rx ry h
obtain⟨a,C,dx,fs,rfl,rfl,ha,c,q⟩:=h
cases rx
cases ry
obtain⟨_,_,ne,e,mA,hn,_⟩:=I.hok a _ ha
obtain⟨od,J,_⟩:=ObjM.look ⟨e,hn,ne⟩
exact q8S (op:=.Eq) J (by lia) (λQ' q'=>spb I.kIn J c.eq sF.bind (qGF I.kIn J c.ob q')) ⟨.bl true,H,I,rfl,q⟩)
theorem qKT(hu:X.A.units+64<cLine):OpR X (compareOp .NotEq) (qIS X.K false):=by(
intro pins s σ H x y v u Q I rx ry h
obtain⟨a,C,dx,fs,rfl,rfl,ha,c,q⟩:=h
cases rx
cases ry
obtain⟨_,_,ne,e,mA,hn,_⟩:=I.hok a _ ha
obtain⟨od,J,_⟩:=ObjM.look ⟨e,hn,ne⟩
exact q8S (op:=.NotEq) J (by lia) (λQ' q'=>spb I.kIn J c.ne xR.bind (qKR I.kIn J c (by show X.A.units+1<cLine;lia) q')) ⟨.bl false,H,I,rfl,q⟩)
open Classical in
theorem qI3{K:Frag}(eK:X.K=K)(hu:X.A.units+64<cLine):OpR X (compareOp .In) (λx y H Q=>∃(a l:Addr) (ns:List Int) (us:List V) (rows:List (List Int)),x=.ref a∧y=.ref l∧SqT K H a (ns.map V.int)∧SqL K H l us∧Paired (λu (r:List Int)=>∃b,u=.ref b∧SqT K H b (r.map V.int)∧r.length=ns.length) us rows∧Q (.bl (decide (ns∈rows))) H):=by(
subst eK
intro pins s σ H x y v u Q I rx ry h
obtain⟨a,l,ns,us,rows,rfl,rfl,ha,hl,pr,q⟩:=h
cases rx
cases ry
obtain⟨its,r,pl,_⟩:=I.list hl
obtain⟨i2,r2,p2,_⟩:=I.tuple ha
have l2:=r2.length
rw[h9]at l2
let e:Value→Bool:=λz=>match z with
 | .ref b=>decide (∃ms:List Int,SqT X.K H b (ms.map V.int)∧ms=ns)
 |_=>false
have ans:∀z∈its,SeqAt.EqAt X.A.in1 s z (.ref a) (e z):=λz hz=>by
 obtain⟨j,hj,rfl⟩:=gX hz;obtain⟨v,hv,rv⟩:=r.atN hj;obtain⟨ms,_,b,rfl,hb,hlen⟩:=Paired.at pr hv;have rv:its[j]=.ref b:=rv;rw[rv];obtain⟨i1,r1,p1,_⟩:=I.tuple hb;have l1:=r1.length;rw[h9]at l1;by_cases ab:b=a
 ·subst ab;have:ms=ns:=by have:=I.tuple_inj hb ha;exact(pM (λ_ _ h=>V.int.inj h)).mp this
  rw[show e (.ref b)=true from hG ⟨ms,hb,this⟩];exact cV _
 have k:=xA (A:=X.A.in1) (e:=λj=>ms.getD j 0==ns.getD j 0) (show s.heap.IsTuple b i1.toArray from p1) (show s.heap.IsTuple a i2.toArray from p2) (by show X.A.units+1<cLine;lia) (λj h1 h2=>by obtain⟨t1,e1⟩:=q46 r1 (j:=j) (by simpa using h1);obtain⟨t2,e2⟩:=q46 r2 (j:=j) (by simpa using h2);have z:=pF (A:=X.A.in1.in1) (s:=s) (ms.getD j 0) t1 (ns.getD j 0) t2;rw[←e1,←e2]at z;simpa using z);rw[show min i1.toArray.size i2.toArray.size=ms.length by simp;lia,qAR hlen,show(i1.toArray.size==i2.toArray.size)=true by simp;lia,aY]at k;have ee:e (.ref b)=decide (ms=ns):=cN.mpr ⟨λ⟨m',h',e'⟩=>by have:=(pM (λ_ _ h=>V.int.inj h)).mp (I.tuple_inj hb h');rw[this];exact e',λz=>⟨ms,hb,z⟩⟩;rw[ee];exact pH ab k
refine xX e pl.isList (λw hw=>ans w (by simpa using hw)) ⟨.bl _,H,I,rfl,?_⟩
rw[show its.toArray.any e=decide (ns∈rows)from ?_]
·exact q
rw[show its.toArray.any e=its.any e by simp,rC,rP,kP]
constructor
·rintro⟨z,hz,ez⟩
 obtain⟨j,hj,rfl⟩:=gX hz;obtain⟨v,hv,rv⟩:=r.atN hj;obtain⟨ms,hm,b,rfl,hb,hlen⟩:=Paired.at pr hv;have rv:its[j]=.ref b:=rv;rw[rv]at ez;obtain⟨m',h',e'⟩:=mM ez;have:=(pM (λ_ _ h=>V.int.inj h)).mp (I.tuple_inj hb h');rw[←e',←this];exact gJ hm
intro hm
obtain⟨j,hj,e1⟩:=gX hm
have lu:=pr.len
have lr:=r.length
have hj2:j<us.length:=by lia
have hj3:j<its.length:=by lia
refine⟨its[j],gD hj3,?_⟩
obtain⟨v,hv,rv⟩:=r.atN hj3
obtain⟨ms,hm',b,rfl,hb,hlen⟩:=Paired.at pr hv
rw[kC hj]at hm'
have rv:its[j]=.ref b:=rv
rw[rv]
exact hG ⟨ms,hb,by rw[←kL hm',e1]⟩)
end
end L2
namespace L2
open PySem
theorem q8T{K:PySem.W.Frag}{a:Addr}{xs:List V}{g:TG}{tb:TS}{D:Ends}{σ:St}{H:Hp}(Pv:Nat→St→Hp→Prop)(h0:Pv 0 σ H)(hl:∀i σ H,i≤xs.length→Pv i σ H→SqL K H a xs)
 (hs:∀i x σ H (D':Ends),(∀σ' H',Pv (i+1) σ' H'→D'.nx σ' H')→xs[i]?=some x→Pv i σ H→g x σ H λσ2 H2=>tb D' σ2 H2) (hd:∀σ H,Pv xs.length σ H→D.nx σ H):
 ∃W:Nat→Nat→St→Hp→Prop,(∃m,W 0 m σ H)∧∀i m σ H,W i m σ H→((Itl K a).stop i H∧D.nx σ H)∨((Itl K a).go i H∧∃N:St→Hp→Prop,(∀σ' H',N σ' H'→∃m',m'<m∧W (i+1) m' σ' H')∧∀x H',(Itl K a).yld i H x H'→g x σ H' λσ2 H2=>tb { D with nx:=N,ct:=N,bk:=D.nx } σ2 H2):=q0J Pv h0 hl (λi x σ H hx p=>hs i x σ H _ (λ_ _ q=>q) hx p) hd
theorem qC8{lo:Int}{n:Nat}{g:TG}{tb:TS}{D:Ends}{σ:St}{H:Hp}(Pv:Nat→St→Hp→Prop)(h0:Pv 0 σ H)
 (hs:∀i σ H (D':Ends),(∀σ' H',Pv (i+1) σ' H'→D'.nx σ' H')→i<n→Pv i σ H→g (.int (lo+i)) σ H λσ2 H2=>tb D' σ2 H2) (hd:∀σ H,Pv n σ H→D.nx σ H):
 ∃W:Nat→Nat→St→Hp→Prop,(∃m,W 0 m σ H)∧∀i m σ H,W i m σ H→((Itr lo n).stop i H∧D.nx σ H)∨((Itr lo n).go i H∧∃N:St→Hp→Prop,(∀σ' H',N σ' H'→∃m',m'<m∧W (i+1) m' σ' H')∧∀x H',(Itr lo n).yld i H x H'→g x σ H' λσ2 H2=>tb { D with nx:=N,ct:=N,bk:=D.nx } σ2 H2):=q4R Pv h0 (λi σ H hx p=>hs i σ H _ (λ_ _ q=>q) hx p) hd
theorem iV{σ:St}{i:Nat}{v:V}{Q:V→Prop}(e:σ[i]?=some (some v))(q:Q v):∃v,σ[i]?=some (some v)∧Q v:=⟨v,e,q⟩
theorem iF{K:PySem.W.Frag}{H:Hp}{f:Str}{a C d:Addr}{fs:List (Str×V)}{v:V}{Q:V→Prop}(o:H a=some (.ins C d fs))(cl:Cls K C)(na:qP K C f)(lk:fs.lookup f=some v)(q:Q v):
 ∃a' C dx fs v,V.ref a=.ref a'∧H a'=some (.ins C dx fs)∧Cls K C∧qP K C f∧fs.lookup f=some v∧Q v:=⟨a,C,d,fs,v,rfl,o,cl,na,lk,q⟩
theorem iM{H:Hp}{m:Str}{a C d:Addr}{fs:List (Str×V)}{q:Prop}(o:H a=some (.ins C d fs))(lk:fs.lookup m=none)(k:q):
 ∃a' dx fs,V.ref a=.ref a'∧H a'=some (.ins C dx fs)∧fs.lookup m=none∧q:=⟨a,d,fs,rfl,o,lk,k⟩
theorem iI{i j:Int}{Q:Int→Int→Prop}(q:Q i j):∃i' j',V.int i=.int i'∧V.int j=.int j'∧Q i' j':=⟨i,j,rfl,rfl,q⟩
theorem iL{K:PySem.W.Frag}{H:Hp}{p:Addr}{xs:List V}{k:Int}{v:V}{Q:V→Prop}(h:SqL K H p xs)(e:atI xs k=some v)(q:Q v):∃p' xs k' v,V.ref p=.ref p'∧V.int k=.int k'∧SqL K H p' xs∧atI xs k'=some v∧Q v:=⟨p,xs,k,v,rfl,rfl,h,e,q⟩
theorem iT{K:PySem.W.Frag}{H:Hp}{p:Addr}{xs:List V}{k:Int}{v:V}{Q:V→Prop}(h:SqT K H p xs)(e:atI xs k=some v)(q:Q v):∃p' xs k' v,V.ref p=.ref p'∧V.int k=.int k'∧SqT K H p' xs∧atI xs k'=some v∧Q v:=⟨p,xs,k,v,rfl,rfl,h,e,q⟩
end L2
namespace W1
open PySem L2
theorem qGG:∀{L:List (List Int)} {s s':XS} {ms:List (List Int)},XS.mvs L s=(s',some ms)→s'.q.nx=s.q.nx+(ms.length:Int)
| [],s,s',ms,h=>by unfold XS.mvs at h;cases h;show s.q.nx=s.q.nx+0;lia
|k::r,s,s',ms,h=>by
 unfold XS.mvs at h;split at h
 ·cases h
 split at h
 ·cases h
 rename_i s2 ms2 h2;cases h;have:=qGG h2;rw[this];show s.q.nx+1+ _=_;rw[mB];lia
noncomputable def gN:Rl→Nat→Rl
| .fol row u,n=>.fol row (min (u+n) row.length)
|g,_=>g
noncomputable def NoF(g:Rl):Prop:=∀row u,g≠ .fol row u
theorem qDA{g:Rl}{P nw:Int}{ts:List Tl}:(g.ch P nw ts).2=gN g 1:=by cases g<;>rfl
theorem qKU{g:Rl}{a b:Nat}:gN (gN g a) b=gN g (a+b):=by(
cases g with
|rk f=>rfl
|win m=>rfl
|fol row u=>show Rl.fol row _=Rl.fol row _;congr 1;lia)
theorem qGH{g:Rl}{n:Nat}(h:NoF g):gN g n=g:=by(
cases g with
|rk f=>rfl
|win m=>rfl
|fol row u=>exact absurd rfl (h row u))
noncomputable def LeF(g:Rl):Prop:=∀row u,g=.fol row u→u≤row.length
theorem gN_0{g:Rl}(h:LeF g):gN g 0=g:=by(
cases g with
|rk f=>rfl
|win m=>rfl
|fol row u=>show Rl.fol row _=Rl.fol row _;have:=h row u rfl;congr 1;lia)
theorem qLS{g:Rl}{n:Nat}(h:LeF g):LeF (gN g n):=by(
cases g with
|rk f=>exact h
|win m=>exact h
|fol row u=>
 rintro r2 u2 e
 cases e;exact xT _ _)
noncomputable def isE{α β:Type}:Except α β→Bool
| .ok _=>false
| .error _=>true
structure TsOk(pg nw:Int)(ts:List Tl):Prop where
pw:ts.Pairwise λa c=>a.b<c.b
ln:ts.length≤16
ok:∀o∈ts,o.Ok pg nw
ne:ts≠[]
p1:1≤pg
p2:pg≤16
theorem qGI{k:Tm}{s:XS}(w:WX k s)(rc:s.rc.length<1000000)(ne:s.opt k≠[]):TsOk (s.q.P:Int) s.q.nx (s.ots k):=by(
have p1:=w.qs.ok.p1
have p2:=w.qs.ok.p2
have pw:(s.opt k).Pairwise (· < ·):=by
 unfold XS.opt XS.ded XS.ful;split
 ·exact m8 _ (m8 _ (m8 _ gZ))
 exact m8 _ (m8 _ gZ)
refine⟨gF.mpr (pw.imp fun {a b} h=>by show(a:Int)<(b:Int);lia),by show((s.opt k).map s.tl).length≤16;rw[h9];exact qG8 w,λo ho=>?_,λz=>ne (dU.mp z),by lia,by lia⟩
obtain⟨b,hb,rfl⟩:=kY.mp ho
exact qIR w rc (uT.mp hb).1.1.b)
noncomputable def Chn(P:Int):Rl→Int→List Pa→Prop
|_,_,[]=>True
|g,nw,p::ps=>p.why=Str.ofString "rule"∧TsOk P nw p.ts∧(p.b:Int)=(g.ch P nw p.ts).1∧Chn P (gN g 1) (nw+(p.mv.length:Int)) ps
structure ChO(k:Tm)(X Y:Sx)(dk:Bool)(qs:List Pa):Prop where
ps:Y.ps=X.ps++qs
ch:Chn (X.s.q.P:Int) X.g X.s.q.nx qs
hd:∀p r,qs=p::r→p.ts=X.s.ots k
g1:NoF X.g→Y.g=X.g
g2:dk=false→Y.g=gN X.g qs.length
theorem qB4{k:Tm}{X Y:Sx}{r:Except Rf Pa}(ev:k.ev=false)(w:WX k X.s)(ok:X.g.Ok)(rc:X.s.rc.length<1000000)(h:X.room k=(Y,r)):(∃p,r=.ok p∧ChO k X Y false [p]∧Y.s.q.nx=X.s.q.nx+(p.mv.length:Int)∧Y.s.q.P=X.s.q.P)∨(∃e,r=.error e∧ChO k X Y true []):=by(
have rr:=q6X w ok
rw[h]at rr
cases rr with
|no _=>exact .inr ⟨_,rfl,⟨by simp,trivial,λp r e=>(by cases e),λ_=>rfl,λe=>by cases e⟩⟩
|dark tk md _ _=>
 rcases vO ok tk with⟨_,_,_,eg⟩|⟨_,e,_⟩
 ·exact .inr ⟨_,rfl,⟨by simp,trivial,λp r e=>(by cases e),λz=>(by show _=_;rw[eg,qDA,qGH z]),λe=>by cases e⟩⟩
 rw[ev]at e;cases e
|ok tk mv md ml lf w' rm=>
 rename_i y b g' s' ms;rcases vO ok tk with⟨ey,hb,e1,eg⟩|⟨_,e,_⟩
 ·refine .inl ⟨_,rfl,⟨rfl,⟨ey,?_,e1,trivial⟩,λp r e=>?_,λz=>(by show g'=_;rw[eg,qDA,qGH z]),λ_=>(by show g'=_;rw[eg,qDA];rfl)⟩,(by show s'.q.nx=_;exact qGG mv),md.eP⟩
  ·exact qGI w rc (λz=>by rw[z]at hb;cases hb)
  cases e;rfl
 rw[ev]at e;cases e)
theorem q50{k:Tm}(ev:k.ev=false):∀{i:Nat} {X Y:Sx} {r:Except Rf Unit},WX k X.s→X.g.Ok→LeF X.g→X.s.rc.length+17*i<1000000→X.rooms k i=some (Y,r)→∃qs,ChO k X Y (isE r) qs
|0,X,Y,r,w,ok,le,rc,h=>by
 unfold Sx.rooms at h;split at h
 ·cases h;exact⟨[],by simp,trivial,λp r e=>(by cases e),λ_=>rfl,λ_=>(gN_0 le).symm⟩
 cases h
|i+1,X,Y,r,w,ok,le,rc,h=>by
 unfold Sx.rooms at h;split at h
 ·cases h;exact⟨[],by simp,trivial,λp r e=>(by cases e),λ_=>rfl,λ_=>(gN_0 le).symm⟩
 split at h
 ·rename_i Z e hz;cases h;rcases qB4 ev w ok (by lia) hz with⟨p,e',_⟩|⟨e',_,c⟩
  ·cases e'
  exact⟨[],c.ps,c.ch,c.hd,c.g1,λz=>by cases z⟩
 rename_i Z p hz;obtain⟨w2,ok2,_,r2,_⟩:=q9I w ok hz;rcases qB4 ev w ok (by lia) hz with⟨p',e',c,nx,eP⟩|⟨e',z,_⟩
 ·cases e';have hg:Z.g=gN X.g 1:=c.g2 rfl;obtain⟨qs,d⟩:=q50 ev w2 ok2 (by rw[hg];exact qLS le) (by lia) h;have dc:=d.ch;rw[hg,eP,nx]at dc;refine⟨p::qs,by rw[d.ps,c.ps];simp,⟨c.ch.1,c.ch.2.1,c.ch.2.2.1,dc⟩,λp2 r2 e2=>?_,λz=>?_,λz=>?_⟩
  ·cases e2;exact c.hd _ _ rfl
  ·have e1:Z.g=X.g:=c.g1 z;rw[d.g1 (by rw[e1];exact z),e1]
  rw[d.g2 z,hg,qKU,mB,Nat.add_comm]
 cases z
theorem qI4{k:Tm}(ev:k.ev=false){i:Nat}{X Y:Sx}{n v:Int}{r:Except Rf Nat}(w:WX k X.s)(ok:X.g.Ok)(le:LeF X.g)(rc:X.s.rc.length+17*i<1000000)(h:X.ask k i n v=some (Y,r)):∃qs dk,ChO k X Y dk qs∧(dk=true→∃e,r=.error e):=by(
unfold Sx.ask at h
split at h
·cases h
·rename_i Z e hz;cases h;obtain⟨qs,c⟩:=q50 ev w ok le rc hz;exact⟨qs,_,c,λ_=>⟨_,rfl⟩⟩
rename_i Z u hz
obtain⟨qs,c⟩:=q50 ev w ok le rc hz
split at h
·cases h;exact⟨qs,_,c,λ_=>⟨_,rfl⟩⟩
cases h
exact⟨qs,false,⟨c.ps,c.ch,c.hd,c.g1,λ_=>c.g2 rfl⟩,λz=>by cases z⟩)
noncomputable def Nx(s:XS):Prop:=s.q.nx=1+(ptN s.rc:Int)
theorem Nx.put{s:XS}{n v:Int}(h:Nx s):Nx (s.put n v):=by show s.q.nx+1=1+(ptN (s.rc++[(Str.ofString "put",(s.np:Int),true)]):Int);rw[q4F,h,show ptN [(Str.ofString "put",(s.np:Int),true)]=1 from rfl];lia
theorem Nx.wip{s:XS}{b:Nat}(h:Nx s):Nx (s.wip b):=by show s.q.nx=1+(ptN (s.rc++[(Str.ofString "wipe",(b:Int),true)]):Int);rw[q4F,h,show ptN [(Str.ofString "wipe",(b:Int),true)]=0 from rfl];lia
theorem Nx.ask{k:Tm}{i:Nat}{X Y:Sx}{n v:Int}{r:Except Rf Nat}(w:WX k X.s)(ok:X.g.Ok)(h:X.ask k i n v=some (Y,r))(c:Nx X.s):Nx Y.s:=qC7 Nx (λ_ _ _ z=>z.put) (λ_ _ z=>z.wip) w ok h c
theorem lx_b{x y:Tl}(h:x.b<y.b):lx y.ns x.ns=false:=by(
show lx [y.b,y.lv,y.cl,y.bo] [x.b,x.lv,x.cl,x.bo]=false
unfold lx
rw[hV (by lia)]
exact hU (by lia))
theorem qGJ{m:Int}{ts A:List Tl}(pw:ts.Pairwise λa c=>a.b<c.b)(AP:A.Perm ts)(w1:A.Pairwise agR):ts.filter (λT=>decide ([T.bo,T.b]∈(A.take m.toNat).map λo=>[o.bo,o.b]))=winC m ts:=by(
classical
have unl:∀a∈ts,∀c∈ts,a.b=c.b→a=c:=by
 intro a ha c hc e;obtain⟨i,hi,rfl⟩:=gX ha;obtain⟨j,hj,rfl⟩:=gX hc;rcases xH i j with z|z|z
 ·have:=dG.mp pw i j hi hj z;lia
 ·subst z;rfl
 have:=dG.mp pw j i hj hi z;lia
have nd:ts.Nodup:=pw.imp fun {a c} h e=>absurd h (by rw[e];lia)
have ndA:A.Nodup:=AP.nodup_iff.mpr nd
refine qB2 unl AP w1 (q13 (nd.filter _) (ndA.sublist (lW _ _)) λT=>?_) ((pw.filter _).imp λh=>lx_b h)
rw[mK,kP,kY]
constructor
·rintro⟨hT,o,ho,e⟩
 have hb:o.b=T.b:=by injection e with _ e;injection e
 rw[←unl o (AP.mem_iff.mp (wH ho)) T hT hb];exact ho
intro h
exact⟨AP.mem_iff.mp (wH h),T,h,rfl⟩)
theorem q8U{α β:Type}{F:α→β→Prop}:∀{xs:List α} {ys:List β},Paired F xs ys→Paired (λx y=>F x y∧y∈ys) xs ys
|_,_,.nil=>.nil
|_,_,.cons h t=>.cons ⟨h,kQ⟩ (Paired.mapP (q8U t) λ_ _ z=>⟨z.1,kB _ z.2⟩)
end W1
namespace L2
open PySem PySem.Spec PyProof.Rows
structure Fn1(K:PySem.W.Frag)(x q:Str)(st:Stmt)(f:Addr)(ps:List Str) where
fd:FuncData
F:FunD K x q st .none f fd
b:jQ K fd ps []
noncomputable abbrev Fn1.Ok0{K:PySem.W.Frag}{x q:Str}{st:Stmt}{f:Addr}{ps:List Str}(F:Fn1 K x q st f ps)(P:Program)(w:World)(mg:Str→Option Value)(base:Heap)(k:Nat)(sp:Sp):Prop:=FnOk P w K mg base CX0 k f F.fd ps sp
noncomputable abbrev Fn1.OkE{K:PySem.W.Frag}{x q:Str}{st:Stmt}{f:Addr}{ps:List Str}(F:Fn1 K x q st f ps)(P:Program)(w:World)(mg:Str→Option Value)(base:Heap)(k:Nat)(sp:Sp):Prop:=FnOk P w K mg base (CXe P w) k f F.fd ps sp
noncomputable abbrev FnX(K:PySem.W.Frag)(x q:Str)(st:Stmt)(f:Addr):Prop:=∃fd,FunD K x q st .none f fd
section
variable{K:PySem.W.Frag}{x q:Str}{st:Stmt}{f:Addr}{ps:List Str}
noncomputable def BnX(x q:Str)(st:Stmt)(ps:List Str):Prop:=∀(kV doc pm:Value) (an:Option Addr) (cdv ct:Value) (us:List Value),us.length=ps.length→bindArgs (PySem.W.fnOf x q (yE st) (jS st) (qF st) .none kV doc pm an cdv ct) ⟨us,[]⟩=pure (ps.zip us)
theorem fn1b(h:BnX x q st ps){fd:FuncData}(F:FunD K x q st .none f fd):jQ K fd ps []:=by obtain⟨oc,od,kV,doc,pm,an,cdv,ct,osl,rfl,lk,hcd⟩:=F.ex;exact jQ.all λus hl=>h kV doc pm an cdv ct us hl
theorem lnx{us:List Value}{n:Nat}(h:us.length=n):us=(List.range n).map (us.getD · .none):=by subst h;refine rN (by simp) λi h1 h2=>?_;simp[kC h1]
theorem bnx(h:∀kV doc pm an cdv ct (g:Nat→Value),bindArgs (PySem.W.fnOf x q (yE st) (jS st) (qF st) .none kV doc pm an cdv ct) ⟨(List.range ps.length).map g,[]⟩=pure (ps.zip ((List.range ps.length).map g))):BnX x q st ps:=λkV doc pm an cdv ct us hl=>by rw[lnx hl];exact h ..
noncomputable def fn1 (l:FnX K x q st f) (h:∀kV doc pm an cdv ct (g:Nat→Value),bindArgs (PySem.W.fnOf x q (yE st) (jS st) (qF st) .none kV doc pm an cdv ct) ⟨(List.range ps.length).map g,[]⟩=pure (ps.zip ((List.range ps.length).map g)):=by intros;rfl):Fn1 K x q st f ps:=⟨l.choose,l.choose_spec,fn1b (bnx h) l.choose_spec⟩
theorem FnX.bind1{a:Str}{fd:FuncData}(h:∀kV doc pm an cdv ct u,bindArgs (PySem.W.fnOf x q (yE st) (jS st) (qF st) .none kV doc pm an cdv ct) ⟨[u],[]⟩=pure [(a,u)])(F:FunD K x q st .none f fd)(s:Shared)(v:Value):BindsTo s fd ⟨[v],[]⟩ [(a,v)]:=by obtain⟨oc,od,kV,doc,pm,an,cdv,ct,osl,rfl,lk,hcd⟩:=F.ex;exact .of_eq (h kV doc pm an cdv ct v)
theorem FnX.of{oc:Value}{od an:Option Addr}{osl:Array (Option Value)}{kV doc pm cdv ct:Value}(l:K.lookup f=some ⟨oc,od,.func (PySem.W.fnOf x q (yE st) (jS st) (qF st) .none kV doc pm an cdv ct),osl⟩)(c:PySem.W.codeIn K cdv q=true):FnX K x q st f:=⟨_,FunD.mk' l c⟩
theorem qT{N P:List Str}{sc:Scope}(h:(sc.kind=.function∧sc.isCoroutine=false∧sc.isGenerator=false)∧N.Nodup∧N.take P.length=P∧(∀x∈P,sc.names.lookup x=some .local∨sc.names.lookup x=some .cell)∧∀y∈sc.names,y.2≠ .free):FnScope N P sc:=⟨h.1.1,h.1.2.1,h.1.2.2,h.2.1,h.2.2.1,h.2.2.2.1,h.2.2.2.2⟩
end
noncomputable abbrev GFn(K:PySem.W.Frag)(n:Str)(f:Addr):Prop:=PySem.W.nsIn K mainGlobals n=some (some (.ref f))∧PySem.W.keepIn K (.ref f)=true
theorem sz0:0≤sizeLine:=by decide
theorem sz1:1≤sizeLine:=by decide
theorem sz2:2≤sizeLine:=by decide
theorem sz3:3≤sizeLine:=by decide
theorem sz4:4≤sizeLine:=by decide
theorem sz5:5≤sizeLine:=by decide
end L2
namespace W1
open PySem L2
noncomputable def top(i:Nat):Stmt:=PySem.Challenge.pw_wornpages_k33_the_choice.main.body.getD i (.Pass ⟨0,0,0,0⟩)
noncomputable abbrev q3K:Stmt:=(top 16)
noncomputable abbrev q26:Stmt:=(top 17)
noncomputable abbrev q3L:Stmt:=(top 18)
noncomputable abbrev q3M:Stmt:=(top 19)
noncomputable abbrev q51:Stmt:=(top 23)
noncomputable abbrev q52:Stmt:=(top 24)
noncomputable abbrev q27:Stmt:=(qM (top 26) 0)
noncomputable abbrev q28:Stmt:=(qM (top 26) 1)
noncomputable abbrev q29:Stmt:=(qM (top 26) 2)
noncomputable abbrev q00:Stmt:=(qM (top 26) 3)
noncomputable abbrev zM:Stmt:=(qM (top 26) 4)
noncomputable abbrev uU:Stmt:=(qM (top 26) 6)
noncomputable abbrev q2A:Stmt:=(qM (top 26) 7)
noncomputable abbrev q15:Stmt:=(qM (top 28) 0)
noncomputable abbrev q16:Stmt:=(qM (top 28) 1)
noncomputable abbrev jT:Stmt:=(qM (top 28) 2)
noncomputable abbrev q17:Stmt:=(qM (top 28) 3)
noncomputable abbrev q18:Stmt:=(qM (top 28) 4)
noncomputable abbrev q01:Stmt:=(qM (top 28) 6)
noncomputable abbrev v9:Stmt:=(qM (top 28) 8)
noncomputable abbrev q2B:Stmt:=(qM (top 28) 9)
noncomputable abbrev q02:Stmt:=(qM (top 28) 10)
noncomputable abbrev q19:Stmt:=(qM (top 28) 13)
noncomputable abbrev uA:Stmt:=(qM (top 28) 14)
noncomputable abbrev uB:Stmt:=(qM (top 28) 15)
noncomputable abbrev q3N:Stmt:=(top 30)
noncomputable abbrev q1A:Stmt:=(qM (top 31) 0)
noncomputable abbrev q1B:Stmt:=(qM (top 31) 1)
noncomputable abbrev vT:Stmt:=(qM (top 31) 2)
noncomputable abbrev q03:Stmt:=(qM (top 31) 3)
noncomputable abbrev q04:Stmt:=(qM (top 31) 4)
noncomputable abbrev uV:Stmt:=(qM (top 31) 5)
noncomputable abbrev yR:Stmt:=(qM (top 31) 6)
noncomputable abbrev vU:Stmt:=(qM (top 31) 7)
noncomputable abbrev zN:Stmt:=(qM (top 31) 8)
noncomputable abbrev yS:Stmt:=(qM (top 31) 9)
noncomputable abbrev q05:Stmt:=(qM (top 31) 10)
noncomputable abbrev yY:Stmt:=(qM (top 31) 11)
noncomputable abbrev q06:Stmt:=(qM (top 31) 12)
noncomputable abbrev uW:Stmt:=(qM (top 31) 13)
noncomputable abbrev uX:Stmt:=(qM (top 31) 14)
noncomputable abbrev uM:Stmt:=(qM (top 31) 15)
noncomputable abbrev uN:Stmt:=(qM (top 31) 16)
noncomputable abbrev q2C:Stmt:=(top 33)
noncomputable abbrev uR:Stmt:=(qM (top 34) 0)
noncomputable abbrev q3O:Stmt:=(qM (top 34) 1)
noncomputable abbrev q2D:Stmt:=(qM (top 34) 2)
noncomputable abbrev q2E:Stmt:=(qM (top 34) 3)
noncomputable abbrev vA:Stmt:=(qM (top 34) 4)
noncomputable abbrev vV:Stmt:=(qM (top 34) 5)
noncomputable abbrev zO:Stmt:=(qM (top 34) 6)
noncomputable abbrev zP:Stmt:=(qM (top 34) 7)
noncomputable abbrev q07:Stmt:=(qM (top 34) 8)
noncomputable abbrev q1C:Stmt:=(qM (top 34) 9)
noncomputable abbrev uY:Stmt:=(qM (top 34) 10)
noncomputable abbrev uO:Stmt:=(qM (top 34) 11)
noncomputable abbrev uP:Stmt:=(qM (top 34) 12)
noncomputable abbrev uZ:Stmt:=(qM (top 34) 13)
noncomputable abbrev vW:Stmt:=(qM (top 34) 14)
noncomputable abbrev zQ:Stmt:=(qM (top 34) 15)
noncomputable abbrev q08:Stmt:=(top 36)
noncomputable abbrev vB:Stmt:=(top 37)
noncomputable abbrev q6Z:Stmt:=(top 38)
noncomputable abbrev q09:Stmt:=(qM (top 39) 1)
noncomputable abbrev uC:Stmt:=(qM (top 40) 0)
noncomputable abbrev uD:Stmt:=(qM (top 41) 0)
noncomputable abbrev uQ:Stmt:=(qM (top 42) 0)
noncomputable abbrev zR:Stmt:=(qM (top 43) 0)
noncomputable abbrev u8:Stmt:=(qM (top 43) 1)
noncomputable abbrev q0A:Stmt:=(qM (top 44) 0)
noncomputable abbrev vX:Stmt:=(qM (top 44) 1)
noncomputable abbrev q0B:Stmt:=(qM (top 45) 0)
noncomputable abbrev vY:Stmt:=(qM (top 45) 1)
noncomputable abbrev u9:Stmt:=(qM (top 47) 0)
noncomputable abbrev zS:Stmt:=(qM (top 47) 1)
noncomputable abbrev q0C:Stmt:=(top 49)
noncomputable abbrev q2F:Stmt:=(top 50)
noncomputable abbrev q2G:Stmt:=(top 51)
noncomputable abbrev q1D:Stmt:=(top 52)
noncomputable abbrev q1E:Stmt:=(top 53)
noncomputable abbrev jZ:Stmt:=(top 54)
noncomputable abbrev q3P:Stmt:=(top 55)
noncomputable abbrev q3Q:Stmt:=(top 56)
noncomputable abbrev q53:Stmt:=(top 57)
noncomputable abbrev q2H:Stmt:=(top 58)
noncomputable abbrev q1F:Stmt:=(top 59)
noncomputable abbrev q1G:Stmt:=(top 60)
noncomputable abbrev q3R:Stmt:=(top 61)
noncomputable abbrev q2I:Stmt:=(top 62)
noncomputable abbrev q0D:Stmt:=(top 63)
noncomputable abbrev qGK:Stmt:=(top 64)
set_option genInjectivity false in
structure Adr where
(f_is_whole f_is_within f_is_shape f_is_value f_mark_of f_bits_of f_Book_init f_Book_mark f_Book_note f_Book_forget f_Book_emptied f_Book_live_pages f_Book_held f_Plain_init f_Plain_good f_Plain_free f_Plain_part f_Plain_spot f_Plain_ready f_Plain_set_down f_Plain_lay f_Plain_write f_Plain_held f_Plain_check_sheet f_Plain_check_share f_paper_of f_Store_init f_Store_take f_Store_reserve f_Store_tally f_Store_space f_Store_full_ones f_Store_with_dead_page f_Store_options f_Store_choice f_Store_choice_by_rule f_Store_moved f_Store_value_to_move f_Store_wiped f_Store_clear_out f_Store_make_room f_Store_make_ready f_Store_make_rooms f_limits_of f_Chip_init f_Chip_put f_Chip_wipe f_Chip_read f_Chip_cut_after f_Chip_power_on f_Chip_is_dark f_Chip_cleared f_Chip_failed f_Chip_deeds f_Chip_check_page f_Chip_check_block f_Chip_check_power f_Chip_check_deed f_Chip_is_spent f_Chip_do_deed f_is_unbeaten f_first_unbeaten f_by_age f_Rule_choose f_Fewest_goes_ahead f_Eldest_goes_ahead f_Worth_goes_ahead f_Weighed_init f_Weighed_goes_ahead f_Window_init f_Window_choose f_Follow_init f_Follow_choose f_Terms_init f_Terms_closed f_law_cell_at f_law_whole f_law_shape f_law_blocks f_law_weight f_law_rule f_law_less f_law_seen f_law_due f_law_paper f_law_chosen f_law_papers f_law_puts f_law_taken f_law_written f_law C_Book C_Plain C_Store C_Chip C_Fewest C_Eldest C_Worth C_Weighed C_Window C_Follow C_Terms C_PowerGone C_NoRoom:Addr)
fZ:Tok
aB3:Tok
aAY:Tok
aAP:Addr
bD:Addr
aB1:Addr
bL:Addr
structure Txt(K:W.Frag)(mg:Str→Option Value)(t:Adr):Prop where
aEX:mg "Book"=some (.ref t.C_Book)
bJ:Cls K t.C_Book
aBT:qP K t.C_Book "blocks"
fO:qP K t.C_Book "pages"
bQ:qP K t.C_Book "stamp"
eI:qP K t.C_Book "where"
f6:qP K t.C_Book "live"
bR:qP K t.C_Book "filled"
iB:qP K t.C_Book "born"
aDO:Meth K t.C_Book "mark" t.f_Book_mark
aDI:Meth K t.C_Book "note" t.f_Book_note
aCM:Meth K t.C_Book "forget" t.f_Book_forget
aBX:Meth K t.C_Book "emptied" t.f_Book_emptied
aAI:Meth K t.C_Book "live_pages" t.f_Book_live_pages
aDQ:Meth K t.C_Book "held" t.f_Book_held
aE0:Mk K t.C_Book t.f_Book_init
aET:mg "Plain"=some (.ref t.C_Plain)
aEU:mg "Store"=some (.ref t.C_Store)
bE:Cls K t.C_Store
b8:qP K t.C_Store "chip"
bH:qP K t.C_Store "terms"
bI:qP K t.C_Store "book"
bS:qP K t.C_Store "rule"
bX:qP K t.C_Store "papers"
aCQ:Meth K t.C_Store "take" t.f_Store_take
oJ:Meth K t.C_Store "reserve" t.f_Store_reserve
aCK:Meth K t.C_Store "tally" t.f_Store_tally
aCF:Meth K t.C_Store "space" t.f_Store_space
aAF:Meth K t.C_Store "full_ones" t.f_Store_full_ones
i6:Meth K t.C_Store "with_dead_page" t.f_Store_with_dead_page
eE:Meth K t.C_Store "options" t.f_Store_options
o8:Meth K t.C_Store "choice" t.f_Store_choice
i5:Meth K t.C_Store "choice_by_rule" t.f_Store_choice_by_rule
aCP:Meth K t.C_Store "moved" t.f_Store_moved
i7:Meth K t.C_Store "value_to_move" t.f_Store_value_to_move
aCC:Meth K t.C_Store "wiped" t.f_Store_wiped
aAC:Meth K t.C_Store "clear_out" t.f_Store_clear_out
aAH:Meth K t.C_Store "make_room" t.f_Store_make_room
t6:Meth K t.C_Store "make_ready" t.f_Store_make_ready
aAB:Meth K t.C_Store "make_rooms" t.f_Store_make_rooms
oO:Meth K t.C_Store "good" t.f_Plain_good
oE:Meth K t.C_Store "free" t.f_Plain_free
oH:Meth K t.C_Store "part" t.f_Plain_part
aCS:Meth K t.C_Store "spot" t.f_Plain_spot
aCI:Meth K t.C_Store "ready" t.f_Plain_ready
aAU:Meth K t.C_Store "set_down" t.f_Plain_set_down
aBE:Meth K t.C_Store "lay" t.f_Plain_lay
aCH:Meth K t.C_Store "write" t.f_Plain_write
aAO:Meth K t.C_Store "held" t.f_Plain_held
tS:Meth K t.C_Store "check_sheet" t.f_Plain_check_sheet
tT:Meth K t.C_Store "check_share" t.f_Plain_check_share
aEQ:Mk K t.C_Store t.f_Store_init
aE2:mg "Chip"=some (.ref t.C_Chip)
bG:Cls K t.C_Chip
eN:qP K t.C_Chip "blocks"
b9:qP K t.C_Chip "pages"
aAQ:qP K t.C_Chip "most"
tE:qP K t.C_Chip "limits"
eZ:qP K t.C_Chip "borne"
eG:qP K t.C_Chip "clearings"
fW:qP K t.C_Chip "deed_counts"
iD:qP K t.C_Chip "broken"
bV:qP K t.C_Chip "deeds_left"
iE:qP K t.C_Chip "record"
aD0:Meth K t.C_Chip "put" t.f_Chip_put
aDC:Meth K t.C_Chip "wipe" t.f_Chip_wipe
aDM:Meth K t.C_Chip "read" t.f_Chip_read
aAS:Meth K t.C_Chip "cut_after" t.f_Chip_cut_after
aA9:Meth K t.C_Chip "power_on" t.f_Chip_power_on
o6:Meth K t.C_Chip "is_dark" t.f_Chip_is_dark
oY:Meth K t.C_Chip "cleared" t.f_Chip_cleared
aCJ:Meth K t.C_Chip "failed" t.f_Chip_failed
f9:Meth K t.C_Chip "deeds" t.f_Chip_deeds
iO:Meth K t.C_Chip "check_page" t.f_Chip_check_page
fB:Meth K t.C_Chip "check_block" t.f_Chip_check_block
fY:Meth K t.C_Chip "check_power" t.f_Chip_check_power
iQ:Meth K t.C_Chip "check_deed" t.f_Chip_check_deed
oN:Meth K t.C_Chip "is_spent" t.f_Chip_is_spent
o7:Meth K t.C_Chip "do_deed" t.f_Chip_do_deed
aEY:Mk K t.C_Chip t.f_Chip_init
aC3:mg "Fewest"=some (.ref t.C_Fewest)
aC0:Cls K t.C_Fewest
tK:Meth K t.C_Fewest "goes_ahead" t.f_Fewest_goes_ahead
aBG:Meth K t.C_Fewest "choose" t.f_Rule_choose
aB0:Mk0 K t.C_Fewest
aEE:mg "Eldest"=some (.ref t.C_Eldest)
aCW:Cls K t.C_Eldest
tL:Meth K t.C_Eldest "goes_ahead" t.f_Eldest_goes_ahead
aBF:Meth K t.C_Eldest "choose" t.f_Rule_choose
aD3:Mk0 K t.C_Eldest
aEJ:mg "Worth"=some (.ref t.C_Worth)
aDS:Cls K t.C_Worth
t8:Meth K t.C_Worth "goes_ahead" t.f_Worth_goes_ahead
aBO:Meth K t.C_Worth "choose" t.f_Rule_choose
aEF:Mk0 K t.C_Worth
aDY:mg "Weighed"=some (.ref t.C_Weighed)
oS:Cls K t.C_Weighed
i3:qP K t.C_Weighed "weigh"
oU:Meth K t.C_Weighed "goes_ahead" t.f_Weighed_goes_ahead
aAV:Meth K t.C_Weighed "choose" t.f_Rule_choose
aDW:Mk K t.C_Weighed t.f_Weighed_init
aEB:mg "Window"=some (.ref t.C_Window)
tZ:Cls K t.C_Window
tD:qP K t.C_Window "many"
aA0:Meth K t.C_Window "choose" t.f_Window_choose
tR:Meth K t.C_Window "goes_ahead" t.f_Fewest_goes_ahead
aD9:Mk K t.C_Window t.f_Window_init
aED:mg "Follow"=some (.ref t.C_Follow)
fK:Cls K t.C_Follow
iW:qP K t.C_Follow "row"
fI:qP K t.C_Follow "used"
aBC:Meth K t.C_Follow "choose" t.f_Follow_choose
aD6:Mk K t.C_Follow t.f_Follow_init
aER:mg "Terms"=some (.ref t.C_Terms)
bM:Cls K t.C_Terms
eW:qP K t.C_Terms "blocks"
bK:qP K t.C_Terms "pages"
i8:qP K t.C_Terms "sheets"
oZ:qP K t.C_Terms "share"
oF:qP K t.C_Terms "ill"
aA7:qP K t.C_Terms "spread"
aBR:Meth K t.C_Terms "closed" t.f_Terms_closed
aEP:Mk K t.C_Terms t.f_Terms_init
aAR:mg "PowerGone"=some (.ref t.C_PowerGone)
aDP:XCls K t.C_PowerGone
aC6:mg "NoRoom"=some (.ref t.C_NoRoom)
aEN:XCls K t.C_NoRoom
aEO:ClM K t.C_Plain "__init__" t.f_Plain_init
i4:W.exmOne K (.ref t.C_PowerGone) (.ref t.C_PowerGone)=some true
aAT:W.exmOne K (.ref t.C_NoRoom) (.ref t.C_NoRoom)=some true
aC7:EqNo K t.C_Fewest
aEA:EqNo K t.C_Eldest
aEL:EqNo K t.C_Worth
aEC:EqNo K t.C_Window
aDV:EqNo K t.C_Weighed
aD8:EqNo K t.C_Follow
aCO:W.codeHdIn K t.aAP t.bD=true
aDF:W.codeHdIn K t.aB1 t.bL=true
oW:t.bD≠t.bL
aDR:mg "is_whole"=some (.ref t.f_is_whole)
aDD:W.keepIn K (.ref t.f_is_whole)=true
bN:mg "is_within"=some (.ref t.f_is_within)
bO:W.keepIn K (.ref t.f_is_within)=true
aA5:mg "is_shape"=some (.ref t.f_is_shape)
aA3:W.keepIn K (.ref t.f_is_shape)=true
aC8:mg "is_value"=some (.ref t.f_is_value)
aDG:W.keepIn K (.ref t.f_is_value)=true
aDX:mg "mark_of"=some (.ref t.f_mark_of)
aDU:W.keepIn K (.ref t.f_mark_of)=true
aDT:mg "bits_of"=some (.ref t.f_bits_of)
aD1:W.keepIn K (.ref t.f_bits_of)=true
aA1:mg "paper_of"=some (.ref t.f_paper_of)
aBM:W.keepIn K (.ref t.f_paper_of)=true
aCZ:mg "limits_of"=some (.ref t.f_limits_of)
aC1:W.keepIn K (.ref t.f_limits_of)=true
aBP:mg "is_unbeaten"=some (.ref t.f_is_unbeaten)
aBU:W.keepIn K (.ref t.f_is_unbeaten)=true
iN:mg "first_unbeaten"=some (.ref t.f_first_unbeaten)
iJ:W.keepIn K (.ref t.f_first_unbeaten)=true
aD4:mg "by_age"=some (.ref t.f_by_age)
bU:mg "_law_cell_at"=some (.ref t.f_law_cell_at)
bT:W.keepIn K (.ref t.f_law_cell_at)=true
aAM:mg "_law_whole"=some (.ref t.f_law_whole)
aAN:W.keepIn K (.ref t.f_law_whole)=true
aCU:mg "_law_shape"=some (.ref t.f_law_shape)
aCV:W.keepIn K (.ref t.f_law_shape)=true
aAA:mg "_law_blocks"=some (.ref t.f_law_blocks)
t7:W.keepIn K (.ref t.f_law_blocks)=true
iS:mg "_law_weight"=some (.ref t.f_law_weight)
iZ:W.keepIn K (.ref t.f_law_weight)=true
aDL:mg "_law_rule"=some (.ref t.f_law_rule)
aDE:W.keepIn K (.ref t.f_law_rule)=true
aDB:mg "_law_less"=some (.ref t.f_law_less)
aC9:W.keepIn K (.ref t.f_law_less)=true
aDA:mg "_law_seen"=some (.ref t.f_law_seen)
aDH:W.keepIn K (.ref t.f_law_seen)=true
aBY:mg "_law_due"=some (.ref t.f_law_due)
aBZ:W.keepIn K (.ref t.f_law_due)=true
aCT:mg "_law_paper"=some (.ref t.f_law_paper)
aCY:W.keepIn K (.ref t.f_law_paper)=true
aB5:mg "_law_chosen"=some (.ref t.f_law_chosen)
aCA:W.keepIn K (.ref t.f_law_chosen)=true
aB7:mg "_law_papers"=some (.ref t.f_law_papers)
aB6:W.keepIn K (.ref t.f_law_papers)=true
aBD:mg "_law_puts"=some (.ref t.f_law_puts)
aBJ:W.keepIn K (.ref t.f_law_puts)=true
aC4:mg "_law_taken"=some (.ref t.f_law_taken)
aC5:W.keepIn K (.ref t.f_law_taken)=true
aBS:mg "_law_written"=some (.ref t.f_law_written)
aBW:W.keepIn K (.ref t.f_law_written)=true
i9:mg "MOST_TOLD"=some (.int 1000000 t.fZ)
aEG:mg "ROLL"=some (.int 64 t.aB3)
aEK:mg "NAMES"=some (.int 128 t.aAY)
aEW:mg "bool"=none
aEZ:mg "int"=none
eD:mg "isinstance"=none
oI:mg "len"=none
aB2:mg "list"=none
aE3:mg "min"=none
aA2:mg "range"=none
oQ:mg "sorted"=none
aD5:mg "tuple"=none
set_option genInjectivity false
structure Fns(K:W.Frag)(t:Adr) where
aCL:Fn1 K "is_whole" "is_whole" q3K t.f_is_whole ["thing"]
bY:Fn1 K "is_within" "is_within" q26 t.f_is_within ["thing","low","high"]
aAX:Fn1 K "is_shape" "is_shape" q3L t.f_is_shape ["blocks","pages"]
aCB:Fn1 K "is_value" "is_value" q3M t.f_is_value ["thing"]
aDN:Fn1 K "mark_of" "mark_of" q51 t.f_mark_of ["stamp","name"]
aDJ:Fn1 K "bits_of" "bits_of" q52 t.f_bits_of ["sheets"]
aA6:Fn1 K "__init__" "Book.__init__" q27 t.f_Book_init ["self","blocks","pages"]
aBN:Fn1 K "mark" "Book.mark" q28 t.f_Book_mark ["self","name"]
aBK:Fn1 K "note" "Book.note" q29 t.f_Book_note ["self","page","name"]
tX:Fn1 K "forget" "Book.forget" q00 t.f_Book_forget ["self","name"]
oK:Fn1 K "emptied" "Book.emptied" zM t.f_Book_emptied ["self","block"]
fT:Fn1 K "live_pages" "Book.live_pages" uU t.f_Book_live_pages ["self","block"]
aBB:Fn1 K "held" "Book.held" q2A t.f_Book_held ["self"]
aAE:Fn1 K "__init__" "Plain.__init__" q15 t.f_Plain_init ["self","chip","terms"]
iH:Fn1 K "good" "Plain.good" q16 t.f_Plain_good ["self"]
iR:FuncData
aCX:FunT K "free" "Plain.free" jT t.aAP t.f_Plain_free iR
oM:jQ K iR ["self"] []
iP:Fn1 K "part" "Plain.part" q17 t.f_Plain_part ["self"]
aAK:Fn1 K "spot" "Plain.spot" q18 t.f_Plain_spot ["self"]
tN:Fn1 K "ready" "Plain.ready" q01 t.f_Plain_ready ["self"]
iC:Fn1 K "set_down" "Plain.set_down" v9 t.f_Plain_set_down ["self","name","value"]
tY:Fn1 K "lay" "Plain.lay" q2B t.f_Plain_lay ["self","name","value"]
tJ:Fn1 K "write" "Plain.write" q02 t.f_Plain_write ["self","sheet","value"]
oR:Fn1 K "held" "Plain.held" q19 t.f_Plain_held ["self"]
fE:Fn1 K "check_sheet" "Plain.check_sheet" uA t.f_Plain_check_sheet ["self","sheet"]
fD:Fn1 K "check_share" "Plain.check_share" uB t.f_Plain_check_share ["self","sheet"]
aAZ:Fn1 K "paper_of" "paper_of" q3N t.f_paper_of ["why","options","block","moved","wiped"]
aAJ:Fn1 K "__init__" "Store.__init__" q1A t.f_Store_init ["self","chip","terms","rule"]
aAL:Fn1 K "take" "Store.take" q1B t.f_Store_take ["self","rule"]
fP:Fn1 K "reserve" "Store.reserve" vT t.f_Store_reserve ["self"]
tW:Fn1 K "tally" "Store.tally" q03 t.f_Store_tally ["self","block"]
tQ:Fn1 K "space" "Store.space" q04 t.f_Store_space ["self"]
fV:Fn1 K "full_ones" "Store.full_ones" uV t.f_Store_full_ones ["self"]
eL:Fn1 K "with_dead_page" "Store.with_dead_page" yR t.f_Store_with_dead_page ["self"]
bZ:Fn1 K "options" "Store.options" vU t.f_Store_options ["self"]
f7:Fn1 K "choice" "Store.choice" zN t.f_Store_choice ["self"]
eJ:Fn1 K "choice_by_rule" "Store.choice_by_rule" yS t.f_Store_choice_by_rule ["self","options"]
tU:Fn1 K "moved" "Store.moved" q05 t.f_Store_moved ["self","block"]
eQ:Fn1 K "value_to_move" "Store.value_to_move" yY t.f_Store_value_to_move ["self","page","name"]
tO:Fn1 K "wiped" "Store.wiped" q06 t.f_Store_wiped ["self","block"]
fU:Fn1 K "clear_out" "Store.clear_out" uW t.f_Store_clear_out ["self","block"]
fS:Fn1 K "make_room" "Store.make_room" uX t.f_Store_make_room ["self"]
fM:Fn1 K "make_ready" "Store.make_ready" uM t.f_Store_make_ready ["self"]
fN:Fn1 K "make_rooms" "Store.make_rooms" uN t.f_Store_make_rooms ["self"]
aA4:Fn1 K "limits_of" "limits_of" q2C t.f_limits_of ["ills","blocks"]
fJ:FuncData
aC2:Value
aDK:FunD K "__init__" "Chip.__init__" uR aC2 t.f_Chip_init fJ
aE1:jQ K fJ ["self","blocks","pages","most","ills"] []
tF:List Value
aEM:jQ K fJ ["self","blocks","pages","most","ills"] tF
aES:Vals [.non] tF
oX:List Value
aCG:jQ K fJ ["self","blocks","pages","most","ills"] oX
aB9:Vals [.int 1000000,.non] oX
aCD:Fn1 K "put" "Chip.put" q3O t.f_Chip_put ["self","page","stuff"]
aBH:Fn1 K "wipe" "Chip.wipe" q2D t.f_Chip_wipe ["self","block"]
aBA:Fn1 K "read" "Chip.read" q2E t.f_Chip_read ["self","page"]
iG:Fn1 K "cut_after" "Chip.cut_after" vA t.f_Chip_cut_after ["self","deeds"]
iX:Fn1 K "power_on" "Chip.power_on" vV t.f_Chip_power_on ["self"]
iA:Fn1 K "is_dark" "Chip.is_dark" zO t.f_Chip_is_dark ["self"]
fX:Fn1 K "cleared" "Chip.cleared" zP t.f_Chip_cleared ["self","block"]
tH:Fn1 K "failed" "Chip.failed" q07 t.f_Chip_failed ["self","block"]
fR:Fn1 K "deeds" "Chip.deeds" q1C t.f_Chip_deeds ["self"]
eU:Fn1 K "check_page" "Chip.check_page" uY t.f_Chip_check_page ["self","page"]
eC:Fn1 K "check_block" "Chip.check_block" uO t.f_Chip_check_block ["self","block"]
eO:Fn1 K "check_power" "Chip.check_power" uP t.f_Chip_check_power ["self"]
eS:Fn1 K "check_deed" "Chip.check_deed" uZ t.f_Chip_check_deed ["self","block"]
fQ:Fn1 K "is_spent" "Chip.is_spent" vW t.f_Chip_is_spent ["self","block"]
f8:Fn1 K "do_deed" "Chip.do_deed" zQ t.f_Chip_do_deed ["self","word","place","block","fails"]
tG:Fn1 K "is_unbeaten" "is_unbeaten" q08 t.f_is_unbeaten ["rule","tally","tallies","pages","now"]
fH:Fn1 K "first_unbeaten" "first_unbeaten" vB t.f_first_unbeaten ["rule","tallies","pages","now"]
aD7:Fn1 K "by_age" "by_age" q6Z t.f_by_age ["tally"]
fG:Fn1 K "choose" "Rule.choose" q09 t.f_Rule_choose ["self","tallies","pages","now"]
eF:Fn1 K "goes_ahead" "Fewest.goes_ahead" uC t.f_Fewest_goes_ahead ["self","one","other","pages","now"]
fF:Fn1 K "goes_ahead" "Eldest.goes_ahead" uD t.f_Eldest_goes_ahead ["self","one","other","pages","now"]
fL:Fn1 K "goes_ahead" "Worth.goes_ahead" uQ t.f_Worth_goes_ahead ["self","one","other","pages","now"]
oC:Fn1 K "__init__" "Weighed.__init__" zR t.f_Weighed_init ["self","weigh"]
fA:Fn1 K "goes_ahead" "Weighed.goes_ahead" u8 t.f_Weighed_goes_ahead ["self","one","other","pages","now"]
tM:Fn1 K "__init__" "Window.__init__" q0A t.f_Window_init ["self","many"]
iU:Fn1 K "choose" "Window.choose" vX t.f_Window_choose ["self","tallies","pages","now"]
tI:Fn1 K "__init__" "Follow.__init__" q0B t.f_Follow_init ["self","blocks"]
iY:Fn1 K "choose" "Follow.choose" vY t.f_Follow_choose ["self","tallies","pages","now"]
e9:FuncData
aCE:Value
aCR:FunD K "__init__" "Terms.__init__" u9 aCE t.f_Terms_init e9
aEV:jQ K e9 ["self","blocks","pages","sheets","share","ill","spread"] []
oA:List Value
aBQ:jQ K e9 ["self","blocks","pages","sheets","share","ill","spread"] oA
aBV:Vals [.int 1000000] oA
oG:List Value
aEH:jQ K e9 ["self","blocks","pages","sheets","share","ill","spread"] oG
aEI:Vals [.int 0,.int 1000000] oG
oB:Fn1 K "closed" "Terms.closed" zS t.f_Terms_closed ["self"]
bW:Fn1 K "_law_cell_at" "_law_cell_at" q0C t.f_law_cell_at ["_law_script","_law_k"]
t9:Fn1 K "_law_whole" "_law_whole" q2F t.f_law_whole ["_law_found"]
aA8:Fn1 K "_law_shape" "_law_shape" q2G t.f_law_shape ["_law_script"]
oP:Fn1 K "_law_blocks" "_law_blocks" q1D t.f_law_blocks ["_law_script"]
iK:Fn1 K "_law_weight" "_law_weight" q1E t.f_law_weight ["_law_tally","_law_script"]
tP:FuncData
aDZ:FunT K "_law_rule" "_law_rule" jZ t.aB1 t.f_law_rule tP
aD2:jQ K tP ["_law_kind","_law_script"] []
aB4:Fn1 K "_law_less" "_law_less" q3P t.f_law_less ["_law_kind","_law_one","_law_other","_law_script","_law_pages","_law_now"]
aCN:Fn1 K "_law_seen" "_law_seen" q3Q t.f_law_seen ["_law_kind","_law_options","_law_script"]
aB8:Fn1 K "_law_due" "_law_due" q53 t.f_law_due ["_law_kind","_law_options","_law_script","_law_asked","_law_pages","_law_now"]
aBI:Fn1 K "_law_paper" "_law_paper" q2H t.f_law_paper ["_law_paper_here","_law_kind","_law_script","_law_asked","_law_pages","_law_now"]
aAD:Fn1 K "_law_chosen" "_law_chosen" q1F t.f_law_chosen ["_law_store","_law_kind","_law_script","_law_asked","_law_pages","_law_now"]
aAG:Fn1 K "_law_papers" "_law_papers" q1G t.f_law_papers ["_law_papers_here","_law_kind","_law_script","_law_asked","_law_pages","_law_now"]
aAW:Fn1 K "_law_puts" "_law_puts" q3R t.f_law_puts ["_law_chip"]
aBL:Fn1 K "_law_taken" "_law_taken" q2I t.f_law_taken ["_law_store","_law_kind","_law_script"]
tV:Fn1 K "_law_written" "_law_written" q0D t.f_law_written ["_law_store","_law_chip","_law_sheet","_law_cell","_law_kind"]
law:Fn1 K "law" "law" qGK t.f_law ["_law_script"]
structure HkE where
P:Program
w:World
K:W.Frag
mg:Str→Option Value
t:Adr
noncomputable def hkB(e:HkE):Prop:=∃(S:Fns e.K e.t) (base:Heap),Txt e.K e.mg e.t∧BmIn base e.mg∧¬S.law.Ok0 e.P e.w e.mg base 19 (q4Y e.K [e.t.bD,e.t.bL])
instance:Nonempty HkE:=⟨⟨PySem.Challenge.pw_wornpages_k33_the_choice,⟨λ_ _=>0,{ strHash:=λ_=>0,shareClass:=λ_=>0,mergeTok:=id,idOf:=λ_=>0,idOfShared:=λ_ _=>0,followText:=λ_=>false,idOfImm:=λ_=>0 }⟩,[],λ_=>none,by constructor<;>exact(0:Nat)⟩⟩
@[irreducible] noncomputable def hkE:HkE:=Classical.epsilon hkB
noncomputable def P:Program:=hkE.P
noncomputable def w:World:=hkE.w
noncomputable def K:W.Frag:=hkE.K
noncomputable def mg:Str→Option Value:=hkE.mg
noncomputable def t:Adr:=hkE.t
section
variable{base:Heap}
theorem qB5:FnScope ["thing"] ["thing"] (qF q3K):=qT (by decide+kernel)
theorem q9K:FnScope ["thing","low","high"] ["thing","low","high"] (qF q26):=qT (by decide+kernel)
theorem qB6:FnScope ["blocks","pages"] ["blocks","pages"] (qF q3L):=qT (by decide+kernel)
theorem qB7:FnScope ["thing"] ["thing"] (qF q3M):=qT (by decide+kernel)
theorem qC9:FnScope ["stamp","name"] ["stamp","name"] (qF q51):=qT (by decide+kernel)
theorem q1H:FnScope ["sheets","bits","sheet"] ["sheets"] (qF q52):=qT (by decide+kernel)
theorem q9L:FnScope ["self","blocks","pages"] ["self","blocks","pages"] (qF q27):=qT (by decide+kernel)
theorem q9M:FnScope ["self","name"] ["self","name"] (qF q28):=qT (by decide+kernel)
theorem q4G:FnScope ["self","page","name","block"] ["self","page","name"] (qF q29):=qT (by decide+kernel)
theorem q2J:FnScope ["self","name","page"] ["self","name"] (qF q00):=qT (by decide+kernel)
theorem q5N:FnScope ["self","block"] ["self","block"] (qF zM):=qT (by decide+kernel)
theorem q3S:FnScope ["self","block"] ["self","block"] (qF uU):=qT (by decide+kernel)
theorem q9N:FnScope ["self"] ["self"] (qF q2A):=qT (by decide+kernel)
theorem q7R:FnScope ["self","chip","terms"] ["self","chip","terms"] (qF q15):=qT (by decide+kernel)
theorem q7S:FnScope ["self"] ["self"] (qF q16):=qT (by decide+kernel)
theorem q3D:FnScope ["self","clear"] ["self"] (qF jT):=qT (by decide+kernel)
theorem q3E:FnScope ["self","block"] ["self"] (qF q17):=qT (by decide+kernel)
theorem q0E:FnScope ["self","part","free"] ["self"] (qF q18):=qT (by decide+kernel)
theorem q2K:FnScope ["self","spare"] ["self"] (qF q01):=qT (by decide+kernel)
theorem zW:FnScope ["self","name","value","page"] ["self","name","value"] (qF v9):=qT (by decide+kernel)
theorem q9O:FnScope ["self","name","value"] ["self","name","value"] (qF q2B):=qT (by decide+kernel)
theorem q70:FnScope ["self","sheet","value"] ["self","sheet","value"] (qF q02):=qT (by decide+kernel)
theorem q7T:FnScope ["self"] ["self"] (qF q19):=qT (by decide+kernel)
theorem q2L:FnScope ["self","sheet"] ["self","sheet"] (qF uA):=qT (by decide+kernel)
theorem vP:FnScope ["self","sheet","held"] ["self","sheet"] (qF uB):=qT (by decide+kernel)
theorem qB8:FnScope ["why","options","block","moved","wiped"] ["why","options","block","moved","wiped"] (qF q3N):=qT (by decide+kernel)
theorem q7U:FnScope ["self","chip","terms","rule"] ["self","chip","terms","rule"] (qF q1A):=qT (by decide+kernel)
theorem q7V:FnScope ["self","rule"] ["self","rule"] (qF q1B):=qT (by decide+kernel)
theorem q54:FnScope ["self"] ["self"] (qF vT):=qT (by decide+kernel)
theorem q71:FnScope ["self","block"] ["self","block"] (qF q03):=qT (by decide+kernel)
theorem q2M:FnScope ["self","part"] ["self"] (qF q04):=qT (by decide+kernel)
theorem yT:FnScope ["self","space","full","tallies"] ["self"] (qF uV):=qT (by decide+kernel)
theorem q0M:FnScope ["self"] ["self"] (qF yR):=qT (by decide+kernel)
theorem q55:FnScope ["self"] ["self"] (qF vU):=qT (by decide+kernel)
theorem q1O:FnScope ["self","options"] ["self"] (qF zN):=qT (by decide+kernel)
theorem q0N:FnScope ["self","options"] ["self","options"] (qF yS):=qT (by decide+kernel)
theorem v1:FnScope ["self","block","moves","page","name"] ["self","block"] (qF q05):=qT (by decide+kernel)
theorem q1I:FnScope ["self","page","name"] ["self","page","name"] (qF yY):=qT (by decide+kernel)
theorem q72:FnScope ["self","block"] ["self","block"] (qF q06):=qT (by decide+kernel)
theorem q3T:FnScope ["self","block"] ["self","block"] (qF uW):=qT (by decide+kernel)
theorem y7:FnScope ["self","options","chosen","moved","wiped"] ["self"] (qF uX):=qT (by decide+kernel)
theorem q33:FnScope ["self"] ["self"] (qF uM):=qT (by decide+kernel)
theorem q34:FnScope ["self"] ["self"] (qF uN):=qT (by decide+kernel)
theorem zG:FnScope ["ills","blocks","limits","block","deeds"] ["ills","blocks"] (qF q2C):=qT (by decide+kernel)
theorem q9P:FnScope ["self","blocks","pages","most","ills"] ["self","blocks","pages","most","ills"] (qF uR):=qT (by decide+kernel)
theorem q5G:FnScope ["self","page","stuff","block"] ["self","page","stuff"] (qF q3O):=qT (by decide+kernel)
theorem zH:FnScope ["self","block","fails","first","page"] ["self","block"] (qF q2D):=qT (by decide+kernel)
theorem q9Q:FnScope ["self","page"] ["self","page"] (qF q2E):=qT (by decide+kernel)
theorem q4H:FnScope ["self","deeds"] ["self","deeds"] (qF vA):=qT (by decide+kernel)
theorem q56:FnScope ["self"] ["self"] (qF vV):=qT (by decide+kernel)
theorem q5O:FnScope ["self"] ["self"] (qF zO):=qT (by decide+kernel)
theorem q5P:FnScope ["self","block"] ["self","block"] (qF zP):=qT (by decide+kernel)
theorem q73:FnScope ["self","block"] ["self","block"] (qF q07):=qT (by decide+kernel)
theorem q7W:FnScope ["self"] ["self"] (qF q1C):=qT (by decide+kernel)
theorem q3U:FnScope ["self","page"] ["self","page"] (qF uY):=qT (by decide+kernel)
theorem q35:FnScope ["self","block"] ["self","block"] (qF uO):=qT (by decide+kernel)
theorem q36:FnScope ["self"] ["self"] (qF uP):=qT (by decide+kernel)
theorem q3V:FnScope ["self","block"] ["self","block"] (qF uZ):=qT (by decide+kernel)
theorem q57:FnScope ["self","block"] ["self","block"] (qF vW):=qT (by decide+kernel)
theorem q5Q:FnScope ["self","word","place","block","fails"] ["self","word","place","block","fails"] (qF zQ):=qT (by decide+kernel)
theorem q2N:FnScope ["rule","tally","tallies","pages","now","other"] ["rule","tally","tallies","pages","now"] (qF q08):=qT (by decide+kernel)
theorem v3:FnScope ["rule","tallies","pages","now","place"] ["rule","tallies","pages","now"] (qF vB):=qT (by decide+kernel)
theorem qE3:FnScope ["tally"] ["tally"] (qF q6Z):=qT (by decide+kernel)
theorem q74:FnScope ["self","tallies","pages","now"] ["self","tallies","pages","now"] (qF q09):=qT (by decide+kernel)
theorem q2O:FnScope ["self","one","other","pages","now"] ["self","one","other","pages","now"] (qF uC):=qT (by decide+kernel)
theorem q2P:FnScope ["self","one","other","pages","now"] ["self","one","other","pages","now"] (qF uD):=qT (by decide+kernel)
theorem uE:FnScope ["self","one","other","pages","now","gain_of_one","gain_of_other"] ["self","one","other","pages","now"] (qF uQ):=qT (by decide+kernel)
theorem q5R:FnScope ["self","weigh"] ["self","weigh"] (qF zR):=qT (by decide+kernel)
theorem v6:FnScope ["self","one","other","pages","now","weigh"] ["self","one","other","pages","now"] (qF u8):=qT (by decide+kernel)
theorem q75:FnScope ["self","many"] ["self","many"] (qF q0A):=qT (by decide+kernel)
theorem q0O:FnScope ["self","tallies","pages","now","seen"] ["self","tallies","pages","now"] (qF vX):=qT (by decide+kernel)
theorem q76:FnScope ["self","blocks"] ["self","blocks"] (qF q0B):=qT (by decide+kernel)
theorem vC:FnScope ["self","tallies","pages","now","blocks","told"] ["self","tallies","pages","now"] (qF vY):=qT (by decide+kernel)
theorem q7X:FnScope ["self","blocks","pages","sheets","share","ill","spread"] ["self","blocks","pages","sheets","share","ill","spread"] (qF u9):=qT (by decide+kernel)
theorem q5S:FnScope ["self"] ["self"] (qF zS):=qT (by decide+kernel)
theorem q77:FnScope ["_law_script","_law_k"] ["_law_script","_law_k"] (qF q0C):=qT (by decide+kernel)
theorem q9R:FnScope ["_law_found"] ["_law_found"] (qF q2F):=qT (by decide+kernel)
theorem yU:FnScope ["_law_script","_law_pages","_law_closed","_law_ill","_law_share"] ["_law_script"] (qF q2G):=qT (by decide+kernel)
theorem q7Y:FnScope ["_law_script"] ["_law_script"] (qF q1D):=qT (by decide+kernel)
theorem vG:FnScope ["_law_tally","_law_script","_law_total","_law_k"] ["_law_tally","_law_script"] (qF q1E):=qT (by decide+kernel)
theorem qB9:FnScope ["_law_kind","_law_script"] ["_law_kind","_law_script"] (qF jZ):=qT (by decide+kernel)
theorem q5H:FnScope ["_law_kind","_law_one","_law_other","_law_script","_law_pages","_law_now","_law_here"] ["_law_kind","_law_one","_law_other","_law_script","_law_pages","_law_now"] (qF q3P):=qT (by decide+kernel)
theorem q5I:FnScope ["_law_kind","_law_options","_law_script","_law_ages"] ["_law_kind","_law_options","_law_script"] (qF q3Q):=qT (by decide+kernel)
theorem vD:FnScope ["_law_kind","_law_options","_law_script","_law_asked","_law_pages","_law_now","_law_blocks_here","_law_some","_law_best","_law_tally"] ["_law_kind","_law_options","_law_script","_law_asked","_law_pages","_law_now"] (qF q53):=qT (by decide+kernel)
theorem q9S:FnScope ["_law_paper_here","_law_kind","_law_script","_law_asked","_law_pages","_law_now"] ["_law_paper_here","_law_kind","_law_script","_law_asked","_law_pages","_law_now"] (qF q2H):=qT (by decide+kernel)
theorem yV:FnScope ["_law_store","_law_kind","_law_script","_law_asked","_law_pages","_law_now","_law_options","_law_refused","_law_found"] ["_law_store","_law_kind","_law_script","_law_asked","_law_pages","_law_now"] (qF q1F):=qT (by decide+kernel)
theorem vH:FnScope ["_law_papers_here","_law_kind","_law_script","_law_asked","_law_pages","_law_now","_law_paper_here"] ["_law_papers_here","_law_kind","_law_script","_law_asked","_law_pages","_law_now"] (qF q1G):=qT (by decide+kernel)
theorem qBA:FnScope ["_law_chip"] ["_law_chip"] (qF q3R):=qT (by decide+kernel)
theorem q1J:FnScope ["_law_store","_law_kind","_law_script","_law_before","_law_rule_here"] ["_law_store","_law_kind","_law_script"] (qF q2I):=qT (by decide+kernel)
theorem yL:FnScope ["_law_store","_law_chip","_law_sheet","_law_cell","_law_kind","_law_options","_law_seen_here","_law_dark","_law_papers_here"] ["_law_store","_law_chip","_law_sheet","_law_cell","_law_kind"] (qF q0D):=qT (by decide+kernel)
theorem yM:FnScope ["_law_script","_law_blocks_here","_law_pages","_law_share","_law_ill","_law_chip","_law_rule_here","_law_store","_law_kind","_law_asked","_law_k","_law_cell","_law_now","_law_count","_law_more","_law_papers_here"] ["_law_script"] (qF qGK):=qT (by decide+kernel)
local macro_rules| `(tactic|walk_at "r")=>`(tactic|repeat (first|with_reducible refine⟨_,rfl,?_⟩|refine⟨_,rfl,?_⟩|refine(iI ?_)))
theorem qBB(T:Txt K mg t)(S:Fns K t):S.aCL.Ok0 P w mg base 1 qCL:=by(
refine S.aCL.F.ok0 qB5 λcdv A _ s H vs Q E hr h=>?_
obtain⟨x,rfl,kn,k⟩:=h
refine⟨_,(qD (qL (q1X (qX yQ (by rfl) T.eD (by kernel_rfl) (qA (pv 0) (qA (q0U rfl T.aEZ (by kernel_rfl) rfl (v:=.ty "int")) qE))) (q0V (qBL (qX yQ (by rfl) T.eD (by kernel_rfl) (qA (pv 0) (qA (q0U rfl T.aEW (by kernel_rfl) rfl (v:=.ty "bool")) qE)))))))),?_⟩
try dsimp-beta-proj-iota-zeta-eta only[wishK,cxK]
obtain⟨ty,q,e1,e2,_⟩:=kn.ty (K:=K)
refine⟨_,rfl,x,_,_,ty,_,rfl,rfl,.inl q,e1,_,rfl,?_⟩
have z:=qEX x
cases qi:isI x with
|true=>rw[qi,kF rfl]at z;refine iteT ?_;refine⟨_,rfl,x,_,_,ty,_,rfl,rfl,.inl q,e2,_,rfl,?_⟩;rw[z];exact k
|false=>rw[qi]at z;refine iteF ?_;have z':false=isW x:=z;rw[z'];exact k)
theorem jF(T:Txt K mg t)(S:Fns K t):S.bY.Ok0 P w mg base 2 qEY:=by(
refine S.bY.F.ok0 q9K λcdv A _ s H vs Q E hr h=>?_
obtain⟨x,lo,hi,rfl,kn,k⟩:=h
refine⟨_,(qD (qL (q1X (qU (qBB T S).mono hr rfl T.aDR T.aDD S.aCL.b .nil qK (qA (pv 0) qE)) (q0V (qED qEA qEA (pv 1) (pv 0) (pv 2)))))),?_⟩
try dsimp-beta-proj-iota-zeta-eta only[wishK,cxK]
refine⟨_,rfl,x,rfl,kn,_,rfl,?_⟩
cases x with
|int i=>
 refine iteT ?_;refine⟨_,rfl,_,rfl,_,_,rfl,rfl,_,rfl,?_⟩;have k':Q (V.bl (decide (lo≤i)&&decide (i≤hi))) H:=k;by_cases h1:lo≤i
 ·rw[hG h1]at k' ⊢;refine iteT ?_;exact⟨_,rfl,_,_,rfl,rfl,k'⟩
 rw[hU h1]at k' ⊢;refine iteF ?_;exact k'
|_=>exact iteF k)
theorem q5J(T:Txt K mg t)(S:Fns K t):S.aAX.Ok0 P w mg base 3 qH4:=by(
refine S.aAX.F.ok0 qB6 λcdv A _ s H vs Q E hr h=>?_
obtain⟨x,y,rfl,kx,ky,k⟩:=h
refine⟨_,(qD (qL (q1X (qU (jF T S).mono hr rfl T.bN T.bO S.bY.b .nil qK (qA (pv 0) (qA qG (qA qG qE)))) (q0V (qU (jF T S).mono hr rfl T.bN T.bO S.bY.b .nil qK (qA (pv 1) (qA qG (qA qG qE)))))))),?_⟩
try dsimp-beta-proj-iota-zeta-eta only[wishK,cxK]
refine⟨_,rfl,x,_,_,rfl,kx,_,rfl,?_⟩
cases q:inB x 2 16 with
|true=>rw[q]at k;refine iteT ⟨_,rfl,y,_,_,rfl,ky,k⟩
|false=>rw[q]at k;exact iteF k)
structure Gd(m:CM):Prop where
br:∀b,m.br.getD b false=false
li:∀b,valV m.lim (Sum.inl b)=none
theorem inBi{v lo hi:Int}(h1:lo≤v)(h2:v≤hi):inB (.int v) lo hi=true:=by show(decide (lo≤v)&&decide (v≤hi))=true;rw[hG h1,hG h2];rfl
noncomputable def putC(m:CM)(p:Nat)(st:V):CM:={ m.deed "put" (p:Int) ((p:Int) / m.pg) false with bo:=m.bo.set p st }
noncomputable def wipC(m:CM)(b:Nat):CM:={ m.deed "wipe" (b:Int) (b:Int) false with bo:=clr m.bo ((b:Int)*m.pg).toNat m.pg.toNat,cl:=m.cl.set b (m.cl.getD b 0+1) }
inductive spCP(t:Adr)(vs:List V)(H:Hp)(Q:VK)(E:XK):Prop
|mk:∀c a m,∀p:Int,vs=[.ref c,.int p]→ChipAt t.C_Chip H c a m→m.Ok→0≤p→p≤m.bl*m.pg-1→Q .non H→spCP t vs H Q E
theorem zT(T:Txt K mg t)(S:Fns K t):S.eU.Ok0 P w mg base 3 (spCP t):=by(
refine S.eU.F.ok0 q3U λcdv A _ s H vs Q E hr h=>?_
obtain⟨c,a,m,p,rfl,hc,ok,p0,p1,q⟩:=h
refine⟨_,(qD (j9 (jU (jG (qU (jF T S).mono hr rfl T.bN T.bO S.bY.b .nil qK (qA (pv 1) (qA qG (qA (qN yH (qN yP (qJ (pv 0) rfl) (qJ (pv 0) rfl)) qG) qE)))))) (qD jC) qR)),?_⟩
try dsimp-beta-proj-iota-zeta-eta only[wishK,cxK]
have b1:=ok.bl1
have b2:=ok.bl2
refine⟨_,rfl,_,rfl,c,_,a.dx,_,_,rfl,hc.ins,T.bG,T.eN,rfl,_,rfl,c,_,a.dx,_,_,rfl,hc.ins,T.bG,T.b9,rfl,?_⟩
refine⟨_,_,rfl,rfl,.inl ⟨by lia,by lia⟩,_,_,rfl,rfl,.int p,_,_,rfl,.int p,_,rfl,?_⟩
rw[inBi p0 p1]
exact iteF q)
inductive spCB(t:Adr)(vs:List V)(H:Hp)(Q:VK)(E:XK):Prop
|mk:∀c a m,∀p:Int,vs=[.ref c,.int p]→ChipAt t.C_Chip H c a m→0≤p→p≤m.bl-1→Q .non H→spCB t vs H Q E
theorem uF(T:Txt K mg t)(S:Fns K t):S.eC.Ok0 P w mg base 3 (spCB t):=by(
refine S.eC.F.ok0 q35 λcdv A _ s H vs Q E hr h=>?_
obtain⟨c,a,m,p,rfl,hc,p0,p1,q⟩:=h
refine⟨_,(qD (j9 (jU (jG (qU (jF T S).mono hr rfl T.bN T.bO S.bY.b .nil qK (qA (pv 1) (qA qG (qA (qN yH (qJ (pv 0) rfl) qG) qE)))))) (qD jC) qR)),?_⟩
try dsimp-beta-proj-iota-zeta-eta only[wishK,cxK]
refine⟨_,rfl,_,rfl,c,_,a.dx,_,_,rfl,hc.ins,T.bG,T.eN,rfl,_,_,rfl,rfl,.int p,_,_,rfl,.int p,_,rfl,?_⟩
rw[inBi p0 p1]
exact iteF q)
inductive spID(t:Adr)(vs:List V)(H:Hp)(Q:VK)(E:XK):Prop
|mk:∀c a m,vs=[.ref c]→ChipAt t.C_Chip H c a m→Q (.bl (decide (m.lf=some 0))) H→spID t vs H Q E
theorem q1P(T:Txt K mg t)(S:Fns K t):S.iA.Ok0 P w mg base 1 (spID t):=by(
refine S.iA.F.ok0 q5O λcdv A _ s H vs Q E hr h=>?_
obtain⟨c,a,m,rfl,hc,q⟩:=h
refine⟨_,(qD (qL (jR yO (qJ (pv 0) rfl) qG (qO _)))),?_⟩
try dsimp-beta-proj-iota-zeta-eta only[wishK,cxK]
refine⟨_,rfl,c,_,a.dx,_,_,rfl,hc.ins,T.bG,T.bV,rfl,qH3,?_⟩
rw[lf0]
exact q)
inductive spPW(t:Adr)(vs:List V)(H:Hp)(Q:VK)(E:XK):Prop
|mk:∀c a m,vs=[.ref c]→ChipAt t.C_Chip H c a m→(if m.lf=some 0 then E (.ref t.C_PowerGone) none H else Q .non H)→spPW t vs H Q E
theorem zB(T:Txt K mg t)(S:Fns K t):S.eO.OkE P w mg base 2 (spPW t):=by(
refine S.eO.F.okE q36 (λvs H Q E h=>?_) (λcdv A outer s H vs Q E hr h=>?_)
·repeat obtain⟨_,h⟩:=h
 all_goals subst_vars;rfl
obtain⟨c,a,m,rfl,hc,q⟩:=h
refine⟨_,(qD (j9 (jG (qW (pv 0) T.bG T.o6 (q1P T S).mono hr S.iA.b .nil qK)) (qD (qAL jL rfl rfl T.aAR T.aDP (qA q1V qE))) qR)),?_⟩
try dsimp-beta-proj-iota-zeta-eta only[wishK,cxK]
refine⟨_,rfl,c,a.dx,_,rfl,hc.ins,rfl,c,a,m,rfl,hc,_,rfl,?_⟩
by_cases z:m.lf=some 0
·rw[kF z]at q;rw[hG z];exact iteT ⟨sz1,q⟩
rw[hV z]at q
rw[hU z]
exact iteF q)
inductive spCD(t:Adr)(vs:List V)(H:Hp)(Q:VK)(E:XK):Prop
|mk:∀c a m b,vs=[.ref c,.int b]→ChipAt t.C_Chip H c a m→m.Ok→Gd m→0≤b→b<m.bl→(if m.lf=some 0 then E (.ref t.C_PowerGone) none H else Q .non H)→spCD t vs H Q E
theorem zU(T:Txt K mg t)(S:Fns K t):S.eS.OkE P w mg base 3 (spCD t):=by(
refine S.eS.F.okE q3V (λvs H Q E h=>?_) (λcdv A outer s H vs Q E hr h=>?_)
·repeat obtain⟨_,h⟩:=h
 all_goals subst_vars;rfl
obtain⟨c,a,m,b,rfl,hc,ok,g,b0,b1,q⟩:=h
refine⟨_,(qB (jB (v8 jL (pv 0) T.bG T.fY (zB T S).mono hr S.eO.b .nil)) (qD (j9 (jG (qV jE (qJ (pv 0) rfl) (pv 1) (λ_ _=>rfl))) (qD jC) qR))),?_⟩
try dsimp-beta-proj-iota-zeta-eta only[wishK,cxK]
have nb:=ok.nbr
refine(iV rfl (iM hc.ins rfl ⟨c,a,m,rfl,hc,?_⟩))
split
·rename_i z;rw[kF z]at q;exact q
rename_i z
rw[hV z]at q
refine⟨_,rfl,c,_,a.dx,_,_,rfl,hc.ins,T.bG,T.iD,rfl,_,rfl,a.br,_,b,_,rfl,rfl,SqL.of hc.br,getB b0 (by lia),_,rfl,?_⟩
rw[g.br]
exact iteF q)
inductive spIS(t:Adr)(vs:List V)(H:Hp)(Q:VK)(E:XK):Prop
|mk:∀c a m b,vs=[.ref c,.int b]→ChipAt t.C_Chip H c a m→Gd m→Q (.bl false) H→spIS t vs H Q E
theorem q0P(T:Txt K mg t)(S:Fns K t):S.fQ.Ok0 P w mg base 1 (spIS t):=by(
refine S.fQ.F.ok0 q57 λcdv A _ s H vs Q E hr h=>?_
obtain⟨c,a,m,b,rfl,hc,g,q⟩:=h
have hu:=q6H hr
refine⟨_,(qD (qL (q1X (qJ1 (qET hu (pv 1) (qJ (pv 0) rfl))) (q0V (jR qCF (qV jE (qJ (pv 0) rfl) (pv 1) (λ_ _=>rfl)) (qGX hu (qJ (pv 0) rfl) (pv 1) (λ_ _=>rfl)) (qO _)))))),?_⟩
try dsimp-beta-proj-iota-zeta-eta only[wishK,cxK]
refine⟨_,rfl,_,rfl,c,_,a.dx,_,_,rfl,hc.ins,T.bG,T.tE,rfl,a.li,_,rfl,DGet.k (k:=Sum.inl b) hc.li,_,rfl,?_⟩
rw[g.li]
exact iteF q)
inductive spDD(t:Adr)(vs:List V)(H:Hp)(Q:VK)(E:XK):Prop
|mk:∀c a m w pl b,vs=[.ref c,.str w,.int pl,.int b,.bl false]→ChipAt t.C_Chip H c a m→m.Ok→m.rc.length<1000000→0≤b→b<m.bl→(∀H',ChipAt t.C_Chip H' c a (m.deed w pl b false)→Keep (foot c a) H H'→Q .non H')→spDD t vs H Q E
theorem q1Q(T:Txt K mg t)(S:Fns K t):S.f8.Ok0 P w mg base 3 (spDD t):=by(
refine S.f8.F.ok0 q5Q λcdv A _ s H vs Q E hr h=>?_
obtain⟨c,a,m,w,pl,b,rfl,hc,ok,hr1,b0,b1,q⟩:=h
refine⟨_,(q10 (j9 (qQ q5X (qJ (pv 0) rfl) yW (qO _)) (qD (q4T (pv 0) qG qJ8)) qR) (qB (q40 (qJ (pv 0) rfl) (pv 3) q21 qG q67 uH) (qB (jB (qEP cA wS wT q2W (qJ (pv 0) rfl) (qA (uK (qA (pv 1) (qA (pv 2) (qA (qBL (pv 4)) qE)))) qE q6I))) (qD (j9 (jG (pv 4)) (qB jC (qD jC)) qR))))),?_⟩
try dsimp-beta-proj-iota-zeta-eta only[wishK,cxK]
have nd:=ok.ndc
refine⟨λσ' H1=>σ'=[some (.ref c),some (.str w),some (.int pl),some (.int b),some (.bl false)]∧ChipAt t.C_Chip H1 c a { m with lf:=m.lf.map (· - 1) }∧Keep (foot c a) H H1,?_,?_⟩
·refine⟨_,rfl,c,_,a.dx,_,_,rfl,hc.ins,T.bG,T.bV,rfl,rfl,_,rfl,?_⟩;cases hl:m.lf with
 |none=>refine iteF ⟨rfl,?_,Keep.refl⟩;show ChipAt t.C_Chip H c a { m with lf:=none };rw[←hl];exact hc
 |some i=>refine iteT ?_;refine⟨_,rfl,c,_,a.dx,_,_,rfl,hc.ins,T.bG,T.bV,(by unfold chF;rw[hl];rfl),iI ⟨a.dx,_,hc.ins,by show 10<1000;decide,?_⟩⟩;refine⟨rfl,hc.setLf (some (i-1)),Keep.upd hc.ins (λ_ z=>by cases z) (by simp[foot])⟩
rintro _ H1 ⟨rfl,hc1,k1⟩
refine(iV rfl (iF hc1.ins T.bG T.fW rfl ⟨_,rfl,iL (k:=b) (v:=_) (SqL.of hc1.dc) (getI b0 (by show b<(m.dc.length:Int);lia)) (iI ⟨a.dc,_,b,b.toNat,rfl,rfl,hc1.dc,by rw[h9];exact ixOk b0 (by show b<(m.dc.length:Int);lia),?_⟩)⟩))
rw[←xG]
have hc2:=hc1.setDc (m.dc.set b.toNat (m.dc.getD b.toNat 0+1))
have k2:Keep (foot c a) H (upd H1 a.dc (.lst ((m.dc.set b.toNat (m.dc.getD b.toNat 0+1)).map V.int))):=k1.trans (Keep.upd hc1.dc (λ_ z=>by cases z) (by simp[foot]))
generalize upd H1 a.dc (.lst ((m.dc.set b.toNat (m.dc.getD b.toNat 0+1)).map V.int))=H2 at hc2 k2 ⊢
obtain⟨rs,er,pr⟩:=hc2.rc
have ln:rs.length≤1000000:=by rw[pr.len];exact c7 hr1
refine⟨_,rfl,c,_,a.dx,_,_,rfl,hc2.ins,T.bG,T.iE,rfl,.inl ⟨rfl,_,SqL.of er⟩,_,rfl,_,rfl,_,rfl,_,rfl,sz3,λp H3 np sm hp=>?_⟩
have er3:=sm _ _ er
refine⟨a.rc,rs,_,rfl,rfl,er3,d5 ln (by decide),?_⟩
exact⟨_,rfl,_,rfl,iteF (q _ ((hc2.same sm).addRc (d:=(w,pl,!false)) er3 hp) ((k2.trans (Keep.same sm)).trans (Keep.upd (o:=.lst (rs++[.ref p])) er3 (λ_ z=>by cases z) (by simp[foot]))))⟩)
inductive spPut(t:Adr)(vs:List V)(H:Hp)(Q:VK)(E:XK):Prop
|mk:∀c a m,∀p:Nat,∀st,vs=[.ref c,.int (p:Int),st]→ChipAt t.C_Chip H c a m→m.Ok→m.rc.length<1000000→Gd m→(p:Int)≤m.bl*m.pg-1→m.bo.getD p .non=.non→(m.lf=some 0→E (.ref t.C_PowerGone) none H)→(m.lf≠some 0→∀H',ChipAt t.C_Chip H' c a (putC m p st)→Keep (foot c a) H H'→Q .non H')→spPut t vs H Q E
theorem qBC(T:Txt K mg t)(S:Fns K t):S.aCD.OkE P w mg base 4 (spPut t):=by(
refine S.aCD.F.okE q5G (λvs H Q E h=>?_) (λcdv A outer s H vs Q E hr h=>?_)
·repeat obtain⟨_,h⟩:=h
 all_goals subst_vars;rfl
obtain⟨c,a,m,p,st,rfl,hc,ok,hr1,g,p1,hw,dk,q⟩:=h
refine⟨_,(qB (jB (j8 (pv 0) T.bG T.iO (zT T S).mono hr S.eU.b .nil qK (qA (pv 1) qE))) (qB (qS (i:=3) q5G.nd rfl (Or.inl rfl) (qN zD (pv 1) (qJ (pv 0) rfl))) (qB (jB (yI jL (pv 0) T.bG T.iQ (zU T S).mono hr S.eS.b .nil (qA (pv 3) qE))) (qB (j9 (qQ q5X (qV jE (qJ (pv 0) rfl) (pv 1) (λ_ _=>rfl)) yW (qO _)) (qD jC) qR) (qB (jB (j8 (pv 0) T.bG T.o7 (q1Q T S).mono hr S.f8.b .nil qK (qA q1V (qA (pv 1) (qA (pv 3) (qA (j8 (pv 0) T.bG T.oN (q0P T S).mono hr S.fQ.b .nil qK (qA (pv 3) qE)) qE)))))) (qD (q4P (pv 2) (q66 (qJ (pv 0) rfl) (pv 1) uH)))))))),?_⟩
try dsimp-beta-proj-iota-zeta-eta only[wishK,cxK]
have pg1:=ok.pg1
have pg2:=ok.pg2
have nbo:=ok.nbo
have p0:(0:Int)≤p:=by lia
obtain⟨b0,b1⟩:=qK0 ok p0 p1
refine⟨_,rfl,c,a.dx,_,rfl,hc.ins,rfl,_,rfl,c,a,m,p,rfl,hc,ok,p0,p1,?_⟩
refine⟨_,rfl,_,rfl,c,_,a.dx,_,_,rfl,hc.ins,T.bG,T.b9,rfl,_,_,rfl,rfl,⟨by lia,by lia⟩,?_⟩
refine⟨_,rfl,c,a.dx,_,rfl,hc.ins,rfl,_,rfl,c,a,m,_,rfl,hc,ok,g,b0,b1,?_⟩
by_cases z:m.lf=some 0
·rw[kF z];exact dk z
rw[hV z]
have q:=q z
refine⟨_,rfl,c,_,a.dx,_,_,rfl,hc.ins,T.bG,T.eZ,rfl,_,rfl,a.bo,_,p,_,rfl,rfl,SqL.of hc.bo,getV p0 (by lia),rfl,_,rfl,?_⟩
rw[mO,hG hw]
refine iteF ?_
refine⟨_,rfl,c,a.dx,_,rfl,hc.ins,rfl,_,rfl,_,rfl,_,rfl,c,a.dx,_,rfl,hc.ins,rfl,_,rfl,c,a,m,_,rfl,hc,g,?_⟩
refine⟨c,a,m,"put",p,_,rfl,hc,ok,hr1,b0,b1,λH' hc' k'=>?_⟩
refine⟨_,rfl,_,rfl,c,_,a.dx,_,_,rfl,hc'.ins,T.bG,T.eZ,rfl,_,rfl,a.bo,_,p,p,rfl,rfl,hc'.bo,ixOk p0 (by show(p:Int)<(m.bo.length:Int);lia),?_⟩
exact q _ (hc'.setBo (m.bo.set p st)) (k'.trans (Keep.upd hc'.bo (λ_ z=>by cases z) (by simp[foot]))))
inductive spRead(t:Adr)(vs:List V)(H:Hp)(Q:VK)(E:XK):Prop
|mk:∀c a m,∀p:Int,vs=[.ref c,.int p]→ChipAt t.C_Chip H c a m→m.Ok→0≤p→p≤m.bl*m.pg-1→(m.lf=some 0→E (.ref t.C_PowerGone) none H)→(m.lf≠some 0→Q (m.bo.getD p.toNat .non) H)→spRead t vs H Q E
theorem q9T(T:Txt K mg t)(S:Fns K t):S.aBA.OkE P w mg base 4 (spRead t):=by(
refine S.aBA.F.okE q9Q (λvs H Q E h=>?_) (λcdv A outer s H vs Q E hr h=>?_)
·repeat obtain⟨_,h⟩:=h
 all_goals subst_vars;rfl
obtain⟨c,a,m,p,rfl,hc,ok,p0,p1,dk,q⟩:=h
refine⟨_,(qB (jB (j8 (pv 0) T.bG T.iO (zT T S).mono hr S.eU.b .nil qK (qA (pv 1) qE))) (qB (jB (v8 jL (pv 0) T.bG T.fY (zB T S).mono hr S.eO.b .nil)) (qD (qL (qV jE (qJ (pv 0) rfl) (pv 1) (λ_ _=>rfl)))))),?_⟩
try dsimp-beta-proj-iota-zeta-eta only[wishK,cxK]
have nbo:=ok.nbo
refine(iV rfl (iM hc.ins rfl ⟨_,rfl,c,a,m,p,rfl,hc,ok,p0,p1,iV rfl (iM hc.ins rfl ⟨c,a,m,rfl,hc,?_⟩)⟩))
by_cases z:m.lf=some 0
·rw[kF z];exact dk z
rw[hV z]
exact(iV rfl (iF hc.ins T.bG T.eZ rfl ⟨_,rfl,iL (k:=p) (v:=_) (SqL.of hc.bo) (getV p0 (by lia)) (q z)⟩)))
inductive spCl(t:Adr)(vs:List V)(H:Hp)(Q:VK)(E:XK):Prop
|mk:∀c a m b,vs=[.ref c,.int b]→ChipAt t.C_Chip H c a m→m.Ok→0≤b→b≤m.bl-1→Q (.int (m.cl.getD b.toNat 0)) H→spCl t vs H Q E
theorem q1R(T:Txt K mg t)(S:Fns K t):S.fX.Ok0 P w mg base 4 (spCl t):=by(
refine S.fX.F.ok0 q5P λcdv A _ s H vs Q E hr h=>?_
obtain⟨c,a,m,b,rfl,hc,ok,b0,b1,q⟩:=h
refine⟨_,(qB (jB (j8 (pv 0) T.bG T.fB (uF T S).mono hr S.eC.b .nil qK (qA (pv 1) qE))) (qD (qL (qV jE (qJ (pv 0) rfl) (pv 1) (λ_ _=>rfl))))),?_⟩
try dsimp-beta-proj-iota-zeta-eta only[wishK,cxK]
have n:=ok.ncl
exact⟨_,rfl,c,a.dx,_,rfl,hc.ins,rfl,_,rfl,c,a,m,b,rfl,hc,b0,b1,_,rfl,c,_,a.dx,_,_,rfl,hc.ins,T.bG,T.eG,rfl,_,rfl,a.cl,_,b,_,rfl,rfl,SqL.of hc.cl,getI b0 (by lia),q⟩)
inductive spFa(t:Adr)(vs:List V)(H:Hp)(Q:VK)(E:XK):Prop
|mk:∀c a m b,vs=[.ref c,.int b]→ChipAt t.C_Chip H c a m→m.Ok→0≤b→b≤m.bl-1→Q (.bl (m.br.getD b.toNat false)) H→spFa t vs H Q E
theorem q78(T:Txt K mg t)(S:Fns K t):S.tH.Ok0 P w mg base 4 (spFa t):=by(
refine S.tH.F.ok0 q73 λcdv A _ s H vs Q E hr h=>?_
obtain⟨c,a,m,b,rfl,hc,ok,b0,b1,q⟩:=h
refine⟨_,(qB (jB (j8 (pv 0) T.bG T.fB (uF T S).mono hr S.eC.b .nil qK (qA (pv 1) qE))) (qD (qL (qV jE (qJ (pv 0) rfl) (pv 1) (λ_ _=>rfl))))),?_⟩
try dsimp-beta-proj-iota-zeta-eta only[wishK,cxK]
have n:=ok.nbr
exact⟨_,rfl,c,a.dx,_,rfl,hc.ins,rfl,_,rfl,c,a,m,b,rfl,hc,b0,b1,_,rfl,c,_,a.dx,_,_,rfl,hc.ins,T.bG,T.iD,rfl,_,rfl,a.br,_,b,_,rfl,rfl,SqL.of hc.br,getB b0 (by lia),q⟩)
inductive spDe(t:Adr)(vs:List V)(H:Hp)(Q:VK)(E:XK):Prop
|mk:∀c a m,vs=[.ref c]→ChipAt t.C_Chip H c a m→(∀rs,H a.rc=some (.lst rs)→Recd H rs m.rc→NewO H (.lst rs) Q)→spDe t vs H Q E
theorem vI(T:Txt K mg t)(S:Fns K t):S.fR.Ok0 P w mg base 1 (spDe t):=by(
refine S.fR.F.ok0 q7W λcdv A _ s H vs Q E hr h=>?_
obtain⟨c,a,m,rfl,hc,q⟩:=h
refine⟨_,(qD (qL (zI uI (by rfl) T.aB2 (by kernel_rfl) (qA (qJ (pv 0) rfl) qE)))),?_⟩
try dsimp-beta-proj-iota-zeta-eta only[wishK,cxK]
obtain⟨rs,er,pr⟩:=hc.rc
exact⟨_,rfl,c,_,a.dx,_,_,rfl,hc.ins,T.bG,T.iE,rfl,a.rc,rs,rfl,.inl (SqL.of er),q rs er pr⟩)
inductive spOn(t:Adr)(vs:List V)(H:Hp)(Q:VK)(E:XK):Prop
|mk:∀c a m,vs=[.ref c]→ChipAt t.C_Chip H c a m→(∀H',ChipAt t.C_Chip H' c a { m with lf:=none }→Keep (foot c a) H H'→Q .non H')→spOn t vs H Q E
theorem q58(T:Txt K mg t)(S:Fns K t):S.iX.Ok0 P w mg base 1 (spOn t):=by(
refine S.iX.F.ok0 q56 λcdv A _ s H vs Q E hr h=>?_
obtain⟨c,a,m,rfl,hc,q⟩:=h
refine⟨_,(qD (jD (pv 0) yW rfl)),?_⟩
try dsimp-beta-proj-iota-zeta-eta only[wishK,cxK]
refine⟨_,rfl,c,_,a.dx,_,rfl,hc.ins,T.bG,T.bV,(by show 10<1000;decide),?_⟩
exact q _ (hc.setLf none) (Keep.upd hc.ins (λ_ z=>by cases z) (by simp[foot])))
inductive spCut(t:Adr)(vs:List V)(H:Hp)(Q:VK)(E:XK):Prop
|mk:∀c a m,∀i:Int,vs=[.ref c,.int i]→ChipAt t.C_Chip H c a m→0≤i→i≤1000000→(∀H',ChipAt t.C_Chip H' c a { m with lf:=some i }→Keep (foot c a) H H'→Q .non H')→spCut t vs H Q E
theorem q4I(T:Txt K mg t)(S:Fns K t):S.iG.Ok0 P w mg base 3 (spCut t):=by(
refine S.iG.F.ok0 q4H λcdv A _ s H vs Q E hr h=>?_
obtain⟨c,a,m,i,rfl,hc,i0,i1,q⟩:=h
refine⟨_,(qB (j9 (jU (jG (qU (jF T S).mono hr rfl T.bN T.bO S.bY.b .nil qK (qA (pv 1) (qA qG (qA (zC rfl T.i9 ⟨_,rfl⟩ (v:=.int 1000000)) qE)))))) (qD jC) qR) (qD (jD (pv 0) (pv 1) rfl))),?_⟩
try dsimp-beta-proj-iota-zeta-eta only[wishK,cxK]
refine⟨_,rfl,.int i,_,_,rfl,.int i,_,rfl,?_⟩
rw[inBi i0 i1]
exact iteF ⟨_,rfl,_,rfl,c,_,a.dx,_,rfl,hc.ins,T.bG,T.bV,by show 10<1000;decide,q _ (hc.setLf (some i)) (Keep.upd hc.ins (λ_ z=>by cases z) (by simp[foot]))⟩)
inductive spWipe(t:Adr)(vs:List V)(H:Hp)(Q:VK)(E:XK):Prop
|mk:∀c a m,∀b:Nat,vs=[.ref c,.int (b:Int)]→ChipAt t.C_Chip H c a m→m.Ok→m.rc.length<1000000→Gd m→(b:Int)≤m.bl-1→m.cl.getD b 0<m.mo→(m.lf=some 0→E (.ref t.C_PowerGone) none H)→(m.lf≠some 0→∀H',ChipAt t.C_Chip H' c a (wipC m b)→Keep (foot c a) H H'→Q .non H')→spWipe t vs H Q E
theorem q9U(T:Txt K mg t)(S:Fns K t):S.aBH.OkE P w mg base 4 (spWipe t):=by(
refine S.aBH.F.okE zH (λvs H Q E h=>?_) (λcdv A outer s H vs Q E hr h=>?_)
·repeat obtain⟨_,h⟩:=h
 all_goals subst_vars;rfl
obtain⟨c,a,m,b,rfl,hc,ok,hr1,g,b1,hm,dk,q⟩:=h
refine⟨_,(qB (jB (j8 (pv 0) T.bG T.fB (uF T S).mono hr S.eC.b .nil qK (qA (pv 1) qE))) (qB (jB (yI jL (pv 0) T.bG T.iQ (zU T S).mono hr S.eS.b .nil (qA (pv 1) qE))) (qB (qS (i:=2) zH.nd rfl (Or.inl rfl) (qIC (j8 (pv 0) T.bG T.oN (q0P T S).mono hr S.fQ.b .nil qK (qA (pv 1) qE)) (q0V (jR qCF (qV jE (qJ (pv 0) rfl) (pv 1) (λ_ _=>rfl)) (qJ (pv 0) rfl) (qO _))))) (qB (jB (j8 (pv 0) T.bG T.o7 (q1Q T S).mono hr S.f8.b .nil qK (qA q1V (qA (pv 1) (qA (pv 1) (qA (pv 2) qE)))))) (qB (qS (i:=3) zH.nd rfl (Or.inl rfl) (qN yP (pv 1) (qJ (pv 0) rfl))) (qB (zY pR rfl (q88 rfl T.aA2 (qA (pv 3) (qA (qN jV (pv 3) (qJ (pv 0) rfl)) qE))) (jA (i:=4) zH.nd rfl (Or.inl rfl)) (qD (q4P yW (q66 (qJ (pv 0) rfl) (pv 4) uH)))) (qD (q40 (qJ (pv 0) rfl) (pv 1) q21 qG q67 uH)))))))),?_⟩
try dsimp-beta-proj-iota-zeta-eta only[wishK,cxK]
have b0:(0:Int)≤b:=by lia
have pg1:=ok.pg1
have pg2:=ok.pg2
have bl1:=ok.bl2
have nbo:=ok.nbo
have ncl:=ok.ncl
refine⟨_,rfl,c,a.dx,_,rfl,hc.ins,rfl,_,rfl,c,a,m,b,rfl,hc,b0,b1,?_⟩
refine⟨_,rfl,c,a.dx,_,rfl,hc.ins,rfl,_,rfl,c,a,m,b,rfl,hc,ok,g,b0,by lia,?_⟩
by_cases z:m.lf=some 0
·rw[kF z];exact dk z
rw[hV z]
have q:=q z
refine⟨_,rfl,c,a.dx,_,rfl,hc.ins,rfl,_,rfl,c,a,m,b,rfl,hc,g,_,rfl,iteF ?_⟩
refine⟨_,rfl,c,_,a.dx,_,_,rfl,hc.ins,T.bG,T.eG,rfl,_,rfl,a.cl,_,b,_,rfl,rfl,SqL.of hc.cl,getI b0 (by lia),_,rfl,c,_,a.dx,_,_,rfl,hc.ins,T.bG,T.aAQ,rfl,_,_,rfl,rfl,?_⟩
show vZ 2 (V.bl (decide (m.mo≤m.cl.getD b 0))) _ _ _
rw[hU (by lia)]
refine(iV rfl (iM hc.ins rfl ⟨_,rfl,_,rfl,_,rfl,c,a,m,"wipe",b,b,rfl,hc,ok,hr1,b0,by lia,λH' hc' k'=>?_⟩))
have bp:b*m.pg+m.pg≤m.bl*m.pg:=by have:=cO (show(b:Int)+1≤m.bl by lia) (show 0≤m.pg by lia);rw[Int.add_mul,Int.one_mul]at this;exact this
have bq:0≤b*m.pg:=nK b0 (by lia)
have bmax:m.bl*m.pg≤256:=by have:=aO bl1 pg2 (by lia) (by decide);lia
refine⟨_,rfl,_,rfl,c,_,a.dx,_,.int m.pg,rfl,hc'.ins,T.bG,T.b9,rfl,_,_,rfl,rfl,.inl ⟨by lia,by lia⟩,?_⟩
refine⟨_,rfl,_,rfl,_,rfl,c,_,a.dx,_,.int m.pg,rfl,hc'.ins,T.bG,T.b9,rfl,_,_,rfl,rfl,_,_,rfl,⟨by lia,by lia,by lia,by lia⟩,?_⟩
refine q4R (λi σ' H1=>∃y,σ'=[some (.ref c),some (.int b),some (.bl false),some (.int (b*m.pg)),y]∧ChipAt t.C_Chip H1 c a { m.deed "wipe" b b false with bo:=clr m.bo (b*m.pg).toNat i }∧Keep (foot c a) H H1) ⟨_,rfl,hc',k'⟩ (λi σ' H1 hi hp=>?_) (λσ' H1 hp=>?_)
·obtain⟨y,rfl,h1,k1⟩:=hp;have hi':(i:Int)<m.pg:=by have:i<(b*m.pg+m.pg-b*m.pg).toNat:=hi;lia
 refine⟨_,rfl,c,_,a.dx,_,_,rfl,h1.ins,T.bG,T.eZ,rfl,_,rfl,a.bo,_,_,(b*m.pg+i).toNat,rfl,rfl,h1.bo,ixOk (by lia) (by rw[q5Z];lia),?_⟩;have e:(b*m.pg+(i:Int)).toNat=(b*m.pg).toNat+i:=by lia
 rw[e];exact⟨_,rfl,h1.setBo _,k1.trans (Keep.upd h1.bo (λ_ z=>by cases z) (by simp[foot]))⟩
obtain⟨y,rfl,h1,k1⟩:=hp
have e:(b*m.pg+m.pg-b*m.pg).toNat=m.pg.toNat:=by lia
rw[e]at h1
refine⟨_,rfl,c,_,a.dx,_,_,rfl,h1.ins,T.bG,T.eG,rfl,_,rfl,a.cl,_,b,_,rfl,rfl,SqL.of h1.cl,getI b0 (by show(b:Int)<(m.cl.length:Int);lia),_,_,rfl,rfl,a.cl,_,b,b,rfl,rfl,h1.cl,by rw[h9];exact ixOk b0 (by show(b:Int)<(m.cl.length:Int);lia),?_⟩
rw[←xG]
exact q _ (h1.setCl _) (k1.trans (Keep.upd h1.cl (λ_ z=>by cases z) (by simp[foot]))))
inductive spLim(K:W.Frag)(vs:List V)(H:Hp)(Q:VK)(E:XK):Prop
|mk:∀l bl,vs=[.ref l,.int bl]→SqL K H l []→NewO H (.dK []) Q→spLim K vs H Q E
theorem q9V(T:Txt K mg t)(S:Fns K t):S.aA4.Ok0 P w mg base 3 (spLim K):=by(
refine S.aA4.F.ok0 zG λcdv A _ s H vs Q E hr h=>?_
obtain⟨l,bl,rfl,sq,q⟩:=h
refine⟨_,(qB (qS (i:=2) zG.nd rfl (Or.inl rfl) qAI) (qB (zY dF rfl (yC (pv 0)) (qBM rfl (uG (jA (i:=3) zG.nd rfl (Or.inl rfl)) (uG (jA (i:=4) zG.nd rfl (Or.inl rfl)) q5W))) (qB jC (qB jC (qB jC (qD jC))))) (qD (qL (pv 2))))),?_⟩
try dsimp-beta-proj-iota-zeta-eta only[wishK,cxK]
refine λp np=>?_
have s0:Same H (upd H p (.dK [])):=Same.upd np
refine⟨_,rfl,l,rfl,⟨[],s0.seq sq⟩,q0J (K:=K) (xs:=[]) (λ_ σ' H1=>(∃y z,σ'=[some (.ref l),some (.int bl),some (.ref p),y,z])∧H1=upd H p (.dK [])) ⟨⟨_,_,rfl⟩,rfl⟩ (λi σ' H1 _ hp=>by rw[hp.2];exact s0.seq sq) (λi x σ' H1 hx _=>by simp at hx) (λσ' H1 hp=>?_)⟩
obtain⟨⟨y,z,rfl⟩,rfl⟩:=hp
exact⟨_,rfl,q p _ np s0 qI⟩)
structure Wm(C x dx:Addr)(H G:Hp)(fs:List (Str×V))(os:List (Addr×HO)):Prop where
i:G x=some (.ins C dx fs)
u:Up x H G
o:∀p∈os,G p.1=some p.2∧H p.1=none∧p.1≠x
n:(os.map (·.1)).Nodup
section
variable{C x dx:Addr}{H G B:Hp}{fs fs':List (Str×V)}{os:List (Addr×HO)}
theorem Wm.same(h:Wm C x dx H G fs os)(s:Same G B):Wm C x dx H B fs os:=⟨s _ _ h.i,λb o n e=>s _ _ (h.u b o n e),λp hp=>⟨s _ _ (h.o p hp).1,(h.o p hp).2⟩,h.n⟩
theorem Wm.add(h:Wm C x dx H G fs os){a:Addr}{o:HO}(na:G a=none)(s:Same G B)(e:B a=some o):Wm C x dx H B fs (os++[(a,o)]):=by(
have ax:a≠x:=λz=>by rw[z,h.i]at na;cases na
have w:=h.same s
refine⟨w.i,w.u,λp hp=>?_,?_⟩
·rcases gT.mp hp with hp|hp
 ·exact w.o p hp
 rw[hX.mp hp];exact⟨e,Up.free h.u ax na,ax⟩
rw[mR]
refine wB.mpr ⟨h.n,by simp,λb hb c hc=>?_⟩
obtain⟨p,hp,rfl⟩:=kY.mp hb
obtain rfl:c=a:=by simpa using hc
exact qH (h.o p hp).1 na)
theorem Wm.set(h:Wm C x dx H G fs os):Wm C x dx H (upd G x (.ins C dx fs')) fs' os:=⟨qI,λb o n e=>by rw[qC n];exact h.u b o n e,λp hp=>⟨by rw[qC (h.o p hp).2.2];exact(h.o p hp).1,(h.o p hp).2⟩,h.n⟩
theorem Wm.fr(h:Wm C x dx H G fs os)(a:Addr)(ha:a∈os.map (·.1)):H a=none:=by obtain⟨p,hp,rfl⟩:=kY.mp ha;exact(h.o p hp).2.1
theorem Wm.put(h:Wm C x dx H G fs os)(f:Str)(v:V):Wm C x dx H (upd G x (.ins C dx (putF f v fs))) (putF f v fs) os:=h.set
end
inductive spMk(t:Adr)(vs:List V)(H:Hp)(Q:VK)(E:XK):Prop
|mk:∀x dx,∀b p m:Int,vs=[.ref x,.int b,.int p,.int m,.non]→H x=some (.ins t.C_Chip dx [])→2≤b→b≤16→1≤p→p≤16→0≤m→m≤1000000→(∀a H',ChipAt t.C_Chip H' x a (CM.new b p m [])→(∀b∈[a.li,a.bo,a.cl,a.dc,a.br,a.rc],H b=none)→Up x H H'→Q .non H')→spMk t vs H Q E
theorem q9W(T:Txt K mg t)(S:Fns K t):FnOk P w K mg base (CX0) 4 t.f_Chip_init S.fJ ["self","blocks","pages","most","ills"] (spMk t):=by(
refine S.aDK.ok0 q9P λcdv A _ s H vs Q E hr h=>?_
obtain⟨x,dx,b,p,m,rfl,hx,b1,b2,p1,p2,m1,m2,q⟩:=h
refine⟨_,(qB (j9 (jU (jG (qU (q5J T S).mono hr rfl T.aA5 T.aA3 S.aAX.b .nil qK (qA (pv 1) (qA (pv 2) qE))))) (qD jC) qR) (qB (j9 (jU (jG (qU (jF T S).mono hr rfl T.bN T.bO S.bY.b .nil qK (qA (pv 3) (qA qG (qA (zC rfl T.i9 ⟨_,rfl⟩ (v:=.int 1000000)) qE)))))) (qD jC) qR) (qB (jD (pv 0) (pv 1) rfl) (qB (jD (pv 0) (pv 2) rfl) (qB (jD (pv 0) (pv 3) rfl) (qB (jD (pv 0) (qU (q9V T S).mono hr rfl T.aCZ T.aC1 S.aA4.b .nil qK (qA (qA8 (qQ q69 (pv 4) yW (qO _)) (yA qE) (pv 4)) (qA (pv 1) qE))) rfl) (qB (jD (pv 0) (qN q0Z (yA (qA yW qE)) (qN yP (pv 1) (pv 2))) rfl) (qB (jD (pv 0) (qN q0Z (yA (qA qG qE)) (pv 1)) rfl) (qB (jD (pv 0) (qN q0Z (yA (qA qG qE)) (pv 1)) rfl) (qB (jD (pv 0) (qN q0Z (yA (qA vJ qE)) (pv 1)) rfl) (qB (jD (pv 0) yW rfl) (qD (jD (pv 0) (yA qE) rfl))))))))))))),?_⟩
try dsimp-beta-proj-iota-zeta-eta only[wishK,cxK]
refine⟨_,rfl,_,rfl,.int b,.int p,rfl,.int b,.int p,_,rfl,?_⟩
rw[inBi b1 b2,inBi p1 p2]
refine iteF ?_
refine⟨_,rfl,.int m,_,_,rfl,.int m,_,rfl,?_⟩
rw[inBi m1 m2]
refine iteF ?_
have bp:b*p≤256:=aO b2 p2 (by lia) (by decide)
have bp0:0≤b*p:=nK (by lia) (by lia)
refine⟨_,rfl,_,rfl,x,_,dx,_,rfl,hx,T.bG,T.eN,by simp,?_⟩
have w1:Wm t.C_Chip x dx H (upd H x (.ins t.C_Chip dx (putF "blocks" (.int b) []))) (putF "blocks" (.int b) []) []:=⟨qI,Up.of (Same.refl H),by simp,by simp⟩
refine⟨_,rfl,_,rfl,x,_,dx,_,rfl,w1.i,T.bG,T.b9,by show 1<1000;decide,?_⟩
have w2:=w1.put "pages" (.int p)
refine⟨_,rfl,_,rfl,x,_,dx,_,rfl,w2.i,T.bG,T.aAQ,by show 2<1000;decide,?_⟩
have w3:=w2.put "most" (.int m)
refine⟨_,rfl,rfl,_,rfl,iteT ⟨sz0,λl0 H2 n0 s0 e0=>?_⟩⟩
refine⟨_,rfl,l0,b,rfl,SqL.of e0,λli H3 n1 s1 e1=>?_⟩
have w4:=(w3.same s0).add n1 s1 e1
refine⟨_,rfl,x,_,dx,_,rfl,w4.i,T.bG,T.tE,by show 3<1000;decide,?_⟩
have w4:=w4.put "limits" (.ref li)
refine⟨sz1,λwa A1 n1 s1 e1=>⟨_,rfl,_,rfl,_,_,rfl,rfl,.inl ⟨by lia,by lia⟩,wa,_,_,rfl,rfl,e1,by lia,by lia,λbo B1 m1 r1 hbo=>?_⟩⟩
have w5:=(w4.same s1).add m1 r1 hbo
refine⟨_,rfl,x,_,dx,_,rfl,w5.i,T.bG,T.eZ,by show 4<1000;decide,?_⟩
have w5:=w5.put "borne" (.ref bo)
refine⟨sz1,λwa A2 n2 s2 e2=>⟨_,rfl,wa,_,_,rfl,rfl,e2,by lia,by lia,λcl B2 m2 r2 hcl=>?_⟩⟩
have w6:=(w5.same s2).add m2 r2 hcl
refine⟨_,rfl,x,_,dx,_,rfl,w6.i,T.bG,T.eG,by show 5<1000;decide,?_⟩
have w6:=w6.put "clearings" (.ref cl)
refine⟨sz1,λwa A3 n3 s3 e3=>⟨_,rfl,wa,_,_,rfl,rfl,e3,by lia,by lia,λdc B3 m3 r3 hdc=>?_⟩⟩
have w7:=(w6.same s3).add m3 r3 hdc
refine⟨_,rfl,x,_,dx,_,rfl,w7.i,T.bG,T.fW,by show 6<1000;decide,?_⟩
have w7:=w7.put "deed_counts" (.ref dc)
refine⟨sz1,λwa A4 n4 s4 e4=>⟨_,rfl,wa,_,_,rfl,rfl,e4,by lia,by lia,λbr B4 m4 r4 hbr=>?_⟩⟩
have w8:=(w7.same s4).add m4 r4 hbr
refine⟨_,rfl,x,_,dx,_,rfl,w8.i,T.bG,T.iD,by show 7<1000;decide,?_⟩
have w8:=w8.put "broken" (.ref br)
refine⟨_,rfl,x,_,dx,_,rfl,w8.i,T.bG,T.bV,by show 8<1000;decide,?_⟩
have w9:=w8.put "deeds_left" .non
refine⟨sz0,λrc B5 m5 r5 hrc=>?_⟩
have w:=w9.add m5 r5 hrc
refine⟨_,rfl,x,_,dx,_,rfl,w.i,T.bG,T.iE,by show 9<1000;decide,?_⟩
have w:=w.set (fs':=chF ⟨dx,li,bo,cl,dc,br,rc⟩ (CM.new b p m []))
refine q ⟨dx,li,bo,cl,dc,br,rc⟩ _ ⟨w.i,(w.o (li,.dK []) (by simp)).1,(w.o (bo,.lst (List.replicate (b*p).toNat .non)) (by simp)).1,?_,?_,?_,⟨[],(w.o (rc,.lst []) (by simp)).1,.nil⟩,(mW.mp (show(li::[bo,cl,dc,br,rc]).Nodup from w.n)).2⟩ (λb' hb'=>w.fr b' hb') w.u
·show _=some (HO.lst ((List.replicate b.toNat (0:Int)).map V.int));rw[wY];exact(w.o (cl,.lst (List.replicate b.toNat (.int 0))) (by simp)).1
·show _=some (HO.lst ((List.replicate b.toNat (0:Int)).map V.int));rw[wY];exact(w.o (dc,.lst (List.replicate b.toNat (.int 0))) (by simp)).1
show _=some (HO.lst ((List.replicate b.toNat false).map V.bl))
rw[wY]
exact(w.o (br,.lst (List.replicate b.toNat (.bl false))) (by simp)).1)
theorem jN(T:Txt K mg t)(S:Fns K t):S.bW.Ok0 P w mg base 1 (qJX K):=by(
refine S.bW.F.ok0 q77 λcdv A _ s H vs Q E hr h=>?_
obtain⟨a,ns,k,rfl,hS,h0,q⟩:=h
refine⟨_,(qB (j9 (qQ q1L (pv 1) (qX qY (by rfl) T.oI gC (qA (pv 0) qE)) (qO _)) (qD (qL (qV jE (pv 0) (pv 1) (λ_ _=>rfl)))) qR) (qD (qL qG))),?_⟩
try dsimp-beta-proj-iota-zeta-eta only[wishK,cxK]
refine⟨_,rfl,_,rfl,a,_,rfl,.inl hS,_,_,rfl,rfl,_,rfl,?_⟩
rw[h9]
by_cases h1:k<(ns.length:Int)
·rw[hG h1];refine iteT ?_;exact⟨_,rfl,_,rfl,a,_,k,_,rfl,rfl,hS,qDT h0 h1,q⟩
rw[hU h1]
refine iteF ?_
have e:=qBR h0 h1
rw[e]at q
exact q)
theorem qLT{H:Hp}{bl pg mo:Int}{Q:Addr→Hp→Prop}{E:XK}(b1:2≤bl)(b2:bl≤16)(p1:1≤pg)(p2:pg≤16)(m1:0≤mo)(m2:mo≤1000000)
 (q:∀x a H',ChipAt t.C_Chip H' x a (CM.new bl pg mo [])→Same H H'→(∀b∈a.li::foot x a,H b=none)→Q x H') (x dx:Addr) (nx:H x=none) (ndx:H dx=none) (ne:dx≠x):
 spMk t [.ref x,.int bl,.int pg,.int mo,.non] (upd (upd H dx (.own x)) x (.ins t.C_Chip dx [])) (λv H2=>v=.non∧Q x H2) E:=by(
have s0:Same H (upd (upd H dx (.own x)) x (.ins t.C_Chip dx [])):=λb o e=>by rw[qC (qH e nx),qC (qH e ndx)];exact e
refine⟨x,dx,bl,pg,mo,rfl,qI,b1,b2,p1,p2,m1,m2,λa H' hc fr u=>⟨rfl,q x a H' hc (λb o e=>u b o (qH e nx) (s0 b o e)) λb hb=>?_⟩⟩
have hb:b=x∨b∈[a.li,a.bo,a.cl,a.dc,a.br,a.rc]:=by simp[foot]at hb ⊢;rcases hb with rfl|rfl|rfl|rfl|rfl|rfl|rfl<;>simp
rcases hb with rfl|hb
·exact nx
exact s0.free (fr _ hb))
theorem q4J(T:Txt K mg t)(S:Fns K t):S.t9.Ok0 P w mg base 1 qCL:=by(
refine S.t9.F.ok0 q9R λcdv A _ s H vs Q E hr h=>?_
obtain⟨x,rfl,kn,k⟩:=h
refine⟨_,(qD (qL (q1X (qX yQ (by rfl) T.eD (by kernel_rfl) (qA (pv 0) (qA (q0U rfl T.aEZ (by kernel_rfl) rfl (v:=.ty "int")) qE))) (q0V (qBL (qX yQ (by rfl) T.eD (by kernel_rfl) (qA (pv 0) (qA (q0U rfl T.aEW (by kernel_rfl) rfl (v:=.ty "bool")) qE)))))))),?_⟩
try dsimp-beta-proj-iota-zeta-eta only[wishK,cxK]
obtain⟨ty,q,e1,e2,_⟩:=kn.ty (K:=K)
refine⟨_,rfl,x,_,_,ty,_,rfl,rfl,.inl q,e1,_,rfl,?_⟩
have z:=qEX x
cases qi:isI x with
|true=>rw[qi,kF rfl]at z;refine iteT ?_;refine⟨_,rfl,x,_,_,ty,_,rfl,rfl,.inl q,e2,_,rfl,?_⟩;rw[z];exact k
|false=>rw[qi]at z;refine iteF ?_;have z':false=isW x:=z;rw[z'];exact k)
inductive spClo(t:Adr)(vs:List V)(H:Hp)(Q:VK)(E:XK):Prop
|mk:∀x dx fs b e,vs=[.ref x]→H x=some (.ins t.C_Terms dx fs)→fs.lookup (Str.ofString "blocks")=some (.int b)→fs.lookup (Str.ofString "ill")=some (.int e)→Q (.int (b-1-e)) H→spClo t vs H Q E
theorem q5T(T:Txt K mg t)(S:Fns K t):S.oB.Ok0 P w mg base 1 (spClo t):=by(
refine S.oB.F.ok0 q5S λcdv A _ s H vs Q E hr h=>?_
obtain⟨x,dx,fs,b,e,rfl,hx,l1,l2,q⟩:=h
refine⟨_,(qD (qL (qN yH (qN yH (qJ (pv 0) rfl) qG) (qJ (pv 0) rfl)))),?_⟩
try dsimp-beta-proj-iota-zeta-eta only[wishK,cxK]
exact⟨_,rfl,x,_,dx,_,_,rfl,hx,T.bM,T.eW,l1,_,_,rfl,rfl,_,rfl,x,_,dx,_,_,rfl,hx,T.bM,T.oF,l2,_,_,rfl,rfl,q⟩)
noncomputable def teF(r0 r1 r2 r3 r4 r5:V):List (Str×V):=[("blocks",r0),("pages",r1),("sheets",r2),("share",r3),("ill",r4),("spread",r5)]
inductive spTm(t:Adr)(vs:List V)(H:Hp)(Q:VK)(E:XK):Prop
|mk:∀x dx,∀b p s r e d:Int,vs=[.ref x,.int b,.int p,.int s,.int r,.int e,.int d]→H x=some (.ins t.C_Terms dx [])→2≤b→b≤16→1≤p→p≤16→1≤s→s≤64→1≤r→r≤(b-1-e)*p-2→0≤e→e≤b-2→1≤d→d≤1000000→(∀H',H' x=some (.ins t.C_Terms dx (teF (.int b) (.int p) (.int s) (.int r) (.int e) (.int d)))→Up x H H'→Q .non H')→spTm t vs H Q E
theorem q7Z(T:Txt K mg t)(S:Fns K t):FnOk P w K mg base (CX0) 4 t.f_Terms_init S.e9 ["self","blocks","pages","sheets","share","ill","spread"] (spTm t):=by(
refine S.aCR.ok0 q7X λcdv A _ s H vs Q E hr h=>?_
obtain⟨x,dx,b,p,s',r,e,d,rfl,hx,b1,b2,p1,p2,s1,s2,r1,r2,e1,e2,d1,d2,q⟩:=h
refine⟨_,(qB (j9 (jU (jG (qU (q5J T S).mono hr rfl T.aA5 T.aA3 S.aAX.b .nil qK (qA (pv 1) (qA (pv 2) qE))))) (qD jC) qR) (qB (j9 (jU (jG (qU (jF T S).mono hr rfl T.bN T.bO S.bY.b .nil qK (qA (pv 3) (qA qG (qA qG qE)))))) (qD jC) qR) (qB (j9 (jU (jG (qU (jF T S).mono hr rfl T.bN T.bO S.bY.b .nil qK (qA (pv 5) (qA qG (qA (qN yH (pv 1) qG) qE)))))) (qD jC) qR) (qB (j9 (jU (jG (qU (jF T S).mono hr rfl T.bN T.bO S.bY.b .nil qK (qA (pv 6) (qA qG (qA (zC rfl T.i9 ⟨_,rfl⟩ (v:=.int 1000000)) qE)))))) (qD jC) qR) (qB (jD (pv 0) (pv 1) rfl) (qB (jD (pv 0) (pv 2) rfl) (qB (jD (pv 0) (pv 3) rfl) (qB (jD (pv 0) (pv 4) rfl) (qB (jD (pv 0) (pv 5) rfl) (qB (jD (pv 0) (pv 6) rfl) (qD (j9 (jU (jG (qU (jF T S).mono hr rfl T.bN T.bO S.bY.b .nil qK (qA (pv 4) (qA qG (qA (qN yH (qN yP (qW (pv 0) T.bM T.aBR (q5T T S).mono hr S.oB.b .nil qK) (pv 2)) qG) qE)))))) (qD jC) qR)))))))))))),?_⟩
try dsimp-beta-proj-iota-zeta-eta only[wishK,cxK]
refine⟨_,rfl,_,rfl,.int b,.int p,rfl,.int b,.int p,_,rfl,?_⟩
rw[inBi b1 b2,inBi p1 p2]
refine iteF ⟨_,rfl,.int s',_,_,rfl,.int s',_,rfl,?_⟩
rw[inBi s1 s2]
refine iteF ⟨_,rfl,_,rfl,_,_,rfl,rfl,.int e,_,_,rfl,.int e,_,rfl,?_⟩
rw[inBi e1 e2]
refine iteF ⟨_,rfl,.int d,_,_,rfl,.int d,_,rfl,?_⟩
rw[inBi d1 d2]
refine iteF ⟨_,rfl,_,rfl,x,_,dx,_,rfl,hx,T.bM,T.eW,by simp,?_⟩
have w1:Wm t.C_Terms x dx H (upd H x (.ins t.C_Terms dx (putF "blocks" (.int b) []))) (putF "blocks" (.int b) []) []:=⟨qI,Up.of (Same.refl H),by simp,by simp⟩
refine⟨_,rfl,_,rfl,x,_,dx,_,rfl,w1.i,T.bM,T.bK,by show 1<1000;decide,?_⟩
have w2:=w1.put "pages" (.int p)
refine⟨_,rfl,_,rfl,x,_,dx,_,rfl,w2.i,T.bM,T.i8,by show 2<1000;decide,?_⟩
have w3:=w2.put "sheets" (.int s')
refine⟨_,rfl,_,rfl,x,_,dx,_,rfl,w3.i,T.bM,T.oZ,by show 3<1000;decide,?_⟩
have w4:=w3.put "share" (.int r)
refine⟨_,rfl,_,rfl,x,_,dx,_,rfl,w4.i,T.bM,T.oF,by show 4<1000;decide,?_⟩
have w5:=w4.put "ill" (.int e)
refine⟨_,rfl,_,rfl,x,_,dx,_,rfl,w5.i,T.bM,T.aA7,by show 5<1000;decide,?_⟩
have w:=w5.put "spread" (.int d)
refine⟨_,rfl,_,rfl,x,dx,_,rfl,w.i,rfl,x,dx,_,b,e,rfl,w.i,rfl,rfl,_,rfl,_,_,rfl,rfl,.inr ⟨by lia,by lia⟩,_,_,rfl,rfl,.int r,_,_,rfl,.int r,_,rfl,?_⟩
rw[inBi r1 r2]
exact iteF (q _ w.i w.u))
theorem qLU{H:Hp}{b p s r e d:Int}{Q:Addr→Hp→Prop}{E:XK}(b1:2≤b)(b2:b≤16)(p1:1≤p)(p2:p≤16)(s1:1≤s)(s2:s≤64)(r1:1≤r)(r2:r≤(b-1-e)*p-2)(e1:0≤e)(e2:e≤b-2)(d1:1≤d)(d2:d≤1000000)
 (q:∀x dx H',Same H H'→H' x=some (.ins t.C_Terms dx (teF (.int b) (.int p) (.int s) (.int r) (.int e) (.int d)))→Q x H') (x dx:Addr) (nx:H x=none) (ndx:H dx=none) (ne:dx≠x):
 spTm t [.ref x,.int b,.int p,.int s,.int r,.int e,.int d] (upd (upd H dx (.own x)) x (.ins t.C_Terms dx [])) (λv H2=>v=.non∧Q x H2) E:=by
 have s0:Same H (upd (upd H dx (.own x)) x (.ins t.C_Terms dx [])):=λb o e=>by rw[qC (qH e nx),qC (qH e ndx)];exact e
 exact⟨x,dx,b,p,s,r,e,d,rfl,qI,b1,b2,p1,p2,s1,s2,r1,r2,e1,e2,d1,d2,λH' h u=>⟨rfl,q x dx H' (λb o e=>u b o (qH e nx) (s0 b o e)) h⟩⟩
inductive spMkO(vs:List V)(H:Hp)(Q:VK)(E_:XK):Prop
|mk:∀s n,vs=[.int s,.int n]→Q (.int (s*128+n)) H→spMkO vs H Q E_
theorem qCA(T:Txt K mg t)(S:Fns K t):S.aDN.Ok0 P w mg base 1 spMkO:=by(
refine S.aDN.F.ok0 qC9 λcdv A _ s H vs Q E hr h=>?_
obtain⟨s',n,rfl,q⟩:=h
refine⟨_,(qD (qL (qN jV (qN yP (pv 0) (zC rfl T.aEK ⟨_,rfl⟩ (v:=.int 128))) (pv 1)))),?_⟩
try dsimp-beta-proj-iota-zeta-eta only[wishK,cxK]
exact⟨_,rfl,_,_,rfl,rfl,.inr ⟨by decide,by decide⟩,_,rfl,_,_,rfl,rfl,q⟩)
structure BkA where
bk:Addr
dx:Addr
wv:Addr
lv:Addr
fi:Addr
bo:Addr
structure BkAt(t:Adr)(H:Hp)(a:BkA)(m:QM):Prop where
o:H a.bk=some (.ins t.C_Book a.dx [("blocks",.int (m.B:Int)),("pages",.int (m.P:Int)),("stamp",.int m.nx),("where",.ref a.wv),("live",.ref a.lv),("filled",.ref a.fi),("born",.ref a.bo)])
w:H a.wv=some (.dK (dI m.V))
l:H a.lv=some (.lst (m.lv.map V.int))
f:H a.fi=some (.lst (m.fi.map V.int))
b:H a.bo=some (.lst (m.bo.map V.int))
structure Dst(a:BkA):Prop where
lf:a.lv≠a.fi
lb:a.lv≠a.bo
fb:a.fi≠a.bo
theorem BkAt.same{t:Adr}{H H':Hp}{a:BkA}{m:QM}(h:BkAt t H a m)(s:Same H H'):BkAt t H' a m:=⟨s _ _ h.o,s _ _ h.w,s _ _ h.l,s _ _ h.f,s _ _ h.b⟩
theorem BkAt.keep{t:Adr}{H H':Hp}{a:BkA}{m:QM}{F:List Addr}(h:BkAt t H a m)(k:Keep F H H')(n:∀b∈[a.bk,a.wv,a.lv,a.fi,a.bo],b∉F):BkAt t H' a m:=⟨k.k _ _ (n _ (by simp)) h.o,k.k _ _ (n _ (by simp)) h.w,k.k _ _ (n _ (by simp)) h.l,k.k _ _ (n _ (by simp)) h.f,k.k _ _ (n _ (by simp)) h.b⟩
noncomputable def bk0(B P:Nat):QM:=⟨P,B,1,[],List.replicate B 0,List.replicate B 0,List.replicate B 0⟩
inductive spBkI(t:Adr)(vs:List V)(H:Hp)(Q:VK)(E_:XK):Prop
|mk:∀x dx B P,vs=[.ref x,.int (B:Nat),.int (P:Nat)]→B≤16→H x=some (.ins t.C_Book dx [])→(∀(a:BkA) H',a.bk=x→a.dx=dx→BkAt t H' a (bk0 B P)→Dst a→(∀b∈[a.wv,a.lv,a.fi,a.bo],H b=none)→(∀b o,b≠x→H b=some o→H' b=some o)→Q .non H')→spBkI t vs H Q E_
theorem q9X(T:Txt K mg t)(S:Fns K t):S.aA6.Ok0 P w mg base 1 (spBkI t):=by(
refine S.aA6.F.ok0 q9L λcdv A _ s H vs Q E hr h=>?_
obtain⟨x,dx,B,P,rfl,hB,hx,q⟩:=h
refine⟨_,(qB (jD (pv 0) (pv 1) rfl) (qB (jD (pv 0) (pv 2) rfl) (qB (jD (pv 0) qG rfl) (qB (jD (pv 0) qAI rfl) (qB (jD (pv 0) (qN q0Z (yA (qA qG qE)) (pv 1)) rfl) (qB (jD (pv 0) (qN q0Z (yA (qA qG qE)) (pv 1)) rfl) (qD (jD (pv 0) (qN q0Z (yA (qA qG qE)) (pv 1)) rfl)))))))),?_⟩
try dsimp-beta-proj-iota-zeta-eta only[wishK,cxK]
refine⟨_,rfl,_,rfl,x,_,dx,_,rfl,hx,T.bJ,T.aBT,by decide,?_⟩
refine⟨_,rfl,_,rfl,x,_,dx,_,rfl,qI,T.bJ,T.fO,by show 1<1000;decide,?_⟩
refine⟨_,rfl,x,_,dx,_,rfl,qI,T.bJ,T.bQ,by show 2<1000;decide,?_⟩
rw[q0T,q0T]
have w1:Wm t.C_Book x dx H (upd H x (.ins t.C_Book dx (putF "stamp" (.int 1) (putF "pages" (.int (P:Int)) (putF "blocks" (.int (B:Int)) []))))) (putF "stamp" (.int 1) (putF "pages" (.int (P:Int)) (putF "blocks" (.int (B:Int)) []))) []:=⟨qI,Up.of (Same.refl H),by simp,by simp⟩
have rep:∀n:Nat,List.replicate n (V.int 0)=(List.replicate n (0:Int)).map V.int:=λn=>by rw[wY]
have eB:((B:Int)).toNat=B:=by lia
refine λwv nwv=>?_
have w2:=w1.add nwv (Same.upd (o:=.dK []) nwv) qI
refine⟨_,rfl,x,_,dx,_,rfl,w2.i,T.bJ,T.eI,by show 3<1000;decide,?_⟩
have w2:=w2.put "where" (.ref wv)
refine⟨sz1,λwa A3 n3 s3 e3=>⟨_,rfl,wa,_,_,rfl,rfl,e3,by lia,by lia,λlv B3 m3 r3 hlv=>?_⟩⟩
rw[eB,rep]at hlv
have w3:=(w2.same s3).add m3 r3 hlv
refine⟨_,rfl,x,_,dx,_,rfl,w3.i,T.bJ,T.f6,by show 4<1000;decide,?_⟩
have w3:=w3.put "live" (.ref lv)
refine⟨sz1,λwa A4 n4 s4 e4=>⟨_,rfl,wa,_,_,rfl,rfl,e4,by lia,by lia,λfi B4 m4 r4 hfi=>?_⟩⟩
rw[eB,rep]at hfi
have w4:=(w3.same s4).add m4 r4 hfi
refine⟨_,rfl,x,_,dx,_,rfl,w4.i,T.bJ,T.bR,by show 5<1000;decide,?_⟩
have w4:=w4.put "filled" (.ref fi)
refine⟨sz1,λwa A5 n5 s5 e5=>⟨_,rfl,wa,_,_,rfl,rfl,e5,by lia,by lia,λbo B5 m5 r5 hbo=>?_⟩⟩
rw[eB,rep]at hbo
have w5:=(w4.same s5).add m5 r5 hbo
refine⟨_,rfl,x,_,dx,_,rfl,w5.i,T.bJ,T.iB,by show 6<1000;decide,?_⟩
have w5:=w5.put "born" (.ref bo)
have nd:[wv,lv,fi,bo].Nodup:=w5.n
simp only[mW,kJ,g9,not_or,cS]at nd
exact q ⟨x,dx,wv,lv,fi,bo⟩ _ rfl rfl ⟨w5.i,(w5.o (wv,.dK []) (by simp)).1,(w5.o (lv,.lst ((List.replicate B (0:Int)).map V.int)) (by simp)).1,(w5.o (fi,.lst ((List.replicate B (0:Int)).map V.int)) (by simp)).1,(w5.o (bo,.lst ((List.replicate B (0:Int)).map V.int)) (by simp)).1⟩ ⟨nd.2.1.1,nd.2.1.2,nd.2.2.1⟩ (λb' hb'=>w5.fr b' hb') w5.u)
inductive spMark(t:Adr)(vs:List V)(H:Hp)(Q:VK)(E_:XK):Prop
|mk:∀a,∀m:QM,∀n,vs=[.ref a.bk,.int n]→BkAt t H a m→Q (.int (m.nx*128+n)) H→spMark t vs H Q E_
theorem q9Y(T:Txt K mg t)(S:Fns K t):S.aBN.Ok0 P w mg base 2 (spMark t):=by(
refine S.aBN.F.ok0 q9M λcdv A _ s H vs Q E hr h=>?_
obtain⟨a,m,n,rfl,hb,q⟩:=h
refine⟨_,(qD (qL (qU (qCA T S).mono hr rfl T.aDX T.aDU S.aDN.b .nil qK (qA (qJ (pv 0) rfl) (qA (pv 1) qE))))),?_⟩
try dsimp-beta-proj-iota-zeta-eta only[wishK,cxK]
exact⟨_,rfl,a.bk,_,a.dx,_,_,rfl,hb.o,T.bJ,T.bQ,rfl,_,rfl,_,_,rfl,q⟩)
inductive spFg(t:Adr)(vs:List V)(H:Hp)(Q:VK)(E_:XK):Prop
|mk:∀a,∀m:QM,∀n,vs=[.ref a.bk,.int n]→BkAt t H a m→m.Ok→Dst a→(∀H',BkAt t H' a (m.forget n)→Keep [a.wv,a.lv] H H'→Q .non H')→spFg t vs H Q E_
theorem q79(T:Txt K mg t)(S:Fns K t):S.tX.Ok0 P w mg base 1 (spFg t):=by(
refine S.tX.F.ok0 q2J λcdv A _ s H vs Q E hr h=>?_
obtain⟨a,m,n,rfl,hb,ok,ds,q⟩:=h
have hu:=q6H hr
have p1:=ok.p1
have p2:=ok.p2
have ob:a.bk≠a.wv:=jH hb.o hb.w (by intro z;cases z)
have ol:a.bk≠a.lv:=jH hb.o hb.l (by intro z;cases z)
have wl:a.wv≠a.lv:=jH hb.w hb.l (by intro z;cases z)
have wf:a.fi≠a.wv:=jH hb.f hb.w (by intro z;cases z)
have wb:a.bo≠a.wv:=jH hb.b hb.w (by intro z;cases z)
refine⟨_,(qD (j9 (qJ2 (qET hu (pv 1) (qJ (pv 0) rfl))) (qB (qS (i:=2) q2J.nd rfl (Or.inl rfl) (qEV (qJ (pv 0) rfl) (pv 1) ⟨rfl,rfl,rfl,rfl⟩)) (qD (q40 (qJ (pv 0) rfl) (qN zD (pv 2) (qJ (pv 0) rfl)) q21 qG qJ5 uH))) qR)),?_⟩
try dsimp-beta-proj-iota-zeta-eta only[wishK,cxK]
refine⟨_,rfl,_,rfl,a.bk,_,a.dx,_,_,rfl,hb.o,T.bJ,T.eI,rfl,a.wv,_,rfl,DGet.k (k:=Sum.inl n) hb.w,_,rfl,?_⟩
rcases QM.find_V (m:=m) (n:=n)with⟨p,hp,ef⟩|⟨hn,ef⟩
·have hv:(n,p)∈m.V:=hp;rw[q9E ok.nd hv];refine iteT ?_;refine⟨_,rfl,a.bk,_,a.dx,_,_,rfl,hb.o,T.bJ,T.eI,rfl,a.wv,rfl,.inl ⟨_,.inl hb.w⟩,_,rfl,_,Sum.inl n,_,hb.w,rfl,q9E ok.nd hv,?_⟩;rw[qFP];have k1:Keep [a.wv,a.lv] H (upd H a.wv (.dK (dI (jM m.V n)))):=Keep.upd hb.w (λ_ z=>by cases z) (by simp);have w1:(upd H a.wv (.dK (dI (jM m.V n)))) a.wv=some (.dK (dI (jM m.V n))):=qI;have u1:∀b o,b≠a.wv→H b=some o→(upd H a.wv (.dK (dI (jM m.V n)))) b=some o:=λb o nb e=>by rw[qC nb];exact e
 generalize upd H a.wv (.dK (dI (jM m.V n)))=H1 at k1 w1 u1 ⊢;obtain⟨c,hc,ec⟩:=ok.blk _ hp;have ec:p / (m.P:Int)=(c:Int):=ec;have hcl:c<m.lv.length:=by rw[ok.ll];exact hc
 have l1:=u1 _ _ wl.symm hb.l;refine⟨_,rfl,a.bk,_,a.dx,_,_,rfl,u1 _ _ ob hb.o,T.bJ,T.f6,rfl,_,rfl,_,rfl,a.bk,_,a.dx,_,_,rfl,u1 _ _ ob hb.o,T.bJ,T.fO,rfl,_,_,rfl,rfl,⟨by lia,by lia⟩,a.lv,_,_,_,rfl,rfl,SqL.of l1,(by rw[ec];exact atV hcl),_,_,rfl,rfl,a.lv,_,_,c,rfl,rfl,l1,(by rw[ec];exact q4X (by rw[h9];exact hcl)),?_⟩;rw[setV];have el:(m.forget n).lv=m.lv.set c (m.lv.getD c 0-1):=by show BM.lvF m.P m.V m.lv n=_;unfold BM.lvF;rw[ef];show m.lv.set (p / (m.P:Int)).toNat (m.lv.getD (p / (m.P:Int)).toNat 0-1)=_;rw[ec,show((c:Int)).toNat=c by lia]
 refine q _ ⟨?_,?_,?_,?_,?_⟩ (k1.trans (Keep.upd l1 (λ_ z=>by cases z) (by simp)))
 ·rw[qC ol];exact u1 _ _ ob hb.o
 ·rw[qC wl];exact w1
 ·rw[el];exact qI
 ·rw[qC ds.lf.symm];exact u1 _ _ wf hb.f
 rw[qC ds.lb.symm];exact u1 _ _ wb hb.b
rw[q6R (λz=>by obtain⟨r,hr',e⟩:=kY.mp z;exact hn r hr' e)]
refine iteF ?_
have el:(m.forget n).lv=m.lv:=by show BM.lvF m.P m.V m.lv n=_;unfold BM.lvF;rw[ef]
have eV:(m.forget n).V=m.V:=qHF λr hr'=>hn r hr'
exact q H ⟨hb.o,by rw[eV];exact hb.w,by rw[el];exact hb.l,hb.f,hb.b⟩ Keep.refl)
theorem q7A{V:Mp}:(dI V).length=V.length:=by unfold dI;rw[h9]
inductive spNt(t:Adr)(vs:List V)(H:Hp)(Q:VK)(E_:XK):Prop
|mk:∀a,∀m:QM,∀b f n,vs=[.ref a.bk,.int ((b*m.P+f:Nat):Int),.int n]→BkAt t H a m→m.Ok→Dst a→b<m.B→f<m.P→m.fi.getD b 0=(f:Int)→(∀H',BkAt t H' a (m.put b f n)→Keep [a.bk,a.wv,a.lv,a.fi,a.bo] H H'→Q .non H')→spNt t vs H Q E_
theorem q9Z(T:Txt K mg t)(S:Fns K t):S.aBK.Ok0 P w mg base 2 (spNt t):=by(
refine S.aBK.F.ok0 q4G λcdv A _ s H vs Q E hr h=>?_
obtain⟨a,m,b,f,n,rfl,hb,ok,ds,hB,hf,ef,q⟩:=h
have hu:=q6H hr
have p1:=ok.p1
have p2:=ok.p2
have ob:a.bk≠a.wv:=jH hb.o hb.w (by intro z;cases z)
have ol:a.bk≠a.lv:=jH hb.o hb.l (by intro z;cases z)
have of':a.bk≠a.fi:=jH hb.o hb.f (by intro z;cases z)
have oo:a.bk≠a.bo:=jH hb.o hb.b (by intro z;cases z)
have wl:a.wv≠a.lv:=jH hb.w hb.l (by intro z;cases z)
have wf:a.fi≠a.wv:=jH hb.f hb.w (by intro z;cases z)
have wb:a.bo≠a.wv:=jH hb.b hb.w (by intro z;cases z)
have eb:((b*m.P+f:Nat):Int) / (m.P:Int)=(b:Int):=by rw[←d3,yG hf]
refine⟨_,(qB (qS (i:=3) q4G.nd rfl (Or.inl rfl) (qN zD (pv 1) (qJ (pv 0) rfl))) (qB (jB (j8 (pv 0) T.bJ T.aCM (q79 T S).mono hr S.tX.b .nil qK (qA (pv 2) qE))) (qB (qGY hu (qJ (pv 0) rfl) (pv 2) (pv 1) rfl) (qB (q40 (qJ (pv 0) rfl) (pv 3) q21 qG q67 uH) (q10 (j9 (qQ yO (qV jE (qJ (pv 0) rfl) (pv 3) (λ_ _=>rfl)) qG (qO _)) (qD (q4P (qJ (pv 0) rfl) (q66 (qJ (pv 0) rfl) (pv 3) uH))) qR) (qB (q40 (qJ (pv 0) rfl) (pv 3) q21 qG q67 uH) (qD (q4T (pv 0) qG qEH)))))))),?_⟩
try dsimp-beta-proj-iota-zeta-eta only[wishK,cxK]
refine⟨_,rfl,_,rfl,a.bk,_,a.dx,_,_,rfl,hb.o,T.bJ,T.fO,rfl,_,_,rfl,rfl,⟨by lia,by lia⟩,?_⟩
try dsimp only
rw[eb]
refine⟨_,rfl,a.bk,a.dx,_,rfl,hb.o,rfl,_,rfl,a,m,n,rfl,hb,ok,ds,λH1 hb1 k1=>?_⟩
have k1:Keep [a.bk,a.wv,a.lv,a.fi,a.bo] H H1:=k1.mono (by intro x hx;simp at hx ⊢;rcases hx with rfl|rfl<;>simp)
have lnV:(jM m.V n).length≤65:=k8 (mH _ _) ok.lenV
have w0:H1 a.wv=some (.dK (dI (jM m.V n))):=hb1.w
refine⟨_,rfl,iV rfl (iF hb1.o T.bJ T.eI rfl ⟨_,rfl,a.wv,_,rfl,.inl ⟨_,Sum.inl n,w0,rfl,(by rw[q7A];exact d5 (m:=65) (by lia) (by decide)),rfl⟩,?_⟩)⟩
rw[qHG,qDX]
have k2:Keep [a.bk,a.wv,a.lv,a.fi,a.bo] H1 (upd H1 a.wv (.dK (dI (jM m.V n++[(n,((b*m.P+f:Nat):Int))])))):=Keep.upd w0 (λ_ z=>by cases z) (by simp)
have w2:(upd H1 a.wv (.dK (dI (jM m.V n++[(n,((b*m.P+f:Nat):Int))])))) a.wv=some (.dK (dI (jM m.V n++[(n,((b*m.P+f:Nat):Int))]))):=qI
have u2:∀x o,x≠a.wv→H1 x=some o→(upd H1 a.wv (.dK (dI (jM m.V n++[(n,((b*m.P+f:Nat):Int))])))) x=some o:=λx o nb e=>by rw[qC nb];exact e
generalize upd H1 a.wv (.dK (dI (jM m.V n++[(n,((b*m.P+f:Nat):Int))])))=H2 at k2 w2 u2 ⊢
have o2:=u2 _ _ ob hb1.o
have l2:H2 a.lv=some (.lst ((BM.lvF m.P m.V m.lv n).map V.int)):=u2 _ _ wl.symm hb1.l
have f2:H2 a.fi=some (.lst (m.fi.map V.int)):=u2 _ _ wf hb1.f
have b2:H2 a.bo=some (.lst (m.bo.map V.int)):=u2 _ _ wb hb1.b
have hbl:b<(BM.lvF m.P m.V m.lv n).length:=by rw[show(BM.lvF m.P m.V m.lv n).length=m.B from(ok.forget n).ll];exact hB
have hbf:b<m.fi.length:=by rw[ok.lf];exact hB
have hbo:b<m.bo.length:=by rw[ok.lo];exact hB
refine⟨_,rfl,a.bk,_,a.dx,_,_,rfl,o2,T.bJ,T.f6,rfl,_,rfl,a.lv,_,_,_,rfl,rfl,SqL.of l2,atV hbl,_,_,rfl,rfl,a.lv,_,_,b,rfl,rfl,l2,q4X (by rw[h9];exact hbl),?_⟩
rw[setV]
have k3:Keep [a.bk,a.wv,a.lv,a.fi,a.bo] H2 (upd H2 a.lv (.lst (((BM.lvF m.P m.V m.lv n).set b ((BM.lvF m.P m.V m.lv n).getD b 0+1)).map V.int))):=Keep.upd l2 (λ_ z=>by cases z) (by simp)
have l3:(upd H2 a.lv (.lst (((BM.lvF m.P m.V m.lv n).set b ((BM.lvF m.P m.V m.lv n).getD b 0+1)).map V.int))) a.lv=some (.lst (((BM.lvF m.P m.V m.lv n).set b ((BM.lvF m.P m.V m.lv n).getD b 0+1)).map V.int)):=qI
have u3:∀x o,x≠a.lv→H2 x=some o→(upd H2 a.lv (.lst (((BM.lvF m.P m.V m.lv n).set b ((BM.lvF m.P m.V m.lv n).getD b 0+1)).map V.int))) x=some o:=λx o nb e=>by rw[qC nb];exact e
generalize upd H2 a.lv (.lst (((BM.lvF m.P m.V m.lv n).set b ((BM.lvF m.P m.V m.lv n).getD b 0+1)).map V.int))=H3 at k3 l3 u3 ⊢
have o3:=u3 _ _ ol o2
have w3:=u3 _ _ wl w2
have f3:=u3 _ _ ds.lf.symm f2
have b3:=u3 _ _ ds.lb.symm b2
refine⟨λσ' H'=>σ'=[some (.ref a.bk),some (.int ((b*m.P+f:Nat):Int)),some (.int n),some (.int (b:Int))]∧Keep [a.bk,a.wv,a.lv,a.fi,a.bo] H3 H'∧H' a.bo=some (.lst ((m.put b f n).bo.map V.int))∧∀x o,x≠a.bo→H3 x=some o→H' x=some o,?_,?_⟩
·refine⟨_,rfl,a.bk,_,a.dx,_,_,rfl,o3,T.bJ,T.bR,rfl,_,rfl,a.fi,_,_,_,rfl,rfl,SqL.of f3,atV hbf,rfl,_,rfl,?_⟩;rw[zZ];by_cases z:m.fi.getD b 0=0
 ·rw[hG z];refine iteT ?_;refine⟨_,rfl,a.bk,_,a.dx,_,_,rfl,o3,T.bJ,T.bQ,rfl,_,rfl,a.bk,_,a.dx,_,_,rfl,o3,T.bJ,T.iB,rfl,_,rfl,a.bo,_,_,b,rfl,rfl,b3,q4X (by rw[h9];exact hbo),?_⟩;rw[setV];refine⟨rfl,Keep.upd b3 (λ_ z=>by cases z) (by simp),?_,λx o nb e=>by rw[qC nb];exact e⟩;rw[qI];show _=some (HO.lst ((if m.fi.getD b 0=0 then m.bo.set b m.nx else m.bo).map V.int));rw[kF z];rfl
 rw[hU z];refine iteF ⟨rfl,Keep.refl,?_,λx o _ e=>e⟩;show _=some (HO.lst ((if m.fi.getD b 0=0 then m.bo.set b m.nx else m.bo).map V.int));rw[hV z];exact b3
rintro σ' H4 ⟨rfl,k4,b4,u4⟩
have o4:=u4 _ _ oo o3
have w4:=u4 _ _ wb.symm w3
have l4:=u4 _ _ ds.lb l3
have f4:=u4 _ _ ds.fb f3
refine⟨_,rfl,a.bk,_,a.dx,_,_,rfl,o4,T.bJ,T.bR,rfl,_,rfl,a.fi,_,_,_,rfl,rfl,SqL.of f4,atV hbf,_,_,rfl,rfl,a.fi,_,_,b,rfl,rfl,f4,q4X (by rw[h9];exact hbf),?_⟩
rw[setV]
have k5:Keep [a.bk,a.wv,a.lv,a.fi,a.bo] H4 (upd H4 a.fi (.lst ((m.fi.set b (m.fi.getD b 0+1)).map V.int))):=Keep.upd f4 (λ_ z=>by cases z) (by simp)
have f5:(upd H4 a.fi (.lst ((m.fi.set b (m.fi.getD b 0+1)).map V.int))) a.fi=some (.lst ((m.fi.set b (m.fi.getD b 0+1)).map V.int)):=qI
have u5:∀x o,x≠a.fi→H4 x=some o→(upd H4 a.fi (.lst ((m.fi.set b (m.fi.getD b 0+1)).map V.int))) x=some o:=λx o nb e=>by rw[qC nb];exact e
generalize upd H4 a.fi (.lst ((m.fi.set b (m.fi.getD b 0+1)).map V.int))=H5 at k5 f5 u5 ⊢
have o5:=u5 _ _ of' o4
refine⟨_,rfl,a.bk,_,a.dx,_,_,rfl,o5,T.bJ,T.bQ,rfl,_,_,rfl,rfl,a.dx,_,o5,by show 7<1000;decide,?_⟩
refine q _ ⟨?_,?_,?_,?_,?_⟩ ((((k1.trans k2).trans k3).trans k4).trans (k5.trans (Keep.upd o5 (λ_ z=>by cases z) (by simp))))
·exact qI
·rw[qC ob.symm];exact u5 _ _ wf.symm w4
·rw[qC ol.symm];exact u5 _ _ ds.lf l4
·rw[qC of'.symm];exact f5
rw[qC oo.symm]
exact u5 _ _ ds.fb.symm b4)
noncomputable def lamE:Expr:=match((jS jT).getLast?:Option Stmt)with
|some (Stmt.Return (some (Expr.Call _ _ (k::_) _)) _)=>k.value
|_=>Expr.Name "" ⟨0,0,0,0⟩
noncomputable abbrev lamA:Arguments:=match lamE with
| .Lambda a _ _ _=>a
|_=>yE jT
noncomputable abbrev lamB:Expr:=match lamE with
| .Lambda _ b _ _=>b
|_=>lamE
noncomputable abbrev qGL:Scope:=match lamE with
| .Lambda _ _ s _=>s
|_=>qF jT
noncomputable abbrev lamP:Pos:=match lamE with
| .Lambda _ _ _ p=>p
|_=>⟨0,0,0,0⟩
noncomputable abbrev lamQ:Str:=(PyProof.Rows.envOfC "Plain.free" (qF jT) 0 0 .none).qual++"<lambda>"
noncomputable abbrev q7B(clos:List (Str×Addr))(pm ct:Value)(c:Addr):FuncData:=W.kla_fn "<lambda>" lamQ lamA lamB qGL clos pm (.ref c) ct
noncomputable def tri(c:Addr):Array Value:=#[rawInt lamP.line,rawInt lamP.col,.ref c]
noncomputable def TbF(t:Adr)(H:Hp):Prop:=∃ps,H t.bD=some (.tbl ps)∧(ps=#[]∨∃c,ps=tri c∧H c=some (cdO c lamQ))
theorem TbF.same{t:Adr}{H H':Hp}(s:Same H H')(h:TbF t H):TbF t H':=by(
obtain⟨ps,hT,h⟩:=h
refine⟨ps,s _ _ hT,?_⟩
rcases h with h|⟨c,h,a⟩
·exact .inl h
exact .inr ⟨c,h,s _ _ a⟩)
structure Sto where
s:Addr
sd:Addr
tm:Addr
td:Addr
c:Addr
a:CA
k:BkA
ru:V
pa:V
noncomputable def bf(k:BkA):List Addr:=[k.bk,k.wv,k.lv,k.fi,k.bo]
noncomputable def sf(x:Sto):List Addr:=foot x.c x.a++bf x.k
structure Fit(m:CM)(q:QM):Prop where
ok:m.Ok
oq:q.Ok
eB:m.bl=(q.B:Int)
eP:m.pg=(q.P:Int)
structure StAt(t:Adr)(H:Hp)(x:Sto)(r2 r3 r4 r5:V)(m:CM)(q:QM):Prop where
o:H x.s=some (.ins t.C_Store x.sd [("chip",.ref x.c),("terms",.ref x.tm),("book",.ref x.k.bk),("rule",x.ru),("papers",x.pa)])
te:H x.tm=some (.ins t.C_Terms x.td (teF (.int m.bl) (.int m.pg) r2 r3 r4 r5))
ch:ChipAt t.C_Chip H x.c x.a m
bk:BkAt t H x.k q
tb:TbF t H
ds:Dst x.k
d1:∀b∈x.a.li::foot x.c x.a,b∉bf x.k
d2:∀b∈[x.s,x.tm],b∉sf x
section
variable{H H':Hp}{x:Sto}{r2 r3 r4 r5:V}{m:CM}{q:QM}
theorem StAt.same(h:StAt t H x r2 r3 r4 r5 m q)(s:Same H H'):StAt t H' x r2 r3 r4 r5 m q:=⟨s _ _ h.o,s _ _ h.te,h.ch.same s,h.bk.same s,h.tb.same s,h.ds,h.d1,h.d2⟩
theorem TbF.ne(h:TbF t H){b:Addr}{o:HO}(e:H b=some o)(n:∀ps,o≠ .tbl ps):b≠t.bD:=λz=>by obtain⟨ps,hT,_⟩:=h;rw[z,hT]at e;exact n ps (kL e).symm
theorem StAt.nT(h:StAt t H x r2 r3 r4 r5 m q):∀b∈[x.s,x.tm]++(x.a.li::sf x),b∉[t.bD]:=by(
intro b hb z
have z:b=t.bD:=by simpa using z
have ne:∀{b:Addr} {o:HO},H b=some o→(∀ps,o≠ .tbl ps)→b≠t.bD:=λe n=>h.tb.ne e n
obtain⟨rs,er,_⟩:=h.ch.rc
have hb:b=x.s∨b=x.tm∨b=x.a.li∨b=x.c∨b=x.a.bo∨b=x.a.cl∨b=x.a.dc∨b=x.a.br∨b=x.a.rc∨b=x.k.bk∨b=x.k.wv∨b=x.k.lv∨b=x.k.fi∨b=x.k.bo:=by simpa[sf,bf,foot]using hb
rcases hb with y|y|y|y|y|y|y|y|y|y|y|y|y|y<;>rw[y]at z
·exact ne h.o (λ_ z=>by cases z) z
·exact ne h.te (λ_ z=>by cases z) z
·exact ne h.ch.li (λ_ z=>by cases z) z
·exact ne h.ch.ins (λ_ z=>by cases z) z
·exact ne h.ch.bo (λ_ z=>by cases z) z
·exact ne h.ch.cl (λ_ z=>by cases z) z
·exact ne h.ch.dc (λ_ z=>by cases z) z
·exact ne h.ch.br (λ_ z=>by cases z) z
·exact ne er (λ_ z=>by cases z) z
·exact ne h.bk.o (λ_ z=>by cases z) z
·exact ne h.bk.w (λ_ z=>by cases z) z
·exact ne h.bk.l (λ_ z=>by cases z) z
·exact ne h.bk.f (λ_ z=>by cases z) z
exact ne h.bk.b (λ_ z=>by cases z) z)
theorem StAt.keep(h:StAt t H x r2 r3 r4 r5 m q){F:List Addr}(k:Keep F H H')(n:∀b∈[x.s,x.tm]++(x.a.li::sf x),b∉F)(tb:TbF t H'):StAt t H' x r2 r3 r4 r5 m q:=⟨k.k _ _ (n _ (by simp)) h.o,k.k _ _ (n _ (by simp)) h.te,h.ch.keep k (λb hb=>n b (by
  rcases kJ.mp hb with rfl|hb
  ·simp
  ·simp[sf,hb])),h.bk.keep k (λb hb=>n b (by
  have hb:b∈bf x.k:=hb;simp[sf,hb])),tb,h.ds,h.d1,h.d2⟩
theorem StAt.kT(h:StAt t H x r2 r3 r4 r5 m q)(k:Keep [t.bD] H H')(tb:TbF t H'):StAt t H' x r2 r3 r4 r5 m q:=h.keep k h.nT tb
end
inductive spGd(t:Adr)(vs:List V)(H:Hp)(Q:VK)(E_:XK):Prop
|mk:∀x r2 r3 r4 r5 m q,vs=[.ref x.s]→StAt t H x r2 r3 r4 r5 m q→Fit m q→NewO H (.lst ((uJ q.B m.br).map vn)) Q→spGd t vs H Q E_
theorem q0F(T:Txt K mg t)(S:Fns K t):S.iH.Ok0 P w mg base 5 (spGd t):=by(
refine S.iH.F.ok0 q7S λcdv A _ s H vs Q E hr h=>?_
obtain⟨x,r2,r3,r4,r5,m,q,rfl,hs,ft,k⟩:=h
have b2:=ft.oq.b2
have eB:=ft.eB
refine⟨_,(qD (qL (vE ["self","block"] [0] rfl (q4Q rfl T.aA2 (qA (qJ (qJ (pv 0) rfl) rfl) qE)) (λ_ _ _ _ _=>(jA (i:=1) (show List.Nodup (["self","block"]:List Str)from by decide) rfl (Or.inl rfl))) (λ_ _ _ _ _=>(zE (jU (jG (j8 (vF (K:=K) rfl (pv 0) rfl) T.bG T.aCJ (q78 T S).mono hr S.tH.b .nil qK (qA (pv 1) qE)))))) (λ_ _ _ _ _=>(pv 1)) (by kernel_rfl) (yJ (by decide))))),?_⟩
try dsimp-beta-proj-iota-zeta-eta only[wishK,cxK]
refine⟨_,rfl,x.s,_,x.sd,_,_,rfl,hs.o,T.bE,T.bH,rfl,x.tm,_,x.td,_,_,rfl,hs.te,T.bM,T.eW,rfl,m.bl,rfl,by lia,by lia,λD H2 nD s2 hD=>?_⟩
refine q8L (D:=D) (λi H3=>Same H H3∧H3 D=some (.lst (((List.range i).filter λb=>!(m.br.getD b false)).map vn))) ⟨s2,hD⟩ (λi H3 hi hp=>?_) (λH3 hp=>?_)
·obtain⟨sm,hd⟩:=hp;have hi:i<q.B:=by lia
 have h3:=hs.same sm;refine⟨_,rfl,x.s,_,x.sd,_,_,rfl,h3.o,T.bE,T.b8,rfl,x.c,x.a.dx,_,rfl,h3.ch.ins,rfl,_,rfl,x.c,x.a,m,_,rfl,h3.ch,ft.ok,by lia,by lia,?_⟩;rw[show(0+(i:Int)).toNat=i by lia,xJ];refine⟨_,rfl,?_⟩;rw[sS,gL,mR];cases z:m.br.getD i false with
 |true=>refine iteF ⟨sm,?_⟩;rw[hd,mV,z];simp
 |false=>
  refine iteT ?_;refine⟨_,rfl,_,hd,?_,λb o e=>?_,?_⟩
  ·rw[h9];have:((List.range i).filter λb=>!(m.br.getD b false)).length≤i:=k8 (mH _ _) (by rw[mQ];exact kN _);have:(16:Nat)<sizeLine:=by decide
   lia
  ·rw[qC (qH e nD)];exact sm _ _ e
  rw[qI,mV,z];rfl
obtain⟨sm,hd⟩:=hp
rw[show m.bl.toNat=q.B by lia]at hd
exact k D H3 nD sm hd)
inductive spLm(t:Adr)(x:Sto)(g c:Addr)(fd:FuncData)(vs:List V)(H:Hp)(Q:VK)(E_:XK):Prop
|mk:∀r2 r3 r4 r5,∀m:CM,∀q:QM,∀b:Nat,vs=[.int (b:Int)]→StAt t H x r2 r3 r4 r5 m q→Fit m q→b<q.B→H g=some (fnO g fd)→H c=some (cdO c lamQ)→(∀tp H',H tp=none→Same H H'→H' tp=some (.tup [.int (m.cl.getD b 0),.int (b:Int)])→Q (.ref tp) H')→spLm t x g c fd vs H Q E_
theorem qKV(T:Txt K mg t)(S:Fns K t){g c ca:Addr}{pm ct:Value}{x:Sto}(hc:base.IsCell ca (some (.ref x.s))):
 FnOk P w K mg base CX0 5 g (q7B [("self",ca)] pm ct c) ["block"] (spLm t x g c (q7B [("self",ca)] pm ct c)):=by(
refine qD1 (k:=4) (x0:="block") (fvs:=[.ref x.s]) (q8M (u:=.ref x.s) rfl rfl rfl (by decide+kernel) (by decide+kernel) (by decide+kernel) rfl hc) (λvs H Q E h=>?_) (λvs H Q E h=>?_) (λA outer s H v0 Q E hr h=>?_)
·repeat obtain⟨_,h⟩:=h
 all_goals subst_vars;rfl
·obtain⟨r2,r3,r4,r5,m,q,b,rfl,_,_,_,a,d,_⟩:=h;exact⟨a,d⟩
obtain⟨r2,r3,r4,r5,m,q,b,e,hs,ft,hb,_,_,k⟩:=h
obtain rfl:v0=.int (b:Int):=by simpa using e
have eB:=ft.eB
refine⟨_,uK (qA (j8 (qJ (pv 1) rfl) T.bG T.oY (q1R T S).mono hr S.fX.b .nil qK (qA (pv 0) qE)) (qA (pv 0) qE)),?_⟩
refine⟨_,rfl,x.s,_,x.sd,_,_,rfl,hs.o,T.bE,T.b8,rfl,x.c,x.a.dx,_,rfl,hs.ch.ins,rfl,_,rfl,x.c,x.a,m,_,rfl,hs.ch,ft.ok,by lia,by lia,?_⟩
rw[mO]
exact⟨_,rfl,sz2,k⟩)
theorem qE4{clos:List (Str×Addr)}{c:Addr}{pm ct:Value}:jQ K (q7B clos pm ct c) ["block"] []:=jQ.all λus hl=>match us,hl with| [_],_=>rfl
theorem qI5{t:Adr}{H:Hp}(h:TbF t H):∃ps,H t.bD=some (.tbl ps)∧TriplesOk ps.toList∧((codeAmong lamP ps.toList=none∧∀c H',H' t.bD=some (.tbl (ps++tri c))→H' c=some (cdO c lamQ)→TbF t H')∨∃c,codeAmong lamP ps.toList=some (.ref c)∧H c=some (cdO c lamQ)):=by(
obtain⟨ps,hT,h⟩:=h
rcases h with rfl|⟨c,rfl,a⟩
·exact⟨_,hT,trivial,.inl ⟨rfl,λc H' e1 e2=>⟨_,e1,.inr ⟨c,rfl,e2⟩⟩⟩⟩
exact⟨_,hT,trivial,.inr ⟨c,rfl,a⟩⟩)
theorem q8V(T:Txt K mg t)(S:Fns K t){cells:List (Str×Addr)}{σ:St}{H4:Hp}{D f c':Addr}{x:Sto}{r2 r3 r4 r5:V}{m:CM}{q:QM}{clos:List (Str×Addr)}{pm ct:Value}{Q:VK}(hσ:σ[0]?=some (some (.ref x.s)))(hcl:∀ca,cells.lookup ("self":Str)=some ca→clos=[(("self":Str),ca)])
 (hs:StAt t H4 x r2 r3 r4 r5 m q) (ft:Fit m q) (hD:H4 D=some (.lst ((u7 q.B m.br q.fi).map vn))) (hf:H4 f=some (fnO f (q7B clos pm ct c'))) (hc:H4 c'=some (cdO c' lamQ)) (k:∀l p H',FreeIs q.B m.br m.cl q.fi l→H4 p=none→Same H4 H'→H' p=some (.lst (l.map vn))→Q (.ref p) H'):
 ∃(f':Addr) (fd:FuncData) (sp:Heap→Sp),V.ref f=.ref f'∧(∀base',(∀b o,base.get? b=some o→base'.get? b=some o)→q6T cells σ base' [(0,"self")]→FnOk P w K mg base' CX0 5 f' fd ["block"] (sp base'))∧jQ K fd ["block"] []∧∃(l:Addr) (us:List V) (Pv:Nat→List V→Hp→Prop),[V.ref D]=[.ref l]∧SqL K H4 l us∧us.length<64∧Pv 0 [] H4∧(∀base' i x zs H',q6T cells σ base' [(0,"self")]→us[i]?=some x→Pv i zs H'→sp base' [x] H' (λz H''=>Pv (i+1) (zs++[z]) H'') E0)∧∀zs H',zs.length=us.length→Pv us.length zs H'→∃kk m,Paired (TupI K H') zs kk∧(∀k∈kk,k.length=m)∧0<m∧∀q:List Nat,q.Perm (List.range us.length)→(q.map λi=>kk.getD i []).Pairwise (λa b=>lx b a=false)→NewO H' (.lst (q.map λi=>us.getD i .non)) Q:=by(
have b2:=ft.oq.b2
have ln:=qE0 (B:=q.B) (br:=m.br) (fi:=q.fi)
refine⟨f,q7B clos pm ct c',λ_=>spLm t x f c' (q7B clos pm ct c'),rfl,λbase' _ cv=>?_,qE4,D,_,λi zs H'=>Same H4 H'∧Paired (TupD H') zs (((u7 q.B m.br q.fi).take i).map (keyN m.cl)),rfl,SqL.of hD,by rw[h9];lia,⟨Same.refl H4,.nil⟩,λbase' i y zs H' _ hy hp=>?_,λzs H' lz hp=>?_⟩
·obtain⟨ca,u,hk,ru,hcell⟩:=cv (0,"self") (hX.mpr rfl) (.ref x.s) hσ;obtain rfl:u=Value.ref x.s:=ru;rw[hcl ca hk];exact qKV T S hcell
·obtain⟨sm,pr⟩:=hp;rw[mC]at hy;obtain⟨b,hb,rfl⟩:=m9.mp hy;have mb:=q8N.mp (gJ hb);refine⟨r2,r3,r4,r5,m,q,b,rfl,hs.same sm,ft,mb.1.1,sm _ _ hf,sm _ _ hc,λtp H5 ntp s5 e5=>⟨sm.trans s5,?_⟩⟩;rw[qE1 (f:=keyN m.cl) hb];exact L2.Paired.snoc (uL pr s5) ⟨tp,rfl,e5⟩
obtain⟨sm,pr⟩:=hp
rw[h9,mZ]at pr
refine⟨_,2,q9F pr,λk hk=>?_,by decide,λq' p1 p2 p H5 np s5 e5=>?_⟩
·obtain⟨b,_,rfl⟩:=kY.mp hk;rfl
rw[h9]at p1
have hin:∀i∈q',i<(u7 q.B m.br q.fi).length:=λi hi=>mE.mp (p1.mem_iff.mp hi)
rw[q6V (e:=0) hin]at e5
exact k _ p H5 (qHL p1 p2) (Same.free sm np) (sm.trans s5) e5)
inductive spFr(t:Adr)(vs:List V)(H:Hp)(Q:VK)(E_:XK):Prop
|mk:∀x r2 r3 r4 r5 m q,vs=[.ref x.s]→StAt t H x r2 r3 r4 r5 m q→Fit m q→(∀l p H',FreeIs q.B m.br m.cl q.fi l→H p=none→Keep [t.bD] H H'→TbF t H'→H' p=some (.lst (l.map vn))→Q (.ref p) H')→spFr t vs H Q E_
theorem q0G(T:Txt K mg t)(S:Fns K t)(B:BmIn base mg):FnOk P w K mg base (CX0) 8 t.f_Plain_free S.iR ["self"] (spFr t):=by(
refine S.aCX.ok0 q3D λA _ s H vs Q E hr h=>?_
obtain⟨x,r2,r3,r4,r5,m,q,rfl,hs,ft,k⟩:=h
have b2:=ft.oq.b2
have eB:=ft.eB
refine⟨_,(qB (q47 (i:=1) ["self","block"] [0] rfl (yC (qW (pv 0) T.bE T.oO (q0F T S).mono hr S.iH.b .nil qK)) (λ_ _ _ _ _=>(jA (i:=1) (show List.Nodup (["self","block"]:List Str)from by decide) rfl (Or.inl rfl))) (λ_ _ _ _ _=>(zE (qQ yO (qV (qAS (K:=K) rfl) (vF (K:=K) rfl (vF (K:=K) rfl (pv 0) rfl) rfl) (pv 1) (λ_ _=>rfl)) qG (qO _)))) (λ_ _ _ _ _=>(pv 1)) (by kernel_rfl) (yJ (by decide)) q3D.nd rfl (Or.inl rfl)) (qD (qL (qC0 (k:=5) (x:="block") [(0,"self")] (by intro p hp;simp only[kJ,g9,cS]at hp;rcases hp with rfl<;>exact⟨rfl,by kernel_rfl,rfl⟩) hr (by rfl) T.oQ (qHH rfl T.aCO B (qD2 (by kernel_rfl)) rfl) (qA (pv 1) qE))))),?_⟩
try dsimp-beta-proj-iota-zeta-eta only[wishK,cxK]
refine⟨_,rfl,x.s,x.sd,_,rfl,hs.o,rfl,x,r2,r3,r4,r5,m,q,rfl,hs,ft,λp H1 n1 s1 h1=>?_⟩
refine⟨p,rfl,⟨_,SqL.of h1⟩,λD H2 nD s2 hD=>?_⟩
refine vM (K:=K) (xs:=(uJ q.B m.br).map vn) (D:=D) (λi H3=>Same H1 H3∧H3 D=some (.lst ((((uJ q.B m.br).take i).filter λb=>decide (q.fi.getD b 0=0)).map vn))) ⟨s2,hD⟩ (λi H3 hp=>SqL.of (hp.1 _ _ h1)) (λi y H3 hy hp=>?_) (λH3 hp=>?_)
·obtain⟨sm,hd⟩:=hp;have h3:=(hs.same s1).same sm;rw[mC]at hy;obtain⟨b,hb,rfl⟩:=m9.mp hy;have hi:=(kD.mp hb).1;have mb:=q0K.mp (gJ hb);refine⟨_,rfl,x.s,_,x.sd,_,_,rfl,h3.o,T.bE,T.bI,rfl,x.k.bk,_,x.k.dx,_,_,rfl,h3.bk.o,T.bJ,T.bR,rfl,_,rfl,x.k.fi,_,_,_,rfl,rfl,SqL.of h3.bk.f,atV (by rw[ft.oq.lf];exact mb.1),rfl,_,rfl,?_⟩;rw[zZ,←mD hi,gL,mR];obtain rfl:(uJ q.B m.br)[i]=b:=(kD.mp hb).2;by_cases z:q.fi.getD (uJ q.B m.br)[i] 0=0
 ·rw[hG z];refine iteT ?_;refine⟨_,rfl,_,hd,?_,λb o e=>?_,?_⟩
  ·rw[h9];have l1:(((uJ q.B m.br).take i).filter λb=>decide (q.fi.getD b 0=0)).length≤q.B:=k8 (mH _ _) (k8 (by rw[gH];lia) (q23 (B:=q.B) (br:=m.br)));have:(16:Nat)<sizeLine:=by decide
   lia
  ·rw[qC (qH e nD)];exact sm _ _ e
  rw[qI,mV,hG z];rfl
 rw[hU z];refine iteF ⟨sm,?_⟩;rw[hd,mV,hU z];simp
obtain⟨sm,hd⟩:=hp
rw[h9,mZ]at hd
have hd:H3 D=some (.lst ((u7 q.B m.br q.fi).map vn)):=hd
have h3:=(hs.same s1).same sm
refine⟨_,rfl,?_⟩
obtain⟨ps,hT,ht,hc⟩:=qI5 h3.tb
have nT:D≠t.bD:=h3.tb.ne hd (λ_ z=>by cases z)
have keep:∀(f c':Addr) (ctv pm:Value) (clos:List (Str×Addr)) (H4:Hp),H4 f=some (fnO f (q7B clos pm ctv c'))→H4 c'=some (cdO c' lamQ)→TbF t H4→(∀b o,b≠t.bD→H3 b=some o→H4 b=some o)→Keep [t.bD] H3 H4:=λf c' ctv pm clos H4 _ _ tb4 kp=>⟨λb o nb e=>kp b o (λz=>nb (by rw[z];simp)) e,λb xs e=>kp b _ (h3.tb.ne e (λ_ z=>by cases z)) e⟩
refine⟨ps,hT,ht,?_⟩
rcases hc with⟨hn,tb⟩|⟨c0,hn,hc0⟩
·refine .inl ⟨hn,λf c' ctv H4 nf hf hc' hT4 kp=>?_⟩;have tb4:=tb c' H4 hT4 hc';have k4:=keep f c' ctv _ _ H4 hf hc' tb4 kp;refine q8V T S rfl (λca hk=>q6U (names:=qGL.names) hk rfl) (h3.kT k4 tb4) ft (kp _ _ nT hd) hf hc' (λl p' H5 hl np s5 e5=>k l p' H5 hl ?_ ?_ (tb4.same s5) e5)
 ·refine Same.free s1 (Same.free sm (k4.none (λz=>?_) np));obtain⟨ps',hT',_⟩:=tb4;rw[hX.mp z,hT']at np;cases np
 exact((Keep.same s1).trans (Keep.same sm)).trans (k4.trans (Keep.same s5))
refine .inr ⟨c0,hn,λf ctv H4 nf hf s4=>?_⟩
refine q8V T S rfl (λca hk=>q6U (names:=qGL.names) hk rfl) (h3.same s4) ft (s4 _ _ hd) hf (s4 _ _ hc0) (λl p' H5 hl np s5 e5=>k l p' H5 hl ?_ ?_ ((h3.tb.same s4).same s5) e5)
·exact Same.free s1 (Same.free sm (Same.free s4 np))
exact Keep.same (((s1.trans sm).trans s4).trans s5))
inductive spPt(t:Adr)(vs:List V)(H:Hp)(Q:VK)(E_:XK):Prop
|mk:∀x r2 r3 r4 r5 m q,vs=[.ref x.s]→StAt t H x r2 r3 r4 r5 m q→Fit m q→(∀H',Same H H'→Q (oV (jP q.B q.P m.br q.fi)) H')→spPt t vs H Q E_
theorem qE5{α:Type}{p:α→Bool}{L:List α}{i:Nat}{x:α}(h:L[i]?=some x)(n:(L.take i).find? p=none):(p x=true→L.find? p=some x)∧(p x=false→(L.take (i+1)).find? p=none):=by(
have hi:=(kD.mp h).1
obtain rfl:L[i]=x:=(kD.mp h).2
constructor
·intro hp;have e:L=L.take i++L[i]::L.drop (i+1):=by rw[List.getElem_cons_drop,nB]
 conv=>lhs;arg 2;rw[e]
 rw[xK,n,dD,hp];rfl
intro hp
rw[←mD hi,xK,n,dD,hp]
rfl)
theorem q0H(T:Txt K mg t)(S:Fns K t):S.iP.Ok0 P w mg base 6 (spPt t):=by(
refine S.iP.F.ok0 q3E λcdv A _ s H vs Q E hr h=>?_
obtain⟨x,r2,r3,r4,r5,m,q,rfl,hs,ft,k⟩:=h
refine⟨_,(qB (zY dF rfl (yC (qW (pv 0) T.bE T.oO (q0F T S).mono hr S.iH.b .nil qK)) (jA (i:=1) q3E.nd rfl (Or.inl rfl)) (qD (j9 (qEE q1L q1L qG (qV jE (qJ (qJ (pv 0) rfl) rfl) (pv 1) (λ_ _=>rfl)) (qJ (qJ (pv 0) rfl) rfl)) (qD (qL (pv 1))) qR))) (qD (qL yW))),?_⟩
try dsimp-beta-proj-iota-zeta-eta only[wishK,cxK]
refine⟨_,rfl,x.s,x.sd,_,rfl,hs.o,rfl,x,r2,r3,r4,r5,m,q,rfl,hs,ft,λp H1 n1 s1 h1=>?_⟩
refine⟨p,rfl,⟨_,SqL.of h1⟩,?_⟩
refine q0J (K:=K) (xs:=(uJ q.B m.br).map vn) (λi σ' H2=>∃y,σ'=[some (.ref x.s),y]∧Same H1 H2∧((uJ q.B m.br).take i).find? (jY q.P q.fi)=none) ⟨_,rfl,Same.refl H1,rfl⟩ (λi σ' H2 hi hp=>?_) (λi y σ' H2 hy hp=>?_) (λσ' H2 hp=>?_)
·obtain⟨y,rfl,sm,_⟩:=hp;exact SqL.of (sm _ _ h1)
·obtain⟨y',rfl,sm,hn⟩:=hp;have h3:=(hs.same s1).same sm;rw[mC]at hy;obtain⟨b,hb,rfl⟩:=m9.mp hy;have mb:=q0K.mp (gJ hb);obtain⟨y1,y2⟩:=qE5 hb hn;refine⟨_,rfl,x.s,_,x.sd,_,_,rfl,h3.o,T.bE,T.bI,rfl,x.k.bk,_,x.k.dx,_,_,rfl,h3.bk.o,T.bJ,T.bR,rfl,_,rfl,x.k.fi,_,_,_,rfl,rfl,SqL.of h3.bk.f,atV (by rw[ft.oq.lf];exact mb.1),?_⟩;refine⟨_,_,rfl,rfl,_,rfl,?_⟩;by_cases z1:0<q.fi.getD b 0
 ·rw[hG z1];refine iteT ?_;refine⟨_,rfl,x.s,_,x.sd,_,_,rfl,h3.o,T.bE,T.bH,rfl,x.tm,_,x.td,_,_,rfl,h3.te,T.bM,T.bK,rfl,_,_,rfl,rfl,_,rfl,?_⟩;by_cases z2:q.fi.getD b 0<m.pg
  ·rw[hG z2];have z:=k H2 (s1.trans sm);unfold jP at z;rw[y1 (by unfold jY;rw[hG z1,hG (by rw[←ft.eP];exact z2)];rfl)]at z;exact iteT ⟨_,rfl,z⟩
  rw[hU z2];exact iteF ⟨_,rfl,sm,y2 (by unfold jY;rw[hG z1,hU (by rw[←ft.eP];exact z2)];rfl)⟩
 rw[hU z1];exact iteF ⟨_,rfl,iteF ⟨_,rfl,sm,y2 (by unfold jY;rw[hU z1];rfl)⟩⟩
obtain⟨y',rfl,sm,hn⟩:=hp
rw[h9,mZ]at hn
have z:=k H2 (s1.trans sm)
unfold jP at z
rw[hn]at z
exact z)
inductive spSp(t:Adr)(vs:List V)(H:Hp)(Q:VK)(E_:XK):Prop
|mk:∀x r2 r3 r4 r5 m q,vs=[.ref x.s]→StAt t H x r2 r3 r4 r5 m q→Fit m q→(∀l H',FreeIs q.B m.br m.cl q.fi l→Keep [t.bD] H H'→TbF t H'→Q (pgV q.P q.fi (q1N q.B q.P m.br q.fi l)) H')→spSp t vs H Q E_
theorem q80(T:Txt K mg t)(S:Fns K t)(B:BmIn base mg):S.aAK.Ok0 P w mg base 9 (spSp t):=by(
refine S.aAK.F.ok0 q0E λcdv A _ s H vs Q E hr h=>?_
obtain⟨x,r2,r3,r4,r5,m,q,rfl,hs,ft,k⟩:=h
refine⟨_,(qB (qS (i:=1) q0E.nd rfl (Or.inl rfl) (qW (pv 0) T.bE T.oH (q0H T S).mono hr S.iP.b .nil qK)) (qB (j9 (qQ q5X (pv 1) yW (qO _)) (qD (qL (qN jV (qN yP (pv 1) (qJ (qJ (pv 0) rfl) rfl)) (qV jE (qJ (qJ (pv 0) rfl) rfl) (pv 1) (λ_ _=>rfl))))) qR) (qB (qS (i:=2) q0E.nd rfl (Or.inl rfl) (qW (pv 0) T.bE T.oE (q0G T S B).mono hr S.oM .nil qK)) (qB (j9 (qQ (q97 hr.units) (pv 2) (yA qE) (qO _)) (qD (qL yW)) qR) (qD (qL (qN yP (qV jE (pv 2) qG (λ_ _=>rfl)) (qJ (qJ (pv 0) rfl) rfl)))))))),?_⟩
try dsimp-beta-proj-iota-zeta-eta only[wishK,cxK]
refine⟨_,rfl,x.s,x.sd,_,rfl,hs.o,rfl,x,r2,r3,r4,r5,m,q,rfl,hs,ft,λH1 s1=>?_⟩
have h1:=hs.same s1
have b2:=ft.oq.b2
have p2:=ft.oq.p2
have eP:=ft.eP
cases hpn:jP q.B q.P m.br q.fi with
|some b=>
 have hb:=q14 hpn;refine⟨_,rfl,rfl,_,rfl,iteT ?_⟩;refine⟨_,rfl,_,rfl,x.s,_,x.sd,_,_,rfl,h1.o,T.bE,T.bH,rfl,x.tm,_,x.td,_,_,rfl,h1.te,T.bM,T.bK,rfl,_,_,rfl,rfl,.inl ⟨by lia,by lia⟩,?_⟩;refine⟨_,rfl,x.s,_,x.sd,_,_,rfl,h1.o,T.bE,T.bI,rfl,x.k.bk,_,x.k.dx,_,_,rfl,h1.bk.o,T.bJ,T.bR,rfl,_,rfl,x.k.fi,_,_,_,rfl,rfl,SqL.of h1.bk.f,atV (by rw[ft.oq.lf];exact hb.1),_,_,rfl,rfl,?_⟩;obtain⟨l,hl⟩:=FreeIs.ex q.B m.br m.cl q.fi;have kk:=k l H1 hl (Keep.same s1) h1.tb;unfold q1N at kk;rw[hpn]at kk;have e:pgV q.P q.fi (some b)=V.int ((b:Int)*m.pg+q.fi.getD b 0):=by rw[eP];rfl
 have kk:Q (pgV q.P q.fi (some b)) H1:=kk;rw[e]at kk;exact kk
|none=>
 refine⟨_,rfl,rfl,_,rfl,iteF ?_⟩;refine⟨_,rfl,x.s,x.sd,_,rfl,h1.o,rfl,x,r2,r3,r4,r5,m,q,rfl,h1,ft,λl p H2 hl np k2 tb2 h2=>?_⟩;have h2':=h1.kT k2 tb2;refine⟨_,rfl,sz0,λe H3 n3 s3 h3=>⟨p,_,e,rfl,rfl,SqL.of (s3 _ _ h2),SqL.of h3,_,rfl,?_⟩⟩;have h3':=h2'.same s3;have kk:=k l H3 hl (((Keep.same s1).trans k2).trans (Keep.same s3)) (tb2.same s3);unfold q1N at kk;rw[hpn]at kk;cases l with
 |nil=>refine iteT ?_;exact kk
 |cons b r=>
  refine iteF ?_;have hb:=hl.mem (kQ (a:=b) (l:=r));refine⟨_,rfl,p,_,0,.int (b:Int),rfl,rfl,SqL.of (s3 _ _ h2),yD (j:=0) rfl,_,rfl,x.s,_,x.sd,_,_,rfl,h3'.o,T.bE,T.bH,rfl,x.tm,_,x.td,_,_,rfl,h3'.te,T.bM,T.bK,rfl,_,_,rfl,rfl,.inl ⟨by lia,by lia⟩,?_⟩;have e:pgV q.P q.fi ((b::r).head?)=V.int ((b:Int)*m.pg):=by show V.int ((b:Int)*(q.P:Int)+q.fi.getD b 0)=_;rw[hb.2.2,eP,Int.add_zero]
  have kk:Q (pgV q.P q.fi ((b::r).head?)) H3:=kk;rw[e]at kk;exact kk)
noncomputable def qDB(t:Adr):Sp:=λvs H Q E=>∃x r2 r3 r4 r5 m q n v,vs=[.ref x.s,.int n,.int v]∧StAt t H x r2 r3 r4 r5 m q∧Fit m q∧Gd m∧m.rc.length<1000000∧∀l,FreeIs q.B m.br m.cl q.fi l→∃b f:Nat,q1N q.B q.P m.br q.fi l=some b∧q.fi.getD b 0=(f:Int)∧m.bo.getD (b*q.P+f) .non=.non∧(m.lf=some 0→∀H',Keep (t.bD::sf x) H H'→StAt t H' x r2 r3 r4 r5 m q→E (.ref t.C_PowerGone) none H')∧(m.lf≠some 0→∀tp H',H' tp=some (.tup [.int (q.nx*128+n),.int v])→Keep (t.bD::sf x) H H'→StAt t H' x r2 r3 r4 r5 (putC m (b*q.P+f) (.ref tp)) (q.put b f n)→Q (.int ((b*q.P+f:Nat):Int)) H')
theorem StAt.put{H H':Hp}{x:Sto}{r2 r3 r4 r5:V}{m m':CM}{q:QM}(h:StAt t H x r2 r3 r4 r5 m q)(hc:ChipAt t.C_Chip H' x.c x.a m')(k:Keep (foot x.c x.a) H H')(e1:m'.bl=m.bl)(e2:m'.pg=m.pg):StAt t H' x r2 r3 r4 r5 m' q:=by(
have nf:∀b∈bf x.k,b∉foot x.c x.a:=λb hb z=>h.d1 b (kB _ z) hb
have n2:∀b∈[x.s,x.tm],b∉foot x.c x.a:=λb hb z=>h.d2 b hb (by unfold sf;exact gI _ z)
obtain⟨ps,hT,hc'⟩:=h.tb
have nT:t.bD∉foot x.c x.a:=λz=>h.nT t.bD (by simp[sf,z]) (by simp)
refine⟨k.k _ _ (n2 _ (by simp)) h.o,by rw[e1,e2];exact k.k _ _ (n2 _ (by simp)) h.te,hc,h.bk.keep k nf,⟨ps,k.k _ _ nT hT,?_⟩,h.ds,h.d1,h.d2⟩
rcases hc' with z|⟨c,z,hcd⟩
·exact .inl z
refine .inr ⟨c,z,k.k _ _ (λy=>?_) hcd⟩
have y:c=x.c∨c=x.a.bo∨c=x.a.cl∨c=x.a.dc∨c=x.a.br∨c=x.a.rc:=by simpa[foot]using y
obtain⟨rs,er,_⟩:=h.ch.rc
rcases y with y|y|y|y|y|y<;>rw[y]at hcd
·rw[h.ch.ins]at hcd;cases hcd
·rw[h.ch.bo]at hcd;cases hcd
·rw[h.ch.cl]at hcd;cases hcd
·rw[h.ch.dc]at hcd;cases hcd
·rw[h.ch.br]at hcd;cases hcd
rw[er]at hcd;cases hcd)
theorem StAt.note{H H':Hp}{x:Sto}{r2 r3 r4 r5:V}{m:CM}{q q':QM}(h:StAt t H x r2 r3 r4 r5 m q)(hb:BkAt t H' x.k q')(k:Keep (bf x.k) H H'):StAt t H' x r2 r3 r4 r5 m q':=by(
have n2:∀b∈[x.s,x.tm],b∉bf x.k:=λb hb z=>h.d2 b hb (by unfold sf;exact kZ _ z)
obtain⟨ps,hT,hc'⟩:=h.tb
have nT:t.bD∉bf x.k:=λz=>h.nT t.bD (by simp[sf,z]) (by simp)
refine⟨k.k _ _ (n2 _ (by simp)) h.o,k.k _ _ (n2 _ (by simp)) h.te,h.ch.keep k h.d1,hb,⟨ps,k.k _ _ nT hT,?_⟩,h.ds,h.d1,h.d2⟩
rcases hc' with z|⟨c,z,hcd⟩
·exact .inl z
refine .inr ⟨c,z,k.k _ _ (λy=>?_) hcd⟩
have y:c=x.k.bk∨c=x.k.wv∨c=x.k.lv∨c=x.k.fi∨c=x.k.bo:=by simpa[bf]using y
rcases y with y|y|y|y|y<;>rw[y]at hcd
·rw[h.bk.o]at hcd;cases hcd
·rw[h.bk.w]at hcd;cases hcd
·rw[h.bk.l]at hcd;cases hcd
·rw[h.bk.f]at hcd;cases hcd
rw[h.bk.b]at hcd;cases hcd)
theorem q4K(T:Txt K mg t)(S:Fns K t)(B:BmIn base mg):S.iC.OkE P w mg base 10 (qDB t):=by(
refine S.iC.F.okE zW (λvs H Q E h=>?_) (λcdv A outer s H vs Q E hr h=>?_)
·repeat obtain⟨_,h⟩:=h
 all_goals subst_vars;rfl
obtain⟨x,r2,r3,r4,r5,m,q,n,v,rfl,hs,ft,gd,hrc,k⟩:=h
refine⟨_,(qB (qS (i:=3) zW.nd rfl (Or.inl rfl) (qW (pv 0) T.bE T.aCS (q80 T S B).mono hr S.aAK.b .nil qK)) (qB (j9 (qQ q69 (pv 3) yW (qO _)) (qD jC) qR) (qB (jB (yI jL (qJ (pv 0) rfl) T.bG T.aD0 (qBC T S).mono hr S.aCD.b .nil (qA (pv 3) (qA (uK (qA (j8 (qJ (pv 0) rfl) T.bJ T.aDO (q9Y T S).mono hr S.aBN.b .nil qK (qA (pv 1) qE)) (qA (pv 2) qE))) qE q6I)))) (qB (jB (j8 (qJ (pv 0) rfl) T.bJ T.aDI (q9Z T S).mono hr S.aBK.b .nil qK (qA (pv 3) (qA (pv 1) qE)))) (qD (qL (pv 3))))))),?_⟩
try dsimp-beta-proj-iota-zeta-eta only[wishK,cxK]
refine⟨_,rfl,x.s,x.sd,_,rfl,hs.o,rfl,x,r2,r3,r4,r5,m,q,rfl,hs,ft,λl H1 hl k1 tb1=>?_⟩
have hs1:=hs.kT k1 tb1
obtain⟨b,f,hsp,ef,hn,dk,kk⟩:=k l hl
rw[hsp]
obtain⟨hB,hbr,f0,f1⟩:=qAZ hl ft.oq.p1 hsp
have hf:f<q.P:=by lia
have epg:pgV q.P q.fi (some b)=V.int ((b*q.P+f:Nat):Int):=by show V.int ((b:Int)*(q.P:Int)+q.fi.getD b 0)=_;rw[ef,aG,dE]
rw[epg]
refine⟨_,rfl,rfl,_,rfl,iteF ?_⟩
refine⟨_,rfl,x.s,_,x.sd,_,_,rfl,hs1.o,T.bE,T.b8,rfl,x.c,x.a.dx,_,rfl,hs1.ch.ins,rfl,_,rfl,?_⟩
refine⟨_,rfl,x.s,_,x.sd,_,_,rfl,hs1.o,T.bE,T.bI,rfl,x.k.bk,x.k.dx,_,rfl,hs1.bk.o,rfl,_,rfl,x.k,q,n,rfl,hs1.bk,_,rfl,sz2,λtp H2 n2 s2 e2=>?_⟩
have hs2:=hs1.same s2
have hpg:((b*q.P+f:Nat):Int)≤m.bl*m.pg-1:=by rw[ft.eB,ft.eP,←dE];have:b*q.P+f<q.B*q.P:=(nE (by lia)).mp (by rw[yG hf];exact hB);lia
refine⟨x.c,x.a,m,_,.ref tp,rfl,hs2.ch,ft.ok,hrc,gd,hpg,hn,λz=>dk z H2 ((k1.mono (by simp)).trans (Keep.same s2)) hs2,λz H3 hc3 k3=>?_⟩
have hs3:=hs2.put hc3 k3 rfl rfl
refine⟨_,rfl,x.s,_,x.sd,_,_,rfl,hs3.o,T.bE,T.bI,rfl,x.k.bk,x.k.dx,_,rfl,hs3.bk.o,rfl,_,rfl,_,rfl,x.k,q,b,f,n,rfl,hs3.bk,ft.oq,hs3.ds,hB,hf,ef,λH4 hb4 k4=>⟨_,rfl,?_⟩⟩
exact kk z tp H4 (k4.tp _ _ (k3.tp _ _ e2)) ((((k1.mono (by simp)).trans (Keep.same s2)).trans (k3.mono (λb hb=>by unfold sf;exact kB _ (gI _ hb)))).trans (k4.mono (λb hb=>by unfold sf;exact kB _ (kZ _ hb)))) (hs3.note hb4 k4))
theorem q4L(T:Txt K mg t)(S:Fns K t)(B:BmIn base mg):S.tY.OkE P w mg base 11 (qDB t):=by(
refine S.tY.F.okE q9O (λvs H Q E h=>?_) (λcdv A outer s H vs Q E hr h=>?_)
·repeat obtain⟨_,h⟩:=h
 all_goals subst_vars;rfl
obtain⟨x,r2,r3,r4,r5,m,q,n,v,rfl,hs,k⟩:=h
refine⟨_,(qD (qL (yI jL (pv 0) T.bE T.aAU (q4K T S B).mono hr S.iC.b .nil (qA (pv 1) (qA (pv 2) qE))))),?_⟩
try dsimp-beta-proj-iota-zeta-eta only[wishK,cxK]
exact⟨_,rfl,x.s,x.sd,_,rfl,hs.o,rfl,_,rfl,_,rfl,x,r2,r3,r4,r5,m,q,n,v,rfl,hs,k⟩)
theorem bor(a b:Nat):Builtin.bitOr (a:Int) (b:Int)=((a|||b:Nat):Int):=by(
have e:∀c:Nat,Builtin.bitNot (Builtin.bitNot (c:Int))=(c:Int):=λc=>by unfold Builtin.bitNot;lia
have n:∀c:Nat,decide (0≤Builtin.bitNot (c:Int))=false:=λc=>hU (by unfold Builtin.bitNot;lia)
unfold Builtin.bitOr Builtin.bitAnd
rw[n a,n b]
show Builtin.bitNot (Builtin.bitNot (((Builtin.bitNot (Builtin.bitNot (a:Int))).toNat|||(Builtin.bitNot (Builtin.bitNot (b:Int))).toNat:Nat):Int))=_
rw[e,e a,e b,mO,mO])
noncomputable abbrev vN(ks:List Nat):List V:=ks.map λ(k:Nat)=>V.int (k:Int)
inductive spBo(K:W.Frag)(vs:List V)(H:Hp)(Q:VK)(E_:XK):Prop
|mk:∀l ss,vs=[.ref l]→SqL K H l (vN ss)→(∀s∈ss,s<64)→Q (.int ((orB ss 0:Nat):Int)) H→spBo K vs H Q E_
theorem qBD(s:Nat):∀(l:List Nat) (b:Nat),orB (l++[s]) b=orB l b|||2 ^ s
| [],b=>rfl
|x::r,b=>qBD s r _
theorem qCB(T:Txt K mg t)(S:Fns K t):S.aDJ.Ok0 P w mg base 1 (spBo K):=by(
refine S.aDJ.F.ok0 q1H λcdv A _ s H vs Q E hr h=>?_
obtain⟨l,ss,rfl,hl,hs,q⟩:=h
refine⟨_,(qB (qS (i:=1) q1H.nd rfl (Or.inl rfl) qG) (qB (zY dF rfl (yC (pv 0)) (jA (i:=2) q1H.nd rfl (Or.inl rfl)) (qD (qS (i:=1) q1H.nd rfl (Or.inl rfl) (qN qL7 (pv 1) (qN qJ7 qG (pv 2)))))) (qD (qL (pv 1))))),?_⟩
try dsimp-beta-proj-iota-zeta-eta only[wishK,cxK]
refine⟨_,rfl,l,rfl,⟨_,hl⟩,?_⟩
refine q0J (K:=K) (xs:=vN ss) (λi σ' H2=>∃y,σ'=[some (.ref l),some (.int ((orB (ss.take i) 0:Nat):Int)),y]∧H2=H) ⟨_,rfl,rfl⟩ (λi σ' H2 hi hp=>?_) (λi x σ' H2 hx hp=>?_) (λσ' H2 hp=>?_)
·obtain⟨y,rfl,rfl⟩:=hp;exact hl
·obtain⟨y,rfl,rfl⟩:=hp;rw[mC]at hx;obtain⟨n,hn,rfl⟩:=m9.mp hx;obtain⟨hi,rfl⟩:=kD.mp hn;have:=hs _ (gD hi);refine⟨_,rfl,_,rfl,_,_,rfl,rfl,⟨by lia,by lia,by decide⟩,_,_,rfl,rfl,?_⟩;have e:(1:Int)*2 ^ ((ss[i]:Nat):Int).toNat=((2 ^ ss[i]:Nat):Int):=by rw[Int.one_mul,mO];exact(Int.natCast_pow 2 _).symm
 try dsimp only
 rw[e,bor];refine⟨some (.int ((ss[i]:Nat):Int)),?_,rfl⟩;rw[←mD hi,qBD];rfl
obtain⟨y,rfl,rfl⟩:=hp
rw[show(vN ss).length=ss.length by simp[vN],mZ]
exact⟨_,rfl,q⟩)
noncomputable def hdN(W:Mp):List Int:=(W.map (·.1)).filter λn=>decide (n≠64)
inductive spHe(t:Adr)(vs:List V)(H:Hp)(Q:VK)(E_:XK):Prop
|mk:∀a,∀m:QM,vs=[.ref a.bk]→BkAt t H a m→m.Ok→(hdN m.V).length<64→(∀l ns H',Same H H'→H l=none→H' l=some (.lst (List.map V.int ns))→ns.Perm (hdN m.V)→ns.Pairwise (·≤·)→Q (.ref l) H')→spHe t vs H Q E_
theorem qA0(T:Txt K mg t)(S:Fns K t):S.aBB.Ok0 P w mg base 1 (spHe t):=by(
refine S.aBB.F.ok0 q9N λcdv A _ s H vs Q E hr h=>?_
obtain⟨a,m,rfl,hb,ok,hl64,q⟩:=h
have hu:=q6H hr
have lV:m.V.length≤65:=ok.lenV
refine⟨_,(qD (qL (qX q99 (by rfl) T.oQ (by kernel_rfl) (qA (qCS (vE ["name"] [] rfl (qH9 (qJ (pv 0) rfl)) (λ_ _ _ _ _=>(jA (i:=0) (show List.Nodup (["name"]:List Str)from by decide) rfl (Or.inl rfl))) (λ_ _ _ _ _=>(zE (qQ q3B (pv 0) (zC rfl T.aEG ⟨_,rfl⟩ (v:=.int 64)) (qO _)))) (λ_ _ _ _ _=>(pv 0)) (by kernel_rfl) (yJ (by decide)))) qE)))),?_⟩
try dsimp-beta-proj-iota-zeta-eta only[wishK,cxK]
refine⟨a.wv,_,hb.w,_,rfl,a.bk,_,a.dx,_,_,rfl,hb.o,T.bJ,T.eI,rfl,a.wv,_,rfl,hb.w,λo D H2 nD s2 hD=>?_⟩
have kk:∀x u,x≠a.wv→H x=some u→H2 x=some u:=λx u nx e=>s2 _ _ (by rw[qC nx];exact e)
have fz:H2 a.wv=some (.frz o (.dK (dI m.V))):=s2 _ _ qI
have Dw:D≠a.wv:=λz=>by rw[z,fz]at hD;cases hD
have nDH:H D=none:=by rw[qC Dw]at nD;exact nD
refine qFR (D:=D) (λi H3=>H3 a.wv=some (.frz o (.dK (dI m.V)))∧(∀x u,x≠a.wv→H x=some u→H3 x=some u)∧H3 D=some (.lst ((hdN (m.V.take i)).map V.int))) ⟨fz,kk,hD⟩ (λi H3 hp=>hp.1) (λi kv H3 hk hp=>?_) (λH3 hp=>?_)
·obtain⟨fz3,k3,hd⟩:=hp;have hi:i<m.V.length:=by have:=(kD.mp hk).1;rw[q7A]at this;exact this
 obtain rfl:((Sum.inl m.V[i].1:Key),V.int m.V[i].2)=kv:=by
  have e:(dI m.V)[i]?=some ((Sum.inl m.V[i].1:Key),V.int m.V[i].2):=by unfold dI;rw[mC,kC hi];rfl
  rw[e]at hk;exact kL hk
 have tk:m.V.take (i+1)=m.V.take i++[m.V[i]]:=(mD hi).symm;show vZ _ (V.int m.V[i].1) _ _ _;refine⟨_,rfl,rfl,_,rfl,?_⟩;rw[zZ];by_cases e:m.V[i].1=64
 ·rw[hG e];refine iteF ?_;refine⟨fz3,k3,?_⟩;have:hdN (m.V.take (i+1))=hdN (m.V.take i):=by unfold hdN;rw[tk,mR,gL];simp[e]
  rw[this];exact hd
 rw[hU e];refine iteT ?_;refine⟨_,rfl,_,hd,?_,?_,λx u nx e'=>?_,?_⟩
 ·rw[h9];have l2:(hdN (m.V.take i)).length≤65:=by unfold hdN;refine k8 (mH _ _) ?_;rw[h9,gH];lia
  have:(65:Nat)<sizeLine:=by decide
  lia
 ·rw[qC Dw.symm];exact fz3
 ·rw[qC (qH e' nDH)];exact k3 _ _ nx e'
 have:hdN (m.V.take (i+1))=hdN (m.V.take i)++[m.V[i].1]:=by unfold hdN;rw[tk,mR,gL];simp[e]
 rw[qI,this,mR];rfl
obtain⟨fz3,k3,hd⟩:=hp
rw[q7A,mZ]at hd
refine⟨o,_,fz3,?_⟩
have sH:Same H (upd H3 a.wv (.dK (dI m.V))):=qFS hb.w k3
have hd4:(upd H3 a.wv (.dK (dI m.V))) D=some (.lst ((hdN m.V).map V.int)):=by rw[qC Dw];exact hd
generalize upd H3 a.wv (.dK (dI m.V))=H4 at sH hd4 ⊢
refine⟨D,hdN m.V,rfl,SqL.of hd4,by lia,λns pp pw l H5 n5 s5 h5=>?_⟩
exact q l ns H5 (sH.trans s5) (sH.free n5) h5 pp pw)
structure HeldIs(q:QM)(ns:List Int):Prop where
pm:ns.Perm (hdN q.V)
so:ns.Pairwise (·≤·)
inductive spHd(t:Adr)(vs:List V)(H:Hp)(Q:VK)(E_:XK):Prop
|mk:∀x r2 r3 r4 r5 m q,vs=[.ref x.s]→StAt t H x r2 r3 r4 r5 m q→Fit m q→(hdN q.V).length<64→(∀l ns H',HeldIs q ns→Same H H'→H l=none→H' l=some (.lst (List.map V.int ns))→Q (.ref l) H')→spHd t vs H Q E_
theorem q3F(T:Txt K mg t)(S:Fns K t):S.oR.Ok0 P w mg base 2 (spHd t):=by(
refine S.oR.F.ok0 q7T λcdv A _ s H vs Q E hr h=>?_
obtain⟨x,r2,r3,r4,r5,m,q,rfl,hs,ft,h64,k⟩:=h
refine⟨_,(qD (qL (qW (qJ (pv 0) rfl) T.bJ T.aDQ (qA0 T S).mono hr S.aBB.b .nil qK))),?_⟩
try dsimp-beta-proj-iota-zeta-eta only[wishK,cxK]
exact⟨_,rfl,x.s,_,x.sd,_,_,rfl,hs.o,T.bE,T.bI,rfl,x.k.bk,x.k.dx,_,rfl,hs.bk.o,rfl,x.k,q,rfl,hs.bk,ft.oq,h64,λl ns H' s' n' h' pm so=>k l ns H' ⟨pm,so⟩ s' n' h'⟩)
inductive spCs(t:Adr)(vs:List V)(H:Hp)(Q:VK)(E:XK):Prop
|mk:∀x r3 r4 r5 m q v,∀sh:Int,vs=[.ref x.s,v]→StAt t H x (.int sh) r3 r4 r5 m q→Knd H v→(if inB v 0 (sh-1)=true then Q .non H else False)→spCs t vs H Q E
theorem q2Q(T:Txt K mg t)(S:Fns K t):S.fE.Ok0 P w mg base 3 (spCs t):=by(
refine S.fE.F.ok0 q2L λcdv A _ s H vs Q E hr h=>?_
obtain⟨x,r3,r4,r5,m,q,v,sh,rfl,hs,kn,k⟩:=h
refine⟨_,(qD (j9 (jU (jG (qU (jF T S).mono hr rfl T.bN T.bO S.bY.b .nil qK (qA (pv 1) (qA qG (qA (qN yH (qJ (qJ (pv 0) rfl) rfl) qG) qE)))))) (qD jC) qR)),?_⟩
try dsimp-beta-proj-iota-zeta-eta only[wishK,cxK]
refine⟨_,rfl,_,rfl,x.s,_,x.sd,_,_,rfl,hs.o,T.bE,T.bH,rfl,x.tm,_,x.td,_,_,rfl,hs.te,T.bM,T.i8,rfl,_,_,rfl,rfl,v,_,_,rfl,kn,_,rfl,?_⟩
cases z:inB v 0 (sh-1)with
|true=>rw[z,kF rfl]at k;exact iteF k
|false=>rw[z,hV (by decide)]at k;exact k.elim)
theorem qBE(T:Txt K mg t)(S:Fns K t):S.aCB.Ok0 P w mg base 3 (λvs H Q _=>∃v,vs=[v]∧Knd H v∧Q (.bl (inB v 0 (10 ^ 30-1))) H):=by(
refine S.aCB.F.ok0 qB7 λcdv A _ s H vs Q E hr h=>?_
obtain⟨v,rfl,kn,k⟩:=h
refine⟨_,(qD (qL (qU (jF T S).mono hr rfl T.bN T.bO S.bY.b .nil qK (qA (pv 0) (qA qG (qA (qN yH (qN qE8 qG qG) qG) qE)))))),?_⟩
try dsimp-beta-proj-iota-zeta-eta only[wishK,cxK]
exact⟨_,rfl,_,_,rfl,rfl,⟨by decide,by decide,by decide⟩,_,_,rfl,rfl,v,_,_,rfl,kn,k⟩)
noncomputable def hold(q:QM)(s:Int):Bool:=decide (s∈hdN q.V)
theorem q64{s:Int}:∀{ns:List Int},inV (.int s) (ns.map V.int)=decide (s∈ns)
| []=>rfl
|n::r=>by
 have ih:=q64 (s:=s) (ns:=r);unfold inV at ih ⊢;rw[mJ,wP,ih];by_cases e:n=s
 ·subst e;simp[eqV]
 have e':¬s=n:=λz=>e z.symm;simp[eqV,e,e']
theorem qLV{ns:List Int}:(ns.map V.int).all q1M=true:=by(
rw[gW]
intro v hv
obtain⟨n,_,rfl⟩:=kY.mp hv
rfl)
theorem HeldIs.hold{q:QM}{ns:List Int}(h:HeldIs q ns)(s:Int):decide (s∈ns)=hold q s:=by(
unfold W1.hold
by_cases z:s∈ns
·rw[hG z,hG (h.pm.mem_iff.mp z)]
rw[hU z,hU (λy=>z (h.pm.mem_iff.mpr y))])
inductive spSh(t:Adr)(vs:List V)(H:Hp)(Q:VK)(E:XK):Prop
|mk:∀x r2 r4 r5 m q,∀s sr:Int,vs=[.ref x.s,.int s]→StAt t H x r2 (.int sr) r4 r5 m q→Fit m q→(hdN q.V).length<64→(∀H',Same H H'→if hold q s=false∧sr≤((hdN q.V).length:Int)then False else Q .non H')→spSh t vs H Q E
theorem q2R(T:Txt K mg t)(S:Fns K t):S.fD.Ok0 P w mg base 3 (spSh t):=by(
refine S.fD.F.ok0 vP λcdv A _ s H vs Q E hr h=>?_
obtain⟨x,r2,r4,r5,m,q,s,sr,rfl,hs,ft,h64,k⟩:=h
refine⟨_,(qB (qS (i:=2) vP.nd rfl (Or.inl rfl) (qW (pv 0) T.bE T.aAO (q3F T S).mono hr S.oR.b .nil qK)) (qD (j9 (PW.pt (q4O (qQ q93 (pv 1) (pv 2) rfl) (q2V (qQ qCF (qX qY (by rfl) T.oI gC (qA (pv 2) qE)) (qJ (qJ (pv 0) rfl) rfl) (qO _))))) (qD jC) qR))),?_⟩
try dsimp-beta-proj-iota-zeta-eta only[wishK,cxK]
refine⟨_,rfl,x.s,x.sd,_,rfl,hs.o,rfl,x,r2,.int sr,r4,r5,m,q,rfl,hs,ft,h64,λl ns H1 hn s1 n1 h1=>?_⟩
refine⟨_,rfl,_,rfl,?_⟩
refine⟨l,_,rfl,.inl (SqL.of h1),rfl,qLV,_,rfl,?_⟩
have kk:=k H1 s1
have e:inV (.int s) (ns.map V.int)=hold q s:=by rw[q64];exact hn.hold s
show if(!inV (.int s) (ns.map V.int))=true then _ else _
rw[e]
cases z:hold q s with
|true=>rw[z,hV (λy=>by cases y.1)]at kk;exact iteF kk
|false=>
 refine iteT ?_;refine⟨_,rfl,l,_,rfl,.inl (SqL.of h1),_,rfl,x.s,_,x.sd,_,_,rfl,(hs.same s1).o,T.bE,T.bH,rfl,x.tm,_,x.td,_,_,rfl,(hs.same s1).te,T.bM,T.oZ,rfl,_,_,rfl,rfl,_,rfl,?_⟩;rw[h9,hn.pm.length_eq];by_cases y:sr≤((hdN q.V).length:Int)
 ·rw[hG y];rw[kF ⟨z,y⟩]at kk;exact kk.elim
 rw[hU y];rw[hV (λw=>y w.2)]at kk;exact iteF kk)
inductive spRs(t:Adr)(vs:List V)(H:Hp)(Q:VK)(E_:XK):Prop
|mk:∀x r2 r3 r5 m q,∀ie:Int,vs=[.ref x.s]→StAt t H x r2 r3 (.int ie) r5 m q→Q (.int (1+ie)) H→spRs t vs H Q E_
theorem q0Q(T:Txt K mg t)(S:Fns K t):S.fP.Ok0 P w mg base 1 (spRs t):=by(
refine S.fP.F.ok0 q54 λcdv A _ s H vs Q E hr h=>?_
obtain⟨x,r2,r3,r5,m,q,ie,rfl,hs,k⟩:=h
refine⟨_,(qD (qL (qN jV qG (qJ (qJ (pv 0) rfl) rfl)))),?_⟩
try dsimp-beta-proj-iota-zeta-eta only[wishK,cxK]
exact⟨_,rfl,x.s,_,x.sd,_,_,rfl,hs.o,T.bE,T.bH,rfl,x.tm,_,x.td,_,_,rfl,hs.te,T.bM,T.oF,rfl,_,_,rfl,rfl,k⟩)
inductive spRd(t:Adr)(vs:List V)(H:Hp)(Q:VK)(E_:XK):Prop
|mk:∀x r2 r3 r5 m q,∀ie:Int,vs=[.ref x.s]→StAt t H x r2 r3 (.int ie) r5 m q→Fit m q→(∀l H',FreeIs q.B m.br m.cl q.fi l→Keep [t.bD] H H'→TbF t H'→Q (.bl (rdy ie l (jP q.B q.P m.br q.fi))) H')→spRd t vs H Q E_
theorem q7C(T:Txt K mg t)(S:Fns K t)(B:BmIn base mg):S.tN.Ok0 P w mg base 9 (spRd t):=by(
refine S.tN.F.ok0 q2K λcdv A _ s H vs Q E hr h=>?_
obtain⟨x,r2,r3,r5,m,q,ie,rfl,hs,ft,k⟩:=h
refine⟨_,(qB (qS (i:=1) q2K.nd rfl (Or.inl rfl) (qN yH (qX qY (by rfl) T.oI gC (qA (qW (pv 0) T.bE T.oE (q0G T S B).mono hr S.oM .nil qK) qE)) (qW (pv 0) T.bE T.oJ (q0Q T S).mono hr S.fP.b .nil qK))) (qD (qL (qIC (jR qEB (pv 1) qG (qO _)) (q0V (q1X (jR yO (pv 1) qG (qO _)) (q0V (jR q5X (qW (pv 0) T.bE T.oH (q0H T S).mono hr S.iP.b .nil qK) yW (qO _))))))))),?_⟩
try dsimp-beta-proj-iota-zeta-eta only[wishK,cxK]
refine⟨_,rfl,x.s,x.sd,_,rfl,hs.o,rfl,x,r2,r3,_,r5,m,q,rfl,hs,ft,λl p H1 hl np k1 tb1 h1=>?_⟩
have hs1:=hs.kT k1 tb1
refine⟨p,_,rfl,.inl (SqL.of h1),_,rfl,x.s,x.sd,_,rfl,hs1.o,rfl,x,r2,r3,r5,m,q,ie,rfl,hs1,_,_,rfl,rfl,?_⟩
refine⟨_,rfl,_,_,rfl,rfl,_,rfl,?_⟩
have kk:=λH' s'=>k l H' hl (k1.trans (Keep.same s')) (tb1.same s')
unfold rdy at kk
rw[h9]
by_cases z:(l.length:Int)-(1+ie)>0
·rw[hG z];refine iteT ?_;have:=kk H1 (Same.refl H1);rw[hG z]at this;exact this
rw[hU z]
refine iteF ?_
rw[hU z]at kk
refine⟨_,rfl,rfl,_,rfl,?_⟩
rw[zZ]
by_cases e0:(l.length:Int)-(1+ie)=0
·rw[hG e0];rw[hG e0]at kk;refine iteT ?_;refine⟨_,rfl,x.s,x.sd,_,rfl,hs1.o,rfl,x,r2,r3,_,r5,m,q,rfl,hs1,ft,λH2 s2=>⟨rfl,?_⟩⟩;have:=kk H2 s2;cases hp:jP q.B q.P m.br q.fi with
 |none=>rw[hp]at this;exact this
 |some b=>rw[hp]at this;exact this
rw[hU e0]
rw[hU e0]at kk
refine iteF ?_
exact kk H1 (Same.refl H1))
inductive spTy(t:Adr)(vs:List V)(H:Hp)(Q:VK)(E_:XK):Prop
|mk:∀x r2 r3 r4 r5 m q,∀b:Nat,vs=[.ref x.s,.int (b:Int)]→StAt t H x r2 r3 r4 r5 m q→Fit m q→b<q.B→NewO H (.tup (tyL m q b)) Q→spTy t vs H Q E_
theorem q7D(T:Txt K mg t)(S:Fns K t):S.tW.Ok0 P w mg base 5 (spTy t):=by(
refine S.tW.F.ok0 q71 λcdv A _ s H vs Q E hr h=>?_
obtain⟨x,r2,r3,r4,r5,m,q,b,rfl,hs,ft,hb,k⟩:=h
have eB:=ft.eB
refine⟨_,(qD (qL (uK (qA (pv 1) (qA (qV jE (qJ (qJ (pv 0) rfl) rfl) (pv 1) (λ_ _=>rfl)) (qA (j8 (qJ (pv 0) rfl) T.bG T.oY (q1R T S).mono hr S.fX.b .nil qK (qA (pv 1) qE)) (qA (qV jE (qJ (qJ (pv 0) rfl) rfl) (pv 1) (λ_ _=>rfl)) qE))))))),?_⟩
try dsimp-beta-proj-iota-zeta-eta only[wishK,cxK]
refine⟨_,rfl,_,rfl,x.s,_,x.sd,_,_,rfl,hs.o,T.bE,T.bI,rfl,x.k.bk,_,x.k.dx,_,_,rfl,hs.bk.o,T.bJ,T.f6,rfl,_,rfl,x.k.lv,_,_,_,rfl,rfl,SqL.of hs.bk.l,atV (by rw[ft.oq.ll];exact hb),?_⟩
refine⟨_,rfl,x.s,_,x.sd,_,_,rfl,hs.o,T.bE,T.b8,rfl,x.c,x.a.dx,_,rfl,hs.ch.ins,rfl,_,rfl,x.c,x.a,m,_,rfl,hs.ch,ft.ok,by lia,by lia,?_⟩
rw[mO]
refine⟨_,rfl,x.s,_,x.sd,_,_,rfl,hs.o,T.bE,T.bI,rfl,x.k.bk,_,x.k.dx,_,_,rfl,hs.bk.o,T.bJ,T.iB,rfl,_,rfl,x.k.bo,_,_,_,rfl,rfl,SqL.of hs.bk.b,atV (by rw[ft.oq.lo];exact hb),?_⟩
exact⟨sz4,k⟩)
inductive spSc(t:Adr)(vs:List V)(H:Hp)(Q:VK)(E_:XK):Prop
|mk:∀x r2 r3 r5 m q,∀ie:Int,vs=[.ref x.s]→StAt t H x r2 r3 (.int ie) r5 m q→Fit m q→(∀l H',FreeIs q.B m.br m.cl q.fi l→Keep [t.bD] H H'→TbF t H'→Q (.int (spcN ie l q.P q.fi (jP q.B q.P m.br q.fi))) H')→spSc t vs H Q E_
theorem q7E(T:Txt K mg t)(S:Fns K t)(B:BmIn base mg):S.tQ.Ok0 P w mg base 9 (spSc t):=by(
refine S.tQ.F.ok0 q2M λcdv A _ s H vs Q E hr h=>?_
obtain⟨x,r2,r3,r5,m,q,ie,rfl,hs,ft,k⟩:=h
have eP:=ft.eP
refine⟨_,(qB (j9 (qQ qCF (qX qY (by rfl) T.oI gC (qA (qW (pv 0) T.bE T.oE (q0G T S B).mono hr S.oM .nil qK) qE)) (qW (pv 0) T.bE T.oJ (q0Q T S).mono hr S.fP.b .nil qK) (qO _)) (qD (qL (qJ (qJ (pv 0) rfl) rfl))) qR) (qB (qS (i:=1) q2M.nd rfl (Or.inl rfl) (qW (pv 0) T.bE T.oH (q0H T S).mono hr S.iP.b .nil qK)) (qB (j9 (qQ q69 (pv 1) yW (qO _)) (qD (qL qG)) qR) (qD (qL (qN yH (qJ (qJ (pv 0) rfl) rfl) (qV jE (qJ (qJ (pv 0) rfl) rfl) (pv 1) (λ_ _=>rfl)))))))),?_⟩
try dsimp-beta-proj-iota-zeta-eta only[wishK,cxK]
refine⟨_,rfl,x.s,x.sd,_,rfl,hs.o,rfl,x,r2,r3,_,r5,m,q,rfl,hs,ft,λl p H1 hl np k1 tb1 h1=>?_⟩
have hs1:=hs.kT k1 tb1
refine⟨p,_,rfl,.inl (SqL.of h1),_,rfl,x.s,x.sd,_,rfl,hs1.o,rfl,x,r2,r3,r5,m,q,ie,rfl,hs1,_,_,rfl,rfl,_,rfl,?_⟩
have kk:=λH' s'=>k l H' hl (k1.trans (Keep.same s')) (tb1.same s')
unfold spcN at kk
rw[h9]
by_cases z:1+ie≤(l.length:Int)
·rw[hG (show(l.length:Int)≥1+ie from z)];refine iteT ?_;refine⟨_,rfl,x.s,_,x.sd,_,_,rfl,hs1.o,T.bE,T.bH,rfl,x.tm,_,x.td,_,_,rfl,hs1.te,T.bM,T.bK,rfl,?_⟩;have:=kk H1 (Same.refl H1);rw[kF z,←eP]at this;exact this
rw[hU (show ¬(l.length:Int)≥1+ie from z)]
refine iteF ?_
refine⟨_,rfl,x.s,x.sd,_,rfl,hs1.o,rfl,x,r2,r3,_,r5,m,q,rfl,hs1,ft,λH2 s2=>?_⟩
have kk:=kk H2 s2
rw[hV z]at kk
cases hp:jP q.B q.P m.br q.fi with
|none=>rw[hp]at kk;exact⟨_,rfl,rfl,_,rfl,iteT kk⟩
|some b=>rw[hp]at kk;have hs2:=hs1.same s2;refine⟨_,rfl,rfl,_,rfl,iteF ?_⟩;refine⟨_,rfl,x.s,_,x.sd,_,_,rfl,hs2.o,T.bE,T.bH,rfl,x.tm,_,x.td,_,_,rfl,hs2.te,T.bM,T.bK,rfl,_,rfl,x.s,_,x.sd,_,_,rfl,hs2.o,T.bE,T.bI,rfl,x.k.bk,_,x.k.dx,_,_,rfl,hs2.bk.o,T.bJ,T.bR,rfl,_,rfl,x.k.fi,_,_,_,rfl,rfl,SqL.of hs2.bk.f,atV (by rw[ft.oq.lf];exact(q14 hp).1),_,_,rfl,rfl,?_⟩;rw[eP];exact kk)
noncomputable abbrev Tys(H:Hp)(m:CM)(q:QM):List V→List Nat→Prop:=Paired λv b=>∃p,v=.ref p∧H p=some (.tup (tyL m q b))
theorem qBF{F:List Addr}{H H':Hp}{m:CM}{q:QM}(k:Keep F H H'){rs:List V}{L:List Nat}(r:Tys H m q rs L):Tys H' m q rs L:=Paired.mapP r λv d ⟨p,e,h⟩=>⟨p,e,k.tp _ _ h⟩
inductive spFo(t:Adr)(vs:List V)(H:Hp)(Q:VK)(E_:XK):Prop
|mk:∀x r2 r3 r5 m q,∀ie:Int,vs=[.ref x.s]→StAt t H x r2 r3 (.int ie) r5 m q→Fit m q→(∀l p rs H',FreeIs q.B m.br m.cl q.fi l→H p=none→Keep [t.bD] H H'→TbF t H'→H' p=some (.lst rs)→Tys H' m q rs ((jX q.B q.P m.br q.fi).filter λb=>decide (q.lv.getD b 0≤spcN ie l q.P q.fi (jP q.B q.P m.br q.fi)))→Q (.ref p) H')→spFo t vs H Q E_
theorem q3W(T:Txt K mg t)(S:Fns K t)(B:BmIn base mg):S.fV.Ok0 P w mg base 10 (spFo t):=by(
refine S.fV.F.ok0 yT λcdv A _ s H vs Q E hr h=>?_
obtain⟨x,r2,r3,r5,m,q,ie,rfl,hs,ft,k⟩:=h
have b2:=ft.oq.b2
have eP:=ft.eP
have sz:(16:Nat)<sizeLine:=by decide
have fl:(jX q.B q.P m.br q.fi).length≤16:=k8 (mH _ _) (k8 (q23 (B:=q.B) (br:=m.br)) b2)
refine⟨_,(qB (qS (i:=1) yT.nd rfl (Or.inr rfl) (qW (pv 0) T.bE T.aCF (q7E T S B).mono hr S.tQ.b .nil qK)) (qB (q47 (i:=2) ["self","block"] [0] rfl (yC (qW (pv 0) T.bE T.oO (q0F T S).mono hr S.iH.b .nil qK)) (λ_ _ _ _ _=>(jA (i:=1) (show List.Nodup (["self","block"]:List Str)from by decide) rfl (Or.inl rfl))) (λ_ _ _ _ _=>(zE (qQ yO (qV (qAS (K:=K) rfl) (vF (K:=K) rfl (vF (K:=K) rfl (pv 0) rfl) rfl) (pv 1) (λ_ _=>rfl)) (vF (K:=K) rfl (vF (K:=K) rfl (pv 0) rfl) rfl) (qO _)))) (λ_ _ _ _ _=>(pv 1)) (by kernel_rfl) (yJ (by decide)) yT.nd rfl (Or.inl rfl)) (qB (q47 (i:=3) ["self","block"] [0] rfl (yC (pv 2)) (λ_ _ _ _ _=>(jA (i:=1) (show List.Nodup (["self","block"]:List Str)from by decide) rfl (Or.inl rfl))) (λ_ _ _ _ _=>q44) (λ_ _ _ _ _=>(j8 (pv 0) T.bE T.aCK (q7D T S).mono hr S.tW.b .nil qK (qA (pv 1) qE))) (by kernel_rfl) (yJ (by decide)) yT.nd rfl (Or.inl rfl)) (qD (qL (vE ["space","tally"] [1] rfl (yC (pv 3)) (λ_ _ _ _ _=>(jA (i:=1) (show List.Nodup (["space","tally"]:List Str)from by decide) rfl (Or.inl rfl))) (λ_ _ _ _ _=>(zE (qQ qEA (qV (zF (K:=K) rfl) (pv 1) qG (λ_ _=>rfl)) (pv 0) (qO _)))) (λ_ _ _ _ _=>(pv 1)) (by kernel_rfl) (yJ (by decide)))))))),?_⟩
try dsimp-beta-proj-iota-zeta-eta only[wishK,cxK]
refine⟨_,rfl,x.s,x.sd,_,rfl,hs.o,rfl,x,r2,r3,r5,m,q,ie,rfl,hs,ft,λl H1 hl k1 tb1=>?_⟩
have hs1:=hs.kT k1 tb1
have kk:=λp rs H' np k'=>k l p rs H' hl np (k1.trans k')
generalize spcN ie l q.P q.fi (jP q.B q.P m.br q.fi)=sp at kk
refine⟨_,rfl,x.s,x.sd,_,rfl,hs1.o,rfl,x,r2,r3,_,r5,m,q,rfl,hs1,ft,λp H2 n2 s2 h2=>?_⟩
refine⟨p,rfl,⟨_,SqL.of h2⟩,λD H3 nD s3 hD=>?_⟩
refine vM (K:=K) (xs:=(uJ q.B m.br).map vn) (D:=D) (λi H3=>Same H2 H3∧H3 D=some (.lst ((((uJ q.B m.br).take i).filter λb=>decide (q.fi.getD b 0=(q.P:Int))).map vn))) ⟨s3,hD⟩ (λi H3 hp=>SqL.of (hp.1 _ _ h2)) (λi y H3 hy hp=>?_) (λH3 hp=>?_)
·obtain⟨sm,hd⟩:=hp;have h3:=(hs1.same s2).same sm;rw[mC]at hy;obtain⟨b,hb,rfl⟩:=m9.mp hy;have hi:=(kD.mp hb).1;have mb:=q0K.mp (gJ hb);refine⟨_,rfl,x.s,_,x.sd,_,_,rfl,h3.o,T.bE,T.bI,rfl,x.k.bk,_,x.k.dx,_,_,rfl,h3.bk.o,T.bJ,T.bR,rfl,_,rfl,x.k.fi,_,_,_,rfl,rfl,SqL.of h3.bk.f,atV (by rw[ft.oq.lf];exact mb.1),_,rfl,x.s,_,x.sd,_,_,rfl,h3.o,T.bE,T.bH,rfl,x.tm,_,x.td,_,_,rfl,h3.te,T.bM,T.bK,rfl,rfl,_,rfl,?_⟩;rw[zZ,eP,←mD hi,gL,mR];obtain rfl:(uJ q.B m.br)[i]=b:=(kD.mp hb).2;by_cases z:q.fi.getD (uJ q.B m.br)[i] 0=(q.P:Int)
 ·rw[hG z];refine iteT ?_;refine⟨_,rfl,_,hd,?_,λb o e=>?_,?_⟩
  ·rw[h9];have l1:(((uJ q.B m.br).take i).filter λb=>decide (q.fi.getD b 0=(q.P:Int))).length≤q.B:=k8 (mH _ _) (k8 (by rw[gH];lia) (q23 (B:=q.B) (br:=m.br)));lia
  ·rw[qC (qH e nD)];exact sm _ _ e
  rw[qI,mV,hG z];rfl
 rw[hU z];refine iteF ⟨sm,?_⟩;rw[hd,mV,hU z];simp
obtain⟨sm,hd⟩:=hp
rw[h9,mZ]at hd
have hd:H3 D=some (.lst ((jX q.B q.P m.br q.fi).map vn)):=hd
have s13:=s2.trans sm
have h3:=hs1.same s13
refine⟨_,rfl,D,rfl,⟨_,SqL.of hd⟩,λD2 H4 nD2 s4 hD2=>?_⟩
refine qAT (K:=K) (xs:=(jX q.B q.P m.br q.fi).map vn) (D:=D2) (λi H5=>∃rs,Same H3 H5∧H5 D2=some (.lst rs)∧Tys H5 m q rs ((jX q.B q.P m.br q.fi).take i)) ⟨_,s4,hD2,.nil⟩ (λi H5 hp=>by obtain⟨rs,sm5,_⟩:=hp;exact SqL.of (sm5 _ _ hd)) (λi y H5 hy hp=>?_) (λH5 hp=>?_)
·obtain⟨rs,sm5,hd5,ty⟩:=hp;have h5:=h3.same sm5;rw[mC]at hy;obtain⟨b,hb,rfl⟩:=m9.mp hy;have hi:=(kD.mp hb).1;have mb:=q0K.mp (mK.mp (gJ hb)).1;obtain rfl:(jX q.B q.P m.br q.fi)[i]=b:=(kD.mp hb).2;have ln:=ty.len;rw[gH]at ln;refine⟨_,rfl,x.s,x.sd,_,rfl,h5.o,rfl,_,rfl,x,r2,r3,_,r5,m,q,_,rfl,h5,ft,mb.1,λtp H6 n6 s6 h6=>⟨_,s6 _ _ hd5,by lia,?_⟩⟩;have ne:∀b o,H6 b=some (.tup o)→b≠D2:=λb o e z=>by rw[z,s6 _ _ hd5]at e;cases e
 refine⟨_,λb o e=>?_,qI,?_⟩
 ·rw[qC (qH e nD2)];exact s6 _ _ (sm5 _ _ e)
 rw[←mD hi];refine L2.Paired.snoc (Paired.mapP ty λv d ⟨p,e,h⟩=>⟨p,e,?_⟩) ⟨tp,rfl,?_⟩
 ·rw[qC (ne _ _ (s6 _ _ h))];exact s6 _ _ h
 rw[qC (ne _ _ h6)];exact h6
obtain⟨rs,sm5,hd5,ty⟩:=hp
rw[h9,mZ]at ty
have s15:=s13.trans sm5
have h5:=hs1.same s15
refine⟨_,rfl,D2,rfl,⟨_,SqL.of hd5⟩,λD3 H6 nD3 s6 hD3=>?_⟩
refine vM (K:=K) (xs:=rs) (D:=D3) (λi H7=>∃rs',Same H5 H7∧H7 D3=some (.lst rs')∧rs'.length≤i∧Tys H5 m q rs' (((jX q.B q.P m.br q.fi).take i).filter λb=>decide (q.lv.getD b 0≤sp))) ⟨_,s6,hD3,kN _,.nil⟩ (λi H7 hp=>by obtain⟨_,sm7,_⟩:=hp;exact SqL.of (sm7 _ _ hd5)) (λi y H7 hy hp=>?_) (λH7 hp=>?_)
·obtain⟨rs',sm7,hd7,ln,ty'⟩:=hp;obtain⟨b,hb,tp,rfl,htp⟩:=Paired.at ty hy;have hi:=(kD.mp hb).1;obtain rfl:(jX q.B q.P m.br q.fi)[i]=b:=(kD.mp hb).2;refine⟨_,rfl,tp,_,_,_,rfl,rfl,SqT.of (sm7 _ _ htp),rfl,_,rfl,_,_,rfl,rfl,_,rfl,?_⟩;have ln':=ty.len;have hir:=(kD.mp hy).1;have e1:((jX q.B q.P m.br q.fi).take (i+1)).filter (λb=>decide (q.lv.getD b 0≤sp))=((jX q.B q.P m.br q.fi).take i).filter (λb=>decide (q.lv.getD b 0≤sp))++(if q.lv.getD (jX q.B q.P m.br q.fi)[i] 0≤sp then[(jX q.B q.P m.br q.fi)[i]]else[]):=by
  rw[←mD hi,gL,mV];by_cases z:q.lv.getD (jX q.B q.P m.br q.fi)[i] 0≤sp
  ·rw[hG z,kF z];rfl
  rw[hU z,hV z];rfl
 rw[e1];by_cases z:q.lv.getD (jX q.B q.P m.br q.fi)[i] 0≤sp
 ·rw[hG z,kF z];refine iteT ?_;refine⟨_,rfl,_,hd7,by lia,_,λb o e=>?_,qI,?_,L2.Paired.snoc ty' ⟨tp,rfl,htp⟩⟩
  ·rw[qC (qH e nD3)];exact sm7 _ _ e
  rw[kO];exact nO ln 1
 rw[hU z,hV z,dB];exact iteF ⟨_,sm7,hd7,by lia,ty'⟩
obtain⟨rs',sm7,hd7,ln,ty'⟩:=hp
rw[ty.len,mZ]at ty'
have s17:=s15.trans sm7
refine kk D3 rs' H7 ?_ (Keep.same s17) (tb1.same s17) hd7 (qBF (Keep.same (F:=[]) sm7) ty')
refine k1.none (λz=>?_) (Same.free s15 nD3)
obtain⟨ps',hT',_⟩:=tb1.same s15
rw[hX.mp z,hT']at nD3
cases nD3)
theorem qGM{L:List Nat}{p:Nat→Bool}{i:Nat}(hi:i<L.length):(L.take (i+1)).filter p=(L.take i).filter p++(if p L[i]=true then[L[i]]else[]):=by rw[←mD hi,gL,mV];rfl
inductive spOp(t:Adr)(vs:List V)(H:Hp)(Q:VK)(E_:XK):Prop
|mk:∀x r2 r3 r5 m q,∀ie:Int,vs=[.ref x.s]→StAt t H x r2 r3 (.int ie) r5 m q→Fit m q→(∀l p rs H',FreeIs q.B m.br m.cl q.fi l→H p=none→Keep [t.bD] H H'→TbF t H'→H' p=some (.lst rs)→Tys H' m q rs (optN ie m q l)→Q (.ref p) H')→spOp t vs H Q E_
theorem q0R(T:Txt K mg t)(S:Fns K t)(B:BmIn base mg):S.eL.Ok0 P w mg base 11 (spOp t):=by(
refine S.eL.F.ok0 q0M λcdv A _ s H vs Q E hr h=>?_
obtain⟨x,r2,r3,r5,m,q,ie,rfl,hs,ft,k⟩:=h
have b2:=ft.oq.b2
have eP:=ft.eP
have sz:(16:Nat)<sizeLine:=by decide
have fl:(jX q.B q.P m.br q.fi).length≤16:=k8 (mH _ _) (k8 (q23 (B:=q.B) (br:=m.br)) b2)
refine⟨_,(qD (qL (vE ["self","tally"] [0] rfl (yC (qW (pv 0) T.bE T.aAF (q3W T S B).mono hr S.fV.b .nil qK)) (λ_ _ _ _ _=>(jA (i:=1) (show List.Nodup (["self","tally"]:List Str)from by decide) rfl (Or.inl rfl))) (λ_ _ _ _ _=>(zE (qQ q1L (qV (zF (K:=K) rfl) (pv 1) qG (λ_ _=>rfl)) (vF (K:=K) rfl (vF (K:=K) rfl (pv 0) rfl) rfl) (qO _)))) (λ_ _ _ _ _=>(pv 1)) (by kernel_rfl) (yJ (by decide))))),?_⟩
try dsimp-beta-proj-iota-zeta-eta only[wishK,cxK]
refine⟨_,rfl,x.s,x.sd,_,rfl,hs.o,rfl,x,r2,r3,r5,m,q,ie,rfl,hs,ft,λl p0 rs H5 hl np k1 tb1 hd5 ty=>?_⟩
have h5:=hs.kT k1 tb1
have kk:=λp rs H' np=>k l p rs H' hl np
unfold optN at kk
have fl':=k8 (mH (λb=>decide (q.lv.getD b 0≤spcN ie l q.P q.fi (jP q.B q.P m.br q.fi))) _) fl
generalize (jX q.B q.P m.br q.fi).filter (λb=>decide (q.lv.getD b 0≤spcN ie l q.P q.fi (jP q.B q.P m.br q.fi)))=L at kk ty fl'
refine⟨p0,rfl,⟨_,SqL.of hd5⟩,λD3 H6 nD3 s6 hD3=>?_⟩
refine vM (K:=K) (xs:=rs) (D:=D3) (λi H7=>∃rs',Same H5 H7∧H7 D3=some (.lst rs')∧rs'.length≤i∧Tys H5 m q rs' ((L.take i).filter λb=>decide (q.lv.getD b 0<(q.P:Int)))) ⟨_,s6,hD3,kN _,.nil⟩ (λi H7 hp=>by obtain⟨_,sm7,_⟩:=hp;exact SqL.of (sm7 _ _ hd5)) (λi y H7 hy hp=>?_) (λH7 hp=>?_)
·obtain⟨rs',sm7,hd7,ln,ty'⟩:=hp;obtain⟨b,hb,tp,rfl,htp⟩:=Paired.at ty hy;have hi:=(kD.mp hb).1;obtain rfl:L[i]=b:=(kD.mp hb).2;have h7:=h5.same sm7;refine⟨_,rfl,tp,_,_,_,rfl,rfl,SqT.of (sm7 _ _ htp),rfl,_,rfl,x.s,_,x.sd,_,_,rfl,h7.o,T.bE,T.bH,rfl,x.tm,_,x.td,_,_,rfl,h7.te,T.bM,T.bK,rfl,_,_,rfl,rfl,_,rfl,?_⟩;rw[eP,qGM hi];by_cases z:q.lv.getD L[i] 0<(q.P:Int)
 ·rw[hG z,kF rfl];refine iteT ?_;refine⟨_,rfl,_,hd7,by lia,_,λb o e=>?_,qI,?_,L2.Paired.snoc ty' ⟨tp,rfl,htp⟩⟩
  ·rw[qC (qH e nD3)];exact sm7 _ _ e
  rw[kO];exact nO ln 1
 rw[hU z,hV (by decide),dB];exact iteF ⟨_,sm7,hd7,by lia,ty'⟩
obtain⟨rs',sm7,hd7,ln,ty'⟩:=hp
rw[ty.len,mZ]at ty'
refine kk D3 rs' H7 ?_ (k1.trans (Keep.same sm7)) (tb1.same sm7) hd7 (qBF (Keep.same (F:=[]) sm7) ty')
refine k1.none (λz=>?_) nD3
obtain⟨ps',hT',_⟩:=tb1
rw[hX.mp z,hT']at nD3
cases nD3)
theorem yN(T:Txt K mg t)(S:Fns K t)(B:BmIn base mg):S.bZ.Ok0 P w mg base 12 (spOp t):=by(
refine S.bZ.F.ok0 q55 λcdv A _ s H vs Q E hr h=>?_
obtain⟨x,r2,r3,r5,m,q,ie,rfl,hs,ft,k⟩:=h
refine⟨_,(qD (qL (qW (pv 0) T.bE T.i6 (q0R T S B).mono hr S.eL.b .nil qK))),?_⟩
try dsimp-beta-proj-iota-zeta-eta only[wishK,cxK]
exact⟨_,rfl,x.s,x.sd,_,rfl,hs.o,rfl,x,r2,r3,r5,m,q,ie,rfl,hs,ft,k⟩)
inductive spTk(t:Adr)(vs:List V)(H:Hp)(Q:VK)(E_:XK):Prop
|mk:∀x r2 r3 r4 r5 m q v,vs=[.ref x.s,v]→StAt t H x r2 r3 r4 r5 m q→(∀H',StAt t H' { x with ru:=v } r2 r3 r4 r5 m q→Keep [x.s] H H'→Q .non H')→spTk t vs H Q E_
theorem q81(T:Txt K mg t)(S:Fns K t):S.aAL.Ok0 P w mg base 1 (spTk t):=by(
refine S.aAL.F.ok0 q7V λcdv A _ s H vs Q E hr h=>?_
obtain⟨x,r2,r3,r4,r5,m,q,v,rfl,hs,k⟩:=h
refine⟨_,(qD (jD (pv 0) (pv 1) rfl)),?_⟩
try dsimp-beta-proj-iota-zeta-eta only[wishK,cxK]
have n:x.s∉sf x:=hs.d2 x.s (by simp)
have ntm:x.tm≠x.s:=jH hs.te hs.o (λz=>by
 injection z with _ _ z
 have z:=g5 List.length z;cases z)
have nli:x.a.li≠x.s:=jH hs.ch.li hs.o (λz=>by cases z)
refine⟨_,rfl,_,rfl,x.s,_,x.sd,_,rfl,hs.o,T.bE,T.bS,by show 5<1000;decide,?_⟩
have kK:=Keep.upd (F:=[x.s]) (o:=.ins t.C_Store x.sd (putF "rule" v [("chip",.ref x.c),("terms",.ref x.tm),("book",.ref x.k.bk),("rule",x.ru),("papers",x.pa)])) hs.o (λ_ z=>by cases z) (by simp)
have nin:∀b∈x.a.li::sf x,b∉[x.s]:=λb hb z=>by
 rw[hX.mp z]at hb;rcases kJ.mp hb with e|e
 ·exact nli e.symm
 exact n e
obtain⟨ps,hT,hps⟩:=hs.tb
have nT:=hs.tb.ne hs.o (λ_ z=>by cases z)
refine k _ ⟨qI,kK.k _ _ (by simpa using ntm) hs.te,hs.ch.keep kK (λb hb=>nin b ?_),hs.bk.keep kK (λb hb=>nin b ?_),⟨ps,kK.k _ _ (by simpa using nT.symm) hT,?_⟩,hs.ds,hs.d1,hs.d2⟩ kK
·rcases kJ.mp hb with rfl|hb
 ·simp
 simp[sf,hb]
·have hb:b∈bf x.k:=hb;simp[sf,hb]
rcases hps with e|⟨c,e,hc⟩
·exact .inl e
exact .inr ⟨c,e,kK.k _ _ (by simpa using jH hc hs.o (λz=>by cases z)) hc⟩)
theorem _root_.L2.ChipAt.has{C c:Addr}{a:CA}{m:CM}{H:Hp}(h:ChipAt C H c a m){b:Addr}(hb:b∈a.li::foot c a):∃o,H b=some o∧(b≠c→∀C d f,o≠ .ins C d f):=by(
obtain⟨rs,er,_⟩:=h.rc
have hb:b=a.li∨b=c∨b=a.bo∨b=a.cl∨b=a.dc∨b=a.br∨b=a.rc:=by simpa[foot]using hb
rcases hb with rfl|rfl|rfl|rfl|rfl|rfl|rfl
·exact⟨_,h.li,λ_ _ _ _ z=>by cases z⟩
·exact⟨_,h.ins,λn=>absurd rfl n⟩
·exact⟨_,h.bo,λ_ _ _ _ z=>by cases z⟩
·exact⟨_,h.cl,λ_ _ _ _ z=>by cases z⟩
·exact⟨_,h.dc,λ_ _ _ _ z=>by cases z⟩
·exact⟨_,h.br,λ_ _ _ _ z=>by cases z⟩
exact⟨_,er,λ_ _ _ _ z=>by cases z⟩)
theorem StAt.off{H:Hp}{x:Sto}{r2 r3 r4 r5:V}{m:CM}{q:QM}(h:StAt t H x r2 r3 r4 r5 m q){p:Addr}(n:H p=none):p∉t.bD::sf x:=λz=>by(
obtain⟨rs,er,_⟩:=h.ch.rc
obtain⟨ps,hT,_⟩:=h.tb
have z:p=t.bD∨p=x.c∨p=x.a.bo∨p=x.a.cl∨p=x.a.dc∨p=x.a.br∨p=x.a.rc∨p=x.k.bk∨p=x.k.wv∨p=x.k.lv∨p=x.k.fi∨p=x.k.bo:=by simpa[sf,bf,foot]using z
rcases z with rfl|rfl|rfl|rfl|rfl|rfl|rfl|rfl|rfl|rfl|rfl|rfl
·rw[hT]at n;cases n
·rw[h.ch.ins]at n;cases n
·rw[h.ch.bo]at n;cases n
·rw[h.ch.cl]at n;cases n
·rw[h.ch.dc]at n;cases n
·rw[h.ch.br]at n;cases n
·rw[er]at n;cases n
·rw[h.bk.o]at n;cases n
·rw[h.bk.w]at n;cases n
·rw[h.bk.l]at n;cases n
·rw[h.bk.f]at n;cases n
rw[h.bk.b]at n;cases n)
inductive spPi(t:Adr)(vs:List V)(H:Hp)(Q:VK)(E:XK):Prop
|mk:∀x dx tm td c a r2 r3 r4 r5,∀m:CM,∀B P:Nat,vs=[.ref x,.ref c,.ref tm]→H x=some (.ins t.C_Store dx [])→H tm=some (.ins t.C_Terms td (teF (.int (B:Int)) (.int (P:Int)) r2 r3 r4 r5))→ChipAt t.C_Chip H c a m→m.bl=(B:Int)→m.pg=(P:Int)→B≤16→TbF t H→(∀k H',H' x=some (.ins t.C_Store dx [("chip",.ref c),("terms",.ref tm),("book",.ref k.bk)])→(∀ru pa H2,Keep [x] H' H2→H2 x=some (.ins t.C_Store dx [("chip",.ref c),("terms",.ref tm),("book",.ref k.bk),("rule",ru),("papers",pa)])→StAt t H2 ⟨x,dx,tm,td,c,a,k,ru,pa⟩ r2 r3 r4 r5 m (bk0 B P))→(∀b∈bf k,H b=none)→(∀b o,b≠x→H b=some o→H' b=some o)→Q .non H')→spPi t vs H Q E
theorem q82(T:Txt K mg t)(S:Fns K t):S.aAE.Ok0 P w mg base 3 (spPi t):=by(
refine S.aAE.F.ok0 q7R λcdv A _ s H vs Q E hr h=>?_
obtain⟨x,dx,tm,td,c,a,r2,r3,r4,r5,m,B,P',rfl,hx,htm,hc,eB,eP,hB,tb,k⟩:=h
refine⟨_,(qB (j9 (PW.pt (q1W (qQ q3B (qJ (pv 2) rfl) (qJ (pv 1) rfl) (qO _)) (q3J (qQ q3B (qJ (pv 2) rfl) (qJ (pv 1) rfl) (qO _))))) (qD jC) qR) (qB (jD (pv 0) (pv 1) rfl) (qB (jD (pv 0) (pv 2) rfl) (qD (jD (pv 0) (q0Y T.aE0 (q9X T S).mono hr rfl T.aEX S.aA6.b .nil qK (qA (qJ (pv 1) rfl) (qA (qJ (pv 1) rfl) qE))) rfl))))),?_⟩
try dsimp-beta-proj-iota-zeta-eta only[wishK,cxK]
refine⟨_,rfl,tm,_,td,_,_,rfl,htm,T.bM,T.eW,rfl,_,rfl,c,_,a.dx,_,_,rfl,hc.ins,T.bG,T.eN,rfl,rfl,_,rfl,?_⟩
rw[show(!decide (V.int (B:Int)=V.int m.bl))=false by rw[eB];simp]
refine iteF ?_
refine⟨_,rfl,tm,_,td,_,_,rfl,htm,T.bM,T.bK,rfl,_,rfl,c,_,a.dx,_,_,rfl,hc.ins,T.bG,T.b9,rfl,rfl,_,rfl,?_⟩
rw[show(!decide (V.int (P':Int)=V.int m.pg))=false by rw[eP];simp]
refine iteF ?_
refine⟨_,rfl,_,rfl,x,_,dx,_,rfl,hx,T.bE,T.b8,by decide,?_⟩
refine⟨_,rfl,_,rfl,x,_,dx,_,rfl,qI,T.bE,T.bH,by show 1<1000;decide,?_⟩
rw[q0T]
have tx:tm≠x:=jH htm hx (by intro z;injection z with z1 z2 z3;unfold teF at z3;cases z3)
have cx:c≠x:=jH hc.ins hx (by intro z;injection z with z1 z2 z3;unfold chF at z3;cases z3)
have k1:∀b o,b≠x→H b=some o→(upd H x (.ins t.C_Store dx [("chip",.ref c),("terms",.ref tm)])) b=some o:=λb o nb e=>by rw[qC nb];exact e
have o1:(upd H x (.ins t.C_Store dx [("chip",.ref c),("terms",.ref tm)])) x=some (.ins t.C_Store dx [("chip",.ref c),("terms",.ref tm)]):=qI
have f1:∀b,(upd H x (.ins t.C_Store dx [("chip",.ref c),("terms",.ref tm)])) b=none→H b=none:=λb e=>by
 by_cases z:b=x
 ·rw[z,qI]at e;cases e
 rw[qC z]at e;exact e
rw[show putF "terms" (.ref tm) (putF "chip" (.ref c) ([]:List (Str×V)))=([("chip",V.ref c),("terms",V.ref tm)]:List (Str×V))from rfl]
generalize upd H x (.ins t.C_Store dx [("chip",.ref c),("terms",.ref tm)])=H1 at k1 o1 f1 ⊢
have hc1:=k1 _ _ cx hc.ins
refine⟨_,rfl,c,_,a.dx,_,_,rfl,hc1,T.bG,T.eN,rfl,_,rfl,c,_,a.dx,_,_,rfl,hc1,T.bG,T.b9,rfl,λk' kd nk nkd nn=>?_⟩
rw[eB,eP]
refine⟨k',kd,B,P',rfl,hB,qI,λka H3 e1 e2 hb3 ds fr up=>⟨rfl,?_⟩⟩
have s0:Same H1 (upd (upd H1 kd (.own k')) k' (.ins t.C_Book kd [])):=q61 nk nkd
have up':∀b o,H1 b=some o→H3 b=some o:=λb o e=>up b o (qH e nk) (s0 b o e)
refine⟨_,rfl,x,_,dx,_,rfl,up' _ _ o1,T.bE,T.bI,by show 2<1000;decide,?_⟩
have hx3:=up' _ _ o1
have kx:ka.bk≠x:=by rw[e1];exact(qH o1 nk).symm
have lH:∀b∈bf ka,H b=none:=λb hb=>by
 have hb:b=ka.bk∨b∈[ka.wv,ka.lv,ka.fi,ka.bo]:=by simpa[bf]using hb
 rcases hb with rfl|hb
 ·rw[e1];exact f1 _ nk
 exact f1 _ (Same.free s0 (fr b hb))
have kpx:∀b o,b≠x→H3 b=some o→(upd H3 x (.ins t.C_Store dx (putF "book" (.ref k') [("chip",V.ref c),("terms",V.ref tm)]))) b=some o:=λb o nb e=>by rw[qC nb];exact e
have up2:∀b o,b≠x→H b=some o→(upd H3 x (.ins t.C_Store dx (putF "book" (.ref k') [("chip",V.ref c),("terms",V.ref tm)]))) b=some o:=λb o nb e=>kpx b o nb (up' b o (k1 b o nb e))
have nx:∀{b:Addr} {o:HO},H3 b=some o→(∀C d fs,o≠ .ins C d fs)→b≠x:=fun {b o} e n z=>by rw[z,hx3]at e;exact n _ _ _ (kL e).symm
have cfx:∀b∈a.li::foot c a,b≠x:=λb hb z=>by
 obtain⟨o,e,no⟩:=hc.has hb;by_cases y:b=c
 ·exact cx (y.symm.trans z)
 rw[z,hx]at e;exact no y _ _ _ (kL e).symm
refine k ka _ (by rw[e1];exact qI) (λru pa H2 kk hx2=>?_) lH up2
have kp2:∀b o,b≠x→H3 b=some o→H2 b=some o:=λb o nb e=>kk.k b o (by simpa using nb) (kpx b o nb e)
have up3:∀b o,b≠x→H b=some o→H2 b=some o:=λb o nb e=>kk.k b o (by simpa using nb) (up2 b o nb e)
have kK:Keep [x] H H2:=⟨λb o nb e=>up3 b o (λz=>nb (by rw[z];simp)) e,λb xs e=>up3 b _ (λz=>by rw[z,hx]at e;cases e) e⟩
refine⟨hx2,?_,?_,?_,?_,ds,?_,?_⟩
·rw[eB,eP];exact up3 _ _ tx htm
·exact hc.keep kK (λb hb z=>cfx b hb (hX.mp z))
·exact⟨kp2 _ _ kx hb3.o,kp2 _ _ (nx hb3.w (λ_ _ _ z=>by cases z)) hb3.w,kp2 _ _ (nx hb3.l (λ_ _ _ z=>by cases z)) hb3.l,kp2 _ _ (nx hb3.f (λ_ _ _ z=>by cases z)) hb3.f,kp2 _ _ (nx hb3.b (λ_ _ _ z=>by cases z)) hb3.b⟩
·obtain⟨ps,hT,h⟩:=tb;refine⟨ps,up3 _ _ (λz=>by rw[z,hx]at hT;cases hT) hT,?_⟩;rcases h with h|⟨c',h,hcd⟩
 ·exact .inl h
 exact .inr ⟨c',h,up3 _ _ (λz=>by rw[z,hx]at hcd;cases hcd) hcd⟩
·intro b hb z;obtain⟨o,e,_⟩:=hc.has hb;rw[lH b z]at e;cases e
intro b hb z
have hb:b=x∨b=tm:=by simpa using hb
have y0:b∈foot c a∨b∈bf ka:=by simpa[sf]using z
clear z
rcases y0 with z|z
·rcases hb with rfl|rfl
 ·exact cfx _ (kB _ z) rfl
 obtain⟨o,e,no⟩:=hc.has (kB _ z);by_cases y:b=c
 ·rw[y,hc.ins]at htm;have htm:=kL htm;injection htm with z1 z2 z3
  unfold chF teF at z3;have:=g5 List.length z3;simp at this
 rw[htm]at e;exact no y _ _ _ (kL e).symm
have n:=lH b z
rcases hb with rfl|rfl
·rw[hx]at n;cases n
rw[htm]at n;cases n)
inductive spSi(t:Adr)(vs:List V)(H:Hp)(Q:VK)(E:XK):Prop
|mk:∀x dx tm td c a r2 r3 r4 r5 ru,∀m:CM,∀B P:Nat,vs=[.ref x,.ref c,.ref tm,ru]→H x=some (.ins t.C_Store dx [])→H tm=some (.ins t.C_Terms td (teF (.int (B:Int)) (.int (P:Int)) r2 r3 r4 r5))→ChipAt t.C_Chip H c a m→m.bl=(B:Int)→m.pg=(P:Int)→B≤16→TbF t H→(∀k p H',StAt t H' ⟨x,dx,tm,td,c,a,k,ru,.ref p⟩ r2 r3 r4 r5 m (bk0 B P)→H' p=some (.lst [])→H p=none→(∀b∈bf k,H b=none)→p∉t.bD::sf ⟨x,dx,tm,td,c,a,k,ru,.ref p⟩→(∀b o,b≠x→H b=some o→H' b=some o)→Q .non H')→spSi t vs H Q E
theorem q83(T:Txt K mg t)(S:Fns K t):S.aAJ.Ok0 P w mg base 4 (spSi t):=by(
refine S.aAJ.F.ok0 q7U λcdv A _ s H vs Q E hr h=>?_
obtain⟨x,dx,tm,td,c,a,r2,r3,r4,r5,ru,m,B,P',rfl,hx,htm,hc,eB,eP,hB,tb,k⟩:=h
refine⟨_,(qB (jB (qKM T.aEO (q82 T S).mono hr rfl T.aET S.aAE.b .nil qK (qA (pv 0) (qA (pv 1) (qA (pv 2) qE))))) (qB (jD (pv 0) (pv 3) rfl) (qD (jD (pv 0) (yA qE) rfl)))),?_⟩
try dsimp-beta-proj-iota-zeta-eta only[wishK,cxK]
refine⟨_,rfl,_,rfl,_,rfl,x,dx,tm,td,c,a,r2,r3,r4,r5,m,B,P',rfl,hx,htm,hc,eB,eP,hB,tb,λka H1 hx1 st fk up=>?_⟩
refine⟨_,rfl,_,rfl,x,_,dx,_,rfl,hx1,T.bE,T.bS,by show 3<1000;decide,?_⟩
refine⟨sz0,λp H2 np s2 h2=>?_⟩
have px:p≠x:=λz=>by rw[z,qI]at np;cases np
rw[qC px]at np
have hx2:=s2 _ _ qI
refine⟨_,rfl,x,_,dx,_,rfl,hx2,T.bE,T.bX,by show 4<1000;decide,?_⟩
have stA:=st ru .non (upd H1 x (.ins t.C_Store dx [("chip",.ref c),("terms",.ref tm),("book",.ref ka.bk),("rule",ru),("papers",.non)])) (Keep.upd hx1 (λ_ z=>by cases z) (by simp)) qI
have off:=stA.off (p:=p) (by rw[qC px];exact np)
have kA:Keep [x] H1 (upd H2 x (.ins t.C_Store dx (putF "papers" (.ref p) (putF "rule" ru [("chip",.ref c),("terms",.ref tm),("book",.ref ka.bk)])))):=((Keep.upd hx1 (λ_ z=>by cases z) (by simp)).trans (Keep.same s2)).trans (Keep.upd hx2 (λ_ z=>by cases z) (by simp))
refine k ka p _ (st ru (.ref p) _ kA qI) (by rw[qC px];exact h2) ?_ fk off (λb o nb e=>kA.k b o (by simpa using nb) (up b o nb e))
cases e:H p with
|none=>rfl
|some o=>rw[up p o px e]at np;cases np)
inductive spEm(t:Adr)(vs:List V)(H:Hp)(Q:VK)(E_:XK):Prop
|mk:∀a,∀m:QM,∀b,vs=[.ref a.bk,.int ((b:Nat):Int)]→BkAt t H a m→m.Ok→Dst a→b<m.B→(∀H',BkAt t H' a (m.emptied b)→Keep [a.fi,a.bo] H H'→Q .non H')→spEm t vs H Q E_
theorem q5U(T:Txt K mg t)(S:Fns K t):S.oK.Ok0 P w mg base 1 (spEm t):=by(
refine S.oK.F.ok0 q5N λcdv A _ s H vs Q E hr h=>?_
obtain⟨a,m,b,rfl,hb,ok,ds,hB,q⟩:=h
have of':a.bk≠a.fi:=jH hb.o hb.f (by intro z;cases z)
have oo:a.bk≠a.bo:=jH hb.o hb.b (by intro z;cases z)
have wf:a.wv≠a.fi:=jH hb.w hb.f (by intro z;cases z)
have wb:a.wv≠a.bo:=jH hb.w hb.b (by intro z;cases z)
have hbf:b<m.fi.length:=by rw[ok.lf];exact hB
have hbo:b<m.bo.length:=by rw[ok.lo];exact hB
refine⟨_,(qB (q4P qG (q66 (qJ (pv 0) rfl) (pv 1) uH)) (qD (q4P qG (q66 (qJ (pv 0) rfl) (pv 1) uH)))),?_⟩
try dsimp-beta-proj-iota-zeta-eta only[wishK,cxK]
refine⟨_,rfl,a.bk,_,a.dx,_,_,rfl,hb.o,T.bJ,T.bR,rfl,_,rfl,a.fi,_,_,b,rfl,rfl,hb.f,q4X (by rw[h9];exact hbf),?_⟩
rw[setV]
have b1:(upd H a.fi (.lst ((m.fi.set b 0).map V.int))) a.bo=some (.lst (m.bo.map V.int)):=by rw[qC ds.fb.symm];exact hb.b
have o1':∀o,H a.bk=some o→(upd H a.fi (.lst ((m.fi.set b 0).map V.int))) a.bk=some o:=λo e=>by rw[qC of'];exact e
have o1:=o1' _ hb.o
refine⟨_,rfl,a.bk,_,a.dx,_,_,rfl,o1,T.bJ,T.iB,rfl,_,rfl,a.bo,_,_,b,rfl,rfl,b1,q4X (by rw[h9];exact hbo),?_⟩
rw[setV]
refine q _ ⟨?_,?_,?_,?_,?_⟩ (Keep.trans (H1:=upd H a.fi (.lst ((m.fi.set b 0).map V.int))) (Keep.upd hb.f (λ_ z=>by cases z) (by simp)) (Keep.upd b1 (λ_ z=>by cases z) (by simp)))
·rw[qC oo];exact o1
·rw[qC wb,qC wf];exact hb.w
·rw[qC ds.lb,qC ds.lf];exact hb.l
·rw[qC ds.fb];exact qI
exact qI)
noncomputable def lpK(P b:Nat)(V:Mp):List (List Int):=(V.filter λq=>decide (q.2 / (P:Int)=(b:Int))).map λq=>[q.2,q.1]
theorem qBG{P b:Nat}{V:Mp}{q:Int×Int}:lpK P b (V++[q])=if q.2 / (P:Int)=(b:Int)then lpK P b V++[[q.2,q.1]]else lpK P b V:=by(
unfold lpK
rw[gL,mR]
by_cases e:q.2 / (P:Int)=(b:Int)
·rw[kF e];simp[e]
rw[hV e]
simp[e])
inductive spLp(t:Adr)(vs:List V)(H:Hp)(Q:VK)(E_:XK):Prop
|mk:∀a,∀m:QM,∀b,vs=[.ref a.bk,.int ((b:Nat):Int)]→BkAt t H a m→m.Ok→m.V.length<64→(∀l us rs H',Same H H'→H l=none→H' l=some (.lst us)→Paired (TupD H') us rs→rs.Perm (lpK m.P b m.V)→(rs.Pairwise λa b=>lx b a=false)→Q (.ref l) H')→spLp t vs H Q E_
theorem q3X(T:Txt K mg t)(S:Fns K t):S.fT.Ok0 P w mg base 1 (spLp t):=by(
refine S.fT.F.ok0 q3S λcdv A _ s H vs Q E hr h=>?_
obtain⟨a,m,b,rfl,hb,ok,lV,q⟩:=h
have hu:=q6H hr
have p1:=ok.p1
have p2:=ok.p2
have ob:a.bk≠a.wv:=jH hb.o hb.w (by intro z;cases z)
refine⟨_,(qD (qL (qX q12 (by rfl) T.oQ (by kernel_rfl) (qA (qCS (vE ["self","block","name","page"] [0,1] rfl (qK8 (qJ9 pX sD PySem.F.type_dict_items qFL (qJ (pv 0) rfl))) (λ_ _ _ _ _=>(qHD (K:=K) (n:=2) rfl rfl (uG (jA (i:=2) (show List.Nodup (["self","block","name","page"]:List Str)from by decide) rfl (Or.inl rfl)) (uG (jA (i:=3) (show List.Nodup (["self","block","name","page"]:List Str)from by decide) rfl (Or.inl rfl)) q5W)) rfl rfl)) (λ_ _ _ _ _=>(zE (qQ yO (qN zD (pv 3) (vF (K:=K) rfl (pv 0) rfl)) (pv 1) (qO _)))) (λ_ _ _ _ _=>(uK (qA (pv 3) (qA (pv 2) qE)))) (by kernel_rfl) (qH7 (qAQ (by decide) (qAQ (by decide) qH6))))) qE)))),?_⟩
try dsimp-beta-proj-iota-zeta-eta only[wishK,cxK]
refine⟨a.wv,_,hb.w,_,rfl,a.bk,_,a.dx,_,_,rfl,hb.o,T.bJ,T.eI,rfl,.inr (.inr (.inl ⟨rfl,.inl ⟨_,hb.w⟩⟩)),a.wv,_,rfl,rfl,hb.w,λv nv=>?_⟩
have sv:Same H (upd H v (q5F v a.wv)):=Same.upd nv
have vv:(upd H v (q5F v a.wv)) v=some (q5F v a.wv):=qI
generalize upd H v (q5F v a.wv)=H1 at sv vv ⊢
refine⟨v,a.wv,_,rfl,vv,sv _ _ hb.w,λo D H2 nD s2 hD=>?_⟩
have kk:∀x u,x≠a.wv→H x=some u→H2 x=some u:=λx u nx e=>s2 _ _ (by rw[qC nx];exact sv _ _ e)
have fz:H2 a.wv=some (.frz o (.dK (dI m.V))):=s2 _ _ qI
have nDH:H D=none:=by
 cases z:H D with
 |none=>rfl
 |some u=>
  by_cases y:D=a.wv
  ·rw[y,qI]at nD;cases nD
  rw[qC y,sv _ _ z]at nD;cases nD
have Dw:D≠a.wv:=λz=>by rw[z,fz]at hD;cases hD
refine qHE (D:=D) (λi H3=>H3 a.wv=some (.frz o (.dK (dI m.V)))∧(∀x u,x≠a.wv→H x=some u→H3 x=some u)∧∃us,H3 D=some (.lst us)∧Paired (TupD H3) us (lpK m.P b (m.V.take i))) ⟨fz,kk,[],hD,.nil⟩ (λi H3 hp=>hp.1) (λi kv W H3 hk hp nW=>?_) (λH3 hp=>?_)
·obtain⟨fz3,k3,us,hd,pr⟩:=hp;have hi:i<m.V.length:=by have:=(kD.mp hk).1;rw[q7A]at this;exact this
 obtain rfl:((Sum.inl m.V[i].1:Key),V.int m.V[i].2)=kv:=by
  have e:(dI m.V)[i]?=some ((Sum.inl m.V[i].1:Key),V.int m.V[i].2):=by unfold dI;rw[mC,kC hi];rfl
  rw[e]at hk;exact kL hk
 have sW:Same H3 (upd H3 W (.tup [.int m.V[i].1,.int m.V[i].2])):=Same.upd nW;have hW:(upd H3 W (.tup [.int m.V[i].1,.int m.V[i].2])) W=some (.tup [.int m.V[i].1,.int m.V[i].2]):=qI;show gTup _ _ _ _ _ (upd H3 W (.tup [.int m.V[i].1,.int m.V[i].2])) _;generalize upd H3 W (.tup [.int m.V[i].1,.int m.V[i].2])=H4 at sW hW ⊢;refine⟨W,_,rfl,SqT.of hW,rfl,_,_,rfl,_,_,rfl,rfl,?_⟩;refine⟨_,rfl,_,rfl,a.bk,_,a.dx,_,_,rfl,sW _ _ (k3 _ _ ob hb.o),T.bJ,T.fO,rfl,_,_,rfl,rfl,⟨by lia,by lia⟩,_,rfl,rfl,_,rfl,?_⟩;rw[zZ];have tk:m.V.take (i+1)=m.V.take i++[m.V[i]]:=(mD hi).symm;by_cases e:m.V[i].2 / (m.P:Int)=(b:Int)
 ·rw[hG e];refine iteT ?_;refine⟨_,rfl,_,rfl,sz2,λtp H5 n5 s5 h5=>?_⟩;have s35:=sW.trans s5;have hd5:=s35 _ _ hd;have lu:us.length≤64:=by
   have:=pr.len;have l2:(lpK m.P b (m.V.take i)).length≤(m.V.take i).length:=by unfold lpK;rw[h9];exact mH _ _
   rw[gH]at l2;lia
  refine⟨us,hd5,(by exact d5 (m:=64) (by lia) (by decide)),?_,λx u nx e'=>?_,us++[.ref tp],qI,?_⟩
  ·rw[qC Dw.symm];exact s35 _ _ fz3
  ·rw[qC (qH e' nDH)];exact s35 _ _ (k3 _ _ nx e')
  rw[tk,qBG,kF e];exact L2.Paired.snoc (Paired.mapP (uL pr s35) λx k z=>z.upd hd5 (λ_ q=>by cases q)) (TupD.upd ⟨tp,rfl,h5⟩ hd5 (λ_ q=>by cases q))
 rw[hU e];refine iteF ?_;refine⟨sW _ _ fz3,λx u nx e'=>sW _ _ (k3 _ _ nx e'),us,sW _ _ hd,?_⟩;rw[tk,qBG,hV e];exact uL pr sW
obtain⟨fz3,k3,us,hd,pr⟩:=hp
rw[q7A,mZ]at pr
refine⟨o,_,fz3,?_⟩
have sH:Same H (upd H3 a.wv (.dK (dI m.V))):=qFS hb.w k3
have hd4:(upd H3 a.wv (.dK (dI m.V))) D=some (.lst us):=by rw[qC Dw];exact hd
have pr4:Paired (TupD (upd H3 a.wv (.dK (dI m.V)))) us (lpK m.P b m.V):=Paired.mapP pr λx k z=>z.upd fz3 (λ_ q=>by cases q)
generalize upd H3 a.wv (.dK (dI m.V))=H4 at sH hd4 pr4 ⊢
have hl:(lpK m.P b m.V).length<64:=by unfold lpK;rw[h9];exact d5 (mH _ _) lV
have ul:=pr4.len
refine⟨D,us,lpK m.P b m.V,2,rfl,SqL.of hd4,q9F pr4,λk hk=>?_,by decide,by lia,λqs pp pw l H5 n5 s5 h5=>?_⟩
·unfold lpK at hk;obtain⟨x,_,rfl⟩:=kY.mp hk;rfl
refine q l _ _ H5 (sH.trans s5) (sH.free n5) h5 (qBZ (uL pr4 s5) λi hi=>mE.mp (pp.mem_iff.mp hi)) (qBY ul.symm pp) pw)
theorem qDC(xs:List V)(i:Nat):∀n p,(clr xs i n).getD p .non=if i≤p∧p<i+n then .non else xs.getD p .non
|0,p=>by rw[hV (by lia)];rfl
|n+1,p=>by
 show((clr xs i n).set (i+n) .non).getD p .non=_;rw[jJ,qDC xs i n p];by_cases e:i+n=p
 ·subst e;rw[kF (show i≤i+n∧i+n<i+(n+1) by lia),hV (show ¬(i≤i+n∧i+n<i+n) by lia)];by_cases z:i+n<(clr xs i n).length
  ·rw[kF ⟨rfl,z⟩]
  rw[hV (λy=>z y.2)];rw[q5Z]at z;rw[kI,gM (by lia)];rfl
 rw[hV (λy=>e y.1)];by_cases z:i≤p∧p<i+n
 ·rw[kF z,kF (by lia)]
 rw[hV z,hV (by lia)]
structure PgAt(H:Hp)(bs:List V)(pg:Nat→Option (Int×Int)):Prop where
n:∀i,pg i=none→bs.getD i .non=.non
v:∀i v,pg i=some v→∃tp,bs.getD i .non=.ref tp∧H tp=some (.tup [.int v.1,.int v.2])
theorem PgAt.keep{F:List Addr}{H H':Hp}{bs:List V}{pg:Nat→Option (Int×Int)}(h:PgAt H bs pg)(k:Keep F H H'):PgAt H' bs pg:=⟨h.n,λi v e=>by
 obtain⟨tp,e1,e2⟩:=h.v i v e;exact⟨tp,e1,k.tp _ _ e2⟩⟩
structure Cm(m:CM)(s:XS):Prop where
ft:Fit m s.q
br:m.br=noB s.q.B
li:∀b,valV m.lim (Sum.inl b)=none
mo:m.mo=1000000
cl:m.cl=s.cl
lf:m.lf=s.lf
rc:m.rc=s.rc
theorem Cm.gd{m:CM}{s:XS}(h:Cm m s):Gd m:=⟨λb=>by rw[h.br];exact rep8,h.li⟩
structure XR(t:Adr)(H:Hp)(x:Sto)(k:Tm)(sh sr:Int)(s:XS):Prop where
e:∃m:CM,StAt t H x (.int sh) (.int sr) (.int (k.ie:Int)) (.int k.sp) m s.q∧Cm m s∧PgAt H m.bo s.pg
w:WX k s
theorem Cm.pgs{m:CM}{s:XS}(h:Cm m s){b f:Nat}(hb:b<s.q.B)(hf:f<s.q.P):((b*s.q.P+f:Nat):Int)≤m.bl*m.pg-1∧b*s.q.P+f<m.bo.length:=by(
have nbo:=h.ft.ok.nbo
rw[h.ft.eB,h.ft.eP,←dE]at *
have:b*s.q.P+f<s.q.B*s.q.P:=(nE (by lia)).mp (by rw[yG hf];exact hb)
lia)
section
variable{H H':Hp}{x:Sto}{k:Tm}{sh sr:Int}{s:XS}
theorem XR.keep(j:XR t H x k sh sr s){F:List Addr}(kk:Keep F H H')(n:∀b∈[x.s,x.tm]++(x.a.li::sf x),b∉F)(tb:TbF t H'):XR t H' x k sh sr s:=by obtain⟨m,st,c,pg⟩:=j.e;exact⟨⟨m,st.keep kk n tb,c,pg.keep kk⟩,j.w⟩
theorem XR.kT(j:XR t H x k sh sr s)(kk:Keep [t.bD] H H')(tb:TbF t H'):XR t H' x k sh sr s:=by obtain⟨m,st,c,pg⟩:=j.e;exact⟨⟨m,st.kT kk tb,c,pg.keep kk⟩,j.w⟩
theorem XR.tb(j:XR t H x k sh sr s):TbF t H:=by obtain⟨m,st,c,pg⟩:=j.e;exact st.tb
theorem XR.same(j:XR t H x k sh sr s)(ss:Same H H'):XR t H' x k sh sr s:=by obtain⟨m,st,c,pg⟩:=j.e;exact⟨⟨m,st.same ss,c,pg.keep (F:=[]) (Keep.same ss)⟩,j.w⟩
theorem XR.o(j:XR t H x k sh sr s):H x.s=some (.ins t.C_Store x.sd [("chip",.ref x.c),("terms",.ref x.tm),("book",.ref x.k.bk),("rule",x.ru),("papers",x.pa)]):=by obtain⟨m,st,c,pg⟩:=j.e;exact st.o
theorem XR.inH(j:XR t H x k sh sr s):∀y∈t.bD::sf x,∃o,H y=some o:=λy hy=>by(
obtain⟨m,hs,_⟩:=j.e
rcases kJ.mp hy with e|e
·obtain⟨pt,hT,_⟩:=hs.tb;exact⟨_,by rw[e];exact hT⟩
unfold sf at e
rcases gT.mp e with e|e
·obtain⟨o,ho,_⟩:=hs.ch.has (kB _ e);exact⟨o,ho⟩
have e:y=x.k.bk∨y=x.k.wv∨y=x.k.lv∨y=x.k.fi∨y=x.k.bo:=by simpa[bf]using e
rcases e with rfl|rfl|rfl|rfl|rfl
·exact⟨_,hs.bk.o⟩
·exact⟨_,hs.bk.w⟩
·exact⟨_,hs.bk.l⟩
·exact⟨_,hs.bk.f⟩
exact⟨_,hs.bk.b⟩)
theorem XR.off(j:XR t H x k sh sr s){p:Addr}(n:H p=none):p∉t.bD::sf x:=λz=>by obtain⟨o,e⟩:=j.inH p z;rw[n]at e;cases e
theorem TbF.updL{H:Hp}{p:Addr}{xs:List V}{o:HO}(h:TbF t H)(e:H p=some (.lst xs)):TbF t (upd H p o):=by(
obtain⟨ps,hT,h⟩:=h
refine⟨ps,by rw[qC (jH hT e (by intro z;cases z))];exact hT,?_⟩
rcases h with h|⟨c,h,hc⟩
·exact .inl h
exact .inr ⟨c,h,by rw[qC (jH hc e (by intro z;cases z))];exact hc⟩)
theorem XR.lst(j:XR t H x k sh sr s){p:Addr}{xs:List V}{o:HO}(e:H p=some (.lst xs))(np:p∉t.bD::sf x):XR t (upd H p o) x k sh sr s:=by(
obtain⟨m,st,_⟩:=j.e
have k:=Keep.upd (F:=[p]) (o:=o) e (λ_ z=>by cases z) (by simp)
refine j.keep k (λy hy z=>?_) (TbF.updL st.tb e)
rw[hX.mp z]at hy
rcases gT.mp hy with hy|hy
·have hy:p=x.s∨p=x.tm:=by simpa using hy
 rcases hy with h|h
 ·rw[h,st.o]at e;cases e
 rw[h,st.te]at e;cases e
rcases kJ.mp hy with h|h
·rw[h,st.ch.li]at e;cases e
exact np (kB _ h))
theorem XR.set(j:XR t H x k sh sr s){n v:Int}(n0:0≤n)(n1:n≤64)(rc:s.rc.length<1000000)(hr:k.ie*s.q.P<s.rmX)(hl:(∃p,(n,p)∈s.q.V)∨s.q.V.length<59){Q:VK}{E:XK}
 (dk:s.lf=some 0→∀H',XR t H' x k sh sr s→Keep (t.bD::sf x) H H'→E (.ref t.C_PowerGone) none H')
 (kk:s.lf≠some 0→∀H',XR t H' x k sh sr (s.put n v)→Keep (t.bD::sf x) H H'→Q (.int (s.np:Int)) H'):qDB t [.ref x.s,.int n,.int v] H Q E:=by(
obtain⟨m,st,c,pg⟩:=j.e
obtain⟨hb,hf,ef,_,sp⟩:=j.w.spot (by lia)
obtain⟨hp1,hp2⟩:=c.pgs hb hf
refine⟨x,_,_,_,_,m,s.q,n,v,rfl,st,c.ft,c.gd,by rw[c.rc];exact rc,λl hfr=>⟨s.pb,s.pf,?_,ef,pg.n _ (j.w.cr _ _ hb (by lia) hf),λz H' k' st'=>dk (by rw[←c.lf];exact z) H' ⟨⟨m,st',c,pg.keep k'⟩,j.w⟩ k',λz tp H' htp k' st'=>?_⟩⟩
·rw[c.br]at hfr ⊢;rw[c.cl]at hfr;exact sp l hfr
have dk':s.lf≠some 0:=by rw[←c.lf];exact z
obtain⟨w',_⟩:=j.w.put (v:=v) hr n0 n1 hl dk'
have okd:(m.deed "put" ((s.pb*s.q.P+s.pf:Nat):Int) (((s.pb*s.q.P+s.pf:Nat):Int) / m.pg) false).Ok:=c.ft.ok.deed (by rw[c.rc];exact rc)
refine kk dk' H' ⟨⟨_,st',⟨⟨⟨okd.bl1,okd.bl2,okd.pg1,okd.pg2,?_,okd.ncl,okd.ndc,okd.nbr,okd.lim,okd.nrc⟩,w'.qs.ok,c.ft.eB,c.ft.eP⟩,c.br,c.li,c.mo,c.cl,?_,?_⟩,⟨λi e=>?_,λi w e=>?_⟩⟩,w'⟩ k'
·show((m.bo.set _ _).length:Int)=_;rw[gE];exact c.ft.ok.nbo
·show m.lf.map _=_;rw[c.lf];rfl
·show m.rc++[_]=_;rw[c.rc];rfl
·have e:(if i=s.np then some (s.q.nx*128+n,v)else s.pg i)=none:=e;show(m.bo.set (s.pb*s.q.P+s.pf) (.ref tp)).getD i .non=.non;by_cases z:i=s.np
 ·rw[kF z]at e;cases e
 rw[hV z]at e;rw[jJ,hV (λy=>z y.1.symm)];exact pg.n i e
have e:(if i=s.np then some (s.q.nx*128+n,v)else s.pg i)=some w:=e
show ∃tq,(m.bo.set (s.pb*s.q.P+s.pf) (.ref tp)).getD i .non=.ref tq∧_
by_cases z:i=s.np
·rw[kF z]at e;cases e;exact⟨tp,by rw[jJ,kF ⟨z.symm,hp2⟩],htp⟩
rw[hV z]at e
obtain⟨tq,e1,e2⟩:=pg.v i w e
exact⟨tq,by rw[jJ,hV (λy=>z y.1.symm)];exact e1,k'.tp _ _ e2⟩)
end
inductive spCo(t:Adr)(vs:List V)(H:Hp)(Q:VK)(E:XK):Prop
|mk:∀x k sh sr s,∀b:Nat,vs=[.ref x.s,.int (b:Int)]→XR t H x k sh sr s→b<s.q.B→s.q.fi.getD b 0=(s.q.P:Int)→s.rc.length<1000000→(∀y∈s.q.V,¬y.2 / (s.q.P:Int)=(b:Int))→(s.lf=some 0→E (.ref t.C_PowerGone) none H)→(s.lf≠some 0→∀H',XR t H' x k sh sr (s.wip b)→Keep (t.bD::sf x) H H'→Q .non H')→spCo t vs H Q E
theorem q3Y(T:Txt K mg t)(S:Fns K t):S.fU.OkE P w mg base 5 (spCo t):=by(
refine S.fU.F.okE q3T (λvs H Q E h=>?_) (λcdv A outer s H vs Q E hr h=>?_)
·repeat obtain⟨_,h⟩:=h
 all_goals subst_vars;rfl
obtain⟨x,k,sh,sr,s,b,rfl,j,hb,ef,rc,nl,dk,kk⟩:=h
obtain⟨m,hs,c,pg⟩:=j.e
have eB:=c.ft.eB
have clb:=(j.w.c0 b).2
refine⟨_,(qB (jB (yI jL (qJ (pv 0) rfl) T.bG T.aDC (q9U T S).mono hr S.aBH.b .nil (qA (pv 1) qE))) (qD (jB (j8 (qJ (pv 0) rfl) T.bJ T.aBX (q5U T S).mono hr S.oK.b .nil qK (qA (pv 1) qE))))),?_⟩
try dsimp-beta-proj-iota-zeta-eta only[wishK,cxK]
refine(iV rfl (iF hs.o T.bE T.b8 rfl (iM hs.ch.ins rfl ⟨_,rfl,x.c,x.a,m,_,rfl,hs.ch,c.ft.ok,by rw[c.rc];exact rc,c.gd,by lia,by rw[c.mo,c.cl];lia,λz=>dk (by rw[←c.lf];exact z),λz H1 hc1 k1=>?_⟩)))
have dk':s.lf≠some 0:=by rw[←c.lf];exact z
have hs1:=hs.put hc1 k1 rfl rfl
refine(iV rfl (iF hs1.o T.bE T.bI rfl (iM hs1.bk.o rfl ⟨_,rfl,x.k,s.q,b,rfl,hs1.bk,j.w.qs.ok,hs1.ds,hb,λH2 hb2 k2=>?_⟩)))
have k2':Keep (bf x.k) H1 H2:=k2.mono (by intro y hy;simp[bf]at hy ⊢;rcases hy with rfl|rfl<;>simp)
have kA:Keep (t.bD::sf x) H H2:=(k1.mono (λy hy=>by unfold sf;exact kB _ (gI _ hy))).trans (k2'.mono (λy hy=>by unfold sf;exact kB _ (kZ _ hy)))
have hs2:=hs1.note hb2 k2'
obtain⟨w',_⟩:=j.w.wip hb ef nl dk'
have okd:(m.deed "wipe" (b:Int) (b:Int) false).Ok:=c.ft.ok.deed (by rw[c.rc];exact rc)
have gbo:∀p,(wipC m b).bo.getD p .non=if p / s.q.P=b then .non else m.bo.getD p .non:=λp=>by
 show(clr m.bo ((b:Int)*m.pg).toNat m.pg.toNat).getD p .non=_;have p1:=j.w.qs.ok.p1;rw[c.ft.eP,←dE,mO,mO,qDC];have:(b*s.q.P≤p∧p<b*s.q.P+s.q.P)↔p / s.q.P=b:=by rw[Nat.div_eq_iff (by lia)];generalize b*s.q.P=z;lia
 by_cases z:p / s.q.P=b
 ·rw[kF z,kF (this.mpr z)]
 rw[hV z,hV (λy=>z (this.mp y))]
refine kk dk' H2 ⟨⟨_,hs2,⟨⟨⟨okd.bl1,okd.bl2,okd.pg1,okd.pg2,?_,?_,okd.ndc,okd.nbr,okd.lim,okd.nrc⟩,w'.qs.ok,c.ft.eB,c.ft.eP⟩,c.br,c.li,c.mo,?_,?_,?_⟩,⟨λi e=>?_,λi w e=>?_⟩⟩,w'⟩ kA
·show((clr m.bo _ _).length:Int)=_;rw[q5Z];exact c.ft.ok.nbo
·show((m.cl.set _ _).length:Int)=_;rw[gE];exact c.ft.ok.ncl
·show m.cl.set b (m.cl.getD b 0+1)=_;rw[c.cl];rfl
·show m.lf.map _=_;rw[c.lf];rfl
·show m.rc++[_]=_;rw[c.rc];rfl
·have e:(if i / s.q.P=b then none else s.pg i)=none:=e;rw[gbo];by_cases z:i / s.q.P=b
 ·rw[kF z]
 rw[hV z]at e ⊢;exact pg.n i e
have e:(if i / s.q.P=b then none else s.pg i)=some w:=e
rw[gbo]
by_cases z:i / s.q.P=b
·rw[kF z]at e;cases e
rw[hV z]at e ⊢
obtain⟨tq,e1,e2⟩:=pg.v i w e
exact⟨tq,e1,kA.tp _ _ e2⟩)
theorem q7F(T:Txt K mg t)(S:Fns K t):S.tO.OkE P w mg base 6 (λvs H Q E=>spCo t vs H (λv H'=>v=.non∧Q (.bl true) H') E):=by(
refine S.tO.F.okE q72 (λvs H Q E h=>?_) (λcdv A outer s H vs Q E hr h=>?_)
·repeat obtain⟨_,h⟩:=h
 all_goals subst_vars;rfl
obtain⟨x,k,sh,sr,s,b,rfl,j,hb,ef,rc,nl,dk,kk⟩:=h
refine⟨_,(qB (jB (yI jL (pv 0) T.bE T.aAC (q3Y T S).mono hr S.fU.b .nil (qA (pv 1) qE))) (qD (qL vJ))),?_⟩
try dsimp-beta-proj-iota-zeta-eta only[wishK,cxK]
exact(iV rfl (iM j.o rfl ⟨_,rfl,x,k,sh,sr,s,b,rfl,j,hb,ef,rc,nl,dk,λz H' j' k'=>(kk z H' j' k').2⟩)))
theorem qKW{s:XS}{ns:List Int}(h:HeldIs s.q ns):ns=s.hl:=by(
refine qCZ (h.pm.trans (wM _ _).symm) h.so ?_
have:=wZ (le:=λa b:Int=>decide (a≤b)) (λa b c h1 h2=>hG (c8 (mM h1) (mM h2))) (λa b=>by
 by_cases z:a≤b
 ·rw[hG z];rfl
 rw[hU z,hG (show b≤a by lia)];rfl) (hdN s.q.V)
exact this.imp λz=>mM z)
theorem hd64{k:Tm}{s:XS}(w:WX k s):(hdN s.q.V).length<64:=by(
unfold hdN
refine d5 (mH _ _) ?_
have:=w.l6
rw[h9]
lia)
theorem qLW{k:Tm}{s:XS}(w:WX k s):∀y∈s.hl,0≤y∧y<64:=λy hy=>by(
have hy:=wX.mp hy
obtain⟨a1,a2⟩:=mK.mp hy
obtain⟨y',hy',rfl⟩:=kY.mp a1
have:=w.qs.ok.nm y' hy'
have:=mM a2
lia)
theorem qLX{ns:List Int}(h:∀y∈ns,0≤y∧y<64):ns.map V.int=vN (ns.map Int.toNat)∧∀u∈ns.map Int.toNat,u<64:=by(
refine⟨?_,λu hu=>?_⟩
·unfold vN;rw[pB];refine dS λy hy=>?_;have:=h y hy;show V.int y=V.int ((y.toNat:Nat):Int);rw[show((y.toNat:Nat):Int)=y by lia]
obtain⟨y,hy,rfl⟩:=kY.mp hu
have:=h y hy
lia)
inductive spVm(t:Adr)(vs:List V)(H:Hp)(Q:VK)(E:XK):Prop
|mk:∀x k sh sr s,∀n p:Int,vs=[.ref x.s,.int p,.int n]→XR t H x k sh sr s→(n,p)∈s.q.V→(s.lf=some 0→E (.ref t.C_PowerGone) none H)→(∀H',Same H H'→Q (.int (s.val p n)) H')→spVm t vs H Q E
theorem q1K(T:Txt K mg t)(S:Fns K t):S.eQ.OkE P w mg base 6 (spVm t):=by(
refine S.eQ.F.okE q1I (λvs H Q E h=>?_) (λcdv A outer s H vs Q E hr h=>?_)
·repeat obtain⟨_,h⟩:=h
 all_goals subst_vars;rfl
obtain⟨x,k,sh,sr,s,n,p,rfl,j,hm,dk,kk⟩:=h
obtain⟨m,hs,c,pg⟩:=j.e
refine⟨_,(qB (j9 (qQ yO (pv 2) (zC rfl T.aEG ⟨_,rfl⟩ (v:=.int 64)) (qO _)) (qD (qL (qU (qCB T S).mono hr rfl T.aDT T.aD1 S.aDJ.b .nil qK (qA (qW (pv 0) T.bE T.aAO (q3F T S).mono hr S.oR.b .nil qK) qE)))) qR) (qD (qL (qV qZ (yI jL (qJ (pv 0) rfl) T.bG T.aDM (q9T T S).mono hr S.aBA.b .nil (qA (pv 1) qE)) qG (λ_ _=>rfl))))),?_⟩
try dsimp-beta-proj-iota-zeta-eta only[wishK,cxK]
refine⟨_,rfl,rfl,_,rfl,?_⟩
rw[zZ]
by_cases z:n=64
·rw[hG z];refine iteT ?_;refine(iV rfl (iM hs.o rfl ⟨x,_,_,_,_,m,s.q,rfl,hs,c.ft,hd64 j.w,λl ns H1 hn s1 n1 h1=>?_⟩));obtain rfl:=qKW hn;obtain⟨en,lt⟩:=qLX (qLW j.w);rw[en]at h1;refine⟨l,_,rfl,SqL.of h1,lt,?_⟩;have:=kk H1 s1;unfold XS.val at this;rw[kF z]at this;exact this
rw[hU z]
refine iteF ?_
obtain⟨b,f,v,a1,a2,a3,a4,a5⟩:=j.w.vl _ hm
have a3:p=_:=a3
obtain⟨tp,e1,e2⟩:=pg.v _ _ a5
have hp:=(c.pgs a1 a2).1
refine(iV rfl (iF hs.o T.bE T.b8 rfl (iM hs.ch.ins rfl ⟨_,rfl,x.c,x.a,m,_,rfl,hs.ch,c.ft.ok,by rw[a3];lia,by rw[a3];exact hp,λy=>dk (by rw[←c.lf];exact y),λ_=>?_⟩)))
have:=kk H (Same.refl H)
unfold XS.val at this
rw[hV z]at this
rw[a3,mO,e1]
rw[a3,mO,a5]at this
exact(iT (k:=1) (v:=_) (SqT.of e2) rfl this))
inductive spGa(f:Tl→Int)(vs:List V)(H:Hp)(Q:VK)(E_:XK):Prop
|mk:∀x a b p n A B,vs=[x,a,b,p,n]→TlAt H a A→TlAt H b B→Q (.bl (decide (f A<f B))) H→spGa f vs H Q E_
theorem vQ(T:Txt K mg t)(S:Fns K t):S.eF.Ok0 P w mg base 1 (spGa Tl.lv):=by(
refine S.eF.F.ok0 q2O λcdv A _ s H vs Q E hr h=>?_
obtain⟨x,a,b,p,n,A,B,rfl,⟨ad,rfl,ha⟩,⟨bd,rfl,hb⟩,q⟩:=h
refine⟨_,(qD (qL (jR q1L (qV qZ (pv 1) qG (λ_ _=>rfl)) (qV qZ (pv 2) qG (λ_ _=>rfl)) (qO _)))),?_⟩
try dsimp-beta-proj-iota-zeta-eta only[wishK,cxK]
exact⟨_,rfl,ad,_,1,_,rfl,rfl,SqT.of ha,rfl,_,rfl,bd,_,1,_,rfl,rfl,SqT.of hb,rfl,_,_,rfl,rfl,q⟩)
theorem q2S(T:Txt K mg t)(S:Fns K t):S.fF.Ok0 P w mg base 1 (spGa Tl.bo):=by(
refine S.fF.F.ok0 q2P λcdv A _ s H vs Q E hr h=>?_
obtain⟨x,a,b,p,n,A,B,rfl,⟨ad,rfl,ha⟩,⟨bd,rfl,hb⟩,q⟩:=h
refine⟨_,(qD (qL (jR q1L (qV qZ (pv 1) qG (λ_ _=>rfl)) (qV qZ (pv 2) qG (λ_ _=>rfl)) (qO _)))),?_⟩
try dsimp-beta-proj-iota-zeta-eta only[wishK,cxK]
exact⟨_,rfl,ad,_,3,_,rfl,rfl,SqT.of ha,rfl,_,rfl,bd,_,3,_,rfl,rfl,SqT.of hb,rfl,_,_,rfl,rfl,q⟩)
noncomputable def gain(pg nw:Int)(T:Tl):Int:=(pg-T.lv)*(nw-T.bo)
inductive spGaW(vs:List V)(H:Hp)(Q:VK)(E_:XK):Prop
|mk:∀x a b pg nw A B,vs=[x,a,b,.int pg,.int nw]→TlAt H a A→TlAt H b B→A.Ok pg nw→B.Ok pg nw→pg≤16→Q (.bl (decide (gain pg nw A*(pg+B.lv)>gain pg nw B*(pg+A.lv)))) H→spGaW vs H Q E_
theorem q37(T:Txt K mg t)(S:Fns K t):S.fL.Ok0 P w mg base 1 spGaW:=by(
refine S.fL.F.ok0 uE λcdv A _ s H vs Q E hr h=>?_
obtain⟨x,a,b,pg,nw,A,B,rfl,⟨ad,rfl,ha⟩,⟨bd,rfl,hb⟩,oa,ob,hp,q⟩:=h
have a0:=oa.l0
have a1:=oa.l1
have b0:=ob.l0
have b1:=ob.l1
refine⟨_,(qB (qS (i:=5) uE.nd rfl (Or.inl rfl) (qN yP (qN yH (pv 3) (qV qZ (pv 1) qG (λ_ _=>rfl))) (qN yH (pv 4) (qV qZ (pv 1) qG (λ_ _=>rfl))))) (qB (qS (i:=6) uE.nd rfl (Or.inl rfl) (qN yP (qN yH (pv 3) (qV qZ (pv 2) qG (λ_ _=>rfl))) (qN yH (pv 4) (qV qZ (pv 2) qG (λ_ _=>rfl))))) (qD (qL (jR qEB (qN yP (pv 5) (qN jV (pv 3) (qV qZ (pv 2) qG (λ_ _=>rfl)))) (qN yP (pv 6) (qN jV (pv 3) (qV qZ (pv 1) qG (λ_ _=>rfl)))) (qO _)))))),?_⟩
try dsimp-beta-proj-iota-zeta-eta only[wishK,cxK]
refine⟨_,rfl,_,rfl,ad,_,1,_,rfl,rfl,SqT.of ha,rfl,_,_,rfl,rfl,_,rfl,_,rfl,ad,_,3,_,rfl,rfl,SqT.of ha,rfl,_,_,rfl,rfl,_,_,rfl,rfl,.inl ⟨by lia,by lia⟩,?_⟩
refine⟨_,rfl,_,rfl,bd,_,1,_,rfl,rfl,SqT.of hb,rfl,_,_,rfl,rfl,_,rfl,_,rfl,bd,_,3,_,rfl,rfl,SqT.of hb,rfl,_,_,rfl,rfl,_,_,rfl,rfl,.inl ⟨by lia,by lia⟩,?_⟩
refine⟨_,rfl,_,rfl,_,rfl,bd,_,1,_,rfl,rfl,SqT.of hb,rfl,_,_,rfl,rfl,_,_,rfl,rfl,.inr ⟨by lia,by lia⟩,?_⟩
exact⟨_,rfl,_,rfl,_,rfl,ad,_,1,_,rfl,rfl,SqT.of ha,rfl,_,_,rfl,rfl,_,_,rfl,rfl,.inr ⟨by lia,by lia⟩,_,_,rfl,rfl,q⟩)
noncomputable def wgP(ns:List Int)(T:Tl):Nat→Int
|0=>0
|k+1=>wgP ns T k+T.ns.getD k 0*(1+jW ns (4+(k:Int))%1009)
noncomputable def wgt(ns:List Int)(T:Tl):Int:=wgP ns T 4%1013
inductive spWg(vs:List V)(H:Hp)(Q:VK)(E_:XK):Prop
|mk:∀v T a ns,vs=[v,.ref a]→TlAt H v T→SqL K H a (List.map V.int ns)→Q (.int (wgt ns T)) H→spWg vs H Q E_
theorem q0I(T:Txt K mg t)(S:Fns K t):S.iK.Ok0 P w mg base 2 spWg:=by(
refine S.iK.F.ok0 vG λcdv A _ s H vs Q E hr h=>?_
obtain⟨v,O,a,ns,rfl,⟨va,rfl,hv⟩,hS,q⟩:=h
refine⟨_,(qB (qS (i:=2) vG.nd rfl (Or.inl rfl) qG) (qB (zY dF rfl (q4Q rfl T.aA2 (qA qG qE)) (jA (i:=3) vG.nd rfl (Or.inl rfl)) (qD (qS (i:=2) vG.nd rfl (Or.inl rfl) (qN jV (pv 2) (qN yP (qV qZ (pv 0) (pv 3) (λ_ _=>rfl)) (qN jV qG (qN yX (qU (jN T S).mono hr rfl T.bU T.bT S.bW.b .nil qK (qA (pv 1) (qA (qN jV qG (pv 3)) qE))) qG))))))) (qD (qL (qN yX (pv 2) qG))))),?_⟩
try dsimp-beta-proj-iota-zeta-eta only[wishK,cxK]
refine⟨_,rfl,by decide,by decide,?_⟩
refine q4R (λu σ' H'=>∃y,σ'=[some (.ref va),some (.ref a),some (.int (wgP ns O u)),y]∧H'=H) ⟨_,rfl,rfl⟩ (λu σ' H3 hu' hp=>?_) (λσ' H3 hp=>?_)
·obtain⟨y,rfl,rfl⟩:=hp;have hu':u<4:=by simpa using hu'
 have m:=vS (jW ns (4+(0+(u:Int)))) 1009 (by decide);refine⟨_,rfl,_,rfl,_,rfl,iT (k:=_) (v:=.int (O.ns.getD u 0)) (SqT.of hv) ?_ ⟨_,rfl,_,rfl,iI ⟨a,ns,_,rfl,hS,by lia,_,_,rfl,rfl,(by show(0:Int)<1009;decide),iI (iI ⟨.inr ⟨by lia,by lia⟩,iI ?_⟩)⟩⟩⟩
 ·have:u=0∨u=1∨u=2∨u=3:=by lia
  rcases this with rfl|rfl|rfl|rfl<;>rfl
 rw[xJ];exact⟨_,rfl,rfl⟩
obtain⟨y,rfl,rfl⟩:=hp
exact⟨_,rfl,iI ⟨(by show(0:Int)<1013;decide),q⟩⟩)
noncomputable def lmEx:Expr:=match((jS jZ)[2]?:Option Stmt)with
|some (Stmt.If _ (Stmt.Return (some (Expr.Call _ (e::_) _ _)) _::_) _ _)=>e
|_=>Expr.Name "" ⟨0,0,0,0⟩
noncomputable abbrev lmA:Arguments:=match lmEx with
| .Lambda a _ _ _=>a
|_=>yE jZ
noncomputable abbrev lmB:Expr:=match lmEx with
| .Lambda _ b _ _=>b
|_=>lmEx
noncomputable abbrev lmSc:Scope:=match lmEx with
| .Lambda _ _ s _=>s
|_=>qF jZ
noncomputable abbrev lmP:Pos:=match lmEx with
| .Lambda _ _ _ p=>p
|_=>⟨0,0,0,0⟩
noncomputable abbrev lmQ:Str:=(PyProof.Rows.envOfC "_law_rule" (qF jZ) 0 0 .none).qual++"<lambda>"
noncomputable abbrev lmFd(pm ct:Value)(c ca:Addr):FuncData:=W.kla_fn "<lambda>" lmQ lmA lmB lmSc [("_law_script",ca)] pm (.ref c) ct
inductive spLam(g c a:Addr)(ns:List Int)(fd:FuncData)(vs:List V)(H:Hp)(Q:VK)(E_:XK):Prop
|mk:∀v O,vs=[v]→TlAt H v O→H g=some (fnO g fd)→H c=some (cdO c lmQ)→SqL K H a (List.map V.int ns)→Q (.int (wgt ns O)) H→spLam g c a ns fd vs H Q E_
theorem qI6(T:Txt K mg t)(S:Fns K t){g c ca a:Addr}{ns:List Int}{pm ct:Value}(hc:base.IsCell ca (some (.ref a))):FnOk P w K mg base CX0 3 g (lmFd pm ct c ca) ["_law_tally"] (spLam g c a ns (lmFd pm ct c ca)):=by(
refine qD1 (k:=2) (x0:="_law_tally") (fvs:=[.ref a]) (q8M (u:=.ref a) rfl rfl rfl (by decide+kernel) (by decide+kernel) (by decide+kernel) rfl hc) (λvs H Q E h=>?_) (λvs H Q E h=>?_) (λA outer s H v0 Q E hr h=>?_)
·repeat obtain⟨_,h⟩:=h
 all_goals subst_vars;rfl
·obtain⟨v,O,rfl,_,a,b,_⟩:=h;exact⟨a,b⟩
obtain⟨v,O,e,ha,_,_,hl,q⟩:=h
obtain rfl:v0=v:=by simpa using e
refine⟨_,(qU (q0I T S).mono hr rfl T.iS T.iZ S.iK.b .nil qK (qA (pv 0) (qA (pv 1) qE))),?_⟩
exact⟨_,rfl,_,rfl,v0,O,a,ns,rfl,ha,hl,q⟩)
theorem q7G{c ca:Addr}{pm ct:Value}:jQ K (lmFd pm ct c ca) ["_law_tally"] []:=jQ.all λus hl=>match us,hl with| [_],_=>rfl
noncomputable def LmZ(H:Hp)(g c ca a:Addr)(ns:List Int):Prop:=∃pm ct,H g=some (fnO g (lmFd pm ct c ca))∧H c=some (cdO c lmQ)∧H ca=some (clO ca (.ref a))∧SqL K H a (List.map V.int ns)∧g≠ca∧c≠ca
theorem qIT{H:Hp}{a:Addr}{xs:List V}(h:SqL K (λ_=>none) a xs):SqL K H a xs:=by(
rcases h with(h|⟨o,h⟩)|h
·cases h
·cases h
exact .inr h)
theorem LmZ.map{H H':Hp}{g c ca a b:Addr}{ns:List Int}(h:LmZ H g c ca a ns)(q:b=a∨SqL K (λ_=>none) a (List.map V.int ns))(k:∀y∈[g,c,ca,b],∀o,H y=some o→H' y=some o):LmZ H' g c ca a ns:=by(
obtain⟨pm,ct,h1,h2,h3,h4,h5⟩:=h
refine⟨pm,ct,k _ (by simp) _ h1,k _ (by simp) _ h2,k _ (by simp) _ h3,?_,h5⟩
rcases q with rfl|q
·rcases h4 with(h|⟨o,h⟩)|h
 ·exact .inl (.inl (k _ (by simp) _ h))
 ·exact .inl (.inr ⟨o,k _ (by simp) _ h⟩)
 exact .inr h
exact qIT q)
theorem qDD{H:Hp}{a:Addr}{o:HO}(h:H a=some o):upd (del H a) a o=H:=by(
funext b
by_cases e:b=a
·rw[e,qI,h]
rw[qC e,vR e])
inductive spGaE(t:Adr)(vs:List V)(H:Hp)(Q:VK)(E_:XK):Prop
|mk:∀x a b p n A B g c ca sa ns dx,vs=[.ref x,a,b,p,n]→H x=some (.ins t.C_Weighed dx [("weigh",.ref g)])→LmZ H g c ca sa ns→TlAt H a A→TlAt H b B→Q (.bl (decide (wgt ns A<wgt ns B))) H→spGaE t vs H Q E_
theorem q1T(T:Txt K mg t)(S:Fns K t):S.fA.Ok0 P w mg base 4 (spGaE t):=by(
refine S.fA.F.ok0 v6 λcdv A _ s H vs Q E hr h=>?_
obtain⟨x,a,b,p,n,A,B,g,c,ca,sa,ns,dx,rfl,hx,⟨pm,ct,hg,hc,hca,hS,n1,n2⟩,ha,hb,q⟩:=h
have lam:∀base u,RelV (.ref sa) u→base.IsCell ca (some u)→FnOk P w K mg base CX0 3 g (lmFd pm ct c ca) ["_law_tally"] (spLam g c sa ns (lmFd pm ct c ca)):=λbase u r h=>by cases r;exact qI6 T S h
have tlD:∀{v:V} {O:Tl},TlAt H v O→TlAt (del H ca) v O:=fun {v O} ⟨va,ev,hv⟩=>⟨va,ev,by rw[vR (λz=>by rw[z,hca]at hv;cases hv)];exact hv⟩
have hgD:del H ca g=some (fnO g (lmFd pm ct c ca)):=by rw[vR n1];exact hg
have hcD:del H ca c=some (cdO c lmQ):=by rw[vR n2];exact hc
have hSD:SqL K (del H ca) sa (List.map V.int ns):=by
 rcases hS with(h|⟨o,h⟩)|h
 ·exact .inl (.inl (by rw[vR (λz=>by rw[z,hca]at h;cases h)];exact h))
 ·exact .inl (.inr ⟨o,by rw[vR (λz=>by rw[z,hca]at h;cases h)];exact h⟩)
 exact .inr h
refine⟨_,(qB (qS (i:=5) v6.nd rfl (Or.inl rfl) (qJ (pv 0) rfl)) (qD (qL (jR q1L (q8R (kk:=3) (pv 5) hr (qA (pv 1) qE)) (q8R (kk:=3) (pv 5) hr (qA (pv 2) qE)) (qO _))))),?_⟩
try dsimp-beta-proj-iota-zeta-eta only[wishK,cxK]
refine⟨_,rfl,x,_,dx,_,_,rfl,hx,T.oS,T.i3,rfl,?_⟩
refine⟨_,rfl,g,_,rfl,_,rfl,hg,ca,_,hca,3,_,_,lam,by decide,q7G,a,A,rfl,tlD ha,hgD,hcD,hSD,λ_=>?_⟩
rw[qDD hca]
refine⟨_,rfl,g,_,rfl,_,rfl,hg,ca,_,hca,3,_,_,lam,by decide,q7G,b,B,rfl,tlD hb,hgD,hcD,hSD,λ_=>?_⟩
rw[qDD hca]
exact(iI q))
noncomputable def Mny(pg many:Int):Prop:=1≤pg∧0<many∧∀j:Int,0≤j→j≤pg→(pg+j) ∣ many
noncomputable def rkW(pg nw many:Int)(T:Tl):Int:=0-(pg-T.lv)*(nw-T.bo)*(many / (pg+T.lv))
theorem q7H{x y m:Int}(h:0<m):x*m<y*m↔x<y:=by(
constructor
·intro z;refine Int.not_le.mp λw=>?_;have:=cO w (wK h);lia
intro z
exact Int.mul_lt_mul_of_pos_right z h)
theorem q8W{pg nw many:Int}{A B:Tl}(m:Mny pg many)(oa:A.Ok pg nw)(ob:B.Ok pg nw):(gain pg nw A*(pg+B.lv)>gain pg nw B*(pg+A.lv))↔rkW pg nw many A<rkW pg nw many B:=by(
obtain⟨p1,m0,md⟩:=m
have a0:=oa.l0
have b0:=ob.l0
obtain⟨sa,ea⟩:=md A.lv oa.l0 oa.l1
obtain⟨sb,eb⟩:=md B.lv ob.l0 ob.l1
have da:many / (pg+A.lv)=sa:=by rw[ea];exact pV _ (by lia)
have db:many / (pg+B.lv)=sb:=by rw[eb];exact pV _ (by lia)
unfold rkW
rw[da,db]
show gain pg nw B*(pg+A.lv)<gain pg nw A*(pg+B.lv)↔0-gain pg nw A*sa<0-gain pg nw B*sb
have pa:0<pg+A.lv:=by lia
have pb:0<pg+B.lv:=by lia
have e:(0-gain pg nw A*sa<0-gain pg nw B*sb)↔gain pg nw B*sb<gain pg nw A*sa:=by lia
rw[e,←q7H (x:=gain pg nw B*(pg+A.lv)) m0,←q7H (x:=gain pg nw B*sb) (Int.mul_pos pa pb)]
have e1:gain pg nw B*(pg+A.lv)*many=gain pg nw B*sb*((pg+A.lv)*(pg+B.lv)):=by rw[eb];ac_rfl
have e2:gain pg nw A*(pg+B.lv)*many=gain pg nw A*sa*((pg+A.lv)*(pg+B.lv)):=by rw[ea];ac_rfl
rw[e1,e2])
noncomputable def RuAt(t:Adr)(H:Hp)(r:Addr)(pg nw:Int)(f:Tl→Int):Prop:=(∃dx,H r=some (.ins t.C_Fewest dx [])∧f=Tl.lv)∨(∃dx,H r=some (.ins t.C_Eldest dx [])∧f=Tl.bo)∨(∃dx many,H r=some (.ins t.C_Worth dx [])∧f=rkW pg nw many∧Mny pg many)∨(∃dx many,H r=some (.ins t.C_Window dx [("many",.int many)])∧f=Tl.lv)∨(∃dx g c ca a ns,H r=some (.ins t.C_Weighed dx [("weigh",.ref g)])∧LmZ H g c ca a ns∧f=wgt ns)
inductive spUn(t:Adr)(K:W.Frag)(vs:List V)(H:Hp)(Q:VK)(E_:XK):Prop
|mk:∀r v l pg nw T us ts f,vs=[.ref r,v,.ref l,.int pg,.int nw]→RuAt t H r pg nw f→TlAt H v T→SqL K H l us→Tls H us ts→T.Ok pg nw→(∀o∈ts,o.Ok pg nw)→pg≤16→Q (.bl (unb f ts T)) H→spUn t K vs H Q E_
theorem q7I(T:Txt K mg t)(S:Fns K t):S.tG.Ok0 P w mg base 5 (spUn t K):=by(
refine S.tG.F.ok0 q2N λcdv A _ s H vs Q E hr h=>?_
obtain⟨r,v,l,pg,nw,A,us,ts,f,rfl,hR,hv,hl,hts,oa,os,hpg,q⟩:=h
obtain⟨va,rfl,hva⟩:=id hv
have hlen:=hts.len
refine⟨_,(qB (zY dF rfl (yC (pv 2)) (jA (i:=5) q2N.nd rfl (Or.inl rfl)) (qD (j9 (PW.pt (q4O (qQ (qHB hr.units) (pv 5) (pv 1) (qO _)) (q2V (jG (qK3 (q11 (j8 (pv 0) T.aC0 T.tK (vQ T S).mono hr S.eF.b .nil qK (qA (pv 5) (qA (pv 1) (qA (pv 3) (qA (pv 4) qE))))) (q11 (j8 (pv 0) T.aCW T.tL (q2S T S).mono hr S.fF.b .nil qK (qA (pv 5) (qA (pv 1) (qA (pv 3) (qA (pv 4) qE))))) (q11 (j8 (pv 0) T.aDS T.t8 (q37 T S).mono hr S.fL.b .nil qK (qA (pv 5) (qA (pv 1) (qA (pv 3) (qA (pv 4) qE))))) (q11 (j8 (pv 0) T.tZ T.tR (vQ T S).mono hr S.eF.b .nil qK (qA (pv 5) (qA (pv 1) (qA (pv 3) (qA (pv 4) qE))))) (j8 (pv 0) T.oS T.oU (q1T T S).mono hr S.fA.b .nil qK (qA (pv 5) (qA (pv 1) (qA (pv 3) (qA (pv 4) qE)))))))))))))) (qD (qL vJ)) qR))) (qD (qL vJ))),?_⟩
try dsimp-beta-proj-iota-zeta-eta only[wishK,cxK]
refine⟨_,rfl,l,rfl,⟨us,hl⟩,?_⟩
refine q0J (K:=K) (xs:=us) (λi σ' H2=>∃y,σ'=[some (.ref r),some (.ref va),some (.ref l),some (.int pg),some (.int nw),y]∧H2=H∧∀j,∀hj:j<ts.length,j<i→¬f ts[j] <f A) ⟨_,rfl,rfl,λj _ z=>absurd z (aA _)⟩ (λi σ' H2 hi hp=>?_) (λi x σ' H2 hx hp=>?_) (λσ' H2 hp=>?_)
·obtain⟨y,rfl,rfl,_⟩:=hp;exact hl
·obtain⟨y,rfl,rfl,hm⟩:=hp;obtain⟨O,hO,ho⟩:=Paired.at hts hx;obtain⟨xa,rfl,hxa⟩:=id ho;have hi:i<ts.length:=(kD.mp hO).1;obtain rfl:ts[i]=O:=(kD.mp hO).2;have ok:(ts[i]).Ok pg nw:=os _ (gD hi);refine⟨_,rfl,_,rfl,xa,va,(ts[i]).ns,A.ns,rfl,rfl,SqT.of hxa,SqT.of hva,rfl,_,rfl,?_⟩;by_cases e:(ts[i]).ns=A.ns
 ·rw[hG e];refine iteF (iteF ⟨_,rfl,rfl,λj hj z=>?_⟩);by_cases ej:j=i
  ·subst ej;rw[Tl.eq_of e];exact a7 _
  exact hm j hj (by lia)
 rw[hU e];refine iteT ?_;refine⟨λv' H'=>v'=.bl (decide (f ts[i] <f A))∧H'=H2,?_,?_⟩
 ·rcases hR with⟨dx,hins,rfl⟩|⟨dx,hins,rfl⟩|⟨dx,many,hins,rfl,mm⟩|⟨dx,many,hins,rfl⟩|⟨dx,g,c,ca,a,ns,hins,hlm,rfl⟩
  ·exact .inl ⟨_,rfl,r,dx,_,rfl,hins,rfl,_,rfl,_,rfl,_,rfl,_,rfl,_,_,_,_,_,ts[i],A,rfl,ho,hv,rfl,rfl⟩
  ·exact .inr (.inl ⟨_,rfl,r,dx,_,rfl,hins,rfl,_,rfl,_,rfl,_,rfl,_,rfl,_,_,_,_,_,ts[i],A,rfl,ho,hv,rfl,rfl⟩)
  ·refine .inr (.inr (.inl ⟨_,rfl,r,dx,_,rfl,hins,rfl,_,rfl,_,rfl,_,rfl,_,rfl,_,_,_,pg,nw,ts[i],A,rfl,ho,hv,ok,oa,hpg,?_,rfl⟩));exact g5 V.bl (cN.mpr (q8W mm ok oa))
  ·exact .inr (.inr (.inr (.inl ⟨_,rfl,r,dx,_,rfl,hins,rfl,_,rfl,_,rfl,_,rfl,_,rfl,_,_,_,_,_,ts[i],A,rfl,ho,hv,rfl,rfl⟩)))
  exact .inr (.inr (.inr (.inr (⟨_,rfl,r,dx,_,rfl,hins,rfl,_,rfl,_,rfl,_,rfl,_,rfl,r,_,_,_,_,ts[i],A,g,c,ca,a,ns,dx,rfl,hins,hlm,ho,hv,rfl,rfl⟩))))
 rintro v' H' ⟨rfl,rfl⟩
 refine⟨_,rfl,?_⟩;by_cases g:f ts[i] <f A
 ·rw[hG g];refine iteT ?_;have z:unb f ts A=false:=by
   cases z:unb f ts A with
   |false=>rfl
   |true=>exact absurd (q60.mp z _ (gD hi)) (by lia)
  rw[z]at q;exact q
 rw[hU g];refine iteF ⟨_,rfl,rfl,λj hj z=>?_⟩;by_cases ej:j=i
 ·subst ej;exact g
 exact hm j hj (by lia)
obtain⟨y,rfl,rfl,hm⟩:=hp
have z:unb f ts A=true:=q60.mpr λo ho=>by obtain⟨j,hj,rfl⟩:=gX ho;have:=hm j hj (by lia);lia
rw[z]at q
exact q)
noncomputable def spFu(t:Adr)(K:W.Frag):Sp:=λvs H Q _=>∃r l pg nw us ts f,vs=[.ref r,.ref l,.int pg,.int nw]∧RuAt t H r pg nw f∧SqL K H l us∧Tls H us ts∧(∀o∈ts,o.Ok pg nw)∧pg≤16∧ts≠[]∧Q (.int (pk f ts)) H
theorem zX(T:Txt K mg t)(S:Fns K t):S.fH.Ok0 P w mg base 6 (spFu t K):=by(
refine S.fH.F.ok0 v3 λcdv A _ s H vs Q E hr h=>?_
obtain⟨r,l,pg,nw,us,ts,f,rfl,hR,hl,hts,os,hpg,hne,q⟩:=h
have hlen:=hts.len
obtain⟨i,hi,hu,hn⟩:=q6N f ts hne
have at':∀j,∀hj:j<ts.length,∃x,us[j]?=some x∧TlAt H x ts[j]:=λj hj=>by have e:us[j]?=some (us[j]'(by lia)):=kC (by lia);obtain⟨O,hO,ho⟩:=Paired.at hts e;obtain rfl:ts[j]=O:=(kD.mp hO).2;exact⟨_,e,ho⟩
refine⟨_,(qB (qS (i:=4) v3.nd rfl (Or.inl rfl) qG) (qB (qA9 dF (jU (jG (qU (q7I T S).mono hr rfl T.aBP T.aBU S.tG.b .nil qK (qA (pv 0) (qA (qV jE (pv 1) (pv 4) (λ_ _=>rfl)) (qA (pv 1) (qA (pv 2) (qA (pv 3) qE)))))))) (qD (qJ4 (i:=4) v3.nd rfl (Or.inl rfl) qG q67))) (qD (qL (qV qZ (qV jE (pv 1) (pv 4) (λ_ _=>rfl)) qG (λ_ _=>rfl)))))),?_⟩
try dsimp-beta-proj-iota-zeta-eta only[wishK,cxK]
refine⟨λm σ' H2=>H2=H∧∃p:Nat,σ'=[some (.ref r),some (.ref l),some (.int pg),some (.int nw),some (.int p)]∧p≤i∧m=i-p,⟨i,rfl,0,rfl,mL _,rfl⟩,?_⟩
rintro m σ' H2 ⟨rfl,p,rfl,hpi,rfl⟩
obtain⟨x,hx,tx⟩:=at' p (by lia)
refine⟨_,rfl,_,rfl,_,rfl,l,us,p,x,rfl,rfl,hl,yD hx,_,rfl,_,rfl,_,rfl,r,x,l,pg,nw,ts[p],us,ts,f,rfl,hR,tx,hl,hts,os _ (gD _),os,hpg,?_⟩
by_cases e:p=i
·subst e;rw[hu];refine⟨_,rfl,iteF ?_⟩;obtain⟨xa,rfl,hxa⟩:=tx;refine⟨_,rfl,_,rfl,l,us,p,_,rfl,rfl,hl,yD hx,xa,_,0,_,rfl,rfl,SqT.of hxa,rfl,?_⟩;rw[qIN hi hu hn]at q;exact q
rw[hn p (by lia)]
refine⟨_,rfl,iteT ⟨_,λ_ _ z=>z,?_⟩⟩
exact⟨_,rfl,_,_,rfl,rfl,i-(p+1),by lia,rfl,p+1,rfl,by lia,rfl⟩)
theorem v4(T:Txt K mg t)(S:Fns K t):S.fG.Ok0 P w mg base 7 (spFu t K):=by(
refine S.fG.F.ok0 q74 λcdv A _ s H vs Q E hr h=>?_
obtain⟨r,l,pg,nw,us,ts,f,rfl,z⟩:=h
refine⟨_,(qD (qL (qU (zX T S).mono hr rfl T.iN T.iJ S.fH.b .nil qK (qA (pv 0) (qA (pv 1) (qA (pv 2) (qA (pv 3) qE))))))),?_⟩
try dsimp-beta-proj-iota-zeta-eta only[wishK,cxK]
exact⟨_,rfl,_,rfl,_,rfl,_,rfl,r,l,pg,nw,us,ts,f,rfl,z⟩)
inductive spAge(vs:List V)(H:Hp)(Q:VK)(E_:XK):Prop
|mk:∀v T,vs=[v]→TlAt H v T→NewO H (.tup [.int T.bo,.int T.b]) Q→spAge vs H Q E_
theorem qE6(T:Txt K mg t)(S:Fns K t):S.aD7.Ok0 P w mg base 1 spAge:=by(
refine S.aD7.F.ok0 qE3 λcdv A _ s H vs Q E hr h=>?_
obtain⟨v,A,rfl,⟨va,rfl,hv⟩,q⟩:=h
refine⟨_,(qD (qL (uK (qA (qV qZ (pv 0) qG (λ_ _=>rfl)) (qA (qV qZ (pv 0) qG (λ_ _=>rfl)) qE))))),?_⟩
try dsimp-beta-proj-iota-zeta-eta only[wishK,cxK]
exact⟨_,rfl,va,_,3,_,rfl,rfl,SqT.of hv,rfl,_,rfl,va,_,0,_,rfl,rfl,SqT.of hv,rfl,sz2,q⟩)
inductive spWi(t:Adr)(vs:List V)(H:Hp)(Q:VK)(E:XK):Prop
|mk:∀x dx,∀m:Int,vs=[.ref x,.int m]→H x=some (.ins t.C_Window dx [])→1≤m→m≤16→Q .non (upd H x (.ins t.C_Window dx [("many",.int m)]))→spWi t vs H Q E
theorem q7J(T:Txt K mg t)(S:Fns K t):S.tM.Ok0 P w mg base 3 (spWi t):=by(
refine S.tM.F.ok0 q75 λcdv A _ s H vs Q E hr h=>?_
obtain⟨x,dx,m,rfl,hx,m1,m2,q⟩:=h
refine⟨_,(qB (j9 (jU (jG (qU (jF T S).mono hr rfl T.bN T.bO S.bY.b .nil qK (qA (pv 1) (qA qG (qA qG qE)))))) (qD jC) qR) (qD (jD (pv 0) (pv 1) rfl))),?_⟩
try dsimp-beta-proj-iota-zeta-eta only[wishK,cxK]
refine⟨_,rfl,.int m,_,_,rfl,.int m,_,rfl,?_⟩
rw[inBi m1 m2]
exact iteF ⟨_,rfl,_,rfl,x,_,dx,_,rfl,hx,T.tZ,T.tD,by simp,q⟩)
inductive spWc(t:Adr)(K:W.Frag)(vs:List V)(H:Hp)(Q:VK)(E_:XK):Prop
|mk:∀(r dx:Addr) (m:Int) (l:Addr) (us:List V) (ts:List Tl) (pg nw:Int),vs=[.ref r,.ref l,.int pg,.int nw]→H r=some (.ins t.C_Window dx [("many",.int m)])→1≤m→SqL K H l us→Tls H us ts→(∀o∈ts,Tl.Ok pg nw o)→ts≠[]→ts.length≤16→pg≤16→(∀A C H',Same H H'→List.Perm A ts→List.Pairwise agR A→List.Perm C (A.take m.toNat)→List.Pairwise (λx y=>lx (Tl.ns y) (Tl.ns x)=false) C→Q (.int (pk Tl.lv C)) H')→spWc t K vs H Q E_
theorem q59(T:Txt K mg t)(S:Fns K t):S.iU.Ok0 P w mg base 7 (spWc t K):=by(
refine S.iU.F.ok0 q0O λcdv A _ s H vs Q E hr h=>?_
obtain⟨r,dx,m,l,us,ts,pg,nw,rfl,hr1,m1,hl,hts,os,hne,hln,hpg,q⟩:=h
have hlen:=hts.len
refine⟨_,(qB (qS (i:=4) q0O.nd rfl (Or.inl rfl) (q6F q92 (qBW (k:=4) (qE6 T S).mono hr S.aD7.b (by rfl) T.oQ rfl T.aD4 (qA (pv 1) qE)) q8Y (q8Z (qJ (pv 0) rfl)))) (qD (qL (qU (zX T S).mono hr rfl T.iN T.iJ S.fH.b .nil qK (qA (pv 0) (qA (qX q12 (by rfl) T.oQ (by kernel_rfl) (qA (pv 4) qE)) (qA (pv 2) (qA (pv 3) qE)))))))),?_⟩
try dsimp-beta-proj-iota-zeta-eta only[wishK,cxK]
refine⟨_,rfl,l,us,λi zs H'=>Same H H'∧Paired (λz (o:Tl)=>∃a,z=.ref a∧H' a=some (.tup [.int o.bo,.int o.b])) zs (ts.take i),rfl,hl,by lia,⟨Same.refl H,.nil⟩,λi x zs H' hx hp=>?_,λzs H' lz hp=>?_⟩
·obtain⟨sm,pr⟩:=hp;obtain⟨O,hO,ho⟩:=Paired.at hts hx;have hi:i<ts.length:=(kD.mp hO).1;obtain rfl:ts[i]=O:=(kD.mp hO).2;refine⟨x,ts[i],rfl,ho.same sm,λp H2 np s2 h2=>⟨sm.trans s2,?_⟩⟩;rw[←mD hi];exact L2.Paired.snoc (Paired.mapP pr λ_ _ ⟨a,e,z⟩=>⟨a,e,s2 _ _ z⟩) ⟨p,rfl,h2⟩
obtain⟨sm,pr⟩:=hp
rw[hlen,mZ]at pr
refine⟨ts.map λo=>[o.bo,o.b],2,?_,λk hk=>?_,by decide,λq1 p1 w1=>?_⟩
·refine q2Y (by rw[h9];exact pr.len) λj z k hz hk=>?_;obtain⟨o,ho,a,e,ha⟩:=Paired.at pr hz;rw[mC,ho]at hk;obtain rfl:=kL hk;exact⟨a,e,SqT.of ha⟩
·obtain⟨o,_,rfl⟩:=kY.mp hk;rfl
have hin:∀i∈q1,i<us.length:=λi hi=>mE.mp (p1.mem_iff.mp hi)
have hin':∀i∈q1,i<ts.length:=λi hi=>by rw[←hlen];exact hin i hi
rw[hlen]at p1
have AP:=q4W p1
rw[q49 (λo=>[o.bo,o.b]) hin',gF]at w1
intro sl H2 n2 s2 h2
have at2:Tls H2 (q1.map λi=>us.getD i .non) (pick q1 ts):=zV (hts.same (sm.trans s2)) hin
generalize q1.map (λi=>us.getD i V.non)=us2 at h2 at2 ⊢
generalize pick q1 ts=A at AP w1 at2 ⊢
have r2:=s2 _ _ (sm _ _ hr1)
refine⟨_,rfl,r,_,dx,_,_,rfl,r2,T.tZ,T.tD,rfl,_,rfl,sl,us2,rfl,SqL.of h2,λse ne=>?_⟩
rw[qFE (by lia)]
have s3:Same H2 (upd H2 se (.lst (us2.take m.toNat))):=Same.upd ne
have h3:(upd H2 se (.lst (us2.take m.toNat))) se=some (.lst (us2.take m.toNat)):=qI
generalize upd H2 se (.lst (us2.take m.toNat))=H3 at s3 h3 ⊢
have at3:Tls H3 (us2.take m.toNat) (A.take m.toNat):=Paired.takeP _ (at2.same s3)
have tl3:(us2.take m.toNat).length≤16:=by
 have e1:=at3.len;have e2:(A.take m.toNat).length≤16:=by rw[gH,AP.length_eq];lia
 lia
refine⟨_,rfl,_,rfl,se,us2.take m.toNat,(A.take m.toNat).map Tl.ns,4,rfl,SqL.of h3,?_,λk hk=>?_,by decide,by lia,λq2 p2 w2=>?_⟩
·refine q2Y (by rw[h9];exact at3.len) λj z k hz hk=>?_;obtain⟨o,ho,a,e,ha⟩:=Paired.at at3 hz;rw[mC,ho]at hk;obtain rfl:=kL hk;exact⟨a,e,SqT.of ha⟩
·obtain⟨o,_,rfl⟩:=kY.mp hk;rfl
have jn:∀i∈q2,i<(us2.take m.toNat).length:=λi hi=>mE.mp (p2.mem_iff.mp hi)
have jn':∀i∈q2,i<(A.take m.toNat).length:=λi hi=>by rw[←at3.len];exact jn i hi
rw[at3.len]at p2
have CP:=q4W p2
rw[q49 Tl.ns jn',gF]at w2
intro cl H4 n4 s4 h4
have at4:Tls H4 (q2.map λi=>(us2.take m.toNat).getD i .non) (pick q2 (A.take m.toNat)):=zV (at3.same s4) jn
have r4:=s4 _ _ (s3 _ _ r2)
have tk:A.take m.toNat≠[]:=by intro z;have:=g5 List.length z;rw[gH,cW,AP.length_eq]at this;have:=wO.mpr hne;lia
refine⟨_,rfl,_,rfl,r,cl,pg,nw,_,pick q2 (A.take m.toNat),Tl.lv,rfl,.inr (.inr (.inr (.inl ⟨dx,m,r4,rfl⟩))),SqL.of h4,at4,λo ho=>os o (AP.mem_iff.mp (wH (CP.mem_iff.mp ho))),hpg,λz=>tk ?_,?_⟩
·rw[z]at CP;exact pT.mp CP
exact q A _ H4 (sm.trans (s2.trans (s3.trans s4))) AP w1 CP w2)
structure FoAt(t:Adr)(H:Hp)(r dx rl:Addr)(row:List Int)(u:Nat):Prop where
ins:H r=some (.ins t.C_Follow dx [("row",.ref rl),("used",.int u)])
row:H rl=some (.lst (row.map V.int))
inductive spFoI(K:W.Frag)(t:Adr)(vs:List V)(H:Hp)(Q:VK)(E_:XK):Prop
|mk:∀x dx l row,vs=[.ref x,.ref l]→H x=some (.ins t.C_Follow dx [])→H l=some (.lst (row.map V.int))→(∀rl H',FoAt t H' x dx rl row 0→H rl=none→(∀b o,b≠x→H b=some o→H' b=some o)→Q .non H')→spFoI K t vs H Q E_
theorem q7K(T:Txt K mg t)(S:Fns K t):S.tI.Ok0 P w mg base 1 (spFoI K t):=by(
refine S.tI.F.ok0 q76 λcdv A _ s H vs Q E hr h=>?_
obtain⟨x,dx,l,row,rfl,hx,hl,q⟩:=h
refine⟨_,(qB (jD (pv 0) (zI uI (by rfl) T.aB2 (by kernel_rfl) (qA (pv 1) qE)) rfl) (qD (jD (pv 0) qG rfl))),?_⟩
try dsimp-beta-proj-iota-zeta-eta only[wishK,cxK]
refine⟨_,rfl,l,_,rfl,.inl (SqL.of hl),λrl H1 n1 s1 h1=>?_⟩
refine⟨_,rfl,x,_,dx,_,rfl,s1 _ _ hx,T.fK,T.iW,by simp,?_⟩
refine⟨_,rfl,x,_,dx,_,rfl,qI,T.fK,T.fI,by show 1<1000;decide,?_⟩
rw[q0T]
have ne:rl≠x:=jH h1 (s1 _ _ hx) (by intro z;cases z)
refine q rl _ ⟨qI,?_⟩ n1 (λb o nb e=>?_)
·rw[qC ne];exact h1
rw[qC nb]
exact s1 _ _ e)
inductive spFc(K:W.Frag)(t:Adr)(vs:List V)(H:Hp)(Q:VK)(E_:XK):Prop
|mk:∀r dx rl row u l us ts pg nw,vs=[.ref r,.ref l,pg,nw]→FoAt t H r dx rl row u→u≤row.length→row.length≤100→SqL K H l us→Tls H us ts→ts≠[]→ts.length≤16→(∀H',FoAt t H' r dx rl row (min (u+1) row.length)→Keep [r] H H'→Q (.int (fo row u ts)) H')→spFc K t vs H Q E_
theorem q5A(T:Txt K mg t)(S:Fns K t):S.iY.Ok0 P w mg base 1 (spFc K t):=by(
refine S.iY.F.ok0 vC λcdv A _ s H vs Q E hr h=>?_
obtain⟨r,dx,rl,row,u,l,us,ts,pg,nw,rfl,hf,hu',hrl,hl,hts,hne,hln,q⟩:=h
refine⟨_,(qB (q47 (i:=4) ["tally"] [] rfl (yC (pv 1)) (λ_ _ _ _ _=>(jA (i:=0) (show List.Nodup (["tally"]:List Str)from by decide) rfl (Or.inl rfl))) (λ_ _ _ _ _=>q44) (λ_ _ _ _ _=>(qV (zF (K:=K) rfl) (pv 0) qG (λ_ _=>rfl))) (by kernel_rfl) (yJ (by decide)) vC.nd rfl (Or.inl rfl)) (qB (j9 (qQ yO (qJ (pv 0) rfl) (qX qY (by rfl) T.oI gC (qA (qJ (pv 0) rfl) qE)) (qO _)) (qD (qL (qV jE (pv 4) qG (λ_ _=>rfl)))) qR) (qB (qS (i:=5) vC.nd rfl (Or.inl rfl) (qV jE (qJ (pv 0) rfl) (qJ (pv 0) rfl) (λ_ _=>rfl))) (qB (q4T (pv 0) qG qEH) (qD (qL (qA8 (qQ q8F (pv 5) (pv 4) rfl) (pv 5) (qV jE (pv 4) qG (λ_ _=>rfl))))))))),?_⟩
try dsimp-beta-proj-iota-zeta-eta only[wishK,cxK]
have hlen:=hts.len
have h0:0<ts.length:=wO.mpr hne
refine⟨_,rfl,l,rfl,⟨us,hl⟩,λD H2 nD s2 hD=>?_⟩
refine qAT (K:=K) (xs:=us) (D:=D) (k:=0) (λi H3=>Same H H3∧H3 D=some (.lst (((ts.take i).map Tl.b).map V.int))) ⟨s2,hD⟩ (λi H3 hp=>hp.1.seq hl) (λi x H3 hx hp=>?_) (λH3 hp=>?_)
·obtain⟨sm,hd⟩:=hp;obtain⟨O,hO,ho⟩:=Paired.at hts hx;have hi:i<ts.length:=(kD.mp hO).1;obtain rfl:ts[i]=O:=(kD.mp hO).2;obtain⟨xa,rfl,hxa⟩:=ho;refine⟨_,rfl,iT (k:=0) (v:=_) (SqT.of (sm _ _ hxa)) rfl ?_⟩;refine⟨_,hd,?_,λb o e=>?_,?_⟩
 ·rw[h9,h9,gH];have:(16:Nat)<sizeLine:=by decide
  lia
 ·rw[qC (qH e nD)];exact sm _ _ e
 rw[qI,←mD hi,mR,mR];rfl
obtain⟨sm,hd⟩:=hp
rw[hlen,mZ]at hd
have ins3:=sm _ _ hf.ins
have row3:=sm _ _ hf.row
have a0:atI ((ts.map Tl.b).map V.int) 0=some (.int ((ts.map Tl.b).headD 0)):=by
 cases ts with
 |nil=>exact absurd rfl hne
 |cons A r=>exact yD (j:=0) rfl
refine(iV rfl (iF ins3 T.fK T.fI rfl (iV rfl (iF ins3 T.fK T.iW rfl ⟨rl,_,rfl,.inl (SqL.of row3),rfl,_,rfl,?_⟩))))
rw[zZ,h9]
by_cases e:u=row.length
·rw[hG (by lia)];refine iteT ?_;refine⟨_,rfl,iL (k:=0) (v:=_) (SqL.of hd) a0 ?_⟩;have z:=q H3 ⟨by rw[ins3,e,xQ (by lia)],row3⟩ (Keep.same sm);have ef:fo row u ts=(ts.map Tl.b).headD 0:=by unfold fo;rw[gM (by lia)]
 rw[ef]at z;exact z
rw[hU (by lia)]
refine iteF ?_
have hu2:u<row.length:=by lia
have er:row[u]?=some row[u]:=kC hu2
refine(iV rfl (iF ins3 T.fK T.iW rfl (iV rfl (iF ins3 T.fK T.fI rfl (iL (k:=u) (v:=.int row[u]) (SqL.of row3) (yD (by rw[mC,er];rfl)) ?_)))))
refine⟨_,rfl,r,_,dx,_,_,rfl,ins3,T.fK,T.fI,rfl,_,_,rfl,rfl,dx,_,ins3,by show 2<1000;decide,?_⟩
have nD2:D≠r:=jH hd ins3 (by intro z;cases z)
have nR:rl≠r:=jH row3 ins3 (by intro z;cases z)
have kk:Keep [r] H3 (upd H3 r (.ins t.C_Follow dx [("row",.ref rl),("used",.int ((u:Int)+1))])):=Keep.upd ins3 (λ_ z=>by cases z) (by simp)
have f4:FoAt t (upd H3 r (.ins t.C_Follow dx [("row",.ref rl),("used",.int ((u:Int)+1))])) r dx rl row (min (u+1) row.length):=⟨by rw[qI,aH (by lia)];rfl,by rw[qC nR];exact row3⟩
have hd4:(upd H3 r (.ins t.C_Follow dx [("row",.ref rl),("used",.int ((u:Int)+1))])) D=some (.lst ((ts.map Tl.b).map V.int)):=by rw[qC nD2];exact hd
have ee:putF "used" (.int ((u:Int)+1)) ([("row",.ref rl),("used",.int (u:Int))]:List (Str×V))=([("row",.ref rl),("used",.int ((u:Int)+1))]:List (Str×V)):=rfl
rw[ee]
generalize upd H3 r (.ins t.C_Follow dx [("row",.ref rl),("used",.int ((u:Int)+1))])=H4 at kk f4 hd4 ⊢
have z:=q H4 f4 ((Keep.same sm).trans kk)
refine⟨_,rfl,_,rfl,D,_,rfl,.inl (SqL.of hd4),rfl,?_,_,rfl,?_⟩
·rw[gW];intro x hx;obtain⟨n,_,rfl⟩:=kY.mp hx;rfl
rw[hV kM,q64]
by_cases g:row[u]∈ts.map Tl.b
·rw[hG g];refine iteT ⟨_,rfl,?_⟩;have ef:fo row u ts=row[u]:=by unfold fo;rw[er];exact kF g
 rw[ef]at z;exact z
rw[hU g]
refine iteF ⟨_,rfl,iL (k:=0) (v:=_) (SqL.of hd4) a0 ?_⟩
have ef:fo row u ts=(ts.map Tl.b).headD 0:=by unfold fo;rw[er];exact hV g
rw[ef]at z
exact z)
theorem qDE{H:Hp}{m:CM}{q:QM}:∀{rs:List V} {L:List Nat},Tys H m q rs L→Tls H rs (L.map (tlOf m q))
|_,_,.nil=>.nil
|_,_,.cons ⟨p,e,h⟩ r=>.cons ⟨p,e,h⟩ (qDE r)
noncomputable def mnC:Int:=144403552893600
theorem qGN{pg:Int}(p1:1≤pg)(p2:pg≤16):Mny pg mnC:=by(
refine⟨p1,by decide,λj j0 j1=>?_⟩
have key:∀n:Nat,n<33→0<n→n ∣ 144403552893600:=by decide+kernel
have:=key (pg+j).toNat (by lia) (by lia)
rw[show pg+j=(((pg+j).toNat:Nat):Int) by lia]
exact Int.natCast_dvd_natCast.mpr this)
noncomputable def RuX(t:Adr)(H:Hp)(r:Addr)(rl:List Addr):Rl→Prop
| .rk f=>(∃dx,H r=some (.ins t.C_Fewest dx [])∧f=λ_ _=>Tl.lv)∨(∃dx,H r=some (.ins t.C_Eldest dx [])∧f=λ_ _=>Tl.bo)∨(∃dx,H r=some (.ins t.C_Worth dx [])∧f=λpg nw=>rkW pg nw mnC)∨(∃dx g c ca a b ns,rl=[g,c,ca,b]∧H r=some (.ins t.C_Weighed dx [("weigh",.ref g)])∧LmZ H g c ca a ns∧(b=a∨SqL K (λ_=>none) a (List.map V.int ns))∧f=λ_ _=>wgt ns)
| .win m=>1≤m∧∃dx,H r=some (.ins t.C_Window dx [("many",.int m)])
| .fol row u=>∃dx l,rl=[l]∧FoAt t H r dx l row u∧u≤row.length∧row.length≤100
theorem RuX.ok{H:Hp}{r:Addr}{rl:List Addr}{g:Rl}(h:RuX t H r rl g):g.Ok:=by(
cases g with
|rk f=>trivial
|win m=>exact h.1
|fol row u=>trivial)
theorem RuX.map{H H':Hp}{r:Addr}{rl:List Addr}{g:Rl}(h:RuX t H r rl g)(h1:∀y∈r::rl,∀o,H y=some o→H' y=some o):RuX t H' r rl g:=by(
have h2:=h1
have h1:=h1 r kQ
cases g with
|rk f=>
 rcases h with⟨dx,a,b⟩|⟨dx,a,b⟩|⟨dx,a,b⟩|⟨dx,g,c,ca,sa,sb,ns,rfl,a,l,q,b⟩
 ·exact .inl ⟨dx,h1 _ a,b⟩
 ·exact .inr (.inl ⟨dx,h1 _ a,b⟩)
 ·exact .inr (.inr (.inl ⟨dx,h1 _ a,b⟩))
 exact .inr (.inr (.inr (⟨dx,g,c,ca,sa,sb,ns,rfl,h2 r kQ _ a,l.map q λy hy=>h2 y (kB _ hy),q,b⟩)))
|win m=>obtain⟨m1,dx,a⟩:=h;exact⟨m1,dx,h1 _ a⟩
|fol row u=>obtain⟨dx,l,rfl,f,b⟩:=h;exact⟨dx,l,rfl,⟨h2 r (by simp) _ f.ins,h2 l (by simp) _ f.row⟩,b⟩)
theorem RuX.keep{H H':Hp}{r:Addr}{rl:List Addr}{F:List Addr}{g:Rl}(h:RuX t H r rl g)(k:Keep F H H')(n:∀y∈r::rl,y∉F):RuX t H' r rl g:=h.map λy hy o e=>k.k _ _ (n y hy) e
theorem RuX.ins{H:Hp}{r:Addr}{rl:List Addr}{g:Rl}(h:RuX t H r rl g):∃C d fs,H r=some (.ins C d fs):=by(
cases g with
|rk f=>
 rcases h with⟨dx,a,b⟩|⟨dx,a,b⟩|⟨dx,a,b⟩|⟨dx,g,c,ca,sa,sb,ns,rfl,a,l,q,b⟩
 ·exact⟨_,_,_,a⟩
 ·exact⟨_,_,_,a⟩
 ·exact⟨_,_,_,a⟩
 exact⟨_,_,_,a⟩
|win m=>obtain⟨m1,dx,a⟩:=h;exact⟨_,_,_,a⟩
|fol row u=>obtain⟨dx,l,rfl,f,b⟩:=h;exact⟨_,_,_,f.ins⟩)
inductive spCr(t:Adr)(K:W.Frag)(vs:List V)(H:Hp)(Q:VK)(E_:XK):Prop
|mk:∀x r2 r3 r4 r5 m q r rl g op rs ts,vs=[.ref x.s,.ref op]→StAt t H x r2 r3 r4 r5 m q→Fit m q→x.ru=.ref r→RuX t H r rl g→H op=some (.lst rs)→Tls H rs ts→ts≠[]→ts.length≤16→(∀o∈ts,o.Ok (q.P:Int) q.nx)→(∀a∈ts,∀c∈ts,a.b=c.b→a=c)→(∀p H',Keep [r] H H'→RuX t H' r rl (g.ch (q.P:Int) q.nx ts).2→H' p=some (.tup [.str "rule",.int (g.ch (q.P:Int) q.nx ts).1])→Q (.ref p) H')→spCr t K vs H Q E_
theorem q0S(T:Txt K mg t)(S:Fns K t):S.eJ.Ok0 P w mg base 8 (spCr t K):=by(
refine S.eJ.F.ok0 q0N λcdv A _ s H vs Q E hr h=>?_
obtain⟨x,r2,r3,r4,r5,m,q,r,rl,g,op,rs,ts,rfl,hs,ft,er,hR,hop,tl,ne,l16,ok,unl,k⟩:=h
have eP:=ft.eP
have p1:=ft.oq.p1
have p2:=ft.oq.p2
have te:=hs.te
rw[eP]at te
refine⟨_,(qD (qL (uK (qA q1V (qA (q11 (j8 (qJ (pv 0) rfl) T.aC0 T.aBG (v4 T S).mono hr S.fG.b .nil qK (qA (pv 1) (qA (qJ (qJ (pv 0) rfl) rfl) (qA (qJ (qJ (pv 0) rfl) rfl) qE)))) (q11 (j8 (qJ (pv 0) rfl) T.aCW T.aBF (v4 T S).mono hr S.fG.b .nil qK (qA (pv 1) (qA (qJ (qJ (pv 0) rfl) rfl) (qA (qJ (qJ (pv 0) rfl) rfl) qE)))) (q11 (j8 (qJ (pv 0) rfl) T.aDS T.aBO (v4 T S).mono hr S.fG.b .nil qK (qA (pv 1) (qA (qJ (qJ (pv 0) rfl) rfl) (qA (qJ (qJ (pv 0) rfl) rfl) qE)))) (q11 (j8 (qJ (pv 0) rfl) T.tZ T.aA0 (q59 T S).mono hr S.iU.b .nil qK (qA (pv 1) (qA (qJ (qJ (pv 0) rfl) rfl) (qA (qJ (qJ (pv 0) rfl) rfl) qE)))) (q11 (j8 (qJ (pv 0) rfl) T.oS T.aAV (v4 T S).mono hr S.fG.b .nil qK (qA (pv 1) (qA (qJ (qJ (pv 0) rfl) rfl) (qA (qJ (qJ (pv 0) rfl) rfl) qE)))) (j8 (qJ (pv 0) rfl) T.fK T.aBC (q5A T S).mono hr S.iY.b .nil qK (qA (pv 1) (qA (qJ (qJ (pv 0) rfl) rfl) (qA (qJ (qJ (pv 0) rfl) rfl) qE))))))))) qE))))),?_⟩
try dsimp-beta-proj-iota-zeta-eta only[wishK,cxK]
cases g with
|rk f=>
 have sz2:2≤sizeLine:=by decide
 rcases id hR with⟨dx,hins,rfl⟩|⟨dx,hins,rfl⟩|⟨dx,hins,rfl⟩|⟨dx,gg,c,ca,sa,sb,ns,rfl,hins,hlm,hq,rfl⟩
 ·exact .inl (iV rfl (iF hs.o T.bE T.bS rfl ⟨r,dx,_,er,hins,rfl,_,rfl,iV rfl (iF hs.o T.bE T.bH rfl (iF te T.bM T.bK rfl (iV rfl (iF hs.o T.bE T.bI rfl (iF hs.bk.o T.bJ T.bQ rfl ⟨r,op,_,_,rs,ts,_,(by rw[er];rfl),.inl ⟨dx,hins,rfl⟩,SqL.of hop,tl,ok,by lia,ne,sz2,λp H2 n2 s2 e2=>k p H2 (Keep.same s2) (hR.keep (Keep.same s2) (F:=[]) (by simp)) e2⟩)))))⟩))
 ·exact .inr (.inl (iV rfl (iF hs.o T.bE T.bS rfl ⟨r,dx,_,er,hins,rfl,_,rfl,iV rfl (iF hs.o T.bE T.bH rfl (iF te T.bM T.bK rfl (iV rfl (iF hs.o T.bE T.bI rfl (iF hs.bk.o T.bJ T.bQ rfl ⟨r,op,_,_,rs,ts,_,(by rw[er];rfl),.inr (.inl ⟨dx,hins,rfl⟩),SqL.of hop,tl,ok,by lia,ne,sz2,λp H2 n2 s2 e2=>k p H2 (Keep.same s2) (hR.keep (Keep.same s2) (F:=[]) (by simp)) e2⟩)))))⟩)))
 ·exact .inr (.inr (.inl (iV rfl (iF hs.o T.bE T.bS rfl ⟨r,dx,_,er,hins,rfl,_,rfl,iV rfl (iF hs.o T.bE T.bH rfl (iF te T.bM T.bK rfl (iV rfl (iF hs.o T.bE T.bI rfl (iF hs.bk.o T.bJ T.bQ rfl ⟨r,op,_,_,rs,ts,_,(by rw[er];rfl),.inr (.inr (.inl ⟨dx,_,hins,rfl,qGN (by lia) (by lia)⟩)),SqL.of hop,tl,ok,by lia,ne,sz2,λp H2 n2 s2 e2=>k p H2 (Keep.same s2) (hR.keep (Keep.same s2) (F:=[]) (by simp)) e2⟩)))))⟩))))
 exact .inr (.inr (.inr (.inr (.inl (iV rfl (iF hs.o T.bE T.bS rfl ⟨r,dx,_,er,hins,rfl,_,rfl,iV rfl (iF hs.o T.bE T.bH rfl (iF te T.bM T.bK rfl (iV rfl (iF hs.o T.bE T.bI rfl (iF hs.bk.o T.bJ T.bQ rfl ⟨r,op,_,_,rs,ts,_,(by rw[er];rfl),.inr (.inr (.inr (.inr (⟨dx,gg,c,ca,sa,ns,hins,hlm,rfl⟩)))),SqL.of hop,tl,ok,by lia,ne,sz2,λp H2 n2 s2 e2=>k p H2 (Keep.same s2) (hR.keep (Keep.same s2) (F:=[]) (by simp)) e2⟩)))))⟩))))))
|win m5=>obtain⟨m1,dx,hins⟩:=id hR;exact .inr (.inr (.inr (.inl (iV rfl (iF hs.o T.bE T.bS rfl ⟨r,dx,_,er,hins,rfl,_,rfl,iV rfl (iF hs.o T.bE T.bH rfl (iF te T.bM T.bK rfl (iV rfl (iF hs.o T.bE T.bI rfl (iF hs.bk.o T.bJ T.bQ rfl ⟨r,dx,m5,op,rs,ts,_,_,(by rw[er];rfl),hins,m1,SqL.of hop,tl,ok,ne,l16,by lia,λA C H1 s1 AP w1 CP w2=>⟨sz2,λp H2 n2 s2 e2=>k p H2 (Keep.same (s1.trans s2)) (hR.keep (Keep.same (s1.trans s2)) (F:=[]) (by simp)) (by rw[qB2 unl AP w1 CP w2]at e2;exact e2)⟩⟩)))))⟩)))))
|fol row u=>obtain⟨dx,l,rfl,hf,hu,hw⟩:=id hR;exact .inr (.inr (.inr (.inr (.inr ((iV rfl (iF hs.o T.bE T.bS rfl ⟨r,dx,_,er,hf.ins,rfl,_,rfl,iV rfl (iF hs.o T.bE T.bH rfl (iF te T.bM T.bK rfl (iV rfl (iF hs.o T.bE T.bI rfl (iF hs.bk.o T.bJ T.bQ rfl ⟨r,dx,l,row,u,op,rs,ts,_,_,(by rw[er];rfl),hf,hu,hw,SqL.of hop,tl,ne,l16,λH' f' k'=>⟨sz2,λp H2 n2 s2 e2=>k p H2 (k'.trans (Keep.same s2)) ⟨dx,l,rfl,⟨s2 _ _ f'.ins,s2 _ _ f'.row⟩,xT _ _,hw⟩ e2⟩⟩)))))⟩))))))))
section
variable{H H':Hp}{x:Sto}{k:Tm}{sh sr:Int}{s:XS}{r:Addr}{rl:List Addr}{g:Rl}
theorem TbF.keepR(h:TbF t H){C d:Addr}{fs:List (Str×V)}(e:H r=some (.ins C d fs))(k:Keep [r] H H'):TbF t H':=by(
obtain⟨ps,hT,h⟩:=h
have ne:∀{b:Addr} {o:HO},H b=some o→(∀C d fs,o≠ .ins C d fs)→H' b=some o:=fun {b o} hb n=>k.k _ _ (λz=>by rw[hX.mp z,e]at hb;exact n _ _ _ (kL hb).symm) hb
refine⟨ps,ne hT (λ_ _ _ z=>by cases z),?_⟩
rcases h with h|⟨c,h,hc⟩
·exact .inl h
exact .inr ⟨c,h,ne hc (λ_ _ _ z=>by cases z)⟩)
noncomputable def Off(t:Adr)(x:Sto)(R:List Addr):Prop:=∀y∈[x.s,x.tm]++(x.a.li::t.bD::sf x),y∉R
theorem Off.n{R:List Addr}(o:Off t x R){y:Addr}(hy:y∈R):y∉t.bD::sf x:=λz=>o y (by simp at z ⊢;rcases z with z|z<;>simp[z]) hy
theorem XR.kR(j:XR t H x k sh sr s)(o:Off t x (r::rl))(kk:Keep [r] H H')(hR:RuX t H r rl g):XR t H' x k sh sr s:=by(
obtain⟨C,d,fs,e⟩:=hR.ins
refine j.keep kk (λy hy z=>o y ?_ (by rw[hX.mp z];exact kQ)) (j.tb.keepR e kk)
have hy:y=x.s∨y=x.tm∨y=x.a.li∨y∈sf x:=by simpa using hy
rcases hy with h|h|h|h<;>simp[h])
theorem XR.opts(j:XR t H x k sh sr s)(ev:k.ev=false){Q:VK}{E:XK}(kk:∀p rs H',H p=none→XR t H' x k sh sr s→Keep [t.bD] H H'→H' p=some (.lst rs)→Tls H' rs (s.ots k)→Q (.ref p) H'):spOp t [.ref x.s] H Q E:=by(
obtain⟨m,hs,c,_⟩:=j.e
refine⟨x,_,_,_,m,s.q,_,rfl,hs,c.ft,λl p rs H' hl np k1 tb1 h1 ty=>kk p rs H' np (j.kT k1 tb1) k1 h1 ?_⟩
have ty:=qDE ty
rw[c.br,c.cl]at hl
rw[qG6 j.w c.br hl,qLP c.cl]at ty
unfold XS.ots XS.opt
rw[ev]
exact ty)
theorem v5{H H':Hp}{F:List Addr}(k:Keep F H H'):∀{rs:List V} {ts:List Tl},Tls H rs ts→Tls H' rs ts
|_,_,.nil=>.nil
|_,_,.cons ⟨p,e,h⟩ r=>.cons ⟨p,e,k.tp _ _ h⟩ (v5 k r)
end
inductive spCh(t:Adr)(vs:List V)(H:Hp)(Q:VK)(E:XK):Prop
|mk:∀x k sh sr s r rl g,vs=[.ref x.s]→XR t H x k sh sr s→k.ev=false→x.ru=.ref r→RuX t H r rl g→Off t x (r::rl)→s.rc.length<1000000→(match s.tk k g with
|none=>∀H',XR t H' x k sh sr s→Keep [t.bD] H H'→E (.ref t.C_NoRoom) none H'
|some (y,b,g')=>∀p H',Keep [t.bD,r] H H'→XR t H' x k sh sr s→RuX t H' r rl g'→H' p=some (.tup [.str y,.int (b:Int)])→Q (.ref p) H')→spCh t vs H Q E
theorem q1S(T:Txt K mg t)(S:Fns K t)(B:BmIn base mg):S.f7.OkE P w mg base 13 (spCh t):=by(
refine S.f7.F.okE q1O (λvs H Q E h=>?_) (λcdv A outer s H vs Q E hr h=>?_)
·repeat obtain⟨_,h⟩:=h
 all_goals subst_vars;rfl
obtain⟨x,k,sh,sr,s,r,rl,g,rfl,j,ev,er,hR,of,rc,kk⟩:=h
refine⟨_,(qB (qS (i:=1) q1O.nd rfl (Or.inl rfl) (qW (pv 0) T.bE T.eE (yN T S B).mono hr S.bZ.b .nil qK)) (qB (j9 (qQ (q97 hr.units) (pv 1) (yA qE) (qO _)) (qD (qAL jL rfl rfl T.aC6 T.aEN (qA q1V qE))) qR) (qD (qL (j8 (pv 0) T.bE T.i5 (q0S T S).mono hr S.eJ.b .nil qK (qA (pv 1) qE)))))),?_⟩
try dsimp-beta-proj-iota-zeta-eta only[wishK,cxK]
refine(iV rfl (iM j.o rfl ?_))
dsimp only[tNil,dC]
refine j.opts ev λp rs H1 np j1 k1 h1 ty=>?_
refine⟨_,rfl,sz0,λe6 H6 n6 s6 h6=>⟨p,_,e6,rfl,rfl,SqL.of (s6 _ _ h1),SqL.of h6,_,rfl,?_⟩⟩
have k6:Keep [t.bD] H H6:=k1.trans (Keep.same s6)
have j6:=j1.same s6
have ln:=ty.len
unfold XS.tk at kk
cases rs with
|nil=>have e0:s.opt k=[]:=dU.mp (g4 ln.symm);rw[kF e0,ev,hV (by decide)]at kk;exact iteT ⟨sz1,kk H6 j6 k6⟩
|cons u us=>
 have ne:s.opt k≠[]:=λz=>by unfold XS.ots at ln;rw[z]at ln;cases ln
 rw[hV ne]at kk;refine iteF ?_;obtain⟨m,hs6,c,_⟩:=j6.e;have oT:=of t.bD (by simp);have hR6:=hR.keep k6 (λy hy z=>oT (by rw[←hX.mp z];exact hy));have ne':s.ots k≠[]:=λz=>ne (dU.mp z);have okT:∀o∈s.ots k,o.Ok (s.q.P:Int) s.q.nx:=λo ho=>by obtain⟨b,hb,rfl⟩:=kY.mp ho;exact qIR j.w rc (uT.mp hb).1.1.b
 refine(iV rfl (iM hs6.o rfl ⟨_,rfl,x,_,_,_,_,m,s.q,r,rl,g,p,_,_,rfl,hs6,c.ft,er,hR6,s6 _ _ h1,ty.same s6,ne',by unfold XS.ots;rw[h9];exact qG8 j.w,okT,qHU,λpp H7 k7 hR7 h7=>?_⟩));have cm:=qG9 (pg:=(s.q.P:Int)) (nw:=s.q.nx) hR.ok ne';refine kk pp H7 ((k6.mono (by simp)).trans (k7.mono (by simp))) (j6.kR of k7 hR6) hR7 ?_;rw[h7];obtain⟨b,hb,e⟩:=kY.mp cm;obtain⟨c',_,rfl⟩:=kY.mp hb;have e:(c':Int)=(g.ch (s.q.P:Int) s.q.nx (s.ots k)).1:=e;rw[←e,mO])
inductive spPp(K:W.Frag)(vs:List V)(H:Hp)(Q:VK)(E_:XK):Prop
|mk:∀wy bl wi l1 l2 rs us,vs=[wy,.ref l1,bl,.ref l2,wi]→H l1=some (.lst rs)→H l2=some (.lst us)→(∀pa a1 a2 H',Same H H'→H pa=none→H a1=none→H a2=none→H' pa=some (.tup [wy,.ref a1,bl,.ref a2,wi])→H' a1=some (.lst rs)→H' a2=some (.lst us)→Q (.ref pa) H')→spPp K vs H Q E_
theorem q5K(T:Txt K mg t)(S:Fns K t):S.aAZ.Ok0 P w mg base 1 (spPp K):=by(
refine S.aAZ.F.ok0 qB8 λcdv A _ s H vs Q E hr h=>?_
obtain⟨wy,bl,wi,l1,l2,rs,us,rfl,h1,h2,k⟩:=h
refine⟨_,(qD (qL (uK (qA (pv 0) (qA (zI uI (by rfl) T.aB2 (by kernel_rfl) (qA (pv 1) qE)) (qA (pv 2) (qA (zI uI (by rfl) T.aB2 (by kernel_rfl) (qA (pv 3) qE)) (qA (pv 4) qE)))))))),?_⟩
try dsimp-beta-proj-iota-zeta-eta only[wishK,cxK]
refine⟨_,rfl,_,rfl,l1,rs,rfl,.inl (SqL.of h1),λa1 H1 n1 s1 e1=>?_⟩
refine⟨_,rfl,_,rfl,l2,us,rfl,.inl (SqL.of (s1 _ _ h2)),λa2 H2 n2 s2 e2=>?_⟩
refine⟨_,rfl,sz5,λpa H3 n3 s3 e3=>?_⟩
exact k pa a1 a2 H3 ((s1.trans s2).trans s3) ((s1.trans s2).free n3) n1 (s1.free n2) e3 (s3 _ _ (s2 _ _ e1)) (s3 _ _ e2))
theorem qI7{s:XS}{k:Tm}{b:Nat}{rs:List (List Int)}(w:WX k s)(pm:rs.Perm (lpK s.q.P b s.q.V))(so:rs.Pairwise λa b=>lx b a=false):rs=lvP s.q.P b s.q.V:=by(
refine qHT w.qs.ok.p1 w.pd ?_ (λkk=>?_) so
·refine pm.nodup_iff.mpr ?_;unfold lpK;refine gF.mpr (((gF.mp w.qs.ok.nd).imp fun {a c} hne z=>hne ?_).filter _);injection z with _ z
 injection z with z _
rw[pm.mem_iff]
unfold lpK
rw[kY]
constructor
·rintro⟨y,hy,rfl⟩
 obtain⟨a1,a2⟩:=mK.mp hy;exact⟨y.1,y.2,rfl,a1,mM a2⟩
rintro⟨n,p,rfl,a1,a2⟩
exact⟨(n,p),mK.mpr ⟨a1,hG a2⟩,rfl⟩)
inductive spMv(t:Adr)(vs:List V)(H:Hp)(Q:VK)(E:XK):Prop
|mk:∀x k sh sr s,∀b:Nat,vs=[.ref x.s,.int (b:Int)]→XR t H x k sh sr s→Full k s b→s.rc.length+100<1000000→(match XS.mvs (lvP s.q.P b s.q.V) s with
|(s',none)=>∀H',XR t H' x k sh sr s'→Keep (t.bD::sf x) H H'→E (.ref t.C_PowerGone) none H'
|(s',some ms)=>∀ml us H',XR t H' x k sh sr s'→H ml=none→H' ml=some (.lst us)→Paired (TupD H') us ms→Mvd k s b s' (lvP s.q.P b s.q.V).length→(∀y∈s'.q.V,¬y.2 / (s'.q.P:Int)=(b:Int))→Keep (t.bD::sf x) H H'→Q (.ref ml) H')→spMv t vs H Q E
theorem q7L(T:Txt K mg t)(S:Fns K t)(B:BmIn base mg):S.tU.OkE P w mg base 12 (spMv t):=by(
refine S.tU.F.okE v1 (λvs H Q E h=>?_) (λcdv A outer s H vs Q E hr h=>?_)
·repeat obtain⟨_,h⟩:=h
 all_goals subst_vars;rfl
obtain⟨x,k,sh,sr,s,b,rfl,j,fl,rc,kk⟩:=h
have s9:(99999:Nat)<sizeLine:=by decide
have spR:=fl.sp j.w
have l6:=j.w.l6
refine⟨_,(qB (qS (i:=2) v1.nd rfl (Or.inl rfl) (yA qE)) (qB (zY pR rfl (yC (j8 (qJ (pv 0) rfl) T.bJ T.aAI (q3X T S).mono hr S.fT.b .nil qK (qA (pv 1) qE))) (qBM rfl (uG (jA (i:=3) v1.nd rfl (Or.inl rfl)) (uG (jA (i:=4) v1.nd rfl (Or.inl rfl)) q5W))) (qD (jB (qEP cA wS wT q2W (pv 2) (qA (uK (qA (pv 4) (qA (pv 3) (qA (yI jL (pv 0) T.bE T.aBE (q4L T S B).mono hr S.tY.b .nil (qA (pv 4) (qA (yI jL (pv 0) T.bE T.i7 (q1K T S).mono hr S.eQ.b .nil (qA (pv 3) (qA (pv 4) qE))) qE))) qE)))) qE q6I))))) (qD (qL (pv 2))))),?_⟩
try dsimp-beta-proj-iota-zeta-eta only[wishK,cxK]
refine⟨sz0,λml H1 n1 s1 h1=>?_⟩
obtain⟨m,hs1,c,_⟩:=(j.same s1).e
refine(iV rfl (iF hs1.o T.bE T.bI rfl (iM hs1.bk.o rfl ⟨_,rfl,x.k,s.q,b,rfl,hs1.bk,j.w.qs.ok,by lia,λll ps rs H2 s2 n2 h2 pr2 pm so=>?_⟩)))
obtain rfl:=qI7 j.w pm so
have s02:=s1.trans s2
have mlF:=j.off n1
have llF:=(j.same s1).off n2
have llm:ll≠ml:=(qH h1 n2).symm
have lps:=pr2.len
have lr:(lvP s.q.P b s.q.V).length≤16:=by have:=j.w.qs.ok.p2;unfold lvP;refine k8 (dP _ _) ?_;rw[mQ];exact this
refine⟨ll,rfl,⟨_,SqL.of h2⟩,?_⟩
refine q0J (K:=K) (xs:=ps) (λi σ' H'=>∃y3 y4 us s' ms,σ'=[some (.ref x.s),some (.int (b:Int)),some (.ref ml),y3,y4]∧XR t H' x k sh sr s'∧MvI k s b (lvP s.q.P b s.q.V) i s' ms∧H' ml=some (.lst us)∧Paired (TupD H') us ms∧Keep (ml::t.bD::sf x) H2 H') ⟨_,_,[],s,[],rfl,j.same s02,MvI.zero j.w fl.f,s2 _ _ h1,.nil,Keep.refl⟩ (λi σ' H' hi hp=>?_) (λi v σ' H' hv hp=>?_) (λσ' H' hp=>?_)
·obtain⟨y3,y4,us,s',ms,rfl,j',mi,hml,pr,kk'⟩:=hp;refine SqL.of (kk'.k _ _ (λz=>?_) h2);rcases kJ.mp z with e|e
 ·exact llm e
 exact llF e
·obtain⟨y3,y4,us,s',ms,rfl,j',mi,hml,pr,kk'⟩:=hp;obtain⟨kv,hk,tp,rfl,htp⟩:=Paired.at pr2 hv;obtain⟨hi,ekv⟩:=kD.mp hk;obtain⟨n,p,er,hnp,n0,n64⟩:=mi.at hi;rw[er]at ekv;subst ekv;have htp':=kk'.tp _ _ htp;have rce:=mi.rc;have rme:=mi.rm;have kH:∀{G},Keep (t.bD::sf x) H' G→Keep (t.bD::sf x) H G:=fun {G} kG=>by
  refine⟨λy o ny e=>kG.k y o ny (kk'.k y o (λz=>?_) (s02 _ _ e)),λy ys e=>kG.tp _ _ (kk'.tp _ _ (s02 _ _ e))⟩;rcases kJ.mp z with z|z
  ·rw[z,n1]at e;cases e
  exact ny z
 refine⟨tp,_,rfl,SqT.of htp',rfl,_,_,rfl,_,_,rfl,rfl,?_⟩;refine⟨_,rfl,.inl ⟨rfl,_,SqL.of hml⟩,_,rfl,_,rfl,iV rfl (iM j'.o rfl ⟨_,rfl,iV rfl (iM j'.o rfl ⟨_,rfl,_,rfl,x,k,sh,sr,s',n,p,rfl,j',hnp,λdk=>?_,λH3 s3=>?_⟩)⟩)⟩
 ·rw[mi.dark hi dk]at kk;exact kk H' j' (kH Keep.refl)
 dsimp only[tNil,sG,dC,dB];have hml3:=s3 _ _ hml;refine(j'.same s3).set n0 n64 (by lia) (by rw[mi.eP];lia) (.inl ⟨p,hnp⟩) (λdk H5 j5 k5=>?_) (λdk H5 j5 k5=>?_)
 ·rw[mi.dark hi dk]at kk;exact kk H5 j5 (kH ((Keep.same s3).trans k5))
 have hml5:=k5.k _ _ mlF hml3;refine⟨sz3,λtu H6 n6 s6 h6=>⟨ml,us,_,rfl,rfl,s6 _ _ hml5,by have:=pr.len;have:=mi.l;lia,?_⟩⟩;have hml6:=s6 _ _ hml5;have k7:=Keep.upd (F:=[ml]) (o:=.lst (us++[.ref tu])) hml6 (λ_ z=>by cases z) (by simp);have hml7:(upd H6 ml (.lst (us++[.ref tu]))) ml=_:=qI;have j7:=(j5.same s6).lst (o:=.lst (us++[.ref tu])) hml6 mlF;generalize upd H6 ml (.lst (us++[.ref tu]))=H7 at k7 hml7 j7 ⊢;have kA:Keep (ml::t.bD::sf x) H' H7:=(((Keep.same s3).trans (k5.mono (λy hy=>kB _ hy))).trans (Keep.same s6)).trans (k7.mono (by simp));exact⟨some (.int p),some (.int n),us++[.ref tu],_,_,rfl,j7,mi.step q6W hi spR dk er,hml7,L2.Paired.snoc (Paired.mapP pr λv d ⟨p',e',h'⟩=>⟨p',e',kA.tp _ _ h'⟩) ⟨tu,rfl,k7.tp _ _ h6⟩,kk'.trans kA⟩
obtain⟨y3,y4,us,s',ms,rfl,j',mi,hml,pr,kk'⟩:=hp
rw[lps]at mi
obtain⟨e,nl⟩:=mi.fin rfl
rw[e]at kk
have kH:Keep (t.bD::sf x) H H':=by
 refine⟨λy o ny e=>kk'.k y o (λz=>?_) (s02 _ _ e),λy ys e=>kk'.tp _ _ (s02 _ _ e)⟩;rcases kJ.mp z with z|z
 ·rw[z,n1]at e;cases e
 exact ny z
exact⟨_,rfl,kk ml us H' j' n1 hml pr (mi.mvd (kN _)) nl kH⟩)
noncomputable abbrev fx(t:Adr)(x:Sto)(r pp:Addr):List Addr:=pp::r::t.bD::sf x
noncomputable def PapA(H:Hp)(F:List Addr)(v:V)(p:Pa):Prop:=∃pa l1 l2 us rs,v=.ref pa∧H pa=some (.tup [.str p.why,.ref l1,.int (p.b:Int),.ref l2,.bl true])∧H l1=some (.lst rs)∧Tls H rs p.ts∧H l2=some (.lst us)∧Paired (TupD H) us p.mv∧l1∉F∧l2∉F
theorem PapA.keep{H H':Hp}{F G:List Addr}{v:V}{p:Pa}(h:PapA H F v p)(k:Keep G H H')(s:∀y∈G,y∈F):PapA H' F v p:=by obtain⟨pa,l1,l2,us,rs,e,a,b,c,d,f,g1,g2⟩:=h;exact⟨pa,l1,l2,us,rs,e,k.tp _ _ a,k.k _ _ (λz=>g1 (s _ z)) b,v5 k c,k.k _ _ (λz=>g2 (s _ z)) d,Paired.mapP f λv d ⟨p',e',h'⟩=>⟨p',e',k.tp _ _ h'⟩,g1,g2⟩
structure XX(t:Adr)(H:Hp)(x:Sto)(k:Tm)(sh sr:Int)(r:Addr)(rl:List Addr)(pp:Addr)(X:Sx):Prop where
j:XR t H x k sh sr X.s
er:x.ru=.ref r
ru:RuX t H r rl X.g
of:Off t x (r::rl)
ep:x.pa=.ref pp
hp:∃ps,H pp=some (.lst ps)∧Paired (PapA H (fx t x r pp)) ps X.ps
np:pp∉t.bD::sf x
nr:pp∉r::rl
section
variable{H H':Hp}{x:Sto}{k:Tm}{sh sr:Int}{r:Addr}{rl:List Addr}{pp:Addr}{X:Sx}
theorem XX.kT(h:XX t H x k sh sr r rl pp X)(kk:Keep [t.bD] H H')(tb:TbF t H'):XX t H' x k sh sr r rl pp X:=by obtain⟨ps,h1,h2⟩:=h.hp;have oT:=h.of t.bD (by simp);exact⟨h.j.kT kk tb,h.er,h.ru.keep kk (λy hy z=>oT (by rw[←hX.mp z];exact hy)),h.of,h.ep,⟨ps,kk.k _ _ (λz=>h.np (by rw[hX.mp z];simp)) h1,Paired.mapP h2 λ_ _ z=>z.keep kk (by simp)⟩,h.np,h.nr⟩
theorem XX.same(h:XX t H x k sh sr r rl pp X)(s:Same H H'):XX t H' x k sh sr r rl pp X:=h.kT (Keep.same s) (h.j.tb.same s)
theorem XX.on(h:XX t H x k sh sr r rl pp X){s:XS}(kk:Keep (t.bD::sf x) H H')(j:XR t H' x k sh sr s):XX t H' x k sh sr r rl pp ⟨s,X.g,X.ps⟩:=by obtain⟨ps,h1,h2⟩:=h.hp;exact⟨j,h.er,h.ru.keep kk (λy hy=>h.of.n hy),h.of,h.ep,⟨ps,kk.k _ _ h.np h1,Paired.mapP h2 λ_ _ z=>z.keep kk (by intro y hy;simp at hy ⊢;rcases hy with e|e<;>simp[e])⟩,h.np,h.nr⟩
end
noncomputable def rfE(t:Adr)(e:Rf)(E:XK)(H:Hp):Prop:=match e with
| .dark=>E (.ref t.C_PowerGone) none H
| .room=>E (.ref t.C_NoRoom) none H
noncomputable def qLY(t:Adr):Sp:=λvs H Q E=>∃x k sh sr r rl pp X,vs=[.ref x.s]∧XX t H x k sh sr r rl pp X∧k.ev=false∧X.s.rc.length+200<1000000∧X.ps.length<90000∧(match X.room k with
|(Y,.error e)=>∀H',XX t H' x k sh sr r rl pp Y→Keep (fx t x r pp) H H'→rfE t e E H'
|(Y,.ok p)=>∀v H',XX t H' x k sh sr r rl pp Y→Keep (fx t x r pp) H H'→Q v H')
theorem q3Z(T:Txt K mg t)(S:Fns K t)(B:BmIn base mg):S.fS.OkE P w mg base 14 (qLY t):=by(
refine S.fS.F.okE y7 (λvs H Q E h=>?_) (λcdv A outer s H vs Q E hr h=>?_)
·repeat obtain⟨_,h⟩:=h
 all_goals subst_vars;rfl
obtain⟨x,k,sh,sr,r,rl,pp,X,rfl,h,ev,rc,lp,kk⟩:=h
have s9:(99999:Nat)<sizeLine:=by decide
refine⟨_,(qB (qS (i:=1) y7.nd rfl (Or.inl rfl) (qW (pv 0) T.bE T.eE (yN T S B).mono hr S.bZ.b .nil qK)) (qB (qS (i:=2) y7.nd rfl (Or.inl rfl) (v8 jL (pv 0) T.bE T.o8 (q1S T S B).mono hr S.f7.b .nil)) (qB (qS (i:=3) y7.nd rfl (Or.inl rfl) (yI jL (pv 0) T.bE T.aCP (q7L T S B).mono hr S.tU.b .nil (qA (qV qZ (pv 2) qG (λ_ _=>rfl)) qE))) (qB (qS (i:=4) y7.nd rfl (Or.inl rfl) (yI jL (pv 0) T.bE T.aCC (q7F T S).mono hr S.tO.b .nil (qA (qV qZ (pv 2) qG (λ_ _=>rfl)) qE))) (qB (jB (qEP cA wS wT q2W (qJ (pv 0) rfl) (qA (qU (q5K T S).mono hr rfl T.aA1 T.aBM S.aAZ.b .nil qK (qA (qV qZ (pv 2) qG (λ_ _=>rfl)) (qA (pv 1) (qA (qV qZ (pv 2) qG (λ_ _=>rfl)) (qA (pv 3) (qA (pv 4) qE)))))) qE))) (qD (qL (qU (q5K T S).mono hr rfl T.aA1 T.aBM S.aAZ.b .nil qK (qA (qV qZ (pv 2) qG (λ_ _=>rfl)) (qA (pv 1) (qA (qV qZ (pv 2) qG (λ_ _=>rfl)) (qA (pv 3) (qA (pv 4) qE))))))))))))),?_⟩
try dsimp-beta-proj-iota-zeta-eta only[wishK,cxK]
refine(iV rfl (iM h.j.o rfl ?_))
dsimp only[tNil,dC]
refine h.j.opts ev λop rs H1 np j1 k1 h1 ty=>?_
have h1':=h.kT k1 j1.tb
have mT:∀y∈[t.bD],y∈fx t x r pp:=by simp
refine(iV rfl (iM j1.o rfl ⟨x,k,sh,sr,X.s,r,rl,X.g,rfl,j1,ev,h.er,h1'.ru,h.of,by lia,?_⟩))
unfold Sx.room at kk
cases htk:X.s.tk k X.g with
|none=>rw[htk]at kk;exact λH2 j2 k2=>kk H2 (h1'.kT k2 j2.tb) ((k1.mono mT).trans (k2.mono mT))
|some ybg=>
 obtain⟨y,b,g'⟩:=ybg;rw[htk]at kk;have fb:=q4E h.ru.ok htk;refine λcp H2 k2 j2 hR2 h2=>?_;have m2:∀y∈[t.bD,r],y∈fx t x r pp:=by simp
 have mS:∀y∈t.bD::sf x,y∈fx t x r pp:=λy hy=>kB _ (kB _ hy);have k02:Keep (fx t x r pp) H H2:=(k1.mono mT).trans (k2.mono m2);have npr:pp∉r::t.bD::sf x:=λz=>(kJ.mp z).elim (λe=>h.nr (by rw[e];exact kQ)) h.np;have np2:pp∉[t.bD,r]:=λz=>npr (by simp at z ⊢;rcases z with z|z<;>simp[z]);obtain⟨ps,hp0,hpp0⟩:=h.hp;have lps:=hpp0.len;have h2':XX t H2 x k sh sr r rl pp ⟨X.s,g',X.ps⟩:=⟨j2,h.er,hR2,h.of,h.ep,⟨ps,k2.k _ _ np2 (k1.k _ _ (λz=>h.np (by rw[hX.mp z];simp)) hp0),Paired.mapP hpp0 λ_ _ z=>(z.keep k1 mT).keep k2 m2⟩,h.np,h.nr⟩;have opn:=h.j.off np;obtain⟨C0,d0,f0,er0⟩:=h.ru.ins;have opr:op≠r:=λz=>by rw[z,er0]at np;cases np
 have opp:op≠pp:=λz=>by rw[z,hp0]at np;cases np
 have opH2:H2 op=some (.lst rs):=k2.k _ _ (λz=>by
  have z:op=t.bD∨op=r:=by simpa using z
  rcases z with z|z
  ·exact opn (by rw[z];simp)
  exact opr z) h1
 refine(iV rfl (iM j2.o rfl ⟨_,rfl,iT (k:=1) (v:=.int (b:Int)) (SqT.of h2) rfl ⟨x,k,sh,sr,X.s,b,rfl,j2,fb,by lia,?_⟩⟩));cases hmv:XS.mvs (lvP X.s.q.P b X.s.q.V) X.s with
 |mk s o=>
  dsimp only at kk;rw[hmv]at kk;cases o with
  |none=>exact λH3 j3 k3=>kk H3 (h2'.on k3 j3) (k02.trans (k3.mono mS))
  |some ms=>
   refine λml us H3 j3 nm hml prm md nl k3=>?_;dsimp only at kk;have h3:=k3.tp _ _ h2;have mrc:=md.rc;have l16:(lvP X.s.q.P b X.s.q.V).length≤16:=by have:=h.j.w.qs.ok.p2;unfold lvP;refine k8 (dP _ _) ?_;rw[mQ];exact this
   refine(iV rfl (iM j3.o rfl ⟨_,rfl,iT (k:=1) (v:=.int (b:Int)) (SqT.of h3) rfl ⟨x,k,sh,sr,s,b,rfl,j3,by rw[md.eB];exact fb.b,by rw[md.eP];exact md.fb,by lia,nl,λdk=>?_,λdk H4 j4 k4=>⟨rfl,?_⟩⟩⟩))
   ·rw[kF dk]at kk;exact kk H3 (h2'.on k3 j3) (k02.trans (k3.mono mS))
   rw[hV dk]at kk;have k34:Keep (t.bD::sf x) H2 H4:=k3.trans k4;have h4x:=h2'.on k34 j4;obtain⟨ps4,hpp4,prp4⟩:=h4x.hp;have lps4:=prp4.len;have hR4:=h4x.ru;obtain⟨C4,d4,f4,er4⟩:=hR4.ins;have h4:=k34.tp _ _ h2;have hop4:=k34.k _ _ opn opH2;have mln:=j2.off nm;have hml4:=k4.k _ _ mln hml;have o4:=j4.o;rw[h.ep]at o4;refine(iV rfl (iF o4 T.bE T.bX rfl ⟨.inl ⟨rfl,_,SqL.of hpp4⟩,_,rfl,iT (k:=0) (v:=_) (SqT.of h4) rfl ⟨_,rfl,_,rfl,iT (k:=1) (v:=_) (SqT.of h4) rfl ⟨_,rfl,_,rfl,.str y,.int (b:Int),.bl true,op,ml,rs,us,rfl,hop4,hml4,λpa a1 a2 H5 s5 npa na1 na2 e5 e51 e52=>⟨pp,ps4,_,rfl,rfl,s5 _ _ hpp4,by simp only at lps4;lia,?_⟩⟩⟩⟩));have hpp5:=s5 _ _ hpp4;have k6:=Keep.upd (F:=[pp]) (o:=.lst (ps4++[.ref pa])) hpp5 (λ_ z=>by cases z) (by simp);have hpp6:(upd H5 pp (.lst (ps4++[.ref pa]))) pp=_:=qI;have j6:=(j4.same s5).lst (o:=.lst (ps4++[.ref pa])) hpp5 h.np;generalize upd H5 pp (.lst (ps4++[.ref pa]))=H6 at k6 hpp6 j6 ⊢;have m6:∀y∈[pp],y∈fx t x r pp:=by simp
   have npp:∀{y:Addr},H4 y=none→y∉[pp]:=fun {y} e z=>by rw[hX.mp z,hpp4]at e;cases e
   have inF:∀{y:Addr},H4 y=none→y∉fx t x r pp:=fun {y} e z=>by
    rcases kJ.mp z with z|z
    ·rw[z,hpp4]at e;cases e
    rcases kJ.mp z with z|z
    ·rw[z,er4]at e;cases e
    exact(j4.off e) z
   have opp6:op∉[pp]:=λz=>opp (hX.mp z);have mlp:ml∉[pp]:=λz=>by obtain⟨ps2,e2,_⟩:=h2'.hp;rw[hX.mp z,e2]at nm;cases nm
   refine⟨_,rfl,iT (k:=0) (v:=_) (SqT.of (k6.tp _ _ (s5 _ _ h4))) rfl ⟨_,rfl,_,rfl,iT (k:=1) (v:=_) (SqT.of (k6.tp _ _ (s5 _ _ h4))) rfl ⟨_,rfl,_,rfl,.str y,.int (b:Int),.bl true,op,ml,rs,us,rfl,k6.k _ _ opp6 (s5 _ _ hop4),k6.k _ _ mlp (s5 _ _ hml4),λpb c1 c2 H7 s7 npb nc1 nc2 e7 e71 e72=>?_⟩⟩⟩;have k47:Keep [pp] H4 H7:=((Keep.same s5).trans k6).trans (Keep.same s7);have k07:Keep (fx t x r pp) H H7:=(k02.trans (k34.mono mS)).trans (k47.mono m6);have ty7:Tls H7 rs (X.s.ots k):=v5 k47 (v5 k34 (v5 k2 ty));have prm7:Paired (TupD H7) us ms:=Paired.mapP prm λv d ⟨p',e',h'⟩=>⟨p',e',k47.tp _ _ (k4.tp _ _ h')⟩;exact kk (.ref pb) H7 ⟨j6.same s7,h.er,(hR4.keep k47 (λy hy z=>h.nr (by rw[←hX.mp z];exact hy))),h.of,h.ep,⟨ps4++[.ref pa],s7 _ _ hpp6,L2.Paired.snoc (Paired.mapP prp4 λ_ _ z=>z.keep k47 m6) ⟨pa,a1,a2,us,rs,rfl,s7 _ _ (k6.tp _ _ e5),s7 _ _ (k6.k _ _ (npp na1) e51),ty7,s7 _ _ (k6.k _ _ (npp na2) e52),prm7,inF na1,inF na2⟩⟩,h.np,h.nr⟩ k07)
noncomputable def spMr(t:Adr):Sp:=λvs H Q E=>∃x k sh sr r rl pp X,∃i Z,vs=[.ref x.s]∧XX t H x k sh sr r rl pp X∧k.ev=false∧X.s.rc.length+100*i+200<1000000∧X.ps.length+i<90000∧X.rooms k i=some Z∧(match Z with
|(Y,.error e)=>∀H',XX t H' x k sh sr r rl pp Y→Keep (fx t x r pp) H H'→rfE t e E H'
|(Y,.ok _)=>∀H',XX t H' x k sh sr r rl pp Y→Keep (fx t x r pp) H H'→Q .non H')
theorem q38(T:Txt K mg t)(S:Fns K t)(B:BmIn base mg):S.fN.OkE P w mg base 15 (spMr t):=by(
refine S.fN.F.okE q34 (λvs H Q E h=>?_) (λcdv A outer s H vs Q E hr h=>?_)
·repeat obtain⟨_,h⟩:=h
 all_goals subst_vars;rfl
obtain⟨x,k,sh,sr,r,rl,pp,X,i,Z,rfl,h,ev,rc,lp,hZ,kk⟩:=h
refine⟨_,(qD (qA9 pR (jU (jG (qW (pv 0) T.bE T.aCI (q7C T S B).mono hr S.tN.b .nil qK))) (qD (jB (v8 jL (pv 0) T.bE T.aAH (q3Z T S B).mono hr S.fS.b .nil))))),?_⟩
try dsimp-beta-proj-iota-zeta-eta only[wishK,cxK]
refine⟨λn σ' H2=>σ'=[some (.ref x.s)]∧∃Y,XX t H2 x k sh sr r rl pp Y∧Keep (fx t x r pp) H H2∧Y.rooms k n=some Z∧Y.s.rc.length+100*n+200<1000000∧Y.ps.length+n<90000,⟨i,rfl,X,h,Keep.refl,hZ,rc,lp⟩,?_⟩
rintro n σ' H2 ⟨rfl,Y,hY,k2,eY,rcY,lpY⟩
obtain⟨m,hs,c,_⟩:=hY.j.e
have mT:∀y∈[t.bD],y∈fx t x r pp:=by simp
refine(iV rfl (iM hs.o rfl ⟨x,_,_,_,m,Y.s.q,_,rfl,hs,c.ft,λl H3 hl k3 tb3=>⟨_,rfl,?_⟩⟩))
rw[c.br,c.cl]at hl
rw[c.br,qKK hY.j.w hl]
have hY3:=hY.kT k3 tb3
have k03:=k2.trans (k3.mono mT)
cases n with
|zero=>
 unfold Sx.rooms at eY;cases z:Y.s.rd k with
 |false=>rw[z,hV (by decide)]at eY;cases eY
 |true=>rw[z,kF rfl]at eY;cases eY;exact iteF (kk H3 hY3 k03)
|succ n=>
 unfold Sx.rooms at eY;cases z:Y.s.rd k with
 |true=>rw[z,kF rfl]at eY;cases eY;exact iteF (kk H3 hY3 k03)
 |false=>
  rw[z,hV (by decide)]at eY;refine iteT ⟨_,λ_ _ z=>z,?_⟩;refine(iV rfl (iM hY3.j.o rfl ⟨x,k,sh,sr,r,rl,pp,Y,rfl,hY3,ev,by lia,by lia,?_⟩));cases hr':Y.room k with
  |mk W o=>
   rw[hr']at eY;cases o with
   |error e=>cases eY;exact λH4 h4 k4=>kk H4 h4 (k03.trans k4)
   |ok p=>obtain⟨r1,r2⟩:=qGB hY.j.w hY.ru.ok hr';exact λv H4 h4 k4=>⟨n,rK _,rfl,W,h4,k03.trans k4,eY,by lia,by lia⟩)
theorem q39(T:Txt K mg t)(S:Fns K t)(B:BmIn base mg):S.fM.OkE P w mg base 16 (spMr t):=by(
refine S.fM.F.okE q33 (λvs H Q E h=>?_) (λcdv A outer s H vs Q E hr h=>?_)
·repeat obtain⟨_,h⟩:=h
 all_goals subst_vars;rfl
obtain⟨x,k,sh,sr,r,rl,pp,X,i,Z,rfl,h⟩:=h
refine⟨_,(qD (jB (v8 jL (pv 0) T.bE T.aAB (q38 T S B).mono hr S.fN.b .nil))),?_⟩
try dsimp-beta-proj-iota-zeta-eta only[wishK,cxK]
exact(iV rfl (iM h.1.j.o rfl ⟨x,k,sh,sr,r,rl,pp,X,i,Z,rfl,h⟩)))
inductive spPWr(t:Adr)(vs:List V)(H:Hp)(Q:VK)(E:XK):Prop
|mk:∀x k sh sr r rl pp X,∀n v:Int,∀i Z,vs=[.ref x.s,.int n,.int v]→XX t H x k sh sr r rl pp X→k.ev=false→X.s.rc.length+100*i+300<1000000→X.ps.length+i<90000→sh≤64→inB (.int n) 0 (sh-1)=true→inB (.int v) 0 (10 ^ 30-1)=true→(¬(hold X.s.q n=false∧sr≤((hdN X.s.q.V).length:Int)))→((∃p,(n,p)∈X.s.q.V)∨X.s.q.V.length<59)→X.ask k i n v=some Z→(match Z with
|(Y,.error e)=>∀H',XX t H' x k sh sr r rl pp Y→Keep (fx t x r pp) H H'→rfE t e E H'
|(Y,.ok p)=>∀H',XX t H' x k sh sr r rl pp Y→Keep (fx t x r pp) H H'→Q (.int (p:Int)) H')→spPWr t vs H Q E
theorem XX.lay{H H2:Hp}{x:Sto}{k:Tm}{sh sr:Int}{r:Addr}{rl:List Addr}{pp:Addr}{X Y:Sx}{i:Nat}{n v:Int}{Z:Sx×Except Rf Nat}(h:XX t H x k sh sr r rl pp X)(rc:X.s.rc.length+100*i+300<1000000)(hl:(∃p,(n,p)∈X.s.q.V)∨X.s.q.V.length<59)(hZ:X.ask k i n v=some Z)(hY:X.rooms k i=some (Y,.ok ()))(n0:0≤n)(n1:n≤64)(h2:XX t H2 x k sh sr r rl pp Y){Q:VK}{E:XK}
 (kk:match Z with
  |(Y,.error e)=>∀H',XX t H' x k sh sr r rl pp Y→Keep (t.bD::sf x) H2 H'→rfE t e E H'
  |(Y,.ok p)=>∀H',XX t H' x k sh sr r rl pp Y→Keep (t.bD::sf x) H2 H'→Q (.int (p:Int)) H'):qDB t [.ref x.s,.int n,.int v] H2 Q E:=by(
obtain⟨_,_,kp,r1,_,rd⟩:=q31 h.j.w h.ru.ok hY
have rd:=mM (rd rfl)
rw[dY,dZ]at rd
unfold Sx.ask at hZ
rw[hY]at hZ
dsimp only at hZ
refine h2.j.set n0 n1 (by lia) (by lia) ?_ (λdk H' j' k'=>?_) (λdk H' j' k'=>?_)
·rw[kp.lV];exact hl.imp (λz=>(kp.nm n).mpr z) id
·rw[kF dk]at hZ;cases hZ;exact kk H' (h2.on k' j') k'
rw[hV dk]at hZ
cases hZ
exact kk H' (h2.on k' j') k')
theorem q7M(T:Txt K mg t)(S:Fns K t)(B:BmIn base mg):S.tJ.OkE P w mg base 17 (spPWr t):=by(
refine S.tJ.F.okE q70 (λvs H Q E h=>?_) (λcdv A outer s H vs Q E hr h=>?_)
·repeat obtain⟨_,h⟩:=h
 all_goals subst_vars;rfl
obtain⟨x,k,sh,sr,r,rl,pp,X,n,v,i,Z,rfl,h,ev,rc,lp,sh64,z,w,ff,hl,hZ,kk⟩:=h
obtain⟨m,hs,c,_⟩:=h.j.e
refine⟨_,(qB (jB (j8 (pv 0) T.bE T.tS (q2Q T S).mono hr S.fE.b .nil qK (qA (pv 1) qE))) (qB (j9 (jU (jG (qU (qBE T S).mono hr rfl T.aC8 T.aDG S.aCB.b .nil qK (qA (pv 2) qE)))) (qD jC) qR) (qB (jB (j8 (pv 0) T.bE T.tT (q2R T S).mono hr S.fD.b .nil qK (qA (pv 1) qE))) (qB (jB (v8 jL (pv 0) T.bE T.t6 (q39 T S B).mono hr S.fM.b .nil)) (qD (qL (yI jL (pv 0) T.bE T.aBE (q4L T S B).mono hr S.tY.b .nil (qA (pv 1) (qA (pv 2) qE))))))))),?_⟩
try dsimp-beta-proj-iota-zeta-eta only[wishK,cxK]
refine(iV rfl (iM hs.o rfl ⟨_,rfl,x,.int sr,_,_,m,X.s.q,.int n,sh,rfl,hs,.int _,?_⟩))
rw[kF z]
obtain⟨n',e,n0,n1⟩:=qH2 z
injection e with e
subst e
refine⟨_,rfl,.int v,rfl,.int _,_,rfl,?_⟩
rw[w]
refine iteF ?_
refine(iV rfl (iM hs.o rfl ⟨_,rfl,x,.int sh,_,_,m,X.s.q,n,sr,rfl,hs,c.ft,hd64 h.j.w,λH1 s1=>?_⟩))
rw[hV ff]
have h1:=h.same s1
have hZ':=hZ
unfold Sx.ask at hZ'
cases hR:X.rooms k i with
|none=>rw[hR]at hZ';cases hZ'
|some YR=>
 obtain⟨Y,o⟩:=YR;refine(iV rfl (iM h1.j.o rfl ⟨x,k,sh,sr,r,rl,pp,X,i,(Y,o),rfl,h1,ev,by lia,lp,hR,?_⟩));rw[hR]at hZ';cases o with
 |error e=>cases hZ';exact λH2 h2 k2=>kk H2 h2 ((Keep.same s1).trans k2)
 |ok u=>
  refine λH2 h2 k2=>?_;refine(iV rfl (iM h2.j.o rfl ⟨_,rfl,_,rfl,?_⟩));dsimp only[tNil,sG,dC,dB];refine h.lay rc hl hZ hR n0 (by lia) h2 ?_;have mS:∀y∈t.bD::sf x,y∈fx t x r pp:=λy hy=>kB _ (kB _ hy);obtain⟨W,o⟩:=Z;cases o with
  |error e=>exact λH3 h3 k3=>kk H3 h3 (((Keep.same s1).trans k2).trans (k3.mono mS))
  |ok p=>exact λH3 h3 k3=>kk H3 h3 (((Keep.same s1).trans k2).trans (k3.mono mS)))
section
variable{H H':Hp}{x:Sto}{k:Tm}{sh sr:Int}{r:Addr}{rl:List Addr}{pp:Addr}{X:Sx}
theorem XX.chip(h:XX t H x k sh sr r rl pp X):∃m,ChipAt t.C_Chip H x.c x.a m∧m.Ok∧m.lf=X.s.lf∧m.rc=X.s.rc∧m.cl=X.s.cl∧m.bl=(X.s.q.B:Int)∧m.pg=(X.s.q.P:Int)∧PgAt H m.bo X.s.pg∧∀l,(∀i,l=some i→0≤i)→∀H',ChipAt t.C_Chip H' x.c x.a { m with lf:=l }→Keep (foot x.c x.a) H H'→XX t H' x k sh sr r rl pp ⟨{ X.s with lf:=l },X.g,X.ps⟩:=by(
obtain⟨m,st,c,pg⟩:=h.j.e
refine⟨m,st.ch,c.ft.ok,c.lf,c.rc,c.cl,c.ft.eB,c.ft.eP,pg,λl hl H' hc k'=>?_⟩
have k2:Keep (t.bD::sf x) H H':=k'.mono (λy hy=>by unfold sf;exact kB _ (gI _ hy))
have ok':({ m with lf:=l }:CM).Ok:=⟨c.ft.ok.bl1,c.ft.ok.bl2,c.ft.ok.pg1,c.ft.ok.pg2,c.ft.ok.nbo,c.ft.ok.ncl,c.ft.ok.ndc,c.ft.ok.nbr,c.ft.ok.lim,c.ft.ok.nrc⟩
exact h.on k2 ⟨⟨_,st.put hc k' rfl rfl,⟨⟨ok',c.ft.oq,c.ft.eB,c.ft.eP⟩,c.br,c.li,c.mo,c.cl,rfl,c.rc⟩,pg.keep k'⟩,h.j.w.lf hl⟩)
theorem XX.inF(h:XX t H x k sh sr r rl pp X):∀y∈fx t x r pp,∃o,H y=some o:=λy hy=>by(
rcases kJ.mp hy with e|hy
·obtain⟨ps,e',_⟩:=h.hp;exact⟨_,by rw[e];exact e'⟩
rcases kJ.mp hy with e|hy
·obtain⟨_,_,_,z⟩:=h.ru.ins;exact⟨_,by rw[e];exact z⟩
exact h.j.inH y hy)
end
structure KX(t:Adr)(H:Hp)(x:Sto)(k:Tm)(sh:Int)(sr:Nat)(r:Addr)(rl:List Addr)(pp:Addr)(X:Sx)(kd:Addr)(KD:Mp)(n:Nat):Prop where
h:XX t H x k sh (sr:Int) r rl pp X
d:Kd k sh sr X KD
hk:H kd=some (.dK (dI KD))
nk:kd∉x.a.li::fx t x r pp
nr:kd∉rl
rcn:X.s.rc.length≤300*n
psn:X.ps.length≤20*n
noncomputable def wN(rc:List (Str×Int×Bool)):Nat:=(rc.filter λd=>decide (d.1=Str.ofString "wipe")).length
theorem q2T{a b:List (Str×Int×Bool)}:wN (a++b)=wN a+wN b:=by unfold wN;rw[gL,kO]
theorem qDF{ms:List (List Int)}:wN (ms.map putR)=0:=by(
unfold wN
rw[List.length_eq_zero_iff,List.filter_eq_nil_iff]
intro d hd
obtain⟨m,_,rfl⟩:=kY.mp hd
show ¬decide (Str.ofString "put"=Str.ofString "wipe")=true
decide)
theorem qIU{qs:List Pa}:wN (qs.flatMap dOf)=qs.length:=by(
induction qs with
|nil=>rfl
|cons p qs ih=>rw[xI,q2T,ih];unfold dOf;rw[q2T,qDF,mB];show 0+1+ _=_;lia)
theorem qKX{H:Hp}{x:Sto}{k:Tm}{sh sr:Int}{r:Addr}{rl:List Addr}{pp:Addr}{B P:Nat}{g:Rl}(st:StAt t H x (.int sh) (.int sr) (.int (k.ie:Int)) (.int k.sp) (CM.new (B:Int) (P:Int) 1000000 []) (bk0 B P))(er:x.ru=.ref r)(ru:RuX t H r rl g)(of:Off t x (r::rl))(ep:x.pa=.ref pp)(hp:H pp=some (.lst []))(np:pp∉t.bD::sf x)(nr:pp∉r::rl)
 (b1:2≤B) (b2:B≤16) (p1:1≤P) (p2:P≤16) (w:WX k (newX B P)):XX t H x k sh sr r rl pp ⟨newX B P,g,[]⟩:=by(
have nok:(CM.new (B:Int) (P:Int) 1000000 []).Ok:=qK1 (by lia) (by lia) (by lia) (by lia) (λb v e=>by cases e)
refine⟨⟨⟨_,st,⟨⟨nok,w.qs.ok,rfl,rfl⟩,?_,λb=>rfl,rfl,?_,rfl,rfl⟩,⟨λi _=>rep8,λi v e=>by cases e⟩⟩,w⟩,er,ru,of,ep,⟨[],hp,.nil⟩,np,nr⟩
·show List.replicate (B:Int).toNat false=_;rw[mO];rfl
show List.replicate (B:Int).toNat (0:Int)=_
rw[mO]
rfl)
inductive spSz(K:W.Frag)(vs:List V)(H:Hp)(Q:VK)(E_:XK):Prop
|mk:∀a ns,vs=[.ref a]→SqL K H a (List.map V.int ns)→(∀c P i s:Nat,1≤c→c≤4→1≤P→P≤4→i≤2→1≤s→s+2≤c*P→NewO H (.lst [.int ((c+1+i:Nat):Int),.int (P:Int),.int (s:Int),.int (i:Int)]) Q)→spSz K vs H Q E_
theorem qA1(T:Txt K mg t)(S:Fns K t):S.aA8.Ok0 P w mg base 2 (spSz K):=by(
refine S.aA8.F.ok0 yU λcdv A _ s H vs Q E hr h=>?_
obtain⟨a,ns,rfl,hS,k⟩:=h
refine⟨_,(qB (qS (i:=1) yU.nd rfl (Or.inl rfl) (qN jV qG (qN yX (qU (jN T S).mono hr rfl T.bU T.bT S.bW.b .nil qK (qA (pv 0) (qA qG qE))) qG))) (qB (qS (i:=2) yU.nd rfl (Or.inl rfl) (qN jV qG (qN yX (qU (jN T S).mono hr rfl T.bU T.bT S.bW.b .nil qK (qA (pv 0) (qA qG qE))) qG))) (q10 (j9 (qQ q1L (qN yP (pv 2) (pv 1)) qG (qO _)) (qD (qS (i:=2) yU.nd rfl (Or.inl rfl) qG)) qR) (qB (qS (i:=3) yU.nd rfl (Or.inl rfl) (qN yX (qU (jN T S).mono hr rfl T.bU T.bT S.bW.b .nil qK (qA (pv 0) (qA qG qE))) qG)) (qB (qS (i:=4) yU.nd rfl (Or.inl rfl) (qN yH (qN yP (pv 2) (pv 1)) qG)) (q10 (j9 (qQ yO (qN yX (qU (jN T S).mono hr rfl T.bU T.bT S.bW.b .nil qK (qA (pv 0) (qA qG qE))) qG) qG (qO _)) (qD (qS (i:=4) yU.nd rfl (Or.inl rfl) (qN jV qG (qN yX (qN zD (qU (jN T S).mono hr rfl T.bU T.bT S.bW.b .nil qK (qA (pv 0) (qA qG qE))) qG) (pv 4))))) qR) (qD (qL (yA (qA (qN jV (qN jV (pv 2) qG) (pv 3)) (qA (pv 1) (qA (pv 4) (qA (pv 3) qE))))))))))))),?_⟩
try dsimp-beta-proj-iota-zeta-eta only[wishK,cxK]
refine⟨_,rfl,a,ns,0,rfl,hS,by decide,_,_,rfl,rfl,(by show(0:Int)<4;decide),iI ?_⟩
refine⟨_,rfl,a,ns,1,rfl,hS,by decide,_,_,rfl,rfl,(by show(0:Int)<4;decide),iI ?_⟩
try dsimp only
have c0:=vS (jW ns 0) 4 (by decide)
have c1:=vS (jW ns 1) 4 (by decide)
obtain⟨P0,eP0⟩:∃n:Nat,1+jW ns 0%4=(n:Int):=⟨(1+jW ns 0%4).toNat,by lia⟩
obtain⟨c',ec⟩:∃n:Nat,1+jW ns 1%4=(n:Int):=⟨(1+jW ns 1%4).toNat,by lia⟩
rw[eP0,ec]
have hP1:1≤P0:=by lia
have hP2:P0≤4:=by lia
have hc1:1≤c':=by lia
have hc2:c'≤4:=by lia
clear c0 c1 eP0 ec
refine⟨λσ' H'=>∃c:Nat,σ'=[some (.ref a),some (.int (P0:Int)),some (.int (c:Int)),none,none]∧H=H'∧1≤c∧c≤4∧3≤c*P0,?_,?_⟩
·refine⟨_,rfl,_,rfl,iI ⟨.inl ⟨by lia,by lia⟩,iI ⟨_,rfl,?_⟩⟩⟩;refine ite2 (λz=>?_) (λz=>?_)
 ·exact⟨3,rfl,rfl,by decide,by decide,by lia⟩
 have z:¬(c':Int)*(P0:Int)<3:=λy=>z (hG y);rw[←dE]at z;exact⟨c',rfl,rfl,hc1,hc2,by lia⟩
rintro σ' _ ⟨c,rfl,rfl,p1,p2,cp⟩
refine⟨_,rfl,a,ns,2,rfl,hS,by decide,_,_,rfl,rfl,(by show(0:Int)<3;decide),?_⟩
have c2:=vS (jW ns 2) 3 (by decide)
try dsimp only
obtain⟨i,ei⟩:∃n:Nat,jW ns 2%3=(n:Int):=⟨(jW ns 2%3).toNat,by lia⟩
rw[ei]
have hi:i≤2:=by lia
clear c2 ei
refine⟨_,rfl,_,rfl,iI ⟨.inl ⟨by lia,by lia⟩,iI ?_⟩⟩
try dsimp only
obtain⟨M,eM⟩:∃n:Nat,(c:Int)*(P0:Int)-2=(n:Int):=⟨c*P0-2,by rw[←dE];lia⟩
rw[eM]
have hM:M+2=c*P0:=by rw[←dE]at eM;lia
refine⟨λσ' H'=>∃s:Nat,σ'=[some (.ref a),some (.int (P0:Int)),some (.int (c:Int)),some (.int (i:Int)),some (.int (s:Int))]∧H=H'∧1≤s∧s≤M,?_,?_⟩
·refine⟨_,rfl,a,ns,3,rfl,hS,by decide,_,_,rfl,rfl,(by show(0:Int)<3;decide),rfl,_,rfl,?_⟩;refine ite2 (λz=>?_) (λz=>?_)
 ·refine⟨_,rfl,a,ns,3,rfl,hS,by decide,_,_,rfl,rfl,⟨by decide,by decide⟩,_,rfl,iI ⟨(by show(0:Int)<(M:Int);lia),iI ?_⟩⟩;have c3:=vS (jW ns 3 / 3) (M:Int) (by lia);try dsimp only
  obtain⟨s,es⟩:∃n:Nat,1+jW ns 3 / 3%(M:Int)=(n:Int):=⟨(1+jW ns 3 / 3%(M:Int)).toNat,by lia⟩;rw[es];exact⟨s,rfl,rfl,by lia,by lia⟩
 exact⟨M,rfl,rfl,by lia,by lia⟩
rintro σ' _ ⟨s,rfl,rfl,s1,s2⟩
refine⟨_,rfl,iI ⟨_,rfl,iI ⟨_,rfl,_,rfl,_,rfl,sz4,?_⟩⟩⟩
exact k c P0 i s p1 p2 hP1 hP2 hi s1 (by lia))
noncomputable def blkL(ns:List Int):List Int:=(List.range 9).map λk:Nat=>(jW ns 4 / ((k:Int)+1)+(k:Int))%7
inductive spBl(vs:List V)(H:Hp)(Q:VK)(E_:XK):Prop
|mk:∀a ns,vs=[.ref a]→SqL K H a (List.map V.int ns)→NewO H (.lst ((blkL ns).map V.int)) Q→spBl vs H Q E_
theorem q3G(T:Txt K mg t)(S:Fns K t):S.oP.Ok0 P w mg base 2 spBl:=by(
refine S.oP.F.ok0 q7Y λcdv A _ s H vs Q E hr h=>?_
obtain⟨a,ns,rfl,hS,q⟩:=h
refine⟨_,(qD (qL (vE ["_law_script","_law_k"] [0] rfl (q4Q rfl T.aA2 (qA qG qE)) (λ_ _ _ _ _=>(jA (i:=1) (show List.Nodup (["_law_script","_law_k"]:List Str)from by decide) rfl (Or.inl rfl))) (λ_ _ _ _ _=>q44) (λ_ _ _ _ _=>(qN yX (qN jV (qN zD (qU (jN T S).mono hr rfl T.bU T.bT S.bW.b .nil qK (qA (pv 0) (qA qG qE))) (qN jV (pv 1) qG)) (pv 1)) qG)) (by kernel_rfl) (yJ (by decide))))),?_⟩
try dsimp-beta-proj-iota-zeta-eta only[wishK,cxK]
refine⟨_,rfl,by decide,by decide,λD H2 nD s2 hD=>?_⟩
refine q8L (D:=D) (λi H3=>Same H H3∧H3 D=some (.lst (((List.range i).map λk:Nat=>(jW ns 4 / ((k:Int)+1)+(k:Int))%7).map V.int))) ⟨s2,hD⟩ (λi H3 hi hp=>?_) (λH3 hp=>?_)
·obtain⟨sm,hd⟩:=hp;have hi:i<9:=hi;refine⟨_,rfl,a,ns,4,rfl,sm.seq hS,by decide,_,rfl,iI (iI ⟨⟨by lia,by lia⟩,_,rfl,iI (iI ⟨(by show(0:Int)<7;decide),?_⟩)⟩)⟩;refine⟨_,hd,?_,λb o e=>?_,?_⟩
 ·rw[h9,h9,mQ];have:(9:Nat)<sizeLine:=by decide
  lia
 ·rw[qC (qH e nD)];exact sm _ _ e
 rw[qI,sS,mR,mR,xJ];rfl
obtain⟨sm,hd⟩:=hp
exact q D H3 nD sm hd)
noncomputable def rkK(ns:List Int)(pg nw:Int):Nat→Tl→Int
|0=>Tl.lv
|1=>Tl.bo
|4=>rkW pg nw mnC
|5=>Tl.lv
|_=>wgt ns
inductive spLs(vs:List V)(H:Hp)(Q:VK)(E_:XK):Prop
|mk:∀(kd:Nat) (a b:V) (sa:Addr) (ns:List Int) (pg nw:Int) (A B:Tl),vs=[.int (kd:Int),a,b,.ref sa,.int pg,.int nw]→kd≤5→kd≠3→TlAt H a A→TlAt H b B→A.Ok pg nw→B.Ok pg nw→1≤pg→pg≤16→SqL K H sa (List.map V.int ns)→Q (.bl (decide (rkK ns pg nw kd A<rkK ns pg nw kd B))) H→spLs vs H Q E_
theorem qBH(T:Txt K mg t)(S:Fns K t):S.aB4.Ok0 P w mg base 3 spLs:=by(
refine S.aB4.F.ok0 q5H λcdv A _ s H vs Q E hr h=>?_
obtain⟨kd,a,b,sa,ns,pg,nw,A,B,rfl,k5,k3,⟨ad,rfl,ha⟩,⟨bd,rfl,hb⟩,oa,ob,p1,p16,hS,q⟩:=h
refine⟨_,(qB (j9 (PW.pt (q1W (qQ yO (pv 0) qG (qO _)) (q3J (qQ yO (pv 0) qG (qO _))))) (qD (qL (jR q1L (qV qZ (pv 1) qG (λ_ _=>rfl)) (qV qZ (pv 2) qG (λ_ _=>rfl)) (qO _)))) qR) (qB (j9 (qQ yO (pv 0) qG (qO _)) (qD (qL (jR q1L (qV qZ (pv 1) qG (λ_ _=>rfl)) (qV qZ (pv 2) qG (λ_ _=>rfl)) (qO _)))) qR) (qB (j9 (qQ yO (pv 0) qG (qO _)) (qB (qS (i:=6) q5H.nd rfl (Or.inl rfl) (qN yP (qN yP (qN yH (pv 4) (qV qZ (pv 1) qG (λ_ _=>rfl))) (qN yH (pv 5) (qV qZ (pv 1) qG (λ_ _=>rfl)))) (qN jV (pv 4) (qV qZ (pv 2) qG (λ_ _=>rfl))))) (qD (qL (jR qEB (pv 6) (qN yP (qN yP (qN yH (pv 4) (qV qZ (pv 2) qG (λ_ _=>rfl))) (qN yH (pv 5) (qV qZ (pv 2) qG (λ_ _=>rfl)))) (qN jV (pv 4) (qV qZ (pv 1) qG (λ_ _=>rfl)))) (qO _))))) qR) (qD (qL (jR q1L (qU (q0I T S).mono hr rfl T.iS T.iZ S.iK.b .nil qK (qA (pv 1) (qA (pv 3) qE))) (qU (q0I T S).mono hr rfl T.iS T.iZ S.iK.b .nil qK (qA (pv 2) (qA (pv 3) qE))) (qO _))))))),?_⟩
try dsimp-beta-proj-iota-zeta-eta only[wishK,cxK]
have a0:=oa.l0
have a1:=oa.l1
have b0:=ob.l0
have b1:=ob.l1
have e6:kd=0∨kd=1∨kd=2∨kd=4∨kd=5:=by lia
rcases e6 with rfl|rfl|rfl|rfl|rfl
·exact⟨_,rfl,rfl,_,rfl,iteT (iteT ⟨_,rfl,iT (k:=1) (v:=_) (SqT.of ha) rfl ⟨_,rfl,iT (k:=1) (v:=_) (SqT.of hb) rfl (iI q)⟩⟩)⟩
·exact⟨_,rfl,rfl,_,rfl,iteF ⟨_,rfl,rfl,_,rfl,iteF ⟨_,rfl,rfl,_,rfl,iteT ⟨_,rfl,iT (k:=3) (v:=_) (SqT.of ha) rfl ⟨_,rfl,iT (k:=3) (v:=_) (SqT.of hb) rfl (iI q)⟩⟩⟩⟩⟩
·exact⟨_,rfl,rfl,_,rfl,iteF ⟨_,rfl,rfl,_,rfl,iteF ⟨_,rfl,rfl,_,rfl,iteF ⟨_,rfl,rfl,_,rfl,iteF ⟨_,rfl,_,rfl,_,A,sa,ns,rfl,⟨ad,rfl,ha⟩,hS,_,rfl,_,rfl,_,B,sa,ns,rfl,⟨bd,rfl,hb⟩,hS,_,_,rfl,rfl,q⟩⟩⟩⟩⟩
·refine⟨_,rfl,rfl,_,rfl,iteF ⟨_,rfl,rfl,_,rfl,iteF ⟨_,rfl,rfl,_,rfl,iteF ⟨_,rfl,rfl,_,rfl,iteT ?_⟩⟩⟩⟩;refine⟨_,rfl,_,rfl,iT (k:=1) (v:=_) (SqT.of ha) rfl (iI ⟨_,rfl,_,rfl,iT (k:=3) (v:=_) (SqT.of ha) rfl (iI (iI ⟨.inl ⟨by lia,by lia⟩,_,rfl,_,rfl,iT (k:=1) (v:=_) (SqT.of hb) rfl (iI (iI ⟨.inr ⟨by lia,by lia⟩,?_⟩))⟩))⟩)⟩;refine⟨_,rfl,_,rfl,_,rfl,iT (k:=1) (v:=_) (SqT.of hb) rfl (iI ⟨_,rfl,_,rfl,iT (k:=3) (v:=_) (SqT.of hb) rfl (iI (iI ⟨.inl ⟨by lia,by lia⟩,_,rfl,_,rfl,iT (k:=1) (v:=_) (SqT.of ha) rfl (iI (iI ⟨.inr ⟨by lia,by lia⟩,iI ?_⟩))⟩))⟩)⟩;have e:decide (gain pg nw B*(pg+A.lv)<gain pg nw A*(pg+B.lv))=decide (rkW pg nw mnC A<rkW pg nw mnC B):=cN.mpr (q8W (qGN p1 p16) oa ob);exact(show Q (.bl (decide (gain pg nw B*(pg+A.lv)<gain pg nw A*(pg+B.lv)))) H by rw[e];exact q)
exact⟨_,rfl,rfl,_,rfl,iteF ⟨_,rfl,rfl,_,rfl,iteT ⟨_,rfl,iT (k:=1) (v:=_) (SqT.of ha) rfl ⟨_,rfl,iT (k:=1) (v:=_) (SqT.of hb) rfl (iI q)⟩⟩⟩⟩)
noncomputable def winM(ns:List Int):Int:=1+jW ns 5%4
noncomputable def q3H(ns:List Int)(kd:Nat)(ts:List Tl):List Tl:=if kd=5 then winC (winM ns) ts else ts
inductive spSe(vs:List V)(H:Hp)(Q:VK)(E_:XK):Prop
|mk:∀(kd:Nat) (l sa:Addr) (us:List V) (ts:List Tl) (ns:List Int),vs=[.int (kd:Int),.ref l,.ref sa]→kd≤5→SqL K H l us→Tls H us ts→(ts.Pairwise λa c=>a.b<c.b)→ts.length≤16→SqL K H sa (List.map V.int ns)→(∀l' us' H',Same H H'→SqL K H' l' us'→Tls H' us' (q3H ns kd ts)→Q (.ref l') H')→spSe vs H Q E_
theorem qBI(T:Txt K mg t)(S:Fns K t):S.aCN.Ok0 P w mg base 2 spSe:=by(
refine S.aCN.F.ok0 q5I λcdv A _ s H vs Q E hr h=>?_
obtain⟨kd,l,sa,us,ts,ns,rfl,k5,hl,ty,pw,l16,hS,q⟩:=h
have hu:=q6H hr
refine⟨_,(qB (j9 (qQ q3B (pv 0) qG (qO _)) (qD (qL (pv 1))) qR) (qB (qS (i:=3) q5I.nd rfl (Or.inr rfl) (q6F q92 (qX q12 (by rfl) T.oQ (by kernel_rfl) (qA (vE ["_law_tally"] [] rfl (yC (pv 1)) (λ_ _ _ _ _=>(jA (i:=0) (show List.Nodup (["_law_tally"]:List Str)from by decide) rfl (Or.inl rfl))) (λ_ _ _ _ _=>q44) (λ_ _ _ _ _=>(uK (qA (qV (zF (K:=K) rfl) (pv 0) qG (λ_ _=>rfl)) (qA (qV (zF (K:=K) rfl) (pv 0) qG (λ_ _=>rfl)) qE)))) (by kernel_rfl) (yJ (by decide))) qE)) q8Y (q8Z (qN jV qG (qN yX (qU (jN T S).mono hr rfl T.bU T.bT S.bW.b .nil qK (qA (pv 2) (qA qG qE))) qG))))) (qD (qL (vE ["_law_ages","_law_tally"] [3] rfl (yC (pv 1)) (λ_ _ _ _ _=>(jA (i:=1) (show List.Nodup (["_law_ages","_law_tally"]:List Str)from by decide) rfl (Or.inl rfl))) (λ_ _ _ _ _=>(zE (qQ (qI3 (K:=K) rfl hr.units) (uK (qA (qV (zF (K:=K) rfl) (pv 1) qG (λ_ _=>rfl)) (qA (qV (zF (K:=K) rfl) (pv 1) qG (λ_ _=>rfl)) qE))) (pv 0) rfl))) (λ_ _ _ _ _=>(pv 1)) (by kernel_rfl) (yJ (by decide))))))),?_⟩
try dsimp-beta-proj-iota-zeta-eta only[wishK,cxK]
refine⟨_,rfl,rfl,_,rfl,?_⟩
by_cases z:kd=5
·subst z;refine iteF ?_;refine⟨_,rfl,l,rfl,⟨us,hl⟩,λD H2 nD s2 hD=>?_⟩;have hlen:=ty.len;have s99:(16:Nat)<sizeLine:=by decide
 refine vM (K:=K) (xs:=us) (D:=D) (λi H3=>∃as,Same H H3∧H3 D=some (.lst as)∧Paired (TupD H3) as ((ts.take i).map λo=>[o.bo,o.b])) ⟨[],s2,hD,.nil⟩ (λi H3 hp=>by obtain⟨as,sm,_⟩:=hp;exact sm.seq hl) (λi y H3 hy hp=>?_) (λH3 hp=>?_)
 ·obtain⟨as,sm,hd,pr⟩:=hp;obtain⟨O,hO,va,rfl,hva⟩:=Paired.at ty hy;obtain⟨hi,rfl⟩:=kD.mp hO;have la:=pr.len;rw[h9,gH]at la;refine⟨_,rfl,iT (k:=3) (v:=_) (SqT.of (sm _ _ hva)) rfl ⟨_,rfl,iT (k:=0) (v:=_) (SqT.of (sm _ _ hva)) rfl ⟨sz2,λtp H5 n5 s5 h5=>?_⟩⟩⟩;have hd5:=s5 _ _ hd;refine⟨as,hd5,by lia,as++[.ref tp],λb o e=>?_,qI,?_⟩
  ·rw[qC (qH e nD)];exact s5 _ _ (sm _ _ e)
  rw[←mD hi,mR];exact L2.Paired.snoc (Paired.mapP (uL pr s5) λx k z=>z.upd hd5 (λ_ q=>by cases q)) (TupD.upd ⟨tp,rfl,h5⟩ hd5 (λ_ q=>by cases q))
 obtain⟨as,sm,hd,pr⟩:=hp;rw[hlen,mZ]at pr;have la:=pr.len;rw[h9]at la;refine⟨D,as,_,2,rfl,SqL.of hd,q9F pr,λk hk=>?_,by decide,by lia,λq1 p1 w1 sl H4 n4 s4 h4=>?_⟩
 ·obtain⟨o,_,rfl⟩:=kY.mp hk;rfl
 have las:as.length=ts.length:=la;have hin:∀i∈q1,i<as.length:=λi hi=>mE.mp (p1.mem_iff.mp hi);have hin':∀i∈q1,i<ts.length:=λi hi=>by rw[←las];exact hin i hi
 rw[las]at p1;have AP:=q4W p1;rw[q49 (λo=>[o.bo,o.b]) hin',gF]at w1;have pr4:Paired (TupD H4) (q1.map λi=>as.getD i .non) ((pick q1 ts).map λo=>[o.bo,o.b]):=by have:=zV (d:=V.non) (d':=([]:List Int)) (uL pr s4) hin;rw[q49 (λo=>[o.bo,o.b]) hin']at this;exact this
 generalize q1.map (λi=>as.getD i V.non)=as2 at h4 pr4 ⊢;generalize pick q1 ts=A at AP w1 pr4 ⊢;have sm4:=sm.trans s4;refine⟨_,rfl,sa,ns,5,rfl,sm4.seq hS,by decide,_,_,rfl,rfl,(by show(0:Int)<4;decide),iI ⟨_,rfl,sl,as2,rfl,SqL.of h4,λse ne=>?_⟩⟩;have mm:=vS (jW ns 5) 4 (by decide);rw[qFE (by lia)];have s5:Same H4 (upd H4 se (.lst (as2.take (winM ns).toNat))):=Same.upd ne;have h5:(upd H4 se (.lst (as2.take (winM ns).toNat))) se=some (.lst (as2.take (winM ns).toNat)):=qI;show vZ 3 _ _ (upd H4 se (.lst (as2.take (winM ns).toNat))) _;generalize upd H4 se (.lst (as2.take (winM ns).toNat))=H5 at s5 h5 ⊢;have sm5:=sm4.trans s5;have pr5:Paired (TupD H5) (as2.take (winM ns).toNat) ((A.take (winM ns).toNat).map λo=>[o.bo,o.b]):=by have:=Paired.takeP (winM ns).toNat (uL pr4 s5);rw[←List.map_take]at this;exact this
 refine⟨_,rfl,l,rfl,⟨us,sm5.seq hl⟩,λD2 H6 nD2 s6 hD2=>?_⟩;have sm6:=sm5.trans s6;refine vM (K:=K) (xs:=us) (D:=D2) (λi H7=>∃vs,Same H5 H7∧H7 D2=some (.lst vs)∧vs.length≤i∧Tls H7 vs ((ts.take i).filter λT=>decide ([T.bo,T.b]∈(A.take (winM ns).toNat).map λo=>[o.bo,o.b]))) ⟨[],s6,hD2,kN _,.nil⟩ (λi H7 hp=>by obtain⟨vs,s7,_⟩:=hp;exact(sm5.trans s7).seq hl) (λi y H7 hy hp=>?_) (λH7 hp=>?_)
 ·obtain⟨vs,s7,hd7,lv,tl⟩:=hp;obtain⟨O,hO,va,rfl,hva⟩:=Paired.at ty hy;obtain⟨hi,rfl⟩:=kD.mp hO;have v7:=(sm5.trans s7) _ _ hva;refine⟨_,rfl,iT (k:=3) (v:=_) (SqT.of v7) rfl ⟨_,rfl,iT (k:=0) (v:=_) (SqT.of v7) rfl ⟨sz2,λtp H8 n8 s8 h8=>?_⟩⟩⟩;refine⟨_,rfl,tp,se,[ts[i].bo,ts[i].b],as2.take (winM ns).toNat,(A.take (winM ns).toNat).map λo=>[o.bo,o.b],rfl,rfl,SqT.of h8,SqL.of (s8 _ _ (s7 _ _ h5)),?_,_,rfl,?_⟩
  ·exact Paired.imp' (F:=λu r=>TupD H5 u r∧r∈(A.take (winM ns).toNat).map λo=>[o.bo,o.b]) (λu r ⟨⟨p,e,hp⟩,hr⟩=>⟨p,e,SqT.of (s8 _ _ (s7 _ _ hp)),by obtain⟨o,_,rfl⟩:=kY.mp hr;rfl⟩) (q8U pr5)
  rw[←mD hi,gL];have hd8:=s8 _ _ hd7;by_cases z:[ts[i].bo,ts[i].b]∈(A.take (winM ns).toNat).map λo=>[o.bo,o.b]
  ·rw[hG z];refine iteT ⟨_,rfl,vs,hd8,by lia,vs++[.ref va],λb o e=>?_,qI,?_,?_⟩
   ·rw[qC (qH e nD2)];exact s8 _ _ (s7 _ _ e)
   ·rw[kO];exact xU lv
   rw[mV,kF (hG z)];exact L2.Paired.snoc (Paired.mapP (tl.same s8) λx k ⟨p,e,h⟩=>⟨p,e,by rw[qC (jH h hd8 (by intro q;cases q))];exact h⟩) ⟨va,rfl,by rw[qC (jH (s8 _ _ v7) hd8 (by intro q;cases q))];exact s8 _ _ v7⟩
  rw[hU z];refine iteF ⟨vs,s7.trans s8,hd8,by lia,?_⟩;rw[mV,hV (by rw[hU z];decide),aF,dB];exact tl.same s8
 obtain⟨vs,s7,hd7,lv,tl⟩:=hp;rw[hlen,mZ,qGJ pw AP w1]at tl;exact q D2 vs H7 (sm5.trans s7) (SqL.of hd7) tl
rw[show(!decide (V.int (kd:Int)=V.int 5))=true by simp;lia]
refine iteT ⟨_,rfl,q l us H (Same.refl H) hl ?_⟩
unfold q3H
rw[hV z]
exact ty)
noncomputable def gK(ns:List Int)(asked:Nat):Nat→Rl
|0=>.rk λ_ _=>Tl.lv
|1=>.rk λ_ _=>Tl.bo
|2=>.rk λ_ _=>wgt ns
|3=>.fol (blkL ns) (min asked 9)
|4=>.rk λpg nw=>rkW pg nw mnC
|_=>.win (winM ns)
theorem qLZ{ns:List Int}{n kd:Nat}{pg nw:Int}{ts:List Tl}(k5:kd≤5)(k3:kd≠3):((gK ns n kd).ch pg nw ts).1=pk (rkK ns pg nw kd) (q3H ns kd ts):=by
 have e6:kd=0∨kd=1∨kd=2∨kd=4∨kd=5:=by lia
 rcases e6 with rfl|rfl|rfl|rfl|rfl<;>rfl
theorem qI8{ns:List Int}{kd:Nat}{ts:List Tl}:∀o∈q3H ns kd ts,o∈ts:=λo ho=>by(
unfold q3H at ho
split at ho
·exact qD5 o ho
exact ho)
theorem qI9{ns:List Int}{kd:Nat}{ts:List Tl}(h:ts≠[]):q3H ns kd ts≠[]:=by(
unfold q3H
split
·refine qD6 ?_ h;have:=vS (jW ns 5) 4 (by decide);unfold winM;lia
exact h)
inductive spDu(vs:List V)(H:Hp)(Q:VK)(E_:XK):Prop
|mk:∀(kd:Nat) (l sa:Addr) (us:List V) (ts:List Tl) (ns:List Int) (n:Nat) (pg nw:Int),vs=[.int (kd:Int),.ref l,.ref sa,.int (n:Int),.int pg,.int nw]→kd≤5→SqL K H l us→Tls H us ts→TsOk pg nw ts→SqL K H sa (List.map V.int ns)→(∀H',Same H H'→Q (.int ((gK ns n kd).ch pg nw ts).1) H')→spDu vs H Q E_
theorem q7N(T:Txt K mg t)(S:Fns K t):S.aB8.Ok0 P w mg base 4 spDu:=by(
refine S.aB8.F.ok0 vD λcdv A _ s H vs Q E hr h=>?_
obtain⟨kd,l,sa,us,ts,ns,n,pg,nw,rfl,k5,hl,ty,to,hS,q⟩:=h
have hlen:=ty.len
have l16:=to.ln
have s99:(16:Nat)<sizeLine:=by decide
refine⟨_,(qB (j9 (qQ yO (pv 0) qG (qO _)) (qB (qS (i:=6) vD.nd rfl (Or.inl rfl) (qU (q3G T S).mono hr rfl T.aAA T.t7 S.oP.b .nil qK (qA (pv 2) qE))) (qB (j9 (qK2 (PW.pt (q4O (qQ q1L (pv 3) (qX qY (by rfl) T.oI gC (qA (pv 6) qE)) (qO _)) (q2V (qQ q8F (qV jE (pv 6) (pv 3) (λ_ _=>rfl)) (vE ["_law_tally"] [] rfl (yC (pv 1)) (λ_ _ _ _ _=>(jA (i:=0) (show List.Nodup (["_law_tally"]:List Str)from by decide) rfl (Or.inl rfl))) (λ_ _ _ _ _=>q44) (λ_ _ _ _ _=>(qV (zF (K:=K) rfl) (pv 0) qG (λ_ _=>rfl))) (by kernel_rfl) (yJ (by decide))) rfl))))) (qD (qL (qV jE (pv 6) (pv 3) (λ_ _=>rfl)))) qR) (qD (qL (qV qZ (qV jE (pv 1) qG (λ_ _=>rfl)) qG (λ_ _=>rfl)))))) qR) (qB (qS (i:=7) vD.nd rfl (Or.inl rfl) (qU (qBI T S).mono hr rfl T.aDA T.aDH S.aCN.b .nil qK (qA (pv 0) (qA (pv 1) (qA (pv 2) qE))))) (qB (qS (i:=8) vD.nd rfl (Or.inl rfl) (qV jE (pv 7) qG (λ_ _=>rfl))) (qB (zY dF rfl (yC (pv 7)) (jA (i:=9) vD.nd rfl (Or.inl rfl)) (qD (j9 (jG (qU (qBH T S).mono hr rfl T.aDB T.aC9 S.aB4.b .nil qK (qA (pv 0) (qA (pv 9) (qA (pv 8) (qA (pv 2) (qA (pv 4) (qA (pv 5) qE)))))))) (qD (qS (i:=8) vD.nd rfl (Or.inl rfl) (pv 9))) qR))) (qD (qL (qV qZ (pv 8) qG (λ_ _=>rfl)))))))),?_⟩
try dsimp-beta-proj-iota-zeta-eta only[wishK,cxK]
refine⟨_,rfl,rfl,_,rfl,?_⟩
by_cases z:kd=3
·subst z;refine iteT ?_;refine⟨_,rfl,sa,ns,rfl,hS,λbl H1 n1 s1 h1=>?_⟩;have lb:(blkL ns).length=9:=by unfold blkL;rw[h9,mQ]
 have hd0:atI us 0=some (us.getD 0 .non):=by
  have:0<us.length:=by rw[hlen];exact wO.mpr to.ne
  exact yD (by rw[kI,kC this];rfl)
 obtain⟨O0,r0,eT⟩:∃A r,ts=A::r:=by
  cases ts with
  |nil=>exact absurd rfl to.ne
  |cons A r=>exact⟨A,r,rfl⟩
 refine⟨λb H'=>Same H1 H'∧b=decide (∃m,(blkL ns)[n]?=some m∧m∈ts.map Tl.b),?_,?_⟩
 ·refine⟨_,rfl,_,rfl,bl,_,rfl,.inl (SqL.of h1),iI ⟨_,rfl,?_⟩⟩;rw[h9,lb];by_cases y:n<9
  ·rw[hG (show(n:Int)<((9:Nat):Int) by lia)];refine iteT ?_;have en:(blkL ns)[n]?=some ((blkL ns)[n]'(by lia)):=kC (by lia);generalize (blkL ns)[n]'(by lia)=m at en;refine⟨_,rfl,_,rfl,iL (k:=_) (v:=.int m) (SqL.of h1) (yD (by rw[mC,en];rfl)) ?_⟩;refine⟨_,rfl,l,rfl,⟨us,s1.seq hl⟩,λD H2 nD s2 hD=>?_⟩;refine vM (K:=K) (xs:=us) (D:=D) (λi H3=>Same H1 H3∧H3 D=some (.lst (((ts.take i).map Tl.b).map V.int))) ⟨s2,hD⟩ (λi H3 hp=>(s1.trans hp.1).seq hl) (λi x H3 hx hp=>?_) (λH3 hp=>?_)
   ·obtain⟨sm,hd⟩:=hp;obtain⟨O,hO,xa,rfl,hxa⟩:=Paired.at ty hx;obtain⟨hi,rfl⟩:=kD.mp hO;refine⟨_,rfl,iT (k:=0) (v:=_) (SqT.of (sm _ _ (s1 _ _ hxa))) rfl ⟨_,hd,?_,λb o e=>?_,?_⟩⟩
    ·rw[h9,h9,gH];lia
    ·rw[qC (qH e nD)];exact sm _ _ e
    rw[qI,←mD hi,mR,mR];rfl
   obtain⟨sm,hd⟩:=hp;rw[hlen,mZ]at hd;refine⟨D,_,rfl,.inl (SqL.of hd),rfl,?_,_,rfl,sm,?_⟩
   ·rw[List.all_map];exact gW.mpr λ_ _=>rfl
   rw[hV kM,q64];exact cN.mpr ⟨λh=>⟨m,en,h⟩,λ⟨m',e',h⟩=>by rw[en]at e';cases e';exact h⟩
  rw[hU (show ¬(n:Int)<((9:Nat):Int) by lia)];refine iteF ⟨Same.refl _,?_⟩;rw[hU (λ⟨m,e,_⟩=>by rw[gM (by lia)]at e;cases e)]
 rintro b H2 ⟨s2,rfl⟩
 have q':Q (.int (fo (blkL ns) n ts)) H2:=by have:=q H2 (s1.trans s2);rw[show((gK ns n 3).ch pg nw ts).1=fo (blkL ns) (min n 9) ts from rfl,←lb,qKN]at this;exact this
 by_cases y:∃m,(blkL ns)[n]?=some m∧m∈ts.map Tl.b
 ·rw[hG y];obtain⟨m,e,hm⟩:=y;refine iteT ⟨_,rfl,_,rfl,iL (k:=_) (v:=.int m) (SqL.of (s2 _ _ h1)) (yD (by rw[mC,e];rfl)) ?_⟩;unfold fo at q';rw[e]at q';dsimp only at q';rw[kF hm]at q';exact q'
 rw[hU y];have ef:fo (blkL ns) n ts=O0.b:=by
  unfold fo;cases e:(blkL ns)[n]? with
  |none=>rw[eT];rfl
  |some m=>dsimp only;rw[hV (λhm=>y ⟨m,e,hm⟩),eT];rfl
 rw[ef]at q';rw[eT]at ty;cases ty with
 |cons h0 t0=>obtain⟨xa,rfl,hxa⟩:=h0;exact iteF ⟨_,rfl,l,_,0,.ref xa,rfl,rfl,(s1.trans s2).seq hl,yD (j:=0) rfl,iT (k:=0) (v:=_) (SqT.of (s2 _ _ (s1 _ _ hxa))) rfl q'⟩
rw[show decide (V.int (kd:Int)=V.int 3)=false by simp;lia]
refine iteF ?_
refine⟨_,rfl,_,rfl,_,rfl,kd,l,sa,us,ts,ns,rfl,k5,hl,ty,to.pw,to.ln,hS,λl' us' H1 s1 hl' ty'=>?_⟩
have ne':=qI9 (ns:=ns) (kd:=kd) to.ne
have oks:∀o∈q3H ns kd ts,o.Ok pg nw:=λo ho=>to.ok o (qI8 o ho)
have q1:∀H',Same H1 H'→Q (.int (pk (rkK ns pg nw kd) (q3H ns kd ts))) H':=λH' s'=>by rw[←qLZ (n:=n) k5 z];exact q H' (s1.trans s')
generalize q3H ns kd ts=ts' at ty' ne' oks q1
obtain⟨A0,r0,rfl⟩:∃A r,ts'=A::r:=by
 cases ts' with
 |nil=>exact absurd rfl ne'
 |cons A r=>exact⟨A,r,rfl⟩
obtain⟨x0,us0,rfl,⟨xa0,rfl,hx0⟩⟩:∃x0 us0,us'=x0::us0∧TlAt H1 x0 A0:=by
 cases ty' with
 |cons h t=>exact⟨_,_,rfl,h⟩
refine⟨_,rfl,l',_,0,.ref xa0,rfl,rfl,hl',yD (j:=0) rfl,?_⟩
refine⟨_,rfl,l',rfl,⟨_,hl'⟩,?_⟩
refine q8T (K:=K) (xs:=.ref xa0::us0) (λi σ' H'=>∃y9 v A,σ'=[some (.int (kd:Int)),some (.ref l),some (.ref sa),some (.int (n:Int)),some (.int pg),some (.int nw),none,some (.ref l'),some v,y9]∧TlAt H1 v A∧A∈A0::r0∧H'=H1∧(i=0→A=A0)∧(0<i→Bst (rkK ns pg nw kd) ((A0::r0).take i) A)) ⟨_,_,A0,rfl,⟨xa0,rfl,hx0⟩,kQ,rfl,λ_=>rfl,λz=>absurd z (dM _)⟩ (λi σ' H' _ hp=>?_) (λi v σ' H' D' nxt hv hp=>?_) (λσ' H' hp=>?_)
·obtain⟨y9,v,A,rfl,_,_,rfl,_⟩:=hp;exact hl'
·obtain⟨y9,v',A,rfl,hA',hA,rfl,i0,bs⟩:=hp;obtain⟨C,hC,hc'⟩:=Paired.at ty' hv;obtain⟨il,rfl⟩:=kD.mp hC;have stp:Bst (rkK ns pg nw kd) ((A0::r0).take (i+1)) (bst (rkK ns pg nw kd) A (A0::r0)[i]):=by
  rw[←mD il];cases i with
  |zero=>rw[i0 rfl];show Bst _ [A0] (bst _ A0 A0);unfold bst;rw[hV (a7 _)];exact Bst.one
  |succ j=>exact(bs (Nat.succ_pos _)).step
 have hCm:(A0::r0)[i]∈A0::r0:=gD il;generalize (A0::r0)[i]=C at hc' stp hCm;refine⟨_,rfl,_,rfl,_,rfl,_,rfl,_,rfl,_,rfl,kd,v,v',sa,ns,pg,nw,C,A,rfl,k5,z,hc',hA',oks C hCm,oks A hA,to.p1,to.p2,s1.seq hS,_,rfl,?_⟩;by_cases g:rkK ns pg nw kd C<rkK ns pg nw kd A
 ·rw[hG g];refine iteT ⟨_,rfl,nxt _ _ ⟨_,_,C,rfl,hc',hCm,rfl,λz=>(by cases z),λ_=>?_⟩⟩;rw[show C=bst (rkK ns pg nw kd) A C from(kF g).symm];exact stp
 rw[hU g];refine iteF (nxt _ _ ⟨_,_,A,rfl,hA',hA,rfl,λz=>(by cases z),λ_=>?_⟩);rw[show A=bst (rkK ns pg nw kd) A C from(hV g).symm];exact stp
obtain⟨y9,v,A,rfl,⟨xa,rfl,hxa⟩,hA,rfl,i0,bs⟩:=hp
have b:=bs (Nat.succ_pos _)
rw[show(V.ref xa0::us0).length=(A0::r0).length from ty'.len,mZ]at b
have:=q1 H' (Same.refl _)
rw[b.pk]at this
exact⟨_,rfl,iT (k:=0) (v:=_) (SqT.of hxa) rfl this⟩)
inductive spPa(vs:List V)(H:Hp)(Q:VK)(E_:XK):Prop
|mk:∀(v:V) (p:Pa) (kd:Nat) (sa:Addr) (ns:List Int) (n:Nat) (pg nw:Int) (F:List Addr),vs=[v,.int (kd:Int),.ref sa,.int (n:Int),.int pg,.int nw]→PapA H F v p→p.why=Str.ofString "rule"→kd≤5→TsOk pg nw p.ts→(p.b:Int)=((gK ns n kd).ch pg nw p.ts).1→SqL K H sa (List.map V.int ns)→(∀H',Same H H'→Q (.bl true) H')→spPa vs H Q E_
theorem qA2(T:Txt K mg t)(S:Fns K t):S.aBI.Ok0 P w mg base 5 spPa:=by(
refine S.aBI.F.ok0 q9S λcdv A _ s H vs Q E hr h=>?_
obtain⟨v,p,kd,sa,ns,n,pg,nw,F,rfl,⟨pa,l1,l2,us,rs,rfl,hpa,h1,ty,h2,pm,_⟩,why,k5,to,eb,hS,q⟩:=h
rw[why]at hpa
have ne:rs≠[]:=λz=>to.ne (g4 (by rw[←ty.len,z];rfl))
refine⟨_,(qB (j9 (PW.pt (q1W (jU (jG (qX yQ (by rfl) T.eD (by kernel_rfl) (qA (pv 0) (qA (q0U rfl T.aD5 (by kernel_rfl) rfl (v:=.ty "tuple")) qE))))) (q1W (qQ q3B (qX qY (by rfl) T.oI gC (qA (pv 0) qE)) qG (qO _)) (q3J (qQ q3B (qV qZ (pv 0) qG (λ_ _=>rfl)) q1V (qO _)))))) (qD (qL vJ)) qR) (qB (j9 (PW.pt (q1W (jU (jG (qX yQ (by rfl) T.eD (by kernel_rfl) (qA (qV qZ (pv 0) qG (λ_ _=>rfl)) (qA (q0U rfl T.aB2 (by kernel_rfl) rfl (v:=.ty "list")) qE))))) (q1W (qQ (q97 hr.units) (qV qZ (pv 0) qG (λ_ _=>rfl)) (yA qE) (qO _)) (q3J (jU (jG (qU (q4J T S).mono hr rfl T.aAM T.aAN S.t9.b .nil qK (qA (qV qZ (pv 0) qG (λ_ _=>rfl)) qE)))))))) (qD (qL vJ)) qR) (qD (qL (jR yO (qV qZ (pv 0) qG (λ_ _=>rfl)) (qU (q7N T S).mono hr rfl T.aBY T.aBZ S.aB8.b .nil qK (qA (pv 1) (qA (qV qZ (pv 0) qG (λ_ _=>rfl)) (qA (pv 2) (qA (pv 3) (qA (pv 4) (qA (pv 5) qE))))))) (qO _)))))),?_⟩
try dsimp-beta-proj-iota-zeta-eta only[wishK,cxK]
refine⟨_,rfl,.ref pa,_,_,.type "tuple",_,rfl,rfl,.inl (.tup hpa),qEW,_,rfl,iteF ?_⟩
refine⟨_,rfl,pa,_,rfl,.inr (SqT.of hpa),rfl,_,rfl,iteF ?_⟩
refine⟨_,rfl,iT (k:=0) (v:=_) (SqT.of hpa) rfl ⟨rfl,_,rfl,iteF ?_⟩⟩
refine⟨_,rfl,iT (k:=1) (v:=_) (SqT.of hpa) rfl ⟨.ref l1,_,_,.type "list",_,rfl,rfl,.inl (.lst h1),qJW,_,rfl,iteF ?_⟩⟩
refine⟨_,rfl,iT (k:=1) (v:=_) (SqT.of hpa) rfl ⟨sz0,λe6 H6 n6 s6 h6=>⟨l1,_,e6,rfl,rfl,SqL.of (s6 _ _ h1),SqL.of h6,_,rfl,?_⟩⟩⟩
cases rs with
|nil=>exact absurd rfl ne
|cons u0 us0=>have p6:=s6 _ _ hpa;refine iteF ⟨_,rfl,iT (k:=2) (v:=_) (SqT.of p6) rfl ⟨_,rfl,.int _,_,rfl,iteF ?_⟩⟩;refine⟨_,rfl,iT (k:=2) (v:=_) (SqT.of p6) rfl ?_⟩;refine⟨_,rfl,_,rfl,iT (k:=1) (v:=_) (SqT.of p6) rfl ⟨_,rfl,_,rfl,_,rfl,_,rfl,kd,l1,sa,_,p.ts,ns,n,pg,nw,rfl,k5,SqL.of (s6 _ _ h1),ty.same s6,to,s6.seq hS,λH7 s7=>⟨rfl,?_⟩⟩⟩;rw[zZ,←eb,hG rfl];exact q H7 (s6.trans s7))
theorem gK_n{ns:List Int}{n a kd:Nat}:gN (gK ns n kd) a=gK ns (n+a) kd:=by(
unfold gK
split
·rfl
·rfl
·rfl
·show Rl.fol _ _=Rl.fol _ _;have:(blkL ns).length=9:=by unfold blkL;rw[h9,mQ]
 congr 1;lia
·rfl
rfl)
inductive spPs(vs:List V)(H:Hp)(Q:VK)(E_:XK):Prop
|mk:∀(l:Addr) (us:List V) (ps:List Pa) (kd:Nat) (sa:Addr) (ns:List Int) (n:Nat) (pg nw:Int) (F:List Addr),vs=[.ref l,.int (kd:Int),.ref sa,.int (n:Int),.int pg,.int nw]→H l=some (.lst us)→Paired (PapA H F) us ps→kd≤5→Chn pg (gK ns n kd) nw ps→SqL K H sa (List.map V.int ns)→(∀H',Same H H'→Q (.bl true) H')→spPs vs H Q E_
theorem PapA.same{H H':Hp}{F:List Addr}{v:V}{p:Pa}(h:PapA H F v p)(s:Same H H'):PapA H' F v p:=h.keep (Keep.same s) (G:=[]) (by simp)
theorem q84(T:Txt K mg t)(S:Fns K t):S.aAG.Ok0 P w mg base 6 spPs:=by(
refine S.aAG.F.ok0 vH λcdv A _ s H vs Q E hr h=>?_
obtain⟨l,us,ps,kd,sa,ns,n,pg,nw,F,rfl,hl,pr,k5,ch,hS,q⟩:=h
refine⟨_,(qB (zY dF rfl (yC (pv 0)) (jA (i:=6) vH.nd rfl (Or.inl rfl)) (qB (j9 (jU (jG (qU (qA2 T S).mono hr rfl T.aCT T.aCY S.aBI.b .nil qK (qA (pv 6) (qA (pv 1) (qA (pv 2) (qA (pv 3) (qA (pv 4) (qA (pv 5) qE))))))))) (qD (qL vJ)) qR) (qB (qS (i:=3) vH.nd rfl (Or.inl rfl) (qN jV (pv 3) qG)) (qD (qS (i:=5) vH.nd rfl (Or.inl rfl) (qN jV (pv 5) (qX qY (by rfl) T.oI gC (qA (qV qZ (pv 6) qG (λ_ _=>rfl)) qE)))))))) (qD (qL vJ))),?_⟩
try dsimp-beta-proj-iota-zeta-eta only[wishK,cxK]
refine⟨_,rfl,l,rfl,⟨us,SqL.of hl⟩,?_⟩
refine q8T (K:=K) (xs:=us) (λi σ' H'=>∃y6 nw',σ'=[some (.ref l),some (.int (kd:Int)),some (.ref sa),some (.int ((n+i:Nat):Int)),some (.int pg),some (.int nw'),y6]∧Same H H'∧Chn pg (gK ns (n+i) kd) nw' (ps.drop i)) ⟨_,_,rfl,Same.refl H,ch⟩ (λi σ' H' _ hp=>?_) (λi v σ' H' D' nxt hv hp=>?_) (λσ' H' hp=>?_)
·obtain⟨y6,nw',rfl,sm,_⟩:=hp;exact sm.seq (SqL.of hl)
·obtain⟨y6,nw',rfl,sm,ch⟩:=hp;obtain⟨p,hp,pa⟩:=Paired.at pr hv;obtain⟨il,rfl⟩:=kD.mp hp;rw[dH il]at ch;obtain⟨why,to,eb,ch⟩:=ch;rw[gK_n]at ch;have pa2:=pa.same sm;refine⟨_,rfl,_,rfl,_,rfl,_,rfl,_,rfl,_,rfl,v,ps[i],kd,sa,ns,n+i,pg,nw',F,rfl,pa2,why,k5,to,eb,sm.seq hS,λH2 s2=>⟨_,rfl,iteF ?_⟩⟩;obtain⟨pb,l1,l2,us2,rs,rfl,hpa,h1,ty,h2,pm,_⟩:=pa2.same s2;refine⟨_,rfl,iI ?_⟩;refine⟨_,rfl,_,rfl,iT (k:=3) (v:=_) (SqT.of hpa) rfl ⟨l2,_,rfl,.inl (SqL.of h2),iI ?_⟩⟩;rw[pm.len];exact nxt _ _ ⟨_,_,rfl,sm.trans s2,ch⟩
obtain⟨y6,nw',rfl,sm,_⟩:=hp
exact q H' sm)
inductive spPn(t:Adr)(vs:List V)(H:Hp)(Q:VK)(E_:XK):Prop
|mk:∀c a m,vs=[.ref c]→ChipAt t.C_Chip H c a m→m.rc.length<1000000→(∀H',Same H H'→Q (.int (ptN m.rc:Nat)) H')→spPn t vs H Q E_
theorem q5L(T:Txt K mg t)(S:Fns K t):S.aAW.Ok0 P w mg base 2 (spPn t):=by(
refine S.aAW.F.ok0 qBA λcdv A _ s H vs Q E hr h=>?_
obtain⟨c,a,m,rfl,hc,l9,k⟩:=h
have s9:(1000000:Nat)<sizeLine:=by decide
refine⟨_,(qD (qL (qX qY (by rfl) T.oI gC (qA (vE ["_law_deed"] [] rfl (yC (qW (pv 0) T.bG T.f9 (vI T S).mono hr S.fR.b .nil qK)) (λ_ _ _ _ _=>(jA (i:=0) (show List.Nodup (["_law_deed"]:List Str)from by decide) rfl (Or.inl rfl))) (λ_ _ _ _ _=>(zE (qQ yO (qV (zF (K:=K) rfl) (pv 0) qG (λ_ _=>rfl)) q1V (qO _)))) (λ_ _ _ _ _=>(pv 0)) (by kernel_rfl) (yJ (by decide))) qE)))),?_⟩
try dsimp-beta-proj-iota-zeta-eta only[wishK,cxK]
refine(iV rfl (iM hc.ins rfl ⟨c,a,m,rfl,hc,λrs er pr p H1 n1 s1 h1=>?_⟩))
have pr1:Recd H1 rs m.rc:=Paired.mapP pr λv d ⟨p',e',h'⟩=>⟨p',e',s1 _ _ h'⟩
refine⟨p,rfl,⟨_,SqL.of h1⟩,λD H2 nD s2 hD=>?_⟩
refine vM (K:=K) (xs:=rs) (D:=D) (λi H3=>∃us,Same H1 H3∧H3 D=some (.lst us)∧us.length=ptN (m.rc.take i)∧us.length≤i) ⟨[],s2,hD,rfl,kN _⟩ (λi H3 hp=>by obtain⟨us,sm,_⟩:=hp;exact SqL.of (sm _ _ h1)) (λi y H3 hy hp=>?_) (λH3 hp=>?_)
·obtain⟨us,sm,hd,lu,li⟩:=hp;obtain⟨d,hd',tp,rfl,htp⟩:=Paired.at pr1 hy;obtain⟨hi,ed⟩:=kD.mp hd';refine⟨_,rfl,iT (k:=0) (v:=_) (SqT.of (sm _ _ htp)) rfl ⟨rfl,_,rfl,?_⟩⟩;have et:ptN (m.rc.take (i+1))=ptN (m.rc.take i)+(if d.1=Str.ofString "put" then 1 else 0):=by
  rw[←mD hi,q4F,ed];congr 1;unfold ptN;rw[mV];by_cases z:d.1=Str.ofString "put"
  ·rw[hG z,kF z];rfl
  rw[hU z,hV z];rfl
 rw[et];by_cases z:d.1=Str.ofString "put"
 ·rw[kF z,show decide (V.str d.1=V.str (Str.ofString "put"))=true from hG (by rw[z])];refine iteT ?_;refine⟨_,rfl,us,hd,by lia,us++[.ref tp],λb o e=>?_,qI,?_,?_⟩
  ·rw[qC (qH e nD)];exact sm _ _ e
  ·rw[kO,lu];rfl
  rw[kO];exact xU li
 rw[hV z,show decide (V.str d.1=V.str (Str.ofString "put"))=false from hU (λy=>z (V.str.inj y))];exact iteF ⟨us,sm,hd,lu,by lia⟩
obtain⟨us,sm,hd,lu,li⟩:=hp
rw[pr.len,mZ]at lu
refine⟨D,us,rfl,.inl (SqL.of hd),?_⟩
rw[lu]
exact k H3 (s1.trans sm))
inductive spWe(t:Adr)(vs:List V)(H:Hp)(Q:VK)(E_:XK):Prop
|mk:∀x dx v,vs=[.ref x,v]→H x=some (.ins t.C_Weighed dx [])→Q .non (upd H x (.ins t.C_Weighed dx [("weigh",v)]))→spWe t vs H Q E_
theorem q5V(T:Txt K mg t)(S:Fns K t):S.oC.Ok0 P w mg base 1 (spWe t):=by(
refine S.oC.F.ok0 q5R λcdv A _ s H vs Q E hr h=>?_
obtain⟨x,dx,v,rfl,hx,q⟩:=h
refine⟨_,(qD (jD (pv 0) (pv 1) rfl)),?_⟩
try dsimp-beta-proj-iota-zeta-eta only[wishK,cxK]
exact⟨_,rfl,_,rfl,x,_,dx,_,rfl,hx,T.oS,T.i3,by simp,q⟩)
noncomputable def TbW(t:Adr)(H:Hp)(F:List Addr):Prop:=∃ps,H t.bL=some (.tbl ps)∧(ps=#[]∨∃c,ps=#[rawInt lmP.line,rawInt lmP.col,.ref c]∧H c=some (cdO c lmQ)∧c∉F)
noncomputable def RW'(t:Adr)(H H':Hp):Prop:=∀b o,b≠t.bL→H b=some o→H' b=some o
theorem TbW.same{H H':Hp}{F:List Addr}(h:TbW t H F)(s:Same H H'):TbW t H' F:=by obtain⟨ps,a,b⟩:=h;exact⟨ps,s _ _ a,b.imp id λ⟨c,e,hc,n⟩=>⟨c,e,s _ _ hc,n⟩⟩
theorem TbW.keep{H H':Hp}{F G:List Addr}(h:TbW t H F)(k:Keep G H H')(nT:t.bL∉G)(s:∀y∈G,y∈F):TbW t H' F:=by obtain⟨ps,a,b⟩:=h;exact⟨ps,k.k _ _ nT a,b.imp id λ⟨c,e,hc,n⟩=>⟨c,e,k.k _ _ (λz=>n (s _ z)) hc,n⟩⟩
theorem eqK(T:Txt K mg t){H:Hp}{r:Addr}{rl:List Addr}{g:Rl}(h:RuX t H r rl g):∃C d fs,H r=some (.ins C d fs)∧EqNo K C:=by(
cases g with
|rk f=>
 rcases h with⟨dx,a,b⟩|⟨dx,a,b⟩|⟨dx,a,b⟩|⟨dx,g,c,ca,sa,sb,ns,rfl,a,l,q,b⟩
 ·exact⟨_,_,_,a,T.aC7⟩
 ·exact⟨_,_,_,a,T.aEA⟩
 ·exact⟨_,_,_,a,T.aEL⟩
 exact⟨_,_,_,a,T.aDV⟩
|win m=>exact⟨_,_,_,h.2.choose_spec,T.aEC⟩
|fol row u=>obtain⟨dx,l,_,f,_⟩:=h;exact⟨_,_,_,f.ins,T.aD8⟩)
noncomputable abbrev envR(n fa cc:Addr):Env:=PyProof.Rows.envOfC "_law_rule" (qF jZ) n fa (.ref cc)
theorem qIV{H1:Hp}{g c ca n fa cc:Addr}{pm ct:Value}(hk:(envR n fa cc).cells.lookup ("_law_script":Str)=some ca)(hg:H1 g=some (fnO g (W.kla_fn "<lambda>" lmQ lmA lmB lmSc (clOf (envR n fa cc) lmSc.names []) pm (.ref c) ct))):H1 g=some (fnO g (lmFd pm ct c ca)):=by rw[q6U hk rfl]at hg;exact hg
inductive spLr(t:Adr)(vs:List V)(H:Hp)(Q:VK)(E_:XK):Prop
|mk:∀(kd:Nat) (sa:Addr) (ns:List Int) (F:List Addr),vs=[.int (kd:Int),.ref sa]→kd≤5→SqL K H sa (List.map V.int ns)→(∀y∈F,∃o,H y=some o)→(sa∉F∨SqL K (λ_=>none) sa (List.map V.int ns))→TbW t H F→(∀r rl H',RuX t H' r rl (gK ns 0 kd)→(∀y∈r::rl,y∉F)→TbW t H' F→RW' t H H'→Q (.ref r) H')→spLr t vs H Q E_
theorem qBJ(T:Txt K mg t)(S:Fns K t)(B:BmIn base mg):FnOk P w K mg base (CX0) 5 t.f_law_rule S.tP ["_law_kind","_law_script"] (spLr t):=by(
refine S.aDZ.okR qB9 "_law_script" 1 rfl (by decide+kernel) (λvs H Q E h=>?_) (λA outer s H vs Q E hr h=>?_)
·repeat obtain⟨_,h⟩:=h
 all_goals subst_vars;rfl
obtain⟨kd,sa,ns,F,rfl,k5,hS,hF,nS,tw,q⟩:=h
refine⟨.ref sa,rfl,λca hca=>?_⟩
have nF:∀{H1:Hp} {b:Addr},RW' t H H1→(∃ps,H1 t.bL=some (.tbl ps))→H1 b=none→b∉F:=fun {H1 b} rw1 ⟨ps,hT⟩ n z=>by
 obtain⟨o,e⟩:=hF b z;by_cases y:b=t.bL
 ·rw[y,hT]at n;cases n
 rw[rw1 _ _ y e]at n;cases n
have mk:∀{C r d:Addr} {fs:List (Str×V)},H r=none→H d=none→(∀H',H' r=some (.ins C d fs)→RuX t H' r [] (gK ns 0 kd))→(upd (upd H d (.own r)) r (.ins C d fs)) ca=none→Q (.ref r) (upd (upd (upd H d (.own r)) r (.ins C d fs)) ca (clO ca (.ref sa))):=fun {C r d fs} nr nd hR nc=>by
 have s:Same H (upd (upd H d (.own r)) r (.ins C d fs)):=λb o e=>by rw[qC (qH e nr),qC (qH e nd)];exact e
 have s2:=s.trans (Same.upd (o:=clO ca (.ref sa)) nc);refine q r [] _ (hR _ (Same.upd nc _ _ qI)) (λy hy=>?_) (tw.same s2) (λb o _ e=>s2 b o e);rw[hX.mp hy];obtain⟨ps,hT,_⟩:=tw;exact nF (λb o _ e=>e) ⟨ps,hT⟩ nr
have wei:∀{r d g c:Addr} {pm ct:Value} {H1:Hp},H g=none→H1 g=some (fnO g (lmFd pm ct c ca))→H1 c=some (cdO c lmQ)→c∉F→TbW t H1 F→RW' t H H1→H1 r=none→H1 d=none→(upd (upd H1 d (.own r)) r (.ins t.C_Weighed d [("weigh",.ref g)])) ca=none→kd=2→Q (.ref r) (upd (upd (upd H1 d (.own r)) r (.ins t.C_Weighed d [("weigh",.ref g)])) ca (clO ca (.ref sa))):=fun {r d g c pm ct H1} ng e1 e2 nc1 tw1 rw1 nr nd nc ek=>by
 have s:Same H1 (upd (upd H1 d (.own r)) r (.ins t.C_Weighed d [("weigh",.ref g)])):=λb o e=>by rw[qC (qH e nr),qC (qH e nd)];exact e
 have h2:(upd (upd H1 d (.own r)) r (.ins t.C_Weighed d [("weigh",.ref g)])) r=some (.ins t.C_Weighed d [("weigh",.ref g)]):=qI;generalize upd (upd H1 d (.own r)) r (.ins t.C_Weighed d [("weigh",.ref g)])=H2 at s h2 nc ⊢;have s3:Same H2 (upd H2 ca (clO ca (.ref sa))):=Same.upd nc;have hT1:∃ps,H1 t.bL=some (.tbl ps):=let⟨ps,a,_⟩:=tw1;⟨ps,a⟩
 have hT0:∃ps,H t.bL=some (.tbl ps):=let⟨ps,a,_⟩:=tw;⟨ps,a⟩
 have rw2:RW' t H H2:=λb o nb e=>s _ _ (rw1 b o nb e);have hT2:∃ps,H2 t.bL=some (.tbl ps):=let⟨ps,a⟩:=hT1;⟨ps,s _ _ a⟩
 have hS3:SqL K (upd H2 ca (clO ca (.ref sa))) sa (List.map V.int ns):=by
  rcases hS with(h|⟨o,h⟩)|h
  ·exact .inl (.inl (s3 _ _ (rw2 _ _ (λz=>by obtain⟨ps,a⟩:=hT0;rw[z,a]at h;cases h) h)))
  ·exact .inl (.inr ⟨o,s3 _ _ (rw2 _ _ (λz=>by obtain⟨ps,a⟩:=hT0;rw[z,a]at h;cases h) h)⟩)
  exact .inr h
 obtain⟨sb,hsb,nsb⟩:∃sb,(sb=sa∨SqL K (λ_=>none) sa (List.map V.int ns))∧sb∉F:=by
  rcases nS with n|n
  ·exact⟨sa,.inl rfl,n⟩
  exact⟨g,.inr n,nF (λb o _ e=>e) hT0 ng⟩
 refine q r [g,c,ca,sb] _ ?_ (λy hy=>?_) ((tw1.same s).same s3) (λb o nb e=>s3 _ _ (rw2 b o nb e))
 ·rw[ek];exact .inr (.inr (.inr ⟨d,g,c,ca,sa,sb,ns,rfl,s3 _ _ h2,⟨pm,ct,s3 _ _ (s _ _ e1),s3 _ _ (s _ _ e2),qI,hS3,qH (s _ _ e1) nc,qH (s _ _ e2) nc⟩,hsb,rfl⟩))
 have hy:y=r∨y=g∨y=c∨y=ca∨y=sb:=by simpa using hy
 rcases hy with h|h|h|h|h
 ·rw[h];exact nF rw1 hT1 nr
 ·rw[h];exact nF (λb o _ e=>e) hT0 ng
 ·rw[h];exact nc1
 ·rw[h];exact nF rw2 hT2 nc
 rw[h];exact nsb
refine⟨_,(q6Y (qQ yO (pv 0) qG (qO _)) (q32 (q9A T.aB0 rfl T.aC3)) (q6Y (qQ yO (pv 0) qG (qO _)) (q32 (q9A T.aD3 rfl T.aEE)) (q6Y (qQ yO (pv 0) qG (qO _)) (q32 (q0Y T.aDW (q5V T S).mono hr rfl T.aDY S.oC.b .nil qK (qA (qI2 rfl T.aDF B (qD2 (by kernel_rfl)) rfl) qE))) (q6Y (qQ yO (pv 0) qG (qO _)) (q32 (q0Y T.aD6 (q7K T S).mono hr rfl T.aED S.tI.b .nil qK (qA (qU (q3G T S).mono hr rfl T.aAA T.t7 S.oP.b .nil qK (qA (pv 1) qE)) qE))) (q6Y (qQ yO (pv 0) qG (qO _)) (q32 (q9A T.aEF rfl T.aEJ)) (q32 (q0Y T.aD9 (q7J T S).mono hr rfl T.aEB S.tM.b .nil qK (qA (qN jV qG (qN yX (qU (jN T S).mono hr rfl T.bU T.bT S.bW.b .nil qK (qA (pv 1) (qA qG qE))) qG)) qE)))))))),?_⟩
try dsimp-beta-proj-iota-zeta-eta only[wishK,cxK]
have e6:kd=0∨kd=1∨kd=2∨kd=3∨kd=4∨kd=5:=by lia
rcases e6 with rfl|rfl|rfl|rfl|rfl|rfl
·exact⟨_,rfl,rfl,_,rfl,iteT λr d nr nd nn nc=>mk nr nd (λH' e=>.inl ⟨d,e,rfl⟩) nc⟩
·exact⟨_,rfl,rfl,_,rfl,iteF ⟨_,rfl,rfl,_,rfl,iteT λr d nr nd nn nc=>mk nr nd (λH' e=>.inr (.inl ⟨d,e,rfl⟩)) nc⟩⟩
·refine⟨_,rfl,rfl,_,rfl,iteF ⟨_,rfl,rfl,_,rfl,iteF ⟨_,rfl,rfl,_,rfl,iteT ?_⟩⟩⟩;obtain⟨ps,hT,hp⟩:=id tw;rcases hp with rfl|⟨c,rfl,hc,nc1⟩
 ·refine⟨_,hT,trivial,.inl ⟨rfl,λg c ctv H1 ng ncH e1 e2 e3 kk r d nr nd nn=>?_⟩⟩;have e1:=qIV hca e1;have nT:c∉F:=nF (λb o _ e=>e) ⟨_,hT⟩ ncH;refine⟨r,d,.ref g,rfl,qI,rfl,λnc=>?_⟩;rw[q0T]at nc ⊢;exact wei ng e1 e2 nT ⟨_,e3,.inr ⟨c,rfl,e2,nT⟩⟩ kk nr nd nc rfl
 refine⟨_,hT,trivial,.inr ⟨c,by show codeAmong lmP _=_;rfl,λg ctv H1 ng e1 s1 r d nr nd nn=>?_⟩⟩;have e1:=qIV hca e1;refine⟨r,d,.ref g,rfl,qI,rfl,λnc=>?_⟩;rw[q0T]at nc ⊢;exact wei ng e1 (s1 _ _ hc) nc1 (tw.same s1) (λb o _ e=>s1 _ _ e) nr nd nc rfl
·refine⟨_,rfl,rfl,_,rfl,iteF ⟨_,rfl,rfl,_,rfl,iteF ⟨_,rfl,rfl,_,rfl,iteF ⟨_,rfl,rfl,_,rfl,iteT ?_⟩⟩⟩⟩;refine⟨_,rfl,sa,ns,rfl,hS,λbl H1 n1 s1 h1 r d nr nd nn=>?_⟩;have s2:=q61 (C:=t.C_Follow) nr nd;have h2:(upd (upd H1 d (.own r)) r (.ins t.C_Follow d [])) r=some (.ins t.C_Follow d []):=qI;show spFoI K t _ (upd (upd H1 d (.own r)) r (.ins t.C_Follow d [])) _ _;generalize upd (upd H1 d (.own r)) r (.ins t.C_Follow d [])=H2 at s2 h2 ⊢;refine⟨r,d,bl,blkL ns,rfl,h2,s2 _ _ h1,λrl H3 fo nl k3=>⟨rfl,λnc=>?_⟩⟩;have s12:=s1.trans s2;have s3:Same H H3:=λb o e=>k3 b o (qH (s1 _ _ e) nr) (s12 _ _ e);have s4:Same H3 (upd H3 ca (clO ca (.ref sa))):=Same.upd nc;have s34:=s3.trans s4;obtain⟨ps,hT,_⟩:=id tw;refine q r [rl] _ ⟨d,rl,rfl,⟨s4 _ _ fo.ins,s4 _ _ fo.row⟩,mL _,?_⟩ (λy hy=>?_) (tw.same s34) (λb o _ e=>s34 b o e)
 ·show(blkL ns).length≤100;unfold blkL;rw[h9,mQ];decide
 have hy:y=r∨y=rl:=by simpa using hy
 rcases hy with h|h
 ·rw[h];exact nF (λb o _ e=>s1 _ _ e) ⟨_,s1 _ _ hT⟩ nr
 rw[h];exact nF (λb o _ e=>s12 _ _ e) ⟨_,s12 _ _ hT⟩ nl
·exact⟨_,rfl,rfl,_,rfl,iteF ⟨_,rfl,rfl,_,rfl,iteF ⟨_,rfl,rfl,_,rfl,iteF ⟨_,rfl,rfl,_,rfl,iteF ⟨_,rfl,rfl,_,rfl,iteT λr d nr nd nn nc=>mk nr nd (λH' e=>.inr (.inr (.inl ⟨d,e,rfl⟩))) nc⟩⟩⟩⟩⟩
refine⟨_,rfl,rfl,_,rfl,iteF ⟨_,rfl,rfl,_,rfl,iteF ⟨_,rfl,rfl,_,rfl,iteF ⟨_,rfl,rfl,_,rfl,iteF ⟨_,rfl,rfl,_,rfl,iteF ?_⟩⟩⟩⟩⟩
have mm:=vS (jW ns 5) 4 (by decide)
refine⟨_,rfl,sa,ns,5,rfl,hS,by decide,_,_,rfl,rfl,(by show(0:Int)<4;decide),iI (λr d nr nd nn=>⟨r,d,_,rfl,qI,by lia,by lia,rfl,λnc=>?_⟩)⟩
rw[q0T]at nc ⊢
exact mk nr nd (λH' e=>⟨by show 1≤1+jW ns 5%4;lia,d,e⟩) nc)
theorem q4M{H:Hp}:∀{rs:List V} {ts:List Tl},Tls H rs ts→Paired (TupD H) rs (ts.map λT=>[T.b,T.lv,T.cl,T.bo])
|_,_,.nil=>.nil
|_,_,.cons ⟨p,e,h⟩ r=>.cons ⟨p,e,h⟩ (q4M r)
theorem q7O{H:Hp}{rs ds:List V}{L:List (List Int)}{p r:Addr}(n:Nat)(hp:H p=some (.lst rs))(hq:H r=some (.lst ds))(t1:Paired (TupD H) rs L)(t2:Paired (TupD H) ds L):Eqv K H (n+2) (.ref p) (.ref r):=by(
refine .lst (SqL.of hp) (SqL.of hq) (t1.len.trans t2.len.symm) λj x y hx hy=>?_
obtain⟨b,hb,x',rfl,hx'⟩:=Paired.at t1 hx
obtain⟨b',hb',y',rfl,hy'⟩:=Paired.at t2 hy
obtain rfl:b=b':=kL (hb.symm.trans hb')
refine .tup (SqT.of hx') (SqT.of hy') rfl λi u v hu hv=>?_
obtain rfl:u=v:=kL (hu.symm.trans hv)
rw[mC]at hu
obtain⟨z,_,rfl⟩:=m9.mp hu
exact .flat rfl)
theorem qIA{H:Hp}{F:List Addr}{v:V}{p:Pa}(h:PapA H F v p):Eqv K H 5 v v:=by(
obtain⟨pa,l1,l2,us,rs,rfl,hpa,h1,ty,h2,pm,_⟩:=h
refine .tup (SqT.of hpa) (SqT.of hpa) rfl λj u v hu hv=>?_
match j with
|0=>cases hu;cases hv;exact .flat rfl
|1=>cases hu;cases hv;exact q7O 2 h1 h1 (q4M ty) (q4M ty)
|2=>cases hu;cases hv;exact .flat rfl
|3=>cases hu;cases hv;exact q7O 2 h2 h2 pm pm
|4=>cases hu;cases hv;exact .flat rfl
|j+5=>cases hu)
noncomputable abbrev fz(t:Adr)(x:Sto)(pp:Addr):List Addr:=pp::x.s::x.tm::x.a.li::t.bD::sf x
section
variable{H H':Hp}{x:Sto}{k:Tm}{sh sr:Int}{r:Addr}{rl:List Addr}{pp:Addr}{X:Sx}{g':Rl}{sa:Addr}{ns:List Int}
theorem XX.chs(h:XX t H x k sh sr r rl pp X)(kk:Keep [t.bD,r] H H')(j:XR t H' x k sh sr X.s)(hR:RuX t H' r rl g'):XX t H' x k sh sr r rl pp ⟨X.s,g',X.ps⟩:=by(
obtain⟨ps,h1,h2⟩:=h.hp
refine⟨j,h.er,hR,h.of,h.ep,⟨ps,kk.k _ _ (λz=>?_) h1,Paired.mapP h2 λ_ _ z=>z.keep kk (by simp)⟩,h.np,h.nr⟩
have z:pp=t.bD∨pp=r:=by simpa using z
rcases z with z|z
·exact h.np (by rw[←z];simp)
exact h.nr (by rw[←z];simp))
theorem XX.nR(h:XX t H x k sh sr r rl pp X){b:Addr}{o:HO}(e:H b=some o)(n:∀C d fs,o≠ .ins C d fs):b≠r:=λz=>by obtain⟨_,_,_,y⟩:=h.ru.ins;rw[z,y]at e;exact n _ _ _ (kL e).symm
theorem qDG{b:Addr}(h:b∉fz t x pp)(nr:b≠r):b∉fx t x r pp:=λz=>by(
have z:b=pp∨b=r∨b=t.bD∨b∈sf x:=by simpa using z
rcases z with z|z|z|z
·exact h (by simp[z])
·exact nr z
·exact h (by simp[z])
exact h (by simp[z]))
theorem XX.sq'(h:XX t H x k sh sr r rl pp X)(hS:SqL K H sa (List.map V.int ns))(nS:sa∉fz t x pp)(kk:Keep (fx t x r pp) H H'):SqL K H' sa (List.map V.int ns):=by(
rcases hS with(e|⟨o,e⟩)|e
·exact .inl (.inl (kk.k _ _ (qDG nS (h.nR e (λ_ _ _ z=>by cases z))) e))
·exact .inl (.inr ⟨o,kk.k _ _ (qDG nS (h.nR e (λ_ _ _ z=>by cases z))) e⟩)
exact .inr e)
theorem XX.sq(h:XX t H x k sh sr r rl pp X)(hS:SqL K H sa (List.map V.int ns))(nS:sa∉fz t x pp∨SqL K (λ_=>none) sa (List.map V.int ns))(kk:Keep (fx t x r pp) H H'):SqL K H' sa (List.map V.int ns):=by(
rcases nS with nS|nS
·exact h.sq' hS nS kk
exact qIT nS)
theorem XX.tw(h:XX t H x k sh sr r rl pp X)(tw:TbW t H (fz t x pp))(nT:t.bL∉fz t x pp)(kk:Keep (fx t x r pp) H H'):TbW t H' (fz t x pp):=by obtain⟨ps,a,b⟩:=tw;exact⟨ps,kk.k _ _ (qDG nT (h.nR a (λ_ _ _ z=>by cases z))) a,b.imp id λ⟨c,e,hc,n⟩=>⟨c,e,kk.k _ _ (qDG n (h.nR hc (λ_ _ _ z=>by cases z))) hc,n⟩⟩
end
inductive spCz(t:Adr)(vs:List V)(H:Hp)(Q:VK)(E_:XK):Prop
|mk:∀x k sh sr r rl pp X,∀(kd:Nat) (sa:Addr) (ns:List Int) (n:Nat),vs=[.ref x.s,.int (kd:Int),.ref sa,.int (n:Int),.int ((X:Sx).s.q.P:Int),.int X.s.q.nx]→XX t H x k sh sr r rl pp X→k.ev=false→X.s.rc.length<1000000→kd≤5→X.g=gK ns n kd→SqL K H sa (List.map V.int ns)→(sa∉fz t x pp∨SqL K (λ_=>none) sa (List.map V.int ns))→(∀H',XX t H' x k sh sr r rl pp ⟨X.s,gK ns (n+if X.s.opt k=[]then 0 else 1) kd,X.ps⟩→Keep (fx t x r pp) H H'→Q (.bl true) H')→spCz t vs H Q E_
theorem q85(T:Txt K mg t)(S:Fns K t)(B:BmIn base mg):S.aAD.Ok0 P w mg base 14 (spCz t):=by(
refine S.aAD.F.ok0 yV λcdv A _ s H vs Q E hr h=>?_
obtain⟨x,k,sh,sr,r,rl,pp,X,kd,sa,ns,n,rfl,h,ev,rc,k5,eg,hS,nS,q⟩:=h
refine⟨_,(qB (qS (i:=6) yV.nd rfl (Or.inl rfl) (qW (pv 0) T.bE T.eE (yN T S B).mono hr S.bZ.b .nil qK)) (qB (qS (i:=7) yV.nd rfl (Or.inl rfl) vJ) (qB (qS (i:=8) yV.nd rfl (Or.inl rfl) yW) (q10 (qF3 (λpins XE ES tk1 po1=>(qD (qS (i:=8) yV.nd rfl (Or.inl rfl) (v8 tk1 (pv 0) T.bE T.o8 (q1S T S B).mono hr S.f7.b .nil)))) (qCO (λea=>(zC rfl T.aC6 rfl (v:=.ref t.C_NoRoom))) rfl (λea=>(qD (qS (i:=7) yV.nd rfl (Or.inl rfl) vJ))) (qF2 q5E))) (qB (j9 (qQ (q97 hr.units) (pv 6) (yA qE) (qO _)) (qD (qL (pv 7))) qR) (qB (j9 (PW.pt (q1W (jG (pv 7)) (q1W (jU (jG (qX yQ (by rfl) T.eD (by kernel_rfl) (qA (pv 8) (qA (q0U rfl T.aD5 (by kernel_rfl) rfl (v:=.ty "tuple")) qE))))) (q1W (qQ q3B (qX qY (by rfl) T.oI gC (qA (pv 8) qE)) qG (qO _)) (q3J (jU (jG (qU (q4J T S).mono hr rfl T.aAM T.aAN S.t9.b .nil qK (qA (qV qZ (pv 8) qG (λ_ _=>rfl)) qE))))))))) (qD (qL vJ)) qR) (qD (qL (jR (qF8 hr.units) (pv 8) (uK (qA q1V (qA (qU (q7N T S).mono hr rfl T.aBY T.aBZ S.aB8.b .nil qK (qA (pv 1) (qA (pv 6) (qA (pv 2) (qA (pv 3) (qA (pv 4) (qA (pv 5) qE))))))) qE))) (qO _)))))))))),?_⟩
try dsimp-beta-proj-iota-zeta-eta only[wishK,cxK]
refine(iV rfl (iM h.j.o rfl ?_))
dsimp only[tNil,dC]
refine h.j.opts ev λp rs H1 np j1 k1 h1 ty=>?_
have mT:∀y∈[t.bD],y∈fx t x r pp:=λy hy=>by rw[hX.mp hy];simp
have hx1:XX t H1 x k sh sr r rl pp X:=h.kT k1 j1.tb
have hS1:=h.sq hS nS (k1.mono mT)
refine⟨λσ' H'=>∃rf v,σ'=[some (.ref x.s),some (.int (kd:Int)),some (.ref sa),some (.int (n:Int)),some (.int (X.s.q.P:Int)),some (.int X.s.q.nx),some (.ref p),some (.bl rf),some v]∧Keep [t.bD,r] H1 H'∧XX t H' x k sh sr r rl pp ⟨X.s,gK ns (n+if X.s.opt k=[]then 0 else 1) kd,X.ps⟩∧((X.s.opt k=[]∧rf=true)∨(X.s.opt k≠[]∧rf=false∧∃w,v=.ref w∧H' w=some (.tup [.str "rule",.int ((gK ns n kd).ch (X.s.q.P:Int) X.s.q.nx (X.s.ots k)).1]))),?_,?_⟩
·refine(iV rfl (iM hx1.j.o rfl ⟨x,k,sh,sr,X.s,r,rl,X.g,rfl,hx1.j,ev,h.er,hx1.ru,h.of,rc,?_⟩));by_cases e0:X.s.opt k=[]
 ·have etk:X.s.tk k X.g=none:=by unfold XS.tk;rw[kF e0,ev,hV (by decide)]
  rw[etk];refine λH2 j2 k2 ea hea=>⟨_,T.aAT,iteT ⟨true,_,rfl,k2.mono (by simp),?_,.inl ⟨e0,rfl⟩⟩⟩;rw[kF e0,xF,←eg];exact hx1.kT k2 j2.tb
 cases htk:X.s.tk k X.g with
 |none=>exfalso;unfold XS.tk at htk;rw[hV e0]at htk;cases htk
 |some ybg=>
  obtain⟨y,b,g'⟩:=ybg;rcases vO h.ru.ok htk with⟨ey,_,e1,eg'⟩|⟨_,e,_⟩
  ·refine λw H2 k2 j2 hR2 hw=>⟨false,_,rfl,k2,?_,.inr ⟨e0,rfl,w,rfl,?_⟩⟩
   ·rw[hV e0,←gK_n,←eg,←qDA (P:=(X.s.q.P:Int)) (nw:=X.s.q.nx) (ts:=X.s.ots k),←eg'];exact hx1.chs k2 j2 hR2
   rw[hw,ey,e1,eg]
  rw[ev]at e;cases e
rintro σ' H2 ⟨rf,v,rfl,k2,h2,cs⟩
have m2:∀y∈[t.bD,r],y∈fx t x r pp:=λy hy=>by
 have hy:y=t.bD∨y=r:=by simpa using hy
 rcases hy with e|e<;>simp[e]
have npF:p∉fx t x r pp:=λz=>by obtain⟨o,e⟩:=h.inF p z;rw[e]at np;cases np
have h12:=k2.k _ _ (λz=>npF (m2 _ z)) h1
have ty2:=v5 k2 ty
have hS2:=hx1.sq hS1 nS (k2.mono m2)
refine⟨_,rfl,sz0,λe6 H6 n6 s6 h6=>⟨p,_,e6,rfl,rfl,SqL.of (s6 _ _ h12),SqL.of h6,_,rfl,?_⟩⟩
have k06:Keep (fx t x r pp) H H6:=((k1.mono mT).trans (k2.mono m2)).trans (Keep.same s6)
have ln:=ty.len
rcases cs with⟨e0,rfl⟩|⟨e0,rfl,w,rfl,hw⟩
·cases rs with
 |nil=>exact iteT ⟨_,rfl,q H6 (h2.same s6) k06⟩
 |cons u us=>exfalso;unfold XS.ots at ln;rw[e0]at ln;cases ln
cases rs with
|nil=>exfalso;exact e0 (dU.mp (g4 ln.symm))
|cons u us=>
 have w6:=s6 _ _ hw;refine iteF ⟨_,rfl,_,rfl,iteF ?_⟩;refine⟨_,rfl,.ref w,_,_,.type "tuple",_,rfl,rfl,.inl (.tup w6),qEW,_,rfl,iteF ?_⟩;refine⟨_,rfl,w,_,rfl,.inr (SqT.of w6),rfl,_,rfl,iteF ?_⟩;refine⟨_,rfl,iT (k:=1) (v:=_) (SqT.of w6) rfl ⟨_,rfl,.int _,_,rfl,iteF ?_⟩⟩;refine⟨_,rfl,_,rfl,_,rfl,_,rfl,_,rfl,_,rfl,_,rfl,kd,p,sa,_,X.s.ots k,ns,n,_,_,rfl,k5,SqL.of (s6 _ _ h12),ty2.same s6,qGI h.j.w rc e0,s6.seq hS2,λH7 s7=>?_⟩;refine⟨sz2,λtp H8 n8 s8 h8=>⟨?_,?_⟩⟩
 ·refine .tup (SqT.of (s8 _ _ (s7 _ _ w6))) (SqT.of h8) rfl λj u v hu hv=>?_;obtain rfl:u=v:=kL (hu.symm.trans hv);match j with
  |0=>cases hu;exact .flat rfl
  |1=>cases hu;exact .flat rfl
  |j+2=>cases hu
 exact q H8 (((h2.same s6).same s7).same s8) ((k06.trans (Keep.same s7)).trans (Keep.same s8)))
theorem RW'.tbF{H H':Hp}(h:RW' t H H')(T:Txt K mg t)(tw:∃ps,H t.bL=some (.tbl ps))(tb:TbF t H):TbF t H':=by(
obtain⟨ps,a,b⟩:=tb
obtain⟨pw,hw⟩:=tw
refine⟨ps,h _ _ T.oW a,?_⟩
rcases b with b|⟨c,b,d⟩
·exact .inl b
exact .inr ⟨c,b,h _ _ (λz=>by rw[z,hw]at d;cases d) d⟩)
theorem XX.inZ{H:Hp}{x:Sto}{k:Tm}{sh sr:Int}{r:Addr}{rl:List Addr}{pp:Addr}{X:Sx}(h:XX t H x k sh sr r rl pp X):∀y∈fz t x pp,∃o,H y=some o:=λy hy=>by(
obtain⟨m,st,_⟩:=h.j.e
obtain⟨ps,hps,_⟩:=h.hp
have hy:y=pp∨y=x.s∨y=x.tm∨y=x.a.li∨y∈t.bD::sf x:=by simpa using hy
rcases hy with e|e|e|e|e
·exact⟨_,by rw[e];exact hps⟩
·exact⟨_,by rw[e];exact st.o⟩
·exact⟨_,by rw[e];exact st.te⟩
·exact⟨_,by rw[e];exact st.ch.li⟩
exact h.j.inH y e)
inductive spTa(t:Adr)(vs:List V)(H:Hp)(Q:VK)(E_:XK):Prop
|mk:∀x k sh sr r rl pp X,∀(kd:Nat) (sa:Addr) (ns:List Int),vs=[.ref x.s,.int (kd:Int),.ref sa]→XX t H x k sh sr r rl pp X→kd≤5→SqL K H sa (List.map V.int ns)→(sa∉fz t x pp∨SqL K (λ_=>none) sa (List.map V.int ns))→TbW t H (fz t x pp)→t.bL∉fz t x pp→(∀r' rl' H',XX t H' { x with ru:=.ref r' } k sh sr r' rl' pp ⟨X.s,gK ns 0 kd,X.ps⟩→TbW t H' (fz t x pp)→(∀b o,b≠t.bL→b≠x.s→H b=some o→H' b=some o)→Q (.bl true) H')→spTa t vs H Q E_
theorem qA3(T:Txt K mg t)(S:Fns K t)(B:BmIn base mg):S.aBL.Ok0 P w mg base 6 (spTa t):=by(
refine S.aBL.F.ok0 q1J λcdv A _ s H vs Q E hr h=>?_
obtain⟨x,k,sh,sr,r,rl,pp,X,kd,sa,ns0,rfl,h,k5,hS,nS,tw,nT,q⟩:=h
obtain⟨ps,hps,pap⟩:=h.hp
have o2:=h.j.o
rw[h.ep]at o2
refine⟨_,(qB (qS (i:=3) q1J.nd rfl (Or.inl rfl) (zI uI (by rfl) T.aB2 (by kernel_rfl) (qA (qJ (pv 0) rfl) qE))) (qB (qS (i:=4) q1J.nd rfl (Or.inl rfl) (qU (qBJ T S B).mono hr rfl T.aDL T.aDE S.aD2 .nil qK (qA (pv 1) (qA (pv 2) qE)))) (qD (qL (q1X (jR q69 (j8 (pv 0) T.bE T.aCQ (q81 T S).mono hr S.aAL.b .nil qK (qA (pv 4) qE)) yW (qO _)) (q1X (jR (qF8 hr.units) (qJ (pv 0) rfl) (pv 3) (qO _)) (q0V (jR (qKS hr.units) (qJ (pv 0) rfl) (pv 4) (qO _))))))))),?_⟩
try dsimp-beta-proj-iota-zeta-eta only[wishK,cxK]
refine(iV rfl (iF o2 T.bE T.bX rfl ⟨pp,ps,rfl,.inl (SqL.of hps),λbl H1 n1 s1 h1=>?_⟩))
refine⟨_,rfl,_,rfl,kd,sa,ns0,fz t x pp,rfl,k5,s1.seq hS,(h.same s1).inZ,nS,tw.same s1,λr' rl' H2 hR2 nF2 tw2 rw2=>?_⟩
obtain⟨pw,hw,_⟩:=id tw
have hw1:=s1 _ _ hw
have k12:Keep [t.bL] H1 H2:=⟨λb o nb e=>rw2 b o (λz=>nb (by simp[z])) e,λb xs e=>rw2 b _ (λz=>by rw[z,hw1]at e;cases e) e⟩
have zin:∀y∈[x.s,x.tm]++(x.a.li::sf x),y∈fz t x pp:=λy hy=>by
 have hy:y=x.s∨y=x.tm∨y=x.a.li∨y∈sf x:=by simpa using hy
 rcases hy with e|e|e|e<;>simp[e]
have j2:XR t H2 x k sh sr X.s:=(h.j.same s1).keep k12 (λy hy z=>nT (by rw[←hX.mp z];exact zin y hy)) (rw2.tbF T ⟨_,hw1⟩ (h.j.same s1).tb)
obtain⟨m,st2,c2,pg2⟩:=j2.e
refine(iV rfl (iM st2.o rfl ⟨_,rfl,x,_,_,_,_,m,X.s.q,.ref r',rfl,st2,λH3 st3 k3=>?_⟩))
have ns:∀{b:Addr} {o:HO},H2 b=some o→(∀C d fs,o≠ .ins C d fs)→b≠x.s:=fun {b o} e n z=>by rw[z,st2.o]at e;exact n _ _ _ (kL e).symm
have up:∀{b:Addr} {xs:List V},H b=some (.lst xs)→H3 b=some (.lst xs):=fun {b xs} e=>by have e2:=rw2 b _ (λz=>by rw[z,hw]at e;cases e) (s1 _ _ e);exact k3.k _ _ (λz=>ns e2 (λ_ _ _ y=>by cases y) (hX.mp z)) e2
have tp3:∀{b:Addr} {xs:List V},H b=some (.tup xs)→H3 b=some (.tup xs):=fun {b xs} e=>k3.tp _ _ (k12.tp _ _ (s1 _ _ e))
obtain⟨_,_,_,hr2⟩:=hR2.ins
have nl:∀{l:Addr} {xs:List V},H l=some (.lst xs)→l∉fx t x r pp→l∉fx t { x with ru:=.ref r' } r' pp:=fun {l xs} e n z=>by
 have z:l∈pp::r'::t.bD::sf x:=z;have z:l=pp∨l=r'∨l=t.bD∨l∈sf x:=by simpa using z
 rcases z with z|z|z|z
 ·exact n (by simp[z])
 ·have e2:=rw2 l _ (λz=>by rw[z,hw]at e;cases e) (s1 _ _ e);rw[z,hr2]at e2;cases e2
 ·exact n (by simp[z])
 exact n (by simp[z])
have pap3:Paired (PapA H3 (fx t { x with ru:=.ref r' } r' pp)) ps X.ps:=Paired.mapP pap λv p ⟨pa,l1,l2,us,rs,e1,e2,e3,e4,e5,e6,e7,e8⟩=>⟨pa,l1,l2,us,rs,e1,tp3 e2,up e3,Paired.mapP e4 λv o ⟨a,ea,ha⟩=>⟨a,ea,tp3 ha⟩,up e5,Paired.mapP e6 λv d ⟨p',e',h'⟩=>⟨p',e',tp3 h'⟩,nl e3 e7,nl e5 e8⟩
have xS:∀y∈r'::rl',y∉[x.s]:=λy hy z=>nF2 y hy (by simp[hX.mp z])
have hR3:=hR2.keep k3 xS
have hx3:XX t H3 { x with ru:=.ref r' } k sh sr r' rl' pp ⟨X.s,gK ns0 0 kd,X.ps⟩:=⟨⟨⟨m,st3,c2,pg2.keep k3⟩,h.j.w⟩,rfl,hR3,λy hy z=>nF2 y z (by
 have hy:y∈[x.s,x.tm]++(x.a.li::t.bD::sf x):=hy;have hy:y=x.s∨y=x.tm∨y=x.a.li∨y=t.bD∨y∈sf x:=by simpa using hy
 rcases hy with e|e|e|e|e<;>simp[e]),h.ep,⟨ps,up hps,pap3⟩,h.np,λz=>nF2 pp z (by simp)⟩
have tw3:TbW t H3 (fz t x pp):=tw2.keep k3 (λz=>nT (by simp[hX.mp z])) (λy hy=>by simp[hX.mp hy])
have o3:=st3.o
have o3:H3 x.s=some (.ins t.C_Store x.sd [("chip",.ref x.c),("terms",.ref x.tm),("book",.ref x.k.bk),("rule",.ref r'),("papers",x.pa)]):=o3
rw[h.ep]at o3
have hb3:H3 bl=some (.lst ps):=by have e2:=rw2 bl _ (λz=>by rw[z,hw1]at h1;cases h1) h1;exact k3.k _ _ (λz=>ns e2 (λ_ _ _ y=>by cases y) (hX.mp z)) e2
refine⟨rfl,_,rfl,iteT ?_⟩
refine(iV rfl (iF o3 T.bE T.bX rfl ⟨_,rfl,?_⟩))
refine⟨.lst (SqL.of (up hps)) (SqL.of hb3) rfl λj u v hu hv=>?_,_,rfl,iteT ?_⟩
·obtain rfl:u=v:=kL (hu.symm.trans hv);obtain⟨p,_,hp⟩:=Paired.at pap3 hu;exact qIA hp
obtain⟨C,d,fs,hC,en⟩:=eqK T hR3
refine(iV rfl (iF o3 T.bE T.bS rfl ⟨_,rfl,r',C,d,fs,rfl,rfl,hC,en,?_⟩))
exact q r' rl' H3 hx3 tw3 λb o nT' nS' e=>k3.k _ _ (λz=>nS' (hX.mp z)) (rw2 b o nT' (s1 _ _ e)))
theorem qBK{α β:Type}{F:α→β→Prop}:∀{xs:List α} {as bs:List β},Paired F xs (as++bs)→Paired F (xs.drop as.length) bs
|_,[],_,h=>h
|_,_::as,_,.cons _ t=>qBK (as:=as) t
theorem qIB{xs:List V}{m:Nat}(h:m≤xs.length):cutV xs (some (m:Int)) none=xs.drop m:=by(
unfold cutV
have e:HT.sIx xs.length 0 (some (m:Int))=m:=by unfold HT.sIx;simp only;split<;>lia
rw[e,show HT.sIx xs.length xs.length none=xs.length from rfl]
exact List.take_of_length_le (by rw[pW];lia))
theorem AskO.wn{k:Tm}{i:Nat}{X Y:Sx}{n v:Int}{qs:List Pa}{p:Nat}(a:AskO k i X n v Y qs p):Y.ps.length≤X.ps.length+need k X.s∧wN Y.s.rc+X.ps.length=wN X.s.rc+Y.ps.length:=by(
have:=a.ln
rw[a.ps,a.rc,kO,q2T,q2T,qIU]
refine⟨by lia,?_⟩
show wN X.s.rc+qs.length+0+ _=_
lia)
theorem AskD.wn{k:Tm}{i:Nat}{X Y:Sx}{qs:List Pa}(a:AskD k i X Y qs):Y.ps.length≤X.ps.length+need k X.s∧wN Y.s.rc+X.ps.length=wN X.s.rc+Y.ps.length:=by(
have:=a.ln
obtain⟨ms,e⟩:=a.rc
rw[a.ps,e,kO,q2T,q2T,qIU,qDF]
exact⟨by lia,by lia⟩)
noncomputable def Tt(s:XS):Prop:=s.rc.length=wN s.rc+ptN s.rc
theorem Tt.put{s:XS}{n v:Int}(h:Tt s):Tt (s.put n v):=by show(s.rc++[(Str.ofString "put",(s.np:Int),true)]).length=wN (s.rc++[(Str.ofString "put",(s.np:Int),true)])+ptN (s.rc++[(Str.ofString "put",(s.np:Int),true)]);rw[kO,q2T,q4F,h,show ptN [(Str.ofString "put",(s.np:Int),true)]=1 from rfl,show wN [(Str.ofString "put",(s.np:Int),true)]=0 from rfl,mU];lia
theorem Tt.wip{s:XS}{b:Nat}(h:Tt s):Tt (s.wip b):=by show(s.rc++[(Str.ofString "wipe",(b:Int),true)]).length=wN (s.rc++[(Str.ofString "wipe",(b:Int),true)])+ptN (s.rc++[(Str.ofString "wipe",(b:Int),true)]);rw[kO,q2T,q4F,h,show ptN [(Str.ofString "wipe",(b:Int),true)]=0 from rfl,show wN [(Str.ofString "wipe",(b:Int),true)]=1 from rfl,mU];lia
structure Wrt(k:Tm)(sr:Nat)(kd:Nat)(X X':Sx)(qs:List Pa):Prop where
d:∃KD',Kd k 64 sr X' KD'∧∀z∈KD',z.1<(sr:Int)
lf:X'.s.lf=none
ps:X'.ps=X.ps++qs
ch:Chn (X.s.q.P:Int) X.g X.s.q.nx qs
g1:kd≠3→X'.g=X.g
g2:kd=3→X'.g=gN X.g qs.length
wn:wN X'.s.rc+X.ps.length=wN X.s.rc+X'.ps.length
nx:Nx X'.s
rl:X'.s.rc.length≤X.s.rc.length+300
ln:qs.length≤17
eP:X'.s.q.P=X.s.q.P
tt:Tt X.s→Tt X'.s
inductive spWz(t:Adr)(vs:List V)(H:Hp)(Q:VK)(E_:XK):Prop
|mk:∀x k r rl pp X KD,∀(sr kd:Nat) (y cell:Int),vs=[.ref x.s,.ref x.c,.int y,.int cell,.int (kd:Int)]→XX t H x k 64 (sr:Int) r rl pp X→k.ev=false→Kd k 64 sr X KD→(∀z∈KD,z.1<(sr:Int))→X.s.lf=none→(kd≠3→NoF X.g)→LeF X.g→Nx X.s→X.s.rc.length+2100<1000000→X.ps.length+17<90000→0≤y→y<(sr:Int)→(∀l us qs X' H',XX t H' x k 64 (sr:Int) r rl pp X'→Keep (fx t x r pp) H H'→Wrt k sr kd X X' qs→H' l=some (.lst us)→Paired (PapA H' (fx t x r pp)) us qs→Q (.ref l) H')→spWz t vs H Q E_
theorem qA4{sr:Nat}{KD:Mp}{y:Int}(nd:(KD.map (·.1)).Nodup)(b:∀z∈KD,0≤z.1∧z.1<(sr:Int))(y0:0≤y)(y1:y<(sr:Int)):y∈KD.map (·.1)∨KD.length<sr:=by(
by_cases h:y∈KD.map (·.1)
·exact .inl h
refine .inr ?_
have nd2:(y::KD.map (·.1)).Nodup:=mW.mpr ⟨h,nd⟩
have sub:∀z∈y::KD.map (·.1),z∈(List.range sr).map λi:Nat=>(i:Int):=λz hz=>by
 have hb:0≤z∧z<(sr:Int):=by
  rcases kJ.mp hz with e|e
  ·rw[e];exact⟨y0,y1⟩
  obtain⟨w,hw,rfl⟩:=kY.mp e;exact b w hw
 exact kY.mpr ⟨z.toNat,mE.mpr (by lia),by lia⟩
have:=qFM nd2 sub
rw[mB,h9,h9,mQ]at this
lia)
theorem qGO{k:Tm}{sr kd:Nat}{X Y:Sx}{KD:Mp}{l:Option Int}{y v:Int}{rr:Except Rf Nat}(ev:k.ev=false)(d:Kd k 64 sr ⟨{ X.s with lf:=l },X.g,X.ps⟩ KD)(kb:∀z∈KD,z.1<(sr:Int))(nf:kd≠3→NoF X.g)(le:LeF X.g)(nx:Nx X.s)(rc:X.s.rc.length+2100<1000000)(y0:0≤y)(y1:y<(sr:Int))(l3:kd=3→l=none)(hZ:Sx.ask k 17 ⟨{ X.s with lf:=l },X.g,X.ps⟩ y v=some (Y,rr))
 (a:(∃p qs,rr=.ok p∧AskO k 17 ⟨{ X.s with lf:=l },X.g,X.ps⟩ y v Y qs p)∨(∃qs,rr=.error .dark∧AskD k 17 ⟨{ X.s with lf:=l },X.g,X.ps⟩ Y qs)):∃dk qs,ChO k X Y dk qs∧Wrt k sr kd X ⟨{ Y.s with lf:=none },Y.g,Y.ps⟩ qs:=by(
obtain⟨qs,dk,co,ce⟩:=qI4 ev d.x.w d.ok le (show X.s.rc.length+17*17<1000000 by lia) hZ
have n17:need k { X.s with lf:=l }≤17:=qD9 d.x
have hn:∀i,(none:Option Int)=some i→0≤i:=λi e=>by cases e
have nxY:Nx Y.s:=Nx.ask d.x.w d.ok hZ nx
have ttY:Tt X.s→Tt Y.s:=λh=>qC7 Tt (λ_ _ _ z=>z.put) (λ_ _ z=>z.wip) d.x.w d.ok hZ h
have cps:Y.ps=X.ps++qs:=co.ps
have y6:y<64:=by have:=d.s57;lia
have can:=qA4 (sr:=sr) d.nd (λz hz=>⟨(d.kb z hz).1,kb z hz⟩) y0 y1
have fin:(∃KD',Kd k 64 sr Y KD'∧∀z∈KD',z.1<(sr:Int))→(kd=3→Y.g=gN X.g qs.length)→wN Y.s.rc+X.ps.length=wN X.s.rc+Y.ps.length→Y.s.rc.length≤X.s.rc.length+17*17+1→Y.ps.length≤X.ps.length+need k { X.s with lf:=l }→Y.s.q.P=X.s.q.P→Wrt k sr kd X ⟨{ Y.s with lf:=none },Y.g,Y.ps⟩ qs:=λ⟨KD',d',b'⟩ g2 wn rl ln eP=>⟨⟨KD',d'.lf hn,b'⟩,rfl,cps,co.ch,λz=>co.g1 (nf z),g2,wn,nxY,by show Y.s.rc.length≤_;lia,by rw[cps,kO]at ln;lia,eP,ttY⟩
refine⟨dk,qs,⟨co.ps,co.ch,co.hd,co.g1,co.g2⟩,?_⟩
rcases a with⟨p,qs',er,a⟩|⟨qs',er,a⟩
·have dkf:dk=false:=by
  cases dk with
  |false=>rfl
  |true=>obtain⟨e,z⟩:=ce rfl;rw[er]at z;cases z
 refine fin ⟨_,d.wrote y0 y6 can a,λz hz=>?_⟩ (λ_=>co.g2 dkf) a.wn.2 a.rl a.wn.1 a.eP;rw[qAX d.nd,jO]at hz;rcases hz with e|⟨e,_⟩
 ·rw[e];exact y1
 exact kb z e
refine fin ⟨_,d.dark a,kb⟩ (λz=>?_) a.wn.2 a.rl a.wn.1 a.kp.eP
have:=qI0 d.x.w d.ok hZ (l3 z)
rw[a.lf]at this
cases this)
theorem q7P(T:Txt K mg t)(S:Fns K t)(B:BmIn base mg):S.tV.Ok0 P w mg base 18 (spWz t):=by(
refine S.tV.F.ok0 yL λcdv A _ s H vs Q E hr h=>?_
obtain⟨x,k,r,rl,pp,X,KD,sr,kd,y,cell,rfl,h,ev,d,kb,lf0,nf,le,nx0,rc,psn,y0,y1,q⟩:=h
obtain⟨ps,hps,pap⟩:=h.hp
have eps:=pap.len
refine⟨_,(qB (qS (i:=5) yL.nd rfl (Or.inl rfl) (qW (pv 0) T.bE T.eE (yN T S B).mono hr S.bZ.b .nil qK)) (qB (qS (i:=6) yL.nd rfl (Or.inl rfl) (qX qY (by rfl) T.oI gC (qA (qJ (pv 0) rfl) qE))) (q10 (j9 (PW.pt (q4O (qQ q3B (pv 4) qG (qO _)) (q2V (qQ yO (qN yX (qN zD (pv 3) qG) qG) qG (qO _))))) (qD (jB (j8 (pv 1) T.bG T.aAS (q4I T S).mono hr S.iG.b .nil qK (qA (qN yX (qN zD (pv 3) qG) qG) qE)))) qR) (qB (qS (i:=7) yL.nd rfl (Or.inl rfl) vJ) (q10 (qF3 (λpins XE ES tk1 po1=>(qD (jB (yI tk1 (pv 0) T.bE T.aCH (q7M T S B).mono hr S.tJ.b .nil (qA (pv 2) (qA (qN yX (pv 3) (qN qE8 qG qG)) qE)))))) (qCO (λea=>(zC rfl T.aAR rfl (v:=.ref t.C_PowerGone))) rfl (λea=>(qD (qS (i:=7) yL.nd rfl (Or.inl rfl) vJ))) (qF2 q5E))) (qB (j9 (PW.pt (q4O (jG (pv 7)) (q2V (jU (jG (qW (pv 1) T.bG T.o6 (q1P T S).mono hr S.iA.b .nil qK)))))) (qD (qL yW)) qR) (qB (jB (qW (pv 1) T.bG T.aA9 (q58 T S).mono hr S.iX.b .nil qK)) (qB (qS (i:=8) yL.nd rfl (Or.inl rfl) (q6F q92 (qJ (pv 0) rfl) (q8Z (pv 6)) q8Y)) (qB (j9 (PW.pt (q4O (qQ (qFO hr.units) (pv 8) (yA qE) (qO _)) (q2V (qQ (qK4 hr.units) (qV qZ (qV jE (pv 8) qG (λ_ _=>rfl)) qG (λ_ _=>rfl)) (pv 5) (qO _))))) (qD (qL yW)) qR) (qD (qL (pv 8)))))))))))),?_⟩
try dsimp-beta-proj-iota-zeta-eta only[wishK,cxK]
refine(iV rfl (iM h.j.o rfl ?_))
dsimp only[tNil,dC]
refine h.j.opts ev λp rs H1 np j1 k1 h1 ty=>?_
have mT:∀y∈[t.bD],y∈fx t x r pp:=λy hy=>by rw[hX.mp hy];simp
have hx1:XX t H1 x k 64 (sr:Int) r rl pp X:=h.kT k1 j1.tb
have npF:p∉fx t x r pp:=λz=>by obtain⟨o,e⟩:=h.inF p z;rw[e]at np;cases np
obtain⟨ps1,hps1,pap1⟩:=hx1.hp
have o1:=hx1.j.o
rw[h.ep]at o1
refine(iV rfl (iF o1 T.bE T.bX rfl ⟨pp,ps1,rfl,.inl (SqL.of hps1),?_⟩))
rw[pap1.len]
refine⟨λσ' H'=>∃l,σ'=[some (.ref x.s),some (.ref x.c),some (.int y),some (.int cell),some (.int (kd:Int)),some (.ref p),some (.int (X.ps.length:Nat)),none,none]∧XX t H' x k 64 (sr:Int) r rl pp ⟨{ X.s with lf:=l },X.g,X.ps⟩∧Keep (fx t x r pp) H1 H'∧(∀i,l=some i→0≤i)∧(kd=3→l=none),?_,?_⟩
·refine⟨_,rfl,rfl,_,rfl,?_⟩;have stay:XX t H1 x k 64 (sr:Int) r rl pp ⟨{ X.s with lf:=X.s.lf },X.g,X.ps⟩:=hx1;by_cases z3:kd=3
 ·subst z3;refine iteF (iteF ⟨X.s.lf,rfl,stay,Keep.refl,λi e=>?_,λ_=>lf0⟩);rw[lf0]at e;cases e
 rw[show(!decide (V.int (kd:Int)=V.int 3))=true by simp;lia];refine iteT ⟨_,rfl,iI ⟨⟨by decide,by decide⟩,iI ⟨(by show(0:Int)<5;decide),rfl,_,rfl,ite2 (λ_=>?_) (λ_=>?_)⟩⟩⟩
 ·obtain⟨m,hc,_,_,_,_,_,_,_,nx⟩:=hx1.chip;have mv:=vS (cell / 80) 5 (by decide);have hl:∀j,some (cell / 80%5)=some j→0≤j:=λj e=>by injection e with e;rw[←e];exact mv.1
  refine(iV rfl (iM hc.ins rfl ⟨_,rfl,iI ⟨⟨by decide,by decide⟩,iI ⟨(by show(0:Int)<5;decide),x.c,x.a,m,_,rfl,hc,mv.1,by lia,λH2 h2 k2=>?_⟩⟩⟩));exact⟨_,rfl,nx _ hl H2 h2 k2,k2.mono (λy hy=>by simp[sf,hy]),hl,λz=>absurd z z3⟩
 exact⟨X.s.lf,rfl,stay,Keep.refl,λi e=>(by rw[lf0]at e;cases e),λz=>absurd z z3⟩
rintro σ' H2 ⟨l,rfl,h2,k2,hl,l3⟩
have d2:Kd k 64 sr ⟨{ X.s with lf:=l },X.g,X.ps⟩ KD:=d.lf hl
refine⟨λσ' H'=>∃dk X' qs,σ'=[some (.ref x.s),some (.ref x.c),some (.int y),some (.int cell),some (.int (kd:Int)),some (.ref p),some (.int (X.ps.length:Nat)),some (.bl dk),none]∧XX t H' x k 64 (sr:Int) r rl pp X'∧Keep (fx t x r pp) H2 H'∧(dk=true→X'.s.lf=some 0)∧(X'.ps=X.ps++qs∧∀p r,qs=p::r→p.ts=X.s.ots k)∧Wrt k sr kd X ⟨{ X'.s with lf:=none },X'.g,X'.ps⟩ qs,?_,?_⟩
·have mv:=vS cell (10 ^ (30:Int).toNat) (by decide);have s57:=d.s57;have hc:=d2.can y0 (by lia) (qA4 (sr:=sr) d.nd (λz hz=>⟨(d.kb z hz).1,kb z hz⟩) y0 y1);have ff:¬(hold X.s.q y=false∧(sr:Int)≤((hdN X.s.q.V).length:Int)):=λ⟨f1,f2⟩=>by
  have f1:=dL f1;have pl:=d.pm.length_eq;rw[h9]at pl;have f2:(sr:Int)≤((((X.s.q.V.map (·.1)).filter λn=>decide (n≠64)).length:Nat):Int):=f2;rcases qA4 (sr:=sr) d.nd (λz hz=>⟨(d.kb z hz).1,kb z hz⟩) y0 y1 with w|w
  ·exact f1 (d.pm.mem_iff.mpr w)
  lia
 have mv2:cell%10 ^ (30:Int).toNat≤10 ^ 30-1:=by have:_ <(10:Int) ^ 30:=mv.2;lia
 rcases qHX (n:=y) (v:=cell%10 ^ (30:Int).toNat) d2.x d2.wt d2.ok (qD9 d2.x) y0 (by lia) hc with⟨Y,qs,pg,hZ,a⟩|⟨Y,qs,hZ,a⟩
 ·obtain⟨dk,qs',co,wr⟩:=qGO ev d2 kb nf le nx0 rc y0 y1 l3 hZ (.inl ⟨pg,qs,rfl,a⟩);refine(iV rfl (iM h2.j.o rfl ⟨_,rfl,_,rfl,iI ⟨⟨by decide,by decide,by decide⟩,iI ⟨(by show(0:Int)<10 ^ (30:Int).toNat;decide),x,k,64,(sr:Int),r,rl,pp,⟨{ X.s with lf:=l },X.g,X.ps⟩,y,cell%10 ^ (30:Int).toNat,17,_,rfl,h2,ev,by show X.s.rc.length+100*17+300<1000000;lia,by show X.ps.length+17<90000;lia,by decide,inBi y0 (by lia),inBi mv.1 mv2,ff,hc.imp id λw=>w.1,hZ,λH3 h3 k3=>?_⟩⟩⟩));exact⟨false,Y,qs',rfl,h3,k3,λz=>(by cases z),⟨co.ps,co.hd⟩,wr⟩
 obtain⟨dk,qs',co,wr⟩:=qGO ev d2 kb nf le nx0 rc y0 y1 l3 hZ (.inr ⟨qs,rfl,a⟩);refine(iV rfl (iM h2.j.o rfl ⟨_,rfl,_,rfl,iI ⟨⟨by decide,by decide,by decide⟩,iI ⟨(by show(0:Int)<10 ^ (30:Int).toNat;decide),x,k,64,(sr:Int),r,rl,pp,⟨{ X.s with lf:=l },X.g,X.ps⟩,y,cell%10 ^ (30:Int).toNat,17,_,rfl,h2,ev,by show X.s.rc.length+100*17+300<1000000;lia,by show X.ps.length+17<90000;lia,by decide,inBi y0 (by lia),inBi mv.1 mv2,ff,hc.imp id λw=>w.1,hZ,λH3 h3 k3=>?_⟩⟩⟩));intro ea hea;refine⟨_,T.i4,iteT ?_⟩;exact⟨true,Y,qs',rfl,h3,k3,λ_=>a.lf,⟨co.ps,co.hd⟩,wr⟩
rintro σ' H3 ⟨dk,X',qs,rfl,h3,k3,dk0,co,wr⟩
have k03:Keep (fx t x r pp) H H3:=((k1.mono mT).trans k2).trans k3
obtain⟨m3,hc3,_,elf3,_,_,_,_,_,nx3⟩:=h3.chip
have hn:∀i,(none:Option Int)=some i→0≤i:=λi e=>by cases e
have go:tSeq (qIE (qEI t.C_Chip (Str.ofString "power_on") (spOn t) [] E0 (tVar 1) tNil)) (tSeq (tAsg (tSl (rSlL K) (tFld K (tVar 0) (Str.ofString "papers")) (qII (tVar 6)) qCJ) (vZ 8)) (tSeq (tIfS (tAnd (qCG (tOp (qIP K) (tVar 8) (qIK tNil))) (qCG (tOp (qF7 K false) (tOp (rIxT K) (tOp (rIxL K) (tVar 8) (tC (V.int 0))) (tC (V.int 1))) (tVar 5)))) (tRet (tC V.non)) qID) (tRet (tVar 8)))) { nx:=λ_ H'=>Q V.non H',rt:=Q } [some (.ref x.s),some (.ref x.c),some (.int y),some (.int cell),some (.int (kd:Int)),some (.ref p),some (.int (X.ps.length:Nat)),some (.bl dk),none] H3:=by
 refine(iV rfl (iM hc3.ins rfl ⟨x.c,x.a,m3,rfl,hc3,λH4 h4 k4=>?_⟩));have hx4:=nx3 none hn H4 h4 k4;have k34:Keep (fx t x r pp) H3 H4:=k4.mono (λy hy=>by simp[sf,hy]);have o4:=hx4.j.o;rw[h.ep]at o4;obtain⟨ps4,hps4,pap4⟩:=hx4.hp;have pap4:Paired (PapA H4 (fx t x r pp)) ps4 X'.ps:=pap4;have l4:=pap4.len;rw[co.1]at pap4;refine(iV rfl (iF o4 T.bE T.bX rfl ⟨_,rfl,_,rfl,pp,ps4,rfl,SqL.of hps4,λse ne=>?_⟩));rw[qIB (by rw[l4,co.1,kO];lia)];have s5:Same H4 (upd H4 se (.lst (ps4.drop X.ps.length))):=Same.upd ne;have h5:(upd H4 se (.lst (ps4.drop X.ps.length))) se=some (.lst (ps4.drop X.ps.length)):=qI;have pr5:=qBK pap4;show vZ 8 _ _ (upd H4 se (.lst (ps4.drop X.ps.length))) _;generalize upd H4 se (.lst (ps4.drop X.ps.length))=H5 at s5 h5 ⊢;generalize ps4.drop X.ps.length=us at h5 pr5;have pr5:Paired (PapA H5 (fx t x r pp)) us qs:=Paired.mapP pr5 λ_ _ z=>z.same s5;have k05:=(k03.trans k34).trans (Keep.same s5);have hp5:H5 p=some (.lst rs):=s5 _ _ (k34.k _ _ npF (k3.k _ _ npF (k2.k _ _ npF h1)));have ty5:Tls H5 rs (X.s.ots k):=(v5 k34 (v5 k3 (v5 k2 ty))).same s5;refine⟨_,rfl,sz0,λe6 H6 n6 s6 h6=>⟨se,_,e6,rfl,rfl,SqL.of (s6 _ _ h5),SqL.of h6,_,rfl,?_⟩⟩;have fin:Q (.ref se) H6:=q se us qs _ H6 ((hx4.same s5).same s6) (k05.trans (Keep.same s6)) wr (s6 _ _ h5) (Paired.mapP pr5 λ_ _ z=>z.same s6);cases us with
 |nil=>exact iteF (iteF ⟨_,rfl,fin⟩)
 |cons v vs=>
  cases pr5 with
  |cons hv t=>obtain⟨pa,l1,l2,us2,rs2,rfl,hpa,hl1,t1,_⟩:=hv.same s6;refine iteT ⟨_,rfl,iL (k:=0) (v:=.ref pa) (SqL.of (s6 _ _ h5)) (yD (j:=0) rfl) (iT (k:=1) (v:=_) (SqT.of hpa) rfl ⟨_,rfl,?_,_,rfl,iteF ⟨_,rfl,fin⟩⟩)⟩;rw[co.2 _ _ rfl]at t1;exact q7O 4 hl1 (s6 _ _ hp5) (q4M t1) (q4M (ty5.same s6))
cases dk with
|false=>exact⟨_,rfl,_,rfl,iteF (iteF go)⟩
|true=>refine⟨_,rfl,_,rfl,iteT (iV rfl (iM hc3.ins rfl ⟨x.c,x.a,m3,rfl,hc3,?_⟩))⟩;rw[elf3,hG (dk0 rfl)];exact⟨_,rfl,iteF go⟩)
section
variable{H H':Hp}{x:Sto}{k:Tm}{sr:Nat}{r:Addr}{rl:List Addr}{pp:Addr}{X X':Sx}{ns:List Int}{kd n u:Nat}{sa:Addr}{P0:Nat}
structure JZ(t:Adr)(H:Hp)(x:Sto)(k:Tm)(sr:Nat)(r:Addr)(rl:List Addr)(pp:Addr)(X:Sx)(ns:List Int)(kd n:Nat)(sa:Addr)(P0 u:Nat):Prop where
h:XX t H { x with ru:=.ref r } k 64 (sr:Int) r rl pp X
d:∃KD,Kd k 64 sr X KD∧∀z∈KD,z.1<(sr:Int)
lf:X.s.lf=none
k5:kd≤5
g:X.g=gK ns n kd
nx:Nx X.s
pw:X.ps.length=wN X.s.rc
tt:Tt X.s
rcn:X.s.rc.length≤300*u
psn:X.ps.length≤20*u
hS:SqL K H sa (List.map V.int ns)
tw:TbW t H (fz t x pp)
eP:X.s.q.P=P0
theorem JZ.same(h:JZ t H x k sr r rl pp X ns kd n sa P0 u)(s:Same H H'):JZ t H' x k sr r rl pp X ns kd n sa P0 u:={ h with h:=h.h.same s,hS:=s.seq h.hS,tw:=h.tw.same s }
theorem JZ.le(h:JZ t H x k sr r rl pp X ns kd n sa P0 u):LeF X.g∧(kd≠3→NoF X.g):=by(
have k5:=h.k5
rw[h.g]
have e6:kd=0∨kd=1∨kd=2∨kd=3∨kd=4∨kd=5:=by lia
have:(blkL ns).length=9:=by unfold blkL;rw[h9,mQ]
rcases e6 with rfl|rfl|rfl|rfl|rfl|rfl
·exact⟨λ_ _ e=>(by cases e),λ_ _ _ e=>(by cases e)⟩
·exact⟨λ_ _ e=>(by cases e),λ_ _ _ e=>(by cases e)⟩
·exact⟨λ_ _ e=>(by cases e),λ_ _ _ e=>(by cases e)⟩
·refine⟨λrow u e=>?_,λz=>absurd rfl z⟩;cases e;lia
·exact⟨λ_ _ e=>(by cases e),λ_ _ _ e=>(by cases e)⟩
exact⟨λ_ _ e=>(by cases e),λ_ _ _ e=>(by cases e)⟩)
end
theorem qKY(T:Txt K mg t)(S:Fns K t)(B:BmIn base mg):S.law.Ok0 P w mg base 19 (q4Y K [t.bD,t.bL]):=by(
refine S.law.F.ok0 yM λcdv A _ s H vs Q E hr h=>?_
obtain⟨a,ns,rfl,hS,hlen,hT0,k⟩:=h
have hT:H t.bD=some (.tbl #[]):=hT0 _ (by simp)
have hW:H t.bL=some (.tbl #[]):=hT0 _ (by simp)
have hu:=q6H hr
have s9:(99999:Nat)<sizeLine:=by decide
refine⟨_,(qB (q4P (qU (qA1 T S).mono hr rfl T.aCU T.aCV S.aA8.b .nil qK (qA (pv 0) qE)) (qKD rfl (uG (jA (i:=1) yM.nd rfl (Or.inl rfl)) (uG (jA (i:=2) yM.nd rfl (Or.inl rfl)) (uG (jA (i:=3) yM.nd rfl (Or.inl rfl)) (uG (jA (i:=4) yM.nd rfl (Or.inl rfl)) q5W)))))) (qB (qS (i:=5) yM.nd rfl (Or.inl rfl) (q0Y T.aEY (q9W T S).mono hr rfl T.aE2 S.aCG S.aB9 qK (qA (pv 1) (qA (pv 2) qE)))) (qB (qS (i:=6) yM.nd rfl (Or.inl rfl) (q9A T.aB0 rfl T.aC3)) (qB (qS (i:=7) yM.nd rfl (Or.inl rfl) (q0Y T.aEQ (q83 T S).mono hr rfl T.aEU S.aAJ.b .nil qK (qA (pv 5) (qA (q0Y T.aEP (q7Z T S).mono hr rfl T.aER S.aBQ S.aBV qK (qA (pv 1) (qA (pv 2) (qA qG (qA (pv 3) (qA (pv 4) qE)))))) (qA (pv 6) qE))))) (qB (j9 (qQ (qKT hr.units) (qJ (pv 7) rfl) (pv 6) (qO _)) (qD (qL vJ)) qR) (qB (qS (i:=8) yM.nd rfl (Or.inl rfl) qG) (qB (qS (i:=9) yM.nd rfl (Or.inl rfl) qG) (qB (zY dF rfl (q88 rfl T.aA2 (qA qG (qA (qX (qDL rfl) (by rfl) T.aE3 (by kernel_rfl) (qA (qX qY (by rfl) T.oI gC (qA (pv 0) qE)) (qA qG qE))) qE))) (jA (i:=10) yM.nd rfl (Or.inl rfl)) (qB (qS (i:=11) yM.nd rfl (Or.inl rfl) (qV jE (pv 0) (pv 10) (λ_ _=>rfl))) (qB (qS (i:=12) yM.nd rfl (Or.inl rfl) (qN jV qG (qU (q5L T S).mono hr rfl T.aBD T.aBJ S.aAW.b .nil qK (qA (pv 5) qE)))) (qD (j9 (qQ yO (qN yX (pv 11) qG) qG (qO _)) (qB (qS (i:=8) yM.nd rfl (Or.inl rfl) (qN yX (qN zD (pv 11) qG) qG)) (qB (qS (i:=9) yM.nd rfl (Or.inl rfl) qG) (qD (j9 (jU (jG (qU (qA3 T S B).mono hr rfl T.aC4 T.aC5 S.aBL.b .nil qK (qA (pv 7) (qA (pv 8) (qA (pv 0) qE)))))) (qD (qL vJ)) qR)))) (qD (j9 (qQ yO (qN yX (pv 11) qG) qG (qO _)) (qB (qS (i:=13) yM.nd rfl (Or.inl rfl) (qX qY (by rfl) T.oI gC (qA (qW (pv 5) T.bG T.f9 (vI T S).mono hr S.fR.b .nil qK) qE))) (qB (qS (i:=14) yM.nd rfl (Or.inl rfl) (zI qDM (by rfl) T.aEZ (by kernel_rfl) (qA (jR (qFO hr.units) (qW (pv 7) T.bE T.eE (yN T S B).mono hr S.bZ.b .nil qK) (yA qE) (qO _)) qE))) (qB (j9 (PW.pt (q1W (jU (jG (qU (q85 T S B).mono hr rfl T.aB5 T.aCA S.aAD.b .nil qK (qA (pv 7) (qA (pv 8) (qA (pv 0) (qA (pv 9) (qA (pv 2) (qA (pv 12) qE))))))))) (q3J (qQ q3B (qX qY (by rfl) T.oI gC (qA (qW (pv 5) T.bG T.f9 (vI T S).mono hr S.fR.b .nil qK) qE)) (pv 13) (qO _))))) (qD (qL vJ)) qR) (qD (qS (i:=9) yM.nd rfl (Or.inl rfl) (qN jV (pv 9) (pv 14))))))) (qB (qS (i:=15) yM.nd rfl (Or.inl rfl) (qU (q7P T S B).mono hr rfl T.aBS T.aBW S.tV.b .nil qK (qA (pv 7) (qA (pv 5) (qA (qN yX (qN yX (qN yP (qN jV (pv 11) (pv 10)) qG) qG) (pv 3)) (qA (pv 11) (qA (pv 8) qE))))))) (qB (j9 (PW.pt (q1W (qQ q69 (pv 15) yW (qO _)) (q3J (jU (jG (qU (q84 T S).mono hr rfl T.aB7 T.aB6 S.aAG.b .nil qK (qA (pv 15) (qA (pv 8) (qA (pv 0) (qA (pv 9) (qA (pv 2) (qA (pv 12) qE)))))))))))) (qD (qL vJ)) qR) (qD (qS (i:=9) yM.nd rfl (Or.inl rfl) (qN jV (pv 9) (qX qY (by rfl) T.oI gC (qA (pv 15) qE)))))))))))))) (qD (qL (jR yO (qX qY (by rfl) T.oI gC (qA (qJ (pv 7) rfl) qE)) (qN yH (qX qY (by rfl) T.oI gC (qA (qW (pv 5) T.bG T.f9 (vI T S).mono hr S.fR.b .nil qK) qE)) (qU (q5L T S).mono hr rfl T.aBD T.aBJ S.aAW.b .nil qK (qA (pv 5) qE))) (qO _)))))))))))),?_⟩
try dsimp-beta-proj-iota-zeta-eta only[wishK,cxK]
refine⟨_,rfl,a,ns,rfl,hS,λc P1 i sh hc1 hc4 hP1 hP2 hi2 hs1 hs2 p0 H1 n0 s1 h1=>?_⟩
refine⟨p0,_,rfl,SqL.of h1,rfl,_,_,rfl,_,_,rfl,_,_,rfl,_,_,rfl,rfl,?_⟩
have hcp:c*P1≤4*4:=Nat.mul_le_mul hc4 hP2
have sh14:sh≤14:=by lia
refine⟨_,rfl,_,rfl,?_⟩
dsimp only[tNil]
refine qLT (by lia) (by lia) (by lia) (by lia) (by decide) (by decide) ?_
refine λch ca H6 hc sC fC=>?_
have s06:=s1.trans sC
refine λru dr nru ndr nnr=>?_
have s67:=q61 (C:=t.C_Fewest) nru ndr
have hru:(upd (upd H6 dr (.own ru)) ru (.ins t.C_Fewest dr [])) ru=some (.ins t.C_Fewest dr []):=qI
show vZ 6 _ _ (upd (upd H6 dr (.own ru)) ru (.ins t.C_Fewest dr [])) _
generalize upd (upd H6 dr (.own ru)) ru (.ins t.C_Fewest dr [])=H7 at s67 hru ⊢
refine⟨_,rfl,_,rfl,_,rfl,_,rfl,_,rfl,?_⟩
dsimp only[tNil,sG,dC]
refine qLU (by lia) (by lia) (by lia) (by lia) (by lia) (by lia) (by lia) (by rw[show((c+1+i:Nat):Int)-1-(i:Int)=(c:Int) by lia,←dE];lia) (by lia) (by lia) (by decide) (by decide) ?_
intro tm td H8 s8 htm
have s08:=(s06.trans s67).trans s8
have hru8:=s8 _ _ hru
have hc8:=hc.same (s67.trans s8)
have tb8:TbF t H8:=⟨#[],s08 _ _ hT,.inl rfl⟩
refine⟨_,rfl,λsA sd nA nsd nn=>?_⟩
have sM:Same H8 (upd (upd H8 sd (.own sA)) sA (.ins t.C_Store sd [])):=q61 nA nsd
refine⟨sA,sd,tm,td,ch,ca,_,_,_,_,_,_,c+1+i,P1,rfl,qI,sM _ _ htm,hc8.same sM,rfl,rfl,by lia,tb8.same sM,λkb pp H9 st9 hp9 npp fk off up=>⟨rfl,?_⟩⟩
have s89:Same H8 H9:=λb o e=>up b o (qH e nA) (sM b o e)
have s09:=s08.trans s89
have npp8:H8 pp=none:=Same.free sM npp
have hru9:=s89 _ _ hru8
obtain⟨kt,ekt⟩:∃kt:Tm,kt=⟨i,1000000,false⟩:=⟨_,rfl⟩
obtain⟨ix0,ge0⟩:=qHY (k:=kt) (B:=c+1+i) (P:=P1) (by lia) hP1 (by lia) (by rw[ekt];show 1+i< _;lia) (by rw[ekt];show(1:Int)≤1000000;decide)
obtain⟨X,eX⟩:∃X:Sto,X=⟨sA,sd,tm,td,ch,ca,kb,.ref ru,.ref pp⟩:=⟨_,rfl⟩
have apart:∀{b:Addr} {o:HO},H b=some o→b≠t.bD→(∀C d fs,o≠ .ins C d fs)→b∉fz t X pp:=fun {b o} e nT ni z=>by
 rw[eX]at z;have z:b=pp∨b=sA∨b=tm∨b=ca.li∨b=t.bD∨b∈foot ch ca∨b∈bf kb:=by simpa[sf]using z
 have e6:=s06 _ _ e;have e8:=s08 _ _ e;rcases z with z|z|z|z|z|z|z
 ·rw[z,npp8]at e8;cases e8
 ·rw[z,nA]at e8;cases e8
 ·rw[z,htm]at e8;exact ni _ _ _ (kL e8).symm
 ·rw[z,Same.free s1 (fC ca.li (by simp))]at e;cases e
 ·exact nT z
 ·rw[Same.free s1 (fC b (kB _ z))]at e;cases e
 have:=sM _ _ e8;rw[fk b z]at this;cases this
have of:Off t X [ru]:=by
 rw[eX];intro y hy hz;obtain rfl:=hX.mp hz;have hy:y=sA∨y=tm∨y=ca.li∨y=t.bD∨y∈foot ch ca∨y∈bf kb:=by simpa[sf]using hy
 rcases hy with h|h|h|h|h|h
 ·rw[h,nA]at hru8;cases hru8
 ·rw[h,htm]at hru8;injection kL hru8 with _ _ z
  have z:=g5 List.length z;cases z
 ·obtain⟨o',e',_⟩:=hc.has (show ca.li∈ca.li::foot ch ca by simp);rw[←h,nru]at e';cases e'
 ·have:=s06 _ _ hT;rw[←h,nru]at this;cases this
 ·obtain⟨o',e',_⟩:=hc.has (kB ca.li h);rw[nru]at e';cases e'
 have:=sM _ _ hru8;rw[fk _ h]at this;cases this
rw[←eX]at st9 off
have hx9:XX t H9 X kt 64 (sh:Int) ru [] pp ⟨newX (c+1+i) P1,.rk (λ_ _=>Tl.lv),[]⟩:=qKX (by rw[ekt];exact st9) (by rw[eX]) (.inl ⟨dr,hru9,rfl⟩) of (by rw[eX]) hp9 off (λz=>by rw[hX.mp z,hru8]at npp8;cases npp8) (by lia) (by lia) hP1 (by lia) ix0.w
have nS:a∉fz t X pp∨SqL K (λ_=>none) a (List.map V.int ns):=by
 rcases hS with(e|⟨o,e⟩)|e
 ·exact .inl (apart e (λz=>by rw[z,hT]at e;cases e) (λ_ _ _ z=>by cases z))
 ·exact .inl (apart e (λz=>by rw[z,hT]at e;cases e) (λ_ _ _ z=>by cases z))
 exact .inr (.inr e)
have nT:t.bL∉fz t X pp:=apart hW (λz=>T.oW z.symm) (λ_ _ _ z=>by cases z)
have o9:=hx9.j.o
rw[show sA=X.s by rw[eX],show ch=X.c by rw[eX]]
have xru:{ X with ru:=.ref ru } =X:=by rw[eX]
have jz0:JZ t H9 X kt sh ru [] pp ⟨newX (c+1+i) P1,.rk (λ_ _=>Tl.lv),[]⟩ ns 0 0 a P1 0:=by
 refine⟨by rw[xru];exact hx9,⟨[],⟨ix0,Wt.of ge0,trivial,List.nodup_nil,λy hy=>absurd hy (by simp),λn _=>?_,λy hy=>absurd hy (by simp),mL _,?_,by lia,by lia⟩,λz hz=>absurd hz (by simp)⟩,rfl,by decide,rfl,rfl,rfl,rfl,mL _,mL _,s09.seq hS,⟨#[],s09 _ _ hW,.inl rfl⟩,rfl⟩
 ·show(∃p,(n,p)∈([]:Mp))↔_;simp
 show sh+2≤(c+1+i-(1+kt.ie))*P1;rw[ekt];show sh+2≤(c+1+i-(1+i))*P1;rw[show c+1+i-(1+i)=c by lia];exact hs2
have ev:kt.ev=false:=by rw[ekt]
have o9:H9 X.s=some (.ins t.C_Store X.sd [("chip",.ref X.c),("terms",.ref X.tm),("book",.ref X.k.bk),("rule",.ref ru),("papers",X.pa)]):=by have:=o9;rw[hx9.er]at this;exact this
clear hx9 st9 off hp9 npp fk up sM tb8 hc8 s08 s8 htm sC fC hc h1 nsd nn nA nru s89 npp8 of eX apart xru hru8 hru s67 s06 hcp
refine(iV rfl (iF o9 T.bE T.bS rfl ⟨_,rfl,ru,_,_,_,rfl,rfl,hru9,T.aC7,_,rfl,iteF ?_⟩))
generalize newX (c+1+i) P1=s0 at jz0
clear ix0 ge0
refine⟨_,rfl,a,_,rfl,.inl jz0.hS,_,_,rfl,?_⟩
obtain⟨hi,eh,h48,hln⟩:∃h:Nat,(if(48:Int)<((ns.map V.int).length:Nat)then(48:Int)else((ns.map V.int).length:Nat))=(h:Int)∧h≤48∧h≤ns.length:=by
 rw[h9];by_cases z:(48:Int)<(ns.length:Nat)
 ·exact⟨48,kF z,by lia,by lia⟩
 exact⟨ns.length,hV z,by lia,by lia⟩
rw[eh]
refine⟨_,_,rfl,⟨by decide,by decide,by lia,by lia⟩,?_⟩
refine qC8 (λu σ' H'=>∃(kd n:Nat) (r:Addr) (rl:List Addr) (Y:Sx) (y10 y11 y12 y13 y14 y15:Option V),σ'=[some (.ref a),some (.int ((c+1+i:Nat):Int)),some (.int (P1:Int)),some (.int (sh:Int)),some (.int (i:Int)),some (.ref X.c),some (.ref ru),some (.ref X.s),some (.int (kd:Int)),some (.int (n:Int)),y10,y11,y12,y13,y14,y15]∧JZ t H' X kt sh r rl pp Y ns kd n a P1 u) ⟨0,0,ru,[],_,_,_,_,_,_,_,rfl,jz0⟩ (λu σ' H2 D' nxt hu' hp=>?_) (λσ' H2 hp=>?_)
·obtain⟨kd,n,r,rl,Y,y10,y11,y12,y13,y14,y15,rfl,j⟩:=hp;have hu':8+u<hi:=by lia
 have hi8:8+u<ns.length:=by lia
 have at1:atI (ns.map V.int) (8+(u:Int))=some (.int ns[8+u]):=by refine(show atI (ns.map V.int) ((8+u:Nat):Int)=_ from yD ?_);rw[mC,kC hi8];rfl
 generalize ns[8+u]=z at at1;refine⟨_,rfl,_,rfl,a,_,_,.int z,rfl,rfl,j.hS,at1,?_⟩;have rcn:=j.rcn;have psn:=j.psn;obtain⟨m,hc,_,elf,erc,_,_,_,_,_⟩:=j.h.chip;refine⟨_,rfl,X.c,X.a,m,rfl,hc,by rw[erc];lia,λH3 s3=>(iI ?_)⟩;show vZ 12 (.int (1+((ptN m.rc:Nat):Int))) _ H3 _;rw[erc,show(1:Int)+((ptN Y.s.rc:Nat):Int)=Y.s.q.nx from j.nx.symm];have j3:=j.same s3;obtain⟨leF,noF⟩:=j3.le;obtain⟨KD,dd,kb⟩:=j3.d;refine⟨_,rfl,iI ⟨(by show(0:Int)<16;decide),rfl,_,rfl,ite2 (λ_=>?_) (λ_=>?_)⟩⟩
 ·refine⟨_,rfl,iI ⟨⟨by decide,by decide⟩,iI ⟨(by show(0:Int)<6;decide),?_⟩⟩⟩;have mm:=vS (z / 16) 6 (by decide);try dsimp only
  obtain⟨kd',ek⟩:∃m:Nat,z / 16%6=(m:Int):=⟨(z / 16%6).toNat,by lia⟩;rw[ek];refine⟨_,rfl,_,rfl,_,rfl,{ X with ru:=.ref r },kt,64,(sh:Int),r,rl,pp,Y,kd',a,ns,rfl,j3.h,by lia,j3.hS,nS,j3.tw,nT,λr' rl' H4 h4 tw4 up4=>⟨_,rfl,iteF ?_⟩⟩;refine nxt _ _ ⟨kd',0,r',rl',_,_,_,_,_,_,_,rfl,⟨h4,⟨KD,?_,kb⟩,j3.lf,by lia,rfl,j3.nx,j3.pw,j3.tt,by show Y.s.rc.length≤_;lia,by show Y.ps.length≤_;lia,?_,tw4,j3.eP⟩⟩
  ·exact⟨dd.x,dd.wt,h4.ru.ok,dd.nd,dd.kb,dd.eq,dd.hv,dd.ls,dd.hs,dd.s57,dd.h64⟩
  obtain⟨pt,hpt,_⟩:=j3.tw;have o3:=j3.h.j.o;rcases j3.hS with(e|⟨o,e⟩)|e
  ·exact .inl (.inl (up4 _ _ (λz=>by rw[z,hpt]at e;cases e) (λz=>by rw[z,o3]at e;cases e) e))
  ·exact .inl (.inr ⟨o,up4 _ _ (λz=>by rw[z,hpt]at e;cases e) (λz=>by rw[z,o3]at e;cases e) e⟩)
  exact .inr e
 refine⟨_,rfl,iI ⟨(by show(0:Int)<16;decide),rfl,_,rfl,ite2 (λ_=>?_) (λ_=>?_)⟩⟩
 ·obtain⟨m3,hc3,_,elf3,erc3,_,_,_,_,_⟩:=j3.h.chip;refine(iV rfl (iM hc3.ins rfl ⟨X.c,X.a,m3,rfl,hc3,λrs er pr p H4 n4 s4 h4=>⟨p,_,rfl,.inl (SqL.of h4),?_⟩⟩));rw[pr.len,erc3];have j4:=j3.same s4;refine(iV rfl (iM j4.h.j.o rfl ?_));dsimp only[tNil,dC];refine j4.h.j.opts ev λp5 rs5 H5 np5 j5 k5 h5 ty5=>?_;refine⟨sz0,λe6 H6 n6 s6 h6=>⟨p5,_,e6,rfl,rfl,SqL.of (s6 _ _ h5),SqL.of h6,.inr ⟨_,rfl,?_⟩⟩⟩;have mT:∀y∈[t.bD],y∈fx t { X with ru:=.ref r } r pp:=λy hy=>by rw[hX.mp hy];simp
  have k46:Keep (fx t { X with ru:=.ref r } r pp) H4 H6:=(k5.mono mT).trans (Keep.same s6);have hx6:XX t H6 { X with ru:=.ref r } kt 64 (sh:Int) r rl pp Y:=(j4.h.kT k5 j5.tb).same s6;have hS6:=j4.h.sq j4.hS nS k46;have tw6:=j4.h.tw j4.tw nT k46;refine⟨_,rfl,_,rfl,_,rfl,_,rfl,_,rfl,_,rfl,{ X with ru:=.ref r },kt,64,(sh:Int),r,rl,pp,Y,kd,a,ns,n,by rw[j.eP];rfl,hx6,ev,by lia,j.k5,j.g,hS6,nS,λH7 h7 k7=>⟨_,rfl,iteF ?_⟩⟩;obtain⟨m7,hc7,_,_,erc7,_,_,_,_,_⟩:=h7.chip;refine(iV rfl (iM hc7.ins rfl ⟨X.c,X.a,m7,rfl,hc7,λrs7 er7 pr7 p7 H8 n8 s8 h8=>⟨p7,_,rfl,.inl (SqL.of h8),_,rfl,rfl,_,rfl,?_⟩⟩));rw[pr7.len,erc7];rw[show(!decide (V.int ((Y.s.rc.length:Nat):Int)=V.int ((Y.s.rc.length:Nat):Int)))=false by simp];refine iteF ⟨_,rfl,_,rfl,iI ?_⟩;have ln5:=ty5.len;have eo:(n:Int)+(if decide (rs5≠[])=true then 1 else 0)=((n+if Y.s.opt kt=[]then 0 else 1:Nat):Int):=by
   by_cases e0:Y.s.opt kt=[]
   ·rw[kF e0];unfold XS.ots at ln5;rw[e0]at ln5;rw[g4 ln5];simp
   rw[hV e0];have:rs5≠[]:=λz=>e0 (dU.mp (g4 (by rw[z]at ln5;exact ln5.symm)));rw[kF (hG this)];lia
  show vZ 9 (.int ((n:Int)+if decide (rs5≠[])=true then 1 else 0)) _ H8 _;rw[eo];have k68:=k7.trans (Keep.same s8);exact nxt _ _ ⟨kd,_,r,rl,_,_,_,_,_,_,_,rfl,⟨h7.same s8,⟨KD,⟨dd.x,dd.wt,h7.ru.ok,dd.nd,dd.kb,dd.eq,dd.hv,dd.ls,dd.hs,dd.s57,dd.h64⟩,kb⟩,j.lf,j.k5,rfl,j.nx,j.pw,j.tt,by show Y.s.rc.length≤_;lia,by show Y.ps.length≤_;lia,hx6.sq hS6 nS k68,hx6.tw tw6 nT k68,j.eP⟩⟩
 have shp:(0:Int)<(sh:Int):=by lia
 have mv:=vS ((z+(8+(u:Int)))*48271%1000003) (sh:Int) shp;refine⟨_,rfl,_,rfl,_,rfl,_,rfl,iI (iI ⟨.inr ⟨by decide,by decide⟩,iI ⟨(by show(0:Int)<1000003;decide),_,rfl,iI ⟨shp,_,rfl,_,rfl,{ X with ru:=.ref r },kt,r,rl,pp,Y,KD,sh,kd,_,z,rfl,j3.h,ev,dd,kb,j3.lf,noF,leF,j3.nx,by lia,by lia,mv.1,mv.2,λl us qs X' H4 h4 k4 wr hl pr=>?_⟩⟩⟩)⟩;have hS4:=j3.h.sq j3.hS nS k4;have tw4:=j3.h.tw j3.tw nT k4;have ch:Chn (P1:Int) (gK ns n kd) Y.s.q.nx qs:=by have:=wr.ch;rw[j.eP,j.g]at this;exact this
 refine⟨_,rfl,rfl,_,rfl,iteF ⟨_,rfl,_,rfl,_,rfl,_,rfl,_,rfl,_,rfl,l,us,qs,kd,a,ns,n,(P1:Int),Y.s.q.nx,_,rfl,hl,pr,j.k5,ch,hS4,λH5 s5=>⟨_,rfl,iteF ?_⟩⟩⟩;refine⟨_,rfl,_,rfl,l,_,rfl,.inl (SqL.of (s5 _ _ hl)),iI ?_⟩;rw[pr.len];have wln:=wr.ln;have wrl:=wr.rl;have wps:=g5 List.length wr.ps;rw[kO]at wps;have gg:X'.g=gK ns (n+qs.length) kd:=by
  by_cases z3:kd=3
  ·rw[wr.g2 z3,j.g,gK_n]
  rw[wr.g1 z3,←gK_n,qGH (by rw[←j.g];exact noF z3)];exact j.g
 refine nxt _ _ ⟨kd,n+qs.length,r,rl,X',_,_,_,_,_,_,rfl,⟨h4.same s5,wr.d,wr.lf,j.k5,gg,wr.nx,?_,wr.tt j.tt,by lia,by lia,s5.seq hS4,tw4.same s5,wr.eP.trans j.eP⟩⟩;have:=wr.wn;have:=j.pw;lia
obtain⟨kd,n,r,rl,Y,y10,y11,y12,y13,y14,y15,rfl,j⟩:=hp
obtain⟨ps,hps,pap⟩:=j.h.hp
have o2:=j.h.j.o
rw[j.h.ep]at o2
obtain⟨m,hc,_,_,erc,_,_,_,_,_⟩:=j.h.chip
have rcn:=j.rcn
refine(iV rfl (iF o2 T.bE T.bX rfl ⟨pp,ps,rfl,.inl (SqL.of hps),?_⟩))
refine(iV rfl (iM hc.ins rfl ⟨X.c,X.a,m,rfl,hc,λrs er pr p H3 n3 s3 h3=>⟨p,_,rfl,.inl (SqL.of h3),_,rfl,X.c,X.a,m,rfl,hc.same s3,by rw[erc];lia,λH4 s4=>(iI ⟨rfl,?_⟩)⟩⟩))
have tt:Y.s.rc.length=_:=j.tt
have pw:=j.pw
rw[pap.len,pr.len,erc,zZ,hG (by lia)]
exact k H4)
theorem qKZ{P:Program}{w:World}{K:W.Frag}{mg:Str→Option Value}{t:Adr}(T:Txt K mg t)(S:Fns K t)(B:BmIn base mg):S.law.Ok0 P w mg base 19 (q4Y K [t.bD,t.bL]):=Classical.byContradiction λn=>by
 have hs:hkB hkE:=by unfold hkE;exact Classical.epsilon_spec ⟨⟨P,w,K,mg,t⟩,S,base,T,B,n⟩
 obtain⟨S',b',T',B1,n'⟩:=hs;exact n' (qKY T' S' B1)
end
theorem qL0{l:W.OpenLaw}{w:World}{K:W.Frag}{h:Heap}{mg:Str→Option Value}{fa z0 z1 z2 z3 z4 z5 z6 z7 z8 z9 z10 z11 z12 z13 z14 z15 z16 z17 z18 z19 z20 z21 z22 z23 z24 z25 z26 z27 z28 z29 z30 z31 z32 z33 z34 z35 z36 z37 z38 z39 z40 z41 z42 z43 z44 z45 z46 z47 z48 z49 z50 z51 z52 z53 z54 z55 z56 z57 z58 z59 z60 z61 z62 z63 z64 z65 z66 z67 z68 z69 z70 z71 z72 z73 z74 z75 z76 z77 z78 z79 z80 z81 z82 z83 z84 z85 z86 z87 z88 z89 z90 z91 z92 z93 z94 z95 z96 z97 z98 z99 z100 z101 z102 z103 z104 z105 z106 z107 z108 z109:Addr}(X:K.In h)(G:h.Ns mainGlobals mg)(hfa:mg "law"=some (.ref fa))
 {z110 z111 z122 z123 z134 z135 z146 z147:Option Addr} {z112 z124 z136 z148:Array (Option Value)} {z113 z114 z115 z116 z118 z125 z126 z127 z128 z129 z130 z137 z138 z139 z140 z141 z142 z149 z150 z151 z152 z154:Value} {z131:Option Addr} {z132:Nat} {z133:Array (Option Value)} {e0_Chip_init:Tok} {z143:Option Addr} {z144:Nat} {z145:Array (Option Value)} {e0_Terms_init:Tok} {e1_Terms_init:Tok} {fZ:Tok} {aB3:Tok} {aAY:Tok}
 (z158:W.nsIn K mainGlobals "Book"=some (some (.ref z95)))
 (z159:Cls K z95)
 (z160:qP K z95 "blocks")
 (z161:qP K z95 "pages")
 (z162:qP K z95 "stamp")
 (z163:qP K z95 "where")
 (z164:qP K z95 "live")
 (z165:qP K z95 "filled")
 (z166:qP K z95 "born")
 (z167:Meth K z95 "mark" z11)
 (z168:Meth K z95 "note" z12)
 (z169:Meth K z95 "forget" z13)
 (z170:Meth K z95 "emptied" z14)
 (z171:Meth K z95 "live_pages" z15)
 (z172:Meth K z95 "held" z16)
 (z173:Mk K z95 z10)
 (z174:W.nsIn K mainGlobals "Plain"=some (some (.ref z96)))
 (z175:W.nsIn K mainGlobals "Store"=some (some (.ref z97)))
 (z176:Cls K z97)
 (z177:qP K z97 "chip")
 (z178:qP K z97 "terms")
 (z179:qP K z97 "book")
 (z180:qP K z97 "rule")
 (z181:qP K z97 "papers")
 (z182:Meth K z97 "take" z31)
 (z183:Meth K z97 "reserve" z32)
 (z184:Meth K z97 "tally" z33)
 (z185:Meth K z97 "space" z34)
 (z186:Meth K z97 "full_ones" z35)
 (z187:Meth K z97 "with_dead_page" z36)
 (z188:Meth K z97 "options" z37)
 (z189:Meth K z97 "choice" z38)
 (z190:Meth K z97 "choice_by_rule" z39)
 (z191:Meth K z97 "moved" z40)
 (z192:Meth K z97 "value_to_move" z41)
 (z193:Meth K z97 "wiped" z42)
 (z194:Meth K z97 "clear_out" z43)
 (z195:Meth K z97 "make_room" z44)
 (z196:Meth K z97 "make_ready" z45)
 (z197:Meth K z97 "make_rooms" z46)
 (z198:Meth K z97 "good" z18)
 (z199:Meth K z97 "free" z19)
 (z200:Meth K z97 "part" z20)
 (z201:Meth K z97 "spot" z21)
 (z202:Meth K z97 "ready" z22)
 (z203:Meth K z97 "set_down" z23)
 (z204:Meth K z97 "lay" z24)
 (z205:Meth K z97 "write" z25)
 (z206:Meth K z97 "held" z26)
 (z207:Meth K z97 "check_sheet" z27)
 (z208:Meth K z97 "check_share" z28)
 (z209:Mk K z97 z30)
 (z210:W.nsIn K mainGlobals "Chip"=some (some (.ref z98)))
 (z211:Cls K z98)
 (z212:qP K z98 "blocks")
 (z213:qP K z98 "pages")
 (z214:qP K z98 "most")
 (z215:qP K z98 "limits")
 (z216:qP K z98 "borne")
 (z217:qP K z98 "clearings")
 (z218:qP K z98 "deed_counts")
 (z219:qP K z98 "broken")
 (z220:qP K z98 "deeds_left")
 (z221:qP K z98 "record")
 (z222:Meth K z98 "put" z49)
 (z223:Meth K z98 "wipe" z50)
 (z224:Meth K z98 "read" z51)
 (z225:Meth K z98 "cut_after" z52)
 (z226:Meth K z98 "power_on" z53)
 (z227:Meth K z98 "is_dark" z54)
 (z228:Meth K z98 "cleared" z55)
 (z229:Meth K z98 "failed" z56)
 (z230:Meth K z98 "deeds" z57)
 (z231:Meth K z98 "check_page" z58)
 (z232:Meth K z98 "check_block" z59)
 (z233:Meth K z98 "check_power" z60)
 (z234:Meth K z98 "check_deed" z61)
 (z235:Meth K z98 "is_spent" z62)
 (z236:Meth K z98 "do_deed" z63)
 (z237:Mk K z98 z48)
 (z238:W.nsIn K mainGlobals "Fewest"=some (some (.ref z99)))
 (z239:Cls K z99)
 (z240:Meth K z99 "goes_ahead" z68)
 (z241:Meth K z99 "choose" z67)
 (z242:W.makesIn K z99=true)
 (z243:W.findIn K (.ref z99) "__init__"=some (some (.builtin "object.__init__")))
 (z244:W.keepIn K (.ref z99)=true)
 (z245:W.nsIn K mainGlobals "Eldest"=some (some (.ref z100)))
 (z246:Cls K z100)
 (z247:Meth K z100 "goes_ahead" z69)
 (z248:Meth K z100 "choose" z67)
 (z249:W.makesIn K z100=true)
 (z250:W.findIn K (.ref z100) "__init__"=some (some (.builtin "object.__init__")))
 (z251:W.keepIn K (.ref z100)=true)
 (z252:W.nsIn K mainGlobals "Worth"=some (some (.ref z101)))
 (z253:Cls K z101)
 (z254:Meth K z101 "goes_ahead" z70)
 (z255:Meth K z101 "choose" z67)
 (z256:W.makesIn K z101=true)
 (z257:W.findIn K (.ref z101) "__init__"=some (some (.builtin "object.__init__")))
 (z258:W.keepIn K (.ref z101)=true)
 (z259:W.nsIn K mainGlobals "Weighed"=some (some (.ref z102)))
 (z260:Cls K z102)
 (z261:qP K z102 "weigh")
 (z262:Meth K z102 "goes_ahead" z72)
 (z263:Meth K z102 "choose" z67)
 (z264:Mk K z102 z71)
 (z265:W.nsIn K mainGlobals "Window"=some (some (.ref z103)))
 (z266:Cls K z103)
 (z267:qP K z103 "many")
 (z268:Meth K z103 "choose" z74)
 (z269:Meth K z103 "goes_ahead" z68)
 (z270:Mk K z103 z73)
 (z271:W.nsIn K mainGlobals "Follow"=some (some (.ref z104)))
 (z272:Cls K z104)
 (z273:qP K z104 "row")
 (z274:qP K z104 "used")
 (z275:Meth K z104 "choose" z76)
 (z276:Mk K z104 z75)
 (z277:W.nsIn K mainGlobals "Terms"=some (some (.ref z105)))
 (z278:Cls K z105)
 (z279:qP K z105 "blocks")
 (z280:qP K z105 "pages")
 (z281:qP K z105 "sheets")
 (z282:qP K z105 "share")
 (z283:qP K z105 "ill")
 (z284:qP K z105 "spread")
 (z285:Meth K z105 "closed" z78)
 (z286:Mk K z105 z77)
 (z287:W.nsIn K mainGlobals "PowerGone"=some (some (.ref z106)))
 (z288:W.excIn K z106 bmVE "ValueError.__new__"=true)
 (z289:W.nsIn K mainGlobals "NoRoom"=some (some (.ref z107)))
 (z290:W.excIn K z107 bmVE "ValueError.__new__"=true)
 (z291:ClM K z96 "__init__" z17)
 (z292:W.exmOne K (.ref z106) (.ref z106)=some true)
 (z293:W.exmOne K (.ref z107) (.ref z107)=some true)
 (z294:W.findIn K (.ref z99) "__eq__"=some (some (.builtin "object.__eq__")))
 (z295:W.findIn K (.ref z99) "__ne__"=some (some (.builtin "object.__ne__")))
 (z296:W.mroIn K z99 (.type "object")=some true)
 (z297:W.findIn K (.ref z100) "__eq__"=some (some (.builtin "object.__eq__")))
 (z298:W.findIn K (.ref z100) "__ne__"=some (some (.builtin "object.__ne__")))
 (z299:W.mroIn K z100 (.type "object")=some true)
 (z300:W.findIn K (.ref z101) "__eq__"=some (some (.builtin "object.__eq__")))
 (z301:W.findIn K (.ref z101) "__ne__"=some (some (.builtin "object.__ne__")))
 (z302:W.mroIn K z101 (.type "object")=some true)
 (z303:W.findIn K (.ref z103) "__eq__"=some (some (.builtin "object.__eq__")))
 (z304:W.findIn K (.ref z103) "__ne__"=some (some (.builtin "object.__ne__")))
 (z305:W.mroIn K z103 (.type "object")=some true)
 (z306:W.findIn K (.ref z102) "__eq__"=some (some (.builtin "object.__eq__")))
 (z307:W.findIn K (.ref z102) "__ne__"=some (some (.builtin "object.__ne__")))
 (z308:W.mroIn K z102 (.type "object")=some true)
 (z309:W.findIn K (.ref z104) "__eq__"=some (some (.builtin "object.__eq__")))
 (z310:W.findIn K (.ref z104) "__ne__"=some (some (.builtin "object.__ne__")))
 (z311:W.mroIn K z104 (.type "object")=some true)
 (z312:W.codeHdIn K z0 z1=true)
 (z313:W.codeHdIn K z2 z3=true)
 (z314:z1≠z3)
 (z315:GFn K "is_whole" z4)
 (z316:GFn K "is_within" z5)
 (z317:GFn K "is_shape" z6)
 (z318:GFn K "is_value" z7)
 (z319:GFn K "mark_of" z8)
 (z320:GFn K "bits_of" z9)
 (z321:GFn K "paper_of" z29)
 (z322:GFn K "limits_of" z47)
 (z323:GFn K "is_unbeaten" z64)
 (z324:GFn K "first_unbeaten" z65)
 (z325:GFn K "by_age" z66)
 (z326:GFn K "_law_cell_at" z79)
 (z327:GFn K "_law_whole" z80)
 (z328:GFn K "_law_shape" z81)
 (z329:GFn K "_law_blocks" z82)
 (z330:GFn K "_law_weight" z83)
 (z331:GFn K "_law_rule" z84)
 (z332:GFn K "_law_less" z85)
 (z333:GFn K "_law_seen" z86)
 (z334:GFn K "_law_due" z87)
 (z335:GFn K "_law_paper" z88)
 (z336:GFn K "_law_chosen" z89)
 (z337:GFn K "_law_papers" z90)
 (z338:GFn K "_law_puts" z91)
 (z339:GFn K "_law_taken" z92)
 (z340:GFn K "_law_written" z93)
 (z341:W.nsIn K mainGlobals "MOST_TOLD"=some (some (.int 1000000 fZ)))
 (z342:W.nsIn K mainGlobals "ROLL"=some (some (.int 64 aB3)))
 (z343:W.nsIn K mainGlobals "NAMES"=some (some (.int 128 aAY)))
 (z344:W.nsIn K mainGlobals "bool"=some none)
 (z345:W.nsIn K mainGlobals "int"=some none)
 (z346:W.nsIn K mainGlobals "isinstance"=some none)
 (z347:W.nsIn K mainGlobals "len"=some none)
 (z348:W.nsIn K mainGlobals "list"=some none)
 (z349:W.nsIn K mainGlobals "min"=some none)
 (z350:W.nsIn K mainGlobals "range"=some none)
 (z351:W.nsIn K mainGlobals "sorted"=some none)
 (z352:W.nsIn K mainGlobals "tuple"=some none)
 (z353:FnX K "is_whole" "is_whole" q3K z4)
 (z354:FnX K "is_within" "is_within" q26 z5)
 (z355:FnX K "is_shape" "is_shape" q3L z6)
 (z356:FnX K "is_value" "is_value" q3M z7)
 (z357:FnX K "mark_of" "mark_of" q51 z8)
 (z358:FnX K "bits_of" "bits_of" q52 z9)
 (z359:FnX K "__init__" "Book.__init__" q27 z10)
 (z360:FnX K "mark" "Book.mark" q28 z11)
 (z361:FnX K "note" "Book.note" q29 z12)
 (z362:FnX K "forget" "Book.forget" q00 z13)
 (z363:FnX K "emptied" "Book.emptied" zM z14)
 (z364:FnX K "live_pages" "Book.live_pages" uU z15)
 (z365:FnX K "held" "Book.held" q2A z16)
 (z366:FnX K "__init__" "Plain.__init__" q15 z17)
 (z367:FnX K "good" "Plain.good" q16 z18)
 (z368:K.lookup z19=some ⟨z113,z110,.func (W.fnOf "free" "Plain.free" (yE jT) (jS jT) (qF jT) .none z114 z115 z116 z111 (.ref z0) z118),z112⟩)
 (z369:W.codeIn K (.ref z0) "Plain.free"=true)
 (z370:FnX K "part" "Plain.part" q17 z20)
 (z371:FnX K "spot" "Plain.spot" q18 z21)
 (z372:FnX K "ready" "Plain.ready" q01 z22)
 (z373:FnX K "set_down" "Plain.set_down" v9 z23)
 (z374:FnX K "lay" "Plain.lay" q2B z24)
 (z375:FnX K "write" "Plain.write" q02 z25)
 (z376:FnX K "held" "Plain.held" q19 z26)
 (z377:FnX K "check_sheet" "Plain.check_sheet" uA z27)
 (z378:FnX K "check_share" "Plain.check_share" uB z28)
 (z379:FnX K "paper_of" "paper_of" q3N z29)
 (z380:FnX K "__init__" "Store.__init__" q1A z30)
 (z381:FnX K "take" "Store.take" q1B z31)
 (z382:FnX K "reserve" "Store.reserve" vT z32)
 (z383:FnX K "tally" "Store.tally" q03 z33)
 (z384:FnX K "space" "Store.space" q04 z34)
 (z385:FnX K "full_ones" "Store.full_ones" uV z35)
 (z386:FnX K "with_dead_page" "Store.with_dead_page" yR z36)
 (z387:FnX K "options" "Store.options" vU z37)
 (z388:FnX K "choice" "Store.choice" zN z38)
 (z389:FnX K "choice_by_rule" "Store.choice_by_rule" yS z39)
 (z390:FnX K "moved" "Store.moved" q05 z40)
 (z391:FnX K "value_to_move" "Store.value_to_move" yY z41)
 (z392:FnX K "wiped" "Store.wiped" q06 z42)
 (z393:FnX K "clear_out" "Store.clear_out" uW z43)
 (z394:FnX K "make_room" "Store.make_room" uX z44)
 (z395:FnX K "make_ready" "Store.make_ready" uM z45)
 (z396:FnX K "make_rooms" "Store.make_rooms" uN z46)
 (z397:FnX K "limits_of" "limits_of" q2C z47)
 (z398:K.lookup z48=some ⟨z125,z122,.func (W.fnOf "__init__" "Chip.__init__" (yE uR) (jS uR) (qF uR) (.ref z108) z126 z127 z128 z123 z129 z130),z124⟩)
 (z399:W.codeIn K z129 "Chip.__init__"=true)
 (z400:K.lookup z108=some ⟨.type "tuple",z131,.seq #[.int 1000000 e0_Chip_init,.none] z132,z133⟩)
 (z401:FnX K "put" "Chip.put" q3O z49)
 (z402:FnX K "wipe" "Chip.wipe" q2D z50)
 (z403:FnX K "read" "Chip.read" q2E z51)
 (z404:FnX K "cut_after" "Chip.cut_after" vA z52)
 (z405:FnX K "power_on" "Chip.power_on" vV z53)
 (z406:FnX K "is_dark" "Chip.is_dark" zO z54)
 (z407:FnX K "cleared" "Chip.cleared" zP z55)
 (z408:FnX K "failed" "Chip.failed" q07 z56)
 (z409:FnX K "deeds" "Chip.deeds" q1C z57)
 (z410:FnX K "check_page" "Chip.check_page" uY z58)
 (z411:FnX K "check_block" "Chip.check_block" uO z59)
 (z412:FnX K "check_power" "Chip.check_power" uP z60)
 (z413:FnX K "check_deed" "Chip.check_deed" uZ z61)
 (z414:FnX K "is_spent" "Chip.is_spent" vW z62)
 (z415:FnX K "do_deed" "Chip.do_deed" zQ z63)
 (z416:FnX K "is_unbeaten" "is_unbeaten" q08 z64)
 (z417:FnX K "first_unbeaten" "first_unbeaten" vB z65)
 (z418:FnX K "by_age" "by_age" q6Z z66)
 (z419:FnX K "choose" "Rule.choose" q09 z67)
 (z420:FnX K "goes_ahead" "Fewest.goes_ahead" uC z68)
 (z421:FnX K "goes_ahead" "Eldest.goes_ahead" uD z69)
 (z422:FnX K "goes_ahead" "Worth.goes_ahead" uQ z70)
 (z423:FnX K "__init__" "Weighed.__init__" zR z71)
 (z424:FnX K "goes_ahead" "Weighed.goes_ahead" u8 z72)
 (z425:FnX K "__init__" "Window.__init__" q0A z73)
 (z426:FnX K "choose" "Window.choose" vX z74)
 (z427:FnX K "__init__" "Follow.__init__" q0B z75)
 (z428:FnX K "choose" "Follow.choose" vY z76)
 (z429:K.lookup z77=some ⟨z137,z134,.func (W.fnOf "__init__" "Terms.__init__" (yE u9) (jS u9) (qF u9) (.ref z109) z138 z139 z140 z135 z141 z142),z136⟩)
 (z430:W.codeIn K z141 "Terms.__init__"=true)
 (z431:K.lookup z109=some ⟨.type "tuple",z143,.seq #[.int 0 e0_Terms_init,.int 1000000 e1_Terms_init] z144,z145⟩)
 (z432:FnX K "closed" "Terms.closed" zS z78)
 (z433:FnX K "_law_cell_at" "_law_cell_at" q0C z79)
 (z434:FnX K "_law_whole" "_law_whole" q2F z80)
 (z435:FnX K "_law_shape" "_law_shape" q2G z81)
 (z436:FnX K "_law_blocks" "_law_blocks" q1D z82)
 (z437:FnX K "_law_weight" "_law_weight" q1E z83)
 (z438:K.lookup z84=some ⟨z149,z146,.func (W.fnOf "_law_rule" "_law_rule" (yE jZ) (jS jZ) (qF jZ) .none z150 z151 z152 z147 (.ref z2) z154),z148⟩)
 (z439:W.codeIn K (.ref z2) "_law_rule"=true)
 (z440:FnX K "_law_less" "_law_less" q3P z85)
 (z441:FnX K "_law_seen" "_law_seen" q3Q z86)
 (z442:FnX K "_law_due" "_law_due" q53 z87)
 (z443:FnX K "_law_paper" "_law_paper" q2H z88)
 (z444:FnX K "_law_chosen" "_law_chosen" q1F z89)
 (z445:FnX K "_law_papers" "_law_papers" q1G z90)
 (z446:FnX K "_law_puts" "_law_puts" q3R z91)
 (z447:FnX K "_law_taken" "_law_taken" q2I z92)
 (z448:FnX K "_law_written" "_law_written" q0D z93)
 (z449:W.nsIn K mainGlobals "law"=some (some (.ref z94)))
 (z450:FnX K "law" "law" qGK z94):
 ∃fd:FuncData,(∀(s:Shared) (v:Value),BindsTo s fd ⟨[v],[]⟩ [("_law_script",v)])∧∀base:Heap,K.In base→base.Ns mainGlobals mg→BmIn base mg→FnOk l.prog w K mg base (CX0) 19 fa fd ["_law_script"] (q4Y K [z1,z3]):=by(
have e:=hfa.symm.trans (gB X G z449)
cases e
let t:Adr:=⟨z4,z5,z6,z7,z8,z9,z10,z11,z12,z13,z14,z15,z16,z17,z18,z19,z20,z21,z22,z23,z24,z25,z26,z27,z28,z29,z30,z31,z32,z33,z34,z35,z36,z37,z38,z39,z40,z41,z42,z43,z44,z45,z46,z47,z48,z49,z50,z51,z52,z53,z54,z55,z56,z57,z58,z59,z60,z61,z62,z63,z64,z65,z66,z67,z68,z69,z70,z71,z72,z73,z74,z75,z76,z77,z78,z79,z80,z81,z82,z83,z84,z85,z86,z87,z88,z89,z90,z91,z92,z93,fa,z95,z96,z97,z98,z99,z100,z101,z102,z103,z104,z105,z106,z107,fZ,aB3,aAY,z0,z1,z2,z3⟩
have T:Txt K mg t:=⟨gB X G z158,z159,z160,z161,z162,z163,z164,z165,z166,z167,z168,z169,z170,z171,z172,z173,gB X G z174,gB X G z175,z176,z177,z178,z179,z180,z181,z182,z183,z184,z185,z186,z187,z188,z189,z190,z191,z192,z193,z194,z195,z196,z197,z198,z199,z200,z201,z202,z203,z204,z205,z206,z207,z208,z209,gB X G z210,z211,z212,z213,z214,z215,z216,z217,z218,z219,z220,z221,z222,z223,z224,z225,z226,z227,z228,z229,z230,z231,z232,z233,z234,z235,z236,z237,gB X G z238,z239,z240,z241,⟨z242,z243,z244⟩,gB X G z245,z246,z247,z248,⟨z249,z250,z251⟩,gB X G z252,z253,z254,z255,⟨z256,z257,z258⟩,gB X G z259,z260,z261,z262,z263,z264,gB X G z265,z266,z267,z268,z269,z270,gB X G z271,z272,z273,z274,z275,z276,gB X G z277,z278,z279,z280,z281,z282,z283,z284,z285,z286,gB X G z287,z288,gB X G z289,z290,z291,z292,z293,⟨z294,z295,z296⟩,⟨z297,z298,z299⟩,⟨z300,z301,z302⟩,⟨z303,z304,z305⟩,⟨z306,z307,z308⟩,⟨z309,z310,z311⟩,z312,z313,z314,gB X G z315.1,z315.2,gB X G z316.1,z316.2,gB X G z317.1,z317.2,gB X G z318.1,z318.2,gB X G z319.1,z319.2,gB X G z320.1,z320.2,gB X G z321.1,z321.2,gB X G z322.1,z322.2,gB X G z323.1,z323.2,gB X G z324.1,z324.2,gB X G z325.1,gB X G z326.1,z326.2,gB X G z327.1,z327.2,gB X G z328.1,z328.2,gB X G z329.1,z329.2,gB X G z330.1,z330.2,gB X G z331.1,z331.2,gB X G z332.1,z332.2,gB X G z333.1,z333.2,gB X G z334.1,z334.2,gB X G z335.1,z335.2,gB X G z336.1,z336.2,gB X G z337.1,z337.2,gB X G z338.1,z338.2,gB X G z339.1,z339.2,gB X G z340.1,z340.2,gB X G z341,gB X G z342,gB X G z343,rE X G z344,rE X G z345,rE X G z346,rE X G z347,rE X G z348,rE X G z349,rE X G z350,rE X G z351,rE X G z352⟩
let S:Fns K t:=⟨fn1 z353,fn1 z354,fn1 z355,fn1 z356,fn1 z357,fn1 z358,fn1 z359,fn1 z360,fn1 z361,fn1 z362,fn1 z363,fn1 z364,fn1 z365,fn1 z366,fn1 z367,_,FunT.mk' (st:=jT) z368 z369,jQ.all λus hl=>by rw[lnx hl];rfl,fn1 z370,fn1 z371,fn1 z372,fn1 z373,fn1 z374,fn1 z375,fn1 z376,fn1 z377,fn1 z378,fn1 z379,fn1 z380,fn1 z381,fn1 z382,fn1 z383,fn1 z384,fn1 z385,fn1 z386,fn1 z387,fn1 z388,fn1 z389,fn1 z390,fn1 z391,fn1 z392,fn1 z393,fn1 z394,fn1 z395,fn1 z396,fn1 z397,_,(.ref z108),FunD.mk' (st:=uR) z398 z399,λs us kin hl=>by rw[lnx (us:=us) (n:=5) (by simpa using hl)];exact dW rfl (kin _ _ z400) rfl rfl rfl,[.none],λs us kin hl=>by rw[lnx (us:=us) (n:=4) (by simpa using hl)];exact dW rfl (kin _ _ z400) rfl rfl rfl,(.cons rfl .nil),[.int 1000000 e0_Chip_init,.none],λs us kin hl=>by rw[lnx (us:=us) (n:=3) (by simpa using hl)];exact dW rfl (kin _ _ z400) rfl rfl rfl,(.cons ⟨_,rfl⟩ (.cons rfl .nil)),fn1 z401,fn1 z402,fn1 z403,fn1 z404,fn1 z405,fn1 z406,fn1 z407,fn1 z408,fn1 z409,fn1 z410,fn1 z411,fn1 z412,fn1 z413,fn1 z414,fn1 z415,fn1 z416,fn1 z417,fn1 z418,fn1 z419,fn1 z420,fn1 z421,fn1 z422,fn1 z423,fn1 z424,fn1 z425,fn1 z426,fn1 z427,fn1 z428,_,(.ref z109),FunD.mk' (st:=u9) z429 z430,λs us kin hl=>by rw[lnx (us:=us) (n:=7) (by simpa using hl)];exact dW rfl (kin _ _ z431) rfl rfl rfl,[.int 1000000 e1_Terms_init],λs us kin hl=>by rw[lnx (us:=us) (n:=6) (by simpa using hl)];exact dW rfl (kin _ _ z431) rfl rfl rfl,(.cons ⟨_,rfl⟩ .nil),[.int 0 e0_Terms_init,.int 1000000 e1_Terms_init],λs us kin hl=>by rw[lnx (us:=us) (n:=5) (by simpa using hl)];exact dW rfl (kin _ _ z431) rfl rfl rfl,(.cons ⟨_,rfl⟩ (.cons ⟨_,rfl⟩ .nil)),fn1 z432,fn1 z433,fn1 z434,fn1 z435,fn1 z436,fn1 z437,_,FunT.mk' (st:=jZ) z438 z439,jQ.all λus hl=>by rw[lnx hl];rfl,fn1 z440,fn1 z441,fn1 z442,fn1 z443,fn1 z444,fn1 z445,fn1 z446,fn1 z447,fn1 z448,fn1 z450⟩
exact⟨_,FnX.bind1 (by intros;rfl) S.law.F,λbase _ _ bm=>qKZ T S bm⟩)
theorem walk{l:W.OpenLaw}{q:Program}{loose:List Str}{XP:(Str→Option Value)→Heap→Prop}{YP:World→Heap→Prop}{d:DefRec}{K:Params→W.Frag}(hn:l.most=some 63)(hdf:d.params.defaults=[])
 (hY:∀(w:World) (h:Heap),YP w h→(K w.params).In h∧∀T∈([316,931]:List Addr),h.get? T=some (W.tabObj #[])) (hT:∀w:World,∀T∈([316,931]:List Addr),(K w.params).lookup T=none∧∃c,W.codeHdIn (K w.params) c T=true)
 (F:∀(w:World) (mg:Str→Option Value) (fa:Addr) (h:Heap),(K w.params).In h→h.Ns mainGlobals mg→mg d.name=some (.ref fa)→∃fd:FuncData,(∀(s:Shared) (u:Value),BindsTo s fd ⟨[u],[]⟩ [("_law_script",u)])∧∀base:Heap,(K w.params).In base→base.Ns mainGlobals mg→BmIn base mg→FnOk l.prog w (K w.params) mg base (CX0) 19 fa fd ["_law_script"] (q4Y (K w.params) [316,931])):
 W.WalkO q loose XP YP l.row.toRowW d [] (λf vs=>PySem.call f vs):=L2.qFT (n:=63) (k:=19) (x:="_law_script") (CX:=λ_=>CX0) (sp:=λw=>q4Y (K w.params) [316,931]) [316,931] hn (by decide) hdf ⟨rfl,by decide,by decide⟩ hY hT F (λ_ _ a ns hl hS hT=>⟨a,ns,rfl,hS,hl,hT,λ_=>rfl⟩) (λ_ _ _ _ _ z=>z)
end W1
namespace PySem.W.Fast
theorem tw10617503464492365998:True:=⟨⟩
theorem tw7666851434867605152:True:=⟨⟩
theorem tw10528850544274599073:True:=⟨⟩
theorem tw4701187710068305283:True:=⟨⟩
theorem tw16999783509075408483:True:=⟨⟩
theorem tw18401720200796194627:True:=⟨⟩
theorem tw4111173755498741603:True:=⟨⟩
theorem tw3316806677213927044:True:=⟨⟩
theorem tw1486991335541450500:True:=⟨⟩
theorem tw16612156700921226534:True:=⟨⟩
theorem tw6530630728093715878:True:=⟨⟩
theorem tw519387058587974214:True:=⟨⟩
theorem tw1748721972228007878:True:=⟨⟩
theorem tw4022295953336248262:True:=⟨⟩
theorem tw17615342785470989383:True:=⟨⟩
theorem tw7688167860287387847:True:=⟨⟩
theorem tw947290291345307399:True:=⟨⟩
theorem tw14940100028276942888:True:=⟨⟩
theorem tw3577756234084739304:True:=⟨⟩
theorem tw13070076715699936329:True:=⟨⟩
theorem tw8174863898123987369:True:=⟨⟩
theorem tw5814719493244113258:True:=⟨⟩
theorem tw3858777197061612779:True:=⟨⟩
theorem tw16978449326789281067:True:=⟨⟩
theorem tw12916124232886944172:True:=⟨⟩
theorem tw7468678269790544844:True:=⟨⟩
theorem tw11080373220515478605:True:=⟨⟩
theorem tw7303455839900712174:True:=⟨⟩
theorem tw15540041354760057039:True:=⟨⟩
theorem tw16580366090741976463:True:=⟨⟩
theorem tw3503332286519562096:True:=⟨⟩
theorem tw9740384841089740849:True:=⟨⟩
theorem tw8969373586677004369:True:=⟨⟩
theorem tw15480624307298551185:True:=⟨⟩
theorem tw14905351878963106034:True:=⟨⟩
theorem tw3329380114824046002:True:=⟨⟩
theorem tw14638849094102639635:True:=⟨⟩
theorem tw2689966614387896692:True:=⟨⟩
theorem tw6984518000406882357:True:=⟨⟩
theorem tw8809818439995119157:True:=⟨⟩
theorem tw11919680344943725301:True:=⟨⟩
theorem tw18042588961550712534:True:=⟨⟩
theorem tw9952813407418785143:True:=⟨⟩
theorem tw3104964512532062071:True:=⟨⟩
theorem tw16811713916913612824:True:=⟨⟩
theorem tw1012862056038421688:True:=⟨⟩
theorem tw8742127096396417240:True:=⟨⟩
theorem tw3104621585701618968:True:=⟨⟩
theorem tw6064004891091156185:True:=⟨⟩
theorem tw474970316129132153:True:=⟨⟩
theorem tw4917651976678581722:True:=⟨⟩
theorem tw17697868933595711130:True:=⟨⟩
theorem tw13143231752908587706:True:=⟨⟩
theorem tw15463514325272888347:True:=⟨⟩
theorem tw14513755036718405883:True:=⟨⟩
theorem tw6339761115782298875:True:=⟨⟩
theorem tw12451593637445192955:True:=⟨⟩
theorem tw14186430275708794235:True:=⟨⟩
theorem tw18360459402867747677:True:=⟨⟩
theorem tw13308508613657699582:True:=⟨⟩
theorem tw4424600610811903262:True:=⟨⟩
theorem tw13833735799857941086:True:=⟨⟩
theorem tw7710213932504648414:True:=⟨⟩
theorem tw3217673882004308734:True:=⟨⟩
theorem tw2706910713375068094:True:=⟨⟩
theorem tw8178059837865031167:True:=⟨⟩
theorem tw6559107811280515839:True:=⟨⟩
theorem tw11771872775809159646:True:=⟨⟩
theorem tw2676205154554533700:True:=⟨⟩
theorem tw8058342132999173192:True:=⟨⟩
theorem tw10988091674325983963:True:=⟨⟩
theorem tw12121261756353035303:True:=⟨⟩
theorem tw3652159012048931079:True:=⟨⟩
theorem tw6625183379482911214:True:=⟨⟩
theorem tw9994900756273149434:True:=⟨⟩
theorem tw6549016112703357218:True:=⟨⟩
theorem tw314996164822672896:True:=⟨⟩
theorem tw10645993676730283150:True:=⟨⟩
theorem tw9736379972690112957:True:=⟨⟩
theorem tw17732498702903370690:True:=⟨⟩
theorem tw2957195694646294784:True:=⟨⟩
theorem tw10384507784509813788:True:=⟨⟩
theorem tw6955858694207710652:True:=⟨⟩
theorem tw8772004385462679975:True:=⟨⟩
theorem tw7538027740895516857:True:=⟨⟩
theorem tw15983100733564524644:True:=⟨⟩
theorem tw5585674054111266207:True:=⟨⟩
theorem tw10764562676537663124:True:=⟨⟩
theorem tw15811012141739198649:True:=⟨⟩
theorem tw11909671167575069210:True:=⟨⟩
theorem tw14901069761772281762:True:=⟨⟩
theorem tw6547572865716671762:True:=⟨⟩
theorem tw13359321548404385427:True:=⟨⟩
theorem tw5476965908953734813:True:=⟨⟩
theorem tw8818238023514158908:True:=⟨⟩
theorem tw2616196717619062391:True:=⟨⟩
theorem tw6165877053267530208:True:=⟨⟩
theorem tw11195259705721111142:True:=⟨⟩
theorem tw5636398134545864003:True:=⟨⟩
theorem tw6391983423624676235:True:=⟨⟩
theorem tw1079246071883211578:True:=⟨⟩
theorem tw13556607807285523486:True:=⟨⟩
theorem tw4227658526915938952:True:=⟨⟩
theorem tw2049463736538858825:True:=⟨⟩
theorem tw5518227718421503768:True:=⟨⟩
theorem tw1576819491769666140:True:=⟨⟩
theorem tw6280699066722221056:True:=⟨⟩
theorem tw4474834004931647689:True:=⟨⟩
theorem tw9086538904204369430:True:=⟨⟩
theorem tw16072717041303438352:True:=⟨⟩
theorem tw11556874896104873215:True:=⟨⟩
theorem tw8539016819537019301:True:=⟨⟩
theorem tw16034328356841770889:True:=⟨⟩
theorem tw12323441101220268437:True:=⟨⟩
theorem tw1181844199550458761:True:=⟨⟩
theorem tw9108696463786381774:True:=⟨⟩
theorem tw3844326438403269897:True:=⟨⟩
theorem tw10940477252975348564:True:=⟨⟩
theorem tw2808502330235013316:True:=⟨⟩
theorem tw3378917360474803149:True:=⟨⟩
theorem tw9315580769301713119:True:=⟨⟩
theorem tw2155525323115491959:True:=⟨⟩
theorem tw4923685773982294207:True:=⟨⟩
theorem tw6546286980768376428:True:=⟨⟩
theorem tw4161751752277071227:True:=⟨⟩
theorem tw12088497316773681538:True:=⟨⟩
theorem tw15445209785737599470:True:=⟨⟩
theorem tw13461944354889566044:True:=⟨⟩
theorem tw16543872426321429364:True:=⟨⟩
theorem tw12926282695087523386:True:=⟨⟩
theorem tw4095599282020261952:True:=⟨⟩
theorem tw16545665891984704469:True:=⟨⟩
theorem tw17945763541502225693:True:=⟨⟩
theorem tw8555498637998350962:True:=⟨⟩
theorem tw6919314221184357774:True:=⟨⟩
theorem tw2709216485743747231:True:=⟨⟩
theorem tw16953020736801698991:True:=⟨⟩
theorem tw10205372283942219743:True:=⟨⟩
theorem tw575272431296340747:True:=⟨⟩
theorem tw17530978124461861746:True:=⟨⟩
theorem tw3355879132891031128:True:=⟨⟩
theorem tw1488856390885351674:True:=⟨⟩
theorem tw17029995919129044826:True:=⟨⟩
theorem tw15678420067496457934:True:=⟨⟩
theorem tw17840174306071619690:True:=⟨⟩
theorem tw9672417163898616402:True:=⟨⟩
theorem tw12966062588080363320:True:=⟨⟩
theorem tw16730050457552500417:True:=⟨⟩
theorem tw12765596600213317521:True:=⟨⟩
theorem tw4213967255172029638:True:=⟨⟩
theorem tw10889156729625402672:True:=⟨⟩
theorem tw2021520033572285506:True:=⟨⟩
theorem tw17952941528397972429:True:=⟨⟩
theorem tw8538317868742156302:True:=⟨⟩
theorem tw14285461759213359287:True:=⟨⟩
theorem tw5981154710773909262:True:=⟨⟩
theorem tw11888183720850521546:True:=⟨⟩
theorem tw12268002915004907324:True:=⟨⟩
theorem tw10531744674002469051:True:=⟨⟩
theorem tw6485814116655961187:True:=⟨⟩
theorem tw16525411911956958492:True:=⟨⟩
theorem tw12662128538019969953:True:=⟨⟩
theorem tw11389567146676746011:True:=⟨⟩
theorem tw1200703735779216885:True:=⟨⟩
theorem tw3145015100691619821:True:=⟨⟩
theorem tw15162114607315655581:True:=⟨⟩
theorem tw10547995074323574510:True:=⟨⟩
theorem tw10986334670129543794:True:=⟨⟩
theorem tw8590630165903458981:True:=⟨⟩
theorem tw3636249971267076010:True:=⟨⟩
theorem tw12487963349261074890:True:=⟨⟩
theorem tw418200280131308549:True:=⟨⟩
theorem tw1574138726888724513:True:=⟨⟩
theorem tw11315675529462314821:True:=⟨⟩
theorem tw15906549487418567871:True:=⟨⟩
theorem tw9819885032495514703:True:=⟨⟩
theorem tw15243946797679761482:True:=⟨⟩
theorem tw9630208783985581702:True:=⟨⟩
theorem tw13768784698213941326:True:=⟨⟩
theorem tw8202411695492952333:True:=⟨⟩
theorem tw718121636028737809:True:=⟨⟩
theorem tw838493556306698223:True:=⟨⟩
theorem tw8719237768887643763:True:=⟨⟩
theorem tw8797244758027978608:True:=⟨⟩
theorem tw14539914151242731693:True:=⟨⟩
theorem tw13523299110684671847:True:=⟨⟩
theorem tw13233002871434024361:True:=⟨⟩
theorem tw8458089155810522898:True:=⟨⟩
theorem tw966387770821882446:True:=⟨⟩
theorem tw16375766069504673604:True:=⟨⟩
theorem tw14731510442879680924:True:=⟨⟩
theorem tw8502401094104794353:True:=⟨⟩
theorem tw4089914935028404261:True:=⟨⟩
theorem tw707487160558016585:True:=⟨⟩
theorem tw14552044280103204094:True:=⟨⟩
theorem tw2781003121476450658:True:=⟨⟩
theorem tw16586591514599015662:True:=⟨⟩
theorem tw14075364902935375257:True:=⟨⟩
theorem tw12320183123786836646:True:=⟨⟩
theorem tw10096417647862796970:True:=⟨⟩
theorem tw11607713847989094525:True:=⟨⟩
theorem tw14241884091142116282:True:=⟨⟩
theorem tw4303514656966887020:True:=⟨⟩
theorem tw9308847885044410990:True:=⟨⟩
theorem tw8337627783034280732:True:=⟨⟩
theorem tw13729629247532684501:True:=⟨⟩
theorem tw13267358463062002780:True:=⟨⟩
theorem tw17689342153955915124:True:=⟨⟩
theorem tw1009839089931017585:True:=⟨⟩
theorem tw13992105066741724274:True:=⟨⟩
theorem tw11713503836005565086:True:=⟨⟩
theorem tw11720926045953160287:True:=⟨⟩
theorem tw6151419916525739638:True:=⟨⟩
theorem tw888939159791863344:True:=⟨⟩
theorem tw15154863167615521677:True:=⟨⟩
theorem tw11428720118242270691:True:=⟨⟩
theorem tw2020188083924033580:True:=⟨⟩
theorem tw4705465465940486543:True:=⟨⟩
theorem tw12719677038825897378:True:=⟨⟩
theorem tw6791561129029773297:True:=⟨⟩
theorem tw16112043578364981368:True:=⟨⟩
theorem tw13344687076718995782:True:=⟨⟩
theorem tw4723450020234848935:True:=⟨⟩
theorem tw14382353273140864833:True:=⟨⟩
theorem tw3962899047737177710:True:=⟨⟩
theorem tw5702482165237259328:True:=⟨⟩
theorem tw6131366826714628597:True:=⟨⟩
theorem tw13222106824780485304:True:=⟨⟩
theorem tw12264698963772283554:True:=⟨⟩
theorem tw14186256420551641907:True:=⟨⟩
theorem tw16122256140728039152:True:=⟨⟩
theorem tw10415858009089491133:True:=⟨⟩
theorem tw7307741495463500680:True:=⟨⟩
theorem tw12487406077843701273:True:=⟨⟩
theorem tw14826777568389626559:True:=⟨⟩
theorem tw17729335814331196206:True:=⟨⟩
theorem tw6524645484637348316:True:=⟨⟩
theorem tw9394843714995396133:True:=⟨⟩
theorem tw17127193626036036752:True:=⟨⟩
theorem tw5882791094532179186:True:=⟨⟩
theorem tw11005117039184651931:True:=⟨⟩
theorem tw2277564343753862916:True:=⟨⟩
theorem tw12889769862370330127:True:=⟨⟩
theorem tw12907859850627857294:True:=⟨⟩
theorem tw10657274741949103903:True:=⟨⟩
theorem tw7660475716833682671:True:=⟨⟩
theorem tw14775289489560947783:True:=⟨⟩
theorem tw11134319413223787907:True:=⟨⟩
theorem tw9724401230669610714:True:=⟨⟩
theorem tw15735948260686431058:True:=⟨⟩
theorem tw4725694272321216544:True:=⟨⟩
theorem tw4409894669140090765:True:=⟨⟩
theorem tw7816457623310768697:True:=⟨⟩
theorem tw3865666197539577281:True:=⟨⟩
theorem tw1779775840958625347:True:=⟨⟩
theorem tw16685224212175161178:True:=⟨⟩
theorem tw10629713923550058304:True:=⟨⟩
theorem tw908792306956223391:True:=⟨⟩
theorem tw9316706061633071961:True:=⟨⟩
theorem tw7776949930768119586:True:=⟨⟩
theorem tw11307458926889144014:True:=⟨⟩
theorem tw6843068326058461146:True:=⟨⟩
theorem tw16926774592894498032:True:=⟨⟩
theorem tw13370707986095110222:True:=⟨⟩
theorem tw9555899192814453714:True:=⟨⟩
theorem tw14842280955192550945:True:=⟨⟩
theorem tw2024735263887313038:True:=⟨⟩
theorem tw3510890602656072967:True:=⟨⟩
theorem tw13481086708114678155:True:=⟨⟩
theorem tw9400018036052708383:True:=⟨⟩
theorem tw16169648031788526534:True:=⟨⟩
theorem tw14154503380246221996:True:=⟨⟩
theorem tw10448231732658331620:True:=⟨⟩
theorem tw16110473182325467392:True:=⟨⟩
theorem tw10850203342357911539:True:=⟨⟩
theorem tw10326395385499931780:True:=⟨⟩
theorem tw17730118933446713998:True:=⟨⟩
theorem tw4442101439200131932:True:=⟨⟩
theorem tw4209791018687085583:True:=⟨⟩
theorem tw5842781509022108107:True:=⟨⟩
theorem tw12044204997160064620:True:=⟨⟩
theorem tw8837746414206203871:True:=⟨⟩
theorem tw1761328868547934446:True:=⟨⟩
theorem tw18322220095494174530:True:=⟨⟩
theorem tw13603992860124786208:True:=⟨⟩
theorem tw6865232213056244186:True:=⟨⟩
theorem tw14458554924756201489:True:=⟨⟩
theorem tw5786540342355088439:True:=⟨⟩
theorem tw14646729309814957288:True:=⟨⟩
theorem tw2642059413984471830:True:=⟨⟩
theorem tw14293400752200805499:True:=⟨⟩
theorem tw4421773107217520958:True:=⟨⟩
theorem tw9023408083329407662:True:=⟨⟩
theorem tw8696458402081348969:True:=⟨⟩
theorem tw1217272237467335432:True:=⟨⟩
theorem tw3442464256671127091:True:=⟨⟩
theorem tw15824143561097794128:True:=⟨⟩
theorem tw15283086642723528841:True:=⟨⟩
theorem tw3612377170332320702:True:=⟨⟩
theorem tw7501889059075525562:True:=⟨⟩
theorem tw3772035128031960833:True:=⟨⟩
theorem tw16826603412767846340:True:=⟨⟩
theorem tw2787489756753496493:True:=⟨⟩
theorem tw13844078404784386746:True:=⟨⟩
theorem tw2045253907743489143:True:=⟨⟩
theorem tw3786008056791915215:True:=⟨⟩
theorem tw16756002606813855841:True:=⟨⟩
theorem tw1965180117662853042:True:=⟨⟩
theorem tw1058398771387296568:True:=⟨⟩
theorem tw4804659701342464348:True:=⟨⟩
theorem tw4715707416656207080:True:=⟨⟩
theorem tw13281380234945526800:True:=⟨⟩
theorem tw10286440557842894140:True:=⟨⟩
theorem tw10195211472941500308:True:=⟨⟩
theorem tw3727246411055310483:True:=⟨⟩
theorem tw7433852801372449375:True:=⟨⟩
theorem tw16215005968120304085:True:=⟨⟩
theorem tw15721598169033419226:True:=⟨⟩
theorem tw11958588775417178129:True:=⟨⟩
theorem tw10993409985435960623:True:=⟨⟩
theorem tw2133888273632786452:True:=⟨⟩
theorem tw18302743634810742103:True:=⟨⟩
theorem tw16356863229151329496:True:=⟨⟩
theorem tw10401286380780628608:True:=⟨⟩
theorem tw9953520706038779922:True:=⟨⟩
theorem tw8268956423654513572:True:=⟨⟩
theorem tw66415388880808783:True:=⟨⟩
theorem tw12659662736055859246:True:=⟨⟩
theorem tw83835186097129565:True:=⟨⟩
theorem tw5333404327149828942:True:=⟨⟩
theorem tw17179768365063217218:True:=⟨⟩
theorem tw8759185155904653756:True:=⟨⟩
theorem tw7405649477333282751:True:=⟨⟩
theorem tw5337309901212784920:True:=⟨⟩
theorem tw3242073108249064655:True:=⟨⟩
theorem tw3204291742965689809:True:=⟨⟩
theorem tw9931242484707669011:True:=⟨⟩
theorem tw1957324541422668966:True:=⟨⟩
theorem tw838677411288410803:True:=⟨⟩
theorem tw9646301940200522593:True:=⟨⟩
theorem tw5490143711863085744:True:=⟨⟩
theorem tw11200747149857541972:True:=⟨⟩
theorem tw23474449560157215:True:=⟨⟩
theorem tw8467471059608940857:True:=⟨⟩
theorem tw5939643338746295264:True:=⟨⟩
theorem tw1351318723998457674:True:=⟨⟩
theorem tw15685980204613016681:True:=⟨⟩
theorem tw15182764468129830418:True:=⟨⟩
theorem tw10327918682261914577:True:=⟨⟩
theorem tw4101677819941503856:True:=⟨⟩
theorem tw17216338746501673431:True:=⟨⟩
theorem tw16080326499315990424:True:=⟨⟩
theorem tw7412267961798735670:True:=⟨⟩
theorem tw3959318756781128350:True:=⟨⟩
theorem tw1033092770700729312:True:=⟨⟩
theorem tw5257172033776042298:True:=⟨⟩
theorem tw2201545825106916591:True:=⟨⟩
theorem tw17514420242901319972:True:=⟨⟩
theorem tw1619158775336796621:True:=⟨⟩
theorem tw5784298487047995543:True:=⟨⟩
theorem tw15407083976887281150:True:=⟨⟩
theorem tw15008530469344501394:True:=⟨⟩
theorem tw1459747629440588709:True:=⟨⟩
theorem tw11461001059243909105:True:=⟨⟩
theorem tw7388414428580263862:True:=⟨⟩
theorem tw12661757111417473849:True:=⟨⟩
theorem tw8578075804612458118:True:=⟨⟩
theorem tw15312472530885128161:True:=⟨⟩
theorem tw11021860096726722881:True:=⟨⟩
theorem tw7425865103544082481:True:=⟨⟩
theorem tw13186623300704325227:True:=⟨⟩
theorem tw16909178661191293678:True:=⟨⟩
theorem tw16895586759930839338:True:=⟨⟩
theorem tw16794086248631240798:True:=⟨⟩
theorem tw9901819586893435192:True:=⟨⟩
theorem tw7976756682031061140:True:=⟨⟩
theorem tw538260815816466639:True:=⟨⟩
theorem tw9725499204880592592:True:=⟨⟩
theorem tw17959019801269008600:True:=⟨⟩
theorem tw16461217253005408200:True:=⟨⟩
theorem tw9319553697943968965:True:=⟨⟩
theorem tw4591170865352387280:True:=⟨⟩
theorem tw4195368383843559699:True:=⟨⟩
theorem tw13948709346731919946:True:=⟨⟩
theorem tw13347551180264770533:True:=⟨⟩
theorem tw13017511653961910966:True:=⟨⟩
theorem tw12349777994262475855:True:=⟨⟩
theorem tw6125536765512831301:True:=⟨⟩
theorem tw3583520618321942081:True:=⟨⟩
theorem tw8355732996341134583:True:=⟨⟩
theorem tw14780819659718767385:True:=⟨⟩
theorem tw12607692640356176880:True:=⟨⟩
theorem tw12184630418752432665:True:=⟨⟩
theorem tw10091775325723925318:True:=⟨⟩
theorem tw17218232288330987447:True:=⟨⟩
theorem tw9262647075449297374:True:=⟨⟩
theorem tw4729540187142274873:True:=⟨⟩
theorem tw2472041315889778351:True:=⟨⟩
theorem tw1384506802503501168:True:=⟨⟩
theorem tw13546824652549635759:True:=⟨⟩
theorem tw8715010880602215932:True:=⟨⟩
theorem tw9241726969041881198:True:=⟨⟩
theorem tw10604152157606985113:True:=⟨⟩
theorem tw9443166392452978389:True:=⟨⟩
theorem tw496330445969236642:True:=⟨⟩
theorem tw11901236091303464248:True:=⟨⟩
theorem tw12635718797617712789:True:=⟨⟩
theorem tw12847218239040075610:True:=⟨⟩
theorem tw8098191194064345630:True:=⟨⟩
theorem tw17492958019491534944:True:=⟨⟩
theorem tw7468346060778757963:True:=⟨⟩
theorem tw13224122869406040295:True:=⟨⟩
theorem tw10716352543356955593:True:=⟨⟩
theorem tw3575039753738401627:True:=⟨⟩
theorem tw14300596333345287797:True:=⟨⟩
theorem tw17280237123773768971:True:=⟨⟩
theorem tw7969665405134699951:True:=⟨⟩
theorem tw7212098224517494973:True:=⟨⟩
theorem tw17893490419613541688:True:=⟨⟩
theorem tw15936467345863438577:True:=⟨⟩
theorem tw15782483523447862613:True:=⟨⟩
theorem tw13695886842295571246:True:=⟨⟩
theorem tw12603786617871247244:True:=⟨⟩
theorem tw9368862033428755037:True:=⟨⟩
theorem tw11761903164736524803:True:=⟨⟩
theorem tw3637395458341878524:True:=⟨⟩
theorem tw7010637980379138566:True:=⟨⟩
theorem tw5741517595449649119:True:=⟨⟩
theorem tw16538138148307753731:True:=⟨⟩
theorem tw5412391661956249261:True:=⟨⟩
theorem tw4037014694688922119:True:=⟨⟩
theorem tw18088695402190202717:True:=⟨⟩
theorem tw1270914734677006844:True:=⟨⟩
theorem tw158736586500573422:True:=⟨⟩
theorem tw9254007466735982819:True:=⟨⟩
theorem tw8496422393545043002:True:=⟨⟩
theorem tw3064158795046529327:True:=⟨⟩
theorem tw14627433788525040714:True:=⟨⟩
theorem tw9431550399172780145:True:=⟨⟩
theorem tw83916108040768144:True:=⟨⟩
theorem tw7968917837719629269:True:=⟨⟩
theorem tw6148790255554451624:True:=⟨⟩
theorem tw5496716762311420127:True:=⟨⟩
theorem tw12400503396798533271:True:=⟨⟩
theorem tw2673127390032992790:True:=⟨⟩
theorem tw17512844227685150987:True:=⟨⟩
theorem tw11802309029698991991:True:=⟨⟩
theorem tw8849461813093565425:True:=⟨⟩
theorem tw17400775590018064949:True:=⟨⟩
theorem tw18359667623896093617:True:=⟨⟩
theorem tw14801836562465746915:True:=⟨⟩
theorem tw4284368928192991368:True:=⟨⟩
theorem tw14712042641535714546:True:=⟨⟩
theorem tw9946015490700190292:True:=⟨⟩
theorem tw935616870921322065:True:=⟨⟩
theorem tw7544205767403540692:True:=⟨⟩
theorem tw7257313533571315350:True:=⟨⟩
theorem tw723035343818964284:True:=⟨⟩
theorem tw6637630270786784470:True:=⟨⟩
theorem tw560221328201320204:True:=⟨⟩
theorem tw17031901073958244482:True:=⟨⟩
theorem tw1696397014462324906:True:=⟨⟩
theorem tw16649894010855965883:True:=⟨⟩
theorem tw1561244674871593793:True:=⟨⟩
theorem tw1299008724260923322:True:=⟨⟩
theorem tw11399370290154525120:True:=⟨⟩
theorem tw10501362161626664347:True:=⟨⟩
theorem tw10370247336644863963:True:=⟨⟩
theorem tw8235578450904729888:True:=⟨⟩
theorem tw3897210336062315664:True:=⟨⟩
theorem tw11613767111226688320:True:=⟨⟩
theorem tw9577508425294859862:True:=⟨⟩
theorem tw9185791265974322030:True:=⟨⟩
theorem tw9098074218724736470:True:=⟨⟩
theorem tw8929213843870358112:True:=⟨⟩
theorem tw8761973923529824699:True:=⟨⟩
theorem tw8726493400730926497:True:=⟨⟩
theorem tw757827217498374919:True:=⟨⟩
theorem tw7314390812674031510:True:=⟨⟩
theorem tw7310458721121374779:True:=⟨⟩
theorem tw6768686063864408122:True:=⟨⟩
theorem tw6456455299921473294:True:=⟨⟩
theorem tw6162095999595104561:True:=⟨⟩
theorem tw4656271720370158091:True:=⟨⟩
theorem tw2845652427542037297:True:=⟨⟩
theorem tw17749471420118139486:True:=⟨⟩
theorem tw15700028737660764860:True:=⟨⟩
theorem tw15437113551704865245:True:=⟨⟩
theorem tw15228830597965028344:True:=⟨⟩
theorem tw14951649049792007980:True:=⟨⟩
theorem tw14721473662191354797:True:=⟨⟩
theorem tw14717547165253884413:True:=⟨⟩
theorem tw14518928629045627241:True:=⟨⟩
theorem tw14511817281046716581:True:=⟨⟩
theorem tw12930377129791191900:True:=⟨⟩
theorem tw10682828028676597407:True:=⟨⟩
theorem tw10100364572199020277:True:=⟨⟩
theorem tw10041867144887378372:True:=⟨⟩
theorem tw16951348613531002622:True:=⟨⟩
theorem tw16845603416501956380:True:=⟨⟩
theorem tw4818699401046404886:True:=⟨⟩
theorem tw9971279971816181324:True:=⟨⟩
theorem tw953649549225561946:True:=⟨⟩
theorem tw15980699767738574347:True:=⟨⟩
theorem tw5506623874268948460:True:=⟨⟩
theorem tw4064213503947909959:True:=⟨⟩
theorem tw3495803323943434659:True:=⟨⟩
theorem tw3105002466593281266:True:=⟨⟩
theorem tw2718830971409642101:True:=⟨⟩
theorem tw17921005520786817939:True:=⟨⟩
theorem tw14370985370801214658:True:=⟨⟩
theorem tw1346334832651617151:True:=⟨⟩
theorem tw12113983765221179425:True:=⟨⟩
theorem tw2168879088487090700:True:=⟨⟩
theorem tw15090197314133454657:True:=⟨⟩
theorem tw8601828311261729517:True:=⟨⟩
theorem tw5256812397709333009:True:=⟨⟩
theorem tw16974393155981957311:True:=⟨⟩
theorem tw15672916752309028965:True:=⟨⟩
theorem tw16605449240501120245:True:=⟨⟩
theorem tw10006420695247947299:True:=⟨⟩
theorem tw87236241167218339:True:=⟨⟩
theorem tw8495074700368166141:True:=⟨⟩
theorem tw8290061279991278301:True:=⟨⟩
theorem tw7352783932938900793:True:=⟨⟩
theorem tw6543495936825405722:True:=⟨⟩
theorem tw5851718552761392576:True:=⟨⟩
theorem tw492208872700192864:True:=⟨⟩
theorem tw4210192308212075554:True:=⟨⟩
theorem tw17122582293099865852:True:=⟨⟩
theorem tw16588606755230710702:True:=⟨⟩
theorem tw15769941924540879247:True:=⟨⟩
theorem tw14300609642867243657:True:=⟨⟩
theorem tw14195633686620813949:True:=⟨⟩
theorem tw12878709276981329428:True:=⟨⟩
theorem tw12736637449938189482:True:=⟨⟩
theorem tw12447244511925988812:True:=⟨⟩
theorem tw12241138580093168199:True:=⟨⟩
theorem tw12212124248153235491:True:=⟨⟩
theorem tw11089959672802176938:True:=⟨⟩
theorem tw10715773984458649579:True:=⟨⟩
theorem tw7703787210838254110:True:=⟨⟩
theorem tw3557476932591022598:True:=⟨⟩
theorem tw18272487945541382138:True:=⟨⟩
theorem tw10852774258947029589:True:=⟨⟩
theorem tw5133356193171102444:True:=⟨⟩
theorem tw9565365619111304844:True:=⟨⟩
theorem tw8968500317814419258:True:=⟨⟩
theorem tw8753050773797659464:True:=⟨⟩
theorem tw7305498621492034443:True:=⟨⟩
theorem tw6804967867020472922:True:=⟨⟩
theorem tw6533117627274519960:True:=⟨⟩
theorem tw6397736779751768521:True:=⟨⟩
theorem tw2897735367689558992:True:=⟨⟩
theorem tw2800160330930379334:True:=⟨⟩
theorem tw17926785669648581064:True:=⟨⟩
theorem tw15797882327575698254:True:=⟨⟩
theorem tw15767168323826874972:True:=⟨⟩
theorem tw1524247983475159308:True:=⟨⟩
theorem tw14806749114180681612:True:=⟨⟩
theorem tw14279922695310949676:True:=⟨⟩
theorem tw12160759436572117631:True:=⟨⟩
theorem tw10067217586771427732:True:=⟨⟩
theorem tw17261028717325515883:True:=⟨⟩
theorem tw263244904532664592:True:=⟨⟩
theorem tw17106045315035281523:True:=⟨⟩
theorem tw7555250263171491030:True:=⟨⟩
theorem tw7065223224216258051:True:=⟨⟩
theorem tw3882350624239054475:True:=⟨⟩
theorem tw10162645316547672008:True:=⟨⟩
theorem tw6160337080382439319:True:=⟨⟩
theorem tw4032619146244304184:True:=⟨⟩
theorem tw403319856594803279:True:=⟨⟩
theorem tw2869167547622174443:True:=⟨⟩
theorem tw2586252118280738970:True:=⟨⟩
theorem tw17741899520102902056:True:=⟨⟩
theorem tw15473974974009195418:True:=⟨⟩
theorem tw7768258626966033224:True:=⟨⟩
theorem tw6170656350258008771:True:=⟨⟩
theorem tw4593404403579114590:True:=⟨⟩
theorem tw2522146418486443150:True:=⟨⟩
theorem tw15162060926445307916:True:=⟨⟩
theorem tw11219221441214897088:True:=⟨⟩
theorem tw9762008326705527457:True:=⟨⟩
theorem tw7775595079660266246:True:=⟨⟩
theorem tw7732504962715985882:True:=⟨⟩
theorem tw7619622003866884548:True:=⟨⟩
theorem tw7600733552314063963:True:=⟨⟩
theorem tw6459904606542374911:True:=⟨⟩
theorem tw6322536147396633325:True:=⟨⟩
theorem tw5695308736050199980:True:=⟨⟩
theorem tw3372372463425751898:True:=⟨⟩
theorem tw2902149083617964077:True:=⟨⟩
theorem tw2385411027085365618:True:=⟨⟩
theorem tw16899869902213011632:True:=⟨⟩
theorem tw16671706890497605826:True:=⟨⟩
theorem tw16481933873675094423:True:=⟨⟩
theorem tw14609853120077243806:True:=⟨⟩
theorem tw13675903858006777096:True:=⟨⟩
theorem tw13380751958373483160:True:=⟨⟩
theorem tw11396798160870048091:True:=⟨⟩
theorem tw10712578486918982067:True:=⟨⟩
theorem tw14212309548823002973:True:=⟨⟩
theorem tw3958192334343911301:True:=⟨⟩
theorem tw10400603551487187764:True:=⟨⟩
theorem tw9257602567143053869:True:=⟨⟩
theorem tw5148373545088822783:True:=⟨⟩
theorem tw3742152675461880445:True:=⟨⟩
theorem tw17003117104558786160:True:=⟨⟩
theorem tw13698068188489649027:True:=⟨⟩
theorem tw7582858812040972521:True:=⟨⟩
theorem tw9268223976497317073:True:=⟨⟩
theorem tw3204774936976371986:True:=⟨⟩
theorem tw10744460973313913559:True:=⟨⟩
theorem tw10674468309113501324:True:=⟨⟩
theorem tw7012417201908001763:True:=⟨⟩
theorem tw11888297719615176992:True:=⟨⟩
theorem tw3860681751140877952:True:=⟨⟩
theorem tw9883638181711533701:True:=⟨⟩
theorem tw9827497187778440883:True:=⟨⟩
theorem tw9637343175872499660:True:=⟨⟩
theorem tw9497848493059931800:True:=⟨⟩
theorem tw9448718323412968208:True:=⟨⟩
theorem tw9198616020870276897:True:=⟨⟩
theorem tw9116990079619891386:True:=⟨⟩
theorem tw8618101143713927703:True:=⟨⟩
theorem tw7554622622920269771:True:=⟨⟩
theorem tw6583643169212744385:True:=⟨⟩
theorem tw4297763788357910447:True:=⟨⟩
theorem tw3326342483170356631:True:=⟨⟩
theorem tw2127569497424113742:True:=⟨⟩
theorem tw16962386506398618057:True:=⟨⟩
theorem tw16843606263554644286:True:=⟨⟩
theorem tw15772504481863213998:True:=⟨⟩
theorem tw15599945647098739366:True:=⟨⟩
theorem tw13889436182148868372:True:=⟨⟩
theorem tw13133166410721108909:True:=⟨⟩
theorem tw12735674413507690359:True:=⟨⟩
theorem tw12700120862856863031:True:=⟨⟩
theorem tw12172391234557114160:True:=⟨⟩
theorem tw11461375460311015329:True:=⟨⟩
theorem tw10857352590424726519:True:=⟨⟩
theorem tw10312611018939873828:True:=⟨⟩
theorem tw5250722125120235600:True:=⟨⟩
theorem tw4722387500267344899:True:=⟨⟩
theorem tw18195832403306138963:True:=⟨⟩
theorem tw15069018271188601892:True:=⟨⟩
theorem tw5836431283186607367:True:=⟨⟩
theorem tw9697732339082869427:True:=⟨⟩
theorem tw9234528729935143547:True:=⟨⟩
theorem tw8311869292820357896:True:=⟨⟩
theorem tw7757904628569548647:True:=⟨⟩
theorem tw7617314879472535280:True:=⟨⟩
theorem tw6389487797975343891:True:=⟨⟩
theorem tw6352620000515961096:True:=⟨⟩
theorem tw5866908518449665207:True:=⟨⟩
theorem tw3108364385891986063:True:=⟨⟩
theorem tw17021342025980688311:True:=⟨⟩
theorem tw1620527324149056074:True:=⟨⟩
theorem tw15914922788026050989:True:=⟨⟩
theorem tw1554930641517368684:True:=⟨⟩
theorem tw15271640701108411717:True:=⟨⟩
theorem tw15142214437288710857:True:=⟨⟩
theorem tw1488430775443029581:True:=⟨⟩
theorem tw12868581004435765350:True:=⟨⟩
theorem tw11638483212719372581:True:=⟨⟩
theorem tw11608912905092383488:True:=⟨⟩
theorem tw10324032508610056528:True:=⟨⟩
theorem tw10244547582367611177:True:=⟨⟩
theorem tw8046517880960423795:True:=⟨⟩
theorem tw7595525657321744979:True:=⟨⟩
theorem tw6447505942681353659:True:=⟨⟩
theorem tw3009495194927495651:True:=⟨⟩
theorem tw2080307568075799239:True:=⟨⟩
theorem tw2039075877564348603:True:=⟨⟩
theorem tw11936416405452775672:True:=⟨⟩
theorem tw11883598041232152800:True:=⟨⟩
theorem tw11448709881837342620:True:=⟨⟩
theorem tw11209066206135760154:True:=⟨⟩
theorem tw10901847606980645391:True:=⟨⟩
theorem tw13909333334515788734:True:=⟨⟩
theorem tw2433963976535309871:True:=⟨⟩
theorem tw12124440011798577008:True:=⟨⟩
end PySem.W.Fast
open PySem PySem.W PyProof.Rows
set_option maxRecDepth 100000 in
theorem PySem.Challenge.cw_wornpages_k33_the_choice_holds : PySem.Challenge.rw_wornpages_k33_the_choice.Holds := by
 (
w_on;o_law;k_head;(case hw=>w_witness2)
k_fill
refine W1.walk (l:=PySem.Challenge.rw_wornpages_k33_the_choice) rfl rfl (λw h Y=>⟨W.km_in_of Y,λT hT=>W.km_tabs_of Y T (by simp at hT ⊢;first|exact hT|exact hT.symm)⟩) (?T) ?F
case T=>
 intro w T hT;have hT:T=316∨T=931:=by simpa using hT
 rcases hT with rfl|rfl
 ·exact⟨by kernel_rfl,318,by kernel_rfl⟩
 exact⟨by kernel_rfl,935,by kernel_rfl⟩
case F=>
 intro w mg fa h KX G hmg;refine' W1.qL0 (z1:=316) (z0:=318) (z3:=931) (z2:=935) KX G hmg ?_ ?_ ?_ ?_ ?_ ?_ ?_ ?_ ?_ ?_ ?_ ?_ ?_ ?_ ?_ ?_ ?_ ?_ ?_ ?_ ?_ ?_ ?_ ?_ ?_ ?_ ?_ ?_ ?_ ?_ ?_ ?_ ?_ ?_ ?_ ?_ ?_ ?_ ?_ ?_ ?_ ?_ ?_ ?_ ?_ ?_ ?_ ?_ ?_ ?_ ?_ ?_ ?_ ?_ ?_ ?_ ?_ ?_ ?_ ?_ ?_ ?_ ?_ ?_ ?_ ?_ ?_ ?_ ?_ ?_ ?_ ?_ ?_ ?_ ?_ ?_ ?_ ?_ ?_ ?_ ?_ ?_ ?_ ?_ ?_ ?_ ?_ ?_ ?_ ?_ ?_ ?_ ?_ ?_ ?_ ?_ ?_ ?_ ?_ ?_ ?_ ?_ ?_ ?_ ?_ ?_ ?_ ?_ ?_ ?_ ?_ ?_ ?_ ?_ ?_ ?_ ?_ ?_ ?_ ?_ ?_ ?_ ?_ ?_ ?_ ?_ ?_ ?_ ?_ ?_ ?_ ?_ ?_ ?_ ?_ ?_ ?_ ?_ ?_ ?_ ?_ ?_ ?_ ?_ ?_ ?_ ?_ ?_ ?_ ?_ ?_ ?_ ?_ ?_ ?_ ?_ ?_ ?_ ?_ ?_ ?_ ?_ ?_ ?_ ?_ ?_ ?_ ?_ ?_ ?_ ?_ ?_ ?_ ?_ ?_ ?_ ?_ ?_ ?_ ?_ ?_ ?_ ?_ ?_ ?_ ?_ ?_ ?_ ?_ ?_ ?_ ?_ ?_ ?_ ?_ ?_ ?_ ?_ ?_ ?_ ?_ ?_ ?_ ?_ ?_ ?_ ?_ ?_ ?_ ?_ ?_ ?_ ?_ ?_ ?_ ?_ ?_ ?_ ?_ ?_ ?_ ?_ ?_ ?_ ?_ ?_ ?_ ?_ ?_ ?_ ?_ ?_ ?_ ?_ ?_ ?_ ?_ ?_ ?_ ?_ ?_ ?_ ?_ ?_ ?_ ?_ ?_ ?_ ?_ ?_ ?_ ?_ ?_ ?_ ?_ ?_ ?_ ?_ ?_ ?_ ?_ ?_ ?_ ?_ ?_ ?_ ?_ ?_ ?_ ?_ ?_ ?_ ?_ ?_ ?_ ?_ ?_ ?_ ?_ ?_ ?_ ?_ ?_ ?_ ?_ ?_ ?_ ?_ ?_ ?_ ?_ ?_ ?_
 any_goals first|k_is|(refine' L2.FnX.of ?fa ?fb;(case fa=>k_is);(case fb=>k_is))|((first|apply And.intro|apply L2.Meth.mk|apply L2.Mk.mk|apply L2.Cls.mk|apply L2.XAt.mk|apply L2.BIni.mk|apply L2.ClM.mk|apply L2.XRd.mk)<;>first|k_is|kernel_rfl)|(show W.findIn _ _ _=_;k_is)
 all_goals first|k_exc|kts_exm|kit_is|kernel_rfl|decide)
