import PyProof.Rows.All
import Wide.All
import OpenK.AllK
import Wide.FinOn
import Lean
import PyProof.EqAt
import PyProof.EqKinds
import PyProof.TupleCall
import PyProof.StationsW
import PyProof.NsDelKeeps
import PyProof.PassesOwn
import PyProof.ZipIter
import PyProof.NeKinds
import PyProof.CompFree
import KE.KDictList
import PyProof.ConsumeWalk
import PyProof.WalkInts
import PyProof.WalksMore
import PyProof.SumAny
import PyProof.Rows.MinMaxN
import PyProof.Rows.SortWalk
import PyProof.ListRange
import KE.KTupSum
import PyProof.EnumFor
import PyProof.EnumMake
import PyProof.EnumStmt
import OpenK.KMake
import PyProof.DictWalks
import PyProof.FitsBits
import PyProof.CompUse
import KE.KSortTup
import PyProof.MinMaxWalk
import PyProof.SeqI3
import PyProof.DictItems
import KE.KItemsList
import KE.KEqDict
import KE.KDictSum
import PyProof.DictValues
import KE.KLam
import KE.KNestM
import PyProof.ExcClass3
import PySem.Challenge.RW_wornpages_k42_who_may_be_cleared
set_option Elab.async false
set_option linter.all false
set_option maxRecDepth 100000
set_option maxHeartbeats 0
noncomputable abbrev hC:=@decide_eq_true
noncomputable abbrev hU:=@decide_eq_false
noncomputable abbrev kJ:=@if_neg
noncomputable abbrev kL:=@if_pos
noncomputable abbrev mJ:=@decide_eq_true_eq
noncomputable abbrev mP:=@of_decide_eq_true
noncomputable abbrev dO:=@congrArg
noncomputable abbrev d6:=@of_decide_eq_false
noncomputable abbrev rF:=@decide_eq_false_iff_not
noncomputable abbrev rH:=@beq_eq_false_iff_ne
noncomputable abbrev wC:=@beq_iff_eq
noncomputable abbrev cY:=@or_false
open List renaming length_map→hG, mem_cons_of_mem→kB, getElem?_eq_some_iff→kC, mem_singleton→kD, getElem?_eq_getElem→kE, getD_eq_getElem?_getD→kI, mem_cons→kN, mem_map→kP, take_append_getElem→kW, mem_cons_self→kY, mem_append_right→mB, length_filter_le→mC, getElem?_map→mD, length_range→mG, size_toArray→mI, length_append→mL, map_append→mM, map_cons→mQ, filter_cons→mU, mem_filter→mV, length_cons→mY, filter_append→gA, mem_range→gC, nodup_cons→gD, length_take→gE, take_length→gF, getElem_mem→gH, length_set→gJ, length_replicate→gK, mem_append→gN, mem_append_left→gO, mem_of_getElem?→gP, length_singleton→gQ, append_nil→gU, pairwise_cons→g7, not_mem_nil→dA, nil_append→dC, filter_nil→dD, pairwise_map→dG, getElem?_eq_none→dH, all_eq_true→dM, getElem?_append_right→dP, replicate_succ→dU, map_congr_left→dW, find?_cons→dX, mem_of_find?_eq_some→dY, lookup_cons→d5, sum_cons→d8, length_filterMap_le→d9, find?_some→rG, filter_eq_self→rJ, pairwise_lt_range→rN, getElem?_append_left→rT, drop_eq_getElem_cons→rU, length_nil→rW, getElem?_set_ne→rX, nodup_append→r6, any_cons→wD, filterMap_cons→wI, map_eq_nil_iff→wJ, getElem?_replicate→wK, ext_getElem→wL, any_eq_true→wM, cons_append→wO, length_eq_zero_iff→wP, mem_filterMap→wT, length_pos_of_mem→wV, find?_eq_none→wW, take_of_length_le→wX, map_replicate→wY, flatten_cons→cI, filter_congr→cJ, foldl_append→cK, pairwise_iff_getElem→cS, getElem_of_mem→cU, filter_sublist→cW, filter_map→c6, range_succ→c7, getElem_range→pD, mem_mergeSort→pE, map_singleton→pF, getElem?_set_self→pG, map_map→pQ, countP_cons→pX, getElem_map→pZ, find?_eq_some_iff_append→sD, eq_nil_of_length_eq_zero→sG, of_mem_zip→sJ, countP_eq_length_filter→sO, mem_map_of_mem→sR, length_pos_iff→sS, getElem?_range→sT, filter_filter→nM, foldl_nil→nO, length_erase_of_mem→nY, length_drop→nZ, getElem?_cons_succ→lC, pairwise_mergeSort→lJ, nodup_range→lK, foldl_cons→l8, countP_mono_left→xC, length_mergeSort→xD, take_append_drop→xE, mem_erase_of_ne→xM, mergeSort_perm→xS, nil_perm→xW, zip_cons_cons→x6, countP_append→aE, append_assoc→aM, map_set→aR, find?_append→aU, drop_length→aY, forIn_cons→bG, sum_append→bK, perm_cons→bT, nodup_nil→bU, range_add→bV, take_zero→bX, all_cons→eI, map_nil→eQ
open PySem renaming wpAny_bind→hV, wpAny_pure→kQ, wpAny_holding→gT, sizeLine_eq→gW, boot_len→gX, mem_of_lookup→gY, wpAny_truthy_bool→g5, wpAny_mono→dB, wpAny_Call_Name_kw→dJ, wpAny_tryCatch→dS, wpAny_passesOwn→rV, wpAny_newObj_type→rY, plainId_quiet→wE, wpAny_letGo→wR, codeAny_builtin→cD, wpAny_updateSeq→cE, wpAny_field→cN, wpAny_seqItems→cQ, wpAny_newList→cZ, wpAny_call→c8, tupleKind_room_in1→c9, codeAny_mono→pK, call_meetsIn→pN, wpAny_call_entry→pV, codeAny_call_builtin→p9, wpAny_execs_nil→sI, wpAny_newFunctionEnv_cells→nH, wpAny_Call_method→nP, wpAny_standAt→nU, seqIndex_neg→lO, wpAny_getItem_list_neg→lR, wpAny_loadPart'→lZ, wpAny_isTrue_Compare1→xA, wpAny_loadName_local→xG, seqIndex_of→xI, wpAny_setField→xJ, wpAny_newFunctionEnv→xL, wpAny_loadName_cell→xP, wpAny_attempt→xU, wpAny_assign_Name→aH, wpAny_pyIter_list→aI, wpAny_pyIter_slot→aQ, intItems_at→a0, wpAny_Name→bN, typeIs_int→bQ, call_meets→bR, numAt_eq→bS
open PySem.Heap renaming get?_push_of_some→kF, lt_size→mE, get?_update_other→mF, get?_push_size→mR, get?_update_self→dZ, get?_none_of_le→p7, size_push→nG, size_update→lG
open Nat renaming le_refl→kO, le_trans→mO, ne_of_lt→mZ, lt_of_lt_of_le→m7, zero_le→m9, lt_of_le_of_lt→gM, mul_le_mul_right→gR, le_succ→dL, add_mul→dN, lt_succ_self→d3, lt_irrefl→d7, lt_succ_of_lt→rE, ne_of_gt→rL, one_mul→rO, succ_mul→rZ, add_le_add_right→wA, not_lt_zero→cB, mul_comm→cR, le_of_eq→pH, add_zero→pP, le_of_lt→sU, not_lt→nJ, le_add_right→lD, mod_eq_of_lt→lL, min_eq_right→lM, zero_add→lU, mul_add_mod→l9, div_lt_iff_lt_mul→xF, mul_le_mul→xN, lt_of_succ_lt→aN, min_eq_left→bM
open Bool renaming false_ne_true→kX, and_eq_true→m8, not_eq_true'→dQ, eq_iff_iff→wZ, or_eq_true→cA, false_eq_true→pC, true_and→xV, and_comm→eO
open Option.some renaming inj→kZ
open Int renaming toNat_natCast→mH, le_refl→gL, natCast_mul→dE, eq_ofNat_of_zero_le→rD, natCast_ediv→rP, le_of_lt→pO, natCast_add→sL, le_trans→sV, fdiv_eq_ediv_of_nonneg→sZ, fmod_eq_emod_of_nonneg→nE, lt_of_lt_of_le→nK, not_lt→lW, zero_add→lY, mul_nonneg→xK, emod_lt_of_pos→x9, emod_nonneg→bD, le_antisymm→bL, mul_le_mul→bW
open Option renaming map_eq_some_iff→mK, isSome_iff_exists→cX, isSome_map→pM, bind_some→pW, map_some→bH
open Array renaming length_toList→mW, getElem?_eq_some_iff→cP, getD_eq_getD_getElem?→sX, perm_iff_toList_perm→nL, toList_inj→lE, toList_map→lF, append_assoc→xZ, map_map→eL
open PySem.F renaming plain_min_loop→gG, entry_min_loop→dR, plainAttrs_dict→rC, slot_list_append→wF, type_list_append→wG, plainAttrs_list→wN, slot_dict_pop→cG, slot_dict_valueiterator_iter→cV, slot_dict_itemiterator_iter→c5, slot_dict_get→pR, slot_dict_values→nV, args_dict_pop_3→lA, args_dict_get_3→lB, slot_dict_items→lI, entry_dict_pop→lS, entry_dict_get→lT, type_dict_pop→xB, plain_min→aS, entry_min→aT, kind_min→aZ, slot_int_rmul→bC
open PySem.W renaming mg_of→gZ, kia_one→g8, mg_none_of→rA, methodCall_KW→rR, callWith_K→wU, looks_findIn→cM, cellsFrom_some→pL, any_some→pU, plainGet_of→sP, callWith_K0→sQ, check_slot→x8, make_core→aJ, kitx_list→aK, kitx_dict→aL, makes_of→aV, codeHd_of_K→a9
open PySem.PassesOwn renaming never→g9, leaving→cL
open PySem.Around renaming under_plainId→rB, frames_deeper→xH
open PySem.BindsTo renaming of_defaults→rK
open PySem.Calls renaming callWith_builtin→rM, spliced_cons→rQ, evalArgs_plain→cO, spliced_nil→pJ, Name_function_global→sY
open PySem.Obj renaming isFreed_of_fields→rS, data_mapFields→pA
open List.Pairwise renaming filter→r9, sublist→pT
open PyProof.Rows renaming slot_tuple_getitem→wH, get?_update_seq→cC, listUpdate_at→cF, callWith_type1→cH, seqEpoch_at→nQ, subscriptTail_builtinR→lQ, getElem?_mirror_all→xR, size_push'→aD, listItems_at→aO, pairsOf_size→aP, callWith_kw→bA, Subscript_→bO
open Sum.inl renaming inj→wQ
open Ne renaming symm→wS
open Decidable renaming byContradiction→cT
open PySem.SeqAt.EqAt renaming int_int→nI, same→l7, int_str→xX, str_int→xY, of_refs→aA
open PyProof renaming noPylong_small→lN
open PySem.Value renaming isStrOf_shape→xO, isInt_shape→aG
open PySem.SeqAt.RcNeAt renaming tuples→xQ, lists→aB
open PySem.Paired renaming length→xT
open PySem.Walks renaming list→aF
open PySem.W.Looks renaming ld→aW, of_pure→eT, here→eU
open List.Sublist renaming map→aX
open PySem.SeqAt renaming eq_listAt→bE
open Array.Perm renaming refl→bI
open StateT renaming run_pure→bJ
open PySem.EqMixed renaming eq_bool_str→bY, eq_str_bool→bZ, ne_bool_str→b8, ne_str_bool→b9, eq_int_str→eA, eq_str_int→eC, ne_int_str→eE, ne_str_int→eG
open Int.ofNat renaming inj→eN
open PySem.Heap.IsSliceOf renaming new→eW
set_option genSizeOf false
namespace L2
open PySem PySem.Spec PyProof.Rows
noncomputable abbrev Key:=Sum Int Str
noncomputable def q7M:Key→Value→Bool
| .inl k,v=>Value.isInt k v
| .inr x,v=>Value.isStrOf x v
noncomputable def keyH(w:World):Key→Int
| .inl k=>hashInt k
| .inr x=>hashStr w x
theorem yH:∀{k:Key} {v:Value},q7M k v=true→(∃i t,k=Sum.inl i∧v=Value.int i t)∨(∃x t,k=Sum.inr x∧v=Value.str x t)
| .inl i,v,h=>by obtain⟨t,e⟩:=aG (k:=i) (v:=v) h;exact .inl ⟨i,t,rfl,e⟩
| .inr x,v,h=>by obtain⟨t,e⟩:=xO (x:=x) (v:=v) h;exact .inr ⟨x,t,rfl,e⟩
theorem qCX(i:Int)(t:Tok):q7M (.inl i) (.int i t)=true:=by simp[q7M,Value.isInt]
theorem qCY(x:Str)(t:Tok):q7M (.inr x) (.str x t)=true:=by simp[q7M,Value.isStrOf]
theorem qIP(a b:Int):decide ((Sum.inl a:Key)=Sum.inl b)=(a==b):=by(
by_cases e:a=b
·subst e;simp
have h:¬(Sum.inl a:Key)=Sum.inl b:=λq=>e (wQ q)
rw[hU h]
exact(rH.mpr e).symm)
theorem qIQ(a b:Str):decide ((Sum.inr a:Key)=Sum.inr b)=decide (a=b):=by(
by_cases e:a=b
·subst e;simp
have h:¬(Sum.inr a:Key)=Sum.inr b:=λq=>e (Sum.inr.inj q)
rw[hU h,hU e])
theorem qIR(a:Int)(b:Str):decide ((Sum.inl a:Key)=Sum.inr b)=false:=hU (λq=>nomatch q)
theorem qIS(a:Str)(b:Int):decide ((Sum.inr a:Key)=Sum.inl b)=false:=hU (λq=>nomatch q)
noncomputable def jQ(prog:Program)(w:World):PySem.KeyKind prog w Key where
is:=q7M
hash:=keyH w
inj:=λv a b ha hb=>by
 rcases yH ha with⟨i,t,rfl,rfl⟩|⟨x,t,rfl,rfl⟩
 ·rcases yH hb with⟨j,u,rfl,e⟩|⟨y,u,rfl,e⟩
  ·injection e with e1 _;rw[e1]
  exact nomatch e
 rcases yH hb with⟨j,u,rfl,e⟩|⟨y,u,rfl,e⟩
 ·exact nomatch e
 injection e with e1 _;rw[e1]
byValue:=λk v h=>by rcases yH h with⟨i,t,rfl,rfl⟩|⟨x,t,rfl,rfl⟩<;>rfl
pyHash:=λhv h=>by
 rcases yH hv with⟨i,t,rfl,rfl⟩|⟨x,t,rfl,rfl⟩
 ·exact wpAny_pyHash_int h
 exact wpAny_pyHash_str h
eqBool:=λhu hv h=>by
 rcases yH hu with⟨i,t,rfl,rfl⟩|⟨x,t,rfl,rfl⟩
 ·rcases yH hv with⟨j,u,rfl,rfl⟩|⟨y,u,rfl,rfl⟩
  ·rw[qIP]at h;exact wpAny_eqBool_int h
  rw[qIR]at h;exact xX i t y u _ _ _ _ h
 rcases yH hv with⟨j,u,rfl,rfl⟩|⟨y,u,rfl,rfl⟩
 ·rw[qIS]at h;exact xY x t j u _ _ _ _ h
 rw[qIQ]at h;exact wpAny_eqBool_str h
«strs»:=λk x t v h=>by
 rcases yH h with⟨i,u,rfl,e⟩|⟨y,u,rfl,e⟩
 ·exact nomatch e
 injection e with e1 _
 subst e1;cases v<;>rfl
theorem q9F(prog:Program)(w:World)(i:Int)(t:Tok):(jQ prog w).is (.inl i) (.int i t)=true:=qCX i t
theorem q9G(prog:Program)(w:World)(x:Str)(t:Tok):(jQ prog w).is (.inr x) (.str x t)=true:=qCY x t
inductive V where
|non|bl (b:Bool)|int (i:Int)|str (x:Str)|byt (b:Array UInt8)|flt (b:UInt64)|ref (a:Addr)|ty (n:String)
deriving DecidableEq
noncomputable def RelV:V→Value→Prop
| .non,u=>u=Value.none
| .bl b,u=>u=Value.bool b
| .int i,u=>∃t,u=Value.int i t
| .str x,u=>∃t,u=Value.str x t
| .byt b,u=>∃t,u=Value.bytes b t
| .flt b,u=>∃t,u=Value.float b t
| .ref a,u=>u=Value.ref a
| .ty n,u=>u=Value.type n
noncomputable abbrev Vals:List V→List Value→Prop:=Paired RelV
theorem Vals.length{xs:List V}{us:List Value}(r:Vals xs us):xs.length=us.length:=xT r
theorem Vals.get:∀{xs:List V} {us:List Value} {i:Nat} {x:V},Vals xs us→xs[i]?=some x→∃u,us[i]?=some u∧RelV x u
|_,_,_,_,.nil,e=>by simp at e
|_,_,0,_,.cons r _,e=>by simp at e;subst e;exact⟨_,rfl,r⟩
|_,_,i+1,x,.cons _ t,e=>by obtain⟨u,h1,h2⟩:=Vals.get (i:=i) (x:=x) t (by simpa using e);exact⟨u,by simpa using h1,h2⟩
theorem Vals.set{x:V}{u:Value}(r:RelV x u):∀{xs:List V} {us:List Value} (i:Nat),Vals xs us→Vals (xs.set i x) (us.set i u)
|_,_,_,.nil=>.nil
|_,_,0,.cons _ t=>.cons r t
|_,_,i+1,.cons q t=>.cons q (Vals.set r i t)
theorem Vals.append:∀{xs ys:List V} {us ws:List Value},Vals xs us→Vals ys ws→Vals (xs++ys) (us++ws)
|_,_,_,_,.nil,s=>s
|_,_,_,_,.cons r t,s=>.cons r (Vals.append t s)
theorem Vals.take:∀{xs:List V} {us:List Value} (n:Nat),Vals xs us→Vals (xs.take n) (us.take n)
|_,_,0,_=>.nil
|_,_,_ +1,.nil=>.nil
|_,_,n+1,.cons r t=>.cons r (Vals.take n t)
theorem Vals.drop:∀{xs:List V} {us:List Value} (n:Nat),Vals xs us→Vals (xs.drop n) (us.drop n)
|_,_,0,r=>r
|_,_,_ +1,.nil=>.nil
|_,_,n+1,.cons _ t=>Vals.drop n t
noncomputable def RelO:Option V→Option Value→Prop
|some v,some u=>RelV v u
|none,none=>True
|_,_=>False
noncomputable def KV{κ:Type}:List (κ×V)→List (κ×Value)→Prop:=Paired λ(p:κ×V) (q:κ×Value)=>p.1=q.1∧RelV p.2 q.2
noncomputable def kV:Key→V
| .inl i=>.int i
| .inr x=>.str x
inductive HO where
|lst (xs:List V)
|tup (xs:List V)
|dK (kvs:List (Key×V))|dT (kvs:List (List Key×V))
|set (S:Int→Bool) (n:Nat)
|ins (C dx:Addr) (fs:List (Str×V))
|own (x:Addr)
|xd (fs:List (Str×V))
|met (f x:Addr)
|rng (lo hi:Int)
|frz (o:Obj) (u:HO)
|tbl (ps:Array Value)
|ext (φ:Heap→Prop)
noncomputable abbrev Hp:=Addr→Option HO
noncomputable def upd(H:Hp)(a:Addr)(o:HO):Hp:=λb=>if b=a then some o else H b
theorem qI{H:Hp}{a:Addr}{o:HO}:upd H a o a=some o:=by unfold upd;rw[kL rfl]
theorem qC{H:Hp}{a b:Addr}{o:HO}(h:b≠a):upd H a o b=H b:=by unfold upd;rw[kJ h]
theorem q8E{H:Hp}{a:Addr}{o u:HO}:upd (upd H a o) a u=upd H a u:=by funext b;unfold upd;split<;>rfl
theorem jZ{H:Hp}{a b:Addr}{o u:HO}(h:H a=some o)(h':H b=some u)(d:o≠u):a≠b:=by intro e;subst e;rw[h]at h';exact d (kZ h')
theorem qF{H:Hp}{a b:Addr}{o:HO}(h:H a=some o)(h':H b=none):a≠b:=by intro e;subst e;rw[h]at h';cases h'
section
variable(P:Program)(w:World)
noncomputable def jM(H:Hp)(h:Heap)(a:Addr):HO→Prop
| .lst xs=>xs.length≤sizeLine∧∃(its:List Value) (n:Nat),Vals xs its∧h.get? a=some { cls:=.type "list",data:=.seq its.toArray n }
| .tup xs=>xs.length≤sizeLine∧∃its:List Value,Vals xs its∧IsTup h a its.toArray
| .dK kvs=>kvs.length≤sizeLine∧(a==sysModules)=false∧∃vs,KV kvs vs∧h.DictOf (jQ P w) a vs
| .dT kvs=>kvs.length≤sizeLine∧(a==sysModules)=false∧∃xs:List (List Key×Addr×Value),Paired (λ(p:List Key×V) (q:List Key×Addr×Value)=>p.1=q.1∧H q.2.1=some (.tup (p.1.map kV))∧RelV p.2 q.2.2) kvs xs∧∃o es ep,h.get? a=some o∧o.ExactDict∧o.data=.dict es ep∧es.toList=xs.map (entryOfKey (tupleKind (jQ P w)))∧(xs.map (·.1)).Nodup
| .set S n=>h.SetOf (intKind P w) a S n
| .ins C dx fs=>H dx=some (.own a)∧fs.length≤1000∧dx≠a∧h.get? a=some (PySem.W.instObj C dx)∧∃mA,h.Ns1 dx mA∧(∀f,RelO (fs.lookup f) (mA f))∧PySem.Within mA (fs.map (·.1))
| .own _=>∃o,h.get? a=some o
| .xd fs=>∃mA,h.Ns1 a mA∧∀f,RelO (fs.lookup f) (mA f)
| .rng lo hi=>∃t u v,h.get? a=some { cls:=.type "range",data:=.fields #[.int lo t,.int hi u,.int 1 v] }
| .frz o u=>h.get? a=some o∧jM H h a u
| .tbl ps=>h.get? a=some { cls:=.none,data:=.fields ps }
| .met f x=>h.get? a=some (PySem.W.methodObj (.ref f) (.ref x))
| .ext φ=>φ h∧(∃o,h.get? a=some o)∧∀h1 h2:Heap,φ h1→(∀o,h1.get? a=some o→h2.get? a=some o)→φ h2
noncomputable def HOk(H:Hp)(h:Heap):Prop:=∀a o,H a=some o→jM P w H h a o
end
section
variable{P:Program}{w:World}{H H':Hp}{h h':Heap}{a:Addr}{o:HO}
theorem jM.lt(x:jM P w H h a o):a<h.objs.size:=by(
cases o with
|lst xs=>obtain⟨_,_,_,_,e⟩:=x;exact mE e
|tup xs=>obtain⟨_,_,_,p⟩:=x;exact p.lt
|dK kvs=>obtain⟨_,_,_,_,o,_,_,e,_⟩:=x;exact mE e
|dT kvs=>obtain⟨_,_,_,_,o,_,_,e,_⟩:=x;exact mE e
|set S n=>obtain⟨o,_,_,_,e,_⟩:=x;exact mE e
|ins C dx fs=>obtain⟨_,_,_,e,_⟩:=x;exact mE e
|own y=>obtain⟨_,e⟩:=x;exact mE e
|xd fs=>obtain⟨_,⟨_,_,_,e,_⟩,_⟩:=x;exact mE e
|rng lo hi=>obtain⟨_,_,_,e⟩:=x;exact mE e
|frz ob u=>obtain⟨e,_⟩:=x;exact mE e
|tbl ps=>exact mE (show h.get? a=some _ from x)
|met f y=>exact mE (show h.get? a=some _ from x)
|ext φ=>obtain⟨_,⟨_,e⟩,_⟩:=x;exact mE e)
theorem Paired.mapP{α β:Type}{F G:α→β→Prop}:∀{l₁:List α} {l₂:List β},Paired F l₁ l₂→(∀a b,F a b→G a b)→Paired G l₁ l₂
|_,_,.nil,_=>.nil
|_,_,.cons r t,f=>.cons (f _ _ r) (Paired.mapP t f)
theorem jM.stay(x:jM P w H h a o)(k:∀b u,(b=a∨H b=some (.own a))→h.get? b=some u→h'.get? b=some u)
 (ho:∀b,H b=some (.own a)→H' b=some (.own a)) (ht:∀b xs,H b=some (.tup xs)→H' b=some (.tup xs)):jM P w H' h' a o:=by(
induction o with
|lst xs=>obtain⟨z,its,n,r,e⟩:=x;exact⟨z,its,n,r,k _ _ (.inl rfl) e⟩
|tup xs=>obtain⟨z,its,r,ob,e,c⟩:=x;exact⟨z,its,r,ob,k _ _ (.inl rfl) e,c⟩
|dK kvs=>obtain⟨z,y,vs,r,ob,es,ep,e,c⟩:=x;exact⟨z,y,vs,r,ob,es,ep,k _ _ (.inl rfl) e,c⟩
|dT kvs=>obtain⟨z,y,xs,r,ob,es,ep,e,c⟩:=x;exact⟨z,y,xs,Paired.mapP r λp q z=>⟨z.1,ht _ _ z.2.1,z.2.2⟩,ob,es,ep,k _ _ (.inl rfl) e,c⟩
|set S n=>obtain⟨ob,es,ep,t,e,c⟩:=x;exact⟨ob,es,ep,t,k _ _ (.inl rfl) e,c⟩
|ins C dx fs=>obtain⟨d,z,ne,e,mA,⟨od,es,ep,e2,c⟩,r⟩:=x;exact⟨ho _ d,z,ne,k _ _ (.inl rfl) e,mA,⟨od,es,ep,k _ _ (.inr d) e2,c⟩,r⟩
|own y=>obtain⟨ob,e⟩:=x;exact⟨ob,k _ _ (.inl rfl) e⟩
|xd fs=>obtain⟨mA,⟨od,es,ep,e,c⟩,r⟩:=x;exact⟨mA,⟨od,es,ep,k _ _ (.inl rfl) e,c⟩,r⟩
|rng lo hi=>obtain⟨t,u,v,e⟩:=x;exact⟨t,u,v,k _ _ (.inl rfl) e⟩
|frz ob u ih=>obtain⟨e,q⟩:=x;exact⟨k _ _ (.inl rfl) e,ih q⟩
|tbl ps=>have e:h.get? a=some { cls:=.none,data:=.fields ps }:=x;show h'.get? a=some { cls:=.none,data:=.fields ps };exact k a _ (.inl rfl) e
|met f y=>have e:h.get? a=some (PySem.W.methodObj (.ref f) (.ref y)):=x;show h'.get? a=some (PySem.W.methodObj (.ref f) (.ref y));exact k a _ (.inl rfl) e
|ext φ=>obtain⟨p,⟨o,e⟩,st⟩:=x;exact⟨st _ _ p λo q=>k _ _ (.inl rfl) q,⟨o,k _ _ (.inl rfl) e⟩,st⟩)
theorem HOk.lt(x:HOk P w H h)(e:H a=some o):a<h.objs.size:=(x a o e).lt
theorem HOk.fresh(x:HOk P w H h)(e:h.objs.size≤a):H a=none:=by(
cases q:H a with
|none=>rfl
|some u=>exact absurd (m7 (x.lt q) e) (d7 _))
theorem HOk.kept(x:HOk P w H h)(k:∀b u,h.get? b=some u→h'.get? b=some u):HOk P w H h':=λa o e=>(x a o e).stay (λb u _ q=>k b u q) (λ_ q=>q) λ_ _ q=>q
theorem HOk.laid(x:HOk P w H h)(k:∀b u,h.get? b=some u→h'.get? b=some u)(hp:h.objs.size≤a)(new:jM P w (upd H a o) h' a o):HOk P w (upd H a o) h':=λb u e=>by(
have hn:=x.fresh hp
by_cases hb:b=a
·subst hb;rw[qI]at e;cases e;exact new
rw[qC hb]at e
exact(x b u e).stay (λc v _ q=>k c v q) (λc q=>by rw[qC (qF q hn)];exact q) λc xs q=>by rw[qC (qF q hn)];exact q)
end
noncomputable def Rd(H:Hp)(a:Addr)(u:HO):Prop:=H a=some u∨∃o,H a=some (.frz o u)
theorem Rd.ok{P:Program}{w:World}{H:Hp}{h:Heap}{a:Addr}{u:HO}(r:Rd H a u)(x:HOk P w H h):jM P w H h a u:=by(
rcases r with r|⟨o,r⟩
·exact x a u r
obtain⟨_,q⟩:=x a _ r
exact q)
noncomputable def Mut:Option HO→Prop
|some (.lst _)=>True
|some (.dK _)=>True
|some (.dT _)=>True
|some (.set _ _)=>True
|some (.ins _ _ _)=>True
|some (.ext _)=>True
|_=>False
section
variable{P:Program}{w:World}{H:Hp}{h h':Heap}{x e:Addr}{o':HO}
theorem HOk.write(ok:HOk P w H h)(mu:Mut (H x))(he:e=x∨H e=some (.own x))(k:∀b u,b≠e→h.get? b=some u→h'.get? b=some u)(heo:∃u,h'.get? e=some u)
 (new:jM P w (upd H x o') h' x o'):HOk P w (upd H x o') h':=λb u q=>by(
have nown:∀c y,H c=some (.own y)→c≠x:=λc y r z=>by subst z;rw[r]at mu;exact mu
have ntup:∀c xs,H c=some (.tup xs)→c≠x:=λc xs r z=>by subst z;rw[r]at mu;exact mu
by_cases hb:b=x
·subst hb;rw[qI]at q;cases q;exact new
rw[qC hb]at q
by_cases hbe:b=e
·have q':H b=some (.own x):=by
  rcases he with z|z
  ·exact absurd (hbe.trans z) hb
  rw[hbe];exact z
 rw[q]at q';cases q';obtain⟨v,hv⟩:=heo;exact⟨v,by rw[hbe];exact hv⟩
refine(ok b u q).stay (λc v hc r=>k c v ?_ r) (λc r=>by rw[qC (nown c b r)];exact r) λc xs r=>by rw[qC (ntup c xs r)];exact r
rcases hc with rfl|hc
·exact hbe
rintro rfl
rcases he with z|z
·exact nown c b hc z
rw[hc]at z;cases z;exact hb rfl)
end
structure Un(fs ex:List Addr)(H H':Hp)(h h':Heap):Prop where
keep:∀b o,h.get? b=some o→H b=none→b∉fs→b∉ex→h'.get? b=some o
slot:∀b o,h.get? b=some o→H b=none→b∈fs→b∉ex→∃sl,h'.get? b=some { o with slots:=sl }
free:∀b o,h.get? b=some o→H b=none→b∉ex→H' b=none
there:∀b o,h.get? b=some o→b∉ex→∃o',h'.get? b=some o'
tups:∀b xs,H b=some (.tup xs)→H' b=some (.tup xs)
frzs:∀b o u,H b=some (.frz o u)→H' b=some (.frz o u)
tbls:∀b ps,H b=some (.tbl ps)→∃more,H' b=some (.tbl (ps++more))
section
variable{fs fs' ex ex':List Addr}{H H1 H2:Hp}{h h1 h2 h':Heap}{a x e:Addr}{o:HO}
theorem Un.any(u:Un fs ex H H1 h h1){b:Addr}{ob:Obj}(q:h.get? b=some ob)(n:H b=none)(hx:b∉ex):∃sl,h1.get? b=some { ob with slots:=sl }:=by(
by_cases hb:b∈fs
·exact u.slot b ob q n hb hx
exact⟨ob.slots,u.keep b ob q n hb hx⟩)
theorem Un.trans(a:Un fs ex H H1 h h1)(b:Un fs ex H1 H2 h1 h2):Un fs ex H H2 h h2 where
keep:=λc ob q n hc hx=>b.keep c ob (a.keep c ob q n hc hx) (a.free c ob q n hx) hc hx
slot:=λc ob q n hc hx=>by obtain⟨sl,e1⟩:=a.slot c ob q n hc hx;obtain⟨sl',e2⟩:=b.slot c _ e1 (a.free c ob q n hx) hc hx;exact⟨sl',e2⟩
free:=λc ob q n hx=>by obtain⟨o',e1⟩:=a.there c ob q hx;exact b.free c o' e1 (a.free c ob q n hx) hx
there:=λc ob q hx=>by obtain⟨o',e1⟩:=a.there c ob q hx;exact b.there c o' e1 hx
tups:=λc xs q=>b.tups c xs (a.tups c xs q)
frzs:=λc ob xs q=>b.frzs c ob xs (a.frzs c ob xs q)
tbls:=λc ps q=>by obtain⟨m1,e1⟩:=a.tbls c ps q;obtain⟨m2,e2⟩:=b.tbls c _ e1;exact⟨m1++m2,by rw[e2,xZ]⟩
theorem Un.kept(k:∀b u,h.get? b=some u→h'.get? b=some u):Un fs ex H H h h':=⟨λb ob q _ _ _=>k b ob q,λb ob q _ _ _=>⟨ob.slots,k b ob q⟩,λ_ _ _ n _=>n,λb ob q _=>⟨ob,k b ob q⟩,λ_ _ q=>q,λ_ _ _ q=>q,λ_ ps q=>⟨#[],by rw[q];simp⟩⟩
theorem Un.refl:Un fs ex H H h h:=Un.kept λ_ _ q=>q
theorem Un.laid(k:∀b u,h.get? b=some u→h'.get? b=some u)(hp:h.objs.size≤a)(hn:H a=none):Un fs ex H (upd H a o) h h' where
keep:=λb u q _ _ _=>k b u q
slot:=λb u q _ _ _=>⟨u.slots,k b u q⟩
free:=λb u q n _=>by rw[qC (mZ (m7 (mE q) hp))];exact n
there:=λb u q _=>⟨u,k b u q⟩
tups:=λb xs q=>by rw[qC (qF q hn)];exact q
frzs:=λb u xs q=>by rw[qC (qF q hn)];exact q
tbls:=λb ps q=>⟨#[],by rw[qC (qF q hn),q];simp⟩
theorem Un.write(mu:Mut (H x))(he:e=x∨H e=some (.own x))(k:∀b u,b≠e→h.get? b=some u→h'.get? b=some u)(heo:∃u,h'.get? e=some u):Un fs ex H (upd H x o) h h':=by(
have hx:∀b,H b=none→b≠x:=λb n z=>by subst z;rw[n]at mu;exact mu
have hb:∀b,H b=none→b≠e:=λb n z=>by
 subst z;rcases he with r|r
 ·exact hx b n r
 rw[n]at r;cases r
have hm:∀b u,H b=some u→¬Mut (some u)→b≠x:=λb u q nm z=>by subst z;rw[q]at mu;exact nm mu
refine⟨λb u q n _ _=>k b u (hb b n) q,λb u q n _ _=>⟨u.slots,k b u (hb b n) q⟩,λb u q n _=>by rw[qC (hx b n)];exact n,λb u q _=>?_,λb xs q=>by rw[qC (hm b _ q λz=>z)];exact q,λb u xs q=>by rw[qC (hm b _ q λz=>z)];exact q,λb ps q=>⟨#[],by rw[qC (hm b _ q λz=>z),q];simp⟩⟩
by_cases hbe:b=e
·subst hbe;exact heo
exact⟨u,k b u hbe q⟩)
end
noncomputable def trk(h:Heap)(H:Hp):List Addr:=(List.range h.objs.size).filter λa=>(H a).isSome
noncomputable def hidT(h:Heap)(H:Hp):Heap:=PySem.W.hideAll h (trk h H)
theorem q7N(h:Heap)(H:Hp):(hidT h H).objs.size=h.objs.size:=PySem.W.hideAll_size _ _
theorem q5T{h:Heap}{H:Hp}{b:Addr}{o:Obj}(e:h.get? b=some o)(n:H b=none):(hidT h H).get? b=some o:=PySem.W.hideAll_get _ e λhm=>by  have q:(H b).isSome=true:=(mV.mp hm).2;rw[n]at q;simp at q
theorem qBN{h:Heap}{H:Hp}{b:Addr}{o:Obj}(e:(hidT h H).get? b=some o):h.get? b=some o∧H b=none:=by(
have e':h.get? b=some o:=PySem.W.of_hideAll (trk h H) e
refine⟨e',?_⟩
cases q:H b with
|none=>rfl
|some x=>have hm:b∈trk h H:=mV.mpr ⟨gC.mpr (mE e'),by simp[q]⟩;have z:(hidT h H).get? b=none:=PySem.W.hideAll_none (trk h H) hm;rw[z]at e;cases e)
structure Mod(K:PySem.W.Frag)(mg:Str→Option Value)(base:Heap):Prop where
kin:K.In base
glob:base.Ns mainGlobals mg
blt:∃mb,base.Ns builtinsNs mb∧∀x:Str,x≠"__name__"→mb x=bootBuiltins x
nolimit:base.NoLimit
structure Cx where
prog:Program
w:World
K:PySem.W.Frag
mg:Str→Option Value
base:Heap
A:Around
N:List Str
s₀:Shared
H₀:Hp
env:Env
outer:List Env
stack:List Env
ex:List Addr
fn:Str→Bool
calm:Bool
pn:List (Addr×Obj)
xe:Value→Shared→Prop
noncomputable def frs(l:List Env):List Addr:=l.filterMap (·.frame)
noncomputable abbrev Cx.fs(X:Cx):List Addr:=frs X.outer
noncomputable def Vis(sc:Scope)(x:Str):Prop:=sc.names.lookup x=some .local∨sc.names.lookup x=some .cell∨sc.names.lookup x=some .free
noncomputable def Loc(sc:Scope)(x:Str):Prop:=sc.names.lookup x=some .local∨sc.names.lookup x=some .cell
noncomputable def Look(env:Env)(h:Heap)(m:Str→Option Value)(x:Str)(u:Value):Prop:=(env.kindOf x=some .local∧m x=some u)∨((env.kindOf x=some .cell∨env.kindOf x=some .free)∧∃c,env.cells.lookup x=some c∧h.IsCell c (some u))
structure Cx.Ok(X:Cx):Prop where
mod:Mod X.K X.mg X.base
kind:X.env.scope.kind=.function
glob:X.env.globals=mainGlobals
blt:X.env.builtins=builtinsNs
above:X.s₀.heap.objs.size≤X.env.locals
inj:∀x y c,X.env.cells.lookup x=some c→X.env.cells.lookup y=some c→x=y
has:∀x,(X.env.kindOf x=some .cell∨X.env.kindOf x=some .free)→∃c,X.env.cells.lookup x=some c
cab:∀x c,X.fn x=true→X.env.cells.lookup x=some c→X.s₀.heap.objs.size≤c
hd:X.calm=true→X.A.handled=none
frames:X.A.frames=some X.stack
stk:X.stack=X.outer∨(X.stack=X.env::X.outer∧X.env.frame=some X.env.locals)
exf:∀b∈X.ex,b≠X.env.locals∧∀x c,X.env.cells.lookup x=some c→c≠b
bs:∀b o,X.base.get? b=some o→X.s₀.heap.get? b=some o∧X.H₀ b=none
bsz:X.base.objs.size≤X.s₀.heap.objs.size
noex:∀b o,X.base.get? b=some o→b∉X.ex
exfs:∀b∈X.ex,b∉X.fs
funs:X.s₀.heap.FunFrames X.base X.outer
frf:∀b∈X.fs,X.H₀ b=none
structure Inv(X:Cx)(pins:List (Addr×Obj))(σ:List (Option V))(H:Hp)(s:Shared):Prop where
ok:X.Ok
os:s.os=X.s₀.os
bare:AllBare s.gens
base:Un X.fs X.ex X.H₀ H X.s₀.heap s.heap
loc:∃m,s.heap.Ns X.env.locals m∧∀(i:Nat) (x:Str) (v:V),X.N[i]?=some x→σ[i]?=some (some v)→Vis X.env.scope x→∃u,RelV v u∧Look X.env s.heap m x u
cell:∀x c,X.env.cells.lookup x=some c→∃v,s.heap.IsCell c v
free:H X.env.locals=none
freeC:∀x c,X.env.cells.lookup x=some c→H c=none
pin:∀p∈X.pn++pins,s.heap.get? p.1=some p.2∧H p.1=none∧p.1≠X.env.locals∧p.1∉X.fs∧∀v,p.2.data≠ .cell v
hok:HOk X.prog X.w H s.heap
len:σ.length=X.N.length
section
variable{X:Cx}{pins:List (Addr×Obj)}{σ:List (Option V)}{H H':Hp}{s:Shared}{h':Heap}
theorem Cx.Ok.nofr(ok:X.Ok){b:Addr}{o:Obj}(e:X.base.get? b=some o):b∉X.fs:=λhb=>by have:=(ok.funs.mem hb).1;rw[e]at this;cases this
theorem Inv.bs(I:Inv X pins σ H s):∀b o,X.base.get? b=some o→s.heap.get? b=some o∧H b=none:=λb o e=>⟨I.base.keep b o (I.ok.bs b o e).1 (I.ok.bs b o e).2 (I.ok.nofr e) (I.ok.noex b o e),I.base.free b o (I.ok.bs b o e).1 (I.ok.bs b o e).2 (I.ok.noex b o e)⟩
theorem Inv.bk(I:Inv X pins σ H s):∀b o,X.base.get? b=some o→s.heap.get? b=some o:=λb o e=>(I.bs b o e).1
theorem Inv.mod(I:Inv X pins σ H s):Mod X.K X.mg X.base:=I.ok.mod
theorem Inv.kIn(I:Inv X pins σ H s):X.K.In s.heap:=I.ok.mod.kin.keeps I.bk
theorem Inv.fr(I:Inv X pins σ H s):∃m,Fr X.base X.env.locals s.heap m:=let⟨m,hn,_⟩:=I.loc
 ⟨m,hn,I.bk,mO I.ok.bsz I.ok.above⟩
theorem Inv.lt(I:Inv X pins σ H s):X.env.locals<s.heap.objs.size:=let⟨_,hn,_⟩:=I.loc;hn.lt
theorem Inv.sz(I:Inv X pins σ H s):X.s₀.heap.objs.size≤s.heap.objs.size:=mO I.ok.above (sU I.lt)
theorem Inv.nofs(I:Inv X pins σ H s){a:Addr}(h:s.heap.objs.size≤a):a∉X.fs:=λhb=>by obtain⟨_,o,ho,_⟩:=I.ok.funs.mem hb;exact absurd (m7 (mE ho) (mO I.sz h)) (d7 _)
theorem Inv.cne(I:Inv X pins σ H s):∀x c,X.env.cells.lookup x=some c→c≠X.env.locals:=λx c e z=>by obtain⟨v,o,ho,hd⟩:=I.cell x c e;obtain⟨m,⟨o',es,ep,ho',hd',_⟩,_⟩:=I.loc;rw[z,ho']at ho;cases ho;rw[hd']at hd;cases hd
theorem Inv.funs(I:Inv X pins σ H s):s.heap.FunFrames X.base X.outer:=by(
have all:∀(l:List Env),(∀b∈frs l,b∈X.fs)→X.s₀.heap.FunFrames X.base l→s.heap.FunFrames X.base l:=by
 intro l;induction l with
 |nil=>intro _ _;trivial
 |cons env r ih=>intro hs hl;obtain⟨hk,⟨L,o,hf,hn,ho,hd⟩,hr⟩:=hl;have hL:L∈X.fs:=hs L (by unfold frs;rw[wI,hf];exact kY);obtain⟨sl,e⟩:=I.base.slot L o ho (I.ok.frf L hL) hL λz=>I.ok.exfs L z hL;exact⟨hk,⟨L,_,hf,hn,e,hd⟩,ih (λb hb=>hs b (by unfold frs;rw[wI,hf];exact kB _ hb)) hr⟩
exact all X.outer (λ_ hb=>hb) I.ok.funs)
theorem Inv.stack(I:Inv X pins σ H s):s.heap.FunFrames X.base X.stack:=by(
rcases I.ok.stk with e|⟨e,hf⟩
·rw[e];exact I.funs
rw[e]
obtain⟨m,hn,_⟩:=I.loc
refine .cons (by rw[I.ok.kind];decide) hf hn ?_ I.funs
exact p7 (mO I.ok.bsz I.ok.above))
theorem Inv.stkSub(I:Inv X pins σ H s):∀b∈frs X.stack,b∈X.env.locals::X.fs:=λb hb=>by(
rcases I.ok.stk with e|⟨e,hf⟩
·rw[e]at hb;exact kB _ hb
rw[e]at hb
unfold frs at hb
rw[wI,hf]at hb
exact hb)
theorem Inv.stkFree(I:Inv X pins σ H s):∀b∈frs X.stack,H b=none:=λb hb=>by(
rcases kN.mp (I.stkSub b hb)with e|hb
·rw[e];exact I.free
obtain⟨_,o,ho,_⟩:=I.ok.funs.mem hb
exact I.base.free b o ho (I.ok.frf b hb) λz=>I.ok.exfs b z hb)
theorem Inv.step{g':Array GenState}{t':Nat}{d':Drawn}{ch:List Addr}(I:Inv X pins σ H s)
 (hch:∀b∈ch,(b∈X.ex∨X.s₀.heap.objs.size≤b)∧b≠X.env.locals∧(∀x c,X.env.cells.lookup x=some c→c≠b)∧∀p∈X.pn++pins,p.1≠b)
 (keep:∀b o,b≠X.env.locals→b∉X.fs→b∉ch→s.heap.get? b=some o→H b=none→h'.get? b=some o)
 (slot:∀b o,b≠X.env.locals→b∈X.fs→b∉ch→s.heap.get? b=some o→H b=none→∃sl,h'.get? b=some { o with slots:=sl }) (free:∀b o,b∉ch→s.heap.get? b=some o→H b=none→H' b=none)
 (there:∀b o,b∉ch→s.heap.get? b=some o→∃o',h'.get? b=some o')
 (tups:∀b xs,H b=some (.tup xs)→H' b=some (.tup xs)) (frzs:∀b o u,H b=some (.frz o u)→H' b=some (.frz o u)) (tbls:∀b ps,H b=some (.tbl ps)→∃more,H' b=some (.tbl (ps++more)))
 (ns:∀m,s.heap.Ns X.env.locals m→h'.Ns X.env.locals m) (hok:HOk X.prog X.w H' h') (hg:AllBare g'):
 Inv X pins σ H' { s with heap:=h',gens:=g',drawn:=d',toks:=t' }:=by(
have neL:∀b o,X.s₀.heap.get? b=some o→b≠X.env.locals:=λb o e=>mZ (m7 (mE e) I.ok.above)
have neC:∀b o,X.s₀.heap.get? b=some o→b∉X.ex→b∉ch:=λb o e hx hb=>by
 rcases(hch b hb).1 with z|z
 ·exact hx z
 exact absurd (m7 (mE e) z) (d7 _)
have cellK:∀x c,X.env.cells.lookup x=some c→∀v,s.heap.IsCell c v→h'.IsCell c v:=λx c e v ⟨o,ho,hd⟩=>by
 have nch:c∉ch:=λz=>(hch c z).2.2.1 x c e rfl;by_cases hc:c∈X.fs
 ·obtain⟨sl,q⟩:=slot c o (I.cne x c e) hc nch ho (I.freeC x c e);exact⟨_,q,hd⟩
 exact⟨o,keep c o (I.cne x c e) hc nch ho (I.freeC x c e),hd⟩
refine⟨I.ok,I.os,hg,⟨λb o e n hb hx=>?_,λb o e n hb hx=>?_,λb o e n hx=>?_,λb o e hx=>?_,λb xs e=>tups b xs (I.base.tups b xs e),λb o xs e=>frzs b o xs (I.base.frzs b o xs e),λb ps e=>?_⟩,?_,λx c e=>?_,?_,λx c e=>?_,λp hp=>?_,hok,I.len⟩
·exact keep b o (neL b o e) hb (neC b o e hx) (I.base.keep b o e n hb hx) (I.base.free b o e n hx)
·obtain⟨sl,e1⟩:=I.base.slot b o e n hb hx;obtain⟨sl',e2⟩:=slot b _ (neL b o e) hb (neC b o e hx) e1 (I.base.free b o e n hx);exact⟨sl',e2⟩
·obtain⟨o',e1⟩:=I.base.there b o e hx;exact free b o' (neC b o e hx) e1 (I.base.free b o e n hx)
·obtain⟨o',e1⟩:=I.base.there b o e hx;exact there b o' (neC b o e hx) e1
·obtain⟨m1,e1⟩:=I.base.tbls b ps e;obtain⟨m2,e2⟩:=tbls b _ e1;exact⟨m1++m2,by rw[e2,xZ]⟩
·obtain⟨m,hn,hl⟩:=I.loc;refine⟨m,ns m hn,λi x v e1 e2 e3=>?_⟩;obtain⟨u,r,l⟩:=hl i x v e1 e2 e3;refine⟨u,r,?_⟩;rcases l with l|⟨k,c,e,z⟩
 ·exact .inl l
 exact .inr ⟨k,c,e,cellK x c e _ z⟩
·obtain⟨v,z⟩:=I.cell x c e;exact⟨v,cellK x c e v z⟩
·obtain⟨m,⟨o,_,_,ho,_⟩,_⟩:=I.loc;exact free _ o (λz=>(hch _ z).2.1 rfl) ho I.free
·obtain⟨v,o,ho,hd⟩:=I.cell x c e;exact free c o (λz=>(hch c z).2.2.1 x c e rfl) ho (I.freeC x c e)
obtain⟨e,n,ne,nf,d⟩:=I.pin p hp
have nch:p.1∉ch:=λz=>(hch p.1 z).2.2.2 p hp rfl
exact⟨keep p.1 p.2 ne nf nch e n,free p.1 p.2 nch e n,ne,nf,d⟩)
theorem Inv.un{t':Nat}(I:Inv X pins σ H s)(u:Un X.fs [] H H' s.heap h')(hok:HOk X.prog X.w H' h'):Inv X pins σ H' { s with heap:=h',toks:=t' }:=by obtain⟨m,⟨o,es,ep,ho,r⟩,_⟩:=id I.loc;obtain⟨sl,hL⟩:=u.any ho I.free (by simp);exact I.step (g':=s.gens) (d':=s.drawn) (ch:=[]) (λ_ z=>nomatch z) (λb o _ hb _ e n=>u.keep b o e n hb (by simp)) (λb o _ hb _ e n=>u.slot b o e n hb (by simp)) (λb o _ e n=>u.free b o e n (by simp)) (λb o _ e=>u.there b o e (by simp)) u.tups u.frzs u.tbls (λm' hm=>by obtain⟨o',es',ep',ho',r'⟩:=hm;rw[ho]at ho';cases ho';exact⟨_,es',ep',hL,r'⟩) hok I.bare
theorem Inv.call{g':Array GenState}{t':Nat}{d':Drawn}{ch:List Addr}(I:Inv X pins σ H s)(u:Un (frs X.stack) ch H H' s.heap h')(hok:HOk X.prog X.w H' h')(hg:AllBare g')
 (hch:∀b∈ch,(b∈X.ex∨X.s₀.heap.objs.size≤b)∧b≠X.env.locals∧(∀x c,X.env.cells.lookup x=some c→c≠b)∧∀p∈X.pn++pins,p.1≠b):
 Inv X pins σ H' { s with heap:=h',gens:=g',drawn:=d',toks:=t' }:=by obtain⟨m,⟨o,es,ep,ho,r⟩,_⟩:=id I.loc;obtain⟨sl,hL⟩:=u.any ho I.free λz=>(hch _ z).2.1 rfl;exact I.step (ch:=ch) hch (λb o hL hb hc e n=>u.keep b o e n (λz=>(kN.mp (I.stkSub b z)).elim hL hb) hc) (λb o _ _ hc e n=>u.any e n hc) (λb o hc e n=>u.free b o e n hc) (λb o hc e=>u.there b o e hc) u.tups u.frzs u.tbls (λm' hm=>by obtain⟨o',es',ep',ho',r'⟩:=hm;rw[ho]at ho';cases ho';exact⟨_,es',ep',hL,r'⟩) hok hg
theorem Inv.turned{t':Nat}{it:Addr}(I:Inv X pins σ H s)(k:∀b o,b≠it→s.heap.get? b=some o→h'.get? b=some o)(hn:H it=none)(hL:it≠X.env.locals)
 (h1:it∈X.ex∨X.s₀.heap.objs.size≤it) (h2:∀x c,X.env.cells.lookup x=some c→c≠it) (h3:∀p∈X.pn++pins,p.1≠it):Inv X pins σ H { s with heap:=h',toks:=t' }:=by(
have nit:∀b u,H b=some u→b≠it:=λb u e z=>by rw[z,hn]at e;cases e
refine I.step (g':=s.gens) (d':=s.drawn) (ch:=[it]) (λb hb=>?_) (λb o _ _ hc e _=>k b o (λz=>hc (by simp[z])) e) (λb o _ _ hc e _=>⟨o.slots,k b o (λz=>hc (by simp[z])) e⟩) (λ_ _ _ _ n=>n)
 (λb o hc e=>⟨o,k b o (λz=>hc (by simp[z])) e⟩) (λ_ _ e=>e) (λ_ _ _ e=>e) (λb ps e=>⟨#[],by rw[e];simp⟩) (λm hm=>?_) (λb u e=>?_) I.bare
·have e:b=it:=by simpa using hb
 subst e;exact⟨h1,hL,h2,h3⟩
·obtain⟨o,es,ep,ho,r⟩:=hm;exact⟨o,es,ep,k _ o (wS hL) ho,r⟩
refine(I.hok b u e).stay (λc v hc q=>k c v ?_ q) (λ_ q=>q) λ_ _ q=>q
rcases hc with z|z
·rw[z];exact nit b u e
exact nit c _ z)
theorem Inv.tok(I:Inv X pins σ H s)(t:Nat):Inv X pins σ H { s with toks:=t }:=I.un (h':=s.heap) (t':=t) Un.refl I.hok
theorem Inv.kept{t':Nat}(I:Inv X pins σ H s)(k:∀b u,s.heap.get? b=some u→h'.get? b=some u):Inv X pins σ H { s with heap:=h',toks:=t' }:=I.un (Un.kept k) (I.hok.kept k)
theorem Inv.laid{a:Addr}{o:HO}{t':Nat}(I:Inv X pins σ H s)(k:∀b u,s.heap.get? b=some u→h'.get? b=some u)(hp:s.heap.objs.size≤a)(new:jM X.prog X.w (upd H a o) h' a o):
 Inv X pins σ (upd H a o) { s with heap:=h',toks:=t' }:=I.un (Un.laid k hp (I.hok.fresh hp)) (I.hok.laid k hp new)
theorem Inv.write{x e:Addr}{o:HO}{t':Nat}(I:Inv X pins σ H s)(mu:Mut (H x))(he:e=x∨H e=some (.own x))(k:∀b u,b≠e→s.heap.get? b=some u→h'.get? b=some u)(heo:∃u,h'.get? e=some u)
 (new:jM X.prog X.w (upd H x o) h' x o):Inv X pins σ (upd H x o) { s with heap:=h',toks:=t' }:=I.un (Un.write mu he k heo) (I.hok.write mu he k heo new)
theorem Inv.weak{σ':List (Option V)}(I:Inv X pins σ H s)(hl:σ'.length=σ.length)(w:∀(i:Nat) v,σ'[i]?=some (some v)→σ[i]?=some (some v)):Inv X pins σ' H s:=⟨I.ok,I.os,I.bare,I.base,let⟨m,hn,hl'⟩:=I.loc;⟨m,hn,λi x v e1 e2 e3=>hl' i x v e1 (w i v e2) e3⟩,I.cell,I.free,I.freeC,I.pin,I.hok,hl.trans I.len⟩
theorem Inv.pins_of{pins':List (Addr×Obj)}(I:Inv X pins σ H s)(h:∀p∈pins',s.heap.get? p.1=some p.2∧H p.1=none∧p.1≠X.env.locals∧p.1∉X.fs∧∀v,p.2.data≠ .cell v):Inv X pins' σ H s:=⟨I.ok,I.os,I.bare,I.base,I.loc,I.cell,I.free,I.freeC,λp hp=>(gN.mp hp).elim (λz=>I.pin p (gO _ z)) (h p),I.hok,I.len⟩
theorem q9H{N:List Str}(hN:N.Nodup){i j:Nat}{x:Str}(a:N[i]?=some x)(b:N[j]?=some x):i=j:=by obtain⟨h1,e1⟩:=kC.mp a;obtain⟨h2,e2⟩:=kC.mp b;exact(List.getElem_inj hN).mp (e1.trans e2.symm)
theorem q7O{M:Model}{A:Around}{E:Value→Shared→Prop}{i:Nat}{x:Str}{v:V}{u:Value}{Q:Unit→Shared→Prop}(I:Inv X pins σ H s)(hN:X.N.Nodup)(hi:X.N[i]?=some x)(hx:Loc X.env.scope x)(r:RelV v u)
 (h:∀s',Inv X pins (σ.set i (some v)) H s'→(∃a,Heap.SameBut a s.heap s'.heap∧(a=X.env.locals∨X.env.cells.lookup x=some a))→Q () s') (hf:X.fn x=true∨X.env.scope.names.lookup x=some .local:=by first|exact .inl rfl|exact .inr rfl|assumption):wpAny M A (storeName X.env x u) Q E s:=by(
obtain⟨m,hn,hl⟩:=id I.loc
have hcls:(X.env.scope.kind== .class||(X.env.scope.kind== .module&&X.env.locals !=X.env.globals))=false:=by rw[I.ok.kind];rfl
have hiσ:i<σ.length:=by rw[I.len];exact(kC.mp hi).1
have cne:=I.cne
have tracked:∀{a:Addr} {h':Heap},(∃o,s.heap.get? a=some o∧H a=none)→Heap.SameBut a s.heap h'→HOk X.prog X.w H h':=fun {a h'} ha hs b ob e=>by
 obtain⟨_,_,hfree⟩:=ha;refine(I.hok b ob e).stay (λc w' hc q=>(hs.2 c ?_).trans q) (λ_ q=>q) λ_ _ q=>q;rintro rfl
 rcases hc with rfl|hc
 ·rw[hfree]at e;cases e
 rw[hfree]at hc;cases hc
rcases hx with hk|hk
·refine wpAny_storeName_local hk hn (λh' hn' hs=>?_) hcls;obtain⟨oL,_,_,hoL,_⟩:=id hn;refine h _ ⟨I.ok,I.os,I.bare,⟨λb o e n hb hx=>?_,λb o e n hb hx=>?_,I.base.free,λb o e hx=>?_,I.base.tups,I.base.frzs,I.base.tbls⟩,⟨_,hn',λj y v' e1 e2 e3=>?_⟩,λy c e=>?_,I.free,I.freeC,λp hp=>?_,tracked ⟨oL,hoL,I.free⟩ hs,by simpa using I.len⟩ ⟨_,hs,.inl rfl⟩
 ·exact(hs.2 b (mZ (m7 (mE e) I.ok.above))).trans (I.base.keep b o e n hb hx)
 ·obtain⟨sl,e1⟩:=I.base.slot b o e n hb hx;exact⟨sl,(hs.2 b (mZ (m7 (mE e) I.ok.above))).trans e1⟩
 ·obtain⟨o',e1⟩:=I.base.there b o e hx;exact⟨o',(hs.2 b (mZ (m7 (mE e) I.ok.above))).trans e1⟩
 ·by_cases hj:j=i
  ·subst hj;rw[hi]at e1;cases e1;rw[pG hiσ]at e2;cases e2;exact⟨u,r,.inl ⟨hk,by simp⟩⟩
  rw[rX (wS hj)]at e2;obtain⟨u',r',q⟩:=hl j y v' e1 e2 e3;refine⟨u',r',?_⟩;rcases q with⟨k,e⟩|⟨k,c,e,z⟩
  ·refine .inl ⟨k,?_⟩;have:y≠x:=λe=>hj (q9H hN e1 (e▸hi));simp[this,e]
  exact .inr ⟨k,c,e,z.sameBut hs (cne y c e)⟩
 ·obtain⟨w',z⟩:=I.cell y c e;exact⟨w',z.sameBut hs (cne y c e)⟩
 obtain⟨e,n,ne,nf,d⟩:=I.pin p hp;exact⟨(hs.2 p.1 ne).trans e,n,ne,nf,d⟩
have hfn:X.fn x=true:=by
 rcases hf with z|z
 ·exact z
 rw[z]at hk;cases hk
obtain⟨c,hc⟩:=I.ok.has x (.inl hk)
obtain⟨w',z⟩:=I.cell x c hc
refine wpAny_storeName_cell I.ok.kind hk hc z (λh' hc' hs=>?_)
obtain⟨oc,hoc,hocd⟩:=id z
refine h { s with heap:=h' } ⟨I.ok,I.os,I.bare,⟨λb o e n hb hx=>?_,λb o e n hb hx=>?_,I.base.free,λb o e hx=>?_,I.base.tups,I.base.frzs,I.base.tbls⟩,⟨m,hn.sameBut hs (wS (cne x c hc)),λj y v' e1 e2 e3=>?_⟩,λy c' e=>?_,I.free,I.freeC,λp hp=>?_,tracked ⟨oc,hoc,I.freeC x c hc⟩ hs,by simpa using I.len⟩ ⟨c,hs,.inr hc⟩
·exact(hs.2 b (mZ (m7 (mE e) (I.ok.cab x c hfn hc)))).trans (I.base.keep b o e n hb hx)
·obtain⟨sl,e1⟩:=I.base.slot b o e n hb hx;exact⟨sl,(hs.2 b (mZ (m7 (mE e) (I.ok.cab x c hfn hc)))).trans e1⟩
·obtain⟨o',e1⟩:=I.base.there b o e hx;exact⟨o',(hs.2 b (mZ (m7 (mE e) (I.ok.cab x c hfn hc)))).trans e1⟩
·by_cases hj:j=i
 ·subst hj;rw[hi]at e1;cases e1;rw[pG hiσ]at e2;cases e2;exact⟨u,r,.inr ⟨.inl hk,c,hc,hc'⟩⟩
 rw[rX (wS hj)]at e2;obtain⟨u',r',q⟩:=hl j y v' e1 e2 e3;refine⟨u',r',?_⟩;rcases q with q|⟨k,c',e,z'⟩
 ·exact .inl q
 refine .inr ⟨k,c',e,z'.sameBut hs ?_⟩;rintro rfl
 exact hj (q9H hN e1 (I.ok.inj _ _ _ e hc▸hi))
·by_cases hcc:c'=c
 ·subst hcc;exact⟨_,hc'⟩
 obtain⟨w2,z2⟩:=I.cell y c' e;exact⟨w2,z2.sameBut hs hcc⟩
obtain⟨e,n,ne,nf,d⟩:=I.pin p hp
refine⟨(hs.2 p.1 ?_).trans e,n,ne,nf,d⟩
intro q
rw[q,hoc]at e
have q':oc=p.2:=kZ e
exact d w' (by rw[←q'];exact hocd))
theorem q5U{M:Model}{A:Around}{E:Value→Shared→Prop}{i:Nat}{x:Str}{v:V}{u:Value}{Q:Unit→Shared→Prop}(I:Inv X pins σ H s)(hN:X.N.Nodup)(hi:X.N[i]?=some x)(hx:Loc X.env.scope x)(r:RelV v u)
 (h:∀s',Inv X pins (σ.set i (some v)) H s'→Q () s') (hf:X.fn x=true∨X.env.scope.names.lookup x=some .local:=by first|exact .inl rfl|exact .inr rfl|assumption):wpAny M A (storeName X.env x u) Q E s:=q7O I hN hi hx r (λs' I' _=>h s' I') hf
theorem Inv.call'{s':Shared}{ch:List Addr}(I:Inv X pins σ H s)(ho:s'.os=s.os)(u:Un (frs X.stack) ch H H' s.heap s'.heap)(hok:HOk X.prog X.w H' s'.heap)(hg:AllBare s'.gens)
 (hch:∀b∈ch,(b∈X.ex∨X.s₀.heap.objs.size≤b)∧b≠X.env.locals∧(∀x c,X.env.cells.lookup x=some c→c≠b)∧∀p∈X.pn++pins,p.1≠b):Inv X pins σ H' s':=by(
obtain⟨h',g',d',t',o'⟩:=s'
have e:o'=s.os:=ho
subst e
exact I.call (g':=g') (t':=t') (d':=d') u hok hg hch)
end
noncomputable abbrev XK:=Value→Option Addr→Hp→Prop
noncomputable abbrev St:=List (Option V)
noncomputable abbrev VK:=V→Hp→Prop
noncomputable abbrev TE:=St→Hp→VK→Prop
noncomputable abbrev TT:=St→Hp→(Bool→Hp→Prop)→Prop
noncomputable abbrev TA:=St→Hp→(List V→Hp→Prop)→Prop
structure Ends where
nx:St→Hp→Prop
rt:VK
bk:St→Hp→Prop:=λ_ _=>False
ct:St→Hp→Prop:=λ_ _=>False
noncomputable abbrev TS:=Ends→St→Hp→Prop
noncomputable def EP(X:Cx)(pins:List (Addr×Obj))(σ:St)(Q:VK)(u:Value)(s':Shared):Prop:=∃v H',Inv X pins σ H' s'∧RelV v u∧Q v H'
noncomputable def TP(X:Cx)(pins:List (Addr×Obj))(σ:St)(Q:Bool→Hp→Prop)(b:Bool)(s':Shared):Prop:=∃H',Inv X pins σ H' s'∧Q b H'
noncomputable def AP(X:Cx)(pins:List (Addr×Obj))(σ:St)(Q:List V→Hp→Prop)(us:List Value)(s':Shared):Prop:=∃vs H',Inv X pins σ H' s'∧Vals vs us∧Q vs H'
noncomputable def SP(X:Cx)(pins:List (Addr×Obj))(D:Ends)(f:Flow)(s':Shared):Prop:=match f with
| .next=>∃σ' H',Inv X pins σ' H' s'∧D.nx σ' H'
| .brk=>∃σ' H',Inv X pins σ' H' s'∧D.bk σ' H'
| .cont=>∃σ' H',Inv X pins σ' H' s'∧D.ct σ' H'
| .ret u=>∃v σ' H',Inv X pins σ' H' s'∧RelV v u∧D.rt v H'
noncomputable def PE(X:Cx)(e:Expr)(t:TE):Prop:=∀(pins:List (Addr×Obj)) (s:Shared) (σ:St) (H:Hp) (Q:VK),Inv X pins σ H s→t σ H Q→wpAny (model X.prog X.w) X.A (eval e X.env) (EP X pins σ Q) X.xe s
noncomputable def PT(X:Cx)(e:Expr)(t:TT):Prop:=∀(pins:List (Addr×Obj)) (s:Shared) (σ:St) (H:Hp) (Q:Bool→Hp→Prop),Inv X pins σ H s→t σ H Q→wpAny (model X.prog X.w) X.A (isTrue e X.env (eval e X.env)) (TP X pins σ Q) X.xe s
noncomputable def PW(X:Cx)(e:Expr)(t:TT):Prop:=∀(whole:Sem Value) (pins:List (Addr×Obj)) (s:Shared) (σ:St) (H:Hp) (Q:Bool→Hp→Prop),Inv X pins σ H s→t σ H Q→wpAny (model X.prog X.w) X.A (isTrue e X.env whole) (TP X pins σ Q) X.xe s
theorem PW.pt{X:Cx}{e:Expr}{t:TT}(h:PW X e t):PT X e t:=h _
noncomputable def PA(X:Cx)(es:List Expr)(t:TA):Prop:=∀(pos:Pos) (pins:List (Addr×Obj)) (s:Shared) (σ:St) (H:Hp) (Q:List V→Hp→Prop),Inv X pins σ H s→t σ H Q→wpAny (model X.prog X.w) X.A (spliced (backTo pos (starEach es X.env))) (AP X pins σ Q) X.xe s
noncomputable def PS(X:Cx)(st:Stmt)(t:TS):Prop:=∀(pins:List (Addr×Obj)) (s:Shared) (σ:St) (H:Hp) (D:Ends),Inv X pins σ H s→t D σ H→wpAny (model X.prog X.w) X.A (exec st X.env) (SP X pins D) X.xe s
noncomputable def PSs(X:Cx)(st:List Stmt)(t:TS):Prop:=∀(pins:List (Addr×Obj)) (s:Shared) (σ:St) (H:Hp) (D:Ends),Inv X pins σ H s→t D σ H→wpAny (model X.prog X.w) X.A (execs st X.env) (SP X pins D) X.xe s
theorem thn{α:Type}{t:Sem α}{Q Q':α→Shared→Prop}{M:Model}{A:Around}{E:Value→Shared→Prop}{s:Shared}(h:wpAny M A t Q E s)(hQ:∀a s,Q a s→Q' a s):wpAny M A t Q' E s:=dB h hQ λ_ _ x=>x
section
variable{X:Cx}
theorem bin{a b:Expr}{ta tb:TE}(ha:PE X a ta)(hb:PE X b tb){pins:List (Addr×Obj)}{s:Shared}{σ:St}{H:Hp}{R:V→V→Hp→Prop}(I:Inv X pins σ H s)(h:ta σ H λx H1=>tb σ H1 λy H2=>R x y H2)
 {α:Type} {Q:α→Shared→Prop} {f:Value→Value→Sem α}
 (hf:∀v u s2 x y H2,Inv X pins σ H2 s2→RelV x v→RelV y u→R x y H2→wpAny (model X.prog X.w) X.A (f v u) Q X.xe s2):
 wpAny (model X.prog X.w) X.A (eval a X.env) (λv s₁=>wpAny (model X.prog X.w) X.A (eval b X.env) (λu s₂=>wpAny (model X.prog X.w) X.A (f v u) Q X.xe s₂) X.xe s₁) X.xe s:=by(
refine thn (ha pins s σ H _ I h) λv s1 hZ=>?_
obtain⟨x,H1,I1,r1,q1⟩:=hZ
refine thn (hb pins s1 σ H1 _ I1 q1) λu s2 hZ=>?_
obtain⟨y,H2,I2,r2,q2⟩:=hZ
exact hf v u s2 x y H2 I2 r1 r2 q2)
noncomputable def tVar(i:Nat):TE:=λσ H Q=>∃v,σ[i]?=some (some v)∧Q v H
noncomputable def tC(v:V):TE:=λ_ H Q=>Q v H
theorem qIT{i:Nat}{x:Str}{pos:Pos}(hN:X.N[i]?=some x)(hv:Vis X.env.scope x)(hd:(x==("__debug__":Str))=false:=by decide)(hcd:(x==("__classdict__":Str))=false:=by decide):PE X (.Name x pos) (tVar i):=by(
intro pins s σ H Q I h
obtain⟨v,e,h⟩:=h
obtain⟨m,hn,hl⟩:=I.loc
obtain⟨u,r,l⟩:=hl i x v hN e hv
have fin:EP X pins σ Q u s:=⟨v,H,I,r,h⟩
rcases l with⟨hk,hm⟩|⟨hk,c,hc,hcell⟩
·exact bN (xG I.ok.kind hk hn hm fin) hd
rcases hk with hk|hk
·exact bN (xP I.ok.kind hk hc hcell fin) hd
exact bN (wpAny_loadName_free I.ok.kind hk hc hcell fin hcd) hd)
theorem qG{i j pos}:PE X (.Constant (.int i) j pos) (tC (.int i)):=λ_ _ _ H _ I h=>wpAny_Constant_int ⟨.int i,H,I.tok _,⟨_,rfl⟩,h⟩
theorem q7P{b j pos}:PE X (.Constant (.bool b) j pos) (tC (.bl b)):=λ_ _ _ H _ I h=>Constant_bool ⟨.bl b,H,I,rfl,h⟩
theorem yC{j pos}:PE X (.Constant .none j pos) (tC .non):=λ_ _ _ H _ I h=>Constant_none ⟨.non,H,I,rfl,h⟩
theorem uO{x j pos}:PE X (.Constant (.str x) j pos) (tC (.str x)):=λ_ _ _ H _ I h=>Calls.Constant_str ⟨.str x,H,I.tok _,⟨_,rfl⟩,h⟩
noncomputable def Gl(X:Cx)(x:Str):Prop:=X.env.kindOf x=some .globalImplicit
theorem q2M{E:Value→Shared→Prop}{pins:List (Addr×Obj)}{s:Shared}{σ:St}{H:Hp}{x:Str}{u:Value}{pos:Pos}{Q:Value→Shared→Prop}(I:Inv X pins σ H s)(hg:Gl X x)(hm:X.mg x=some u)(h:Q u s)
 (hd:(x==("__debug__":Str))=false:=by decide):wpAny (model X.prog X.w) X.A (eval (.Name x pos) X.env) Q E s:=sY I.ok.kind hg (Calls.loadGlobal_global (by rw[I.ok.glob];exact I.mod.glob.keeps I.bk) hm h) hd
theorem q1N{E:Value→Shared→Prop}{pins:List (Addr×Obj)}{s:Shared}{σ:St}{H:Hp}{x:Str}{u:Value}{pos:Pos}{Q:Value→Shared→Prop}(I:Inv X pins σ H s)(hg:Gl X x)(hm:X.mg x=none)(hv:bootBuiltins x=some u)(h:Q u s)
 (hn:x≠"__name__":=by decide) (hd:(x==("__debug__":Str))=false:=by decide):wpAny (model X.prog X.w) X.A (eval (.Name x pos) X.env) Q E s:=by obtain⟨mb,h1,h2⟩:=I.mod.blt;exact sY I.ok.kind hg (Calls.loadGlobal_builtin (by rw[I.ok.glob];exact I.mod.glob.keeps I.bk) hm (by rw[I.ok.blt];exact h1.keeps I.bk) ((h2 x hn).trans hv) h) hd
theorem vJ{x:Str}{v:V}{u:Value}{pos:Pos}(hg:Gl X x)(hm:X.mg x=some u)(r:RelV v u)(hd:(x==("__debug__":Str))=false:=by decide):PE X (.Name x pos) (tC v):=λ_ _ _ H _ I h=>q2M I hg hm ⟨v,H,I,r,h⟩ hd
theorem q3Q{x:Str}{v:V}{u:Value}{pos:Pos}(hg:Gl X x)(hm:X.mg x=none)(hv:bootBuiltins x=some u)(r:RelV v u)(hn:x≠"__name__":=by decide)(hd:(x==("__debug__":Str))=false:=by decide):PE X (.Name x pos) (tC v):=λ_ _ _ H _ I h=>q1N I hg hm hv ⟨v,H,I,r,h⟩ hn hd
variable{a b:Expr}{ta tb:TE}{pos:Pos}
noncomputable def PC(X:Cx)(op:CmpOp)(a b:Expr)(t:TE):Prop:=∀(pins:List (Addr×Obj)) (s:Shared) (σ:St) (H:Hp) (Q:VK),Inv X pins σ H s→t σ H Q→wpAny (model X.prog X.w) X.A (eval a X.env) (λv s₁=>wpAny (model X.prog X.w) X.A (eval b X.env) (λu s₂=>wpAny (model X.prog X.w) X.A (compareOp op v u) (EP X pins σ Q) X.xe s₂) X.xe s₁) X.xe s
noncomputable def tB(t:TE):TT:=λσ H Q=>t σ H λx H1=>∃c,x=.bl c∧Q c H1
theorem qIU{op:CmpOp}{t:TE}(h:PC X op a b t)(h1:behindInMarks op b=false:=by first|exact nobehind _ (by decide) (by decide)|rfl):PE X (.Compare a [op] [b] pos) t:=λpins s σ H Q I hw=>wpAny_Compare1 (h pins s σ H Q I hw) h1
theorem qDN{op:CmpOp}{t:TE}(h:PC X op a b t)(h1:behindInMarks op b=false:=by first|exact nobehind _ (by decide) (by decide)|rfl):PT X (.Compare a [op] [b] pos) (tB t):=by(
intro pins s σ H Q I hw
refine xA (thn (h pins s σ H _ I hw) λv s1 h1=>thn h1 λu s2 h2=>thn h2 λc s3 hZ=>?_) h1
obtain⟨x,H1,I1,r1,q1⟩:=hZ
obtain⟨d,rfl,q⟩:=q1
cases r1
exact g5 ⟨H1,I1,q⟩)
theorem yM{e:Expr}{t:TE}(h:PE X e t)(he:∀whole,isTrue e X.env whole=(do let v←whole;standAt e.pos;holding [v] (truthy v)):=by intro _;rfl):PT X e (tB t):=by(
intro pins s σ H Q I hw
refine isTrue_plain (thn (h pins s σ H _ I hw) λv s1 hZ=>?_) (he _)
obtain⟨x,H1,I1,r1,q1⟩:=hZ
obtain⟨d,rfl,q⟩:=q1
cases r1
exact g5 ⟨H1,I1,q⟩)
variable{tA tB':TT}{rest:List Expr}
noncomputable def tAnd(t u:TT):TT:=λσ H Q=>t σ H λc H1=>if c=true then u σ H1 Q else Q false H1
noncomputable def tOr(t u:TT):TT:=λσ H Q=>t σ H λc H1=>if c=true then Q true H1 else u σ H1 Q
noncomputable def tNot(t:TT):TT:=λσ H Q=>t σ H λc H1=>Q (!c) H1
theorem q0X(ha:PT X a tA):PW X (.BoolOp .And [a] pos) tA:=by(
intro wh pins s σ H Q I h
refine isTrue_and (thn (ha pins s σ H Q I h) λc s1 e=>?_)
cases c with
|true=>exact isTrue_and_nil e
|false=>exact e)
theorem q8F(ha:PT X a tA):PW X (.BoolOp .Or [a] pos) tA:=by(
intro wh pins s σ H Q I h
refine isTrue_or (thn (ha pins s σ H Q I h) λc s1 e=>?_)
cases c with
|false=>exact isTrue_or_nil e
|true=>exact e)
theorem q36(ha:PT X a tA)(hb:PW X (.BoolOp .And (b::rest) pos) tB'):PW X (.BoolOp .And (a::b::rest) pos) (tAnd tA tB'):=by(
intro wh pins s σ H Q I h
refine isTrue_and (thn (ha pins s σ H _ I h) λc s1 hZ=>?_)
obtain⟨H1,I1,q1⟩:=hZ
cases c with
|true=>exact hb wh pins s1 σ H1 Q I1 q1
|false=>exact⟨H1,I1,q1⟩)
theorem qBO(ha:PT X a tA)(hb:PW X (.BoolOp .Or (b::rest) pos) tB'):PW X (.BoolOp .Or (a::b::rest) pos) (tOr tA tB'):=by(
intro wh pins s σ H Q I h
refine isTrue_or (thn (ha pins s σ H _ I h) λc s1 hZ=>?_)
obtain⟨H1,I1,q1⟩:=hZ
cases c with
|true=>exact⟨H1,I1,q1⟩
|false=>exact hb wh pins s1 σ H1 Q I1 q1)
theorem uG(ha:PT X a tA):PT X (.UnaryOp .Not a pos) (tNot tA):=by intro pins s σ H Q I h;exact isTrue_not (ha pins s σ H (λc H1=>Q (!c) H1) I h)
noncomputable def qKS(ta tb:TE):TE:=λσ H Q=>ta σ H λx H1=>∃c,x=.bl c∧if c=true then tb σ H1 Q else Q (.bl false) H1
noncomputable def tOrV(ta tb:TE):TE:=λσ H Q=>ta σ H λx H1=>∃c,x=.bl c∧if c=true then Q (.bl true) H1 else tb σ H1 Q
noncomputable def qKT(ta:TE):TE:=λσ H Q=>ta σ H λx H1=>∃c,x=.bl c∧Q (.bl (!c)) H1
theorem zH{op}{t:TE}(h:PE X a t):PE X (.BoolOp op [a] pos) t:=λpins s σ H Q I hw=>BoolOp_one (h pins s σ H Q I hw)
theorem zI(ha:PE X a ta)(hb:PE X (.BoolOp .And (b::rest) pos) tb):PE X (.BoolOp .And (a::b::rest) pos) (qKS ta tb):=by(
intro pins s σ H Q I h
refine BoolOp_and (thn (ha pins s σ H _ I h) λv s1 hZ=>?_)
obtain⟨x,H1,I1,r1,q1⟩:=hZ
obtain⟨c,rfl,q1⟩:=q1
cases r1
refine g5 ?_
cases c with
|true=>exact hb pins s1 σ H1 Q I1 q1
|false=>exact⟨.bl false,H1,I1,rfl,q1⟩)
theorem qI7(ha:PE X a ta)(hb:PE X (.BoolOp .Or (b::rest) pos) tb):PE X (.BoolOp .Or (a::b::rest) pos) (tOrV ta tb):=by(
intro pins s σ H Q I h
refine BoolOp_or (thn (ha pins s σ H _ I h) λv s1 hZ=>?_)
obtain⟨x,H1,I1,r1,q1⟩:=hZ
obtain⟨c,rfl,q1⟩:=q1
cases r1
refine g5 ?_
cases c with
|false=>exact hb pins s1 σ H1 Q I1 q1
|true=>exact⟨.bl true,H1,I1,rfl,q1⟩)
theorem qAP(ha:PE X a ta):PE X (.UnaryOp .Not a pos) (qKT ta):=by(
intro pins s σ H Q I h
refine UnaryOp_ (thn (ha pins s σ H _ I h) λv s1 hZ=>?_)
obtain⟨x,H1,I1,r1,q1⟩:=hZ
obtain⟨c,rfl,q1⟩:=q1
cases r1
exact not_of (g5 ⟨.bl (!c),H1,I1,rfl,q1⟩))
noncomputable def tIf(t:TT)(ta tb:TE):TE:=λσ H Q=>t σ H λc H1=>if c=true then ta σ H1 Q else tb σ H1 Q
theorem qDO{c:Expr}(hc:PT X c tA)(ha:PE X a ta)(hb:PE X b tb):PE X (.IfExp c a b pos) (tIf tA ta tb):=by(
intro pins s σ H Q I h
refine wpAny_IfExp (thn (hc pins s σ H _ I h) λd s1 hZ=>?_)
obtain⟨H1,I1,q1⟩:=hZ
cases d with
|true=>exact ha pins s1 σ H1 Q I1 q1
|false=>exact hb pins s1 σ H1 Q I1 q1)
end
noncomputable def SqL(K:PySem.W.Frag)(H:Hp)(a:Addr)(xs:List V):Prop:=Rd H a (.lst xs)∨∃(o:Obj) (its:Array Value) (n:Nat),K.lookup a=some o∧o.cls=.type "list"∧o.dict=none∧o.data=.seq its n∧its.size≤sizeLine∧Vals xs its.toList
noncomputable def SqT(K:PySem.W.Frag)(H:Hp)(a:Addr)(xs:List V):Prop:=Rd H a (.tup xs)∨∃(o:Obj) (its:Array Value) (n:Nat),K.lookup a=some o∧o.cls=.type "tuple"∧o.data=.seq its n∧its.size≤sizeLine∧Vals xs its.toList
noncomputable def absV:Value→Option V
| .none=>some .non
| .bool b=>some (.bl b)
| .int i _=>some (.int i)
| .str x _=>some (.str x)
| .bytes b _=>some (.byt b)
| .float b _=>some (.flt b)
| .ref a=>some (.ref a)
| .type n=>some (.ty n)
|_=>none
theorem RelV.abs{x:V}{u:Value}(r:RelV x u):absV u=some x:=by(
cases x with
|non=>cases r;rfl
|bl _=>cases r;rfl
|int _=>obtain⟨t,rfl⟩:=r;rfl
|str _=>obtain⟨t,rfl⟩:=r;rfl
|byt _=>obtain⟨t,rfl⟩:=r;rfl
|flt _=>obtain⟨t,rfl⟩:=r;rfl
|ref _=>cases r;rfl
|ty _=>cases r;rfl)
theorem RelV.inj{x y:V}{u:Value}(r:RelV x u)(q:RelV y u):x=y:=kZ (r.abs.symm.trans q.abs)
theorem Vals.inj{xs ys:List V}{us:List Value}(h:Vals xs us):Vals ys us→xs=ys:=by(
induction h generalizing ys with
|nil=>exact λg=>by cases g;rfl
|cons r t ih=>
 intro g;cases g with
 |cons r' t'=>rw[r.inj r',ih t'])
section
variable{X:Cx}{pins:List (Addr×Obj)}{σ:St}{H:Hp}{s:Shared}{a:Addr}{xs ys:List V}
theorem SqL.of{K:PySem.W.Frag}(h:H a=some (.lst xs)):SqL K H a xs:=.inl (.inl h)
theorem SqT.of{K:PySem.W.Frag}(h:H a=some (.tup xs)):SqT K H a xs:=.inl (.inl h)
theorem Inv.list(I:Inv X pins σ H s)(h:SqL X.K H a xs):∃its:List Value,Vals xs its∧PlainL s.heap a its.toArray∧xs.length≤sizeLine:=by(
rcases h with h|⟨o,its,n,hk,hc,hd,hs,hz,r⟩
·obtain⟨z,its,n,r,e⟩:=h.ok I.hok;exact⟨its,r,⟨_,n,e,rfl,rfl,rfl⟩,z⟩
refine⟨its.toList,r,⟨o,n,I.kIn a o hk,hc,hd,by simpa using hs⟩,?_⟩
have e:=r.length
simp only[mW]at e
lia)
theorem Inv.tuple(I:Inv X pins σ H s)(h:SqT X.K H a xs):∃its:List Value,Vals xs its∧IsTup s.heap a its.toArray∧xs.length≤sizeLine:=by(
rcases h with h|⟨o,its,n,hk,hc,hs,hz,r⟩
·obtain⟨z,its,r,p⟩:=h.ok I.hok;exact⟨its,r,p,z⟩
refine⟨its.toList,r,⟨o,I.kIn a o hk,hc,n,by simpa using hs⟩,?_⟩
have e:=r.length
simp only[mW]at e
lia)
theorem Inv.list_inj(I:Inv X pins σ H s)(h:SqL X.K H a xs)(h':SqL X.K H a ys):xs=ys:=by(
obtain⟨its,r,⟨o,n,e,_,_,d⟩,_⟩:=I.list h
obtain⟨its',r',⟨o',n',e',_,_,d'⟩,_⟩:=I.list h'
rw[e]at e';cases e'
rw[d]at d'
injection d' with d1 _
have:its=its':=by simpa using dO Array.toList d1
subst this
exact r.inj r')
end
noncomputable abbrev Cx.wish(X:Cx)(E:Value→Shared→Prop):Cx:={ X with xe:=E }
noncomputable abbrev Cx.nox(X:Cx):Cx:=X.wish λ_ _=>False
theorem Cx.Ok.wish{X:Cx}(ok:X.Ok)(E:Value→Shared→Prop):(X.wish E).Ok:=⟨ok.mod,ok.kind,ok.glob,ok.blt,ok.above,ok.inj,ok.has,ok.cab,ok.hd,ok.frames,ok.stk,ok.exf,ok.bs,ok.bsz,ok.noex,ok.exfs,ok.funs,ok.frf⟩
theorem Cx.Ok.unwish{X:Cx}{E:Value→Shared→Prop}(ok:(X.wish E).Ok):X.Ok:=⟨ok.mod,ok.kind,ok.glob,ok.blt,ok.above,ok.inj,ok.has,ok.cab,ok.hd,ok.frames,ok.stk,ok.exf,ok.bs,ok.bsz,ok.noex,ok.exfs,ok.funs,ok.frf⟩
section
variable{X:Cx}{pins:List (Addr×Obj)}{σ:St}{H:Hp}{s:Shared}{E:Value→Shared→Prop}
theorem Inv.wish(I:Inv X pins σ H s)(E:Value→Shared→Prop):Inv (X.wish E) pins σ H s:=⟨I.ok.wish E,I.os,I.bare,I.base,I.loc,I.cell,I.free,I.freeC,I.pin,I.hok,I.len⟩
theorem Inv.unwish(I:Inv (X.wish E) pins σ H s):Inv X pins σ H s:=⟨I.ok.unwish,I.os,I.bare,I.base,I.loc,I.cell,I.free,I.freeC,I.pin,I.hok,I.len⟩
theorem SP.unwish{D:Ends}{f:Flow}{s':Shared}(h:SP (X.wish E) pins D f s'):SP X pins D f s':=by(
cases f with
|next=>obtain⟨σ',H',I,q⟩:=h;exact⟨σ',H',I.unwish,q⟩
|brk=>obtain⟨σ',H',I,q⟩:=h;exact⟨σ',H',I.unwish,q⟩
|cont=>obtain⟨σ',H',I,q⟩:=h;exact⟨σ',H',I.unwish,q⟩
|ret u=>obtain⟨v,σ',H',I,r,q⟩:=h;exact⟨v,σ',H',I.unwish,r,q⟩)
theorem PSs.nox{st:List Stmt}{t:TS}(h:PSs X.nox st t):PSs X st t:=λpins s σ H D I hw=>dB (h pins s σ H D (I.wish _) hw) (λ_ _ q=>q.unwish) λ_ _ z=>False.elim z
end
section
variable{X:Cx}{st:Stmt}{rest:List Stmt}{t u:TS}{e:Expr}{te:TE}{pos:Pos}
noncomputable def qKU:TS:=λD σ H=>D.nx σ H
noncomputable def tSeq(t u:TS):TS:=λD σ H=>t { D with nx:=u D } σ H
theorem qS:PSs X [] qKU:=λ_ _ σ H _ I h=>sI ⟨σ,H,I,h⟩
theorem qB(h1:PS X st t)(h2:PSs X rest u):PSs X (st::rest) (tSeq t u):=by(
intro pins s σ H D I h
refine wpAny_execs_cons (thn (h1 pins s σ H { D with nx:=u D } I h) λf s1 q=>?_)
cases f with
|next=>obtain⟨σ',H',I',q⟩:=q;exact h2 pins s1 σ' H' D I' q
|ret v=>exact q
|brk=>exact q
|cont=>exact q)
theorem qD(h1:PS X st t):PSs X [st] t:=by(
intro pins s σ H D I h
refine wpAny_execs_cons (thn (h1 pins s σ H D I h) λf s1 q=>?_)
cases f with
|next=>exact sI q
|ret v=>exact q
|brk=>exact q
|cont=>exact q)
theorem Inv.quiet{pins:List (Addr×Obj)}{σ:St}{H:Hp}{s:Shared}(I:Inv X pins σ H s):interactive X.env=false:=by simp[interactive,I.ok.kind]
noncomputable def qKV(te:TE):TS:=λD σ H=>te σ H λ_ H1=>D.nx σ H1
theorem j8(he:PE X e te)(hs:swapsWith e none pos.line X.env=pure false:=by rfl):PS X (.Expr e pos) (qKV te):=by intro pins s σ H D I h;exact wpAny_Expr_any (thn (he pins s σ H _ I h) λv s1 ⟨x,H1,I1,r1,q1⟩=>⟨σ,H1,I1,q1⟩) I.quiet hs
noncomputable def tRet(te:TE):TS:=λD σ H=>te σ H D.rt
theorem qL(he:PE X e te):PS X (.Return (some e) pos) (tRet te):=by intro pins s σ H D I h;exact wpAny_Return_some (thn (he pins s σ H _ I h) λv s1 ⟨x,H1,I1,r1,q1⟩=>⟨x,σ,H1,I1,r1,q1⟩)
noncomputable def tIfS(c:TT)(t u:TS):TS:=λD σ H=>c σ H λb H1=>if b=true then t D σ H1 else u D σ H1
theorem jC{c:Expr}{a b:List Stmt}{tc:TT}(hc:PT X c tc)(ha:PSs X a t)(hb:PSs X b u):PS X (.If c a b pos) (tIfS tc t u):=by(
intro pins s σ H D I h
refine wpAny_If (thn (hc pins s σ H _ I h) λd s1 hZ=>?_)
obtain⟨H1,I1,q1⟩:=hZ
cases d with
|true=>exact ha pins s1 σ H1 D I1 q1
|false=>exact hb pins s1 σ H1 D I1 q1)
noncomputable def qIV:TS:=λ_ _ _=>False
theorem jH:PS X st qIV:=λ_ _ _ _ _ _ h=>h.elim
end
noncomputable abbrev TG:=V→St→Hp→(St→Hp→Prop)→Prop
noncomputable abbrev TGs:=List V→St→Hp→(St→Hp→Prop)→Prop
noncomputable def PG(X:Cx)(target:Expr)(t:TG):Prop:=∀(pins:List (Addr×Obj)) (s:Shared) (σ:St) (H:Hp) (v:V) (u:Value) (Q:St→Hp→Prop),Inv X pins σ H s→RelV v u→t v σ H Q→wpAny (model X.prog X.w) X.A (assign target X.env u) (λ_ s'=>∃σ' H',Inv X pins σ' H' s'∧Q σ' H') X.xe s
noncomputable def PGs(X:Cx)(ts:List Expr)(t:TGs):Prop:=∀(pins:List (Addr×Obj)) (s:Shared) (σ:St) (H:Hp) (vs:List V) (us:List Value) (Q:St→Hp→Prop),Inv X pins σ H s→Vals vs us→t vs σ H Q→wpAny (model X.prog X.w) X.A (assignInOrder ((assignEach ts X.env).map (·.2)) us) (λ_ s'=>∃σ' H',Inv X pins σ' H' s'∧Q σ' H') X.xe s
noncomputable abbrev TSet:=V→V→V→Hp→(Hp→Prop)→Prop
noncomputable def PSet(X:Cx)(t:TSet):Prop:=∀(pins:List (Addr×Obj)) (s:Shared) (σ:St) (H:Hp) (o i v:V) (ov iv u:Value) (Q:Hp→Prop),Inv X pins σ H s→RelV o ov→RelV i iv→RelV v u→t o i v H Q→wpAny (model X.prog X.w) X.A (setItem ov iv u) (λ_ s'=>∃H',Inv X pins σ H' s'∧Q H') X.xe s
noncomputable abbrev TIp:=V→V→Hp→VK→Prop
noncomputable def PIp(X:Cx)(op:Operator)(t:TIp):Prop:=∀(pins:List (Addr×Obj)) (s:Shared) (σ:St) (H:Hp) (x y:V) (v u:Value) (Q:VK),Inv X pins σ H s→RelV x v→RelV y u→t x y H Q→wpAny (model X.prog X.w) X.A (inplaceOp op v u) (EP X pins σ Q) X.xe s
section
variable{X:Cx}{pos:Pos}
noncomputable def q31(i:Nat):TG:=λv σ H Q=>Q (σ.set i (some v)) H
theorem qU{i:Nat}{x:Str}(hN:X.N.Nodup)(hi:X.N[i]?=some x)(hx:Loc X.env.scope x)(hf:X.fn x=true∨X.env.scope.names.lookup x=some .local:=by first|exact .inl rfl|exact .inr rfl|assumption):PG X (.Name x pos) (q31 i):=by intro pins s σ H v u Q I r h;exact aH (q5U I hN hi hx r (λs' I'=>⟨_,H,I',h⟩) hf)
noncomputable def gNil:TGs:=λvs σ H Q=>vs=[]∧Q σ H
noncomputable def qI8(t:TG)(u:TGs):TGs:=λvs σ H Q=>∃v r,vs=v::r∧t v σ H λσ' H'=>u r σ' H' Q
theorem q3R:PGs X [] gNil:=by(
intro pins s σ H vs us Q I r h
obtain⟨e,h⟩:=h
subst e
cases r
exact assignInOrder_nil ⟨σ,H,I,h⟩)
theorem u7{e:Expr}{es:List Expr}{t:TG}{u:TGs}(h1:PG X e t)(h2:PGs X es u)
 (hs:(assignEach (e::es) X.env).map (·.2)=assign e X.env::(assignEach es X.env).map (·.2):=by rfl):PGs X (e::es) (qI8 t u):=by(
intro pins s σ H vs us Q I r h
obtain⟨v,vr,e1,h⟩:=h
subst e1
cases r with
|cons r rr=>rw[hs];refine assignInOrder_cons (thn (h1 pins s σ H _ _ _ I r h) λ_ s1 hZ=>?_);obtain⟨σ1,H1,I1,q1⟩:=hZ;exact h2 pins s1 σ1 H1 _ _ Q I1 rr q1)
noncomputable def gTup(K:PySem.W.Frag)(n:Nat)(t:TGs):TG:=λv σ H Q=>∃a xs,v=.ref a∧SqT K H a xs∧xs.length=n∧t xs σ H Q
theorem q5V{es:List Expr}{k:Nat}{t:TGs}{n:Nat}(hc:X.calm=true)(h:PGs X es t)
 (hn:(assignEach es X.env).length=n:=by rfl) (hst:(assignEach es X.env).findIdx? (·.1)=none:=by rfl):PG X (.Tuple es k pos) (gTup X.K n t):=by(
intro pins s σ H v u Q I r hw
obtain⟨a,xs,e1,hq,hl,hw⟩:=hw
subst e1
cases r
obtain⟨its,rv,ht,hz⟩:=I.tuple hq
refine assign_Tuple_tuple (I.ok.hd hc) ht (by simp[hn,←hl,rv.length]) hst λh' hx=>?_
have I1:Inv X pins σ H { s with heap:=h' }:=I.kept (t':=s.toks) λb o e=>hx b o (mZ (mE e)) e
exact h pins _ σ H xs _ Q I1 (by simpa using rv) hw)
noncomputable def gSub(to ti:TE)(t:TSet):TG:=λv σ H Q=>to σ H λo H1=>ti σ H1 λi H2=>t o i v H2 λH3=>Q σ H3
theorem q4H{o i:Expr}{to ti:TE}{t:TSet}(ho:PE X o to)(hi:PE X i ti)(hs:PSet X t)
 (ha:∀v,assign (.Subscript o i pos) X.env v=(do
  let ov←holding [v] (eval o X.env)
  let iv←holding [v,ov] (eval i X.env)
  standAt pos
  holding [v,ov,iv] (setItem ov iv v)
  release [v,ov,iv] []):=by intro _;rfl):PG X (.Subscript o i pos) (gSub to ti t):=by(
intro pins s σ H v u Q I r h
rw[ha]
refine hV (gT (thn (ho pins s σ H _ I h) λov s1 hZ=>?_))
obtain⟨x,H1,I1,r1,q1⟩:=hZ
refine hV (gT (thn (hi pins s1 σ H1 _ I1 q1) λiv s2 hZ=>?_))
obtain⟨y,H2,I2,r2,q2⟩:=hZ
refine hV (nU (hV (gT (thn (hs pins s2 σ H2 x y v ov iv u _ I2 r1 r2 r q2) λ_ s3 hZ=>?_))))
obtain⟨H3,I3,q3⟩:=hZ
exact wpAny_release ⟨σ,H3,I3,q3⟩)
noncomputable def tAsg(te:TE)(g:TG):TS:=λD σ H=>te σ H λx H1=>g x σ H1 D.nx
theorem q37{tg e:Expr}{te:TE}{g:TG}(he:PE X e te)(hg:PG X tg g)(hs:swapsWithSole [tg] e pos.line X.env=pure false:=by rfl)(hw:swappedStores [tg] e X.env=pure none:=by rfl)
 (h1:(assignEach [tg] X.env).map (·.2)=[assign tg X.env]:=by rfl):PS X (.Assign [tg] e pos) (tAsg te g):=by(
intro pins s σ H D I h
refine wpAny_Assign_stores (thn (he pins s σ H _ I h) λv s1 hZ=>?_) hs hw
obtain⟨x,H1,I1,r1,q1⟩:=hZ
rw[h1]
exact thn (hg pins s1 σ H1 x v _ I1 r1 q1) λ_ s2 q=>q)
theorem qV{i:Nat}{x:Str}{e:Expr}{te:TE}{pos':Pos}(hN:X.N.Nodup)(hi:X.N[i]?=some x)(hx:Loc X.env.scope x)(he:PE X e te)(hs:swapsWith e (some (.Name x pos')) pos.line X.env=pure false:=by rfl)(hf:X.fn x=true∨X.env.scope.names.lookup x=some .local:=by first|exact .inl rfl|exact .inr rfl|assumption):
 PS X (.Assign [.Name x pos'] e pos) (tAsg te (q31 i)):=by(
intro pins s σ H D I h
refine wpAny_Assign_Name (thn (he pins s σ H _ I h) λv s1 hZ=>?_) hs
obtain⟨y,H1,I1,r1,q1⟩:=hZ
exact q5U I1 hN hi hx r1 (λs2 I2=>⟨_,H1,I2,q1⟩) hf)
noncomputable def tAug(i:Nat)(te:TE)(ti:TIp):TS:=λD σ H=>∃x,σ[i]?=some (some x)∧te σ H λy H1=>ti x y H1 λz H2=>D.nx (σ.set i (some z)) H2
theorem qIW{i:Nat}{x:Str}{e:Expr}{te:TE}{op:Operator}{ti:TIp}{pos':Pos}(hN:X.N.Nodup)(hi:X.N[i]?=some x)(hx:Loc X.env.scope x)(he:PE X e te)(ho:PIp X op ti)(hf:X.fn x=true∨X.env.scope.names.lookup x=some .local:=by first|exact .inl rfl|exact .inr rfl|assumption):
 PS X (.AugAssign (.Name x pos') op e pos) (tAug i te ti):=by(
intro pins s σ H D I h
obtain⟨v,e1,h⟩:=h
obtain⟨m,hn,hl⟩:=I.loc
have vis:Vis X.env.scope x:=by rcases hx with k|k;exact .inl k;exact .inr (.inl k)
obtain⟨u,r,l⟩:=hl i x v hi e1 vis
refine wpAny_AugAssign_Name ?_
have go:wpAny (model X.prog X.w) X.A (eval e X.env) (λw s₂=>wpAny (model X.prog X.w) X.A (inplaceOp op u w) (λr s₃=>wpAny (model X.prog X.w) X.A (storeName X.env x r) (λ_=>SP X pins D .next) X.xe s₃) X.xe s₂) X.xe s:=by refine thn (he pins s σ H _ I h) λw s1 hZ=>?_;obtain⟨y,H1,I1,r1,q1⟩:=hZ;refine thn (ho pins s1 σ H1 v y u w _ I1 r r1 q1) λz s2 hZ=>?_;obtain⟨zv,H2,I2,r2,q2⟩:=hZ;exact q5U I2 hN hi hx r2 (λs3 I3=>⟨_,H2,I3,q2⟩) hf
rcases l with⟨hk,hm⟩|⟨hk,c,hc,hcell⟩
·exact xG I.ok.kind hk hn hm go
rcases hk with hk|hk
·exact xP I.ok.kind hk hc hcell go
rcases hx with k|k
·have:X.env.scope.names.lookup x=some .free:=hk;rw[k]at this;cases this
have:X.env.scope.names.lookup x=some .free:=hk
rw[k]at this;cases this)
noncomputable def qKW(to ti te:TE)(tget:V→V→Hp→VK→Prop)(tip:TIp)(tset:TSet):TS:=λD σ H=>to σ H λo H1=>ti σ H1 λi H2=>tget o i H2 λx H3=>te σ H3 λy H4=>tip x y H4 λz H5=>tset o i z H5 λH6=>D.nx σ H6
noncomputable def PGet(X:Cx)(t:V→V→Hp→VK→Prop):Prop:=∀(pins:List (Addr×Obj)) (s:Shared) (σ:St) (H:Hp) (o i:V) (ov iv:Value) (Q:VK),Inv X pins σ H s→RelV o ov→RelV i iv→t o i H Q→wpAny (model X.prog X.w) X.A (getItem ov iv) (EP X pins σ Q) X.xe s
theorem q3S{o i e:Expr}{to ti te:TE}{tget:V→V→Hp→VK→Prop}{tip:TIp}{tset:TSet}{op:Operator}{tpos:Pos}(ho:PE X o to)(hi:PE X i ti)(hg:PGet X tget)(he:PE X e te)(hp:PIp X op tip)(hs:PSet X tset)
 (ha:∀ov iv new,augStore i ov iv new=(do holding [new,ov,iv] (setItem ov iv new);release [new,ov,iv] [];pure .next):=by intros;rfl):PS X (.AugAssign (.Subscript o i tpos) op e pos) (qKW to ti te tget tip tset):=by(
intro pins s σ H D I h
refine wpAny_AugAssign_SubscriptAny (thn (ho pins s σ H _ I h) λov s1 hZ=>?_) ha
obtain⟨x1,H1,I1,r1,q1⟩:=hZ
refine thn (hi pins s1 σ H1 _ I1 q1) λiv s2 hZ=>?_
obtain⟨x2,H2,I2,r2,q2⟩:=hZ
refine thn (hg pins s2 σ H2 x1 x2 ov iv _ I2 r1 r2 q2) λold s3 hZ=>?_
obtain⟨x3,H3,I3,r3,q3⟩:=hZ
refine thn (he pins s3 σ H3 _ I3 q3) λv s4 hZ=>?_
obtain⟨x4,H4,I4,r4,q4⟩:=hZ
refine thn (hp pins s4 σ H4 x3 x4 old v _ I4 r3 r4 q4) λnew s5 hZ=>?_
obtain⟨x5,H5,I5,r5,q5⟩:=hZ
exact thn (hs pins s5 σ H5 x1 x2 x5 ov iv new _ I5 r1 r2 r5 q5) λ_ s6 ⟨H6,I6,q6⟩=>⟨σ,H6,I6,q6⟩)
noncomputable def ipI(f:Int→Int→Int):TIp:=λx y H Q=>∃i j,x=.int i∧y=.int j∧Q (.int (f i j)) H
theorem q5W:PIp X .Add (ipI λi j=>i+j):=by(
intro pins s σ H x y v u Q I r1 r2 h
obtain⟨i,j,e1,e2,q⟩:=h
subst e1;subst e2
obtain⟨t,rfl⟩:=r1
obtain⟨t',rfl⟩:=r2
exact iadd_int ⟨.int _,H,I.tok _,⟨_,rfl⟩,q⟩)
theorem qIX:PIp X .Sub (ipI λi j=>i-j):=by(
intro pins s σ H x y v u Q I r1 r2 h
obtain⟨i,j,e1,e2,q⟩:=h
subst e1;subst e2
obtain⟨t,rfl⟩:=r1
obtain⟨t',rfl⟩:=r2
exact isub_int ⟨.int _,H,I.tok _,⟨_,rfl⟩,q⟩)
end
section
variable{X:Cx}{pos:Pos}
noncomputable def qIY(c:TT)(tb:TS):TS:=λD σ H=>∃W:Nat→St→Hp→Prop,(∃m,W m σ H)∧∀m σ H,W m σ H→c σ H λb H1=>if b=true then ∃N:St→Hp→Prop,(∀σ' H',N σ' H'→∃m',m'<m∧W m' σ' H')∧tb { D with nx:=N,ct:=N,bk:=D.nx } σ H1 else D.nx σ H1
theorem q9I{c:Expr}{body:List Stmt}{tc:TT}{tb:TS}(hp:PassesOwn (model X.prog X.w) X.A X.env X.xe)(hc:PT X c tc)(hb:PSs X body tb):PS X (.While c body [] pos) (qIY tc tb):=by(
intro pins s σ H D I h
obtain⟨W,⟨m0,w0⟩,turn⟩:=h
refine wpAny_While (codeAny_whileLoop (λn s'=>∃σ' H',Inv X pins σ' H' s'∧W n σ' H') ?_ m0 ⟨σ,H,I,w0⟩)
rintro n s1 ⟨σ1,H1,I1,w1⟩
refine rV hp (thn (hc pins s1 σ1 H1 _ I1 (turn n σ1 H1 w1)) λb s2 hZ=>?_)
obtain⟨H2,I2,q2⟩:=hZ
cases b with
|true=>
 obtain⟨N,hN,q2⟩:=q2;rw[kL rfl];refine rV hp (thn (hb pins s2 σ1 H2 _ I2 q2) λf s3 q3=>?_);cases f with
 |next=>obtain⟨σ3,H3,I3,n3⟩:=q3;obtain⟨m',hm,w3⟩:=hN σ3 H3 n3;exact⟨m',hm,σ3,H3,I3,w3⟩
 |cont=>obtain⟨σ3,H3,I3,n3⟩:=q3;obtain⟨m',hm,w3⟩:=hN σ3 H3 n3;exact⟨m',hm,σ3,H3,I3,w3⟩
 |brk=>exact q3
 |ret v=>exact q3
|false=>rw[kJ kX];exact sI ⟨σ1,H2,I2,q2⟩)
end
structure It where
go:Nat→Hp→Prop
yld:Nat→Hp→V→Hp→Prop
stop:Nat→Hp→Prop
noncomputable def FpOk(X:Cx)(pins:List (Addr×Obj))(H:Hp)(b:Addr):Prop:=H b=none∧b≠X.env.locals∧b∉X.fs∧(b∈X.ex∨X.s₀.heap.objs.size≤b)∧(∀x c,X.env.cells.lookup x=some c→c≠b)∧∀p∈X.pn++pins,p.1≠b
theorem Inv.fpOk{X:Cx}{pins:List (Addr×Obj)}{σ:St}{H H':Hp}{s:Shared}{b:Addr}(I:Inv X pins σ H s)(hb:s.heap.objs.size≤b)(hn:H' b=none):FpOk X pins H' b:=by(
refine⟨hn,rL (m7 I.lt hb),I.nofs hb,.inr (mO I.sz hb),λx c e z=>?_,λp hp z=>?_⟩
·obtain⟨v,q⟩:=I.cell x c e;exact absurd (m7 q.lt (by rw[z];exact hb)) (d7 _)
exact absurd (m7 (mE (I.pin p hp).1) (by rw[z];exact hb)) (d7 _))
structure Turn(P:Program)(w:World)(K:PySem.W.Frag)(tg:Expr)(J:It)(fp:List Addr)(it:Addr)(tn:Nat→Heap→Prop):Prop where
mem:it∈fp
obj:∀i h,tn i h→∀b∈fp,∃o,h.get? b=some o∧∀v,o.data≠ .cell v
keep:∀i h h',tn i h→(∀b∈fp,∀o,h.get? b=some o→h'.get? b=some o)→tn i h'
item:∀(X:Cx),X.prog=P→X.w=w→X.K=K→X.calm=true→∀(i:Nat) (pins:List (Addr×Obj)) (s:Shared) (σ:St) (H:Hp) (E:Value→Shared→Prop),Inv X pins σ H s→(∀b∈fp,FpOk X pins H b)→tn i s.heap→J.go i H→wpAny (model P w) X.A (pyNext (.ref it)) (λr s1=>∃u,r=some u∧wpAny (model P w) X.A (letOwnedTupleGo tg (.ref it) u) (λ_ s2=>∃x H',Inv X pins σ H' s2∧RelV x u∧J.yld i H x H'∧tn (i+1) s2.heap∧∀b∈fp,H' b=none) E s1) E s
done:∀(X:Cx),X.prog=P→X.w=w→X.K=K→X.calm=true→∀(i:Nat) (pins:List (Addr×Obj)) (s:Shared) (σ:St) (H:Hp) (E:Value→Shared→Prop),Inv X pins σ H s→(∀b∈fp,FpOk X pins H b)→tn i s.heap→J.stop i H→wpAny (model P w) X.A (pyNext (.ref it)) (λr s1=>r=none∧Inv X pins σ H s1) E s
self:∀(A:Around) (i:Nat) (s:Shared) (Q:Value→Shared→Prop) (E:Value→Shared→Prop),tn i s.heap→Q (.ref it) s→wpAny (model P w) A (pyIter (.ref it)) Q E s
noncomputable abbrev TI:=St→Hp→(It→Hp→Prop)→Prop
noncomputable def PIE(X:Cx)(pins:List (Addr×Obj))(σ:St)(tg:Expr)(R:It→Hp→Prop)(itv:Value)(s2:Shared):Prop:=∃(it:Addr) (fp:List Addr) (tn:Nat→Heap→Prop) (J:It) (H':Hp),itv=.ref it∧Inv X pins σ H' s2∧Turn X.prog X.w X.K tg J fp it tn∧tn 0 s2.heap∧(∀b∈fp,FpOk X pins H' b)∧R J H'
noncomputable def PI(X:Cx)(tg iter:Expr)(wi:TI):Prop:=∀(pins:List (Addr×Obj)) (s:Shared) (σ:St) (H:Hp) (R:It→Hp→Prop),Inv X pins σ H s→wi σ H R→wpAny (model X.prog X.w) X.A (eval iter X.env) (λv s1=>wpAny (model X.prog X.w) X.A (pyIter v) (PIE X pins σ tg R) X.xe s1) X.xe s
theorem qBP{M:Model}{A:Around}{E:Value→Shared→Prop}{s:Shared}{tg:Expr}{it:Addr}{u:Value}{o:Obj}{n:String}{vs:Array Value}{Q:Unit→Shared→Prop}(ho:s.heap.get? it=some o)(hc:o.cls=.type n)(hd:o.data=.fields vs)
 (hn:["enumerate","zip","dict_itemiterator","dict_reverseitemiterator","odict_iterator","itertools.zip_longest","itertools.pairwise"].contains n=false) (hQ:Q () s):wpAny M A (letOwnedTupleGo tg (.ref it) u) Q E s:=by(
unfold letOwnedTupleGo
cases tg<;>first
 |exact kQ hQ
 |(cases u<;>first
  |exact kQ hQ
  |(refine hV (wpAny_load ho ?_)
    rw[hc,hd];show wpAny M A (if(["enumerate","zip","dict_itemiterator","dict_reverseitemiterator","odict_iterator","itertools.zip_longest","itertools.pairwise"].contains n&&vs[0]?==some (rawInt _))=true then _ else _) Q E s;rw[kJ (by intro h;rw[hn,Bool.false_and]at h;cases h)];exact kQ hQ)))
noncomputable def Itl(K:PySem.W.Frag)(a:Addr):It:=⟨λi H=>∃xs x,SqL K H a xs∧xs[i]?=some x,λi H x H'=>H'=H∧∀xs,SqL K H a xs→xs[i]?=some x,λi H=>∃xs,SqL K H a xs∧xs.length≤i⟩
noncomputable def Itr(lo:Int)(n:Nat):It:=⟨λi _=>i<n,λi H x H'=>H'=H∧x=.int (lo+i),λi _=>n≤i⟩
theorem qCZ{P:Program}{w:World}{K:PySem.W.Frag}{tg:Expr}(a it:Addr):Turn P w K tg (Itl K a) [it] it (λi h=>h.IsListIter it a i) where
mem:=by simp
obj:=λi h st b hb=>by
 have e:b=it:=by simpa using hb
 subst e;obtain⟨o,e,c,d⟩:=st;exact⟨o,e,λv z=>by rw[d]at z;cases z⟩
keep:=λi h h' st k=>st.at λo e=>k it (by simp) o e
item:=by intro X hP hw hK hc i pins s σ H E I hf st hg;subst hP hw hK;obtain⟨xs,x,hq,hx⟩:=hg;obtain⟨its,rv,p,hz⟩:=I.list hq;obtain⟨u,hu,ru⟩:=rv.get hx;obtain⟨f0,f1,f2,f3,f4,f5⟩:=hf it (by simp);refine wpAny_pyNext_list_item st p.isList (x:=u) (by simpa using hu) λh' st' sb=>?_;have I1:Inv X pins σ H { s with heap:=h' }:=I.turned (t':=s.toks) (λb o hb e=>(sb.2 b hb).trans e) f0 f1 f3 f4 f5;obtain⟨o,e,c,d⟩:=id st';exact⟨u,rfl,qBP (s:={ s with heap:=h' }) e c d (by decide) ⟨x,H,I1,ru,⟨rfl,λys hy=>by rw[I.list_inj hy hq];exact hx⟩,st',λb hb=>(hf b hb).1⟩⟩
done:=by intro X hP hw hK hc i pins s σ H E I hf st hg;subst hP hw hK;obtain⟨xs,hq,hx⟩:=hg;obtain⟨its,rv,p,hz⟩:=I.list hq;obtain⟨f0,f1,f2,f3,f4,f5⟩:=hf it (by simp);have hl:=rv.length;exact wpAny_pyNext_list_end (I.ok.hd hc) st p.isList (by simp;lia) λh' eb=>⟨rfl,I.turned (t':=s.toks) (λb o hb e=>eb b o hb e) f0 f1 f3 f4 f5⟩
self:=λ_ _ _ _ _ st h=>wpAny_pyIter_listiter st h
theorem qAQ{P:Program}{w:World}{K:PySem.W.Frag}{tg:Expr}(it:Addr)(lo:Int)(n:Nat):Turn P w K tg (Itr lo n) [it] it (λi h=>IsRangeIter h it (lo+(i:Nat)*1) ((n:Int)-(i:Nat)) 1) where
mem:=by simp
obj:=λi h st b hb=>by
 have e:b=it:=by simpa using hb
 subst e;exact⟨_,st,λv z=>by have z':Data.fields _=Data.cell v:=z;cases z'⟩
keep:=λi h h' st k=>k it (by simp) _ st
item:=by intro X hP hw hK hc i pins s σ H E I hf st hg;subst hP hw hK;obtain⟨f0,f1,f2,f3,f4,f5⟩:=hf it (by simp);have W:=Walks.range (prog:=X.prog) (w:=X.w) (I.ok.hd hc) it lo 1 n;refine W.item i s _ _ hg st λv h' tk hv st' kk=>?_;obtain⟨t,rfl⟩:=hv;have I1:Inv X pins σ H { s with heap:=h',toks:=tk }:=I.turned (λb o hb e=>kk b o (by simpa using hb) e) f0 f1 f3 f4 f5;refine⟨_,rfl,qBP (s:={ s with heap:=h',toks:=tk }) (n:="range_iterator") st' rfl rfl (by decide) ⟨.int (lo+i),H,I1,⟨t,?_⟩,⟨rfl,rfl⟩,st',λb hb=>(hf b hb).1⟩⟩;rw[Int.mul_one]
done:=by intro X hP hw hK hc i pins s σ H E I hf st hg;subst hP hw hK;obtain⟨f0,f1,f2,f3,f4,f5⟩:=hf it (by simp);exact wpAny_pyNext_range_end (I.ok.hd hc) st (by have:n≤i:=hg;lia) λh' eb=>⟨rfl,I.turned (t':=s.toks) (λb o hb e=>eb b o hb e) f0 f1 f3 f4 f5⟩
self:=λ_ _ _ _ _ st h=>wpAny_pyIter_rangeiter st h
section
variable{X:Cx}{tg:Expr}
noncomputable def qKX(K:PySem.W.Frag)(tl:TE):TI:=λσ H R=>tl σ H λx H1=>∃a,x=.ref a∧(∃xs,SqL K H1 a xs)∧R (Itl K a) H1
theorem jF{l:Expr}{tl:TE}(hl:PE X l tl):PI X tg l (qKX X.K tl):=by(
intro pins s σ H R I h
refine thn (hl pins s σ H _ I h) λv s1 hZ=>?_
obtain⟨x,H1,I1,r1,q1⟩:=hZ
obtain⟨a,e,⟨xs,hq⟩,q⟩:=q1
subst e
cases r1
obtain⟨its,rv,p,hz⟩:=I1.list hq
refine aI p.isList ?_
refine⟨s1.heap.objs.size,[s1.heap.objs.size],_,_,H1,rfl,I1.kept (t':=s1.toks) λb o e=>kF _ e,qCZ a _,⟨_,mR _ rfl,rfl,rfl⟩,λb hb=>?_,q⟩
have e:b=s1.heap.objs.size:=by simpa using hb
subst e
exact I1.fpOk (kO _) (I1.hok.fresh (kO _)))
theorem q9J{pins:List (Addr×Obj)}{σ:St}{H:Hp}{s:Shared}{R:It→Hp→Prop}{E:Value→Shared→Prop}{lo hi:Int}{t u v:Tok}{tk:Nat}(I:Inv X pins σ H s)(h1:-(2 ^ 62)≤lo)(h2:lo<2 ^ 62)(h3:-(2 ^ 62)≤hi)(h4:hi<2 ^ 62)
 (q:R (Itr lo (hi-lo).toNat) H):wpAny (model X.prog X.w) X.A (pyIter (.ref s.heap.objs.size)) (PIE X pins σ tg R) E { s with heap:=s.heap.push { cls:=.type "range",data:=.fields #[.int lo t,.int hi u,.int 1 v] },toks:=tk }:=by(
refine wpAny_pyIter_range (IsRange.new ..) (small_one h1 h2 h3 h4) ?_
have I1:Inv X pins σ H { s with heap:=s.heap.push { cls:=.type "range",data:=.fields #[.int lo t,.int hi u,.int 1 v] },toks:=tk }:=I.kept λb o e=>kF _ e
refine⟨(s.heap.push { cls:=.type "range",data:=.fields #[.int lo t,.int hi u,.int 1 v] }).objs.size,[(s.heap.push { cls:=.type "range",data:=.fields #[.int lo t,.int hi u,.int 1 v] }).objs.size],_,_,H,rfl,I1.kept (t':=tk) λb o e=>kF _ e,qAQ _ lo (hi-lo).toNat,?_,λb hb=>?_,q⟩
·have e1:lo+((0:Nat):Int)*1=lo:=by simp
 have e2:(((hi-lo).toNat:Nat):Int)-((0:Nat):Int)=Builtin.Range.rangeSize lo hi 1:=by rw[rangeSize_one];split<;>lia
 show IsRangeIter _ _ (lo+((0:Nat):Int)*1) ((((hi-lo).toNat:Nat):Int)-((0:Nat):Int)) 1;rw[e1,e2];exact mR _ rfl
have e:b=(s.heap.push { cls:=.type "range",data:=.fields #[.int lo t,.int hi u,.int 1 v] }).objs.size:=by simpa using hb
subst e
exact I1.fpOk (kO _) (I1.hok.fresh (kO _)))
noncomputable def qKY(ta:TA):TI:=λσ H R=>ta σ H λvs H1=>∃j:Int,vs=[.int j]∧-(2 ^ 62)≤j∧j<2 ^ 62∧R (Itr 0 j.toNat) H1
noncomputable def qKZ(ta:TA):TI:=λσ H R=>ta σ H λvs H1=>∃i j:Int,vs=[.int i,.int j]∧(-(2 ^ 62)≤i∧i<2 ^ 62∧-(2 ^ 62)≤j∧j<2 ^ 62)∧R (Itr i (j-i).toNat) H1
theorem zG{a:Expr}{ta:TA}{p pos:Pos}(hg:Gl X "range")(hm:X.mg "range"=none)(ha:PA X [a] ta)(hs:starEach [a] X.env=[(false,eval a X.env)]:=by rfl):PI X tg (.Call (.Name "range" p) [a] [] pos) (qKY ta):=by(
intro pins s σ H R I h
refine Call_ (q1N I hg hm boot_range (cH (thn (ha pos pins s σ H _ I h) λus s1 hZ=>?_) hs rfl))
obtain⟨vs,H1,I1,r1,q1⟩:=hZ
obtain⟨j,e,q1,q2,q⟩:=q1
subst e
cases r1 with
|cons r rr=>cases rr;obtain⟨t,rfl⟩:=r;exact call_range_1 (q9J I1 (by lia) (by lia) q1 q2 (by simpa using q)))
theorem q4I{a b:Expr}{ta:TA}{p pos:Pos}(hg:Gl X "range")(hm:X.mg "range"=none)(ha:PA X [a,b] ta)(hs:starEach [a,b] X.env=[(false,eval a X.env),(false,eval b X.env)]:=by rfl)(hs2:starEach [b] X.env=[(false,eval b X.env)]:=by rfl):
 PI X tg (.Call (.Name "range" p) [a,b] [] pos) (qKZ ta):=by(
intro pins s σ H R I h
refine Call_ (q1N I hg hm boot_range (cH (thn (ha pos pins s σ H _ I h) λus s1 ⟨vs,H1,I1,r1,q1⟩=>?_) (by rw[hs,hs2]) (by rw[hs2];rfl)))
obtain⟨i,j,e,⟨q1,q2,q3,q4⟩,q⟩:=q1
subst e
cases r1 with
|cons r rr=>
 cases rr with
 |cons r' rr=>cases rr;obtain⟨t,rfl⟩:=r;obtain⟨t',rfl⟩:=r';exact call_range_2 (q9J I1 q1 q2 q3 q4 q))
noncomputable def tFor(wi:TI)(g:TG)(tb:TS):TS:=λD σ H=>wi σ H λJ H1=>∃W:Nat→Nat→St→Hp→Prop,(∃m,W 0 m σ H1)∧∀i m σ H,W i m σ H→(J.stop i H∧D.nx σ H)∨(J.go i H∧∃N:St→Hp→Prop,(∀σ' H',N σ' H'→∃m',m'<m∧W (i+1) m' σ' H')∧∀x H',J.yld i H x H'→g x σ H' λσ2 H2=>tb { D with nx:=N,ct:=N,bk:=D.nx } σ2 H2)
noncomputable def q5X(fp:List Addr)(h:Heap):List (Addr×Obj):=fp.filterMap λb=>(h.get? b).map λo=>(b,o)
theorem yJ{fp:List Addr}{h:Heap}{b:Addr}{o:Obj}(hb:b∈fp)(e:h.get? b=some o):(b,o)∈q5X fp h:=wT.mpr ⟨b,hb,by rw[e];rfl⟩
theorem qD0{fp:List Addr}{h:Heap}{p:Addr×Obj}(hp:p∈q5X fp h):p.1∈fp∧h.get? p.1=some p.2:=by(
obtain⟨b,hb,e⟩:=wT.mp hp
cases q:h.get? b with
|none=>rw[q]at e;cases e
|some o=>rw[q]at e;have e':(b,o)=p:=kZ e;subst e';exact⟨hb,q⟩)
theorem Inv.pinned{pins:List (Addr×Obj)}{σ:St}{H:Hp}{s:Shared}{fp:List Addr}(I:Inv X pins σ H s)(hf:∀b∈fp,FpOk X pins H b)(ho:∀b∈fp,∃o,s.heap.get? b=some o∧∀v,o.data≠ .cell v):Inv X (pins++q5X fp s.heap) σ H s:=I.pins_of λp hp=>(gN.mp hp).elim (λz=>I.pin p (mB _ z)) λz=>by  obtain⟨hb,e⟩:=qD0 z;obtain⟨f0,f1,f2,_⟩:=hf p.1 hb;obtain⟨o,e',d⟩:=ho p.1 hb;rw[e]at e';cases e';exact⟨e,f0,f1,f2,d⟩
theorem Inv.unpinned{pins pl:List (Addr×Obj)}{σ:St}{H:Hp}{s:Shared}(I:Inv X (pins++pl) σ H s):Inv X pins σ H s:=I.pins_of λp hp=>I.pin p (mB _ (gO _ hp))
theorem uP{iter:Expr}{body:List Stmt}{wi:TI}{g:TG}{tb:TS}{pos:Pos}(hp:PassesOwn (model X.prog X.w) X.A X.env X.xe)(hc:X.calm=true)(hi:PI X tg iter wi)(hg:PG X tg g)(hb:PSs X body tb)
 (hs:∀x,foldedSetIterable iter X.env x=pure x:=by intro _;rfl):PS X (.For tg iter body [] pos) (tFor wi g tb):=by(
intro pins s σ H D I h
refine wpAny_For (thn (hi pins s σ H _ I h) λv s1 h1=>thn h1 λitv s2 h2=>?_) hs
obtain⟨it,fp,tn,J,H2,e,I2,T,st2,f2,W,⟨m0,w0⟩,turn⟩:=h2
subst e
have stat:∀{H':Hp},(∀b∈fp,H' b=none)→∀b∈fp,FpOk X pins H' b:=λhn b hb=>⟨hn b hb,(f2 b hb).2⟩
refine codeAny_forLoop_any (λn s'=>∃i σ' H',Inv X pins σ' H' s'∧tn i s'.heap∧(∀b∈fp,H' b=none)∧W i n σ' H') ?_ m0 ⟨0,σ,H2,I2,st2,λb hb=>(f2 b hb).1,w0⟩
rintro n s3 ⟨i,σ3,H3,I3,st3,fr3,w3⟩
rcases turn i n σ3 H3 w3 with⟨stop,qn⟩|⟨go,N,hN,step⟩
·refine rV hp (thn (T.done X rfl rfl rfl hc i pins s3 σ3 H3 X.xe I3 (stat fr3) st3 stop) λr s4 hZ=>?_);obtain⟨hr,I4⟩:=hZ;subst hr;exact sI ⟨σ3,H3,I4,qn⟩
refine rV hp (thn (T.item X rfl rfl rfl hc i pins s3 σ3 H3 X.xe I3 (stat fr3) st3 go) λr s4 hZ=>?_)
obtain⟨u,hr,h4⟩:=hZ
subst hr
refine rV hp (thn h4 λ_ s5 hZ=>?_)
obtain⟨x,H5,I5,r5,y5,st5,fr5⟩:=hZ
have I5':=I5.pinned (stat fr5) (T.obj _ _ st5)
refine rV hp (thn (hg _ s5 σ3 H5 x u _ I5' r5 (step x H5 y5)) λ_ s6 hZ=>?_)
obtain⟨σ6,H6,I6,q6⟩:=hZ
refine rV hp (thn (hb _ s6 σ6 H6 _ I6 q6) λf s7 q7=>?_)
have again:∀{σ7:St} {H7:Hp},Inv X (pins++q5X fp s5.heap) σ7 H7 s7→N σ7 H7→∃m,m<n∧∃i σ' H',Inv X pins σ' H' s7∧tn i s7.heap∧(∀b∈fp,H' b=none)∧W i m σ' H':=fun {σ7 H7} I7 n7=>by obtain⟨m',hm,w7⟩:=hN σ7 H7 n7;refine⟨m',hm,i+1,σ7,H7,I7.unpinned,T.keep _ _ _ st5 λb hb o e=>(I7.pin (b,o) (mB _ (mB _ (yJ hb e)))).1,λb hb=>?_,w7⟩;obtain⟨o,e,d⟩:=T.obj _ _ st5 b hb;exact(I7.pin (b,o) (mB _ (mB _ (yJ hb e)))).2.1
cases f with
|next=>obtain⟨σ7,H7,I7,n7⟩:=q7;exact again I7 n7
|cont=>obtain⟨σ7,H7,I7,n7⟩:=q7;exact again I7 n7
|brk=>obtain⟨σ7,H7,I7,q7⟩:=q7;exact⟨σ7,H7,I7.unpinned,q7⟩
|ret v=>obtain⟨x7,σ7,H7,I7,r7,q7⟩:=q7;exact⟨x7,σ7,H7,I7.unpinned,r7,q7⟩)
end
theorem uX{K:PySem.W.Frag}{a:Addr}{xs:List V}{g:TG}{tb:TS}{D:Ends}{σ:St}{H:Hp}(Pv:Nat→St→Hp→Prop)(h0:Pv 0 σ H)(hl:∀i σ H,i≤xs.length→Pv i σ H→SqL K H a xs)
 (hs:∀i x σ H,xs[i]?=some x→Pv i σ H→g x σ H λσ2 H2=>tb { D with nx:=Pv (i+1),ct:=Pv (i+1),bk:=D.nx } σ2 H2) (hd:∀σ H,Pv xs.length σ H→D.nx σ H):
 ∃W:Nat→Nat→St→Hp→Prop,(∃m,W 0 m σ H)∧∀i m σ H,W i m σ H→((Itl K a).stop i H∧D.nx σ H)∨((Itl K a).go i H∧∃N:St→Hp→Prop,(∀σ' H',N σ' H'→∃m',m'<m∧W (i+1) m' σ' H')∧∀x H',(Itl K a).yld i H x H'→g x σ H' λσ2 H2=>tb { D with nx:=N,ct:=N,bk:=D.nx } σ2 H2):=by(
refine⟨λi m σ H=>m=xs.length-i∧i≤xs.length∧Pv i σ H,⟨xs.length,by simp,m9 _,h0⟩,?_⟩
rintro i m σ H ⟨rfl,hi,p⟩
have q:=hl i σ H hi p
by_cases hlt:i<xs.length
·refine .inr ⟨⟨xs,xs[i],q,by simp[hlt]⟩,Pv (i+1),λσ' H' p'=>⟨xs.length-(i+1),by lia,rfl,hlt,p'⟩,λx H' y=>?_⟩;obtain⟨e,y⟩:=y;subst e;exact hs i x σ _ (y xs q) p
have e:i=xs.length:=by lia
subst e
exact .inl ⟨⟨xs,q,kO _⟩,hd σ H p⟩)
theorem q7Q{lo:Int}{n:Nat}{g:TG}{tb:TS}{D:Ends}{σ:St}{H:Hp}(Pv:Nat→St→Hp→Prop)(h0:Pv 0 σ H)
 (hs:∀i σ H,i<n→Pv i σ H→g (.int (lo+i)) σ H λσ2 H2=>tb { D with nx:=Pv (i+1),ct:=Pv (i+1),bk:=D.nx } σ2 H2) (hd:∀σ H,Pv n σ H→D.nx σ H):
 ∃W:Nat→Nat→St→Hp→Prop,(∃m,W 0 m σ H)∧∀i m σ H,W i m σ H→((Itr lo n).stop i H∧D.nx σ H)∨((Itr lo n).go i H∧∃N:St→Hp→Prop,(∀σ' H',N σ' H'→∃m',m'<m∧W (i+1) m' σ' H')∧∀x H',(Itr lo n).yld i H x H'→g x σ H' λσ2 H2=>tb { D with nx:=N,ct:=N,bk:=D.nx } σ2 H2):=by(
refine⟨λi m σ H=>m=n-i∧i≤n∧Pv i σ H,⟨n,by simp,m9 _,h0⟩,?_⟩
rintro i m σ H ⟨rfl,hi,p⟩
by_cases hlt:i<n
·refine .inr ⟨hlt,Pv (i+1),λσ' H' p'=>⟨n-(i+1),by lia,rfl,hlt,p'⟩,λx H' y=>?_⟩;obtain⟨e,y⟩:=y;subst e y;exact hs i σ _ hlt p
have e:i=n:=by lia
subst e
exact .inl ⟨kO _,hd σ H p⟩)
noncomputable abbrev R2:=V→V→Hp→VK→Prop
noncomputable def OpR(X:Cx)(f:Value→Value→Sem Value)(r:R2):Prop:=∀(pins:List (Addr×Obj)) (s:Shared) (σ:St) (H:Hp) (x y:V) (v u:Value) (Q:VK),Inv X pins σ H s→RelV x v→RelV y u→r x y H Q→wpAny (model X.prog X.w) X.A (f v u) (EP X pins σ Q) X.xe s
noncomputable def q1H(X:Cx)(f:Value)(r:List V→Hp→VK→Prop):Prop:=∀(pins:List (Addr×Obj)) (s:Shared) (σ:St) (H:Hp) (xs:List V) (us:List Value) (Q:VK),Inv X pins σ H s→Vals xs us→r xs H Q→wpAny (model X.prog X.w) X.A (call f us) (EP X pins σ Q) X.xe s
noncomputable def tOp(r:R2)(ta tb:TE):TE:=λσ H Q=>ta σ H λx H1=>tb σ H1 λy H2=>r x y H2 Q
noncomputable def rI(C:Int→Int→Prop)(g:Int→Int→V):R2:=λx y H Q=>∃i j,x=.int i∧y=.int j∧C i j∧Q (g i j) H
noncomputable def rI0(g:Int→Int→V):R2:=λx y H Q=>∃i j,x=.int i∧y=.int j∧Q (g i j) H
section
variable{X:Cx}{a b c:Expr}{ta tb tc:TE}{pos:Pos}
theorem binT(ha:PE X a ta)(hb:PE X b tb){pins:List (Addr×Obj)}{s:Shared}{σ:St}{H:Hp}{R:V→V→Hp→Prop}(I:Inv X pins σ H s)
 (h:ta σ H λx H1=>tb σ H1 λy H2=>R x y H2) {Q:Value→Shared→Prop} {f:Value→Value→Sem Value}
 (hf:∀v u s2 x y H2,Inv X pins σ H2 s2→RelV x v→RelV y u→R x y H2→wpAny (model X.prog X.w) X.A (f v u) Q X.xe s2):
 wpAny (model X.prog X.w) X.A (eval a X.env) (λv s₁=>wpAny (model X.prog X.w) X.A (eval b X.env) (λu s₂=>wpAny (model X.prog X.w) X.A (f v u) Q X.xe s₂) X.xe s₁) X.xe s:=by(
refine thn (ha pins s σ H _ I h) λv s1 hZ=>?_
obtain⟨x,H1,I1,r1,q1⟩:=hZ
refine thn (hb pins s1 σ H1 _ I1 q1) λu s2 hZ=>?_
obtain⟨y,H2,I2,r2,q2⟩:=hZ
exact hf v u s2 x y H2 I2 r1 r2 q2)
theorem qQ{op:Operator}{r:R2}(ho:OpR X (binaryOp op) r)(ha:PE X a ta)(hb:PE X b tb):PE X (.BinOp a op b pos) (tOp r ta tb):=by intro pins s σ H Q I h;exact wpAny_BinOp (binT ha hb I h λv u s2 x y H2 I2 rx ry q=>ho pins s2 σ H2 x y v u Q I2 rx ry q)
theorem opI{f:Value→Value→Sem Value}{C:Int→Int→Prop}{g:Int→Int→Int}
 (rule:∀(i j:Int) (t u:Tok) (s:Shared) (Q:Value→Shared→Prop) (E:Value→Shared→Prop),C i j→Q (.int (g i j) s.toks) { s with toks:=s.toks+1 }→wpAny (model X.prog X.w) X.A (f (.int i t) (.int j u)) Q E s):
 OpR X f (rI C λi j=>.int (g i j)):=by(
intro pins s σ H x y v u Q I rx ry h
obtain⟨i,j,rfl,rfl,hc,q⟩:=h
obtain⟨t,rfl⟩:=rx
obtain⟨t',rfl⟩:=ry
exact rule i j t t' s _ _ hc ⟨.int (g i j),H,I.tok _,⟨_,rfl⟩,q⟩)
theorem opI0{f:Value→Value→Sem Value}{g:Int→Int→Int}
 (rule:∀(i j:Int) (t u:Tok) (s:Shared) (Q:Value→Shared→Prop) (E:Value→Shared→Prop),Q (.int (g i j) s.toks) { s with toks:=s.toks+1 }→wpAny (model X.prog X.w) X.A (f (.int i t) (.int j u)) Q E s):
 OpR X f (rI0 λi j=>.int (g i j)):=by(
intro pins s σ H x y v u Q I rx ry h
obtain⟨i,j,rfl,rfl,q⟩:=h
obtain⟨t,rfl⟩:=rx
obtain⟨t',rfl⟩:=ry
exact rule i j t t' s _ _ ⟨.int (g i j),H,I.tok _,⟨_,rfl⟩,q⟩)
theorem opB0{f:Value→Value→Sem Value}{g:Int→Int→Bool}
 (rule:∀(i j:Int) (t u:Tok) (s:Shared) (Q:Value→Shared→Prop) (E:Value→Shared→Prop),Q (.bool (g i j)) s→wpAny (model X.prog X.w) X.A (f (.int i t) (.int j u)) Q E s):
 OpR X f (rI0 λi j=>.bl (g i j)):=by(
intro pins s σ H x y v u Q I rx ry h
obtain⟨i,j,rfl,rfl,q⟩:=h
obtain⟨t,rfl⟩:=rx
obtain⟨t',rfl⟩:=ry
exact rule i j t t' s _ _ ⟨.bl (g i j),H,I,rfl,q⟩)
noncomputable def CDiv(i j:Int):Prop:=0<j∧j<1073741824
noncomputable def CPow(i j:Int):Prop:=0≤j∧j≤1000000∧i.natAbs<2 ^ 64
noncomputable def CMul(i j:Int):Prop:=(-(2 ^ 64)<i∧i<2 ^ 64)∨(-(2 ^ 64)<j∧j<2 ^ 64)
theorem CMul.ok{i j:Int}(h:CMul i j):IntMulOk i j:=by(
rcases h with⟨h1,h2⟩|⟨h1,h2⟩
·exact .of_left (intBits_le_64 h1 h2)
exact .of_right (intBits_le_64 h1 h2))
theorem u8:OpR X (binaryOp .Add) (rI0 λi j=>.int (i+j)):=opI0 λ_ _ _ _ _ _ _ q=>add_int q
theorem vE:OpR X (binaryOp .Sub) (rI0 λi j=>.int (i-j)):=opI0 λ_ _ _ _ _ _ _ q=>sub_int q
theorem uY:OpR X (binaryOp .Mult) (rI CMul λi j=>.int (i*j)):=opI λ_ _ _ _ _ _ _ hc q=>mul_int q hc.ok
theorem uD:OpR X (binaryOp .FloorDiv) (rI CDiv λi j=>.int (i / j)):=opI λi j _ _ _ _ _ hc q=>by have h1:(0:Int)<j:=hc.1;have h2:j<1073741824:=hc.2;exact floordiv_int (by lia) (by rw[sZ i (by lia)];exact q) (.inl (lN (by lia)))
theorem yW:OpR X (binaryOp .Mod) (rI (λ_ j=>0<j) λi j=>.int (i%j)):=opI λi j _ _ _ _ _ hc q=>by have h1:(0:Int)<j:=hc;exact mod_int' (by lia) (by rw[nE i (by lia)];exact q)
theorem qDP:OpR X (binaryOp .Pow) (rI CPow λi j=>.int (i ^ j.toNat)):=opI λ_ _ _ _ _ _ _ hc q=>pow_int_small hc.1 hc.2.1 hc.2.2 q
theorem qIZ:OpR X (binaryOp .LShift) (rI CPow λi j=>.int (i*2 ^ j.toNat)):=opI λ_ _ _ _ _ _ _ hc q=>lshift_int_small hc.1 hc.2.1 hc.2.2 q
theorem qL0:OpR X (binaryOp .BitOr) (rI0 λi j=>.int (Builtin.bitOr i j)):=opI0 λ_ _ _ _ _ _ _ q=>or_int q
end
noncomputable def scal:V→V→Bool
| .non,.non=>true| .non,.int _=>true| .int _,.non=>true| .non,.bl _=>true| .bl _,.non=>true| .non,.str _=>true| .str _,.non=>true
| .int _,.int _=>true| .bl _,.bl _=>true| .str _,.str _=>true| .byt _,.byt _=>true
| .int _,.str _=>true| .str _,.int _=>true| .bl _,.str _=>true| .str _,.bl _=>true
|_,_=>false
noncomputable def rEq:R2:=λx y H Q=>scal x y=true∧Q (.bl (decide (x=y))) H
noncomputable def rNe:R2:=λx y H Q=>scal x y=true∧Q (.bl (!decide (x=y))) H
theorem qBQ{i j:Int}:decide (V.int i=V.int j)=(i==j):=by rw[wZ];simp
theorem qDQ{i j:Bool}:decide (V.bl i=V.bl j)=(i==j):=by rw[wZ];simp
theorem qBR{i j:Str}:decide (V.str i=V.str j)=(i==j):=by rw[wZ];simp
theorem qBS{i j:Array UInt8}:decide (V.byt i=V.byt j)=(i.toList==j.toList):=by(
rw[wZ]
cases i
cases j
simp)
section
variable{X:Cx}{a b c:Expr}{ta tb tc:TE}{pos:Pos}
theorem jK{pins:List (Addr×Obj)}{σ:St}{H:Hp}{s:Shared}{Q:VK}{k k':Bool}(I:Inv X pins σ H s)(q:Q (.bl k) H)(e:k=k'):EP X pins σ Q (.bool k') s:=by subst e;exact⟨.bl k,H,I,rfl,q⟩
theorem u9:OpR X (compareOp .Eq) rEq:=by(
intro pins s σ H x y v u Q I rx ry h
obtain⟨hs,q⟩:=h
cases x with
|non=>
 cases rx;cases y with
 |non=>cases ry;exact PySem.EqNone.eq_none_none (jK I q (by simp))
 |bl j=>cases ry;exact PySem.EqNone.eq_none_bool (jK I q (by simp))
 |int j=>obtain⟨t',rfl⟩:=ry;exact PySem.EqNone.eq_none_int (jK I q (by simp))
 |str j=>obtain⟨t',rfl⟩:=ry;exact PySem.EqNone.eq_none_str (jK I q (by simp))
 |_=>exact absurd (show false=true from hs) kX
|bl i=>
 cases rx;cases y with
 |non=>cases ry;exact PySem.EqNone.eq_bool_none (jK I q (by simp))
 |bl j=>cases ry;exact eq_bool (jK I q qDQ)
 |str j=>obtain⟨t',rfl⟩:=ry;exact bY (jK I q (by simp))
 |_=>exact absurd (show false=true from hs) kX
|int i=>
 obtain⟨t,rfl⟩:=rx;cases y with
 |non=>cases ry;exact PySem.EqNone.eq_int_none (jK I q (by simp))
 |int j=>obtain⟨t',rfl⟩:=ry;exact eq_int (jK I q qBQ)
 |str j=>obtain⟨t',rfl⟩:=ry;exact eA (jK I q (by simp))
 |_=>exact absurd (show false=true from hs) kX
|str i=>
 obtain⟨t,rfl⟩:=rx;cases y with
 |non=>cases ry;exact PySem.EqNone.eq_str_none (jK I q (by simp))
 |bl j=>cases ry;exact bZ (jK I q (by simp))
 |int j=>obtain⟨t',rfl⟩:=ry;exact eC (jK I q (by simp))
 |str j=>obtain⟨t',rfl⟩:=ry;exact eq_str (jK I q qBR)
 |_=>exact absurd (show false=true from hs) kX
|byt i=>
 obtain⟨t,rfl⟩:=rx;cases y with
 |byt j=>obtain⟨t',rfl⟩:=ry;exact PySem.W.eq_bytes (jK I q qBS)
 |_=>exact absurd (show false=true from hs) kX
|_=>cases y<;>exact absurd (show false=true from hs) kX)
theorem q7R:OpR X (compareOp .NotEq) rNe:=by(
intro pins s σ H x y v u Q I rx ry h
obtain⟨hs,q⟩:=h
cases x with
|non=>
 cases rx;cases y with
 |non=>cases ry;exact PySem.EqNone.ne_none_none (jK I q (by simp))
 |bl j=>cases ry;exact PySem.EqNone.ne_none_bool (jK I q (by simp))
 |int j=>obtain⟨t',rfl⟩:=ry;exact PySem.EqNone.ne_none_int (jK I q (by simp))
 |str j=>obtain⟨t',rfl⟩:=ry;exact PySem.EqNone.ne_none_str (jK I q (by simp))
 |_=>exact absurd (show false=true from hs) kX
|bl i=>
 cases rx;cases y with
 |non=>cases ry;exact PySem.EqNone.ne_bool_none (jK I q (by simp))
 |bl j=>cases ry;exact ne_bool (jK I q (dO not qDQ))
 |str j=>obtain⟨t',rfl⟩:=ry;exact b8 (jK I q (by simp))
 |_=>exact absurd (show false=true from hs) kX
|int i=>
 obtain⟨t,rfl⟩:=rx;cases y with
 |non=>cases ry;exact PySem.EqNone.ne_int_none (jK I q (by simp))
 |int j=>obtain⟨t',rfl⟩:=ry;exact ne_int (jK I q (dO not qBQ))
 |str j=>obtain⟨t',rfl⟩:=ry;exact eE (jK I q (by simp))
 |_=>exact absurd (show false=true from hs) kX
|str i=>
 obtain⟨t,rfl⟩:=rx;cases y with
 |non=>cases ry;exact PySem.EqNone.ne_str_none (jK I q (by simp))
 |bl j=>cases ry;exact b9 (jK I q (by simp))
 |int j=>obtain⟨t',rfl⟩:=ry;exact eG (jK I q (by simp))
 |str j=>obtain⟨t',rfl⟩:=ry;exact ne_str (jK I q (dO not qBR))
 |_=>exact absurd (show false=true from hs) kX
|byt i=>
 obtain⟨t,rfl⟩:=rx;cases y with
 |byt j=>obtain⟨t',rfl⟩:=ry;exact PySem.W.ne_bytes (jK I q (dO not qBS))
 |_=>exact absurd (show false=true from hs) kX
|_=>cases y<;>exact absurd (show false=true from hs) kX)
theorem q1O:OpR X (compareOp .Lt) (rI0 λi j=>.bl (decide (i<j))):=opB0 λ_ _ _ _ _ _ _ q=>lt_int q
theorem qBT:OpR X (compareOp .LtE) (rI0 λi j=>.bl (decide (i≤j))):=opB0 λ_ _ _ _ _ _ _ q=>le_int q
theorem qDR:OpR X (compareOp .Gt) (rI0 λi j=>.bl (decide (j<i))):=opB0 λ_ _ _ _ _ _ _ q=>gt_int q
theorem qBU:OpR X (compareOp .GtE) (rI0 λi j=>.bl (decide (j≤i))):=opB0 λ_ _ _ _ _ _ _ q=>ge_int q
theorem q38:OpR X (compareOp .Is) (λx y H Q=>y=.non∧Q (.bl (decide (x=.non))) H):=by(
intro pins s σ H x y v u Q I rx ry h
obtain⟨rfl,q⟩:=h
cases ry
refine is_none_gen (jK I q ?_)
cases x<;>first
 |(cases rx;rfl)
 |(obtain⟨t,rfl⟩:=rx;rfl))
theorem q2N:OpR X (compareOp .IsNot) (λx y H Q=>y=.non∧Q (.bl (!decide (x=.non))) H):=by(
intro pins s σ H x y v u Q I rx ry h
obtain⟨rfl,q⟩:=h
cases ry
refine isnot_none_gen (jK I q ?_)
cases x<;>first
 |(cases rx;rfl)
 |(obtain⟨t,rfl⟩:=rx;rfl))
theorem qP(b:Expr){op:CmpOp}(h:op≠ .In:=by decide)(h2:op≠ .NotIn:=by decide):behindInMarks op b=false:=by(
have e1:(op==CmpOp.In)=false:=by cases op<;>first|rfl|exact absurd rfl h
have e2:(op==CmpOp.NotIn)=false:=by cases op<;>first|rfl|exact absurd rfl h2
cases b<;>simp[behindInMarks,e1,e2])
theorem uM{op:CmpOp}{r:R2}(ho:OpR X (compareOp op) r)(ha:PE X a ta)(hb:PE X b tb)(hm:behindInMarks op b=false):PE X (.Compare a [op] [b] pos) (tOp r ta tb):=by intro pins s σ H Q I h;exact wpAny_Compare1 (binT ha hb I h λv u s2 x y H2 I2 rx ry q=>ho pins s2 σ H2 x y v u Q I2 rx ry q) hm
noncomputable def qDS(t:TE):TT:=λσ H Q=>t σ H λx H'=>∃k,x=.bl k∧Q k H'
theorem qM{op:CmpOp}{r:R2}(ho:OpR X (compareOp op) r)(ha:PE X a ta)(hb:PE X b tb)(hm:behindInMarks op b=false):PT X (.Compare a [op] [b] pos) (qDS (tOp r ta tb)):=by(
intro pins s σ H Q I h
refine xA (thn (ha pins s σ H _ I h) λv s1 ⟨x,H1,I1,r1,q1⟩=>thn (hb pins s1 σ H1 _ I1 q1) λu s2 ⟨y,H2,I2,r2,q2⟩=>thn (ho pins s2 σ H2 x y v u _ I2 r1 r2 q2) λc s3 ⟨z,H3,I3,r3,k,e,q3⟩=>?_) hm
subst e
cases r3
exact g5 ⟨H3,I3,q3⟩)
noncomputable def qDT(r r':R2)(ta tb tc:TE):TE:=λσ H Q=>ta σ H λx H1=>tb σ H1 λy H2=>r x y H2 λz H3=>∃k,z=.bl k∧(if k=true then tc σ H3 λw' H4=>r' y w' H4 Q else Q (.bl false) H3)
theorem qDU{op op':CmpOp}{r r':R2}(ho:OpR X (compareOp op) r)(ho':OpR X (compareOp op') r')(ha:PE X a ta)(hb:PE X b tb)(hc:PE X c tc)
 (hm:lastMarks [op,op'] [b,c]=false:=by with_unfolding_all rfl):PE X (.Compare a [op,op'] [b,c] pos) (qDT r r' ta tb tc):=by(
intro pins s σ H Q I h
refine Compare_chain (thn (ha pins s σ H _ I h) λv s1 ⟨x,H1,I1,r1,q1⟩=>chain_link (thn (hb pins s1 σ H1 _ I1 q1) λu s2 ⟨y,H2,I2,r2,q2⟩=>thn (ho pins s2 σ H2 x y v u _ I2 r1 r2 q2) λd s3 ⟨z,H3,I3,r3,k,e,q3⟩=>?_)) hm
subst e
cases r3
refine g5 ?_
cases k with
|false=>exact ite_ff ⟨.bl false,H3,I3,rfl,q3⟩
|true=>exact ite_tt (chain_last (thn (hc pins s3 σ H3 _ I3 q3) λw' s4 ⟨z',H4,I4,r4,q4⟩=>ho' pins s4 σ H4 y z' u w' Q I4 r2 r4 q4)))
theorem q9K{op op':CmpOp}{r r':R2}(ho:OpR X (compareOp op) r)(ho':OpR X (compareOp op') r')(ha:PE X a ta)(hb:PE X b tb)(hc:PE X c tc)
 (hm:lastMarks [op,op'] [b,c]=false:=by with_unfolding_all rfl):PT X (.Compare a [op,op'] [b,c] pos) (qDS (qDT r r' ta tb tc)):=by(
intro pins s σ H Q I h
refine isTrue_chain (thn (ha pins s σ H _ I h) λv s1 ⟨x,H1,I1,r1,q1⟩=>test_link (thn (hb pins s1 σ H1 _ I1 q1) λu s2 ⟨y,H2,I2,r2,q2⟩=>thn (ho pins s2 σ H2 x y v u _ I2 r1 r2 q2) λd s3 ⟨z,H3,I3,r3,k,e,q3⟩=>?_)) hm
subst e
cases r3
refine g5 ?_
cases k with
|false=>obtain⟨k',e',q'⟩:=q3;cases e';exact ite_ff ⟨H3,I3,q'⟩
|true=>refine ite_tt (test_last (thn (hc pins s3 σ H3 _ I3 q3) λw' s4 ⟨z',H4,I4,r4,q4⟩=>thn (ho' pins s4 σ H4 y z' u w' _ I4 r2 r4 q4) λd' s5 hZ=>?_));obtain⟨z2,H5,I5,r5,k2,e2,q5⟩:=hZ;subst e2;cases r5;exact g5 ⟨H5,I5,q5⟩)
theorem q5Y:(sizeLine:Nat)<2 ^ 63:=by rw[gW];decide
theorem q1I{x:V}{us:List Value}(r:Vals [x] us):∃u,us=[u]∧RelV x u:=by
 cases r with
 |cons r1 r2=>cases r2;exact⟨_,rfl,r1⟩
theorem qBV{x y:V}{us:List Value}(r:Vals [x,y] us):∃u w',us=[u,w']∧RelV x u∧RelV y w':=by(
cases r with
|cons r1 r2=>
 cases r2 with
 |cons r3 r4=>cases r4;exact⟨_,_,rfl,r1,r3⟩)
theorem qD1(hc:X.calm=true):q1H X (.builtin "max") (λxs H Q=>∃i j,xs=[.int i,.int j]∧Q (.int (if j>i then j else i)) H):=by(
intro pins s σ H xs us Q I r h
obtain⟨i,j,rfl,q⟩:=h
obtain⟨u,w',rfl,⟨t,rfl⟩,⟨t',rfl⟩⟩:=qBV r
refine max_two_ints (I.ok.hd hc) λh' tk k=>⟨_,H,I.kept k,?_,q⟩
by_cases hj:j>i
·rw[kL hj,kL hj];exact⟨_,rfl⟩
rw[kJ hj,kJ hj];exact⟨_,rfl⟩)
theorem q7S(hc:X.calm=true):q1H X (.builtin "min") (λxs H Q=>∃i j,xs=[.int i,.int j]∧Q (.int (if j<i then j else i)) H):=by(
intro pins s σ H xs us Q I r h
obtain⟨i,j,rfl,q⟩:=h
obtain⟨u,w',rfl,⟨t,rfl⟩,⟨t',rfl⟩⟩:=qBV r
refine min_two_ints (I.ok.hd hc) λh' tk k=>⟨_,H,I.kept k,?_,q⟩
by_cases hj:j<i
·rw[kL hj,kL hj];exact⟨_,rfl⟩
rw[kJ hj,kJ hj];exact⟨_,rfl⟩)
theorem q9L:q1H X (.builtin "divmod") (λxs H Q=>∃i j,xs=[.int i,.int j]∧CDiv i j∧∀p,H p=none→Q (.ref p) (upd H p (.tup [.int (i / j),.int (i%j)]))):=by(
intro pins s σ H xs us Q I r h
obtain⟨i,j,rfl,⟨h1,h2⟩,q⟩:=h
obtain⟨u,w',rfl,⟨t,rfl⟩,⟨t',rfl⟩⟩:=qBV r
refine divmod_int (by lia) ?_ (.inl (lN (by lia)))
rw[sZ i (by lia),nE i (by lia)]
have hn:H s.heap.objs.size=none:=I.hok.fresh (kO _)
refine⟨.ref s.heap.objs.size,_,?_,rfl,q _ hn⟩
refine I.laid (λb o e=>kF _ e) (kO _) ⟨by simp only[mY,rW];rw[gW];decide,[.int (i / j) s.toks,.int (i%j) (s.toks+1)],.cons ⟨_,rfl⟩ (.cons ⟨_,rfl⟩ .nil),?_⟩
exact⟨_,mR s.heap rfl,rfl,0,rfl⟩)
end
structure ObjM(h:Heap)(x dx C:Addr)(mA:Str→Option Value):Prop where
obj:h.get? x=some (PySem.W.instObj C dx)
ns:h.Ns1 dx mA
ne:dx≠x
theorem q7T{h:Heap}{dx:Addr}{mA:Str→Option Value}(n:h.Ns1 dx mA):∃od,h.get? dx=some od∧∀name,PySem.W.lookIn name od=some (mA name):=by(
obtain⟨o,es,ep,ho,hd,hk,_,hm⟩:=n
refine⟨o,ho,λname=>?_⟩
have e:=hm name
unfold nsFind findBy at e
rw[←Array.find?_toList]at e
unfold PySem.W.lookIn
rw[hd]
dsimp only
split
·rename_i y q;rw[q]at e;exact dO some e
rename_i q
rw[q]at e
have a:es.toList.any (·.refKey)=false:=by rw[List.any_eq_false];intro y hy;obtain⟨z,t,hkey⟩:=hk y (Array.mem_toList_iff.mp hy);simp[DictEntry.refKey,hkey]
have a':¬es.toList.any (·.refKey)=true:=by rw[a];exact kX
rw[kJ a']
exact dO some e)
theorem ObjM.look{h:Heap}{x dx C:Addr}{mA:Str→Option Value}(I:ObjM h x dx C mA):∃od,PySem.W.InstAt h x (PySem.W.instObj C dx) C (some od)∧∀name,PySem.W.lookIn name od=some (mA name):=let⟨od,ho,hl⟩:=q7T I.ns
 ⟨od,⟨I.obj,rfl,rfl,ho⟩,hl⟩
section
variable{prog:Program}{w:World}{A:Around}{E:Value→Shared→Prop}{s:Shared}{K:PySem.W.Frag}{x dx C f:Addr}{mA:Str→Option Value}{name:Str}{v:Value}
theorem qG9{expr:Bool}{Q:Value→Shared→Prop}(X:K.In s.heap)(I:ObjM s.heap x dx C mA)(hg:PySem.W.plainGet K C name=true)(hh:PySem.W.hasDictIn K C=true)
 (ha:PySem.W.findIn K (.ref C) name=some none) (hv:mA name=some v) (hv':PySem.W.handedIn v=true) (h:Q v { s with toks:=s.toks+1 }):
 wpAny (model prog w) A (getAttr (.ref x) name expr) Q E s:=by obtain⟨od,J,hl⟩:=I.look;exact PySem.W.get_value X J (sP hg).1 (PySem.W.findObj_own hh ha rfl (by rw[hl,hv])) hv' h
theorem qDV{pl:Sem Bool}{Q:Value×List Value→Shared→Prop}(X:K.In s.heap)(I:ObjM s.heap x dx C mA)(hg:PySem.W.plainGet K C name=true)
 (hf:PySem.W.findIn K (.ref C) name=some (some (.ref f))) (ht:PySem.W.isFn K (.ref f)=true) (hv:mA name=none) (h:Q (.ref f,[.ref x]) s):
 wpAny (model prog w) A (getMethod (.ref x) name pl) Q E s:=by obtain⟨od,J,hl⟩:=I.look;exact PySem.W.method_fn X J (sP hg).1 (sP hg).2 hf (wC.mp ht) (by show(PySem.W.lookIn name od).map (·.isSome)=some false;rw[hl,hv];rfl) h
theorem qGA{ns:List Str}{Q:Unit→Shared→Prop}(X:K.In s.heap)(I:ObjM s.heap x dx C mA)
 (hs:PySem.W.findIn K (.ref C) "__setattr__"=some (some (.builtin "object.__setattr__"))) (hp:PySem.W.plainOver K C=true) (ht:PySem.W.takerIn K C name=some none) (hh:PySem.W.hasDictIn K C=true)
 (hw:PySem.Within mA ns) (hsz:ns.length≤sizeLine)
 (h:∀h',ObjM h' x dx C (λy=>if y=name then some v else mA y)→Heap.SameBut dx s.heap h'→Q () { s with heap:=h',toks:=s.toks+2 }):
 wpAny (model prog w) A (setAttr (.ref x) name v) Q E s:=by(
obtain⟨od,J,hl⟩:=I.look
refine PySem.W.set_plain X J hs (PySem.W.osa_open (s:={ s with toks:=s.toks+1 }) (r:=none) X J hp ht λb=>?_)
obtain⟨cd,hc,hd'⟩:=pU hh
have hx:s.heap.get? x=some ⟨.ref C,some dx,.plain,#[]⟩:=I.obj
refine hV (kQ (hV (hV (wpAny_loadPart hx (hV (eU (s:={ s with toks:=s.toks+1 }) (PySem.W.looks_clsIn X hc) ?_))))))
rw[hd']
refine kQ (a:=some dx) (hV (kQ (hV ?_)))
refine wpAny_nsSet1 (s:={ s with toks:=s.toks+1 }) I.ns λh' hn2 hs2=>?_
obtain⟨oD,esD,epD,hoD,hdD,hcD⟩:=hn2.count (PySem.Within.cons name v hw)
refine hV (wpAny_lookBehind hoD (by rw[hdD];exact pastItsLine_dict (mO hcD (by rw[mY];lia))) ?_)
exact kQ (h _ ⟨(hs2.2 _ (wS I.ne)).trans I.obj,hn2,I.ne⟩ hs2))
theorem qDW{R:Result→Shared→Prop}{vs:List Value}{kw:List (Str×Value)}(X:K.In s.heap)(hm:PySem.W.makesIn K C=true)
 (hi:PySem.W.findIn K (.ref C) "__init__"=some (some (.ref f))) (hf:PySem.W.typeIn K (.ref f)=some (.type "function"))
 (h:codeAny (model prog w) (A.under (.builtin "type.__call__" ⟨.ref C::vs,kw⟩)) (.call (.ref f) ⟨.ref (s.heap.objs.size+1)::vs,kw⟩) (PySem.W.InitBack (s.heap.objs.size+1) R)
  { s with heap:=(s.heap.push PySem.W.emptyDict).push (PySem.W.instObj C s.heap.objs.size) }):
 codeAny (model prog w) A (.call (.ref C) ⟨vs,kw⟩) R s:=by obtain⟨hh,g,d,t,os⟩:=s;exact aJ (aV X hm) (cM X hi) (λself=>PySem.W.bind_fn X self hf) (.inl rfl) h
end
noncomputable def putF(f:Str)(v:V):List (Str×V)→List (Str×V)
| []=>[(f,v)]
|(g,x)::r=>if g=f then(g,v)::r else(g,x)::putF f v r
theorem q50(f g:Str)(v:V):∀fs:List (Str×V),(putF f v fs).lookup g=if g=f then some v else fs.lookup g
| []=>by
 show List.lookup g [(f,v)]=_;by_cases h:g=f
 ·have hb:(g==f)=true:=wC.mpr h;simp only[List.lookup,hb,kL h]
 have hb:(g==f)=false:=rH.mpr h;simp only[List.lookup,hb,kJ h]
|(k,x)::r=>by
 have ih:=q50 f g v r;rw[show putF f v ((k,x)::r)=(if k=f then(k,v)::r else(k,x)::putF f v r)from rfl];by_cases hk:k=f
 ·rw[kL hk];by_cases h:g=k
  ·have hb:(g==k)=true:=wC.mpr h;simp only[List.lookup,hb,kL (h.trans hk)]
  have hb:(g==k)=false:=rH.mpr h;simp only[List.lookup,hb,kJ (λe:g=f=>h (e.trans hk.symm))]
 rw[kJ hk];by_cases h:g=k
 ·have hb:(g==k)=true:=wC.mpr h;simp only[List.lookup,hb,kJ (λe:g=f=>hk (h.symm.trans e))]
 have hb:(g==k)=false:=rH.mpr h;simp only[List.lookup,hb];exact ih
theorem q4J(f:Str)(v:V):∀fs:List (Str×V),f∈(putF f v fs).map (·.1)∧∀g,g∈fs.map (·.1)→g∈(putF f v fs).map (·.1)
| []=>⟨by simp[putF],λg h=>by simp at h⟩
|(k,x)::r=>by
 obtain⟨i1,i2⟩:=q4J f v r;rw[show putF f v ((k,x)::r)=(if k=f then(k,v)::r else(k,x)::putF f v r)from rfl];by_cases hk:k=f
 ·rw[kL hk];subst hk;exact⟨by simp,λg h=>by simpa using h⟩
 rw[kJ hk];refine⟨?_,λg h=>?_⟩
 ·rw[mQ];exact kB _ i1
 rw[mQ]at h ⊢;rcases kN.mp h with e|e
 ·exact kN.mpr (.inl e)
 exact kB _ (i2 g e)
theorem q51(f:Str)(v:V):∀fs:List (Str×V),(putF f v fs).length≤fs.length+1
| []=>by simp[putF]
|(k,x)::r=>by
 have ih:=q51 f v r;rw[show putF f v ((k,x)::r)=(if k=f then(k,v)::r else(k,x)::putF f v r)from rfl];by_cases hk:k=f
 ·rw[kL hk,mY,mY];lia
 rw[kJ hk,mY,mY];lia
theorem RelO.some_of{v:V}{o:Option Value}(r:RelO (some v) o):∃u,o=some u∧RelV v u:=by(
cases o with
|none=>exact(show False from r).elim
|some u=>exact⟨u,rfl,r⟩)
theorem RelO.none_of{o:Option Value}(r:RelO none o):o=none:=by(
cases o with
|none=>rfl
|some u=>exact(show False from r).elim)
theorem qD2{v:V}{u:Value}(r:RelV v u):PySem.W.handedIn u=true:=by(
cases v with
|non=>cases(show u=Value.none from r);rfl
|bl b=>cases(show u=Value.bool b from r);rfl
|int i=>obtain⟨t,e⟩:=(show ∃t,u=Value.int i t from r);cases e;rfl
|str x=>obtain⟨t,e⟩:=(show ∃t,u=Value.str x t from r);cases e;rfl
|byt b=>obtain⟨t,e⟩:=(show ∃t,u=Value.bytes b t from r);cases e;rfl
|flt b=>obtain⟨t,e⟩:=(show ∃t,u=Value.float b t from r);cases e;rfl
|ref a=>cases(show u=Value.ref a from r);rfl
|ty n=>cases(show u=Value.type n from r);rfl)
section
variable{P:Program}{w:World}{H H':Hp}{h h':Heap}{a C dx:Addr}{fs fs':List (Str×V)}
theorem q5K(hok:HOk P w H h)(e:H a=some (.ins C dx fs)):∃mA,ObjM h a dx C mA∧(∀f,RelO (fs.lookup f) (mA f))∧PySem.Within mA (fs.map (·.1))∧fs.length≤1000∧H dx=some (.own a):=by obtain⟨d,z,ne,ob,mA,n,r,q⟩:=(show jM P w H h a (.ins C dx fs)from hok a _ e);exact⟨mA,⟨ob,n,ne⟩,r,q,z,d⟩
end
structure Cls(K:PySem.W.Frag)(C:Addr):Prop where
pg:PySem.W.plainGet K C Str.empty=true
hd:PySem.W.hasDictIn K C=true
po:PySem.W.plainOver K C=true
sa:PySem.W.findIn K (.ref C) "__setattr__"=some (some (.builtin "object.__setattr__"))
theorem Cls.get{K:PySem.W.Frag}{C:Addr}(c:Cls K C)(f:Str):PySem.W.plainGet K C f=true:=c.pg
noncomputable def qR(K:PySem.W.Frag)(C:Addr)(f:Str):Prop:=PySem.W.findIn K (.ref C) f=some none
theorem qR.taker{K:PySem.W.Frag}{C:Addr}{f:Str}(n:qR K C f):PySem.W.takerIn K C f=some none:=by unfold PySem.W.takerIn;rw[show PySem.W.findIn K (.ref C) f=some none from n];rfl
structure Meth(K:PySem.W.Frag)(C:Addr)(m:Str)(f:Addr):Prop where
at_:PySem.W.findIn K (.ref C) m=some (some (.ref f))
fn:PySem.W.isFn K (.ref f)=true
kp:PySem.W.keepIn K (.ref f)=true
section
variable{X:Cx}{pins:List (Addr×Obj)}{σ:St}{H:Hp}{s:Shared}{a C dx:Addr}{fs:List (Str×V)}{f:Str}{v:V}{A:Around}{E:Value→Shared→Prop}
theorem q5Z{b:Bool}{Q:Value→Shared→Prop}(I:Inv X pins σ H s)(e:H a=some (.ins C dx fs))(c:Cls X.K C)(n:qR X.K C f)(l:fs.lookup f=some v)
 (h:∀u s',Inv X pins σ H s'→RelV v u→Q u s'):wpAny (model X.prog X.w) A (getAttr (.ref a) f b) Q E s:=by obtain⟨mA,O,r,_,_,_⟩:=q5K I.hok e;obtain⟨u,hu,ru⟩:=RelO.some_of (v:=v) (o:=mA f) (by rw[←l];exact r f);exact qG9 I.kIn O (c.get f) c.hd n hu (qD2 ru) (h u _ (I.tok _) ru)
theorem q0Y{m:Str}{g:Addr}{pl:Sem Bool}{Q:Value×List Value→Shared→Prop}(I:Inv X pins σ H s)(e:H a=some (.ins C dx fs))(c:Cls X.K C)(k:Meth X.K C m g)(l:fs.lookup m=none)
 (h:Q (.ref g,[.ref a]) s):wpAny (model X.prog X.w) A (getMethod (.ref a) m pl) Q E s:=by obtain⟨mA,O,r,_,_,_⟩:=q5K I.hok e;have hn:mA m=none:=RelO.none_of (by rw[←l];exact r m);exact qDV I.kIn O (c.get m) k.at_ k.fn hn h
theorem q60{y:V}{u:Value}{Q:Unit→Shared→Prop}(I:Inv X pins σ H s)(e:H a=some (.ins C dx fs))(c:Cls X.K C)(n:qR X.K C f)(hl:fs.length<1000)(ry:RelV y u)
 (h:∀s',Inv X pins σ (upd H a (.ins C dx (putF f y fs))) s'→Q () s'):wpAny (model X.prog X.w) A (setAttr (.ref a) f u) Q E s:=by(
obtain⟨mA,O,r,wi,_,ho⟩:=q5K I.hok e
have hz:(fs.map (·.1)).length≤sizeLine:=by rw[hG,gW];lia
refine qGA I.kIn O c.sa c.po n.taker c.hd wi hz λh' O' sb=>h _ ?_
have hd:∃o,h'.get? dx=some o:=let⟨o,_,_,e',_⟩:=O'.ns;⟨o,e'⟩
refine I.write (x:=a) (e:=dx) (by rw[e];exact True.intro) (.inr ho) (λb q hb z=>(sb.2 b hb).trans z) hd ?_
refine⟨by rw[qC O.ne];exact ho,?_,O.ne,O'.obj,_,O'.ns,λg=>?_,λg hg=>?_⟩
·have:=q51 f y fs;lia
·show RelO ((putF f y fs).lookup g) (if g=f then some u else mA g);rw[q50];by_cases q:g=f
 ·rw[kL q,kL q];exact ry
 rw[kJ q,kJ q];exact r g
by_cases q:g=f
·rw[q];exact(q4J f y fs).1
refine(q4J f y fs).2 g (wi g λz=>hg ?_)
show(if g=f then some u else mA g)=none
rw[kJ q];exact z)
theorem Inv.made(I:Inv X pins σ H s):Inv X pins σ (upd (upd H s.heap.objs.size (.own (s.heap.objs.size+1))) (s.heap.objs.size+1) (.ins C s.heap.objs.size []))
 { s with heap:=(s.heap.push PySem.W.emptyDict).push (PySem.W.instObj C s.heap.objs.size) }:=by(
have e1:(s.heap.push PySem.W.emptyDict).get? s.heap.objs.size=some PySem.W.emptyDict:=mR s.heap rfl
have e2:((s.heap.push PySem.W.emptyDict).push (PySem.W.instObj C s.heap.objs.size)).get? (s.heap.objs.size+1)=some (PySem.W.instObj C s.heap.objs.size):=by have:=mR (s.heap.push PySem.W.emptyDict) (o:=PySem.W.instObj C s.heap.objs.size) rfl;rwa [nG]at this
have e3:(s.heap.push PySem.W.emptyDict).Ns s.heap.objs.size (λ_=>none):=⟨PySem.W.emptyDict,#[],_,e1,rfl,(λe he=>absurd he (by simp)),λ_=>rfl⟩
have I1:=I.laid (a:=s.heap.objs.size) (o:=.own (s.heap.objs.size+1)) (h':=s.heap.push PySem.W.emptyDict) (t':=s.toks) (λb u q=>kF _ q) (kO _) ⟨_,e1⟩
refine I1.laid (a:=s.heap.objs.size+1) (o:=.ins C s.heap.objs.size []) (t':=s.toks) (λb u q=>kF _ q) (pH (nG _ _)) ?_
have ne:s.heap.objs.size≠s.heap.objs.size+1:=mZ (d3 _)
refine⟨by rw[qC ne,qI],m9 _,ne,e2,λ_=>none,(Heap.Ns1.of_empty e3).at λo q=>kF _ q,λ_=>True.intro,λy hy=>absurd rfl hy⟩)
theorem qGB{prog:Program}{w:World}{env:Env}{e:Expr}{f:Str}{pos:Pos}{s:Shared}{Q:Value→Shared→Prop}(hb:attributeBase e f env (eval e env)=eval e env)
 (h:wpAny (model prog w) A (eval e env) (λo s₁=>wpAny (model prog w) A (getAttr o f true) Q E s₁) E s):wpAny (model prog w) A (eval (.Attribute e f pos) env) Q E s:=Attribute_any_ h (by rw[arm_eval_Attribute,hb])
end
noncomputable def tFld(K:PySem.W.Frag)(ta:TE)(f:Str):TE:=λσ H Q=>ta σ H λx H1=>∃a C dx fs v,x=.ref a∧H1 a=some (.ins C dx fs)∧Cls K C∧qR K C f∧fs.lookup f=some v∧Q v H1
noncomputable def sFld(K:PySem.W.Frag)(ta tv:TE)(f:Str):TS:=λD σ H=>tv σ H λy H1=>ta σ H1 λx H2=>∃a C dx fs,x=.ref a∧H2 a=some (.ins C dx fs)∧Cls K C∧qR K C f∧fs.length<1000∧D.nx σ (upd H2 a (.ins C dx (putF f y fs)))
noncomputable def InOp(X:Cx)(op:Operator)(rd:V→V→Hp→VK→Prop):Prop:=∀(pins:List (Addr×Obj)) (s:Shared) (σ:St) (H:Hp) (x y:V) (u v:Value) (Q:VK),Inv X pins σ H s→RelV x u→RelV y v→rd x y H Q→wpAny (model X.prog X.w) X.A (inplaceOp op u v) (EP X pins σ Q) X.xe s
noncomputable def qGC(K:PySem.W.Frag)(ta tv:TE)(rd:V→V→Hp→VK→Prop)(f:Str):TS:=λD σ H=>ta σ H λx H1=>∃a C dx fs v,x=.ref a∧H1 a=some (.ins C dx fs)∧Cls K C∧qR K C f∧fs.lookup f=some v∧tv σ H1 λy H2=>rd v y H2 λz H3=>∃dx' fs',H3 a=some (.ins C dx' fs')∧fs'.length<1000∧D.nx σ (upd H3 a (.ins C dx' (putF f z fs')))
section
variable{X:Cx}{o e value:Expr}{f:Str}{pos pos' tpos:Pos}{ta tv:TE}
theorem qJ(he:PE X e ta)(hb:attributeBase e f X.env (eval e X.env)=eval e X.env):PE X (.Attribute e f pos) (tFld X.K ta f):=by(
intro pins s σ H Q I h
refine qGB hb (thn (he pins s σ H _ I h) λu s1 hZ=>?_)
obtain⟨x,H1,I1,rx,a,C,dx,fs,v,ex,ea,c,n,l,q⟩:=hZ
subst ex
obtain rfl:u=Value.ref a:=rx
exact q5Z I1 ea c n l λu' s2 I2 ru=>⟨v,H1,I2,ru,q⟩)
theorem jO(ha:PE X o ta)(hv:PE X value tv)(hs:swapsWith value (some (.Attribute o f pos')) pos.line X.env=pure false):PS X (.Assign [.Attribute o f pos'] value pos) (sFld X.K ta tv f):=by(
intro pins s σ H D I h
refine plainObj_wpAny_Assign_Attribute (thn (hv pins s σ H _ I h) λu s1 ⟨y,H1,I1,ry,q⟩=>thn (ha pins s1 σ H1 _ I1 q) λov s2 hZ=>?_) hs
obtain⟨x,H2,I2,rx,a,C,dx,fs,ex,ea,c,n,l,q2⟩:=hZ
subst ex
obtain rfl:ov=Value.ref a:=rx
exact q60 I2 ea c n l ry λs3 I3=>⟨σ,_,I3,q2⟩)
theorem q7U{op:Operator}{rd:V→V→Hp→VK→Prop}(ha:PE X o ta)(hv:PE X value tv)(hop:InOp X op rd):PS X (.AugAssign (.Attribute o f tpos) op value pos) (qGC X.K ta tv rd f):=by(
intro pins s σ H D I h
refine wpAny_AugAssign_AttributeAny (thn (ha pins s σ H _ I h) λov s1 hZ=>?_)
obtain⟨x,H1,I1,rx,a,C,dx,fs,v,ex,ea,c,n,l,q⟩:=hZ
subst ex
obtain rfl:ov=Value.ref a:=rx
refine q5Z I1 ea c n l λu s2 I2 ru=>thn (hv pins s2 σ H1 _ I2 q) λw3 s3 ⟨y,H2,I3,ry,q3⟩=>thn (hop pins s3 σ H2 v y u w3 _ I3 ru ry q3) λw4 s4 hZ=>?_
obtain⟨z,H3,I4,rz,dx',fs',ea',l',q4⟩:=hZ
exact q60 I4 ea' c n l' rz λs5 I5=>⟨σ,_,I5,q4⟩)
noncomputable def rAdd:V→V→Hp→VK→Prop:=λx y H Q=>∃i j,x=.int i∧y=.int j∧Q (.int (i+j)) H
noncomputable def rSub:V→V→Hp→VK→Prop:=λx y H Q=>∃i j,x=.int i∧y=.int j∧Q (.int (i-j)) H
theorem qJ0:InOp X .Add rAdd:=by(
rintro pins s σ H x y u v Q I rx ry ⟨i,j,rfl,rfl,q⟩
obtain⟨t,rfl⟩:=(show ∃t,u=Value.int i t from rx)
obtain⟨t',rfl⟩:=(show ∃t',v=Value.int j t' from ry)
exact PyProof.Rows.iadd_int ⟨.int (i+j),H,I.tok _,⟨_,rfl⟩,q⟩)
theorem qJ1:InOp X .Sub rSub:=by(
rintro pins s σ H x y u v Q I rx ry ⟨i,j,rfl,rfl,q⟩
obtain⟨t,rfl⟩:=(show ∃t,u=Value.int i t from rx)
obtain⟨t',rfl⟩:=(show ∃t',v=Value.int j t' from ry)
exact PyProof.Rows.isub_int ⟨.int (i-j),H,I.tok _,⟨_,rfl⟩,q⟩)
end
section
variable{X:Cx}{pins:List (Addr×Obj)}{σ:St}{H:Hp}{s:Shared}{A:Around}{E:Value→Shared→Prop}{Q:Value→Shared→Prop}{c:Value}{b:Bool}
inductive TyOf(K:PySem.W.Frag)(H:Hp):V→Value→Prop where
|non:TyOf K H .non (.type "NoneType")
|bl (x:Bool):TyOf K H (.bl x) (.type "bool")
|int (i:Int):TyOf K H (.int i) (.type "int")
|str (x:Str):TyOf K H (.str x) (.type "str")
|flt (x:UInt64):TyOf K H (.flt x) (.type "float")
|lst {a:Addr} {xs:List V} (e:H a=some (.lst xs)):TyOf K H (.ref a) (.type "list")
|frz {a:Addr} {o:Obj} {xs:List V} (e:H a=some (.frz o (.lst xs))):TyOf K H (.ref a) (.type "list")
|tup {a:Addr} {xs:List V} (e:H a=some (.tup xs)):TyOf K H (.ref a) (.type "tuple")
|dK {a:Addr} {kvs:List (Key×V)} (e:H a=some (.dK kvs)):TyOf K H (.ref a) (.type "dict")
|dT {a:Addr} {kvs:List (List Key×V)} (e:H a=some (.dT kvs)):TyOf K H (.ref a) (.type "dict")
|ins {a C dx:Addr} {fs:List (Str×V)} (e:H a=some (.ins C dx fs)) (cl:Cls K C) (ha:PySem.W.findIn K (.ref C) "__class__"=some (some (.builtin "object.__class__")))
 (hn:PySem.W.specialIn K (.builtin "object.__class__") "__get__"=some (some (.builtin "getset_descriptor.__get__"))) (htk:PySem.W.takesIn K (.builtin "object.__class__")=some true)
 (hm:PySem.W.mroIn K C (.type "object")=some true):TyOf K H (.ref a) (.ref C)
theorem qD3{x:V}{u t:Value}(I:Inv X pins σ H s)(rx:RelV x u)(ty:TyOf X.K H x t)(e:PySem.W.kitOne X.K t c=some b)(h:∀tk,Q (.bool b) { s with toks:=tk }):
 wpAny (model X.prog X.w) A (call (.builtin "isinstance") [u,c]) Q E s:=by(
cases ty with
|non=>cases(show u=Value.none from rx);exact g8 PySem.W.kitx_none I.kIn True.intro e (λz=>nomatch z) h
|bl y=>cases(show u=Value.bool y from rx);exact g8 PySem.W.kitx_bool I.kIn True.intro e (λz=>nomatch z) h
|int i=>obtain⟨t,q⟩:=(show ∃t,u=Value.int i t from rx);cases q;exact g8 PySem.W.kitx_int I.kIn True.intro e (λz=>nomatch z) h
|str y=>obtain⟨t,q⟩:=(show ∃t,u=Value.str y t from rx);cases q;exact g8 PySem.W.kitx_str I.kIn True.intro e (λz=>nomatch z) h
|flt y=>obtain⟨t,q⟩:=(show ∃t,u=Value.float y t from rx);cases q;exact g8 PySem.W.kitx_float I.kIn True.intro e (λz=>nomatch z) h
|@lst a xs ea=>cases(show u=Value.ref a from rx);obtain⟨_,_,n,_,h1⟩:=(show jM X.prog X.w H s.heap a (.lst xs)from I.hok a _ ea);exact g8 aK I.kIn ⟨_,h1,rfl⟩ e (λz=>nomatch z) h
|@frz a ob xs ea=>cases(show u=Value.ref a from rx);obtain⟨_,_,_,n,_,h1⟩:=(show jM X.prog X.w H s.heap a (.frz ob (.lst xs))from I.hok a _ ea);exact g8 aK I.kIn ⟨_,h1,rfl⟩ e (λz=>nomatch z) h
|@tup a xs ea=>cases(show u=Value.ref a from rx);obtain⟨_,_,_,p⟩:=(show jM X.prog X.w H s.heap a (.tup xs)from I.hok a _ ea);obtain⟨o,h1,h2,_⟩:=p;exact g8 PySem.W.kitx_tuple I.kIn ⟨o,h1,h2⟩ e (λz=>nomatch z) h
|@dK a kvs ea=>cases(show u=Value.ref a from rx);obtain⟨_,_,vs,_,p⟩:=(show jM X.prog X.w H s.heap a (.dK kvs)from I.hok a _ ea);obtain⟨o,es,ep,h1,h2,_⟩:=p;exact g8 aL I.kIn ⟨o,h1,h2.1⟩ e (λz=>nomatch z) h
|@dT a kvs ea=>cases(show u=Value.ref a from rx);obtain⟨_,_,xs,_,o,es,ep,h1,h2,_⟩:=(show jM X.prog X.w H s.heap a (.dT kvs)from I.hok a _ ea);exact g8 aL I.kIn ⟨o,h1,h2.1⟩ e (λz=>nomatch z) h
|@ins a C dx fs ea cl ha hn htk hm=>cases(show u=Value.ref a from rx);obtain⟨mA,O,_⟩:=q5K I.hok ea;obtain⟨od,J,_⟩:=O.look;exact g8 (PySem.W.kitx_own (cl.get _) cl.hd ha hn htk hm) I.kIn J e (λz=>nomatch z) h)
end
structure Room(k:Nat)(A:Around):Prop where
hd:A.handled=none
dp:A.depth+3*k+5<recursionLimit
un:A.units+16*k+200<cLine
theorem Room.mono{j k:Nat}{A:Around}(r:Room k A)(h:j≤k):Room j A:=⟨r.hd,by have:=r.dp;lia,by have:=r.un;lia⟩
theorem Room.deeper{k:Nat}{A:Around}(r:Room (k+1) A)(env:Env):Room k (A.deeper env):=⟨r.hd,by have:=r.dp;show A.depth+1+3*k+5< _;lia,by have:=r.un;show A.units+3+16*k+200< _;lia⟩
theorem Room.in1{k:Nat}{A:Around}(r:Room (k+1) A):Room k A.in1:=⟨r.hd,by have:=r.dp;show A.depth+3*k+5< _;lia,by have:=r.un;show A.units+1+16*k+200< _;lia⟩
theorem qAR{A:Around}{C:Addr}{us:List Value}{kw:List (Str×Value)}:(A.under (.builtin "type.__call__" ⟨.ref C::us,kw⟩)).depth=A.depth+1:=by first|rfl|simp[Around.under,Code.weight,Code.isCreation,Code.isGuard,Code.isCaller,Code.frames,Code.isFrame,guardIds]
theorem qAS{A:Around}{C:Addr}{us:List Value}{kw:List (Str×Value)}:(A.under (.builtin "type.__call__" ⟨.ref C::us,kw⟩)).units=A.units+1:=by first|rfl|simp[Around.under,Code.cUnits,Code.frames,Code.isFrame]
theorem Room.make{k:Nat}{A:Around}(r:Room (k+1) A)(C:Addr)(us:List Value)(kw:List (Str×Value)):Room k (A.under (.builtin "type.__call__" ⟨.ref C::us,kw⟩)):=⟨r.hd,by have:=r.dp;rw[qAR];lia,by have:=r.un;rw[qAS];lia⟩
theorem Room.depth{k:Nat}{A:Around}(r:Room k A):A.depth<recursionLimit:=by have:=r.dp;lia
theorem Room.units{k:Nat}{A:Around}(r:Room k A):A.units+64<cLine:=by have:=r.un;lia
noncomputable def tNil:TA:=λ_ H Q=>Q [] H
noncomputable def q61(ta:TE)(tr:TA):TA:=λσ H Q=>ta σ H λx H1=>tr σ H1 λxs H2=>Q (x::xs) H2
section
variable{X:Cx}{e:Expr}{es:List Expr}{te:TE}{t:TA}{pos:Pos}
theorem qE:PA X [] tNil:=λ_ _ _ _ H Q I h=>pJ ⟨[],H,I,.nil,h⟩
theorem qA(ha:PE X e te)(hr:PA X es t)(hs:starEach (e::es) X.env=(false,eval e X.env)::starEach es X.env:=by rfl):PA X (e::es) (q61 te t):=by(
intro pos pins s σ H Q I h
rw[hs]
show wpAny _ _ (spliced ((false,eval e X.env)::backTo pos (starEach es X.env))) _ _ s
refine rQ (thn (ha pins s σ H _ I h) λu s1 hZ=>?_)
obtain⟨x,H1,I1,r1,q1⟩:=hZ
exact thn (hr pos pins s1 σ H1 _ I1 q1) λus s2 ⟨xs,H2,I2,r2,q2⟩=>⟨x::xs,H2,I2,.cons r1 r2,q2⟩)
end
noncomputable abbrev Sp:=List V→Hp→VK→XK→Prop
noncomputable abbrev CXT:=List Env→Hp→Shared→XK→Value→Shared→Prop
structure Env0(P:Program)(w:World)(K:PySem.W.Frag)(mg:Str→Option Value)(base:Heap)(A:Around)(outer:List Env)(s:Shared)(H:Hp):Prop where
frames:A.frames=some outer
mod:Mod K mg base
bs:∀b o,base.get? b=some o→s.heap.get? b=some o∧H b=none
bsz:base.objs.size≤s.heap.objs.size
funs:s.heap.FunFrames base outer
frf:∀b∈frs outer,H b=none
hok:HOk P w H s.heap
bare:AllBare s.gens
noncomputable def CE(outer:List Env)(P:Program)(w:World)(H:Hp)(s:Shared)(Q:VK)(u:Value)(s':Shared):Prop:=∃v H',s'.os=s.os∧AllBare s'.gens∧Un (frs outer) [] H H' s.heap s'.heap∧HOk P w H' s'.heap∧RelV v u∧Q v H'
noncomputable def CR(CX:CXT)(outer:List Env)(P:Program)(w:World)(H:Hp)(s:Shared)(Q:VK)(E:XK)(r:Result)(s':Shared):Prop:=match r with
| .ok (.ret u)=>CE outer P w H s Q u s'
| .ok _=>False
| .error e=>CX outer H s E e s'
structure FnOk(P:Program)(w:World)(K:PySem.W.Frag)(mg:Str→Option Value)(base:Heap)(CX:CXT)(k:Nat)(f:Addr)(fd:FuncData)(ps:List Str)(sp:Sp):Prop where
len:∀vs H Q E,sp vs H Q E→vs.length=ps.length
run:∀(A:Around) (outer:List Env) (s:Shared) (H:Hp) (args:Args) (us:List Value) (vs:List V) (Q:VK) (E:XK),Room k A→Env0 P w K mg base A outer s H→BindsTo s fd args (ps.zip us)→Vals vs us→sp vs H Q E→codeAny (model P w) A (.call (.ref f) args) (CR CX outer P w H s Q E) s
theorem FnOk.mono{P:Program}{w:World}{K:PySem.W.Frag}{mg:Str→Option Value}{base:Heap}{CX:CXT}{j k:Nat}{f:Addr}{fd:FuncData}{ps:List Str}{sp:Sp}(F:FnOk P w K mg base CX j f fd ps sp)(h:j≤k:=by decide):
 FnOk P w K mg base CX k f fd ps sp:=⟨F.len,λA outer s H args us vs Q E hr=>F.run A outer s H args us vs Q E (hr.mono h)⟩
theorem Env0.make{P:Program}{w:World}{K:PySem.W.Frag}{mg:Str→Option Value}{base:Heap}{A:Around}{outer:List Env}{s:Shared}{H:Hp}(e:Env0 P w K mg base A outer s H)(C:Addr)(us:List Value)(kw:List (Str×Value)):
 Env0 P w K mg base (A.under (.builtin "type.__call__" ⟨.ref C::us,kw⟩)) outer s H:=⟨by first|exact e.frames|(simpa[Around.under,Code.envs,Code.isFrame,pushEnvs]using e.frames),e.mod,e.bs,e.bsz,e.funs,e.frf,e.hok,e.bare⟩
section
variable{X:Cx}{pins:List (Addr×Obj)}{σ:St}{H:Hp}{s s':Shared}
theorem Inv.env0(I:Inv X pins σ H s):Env0 X.prog X.w X.K X.mg X.base X.A X.stack s H:=⟨I.ok.frames,I.ok.mod,I.bs,mO I.ok.bsz I.sz,I.stack,I.stkFree,I.hok,I.bare⟩
theorem Inv.after{Q:VK}{u:Value}(I:Inv X pins σ H s)(h:CE X.stack X.prog X.w H s Q u s'):EP X pins σ Q u s':=by(
obtain⟨v,H',os,bare,un,hok,r,q⟩:=h
obtain⟨hh,g,d,t,os'⟩:=s'
obtain rfl:os'=s.os:=os
exact⟨v,H',I.call (h':=hh) (g':=g) (d':=d) (t':=t) (ch:=[]) un hok bare (λb z=>absurd z (by simp)),r,q⟩)
end
noncomputable def qI9(sp:Sp)(dvs:List V)(E:XK)(t:TA):TE:=λσ H Q=>t σ H λvs H1=>sp (vs++dvs) H1 Q E
noncomputable def qIA(C:Addr)(m:Str)(sp:Sp)(dvs:List V)(E:XK)(ta:TE)(t:TA):TE:=λσ H Q=>ta σ H λx H1=>∃a dx fs,x=.ref a∧H1 a=some (.ins C dx fs)∧fs.lookup m=none∧t σ H1 λvs H2=>sp (x::(vs++dvs)) H2 Q E
noncomputable def qL1(C:Addr)(sp:Sp)(dvs:List V)(E:XK)(t:TA):TE:=λσ H Q=>t σ H λvs H1=>∀x dx,H1 x=none→H1 dx=none→dx≠x→sp (.ref x::(vs++dvs)) (upd (upd H1 dx (.own x)) x (.ins C dx [])) (λv H2=>v=.non∧Q (.ref x) H2) E
noncomputable def jY(K:PySem.W.Frag)(fd:FuncData)(ps:List Str)(ds:List Value):Prop:=∀(s:Shared) (us:List Value),K.In s.heap→(us++ds).length=ps.length→BindsTo s fd ⟨us,[]⟩ (ps.zip (us++ds))
theorem jY.all{K:PySem.W.Frag}{fd:FuncData}{ps:List Str}(h:∀us:List Value,us.length=ps.length→bindArgs fd ⟨us,[]⟩=pure (ps.zip us)):jY K fd ps []:=λs us _ hl=>by rw[gU]at hl ⊢;exact .of_eq (h us hl)
noncomputable def q0Z(CX:CXT)(X:Cx)(E:XK):Prop:=∀(pins:List (Addr×Obj)) (σ:St) (H:Hp) (s:Shared) (e:Value) (s':Shared),Inv X pins σ H s→CX X.stack H s E e s'→X.xe e s'
section
variable{X:Cx}{CX:CXT}{k:Nat}{f C:Addr}{fd:FuncData}{ps:List Str}{sp:Sp}{dvs:List V}{ds:List Value}{E:XK}{x m:Str}{p pos apos:Pos}{e o:Expr}{es:List Expr}{ta:TE}{t:TA}
theorem q8G{pins:List (Addr×Obj)}{σ:St}{H:Hp}{s:Shared}{Q:VK}{us:List Value}{vs:List V}(F:FnOk X.prog X.w X.K X.mg X.base CX k f fd ps sp)(hr:Room k X.A)(hb:jY X.K fd ps ds)(hd:Vals dvs ds)(hx:q0Z CX X E)
 (I:Inv X pins σ H s) (r:Vals vs us) (h:sp (vs++dvs) H Q E):wpAny (model X.prog X.w) X.A (call (.ref f) us) (EP X pins σ Q) X.xe s:=by(
have r2:Vals (vs++dvs) (us++ds):=r.append hd
have hl:(us++ds).length=ps.length:=by rw[←r2.length];exact F.len _ _ _ _ h
refine c8 (pK (F.run X.A X.stack s H ⟨us,[]⟩ (us++ds) (vs++dvs) Q E hr I.env0 (hb s us I.kIn hl) r2 h) λr s' hq=>?_)
cases r with
|error e=>exact hx pins σ H s e s' I hq
|ok fl=>
 cases fl with
 |ret u=>exact I.after hq
 |next=>exact False.elim hq
 |brk=>exact False.elim hq
 |cont=>exact False.elim hq)
theorem qX(F:FnOk X.prog X.w X.K X.mg X.base CX k f fd ps sp)(hr:Room k X.A)(hg:Gl X x)(hm:X.mg x=some (.ref f))(hk:PySem.W.keepIn X.K (.ref f)=true)(hb:jY X.K fd ps ds)(hd:Vals dvs ds)(hx:q0Z CX X E)
 (ha:PA X (e::es) t) (hdb:(x==("__debug__":Str))=false:=by decide) (he:starEach (e::es) X.env=(false,eval e X.env)::starEach es X.env:=by rfl) (hpl:(backTo pos (starEach es X.env)).any (·.1)=false:=by rfl):
 PE X (.Call (.Name x p) (e::es) [] pos) (qI9 sp dvs E t):=by(
intro pins s σ H Q I h
refine dJ (q2M I hg hm ?_ hdb)
refine wU (h₀:=X.base) I.ok.mod.kin hk (thn (ha pos pins s σ H _ I h) λus s1 ⟨vs,H1,I1,r,q⟩=>⟨I1.kIn,?_⟩) he hpl
exact q8G F hr hb hd hx I1 r q)
theorem jG{pl:Sem Bool}(he:PE X o ta)(c:Cls X.K C)(hm:Meth X.K C m f)(F:FnOk X.prog X.w X.K X.mg X.base CX k f fd ps sp)(hr:Room k X.A)(hb:jY X.K fd ps ds)(hd:Vals dvs ds)(hx:q0Z CX X E)(ha:PA X (e::es) t)
 (hst:starEach (e::es) X.env=(false,eval e X.env)::starEach es X.env:=by rfl) (hpl:(backTo pos (starEach es X.env)).any (·.1)=false:=by rfl)
 (ht:eval (.Call (.Attribute o m apos) (e::es) [] pos) X.env=(do
  let ov←eval o X.env
  standAt apos.atName
  let(f,first)←holding [ov] (getMethod ov m pl)
  callWith pos f first (backTo pos (starEach (e::es) X.env)) (backToKw pos (keywordEach [] X.env))):=by rfl):
 PE X (.Call (.Attribute o m apos) (e::es) [] pos) (qIA C m sp dvs E ta t):=by(
intro pins s σ H Q I h
refine rR (pl:=pl) (thn (he pins s σ H _ I h) λu s1 hZ=>?_) ht
obtain⟨x,H1,I1,rx,a,dx,fs,ex,ea,l,q⟩:=hZ
subst ex
obtain rfl:u=Value.ref a:=rx
refine q0Y I1 ea c hm l ?_
refine wU (first:=[.ref a]) (h₀:=X.base) I.ok.mod.kin hm.kp (thn (ha pos pins s1 σ H1 _ I1 q) λus s2 ⟨vs,H2,I2,r,q2⟩=>⟨I2.kIn,?_⟩) hst hpl
exact q8G (us:=.ref a::us) (vs:=.ref a::vs) F hr hb hd hx I2 (.cons rfl r) q2)
theorem j0{pl:Sem Bool}(he:PE X o ta)(c:Cls X.K C)(hm:Meth X.K C m f)(F:FnOk X.prog X.w X.K X.mg X.base CX k f fd ps sp)(hr:Room k X.A)(hb:jY X.K fd ps ds)(hd:Vals dvs ds)(hx:q0Z CX X E)
 (ht:eval (.Call (.Attribute o m apos) [] [] pos) X.env=(do
  let ov←eval o X.env
  standAt apos.atName
  let(f,first)←holding [ov] (getMethod ov m pl)
  callWith pos f first (backTo pos (starEach [] X.env)) (backToKw pos (keywordEach [] X.env))):=by rfl):
 PE X (.Call (.Attribute o m apos) [] [] pos) (qIA C m sp dvs E ta tNil):=by(
intro pins s σ H Q I h
refine rR (pl:=pl) (thn (he pins s σ H _ I h) λu s1 hZ=>?_) ht
obtain⟨x,H1,I1,rx,a,dx,fs,ex,ea,l,q⟩:=hZ
subst ex
obtain rfl:u=Value.ref a:=rx
refine q0Y I1 ea c hm l ?_
exact sQ (first:=[.ref a]) I1.kIn hm.kp (q8G (us:=[.ref a]) (vs:=[.ref a]) F hr hb hd hx I1 (.cons rfl .nil) q))
structure Mk(K:PySem.W.Frag)(C f:Addr):Prop where
makes:PySem.W.makesIn K C=true
init:PySem.W.findIn K (.ref C) "__init__"=some (some (.ref f))
fn:PySem.W.isFn K (.ref f)=true
kp:PySem.W.keepIn K (.ref C)=true
theorem qDX{pins:List (Addr×Obj)}{σ:St}{H:Hp}{s:Shared}{Q:VK}{us:List Value}{vs:List V}(M:Mk X.K C f)(F:FnOk X.prog X.w X.K X.mg X.base CX k f fd ps sp)(hr:Room (k+1) X.A)(hb:jY X.K fd ps ds)(hd:Vals dvs ds)
 (hx:q0Z CX X E) (I:Inv X pins σ H s) (r:Vals vs us)
 (h:∀x dx,H x=none→H dx=none→dx≠x→sp (.ref x::(vs++dvs)) (upd (upd H dx (.own x)) x (.ins C dx [])) (λv H2=>v=.non∧Q (.ref x) H2) E):
 wpAny (model X.prog X.w) X.A (call (.ref C) us) (EP X pins σ Q) X.xe s:=by(
have hq:=h (s.heap.objs.size+1) s.heap.objs.size (I.hok.fresh (dL _)) (I.hok.fresh (kO _)) (mZ (d3 _))
have I2:=Inv.made (C:=C) I
have r2:Vals (V.ref (s.heap.objs.size+1)::(vs++dvs)) (Value.ref (s.heap.objs.size+1)::(us++ds)):=.cons rfl (r.append hd)
have hl:(Value.ref (s.heap.objs.size+1)::us++ds).length=ps.length:=by have e:=r2.length;rw[F.len _ _ _ _ hq]at e;exact e.symm
refine c8 (qDW (f:=f) I.kIn M.makes M.init (wC.mp M.fn) (pK (F.run _ X.stack _ _ ⟨Value.ref (s.heap.objs.size+1)::us,[]⟩ (Value.ref (s.heap.objs.size+1)::(us++ds)) _ _ E (hr.make C us [])
 (I2.env0.make C us []) (hb _ (Value.ref (s.heap.objs.size+1)::us) I2.kIn hl) r2 hq) λr s' hq'=>?_))
cases r with
|error e=>exact hx pins σ _ _ e s' I2 hq'
|ok fl=>
 cases fl with
 |ret u=>obtain⟨v,H',I3,rv,ev,q3⟩:=I2.after hq';subst ev;exact⟨rv,⟨V.ref (s.heap.objs.size+1),H',I3,rfl,q3⟩⟩
 |next=>exact False.elim hq'
 |brk=>exact False.elim hq'
 |cont=>exact False.elim hq')
theorem q5L(M:Mk X.K C f)(F:FnOk X.prog X.w X.K X.mg X.base CX k f fd ps sp)(hr:Room (k+1) X.A)(hg:Gl X x)(hm:X.mg x=some (.ref C))(hb:jY X.K fd ps ds)(hd:Vals dvs ds)(hx:q0Z CX X E)
 (ha:PA X (e::es) t) (hdb:(x==("__debug__":Str))=false:=by decide) (he:starEach (e::es) X.env=(false,eval e X.env)::starEach es X.env:=by rfl) (hpl:(backTo pos (starEach es X.env)).any (·.1)=false:=by rfl):
 PE X (.Call (.Name x p) (e::es) [] pos) (qL1 C sp dvs E t):=by(
intro pins s σ H Q I h
refine dJ (q2M I hg hm ?_ hdb)
refine wU (h₀:=X.base) I.ok.mod.kin M.kp (thn (ha pos pins s σ H _ I h) λus s1 ⟨vs,H1,I1,r,q⟩=>⟨I1.kIn,?_⟩) he hpl
exact qDX M F hr hb hd hx I1 r q)
end
noncomputable def PK(X:Cx)(kws:List Keyword)(t:TA):Prop:=∀(pos:Pos) (pins:List (Addr×Obj)) (s:Shared) (σ:St) (H:Hp) (Q:List V→Hp→Prop),Inv X pins σ H s→t σ H Q→wpAny (model X.prog X.w) X.A (evalAll ((backToKw pos (keywordEach kws X.env)).map (·.2))) (AP X pins σ Q) X.xe s
section
variable{X:Cx}{CX:CXT}{k:Nat}{f C:Addr}{fd:FuncData}{ps ks:List Str}{sp:Sp}{E:XK}{x m:Str}{p pos apos kpos:Pos}{e o:Expr}{es:List Expr}{kws:List Keyword}{te ta:TE}{t tk:TA}{nm:Option Str}
theorem qAT:PK X [] tNil:=λ_ _ _ _ H Q I h=>wpAny_evalAll_nil ⟨[],H,I,.nil,h⟩
theorem q8H(ha:PE X e te)(hr:PK X kws t):PK X (⟨nm,e,kpos⟩::kws) (q61 te t):=by(
intro pos pins s σ H Q I h
show wpAny _ _ (evalAll ((do let v←eval e X.env;standAt pos;pure v)::(backToKw pos (keywordEach kws X.env)).map (·.2))) _ _ s
refine wpAny_evalAll_cons (hV (thn (ha pins s σ H _ I h) λu s1 ⟨x,H1,I1,r1,q1⟩=>hV (nU (kQ ?_))))
exact thn (hr pos pins s1 σ H1 _ I1 q1) λus s2 ⟨xs,H2,I2,r2,q2⟩=>⟨x::xs,H2,I2,.cons r1 r2,q2⟩)
variable{g:List Value→List Value→List Value}{gV:List V→List V→List V}
end
structure FnScope(N P:List Str)(sc:Scope):Prop where
kind:sc.kind=.function
co:sc.isCoroutine=false
gen:sc.isGenerator=false
nd:N.Nodup
pre:N.take P.length=P
par:∀x∈P,sc.names.lookup x=some .local∨sc.names.lookup x=some .cell
nofree:∀y∈sc.names,y.2≠ .free
theorem q7V{kindOf:Str→Option NameKind}{x:Str}:∀{binds:List (Str×Value)} {m:Str→Option Value},(∀v,(x,v)∉binds)→bindL kindOf binds m x=m x
| [],_,_=>rfl
|(n,v)::r,m,h=>by
 unfold bindL;rw[q7V λw hw=>h w (kB _ hw)];split
 ·have:x≠n:=by rintro rfl;exact h v kY
  simp[this]
 rfl
theorem q7W{kindOf:Str→Option NameKind}{x:Str}:∀{binds:List (Str×Value)} {m:Str→Option Value},(∀v,(x,v)∉binds)→bindC kindOf binds m x=m x
| [],_,_=>rfl
|(n,v)::r,m,h=>by
 unfold bindC;rw[q7W λw hw=>h w (kB _ hw)];split
 ·rfl
 have:x≠n:=by rintro rfl;exact h v kY
 simp[this]
theorem q7X{kindOf:Str→Option NameKind}{x:Str}{v:Value}:∀{P:List Str} {vs:List Value} {i:Nat} {m:Str→Option Value},P.Nodup→P[i]?=some x→vs[i]?=some v→kindOf x=some .local→bindL kindOf (P.zip vs) m x=some v
| [],_,_,_,_,h,_,_=>by simp at h
|_::_,[],_,_,_,_,h,_=>by simp at h
|p::P,w::vs,0,m,nd,h1,h2,hk=>by simp at h1 h2;subst h1;subst h2;show bindL kindOf ((p,w)::P.zip vs) m p=_;unfold bindL;rw[q7V λv hv=>(gD.mp nd).1 (sJ hv).1,kL hk];simp
|p::P,w::vs,i+1,m,nd,h1,h2,hk=>by show bindL kindOf ((p,w)::P.zip vs) m x=_;unfold bindL;exact q7X (i:=i) (gD.mp nd).2 (by simpa using h1) (by simpa using h2) hk
theorem q7Y{kindOf:Str→Option NameKind}{x:Str}{v:Value}:∀{P:List Str} {vs:List Value} {i:Nat} {m:Str→Option Value},P.Nodup→P[i]?=some x→vs[i]?=some v→kindOf x≠some .local→bindC kindOf (P.zip vs) m x=some v
| [],_,_,_,_,h,_,_=>by simp at h
|_::_,[],_,_,_,_,h,_=>by simp at h
|p::P,w::vs,0,m,nd,h1,h2,hk=>by simp at h1 h2;subst h1;subst h2;show bindC kindOf ((p,w)::P.zip vs) m p=_;unfold bindC;rw[q7W λv hv=>(gD.mp nd).1 (sJ hv).1,kJ hk];simp
|p::P,w::vs,i+1,m,nd,h1,h2,hk=>by show bindC kindOf ((p,w)::P.zip vs) m x=_;unfold bindC;exact q7Y (i:=i) (gD.mp nd).2 (by simpa using h1) (by simpa using h2) hk
noncomputable def zU(N:List Str)(vs:List V):St:=vs.map some++List.replicate (N.length-vs.length) none
noncomputable def cxOf(CX:CXT)(P:Program)(w:World)(K:PySem.W.Frag)(mg:Str→Option Value)(base:Heap)(N:List Str)(qual:Str)(scope:Scope)(f:Addr)(cd:Value)(A:Around)(outer:List Env)(s:Shared)(H:Hp)(E:XK):Cx where
prog:=P
w:=w
K:=K
mg:=mg
base:=base
A:=A.deeper (envOfC qual scope s.heap.objs.size f cd)
N:=N
s₀:=s
H₀:=H
env:=envOfC qual scope s.heap.objs.size f cd
outer:=outer
stack:=envOfC qual scope s.heap.objs.size f cd::outer
ex:=[]
calm:=true
fn:=λ_=>true
pn:=[]
xe:=λe s'=>wpAny (model P w) (A.deeper (envOfC qual scope s.heap.objs.size f cd)) (leaving (envOfC qual scope s.heap.objs.size f cd) e) (λ_ s''=>CX outer H s E e s'') (λe' s''=>CX outer H s E e' s'') s'
theorem q9M{sc:Scope}{n:Nat}{x:Str}(h:sc.names.lookup x=some .cell):∃c,(cellsFrom n sc.names []).lookup x=some c:=by have q:=pL sc.names n [] (.inl h);exact cX.mp q
theorem q7Z{CX:CXT}{P:Program}{w:World}{K:PySem.W.Frag}{mg:Str→Option Value}{base:Heap}{N ps:List Str}{qual:Str}{scope:Scope}{f:Addr}{cd:Value}{A:Around}{outer:List Env}{s s1:Shared}{H:Hp}{E:XK}{us:List Value}{vs:List V}
 (S:FnScope N ps scope) (hd:A.handled=none) (e0:Env0 P w K mg base A outer s H) (hl:vs.length=ps.length) (r:Vals vs us)
 (x:InCallC s s.heap.objs.size (bindL (envOfC qual scope s.heap.objs.size f cd).kindOf (ps.zip us) λ_=>none) (cellsFrom (s.heap.objs.size+1) scope.names []) (bindC (envOfC qual scope s.heap.objs.size f cd).kindOf (ps.zip us) λ_=>none) s1):
 Inv (cxOf CX P w K mg base N qual scope f cd A outer s H E) [] (zU N vs) H s1:=by(
have hpl:ps.length≤N.length:=by have:=dO List.length S.pre;rw[gE]at this;lia
obtain⟨h1,tk,rfl,hk⟩:=x.done
have noA:∀b:Addr,b∉(cxOf CX P w K mg base N qual scope f cd A outer s H E).ex:=λb z=>absurd (show b∈([]:List Addr)from z) (by simp)
refine⟨⟨e0.mod,S.kind,rfl,rfl,kO _,λy z c h1 h2=>?_,λy hy=>?_,λy c _ h=>?_,λ_=>hd,xH e0.frames,.inr ⟨rfl,rfl⟩,λb z=>absurd z (noA b),e0.bs,e0.bsz,λb _ _=>noA b,λb z=>absurd z (noA b),e0.funs,e0.frf⟩,rfl,e0.bare,Un.kept hk,⟨_,x.toInCall.ns,λi y v h1 h2 h3=>?_⟩,λy c h=>⟨_,x.cell y c h⟩,e0.hok.fresh (kO _),λy c h=>?_,λp hp=>absurd (show p∈([]:List (Addr×Obj))from hp) (by simp),e0.hok.kept hk,?_⟩
·exact name_of_addr x.apart (gY h1) (gY h2)
·have hy:scope.names.lookup y=some .cell∨scope.names.lookup y=some .free:=hy;rcases hy with hy|hy
 ·exact q9M hy
 exact absurd rfl (S.nofree _ (gY hy))
·exact sU (x.above y c (gY h))
·have hi:i<vs.length:=by
  unfold zU at h2;by_cases hi:i<vs.length
  ·exact hi
  rw[dP (by simpa using hi)]at h2;rw[wK]at h2;split at h2<;>cases h2
 have ha:vs[i]?=some v:=by
  unfold zU at h2;rw[rT (by simpa using hi),mD]at h2;cases e:vs[i]? with
  |none=>rw[e]at h2;cases h2
  |some a=>rw[e]at h2;cases h2;rfl
 obtain⟨u,hu,rv⟩:=r.get ha;have hp:ps[i]?=some y:=by rw[←S.pre,List.getElem?_take_of_lt (by lia)];exact h1
 have ndP:ps.Nodup:=by rw[←S.pre];exact S.nd.sublist (List.take_sublist _ _)
 refine⟨u,rv,?_⟩;rcases S.par y (gP hp)with k|k
 ·exact .inl ⟨k,q7X ndP hp hu k⟩
 obtain⟨c,e⟩:=q9M (n:=s.heap.objs.size+1) k;refine .inr ⟨.inl k,c,e,?_⟩;have q:=x.cell y c e;rw[q7Y ndP hp hu (by show scope.names.lookup y≠_;rw[k];decide)]at q;exact q
·exact e0.hok.fresh (sU (x.above y c (gY h)))
unfold zU
show _=N.length
rw[mL,hG,gK]
lia)
theorem qBW{CX:CXT}{P:Program}{w:World}{K:PySem.W.Frag}{mg:Str→Option Value}{base:Heap}{k:Nat}{f:Addr}{name qual:Str}{params:Arguments}{body:List Stmt}{scope:Scope}{dV kV doc pm cdv ct oc:Value}{an od:Option Addr}
 {osl:Array (Option Value)} {N ps:List Str} {sp:Sp} (lk:K.lookup f=some ⟨oc,od,.func (PySem.W.fnOf name qual params body scope dV kV doc pm an cdv ct),osl⟩) (hcd:PySem.W.codeIn K cdv qual=true) (S:FnScope N ps scope)
 (len:∀vs H Q E,sp vs H Q E→vs.length=ps.length)
 (hbody:∀(A:Around) (outer:List Env) (s:Shared) (H:Hp) (vs:List V) (Q:VK) (E:XK),Room k (A.deeper (envOfC qual scope s.heap.objs.size f cdv))→sp vs H Q E→∃t,PSs (cxOf CX P w K mg base N qual scope f cdv A outer s H E) body t∧t { nx:=λ_ H'=>Q .non H',rt:=Q } (zU N vs) H):
 FnOk P w K mg base CX (k+1) f (PySem.W.fnOf name qual params body scope dV kV doc pm an cdv ct) ps sp:=by(
refine⟨len,λA outer s H args us vs Q E hr e0 hb r hsp=>?_⟩
have hl:=len _ _ _ _ hsp
have KX:K.In s.heap:=e0.mod.kin.keeps λb o e=>(e0.bs b o e).1
have lim:s.heap.NoLimit:=e0.mod.nolimit.keeps λb o e=>(e0.bs b o e).1
have hkind:∀y∈ps.zip us,scope.names.lookup y.1=some .local∨(scope.names.lookup y.1=some .cell∧((cellsFrom (s.heap.objs.size+1) scope.names []).lookup y.1).isSome=true):=λ⟨n,v⟩ hy=>by
 rcases S.par n (sJ hy).1 with q|q
 ·exact .inl q
 exact .inr ⟨q,pL _ _ _ (.inl q)⟩
refine codeAny_call_function hr.depth (KX _ _ lk) rfl S.co S.gen rfl (PySem.W.codeRec_of KX hcd) (hb _ _ _ _ ?_)
refine nH S.kind hkind λenv he s1 x=>?_
subst he
refine⟨lim.keeps x.toInCall.keep,codeAny_func ?_⟩
obtain⟨t,ht,hq⟩:=hbody A outer s H vs Q E (hr.deeper _) hsp
have I:Inv (cxOf CX P w K mg base N qual scope f cdv A outer s H E) [] (zU N vs) H s1:=q7Z S hr.hd e0 hl r x
refine dB (ht [] s1 (zU N vs) H _ I hq) (λfl s' hs=>?_) λe s' hs=>hs
have fin:∀{σ':St} {H':Hp} {v:V} {u:Value},Inv (cxOf CX P w K mg base N qual scope f cdv A outer s H E) [] σ' H' s'→RelV v u→Q v H'→CE outer P w H s Q u s':=fun {σ' H' v u} J rv q=>⟨v,H',J.os,J.bare,J.base,J.hok,rv,q⟩
cases fl with
|ret u=>obtain⟨v,σ',H',J,rv,q⟩:=hs;exact fin J rv q
|next=>obtain⟨σ',H',J,q⟩:=hs;exact fin (v:=V.non) (u:=Value.none) J rfl q
|brk=>obtain⟨_,_,_,q⟩:=hs;exact False.elim q
|cont=>obtain⟨_,_,_,q⟩:=hs;exact False.elim q)
section
variable{X:Cx}{x:Str}{p pos:Pos}{e:Expr}{es:List Expr}{t:TA}{id T:String}{r:List V→Hp→VK→Prop}
noncomputable def tCB(r:List V→Hp→VK→Prop)(t:TA):TE:=λσ H Q=>t σ H λvs H1=>r vs H1 Q
theorem jA(hc:q1H X (.builtin id) r)(hg:Gl X x)(hm:X.mg x=none)(hv:bootBuiltins x=some (.builtin id))(ha:PA X (e::es) t)(hn:x≠"__name__":=by decide)(hdb:(x==("__debug__":Str))=false:=by decide)
 (he:starEach (e::es) X.env=(false,eval e X.env)::starEach es X.env:=by rfl) (hpl:(backTo pos (starEach es X.env)).any (·.1)=false:=by rfl):PE X (.Call (.Name x p) (e::es) [] pos) (tCB r t):=by intro pins s σ H Q I h;refine dJ (q1N I hg hm hv ?_ hn hdb);exact PyProof.Rows.callWith_builtin1 (thn (ha pos pins s σ H _ I h) λus s1 ⟨vs,H1,I1,r1,q1⟩=>hc pins s1 σ H1 vs us Q I1 r1 q1) he hpl
theorem q4K(hc:q1H X (.type T) r)(hg:Gl X x)(hm:X.mg x=none)(hv:bootBuiltins x=some (.type T))(ha:PA X (e::es) t)(hn:x≠"__name__":=by decide)(hdb:(x==("__debug__":Str))=false:=by decide)
 (he:starEach (e::es) X.env=(false,eval e X.env)::starEach es X.env:=by rfl) (hpl:(backTo pos (starEach es X.env)).any (·.1)=false:=by rfl):PE X (.Call (.Name x p) (e::es) [] pos) (tCB r t):=by intro pins s σ H Q I h;refine dJ (q1N I hg hm hv ?_ hn hdb);exact cH (thn (ha pos pins s σ H _ I h) λus s1 ⟨vs,H1,I1,r1,q1⟩=>hc pins s1 σ H1 vs us Q I1 r1 q1) he hpl
end
end L2
namespace HT
open PySem PyProof.Rows
noncomputable def lexLt:List Int→List Int→Bool
| [],[]=>false
| [],_::_=>true
|_::_,[]=>false
|x::xs,y::ys=>if x=y then lexLt xs ys else decide (x<y)
theorem qAU(x y:Int)(xs ys:List Int):lexLt (x::xs) (y::ys)=if x=y then lexLt xs ys else decide (x<y):=rfl
theorem q76:lexLt [] []=false:=rfl
theorem q62(y:Int)(ys:List Int):lexLt [] (y::ys)=true:=rfl
theorem q63(x:Int)(xs:List Int):lexLt (x::xs) []=false:=rfl
theorem qDY(A:Around)(s:Shared)(a:Int)(t:Tok)(c:Int)(u:Tok):∃e,SeqAt.EqAt A s (.int a t) (.int c u) e∧(e=true↔a=c):=⟨(a==c),nI a t c u,by simp⟩
theorem qDZ(A:Around)(s:Shared)(a:Int)(t:Tok)(c:Int)(u:Tok)(prog:Program)(w:World)(E:Value→Shared→Prop)(Q:Value→Shared→Prop)(h:Q (.bool (decide (a<c))) s):
 wpAny (model prog w) A (richCompare .Lt (.int a t) (.int c u)) Q E s:=(PyProof.Rows.lt_int h:wpAny (model prog w) A (compareOp .Lt (.int a t) (.int c u)) Q E s)
section
open PySem.SeqAt
open PySem.AutoSeq1 (wpAny_loadPart')
open PySem.MeetsSeq PySem.MeetsSeq2 PySem.MeetsSeq3
theorem q77(l b:Addr)(items items2:Array Value)(n n2:Nat)(dd dd2:Option Addr)(sl sl2:Array (Option Value))(ns ms:List Int)(hi:IntsAre items.toList ns)(hj:IntsAre items2.toList ms):
 Meets (Builtin.«tuple.__lt__» ⟨[.ref l,.ref b],[]⟩)
  (λ_ R s=>s.heap.get? l=some { cls:=.type "tuple",dict:=dd,data:=.seq items n,slots:=sl }∧s.heap.get? b=some { cls:=.type "tuple",dict:=dd2,data:=.seq items2 n2,slots:=sl2 }∧R (.ok (.ret (.bool (lexLt ns ms)))) s):=.of_wp λprog w A R s h=>by(
 obtain⟨hp,g,d,tk,os⟩:=s;obtain⟨hl,hb,h⟩:=h;have f2:=AutoSeq1.sub_tuple_tuple;have z1:items.size=ns.length:=by rw[←hi.length];simp
 have z2:items2.size=ms.length:=by rw[←hj.length];simp
 wp_walk using lZ hl,lZ hb,wpAny_forIn_list _ (λrest b s'=>b.1=none∧s'=⟨hp,g,d,tk,os⟩∧∃(vs ws:List Value) (ns' ms':List Int),rest=vs.zip ws∧IntsAre vs ns'∧IntsAre ws ms'∧ns'.length+items2.size=ms'.length+items.size∧R (.ok (.ret (.bool (lexLt ns' ms')))) ⟨hp,g,d,tk,os⟩) _
 case turn=>
  rintro⟨y,x⟩ rest b s' ⟨hb',rfl,vs,ws,ns',ms',hz,hvi,hwi,hlen,hR⟩
  cases hvi with
  |nil=>rw[List.zip_nil_left]at hz;cases hz
  |cons a t hvi'=>
   cases hwi with
   |nil=>rw[List.zip_nil_right]at hz;cases hz
   |cons c u hwi'=>
    rw[x6]at hz;injection hz with hyx hrest
    injection hyx with hy hx
    subst hy hx;rw[qAU]at hR;simp only[mY]at hlen;obtain⟨e,he,hiff⟩:=qDY A.in1 ⟨hp,g,d,tk,os⟩ a t c u;refine hV (he prog w _ _ ?_);cases e with
    |true=>
     rw[kL (hiff.mp rfl)]at hR;wp_walk
     exact⟨rfl,rfl,_,_,_,_,hrest,hvi',hwi',by lia,hR⟩
    |false=>
     rw[kJ (λq=>absurd (hiff.mpr q) kX)]at hR;have hri:=qDZ A.in1 ⟨hp,g,d,tk,os⟩ a t c u prog w;wp_walk using hri
     exact⟨_,rfl,by simpa using hR⟩
 case fin=>
  rintro⟨b1,b2⟩ s' ⟨hb',rfl,vs,ws,ns',ms',hz,hvi,hwi,hlen,hR⟩
  simp only at hb';subst hb';have hv:lexLt ns' ms'=decide (items.size<items2.size):=by
   cases hvi with
   |nil=>
    cases hwi with
    |nil=>simp only[rW]at hlen;rw[q76];exact(hU (by lia)).symm
    |cons c u hw=>simp only[rW,mY]at hlen;rw[q62];exact(hC (by lia)).symm
   |cons a t hv=>
    cases hwi with
    |nil=>simp only[rW,mY]at hlen;rw[q63];exact(hU (by lia)).symm
    |cons c u hw=>rw[x6]at hz;cases hz
  rw[hv]at hR;wp_walk
  exact⟨_,rfl,by simpa[Builtin.Tuple.tupleCompareSizes]using hR⟩
 case h=>exact⟨rfl,rfl,items.toList,items2.toList,ns,ms,rfl,hi,hj,by lia,h⟩)
end
section
variable{prog:Program}{w:World}{A:Around}{E:Value→Shared→Prop}{s:Shared}
theorem lt_tupInts{l b:Addr}{items items2:Array Value}{ns ms:List Int}{Q:Value→Shared→Prop}(hl:IsTup s.heap l items)(hb:IsTup s.heap b items2)(hi:IntsAre items.toList ns)(hj:IntsAre items2.toList ms)
 (hu:A.units<cLine) (h:Q (.bool (lexLt ns ms)) s):wpAny (model prog w) A (compareOp .Lt (.ref l) (.ref b)) Q E s:=by(
obtain⟨⟨cls,dd,data,sl⟩,ho,hc,n,hd⟩:=id hl
obtain⟨⟨cls2,dd2,data2,sl2⟩,ho2,hc2,n2,hd2⟩:=id hb
simp only at hc hd hc2 hd2
subst hc hd hc2 hd2
exact richCompare_meets_room (op:=.Lt) ⟨_,ho,rfl⟩ ⟨_,ho2,rfl⟩ PySem.F.slot_tuple_lt PySem.F.entry_tuple_lt (PySem.F.args_tuple_lt_2 _ _) (q77 l b items items2 n n2 dd dd2 sl sl2 ns ms hi hj)
 ⟨ho,ho2,show Value.bool (lexLt ns ms)≠Value.notImplemented∧Q (.bool (lexLt ns ms)) s from⟨(λx=>nomatch x),h⟩⟩ hu)
noncomputable def sIx(n d:Nat):Option Int→Nat
|none=>d
|some v=>if v<0 then(v+(n:Int)).toNat else min v.toNat n
theorem qJ2(n d:Nat)(hd:d≤n)(o:Option Int):sIx n d o≤n:=by(
cases o with
|none=>exact hd
|some v=>
 show(if v<0 then(v+(n:Int)).toNat else min v.toNat n)≤n;by_cases hv:v<0
 ·rw[kL hv];lia
 rw[kJ hv];exact Nat.min_le_right _ _)
theorem qBX(v:Int)(n d:Nat):(if v<0 then max (v+(n:Int)) 0 else min v (n:Int))=((sIx n d (some v):Nat):Int):=by(
show(if v<0 then max (v+(n:Int)) 0 else min v (n:Int))=(((if v<0 then(v+(n:Int)).toNat else min v.toNat n):Nat):Int)
by_cases hv:v<0
·simp only[kL hv];lia
simp only[kJ hv];lia)
theorem qAV(lo hi:Option Int)(n:Nat):Builtin.Slice.sliceAdjust lo hi 1 (n:Int)=(((sIx n 0 lo:Nat):Int),((sIx n n hi:Nat):Int)):=by(
have h1:¬((1:Int)<0):=by lia
unfold Builtin.Slice.sliceAdjust
simp only[h1,if_false]
refine Prod.ext ?_ ?_
·cases lo with
 |none=>rfl
 |some v=>exact qBX v n 0
cases hi with
|none=>rfl
|some v=>exact qBX v n n)
theorem qAW(i j:Nat):Builtin.Slice.slicePlaces (i:Int) (j:Int) 1=j-i:=by(
unfold Builtin.Slice.slicePlaces
have h1:(1:Int)>0:=by lia
simp only[h1,if_true,Int.ediv_one]
split<;>lia)
theorem q64{v:Value}{o:Option Int}{Q:Option Int→Shared→Prop}(p:IsPart v o)(h:Q o s):wpAny (model prog w) A (Builtin.Slice.slicePartIndex v) Q E s:=by(
cases p with
|none=>exact slicePart_none h
|int i t=>exact slicePart_int h)
theorem q4L{sl:Addr}{vl vu:Value}{lo hi:Option Int}{n:Nat}{Q:Int×Int×Nat→Shared→Prop}(hs:s.heap.IsSliceOf sl vl vu .none)(pl:IsPart vl lo)(pu:IsPart vu hi)
 (h:Q (((sIx n 0 lo:Nat):Int),1,sIx n n hi-sIx n 0 lo) s):wpAny (model prog w) A (Builtin.Slice.sliceApplied (.ref sl) (pure (n:Int))) Q E s:=by(
obtain⟨os,hos,hcs,hds⟩:=id hs
unfold Builtin.Slice.sliceApplied Builtin.Slice.sliceFields
refine hV (hV (cN hos hds (x:=vl) rfl (hV (cN hos hds (x:=vu) rfl (hV (cN hos hds (x:=.none) rfl (kQ ?_)))))))
refine hV (slicePart_none ?_)
show wpAny _ _ (if((1:Int)==0)=true then _ else _) _ _ s
rw[kJ (by decide)]
refine hV (q64 pl (hV (q64 pu (hV (kQ ?_)))))
show wpAny _ _ (match Builtin.Slice.sliceAdjust lo hi 1 (n:Int)with|(lo,hi)=>pure (lo,(1:Int),Builtin.Slice.slicePlaces lo hi 1)) _ _ s
rw[qAV lo hi n]
show wpAny _ _ (pure (((sIx n 0 lo:Nat):Int),(1:Int),Builtin.Slice.slicePlaces ((sIx n 0 lo:Nat):Int) ((sIx n n hi:Nat):Int) 1)) _ _ s
rw[qAW]
exact kQ h)
theorem qE0(xs:Array Value)(i k:Nat):((List.range k).filterMap λ(m:Nat)=>xs[((i:Int)+(m:Int)*1).toNat]?).toArray=((xs.toList.drop i).take k).toArray:=by(
have e:(λ(m:Nat)=>xs[((i:Int)+(m:Int)*1).toNat]?)=λm=>xs[i+m]?:=by
 funext m;have:((i:Int)+(m:Int)*1).toNat=i+m:=by lia
 rw[this]
rw[e]
have:=pick_run xs i k
rw[List.filterMap_map]at this
have e2:((λx=>xs[x]?) ∘ λx=>i+x)=λm=>xs[i+m]?:=rfl
rw[e2]at this
rw[this])
theorem getItem_tuple_cut{t sl:Addr}{items:Array Value}{vl vu:Value}{lo hi:Option Int}{Q:Value→Shared→Prop}(ht:IsTup s.heap t items)(hs:s.heap.IsSliceOf sl vl vu .none)(pl:IsPart vl lo)(pu:IsPart vu hi)
 (hw:¬(sIx items.size 0 lo=0∧sIx items.size items.size hi=items.size))
 (h:Q (.ref s.heap.objs.size) { s with heap:=s.heap.push { cls:=.type "tuple",data:=.seq ((items.toList.drop (sIx items.size 0 lo)).take (sIx items.size items.size hi-sIx items.size 0 lo)).toArray } })
 (hsz:items.size≤sizeLine):wpAny (model prog w) A (getItem (.ref t) (.ref sl)) Q E s:=by(
have htake:sizeOk (.seq ((items.toList.drop (sIx items.size 0 lo)).take (sIx items.size items.size hi-sIx items.size 0 lo)).toArray):=by show((items.toList.drop (sIx items.size 0 lo)).take (sIx items.size items.size hi-sIx items.size 0 lo)).toArray.size≤sizeLine;rw[mI,gE,nZ,mW];lia
have hj:sIx items.size items.size hi≤items.size:=qJ2 _ _ (kO _) hi
obtain⟨os,hos,hcs,hds⟩:=id hs
have hTs:s.TypeIs (.ref sl) "slice":=⟨os,hos,hcs⟩
unfold getItem
try with_reducible refine gT ?_
first|refine hV (kQ ?_)|skip
refine hV (wpAny_sequenceKey ht.typeIs (by decide) ?_)
refine hV (wpAny_callSpecial?_slot (name:=Str.ofString "__getitem__") ht.typeIs wH
 (pV wH ht.typeIs entry_tuple_getitem ?_ (args_tuple_getitem _ _)))
show wpAny _ _ (Builtin.Tuple.tupleItemsOf (.ref t) >>= _) _ _ s
refine hV (tupleItemsOf_ ht ?_)
refine hV (wpAny_typeOf hTs ?_)
rw[kL (by decide)]
refine hV (q4L hs pl pu ?_)
have hno:¬((((sIx items.size 0 lo:Nat):Int)==0&&(1:Int)==1&&(sIx items.size items.size hi-sIx items.size 0 lo)==items.size)=true):=by intro q;rw[m8,m8]at q;have q1:((sIx items.size 0 lo:Nat):Int)=0:=eq_of_beq q.1.1;have q2:sIx items.size items.size hi-sIx items.size 0 lo=items.size:=eq_of_beq q.2;exact hw ⟨by lia,by lia⟩
show wpAny _ _ (if(((sIx items.size 0 lo:Nat):Int)==0&&(1:Int)==1&&(sIx items.size items.size hi-sIx items.size 0 lo)==items.size)=true then _ else _) _ _ s
rw[kJ hno,qE0]
first
 |exact hV (m:=Builtin.Tuple.tupleExact _) (rY (kQ ⟨_,rfl,kQ h⟩) htake)
 |exact hV (m:=Builtin.Tuple.tupleExact _) (rY (hV (kQ (kQ ⟨_,rfl,kQ h⟩))) htake)
 |exact hV (hV (m:=Builtin.Tuple.tupleExact _) (rY (kQ (kQ ⟨_,rfl,kQ h⟩)) htake))
 |exact hV (hV (m:=Builtin.Tuple.tupleExact _) (rY (kQ ⟨_,rfl,kQ h⟩) htake)))
end
end HT
namespace L2
open PySem PySem.Spec PyProof.Rows
noncomputable abbrev TO:=St→Hp→(Option Int→Hp→Prop)→Prop
noncomputable def PO(X:Cx)(e:Option Expr)(t:TO):Prop:=∀(pins:List (Addr×Obj)) (s:Shared) (σ:St) (H:Hp) (Q:Option Int→Hp→Prop),Inv X pins σ H s→t σ H Q→wpAny (model X.prog X.w) X.A (evalPart e X.env) (λu s'=>∃o H',Inv X pins σ H' s'∧IsPart u o∧Q o H') X.xe s
noncomputable def qGD:TO:=λ_ H Q=>Q none H
noncomputable def qL2(t:TE):TO:=λσ H Q=>t σ H λx H1=>∃i,x=.int i∧Q (some i) H1
section
variable{X:Cx}{e:Expr}{te:TE}{lo hi:Option Expr}{tl th:TO}{pos p2:Pos}
theorem qGE:PO X none qGD:=by intro pins s σ H Q I h;rw[evalPart_none];exact kQ ⟨none,H,I,.none,h⟩
theorem qGF(h:PE X e te):PO X (some e) (qL2 te):=by(
intro pins s σ H Q I hw
rw[evalPart_some]
refine thn (h pins s σ H _ I hw) λu s1 hZ=>?_
obtain⟨x,H1,I1,r1,q1⟩:=hZ
obtain⟨i,rfl,q⟩:=q1
obtain⟨t,rfl⟩:=r1
exact⟨some i,H1,I1,.int i t,q⟩)
noncomputable def SlR(X:Cx)(r:V→Option Int→Option Int→Hp→VK→Prop):Prop:=∀(pins:List (Addr×Obj)) (s:Shared) (σ:St) (H:Hp) (x:V) (v vl vu:Value) (lo hi:Option Int) (sl:Addr) (Q:VK),Inv X pins σ H s→RelV x v→s.heap.IsSliceOf sl vl vu .none→IsPart vl lo→IsPart vu hi→r x lo hi H Q→∃T id,typeLookup (.type T) "__getitem__"=pure (some (.builtin id))∧s.TypeIs v T∧wpAny (model X.prog X.w) X.A (getItem v (.ref sl)) (EP X pins σ Q) X.xe s
noncomputable def tSl(r:V→Option Int→Option Int→Hp→VK→Prop)(te:TE)(tl th:TO):TE:=λσ H Q=>te σ H λx H1=>tl σ H1 λl H2=>th σ H2 λu H3=>r x l u H3 Q
theorem qE1{r:V→Option Int→Option Int→Hp→VK→Prop}(hr:SlR X r)(he:PE X e te)(hl:PO X lo tl)(hu:PO X hi th):PE X (.Subscript e (.Slice lo hi none p2) pos) (tSl r te tl th):=by(
intro pins s σ H Q I h
refine bO (thn (he pins s σ H _ I h) λv s1 hZ=>?_)
obtain⟨x,H1,I1,r1,q1⟩:=hZ
refine wpAny_Slice (thn (hl pins s1 σ H1 _ I1 q1) λvl s2 ⟨l,H2,I2,pl,q2⟩=>thn (hu pins s2 σ H2 _ I2 q2) λvu s3 hZ=>?_)
obtain⟨u,H3,I3,pu,q3⟩:=hZ
rw[evalPart_none]
refine kQ ?_
have I4:Inv X pins σ H3 { s3 with heap:=s3.heap.push { cls:=.type "slice",data:=.fields #[vl,vu,.none] } }:=I3.kept (t':=s3.toks) λb ob q=>kF _ q
obtain⟨T,id,hT,ht,hg⟩:=hr pins { s3 with heap:=s3.heap.push { cls:=.type "slice",data:=.fields #[vl,vu,.none] } } σ H3 x v vl vu l u s3.heap.objs.size Q I4 r1 (eW ..) pl pu q3
show wpAny (model X.prog X.w) X.A (subscriptTail e (.Slice lo hi none p2) v (.ref s3.heap.objs.size)) (EP X pins σ Q) X.xe { s3 with heap:=s3.heap.push { cls:=.type "slice",data:=.fields #[vl,vu,.none] } }
exact tail_any (ops:=[.ref s3.heap.objs.size,v]) ht hT hg (by with_unfolding_all rfl))
noncomputable def cutV(xs:List V)(lo hi:Option Int):List V:=(xs.drop (HT.sIx xs.length 0 lo)).take (HT.sIx xs.length xs.length hi-HT.sIx xs.length 0 lo)
theorem q9N(xs:List V)(lo hi:Option Int):(cutV xs lo hi).length≤xs.length:=by unfold cutV;rw[gE,nZ];lia
noncomputable def rSlT(K:PySem.W.Frag):V→Option Int→Option Int→Hp→VK→Prop:=λx lo hi H Q=>∃a xs,x=.ref a∧SqT K H a xs∧¬(HT.sIx xs.length 0 lo=0∧HT.sIx xs.length xs.length hi=xs.length)∧∀p,H p=none→Q (.ref p) (upd H p (.tup (cutV xs lo hi)))
theorem qJ3:SlR X (rSlT X.K):=by(
intro pins s σ H x v vl vu lo hi sl Q I rx hs pl pu h
obtain⟨a,xs,rfl,hx,hw,q⟩:=h
cases rx
obtain⟨its,r,ht,hz⟩:=I.tuple hx
have hlen:its.toArray.size=xs.length:=by rw[mI];exact r.length.symm
refine⟨"tuple",_,wH.lookup,ht.typeIs,?_⟩
refine HT.getItem_tuple_cut ht hs pl pu (by rw[hlen];exact hw) ?_ (by rw[hlen];exact hz)
rw[hlen]
refine⟨.ref s.heap.objs.size,_,I.laid (t':=s.toks) (o:=.tup (cutV xs lo hi)) (λb ob q=>kF _ q) (kO _) ?_,rfl,q _ (I.hok.fresh (kO _))⟩
exact⟨mO (q9N xs lo hi) hz,_,(r.drop (HT.sIx xs.length 0 lo)).take (HT.sIx xs.length xs.length hi-HT.sIx xs.length 0 lo),IsTup.new _ _⟩)
end
noncomputable def ixN(n:Nat)(i:Int):Option Nat:=if 0≤i then(if i<n then some i.toNat else none)else if-(n:Int)≤i then some (i+n).toNat else none
noncomputable def atI{α:Type}(xs:List α)(i:Int):Option α:=(ixN xs.length i).bind λj=>xs[j]?
theorem qBY{n:Nat}{i:Int}{j:Nat}(h:ixN n i=some j):seqIndex? i n=some j∧j<n∧-(n:Int)≤i∧i<n:=by(
unfold ixN at h
by_cases h0:0≤i
·rw[kL h0]at h;by_cases h1:i<n
 ·rw[kL h1]at h;have e:i.toNat=j:=kZ h;exact⟨by rw[xI h0 h1,e],by lia,by lia,h1⟩
 rw[kJ h1]at h;cases h
rw[kJ h0]at h
by_cases h1:-(n:Int)≤i
·rw[kL h1]at h;have e:(i+n).toNat=j:=kZ h;exact⟨by rw[lO (by lia) h1,e],by lia,h1,by lia⟩
rw[kJ h1]at h;cases h)
theorem q8I{α:Type}{xs:List α}{i:Int}{v:α}(h:atI xs i=some v):∃j,seqIndex? i xs.length=some j∧xs[j]?=some v∧j<xs.length∧-(xs.length:Int)≤i∧i<xs.length:=by(
unfold atI at h
cases e:ixN xs.length i with
|none=>rw[e]at h;cases h
|some j=>rw[e]at h;obtain⟨h1,h2,h3,h4⟩:=qBY e;exact⟨j,h1,h,h2,h3,h4⟩)
theorem yK{α:Type}{xs:List α}{j:Nat}{v:α}(h:xs[j]?=some v):atI xs (j:Int)=some v:=by
 have hj:j<xs.length:=(kC.mp h).1;have e:ixN xs.length (j:Int)=some j:=by unfold ixN;rw[kL (by lia),kL (by lia)];simp
 unfold atI;rw[e];exact h
noncomputable def qGG(b:Expr):Prop:=∀o i,subscripted b false o i=operate [o,i] (getItem o i)
noncomputable def IxR(X:Cx)(r:R2):Prop:=∀(value slice:Expr) (pins:List (Addr×Obj)) (s:Shared) (σ:St) (H:Hp) (x y:V) (v u:Value) (Q:VK),Inv X pins σ H s→RelV x v→RelV y u→r x y H Q→subscripted slice false v u=operate [v,u] (getItem v u)→wpAny (model X.prog X.w) X.A (subscriptTail value slice v u) (EP X pins σ Q) X.xe s
noncomputable def MtR(X:Cx)(id:String)(r:V→List V→Hp→VK→Prop):Prop:=∀(pins:List (Addr×Obj)) (s:Shared) (σ:St) (H:Hp) (x:V) (xs:List V) (v:Value) (us:List Value) (Q:VK),Inv X pins σ H s→RelV x v→Vals xs us→r x xs H Q→wpAny (model X.prog X.w) X.A (call (.builtin id) (v::us)) (EP X pins σ Q) X.xe s
section
variable{X:Cx}{a b:Expr}{ta tb:TE}{pos:Pos}
theorem qW{r:R2}(hr:IxR X r)(ha:PE X a ta)(hb:PE X b tb)(hs:qGG b):PE X (.Subscript a b pos) (tOp r ta tb):=by intro pins s σ H Q I h;exact bO (binT ha hb I h λv u s2 x y H2 I2 rx ry q=>hr a b pins s2 σ H2 x y v u Q I2 rx ry q (hs _ _))
noncomputable def rIxL(K:PySem.W.Frag):R2:=λx y H Q=>∃p xs i v,x=.ref p∧y=.int i∧SqL K H p xs∧atI xs i=some v∧Q v H
noncomputable def rIxT(K:PySem.W.Frag):R2:=λx y H Q=>∃p xs i v,x=.ref p∧y=.int i∧SqT K H p xs∧atI xs i=some v∧Q v H
theorem qZ:IxR X (rIxL X.K):=by(
intro value slice pins s σ H x y v u Q I rx ry h hs
obtain⟨p,xs,i,z,rfl,rfl,hq,he,q⟩:=h
cases rx
obtain⟨t,rfl⟩:=ry
obtain⟨its,r,pl,hz⟩:=I.list hq
obtain⟨j,h1,h2,h3,h4,h5⟩:=q8I he
obtain⟨w,ew,rw'⟩:=r.get h2
have hl:=r.length
have hn:=q5Y
have fin:EP X pins σ Q w s:=⟨z,H,I,rw',q⟩
by_cases h0:0≤i
·have hj:i.toNat=j:=by rw[xI h0 h5]at h1;exact kZ h1
 exact item_listR pl.isList h0 (by lia) (by rw[hj];simpa using ew) fin hs
have hj:(i+(its.toArray.size:Int)).toNat=j:=by rw[lO (by lia) h4]at h1;rw[mI,←hl];exact kZ h1
exact lQ (x:=w) pl.isList.typeIs slot_list_getitem.lookup
 (lR (Q:=λr s'=>r=w∧EP X pins σ Q r s') pl.isList (by lia) (by rw[mI]<;>lia) (by lia) (by rw[hj];simpa using ew) ⟨rfl,fin⟩) hs)
theorem yN:IxR X (rIxT X.K):=by(
intro value slice pins s σ H x y v u Q I rx ry h hs
obtain⟨p,xs,i,z,rfl,rfl,hq,he,q⟩:=h
cases rx
obtain⟨t,rfl⟩:=ry
obtain⟨its,r,pl,hz⟩:=I.tuple hq
obtain⟨j,h1,h2,h3,h4,h5⟩:=q8I he
obtain⟨w,ew,rw'⟩:=r.get h2
have hl:=r.length
have hn:=q5Y
have fin:EP X pins σ Q w s:=⟨z,H,I,rw',q⟩
exact lQ (x:=w) pl.typeIs slot_tuple_getitem.lookup
 (getItem_tuple (j:=j) (Q:=λr s'=>r=w∧EP X pins σ Q r s') pl (by lia) (by lia) (by rw[mI,←hl];exact h1) (by simpa using ew) ⟨rfl,fin⟩) hs)
theorem qAX(its:List Value)(n j:Nat)(u:Value):Obj.mapSeq (·.setIfInBounds j u) { cls:=.type "list",data:=.seq its.toArray n } = { cls:=.type "list",data:=.seq (its.set j u).toArray n }:=by simp[Obj.mapSeq]
theorem Inv.lst{pins:List (Addr×Obj)}{σ:St}{H:Hp}{s:Shared}{p:Addr}{xs:List V}(I:Inv X pins σ H s)(h:H p=some (.lst xs)):
 ∃(its:List Value) (n:Nat),Vals xs its∧s.heap.get? p=some { cls:=.type "list",data:=.seq its.toArray n }∧xs.length≤sizeLine:=by obtain⟨z,its,n,r,e⟩:=I.hok p _ h;exact⟨its,n,r,e,z⟩
theorem Inv.lstUpd{pins:List (Addr×Obj)}{σ:St}{H:Hp}{s:Shared}{p:Addr}{xs ys:List V}{its its':List Value}{n n':Nat}{f:Obj→Obj}(I:Inv X pins σ H s)(h:H p=some (.lst xs))
 (ho:s.heap.get? p=some { cls:=.type "list",data:=.seq its.toArray n }) (hf:f { cls:=.type "list",data:=.seq its.toArray n } = { cls:=.type "list",data:=.seq its'.toArray n' }) (r:Vals ys its') (hz:ys.length≤sizeLine) (t:Nat):
 Inv X pins σ (upd H p (.lst ys)) { s with heap:=s.heap.update p f,toks:=t }:=by
 have e:(s.heap.update p f).get? p=some { cls:=.type "list",data:=.seq its'.toArray n' }:=by rw[dZ f ho (by rw[hf]<;>rfl),hf]
 refine I.write (x:=p) (e:=p) (by rw[h];trivial) (.inl rfl) (λb u hb q=>(mF _ _ (wS hb)).trans q) ⟨_,e⟩ ?_;exact⟨hz,its',n',r,e⟩
noncomputable def qL3:V→V→V→Hp→(Hp→Prop)→Prop:=λo i v H Q=>∃p xs k j,o=.ref p∧i=.int k∧H p=some (.lst xs)∧ixN xs.length k=some j∧Q (upd H p (.lst (xs.set j v)))
theorem uA:PSet X qL3:=by(
intro pins s σ H o i v ov iv u Q I ro ri rv h
obtain⟨p,xs,k,j,rfl,rfl,hp,hj,q⟩:=h
cases ro
obtain⟨t,rfl⟩:=ri
obtain⟨its,n,r,ho,hz⟩:=I.lst hp
obtain⟨h1,h2,h3,h4⟩:=qBY hj
have hl:=r.length
have hn:=q5Y
have I':Inv X pins σ (upd H p (.lst (xs.set j v))) { s with heap:=s.heap.update p (Obj.mapSeq (·.setIfInBounds j u)) }:=I.lstUpd hp ho (qAX its n j u) (r.set rv j) (by rw[gJ];exact hz) s.toks
by_cases h0:0≤k
·have hk:k.toNat=j:=by rw[xI h0 h4]at h1;exact kZ h1
 exact PySem.W.ki_setAt ho h0 (by lia) (by rw[mI,←hl];exact h4) (by rw[hk];exact⟨_,I',q⟩)
have hk:(k+(its.toArray.size:Int)).toNat=j:=by rw[lO (by lia) h3]at h1;rw[mI,←hl];exact kZ h1
exact PySem.W.ki_setBack ho (by lia) (by rw[mI,←hl];exact h3) (by lia) (by rw[hk];exact⟨_,I',q⟩))
noncomputable def q1J:V→Bool
| .non=>true
| .bl _=>true
| .int _=>true
| .str _=>true
|_=>false
noncomputable def eqV:V→V→Bool
| .non,.non=>true
| .bl a,.bl b=>a==b
| .bl a,.int b=>(if a then 1 else 0)==b
| .int a,.bl b=>a==(if b then 1 else 0)
| .int a,.int b=>a==b
| .str a,.str b=>a==b
|_,_=>false
theorem qE2{A:Around}{s:Shared}{y x:V}{u v:Value}(ry:RelV y u)(rx:RelV x v)(fy:q1J y=true)(fx:q1J x=true):SeqAt.EqAt A s u v (eqV y x):=by(
cases y with
|non=>
 cases ry;cases x with
 |non=>cases rx;exact l7 _
 |bl b=>cases rx;exact SeqAt.EqAt.none_bool b
 |int b=>obtain⟨t,rfl⟩:=rx;exact SeqAt.EqAt.none_int b t
 |str b=>obtain⟨t,rfl⟩:=rx;exact SeqAt.EqAt.none_str b t
 |_=>exact absurd (show false=true from fx) kX
|bl a=>
 cases ry;cases x with
 |non=>cases rx;exact SeqAt.EqAt.bool_none a
 |bl b=>cases rx;exact SeqAt.EqAt.bool_bool a b
 |int b=>obtain⟨t,rfl⟩:=rx;exact SeqAt.EqAt.bool_int a b t
 |str b=>obtain⟨t,rfl⟩:=rx;exact SeqAt.EqAt.bool_str a b t
 |_=>exact absurd (show false=true from fx) kX
|int a=>
 obtain⟨t',rfl⟩:=ry;cases x with
 |non=>cases rx;exact SeqAt.EqAt.int_none a t'
 |bl b=>cases rx;exact SeqAt.EqAt.int_bool a t' b
 |int b=>obtain⟨t,rfl⟩:=rx;exact nI a t' b t
 |str b=>obtain⟨t,rfl⟩:=rx;exact xX a t' b t
 |_=>exact absurd (show false=true from fx) kX
|str a=>
 obtain⟨t',rfl⟩:=ry;cases x with
 |non=>cases rx;exact SeqAt.EqAt.str_none a t'
 |bl b=>cases rx;exact SeqAt.EqAt.str_bool a t' b
 |int b=>obtain⟨t,rfl⟩:=rx;exact xY a t' b t
 |str b=>obtain⟨t,rfl⟩:=rx;exact SeqAt.EqAt.str_str a t' b t
 |_=>exact absurd (show false=true from fx) kX
|_=>exact absurd (show false=true from fy) kX)
noncomputable def eqU(x:V)(u:Value):Bool:=match u with
| .none=>eqV .non x
| .bool b=>eqV (.bl b) x
| .int i _=>eqV (.int i) x
| .str z _=>eqV (.str z) x
|_=>false
theorem qE3{x y:V}{u:Value}(r:RelV y u)(f:q1J y=true):eqU x u=eqV y x:=by(
cases y with
|non=>cases r;rfl
|bl b=>cases r;rfl
|int i=>obtain⟨t,rfl⟩:=r;rfl
|str z=>obtain⟨t,rfl⟩:=r;rfl
|_=>exact absurd (show false=true from f) kX)
theorem q3T{x:V}:∀{xs:List V} {us:List Value},Vals xs us→xs.all q1J=true→us.any (eqU x)=xs.any λy=>eqV y x
|_,_,.nil,_=>rfl
|y::xs,u::us,.cons r t,f=>by rw[eI,m8]at f;rw[wD,wD,qE3 r f.1,q3T t f.2]
theorem q1P{A:Around}{s:Shared}{x:V}{v:Value}(rx:RelV x v)(fx:q1J x=true):∀{xs:List V} {us:List Value},Vals xs us→xs.all q1J=true→∀u∈us,SeqAt.EqAt A s u v (eqU x u)
|_,_,.nil,_=>λu hu=>by cases hu
|y::xs,u::us,.cons r t,f=>λu' hu=>by
 rw[eI,m8]at f;rcases kN.mp hu with rfl|hu
 ·rw[qE3 r f.1];exact qE2 r rx f.1 fx
 exact q1P rx fx t f.2 u' hu
noncomputable def inV(x:V)(xs:List V):Bool:=xs.any λy=>eqV y x
noncomputable def rIn(K:PySem.W.Frag)(neg:Bool):R2:=λx y H Q=>∃p xs,y=.ref p∧(SqL K H p xs∨SqT K H p xs)∧q1J x=true∧xs.all q1J=true∧Q (.bl (if neg then !inV x xs else inV x xs)) H
theorem qD4:OpR X (compareOp .In) (rIn X.K false):=by(
intro pins s σ H x y v u Q I rx ry h
obtain⟨p,xs,rfl,hq,fx,fs,q⟩:=h
cases ry
rcases hq with hq|hq
·obtain⟨its,r,pl,hz⟩:=I.list hq;refine SeqAt.in_listAt (eqU x) pl.isList (λw hw=>q1P rx fx r fs w (by simpa using hw)) ⟨.bl _,H,I,rfl,?_⟩;rw[show its.toArray.any (eqU x)=its.any (eqU x) by simp,q3T r fs];exact q
obtain⟨its,r,pl,hz⟩:=I.tuple hq
refine SeqAt.in_tupleAt (eqU x) pl (λw hw=>q1P rx fx r fs w (by simpa using hw)) ⟨.bl _,H,I,rfl,?_⟩
rw[show its.toArray.any (eqU x)=its.any (eqU x) by simp,q3T r fs]
exact q)
theorem q3U:OpR X (compareOp .NotIn) (rIn X.K true):=by(
intro pins s σ H x y v u Q I rx ry h
obtain⟨p,xs,rfl,hq,fx,fs,q⟩:=h
cases ry
rcases hq with hq|hq
·obtain⟨its,r,pl,hz⟩:=I.list hq;refine SeqAt.notIn_listAt (eqU x) pl.isList (λw hw=>q1P rx fx r fs w (by simpa using hw)) ⟨.bl _,H,I,rfl,?_⟩;rw[show its.toArray.any (eqU x)=its.any (eqU x) by simp,q3T r fs];exact q
obtain⟨its,r,pl,hz⟩:=I.tuple hq
refine SeqAt.notIn_tupleAt (eqU x) pl (λw hw=>q1P rx fx r fs w (by simpa using hw)) ⟨.bl _,H,I,rfl,?_⟩
rw[show its.toArray.any (eqU x)=its.any (eqU x) by simp,q3T r fs]
exact q)
theorem jB:q1H X (.builtin "len") (λxs H Q=>∃p ys,xs=[.ref p]∧(SqL X.K H p ys∨SqT X.K H p ys)∧Q (.int ys.length) H):=by(
intro pins s σ H xs us Q I r h
obtain⟨p,ys,rfl,hq,q⟩:=h
obtain⟨u,rfl,rx⟩:=q1I r
cases rx
have hn:=q5Y
rcases hq with hq|hq
·obtain⟨its,r',pl,hz⟩:=I.list hq;have hlen:=r'.length;exact Calls.call_len_list pl.isList (by simp only[mI]<;>lia) ⟨.int ys.length,H,I.tok _,⟨s.toks+1,by rw[mI,hlen]⟩,q⟩
obtain⟨its,r',pl,hz⟩:=I.tuple hq
have hlen:=r'.length
exact len_tuple pl (by simp only[mI]<;>lia) ⟨.int ys.length,H,I.tok _,⟨s.toks+1,by rw[mI,hlen]⟩,q⟩)
theorem q8J:q1H X (.type "list") (λxs H Q=>∃p ys,xs=[.ref p]∧(SqL X.K H p ys∨SqT X.K H p ys)∧∀l,H l=none→Q (.ref l) (upd H l (.lst ys))):=by(
intro pins s σ H xs us Q I r h
obtain⟨p,ys,rfl,hq,q⟩:=h
obtain⟨u,rfl,rx⟩:=q1I r
cases rx
have fin:∀(its:List Value),Vals ys its→ys.length≤sizeLine→∀(h':Heap) (c':Nat),(∀b o',s.heap.get? b=some o'→h'.get? b=some o')→h'.get? s.heap.objs.size=some { cls:=.type "list",dict:=none,data:=.seq its.toArray c',slots:=#[] }→EP X pins σ Q (.ref s.heap.objs.size) { s with heap:=h' }:=λits r' hz h' c' kp e=>⟨.ref s.heap.objs.size,_,I.laid (t':=s.toks) kp (kO _) (show jM X.prog X.w _ h' _ (.lst ys)from⟨hz,its,c',r',e⟩),rfl,q _ (I.hok.fresh (kO _))⟩
rcases hq with hq|hq
·obtain⟨its,r',pl,hz⟩:=I.list hq;have hlen:=r'.length;obtain⟨o,ho,hc,n,hd⟩:=pl.isList;exact call_list_seq p (.inl rfl) ho hc hd (λh' c' kp e=>fin its r' hz h' c' kp e) (by simp only[mI]<;>lia)
obtain⟨its,r',pl,hz⟩:=I.tuple hq
have hlen:=r'.length
obtain⟨o,ho,hc,n,hd⟩:=pl
exact call_list_seq p (.inr rfl) ho hc hd (λh' c' kp e=>fin its r' hz h' c' kp e) (by simp only[mI]<;>lia))
noncomputable def tyV(K:PySem.W.Frag)(T:String)(x:V)(H:Hp):Prop:=match x with
| .str _=>T="str"
| .int _=>T="int"
| .ref p=>(T="list"∧∃xs,SqL K H p xs)∨(T="tuple"∧∃o,K.lookup p=some o∧o.cls=.type "tuple"∧o.dict=none)∨(T="dict"∧((∃kvs,H p=some (.dK kvs))∨∃kvs,H p=some (.dT kvs)))∨(T="set"∧∃S n,H p=some (.set S n))
|_=>False
theorem qE4{pins:List (Addr×Obj)}{σ:St}{H:Hp}{s:Shared}{T:String}{x:V}{v:Value}(I:Inv X pins σ H s)(r:RelV x v)(ty:tyV X.K T x H):
 s.TypeIs v T∧∀a,v=.ref a→∃ob,s.heap.get? a=some ob∧ob.dict=none:=by(
cases x with
|str z=>obtain⟨t,rfl⟩:=r;cases(show T="str" from ty);exact⟨typeIs_str s z t,λ_ e=>nomatch e⟩
|int i=>obtain⟨t,rfl⟩:=r;cases(show T="int" from ty);exact⟨bQ s i t,λ_ e=>nomatch e⟩
|ref p=>
 cases r;rcases ty with⟨rfl,xs,hq⟩|⟨rfl,o,hk,hc,hd⟩|⟨rfl,hk⟩|⟨rfl,S,n,hk⟩
 ·obtain⟨its,_,pl,_⟩:=I.list hq;refine⟨pl.isList.typeIs,λa e=>?_⟩;cases e;obtain⟨o,n,e,c,hd,_⟩:=pl;exact⟨o,e,hd⟩
 ·refine⟨⟨o,I.kIn p o hk,hc⟩,λa e=>?_⟩;cases e;exact⟨o,I.kIn _ o hk,hd⟩
 ·have z:∃o,s.heap.get? p=some o∧o.ExactDict:=by
   rcases hk with⟨kvs,hk⟩|⟨kvs,hk⟩
   ·obtain⟨_,_,_,_,o,_,_,e,ex,_⟩:=I.hok p _ hk;exact⟨o,e,ex⟩
   obtain⟨_,_,_,_,o,_,_,e,ex,_⟩:=I.hok p _ hk;exact⟨o,e,ex⟩
  obtain⟨o,e,ex⟩:=z;refine⟨⟨o,e,ex.1⟩,λa e2=>?_⟩;cases e2;exact⟨o,e,ex.2.1⟩
 obtain⟨o,_,_,_,e,ex,_⟩:=I.hok p _ hk;refine⟨⟨o,e,ex.1⟩,λa e2=>?_⟩;cases e2;exact⟨o,e,ex.2.1⟩
|_=>exact False.elim ty)
noncomputable def tBM0(K:PySem.W.Frag)(T:String)(r:V→List V→Hp→VK→Prop)(to:TE):TE:=λσ H Q=>to σ H λx H1=>tyV K T x H1∧r x [] H1 Q
noncomputable def tBM(K:PySem.W.Frag)(T:String)(r:V→List V→Hp→VK→Prop)(to:TE)(t:TA):TE:=λσ H Q=>to σ H λx H1=>tyV K T x H1∧t σ H1 λxs H2=>r x xs H2 Q
variable{o e:Expr}{es:List Expr}{to:TE}{t:TA}{name:Str}{apos cpos:Pos}{T id:String}{r:V→List V→Hp→VK→Prop}
theorem qE5(pa:PlainAttrs T)(slot:Slot T name id)(hty:typeOf (.builtin id)=pure (.type "method_descriptor"))(hm:MtR X id r)(ho:PE X o to)
 (hbase:attributeBase o name X.env (eval o X.env)=eval o X.env:=by rfl) (hline:(apos.endLine==cpos.line)=true:=by rfl):PE X (.Call (.Attribute o name apos) [] [] cpos) (tBM0 X.K T r to):=by(
intro pins s σ H Q I h
refine wpAny_Call_method0_late hbase hline (thn (ho pins s σ H _ I h) λv s1 hZ=>?_)
obtain⟨x,H1,I1,r1,ty,q1⟩:=hZ
obtain⟨h1,h2⟩:=qE4 I1 r1 ty
exact⟨T,id,pa,slot,hty,h1,h2,rM rfl (PySem.evalArgs_none (hm pins s1 σ H1 x [] v [] Q I1 r1 .nil q1))⟩)
theorem qBZ(pa:PlainAttrs T)(slot:Slot T name id)(hty:typeOf (.builtin id)=pure (.type "method_descriptor"))(hm:MtR X id r)(ho:PE X o to)(ha:PA X (e::es) t)
 (hbase:attributeBase o name X.env (eval o X.env)=eval o X.env:=by rfl)
 (hfew:((backTo cpos (starEach (e::es) X.env)).all (λx=>!x.1)&&(backToKw cpos (keywordEach [] X.env)).all (λx=>x.1.isSome)
  &&decide ((e::es).length+([]:List Keyword).length+(if([]:List Keyword).isEmpty then 0 else 1)<30))=true:=by rfl)
 (hline:(apos.endLine==cpos.line)=true:=by rfl) (hs:starEach (e::es) X.env=(false,eval e X.env)::starEach es X.env:=by rfl) (hplain:(backTo cpos (starEach es X.env)).any (·.1)=false:=by rfl):
 PE X (.Call (.Attribute o name apos) (e::es) [] cpos) (tBM X.K T r to t):=by(
intro pins s σ H Q I h
refine wpAny_Call_method_late hbase hfew hline rfl (thn (ho pins s σ H _ I h) λv s1 hZ=>?_)
obtain⟨x,H1,I1,r1,ty,q1⟩:=hZ
obtain⟨h1,h2⟩:=qE4 I1 r1 ty
refine⟨T,id,pa,slot,hty,h1,h2,?_⟩
have hA:=ha cpos pins s1 σ H1 _ I1 q1
rw[hs]at hA ⊢
refine rM (by show(false||(backTo cpos (starEach es X.env)).any (·.1))=false;rw[hplain]<;>rfl) (cO ?_)
exact thn hA λus s2 ⟨vs,H2,I2,r2,q2⟩=>hm pins s2 σ H2 x vs v us Q I2 r1 r2 q2)
end
noncomputable def MtM(X:Cx)(id:String)(r:V→List V→Hp→VK→Prop):Prop:=∀(pins:List (Addr×Obj)) (s:Shared) (σ:St) (H:Hp) (x:V) (xs:List V) (v:Value) (us:List Value) (Q:VK),Inv X pins σ H s→RelV x v→Vals xs us→r x xs H Q→wpAny (model X.prog X.w) X.A (call (.builtin id) (v::us)) (EP X pins σ Q) X.xe s
theorem Vals.one{x:V}{us:List Value}(h:Vals [x] us):∃u,us=[u]∧RelV x u:=by
 cases h with
 |cons r t=>cases t;exact⟨_,rfl,r⟩
theorem Vals.zero:∀{us:List Value},Vals [] us→us=[]
|_,.nil=>rfl
theorem Vals.rep{xs:List V}{us:List Value}(h:Vals xs us):∀k:Nat,Vals (List.replicate k xs).flatten (List.replicate k us).flatten
|0=>.nil
|k+1=>by rw[dU,dU,cI,cI];exact Vals.append h (Vals.rep h k)
theorem q80(its:List Value):∀(k:Nat) (acc:List Value),List.foldl (λx1 x2=>x1++x2) acc.toArray (List.replicate k its.toArray)=(acc++(List.replicate k its).flatten).toArray
|0,acc=>by simp
|k+1,acc=>by
 have e:acc.toArray++its.toArray=(acc++its).toArray:=by simp
 have e2:(acc++its)++(List.replicate k its).flatten=acc++(List.replicate (k+1) its).flatten:=by rw[dU,cI,aM]
 rw[←e2,←q80 its k (acc++its),←e,dU,l8]
section
variable{X:Cx}{pins:List (Addr×Obj)}{σ:St}{H:Hp}{s:Shared}{l b:Addr}{xs ys zs:List V}
theorem Inv.lset{its its':List Value}{n:Nat}{f:Array Value→Array Value}{t':Nat}(I:Inv X pins σ H s)(hH:H l=some (.lst xs))
 (e:s.heap.get? l=some { cls:=.type "list",data:=.seq its.toArray n }) (hf:f its.toArray=its'.toArray) (hv:Vals ys its') (hz:ys.length≤sizeLine):
 Inv X pins σ (upd H l (.lst ys)) { s with heap:=s.heap.update l (Obj.mapSeq f),toks:=t' }:=by(
have q:=PySem.IsL.update e f
rw[hf]at q
refine I.write (x:=l) (e:=l) (by rw[hH];exact trivial) (.inl rfl) (λb' u hb hu=>(mF s.heap (Obj.mapSeq f) (wS hb)).trans hu) ⟨_,q⟩ ?_
exact⟨hz,its',_,hv,q⟩)
theorem Inv.lnew{its:List Value}{t':Nat}(I:Inv X pins σ H s)(hv:Vals ys its)(hz:ys.length≤sizeLine):
 Inv X pins σ (upd H s.heap.objs.size (.lst ys)) { s with heap:=s.heap.push { cls:=.type "list",data:=.seq its.toArray },toks:=t' }:=I.laid (λ_ _ q=>kF _ q) (kO _) ⟨hz,its,0,hv,mR _ rfl⟩
theorem Inv.fresh(I:Inv X pins σ H s):H s.heap.objs.size=none:=I.hok.fresh (kO _)
theorem Inv.lstM(I:Inv X pins σ H s)(hH:H l=some (.lst xs)):xs.length≤sizeLine∧∃(its:List Value) (n:Nat),Vals xs its∧xs.length=its.length∧s.heap.get? l=some { cls:=.type "list",data:=.seq its.toArray n }:=by obtain⟨z,its,n,r,e⟩:=I.hok l _ hH;exact⟨z,its,n,r,r.length,e⟩
theorem qE6{n:Nat}(h:n≤sizeLine):Builtin.List.listTooLong n=false:=by unfold Builtin.List.listTooLong;exact hU (by lia)
end
section
variable{X:Cx}
noncomputable def qGH:V→List V→Hp→VK→Prop:=λx vs H Q=>∃l xs y,x=.ref l∧vs=[y]∧H l=some (.lst xs)∧xs.length<sizeLine∧Q .non (upd H l (.lst (xs++[y])))
theorem q0K:MtM X "list.append" qGH:=by(
intro pins s σ H x vs v us Q I rx rv h
obtain⟨l,xs,y,rfl,rfl,hH,hz,q⟩:=h
cases rx
obtain⟨u,rfl,ru⟩:=rv.one
obtain⟨z,its,n,r,hl,e⟩:=I.lstM hH
refine bR F.slot_list_append ⟨_,e,rfl⟩ F.entry_list_append (F.args_list_append_2 _ _) (PySem.list_append l its.toArray n u (by rw[mI];lia)) ⟨e,?_⟩
refine⟨.non,_,I.lset (its':=its++[u]) hH e (by simp) (r.append (.cons ru .nil)) ?_,rfl,q⟩
rw[mL,gQ]
lia)
noncomputable def rRep:R2:=λx y H Q=>∃l k xs,x=.ref l∧y=.int k∧H l=some (.lst xs)∧-(2 ^ 63)≤k∧k<2 ^ 63∧xs.length*k.toNat≤sizeLine∧∀p,H p=none→Q (.ref p) (upd H p (.lst (List.replicate k.toNat xs).flatten))
theorem qGI{α:Type}(xs:List α)(k:Nat):(List.replicate k xs).flatten.length=k*xs.length:=by(
induction k with
|zero=>simp
|succ k ih=>rw[dU,cI,mL,ih,rZ,Nat.add_comm])
theorem qJ4:OpR X (binaryOp .Mult) rRep:=by(
intro pins s σ H x y v u Q I rx ry h
obtain⟨l,k,xs,rfl,rfl,hH,h1,h2,hz,q⟩:=h
cases rx
obtain⟨t,rfl⟩:=ry
obtain⟨z,its,n,r,hl,e⟩:=I.lstM hH
have hlen:its.toArray.size*k.toNat≤sizeLine:=by rw[mI,←hl];exact hz
have hcap:¬its.toArray.size*k.toNat>(2 ^ 63-1) / 8:=by
 have:(sizeLine:Nat)≤(2 ^ 63-1) / 8:=by decide
 lia
have hfit:¬(!Builtin.List.listFitsIndex k)=true:=by rw[fitsIndex_both h1 h2];exact kX
have hlong:¬Builtin.List.listTooLong (its.toArray.size*k.toNat)=true:=by rw[qE6 hlen];exact kX
have hnew:List.foldl (λx1 x2=>x1++x2) #[] (List.replicate (if its.toArray.isEmpty=true then 0 else k.toNat) its.toArray)=(List.replicate k.toNat its).flatten.toArray:=by
 have f0:∀m:Nat,List.foldl (λx1 x2=>x1++x2) #[] (List.replicate m its.toArray)=(List.replicate m its).flatten.toArray:=λm=>by have:=q80 its m [];rw[dC]at this;exact this
 rw[f0];cases its with
 |nil=>simp
 |cons a r'=>rw[kJ (by simp)]
refine wpAny_binaryOp_repeat_ref (T:="list") (U:="int") (by decide) ⟨_,e,rfl⟩ (λs'=>bQ s' k t) noFill_list_mul F.fills_int_mul bC repeat_list F.slot_int_index.lookup
 (bR bC (bQ s k t) F.entry_int_rmul (F.args_int_rmul_2 _ _) (int___rmul___int_list k t l its.toArray n)
  ⟨e,rfl,⟨_,e,rfl⟩,bR F.slot_list_mul ⟨_,e,rfl⟩ F.entry_list_mul (F.args_list_mul_2 _ _) (AutoListH.list___mul___list_int_3 l its.toArray n k t hfit hcap hlong) ⟨e,?_⟩⟩)
rw[hnew]
exact⟨.ref _,_,I.lnew (t':=s.toks) (r.rep k.toNat) (by rw[qGI,cR];exact hz),rfl,q _ I.fresh⟩)
end
section
variable{κ:Type}[DecidableEq κ]
noncomputable def valV(kvs:List (κ×V))(k:κ):Option V:=(kvs.find? λkv=>decide (kv.1=k)).map (·.2)
noncomputable def putK(kvs:List (κ×V))(k:κ)(v:V):List (κ×V):=if(kvs.any λkv=>decide (kv.1=k))=true then kvs.map (λkv=>if kv.1=k then(kv.1,v)else kv)else kvs++[(k,v)]
noncomputable def q52(kvs:List (κ×V))(k:κ):List (κ×V):=kvs.filter λkv=>decide (kv.1≠k)
theorem q1Q{p:κ×V}{r:List (κ×V)}{k:κ}(e:p.1=k):valV (p::r) k=some p.2:=by simp[valV,dX,e]
theorem zJ{p:κ×V}{r:List (κ×V)}{k:κ}(e:¬p.1=k):valV (p::r) k=valV r k:=by simp[valV,dX,e]
theorem q9O(k:κ):∀kvs:List (κ×V),(kvs.any λkv=>decide (kv.1=k))=(valV kvs k).isSome
| []=>rfl
|p::r=>by
 rw[wD];by_cases e:p.1=k
 ·simp only[q1Q e,hC e,Bool.true_or,Option.isSome_some]
 rw[zJ e,hU e,Bool.false_or];exact q9O k r
theorem q53(kvs:List (κ×V))(k:κ)(v:V):(putK kvs k v).length≤kvs.length+1:=by(
unfold putK
split
·rw[hG];lia
rw[mL,mY,rW];lia)
theorem RelO.isSome_eq{o:Option V}{u:Option Value}(r:RelO o u):o.isSome=u.isSome:=by(
cases o with
|none=>cases u with
 |none=>rfl
 |some _=>exact(show False from r).elim
|some _=>cases u with
 |none=>exact(show False from r).elim
 |some _=>rfl)
theorem RelO.getD{o:Option V}{u:Option Value}{d:V}{d':Value}(r:RelO o u)(rd:RelV d d'):RelV (o.getD d) (u.getD d'):=by(
cases o with
|none=>cases u with
 |none=>exact rd
 |some _=>exact(show False from r).elim
|some _=>cases u with
 |none=>exact(show False from r).elim
 |some _=>exact r)
theorem KV.val{kvs:List (κ×V)}{vs:List (κ×Value)}(r:KV kvs vs)(k:κ):RelO (valV kvs k) (valueAt vs k):=by(
unfold KV at r
induction r with
|nil=>exact True.intro
|@cons p q ps qs h t ih=>
 obtain⟨h1,h2⟩:=h;by_cases e:p.1=k
 ·have e':q.1=k:=h1.symm.trans e;have b:valueAt (q::qs) k=some q.2:=by simp[valueAt,dX,e']
  rw[q1Q e,b];exact h2
 have e':¬q.1=k:=λz=>e (h1.trans z);have b:valueAt (q::qs) k=valueAt qs k:=by simp[valueAt,dX,e']
 rw[zJ e,b];exact ih)
theorem KV.any{kvs:List (κ×V)}{vs:List (κ×Value)}(r:KV kvs vs)(k:κ):(kvs.any λkv=>decide (kv.1=k))=vs.any λkv=>decide (kv.1=k):=by(
unfold KV at r
induction r with
|nil=>rfl
|cons h t ih=>rw[wD,wD,ih,h.1])
theorem KV.repl{kvs:List (κ×V)}{vs:List (κ×Value)}(r:KV kvs vs)(k:κ){y:V}{u:Value}(ry:RelV y u):
 KV (kvs.map λkv=>if kv.1=k then(kv.1,y)else kv) (vs.map λkv=>if kv.1=k then(kv.1,u)else kv):=by(
unfold KV at r ⊢
induction r with
|nil=>exact .nil
|@cons p q ps qs h t ih=>
 rw[mQ,mQ];refine .cons ?_ ih;obtain⟨h1,h2⟩:=h;by_cases e:p.1=k
 ·rw[kL e,kL (h1.symm.trans e)];exact⟨h1,ry⟩
 rw[kJ e,kJ (λz=>e (h1.trans z))];exact⟨h1,h2⟩)
theorem KV.put{kvs:List (κ×V)}{vs:List (κ×Value)}(r:KV kvs vs)(k:κ){y:V}{u:Value}(ry:RelV y u):KV (putK kvs k y) (stored vs k u):=by(
unfold putK stored
rw[r.any k]
by_cases e:(vs.any λkv=>decide (kv.1=k))=true
·rw[kL e,kL e];exact r.repl k ry
rw[kJ e,kJ e];exact Paired.snoc r ⟨rfl,ry⟩)
theorem KV.drop{kvs:List (κ×V)}{vs:List (κ×Value)}(r:KV kvs vs)(k:κ):KV (q52 kvs k) (without vs k):=by(
unfold KV at r ⊢
unfold q52 without
induction r with
|nil=>exact .nil
|@cons p q ps qs h t ih=>
 obtain⟨h1,h2⟩:=h;rw[mU,mU];by_cases e:p.1=k
 ·have a:¬decide (p.1≠k)=true:=by simp[e]
  have b:¬decide (q.1≠k)=true:=by simp[h1.symm.trans e]
  rw[kJ a,kJ b];exact ih
 have e':¬q.1=k:=λz=>e (h1.trans z);have a:decide (p.1≠k)=true:=by simp[e]
 have b:decide (q.1≠k)=true:=by simp[e']
 rw[kL a,kL b];exact .cons ⟨h1,h2⟩ ih)
theorem KV.keys{kvs:List (κ×V)}{vs:List (κ×Value)}(r:KV kvs vs):kvs.map (·.1)=vs.map (·.1):=by(
unfold KV at r
induction r with
|nil=>rfl
|cons h t ih=>rw[mQ,mQ,ih,h.1])
theorem KV.length{kvs:List (κ×V)}{vs:List (κ×Value)}(r:KV kvs vs):kvs.length=vs.length:=xT r
theorem qE7(kvs:List (κ×V))(k:κ):(q52 kvs k).length≤kvs.length:=mC _ _
end
theorem q65{P:Program}{w:World}{k:Key}{u:Value}(r:RelV (kV k) u):(jQ P w).is k u=true:=by(
cases k with
|inl i=>obtain⟨t,e⟩:=(show ∃t,u=Value.int i t from r);subst e;exact q9F P w i t
|inr x=>obtain⟨t,e⟩:=(show ∃t,u=Value.str x t from r);subst e;exact q9G P w x t)
theorem q81{P:Program}{w:World}:∀{ks:List Key} {us:List Value},Vals (ks.map kV) us→ItemsAre (jQ P w) ks us
| [],_,r=>by rw[eQ]at r;cases r;exact .nil
|k::ks,_,r=>by
 rw[mQ]at r;cases r with
 |cons h t=>exact .cons (q65 h) (q81 t)
noncomputable abbrev KT(H:Hp):List (List Key×V)→List (List Key×Addr×Value)→Prop:=Paired λp q=>p.1=q.1∧H q.2.1=some (.tup (p.1.map kV))∧RelV p.2 q.2.2
theorem KT.val{H:Hp}{kvs:List (List Key×V)}{xs:List (List Key×Addr×Value)}(r:KT H kvs xs)(k:List Key):RelO (valV kvs k) ((atKey xs k).map (·.2)):=by(
induction r with
|nil=>exact True.intro
|@cons p q ps qs h t ih=>
 obtain⟨h1,_,h2⟩:=h;by_cases e:p.1=k
 ·have e':q.1=k:=h1.symm.trans e;have b:atKey (q::qs) k=some q.2:=by simp[atKey,dX,e']
  rw[q1Q e,b];exact h2
 have e':¬q.1=k:=λz=>e (h1.trans z);have b:atKey (q::qs) k=atKey qs k:=by simp[atKey,dX,e']
 rw[zJ e,b];exact ih)
theorem KT.repl{H:Hp}{kvs:List (List Key×V)}{xs:List (List Key×Addr×Value)}(r:KT H kvs xs)(k:List Key){y:V}{u:Value}(ry:RelV y u):
 KT H (kvs.map λkv=>if kv.1=k then(kv.1,y)else kv) (xs.map (putAt k u)):=by(
induction r with
|nil=>exact .nil
|@cons p q ps qs h t ih=>
 rw[mQ,mQ];refine .cons ?_ ih;obtain⟨h1,h2,h3⟩:=h;unfold putAt;by_cases e:p.1=k
 ·rw[kL e,kL (h1.symm.trans e)];exact⟨h1,h2,ry⟩
 rw[kJ e,kJ (λz=>e (h1.trans z))];exact⟨h1,h2,h3⟩)
theorem KT.put{H:Hp}{kvs:List (List Key×V)}{xs:List (List Key×Addr×Value)}(r:KT H kvs xs)(k:List Key){b:Addr}{y:V}{u:Value}(hb:H b=some (.tup (k.map kV)))(ry:RelV y u):
 KT H (putK kvs k y) (storedH xs k b u):=by(
have e:(kvs.any λkv=>decide (kv.1=k))=(atKey xs k).isSome:=by rw[q9O,(r.val k).isSome_eq,pM]
unfold putK storedH
rw[e]
by_cases q:(atKey xs k).isSome=true
·rw[kL q,kL q];exact r.repl k ry
rw[kJ q,kJ q];exact Paired.snoc r ⟨rfl,hb,ry⟩)
theorem KT.keeps{H H':Hp}{kvs:List (List Key×V)}{xs:List (List Key×Addr×Value)}(r:KT H kvs xs)(ht:∀b ys,H b=some (.tup ys)→H' b=some (.tup ys)):KT H' kvs xs:=Paired.mapP r λ_ _ z=>⟨z.1,ht _ _ z.2.1,z.2.2⟩
section
variable{P:Program}{w:World}{H:Hp}{h:Heap}{a:Addr}
theorem qIB{u:HO}(ok:HOk P w H h)(e:Rd H a u):jM P w H h a u:=e.ok ok
theorem q82{kvs:List (Key×V)}(ok:HOk P w H h)(e:Rd H a (.dK kvs)):kvs.length≤sizeLine∧(a==sysModules)=false∧∃vs,KV kvs vs∧h.DictOf (jQ P w) a vs:=show jM P w H h a (.dK kvs)from qIB ok e
theorem q54{kvs:List (Key×V)}(ok:HOk P w H h)(e:H a=some (.dK kvs)):kvs.length≤sizeLine∧(a==sysModules)=false∧∃vs,KV kvs vs∧h.DictOf (jQ P w) a vs:=q82 ok (.inl e)
theorem q66{ks:List Key}(ok:HOk P w H h)(e:H a=some (.tup (ks.map kV))):(tupleKind (jQ P w)).is h ks a:=by obtain⟨_,its,r,o,h1,h2,n,h3⟩:=(show jM P w H h a (.tup (ks.map kV))from ok a _ e);exact⟨o,its.toArray,n,h1,h2,h3,by simpa using q81 r⟩
theorem q83{kvs:List (List Key×V)}(ok:HOk P w H h)(e:Rd H a (.dT kvs)):kvs.length≤sizeLine∧(a==sysModules)=false∧∃xs,KT H kvs xs∧h.DictOfH (tupleKind (jQ P w)) a xs:=by(
obtain⟨z,y,xs,r,o,es,ep,h1,h2,h3,h4,h5⟩:=(show jM P w H h a (.dT kvs)from qIB ok e)
refine⟨z,y,xs,r,o,es,ep,h1,h2,h3,h4,λx hx=>?_,h5⟩
have all:∀{l:List (List Key×V)} {m:List (List Key×Addr×Value)},KT H l m→∀x∈m,(tupleKind (jQ P w)).is h x.1 x.2.1:=by
 intro l m q;induction q with
 |nil=>intro x hx;exact nomatch hx
 |@cons p q ps qs hq t ih=>
  intro x hx;rcases kN.mp hx with e|hx
  ·subst e;exact q66 ok (by rw[←hq.1];exact hq.2.1)
  exact ih x hx
exact all r x hx)
theorem qL4{kvs:List (List Key×V)}(ok:HOk P w H h)(e:H a=some (.dT kvs)):kvs.length≤sizeLine∧(a==sysModules)=false∧∃xs,KT H kvs xs∧h.DictOfH (tupleKind (jQ P w)) a xs:=q83 ok (.inl e)
end
noncomputable def DGet(H:Hp)(a:Addr)(y:V)(r:Option V):Prop:=(∃kvs k,Rd H a (.dK kvs)∧y=kV k∧r=valV kvs k)∨∃kvs k b,Rd H a (.dT kvs)∧y=.ref b∧H b=some (.tup (k.map kV))∧r=valV kvs k
noncomputable def DPut(H:Hp)(a:Addr)(y v:V)(H':Hp):Prop:=(∃kvs k,H a=some (.dK kvs)∧y=kV k∧kvs.length<sizeLine∧H'=upd H a (.dK (putK kvs k v)))∨∃kvs k b,H a=some (.dT kvs)∧y=.ref b∧H b=some (.tup (k.map kV))∧kvs.length<sizeLine∧H'=upd H a (.dT (putK kvs k v))
theorem DGet.k{H:Hp}{a:Addr}{kvs:List (Key×V)}{k:Key}(e:H a=some (.dK kvs)):DGet H a (kV k) (valV kvs k):=.inl ⟨kvs,k,.inl e,rfl,rfl⟩
section
variable{X:Cx}{pins:List (Addr×Obj)}{σ:St}{H:Hp}{s:Shared}{a:Addr}{y v:V}{u r:Value}{o:Option V}{A:Around}{E:Value→Shared→Prop}
theorem Inv.big(I:Inv X pins σ H s):sysModules<s.heap.objs.size:=by have h:mainGlobals<s.heap.objs.size:=(I.mod.glob.keeps I.bk).lt;exact Nat.lt_trans (by decide) h
theorem qD5{Q:Value→Shared→Prop}(hu:A.units+1<cLine)(I:Inv X pins σ H s)(g:DGet H a y (some v))(ry:RelV y u)(h:∀w' s',Inv X pins σ H s'→RelV v w'→Q w' s'):
 wpAny (model X.prog X.w) A (getItem (.ref a) u) Q E s:=by(
rcases g with⟨kvs,k,e,ey,l⟩|⟨kvs,k,b,e,ey,eb,l⟩
·subst ey;obtain⟨z,hd,vs,rel,dd⟩:=q82 I.hok e;obtain⟨w',hw,rw'⟩:=RelO.some_of (v:=v) (o:=valueAt vs k) (by rw[l];exact rel.val k);exact wpAny_getItem_of (q65 ry) dd.mapOf hw (h w' _ (I.tok _) rw')
subst ey
cases(show u=Value.ref b from ry)
obtain⟨z,hd,xs,rel,dd⟩:=q83 I.hok e
obtain⟨w',hw,rw'⟩:=RelO.some_of (v:=v) (o:=(atKey xs k).map (·.2)) (by rw[l];exact rel.val k)
obtain⟨p,hp,hp2⟩:=mK.mp hw
refine wpAny_getItem_heap (c9 hu) (q66 I.hok eb) dd hp ?_
rw[hp2]
exact h w' _ (I.tok _) rw')
theorem d_in{Q:Value→Shared→Prop}(hu:A.units+1<cLine)(I:Inv X pins σ H s)(g:DGet H a y o)(ry:RelV y u)(h:∀s',Inv X pins σ H s'→Q (.bool o.isSome) s'):
 wpAny (model X.prog X.w) A (compareOp .In u (.ref a)) Q E s:=by(
rcases g with⟨kvs,k,e,ey,l⟩|⟨kvs,k,b,e,ey,eb,l⟩
·subst ey;obtain⟨z,hd,vs,rel,dd⟩:=q82 I.hok e;refine wpAny_in_of (q65 ry) hd dd.mapOf ?_;rw[←(rel.val k).isSome_eq,←l];exact h _ (I.tok _)
subst ey
cases(show u=Value.ref b from ry)
obtain⟨z,hd,xs,rel,dd⟩:=q83 I.hok e
refine wpAny_in_heap (c9 hu) (q66 I.hok eb) hd dd ?_
have q:=(rel.val k).isSome_eq
rw[pM]at q
rw[←q,←l]
exact h _ (I.tok _))
theorem q8K{h':Heap}{t':Nat}{ob:HO}(I:Inv X pins σ H s)(mu:Mut (H a))(hs:Heap.SameBut a s.heap h')(he:∃q,h'.get? a=some q)(new:jM X.prog X.w (upd H a ob) h' a ob):
 Inv X pins σ (upd H a ob) { s with heap:=h',toks:=t' }:=I.write (x:=a) (e:=a) mu (.inl rfl) (λb q hb z=>(hs.2 b hb).trans z) he new
theorem qE8{P:Program}{w:World}{H':Hp}{h':Heap}{kvs:List (Key×V)}{vs:List (Key×Value)}(z:kvs.length≤sizeLine)(hd:(a==sysModules)=false)(rel:KV kvs vs)(dd:h'.DictOf (jQ P w) a vs):
 jM P w H' h' a (.dK kvs):=⟨z,hd,vs,rel,dd⟩
theorem qD6{H':Hp}{Q:Unit→Shared→Prop}(hu:A.units+1<cLine)(I:Inv X pins σ H s)(g:DPut H a y v H')(ry:RelV y u)(rv:RelV v r)(h:∀s',Inv X pins σ H' s'→Q () s'):
 wpAny (model X.prog X.w) A (setItem (.ref a) u r) Q E s:=by(
rcases g with⟨kvs,k,e,ey,l,eH⟩|⟨kvs,k,b,e,ey,eb,l,eH⟩
·subst ey eH;obtain⟨z,hd,vs,rel,dd⟩:=q54 I.hok e;have hz:vs.length≤sizeLine:=by rw[←rel.length];exact z
 have hl:(putK kvs k v).length≤sizeLine:=by have:=q53 kvs k v;lia
 refine wpAny_setItem_pairs (hsz:=hz) (q65 ry) dd λh' dd' hs=>h _ ?_;have he:∃q,h'.get? a=some q:=let⟨q,_,_,hq,_⟩:=dd';⟨q,hq⟩
 exact q8K I (by rw[e];exact True.intro) hs he (qE8 hl hd (rel.put k rv) dd')
subst ey eH
cases(show u=Value.ref b from ry)
obtain⟨z,hd,xs,rel,dd⟩:=qL4 I.hok e
have hz:xs.length≤sizeLine:=by rw[←xT rel];exact z
have hl:(putK kvs k v).length≤sizeLine:=by have:=q53 kvs k v;lia
refine wpAny_setItem_heap (hsz:=hz) (c9 hu) (q66 I.hok eb) dd λh' dd' hs=>h _ ?_
obtain⟨q,es,ep,hq,h2,h3,h4,_,h5⟩:=dd'
refine q8K I (by rw[e];exact True.intro) hs ⟨q,hq⟩ ⟨hl,hd,_,(rel.put k eb rv).keeps λc ys ec=>?_,q,es,ep,hq,h2,h3,h4,h5⟩
rw[qC (jZ ec e (λz=>nomatch z))]
exact ec)
end
section
variable{X:Cx}{pins:List (Addr×Obj)}{σ:St}{H:Hp}{s:Shared}{a:Addr}{kvs:List (Key×V)}{k:Key}{u:Value}{A:Around}{E:Value→Shared→Prop}
theorem qIC{v:V}{more:List Value}{Q:Value→Shared→Prop}(I:Inv X pins σ H s)(e:H a=some (.dK kvs))(ry:RelV (kV k) u)(l:valV kvs k=some v)(hm:more=[]∨∃x,more=[x])
 (h:∀w' s',Inv X pins σ (upd H a (.dK (q52 kvs k))) s'→RelV v w'→Q w' s'):wpAny (model X.prog X.w) A (call (.builtin "dict.pop") (.ref a::u::more)) Q E s:=by(
obtain⟨z,hd,vs,rel,dd⟩:=q54 I.hok e
obtain⟨w',hw,rw'⟩:=RelO.some_of (v:=v) (o:=valueAt vs k) (by rw[←l];exact rel.val k)
have hp:(keyPart u).isSome=true:=by
 cases k with
 |inl i=>obtain⟨t,q⟩:=(show ∃t,u=Value.int i t from ry);subst q;rfl
 |inr x=>obtain⟨t,q⟩:=(show ∃t,u=Value.str x t from ry);subst q;rfl
have ha:argsOk "dict.pop" ⟨.ref a::u::more,[]⟩:=by
 rcases hm with q|⟨x,q⟩
 ·subst q;exact PySem.F.args_dict_pop_2 _ _
 subst q;exact lA _ _ _
refine pN cG dd.typeIs lS ha (meets_dict_pop_there (jQ X.prog X.w) a (q65 ry) more hm hp)
 ⟨vs,w',dd,by rw[←rel.length];exact z,hw,λh' dd' hs=>h w' _ ?_ rw'⟩
have he:∃q,h'.get? a=some q:=let⟨q,_,_,hq,_⟩:=dd';⟨q,hq⟩
exact q8K I (by rw[e];exact True.intro) hs he (qE8 (mO (qE7 kvs k) z) hd (rel.drop k) dd'))
theorem qJ5{r:Value}{Q:Value→Shared→Prop}(I:Inv X pins σ H s)(e:H a=some (.dK kvs))(ry:RelV (kV k) u)(l:valV kvs k=none)(h:∀s',Inv X pins σ H s'→Q r s'):
 wpAny (model X.prog X.w) A (call (.builtin "dict.pop") [.ref a,u,r]) Q E s:=by(
obtain⟨z,hd,vs,rel,dd⟩:=q54 I.hok e
have hn:valueAt vs k=none:=RelO.none_of (by rw[←l];exact rel.val k)
have hp:(keyPart u).isSome=true:=by
 cases k with
 |inl i=>obtain⟨t,q⟩:=(show ∃t,u=Value.int i t from ry);subst q;rfl
 |inr x=>obtain⟨t,q⟩:=(show ∃t,u=Value.str x t from ry);subst q;rfl
exact pN cG dd.typeIs lS (lA _ _ _) (meets_dict_pop_default (jQ X.prog X.w) a (q65 ry) hd hp r) ⟨vs,dd,hn,h _ (I.tok _)⟩)
end
noncomputable def NoSl(i:Expr):Prop:=∀ov iv,subscripted i false ov iv=operate [ov,iv] (getItem ov iv)
theorem qGJ{prog:Program}{w:World}{A:Around}{E:Value→Shared→Prop}{s:Shared}{env:Env}{value slice:Expr}{pos:Pos}{T id:String}{Q:Value→Shared→Prop}
 (hl:typeLookup (.type T) "__getitem__"=pure (some (.builtin id))) (hs:NoSl slice)
 (h:wpAny (model prog w) A (eval value env) (λo s₁=>wpAny (model prog w) A (eval slice env) (λi s₂=>s₂.TypeIs o T∧wpAny (model prog w) A (getItem o i) Q E s₂) E s₁) E s):
 wpAny (model prog w) A (eval (.Subscript value slice pos) env) Q E s:=by(
refine bO (dB h (λo s₁ h₁=>dB h₁ (λi s₂ h₂=>?_) λ_ _ x=>x) λ_ _ x=>x)
obtain⟨hT,h₂⟩:=h₂
unfold subscriptTail
refine hV ?_
rw[getitemInPython_of_ne hT.not_modules]
refine hV (wpAny_specialOf hT hl ?_)
have fin:wpAny (model prog w) A (subscripted slice false o i) (λr s₃=>wpAny (model prog w) A (letTemporaryGo value o r >>= λ_=>pure r) Q E s₃) E s₂:=by rw[hs o i];exact wpAny_operating (dB h₂ (λr s₃ h₃=>hV (wpAny_letTemporaryGo (kQ h₃))) λ_ _ x=>x)
first
 |exact kQ (hV fin)
 |exact hV (kQ (hV fin))
 |exact hV fin)
theorem q9P{X:Cx}{pins:List (Addr×Obj)}{σ:St}{H:Hp}{s:Shared}{a:Addr}{y:V}{o:Option V}(I:Inv X pins σ H s)(g:DGet H a y o):s.TypeIs (.ref a) "dict":=by(
rcases g with⟨kvs,k,e,_,_⟩|⟨kvs,k,b,e,_,_,_⟩
·obtain⟨_,_,vs,_,dd⟩:=q82 I.hok e;exact dd.typeIs
obtain⟨_,_,xs,_,dd⟩:=q83 I.hok e
exact dd.typeIs)
noncomputable def qL5(td ty:TE):TE:=λσ H Q=>td σ H λx H1=>ty σ H1 λy H2=>∃a v,x=.ref a∧DGet H2 a y (some v)∧Q v H2
noncomputable def tDIn(ty td:TE):TE:=λσ H Q=>ty σ H λy H1=>td σ H1 λx H2=>∃a o,x=.ref a∧DGet H2 a y o∧Q (.bl o.isSome) H2
noncomputable def qL6(td ty tv:TE):TS:=λD σ H=>tv σ H λv H1=>td σ H1 λx H2=>ty σ H2 λy H3=>∃a H4,x=.ref a∧DPut H3 a y v H4∧D.nx σ H4
section
variable{X:Cx}{o i e value:Expr}{pos pos' tpos:Pos}{td ty tv:TE}
theorem qGK(hu:X.A.units+1<cLine)(ho:PE X o td)(hi:PE X i ty)(hs:NoSl i):PE X (.Subscript o i pos) (qL5 td ty):=by(
intro pins s σ H Q I h
refine qGJ PySem.F.slot_dict_getitem.lookup hs (thn (ho pins s σ H _ I h) λu s1 ⟨x,H1,I1,rx,q1⟩=>thn (hi pins s1 σ H1 _ I1 q1) λiv s2 hZ=>?_)
obtain⟨y,H2,I2,ry,a,v,ex,g,q2⟩:=hZ
subst ex
obtain rfl:u=Value.ref a:=rx
exact⟨q9P I2 g,qD5 hu I2 g ry λw' s3 I3 rw'=>⟨v,H2,I3,rw',q2⟩⟩)
theorem qAY(hu:X.A.units+1<cLine)(hi:PE X i ty)(ho:PE X o td):PC X .In i o (tDIn ty td):=by(
intro pins s σ H Q I h
refine thn (hi pins s σ H _ I h) λiv s1 ⟨y,H1,I1,ry,q1⟩=>thn (ho pins s1 σ H1 _ I1 q1) λu s2 hZ=>?_
obtain⟨x,H2,I2,rx,a,ov,ex,g,q2⟩:=hZ
subst ex
obtain rfl:u=Value.ref a:=rx
exact d_in hu I2 g ry λs3 I3=>⟨.bl ov.isSome,H2,I3,rfl,q2⟩)
theorem q5M(hu:X.A.units+1<cLine)(ho:PE X o td)(hi:PE X i ty)(hv:PE X value tv)(hs:swapsWith value (some (.Subscript o i pos')) pos.line X.env=pure false):
 PS X (.Assign [.Subscript o i pos'] value pos) (qL6 td ty tv):=by(
intro pins s σ H D I h
refine wpAny_Assign_Subscript (thn (hv pins s σ H _ I h) λr s1 ⟨v,H1,I1,rv,q1⟩=>thn (ho pins s1 σ H1 _ I1 q1) λu s2 ⟨x,H2,I2,rx,q2⟩=>thn (hi pins s2 σ H2 _ I2 q2) λiv s3 hZ=>?_) hs
obtain⟨y,H3,I3,ry,a,H4,ex,g,q3⟩:=hZ
subst ex
obtain rfl:u=Value.ref a:=rx
exact qD6 hu I3 g ry rv λs4 I4=>⟨σ,H4,I4,q3⟩)
end
theorem qE9{P:Program}{w:World}{H:Hp}(h:Heap)(hb:sysModules<h.objs.size):jM P w H (h.push { cls:=.type "dict",data:=.dict #[] }) h.objs.size (.dK []):=⟨m9 _,rH.mpr (wS (mZ hb)),[],.nil,Heap.DictOf.new h⟩
noncomputable def qJ6:TE:=λ_ H Q=>∀p,H p=none→Q (.ref p) (upd H p (.dK []))
section
variable{X:Cx}{pos:Pos}
theorem q3V:PE X (.Dict [] [] pos) qJ6:=λpins s σ H Q I h=>wpAny_Dict_empty ⟨.ref s.heap.objs.size,_,I.laid (a:=s.heap.objs.size) (o:=.dK []) (t':=s.toks) (λ_ _ q=>kF _ q) (kO _) (qE9 s.heap I.big),rfl,h _ (I.hok.fresh (kO _))⟩
end
structure M1(X:Cx)(o:Expr)(m:Str)(apos:Pos)(e:Expr)(cpos:Pos):Prop where
base:attributeBase o m X.env (eval o X.env)=eval o X.env
few:((backTo cpos (starEach [e] X.env)).all (λx=>!x.1)&&(backToKw cpos (keywordEach [] X.env)).all (λx=>x.1.isSome)
 &&decide (([e]:List Expr).length+([]:List Keyword).length+(if([]:List Keyword).isEmpty then 0 else 1)<30))=true
line:(apos.endLine==cpos.line)=true
trees:backTo cpos (starEach [e] X.env)=[(false,eval e X.env)]
structure M2(X:Cx)(o:Expr)(m:Str)(apos:Pos)(e f:Expr)(cpos:Pos):Prop where
base:attributeBase o m X.env (eval o X.env)=eval o X.env
few:((backTo cpos (starEach [e,f] X.env)).all (λx=>!x.1)&&(backToKw cpos (keywordEach [] X.env)).all (λx=>x.1.isSome)
 &&decide (([e,f]:List Expr).length+([]:List Keyword).length+(if([]:List Keyword).isEmpty then 0 else 1)<30))=true
line:(apos.endLine==cpos.line)=true
trees:backTo cpos (starEach [e,f] X.env)=[(false,eval e X.env),(false,eval f X.env)]
noncomputable def IsD(H:Hp)(a:Addr):Prop:=(∃kvs,Rd H a (.dK kvs))∨∃kvs,Rd H a (.dT kvs)
theorem qAZ{X:Cx}{pins:List (Addr×Obj)}{σ:St}{H:Hp}{s:Shared}{a:Addr}(I:Inv X pins σ H s)(d:IsD H a):
 s.TypeIs (.ref a) "dict"∧(∀b,Value.ref a=.ref b→∃ob,s.heap.get? b=some ob∧ob.dict=none)∧(a==sysModules)=false:=by(
rcases d with⟨kvs,e⟩|⟨kvs,e⟩
·obtain⟨_,hd,vs,_,dd⟩:=q82 I.hok e;refine⟨dd.typeIs,λb q=>?_,hd⟩;cases q;obtain⟨ob,_,_,h1,h2,_⟩:=dd;exact⟨ob,h1,h2.2.1⟩
obtain⟨_,hd,xs,_,dd⟩:=q83 I.hok e
refine⟨dd.typeIs,λb q=>?_,hd⟩
cases q
obtain⟨ob,_,_,h1,h2,_⟩:=dd
exact⟨ob,h1,h2.2.1⟩)
section
variable{X:Cx}{pins:List (Addr×Obj)}{σ:St}{H:Hp}{s:Shared}{a:Addr}{y d:V}{u r:Value}{o:Option V}{A:Around}{E:Value→Shared→Prop}
theorem qJ7{Q:Value→Shared→Prop}(hu:A.units+1<cLine)(I:Inv X pins σ H s)(g:DGet H a y o)(ry:RelV y u)(rd:RelV d r)(h:∀w' s',Inv X pins σ H s'→RelV (o.getD d) w'→Q w' s'):
 wpAny (model X.prog X.w) A (call (.builtin "dict.get") [.ref a,u,r]) Q E s:=by(
rcases g with⟨kvs,k,e,ey,l⟩|⟨kvs,k,b,e,ey,eb,l⟩
·subst ey;obtain⟨z,hd,vs,rel,dd⟩:=q82 I.hok e;refine pN pR dd.typeIs lT (lB _ _ _) (meets_dict_get_default (jQ X.prog X.w) a (q65 ry) hd r) ⟨_,dd.mapOf,h _ _ (I.tok _) ?_⟩;rw[l];exact(rel.val k).getD rd
subst ey
cases(show u=Value.ref b from ry)
obtain⟨z,hd,xs,rel,dd⟩:=q83 I.hok e
refine pN pR dd.typeIs lT (lB _ _ _) (meetsH_dict_get_default (tupleKind (jQ X.prog X.w)) a b hd r) ⟨c9 hu,k,xs,q66 I.hok eb,dd,h _ _ (I.tok _) ?_⟩
rw[l]
exact(rel.val k).getD rd)
end
noncomputable def qEA(td ty tx:TE):TE:=λσ H Q=>td σ H λx H1=>∃a,x=.ref a∧IsD H1 a∧ty σ H1 λy H2=>tx σ H2 λz H3=>∃o,DGet H3 a y o∧Q (o.getD z) H3
noncomputable def qJ8(td ty:TE):TE:=λσ H Q=>td σ H λx H1=>∃a,x=.ref a∧IsD H1 a∧ty σ H1 λy H2=>∃kvs k v,H2 a=some (.dK kvs)∧y=kV k∧valV kvs k=some v∧Q v (upd H2 a (.dK (q52 kvs k)))
noncomputable def qJ9(td ty tx:TE):TE:=λσ H Q=>td σ H λx H1=>∃a,x=.ref a∧IsD H1 a∧ty σ H1 λy H2=>tx σ H2 λz H3=>∃kvs k,H3 a=some (.dK kvs)∧y=kV k∧(∀v,valV kvs k=some v→Q v (upd H3 a (.dK (q52 kvs k))))∧(valV kvs k=none→Q z H3)
section
variable{X:Cx}{o e f:Expr}{apos cpos:Pos}{td ty tx:TE}
theorem qEB(hu:X.A.units+1<cLine)(ho:PE X o td)(he:PE X e ty)(hf:PE X f tx)(m:M2 X o "get" apos e f cpos):PE X (.Call (.Attribute o "get" apos) [e,f] [] cpos) (qEA td ty tx):=by(
intro pins s σ H Q I h
refine nP m.base m.few m.line rC pR PySem.F.type_dict_get (thn (ho pins s σ H _ I h) λu s1 hZ=>?_)
obtain⟨x,H1,I1,rx,a,ex,d,q1⟩:=hZ
subst ex
obtain rfl:u=Value.ref a:=rx
obtain⟨t1,t2,_⟩:=qAZ I1 d
refine⟨t1,t2,?_⟩
rw[m.trees]
refine rM rfl (cO (rQ (thn (he pins s1 σ H1 _ I1 q1) λiv s2 ⟨y,H2,I2,ry,q2⟩=>rQ (thn (hf pins s2 σ H2 _ I2 q2) λfv s3 ⟨z,H3,I3,rz,ov,g,q3⟩=>pJ ?_))))
exact qJ7 hu I3 g ry rz λw' s4 I4 rw'=>⟨_,H3,I4,rw',q3⟩)
theorem qEC(ho:PE X o td)(he:PE X e ty)(m:M1 X o "pop" apos e cpos):PE X (.Call (.Attribute o "pop" apos) [e] [] cpos) (qJ8 td ty):=by(
intro pins s σ H Q I h
refine nP m.base m.few m.line rC cG xB (thn (ho pins s σ H _ I h) λu s1 hZ=>?_)
obtain⟨x,H1,I1,rx,a,ex,d,q1⟩:=hZ
subst ex
obtain rfl:u=Value.ref a:=rx
obtain⟨t1,t2,_⟩:=qAZ I1 d
refine⟨t1,t2,?_⟩
rw[m.trees]
refine rM rfl (cO (rQ (thn (he pins s1 σ H1 _ I1 q1) λiv s2 ⟨y,H2,I2,ry,kvs,k,v,ea,ey,l,q2⟩=>pJ ?_)))
subst ey
exact qIC I2 ea ry l (.inl rfl) λw' s3 I3 rw'=>⟨v,_,I3,rw',q2⟩)
theorem qED(ho:PE X o td)(he:PE X e ty)(hf:PE X f tx)(m:M2 X o "pop" apos e f cpos):PE X (.Call (.Attribute o "pop" apos) [e,f] [] cpos) (qJ9 td ty tx):=by(
intro pins s σ H Q I h
refine nP m.base m.few m.line rC cG xB (thn (ho pins s σ H _ I h) λu s1 hZ=>?_)
obtain⟨x,H1,I1,rx,a,ex,d,q1⟩:=hZ
subst ex
obtain rfl:u=Value.ref a:=rx
obtain⟨t1,t2,_⟩:=qAZ I1 d
refine⟨t1,t2,?_⟩
rw[m.trees]
refine rM rfl (cO (rQ (thn (he pins s1 σ H1 _ I1 q1) λiv s2 ⟨y,H2,I2,ry,q2⟩=>rQ (thn (hf pins s2 σ H2 _ I2 q2) λfv s3 ⟨z,H3,I3,rz,kvs,k,ea,ey,q3,q4⟩=>pJ ?_))))
subst ey
cases l:valV kvs k with
|some v=>exact qIC I3 ea ry l (.inr ⟨fv,rfl⟩) λw' s4 I4 rw'=>⟨v,_,I4,rw',q3 v l⟩
|none=>exact qJ5 I3 ea ry l λs4 I4=>⟨z,H3,I4,rz,q4 l⟩)
end
end L2
namespace Att
open PySem PySem.W PySem.Calls PyProof.Rows
theorem q59{P:Params}{h:Heap}:∀(ns:List Int) (vs:List Value),WellAll P h vs (ns.map WData.int)→IntsAre vs ns:=by(
intro ns
induction ns with
|nil=>intro vs w;rw[eQ]at w;cases w;exact .nil
|cons n ns ih=>
 intro vs w;rw[mQ]at w;cases w with
 |cons a b=>cases a;exact .cons _ _ (ih _ b))
theorem qD7{l:OpenLaw}{n:Nat}(hn:l.most=some n){P:Params}{h:Heap}{args:List WData}{vals:List Value}
 (hpre:l.row.toRowW.claim.pre args=true) (hwl:WellAll P h vals args):
 ∃a vs ns,vals=[Value.ref a]∧args=[WData.list (ns.map WData.int)]∧h.get? a=some { cls:=.type "list",data:=.seq vs.toArray }∧IntsAre vs ns∧ns.length≤n:=by(
have hsh:WShape.hasAll [] args [.list .int]=true:=(pre_splitW hpre).1
have hc:l.pre.holds [] { args:=args } =true:=(pre_splitW hpre).2
obtain⟨d,r,rfl,h1,h2⟩:=hasAllW_cons hsh
obtain rfl:=hasAllW_nil h2
obtain⟨xs,rfl,h3⟩:=hasW_list h1
obtain⟨ns,rfl⟩:=items_int h3
have hlen:ns.length≤n:=by
 unfold OpenLaw.pre at hc;have h4:(WTm.not (.lt (.lit (.int (n:Int))) (.len (.arg 0)))).holds [] { args:=[.list (ns.map .int)] } =true:=by have h4:=(holds_andW hc).1;rw[hn]at h4;exact h4
 have h5:=condW_of h4 (w_not (w_lt w_lit (w_len_list (w_arg rfl))));rw[hG]at h5;refine Nat.le_of_not_lt λq=>?_;have q':(n:Int)<((ns.length:Nat):Int):=by lia
 first
  |(rw[hC q']at h5;exact absurd h5 (by decide))
  |(simp at h5;lia)
cases hwl with
|cons w1 w2=>
 cases w2;cases w1 with
 |list ho hall=>exact⟨_,_,ns,rfl,rfl,ho,q59 ns _ hall,hlen⟩)
theorem qD8(l:OpenLaw)(args:List WData):l.row.toRowW.claim.post args (.bool true) args=true:=postW_of (r:=l.row.toRowW) (X:=(true==true))
  (show WShape.has [] (.bool true) .bool=true by first|rfl|decide|simp[WShape.has,WShape.arms,WShape.armsAll])
  (show(WTm.eq .res (.lit (.bool true))).value [] { args:=args,res:=some (.bool true),after:=args } =some (.bool (true==true))from w_eq_bool (w_res rfl) w_lit) rfl
theorem attach_call{l:OpenLaw}{n:Nat}{q:Program}{loose:List Str}{XP:(Str→Option Value)→Heap→Prop}{YP:World→Heap→Prop}{d:DefRec}
 (hn:l.most=some n) (hdf:d.params.defaults=[])
 (call:∀(w:World) (s₀ s₁:Shared) (mg mb:Str→Option Value) (fa:Addr) (o:Obj) (pm cd doc:Value) (a:Addr) (vs:List Value) (ns:List Int),Ground q loose [] XP w s₀ mg mb s₁.heap→YP w s₁.heap→s₁.heap.get? fa=some o→o.data=.func (docDef d.name d.params d.body d.scope pm cd doc)→s₁.heap.CodeRec cd d.name→mg d.name=some (.ref fa)→s₁.heap.get? a=some { cls:=.type "list",data:=.seq vs.toArray }→IntsAre vs ns→ns.length≤n→s₁.gens=#[]→codeAny (model l.prog w) callerA (.call (.ref fa) ⟨[.ref a],[]⟩) (λr s'=>r=.ok (.ret (.bool true))∧OldK s₁.heap s'.heap∧s'.os=s₁.os∧AllBare s'.gens) s₁):
 WalkO q loose XP YP l.row.toRowW d [] (λf vs=>PySem.call f vs):=by(
intro w s₀ s₁ mg mb G Y fa o pm cd doc dV kV ho hd hcd hD hmg hg args vals as hpre hlay hrd hwl hlo
obtain rfl:dV=.none:=Dflts.none hD hdf
obtain rfl:kV=.none:=Dflts.noKw hD
obtain⟨a,vs,ns,rfl,rfl,hobj,hints,hlen⟩:=qD7 hn hpre hwl
refine enter_call (pK (call w s₀ s₁ mg mb fa o pm cd doc a vs ns G Y ho (fd_plain hd) hcd hmg hobj hints hlen hg) λr s' hq=>?_)
obtain⟨rfl,h2,h3,h4⟩:=hq
exact⟨.inl ⟨.bool true,.bool true,[],rfl,λ_=>rfl,.bool true,qD8 l _,λ_=>⟨List.Pairwise.nil,λ_ hm=>(nomatch hm)⟩⟩,h2,h3,h4⟩)
end Att
namespace L2
open PySem PySem.Spec PyProof.Rows
theorem q84:∀{vs:List Value} {ns:List Int},IntsAre vs ns→Vals (ns.map V.int) vs
|_,_,.nil=>.nil
|_,_,.cons n t h=>.cons ⟨t,rfl⟩ (q84 h)
noncomputable def qO(s:Stmt)(j:Nat):Stmt:=match s with
| .ClassDef _ _ _ body _ _ _ _ _ _ _=>body.getD j (.Pass ⟨0,0,0,0⟩)
|_=>.Pass ⟨0,0,0,0⟩
noncomputable def yI(s:Stmt):Arguments:=match s with
| .FunctionDef _ a _ _ _ _ _ _ _ _=>a
|_=>{ posonlyargs:=[],args:=[],vararg:=none,kwonlyargs:=[],kw_defaults:=[],kwarg:=none,defaults:=[] }
noncomputable def jW(s:Stmt):List Stmt:=match s with
| .FunctionDef _ _ b _ _ _ _ _ _ _=>b
|_=>[]
noncomputable def qH(s:Stmt):Scope:=match s with
| .FunctionDef _ _ _ _ _ _ sc _ _ _=>sc
|_=>{ kind:=.function,names:=[],isGenerator:=false,isCoroutine:=false }
noncomputable abbrev CX0:CXT:=λ_ _ _ _ _ _=>False
noncomputable abbrev E0:XK:=λ_ _ _=>False
theorem qK{X:Cx}:q0Z CX0 X E0:=λ_ _ _ _ _ _ _ h=>h.elim
theorem q32{A:Around}{k:Nat}(hr:Room k A):A.units+1<cLine:=gM (Nat.add_le_add_left (by decide:1≤64) _) hr.units
section
variable{X:Cx}
theorem pv(i:Nat){x:Str}{pos:Pos}(hN:X.N[i]?=some x:=by rfl)(hv:Vis X.env.scope x:=by first|exact Or.inl rfl|exact Or.inr (Or.inl rfl)|exact Or.inr (Or.inr rfl))(hd:(x==("__debug__":Str))=false:=by decide)
 (hcd:(x==("__classdict__":Str))=false:=by decide):PE X (.Name x pos) (tVar i):=qIT hN hv hd hcd
end
theorem iteF{A B:Prop}(h:B):if false=true then A else B:=by rw[kJ kX];exact h
theorem iteT{A B:Prop}(h:A):if true=true then A else B:=by rw[kL rfl];exact h
theorem ite2{c A B:Prop}[Decidable c](h1:c→A)(h2:¬c→B):if c then A else B:=by(
by_cases h:c
·rw[kL h];exact h1 h
rw[kJ h]
exact h2 h)
noncomputable def Same(H H':Hp):Prop:=∀b o,H b=some o→H' b=some o
theorem Same.refl(H:Hp):Same H H:=λ_ _ h=>h
theorem Same.trans{H H1 H2:Hp}(a:Same H H1)(b:Same H1 H2):Same H H2:=λc o h=>b c o (a c o h)
theorem Same.free{H H':Hp}(e:Same H H'){l:Addr}(h:H' l=Option.none):H l=Option.none:=by(
cases q:H l with
|none=>rfl
|some o=>rw[e l o q]at h;cases h)
theorem Same.seq{K:PySem.W.Frag}{H H':Hp}{a:Addr}{xs:List V}(e:Same H H')(h:SqL K H a xs):SqL K H' a xs:=by(
rcases h with(h|⟨o,h⟩)|h
·exact .inl (.inl (e _ _ h))
·exact .inl (.inr ⟨o,e _ _ h⟩)
exact .inr h)
section
variable{X:Cx}
theorem q1R:PGet X (rIxL X.K):=by(
intro pins s σ H o i ov iv Q I ro ri h
obtain⟨p,xs,k,z,rfl,rfl,hq,he,q⟩:=h
cases ro
obtain⟨t,rfl⟩:=ri
obtain⟨its,r,pl,hz⟩:=I.list hq
obtain⟨j,h1,h2,h3,h4,h5⟩:=q8I he
obtain⟨w,ew,rw'⟩:=r.get h2
have hl:=r.length
have hn:=q5Y
have fin:EP X pins σ Q w s:=⟨z,H,I,rw',q⟩
by_cases h0:0≤k
·have hj:k.toNat=j:=by rw[xI h0 h5]at h1;exact kZ h1
 exact wpAny_getItem_list pl.isList h0 (by lia) (by rw[hj];simpa using ew) fin
have hj:(k+(its.toArray.size:Int)).toNat=j:=by rw[lO (by lia) h4]at h1;rw[mI,←hl];exact kZ h1
exact lR pl.isList (by lia) (by rw[mI]<;>lia) (by lia) (by rw[hj];simpa using ew) fin)
end
noncomputable def isW:V→Bool
| .int _=>true
|_=>false
noncomputable def isI:V→Bool
| .int _=>true
| .bl _=>true
|_=>false
noncomputable def isB:V→Bool
| .bl _=>true
|_=>false
noncomputable def isS:V→Bool
| .str _=>true
|_=>false
inductive Knd(H:Hp):V→Prop where
|non:Knd H .non
|bl (b:Bool):Knd H (.bl b)
|int (i:Int):Knd H (.int i)
|str (x:Str):Knd H (.str x)
|lst {a:Addr} {xs:List V} (e:H a=some (.lst xs)):Knd H (.ref a)
|tup {a:Addr} {xs:List V} (e:H a=some (.tup xs)):Knd H (.ref a)
section
variable{K:PySem.W.Frag}{H:Hp}{x:V}
theorem qJA:PySem.W.kitOne K (.type "NoneType") (.type "int")=some false:=by kernel_rfl
theorem qJB:PySem.W.kitOne K (.type "bool") (.type "int")=some true:=by kernel_rfl
theorem qJC:PySem.W.kitOne K (.type "int") (.type "int")=some true:=by kernel_rfl
theorem qJD:PySem.W.kitOne K (.type "str") (.type "int")=some false:=by kernel_rfl
theorem qJE:PySem.W.kitOne K (.type "list") (.type "int")=some false:=by kernel_rfl
theorem qJF:PySem.W.kitOne K (.type "tuple") (.type "int")=some false:=by kernel_rfl
theorem qJG:PySem.W.kitOne K (.type "NoneType") (.type "bool")=some false:=by kernel_rfl
theorem qJH:PySem.W.kitOne K (.type "bool") (.type "bool")=some true:=by kernel_rfl
theorem qJI:PySem.W.kitOne K (.type "int") (.type "bool")=some false:=by kernel_rfl
theorem qJJ:PySem.W.kitOne K (.type "str") (.type "bool")=some false:=by kernel_rfl
theorem qJK:PySem.W.kitOne K (.type "list") (.type "bool")=some false:=by kernel_rfl
theorem qJL:PySem.W.kitOne K (.type "tuple") (.type "bool")=some false:=by kernel_rfl
theorem qJM:PySem.W.kitOne K (.type "NoneType") (.type "str")=some false:=by kernel_rfl
theorem qJN:PySem.W.kitOne K (.type "bool") (.type "str")=some false:=by kernel_rfl
theorem qJO:PySem.W.kitOne K (.type "int") (.type "str")=some false:=by kernel_rfl
theorem qJP:PySem.W.kitOne K (.type "str") (.type "str")=some true:=by kernel_rfl
theorem qJQ:PySem.W.kitOne K (.type "list") (.type "str")=some false:=by kernel_rfl
theorem qJR:PySem.W.kitOne K (.type "tuple") (.type "str")=some false:=by kernel_rfl
theorem qJS:PySem.W.kitOne K (.type "tuple") (.type "tuple")=some true:=by kernel_rfl
theorem Knd.ty(k:Knd H x):∃t,TyOf K H x t∧PySem.W.kitOne K t (.type "int")=some (isI x)∧PySem.W.kitOne K t (.type "bool")=some (isB x)∧PySem.W.kitOne K t (.type "str")=some (isS x):=by(
cases k with
|non=>exact⟨_,.non,qJA,qJG,qJM⟩
|bl b=>exact⟨_,.bl b,qJB,qJH,qJN⟩
|int i=>exact⟨_,.int i,qJC,qJI,qJO⟩
|str y=>exact⟨_,.str y,qJD,qJJ,qJP⟩
|lst e=>exact⟨_,.lst e,qJE,qJK,qJQ⟩
|tup e=>exact⟨_,.tup e,qJF,qJL,qJR⟩)
theorem qEE(x:V):(if isI x=true then !isB x else false)=isW x:=by cases x<;>rfl
end
noncomputable def jT(ns:List Int)(k:Int):Int:=ns.getD k.toNat 0
theorem qD9{ns:List Int}{k:Int}(h0:0≤k)(h:k<ns.length):atI (ns.map V.int) k=some (.int (jT ns k)):=by(
obtain⟨j,rfl⟩:=rD h0
refine yK ?_
have hj:j<ns.length:=by lia
unfold jT
simp[hj])
theorem qB0{ns:List Int}{k:Int}(h0:0≤k)(h:¬k<ns.length):jT ns k=0:=by unfold jT;rw[kI,dH (by lia)];rfl
theorem Same.upd{H:Hp}{p:Addr}{o:HO}(h:H p=none):Same H (upd H p o):=λb u e=>by rw[qC (qF e h)];exact e
noncomputable abbrev NewO(H:Hp)(o:HO)(Q:VK):Prop:=∀p H',H p=none→Same H H'→H' p=some o→Q (.ref p) H'
theorem NewO.at{H:Hp}{o:HO}{Q:VK}(q:NewO H o Q)(p:Addr)(n:H p=none):Q (.ref p) (upd H p o):=q p _ n (Same.upd n) qI
section
variable{X:Cx}{e:Expr}{es:List Expr}{t:TA}{pos:Pos}
noncomputable def qID(t:TA):TE:=λσ H Q=>t σ H λxs H1=>xs.length≤sizeLine∧NewO H1 (.tup xs) Q
noncomputable def qL7(t:TA):TE:=λσ H Q=>t σ H λxs H1=>xs.length≤sizeLine∧NewO H1 (.lst xs) Q
theorem yP{x1}(h:PA X es t):PE X (.Tuple es x1 pos) (qID t):=by(
intro pins s σ H Q I hq
refine wpAny_Tuple_spliced (thn (h pos pins s σ H _ I hq) λus s1 ⟨xs,H1,I1,r,z,q⟩=>⟨by rw[←r.length];exact z,?_⟩)
have hf:H1 s1.heap.objs.size=none:=I1.hok.fresh (kO _)
refine⟨.ref s1.heap.objs.size,upd H1 s1.heap.objs.size (.tup xs),I1.laid (t':=s1.toks) (λb u e=>kF _ e) (kO _) ?_,rfl,q.at _ hf⟩
exact⟨z,us,r,⟨_,mR _ rfl,rfl,_,rfl⟩⟩)
theorem jU(h:PA X es t):PE X (.List es pos) (qL7 t):=by(
intro pins s σ H Q I hq
refine wpAny_List_spliced (thn (h pos pins s σ H _ I hq) λus s1 ⟨xs,H1,I1,r,z,q⟩=>⟨by rw[←r.length];exact z,?_⟩)
have hf:H1 s1.heap.objs.size=none:=I1.hok.fresh (kO _)
refine⟨.ref s1.heap.objs.size,upd H1 s1.heap.objs.size (.lst xs),I1.laid (t':=s1.toks) (λb u e=>kF _ e) (kO _) ?_,rfl,q.at _ hf⟩
exact⟨z,us,0,r,mR _ rfl⟩)
noncomputable def qL8:R2:=λx y H Q=>∃l k v,x=.ref l∧y=.int k∧H l=some (.lst [v])∧0≤k∧k≤100000∧NewO H (.lst (List.replicate k.toNat v)) Q
theorem q9Q{α:Type}(v:α):∀k:Nat,(List.replicate k [v]).flatten=List.replicate k v
|0=>rfl
|k+1=>by rw[dU,cI,q9Q v k,dU];rfl
theorem zV:OpR X (binaryOp .Mult) qL8:=by(
intro pins s σ H x y v u Q I rx ry hZ
obtain⟨l,k,z,e1,e2,h1,h2,h3,q⟩:=hZ
refine qJ4 pins s σ H x y v u Q I rx ry ⟨l,k,[z],e1,e2,h1,by lia,by lia,?_,?_⟩
·rw[gW,gQ];lia
rw[q9Q]
exact q.at)
theorem q01:q1H X (.type "list") (λxs H Q=>∃p ys,xs=[.ref p]∧(SqL X.K H p ys∨SqT X.K H p ys)∧NewO H (.lst ys) Q):=by intro pins s σ H xs us Q I r hZ;obtain⟨p,ys,e,h,q⟩:=hZ;exact q8J pins s σ H xs us Q I r ⟨p,ys,e,h,q.at⟩
end
noncomputable def qC0:Sp:=λvs H Q _=>∃x,vs=[x]∧Knd H x∧Q (.bl (isW x)) H
noncomputable def inB(x:V)(lo hi:Int):Bool:=match x with
| .int i=>decide (lo≤i)&&decide (i≤hi)
|_=>false
noncomputable def qEF:Sp:=λvs H Q _=>∃x lo hi,vs=[x,.int lo,.int hi]∧Knd H x∧Q (.bl (inB x lo hi)) H
noncomputable def qJT(K:PySem.W.Frag):Sp:=λvs H Q _=>∃a ns k,vs=[.ref a,.int k]∧SqL K H a (ns.map V.int)∧0≤k∧Q (.int (jT ns k)) H
end L2
namespace L2
open PySem
theorem lt2{vs:Array Value}{v:Value}(h:vs[2]?=some v):1<vs.size:=aN (cP.mp h).1
noncomputable def ExO(h:Heap)(e:Addr)(C:Value)(od:Option Addr)(vs:Array Value):Prop:=∃oe,h.get? e=some oe∧oe.cls=C∧oe.dict=od∧oe.data=.fields vs∧vs[2]?=some .none
noncomputable def TrO(h:Heap)(e T:Addr)(vs:Array Value)(f:Value):Prop:=vs[1]?=some (.ref T)∧T≠e∧∃oT ts,h.get? T=some oT∧oT.data=.fields ts∧ts[3]?=some f
noncomputable def Air(L:Addr)(h:Heap)(e:Addr)(C:Value)(od:Option Addr):Option Addr→Prop
|none=>∃vs,ExO h e C od vs∧vs[1]?=some .none
|some T=>∃vs f,ExO h e C od vs∧TrO h e T vs f∧(f=.none∨f=rawInt L)
noncomputable def Held(f:Value)(h:Heap)(e T:Addr)(C:Value)(od:Option Addr):Prop:=∃vs,ExO h e C od vs∧TrO h e T vs f
structure Chg(fr rs:List Addr)(h h':Heap):Prop where
keep:∀b o,b∉fr→b∉rs→h.get? b=some o→h'.get? b=some o
slot:∀b o,b∉rs→h.get? b=some o→∃sl,h'.get? b=some { o with slots:=sl }
there:∀b o,h.get? b=some o→∃o',h'.get? b=some o'
theorem Chg.refl{fr rs:List Addr}{h:Heap}:Chg fr rs h h:=⟨λ_ _ _ _ e=>e,λ_ o _ e=>⟨o.slots,e⟩,λ_ o e=>⟨o,e⟩⟩
theorem Chg.trans{fr rs:List Addr}{h h1 h2:Heap}(x:Chg fr rs h h1)(y:Chg fr rs h1 h2):Chg fr rs h h2:=⟨λb o f r e=>y.keep b o f r (x.keep b o f r e),λb o r e=>let⟨_,e1⟩:=x.slot b o r e;let⟨sl,e2⟩:=y.slot b _ r e1;⟨sl,e2⟩,λb o e=>let⟨_,e1⟩:=x.there b o e;y.there b _ e1⟩
theorem Chg.fresh{fr rs rs':List Addr}{h h1 h2:Heap}(x:Chg fr rs h h1)(y:Chg fr rs' h1 h2)(n:∀b∈rs',b∈rs∨h.get? b=none):Chg fr rs h h2:=by
 have m:∀b o,b∉rs→h.get? b=some o→b∉rs':=λb o r e z=>(n b z).elim r λq=>by rw[q]at e;cases e
 exact⟨λb o f r e=>y.keep b o f (m b o r e) (x.keep b o f r e),λb o r e=>let⟨_,e1⟩:=x.slot b o r e;let⟨sl,e2⟩:=y.slot b _ (m b o r e) e1;⟨sl,e2⟩,λb o e=>let⟨_,e1⟩:=x.there b o e;y.there b _ e1⟩
theorem Chg.slots{fr rs:List Addr}{h h':Heap}(x:Heap.SlotsOnly fr h h'):Chg fr rs h h':=⟨λb o f _ e=>(x.2.1 b f).trans e,λb o _ e=>x.2.2 b o e,λb o e=>let⟨sl,q⟩:=x.2.2 b o e;⟨_,q⟩⟩
theorem Chg.upd{fr rs:List Addr}{h:Heap}{a:Addr}{f:Obj→Obj}(ha:a∈rs)(hf:∀o,h.get? a=some o→(f o).isFreed=false):Chg fr rs h (h.update a f):=by(
have k:∀b o,b∉rs→h.get? b=some o→(h.update a f).get? b=some o:=λb o r e=>by exact(mF h f (λ(q:a=b)=>r (q▸ha))).trans e
refine⟨λb o _ r e=>k b o r e,λb o r e=>⟨o.slots,k b o r e⟩,λb o e=>?_⟩
by_cases q:b=a
·subst q;exact⟨_,dZ f e (hf o e)⟩
exact⟨o,by rw[mF h f (wS q)];exact e⟩)
theorem Chg.push{fr rs:List Addr}{h:Heap}{o:Obj}:Chg fr rs h (h.push o):=⟨λb u _ _ e=>kF _ e,λb u _ e=>⟨u.slots,kF _ e⟩,λb u e=>⟨u,kF _ e⟩⟩
theorem qDA(o:Obj)(f:Array Value→Array Value):(o.mapFields f).dict=o.dict:=by obtain⟨c,d,dt,sl⟩:=o;cases dt<;>rfl
theorem ExO.set{h:Heap}{e:Addr}{C:Value}{od:Option Addr}{vs:Array Value}(x:ExO h e C od vs)(i:Nat)(v:Value)(hi:i≠2:=by decide):ExO (h.update e (Obj.mapFields (·.setIfInBounds i v))) e C od (vs.setIfInBounds i v):=by obtain⟨oe,h1,h2,h3,h4,h5⟩:=x;have hd:=pA h4 (·.setIfInBounds i v);exact⟨_,dZ _ h1 (rS hd),(Obj.cls_mapFields _ _).trans h2,(qDA _ _).trans h3,hd,(Array.getElem?_setIfInBounds_ne hi).trans h5⟩
theorem ExO.of{h h':Heap}{e:Addr}{C:Value}{od:Option Addr}{vs:Array Value}(x:ExO h e C od vs)(k:∀o,h.get? e=some o→h'.get? e=some o):ExO h' e C od vs:=let⟨oe,h1,r⟩:=x;⟨oe,k _ h1,r⟩
section
variable{M:Model}{A:Around}{E:Value→Shared→Prop}{s:Shared}{env:Env}{outer:List Env}{L e T:Addr}{C:Value}{od:Option Addr}{base:Heap}
theorem ExO.nofr{h:Heap}{l:List Env}{vs:Array Value}(x:ExO h e C od vs)(hl:h.FunFrames base l):e∉l.filterMap (·.frame):=λhm=>by(
obtain⟨_,o,ho,hn⟩:=hl.mem hm
obtain⟨oe,h1,_,_,h4,_⟩:=x
rw[h1]at ho
cases ho
exact hn _ h4)
theorem q9R{head:Value}{hn:Bool}{vs:Array Value}{Q:Unit→Shared→Prop}(hfr:A.frames=some (env::outer))(hl:s.heap.FunFrames base (env::outer))(hf:env.frame=some L)(x:ExO s.heap e C od vs)
 (q:∀h' T,Chg ((env::outer).filterMap (·.frame)) [e] s.heap h'→Held (rawInt L) h' e T C od→s.heap.objs.size≤T→Q () { s with heap:=h' }):
 wpAny M A (do let a←frameOf env;let pl←entryPlaceOf L hn;let b←EntryCells.newEntry head a .none (rawInt L) .none pl;setField (.ref e) 1 b) Q E s:=by(
have ne:=x.nofr hl
refine hV (wpAny_frameOf_fun hfr hl hf λh1 so=>hV (wpAny_entryPlaceOf λpl hp=>?_))
unfold EntryCells.newEntry newFields
refine hV (rY ?_ (hp.sizeOk5 _ _ _ _ _))
have x1:ExO h1 e C od vs:=x.of λo z=>(so.2.1 e ne).trans z
have x2:=x1.of (h':=h1.push _) λo z=>kF { cls:=.type "traceback",dict:=none,data:=.fields ([head,.ref L,.none,rawInt L,.none]++(if pl.isEmpty then List.replicate 6 Value.none else pl)).toArray } z
obtain⟨oe,a1,a2,a3,a4,a5⟩:=id x2
refine xJ a1 a4 (lt2 a5) ?_
have hlt:e<h1.objs.size:=let⟨_,z,_⟩:=x1;mE z
have fresh:s.heap.objs.size≤h1.objs.size:=pH so.1.symm
refine q _ h1.objs.size (((Chg.slots so).trans Chg.push).trans (Chg.upd (kD.mpr rfl) λo z=>?_)) ⟨_,x2.set 1 _,?_,rL hlt,{ cls:=.type "traceback",dict:=none,data:=.fields ([head,.ref L,.none,rawInt L,.none]++(if pl.isEmpty then List.replicate 6 Value.none else pl)).toArray },_,?_,rfl,?_⟩ fresh
·rw[a1]at z;cases z;exact rS (pA a4 _)
·simp[lt2 a5]
·rw[mF _ _ (mZ hlt)];exact mR h1 rfl
first|(simp;done)|(rcases hp with rfl|⟨_,_,_,_,_,_,_,rfl⟩<;>simp))
theorem qC1{tr:Option Addr}{Q:Unit→Shared→Prop}(hfr:A.frames=some (env::outer))(hl:s.heap.FunFrames base (env::outer))(hf:env.frame=some L)(x:Air L s.heap e C od tr)
 (q:∀h' T,Chg ((env::outer).filterMap (·.frame)) (e::tr.toList) s.heap h'→Held (rawInt L) h' e T C od→(T∈tr∨s.heap.objs.size≤T)→Q () { s with heap:=h' }):
 wpAny M A (noteFrame (.ref e) env) Q E s:=by(
unfold noteFrame
simp only[hf]
cases tr with
|none=>obtain⟨vs,x,h1⟩:=x;obtain⟨oe,a1,a2,a3,a4,a5⟩:=id x;refine hV (cN a1 a4 h1 ?_);rw[kJ (by decide)];exact q9R hfr hl hf x λh' T c hd n=>q h' T c hd (.inr n)
|some T=>
 obtain⟨vs,f,x,⟨t1,t2,oT,ts,t3,t4,t5⟩,hfl⟩:=x;obtain⟨oe,a1,a2,a3,a4,a5⟩:=id x;refine hV (cN a1 a4 t1 ?_);rw[kL (by simp)];refine hV (cN t3 t4 t5 ?_);rcases hfl with rfl|rfl
 ·rw[kJ (by simp[rawInt])];refine hV (xJ t3 t4 (cP.mp t5).1 ?_);have k:∀b o,b≠T→s.heap.get? b=some o→(s.heap.update T (Obj.mapFields (·.setIfInBounds 3 Value.none))).get? b=some o:=λb o n z=>(mF _ _ (wS n)).trans z;have hl2:(s.heap.update T (Obj.mapFields (·.setIfInBounds 3 Value.none))).FunFrames base (env::outer):=hl.of_keeps λb o z nf=>⟨o,k b o (λw=>by subst w;rw[t3]at z;cases z;exact nf _ t4) z,rfl⟩;refine q9R (s:={ s with heap:=s.heap.update T (Obj.mapFields (·.setIfInBounds 3 Value.none)) }) hfr hl2 hf (x.of λo z=>k e o (wS t2) z) λh' T' c hd n=>q h' T' ?_ hd ?_
  ·refine(Chg.upd (a:=T) (by simp) λo z=>?_).fresh c λb hb=>.inl ?_
   ·rw[t3]at z;cases z;exact rS (pA t4 _)
   rw[kD.mp hb];exact kY
  exact .inr (mO (pH (Heap.size_after_update ..).symm) n)
 rw[kL (by simp)];exact kQ (q _ T .refl ⟨vs,x,t1,t2,oT,ts,t3,t4,t5⟩ (.inl rfl)))
theorem q2O{f:Value}{fr:Option Addr}{Q:Unit→Shared→Prop}(x:Held f s.heap e T C od)
 (q:∀h',Chg [] [T] s.heap h'→Held (fr.elim .none λf=>rawInt f) h' e T C od→Q () { s with heap:=h' }):wpAny M A (setFlight (.ref e) fr) Q E s:=by(
obtain⟨vs,x,t1,t2,oT,ts,t3,t4,t5⟩:=x
obtain⟨oe,a1,a2,a3,a4,a5⟩:=id x
have hz:=(cP.mp t5).1
unfold setFlight
refine hV (cN a1 a4 t1 ?_)
rw[kL (by simp)]
have hd:=pA t4 (·.setIfInBounds 3 (fr.elim .none λf=>rawInt f))
refine xJ t3 t4 hz (q _ (Chg.upd (by simp) λo z=>?_) ⟨vs,x.of λo z=>?_,t1,t2,_,_,dZ _ t3 (rS hd),hd,by simp[hz]⟩)
·rw[t3]at z;cases z;exact rS hd
exact(mF _ _ t2).trans z)
theorem Held.air{f:Value}{h:Heap}(x:Held f h e T C od)(hf:f=.none∨f=rawInt L):Air L h e C od (some T):=let⟨vs,a,b⟩:=x;⟨vs,f,a,b,hf⟩
theorem qEG{tr:Option Addr}{Q:Unit→Shared→Prop}(hfr:A.frames=some (env::outer))(hl:s.heap.FunFrames base (env::outer))(hf:env.frame=some L)(x:Air L s.heap e C od tr)
 (q:∀h' T,Chg ((env::outer).filterMap (·.frame)) (e::tr.toList) s.heap h'→Held .none h' e T C od→(T∈tr∨s.heap.objs.size≤T)→Q () { s with heap:=h' }):wpAny M A (leaving env (.ref e)) Q E s:=by(
unfold leaving
refine hV (qC1 hfr hl hf x λh' T c hd n=>q2O hd λh2 c2 hd2=>q h2 T ?_ hd2 n)
refine c.fresh (rs':=[T]) ⟨λb o _ r z=>c2.keep b o (by simp) r z,c2.slot,c2.there⟩ λb hb=>?_
rw[kD.mp hb]
exact n.imp (λz=>kB _ (by cases tr with|none=>cases z|some t=>cases z;exact kD.mpr rfl)) p7)
end
end L2
namespace L2
open PySem PySem.Spec PyProof.Rows
section
variable{P:Program}{w:World}{H:Hp}{h h':Heap}{a:Addr}{o:HO}
theorem jM.there(x:jM P w H h a o):∃ob,h.get? a=some ob:=by(
cases o with
|lst xs=>obtain⟨_,_,_,_,e⟩:=x;exact⟨_,e⟩
|tup xs=>obtain⟨_,_,_,_,e,_⟩:=x;exact⟨_,e⟩
|dK kvs=>obtain⟨_,_,_,_,o,_,_,e,_⟩:=x;exact⟨_,e⟩
|dT kvs=>obtain⟨_,_,_,_,o,_,_,e,_⟩:=x;exact⟨_,e⟩
|set S n=>obtain⟨o,_,_,_,e,_⟩:=x;exact⟨_,e⟩
|ins C dx fs=>obtain⟨_,_,_,e,_⟩:=x;exact⟨_,e⟩
|own y=>exact x
|xd fs=>obtain⟨_,⟨_,_,_,e,_⟩,_⟩:=x;exact⟨_,e⟩
|rng lo hi=>obtain⟨_,_,_,e⟩:=x;exact⟨_,e⟩
|frz ob u=>exact⟨_,x.1⟩
|tbl ps=>exact⟨_,show h.get? a=some _ from x⟩
|met f y=>exact⟨_,show h.get? a=some _ from x⟩
|ext φ=>exact x.2.1)
theorem HOk.free(x:HOk P w H h)(e:h.get? a=none):H a=none:=by(
cases q:H a with
|none=>rfl
|some o=>obtain⟨_,z⟩:=(x a o q).there;rw[e]at z;cases z)
theorem HOk.chg{fr rs:List Addr}(x:HOk P w H h)(c:Chg fr rs h h')(hf:∀b∈fr,H b=none)(hr:∀b∈rs,H b=none):HOk P w H h':=by(
intro a o e
refine(x a o e).stay (λb u hb z=>?_) (λ_ q=>q) λ_ _ q=>q
have n:H b≠none:=by
 rcases hb with rfl|q
 ·rw[e];intro y;cases y
 rw[q];intro y;cases y
exact c.keep b u (λm=>n (hf b m)) (λm=>n (hr b m)) z)
end
noncomputable def Recs(h:Heap)(rs:List Addr):Prop:=∀b∈rs,∃o vs,h.get? b=some o∧o.data=.fields vs
theorem Air.recs{L e:Addr}{h:Heap}{C:Value}{od tr:Option Addr}(x:Air L h e C od tr):Recs h (e::tr.toList):=by(
intro b hb
cases tr with
|none=>
 obtain⟨vs,⟨oe,a1,_,_,a4,_⟩,_⟩:=x;have e':b=e:=by simpa using hb
 subst e';exact⟨_,_,a1,a4⟩
|some T=>
 obtain⟨vs,f,⟨oe,a1,_,_,a4,_⟩,⟨_,_,oT,ts,t3,t4,_⟩,_⟩:=x;have e':b=e∨b=T:=by simpa using hb
 rcases e' with rfl|rfl
 ·exact⟨_,_,a1,a4⟩
 exact⟨_,_,t3,t4⟩)
noncomputable def Ours(X:Cx)(pins:List (Addr×Obj))(H:Hp)(rs:List Addr):Prop:=∀b∈rs,(X.s₀.heap.get? b=none∨b∈X.ex)∧H b=none∧∀p∈X.pn++pins,p.1≠b
section
variable{X:Cx}{pins:List (Addr×Obj)}{σ:St}{H:Hp}{s:Shared}{h':Heap}{rs:List Addr}
theorem Inv.chg{t':Nat}(I:Inv X pins σ H s)(c:Chg (frs X.stack) rs s.heap h')(o:Ours X pins H rs)(rc:Recs s.heap rs):Inv X pins σ H { s with heap:=h',toks:=t' }:=by(
obtain⟨m,hn,hv⟩:=I.loc
have nl:X.env.locals∉rs:=λz=>by obtain⟨ob,vs,e,d⟩:=rc _ z;obtain⟨o',es,ep,ho,hd,_⟩:=hn;rw[e]at ho;cases ho;rw[d]at hd;cases hd
have nc:∀c v,s.heap.IsCell c v→c∉rs:=λc v q z=>by obtain⟨ob,vs,e,d⟩:=rc _ z;obtain⟨o',ho,hd⟩:=q;rw[e]at ho;cases ho;rw[d]at hd;cases hd
have cellk:∀c v,s.heap.IsCell c v→h'.IsCell c v:=λa v q=>by have n:=nc a v q;obtain⟨o',ho,hd⟩:=q;obtain⟨sl,z⟩:=c.slot a o' n ho;exact⟨_,z,hd⟩
have old:∀b ob,X.s₀.heap.get? b=some ob→b∉X.ex→b∉rs:=λb ob q ne z=>by
 rcases(o b z).1 with y|y
 ·rw[q]at y;cases y
 exact ne y
have ns':h'.Ns X.env.locals m:=by obtain⟨o',es,ep,ho,r⟩:=hn;obtain⟨sl,z⟩:=c.slot _ o' nl ho;exact⟨_,es,ep,z,r⟩
refine⟨I.ok,I.os,I.bare,⟨λb ob q n nf ne=>?_,λb ob q n hf ne=>?_,I.base.free,λb ob q ne=>?_,I.base.tups,I.base.frzs,I.base.tbls⟩,⟨m,ns',λi x v e1 e2 e3=>?_⟩,λx a e=>?_,I.free,I.freeC,λp hp=>?_,I.hok.chg c I.stkFree λb hb=>(o b hb).2.1,I.len⟩
·refine c.keep b ob (λz=>?_) (old b ob q ne) (I.base.keep b ob q n nf ne);rcases kN.mp (I.stkSub b z)with rfl|y
 ·exact absurd (mE q) (nJ.mpr I.ok.above)
 exact nf y
·obtain⟨sl,z⟩:=I.base.slot b ob q n hf ne;obtain⟨sl',z'⟩:=c.slot b _ (old b ob q ne) z;exact⟨sl',z'⟩
·obtain⟨o',z⟩:=I.base.there b ob q ne;exact c.there b o' z
·obtain⟨u,r,lk⟩:=hv i x v e1 e2 e3;refine⟨u,r,lk.imp id λ⟨k,cc,l,q⟩=>⟨k,cc,l,cellk _ _ q⟩⟩
·obtain⟨v,q⟩:=I.cell x a e;exact⟨v,cellk _ _ q⟩
obtain⟨p1,p2,p3,p4,p5⟩:=I.pin p hp
refine⟨c.keep _ _ (λz=>?_) (λz=>(o _ z).2.2 p hp rfl) p1,p2,p3,p4,p5⟩
rcases kN.mp (I.stkSub _ z)with y|y
·exact p3 y
exact p4 y)
end
noncomputable def CXe(P:Program)(w:World):CXT:=λouter H s E e s'=>∃ea T C od H',e=.ref ea∧s'.os=s.os∧AllBare s'.gens∧Un (frs outer) [] H H' s.heap s'.heap∧HOk P w H' s'.heap∧Held .none s'.heap ea T C od∧(s.heap.get? ea=none∧s.heap.get? T=none)∧(H' ea=none∧H' T=none)∧E C od H'
noncomputable def q33(X:Cx)(ES:St→XK):Prop:=∀(pins:List (Addr×Obj)) (σ:St) (H:Hp) (s:Shared) (ea:Addr) (tr:Option Addr) (C:Value) (od:Option Addr),Inv X pins σ H s→Air X.env.locals s.heap ea C od tr→Ours X pins H (ea::tr.toList)→ES σ C od H→X.xe (.ref ea) s
noncomputable def qGL(CX:CXT)(X:Cx)(ES:St→XK):Prop:=∀(pins:List (Addr×Obj)) (σ:St) (H:Hp) (s:Shared) (e:Value) (s':Shared),Inv X pins σ H s→CX X.stack H s (ES σ) e s'→X.xe e s'
theorem q33.passes{X:Cx}{ES:St→XK}(t:q33 X ES):qGL (CXe X.prog X.w) X ES:=by(
intro pins σ H s e s' I hZ
obtain⟨ea,T,C,od,H',e1,ho,hg,u,hok,hd,⟨f1,f2⟩,⟨g1,g2⟩,q⟩:=hZ
subst e1
refine t pins σ H' s' ea (some T) C od (I.call' ho u hok hg λb hb=>by cases hb) (hd.air (.inl rfl)) (λb hb=>?_) q
have key:∀b,s.heap.get? b=none→H' b=none→(X.s₀.heap.get? b=none∨b∈X.ex)∧H' b=none∧∀p∈X.pn++pins,p.1≠b:=λb f g=>by
 refine⟨?_,g,λp hp z=>?_⟩
 ·by_cases y:b∈X.ex
  ·exact .inr y
  refine .inl ?_;cases z:X.s₀.heap.get? b with
  |none=>rfl
  |some ob=>obtain⟨o',z'⟩:=I.base.there b ob z y;rw[f]at z';cases z'
 have y:=(I.pin p hp).1;rw[z,f]at y;cases y
have e':b=ea∨b=T:=by simpa using hb
rcases e' with rfl|rfl
·exact key _ f1 g1
exact key _ f2 g2)
theorem jI{P:Program}{w:World}{K:PySem.W.Frag}{mg:Str→Option Value}{base:Heap}{N:List Str}{qual:Str}{scope:Scope}{f:Addr}{cd:Value}{A:Around}{outer:List Env}{s:Shared}{H:Hp}{E:XK}:
 q33 (cxOf (CXe P w) P w K mg base N qual scope f cd A outer s H E) (λ_=>E):=by(
intro pins σ H' s' ea tr C od I air ours q
refine qEG (base:=base) I.ok.frames I.stack rfl air λh' T c hd n=>?_
have I2:=I.chg (t':=s'.toks) c ours air.recs
have out:∀b,s'.heap.objs.size≤b→s.heap.get? b=none:=λb z=>by
 cases y:s.heap.get? b with
 |none=>rfl
 |some ob=>obtain⟨o',y'⟩:=I.base.there b ob y (by intro m;cases m);exact absurd (mE y') (nJ.mpr z)
have own:∀b,b∈ea::tr.toList→s.heap.get? b=none∧H' b=none:=λb hb=>⟨(ours b hb).1.elim id (λz=>by cases z),(ours b hb).2.1⟩
have hT:s.heap.get? T=none∧H' T=none:=by
 rcases n with z|z
 ·exact own T (kB _ (by cases tr with|none=>cases z|some t=>cases z;exact kD.mpr rfl))
 exact⟨out T z,I.hok.fresh z⟩
exact⟨ea,T,C,od,H',rfl,I.os,I.bare,I2.base,I2.hok,hd,⟨(own ea (kY)).1,hT.1⟩,⟨(own ea (kY)).2,hT.2⟩,q⟩)
noncomputable def qEH(C:Addr)(m:Str)(sp:Sp)(dvs:List V)(ES:St→XK)(ta:TE)(t:TA):TE:=λσ H Q=>ta σ H λx H1=>∃a dx fs,x=.ref a∧H1 a=some (.ins C dx fs)∧fs.lookup m=none∧t σ H1 λvs H2=>sp (x::(vs++dvs)) H2 Q (ES σ)
theorem vM{X:Cx}:q33 X (λ_ _ _ _=>False):=λ_ _ _ _ _ _ _ _ _ _ _ h=>h.elim
section
variable{X:Cx}{k:Nat}{f C:Addr}{fd:FuncData}{ps:List Str}{sp:Sp}{dvs:List V}{ds:List Value}{E:XK}{ES:St→XK}{x m:Str}{p pos apos:Pos}{e o:Expr}{es:List Expr}{ta:TE}{t:TA}
theorem qC2{pins:List (Addr×Obj)}{σ:St}{H:Hp}{s:Shared}{Q:VK}{us:List Value}{vs:List V}(F:FnOk X.prog X.w X.K X.mg X.base (CXe X.prog X.w) k f fd ps sp)(hr:Room k X.A)(hb:jY X.K fd ps ds)(hd:Vals dvs ds)(tk:q33 X ES)
 (I:Inv X pins σ H s) (r:Vals vs us) (h:sp (vs++dvs) H Q (ES σ)):wpAny (model X.prog X.w) X.A (call (.ref f) us) (EP X pins σ Q) X.xe s:=by(
have r2:Vals (vs++dvs) (us++ds):=r.append hd
have hl:(us++ds).length=ps.length:=by rw[←r2.length];exact F.len _ _ _ _ h
refine c8 (pK (F.run X.A X.stack s H ⟨us,[]⟩ (us++ds) (vs++dvs) Q (ES σ) hr I.env0 (hb s us I.kIn hl) r2 h) λr s' hq=>?_)
cases r with
|error e=>exact tk.passes pins σ H s e s' I hq
|ok fl=>
 cases fl with
 |ret u=>exact I.after hq
 |next=>exact False.elim hq
 |brk=>exact False.elim hq
 |cont=>exact False.elim hq)
theorem jV{pl:Sem Bool}(tk:q33 X ES)(he:PE X o ta)(c:Cls X.K C)(hm:Meth X.K C m f)(F:FnOk X.prog X.w X.K X.mg X.base (CXe X.prog X.w) k f fd ps sp)(hr:Room k X.A)(hb:jY X.K fd ps ds)(hd:Vals dvs ds)(ha:PA X (e::es) t)
 (hst:starEach (e::es) X.env=(false,eval e X.env)::starEach es X.env:=by rfl) (hpl:(backTo pos (starEach es X.env)).any (·.1)=false:=by rfl)
 (ht:eval (.Call (.Attribute o m apos) (e::es) [] pos) X.env=(do
  let ov←eval o X.env
  standAt apos.atName
  let(f,first)←holding [ov] (getMethod ov m pl)
  callWith pos f first (backTo pos (starEach (e::es) X.env)) (backToKw pos (keywordEach [] X.env))):=by rfl):
 PE X (.Call (.Attribute o m apos) (e::es) [] pos) (qEH C m sp dvs ES ta t):=by(
intro pins s σ H Q I h
refine rR (pl:=pl) (thn (he pins s σ H _ I h) λu s1 hZ=>?_) ht
obtain⟨x,H1,I1,rx,a,dx,fs,ex,ea,l,q⟩:=hZ
subst ex
obtain rfl:u=Value.ref a:=rx
refine q0Y I1 ea c hm l ?_
refine wU (first:=[.ref a]) (h₀:=X.base) I.ok.mod.kin hm.kp (thn (ha pos pins s1 σ H1 _ I1 q) λus s2 ⟨vs,H2,I2,r,q2⟩=>⟨I2.kIn,?_⟩) hst hpl
exact qC2 (us:=.ref a::us) (vs:=.ref a::vs) F hr hb hd tk I2 (.cons rfl r) q2)
theorem uE{pl:Sem Bool}(tk:q33 X ES)(he:PE X o ta)(c:Cls X.K C)(hm:Meth X.K C m f)(F:FnOk X.prog X.w X.K X.mg X.base (CXe X.prog X.w) k f fd ps sp)(hr:Room k X.A)(hb:jY X.K fd ps ds)(hd:Vals dvs ds)
 (ht:eval (.Call (.Attribute o m apos) [] [] pos) X.env=(do
  let ov←eval o X.env
  standAt apos.atName
  let(f,first)←holding [ov] (getMethod ov m pl)
  callWith pos f first (backTo pos (starEach [] X.env)) (backToKw pos (keywordEach [] X.env))):=by rfl):
 PE X (.Call (.Attribute o m apos) [] [] pos) (qEH C m sp dvs ES ta tNil):=by(
intro pins s σ H Q I h
refine rR (pl:=pl) (thn (he pins s σ H _ I h) λu s1 hZ=>?_) ht
obtain⟨x,H1,I1,rx,a,dx,fs,ex,ea,l,q⟩:=hZ
subst ex
obtain rfl:u=Value.ref a:=rx
refine q0Y I1 ea c hm l ?_
exact sQ (first:=[.ref a]) I1.kIn hm.kp (qC2 (us:=[.ref a]) (vs:=[.ref a]) F hr hb hd tk I1 (.cons rfl .nil) q))
end
structure FunD(K:PySem.W.Frag)(x qual:Str)(st:Stmt)(dV:Value)(f:Addr)(fd:FuncData):Prop where
ex:∃(oc:Value) (od:Option Addr) (kV doc pm:Value) (an:Option Addr) (cdv ct:Value) (osl:Array (Option Value)),fd=PySem.W.fnOf x qual (yI st) (jW st) (qH st) dV kV doc pm an cdv ct∧K.lookup f=some ⟨oc,od,.func fd,osl⟩∧PySem.W.codeIn K cdv qual=true
section
variable{P:Program}{w:World}{K:PySem.W.Frag}{mg:Str→Option Value}{base:Heap}{dV:Value}
theorem FunD.mk'{x qual:Str}{st:Stmt}{f:Addr}{oc:Value}{od an:Option Addr}{osl:Array (Option Value)}{kV doc pm cdv ct:Value}(l:K.lookup f=some ⟨oc,od,.func (PySem.W.fnOf x qual (yI st) (jW st) (qH st) dV kV doc pm an cdv ct),osl⟩)
 (c:PySem.W.codeIn K cdv qual=true):FunD K x qual st dV f (PySem.W.fnOf x qual (yI st) (jW st) (qH st) dV kV doc pm an cdv ct):=⟨⟨oc,od,kV,doc,pm,an,cdv,ct,osl,rfl,l,c⟩⟩
theorem FunD.okE{x qual:Str}{st:Stmt}{f:Addr}{fd:FuncData}{N ps:List Str}{k:Nat}{sp:Sp}(F:FunD K x qual st dV f fd)(S:FnScope N ps (qH st))(len:∀vs H Q E,sp vs H Q E→vs.length=ps.length)
 (hbody:∀(cdv:Value) (A:Around) (outer:List Env) (s:Shared) (H:Hp) (vs:List V) (Q:VK) (E:XK),Room k (A.deeper (envOfC qual (qH st) s.heap.objs.size f cdv))→sp vs H Q E→∃t,PSs (cxOf (CXe P w) P w K mg base N qual (qH st) f cdv A outer s H E) (jW st) t∧t { nx:=λ_ H'=>Q .non H',rt:=Q } (zU N vs) H):FnOk P w K mg base (CXe P w) (k+1) f fd ps sp:=by obtain⟨oc,od,kV,doc,pm,an,cdv,ct,osl,rfl,lk,hcd⟩:=F.ex;exact qBW lk hcd S len λA outer s H vs Q E hr hsp=>hbody cdv A outer s H vs Q E hr hsp
theorem FunD.ok0{x qual:Str}{st:Stmt}{f:Addr}{fd:FuncData}{N ps:List Str}{k:Nat}{sp:Sp}(F:FunD K x qual st dV f fd)(S:FnScope N ps (qH st))
 (hbody:∀(cdv:Value) (A:Around) (outer:List Env) (s:Shared) (H:Hp) (vs:List V) (Q:VK) (E:XK),Room k (A.deeper (envOfC qual (qH st) s.heap.objs.size f cdv))→sp vs H Q E→∃t,PSs (cxOf CX0 P w K mg base N qual (qH st) f cdv A outer s H E).nox (jW st) t∧t { nx:=λ_ H'=>Q .non H',rt:=Q } (zU N vs) H)(len:∀vs H Q E,sp vs H Q E→vs.length=ps.length:=by intro _ _ _ _ h;first|(cases h;subst_vars;rfl)|((repeat obtain⟨_,h⟩:=h);all_goals subst_vars;rfl)):FnOk P w K mg base CX0 (k+1) f fd ps sp:=by(
obtain⟨oc,od,kV,doc,pm,an,cdv,ct,osl,rfl,lk,hcd⟩:=F.ex
refine qBW lk hcd S len λA outer s H vs Q E hr hsp=>?_
obtain⟨t,h,q⟩:=hbody cdv A outer s H vs Q E hr hsp
exact⟨t,h.nox,q⟩)
end
noncomputable abbrev bmVE:List Value:=[.type "ValueError",.type "Exception",.type "BaseException",.type "object"]
noncomputable abbrev XCls(K:PySem.W.Frag)(C:Addr):Prop:=PySem.W.excIn K C bmVE "ValueError.__new__"=true
theorem qGM{K:PySem.W.Frag}{C:Addr}(q:XCls K C):∃bm N nm qn bs hd sn sub ab col dd k0 k1 k2 k3 k5,K.lookup C=some (excClassObj nm qn C N bs bm hd sn sub ab col dd k0 k1 k2 k3 k5 "ValueError.__new__")∧PySem.W.tailIn K bmVE bm=true∧PySem.W.nsOkIn K N=true∧PySem.W.nsIn K N "__init__"=some none:=by(
unfold XCls PySem.W.excIn at q
split at q
·rename_i dd cd sl ho;split at q
 ·rename_i C' bm k0 k1 k2 k3 n k5 hm hs;obtain⟨nm,bs,mro,ns,qn,hd,sn,sub,ab,col,del⟩:=cd;obtain⟨l⟩:=sl;simp only[m8,wC,dQ]at q hm hs;obtain⟨⟨⟨⟨⟨e1,e2⟩,e3⟩,e4⟩,e5⟩,e6⟩:=q;subst e1 e2 e3 hm hs;exact⟨bm,ns,nm,qn,bs,hd,sn,sub,ab,col,dd,k0,k1,k2,k3,k5,ho,e4,e5,e6⟩
 cases q
cases q)
noncomputable def qJU(ES:St→XK)(C:Addr)(t:TA):TS:=λ_ σ H=>t σ H λvs H1=>vs.length≤sizeLine∧ES σ (.ref C) none H1
section
variable{X:Cx}{ES:St→XK}{C:Addr}{x:Str}{np cpos pos:Pos}{e:Expr}{es:List Expr}{t:TA}
theorem qEI{pins:List (Addr×Obj)}{σ:St}{H:Hp}{s:Shared}{h':Heap}{ea:Addr}{C:Value}{vs:List Value}(I:Inv X pins σ H s)(m:Heap.MadeExcOf s.heap h' ea C vs):
 Air X.env.locals h' ea C none none∧Ours X pins H [ea]:=by(
obtain⟨t,m1,m2,m3⟩:=m.there
refine⟨⟨_,⟨_,m1,rfl,rfl,rfl,by simp⟩,rfl⟩,λb hb=>?_⟩
rw[kD.mp hb]
refine⟨?_,I.hok.free m.new,λp hp z=>?_⟩
·by_cases y:ea∈X.ex
 ·exact .inr y
 refine .inl ?_;cases z:X.s₀.heap.get? ea with
 |none=>rfl
 |some ob=>obtain⟨o',z'⟩:=I.base.there ea ob z y;rw[m.new]at z';cases z'
have y:=(I.pin p hp).1
rw[z,m.new]at y
cases y)
theorem q9S(tk:q33 X ES)(hc:X.calm=true)(hg:Gl X x)(hm:X.mg x=some (.ref C))(hx:XCls X.K C)(ha:PA X (e::es) t)(hdb:(x==("__debug__":Str))=false:=by decide)
 (he:starEach (e::es) X.env=(false,eval e X.env)::starEach es X.env:=by rfl) (hpl:(backTo cpos (starEach es X.env)).any (·.1)=false:=by rfl):
 PS X (.Raise (some (.Call (.Name x np) (e::es) [] cpos)) none pos) (qJU ES C t):=by(
intro pins s σ H D I hq
obtain⟨bm,N,nm,qn,bs,hd,sn,sub,ab,col,dd,k0,k1,k2,k3,k5,lk,tl,ok,ni⟩:=qGM hx
have kb:=I.mod.kin
have T0:=PySem.W.tail_of_in kb tl
have hN:X.base.Ns N (X.base.nsMap N):=.of_isNs (PySem.W.isNs_of_in kb ok)
have hni:=PySem.W.nsMap_none_of_in kb ok ni
have hplain:(backTo cpos (starEach (e::es) X.env)).any (·.1)=false:=by rw[he];show(false||(backTo cpos (starEach es X.env)).any (·.1))=false;rw[hpl];rfl
refine wpAny_Raise_call_subT (C:=C) (nm:=nm) (q:=qn) (N:=N) (bs:=bs) (bm:=bm) (hdct:=hd) (sn:=sn) (sub:=sub) (ab:=ab) (col:=col) (dd:=dd) (k0:=k0) (k1:=k1) (k2:=k2) (k3:=k3) (k5:=k5) (mN:=X.base.nsMap N)
 PySem.F.excBase_ValueError (T0.hasType (by decide)) (I.ok.hd hc) hplain hni (q2M I hg hm ⟨rfl,?_⟩ hdb)
have h0:=ha cpos pins s σ H _ I hq
rw[he]at h0 ⊢
refine PySem.Calls.evalArgs_plain (dB h0 (λus s1 h1=>?_) λ_ _ y=>y)
obtain⟨vs,H1,I1,r,hz,hE⟩:=h1
refine⟨rfl,by rw[←r.length];exact hz,I1.bk _ _ (kb _ _ lk),?_,T0.keeps I1.bk,λh' ea m=>?_⟩
·obtain⟨o',es',ep',z,rr⟩:=hN;exact⟨o',es',ep',I1.bk _ _ z,rr⟩
obtain⟨air,ours⟩:=qEI I1 m
refine tk pins σ H1 { s1 with heap:=h' } ea none (.ref C) none (I1.kept (t':=s1.toks) m.keeps) air ours hE)
end
noncomputable abbrev Cx.tr(X:Cx)(pins:List (Addr×Obj))(XE:Value→Shared→Prop):Cx:={ X with pn:=X.pn++pins,xe:=XE }
noncomputable abbrev Cx.sui(X:Cx)(e:Addr):Cx:={ X with A:=X.A.mark (some (.ref e)),calm:=false,xe:=λ_ _=>False }
theorem Chg.mono{fr fr' rs rs':List Addr}{h h':Heap}(c:Chg fr rs h h')(f:∀b∈fr,b∈fr')(r:∀b∈rs,b∈rs'):Chg fr' rs' h h':=⟨λb o a z e=>c.keep b o (λy=>a (f b y)) (λy=>z (r b y)) e,λb o z e=>c.slot b o (λy=>z (r b y)) e,c.there⟩
theorem Held.recs{f:Value}{e T:Addr}{h:Heap}{C:Value}{od:Option Addr}(x:Held f h e T C od):Recs h [e,T]:=by(
obtain⟨vs,⟨oe,a1,_,_,a4,_⟩,_,_,oT,ts,t3,t4,_⟩:=x
intro b hb
have e':b=e∨b=T:=by simpa using hb
rcases e' with rfl|rfl
·exact⟨_,_,a1,a4⟩
exact⟨_,_,t3,t4⟩)
section
variable{X:Cx}{pins:List (Addr×Obj)}{σ:St}{H:Hp}{s:Shared}{XE:Value→Shared→Prop}
theorem Inv.tr(I:Inv X pins σ H s)(XE:Value→Shared→Prop):Inv (X.tr pins XE) [] σ H s:=have ok:=I.ok
 ⟨⟨ok.mod,ok.kind,ok.glob,ok.blt,ok.above,ok.inj,ok.has,ok.cab,ok.hd,ok.frames,ok.stk,ok.exf,ok.bs,ok.bsz,ok.noex,ok.exfs,ok.funs,ok.frf⟩,I.os,I.bare,I.base,I.loc,I.cell,I.free,I.freeC,λp hp=>I.pin p (by simpa using hp),I.hok,I.len⟩
theorem Inv.untr{ps:List (Addr×Obj)}(I:Inv (X.tr pins XE) ps σ H s):Inv X pins σ H s:=have ok:=I.ok
 ⟨⟨ok.mod,ok.kind,ok.glob,ok.blt,ok.above,ok.inj,ok.has,ok.cab,ok.hd,ok.frames,ok.stk,ok.exf,ok.bs,ok.bsz,ok.noex,ok.exfs,ok.funs,ok.frf⟩,I.os,I.bare,I.base,I.loc,I.cell,I.free,I.freeC,λp hp=>I.pin p (gO _ hp),I.hok,I.len⟩
theorem Inv.sui(I:Inv X pins σ H s)(e:Addr):Inv (X.sui e) pins σ H s:=have ok:=I.ok
 ⟨⟨ok.mod,ok.kind,ok.glob,ok.blt,ok.above,ok.inj,ok.has,ok.cab,(λz=>by cases z),ok.frames,ok.stk,ok.exf,ok.bs,ok.bsz,ok.noex,ok.exfs,ok.funs,ok.frf⟩,I.os,I.bare,I.base,I.loc,I.cell,I.free,I.freeC,I.pin,I.hok,I.len⟩
theorem Inv.unsui{e:Addr}(hc:X.calm=true→X.A.handled=none)(I:Inv (X.sui e) pins σ H s):Inv X pins σ H s:=have ok:=I.ok
 ⟨⟨ok.mod,ok.kind,ok.glob,ok.blt,ok.above,ok.inj,ok.has,ok.cab,hc,ok.frames,ok.stk,ok.exf,ok.bs,ok.bsz,ok.noex,ok.exfs,ok.funs,ok.frf⟩,I.os,I.bare,I.base,I.loc,I.cell,I.free,I.freeC,I.pin,I.hok,I.len⟩
theorem SP.untr{D:Ends}{f:Flow}{s':Shared}(h:SP (X.tr pins XE) [] D f s'):SP X pins D f s':=by(
cases f with
|next=>obtain⟨σ',H',I,q⟩:=h;exact⟨σ',H',I.untr,q⟩
|brk=>obtain⟨σ',H',I,q⟩:=h;exact⟨σ',H',I.untr,q⟩
|cont=>obtain⟨σ',H',I,q⟩:=h;exact⟨σ',H',I.untr,q⟩
|ret u=>obtain⟨v,σ',H',I,r,q⟩:=h;exact⟨v,σ',H',I.untr,r,q⟩)
theorem SP.unsui{e:Addr}{D:Ends}{f:Flow}{s':Shared}(hc:X.calm=true→X.A.handled=none)(h:SP (X.sui e) pins D f s'):SP X pins D f s':=by(
cases f with
|next=>obtain⟨σ',H',I,q⟩:=h;exact⟨σ',H',I.unsui hc,q⟩
|brk=>obtain⟨σ',H',I,q⟩:=h;exact⟨σ',H',I.unsui hc,q⟩
|cont=>obtain⟨σ',H',I,q⟩:=h;exact⟨σ',H',I.unsui hc,q⟩
|ret u=>obtain⟨v,σ',H',I,r,q⟩:=h;exact⟨v,σ',H',I.unsui hc,r,q⟩)
end
noncomputable def qL9(ea:Addr)(C:Value)(od:Option Addr):Heap→Prop:=λh=>∃o vs,h.get? ea=some o∧o.cls=C∧o.dict=od∧o.data=.fields vs
noncomputable abbrev XO(ea:Addr)(C:Value)(od:Option Addr):HO:=.ext (qL9 ea C od)
noncomputable abbrev TH:=Ends→St→Hp→Addr→Value→Option Addr→Prop
noncomputable def PHs(X:Cx)(hs:List ExceptHandler)(t:TH):Prop:=∀(pins:List (Addr×Obj)) (s:Shared) (σ:St) (H:Hp) (D:Ends) (ea T:Addr) (C:Value) (od:Option Addr),Inv X pins σ H s→Held .none s.heap ea T C od→Ours X pins H [ea,T]→t D σ H ea C od→wpAny (model X.prog X.w) X.A (handleBy (.ref ea) X.env hs) (SP X pins D) X.xe s
section
variable{X:Cx}{ES:St→XK}
theorem qEJ(tk:q33 X ES)(hf:X.env.frame=some X.env.locals:=by rfl):PHs X [] (λ_ σ H _ C od=>ES σ C od H):=by(
intro pins s σ H D ea T C od I hd ours q
refine wpAny_handleBy_nil ?_
unfold PySem.passOn
have rc:=hd.recs
obtain⟨vs,x,t1,t2,oT,ts,t3,t4,t5⟩:=id hd
obtain⟨oe,a1,a2,a3,a4,a5⟩:=id x
refine hV (cN a1 a4 t1 ?_)
rw[kJ (by simp)]
refine hV (q2O hd λh' c hd2=>wpAny_throw ?_)
rw[hf]at hd2
exact tk pins σ H { s with heap:=h' } ea (some T) C od (I.chg (t':=s.toks) (rs:=[ea,T]) (c.mono (by simp) (by simp)) ours rc) (hd2.air (.inr rfl)) ours q)
theorem Inv.pinX{pins:List (Addr×Obj)}{σ:St}{H:Hp}{s:Shared}{ea T:Addr}{C:Value}{od:Option Addr}{f:Value}(I:Inv X pins σ H s)(hd:Held f s.heap ea T C od)(ours:Ours X pins H [ea,T]):
 ∃oe oT,Inv X (pins++[(ea,oe),(T,oT)]) σ H s∧∀h':Heap,h'.get? ea=some oe→h'.get? T=some oT→Held f h' ea T C od:=by(
have rc:=hd.recs
obtain⟨vs,⟨oe,a1,a2,a3,a4,a5⟩,t1,t2,oT,ts,t3,t4,t5⟩:=hd
refine⟨oe,oT,I.pins_of λp hp=>?_,λh' z1 z2=>⟨vs,⟨oe,z1,a2,a3,a4,a5⟩,t1,t2,oT,ts,z2,t4,t5⟩⟩
have nl:∀b o ws,s.heap.get? b=some o→o.data=.fields ws→b≠X.env.locals∧b∉X.fs:=λb o ws e d=>by
 refine⟨λz=>?_,λz=>?_⟩
 ·obtain⟨m,⟨o',es,ep,ho,hd',_⟩,_⟩:=I.loc;rw[←z,e]at ho;cases ho;rw[d]at hd';cases hd'
 obtain⟨_,o',ho,hn⟩:=I.funs.mem z;rw[e]at ho;cases ho;exact hn _ d
rcases gN.mp hp with z|z
·exact I.pin p (mB _ z)
have z:p=(ea,oe)∨p=(T,oT):=by simpa using z
rcases z with rfl|rfl
·exact⟨a1,(ours ea (by simp)).2.1,(nl _ _ _ a1 a4).1,(nl _ _ _ a1 a4).2,λv q=>by rw[a4]at q;cases q⟩
exact⟨t3,(ours T (by simp)).2.1,(nl _ _ _ t3 t4).1,(nl _ _ _ t3 t4).2,λv q=>by rw[t4]at q;cases q⟩)
theorem q9T{ty:Expr}{c:V}{cv:Value}{pins:List (Addr×Obj)}{s:Shared}{σ:St}{H:Hp}{ea T:Addr}{C:Value}{od:Option Addr}{b:Bool}{R:Result→Shared→Prop}{pos:Pos}(hc:PE (X.sui ea) ty (tC c))(rc:RelV c cv)
 (I:Inv X pins σ H s) (hh:X.calm=true→X.A.handled=none) (hd:Held .none s.heap ea T C od) (ours:Ours X pins H [ea,T]) (hx:PySem.W.exmOne X.K C cv=some b) (q:∀s',Inv X pins σ H s'→Held .none s'.heap ea T C od→R (.ok (if b then .brk else .next)) s'):
 codeAny (model X.prog X.w) (X.A.mark (some (.ref ea))) (.handlers (.ref ea) [.ExceptHandler (some ty) none [] pos] X.env) R s:=by(
obtain⟨oe,oT,I1,back⟩:=I.pinX hd ours
refine codeAny_handlers_test (dB (hc _ s σ H (λv H'=>v=c∧H'=H) (I1.sui ea) ⟨rfl,rfl⟩) (λu s1 h1=>?_) λ_ _ z=>z.elim)
obtain⟨v,H',I2,r,e1,e2⟩:=h1
subst e1 e2
have e3:u=cv:=by
 cases v with
 |non=>exact r.trans rc.symm
 |bl b=>exact r.trans rc.symm
 |ref a=>exact r.trans rc.symm
 |ty n=>exact r.trans rc.symm
 |int i=>obtain⟨t,e⟩:=r;obtain⟨t',e'⟩:=rc;subst e';unfold PySem.W.exmOne at hx;split at hx<;>cases hx
 |str i=>obtain⟨t,e⟩:=r;obtain⟨t',e'⟩:=rc;subst e';unfold PySem.W.exmOne at hx;split at hx<;>cases hx
 |byt i=>obtain⟨t,e⟩:=r;obtain⟨t',e'⟩:=rc;subst e';unfold PySem.W.exmOne at hx;split at hx<;>cases hx
 |flt i=>obtain⟨t,e⟩:=r;obtain⟨t',e'⟩:=rc;subst e';unfold PySem.W.exmOne at hx;split at hx<;>cases hx
subst e3
have p1:=(I2.pin (ea,oe) (by simp)).1
have p2:=(I2.pin (T,oT) (by simp)).1
have hd1:=back _ p1 p2
obtain⟨vs,⟨oe',z1,z2,_⟩,_⟩:=id hd1
have LT:PySem.W.Looks (model X.prog X.w) s1.heap (typeOf (.ref ea)) C:=by rw[←z2];exact(aW z1).andThen .now
have I3:Inv X pins σ H' s1:=(Inv.unsui hh I2).unpinned
exact(PySem.W.exm_one I2.kIn LT hx).here (q s1 I3 hd1))
theorem q8L{ty:Expr}{c:V}{cv:Value}{b₀:Stmt}{suite:List Stmt}{pos:Pos}{rest:List ExceptHandler}{ts:TS}{tr:TH}(hc:∀ea,PE (X.sui ea) ty (tC c))(rc:RelV c cv)(hs:∀ea,PSs (X.sui ea) (b₀::suite) ts)(hr:PHs X rest tr):
 PHs X (.ExceptHandler (some ty) none (b₀::suite) pos::rest) (λD σ H ea C od=>∃b,PySem.W.exmOne X.K C cv=some b∧if b=true then ts D σ H else tr D σ H ea C od):=by(
intro pins s σ H D ea T C od I hd ours hZ
obtain⟨b,hx,q⟩:=hZ
refine wpAny_handleBy_cons (q9T (hc ea) rc I I.ok.hd hd ours hx λs' I' hd'=>?_) (by intro z;cases z)
cases b with
|false=>rw[kJ (by simp)]at q;exact hr pins s' σ H D ea T C od I' hd' ours q
|true=>rw[kL rfl]at q;refine codeAny_handlers_suite (q2O hd' λh' c hd2=>?_);have I2:=I'.chg (t':=s'.toks) (rs:=[ea,T]) (c.mono (by simp) (by simp)) ours hd'.recs;exact dB (hs ea pins { s' with heap:=h' } σ H D (I2.sui ea) q) (λf s2 z=>z.unsui I.ok.hd) λ_ _ z=>z.elim)
noncomputable def tTry(tb:(St→XK)→TS)(th:TH):TS:=λD σ H=>tb (λσ' C od H'=>∀ea,H' ea=none→th D σ' H' ea C od) D σ H
theorem qEK{body:List Stmt}{h₀:ExceptHandler}{hs:List ExceptHandler}{pos:Pos}{tb:(St→XK)→TS}{th:TH}
 (hb:∀(pins:List (Addr×Obj)) (XE:Value→Shared→Prop) (ES:St→XK),q33 (X.tr pins XE) ES→PassesOwn (model X.prog X.w) X.A X.env XE→PSs (X.tr pins XE) body (tb ES)) (hh:PHs X (h₀::hs) th)
 (hfs:∃fr,X.stack=X.env::fr:=by exact⟨_,rfl⟩) (hf:X.env.frame=some X.env.locals:=by rfl):PS X (.Try body (h₀::hs) [] [] pos) (tTry tb th):=by(
intro pins s σ H D I q
refine wpAny_Try_except (dB (hb pins (λe s1=>wpAny (model X.prog X.w) X.A (noteFrame e X.env) (λ_ s2=>wpAny (model X.prog X.w) X.A (setFlight e none) (λ_ s3=>wpAny (model X.prog X.w) X.A (handleBy e X.env (h₀::hs)) (SP X pins D) X.xe s3) X.xe s2) X.xe s1)
 (λσ' C od H'=>∀ea,H' ea=none→th D σ' H' ea C od) ?_ PassesOwn.looking [] s σ H D (I.tr _) q) (λf s1 z=>?_) λe s1 z=>z)
·intro pins' σ' H' s' ea tr C od I' air ours y;obtain⟨fr,ek⟩:=hfs;have frames:X.A.frames=some (X.env::fr):=by rw[I.ok.frames,ek]
 have ff:s'.heap.FunFrames X.base (X.env::fr):=by rw[←ek];exact I'.stack
 refine qC1 frames ff hf air λh' T c hd n=>?_;have en:frs X.stack=(X.env::fr).filterMap (·.frame):=by rw[ek];rfl
 have I2:Inv (X.tr pins _) pins' σ' H' { s' with heap:=h' }:=I'.chg (t':=s'.toks) (by show Chg (frs X.stack) _ _ _;rw[en];exact c) ours air.recs;have oT:Ours (X.tr pins λe s1=>wpAny (model X.prog X.w) X.A (noteFrame e X.env) (λ_ s2=>wpAny (model X.prog X.w) X.A (setFlight e none) (λ_ s3=>wpAny (model X.prog X.w) X.A (handleBy e X.env (h₀::hs)) (SP X pins D) X.xe s3) X.xe s2) X.xe s1) pins' H' [ea,T]:=by
  intro b hb;have hb:b=ea∨b=T:=by simpa using hb
  rcases hb with rfl|rfl
  ·exact ours b (by simp)
  rcases n with z|z
  ·exact ours b (kB _ (by cases tr with|none=>cases z|some t=>cases z;exact kD.mpr rfl))
  refine⟨?_,I'.hok.fresh z,λp hp w=>?_⟩
  ·by_cases y:b∈X.ex
   ·exact .inr y
   refine .inl ?_;cases w:X.s₀.heap.get? b with
   |none=>rfl
   |some ob=>obtain⟨o',w'⟩:=I'.base.there b ob w y;exact absurd (mE w') (nJ.mpr z)
  have w':=(I'.pin p hp).1;rw[w]at w';exact absurd (mE w') (nJ.mpr z)
 refine q2O hd λh2 c2 hd2=>?_;have I3:=I2.chg (t':=s'.toks) (rs:=[ea,T]) (c2.mono (by simp) (by simp)) oT hd.recs;exact hh pins _ σ' H' D ea T C od I3.untr hd2 (λb hb=>⟨(oT b hb).1,(oT b hb).2.1,λp hp=>(oT b hb).2.2 p (gO _ hp)⟩) (y ea (ours ea (by simp)).2.1)
have z:=z.untr
cases f with
|next=>obtain⟨σ',H',I',y⟩:=z;exact qS pins s1 σ' H' D I' y
|_=>exact z)
end
noncomputable def NewX(ea:Addr)(C:Value)(od:Option Addr):Heap→Prop:=λh=>∃vs sl,h.get? ea=some ⟨C,od,.fields vs,sl⟩∧vs[2]?=some .none∧vs[1]?=some .none
noncomputable abbrev XN(ea:Addr)(C:Value)(od:Option Addr):HO:=.ext (NewX ea C od)
noncomputable def qIE(X:Cx)(pins:List (Addr×Obj))(a:Addr):Prop:=(X.s₀.heap.get? a=none∨a∈X.ex)∧∀p∈X.pn++pins,p.1≠a
section
variable{X:Cx}{pins:List (Addr×Obj)}{σ:St}{H:Hp}{s:Shared}{a:Addr}
theorem Inv.young(I:Inv X pins σ H s)(e:s.heap.get? a=none):qIE X pins a:=by(
refine⟨?_,λp hp z=>?_⟩
·by_cases y:a∈X.ex
 ·exact .inr y
 refine .inl ?_;cases z:X.s₀.heap.get? a with
 |none=>rfl
 |some ob=>obtain⟨o',z'⟩:=I.base.there a ob z y;rw[e]at z';cases z'
have y:=(I.pin p hp).1
rw[z,e]at y
cases y)
theorem Inv.trackG{o:HO}(I:Inv X pins σ H s)(n:H a=none)(y:qIE X pins a)(nl:a≠X.env.locals)(nc:∀x c,X.env.cells.lookup x=some c→c≠a)(new:jM X.prog X.w (upd H a o) s.heap a o):Inv X pins σ (upd H a o) s:=by(
have ne:∀b o',X.s₀.heap.get? b=some o'→b∉X.ex→b≠a:=λb o' z x q=>by
 subst q;rcases y.1 with w|w
 ·rw[z]at w;cases w
 exact x w
have nt:∀b u,H b=some u→b≠a:=λb u z q=>by rw[q,n]at z;cases z
refine⟨I.ok,I.os,I.bare,⟨I.base.keep,I.base.slot,λb o' z m x=>?_,I.base.there,λb xs z=>?_,λb o' u z=>?_,λb ps z=>?_⟩,I.loc,I.cell,?_,λx c z=>?_,λp hp=>?_,λb u z=>?_,I.len⟩
·rw[qC (ne b o' z x)];exact I.base.free b o' z m x
·have w:=I.base.tups b xs z;rw[qC (nt _ _ w)];exact w
·have w:=I.base.frzs b o' u z;rw[qC (nt _ _ w)];exact w
·obtain⟨more,w⟩:=I.base.tbls b ps z;exact⟨more,by rw[qC (nt _ _ w)];exact w⟩
·rw[qC (wS nl)];exact I.free
·rw[qC (nc x c z)];exact I.freeC x c z
·obtain⟨p1,p2,p3,p4,p5⟩:=I.pin p hp;exact⟨p1,by rw[qC (y.2 p hp)];exact p2,p3,p4,p5⟩
by_cases q:b=a
·subst q;rw[qI]at z;cases z;exact new
rw[qC q]at z
refine(I.hok b u z).stay (λ_ _ _ g=>g) (λc g=>?_) λc xs g=>?_
·rw[qC (nt _ _ g)];exact g
rw[qC (nt _ _ g)];exact g)
end
noncomputable def qEL:List Value→Bool
| .ref _::r=>qEL r
|l=>l==bmVE
noncomputable def veIn(K:PySem.W.Frag)(C:Addr):Bool:=(PySem.W.clsIn K C).any (λcd=>qEL cd.mro)
structure XAt(K:PySem.W.Frag)(C:Addr):Prop where
hd:PySem.W.hasDictIn K C=true
sa:PySem.W.findIn K (.ref C) "__setattr__"=some (some (.builtin "object.__setattr__"))
mro:veIn K C=true
structure XRd(K:PySem.W.Frag)(C:Addr):Prop where
ga:PySem.W.findIn K (.ref C) "__getattribute__"=some (some (.builtin "BaseException.__getattribute__"))
gn:PySem.W.findIn K (.ref C) "__getattr__"=some none
mb:PySem.W.mroIn K C (.type "BaseException")=some true
hd:PySem.W.hasDictIn K C=true
cls:PySem.W.findIn K (.ref C) "__class__"=some (some (.builtin "object.__class__"))
cget:PySem.W.specialIn K (.builtin "object.__class__") "__get__"=some (some (.builtin "getset_descriptor.__get__"))
ctk:PySem.W.takesIn K (.builtin "object.__class__")=some true
mo:PySem.W.mroIn K C (.type "object")=some true
noncomputable def XAny(H:Hp)(ea:Addr)(C:Value)(od:Option Addr):Prop:=H ea=some (XO ea C od)∨H ea=some (XN ea C od)
section
variable{X:Cx}{pins:List (Addr×Obj)}{σ:St}{H:Hp}{s:Shared}{ea C:Addr}{od:Option Addr}
theorem XAny.at{C:Value}(x:XAny H ea C od)(I:Inv X pins σ H s):∃o vs,s.heap.get? ea=some o∧o.cls=C∧o.dict=od∧o.data=.fields vs:=by(
rcases x with e|e
·exact(I.hok ea _ e).1
obtain⟨vs,sl,z,_⟩:=(I.hok ea _ e).1
exact⟨_,vs,z,rfl,rfl,rfl⟩)
theorem qGN{A:Around}{E:Value→Shared→Prop}{K:PySem.W.Frag}{prog:Program}{w:World}{s:Shared}{x:Addr}{ox:Obj}{od:Option Obj}{name:Str}{tk:Tok}{fill b:Bool}{Q:Value→Shared→Prop}(X:K.In s.heap)(J:PySem.W.InstAt s.heap x ox C od)(c:XRd K C)
 (h:∀A',wpAny (model prog w) A' (Builtin.«object.__getattribute__» ⟨[.ref x,.str name tk],[]⟩) (λfin s'=>∃v,fin=.done (.ret v)∧PySem.W.handedIn v=true∧Q v s') (λ_ _=>False) s):wpAny (model prog w) A (getAttrBy (.ref x) (.str name tk) fill b) Q E s:=by(
obtain⟨hh,g,d,t,os⟩:=s
have L0:=J.type (M:=model prog w)
have L1:=cM (M:=model prog w) X c.ga
have L2:=cM (M:=model prog w) X c.gn
have SF:=PySem.F.excAttr_ValueError.ga
unfold getAttrBy
refine gT (hV (L0.at (hV (L1.at ?_))))
show wpAny _ _ (getAttrByItsOwn (.ref x) (.str name tk) (.ref C) (.builtin "BaseException.__getattribute__") fill b) _ _ _
unfold getAttrByItsOwn
refine hV ?_
show wpAny _ _ (typeLookup (.ref C) "__getattr__") _ _ _
refine L2.at ?_
refine hV (xU (gT ?_))
have e1:callGetattribute (.ref x) (.str name tk) (.builtin "BaseException.__getattribute__") b=boundAndCalled (.builtin "BaseException.__getattribute__") (.ref x) (.str name tk):=by unfold callGetattribute;rw[kJ (by cases b<;>exact Bool.noConfusion)]
rw[e1]
unfold boundAndCalled
rw[SF.bind (.ref x)]
refine hV (kQ ?_)
refine c8 (p9 SF.plain PySem.F.entry_bexc_ga ?_)
have su:PySem.W.Looks (model prog w) hh (isInstance (.ref x) (.type "BaseException")) true:=J.type.andThen (PySem.W.looks_mroIn X c.mb)
have hk:builtinKind "BaseException.__getattribute__"=some .slot:=by decide+kernel
have hs:splitId "BaseException.__getattribute__"=some ("BaseException","__getattribute__"):=by decide+kernel
refine @x8 (model prog w) _ _ ⟨hh,g,d,t,os⟩ "BaseException.__getattribute__" "BaseException" "__getattribute__" (.ref x) [.str name tk] [] _ hk hs su (PySem.F.args_bexc_ga (.ref x) (.str name tk)) ?_
refine dB (h _) (λfin s' z=>?_) (λ_ _ z=>z.elim)
obtain⟨v,rfl,z1,z2⟩:=z
exact PySem.W.handed_on z1 z2)
end
noncomputable def clsV:V→Option Value
| .ref a=>some (.ref a)
| .ty n=>some (.type n)
|_=>none
theorem qEM{c:V}{cv u:Value}(h:clsV c=some cv)(r:RelV c u):u=cv:=by cases c<;>first|(cases h;exact r)|cases h
noncomputable def KndT(K:PySem.W.Frag)(H:Hp)(x:V)(t:Value):Prop:=TyOf K H x t∨∃ea C od,x=.ref ea∧t=.ref C∧XAny H ea (.ref C) od∧XRd K C∧(od=none∨∃dx fs,od=some dx∧H dx=some (.xd fs))
theorem qJV{K:PySem.W.Frag}{x D:Addr}{ox:Obj}{od:Option Obj}(c:XRd K D):PySem.W.KitX K (.ref x) (.ref D) (λh=>PySem.W.InstAt h x ox D od) where
ty:=λ_ _ _ I=>I.type
it:=λ_ _ X _=>by
 obtain⟨cd,hc,_⟩:=pU c.hd;unfold PySem.W.clsIn at hc;split at hc
 ·rename_i ho;intro A' Q' E' s' k q;unfold isType loadHead;exact hV (wpAny_loadPart (k _ _ (X _ _ ho)) (kQ q))
 cases hc
ne:=λh tp dd its n sl X htp=>by
 obtain⟨cd,hc,_⟩:=pU c.hd;refine Bool.eq_false_iff.mpr λq=>?_;have e:D=tp:=Value.ref.inj (wC.mp q);subst e;unfold PySem.W.clsIn at hc;split at hc
 ·rename_i ho;have z:=(X _ _ ho).symm.trans htp;cases z
 cases hc
ca:=fun {prog w _ _ _ s} X I k=>by
 have hf:PySem.W.findObj K D od "__class__"=some (.bind (.builtin "getset_descriptor.__get__") (.builtin "object.__class__")):=by obtain⟨cd,hc,_⟩:=pU c.hd;unfold PySem.W.findObj;rw[hc,pW,c.cls,pW];dsimp only;rw[c.cget,pW];dsimp only;rw[c.ctk,pW]
 unfold getAttr? getAttrBy?;refine hV (wpAny_mkText (hV (xU (qGN (s:={ s with toks:=s.toks+1 }) X I c λA'=>?_))));have L0:=I.type (M:=model prog w);have L1:=PySem.W.looks_find (M:=model prog w) X I hf;obtain⟨hh,gg,d,t,os⟩:=s;refine hV (kQ (hV (kQ (hV (L0.at (hV (L1.at ?_)))))));show wpAny _ _ (holding [.builtin "object.__class__"] (call (.builtin "getset_descriptor.__get__") [.builtin "object.__class__",.ref x,.ref D]) >>= ret) _ _ _;exact hV (gT (c8 (PySem.W.class_get (s:=⟨hh,gg,d,t+1,os⟩) (ox:=ox) (od:=od) X I c.mo (kQ ⟨_,rfl,rfl,kQ k⟩))))
theorem uZ{X:Cx}:q1H X (.builtin "isinstance") (λxs H Q=>∃x c cv t b,xs=[x,c]∧clsV c=some cv∧KndT X.K H x t∧PySem.W.kitOne X.K t cv=some b∧Q (.bl b) H):=by(
intro pins s σ H xs us Q I r h
obtain⟨x,c,cv,t,b,rfl,hc,ty,e,q⟩:=h
obtain⟨u,w',rfl,ru,rw'⟩:=qBV r
cases qEM hc rw'
rcases ty with ty|⟨ea,C,od,rfl,rfl,hx,ca,hd⟩
·exact qD3 I ru ty e λtk=>⟨.bl b,H,I.tok tk,rfl,q⟩
obtain rfl:u=Value.ref ea:=ru
obtain⟨o,vs,e1,e2,e3,e4⟩:=hx.at I
have hno:PySem.W.notCls o=true:=by rw[PySem.W.notCls,e4]
have J:∃oD,PySem.W.InstAt s.heap ea o C oD:=by
 rcases hd with rfl|⟨dx,fs,rfl,hdx⟩
 ·exact⟨none,e1,e2,hno,by rw[e3];exact True.intro⟩
 obtain⟨mA,n1,rl⟩:=I.hok dx _ hdx;obtain⟨oD,g1,g2⟩:=q7T n1;exact⟨some oD,e1,e2,hno,by rw[e3];exact g1⟩
obtain⟨oD,J⟩:=J
exact g8 (qJV ca) I.kIn J e (λz=>nomatch z) λtk=>⟨.bl b,H,I.tok tk,rfl,q⟩)
structure BIni(K:PySem.W.Frag)(W:Addr):Prop where
rd:PySem.W.readsIn K W (.type "type")=true
fd:PySem.W.findCls K (.ref W) (.type "type") "__init__"=some (.val (.builtin "ValueError.__init__"))
ga:PySem.W.specialIn K (.ref W) "__getattribute__"=some (some (.builtin "type.__getattribute__"))
end L2
namespace L2
open PySem
structure Keep(F:List Addr)(H H':Hp):Prop where
k:∀b o,b∉F→H b=some o→H' b=some o
tp:∀b xs,H b=some (.tup xs)→H' b=some (.tup xs)
theorem Keep.refl{F:List Addr}{H:Hp}:Keep F H H:=⟨λ_ _ _ e=>e,λ_ _ e=>e⟩
theorem Keep.trans{F:List Addr}{H H1 H2:Hp}(a:Keep F H H1)(b:Keep F H1 H2):Keep F H H2:=⟨λx o n e=>b.k x o n (a.k x o n e),λx xs e=>b.tp x xs (a.tp x xs e)⟩
theorem Keep.mono{F F':List Addr}{H H':Hp}(a:Keep F H H')(s:∀b∈F,b∈F'):Keep F' H H':=⟨λx o n e=>a.k x o (λm=>n (s x m)) e,a.tp⟩
theorem Keep.upd{F:List Addr}{H:Hp}{p:Addr}{o u:HO}(h:H p=some u)(nt:∀xs,u≠ .tup xs)(m:p∈F):Keep F H (upd H p o):=by(
refine⟨λb x n e=>?_,λb xs e=>?_⟩
·rw[qC (λ(z:b=p)=>n (z▸m))];exact e
rw[qC (jZ e h (λz=>nt xs z.symm))];exact e)
theorem Keep.same{F:List Addr}{H H':Hp}(s:Same H H'):Keep F H H':=⟨λb o _ e=>s b o e,λb xs e=>s b _ e⟩
theorem Keep.none{F:List Addr}{H H':Hp}(a:Keep F H H'){b:Addr}(n:b∉F)(e:H' b=Option.none):H b=Option.none:=by(
cases q:H b with
|none=>rfl
|some o=>rw[a.k b o n q]at e;cases e)
structure CM where
bl:Int
pg:Int
mo:Int
lim:List (Key×V)
bo:List V
cl:List Int
dc:List Int
br:List Bool
lf:Option Int
rc:List (Str×Int×Bool)
structure CA where
dx:Addr
li:Addr
bo:Addr
cl:Addr
dc:Addr
br:Addr
rc:Addr
noncomputable def lfV:Option Int→V
| .none=>.non
| .some i=>.int i
noncomputable def chF(a:CA)(m:CM):List (Str×V):=[("blocks",.int m.bl),("pages",.int m.pg),("most",.int m.mo),("limits",.ref a.li),("borne",.ref a.bo),("clearings",.ref a.cl),("deed_counts",.ref a.dc),("broken",.ref a.br),("deeds_left",lfV m.lf),("record",.ref a.rc)]
noncomputable def trip(H:Hp)(v:V)(d:Str×Int×Bool):Prop:=∃p,v=.ref p∧H p=some (.tup [.str d.1,.int d.2.1,.bl d.2.2])
noncomputable abbrev Recd(H:Hp):List V→List (Str×Int×Bool)→Prop:=Paired (trip H)
theorem Recd.keep{F:List Addr}{H H':Hp}(k:Keep F H H'){rs:List V}{ds:List (Str×Int×Bool)}(r:Recd H rs ds):Recd H' rs ds:=Paired.mapP r λv d ⟨p,e,h⟩=>⟨p,e,k.tp _ _ h⟩
theorem _root_.PySem.Paired.len{α β:Type}{F:α→β→Prop}:∀{l₁:List α} {l₂:List β},Paired F l₁ l₂→l₁.length=l₂.length
|_,_,.nil=>rfl
|_,_,.cons _ t=>dO (· + 1) t.len
theorem Paired.snoc{α β:Type}{F:α→β→Prop}:∀{l₁:List α} {l₂:List β} {a:α} {b:β},Paired F l₁ l₂→F a b→Paired F (l₁++[a]) (l₂++[b])
|_,_,_,_,.nil,h=>.cons h .nil
|_,_,_,_,.cons r t,h=>.cons r (Paired.snoc t h)
noncomputable def foot(c:Addr)(a:CA):List Addr:=[c,a.bo,a.cl,a.dc,a.br,a.rc]
structure ChipAt(C:Addr)(H:Hp)(c:Addr)(a:CA)(m:CM):Prop where
ins:H c=some (.ins C a.dx (chF a m))
li:H a.li=some (.dK m.lim)
bo:H a.bo=some (.lst m.bo)
cl:H a.cl=some (.lst (m.cl.map V.int))
dc:H a.dc=some (.lst (m.dc.map V.int))
br:H a.br=some (.lst (m.br.map V.bl))
rc:∃rs,H a.rc=some (.lst rs)∧Recd H rs m.rc
nd:[a.bo,a.cl,a.dc,a.br,a.rc].Nodup
structure CM.Ok(m:CM):Prop where
bl1:2≤m.bl
bl2:m.bl≤16
pg1:1≤m.pg
pg2:m.pg≤16
nbo:(m.bo.length:Int)=m.bl*m.pg
ncl:(m.cl.length:Int)=m.bl
ndc:(m.dc.length:Int)=m.bl
nbr:(m.br.length:Int)=m.bl
lim:∀b v,valV m.lim (Sum.inl b)=some v→∃n,v=.int n
nrc:m.rc.length≤1000000
section
variable{C c:Addr}{a:CA}{m:CM}{H H':Hp}
theorem ChipAt.ne(h:ChipAt C H c a m):c≠a.bo∧c≠a.cl∧c≠a.dc∧c≠a.br∧c≠a.rc:=by obtain⟨rs,e,_⟩:=h.rc;exact⟨jZ h.ins h.bo (by intro z;cases z),jZ h.ins h.cl (by intro z;cases z),jZ h.ins h.dc (by intro z;cases z),jZ h.ins h.br (by intro z;cases z),jZ h.ins e (by intro z;cases z)⟩
theorem ChipAt.nel(h:ChipAt C H c a m):a.li≠c∧a.li≠a.bo∧a.li≠a.cl∧a.li≠a.dc∧a.li≠a.br∧a.li≠a.rc:=by obtain⟨rs,e,_⟩:=h.rc;exact⟨jZ h.li h.ins (by intro z;cases z),jZ h.li h.bo (by intro z;cases z),jZ h.li h.cl (by intro z;cases z),jZ h.li h.dc (by intro z;cases z),jZ h.li h.br (by intro z;cases z),jZ h.li e (by intro z;cases z)⟩
theorem ChipAt.dst(h:ChipAt C H c a m):(a.bo≠a.cl∧a.bo≠a.dc∧a.bo≠a.br∧a.bo≠a.rc)∧(a.cl≠a.dc∧a.cl≠a.br∧a.cl≠a.rc)∧(a.dc≠a.br∧a.dc≠a.rc)∧a.br≠a.rc:=by(
have:=h.nd
simp only[gD,kN,dA,not_or,cY]at this
obtain⟨⟨a1,a2,a3,a4⟩,⟨b1,b2,b3⟩,⟨c1,c2⟩,d1,_⟩:=this
exact⟨⟨a1,a2,a3,a4⟩,⟨b1,b2,b3⟩,⟨c1,c2⟩,d1⟩)
theorem ChipAt.keep{F:List Addr}(h:ChipAt C H c a m)(k:Keep F H H')(n:∀b∈a.li::foot c a,b∉F):ChipAt C H' c a m:=by obtain⟨rs,e,r⟩:=h.rc;exact⟨k.k _ _ (n _ (by simp[foot])) h.ins,k.k _ _ (n _ (by simp)) h.li,k.k _ _ (n _ (by simp[foot])) h.bo,k.k _ _ (n _ (by simp[foot])) h.cl,k.k _ _ (n _ (by simp[foot])) h.dc,k.k _ _ (n _ (by simp[foot])) h.br,⟨rs,k.k _ _ (n _ (by simp[foot])) e,r.keep k⟩,h.nd⟩
theorem ChipAt.same(h:ChipAt C H c a m)(s:Same H H'):ChipAt C H' c a m:=h.keep (F:=[]) (Keep.same s) (by simp)
theorem ChipAt.setLf(h:ChipAt C H c a m)(v:Option Int):ChipAt C (upd H c (.ins C a.dx (chF a { m with lf:=v }))) c a { m with lf:=v }:=by(
obtain⟨n1,n2,n3,n4,n5⟩:=h.ne
obtain⟨l1,_⟩:=h.nel
obtain⟨rs,e,r⟩:=h.rc
have k:Keep [c] H (upd H c (.ins C a.dx (chF a { m with lf:=v }))):=Keep.upd h.ins (λ_ z=>by cases z) (by simp)
exact⟨qI,by rw[qC l1];exact h.li,by rw[qC n1.symm];exact h.bo,by rw[qC n2.symm];exact h.cl,by rw[qC n3.symm];exact h.dc,by rw[qC n4.symm];exact h.br,⟨rs,by rw[qC n5.symm];exact e,r.keep k⟩,h.nd⟩)
theorem ChipAt.setBo(h:ChipAt C H c a m)(v:List V):ChipAt C (upd H a.bo (.lst v)) c a { m with bo:=v }:=by(
obtain⟨n1,n2,n3,n4,n5⟩:=h.ne
obtain⟨l0,l1,l2,l3,l4,l5⟩:=h.nel
obtain⟨⟨a1,a2,a3,a4⟩,⟨b1,b2,b3⟩,⟨c1,c2⟩,d1⟩:=h.dst
obtain⟨rs,e,r⟩:=h.rc
have k:Keep [a.bo] H (upd H a.bo (.lst v)):=Keep.upd h.bo (λ_ z=>by cases z) (by simp)
exact⟨by rw[qC n1];exact h.ins,by rw[qC l1];exact h.li,qI,by rw[qC a1.symm];exact h.cl,by rw[qC a2.symm];exact h.dc,by rw[qC a3.symm];exact h.br,⟨rs,by rw[qC a4.symm];exact e,r.keep k⟩,h.nd⟩)
theorem ChipAt.setCl(h:ChipAt C H c a m)(v:List Int):ChipAt C (upd H a.cl (.lst (v.map V.int))) c a { m with cl:=v }:=by(
obtain⟨n1,n2,n3,n4,n5⟩:=h.ne
obtain⟨l0,l1,l2,l3,l4,l5⟩:=h.nel
obtain⟨⟨a1,a2,a3,a4⟩,⟨b1,b2,b3⟩,⟨c1,c2⟩,d1⟩:=h.dst
obtain⟨rs,e,r⟩:=h.rc
have k:Keep [a.cl] H (upd H a.cl (.lst (v.map V.int))):=Keep.upd h.cl (λ_ z=>by cases z) (by simp)
exact⟨by rw[qC n2];exact h.ins,by rw[qC l2];exact h.li,by rw[qC a1];exact h.bo,qI,by rw[qC b1.symm];exact h.dc,by rw[qC b2.symm];exact h.br,⟨rs,by rw[qC b3.symm];exact e,r.keep k⟩,h.nd⟩)
theorem ChipAt.setDc(h:ChipAt C H c a m)(v:List Int):ChipAt C (upd H a.dc (.lst (v.map V.int))) c a { m with dc:=v }:=by(
obtain⟨n1,n2,n3,n4,n5⟩:=h.ne
obtain⟨l0,l1,l2,l3,l4,l5⟩:=h.nel
obtain⟨⟨a1,a2,a3,a4⟩,⟨b1,b2,b3⟩,⟨c1,c2⟩,d1⟩:=h.dst
obtain⟨rs,e,r⟩:=h.rc
have k:Keep [a.dc] H (upd H a.dc (.lst (v.map V.int))):=Keep.upd h.dc (λ_ z=>by cases z) (by simp)
exact⟨by rw[qC n3];exact h.ins,by rw[qC l3];exact h.li,by rw[qC a2];exact h.bo,by rw[qC b1];exact h.cl,qI,by rw[qC c1.symm];exact h.br,⟨rs,by rw[qC c2.symm];exact e,r.keep k⟩,h.nd⟩)
theorem ChipAt.addRc{p:Addr}{rs:List V}{d:Str×Int×Bool}(h:ChipAt C H c a m)(e:H a.rc=some (.lst rs))(hp:H p=some (.tup [.str d.1,.int d.2.1,.bl d.2.2])):ChipAt C (upd H a.rc (.lst (rs++[.ref p]))) c a { m with rc:=m.rc++[d] }:=by(
obtain⟨n1,n2,n3,n4,n5⟩:=h.ne
obtain⟨l0,l1,l2,l3,l4,l5⟩:=h.nel
obtain⟨⟨a1,a2,a3,a4⟩,⟨b1,b2,b3⟩,⟨c1,c2⟩,d1⟩:=h.dst
obtain⟨rs',e',r⟩:=h.rc
rw[e]at e'
cases e'
have k:Keep [a.rc] H (upd H a.rc (.lst (rs++[.ref p]))):=Keep.upd e (λ_ z=>by cases z) (by simp)
exact⟨by rw[qC n5];exact h.ins,by rw[qC l5];exact h.li,by rw[qC a4];exact h.bo,by rw[qC b3];exact h.cl,by rw[qC c2];exact h.dc,by rw[qC d1];exact h.br,⟨_,qI,Paired.snoc (r.keep k) ⟨p,rfl,k.tp _ _ hp⟩⟩,h.nd⟩)
end
noncomputable def CM.deed(m:CM)(w:Str)(pl b:Int)(f:Bool):CM:={ m with lf:=m.lf.map (· - 1),dc:=m.dc.set b.toNat (m.dc.getD b.toNat 0+1),rc:=m.rc++[(w,pl,!f)],br:=if f then m.br.set b.toNat true else m.br }
noncomputable def clr(xs:List V)(i n:Nat):List V:=match n with
|0=>xs
|n+1=>(clr xs i n).set (i+n) .non
noncomputable def CM.new(bl pg mo:Int)(lim:List (Key×V)):CM:=⟨bl,pg,mo,lim,List.replicate (bl*pg).toNat .non,List.replicate bl.toNat 0,List.replicate bl.toNat 0,List.replicate bl.toNat false,none,[]⟩
theorem qGO{x:V}{lo hi:Int}(h:inB x lo hi=true):∃p,x=.int p∧lo≤p∧p≤hi:=by(
cases x with
|int p=>have h:(decide (lo≤p)&&decide (p≤hi))=true:=h;rw[m8]at h;exact⟨p,rfl,mP h.1,mP h.2⟩
|_=>cases h)
theorem qJW{m:CM}{p:Int}(ok:m.Ok)(p0:0≤p)(p1:p≤m.bl*m.pg-1):0≤p / m.pg∧p / m.pg<m.bl:=by have:=ok.pg1;exact⟨Int.ediv_nonneg p0 (by lia),Int.ediv_lt_of_lt_mul (by lia) (by lia)⟩
theorem lf0{m:CM}:decide (lfV m.lf=V.int 0)=decide (m.lf=some 0):=by(
cases e:m.lf with
|none=>rfl
|some i=>
 show decide (V.int i=V.int 0)=_;by_cases z:i=0
 ·subst z;rfl
 rw[hU (λq=>z (by injection q)),hU (λq=>z (by injection q))])
theorem qGP{m:CM}:scal (lfV m.lf) (.int 0)=true:=by cases m.lf<;>rfl
theorem getB{m:CM}{b:Int}(h0:0≤b)(h:b<(m.br.length:Int)):atI (m.br.map V.bl) b=some (.bl (m.br.getD b.toNat false)):=by(
obtain⟨j,rfl⟩:=rD h0
refine yK ?_
have hj:j<m.br.length:=by lia
simp[hj])
theorem getI{xs:List Int}{b:Int}(h0:0≤b)(h:b<(xs.length:Int)):atI (xs.map V.int) b=some (.int (xs.getD b.toNat 0)):=by(
obtain⟨j,rfl⟩:=rD h0
refine yK ?_
have hj:j<xs.length:=by lia
simp[hj])
theorem getV{xs:List V}{b:Int}(h0:0≤b)(h:b<(xs.length:Int)):atI xs b=some (xs.getD b.toNat .non):=by(
obtain⟨j,rfl⟩:=rD h0
refine yK ?_
have hj:j<xs.length:=by lia
simp[hj])
theorem ixOk{n:Nat}{b:Int}(h0:0≤b)(h:b<(n:Int)):ixN n b=some b.toNat:=by unfold ixN;rw[kL h0,kL h]
theorem CM.Ok.deed{m:CM}(ok:m.Ok){w:Str}{pl b:Int}{f:Bool}(h:m.rc.length<1000000):(m.deed w pl b f).Ok:=by(
refine⟨ok.bl1,ok.bl2,ok.pg1,ok.pg2,ok.nbo,ok.ncl,?_,?_,ok.lim,?_⟩
·show((m.dc.set _ _).length:Int)=m.bl;rw[gJ];exact ok.ndc
·show(((if f then m.br.set b.toNat true else m.br)).length:Int)=m.bl;cases f with
 |true=>rw[kL rfl,gJ];exact ok.nbr
 |false=>exact ok.nbr
show(m.rc++[_]).length≤1000000
rw[mL,gQ]
lia)
noncomputable def qGQ:Sp:=λvs H Q _=>∃x y,vs=[x,y]∧Knd H x∧Knd H y∧Q (.bl (inB x 2 16&&inB y 1 16)) H
theorem Paired.at{α β:Type}{F:α→β→Prop}:∀{l₁:List α} {l₂:List β} {i:Nat} {a:α},Paired F l₁ l₂→l₁[i]?=some a→∃b,l₂[i]?=some b∧F a b
|_,_,0,_,.cons r _,e=>by simp at e;subst e;exact⟨_,rfl,r⟩
|_,_,i+1,_,.cons _ t,e=>by have e2:=lC.symm.trans e;obtain⟨b,h1,h2⟩:=Paired.at t e2;exact⟨b,lC.trans h1,h2⟩
|_,_,_,_,.nil,e=>by simp at e
theorem q3W(xs:List V)(i:Nat):∀n,(clr xs i n).length=xs.length
|0=>rfl
|n+1=>by show((clr xs i n).set (i+n) .non).length=xs.length;rw[gJ,q3W xs i n]
theorem qJX{bl pg mo:Int}{lim:List (Key×V)}(b1:2≤bl)(b2:bl≤16)(p1:1≤pg)(p2:pg≤16)(hl:∀b v,valV lim (Sum.inl b)=some v→∃n,v=V.int n):(CM.new bl pg mo lim).Ok:=by(
have h:0≤bl*pg:=xK (by lia) (by lia)
refine⟨b1,b2,p1,p2,?_,?_,?_,?_,hl,by show 0≤1000000;decide⟩
·show((List.replicate (bl*pg).toNat V.non).length:Int)=bl*pg;rw[gK];lia
·show((List.replicate bl.toNat (0:Int)).length:Int)=bl;rw[gK];lia
·show((List.replicate bl.toNat (0:Int)).length:Int)=bl;rw[gK];lia
show((List.replicate bl.toNat false).length:Int)=bl
rw[gK]
lia)
noncomputable def Up(x:Addr)(H H':Hp):Prop:=∀b o,b≠x→H b=some o→H' b=some o
section
variable{x C dx:Addr}{fs:List (Str×V)}{H H':Hp}
theorem Up.of{o:HO}(s:Same H H'):Up x H (upd H' x o):=λb u n e=>by rw[qC n];exact s b u e
theorem Up.free(u:Up x H H'){b:Addr}(n:b≠x)(e:H' b=none):H b=none:=by(
cases q:H b with
|none=>rfl
|some o=>rw[u b o n q]at e;cases e)
end
end L2
namespace L2
open PySem PySem.Spec PyProof.Rows
noncomputable def tMid(t u:TS):TS:=λD σ H=>∃M:St→Hp→Prop,t { D with nx:=M } σ H∧∀σ' H',M σ' H'→u D σ' H'
noncomputable def qLA(t:TT):TT:=λσ H Q=>∃M:Bool→Hp→Prop,t σ H M∧∀b H',M b H'→Q b H'
noncomputable def qLB(t:TE):TE:=λσ H Q=>∃M:VK,t σ H M∧∀v H',M v H'→Q v H'
section
variable{X:Cx}{st:Stmt}{rest:List Stmt}{t u:TS}{e:Expr}{te:TE}{tt:TT}
theorem zW(h1:PS X st t)(h2:PSs X rest u):PSs X (st::rest) (tMid t u):=by(
intro pins s σ H D I hZ
obtain⟨M,a,b⟩:=hZ
refine hV (thn (h1 pins s σ H _ I a) λf s1 z=>?_)
cases f with
|next=>obtain⟨σ',H',I',q⟩:=z;exact h2 pins s1 σ' H' D I' (b σ' H' q)
|brk=>exact kQ z
|cont=>exact kQ z
|ret v=>exact kQ z)
theorem qJY(h:PT X e tt):PT X e (qLA tt):=λpins s σ H Q I ⟨M,a,b⟩=>thn (h pins s σ H M I a) λc s1 ⟨H',I',q⟩=>⟨H',I',b c H' q⟩
theorem qB1(h:PE X e te):PE X e (qLB te):=λpins s σ H Q I ⟨M,a,b⟩=>thn (h pins s σ H M I a) λc s1 ⟨v,H',I',r,q⟩=>⟨v,H',I',r,b v H' q⟩
end
theorem yG{a b:Int}:decide (V.int a=V.int b)=decide (a=b):=by(
by_cases e:a=b
·subst e;simp
rw[hU e,hU (λz=>e (by injection z))])
theorem vT(x n:Int)(h:0<n):0≤x%n∧x%n<n:=⟨bD _ (by lia),x9 _ h⟩
section
variable{X:Cx}{pins:List (Addr×Obj)}{σ:St}{H:Hp}{s:Shared}{h':Heap}
theorem Inv.turnedN{t':Nat}{fp:List Addr}(I:Inv X pins σ H s)(k:∀b o,b∉fp→s.heap.get? b=some o→h'.get? b=some o)(hf:∀b∈fp,FpOk X pins H b):Inv X pins σ H { s with heap:=h',toks:=t' }:=by(
have nit:∀b u,H b=some u→b∉fp:=λb u e z=>by rw[(hf b z).1]at e;cases e
refine I.step (g':=s.gens) (d':=s.drawn) (ch:=fp) (λb hb=>?_) (λb o _ _ hc e _=>k b o hc e) (λb o _ _ hc e _=>⟨o.slots,k b o hc e⟩) (λ_ _ _ _ n=>n)
 (λb o hc e=>⟨o,k b o hc e⟩) (λ_ _ e=>e) (λ_ _ _ e=>e) (λb ps e=>⟨#[],by rw[e];simp⟩) (λm hm=>?_) (λb u e=>?_) I.bare
·obtain⟨f0,f1,f2,f3,f4,f5⟩:=hf b hb;exact⟨f3,f1,f4,f5⟩
·obtain⟨o,es,ep,ho,r⟩:=hm;exact⟨o,es,ep,k _ o (λz=>(hf _ z).2.1 rfl) ho,r⟩
refine(I.hok b u e).stay (λc v hc q=>k c v ?_ q) (λ_ q=>q) λ_ _ q=>q
rcases hc with z|z
·rw[z];exact nit b u e
exact nit c _ z)
end
end L2
namespace L2
open PySem
theorem q3X{es rest:List Expr}{x1}{p:Pos}{env:Env}:starEach (.Tuple es x1 p::rest) env=(false,eval (.Tuple es x1 p) env)::starEach rest env:=rfl
theorem qEN{es rest:List Expr}{p:Pos}{env:Env}:starEach (.List es p::rest) env=(false,eval (.List es p) env)::starEach rest env:=rfl
end L2
namespace L2
open PySem PySem.Spec PyProof.Rows
inductive Eqv(K:PySem.W.Frag)(H:Hp):Nat→V→V→Prop where
|flat {n:Nat} {x:V} (f:q1J x=true):Eqv K H n x x
|lst {n:Nat} {a b:Addr} {xs ys:List V} (ha:SqL K H a xs) (hb:SqL K H b ys) (hl:xs.length=ys.length) (hi:∀(i:Nat) x y,xs[i]?=some x→ys[i]?=some y→Eqv K H n x y):Eqv K H (n+1) (.ref a) (.ref b)
|tup {n:Nat} {a b:Addr} {xs ys:List V} (ha:SqT K H a xs) (hb:SqT K H b ys) (hl:xs.length=ys.length) (hi:∀(i:Nat) x y,xs[i]?=some x→ys[i]?=some y→Eqv K H n x y):Eqv K H (n+1) (.ref a) (.ref b)
theorem qEO{x:V}(f:q1J x=true):eqV x x=true:=by(
cases x with
|non=>rfl
|bl b=>cases b<;>rfl
|int i=>show(i==i)=true;exact beq_self_eq_true i
|str z=>show(z==z)=true;exact beq_self_eq_true z
|_=>exact absurd (show false=true from f) kX)
theorem vO{n:Nat}:(List.range n).all (λ_=>true)=true:=by simp
section
variable{X:Cx}{pins:List (Addr×Obj)}{σ:St}{H:Hp}{s:Shared}
theorem Vals.atN{xs:List V}{us:List Value}(r:Vals xs us){j:Nat}(h:j<us.length):∃x,xs[j]?=some x∧RelV x us[j]:=by(
have e:xs[j]?=some (xs[j]'(by rw[r.length];exact h)):=kE _
obtain⟨u,hu,ru⟩:=r.get e
rw[kE h]at hu
cases hu
exact⟨_,e,ru⟩)
theorem Eqv.at(I:Inv X pins σ H s){n:Nat}{y x:V}(h:Eqv X.K H n y x):∀{A:Around} {u v:Value},RelV y u→RelV x v→A.units+n<cLine→SeqAt.EqAt A s u v true:=by(
induction h with
|flat f=>intro A u v ru rv _;have e:=qE2 (A:=A) (s:=s) ru rv f f;rw[qEO f]at e;exact e
|@lst n a b xs ys ha hb hl hi ih=>
 intro A u v ru rv hu;cases ru;cases rv;by_cases hab:a=b
 ·subst hab;exact l7 _
 obtain⟨i1,r1,p1,_⟩:=I.list ha;obtain⟨i2,r2,p2,_⟩:=I.list hb;have l1:=r1.length;have l2:=r2.length;refine aA hab ?_;have e:=SeqAt.RcAt.lists (A:=A) (e:=λ_=>true) p1.isList p2.isList (by simp;lia) (by lia) (λj h1 h2=>?_)
 ·rw[vO]at e;exact e
 obtain⟨x1,e1,q1⟩:=r1.atN (j:=j) (by simpa using h1);obtain⟨x2,e2,q2⟩:=r2.atN (j:=j) (by simpa using h2);exact ih j x1 x2 e1 e2 (by simpa using q1) (by simpa using q2) (by show A.units+1+n<cLine;lia)
|@tup n a b xs ys ha hb hl hi ih=>
 intro A u v ru rv hu;cases ru;cases rv;by_cases hab:a=b
 ·subst hab;exact l7 _
 obtain⟨i1,r1,p1,_⟩:=I.tuple ha;obtain⟨i2,r2,p2,_⟩:=I.tuple hb;have l1:=r1.length;have l2:=r2.length;refine aA hab ?_;have e:=SeqAt.RcAt.tuples (A:=A) (e:=λ_=>true) (show s.heap.IsTuple a i1.toArray from p1) (show s.heap.IsTuple b i2.toArray from p2) (by lia) (λj h1 h2=>?_)
 ·rw[vO,xV,show(i1.toArray.size==i2.toArray.size)=true by simp;lia]at e;exact e
 obtain⟨x1,e1,q1⟩:=r1.atN (j:=j) (by simpa using h1);obtain⟨x2,e2,q2⟩:=r2.atN (j:=j) (by simpa using h2);exact ih j x1 x2 e1 e2 (by simpa using q1) (by simpa using q2) (by show A.units+1+n<cLine;lia))
theorem q85{x:V}(f:q1J x=true):scal x x=true:=by(
cases x with
|non=>rfl
|bl b=>rfl
|int i=>rfl
|str z=>rfl
|_=>exact absurd (show false=true from f) kX)
noncomputable def qIF(K:PySem.W.Frag)(r:Bool):R2:=λx y H Q=>Eqv K H 6 x y∧Q (.bl r) H
theorem qJZ(hu:X.A.units+64<cLine):OpR X (compareOp .Eq) (qIF X.K true):=by(
intro pins s σ H x y v u Q I rx ry hZ
obtain⟨h,q⟩:=hZ
cases h with
|flat f=>exact u9 pins s σ H x x v u Q I rx ry ⟨q85 f,by rw[hC rfl];exact q⟩
|@lst _ a b xs ys ha hb hl hi=>cases rx;cases ry;obtain⟨i1,r1,p1,_⟩:=I.list ha;obtain⟨i2,r2,p2,_⟩:=I.list hb;have l1:=r1.length;have l2:=r2.length;refine bE (e:=λ_=>true) p1.isList p2.isList (by simp;lia) (by lia) (λj h1 h2=>?_) ⟨.bl true,H,I,by rw[vO];rfl,q⟩;obtain⟨x1,e1,q1⟩:=r1.atN (j:=j) (by simpa using h1);obtain⟨x2,e2,q2⟩:=r2.atN (j:=j) (by simpa using h2);exact(hi j x1 x2 e1 e2).at I (by simpa using q1) (by simpa using q2) (by show X.A.units+1+5<cLine;lia)
|@tup _ a b xs ys ha hb hl hi=>cases rx;cases ry;obtain⟨i1,r1,p1,_⟩:=I.tuple ha;obtain⟨i2,r2,p2,_⟩:=I.tuple hb;have l1:=r1.length;have l2:=r2.length;refine SeqAt.eq_tupleAt (e:=λ_=>true) (show s.heap.IsTuple a i1.toArray from p1) (show s.heap.IsTuple b i2.toArray from p2) (by lia) (λj h1 h2=>?_) ⟨.bl true,H,I,by rw[vO,xV,show(i1.toArray.size==i2.toArray.size)=true by simp;lia];rfl,q⟩;obtain⟨x1,e1,q1⟩:=r1.atN (j:=j) (by simpa using h1);obtain⟨x2,e2,q2⟩:=r2.atN (j:=j) (by simpa using h2);exact(hi j x1 x2 e1 e2).at I (by simpa using q1) (by simpa using q2) (by show X.A.units+1+5<cLine;lia))
theorem qEP(hu:X.A.units+64<cLine):OpR X (compareOp .NotEq) (qIF X.K false):=by(
intro pins s σ H x y v u Q I rx ry hZ
obtain⟨h,q⟩:=hZ
cases h with
|flat f=>exact q7R pins s σ H x x v u Q I rx ry ⟨q85 f,by rw[hC rfl];exact q⟩
|@lst _ a b xs ys ha hb hl hi=>cases rx;cases ry;obtain⟨i1,r1,p1,_⟩:=I.list ha;obtain⟨i2,r2,p2,_⟩:=I.list hb;have l1:=r1.length;have l2:=r2.length;refine aB (e:=λ_=>true) p1.isList p2.isList (by simp;lia) (by lia) (λj h1 h2=>?_) _ _ _ _ ⟨.bl false,H,I,by rw[vO];rfl,q⟩;obtain⟨x1,e1,q1⟩:=r1.atN (j:=j) (by simpa using h1);obtain⟨x2,e2,q2⟩:=r2.atN (j:=j) (by simpa using h2);exact(hi j x1 x2 e1 e2).at I (by simpa using q1) (by simpa using q2) (by show X.A.units+1+5<cLine;lia)
|@tup _ a b xs ys ha hb hl hi=>cases rx;cases ry;obtain⟨i1,r1,p1,_⟩:=I.tuple ha;obtain⟨i2,r2,p2,_⟩:=I.tuple hb;have l1:=r1.length;have l2:=r2.length;refine xQ (e:=λ_=>true) (show s.heap.IsTuple a i1.toArray from p1) (show s.heap.IsTuple b i2.toArray from p2) (by lia) (λj h1 h2=>?_) _ _ _ _ ⟨.bl false,H,I,by rw[vO,xV,show(i1.toArray.size==i2.toArray.size)=true by simp;lia];rfl,q⟩;obtain⟨x1,e1,q1⟩:=r1.atN (j:=j) (by simpa using h1);obtain⟨x2,e2,q2⟩:=r2.atN (j:=j) (by simpa using h2);exact(hi j x1 x2 e1 e2).at I (by simpa using q1) (by simpa using q2) (by show X.A.units+1+5<cLine;lia))
end
noncomputable def clOf(env:Env):List (Str×NameKind)→List (Str×Addr)→List (Str×Addr)
| [],cs=>cs
|(n,k)::r,cs=>clOf env r (if(k==NameKind.free)=true then(match env.cells.lookup n with|some a=>(n,a)::cs|none=>cs)else cs)
theorem q67{scope:Scope}{env:Env}(h:∀y∈scope.names,y.2=.free→∃c,env.cells.lookup y.1=some c):closureFor scope env=pure (clOf env scope.names []):=by(
unfold closureFor
have go:∀(l:List (Str×NameKind)) (cs:List (Str×Addr)),(∀y∈l,y.2=.free→∃c,env.cells.lookup y.1=some c)→(forIn l cs λx r=>(match x with|(name,kind)=>if(kind==NameKind.free)=true then do let a←cellOf env name;pure (ForInStep.yield ((name,a)::r))else pure (ForInStep.yield r):Sem (ForInStep (List (Str×Addr)))))=pure (clOf env l cs):=by
 intro l;induction l with
 |nil=>intro cs _;rfl
 |cons y r ih=>
  intro cs hl;obtain⟨n,k⟩:=y;rw[bG];by_cases hk:(k==NameKind.free)=true
  ·obtain⟨c,e⟩:=hl (n,k) kY (by simpa using hk);have e2:cellOf env n=pure c:=by unfold cellOf;rw[e]
   show(bind (if(k==NameKind.free)=true then _ else _) _:Sem _)=_;rw[kL hk,e2];show(forIn r ((n,c)::cs) _:Sem _)=pure (clOf env r (if(k==NameKind.free)=true then(match env.cells.lookup n with|some a=>(n,a)::cs|none=>cs)else cs));rw[kL hk,e];exact ih _ λy hy=>hl y (kB _ hy)
  show(bind (if(k==NameKind.free)=true then _ else _) _:Sem _)=_;rw[kJ hk];show(forIn r cs _:Sem _)=pure (clOf env r (if(k==NameKind.free)=true then(match env.cells.lookup n with|some a=>(n,a)::cs|none=>cs)else cs));rw[kJ hk];exact ih _ λy hy=>hl y (kB _ hy)
exact(dO (λz:Sem (List (Str×Addr))=>z >>= λs=>pure s) (go scope.names [] h)).trans rfl)
theorem q68{env:Env}{x:Str}{c:Addr}:∀(l:List (Str×NameKind)) (cs:List (Str×Addr)),(cs.lookup x=some c→env.cells.lookup x=some c)→(clOf env l cs).lookup x=some c→env.cells.lookup x=some c
| [],cs,hcs,h=>hcs h
|(n,k)::r,cs,hcs,h=>by
 refine q68 r _ ?_ h;intro q;split at q
 ·cases e:env.cells.lookup n with
  |none=>rw[e]at q;exact hcs q
  |some a=>
   rw[e]at q;have q:List.lookup x ((n,a)::cs)=some c:=q;rw[d5]at q;cases z:x==n with
   |true=>
    rw[z]at q;have z':x=n:=by simpa using z
    rw[z',e,←q]
   |false=>rw[z]at q;exact hcs q
 exact hcs q
theorem q69{env:Env}{x:Str}{c:Addr}(e:env.cells.lookup x=some c):∀(l:List (Str×NameKind)) (cs:List (Str×Addr)),((x,NameKind.free)∈l∨cs.lookup x=some c)→(clOf env l cs).lookup x=some c
| [],cs,h=>h.resolve_left (by simp)
|(n,k)::r,cs,h=>by
 refine q69 e r _ ?_;by_cases hn:(x==n)=true
 ·have z':x=n:=by simpa using hn
  by_cases hk:(k==NameKind.free)=true
  ·refine .inr ?_;rw[kL hk,←z',e];show List.lookup x ((x,c)::cs)=some c;simp
  rcases h with h|h
  ·rcases kN.mp h with q|q
   ·cases q;exact absurd (by simp) hk
   exact .inl q
  rw[kJ hk];exact .inr h
 have nx:x≠n:=λz=>hn (by simp[z]);rcases h with h|h
 ·rcases kN.mp h with q|q
  ·cases q;exact absurd rfl nx
  exact .inl q
 refine .inr ?_;split
 ·cases en:env.cells.lookup n with
  |none=>exact h
  |some a=>
   show List.lookup x ((n,a)::cs)=some c;have hn:(x==n)=false:=by simpa using nx
   rw[d5,hn];exact h
 exact h
theorem q9U{env:Env}{x:Str}:∀{names:List (Str×NameKind)},(∀y∈names,y.2≠ .cell)→((names.map λ(n,k)=>if(k==NameKind.free&&env.scope.kind== .function&&env.kindOf n==some .cell)then(n,NameKind.cell)else(n,k)).lookup x=some .cell∨(names.map λ(n,k)=>if(k==NameKind.free&&env.scope.kind== .function&&env.kindOf n==some .cell)then(n,NameKind.cell)else(n,k)).lookup x=some .free)→(x,NameKind.free)∈names
| [],_,h=>by simp at h
|(n,k)::r,hc,h=>by
 have ih:=@q9U env x r λy hy=>hc y (kB _ hy);rw[mQ]at h;by_cases hq:(k==NameKind.free&&env.scope.kind== .function&&env.kindOf n==some .cell)=true
 ·have hk:k=.free:=by rw[m8,m8]at hq;simpa using hq.1.1
  simp only[kL hq,d5]at h;cases hx:x==n with
  |true=>
   have e:x=n:=by simpa using hx
   rw[e,hk];exact kY
  |false=>simp only[hx]at h;exact kB _ (ih h)
 simp only[kJ hq,d5]at h;cases hx:x==n with
 |true=>
  simp only[hx]at h;have e:x=n:=by simpa using hx
  rcases h with h|h
  ·cases h;exact absurd rfl (hc _ kY)
  cases h;rw[e];exact kY
 |false=>simp only[hx]at h;exact kB _ (ih h)
theorem q9V{env:Env}{x:Str}(hk:env.scope.kind=.function)(he:env.kindOf x=some .cell):∀{names:List (Str×NameKind)},names.lookup x=some .free→(names.map λ(n,k)=>if(k==NameKind.free&&env.scope.kind== .function&&env.kindOf n==some .cell)then(n,NameKind.cell)else(n,k)).lookup x=some .cell
| [],h=>by simp at h
|(n,k)::r,h=>by
 have ih:=@q9V env x hk he r;rw[mQ];rw[d5]at h;cases hx:x==n with
 |true=>
  simp only[hx]at h;have e:x=n:=by simpa using hx
  cases h;subst e;show List.lookup x ((if(NameKind.free==NameKind.free&&env.scope.kind==ScopeKind.function&&env.kindOf x==some NameKind.cell)=true then(x,NameKind.cell)else(x,NameKind.free))::_)=_;rw[kL (by rw[hk,he];rfl),d5];simp
 |false=>
  simp only[hx]at h;show List.lookup x ((if(k==NameKind.free&&env.scope.kind==ScopeKind.function&&env.kindOf n==some NameKind.cell)=true then(n,NameKind.cell)else(n,k))::_)=_;by_cases hq:(k==NameKind.free&&env.scope.kind== .function&&env.kindOf n==some .cell)=true
  ·rw[kL hq,d5];simp only[hx];exact ih h
  rw[kJ hq,d5];simp only[hx];exact ih h
noncomputable abbrev vP(X:Cx)(N:List Str)(scope:Scope)(C:Addr)(fp:List Addr)(s:Shared)(H:Hp)(xe:Value→Shared→Prop):Cx:={ X with N:=N,s₀:=s,H₀:=H,env:=compEnvC scope (clOf X.env scope.names []) C X.env,outer:=X.stack,ex:=fp,fn:=λ_=>false,xe:=xe }
noncomputable def pick(ix:List Nat)(σ:St):St:=ix.map λi=>σ.getD i none
noncomputable def q86(XN:List Str)(kd:Str→Option NameKind)(names:List (Str×NameKind))(N:List Str)(ix:List Nat):Bool:=(List.range ix.length).all λj=>match N[j]?,ix[j]? with
 |some x,some i=>decide (XN[i]?=some x)&&decide (names.lookup x=some .free)&&decide (kd x=some .cell)
 |_,_=>false
theorem qEQ{XN:List Str}{kd:Str→Option NameKind}{names:List (Str×NameKind)}{N:List Str}{ix:List Nat}(h:q86 XN kd names N ix=true){j:Nat}(hj:j<ix.length){x:Str}(hx:N[j]?=some x):
 ∃i,ix[j]?=some i∧XN[i]?=some x∧names.lookup x=some .free∧kd x=some .cell:=by(
unfold q86 at h
rw[dM]at h
have q:=h j (gC.mpr hj)
rw[hx,kE hj]at q
simp only[m8,mJ]at q
exact⟨_,kE hj,q.1.1,q.1.2,q.2⟩)
theorem qGR{X:Cx}{pins:List (Addr×Obj)}{σ:St}{H:Hp}{s:Shared}(I:Inv X pins σ H s){N:List Str}{ix:List Nat}{scope:Scope}{fp:List Addr}{xe:Value→Shared→Prop}(hf:∀b∈fp,FpOk X pins H b)(ho:∀b∈fp,∃o,s.heap.get? b=some o)
 (hk:scope.kind=.function) (hc:∀y∈scope.names,y.2≠ .cell) (hfr:∀y∈scope.names,y.2=.free→X.env.kindOf y.1=some .cell) (hcap:q86 X.N X.env.kindOf scope.names N ix=true) (hN:ix.length≤N.length) {h₁:Heap} {tk n:Nat} {m:Str→Option Value}
 (hn:h₁.Ns (s.heap.objs.size+1) m) (hkp:∀b u,s.heap.get? b=some u→h₁.get? b=some u) (hD:h₁.get? s.heap.objs.size=some { cls:=.type "list",data:=.seq ([]:List Value).toArray n }):
 Inv (vP X N scope (s.heap.objs.size+1) fp s H xe) [] (pick ix σ++List.replicate (N.length-ix.length) none) (upd H s.heap.objs.size (.lst [])) { s with heap:=h₁,toks:=tk }:=by(
have fresh:H s.heap.objs.size=none:=I.hok.fresh (kO _)
have fresh1:H (s.heap.objs.size+1)=none:=I.hok.fresh (dL _)
have cel:∀x c,(clOf X.env scope.names []).lookup x=some c→X.env.cells.lookup x=some c:=λx c e=>q68 _ _ (by intro q;simp at q) e
have clt:∀x c,(clOf X.env scope.names []).lookup x=some c→c<s.heap.objs.size:=λx c e=>by obtain⟨v,q⟩:=I.cell x c (cel x c e);exact q.lt
refine⟨⟨I.ok.mod,hk,I.ok.glob,I.ok.blt,dL _,λx y c h1 h2=>I.ok.inj x y c (cel x c h1) (cel y c h2),λx hx=>?_,λx c h=>absurd h kX,I.ok.hd,I.ok.frames,.inl rfl,λb hb=>⟨?_,λx c e=>?_⟩,I.bs,mO I.ok.bsz I.sz,λb o e hb=>?_,λb hb z=>?_,I.stack,I.stkFree⟩,rfl,I.bare,Un.laid hkp (kO _) fresh,⟨m,hn,λi x v e1 e2 e3=>?_⟩,λx c e=>?_,?_,λx c e=>?_,λp hp=>?_,I.hok.laid hkp (kO _) ⟨by simp,[],n,.nil,hD⟩,?_⟩
·have hx:(x,NameKind.free)∈scope.names:=q9U hc hx;obtain⟨c,e⟩:=I.ok.has x (.inl (hfr _ hx rfl));exact⟨c,q69 e _ _ (.inl hx)⟩
·obtain⟨o,e⟩:=ho b hb;exact mZ (rE (mE e))
·exact(hf b hb).2.2.2.2.1 x c (cel x c e)
·rcases(hf b hb).2.2.2.1 with z|z
 ·exact I.ok.noex b o e z
 exact absurd (m7 (mE e) (mO I.ok.bsz z)) (d7 _)
·rcases kN.mp (I.stkSub b z)with z|z
 ·exact(hf b hb).2.1 z
 exact(hf b hb).2.2.1 z
·have hi:i<ix.length:=by
  by_cases hi:i<ix.length
  ·exact hi
  rw[dP (by simpa[pick]using hi),wK]at e2;split at e2<;>cases e2
 obtain⟨i0,q1,q2,q3,q4⟩:=qEQ hcap hi e1;rw[rT (by simpa[pick]using hi)]at e2;have e2:σ[i0]?=some (some v):=by
  unfold pick at e2;rw[mD,q1]at e2;have e2:σ.getD i0 none=some v:=kZ e2;rw[kI]at e2;cases z:σ[i0]? with
  |none=>rw[z]at e2;cases e2
  |some y=>rw[z]at e2;exact dO some e2
 obtain⟨mX,_,lX⟩:=I.loc;obtain⟨u,r,l⟩:=lX i0 x v q2 e2 (.inr (.inl q4));refine⟨u,r,.inr ⟨.inl (q9V I.ok.kind q4 q3),?_⟩⟩;rcases l with⟨l,_⟩|⟨_,c,e,z⟩
 ·rw[q4]at l;cases l
 obtain⟨o,e',d⟩:=z;exact⟨c,q69 e _ _ (.inl (gY q3)),o,hkp _ _ e',d⟩
·obtain⟨v,o,e',d⟩:=I.cell x c (cel x c e);exact⟨v,o,hkp _ _ e',d⟩
·show upd H s.heap.objs.size (.lst []) (s.heap.objs.size+1)=none;rw[qC (rL (d3 _))];exact fresh1
·rw[qC (mZ (clt x c e))];exact I.freeC x c (cel x c e)
·obtain⟨p1,p2,p3,p4,p5⟩:=I.pin p (gO _ (by simpa using hp));have lt:=mE p1;exact⟨hkp _ _ p1,by rw[qC (mZ lt)];exact p2,mZ (rE lt),λz=>(kN.mp (I.stkSub _ z)).elim p3 p4,p5⟩
show _=N.length
rw[mL,gK]
simp only[pick,hG]
lia)
noncomputable def PIf(X:Cx)(ifs:List Expr)(t:TT):Prop:=∀(pins:List (Addr×Obj)) (s:Shared) (σ:St) (H:Hp) (Q:Bool→Hp→Prop),Inv X pins σ H s→t σ H Q→wpAny (model X.prog X.w) X.A (forIn ifs true λc r=>if r=true then do let ok←isTrue c X.env (eval c X.env);pure (ForInStep.yield ok)else pure (ForInStep.yield r)) (TP X pins σ Q) X.xe s
noncomputable def q9W:TT:=λ_ H Q=>Q true H
theorem qER{A B:Hp→Prop}{σ:St}{H:Hp}(h:A H):q9W σ H (λb H6=>if b=true then A H6 else B H6):=by show if true=true then A H else B H;rw[kL rfl];exact h
theorem zX{X:Cx}:PIf X [] q9W:=λpins s σ H Q I h=>kQ ⟨H,I,h⟩
theorem yF{X:Cx}{c:Expr}{t:TT}(hc:PT X c t):PIf X [c] t:=λpins s σ H Q I h=>by(
rw[bG]
show wpAny _ _ (bind (if true=true then _ else _) _) _ _ _
rw[kL rfl]
refine hV (hV (thn (hc pins s σ H Q I h) λb s1 q=>?_))
exact kQ (kQ q))
noncomputable def tLC(wi:TI)(g:TG)(tc:TT)(te:TE)(ix:List Nat)(k:Nat):TE:=λσ H Q=>wi σ H λJ H1=>∀D H2,H1 D=none→Same H1 H2→H2 D=some (.lst [])→∃W:Nat→Nat→Hp→Prop,(∃m,W 0 m H2)∧∀i m H3,W i m H3→(J.stop i H3∧Q (.ref D) H3)∨(J.go i H3∧∃N:Hp→Prop,(∀H',N H'→∃m',m'<m∧W (i+1) m' H')∧∀x H4,J.yld i H3 x H4→g x (pick ix σ++List.replicate k none) H4 λσ5 H5=>tc σ5 H5 λb H6=>
   if b=true then te σ5 H6 (λv H7=>∃vs,H7 D=some (.lst vs)∧vs.length<sizeLine∧N (upd H7 D (.lst (vs++[v]))))else N H6)
noncomputable def Own(g:TG)(k:Nat):Prop:=∀x σ H Q,g x σ H Q→g x σ H λσ' H'=>Q σ' H'∧σ'.length=σ.length∧∀j,j<k→σ'[j]?=σ[j]?
noncomputable def OwnS(g:TGs)(k:Nat):Prop:=∀(xs:List V) (σ:St) (H:Hp) (Q:St→Hp→Prop) (σ0:St),σ.length=σ0.length→(∀j,j<k→σ[j]?=σ0[j]?)→g xs σ H Q→g xs σ H λσ' H'=>Q σ' H'∧σ'.length=σ0.length∧∀j,j<k→σ'[j]?=σ0[j]?
theorem qGS{k:Nat}:OwnS gNil k:=λxs σ H Q σ0 h1 h2 ⟨e,q⟩=>⟨e,q,h1,h2⟩
theorem q9X{i k:Nat}{u:TGs}(h:k≤i)(hu:OwnS u k):OwnS (qI8 (q31 i) u) k:=λxs σ H Q σ0 h1 h2 ⟨v,r,e,q⟩=>⟨v,r,e,hu r (σ.set i (some v)) H Q σ0 (gJ.trans h1) (λj hj=>by rw[rX (by lia)];exact h2 j hj) q⟩
theorem qGT{K:PySem.W.Frag}{n k:Nat}{g:TGs}(h:OwnS g k):Own (gTup K n g) k:=λx σ H Q ⟨a,xs,e1,e2,e3,q⟩=>⟨a,xs,e1,e2,e3,h xs σ H Q σ rfl (λ_ _=>rfl) q⟩
theorem jD{i k:Nat}(h:k≤i):Own (q31 i) k:=λx σ H Q q=>⟨q,gJ,λj hj=>by rw[rX (by lia)]⟩
theorem qGU{P:Program}{w:World}{A:Around}{R:Result→Shared→Prop}{s:Shared}{elt tg iter:Expr}{ifs:List Expr}{sc:Scope}{pos:Pos}{it acc:Value}{env:Env}(J:Nat→Shared→Prop)
 (turn:∀n s1,J n s1→wpAny (model P w) A (pyNext it) (λr s2=>match r with
  |none=>R (.ok .next) s2
  |some v=>wpAny (model P w) A (letOwnedTupleGo tg it v) (λ_ s3=>wpAny (model P w) A (assign tg env v) (λ_ s4=>
   wpAny (model P w) A (forIn ifs true λc r=>if r=true then do let ok←isTrue c env (eval c env);pure (ForInStep.yield ok)else pure (ForInStep.yield r)) (λok s5=>
    if ok=true then wpAny (model P w) A (eval elt env) (λx s6=>wpAny (model P w) A (call (.builtin "list.append") [acc,x]) (λ_ s7=>∃m,m<n∧J m s7) (notedBy (model P w) A env λe s'=>R (.error e) s') s6) (notedBy (model P w) A env λe s'=>R (.error e) s') s5
    else ∃m,m<n∧J m s5) (notedBy (model P w) A env λe s'=>R (.error e) s') s4) (notedBy (model P w) A env λe s'=>R (.error e) s') s3) (notedBy (model P w) A env λe s'=>R (.error e) s') s2) (notedBy (model P w) A env λe s'=>R (.error e) s') s1)
 (n:Nat) (h:J n s):codeAny (model P w) A (.compLoop (.ListComp elt [⟨tg,iter,ifs,0⟩] sc pos) 0 it acc env) R s:=by(
refine codeAny_loop rfl J (λm s1 hJ=>?_) n h
show wpAny _ A ((compTurn _ 0 it acc env).onRaise (λx=>do noteFrame x env;theTreesLotGoes x)) _ _ s1
refine wpAny_noted ?_
rw[compTurn_list]
refine hV (nU (hV (thn (turn m s1 hJ) λr s2 h2=>?_)))
cases r with
|none=>exact kQ h2
|some v=>
 refine hV (thn h2 λ_ s3 h3=>hV (thn h3 λ_ s4 h4=>hV (thn h4 λok s5 h5=>?_)));cases ok with
 |false=>exact kQ ⟨rfl,h5⟩
 |true=>exact hV (hV (thn h5 λx s6 h6=>hV (thn h6 λ_ s7 h7=>kQ (kQ ⟨rfl,h7⟩)))))
structure TurnC(ok:Cx→Prop)(P:Program)(w:World)(K:PySem.W.Frag)(tg:Expr)(J:It)(fp:List Addr)(it:Addr)(tn:Nat→Heap→Prop):Prop where
obj:∀i h,tn i h→∀b∈fp,∃o,h.get? b=some o∧∀v,o.data≠ .cell v
keep:∀i h h',tn i h→(∀b∈fp,∀o,h.get? b=some o→h'.get? b=some o)→tn i h'
item:∀(X:Cx),X.prog=P→X.w=w→X.K=K→ok X→∀(i:Nat) (pins:List (Addr×Obj)) (s:Shared) (σ:St) (H:Hp) (E:Value→Shared→Prop),Inv X pins σ H s→(∀b∈fp,FpOk X pins H b)→tn i s.heap→J.go i H→wpAny (model P w) X.A (pyNext (.ref it)) (λr s1=>∃u,r=some u∧wpAny (model P w) X.A (letOwnedTupleGo tg (.ref it) u) (λ_ s2=>∃x H',Inv X pins σ H' s2∧RelV x u∧J.yld i H x H'∧tn (i+1) s2.heap∧∀b∈fp,H' b=none) E s1) E s
done:∀(X:Cx),X.prog=P→X.w=w→X.K=K→ok X→∀(i:Nat) (pins:List (Addr×Obj)) (s:Shared) (σ:St) (H:Hp) (E:Value→Shared→Prop),Inv X pins σ H s→(∀b∈fp,FpOk X pins H b)→tn i s.heap→J.stop i H→wpAny (model P w) X.A (pyNext (.ref it)) (λr s1=>r=none∧Inv X pins σ H s1) E s
self:∀(A:Around) (i:Nat) (s:Shared) (Q:Value→Shared→Prop) (E:Value→Shared→Prop),tn i s.heap→Q (.ref it) s→wpAny (model P w) A (pyIter (.ref it)) Q E s
noncomputable def PIc(ok:Cx→Prop)(X:Cx)(tg iter:Expr)(wi:TI):Prop:=∀(pins:List (Addr×Obj)) (s:Shared) (σ:St) (H:Hp) (R:It→Hp→Prop),Inv X pins σ H s→wi σ H R→wpAny (model X.prog X.w) X.A (eval iter X.env) (λv s1=>wpAny (model X.prog X.w) X.A (pyIter v) (λitv s2=>∃(it:Addr) (fp:List Addr) (tn:Nat→Heap→Prop) (J:It) (H':Hp),itv=.ref it∧Inv X pins σ H' s2∧TurnC ok X.prog X.w X.K tg J fp it tn∧tn 0 s2.heap∧(∀b∈fp,FpOk X pins H' b)∧R J H') X.xe s1) X.xe s
theorem PI.c{X:Cx}{tg iter:Expr}{wi:TI}(h:PI X tg iter wi):PIc (λX=>X.calm=true) X tg iter wi:=λpins s σ H R I q=>thn (h pins s σ H R I q) λv s1 h1=>thn h1 λitv s2 ⟨it,fp,tn,J,H',a,b,T,r⟩=>⟨it,fp,tn,J,H',a,b,⟨T.obj,T.keep,T.item,T.done,T.self⟩,r⟩
theorem qC3{X:Cx}{elt iter tg:Expr}{ifs:List Expr}{scope:Scope}{pos cp:Pos}{wi:TI}{g:TG}{tc:TT}{te:TE}{use:Option (Value→Sem Unit)}{QQ:Value→Shared→Prop}{pins:List (Addr×Obj)}{s:Shared}{σ:St}{H:Hp}{Q:VK}(N:List Str)(ix:List Nat)(ok:Cx→Prop)(hok:∀C fp s H xe,ok (vP X N scope C fp s H xe))(hi:PIc ok X tg iter wi)
 (hg:∀C fp s H xe,PG (vP X N scope C fp s H xe) tg g) (hif:∀C fp s H xe,PIf (vP X N scope C fp s H xe) ifs tc) (he:∀C fp s H xe,PE (vP X N scope C fp s H xe) elt te)
 (hk:scope.kind=.function) (hc:∀y∈scope.names,y.2≠ .cell) (hfr:∀y∈scope.names,y.2=.free→X.env.kindOf y.1=some .cell) (hcap:q86 X.N X.env.kindOf scope.names N ix=true) (hN:ix.length≤N.length)
 (hnames:∀x∈scope.names,x.2=.local→scope.names.lookup x.1=some .local) (hown:Own g ix.length) (I:Inv X pins σ H s) (h:tLC wi g tc te ix (N.length-ix.length) σ H Q)
 (hfin:∀(C D:Addr) (H':Hp) (s':Shared) (m:Str→Option Value),s'.heap.Ns C m→FpOk X pins H' C→(∀h',Heap.SameBut C s'.heap h'→Inv X pins σ H' { s' with heap:=h' })→Q (.ref D) H'→compPost (model X.prog X.w) X.A X.xe use QQ (.ref D) C (.ok .next) s')
 (hs:∀x,foldedSetIterable iter X.env x=pure x:=by intro _;rfl):
 wpAny (model X.prog X.w) X.A (comprehension (.ListComp elt [⟨tg,iter,ifs,0⟩] scope pos) scope X.env cp (newList []) false (eval iter X.env) use) QQ X.xe s:=by(
refine wpAny_comprehension_free (use:=use) (cl:=clOf X.env scope.names []) rfl hs (q67 λy hy hyf=>I.ok.has _ (.inl (hfr y hy hyf))) hk hnames (thn (hi pins s σ H _ I h) λv s1 h1=>thn h1 λitv s2 h2=>?_)
obtain⟨it,fp,tn,J,H2,e,I2,T,st2,f2,q2⟩:=h2
subst e
refine rY (xL hc (by intro y hy;simp at hy) (λh₁ hns₁ hsb₁=>?_) hk)
dsimp only at hns₁ hsb₁ ⊢
rw[nG]at hns₁ hsb₁ ⊢
have old:∀b o,s2.heap.get? b=some o→h₁.get? b=some o:=λb o e=>hsb₁.extBut b o (mZ (rE (mE e))) (kF _ (kF _ e))
have hacc:h₁.get? s2.heap.objs.size=some { cls:=.type "list",data:=.seq ([]:List Value).toArray }:=hsb₁.extBut _ _ (mZ (d3 _)) (kF _ (mR _ rfl))
have fob:∀b∈fp,∃o,s2.heap.get? b=some o:=λb hb=>let⟨o,e,_⟩:=T.obj _ _ st2 b hb;⟨o,e⟩
have fresh:H2 s2.heap.objs.size=none:=I2.hok.fresh (kO _)
obtain⟨W,⟨m0,w0⟩,turn⟩:=q2 s2.heap.objs.size (upd H2 s2.heap.objs.size (.lst [])) fresh (Same.upd fresh) qI
have fin:∀{pY σ' H' s'},Inv (vP X N scope (s2.heap.objs.size+1) fp s2 H2 (notedBy (model X.prog X.w) X.A (compEnvC scope (clOf X.env scope.names []) (s2.heap.objs.size+1) X.env) λe s'=>compPost (model X.prog X.w) X.A X.xe use QQ (.ref s2.heap.objs.size) (s2.heap.objs.size+1) (.error e) s')) pY σ' H' s'→Q (.ref s2.heap.objs.size) H'→compPost (model X.prog X.w) X.A X.xe use QQ (.ref s2.heap.objs.size) (s2.heap.objs.size+1) (.ok .next) s':=fun {pY σ' H' s'} J q=>by
 obtain⟨m,hm,_⟩:=id J.loc;refine hfin (s2.heap.objs.size+1) s2.heap.objs.size H' s' m hm (I2.fpOk (dL _) J.free) (λh' sb=>?_) q;have eb:∀b o,b≠s2.heap.objs.size+1→s'.heap.get? b=some o→h'.get? b=some o:=λb o nb e=>sb.extBut b o nb e;have low:∀b o,s2.heap.get? b=some o→b≠s2.heap.objs.size+1:=λb o e=>mZ (rE (mE e));have u:=J.base;have nC:H' (s2.heap.objs.size+1)=none:=J.free;refine I2.call' (ch:=fp) (s':={ s' with heap:=h' }) J.os ⟨λb o e n1 n2 n3=>eb b o (low b o e) (u.keep b o e n1 n2 n3),λb o e n1 n2 n3=>?_,u.free,λb o e n1=>?_,u.tups,u.frzs,u.tbls⟩ (λb o e=>?_) J.bare λb hb=>⟨(f2 b hb).2.2.2.1,(f2 b hb).2.1,(f2 b hb).2.2.2.2.1,(f2 b hb).2.2.2.2.2⟩
 ·obtain⟨sl,q1⟩:=u.slot b o e n1 n2 n3;exact⟨sl,eb b _ (low b o e) q1⟩
 ·obtain⟨o',q1⟩:=u.there b o e n1;exact⟨o',eb b _ (low b o e) q1⟩
 refine(J.hok b o e).stay (λc v hc q1=>eb c v ?_ q1) (λ_ q1=>q1) λ_ _ q1=>q1;rcases hc with rfl|z
 ·exact qF e nC
 exact qF z nC
have IY:Inv (vP X N scope (s2.heap.objs.size+1) fp s2 H2 (notedBy (model X.prog X.w) X.A (compEnvC scope (clOf X.env scope.names []) (s2.heap.objs.size+1) X.env) λe s'=>compPost (model X.prog X.w) X.A X.xe use QQ (.ref s2.heap.objs.size) (s2.heap.objs.size+1) (.error e) s')) [] (pick ix σ++List.replicate (N.length-ix.length) none) (upd H2 s2.heap.objs.size (.lst [])) { s2 with heap:=h₁,toks:=s2.toks+([]:List (Str×Value)).length }:=qGR I2 f2 fob hk hc hfr hcap hN hns₁ old hacc
generalize hY:vP X N scope (s2.heap.objs.size+1) fp s2 H2 (notedBy (model X.prog X.w) X.A (compEnvC scope (clOf X.env scope.names []) (s2.heap.objs.size+1) X.env) λe s'=>compPost (model X.prog X.w) X.A X.xe use QQ (.ref s2.heap.objs.size) (s2.heap.objs.size+1) (.error e) s')=Y at IY fin
have hgY:PG Y tg g:=hY▸hg _ _ _ _ _
have hifY:PIf Y ifs tc:=hY▸hif _ _ _ _ _
have heY:PE Y elt te:=hY▸he _ _ _ _ _
have hP:Y.prog=X.prog:=by rw[←hY]
have hw:Y.w=X.w:=by rw[←hY]
have hK:Y.K=X.K:=by rw[←hY]
have hcl:ok Y:=hY▸hok _ _ _ _ _
have stat:∀{H':Hp},(∀b∈fp,H' b=none)→∀b∈fp,FpOk Y [] H' b:=fun {H'} hn b hb=>by
 rw[←hY];refine⟨hn b hb,?_,λz=>?_,.inl hb,λx c e=>?_,λp hp=>(f2 b hb).2.2.2.2.2 p (gO _ (by simpa using hp))⟩
 ·obtain⟨o,e⟩:=fob b hb;exact mZ (rE (mE e))
 ·rcases kN.mp (I2.stkSub b z)with z|z
  ·exact(f2 b hb).2.1 z
  exact(f2 b hb).2.2.1 z
 exact(f2 b hb).2.2.2.2.1 x c (q68 _ _ (by intro q;simp at q) e)
have loop:codeAny (model X.prog X.w) X.A (.compLoop (.ListComp elt [⟨tg,iter,ifs,0⟩] scope pos) 0 (.ref it) (.ref s2.heap.objs.size) (compEnvC scope (clOf X.env scope.names []) (s2.heap.objs.size+1) X.env))
 (compPost (model X.prog X.w) X.A X.xe use QQ (.ref s2.heap.objs.size) (s2.heap.objs.size+1)) { s2 with heap:=h₁,toks:=s2.toks+([]:List (Str×Value)).length }:=by
 refine qGU (λn s'=>∃i H',Inv Y [] (pick ix σ++List.replicate (N.length-ix.length) none) H' s'∧tn i s'.heap∧(∀b∈fp,H' b=none)∧W i n H') ?_ m0
  ⟨0,_,IY,T.keep _ _ _ st2 (λb hb o e=>old b o e),λb hb=>by obtain⟨o,e⟩:=fob b hb;rw[qC (mZ (mE e))];exact(f2 b hb).1,w0⟩
 rintro n s3 ⟨i,H3,I3,st3,fr3,w3⟩
 rcases turn i n H3 w3 with⟨stop,qn⟩|⟨go,NN,hNN,step⟩
 ·have d:=T.done Y hP hw hK hcl i [] s3 _ H3 Y.xe I3 (stat fr3) st3 stop;subst hY;refine thn d λr s4 hZ=>?_;obtain⟨hr,I4⟩:=hZ;subst hr;exact fin I4 qn
 have d:=T.item Y hP hw hK hcl i [] s3 _ H3 Y.xe I3 (stat fr3) st3 go;have again:∀{p5:List (Addr×Obj)} {s5 s8:Shared} {σ6:St} {H8:Hp},p5=q5X fp s5.heap→tn (i+1) s5.heap→σ6.length=(pick ix σ++List.replicate (N.length-ix.length) none).length→(∀j,j<ix.length→σ6[j]?=(pick ix σ++List.replicate (N.length-ix.length) none)[j]?)→Inv Y ([]++p5) σ6 H8 s8→NN H8→∃m',m'<n∧∃i H',Inv Y [] (pick ix σ++List.replicate (N.length-ix.length) none) H' s8∧tn i s8.heap∧(∀b∈fp,H' b=none)∧W i m' H':=fun {p5 s5 s8 σ6 H8} e5 st5 l6 k6 I8 q8=>by
  subst e5;obtain⟨m',hm,w8⟩:=hNN _ q8;refine⟨m',hm,i+1,H8,I8.unpinned.weak l6.symm (λj v e=>?_),T.keep _ _ _ st5 λb hb o e=>(I8.pin (b,o) (mB _ (mB _ (yJ hb e)))).1,λb hb=>?_,w8⟩
  ·by_cases hj:j<ix.length
   ·rw[k6 j hj];exact e
   rw[dP (by simpa[pick]using hj),wK]at e;split at e<;>cases e
  obtain⟨o,e,_⟩:=T.obj _ _ st5 b hb;exact(I8.pin (b,o) (mB _ (mB _ (yJ hb e)))).2.1
 have tail:∀(r:Option Value) (s4:Shared),(∃u,r=some u∧wpAny (model Y.prog Y.w) Y.A (letOwnedTupleGo tg (.ref it) u) (λ_ s2=>∃x H',Inv Y [] (pick ix σ++List.replicate (N.length-ix.length) none) H' s2∧RelV x u∧J.yld i H3 x H'∧tn (i+1) s2.heap∧∀b∈fp,H' b=none) Y.xe s4)→(match r with
  |none=>compPost (model X.prog X.w) X.A X.xe use QQ (.ref s2.heap.objs.size) (s2.heap.objs.size+1) (.ok .next) s4
  |some v=>wpAny (model Y.prog Y.w) Y.A (letOwnedTupleGo tg (.ref it) v) (λ_ s₁=>wpAny (model Y.prog Y.w) Y.A (assign tg Y.env v) (λ_ s₂=>
   wpAny (model Y.prog Y.w) Y.A (forIn ifs true λc r=>if r=true then do let ok←isTrue c Y.env (eval c Y.env);pure (ForInStep.yield ok)else pure (ForInStep.yield r)) (λok s₃=>
    if ok=true then wpAny (model Y.prog Y.w) Y.A (eval elt Y.env) (λx s₄=>wpAny (model Y.prog Y.w) Y.A (call (.builtin "list.append") [.ref s2.heap.objs.size,x]) (λ_ s₅=>∃m,m<n∧∃i H',Inv Y [] (pick ix σ++List.replicate (N.length-ix.length) none) H' s₅∧tn i s₅.heap∧(∀b∈fp,H' b=none)∧W i m H') Y.xe s₄) Y.xe s₃
    else ∃m,m<n∧∃i H',Inv Y [] (pick ix σ++List.replicate (N.length-ix.length) none) H' s₃∧tn i s₃.heap∧(∀b∈fp,H' b=none)∧W i m H') Y.xe s₂) Y.xe s₁) Y.xe s4):=by
  rintro r s4 ⟨u,rfl,h4⟩
  dsimp only;refine thn h4 λ_ s5 hZ=>?_;obtain⟨x,H5,I5,r5,y5,st5,fr5⟩:=hZ;have I5':=I5.pinned (stat fr5) (T.obj _ _ st5);refine thn (hgY _ s5 _ H5 x u _ I5' r5 (hown _ _ _ _ (step x H5 y5))) λ_ s6 hZ=>?_;obtain⟨σ6,H6,I6,q6,l6,k6⟩:=hZ;refine thn (hifY _ s6 σ6 H6 _ I6 q6) λb s7 hZ=>?_;obtain⟨H7,I7,q7⟩:=hZ;cases b with
  |false=>rw[kJ (by decide)]at q7 ⊢;exact again rfl st5 l6 k6 I7 q7
  |true=>rw[kL rfl]at q7 ⊢;refine thn (heY _ s7 σ6 H7 _ I7 q7) λy s8 hZ=>?_;obtain⟨v,H8,I8,r8,vs,e8,hz,q8⟩:=hZ;refine thn (q0K (X:=Y) _ s8 σ6 H8 (.ref s2.heap.objs.size) [v] (.ref s2.heap.objs.size) [y] (λ_ H9=>NN H9) I8 rfl (.cons r8 .nil) ⟨s2.heap.objs.size,vs,v,rfl,rfl,e8,hz,q8⟩) λ_ s9 hZ=>?_;obtain⟨_,H9,I9,_,q9⟩:=hZ;exact again rfl st5 l6 k6 I9 q9
 subst hY;exact thn d tail
exact codeAny_compStart_list loop (T.self X.A 0 _ _ _ (T.keep _ _ _ st2 λb hb o e=>old b o e) loop))
theorem qLC{X:Cx}{elt iter tg:Expr}{ifs:List Expr}{scope:Scope}{pos:Pos}{wi:TI}{g:TG}{tc:TT}{te:TE}(N:List Str)(ix:List Nat)(hcalm:X.calm=true)(hi:PI X tg iter wi)
 (hg:∀C fp s H xe,PG (vP X N scope C fp s H xe) tg g) (hif:∀C fp s H xe,PIf (vP X N scope C fp s H xe) ifs tc) (he:∀C fp s H xe,PE (vP X N scope C fp s H xe) elt te)
 (hk:scope.kind=.function) (hc:∀y∈scope.names,y.2≠ .cell) (hfr:∀y∈scope.names,y.2=.free→X.env.kindOf y.1=some .cell) (hcap:q86 X.N X.env.kindOf scope.names N ix=true) (hN:ix.length≤N.length)
 (hnames:∀x∈scope.names,x.2=.local→scope.names.lookup x.1=some .local) (hown:Own g ix.length) (hs:∀x,foldedSetIterable iter X.env x=pure x:=by intro _;rfl):
 PE X (.ListComp elt [⟨tg,iter,ifs,0⟩] scope pos) (tLC wi g tc te ix (N.length-ix.length)):=by intro pins s σ H Q I h;rw[eval_ListComp];exact qC3 N ix _ (λ_ _ _ _ _=>hcalm) hi.c hg hif he hk hc hfr hcap hN hnames hown I h (λC D H' s' m hm fok inv q=>⟨m,hm,λh' sb=>⟨.ref D,H',inv h' sb,rfl,q⟩⟩) hs
noncomputable def qC4(XN:List Str)(kd:Str→Option NameKind)(sc:Scope)(N:List Str)(ix:List Nat):Bool:=decide (sc.kind=.function)&&sc.names.all (λy=>decide (y.2≠ .cell)&&(decide (y.2≠ .free)||decide (kd y.1=some .cell))&&(decide (y.2≠ .local)||decide (sc.names.lookup y.1=some .local)))&&q86 XN kd sc.names N ix&&decide (ix.length≤N.length)
theorem y6{X:Cx}{elt iter tg:Expr}{ifs:List Expr}{scope:Scope}{pos:Pos}{wi:TI}{g:TG}{tc:TT}{te:TE}(N:List Str)(ix:List Nat)(hcalm:X.calm=true)(hi:PI X tg iter wi)
 (hg:∀C fp s H xe,PG (vP X N scope C fp s H xe) tg g) (hif:∀C fp s H xe,PIf (vP X N scope C fp s H xe) ifs tc) (he:∀C fp s H xe,PE (vP X N scope C fp s H xe) elt te)
 (ok:qC4 X.N X.env.kindOf scope N ix=true) (hown:Own g ix.length) (hs:∀x,foldedSetIterable iter X.env x=pure x:=by intro _;rfl):
 PE X (.ListComp elt [⟨tg,iter,ifs,0⟩] scope pos) (tLC wi g tc te ix (N.length-ix.length)):=by(
unfold qC4 at ok
rw[m8,m8,m8,dM]at ok
obtain⟨⟨⟨h1,h2⟩,h3⟩,h4⟩:=ok
have h2':∀y∈scope.names,y.2≠ .cell∧(y.2≠ .free∨X.env.kindOf y.1=some .cell)∧(y.2≠ .local∨scope.names.lookup y.1=some .local):=λy hy=>by have q:=h2 y hy;rw[m8,m8,cA,cA,mJ,mJ,mJ,mJ,mJ]at q;exact⟨q.1.1,q.1.2,q.2⟩
exact qLC N ix hcalm hi hg hif he (mP h1) (λy hy=>(h2' y hy).1) (λy hy e=>(h2' y hy).2.1.resolve_left (λz=>z e)) h3 (mP h4) (λy hy e=>(h2' y hy).2.2.resolve_left (λz=>z e)) hown hs)
theorem qES{lo:Int}{n:Nat}{D:Addr}{H2:Hp}{g:TG}{tc:TT}{te:TE}{σ0:St}{Q:VK}(Pv:Nat→Hp→Prop)(h0:Pv 0 H2)
 (hs:∀(i:Nat) H,i<n→Pv i H→g (.int (lo+i)) σ0 H λσ5 H5=>tc σ5 H5 λb H6=>if b=true then te σ5 H6 (λv H7=>∃vs,H7 D=some (.lst vs)∧vs.length<sizeLine∧Pv (i+1) (upd H7 D (.lst (vs++[v]))))else Pv (i+1) H6) (hd:∀H,Pv n H→Q (.ref D) H):
 ∃W:Nat→Nat→Hp→Prop,(∃m,W 0 m H2)∧∀i m H3,W i m H3→((Itr lo n).stop i H3∧Q (.ref D) H3)∨((Itr lo n).go i H3∧∃N:Hp→Prop,(∀H',N H'→∃m',m'<m∧W (i+1) m' H')∧∀x H4,(Itr lo n).yld i H3 x H4→g x σ0 H4 λσ5 H5=>tc σ5 H5 λb H6=>
   if b=true then te σ5 H6 (λv H7=>∃vs,H7 D=some (.lst vs)∧vs.length<sizeLine∧N (upd H7 D (.lst (vs++[v]))))else N H6):=by(
refine⟨λi m H=>m=n-i∧i≤n∧Pv i H,⟨n,by simp,m9 _,h0⟩,?_⟩
rintro i m H ⟨rfl,hi,p⟩
by_cases hlt:i<n
·refine .inr ⟨hlt,Pv (i+1),λH' z=>⟨n-(i+1),by lia,rfl,by lia,z⟩,?_⟩;rintro x H4 ⟨rfl,rfl⟩
 exact hs i _ hlt p
obtain rfl:i=n:=by lia
exact .inl ⟨kO _,hd _ p⟩)
theorem qC5{K:PySem.W.Frag}{a:Addr}{xs:List V}{D:Addr}{H2:Hp}{g:TG}{tc:TT}{te:TE}{σ0:St}{Q:VK}(Pv:Nat→Hp→Prop)(h0:Pv 0 H2)(hl:∀i H,Pv i H→SqL K H a xs)
 (hs:∀(i:Nat) x H,xs[i]?=some x→Pv i H→g x σ0 H λσ5 H5=>tc σ5 H5 λb H6=>if b=true then te σ5 H6 (λv H7=>∃vs,H7 D=some (.lst vs)∧vs.length<sizeLine∧Pv (i+1) (upd H7 D (.lst (vs++[v]))))else Pv (i+1) H6) (hd:∀H,Pv xs.length H→Q (.ref D) H):
 ∃W:Nat→Nat→Hp→Prop,(∃m,W 0 m H2)∧∀i m H3,W i m H3→((Itl K a).stop i H3∧Q (.ref D) H3)∨((Itl K a).go i H3∧∃N:Hp→Prop,(∀H',N H'→∃m',m'<m∧W (i+1) m' H')∧∀x H4,(Itl K a).yld i H3 x H4→g x σ0 H4 λσ5 H5=>tc σ5 H5 λb H6=>
   if b=true then te σ5 H6 (λv H7=>∃vs,H7 D=some (.lst vs)∧vs.length<sizeLine∧N (upd H7 D (.lst (vs++[v]))))else N H6):=by(
refine⟨λi m H=>m=xs.length-i∧i≤xs.length∧Pv i H,⟨xs.length,by simp,m9 _,h0⟩,?_⟩
rintro i m H ⟨rfl,hi,p⟩
have hq:=hl i H p
by_cases hlt:i<xs.length
·have e1:xs[i]?=some xs[i]:=kE hlt;refine .inr ⟨⟨xs,_,hq,e1⟩,Pv (i+1),λH' z=>⟨xs.length-(i+1),by lia,rfl,by lia,z⟩,?_⟩;rintro x H4 ⟨rfl,hx⟩
 exact hs i x _ (hx xs hq) p
obtain rfl:i=xs.length:=by lia
exact .inl ⟨⟨xs,hq,kO _⟩,hd _ p⟩)
theorem qET{K:PySem.W.Frag}{a:Addr}{xs:List V}{k:Nat}{D:Addr}{H2:Hp}{te:TE}{σ0:St}{Q:VK}(Pv:Nat→Hp→Prop)(h0:Pv 0 H2)(hl:∀i H,Pv i H→SqL K H a xs)
 (hs:∀(i:Nat) x H,xs[i]?=some x→Pv i H→te (σ0.set k (some x)) H (λv H7=>∃vs,H7 D=some (.lst vs)∧vs.length<sizeLine∧Pv (i+1) (upd H7 D (.lst (vs++[v]))))) (hd:∀H,Pv xs.length H→Q (.ref D) H):
 ∃W:Nat→Nat→Hp→Prop,(∃m,W 0 m H2)∧∀i m H3,W i m H3→((Itl K a).stop i H3∧Q (.ref D) H3)∨((Itl K a).go i H3∧∃N:Hp→Prop,(∀H',N H'→∃m',m'<m∧W (i+1) m' H')∧∀x H4,(Itl K a).yld i H3 x H4→q31 k x σ0 H4 λσ5 H5=>q9W σ5 H5 λb H6=>if b=true then te σ5 H6 (λv H7=>∃vs,H7 D=some (.lst vs)∧vs.length<sizeLine∧N (upd H7 D (.lst (vs++[v]))))else N H6):=qC5 (g:=q31 k) (tc:=q9W) Pv h0 hl (λi x H hx p=>qER (σ:=σ0.set k (some x)) (A:=λH6=>te (σ0.set k (some x)) H6 _) (B:=λH6=>Pv (i+1) H6) (hs i x H hx p)) hd
noncomputable def rEmp(K:PySem.W.Frag):R2:=λx y H Q=>∃p xs e,x=.ref p∧y=.ref e∧SqL K H p xs∧SqL K H e []∧Q (.bl (decide (xs=[]))) H
theorem q8M{X:Cx}(hu:X.A.units+64<cLine):OpR X (compareOp .Eq) (rEmp X.K):=by(
intro pins s σ H x y v u Q I rx ry hZ
obtain⟨p,xs,e,ex,ey,hp,he,q⟩:=hZ
subst ex ey
cases rx
cases ry
obtain⟨i1,r1,p1,_⟩:=I.list hp
obtain⟨i2,r2,p2,_⟩:=I.list he
have l1:=r1.length
have l2:=r2.length
cases xs with
|nil=>exact bE (e:=λ_=>true) p1.isList p2.isList (by simp at l1 l2 ⊢;lia) (by lia) (λj h1 h2=>by simp at l1 h1;lia) ⟨.bl true,H,I,by rw[vO];rfl,q⟩
|cons z zs=>exact SeqAt.eq_list_lengthsAt p1.isList p2.isList (by simp at l1 l2 ⊢;lia) (by lia) ⟨.bl false,H,I,rfl,q⟩)
section
variable{X:Cx}{o e f:Expr}{apos cpos:Pos}{td ty tx:TE}
theorem qIG{P:Program}{w:World}{k:Key}{u:Value}(h:(jQ P w).is k u=true):RelV (kV k) u:=by(
cases k with
|inl i=>exact aG h
|inr x=>exact xO h)
theorem q87{α β:Type}{F:α→β→Prop}:∀{l₁:List α} {l₂:List β},l₁.length=l₂.length→(∀(j:Nat) a b,l₁[j]?=some a→l₂[j]?=some b→F a b)→Paired F l₁ l₂
| [],[],_,_=>.nil
|a::l,b::l',h,k=>.cons (k 0 a b rfl rfl) (q87 (by simpa using h) λj x y hx hy=>k (j+1) x y (by simpa using hx) (by simpa using hy))
| [],_::_,h,_=>by simp at h
|_::_,[],h,_=>by simp at h
end
theorem q3Y:∀{ns:List Int} {vs:List Value},Vals (ns.map V.int) vs→IntsAre vs ns
| [],_,.nil=>.nil
|n::ns,_,.cons h t=>by obtain⟨t0,rfl⟩:=h;exact .cons n t0 (q3Y t)
section
variable{X:Cx}
theorem q4M(hc:X.calm=true):q1H X (.builtin "min") (λxs H Q=>∃(p:Addr) (ns:List Int),xs=[.ref p]∧SqL X.K H p (ns.map V.int)∧0<ns.length∧∀M,M∈ns→(∀a∈ns,M≤a)→Q (.int M) H):=by(
intro pins s σ H xs us Q I r hZ
obtain⟨p,ns,ex,hq,hne,q⟩:=hZ
subst ex
obtain⟨u,rfl,rx⟩:=q1I r
cases rx
obtain⟨its,rv,pl,hz⟩:=I.list hq
have hi:=q3Y rv
obtain⟨xs,e⟩:=hi.allInts.items
have hns:ns=xs.toList.map (·.1):=by rw[←hi.numsOf,←nums_intItems,←e]
have hsz:0<xs.size:=by have h3:=hne;rw[hns,hG,mW]at h3;exact h3
have hl:=pl.isList
rw[e]at hl
refine min_intList (I.ok.hd hc) hl hsz λv h' tk hv hk=>?_
obtain⟨t,rfl⟩:=a0 hv
obtain⟨h1,h2⟩:=argBest_lt (numAt xs) (xs.size-1)
refine⟨.int _,H,I.kept hk,⟨t,rfl⟩,q _ ?_ λa ha=>?_⟩
·rw[hns,bS];exact getD_mem (by rw[hG,mW];lia)
rw[hns]at ha
obtain⟨j,hj,rfl⟩:=mem_getD ha
rw[hG,mW]at hj
rw[←bS];exact h2 j (by lia))
theorem q3Z:∀{vs:List Value} {ns:List Int},IntsAre vs ns→Vals (ns.map V.int) vs
|_,_,.nil=>.nil
|_,_,.cons n t h=>.cons ⟨t,rfl⟩ (q3Z h)
theorem q8N:q1H X (.builtin "sorted") (λxs H Q=>∃(p:Addr) (ns:List Int),xs=[.ref p]∧SqL X.K H p (ns.map V.int)∧ns.length<64∧∀ns':List Int,ns'.Perm ns→ns'.Pairwise (·≤·)→NewO H (.lst (ns'.map V.int)) Q):=by(
intro pins s σ H xs us Q I r hZ
obtain⟨p,ns,ex,hq,h64,q⟩:=hZ
subst ex
obtain⟨u,rfl,rx⟩:=q1I r
cases rx
obtain⟨its,rv,pl,hz⟩:=I.list hq
have hi:=q3Y rv
have hlen:its.length<64:=by rw[←rv.length,hG];exact h64
refine sorted_ints pl.isList hi hlen λout ns' a1 a2 a3=>?_
obtain⟨e,he⟩:=sortedAll_at s.heap its out
have hz':(ns'.map V.int).length≤sizeLine:=by rw[hG,a2.length_eq,gW];lia
exact⟨.ref (s.heap.objs.size+1),_,I.laid (t':=s.toks) (λ_ _ h=>sortedAll_old h) (dL _) (show jM X.prog X.w _ _ _ (.lst _)from⟨hz',out.toList,e,q3Z a1,by simpa[seqObj]using he⟩),rfl,(q ns' a2 a3).at _ (I.hok.fresh (dL _))⟩)
end
structure Mk0(K:PySem.W.Frag)(C:Addr):Prop where
makes:PySem.W.makesIn K C=true
init:PySem.W.findIn K (.ref C) "__init__"=some (some (.builtin "object.__init__"))
kp:PySem.W.keepIn K (.ref C)=true
section
variable{X:Cx}{C:Addr}{x:Str}{p pos:Pos}
noncomputable def tMk0(C:Addr):TE:=λσ H Q=>∀x dx,H x=none→H dx=none→dx≠x→Q (.ref x) (upd (upd H dx (.own x)) x (.ins C dx []))
theorem qEU{pins:List (Addr×Obj)}{σ:St}{H:Hp}{s:Shared}{Q:VK}(M:Mk0 X.K C)(I:Inv X pins σ H s)(h:tMk0 C σ H Q):wpAny (model X.prog X.w) X.A (call (.ref C) []) (EP X pins σ Q) X.xe s:=by(
have hq:=h (s.heap.objs.size+1) s.heap.objs.size (I.hok.fresh (dL _)) (I.hok.fresh (kO _)) (mZ (d3 _))
have I2:=Inv.made (C:=C) I
have kin:=I.kIn
obtain⟨hp,g,d,t,os⟩:=s
have Y:=aV (M:=model X.prog X.w) kin M.makes
have hx:((hp.push PySem.W.emptyDict).push (PySem.W.instObj C hp.objs.size)).get? (hp.objs.size+1)=some (PySem.W.instObj C hp.objs.size):=by have:=mR (hp.push PySem.W.emptyDict) (o:=PySem.W.instObj C hp.objs.size) rfl;rwa [nG]at this
have ty:PySem.W.Looks (model X.prog X.w) ((hp.push PySem.W.emptyDict).push (PySem.W.instObj C hp.objs.size)) (typeOf (.ref (hp.objs.size+1))) (.ref C):=(aW hx).andThen .now
have top:PySem.W.Looks (model X.prog X.w) ((hp.push PySem.W.emptyDict).push (PySem.W.instObj C hp.objs.size)) (isInstance (.ref (hp.objs.size+1)) (.type "object")) true:=ty.andThen (Y.top.keeps λb o e=>kF _ (kF _ e))
refine c8 (aJ Y (cM kin M.init) (λself=>eT (PySem.W.oi_bind self)) (.inr ⟨rfl,rfl⟩) ?_)
refine p9 PySem.W.oi_plain PySem.W.entry_oi (@x8 (model X.prog X.w) _ _ _ "object.__init__" "object" "__init__" (.ref (hp.objs.size+1)) [] [] _ PySem.W.oi_kind PySem.W.oi_split top (PySem.W.oi_args (.ref (hp.objs.size+1))) ?_)
rw[PySem.W.oi_run]
exact kQ ⟨rfl,⟨.ref (hp.objs.size+1),_,I2,rfl,hq⟩⟩)
theorem qK0(M:Mk0 X.K C)(hg:Gl X x)(hm:X.mg x=some (.ref C))(hdb:(x==("__debug__":Str))=false:=by decide):PE X (.Call (.Name x p) [] [] pos) (tMk0 C):=by intro pins s σ H Q I h;exact dJ (q2M I hg hm (sQ I.kIn M.kp (qEU M I h)) hdb)
end
section
variable{X:Cx}{pins:List (Addr×Obj)}{σ:St}{H:Hp}{s:Shared}{a:Addr}
theorem Inv.freeze{kvs:List (Key×V)}{o:Obj}(I:Inv X pins σ H s)(e:H a=some (.dK kvs))(ho:s.heap.get? a=some o):Inv X pins σ (upd H a (.frz o (.dK kvs))) s:=by(
have ne:∀b u,H b=some u→u≠ .dK kvs→b≠a:=λb u q n z=>by rw[z,e]at q;exact n (kZ q).symm
have nn:∀b,H b=none→b≠a:=λb q z=>by rw[z,e]at q;cases q
refine⟨I.ok,I.os,I.bare,I.base.trans ⟨λb u q _ _ _=>q,λb u q _ _ _=>⟨u.slots,q⟩,λb u q n _=>by rw[qC (nn b n)];exact n,λb u q _=>⟨u,q⟩,λb xs q=>by rw[qC (ne b _ q (by intro z;cases z))];exact q,λb u v q=>by rw[qC (ne b _ q (by intro z;cases z))];exact q,λb ps q=>⟨#[],by rw[qC (ne b _ q (by intro z;cases z)),q];simp⟩⟩,I.loc,I.cell,by rw[qC (nn _ I.free)];exact I.free,λx c q=>by rw[qC (nn _ (I.freeC x c q))];exact I.freeC x c q,λp hp=>?_,λb u q=>?_,I.len⟩
·obtain⟨q1,q2,q3⟩:=I.pin p hp;exact⟨q1,by rw[qC (nn _ q2)];exact q2,q3⟩
have st:∀b u,jM X.prog X.w H s.heap b u→jM X.prog X.w (upd H a (.frz o (.dK kvs))) s.heap b u:=λb u q=>q.stay (λ_ _ _ z=>z) (λc z=>by rw[qC (ne c _ z (by intro z;cases z))];exact z) (λc xs z=>by rw[qC (ne c _ z (by intro z;cases z))];exact z)
by_cases hb:b=a
·subst hb;rw[qI]at q;cases q;exact⟨ho,st b _ (I.hok b _ e)⟩
rw[qC hb]at q
exact st b u (I.hok b u q))
theorem Inv.thaw{o:Obj}{u:HO}(I:Inv X pins σ H s)(hne:∀o u,X.H₀ a≠some (.frz o u))(e:H a=some (.frz o u)):Inv X pins σ (upd H a u) s:=by(
have ne:∀b v,H b=some v→v≠ .frz o u→b≠a:=λb v q n z=>by rw[z,e]at q;exact n (kZ q).symm
have nn:∀b,H b=none→b≠a:=λb q z=>by rw[z,e]at q;cases q
have nf:∀b v,X.H₀ b=some v→(∃o' u',v=.frz o' u')→b≠a:=λb v q ⟨o',u',z⟩ w=>by rw[w,z]at q;exact hne o' u' q
refine⟨I.ok,I.os,I.bare,⟨I.base.keep,I.base.slot,λb v q n hx=>?_,I.base.there,λb xs q=>?_,λb v w q=>?_,λb ps q=>?_⟩,I.loc,I.cell,by rw[qC (nn _ I.free)];exact I.free,λx c q=>by rw[qC (nn _ (I.freeC x c q))];exact I.freeC x c q,λp hp=>?_,λb v q=>?_,I.len⟩
·have:=I.base.free b v q n hx;rw[qC (nn b this)];exact this
·have:=I.base.tups b xs q;rw[qC (ne b _ this (by intro z;cases z))];exact this
·rw[qC (nf b _ q ⟨_,_,rfl⟩)];exact I.base.frzs b v w q
·obtain⟨more,q2⟩:=I.base.tbls b ps q;exact⟨more,by rw[qC (ne b _ q2 (by intro z;cases z))];exact q2⟩
·obtain⟨q1,q2,q3⟩:=I.pin p hp;exact⟨q1,by rw[qC (nn _ q2)];exact q2,q3⟩
have st:∀b v,jM X.prog X.w H s.heap b v→jM X.prog X.w (upd H a u) s.heap b v:=λb v q=>q.stay (λ_ _ _ z=>z) (λc z=>by rw[qC (ne c _ z (by intro z;cases z))];exact z) (λc xs z=>by rw[qC (ne c _ z (by intro z;cases z))];exact z)
by_cases hb:b=a
·subst hb;rw[qI]at q;cases q;exact st b _ (I.hok b _ e).2
rw[qC hb]at q
exact st b v (I.hok b v q))
end
noncomputable def Itd(a:Addr)(o:Obj)(kvs:List (Key×V)):It:=⟨λi H=>H a=some (.frz o (.dK kvs))∧i<kvs.length,λi H x H'=>H'=H∧∃kv,kvs[i]?=some kv∧x=kV kv.1,λi H=>H a=some (.frz o (.dK kvs))∧kvs.length≤i⟩
theorem qDB{P:Program}{w:World}{K:PySem.W.Frag}{tg:Expr}(a it:Addr)(o:Obj){kvs:List (Key×V)}{vs:List (Key×Value)}{ep:Nat}(rel:KV kvs vs)(hD:∀h:Heap,h.get? a=some o→h.DictAt (jQ P w) a vs ep):
 Turn P w K tg (Itd a o kvs) [it] it (λi h=>h.IsKeyIter it a i vs.length ep) where
mem:=by simp
obj:=λi h st b hb=>by
 have e:b=it:=by simpa using hb
 subst e;obtain⟨o',e,c,d⟩:=st;exact⟨o',e,λv z=>by rw[d]at z;cases z⟩
keep:=λi h h' st k=>st.at λo e=>k it (by simp) o e
item:=by
 intro X hP hw hK hc i pins s σ H E I hf st hg;subst hP hw hK;obtain⟨ha,hi⟩:=hg;obtain⟨ho,_⟩:=I.hok a _ ha;have hl:=rel.length;have hi':i<vs.length:=by lia
 obtain⟨f0,f1,f2,f3,f4,f5⟩:=hf it (by simp);refine wpAny_pyNext_dict_item (k:=vs[i].1) (v:=vs[i].2) st (hD _ ho) (kE hi') λkey h' hk st' sb=>?_;have I1:Inv X pins σ H { s with heap:=h' }:=I.turned (t':=s.toks) (λb o hb e=>(sb.2 b hb).trans e) f0 f1 f3 f4 f5;obtain⟨o',e',c',d'⟩:=id st';refine⟨key,rfl,qBP (s:={ s with heap:=h' }) e' c' d' (by decide) ⟨kV kvs[i].1,H,I1,?_,⟨rfl,kvs[i],kE hi,rfl⟩,st',λb hb=>(hf b hb).1⟩⟩;have ek:=dO (λl=>l[i]?) rel.keys;simp only[mD,kE hi,kE hi',bH]at ek;rw[kZ ek];exact qIG hk
done:=by intro X hP hw hK hc i pins s σ H E I hf st hg;subst hP hw hK;obtain⟨ha,hi⟩:=hg;obtain⟨ho,_⟩:=I.hok a _ ha;have hl:=rel.length;obtain⟨f0,f1,f2,f3,f4,f5⟩:=hf it (by simp);exact wpAny_pyNext_dict_end (I.ok.hd hc) st (hD _ ho) (dH (by lia)) λh' eb=>⟨rfl,I.turned (t':=s.toks) (λb o hb e=>eb b o hb e) f0 f1 f3 f4 f5⟩
self:=λ_ _ _ _ _ st h=>wpAny_pyIter_keyiter st h
section
variable{X:Cx}{tg:Expr}
noncomputable def iDct(td:TE):TI:=λσ H R=>td σ H λx H1=>∃a kvs,x=.ref a∧H1 a=some (.dK kvs)∧∀o,R (Itd a o kvs) (upd H1 a (.frz o (.dK kvs)))
theorem qGV{d:Expr}{td:TE}(hd:PE X d td):PI X tg d (iDct td):=by(
intro pins s σ H R I h
refine thn (hd pins s σ H _ I h) λv s1 hZ=>?_
obtain⟨x,H1,I1,r1,q1⟩:=hZ
obtain⟨a,kvs,e,ha,q⟩:=q1
subst e
cases r1
obtain⟨z,lo,vs,rel,dd⟩:=q54 I1.hok ha
obtain⟨ep,hat⟩:=dd.dictAt
obtain⟨o,es,ho,hr⟩:=id hat
have I2:=I1.freeze ha ho
refine wpAny_pyIter_dict lo hat ?_
refine⟨s1.heap.objs.size,[s1.heap.objs.size],_,_,_,rfl,I2.kept (t':=s1.toks) λb o e=>kF _ e,qDB a _ o rel (λh' h=>⟨o,es,h,hr⟩),⟨_,mR _ rfl,rfl,rfl⟩,λb hb=>?_,q o⟩
have e:b=s1.heap.objs.size:=by simpa using hb
subst e
exact I2.fpOk (kO _) (I2.hok.fresh (kO _)))
theorem qK1{pins:List (Addr×Obj)}{σ:St}{H:Hp}{s:Shared}{a:Addr}{kvs:List (Key×V)}(I:Inv X pins σ H s)(e:H a=some (.dK kvs)):∀o u,X.H₀ a≠some (.frz o u):=λo u q=>by have:=I.base.frzs a o u q;rw[e]at this;cases this
noncomputable def qLD(t:TE):TE:=λσ H Q=>∃a kvs,H a=some (.dK kvs)∧t σ H λv H'=>∃o u,H' a=some (.frz o u)∧Q v (upd H' a u)
theorem qC6{e:Expr}{t:TE}(h:PE X e t):PE X e (qLD t):=by(
intro pins s σ H Q I hZ
obtain⟨a,kvs,ha,q⟩:=hZ
have nf:=qK1 I ha
refine thn (h pins s σ H _ I q) λu s' ⟨v,H',I',r,o,w,e,q⟩=>⟨v,_,I'.thaw nf e,r,q⟩)
theorem qGW{a:Addr}{o:Obj}{kvs:List (Key×V)}{D:Addr}{H2:Hp}{g:TG}{tc:TT}{te:TE}{σ0:St}{Q:VK}(Pv:Nat→Hp→Prop)(h0:Pv 0 H2)(hl:∀i H,Pv i H→H a=some (.frz o (.dK kvs)))
 (hs:∀(i:Nat) kv H,kvs[i]?=some kv→Pv i H→g (kV kv.1) σ0 H λσ5 H5=>tc σ5 H5 λb H6=>if b=true then te σ5 H6 (λv H7=>∃vs,H7 D=some (.lst vs)∧vs.length<sizeLine∧Pv (i+1) (upd H7 D (.lst (vs++[v]))))else Pv (i+1) H6) (hd:∀H,Pv kvs.length H→Q (.ref D) H):
 ∃W:Nat→Nat→Hp→Prop,(∃m,W 0 m H2)∧∀i m H3,W i m H3→((Itd a o kvs).stop i H3∧Q (.ref D) H3)∨((Itd a o kvs).go i H3∧∃N:Hp→Prop,(∀H',N H'→∃m',m'<m∧W (i+1) m' H')∧∀x H4,(Itd a o kvs).yld i H3 x H4→g x σ0 H4 λσ5 H5=>tc σ5 H5 λb H6=>
   if b=true then te σ5 H6 (λv H7=>∃vs,H7 D=some (.lst vs)∧vs.length<sizeLine∧N (upd H7 D (.lst (vs++[v]))))else N H6):=by(
refine⟨λi m H=>m=kvs.length-i∧i≤kvs.length∧Pv i H,⟨kvs.length,by simp,m9 _,h0⟩,?_⟩
rintro i m H ⟨rfl,hi,p⟩
have q:=hl i H p
by_cases hlt:i<kvs.length
·refine .inr ⟨⟨q,hlt⟩,Pv (i+1),λH' z=>⟨kvs.length-(i+1),by lia,rfl,by lia,z⟩,?_⟩;rintro v H' ⟨rfl,kv,hk,rfl⟩
 exact hs i kv _ hk p
obtain rfl:i=kvs.length:=by lia
exact .inl ⟨⟨q,kO _⟩,hd _ p⟩)
end
section
variable{X:Cx}
theorem q9Y{ns:List Int}{us:List Value}(r:Vals (ns.map V.int) us){j:Nat}(h:j<us.length):∃t,us[j]=.int (ns.getD j 0) t:=by(
obtain⟨x,e,q⟩:=r.atN h
rw[mD]at e
cases z:ns[j]? with
|none=>rw[z]at e;cases e
|some i=>rw[z]at e;obtain rfl:V.int i=x:=kZ e;obtain⟨t,q⟩:=q;refine⟨t,?_⟩;rw[kI,z];exact q)
theorem qEV{ns ms:List Int}(h:ns.length=ms.length):(List.range ns.length).all (λj=>ns.getD j 0==ms.getD j 0)=decide (ns=ms):=by(
rw[wZ,dM,mJ]
constructor
·intro z;refine wL h λj h1 h2=>?_;have:=z j (gC.mpr h1);rw[wC,kI,kI,kE h1,kE h2]at this;exact this
rintro rfl j _
exact beq_self_eq_true _)
noncomputable def qLE(K:PySem.W.Frag):R2:=λx y H Q=>∃(a b:Addr) (ns ms:List Int),x=.ref a∧y=.ref b∧SqT K H a (ns.map V.int)∧SqT K H b (ms.map V.int)∧ns.length=ms.length∧Q (.bl (!decide (ns=ms))) H
theorem qGX(hu:X.A.units+64<cLine):OpR X (compareOp .NotEq) (qLE X.K):=by(
intro pins s σ H x y v u Q I rx ry h
obtain⟨a,b,ns,ms,rfl,rfl,ha,hb,hl,q⟩:=h
cases rx
cases ry
obtain⟨i1,r1,p1,_⟩:=I.tuple ha
obtain⟨i2,r2,p2,_⟩:=I.tuple hb
have l1:=r1.length
have l2:=r2.length
rw[hG]at l1 l2
refine xQ (e:=λj=>ns.getD j 0==ms.getD j 0) (show s.heap.IsTuple a i1.toArray from p1) (show s.heap.IsTuple b i2.toArray from p2) (by lia) (λj h1 h2=>?_) _ _ _ _ ⟨.bl _,H,I,?_,q⟩
·obtain⟨t1,e1⟩:=q9Y r1 (j:=j) (by simpa using h1);obtain⟨t2,e2⟩:=q9Y r2 (j:=j) (by simpa using h2);have z:=nI (A:=X.A.in1) (s:=s) (ns.getD j 0) t1 (ms.getD j 0) t2;rw[←e1,←e2]at z;simpa using z
rw[show min i1.toArray.size i2.toArray.size=ns.length by simp;lia,qEV hl,show(i1.toArray.size==i2.toArray.size)=true by simp;lia,Bool.and_true]
rfl)
end
end L2
namespace W1
open PySem L2
structure Tl where
b:Int
lv:Int
cl:Int
bo:Int
noncomputable abbrev Tl.ns(T:Tl):List Int:=[T.b,T.lv,T.cl,T.bo]
noncomputable def TlAt(H:Hp)(v:V)(T:Tl):Prop:=∃a,v=.ref a∧H a=some (.tup (T.ns.map V.int))
theorem TlAt.same{H H':Hp}{v:V}{T:Tl}(s:Same H H')(h:TlAt H v T):TlAt H' v T:=let⟨a,e,z⟩:=h;⟨a,e,s _ _ z⟩
noncomputable abbrev Tls(H:Hp):List V→List Tl→Prop:=Paired (TlAt H)
theorem Tls.same{H H':Hp}{vs:List V}{ts:List Tl}(s:Same H H')(h:Tls H vs ts):Tls H' vs ts:=Paired.mapP h λ_ _ z=>z.same s
theorem Tl.eq_of{A B:Tl}(h:A.ns=B.ns):A=B:=by cases A;cases B;simp[Tl.ns]at h;simp[h]
structure Tl.Ok(pg nw:Int)(T:Tl):Prop where
b0:0≤T.b
b1:T.b<16
l0:0≤T.lv
l1:T.lv≤pg
c0:0≤T.cl
c1:T.cl<10 ^ 30
o0:0≤T.bo
o1:T.bo<nw
noncomputable def unb(f:Tl→Int)(ts:List Tl)(T:Tl):Bool:=ts.all λo=>!decide (f o<f T)
theorem q6A(f:Tl→Int):∀ts:List Tl,ts≠[]→∃T∈ts,∀o∈ts,f T≤f o
| [],h=>absurd rfl h
| [T],_=>⟨T,kD.mpr rfl,λo ho=>by rw[kD.mp ho];exact gL _⟩
|T::U::r,_=>by
 obtain⟨M,hm,hl⟩:=q6A f (U::r) (by simp);by_cases h:f T≤f M
 ·refine⟨T,kY ..,λo ho=>?_⟩;rcases kN.mp ho with rfl|ho
  ·exact gL _
  have:=hl o ho;lia
 refine⟨M,kB _ hm,λo ho=>?_⟩;rcases kN.mp ho with rfl|ho
 ·lia
 exact hl o ho
theorem q5N{f:Tl→Int}{ts:List Tl}{T:Tl}:unb f ts T=true↔∀o∈ts,f T≤f o:=by(
unfold unb
rw[dM]
constructor
·intro h o ho;have:=h o ho;rw[dQ,rF]at this;lia
intro h o ho
have:=h o ho
rw[dQ,rF]
lia)
theorem q6B(f:Tl→Int)(ts:List Tl)(h:ts≠[]):∃i,∃hi:i<ts.length,unb f ts ts[i]=true∧∀j,∀hj:j<i,unb f ts (ts[j]'(by lia))=false:=by(
obtain⟨T,hT,hm⟩:=q6A f ts h
obtain⟨k,hk,e⟩:=cU hT
have key:∀n,n<ts.length→(∃z:n<ts.length,unb f ts ts[n]=true)→∃i,∃hi:i<ts.length,unb f ts ts[i]=true∧∀j,∀hj:j<i,unb f ts (ts[j]'(by lia))=false:=by
 intro n;induction n using Nat.strongRecOn with
 |ind n ih=>
  intro hn hZ;obtain⟨z,hu⟩:=hZ;by_cases g:∃j,∃hj:j<n,unb f ts (ts[j]'(by lia))=true
  ·obtain⟨j,hj,u⟩:=g;exact ih j hj (by lia) ⟨by lia,u⟩
  refine⟨n,hn,hu,λj hj=>?_⟩;cases u:unb f ts (ts[j]'(by lia))with
  |false=>rfl
  |true=>exact absurd ⟨j,hj,u⟩ g
exact key k hk ⟨hk,q5N.mpr (by rw[e];exact hm)⟩)
noncomputable def pk(f:Tl→Int)(ts:List Tl):Int:=((ts.find? (unb f ts)).map Tl.b).getD 0
theorem qIH{f:Tl→Int}{ts:List Tl}{i:Nat}(hi:i<ts.length)(u:unb f ts ts[i]=true)(n:∀j,∀hj:j<i,unb f ts (ts[j]'(by lia))=false):pk f ts=ts[i].b:=by(
have e:ts.find? (unb f ts)=some ts[i]:=by rw[List.find?_eq_some_iff_getElem];exact⟨u,i,hi,rfl,λj hj=>by rw[n j hj];rfl⟩
unfold pk
rw[e]
rfl)
theorem q8O{H:Hp}{x dx C:Addr}(nx:H x=none)(nd:H dx=none):Same H (upd (upd H dx (.own x)) x (.ins C dx [])):=λb o e=>by rw[qC (qF e nx),qC (qF e nd)];exact e
end W1
namespace L2
open PySem PySem.Spec PyProof.Rows
theorem yL{X:Cx}{K:PySem.W.Frag}(e:X.K=K):IxR X (rIxT K):=by subst e;exact yN
theorem q6C{X:Cx}{K:PySem.W.Frag}(e:X.K=K):IxR X (rIxL K):=by subst e;exact qZ
theorem q6D{X:Cx}{K:PySem.W.Frag}(e:X.K=K):OpR X (compareOp .In) (rIn K false):=by subst e;exact qD4
theorem q78{X:Cx}{K:PySem.W.Frag}(e:X.K=K):OpR X (compareOp .NotIn) (rIn K true):=by subst e;exact q3U
theorem zK{X:Cx}{elt iter tg:Expr}{ifs:List Expr}{scope:Scope}{pos py spos:Pos}{wi:TI}{g:TG}{tc:TT}{te:TE}{i:Nat}{y:Str}(N:List Str)(ix:List Nat)(hcalm:X.calm=true)(hi:PI X tg iter wi)
 (hg:∀C fp s H xe,PG (vP X N scope C fp s H xe) tg g) (hif:∀C fp s H xe,PIf (vP X N scope C fp s H xe) ifs tc) (he:∀C fp s H xe,PE (vP X N scope C fp s H xe) elt te)
 (ok:qC4 X.N X.env.kindOf scope N ix=true) (hown:Own g ix.length) (hN:X.N.Nodup) (hy:X.N[i]?=some y) (hl:Loc X.env.scope y)
 (hsw:swapsWith (.ListComp elt [⟨tg,iter,ifs,0⟩] scope pos) (some (.Name y py)) spos.line X.env=pure true:=by rfl) (hf:X.fn y=true∨X.env.scope.names.lookup y=some .local:=by first|exact .inl rfl|exact .inr rfl|assumption)
 (hs:∀x,foldedSetIterable iter X.env x=pure x:=by intro _;rfl):
 PS X (.Assign [.Name y py] (.ListComp elt [⟨tg,iter,ifs,0⟩] scope pos) spos) (tAsg (tLC wi g tc te ix (N.length-ix.length)) (q31 i)):=by(
unfold qC4 at ok
rw[m8,m8,m8,dM]at ok
obtain⟨⟨⟨h1,h2⟩,h3⟩,h4⟩:=ok
have h2':∀y∈scope.names,y.2≠ .cell∧(y.2≠ .free∨X.env.kindOf y.1=some .cell)∧(y.2≠ .local∨scope.names.lookup y.1=some .local):=λy hy=>by have q:=h2 y hy;rw[m8,m8,cA,cA,mJ,mJ,mJ,mJ,mJ]at q;exact⟨q.1.1,q.1.2,q.2⟩
intro pins s σ H D I h
rw[exec_Assign_Name_used _ _ _ _ hsw]
refine hV (nU (hV ?_))
show wpAny _ X.A (do let _←comprehension (.ListComp elt [⟨tg,iter,ifs,0⟩] scope pos) scope X.env _ (newList []) false (eval iter X.env) (some (assign (.Name y py) X.env))) _ _ s
refine hV (dB (qC3 (use:=some (assign (.Name y py) X.env)) (QQ:=λ_ s'=>∃σ' H',Inv X pins σ' H' s'∧D.nx σ' H') N ix _ (λ_ _ _ _ _=>hcalm) hi.c hg hif he (mP h1) (λy hy=>(h2' y hy).1) (λy hy e=>(h2' y hy).2.1.resolve_left (λz=>z e)) h3 (mP h4) (λy hy e=>(h2' y hy).2.2.resolve_left (λz=>z e)) hown I h
 (λC Dl H' s' m hm fp inv q=>?_) hs) (λ_ s' hq=>kQ (kQ hq)) λ_ _ e=>e)
have I':Inv X pins σ H' s':=inv s'.heap (Heap.SameBut.refl _ _)
show wpAny _ _ (assign (.Name y py) X.env (.ref Dl)) _ _ _
refine aH (q7O (v:=.ref Dl) I' hN hy hl rfl (λs'' I'' hZ=>?_) hf)
obtain⟨a,sb,ha⟩:=hZ
have aC:C≠a:=λz=>by
 rcases ha with ha|ha
 ·exact fp.2.1 (z.trans ha)
 exact fp.2.2.2.2.1 _ _ ha z.symm
refine⟨m,hm.sameBut sb aC,λh' sb'=>⟨_,H',I''.turnedN (t':=s''.toks) (fp:=[C]) (λb o hb e=>sb'.extBut b o (λz=>hb (kD.mpr z)) e) (λb hb=>by rw[kD.mp hb];exact fp),q⟩⟩)
theorem yV{K:PySem.W.Frag}{a:Addr}{xs:List V}{D:Addr}{H2:Hp}{g:TG}{tc:TT}{te:TE}{σ0:St}{R:Hp→Prop}(Pv:Nat→Hp→Prop)(h0:Pv 0 H2)(hl:∀i H,Pv i H→SqL K H a xs)
 (hs:∀(i:Nat) x H,xs[i]?=some x→Pv i H→g x σ0 H λσ5 H5=>tc σ5 H5 λb H6=>if b=true then te σ5 H6 (λv H7=>∃vs,H7 D=some (.lst vs)∧vs.length<sizeLine∧Pv (i+1) (upd H7 D (.lst (vs++[v]))))else Pv (i+1) H6) (hd:∀H,Pv xs.length H→R H):
 ∃W:Nat→Nat→Hp→Prop,(∃m,W 0 m H2)∧∀i m H3,W i m H3→((Itl K a).stop i H3∧R H3)∨((Itl K a).go i H3∧∃N:Hp→Prop,(∀H',N H'→∃m',m'<m∧W (i+1) m' H')∧∀x H4,(Itl K a).yld i H3 x H4→g x σ0 H4 λσ5 H5=>tc σ5 H5 λb H6=>if b=true then te σ5 H6 (λv H7=>∃vs,H7 D=some (.lst vs)∧vs.length<sizeLine∧N (upd H7 D (.lst (vs++[v]))))else N H6):=qC5 (Q:=λ_ H=>R H) Pv h0 hl hs hd
theorem q6E{K:PySem.W.Frag}{a:Addr}{xs:List V}{k:Nat}{D:Addr}{H2:Hp}{te:TE}{σ0:St}{R:Hp→Prop}(Pv:Nat→Hp→Prop)(h0:Pv 0 H2)(hl:∀i H,Pv i H→SqL K H a xs)
 (hs:∀(i:Nat) x H,xs[i]?=some x→Pv i H→te (σ0.set k (some x)) H (λv H7=>∃vs,H7 D=some (.lst vs)∧vs.length<sizeLine∧Pv (i+1) (upd H7 D (.lst (vs++[v]))))) (hd:∀H,Pv xs.length H→R H):
 ∃W:Nat→Nat→Hp→Prop,(∃m,W 0 m H2)∧∀i m H3,W i m H3→((Itl K a).stop i H3∧R H3)∨((Itl K a).go i H3∧∃N:Hp→Prop,(∀H',N H'→∃m',m'<m∧W (i+1) m' H')∧∀x H4,(Itl K a).yld i H3 x H4→q31 k x σ0 H4 λσ5 H5=>q9W σ5 H5 λb H6=>if b=true then te σ5 H6 (λv H7=>∃vs,H7 D=some (.lst vs)∧vs.length<sizeLine∧N (upd H7 D (.lst (vs++[v]))))else N H6):=qET (Q:=λ_ H=>R H) Pv h0 hl hs hd
end L2
namespace L2
open PySem PySem.W PyProof.Rows
noncomputable def hT{α:Type}(c:Nat→Nat→Bool)(n:Nat):KasT α→(α→Prop)→Prop
| .ret a,Q=>Q a
| .ask i j k,Q=>i<n∧j<n∧hT c n (k (c i j)) Q
theorem u6{α:Type}{c:Nat→Nat→Bool}{n:Nat}{Q Q':α→Prop}(h:∀a,Q a→Q' a):∀t:KasT α,hT c n t Q→hT c n t Q'
| .ret a,q=>h a q
| .ask i j k,q=>⟨q.1,q.2.1,u6 h (k (c i j)) q.2.2⟩
theorem q2P{α β:Type}{c:Nat→Nat→Bool}{n:Nat}{f:α→KasT β}{Q:β→Prop}:∀t:KasT α,hT c n t (λa=>hT c n (f a) Q)→hT c n (t.bind f) Q
| .ret a,q=>q
| .ask i j k,q=>⟨q.1,q.2.1,q2P (k (c i j)) q.2.2⟩
theorem qEW{α:Type}{c:Nat→Nat→Bool}{n:Nat}{cmp:Nat→Nat→(Bool→Shared→Prop)→Shared→Prop}{G:α→Shared→Prop}{s:Shared}(hc:∀i j C,i<n→j<n→C (c i j) s→cmp i j C s):
 ∀t:KasT α,hT c n t (λa=>G a s)→t.kasWp cmp G s
| .ret a,q=>q
| .ask i j k,q=>hc i j _ q.1 q.2.1 (qEW hc (k (c i j)) q.2.2)
section
variable{r:Nat→Int}{n:Nat}
noncomputable abbrev rc(r:Nat→Int):Nat→Nat→Bool:=λi j=>decide (r i<r j)
noncomputable abbrev kk(r:Nat→Int)(p:Array Nat)(i:Nat):Int:=r (p.getD i 0)
noncomputable def Srt(r:Nat→Int)(p:Array Nat)(m:Nat):Prop:=∀i j,i≤j→j<m→kk r p i≤kk r p j
noncomputable def Dec(r:Nat→Int)(p:Array Nat)(m:Nat):Prop:=∀i j,i≤j→j<m→kk r p j≤kk r p i
noncomputable def Gp(n:Nat)(p:Array Nat):Prop:=p.Perm (List.range n).toArray
theorem Gp.size{p:Array Nat}(g:Gp n p):p.size=n:=by have:=g.size_eq;simpa using this
theorem Gp.lt{p:Array Nat}(g:Gp n p){i:Nat}(h:i<n):p.getD i 0<n:=by(
have hi:i<p.size:=by rw[g.size];exact h
have e:p.getD i 0=p[i]:=by simp[Array.getD,hi]
have:p[i]∈(List.range n).toArray:=g.mem_iff.mp (Array.getElem_mem hi)
rw[e]
simpa using this)
theorem Srt.more{p:Array Nat}{m:Nat}(h:Srt r p m)(e:kk r p (m-1)≤kk r p m):Srt r p (m+1):=λi j hij hj=>by(
by_cases z:j<m
·exact h i j hij z
have ej:j=m:=by lia
subst ej
by_cases z2:i=j
·subst z2;exact gL _
exact sV (h i (j-1) (by lia) (by lia)) e)
theorem Dec.more{p:Array Nat}{m:Nat}(h:Dec r p m)(e:kk r p m≤kk r p (m-1)):Dec r p (m+1):=λi j hij hj=>by(
by_cases z:j<m
·exact h i j hij z
have ej:j=m:=by lia
subst ej
by_cases z2:i=j
·subst z2;exact gL _
exact sV e (h i (j-1) (by lia) (by lia)))
theorem q40{p q:Array Nat}{i j:Nat}(h:p[i]?=q[j]?):p.getD i 0=q.getD j 0:=by rw[sX,sX,h]
theorem qB2{p:Array Nat}{i j:Nat}(hj:j≤p.size)(k:Nat):(kas_rev p i j).getD k 0=if i≤k∧k<j then p.getD (i+j-1-k) 0 else p.getD k 0:=by(
unfold kas_rev
by_cases h:i≤k∧k<j
·rw[kL h];exact q40 (by rw[xR hj,kL h])
rw[kJ h]
exact q40 (by rw[xR hj,kJ h]))
theorem Gp.rev{p:Array Nat}(g:Gp n p)(i j:Nat):Gp n (kas_rev p i j):=(mirror_perm _ _ _ _).trans g
theorem qB3{p:Array Nat}(g:Gp n p):∀(f m:Nat),1≤m→m+f≤n→Srt r p m→hT (rc r) n (kas_asc p f m) (λe=>m≤e∧e≤m+f∧Srt r p e∧(e<m+f→kk r p e<kk r p (e-1)))
|0,m,h1,hz,h=>⟨kO _,kO _,h,λz=>absurd z (d7 _)⟩
|f+1,m,h1,hz,h=>by
 refine⟨g.lt (by lia),g.lt (by lia),?_⟩;by_cases e:r (p.getD m 0)<r (p.getD (m-1) 0)
 ·rw[show rc r (p.getD m 0) (p.getD (m-1) 0)=true from hC e];dsimp only;rw[kL rfl];exact⟨kO _,by lia,h,λ_=>e⟩
 rw[show rc r (p.getD m 0) (p.getD (m-1) 0)=false from hU e];dsimp only;rw[kJ kX];refine u6 ?_ _ (qB3 g f (m+1) (by lia) (by lia) (h.more (by show r _≤r _;lia)));rintro a ⟨a1,a2,a3,a4⟩
 exact⟨by lia,by lia,a3,λz=>a4 (by lia)⟩
noncomputable def Eql(r:Nat→Int)(p:Array Nat)(a b:Nat):Prop:=∀k,a≤k→k<b→kk r p k=kk r p (b-1)
theorem q8P{p:Array Nat}{i j:Nat}(hj:j≤p.size)(h:Eql r p i j)(k:Nat):kk r (kas_rev p i j) k=kk r p k:=by(
show r _=r _
rw[qB2 hj]
by_cases z:i≤k∧k<j
·rw[kL z];exact(h _ (by lia) (by lia)).trans (h k z.1 z.2).symm
rw[kJ z])
theorem q5O:∀(f:Nat) (p:Array Nat) (m q:Nat),Gp n p→q+1≤m→m+f≤n→Dec r p m→Eql r p (m-(q+1)) m→hT (rc r) n (kas_desc f p m q) (λz=>Gp n z.1∧m≤z.2.1∧z.2.1≤m+f∧Dec r z.1 z.2.1∧z.2.2+1≤z.2.1∧Eql r z.1 (z.2.1-(z.2.2+1)) z.2.1)
|0,p,m,q,g,hq,hz,d,e=>⟨g,kO _,kO _,d,hq,e⟩
|f+1,p,m,q,g,hq,hz,d,e=>by
 have hs:=g.size;refine⟨g.lt (by lia),g.lt (by lia),?_⟩;by_cases c:r (p.getD m 0)<r (p.getD (m-1) 0)
 ·rw[show rc r (p.getD m 0) (p.getD (m-1) 0)=true from hC c];dsimp only;rw[kL rfl];by_cases q0:q>0
  ·rw[kL q0];have kq:=q8P (r:=r) (p:=p) (i:=m-(q+1)) (j:=m) (by lia) e;have d1:Dec r (kas_rev p (m-(q+1)) m) (m+1):=λi j hij hj=>by rw[kq,kq];exact d.more (pO c) i j hij hj
   refine u6 ?_ _ (q5O f _ (m+1) 0 (g.rev _ _) (by lia) (by lia) d1 λk h1 h2=>by rw[show k=m by lia];rfl);rintro a ⟨a1,a2,a3,a4⟩
   exact⟨a1,by lia,by lia,a4⟩
  rw[kJ q0];refine u6 ?_ _ (q5O f p (m+1) 0 g (by lia) (by lia) (d.more (pO c)) λk h1 h2=>by rw[show k=m by lia];rfl);rintro a ⟨a1,a2,a3,a4⟩
  exact⟨a1,by lia,by lia,a4⟩
 rw[show rc r (p.getD m 0) (p.getD (m-1) 0)=false from hU c];dsimp only;rw[kJ kX];refine⟨g.lt (by lia),g.lt (by lia),?_⟩;by_cases c2:r (p.getD (m-1) 0)<r (p.getD m 0)
 ·rw[show rc r (p.getD (m-1) 0) (p.getD m 0)=true from hC c2];dsimp only;rw[kL rfl];exact⟨g,kO _,lD _ _,d,hq,e⟩
 rw[show rc r (p.getD (m-1) 0) (p.getD m 0)=false from hU c2];dsimp only;rw[kJ kX];have ee:r (p.getD m 0)=r (p.getD (m-1) 0):=by lia
 refine u6 ?_ _ (q5O f p (m+1) (q+1) g (by lia) (by lia) (d.more (Int.le_of_eq ee)) λk h1 h2=>?_)
 ·rintro a ⟨a1,a2,a3,a4⟩
  exact⟨a1,by lia,by lia,a4⟩
 show r (p.getD k 0)=r (p.getD m 0);by_cases z:k=m
 ·rw[z]
 rw[ee];exact e k (by lia) (by lia)
theorem qC7{p:Array Nat}{m:Nat}(g:Gp n p)(h1:1≤m)(hm:m≤n)(d:Dec r p m):hT (rc r) n (kas_tail3 m n p) (λz=>Gp n z.2∧1≤z.1∧z.1≤n∧Srt r z.2 z.1):=by(
have hs:=g.size
have sr:Srt r (kas_rev p 0 m) m:=λi j hij hj=>by show r _≤r _;rw[qB2 (by lia),qB2 (by lia),kL ⟨m9 _,by lia⟩,kL ⟨m9 _,hj⟩];exact d _ _ (by lia) (by lia)
refine q2P _ (u6 ?_ _ (qB3 (g.rev 0 m) (n-m) m h1 (by lia) sr))
rintro a ⟨a1,a2,a3,_⟩
exact⟨g.rev _ _,by lia,by lia,a3⟩)
theorem qC8{p:Array Nat}{m:Nat}(g:Gp n p)(hm:m+1≤n)(d:Dec r p (m+1)):hT (rc r) n (kas_descPart m n p) (λz=>Gp n z.2∧1≤z.1∧z.1≤n∧Srt r z.2 z.1):=by(
refine q2P _ (u6 ?_ _ (q5O (n-(m+1)) p (m+1) 0 g (by lia) (by lia) d λk h1 h2=>by rw[show k=m by lia];rfl))
rintro⟨p',m',q'⟩ ⟨a1,a2,a3,a4,a5,a6⟩
dsimp only at a1 a2 a3 a4 a5 a6 ⊢
have hs:=a1.size
by_cases q0:q'>0
·rw[kL q0];have kq:=q8P (r:=r) (p:=p') (i:=m'-(q'+1)) (j:=m') (by lia) a6;exact qC7 (a1.rev _ _) (by lia) (by lia) λi j hij hj=>by rw[kq,kq];exact a4 i j hij hj
rw[kJ q0]
exact qC7 a1 (by lia) (by lia) a4)
theorem qEX{p:Array Nat}(g:Gp n p)(h1:1≤n):hT (rc r) n (kas_count n p) (λz=>Gp n z.2∧1≤z.1∧z.1≤n∧Srt r z.2 z.1):=by(
have hs:=g.size
have s1:Srt r p 1:=λi j hij hj=>by rw[show i=j by lia];exact gL _
refine q2P _ (u6 ?_ _ (qB3 g (n-1) 1 (kO _) (by lia) s1))
rintro m ⟨a1,a2,a3,a4⟩
try dsimp only
by_cases e:m=n
·rw[kL (by rw[wC];exact e)];exact⟨g,a1,by lia,a3⟩
rw[kJ (by rw[wC];exact e)]
have lt:=a4 (by lia)
by_cases m1:m>1
·rw[kL m1];refine⟨g.lt (by lia),g.lt (by lia),?_⟩;by_cases c:r (p.getD 0 0)<r (p.getD (m-1) 0)
 ·rw[show rc r (p.getD 0 0) (p.getD (m-1) 0)=true from hC c];dsimp only;rw[kL rfl];exact⟨g,a1,by lia,a3⟩
 rw[show rc r (p.getD 0 0) (p.getD (m-1) 0)=false from hU c];dsimp only;rw[kJ kX];have eq:Eql r p 0 m:=λk _ hk=>by have z1:=a3 0 k (m9 _) hk;have z2:=a3 k (m-1) (by lia) (by lia);show r _=r _;have z1:r (p.getD 0 0)≤r (p.getD k 0):=z1;have z2:r (p.getD k 0)≤r (p.getD (m-1) 0):=z2;lia
 have kq:=q8P (r:=r) (p:=p) (i:=0) (j:=m) (by lia) eq;refine qC8 (g.rev _ _) (by lia) λi j hij hj=>?_;rw[kq,kq];refine Dec.more (m:=m) (λi j hij hj=>?_) (pO lt) i j hij hj;rw[eq i (m9 _) (by lia),eq j (m9 _) hj];exact gL _
rw[kJ m1]
have:m=1:=by lia
subst this
refine qC8 g (by lia) (Dec.more (λi j hij hj=>?_) (pO lt))
rw[show i=j by lia]
exact gL _)
theorem q6F{p:Array Nat}(g:Gp n p){k:Nat}(hk:k<n)(sr:Srt r p k):∀(f l u:Nat),u-l≤f→l≤u→u≤k→(∀i,i<l→kk r p i≤kk r p k)→(∀i,u≤i→i<k→kk r p k<kk r p i)→hT (rc r) n (kas_place p k f l u) (λm=>m≤k∧(∀i,i<m→kk r p i≤kk r p k)∧∀i,m≤i→i<k→kk r p k<kk r p i)
|0,l,u,hf,hl,hu,a,b=>⟨by lia,a,λi h1 h2=>b i (by lia) h2⟩
|f+1,l,u,hf,hl,hu,a,b=>by
 unfold kas_place;by_cases e:l≥u
 ·rw[kL e];exact⟨by lia,a,λi h1 h2=>b i (by lia) h2⟩
 rw[kJ e];refine⟨g.lt hk,g.lt (by lia),?_⟩;by_cases c:r (p.getD k 0)<r (p.getD ((l+u) / 2) 0)
 ·rw[show rc r (p.getD k 0) (p.getD ((l+u) / 2) 0)=true from hC c];dsimp only;rw[kL rfl];refine q6F g hk sr f l ((l+u) / 2) (by lia) (by lia) (by lia) a λi h1 h2=>?_;exact nK c (sr _ _ h1 h2)
 rw[show rc r (p.getD k 0) (p.getD ((l+u) / 2) 0)=false from hU c];dsimp only;rw[kJ kX];refine q6F g hk sr f ((l+u) / 2+1) u (by lia) (by lia) hu (λi h1=>?_) b;exact sV (sr i ((l+u) / 2) (by lia) (by lia)) (by show r _≤r _;lia)
theorem qK2{p:Array Nat}{k l:Nat}(hk:k<p.size)(hl:l≤k)(i:Nat):(bubble p k (k-l)).getD i 0=if i=l then p.getD k 0 else if l<i∧i≤k then p.getD (i-1) 0 else p.getD i 0:=by(
have e:=getElem?_bubble hk (k-l) (by lia) i
rw[show k-(k-l)=l by lia]at e
by_cases h1:i=l
·rw[kL h1]at e ⊢;exact q40 e
rw[kJ h1]at e ⊢
by_cases h2:l<i∧i≤k
·rw[kL h2]at e ⊢;exact q40 e
rw[kJ h2]at e ⊢
exact q40 e)
theorem qEY:∀(f:Nat) (p:Array Nat) (k:Nat),Gp n p→k+f≤n→Srt r p k→hT (rc r) n (kas_bin f p k) (λq=>Gp n q∧Srt r q (k+f))
|0,p,k,g,hz,sr=>⟨g,sr⟩
|f+1,p,k,g,hz,sr=>by
 have hs:=g.size;refine q2P _ (u6 ?_ _ (q6F g (show k<n by lia) sr k 0 k (by lia) (m9 _) (kO _) (λi h=>absurd h (cB _)) λi h1 h2=>absurd h2 (by lia)));rintro l ⟨a1,a2,a3⟩
 have at':=qK2 (p:=p) (k:=k) (l:=l) (by lia) a1;refine u6 ?_ _ (qEY f _ (k+1) ((bubble_perm _ _ _).trans g) (by lia) λi j hij hj=>?_)
 ·rintro q ⟨b1,b2⟩
  exact⟨b1,by rw[show k+(f+1)=k+1+f by lia];exact b2⟩
 show r _≤r _;rw[at',at'];by_cases i1:i=l
 ·rw[kL i1];by_cases j1:j=l
  ·rw[kL j1];exact gL _
  rw[kJ j1,kL ⟨by lia,by lia⟩];exact pO (a3 (j-1) (by lia) (by lia))
 rw[kJ i1];by_cases i2:l<i∧i≤k
 ·rw[kL i2,kJ (by lia),kL ⟨by lia,by lia⟩];exact sr _ _ (by lia) (by lia)
 rw[kJ i2];by_cases j1:j=l
 ·rw[kL j1];exact a2 i (by lia)
 rw[kJ j1];by_cases j2:l<j∧j≤k
 ·rw[kL j2];exact sr _ _ (by lia) (by lia)
 rw[kJ j2];exact sr _ _ hij (by lia)
theorem qC9(h1:1≤n):hT (rc r) n (kas_sort n) (λp=>Gp n p∧Srt r p n):=by(
refine q2P _ (u6 ?_ _ (qEX (p:=(List.range n).toArray) (bI _) h1))
rintro⟨m,p⟩ ⟨a1,a2,a3,a4⟩
dsimp only at a1 a2 a3 a4 ⊢
by_cases e:m<n
·rw[kL e];refine u6 ?_ _ (qEY (n-max m 1) p (max m 1) a1 (by lia) (by rw[Nat.max_eq_left a2];exact a4));rintro q ⟨b1,b2⟩
 exact⟨b1,by rw[show max m 1+(n-max m 1)=n by lia]at b2;exact b2⟩
rw[kJ e]
have:m=n:=by lia
subst this
exact⟨a1,a4⟩)
end
end L2
namespace L2
open PySem PySem.W PySem.Spec PyProof.Rows
section
variable{prog:Program}{w:World}{A:Around}{E:Value→Shared→Prop}{s:Shared}
noncomputable abbrev q6G(vs:List Value)(p:Array Nat):Array Value:=List.toArray (p.toList.map λi=>vs.getD i Value.none)
structure RkAt(prog:Program)(w:World)(A:Around)(vs:List Value)(κ:SortKind)(r:Nat→Int)(s:Shared):Prop where
kind:∀(Q:SortKind→Shared→Prop) (E:Value→Shared→Prop),Q κ s→wpAny (model prog w) A (keyKind' vs.toArray) Q E s
lt:∀i j (C:Bool→Shared→Prop),i<vs.length→j<vs.length→C (decide (r i<r j)) s→wpAny (model prog w) A (keyLt' κ (vs.getD i Value.none) (vs.getD j Value.none)) C (λ_ _=>False) s
theorem qB4{a:Addr}{vs:List Value}{n:Nat}{κ:SortKind}{r:Nat→Int}{P:PySem.Fin→Shared→Prop}(ho:s.heap.get? a=some (seqObj "list" vs.toArray n))(h64:vs.length<64)
 (hr:2≤vs.length→∀h',(∀b o,b≠a→s.heap.get? b=some o→h'.get? b=some o)→RkAt prog w A vs κ r { s with heap:=h' })
 (h:∀p:Array Nat,Gp vs.length p→Srt r p vs.length→P (.done (.ret .none)) { s with heap:=sortedHeap s.heap a vs (q6G vs p) }):wpAny (model prog w) A (Builtin.«list.sort» ⟨[.ref a],[]⟩) P E s:=by(
have ha:a<s.heap.objs.size:=mE ho
have hsz:vs.toArray.size=vs.length:=mI ..
obtain⟨e1,g1⟩:∃e1,(s.heap.update a (Obj.mapSeq λ_=>(#[]:Array Value))).get? a=some (seqObj "list" #[] e1):=⟨_,cC ho λ_=>#[]⟩
have g6:=kF (seqObj "list" #[] 0) (kF (seqObj "tuple" vs.toArray 0) g1)
rw[list_sort_plain]
refine hV (aO ho rfl (hV (cF ho rfl (hV (nQ g1 rfl ?_)) (by rw[hsz,gW];lia) (m9 _))))
refine hV (wpAny_newTuple (hV (cZ (gT ?_) (m9 _))) (by show vs.length≤_;rw[gW];lia))
show wpAny (model prog w) A _ P E { s with heap:=((s.heap.update a (Obj.mapSeq λ_=>(#[]:Array Value))).push (seqObj "tuple" vs.toArray 0)).push (seqObj "list" #[] 0) }
dsimp only
by_cases h2:vs.toArray.size<2
·rw[kL h2,kL h2];refine hV (kQ ?_);rw[bJ];refine hV (kQ ?_);dsimp only;have fin:=h (List.range vs.length).toArray (bI _) λi j hij hj=>by rw[show i=j by lia];exact gL _
 have eo:(pairsOf vs).map (·.2)=q6G vs (List.range vs.length).toArray:=by
  have em:(pairsOf vs)=(List.toArray (List.range vs.length)).map (kas_item (pairsOf vs)):=by have e:=kas_range (pairsOf vs);rw[aP]at e;exact e.symm
  apply lE.mp;rw[em,eL,lF];exact dW λi _=>by show(kas_item (pairsOf vs) i).2=_;rw[kas_item_eq]
 refine hV (nQ g6 rfl ?_);refine hV (cF g6 rfl ?_ (m9 _) (by rw[Array.size_map];show(pairsOf vs).size≤_;rw[aP,gW];lia));simp only[bne_self_eq_false,pC,if_false];refine kQ ?_;rw[←eo]at fin;exact fin
rw[kJ h2,kJ h2]
have h2':2≤vs.length:=by lia
have K:=hr h2' (((s.heap.update a (Obj.mapSeq λ_=>(#[]:Array Value))).push (seqObj "tuple" vs.toArray 0)).push (seqObj "list" #[] 0)) λb o nb e=>kF _ (kF _ ((mF _ _ (wS nb)).trans e))
refine hV (K.kind _ _ ?_)
have est:SortSt.mk' κ (vs.toArray.zip vs.toArray) #[] 7 none=kas_st κ (pairsOf vs) (List.toArray (List.range vs.length)):=by have e:=kas_range (pairsOf vs);rw[aP]at e;unfold kas_st;rw[e];rfl
have tree:(kas_sort vs.length).kasWp (kas_cmp prog w A κ (pairsOf vs)) (λp s'=>s'= { s with heap:=((s.heap.update a (Obj.mapSeq λ_=>(#[]:Array Value))).push (seqObj "tuple" vs.toArray 0)).push (seqObj "list" #[] 0) }∧Gp vs.length p∧Srt r p vs.length) { s with heap:=((s.heap.update a (Obj.mapSeq λ_=>(#[]:Array Value))).push (seqObj "tuple" vs.toArray 0)).push (seqObj "list" #[] 0) }:=by rw[←kas_ask_eq];exact qEW (c:=rc r) (n:=vs.length) (λi j C hi hj c=>K.lt i j C hi hj c) _ (u6 (λp q=>⟨rfl,q⟩) _ (qC9 (by lia)))
have run:=kas_runs (E:=E) (Q:=λ_ st' s'=>∃p:Array Nat,arrOf st'=p.map (kas_item (pairsOf vs))∧failedOf st'=none∧s'= { s with heap:=((s.heap.update a (Obj.mapSeq λ_=>(#[]:Array Value))).push (seqObj "tuple" vs.toArray 0)).push (seqObj "list" #[] 0) }∧Gp vs.length p∧Srt r p vs.length) h2' h64 (λp' st' s' _ a2 a3 a4=>⟨p',a2,a3,a4⟩) tree
rw[←est]at run
refine hV (dB run ?_ λ_ _ e=>e)
rintro⟨⟨⟩,st'⟩ s' ⟨p,har,hf,rfl,gp,sr⟩
dsimp only
have hout:(arrOf st').map (·.2)=q6G vs p:=by apply lE.mp;rw[har,eL,lF];exact dW λi _=>by show(kas_item (pairsOf vs) i).2=_;rw[kas_item_eq]
have hol:(q6G vs p).size=vs.length:=by rw[mI,hG,mW,gp.size]
rw[hout]
refine hV (nQ g6 rfl ?_)
refine hV (cF g6 rfl ?_ (m9 _) (mO (pH hol) (by rw[gW];lia)))
rw[hf]
simp only[bne_self_eq_false,pC,if_false]
exact kQ (h p gp sr))
theorem q8Q{l:Addr}{vs:List Value}{κ:SortKind}{r:Nat→Int}{Q:Value→Shared→Prop}(hl:s.heap.IsList l vs.toArray)(h64:vs.length<64)
 (hr:2≤vs.length→∀h',(∀b o,s.heap.get? b=some o→h'.get? b=some o)→RkAt prog w A.in1.in1 vs κ r { s with heap:=h' })
 (h:∀p:Array Nat,Gp vs.length p→Srt r p vs.length→Q (.ref (s.heap.objs.size+1)) { s with heap:=sortedAll s.heap vs (q6G vs p) }):
 wpAny (model prog w) A (call (.builtin "sorted") [.ref l]) Q E s:=by(
refine Calls.call_function_entry kind_sorted plain_sorted entry_sorted (args_sorted1 _) ?_
unfold Builtin.«sorted»
refine hV (m:=checkCount "sorted" 1 1 _) (kQ (hV (collect_list hl (hV (cZ ?_ (by rw[gW];show vs.length≤_;lia))))))
have hsz:((s.heap.push (seqObj "list" #[] 0)).update s.heap.objs.size (Obj.mapSeq (· ++vs.toArray))).objs.size=s.heap.objs.size+1:=by rw[lG,aD]
have g:(((s.heap.push (seqObj "list" #[] 0)).update s.heap.objs.size (Obj.mapSeq (· ++vs.toArray))).push (seqObj "list" vs.toArray 0)).get? (s.heap.objs.size+1)=some (seqObj "list" vs.toArray 0):=by rw[←hsz];exact mR _ rfl
show wpAny _ _ _ _ _ { s with heap:=((s.heap.push (seqObj "list" #[] 0)).update s.heap.objs.size (Obj.mapSeq (· ++vs.toArray))).push (seqObj "list" vs.toArray 0) }
rw[hsz]
refine hV (gT (pV slot_list_sort ⟨_,g,rfl⟩ entry_list_sort (qB4 (κ:=κ) (r:=r) g h64 (λh2 h' k=>hr h2 h' λb o e=>k b o (mZ (rE (mE e))) (kF _ ((mF _ _ (rL (mE e))).trans (kF _ e)))) λp a1 a2=>⟨_,rfl,?_⟩) (args_list_sort _)))
exact kQ ⟨_,rfl,h p a1 a2⟩)
end
noncomputable def lx:List Int→List Int→Bool
|a::r,b::s=>if a=b then lx r s else decide (a<b)
| [],_::_=>true
|_,[]=>false
theorem q39:∀a:List Int,lx a a=false
| []=>rfl
|a::r=>by show(if a=a then lx r r else decide (a<a))=false;rw[kL rfl];exact q39 r
theorem q0L:∀a b c:List Int,lx a b=true→lx b c=true→lx a c=true
| [],[],c,h,_=>by cases h
| [],_::_,[],_,h=>by cases h
| [],_::_,_::_,_,_=>rfl
|_::_,[],c,h,_=>by cases h
|_::_,_::_,[],_,h=>by cases h
|a::r,b::s,c::t,h,g=>by
 have h:(if a=b then lx r s else decide (a<b))=true:=h;have g:(if b=c then lx s t else decide (b<c))=true:=g;show(if a=c then lx r t else decide (a<c))=true;by_cases e1:a=b
 ·subst e1;rw[kL rfl]at h;by_cases e2:a=c
  ·subst e2;rw[kL rfl]at g ⊢;exact q0L r s t h g
  rw[kJ e2]at g ⊢;exact g
 rw[kJ e1,mJ]at h;by_cases e2:b=c
 ·subst e2;rw[kJ e1];exact hC h
 rw[kJ e2,mJ]at g;rw[kJ (by lia)];exact hC (by lia)
theorem q4N:∀a b:List Int,lx a b=false→lx b a=false→a=b
| [],[],_,_=>rfl
| [],_::_,h,_=>by cases h
|_::_,[],_,h=>by cases h
|a::r,b::s,h,g=>by
 have h:(if a=b then lx r s else decide (a<b))=false:=h;have g:(if b=a then lx s r else decide (b<a))=false:=g;by_cases e:a=b
 ·subst e;rw[kL rfl]at h g;rw[q4N r s h g]
 rw[kJ e,rF]at h;rw[kJ (λz=>e z.symm),rF]at g;lia
theorem q9Z{α:Type}{p q:α→Bool}:∀{l:List α} {x:α},(∀y∈l,p y=true→q y=true)→x∈l→q x=true→p x=false→l.countP p<l.countP q
|a::l,x,h,hx,h1,h2=>by
 have ml:l.countP p≤l.countP q:=xC λy hy=>h y (kB _ hy);rw[pX,pX];rcases kN.mp hx with e|hx
 ·subst e;rw[h1,h2,kJ kX,kL rfl];lia
 have ih:=q9Z (λy hy=>h y (kB _ hy)) hx h1 h2;have ha:=h a (kY ..);cases pa:p a with
 |false=>rw[kJ kX];lia
 |true=>rw[ha pa];lia
noncomputable def rkOf(ks:List (List Int))(k:List Int):Int:=((ks.countP λy=>lx y k:Nat):Int)
theorem qB5{ks:List (List Int)}{k k':List Int}(h:k∈ks)(h':k'∈ks):rkOf ks k<rkOf ks k'↔lx k k'=true:=by(
constructor
·intro lt;cases e:lx k k' with
 |true=>rfl
 |false=>
  have:ks.countP (λy=>lx y k')≤ks.countP (λy=>lx y k):=xC λy _ hy=>by
   cases g:lx k' k with
   |true=>exact q0L _ _ _ hy g
   |false=>rw[q4N k k' e g];exact hy
  unfold rkOf at lt;lia
intro e
have:=q9Z (p:=λy=>lx y k) (q:=λy=>lx y k') (l:=ks) (x:=k) (λy _ hy=>q0L _ _ _ hy e) h e (q39 k)
unfold rkOf
lia)
section
variable{prog:Program}{w:World}{A:Around}{E:Value→Shared→Prop}{s:Shared}
theorem qGY{b:Bool}{x y:Int}{t u:Tok}{Q:Bool→Shared→Prop}(h:Q (decide (x<y)) s):wpAny (model prog w) A (oneLt' b (.int x t) (.int y u)) Q E s:=by(
cases b with
|true=>have z:=kat_lt_int (prog:=prog) (w:=w) (A:=A) (E:=E) (t:=t) (u:=u) h;rw[keyLt'_oneType]at z;exact z
|false=>refine kat_one _ _ ?_;exact lt_int h)
theorem qA0{b:Bool}{Q:Bool→Shared→Prop}:∀{ns ms:List Int} {us vs:List Value} (i:Nat),IntsAre us ns→IntsAre vs ms→ns.length=ms.length→Q (lx ns ms) s→KatLex prog w A b false Q (us.zip vs) i s
| [],[],_,_,i,.nil,.nil,_,h=>h
|n::ns,m::ms,_,_,i,.cons _ t hn,.cons _ u hm,hl,h=>by
 refine kat_cons (wpAny_eqBool_int ?_);have h:Q (if n=m then lx ns ms else decide (n<m)) s:=h;by_cases e:n=m
 ·rw[kL e]at h;rw[show(n==m)=true by rw[wC];exact e];exact kat_yes (qA0 (i+1) hn hm (by simpa using hl) h)
 rw[kJ e]at h;rw[show(n==m)=false by rw[rH];exact e];exact kat_no (qGY h)
| [],_::_,_,_,_,_,_,hl,_=>by simp at hl
|_::_,[],_,_,_,_,_,hl,_=>by simp at hl
noncomputable def IsTI(h:Heap)(v:Value)(k:List Int):Prop:=∃a us,v=.ref a∧h.IsTuple a us.toArray∧IntsAre us k
theorem IsTI.at{h h':Heap}{v:Value}{k:List Int}(x:IsTI h v k)(e:∀b o,h.get? b=some o→h'.get? b=some o):IsTI h' v k:=let⟨a,us,e1,⟨o,e2,r⟩,i⟩:=x
 ⟨a,us,e1,⟨o,e _ _ e2,r⟩,i⟩
theorem qCA{h:Heap}:∀{vs:List Value} {ks:List (List Int)},Paired (IsTI h) vs ks→(∀k∈ks,0<k.length)→∃fs,KatTups h vs fs∧fs.length=ks.length∧∀v∈fs,∃i t,v=.int i t
| [],[],.nil,_=>⟨[],trivial,rfl,λv hv=>by cases hv⟩
|v::vs,k::ks,.cons x t,hp=>by
 obtain⟨fs,r,hl,hi⟩:=qCA t λk hk=>hp k (kB _ hk);obtain⟨a,us,rfl,⟨o,ho,hc,n,hd⟩,iu⟩:=x;have h0:=hp k (kY ..);cases iu with
 |nil=>simp at h0
 |cons i t0 hr=>
  refine⟨.int i t0::fs,KatTups.cons ho hc hd (by simp) r,by simp[hl],λv hv=>?_⟩;rcases kN.mp hv with rfl|hv
  ·exact⟨i,t0,rfl⟩
  exact hi v hv
theorem qCB{vs:List Value}{ks:List (List Int)}{m:Nat}(h:Paired (IsTI s.heap) vs ks)(hw:∀k∈ks,k.length=m)(hm:0<m)(h2:2≤vs.length):RkAt prog w A vs (tuples' true) (λi=>rkOf ks (ks.getD i [])) s:=by(
have hl:=h.len
constructor
·intro Q E' q;obtain⟨fs,t,e,hi⟩:=qCA h λk hk=>by rw[hw k hk];exact hm
 exact kat_kind (T:=Value.type "int") t (by lia) (λv hv=>by obtain⟨i,t0,rfl⟩:=hi v hv;exact .now) rfl q
intro i j C hi hj c
have e1:vs[i]?=some (vs.getD i Value.none):=by rw[kE hi];simp[hi]
have e2:vs[j]?=some (vs.getD j Value.none):=by rw[kE hj];simp[hj]
obtain⟨k1,g1,a1,us1,q1,⟨o1,ho1,_,n1,d1⟩,i1⟩:=Paired.at h e1
obtain⟨k2,g2,a2,us2,q2,⟨o2,ho2,_,n2,d2⟩,i2⟩:=Paired.at h e2
have m1:k1∈ks:=gP g1
have m2:k2∈ks:=gP g2
have z1:ks.getD i []=k1:=by rw[kI,g1];rfl
have z2:ks.getD j []=k2:=by rw[kI,g2];rfl
have ll:k1.length=k2.length:=by rw[hw _ m1,hw _ m2]
have c:C (lx k1 k2) s:=by
 have y:decide (rkOf ks (ks.getD i [])<rkOf ks (ks.getD j []))=lx k1 k2:=by rw[z1,z2,wZ,mJ];exact qB5 m1 m2
 rw[←y];exact c
rw[q1,q2]
refine kat_lt ho1 d1 ho2 d2 ?_
have f:decide (us1.toArray.size<us2.toArray.size)=false:=by rw[mI,mI,i1.length,i2.length,ll];exact hU (d7 _)
rw[f]
exact qA0 0 i1 i2 ll c)
end
section
variable{X:Cx}
noncomputable def TupI(K:PySem.W.Frag)(H:Hp)(v:V)(k:List Int):Prop:=∃a,v=.ref a∧SqT K H a (k.map V.int)
theorem q41{pins:List (Addr×Obj)}{σ:St}{H:Hp}{s:Shared}(I:Inv X pins σ H s):∀{xs:List V} {us:List Value} {ks:List (List Int)},Vals xs us→Paired (TupI X.K H) xs ks→Paired (IsTI s.heap) us ks
| [],_,_,.nil,.nil=>.nil
|x::xs,u::us,_,.cons r t,.cons ⟨a,e,h⟩ y=>by subst e;obtain rfl:u=Value.ref a:=r;obtain⟨its,rv,p,_⟩:=I.tuple h;exact .cons ⟨a,its,rfl,p,q3Y rv⟩ (q41 I t y)
theorem q4O{xs:List V}{us:List Value}(r:Vals xs us):∀{q:List Nat},(∀i∈q,i<xs.length)→Vals (q.map λi=>xs.getD i .non) (q.map λi=>us.getD i Value.none)
| [],_=>.nil
|i::q,h=>by have hi:=h i (kY ..);have hl:=r.length;refine .cons ?_ (q4O r λj hj=>h j (kB _ hj));obtain⟨x,e,z⟩:=r.atN (j:=i) (by lia);show RelV (xs.getD i .non) (us.getD i Value.none);rw[kI,e,kI,kE (by lia)];exact z
theorem q8R:q1H X (.builtin "sorted") (λxs H Q=>∃(p:Addr) (us:List V) (ks:List (List Int)) (m:Nat),xs=[.ref p]∧SqL X.K H p us∧Paired (TupI X.K H) us ks∧(∀k∈ks,k.length=m)∧0<m∧us.length<64∧∀q:List Nat,q.Perm (List.range us.length)→(q.map λi=>ks.getD i []).Pairwise (λa b=>lx b a=false)→NewO H (.lst (q.map λi=>us.getD i .non)) Q):=by(
intro pins s σ H xs us Q I r hZ
obtain⟨p,xs',ks,m,ex,hq,hk,hw,hm,h64,q⟩:=hZ
subst ex
obtain⟨u,rfl,rx⟩:=q1I r
cases rx
obtain⟨its,rv,pl,hz⟩:=I.list hq
have hlen:=rv.length
have hti:=q41 I rv hk
refine q8Q (κ:=tuples' true) (r:=λi=>rkOf ks (ks.getD i [])) pl.isList (by lia) (λh2 h' k=>qCB (Paired.mapP hti λ_ _ z=>z.at k) hw hm h2) λa gp sr=>?_
have pp:a.toList.Perm (List.range its.length):=by have:=nL.mp gp;simpa using this
obtain⟨e,he⟩:=sortedAll_at s.heap its (q6G its a)
have hin:∀i∈a.toList,i<xs'.length:=λi hi=>by rw[hlen];exact gC.mp (pp.mem_iff.mp hi)
have kl:=hk.len
have pw:(a.toList.map λi=>ks.getD i []).Pairwise (λx y=>lx y x=false):=by
 rw[dG,cS];intro i j hi hj hij;rw[mW,gp.size]at hi hj;have z:rkOf ks (ks.getD (a.getD i 0) [])≤rkOf ks (ks.getD (a.getD j 0) []):=sr i j (by lia) hj;have gi:a.getD i 0=a.toList[i]'(by rw[mW,gp.size];exact hi):=by simp[Array.getD,gp.size,hi]
 have gj:a.getD j 0=a.toList[j]'(by rw[mW,gp.size];exact hj):=by simp[Array.getD,gp.size,hj]
 rw[gi,gj]at z;have mem:∀x,x<ks.length→ks.getD x []∈ks:=λx hx=>by rw[kI,kE hx];exact gH hx
 cases g:lx (ks.getD (a.toList[j]'(by rw[mW,gp.size];exact hj)) []) (ks.getD (a.toList[i]'(by rw[mW,gp.size];exact hi)) [])with
 |false=>rfl
 |true=>have lt:=(qB5 (mem _ (by rw[←kl];exact hin _ (gH _))) (mem _ (by rw[←kl];exact hin _ (gH _)))).mpr g;lia
refine⟨.ref (s.heap.objs.size+1),_,I.laid (t':=s.toks) (λ_ _ h=>sortedAll_old h) (dL _) (show jM X.prog X.w _ _ _ (.lst _)from⟨?_,(q6G its a).toList,e,?_,he⟩),rfl,(q a.toList (by rw[hlen];exact pp) pw).at _ (I.hok.fresh (dL _))⟩
·rw[hG,pp.length_eq,mG,gW];lia
exact q4O rv hin)
end
section
variable{X:Cx}{pins:List (Addr×Obj)}{σ:St}{H:Hp}{s:Shared}
theorem Inv.adopt{D:Addr}{o:HO}(I:Inv X pins σ H s)(f:FpOk X pins H D)(hD:X.s₀.heap.objs.size≤D)(ok:jM X.prog X.w (upd H D o) s.heap D o):Inv X pins σ (upd H D o) s:=by(
have low:∀b ob,X.s₀.heap.get? b=some ob→b≠D:=λb ob e=>mZ (m7 (mE e) hD)
have trk:∀b u,H b=some u→b≠D:=λb u e=>qF e f.1
refine⟨I.ok,I.os,I.bare,⟨I.base.keep,I.base.slot,λb ob e n x=>?_,I.base.there,λb xs e=>?_,λb ob u e=>?_,λb ps e=>?_⟩,I.loc,I.cell,?_,λx c e=>?_,λp hp=>?_,λb u e=>?_,I.len⟩
·rw[qC (low b ob e)];exact I.base.free b ob e n x
·have z:=I.base.tups b xs e;rw[qC (trk _ _ z)];exact z
·have z:=I.base.frzs b ob u e;rw[qC (trk _ _ z)];exact z
·obtain⟨m,z⟩:=I.base.tbls b ps e;exact⟨m,by rw[qC (trk _ _ z)];exact z⟩
·rw[qC (λz=>f.2.1 z.symm)];exact I.free
·rw[qC (f.2.2.2.2.1 x c e)];exact I.freeC x c e
·obtain⟨a1,a2,a3⟩:=I.pin p hp;exact⟨a1,by rw[qC (f.2.2.2.2.2 p hp)];exact a2,a3⟩
by_cases hb:b=D
·subst hb;rw[qI]at e;cases e;exact ok
rw[qC hb]at e
exact(I.hok b u e).stay (λ_ _ _ q=>q) (λc q=>by rw[qC (trk _ _ q)];exact q) λc xs q=>by rw[qC (trk _ _ q)];exact q)
theorem Inv.near(I:Inv X pins σ H s){A':Around}(h1:A'.handled=X.A.handled)(h2:A'.frames=X.A.frames)(xe:Value→Shared→Prop):Inv { X with A:=A',xe:=xe } pins σ H s:=⟨{ mod:=I.ok.mod,kind:=I.ok.kind,glob:=I.ok.glob,blt:=I.ok.blt,above:=I.ok.above,inj:=I.ok.inj,has:=I.ok.has,cab:=I.ok.cab,hd:=λc=>h1.trans (I.ok.hd c),frames:=h2.trans I.ok.frames,stk:=I.ok.stk,exf:=I.ok.exf,bs:=I.ok.bs,bsz:=I.ok.bsz,noex:=I.ok.noex,exfs:=I.ok.exfs,funs:=I.ok.funs,frf:=I.ok.frf },I.os,I.bare,I.base,I.loc,I.cell,I.free,I.freeC,I.pin,I.hok,I.len⟩
theorem qA1{P:PySem.Fin→Shared→Prop}{EE:Value→Shared→Prop}{A:Around}{a kS:Addr}{st:SortSt}{e1 e:Nat}{ks:List Value}{out:List Value}{us:List V}(I:Inv X pins σ H s)(fa:FpOk X pins H a)(fk:FpOk X pins H kS)(ha:X.s₀.heap.objs.size≤a)(ne:kS≠a)
 (ga:s.heap.get? a=some (seqObj "list" #[] e1)) (gk:s.heap.get? kS=some (seqObj "list" ks.toArray e)) (hk:ks.length<64) (hout:(arrOf st).map (·.2)=out.toArray) (ho:out.length<64) (hf:failedOf st=none) (rv:Vals us out)
 (h:∀s',Inv X pins σ (upd H a (.lst us)) s'→P (.done (.ret .none)) s'):wpAny (model X.prog X.w) A (ksk_tail a false e1 (.ref kS) st) P EE s:=by(
unfold ksk_tail
try dsimp only
rw[hout]
refine hV (cF gk rfl ?_ (by rw[mI,gW];lia) (m9 _))
refine hV (wR ?_)
have ga':(s.heap.update kS (Obj.mapSeq λ_=>(#[]:Array Value))).get? a=some (seqObj "list" #[] e1):=(mF _ _ ne).trans ga
refine hV (nQ ga' rfl ?_)
refine hV (cF ga' rfl ?_ (m9 _) (by rw[kJ kX,mI,gW];lia))
rw[hf]
simp only[bne_self_eq_false,pC,if_false]
refine kQ (h _ ?_)
obtain⟨c2,g2⟩:∃c2,((s.heap.update kS (Obj.mapSeq λ_=>(#[]:Array Value))).update a (Obj.mapSeq λ_=>out.toArray)).get? a=some (seqObj "list" out.toArray c2):=⟨_,cC ga' λ_=>out.toArray⟩
have I2:Inv X pins σ H { s with heap:=(s.heap.update kS (Obj.mapSeq λ_=>(#[]:Array Value))).update a (Obj.mapSeq λ_=>out.toArray),toks:=s.toks }:=I.turnedN (fp:=[kS,a]) (λb o hb eb=>by
  simp only[kN,dA,cY,not_or]at hb;exact(mF _ _ (wS hb.2)).trans ((mF _ _ (wS hb.1)).trans eb)) (λb hb=>by
  simp only[kN,dA,cY]at hb;rcases hb with rfl|rfl
  ·exact fk
  exact fa)
exact I2.adopt fa ha (show jM X.prog X.w _ _ _ (.lst us)from⟨by rw[rv.length,gW];lia,out,c2,rv,g2⟩))
theorem qGZ{P:PySem.Fin→Shared→Prop}{EE:Value→Shared→Prop}{A:Around}{a kS:Addr}{e1 e:Nat}{ks vs:List Value}{us zs:List V}{kk:List (List Int)}{m:Nat}(I:Inv X pins σ H s)(fa:FpOk X pins H a)(fk:FpOk X pins H kS)(ha:X.s₀.heap.objs.size≤a)(ne:kS≠a)
 (ga:s.heap.get? a=some (seqObj "list" #[] e1)) (gk:s.heap.get? kS=some (seqObj "list" ks.toArray e)) (rz:Vals zs ks) (rv:Vals us vs) (hl:zs.length=us.length) (h64:us.length<64) (hti:Paired (TupI X.K H) zs kk) (hw:∀k∈kk,k.length=m) (hm:0<m)
 (h:∀q:List Nat,q.Perm (List.range us.length)→(q.map λi=>kk.getD i []).Pairwise (λa b=>lx b a=false)→∀s',Inv X pins σ (upd H a (.lst (q.map λi=>us.getD i .non))) s'→P (.done (.ret .none)) s'):
 wpAny (model X.prog X.w) A (ksk_end a false vs.toArray e1 (.ref kS) ks.toArray) P EE s:=by(
have l1:=rz.length
have l2:=rv.length
have l3:=hti.len
have hlk:ks.length=vs.length:=by lia
unfold ksk_end
try dsimp only
rw[kJ kX]
by_cases h2:vs.toArray.size<2
·rw[kL h2,kL h2];refine hV (kQ ?_);rw[bJ];refine hV (kQ ?_);try dsimp only
 have hn2:vs.length<2:=by rw[mI]at h2;exact h2
 refine qA1 (out:=vs) (us:=us) I fa fk ha ne ga gk (by lia) ?_ (by lia) rfl rv λs' I'=>?_
 ·rw[kJ kX];show(ks.toArray.zip vs.toArray).map (·.2)=vs.toArray;apply lE.mp;rw[lF,Array.toList_zip];show(ks.zip vs).map Prod.snd=vs;exact List.map_snd_zip (by lia)
 have e:(List.range us.length).map (λi=>us.getD i .non)=us:=by refine wL (by simp) λi h1 h3=>?_;rw[pZ,pD,kI,kE h3];rfl
 have z:=h (List.range us.length) (List.Perm.refl _) (by rw[dG,cS];intro i j hi hj hij;rw[mG]at hi hj;lia);rw[e]at z;exact z s' I'
rw[kJ h2,kJ h2]
have h2':2≤ks.length:=by rw[mI]at h2;lia
have K:=qCB (prog:=X.prog) (w:=X.w) (A:=A) (s:=s) (q41 I rz hti) hw hm h2'
refine hV (K.kind _ _ ?_)
rw[kJ kX]
refine hV (dB (kat_run (κ:=tuples' true) (G:=λp s'=>s'=s∧Gp vs.length p∧Srt (λi=>rkOf kk (kk.getD i [])) p vs.length) (Q:=λst' s'=>∃p:Array Nat,arrOf st'=p.map (kas_item (ks.toArray.zip vs.toArray))∧failedOf st'=none∧s'=s∧Gp vs.length p∧Srt (λi=>rkOf kk (kk.getD i [])) p vs.length) hlk (by lia) (by lia) (λp' st' s' _ a2 a3 a4=>⟨p',a2,a3,a4⟩) ?_) ?_ λ_ _ x=>x)
·refine qEW (c:=rc λi=>rkOf kk (kk.getD i [])) (n:=vs.length) (λi j C hi hj c=>K.lt i j C (by lia) (by lia) c) _ (u6 (λp q=>⟨rfl,q⟩) _ (qC9 (by lia)))
rintro⟨⟨⟩,st'⟩ s' ⟨p,har,hf,rfl,gp,sr⟩
try dsimp only
have pp:p.toList.Perm (List.range vs.length):=by have:=nL.mp gp;simpa using this
have hin:∀i∈p.toList,i<us.length:=λi hi=>by rw[l2];exact gC.mp (pp.mem_iff.mp hi)
have pw:(p.toList.map λi=>kk.getD i []).Pairwise (λx y=>lx y x=false):=by
 rw[dG,cS];intro i j hi hj hij;rw[mW,gp.size]at hi hj;have z:rkOf kk (kk.getD (p.getD i 0) [])≤rkOf kk (kk.getD (p.getD j 0) []):=sr i j (by lia) hj;have gi:p.getD i 0=p.toList[i]'(by rw[mW,gp.size];exact hi):=by simp[Array.getD,gp.size,hi]
 have gj:p.getD j 0=p.toList[j]'(by rw[mW,gp.size];exact hj):=by simp[Array.getD,gp.size,hj]
 rw[gi,gj]at z;have mem:∀x,x<kk.length→kk.getD x []∈kk:=λx hx=>by rw[kI,kE hx];exact gH hx
 cases g:lx (kk.getD (p.toList[j]'(by rw[mW,gp.size];exact hj)) []) (kk.getD (p.toList[i]'(by rw[mW,gp.size];exact hi)) [])with
 |false=>rfl
 |true=>have b1:=hin _ (gH (show j<p.toList.length by rw[mW,gp.size];exact hj));have b2:=hin _ (gH (show i<p.toList.length by rw[mW,gp.size];exact hi));have lt:=(qB5 (mem _ (by lia)) (mem _ (by lia))).mpr g;lia
exact qA1 (out:=p.toList.map λi=>vs.getD i Value.none) (us:=p.toList.map λi=>us.getD i .non) I fa fk ha ne ga gk (by lia) (kat_snds hlk har) (by rw[hG,pp.length_eq,mG];lia) hf (q4O rv hin) λs' I'=>h p.toList (by rw[l2];exact pp) pw s' I')
end
theorem qA2:∀a b:List Int,HT.lexLt a b=lx a b
| [],[]=>rfl
| [],_::_=>rfl
|_::_,[]=>rfl
|x::xs,y::ys=>by show(if x=y then HT.lexLt xs ys else decide (x<y))=(if x=y then lx xs ys else decide (x<y));rw[qA2 xs ys]
end L2
namespace L2
open PySem PySem.Spec PyProof.Rows
theorem qH0{X:Cx}{K:PySem.W.Frag}{es:List Expr}{k:Nat}{t:TGs}{n:Nat}{pos:Pos}(e:X.K=K)(hc:X.calm=true)(h:PGs X es t)(hn:(assignEach es X.env).length=n)(hst:(assignEach es X.env).findIdx? (·.1)=none):PG X (.Tuple es k pos) (gTup K n t):=by subst e;exact q5V hc h hn hst
noncomputable def q55(v a:Addr):HO:=.ext λh=>h.IsItemsView v a
theorem qEZ{P:Program}{w:World}{H:Hp}{h:Heap}{v a:Addr}(e:h.IsItemsView v a):jM P w H h v (q55 v a):=by obtain⟨o,e1,e2,e3⟩:=id e;exact⟨e,⟨_,e1⟩,λ_ _ ⟨o,a1,a2⟩ k=>⟨o,k _ a1,a2⟩⟩
theorem qF0{P:Program}{w:World}{H:Hp}{h:Heap}{v a:Addr}(ok:HOk P w H h)(e:H v=some (q55 v a)):h.IsItemsView v a:=(ok v _ e).1
noncomputable def qK3:V→List V→Hp→VK→Prop:=λx vs H Q=>∃a kvs,x=.ref a∧vs=[]∧H a=some (.dK kvs)∧∀v,H v=none→Q (.ref v) (upd H v (q55 v a))
theorem qF1{X:Cx}:MtR X "dict.items" qK3:=by(
intro pins s σ H x vs v us Q I rx rv hZ
obtain⟨a,kvs,ex,ev,ha,q⟩:=hZ
subst ex ev
cases rx
have hus:=rv.zero
subst hus
obtain⟨z,lo,ws,rel,dd⟩:=q54 I.hok ha
refine pN lI dd.typeIs PySem.F.entry_dict_items (PySem.F.args_dict_items_1 _) (meets_dict_items (jQ X.prog X.w) a lo) ⟨⟨ws,dd⟩,?_⟩
exact⟨.ref s.heap.objs.size,_,I.laid (t':=s.toks) (λb o e=>kF _ e) (kO _) (qEZ ⟨_,mR _ rfl,rfl,rfl⟩),rfl,q _ (I.hok.fresh (kO _))⟩)
theorem q6H:entryFor table "dict_itemiterator.__iter__"=some Builtin.«dict_keyiterator.__iter__»:=entryFor_alias (id':="dict_keyiterator.__iter__") (by kernel_rfl) (by first|decide+kernel|rfl|(unfold String.splitOn;simp+decide [String.splitOnAux])) (by decide+kernel) (by kernel_rfl)
noncomputable def Iti(a:Addr)(o:Obj)(kvs:List (Key×V)):It:=⟨λi H=>H a=some (.frz o (.dK kvs))∧i<kvs.length,λi H v H'=>∃T kv,v=.ref T∧H T=none∧H'=upd H T (.tup [kV kv.1,kv.2])∧kvs[i]?=some kv,λi H=>H a=some (.frz o (.dK kvs))∧kvs.length≤i⟩
theorem qB6{P:Program}{w:World}{K:PySem.W.Frag}{elts:List Expr}{x1}{pos:Pos}(a it:Addr)(o:Obj){kvs:List (Key×V)}{vs:List (Key×Value)}{ep:Nat}(rel:KV kvs vs)(hD:∀h:Heap,h.get? a=some o→h.DictAt (jQ P w) a vs ep):
 Turn P w K (.Tuple elts x1 pos) (Iti a o kvs) [it] it (λi h=>∃k0 v0,IsItemIter h it a i vs.length ep k0 v0) where
mem:=by simp
obj:=λi h st b hb=>by
 have e:b=it:=by simpa using hb
 subst e;obtain⟨k0,v0,e⟩:=st;exact⟨_,e,λv z=>by cases z⟩
keep:=λi h h' st k=>let⟨k0,v0,e⟩:=st;⟨k0,v0,k it (by simp) _ e⟩
item:=by
 intro X hP hw hK hc i pins s σ H E I hf st hg;subst hP hw hK;obtain⟨ha,hi⟩:=hg;obtain⟨ho,_⟩:=I.hok a _ ha;have hl:=rel.length;have hi':i<vs.length:=by lia
 obtain⟨k0,v0,st⟩:=st;obtain⟨f0,f1,f2,f3,f4,f5⟩:=hf it (by simp);refine wpAny_pyNext_items_item (k:=vs[i].1) (v:=vs[i].2) st (hD _ ho) (kE hi') λkey h' hk b1 b5 b6 b7=>?_;refine⟨_,rfl,wpAny_letOwnedTupleGo_items (s:={ s with heap:=h' }) b1 λh'' c1 c2=>?_⟩;have kk:∀b o,b∉[it]→s.heap.get? b=some o→h''.get? b=some o:=λb o hb e=>by have nb:b≠it:=λz=>hb (kD.mpr z);exact c2.extBut _ _ nb (b7 b o nb e)
 have I1:Inv X pins σ H { s with heap:=h'' }:=I.turnedN (t':=s.toks) kk hf;have fr:H s.heap.objs.size=none:=I.hok.fresh (kO _);have yg:=I.young (a:=s.heap.objs.size) (p7 (kO _));have nit:s.heap.objs.size≠it:=rL (mE st);have ek:=dO (λl=>l[i]?) rel.keys;simp only[mD,kE hi,kE hi',bH]at ek;have rk:RelV (kV kvs[i].1) key:=by rw[kZ ek];exact qIG hk
 have rv:RelV kvs[i].2 vs[i].2:=by obtain⟨q,hq,z1,z2⟩:=Paired.at rel (kE hi);rw[kE hi']at hq;rw[kZ hq];exact z2
 have I2:=I1.trackG (o:=.tup [kV kvs[i].1,kvs[i].2]) fr yg (rL I.lt) (λx' c' w q'=>by obtain⟨v,o',ho,_⟩:=I.cell x' c' w;exact absurd (mE ho) (by rw[q'];exact d7 _)) ⟨by rw[gW,mY,mY,rW];lia,[key,vs[i].2],.cons rk (.cons rv .nil),⟨_,c2.extBut _ _ nit b5,rfl,_,rfl⟩⟩;refine⟨.ref s.heap.objs.size,_,I2,rfl,⟨_,kvs[i],rfl,fr,rfl,kE hi⟩,⟨_,_,c1⟩,λb hb=>?_⟩;have e:b=it:=by simpa using hb
 subst e;rw[qC (wS nit)];exact(hf b hb).1
done:=by intro X hP hw hK hc i pins s σ H E I hf st hg;subst hP hw hK;obtain⟨ha,hi⟩:=hg;obtain⟨ho,_⟩:=I.hok a _ ha;have hl:=rel.length;obtain⟨k0,v0,st⟩:=st;obtain⟨f0,f1,f2,f3,f4,f5⟩:=hf it (by simp);exact wpAny_pyNext_items_end (I.ok.hd hc) st (hD _ ho) (dH (by lia)) λh' eb=>⟨rfl,I.turned (t':=s.toks) (λb o hb e=>eb b o hb e) f0 f1 f3 f4 f5⟩
self:=λA i s Q E ⟨k0,v0,st⟩ h=>by have ty:s.TypeIs (.ref it) "dict_itemiterator":=⟨_,st,rfl⟩;refine aQ ty c5 (pV c5 ty q6H ?_ (PySem.F.args_dict_itemiterator_iter_1 _));show wpAny _ _ (ret (.ref it)) _ _ s;exact kQ ⟨_,rfl,"dict_itemiterator",_,ty,PySem.F.slot_dict_itemiterator_next.lookup,h⟩
section
variable{X:Cx}
noncomputable def iItm(td:TE):TI:=λσ H R=>td σ H λx H1=>∃v a kvs,x=.ref v∧H1 v=some (q55 v a)∧H1 a=some (.dK kvs)∧∀o,R (Iti a o kvs) (upd H1 a (.frz o (.dK kvs)))
theorem qK4{elts:List Expr}{x1}{pos:Pos}{d:Expr}{td:TE}(hd:PE X d td):PI X (.Tuple elts x1 pos) d (iItm td):=by(
intro pins s σ H R I h
refine thn (hd pins s σ H _ I h) λv s1 hZ=>?_
obtain⟨x,H1,I1,r1,q1⟩:=hZ
obtain⟨vw,a,kvs,e,hv,ha,q⟩:=q1
subst e
cases r1
obtain⟨z,lo,vs,rel,dd⟩:=q54 I1.hok ha
obtain⟨ep,hat⟩:=dd.dictAt
obtain⟨o,es,ho,hr⟩:=id hat
have I2:=I1.freeze ha ho
refine wpAny_pyIter_items (qF0 I1.hok hv) hat ?_
refine⟨s1.heap.objs.size,[s1.heap.objs.size],_,_,_,rfl,I2.kept (t':=s1.toks) λb o e=>kF _ e,qB6 a _ o rel (λh' h=>⟨o,es,h,hr⟩),⟨_,_,mR _ rfl⟩,λb hb=>?_,q o⟩
have e:b=s1.heap.objs.size:=by simpa using hb
subst e
exact I2.fpOk (kO _) (I2.hok.fresh (kO _)))
end
theorem qH1{a:Addr}{o:Obj}{kvs:List (Key×V)}{D:Addr}{H2:Hp}{g:TG}{tc:TT}{te:TE}{σ0:St}{R:Hp→Prop}(Pv:Nat→Hp→Prop)(h0:Pv 0 H2)(hl:∀i H,Pv i H→H a=some (.frz o (.dK kvs)))
 (hs:∀(i:Nat) kv T H,kvs[i]?=some kv→Pv i H→H T=none→g (.ref T) σ0 (upd H T (.tup [kV kv.1,kv.2])) λσ5 H5=>tc σ5 H5 λb H6=>if b=true then te σ5 H6 (λv H7=>∃vs,H7 D=some (.lst vs)∧vs.length<sizeLine∧Pv (i+1) (upd H7 D (.lst (vs++[v]))))else Pv (i+1) H6) (hd:∀H,Pv kvs.length H→R H):
 ∃W:Nat→Nat→Hp→Prop,(∃m,W 0 m H2)∧∀i m H3,W i m H3→((Iti a o kvs).stop i H3∧R H3)∨((Iti a o kvs).go i H3∧∃N:Hp→Prop,(∀H',N H'→∃m',m'<m∧W (i+1) m' H')∧∀x H4,(Iti a o kvs).yld i H3 x H4→g x σ0 H4 λσ5 H5=>tc σ5 H5 λb H6=>
   if b=true then te σ5 H6 (λv H7=>∃vs,H7 D=some (.lst vs)∧vs.length<sizeLine∧N (upd H7 D (.lst (vs++[v]))))else N H6):=by(
refine⟨λi m H=>m=kvs.length-i∧i≤kvs.length∧Pv i H,⟨kvs.length,by simp,m9 _,h0⟩,?_⟩
rintro i m H ⟨rfl,hi,p⟩
have q:=hl i H p
by_cases hlt:i<kvs.length
·refine .inr ⟨⟨q,hlt⟩,Pv (i+1),λH' z=>⟨kvs.length-(i+1),by lia,rfl,by lia,z⟩,?_⟩;rintro v H' ⟨T,kv,rfl,nT,rfl,hk⟩
 exact hs i kv T _ hk p nT
obtain rfl:i=kvs.length:=by lia
exact .inl ⟨⟨q,kO _⟩,hd _ p⟩)
end L2
namespace L2
open PySem PySem.W PySem.Spec PyProof.Rows
section
variable{X:Cx}{pins:List (Addr×Obj)}{σ:St}
noncomputable def TupD(H:Hp)(v:V)(k:List Int):Prop:=∃a,v=.ref a∧H a=some (.tup (k.map V.int))
theorem TupD.i{K:PySem.W.Frag}{H:Hp}{v:V}{k:List Int}(h:TupD H v k):TupI K H v k:=let⟨a,e,z⟩:=h;⟨a,e,SqT.of z⟩
theorem TupD.same{H H':Hp}{v:V}{k:List Int}(h:TupD H v k)(s:Same H H'):TupD H' v k:=let⟨a,e,z⟩:=h;⟨a,e,s _ _ z⟩
theorem TupD.upd{H:Hp}{v:V}{k:List Int}{D:Addr}{u o:HO}(h:TupD H v k)(hd:H D=some u)(n:∀ys,u≠ .tup ys):TupD (L2.upd H D o) v k:=let⟨a,e,z⟩:=h;⟨a,e,by rw[qC (jZ z hd (λq=>n _ q.symm))];exact z⟩
noncomputable def dI(ks:List (Int×Int)):List (Key×V):=ks.map λp=>((.inl p.1:Key),V.int p.2)
theorem q42:∀{ks:List (Int×Int)} {n m:Int},(ks.map (·.1)).Nodup→(n,m)∈ks→valV (dI ks) (.inl n:Key)=some (.int m)
|p::ks,n,m,nd,h=>by
 obtain⟨n1,n2⟩:=gD.mp nd;show valV (((.inl p.1:Key),V.int p.2)::dI ks) (.inl n)=_;rcases kN.mp h with rfl|h
 ·exact q1Q rfl
 have ne:p.1≠n:=λe=>n1 (by show p.1∈_;rw[e];exact sR (f:=λx:Int×Int=>x.1) h);rw[zJ (λe=>ne (wQ e))];exact q42 n2 h
theorem q10:∀{ks:List (Int×Int)} {n:Int},n∉ks.map (·.1)→valV (dI ks) (.inl n:Key)=none
| [],n,_=>rfl
|p::ks,n,h=>by
 show valV (((.inl p.1:Key),V.int p.2)::dI ks) (.inl n)=_;have h':n≠p.1∧n∉ks.map (·.1):=by simpa using h
 rw[zJ (λe=>h'.1 (wQ e).symm)];exact q10 h'.2
end
end L2
namespace L2
open PySem PySem.Spec PyProof.Rows
noncomputable def q88(v a:Addr):HO:=.ext λh=>h.IsValuesView v a
theorem qF2{P:Program}{w:World}{H:Hp}{h:Heap}{v a:Addr}(e:h.IsValuesView v a):jM P w H h v (q88 v a):=by obtain⟨o,e1,e2,e3⟩:=id e;exact⟨e,⟨_,e1⟩,λ_ _ ⟨o,a1,a2⟩ k=>⟨o,k _ a1,a2⟩⟩
noncomputable def qLF:V→List V→Hp→VK→Prop:=λx vs H Q=>∃a kvs,x=.ref a∧vs=[]∧H a=some (.dK kvs)∧∀v,H v=none→Q (.ref v) (upd H v (q88 v a))
theorem qDC{X:Cx}:MtR X "dict.values" qLF:=by(
intro pins s σ H x vs v us Q I rx rv hZ
obtain⟨a,kvs,ex,ev,ha,q⟩:=hZ
subst ex ev
cases rx
have hus:=rv.zero
subst hus
obtain⟨z,lo,ws,rel,dd⟩:=q54 I.hok ha
refine pN nV dd.typeIs PySem.F.entry_dict_values (PySem.F.args_dict_values_1 _) (meets_dict_values (jQ X.prog X.w) a lo) ⟨⟨ws,dd⟩,?_⟩
exact⟨.ref s.heap.objs.size,_,I.laid (t':=s.toks) (λb o e=>kF _ e) (kO _) (qF2 ⟨_,mR _ rfl,rfl,rfl⟩),rfl,q _ (I.hok.fresh (kO _))⟩)
theorem q6I:entryFor table "dict_valueiterator.__iter__"=some Builtin.«dict_keyiterator.__iter__»:=entryFor_alias (id':="dict_keyiterator.__iter__") (by kernel_rfl) (by first|decide+kernel|rfl|(unfold String.splitOn;simp+decide [String.splitOnAux])) (by decide+kernel) (by kernel_rfl)
noncomputable def Itv(a:Addr)(o:Obj)(kvs:List (Key×V)):It:=⟨λi H=>H a=some (.frz o (.dK kvs))∧i<kvs.length,λi H v H'=>H'=H∧∃kv,kvs[i]?=some kv∧v=kv.2,λi H=>H a=some (.frz o (.dK kvs))∧kvs.length≤i⟩
theorem qDD{P:Program}{w:World}{K:PySem.W.Frag}{tg:Expr}(a it:Addr)(o:Obj){kvs:List (Key×V)}{vs:List (Key×Value)}{ep:Nat}(rel:KV kvs vs)(hD:∀h:Heap,h.get? a=some o→h.DictAt (jQ P w) a vs ep):
 Turn P w K tg (Itv a o kvs) [it] it (λi h=>h.IsValIter it a i vs.length ep) where
mem:=by simp
obj:=λi h st b hb=>by
 have e:b=it:=by simpa using hb
 subst e;obtain⟨o',e,c,d⟩:=st;exact⟨o',e,λv z=>by rw[d]at z;cases z⟩
keep:=λi h h' ⟨o',e,r⟩ k=>⟨o',k it (by simp) o' e,r⟩
item:=by
 intro X hP hw hK hc i pins s σ H E I hf st hg;subst hP hw hK;obtain⟨ha,hi⟩:=hg;obtain⟨ho,_⟩:=I.hok a _ ha;have hl:=rel.length;have hi':i<vs.length:=by lia
 obtain⟨f0,f1,f2,f3,f4,f5⟩:=hf it (by simp);refine wpAny_pyNext_values_item (k:=vs[i].1) (v:=vs[i].2) st (hD _ ho) (kE hi') λh' st' sb=>?_;have I1:Inv X pins σ H { s with heap:=h' }:=I.turned (t':=s.toks) (λb o hb e=>(sb.2 b hb).trans e) f0 f1 f3 f4 f5;obtain⟨o',e',c',d'⟩:=id st';refine⟨vs[i].2,rfl,qBP (s:={ s with heap:=h' }) e' c' d' (by decide) ⟨kvs[i].2,H,I1,?_,⟨rfl,kvs[i],kE hi,rfl⟩,st',λb hb=>(hf b hb).1⟩⟩;obtain⟨q,hq,z1,z2⟩:=Paired.at rel (kE hi);rw[kE hi']at hq;rw[kZ hq];exact z2
done:=by intro X hP hw hK hc i pins s σ H E I hf st hg;subst hP hw hK;obtain⟨ha,hi⟩:=hg;obtain⟨ho,_⟩:=I.hok a _ ha;have hl:=rel.length;obtain⟨f0,f1,f2,f3,f4,f5⟩:=hf it (by simp);exact wpAny_pyNext_values_end (I.ok.hd hc) st (hD _ ho) (dH (by lia)) λh' eb=>⟨rfl,I.turned (t':=s.toks) (λb o hb e=>eb b o hb e) f0 f1 f3 f4 f5⟩
self:=λA i s Q E ⟨o',e',c',d'⟩ h=>by have ty:s.TypeIs (.ref it) "dict_valueiterator":=⟨_,e',c'⟩;refine aQ ty cV (pV cV ty q6I ?_ (PySem.F.args_dict_valueiterator_iter_1 _));show wpAny _ _ (ret (.ref it)) _ _ s;exact kQ ⟨_,rfl,"dict_valueiterator",_,ty,PySem.F.slot_dict_valueiterator_next.lookup,h⟩
section
variable{X:Cx}{tg:Expr}
noncomputable def iVal(td:TE):TI:=λσ H R=>td σ H λx H1=>∃v a kvs,x=.ref v∧H1 v=some (q88 v a)∧H1 a=some (.dK kvs)∧∀o,R (Itv a o kvs) (upd H1 a (.frz o (.dK kvs)))
theorem qK5{d:Expr}{td:TE}(hd:PE X d td):PI X tg d (iVal td):=by(
intro pins s σ H R I h
refine thn (hd pins s σ H _ I h) λv s1 hZ=>?_
obtain⟨x,H1,I1,r1,q1⟩:=hZ
obtain⟨vw,a,kvs,e,hv,ha,q⟩:=q1
subst e
cases r1
obtain⟨z,lo,vs,rel,dd⟩:=q54 I1.hok ha
obtain⟨ep,hat⟩:=dd.dictAt
obtain⟨o,es,ho,hr⟩:=id hat
have I2:=I1.freeze ha ho
refine wpAny_pyIter_values (I1.hok vw _ hv).1 hat ?_
refine⟨s1.heap.objs.size,[s1.heap.objs.size],_,_,_,rfl,I2.kept (t':=s1.toks) λb o e=>kF _ e,qDD a _ o rel (λh' h=>⟨o,es,h,hr⟩),⟨_,mR _ rfl,rfl,rfl⟩,λb hb=>?_,q o⟩
have e:b=s1.heap.objs.size:=by simpa using hb
subst e
exact I2.fpOk (kO _) (I2.hok.fresh (kO _)))
end
end L2
namespace W1
theorem jJ{α:Type}(l:List α)(i j:Nat)(x d:α):(l.set i x).getD j d=if i=j∧i<l.length then x else l.getD j d:=by(
rw[kI,List.getElem?_set,kI]
by_cases h:i=j
·subst h;rw[kL rfl];by_cases h2:i<l.length
 ·rw[kL h2,kL ⟨rfl,h2⟩];rfl
 rw[kJ h2,kJ (λz=>h2 z.2),dH (by lia)]
rw[kJ h,kJ (λz=>h z.1)])
theorem yQ{P b j:Nat}(h:j<P):(b*P+j) / P=b:=by rw[cR,Nat.mul_add_div (by lia),Nat.div_eq_of_lt h,pP]
theorem qF3{B P b j:Nat}(hb:b<B)(hj:j<P):b*P+j<B*P:=by have:=gR P (show b+1≤B from hb);rw[rZ]at this;lia
theorem q2Q{α:Type}[DecidableEq α]:∀{l m:List α},l.Nodup→m.Nodup→(∀x,x∈l↔x∈m)→l.Perm m
| [],m,_,_,h=>by
 cases m with
 |nil=>exact .nil
 |cons a m=>exact absurd ((h a).mpr kY) (by simp)
|a::l,m,h1,h2,h=>by
 have ha:=(h a).mp kY;obtain⟨n1,n2⟩:=gD.mp h1;refine List.Perm.trans (List.Perm.cons a (q2Q n2 (h2.erase a) λx=>?_)) (List.perm_cons_erase ha).symm;rw[List.Nodup.mem_erase_iff h2];constructor
 ·intro hx;exact⟨λe=>n1 (e▸hx),(h x).mp (kB _ hx)⟩
 rintro⟨ne,hx⟩
 exact(kN.mp ((h x).mpr hx)).resolve_left ne
theorem qII{α:Type}[DecidableEq α]:∀{l m:List α},l.Nodup→(∀x∈l,x∈m)→l.length≤m.length
| [],_,_,_=>m9 _
|a::l,m,h1,h=>by obtain⟨n1,n2⟩:=gD.mp h1;have ha:=h a kY;have:=qII (m:=m.erase a) n2 λx hx=>(xM (show x≠a from λe=>n1 (e▸hx))).mpr (h x (kB _ hx));rw[nY ha]at this;have h0:=wV ha;rw[mY];lia
noncomputable abbrev Mp:=List (Int×Int)
noncomputable def jN(W:Mp)(n:Int):Mp:=W.filter λq=>decide (q.1≠n)
noncomputable def putW(W:Mp)(n p:Int):Mp:=if(W.any λq=>decide (q.1=n))=true then W.map (λq=>if q.1=n then(q.1,p)else q)else W++[(n,p)]
theorem j9{W:Mp}{n:Int}{q:Int×Int}:q∈jN W n↔q∈W∧q.1≠n:=by unfold jN;rw[mV,mJ]
theorem qIJ{W:Mp}(h:(W.map (·.1)).Nodup):W.Nodup:=(dG.mp h).imp λz e=>z (dO Prod.fst e)
theorem qK6{W:Mp}(h:(W.map (·.1)).Nodup){q r:Int×Int}(hq:q∈W)(hr:r∈W)(e:q.1=r.1):q=r:=by(
induction W with
|nil=>cases hq
|cons a W ih=>
 obtain⟨n1,n2⟩:=gD.mp h;rcases kN.mp hq with e1|h1
 ·rcases kN.mp hr with e2|h2
  ·rw[e1,e2]
  exact absurd (by show a.1∈_;rw[←e1,e];exact sR (f:=λx:Int×Int=>x.1) h2) n1
 rcases kN.mp hr with e2|h2
 ·exact absurd (by show a.1∈_;rw[←e2,←e];exact sR (f:=λx:Int×Int=>x.1) h1) n1
 exact ih n2 h1 h2)
theorem q6J{W:Mp}{n:Int}(h:(W.map (·.1)).Nodup):((jN W n).map (·.1)).Nodup:=(h.sublist ((cW ..).map _))
theorem q0M{W:Mp}{n p:Int}(h:(W.map (·.1)).Nodup){q:Int×Int}:q∈putW W n p↔q=(n,p)∨q∈jN W n:=by(
unfold putW
by_cases e:(W.any λq=>decide (q.1=n))=true
·rw[kL e,kP];obtain⟨r,hr,er⟩:=wM.mp e;have er:r.1=n:=mP er;constructor
 ·rintro⟨x,hx,rfl⟩
  by_cases ex:x.1=n
  ·rw[kL ex];exact .inl (by rw[ex])
  rw[kJ ex];exact .inr (j9.mpr ⟨hx,ex⟩)
 rintro(rfl|h2)
 ·exact⟨r,hr,by rw[kL er,er]⟩
 obtain⟨a,b⟩:=j9.mp h2;exact⟨q,a,kJ b⟩
rw[kJ e,gN,kD]
have no:∀x∈W,x.1≠n:=λx hx z=>e (wM.mpr ⟨x,hx,hC z⟩)
constructor
·rintro(h1|h1)
 ·exact .inr (j9.mpr ⟨h1,no _ h1⟩)
 exact .inl h1
rintro(h1|h1)
·exact .inr h1
exact .inl (j9.mp h1).1)
theorem qDE{W:Mp}{n p:Int}(h:(W.map (·.1)).Nodup):((putW W n p).map (·.1)).Nodup:=by(
unfold putW
by_cases e:(W.any λq=>decide (q.1=n))=true
·rw[kL e,pQ];have:(λx:Int×Int=>x.1) ∘ (λq:Int×Int=>if q.1=n then(q.1,p)else q)=λx=>x.1:=by funext x;show(if x.1=n then(x.1,p)else x).1=x.1;split<;>rfl
 rw[this];exact h
rw[kJ e,mM]
refine r6.mpr ⟨h,by simp,λa ha b hb z=>e ?_⟩
obtain⟨x,hx,rfl⟩:=kP.mp ha
have hb:b=n:=by simpa using hb
exact wM.mpr ⟨x,hx,hC (by rw[z,hb])⟩)
noncomputable def cntB(P:Nat)(W:Mp)(b:Nat):Nat:=W.countP λq=>decide (q.2 / (P:Int)=(b:Int))
theorem qF4{P:Nat}{W:Mp}{n p:Int}{b:Nat}(nd:(W.map (·.1)).Nodup)(h:(n,p)∈W):cntB P W b=cntB P (jN W n) b+if p / (P:Int)=(b:Int)then 1 else 0:=by(
have pm:W.Perm ((n,p)::jN W n):=q2Q (qIJ nd) (gD.mpr ⟨λz=>(j9.mp z).2 rfl,qIJ (q6J nd)⟩) λx=>by
 rw[kN,j9];constructor
 ·intro hx;by_cases e:x.1=n
  ·exact .inl (qK6 nd hx h e)
  exact .inr ⟨hx,e⟩
 rintro(rfl|hx)
 ·exact h
 exact hx.1
unfold cntB
rw[pm.countP_eq,pX]
by_cases e:p / (P:Int)=(b:Int)
·rw[kL e,kL (hC e)]
rw[kJ e,kJ (by rw[mJ];exact e)])
theorem qH2{W:Mp}{n:Int}(h:∀q∈W,q.1≠n):jN W n=W:=rJ.mpr λq hq=>hC (h q hq)
structure BM where
P:Nat
B:Nat
ns:List Int
W:Mp
V:Mp
nx:Int
bs:List (Option Int)
ss:List Int
lv:List Int
fi:List Int
bo:List Int
namespace BM
variable{m:BM}
noncomputable def lvF(P:Nat)(V:Mp)(lv:List Int)(n:Int):List Int:=match V.find? λq=>decide (q.1=n)with
|some q=>lv.set (q.2 / (P:Int)).toNat (lv.getD (q.2 / (P:Int)).toNat 0-1)
|none=>lv
end BM
end W1
namespace L2
open PySem PySem.Spec PyProof.Rows
noncomputable def qLG(K:PySem.W.Frag):R2:=λx y H Q=>∃p xs e,x=.ref p∧y=.ref e∧SqL K H p xs∧SqL K H e []∧Q (.bl (decide (xs≠[]))) H
theorem qB7{X:Cx}(hu:X.A.units+64<cLine):OpR X (compareOp .NotEq) (qLG X.K):=by(
intro pins s σ H x y v u Q I rx ry hZ
obtain⟨p,xs,e,ex,ey,hp,he,q⟩:=hZ
subst ex ey
cases rx
cases ry
obtain⟨i1,r1,p1,_⟩:=I.list hp
obtain⟨i2,r2,p2,_⟩:=I.list he
have l1:=r1.length
have l2:=r2.length
cases xs with
|nil=>exact aB (e:=λ_=>true) p1.isList p2.isList (by simp at l1 l2 ⊢;lia) (by lia) (λj h1 h2=>by simp at l1 h1;lia) _ _ _ _ ⟨.bl false,H,I,by rw[vO];rfl,q⟩
|cons z zs=>exact SeqAt.RcNeAt.lists_lengths p1.isList p2.isList (by simp at l1 l2 ⊢;lia) (by lia) _ _ _ _ ⟨.bl true,H,I,rfl,q⟩)
theorem q3A{n j:Nat}(h:j<n):ixN n (j:Int)=some j:=by(
unfold ixN
have a:(0:Int)≤j:=by lia
have b:(j:Int)<n:=by lia
simp[a,b,h])
theorem qA3{V:List (Int×Int)}{n:Int}:q52 (dI V) (Sum.inl n:Key)=dI (W1.jN V n):=by(
unfold q52 dI W1.jN
rw[c6]
congr 1
apply cJ
intro q _
show decide ((Sum.inl q.1:Key)≠Sum.inl n)=decide (q.1≠n)
by_cases e:q.1=n<;>simp[e])
theorem q8S{W:List (Int×Int)}{n p:Int}:putK (dI W) (Sum.inl n:Key) (.int p)=dI (W1.putW W n p):=by(
unfold putK dI W1.putW
have e:((W.map λp=>((Sum.inl p.1:Key),V.int p.2)).any λkv=>decide (kv.1=Sum.inl n))=W.any λq=>decide (q.1=n):=by
 rw[List.any_map];congr 1;funext q;show decide ((Sum.inl q.1:Key)=Sum.inl n)=decide (q.1=n);by_cases e:q.1=n
 ·rw[e];simp
 rw[hU e,hU (λz=>e (wQ z))]
rw[e]
by_cases h:(W.any λq=>decide (q.1=n))=true
·rw[kL h,kL h,pQ,pQ];apply dW;intro q _;show(if(Sum.inl q.1:Key)=Sum.inl n then((Sum.inl q.1:Key),V.int p)else((Sum.inl q.1:Key),V.int q.2))=_;by_cases e:q.1=n
 ·rw[kL (by rw[e])];show _=(λp:Int×Int=>((Sum.inl p.1:Key),V.int p.2)) (if q.1=n then(q.1,p)else q);rw[kL e]
 rw[kJ (λz=>e (wQ z))];show _=(λp:Int×Int=>((Sum.inl p.1:Key),V.int p.2)) (if q.1=n then(q.1,p)else q);rw[kJ e]
rw[kJ h,kJ h,mM]
rfl)
theorem qDF{V:List (Int×Int)}{n p:Int}:W1.putW (W1.jN V n) n p=W1.jN V n++[(n,p)]:=by(
unfold W1.putW
rw[kJ]
intro h
obtain⟨q,hq,e⟩:=wM.mp h
exact(W1.j9.mp hq).2 (mP e))
theorem setV{ns:List Int}{c:Nat}{x:Int}:(ns.map V.int).set c (.int x)=(ns.set c x).map V.int:=by rw[aR]
theorem atV{ns:List Int}{c:Nat}(h:c<ns.length):atI (ns.map V.int) (c:Int)=some (.int (ns.getD c 0)):=by refine yK ?_;rw[mD,kE h,kI,kE h];rfl
theorem qF5:∀{A B:List (List Int)},A.Perm B→A.Pairwise (λa b=>lx b a=false)→B.Pairwise (λa b=>lx b a=false)→A=B
| [],B,p,_,_=>(xW.mp p).symm▸rfl
|a::A,[],p,_,_=>absurd p.length_eq (by simp)
|a::A,b::B,p,h1,h2=>by
 have e:a=b:=by
  by_cases e:a=b
  ·exact e
  have hb:b∈A:=(kN.mp (p.mem_iff.mpr kY)).resolve_left (λz=>e z.symm);have ha:a∈B:=(kN.mp (p.mem_iff.mp kY)).resolve_left e;exact q4N a b ((g7.mp h2).1 a ha) ((g7.mp h1).1 b hb)
 subst e;rw[qF5 ((bT a).mp p) (g7.mp h1).2 (g7.mp h2).2]
theorem qCC:∀{A B:List Int},A.Perm B→A.Pairwise (·≤·)→B.Pairwise (·≤·)→A=B
| [],B,p,_,_=>(xW.mp p).symm▸rfl
|a::A,[],p,_,_=>absurd p.length_eq (by simp)
|a::A,b::B,p,h1,h2=>by
 have e:a=b:=by
  by_cases e:a=b
  ·exact e
  have hb:b∈A:=(kN.mp (p.mem_iff.mpr kY)).resolve_left (λz=>e z.symm);have ha:a∈B:=(kN.mp (p.mem_iff.mp kY)).resolve_left e;have:=(g7.mp h2).1 a ha;have:=(g7.mp h1).1 b hb;lia
 subst e;rw[qCC ((bT a).mp p) (g7.mp h1).2 (g7.mp h2).2]
theorem qF6{a:Addr}{o:Obj}{kvs:List (Key×V)}{D:Addr}{H2:Hp}{g:TG}{tc:TT}{te:TE}{σ0:St}{R:Hp→Prop}(Pv:Nat→Hp→Prop)(h0:Pv 0 H2)(hl:∀i H,Pv i H→H a=some (.frz o (.dK kvs)))
 (hs:∀(i:Nat) kv H,kvs[i]?=some kv→Pv i H→g (kV kv.1) σ0 H λσ5 H5=>tc σ5 H5 λb H6=>if b=true then te σ5 H6 (λv H7=>∃vs,H7 D=some (.lst vs)∧vs.length<sizeLine∧Pv (i+1) (upd H7 D (.lst (vs++[v]))))else Pv (i+1) H6) (hd:∀H,Pv kvs.length H→R H):
 ∃W:Nat→Nat→Hp→Prop,(∃m,W 0 m H2)∧∀i m H3,W i m H3→((Itd a o kvs).stop i H3∧R H3)∨((Itd a o kvs).go i H3∧∃N:Hp→Prop,(∀H',N H'→∃m',m'<m∧W (i+1) m' H')∧∀x H4,(Itd a o kvs).yld i H3 x H4→g x σ0 H4 λσ5 H5=>tc σ5 H5 λb H6=>if b=true then te σ5 H6 (λv H7=>∃vs,H7 D=some (.lst vs)∧vs.length<sizeLine∧N (upd H7 D (.lst (vs++[v]))))else N H6):=qGW (Q:=λ_ H=>R H) Pv h0 hl hs hd
theorem qB8{ks:List (List Int)}{q:List Nat}{n:Nat}(hn:ks.length=n)(p:q.Perm (List.range n)):(q.map λi=>ks.getD i []).Perm ks:=by(
refine(p.map λi=>ks.getD i []).trans ?_
have e:(List.range n).map (λi=>ks.getD i [])=ks:=by
 apply wL
 ·rw[hG,mG,hn]
 intro i h1 h2;rw[pZ,pD,kI,kE h2];rfl
rw[e])
theorem qB9{F:V→List Int→Prop}{us:List V}{ks:List (List Int)}{q:List Nat}(h:Paired F us ks)(hq:∀i∈q,i<us.length):Paired F (q.map λi=>us.getD i .non) (q.map λi=>ks.getD i []):=by(
refine q87 (by rw[hG,hG]) λj x k hx hk=>?_
rw[mD]at hx hk
obtain⟨i,hi,rfl⟩:=mK.mp hx
rw[hi]at hk
obtain rfl:=kZ hk
have hl:=hq i (gP hi)
have e1:us[i]?=some (us.getD i .non):=by rw[kI,kE hl];rfl
obtain⟨k,hk1,z⟩:=Paired.at h e1
show F (us.getD i .non) (ks.getD i [])
rw[show ks.getD i []=k from by rw[kI,hk1];rfl]
exact z)
theorem uB{H H':Hp}{us:List V}{ks:List (List Int)}(h:Paired (TupD H) us ks)(s:Same H H'):Paired (TupD H') us ks:=Paired.mapP h λ_ _ z=>z.same s
theorem qCD{K:PySem.W.Frag}{H:Hp}{us:List V}{ks:List (List Int)}(h:Paired (TupD H) us ks):Paired (TupI K H) us ks:=Paired.mapP h λ_ _ z=>z.i
theorem q2R{lo:Int}{n:Nat}{D:Addr}{H2:Hp}{g:TG}{tc:TT}{te:TE}{σ0:St}{R:Hp→Prop}(Pv:Nat→Hp→Prop)(h0:Pv 0 H2)
 (hs:∀(i:Nat) H,i<n→Pv i H→g (.int (lo+i)) σ0 H λσ5 H5=>tc σ5 H5 λb H6=>if b=true then te σ5 H6 (λv H7=>∃vs,H7 D=some (.lst vs)∧vs.length<sizeLine∧Pv (i+1) (upd H7 D (.lst (vs++[v]))))else Pv (i+1) H6) (hd:∀H,Pv n H→R H):
 ∃W:Nat→Nat→Hp→Prop,(∃m,W 0 m H2)∧∀i m H3,W i m H3→((Itr lo n).stop i H3∧R H3)∨((Itr lo n).go i H3∧∃N:Hp→Prop,(∀H',N H'→∃m',m'<m∧W (i+1) m' H')∧∀x H4,(Itr lo n).yld i H3 x H4→g x σ0 H4 λσ5 H5=>tc σ5 H5 λb H6=>if b=true then te σ5 H6 (λv H7=>∃vs,H7 D=some (.lst vs)∧vs.length<sizeLine∧N (upd H7 D (.lst (vs++[v]))))else N H6):=qES (Q:=λ_ H=>R H) Pv h0 hs hd
theorem qF7{H H3:Hp}{a:Addr}{u:HO}(ha:H a=some u)(k:∀b o,b≠a→H b=some o→H3 b=some o):Same H (upd H3 a u):=λb o e=>by(
by_cases z:b=a
·rw[z,qI,←ha,←z];exact e
rw[qC z]
exact k b o z e)
theorem v3{X:Cx}{K:PySem.W.Frag}{e:Expr}{ta:TE}{f:Str}{pos:Pos}(eK:X.K=K)(he:PE X e ta)(hb:attributeBase e f X.env (eval e X.env)=eval e X.env):PE X (.Attribute e f pos) (tFld K ta f):=by subst eK;exact qJ he hb
end L2
namespace L2
open PySem PySem.W PySem.Spec PyProof.Rows
noncomputable def BmIn(base:Heap)(mg:Str→Option Value):Prop:=∃bm o,mg "__builtins__"=some (.ref bm)∧bm≠builtinsNs∧base.get? bm=some o∧o.cls=.type "module"∧o.dict=some builtinsNs∧o.data=.plain
theorem qDG{P:Program}{w:World}{K:PySem.W.Frag}{mg mb:Str→Option Value}{CX:CXT}{k:Nat}{fa a:Addr}{fd:FuncData}{x:Str}{sp:Sp}{s₁:Shared}{vs:List Value}{ns:List Int}(ts:List Addr)
 (KX:K.In s₁.heap) (hts:∀T∈ts,s₁.heap.get? T=some (tabObj #[])∧K.lookup T=none∧∃c,codeHdIn K c T=true) (hns:s₁.heap.Ns mainGlobals mg) (hb:s₁.heap.Ns builtinsNs mb) (hbb:∀x:Str,x≠"__name__"→mb x=bootBuiltins x) (hlim:s₁.heap.NoLimit) (hbm:BmIn s₁.heap mg) (hg:s₁.gens=#[])
 (ha:s₁.heap.get? a=some { cls:=.type "list",data:=.seq vs.toArray }) (hi:IntsAre vs ns) (hl:ns.length≤sizeLine) (hr:Room k callerA)
 (F:∀base:Heap,K.In base→base.Ns mainGlobals mg→BmIn base mg→FnOk P w K mg base CX k fa fd [x] sp) (hbind:∀(s:Shared) (u:Value),BindsTo s fd ⟨[u],[]⟩ [(x,u)])
 (hsp:∀H:Hp,SqL K H a (ns.map V.int)→(∀T∈ts,H T=some (.tbl #[]))→sp [.ref a] H (λv _=>v=.bl true) λ_ _ _=>False)
 (hCX:∀H e s',CX [] H s₁ (λ_ _ _=>False) e s'→False):
 codeAny (model P w) callerA (.call (.ref fa) ⟨[.ref a],[]⟩) (λr s'=>r=.ok (.ret (.bool true))∧OldK s₁.heap s'.heap∧s'.os=s₁.os∧AllBare s'.gens) s₁:=by(
have rv:=q84 hi
have lenV:=hi.length
have nat:a∉ts:=λz=>by have e:=(hts a z).1;rw[ha]at e;cases e
have core:∀H:Hp,SqL K H a (ns.map V.int)→HOk P w H s₁.heap→(∀b,H b=none∨(b=a∧K.lookup a=none∧∃o xs,H b=some (.frz o (.lst xs)))∨(b∈ts∧H b=some (.tbl #[])))→(∀T∈ts,H T=some (.tbl #[]))→codeAny (model P w) callerA (.call (.ref fa) ⟨[.ref a],[]⟩) (λr s'=>r=.ok (.ret (.bool true))∧OldK s₁.heap s'.heap∧s'.os=s₁.os∧AllBare s'.gens) s₁:=by
 intro H hS hok hO hT;have base_of:∀{b:Addr} {o:Obj},s₁.heap.get? b=some o→H b=none→(hidT s₁.heap H).get? b=some o:=λe n=>q5T e n;have noA:∀{b:Addr} {o:Obj} {es:Array DictEntry} {ep:Nat},s₁.heap.get? b=some o→o.data=.dict es ep→H b=none:=fun {b o es ep} e d=>by
  rcases hO b with z|⟨rfl,_⟩|⟨z,_⟩
  ·exact z
  ·rw[ha]at e;cases e;cases d
  rw[(hts b z).1]at e;cases e;cases d
 have nsK:∀{b:Addr} {m:Str→Option Value},s₁.heap.Ns b m→(hidT s₁.heap H).Ns b m:=fun {b m} ⟨o,es,ep,e,d,r⟩=>⟨o,es,ep,base_of e (noA e d),d,r⟩
 have hKb:K.In (hidT s₁.heap H):=λb o e=>base_of (KX b o e) (by
  rcases hO b with z|⟨rfl,z,_⟩|⟨z,_⟩
  ·exact z
  ·rw[z]at e;cases e
  rw[(hts b z).2.1]at e;cases e)
 have hM:Mod K mg (hidT s₁.heap H):=⟨hKb,nsK hns,⟨mb,nsK hb,hbb⟩,let⟨mc,h1,h2⟩:=hlim;⟨mc,nsK h1,h2⟩⟩;have hB:BmIn (hidT s₁.heap H) mg:=by
  obtain⟨bm,o,b1,b2,b3,b4,b5,b6⟩:=hbm;refine⟨bm,o,b1,b2,base_of b3 ?_,b4,b5,b6⟩;rcases hO bm with z|⟨rfl,_⟩|⟨z,_⟩
  ·exact z
  ·rw[ha]at b3;cases b3;exact absurd (Value.type.inj b4) (by decide)
  rw[(hts bm z).1]at b3;cases b3;cases b4
 have e0:Env0 P w K mg (hidT s₁.heap H) callerA [] s₁ H:=⟨rfl,hM,λb o e=>qBN e,pH (q7N _ _),trivial,λb hb=>absurd (show b∈([]:List Addr)from hb) (by simp),hok,.of_eq hg⟩;refine pK ((F _ hKb (nsK hns) hB).run callerA [] s₁ H ⟨[.ref a],[]⟩ [.ref a] [.ref a] _ _ hr e0 (hbind s₁ (.ref a)) (.cons rfl .nil) (hsp H hS hT)) λr s' h=>?_;cases r with
 |error e=>exact(hCX H e s' h).elim
 |ok fl=>
  cases fl with
  |next=>exact False.elim h
  |brk=>exact False.elim h
  |cont=>exact False.elim h
  |ret u=>
   obtain⟨v,H',os,bare,un,hok',r',q⟩:=h;have q':v=.bl true:=q;subst q';obtain rfl:u=Value.bool true:=r';have kept:∀b o,s₁.heap.get? b=some o→b∉ts→s'.heap.get? b=some o:=λb o e nb=>by
    rcases hO b with z|⟨rfl,_,ob,xs,z⟩|⟨z,_⟩
    ·exact un.keep b o e z (by intro z;exact absurd (show b∈([]:List Addr)from z) (by simp)) (by simp)
    ·have z2:=un.frzs _ ob _ z;obtain⟨e1,_⟩:=hok _ _ z;obtain⟨e2,_⟩:=hok' _ _ z2;rw[e]at e1;cases e1;exact e2
    exact absurd z nb
   refine⟨rfl,⟨λb o e=>?_,λb o e=>?_⟩,os,bare⟩
   ·by_cases nb:b∈ts
    ·obtain⟨g,_,c,hc⟩:=hts b nb;obtain⟨more,z2⟩:=un.tbls b _ (hT b nb);have g2:s'.heap.get? b=some { cls:=.none,data:=.fields (#[]++more) }:=hok' _ _ z2;rw[g]at e;cases e;exact .inr (.inl ⟨((a9 KX hc).tab g).isCodeTable,rfl,#[],more,rfl,g2⟩)
    exact .inl (kept b o e nb)
   by_cases nb:b∈ts
   ·obtain⟨more,z2⟩:=un.tbls b _ (hT b nb);exact⟨_,hok' _ _ z2⟩
   exact⟨o,kept b o e nb⟩
have tb:∀T∈ts,∀H:Hp,H T=some (.tbl #[])→∀u,H T=some u→jM P w H s₁.heap T u:=λT hT H e u e'=>by rw[e]at e';cases e';exact(hts T hT).1
cases hk:K.lookup a with
|some o=>
 have e:=KX a o hk;rw[ha]at e;cases e;refine core (λb=>if b∈ts then some (.tbl #[])else none) (.inr ⟨_,vs.toArray,_,hk,rfl,rfl,rfl,by rw[mI,lenV];exact hl,by simpa using rv⟩) (λb u z=>?_) (λb=>?_) λT hT=>kL hT
 ·by_cases hb':b∈ts
  ·exact tb b hb' _ (kL hb') u z
  have z':=(kJ hb').symm.trans z;cases z'
 by_cases hb':b∈ts
 ·exact .inr (.inr ⟨hb',kL hb'⟩)
 exact .inl (kJ hb')
|none=>
 refine core (λb=>if b=a then some (.frz { cls:=.type "list",data:=.seq vs.toArray } (.lst (ns.map V.int)))else if b∈ts then some (.tbl #[])else none) (.inl (.inr ⟨{ cls:=.type "list",data:=.seq vs.toArray },kL rfl⟩)) (λb u z=>?_) (λb=>?_) λT hT=>?_
 ·by_cases hb':b=a
  ·have z':=(kL hb').symm.trans z;cases z';subst hb';exact⟨ha,by rw[hG];exact hl,vs,_,rv,ha⟩
  by_cases hb2:b∈ts
  ·exact tb b hb2 _ ((kJ hb').trans (kL hb2)) u z
  have z':=((kJ hb').trans (kJ hb2)).symm.trans z;cases z'
 ·by_cases hb':b=a
  ·exact .inr (.inl ⟨hb',hk,_,_,kL hb'⟩)
  by_cases hb2:b∈ts
  ·exact .inr (.inr ⟨hb2,(kJ hb').trans (kL hb2)⟩)
  exact .inl ((kJ hb').trans (kJ hb2))
 have:T≠a:=λz=>nat (z▸hT);exact(kJ this).trans (kL hT))
theorem qF8{l:PySem.W.OpenLaw}{n k:Nat}{q:Program}{loose:List Str}{XP:(Str→Option Value)→Heap→Prop}{YP:World→Heap→Prop}{d:DefRec}{K:Params→PySem.W.Frag}{CX:World→CXT}{sp:World→Sp}{x:Str}(ts:List Addr)
 (hn:l.most=some n) (hn2:n≤sizeLine) (hdf:d.params.defaults=[]) (hr:Room k callerA)
 (hY:∀(w:World) (h:Heap),YP w h→(K w.params).In h∧∀T∈ts,h.get? T=some (tabObj #[])) (hT:∀w:World,∀T∈ts,(K w.params).lookup T=none∧∃c,codeHdIn (K w.params) c T=true)
 (F:∀(w:World) (mg:Str→Option Value) (fa:Addr) (h:Heap),(K w.params).In h→h.Ns mainGlobals mg→mg d.name=some (.ref fa)→∃fd:FuncData,(∀(s:Shared) (u:Value),BindsTo s fd ⟨[u],[]⟩ [(x,u)])∧∀base:Heap,(K w.params).In base→base.Ns mainGlobals mg→BmIn base mg→FnOk l.prog w (K w.params) mg base (CX w) k fa fd [x] (sp w))
 (hsp:∀(w:World) (H:Hp) (a:Addr) (ns:List Int),ns.length≤n→SqL (K w.params) H a (ns.map V.int)→(∀T∈ts,H T=some (.tbl #[]))→sp w [.ref a] H (λv _=>v=.bl true) λ_ _ _=>False)
 (hCX:∀(w:World) (H:Hp) (s:Shared) (e:Value) (s':Shared),CX w [] H s (λ_ _ _=>False) e s'→False):
 PySem.W.WalkO q loose XP YP l.row.toRowW d [] (λf vs=>PySem.call f vs):=by(
refine Att.attach_call hn hdf λw s₀ s₁ mg mb fa o pm cd doc a vs ns G Y ho hd hcd hmg hobj hints hlen hg=>?_
obtain⟨KX,KT⟩:=hY w _ Y
obtain⟨fd,hb,hF⟩:=F w mg fa _ KX G.T.g hmg
exact qDG ts KX (λT h=>⟨KT T h,hT w T h⟩) G.T.g G.T.b G.T.builtins G.T.nolimit (let⟨bm,ob,b1,b2,b3,b4,b5,b6⟩:=G.T.bmain;⟨bm,ob,b1,b2,b3,b4,b5,b6⟩) hg hobj hints (mO hlen hn2) hr hF hb (λH hS hH=>hsp w H a ns hlen hS hH) λH e s'=>hCX w H s₁ e s')
structure FunT(K:PySem.W.Frag)(x qual:Str)(st:Stmt)(c f:Addr)(fd:FuncData):Prop where
ex:∃(oc:Value) (od:Option Addr) (kV doc pm:Value) (an:Option Addr) (ct:Value) (osl:Array (Option Value)),fd=PySem.W.fnOf x qual (yI st) (jW st) (qH st) .none kV doc pm an (.ref c) ct∧K.lookup f=some ⟨oc,od,.func fd,osl⟩∧PySem.W.codeIn K (.ref c) qual=true
section
variable{P:Program}{w:World}{K:PySem.W.Frag}{mg:Str→Option Value}{base:Heap}
theorem FunT.mk'{x qual:Str}{st:Stmt}{c f:Addr}{oc:Value}{od an:Option Addr}{osl:Array (Option Value)}{kV doc pm ct:Value}(l:K.lookup f=some ⟨oc,od,.func (PySem.W.fnOf x qual (yI st) (jW st) (qH st) .none kV doc pm an (.ref c) ct),osl⟩)
 (h:PySem.W.codeIn K (.ref c) qual=true):FunT K x qual st c f (PySem.W.fnOf x qual (yI st) (jW st) (qH st) .none kV doc pm an (.ref c) ct):=⟨⟨oc,od,kV,doc,pm,an,ct,osl,rfl,l,h⟩⟩
theorem FunT.okE{x qual:Str}{st:Stmt}{c f:Addr}{fd:FuncData}{N ps:List Str}{k:Nat}{sp:Sp}(F:FunT K x qual st c f fd)(S:FnScope N ps (qH st))(len:∀vs H Q E,sp vs H Q E→vs.length=ps.length)
 (hbody:∀(A:Around) (outer:List Env) (s:Shared) (H:Hp) (vs:List V) (Q:VK) (E:XK),Room k (A.deeper (envOfC qual (qH st) s.heap.objs.size f (.ref c)))→sp vs H Q E→∃t,PSs (cxOf (CXe P w) P w K mg base N qual (qH st) f (.ref c) A outer s H E) (jW st) t∧t { nx:=λ_ H'=>Q .non H',rt:=Q } (zU N vs) H):FnOk P w K mg base (CXe P w) (k+1) f fd ps sp:=by obtain⟨oc,od,kV,doc,pm,an,ct,osl,rfl,lk,hcd⟩:=F.ex;exact qBW lk hcd S len λA outer s H vs Q E hr hsp=>hbody A outer s H vs Q E hr hsp
theorem FunT.ok0{x qual:Str}{st:Stmt}{c f:Addr}{fd:FuncData}{N ps:List Str}{k:Nat}{sp:Sp}(F:FunT K x qual st c f fd)(S:FnScope N ps (qH st))
 (hbody:∀(A:Around) (outer:List Env) (s:Shared) (H:Hp) (vs:List V) (Q:VK) (E:XK),Room k (A.deeper (envOfC qual (qH st) s.heap.objs.size f (.ref c)))→sp vs H Q E→∃t,PSs (cxOf CX0 P w K mg base N qual (qH st) f (.ref c) A outer s H E).nox (jW st) t∧t { nx:=λ_ H'=>Q .non H',rt:=Q } (zU N vs) H)(len:∀vs H Q E,sp vs H Q E→vs.length=ps.length:=by intro _ _ _ _ h;first|(cases h;subst_vars;rfl)|((repeat obtain⟨_,h⟩:=h);all_goals subst_vars;rfl)):FnOk P w K mg base CX0 (k+1) f fd ps sp:=by(
obtain⟨oc,od,kV,doc,pm,an,ct,osl,rfl,lk,hcd⟩:=F.ex
refine qBW lk hcd S len λA outer s H vs Q E hr hsp=>?_
obtain⟨t,h,q⟩:=hbody A outer s H vs Q E hr hsp
exact⟨t,h.nox,q⟩)
noncomputable def q4P(K:PySem.W.Frag)(ts:List Addr):Sp:=λvs H Q _=>∃(a:Addr) (ns:List Int),vs=[.ref a]∧SqL K H a (ns.map V.int)∧ns.length≤63∧(∀T∈ts,H T=some (.tbl #[]))∧∀H',Q (.bl true) H'
end
noncomputable def qLV(K:PySem.W.Frag)(C:Addr):Prop:=PySem.W.findIn K (.ref C) "__class__"=some (some (.builtin "object.__class__"))∧PySem.W.specialIn K (.builtin "object.__class__") "__get__"=some (some (.builtin "getset_descriptor.__get__"))∧PySem.W.takesIn K (.builtin "object.__class__")=some true∧PySem.W.mroIn K C (.type "object")=some true
noncomputable def fnOb(fd:FuncData):Obj:={ cls:=.type "function",data:=.func fd }
noncomputable def fnO(f:Addr)(fd:FuncData):HO:=.ext λh=>h.get? f=some (fnOb fd)
noncomputable def cdO(c:Addr)(q:Str):HO:=.ext λh=>∃o vs t,h.get? c=some o∧o.data=.fields vs∧vs[1]?=some (.str q t)
theorem qF9{P:Program}{w:World}{H:Hp}{h:Heap}{f:Addr}{fd:FuncData}(e:h.get? f=some (fnOb fd)):jM P w H h f (fnO f fd):=⟨e,⟨_,e⟩,λ_ _ a b=>b _ a⟩
theorem qK7{P:Program}{w:World}{H:Hp}{h:Heap}{c:Addr}{q:Str}(e:h.CodeRec (.ref c) q):jM P w H h c (cdO c q):=by obtain⟨c',o,vs,t,e0,e1,e2,e3⟩:=e;cases e0;exact⟨⟨o,vs,t,e1,e2,e3⟩,⟨_,e1⟩,λ_ _ ⟨o,vs,t,a,b⟩ k=>⟨o,vs,t,k _ a,b⟩⟩
theorem qFA{P:Program}{w:World}{H:Hp}{h:Heap}{f:Addr}{fd:FuncData}(ok:HOk P w H h)(e:H f=some (fnO f fd)):h.get? f=some (fnOb fd):=(ok f _ e).1
theorem qFB{P:Program}{w:World}{H:Hp}{h:Heap}{c:Addr}{q:Str}(ok:HOk P w H h)(e:H c=some (cdO c q)):h.CodeRec (.ref c) q:=let⟨o,vs,t,a,b⟩:=(ok c _ e).1
 ⟨c,o,vs,t,rfl,a,b⟩
theorem qK8{CX:CXT}{P:Program}{w:World}{K:PySem.W.Frag}{mg:Str→Option Value}{base:Heap}{k:Nat}{f c:Addr}{name qual:Str}{params:Arguments}{body:Expr}{scope:Scope}{pm ct:Value}{N ps:List Str}{sp:Sp}(S:FnScope N ps scope)
 (len:∀vs H Q E,sp vs H Q E→vs.length=ps.length) (hf:∀vs H Q E,sp vs H Q E→H f=some (fnO f (kla_fn name qual params body scope [] pm (.ref c) ct))∧H c=some (cdO c qual))
 (hbody:∀(A:Around) (outer:List Env) (s:Shared) (H:Hp) (vs:List V) (Q:VK) (E:XK),Room k (A.deeper (envOfC qual scope s.heap.objs.size f (.ref c)))→sp vs H Q E→∃t,PE (cxOf CX P w K mg base N qual scope f (.ref c) A outer s H E) body t∧t (zU N vs) H Q):
 FnOk P w K mg base CX (k+1) f (kla_fn name qual params body scope [] pm (.ref c) ct) ps sp:=by(
refine⟨len,λA outer s H args us vs Q E hr e0 hb r hsp=>?_⟩
have hl:=len _ _ _ _ hsp
have KX:K.In s.heap:=e0.mod.kin.keeps λb o e=>(e0.bs b o e).1
have lim:s.heap.NoLimit:=e0.mod.nolimit.keeps λb o e=>(e0.bs b o e).1
have hkind:∀y∈ps.zip us,scope.names.lookup y.1=some .local∨(scope.names.lookup y.1=some .cell∧((cellsFrom (s.heap.objs.size+1) scope.names []).lookup y.1).isSome=true):=λ⟨n,v⟩ hy=>by
 rcases S.par n (sJ hy).1 with q|q
 ·exact .inl q
 exact .inr ⟨q,pL _ _ _ (.inl q)⟩
obtain⟨hf1,hc1⟩:=hf _ _ _ _ hsp
refine kla_callFunE hr.depth (qFA e0.hok hf1) rfl S.co S.gen rfl (qFB e0.hok hc1) (hb _ _ _ _ ?_)
refine nH S.kind hkind λenv he s1 x=>?_
subst he
refine⟨lim.keeps x.toInCall.keep,kla_codeExpr ?_⟩
obtain⟨t,ht,hq⟩:=hbody A outer s H vs Q E (hr.deeper _) hsp
have I:Inv (cxOf CX P w K mg base N qual scope f (.ref c) A outer s H E) [] (zU N vs) H s1:=q7Z S hr.hd e0 hl r x
exact dB (ht [] s1 (zU N vs) H _ I hq) (λu s' ⟨v,H',J,rv,q⟩=>⟨v,H',J.os,J.bare,J.base,J.hok,rv,q⟩) λe s' hs=>hs)
noncomputable def vQ(base:Heap)(cs:List Addr):Hp:=λb=>if(base.get? b).isSome=true∨b∈cs then none else some (.lst [])
theorem q1S{h base base':Heap}:∀{l:List Env},h.FunFrames base l→(∀L∈frs l,base.get? L=none→base'.get? L=none)→h.FunFrames base' l
| [],_,_=>trivial
|env::r,⟨hk,⟨L,o,hf,hn,ho,hd⟩,hr⟩,k=>by
 have hL:L∈frs (env::r):=by unfold frs;rw[wI,hf];exact kY
 exact⟨hk,⟨L,o,hf,k L hL hn,ho,hd⟩,q1S hr λb hb=>k b (by unfold frs;rw[wI,hf];exact kB _ hb)⟩
theorem Inv.env0C{X:Cx}{pins:List (Addr×Obj)}{σ:St}{H:Hp}{s:Shared}(I:Inv X pins σ H s)(cs:List Addr)(hcs:∀c∈cs,∃x,X.fn x=true∧X.env.cells.lookup x=some c):
 Env0 X.prog X.w X.K X.mg (hidT s.heap (vQ X.base cs)) X.A X.stack s H∧(∀b o,X.base.get? b=some o→(hidT s.heap (vQ X.base cs)).get? b=some o)∧∀c∈cs,∀o,s.heap.get? c=some o→(hidT s.heap (vQ X.base cs)).get? c=some o:=by(
have up:∀b o,X.base.get? b=some o→(hidT s.heap (vQ X.base cs)).get? b=some o:=λb o e=>q5T (I.bk b o e) (kL (.inl (by rw[e];rfl)))
have inv:∀{b:Addr} {o:Obj},(hidT s.heap (vQ X.base cs)).get? b=some o→s.heap.get? b=some o∧((∃o',X.base.get? b=some o')∨b∈cs):=fun {b o} e=>by
 obtain⟨e1,n⟩:=qBN e;refine⟨e1,?_⟩;by_cases z:(X.base.get? b).isSome=true∨b∈cs
 ·rcases z with z|z
  ·exact .inl (cX.mp z)
  exact .inr z
 rw[show vQ X.base cs b=some (.lst [])from kJ z]at n;cases n
obtain⟨mb,hb1,hb2⟩:=I.ok.mod.blt
refine⟨⟨I.ok.frames,⟨I.ok.mod.kin.keeps up,I.ok.mod.glob.keeps up,⟨mb,hb1.keeps up,hb2⟩,I.ok.mod.nolimit.keeps up⟩,λb o e=>?_,by rw[q7N];exact kO _,q1S I.stack λL hL n=>?_,I.stkFree,I.hok,I.bare⟩,up,λc hc o e=>q5T e (kL (.inr hc))⟩
·obtain⟨e1,z⟩:=inv e;rcases z with⟨o',z⟩|z
 ·exact⟨e1,(I.bs b o' z).2⟩
 obtain⟨x,_,hx⟩:=hcs b z;exact⟨e1,I.freeC x b hx⟩
cases e:(hidT s.heap (vQ X.base cs)).get? L with
|none=>rfl
|some o=>
 obtain⟨e1,z⟩:=inv e;rcases z with⟨o',z⟩|z
 ·rw[n]at z;cases z
 obtain⟨x,hf,hx⟩:=hcs L z;rcases kN.mp (I.stkSub L hL)with y|y
 ·exact absurd y (I.cne x L hx)
 obtain⟨_,o2,ho,_⟩:=I.ok.funs.mem y;exact absurd (mE ho) (nJ.mpr (I.ok.cab x L hf hx)))
noncomputable def q1T(cells:List (Str×Addr))(σ:St)(base':Heap)(ix:List (Nat×Str)):Prop:=∀p∈ix,∀v,σ[p.1]?=some (some v)→∃c u,cells.lookup p.2=some c∧RelV v u∧base'.IsCell c (some u)
noncomputable def qLH(T:Addr)(pos:Pos)(qual:Str)(params:Arguments)(body:Expr)(scope:Scope)(clos:List (Str×Addr))(pm:Value):TE:=λσ H Q=>∃ps,H T=some (.tbl ps)∧TriplesOk ps.toList∧codeAmong pos ps.toList=none∧∀(f c':Addr) (ctv:Value),H f=none→H c'=none→f≠c'→Q (.ref f) (upd (upd (upd H T (.tbl (ps++#[rawInt pos.line,rawInt pos.col,.ref c']))) c' (cdO c' qual)) f (fnO f (kla_fn "<lambda>" qual params body scope clos pm (.ref c') ctv)))
theorem qH3{X:Cx}{c T:Addr}{params:Arguments}{body:Expr}{scope:Scope}{pos:Pos}{clos:List (Str×Addr)}(hcode:X.env.code=.ref c)(hcd:codeHdIn X.K c T=true)(B:BmIn X.base X.mg)(hcl:closureFor scope X.env=pure clos)(hdef:defaultsOf params X.env=([],[])):
 PE X (.Lambda params body scope pos) (qLH T pos (X.env.qual++"<lambda>") params body scope clos ((X.mg "__name__").getD .none)):=by(
intro pins s σ H Q I hZ
obtain⟨ps,hT,ht,hnf,q⟩:=hZ
have hP:s.heap.get? T=some (tabObj ps):=I.hok T _ hT
have hgs:s.heap.Ns mainGlobals X.mg:=I.ok.mod.glob.keeps I.bk
obtain⟨bm,ob,b1,b2,b3,b4,b5,b6⟩:=B
have b3':=I.bk _ _ b3
have hgP:mainGlobals≠T:=λz=>by obtain⟨o,es,ep,e,hd,_⟩:=hgs;rw[z,hP]at e;cases e;cases hd
have hbP:bm≠T:=λz=>by rw[z,hP]at b3';cases b3';cases b4
have hbG:bm≠mainGlobals:=λz=>by obtain⟨o,es,ep,e,hd,_⟩:=hgs;rw[z,e]at b3';cases b3';rw[hd]at b6;cases b6
refine kla_eval hdef (kla_makeFunction (clos:=clos) hcl I.ok.glob hgs hcode (a9 I.kIn hcd) hP ht hnf hgP ⟨bm,ob,b1,b2,hbG,hbP,b3',b4,b5,b6⟩ λc' ctv h' tk hx hge hlt hrec htb=>?_)
have trk:∀b u,s.heap.get? b=some u→b≠T→∀o,(h'.push o).get? b=some u:=λb u e n o=>kF _ (hx b u n e)
have sz:s.heap.objs.size≤h'.objs.size:=mO hge (sU hlt)
have nF:H h'.objs.size=none:=I.hok.fresh sz
have nC:H c'=none:=I.hok.fresh hge
have fc:h'.objs.size≠c':=rL hlt
have other:∀{b:Addr},b≠T→b≠c'→b≠h'.objs.size→∀u:HO,(upd (upd (upd H T (.tbl (ps++#[rawInt pos.line,rawInt pos.col,.ref c']))) c' (cdO c' (X.env.qual++"<lambda>"))) h'.objs.size (fnO h'.objs.size (kla_fn "<lambda>" (X.env.qual++"<lambda>") params body scope clos ((X.mg "__name__").getD .none) (.ref c') ctv))) b=H b:=fun {b} z1 z2 z3 _=>by rw[qC z3,qC z2,qC z1]
refine⟨.ref h'.objs.size,_,?_,rfl,q _ c' ctv nF nC fc⟩
refine I.un (t':=tk) ⟨λb o e n _ _=>trk b o e (qF hT n).symm _,λb o e n _ _=>⟨o.slots,trk b o e (qF hT n).symm _⟩,λb o e n _=>?_,λb o e _=>?_,λb xs e=>?_,λb o u e=>?_,λb qs e=>?_⟩ λb u e=>?_
·have hb:b<s.heap.objs.size:=mE e;rw[other (qF hT n).symm (mZ (m7 hb hge)) (mZ (m7 hb sz)) (.lst [])];exact n
·by_cases z:b=T
 ·subst z;exact⟨_,kF _ htb⟩
 exact⟨o,trk b o e z _⟩
·rw[other (λz=>by rw[z,hT]at e;cases e) (qF e nC) (qF e nF) (.lst [])];exact e
·rw[other (λz=>by rw[z,hT]at e;cases e) (qF e nC) (qF e nF) (.lst [])];exact e
·by_cases z:b=T
 ·subst z;rw[hT]at e;cases e;refine⟨#[rawInt pos.line,rawInt pos.col,.ref c'],?_⟩;rw[qC (qF hT nF),qC (qF hT nC)];exact qI
 exact⟨#[],by rw[other z (qF e nC) (qF e nF) (.lst []),e];simp⟩
by_cases z3:b=h'.objs.size
·subst z3;rw[qI]at e;cases e;exact qF9 (mR _ rfl)
by_cases z2:b=c'
·subst z2;rw[qC z3,qI]at e;cases e;exact qK7 (hrec.push _)
by_cases z:b=T
·subst z;rw[qC z3,qC z2,qI]at e;cases e;exact kF _ htb
rw[other z z2 z3 (.lst [])]at e
refine(I.hok b u e).stay (λd v hd r=>trk d v r (λy=>?_) _) (λd r=>?_) λd xs r=>?_
·rcases hd with hd|hd
 ·exact z (hd▸y)
 rw[y,hT]at hd;cases hd
·rw[other (λy=>by rw[y,hT]at r;cases r) (qF r nC) (qF r nF) (.lst [])];exact r
rw[other (λy=>by rw[y,hT]at r;cases r) (qF r nC) (qF r nF) (.lst [])];exact r)
noncomputable abbrev envL(qual:Str)(scope:Scope)(clos:List (Str×Addr))(L f:Addr)(cd:Value):Env:=newEnv scope L mainGlobals clos (qual++".<locals>.") (some f) cd none builtinsNs
noncomputable def qFC(CX:CXT)(P:Program)(w:World)(K:PySem.W.Frag)(mg:Str→Option Value)(base:Heap)(N:List Str)(qual:Str)(scope:Scope)(clos:List (Str×Addr))(f:Addr)(cd:Value)(A:Around)(outer:List Env)(s:Shared)(H:Hp)(E:XK):Cx where
prog:=P
w:=w
K:=K
mg:=mg
base:=base
A:=A.deeper (envL qual scope clos s.heap.objs.size f cd)
N:=N
s₀:=s
H₀:=H
env:=envL qual scope clos s.heap.objs.size f cd
outer:=outer
stack:=envL qual scope clos s.heap.objs.size f cd::outer
ex:=[]
calm:=true
fn:=λ_=>false
pn:=[]
xe:=λe s'=>wpAny (model P w) (A.deeper (envL qual scope clos s.heap.objs.size f cd)) (leaving (envL qual scope clos s.heap.objs.size f cd) e) (λ_ s''=>CX outer H s E e s'') (λe' s''=>CX outer H s E e' s'') s'
structure LamSc(scope:Scope)(x0:Str)(clos:List (Str×Addr))(fvs:List V)(base:Heap):Prop where
kind:scope.kind=.function
co:scope.isCoroutine=false
gen:scope.isGenerator=false
par:scope.names.lookup x0=some .local
nocell:∀y∈scope.names,y.2≠ .cell
free:∀y,scope.names.lookup y=some .free→∃c,clos.lookup y=some c
inj:∀x y c,clos.lookup x=some c→clos.lookup y=some c→x=y
at':∀(j:Nat) (x:Str) (c:Addr),clos[j]?=some (x,c)→scope.names.lookup x=some .free∧clos.lookup x=some c∧∃v u,fvs[j]?=some v∧RelV v u∧base.IsCell c (some u)
len:fvs.length=clos.length
theorem qH4{CX:CXT}{P:Program}{w:World}{K:PySem.W.Frag}{mg:Str→Option Value}{base:Heap}{k:Nat}{f c:Addr}{name qual:Str}{params:Arguments}{body:Expr}{scope:Scope}{pm ct:Value}{x0:Str}{clos:List (Str×Addr)}{fvs:List V}{sp:Sp}(S:LamSc scope x0 clos fvs base)
 (len:∀vs H Q E,sp vs H Q E→vs.length=1) (hf:∀vs H Q E,sp vs H Q E→H f=some (fnO f (kla_fn name qual params body scope clos pm (.ref c) ct))∧H c=some (cdO c qual))
 (hbody:∀(A:Around) (outer:List Env) (s:Shared) (H:Hp) (v0:V) (Q:VK) (E:XK),Room k (A.deeper (envL qual scope clos s.heap.objs.size f (.ref c)))→sp [v0] H Q E→∃t,PE (qFC CX P w K mg base (x0::clos.map (·.1)) qual scope clos f (.ref c) A outer s H E) body t∧t (some v0::fvs.map some) H Q):
 FnOk P w K mg base CX (k+1) f (kla_fn name qual params body scope clos pm (.ref c) ct) [x0] sp:=by(
refine⟨len,λA outer s H args us vs Q E hr e0 hb r hsp=>?_⟩
have hl:=len _ _ _ _ hsp
obtain⟨v0,rfl⟩:∃v0,vs=[v0]:=match vs,hl with| [v],_=>⟨v,rfl⟩
obtain⟨u0,rfl,r0⟩:=q1I r
have lim:s.heap.NoLimit:=e0.mod.nolimit.keeps λb o e=>(e0.bs b o e).1
obtain⟨hf1,hc1⟩:=hf _ _ _ _ hsp
refine kla_callFunE hr.depth (qFA e0.hok hf1) rfl S.co S.gen rfl (qFB e0.hok hc1) (hb _ _ _ _ ?_)
refine xL S.nocell (λy hy=>?_) (λh' hn hs=>?_) S.kind
·obtain rfl:y=(x0,u0):=by simpa using hy
 exact S.par
have hk:∀b o,s.heap.get? b=some o→h'.get? b=some o:=λb o e=>by have:=hs.2 b (mZ (mE e));rw[this];exact kF _ e
refine⟨lim.keeps hk,kla_codeExpr ?_⟩
obtain⟨t,ht,hq⟩:=hbody A outer s H v0 Q E (hr.deeper _) hsp
have noA:∀b:Addr,b∉(qFC CX P w K mg base (x0::clos.map (·.1)) qual scope clos f (.ref c) A outer s H E).ex:=λb z=>absurd (show b∈([]:List Addr)from z) (by simp)
have cat:∀y d,clos.lookup y=some d→∃u,base.IsCell d (some u):=λy d e=>by obtain⟨j,hj,ej⟩:=cU (gY e);obtain⟨_,_,v,u,_,_,hu⟩:=S.at' j y d (kC.mpr ⟨hj,ej⟩);exact⟨u,hu⟩
have I:Inv (qFC CX P w K mg base (x0::clos.map (·.1)) qual scope clos f (.ref c) A outer s H E) [] (some v0::fvs.map some) H { s with heap:=h',toks:=s.toks + [(x0,u0)].length }:=by
 refine⟨⟨e0.mod,S.kind,rfl,rfl,kO _,S.inj,λy hy=>?_,λy c z _=>absurd (show false=true from z) (by decide),λ_=>hr.hd,xH e0.frames,.inr ⟨rfl,rfl⟩,λb z=>absurd z (noA b),e0.bs,e0.bsz,λb _ _=>noA b,λb z=>absurd z (noA b),e0.funs,e0.frf⟩,rfl,e0.bare,Un.kept hk,⟨_,hn,λi y v h1 h2 h3=>?_⟩,λy d e=>?_,e0.hok.fresh (kO _),λy d e=>?_,λp hp=>absurd (show p∈([]:List (Addr×Obj))from hp) (by simp),e0.hok.kept hk,?_⟩
 ·have hy:scope.names.lookup y=some .cell∨scope.names.lookup y=some .free:=hy;rcases hy with hy|hy
  ·exact absurd rfl (S.nocell _ (gY hy))
  exact S.free y hy
 ·cases i with
  |zero=>obtain rfl:=kZ h1;obtain rfl:=kZ (kZ h2);refine⟨u0,r0,.inl ⟨S.par,?_⟩⟩;show([(x0,u0)]:List (Str×Value)).reverse.lookup x0=some u0;simp
  |succ j=>have h1:(clos.map (·.1))[j]?=some y:=h1;have h2:(fvs.map some)[j]?=some (some v):=h2;rw[mD]at h1 h2;obtain⟨⟨y',d⟩,hd,rfl⟩:=mK.mp h1;obtain⟨v',hv,ev⟩:=mK.mp h2;obtain rfl:=kZ ev;obtain⟨a1,a2,v2,u,a3,a4,a5⟩:=S.at' j _ d hd;rw[hv]at a3;obtain rfl:=kZ a3;exact⟨u,a4,.inr ⟨.inr a1,d,a2,a5.keeps λb o e=>hk b o (e0.bs b o e).1⟩⟩
 ·obtain⟨u,hu⟩:=cat y d e;exact⟨_,hu.keeps λb o e=>hk b o (e0.bs b o e).1⟩
 ·obtain⟨u,o,ho,_⟩:=cat y d e;exact(e0.bs _ _ ho).2
 show(some v0::fvs.map some).length=(x0::clos.map (·.1)).length;rw[mY,mY,hG,hG,S.len]
exact dB (ht [] _ _ H _ I hq) (λu s' ⟨v,H',J,rv,q⟩=>⟨v,H',J.os,J.bare,J.base,J.hok,rv,q⟩) λe s' hs=>hs)
theorem qH5{scope:Scope}{env:Env}(h:(scope.names.all λy=>decide (y.2≠ .free)||(env.cells.lookup y.1).isSome)=true):closureFor scope env=pure (clOf env scope.names []):=q67 λy hy hf=>by(
 have q:=dM.mp h y hy;rw[cA,mJ]at q;rcases q with q|q
 ·exact absurd hf q
 exact cX.mp q)
theorem qDH{scope:Scope}{x0 y:Str}{ca:Addr}{v:V}{u:Value}{base:Heap}(hk:scope.kind=.function)(hco:scope.isCoroutine=false)(hg:scope.isGenerator=false)(hp:scope.names.lookup x0=some .local)
 (hn:(scope.names.all λz=>decide (z.2≠ .cell)&&(decide (z.2≠ .free)||decide (z.1=y)))=true) (hf:scope.names.lookup y=some .free) (r:RelV v u) (hc:base.IsCell ca (some u)):LamSc scope x0 [(y,ca)] [v] base:=by(
have at1:∀z∈scope.names,z.2≠ .cell∧(z.2≠ .free∨z.1=y):=λz hz=>by have q:=dM.mp hn z hz;rw[m8,cA,mJ,mJ,mJ]at q;exact q
have lk:([(y,ca)]:List (Str×Addr)).lookup y=some ca:=by simp
have one:∀x c,([(y,ca)]:List (Str×Addr)).lookup x=some c→x=y∧c=ca:=λx c e=>by have m:=gY e;simpa using m
refine⟨hk,hco,hg,hp,λz hz=>(at1 z hz).1,λz hz=>?_,λa b c h1 h2=>?_,λj x c h=>?_,rfl⟩
·have m:=(at1 _ (gY hz)).2;rcases m with m|m
 ·exact absurd rfl m
 exact⟨ca,by rw[show z=y from m];exact lk⟩
·rw[(one _ _ h1).1,(one _ _ h2).1]
match j,h with
|0,h=>
 obtain⟨rfl,rfl⟩:y=x∧ca=c:=by simpa using h
 exact⟨hf,lk,v,u,rfl,r,hc⟩
|j+1,h=>exact absurd h (by simp))
theorem qA4{env:Env}{names:List (Str×NameKind)}{y:Str}{ca:Addr}(e:env.cells.lookup y=some ca)(h:clOf env names []=match env.cells.lookup y with|some a=>[(y,a)] |none=>[]):clOf env names []=[(y,ca)]:=by rw[h,e]
noncomputable def qK9(T:Addr)(pos:Pos)(qual:Str)(params:Arguments)(body:Expr)(scope:Scope)(clos:List (Str×Addr))(pm:Value):TE:=λσ H Q=>∃ps c',H T=some (.tbl ps)∧TriplesOk ps.toList∧codeAmong pos ps.toList=some (.ref c')∧∀(f:Addr) (ctv:Value),H f=none→Q (.ref f) (upd H f (fnO f (kla_fn "<lambda>" qual params body scope clos pm (.ref c') ctv)))
theorem qFD{X:Cx}{c T:Addr}{params:Arguments}{body:Expr}{scope:Scope}{pos:Pos}{clos:List (Str×Addr)}(hcode:X.env.code=.ref c)(hcd:codeHdIn X.K c T=true)(B:BmIn X.base X.mg)(hcl:closureFor scope X.env=pure clos)(hdef:defaultsOf params X.env=([],[])):
 PE X (.Lambda params body scope pos) (qK9 T pos (X.env.qual++"<lambda>") params body scope clos ((X.mg "__name__").getD .none)):=by(
intro pins s σ H Q I hZ
obtain⟨ps,c',hT,ht,hnf,q⟩:=hZ
have hP:s.heap.get? T=some (tabObj ps):=I.hok T _ hT
have hgs:s.heap.Ns mainGlobals X.mg:=I.ok.mod.glob.keeps I.bk
obtain⟨bm,ob,b1,b2,b3,b4,b5,b6⟩:=B
have b3':=I.bk _ _ b3
have hbP:bm≠T:=λz=>by rw[z,hP]at b3';cases b3';cases b4
have hbG:bm≠mainGlobals:=λz=>by obtain⟨o,es,ep,e,hd,_⟩:=hgs;rw[z,e]at b3';cases b3';rw[hd]at b6;cases b6
refine kla_eval hdef (kla_makeFunctionHit (clos:=clos) hcl I.ok.glob hgs hcode (a9 I.kIn hcd) hP ht hnf ⟨bm,ob,b1,b2,hbG,hbP,b3',b4,b5,b6⟩ λctv h' tk hx sz=>?_)
have trk:∀b u,s.heap.get? b=some u→∀o,(h'.push o).get? b=some u:=λb u e o=>kF _ (hx b u e)
have nF:H h'.objs.size=none:=I.hok.fresh sz
refine⟨.ref h'.objs.size,_,?_,rfl,q _ ctv nF⟩
refine I.un (t':=tk) ⟨λb o e n _ _=>trk b o e _,λb o e n _ _=>⟨o.slots,trk b o e _⟩,λb o e n _=>?_,λb o e _=>⟨o,trk b o e _⟩,λb xs e=>?_,λb o u e=>?_,λb qs e=>?_⟩ λb u e=>?_
·rw[qC (mZ (m7 (mE e) sz))];exact n
·rw[qC (qF e nF)];exact e
·rw[qC (qF e nF)];exact e
·exact⟨#[],by rw[qC (qF e nF),e];simp⟩
by_cases z3:b=h'.objs.size
·subst z3;rw[qI]at e;cases e;exact qF9 (mR _ rfl)
rw[qC z3]at e
refine(I.hok b u e).stay (λd v hd r=>trk d v r _) (λd r=>?_) λd xs r=>?_
·rw[qC (qF r nF)];exact r
rw[qC (qF r nF)];exact r)
noncomputable def qLI(T:Addr)(pos:Pos)(qual:Str)(params:Arguments)(body:Expr)(scope:Scope)(clos:List (Str×Addr))(pm:Value):TE:=λσ H Q=>∃ps,H T=some (.tbl ps)∧TriplesOk ps.toList∧((codeAmong pos ps.toList=none∧∀(f c':Addr) (ctv:Value) (H':Hp),H f=none→H' f=some (fnO f (kla_fn "<lambda>" qual params body scope clos pm (.ref c') ctv))→H' c'=some (cdO c' qual)→H' T=some (.tbl (ps++#[rawInt pos.line,rawInt pos.col,.ref c']))→(∀b o,b≠T→H b=some o→H' b=some o)→Q (.ref f) H')∨∃c',codeAmong pos ps.toList=some (.ref c')∧∀(f:Addr) (ctv:Value) (H':Hp),H f=none→H' f=some (fnO f (kla_fn "<lambda>" qual params body scope clos pm (.ref c') ctv))→Same H H'→Q (.ref f) H')
theorem qCE{X:Cx}{c T:Addr}{params:Arguments}{body:Expr}{scope:Scope}{pos:Pos}{clos:List (Str×Addr)}(hcode:X.env.code=.ref c)(hcd:codeHdIn X.K c T=true)(B:BmIn X.base X.mg)(hcl:closureFor scope X.env=pure clos)(hdef:defaultsOf params X.env=([],[])):
 PE X (.Lambda params body scope pos) (qLI T pos (X.env.qual++"<lambda>") params body scope clos ((X.mg "__name__").getD .none)):=λpins s σ H Q I ⟨ps,hT,ht,h⟩=>by(
rcases h with⟨hn,q⟩|⟨c',hn,q⟩
·exact qH3 hcode hcd B hcl hdef pins s σ H Q I ⟨ps,hT,ht,hn,λf c' ctv nf nc fc=>q f c' ctv _ nf qI (by rw[qC fc.symm];exact qI) (by rw[qC (qF hT nf),qC (qF hT nc)];exact qI) λb o nb e=>by rw[qC (qF e nf),qC (qF e nc),qC nb];exact e⟩
exact qFD hcode hcd B hcl hdef pins s σ H Q I ⟨ps,c',hT,ht,hn,λf ctv nf=>q f ctv _ nf qI (Same.upd nf)⟩)
theorem qCF{X:Cx}{CX:CXT}{k:Nat}{f:Addr}{fd:FuncData}{ps:List Str}{sp:Heap→Sp}{dvs:List V}{ds:List Value}{E:XK}{pins:List (Addr×Obj)}{σ:St}{H:Hp}{s:Shared}{Q:VK}{us:List Value}{vs:List V}(ix:List (Nat×Str))
 (hix:∀p∈ix,X.N[p.1]?=some p.2∧X.env.scope.names.lookup p.2=some .cell∧X.fn p.2=true)
 (F:∀base',(∀b o,X.base.get? b=some o→base'.get? b=some o)→q1T X.env.cells σ base' ix→FnOk X.prog X.w X.K X.mg base' CX k f fd ps (sp base')) (hr:Room k X.A) (hb:jY X.K fd ps ds) (hd:Vals dvs ds) (hx:q0Z CX X E)
 (I:Inv X pins σ H s) (r:Vals vs us) (h:∀base',(∀b o,X.base.get? b=some o→base'.get? b=some o)→q1T X.env.cells σ base' ix→sp base' (vs++dvs) H Q E):wpAny (model X.prog X.w) X.A (call (.ref f) us) (EP X pins σ Q) X.xe s:=by(
have r2:Vals (vs++dvs) (us++ds):=r.append hd
obtain⟨e0,up,cel⟩:=I.env0C (ix.filterMap λp=>X.env.cells.lookup p.2) (λc hc=>by obtain⟨p,hp,e⟩:=wT.mp hc;exact⟨p.2,(hix p hp).2.2,e⟩)
have cv:q1T X.env.cells σ (hidT s.heap (vQ X.base (ix.filterMap λp=>X.env.cells.lookup p.2))) ix:=λp hp v hv=>by
 obtain⟨h1,h2,h3⟩:=hix p hp;obtain⟨m,_,hl⟩:=I.loc;obtain⟨u,ru,lk⟩:=hl p.1 p.2 v h1 hv (.inr (.inl h2));rcases lk with⟨z,_⟩|⟨_,c,hc,o,ho,hd⟩
 ·have z:X.env.scope.names.lookup p.2=some .local:=z;rw[h2]at z;cases z
 exact⟨c,u,hc,ru,o,cel c (wT.mpr ⟨p,hp,hc⟩) o ho,hd⟩
have q:=h _ up cv
have hl:(us++ds).length=ps.length:=by rw[←r2.length];exact(F _ up cv).len _ _ _ _ q
refine c8 (pK ((F _ up cv).run X.A X.stack s H ⟨us,[]⟩ (us++ds) (vs++dvs) Q E hr e0 (hb s us I.kIn hl) r2 q) λr s' hq=>?_)
cases r with
|error e=>exact hx pins σ H s e s' I hq
|ok fl=>
 cases fl with
 |ret u=>exact I.after hq
 |next=>exact False.elim hq
 |brk=>exact False.elim hq
 |cont=>exact False.elim hq)
section
variable{X:Cx}{pins:List (Addr×Obj)}{σ:St}{H:Hp}{s:Shared}
theorem qDI{P:PySem.Fin→Shared→Prop}{EE:Value→Shared→Prop}{a f:Addr}{n:Nat}{vs:List Value}{us:List V}(I:Inv X pins σ H s)
 (ho:s.heap.get? a=some (seqObj "list" vs.toArray n)) (fa:FpOk X pins H a) (ha:X.s₀.heap.objs.size≤a) (rv:Vals us vs) (h64:us.length<64)
 (Pv:Nat→List V→Hp→Prop) (h0:Pv 0 [] H) (hs:∀i x zs H' pins' s' u,us[i]?=some x→RelV x u→Pv i zs H'→Inv { X with A:=X.A.in1.in1,xe:=λ_ _=>False } pins' σ H' s'→wpAny (model X.prog X.w) X.A.in1.in1 (call (.ref f) [u]) (EP { X with A:=X.A.in1.in1,xe:=λ_ _=>False } pins' σ (λz H''=>Pv (i+1) (zs++[z]) H'')) (λ_ _=>False) s')
 (hd:∀zs H',H' a=none→zs.length=us.length→Pv us.length zs H'→∃kk m,Paired (TupI X.K H') zs kk∧(∀k∈kk,k.length=m)∧0<m∧∀q:List Nat,q.Perm (List.range us.length)→(q.map λi=>kk.getD i []).Pairwise (λa b=>lx b a=false)→∀s',Inv X pins σ (upd H' a (.lst (q.map λi=>us.getD i .non))) s'→P (.done (.ret .none)) s'):
 wpAny (model X.prog X.w) X.A.in1.in1 (ksk_tree a (.ref f) false) P EE s:=by(
have hal:a<s.heap.objs.size:=mE ho
have hl:=rv.length
obtain⟨e1,g1⟩:∃e1,(s.heap.update a (Obj.mapSeq λ_=>(#[]:Array Value))).get? a=some (seqObj "list" #[] e1):=⟨_,cC ho λ_=>#[]⟩
unfold ksk_tree
refine hV (aO ho rfl (hV (cF ho rfl (hV (nQ g1 rfl ?_)) (by rw[mI,gW];lia) (m9 _))))
refine hV (wpAny_newTuple (hV (cZ (gT ?_) (m9 _))) (by show vs.length≤_;rw[gW];lia))
have hks:((s.heap.update a (Obj.mapSeq λ_=>(#[]:Array Value))).push (seqObj "tuple" vs.toArray 0)).objs.size=s.heap.objs.size+1:=by rw[aD,lG]
obtain⟨kS,eks⟩:∃kS:Addr,kS=((s.heap.update a (Obj.mapSeq λ_=>(#[]:Array Value))).push (seqObj "tuple" vs.toArray 0)).objs.size:=⟨_,rfl⟩
have ksz:s.heap.objs.size≤kS:=by rw[eks,hks];exact dL _
have ne:kS≠a:=rL (m7 hal ksz)
show wpAny (model X.prog X.w) X.A.in1.in1 (ksk_rest a (.ref f) false vs.toArray e1 (.ref ((s.heap.update a (Obj.mapSeq λ_=>(#[]:Array Value))).push (seqObj "tuple" vs.toArray 0)).objs.size)) P EE { s with heap:=((s.heap.update a (Obj.mapSeq λ_=>(#[]:Array Value))).push (seqObj "tuple" vs.toArray 0)).push (seqObj "list" #[] 0) }
rw[←eks]
have gk0:(((s.heap.update a (Obj.mapSeq λ_=>(#[]:Array Value))).push (seqObj "tuple" vs.toArray 0)).push (seqObj "list" #[] 0)).get? kS=some (seqObj "list" #[] 0):=by rw[eks];exact mR _ rfl
have ga0:=kF (seqObj "list" #[] 0) (kF (seqObj "tuple" vs.toArray 0) g1)
have I0:Inv X pins σ H { s with heap:=((s.heap.update a (Obj.mapSeq λ_=>(#[]:Array Value))).push (seqObj "tuple" vs.toArray 0)).push (seqObj "list" #[] 0),toks:=s.toks }:=I.turnedN (fp:=[a]) (λb o hb' e=>kF _ (kF _ ((mF _ _ (λz=>hb' (kD.mpr z.symm))).trans e))) (λb hb'=>by rw[kD.mp hb'];exact fa)
have fk0:FpOk X pins H kS:=I.fpOk ksz (I.hok.fresh ksz)
have fp:∀{H':Hp} {b:Addr},FpOk X pins H b→H' b=none→FpOk X pins H' b:=λf e=>⟨e,f.2⟩
unfold ksk_rest
refine hV (wpAny_rule ?_)
first
 |rw[List.forIn_toArray]
 |(rw[←Array.forIn_toList];simp only[List.toList_toArray])
refine hV (ksk_fold (I:=λi s'=>∃H' zs ks e,Inv X pins σ H' s'∧s'.heap.get? a=some (seqObj "list" #[] e1)∧s'.heap.get? kS=some (seqObj "list" (List.toArray ks) e)∧Vals zs ks∧zs.length=i∧Pv i zs H'∧H' a=none∧H' kS=none) vs 0 _ ⟨H,[],[],0,I0,ga0,gk0,.nil,rfl,h0,fa.1,fk0.1⟩ (λj x s' hx hJ=>?_) λs' hJ=>?_)
·obtain⟨H',zs,ks,e,I1,ga,gk,rz,lz,pv,na,nk⟩:=hJ;rw[lU]at lz pv ⊢;have hj:j<vs.length:=(kC.mp hx).1;obtain⟨y,ey,ry⟩:=rv.atN (j:=j) hj;obtain rfl:vs[j]=x:=(kC.mp hx).2;have I2:=(I1.near (A':=X.A.in1.in1) rfl rfl λ_ _=>False).pinned (fp:=[a,kS]) (λb hb'=>by
  simp only[kN,dA,cY]at hb';rcases hb' with rfl|rfl
  ·exact fp fa na
  ·exact fp fk0 nk) (λb hb'=>by
  simp only[kN,dA,cY]at hb';rcases hb' with rfl|rfl
  ·exact⟨_,ga,λv z=>by cases z⟩
  exact⟨_,gk,λv z=>by cases z⟩)
 refine hV (xU (dB (hs j y zs H' _ _ _ ey ry pv I2) (λu s'' hq=>?_) λ_ _ z=>z.elim));obtain⟨z,H'',I3,ru,q⟩:=hq;have pa:=I3.pin (a,seqObj "list" #[] e1) (mB _ (mB _ (yJ (by simp) ga)));have pk:=I3.pin (kS,seqObj "list" (List.toArray ks) e) (mB _ (mB _ (yJ (by simp) gk)));have lk:=rz.length;have ea:(List.toArray ks).push u=List.toArray (ks++[u]):=by simp
 obtain⟨c2,g2⟩:∃c2,(s''.heap.update kS (Obj.mapSeq (·.push u))).get? kS=some (seqObj "list" (List.toArray (ks++[u])) c2):=⟨_,by rw[←ea];exact cC pk.1 (·.push u)⟩;try dsimp only
 refine hV (cF pk.1 rfl ?_ (by rw[mI,gW];lia) (mO (pH (Array.size_push ..)) (by rw[mI,gW];lia)));have I4:Inv X pins σ H'' s'':=(I3.unpinned).near (A':=X.A) rfl rfl X.xe;have I5:Inv X pins σ H'' { s'' with heap:=s''.heap.update kS (Obj.mapSeq (·.push u)),toks:=s''.toks }:=I4.turnedN (fp:=[kS]) (λb o hb' e=>(mF _ _ (λz=>hb' (kD.mpr z.symm))).trans e) (λb hb'=>by rw[kD.mp hb'];exact fp fk0 pk.2.1);exact kQ ⟨rfl,H'',zs++[z],ks++[u],c2,I5,(mF _ _ ne).trans pa.1,g2,rz.append (.cons ru .nil),by rw[mL,lz];rfl,q,pa.2.1,pk.2.1⟩
obtain⟨H',zs,ks,e,I1,ga,gk,rz,lz,pv,na,nk⟩:=hJ
rw[lU,←hl]at lz pv
obtain⟨kk,m,hti,hw,hm,fin⟩:=hd zs H' na lz pv
try dsimp only
refine hV (aO gk rfl ?_)
exact qGZ I1 (fp fa na) (fp fk0 nk) ha ne ga gk rz rv lz h64 hti hw hm fin)
end
noncomputable def oneQ(R:V→Hp→Prop):List V→Hp→Prop
| [v],H=>R v H
|_,_=>False
theorem qCG{R:V→Hp→Prop}:∀{xs:List V} {H:Hp},oneQ R xs H→∃v,xs=[v]∧R v H
| [v],_,h=>⟨v,rfl,h⟩
| [],_,h=>h.elim
|_::_::_,_,h=>h.elim
noncomputable def tSL(P:Program)(w:World)(K:PySem.W.Frag)(mg:Str→Option Value)(base:Heap)(cells:List (Str×Addr))(ix:List (Nat×Str))(k:Nat)(x:Str)(tl:TE)(ta:TA):TE:=λσ H Q=>ta σ H λvs H1=>tl σ H1 λfv H2=>∃(f:Addr) (fd:FuncData) (sp:Heap→Sp),fv=.ref f∧(∀base',(∀b o,base.get? b=some o→base'.get? b=some o)→q1T cells σ base' ix→FnOk P w K mg base' CX0 k f fd [x] (sp base'))∧jY K fd [x] []∧∃(l:Addr) (us:List V) (Pv:Nat→List V→Hp→Prop),vs=[.ref l]∧SqL K H2 l us∧us.length<64∧Pv 0 [] H2∧(∀base' i x zs H',q1T cells σ base' ix→us[i]?=some x→Pv i zs H'→sp base' [x] H' (λz H''=>Pv (i+1) (zs++[z]) H'') E0)∧∀zs H',zs.length=us.length→Pv us.length zs H'→∃kk m,Paired (TupI K H') zs kk∧(∀k∈kk,k.length=m)∧0<m∧∀q:List Nat,q.Perm (List.range us.length)→(q.map λi=>kk.getD i []).Pairwise (λa b=>lx b a=false)→NewO H' (.lst (q.map λi=>us.getD i .non)) Q
theorem qBA{X:Cx}{k:Nat}{x:Str}{e le:Expr}{tl:TE}{ta:TA}{p kp pos:Pos}(ix:List (Nat×Str))(hix:∀p∈ix,X.N[p.1]?=some p.2∧X.env.scope.names.lookup p.2=some .cell∧X.fn p.2=true)(hr:Room (k+2) X.A)(hg:Gl X "sorted")(hm:X.mg "sorted"=none)(hl:PE X le tl)(ha:PA X [e] ta)
 (he:starEach [e] X.env=[(false,eval e X.env)]:=by rfl) (hse:starEach ([]:List Expr) X.env=[]:=by rfl):
 PE X (.Call (.Name "sorted" p) [e] [⟨some "key",le,kp⟩] pos) (tSL X.prog X.w X.K X.mg X.base X.env.cells ix k x tl ta):=by(
intro pins s σ H Q I h
refine dJ (q1N I hg hm (u:=.builtin "sorted") (by kernel_rfl) ?_ (by decide) (by decide))
refine bA (thn (ha pos pins s σ H _ I h) λus s1 ⟨vs,H1,I1,r1,q1⟩=>?_) (by rw[he,hse];rfl) (by rw[he];rfl)
have pk:PK X [⟨some "key",le,kp⟩] (q61 tl tNil):=q8H hl qAT
refine thn (pk pos pins s1 σ H1 (oneQ _) I1 q1) λws s2 hZ=>?_
obtain⟨xs,H2,I2,r2,q2⟩:=hZ
obtain⟨v,rfl,f,fd,sp,rfl,F,hb,q2⟩:=qCG q2
obtain⟨w,rfl,rw⟩:=q1I r2
obtain rfl:w=Value.ref f:=rw
obtain⟨l,us',Pv,ev,hq,h64,p0,hs,hd⟩:=q2
subst ev
obtain⟨u,rfl,ru⟩:=q1I r1
obtain rfl:u=Value.ref l:=ru
obtain⟨its,rv,pl,hz⟩:=I2.list hq
have hlen:=rv.length
show wpAny (model X.prog X.w) X.A (call (.builtin "sorted") [.ref l] [(Str.ofString "key",.ref f)]) _ _ _
refine call_function_entry_kw kind_sorted plain_sorted entry_sorted (ksk_s1 _ _) ?_
unfold Builtin.«sorted»
refine hV (m:=checkCount "sorted" 1 1 _) (kQ (hV (collect_list pl.isList (hV (cZ ?_ (by rw[gW];show its.length≤_;lia))))))
have hsz:((s2.heap.push (seqObj "list" #[] 0)).update s2.heap.objs.size (Obj.mapSeq (· ++its.toArray))).objs.size=s2.heap.objs.size+1:=by rw[lG,aD]
have g:(((s2.heap.push (seqObj "list" #[] 0)).update s2.heap.objs.size (Obj.mapSeq (· ++its.toArray))).push (seqObj "list" its.toArray 0)).get? (s2.heap.objs.size+1)=some (seqObj "list" its.toArray 0):=by rw[←hsz];exact mR _ rfl
show wpAny _ _ _ _ _ { s2 with heap:=((s2.heap.push (seqObj "list" #[] 0)).update s2.heap.objs.size (Obj.mapSeq (· ++its.toArray))).push (seqObj "list" its.toArray 0) }
rw[hsz]
have I3:Inv X pins σ H2 { s2 with heap:=((s2.heap.push (seqObj "list" #[] 0)).update s2.heap.objs.size (Obj.mapSeq (· ++its.toArray))).push (seqObj "list" its.toArray 0),toks:=s2.toks }:=I2.kept (t':=s2.toks) λb o e=>kF _ ((mF _ _ (rL (mE e))).trans (kF _ e))
refine hV (gT (wpAny_call_entry_kw slot_list_sort ⟨_,g,rfl⟩ entry_list_sort ?_ (ksk_l1 _ _)))
rw[ksk_t1]
have fr:s2.heap.objs.size≤s2.heap.objs.size+1:=dL _
refine qDI I3 g (I2.fpOk fr (I2.hok.fresh fr)) (mO I2.sz fr) rv h64 Pv p0 (λi x zs H' pins' s' u hx rx pv I'=>qCF (X:={ X with A:=X.A.in1.in1,xe:=λ_ _=>False }) (dvs:=[]) (ds:=[]) (E:=E0) ix hix F hr.in1.in1 hb .nil qK I' (.cons rx .nil) (λbase' up cv=>hs base' i x zs H' cv hx pv)) λzs H' na lz pv=>?_
obtain⟨kk,m,a1,a2,a3,a4⟩:=hd zs H' lz pv
refine⟨kk,m,a1,a2,a3,λq b1 b2 s' I'=>⟨_,rfl,kQ ⟨_,rfl,.ref _,_,I',rfl,(a4 q b1 b2).at _ na⟩⟩⟩)
end L2
namespace W1
open PySem L2
structure QM where
P:Nat
B:Nat
nx:Int
V:Mp
lv:List Int
fi:List Int
bo:List Int
namespace QM
structure Ok(m:QM):Prop where
p1:1≤m.P
p2:m.P≤16
b2:m.B≤16
ll:m.lv.length=m.B
lf:m.fi.length=m.B
lo:m.bo.length=m.B
nd:(m.V.map (·.1)).Nodup
nm:∀q∈m.V,0≤q.1∧q.1≤64
blk:∀q∈m.V,∃b:Nat,b<m.B∧q.2 / (m.P:Int)=(b:Int)
wr:∀b,b<m.B→∃f:Nat,m.fi.getD b 0=(f:Int)∧f≤m.P
variable{m:QM}
theorem Ok.lenV(h:m.Ok):m.V.length≤65:=by
 have:=qII (l:=m.V.map (·.1)) (m:=(List.range 65).map λi:Nat=>(i:Int)) h.nd λx hx=>by obtain⟨q,hq,rfl⟩:=kP.mp hx;have:=h.nm q hq;exact kP.mpr ⟨q.1.toNat,gC.mpr (by lia),by lia⟩
 rw[hG,hG,mG]at this;exact this
noncomputable def forget(m:QM)(n:Int):QM:={ m with V:=jN m.V n,lv:=BM.lvF m.P m.V m.lv n }
theorem find_V{n:Int}:(∃p,(n,p)∈m.V∧m.V.find? (λq=>decide (q.1=n))=some (n,p))∨((∀q∈m.V,q.1≠n)∧m.V.find? (λq=>decide (q.1=n))=none):=by(
cases e:m.V.find? (λq=>decide (q.1=n))with
|none=>refine .inr ⟨λq hq z=>?_,rfl⟩;have:=wW.mp e q hq;exact this (hC z)
|some q=>
 have h1:q.1=n:=by have:=rG e;simpa using this
 have h2:=dY e;refine .inl ⟨q.2,by rw[←h1];exact h2,by rw[←h1]⟩)
theorem lvF_len{n:Int}:(BM.lvF m.P m.V m.lv n).length=m.lv.length:=by(
unfold BM.lvF
split
·rw[gJ]
rfl)
theorem Ok.forget(h:m.Ok)(n:Int):(m.forget n).Ok:={ h with ll:=by show(BM.lvF m.P m.V m.lv n).length=m.B;rw[lvF_len];exact h.ll,nd:=q6J h.nd,nm:=λq hq=>h.nm q (j9.mp hq).1,blk:=λq hq=>h.blk q (j9.mp hq).1 }
noncomputable def put(m:QM)(b f:Nat)(n:Int):QM:={ m with V:=jN m.V n++[(n,((b*m.P+f:Nat):Int))],lv:=(BM.lvF m.P m.V m.lv n).set b ((BM.lvF m.P m.V m.lv n).getD b 0+1),bo:=if m.fi.getD b 0=0 then m.bo.set b m.nx else m.bo,fi:=m.fi.set b (m.fi.getD b 0+1),nx:=m.nx+1 }
theorem Ok.put(h:m.Ok){b f:Nat}{n:Int}(hb:b<m.B)(hf:f<m.P)(ef:m.fi.getD b 0=(f:Int))(n0:0≤n)(n1:n≤64):(m.put b f n).Ok where
p1:=h.p1
p2:=h.p2
b2:=h.b2
ll:=by show(List.set _ _ _).length=m.B;rw[gJ,lvF_len];exact h.ll
lf:=by show(List.set _ _ _).length=m.B;rw[gJ];exact h.lf
lo:=by
 show(if m.fi.getD b 0=0 then m.bo.set b m.nx else m.bo).length=m.B;split
 ·rw[gJ];exact h.lo
 exact h.lo
nd:=by
 show((jN m.V n++[(n,((b*m.P+f:Nat):Int))]).map (·.1)).Nodup;rw[mM];refine r6.mpr ⟨q6J h.nd,by simp,λa ha c hc=>?_⟩;obtain⟨q,hq,rfl⟩:=kP.mp ha;have hc:c=n:=by simpa using hc
 rw[hc];exact(j9.mp hq).2
nm:=λq hq=>by
 rcases gN.mp hq with hq|hq
 ·exact h.nm q (j9.mp hq).1
 rw[kD.mp hq];exact⟨n0,n1⟩
blk:=λq hq=>by
 rcases gN.mp hq with hq|hq
 ·exact h.blk q (j9.mp hq).1
 rw[kD.mp hq];refine⟨b,hb,?_⟩;show((b*m.P+f:Nat):Int) / (m.P:Int)=_;rw[←rP,yQ hf]
wr:=λc hc=>by
 show ∃g:Nat,(m.fi.set b (m.fi.getD b 0+1)).getD c 0=(g:Int)∧g≤m.P;rw[jJ];split
 ·exact⟨f+1,by rw[ef];rfl,hf⟩
 exact h.wr c hc
end QM
noncomputable def vn(b:Nat):V:=.int (b:Int)
noncomputable def uL(B:Nat)(br:List Bool):List Nat:=(List.range B).filter λb=>!(br.getD b false)
noncomputable def yX(B:Nat)(br:List Bool)(fi:List Int):List Nat:=(uL B br).filter λb=>decide (fi.getD b 0=0)
noncomputable def keyN(cl:List Int)(b:Nat):List Int:=[cl.getD b 0,(b:Int)]
structure FreeIs(B:Nat)(br:List Bool)(cl fi:List Int)(l:List Nat):Prop where
pm:l.Perm (yX B br fi)
so:(l.map (keyN cl)).Pairwise λa b=>lx b a=false
theorem qH6{cl:List Int}{a b:Nat}(h:keyN cl a=keyN cl b):a=b:=by(
unfold keyN at h
injection h with _ h
injection h with h _
lia)
theorem q0N{B:Nat}{br:List Bool}{b:Nat}:b∈uL B br↔b<B∧br.getD b false=false:=by unfold uL;rw[mV,gC,dQ]
theorem q89{B:Nat}{br:List Bool}{fi:List Int}{b:Nat}:b∈yX B br fi↔(b<B∧br.getD b false=false)∧fi.getD b 0=0:=by unfold yX;rw[mV,q0N,mJ]
theorem q1U{B:Nat}{br:List Bool}:(uL B br).length≤B:=mO (mC _ _) (by rw[mG];exact kO _)
theorem qDJ{B:Nat}{br:List Bool}{fi:List Int}:(yX B br fi).length≤B:=mO (mC _ _) q1U
theorem FreeIs.mem{B:Nat}{br:List Bool}{cl fi:List Int}{l:List Nat}(h:FreeIs B br cl fi l){b:Nat}(hb:b∈l):b<B∧br.getD b false=false∧fi.getD b 0=0:=by have:=q89.mp (h.pm.mem_iff.mp hb);exact⟨this.1.1,this.1.2,this.2⟩
noncomputable def jP(P:Nat)(fi:List Int)(b:Nat):Bool:=decide (0<fi.getD b 0)&&decide (fi.getD b 0<(P:Int))
noncomputable def jR(B P:Nat)(br:List Bool)(fi:List Int):Option Nat:=(uL B br).find? (jP P fi)
theorem q11{B P:Nat}{br:List Bool}{fi:List Int}{b:Nat}(h:jR B P br fi=some b):b<B∧br.getD b false=false∧0<fi.getD b 0∧fi.getD b 0<(P:Int):=by(
have h1:=q0N.mp (dY h)
have h2:=rG h
unfold jP at h2
rw[m8,mJ,mJ]at h2
exact⟨h1.1,h1.2,h2.1,h2.2⟩)
noncomputable def q1K(B P:Nat)(br:List Bool)(fi:List Int)(l:List Nat):Option Nat:=match jR B P br fi with
|some b=>some b
|none=>l.head?
theorem qA5{B P:Nat}{br:List Bool}{cl fi:List Int}{l:List Nat}(hl:FreeIs B br cl fi l)(hP:1≤P){b:Nat}(h:q1K B P br fi l=some b):b<B∧br.getD b false=false∧0≤fi.getD b 0∧fi.getD b 0<(P:Int):=by(
unfold q1K at h
split at h
·rename_i b' e;cases h;have:=q11 e;exact⟨this.1,this.2.1,by lia,this.2.2.2⟩
cases l with
|nil=>cases h
|cons c r=>cases h;have:=hl.mem kY;exact⟨this.1,this.2.1,by lia,by lia⟩)
noncomputable def pgV(P:Nat)(fi:List Int):Option Nat→V
|none=>.non
|some b=>.int ((b:Int)*(P:Int)+fi.getD b 0)
noncomputable def oV:Option Nat→V
|none=>.non
|some b=>.int (b:Int)
theorem q6K{α β:Type}{L:List α}{f:α→β}{d:β}{e:α}:∀{q:List Nat},(∀i∈q,i<L.length)→(q.map λi=>(L.map f).getD i d)=(q.map λi=>L.getD i e).map f
| [],_=>rfl
|i::q,h=>by have hi:=h i kY;rw[mQ,mQ,mQ,q6K (q:=q) λj hj=>h j (kB _ hj)];congr 1;rw[kI,kI,mD,kE hi];rfl
theorem qBB{α:Type}{L:List α}{e:α}{q:List Nat}(h:q.Perm (List.range L.length)):(q.map λi=>L.getD i e).Perm L:=by(
have:=h.map λi=>L.getD i e
refine this.trans ?_
have eq:(List.range L.length).map (λi=>L.getD i e)=L:=by refine wL (by simp) λi h1 h2=>?_;rw[pZ,pD,kI,kE h2];rfl
rw[eq])
theorem qH7{B:Nat}{br:List Bool}{cl fi:List Int}{q:List Nat}(h:q.Perm (List.range (yX B br fi).length))(so:(q.map λi=>((yX B br fi).map (keyN cl)).getD i []).Pairwise λa b=>lx b a=false):FreeIs B br cl fi (q.map λi=>(yX B br fi).getD i 0):=by(
have hin:∀i∈q,i<(yX B br fi).length:=λi hi=>gC.mp (h.mem_iff.mp hi)
refine⟨qBB h,?_⟩
rw[q6K (e:=0) hin]at so
exact so)
theorem q8A{α β:Type}{L:List α}{f:α→β}{i:Nat}{x:α}(h:L[i]?=some x):(L.take (i+1)).map f=(L.take i).map f++[f x]:=by(
have hi:=(kC.mp h).1
obtain rfl:L[i]=x:=(kC.mp h).2
rw[←kW hi,mM]
rfl)
theorem qH8{a b:List Int}(h:lx a b=true):lx b a=false:=by(
cases z:lx b a with
|false=>rfl
|true=>have:=q0L a b a h z;rw[q39]at this;cases this)
theorem qIK{a b c:List Int}(h1:lx b a=false)(h2:lx c b=false):lx c a=false:=by(
cases z:lx c a with
|false=>rfl
|true=>
 cases y:lx a b with
 |true=>have:=q0L c a b z y;rw[h2]at this;cases this
 |false=>have e:=q4N a b y h1;rw[e]at z;rw[h2]at z;cases z)
theorem FreeIs.ex(B:Nat)(br:List Bool)(cl fi:List Int):∃l,FreeIs B br cl fi l:=by(
refine⟨(yX B br fi).mergeSort λa b=>!(lx (keyN cl b) (keyN cl a)),xS _ _,?_⟩
have:=lJ (le:=λa b=>!(lx (keyN cl b) (keyN cl a))) (λa b c h1 h2=>by
 rw[dQ]at h1 h2 ⊢;exact qIK h1 h2) (λa b=>by
 cases z:lx (keyN cl b) (keyN cl a)with
 |false=>rfl
 |true=>rw[qH8 z];rfl) (yX B br fi)
rw[dG]
exact this.imp λh=>by rw[dQ]at h;exact h)
theorem rep8{α:Type}{n i:Nat}{y:α}:(List.replicate n y).getD i y=y:=by rw[kI,wK];split<;>rfl
section
variable{v:V}{P:V→Prop}
theorem qH9{xs:List V}{j:Nat}(hv:P v)(h:∀i:Nat,P (xs.getD i .non))(i:Nat):P ((xs.set j v).getD i .non):=by(
rw[jJ]
split
·exact hv
exact h i)
theorem qCH{xs:List V}{j:Nat}(hn:P .non)(h:∀i:Nat,P (xs.getD i .non)):∀(n i:Nat),P ((clr xs j n).getD i .non)
|0,i=>h i
|n+1,i=>qH9 (xs:=clr xs j n) hn (qCH hn h n) i
end
end W1
namespace W1
noncomputable def orB:List Nat→Nat→Nat
| [],b=>b
|s::r,b=>orB r (b|||2 ^ s)
end W1
namespace W1
open PySem L2
theorem yD{B:Nat}:uL B (List.replicate B false)=List.range B:=by(
unfold uL
refine rJ.mpr λb _=>?_
rw[rep8]
rfl)
end W1
namespace L2
open PySem PySem.Spec PyProof.Rows
structure ClM(K:PySem.W.Frag)(W:Addr)(m:Str)(f:Addr):Prop where
rd:PySem.W.readsIn K W (.type "type")=true
fd:PySem.W.findCls K (.ref W) (.type "type") m=some (.val (.ref f))
ga:PySem.W.specialIn K (.ref W) "__getattribute__"=some (some (.builtin "type.__getattribute__"))
kp:PySem.W.keepIn K (.ref f)=true
end L2
namespace W1
open PySem L2
noncomputable def rdy(ie:Int)(l:List Nat)(p:Option Nat):Bool:=decide ((l.length:Int)-(1+ie)>0)||(decide ((l.length:Int)-(1+ie)=0)&&p.isSome)
noncomputable abbrev tyL(m:CM)(q:QM)(b:Nat):List V:=[.int (b:Int),.int (q.lv.getD b 0),.int (m.cl.getD b 0),.int (q.bo.getD b 0)]
noncomputable def spcN(ie:Int)(l:List Nat)(P:Nat)(fi:List Int)(p:Option Nat):Int:=if 1+ie≤(l.length:Int)then(P:Int)else match p with|none=>0|some b=>(P:Int)-fi.getD b 0
noncomputable def yB(B P:Nat)(br:List Bool)(fi:List Int):List Nat:=(uL B br).filter λb=>decide (fi.getD b 0=(P:Int))
noncomputable def optN(ie:Int)(m:CM)(q:QM)(l:List Nat):List Nat:=((yB q.B q.P m.br q.fi).filter λb=>decide (q.lv.getD b 0≤spcN ie l q.P q.fi (jR q.B q.P m.br q.fi))).filter λb=>decide (q.lv.getD b 0<(q.P:Int))
noncomputable def qFE(q:QM)(r:Int×Nat×Int):QM:={ q with nx:=r.1 }.put (r.2.1 / q.P) (r.2.1%q.P) r.2.2
structure Fits(q:QM)(r:Int×Nat×Int):Prop where
b:r.2.1 / q.P<q.B
f:q.fi.getD (r.2.1 / q.P) 0=((r.2.1%q.P:Nat):Int)
s:q.nx≤r.1
n0:0≤r.2.2
n1:r.2.2≤64
section
variable{q q0:QM}{r:Int×Nat×Int}{R:List (Int×Nat×Int)}
theorem Fits.ok(h:Fits q r)(ok:q.Ok):(qFE q r).Ok:=by have okn:QM.Ok { q with nx:=r.1 }:={ ok with };exact okn.put h.b (Nat.mod_lt _ ok.p1) h.f h.n0 h.n1
structure QS(q:QM):Prop where
ok:q.Ok
lv:∀b,b<q.B→q.lv.getD b 0=(cntB q.P q.V b:Nat)
theorem qCI(h:QS q)(n:Int){b:Nat}(hb:b<q.B):(BM.lvF q.P q.V q.lv n).getD b 0=(cntB q.P (jN q.V n) b:Nat):=by(
unfold BM.lvF
rcases QM.find_V (m:=q) (n:=n)with⟨p,hp,e⟩|⟨no,e⟩
·rw[e];obtain⟨c,hc,ec⟩:=h.ok.blk _ hp;have ec:p / (q.P:Int)=(c:Int):=ec;have cd:=qF4 (P:=q.P) (b:=b) h.ok.nd hp;show(q.lv.set (p / (q.P:Int)).toNat (q.lv.getD (p / (q.P:Int)).toNat 0-1)).getD b 0=_;rw[ec,mH,jJ];rw[ec]at cd;have e1:=h.lv b hb;by_cases z:c=b
 ·subst z;rw[kL rfl]at cd;rw[kL ⟨rfl,by rw[h.ok.ll];exact hb⟩,e1];lia
 rw[kJ (by lia)]at cd;rw[kJ (λy=>z y.1),e1];lia
rw[e,h.lv b hb,show jN q.V n=q.V from rJ.mpr λy hy=>hC (no y hy)])
theorem Fits.qs(h:Fits q r)(qs:QS q):QS (qFE q r):=by(
refine⟨h.ok qs.ok,λb hb=>?_⟩
have hb:b<q.B:=hb
have lc:=qCI qs r.2.2 hb
show((BM.lvF q.P q.V q.lv r.2.2).set (r.2.1 / q.P) ((BM.lvF q.P q.V q.lv r.2.2).getD (r.2.1 / q.P) 0+1)).getD b 0=((cntB q.P (jN q.V r.2.2++[(r.2.2,((r.2.1 / q.P*q.P+r.2.1%q.P:Nat):Int))]) b:Nat):Int)
have ep:r.2.1 / q.P*q.P+r.2.1%q.P=r.2.1:=by rw[cR];exact Nat.div_add_mod _ _
have ea:cntB q.P (jN q.V r.2.2++[(r.2.2,(r.2.1:Int))]) b=cntB q.P (jN q.V r.2.2) b+(if r.2.1 / q.P=b then 1 else 0):=by
 unfold cntB;rw[aE,List.countP_singleton,←rP];by_cases z:r.2.1 / q.P=b
 ·rw[kL z,z,hC rfl];rfl
 rw[kJ z,hU (by lia)];rfl
rw[ep,ea,jJ]
by_cases z:r.2.1 / q.P=b
·rw[kL z,kL ⟨z,by rw[QM.lvF_len,qs.ok.ll];lia⟩,z,lc];lia
rw[kJ z,kJ (λy=>z y.1),lc]
lia)
end
noncomputable def OneP(B P:Nat)(fi:List Int):Prop:=∀b c,b<B→c<B→jP P fi b=true→jP P fi c=true→b=c
noncomputable def clr1(P:Nat)(fi:List Int)(b:Nat):Nat:=P-(fi.getD b 0).toNat
noncomputable def rm(B P:Nat)(fi:List Int):Nat:=((List.range B).map (clr1 P fi)).sum
theorem qCJ{L:List Nat}{f g:Nat→Nat}:(L.map λb=>f b+g b).sum=(L.map f).sum+(L.map g).sum:=by(
induction L with
|nil=>rfl
|cons x L ih=>rw[mQ,mQ,mQ,d8,d8,d8,ih];lia)
theorem q0O{L:List Nat}{f g:Nat→Nat}(h:∀b∈L,f b=g b):(L.map f).sum=(L.map g).sum:=by rw[dW h]
theorem qKA{L:List Nat}{p:Nat→Bool}{c:Nat}:(L.map λb=>if p b=true then c else 0).sum=(L.filter p).length*c:=by(
induction L with
|nil=>rw[dD];simp
|cons x L ih=>
 rw[mQ,d8,ih,mU];by_cases h:p x=true
 ·rw[kL h,kL h,mY,rZ];lia
 rw[kJ h,kJ h];lia)
theorem qCK{L:List Nat}{p:Nat→Bool}{h:Nat→Nat}(nd:L.Nodup)(one:∀a∈L,∀b∈L,p a=true→p b=true→a=b):(L.map λb=>if p b=true then h b else 0).sum=match L.find? p with|some b=>h b|none=>0:=by(
induction L with
|nil=>rfl
|cons x L ih=>
 obtain⟨n1,n2⟩:=gD.mp nd;rw[mQ,d8,dX];by_cases hx:p x=true
 ·rw[hx,kL rfl];have:(L.map λb=>if p b=true then h b else 0).sum=(L.map λ_=>0).sum:=q0O λb hb=>by rw[kJ];intro z;exact n1 (by rw[one x (by simp) b (kB _ hb) hx z];exact hb)
  rw[this];have z:(L.map λ_=>0).sum=0:=by
   clear this ih nd one n1 n2;induction L with
   |nil=>rfl
   |cons y L ih=>rw[mQ,d8,ih]
  rw[z];rfl
 rw[kJ hx];rw[Bool.not_eq_true]at hx;rw[hx];rw[lU];exact ih n2 λa ha b hb=>one a (kB _ ha) b (kB _ hb))
section
variable{B P:Nat}{fi cl:List Int}{l:List Nat}
noncomputable abbrev noB(B:Nat):List Bool:=List.replicate B false
theorem qLJ(on:OneP B P fi)(wr:∀b,b<B→∃f:Nat,fi.getD b 0=(f:Int)∧f≤P)(p1:1≤P)(hl:FreeIs B (noB B) cl fi l):
 rm B P fi=l.length*P+(match jR B P (noB B) fi with|some b=>P-(fi.getD b 0).toNat|none=>0):=by(
have h1:l.length=((List.range B).filter λb=>decide (fi.getD b 0=0)).length:=by rw[hl.pm.length_eq];unfold yX;rw[yD]
unfold rm jR
rw[yD,h1,←qKA,←qCK (p:=jP P fi) (h:=λb=>P-(fi.getD b 0).toNat) lK (λa ha b hb=>on a b (gC.mp ha) (gC.mp hb)),←qCJ]
refine q0O λb hb=>?_
obtain⟨f,ef,hf⟩:=wr b (gC.mp hb)
unfold clr1 jP
rw[ef,mH]
by_cases z:f=0
·subst z;simp
by_cases y:f<P
·rw[kJ (by simp;lia),hC (by lia),hC (by lia)];simp
rw[kJ (by simp;lia),hU (show ¬(f:Int)<(P:Int) by lia)]
simp
lia)
theorem qA6{b:Nat}(h:jR B P (noB B) fi=some b):b<B∧0<fi.getD b 0∧fi.getD b 0<(P:Int):=by have:=q11 h;exact⟨this.1,this.2.2⟩
theorem q43(on:OneP B P fi)(wr:∀b,b<B→∃f:Nat,fi.getD b 0=(f:Int)∧f≤P)(p1:1≤P)(hl:FreeIs B (noB B) cl fi l):
 (jR B P (noB B) fi=none∧rm B P fi=l.length*P)∨∃b e,jR B P (noB B) fi=some b∧1≤e∧e<P∧rm B P fi=l.length*P+e∧fi.getD b 0+(e:Int)=(P:Int):=by(
have h:=qLJ on wr p1 hl
cases hp:jR B P (noB B) fi with
|none=>rw[hp]at h;exact .inl ⟨rfl,h⟩
|some b=>rw[hp]at h;obtain⟨a,c,d⟩:=qA6 hp;exact .inr ⟨b,P-(fi.getD b 0).toNat,rfl,by lia,by lia,h,by lia⟩)
theorem qHA{ie:Nat}(on:OneP B P fi)(wr:∀b,b<B→∃f:Nat,fi.getD b 0=(f:Int)∧f≤P)(p1:1≤P)(hl:FreeIs B (noB B) cl fi l):
 rdy (ie:Int) l (jR B P (noB B) fi)=decide ((1+ie)*P<rm B P fi):=by(
have key:∀e,e<P→((1+ie)*P<l.length*P+e↔(1+ie<l.length∨(1+ie=l.length∧0<e))):=λe he=>by
 rcases Nat.lt_trichotomy (1+ie) l.length with h|h|h
 ·have:=gR P (show 1+ie+1≤l.length from h);rw[rZ]at this;exact⟨λ_=>.inl h,λ_=>by lia⟩
 ·rw[h];exact⟨λz=>.inr ⟨rfl,by lia⟩,λz=>by lia⟩
 have:=gR P (show l.length+1≤1+ie from h);rw[rZ]at this;exact⟨λz=>by lia,λz=>by lia⟩
unfold rdy
rcases q43 on wr p1 hl with⟨h1,h2⟩|⟨b,e,h1,e1,e2,h2,_⟩
·rw[h1,h2];have k:=key 0 (by lia);rw[pP]at k;by_cases z:(1+ie)*P<l.length*P
 ·rw[hC z,hC (show(l.length:Int)-(1+(ie:Int))>0 by rcases k.mp z with h|h<;>lia)];rfl
 rw[hU z,hU (show ¬(l.length:Int)-(1+(ie:Int))>0 by intro y;exact z (k.mpr (.inl (by lia))))];simp
rw[h1,h2]
have k:=key e e2
by_cases z:(1+ie)*P<l.length*P+e
·rw[hC z];rcases k.mp z with h|h
 ·rw[hC (show(l.length:Int)-(1+(ie:Int))>0 by lia)];rfl
 rw[hC (show(l.length:Int)-(1+(ie:Int))=0 by lia)];simp
rw[hU z,hU (show ¬(l.length:Int)-(1+(ie:Int))>0 by intro y;exact z (k.mpr (.inl (by lia)))),hU (show ¬(l.length:Int)-(1+(ie:Int))=0 by intro y;exact z (k.mpr (.inr ⟨by lia,by lia⟩)))]
rfl)
theorem q8B(on:OneP B P fi)(wr:∀b,b<B→∃f:Nat,fi.getD b 0=(f:Int)∧f≤P)(p1:1≤P)(hl:FreeIs B (noB B) cl fi l)(h:0<rm B P fi):∃b,q1K B P (noB B) fi l=some b∧((jR B P (noB B) fi=some b)∨(jR B P (noB B) fi=none∧fi.getD b 0=0)):=by(
unfold q1K
rcases q43 on wr p1 hl with⟨h1,h2⟩|⟨b,e,h1,_⟩
·rw[h1];cases l with
 |nil=>rw[h2]at h;simp at h
 |cons x l=>exact⟨x,rfl,.inr ⟨rfl,(hl.mem (by simp)).2.2⟩⟩
rw[h1]
exact⟨b,rfl,.inl rfl⟩)
theorem qHB{L:List Nat}{f g:Nat→Nat}{b:Nat}(nd:L.Nodup)(hb:b∈L)(h:∀c∈L,c≠b→f c=g c):(L.map f).sum+g b=(L.map g).sum+f b:=by(
induction L with
|nil=>exact absurd hb (by simp)
|cons x L ih=>
 obtain⟨n1,n2⟩:=gD.mp nd;rw[mQ,mQ,d8,d8];rcases kN.mp hb with rfl|hb
 ·rw[q0O (L:=L) (f:=f) (g:=g) λc hc=>h c (kB _ hc) λz=>n1 (by rw[←z];exact hc)];lia
 have:=ih n2 hb λc hc=>h c (kB _ hc);have e:=h x (by simp) λz=>n1 (by rw[z];exact hb);lia)
theorem qFF{b:Nat}{v:Int}(hb:b<B)(lf:fi.length=B):rm B P (fi.set b v)+(P-(fi.getD b 0).toNat)=rm B P fi+(P-v.toNat):=by(
have:=qHB (L:=List.range B) (f:=clr1 P (fi.set b v)) (g:=clr1 P fi) (b:=b) lK (gC.mpr hb) λc _ hc=>by unfold clr1;rw[jJ,kJ (λz=>hc z.1.symm)]
unfold rm
have e:clr1 P (fi.set b v) b=P-v.toNat:=by unfold clr1;rw[jJ,kL ⟨rfl,by lia⟩]
rw[e]at this
exact this)
theorem qKB{b f:Nat}(hb:b<B)(lf:fi.length=B)(ef:fi.getD b 0=(f:Int))(hf:f<P):rm B P (fi.set b (fi.getD b 0+1))+1=rm B P fi:=by(
have:=qFF (P:=P) (v:=fi.getD b 0+1) hb lf
rw[ef]at this ⊢
have e1:((f:Int)).toNat=f:=mH f
have e2:((f:Int)+1).toNat=f+1:=by lia
rw[e1,e2]at this
lia)
theorem qHC{b:Nat}(hb:b<B)(lf:fi.length=B)(ef:fi.getD b 0=(P:Int)):rm B P (fi.set b 0)=rm B P fi+P:=by(
have:=qFF (P:=P) (v:=0) hb lf
rw[ef]at this
have e1:((P:Int)).toNat=P:=mH P
rw[e1]at this
simpa using this)
theorem qHD{b:Nat}(on:OneP B P fi)(hb:b<B)(lf:fi.length=B)(h:(jR B P (noB B) fi=some b)∨(jR B P (noB B) fi=none∧fi.getD b 0=0)):OneP B P (fi.set b (fi.getD b 0+1)):=by(
have other:∀c,c<B→c≠b→jP P (fi.set b (fi.getD b 0+1)) c=true→False:=λc hc nc hp=>by
 have hp':jP P fi c=true:=by unfold jP at hp ⊢;rw[jJ,kJ (λz=>nc z.1.symm)]at hp;exact hp
 rcases h with h|⟨h,_⟩
 ·have h2:jP P fi b=true:=rG h;exact nc (on c b hc hb hp' h2)
 have:=wW.mp h c (by rw[yD];exact gC.mpr hc);exact this hp'
intro c d hc hd pc pd
by_cases e1:c=b
·by_cases e2:d=b
 ·rw[e1,e2]
 exact(other d hd e2 pd).elim
exact(other c hc e1 pc).elim)
theorem qFG{b:Nat}(on:OneP B P fi):OneP B P (fi.set b 0):=by(
have old:∀c,c<B→jP P (fi.set b 0) c=true→jP P fi c=true:=λc hc hp=>by
 unfold jP at hp ⊢;rw[jJ]at hp;split at hp
 ·simp at hp
 exact hp
exact λc d hc hd pc pd=>on c d hc hd (old c hc pc) (old d hd pd))
theorem qHE{V:Mp}:∀{L:List Nat},L.Nodup→(L.map (cntB P V)).sum≤V.length:=by(
induction V with
|nil=>
 intro L _;have:(L.map (cntB P [])).sum=(L.map λ_=>0).sum:=q0O λb _=>rfl;rw[this];clear this;induction L with
 |nil=>exact kO _
 |cons x L ih=>rename_i h;rw[mQ,d8];have:=ih (gD.mp h).2;lia
|cons x V ih=>
 intro L nd;have e:(L.map (cntB P (x::V))).sum=(L.map (cntB P V)).sum+(L.map λb=>if(λb:Nat=>decide (x.2 / (P:Int)=(b:Int))) b=true then 1 else 0).sum:=by rw[←qCJ];refine q0O λb _=>?_;unfold cntB;rw[pX]
 rw[e,qCK (h:=λ_=>1) nd λa _ b _ ha hb=>by have h1:=mP ha;have h2:=mP hb;lia];have:=ih nd;rw[mY];cases L.find? (λb:Nat=>decide (x.2 / (P:Int)=(b:Int)))with
 |none=>show _ +0≤_;lia
 |some b=>show _ +1≤_;lia)
theorem qFH{L:List Nat}{f:Nat→Nat}{k:Nat}(h:∀b∈L,k≤f b):L.length*k≤(L.map f).sum:=by(
induction L with
|nil=>simp
|cons x L ih=>rw[mY,mQ,d8,rZ];have:=ih λb hb=>h b (kB _ hb);have:=h x (by simp);lia)
theorem qFI(on:OneP B P fi)(wr:∀b,b<B→∃f:Nat,fi.getD b 0=(f:Int)∧f≤P)(p1:1≤P)(hl:FreeIs B (noB B) cl fi l)(hp:jR B P (noB B) fi=none):(yB B P (noB B) fi).length+l.length=B:=by(
have h1:l.length=((List.range B).filter λb=>decide (fi.getD b 0=0)).length:=by rw[hl.pm.length_eq];unfold yX;rw[yD]
have h2:yB B P (noB B) fi=(List.range B).filter λb=>!decide (fi.getD b 0=0):=by
 unfold yB;rw[yD];refine cJ λb hb=>?_;obtain⟨f,ef,hf⟩:=wr b (gC.mp hb);have np:=wW.mp hp b (by rw[yD];exact hb);unfold jP at np;rw[ef]at np ⊢;by_cases z:f=0
 ·subst z;rw[hC (show((0:Nat):Int)=0 from rfl),hU (by lia)];rfl
 rw[hU (show ¬(f:Int)=0 by lia)];by_cases y:f<P
 ·exact(np (by rw[hC (show(0:Int)<(f:Int) by lia),hC (show(f:Int)<(P:Int) by lia)];rfl)).elim
 exact hC (by lia)
rw[h1,h2]
have e:∀{L:List Nat} {p:Nat→Bool},(L.filter λb=>!p b).length+(L.filter p).length=L.length:=by
 intro L p;induction L with
 |nil=>rfl
 |cons x L ih=>rw[mU,mU];cases p x<;>simp<;>lia
have:=e (L:=List.range B) (p:=λb=>decide (fi.getD b 0=0))
rw[mG]at this
exact this)
end
section
variable{q:QM}{m:CM}{l:List Nat}
theorem qFJ{b f:Nat}{n:Int}(hf:f<q.P):qFE q (q.nx,b*q.P+f,n)=q.put b f n:=by show({ q with nx:=q.nx }:QM).put ((b*q.P+f) / q.P) ((b*q.P+f)%q.P) n=_;rw[yQ hf,cR,l9,lL hf]
theorem QS.put{b f:Nat}{n:Int}(h:QS q)(hb:b<q.B)(hf:f<q.P)(ef:q.fi.getD b 0=(f:Int))(n0:0≤n)(n1:n≤64):QS (q.put b f n):=by(
have ft:Fits q (q.nx,b*q.P+f,n):=by
 refine⟨?_,?_,gL _,n0,n1⟩
 ·show(b*q.P+f) / q.P<q.B;rw[yQ hf];exact hb
 show q.fi.getD ((b*q.P+f) / q.P) 0=(((b*q.P+f)%q.P:Nat):Int);rw[yQ hf,ef,cR,l9,lL hf]
have:=ft.qs h
rw[qFJ hf]at this
exact this)
theorem uN{b f:Nat}{n:Int}{x:Int×Int}:x∈(q.put b f n).V↔x=(n,((b*q.P+f:Nat):Int))∨(x∈q.V∧x.1≠n):=by show x∈jN q.V n++[(n,((b*q.P+f:Nat):Int))]↔_;rw[gN,j9,kD];exact⟨λh=>h.symm,λh=>h.symm⟩
theorem QS.forget(h:QS q)(n:Int):QS (q.forget n):=⟨h.ok.forget n,λb hb=>qCI h n hb⟩
noncomputable def QM.emptied(q:QM)(b:Nat):QM:={ q with fi:=q.fi.set b 0,bo:=q.bo.set b 0 }
theorem QS.emptied(h:QS q)(b:Nat):QS (q.emptied b):=by(
refine⟨{ h.ok with lf:=by show(q.fi.set b 0).length=q.B;rw[gJ];exact h.ok.lf,lo:=by show(q.bo.set b 0).length=q.B;rw[gJ];exact h.ok.lo,wr:=λc hc=>?_ },h.lv⟩
show ∃f:Nat,(q.fi.set b 0).getD c 0=(f:Int)∧f≤q.P
rw[jJ]
split
·exact⟨0,rfl,m9 _⟩
exact h.ok.wr c hc)
noncomputable def tlOf(m:CM)(q:QM)(b:Nat):Tl:=⟨(b:Int),q.lv.getD b 0,m.cl.getD b 0,q.bo.getD b 0⟩
theorem qFK{f:Tl→Int}{ts:List Tl}(h:ts≠[]):∃T∈ts,pk f ts=T.b∧∀o∈ts,f T≤f o:=by obtain⟨i,hi,hu,hn⟩:=q6B f ts h;exact⟨ts[i],gH hi,qIH hi hu hn,λo ho=>by have:=q5N.mp hu o ho;lia⟩
theorem qFL{ie:Nat}(h:QS q)(on:OneP q.B q.P q.fi)(br:m.br=noB q.B)(hl:FreeIs q.B (noB q.B) m.cl q.fi l)(hr:rm q.B q.P q.fi=(1+ie)*q.P)(hv:q.V.length<(q.B-(1+ie))*q.P):
 optN (ie:Int) m q l≠[]∧∀b∈optN (ie:Int) m q l,(∀c∈optN (ie:Int) m q l,q.lv.getD b 0≤q.lv.getD c 0)→cntB q.P q.V b*(q.B-(1+ie))≤q.V.length:=by(
have p1:=h.ok.p1
have ll:jR q.B q.P (noB q.B) q.fi=none∧l.length=1+ie:=by
 rcases q43 on h.ok.wr p1 hl with⟨h1,h2⟩|⟨b,e,h1,e1,e2,h2,_⟩
 ·refine⟨h1,?_⟩;rw[hr]at h2;exact(Nat.eq_of_mul_eq_mul_right (by lia) h2).symm
 exfalso;rw[hr]at h2;have k:(1+ie)*q.P%q.P=e:=by rw[h2,cR,l9,lL e2]
 rw[Nat.mul_mod_left]at k;lia
have fl:=qFI on h.ok.wr p1 hl ll.1
have flC:(yB q.B q.P (noB q.B) q.fi).length=q.B-(1+ie):=by lia
have hsp:spcN (ie:Int) l q.P q.fi (jR q.B q.P (noB q.B) q.fi)=(q.P:Int):=by unfold spcN;rw[kL (by lia)]
have ndF:(yB q.B q.P (noB q.B) q.fi).Nodup:=by unfold yB;rw[yD];exact r9 _ lK
have hB:∀b∈yB q.B q.P (noB q.B) q.fi,b<q.B:=λb hb=>by unfold yB at hb;rw[yD]at hb;exact gC.mp (mV.mp hb).1
have memo:∀b,b∈optN (ie:Int) m q l↔b∈yB q.B q.P (noB q.B) q.fi∧cntB q.P q.V b<q.P:=λb=>by
 unfold optN;rw[br,hsp,mV,mV,mJ,mJ];constructor
 ·rintro⟨⟨a,_⟩,c⟩
  rw[h.lv b (hB b a)]at c;exact⟨a,by lia⟩
 rintro⟨a,c⟩
 rw[h.lv b (hB b a)];exact⟨⟨a,by lia⟩,by lia⟩
have cs:=qHE (P:=q.P) (V:=q.V) ndF
constructor
·intro z;have:(yB q.B q.P (noB q.B) q.fi).length*q.P≤((yB q.B q.P (noB q.B) q.fi).map (cntB q.P q.V)).sum:=qFH λb hb=>by refine cT λy=>?_;have:b∈optN (ie:Int) m q l:=(memo b).mpr ⟨hb,by lia⟩;rw[z]at this;cases this
 rw[flC]at this;lia
intro b hb hmin
obtain⟨bF,bP⟩:=(memo b).mp hb
have:(yB q.B q.P (noB q.B) q.fi).length*cntB q.P q.V b≤((yB q.B q.P (noB q.B) q.fi).map (cntB q.P q.V)).sum:=qFH λc hc=>by
 by_cases y:cntB q.P q.V c<q.P
 ·have:=hmin c ((memo c).mpr ⟨hc,y⟩);rw[h.lv b (hB b bF),h.lv c (hB c hc)]at this;lia
 lia
rw[flC,cR]at this
lia)
end
theorem qKC{V:Mp}(nd:(V.map (·.1)).Nodup):V.length≤((V.map (·.1)).filter λn=>decide (n≠64)).length+1:=by(
have e:∀{L:List Int},L.Nodup→L.length≤(L.filter λn=>decide (n≠64)).length+1:=by
 intro L;induction L with
 |nil=>intro _;exact m9 _
 |cons y L ih=>
  intro nd;obtain⟨n1,n2⟩:=gD.mp nd;rw[mU];by_cases z:y=64
  ·rw[kJ (by simp[z])];have:L.filter (λn=>decide (n≠64))=L:=rJ.mpr λw hw=>hC λe=>n1 (by rw[z,←e];exact hw);rw[this];exact kO _
  rw[kL (hC z),mY,mY];have:=ih n2;lia
have:=e nd
rw[hG]at this
exact this)
inductive Rl where
|rk (f:Int→Int→Tl→Int)
|win (m:Int)
|fol (row:List Int) (u:Nat)
noncomputable def Rl.Ok:Rl→Prop
| .win m=>1≤m
|_=>True
noncomputable def leL(k:Tl→List Int)(a b:Tl):Bool:=!lx (k b) (k a)
noncomputable def winC(m:Int)(ts:List Tl):List Tl:=((ts.mergeSort (leL λT=>[T.bo,T.b])).take m.toNat).mergeSort (leL Tl.ns)
theorem qHF{m:Int}{ts:List Tl}:∀o∈winC m ts,o∈ts:=λo ho=>pE.mp (List.mem_of_mem_take (pE.mp ho))
theorem qHG{m:Int}{ts:List Tl}(m1:1≤m)(h:ts≠[]):winC m ts≠[]:=λz=>by(
have:=dO List.length z
unfold winC at this
rw[xD,gE,xD,rW]at this
have:=sS.mpr h
lia)
noncomputable def fo(row:List Int)(u:Nat)(ts:List Tl):Int:=match row[u]? with
|some n=>if n∈ts.map Tl.b then n else(ts.map Tl.b).headD 0
|none=>(ts.map Tl.b).headD 0
noncomputable def Rl.ch:Rl→Int→Int→List Tl→Int×Rl
| .rk f,pg,nw,ts=>(pk (f pg nw) ts,.rk f)
| .win m,_,_,ts=>(pk Tl.lv (winC m ts),.win m)
| .fol row u,_,_,ts=>(fo row u ts,.fol row (min (u+1) row.length))
noncomputable def minF(cl:List Int):List Nat→Option Nat
| []=>none
|b::L=>match minF cl L with
 |none=>some b
 |some c=>if cl.getD c 0<cl.getD b 0 then some c else some b
noncomputable def spF(q:QM)(cl:List Int):Nat:=match(List.range q.B).find? (jP q.P q.fi)with
|some b=>b
|none=>(minF cl ((List.range q.B).filter λb=>decide (q.fi.getD b 0=0))).getD 0
section
variable{B P:Nat}{q:QM}{m:CM}{cl fi:List Int}{l:List Nat}
theorem q2S:∀{L:List Nat},L.Pairwise (· < ·)→(minF cl L=none→L=[])∧∀b,minF cl L=some b→b∈L∧∀c∈L,lx (keyN cl c) (keyN cl b)=false
| [],_=>⟨λ_=>rfl,λb h=>by cases h⟩
|a::L,pw=>by
 obtain⟨p1,p2⟩:=g7.mp pw;obtain⟨h1,h2⟩:=q2S p2;unfold minF;cases z:minF cl L with
 |none=>
  have:=h1 z;subst this;refine⟨λy=>(by cases y),λb h=>?_⟩;injection h with h
  subst h;exact⟨by simp,λc hc=>by rw[kD.mp hc];exact q39 _⟩
 |some c=>
  obtain⟨g1,g2⟩:=h2 c z;have hac:=p1 c g1;dsimp only;by_cases y:cl.getD c 0<cl.getD a 0
  ·rw[kL y];refine⟨λw=>(by cases w),λb h=>?_⟩;injection h with h
   subst h;refine⟨kB _ g1,λd hd=>?_⟩;rcases kN.mp hd with e|e
   ·subst e;unfold keyN lx;rw[kJ (by lia)];exact hU (by lia)
   exact g2 d e
  rw[kJ y];refine⟨λw=>(by cases w),λb h=>?_⟩;injection h with h
  subst h;refine⟨by simp,λd hd=>?_⟩;rcases kN.mp hd with e|e
  ·subst e;exact q39 _
  refine qIK (b:=keyN cl c) ?_ (g2 d e);unfold keyN lx;by_cases w:cl.getD c 0=cl.getD a 0
  ·rw[kL w];unfold lx;rw[kJ (by lia)];exact hU (by lia)
  rw[kJ w];exact hU (by lia)
theorem qDK(hl:FreeIs B (noB B) cl fi l):l.head?=minF cl ((List.range B).filter λb=>decide (fi.getD b 0=0)):=by(
have pm:=hl.pm
unfold yX at pm
rw[yD]at pm
have pw:((List.range B).filter λb=>decide (fi.getD b 0=0)).Pairwise (· < ·):=r9 _ rN
obtain⟨h1,h2⟩:=q2S (cl:=cl) pw
cases l with
|nil=>rw[xW.mp pm];rfl
|cons a r=>
 cases z:minF cl ((List.range B).filter λb=>decide (fi.getD b 0=0))with
 |none=>rw[h1 z]at pm;have:=pm.length_eq;cases this
 |some b=>
  obtain⟨g1,g2⟩:=h2 b z;have so:=hl.so;rw[mQ]at so;have so:=(g7.mp so).1;have hb:=pm.mem_iff.mpr g1;have e:a=b:=by
   rcases kN.mp hb with e|e
   ·exact e.symm
   exact qH6 (q4N _ _ (g2 a (pm.mem_iff.mp (by simp))) (so _ (kP.mpr ⟨b,e,rfl⟩)))
  rw[e];rfl)
theorem qKD(on:OneP q.B q.P q.fi)(wr:∀b,b<q.B→∃f:Nat,q.fi.getD b 0=(f:Int)∧f≤q.P)(p1:1≤q.P)(hl:FreeIs q.B (noB q.B) cl q.fi l)(h:0<rm q.B q.P q.fi):q1K q.B q.P (noB q.B) q.fi l=some (spF q cl):=by(
obtain⟨b,hb,_⟩:=q8B on wr p1 hl h
rw[hb]
unfold q1K jR at hb
unfold spF
rw[yD]at hb
cases z:(List.range q.B).find? (jP q.P q.fi)with
|some c=>rw[z]at hb;exact hb.symm
|none=>rw[z]at hb;rw[←qDK hl];have hb:l.head?=some b:=hb;rw[hb];rfl)
noncomputable def lvP(P b:Nat)(V:Mp):List (List Int):=(List.range P).filterMap λf=>(V.find? λy=>decide (y.2=((b*P+f:Nat):Int))).map λy=>[y.2,y.1]
theorem q44{P b:Nat}{V:Mp}(hP:1≤P)(pd:(V.map (·.2)).Nodup){k:List Int}:k∈lvP P b V↔∃y∈V,y.2 / (P:Int)=(b:Int)∧k=[y.2,y.1]:=by(
unfold lvP
rw[wT]
constructor
·rintro⟨f,hf,e⟩
 have hf:=gC.mp hf;cases z:V.find? λy=>decide (y.2=((b*P+f:Nat):Int))with
 |none=>rw[z]at e;cases e
 |some y=>
  rw[z]at e;have e1:=dY z;have e2:y.2=((b*P+f:Nat):Int):=by simpa using rG z
  refine⟨y,e1,?_,(kZ e).symm⟩;rw[e2,←rP,yQ hf]
rintro⟨y,hy,hb,rfl⟩
have h0:0≤y.2:=by refine cT λz=>?_;have:=Int.ediv_neg_of_neg_of_pos (a:=y.2) (b:=(P:Int)) (by lia) (by lia);lia
have e:=Int.mul_ediv_add_emod y.2 (P:Int)
have m0:=bD y.2 (show(P:Int)≠0 by lia)
have m1:=x9 y.2 (show(0:Int)<(P:Int) by lia)
refine⟨(y.2%(P:Int)).toNat,gC.mpr (by lia),?_⟩
have ey:y.2=((b*P+(y.2%(P:Int)).toNat:Nat):Int):=by rw[sL,dE,←hb,Int.mul_comm];lia
cases z:V.find? λw=>decide (w.2=((b*P+(y.2%(P:Int)).toNat:Nat):Int))with
|none=>exact absurd (hC ey) (wW.mp z y hy)
|some w=>
 have e1:=dY z;have e2:w.2=((b*P+(y.2%(P:Int)).toNat:Nat):Int):=by simpa using rG z
 have:w=y:=by
  clear z;induction V with
  |nil=>cases e1
  |cons v V ih=>
   rw[mQ]at pd;obtain⟨n1,n2⟩:=gD.mp pd;rcases kN.mp e1 with a|a<;>rcases kN.mp hy with c|c
   ·rw[a,c]
   ·exact(n1 (by rw[←a,e2,←ey];exact kP.mpr ⟨y,c,rfl⟩)).elim
   ·exact(n1 (by rw[←c,ey,←e2];exact kP.mpr ⟨w,a,rfl⟩)).elim
   exact ih n2 c a
 rw[this];rfl)
theorem qBC{P b:Nat}{V:Mp}:(lvP P b V).Pairwise λa c=>lx c a=false∧a≠c:=by(
unfold lvP
refine List.pairwise_filterMap.mpr (rN.imp fun {f g} hfg k hk k' hk'=>?_)
cases z:V.find? λy=>decide (y.2=((b*P+f:Nat):Int))with
|none=>rw[z]at hk;cases hk
|some y=>
 cases z':V.find? λy=>decide (y.2=((b*P+g:Nat):Int))with
 |none=>rw[z']at hk';cases hk'
 |some y'=>
  rw[z]at hk;rw[z']at hk';have e2:y.2=((b*P+f:Nat):Int):=by simpa using rG z
  have e3:y'.2=((b*P+g:Nat):Int):=by simpa using rG z'
  obtain rfl:[y.2,y.1]=k:=kZ hk;obtain rfl:[y'.2,y'.1]=k':=kZ hk';refine⟨?_,λw=>?_⟩
  ·unfold lx;rw[kJ (by lia)];exact hU (by lia)
  injection w with w _
  lia)
theorem qHH{P b:Nat}{V:Mp}{rs:List (List Int)}(hP:1≤P)(pd:(V.map (·.2)).Nodup)(nd:rs.Nodup)(mm:∀k,k∈rs↔∃n p,k=[p,n]∧(n,p)∈V∧p / (P:Int)=(b:Int))(so:rs.Pairwise λa b=>lx b a=false):rs=lvP P b V:=by(
refine qF5 (q2Q nd (qBC.imp λz=>z.2) λk=>?_) so (qBC.imp λz=>z.1)
rw[mm,q44 hP pd]
constructor
·rintro⟨n,p,rfl,h1,h2⟩
 exact⟨(n,p),h1,h2,rfl⟩
rintro⟨y,h1,h2,rfl⟩
exact⟨y.1,y.2,rfl,h1,h2⟩)
end
structure XS where
q:QM
cl:List Int
pg:Nat→Option (Int×Int)
lf:Option Int
rc:List (Str×Int×Bool)
structure Tm where
ie:Nat
sp:Int
ev:Bool
noncomputable def mnL:List Int→Option Int
| []=>none
|a::l=>match mnL l with
 |none=>some a
 |some m=>some (if a≤m then a else m)
theorem qBD:∀{l:List Int},l≠[]→∃m,mnL l=some m∧m∈l∧∀a∈l,m≤a
| [],h=>absurd rfl h
| [a],_=>⟨a,rfl,by simp,λb hb=>by rw[kD.mp hb];exact gL _⟩
|a::b::l,_=>by
 obtain⟨m,e,h1,h2⟩:=qBD (l:=b::l) (by simp);unfold mnL;rw[e];by_cases z:a≤m
 ·refine⟨a,by dsimp only;rw[kL z],by simp,λc hc=>?_⟩;rcases kN.mp hc with e|hc
  ·rw[e];exact gL _
  exact sV z (h2 c hc)
 refine⟨m,by dsimp only;rw[kJ z],kB _ h1,λc hc=>?_⟩;rcases kN.mp hc with e|hc
 ·rw[e];lia
 exact h2 c hc
namespace XS
variable(s:XS)
noncomputable def pb:Nat:=spF s.q s.cl
noncomputable def pf:Nat:=(s.q.fi.getD s.pb 0).toNat
noncomputable def np:Nat:=s.pb*s.q.P+s.pf
noncomputable def put(n v:Int):XS:=⟨s.q.put s.pb s.pf n,s.cl,λi=>if i=s.np then some (s.q.nx*128+n,v)else s.pg i,s.lf.map (· - 1),s.rc++[(Str.ofString "put",(s.np:Int),true)]⟩
noncomputable def wip(b:Nat):XS:=⟨s.q.emptied b,s.cl.set b (s.cl.getD b 0+1),λi=>if i / s.q.P=b then none else s.pg i,s.lf.map (· - 1),s.rc++[(Str.ofString "wipe",(b:Int),true)]⟩
noncomputable def forg(n:Int):XS:={ s with q:=s.q.forget n }
noncomputable def rmX:Nat:=rm s.q.B s.q.P s.q.fi
noncomputable def hl:List Int:=((s.q.V.map (·.1)).filter λn=>decide (n≠64)).mergeSort λa b=>decide (a≤b)
noncomputable def bits(ns:List Int):Int:=((orB (ns.map Int.toNat) 0:Nat):Int)
noncomputable def val(p n:Int):Int:=if n=64 then bits s.hl else((s.pg p.toNat).getD (0,0)).2
noncomputable def mvs:List (List Int)→XS→XS×Option (List (List Int))
| [],s=>(s,some [])
|k::r,s=>if s.lf=some 0 then(s,none)else
 match mvs r (s.put (k.getD 1 0) (s.val (k.getD 0 0) (k.getD 1 0)))with
 |(s',none)=>(s',none)
 |(s',some ms)=>(s',some ([k.getD 1 0,k.getD 0 0,(s.np:Int)]::ms))
noncomputable def spc(k:Tm):Int:=if(1+k.ie)*s.q.P≤s.rmX then(s.q.P:Int)else(s.rmX:Int)-(k.ie*s.q.P:Nat)
noncomputable def ful(k:Tm):List Nat:=(List.range s.q.B).filter λb=>decide (s.q.fi.getD b 0=(s.q.P:Int))&&decide (s.q.lv.getD b 0≤s.spc k)
noncomputable def ded(k:Tm):List Nat:=(s.ful k).filter λb=>decide (s.q.lv.getD b 0<(s.q.P:Int))
noncomputable def lst:Int:=(mnL s.cl).getD 0
noncomputable def clb(k:Tm)(L:List Nat):List Nat:=L.filter λb=>decide (s.cl.getD b 0<s.lst+k.sp)
noncomputable def opt(k:Tm):List Nat:=if k.ev then s.clb k (s.ded k)else s.ded k
noncomputable def tl(b:Nat):Tl:=⟨(b:Int),s.q.lv.getD b 0,s.cl.getD b 0,s.q.bo.getD b 0⟩
noncomputable def ots(k:Tm):List Tl:=(s.opt k).map s.tl
noncomputable def chg(k:Tm):Option Nat:=minF s.cl (s.clb k (s.ful k))
noncomputable def rd(k:Tm):Bool:=decide ((1+k.ie)*s.q.P<s.rmX)
noncomputable def tk(k:Tm)(g:Rl):Option (Str×Nat×Rl):=if s.opt k=[]then(if k.ev then(s.chg k).map λb=>("even",b,g)else none)
 else some ("rule",(g.ch (s.q.P:Int) s.q.nx (s.ots k)).1.toNat,(g.ch (s.q.P:Int) s.q.nx (s.ots k)).2)
end XS
inductive Rf where
|dark|room
structure Pa where
why:Str
ts:List Tl
b:Nat
mv:List (List Int)
structure Sx where
s:XS
g:Rl
ps:List Pa
namespace Sx
noncomputable def room(k:Tm)(X:Sx):Sx×Except Rf Pa:=match X.s.tk k X.g with
|none=>(X,.error .room)
|some (y,b,g)=>match XS.mvs (lvP X.s.q.P b X.s.q.V) X.s with
 |(s,none)=>(⟨s,g,X.ps⟩,.error .dark)
 |(s,some ms)=>if s.lf=some 0 then(⟨s,g,X.ps⟩,.error .dark)else(⟨s.wip b,g,X.ps++[⟨y,X.s.ots k,b,ms⟩]⟩,.ok ⟨y,X.s.ots k,b,ms⟩)
noncomputable def rooms(k:Tm):Nat→Sx→Option (Sx×Except Rf Unit)
|0,X=>if X.s.rd k then some (X,.ok ())else none
|i+1,X=>if X.s.rd k then some (X,.ok ())else match X.room k with
 |(Y,.error e)=>some (Y,.error e)
 |(Y,.ok _)=>rooms k i Y
noncomputable def ask(k:Tm)(i:Nat)(X:Sx)(n v:Int):Option (Sx×Except Rf Nat):=match X.rooms k i with
|none=>none
|some (Y,.error e)=>some (Y,.error e)
|some (Y,.ok _)=>if Y.s.lf=some 0 then some (Y,.error .dark)else some (⟨Y.s.put n v,Y.g,Y.ps⟩,.ok Y.s.np)
end Sx
structure WX(k:Tm)(s:XS):Prop where
qs:QS s.q
on:OneP s.q.B s.q.P s.q.fi
lc:s.cl.length=s.q.B
cr:∀b f:Nat,b<s.q.B→s.q.fi.getD b 0≤(f:Int)→f<s.q.P→s.pg (b*s.q.P+f)=none
vl:∀y∈s.q.V,∃b f:Nat,∃v:Int×Int,b<s.q.B∧f<s.q.P∧y.2=((b*s.q.P+f:Nat):Int)∧(f:Int)<s.q.fi.getD b 0∧s.pg (b*s.q.P+f)=some v
pd:(s.q.V.map (·.2)).Nodup
c0:∀b,0≤s.cl.getD b 0∧s.cl.getD b 0≤(s.rc.length:Int)
bo:∀b,0≤s.q.bo.getD b 0∧s.q.bo.getD b 0<s.q.nx
nx:1≤s.q.nx
sl:k.ie*s.q.P≤s.rmX
l6:s.q.V.length<60
l0:∀i,s.lf=some i→0≤i
theorem q6L{P b f c g:Nat}(hf:f<P)(hg:g<P)(e:b*P+f=c*P+g):b=c∧f=g:=by(
have h1:=yQ (b:=b) hf
have h2:=yQ (b:=c) hg
rw[e,h2]at h1
subst h1
exact⟨rfl,by lia⟩)
theorem q6M{V:Mp}{n:Int}(nd:(V.map (·.1)).Nodup):(jN V n).length≤V.length∧∀p,(n,p)∈V→(jN V n).length+1=V.length:=by(
refine⟨mC _ _,λp h=>?_⟩
induction V with
|nil=>exact absurd h (by simp)
|cons y V ih=>
 rw[mQ]at nd;obtain⟨n1,n2⟩:=gD.mp nd;unfold jN;rw[mU];rcases kN.mp h with e|h
 ·subst e;rw[kJ (by simp),mY];have:V.filter (λq=>decide (q.1≠n))=V:=rJ.mpr λz hz=>hC λe=>n1 (kP.mpr ⟨z,hz,e⟩);rw[this]
 have ne:y.1≠n:=λe=>n1 (kP.mpr ⟨_,h,e.symm⟩);rw[kL (hC ne),mY,mY];have:=ih n2 h;unfold jN at this;lia)
section
variable{k:Tm}{s:XS}
theorem WX.spot(h:WX k s)(hr:0<s.rmX):s.pb<s.q.B∧s.pf<s.q.P∧s.q.fi.getD s.pb 0=(s.pf:Int)∧((jR s.q.B s.q.P (noB s.q.B) s.q.fi=some s.pb)∨(jR s.q.B s.q.P (noB s.q.B) s.q.fi=none∧s.q.fi.getD s.pb 0=0))∧∀l,FreeIs s.q.B (noB s.q.B) s.cl s.q.fi l→q1K s.q.B s.q.P (noB s.q.B) s.q.fi l=some s.pb:=by(
have p1:=h.qs.ok.p1
have sp:∀l,FreeIs s.q.B (noB s.q.B) s.cl s.q.fi l→q1K s.q.B s.q.P (noB s.q.B) s.q.fi l=some s.pb:=λl hl=>qKD h.on h.qs.ok.wr p1 hl hr
obtain⟨l,hl⟩:=FreeIs.ex s.q.B (noB s.q.B) s.cl s.q.fi
have hsp:=sp l hl
obtain⟨b,hb,hc⟩:=q8B h.on h.qs.ok.wr p1 hl hr
rw[hsp]at hb
obtain rfl:=kZ hb
obtain⟨hB,_,f0,f1⟩:=qA5 hl p1 hsp
have:(s.pf:Int)=s.q.fi.getD s.pb 0:=by unfold XS.pf;lia
exact⟨hB,by lia,this.symm,hc,sp⟩)
theorem qBE{b f:Nat}{n:Int}{q:QM}(lf:q.fi.length=q.B)(hb:b<q.B)(ef:q.fi.getD b 0=(f:Int))(c:Nat):(q.put b f n).fi.getD c 0=if b=c then(f:Int)+1 else q.fi.getD c 0:=by(
show(q.fi.set b (q.fi.getD b 0+1)).getD c 0=_
rw[ef,jJ,lf]
by_cases e:b=c
·rw[kL ⟨e,hb⟩,kL e]
rw[kJ (λz=>e z.1),kJ e])
theorem WX.put(h:WX k s){n v:Int}(hr:k.ie*s.q.P<s.rmX)(n0:0≤n)(n1:n≤64)(hl:(∃p,(n,p)∈s.q.V)∨s.q.V.length<59)(dk:s.lf≠some 0):WX k (s.put n v)∧(s.put n v).rmX+1=s.rmX:=by(
obtain⟨hb,hf,ef,sp,_⟩:=h.spot (by lia)
have okq:=h.qs.ok
have gfi:∀c,(s.put n v).q.fi.getD c 0=if s.pb=c then(s.pf:Int)+1 else s.q.fi.getD c 0:=qBE okq.lf hb ef
have rm1:(s.put n v).rmX+1=s.rmX:=qKB hb okq.lf ef hf
refine⟨⟨h.qs.put hb hf ef n0 n1,qHD h.on hb okq.lf sp,h.lc,λc g hc hg hgP=>?_,λy hy=>?_,?_,λc=>?_,λc=>?_,?_,?_,?_,λi e=>?_⟩,rm1⟩
·have hgP:g<s.q.P:=hgP;rw[gfi]at hg;show(if c*s.q.P+g=s.np then some (s.q.nx*128+n,v)else s.pg (c*s.q.P+g))=none;by_cases e:s.pb=c
 ·subst e;rw[kL rfl]at hg;rw[kJ (by unfold XS.np;lia)];exact h.cr _ g hc (by lia) hgP
 rw[kJ e]at hg;rw[kJ (λ(z:c*s.q.P+g=s.np)=>e (q6L hgP hf z).1.symm)];exact h.cr c g hc hg hgP
·rcases uN.mp hy with e|⟨hy,hne⟩
 ·rw[e];refine⟨s.pb,s.pf,_,hb,hf,rfl,?_,kL rfl⟩;rw[gfi,kL rfl];lia
 obtain⟨c,g,w,a1,a2,a3,a4,a5⟩:=h.vl y hy;refine⟨c,g,w,a1,a2,a3,?_,?_⟩
 ·rw[gfi];by_cases e:s.pb=c
  ·subst e;rw[kL rfl];lia
  rw[kJ e];exact a4
 show(if c*s.q.P+g=s.np then some (s.q.nx*128+n,v)else s.pg (c*s.q.P+g))=some w;rw[kJ (λ(z:c*s.q.P+g=s.np)=>?_)]
 ·exact a5
 obtain⟨e1,e2⟩:=q6L a2 hf z;rw[e1,ef]at a4;lia
·show((jN s.q.V n++[(n,((s.pb*s.q.P+s.pf:Nat):Int))]).map (·.2)).Nodup;rw[mM];refine r6.mpr ⟨?_,by simp,λa ha c hc=>?_⟩
 ·exact pT (aX _ cW) h.pd
 obtain⟨y,hy,rfl⟩:=kP.mp ha;have hc:c=((s.pb*s.q.P+s.pf:Nat):Int):=by simpa using hc
 rw[hc];intro z;obtain⟨c',g,w,a1,a2,a3,a4,a5⟩:=h.vl y (j9.mp hy).1;rw[a3]at z;obtain⟨e1,e2⟩:=q6L a2 hf (by exact eN z);rw[e1,ef]at a4;lia
·show 0≤s.cl.getD c 0∧s.cl.getD c 0≤((s.rc++[_]).length:Int);have:=h.c0 c;rw[mL,gQ];lia
·show 0≤(if s.q.fi.getD s.pb 0=0 then s.q.bo.set s.pb s.q.nx else s.q.bo).getD c 0∧(if s.q.fi.getD s.pb 0=0 then s.q.bo.set s.pb s.q.nx else s.q.bo).getD c 0<s.q.nx+1;have:=h.bo c;have:=h.nx;split
 ·rw[jJ];split<;>lia
 lia
·show 1≤s.q.nx+1;have:=h.nx;lia
·show k.ie*s.q.P≤(s.put n v).rmX;lia
·show(jN s.q.V n++[_]).length<60;rw[mL,gQ];obtain⟨d1,d2⟩:=q6M (V:=s.q.V) (n:=n) okq.nd;have:=h.l6;rcases hl with⟨p,hp⟩|hl
 ·have:=d2 p hp;lia
 lia
have e:s.lf.map (· - 1)=some i:=e
cases z:s.lf with
|none=>rw[z]at e;cases e
|some j=>rw[z]at e;have e:j-1=i:=kZ e;have:=h.l0 j z;have:j≠0:=λy=>dk (by rw[z,y]);lia)
theorem WX.wip(h:WX k s){b:Nat}(hb:b<s.q.B)(ef:s.q.fi.getD b 0=(s.q.P:Int))(nl:∀y∈s.q.V,¬y.2 / (s.q.P:Int)=(b:Int))(dk:s.lf≠some 0):WX k (s.wip b)∧(s.wip b).rmX=s.rmX+s.q.P:=by(
have okq:=h.qs.ok
have rm1:(s.wip b).rmX=s.rmX+s.q.P:=qHC hb okq.lf ef
have gfi:∀c,(s.wip b).q.fi.getD c 0=if b=c then 0 else s.q.fi.getD c 0:=λc=>by
 show(s.q.fi.set b 0).getD c 0=_;rw[jJ,okq.lf];by_cases e:b=c
 ·rw[kL ⟨e,hb⟩,kL e]
 rw[kJ (λz=>e z.1),kJ e]
refine⟨⟨h.qs.emptied b,qFG h.on,?_,λc g hc hg hgP=>?_,λy hy=>?_,h.pd,λc=>?_,λc=>?_,h.nx,?_,h.l6,λi e=>?_⟩,rm1⟩
·show(s.cl.set _ _).length=_;rw[gJ];exact h.lc
·show(if(c*s.q.P+g) / s.q.P=b then none else s.pg (c*s.q.P+g))=none;have hgP:g<s.q.P:=hgP;rw[yQ hgP];by_cases e:c=b
 ·rw[kL e]
 rw[kJ e];rw[gfi,kJ (λz=>e z.symm)]at hg;exact h.cr c g hc hg hgP
·obtain⟨c,g,w,a1,a2,a3,a4,a5⟩:=h.vl y hy;have cb:c≠b:=λz=>nl _ hy (by rw[a3,←rP,yQ a2,z]);refine⟨c,g,w,a1,a2,a3,?_,?_⟩
 ·rw[gfi,kJ (λz=>cb z.symm)];exact a4
 show(if(c*s.q.P+g) / s.q.P=b then none else s.pg (c*s.q.P+g))=_;rw[yQ a2,kJ cb];exact a5
·show 0≤(s.cl.set b (s.cl.getD b 0+1)).getD c 0∧(s.cl.set b (s.cl.getD b 0+1)).getD c 0≤((s.rc++[_]).length:Int);have h1:=h.c0 c;have h2:=h.c0 b;rw[mL,gQ,jJ];split<;>lia
·show 0≤(s.q.bo.set b 0).getD c 0∧(s.q.bo.set b 0).getD c 0<s.q.nx;have h1:=h.bo c;have h2:=h.nx;rw[jJ];split<;>lia
·show k.ie*s.q.P≤(s.wip b).rmX;have:=h.sl;lia
have e:s.lf.map (· - 1)=some i:=e
cases z:s.lf with
|none=>rw[z]at e;cases e
|some j=>rw[z]at e;have e:j-1=i:=kZ e;have:=h.l0 j z;have:j≠0:=λy=>dk (by rw[z,y]);lia)
theorem WX.forg(h:WX k s)(n:Int):WX k (s.forg n):=by(
refine⟨h.qs.forget n,h.on,h.lc,h.cr,λy hy=>h.vl y (j9.mp hy).1,?_,h.c0,h.bo,h.nx,h.sl,?_,h.l0⟩
·exact pT (aX _ cW) h.pd
have:=(q6M (V:=s.q.V) (n:=n) h.qs.ok.nd).1
have:=h.l6
show(jN s.q.V n).length<60
lia)
end
theorem qBF{V:Mp}{n p p':Int}(nd:(V.map (·.1)).Nodup)(h:(n,p)∈V)(h':(n,p')∈V):p=p':=by(
induction V with
|nil=>exact absurd h (by simp)
|cons y V ih=>
 rw[mQ]at nd;obtain⟨n1,n2⟩:=gD.mp nd;rcases kN.mp h with e|h<;>rcases kN.mp h' with e'|h'
 ·rw[←e]at e';injection e' with _ e'
  exact e'.symm
 ·exact(n1 (kP.mpr ⟨_,h',by rw[←e]⟩)).elim
 ·exact(n1 (kP.mpr ⟨_,h,by rw[←e']⟩)).elim
 exact ih n2 h h')
theorem q6N{P b:Nat}{V:Mp}:(lvP P b V).Nodup:=qBC.imp λz=>z.2
theorem q45{q:QM}{b:Nat}(h:QS q)(pd:(q.V.map (·.2)).Nodup)(hb:b<q.B):((lvP q.P b q.V).length:Int)=q.lv.getD b 0:=by(
rw[h.lv b hb]
have nd:=h.ok.nd
have:(lvP q.P b q.V).Perm ((q.V.filter λy=>decide (y.2 / (q.P:Int)=(b:Int))).map λy=>[y.2,y.1]):=q2Q q6N (dG.mpr (((dG.mp nd).imp fun {a c} hne z=>hne (by
 injection z with _ z
 injection z with z _)).filter _)) λk=>by
 rw[q44 h.ok.p1 pd,kP];constructor
 ·rintro⟨y,h1,h2,rfl⟩
  exact⟨y,mV.mpr ⟨h1,hC h2⟩,rfl⟩
 rintro⟨y,hy,rfl⟩
 obtain⟨a1,a2⟩:=mV.mp hy;exact⟨y,a1,mP a2,rfl⟩
rw[this.length_eq,hG]
unfold cntB
rw[sO])
structure MvI(k:Tm)(s0:XS)(b:Nat)(rs:List (List Int))(i:Nat)(s:XS)(ms:List (List Int)):Prop where
w:WX k s
e:XS.mvs rs s0=(match XS.mvs (rs.drop i) s with|(s',none)=>(s',none)|(s',some m)=>(s',some (ms++m)))
l:ms.length=i
rc:s.rc.length=s0.rc.length+i
rm:s.rmX+i=s0.rmX
eB:s.q.B=s0.q.B
eP:s.q.P=s0.q.P
ec:s.cl=s0.cl
fb:s.q.fi.getD b 0=(s0.q.P:Int)
fm:∀c,s0.q.fi.getD c 0≤s.q.fi.getD c 0∧(s0.q.fi.getD c 0=(s0.q.P:Int)→s.q.fi.getD c 0=(s0.q.P:Int))
nm:∀n,(∃p,(n,p)∈s.q.V)↔∃p,(n,p)∈s0.q.V
dr:∀kk∈rs.drop i,∃n p,kk=[p,n]∧(n,p)∈s.q.V∧p / (s0.q.P:Int)=(b:Int)
dl:∀y∈s.q.V,y.2 / (s0.q.P:Int)=(b:Int)→[y.2,y.1]∈rs.drop i
lV:s.q.V.length=s0.q.V.length
section
variable{k:Tm}{s0 s:XS}{b i:Nat}{ms:List (List Int)}
theorem MvI.zero(w:WX k s0)(fb:s0.q.fi.getD b 0=(s0.q.P:Int)):MvI k s0 b (lvP s0.q.P b s0.q.V) 0 s0 []:=by(
refine⟨w,?_,rfl,rfl,rfl,rfl,rfl,rfl,fb,λc=>⟨gL _,λz=>z⟩,λn=>Iff.rfl,λkk hk=>?_,λy hy hb=>(q44 w.qs.ok.p1 w.pd).mpr ⟨y,hy,hb,rfl⟩,rfl⟩
·rw[List.drop_zero];cases XS.mvs (lvP s0.q.P b s0.q.V) s0 with
 |mk s' o=>cases o<;>rfl
obtain⟨y,hy,hb,rfl⟩:=(q44 w.qs.ok.p1 w.pd).mp hk
exact⟨y.1,y.2,rfl,hy,hb⟩)
variable{rs:List (List Int)}
theorem MvI.at(h:MvI k s0 b rs i s ms)(hi:i<rs.length):∃n p,rs[i]=[p,n]∧(n,p)∈s.q.V∧0≤n∧n≤64:=by obtain⟨n,p,e1,e2,_⟩:=h.dr rs[i] (by rw[rU hi];exact kY);have:=h.w.qs.ok.nm _ e2;exact⟨n,p,e1,e2,this.1,this.2⟩
theorem MvI.dark(h:MvI k s0 b rs i s ms)(hi:i<rs.length)(dk:s.lf=some 0):XS.mvs rs s0=(s,none):=by rw[h.e,rU hi];unfold XS.mvs;rw[kL dk]
theorem MvI.fin(h:MvI k s0 b rs i s ms)(hi:i=rs.length):XS.mvs rs s0=(s,some ms)∧∀y∈s.q.V,¬y.2 / (s.q.P:Int)=(b:Int):=by(
subst hi
refine⟨?_,λy hy z=>?_⟩
·rw[h.e,aY];show(s,some (ms++[]))=_;rw[gU]
have:=h.dl y hy (by rw[←h.eP];exact z)
rw[aY]at this
cases this)
theorem MvI.step(h:MvI k s0 b rs i s ms)(nd:rs.Nodup)(hi:i<rs.length)(hr:k.ie*s0.q.P+rs.length≤s0.rmX)(dk:s.lf≠some 0){n p:Int}(er:rs[i]=[p,n]):
 MvI k s0 b rs (i+1) (s.put n (s.val p n)) (ms++[[n,p,(s.np:Int)]]):=by(
have dre:rs.drop i=[p,n]::rs.drop (i+1):=by rw[rU hi,er]
obtain⟨n',p',e0,hnp,hpb⟩:=h.dr [p,n] (by rw[dre];simp)
obtain⟨rfl,rfl⟩:p=p'∧n=n':=by
 injection e0 with e1 e0
 injection e0 with e2 _
 exact⟨e1,e2⟩
have nb:=h.w.qs.ok.nm _ hnp
have rmE:=h.rm
have hP:=h.eP
have slk:k.ie*s.q.P<s.rmX:=by rw[hP];lia
obtain⟨w',rm'⟩:=h.w.put (n:=n) (v:=s.val p n) slk nb.1 nb.2 (.inl ⟨p,hnp⟩) dk
obtain⟨hb,hf,ef,_,_⟩:=h.w.spot (by lia)
have gfi:∀c,(s.put n (s.val p n)).q.fi.getD c 0=if s.pb=c then(s.pf:Int)+1 else s.q.fi.getD c 0:=qBE h.w.qs.ok.lf hb ef
have cb:s.pb≠b:=λz=>by rw[z,h.fb,←hP]at ef;lia
have newp:((s.np:Nat):Int) / (s0.q.P:Int)=(s.pb:Int):=by rw[←hP];unfold XS.np;rw[←rP,yQ hf]
refine⟨w',?_,?_,?_,by lia,h.eB,h.eP,h.ec,?_,λc=>?_,λm=>?_,λkq hkq=>?_,λy hy hyb=>?_,?_⟩
·rw[h.e,dre];rw[XS.mvs,kJ dk];show(match(match XS.mvs (rs.drop (i+1)) (s.put n (s.val p n))with|(s',none)=>(s',none)|(s',some m)=>(s',some ([n,p,(s.np:Int)]::m)))with|(s',none)=>(s',none)|(s',some m)=>(s',some (ms++m)))=_;cases XS.mvs (rs.drop (i+1)) (s.put n (s.val p n))with
 |mk s' o=>
  cases o with
  |none=>rfl
  |some m=>show(s',some (ms++([n,p,(s.np:Int)]::m)))=(s',some ((ms++[[n,p,(s.np:Int)]])++m));rw[aM];rfl
·rw[mL,h.l];rfl
·show(s.rc++[_]).length=_;rw[mL,h.rc];rfl
·rw[gfi,kJ cb];exact h.fb
·obtain⟨m1,m2⟩:=h.fm c;rw[gfi];by_cases e:s.pb=c
 ·subst e;rw[kL rfl];refine⟨by lia,λz=>?_⟩;have:=m2 z;rw[ef,←hP]at this;lia
 rw[kJ e];exact⟨m1,m2⟩
·rw[←h.nm m];constructor
 ·rintro⟨p1,h1⟩
  rcases uN.mp h1 with e|⟨h1,_⟩
  ·cases e;exact⟨p,hnp⟩
  exact⟨p1,h1⟩
 rintro⟨p1,h1⟩
 by_cases e:m=n
 ·exact⟨_,uN.mpr (.inl (by rw[e]))⟩
 exact⟨p1,uN.mpr (.inr ⟨h1,e⟩)⟩
·have hkq':kq∈rs.drop i:=by rw[dre];exact kB _ hkq
 obtain⟨n',p',rfl,h',hb'⟩:=h.dr kq hkq';refine⟨n',p',rfl,uN.mpr (.inr ⟨h',λe=>?_⟩),hb'⟩;have e:n'=n:=e;subst e;have:=qBF h.w.qs.ok.nd h' hnp;subst this;have nn:=nd;rw[←xE i rs,dre]at nn;have:=(r6.mp nn).2.1;exact(gD.mp this).1 hkq
·rcases uN.mp hy with e|⟨hy,hne⟩
 ·rw[e]at hyb;have hyb:((s.np:Nat):Int) / (s0.q.P:Int)=(b:Int):=hyb;rw[newp]at hyb;exact(cb (by lia)).elim
 have:=h.dl y hy hyb;rw[dre]at this;rcases kN.mp this with e|e
 ·injection e with _ e
  injection e with e _
  exact(hne e).elim
 exact e
show(jN s.q.V n++[_]).length=_
rw[mL,gQ,(q6M (V:=s.q.V) (n:=n) h.w.qs.ok.nd).2 p hnp]
exact h.lV)
structure Mvd(k:Tm)(s0:XS)(b:Nat)(s:XS)(n:Nat):Prop where
w:WX k s
rc:s.rc.length=s0.rc.length+n
rm:s.rmX+n=s0.rmX
eB:s.q.B=s0.q.B
eP:s.q.P=s0.q.P
ec:s.cl=s0.cl
fb:s.q.fi.getD b 0=(s0.q.P:Int)
fm:∀c,s0.q.fi.getD c 0≤s.q.fi.getD c 0∧(s0.q.fi.getD c 0=(s0.q.P:Int)→s.q.fi.getD c 0=(s0.q.P:Int))
nm:∀n,(∃p,(n,p)∈s.q.V)↔∃p,(n,p)∈s0.q.V
lV:s.q.V.length=s0.q.V.length
lb:b<s0.q.B→s.q.lv.getD b 0+n=(lvP s0.q.P b s0.q.V).length
theorem MvI.mvd(h:MvI k s0 b (lvP s0.q.P b s0.q.V) i s ms)(hi:i≤(lvP s0.q.P b s0.q.V).length):Mvd k s0 b s i:=by(
refine⟨h.w,h.rc,h.rm,h.eB,h.eP,h.ec,h.fb,h.fm,h.nm,h.lV,λhb=>?_⟩
rw[←q45 h.w.qs h.w.pd (by rw[h.eB];exact hb)]
have:(lvP s.q.P b s.q.V).Perm ((lvP s0.q.P b s0.q.V).drop i):=q2Q q6N (pT (List.drop_sublist _ _) q6N) λk=>by
 rw[q44 h.w.qs.ok.p1 h.w.pd,h.eP];constructor
 ·rintro⟨y,h1,h2,rfl⟩
  exact h.dl y h1 h2
 intro hk;obtain⟨n,p,rfl,h1,h2⟩:=h.dr k hk;exact⟨_,h1,h2,rfl⟩
rw[this.length_eq,nZ]
lia)
end
section
variable{k:Tm}{s:XS}{l:List Nat}{m:CM}
theorem qFM(h:WX k s)(hl:FreeIs s.q.B (noB s.q.B) s.cl s.q.fi l):spcN (k.ie:Int) l s.q.P s.q.fi (jR s.q.B s.q.P (noB s.q.B) s.q.fi)=s.spc k:=by(
have p1:=h.qs.ok.p1
have sl:=h.sl
unfold spcN XS.spc
unfold XS.rmX at sl ⊢
rcases q43 h.on h.qs.ok.wr p1 hl with⟨h1,h2⟩|⟨b,e,h1,e1,e2,h2,e3⟩
·rw[h2]at sl;rw[h1,h2];by_cases z:1+k.ie≤l.length
 ·rw[kL (by lia),kL (gR _ z)]
 have le:l.length=k.ie:=by
  have:¬l.length<k.ie:=λy=>by have:=gR s.q.P (show l.length+1≤k.ie by lia);rw[dN,rO]at this;lia
  lia
 rw[kJ (by lia),kJ (by rw[le,dN,rO];lia),le];show(0:Int)=_;lia
rw[h2]at sl
rw[h1,h2]
by_cases z:1+k.ie≤l.length
·have:=gR s.q.P z;rw[kL (by lia),kL (by lia)]
have le:l.length=k.ie:=by
 have:¬l.length<k.ie:=λy=>by have:=gR s.q.P (show l.length+1≤k.ie by lia);rw[dN,rO]at this;lia
 lia
rw[kJ (by lia),kJ (by rw[le,dN,rO];lia),le]
show(s.q.P:Int)-s.q.fi.getD b 0=_
lia)
theorem qBG(h:WX k s)(hl:FreeIs s.q.B (noB s.q.B) s.cl s.q.fi l):((yB s.q.B s.q.P (noB s.q.B) s.q.fi).filter λb=>decide (s.q.lv.getD b 0≤spcN (k.ie:Int) l s.q.P s.q.fi (jR s.q.B s.q.P (noB s.q.B) s.q.fi)))=s.ful k:=by(
unfold yB XS.ful
rw[yD,qFM h hl,nM]
refine cJ λb _=>?_
rw[eO])
theorem qFN(h:WX k s)(br:m.br=noB s.q.B)(hl:FreeIs s.q.B (noB s.q.B) s.cl s.q.fi l):optN (k.ie:Int) m s.q l=s.ded k:=by unfold optN XS.ded;rw[br,qBG h hl]
theorem qFO(e:m.cl=s.cl):tlOf m s.q=s.tl:=by funext b;unfold tlOf XS.tl;rw[e]
theorem qKE(h:WX k s)(hl:FreeIs s.q.B (noB s.q.B) s.cl s.q.fi l):rdy (k.ie:Int) l (jR s.q.B s.q.P (noB s.q.B) s.q.fi)=s.rd k:=qHA h.on h.qs.ok.wr h.qs.ok.p1 hl
structure Full(k:Tm)(s:XS)(c:Nat):Prop where
b:c<s.q.B
f:s.q.fi.getD c 0=(s.q.P:Int)
l:s.q.lv.getD c 0≤s.spc k
theorem qCL{b:Nat}:b∈s.ful k↔Full k s b:=by unfold XS.ful;rw[mV,gC,m8,mJ,mJ];exact⟨λ⟨a,b,c⟩=>⟨a,b,c⟩,λh=>⟨h.b,h.f,h.l⟩⟩
theorem q8T{b:Nat}:b∈s.ded k↔Full k s b∧s.q.lv.getD b 0<(s.q.P:Int):=by unfold XS.ded;rw[mV,qCL,mJ]
theorem q2T{b:Nat}:b∈s.opt k↔(Full k s b∧s.q.lv.getD b 0<(s.q.P:Int))∧(k.ev=true→s.cl.getD b 0<s.lst+k.sp):=by(
unfold XS.opt XS.clb
cases k.ev with
|false=>rw[kJ (by decide),q8T];exact⟨λh=>⟨h,λz=>by cases z⟩,λh=>h.1⟩
|true=>rw[kL rfl,mV,q8T,mJ];exact⟨λh=>⟨h.1,λ_=>h.2⟩,λh=>⟨h.1,h.2 rfl⟩⟩)
theorem Full.sp(h:WX k s){b:Nat}(f:Full k s b):k.ie*s.q.P+(lvP s.q.P b s.q.V).length≤s.rmX:=by(
have e:=q45 h.qs h.pd f.b
have l:=f.l
have sl:=h.sl
have lb:=h.qs.lv b f.b
have cn:(lvP s.q.P b s.q.V).length≤s.q.P:=by unfold lvP;refine mO (d9 _ _) ?_;rw[mG];exact kO _
unfold XS.spc at l
split at l
·rename_i z;rw[dN,rO]at z;lia
lia)
theorem qHI{L:List Nat}:∀a∈L.map s.tl,∀c∈L.map s.tl,a.b=c.b→a=c:=λa ha c hc e=>by(
obtain⟨x,_,rfl⟩:=kP.mp ha
obtain⟨y,_,rfl⟩:=kP.mp hc
have e:(x:Int)=(y:Int):=e
rw[show x=y by lia])
theorem qIL(h:WX k s){b:Nat}(hb:b<s.q.B):0≤s.q.lv.getD b 0∧s.q.lv.getD b 0≤(s.q.P:Int):=by
 have e:=q45 h.qs h.pd hb;have cn:(lvP s.q.P b s.q.V).length≤s.q.P:=by unfold lvP;refine mO (d9 _ _) ?_;rw[mG];exact kO _
 lia
theorem qLK(h:WX k s)(rc:s.rc.length<1000000){b:Nat}(hb:b<s.q.B):(s.tl b).Ok (s.q.P:Int) s.q.nx:=by(
have b2:=h.qs.ok.b2
have c:=h.c0 b
have d:=h.bo b
have e:=qIL h hb
refine⟨?_,?_,e.1,e.2,c.1,?_,d.1,d.2⟩
·show(0:Int)≤(b:Int);lia
·show(b:Int)<16;lia
show s.cl.getD b 0<10 ^ 30
have:(1000000:Int)<10 ^ 30:=by decide
lia)
theorem qFP(h:WX k s):(s.opt k).length≤16:=by(
have b2:=h.qs.ok.b2
have:(s.ded k).length≤16:=by unfold XS.ded XS.ful;refine mO (mC _ _) (mO (mC _ _) ?_);rw[mG];exact b2
unfold XS.opt XS.clb
split
·exact mO (mC _ _) this
exact this)
end
structure Kp(s s':XS):Prop where
eB:s'.q.B=s.q.B
eP:s'.q.P=s.q.P
nm:∀n,(∃p,(n,p)∈s'.q.V)↔∃p,(n,p)∈s.q.V
lV:s'.q.V.length=s.q.V.length
theorem Kp.refl{s:XS}:Kp s s:=⟨rfl,rfl,λ_=>Iff.rfl,rfl⟩
theorem Kp.trans{a b c:XS}(h:Kp a b)(g:Kp b c):Kp a c:=⟨g.eB.trans h.eB,g.eP.trans h.eP,λn=>(g.nm n).trans (h.nm n),g.lV.trans h.lV⟩
section
variable{k:Tm}{s:XS}{b:Nat}
theorem qFQ{P b:Nat}{V:Mp}:(lvP P b V).length≤P:=by(
unfold lvP
refine mO (d9 _ _) ?_
rw[mG]
exact kO _)
theorem qCM(R:XS→List (List Int)→Prop)(w:WX k s)(f:Full k s b)(r0:R s [])(rs:∀s' ms n p,WX k s'→Kp s s'→s'.cl=s.cl→s'.q.fi.getD b 0=(s.q.P:Int)→(n,p)∈s'.q.V→p / (s.q.P:Int)=(b:Int)→k.ie*s'.q.P<s'.rmX→s'.lf≠some 0→R s' ms→R (s'.put n (s'.val p n)) (ms++[[n,p,(s'.np:Int)]])):∃s' n ms,Mvd k s b s' n∧ms.length=n∧R s' ms∧((XS.mvs (lvP s.q.P b s.q.V) s=(s',none)∧n<(lvP s.q.P b s.q.V).length∧s'.lf=some 0)∨(XS.mvs (lvP s.q.P b s.q.V) s=(s',some ms)∧n=(lvP s.q.P b s.q.V).length∧∀y∈s'.q.V,¬y.2 / (s'.q.P:Int)=(b:Int))):=by(
have sp:=f.sp w
have key:∀d i,i+d=(lvP s.q.P b s.q.V).length→∀s' ms,MvI k s b (lvP s.q.P b s.q.V) i s' ms→R s' ms→∃s' n ms,Mvd k s b s' n∧ms.length=n∧R s' ms∧((XS.mvs (lvP s.q.P b s.q.V) s=(s',none)∧n<(lvP s.q.P b s.q.V).length∧s'.lf=some 0)∨(XS.mvs (lvP s.q.P b s.q.V) s=(s',some ms)∧n=(lvP s.q.P b s.q.V).length∧∀y∈s'.q.V,¬y.2 / (s'.q.P:Int)=(b:Int))):=by
 intro d;induction d with
 |zero=>intro i hi s' ms mi hR;obtain⟨e,nl⟩:=mi.fin (by lia);exact⟨s',i,ms,mi.mvd (by lia),mi.l,hR,.inr ⟨e,by lia,nl⟩⟩
 |succ d ih=>
  intro i hi s' ms mi hR;have hi':i<(lvP s.q.P b s.q.V).length:=by lia
  by_cases dk:s'.lf=some 0
  ·exact⟨s',i,ms,mi.mvd (by lia),mi.l,hR,.inl ⟨mi.dark hi' dk,hi',dk⟩⟩
  obtain⟨n,p,er,hnp,_⟩:=mi.at hi';have rme:=mi.rm;obtain⟨n',p',e0,_,hpb⟩:=mi.dr [p,n] (by rw[rU hi',er];exact kY);have e1:p=p':=by injection e0
  refine ih (i+1) (by lia) _ _ (mi.step q6N hi' sp dk er) (rs s' ms n p mi.w ⟨mi.eB,mi.eP,mi.nm,mi.lV⟩ mi.ec mi.fb hnp (by rw[e1];exact hpb) (by rw[mi.eP];lia) dk hR)
exact key _ 0 (lU _) s [] (MvI.zero w f.f) r0)
end
theorem qFR{g:Rl}{pg nw:Int}{ts:List Tl}(ok:g.Ok)(h:ts≠[]):(g.ch pg nw ts).1∈ts.map Tl.b:=by(
cases g with
|rk f=>obtain⟨A,hA,e,_⟩:=qFK (f:=f pg nw) h;show pk (f pg nw) ts∈_;rw[e];exact kP.mpr ⟨A,hA,rfl⟩
|win m=>obtain⟨A,hA,e,_⟩:=qFK (f:=Tl.lv) (qHG ok h);show pk Tl.lv (winC m ts)∈_;rw[e];exact kP.mpr ⟨A,qHF A hA,rfl⟩
|fol row u=>
 have h0:(ts.map Tl.b).headD 0∈ts.map Tl.b:=by
  cases ts with
  |nil=>exact absurd rfl h
  |cons a r=>simp
 show fo row u ts∈_;unfold fo;split
 ·split
  ·assumption
  exact h0
 exact h0)
theorem qLL{g:Rl}{pg nw:Int}{ts:List Tl}(ok:g.Ok):(g.ch pg nw ts).2.Ok:=by(
cases g with
|rk f=>trivial
|win m=>exact ok
|fol row u=>trivial)
section
variable{k:Tm}{s:XS}{g g':Rl}{y:Str}{b:Nat}
theorem q0P(ok:g.Ok)(h:s.tk k g=some (y,b,g')):(y=Str.ofString "rule"∧b∈s.opt k∧(b:Int)=(g.ch (s.q.P:Int) s.q.nx (s.ots k)).1∧g'=(g.ch (s.q.P:Int) s.q.nx (s.ots k)).2)∨(y=Str.ofString "even"∧k.ev=true∧s.opt k=[]∧g'=g∧s.chg k=some b∧b∈s.clb k (s.ful k)∧∀c∈s.clb k (s.ful k),s.cl.getD b 0≤s.cl.getD c 0):=by(
unfold XS.tk at h
split at h
·rename_i e0;split at h
 ·rename_i ev;cases z:s.chg k with
  |none=>rw[z]at h;cases h
  |some c=>
   rw[z]at h;cases h;have pw:(s.clb k (s.ful k)).Pairwise (· < ·):=by unfold XS.clb XS.ful;exact r9 _ (r9 _ rN)
   obtain⟨m1,m2⟩:=(q2S (cl:=s.cl) pw).2 b z;refine .inr ⟨rfl,ev,e0,rfl,rfl,m1,λc hc=>?_⟩;have:=m2 c hc;unfold keyN lx at this;by_cases q:s.cl.getD c 0=s.cl.getD b 0
   ·lia
   rw[kJ q]at this;have:=d6 this;lia
 cases h
rename_i ne
have ne':s.ots k≠[]:=λz=>ne (wJ.mp z)
have cm:=qFR (pg:=(s.q.P:Int)) (nw:=s.q.nx) ok ne'
injection h with h
injection h with h1 h
injection h with h h2
obtain⟨c,hc,e⟩:=kP.mp cm
obtain⟨c',hc',rfl⟩:=kP.mp hc
have e:(c':Int)=(g.ch (s.q.P:Int) s.q.nx (s.ots k)).1:=e
rw[←e,mH]at h
subst h
exact .inl ⟨h1.symm,hc',e,h2.symm⟩)
theorem q5P(ok:g.Ok)(h:s.tk k g=some (y,b,g')):Full k s b:=by(
rcases q0P ok h with⟨_,h1,_⟩|⟨_,_,_,_,_,h1,_⟩
·exact(q2T.mp h1).1.1
unfold XS.clb at h1
exact qCL.mp (mV.mp h1).1)
theorem qIM(ok:g.Ok)(h:s.tk k g=some (y,b,g')):g'.Ok:=by(
rcases q0P ok h with⟨_,_,_,e⟩|⟨_,_,_,e,_⟩
·rw[e];exact qLL ok
rw[e];exact ok)
end
section
variable{k:Tm}{X Y:Sx}
inductive RoomR(k:Tm)(X:Sx):Sx×Except Rf Pa→Prop
|no:X.s.tk k X.g=none→RoomR k X (X,.error .room)
|dark {y b g' s' n}:X.s.tk k X.g=some (y,b,g')→Mvd k X.s b s' n→n≤(lvP X.s.q.P b X.s.q.V).length→s'.lf=some 0→RoomR k X (⟨s',g',X.ps⟩,.error .dark)
|ok {y b g' s' ms}:X.s.tk k X.g=some (y,b,g')→XS.mvs (lvP X.s.q.P b X.s.q.V) X.s=(s',some ms)→Mvd k X.s b s' (lvP X.s.q.P b X.s.q.V).length→ms.length=(lvP X.s.q.P b X.s.q.V).length→s'.lf≠some 0→WX k (s'.wip b)→(s'.wip b).rmX=s'.rmX+X.s.q.P→RoomR k X (⟨s'.wip b,g',X.ps++[⟨y,X.s.ots k,b,ms⟩]⟩,.ok ⟨y,X.s.ots k,b,ms⟩)
theorem q1V(w:WX k X.s)(ok:X.g.Ok):RoomR k X (X.room k):=by(
unfold Sx.room
cases htk:X.s.tk k X.g with
|none=>exact .no htk
|some ybg=>
 obtain⟨y,b,g'⟩:=ybg;have f:=q5P ok htk;obtain⟨s',n,ms,md,lm,_,h|h⟩:=qCM (λ_ _=>True) w f trivial (λ_ _ _ _ _ _ _ _ _ _ _ _ _=>trivial)
 ·obtain⟨e,hn,dk⟩:=h;dsimp only;rw[e];exact .dark htk md (by lia) dk
 obtain⟨e,hn,nl⟩:=h;dsimp only;rw[e];dsimp only;subst hn;by_cases dk:s'.lf=some 0
 ·rw[kL dk];exact .dark htk md (kO _) dk
 rw[kJ dk];obtain⟨w',rm'⟩:=md.w.wip (b:=b) (by rw[md.eB];exact f.b) (by rw[md.eP];exact md.fb) nl dk;exact .ok htk e md lm dk w' (by rw[rm',md.eP]))
theorem qFS{p:Pa}(w:WX k X.s)(ok:X.g.Ok)(h:X.room k=(Y,.ok p)):Y.s.rc.length≤X.s.rc.length+17∧Y.ps.length=X.ps.length+1:=by(
have r:=q1V w ok
rw[h]at r
have l16:∀b,(lvP X.s.q.P b X.s.q.V).length≤X.s.q.P:=λb=>qFQ
have p2:=w.qs.ok.p2
cases r with
|@ok y b g' s' ms htk e md lm dk w' rm'=>have:=l16 b;refine⟨?_,mL⟩;show(_++[_]).length≤_;rw[mL,md.rc,gQ];lia)
theorem Mvd.kp{s s':XS}{b n:Nat}(h:Mvd k s b s' n):Kp s s':=⟨h.eB,h.eP,h.nm,h.lV⟩
theorem q5Q{r:Except Rf Pa}(w:WX k X.s)(ok:X.g.Ok)(h:X.room k=(Y,r)):WX k Y.s∧Y.g.Ok∧Kp X.s Y.s∧Y.s.rc.length≤X.s.rc.length+17∧Y.ps.length≤X.ps.length+1:=by(
have rr:=q1V w ok
rw[h]at rr
have l16:∀b,(lvP X.s.q.P b X.s.q.V).length≤X.s.q.P:=λb=>qFQ
have p2:=w.qs.ok.p2
cases rr with
|no htk=>exact⟨w,ok,Kp.refl,by lia,by lia⟩
|@dark y b g' s' n htk md hn dk=>have:=l16 b;refine⟨md.w,qIM ok htk,md.kp,?_,dL _⟩;show s'.rc.length≤_;rw[md.rc];lia
|@ok y b g' s' ms htk e md lm dk w' rm'=>
 have:=l16 b;refine⟨w',qIM ok htk,md.kp.trans ⟨rfl,rfl,λ_=>Iff.rfl,rfl⟩,?_,?_⟩
 ·show(_++[_]).length≤_;rw[mL,md.rc,gQ];lia
 show(_++[_]).length≤_;rw[mL];exact kO _)
theorem q2U:∀{i:Nat} {X Y:Sx} {r:Except Rf Unit},WX k X.s→X.g.Ok→X.rooms k i=some (Y,r)→WX k Y.s∧Y.g.Ok∧Kp X.s Y.s∧Y.s.rc.length≤X.s.rc.length+17*i∧Y.ps.length≤X.ps.length+i∧(r=.ok ()→Y.s.rd k=true)
|0,X,Y,r,w,ok,h=>by
 unfold Sx.rooms at h;split at h
 ·rename_i z;cases h;exact⟨w,ok,Kp.refl,kO _,kO _,λ_=>z⟩
 cases h
|i+1,X,Y,r,w,ok,h=>by
 unfold Sx.rooms at h;split at h
 ·rename_i z;cases h;exact⟨w,ok,Kp.refl,lD _ _,lD _ _,λ_=>z⟩
 cases e:X.room k with
 |mk W o=>
  rw[e]at h;obtain⟨a1,a2,a3,a4,a5⟩:=q5Q w ok e;cases o with
  |error x=>cases h;exact⟨a1,a2,a3,by lia,by lia,λz=>by cases z⟩
  |ok p=>obtain⟨b1,b2,b3,b4,b5,b6⟩:=q2U a1 a2 h;exact⟨b1,b2,a3.trans b3,by lia,by lia,b6⟩
noncomputable def gvn(ns ss:List Int):List Int:=ns.filter λn=>decide (n∈ss)
noncomputable def rst(ns g:List Int):List Int:=ns.filter λn=>!decide (n∈g)
noncomputable def XS.forgs(s:XS)(g:List Int):XS:=g.foldl XS.forg s
theorem WX.forgs{s:XS}(h:WX k s)(g:List Int):WX k (s.forgs g):=by(
induction g generalizing s with
|nil=>exact h
|cons n g ih=>exact ih (h.forg n))
theorem qBH{s:XS}{g:List Int}{i:Nat}{n:Int}(h:g[i]?=some n):s.forgs (g.take (i+1))=(s.forgs (g.take i)).forg n:=by(
have hi:=(kC.mp h).1
obtain rfl:g[i]=n:=(kC.mp h).2
unfold XS.forgs
rw[←kW hi,cK]
rfl)
end
section
variable{k:Tm}{s s':XS}{n m v u:Int}{b:Nat}
theorem qKF(w:WX k s){c:Nat}(hc:c<s.q.B):s.lst≤s.cl.getD c 0:=by(
have hc':c<s.cl.length:=by rw[w.lc];exact hc
obtain⟨m,e,h1,h2⟩:=qBD (l:=s.cl) (λz=>by rw[z]at hc';cases hc')
unfold XS.lst
rw[e,kI,kE hc']
exact h2 _ (gH _))
structure Ix(k:Tm)(s:XS):Prop where
w:WX k s
sh:s.q.V.length<(s.q.B-(1+k.ie))*s.q.P
s1:1≤k.sp
gp:k.ev=true→∀b c,b<s.q.B→c<s.q.B→s.cl.getD b 0≤s.cl.getD c 0+k.sp
e2:k.ev=true→∀d c,d<s.q.B→c<s.q.B→s.q.fi.getD d 0≠0→s.q.fi.getD c 0=0→s.cl.getD d 0<s.cl.getD c 0+k.sp
end
section
variable{k:Tm}{s:XS}
theorem WX.lf(w:WX k s){l:Option Int}(h:∀i,l=some i→0≤i):WX k { s with lf:=l }:={ w with l0:=h }
theorem qKG{n:Int}:n∈s.hl↔n≠64∧∃p,(n,p)∈s.q.V:=by(
unfold XS.hl
rw[pE,mV,kP]
constructor
·rintro⟨⟨y,h,e⟩,h2⟩
 refine⟨mP h2,y.2,?_⟩;rw[←e];exact h
rintro⟨h1,p,hp⟩
exact⟨⟨_,hp,rfl⟩,hC h1⟩)
end
noncomputable def newX(B P:Nat):XS:=⟨⟨P,B,1,[],List.replicate B 0,List.replicate B 0,List.replicate B 0⟩,List.replicate B 0,λ_=>none,none,[]⟩
theorem qHJ{k:Tm}{B P:Nat}(b2:B≤16)(p1:1≤P)(p2:P≤16)(hk:1+k.ie<B)(s1:1≤k.sp):Ix k (newX B P)∧(1+k.ie)*P≤(newX B P).rmX:=by(
have r0:∀n i:Nat,(List.replicate n (0:Int)).getD i 0=0:=λn i=>rep8
have rmE:(newX B P).rmX=B*P:=by
 unfold XS.rmX newX rm clr1;dsimp only;have:∀n,((List.range n).map λb=>P-((List.replicate B (0:Int)).getD b 0).toNat).sum=n*P:=λn=>by
  induction n with
  |zero=>simp
  |succ n ih=>rw[c7,mM,bK,ih,rZ,pF,r0];simp
 exact this B
have le:(1+k.ie)*P≤B*P:=gR _ (by lia)
have ok:(newX B P).q.Ok:=by refine⟨p1,p2,b2,gK,gK,gK,by simp[newX],λq hq=>absurd (show q∈([]:Mp)from hq) (by simp),λq hq=>absurd (show q∈([]:Mp)from hq) (by simp),λb hb=>⟨0,r0 _ _,m9 _⟩⟩
refine⟨⟨⟨⟨ok,λb hb=>?_⟩,λb c _ _ h1 _=>?_,gK,λ_ _ _ _ _=>rfl,λy hy=>absurd (show y∈([]:Mp)from hy) (by simp),by simp[newX],λb=>?_,λb=>?_,gL _,?_,?_,λi e=>by cases e⟩,?_,s1,λ_ b c _ _=>?_,λ_ d c _ _ h _=>absurd (r0 _ _) h⟩,?_⟩
·rw[show(newX B P).q.lv=List.replicate B 0 from rfl,r0];rfl
·unfold jP at h1;rw[show(newX B P).q.fi=List.replicate B 0 from rfl,r0]at h1;simp at h1
·rw[show(newX B P).cl=List.replicate B 0 from rfl,r0];exact⟨gL _,gL _⟩
·rw[show(newX B P).q.bo=List.replicate B 0 from rfl,r0];exact⟨gL _,by show(0:Int)<1;decide⟩
·rw[rmE];show k.ie*P≤B*P;exact gR _ (by lia)
·show 0<60;decide
·show 0<(B-(1+k.ie))*P;exact Nat.mul_pos (by lia) p1
·rw[show(newX B P).cl=List.replicate B 0 from rfl,r0,r0];lia
rw[rmE]
exact le)
end W1
namespace L2
open PySem PySem.Spec PyProof.Rows
section
variable{X:Cx}{k:Nat}{f W:Addr}{fd:FuncData}{ps:List Str}{sp:Sp}{dvs:List V}{ds:List Value}{x m:Str}{p pos apos:Pos}{e:Expr}{es:List Expr}{t:TA}
theorem qKH{CX:CXT}{E:XK}(b:ClM X.K W m f)(F:FnOk X.prog X.w X.K X.mg X.base CX k f fd ps sp)(hr:Room k X.A)(hg:Gl X x)(hm:X.mg x=some (.ref W))(hb:jY X.K fd ps ds)(hd:Vals dvs ds)(hx:q0Z CX X E)(ha:PA X (e::es) t)(hdb:(x==("__debug__":Str))=false:=by decide)
 (he:starEach (e::es) X.env=(false,eval e X.env)::starEach es X.env:=by rfl) (hpl:(backTo pos (starEach es X.env)).any (·.1)=false:=by rfl) {pl:Sem Bool}
 (ht:eval (.Call (.Attribute (.Name x p) m apos) (e::es) [] pos) X.env=(do
  let ov←eval (.Name x p) X.env
  standAt apos.atName
  let(f,first)←holding [ov] (getMethod ov m pl)
  callWith pos f first (backTo pos (starEach (e::es) X.env)) (backToKw pos (keywordEach [] X.env))):=by rfl):
 PE X (.Call (.Attribute (.Name x p) m apos) (e::es) [] pos) (qI9 sp dvs E t):=by(
intro pins s σ H Q I h
refine rR (pl:=pl) (q2M I hg hm ?_ hdb) ht
refine PySem.W.method_cls I.kIn b.ga (PySem.W.cls_value I.kIn b.rd b.fd rfl ?_)
refine wU (first:=[]) (h₀:=X.base) I.ok.mod.kin b.kp (thn (ha pos pins _ σ H _ (I.tok _) h) λus s2 ⟨vs,H2,I2,r,q2⟩=>⟨I2.kIn,?_⟩) he hpl
exact q8G F hr hb hd hx I2 r q2)
end
end L2
namespace W1
open PySem L2
theorem qHK{B P:Nat}:(newX B P).rmX=B*P:=by(
unfold XS.rmX newX rm clr1
dsimp only
have:∀n,((List.range n).map λb=>P-((List.replicate B (0:Int)).getD b 0).toNat).sum=n*P:=λn=>by
 induction n with
 |zero=>simp
 |succ n ih=>rw[c7,mM,bK,ih,rZ,pF,show(List.replicate B (0:Int)).getD n 0=0 from rep8];simp
exact this B)
structure Pgs(s:XS):Prop where
wr:∀b f:Nat,b<s.q.B→f<s.q.P→(f:Int)<s.q.fi.getD b 0→∃v,s.pg (b*s.q.P+f)=some v
mr:∀i v,s.pg i=some v→128≤v.1∧v.1<s.q.nx*128∧v.1%128≤64
one:∀i j a b,s.pg i=some a→s.pg j=some b→a.1 / 128=b.1 / 128→i=j
nw:∀y∈s.q.V,∃v,s.pg y.2.toNat=some v∧v.1%128=y.1∧∀j w,s.pg j=some w→w.1%128=y.1→w.1≤v.1
rl:(∃i v,s.pg i=some v∧v.1%128=64)→∃p,((64:Int),p)∈s.q.V
bn:∀b,b<s.q.B→(s.q.fi.getD b 0=0→s.q.bo.getD b 0=0)∧(0<s.q.fi.getD b 0→∃v,s.pg (b*s.q.P)=some v∧s.q.bo.getD b 0=v.1 / 128)
section
variable{k:Tm}{s:XS}{n v:Int}{b:Nat}
theorem Pgs.put(h:Pgs s)(w:WX k s)(hr:0<s.rmX)(n0:0≤n)(n1:n≤64):Pgs (s.put n v):=by(
obtain⟨hb,hf,ef,_⟩:=w.spot hr
have nx1:=w.nx
have gfi:∀c,(s.put n v).q.fi.getD c 0=if s.pb=c then(s.pf:Int)+1 else s.q.fi.getD c 0:=qBE w.qs.ok.lf hb ef
have gpg:∀i,(s.put n v).pg i=if i=s.np then some (s.q.nx*128+n,v)else s.pg i:=λi=>rfl
have npn:s.pg s.np=none:=w.cr s.pb s.pf hb (by rw[ef];exact gL _) hf
have ene:∀{c f:Nat},f<s.q.P→c*s.q.P+f=s.np→c=s.pb∧f=s.pf:=λhf' e=>q6L hf' hf e
have enx:(s.put n v).q.nx=s.q.nx+1:=rfl
refine⟨λc f hc hf' lt=>?_,λi u e=>?_,λi j a c ea ec eq=>?_,λy hy=>?_,λ⟨i,u,e,e6⟩=>?_,λc hc=>?_⟩
·have hc:c<s.q.B:=hc;have hf':f<s.q.P:=hf';show ∃u,(s.put n v).pg (c*s.q.P+f)=some u;rw[gpg];split
 ·exact⟨_,rfl⟩
 rename_i ne;rw[gfi]at lt;refine h.wr c f hc hf' ?_;split at lt
 ·rename_i z;have:f≠s.pf:=λz2=>ne (by unfold XS.np;rw[z,z2]);rw[←z,ef];lia
 exact lt
·rw[gpg]at e;rw[enx];split at e
 ·cases e;show 128≤s.q.nx*128+n∧s.q.nx*128+n< _∧(s.q.nx*128+n)%128≤64;lia
 obtain⟨a1,a2,a3⟩:=h.mr i u e;exact⟨a1,by lia,a3⟩
·rw[gpg]at ea ec;split at ea
 ·rename_i zi;cases ea;split at ec
  ·rename_i zj;rw[zi,zj]
  obtain⟨_,a2,_⟩:=h.mr j c ec;have eq:(s.q.nx*128+n) / 128=c.1 / 128:=eq;lia
 split at ec
 ·cases ec;obtain⟨_,a2,_⟩:=h.mr i a ea;have eq:a.1 / 128=(s.q.nx*128+n) / 128:=eq;lia
 exact h.one i j a c ea ec eq
·rcases uN.mp hy with e|⟨hy,ne⟩
 ·subst e;refine⟨(s.q.nx*128+n,v),?_,?_,λj u e _=>?_⟩
  ·rw[gpg,kL (by show((s.pb*s.q.P+s.pf:Nat):Int).toNat=s.np;rw[mH];rfl)]
  ·show(s.q.nx*128+n)%128=n;lia
  rw[gpg]at e;split at e
  ·cases e;exact gL _
  obtain⟨_,a2,_⟩:=h.mr j u e;show u.1≤s.q.nx*128+n;lia
 obtain⟨u,e1,e2,e3⟩:=h.nw y hy;refine⟨u,?_,e2,λj x e ex=>?_⟩
 ·rw[gpg,kJ λz=>by rw[z,npn]at e1;cases e1];exact e1
 rw[gpg]at e;split at e
 ·cases e;have ex:(s.q.nx*128+n)%128=y.1:=ex;exact absurd (show y.1=n by lia) ne
 exact e3 j x e ex
·by_cases z:n=64
 ·exact⟨_,uN.mpr (.inl (by rw[z]))⟩
 rw[gpg]at e;split at e
 ·cases e;have e6:(s.q.nx*128+n)%128=64:=e6;lia
 obtain⟨p,hp⟩:=h.rl ⟨i,u,e,e6⟩;exact⟨p,uN.mpr (.inr ⟨hp,λy=>z y.symm⟩)⟩
have hc:c<s.q.B:=hc
have lo:=w.qs.ok.lo
have ebo:(s.put n v).q.bo=if s.q.fi.getD s.pb 0=0 then s.q.bo.set s.pb s.q.nx else s.q.bo:=rfl
rw[gfi]
show(_→(s.put n v).q.bo.getD c 0=0)∧(_→∃u,(s.put n v).pg (c*s.q.P)=some u∧(s.put n v).q.bo.getD c 0=_)
obtain⟨b1,b2⟩:=h.bn c hc
by_cases z:s.pb=c
·rw[kL z];refine⟨λe=>by lia,λ_=>?_⟩;rw[gpg,ebo];by_cases y:s.q.fi.getD s.pb 0=0
 ·have pf0:s.pf=0:=by rw[ef]at y;lia
  rw[kL (by unfold XS.np;rw[z,pf0];rfl),kL y];refine⟨_,rfl,?_⟩;rw[jJ,kL ⟨z,by rw[lo];exact hb⟩];show s.q.nx=(s.q.nx*128+n) / 128;lia
 rw[kJ λq=>y (by have:=(ene (c:=c) (f:=0) (by lia) (by rw[pP];exact q)).2;rw[ef,←this];rfl),kJ y];exact b2 (by rw[←z];rw[ef]at y ⊢;lia)
rw[kJ z]
have nz:¬c*s.q.P=s.np:=λq=>z (ene (c:=c) (f:=0) (by lia) (by rw[pP];exact q)).1.symm
have eb:(s.put n v).q.bo.getD c 0=s.q.bo.getD c 0:=by
 rw[ebo];split
 ·rw[jJ,kJ λq=>z q.1]
 rfl
rw[eb,gpg,kJ nz]
exact⟨b1,b2⟩)
theorem Pgs.wip(h:Pgs s)(w:WX k s)(hb:b<s.q.B)(nl:∀y∈s.q.V,¬y.2 / (s.q.P:Int)=(b:Int)):Pgs (s.wip b):=by(
have p1:=w.qs.ok.p1
have gfi:∀c,(s.wip b).q.fi.getD c 0=if b=c then 0 else s.q.fi.getD c 0:=λc=>by
 show(s.q.fi.set b 0).getD c 0=_;rw[jJ,w.qs.ok.lf];by_cases e:b=c
 ·rw[kL ⟨e,hb⟩,kL e]
 rw[kJ (λz=>e z.1),kJ e]
have gbo:∀c,(s.wip b).q.bo.getD c 0=if b=c then 0 else s.q.bo.getD c 0:=λc=>by
 show(s.q.bo.set b 0).getD c 0=_;rw[jJ,w.qs.ok.lo];by_cases e:b=c
 ·rw[kL ⟨e,hb⟩,kL e]
 rw[kJ (λz=>e z.1),kJ e]
have gpg:∀i,(s.wip b).pg i=if i / s.q.P=b then none else s.pg i:=λi=>rfl
have old:∀{i u},(s.wip b).pg i=some u→s.pg i=some u:=fun {i u} e=>by
 rw[gpg]at e;split at e
 ·cases e
 exact e
have dv:∀{c f:Nat},f<s.q.P→(c*s.q.P+f) / s.q.P=c:=λhf=>yQ hf
refine⟨λc f hc hf lt=>?_,λi u e=>h.mr i u (old e),λi j a c ea ec=>h.one i j a c (old ea) (old ec),λy hy=>?_,λ⟨i,u,e,e6⟩=>h.rl ⟨i,u,old e,e6⟩,λc hc=>?_⟩
·have hf:f<s.q.P:=hf;rw[gfi]at lt;show ∃u,(s.wip b).pg (c*s.q.P+f)=some u;rw[gpg,dv hf];by_cases z:b=c
 ·rw[kL z]at lt;lia
 rw[kJ z]at lt;rw[kJ (λq=>z q.symm)];exact h.wr c f hc hf lt
·obtain⟨u,e1,e2,e3⟩:=h.nw y hy;refine⟨u,?_,e2,λj x e=>e3 j x (old e)⟩;obtain⟨c,f,_,_,hf,e,_⟩:=w.vl y hy;rw[gpg,kJ λq=>nl y hy (by rw[e,mH]at q;rw[e,←rP,q])];exact e1
rw[gfi,gbo]
show _∧(_→∃u,(s.wip b).pg (c*s.q.P)=some u∧_)
obtain⟨b1,b2⟩:=h.bn c hc
by_cases z:b=c
·rw[kL z,kL z];exact⟨λ_=>rfl,λq=>by lia⟩
rw[kJ z,kJ z,gpg,kJ λq=>z (by have:=dv (c:=c) (f:=0) (by lia);rw[pP]at this;rw[←q,this])]
exact⟨b1,b2⟩)
theorem Pgs.forg(h:Pgs s){m:Int}(ne:m≠64):Pgs (s.forg m):=⟨h.wr,h.mr,h.one,λy hy=>h.nw y (j9.mp hy).1,λz=>let⟨p,hp⟩:=h.rl z;⟨p,j9.mpr ⟨hp,λy=>ne y.symm⟩⟩,h.bn⟩
theorem Pgs.forgs:∀{g:List Int} {s:XS},Pgs s→(∀m∈g,m≠64)→Pgs (s.forgs g)
| [],_,h,_=>h
|m::g,s,h,ne=>Pgs.forgs (g:=g) (h.forg (ne m kY)) λx hx=>ne x (kB _ hx)
end
theorem qFT{B P:Nat}:Pgs (newX B P):=by(
have r0:∀n i:Nat,(List.replicate n (0:Int)).getD i 0=0:=λn i=>rep8
refine⟨λb f _ _ lt=>?_,λi v e=>(by cases e),λi j a b e=>(by cases e),λy hy=>absurd (show y∈([]:Mp)from hy) (by simp),λ⟨_,_,e,_⟩=>(by cases e),λb _=>⟨λ_=>r0 _ _,λlt=>?_⟩⟩
·rw[show(newX B P).q.fi=List.replicate B 0 from rfl,r0]at lt;lia
rw[show(newX B P).q.fi=List.replicate B 0 from rfl,r0]at lt
lia)
section
variable{F:V→Int→Prop}{kvs:List (Key×V)}{W:Mp}
noncomputable def KvP(F:V→Int→Prop)(kv:Key×V)(x:Int×Int):Prop:=kv.1=Sum.inl x.1∧F kv.2 x.2
theorem qA7:∀{kvs:List (Key×V)} {W:Mp},Paired (KvP F) kvs W→kvs.map (·.1)=(W.map (·.1)).map Sum.inl
|_,_,.nil=>rfl
|_,_,.cons h r=>by rw[mQ,mQ,mQ,h.1,qA7 r]
theorem qCN{n:Int}:∀{kvs:List (Key×V)} {W:Mp},Paired (KvP F) kvs W→(kvs.any λkv=>decide (kv.1=(Sum.inl n:Key)))=W.any λx=>decide (x.1=n)
|_,_,.nil=>rfl
|_,_,.cons (a:=a) (b:=b) h r=>by
 rw[wD,wD,qCN r,h.1];congr 1;by_cases z:b.1=n
 ·rw[z,hC rfl,hC rfl]
 rw[hU z,hU (λy=>z (wQ y))]
theorem qCO{n p:Int}{v:V}(hv:F v p):∀{kvs:List (Key×V)} {W:Mp},Paired (KvP F) kvs W→Paired (KvP F) (kvs.map λkv=>if kv.1=(Sum.inl n:Key)then(kv.1,v)else kv) (W.map λx=>if x.1=n then(x.1,p)else x)
|_,_,.nil=>.nil
|_,_,.cons (a:=a) (b:=b) h r=>by
 rw[mQ,mQ];refine .cons ?_ (qCO hv r);by_cases z:b.1=n
 ·rw[kL z,kL (by rw[h.1,z])];exact⟨h.1,hv⟩
 rw[kJ z,kJ (λy=>z (wQ (h.1.symm.trans y)))];exact h
theorem qHL{n p:Int}{v:V}(h:Paired (KvP F) kvs W)(hv:F v p):Paired (KvP F) (putK kvs (Sum.inl n:Key) v) (putW W n p):=by(
unfold putK putW
rw[qCN h]
split
·exact qCO hv h
exact L2.Paired.snoc h ⟨rfl,hv⟩)
theorem qCP{n p:Int}:∀{kvs:List (Key×V)} {W:Mp},Paired (KvP F) kvs W→(W.map (·.1)).Nodup→(n,p)∈W→∃v,valV kvs (Sum.inl n:Key)=some v∧F v p
|_,_,.nil,_,h=>absurd h (by simp)
|_,_,.cons (a:=a) (b:=b) h r,nd,hm=>by
 rw[mQ]at nd;obtain⟨n1,n2⟩:=gD.mp nd;rcases kN.mp hm with e|hm
 ·subst e;exact⟨a.2,q1Q h.1,h.2⟩
 obtain⟨v,a1,a2⟩:=qCP r n2 hm;refine⟨v,?_,a2⟩;rw[zJ]
 ·exact a1
 rw[h.1];intro z;exact n1 (kP.mpr ⟨_,hm,(wQ z).symm⟩)
theorem qFU{n:Int}:∀{kvs:List (Key×V)} {W:Mp},Paired (KvP F) kvs W→n∉W.map (·.1)→valV kvs (Sum.inl n:Key)=none
|_,_,.nil,_=>rfl
|_,_,.cons (a:=a) (b:=b) h r,hn=>by
 rw[mQ]at hn;rw[zJ]
 ·exact qFU r λz=>hn (kB _ z)
 rw[h.1];intro z;exact hn (by rw[wQ z];simp)
end
end W1
namespace L2
open PySem
theorem qHM{a:Addr}{o:Obj}{kvs:List (Key×V)}{D:Addr}{H2:Hp}{g:TG}{tc:TT}{te:TE}{σ0:St}{R:Hp→Prop}(Pv:Nat→Hp→Prop)(h0:Pv 0 H2)(hl:∀i H,Pv i H→H a=some (.frz o (.dK kvs)))
 (hs:∀(i:Nat) kv H,kvs[i]?=some kv→Pv i H→g kv.2 σ0 H λσ5 H5=>tc σ5 H5 λb H6=>if b=true then te σ5 H6 (λv H7=>∃vs,H7 D=some (.lst vs)∧vs.length<sizeLine∧Pv (i+1) (upd H7 D (.lst (vs++[v]))))else Pv (i+1) H6) (hd:∀H,Pv kvs.length H→R H):
 ∃W:Nat→Nat→Hp→Prop,(∃m,W 0 m H2)∧∀i m H3,W i m H3→((Itv a o kvs).stop i H3∧R H3)∨((Itv a o kvs).go i H3∧∃N:Hp→Prop,(∀H',N H'→∃m',m'<m∧W (i+1) m' H')∧∀x H4,(Itv a o kvs).yld i H3 x H4→g x σ0 H4 λσ5 H5=>tc σ5 H5 λb H6=>
   if b=true then te σ5 H6 (λv H7=>∃vs,H7 D=some (.lst vs)∧vs.length<sizeLine∧N (upd H7 D (.lst (vs++[v]))))else N H6):=by(
refine⟨λi m H=>m=kvs.length-i∧i≤kvs.length∧Pv i H,⟨kvs.length,by simp,m9 _,h0⟩,?_⟩
rintro i m H ⟨rfl,hi,p⟩
have q:=hl i H p
by_cases hlt:i<kvs.length
·refine .inr ⟨⟨q,hlt⟩,Pv (i+1),λH' z=>⟨kvs.length-(i+1),by lia,rfl,by lia,z⟩,?_⟩;rintro v H' ⟨rfl,kv,hk,rfl⟩
 exact hs i kv _ hk p
obtain rfl:i=kvs.length:=by lia
exact .inl ⟨⟨q,kO _⟩,hd _ p⟩)
end L2
namespace W1
open PySem L2
noncomputable def wpS(cs:List Int)(d:Str×Int×Bool):List Int:=if d.1=Str.ofString "wipe" then cs.set d.2.1.toNat (cs.getD d.2.1.toNat 0+1)else cs
structure Wp(s:XS):Prop where
e:s.rc.foldl wpS (List.replicate s.q.B 0)=s.cl
r:∀d∈s.rc,d.1=Str.ofString "wipe"→∃b:Nat,d.2.1=(b:Int)∧b<s.q.B
bd:∀i v,s.pg i=some v→i<s.q.B*s.q.P
theorem Wp.put{k:Tm}{s:XS}{n v:Int}(h:Wp s)(w:WX k s)(hr:0<s.rmX):Wp (s.put n v):=by(
refine⟨?_,λd hd e=>?_,λi u e=>?_⟩
·show(s.rc++[(Str.ofString "put",(s.np:Int),true)]).foldl wpS (List.replicate s.q.B 0)=s.cl;rw[cK,h.e];rw[l8,nO];unfold wpS;exact kJ (show ¬Str.ofString "put"=Str.ofString "wipe" by decide)
·rcases gN.mp hd with hd|hd
 ·exact h.r d hd e
 rw[kD.mp hd]at e;exact absurd (show Str.ofString "put"=Str.ofString "wipe" from e) (by decide)
have e:(if i=s.np then some (s.q.nx*128+n,v)else s.pg i)=some u:=e
split at e
·rename_i z;obtain⟨hb,hf,_⟩:=w.spot hr;rw[z];exact qF3 hb hf
exact h.bd i u e)
theorem Wp.wip{s:XS}{b:Nat}(h:Wp s)(hb:b<s.q.B):Wp (s.wip b):=by(
refine⟨?_,λd hd e=>?_,λi u e=>?_⟩
·show(s.rc++[(Str.ofString "wipe",(b:Int),true)]).foldl wpS (List.replicate s.q.B 0)=s.cl.set b (s.cl.getD b 0+1);rw[cK,h.e];rw[l8,nO];unfold wpS;rw[kL rfl];show s.cl.set (b:Int).toNat (s.cl.getD (b:Int).toNat 0+1)=_;rw[mH]
·rcases gN.mp hd with hd|hd
 ·exact h.r d hd e
 rw[kD.mp hd];exact⟨b,rfl,hb⟩
have e:(if i / s.q.P=b then none else s.pg i)=some u:=e
split at e
·cases e
exact h.bd i u e)
structure Kpr(k:Tm)(R:XS→Prop):Prop where
p:∀s n v,WX k s→0<s.rmX→0≤n→n≤64→R s→R (s.put n v)
w:∀s b,WX k s→b<s.q.B→(∀y∈s.q.V,¬y.2 / (s.q.P:Int)=(b:Int))→R s→R (s.wip b)
section
variable{k:Tm}{R:XS→Prop}
theorem Kpr.room(K:Kpr k R){X Y:Sx}{r:Except Rf Pa}(w:WX k X.s)(ok:X.g.Ok)(h:X.room k=(Y,r))(p:R X.s):R Y.s:=by(
unfold Sx.room at h
cases htk:X.s.tk k X.g with
|none=>rw[htk]at h;cases h;exact p
|some ybg=>
 obtain⟨y,b,g'⟩:=ybg;rw[htk]at h;dsimp only at h;have f:=q5P ok htk;obtain⟨s',n,ms,md,lm,pg,hh⟩:=qCM (λs' _=>R s') w f p (λs' ms n q w' kp ec fb hnp hpb hr dk pg=>K.p s' n _ w' (by lia) (w'.qs.ok.nm _ hnp).1 (w'.qs.ok.nm _ hnp).2 pg);rcases hh with⟨e,_,_⟩|⟨e,_,nl⟩
 ·rw[e]at h;cases h;exact pg
 rw[e]at h;dsimp only at h;split at h
 ·cases h;exact pg
 cases h;exact K.w s' b md.w (by rw[md.eB];exact f.b) nl pg)
theorem Kpr.rooms(K:Kpr k R):∀{i:Nat} {X Y:Sx} {r:Except Rf Unit},WX k X.s→X.g.Ok→X.rooms k i=some (Y,r)→R X.s→R Y.s
|0,X,Y,r,w,ok,h,p=>by
 unfold Sx.rooms at h;split at h
 ·cases h;exact p
 cases h
|i+1,X,Y,r,w,ok,h,p=>by
 unfold Sx.rooms at h;split at h
 ·cases h;exact p
 cases e:X.room k with
 |mk W o=>
  obtain⟨w',ok',_⟩:=q5Q w ok e;have p':=K.room w ok e p;rw[e]at h;cases o with
  |error q=>cases h;exact p'
  |ok q=>exact Kpr.rooms K w' ok' h p'
theorem Kpr.ask(K:Kpr k R){i:Nat}{X Y:Sx}{n v:Int}{r:Except Rf Nat}(w:WX k X.s)(ok:X.g.Ok)(n0:0≤n)(n1:n≤64)(h:X.ask k i n v=some (Y,r))(p:R X.s):R Y.s:=by(
unfold Sx.ask at h
cases e:X.rooms k i with
|none=>rw[e]at h;cases h
|some Zr=>
 obtain⟨Z,o⟩:=Zr;obtain⟨w',_,_,_,_,rd⟩:=q2U w ok e;have p':=K.rooms w ok e p;rw[e]at h;cases o with
 |error q=>cases h;exact p'
 |ok u=>
  dsimp only at h;split at h
  ·cases h;exact p'
  cases h;exact K.p _ n v w' (by have:=mP (rd rfl);lia) n0 n1 p')
end
noncomputable def Pw(s:XS):Prop:=Pgs s∧Wp s
theorem q3B{k:Tm}:Kpr k Pw:=⟨λs n v w hr n0 n1 h=>⟨h.1.put w hr n0 n1,h.2.put w hr⟩,λs b w hb nl h=>⟨h.1.wip w hb nl,h.2.wip hb⟩⟩
structure Lat(pg:Nat→Option (Int×Int))(ok:Int→Prop)(j:Nat)(W:Mp):Prop where
nd:(W.map (·.1)).Nodup
fr:∀d∈W,ok d.1∧∃i v,i<j∧d.2=((i:Nat):Int)∧pg i=some v∧v.1%128=d.1∧∀i' w,i'<j→pg i'=some w→w.1%128=d.1→w.1 / 128≤v.1 / 128
al:∀i w,i<j→pg i=some w→ok (w.1%128)→w.1%128∈W.map (·.1)
theorem Lat.zero{pg:Nat→Option (Int×Int)}{ok:Int→Prop}:Lat pg ok 0 []:=⟨bU,λd hd=>(by cases hd),λi w hi=>absurd hi (cB _)⟩
section
variable{pg:Nat→Option (Int×Int)}{ok:Int→Prop}{j:Nat}{W:Mp}{v:Int×Int}
theorem qHN{W:Mp}{n p:Int}(h:(W.map (·.1)).Nodup):((putW W n p).map (·.1)).Nodup:=by(
unfold putW
split
·rw[pQ,dW (g:=(·.1)) λx _=>by show(if x.1=n then(x.1,p)else x).1=x.1;split<;>rfl];exact h
rename_i z
rw[mM]
refine r6.mpr ⟨h,by simp,λa ha c hc=>?_⟩
rw[show c=n by simpa using hc]
intro e
obtain⟨x,hx,ex⟩:=kP.mp ha
exact z (wM.mpr ⟨x,hx,hC (ex.trans e)⟩))
theorem Lat.skip(h:Lat pg ok j W)(no:∀v,pg j=some v→ok (v.1%128)→∃p u,(v.1%128,p)∈W∧pg p.toNat=some u∧v.1 / 128≤u.1 / 128):Lat pg ok (j+1) W:=by(
refine⟨h.nd,λd hd=>?_,λi w hi e o=>?_⟩
·obtain⟨o,i,u,hi,e1,e2,e3,e4⟩:=h.fr d hd;refine⟨o,i,u,by lia,e1,e2,e3,λi' w hi' e em=>?_⟩;by_cases z:i'=j
 ·subst z;obtain⟨p,u',hp,e',le⟩:=no w e (by rw[em];exact o);rw[em]at hp;have:p=d.2:=qBF h.nd hp hd;rw[this,e1,mH,e2]at e';cases e';exact le
 exact e4 i' w (by lia) e em
by_cases z:i=j
·subst z;obtain⟨p,_,hp,_⟩:=no w e o;exact kP.mpr ⟨_,hp,rfl⟩
exact h.al i w (by lia) e o)
theorem Lat.take(h:Lat pg ok j W)(e:pg j=some v)(o:ok (v.1%128))(nw:∀p u,(v.1%128,p)∈W→pg p.toNat=some u→u.1 / 128<v.1 / 128):Lat pg ok (j+1) (putW W (v.1%128) (j:Int)):=by(
refine⟨qHN h.nd,λd hd=>?_,λi w hi ew ow=>?_⟩
·rcases(q0M h.nd).mp hd with rfl|hd
 ·refine⟨o,j,v,d3 _,rfl,e,rfl,λi' w hi' e' em=>?_⟩;by_cases z:i'=j
  ·rw[z,e]at e';cases e';exact gL _
  have em:w.1%128=v.1%128:=em;have hm:=h.al i' w (by lia) e' (by rw[em];exact o);rw[em]at hm;obtain⟨d,hd,ed⟩:=kP.mp hm;obtain⟨_,i,u,hi,e1,e2,e3,e4⟩:=h.fr d hd;have:=e4 i' w (by lia) e' (by rw[em];exact ed.symm);have hd':(v.1%128,d.2)∈W:=by rw[←ed];exact hd
  have:=nw d.2 u hd' (by rw[e1,mH];exact e2);lia
 obtain⟨hd,ne⟩:=j9.mp hd;obtain⟨o',i,u,hi,e1,e2,e3,e4⟩:=h.fr d hd;refine⟨o',i,u,by lia,e1,e2,e3,λi' w hi' e' em=>?_⟩;by_cases z:i'=j
 ·rw[z,e]at e';cases e';exact absurd em.symm ne
 exact e4 i' w (by lia) e' em
have key:∀n,n∈W.map (·.1)∨n=v.1%128→n∈(putW W (v.1%128) (j:Int)).map (·.1):=λn hn=>by
 by_cases z:n=v.1%128
 ·exact kP.mpr ⟨_,(q0M h.nd).mpr (.inl rfl),z.symm⟩
 rcases hn with hn|hn
 ·obtain⟨d,hd,ed⟩:=kP.mp hn;exact kP.mpr ⟨d,(q0M h.nd).mpr (.inr (j9.mpr ⟨hd,λy=>z (ed.symm.trans y)⟩)),ed⟩
 exact absurd hn z
by_cases z:i=j
·rw[z,e]at ew;cases ew;exact key _ (.inr rfl)
exact key _ (.inl (h.al i w (by lia) ew ow)))
end
theorem Lat.live{s:XS}{ok:Int→Prop}{N:Nat}{W:Mp}(h:Lat s.pg ok N W)(p:Pgs s)(ov:∀n,ok n↔n=64∨∃q,(n,q)∈s.q.V)(vn:∀y∈s.q.V,0≤y.2∧y.2.toNat<N)(q:Int):q∈W.map (·.2)↔∃n,(n,q)∈s.q.V:=by(
have key:∀d∈W,∀q',(d.1,q')∈s.q.V→d.2=q':=λd hd q' hq'=>by obtain⟨_,i,v,hi,e,epg,en,mx⟩:=h.fr d hd;obtain⟨u,u1,u2,u3⟩:=p.nw _ hq';have u1:s.pg q'.toNat=some u:=u1;have u2:u.1%128=d.1:=u2;obtain⟨q0,qN⟩:=vn _ hq';have m1:=mx q'.toNat u qN u1 u2;have m2:=u3 i _ epg en;have:i=q'.toNat:=p.one i q'.toNat _ _ epg u1 (by lia);have q0:0≤q':=q0;rw[e,this];lia
constructor
·intro hq;obtain⟨d,hd,rfl⟩:=kP.mp hq;obtain⟨o,i,v,hi,e,epg,en,mx⟩:=h.fr d hd;have:∃q',(d.1,q')∈s.q.V:=by
  rcases(ov d.1).mp o with z|z
  ·obtain⟨q',hq'⟩:=p.rl ⟨i,_,epg,en.trans z⟩;exact⟨q',by rw[z];exact hq'⟩
  exact z
 obtain⟨q',hq'⟩:=this;rw[key d hd q' hq'];exact⟨_,hq'⟩
rintro⟨n,hn⟩
obtain⟨u,u1,u2,u3⟩:=p.nw _ hn
have u2:u.1%128=n:=u2
obtain⟨d,hd,ed⟩:=kP.mp (h.al _ u (vn _ hn).2 u1 (by rw[u2];exact(ov n).mpr (.inr ⟨q,hn⟩)))
exact kP.mpr ⟨d,hd,key d hd q (by rw[show d.1=n from ed.trans u2];exact hn)⟩)
noncomputable def rowT(s:XS)(b:Nat):List Int:=[(b:Int),s.q.lv.getD b 0,s.cl.getD b 0,s.q.bo.getD b 0,s.q.fi.getD b 0]
section
variable{k:Tm}{s:XS}{b f:Nat}
theorem qFV(w:WX k s)(hb:b<s.q.B)(ef:s.q.fi.getD b 0=(f:Int))(fP:f≤s.q.P){ls:List Int}(hl:∀q,q∈ls↔∃n,(n,q)∈s.q.V):((((List.range f).map λi=>((b*s.q.P+i:Nat):Int)).filter λq=>decide (q∈ls)).length:Int)=s.q.lv.getD b 0:=by(
rw[←q45 w.qs w.pd hb,c6,hG,←sO]
unfold lvP
rw[List.length_filterMap_eq_countP]
obtain⟨r,er⟩:∃r,s.q.P=f+r:=⟨s.q.P-f,by omega⟩
have e1:∀i,i<s.q.P→((s.q.V.find? λy=>decide (y.2=((b*s.q.P+i:Nat):Int))).map λy=>[y.2,y.1]).isSome=decide (((b*s.q.P+i:Nat):Int)∈ls):=λi hi=>by
 by_cases z:((b*s.q.P+i:Nat):Int)∈ls
 ·obtain⟨n,hn⟩:=(hl _).mp z;rw[hC z,pM,List.find?_isSome];exact⟨_,hn,hC rfl⟩
 rw[hU z,pM];cases e:s.q.V.find? λy=>decide (y.2=((b*s.q.P+i:Nat):Int))with
 |none=>rfl
 |some y=>
  have h1:y.2=((b*s.q.P+i:Nat):Int):=by have:=rG e;simpa using this
  exact absurd ((hl _).mpr ⟨y.1,by rw[←h1];exact dY e⟩) z
have e2:List.countP (λi=>decide (((b*s.q.P+i:Nat):Int)∈ls)) (List.range s.q.P)=List.countP (λi=>decide (((b*s.q.P+i:Nat):Int)∈ls)) (List.range f):=by
 rw[er,bV,aE,←er];have:List.countP (λi=>decide (((b*s.q.P+i:Nat):Int)∈ls)) ((List.range r).map (f + ·))=0:=by rw[List.countP_eq_zero];intro i hi hm;obtain⟨j,hj,rfl⟩:=kP.mp hi;have hj:=gC.mp hj;obtain⟨n,hn⟩:=(hl _).mp (mP hm);obtain⟨c,g,_,_,hg,e,lt,_⟩:=w.vl _ hn;have e:((b*s.q.P+(f+j):Nat):Int)=((c*s.q.P+g:Nat):Int):=e;obtain⟨rfl,rfl⟩:=q6L (by omega) hg (eN e);rw[ef]at lt;omega
 rw[this];rfl
have e3:List.countP (λa=>((s.q.V.find? λy=>decide (y.2=((b*s.q.P+a:Nat):Int))).map λy=>[y.2,y.1]).isSome) (List.range s.q.P)=List.countP (λi=>decide (((b*s.q.P+i:Nat):Int)∈ls)) (List.range s.q.P):=by refine List.countP_congr λi hi=>?_;rw[e1 i (gC.mp hi)]
rw[e3,e2]
rfl)
theorem qFW{l:List Nat}(hl:FreeIs s.q.B (noB s.q.B) s.cl s.q.fi l):l.length=((List.range s.q.B).filter λb=>decide (s.q.fi.getD b 0=0)).length:=by rw[hl.pm.length_eq];unfold yX;rw[yD]
theorem qHO(hb:b<s.q.B)(p:jP s.q.P s.q.fi b=true)(no:∀c,c<b→jP s.q.P s.q.fi c=false):jR s.q.B s.q.P (noB s.q.B) s.q.fi=some b:=by(
unfold jR
rw[yD,sD]
obtain⟨r,er⟩:∃r,s.q.B=b+(r+1):=⟨s.q.B-b-1,by omega⟩
refine⟨p,List.range b,(List.range r).map (b+1 + ·),?_,λa ha=>?_⟩
·rw[er,bV,List.range_succ_eq_map,mQ,pQ];congr 1;rw[pP];congr 1;refine dW λj _=>?_;show b+(j+1)=b+1+j;omega
rw[no a (gC.mp ha)]
rfl)
theorem qHP(no:∀c,c<s.q.B→jP s.q.P s.q.fi c=false):jR s.q.B s.q.P (noB s.q.B) s.q.fi=none:=by(
unfold jR
rw[yD,wW]
intro c hc
rw[no c (gC.mp hc)]
decide)
end
noncomputable def newH(B P:Nat)(cl:List Int)(rc:List (Str×Int×Bool)):XS:=⟨(newX B P).q,cl,λ_=>none,none,rc⟩
section
variable{k:Tm}{B P:Nat}{cl:List Int}{rc:List (Str×Int×Bool)}
theorem qHQ(b2:B≤16)(p1:1≤P)(p2:P≤16)(hk:1+k.ie<B)(s1:1≤k.sp)(ev:k.ev=false)(lc:cl.length=B)(c0:∀b,0≤cl.getD b 0∧cl.getD b 0≤(rc.length:Int)):Ix k (newH B P cl rc)∧(1+k.ie)*P≤(newH B P cl rc).rmX:=by obtain⟨x,ge⟩:=qHJ b2 p1 p2 hk s1;have w:=x.w;exact⟨⟨⟨w.qs,w.on,lc,w.cr,w.vl,w.pd,c0,w.bo,w.nx,w.sl,w.l6,w.l0⟩,x.sh,s1,λz=>(by rw[ev]at z;cases z),λz=>(by rw[ev]at z;cases z)⟩,ge⟩
structure Cw(B:Nat)(cl:List Int)(rc:List (Str×Int×Bool)):Prop where
lc:cl.length=B
c0:∀b,0≤cl.getD b 0∧cl.getD b 0≤(rc.length:Int)
e:rc.foldl wpS (List.replicate B 0)=cl
r:∀d∈rc,d.1=Str.ofString "wipe"→∃b:Nat,d.2.1=(b:Int)∧b<B
theorem Cw.zero:Cw B (List.replicate B 0) []:=⟨gK,λb=>(by rw[show(List.replicate B (0:Int)).getD b 0=0 from rep8];exact⟨gL _,gL _⟩),rfl,λd hd=>(by cases hd)⟩
theorem Cw.wip(h:Cw B cl rc){b:Nat}{z:Bool}(hb:b<B):Cw B (cl.set b (cl.getD b 0+1)) (rc++[(Str.ofString "wipe",(b:Int),z)]):=by(
refine⟨by rw[gJ];exact h.lc,λc=>?_,?_,λd hd e=>?_⟩
·have h0:=h.c0 c;have hl:(rc++[(Str.ofString "wipe",(b:Int),z)]).length=rc.length+1:=by simp
 rw[hl];by_cases e:c=b
 ·subst e;have:=h.lc;rw[kI,pG (by omega)];show 0≤cl.getD c 0+1∧cl.getD c 0+1≤_;omega
 rw[kI,rX (λz=>e z.symm),←kI];omega
·rw[cK,h.e];show(if Str.ofString "wipe"=Str.ofString "wipe" then cl.set (b:Int).toNat (cl.getD (b:Int).toNat 0+1)else cl)=_;rw[kL rfl,mH]
rcases gN.mp hd with hd|hd
·exact h.r d hd e
rw[kD.mp hd]
exact⟨b,rfl,hb⟩)
theorem qHR(h:Cw B cl rc):Pw (newH B P cl rc):=by have p:=qFT (B:=B) (P:=P);exact⟨⟨p.1,p.2,p.3,p.4,p.5,p.6⟩,⟨h.e,h.r,λi v e=>(by cases e)⟩⟩
end
noncomputable def bst(f:Tl→Int)(b a:Tl):Tl:=if f a<f b then a else b
structure Bst(f:Tl→Int)(l:List Tl)(b:Tl):Prop where
sp:∃as bs,l=as++b::bs∧∀x∈as,f b<f x
le:∀x∈l,f b≤f x
theorem Bst.one{f:Tl→Int}{a:Tl}:Bst f [a] a:=⟨⟨[],[],rfl,λx hx=>(by cases hx)⟩,λx hx=>(by rw[kD.mp hx];exact gL _)⟩
theorem Bst.step{f:Tl→Int}{l:List Tl}{b a:Tl}(h:Bst f l b):Bst f (l++[a]) (bst f b a):=by(
unfold bst
split
·rename_i z;refine⟨⟨l,[],rfl,λx hx=>nK z (h.le x hx)⟩,λx hx=>?_⟩;rcases gN.mp hx with hx|hx
 ·exact pO (nK z (h.le x hx))
 rw[kD.mp hx];exact gL _
rename_i z
obtain⟨as,bs,e,lt⟩:=h.sp
refine⟨⟨as,bs++[a],by rw[e];simp,lt⟩,λx hx=>?_⟩
rcases gN.mp hx with hx|hx
·exact h.le x hx
rw[kD.mp hx]
exact lW.mp z)
theorem Bst.pk{f:Tl→Int}{l:List Tl}{b:Tl}(h:Bst f l b):pk f l=b.b:=by(
have:l.find? (unb f l)=some b:=by
 obtain⟨as,bs,e,lt⟩:=h.sp;refine sD.mpr ⟨?_,as,bs,e,λx hx=>?_⟩
 ·unfold unb;rw[dM];intro x hx;rw[hU (lW.mpr (h.le x hx))];rfl
 have:b∈l:=by rw[e];simp
 rw[dQ];unfold unb;rw[List.all_eq_false];exact⟨b,this,by rw[hC (lt x hx)];decide⟩
unfold W1.pk
rw[this]
rfl)
theorem qFX{a b c d:Int}(h:lx [a,b] [c,d]=false):c≤a∧(a=c→d≤b):=by(
unfold lx at h
by_cases z:a=c
·rw[kL z]at h;unfold lx at h;by_cases y:b=d
 ·lia
 rw[kJ y]at h;have:=d6 h;lia
rw[kJ z]at h
have:=d6 h
lia)
theorem qHS{s:XS}{L:List Nat}{b:Nat}(pw:L.Pairwise (· < ·))(h:minF s.cl L=some b):Bst Tl.cl (L.map s.tl) (s.tl b):=by(
obtain⟨h1,h2⟩:=(q2S (cl:=s.cl) pw).2 b h
obtain⟨as,bs,e⟩:=List.append_of_mem h1
refine⟨⟨as.map s.tl,bs.map s.tl,by rw[e,mM];rfl,λx hx=>?_⟩,λx hx=>?_⟩
·obtain⟨c,hc,rfl⟩:=kP.mp hx;have hcL:c∈L:=by rw[e];exact gO _ hc
 obtain⟨l1,l2⟩:=qFX (h2 c hcL);have:c<b:=by rw[e]at pw;exact(List.pairwise_append.mp pw).2.2 c hc b kY
 show s.cl.getD b 0<s.cl.getD c 0;rcases Int.lt_or_eq_of_le l1 with z|z
 ·exact z
 have:=l2 z.symm;lia
obtain⟨c,hc,rfl⟩:=kP.mp hx
exact(qFX (h2 c hc)).1)
noncomputable def Gs(g0 g:Rl):Prop:=(∃f,g0=.rk f∧g=.rk f)∨∃row u u',g0=.fol row u∧g=.fol row u'
theorem Gs.ch{g0 g:Rl}{pg nw:Int}{ts:List Tl}(h:Gs g0 g):Gs g0 (g.ch pg nw ts).2:=by(
rcases h with⟨f,e,rfl⟩|⟨row,u,u',e,rfl⟩
·exact .inl ⟨f,e,rfl⟩
exact .inr ⟨row,u,_,e,rfl⟩)
theorem Gs.room{k:Tm}{g0:Rl}{X Y:Sx}{r:Except Rf Pa}(h:Gs g0 X.g)(ok:X.g.Ok)(w:WX k X.s)(hr:X.room k=(Y,r)):Gs g0 Y.g:=by(
have tk:∀{y b g'},X.s.tk k X.g=some (y,b,g')→Gs g0 g':=fun {y b g'} e=>by
 rcases q0P ok e with⟨_,_,_,eg⟩|⟨_,_,_,eg,_⟩
 ·rw[eg];exact h.ch
 rw[eg];exact h
have rr:=q1V w ok
rw[hr]at rr
cases rr with
|no _=>exact h
|dark e _ _ _=>exact tk e
|ok e _ _ _ _ _ _=>exact tk e)
theorem Gs.rooms{k:Tm}{g0:Rl}:∀{i:Nat} {X Y:Sx} {r:Except Rf Unit},WX k X.s→X.g.Ok→X.rooms k i=some (Y,r)→Gs g0 X.g→Gs g0 Y.g
|0,X,Y,r,w,ok,h,c=>by
 unfold Sx.rooms at h;split at h
 ·cases h;exact c
 cases h
|i+1,X,Y,r,w,ok,h,c=>by
 unfold Sx.rooms at h;split at h
 ·cases h;exact c
 split at h
 ·rename_i Z e hz;cases h;exact c.room ok w hz
 rename_i Z p hz;obtain⟨w2,ok2,_⟩:=q5Q w ok hz;exact Gs.rooms w2 ok2 h (c.room ok w hz)
theorem Gs.ask{k:Tm}{g0:Rl}{i:Nat}{X Y:Sx}{n v:Int}{r:Except Rf Nat}(c:Gs g0 X.g)(w:WX k X.s)(ok:X.g.Ok)(h:X.ask k i n v=some (Y,r)):Gs g0 Y.g:=by(
unfold Sx.ask at h
split at h
·cases h
·rename_i Z e hz;cases h;exact Gs.rooms w ok hz c
rename_i Z u hz
have:=Gs.rooms w ok hz c
split at h
·cases h;exact this
cases h
exact this)
section
variable{f:Tl→Int}{l:List Tl}{A:Tl}
theorem Bst.mem(h:Bst f l A):A∈l:=by obtain⟨as,bs,e,_⟩:=h.sp;rw[e];simp
theorem Bst.min(h:Bst f l A){M:Int}(hM:M∈(l.filter λ_=>true).map f)(le:∀a∈(l.filter λ_=>true).map f,M≤a):M=f A:=by(
obtain⟨o,ho,rfl⟩:=kP.mp hM
have:=h.le o (mV.mp ho).1
have:=le _ (kP.mpr ⟨A,mV.mpr ⟨h.mem,rfl⟩,rfl⟩)
lia)
theorem Bst.fil(h:Bst f l A):∃r,(l.filter λd=>decide (f d=f A))=A::r:=by obtain⟨as,bs,e,lt⟩:=h.sp;refine⟨bs.filter λd=>decide (f d=f A),?_⟩;rw[e,gA,List.filter_eq_nil_iff.mpr (λx hx q=>by have:=lt x hx;have:=mP q;lia),dC,mU,kL (hC rfl)]
theorem Bst.ex(h:l≠[]):∃A,Bst f l A:=by(
have:∀n,n<l.length→∃A,Bst f (l.take (n+1)) A:=by
 intro n;induction n with
 |zero=>intro hn;refine⟨l[0],?_⟩;rw[show l.take (0+1)=[l[0]] by rw[←kW hn];rfl];exact .one
 |succ n ih=>intro hn;obtain⟨A,hA⟩:=ih (by lia);refine⟨bst f A l[n+1],?_⟩;rw[←kW hn];exact hA.step
have p:=sS.mpr h
obtain⟨A,hA⟩:=this (l.length-1) (by lia)
rw[wX (by lia)]at hA
exact⟨A,hA⟩)
end
theorem Bst.uq{f:Tl→Int}{l:List Tl}{A A':Tl}(h:Bst f l A)(h':Bst f l A'):A=A':=by(
have e:f A=f A':=bL (h.le _ h'.mem) (h'.le _ h.mem)
obtain⟨r,e1⟩:=h.fil
obtain⟨r',e2⟩:=h'.fil
rw[e,e2]at e1
exact(List.cons.inj e1).1.symm)
theorem qA8{k:Tm}{s:XS}:(s.clb k (s.ful k)).Pairwise (· < ·):=by unfold XS.clb XS.ful;exact((rN).filter _).filter _
theorem qCQ{k:Tm}{s:XS}{A:Tl}(h:Bst Tl.lv (s.ots k) A):s.tk k (.rk λ_ _=>Tl.lv)=some (Str.ofString "rule",A.b.toNat,.rk λ_ _=>Tl.lv)∧(A.b.toNat:Int)=A.b:=by(
obtain⟨b,hb,rfl⟩:=kP.mp h.mem
unfold XS.tk
rw[kJ (λz=>by rw[z]at hb;cases hb)]
refine⟨?_,rfl⟩
show some (_,(W1.pk Tl.lv (s.ots k)).toNat,_)=_
rw[h.pk]
rfl)
theorem q8U{k:Tm}{s:XS}{g:Rl}(ev:k.ev=true)(e:s.ots k=[]):(∀A,Bst Tl.cl ((s.clb k (s.ful k)).map s.tl) A→s.tk k g=some (Str.ofString "even",A.b.toNat,g)∧(A.b.toNat:Int)=A.b)∧((s.clb k (s.ful k)).map s.tl=[]→s.tk k g=none):=by(
have e0:s.opt k=[]:=wJ.mp e
obtain⟨m1,m2⟩:=q2S (cl:=s.cl) (qA8 (k:=k) (s:=s))
unfold XS.tk
rw[kL e0,kL ev]
unfold XS.chg
cases z:minF s.cl (s.clb k (s.ful k))with
|none=>refine⟨λA h=>?_,λ_=>rfl⟩;have:=h.mem;rw[m1 z]at this;cases this
|some b=>
 refine⟨λA h=>?_,λy=>?_⟩
 ·rw[h.uq (qHS qA8 z)];exact⟨rfl,rfl⟩
 have:=(m2 b z).1;rw[wJ.mp y]at this;cases this)
theorem qA9{f:Int→Nat}:∀{l:List Int} {i:Nat} {x:Int},i<l.length→((l.set i x).map f).sum+f (l.getD i 0)=(l.map f).sum+f x
| [],i,x,h=>absurd h (cB _)
|a::l,0,x,h=>by show(f x+(l.map f).sum)+f a=(f a+(l.map f).sum)+f x;lia
|a::l,i+1,x,h=>by have:=qA9 (f:=f) (l:=l) (i:=i) (x:=x) (by simpa using h);show(f a+((l.set i x).map f).sum)+f (l.getD i 0)=(f a+(l.map f).sum)+f x;lia
noncomputable def phi(M:Int)(cl:List Int):Nat:=(cl.map λc=>(M-c).toNat).sum
theorem qFY{M:Int}:∀{cl:List Int},(∀c∈cl,M≤c+3)→phi M cl≤3*cl.length
| [],_=>kO _
|a::l,h=>by have:=qFY (M:=M) (cl:=l) λc hc=>h c (kB _ hc);have:=h a kY;show(M-a).toNat+phi M l≤3*(l.length+1);lia
structure Gz(B:Nat)(cl:List Int)(M:Int):Prop where
le:∀c,c<B→cl.getD c 0≤M
ge:∀c,c<B→M≤cl.getD c 0+3
theorem Gz.phi{B:Nat}{cl:List Int}{M:Int}(g:Gz B cl M)(l:cl.length=B):phi M cl≤3*B:=by(
rw[←l]
refine qFY λc hc=>?_
obtain⟨i,hi,rfl⟩:=List.mem_iff_getElem.mp hc
have:=g.ge i (by lia)
rw[kI,kE hi]at this
exact this)
noncomputable def muZ(k:Tm)(s:XS)(M:Int):Nat:=((1+k.ie)*s.q.P+1-s.rmX)*(3*s.q.B+1)+phi M s.cl
section
variable{k:Tm}{X Y:Sx}{M:Int}
theorem qKI{p:Pa}(w:WX k X.s)(ok:X.g.Ok)(ev:k.ev=true)(sp:k.sp≤3)(sh:X.s.q.V.length<(X.s.q.B-(1+k.ie))*X.s.q.P)(nr:X.s.rd k=false)(g:Gz X.s.q.B X.s.cl M)(h:X.room k=(Y,.ok p)):∃M',Gz Y.s.q.B Y.s.cl M'∧muZ k Y.s M'<muZ k X.s M:=by(
have rr:=q1V w ok
rw[h]at rr
cases rr with
|@ok y b g' s' ms tk mv md ml lf w' rm=>
 have nr:¬(1+k.ie)*X.s.q.P<X.s.rmX:=d6 nr;have fb:=q5P ok tk;have hb:=fb.b;have lb:=q45 w.qs w.pd hb;have mr:=md.rm;have lc:=w.lc;have eP:(s'.wip b).q.P=X.s.q.P:=md.eP;have eB:(s'.wip b).q.B=X.s.q.B:=md.eB;have ecl:(s'.wip b).cl=X.s.cl.set b (X.s.cl.getD b 0+1):=by show s'.cl.set b _=_;rw[md.ec]
 have gcl:∀c,(s'.wip b).cl.getD c 0=if b=c then X.s.cl.getD b 0+1 else X.s.cl.getD c 0:=λc=>by
  rw[ecl,jJ,lc];by_cases e:b=c
  ·rw[kL ⟨e,hb⟩,kL e]
  rw[kJ (λz=>e z.1),kJ e]
 have up:∀{M':Int},X.s.cl.getD b 0+1≤M'→phi M' (s'.wip b).cl+1=phi M' X.s.cl:=fun {M'} z=>by rw[ecl];have:=qA9 (f:=λc=>(M'-c).toNat) (l:=X.s.cl) (i:=b) (x:=X.s.cl.getD b 0+1) (by lia);unfold phi;lia
 show ∃M',Gz (s'.wip b).q.B (s'.wip b).cl M'∧muZ k (s'.wip b) M'< _;have lvle:=qIL w hb;have goO:∀{c},c<X.s.q.B→X.s.lst≤X.s.cl.getD c 0:=λhc=>qKF w hc;have cb:X.s.cl.getD b 0<X.s.lst+k.sp:=by
  rcases q0P ok tk with⟨_,h1,_⟩|⟨_,_,_,_,_,h1,_⟩
  ·exact(q2T.mp h1).2 ev
  exact mP (mV.mp h1).2
 have gb:=g.le b hb;rcases q0P ok tk with⟨_,h1,_⟩|⟨_,_,e0,_,_,h1,_⟩
 ·have lt:=(q2T.mp h1).1.2;obtain⟨M',eM⟩:∃M':Int,M'=if X.s.cl.getD b 0+1≤M then M else X.s.cl.getD b 0+1:=⟨_,rfl⟩;have hM:X.s.cl.getD b 0+1≤M'∧M≤M'∧(M'=M∨M'=X.s.cl.getD b 0+1):=by rw[eM];split<;>lia
  obtain⟨m1,m2,m3⟩:=hM;have g':Gz (s'.wip b).q.B (s'.wip b).cl M':=by
   rw[eB];refine⟨λc hc=>?_,λc hc=>?_⟩
   ·rw[gcl];have:=g.le c hc;split<;>lia
   rw[gcl];have h1:=g.ge c hc;have h2:=goO hc;split
   ·rename_i e;rw[e]at *;lia
   lia
  refine⟨M',g',?_⟩;have ph:=g'.phi w'.lc;rw[eB]at ph;unfold muZ;rw[eP,eB];have d1:(1+k.ie)*X.s.q.P+1-(s'.wip b).rmX+1≤(1+k.ie)*X.s.q.P+1-X.s.rmX:=by lia
  have:=gR (3*X.s.q.B+1) d1;rw[dN,rO]at this;lia
 have lP:X.s.q.lv.getD b 0=(X.s.q.P:Int):=by refine bL lvle.2 (lW.mp λz=>?_);have:b∈X.s.opt k:=q2T.mpr ⟨⟨fb,z⟩,λ_=>cb⟩;rw[e0]at this;cases this
 have hr:X.s.rmX=(1+k.ie)*X.s.q.P:=by
  have:=fb.l;rw[lP]at this;unfold XS.spc at this;split at this
  ·lia
  rename_i z;rw[dN,rO]at z ⊢;have:=w.qs.ok.p1;lia
 have de:X.s.ded k≠[]:=by obtain⟨l,hl⟩:=FreeIs.ex X.s.q.B (noB X.s.q.B) X.s.cl X.s.q.fi;have:=(qFL (m:=⟨0,0,0,[],[],X.s.cl,[],noB X.s.q.B,none,[]⟩) (ie:=k.ie) w.qs w.on rfl hl hr sh).1;rw[qFN w rfl hl]at this;exact this
 obtain⟨d,hd⟩:=List.exists_mem_of_ne_nil _ de;obtain⟨fd,ld⟩:=q8T.mp hd;have cd:X.s.lst+k.sp≤X.s.cl.getD d 0:=lW.mp λz=>by have:d∈X.s.opt k:=q2T.mpr ⟨⟨fd,ld⟩,λ_=>z⟩;rw[e0]at this;cases this
 have gd:=g.le d fd.b;refine⟨M,⟨?_,?_⟩,?_⟩
 ·rw[eB];intro c hc;rw[gcl];have:=g.le c hc;split<;>lia
 ·rw[eB];intro c hc;rw[gcl];have:=g.ge c hc;split
  ·rename_i e;rw[e]at *;lia
  lia
 have:=up (M':=M) (by lia);unfold muZ;rw[eP,eB,show(s'.wip b).rmX=X.s.rmX by lia];lia)
theorem qCR:∀{n:Nat} {X:Sx} {M:Int},WX k X.s→X.g.Ok→k.ev=true→k.sp≤3→X.s.q.V.length<(X.s.q.B-(1+k.ie))*X.s.q.P→Gz X.s.q.B X.s.cl M→muZ k X.s M<n→∃Y r M',X.rooms k n=some (Y,r)∧Gz Y.s.q.B Y.s.cl M'
|0,X,M,_,_,_,_,_,_,h=>absurd h (cB _)
|n+1,X,M,w,ok,ev,sp,sh,g,h=>by
 unfold Sx.rooms;split
 ·exact⟨X,_,M,rfl,g⟩
 rename_i rd;cases e:X.room k with
 |mk Y r=>
  cases r with
  |error q=>
   refine⟨Y,_,M,rfl,?_⟩;have rr:=q1V w ok;rw[e]at rr;cases rr with
   |no=>exact g
   |dark tk md=>rw[md.eB,md.ec];exact g
  |ok p=>obtain⟨M',g',lt⟩:=qKI w ok ev sp sh (by simpa using rd) g e;obtain⟨w2,ok2,kp,_⟩:=q5Q w ok e;exact qCR w2 ok2 ev sp (by rw[kp.lV,kp.eB,kp.eP];exact sh) g' (by lia)
structure AskZ(k:Tm)(i:Nat)(X:Sx)(n:Int)(Y:Sx):Prop where
w:WX k Y.s
ok:Y.g.Ok
gz:∃M,Gz Y.s.q.B Y.s.cl M
rl:Y.s.rc.length≤X.s.rc.length+17*i+1
pl:Y.ps.length≤X.ps.length+i
eB:Y.s.q.B=X.s.q.B
eP:Y.s.q.P=X.s.q.P
nm:∀m,(∃p,(m,p)∈Y.s.q.V)↔m=n∨∃p,(m,p)∈X.s.q.V
structure AskN(k:Tm)(i:Nat)(X:Sx)(Y:Sx):Prop where
w:WX k Y.s
ok:Y.g.Ok
gz:∃M,Gz Y.s.q.B Y.s.cl M
rl:Y.s.rc.length≤X.s.rc.length+17*i+1
pl:Y.ps.length≤X.ps.length+i
kp:Kp X.s Y.s
theorem qLM{i:Nat}{n v:Int}(w:WX k X.s)(ok:X.g.Ok)(ev:k.ev=true)(sp:k.sp≤3)(sh:X.s.q.V.length<(X.s.q.B-(1+k.ie))*X.s.q.P)(g:Gz X.s.q.B X.s.cl M)(hi:muZ k X.s M<i)(n0:0≤n)(n1:n≤64)(hl:(∃p,(n,p)∈X.s.q.V)∨X.s.q.V.length<59):(∃Y p,X.ask k i n v=some (Y,.ok p)∧AskZ k i X n Y)∨∃Y e,X.ask k i n v=some (Y,.error e)∧AskN k i X Y:=by(
obtain⟨Y,r,M',hr,g'⟩:=qCR w ok ev sp sh g hi
obtain⟨w',ok',kp,rl,pl,rd⟩:=q2U w ok hr
unfold Sx.ask
rw[hr]
cases r with
|error e=>exact .inr ⟨Y,e,rfl,w',ok',⟨M',g'⟩,by lia,by lia,kp⟩
|ok u=>
 dsimp only;by_cases dk:Y.s.lf=some 0
 ·rw[kL dk];exact .inr ⟨Y,_,rfl,w',ok',⟨M',g'⟩,by lia,by lia,kp⟩
 rw[kJ dk];have rd:=mP (rd rfl);rw[dN,rO]at rd;have hl':(∃p,(n,p)∈Y.s.q.V)∨Y.s.q.V.length<59:=by rw[kp.lV];exact hl.imp (λz=>(kp.nm n).mpr z) id
 obtain⟨w2,rm2⟩:=w'.put (n:=n) (v:=v) (by lia) n0 n1 hl' dk;refine .inl ⟨_,_,rfl,w2,ok',⟨M',g'⟩,?_,pl,kp.eB,kp.eP,λm=>?_⟩
 ·show(Y.s.rc++[_]).length≤_;rw[mL,gQ];lia
 rw[←kp.nm m];constructor
 ·rintro⟨p,h⟩
  rcases uN.mp h with e|⟨h,_⟩
  ·cases e;exact .inl rfl
  exact .inr ⟨p,h⟩
 intro z;by_cases e:m=n
 ·exact⟨_,uN.mpr (.inl (by rw[e]))⟩
 rcases z with z|⟨p,h⟩
 ·exact absurd z e
 exact⟨p,uN.mpr (.inr ⟨h,e⟩)⟩)
theorem qHT{i:Nat}{n v:Int}(rd:X.s.rd k=true)(lf:X.s.lf=none):X.ask k i n v=some (⟨X.s.put n v,X.g,X.ps⟩,.ok X.s.np):=by(
have e:X.rooms k i=some (X,.ok ()):=by
 cases i with
 |zero=>unfold Sx.rooms;rw[rd,kL rfl]
 |succ i=>unfold Sx.rooms;rw[rd,kL rfl]
unfold Sx.ask
rw[e]
dsimp only
rw[lf,kJ (by simp)])
theorem qKJ{s:XS}(w:WX k s)(g:Gz s.q.B s.cl M)(b7:s.q.B≤7)(p4:s.q.P≤4):muZ k s M<150:=by(
have ph:=g.phi w.lc
have sl:=w.sl
unfold muZ
have:(1+k.ie)*s.q.P+1-s.rmX≤5:=by rw[dN,rO];lia
have:=xN this (show 3*s.q.B+1≤22 by lia)
lia)
theorem q5R:∀(g:List Int) (s:XS),(s.forgs g).rc=s.rc∧(s.forgs g).cl=s.cl∧(s.forgs g).q.B=s.q.B∧(s.forgs g).q.P=s.q.P∧(s.forgs g).pg=s.pg∧∀m,(∃p,(m,p)∈(s.forgs g).q.V)↔m∉g∧∃p,(m,p)∈s.q.V
| [],s=>⟨rfl,rfl,rfl,rfl,rfl,λm=>by simp[XS.forgs]⟩
|n::g,s=>by
 obtain⟨a1,a2,a3,a4,a5,a6⟩:=q5R g (s.forg n);refine⟨a1,a2,a3,a4,a5,λm=>?_⟩;show(∃p,(m,p)∈((s.forg n).forgs g).q.V)↔_;rw[a6];constructor
 ·rintro⟨h1,p,hp⟩
  obtain⟨h2,h3⟩:=j9.mp hp;exact⟨λz=>(kN.mp z).elim h3 h1,p,h2⟩
 rintro⟨h1,p,hp⟩
 exact⟨λz=>h1 (kB _ z),p,j9.mpr ⟨hp,λz=>h1 (kN.mpr (.inl z))⟩⟩
end
structure Kz(k:Tm)(sh:Int)(sr:Nat)(X:Sx)(KD:Mp):Prop where
w:WX k X.s
ok:X.g.Ok
gz:∃M,Gz X.s.q.B X.s.cl M
nd:(KD.map (·.1)).Nodup
kb:∀y∈KD,0≤y.1∧y.1<sh
eq:∀n,n≠64→((∃p,(n,p)∈X.s.q.V)↔n∈KD.map (·.1))
ls:KD.length≤sr
hs:sr+2≤(X.s.q.B-(1+k.ie))*X.s.q.P
s57:sr≤57
h64:sh≤64
b7:X.s.q.B≤7
p4:X.s.q.P≤4
section
variable{k:Tm}{sh:Int}{sr:Nat}{X Y:Sx}{KD:Mp}{n v:Int}{i:Nat}
theorem Kz.pm(h:Kz k sh sr X KD):((X.s.q.V.map (·.1)).filter λn=>decide (n≠64)).Perm (KD.map (·.1)):=by(
refine q2Q (r9 _ h.w.qs.ok.nd) h.nd λy=>?_
rw[mV,mJ]
constructor
·rintro⟨a,b⟩
 refine(h.eq y b).mp ?_;obtain⟨z,hz,rfl⟩:=kP.mp a;exact⟨z.2,hz⟩
intro hy
have:y≠64:=by obtain⟨z,hz,rfl⟩:=kP.mp hy;have:=h.kb z hz;have:=h.h64;lia
obtain⟨p,hp⟩:=(h.eq y this).mpr hy
exact⟨kP.mpr ⟨_,hp,rfl⟩,this⟩)
theorem Kz.lV(h:Kz k sh sr X KD):X.s.q.V.length≤KD.length+1:=by(
have h1:=qKC h.w.qs.ok.nd
have h2:=h.pm.length_eq
rw[hG]at h2
lia)
theorem Kz.hl(h:Kz k sh sr X KD){n:Int}:n∈X.s.hl↔n∈KD.map (·.1):=by(
rw[qKG]
constructor
·rintro⟨a,b⟩
 exact(h.eq n a).mp b
intro hy
have:n≠64:=by obtain⟨z,hz,rfl⟩:=kP.mp hy;have:=h.kb z hz;have:=h.h64;lia
exact⟨this,(h.eq n this).mpr hy⟩)
theorem Kz.can(h:Kz k sh sr X KD)(n0:0≤n)(n1:n<sh)(hc:n∈KD.map (·.1)∨KD.length<sr):(∃p,(n,p)∈X.s.q.V)∨(X.s.q.V.length<59∧X.s.q.V.length+1<(X.s.q.B-(1+k.ie))*X.s.q.P):=by(
have:=h.lV
have:=h.hs
have:=h.s57
have:=h.h64
rcases hc with z|z
·exact .inl ((h.eq n (by lia)).mpr z)
exact .inr ⟨by lia,by lia⟩)
theorem Kz.can64(h:Kz k sh sr X KD)(ne:KD≠[]):(∃p,((64:Int),p)∈X.s.q.V)∨(X.s.q.V.length<59∧X.s.q.V.length+1<(X.s.q.B-(1+k.ie))*X.s.q.P):=by(
have hs:=h.hs
have ls:=h.ls
have s57:=h.s57
by_cases z:∃p,((64:Int),p)∈X.s.q.V
·exact .inl z
have e:(X.s.q.V.map (·.1)).filter (λn=>decide (n≠64))=X.s.q.V.map (·.1):=rJ.mpr λy hy=>hC λw=>z (by obtain⟨u,hu,rfl⟩:=kP.mp hy;exact⟨u.2,by rw[←w];exact hu⟩)
have:=h.pm.length_eq
rw[e,hG,hG]at this
exact .inr ⟨by lia,by lia⟩)
theorem Kz.wrote(h:Kz k sh sr X KD)(n0:0≤n)(n1:n<sh)(hc:n∈KD.map (·.1)∨KD.length<sr)(a:AskZ k i X n Y):Kz k sh sr Y (putW KD n v):=by(
have h64:=h.h64
have mp:∀q,q∈putW KD n v↔q=(n,v)∨(q∈KD∧q.1≠n):=λq=>by rw[q0M h.nd,j9]
have mk:∀m,m∈(putW KD n v).map (·.1)↔m=n∨m∈KD.map (·.1):=λm=>by
 rw[kP,kP];constructor
 ·rintro⟨q,hq,rfl⟩
  rcases(mp q).mp hq with e|⟨e,_⟩
  ·rw[e];exact .inl rfl
  exact .inr ⟨q,e,rfl⟩
 intro z;by_cases e:m=n
 ·exact⟨(n,v),(mp _).mpr (.inl rfl),e.symm⟩
 rcases z with z|⟨q,hq,rfl⟩
 ·exact absurd z e
 exact⟨q,(mp _).mpr (.inr ⟨hq,e⟩),rfl⟩
refine⟨a.w,a.ok,a.gz,qDE h.nd,λy hy=>?_,λm m6=>?_,?_,by rw[a.eB,a.eP];exact h.hs,h.s57,h64,by rw[a.eB];exact h.b7,by rw[a.eP];exact h.p4⟩
·rcases(mp y).mp hy with e|⟨e,_⟩
 ·rw[e];exact⟨n0,n1⟩
 exact h.kb y e
·rw[a.nm,mk,h.eq m m6]
unfold putW
split
·rw[hG];exact h.ls
rename_i z
rw[mL,gQ]
rcases hc with w|w
·exfalso;obtain⟨q,hq,e⟩:=kP.mp w;exact z (wM.mpr ⟨q,hq,hC e⟩)
lia)
theorem Kz.no(h:Kz k sh sr X KD)(a:AskN k i X Y):Kz k sh sr Y KD:=⟨a.w,a.ok,a.gz,h.nd,h.kb,λm m6=>by rw[a.kp.nm,h.eq m m6],h.ls,by rw[a.kp.eB,a.kp.eP];exact h.hs,h.s57,h.h64,by rw[a.kp.eB];exact h.b7,by rw[a.kp.eP];exact h.p4⟩
theorem Kz.gave(h:Kz k sh sr X KD)(a:AskZ k i X 64 Y){g:List Int}:Kz k sh sr ⟨Y.s.forgs g,Y.g,Y.ps⟩ (KD.filter λy=>!decide (y.1∈g)):=by(
obtain⟨_,a4,a6,a7,_,a8⟩:=q5R g Y.s
have mk:∀y,y∈KD.filter (λy=>!decide (y.1∈g))↔y∈KD∧y.1∉g:=λy=>by rw[mV,dQ,rF]
refine⟨a.w.forgs g,a.ok,?_,h.nd.sublist (cW.map _),λy hy=>h.kb y ((mk y).mp hy).1,λm m6=>?_,mO (mC _ _) h.ls,?_,h.s57,h.h64,?_,?_⟩
·show ∃M,Gz (Y.s.forgs g).q.B (Y.s.forgs g).cl M;rw[a4,a6];exact a.gz
·rw[a8,a.nm,kP];constructor
 ·rintro⟨e1,e|e⟩
  ·exact absurd e m6
  obtain⟨y,hy,e⟩:=kP.mp ((h.eq m m6).mp e);exact⟨y,(mk y).mpr ⟨hy,by rw[e];exact e1⟩,e⟩
 rintro⟨y,hy,rfl⟩
 obtain⟨h1,h2⟩:=(mk y).mp hy;exact⟨h2,.inr ((h.eq _ m6).mpr (kP.mpr ⟨y,h1,rfl⟩))⟩
·show sr+2≤((Y.s.forgs g).q.B- _)*(Y.s.forgs g).q.P;rw[a6,a7,a.eB,a.eP];exact h.hs
·show(Y.s.forgs g).q.B≤7;rw[a6,a.eB];exact h.b7
show(Y.s.forgs g).q.P≤4
rw[a7,a.eP]
exact h.p4)
theorem Kz.lf(h:Kz k sh sr X KD){l:Option Int}(hl:∀i,l=some i→0≤i):Kz k sh sr ⟨{ X.s with lf:=l },X.g,X.ps⟩ KD:=⟨h.w.lf hl,h.ok,h.gz,h.nd,h.kb,h.eq,h.ls,h.hs,h.s57,h.h64,h.b7,h.p4⟩
theorem Kz.ask(h:Kz k sh sr X KD)(ev:k.ev=true)(sp:k.sp≤3)(n0:0≤n)(n1:n≤64)(hl:(∃p,(n,p)∈X.s.q.V)∨(X.s.q.V.length<59∧X.s.q.V.length+1<(X.s.q.B-(1+k.ie))*X.s.q.P)):(∃Y p,X.ask k 150 n v=some (Y,.ok p)∧AskZ k 150 X n Y)∨∃Y e,X.ask k 150 n v=some (Y,.error e)∧AskN k 150 X Y:=by(
obtain⟨M,g⟩:=h.gz
have lV:=h.lV
have ls:=h.ls
have hs:=h.hs
exact qLM h.w h.ok ev sp (by lia) g (qKJ h.w g h.b7 h.p4) n0 n1 (hl.imp id λz=>z.1))
end
end W1
namespace L2
open PySem PySem.Spec PyProof.Rows
section
variable{prog:Program}{w:World}{A:Around}{E:Value→Shared→Prop}
theorem qCS{s:Shared}{nm:String}{f:Builtin}{us:List Value}{ks:List (Str×Value)}{Q:Value→Shared→Prop}(h1:builtinKind nm=none)(h2:plainId nm=true)(h3:entryFor table nm=some f)(h4:argsOk nm ⟨us,ks⟩)
 (go:wpAny (model prog w) A.in1 (f ⟨us,ks⟩) (λfin s'=>match fin with| .done r=>(match(Except.ok r:Result)with| .ok (.ret v)=>Q v s'| .ok _=>False| .error e=>E e s')| .again c=>c.quiet=true∧codeAny (model prog w) A c (λr s'=>match r with| .ok (.ret v)=>Q v s'| .ok _=>False| .error e=>E e s') s') E s):
 wpAny (model prog w) A (call (.builtin nm) us ks) Q E s:=c8 (p9 h2 h3 (by simp only[checkBuiltinCall,h1];unfold argsOk at h4;cases e:Manifest.signature? nm with
 |none=>exact kQ go
 |some sg=>rw[e]at h4;replace h4:Bind.checkArgs nm sg ⟨us,ks⟩=pure ():=h4;simp only[h4];exact kQ go))
theorem qHU(a d:Value):argsOk "min" ⟨[a],[(Str.ofString "default",d)]⟩:=by unfold argsOk;kernel_rfl
theorem qFZ{I B:Addr}{fp wr:List Addr}{n:Nat}{P:Nat→Value→Prop}{St:Nat→Heap→Prop}{R:Result→Shared→Prop}{kw:List (Str×Value)}(val:Nat→Int)(hval:∀i v,P i v→∃t,v=.int (val i) t)
 (W:Walks prog w A.in1 I fp wr n P St) (nB:B∉fp):∀(r j i0:Nat) (s:Shared) (v0:Value) (c:Nat),j+r=n→St j s.heap→P i0 v0→i0<j→(∀i,i<j→val i0≤val i)→s.heap.get? B=some { cls:=.type "list",dict:=none,data:=.seq #[v0,v0] c,slots:=#[] }→(∀i v h' tk,P i v→i<n→(∀i',i'<n→val i≤val i')→(∀b o,b∉wr→b≠B→s.heap.get? b=some o→h'.get? b=some o)→R (.ok (.ret v)) { s with heap:=h',toks:=tk })→codeAny (model prog w) A (.builtin "min.loop" ⟨[.ref I,.none,.ref B],kw⟩) R s:=by(
have wB:B∉wr:=λz=>nB (W.sub _ z)
have nm:(toString "min"++toString ".loop":String)="min.loop":=by decide
intro r
induction r with
|zero=>intro j i0 s v0 c ej st p0 l0 le gB fin;obtain rfl:j=n:=ej;refine cD dR (id ?_);rw[rB gG _];show wpAny _ A.in1 (seqItems? (.ref B) >>= _) _ (λ_ _=>_) _;refine hV (cQ gB rfl ?_);show wpAny _ A.in1 (tryCatch (pyNext (.ref I)) _ >>= _) _ (λ_ _=>_) _;refine hV (dS (W.done s _ _ st λh1 t1 kp=>?_));show wpAny _ A.in1 (updateSeq B (λ_=>#[]) >>= _) _ (λ_ _=>_) _;refine hV ?_;exact cE (kp B _ wB gB) rfl (hV (wR (kQ (fin i0 v0 _ t1 p0 l0 le λb o b1 b2 e=>(mF _ _ b2.symm).trans (kp b o b1 e)))))
|succ r ih=>
 intro j i0 s v0 c ej st p0 l0 le gB fin;refine cD dR (id ?_);rw[rB gG _];show wpAny _ A.in1 (seqItems? (.ref B) >>= _) _ (λ_ _=>_) _;refine hV (cQ gB rfl ?_);show wpAny _ A.in1 (tryCatch (pyNext (.ref I)) _ >>= _) _ (λ_ _=>_) _;refine hV (dS (W.item j s _ _ (by omega) st λv1 h1 t1 p1 st1 kp=>?_));have gB1:=kp B _ wB gB;show wpAny _ A.in1 (tryCatch (holding [v1,v1] (richCompare .Lt v1 v0 >>= _)) _ >>= _) _ (λ_ _=>_) _;refine hV (dS (gT (hV (CmpOf.ints_lt val hval j i0 v1 v0 _ _ _ p1 p0 (hV (gT (g5 (hV (wR (kQ ?_))))))))));dsimp only;by_cases z:val j<val i0
 ·rw[hC z];rw[kL rfl];refine hV (cE gB1 rfl (hV (wR ?_)));rw[nm];refine kQ ⟨wE gG _,ih (j+1) j _ v1 _ (by omega) (W.frame _ _ _ st1 λb hb o e=>(mF _ _ λy:B=b=>nB (by rw[y];exact hb)).trans e) p1 (by omega) (λi hi=>?_) (dZ _ gB1 rfl) λi v h2 t2 a1 a2 a3 a4=>fin i v h2 t2 a1 a2 a3 λb o b1 b2 e=>a4 b o b1 b2 ((mF _ _ b2.symm).trans (kp b o b1 e))⟩;by_cases y:i=j
  ·rw[y];omega
  have:=le i (by omega);omega
 rw[hU z];rw[kJ (by decide)];refine hV (wR ?_);rw[nm];refine kQ ⟨wE gG _,ih (j+1) i0 _ v0 c (by omega) st1 p0 (by omega) (λi hi=>?_) gB1 λi v h2 t2 a1 a2 a3 a4=>fin i v h2 t2 a1 a2 a3 λb o b1 b2 e=>a4 b o b1 b2 (kp b o b1 e)⟩;by_cases y:i=j
 ·rw[y];omega
 exact le i (by omega))
theorem qG0{s:Shared}{l:Addr}{xs:Array (Int×Tok)}{d:Value}{Q:Value→Shared→Prop}(hh:A.handled=none)(hl:s.heap.IsList l (intItems xs))(h0:xs.size=0→∀h' tk,(∀b o,s.heap.get? b=some o→h'.get? b=some o)→Q d { s with heap:=h',toks:=tk })
 (h1':∀i v h' tk,(intItems xs)[i]?=some v→i<xs.size→(∀i',i'<xs.size→numAt xs i≤numAt xs i')→(∀b o,s.heap.get? b=some o→h'.get? b=some o)→Q v { s with heap:=h',toks:=tk }):
 wpAny (model prog w) A (call (.builtin "min") [.ref l] [(Str.ofString "default",d)]) Q E s:=by(
have nm:(toString "min"++toString ".loop":String)="min.loop":=by decide
have zs:(intItems xs).size=xs.size:=by simp[intItems]
refine qCS aZ aS aT (qHU _ _) ?_
refine hV (m:=Builtin.Builtins.bindParams "min" ["key","default"] 0 ⟨[],[(Str.ofString "default",d)]⟩) (wpAny_of_eq (a:=[none,some d]) rfl ?_)
refine hV (kQ (hV (iter_intList hl λs2 e st hfp ne=>?_)))
subst e
refine hV (cZ ?_ (m9 _))
rw[nm]
refine kQ ⟨wE gG _,?_⟩
have W:=aF (prog:=prog) (w:=w) (A:=A.in1) hh s.heap.objs.size l ne (intItems xs)
have gB:=mR (o:={ cls:=.type "list",data:=.seq #[] }) (s.heap.push { cls:=.type "list_iterator",data:=.fields #[.ref l,.int 0 0] }) rfl
have nB:(s.heap.push { cls:=.type "list_iterator",data:=.fields #[.ref l,.int 0 0] }).objs.size∉[s.heap.objs.size,l]:=λz=>d7 _ (hfp _ z)
have old:∀{b:Addr} {o:Obj},s.heap.get? b=some o→b≠s.heap.objs.size∧b≠(s.heap.push { cls:=.type "list_iterator",data:=.fields #[.ref l,.int 0 0] }).objs.size:=fun {b o} e=>⟨mZ (mE e),mZ (mE (kF _ e))⟩
refine cD dR (id ?_)
rw[rB gG _]
show wpAny _ A.in1 (seqItems? (.ref (s.heap.push { cls:=.type "list_iterator",data:=.fields #[.ref l,.int 0 0] }).objs.size) >>= _) _ (λ_ _=>_) _
refine hV (cQ gB rfl ?_)
show wpAny _ A.in1 (tryCatch (pyNext (.ref s.heap.objs.size)) _ >>= _) _ (λ_ _=>_) _
refine hV (dS ?_)
have st0:=W.frame 0 _ (Heap.push (Heap.push s.heap { cls:=.type "list_iterator",data:=.fields #[.ref l,.int 0 0] }) ({ cls:=.type "list",data:=.seq #[] }:Obj)) st λb _ o e=>kF _ e
have wB:(s.heap.push { cls:=.type "list_iterator",data:=.fields #[.ref l,.int 0 0] }).objs.size∉[s.heap.objs.size]:=λz=>nB (W.sub _ z)
by_cases z:xs.size=0
·refine W.done _ _ _ (by rw[zs,z];exact st0) λh1 t1 kp=>?_;exact hV (wpAny_rule (kQ (h0 z h1 t1 λb o e=>kp b o (by simpa using(old e).1) (kF _ (kF _ e)))))
refine W.item 0 _ _ _ (by rw[zs];omega) st0 λv1 h1 t1 p1 st1 kp=>?_
have gB1:=kp (s.heap.push { cls:=.type "list_iterator",data:=.fields #[.ref l,.int 0 0] }).objs.size _ wB gB
show wpAny _ A.in1 (updateSeq (s.heap.push { cls:=.type "list_iterator",data:=.fields #[.ref l,.int 0 0] }).objs.size (λ_=>#[v1,v1]) >>= _) _ (λ_ _=>_) _
refine hV (cE gB1 rfl ?_)
rw[nm]
refine kQ ⟨wE gG _,qFZ (numAt xs) (λ_ _=>a0) W nB (xs.size-1) 1 0 _ v1 _ (by rw[zs];omega) (W.frame _ _ _ st1 λb hb o e=>(mF _ _ λy:(s.heap.push { cls:=.type "list_iterator",data:=.fields #[.ref l,.int 0 0] }).objs.size=b=>nB (by rw[y];exact hb)).trans e) p1 (by omega) (λi hi=>?_) (dZ _ gB1 rfl) λi v h2 t2 a1 a2 a3 a4=>?_⟩
·rw[show i=0 by omega];exact gL _
rw[zs]at a2 a3
exact h1' i v h2 t2 a1 a2 a3 λb o e=>a4 b o (by simpa using(old e).1) (old e).2 ((mF _ _ (old e).2.symm).trans (kp b o (by simpa using(old e).1) (kF _ (kF _ e)))))
end
noncomputable def qLN(K:PySem.W.Frag)(d:Int)(ta:TA):TE:=λσ H Q=>ta σ H λvs H1=>∃(p:Addr) (ns:List Int),vs=[.ref p]∧SqL K H1 p (ns.map V.int)∧(ns=[]→Q (.int d) H1)∧∀M,M∈ns→(∀a∈ns,M≤a)→Q (.int M) H1
theorem qHV{X:Cx}{e c:Expr}{ta:TA}{p kp pos:Pos}{d:Int}(hc:X.calm=true)(hg:Gl X "min")(hm:X.mg "min"=none)(hd:PE X c (tC (.int d)))(ha:PA X [e] ta)(he:starEach [e] X.env=[(false,eval e X.env)]:=by rfl)(hse:starEach ([]:List Expr) X.env=[]:=by rfl):
 PE X (.Call (.Name "min" p) [e] [⟨some "default",c,kp⟩] pos) (qLN X.K d ta):=by(
intro pins s σ H Q I h
refine dJ (q1N I hg hm (u:=.builtin "min") (by kernel_rfl) ?_ (by decide) (by decide))
refine bA (thn (ha pos pins s σ H _ I h) λus s1 ⟨vs,H1,I1,r1,q1⟩=>?_) (by rw[he,hse];rfl) (by rw[he];rfl)
have pk:PK X [⟨some "default",c,kp⟩] (q61 (tC (.int d)) tNil):=q8H hd qAT
refine thn (pk pos pins s1 σ H1 (λxs H2=>xs=[.int d]∧H2=H1) I1 ⟨rfl,rfl⟩) λws s2 hZ=>?_
obtain⟨xs,H2,I2,r2,ex,eH⟩:=hZ
subst ex eH
obtain⟨w,rfl,td,rfl⟩:=q1I r2
obtain⟨l,ns,ev,hq,h0,h1⟩:=q1
subst ev
obtain⟨u,rfl,ru⟩:=q1I r1
obtain rfl:u=Value.ref l:=ru
obtain⟨its,rv,pl,hz⟩:=I2.list hq
have hi:=q3Y rv
obtain⟨xs,e⟩:=hi.allInts.items
have hns:ns=xs.toList.map (·.1):=by rw[←hi.numsOf,←nums_intItems,←e]
have hl:=pl.isList
rw[e]at hl
show wpAny (model X.prog X.w) X.A (call (.builtin "min") [.ref l] [(Str.ofString "default",.int d td)]) _ _ _
refine qG0 (I2.ok.hd hc) hl (λz h' tk kp=>⟨.int d,_,I2.kept kp,⟨_,rfl⟩,h0 ?_⟩) (λi v h' tk hv hi le kp=>?_)
·rw[hns,Array.eq_empty_of_size_eq_zero z];rfl
obtain⟨t,rfl⟩:=a0 hv
refine⟨.int _,_,I2.kept kp,⟨t,rfl⟩,h1 _ ?_ λa ha=>?_⟩
·rw[hns,bS];exact getD_mem (by rw[hG,mW];omega)
rw[hns]at ha
obtain⟨j,hj,rfl⟩:=mem_getD ha
rw[hG,mW]at hj
rw[←bS]
exact le j hj)
end L2
namespace L2
open PySem PySem.W PySem.Spec PyProof.Rows
theorem qHW(a d:Value):argsOk "min" ⟨[a],[(Str.ofString "key",d)]⟩:=by unfold argsOk;kernel_rfl
noncomputable def KeyI(K:PySem.W.Frag)(kf:Nat→List Int)(H:Hp)(zs:List V):Prop:=∀j z,zs[j]?=some z→TupI K H z (kf j)
section
variable{X:Cx}{pins:List (Addr×Obj)}{σ:St}
theorem qHX{A:Around}{H:Hp}{s:Shared}{z1 z2:V}{u1 u2:Value}{k1 k2:List Int}{Q:Value→Shared→Prop}{E:Value→Shared→Prop}(I:Inv X pins σ H s)(hu:A.units+1<cLine)(t1:TupI X.K H z1 k1)(t2:TupI X.K H z2 k2)(r1:RelV z1 u1)(r2:RelV z2 u2)(c:Q (.bool (lx k1 k2)) s):wpAny (model X.prog X.w) A (richCompare .Lt u1 u2) Q E s:=by(
have p1:=q41 I (.cons r1 .nil) (.cons t1 .nil)
have p2:=q41 I (.cons r2 .nil) (.cons t2 .nil)
obtain⟨k1',g1,a1,us1,rfl,q1,i1⟩:=Paired.at (i:=0) p1 rfl
obtain⟨k2',g2,a2,us2,rfl,q2,i2⟩:=Paired.at (i:=0) p2 rfl
cases g1
cases g2
rw[←qA2]at c
exact HT.lt_tupInts (items:=us1.toArray) (items2:=us2.toArray) q1 q2 (by simpa using i1) (by simpa using i2) (aN hu) c)
theorem qHY{R:Result→Shared→Prop}{l f I S:Addr}{us:List V}{kf:Nat→List Int}(hc:X.A.handled=none)(hu:X.A.units+64<cLine)(Pv:Nat→List V→Hp→Prop)
 (hq:∀i zs H',Pv i zs H'→SqL X.K H' l us∧zs.length=i∧KeyI X.K kf H' zs) (nl:l≠I) (nS:S≠I) (nlS:l≠S)
 (hI:∀H',H' I=none→FpOk X pins H' I) (hS:∀H',H' S=none→FpOk X pins H' S)
 (hs:∀i x zs H' pins' s' u,us[i]?=some x→RelV x u→Pv i zs H'→Inv { X with A:=X.A.in1,xe:=λ_ _=>False } pins' σ H' s'→wpAny (model X.prog X.w) X.A.in1 (call (.ref f) [u]) (EP { X with A:=X.A.in1,xe:=λ_ _=>False } pins' σ (λz H''=>Pv (i+1) (zs++[z]) H'')) (λ_ _=>False) s')
 (hR:∀i v zs H' s',i<us.length→RelV (us.getD i .non) v→(∀j,j<us.length→lx (kf j) (kf i)=false)→Pv us.length zs H'→Inv X pins σ H' s'→R (.ok (.ret v)) s'):
 ∀(r j i:Nat) (s:Shared) (H:Hp) (zs:List V) (vb kb:Value) (c:Nat),j+r=us.length→i<j→Inv X pins σ H s→Pv j zs H→H I=none→H S=none→s.heap.IsListIter I l j→s.heap.get? S=some (seqObj "list" #[vb,kb] c)→RelV (us.getD i .non) vb→RelV (zs.getD i .non) kb→(∀j',j'<j→lx (kf j') (kf i)=false)→codeAny (model X.prog X.w) X.A (.builtin "min.loop" ⟨[.ref I,.ref f,.ref S],[]⟩) R s:=by(
have nm:(toString "min"++toString ".loop":String)="min.loop":=by decide
intro r
induction r with
|zero=>intro j i s H zs vb kb c ej ij J pv n1 n2 it gS rb rk best;obtain rfl:j=us.length:=ej;obtain⟨sq,lz,ky⟩:=hq _ _ _ pv;obtain⟨its,rv,pl,hz⟩:=J.list sq;have hlen:=rv.length;have W:=aF (prog:=X.prog) (w:=X.w) (A:=X.A.in1) hc I l nl its.toArray;refine cD dR (id ?_);rw[rB gG _];show wpAny _ X.A.in1 (seqItems? (.ref S) >>= _) _ (λ_ _=>_) _;refine hV (cQ gS rfl ?_);show wpAny _ X.A.in1 (tryCatch (pyNext (.ref I)) _ >>= _) _ (λ_ _=>_) _;refine hV (dS (W.done s _ _ ⟨by rw[mI,←hlen];exact it,pl.isList⟩ λh1 t1 kp=>?_));have J1:Inv X pins σ H { s with heap:=h1,toks:=t1 }:=J.turnedN (fp:=[I]) kp (λb hb=>by rw[kD.mp hb];exact hI _ n1);have gS1:=kp S _ (λz=>nS (kD.mp z)) gS;show wpAny _ X.A.in1 (updateSeq S (λ_=>#[]) >>= _) _ (λ_ _=>_) _;refine hV (cE gS1 rfl (hV (wR (kQ ?_))));exact hR i vb zs H _ ij rb best pv (J1.turnedN (fp:=[S]) (λb o hb e=>(mF _ _ (λz=>hb (kD.mpr z.symm))).trans e) (λb hb=>by rw[kD.mp hb];exact hS _ n2))
|succ r ih=>
 intro j i s H zs vb kb c ej ij J pv n1 n2 it gS rb rk best;have lt:j<us.length:=by omega
 obtain⟨sq,lz,ky⟩:=hq _ _ _ pv;obtain⟨its,rv,pl,hz⟩:=J.list sq;have hlen:=rv.length;have W:=aF (prog:=X.prog) (w:=X.w) (A:=X.A.in1) hc I l nl its.toArray;refine cD dR (id ?_);rw[rB gG _];show wpAny _ X.A.in1 (seqItems? (.ref S) >>= _) _ (λ_ _=>_) _;refine hV (cQ gS rfl ?_);show wpAny _ X.A.in1 (tryCatch (pyNext (.ref I)) _ >>= _) _ (λ_ _=>_) _;refine hV (dS (W.item j s _ _ (by rw[mI];omega) ⟨it,pl.isList⟩ λv h1 t1 pv1 st1 kp=>?_));have hv:its[j]?=some v:=by simpa using pv1
 obtain⟨x,ex,rx⟩:=rv.atN (j:=j) (by omega);obtain rfl:its[j]=v:=(kC.mp hv).2;have J1:Inv X pins σ H { s with heap:=h1,toks:=t1 }:=J.turnedN (fp:=[I]) kp (λb hb=>by rw[kD.mp hb];exact hI _ n1);have gS1:=kp S _ (λz=>nS (kD.mp z)) gS;obtain⟨oI,gI,hoc,hod⟩:=id st1.1;have J2:=(J1.near (A':=X.A.in1) rfl rfl λ_ _=>False).pinned (fp:=[I,S]) (λb hb'=>by
  simp only[kN,dA,cY]at hb';rcases hb' with rfl|rfl
  ·exact hI _ n1
  ·exact hS _ n2) (λb hb'=>by
  simp only[kN,dA,cY]at hb';rcases hb' with rfl|rfl
  ·exact⟨_,gI,λv z=>by rw[hod]at z;cases z⟩
  exact⟨_,gS1,λv z=>by cases z⟩)
 show wpAny _ X.A.in1 (tryCatch (holding [its[j]] (call (.ref f) [its[j]])) _ >>= _) _ (λ_ _=>_) _;refine hV (dS (gT (dB (hs j x zs H _ _ _ ex rx pv J2) (λu s2 hq2=>?_) λ_ _ z=>z.elim)));obtain⟨z,H2,J3,ru,pv2⟩:=hq2;have pI:=J3.pin (I,oI) (mB _ (mB _ (yJ (by simp) gI)));have pS:=J3.pin (S,seqObj "list" #[vb,kb] c) (mB _ (mB _ (yJ (by simp) gS1)));have J4:Inv X pins σ H2 s2:=(J3.unpinned).near (A':=X.A) rfl rfl X.xe;obtain⟨sq2,lz2,ky2⟩:=hq _ _ _ pv2;have kz:TupI X.K H2 z (kf j):=ky2 j z (by rw[dP (by omega),lz,Nat.sub_self];rfl);have gi:zs[i]?=some (zs.getD i .non):=by rw[kI,kE (by omega)];rfl
 have ki:TupI X.K H2 (zs.getD i .non) (kf i):=ky2 i _ (by rw[rT (by omega)];exact gi);have it2:s2.heap.IsListIter I l (j+1):=⟨oI,pI.1,hoc,hod⟩;show wpAny _ X.A.in1 (tryCatch (holding [its[j],u] (richCompare .Lt u kb >>= _)) _ >>= _) _ (λ_ _=>_) _;refine hV (dS (gT (hV (qHX J4 (by show X.A.units+1+1<cLine;omega) kz ki ru rk ?_))));refine hV (gT (g5 (hV (wR (kQ ?_)))));cases e:lx (kf j) (kf i)with
 |true=>
  simp only[if_true];refine hV (cE pS.1 rfl (hV (wR ?_)));rw[nm];obtain⟨c2,g2⟩:∃c2,(s2.heap.update S (Obj.mapSeq λ_=>#[its[j],u])).get? S=some (seqObj "list" #[its[j],u] c2):=⟨_,cC pS.1 λ_=>#[its[j],u]⟩;have J5:Inv X pins σ H2 { s2 with heap:=s2.heap.update S (Obj.mapSeq λ_=>#[its[j],u]),toks:=s2.toks }:=J4.turnedN (fp:=[S]) (λb o hb e=>(mF _ _ (λz=>hb (kD.mpr z.symm))).trans e) (λb hb=>by rw[kD.mp hb];exact hS _ pS.2.1);refine kQ ⟨wE gG _,ih (j+1) j _ H2 _ _ u c2 (by omega) (by omega) J5 pv2 pI.2.1 pS.2.1 ⟨oI,(mF _ _ nS).trans pI.1,hoc,hod⟩ g2 ?_ ?_ λj' hj'=>?_⟩
  ·rw[kI,ex];exact rx
  ·rw[kI,dP (by omega),lz,Nat.sub_self];exact ru
  by_cases y:j'=j
  ·rw[y];exact q39 _
  cases g:lx (kf j') (kf j)with
  |false=>rfl
  |true=>have:=q0L _ _ _ g e;rw[best j' (by omega)]at this;cases this
 |false=>
  simp only[pC,if_false];refine hV (wR ?_);rw[nm];refine kQ ⟨wE gG _,ih (j+1) i _ H2 _ vb kb c (by omega) (by omega) J4 pv2 pI.2.1 pS.2.1 it2 pS.1 rb ?_ λj' hj'=>?_⟩
  ·rw[kI,rT (by omega),gi];exact rk
  by_cases y:j'=j
  ·rw[y];exact e
  exact best j' (by omega))
end
noncomputable def tML(P:Program)(w:World)(K:PySem.W.Frag)(mg:Str→Option Value)(base:Heap)(cells:List (Str×Addr))(ix:List (Nat×Str))(k:Nat)(x:Str)(tl:TE)(ta:TA):TE:=λσ H Q=>ta σ H λvs H1=>tl σ H1 λfv H2=>∃(f:Addr) (fd:FuncData) (sp:Heap→Sp),fv=.ref f∧(∀base',(∀b o,base.get? b=some o→base'.get? b=some o)→q1T cells σ base' ix→FnOk P w K mg base' CX0 k f fd [x] (sp base'))∧jY K fd [x] []∧∃(l:Addr) (us:List V) (kf:Nat→List Int) (Pv:Nat→List V→Hp→Prop),vs=[.ref l]∧0<us.length∧Pv 0 [] H2∧(∀i zs H',Pv i zs H'→SqL K H' l us∧zs.length=i∧KeyI K kf H' zs)∧(∀base' i x zs H',q1T cells σ base' ix→us[i]?=some x→Pv i zs H'→sp base' [x] H' (λz H''=>Pv (i+1) (zs++[z]) H'') E0)∧∀i zs H',i<us.length→(∀j,j<us.length→lx (kf j) (kf i)=false)→Pv us.length zs H'→Q (us.getD i .non) H'
theorem qHZ{X:Cx}{k:Nat}{x:Str}{e le:Expr}{tl:TE}{ta:TA}{p kp pos:Pos}(ix:List (Nat×Str))(hix:∀p∈ix,X.N[p.1]?=some p.2∧X.env.scope.names.lookup p.2=some .cell∧X.fn p.2=true)(hc:X.calm=true)(hu:X.A.units+64<cLine)(hr:Room (k+1) X.A)(hg:Gl X "min")(hm:X.mg "min"=none)(hl:PE X le tl)(ha:PA X [e] ta)
 (he:starEach [e] X.env=[(false,eval e X.env)]:=by rfl) (hse:starEach ([]:List Expr) X.env=[]:=by rfl):
 PE X (.Call (.Name "min" p) [e] [⟨some "key",le,kp⟩] pos) (tML X.prog X.w X.K X.mg X.base X.env.cells ix k x tl ta):=by(
intro pins s σ H Q I h
have nm:(toString "min"++toString ".loop":String)="min.loop":=by decide
refine dJ (q1N I hg hm (u:=.builtin "min") (by kernel_rfl) ?_ (by decide) (by decide))
refine bA (thn (ha pos pins s σ H _ I h) λus s1 ⟨vs,H1,I1,r1,q1⟩=>?_) (by rw[he,hse];rfl) (by rw[he];rfl)
have pk:PK X [⟨some "key",le,kp⟩] (q61 tl tNil):=q8H hl qAT
refine thn (pk pos pins s1 σ H1 (oneQ _) I1 q1) λws s2 hZ=>?_
obtain⟨xs,H2,I2,r2,q2⟩:=hZ
obtain⟨v,rfl,f,fd,sp,rfl,F,hb,q2⟩:=qCG q2
obtain⟨w,rfl,rw⟩:=q1I r2
obtain rfl:w=Value.ref f:=rw
obtain⟨l,us',kf,Pv,ev,hn,p0,hq,hs,hd⟩:=q2
subst ev
obtain⟨u,rfl,ru⟩:=q1I r1
obtain rfl:u=Value.ref l:=ru
obtain⟨sq,_,_⟩:=hq _ _ _ p0
obtain⟨its,rv,pl,hz⟩:=I2.list sq
have hlen:=rv.length
have hd0:=I2.ok.hd hc
have hlt:l<s2.heap.objs.size:=by obtain⟨_,e,_⟩:=pl.isList;exact mE e
show wpAny (model X.prog X.w) X.A (call (.builtin "min") [.ref l] [(Str.ofString "key",.ref f)]) _ _ _
refine qCS aZ aS aT (qHW _ _) ?_
refine hV (m:=Builtin.Builtins.bindParams "min" ["key","default"] 0 ⟨[],[(Str.ofString "key",.ref f)]⟩) (wpAny_of_eq (a:=[some (.ref f),none]) rfl ?_)
refine hV (kQ (hV (aI pl.isList ?_)))
refine hV (cZ ?_ (m9 _))
rw[nm]
refine kQ ⟨wE gG _,?_⟩
have hS:(s2.heap.push { cls:=.type "list_iterator",data:=.fields #[.ref l,.int 0 0] }).objs.size=s2.heap.objs.size+1:=aD ..
have gS:=mR (o:=seqObj "list" #[] 0) (s2.heap.push { cls:=.type "list_iterator",data:=.fields #[.ref l,.int 0 0] }) rfl
have gI:((s2.heap.push { cls:=.type "list_iterator",data:=.fields #[.ref l,.int 0 0] }).push (seqObj "list" #[] 0)).get? s2.heap.objs.size=some { cls:=.type "list_iterator",data:=.fields #[.ref l,.int 0 0] }:=kF _ (mR _ rfl)
have I3:Inv X pins σ H2 { s2 with heap:=(s2.heap.push { cls:=.type "list_iterator",data:=.fields #[.ref l,.int 0 0] }).push (seqObj "list" #[] 0),toks:=s2.toks }:=I2.kept (t':=s2.toks) λb o e=>kF _ (kF _ e)
obtain⟨S,eS⟩:∃S:Addr,S=(s2.heap.push { cls:=.type "list_iterator",data:=.fields #[.ref l,.int 0 0] }).objs.size:=⟨_,rfl⟩
obtain⟨J,eJ⟩:∃J:Addr,J=s2.heap.objs.size:=⟨_,rfl⟩
have fJ:FpOk X pins H2 J:=by rw[eJ];exact I2.fpOk (kO _) (I2.hok.fresh (kO _))
have fS:FpOk X pins H2 S:=by rw[eS,hS];exact I2.fpOk (dL _) (I2.hok.fresh (dL _))
have hJ:∀H',H' J=none→FpOk X pins H' J:=λH' e=>⟨e,fJ.2⟩
have hS':∀H',H' S=none→FpOk X pins H' S:=λH' e=>⟨e,fS.2⟩
have nl:l≠J:=by rw[eJ];exact mZ hlt
have nSJ:S≠J:=by rw[eS,eJ,hS];exact rL (d3 _)
have nlS:l≠S:=by rw[eS,hS];exact mZ (rE hlt)
have hc':X.A.handled=none:=hd0
rw[←eS]at gS
show codeAny (model X.prog X.w) X.A (.builtin "min.loop" ⟨[.ref s2.heap.objs.size,.ref f,.ref (s2.heap.push { cls:=.type "list_iterator",data:=.fields #[.ref l,.int 0 0] }).objs.size],[]⟩) _ _
rw[←eS,←eJ]
rw[←eJ]at gI
clear hS eS eJ
obtain⟨h3,eh⟩:∃h3,h3=(s2.heap.push { cls:=.type "list_iterator",data:=.fields #[.ref l,.int 0 0] }).push (seqObj "list" #[] 0):=⟨_,rfl⟩
rw[←eh]at gS gI I3
show codeAny _ _ _ _ { s2 with heap:=(s2.heap.push { cls:=.type "list_iterator",data:=.fields #[.ref l,.int 0 0] }).push (seqObj "list" #[] 0) }
rw[←eh]
clear eh
obtain⟨its,rv,pl,hz⟩:=I3.list sq
have hlen:=rv.length
have W:=aF (prog:=X.prog) (w:=X.w) (A:=X.A.in1) hc' J l nl its.toArray
refine cD dR (id ?_)
rw[rB gG _]
show wpAny _ X.A.in1 (seqItems? (.ref S) >>= _) _ (λ_ _=>_) _
refine hV (cQ gS rfl ?_)
show wpAny _ X.A.in1 (tryCatch (pyNext (.ref J)) _ >>= _) _ (λ_ _=>_) _
refine hV (dS (W.item 0 _ _ _ (by rw[mI];omega) ⟨⟨_,gI,rfl,rfl⟩,pl.isList⟩ λv h1 t1 pv1 st1 kp=>?_))
have hv:its[0]?=some v:=by simpa using pv1
obtain⟨x0,ex,rx⟩:=rv.atN (j:=0) (by omega)
obtain rfl:its[0]=v:=(kC.mp hv).2
have J1:Inv X pins σ H2 { s2 with heap:=h1,toks:=t1 }:=Inv.turnedN (s:={ s2 with heap:=h3 }) (fp:=[J]) I3 kp (λb hb=>by rw[kD.mp hb];exact fJ)
have gS1:=kp S _ (λz=>nSJ (kD.mp z)) gS
obtain⟨oI,gI1,hoc,hod⟩:=id st1.1
have J2:=(J1.near (A':=X.A.in1) rfl rfl λ_ _=>False).pinned (fp:=[J,S]) (λb hb'=>by
 simp only[kN,dA,cY]at hb';rcases hb' with rfl|rfl
 ·exact fJ
 ·exact fS) (λb hb'=>by
 simp only[kN,dA,cY]at hb';rcases hb' with rfl|rfl
 ·exact⟨_,gI1,λv z=>by rw[hod]at z;cases z⟩
 exact⟨_,gS1,λv z=>by cases z⟩)
have hs':∀i x zs H' pins' s' u,us'[i]?=some x→RelV x u→Pv i zs H'→Inv { X with A:=X.A.in1,xe:=λ_ _=>False } pins' σ H' s'→wpAny (model X.prog X.w) X.A.in1 (call (.ref f) [u]) (EP { X with A:=X.A.in1,xe:=λ_ _=>False } pins' σ (λz H''=>Pv (i+1) (zs++[z]) H'')) (λ_ _=>False) s':=λi x zs H' pins' s' u hx rx pv I'=>qCF (X:={ X with A:=X.A.in1,xe:=λ_ _=>False }) (dvs:=[]) (ds:=[]) (E:=E0) ix hix F hr.in1 hb .nil qK I' (.cons rx .nil) (λbase' up cv=>hs base' i x zs H' cv hx pv)
show wpAny _ X.A.in1 (tryCatch (holding [its[0]] (call (.ref f) [its[0]])) _ >>= _) _ (λ_ _=>_) _
refine hV (dS (gT (dB (hs' 0 x0 [] H2 _ _ _ ex rx p0 J2) (λu s3 hq2=>?_) λ_ _ z=>z.elim)))
obtain⟨z,H3,J3,ru,pv2⟩:=hq2
have pI:=J3.pin (J,oI) (mB _ (mB _ (yJ (by simp) gI1)))
have pS:=J3.pin (S,seqObj "list" #[] 0) (mB _ (mB _ (yJ (by simp) gS1)))
have J4:Inv X pins σ H3 s3:=(J3.unpinned).near (A':=X.A) rfl rfl X.xe
show wpAny _ X.A.in1 (updateSeq S (λ_=>#[its[0],u]) >>= _) _ (λ_ _=>_) _
refine hV (cE pS.1 rfl ?_)
rw[nm]
obtain⟨c2,g2⟩:∃c2,(s3.heap.update S (Obj.mapSeq λ_=>#[its[0],u])).get? S=some (seqObj "list" #[its[0],u] c2):=⟨_,cC pS.1 λ_=>#[its[0],u]⟩
have J5:Inv X pins σ H3 { s3 with heap:=s3.heap.update S (Obj.mapSeq λ_=>#[its[0],u]),toks:=s3.toks }:=J4.turnedN (fp:=[S]) (λb o hb e=>(mF _ _ (λz=>hb (kD.mpr z.symm))).trans e) (λb hb=>by rw[kD.mp hb];exact hS' _ pS.2.1)
refine kQ ⟨wE gG _,qHY hc' hu Pv hq nl nSJ nlS hJ hS' hs' (λi v zs H' s' a1 a2 a3 a4 a5=>?_) (us'.length-1) 1 0 _ H3 _ its[0] u c2 (by omega) (by omega) J5 pv2 pI.2.1 pS.2.1 ⟨oI,(mF _ _ nSJ).trans pI.1,hoc,hod⟩ g2 ?_ ?_ λj' hj'=>?_⟩
·exact⟨_,H',a5,a2,hd i zs H' a1 a3 a4⟩
·rw[kI,ex];exact rx
·exact ru
obtain rfl:j'=0:=by omega
exact q39 _)
end L2
namespace L2
open PySem
theorem q8C{K:PySem.W.Frag}{a:Addr}{xs:List V}{g:TG}{tb:TS}{D:Ends}{σ:St}{H:Hp}(Pv:Nat→St→Hp→Prop)(h0:Pv 0 σ H)(hl:∀i σ H,i≤xs.length→Pv i σ H→SqL K H a xs)
 (hs:∀i x σ H (D':Ends),(∀σ' H',Pv (i+1) σ' H'→D'.nx σ' H')→xs[i]?=some x→Pv i σ H→g x σ H λσ2 H2=>tb D' σ2 H2) (hd:∀σ H,Pv xs.length σ H→D.nx σ H):
 ∃W:Nat→Nat→St→Hp→Prop,(∃m,W 0 m σ H)∧∀i m σ H,W i m σ H→((Itl K a).stop i H∧D.nx σ H)∨((Itl K a).go i H∧∃N:St→Hp→Prop,(∀σ' H',N σ' H'→∃m',m'<m∧W (i+1) m' σ' H')∧∀x H',(Itl K a).yld i H x H'→g x σ H' λσ2 H2=>tb { D with nx:=N,ct:=N,bk:=D.nx } σ2 H2):=uX Pv h0 hl (λi x σ H hx p=>hs i x σ H _ (λ_ _ q=>q) hx p) hd
theorem q12{lo:Int}{n:Nat}{g:TG}{tb:TS}{D:Ends}{σ:St}{H:Hp}(Pv:Nat→St→Hp→Prop)(h0:Pv 0 σ H)
 (hs:∀i σ H (D':Ends),(∀σ' H',Pv (i+1) σ' H'→D'.nx σ' H')→i<n→Pv i σ H→g (.int (lo+i)) σ H λσ2 H2=>tb D' σ2 H2) (hd:∀σ H,Pv n σ H→D.nx σ H):
 ∃W:Nat→Nat→St→Hp→Prop,(∃m,W 0 m σ H)∧∀i m σ H,W i m σ H→((Itr lo n).stop i H∧D.nx σ H)∨((Itr lo n).go i H∧∃N:St→Hp→Prop,(∀σ' H',N σ' H'→∃m',m'<m∧W (i+1) m' σ' H')∧∀x H',(Itr lo n).yld i H x H'→g x σ H' λσ2 H2=>tb { D with nx:=N,ct:=N,bk:=D.nx } σ2 H2):=q7Q Pv h0 (λi σ H hx p=>hs i σ H _ (λ_ _ q=>q) hx p) hd
theorem iV{σ:St}{i:Nat}{v:V}{Q:V→Prop}(e:σ[i]?=some (some v))(q:Q v):∃v,σ[i]?=some (some v)∧Q v:=⟨v,e,q⟩
theorem iF{K:PySem.W.Frag}{H:Hp}{f:Str}{a C d:Addr}{fs:List (Str×V)}{v:V}{Q:V→Prop}(o:H a=some (.ins C d fs))(cl:Cls K C)(na:qR K C f)(lk:fs.lookup f=some v)(q:Q v):
 ∃a' C dx fs v,V.ref a=.ref a'∧H a'=some (.ins C dx fs)∧Cls K C∧qR K C f∧fs.lookup f=some v∧Q v:=⟨a,C,d,fs,v,rfl,o,cl,na,lk,q⟩
theorem iM{H:Hp}{m:Str}{a C d:Addr}{fs:List (Str×V)}{q:Prop}(o:H a=some (.ins C d fs))(lk:fs.lookup m=none)(k:q):
 ∃a' dx fs,V.ref a=.ref a'∧H a'=some (.ins C dx fs)∧fs.lookup m=none∧q:=⟨a,d,fs,rfl,o,lk,k⟩
theorem iI{i j:Int}{Q:Int→Int→Prop}(q:Q i j):∃i' j',V.int i=.int i'∧V.int j=.int j'∧Q i' j':=⟨i,j,rfl,rfl,q⟩
theorem iL{K:PySem.W.Frag}{H:Hp}{p:Addr}{xs:List V}{k:Int}{v:V}{Q:V→Prop}(h:SqL K H p xs)(e:atI xs k=some v)(q:Q v):∃p' xs k' v,V.ref p=.ref p'∧V.int k=.int k'∧SqL K H p' xs∧atI xs k'=some v∧Q v:=⟨p,xs,k,v,rfl,rfl,h,e,q⟩
theorem iT{K:PySem.W.Frag}{H:Hp}{p:Addr}{xs:List V}{k:Int}{v:V}{Q:V→Prop}(h:SqT K H p xs)(e:atI xs k=some v)(q:Q v):∃p' xs k' v,V.ref p=.ref p'∧V.int k=.int k'∧SqT K H p' xs∧atI xs k'=some v∧Q v:=⟨p,xs,k,v,rfl,rfl,h,e,q⟩
end L2
namespace L2
open PySem PySem.Spec PyProof.Rows
structure Fn1(K:PySem.W.Frag)(x q:Str)(st:Stmt)(f:Addr)(ps:List Str) where
fd:FuncData
F:FunD K x q st .none f fd
b:jY K fd ps []
noncomputable abbrev Fn1.Ok0{K:PySem.W.Frag}{x q:Str}{st:Stmt}{f:Addr}{ps:List Str}(F:Fn1 K x q st f ps)(P:Program)(w:World)(mg:Str→Option Value)(base:Heap)(k:Nat)(sp:Sp):Prop:=FnOk P w K mg base CX0 k f F.fd ps sp
noncomputable abbrev Fn1.OkE{K:PySem.W.Frag}{x q:Str}{st:Stmt}{f:Addr}{ps:List Str}(F:Fn1 K x q st f ps)(P:Program)(w:World)(mg:Str→Option Value)(base:Heap)(k:Nat)(sp:Sp):Prop:=FnOk P w K mg base (CXe P w) k f F.fd ps sp
noncomputable abbrev FnX(K:PySem.W.Frag)(x q:Str)(st:Stmt)(f:Addr):Prop:=∃fd,FunD K x q st .none f fd
section
variable{K:PySem.W.Frag}{x q:Str}{st:Stmt}{f:Addr}{ps:List Str}
noncomputable def BnX(x q:Str)(st:Stmt)(ps:List Str):Prop:=∀(kV doc pm:Value) (an:Option Addr) (cdv ct:Value) (us:List Value),us.length=ps.length→bindArgs (PySem.W.fnOf x q (yI st) (jW st) (qH st) .none kV doc pm an cdv ct) ⟨us,[]⟩=pure (ps.zip us)
theorem fn1b(h:BnX x q st ps){fd:FuncData}(F:FunD K x q st .none f fd):jY K fd ps []:=by obtain⟨oc,od,kV,doc,pm,an,cdv,ct,osl,rfl,lk,hcd⟩:=F.ex;exact jY.all λus hl=>h kV doc pm an cdv ct us hl
theorem lnx{us:List Value}{n:Nat}(h:us.length=n):us=(List.range n).map (us.getD · .none):=by subst h;refine wL (by simp) λi h1 h2=>?_;simp[kE h1]
theorem bnx(h:∀kV doc pm an cdv ct (g:Nat→Value),bindArgs (PySem.W.fnOf x q (yI st) (jW st) (qH st) .none kV doc pm an cdv ct) ⟨(List.range ps.length).map g,[]⟩=pure (ps.zip ((List.range ps.length).map g))):BnX x q st ps:=λkV doc pm an cdv ct us hl=>by rw[lnx hl];exact h ..
noncomputable def fn1 (l:FnX K x q st f) (h:∀kV doc pm an cdv ct (g:Nat→Value),bindArgs (PySem.W.fnOf x q (yI st) (jW st) (qH st) .none kV doc pm an cdv ct) ⟨(List.range ps.length).map g,[]⟩=pure (ps.zip ((List.range ps.length).map g)):=by intros;rfl):Fn1 K x q st f ps:=⟨l.choose,l.choose_spec,fn1b (bnx h) l.choose_spec⟩
theorem FnX.bind1{a:Str}{fd:FuncData}(h:∀kV doc pm an cdv ct u,bindArgs (PySem.W.fnOf x q (yI st) (jW st) (qH st) .none kV doc pm an cdv ct) ⟨[u],[]⟩=pure [(a,u)])(F:FunD K x q st .none f fd)(s:Shared)(v:Value):BindsTo s fd ⟨[v],[]⟩ [(a,v)]:=by obtain⟨oc,od,kV,doc,pm,an,cdv,ct,osl,rfl,lk,hcd⟩:=F.ex;exact .of_eq (h kV doc pm an cdv ct v)
theorem FnX.of{oc:Value}{od an:Option Addr}{osl:Array (Option Value)}{kV doc pm cdv ct:Value}(l:K.lookup f=some ⟨oc,od,.func (PySem.W.fnOf x q (yI st) (jW st) (qH st) .none kV doc pm an cdv ct),osl⟩)(c:PySem.W.codeIn K cdv q=true):FnX K x q st f:=⟨_,FunD.mk' l c⟩
theorem qT{N P:List Str}{sc:Scope}(h:(sc.kind=.function∧sc.isCoroutine=false∧sc.isGenerator=false)∧N.Nodup∧N.take P.length=P∧(∀x∈P,sc.names.lookup x=some .local∨sc.names.lookup x=some .cell)∧∀y∈sc.names,y.2≠ .free):FnScope N P sc:=⟨h.1.1,h.1.2.1,h.1.2.2,h.2.1,h.2.2.1,h.2.2.2.1,h.2.2.2.2⟩
end
noncomputable abbrev GFn(K:PySem.W.Frag)(n:Str)(f:Addr):Prop:=PySem.W.nsIn K mainGlobals n=some (some (.ref f))∧PySem.W.keepIn K (.ref f)=true
theorem sz0:0≤sizeLine:=by decide
theorem sz1:1≤sizeLine:=by decide
theorem sz2:2≤sizeLine:=by decide
theorem sz3:3≤sizeLine:=by decide
theorem sz4:4≤sizeLine:=by decide
theorem sz5:5≤sizeLine:=by decide
end L2
namespace W1
open PySem L2
noncomputable def top(i:Nat):Stmt:=PySem.Challenge.pw_wornpages_k42_who_may_be_cleared.main.body.getD i (.Pass ⟨0,0,0,0⟩)
noncomputable abbrev q3C:Stmt:=(top 15)
noncomputable abbrev q1W:Stmt:=(top 16)
noncomputable abbrev q3D:Stmt:=(top 17)
noncomputable abbrev q3E:Stmt:=(top 18)
noncomputable abbrev q4Q:Stmt:=(top 22)
noncomputable abbrev q4R:Stmt:=(top 23)
noncomputable abbrev q1X:Stmt:=(qO (top 25) 0)
noncomputable abbrev q1Y:Stmt:=(qO (top 25) 1)
noncomputable abbrev q1Z:Stmt:=(qO (top 25) 2)
noncomputable abbrev q02:Stmt:=(qO (top 25) 3)
noncomputable abbrev zL:Stmt:=(qO (top 25) 4)
noncomputable abbrev v5:Stmt:=(qO (top 25) 6)
noncomputable abbrev q20:Stmt:=(qO (top 25) 7)
noncomputable abbrev q13:Stmt:=(qO (top 27) 0)
noncomputable abbrev q14:Stmt:=(qO (top 27) 1)
noncomputable abbrev jX:Stmt:=(qO (top 27) 2)
noncomputable abbrev q15:Stmt:=(qO (top 27) 3)
noncomputable abbrev q16:Stmt:=(qO (top 27) 4)
noncomputable abbrev q03:Stmt:=(qO (top 27) 6)
noncomputable abbrev vF:Stmt:=(qO (top 27) 8)
noncomputable abbrev q21:Stmt:=(qO (top 27) 9)
noncomputable abbrev q04:Stmt:=(qO (top 27) 10)
noncomputable abbrev vU:Stmt:=(qO (top 27) 11)
noncomputable abbrev q17:Stmt:=(qO (top 27) 13)
noncomputable abbrev uH:Stmt:=(qO (top 27) 14)
noncomputable abbrev uI:Stmt:=(qO (top 27) 15)
noncomputable abbrev q3F:Stmt:=(top 29)
noncomputable abbrev q18:Stmt:=(qO (top 30) 0)
noncomputable abbrev vV:Stmt:=(qO (top 30) 2)
noncomputable abbrev q05:Stmt:=(qO (top 30) 3)
noncomputable abbrev q06:Stmt:=(qO (top 30) 4)
noncomputable abbrev v6:Stmt:=(qO (top 30) 5)
noncomputable abbrev yR:Stmt:=(qO (top 30) 6)
noncomputable abbrev yS:Stmt:=(qO (top 30) 9)
noncomputable abbrev q07:Stmt:=(qO (top 30) 10)
noncomputable abbrev yY:Stmt:=(qO (top 30) 11)
noncomputable abbrev q08:Stmt:=(qO (top 30) 12)
noncomputable abbrev v7:Stmt:=(qO (top 30) 13)
noncomputable abbrev v8:Stmt:=(qO (top 30) 14)
noncomputable abbrev uQ:Stmt:=(qO (top 30) 15)
noncomputable abbrev uR:Stmt:=(qO (top 30) 16)
noncomputable abbrev q19:Stmt:=(qO (top 32) 0)
noncomputable abbrev vG:Stmt:=(qO (top 32) 2)
noncomputable abbrev zM:Stmt:=(qO (top 32) 3)
noncomputable abbrev q09:Stmt:=(qO (top 32) 4)
noncomputable abbrev qY:Stmt:=(qO (top 32) 5)
noncomputable abbrev q22:Stmt:=(top 34)
noncomputable abbrev uV:Stmt:=(qO (top 35) 0)
noncomputable abbrev q3G:Stmt:=(qO (top 35) 1)
noncomputable abbrev q23:Stmt:=(qO (top 35) 2)
noncomputable abbrev q24:Stmt:=(qO (top 35) 3)
noncomputable abbrev vH:Stmt:=(qO (top 35) 4)
noncomputable abbrev vW:Stmt:=(qO (top 35) 5)
noncomputable abbrev zN:Stmt:=(qO (top 35) 6)
noncomputable abbrev zO:Stmt:=(qO (top 35) 7)
noncomputable abbrev q0A:Stmt:=(qO (top 35) 8)
noncomputable abbrev q1A:Stmt:=(qO (top 35) 9)
noncomputable abbrev v9:Stmt:=(qO (top 35) 10)
noncomputable abbrev uS:Stmt:=(qO (top 35) 11)
noncomputable abbrev uT:Stmt:=(qO (top 35) 12)
noncomputable abbrev vA:Stmt:=(qO (top 35) 13)
noncomputable abbrev vX:Stmt:=(qO (top 35) 14)
noncomputable abbrev zP:Stmt:=(qO (top 35) 15)
noncomputable abbrev q0B:Stmt:=(top 37)
noncomputable abbrev vI:Stmt:=(top 38)
noncomputable abbrev q0C:Stmt:=(qO (top 39) 1)
noncomputable abbrev uJ:Stmt:=(qO (top 40) 0)
noncomputable abbrev uF:Stmt:=(qO (top 42) 0)
noncomputable abbrev zQ:Stmt:=(qO (top 42) 1)
noncomputable abbrev q0D:Stmt:=(top 44)
noncomputable abbrev q25:Stmt:=(top 45)
noncomputable abbrev q26:Stmt:=(top 46)
noncomputable abbrev q27:Stmt:=(top 47)
noncomputable abbrev q3H:Stmt:=(top 48)
noncomputable abbrev q4S:Stmt:=(top 49)
noncomputable abbrev q28:Stmt:=(top 50)
noncomputable abbrev q0E:Stmt:=(top 51)
noncomputable abbrev zR:Stmt:=(top 52)
noncomputable abbrev q4T:Stmt:=(top 53)
noncomputable abbrev q1B:Stmt:=(top 54)
noncomputable abbrev q29:Stmt:=(top 55)
noncomputable abbrev qG1:Stmt:=(top 56)
set_option genInjectivity false in
structure Adr where
(f_is_whole f_is_within f_is_shape f_is_value f_mark_of f_bits_of f_Book_init f_Book_mark f_Book_note f_Book_forget f_Book_emptied f_Book_live_pages f_Book_held f_Plain_init f_Plain_good f_Plain_free f_Plain_part f_Plain_spot f_Plain_ready f_Plain_set_down f_Plain_lay f_Plain_write f_Plain_give_up f_Plain_held f_Plain_check_sheet f_Plain_check_share f_paper_of f_Store_init f_Store_reserve f_Store_tally f_Store_space f_Store_full_ones f_Store_with_dead_page f_Store_choice_by_rule f_Store_moved f_Store_value_to_move f_Store_wiped f_Store_clear_out f_Store_make_room f_Store_make_ready f_Store_make_rooms f_Even_least f_Even_clearable f_Even_options f_Even_choice f_Even_block_to_change f_limits_of f_Chip_init f_Chip_put f_Chip_wipe f_Chip_read f_Chip_cut_after f_Chip_power_on f_Chip_is_dark f_Chip_cleared f_Chip_failed f_Chip_deeds f_Chip_check_page f_Chip_check_block f_Chip_check_power f_Chip_check_deed f_Chip_is_spent f_Chip_do_deed f_is_unbeaten f_first_unbeaten f_Rule_choose f_Fewest_goes_ahead f_Terms_init f_Terms_closed f_law_cell_at f_law_whole f_law_shape f_law_names f_law_pick f_law_ask f_law_lives f_law_tallies f_law_room_due f_law_due f_law_chosen f_law_right f_law C_Book C_Plain C_Even C_Chip C_Fewest C_Terms C_PowerGone C_NoRoom:Addr)
oQ:Tok
aCZ:Tok
aBU:Tok
aBM:Addr
e9:Addr
iU:Addr
fA:Addr
structure Txt(K:W.Frag)(mg:Str→Option Value)(t:Adr):Prop where
aEW:mg "Book"=some (.ref t.C_Book)
fE:Cls K t.C_Book
aCJ:qR K t.C_Book "blocks"
oA:qR K t.C_Book "pages"
iJ:qR K t.C_Book "stamp"
fZ:qR K t.C_Book "where"
oR:qR K t.C_Book "live"
fM:qR K t.C_Book "filled"
oO:qR K t.C_Book "born"
aDV:Meth K t.C_Book "mark" t.f_Book_mark
aDX:Meth K t.C_Book "note" t.f_Book_note
aA3:Meth K t.C_Book "forget" t.f_Book_forget
aCO:Meth K t.C_Book "emptied" t.f_Book_emptied
aBA:Meth K t.C_Book "live_pages" t.f_Book_live_pages
aD4:Meth K t.C_Book "held" t.f_Book_held
aE3:Mk K t.C_Book t.f_Book_init
aEN:mg "Plain"=some (.ref t.C_Plain)
aEX:mg "Even"=some (.ref t.C_Even)
fB:Cls K t.C_Even
fU:qR K t.C_Even "chip"
fF:qR K t.C_Even "terms"
fG:qR K t.C_Even "book"
aBO:qR K t.C_Even "rule"
aAM:qR K t.C_Even "papers"
aDF:Meth K t.C_Even "least" t.f_Even_least
tQ:Meth K t.C_Even "clearable" t.f_Even_clearable
o8:Meth K t.C_Even "options" t.f_Even_options
aA7:Meth K t.C_Even "choice" t.f_Even_choice
tS:Meth K t.C_Even "block_to_change" t.f_Even_block_to_change
aAH:Meth K t.C_Even "reserve" t.f_Store_reserve
aDE:Meth K t.C_Even "tally" t.f_Store_tally
aDN:Meth K t.C_Even "space" t.f_Store_space
i7:Meth K t.C_Even "full_ones" t.f_Store_full_ones
t8:Meth K t.C_Even "with_dead_page" t.f_Store_with_dead_page
aAC:Meth K t.C_Even "choice_by_rule" t.f_Store_choice_by_rule
aDI:Meth K t.C_Even "moved" t.f_Store_moved
aAG:Meth K t.C_Even "value_to_move" t.f_Store_value_to_move
aDC:Meth K t.C_Even "wiped" t.f_Store_wiped
aBS:Meth K t.C_Even "clear_out" t.f_Store_clear_out
aBQ:Meth K t.C_Even "make_room" t.f_Store_make_room
o9:Meth K t.C_Even "make_ready" t.f_Store_make_ready
aBB:Meth K t.C_Even "make_rooms" t.f_Store_make_rooms
tO:Meth K t.C_Even "good" t.f_Plain_good
aAV:Meth K t.C_Even "free" t.f_Plain_free
aA0:Meth K t.C_Even "part" t.f_Plain_part
aD6:Meth K t.C_Even "spot" t.f_Plain_spot
aC6:Meth K t.C_Even "ready" t.f_Plain_ready
aBY:Meth K t.C_Even "set_down" t.f_Plain_set_down
aBG:Meth K t.C_Even "lay" t.f_Plain_lay
aBK:Meth K t.C_Even "write" t.f_Plain_write
aCI:Meth K t.C_Even "give_up" t.f_Plain_give_up
aA2:Meth K t.C_Even "held" t.f_Plain_held
oU:Meth K t.C_Even "check_sheet" t.f_Plain_check_sheet
aA6:Meth K t.C_Even "check_share" t.f_Plain_check_share
aEZ:Mk K t.C_Even t.f_Store_init
aEY:mg "Chip"=some (.ref t.C_Chip)
fD:Cls K t.C_Chip
iC:qR K t.C_Chip "blocks"
fW:qR K t.C_Chip "pages"
aBN:qR K t.C_Chip "most"
aAL:qR K t.C_Chip "limits"
iQ:qR K t.C_Chip "borne"
f8:qR K t.C_Chip "clearings"
oM:qR K t.C_Chip "deed_counts"
oY:qR K t.C_Chip "broken"
fQ:qR K t.C_Chip "deeds_left"
oX:qR K t.C_Chip "record"
aD8:Meth K t.C_Chip "put" t.f_Chip_put
aCE:Meth K t.C_Chip "wipe" t.f_Chip_wipe
aB2:Meth K t.C_Chip "read" t.f_Chip_read
aBR:Meth K t.C_Chip "cut_after" t.f_Chip_cut_after
aCC:Meth K t.C_Chip "power_on" t.f_Chip_power_on
aCL:Meth K t.C_Chip "is_dark" t.f_Chip_is_dark
oW:Meth K t.C_Chip "cleared" t.f_Chip_cleared
aCT:Meth K t.C_Chip "failed" t.f_Chip_failed
aAB:Meth K t.C_Chip "deeds" t.f_Chip_deeds
tE:Meth K t.C_Chip "check_page" t.f_Chip_check_page
iR:Meth K t.C_Chip "check_block" t.f_Chip_check_block
oS:Meth K t.C_Chip "check_power" t.f_Chip_check_power
tD:Meth K t.C_Chip "check_deed" t.f_Chip_check_deed
tW:Meth K t.C_Chip "is_spent" t.f_Chip_is_spent
aAI:Meth K t.C_Chip "do_deed" t.f_Chip_do_deed
aE0:Mk K t.C_Chip t.f_Chip_init
aEG:mg "Fewest"=some (.ref t.C_Fewest)
aC9:Cls K t.C_Fewest
aAX:Meth K t.C_Fewest "goes_ahead" t.f_Fewest_goes_ahead
aBX:Meth K t.C_Fewest "choose" t.f_Rule_choose
aEE:Mk0 K t.C_Fewest
aEQ:mg "Terms"=some (.ref t.C_Terms)
fH:Cls K t.C_Terms
iO:qR K t.C_Terms "blocks"
fI:qR K t.C_Terms "pages"
t6:qR K t.C_Terms "sheets"
aAN:qR K t.C_Terms "share"
aAE:qR K t.C_Terms "ill"
aAD:qR K t.C_Terms "spread"
aCN:Meth K t.C_Terms "closed" t.f_Terms_closed
aEO:Mk K t.C_Terms t.f_Terms_init
aBP:mg "PowerGone"=some (.ref t.C_PowerGone)
aDZ:XCls K t.C_PowerGone
aB6:mg "NoRoom"=some (.ref t.C_NoRoom)
aER:XCls K t.C_NoRoom
aET:ClM K t.C_Plain "__init__" t.f_Plain_init
iS:W.exmOne K (.ref t.C_PowerGone) (.ref t.C_PowerGone)=some true
i8:W.exmOne K (.ref t.C_NoRoom) (.ref t.C_NoRoom)=some true
oH:W.exmOne K (.ref t.C_NoRoom) (.ref t.C_PowerGone)=some false
aC3:W.codeHdIn K t.aBM t.e9=true
tK:W.codeHdIn K t.iU t.fA=true
aAK:t.e9≠t.fA
aDR:mg "is_whole"=some (.ref t.f_is_whole)
aD7:W.keepIn K (.ref t.f_is_whole)=true
fL:mg "is_within"=some (.ref t.f_is_within)
fK:W.keepIn K (.ref t.f_is_within)=true
aB3:mg "is_shape"=some (.ref t.f_is_shape)
aB4:W.keepIn K (.ref t.f_is_shape)=true
aD2:mg "is_value"=some (.ref t.f_is_value)
aDY:W.keepIn K (.ref t.f_is_value)=true
aEF:mg "mark_of"=some (.ref t.f_mark_of)
aED:W.keepIn K (.ref t.f_mark_of)=true
aCR:mg "bits_of"=some (.ref t.f_bits_of)
aCQ:W.keepIn K (.ref t.f_bits_of)=true
aCD:mg "paper_of"=some (.ref t.f_paper_of)
aB1:W.keepIn K (.ref t.f_paper_of)=true
aDA:mg "limits_of"=some (.ref t.f_limits_of)
aDH:W.keepIn K (.ref t.f_limits_of)=true
aCP:mg "is_unbeaten"=some (.ref t.f_is_unbeaten)
aCM:W.keepIn K (.ref t.f_is_unbeaten)=true
aBE:mg "first_unbeaten"=some (.ref t.f_first_unbeaten)
aBI:W.keepIn K (.ref t.f_first_unbeaten)=true
fO:mg "_law_cell_at"=some (.ref t.f_law_cell_at)
fN:W.keepIn K (.ref t.f_law_cell_at)=true
aDD:mg "_law_whole"=some (.ref t.f_law_whole)
aDG:W.keepIn K (.ref t.f_law_whole)=true
aDK:mg "_law_shape"=some (.ref t.f_law_shape)
aC8:W.keepIn K (.ref t.f_law_shape)=true
aDJ:mg "_law_names"=some (.ref t.f_law_names)
aDB:W.keepIn K (.ref t.f_law_names)=true
aD5:mg "_law_pick"=some (.ref t.f_law_pick)
aD3:W.keepIn K (.ref t.f_law_pick)=true
aEB:mg "_law_ask"=some (.ref t.f_law_ask)
aEC:W.keepIn K (.ref t.f_law_ask)=true
aC7:mg "_law_lives"=some (.ref t.f_law_lives)
aDO:W.keepIn K (.ref t.f_law_lives)=true
aCK:mg "_law_tallies"=some (.ref t.f_law_tallies)
aCH:W.keepIn K (.ref t.f_law_tallies)=true
aBZ:mg "_law_room_due"=some (.ref t.f_law_room_due)
aCB:W.keepIn K (.ref t.f_law_room_due)=true
aEA:mg "_law_due"=some (.ref t.f_law_due)
aD9:W.keepIn K (.ref t.f_law_due)=true
aC4:mg "_law_chosen"=some (.ref t.f_law_chosen)
aCS:W.keepIn K (.ref t.f_law_chosen)=true
aBJ:mg "_law_right"=some (.ref t.f_law_right)
aBL:W.keepIn K (.ref t.f_law_right)=true
aAF:mg "MOST_TOLD"=some (.int 1000000 t.oQ)
aDT:mg "ROLL"=some (.int 64 t.aCZ)
aEU:mg "NAMES"=some (.int 128 t.aBU)
aEV:mg "bool"=none
aEP:mg "divmod"=none
aE4:mg "int"=none
i5:mg "isinstance"=none
aAS:mg "len"=none
aEH:mg "list"=none
aE5:mg "max"=none
aDS:mg "min"=none
tL:mg "range"=none
aC1:mg "sorted"=none
aE2:mg "tuple"=none
set_option genInjectivity false
structure Fns(K:W.Frag)(t:Adr) where
aCW:Fn1 K "is_whole" "is_whole" q3C t.f_is_whole ["thing"]
fT:Fn1 K "is_within" "is_within" q1W t.f_is_within ["thing","low","high"]
aBT:Fn1 K "is_shape" "is_shape" q3D t.f_is_shape ["blocks","pages"]
aCV:Fn1 K "is_value" "is_value" q3E t.f_is_value ["thing"]
aD0:Fn1 K "mark_of" "mark_of" q4Q t.f_mark_of ["stamp","name"]
aC2:Fn1 K "bits_of" "bits_of" q4R t.f_bits_of ["sheets"]
aB5:Fn1 K "__init__" "Book.__init__" q1X t.f_Book_init ["self","blocks","pages"]
aB9:Fn1 K "mark" "Book.mark" q1Y t.f_Book_mark ["self","name"]
aB0:Fn1 K "note" "Book.note" q1Z t.f_Book_note ["self","page","name"]
tP:Fn1 K "forget" "Book.forget" q02 t.f_Book_forget ["self","name"]
aAA:Fn1 K "emptied" "Book.emptied" zL t.f_Book_emptied ["self","block"]
oK:Fn1 K "live_pages" "Book.live_pages" v5 t.f_Book_live_pages ["self","block"]
aBW:Fn1 K "held" "Book.held" q20 t.f_Book_held ["self"]
aBH:Fn1 K "__init__" "Plain.__init__" q13 t.f_Plain_init ["self","chip","terms"]
oG:Fn1 K "good" "Plain.good" q14 t.f_Plain_good ["self"]
tJ:FuncData
aDP:FunT K "free" "Plain.free" jX t.aBM t.f_Plain_free tJ
tY:jY K tJ ["self"] []
p6:Fn1 K "part" "Plain.part" q15 t.f_Plain_part ["self"]
aBC:Fn1 K "spot" "Plain.spot" q16 t.f_Plain_spot ["self"]
aAU:Fn1 K "ready" "Plain.ready" q03 t.f_Plain_ready ["self"]
oZ:Fn1 K "set_down" "Plain.set_down" vF t.f_Plain_set_down ["self","name","value"]
tZ:Fn1 K "lay" "Plain.lay" q21 t.f_Plain_lay ["self","name","value"]
tI:Fn1 K "write" "Plain.write" q04 t.f_Plain_write ["self","sheet","value"]
tH:Fn1 K "give_up" "Plain.give_up" vU t.f_Plain_give_up ["self","sheets"]
tF:Fn1 K "held" "Plain.held" q17 t.f_Plain_held ["self"]
f9:Fn1 K "check_sheet" "Plain.check_sheet" uH t.f_Plain_check_sheet ["self","sheet"]
iX:Fn1 K "check_share" "Plain.check_share" uI t.f_Plain_check_share ["self","sheet"]
aBV:Fn1 K "paper_of" "paper_of" q3F t.f_paper_of ["why","options","block","moved","wiped"]
aBD:Fn1 K "__init__" "Store.__init__" q18 t.f_Store_init ["self","chip","terms","rule"]
oE:Fn1 K "reserve" "Store.reserve" vV t.f_Store_reserve ["self"]
aAR:Fn1 K "tally" "Store.tally" q05 t.f_Store_tally ["self","block"]
aA1:Fn1 K "space" "Store.space" q06 t.f_Store_space ["self"]
fY:Fn1 K "full_ones" "Store.full_ones" v6 t.f_Store_full_ones ["self"]
iB:Fn1 K "with_dead_page" "Store.with_dead_page" yR t.f_Store_with_dead_page ["self"]
iA:Fn1 K "choice_by_rule" "Store.choice_by_rule" yS t.f_Store_choice_by_rule ["self","options"]
aAW:Fn1 K "moved" "Store.moved" q07 t.f_Store_moved ["self","block"]
iG:Fn1 K "value_to_move" "Store.value_to_move" yY t.f_Store_value_to_move ["self","page","name"]
aAQ:Fn1 K "wiped" "Store.wiped" q08 t.f_Store_wiped ["self","block"]
oJ:Fn1 K "clear_out" "Store.clear_out" v7 t.f_Store_clear_out ["self","block"]
oN:Fn1 K "make_room" "Store.make_room" v8 t.f_Store_make_room ["self"]
iE:Fn1 K "make_ready" "Store.make_ready" uQ t.f_Store_make_ready ["self"]
i9:Fn1 K "make_rooms" "Store.make_rooms" uR t.f_Store_make_rooms ["self"]
aA9:Fn1 K "least" "Even.least" q19 t.f_Even_least ["self"]
iZ:Fn1 K "clearable" "Even.clearable" vG t.f_Even_clearable ["self","tallies"]
i4:Fn1 K "options" "Even.options" zM t.f_Even_options ["self"]
tN:Fn1 K "choice" "Even.choice" q09 t.f_Even_choice ["self"]
fV:FuncData
tT:FunT K "block_to_change" "Even.block_to_change" qY t.iU t.f_Even_block_to_change fV
tR:jY K fV ["self"] []
aCG:Fn1 K "limits_of" "limits_of" q22 t.f_limits_of ["ills","blocks"]
i3:FuncData
aDL:Value
aDW:FunD K "__init__" "Chip.__init__" uV aDL t.f_Chip_init i3
aE1:jY K i3 ["self","blocks","pages","most","ills"] []
aAO:List Value
aES:jY K i3 ["self","blocks","pages","most","ills"] aAO
aEM:Vals [.non] aAO
aAJ:List Value
aC5:jY K i3 ["self","blocks","pages","most","ills"] aAJ
aCU:Vals [.int 1000000,.non] aAJ
aCX:Fn1 K "put" "Chip.put" q3G t.f_Chip_put ["self","page","stuff"]
aA4:Fn1 K "wipe" "Chip.wipe" q23 t.f_Chip_wipe ["self","block"]
aA5:Fn1 K "read" "Chip.read" q24 t.f_Chip_read ["self","page"]
o7:Fn1 K "cut_after" "Chip.cut_after" vH t.f_Chip_cut_after ["self","deeds"]
tM:Fn1 K "power_on" "Chip.power_on" vW t.f_Chip_power_on ["self"]
tU:Fn1 K "is_dark" "Chip.is_dark" zN t.f_Chip_is_dark ["self"]
i6:Fn1 K "cleared" "Chip.cleared" zO t.f_Chip_cleared ["self","block"]
aAP:Fn1 K "failed" "Chip.failed" q0A t.f_Chip_failed ["self","block"]
tG:Fn1 K "deeds" "Chip.deeds" q1A t.f_Chip_deeds ["self"]
iK:Fn1 K "check_page" "Chip.check_page" v9 t.f_Chip_check_page ["self","page"]
fX:Fn1 K "check_block" "Chip.check_block" uS t.f_Chip_check_block ["self","block"]
iD:Fn1 K "check_power" "Chip.check_power" uT t.f_Chip_check_power ["self"]
iH:Fn1 K "check_deed" "Chip.check_deed" vA t.f_Chip_check_deed ["self","block"]
oC:Fn1 K "is_spent" "Chip.is_spent" vX t.f_Chip_is_spent ["self","block"]
oP:Fn1 K "do_deed" "Chip.do_deed" zP t.f_Chip_do_deed ["self","word","place","block","fails"]
aAY:Fn1 K "is_unbeaten" "is_unbeaten" q0B t.f_is_unbeaten ["rule","tally","tallies","pages","now"]
o6:Fn1 K "first_unbeaten" "first_unbeaten" vI t.f_first_unbeaten ["rule","tallies","pages","now"]
aAT:Fn1 K "choose" "Rule.choose" q0C t.f_Rule_choose ["self","tallies","pages","now"]
iY:Fn1 K "goes_ahead" "Fewest.goes_ahead" uJ t.f_Fewest_goes_ahead ["self","one","other","pages","now"]
iP:FuncData
aCY:Value
aDM:FunD K "__init__" "Terms.__init__" uF aCY t.f_Terms_init iP
aDQ:jY K iP ["self","blocks","pages","sheets","share","ill","spread"] []
tV:List Value
aEL:jY K iP ["self","blocks","pages","sheets","share","ill","spread"] tV
aEK:Vals [.int 1000000] tV
t9:List Value
aEI:jY K iP ["self","blocks","pages","sheets","share","ill","spread"] t9
aEJ:Vals [.int 0,.int 1000000] t9
t7:Fn1 K "closed" "Terms.closed" zQ t.f_Terms_closed ["self"]
fR:Fn1 K "_law_cell_at" "_law_cell_at" q0D t.f_law_cell_at ["_law_script","_law_k"]
aCA:Fn1 K "_law_whole" "_law_whole" q25 t.f_law_whole ["_law_found"]
aCF:Fn1 K "_law_shape" "_law_shape" q26 t.f_law_shape ["_law_script"]
aB7:Fn1 K "_law_names" "_law_names" q27 t.f_law_names ["_law_script","_law_share"]
aC0:Fn1 K "_law_pick" "_law_pick" q3H t.f_law_pick ["_law_cell","_law_names_here"]
aDU:Fn1 K "_law_ask" "_law_ask" q4S t.f_law_ask ["_law_store","_law_kept","_law_way","_law_sheet","_law_number"]
aB8:Fn1 K "_law_lives" "_law_lives" q28 t.f_law_lives ["_law_stuff","_law_kept"]
aAZ:Fn1 K "_law_tallies" "_law_tallies" q0E t.f_law_tallies ["_law_chip","_law_blocks","_law_pages","_law_kept"]
tX:Fn1 K "_law_room_due" "_law_room_due" zR t.f_law_room_due ["_law_rows","_law_pages","_law_ill"]
aD1:Fn1 K "_law_due" "_law_due" q4T t.f_law_due ["_law_options","_law_spared"]
aBF:Fn1 K "_law_chosen" "_law_chosen" q1B t.f_law_chosen ["_law_store","_law_due_here"]
aA8:Fn1 K "_law_right" "_law_right" q29 t.f_law_right ["_law_store","_law_chip","_law_shape_here","_law_spread","_law_kept"]
law:Fn1 K "law" "law" qG1 t.f_law ["_law_script"]
structure HkE where
P:Program
w:World
K:W.Frag
mg:Str→Option Value
t:Adr
noncomputable def hkB(e:HkE):Prop:=∃(S:Fns e.K e.t) (base:Heap),Txt e.K e.mg e.t∧BmIn base e.mg∧¬S.law.Ok0 e.P e.w e.mg base 19 (q4P e.K [e.t.e9,e.t.fA])
instance:Nonempty HkE:=⟨⟨PySem.Challenge.pw_wornpages_k42_who_may_be_cleared,⟨λ_ _=>0,{ strHash:=λ_=>0,shareClass:=λ_=>0,mergeTok:=id,idOf:=λ_=>0,idOfShared:=λ_ _=>0,followText:=λ_=>false,idOfImm:=λ_=>0 }⟩,[],λ_=>none,by constructor<;>exact(0:Nat)⟩⟩
@[irreducible] noncomputable def hkE:HkE:=Classical.epsilon hkB
noncomputable def P:Program:=hkE.P
noncomputable def w:World:=hkE.w
noncomputable def K:W.Frag:=hkE.K
noncomputable def mg:Str→Option Value:=hkE.mg
noncomputable def t:Adr:=hkE.t
section
variable{base:Heap}
theorem qAA:FnScope ["thing"] ["thing"] (qH q3C):=qT (by decide+kernel)
theorem q8V:FnScope ["thing","low","high"] ["thing","low","high"] (qH q1W):=qT (by decide+kernel)
theorem qAB:FnScope ["blocks","pages"] ["blocks","pages"] (qH q3D):=qT (by decide+kernel)
theorem qAC:FnScope ["thing"] ["thing"] (qH q3E):=qT (by decide+kernel)
theorem qBI:FnScope ["stamp","name"] ["stamp","name"] (qH q4Q):=qT (by decide+kernel)
theorem q1C:FnScope ["sheets","bits","sheet"] ["sheets"] (qH q4R):=qT (by decide+kernel)
theorem q8W:FnScope ["self","blocks","pages"] ["self","blocks","pages"] (qH q1X):=qT (by decide+kernel)
theorem q8X:FnScope ["self","name"] ["self","name"] (qH q1Y):=qT (by decide+kernel)
theorem q46:FnScope ["self","page","name","block"] ["self","page","name"] (qH q1Z):=qT (by decide+kernel)
theorem q2A:FnScope ["self","name","page"] ["self","name"] (qH q02):=qT (by decide+kernel)
theorem q5A:FnScope ["self","block"] ["self","block"] (qH zL):=qT (by decide+kernel)
theorem q3I:FnScope ["self","block"] ["self","block"] (qH v5):=qT (by decide+kernel)
theorem q8Y:FnScope ["self"] ["self"] (qH q20):=qT (by decide+kernel)
theorem q79:FnScope ["self","chip","terms"] ["self","chip","terms"] (qH q13):=qT (by decide+kernel)
theorem q7A:FnScope ["self"] ["self"] (qH q14):=qT (by decide+kernel)
theorem q34:FnScope ["self","clear"] ["self"] (qH jX):=qT (by decide+kernel)
theorem q35:FnScope ["self","block"] ["self"] (qH q15):=qT (by decide+kernel)
theorem q0F:FnScope ["self","part","free"] ["self"] (qH q16):=qT (by decide+kernel)
theorem q2B:FnScope ["self","spare"] ["self"] (qH q03):=qT (by decide+kernel)
theorem zY:FnScope ["self","name","value","page"] ["self","name","value"] (qH vF):=qT (by decide+kernel)
theorem q8Z:FnScope ["self","name","value"] ["self","name","value"] (qH q21):=qT (by decide+kernel)
theorem q6O:FnScope ["self","sheet","value"] ["self","sheet","value"] (qH q04):=qT (by decide+kernel)
theorem yO:FnScope ["self","sheets","sheet","held","gone"] ["self","sheets"] (qH vU):=qT (by decide+kernel)
theorem q7B:FnScope ["self"] ["self"] (qH q17):=qT (by decide+kernel)
theorem q2C:FnScope ["self","sheet"] ["self","sheet"] (qH uH):=qT (by decide+kernel)
theorem vR:FnScope ["self","sheet","held"] ["self","sheet"] (qH uI):=qT (by decide+kernel)
theorem qAD:FnScope ["why","options","block","moved","wiped"] ["why","options","block","moved","wiped"] (qH q3F):=qT (by decide+kernel)
theorem q7C:FnScope ["self","chip","terms","rule"] ["self","chip","terms","rule"] (qH q18):=qT (by decide+kernel)
theorem q4U:FnScope ["self"] ["self"] (qH vV):=qT (by decide+kernel)
theorem q6P:FnScope ["self","block"] ["self","block"] (qH q05):=qT (by decide+kernel)
theorem q2D:FnScope ["self","part"] ["self"] (qH q06):=qT (by decide+kernel)
theorem yT:FnScope ["self","space","full","tallies"] ["self"] (qH v6):=qT (by decide+kernel)
theorem q0Q:FnScope ["self"] ["self"] (qH yR):=qT (by decide+kernel)
theorem q0R:FnScope ["self","options"] ["self","options"] (qH yS):=qT (by decide+kernel)
theorem vB:FnScope ["self","block","moves","page","name"] ["self","block"] (qH q07):=qT (by decide+kernel)
theorem q1D:FnScope ["self","page","name"] ["self","page","name"] (qH yY):=qT (by decide+kernel)
theorem q6Q:FnScope ["self","block"] ["self","block"] (qH q08):=qT (by decide+kernel)
theorem q3J:FnScope ["self","block"] ["self","block"] (qH v7):=qT (by decide+kernel)
theorem yE:FnScope ["self","options","chosen","moved","wiped"] ["self"] (qH v8):=qT (by decide+kernel)
theorem q2W:FnScope ["self"] ["self"] (qH uQ):=qT (by decide+kernel)
theorem q2X:FnScope ["self"] ["self"] (qH uR):=qT (by decide+kernel)
theorem q7D:FnScope ["self"] ["self"] (qH q19):=qT (by decide+kernel)
theorem zZ:FnScope ["self","tallies","bound"] ["self","tallies"] (qH vG):=qT (by decide+kernel)
theorem q5B:FnScope ["self"] ["self"] (qH zM):=qT (by decide+kernel)
theorem q2E:FnScope ["self","options"] ["self"] (qH q09):=qT (by decide+kernel)
theorem uW:FnScope ["self","tallies"] ["self"] (qH qY):=qT (by decide+kernel)
theorem zD:FnScope ["ills","blocks","limits","block","deeds"] ["ills","blocks"] (qH q22):=qT (by decide+kernel)
theorem q90:FnScope ["self","blocks","pages","most","ills"] ["self","blocks","pages","most","ills"] (qH uV):=qT (by decide+kernel)
theorem q56:FnScope ["self","page","stuff","block"] ["self","page","stuff"] (qH q3G):=qT (by decide+kernel)
theorem zE:FnScope ["self","block","fails","first","page"] ["self","block"] (qH q23):=qT (by decide+kernel)
theorem q91:FnScope ["self","page"] ["self","page"] (qH q24):=qT (by decide+kernel)
theorem q47:FnScope ["self","deeds"] ["self","deeds"] (qH vH):=qT (by decide+kernel)
theorem q4V:FnScope ["self"] ["self"] (qH vW):=qT (by decide+kernel)
theorem q5C:FnScope ["self"] ["self"] (qH zN):=qT (by decide+kernel)
theorem q5D:FnScope ["self","block"] ["self","block"] (qH zO):=qT (by decide+kernel)
theorem q6R:FnScope ["self","block"] ["self","block"] (qH q0A):=qT (by decide+kernel)
theorem q7E:FnScope ["self"] ["self"] (qH q1A):=qT (by decide+kernel)
theorem q3K:FnScope ["self","page"] ["self","page"] (qH v9):=qT (by decide+kernel)
theorem q2Y:FnScope ["self","block"] ["self","block"] (qH uS):=qT (by decide+kernel)
theorem q2Z:FnScope ["self"] ["self"] (qH uT):=qT (by decide+kernel)
theorem q3L:FnScope ["self","block"] ["self","block"] (qH vA):=qT (by decide+kernel)
theorem q4W:FnScope ["self","block"] ["self","block"] (qH vX):=qT (by decide+kernel)
theorem q5E:FnScope ["self","word","place","block","fails"] ["self","word","place","block","fails"] (qH zP):=qT (by decide+kernel)
theorem q2F:FnScope ["rule","tally","tallies","pages","now","other"] ["rule","tally","tallies","pages","now"] (qH q0B):=qT (by decide+kernel)
theorem vC:FnScope ["rule","tallies","pages","now","place"] ["rule","tallies","pages","now"] (qH vI):=qT (by decide+kernel)
theorem q6S:FnScope ["self","tallies","pages","now"] ["self","tallies","pages","now"] (qH q0C):=qT (by decide+kernel)
theorem q2G:FnScope ["self","one","other","pages","now"] ["self","one","other","pages","now"] (qH uJ):=qT (by decide+kernel)
theorem q7F:FnScope ["self","blocks","pages","sheets","share","ill","spread"] ["self","blocks","pages","sheets","share","ill","spread"] (qH uF):=qT (by decide+kernel)
theorem q5F:FnScope ["self"] ["self"] (qH zQ):=qT (by decide+kernel)
theorem q6T:FnScope ["_law_script","_law_k"] ["_law_script","_law_k"] (qH q0D):=qT (by decide+kernel)
theorem q92:FnScope ["_law_found"] ["_law_found"] (qH q25):=qT (by decide+kernel)
theorem yU:FnScope ["_law_script","_law_pages","_law_closed","_law_ill","_law_share"] ["_law_script"] (qH q26):=qT (by decide+kernel)
theorem q93:FnScope ["_law_script","_law_share"] ["_law_script","_law_share"] (qH q27):=qT (by decide+kernel)
theorem qAE:FnScope ["_law_cell","_law_names_here"] ["_law_cell","_law_names_here"] (qH q3H):=qT (by decide+kernel)
theorem q1E:FnScope ["_law_store","_law_kept","_law_way","_law_sheet","_law_number","_law_word"] ["_law_store","_law_kept","_law_way","_law_sheet","_law_number"] (qH q4S):=qT (by decide+kernel)
theorem vD:FnScope ["_law_stuff","_law_kept","_law_latest","_law_page","_law_stamp","_law_name"] ["_law_stuff","_law_kept"] (qH q28):=qT (by decide+kernel)
theorem jE:FnScope ["_law_chip","_law_blocks","_law_pages","_law_kept","_law_stuff","_law_lives_here","_law_wipes","_law_word","_law_place","_law_well","_law_found","_law_block","_law_mine","_law_born"] ["_law_chip","_law_blocks","_law_pages","_law_kept"] (qH q0E):=qT (by decide+kernel)
theorem q1L:FnScope ["_law_rows","_law_pages","_law_ill","_law_row"] ["_law_rows","_law_pages","_law_ill"] (qH zR):=qT (by decide+kernel)
theorem q3M:FnScope ["_law_options","_law_spared","_law_few"] ["_law_options","_law_spared"] (qH q4T):=qT (by decide+kernel)
theorem vK:FnScope ["_law_store","_law_due_here","_law_found"] ["_law_store","_law_due_here"] (qH q1B):=qT (by decide+kernel)
theorem yA:FnScope ["_law_store","_law_chip","_law_shape_here","_law_spread","_law_kept","_law_pages","_law_rows","_law_most","_law_full","_law_bound","_law_spared","_law_options","_law_count"] ["_law_store","_law_chip","_law_shape_here","_law_spread","_law_kept"] (qH q29):=qT (by decide+kernel)
theorem vY:FnScope ["_law_script","_law_shape_here","_law_spread","_law_chip","_law_k","_law_store","_law_names_here","_law_kept","_law_name","_law_cell","_law_word"] ["_law_script"] (qH qG1):=qT (by decide+kernel)
local macro_rules| `(tactic|walk_at "r")=>`(tactic|repeat (first|with_reducible refine⟨_,rfl,?_⟩|refine⟨_,rfl,?_⟩|refine(iI ?_)))
theorem qAF(T:Txt K mg t)(S:Fns K t):S.aCW.Ok0 P w mg base 1 qC0:=by(
refine S.aCW.F.ok0 qAA λcdv A _ s H vs Q E hr h=>?_
obtain⟨x,rfl,kn,k⟩:=h
refine⟨_,(qD (qL (zI (jA uZ (by rfl) T.i5 (by kernel_rfl) (qA (pv 0) (qA (q3Q rfl T.aE4 (by kernel_rfl) rfl (v:=.ty "int")) qE))) (zH (qAP (jA uZ (by rfl) T.i5 (by kernel_rfl) (qA (pv 0) (qA (q3Q rfl T.aEV (by kernel_rfl) rfl (v:=.ty "bool")) qE)))))))),?_⟩
try dsimp-beta-proj-iota-zeta-eta only[wishK,cxK]
obtain⟨ty,q,e1,e2,_⟩:=kn.ty (K:=K)
refine⟨_,rfl,x,_,_,ty,_,rfl,rfl,.inl q,e1,_,rfl,?_⟩
have z:=qEE x
cases qi:isI x with
|true=>rw[qi,kL rfl]at z;refine iteT ?_;refine⟨_,rfl,x,_,_,ty,_,rfl,rfl,.inl q,e2,_,rfl,?_⟩;rw[z];exact k
|false=>rw[qi]at z;refine iteF ?_;have z':false=isW x:=z;rw[z'];exact k)
theorem jL(T:Txt K mg t)(S:Fns K t):S.fT.Ok0 P w mg base 2 qEF:=by(
refine S.fT.F.ok0 q8V λcdv A _ s H vs Q E hr h=>?_
obtain⟨x,lo,hi,rfl,kn,k⟩:=h
refine⟨_,(qD (qL (zI (qX (qAF T S).mono hr rfl T.aDR T.aD7 S.aCW.b .nil qK (qA (pv 0) qE)) (zH (qDU qBT qBT (pv 1) (pv 0) (pv 2)))))),?_⟩
try dsimp-beta-proj-iota-zeta-eta only[wishK,cxK]
refine⟨_,rfl,x,rfl,kn,_,rfl,?_⟩
cases x with
|int i=>
 refine iteT ?_;refine⟨_,rfl,_,rfl,iI ⟨_,rfl,?_⟩⟩;have k':Q (V.bl (decide (lo≤i)&&decide (i≤hi))) H:=k;by_cases h1:lo≤i
 ·rw[hC h1]at k' ⊢;refine iteT ?_;exact⟨_,rfl,iI k'⟩
 rw[hU h1]at k' ⊢;refine iteF ?_;exact k'
|_=>exact iteF k)
theorem q57(T:Txt K mg t)(S:Fns K t):S.aBT.Ok0 P w mg base 3 qGQ:=by(
refine S.aBT.F.ok0 qAB λcdv A _ s H vs Q E hr h=>?_
obtain⟨x,y,rfl,kx,ky,k⟩:=h
refine⟨_,(qD (qL (zI (qX (jL T S).mono hr rfl T.fL T.fK S.fT.b .nil qK (qA (pv 0) (qA qG (qA qG qE)))) (zH (qX (jL T S).mono hr rfl T.fL T.fK S.fT.b .nil qK (qA (pv 1) (qA qG (qA qG qE)))))))),?_⟩
try dsimp-beta-proj-iota-zeta-eta only[wishK,cxK]
refine⟨_,rfl,x,_,_,rfl,kx,_,rfl,?_⟩
cases q:inB x 2 16 with
|true=>rw[q]at k;refine iteT ⟨_,rfl,y,_,_,rfl,ky,k⟩
|false=>rw[q]at k;exact iteF k)
structure Gd(m:CM):Prop where
br:∀b,m.br.getD b false=false
li:∀b,valV m.lim (Sum.inl b)=none
theorem inBi{v lo hi:Int}(h1:lo≤v)(h2:v≤hi):inB (.int v) lo hi=true:=by show(decide (lo≤v)&&decide (v≤hi))=true;rw[hC h1,hC h2];rfl
noncomputable def putC(m:CM)(p:Nat)(st:V):CM:={ m.deed "put" (p:Int) ((p:Int) / m.pg) false with bo:=m.bo.set p st }
noncomputable def wipC(m:CM)(b:Nat):CM:={ m.deed "wipe" (b:Int) (b:Int) false with bo:=clr m.bo ((b:Int)*m.pg).toNat m.pg.toNat,cl:=m.cl.set b (m.cl.getD b 0+1) }
inductive spCP(t:Adr)(vs:List V)(H:Hp)(Q:VK)(E:XK):Prop
|mk:∀c a m,∀p:Int,vs=[.ref c,.int p]→ChipAt t.C_Chip H c a m→m.Ok→0≤p→p≤m.bl*m.pg-1→Q .non H→spCP t vs H Q E
theorem zS(T:Txt K mg t)(S:Fns K t):S.iK.Ok0 P w mg base 3 (spCP t):=by(
refine S.iK.F.ok0 q3K λcdv A _ s H vs Q E hr h=>?_
obtain⟨c,a,m,p,rfl,hc,ok,p0,p1,q⟩:=h
refine⟨_,(qD (jC (uG (yM (qX (jL T S).mono hr rfl T.fL T.fK S.fT.b .nil qK (qA (pv 1) (qA qG (qA (qQ vE (qQ uY (qJ (pv 0) rfl) (qJ (pv 0) rfl)) qG) qE)))))) (qD jH) qS)),?_⟩
try dsimp-beta-proj-iota-zeta-eta only[wishK,cxK]
have b1:=ok.bl1
have b2:=ok.bl2
refine⟨_,rfl,iV rfl (iF hc.ins T.fD T.iC rfl (iV rfl (iF hc.ins T.fD T.fW rfl ?_)))⟩
refine(iI ⟨.inl ⟨by lia,by lia⟩,iI ⟨.int p,_,_,rfl,.int p,_,rfl,?_⟩⟩)
rw[inBi p0 p1]
exact iteF q)
inductive spCB(t:Adr)(vs:List V)(H:Hp)(Q:VK)(E:XK):Prop
|mk:∀c a m,∀p:Int,vs=[.ref c,.int p]→ChipAt t.C_Chip H c a m→0≤p→p≤m.bl-1→Q .non H→spCB t vs H Q E
theorem uK(T:Txt K mg t)(S:Fns K t):S.fX.Ok0 P w mg base 3 (spCB t):=by(
refine S.fX.F.ok0 q2Y λcdv A _ s H vs Q E hr h=>?_
obtain⟨c,a,m,p,rfl,hc,p0,p1,q⟩:=h
refine⟨_,(qD (jC (uG (yM (qX (jL T S).mono hr rfl T.fL T.fK S.fT.b .nil qK (qA (pv 1) (qA qG (qA (qQ vE (qJ (pv 0) rfl) qG) qE)))))) (qD jH) qS)),?_⟩
try dsimp-beta-proj-iota-zeta-eta only[wishK,cxK]
refine⟨_,rfl,iV rfl (iF hc.ins T.fD T.iC rfl (iI ⟨.int p,_,_,rfl,.int p,_,rfl,?_⟩))⟩
rw[inBi p0 p1]
exact iteF q)
inductive spID(t:Adr)(vs:List V)(H:Hp)(Q:VK)(E:XK):Prop
|mk:∀c a m,vs=[.ref c]→ChipAt t.C_Chip H c a m→Q (.bl (decide (m.lf=some 0))) H→spID t vs H Q E
theorem q5G(T:Txt K mg t)(S:Fns K t):S.tU.Ok0 P w mg base 1 (spID t):=by(
refine S.tU.F.ok0 q5C λcdv A _ s H vs Q E hr h=>?_
obtain⟨c,a,m,rfl,hc,q⟩:=h
refine⟨_,(qD (qL (uM u9 (qJ (pv 0) rfl) qG (qP _)))),?_⟩
try dsimp-beta-proj-iota-zeta-eta only[wishK,cxK]
refine⟨_,rfl,c,_,a.dx,_,_,rfl,hc.ins,T.fD,T.fQ,rfl,qGP,?_⟩
rw[lf0]
exact q)
inductive spPW(t:Adr)(vs:List V)(H:Hp)(Q:VK)(E:XK):Prop
|mk:∀c a m,vs=[.ref c]→ChipAt t.C_Chip H c a m→(if m.lf=some 0 then E (.ref t.C_PowerGone) none H else Q .non H)→spPW t vs H Q E
theorem zB(T:Txt K mg t)(S:Fns K t):S.iD.OkE P w mg base 2 (spPW t):=by(
refine S.iD.F.okE q2Z (λvs H Q E h=>?_) (λcdv A outer s H vs Q E hr h=>?_)
·repeat obtain⟨_,h⟩:=h
 all_goals subst_vars;rfl
obtain⟨c,a,m,rfl,hc,q⟩:=h
refine⟨_,(qD (jC (yM (j0 (pv 0) T.fD T.aCL (q5G T S).mono hr S.tU.b .nil qK)) (qD (q9S jI rfl rfl T.aBP T.aDZ (qA uO qE))) qS)),?_⟩
try dsimp-beta-proj-iota-zeta-eta only[wishK,cxK]
refine(iV rfl (iM hc.ins rfl ⟨c,a,m,rfl,hc,_,rfl,?_⟩))
by_cases z:m.lf=some 0
·rw[kL z]at q;rw[hC z];exact iteT ⟨sz1,q⟩
rw[kJ z]at q
rw[hU z]
exact iteF q)
inductive spCD(t:Adr)(vs:List V)(H:Hp)(Q:VK)(E:XK):Prop
|mk:∀c a m b,vs=[.ref c,.int b]→ChipAt t.C_Chip H c a m→m.Ok→Gd m→0≤b→b<m.bl→(if m.lf=some 0 then E (.ref t.C_PowerGone) none H else Q .non H)→spCD t vs H Q E
theorem zT(T:Txt K mg t)(S:Fns K t):S.iH.OkE P w mg base 3 (spCD t):=by(
refine S.iH.F.okE q3L (λvs H Q E h=>?_) (λcdv A outer s H vs Q E hr h=>?_)
·repeat obtain⟨_,h⟩:=h
 all_goals subst_vars;rfl
obtain⟨c,a,m,b,rfl,hc,ok,g,b0,b1,q⟩:=h
refine⟨_,(qB (j8 (uE jI (pv 0) T.fD T.oS (zB T S).mono hr S.iD.b .nil)) (qD (jC (yM (qW qZ (qJ (pv 0) rfl) (pv 1) (λ_ _=>rfl))) (qD jH) qS))),?_⟩
try dsimp-beta-proj-iota-zeta-eta only[wishK,cxK]
have nb:=ok.nbr
refine(iV rfl (iM hc.ins rfl ⟨c,a,m,rfl,hc,?_⟩))
split
·rename_i z;rw[kL z]at q;exact q
rename_i z
rw[kJ z]at q
refine(iV rfl (iF hc.ins T.fD T.oY rfl ⟨_,rfl,iL (k:=b) (v:=_) (SqL.of hc.br) (getB b0 (by lia)) ⟨_,rfl,?_⟩⟩))
rw[g.br]
exact iteF q)
inductive spIS(t:Adr)(vs:List V)(H:Hp)(Q:VK)(E:XK):Prop
|mk:∀c a m b,vs=[.ref c,.int b]→ChipAt t.C_Chip H c a m→Gd m→Q (.bl false) H→spIS t vs H Q E
theorem q0S(T:Txt K mg t)(S:Fns K t):S.oC.Ok0 P w mg base 1 (spIS t):=by(
refine S.oC.F.ok0 q4W λcdv A _ s H vs Q E hr h=>?_
obtain⟨c,a,m,b,rfl,hc,g,q⟩:=h
have hu:=q32 hr
refine⟨_,(qD (qL (zI (qIU (qAY hu (pv 1) (qJ (pv 0) rfl))) (zH (uM qBU (qW qZ (qJ (pv 0) rfl) (pv 1) (λ_ _=>rfl)) (qGK hu (qJ (pv 0) rfl) (pv 1) (λ_ _=>rfl)) (qP _)))))),?_⟩
try dsimp-beta-proj-iota-zeta-eta only[wishK,cxK]
refine⟨_,rfl,iV rfl (iF hc.ins T.fD T.aAL rfl ⟨a.li,_,rfl,DGet.k (k:=Sum.inl b) hc.li,_,rfl,?_⟩)⟩
rw[g.li]
exact iteF q)
inductive spDD(t:Adr)(vs:List V)(H:Hp)(Q:VK)(E:XK):Prop
|mk:∀c a m w pl b,vs=[.ref c,.str w,.int pl,.int b,.bl false]→ChipAt t.C_Chip H c a m→m.Ok→m.rc.length<1000000→0≤b→b<m.bl→(∀H',ChipAt t.C_Chip H' c a (m.deed w pl b false)→Keep (foot c a) H H'→Q .non H')→spDD t vs H Q E
theorem q1M(T:Txt K mg t)(S:Fns K t):S.oP.Ok0 P w mg base 3 (spDD t):=by(
refine S.oP.F.ok0 q5E λcdv A _ s H vs Q E hr h=>?_
obtain⟨c,a,m,w,pl,b,rfl,hc,ok,hr1,b0,b1,q⟩:=h
refine⟨_,(zW (jC (qM q2N (qJ (pv 0) rfl) yC (qP _)) (qD (q7U (pv 0) qG qJ1)) qS) (qB (q3S (qJ (pv 0) rfl) (pv 3) q1R qG q5W uA) (qB (j8 (qBZ wN wF wG q0K (qJ (pv 0) rfl) (qA (yP (qA (pv 1) (qA (pv 2) (qA (qAP (pv 4)) qE)))) qE q3X))) (qD (jC (yM (pv 4)) (qB jH (qD jH)) qS))))),?_⟩
try dsimp-beta-proj-iota-zeta-eta only[wishK,cxK]
have nd:=ok.ndc
refine⟨λσ' H1=>σ'=[some (.ref c),some (.str w),some (.int pl),some (.int b),some (.bl false)]∧ChipAt t.C_Chip H1 c a { m with lf:=m.lf.map (· - 1) }∧Keep (foot c a) H H1,?_,?_⟩
·refine⟨_,rfl,c,_,a.dx,_,_,rfl,hc.ins,T.fD,T.fQ,rfl,rfl,_,rfl,?_⟩;cases hl:m.lf with
 |none=>refine iteF ⟨rfl,?_,Keep.refl⟩;show ChipAt t.C_Chip H c a { m with lf:=none };rw[←hl];exact hc
 |some i=>refine iteT ?_;refine⟨_,rfl,c,_,a.dx,_,_,rfl,hc.ins,T.fD,T.fQ,(by unfold chF;rw[hl];rfl),iI ⟨a.dx,_,hc.ins,by show 10<1000;decide,?_⟩⟩;refine⟨rfl,hc.setLf (some (i-1)),Keep.upd hc.ins (λ_ z=>by cases z) (by simp[foot])⟩
rintro _ H1 ⟨rfl,hc1,k1⟩
refine(iV rfl (iF hc1.ins T.fD T.oM rfl ⟨_,rfl,iL (k:=b) (v:=_) (SqL.of hc1.dc) (getI b0 (by show b<(m.dc.length:Int);lia)) (iI ⟨a.dc,_,b,b.toNat,rfl,rfl,hc1.dc,by rw[hG];exact ixOk b0 (by show b<(m.dc.length:Int);lia),?_⟩)⟩))
rw[←aR]
have hc2:=hc1.setDc (m.dc.set b.toNat (m.dc.getD b.toNat 0+1))
have k2:Keep (foot c a) H (upd H1 a.dc (.lst ((m.dc.set b.toNat (m.dc.getD b.toNat 0+1)).map V.int))):=k1.trans (Keep.upd hc1.dc (λ_ z=>by cases z) (by simp[foot]))
generalize upd H1 a.dc (.lst ((m.dc.set b.toNat (m.dc.getD b.toNat 0+1)).map V.int))=H2 at hc2 k2 ⊢
obtain⟨rs,er,pr⟩:=hc2.rc
have ln:rs.length≤1000000:=by rw[pr.len];exact sU hr1
refine(iV rfl (iF hc2.ins T.fD T.oX rfl ⟨.inl ⟨rfl,_,SqL.of er⟩,_,rfl,_,rfl,_,rfl,_,rfl,sz3,λp H3 np sm hp=>?_⟩))
have er3:=sm _ _ er
refine⟨a.rc,rs,_,rfl,rfl,er3,gM ln (by decide),?_⟩
exact⟨_,rfl,_,rfl,iteF (q _ ((hc2.same sm).addRc (d:=(w,pl,!false)) er3 hp) ((k2.trans (Keep.same sm)).trans (Keep.upd (o:=.lst (rs++[.ref p])) er3 (λ_ z=>by cases z) (by simp[foot]))))⟩)
inductive spPut(t:Adr)(vs:List V)(H:Hp)(Q:VK)(E:XK):Prop
|mk:∀c a m,∀p:Nat,∀st,vs=[.ref c,.int (p:Int),st]→ChipAt t.C_Chip H c a m→m.Ok→m.rc.length<1000000→Gd m→(p:Int)≤m.bl*m.pg-1→m.bo.getD p .non=.non→(m.lf=some 0→E (.ref t.C_PowerGone) none H)→(m.lf≠some 0→∀H',ChipAt t.C_Chip H' c a (putC m p st)→Keep (foot c a) H H'→Q .non H')→spPut t vs H Q E
theorem qAG(T:Txt K mg t)(S:Fns K t):S.aCX.OkE P w mg base 4 (spPut t):=by(
refine S.aCX.F.okE q56 (λvs H Q E h=>?_) (λcdv A outer s H vs Q E hr h=>?_)
·repeat obtain⟨_,h⟩:=h
 all_goals subst_vars;rfl
obtain⟨c,a,m,p,st,rfl,hc,ok,hr1,g,p1,hw,dk,q⟩:=h
refine⟨_,(qB (j8 (jG (pv 0) T.fD T.tE (zS T S).mono hr S.iK.b .nil qK (qA (pv 1) qE))) (qB (qV (i:=3) q56.nd rfl (Or.inl rfl) (qQ uD (pv 1) (qJ (pv 0) rfl))) (qB (j8 (jV jI (pv 0) T.fD T.tD (zT T S).mono hr S.iH.b .nil (qA (pv 3) qE))) (qB (jC (qM q2N (qW qZ (qJ (pv 0) rfl) (pv 1) (λ_ _=>rfl)) yC (qP _)) (qD jH) qS) (qB (j8 (jG (pv 0) T.fD T.aAI (q1M T S).mono hr S.oP.b .nil qK (qA uO (qA (pv 1) (qA (pv 3) (qA (jG (pv 0) T.fD T.tW (q0S T S).mono hr S.oC.b .nil qK (qA (pv 3) qE)) qE)))))) (qD (q37 (pv 2) (q4H (qJ (pv 0) rfl) (pv 1) uA)))))))),?_⟩
try dsimp-beta-proj-iota-zeta-eta only[wishK,cxK]
have pg1:=ok.pg1
have pg2:=ok.pg2
have nbo:=ok.nbo
have p0:(0:Int)≤p:=by lia
obtain⟨b0,b1⟩:=qJW ok p0 p1
refine(iV rfl (iM hc.ins rfl ⟨_,rfl,c,a,m,p,rfl,hc,ok,p0,p1,?_⟩))
refine⟨_,rfl,iV rfl (iF hc.ins T.fD T.fW rfl (iI ⟨⟨by lia,by lia⟩,?_⟩))⟩
refine(iV rfl (iM hc.ins rfl ⟨_,rfl,c,a,m,_,rfl,hc,ok,g,b0,b1,?_⟩))
by_cases z:m.lf=some 0
·rw[kL z];exact dk z
rw[kJ z]
have q:=q z
refine(iV rfl (iF hc.ins T.fD T.iQ rfl ⟨_,rfl,iL (k:=p) (v:=_) (SqL.of hc.bo) (getV p0 (by lia)) ⟨rfl,_,rfl,?_⟩⟩))
rw[mH,hC hw]
refine iteF ?_
refine(iV rfl (iM hc.ins rfl ⟨_,rfl,_,rfl,iV rfl (iM hc.ins rfl ⟨_,rfl,c,a,m,_,rfl,hc,g,?_⟩)⟩))
refine⟨c,a,m,"put",p,_,rfl,hc,ok,hr1,b0,b1,λH' hc' k'=>?_⟩
refine⟨_,rfl,iV rfl (iF hc'.ins T.fD T.iQ rfl ⟨_,rfl,a.bo,_,p,p,rfl,rfl,hc'.bo,ixOk p0 (by show(p:Int)<(m.bo.length:Int);lia),?_⟩)⟩
exact q _ (hc'.setBo (m.bo.set p st)) (k'.trans (Keep.upd hc'.bo (λ_ z=>by cases z) (by simp[foot]))))
inductive spRead(t:Adr)(vs:List V)(H:Hp)(Q:VK)(E:XK):Prop
|mk:∀c a m,∀p:Int,vs=[.ref c,.int p]→ChipAt t.C_Chip H c a m→m.Ok→0≤p→p≤m.bl*m.pg-1→(m.lf=some 0→E (.ref t.C_PowerGone) none H)→(m.lf≠some 0→Q (m.bo.getD p.toNat .non) H)→spRead t vs H Q E
theorem q48(T:Txt K mg t)(S:Fns K t):S.aA5.OkE P w mg base 4 (spRead t):=by(
refine S.aA5.F.okE q91 (λvs H Q E h=>?_) (λcdv A outer s H vs Q E hr h=>?_)
·repeat obtain⟨_,h⟩:=h
 all_goals subst_vars;rfl
obtain⟨c,a,m,p,rfl,hc,ok,p0,p1,dk,q⟩:=h
refine⟨_,(qB (j8 (jG (pv 0) T.fD T.tE (zS T S).mono hr S.iK.b .nil qK (qA (pv 1) qE))) (qB (j8 (uE jI (pv 0) T.fD T.oS (zB T S).mono hr S.iD.b .nil)) (qD (qL (qW qZ (qJ (pv 0) rfl) (pv 1) (λ_ _=>rfl)))))),?_⟩
try dsimp-beta-proj-iota-zeta-eta only[wishK,cxK]
have nbo:=ok.nbo
refine(iV rfl (iM hc.ins rfl ⟨_,rfl,c,a,m,p,rfl,hc,ok,p0,p1,iV rfl (iM hc.ins rfl ⟨c,a,m,rfl,hc,?_⟩)⟩))
by_cases z:m.lf=some 0
·rw[kL z];exact dk z
rw[kJ z]
exact(iV rfl (iF hc.ins T.fD T.iQ rfl ⟨_,rfl,iL (k:=p) (v:=_) (SqL.of hc.bo) (getV p0 (by lia)) (q z)⟩)))
inductive spCl(t:Adr)(vs:List V)(H:Hp)(Q:VK)(E:XK):Prop
|mk:∀c a m b,vs=[.ref c,.int b]→ChipAt t.C_Chip H c a m→m.Ok→0≤b→b≤m.bl-1→Q (.int (m.cl.getD b.toNat 0)) H→spCl t vs H Q E
theorem vZ(T:Txt K mg t)(S:Fns K t):S.i6.Ok0 P w mg base 4 (spCl t):=by(
refine S.i6.F.ok0 q5D λcdv A _ s H vs Q E hr h=>?_
obtain⟨c,a,m,b,rfl,hc,ok,b0,b1,q⟩:=h
refine⟨_,(qB (j8 (jG (pv 0) T.fD T.iR (uK T S).mono hr S.fX.b .nil qK (qA (pv 1) qE))) (qD (qL (qW qZ (qJ (pv 0) rfl) (pv 1) (λ_ _=>rfl))))),?_⟩
try dsimp-beta-proj-iota-zeta-eta only[wishK,cxK]
have n:=ok.ncl
exact(iV rfl (iM hc.ins rfl ⟨_,rfl,c,a,m,b,rfl,hc,b0,b1,iV rfl (iF hc.ins T.fD T.f8 rfl ⟨_,rfl,iL (k:=b) (v:=_) (SqL.of hc.cl) (getI b0 (by lia)) q⟩)⟩)))
inductive spFa(t:Adr)(vs:List V)(H:Hp)(Q:VK)(E:XK):Prop
|mk:∀c a m b,vs=[.ref c,.int b]→ChipAt t.C_Chip H c a m→m.Ok→0≤b→b≤m.bl-1→Q (.bl (m.br.getD b.toNat false)) H→spFa t vs H Q E
theorem q6U(T:Txt K mg t)(S:Fns K t):S.aAP.Ok0 P w mg base 4 (spFa t):=by(
refine S.aAP.F.ok0 q6R λcdv A _ s H vs Q E hr h=>?_
obtain⟨c,a,m,b,rfl,hc,ok,b0,b1,q⟩:=h
refine⟨_,(qB (j8 (jG (pv 0) T.fD T.iR (uK T S).mono hr S.fX.b .nil qK (qA (pv 1) qE))) (qD (qL (qW qZ (qJ (pv 0) rfl) (pv 1) (λ_ _=>rfl))))),?_⟩
try dsimp-beta-proj-iota-zeta-eta only[wishK,cxK]
have n:=ok.nbr
exact(iV rfl (iM hc.ins rfl ⟨_,rfl,c,a,m,b,rfl,hc,b0,b1,iV rfl (iF hc.ins T.fD T.oY rfl ⟨_,rfl,iL (k:=b) (v:=_) (SqL.of hc.br) (getB b0 (by lia)) q⟩)⟩)))
inductive spDe(t:Adr)(vs:List V)(H:Hp)(Q:VK)(E:XK):Prop
|mk:∀c a m,vs=[.ref c]→ChipAt t.C_Chip H c a m→(∀rs,H a.rc=some (.lst rs)→Recd H rs m.rc→NewO H (.lst rs) Q)→spDe t vs H Q E
theorem q0G(T:Txt K mg t)(S:Fns K t):S.tG.Ok0 P w mg base 1 (spDe t):=by(
refine S.tG.F.ok0 q7E λcdv A _ s H vs Q E hr h=>?_
obtain⟨c,a,m,rfl,hc,q⟩:=h
refine⟨_,(qD (qL (q4K q01 (by rfl) T.aEH (by kernel_rfl) (qA (qJ (pv 0) rfl) qE)))),?_⟩
try dsimp-beta-proj-iota-zeta-eta only[wishK,cxK]
obtain⟨rs,er,pr⟩:=hc.rc
exact(iV rfl (iF hc.ins T.fD T.oX rfl ⟨a.rc,rs,rfl,.inl (SqL.of er),q rs er pr⟩)))
inductive spOn(t:Adr)(vs:List V)(H:Hp)(Q:VK)(E:XK):Prop
|mk:∀c a m,vs=[.ref c]→ChipAt t.C_Chip H c a m→(∀H',ChipAt t.C_Chip H' c a { m with lf:=none }→Keep (foot c a) H H'→Q .non H')→spOn t vs H Q E
theorem q4X(T:Txt K mg t)(S:Fns K t):S.tM.Ok0 P w mg base 1 (spOn t):=by(
refine S.tM.F.ok0 q4V λcdv A _ s H vs Q E hr h=>?_
obtain⟨c,a,m,rfl,hc,q⟩:=h
refine⟨_,(qD (jO (pv 0) yC rfl)),?_⟩
try dsimp-beta-proj-iota-zeta-eta only[wishK,cxK]
refine⟨_,rfl,c,_,a.dx,_,rfl,hc.ins,T.fD,T.fQ,(by show 10<1000;decide),?_⟩
exact q _ (hc.setLf none) (Keep.upd hc.ins (λ_ z=>by cases z) (by simp[foot])))
inductive spCut(t:Adr)(vs:List V)(H:Hp)(Q:VK)(E:XK):Prop
|mk:∀c a m,∀i:Int,vs=[.ref c,.int i]→ChipAt t.C_Chip H c a m→0≤i→i≤1000000→(∀H',ChipAt t.C_Chip H' c a { m with lf:=some i }→Keep (foot c a) H H'→Q .non H')→spCut t vs H Q E
theorem q49(T:Txt K mg t)(S:Fns K t):S.o7.Ok0 P w mg base 3 (spCut t):=by(
refine S.o7.F.ok0 q47 λcdv A _ s H vs Q E hr h=>?_
obtain⟨c,a,m,i,rfl,hc,i0,i1,q⟩:=h
refine⟨_,(qB (jC (uG (yM (qX (jL T S).mono hr rfl T.fL T.fK S.fT.b .nil qK (qA (pv 1) (qA qG (qA (vJ rfl T.aAF ⟨_,rfl⟩ (v:=.int 1000000)) qE)))))) (qD jH) qS) (qD (jO (pv 0) (pv 1) rfl))),?_⟩
try dsimp-beta-proj-iota-zeta-eta only[wishK,cxK]
refine⟨_,rfl,.int i,_,_,rfl,.int i,_,rfl,?_⟩
rw[inBi i0 i1]
exact iteF ⟨_,rfl,_,rfl,c,_,a.dx,_,rfl,hc.ins,T.fD,T.fQ,by show 10<1000;decide,q _ (hc.setLf (some i)) (Keep.upd hc.ins (λ_ z=>by cases z) (by simp[foot]))⟩)
inductive spWipe(t:Adr)(vs:List V)(H:Hp)(Q:VK)(E:XK):Prop
|mk:∀c a m,∀b:Nat,vs=[.ref c,.int (b:Int)]→ChipAt t.C_Chip H c a m→m.Ok→m.rc.length<1000000→Gd m→(b:Int)≤m.bl-1→m.cl.getD b 0<m.mo→(m.lf=some 0→E (.ref t.C_PowerGone) none H)→(m.lf≠some 0→∀H',ChipAt t.C_Chip H' c a (wipC m b)→Keep (foot c a) H H'→Q .non H')→spWipe t vs H Q E
theorem q4A(T:Txt K mg t)(S:Fns K t):S.aA4.OkE P w mg base 4 (spWipe t):=by(
refine S.aA4.F.okE zE (λvs H Q E h=>?_) (λcdv A outer s H vs Q E hr h=>?_)
·repeat obtain⟨_,h⟩:=h
 all_goals subst_vars;rfl
obtain⟨c,a,m,b,rfl,hc,ok,hr1,g,b1,hm,dk,q⟩:=h
refine⟨_,(qB (j8 (jG (pv 0) T.fD T.iR (uK T S).mono hr S.fX.b .nil qK (qA (pv 1) qE))) (qB (j8 (jV jI (pv 0) T.fD T.tD (zT T S).mono hr S.iH.b .nil (qA (pv 1) qE))) (qB (qV (i:=2) zE.nd rfl (Or.inl rfl) (qI7 (jG (pv 0) T.fD T.tW (q0S T S).mono hr S.oC.b .nil qK (qA (pv 1) qE)) (zH (uM qBU (qW qZ (qJ (pv 0) rfl) (pv 1) (λ_ _=>rfl)) (qJ (pv 0) rfl) (qP _))))) (qB (j8 (jG (pv 0) T.fD T.aAI (q1M T S).mono hr S.oP.b .nil qK (qA uO (qA (pv 1) (qA (pv 1) (qA (pv 2) qE)))))) (qB (qV (i:=3) zE.nd rfl (Or.inl rfl) (qQ uY (pv 1) (qJ (pv 0) rfl))) (qB (uP cL rfl (q4I rfl T.tL (qA (pv 3) (qA (qQ u8 (pv 3) (qJ (pv 0) rfl)) qE))) (qU (i:=4) zE.nd rfl (Or.inl rfl)) (qD (q37 yC (q4H (qJ (pv 0) rfl) (pv 4) uA)))) (qD (q3S (qJ (pv 0) rfl) (pv 1) q1R qG q5W uA)))))))),?_⟩
try dsimp-beta-proj-iota-zeta-eta only[wishK,cxK]
have b0:(0:Int)≤b:=by lia
have pg1:=ok.pg1
have pg2:=ok.pg2
have bl1:=ok.bl2
have nbo:=ok.nbo
have ncl:=ok.ncl
refine(iV rfl (iM hc.ins rfl ⟨_,rfl,c,a,m,b,rfl,hc,b0,b1,?_⟩))
refine(iV rfl (iM hc.ins rfl ⟨_,rfl,c,a,m,b,rfl,hc,ok,g,b0,by lia,?_⟩))
by_cases z:m.lf=some 0
·rw[kL z];exact dk z
rw[kJ z]
have q:=q z
refine(iV rfl (iM hc.ins rfl ⟨_,rfl,c,a,m,b,rfl,hc,g,_,rfl,iteF ?_⟩))
refine(iV rfl (iF hc.ins T.fD T.f8 rfl ⟨_,rfl,iL (k:=b) (v:=_) (SqL.of hc.cl) (getI b0 (by lia)) (iV rfl (iF hc.ins T.fD T.aBN rfl (iI ?_)))⟩))
show q31 2 (V.bl (decide (m.mo≤m.cl.getD b 0))) _ _ _
rw[hU (by lia)]
refine(iV rfl (iM hc.ins rfl ⟨_,rfl,_,rfl,_,rfl,c,a,m,"wipe",b,b,rfl,hc,ok,hr1,b0,by lia,λH' hc' k'=>?_⟩))
have bp:b*m.pg+m.pg≤m.bl*m.pg:=by have:=Int.mul_le_mul_of_nonneg_right (show(b:Int)+1≤m.bl by lia) (show 0≤m.pg by lia);rw[Int.add_mul,Int.one_mul]at this;exact this
have bq:0≤b*m.pg:=xK b0 (by lia)
have bmax:m.bl*m.pg≤256:=by have:=bW bl1 pg2 (by lia) (by decide);lia
refine⟨_,rfl,_,rfl,c,_,a.dx,_,.int m.pg,rfl,hc'.ins,T.fD,T.fW,rfl,iI ⟨.inl ⟨by lia,by lia⟩,?_⟩⟩
refine⟨_,rfl,_,rfl,_,rfl,c,_,a.dx,_,.int m.pg,rfl,hc'.ins,T.fD,T.fW,rfl,iI ⟨_,_,rfl,⟨by lia,by lia,by lia,by lia⟩,?_⟩⟩
refine q7Q (λi σ' H1=>∃y,σ'=[some (.ref c),some (.int b),some (.bl false),some (.int (b*m.pg)),y]∧ChipAt t.C_Chip H1 c a { m.deed "wipe" b b false with bo:=clr m.bo (b*m.pg).toNat i }∧Keep (foot c a) H H1) ⟨_,rfl,hc',k'⟩ (λi σ' H1 hi hp=>?_) (λσ' H1 hp=>?_)
·obtain⟨y,rfl,h1,k1⟩:=hp;have hi':(i:Int)<m.pg:=by have:i<(b*m.pg+m.pg-b*m.pg).toNat:=hi;lia
 refine(iV rfl (iF h1.ins T.fD T.iQ rfl ⟨_,rfl,a.bo,_,_,(b*m.pg+i).toNat,rfl,rfl,h1.bo,ixOk (by lia) (by rw[q3W];lia),?_⟩));have e:(b*m.pg+(i:Int)).toNat=(b*m.pg).toNat+i:=by lia
 rw[e];exact⟨_,rfl,h1.setBo _,k1.trans (Keep.upd h1.bo (λ_ z=>by cases z) (by simp[foot]))⟩
obtain⟨y,rfl,h1,k1⟩:=hp
have e:(b*m.pg+m.pg-b*m.pg).toNat=m.pg.toNat:=by lia
rw[e]at h1
refine(iV rfl (iF h1.ins T.fD T.f8 rfl ⟨_,rfl,iL (k:=b) (v:=_) (SqL.of h1.cl) (getI b0 (by show(b:Int)<(m.cl.length:Int);lia)) (iI ⟨a.cl,_,b,b,rfl,rfl,h1.cl,by rw[hG];exact ixOk b0 (by show(b:Int)<(m.cl.length:Int);lia),?_⟩)⟩))
rw[←aR]
exact q _ (h1.setCl _) (k1.trans (Keep.upd h1.cl (λ_ z=>by cases z) (by simp[foot]))))
inductive spLim(K:W.Frag)(vs:List V)(H:Hp)(Q:VK)(E:XK):Prop
|mk:∀l bl,vs=[.ref l,.int bl]→SqL K H l []→NewO H (.dK []) Q→spLim K vs H Q E
theorem q94(T:Txt K mg t)(S:Fns K t):S.aCG.Ok0 P w mg base 3 (spLim K):=by(
refine S.aCG.F.ok0 zD λcdv A _ s H vs Q E hr h=>?_
obtain⟨l,bl,rfl,sq,q⟩:=h
refine⟨_,(qB (qV (i:=2) zD.nd rfl (Or.inl rfl) q3V) (qB (uP g9 rfl (jF (pv 0)) (q5V rfl (u7 (qU (i:=3) zD.nd rfl (Or.inl rfl)) (u7 (qU (i:=4) zD.nd rfl (Or.inl rfl)) q3R))) (qB jH (qB jH (qB jH (qD jH))))) (qD (qL (pv 2))))),?_⟩
try dsimp-beta-proj-iota-zeta-eta only[wishK,cxK]
refine λp np=>?_
have s0:Same H (upd H p (.dK [])):=Same.upd np
refine⟨_,rfl,l,rfl,⟨[],s0.seq sq⟩,uX (K:=K) (xs:=[]) (λ_ σ' H1=>(∃y z,σ'=[some (.ref l),some (.int bl),some (.ref p),y,z])∧H1=upd H p (.dK [])) ⟨⟨_,_,rfl⟩,rfl⟩ (λi σ' H1 _ hp=>by rw[hp.2];exact s0.seq sq) (λi x σ' H1 hx _=>by simp at hx) (λσ' H1 hp=>?_)⟩
obtain⟨⟨y,z,rfl⟩,rfl⟩:=hp
exact⟨_,rfl,q p _ np s0 qI⟩)
structure Wm(C x dx:Addr)(H G:Hp)(fs:List (Str×V))(os:List (Addr×HO)):Prop where
i:G x=some (.ins C dx fs)
u:Up x H G
o:∀p∈os,G p.1=some p.2∧H p.1=none∧p.1≠x
n:(os.map (·.1)).Nodup
section
variable{C x dx:Addr}{H G B:Hp}{fs fs':List (Str×V)}{os:List (Addr×HO)}
theorem Wm.same(h:Wm C x dx H G fs os)(s:Same G B):Wm C x dx H B fs os:=⟨s _ _ h.i,λb o n e=>s _ _ (h.u b o n e),λp hp=>⟨s _ _ (h.o p hp).1,(h.o p hp).2⟩,h.n⟩
theorem Wm.add(h:Wm C x dx H G fs os){a:Addr}{o:HO}(na:G a=none)(s:Same G B)(e:B a=some o):Wm C x dx H B fs (os++[(a,o)]):=by(
have ax:a≠x:=λz=>by rw[z,h.i]at na;cases na
have w:=h.same s
refine⟨w.i,w.u,λp hp=>?_,?_⟩
·rcases gN.mp hp with hp|hp
 ·exact w.o p hp
 rw[kD.mp hp];exact⟨e,Up.free h.u ax na,ax⟩
rw[mM]
refine r6.mpr ⟨h.n,by simp,λb hb c hc=>?_⟩
obtain⟨p,hp,rfl⟩:=kP.mp hb
obtain rfl:c=a:=by simpa using hc
exact qF (h.o p hp).1 na)
theorem Wm.set(h:Wm C x dx H G fs os):Wm C x dx H (upd G x (.ins C dx fs')) fs' os:=⟨qI,λb o n e=>by rw[qC n];exact h.u b o n e,λp hp=>⟨by rw[qC (h.o p hp).2.2];exact(h.o p hp).1,(h.o p hp).2⟩,h.n⟩
theorem Wm.fr(h:Wm C x dx H G fs os)(a:Addr)(ha:a∈os.map (·.1)):H a=none:=by obtain⟨p,hp,rfl⟩:=kP.mp ha;exact(h.o p hp).2.1
theorem Wm.put(h:Wm C x dx H G fs os)(f:Str)(v:V):Wm C x dx H (upd G x (.ins C dx (putF f v fs))) (putF f v fs) os:=h.set
end
inductive spMk(t:Adr)(vs:List V)(H:Hp)(Q:VK)(E:XK):Prop
|mk:∀x dx,∀b p m:Int,vs=[.ref x,.int b,.int p,.int m,.non]→H x=some (.ins t.C_Chip dx [])→2≤b→b≤16→1≤p→p≤16→0≤m→m≤1000000→(∀a H',ChipAt t.C_Chip H' x a (CM.new b p m [])→(∀b∈[a.li,a.bo,a.cl,a.dc,a.br,a.rc],H b=none)→Up x H H'→Q .non H')→spMk t vs H Q E
theorem q95(T:Txt K mg t)(S:Fns K t):FnOk P w K mg base (CX0) 4 t.f_Chip_init S.i3 ["self","blocks","pages","most","ills"] (spMk t):=by(
refine S.aDW.ok0 q90 λcdv A _ s H vs Q E hr h=>?_
obtain⟨x,dx,b,p,m,rfl,hx,b1,b2,p1,p2,m1,m2,q⟩:=h
refine⟨_,(qB (jC (uG (yM (qX (q57 T S).mono hr rfl T.aB3 T.aB4 S.aBT.b .nil qK (qA (pv 1) (qA (pv 2) qE))))) (qD jH) qS) (qB (jC (uG (yM (qX (jL T S).mono hr rfl T.fL T.fK S.fT.b .nil qK (qA (pv 3) (qA qG (qA (vJ rfl T.aAF ⟨_,rfl⟩ (v:=.int 1000000)) qE)))))) (qD jH) qS) (qB (jO (pv 0) (pv 1) rfl) (qB (jO (pv 0) (pv 2) rfl) (qB (jO (pv 0) (pv 3) rfl) (qB (jO (pv 0) (qX (q94 T S).mono hr rfl T.aDA T.aDH S.aCG.b .nil qK (qA (qDO (qM q38 (pv 4) yC (qP _)) (jU qE) (pv 4)) (qA (pv 1) qE))) rfl) (qB (jO (pv 0) (qQ zV (jU (qA yC qE)) (qQ uY (pv 1) (pv 2))) rfl) (qB (jO (pv 0) (qQ zV (jU (qA qG qE)) (pv 1)) rfl) (qB (jO (pv 0) (qQ zV (jU (qA qG qE)) (pv 1)) rfl) (qB (jO (pv 0) (qQ zV (jU (qA q7P qE)) (pv 1)) rfl) (qB (jO (pv 0) yC rfl) (qD (jO (pv 0) (jU qE) rfl))))))))))))),?_⟩
try dsimp-beta-proj-iota-zeta-eta only[wishK,cxK]
refine⟨_,rfl,_,rfl,.int b,.int p,rfl,.int b,.int p,_,rfl,?_⟩
rw[inBi b1 b2,inBi p1 p2]
refine iteF ?_
refine⟨_,rfl,.int m,_,_,rfl,.int m,_,rfl,?_⟩
rw[inBi m1 m2]
refine iteF ?_
have bp:b*p≤256:=bW b2 p2 (by lia) (by decide)
have bp0:0≤b*p:=xK (by lia) (by lia)
refine⟨_,rfl,_,rfl,x,_,dx,_,rfl,hx,T.fD,T.iC,by simp,?_⟩
have w1:Wm t.C_Chip x dx H (upd H x (.ins t.C_Chip dx (putF "blocks" (.int b) []))) (putF "blocks" (.int b) []) []:=⟨qI,Up.of (Same.refl H),by simp,by simp⟩
refine⟨_,rfl,_,rfl,x,_,dx,_,rfl,w1.i,T.fD,T.fW,by show 1<1000;decide,?_⟩
have w2:=w1.put "pages" (.int p)
refine⟨_,rfl,_,rfl,x,_,dx,_,rfl,w2.i,T.fD,T.aBN,by show 2<1000;decide,?_⟩
have w3:=w2.put "most" (.int m)
refine⟨_,rfl,rfl,_,rfl,iteT ⟨sz0,λl0 H2 n0 s0 e0=>?_⟩⟩
refine⟨_,rfl,l0,b,rfl,SqL.of e0,λli H3 n1 s1 e1=>?_⟩
have w4:=(w3.same s0).add n1 s1 e1
refine⟨_,rfl,x,_,dx,_,rfl,w4.i,T.fD,T.aAL,by show 3<1000;decide,?_⟩
have w4:=w4.put "limits" (.ref li)
refine⟨sz1,λwa A1 n1 s1 e1=>⟨_,rfl,_,rfl,iI ⟨.inl ⟨by lia,by lia⟩,wa,_,_,rfl,rfl,e1,by lia,by lia,λbo B1 m1 r1 hbo=>?_⟩⟩⟩
have w5:=(w4.same s1).add m1 r1 hbo
refine⟨_,rfl,x,_,dx,_,rfl,w5.i,T.fD,T.iQ,by show 4<1000;decide,?_⟩
have w5:=w5.put "borne" (.ref bo)
refine⟨sz1,λwa A2 n2 s2 e2=>⟨_,rfl,wa,_,_,rfl,rfl,e2,by lia,by lia,λcl B2 m2 r2 hcl=>?_⟩⟩
have w6:=(w5.same s2).add m2 r2 hcl
refine⟨_,rfl,x,_,dx,_,rfl,w6.i,T.fD,T.f8,by show 5<1000;decide,?_⟩
have w6:=w6.put "clearings" (.ref cl)
refine⟨sz1,λwa A3 n3 s3 e3=>⟨_,rfl,wa,_,_,rfl,rfl,e3,by lia,by lia,λdc B3 m3 r3 hdc=>?_⟩⟩
have w7:=(w6.same s3).add m3 r3 hdc
refine⟨_,rfl,x,_,dx,_,rfl,w7.i,T.fD,T.oM,by show 6<1000;decide,?_⟩
have w7:=w7.put "deed_counts" (.ref dc)
refine⟨sz1,λwa A4 n4 s4 e4=>⟨_,rfl,wa,_,_,rfl,rfl,e4,by lia,by lia,λbr B4 m4 r4 hbr=>?_⟩⟩
have w8:=(w7.same s4).add m4 r4 hbr
refine⟨_,rfl,x,_,dx,_,rfl,w8.i,T.fD,T.oY,by show 7<1000;decide,?_⟩
have w8:=w8.put "broken" (.ref br)
refine⟨_,rfl,x,_,dx,_,rfl,w8.i,T.fD,T.fQ,by show 8<1000;decide,?_⟩
have w9:=w8.put "deeds_left" .non
refine⟨sz0,λrc B5 m5 r5 hrc=>?_⟩
have w:=w9.add m5 r5 hrc
refine⟨_,rfl,x,_,dx,_,rfl,w.i,T.fD,T.oX,by show 9<1000;decide,?_⟩
have w:=w.set (fs':=chF ⟨dx,li,bo,cl,dc,br,rc⟩ (CM.new b p m []))
refine q ⟨dx,li,bo,cl,dc,br,rc⟩ _ ⟨w.i,(w.o (li,.dK []) (by simp)).1,(w.o (bo,.lst (List.replicate (b*p).toNat .non)) (by simp)).1,?_,?_,?_,⟨[],(w.o (rc,.lst []) (by simp)).1,.nil⟩,(gD.mp (show(li::[bo,cl,dc,br,rc]).Nodup from w.n)).2⟩ (λb' hb'=>w.fr b' hb') w.u
·show _=some (HO.lst ((List.replicate b.toNat (0:Int)).map V.int));rw[wY];exact(w.o (cl,.lst (List.replicate b.toNat (.int 0))) (by simp)).1
·show _=some (HO.lst ((List.replicate b.toNat (0:Int)).map V.int));rw[wY];exact(w.o (dc,.lst (List.replicate b.toNat (.int 0))) (by simp)).1
show _=some (HO.lst ((List.replicate b.toNat false).map V.bl))
rw[wY]
exact(w.o (br,.lst (List.replicate b.toNat (.bl false))) (by simp)).1)
theorem jS(T:Txt K mg t)(S:Fns K t):S.fR.Ok0 P w mg base 1 (qJT K):=by(
refine S.fR.F.ok0 q6T λcdv A _ s H vs Q E hr h=>?_
obtain⟨a,ns,k,rfl,hS,h0,q⟩:=h
refine⟨_,(qB (jC (qM q1O (pv 1) (jA jB (by rfl) T.aAS gX (qA (pv 0) qE)) (qP _)) (qD (qL (qW qZ (pv 0) (pv 1) (λ_ _=>rfl)))) qS) (qD (qL qG))),?_⟩
try dsimp-beta-proj-iota-zeta-eta only[wishK,cxK]
refine⟨_,rfl,_,rfl,a,_,rfl,.inl hS,_,_,rfl,rfl,_,rfl,?_⟩
rw[hG]
by_cases h1:k<(ns.length:Int)
·rw[hC h1];refine iteT ?_;exact⟨_,rfl,_,rfl,a,_,k,_,rfl,rfl,hS,qD9 h0 h1,q⟩
rw[hU h1]
refine iteF ?_
have e:=qB0 h0 h1
rw[e]at q
exact q)
theorem qLO{H:Hp}{bl pg mo:Int}{Q:Addr→Hp→Prop}{E:XK}(b1:2≤bl)(b2:bl≤16)(p1:1≤pg)(p2:pg≤16)(m1:0≤mo)(m2:mo≤1000000)
 (q:∀x a H',ChipAt t.C_Chip H' x a (CM.new bl pg mo [])→Same H H'→(∀b∈a.li::foot x a,H b=none)→Q x H') (x dx:Addr) (nx:H x=none) (ndx:H dx=none) (ne:dx≠x):
 spMk t [.ref x,.int bl,.int pg,.int mo,.non] (upd (upd H dx (.own x)) x (.ins t.C_Chip dx [])) (λv H2=>v=.non∧Q x H2) E:=by(
have s0:Same H (upd (upd H dx (.own x)) x (.ins t.C_Chip dx [])):=λb o e=>by rw[qC (qF e nx),qC (qF e ndx)];exact e
refine⟨x,dx,bl,pg,mo,rfl,qI,b1,b2,p1,p2,m1,m2,λa H' hc fr u=>⟨rfl,q x a H' hc (λb o e=>u b o (qF e nx) (s0 b o e)) λb hb=>?_⟩⟩
have hb:b=x∨b∈[a.li,a.bo,a.cl,a.dc,a.br,a.rc]:=by simp[foot]at hb ⊢;rcases hb with rfl|rfl|rfl|rfl|rfl|rfl|rfl<;>simp
rcases hb with rfl|hb
·exact nx
exact s0.free (fr _ hb))
theorem q96(T:Txt K mg t)(S:Fns K t):S.aCA.Ok0 P w mg base 1 qC0:=by(
refine S.aCA.F.ok0 q92 λcdv A _ s H vs Q E hr h=>?_
obtain⟨x,rfl,kn,k⟩:=h
refine⟨_,(qD (qL (zI (jA uZ (by rfl) T.i5 (by kernel_rfl) (qA (pv 0) (qA (q3Q rfl T.aE4 (by kernel_rfl) rfl (v:=.ty "int")) qE))) (zH (qAP (jA uZ (by rfl) T.i5 (by kernel_rfl) (qA (pv 0) (qA (q3Q rfl T.aEV (by kernel_rfl) rfl (v:=.ty "bool")) qE)))))))),?_⟩
try dsimp-beta-proj-iota-zeta-eta only[wishK,cxK]
obtain⟨ty,q,e1,e2,_⟩:=kn.ty (K:=K)
refine⟨_,rfl,x,_,_,ty,_,rfl,rfl,.inl q,e1,_,rfl,?_⟩
have z:=qEE x
cases qi:isI x with
|true=>rw[qi,kL rfl]at z;refine iteT ?_;refine⟨_,rfl,x,_,_,ty,_,rfl,rfl,.inl q,e2,_,rfl,?_⟩;rw[z];exact k
|false=>rw[qi]at z;refine iteF ?_;have z':false=isW x:=z;rw[z'];exact k)
inductive spClo(t:Adr)(vs:List V)(H:Hp)(Q:VK)(E:XK):Prop
|mk:∀x dx fs b e,vs=[.ref x]→H x=some (.ins t.C_Terms dx fs)→fs.lookup (Str.ofString "blocks")=some (.int b)→fs.lookup (Str.ofString "ill")=some (.int e)→Q (.int (b-1-e)) H→spClo t vs H Q E
theorem q5H(T:Txt K mg t)(S:Fns K t):S.t7.Ok0 P w mg base 1 (spClo t):=by(
refine S.t7.F.ok0 q5F λcdv A _ s H vs Q E hr h=>?_
obtain⟨x,dx,fs,b,e,rfl,hx,l1,l2,q⟩:=h
refine⟨_,(qD (qL (qQ vE (qQ vE (qJ (pv 0) rfl) qG) (qJ (pv 0) rfl)))),?_⟩
try dsimp-beta-proj-iota-zeta-eta only[wishK,cxK]
exact(iV rfl (iF hx T.fH T.iO l1 (iI (iV rfl (iF hx T.fH T.aAE l2 (iI q)))))))
noncomputable def teF(r0 r1 r2 r3 r4 r5:V):List (Str×V):=[("blocks",r0),("pages",r1),("sheets",r2),("share",r3),("ill",r4),("spread",r5)]
inductive spTm(t:Adr)(vs:List V)(H:Hp)(Q:VK)(E:XK):Prop
|mk:∀x dx,∀b p s r e d:Int,vs=[.ref x,.int b,.int p,.int s,.int r,.int e,.int d]→H x=some (.ins t.C_Terms dx [])→2≤b→b≤16→1≤p→p≤16→1≤s→s≤64→1≤r→r≤(b-1-e)*p-2→0≤e→e≤b-2→1≤d→d≤1000000→(∀H',H' x=some (.ins t.C_Terms dx (teF (.int b) (.int p) (.int s) (.int r) (.int e) (.int d)))→Up x H H'→Q .non H')→spTm t vs H Q E
theorem q7G(T:Txt K mg t)(S:Fns K t):FnOk P w K mg base (CX0) 4 t.f_Terms_init S.iP ["self","blocks","pages","sheets","share","ill","spread"] (spTm t):=by(
refine S.aDM.ok0 q7F λcdv A _ s H vs Q E hr h=>?_
obtain⟨x,dx,b,p,s',r,e,d,rfl,hx,b1,b2,p1,p2,s1,s2,r1,r2,e1,e2,d1,d2,q⟩:=h
refine⟨_,(qB (jC (uG (yM (qX (q57 T S).mono hr rfl T.aB3 T.aB4 S.aBT.b .nil qK (qA (pv 1) (qA (pv 2) qE))))) (qD jH) qS) (qB (jC (uG (yM (qX (jL T S).mono hr rfl T.fL T.fK S.fT.b .nil qK (qA (pv 3) (qA qG (qA qG qE)))))) (qD jH) qS) (qB (jC (uG (yM (qX (jL T S).mono hr rfl T.fL T.fK S.fT.b .nil qK (qA (pv 5) (qA qG (qA (qQ vE (pv 1) qG) qE)))))) (qD jH) qS) (qB (jC (uG (yM (qX (jL T S).mono hr rfl T.fL T.fK S.fT.b .nil qK (qA (pv 6) (qA qG (qA (vJ rfl T.aAF ⟨_,rfl⟩ (v:=.int 1000000)) qE)))))) (qD jH) qS) (qB (jO (pv 0) (pv 1) rfl) (qB (jO (pv 0) (pv 2) rfl) (qB (jO (pv 0) (pv 3) rfl) (qB (jO (pv 0) (pv 4) rfl) (qB (jO (pv 0) (pv 5) rfl) (qB (jO (pv 0) (pv 6) rfl) (qD (jC (uG (yM (qX (jL T S).mono hr rfl T.fL T.fK S.fT.b .nil qK (qA (pv 4) (qA qG (qA (qQ vE (qQ uY (j0 (pv 0) T.fH T.aCN (q5H T S).mono hr S.t7.b .nil qK) (pv 2)) qG) qE)))))) (qD jH) qS)))))))))))),?_⟩
try dsimp-beta-proj-iota-zeta-eta only[wishK,cxK]
refine⟨_,rfl,_,rfl,.int b,.int p,rfl,.int b,.int p,_,rfl,?_⟩
rw[inBi b1 b2,inBi p1 p2]
refine iteF ⟨_,rfl,.int s',_,_,rfl,.int s',_,rfl,?_⟩
rw[inBi s1 s2]
refine iteF ⟨_,rfl,_,rfl,iI ⟨.int e,_,_,rfl,.int e,_,rfl,?_⟩⟩
rw[inBi e1 e2]
refine iteF ⟨_,rfl,.int d,_,_,rfl,.int d,_,rfl,?_⟩
rw[inBi d1 d2]
refine iteF ⟨_,rfl,_,rfl,x,_,dx,_,rfl,hx,T.fH,T.iO,by simp,?_⟩
have w1:Wm t.C_Terms x dx H (upd H x (.ins t.C_Terms dx (putF "blocks" (.int b) []))) (putF "blocks" (.int b) []) []:=⟨qI,Up.of (Same.refl H),by simp,by simp⟩
refine⟨_,rfl,_,rfl,x,_,dx,_,rfl,w1.i,T.fH,T.fI,by show 1<1000;decide,?_⟩
have w2:=w1.put "pages" (.int p)
refine⟨_,rfl,_,rfl,x,_,dx,_,rfl,w2.i,T.fH,T.t6,by show 2<1000;decide,?_⟩
have w3:=w2.put "sheets" (.int s')
refine⟨_,rfl,_,rfl,x,_,dx,_,rfl,w3.i,T.fH,T.aAN,by show 3<1000;decide,?_⟩
have w4:=w3.put "share" (.int r)
refine⟨_,rfl,_,rfl,x,_,dx,_,rfl,w4.i,T.fH,T.aAE,by show 4<1000;decide,?_⟩
have w5:=w4.put "ill" (.int e)
refine⟨_,rfl,_,rfl,x,_,dx,_,rfl,w5.i,T.fH,T.aAD,by show 5<1000;decide,?_⟩
have w:=w5.put "spread" (.int d)
refine⟨_,rfl,_,rfl,x,dx,_,rfl,w.i,rfl,x,dx,_,b,e,rfl,w.i,rfl,rfl,_,rfl,iI ⟨.inr ⟨by lia,by lia⟩,iI ⟨.int r,_,_,rfl,.int r,_,rfl,?_⟩⟩⟩
rw[inBi r1 r2]
exact iteF (q _ w.i w.u))
theorem qLP{H:Hp}{b p s r e d:Int}{Q:Addr→Hp→Prop}{E:XK}(b1:2≤b)(b2:b≤16)(p1:1≤p)(p2:p≤16)(s1:1≤s)(s2:s≤64)(r1:1≤r)(r2:r≤(b-1-e)*p-2)(e1:0≤e)(e2:e≤b-2)(d1:1≤d)(d2:d≤1000000)
 (q:∀x dx H',Same H H'→H' x=some (.ins t.C_Terms dx (teF (.int b) (.int p) (.int s) (.int r) (.int e) (.int d)))→Q x H') (x dx:Addr) (nx:H x=none) (ndx:H dx=none) (ne:dx≠x):
 spTm t [.ref x,.int b,.int p,.int s,.int r,.int e,.int d] (upd (upd H dx (.own x)) x (.ins t.C_Terms dx [])) (λv H2=>v=.non∧Q x H2) E:=by
 have s0:Same H (upd (upd H dx (.own x)) x (.ins t.C_Terms dx [])):=λb o e=>by rw[qC (qF e nx),qC (qF e ndx)];exact e
 exact⟨x,dx,b,p,s,r,e,d,rfl,qI,b1,b2,p1,p2,s1,s2,r1,r2,e1,e2,d1,d2,λH' h u=>⟨rfl,q x dx H' (λb o e=>u b o (qF e nx) (s0 b o e)) h⟩⟩
inductive spMkO(vs:List V)(H:Hp)(Q:VK)(E_:XK):Prop
|mk:∀s n,vs=[.int s,.int n]→Q (.int (s*128+n)) H→spMkO vs H Q E_
theorem qBJ(T:Txt K mg t)(S:Fns K t):S.aD0.Ok0 P w mg base 1 spMkO:=by(
refine S.aD0.F.ok0 qBI λcdv A _ s H vs Q E hr h=>?_
obtain⟨s',n,rfl,q⟩:=h
refine⟨_,(qD (qL (qQ u8 (qQ uY (pv 0) (vJ rfl T.aEU ⟨_,rfl⟩ (v:=.int 128))) (pv 1)))),?_⟩
try dsimp-beta-proj-iota-zeta-eta only[wishK,cxK]
exact⟨_,rfl,iI ⟨.inr ⟨by decide,by decide⟩,_,rfl,iI q⟩⟩)
structure BkA where
bk:Addr
dx:Addr
wv:Addr
lv:Addr
fi:Addr
bo:Addr
structure BkAt(t:Adr)(H:Hp)(a:BkA)(m:QM):Prop where
o:H a.bk=some (.ins t.C_Book a.dx [("blocks",.int (m.B:Int)),("pages",.int (m.P:Int)),("stamp",.int m.nx),("where",.ref a.wv),("live",.ref a.lv),("filled",.ref a.fi),("born",.ref a.bo)])
w:H a.wv=some (.dK (dI m.V))
l:H a.lv=some (.lst (m.lv.map V.int))
f:H a.fi=some (.lst (m.fi.map V.int))
b:H a.bo=some (.lst (m.bo.map V.int))
structure Dst(a:BkA):Prop where
lf:a.lv≠a.fi
lb:a.lv≠a.bo
fb:a.fi≠a.bo
theorem BkAt.same{t:Adr}{H H':Hp}{a:BkA}{m:QM}(h:BkAt t H a m)(s:Same H H'):BkAt t H' a m:=⟨s _ _ h.o,s _ _ h.w,s _ _ h.l,s _ _ h.f,s _ _ h.b⟩
theorem BkAt.keep{t:Adr}{H H':Hp}{a:BkA}{m:QM}{F:List Addr}(h:BkAt t H a m)(k:Keep F H H')(n:∀b∈[a.bk,a.wv,a.lv,a.fi,a.bo],b∉F):BkAt t H' a m:=⟨k.k _ _ (n _ (by simp)) h.o,k.k _ _ (n _ (by simp)) h.w,k.k _ _ (n _ (by simp)) h.l,k.k _ _ (n _ (by simp)) h.f,k.k _ _ (n _ (by simp)) h.b⟩
noncomputable def bk0(B P:Nat):QM:=⟨P,B,1,[],List.replicate B 0,List.replicate B 0,List.replicate B 0⟩
inductive spBkI(t:Adr)(vs:List V)(H:Hp)(Q:VK)(E_:XK):Prop
|mk:∀x dx B P,vs=[.ref x,.int (B:Nat),.int (P:Nat)]→B≤16→H x=some (.ins t.C_Book dx [])→(∀(a:BkA) H',a.bk=x→a.dx=dx→BkAt t H' a (bk0 B P)→Dst a→(∀b∈[a.wv,a.lv,a.fi,a.bo],H b=none)→(∀b o,b≠x→H b=some o→H' b=some o)→Q .non H')→spBkI t vs H Q E_
theorem q97(T:Txt K mg t)(S:Fns K t):S.aB5.Ok0 P w mg base 1 (spBkI t):=by(
refine S.aB5.F.ok0 q8W λcdv A _ s H vs Q E hr h=>?_
obtain⟨x,dx,B,P,rfl,hB,hx,q⟩:=h
refine⟨_,(qB (jO (pv 0) (pv 1) rfl) (qB (jO (pv 0) (pv 2) rfl) (qB (jO (pv 0) qG rfl) (qB (jO (pv 0) q3V rfl) (qB (jO (pv 0) (qQ zV (jU (qA qG qE)) (pv 1)) rfl) (qB (jO (pv 0) (qQ zV (jU (qA qG qE)) (pv 1)) rfl) (qD (jO (pv 0) (qQ zV (jU (qA qG qE)) (pv 1)) rfl)))))))),?_⟩
try dsimp-beta-proj-iota-zeta-eta only[wishK,cxK]
refine⟨_,rfl,_,rfl,x,_,dx,_,rfl,hx,T.fE,T.aCJ,by decide,?_⟩
refine⟨_,rfl,_,rfl,x,_,dx,_,rfl,qI,T.fE,T.oA,by show 1<1000;decide,?_⟩
refine⟨_,rfl,x,_,dx,_,rfl,qI,T.fE,T.iJ,by show 2<1000;decide,?_⟩
rw[q8E,q8E]
have w1:Wm t.C_Book x dx H (upd H x (.ins t.C_Book dx (putF "stamp" (.int 1) (putF "pages" (.int (P:Int)) (putF "blocks" (.int (B:Int)) []))))) (putF "stamp" (.int 1) (putF "pages" (.int (P:Int)) (putF "blocks" (.int (B:Int)) []))) []:=⟨qI,Up.of (Same.refl H),by simp,by simp⟩
have rep:∀n:Nat,List.replicate n (V.int 0)=(List.replicate n (0:Int)).map V.int:=λn=>by rw[wY]
have eB:((B:Int)).toNat=B:=by lia
refine λwv nwv=>?_
have w2:=w1.add nwv (Same.upd (o:=.dK []) nwv) qI
refine⟨_,rfl,x,_,dx,_,rfl,w2.i,T.fE,T.fZ,by show 3<1000;decide,?_⟩
have w2:=w2.put "where" (.ref wv)
refine⟨sz1,λwa A3 n3 s3 e3=>⟨_,rfl,wa,_,_,rfl,rfl,e3,by lia,by lia,λlv B3 m3 r3 hlv=>?_⟩⟩
rw[eB,rep]at hlv
have w3:=(w2.same s3).add m3 r3 hlv
refine⟨_,rfl,x,_,dx,_,rfl,w3.i,T.fE,T.oR,by show 4<1000;decide,?_⟩
have w3:=w3.put "live" (.ref lv)
refine⟨sz1,λwa A4 n4 s4 e4=>⟨_,rfl,wa,_,_,rfl,rfl,e4,by lia,by lia,λfi B4 m4 r4 hfi=>?_⟩⟩
rw[eB,rep]at hfi
have w4:=(w3.same s4).add m4 r4 hfi
refine⟨_,rfl,x,_,dx,_,rfl,w4.i,T.fE,T.fM,by show 5<1000;decide,?_⟩
have w4:=w4.put "filled" (.ref fi)
refine⟨sz1,λwa A5 n5 s5 e5=>⟨_,rfl,wa,_,_,rfl,rfl,e5,by lia,by lia,λbo B5 m5 r5 hbo=>?_⟩⟩
rw[eB,rep]at hbo
have w5:=(w4.same s5).add m5 r5 hbo
refine⟨_,rfl,x,_,dx,_,rfl,w5.i,T.fE,T.oO,by show 6<1000;decide,?_⟩
have w5:=w5.put "born" (.ref bo)
have nd:[wv,lv,fi,bo].Nodup:=w5.n
simp only[gD,kN,dA,not_or,cY]at nd
exact q ⟨x,dx,wv,lv,fi,bo⟩ _ rfl rfl ⟨w5.i,(w5.o (wv,.dK []) (by simp)).1,(w5.o (lv,.lst ((List.replicate B (0:Int)).map V.int)) (by simp)).1,(w5.o (fi,.lst ((List.replicate B (0:Int)).map V.int)) (by simp)).1,(w5.o (bo,.lst ((List.replicate B (0:Int)).map V.int)) (by simp)).1⟩ ⟨nd.2.1.1,nd.2.1.2,nd.2.2.1⟩ (λb' hb'=>w5.fr b' hb') w5.u)
inductive spMark(t:Adr)(vs:List V)(H:Hp)(Q:VK)(E_:XK):Prop
|mk:∀a,∀m:QM,∀n,vs=[.ref a.bk,.int n]→BkAt t H a m→Q (.int (m.nx*128+n)) H→spMark t vs H Q E_
theorem q98(T:Txt K mg t)(S:Fns K t):S.aB9.Ok0 P w mg base 2 (spMark t):=by(
refine S.aB9.F.ok0 q8X λcdv A _ s H vs Q E hr h=>?_
obtain⟨a,m,n,rfl,hb,q⟩:=h
refine⟨_,(qD (qL (qX (qBJ T S).mono hr rfl T.aEF T.aED S.aD0.b .nil qK (qA (qJ (pv 0) rfl) (qA (pv 1) qE))))),?_⟩
try dsimp-beta-proj-iota-zeta-eta only[wishK,cxK]
exact(iV rfl (iF hb.o T.fE T.iJ rfl ⟨_,rfl,_,_,rfl,q⟩)))
inductive spFg(t:Adr)(vs:List V)(H:Hp)(Q:VK)(E_:XK):Prop
|mk:∀a,∀m:QM,∀n,vs=[.ref a.bk,.int n]→BkAt t H a m→m.Ok→Dst a→(∀H',BkAt t H' a (m.forget n)→Keep [a.wv,a.lv] H H'→Q .non H')→spFg t vs H Q E_
theorem q2H(T:Txt K mg t)(S:Fns K t):S.tP.Ok0 P w mg base 1 (spFg t):=by(
refine S.tP.F.ok0 q2A λcdv A _ s H vs Q E hr h=>?_
obtain⟨a,m,n,rfl,hb,ok,ds,q⟩:=h
have hu:=q32 hr
have p1:=ok.p1
have p2:=ok.p2
have ob:a.bk≠a.wv:=jZ hb.o hb.w (by intro z;cases z)
have ol:a.bk≠a.lv:=jZ hb.o hb.l (by intro z;cases z)
have wl:a.wv≠a.lv:=jZ hb.w hb.l (by intro z;cases z)
have wf:a.fi≠a.wv:=jZ hb.f hb.w (by intro z;cases z)
have wb:a.bo≠a.wv:=jZ hb.b hb.w (by intro z;cases z)
refine⟨_,(qD (jC (qDN (qAY hu (pv 1) (qJ (pv 0) rfl))) (qB (qV (i:=2) q2A.nd rfl (Or.inl rfl) (qEC (qJ (pv 0) rfl) (pv 1) ⟨rfl,rfl,rfl,rfl⟩)) (qD (q3S (qJ (pv 0) rfl) (qQ uD (pv 2) (qJ (pv 0) rfl)) q1R qG qIX uA))) qS)),?_⟩
try dsimp-beta-proj-iota-zeta-eta only[wishK,cxK]
refine⟨_,rfl,iV rfl (iF hb.o T.fE T.fZ rfl ⟨a.wv,_,rfl,DGet.k (k:=Sum.inl n) hb.w,_,rfl,?_⟩)⟩
rcases QM.find_V (m:=m) (n:=n)with⟨p,hp,ef⟩|⟨hn,ef⟩
·have hv:(n,p)∈m.V:=hp;rw[q42 ok.nd hv];refine iteT ?_;refine(iV rfl (iF hb.o T.fE T.fZ rfl ⟨a.wv,rfl,.inl ⟨_,.inl hb.w⟩,_,rfl,_,Sum.inl n,_,hb.w,rfl,q42 ok.nd hv,?_⟩));rw[qA3];have k1:Keep [a.wv,a.lv] H (upd H a.wv (.dK (dI (jN m.V n)))):=Keep.upd hb.w (λ_ z=>by cases z) (by simp);have w1:(upd H a.wv (.dK (dI (jN m.V n)))) a.wv=some (.dK (dI (jN m.V n))):=qI;have u1:∀b o,b≠a.wv→H b=some o→(upd H a.wv (.dK (dI (jN m.V n)))) b=some o:=λb o nb e=>by rw[qC nb];exact e
 generalize upd H a.wv (.dK (dI (jN m.V n)))=H1 at k1 w1 u1 ⊢;obtain⟨c,hc,ec⟩:=ok.blk _ hp;have ec:p / (m.P:Int)=(c:Int):=ec;have hcl:c<m.lv.length:=by rw[ok.ll];exact hc
 have l1:=u1 _ _ wl.symm hb.l;refine(iV rfl (iF (u1 _ _ ob hb.o) T.fE T.oR rfl ⟨_,rfl,iV rfl (iF (u1 _ _ ob hb.o) T.fE T.oA rfl (iI ⟨⟨by lia,by lia⟩,iL (k:=_) (v:=_) (SqL.of l1) (by rw[ec];exact atV hcl) (iI ⟨a.lv,_,_,c,rfl,rfl,l1,(by rw[ec];exact q3A (by rw[hG];exact hcl)),?_⟩)⟩))⟩));rw[setV];have el:(m.forget n).lv=m.lv.set c (m.lv.getD c 0-1):=by show BM.lvF m.P m.V m.lv n=_;unfold BM.lvF;rw[ef];show m.lv.set (p / (m.P:Int)).toNat (m.lv.getD (p / (m.P:Int)).toNat 0-1)=_;rw[ec,show((c:Int)).toNat=c by lia]
 refine q _ ⟨?_,?_,?_,?_,?_⟩ (k1.trans (Keep.upd l1 (λ_ z=>by cases z) (by simp)))
 ·rw[qC ol];exact u1 _ _ ob hb.o
 ·rw[qC wl];exact w1
 ·rw[el];exact qI
 ·rw[qC ds.lf.symm];exact u1 _ _ wf hb.f
 rw[qC ds.lb.symm];exact u1 _ _ wb hb.b
rw[q10 (λz=>by obtain⟨r,hr',e⟩:=kP.mp z;exact hn r hr' e)]
refine iteF ?_
have el:(m.forget n).lv=m.lv:=by show BM.lvF m.P m.V m.lv n=_;unfold BM.lvF;rw[ef]
have eV:(m.forget n).V=m.V:=qH2 λr hr'=>hn r hr'
exact q H ⟨hb.o,by rw[eV];exact hb.w,by rw[el];exact hb.l,hb.f,hb.b⟩ Keep.refl)
theorem q6V{V:Mp}:(dI V).length=V.length:=by unfold dI;rw[hG]
inductive spNt(t:Adr)(vs:List V)(H:Hp)(Q:VK)(E_:XK):Prop
|mk:∀a,∀m:QM,∀b f n,vs=[.ref a.bk,.int ((b*m.P+f:Nat):Int),.int n]→BkAt t H a m→m.Ok→Dst a→b<m.B→f<m.P→m.fi.getD b 0=(f:Int)→(∀H',BkAt t H' a (m.put b f n)→Keep [a.bk,a.wv,a.lv,a.fi,a.bo] H H'→Q .non H')→spNt t vs H Q E_
theorem q99(T:Txt K mg t)(S:Fns K t):S.aB0.Ok0 P w mg base 2 (spNt t):=by(
refine S.aB0.F.ok0 q46 λcdv A _ s H vs Q E hr h=>?_
obtain⟨a,m,b,f,n,rfl,hb,ok,ds,hB,hf,ef,q⟩:=h
have hu:=q32 hr
have p1:=ok.p1
have p2:=ok.p2
have ob:a.bk≠a.wv:=jZ hb.o hb.w (by intro z;cases z)
have ol:a.bk≠a.lv:=jZ hb.o hb.l (by intro z;cases z)
have of':a.bk≠a.fi:=jZ hb.o hb.f (by intro z;cases z)
have oo:a.bk≠a.bo:=jZ hb.o hb.b (by intro z;cases z)
have wl:a.wv≠a.lv:=jZ hb.w hb.l (by intro z;cases z)
have wf:a.fi≠a.wv:=jZ hb.f hb.w (by intro z;cases z)
have wb:a.bo≠a.wv:=jZ hb.b hb.w (by intro z;cases z)
have eb:((b*m.P+f:Nat):Int) / (m.P:Int)=(b:Int):=by rw[←rP,yQ hf]
refine⟨_,(qB (qV (i:=3) q46.nd rfl (Or.inl rfl) (qQ uD (pv 1) (qJ (pv 0) rfl))) (qB (j8 (jG (pv 0) T.fE T.aA3 (q2H T S).mono hr S.tP.b .nil qK (qA (pv 2) qE))) (qB (q5M hu (qJ (pv 0) rfl) (pv 2) (pv 1) rfl) (qB (q3S (qJ (pv 0) rfl) (pv 3) q1R qG q5W uA) (zW (jC (qM u9 (qW qZ (qJ (pv 0) rfl) (pv 3) (λ_ _=>rfl)) qG (qP _)) (qD (q37 (qJ (pv 0) rfl) (q4H (qJ (pv 0) rfl) (pv 3) uA))) qS) (qB (q3S (qJ (pv 0) rfl) (pv 3) q1R qG q5W uA) (qD (q7U (pv 0) qG qJ0)))))))),?_⟩
try dsimp-beta-proj-iota-zeta-eta only[wishK,cxK]
refine⟨_,rfl,iV rfl (iF hb.o T.fE T.oA rfl (iI ⟨⟨by lia,by lia⟩,?_⟩))⟩
try dsimp only
rw[eb]
refine(iV rfl (iM hb.o rfl ⟨_,rfl,a,m,n,rfl,hb,ok,ds,λH1 hb1 k1=>?_⟩))
have k1:Keep [a.bk,a.wv,a.lv,a.fi,a.bo] H H1:=k1.mono (by intro x hx;simp at hx ⊢;rcases hx with rfl|rfl<;>simp)
have lnV:(jN m.V n).length≤65:=mO (mC _ _) ok.lenV
have w0:H1 a.wv=some (.dK (dI (jN m.V n))):=hb1.w
refine⟨_,rfl,iV rfl (iF hb1.o T.fE T.fZ rfl ⟨_,rfl,a.wv,_,rfl,.inl ⟨_,Sum.inl n,w0,rfl,(by rw[q6V];exact gM (m:=65) (by lia) (by decide)),rfl⟩,?_⟩)⟩
rw[q8S,qDF]
have k2:Keep [a.bk,a.wv,a.lv,a.fi,a.bo] H1 (upd H1 a.wv (.dK (dI (jN m.V n++[(n,((b*m.P+f:Nat):Int))])))):=Keep.upd w0 (λ_ z=>by cases z) (by simp)
have w2:(upd H1 a.wv (.dK (dI (jN m.V n++[(n,((b*m.P+f:Nat):Int))])))) a.wv=some (.dK (dI (jN m.V n++[(n,((b*m.P+f:Nat):Int))]))):=qI
have u2:∀x o,x≠a.wv→H1 x=some o→(upd H1 a.wv (.dK (dI (jN m.V n++[(n,((b*m.P+f:Nat):Int))])))) x=some o:=λx o nb e=>by rw[qC nb];exact e
generalize upd H1 a.wv (.dK (dI (jN m.V n++[(n,((b*m.P+f:Nat):Int))])))=H2 at k2 w2 u2 ⊢
have o2:=u2 _ _ ob hb1.o
have l2:H2 a.lv=some (.lst ((BM.lvF m.P m.V m.lv n).map V.int)):=u2 _ _ wl.symm hb1.l
have f2:H2 a.fi=some (.lst (m.fi.map V.int)):=u2 _ _ wf hb1.f
have b2:H2 a.bo=some (.lst (m.bo.map V.int)):=u2 _ _ wb hb1.b
have hbl:b<(BM.lvF m.P m.V m.lv n).length:=by rw[show(BM.lvF m.P m.V m.lv n).length=m.B from(ok.forget n).ll];exact hB
have hbf:b<m.fi.length:=by rw[ok.lf];exact hB
have hbo:b<m.bo.length:=by rw[ok.lo];exact hB
refine(iV rfl (iF o2 T.fE T.oR rfl ⟨_,rfl,iL (k:=_) (v:=_) (SqL.of l2) (atV hbl) (iI ⟨a.lv,_,_,b,rfl,rfl,l2,q3A (by rw[hG];exact hbl),?_⟩)⟩))
rw[setV]
have k3:Keep [a.bk,a.wv,a.lv,a.fi,a.bo] H2 (upd H2 a.lv (.lst (((BM.lvF m.P m.V m.lv n).set b ((BM.lvF m.P m.V m.lv n).getD b 0+1)).map V.int))):=Keep.upd l2 (λ_ z=>by cases z) (by simp)
have l3:(upd H2 a.lv (.lst (((BM.lvF m.P m.V m.lv n).set b ((BM.lvF m.P m.V m.lv n).getD b 0+1)).map V.int))) a.lv=some (.lst (((BM.lvF m.P m.V m.lv n).set b ((BM.lvF m.P m.V m.lv n).getD b 0+1)).map V.int)):=qI
have u3:∀x o,x≠a.lv→H2 x=some o→(upd H2 a.lv (.lst (((BM.lvF m.P m.V m.lv n).set b ((BM.lvF m.P m.V m.lv n).getD b 0+1)).map V.int))) x=some o:=λx o nb e=>by rw[qC nb];exact e
generalize upd H2 a.lv (.lst (((BM.lvF m.P m.V m.lv n).set b ((BM.lvF m.P m.V m.lv n).getD b 0+1)).map V.int))=H3 at k3 l3 u3 ⊢
have o3:=u3 _ _ ol o2
have w3:=u3 _ _ wl w2
have f3:=u3 _ _ ds.lf.symm f2
have b3:=u3 _ _ ds.lb.symm b2
refine⟨λσ' H'=>σ'=[some (.ref a.bk),some (.int ((b*m.P+f:Nat):Int)),some (.int n),some (.int (b:Int))]∧Keep [a.bk,a.wv,a.lv,a.fi,a.bo] H3 H'∧H' a.bo=some (.lst ((m.put b f n).bo.map V.int))∧∀x o,x≠a.bo→H3 x=some o→H' x=some o,?_,?_⟩
·refine(iV rfl (iF o3 T.fE T.fM rfl ⟨_,rfl,iL (k:=_) (v:=_) (SqL.of f3) (atV hbf) ⟨rfl,_,rfl,?_⟩⟩));rw[yG];by_cases z:m.fi.getD b 0=0
 ·rw[hC z];refine iteT ?_;refine(iV rfl (iF o3 T.fE T.iJ rfl (iV rfl (iF o3 T.fE T.oO rfl ⟨_,rfl,a.bo,_,_,b,rfl,rfl,b3,q3A (by rw[hG];exact hbo),?_⟩))));rw[setV];refine⟨rfl,Keep.upd b3 (λ_ z=>by cases z) (by simp),?_,λx o nb e=>by rw[qC nb];exact e⟩;rw[qI];show _=some (HO.lst ((if m.fi.getD b 0=0 then m.bo.set b m.nx else m.bo).map V.int));rw[kL z];rfl
 rw[hU z];refine iteF ⟨rfl,Keep.refl,?_,λx o _ e=>e⟩;show _=some (HO.lst ((if m.fi.getD b 0=0 then m.bo.set b m.nx else m.bo).map V.int));rw[kJ z];exact b3
rintro σ' H4 ⟨rfl,k4,b4,u4⟩
have o4:=u4 _ _ oo o3
have w4:=u4 _ _ wb.symm w3
have l4:=u4 _ _ ds.lb l3
have f4:=u4 _ _ ds.fb f3
refine(iV rfl (iF o4 T.fE T.fM rfl ⟨_,rfl,iL (k:=_) (v:=_) (SqL.of f4) (atV hbf) (iI ⟨a.fi,_,_,b,rfl,rfl,f4,q3A (by rw[hG];exact hbf),?_⟩)⟩))
rw[setV]
have k5:Keep [a.bk,a.wv,a.lv,a.fi,a.bo] H4 (upd H4 a.fi (.lst ((m.fi.set b (m.fi.getD b 0+1)).map V.int))):=Keep.upd f4 (λ_ z=>by cases z) (by simp)
have f5:(upd H4 a.fi (.lst ((m.fi.set b (m.fi.getD b 0+1)).map V.int))) a.fi=some (.lst ((m.fi.set b (m.fi.getD b 0+1)).map V.int)):=qI
have u5:∀x o,x≠a.fi→H4 x=some o→(upd H4 a.fi (.lst ((m.fi.set b (m.fi.getD b 0+1)).map V.int))) x=some o:=λx o nb e=>by rw[qC nb];exact e
generalize upd H4 a.fi (.lst ((m.fi.set b (m.fi.getD b 0+1)).map V.int))=H5 at k5 f5 u5 ⊢
have o5:=u5 _ _ of' o4
refine⟨_,rfl,a.bk,_,a.dx,_,_,rfl,o5,T.fE,T.iJ,rfl,_,_,rfl,rfl,a.dx,_,o5,by show 7<1000;decide,?_⟩
refine q _ ⟨?_,?_,?_,?_,?_⟩ ((((k1.trans k2).trans k3).trans k4).trans (k5.trans (Keep.upd o5 (λ_ z=>by cases z) (by simp))))
·exact qI
·rw[qC ob.symm];exact u5 _ _ wf.symm w4
·rw[qC ol.symm];exact u5 _ _ ds.lf l4
·rw[qC of'.symm];exact f5
rw[qC oo.symm]
exact u5 _ _ ds.fb.symm b4)
noncomputable def lamE:Expr:=match((jW jX).getLast?:Option Stmt)with
|some (Stmt.Return (some (Expr.Call _ _ (k::_) _)) _)=>k.value
|_=>Expr.Name "" ⟨0,0,0,0⟩
noncomputable abbrev lamA:Arguments:=match lamE with
| .Lambda a _ _ _=>a
|_=>yI jX
noncomputable abbrev lamB:Expr:=match lamE with
| .Lambda _ b _ _=>b
|_=>lamE
noncomputable abbrev qG2:Scope:=match lamE with
| .Lambda _ _ s _=>s
|_=>qH jX
noncomputable abbrev lamP:Pos:=match lamE with
| .Lambda _ _ _ p=>p
|_=>⟨0,0,0,0⟩
noncomputable abbrev lamQ:Str:=(PyProof.Rows.envOfC "Plain.free" (qH jX) 0 0 .none).qual++"<lambda>"
noncomputable abbrev q6W(clos:List (Str×Addr))(pm ct:Value)(c:Addr):FuncData:=W.kla_fn "<lambda>" lamQ lamA lamB qG2 clos pm (.ref c) ct
noncomputable def tri(c:Addr):Array Value:=#[rawInt lamP.line,rawInt lamP.col,.ref c]
noncomputable def lbE:Expr:=match((jW qY).getLast?:Option Stmt)with
|some (Stmt.Return (some (Expr.Subscript (Expr.Call _ _ (k::_) _) _ _)) _)=>k.value
|_=>Expr.Name "" ⟨0,0,0,0⟩
noncomputable abbrev lbA:Arguments:=match lbE with
| .Lambda a _ _ _=>a
|_=>yI qY
noncomputable abbrev lbB:Expr:=match lbE with
| .Lambda _ b _ _=>b
|_=>lbE
noncomputable abbrev lbSc:Scope:=match lbE with
| .Lambda _ _ s _=>s
|_=>qH qY
noncomputable abbrev lbP:Pos:=match lbE with
| .Lambda _ _ _ p=>p
|_=>⟨0,0,0,0⟩
noncomputable abbrev lbQ:Str:=(PyProof.Rows.envOfC "Even.block_to_change" (qH qY) 0 0 .none).qual++"<lambda>"
noncomputable abbrev lbFd(pm ct:Value)(c:Addr):FuncData:=W.kla_fn "<lambda>" lbQ lbA lbB lbSc [] pm (.ref c) ct
noncomputable def triB(c:Addr):Array Value:=#[rawInt lbP.line,rawInt lbP.col,.ref c]
noncomputable def TbB(t:Adr)(H:Hp):Prop:=∃ps,H t.fA=some (.tbl ps)∧(ps=#[]∨∃c,ps=triB c∧H c=some (cdO c lbQ))
noncomputable def TbF(t:Adr)(H:Hp):Prop:=∃ps,H t.e9=some (.tbl ps)∧(ps=#[]∨∃c,ps=tri c∧H c=some (cdO c lamQ))∧TbB t H
noncomputable def Tex(o:HO):Prop:=(∃ps,o=.tbl ps)∨∃p,o=.ext p
theorem TbB.gen{t:Adr}{H H':Hp}(h:TbB t H)(k:∀b o,Tex o→H b=some o→H' b=some o):TbB t H':=by(
obtain⟨ps,hT,h⟩:=h
refine⟨ps,k _ _ (.inl ⟨_,rfl⟩) hT,?_⟩
rcases h with h|⟨c,h,a⟩
·exact .inl h
exact .inr ⟨c,h,k _ _ (.inr ⟨_,rfl⟩) a⟩)
theorem TbF.gen{t:Adr}{H H':Hp}(h:TbF t H)(k:∀b o,Tex o→H b=some o→H' b=some o):TbF t H':=by(
obtain⟨ps,hT,h,hB⟩:=h
refine⟨ps,k _ _ (.inl ⟨_,rfl⟩) hT,?_,hB.gen k⟩
rcases h with h|⟨c,h,a⟩
·exact .inl h
exact .inr ⟨c,h,k _ _ (.inr ⟨_,rfl⟩) a⟩)
theorem TbF.same{t:Adr}{H H':Hp}(s:Same H H')(h:TbF t H):TbF t H':=h.gen λ_ _ _ e=>s _ _ e
theorem yZ{H:Hp}{b c:Addr}{o o':HO}(x:Tex o)(e:H b=some o)(e':H c=some o')(n:¬Tex o'):b≠c:=λz=>by rw[z,e']at e;exact n (by rw[kZ e];exact x)
theorem q2V{C d:Addr}{fs:List (Str×V)}:¬Tex (.ins C d fs):=λz=>by rcases z with⟨_,z⟩|⟨_,z⟩<;>cases z
theorem zF{xs:List V}:¬Tex (.lst xs):=λz=>by rcases z with⟨_,z⟩|⟨_,z⟩<;>cases z
theorem qKK{xs:List (Key×V)}:¬Tex (.dK xs):=λz=>by rcases z with⟨_,z⟩|⟨_,z⟩<;>cases z
structure Sto where
s:Addr
sd:Addr
tm:Addr
td:Addr
c:Addr
a:CA
k:BkA
ru:V
pa:V
noncomputable def bf(k:BkA):List Addr:=[k.bk,k.wv,k.lv,k.fi,k.bo]
noncomputable def sf(x:Sto):List Addr:=foot x.c x.a++bf x.k
structure Fit(m:CM)(q:QM):Prop where
ok:m.Ok
oq:q.Ok
eB:m.bl=(q.B:Int)
eP:m.pg=(q.P:Int)
structure StAt(t:Adr)(H:Hp)(x:Sto)(r2 r3 r4 r5:V)(m:CM)(q:QM):Prop where
o:H x.s=some (.ins t.C_Even x.sd [("chip",.ref x.c),("terms",.ref x.tm),("book",.ref x.k.bk),("rule",x.ru),("papers",x.pa)])
te:H x.tm=some (.ins t.C_Terms x.td (teF (.int m.bl) (.int m.pg) r2 r3 r4 r5))
ch:ChipAt t.C_Chip H x.c x.a m
bk:BkAt t H x.k q
tb:TbF t H
ds:Dst x.k
d1:∀b∈x.a.li::foot x.c x.a,b∉bf x.k
d2:∀b∈[x.s,x.tm],b∉sf x
section
variable{H H':Hp}{x:Sto}{r2 r3 r4 r5:V}{m:CM}{q:QM}
theorem StAt.same(h:StAt t H x r2 r3 r4 r5 m q)(s:Same H H'):StAt t H' x r2 r3 r4 r5 m q:=⟨s _ _ h.o,s _ _ h.te,h.ch.same s,h.bk.same s,h.tb.same s,h.ds,h.d1,h.d2⟩
theorem TbF.ne(h:TbF t H){b:Addr}{o:HO}(e:H b=some o)(n:∀ps,o≠ .tbl ps):b≠t.e9:=λz=>by obtain⟨ps,hT,_⟩:=h;rw[z,hT]at e;exact n ps (kZ e).symm
theorem StAt.nT(h:StAt t H x r2 r3 r4 r5 m q):∀b∈[x.s,x.tm]++(x.a.li::sf x),b∉[t.e9]:=by(
intro b hb z
have z:b=t.e9:=by simpa using z
have ne:∀{b:Addr} {o:HO},H b=some o→(∀ps,o≠ .tbl ps)→b≠t.e9:=λe n=>h.tb.ne e n
obtain⟨rs,er,_⟩:=h.ch.rc
have hb:b=x.s∨b=x.tm∨b=x.a.li∨b=x.c∨b=x.a.bo∨b=x.a.cl∨b=x.a.dc∨b=x.a.br∨b=x.a.rc∨b=x.k.bk∨b=x.k.wv∨b=x.k.lv∨b=x.k.fi∨b=x.k.bo:=by simpa[sf,bf,foot]using hb
rcases hb with y|y|y|y|y|y|y|y|y|y|y|y|y|y<;>rw[y]at z
·exact ne h.o (λ_ z=>by cases z) z
·exact ne h.te (λ_ z=>by cases z) z
·exact ne h.ch.li (λ_ z=>by cases z) z
·exact ne h.ch.ins (λ_ z=>by cases z) z
·exact ne h.ch.bo (λ_ z=>by cases z) z
·exact ne h.ch.cl (λ_ z=>by cases z) z
·exact ne h.ch.dc (λ_ z=>by cases z) z
·exact ne h.ch.br (λ_ z=>by cases z) z
·exact ne er (λ_ z=>by cases z) z
·exact ne h.bk.o (λ_ z=>by cases z) z
·exact ne h.bk.w (λ_ z=>by cases z) z
·exact ne h.bk.l (λ_ z=>by cases z) z
·exact ne h.bk.f (λ_ z=>by cases z) z
exact ne h.bk.b (λ_ z=>by cases z) z)
theorem StAt.nX(h:StAt t H x r2 r3 r4 r5 m q){b:Addr}{o:HO}(e:H b=some o)(to:Tex o):b∉[x.s,x.tm]++(x.a.li::sf x):=λhb=>by(
obtain⟨rs,er,_⟩:=h.ch.rc
have hb:b=x.s∨b=x.tm∨b=x.a.li∨b=x.c∨b=x.a.bo∨b=x.a.cl∨b=x.a.dc∨b=x.a.br∨b=x.a.rc∨b=x.k.bk∨b=x.k.wv∨b=x.k.lv∨b=x.k.fi∨b=x.k.bo:=by simpa[sf,bf,foot]using hb
rcases hb with y|y|y|y|y|y|y|y|y|y|y|y|y|y
·exact yZ to e h.o q2V y
·exact yZ to e h.te q2V y
·exact yZ to e h.ch.li (λz=>by rcases z with⟨_,z⟩|⟨_,z⟩<;>cases z) y
·exact yZ to e h.ch.ins q2V y
·exact yZ to e h.ch.bo zF y
·exact yZ to e h.ch.cl zF y
·exact yZ to e h.ch.dc zF y
·exact yZ to e h.ch.br zF y
·exact yZ to e er zF y
·exact yZ to e h.bk.o q2V y
·exact yZ to e h.bk.w (λz=>by rcases z with⟨_,z⟩|⟨_,z⟩<;>cases z) y
·exact yZ to e h.bk.l zF y
·exact yZ to e h.bk.f zF y
exact yZ to e h.bk.b zF y)
theorem StAt.keep(h:StAt t H x r2 r3 r4 r5 m q){F:List Addr}(k:Keep F H H')(n:∀b∈[x.s,x.tm]++(x.a.li::sf x),b∉F)(tb:TbF t H'):StAt t H' x r2 r3 r4 r5 m q:=⟨k.k _ _ (n _ (by simp)) h.o,k.k _ _ (n _ (by simp)) h.te,h.ch.keep k (λb hb=>n b (by
  rcases kN.mp hb with rfl|hb
  ·simp
  ·simp[sf,hb])),h.bk.keep k (λb hb=>n b (by
  have hb:b∈bf x.k:=hb;simp[sf,hb])),tb,h.ds,h.d1,h.d2⟩
theorem StAt.kT(h:StAt t H x r2 r3 r4 r5 m q)(k:Keep [t.e9] H H')(tb:TbF t H'):StAt t H' x r2 r3 r4 r5 m q:=h.keep k h.nT tb
end
inductive spGd(t:Adr)(vs:List V)(H:Hp)(Q:VK)(E_:XK):Prop
|mk:∀x r2 r3 r4 r5 m q,vs=[.ref x.s]→StAt t H x r2 r3 r4 r5 m q→Fit m q→NewO H (.lst ((uL q.B m.br).map vn)) Q→spGd t vs H Q E_
theorem vL(T:Txt K mg t)(S:Fns K t):S.oG.Ok0 P w mg base 5 (spGd t):=by(
refine S.oG.F.ok0 q7A λcdv A _ s H vs Q E hr h=>?_
obtain⟨x,r2,r3,r4,r5,m,q,rfl,hs,ft,k⟩:=h
have b2:=ft.oq.b2
have eB:=ft.eB
refine⟨_,(qD (qL (y6 ["self","block"] [0] rfl (zG rfl T.tL (qA (qJ (qJ (pv 0) rfl) rfl) qE)) (λ_ _ _ _ _=>(qU (i:=1) (show List.Nodup (["self","block"]:List Str)from by decide) rfl (Or.inl rfl))) (λ_ _ _ _ _=>(yF (uG (yM (jG (v3 (K:=K) rfl (pv 0) rfl) T.fD T.aCT (q6U T S).mono hr S.aAP.b .nil qK (qA (pv 1) qE)))))) (λ_ _ _ _ _=>(pv 1)) (by kernel_rfl) (jD (by decide))))),?_⟩
try dsimp-beta-proj-iota-zeta-eta only[wishK,cxK]
refine(iV rfl (iF hs.o T.fB T.fF rfl (iF hs.te T.fH T.iO rfl ⟨m.bl,rfl,by lia,by lia,λD H2 nD s2 hD=>?_⟩)))
refine q2R (D:=D) (λi H3=>Same H H3∧H3 D=some (.lst (((List.range i).filter λb=>!(m.br.getD b false)).map vn))) ⟨s2,hD⟩ (λi H3 hi hp=>?_) (λH3 hp=>?_)
·obtain⟨sm,hd⟩:=hp;have hi:i<q.B:=by lia
 have h3:=hs.same sm;refine(iV rfl (iF h3.o T.fB T.fU rfl (iM h3.ch.ins rfl ⟨_,rfl,x.c,x.a,m,_,rfl,h3.ch,ft.ok,by lia,by lia,?_⟩)));rw[show(0+(i:Int)).toNat=i by lia,lY];refine⟨_,rfl,?_⟩;rw[c7,gA,mM];cases z:m.br.getD i false with
 |true=>refine iteF ⟨sm,?_⟩;rw[hd,mU,z];simp
 |false=>
  refine iteT ?_;refine⟨_,rfl,_,hd,?_,λb o e=>?_,?_⟩
  ·rw[hG];have:((List.range i).filter λb=>!(m.br.getD b false)).length≤i:=mO (mC _ _) (by rw[mG];exact kO _);have:(16:Nat)<sizeLine:=by decide
   lia
  ·rw[qC (qF e nD)];exact sm _ _ e
  rw[qI,mU,z];rfl
obtain⟨sm,hd⟩:=hp
rw[show m.bl.toNat=q.B by lia]at hd
exact k D H3 nD sm hd)
inductive spLm(t:Adr)(x:Sto)(g c:Addr)(fd:FuncData)(vs:List V)(H:Hp)(Q:VK)(E_:XK):Prop
|mk:∀r2 r3 r4 r5,∀m:CM,∀q:QM,∀b:Nat,vs=[.int (b:Int)]→StAt t H x r2 r3 r4 r5 m q→Fit m q→b<q.B→H g=some (fnO g fd)→H c=some (cdO c lamQ)→(∀tp H',H tp=none→Same H H'→H' tp=some (.tup [.int (m.cl.getD b 0),.int (b:Int)])→Q (.ref tp) H')→spLm t x g c fd vs H Q E_
theorem qKL(T:Txt K mg t)(S:Fns K t){g c ca:Addr}{pm ct:Value}{x:Sto}(hc:base.IsCell ca (some (.ref x.s))):
 FnOk P w K mg base CX0 5 g (q6W [("self",ca)] pm ct c) ["block"] (spLm t x g c (q6W [("self",ca)] pm ct c)):=by(
refine qH4 (k:=4) (x0:="block") (fvs:=[.ref x.s]) (qDH (u:=.ref x.s) rfl rfl rfl (by decide+kernel) (by decide+kernel) (by decide+kernel) rfl hc) (λvs H Q E h=>?_) (λvs H Q E h=>?_) (λA outer s H v0 Q E hr h=>?_)
·repeat obtain⟨_,h⟩:=h
 all_goals subst_vars;rfl
·obtain⟨r2,r3,r4,r5,m,q,b,rfl,_,_,_,a,d,_⟩:=h;exact⟨a,d⟩
obtain⟨r2,r3,r4,r5,m,q,b,e,hs,ft,hb,_,_,k⟩:=h
obtain rfl:v0=.int (b:Int):=by simpa using e
have eB:=ft.eB
refine⟨_,yP (qA (jG (qJ (pv 1) rfl) T.fD T.oW (vZ T S).mono hr S.i6.b .nil qK (qA (pv 0) qE)) (qA (pv 0) qE)),?_⟩
refine(iV rfl (iF hs.o T.fB T.fU rfl (iM hs.ch.ins rfl ⟨_,rfl,x.c,x.a,m,_,rfl,hs.ch,ft.ok,by lia,by lia,?_⟩)))
rw[mH]
exact⟨_,rfl,sz2,k⟩)
theorem qDL{clos:List (Str×Addr)}{c:Addr}{pm ct:Value}:jY K (q6W clos pm ct c) ["block"] []:=jY.all λus hl=>match us,hl with| [_],_=>rfl
theorem qI0(T:Txt K mg t){H:Hp}(h:TbF t H):∃ps,H t.e9=some (.tbl ps)∧TriplesOk ps.toList∧((codeAmong lamP ps.toList=none∧∀c H',H' t.e9=some (.tbl (ps++tri c))→H' c=some (cdO c lamQ)→(∀b o,b≠t.e9→H b=some o→H' b=some o)→TbF t H')∨∃c,codeAmong lamP ps.toList=some (.ref c)∧H c=some (cdO c lamQ)):=by(
obtain⟨ps,hT,h,hB⟩:=h
rcases h with rfl|⟨c,rfl,a⟩
·refine⟨_,hT,trivial,.inl ⟨rfl,λc H' e1 e2 k=>⟨_,e1,.inr ⟨c,rfl,e2⟩,?_⟩⟩⟩;obtain⟨ps',hT',h'⟩:=hB;refine⟨ps',k _ _ (T.aAK.symm) hT',?_⟩;rcases h' with h'|⟨c',h',a'⟩
 ·exact .inl h'
 exact .inr ⟨c',h',k _ _ (λz=>by rw[z,hT]at a';cases a') a'⟩
exact⟨_,hT,trivial,.inr ⟨c,rfl,a⟩⟩)
theorem q8D(T:Txt K mg t)(S:Fns K t){cells:List (Str×Addr)}{σ:St}{H4:Hp}{D f c':Addr}{x:Sto}{r2 r3 r4 r5:V}{m:CM}{q:QM}{clos:List (Str×Addr)}{pm ct:Value}{Q:VK}(hσ:σ[0]?=some (some (.ref x.s)))(hcl:∀ca,cells.lookup ("self":Str)=some ca→clos=[(("self":Str),ca)])
 (hs:StAt t H4 x r2 r3 r4 r5 m q) (ft:Fit m q) (hD:H4 D=some (.lst ((yX q.B m.br q.fi).map vn))) (hf:H4 f=some (fnO f (q6W clos pm ct c'))) (hc:H4 c'=some (cdO c' lamQ)) (k:∀l p H',FreeIs q.B m.br m.cl q.fi l→H4 p=none→Same H4 H'→H' p=some (.lst (l.map vn))→Q (.ref p) H'):
 ∃(f':Addr) (fd:FuncData) (sp:Heap→Sp),V.ref f=.ref f'∧(∀base',(∀b o,base.get? b=some o→base'.get? b=some o)→q1T cells σ base' [(0,"self")]→FnOk P w K mg base' CX0 5 f' fd ["block"] (sp base'))∧jY K fd ["block"] []∧∃(l:Addr) (us:List V) (Pv:Nat→List V→Hp→Prop),[V.ref D]=[.ref l]∧SqL K H4 l us∧us.length<64∧Pv 0 [] H4∧(∀base' i x zs H',q1T cells σ base' [(0,"self")]→us[i]?=some x→Pv i zs H'→sp base' [x] H' (λz H''=>Pv (i+1) (zs++[z]) H'') E0)∧∀zs H',zs.length=us.length→Pv us.length zs H'→∃kk m,Paired (TupI K H') zs kk∧(∀k∈kk,k.length=m)∧0<m∧∀q:List Nat,q.Perm (List.range us.length)→(q.map λi=>kk.getD i []).Pairwise (λa b=>lx b a=false)→NewO H' (.lst (q.map λi=>us.getD i .non)) Q:=by(
have b2:=ft.oq.b2
have ln:=qDJ (B:=q.B) (br:=m.br) (fi:=q.fi)
refine⟨f,q6W clos pm ct c',λ_=>spLm t x f c' (q6W clos pm ct c'),rfl,λbase' _ cv=>?_,qDL,D,_,λi zs H'=>Same H4 H'∧Paired (TupD H') zs (((yX q.B m.br q.fi).take i).map (keyN m.cl)),rfl,SqL.of hD,by rw[hG];lia,⟨Same.refl H4,.nil⟩,λbase' i y zs H' _ hy hp=>?_,λzs H' lz hp=>?_⟩
·obtain⟨ca,u,hk,ru,hcell⟩:=cv (0,"self") (kD.mpr rfl) (.ref x.s) hσ;obtain rfl:u=Value.ref x.s:=ru;rw[hcl ca hk];exact qKL T S hcell
·obtain⟨sm,pr⟩:=hp;rw[mD]at hy;obtain⟨b,hb,rfl⟩:=mK.mp hy;have mb:=q89.mp (gP hb);refine⟨r2,r3,r4,r5,m,q,b,rfl,hs.same sm,ft,mb.1.1,sm _ _ hf,sm _ _ hc,λtp H5 ntp s5 e5=>⟨sm.trans s5,?_⟩⟩;rw[q8A (f:=keyN m.cl) hb];exact L2.Paired.snoc (uB pr s5) ⟨tp,rfl,e5⟩
obtain⟨sm,pr⟩:=hp
rw[hG,gF]at pr
refine⟨_,2,qCD pr,λk hk=>?_,by decide,λq' p1 p2 p H5 np s5 e5=>?_⟩
·obtain⟨b,_,rfl⟩:=kP.mp hk;rfl
rw[hG]at p1
have hin:∀i∈q',i<(yX q.B m.br q.fi).length:=λi hi=>gC.mp (p1.mem_iff.mp hi)
rw[q6K (e:=0) hin]at e5
exact k _ p H5 (qH7 p1 p2) (Same.free sm np) (sm.trans s5) e5)
inductive spFr(t:Adr)(vs:List V)(H:Hp)(Q:VK)(E_:XK):Prop
|mk:∀x r2 r3 r4 r5 m q,vs=[.ref x.s]→StAt t H x r2 r3 r4 r5 m q→Fit m q→(∀l p H',FreeIs q.B m.br m.cl q.fi l→H p=none→Keep [t.e9] H H'→TbF t H'→H' p=some (.lst (l.map vn))→Q (.ref p) H')→spFr t vs H Q E_
theorem q0H(T:Txt K mg t)(S:Fns K t)(B:BmIn base mg):FnOk P w K mg base (CX0) 8 t.f_Plain_free S.tJ ["self"] (spFr t):=by(
refine S.aDP.ok0 q34 λA _ s H vs Q E hr h=>?_
obtain⟨x,r2,r3,r4,r5,m,q,rfl,hs,ft,k⟩:=h
have b2:=ft.oq.b2
have eB:=ft.eB
refine⟨_,(qB (zK (i:=1) ["self","block"] [0] rfl (jF (j0 (pv 0) T.fB T.tO (vL T S).mono hr S.oG.b .nil qK)) (λ_ _ _ _ _=>(qU (i:=1) (show List.Nodup (["self","block"]:List Str)from by decide) rfl (Or.inl rfl))) (λ_ _ _ _ _=>(yF (qM u9 (qW (q6C (K:=K) rfl) (v3 (K:=K) rfl (v3 (K:=K) rfl (pv 0) rfl) rfl) (pv 1) (λ_ _=>rfl)) qG (qP _)))) (λ_ _ _ _ _=>(pv 1)) (by kernel_rfl) (jD (by decide)) q34.nd rfl (Or.inl rfl)) (qD (qL (qBA (k:=5) (x:="block") [(0,"self")] (by intro p hp;simp only[kN,dA,cY]at hp;rcases hp with rfl<;>exact⟨rfl,by kernel_rfl,rfl⟩) hr (by rfl) T.aC1 (qCE rfl T.aC3 B (qH5 (by kernel_rfl)) rfl) (qA (pv 1) qE))))),?_⟩
try dsimp-beta-proj-iota-zeta-eta only[wishK,cxK]
refine(iV rfl (iM hs.o rfl ⟨x,r2,r3,r4,r5,m,q,rfl,hs,ft,λp H1 n1 s1 h1=>?_⟩))
refine⟨p,rfl,⟨_,SqL.of h1⟩,λD H2 nD s2 hD=>?_⟩
refine yV (K:=K) (xs:=(uL q.B m.br).map vn) (D:=D) (λi H3=>Same H1 H3∧H3 D=some (.lst ((((uL q.B m.br).take i).filter λb=>decide (q.fi.getD b 0=0)).map vn))) ⟨s2,hD⟩ (λi H3 hp=>SqL.of (hp.1 _ _ h1)) (λi y H3 hy hp=>?_) (λH3 hp=>?_)
·obtain⟨sm,hd⟩:=hp;have h3:=(hs.same s1).same sm;rw[mD]at hy;obtain⟨b,hb,rfl⟩:=mK.mp hy;have hi:=(kC.mp hb).1;have mb:=q0N.mp (gP hb);refine(iV rfl (iF h3.o T.fB T.fG rfl (iF h3.bk.o T.fE T.fM rfl ⟨_,rfl,iL (k:=_) (v:=_) (SqL.of h3.bk.f) (atV (by rw[ft.oq.lf];exact mb.1)) ⟨rfl,_,rfl,?_⟩⟩)));rw[yG,←kW hi,gA,mM];obtain rfl:(uL q.B m.br)[i]=b:=(kC.mp hb).2;by_cases z:q.fi.getD (uL q.B m.br)[i] 0=0
 ·rw[hC z];refine iteT ?_;refine⟨_,rfl,_,hd,?_,λb o e=>?_,?_⟩
  ·rw[hG];have l1:(((uL q.B m.br).take i).filter λb=>decide (q.fi.getD b 0=0)).length≤q.B:=mO (mC _ _) (mO (by rw[gE];lia) (q1U (B:=q.B) (br:=m.br)));have:(16:Nat)<sizeLine:=by decide
   lia
  ·rw[qC (qF e nD)];exact sm _ _ e
  rw[qI,mU,hC z];rfl
 rw[hU z];refine iteF ⟨sm,?_⟩;rw[hd,mU,hU z];simp
obtain⟨sm,hd⟩:=hp
rw[hG,gF]at hd
have hd:H3 D=some (.lst ((yX q.B m.br q.fi).map vn)):=hd
have h3:=(hs.same s1).same sm
refine⟨_,rfl,?_⟩
obtain⟨ps,hT,ht,hc⟩:=qI0 T h3.tb
have nT:D≠t.e9:=h3.tb.ne hd (λ_ z=>by cases z)
have keep:∀(f c':Addr) (ctv pm:Value) (clos:List (Str×Addr)) (H4:Hp),H4 f=some (fnO f (q6W clos pm ctv c'))→H4 c'=some (cdO c' lamQ)→TbF t H4→(∀b o,b≠t.e9→H3 b=some o→H4 b=some o)→Keep [t.e9] H3 H4:=λf c' ctv pm clos H4 _ _ tb4 kp=>⟨λb o nb e=>kp b o (λz=>nb (by rw[z];simp)) e,λb xs e=>kp b _ (h3.tb.ne e (λ_ z=>by cases z)) e⟩
refine⟨ps,hT,ht,?_⟩
rcases hc with⟨hn,tb⟩|⟨c0,hn,hc0⟩
·refine .inl ⟨hn,λf c' ctv H4 nf hf hc' hT4 kp=>?_⟩;have tb4:=tb c' H4 hT4 hc' kp;have k4:=keep f c' ctv _ _ H4 hf hc' tb4 kp;refine q8D T S rfl (λca hk=>qA4 (names:=qG2.names) hk rfl) (h3.kT k4 tb4) ft (kp _ _ nT hd) hf hc' (λl p' H5 hl np s5 e5=>k l p' H5 hl ?_ ?_ (tb4.same s5) e5)
 ·refine Same.free s1 (Same.free sm (k4.none (λz=>?_) np));obtain⟨ps',hT',_⟩:=tb4;rw[kD.mp z,hT']at np;cases np
 exact((Keep.same s1).trans (Keep.same sm)).trans (k4.trans (Keep.same s5))
refine .inr ⟨c0,hn,λf ctv H4 nf hf s4=>?_⟩
refine q8D T S rfl (λca hk=>qA4 (names:=qG2.names) hk rfl) (h3.same s4) ft (s4 _ _ hd) hf (s4 _ _ hc0) (λl p' H5 hl np s5 e5=>k l p' H5 hl ?_ ?_ ((h3.tb.same s4).same s5) e5)
·exact Same.free s1 (Same.free sm (Same.free s4 np))
exact Keep.same (((s1.trans sm).trans s4).trans s5))
inductive spPt(t:Adr)(vs:List V)(H:Hp)(Q:VK)(E_:XK):Prop
|mk:∀x r2 r3 r4 r5 m q,vs=[.ref x.s]→StAt t H x r2 r3 r4 r5 m q→Fit m q→(∀H',Same H H'→Q (oV (jR q.B q.P m.br q.fi)) H')→spPt t vs H Q E_
theorem qDM{α:Type}{p:α→Bool}{L:List α}{i:Nat}{x:α}(h:L[i]?=some x)(n:(L.take i).find? p=none):(p x=true→L.find? p=some x)∧(p x=false→(L.take (i+1)).find? p=none):=by(
have hi:=(kC.mp h).1
obtain rfl:L[i]=x:=(kC.mp h).2
constructor
·intro hp;have e:L=L.take i++L[i]::L.drop (i+1):=by rw[List.getElem_cons_drop,xE]
 conv=>lhs;arg 2;rw[e]
 rw[aU,n,dX,hp];rfl
intro hp
rw[←kW hi,aU,n,dX,hp]
rfl)
theorem q0I(T:Txt K mg t)(S:Fns K t):S.p6.Ok0 P w mg base 6 (spPt t):=by(
refine S.p6.F.ok0 q35 λcdv A _ s H vs Q E hr h=>?_
obtain⟨x,r2,r3,r4,r5,m,q,rfl,hs,ft,k⟩:=h
refine⟨_,(qB (uP g9 rfl (jF (j0 (pv 0) T.fB T.tO (vL T S).mono hr S.oG.b .nil qK)) (qU (i:=1) q35.nd rfl (Or.inl rfl)) (qD (jC (q9K q1O q1O qG (qW qZ (qJ (qJ (pv 0) rfl) rfl) (pv 1) (λ_ _=>rfl)) (qJ (qJ (pv 0) rfl) rfl)) (qD (qL (pv 1))) qS))) (qD (qL yC))),?_⟩
try dsimp-beta-proj-iota-zeta-eta only[wishK,cxK]
refine(iV rfl (iM hs.o rfl ⟨x,r2,r3,r4,r5,m,q,rfl,hs,ft,λp H1 n1 s1 h1=>?_⟩))
refine⟨p,rfl,⟨_,SqL.of h1⟩,?_⟩
refine uX (K:=K) (xs:=(uL q.B m.br).map vn) (λi σ' H2=>∃y,σ'=[some (.ref x.s),y]∧Same H1 H2∧((uL q.B m.br).take i).find? (jP q.P q.fi)=none) ⟨_,rfl,Same.refl H1,rfl⟩ (λi σ' H2 hi hp=>?_) (λi y σ' H2 hy hp=>?_) (λσ' H2 hp=>?_)
·obtain⟨y,rfl,sm,_⟩:=hp;exact SqL.of (sm _ _ h1)
·obtain⟨y',rfl,sm,hn⟩:=hp;have h3:=(hs.same s1).same sm;rw[mD]at hy;obtain⟨b,hb,rfl⟩:=mK.mp hy;have mb:=q0N.mp (gP hb);obtain⟨y1,y2⟩:=qDM hb hn;refine(iV rfl (iF h3.o T.fB T.fG rfl (iF h3.bk.o T.fE T.fM rfl ⟨_,rfl,iL (k:=_) (v:=_) (SqL.of h3.bk.f) (atV (by rw[ft.oq.lf];exact mb.1)) ?_⟩)));refine(iI ⟨_,rfl,?_⟩);by_cases z1:0<q.fi.getD b 0
 ·rw[hC z1];refine iteT ?_;refine(iV rfl (iF h3.o T.fB T.fF rfl (iF h3.te T.fH T.fI rfl (iI ⟨_,rfl,?_⟩))));by_cases z2:q.fi.getD b 0<m.pg
  ·rw[hC z2];have z:=k H2 (s1.trans sm);unfold jR at z;rw[y1 (by unfold jP;rw[hC z1,hC (by rw[←ft.eP];exact z2)];rfl)]at z;exact iteT ⟨_,rfl,z⟩
  rw[hU z2];exact iteF ⟨_,rfl,sm,y2 (by unfold jP;rw[hC z1,hU (by rw[←ft.eP];exact z2)];rfl)⟩
 rw[hU z1];exact iteF ⟨_,rfl,iteF ⟨_,rfl,sm,y2 (by unfold jP;rw[hU z1];rfl)⟩⟩
obtain⟨y',rfl,sm,hn⟩:=hp
rw[hG,gF]at hn
have z:=k H2 (s1.trans sm)
unfold jR at z
rw[hn]at z
exact z)
inductive spSp(t:Adr)(vs:List V)(H:Hp)(Q:VK)(E_:XK):Prop
|mk:∀x r2 r3 r4 r5 m q,vs=[.ref x.s]→StAt t H x r2 r3 r4 r5 m q→Fit m q→(∀l H',FreeIs q.B m.br m.cl q.fi l→Keep [t.e9] H H'→TbF t H'→Q (pgV q.P q.fi (q1K q.B q.P m.br q.fi l)) H')→spSp t vs H Q E_
theorem q7H(T:Txt K mg t)(S:Fns K t)(B:BmIn base mg):S.aBC.Ok0 P w mg base 9 (spSp t):=by(
refine S.aBC.F.ok0 q0F λcdv A _ s H vs Q E hr h=>?_
obtain⟨x,r2,r3,r4,r5,m,q,rfl,hs,ft,k⟩:=h
refine⟨_,(qB (qV (i:=1) q0F.nd rfl (Or.inl rfl) (j0 (pv 0) T.fB T.aA0 (q0I T S).mono hr S.p6.b .nil qK)) (qB (jC (qM q2N (pv 1) yC (qP _)) (qD (qL (qQ u8 (qQ uY (pv 1) (qJ (qJ (pv 0) rfl) rfl)) (qW qZ (qJ (qJ (pv 0) rfl) rfl) (pv 1) (λ_ _=>rfl))))) qS) (qB (qV (i:=2) q0F.nd rfl (Or.inl rfl) (j0 (pv 0) T.fB T.aAV (q0H T S B).mono hr S.tY .nil qK)) (qB (jC (qM (q8M hr.units) (pv 2) (jU qE) (qP _)) (qD (qL yC)) qS) (qD (qL (qQ uY (qW qZ (pv 2) qG (λ_ _=>rfl)) (qJ (qJ (pv 0) rfl) rfl)))))))),?_⟩
try dsimp-beta-proj-iota-zeta-eta only[wishK,cxK]
refine(iV rfl (iM hs.o rfl ⟨x,r2,r3,r4,r5,m,q,rfl,hs,ft,λH1 s1=>?_⟩))
have h1:=hs.same s1
have b2:=ft.oq.b2
have p2:=ft.oq.p2
have eP:=ft.eP
cases hpn:jR q.B q.P m.br q.fi with
|some b=>
 have hb:=q11 hpn;refine⟨_,rfl,rfl,_,rfl,iteT ?_⟩;refine⟨_,rfl,iV rfl (iF h1.o T.fB T.fF rfl (iF h1.te T.fH T.fI rfl (iI ⟨.inl ⟨by lia,by lia⟩,?_⟩)))⟩;refine(iV rfl (iF h1.o T.fB T.fG rfl (iF h1.bk.o T.fE T.fM rfl ⟨_,rfl,iL (k:=_) (v:=_) (SqL.of h1.bk.f) (atV (by rw[ft.oq.lf];exact hb.1)) (iI ?_)⟩)));obtain⟨l,hl⟩:=FreeIs.ex q.B m.br m.cl q.fi;have kk:=k l H1 hl (Keep.same s1) h1.tb;unfold q1K at kk;rw[hpn]at kk;have e:pgV q.P q.fi (some b)=V.int ((b:Int)*m.pg+q.fi.getD b 0):=by rw[eP];rfl
 have kk:Q (pgV q.P q.fi (some b)) H1:=kk;rw[e]at kk;exact kk
|none=>
 refine⟨_,rfl,rfl,_,rfl,iteF ?_⟩;refine(iV rfl (iM h1.o rfl ⟨x,r2,r3,r4,r5,m,q,rfl,h1,ft,λl p H2 hl np k2 tb2 h2=>?_⟩));have h2':=h1.kT k2 tb2;refine⟨_,rfl,sz0,λe H3 n3 s3 h3=>⟨p,_,e,rfl,rfl,SqL.of (s3 _ _ h2),SqL.of h3,_,rfl,?_⟩⟩;have h3':=h2'.same s3;have kk:=k l H3 hl (((Keep.same s1).trans k2).trans (Keep.same s3)) (tb2.same s3);unfold q1K at kk;rw[hpn]at kk;cases l with
 |nil=>refine iteT ?_;exact kk
 |cons b r=>
  refine iteF ?_;have hb:=hl.mem (kY (a:=b) (l:=r));refine⟨_,rfl,iL (k:=0) (v:=.int (b:Int)) (SqL.of (s3 _ _ h2)) (yK (j:=0) rfl) (iV rfl (iF h3'.o T.fB T.fF rfl (iF h3'.te T.fH T.fI rfl (iI ⟨.inl ⟨by lia,by lia⟩,?_⟩))))⟩;have e:pgV q.P q.fi ((b::r).head?)=V.int ((b:Int)*m.pg):=by show V.int ((b:Int)*(q.P:Int)+q.fi.getD b 0)=_;rw[hb.2.2,eP,Int.add_zero]
  have kk:Q (pgV q.P q.fi ((b::r).head?)) H3:=kk;rw[e]at kk;exact kk)
noncomputable def qCT(t:Adr):Sp:=λvs H Q E=>∃x r2 r3 r4 r5 m q n v,vs=[.ref x.s,.int n,.int v]∧StAt t H x r2 r3 r4 r5 m q∧Fit m q∧Gd m∧m.rc.length<1000000∧∀l,FreeIs q.B m.br m.cl q.fi l→∃b f:Nat,q1K q.B q.P m.br q.fi l=some b∧q.fi.getD b 0=(f:Int)∧m.bo.getD (b*q.P+f) .non=.non∧(m.lf=some 0→∀H',Keep (t.e9::sf x) H H'→StAt t H' x r2 r3 r4 r5 m q→E (.ref t.C_PowerGone) none H')∧(m.lf≠some 0→∀tp H',H' tp=some (.tup [.int (q.nx*128+n),.int v])→Keep (t.e9::sf x) H H'→StAt t H' x r2 r3 r4 r5 (putC m (b*q.P+f) (.ref tp)) (q.put b f n)→Q (.int ((b*q.P+f:Nat):Int)) H')
theorem StAt.put{H H':Hp}{x:Sto}{r2 r3 r4 r5:V}{m m':CM}{q:QM}(h:StAt t H x r2 r3 r4 r5 m q)(hc:ChipAt t.C_Chip H' x.c x.a m')(k:Keep (foot x.c x.a) H H')(e1:m'.bl=m.bl)(e2:m'.pg=m.pg):StAt t H' x r2 r3 r4 r5 m' q:=by have nf:∀b∈bf x.k,b∉foot x.c x.a:=λb hb z=>h.d1 b (kB _ z) hb;have n2:∀b∈[x.s,x.tm],b∉foot x.c x.a:=λb hb z=>h.d2 b hb (by unfold sf;exact gO _ z);refine⟨k.k _ _ (n2 _ (by simp)) h.o,by rw[e1,e2];exact k.k _ _ (n2 _ (by simp)) h.te,hc,h.bk.keep k nf,h.tb.gen λb o to e=>k.k _ _ (λz=>h.nX e to (mB _ (kB _ (by unfold sf;exact gO _ z)))) e,h.ds,h.d1,h.d2⟩
theorem StAt.note{H H':Hp}{x:Sto}{r2 r3 r4 r5:V}{m:CM}{q q':QM}(h:StAt t H x r2 r3 r4 r5 m q)(hb:BkAt t H' x.k q')(k:Keep (bf x.k) H H'):StAt t H' x r2 r3 r4 r5 m q':=by have n2:∀b∈[x.s,x.tm],b∉bf x.k:=λb hb z=>h.d2 b hb (by unfold sf;exact mB _ z);refine⟨k.k _ _ (n2 _ (by simp)) h.o,k.k _ _ (n2 _ (by simp)) h.te,h.ch.keep k h.d1,hb,h.tb.gen λb o to e=>k.k _ _ (λz=>h.nX e to (mB _ (kB _ (by unfold sf;exact mB _ z)))) e,h.ds,h.d1,h.d2⟩
theorem q4B(T:Txt K mg t)(S:Fns K t)(B:BmIn base mg):S.oZ.OkE P w mg base 10 (qCT t):=by(
refine S.oZ.F.okE zY (λvs H Q E h=>?_) (λcdv A outer s H vs Q E hr h=>?_)
·repeat obtain⟨_,h⟩:=h
 all_goals subst_vars;rfl
obtain⟨x,r2,r3,r4,r5,m,q,n,v,rfl,hs,ft,gd,hrc,k⟩:=h
refine⟨_,(qB (qV (i:=3) zY.nd rfl (Or.inl rfl) (j0 (pv 0) T.fB T.aD6 (q7H T S B).mono hr S.aBC.b .nil qK)) (qB (jC (qM q38 (pv 3) yC (qP _)) (qD jH) qS) (qB (j8 (jV jI (qJ (pv 0) rfl) T.fD T.aD8 (qAG T S).mono hr S.aCX.b .nil (qA (pv 3) (qA (yP (qA (jG (qJ (pv 0) rfl) T.fE T.aDV (q98 T S).mono hr S.aB9.b .nil qK (qA (pv 1) qE)) (qA (pv 2) qE))) qE q3X)))) (qB (j8 (jG (qJ (pv 0) rfl) T.fE T.aDX (q99 T S).mono hr S.aB0.b .nil qK (qA (pv 3) (qA (pv 1) qE)))) (qD (qL (pv 3))))))),?_⟩
try dsimp-beta-proj-iota-zeta-eta only[wishK,cxK]
refine(iV rfl (iM hs.o rfl ⟨x,r2,r3,r4,r5,m,q,rfl,hs,ft,λl H1 hl k1 tb1=>?_⟩))
have hs1:=hs.kT k1 tb1
obtain⟨b,f,hsp,ef,hn,dk,kk⟩:=k l hl
rw[hsp]
obtain⟨hB,hbr,f0,f1⟩:=qA5 hl ft.oq.p1 hsp
have hf:f<q.P:=by lia
have epg:pgV q.P q.fi (some b)=V.int ((b*q.P+f:Nat):Int):=by show V.int ((b:Int)*(q.P:Int)+q.fi.getD b 0)=_;rw[ef,sL,dE]
rw[epg]
refine⟨_,rfl,rfl,_,rfl,iteF ?_⟩
refine(iV rfl (iF hs1.o T.fB T.fU rfl (iM hs1.ch.ins rfl ⟨_,rfl,?_⟩)))
refine(iV rfl (iF hs1.o T.fB T.fG rfl (iM hs1.bk.o rfl ⟨_,rfl,x.k,q,n,rfl,hs1.bk,_,rfl,sz2,λtp H2 n2 s2 e2=>?_⟩)))
have hs2:=hs1.same s2
have hpg:((b*q.P+f:Nat):Int)≤m.bl*m.pg-1:=by rw[ft.eB,ft.eP,←dE];have:b*q.P+f<q.B*q.P:=(xF (by lia)).mp (by rw[yQ hf];exact hB);lia
refine⟨x.c,x.a,m,_,.ref tp,rfl,hs2.ch,ft.ok,hrc,gd,hpg,hn,λz=>dk z H2 ((k1.mono (by simp)).trans (Keep.same s2)) hs2,λz H3 hc3 k3=>?_⟩
have hs3:=hs2.put hc3 k3 rfl rfl
refine(iV rfl (iF hs3.o T.fB T.fG rfl (iM hs3.bk.o rfl ⟨_,rfl,_,rfl,x.k,q,b,f,n,rfl,hs3.bk,ft.oq,hs3.ds,hB,hf,ef,λH4 hb4 k4=>⟨_,rfl,?_⟩⟩)))
exact kk z tp H4 (k4.tp _ _ (k3.tp _ _ e2)) ((((k1.mono (by simp)).trans (Keep.same s2)).trans (k3.mono (λb hb=>by unfold sf;exact kB _ (gO _ hb)))).trans (k4.mono (λb hb=>by unfold sf;exact kB _ (mB _ hb)))) (hs3.note hb4 k4))
theorem q1F(T:Txt K mg t)(S:Fns K t)(B:BmIn base mg):S.tZ.OkE P w mg base 11 (qCT t):=by(
refine S.tZ.F.okE q8Z (λvs H Q E h=>?_) (λcdv A outer s H vs Q E hr h=>?_)
·repeat obtain⟨_,h⟩:=h
 all_goals subst_vars;rfl
obtain⟨x,r2,r3,r4,r5,m,q,n,v,rfl,hs,k⟩:=h
refine⟨_,(qD (qL (jV jI (pv 0) T.fB T.aBY (q4B T S B).mono hr S.oZ.b .nil (qA (pv 1) (qA (pv 2) qE))))),?_⟩
try dsimp-beta-proj-iota-zeta-eta only[wishK,cxK]
exact(iV rfl (iM hs.o rfl ⟨_,rfl,_,rfl,x,r2,r3,r4,r5,m,q,n,v,rfl,hs,k⟩)))
theorem bor(a b:Nat):Builtin.bitOr (a:Int) (b:Int)=((a|||b:Nat):Int):=by(
have e:∀c:Nat,Builtin.bitNot (Builtin.bitNot (c:Int))=(c:Int):=λc=>by unfold Builtin.bitNot;lia
have n:∀c:Nat,decide (0≤Builtin.bitNot (c:Int))=false:=λc=>hU (by unfold Builtin.bitNot;lia)
unfold Builtin.bitOr Builtin.bitAnd
rw[n a,n b]
show Builtin.bitNot (Builtin.bitNot (((Builtin.bitNot (Builtin.bitNot (a:Int))).toNat|||(Builtin.bitNot (Builtin.bitNot (b:Int))).toNat:Nat):Int))=_
rw[e,e a,e b,mH,mH])
noncomputable abbrev vN(ks:List Nat):List V:=ks.map λ(k:Nat)=>V.int (k:Int)
inductive spBo(K:W.Frag)(vs:List V)(H:Hp)(Q:VK)(E_:XK):Prop
|mk:∀l ss,vs=[.ref l]→SqL K H l (vN ss)→(∀s∈ss,s<64)→Q (.int ((orB ss 0:Nat):Int)) H→spBo K vs H Q E_
theorem qAH(s:Nat):∀(l:List Nat) (b:Nat),orB (l++[s]) b=orB l b|||2 ^ s
| [],b=>rfl
|x::r,b=>qAH s r _
theorem q6X(T:Txt K mg t)(S:Fns K t):S.aC2.Ok0 P w mg base 1 (spBo K):=by(
refine S.aC2.F.ok0 q1C λcdv A _ s H vs Q E hr h=>?_
obtain⟨l,ss,rfl,hl,hs,q⟩:=h
refine⟨_,(qB (qV (i:=1) q1C.nd rfl (Or.inl rfl) qG) (qB (uP g9 rfl (jF (pv 0)) (qU (i:=2) q1C.nd rfl (Or.inl rfl)) (qD (qV (i:=1) q1C.nd rfl (Or.inl rfl) (qQ qL0 (pv 1) (qQ qIZ qG (pv 2)))))) (qD (qL (pv 1))))),?_⟩
try dsimp-beta-proj-iota-zeta-eta only[wishK,cxK]
refine⟨_,rfl,l,rfl,⟨_,hl⟩,?_⟩
refine uX (K:=K) (xs:=vN ss) (λi σ' H2=>∃y,σ'=[some (.ref l),some (.int ((orB (ss.take i) 0:Nat):Int)),y]∧H2=H) ⟨_,rfl,rfl⟩ (λi σ' H2 hi hp=>?_) (λi x σ' H2 hx hp=>?_) (λσ' H2 hp=>?_)
·obtain⟨y,rfl,rfl⟩:=hp;exact hl
·obtain⟨y,rfl,rfl⟩:=hp;rw[mD]at hx;obtain⟨n,hn,rfl⟩:=mK.mp hx;obtain⟨hi,rfl⟩:=kC.mp hn;have:=hs _ (gH hi);refine⟨_,rfl,_,rfl,iI ⟨⟨by lia,by lia,by decide⟩,iI ?_⟩⟩;have e:(1:Int)*2 ^ ((ss[i]:Nat):Int).toNat=((2 ^ ss[i]:Nat):Int):=by rw[Int.one_mul,mH];exact(Int.natCast_pow 2 _).symm
 try dsimp only
 rw[e,bor];refine⟨some (.int ((ss[i]:Nat):Int)),?_,rfl⟩;rw[←kW hi,qAH];rfl
obtain⟨y,rfl,rfl⟩:=hp
rw[show(vN ss).length=ss.length by simp[vN],gF]
exact⟨_,rfl,q⟩)
noncomputable def hdN(W:Mp):List Int:=(W.map (·.1)).filter λn=>decide (n≠64)
inductive spHe(t:Adr)(vs:List V)(H:Hp)(Q:VK)(E_:XK):Prop
|mk:∀a,∀m:QM,vs=[.ref a.bk]→BkAt t H a m→m.Ok→(hdN m.V).length<64→(∀l ns H',Same H H'→H l=none→H' l=some (.lst (List.map V.int ns))→ns.Perm (hdN m.V)→ns.Pairwise (·≤·)→Q (.ref l) H')→spHe t vs H Q E_
theorem q9A(T:Txt K mg t)(S:Fns K t):S.aBW.Ok0 P w mg base 1 (spHe t):=by(
refine S.aBW.F.ok0 q8Y λcdv A _ s H vs Q E hr h=>?_
obtain⟨a,m,rfl,hb,ok,hl64,q⟩:=h
have hu:=q32 hr
have lV:m.V.length≤65:=ok.lenV
refine⟨_,(qD (qL (jA q8N (by rfl) T.aC1 (by kernel_rfl) (qA (qC6 (y6 ["name"] [] rfl (qGV (qJ (pv 0) rfl)) (λ_ _ _ _ _=>(qU (i:=0) (show List.Nodup (["name"]:List Str)from by decide) rfl (Or.inl rfl))) (λ_ _ _ _ _=>(yF (qM q7R (pv 0) (vJ rfl T.aDT ⟨_,rfl⟩ (v:=.int 64)) (qP _)))) (λ_ _ _ _ _=>(pv 0)) (by kernel_rfl) (jD (by decide)))) qE)))),?_⟩
try dsimp-beta-proj-iota-zeta-eta only[wishK,cxK]
refine⟨a.wv,_,hb.w,iV rfl (iF hb.o T.fE T.fZ rfl ⟨a.wv,_,rfl,hb.w,λo D H2 nD s2 hD=>?_⟩)⟩
have kk:∀x u,x≠a.wv→H x=some u→H2 x=some u:=λx u nx e=>s2 _ _ (by rw[qC nx];exact e)
have fz:H2 a.wv=some (.frz o (.dK (dI m.V))):=s2 _ _ qI
have Dw:D≠a.wv:=λz=>by rw[z,fz]at hD;cases hD
have nDH:H D=none:=by rw[qC Dw]at nD;exact nD
refine qF6 (D:=D) (λi H3=>H3 a.wv=some (.frz o (.dK (dI m.V)))∧(∀x u,x≠a.wv→H x=some u→H3 x=some u)∧H3 D=some (.lst ((hdN (m.V.take i)).map V.int))) ⟨fz,kk,hD⟩ (λi H3 hp=>hp.1) (λi kv H3 hk hp=>?_) (λH3 hp=>?_)
·obtain⟨fz3,k3,hd⟩:=hp;have hi:i<m.V.length:=by have:=(kC.mp hk).1;rw[q6V]at this;exact this
 obtain rfl:((Sum.inl m.V[i].1:Key),V.int m.V[i].2)=kv:=by
  have e:(dI m.V)[i]?=some ((Sum.inl m.V[i].1:Key),V.int m.V[i].2):=by unfold dI;rw[mD,kE hi];rfl
  rw[e]at hk;exact kZ hk
 have tk:m.V.take (i+1)=m.V.take i++[m.V[i]]:=(kW hi).symm;show q31 _ (V.int m.V[i].1) _ _ _;refine⟨_,rfl,rfl,_,rfl,?_⟩;rw[yG];by_cases e:m.V[i].1=64
 ·rw[hC e];refine iteF ?_;refine⟨fz3,k3,?_⟩;have:hdN (m.V.take (i+1))=hdN (m.V.take i):=by unfold hdN;rw[tk,mM,gA];simp[e]
  rw[this];exact hd
 rw[hU e];refine iteT ?_;refine⟨_,rfl,_,hd,?_,?_,λx u nx e'=>?_,?_⟩
 ·rw[hG];have l2:(hdN (m.V.take i)).length≤65:=by unfold hdN;refine mO (mC _ _) ?_;rw[hG,gE];lia
  have:(65:Nat)<sizeLine:=by decide
  lia
 ·rw[qC Dw.symm];exact fz3
 ·rw[qC (qF e' nDH)];exact k3 _ _ nx e'
 have:hdN (m.V.take (i+1))=hdN (m.V.take i)++[m.V[i].1]:=by unfold hdN;rw[tk,mM,gA];simp[e]
 rw[qI,this,mM];rfl
obtain⟨fz3,k3,hd⟩:=hp
rw[q6V,gF]at hd
refine⟨o,_,fz3,?_⟩
have sH:Same H (upd H3 a.wv (.dK (dI m.V))):=qF7 hb.w k3
have hd4:(upd H3 a.wv (.dK (dI m.V))) D=some (.lst ((hdN m.V).map V.int)):=by rw[qC Dw];exact hd
generalize upd H3 a.wv (.dK (dI m.V))=H4 at sH hd4 ⊢
refine⟨D,hdN m.V,rfl,SqL.of hd4,by lia,λns pp pw l H5 n5 s5 h5=>?_⟩
exact q l ns H5 (sH.trans s5) (sH.free n5) h5 pp pw)
structure HeldIs(q:QM)(ns:List Int):Prop where
pm:ns.Perm (hdN q.V)
so:ns.Pairwise (·≤·)
inductive spHd(t:Adr)(vs:List V)(H:Hp)(Q:VK)(E_:XK):Prop
|mk:∀x r2 r3 r4 r5 m q,vs=[.ref x.s]→StAt t H x r2 r3 r4 r5 m q→Fit m q→(hdN q.V).length<64→(∀l ns H',HeldIs q ns→Same H H'→H l=none→H' l=some (.lst (List.map V.int ns))→Q (.ref l) H')→spHd t vs H Q E_
theorem q0J(T:Txt K mg t)(S:Fns K t):S.tF.Ok0 P w mg base 2 (spHd t):=by(
refine S.tF.F.ok0 q7B λcdv A _ s H vs Q E hr h=>?_
obtain⟨x,r2,r3,r4,r5,m,q,rfl,hs,ft,h64,k⟩:=h
refine⟨_,(qD (qL (j0 (qJ (pv 0) rfl) T.fE T.aD4 (q9A T S).mono hr S.aBW.b .nil qK))),?_⟩
try dsimp-beta-proj-iota-zeta-eta only[wishK,cxK]
exact(iV rfl (iF hs.o T.fB T.fG rfl (iM hs.bk.o rfl ⟨x.k,q,rfl,hs.bk,ft.oq,h64,λl ns H' s' n' h' pm so=>k l ns H' ⟨pm,so⟩ s' n' h'⟩))))
inductive spCs(t:Adr)(vs:List V)(H:Hp)(Q:VK)(E:XK):Prop
|mk:∀x r3 r4 r5 m q v,∀sh:Int,vs=[.ref x.s,v]→StAt t H x (.int sh) r3 r4 r5 m q→Knd H v→(if inB v 0 (sh-1)=true then Q .non H else False)→spCs t vs H Q E
theorem vS(T:Txt K mg t)(S:Fns K t):S.f9.Ok0 P w mg base 3 (spCs t):=by(
refine S.f9.F.ok0 q2C λcdv A _ s H vs Q E hr h=>?_
obtain⟨x,r3,r4,r5,m,q,v,sh,rfl,hs,kn,k⟩:=h
refine⟨_,(qD (jC (uG (yM (qX (jL T S).mono hr rfl T.fL T.fK S.fT.b .nil qK (qA (pv 1) (qA qG (qA (qQ vE (qJ (qJ (pv 0) rfl) rfl) qG) qE)))))) (qD jH) qS)),?_⟩
try dsimp-beta-proj-iota-zeta-eta only[wishK,cxK]
refine⟨_,rfl,iV rfl (iF hs.o T.fB T.fF rfl (iF hs.te T.fH T.t6 rfl (iI ⟨v,_,_,rfl,kn,_,rfl,?_⟩)))⟩
cases z:inB v 0 (sh-1)with
|true=>rw[z,kL rfl]at k;exact iteF k
|false=>rw[z,kJ (by decide)]at k;exact k.elim)
theorem qAI(T:Txt K mg t)(S:Fns K t):S.aCV.Ok0 P w mg base 3 (λvs H Q _=>∃v,vs=[v]∧Knd H v∧Q (.bl (inB v 0 (10 ^ 30-1))) H):=by(
refine S.aCV.F.ok0 qAC λcdv A _ s H vs Q E hr h=>?_
obtain⟨v,rfl,kn,k⟩:=h
refine⟨_,(qD (qL (qX (jL T S).mono hr rfl T.fL T.fK S.fT.b .nil qK (qA (pv 0) (qA qG (qA (qQ vE (qQ qDP qG qG) qG) qE)))))),?_⟩
try dsimp-beta-proj-iota-zeta-eta only[wishK,cxK]
exact⟨_,rfl,iI ⟨⟨by decide,by decide,by decide⟩,iI ⟨v,_,_,rfl,kn,k⟩⟩⟩)
noncomputable def hold(q:QM)(s:Int):Bool:=decide (s∈hdN q.V)
theorem q4C{s:Int}:∀{ns:List Int},inV (.int s) (ns.map V.int)=decide (s∈ns)
| []=>rfl
|n::r=>by
 have ih:=q4C (s:=s) (ns:=r);unfold inV at ih ⊢;rw[mQ,wD,ih];by_cases e:n=s
 ·subst e;simp[eqV]
 have e':¬s=n:=λz=>e z.symm;simp[eqV,e,e']
theorem qCU{ns:List Int}:(ns.map V.int).all q1J=true:=by(
rw[dM]
intro v hv
obtain⟨n,_,rfl⟩:=kP.mp hv
rfl)
theorem HeldIs.hold{q:QM}{ns:List Int}(h:HeldIs q ns)(s:Int):decide (s∈ns)=hold q s:=by(
unfold W1.hold
by_cases z:s∈ns
·rw[hC z,hC (h.pm.mem_iff.mp z)]
rw[hU z,hU (λy=>z (h.pm.mem_iff.mpr y))])
inductive spSh(t:Adr)(vs:List V)(H:Hp)(Q:VK)(E:XK):Prop
|mk:∀x r2 r4 r5 m q,∀s sr:Int,vs=[.ref x.s,.int s]→StAt t H x r2 (.int sr) r4 r5 m q→Fit m q→(hdN q.V).length<64→(∀H',Same H H'→if hold q s=false∧sr≤((hdN q.V).length:Int)then False else Q .non H')→spSh t vs H Q E
theorem q2I(T:Txt K mg t)(S:Fns K t):S.iX.Ok0 P w mg base 3 (spSh t):=by(
refine S.iX.F.ok0 vR λcdv A _ s H vs Q E hr h=>?_
obtain⟨x,r2,r4,r5,m,q,s,sr,rfl,hs,ft,h64,k⟩:=h
refine⟨_,(qB (qV (i:=2) vR.nd rfl (Or.inl rfl) (j0 (pv 0) T.fB T.aA2 (q0J T S).mono hr S.tF.b .nil qK)) (qD (jC (PW.pt (q36 (qM q3U (pv 1) (pv 2) rfl) (q0X (qM qBU (jA jB (by rfl) T.aAS gX (qA (pv 2) qE)) (qJ (qJ (pv 0) rfl) rfl) (qP _))))) (qD jH) qS))),?_⟩
try dsimp-beta-proj-iota-zeta-eta only[wishK,cxK]
refine(iV rfl (iM hs.o rfl ⟨x,r2,.int sr,r4,r5,m,q,rfl,hs,ft,h64,λl ns H1 hn s1 n1 h1=>?_⟩))
refine⟨_,rfl,_,rfl,?_⟩
refine⟨l,_,rfl,.inl (SqL.of h1),rfl,qCU,_,rfl,?_⟩
have kk:=k H1 s1
have e:inV (.int s) (ns.map V.int)=hold q s:=by rw[q4C];exact hn.hold s
show if(!inV (.int s) (ns.map V.int))=true then _ else _
rw[e]
cases z:hold q s with
|true=>rw[z,kJ (λy=>by cases y.1)]at kk;exact iteF kk
|false=>
 refine iteT ?_;refine⟨_,rfl,l,_,rfl,.inl (SqL.of h1),iV rfl (iF (hs.same s1).o T.fB T.fF rfl (iF (hs.same s1).te T.fH T.aAN rfl (iI ⟨_,rfl,?_⟩)))⟩;rw[hG,hn.pm.length_eq];by_cases y:sr≤((hdN q.V).length:Int)
 ·rw[hC y];rw[kL ⟨z,y⟩]at kk;exact kk.elim
 rw[hU y];rw[kJ (λw=>y w.2)]at kk;exact iteF kk)
inductive spRs(t:Adr)(vs:List V)(H:Hp)(Q:VK)(E_:XK):Prop
|mk:∀x r2 r3 r5 m q,∀ie:Int,vs=[.ref x.s]→StAt t H x r2 r3 (.int ie) r5 m q→Q (.int (1+ie)) H→spRs t vs H Q E_
theorem q0T(T:Txt K mg t)(S:Fns K t):S.oE.Ok0 P w mg base 1 (spRs t):=by(
refine S.oE.F.ok0 q4U λcdv A _ s H vs Q E hr h=>?_
obtain⟨x,r2,r3,r5,m,q,ie,rfl,hs,k⟩:=h
refine⟨_,(qD (qL (qQ u8 qG (qJ (qJ (pv 0) rfl) rfl)))),?_⟩
try dsimp-beta-proj-iota-zeta-eta only[wishK,cxK]
exact(iV rfl (iF hs.o T.fB T.fF rfl (iF hs.te T.fH T.aAE rfl (iI k)))))
inductive spRd(t:Adr)(vs:List V)(H:Hp)(Q:VK)(E_:XK):Prop
|mk:∀x r2 r3 r5 m q,∀ie:Int,vs=[.ref x.s]→StAt t H x r2 r3 (.int ie) r5 m q→Fit m q→(∀l H',FreeIs q.B m.br m.cl q.fi l→Keep [t.e9] H H'→TbF t H'→Q (.bl (rdy ie l (jR q.B q.P m.br q.fi))) H')→spRd t vs H Q E_
theorem q6Y(T:Txt K mg t)(S:Fns K t)(B:BmIn base mg):S.aAU.Ok0 P w mg base 9 (spRd t):=by(
refine S.aAU.F.ok0 q2B λcdv A _ s H vs Q E hr h=>?_
obtain⟨x,r2,r3,r5,m,q,ie,rfl,hs,ft,k⟩:=h
refine⟨_,(qB (qV (i:=1) q2B.nd rfl (Or.inl rfl) (qQ vE (jA jB (by rfl) T.aAS gX (qA (j0 (pv 0) T.fB T.aAV (q0H T S B).mono hr S.tY .nil qK) qE)) (j0 (pv 0) T.fB T.aAH (q0T T S).mono hr S.oE.b .nil qK))) (qD (qL (qI7 (uM qDR (pv 1) qG (qP _)) (zH (zI (uM u9 (pv 1) qG (qP _)) (zH (uM q2N (j0 (pv 0) T.fB T.aA0 (q0I T S).mono hr S.p6.b .nil qK) yC (qP _))))))))),?_⟩
try dsimp-beta-proj-iota-zeta-eta only[wishK,cxK]
refine(iV rfl (iM hs.o rfl ⟨x,r2,r3,_,r5,m,q,rfl,hs,ft,λl p H1 hl np k1 tb1 h1=>?_⟩))
have hs1:=hs.kT k1 tb1
refine⟨p,_,rfl,.inl (SqL.of h1),iV rfl (iM hs1.o rfl ⟨x,r2,r3,r5,m,q,ie,rfl,hs1,_,_,rfl,rfl,?_⟩)⟩
refine⟨_,rfl,_,_,rfl,rfl,_,rfl,?_⟩
have kk:=λH' s'=>k l H' hl (k1.trans (Keep.same s')) (tb1.same s')
unfold rdy at kk
rw[hG]
by_cases z:(l.length:Int)-(1+ie)>0
·rw[hC z];refine iteT ?_;have:=kk H1 (Same.refl H1);rw[hC z]at this;exact this
rw[hU z]
refine iteF ?_
rw[hU z]at kk
refine⟨_,rfl,rfl,_,rfl,?_⟩
rw[yG]
by_cases e0:(l.length:Int)-(1+ie)=0
·rw[hC e0];rw[hC e0]at kk;refine iteT ?_;refine(iV rfl (iM hs1.o rfl ⟨x,r2,r3,_,r5,m,q,rfl,hs1,ft,λH2 s2=>⟨rfl,?_⟩⟩));have:=kk H2 s2;cases hp:jR q.B q.P m.br q.fi with
 |none=>rw[hp]at this;exact this
 |some b=>rw[hp]at this;exact this
rw[hU e0]
rw[hU e0]at kk
refine iteF ?_
exact kk H1 (Same.refl H1))
inductive spTy(t:Adr)(vs:List V)(H:Hp)(Q:VK)(E_:XK):Prop
|mk:∀x r2 r3 r4 r5 m q,∀b:Nat,vs=[.ref x.s,.int (b:Int)]→StAt t H x r2 r3 r4 r5 m q→Fit m q→b<q.B→NewO H (.tup (tyL m q b)) Q→spTy t vs H Q E_
theorem q6Z(T:Txt K mg t)(S:Fns K t):S.aAR.Ok0 P w mg base 5 (spTy t):=by(
refine S.aAR.F.ok0 q6P λcdv A _ s H vs Q E hr h=>?_
obtain⟨x,r2,r3,r4,r5,m,q,b,rfl,hs,ft,hb,k⟩:=h
have eB:=ft.eB
refine⟨_,(qD (qL (yP (qA (pv 1) (qA (qW qZ (qJ (qJ (pv 0) rfl) rfl) (pv 1) (λ_ _=>rfl)) (qA (jG (qJ (pv 0) rfl) T.fD T.oW (vZ T S).mono hr S.i6.b .nil qK (qA (pv 1) qE)) (qA (qW qZ (qJ (qJ (pv 0) rfl) rfl) (pv 1) (λ_ _=>rfl)) qE))))))),?_⟩
try dsimp-beta-proj-iota-zeta-eta only[wishK,cxK]
refine⟨_,rfl,iV rfl (iF hs.o T.fB T.fG rfl (iF hs.bk.o T.fE T.oR rfl ⟨_,rfl,iL (k:=_) (v:=_) (SqL.of hs.bk.l) (atV (by rw[ft.oq.ll];exact hb)) ?_⟩))⟩
refine(iV rfl (iF hs.o T.fB T.fU rfl (iM hs.ch.ins rfl ⟨_,rfl,x.c,x.a,m,_,rfl,hs.ch,ft.ok,by lia,by lia,?_⟩)))
rw[mH]
refine(iV rfl (iF hs.o T.fB T.fG rfl (iF hs.bk.o T.fE T.oO rfl ⟨_,rfl,iL (k:=_) (v:=_) (SqL.of hs.bk.b) (atV (by rw[ft.oq.lo];exact hb)) ?_⟩)))
exact⟨sz4,k⟩)
inductive spSc(t:Adr)(vs:List V)(H:Hp)(Q:VK)(E_:XK):Prop
|mk:∀x r2 r3 r5 m q,∀ie:Int,vs=[.ref x.s]→StAt t H x r2 r3 (.int ie) r5 m q→Fit m q→(∀l H',FreeIs q.B m.br m.cl q.fi l→Keep [t.e9] H H'→TbF t H'→Q (.int (spcN ie l q.P q.fi (jR q.B q.P m.br q.fi))) H')→spSc t vs H Q E_
theorem q70(T:Txt K mg t)(S:Fns K t)(B:BmIn base mg):S.aA1.Ok0 P w mg base 9 (spSc t):=by(
refine S.aA1.F.ok0 q2D λcdv A _ s H vs Q E hr h=>?_
obtain⟨x,r2,r3,r5,m,q,ie,rfl,hs,ft,k⟩:=h
have eP:=ft.eP
refine⟨_,(qB (jC (qM qBU (jA jB (by rfl) T.aAS gX (qA (j0 (pv 0) T.fB T.aAV (q0H T S B).mono hr S.tY .nil qK) qE)) (j0 (pv 0) T.fB T.aAH (q0T T S).mono hr S.oE.b .nil qK) (qP _)) (qD (qL (qJ (qJ (pv 0) rfl) rfl))) qS) (qB (qV (i:=1) q2D.nd rfl (Or.inl rfl) (j0 (pv 0) T.fB T.aA0 (q0I T S).mono hr S.p6.b .nil qK)) (qB (jC (qM q38 (pv 1) yC (qP _)) (qD (qL qG)) qS) (qD (qL (qQ vE (qJ (qJ (pv 0) rfl) rfl) (qW qZ (qJ (qJ (pv 0) rfl) rfl) (pv 1) (λ_ _=>rfl)))))))),?_⟩
try dsimp-beta-proj-iota-zeta-eta only[wishK,cxK]
refine(iV rfl (iM hs.o rfl ⟨x,r2,r3,_,r5,m,q,rfl,hs,ft,λl p H1 hl np k1 tb1 h1=>?_⟩))
have hs1:=hs.kT k1 tb1
refine⟨p,_,rfl,.inl (SqL.of h1),iV rfl (iM hs1.o rfl ⟨x,r2,r3,r5,m,q,ie,rfl,hs1,_,_,rfl,rfl,_,rfl,?_⟩)⟩
have kk:=λH' s'=>k l H' hl (k1.trans (Keep.same s')) (tb1.same s')
unfold spcN at kk
rw[hG]
by_cases z:1+ie≤(l.length:Int)
·rw[hC (show(l.length:Int)≥1+ie from z)];refine iteT ?_;refine(iV rfl (iF hs1.o T.fB T.fF rfl (iF hs1.te T.fH T.fI rfl ?_)));have:=kk H1 (Same.refl H1);rw[kL z,←eP]at this;exact this
rw[hU (show ¬(l.length:Int)≥1+ie from z)]
refine iteF ?_
refine(iV rfl (iM hs1.o rfl ⟨x,r2,r3,_,r5,m,q,rfl,hs1,ft,λH2 s2=>?_⟩))
have kk:=kk H2 s2
rw[kJ z]at kk
cases hp:jR q.B q.P m.br q.fi with
|none=>rw[hp]at kk;exact⟨_,rfl,rfl,_,rfl,iteT kk⟩
|some b=>rw[hp]at kk;have hs2:=hs1.same s2;refine⟨_,rfl,rfl,_,rfl,iteF ?_⟩;refine(iV rfl (iF hs2.o T.fB T.fF rfl (iF hs2.te T.fH T.fI rfl (iV rfl (iF hs2.o T.fB T.fG rfl (iF hs2.bk.o T.fE T.fM rfl ⟨_,rfl,iL (k:=_) (v:=_) (SqL.of hs2.bk.f) (atV (by rw[ft.oq.lf];exact(q11 hp).1)) (iI ?_)⟩))))));rw[eP];exact kk)
noncomputable abbrev Tys(H:Hp)(m:CM)(q:QM):List V→List Nat→Prop:=Paired λv b=>∃p,v=.ref p∧H p=some (.tup (tyL m q b))
theorem qAJ{F:List Addr}{H H':Hp}{m:CM}{q:QM}(k:Keep F H H'){rs:List V}{L:List Nat}(r:Tys H m q rs L):Tys H' m q rs L:=Paired.mapP r λv d ⟨p,e,h⟩=>⟨p,e,k.tp _ _ h⟩
inductive spFo(t:Adr)(vs:List V)(H:Hp)(Q:VK)(E_:XK):Prop
|mk:∀x r2 r3 r5 m q,∀ie:Int,vs=[.ref x.s]→StAt t H x r2 r3 (.int ie) r5 m q→Fit m q→(∀l p rs H',FreeIs q.B m.br m.cl q.fi l→H p=none→Keep [t.e9] H H'→TbF t H'→H' p=some (.lst rs)→Tys H' m q rs ((yB q.B q.P m.br q.fi).filter λb=>decide (q.lv.getD b 0≤spcN ie l q.P q.fi (jR q.B q.P m.br q.fi)))→Q (.ref p) H')→spFo t vs H Q E_
theorem uU(T:Txt K mg t)(S:Fns K t)(B:BmIn base mg):S.fY.Ok0 P w mg base 10 (spFo t):=by(
refine S.fY.F.ok0 yT λcdv A _ s H vs Q E hr h=>?_
obtain⟨x,r2,r3,r5,m,q,ie,rfl,hs,ft,k⟩:=h
have b2:=ft.oq.b2
have eP:=ft.eP
have sz:(16:Nat)<sizeLine:=by decide
have fl:(yB q.B q.P m.br q.fi).length≤16:=mO (mC _ _) (mO (q1U (B:=q.B) (br:=m.br)) b2)
refine⟨_,(qB (qV (i:=1) yT.nd rfl (Or.inr rfl) (j0 (pv 0) T.fB T.aDN (q70 T S B).mono hr S.aA1.b .nil qK)) (qB (zK (i:=2) ["self","block"] [0] rfl (jF (j0 (pv 0) T.fB T.tO (vL T S).mono hr S.oG.b .nil qK)) (λ_ _ _ _ _=>(qU (i:=1) (show List.Nodup (["self","block"]:List Str)from by decide) rfl (Or.inl rfl))) (λ_ _ _ _ _=>(yF (qM u9 (qW (q6C (K:=K) rfl) (v3 (K:=K) rfl (v3 (K:=K) rfl (pv 0) rfl) rfl) (pv 1) (λ_ _=>rfl)) (v3 (K:=K) rfl (v3 (K:=K) rfl (pv 0) rfl) rfl) (qP _)))) (λ_ _ _ _ _=>(pv 1)) (by kernel_rfl) (jD (by decide)) yT.nd rfl (Or.inl rfl)) (qB (zK (i:=3) ["self","block"] [0] rfl (jF (pv 2)) (λ_ _ _ _ _=>(qU (i:=1) (show List.Nodup (["self","block"]:List Str)from by decide) rfl (Or.inl rfl))) (λ_ _ _ _ _=>zX) (λ_ _ _ _ _=>(jG (pv 0) T.fB T.aDE (q6Z T S).mono hr S.aAR.b .nil qK (qA (pv 1) qE))) (by kernel_rfl) (jD (by decide)) yT.nd rfl (Or.inl rfl)) (qD (qL (y6 ["space","tally"] [1] rfl (jF (pv 3)) (λ_ _ _ _ _=>(qU (i:=1) (show List.Nodup (["space","tally"]:List Str)from by decide) rfl (Or.inl rfl))) (λ_ _ _ _ _=>(yF (qM qBT (qW (yL (K:=K) rfl) (pv 1) qG (λ_ _=>rfl)) (pv 0) (qP _)))) (λ_ _ _ _ _=>(pv 1)) (by kernel_rfl) (jD (by decide)))))))),?_⟩
try dsimp-beta-proj-iota-zeta-eta only[wishK,cxK]
refine(iV rfl (iM hs.o rfl ⟨x,r2,r3,r5,m,q,ie,rfl,hs,ft,λl H1 hl k1 tb1=>?_⟩))
have hs1:=hs.kT k1 tb1
have kk:=λp rs H' np k'=>k l p rs H' hl np (k1.trans k')
generalize spcN ie l q.P q.fi (jR q.B q.P m.br q.fi)=sp at kk
refine(iV rfl (iM hs1.o rfl ⟨x,r2,r3,_,r5,m,q,rfl,hs1,ft,λp H2 n2 s2 h2=>?_⟩))
refine⟨p,rfl,⟨_,SqL.of h2⟩,λD H3 nD s3 hD=>?_⟩
refine yV (K:=K) (xs:=(uL q.B m.br).map vn) (D:=D) (λi H3=>Same H2 H3∧H3 D=some (.lst ((((uL q.B m.br).take i).filter λb=>decide (q.fi.getD b 0=(q.P:Int))).map vn))) ⟨s3,hD⟩ (λi H3 hp=>SqL.of (hp.1 _ _ h2)) (λi y H3 hy hp=>?_) (λH3 hp=>?_)
·obtain⟨sm,hd⟩:=hp;have h3:=(hs1.same s2).same sm;rw[mD]at hy;obtain⟨b,hb,rfl⟩:=mK.mp hy;have hi:=(kC.mp hb).1;have mb:=q0N.mp (gP hb);refine(iV rfl (iF h3.o T.fB T.fG rfl (iF h3.bk.o T.fE T.fM rfl ⟨_,rfl,iL (k:=_) (v:=_) (SqL.of h3.bk.f) (atV (by rw[ft.oq.lf];exact mb.1)) (iV rfl (iF h3.o T.fB T.fF rfl (iF h3.te T.fH T.fI rfl ⟨rfl,_,rfl,?_⟩)))⟩)));rw[yG,eP,←kW hi,gA,mM];obtain rfl:(uL q.B m.br)[i]=b:=(kC.mp hb).2;by_cases z:q.fi.getD (uL q.B m.br)[i] 0=(q.P:Int)
 ·rw[hC z];refine iteT ?_;refine⟨_,rfl,_,hd,?_,λb o e=>?_,?_⟩
  ·rw[hG];have l1:(((uL q.B m.br).take i).filter λb=>decide (q.fi.getD b 0=(q.P:Int))).length≤q.B:=mO (mC _ _) (mO (by rw[gE];lia) (q1U (B:=q.B) (br:=m.br)));lia
  ·rw[qC (qF e nD)];exact sm _ _ e
  rw[qI,mU,hC z];rfl
 rw[hU z];refine iteF ⟨sm,?_⟩;rw[hd,mU,hU z];simp
obtain⟨sm,hd⟩:=hp
rw[hG,gF]at hd
have hd:H3 D=some (.lst ((yB q.B q.P m.br q.fi).map vn)):=hd
have s13:=s2.trans sm
have h3:=hs1.same s13
refine⟨_,rfl,D,rfl,⟨_,SqL.of hd⟩,λD2 H4 nD2 s4 hD2=>?_⟩
refine q6E (K:=K) (xs:=(yB q.B q.P m.br q.fi).map vn) (D:=D2) (λi H5=>∃rs,Same H3 H5∧H5 D2=some (.lst rs)∧Tys H5 m q rs ((yB q.B q.P m.br q.fi).take i)) ⟨_,s4,hD2,.nil⟩ (λi H5 hp=>by obtain⟨rs,sm5,_⟩:=hp;exact SqL.of (sm5 _ _ hd)) (λi y H5 hy hp=>?_) (λH5 hp=>?_)
·obtain⟨rs,sm5,hd5,ty⟩:=hp;have h5:=h3.same sm5;rw[mD]at hy;obtain⟨b,hb,rfl⟩:=mK.mp hy;have hi:=(kC.mp hb).1;have mb:=q0N.mp (mV.mp (gP hb)).1;obtain rfl:(yB q.B q.P m.br q.fi)[i]=b:=(kC.mp hb).2;have ln:=ty.len;rw[gE]at ln;refine(iV rfl (iM h5.o rfl ⟨_,rfl,x,r2,r3,_,r5,m,q,_,rfl,h5,ft,mb.1,λtp H6 n6 s6 h6=>⟨_,s6 _ _ hd5,by lia,?_⟩⟩));have ne:∀b o,H6 b=some (.tup o)→b≠D2:=λb o e z=>by rw[z,s6 _ _ hd5]at e;cases e
 refine⟨_,λb o e=>?_,qI,?_⟩
 ·rw[qC (qF e nD2)];exact s6 _ _ (sm5 _ _ e)
 rw[←kW hi];refine L2.Paired.snoc (Paired.mapP ty λv d ⟨p,e,h⟩=>⟨p,e,?_⟩) ⟨tp,rfl,?_⟩
 ·rw[qC (ne _ _ (s6 _ _ h))];exact s6 _ _ h
 rw[qC (ne _ _ h6)];exact h6
obtain⟨rs,sm5,hd5,ty⟩:=hp
rw[hG,gF]at ty
have s15:=s13.trans sm5
have h5:=hs1.same s15
refine⟨_,rfl,D2,rfl,⟨_,SqL.of hd5⟩,λD3 H6 nD3 s6 hD3=>?_⟩
refine yV (K:=K) (xs:=rs) (D:=D3) (λi H7=>∃rs',Same H5 H7∧H7 D3=some (.lst rs')∧rs'.length≤i∧Tys H5 m q rs' (((yB q.B q.P m.br q.fi).take i).filter λb=>decide (q.lv.getD b 0≤sp))) ⟨_,s6,hD3,kO _,.nil⟩ (λi H7 hp=>by obtain⟨_,sm7,_⟩:=hp;exact SqL.of (sm7 _ _ hd5)) (λi y H7 hy hp=>?_) (λH7 hp=>?_)
·obtain⟨rs',sm7,hd7,ln,ty'⟩:=hp;obtain⟨b,hb,tp,rfl,htp⟩:=Paired.at ty hy;have hi:=(kC.mp hb).1;obtain rfl:(yB q.B q.P m.br q.fi)[i]=b:=(kC.mp hb).2;refine⟨_,rfl,iT (k:=_) (v:=_) (SqT.of (sm7 _ _ htp)) rfl ⟨_,rfl,iI ⟨_,rfl,?_⟩⟩⟩;have ln':=ty.len;have hir:=(kC.mp hy).1;have e1:((yB q.B q.P m.br q.fi).take (i+1)).filter (λb=>decide (q.lv.getD b 0≤sp))=((yB q.B q.P m.br q.fi).take i).filter (λb=>decide (q.lv.getD b 0≤sp))++(if q.lv.getD (yB q.B q.P m.br q.fi)[i] 0≤sp then[(yB q.B q.P m.br q.fi)[i]]else[]):=by
  rw[←kW hi,gA,mU];by_cases z:q.lv.getD (yB q.B q.P m.br q.fi)[i] 0≤sp
  ·rw[hC z,kL z];rfl
  rw[hU z,kJ z];rfl
 rw[e1];by_cases z:q.lv.getD (yB q.B q.P m.br q.fi)[i] 0≤sp
 ·rw[hC z,kL z];refine iteT ?_;refine⟨_,rfl,_,hd7,by lia,_,λb o e=>?_,qI,?_,L2.Paired.snoc ty' ⟨tp,rfl,htp⟩⟩
  ·rw[qC (qF e nD3)];exact sm7 _ _ e
  rw[mL];exact wA ln 1
 rw[hU z,kJ z,gU];exact iteF ⟨_,sm7,hd7,by lia,ty'⟩
obtain⟨rs',sm7,hd7,ln,ty'⟩:=hp
rw[ty.len,gF]at ty'
have s17:=s15.trans sm7
refine kk D3 rs' H7 ?_ (Keep.same s17) (tb1.same s17) hd7 (qAJ (Keep.same (F:=[]) sm7) ty')
refine k1.none (λz=>?_) (Same.free s15 nD3)
obtain⟨ps',hT',_⟩:=tb1.same s15
rw[kD.mp z,hT']at nD3
cases nD3)
theorem qAK{L:List Nat}{p:Nat→Bool}{i:Nat}(hi:i<L.length):(L.take (i+1)).filter p=(L.take i).filter p++(if p L[i]=true then[L[i]]else[]):=by rw[←kW hi,gA,mU];rfl
inductive spOp(t:Adr)(vs:List V)(H:Hp)(Q:VK)(E_:XK):Prop
|mk:∀x r2 r3 r5 m q,∀ie:Int,vs=[.ref x.s]→StAt t H x r2 r3 (.int ie) r5 m q→Fit m q→(∀l p rs H',FreeIs q.B m.br m.cl q.fi l→H p=none→Keep [t.e9] H H'→TbF t H'→H' p=some (.lst rs)→Tys H' m q rs (optN ie m q l)→Q (.ref p) H')→spOp t vs H Q E_
theorem q0U(T:Txt K mg t)(S:Fns K t)(B:BmIn base mg):S.iB.Ok0 P w mg base 11 (spOp t):=by(
refine S.iB.F.ok0 q0Q λcdv A _ s H vs Q E hr h=>?_
obtain⟨x,r2,r3,r5,m,q,ie,rfl,hs,ft,k⟩:=h
have b2:=ft.oq.b2
have eP:=ft.eP
have sz:(16:Nat)<sizeLine:=by decide
have fl:(yB q.B q.P m.br q.fi).length≤16:=mO (mC _ _) (mO (q1U (B:=q.B) (br:=m.br)) b2)
refine⟨_,(qD (qL (y6 ["self","tally"] [0] rfl (jF (j0 (pv 0) T.fB T.i7 (uU T S B).mono hr S.fY.b .nil qK)) (λ_ _ _ _ _=>(qU (i:=1) (show List.Nodup (["self","tally"]:List Str)from by decide) rfl (Or.inl rfl))) (λ_ _ _ _ _=>(yF (qM q1O (qW (yL (K:=K) rfl) (pv 1) qG (λ_ _=>rfl)) (v3 (K:=K) rfl (v3 (K:=K) rfl (pv 0) rfl) rfl) (qP _)))) (λ_ _ _ _ _=>(pv 1)) (by kernel_rfl) (jD (by decide))))),?_⟩
try dsimp-beta-proj-iota-zeta-eta only[wishK,cxK]
refine(iV rfl (iM hs.o rfl ⟨x,r2,r3,r5,m,q,ie,rfl,hs,ft,λl p0 rs H5 hl np k1 tb1 hd5 ty=>?_⟩))
have h5:=hs.kT k1 tb1
have kk:=λp rs H' np=>k l p rs H' hl np
unfold optN at kk
have fl':=mO (mC (λb=>decide (q.lv.getD b 0≤spcN ie l q.P q.fi (jR q.B q.P m.br q.fi))) _) fl
generalize (yB q.B q.P m.br q.fi).filter (λb=>decide (q.lv.getD b 0≤spcN ie l q.P q.fi (jR q.B q.P m.br q.fi)))=L at kk ty fl'
refine⟨p0,rfl,⟨_,SqL.of hd5⟩,λD3 H6 nD3 s6 hD3=>?_⟩
refine yV (K:=K) (xs:=rs) (D:=D3) (λi H7=>∃rs',Same H5 H7∧H7 D3=some (.lst rs')∧rs'.length≤i∧Tys H5 m q rs' ((L.take i).filter λb=>decide (q.lv.getD b 0<(q.P:Int)))) ⟨_,s6,hD3,kO _,.nil⟩ (λi H7 hp=>by obtain⟨_,sm7,_⟩:=hp;exact SqL.of (sm7 _ _ hd5)) (λi y H7 hy hp=>?_) (λH7 hp=>?_)
·obtain⟨rs',sm7,hd7,ln,ty'⟩:=hp;obtain⟨b,hb,tp,rfl,htp⟩:=Paired.at ty hy;have hi:=(kC.mp hb).1;obtain rfl:L[i]=b:=(kC.mp hb).2;have h7:=h5.same sm7;refine⟨_,rfl,iT (k:=_) (v:=_) (SqT.of (sm7 _ _ htp)) rfl (iV rfl (iF h7.o T.fB T.fF rfl (iF h7.te T.fH T.fI rfl (iI ⟨_,rfl,?_⟩))))⟩;rw[eP,qAK hi];by_cases z:q.lv.getD L[i] 0<(q.P:Int)
 ·rw[hC z,kL rfl];refine iteT ?_;refine⟨_,rfl,_,hd7,by lia,_,λb o e=>?_,qI,?_,L2.Paired.snoc ty' ⟨tp,rfl,htp⟩⟩
  ·rw[qC (qF e nD3)];exact sm7 _ _ e
  rw[mL];exact wA ln 1
 rw[hU z,kJ (by decide),gU];exact iteF ⟨_,sm7,hd7,by lia,ty'⟩
obtain⟨rs',sm7,hd7,ln,ty'⟩:=hp
rw[ty.len,gF]at ty'
refine kk D3 rs' H7 ?_ (k1.trans (Keep.same sm7)) (tb1.same sm7) hd7 (qAJ (Keep.same (F:=[]) sm7) ty')
refine k1.none (λz=>?_) nD3
obtain⟨ps',hT',_⟩:=tb1
rw[kD.mp z,hT']at nD3
cases nD3)
theorem _root_.L2.ChipAt.has{C c:Addr}{a:CA}{m:CM}{H:Hp}(h:ChipAt C H c a m){b:Addr}(hb:b∈a.li::foot c a):∃o,H b=some o∧(b≠c→∀C d f,o≠ .ins C d f):=by(
obtain⟨rs,er,_⟩:=h.rc
have hb:b=a.li∨b=c∨b=a.bo∨b=a.cl∨b=a.dc∨b=a.br∨b=a.rc:=by simpa[foot]using hb
rcases hb with rfl|rfl|rfl|rfl|rfl|rfl|rfl
·exact⟨_,h.li,λ_ _ _ _ z=>by cases z⟩
·exact⟨_,h.ins,λn=>absurd rfl n⟩
·exact⟨_,h.bo,λ_ _ _ _ z=>by cases z⟩
·exact⟨_,h.cl,λ_ _ _ _ z=>by cases z⟩
·exact⟨_,h.dc,λ_ _ _ _ z=>by cases z⟩
·exact⟨_,h.br,λ_ _ _ _ z=>by cases z⟩
exact⟨_,er,λ_ _ _ _ z=>by cases z⟩)
theorem StAt.off{H:Hp}{x:Sto}{r2 r3 r4 r5:V}{m:CM}{q:QM}(h:StAt t H x r2 r3 r4 r5 m q){p:Addr}(n:H p=none):p∉t.e9::sf x:=λz=>by(
obtain⟨rs,er,_⟩:=h.ch.rc
obtain⟨ps,hT,_⟩:=h.tb
have z:p=t.e9∨p=x.c∨p=x.a.bo∨p=x.a.cl∨p=x.a.dc∨p=x.a.br∨p=x.a.rc∨p=x.k.bk∨p=x.k.wv∨p=x.k.lv∨p=x.k.fi∨p=x.k.bo:=by simpa[sf,bf,foot]using z
rcases z with rfl|rfl|rfl|rfl|rfl|rfl|rfl|rfl|rfl|rfl|rfl|rfl
·rw[hT]at n;cases n
·rw[h.ch.ins]at n;cases n
·rw[h.ch.bo]at n;cases n
·rw[h.ch.cl]at n;cases n
·rw[h.ch.dc]at n;cases n
·rw[h.ch.br]at n;cases n
·rw[er]at n;cases n
·rw[h.bk.o]at n;cases n
·rw[h.bk.w]at n;cases n
·rw[h.bk.l]at n;cases n
·rw[h.bk.f]at n;cases n
rw[h.bk.b]at n;cases n)
inductive spPi(t:Adr)(vs:List V)(H:Hp)(Q:VK)(E:XK):Prop
|mk:∀x dx tm td c a r2 r3 r4 r5,∀m:CM,∀B P:Nat,vs=[.ref x,.ref c,.ref tm]→H x=some (.ins t.C_Even dx [])→H tm=some (.ins t.C_Terms td (teF (.int (B:Int)) (.int (P:Int)) r2 r3 r4 r5))→ChipAt t.C_Chip H c a m→m.bl=(B:Int)→m.pg=(P:Int)→B≤16→TbF t H→(∀k H',H' x=some (.ins t.C_Even dx [("chip",.ref c),("terms",.ref tm),("book",.ref k.bk)])→(∀ru pa H2,Keep [x] H' H2→H2 x=some (.ins t.C_Even dx [("chip",.ref c),("terms",.ref tm),("book",.ref k.bk),("rule",ru),("papers",pa)])→StAt t H2 ⟨x,dx,tm,td,c,a,k,ru,pa⟩ r2 r3 r4 r5 m (bk0 B P))→(∀b∈bf k,H b=none)→(∀b o,b≠x→H b=some o→H' b=some o)→Q .non H')→spPi t vs H Q E
theorem q7I(T:Txt K mg t)(S:Fns K t):S.aBH.Ok0 P w mg base 3 (spPi t):=by(
refine S.aBH.F.ok0 q79 λcdv A _ s H vs Q E hr h=>?_
obtain⟨x,dx,tm,td,c,a,r2,r3,r4,r5,m,B,P',rfl,hx,htm,hc,eB,eP,hB,tb,k⟩:=h
refine⟨_,(qB (jC (PW.pt (qBO (qM q7R (qJ (pv 2) rfl) (qJ (pv 1) rfl) (qP _)) (q8F (qM q7R (qJ (pv 2) rfl) (qJ (pv 1) rfl) (qP _))))) (qD jH) qS) (qB (jO (pv 0) (pv 1) rfl) (qB (jO (pv 0) (pv 2) rfl) (qD (jO (pv 0) (q5L T.aE3 (q97 T S).mono hr rfl T.aEW S.aB5.b .nil qK (qA (qJ (pv 1) rfl) (qA (qJ (pv 1) rfl) qE))) rfl))))),?_⟩
try dsimp-beta-proj-iota-zeta-eta only[wishK,cxK]
refine(iV rfl (iF htm T.fH T.iO rfl (iV rfl (iF hc.ins T.fD T.iC rfl ⟨rfl,_,rfl,?_⟩))))
rw[show(!decide (V.int (B:Int)=V.int m.bl))=false by rw[eB];simp]
refine iteF ?_
refine(iV rfl (iF htm T.fH T.fI rfl (iV rfl (iF hc.ins T.fD T.fW rfl ⟨rfl,_,rfl,?_⟩))))
rw[show(!decide (V.int (P':Int)=V.int m.pg))=false by rw[eP];simp]
refine iteF ?_
refine⟨_,rfl,_,rfl,x,_,dx,_,rfl,hx,T.fB,T.fU,by decide,?_⟩
refine⟨_,rfl,_,rfl,x,_,dx,_,rfl,qI,T.fB,T.fF,by show 1<1000;decide,?_⟩
rw[q8E]
have tx:tm≠x:=jZ htm hx (by intro z;injection z with z1 z2 z3;unfold teF at z3;cases z3)
have cx:c≠x:=jZ hc.ins hx (by intro z;injection z with z1 z2 z3;unfold chF at z3;cases z3)
have k1:∀b o,b≠x→H b=some o→(upd H x (.ins t.C_Even dx [("chip",.ref c),("terms",.ref tm)])) b=some o:=λb o nb e=>by rw[qC nb];exact e
have o1:(upd H x (.ins t.C_Even dx [("chip",.ref c),("terms",.ref tm)])) x=some (.ins t.C_Even dx [("chip",.ref c),("terms",.ref tm)]):=qI
have f1:∀b,(upd H x (.ins t.C_Even dx [("chip",.ref c),("terms",.ref tm)])) b=none→H b=none:=λb e=>by
 by_cases z:b=x
 ·rw[z,qI]at e;cases e
 rw[qC z]at e;exact e
rw[show putF "terms" (.ref tm) (putF "chip" (.ref c) ([]:List (Str×V)))=([("chip",V.ref c),("terms",V.ref tm)]:List (Str×V))from rfl]
generalize upd H x (.ins t.C_Even dx [("chip",.ref c),("terms",.ref tm)])=H1 at k1 o1 f1 ⊢
have hc1:=k1 _ _ cx hc.ins
refine(iV rfl (iF hc1 T.fD T.iC rfl (iV rfl (iF hc1 T.fD T.fW rfl (λk' kd nk nkd nn=>?_)))))
rw[eB,eP]
refine⟨k',kd,B,P',rfl,hB,qI,λka H3 e1 e2 hb3 ds fr up=>⟨rfl,?_⟩⟩
have s0:Same H1 (upd (upd H1 kd (.own k')) k' (.ins t.C_Book kd [])):=q8O nk nkd
have up':∀b o,H1 b=some o→H3 b=some o:=λb o e=>up b o (qF e nk) (s0 b o e)
refine⟨_,rfl,x,_,dx,_,rfl,up' _ _ o1,T.fB,T.fG,by show 2<1000;decide,?_⟩
have hx3:=up' _ _ o1
have kx:ka.bk≠x:=by rw[e1];exact(qF o1 nk).symm
have lH:∀b∈bf ka,H b=none:=λb hb=>by
 have hb:b=ka.bk∨b∈[ka.wv,ka.lv,ka.fi,ka.bo]:=by simpa[bf]using hb
 rcases hb with rfl|hb
 ·rw[e1];exact f1 _ nk
 exact f1 _ (Same.free s0 (fr b hb))
have kpx:∀b o,b≠x→H3 b=some o→(upd H3 x (.ins t.C_Even dx (putF "book" (.ref k') [("chip",V.ref c),("terms",V.ref tm)]))) b=some o:=λb o nb e=>by rw[qC nb];exact e
have up2:∀b o,b≠x→H b=some o→(upd H3 x (.ins t.C_Even dx (putF "book" (.ref k') [("chip",V.ref c),("terms",V.ref tm)]))) b=some o:=λb o nb e=>kpx b o nb (up' b o (k1 b o nb e))
have nx:∀{b:Addr} {o:HO},H3 b=some o→(∀C d fs,o≠ .ins C d fs)→b≠x:=fun {b o} e n z=>by rw[z,hx3]at e;exact n _ _ _ (kZ e).symm
have cfx:∀b∈a.li::foot c a,b≠x:=λb hb z=>by
 obtain⟨o,e,no⟩:=hc.has hb;by_cases y:b=c
 ·exact cx (y.symm.trans z)
 rw[z,hx]at e;exact no y _ _ _ (kZ e).symm
refine k ka _ (by rw[e1];exact qI) (λru pa H2 kk hx2=>?_) lH up2
have kp2:∀b o,b≠x→H3 b=some o→H2 b=some o:=λb o nb e=>kk.k b o (by simpa using nb) (kpx b o nb e)
have up3:∀b o,b≠x→H b=some o→H2 b=some o:=λb o nb e=>kk.k b o (by simpa using nb) (up2 b o nb e)
have kK:Keep [x] H H2:=⟨λb o nb e=>up3 b o (λz=>nb (by rw[z];simp)) e,λb xs e=>up3 b _ (λz=>by rw[z,hx]at e;cases e) e⟩
refine⟨hx2,?_,?_,?_,?_,ds,?_,?_⟩
·rw[eB,eP];exact up3 _ _ tx htm
·exact hc.keep kK (λb hb z=>cfx b hb (kD.mp z))
·exact⟨kp2 _ _ kx hb3.o,kp2 _ _ (nx hb3.w (λ_ _ _ z=>by cases z)) hb3.w,kp2 _ _ (nx hb3.l (λ_ _ _ z=>by cases z)) hb3.l,kp2 _ _ (nx hb3.f (λ_ _ _ z=>by cases z)) hb3.f,kp2 _ _ (nx hb3.b (λ_ _ _ z=>by cases z)) hb3.b⟩
·exact tb.gen λb o to e=>up3 _ _ (yZ to e hx q2V) e
·intro b hb z;obtain⟨o,e,_⟩:=hc.has hb;rw[lH b z]at e;cases e
intro b hb z
have hb:b=x∨b=tm:=by simpa using hb
have y0:b∈foot c a∨b∈bf ka:=by simpa[sf]using z
clear z
rcases y0 with z|z
·rcases hb with rfl|rfl
 ·exact cfx _ (kB _ z) rfl
 obtain⟨o,e,no⟩:=hc.has (kB _ z);by_cases y:b=c
 ·rw[y,hc.ins]at htm;have htm:=kZ htm;injection htm with z1 z2 z3
  unfold chF teF at z3;have:=dO List.length z3;simp at this
 rw[htm]at e;exact no y _ _ _ (kZ e).symm
have n:=lH b z
rcases hb with rfl|rfl
·rw[hx]at n;cases n
rw[htm]at n;cases n)
inductive spSi(t:Adr)(vs:List V)(H:Hp)(Q:VK)(E:XK):Prop
|mk:∀x dx tm td c a r2 r3 r4 r5 ru,∀m:CM,∀B P:Nat,vs=[.ref x,.ref c,.ref tm,ru]→H x=some (.ins t.C_Even dx [])→H tm=some (.ins t.C_Terms td (teF (.int (B:Int)) (.int (P:Int)) r2 r3 r4 r5))→ChipAt t.C_Chip H c a m→m.bl=(B:Int)→m.pg=(P:Int)→B≤16→TbF t H→(∀k p H',StAt t H' ⟨x,dx,tm,td,c,a,k,ru,.ref p⟩ r2 r3 r4 r5 m (bk0 B P)→H' p=some (.lst [])→H p=none→(∀b∈bf k,H b=none)→p∉t.e9::sf ⟨x,dx,tm,td,c,a,k,ru,.ref p⟩→(∀b o,b≠x→H b=some o→H' b=some o)→Q .non H')→spSi t vs H Q E
theorem q7J(T:Txt K mg t)(S:Fns K t):S.aBD.Ok0 P w mg base 4 (spSi t):=by(
refine S.aBD.F.ok0 q7C λcdv A _ s H vs Q E hr h=>?_
obtain⟨x,dx,tm,td,c,a,r2,r3,r4,r5,ru,m,B,P',rfl,hx,htm,hc,eB,eP,hB,tb,k⟩:=h
refine⟨_,(qB (j8 (qKH T.aET (q7I T S).mono hr rfl T.aEN S.aBH.b .nil qK (qA (pv 0) (qA (pv 1) (qA (pv 2) qE))))) (qB (jO (pv 0) (pv 3) rfl) (qD (jO (pv 0) (jU qE) rfl)))),?_⟩
try dsimp-beta-proj-iota-zeta-eta only[wishK,cxK]
refine⟨_,rfl,_,rfl,_,rfl,x,dx,tm,td,c,a,r2,r3,r4,r5,m,B,P',rfl,hx,htm,hc,eB,eP,hB,tb,λka H1 hx1 st fk up=>?_⟩
refine⟨_,rfl,_,rfl,x,_,dx,_,rfl,hx1,T.fB,T.aBO,by show 3<1000;decide,?_⟩
refine⟨sz0,λp H2 np s2 h2=>?_⟩
have px:p≠x:=λz=>by rw[z,qI]at np;cases np
rw[qC px]at np
have hx2:=s2 _ _ qI
refine⟨_,rfl,x,_,dx,_,rfl,hx2,T.fB,T.aAM,by show 4<1000;decide,?_⟩
have stA:=st ru .non (upd H1 x (.ins t.C_Even dx [("chip",.ref c),("terms",.ref tm),("book",.ref ka.bk),("rule",ru),("papers",.non)])) (Keep.upd hx1 (λ_ z=>by cases z) (by simp)) qI
have off:=stA.off (p:=p) (by rw[qC px];exact np)
have kA:Keep [x] H1 (upd H2 x (.ins t.C_Even dx (putF "papers" (.ref p) (putF "rule" ru [("chip",.ref c),("terms",.ref tm),("book",.ref ka.bk)])))):=((Keep.upd hx1 (λ_ z=>by cases z) (by simp)).trans (Keep.same s2)).trans (Keep.upd hx2 (λ_ z=>by cases z) (by simp))
refine k ka p _ (st ru (.ref p) _ kA qI) (by rw[qC px];exact h2) ?_ fk off (λb o nb e=>kA.k b o (by simpa using nb) (up b o nb e))
cases e:H p with
|none=>rfl
|some o=>rw[up p o px e]at np;cases np)
inductive spEm(t:Adr)(vs:List V)(H:Hp)(Q:VK)(E_:XK):Prop
|mk:∀a,∀m:QM,∀b,vs=[.ref a.bk,.int ((b:Nat):Int)]→BkAt t H a m→m.Ok→Dst a→b<m.B→(∀H',BkAt t H' a (m.emptied b)→Keep [a.fi,a.bo] H H'→Q .non H')→spEm t vs H Q E_
theorem q5I(T:Txt K mg t)(S:Fns K t):S.aAA.Ok0 P w mg base 1 (spEm t):=by(
refine S.aAA.F.ok0 q5A λcdv A _ s H vs Q E hr h=>?_
obtain⟨a,m,b,rfl,hb,ok,ds,hB,q⟩:=h
have of':a.bk≠a.fi:=jZ hb.o hb.f (by intro z;cases z)
have oo:a.bk≠a.bo:=jZ hb.o hb.b (by intro z;cases z)
have wf:a.wv≠a.fi:=jZ hb.w hb.f (by intro z;cases z)
have wb:a.wv≠a.bo:=jZ hb.w hb.b (by intro z;cases z)
have hbf:b<m.fi.length:=by rw[ok.lf];exact hB
have hbo:b<m.bo.length:=by rw[ok.lo];exact hB
refine⟨_,(qB (q37 qG (q4H (qJ (pv 0) rfl) (pv 1) uA)) (qD (q37 qG (q4H (qJ (pv 0) rfl) (pv 1) uA)))),?_⟩
try dsimp-beta-proj-iota-zeta-eta only[wishK,cxK]
refine(iV rfl (iF hb.o T.fE T.fM rfl ⟨_,rfl,a.fi,_,_,b,rfl,rfl,hb.f,q3A (by rw[hG];exact hbf),?_⟩))
rw[setV]
have b1:(upd H a.fi (.lst ((m.fi.set b 0).map V.int))) a.bo=some (.lst (m.bo.map V.int)):=by rw[qC ds.fb.symm];exact hb.b
have o1':∀o,H a.bk=some o→(upd H a.fi (.lst ((m.fi.set b 0).map V.int))) a.bk=some o:=λo e=>by rw[qC of'];exact e
have o1:=o1' _ hb.o
refine(iV rfl (iF o1 T.fE T.oO rfl ⟨_,rfl,a.bo,_,_,b,rfl,rfl,b1,q3A (by rw[hG];exact hbo),?_⟩))
rw[setV]
refine q _ ⟨?_,?_,?_,?_,?_⟩ (Keep.trans (H1:=upd H a.fi (.lst ((m.fi.set b 0).map V.int))) (Keep.upd hb.f (λ_ z=>by cases z) (by simp)) (Keep.upd b1 (λ_ z=>by cases z) (by simp)))
·rw[qC oo];exact o1
·rw[qC wb,qC wf];exact hb.w
·rw[qC ds.lb,qC ds.lf];exact hb.l
·rw[qC ds.fb];exact qI
exact qI)
noncomputable def lpK(P b:Nat)(V:Mp):List (List Int):=(V.filter λq=>decide (q.2 / (P:Int)=(b:Int))).map λq=>[q.2,q.1]
theorem qAL{P b:Nat}{V:Mp}{q:Int×Int}:lpK P b (V++[q])=if q.2 / (P:Int)=(b:Int)then lpK P b V++[[q.2,q.1]]else lpK P b V:=by(
unfold lpK
rw[gA,mM]
by_cases e:q.2 / (P:Int)=(b:Int)
·rw[kL e];simp[e]
rw[kJ e]
simp[e])
inductive spLp(t:Adr)(vs:List V)(H:Hp)(Q:VK)(E_:XK):Prop
|mk:∀a,∀m:QM,∀b,vs=[.ref a.bk,.int ((b:Nat):Int)]→BkAt t H a m→m.Ok→m.V.length<64→(∀l us rs H',Same H H'→H l=none→H' l=some (.lst us)→Paired (TupD H') us rs→rs.Perm (lpK m.P b m.V)→(rs.Pairwise λa b=>lx b a=false)→Q (.ref l) H')→spLp t vs H Q E_
theorem q3N(T:Txt K mg t)(S:Fns K t):S.oK.Ok0 P w mg base 1 (spLp t):=by(
refine S.oK.F.ok0 q3I λcdv A _ s H vs Q E hr h=>?_
obtain⟨a,m,b,rfl,hb,ok,lV,q⟩:=h
have hu:=q32 hr
have p1:=ok.p1
have p2:=ok.p2
have ob:a.bk≠a.wv:=jZ hb.o hb.w (by intro z;cases z)
refine⟨_,(qD (qL (jA q8R (by rfl) T.aC1 (by kernel_rfl) (qA (qC6 (y6 ["self","block","name","page"] [0,1] rfl (qK4 (qE5 rC lI PySem.F.type_dict_items qF1 (qJ (pv 0) rfl))) (λ_ _ _ _ _=>(qH0 (K:=K) (n:=2) rfl rfl (u7 (qU (i:=2) (show List.Nodup (["self","block","name","page"]:List Str)from by decide) rfl (Or.inl rfl)) (u7 (qU (i:=3) (show List.Nodup (["self","block","name","page"]:List Str)from by decide) rfl (Or.inl rfl)) q3R)) rfl rfl)) (λ_ _ _ _ _=>(yF (qM u9 (qQ uD (pv 3) (v3 (K:=K) rfl (pv 0) rfl)) (pv 1) (qP _)))) (λ_ _ _ _ _=>(yP (qA (pv 3) (qA (pv 2) qE)))) (by kernel_rfl) (qGT (q9X (by decide) (q9X (by decide) qGS))))) qE)))),?_⟩
try dsimp-beta-proj-iota-zeta-eta only[wishK,cxK]
refine⟨a.wv,_,hb.w,iV rfl (iF hb.o T.fE T.fZ rfl ⟨.inr (.inr (.inl ⟨rfl,.inl ⟨_,hb.w⟩⟩)),a.wv,_,rfl,rfl,hb.w,λv nv=>?_⟩)⟩
have sv:Same H (upd H v (q55 v a.wv)):=Same.upd nv
have vv:(upd H v (q55 v a.wv)) v=some (q55 v a.wv):=qI
generalize upd H v (q55 v a.wv)=H1 at sv vv ⊢
refine⟨v,a.wv,_,rfl,vv,sv _ _ hb.w,λo D H2 nD s2 hD=>?_⟩
have kk:∀x u,x≠a.wv→H x=some u→H2 x=some u:=λx u nx e=>s2 _ _ (by rw[qC nx];exact sv _ _ e)
have fz:H2 a.wv=some (.frz o (.dK (dI m.V))):=s2 _ _ qI
have nDH:H D=none:=by
 cases z:H D with
 |none=>rfl
 |some u=>
  by_cases y:D=a.wv
  ·rw[y,qI]at nD;cases nD
  rw[qC y,sv _ _ z]at nD;cases nD
have Dw:D≠a.wv:=λz=>by rw[z,fz]at hD;cases hD
refine qH1 (D:=D) (λi H3=>H3 a.wv=some (.frz o (.dK (dI m.V)))∧(∀x u,x≠a.wv→H x=some u→H3 x=some u)∧∃us,H3 D=some (.lst us)∧Paired (TupD H3) us (lpK m.P b (m.V.take i))) ⟨fz,kk,[],hD,.nil⟩ (λi H3 hp=>hp.1) (λi kv W H3 hk hp nW=>?_) (λH3 hp=>?_)
·obtain⟨fz3,k3,us,hd,pr⟩:=hp;have hi:i<m.V.length:=by have:=(kC.mp hk).1;rw[q6V]at this;exact this
 obtain rfl:((Sum.inl m.V[i].1:Key),V.int m.V[i].2)=kv:=by
  have e:(dI m.V)[i]?=some ((Sum.inl m.V[i].1:Key),V.int m.V[i].2):=by unfold dI;rw[mD,kE hi];rfl
  rw[e]at hk;exact kZ hk
 have sW:Same H3 (upd H3 W (.tup [.int m.V[i].1,.int m.V[i].2])):=Same.upd nW;have hW:(upd H3 W (.tup [.int m.V[i].1,.int m.V[i].2])) W=some (.tup [.int m.V[i].1,.int m.V[i].2]):=qI;show gTup _ _ _ _ _ (upd H3 W (.tup [.int m.V[i].1,.int m.V[i].2])) _;generalize upd H3 W (.tup [.int m.V[i].1,.int m.V[i].2])=H4 at sW hW ⊢;refine⟨W,_,rfl,SqT.of hW,rfl,_,_,rfl,_,_,rfl,rfl,?_⟩;refine⟨_,rfl,iV rfl (iF (sW _ _ (k3 _ _ ob hb.o)) T.fE T.oA rfl (iI ⟨⟨by lia,by lia⟩,_,rfl,rfl,_,rfl,?_⟩))⟩;rw[yG];have tk:m.V.take (i+1)=m.V.take i++[m.V[i]]:=(kW hi).symm;by_cases e:m.V[i].2 / (m.P:Int)=(b:Int)
 ·rw[hC e];refine iteT ?_;refine⟨_,rfl,_,rfl,sz2,λtp H5 n5 s5 h5=>?_⟩;have s35:=sW.trans s5;have hd5:=s35 _ _ hd;have lu:us.length≤64:=by
   have:=pr.len;have l2:(lpK m.P b (m.V.take i)).length≤(m.V.take i).length:=by unfold lpK;rw[hG];exact mC _ _
   rw[gE]at l2;lia
  refine⟨us,hd5,(by exact gM (m:=64) (by lia) (by decide)),?_,λx u nx e'=>?_,us++[.ref tp],qI,?_⟩
  ·rw[qC Dw.symm];exact s35 _ _ fz3
  ·rw[qC (qF e' nDH)];exact s35 _ _ (k3 _ _ nx e')
  rw[tk,qAL,kL e];exact L2.Paired.snoc (Paired.mapP (uB pr s35) λx k z=>z.upd hd5 (λ_ q=>by cases q)) (TupD.upd ⟨tp,rfl,h5⟩ hd5 (λ_ q=>by cases q))
 rw[hU e];refine iteF ?_;refine⟨sW _ _ fz3,λx u nx e'=>sW _ _ (k3 _ _ nx e'),us,sW _ _ hd,?_⟩;rw[tk,qAL,kJ e];exact uB pr sW
obtain⟨fz3,k3,us,hd,pr⟩:=hp
rw[q6V,gF]at pr
refine⟨o,_,fz3,?_⟩
have sH:Same H (upd H3 a.wv (.dK (dI m.V))):=qF7 hb.w k3
have hd4:(upd H3 a.wv (.dK (dI m.V))) D=some (.lst us):=by rw[qC Dw];exact hd
have pr4:Paired (TupD (upd H3 a.wv (.dK (dI m.V)))) us (lpK m.P b m.V):=Paired.mapP pr λx k z=>z.upd fz3 (λ_ q=>by cases q)
generalize upd H3 a.wv (.dK (dI m.V))=H4 at sH hd4 pr4 ⊢
have hl:(lpK m.P b m.V).length<64:=by unfold lpK;rw[hG];exact gM (mC _ _) lV
have ul:=pr4.len
refine⟨D,us,lpK m.P b m.V,2,rfl,SqL.of hd4,qCD pr4,λk hk=>?_,by decide,by lia,λqs pp pw l H5 n5 s5 h5=>?_⟩
·unfold lpK at hk;obtain⟨x,_,rfl⟩:=kP.mp hk;rfl
refine q l _ _ H5 (sH.trans s5) (sH.free n5) h5 (qB9 (uB pr4 s5) λi hi=>gC.mp (pp.mem_iff.mp hi)) (qB8 ul.symm pp) pw)
theorem qCV(xs:List V)(i:Nat):∀n p,(clr xs i n).getD p .non=if i≤p∧p<i+n then .non else xs.getD p .non
|0,p=>by rw[kJ (by lia)];rfl
|n+1,p=>by
 show((clr xs i n).set (i+n) .non).getD p .non=_;rw[jJ,qCV xs i n p];by_cases e:i+n=p
 ·subst e;rw[kL (show i≤i+n∧i+n<i+(n+1) by lia),kJ (show ¬(i≤i+n∧i+n<i+n) by lia)];by_cases z:i+n<(clr xs i n).length
  ·rw[kL ⟨rfl,z⟩]
  rw[kJ (λy=>z y.2)];rw[q3W]at z;rw[kI,dH (by lia)];rfl
 rw[kJ (λy=>e y.1)];by_cases z:i≤p∧p<i+n
 ·rw[kL z,kL (by lia)]
 rw[kJ z,kJ (by lia)]
structure PgAt(H:Hp)(bs:List V)(pg:Nat→Option (Int×Int)):Prop where
n:∀i,pg i=none→bs.getD i .non=.non
v:∀i v,pg i=some v→∃tp,bs.getD i .non=.ref tp∧H tp=some (.tup [.int v.1,.int v.2])
theorem PgAt.keep{F:List Addr}{H H':Hp}{bs:List V}{pg:Nat→Option (Int×Int)}(h:PgAt H bs pg)(k:Keep F H H'):PgAt H' bs pg:=⟨h.n,λi v e=>by
 obtain⟨tp,e1,e2⟩:=h.v i v e;exact⟨tp,e1,k.tp _ _ e2⟩⟩
structure Cm(m:CM)(s:XS):Prop where
ft:Fit m s.q
br:m.br=noB s.q.B
li:∀b,valV m.lim (Sum.inl b)=none
mo:m.mo=1000000
cl:m.cl=s.cl
lf:m.lf=s.lf
rc:m.rc=s.rc
theorem Cm.gd{m:CM}{s:XS}(h:Cm m s):Gd m:=⟨λb=>by rw[h.br];exact rep8,h.li⟩
structure XR(t:Adr)(H:Hp)(x:Sto)(k:Tm)(sh sr:Int)(s:XS):Prop where
e:∃m:CM,StAt t H x (.int sh) (.int sr) (.int (k.ie:Int)) (.int k.sp) m s.q∧Cm m s∧PgAt H m.bo s.pg
w:WX k s
theorem Cm.pgs{m:CM}{s:XS}(h:Cm m s){b f:Nat}(hb:b<s.q.B)(hf:f<s.q.P):((b*s.q.P+f:Nat):Int)≤m.bl*m.pg-1∧b*s.q.P+f<m.bo.length:=by(
have nbo:=h.ft.ok.nbo
rw[h.ft.eB,h.ft.eP,←dE]at *
have:b*s.q.P+f<s.q.B*s.q.P:=(xF (by lia)).mp (by rw[yQ hf];exact hb)
lia)
section
variable{H H':Hp}{x:Sto}{k:Tm}{sh sr:Int}{s:XS}
theorem XR.keep(j:XR t H x k sh sr s){F:List Addr}(kk:Keep F H H')(n:∀b∈[x.s,x.tm]++(x.a.li::sf x),b∉F)(tb:TbF t H'):XR t H' x k sh sr s:=by obtain⟨m,st,c,pg⟩:=j.e;exact⟨⟨m,st.keep kk n tb,c,pg.keep kk⟩,j.w⟩
theorem XR.kT(j:XR t H x k sh sr s)(kk:Keep [t.e9] H H')(tb:TbF t H'):XR t H' x k sh sr s:=by obtain⟨m,st,c,pg⟩:=j.e;exact⟨⟨m,st.kT kk tb,c,pg.keep kk⟩,j.w⟩
theorem XR.tb(j:XR t H x k sh sr s):TbF t H:=by obtain⟨m,st,c,pg⟩:=j.e;exact st.tb
theorem XR.same(j:XR t H x k sh sr s)(ss:Same H H'):XR t H' x k sh sr s:=by obtain⟨m,st,c,pg⟩:=j.e;exact⟨⟨m,st.same ss,c,pg.keep (F:=[]) (Keep.same ss)⟩,j.w⟩
theorem XR.o(j:XR t H x k sh sr s):H x.s=some (.ins t.C_Even x.sd [("chip",.ref x.c),("terms",.ref x.tm),("book",.ref x.k.bk),("rule",x.ru),("papers",x.pa)]):=by obtain⟨m,st,c,pg⟩:=j.e;exact st.o
theorem XR.inH(j:XR t H x k sh sr s):∀y∈t.e9::sf x,∃o,H y=some o:=λy hy=>by(
obtain⟨m,hs,_⟩:=j.e
rcases kN.mp hy with e|e
·obtain⟨pt,hT,_⟩:=hs.tb;exact⟨_,by rw[e];exact hT⟩
unfold sf at e
rcases gN.mp e with e|e
·obtain⟨o,ho,_⟩:=hs.ch.has (kB _ e);exact⟨o,ho⟩
have e:y=x.k.bk∨y=x.k.wv∨y=x.k.lv∨y=x.k.fi∨y=x.k.bo:=by simpa[bf]using e
rcases e with rfl|rfl|rfl|rfl|rfl
·exact⟨_,hs.bk.o⟩
·exact⟨_,hs.bk.w⟩
·exact⟨_,hs.bk.l⟩
·exact⟨_,hs.bk.f⟩
exact⟨_,hs.bk.b⟩)
theorem XR.off(j:XR t H x k sh sr s){p:Addr}(n:H p=none):p∉t.e9::sf x:=λz=>by obtain⟨o,e⟩:=j.inH p z;rw[n]at e;cases e
theorem TbF.updL{H:Hp}{p:Addr}{xs:List V}{o:HO}(h:TbF t H)(e:H p=some (.lst xs)):TbF t (upd H p o):=by exact h.gen λb o' to e'=>by rw[qC (yZ to e' e zF)];exact e'
theorem XR.lst(j:XR t H x k sh sr s){p:Addr}{xs:List V}{o:HO}(e:H p=some (.lst xs))(np:p∉t.e9::sf x):XR t (upd H p o) x k sh sr s:=by(
obtain⟨m,st,_⟩:=j.e
have k:=Keep.upd (F:=[p]) (o:=o) e (λ_ z=>by cases z) (by simp)
refine j.keep k (λy hy z=>?_) (TbF.updL st.tb e)
rw[kD.mp z]at hy
rcases gN.mp hy with hy|hy
·have hy:p=x.s∨p=x.tm:=by simpa using hy
 rcases hy with h|h
 ·rw[h,st.o]at e;cases e
 rw[h,st.te]at e;cases e
rcases kN.mp hy with h|h
·rw[h,st.ch.li]at e;cases e
exact np (kB _ h))
theorem XR.set(j:XR t H x k sh sr s){n v:Int}(n0:0≤n)(n1:n≤64)(rc:s.rc.length<1000000)(hr:k.ie*s.q.P<s.rmX)(hl:(∃p,(n,p)∈s.q.V)∨s.q.V.length<59){Q:VK}{E:XK}
 (dk:s.lf=some 0→∀H',XR t H' x k sh sr s→Keep (t.e9::sf x) H H'→E (.ref t.C_PowerGone) none H')
 (kk:s.lf≠some 0→∀H',XR t H' x k sh sr (s.put n v)→Keep (t.e9::sf x) H H'→Q (.int (s.np:Int)) H'):qCT t [.ref x.s,.int n,.int v] H Q E:=by(
obtain⟨m,st,c,pg⟩:=j.e
obtain⟨hb,hf,ef,_,sp⟩:=j.w.spot (by lia)
obtain⟨hp1,hp2⟩:=c.pgs hb hf
refine⟨x,_,_,_,_,m,s.q,n,v,rfl,st,c.ft,c.gd,by rw[c.rc];exact rc,λl hfr=>⟨s.pb,s.pf,?_,ef,pg.n _ (j.w.cr _ _ hb (by lia) hf),λz H' k' st'=>dk (by rw[←c.lf];exact z) H' ⟨⟨m,st',c,pg.keep k'⟩,j.w⟩ k',λz tp H' htp k' st'=>?_⟩⟩
·rw[c.br]at hfr ⊢;rw[c.cl]at hfr;exact sp l hfr
have dk':s.lf≠some 0:=by rw[←c.lf];exact z
obtain⟨w',_⟩:=j.w.put (v:=v) hr n0 n1 hl dk'
have okd:(m.deed "put" ((s.pb*s.q.P+s.pf:Nat):Int) (((s.pb*s.q.P+s.pf:Nat):Int) / m.pg) false).Ok:=c.ft.ok.deed (by rw[c.rc];exact rc)
refine kk dk' H' ⟨⟨_,st',⟨⟨⟨okd.bl1,okd.bl2,okd.pg1,okd.pg2,?_,okd.ncl,okd.ndc,okd.nbr,okd.lim,okd.nrc⟩,w'.qs.ok,c.ft.eB,c.ft.eP⟩,c.br,c.li,c.mo,c.cl,?_,?_⟩,⟨λi e=>?_,λi w e=>?_⟩⟩,w'⟩ k'
·show((m.bo.set _ _).length:Int)=_;rw[gJ];exact c.ft.ok.nbo
·show m.lf.map _=_;rw[c.lf];rfl
·show m.rc++[_]=_;rw[c.rc];rfl
·have e:(if i=s.np then some (s.q.nx*128+n,v)else s.pg i)=none:=e;show(m.bo.set (s.pb*s.q.P+s.pf) (.ref tp)).getD i .non=.non;by_cases z:i=s.np
 ·rw[kL z]at e;cases e
 rw[kJ z]at e;rw[jJ,kJ (λy=>z y.1.symm)];exact pg.n i e
have e:(if i=s.np then some (s.q.nx*128+n,v)else s.pg i)=some w:=e
show ∃tq,(m.bo.set (s.pb*s.q.P+s.pf) (.ref tp)).getD i .non=.ref tq∧_
by_cases z:i=s.np
·rw[kL z]at e;cases e;exact⟨tp,by rw[jJ,kL ⟨z.symm,hp2⟩],htp⟩
rw[kJ z]at e
obtain⟨tq,e1,e2⟩:=pg.v i w e
exact⟨tq,by rw[jJ,kJ (λy=>z y.1.symm)];exact e1,k'.tp _ _ e2⟩)
end
inductive spCo(t:Adr)(vs:List V)(H:Hp)(Q:VK)(E:XK):Prop
|mk:∀x k sh sr s,∀b:Nat,vs=[.ref x.s,.int (b:Int)]→XR t H x k sh sr s→b<s.q.B→s.q.fi.getD b 0=(s.q.P:Int)→s.rc.length<1000000→(∀y∈s.q.V,¬y.2 / (s.q.P:Int)=(b:Int))→(s.lf=some 0→E (.ref t.C_PowerGone) none H)→(s.lf≠some 0→∀H',XR t H' x k sh sr (s.wip b)→Keep (t.e9::sf x) H H'→Q .non H')→spCo t vs H Q E
theorem q3O(T:Txt K mg t)(S:Fns K t):S.oJ.OkE P w mg base 5 (spCo t):=by(
refine S.oJ.F.okE q3J (λvs H Q E h=>?_) (λcdv A outer s H vs Q E hr h=>?_)
·repeat obtain⟨_,h⟩:=h
 all_goals subst_vars;rfl
obtain⟨x,k,sh,sr,s,b,rfl,j,hb,ef,rc,nl,dk,kk⟩:=h
obtain⟨m,hs,c,pg⟩:=j.e
have eB:=c.ft.eB
have clb:=(j.w.c0 b).2
refine⟨_,(qB (j8 (jV jI (qJ (pv 0) rfl) T.fD T.aCE (q4A T S).mono hr S.aA4.b .nil (qA (pv 1) qE))) (qD (j8 (jG (qJ (pv 0) rfl) T.fE T.aCO (q5I T S).mono hr S.aAA.b .nil qK (qA (pv 1) qE))))),?_⟩
try dsimp-beta-proj-iota-zeta-eta only[wishK,cxK]
refine(iV rfl (iF hs.o T.fB T.fU rfl (iM hs.ch.ins rfl ⟨_,rfl,x.c,x.a,m,_,rfl,hs.ch,c.ft.ok,by rw[c.rc];exact rc,c.gd,by lia,by rw[c.mo,c.cl];lia,λz=>dk (by rw[←c.lf];exact z),λz H1 hc1 k1=>?_⟩)))
have dk':s.lf≠some 0:=by rw[←c.lf];exact z
have hs1:=hs.put hc1 k1 rfl rfl
refine(iV rfl (iF hs1.o T.fB T.fG rfl (iM hs1.bk.o rfl ⟨_,rfl,x.k,s.q,b,rfl,hs1.bk,j.w.qs.ok,hs1.ds,hb,λH2 hb2 k2=>?_⟩)))
have k2':Keep (bf x.k) H1 H2:=k2.mono (by intro y hy;simp[bf]at hy ⊢;rcases hy with rfl|rfl<;>simp)
have kA:Keep (t.e9::sf x) H H2:=(k1.mono (λy hy=>by unfold sf;exact kB _ (gO _ hy))).trans (k2'.mono (λy hy=>by unfold sf;exact kB _ (mB _ hy)))
have hs2:=hs1.note hb2 k2'
obtain⟨w',_⟩:=j.w.wip hb ef nl dk'
have okd:(m.deed "wipe" (b:Int) (b:Int) false).Ok:=c.ft.ok.deed (by rw[c.rc];exact rc)
have gbo:∀p,(wipC m b).bo.getD p .non=if p / s.q.P=b then .non else m.bo.getD p .non:=λp=>by
 show(clr m.bo ((b:Int)*m.pg).toNat m.pg.toNat).getD p .non=_;have p1:=j.w.qs.ok.p1;rw[c.ft.eP,←dE,mH,mH,qCV];have:(b*s.q.P≤p∧p<b*s.q.P+s.q.P)↔p / s.q.P=b:=by rw[Nat.div_eq_iff (by lia)];generalize b*s.q.P=z;lia
 by_cases z:p / s.q.P=b
 ·rw[kL z,kL (this.mpr z)]
 rw[kJ z,kJ (λy=>z (this.mp y))]
refine kk dk' H2 ⟨⟨_,hs2,⟨⟨⟨okd.bl1,okd.bl2,okd.pg1,okd.pg2,?_,?_,okd.ndc,okd.nbr,okd.lim,okd.nrc⟩,w'.qs.ok,c.ft.eB,c.ft.eP⟩,c.br,c.li,c.mo,?_,?_,?_⟩,⟨λi e=>?_,λi w e=>?_⟩⟩,w'⟩ kA
·show((clr m.bo _ _).length:Int)=_;rw[q3W];exact c.ft.ok.nbo
·show((m.cl.set _ _).length:Int)=_;rw[gJ];exact c.ft.ok.ncl
·show m.cl.set b (m.cl.getD b 0+1)=_;rw[c.cl];rfl
·show m.lf.map _=_;rw[c.lf];rfl
·show m.rc++[_]=_;rw[c.rc];rfl
·have e:(if i / s.q.P=b then none else s.pg i)=none:=e;rw[gbo];by_cases z:i / s.q.P=b
 ·rw[kL z]
 rw[kJ z]at e ⊢;exact pg.n i e
have e:(if i / s.q.P=b then none else s.pg i)=some w:=e
rw[gbo]
by_cases z:i / s.q.P=b
·rw[kL z]at e;cases e
rw[kJ z]at e ⊢
obtain⟨tq,e1,e2⟩:=pg.v i w e
exact⟨tq,e1,kA.tp _ _ e2⟩)
theorem q71(T:Txt K mg t)(S:Fns K t):S.aAQ.OkE P w mg base 6 (λvs H Q E=>spCo t vs H (λv H'=>v=.non∧Q (.bl true) H') E):=by(
refine S.aAQ.F.okE q6Q (λvs H Q E h=>?_) (λcdv A outer s H vs Q E hr h=>?_)
·repeat obtain⟨_,h⟩:=h
 all_goals subst_vars;rfl
obtain⟨x,k,sh,sr,s,b,rfl,j,hb,ef,rc,nl,dk,kk⟩:=h
refine⟨_,(qB (j8 (jV jI (pv 0) T.fB T.aBS (q3O T S).mono hr S.oJ.b .nil (qA (pv 1) qE))) (qD (qL q7P))),?_⟩
try dsimp-beta-proj-iota-zeta-eta only[wishK,cxK]
exact(iV rfl (iM j.o rfl ⟨_,rfl,x,k,sh,sr,s,b,rfl,j,hb,ef,rc,nl,dk,λz H' j' k'=>(kk z H' j' k').2⟩)))
theorem qG3{s:XS}{ns:List Int}(h:HeldIs s.q ns):ns=s.hl:=by(
refine qCC (h.pm.trans (xS _ _).symm) h.so ?_
have:=lJ (le:=λa b:Int=>decide (a≤b)) (λa b c h1 h2=>hC (sV (mP h1) (mP h2))) (λa b=>by
 by_cases z:a≤b
 ·rw[hC z];rfl
 rw[hU z,hC (show b≤a by lia)];rfl) (hdN s.q.V)
exact this.imp λz=>mP z)
theorem hd64{k:Tm}{s:XS}(w:WX k s):(hdN s.q.V).length<64:=by(
unfold hdN
refine gM (mC _ _) ?_
have:=w.l6
rw[hG]
lia)
theorem qIN{k:Tm}{s:XS}(w:WX k s):∀y∈s.hl,0≤y∧y<64:=λy hy=>by(
have hy:=pE.mp hy
obtain⟨a1,a2⟩:=mV.mp hy
obtain⟨y',hy',rfl⟩:=kP.mp a1
have:=w.qs.ok.nm y' hy'
have:=mP a2
lia)
theorem qIO{ns:List Int}(h:∀y∈ns,0≤y∧y<64):ns.map V.int=vN (ns.map Int.toNat)∧∀u∈ns.map Int.toNat,u<64:=by(
refine⟨?_,λu hu=>?_⟩
·unfold vN;rw[pQ];refine dW λy hy=>?_;have:=h y hy;show V.int y=V.int ((y.toNat:Nat):Int);rw[show((y.toNat:Nat):Int)=y by lia]
obtain⟨y,hy,rfl⟩:=kP.mp hu
have:=h y hy
lia)
inductive spVm(t:Adr)(vs:List V)(H:Hp)(Q:VK)(E:XK):Prop
|mk:∀x k sh sr s,∀n p:Int,vs=[.ref x.s,.int p,.int n]→XR t H x k sh sr s→(n,p)∈s.q.V→(s.lf=some 0→E (.ref t.C_PowerGone) none H)→(∀H',Same H H'→Q (.int (s.val p n)) H')→spVm t vs H Q E
theorem q1G(T:Txt K mg t)(S:Fns K t):S.iG.OkE P w mg base 6 (spVm t):=by(
refine S.iG.F.okE q1D (λvs H Q E h=>?_) (λcdv A outer s H vs Q E hr h=>?_)
·repeat obtain⟨_,h⟩:=h
 all_goals subst_vars;rfl
obtain⟨x,k,sh,sr,s,n,p,rfl,j,hm,dk,kk⟩:=h
obtain⟨m,hs,c,pg⟩:=j.e
refine⟨_,(qB (jC (qM u9 (pv 2) (vJ rfl T.aDT ⟨_,rfl⟩ (v:=.int 64)) (qP _)) (qD (qL (qX (q6X T S).mono hr rfl T.aCR T.aCQ S.aC2.b .nil qK (qA (j0 (pv 0) T.fB T.aA2 (q0J T S).mono hr S.tF.b .nil qK) qE)))) qS) (qD (qL (qW yN (jV jI (qJ (pv 0) rfl) T.fD T.aB2 (q48 T S).mono hr S.aA5.b .nil (qA (pv 1) qE)) qG (λ_ _=>rfl))))),?_⟩
try dsimp-beta-proj-iota-zeta-eta only[wishK,cxK]
refine⟨_,rfl,rfl,_,rfl,?_⟩
rw[yG]
by_cases z:n=64
·rw[hC z];refine iteT ?_;refine(iV rfl (iM hs.o rfl ⟨x,_,_,_,_,m,s.q,rfl,hs,c.ft,hd64 j.w,λl ns H1 hn s1 n1 h1=>?_⟩));obtain rfl:=qG3 hn;obtain⟨en,lt⟩:=qIO (qIN j.w);rw[en]at h1;refine⟨l,_,rfl,SqL.of h1,lt,?_⟩;have:=kk H1 s1;unfold XS.val at this;rw[kL z]at this;exact this
rw[hU z]
refine iteF ?_
obtain⟨b,f,v,a1,a2,a3,a4,a5⟩:=j.w.vl _ hm
have a3:p=_:=a3
obtain⟨tp,e1,e2⟩:=pg.v _ _ a5
have hp:=(c.pgs a1 a2).1
refine(iV rfl (iF hs.o T.fB T.fU rfl (iM hs.ch.ins rfl ⟨_,rfl,x.c,x.a,m,_,rfl,hs.ch,c.ft.ok,by rw[a3];lia,by rw[a3];exact hp,λy=>dk (by rw[←c.lf];exact y),λ_=>?_⟩)))
have:=kk H (Same.refl H)
unfold XS.val at this
rw[kJ z]at this
rw[a3,mH,e1]
rw[a3,mH,a5]at this
exact(iT (k:=1) (v:=_) (SqT.of e2) rfl this))
inductive spGa(f:Tl→Int)(vs:List V)(H:Hp)(Q:VK)(E_:XK):Prop
|mk:∀x a b p n A B,vs=[x,a,b,p,n]→TlAt H a A→TlAt H b B→Q (.bl (decide (f A<f B))) H→spGa f vs H Q E_
theorem q2J(T:Txt K mg t)(S:Fns K t):S.iY.Ok0 P w mg base 1 (spGa Tl.lv):=by(
refine S.iY.F.ok0 q2G λcdv A _ s H vs Q E hr h=>?_
obtain⟨x,a,b,p,n,A,B,rfl,⟨ad,rfl,ha⟩,⟨bd,rfl,hb⟩,q⟩:=h
refine⟨_,(qD (qL (uM q1O (qW yN (pv 1) qG (λ_ _=>rfl)) (qW yN (pv 2) qG (λ_ _=>rfl)) (qP _)))),?_⟩
try dsimp-beta-proj-iota-zeta-eta only[wishK,cxK]
exact⟨_,rfl,iT (k:=1) (v:=_) (SqT.of ha) rfl ⟨_,rfl,iT (k:=1) (v:=_) (SqT.of hb) rfl (iI q)⟩⟩)
noncomputable def RuAt(t:Adr)(H:Hp)(r:Addr)(pg nw:Int)(f:Tl→Int):Prop:=(∃dx,H r=some (.ins t.C_Fewest dx [])∧f=Tl.lv)
inductive spUn(t:Adr)(K:W.Frag)(vs:List V)(H:Hp)(Q:VK)(E_:XK):Prop
|mk:∀r v l pg nw T us ts f,vs=[.ref r,v,.ref l,.int pg,.int nw]→RuAt t H r pg nw f→TlAt H v T→SqL K H l us→Tls H us ts→T.Ok pg nw→(∀o∈ts,o.Ok pg nw)→pg≤16→Q (.bl (unb f ts T)) H→spUn t K vs H Q E_
theorem q72(T:Txt K mg t)(S:Fns K t):S.aAY.Ok0 P w mg base 2 (spUn t K):=by(
refine S.aAY.F.ok0 q2F λcdv A _ s H vs Q E hr h=>?_
obtain⟨r,v,l,pg,nw,A,us,ts,f,rfl,hR,hv,hl,hts,oa,os,hpg,q⟩:=h
obtain⟨va,rfl,hva⟩:=id hv
have hlen:=hts.len
refine⟨_,(qB (uP g9 rfl (jF (pv 2)) (qU (i:=5) q2F.nd rfl (Or.inl rfl)) (qD (jC (PW.pt (q36 (qM (qGX hr.units) (pv 5) (pv 1) (qP _)) (q0X (yM (qB1 (jG (pv 0) T.aC9 T.aAX (q2J T S).mono hr S.iY.b .nil qK (qA (pv 5) (qA (pv 1) (qA (pv 3) (qA (pv 4) qE)))))))))) (qD (qL q7P)) qS))) (qD (qL q7P))),?_⟩
try dsimp-beta-proj-iota-zeta-eta only[wishK,cxK]
refine⟨_,rfl,l,rfl,⟨us,hl⟩,?_⟩
refine uX (K:=K) (xs:=us) (λi σ' H2=>∃y,σ'=[some (.ref r),some (.ref va),some (.ref l),some (.int pg),some (.int nw),y]∧H2=H∧∀j,∀hj:j<ts.length,j<i→¬f ts[j] <f A) ⟨_,rfl,rfl,λj _ z=>absurd z (cB _)⟩ (λi σ' H2 hi hp=>?_) (λi x σ' H2 hx hp=>?_) (λσ' H2 hp=>?_)
·obtain⟨y,rfl,rfl,_⟩:=hp;exact hl
·obtain⟨y,rfl,rfl,hm⟩:=hp;obtain⟨O,hO,ho⟩:=Paired.at hts hx;obtain⟨xa,rfl,hxa⟩:=id ho;have hi:i<ts.length:=(kC.mp hO).1;obtain rfl:ts[i]=O:=(kC.mp hO).2;have ok:(ts[i]).Ok pg nw:=os _ (gH hi);refine⟨_,rfl,_,rfl,xa,va,(ts[i]).ns,A.ns,rfl,rfl,SqT.of hxa,SqT.of hva,rfl,_,rfl,?_⟩;by_cases e:(ts[i]).ns=A.ns
 ·rw[hC e];refine iteF (iteF ⟨_,rfl,rfl,λj hj z=>?_⟩);by_cases ej:j=i
  ·subst ej;rw[Tl.eq_of e];exact Int.lt_irrefl _
  exact hm j hj (by lia)
 rw[hU e];refine iteT ?_;refine⟨λv' H'=>v'=.bl (decide (f ts[i] <f A))∧H'=H2,?_,?_⟩
 ·obtain⟨dx,hins,rfl⟩:=hR;exact⟨_,rfl,r,dx,_,rfl,hins,rfl,_,rfl,_,rfl,_,rfl,_,rfl,_,_,_,_,_,ts[i],A,rfl,ho,hv,rfl,rfl⟩
 rintro v' H' ⟨rfl,rfl⟩
 refine⟨_,rfl,?_⟩;by_cases g:f ts[i] <f A
 ·rw[hC g];refine iteT ?_;have z:unb f ts A=false:=by
   cases z:unb f ts A with
   |false=>rfl
   |true=>exact absurd (q5N.mp z _ (gH hi)) (by lia)
  rw[z]at q;exact q
 rw[hU g];refine iteF ⟨_,rfl,rfl,λj hj z=>?_⟩;by_cases ej:j=i
 ·subst ej;exact g
 exact hm j hj (by lia)
obtain⟨y,rfl,rfl,hm⟩:=hp
have z:unb f ts A=true:=q5N.mpr λo ho=>by obtain⟨j,hj,rfl⟩:=cU ho;have:=hm j hj (by lia);lia
rw[z]at q
exact q)
noncomputable def spFu(t:Adr)(K:W.Frag):Sp:=λvs H Q _=>∃r l pg nw us ts f,vs=[.ref r,.ref l,.int pg,.int nw]∧RuAt t H r pg nw f∧SqL K H l us∧Tls H us ts∧(∀o∈ts,o.Ok pg nw)∧pg≤16∧ts≠[]∧Q (.int (pk f ts)) H
theorem q4D(T:Txt K mg t)(S:Fns K t):S.o6.Ok0 P w mg base 3 (spFu t K):=by(
refine S.o6.F.ok0 vC λcdv A _ s H vs Q E hr h=>?_
obtain⟨r,l,pg,nw,us,ts,f,rfl,hR,hl,hts,os,hpg,hne,q⟩:=h
have hlen:=hts.len
obtain⟨i,hi,hu,hn⟩:=q6B f ts hne
have at':∀j,∀hj:j<ts.length,∃x,us[j]?=some x∧TlAt H x ts[j]:=λj hj=>by have e:us[j]?=some (us[j]'(by lia)):=kE (by lia);obtain⟨O,hO,ho⟩:=Paired.at hts e;obtain rfl:ts[j]=O:=(kC.mp hO).2;exact⟨_,e,ho⟩
refine⟨_,(qB (qV (i:=4) vC.nd rfl (Or.inl rfl) qG) (qB (q9I g9 (uG (yM (qX (q72 T S).mono hr rfl T.aCP T.aCM S.aAY.b .nil qK (qA (pv 0) (qA (qW qZ (pv 1) (pv 4) (λ_ _=>rfl)) (qA (pv 1) (qA (pv 2) (qA (pv 3) qE)))))))) (qD (qIW (i:=4) vC.nd rfl (Or.inl rfl) qG q5W))) (qD (qL (qW yN (qW qZ (pv 1) (pv 4) (λ_ _=>rfl)) qG (λ_ _=>rfl)))))),?_⟩
try dsimp-beta-proj-iota-zeta-eta only[wishK,cxK]
refine⟨λm σ' H2=>H2=H∧∃p:Nat,σ'=[some (.ref r),some (.ref l),some (.int pg),some (.int nw),some (.int p)]∧p≤i∧m=i-p,⟨i,rfl,0,rfl,m9 _,rfl⟩,?_⟩
rintro m σ' H2 ⟨rfl,p,rfl,hpi,rfl⟩
obtain⟨x,hx,tx⟩:=at' p (by lia)
refine⟨_,rfl,_,rfl,_,rfl,l,us,p,x,rfl,rfl,hl,yK hx,_,rfl,_,rfl,_,rfl,r,x,l,pg,nw,ts[p],us,ts,f,rfl,hR,tx,hl,hts,os _ (gH _),os,hpg,?_⟩
by_cases e:p=i
·subst e;rw[hu];refine⟨_,rfl,iteF ?_⟩;obtain⟨xa,rfl,hxa⟩:=tx;refine⟨_,rfl,_,rfl,l,us,p,_,rfl,rfl,hl,yK hx,iT (k:=0) (v:=_) (SqT.of hxa) rfl ?_⟩;rw[qIH hi hu hn]at q;exact q
rw[hn p (by lia)]
refine⟨_,rfl,iteT ⟨_,λ_ _ z=>z,?_⟩⟩
exact⟨_,rfl,iI ⟨i-(p+1),by lia,rfl,p+1,rfl,by lia,rfl⟩⟩)
theorem q73(T:Txt K mg t)(S:Fns K t):S.aAT.Ok0 P w mg base 4 (spFu t K):=by(
refine S.aAT.F.ok0 q6S λcdv A _ s H vs Q E hr h=>?_
obtain⟨r,l,pg,nw,us,ts,f,rfl,z⟩:=h
refine⟨_,(qD (qL (qX (q4D T S).mono hr rfl T.aBE T.aBI S.o6.b .nil qK (qA (pv 0) (qA (pv 1) (qA (pv 2) (qA (pv 3) qE))))))),?_⟩
try dsimp-beta-proj-iota-zeta-eta only[wishK,cxK]
exact⟨_,rfl,_,rfl,_,rfl,_,rfl,r,l,pg,nw,us,ts,f,rfl,z⟩)
theorem q5S{H:Hp}{m:CM}{q:QM}:∀{rs:List V} {L:List Nat},Tys H m q rs L→Tls H rs (L.map (tlOf m q))
|_,_,.nil=>.nil
|_,_,.cons ⟨p,e,h⟩ r=>.cons ⟨p,e,h⟩ (q5S r)
noncomputable def RuX(t:Adr)(H:Hp)(r:Addr)(rl:List Addr):Rl→Prop
| .rk f=>(∃dx,H r=some (.ins t.C_Fewest dx [])∧f=λ_ _=>Tl.lv)
|_=>False
theorem RuX.ok{H:Hp}{r:Addr}{rl:List Addr}{g:Rl}(h:RuX t H r rl g):g.Ok:=by(
cases g with
|rk f=>trivial
|win m=>exact h.elim
|fol row u=>exact h.elim)
theorem RuX.map{H H':Hp}{r:Addr}{rl:List Addr}{g:Rl}(h:RuX t H r rl g)(h1:∀y∈r::rl,∀o,H y=some o→H' y=some o):RuX t H' r rl g:=by(
have h2:=h1
have h1:=h1 r kY
cases g with
|rk f=>obtain⟨dx,a,b⟩:=h;exact⟨dx,h1 _ a,b⟩
|win m=>exact h.elim
|fol row u=>exact h.elim)
theorem RuX.keep{H H':Hp}{r:Addr}{rl:List Addr}{F:List Addr}{g:Rl}(h:RuX t H r rl g)(k:Keep F H H')(n:∀y∈r::rl,y∉F):RuX t H' r rl g:=h.map λy hy o e=>k.k _ _ (n y hy) e
theorem RuX.ins{H:Hp}{r:Addr}{rl:List Addr}{g:Rl}(h:RuX t H r rl g):∃C d fs,H r=some (.ins C d fs):=by(
cases g with
|rk f=>obtain⟨dx,a,b⟩:=h;exact⟨_,_,_,a⟩
|win m=>exact h.elim
|fol row u=>exact h.elim)
inductive spCr(t:Adr)(K:W.Frag)(vs:List V)(H:Hp)(Q:VK)(E_:XK):Prop
|mk:∀x r2 r3 r4 r5 m q r rl g op rs ts,vs=[.ref x.s,.ref op]→StAt t H x r2 r3 r4 r5 m q→Fit m q→x.ru=.ref r→RuX t H r rl g→H op=some (.lst rs)→Tls H rs ts→ts≠[]→ts.length≤16→(∀o∈ts,o.Ok (q.P:Int) q.nx)→(∀a∈ts,∀c∈ts,a.b=c.b→a=c)→(∀p H',Keep [r] H H'→RuX t H' r rl (g.ch (q.P:Int) q.nx ts).2→H' p=some (.tup [.str "rule",.int (g.ch (q.P:Int) q.nx ts).1])→Q (.ref p) H')→spCr t K vs H Q E_
theorem q0V(T:Txt K mg t)(S:Fns K t):S.iA.Ok0 P w mg base 5 (spCr t K):=by(
refine S.iA.F.ok0 q0R λcdv A _ s H vs Q E hr h=>?_
obtain⟨x,r2,r3,r4,r5,m,q,r,rl,g,op,rs,ts,rfl,hs,ft,er,hR,hop,tl,ne,l16,ok,unl,k⟩:=h
have eP:=ft.eP
have p1:=ft.oq.p1
have p2:=ft.oq.p2
have te:=hs.te
rw[eP]at te
refine⟨_,(qD (qL (yP (qA uO (qA (jG (qJ (pv 0) rfl) T.aC9 T.aBX (q73 T S).mono hr S.aAT.b .nil qK (qA (pv 1) (qA (qJ (qJ (pv 0) rfl) rfl) (qA (qJ (qJ (pv 0) rfl) rfl) qE)))) qE))))),?_⟩
try dsimp-beta-proj-iota-zeta-eta only[wishK,cxK]
cases g with
|rk f=>
 have sz2:2≤sizeLine:=by decide
 obtain⟨dx,hins,rfl⟩:=id hR;exact(iV rfl (iF hs.o T.fB T.aBO rfl ⟨r,dx,_,er,hins,rfl,_,rfl,iV rfl (iF hs.o T.fB T.fF rfl (iF te T.fH T.fI rfl (iV rfl (iF hs.o T.fB T.fG rfl (iF hs.bk.o T.fE T.iJ rfl ⟨r,op,_,_,rs,ts,_,(by rw[er];rfl),⟨dx,hins,rfl⟩,SqL.of hop,tl,ok,by lia,ne,sz2,λp H2 n2 s2 e2=>k p H2 (Keep.same s2) (hR.keep (Keep.same s2) (F:=[]) (by simp)) e2⟩)))))⟩))
|win m=>exact hR.elim
|fol row u=>exact hR.elim)
section
variable{H H':Hp}{x:Sto}{k:Tm}{sh sr:Int}{s:XS}{r:Addr}{rl:List Addr}{g:Rl}
theorem TbF.keepR(h:TbF t H){C d:Addr}{fs:List (Str×V)}(e:H r=some (.ins C d fs))(k:Keep [r] H H'):TbF t H':=by refine h.gen λb o to e'=>k.k _ _ (λz=>yZ to e' e q2V (kD.mp z)) e'
noncomputable def Off(t:Adr)(x:Sto)(R:List Addr):Prop:=∀y∈[x.s,x.tm]++(x.a.li::t.e9::t.fA::sf x),y∉R
theorem Off.n{R:List Addr}(o:Off t x R){y:Addr}(hy:y∈R):y∉t.e9::sf x:=λz=>o y (by simp at z ⊢;rcases z with z|z<;>simp[z]) hy
theorem XR.kR(j:XR t H x k sh sr s)(o:Off t x (r::rl))(kk:Keep [r] H H')(hR:RuX t H r rl g):XR t H' x k sh sr s:=by(
obtain⟨C,d,fs,e⟩:=hR.ins
refine j.keep kk (λy hy z=>o y ?_ (by rw[kD.mp z];exact kY)) (j.tb.keepR e kk)
have hy:y=x.s∨y=x.tm∨y=x.a.li∨y∈sf x:=by simpa using hy
rcases hy with h|h|h|h<;>simp[h])
theorem uC{H H':Hp}{F:List Addr}(k:Keep F H H'):∀{rs:List V} {ts:List Tl},Tls H rs ts→Tls H' rs ts
|_,_,.nil=>.nil
|_,_,.cons ⟨p,e,h⟩ r=>.cons ⟨p,e,k.tp _ _ h⟩ (uC k r)
end
inductive spLs(t:Adr)(vs:List V)(H:Hp)(Q:VK)(E_:XK):Prop
|mk:∀x k sh sr s,vs=[.ref x.s]→XR t H x k sh sr s→(∀H',Same H H'→Q (.int s.lst) H')→spLs t vs H Q E_
theorem qG4{s:XS}{M:Int}(lc:s.cl.length=s.q.B)(b1:1≤s.q.B)(hM:M∈(List.range s.q.B).map λb=>s.cl.getD b 0)(le:∀a∈(List.range s.q.B).map λb=>s.cl.getD b 0,M≤a):M=s.lst:=by(
have ecl:((List.range s.q.B).map λb=>s.cl.getD b 0)=s.cl:=by rw[←lc];refine wL (by simp) λi h1 h2=>?_;simp[kE h2]
rw[ecl]at hM le
obtain⟨m,e,h1,h2⟩:=qBD (l:=s.cl) (λz=>by rw[z]at hM;cases hM)
unfold XS.lst
rw[e]
have:=h2 M hM
have:=le m h1
show M=m
lia)
theorem q7K(T:Txt K mg t)(S:Fns K t):S.aA9.Ok0 P w mg base 6 (spLs t):=by(
refine S.aA9.F.ok0 q7D λcdv A _ s H vs Q E hr h=>?_
obtain⟨x,k,sh,sr,s,rfl,j,kk⟩:=h
obtain⟨m,hs,c,_⟩:=j.e
have b1:=c.ft.ok.bl1
have b2:=j.w.qs.ok.b2
have eB:=c.ft.eB
refine⟨_,(qD (qL (qHV rfl (by rfl) T.aDS qG (qA (y6 ["self","block"] [0] rfl (jF (j0 (pv 0) T.fB T.tO (vL T S).mono hr S.oG.b .nil qK)) (λ_ _ _ _ _=>(qU (i:=1) (show List.Nodup (["self","block"]:List Str)from by decide) rfl (Or.inl rfl))) (λ_ _ _ _ _=>zX) (λ_ _ _ _ _=>(jG (v3 (K:=K) rfl (pv 0) rfl) T.fD T.oW (vZ T S).mono hr S.i6.b .nil qK (qA (pv 1) qE))) (by kernel_rfl) (jD (by decide))) qE)))),?_⟩
try dsimp-beta-proj-iota-zeta-eta only[wishK,cxK]
refine(iV rfl (iM hs.o rfl ⟨x,_,_,_,_,m,s.q,rfl,hs,c.ft,λp H1 n1 s1 h1=>?_⟩))
rw[c.br,yD]at h1
refine⟨p,rfl,⟨_,SqL.of h1⟩,λD H2 nD s2 hD=>?_⟩
refine q6E (K:=K) (xs:=(List.range s.q.B).map vn) (D:=D) (λi H3=>Same H1 H3∧H3 D=some (.lst ((((List.range s.q.B).take i).map λb=>s.cl.getD b 0).map V.int))) ⟨s2,hD⟩ (λi H3 hp=>SqL.of (hp.1 _ _ h1)) (λi y H3 hy hp=>?_) (λH3 hp=>?_)
·obtain⟨sm,hd⟩:=hp;have h3:=hs.same (s1.trans sm);rw[mD]at hy;obtain⟨b,hb,rfl⟩:=mK.mp hy;obtain⟨hi,eb⟩:=kC.mp hb;have bB:b<s.q.B:=gC.mp (gP hb);refine(iV rfl (iF h3.o T.fB T.fU rfl (iM h3.ch.ins rfl ⟨_,rfl,x.c,x.a,m,_,rfl,h3.ch,c.ft.ok,by lia,by lia,?_⟩)));rw[mH,c.cl];refine⟨_,hd,?_,λb o e=>?_,?_⟩
 ·rw[hG,hG,gE,mG];have:(16:Nat)<sizeLine:=by decide
  lia
 ·rw[qC (qF e nD)];exact sm _ _ e
 rw[qI,←kW hi,mM,mM,eb];rfl
obtain⟨sm,hd⟩:=hp
rw[hG,gF]at hd
refine⟨D,_,rfl,SqL.of hd,λe=>?_,λM hM le=>?_⟩
·have e:(List.range s.q.B).map (λb=>s.cl.getD b 0)=[]:=by simpa using e
 have:=dO List.length e;rw[hG,mG]at this;simp at this;lia
rw[qG4 j.w.lc (by lia) hM le]
exact kk H3 (s1.trans sm))
inductive spCb(t:Adr)(vs:List V)(H:Hp)(Q:VK)(E_:XK):Prop
|mk:∀x k sh sr s p rs,∀L:List Nat,vs=[.ref x.s,.ref p]→XR t H x k sh sr s→H p=some (.lst rs)→Tls H rs (L.map s.tl)→L.length≤16→(∀p' rs' H',H p'=none→Same H H'→H' p'=some (.lst rs')→Tls H' rs' ((s.clb k L).map s.tl)→Q (.ref p') H')→spCb t vs H Q E_
theorem q00(T:Txt K mg t)(S:Fns K t):S.iZ.Ok0 P w mg base 7 (spCb t):=by(
refine S.iZ.F.ok0 zZ λcdv A _ s H vs Q E hr h=>?_
obtain⟨x,k,sh,sr,s,p,rs,L,rfl,j,hp0,ty,l16,kk⟩:=h
have sz:(16:Nat)<sizeLine:=by decide
refine⟨_,(qB (qV (i:=2) zZ.nd rfl (Or.inr rfl) (qQ u8 (j0 (pv 0) T.fB T.aDF (q7K T S).mono hr S.aA9.b .nil qK) (qJ (qJ (pv 0) rfl) rfl))) (qD (qL (y6 ["bound","tally"] [2] rfl (jF (pv 1)) (λ_ _ _ _ _=>(qU (i:=1) (show List.Nodup (["bound","tally"]:List Str)from by decide) rfl (Or.inl rfl))) (λ_ _ _ _ _=>(yF (qM q1O (qW (yL (K:=K) rfl) (pv 1) qG (λ_ _=>rfl)) (pv 0) (qP _)))) (λ_ _ _ _ _=>(pv 1)) (by kernel_rfl) (jD (by decide)))))),?_⟩
try dsimp-beta-proj-iota-zeta-eta only[wishK,cxK]
refine(iV rfl (iM j.o rfl ⟨x,k,sh,sr,s,rfl,j,λH1 s1=>?_⟩))
obtain⟨m,h1,c,_⟩:=(j.same s1).e
refine(iV rfl (iF h1.o T.fB T.fF rfl (iF h1.te T.fH T.aAD rfl (iI ?_))))
refine⟨_,rfl,p,rfl,⟨_,SqL.of (s1 _ _ hp0)⟩,λD H2 nD s2 hD=>?_⟩
have ty1:=ty.same s1
unfold XS.clb at kk
refine yV (K:=K) (xs:=rs) (D:=D) (λi H3=>∃rs',Same H1 H3∧H3 D=some (.lst rs')∧rs'.length≤i∧Tls H1 rs' (((L.take i).filter λb=>decide (s.cl.getD b 0<s.lst+k.sp)).map s.tl)) ⟨_,s2,hD,kO _,.nil⟩ (λi H3 hp=>by obtain⟨_,sm,_⟩:=hp;exact SqL.of (sm _ _ (s1 _ _ hp0))) (λi y H3 hy hp=>?_) (λH3 hp=>?_)
·obtain⟨rs',sm,hd,ln,ty'⟩:=hp;obtain⟨o,ho,tp,rfl,htp⟩:=Paired.at ty1 hy;rw[mD]at ho;obtain⟨b,hb,rfl⟩:=mK.mp ho;have hi:=(kC.mp hb).1;obtain rfl:L[i]=b:=(kC.mp hb).2;refine⟨_,rfl,iT (k:=_) (v:=_) (SqT.of (sm _ _ htp)) rfl ⟨_,rfl,iI ⟨_,rfl,?_⟩⟩⟩;rw[qAK hi];have e2:(s.tl L[i]).cl=s.cl.getD L[i] 0:=rfl;by_cases z:s.cl.getD L[i] 0<s.lst+k.sp
 ·rw[hC (show(s.tl L[i]).cl<s.lst+k.sp from z),hC z,kL rfl,mM];refine iteT ?_;refine⟨_,rfl,_,hd,by lia,_,λb o e=>?_,qI,?_,L2.Paired.snoc ty' ⟨tp,rfl,htp⟩⟩
  ·rw[qC (qF e nD)];exact sm _ _ e
  rw[mL];exact wA ln 1
 rw[hU (show ¬(s.tl L[i]).cl<s.lst+k.sp from z),hU z,kJ (by decide),gU];exact iteF ⟨_,sm,hd,by lia,ty'⟩
obtain⟨rs',sm,hd,ln,ty'⟩:=hp
have lr:=ty.len
rw[hG]at lr
rw[lr,gF]at ty'
exact kk D rs' H3 (s1.free nD) (s1.trans sm) hd (ty'.same sm))
inductive spOpE(t:Adr)(vs:List V)(H:Hp)(Q:VK)(E_:XK):Prop
|mk:∀x k sh sr s,vs=[.ref x.s]→XR t H x k sh sr s→k.ev=true→(∀p rs H',H p=none→XR t H' x k sh sr s→Keep [t.e9] H H'→H' p=some (.lst rs)→Tls H' rs (s.ots k)→Q (.ref p) H')→spOpE t vs H Q E_
theorem XR.opts{H:Hp}{x:Sto}{k:Tm}{sh sr:Int}{s:XS}(j:XR t H x k sh sr s)(ev:k.ev=true){Q:VK}{E:XK}(kk:∀p rs H',H p=none→XR t H' x k sh sr s→Keep [t.e9] H H'→H' p=some (.lst rs)→Tls H' rs (s.ots k)→Q (.ref p) H'):spOpE t [.ref x.s] H Q E:=⟨x,k,sh,sr,s,rfl,j,ev,kk⟩
theorem qBK{k:Tm}{s:XS}(h:WX k s):(s.ded k).length≤16∧(s.ful k).length≤16:=by
 have b2:=h.qs.ok.b2;have:(s.ful k).length≤16:=by unfold XS.ful;refine mO (mC _ _) ?_;rw[mG];exact b2
 exact⟨mO (mC _ _) this,this⟩
theorem qI1{H H':Hp}{p:Addr}(k1:Keep [t.e9] H H')(tb:TbF t H')(np:H' p=none):H p=none:=by(
refine k1.none (λz=>?_) np
obtain⟨ps',hT',_⟩:=tb
rw[kD.mp z,hT']at np
cases np)
theorem zA(T:Txt K mg t)(S:Fns K t)(B:BmIn base mg):S.i4.Ok0 P w mg base 12 (spOpE t):=by(
refine S.i4.F.ok0 q5B λcdv A _ s H vs Q E hr h=>?_
obtain⟨x,k,sh,sr,s,rfl,j,ev,kk⟩:=h
refine⟨_,(qD (qL (jG (pv 0) T.fB T.tQ (q00 T S).mono hr S.iZ.b .nil qK (qA (j0 (pv 0) T.fB T.t8 (q0U T S B).mono hr S.iB.b .nil qK) qE)))),?_⟩
try dsimp-beta-proj-iota-zeta-eta only[wishK,cxK]
obtain⟨m,hs,c,_⟩:=j.e
refine(iV rfl (iM hs.o rfl (iV rfl (iM hs.o rfl ⟨x,_,_,_,m,s.q,_,rfl,hs,c.ft,λl p rs H1 hl np k1 tb1 h1 ty=>?_⟩))))
have j1:=j.kT k1 tb1
have ty:=q5S ty
rw[c.br,c.cl]at hl
rw[qFN j.w c.br hl,qFO c.cl]at ty
refine⟨x,k,sh,sr,s,p,rs,s.ded k,rfl,j1,h1,ty,(qBK j.w).1,λp' rs' H2 np' s2 h2 ty2=>?_⟩
refine kk p' rs' H2 (qI1 k1 tb1 np') (j1.same s2) (k1.trans (Keep.same s2)) h2 ?_
unfold XS.ots XS.opt
rw[ev]
exact ty2)
theorem qLQ:FnScope ["tally"] ["tally"] lbSc:=⟨rfl,rfl,rfl,by decide+kernel,rfl,by decide+kernel,by decide+kernel⟩
inductive spLb(g c:Addr)(pm ct:Value)(vs:List V)(H:Hp)(Q:VK)(E_:XK):Prop
|mk:∀v T,vs=[v]→TlAt H v T→H g=some (fnO g (lbFd pm ct c))→H c=some (cdO c lbQ)→NewO H (.tup [.int (Tl.cl T),.int (Tl.b T)]) Q→spLb g c pm ct vs H Q E_
theorem qLR{g c:Addr}{pm ct:Value}{bs:Heap}:FnOk P w K mg bs CX0 1 g (lbFd pm ct c) ["tally"] (spLb g c pm ct):=by(
refine qK8 (k:=0) qLQ (λvs H Q E h=>?_) (λvs H Q E h=>?_) (λA outer s H vs Q E hr h=>?_)
·repeat obtain⟨_,h⟩:=h
 all_goals subst_vars;rfl
·obtain⟨v,T,rfl,_,a,b,_⟩:=h;exact⟨a,b⟩
obtain⟨v,T,rfl,⟨ad,rfl,ha⟩,_,_,q⟩:=h
refine⟨_,yP (qA (qW yN (pv 0) qG (λ_ _=>rfl)) (qA (qW yN (pv 0) qG (λ_ _=>rfl)) qE)),?_⟩
exact⟨_,rfl,iT (k:=2) (v:=_) (SqT.of ha) rfl ⟨_,rfl,iT (k:=0) (v:=_) (SqT.of ha) rfl ⟨sz2,q⟩⟩⟩)
theorem qG5{c:Addr}{pm ct:Value}:jY K (lbFd pm ct c) ["tally"] []:=jY.all λus hl=>match us,hl with| [_],_=>rfl
theorem qI2{H:Hp}(h:TbB t H):∃ps,H t.fA=some (.tbl ps)∧TriplesOk ps.toList∧((codeAmong lbP ps.toList=none∧∀c H',H' t.fA=some (.tbl (ps++triB c))→H' c=some (cdO c lbQ)→TbB t H')∨∃c,codeAmong lbP ps.toList=some (.ref c)∧H c=some (cdO c lbQ)):=by(
obtain⟨ps,hT,h⟩:=h
rcases h with rfl|⟨c,rfl,a⟩
·exact⟨_,hT,trivial,.inl ⟨rfl,λc H' e1 e2=>⟨_,e1,.inr ⟨c,rfl,e2⟩⟩⟩⟩
exact⟨_,hT,trivial,.inr ⟨c,rfl,a⟩⟩)
theorem qI3{cl:List Int}{L:List Nat}{i:Nat}(pw:L.Pairwise (· < ·))(hi:i<L.length)(h:∀j,j<L.length→lx (keyN cl (L.getD j 0)) (keyN cl (L.getD i 0))=false):minF cl L=some (L.getD i 0):=by(
have gd:∀{j},(hj:j<L.length)→L.getD j 0=L[j]:=fun {j} hj=>by rw[kI,kE hj];rfl
obtain⟨h1,h2⟩:=q2S (cl:=cl) pw
cases z:minF cl L with
|none=>rw[h1 z]at hi;cases hi
|some b=>
 obtain⟨m1,m2⟩:=h2 b z;obtain⟨j,hj,rfl⟩:=cU m1;have a1:=h j hj;have a2:=m2 (L.getD i 0) (by rw[gd hi];exact gH hi);rw[gd hj]at a1;have e:=q4N _ _ a1 a2;unfold keyN at e;injection e with _ e
 injection e with e _
 rw[show L[j]=L.getD i 0 by lia])
theorem qKM{k:Tm}{s:XS}:(s.clb k (s.ful k)).Pairwise (· < ·):=by unfold XS.clb XS.ful;exact(rN.filter _).filter _
theorem qCW{kn:Nat}{cells:List (Str×Addr)}{σ:St}{H4:Hp}{D f c':Addr}{k:Tm}{s:XS}{rs:List V}{L:List Nat}{pm ct:Value}{Q:VK}(hk:1≤kn)(ne:L≠[])(pw:L.Pairwise (· < ·))(hD:H4 D=some (.lst rs))(ty:Tls H4 rs (L.map s.tl))(hf:H4 f=some (fnO f (lbFd pm ct c')))(hc:H4 c'=some (cdO c' lbQ))
 (kk:∀b v H',minF s.cl L=some b→Same H4 H'→TlAt H' v (s.tl b)→Q v H'):
 ∃(f':Addr) (fd:FuncData) (sp:Heap→Sp),V.ref f=.ref f'∧(∀base',(∀b o,base.get? b=some o→base'.get? b=some o)→q1T cells σ base' []→FnOk P w K mg base' CX0 kn f' fd ["tally"] (sp base'))∧jY K fd ["tally"] []∧∃(l:Addr) (us:List V) (kf:Nat→List Int) (Pv:Nat→List V→Hp→Prop),[V.ref D]=[.ref l]∧0<us.length∧Pv 0 [] H4∧(∀i zs H',Pv i zs H'→SqL K H' l us∧zs.length=i∧KeyI K kf H' zs)∧(∀base' i x zs H',q1T cells σ base' []→us[i]?=some x→Pv i zs H'→sp base' [x] H' (λz H''=>Pv (i+1) (zs++[z]) H'') E0)∧∀i zs H',i<us.length→(∀j,j<us.length→lx (kf j) (kf i)=false)→Pv us.length zs H'→Q (us.getD i .non) H':=by(
have ln:=ty.len
rw[hG]at ln
refine⟨f,lbFd pm ct c',λ_=>spLb f c' pm ct,rfl,λ_ _ _=>qLR.mono hk,qG5,D,rs,λj=>keyN s.cl (L.getD j 0),λi zs H'=>Same H4 H'∧i≤L.length∧Paired (TupD H') zs ((L.take i).map (keyN s.cl)),rfl,by have:=sS.mpr ne;lia,⟨Same.refl H4,m9 _,.nil⟩,λi zs H' hp=>?_,λbase' i y zs H' _ hy hp=>?_,λi zs H' hi hm hp=>?_⟩
·obtain⟨sm,le,pr⟩:=hp;have lz:=pr.len;rw[hG,gE]at lz;refine⟨SqL.of (sm _ _ hD),by lia,λj z hz=>?_⟩;have hj:=(kC.mp hz).1;obtain⟨kv,hk,tp,rfl,htp⟩:=Paired.at pr hz;rw[mD,List.getElem?_take,kL (by lia)]at hk;obtain⟨b,hb,rfl⟩:=mK.mp hk;show TupI K H' (V.ref tp) (keyN s.cl (L.getD j 0));rw[kI,hb];exact⟨tp,rfl,SqT.of htp⟩
·obtain⟨sm,le,pr⟩:=hp;obtain⟨o,ho,hv⟩:=Paired.at ty hy;rw[mD]at ho;obtain⟨b,hb,rfl⟩:=mK.mp ho;have hi:=(kC.mp hb).1;refine⟨y,s.tl b,rfl,hv.same sm,sm _ _ hf,sm _ _ hc,λtp H5 ntp s5 e5=>⟨sm.trans s5,hi,?_⟩⟩;rw[q8A (f:=keyN s.cl) hb];exact L2.Paired.snoc (uB pr s5) ⟨tp,rfl,e5⟩
obtain⟨sm,le,pr⟩:=hp
have hiL:i<L.length:=by lia
obtain⟨o,ho,hv⟩:=Paired.at ty (kE hi)
rw[mD]at ho
obtain⟨b,hb,rfl⟩:=mK.mp ho
have e:L.getD i 0=b:=by rw[kI,hb];rfl
have:=qI3 (cl:=s.cl) pw hiL (λj hj=>hm j (by lia))
rw[e]at this
refine kk b _ H' this sm ?_
rw[kI,kE hi]
exact hv.same sm)
inductive spBc(t:Adr)(vs:List V)(H:Hp)(Q:VK)(E:XK):Prop
|mk:∀x k sh sr s,vs=[.ref x.s]→XR t H x k sh sr s→k.ev=true→(match s.chg k with
|none=>∀H',XR t H' x k sh sr s→Keep [t.e9] H H'→E (.ref t.C_NoRoom) none H'
|some b=>∀H',XR t H' x k sh sr s→Keep [t.e9,t.fA] H H'→Q (.int (b:Int)) H')→spBc t vs H Q E
theorem q0W(T:Txt K mg t)(S:Fns K t)(B:BmIn base mg):FnOk P w K mg base (CXe P w) 11 t.f_Even_block_to_change S.fV ["self"] (spBc t):=by(
refine S.tT.okE uW (λvs H Q E h=>?_) (λA outer s H vs Q E hr h=>?_)
·repeat obtain⟨_,h⟩:=h
 all_goals subst_vars;rfl
obtain⟨x,k,sh,sr,s,rfl,j,ev,kk⟩:=h
refine⟨_,(qB (qV (i:=1) uW.nd rfl (Or.inl rfl) (jG (pv 0) T.fB T.tQ (q00 T S).mono hr S.iZ.b .nil qK (qA (j0 (pv 0) T.fB T.i7 (uU T S B).mono hr S.fY.b .nil qK) qE))) (qB (jC (qM (q8M hr.units) (pv 1) (jU qE) (qP _)) (qD (q9S jI rfl rfl T.aB6 T.aER (qA uO qE))) qS) (qD (qL (qW yN (qB1 (qHZ (k:=9) (x:="tally") [] (by intro p hp;cases hp) rfl hr.units hr (by rfl) T.aDS (qCE (clos:=[]) rfl T.tK B rfl rfl) (qA (pv 1) qE))) qG (λ_ _=>rfl)))))),?_⟩
try dsimp-beta-proj-iota-zeta-eta only[wishK,cxK]
obtain⟨m,hs,c,_⟩:=j.e
refine(iV rfl (iM hs.o rfl (iV rfl (iM hs.o rfl ⟨x,_,_,_,m,s.q,_,rfl,hs,c.ft,λl p rs H1 hl np k1 tb1 h1 ty=>?_⟩))))
have j1:=j.kT k1 tb1
have ty:=q5S ty
rw[c.br,c.cl]at hl
rw[c.br,qBG j.w hl,qFO c.cl]at ty
refine⟨x,k,sh,sr,s,p,rs,s.ful k,rfl,j1,h1,ty,(qBK j.w).2,λp' rs' H2 np' s2 h2 ty2=>?_⟩
have j2:=j1.same s2
have k2:Keep [t.e9] H H2:=k1.trans (Keep.same s2)
refine⟨_,rfl,sz0,λe6 H6 n6 s6 h6=>⟨p',_,e6,rfl,rfl,SqL.of (s6 _ _ h2),SqL.of h6,_,rfl,?_⟩⟩
have k6:Keep [t.e9] H H6:=k2.trans (Keep.same s6)
have j6:=j2.same s6
have ty6:=ty2.same s6
have h26:=s6 _ _ h2
have ln:=ty6.len
rw[hG]at ln
have pw:=qKM (k:=k) (s:=s)
unfold XS.chg at kk
generalize s.clb k (s.ful k)=L at kk ty6 ln pw
cases rs' with
|nil=>obtain rfl:L=[]:=sG ln.symm;exact iteT ⟨sz1,kk H6 j6 k6⟩
|cons u us=>
 have ne:L≠[]:=λz=>by rw[z]at ln;cases ln
 refine iteF ?_;obtain⟨J,eJ⟩:∃J:VK,J=λv H5=>∃tp b,v=.ref tp∧H5 tp=some (.tup ((s.tl b).ns.map V.int))∧minF s.cl L=some b∧XR t H5 x k sh sr s∧Keep [t.e9,t.fA] H H5:=⟨_,rfl⟩;refine⟨J,?_,?_⟩
 ·refine⟨_,rfl,?_⟩;obtain⟨pf,hTf,hf0,tB⟩:=j6.tb;obtain⟨ps,hT,ht,hcc⟩:=qI2 tB;have nT:p'≠t.fA:=λz=>by rw[z,hT]at h26;cases h26
  refine⟨ps,hT,ht,?_⟩;have fin:∀b v H4 H5,Keep [t.e9,t.fA] H6 H4→XR t H4 x k sh sr s→minF s.cl L=some b→Same H4 H5→TlAt H5 v (s.tl b)→J v H5:=λb v H4 H5 k4 j4 e s5 hv=>by obtain⟨tp,rfl,h5⟩:=hv;rw[eJ];exact⟨tp,b,rfl,h5,e,j4.same s5,((k6.mono (by simp)).trans k4).trans (Keep.same s5)⟩
  rcases hcc with⟨hn,tb⟩|⟨c0,hn,hc0⟩
  ·refine .inl ⟨hn,λf c' ctv H4 nf hf hc' hT4 kp=>?_⟩;have nTT:t.e9≠t.fA:=T.aAK;have k4:Keep [t.e9,t.fA] H6 H4:=⟨λb o nb e=>kp b o (λz=>nb (by rw[z];simp)) e,λb xs e=>kp b _ (λz=>by rw[z,hT]at e;cases e) e⟩;have k4':Keep [t.fA] H6 H4:=⟨λb o nb e=>kp b o (λz=>nb (by rw[z];simp)) e,k4.tp⟩;have tb4:TbF t H4:=by
    refine⟨pf,kp _ _ nTT hTf,?_,tb c' H4 hT4 hc'⟩;rcases hf0 with z|⟨c1,z,a⟩
    ·exact .inl z
    exact .inr ⟨c1,z,kp _ _ (λz=>by rw[z,hT]at a;cases a) a⟩
   obtain⟨m6,st6,_⟩:=j6.e;have j4:=j6.keep k4' (λb hb z=>st6.nX hT (.inl ⟨_,rfl⟩) (by rw[←kD.mp z];exact hb)) tb4;exact qCW (k:=k) (s:=s) (show 1≤11-2 by decide) ne pw (kp _ _ nT h26) (Paired.mapP ty6 λv o ⟨a,e,z⟩=>⟨a,e,k4.tp _ _ z⟩) hf hc' λb v H5 e s5 hv=>fin b v H4 H5 k4 j4 e s5 hv
  refine .inr ⟨c0,hn,λf ctv H4 nf hf s4=>?_⟩;exact qCW (k:=k) (s:=s) (show 1≤11-2 by decide) ne pw (s4 _ _ h26) (ty6.same s4) hf (s4 _ _ hc0) λb v H5 e s5 hv=>fin b v H4 H5 (Keep.same s4) (j6.same s4) e s5 hv
 rw[eJ];rintro v H5 ⟨tp,b,rfl,h5,e,j5,k5⟩
 rw[e]at kk;exact(iT (k:=0) (v:=_) (SqT.of h5) rfl (kk H5 j5 k5)))
inductive spCh(t:Adr)(vs:List V)(H:Hp)(Q:VK)(E:XK):Prop
|mk:∀x k sh sr s r rl g,vs=[.ref x.s]→XR t H x k sh sr s→k.ev=true→x.ru=.ref r→RuX t H r rl g→Off t x (r::rl)→s.rc.length<1000000→(match s.tk k g with
|none=>∀H',XR t H' x k sh sr s→Keep [t.e9] H H'→E (.ref t.C_NoRoom) none H'
|some (y,b,g')=>∀p H',Keep [t.e9,t.fA,r] H H'→XR t H' x k sh sr s→RuX t H' r rl g'→H' p=some (.tup [.str y,.int (b:Int)])→Q (.ref p) H')→spCh t vs H Q E
theorem q2K(T:Txt K mg t)(S:Fns K t)(B:BmIn base mg):S.tN.OkE P w mg base 13 (spCh t):=by(
refine S.tN.F.okE q2E (λvs H Q E h=>?_) (λcdv A outer s H vs Q E hr h=>?_)
·repeat obtain⟨_,h⟩:=h
 all_goals subst_vars;rfl
obtain⟨x,k,sh,sr,s,r,rl,g,rfl,j,ev,er,hR,of,rc,kk⟩:=h
refine⟨_,(qB (qV (i:=1) q2E.nd rfl (Or.inl rfl) (j0 (pv 0) T.fB T.o8 (zA T S B).mono hr S.i4.b .nil qK)) (qB (jC (qM (q8M hr.units) (pv 1) (jU qE) (qP _)) (qD (qL (yP (qA uO (qA (uE jI (pv 0) T.fB T.tS (q0W T S B).mono hr S.tR .nil) qE))))) qS) (qD (qL (jG (pv 0) T.fB T.aAC (q0V T S).mono hr S.iA.b .nil qK (qA (pv 1) qE)))))),?_⟩
try dsimp-beta-proj-iota-zeta-eta only[wishK,cxK]
refine(iV rfl (iM j.o rfl ?_))
dsimp only[tNil,dC]
refine j.opts ev λp rs H1 np j1 k1 h1 ty=>?_
refine⟨_,rfl,sz0,λe6 H6 n6 s6 h6=>⟨p,_,e6,rfl,rfl,SqL.of (s6 _ _ h1),SqL.of h6,_,rfl,?_⟩⟩
have k6:Keep [t.e9] H H6:=k1.trans (Keep.same s6)
have j6:=j1.same s6
have ln:=ty.len
unfold XS.tk at kk
cases rs with
|nil=>
 have e0:s.opt k=[]:=wJ.mp (sG ln.symm);rw[kL e0,ev,kL rfl]at kk;refine iteT ?_;refine(iV rfl (iM j6.o rfl ⟨x,k,sh,sr,s,rfl,j6,ev,?_⟩));have oT:=of t.e9 (by simp);have oB:=of t.fA (by simp);cases z:s.chg k with
 |none=>rw[z]at kk;exact λH7 j7 k7=>kk H7 j7 (k6.trans k7)
 |some b=>
  rw[z]at kk;refine λH7 j7 k7=>⟨sz2,λtp H8 n8 s8 h8=>?_⟩;have k8:Keep [t.e9,t.fA] H H8:=((k6.mono (by simp)).trans k7).trans (Keep.same s8);refine kk tp H8 (k8.mono (by intro y hy;simp at hy ⊢;rcases hy with e|e<;>simp[e])) (j7.same s8) (hR.keep k8 λy hy z=>?_) h8;have z:y=t.e9∨y=t.fA:=by simpa using z
  rcases z with z|z
  ·exact oT (by rw[←z];exact hy)
  exact oB (by rw[←z];exact hy)
|cons u us=>
 have ne:s.opt k≠[]:=λz=>by unfold XS.ots at ln;rw[z]at ln;cases ln
 rw[kJ ne]at kk;refine iteF ?_;obtain⟨m,hs6,c,_⟩:=j6.e;have oT:=of t.e9 (by simp);have hR6:=hR.keep k6 (λy hy z=>oT (by rw[←kD.mp z];exact hy));have ne':s.ots k≠[]:=λz=>ne (wJ.mp z);have okT:∀o∈s.ots k,o.Ok (s.q.P:Int) s.q.nx:=λo ho=>by obtain⟨b,hb,rfl⟩:=kP.mp ho;exact qLK j.w rc (q2T.mp hb).1.1.b
 refine(iV rfl (iM hs6.o rfl ⟨_,rfl,x,_,_,_,_,m,s.q,r,rl,g,p,_,_,rfl,hs6,c.ft,er,hR6,s6 _ _ h1,ty.same s6,ne',by unfold XS.ots;rw[hG];exact qFP j.w,okT,qHI,λpp H7 k7 hR7 h7=>?_⟩));have cm:=qFR (pg:=(s.q.P:Int)) (nw:=s.q.nx) hR.ok ne';refine kk pp H7 ((k6.mono (by simp)).trans (k7.mono (by simp))) (j6.kR of k7 hR6) hR7 ?_;rw[h7];obtain⟨b,hb,e⟩:=kP.mp cm;obtain⟨c',_,rfl⟩:=kP.mp hb;have e:(c':Int)=(g.ch (s.q.P:Int) s.q.nx (s.ots k)).1:=e;rw[←e,mH])
inductive spPp(K:W.Frag)(vs:List V)(H:Hp)(Q:VK)(E_:XK):Prop
|mk:∀wy bl wi l1 l2 rs us,vs=[wy,.ref l1,bl,.ref l2,wi]→H l1=some (.lst rs)→H l2=some (.lst us)→(∀pa a1 a2 H',Same H H'→H pa=none→H a1=none→H a2=none→H' pa=some (.tup [wy,.ref a1,bl,.ref a2,wi])→H' a1=some (.lst rs)→H' a2=some (.lst us)→Q (.ref pa) H')→spPp K vs H Q E_
theorem q58(T:Txt K mg t)(S:Fns K t):S.aBV.Ok0 P w mg base 1 (spPp K):=by(
refine S.aBV.F.ok0 qAD λcdv A _ s H vs Q E hr h=>?_
obtain⟨wy,bl,wi,l1,l2,rs,us,rfl,h1,h2,k⟩:=h
refine⟨_,(qD (qL (yP (qA (pv 0) (qA (q4K q01 (by rfl) T.aEH (by kernel_rfl) (qA (pv 1) qE)) (qA (pv 2) (qA (q4K q01 (by rfl) T.aEH (by kernel_rfl) (qA (pv 3) qE)) (qA (pv 4) qE)))))))),?_⟩
try dsimp-beta-proj-iota-zeta-eta only[wishK,cxK]
refine⟨_,rfl,_,rfl,l1,rs,rfl,.inl (SqL.of h1),λa1 H1 n1 s1 e1=>?_⟩
refine⟨_,rfl,_,rfl,l2,us,rfl,.inl (SqL.of (s1 _ _ h2)),λa2 H2 n2 s2 e2=>?_⟩
refine⟨_,rfl,sz5,λpa H3 n3 s3 e3=>?_⟩
exact k pa a1 a2 H3 ((s1.trans s2).trans s3) ((s1.trans s2).free n3) n1 (s1.free n2) e3 (s3 _ _ (s2 _ _ e1)) (s3 _ _ e2))
theorem qI4{s:XS}{k:Tm}{b:Nat}{rs:List (List Int)}(w:WX k s)(pm:rs.Perm (lpK s.q.P b s.q.V))(so:rs.Pairwise λa b=>lx b a=false):rs=lvP s.q.P b s.q.V:=by(
refine qHH w.qs.ok.p1 w.pd ?_ (λkk=>?_) so
·refine pm.nodup_iff.mpr ?_;unfold lpK;refine dG.mpr (((dG.mp w.qs.ok.nd).imp fun {a c} hne z=>hne ?_).filter _);injection z with _ z
 injection z with z _
rw[pm.mem_iff]
unfold lpK
rw[kP]
constructor
·rintro⟨y,hy,rfl⟩
 obtain⟨a1,a2⟩:=mV.mp hy;exact⟨y.1,y.2,rfl,a1,mP a2⟩
rintro⟨n,p,rfl,a1,a2⟩
exact⟨(n,p),mV.mpr ⟨a1,hC a2⟩,rfl⟩)
inductive spMv(t:Adr)(vs:List V)(H:Hp)(Q:VK)(E:XK):Prop
|mk:∀x k sh sr s,∀b:Nat,vs=[.ref x.s,.int (b:Int)]→XR t H x k sh sr s→Full k s b→s.rc.length+100<1000000→(match XS.mvs (lvP s.q.P b s.q.V) s with
|(s',none)=>∀H',XR t H' x k sh sr s'→Keep (t.e9::sf x) H H'→E (.ref t.C_PowerGone) none H'
|(s',some ms)=>∀ml us H',XR t H' x k sh sr s'→H ml=none→H' ml=some (.lst us)→Paired (TupD H') us ms→Mvd k s b s' (lvP s.q.P b s.q.V).length→(∀y∈s'.q.V,¬y.2 / (s'.q.P:Int)=(b:Int))→Keep (t.e9::sf x) H H'→Q (.ref ml) H')→spMv t vs H Q E
theorem q74(T:Txt K mg t)(S:Fns K t)(B:BmIn base mg):S.aAW.OkE P w mg base 12 (spMv t):=by(
refine S.aAW.F.okE vB (λvs H Q E h=>?_) (λcdv A outer s H vs Q E hr h=>?_)
·repeat obtain⟨_,h⟩:=h
 all_goals subst_vars;rfl
obtain⟨x,k,sh,sr,s,b,rfl,j,fl,rc,kk⟩:=h
have s9:(99999:Nat)<sizeLine:=by decide
have spR:=fl.sp j.w
have l6:=j.w.l6
refine⟨_,(qB (qV (i:=2) vB.nd rfl (Or.inl rfl) (jU qE)) (qB (uP cL rfl (jF (jG (qJ (pv 0) rfl) T.fE T.aBA (q3N T S).mono hr S.oK.b .nil qK (qA (pv 1) qE))) (q5V rfl (u7 (qU (i:=3) vB.nd rfl (Or.inl rfl)) (u7 (qU (i:=4) vB.nd rfl (Or.inl rfl)) q3R))) (qD (j8 (qBZ wN wF wG q0K (pv 2) (qA (yP (qA (pv 4) (qA (pv 3) (qA (jV jI (pv 0) T.fB T.aBG (q1F T S B).mono hr S.tZ.b .nil (qA (pv 4) (qA (jV jI (pv 0) T.fB T.aAG (q1G T S).mono hr S.iG.b .nil (qA (pv 3) (qA (pv 4) qE))) qE))) qE)))) qE q3X))))) (qD (qL (pv 2))))),?_⟩
try dsimp-beta-proj-iota-zeta-eta only[wishK,cxK]
refine⟨sz0,λml H1 n1 s1 h1=>?_⟩
obtain⟨m,hs1,c,_⟩:=(j.same s1).e
refine(iV rfl (iF hs1.o T.fB T.fG rfl (iM hs1.bk.o rfl ⟨_,rfl,x.k,s.q,b,rfl,hs1.bk,j.w.qs.ok,by lia,λll ps rs H2 s2 n2 h2 pr2 pm so=>?_⟩)))
obtain rfl:=qI4 j.w pm so
have s02:=s1.trans s2
have mlF:=j.off n1
have llF:=(j.same s1).off n2
have llm:ll≠ml:=(qF h1 n2).symm
have lps:=pr2.len
have lr:(lvP s.q.P b s.q.V).length≤16:=by have:=j.w.qs.ok.p2;unfold lvP;refine mO (d9 _ _) ?_;rw[mG];exact this
refine⟨ll,rfl,⟨_,SqL.of h2⟩,?_⟩
refine uX (K:=K) (xs:=ps) (λi σ' H'=>∃y3 y4 us s' ms,σ'=[some (.ref x.s),some (.int (b:Int)),some (.ref ml),y3,y4]∧XR t H' x k sh sr s'∧MvI k s b (lvP s.q.P b s.q.V) i s' ms∧H' ml=some (.lst us)∧Paired (TupD H') us ms∧Keep (ml::t.e9::sf x) H2 H') ⟨_,_,[],s,[],rfl,j.same s02,MvI.zero j.w fl.f,s2 _ _ h1,.nil,Keep.refl⟩ (λi σ' H' hi hp=>?_) (λi v σ' H' hv hp=>?_) (λσ' H' hp=>?_)
·obtain⟨y3,y4,us,s',ms,rfl,j',mi,hml,pr,kk'⟩:=hp;refine SqL.of (kk'.k _ _ (λz=>?_) h2);rcases kN.mp z with e|e
 ·exact llm e
 exact llF e
·obtain⟨y3,y4,us,s',ms,rfl,j',mi,hml,pr,kk'⟩:=hp;obtain⟨kv,hk,tp,rfl,htp⟩:=Paired.at pr2 hv;obtain⟨hi,ekv⟩:=kC.mp hk;obtain⟨n,p,er,hnp,n0,n64⟩:=mi.at hi;rw[er]at ekv;subst ekv;have htp':=kk'.tp _ _ htp;have rce:=mi.rc;have rme:=mi.rm;have kH:∀{G},Keep (t.e9::sf x) H' G→Keep (t.e9::sf x) H G:=fun {G} kG=>by
  refine⟨λy o ny e=>kG.k y o ny (kk'.k y o (λz=>?_) (s02 _ _ e)),λy ys e=>kG.tp _ _ (kk'.tp _ _ (s02 _ _ e))⟩;rcases kN.mp z with z|z
  ·rw[z,n1]at e;cases e
  exact ny z
 refine⟨tp,_,rfl,SqT.of htp',rfl,_,_,rfl,_,_,rfl,rfl,?_⟩;refine⟨_,rfl,.inl ⟨rfl,_,SqL.of hml⟩,_,rfl,_,rfl,iV rfl (iM j'.o rfl ⟨_,rfl,iV rfl (iM j'.o rfl ⟨_,rfl,_,rfl,x,k,sh,sr,s',n,p,rfl,j',hnp,λdk=>?_,λH3 s3=>?_⟩)⟩)⟩
 ·rw[mi.dark hi dk]at kk;exact kk H' j' (kH Keep.refl)
 dsimp only[tNil,wO,dC,gU];have hml3:=s3 _ _ hml;refine(j'.same s3).set n0 n64 (by lia) (by rw[mi.eP];lia) (.inl ⟨p,hnp⟩) (λdk H5 j5 k5=>?_) (λdk H5 j5 k5=>?_)
 ·rw[mi.dark hi dk]at kk;exact kk H5 j5 (kH ((Keep.same s3).trans k5))
 have hml5:=k5.k _ _ mlF hml3;refine⟨sz3,λtu H6 n6 s6 h6=>⟨ml,us,_,rfl,rfl,s6 _ _ hml5,by have:=pr.len;have:=mi.l;lia,?_⟩⟩;have hml6:=s6 _ _ hml5;have k7:=Keep.upd (F:=[ml]) (o:=.lst (us++[.ref tu])) hml6 (λ_ z=>by cases z) (by simp);have hml7:(upd H6 ml (.lst (us++[.ref tu]))) ml=_:=qI;have j7:=(j5.same s6).lst (o:=.lst (us++[.ref tu])) hml6 mlF;generalize upd H6 ml (.lst (us++[.ref tu]))=H7 at k7 hml7 j7 ⊢;have kA:Keep (ml::t.e9::sf x) H' H7:=(((Keep.same s3).trans (k5.mono (λy hy=>kB _ hy))).trans (Keep.same s6)).trans (k7.mono (by simp));exact⟨some (.int p),some (.int n),us++[.ref tu],_,_,rfl,j7,mi.step q6N hi spR dk er,hml7,L2.Paired.snoc (Paired.mapP pr λv d ⟨p',e',h'⟩=>⟨p',e',kA.tp _ _ h'⟩) ⟨tu,rfl,k7.tp _ _ h6⟩,kk'.trans kA⟩
obtain⟨y3,y4,us,s',ms,rfl,j',mi,hml,pr,kk'⟩:=hp
rw[lps]at mi
obtain⟨e,nl⟩:=mi.fin rfl
rw[e]at kk
have kH:Keep (t.e9::sf x) H H':=by
 refine⟨λy o ny e=>kk'.k y o (λz=>?_) (s02 _ _ e),λy ys e=>kk'.tp _ _ (s02 _ _ e)⟩;rcases kN.mp z with z|z
 ·rw[z,n1]at e;cases e
 exact ny z
exact⟨_,rfl,kk ml us H' j' n1 hml pr (mi.mvd (kO _)) nl kH⟩)
noncomputable abbrev fx(t:Adr)(x:Sto)(r pp:Addr):List Addr:=pp::r::t.fA::t.e9::sf x
noncomputable def PapA(H:Hp)(F:List Addr)(v:V)(p:Pa):Prop:=∃pa l1 l2 us rs,v=.ref pa∧H pa=some (.tup [.str p.why,.ref l1,.int (p.b:Int),.ref l2,.bl true])∧H l1=some (.lst rs)∧Tls H rs p.ts∧H l2=some (.lst us)∧Paired (TupD H) us p.mv∧l1∉F∧l2∉F
theorem PapA.keep{H H':Hp}{F G:List Addr}{v:V}{p:Pa}(h:PapA H F v p)(k:Keep G H H')(s:∀y∈G,y∈F):PapA H' F v p:=by obtain⟨pa,l1,l2,us,rs,e,a,b,c,d,f,g1,g2⟩:=h;exact⟨pa,l1,l2,us,rs,e,k.tp _ _ a,k.k _ _ (λz=>g1 (s _ z)) b,uC k c,k.k _ _ (λz=>g2 (s _ z)) d,Paired.mapP f λv d ⟨p',e',h'⟩=>⟨p',e',k.tp _ _ h'⟩,g1,g2⟩
structure XX(t:Adr)(H:Hp)(x:Sto)(k:Tm)(sh sr:Int)(r:Addr)(rl:List Addr)(pp:Addr)(X:Sx):Prop where
j:XR t H x k sh sr X.s
er:x.ru=.ref r
ru:RuX t H r rl X.g
of:Off t x (r::rl)
ep:x.pa=.ref pp
hp:∃ps,H pp=some (.lst ps)∧Paired (PapA H (fx t x r pp)) ps X.ps
np:pp∉t.e9::sf x
nr:pp∉r::rl
section
variable{H H':Hp}{x:Sto}{k:Tm}{sh sr:Int}{r:Addr}{rl:List Addr}{pp:Addr}{X:Sx}
theorem XX.kT(h:XX t H x k sh sr r rl pp X)(kk:Keep [t.e9] H H')(tb:TbF t H'):XX t H' x k sh sr r rl pp X:=by obtain⟨ps,h1,h2⟩:=h.hp;have oT:=h.of t.e9 (by simp);exact⟨h.j.kT kk tb,h.er,h.ru.keep kk (λy hy z=>oT (by rw[←kD.mp z];exact hy)),h.of,h.ep,⟨ps,kk.k _ _ (λz=>h.np (by rw[kD.mp z];simp)) h1,Paired.mapP h2 λ_ _ z=>z.keep kk (by simp)⟩,h.np,h.nr⟩
theorem XX.same(h:XX t H x k sh sr r rl pp X)(s:Same H H'):XX t H' x k sh sr r rl pp X:=h.kT (Keep.same s) (h.j.tb.same s)
theorem XX.on(h:XX t H x k sh sr r rl pp X){s:XS}(kk:Keep (t.e9::sf x) H H')(j:XR t H' x k sh sr s):XX t H' x k sh sr r rl pp ⟨s,X.g,X.ps⟩:=by obtain⟨ps,h1,h2⟩:=h.hp;exact⟨j,h.er,h.ru.keep kk (λy hy=>h.of.n hy),h.of,h.ep,⟨ps,kk.k _ _ h.np h1,Paired.mapP h2 λ_ _ z=>z.keep kk (by intro y hy;simp at hy ⊢;rcases hy with e|e<;>simp[e])⟩,h.np,h.nr⟩
end
noncomputable def rfE(t:Adr)(e:Rf)(E:XK)(H:Hp):Prop:=match e with
| .dark=>E (.ref t.C_PowerGone) none H
| .room=>E (.ref t.C_NoRoom) none H
noncomputable def qLS(t:Adr):Sp:=λvs H Q E=>∃x k sh sr r rl pp X,vs=[.ref x.s]∧XX t H x k sh sr r rl pp X∧k.ev=true∧X.s.rc.length+200<1000000∧X.ps.length<90000∧(match X.room k with
|(Y,.error e)=>∀H',XX t H' x k sh sr r rl pp Y→Keep (fx t x r pp) H H'→rfE t e E H'
|(Y,.ok p)=>∀v H',XX t H' x k sh sr r rl pp Y→Keep (fx t x r pp) H H'→Q v H')
theorem q3P(T:Txt K mg t)(S:Fns K t)(B:BmIn base mg):S.oN.OkE P w mg base 14 (qLS t):=by(
refine S.oN.F.okE yE (λvs H Q E h=>?_) (λcdv A outer s H vs Q E hr h=>?_)
·repeat obtain⟨_,h⟩:=h
 all_goals subst_vars;rfl
obtain⟨x,k,sh,sr,r,rl,pp,X,rfl,h,ev,rc,lp,kk⟩:=h
have s9:(99999:Nat)<sizeLine:=by decide
refine⟨_,(qB (qV (i:=1) yE.nd rfl (Or.inl rfl) (j0 (pv 0) T.fB T.o8 (zA T S B).mono hr S.i4.b .nil qK)) (qB (qV (i:=2) yE.nd rfl (Or.inl rfl) (uE jI (pv 0) T.fB T.aA7 (q2K T S B).mono hr S.tN.b .nil)) (qB (qV (i:=3) yE.nd rfl (Or.inl rfl) (jV jI (pv 0) T.fB T.aDI (q74 T S B).mono hr S.aAW.b .nil (qA (qW yN (pv 2) qG (λ_ _=>rfl)) qE))) (qB (qV (i:=4) yE.nd rfl (Or.inl rfl) (jV jI (pv 0) T.fB T.aDC (q71 T S).mono hr S.aAQ.b .nil (qA (qW yN (pv 2) qG (λ_ _=>rfl)) qE))) (qB (j8 (qBZ wN wF wG q0K (qJ (pv 0) rfl) (qA (qX (q58 T S).mono hr rfl T.aCD T.aB1 S.aBV.b .nil qK (qA (qW yN (pv 2) qG (λ_ _=>rfl)) (qA (pv 1) (qA (qW yN (pv 2) qG (λ_ _=>rfl)) (qA (pv 3) (qA (pv 4) qE)))))) qE))) (qD (qL (qX (q58 T S).mono hr rfl T.aCD T.aB1 S.aBV.b .nil qK (qA (qW yN (pv 2) qG (λ_ _=>rfl)) (qA (pv 1) (qA (qW yN (pv 2) qG (λ_ _=>rfl)) (qA (pv 3) (qA (pv 4) qE))))))))))))),?_⟩
try dsimp-beta-proj-iota-zeta-eta only[wishK,cxK]
refine(iV rfl (iM h.j.o rfl ?_))
dsimp only[tNil,dC]
refine h.j.opts ev λop rs H1 np j1 k1 h1 ty=>?_
have h1':=h.kT k1 j1.tb
have mT:∀y∈[t.e9],y∈fx t x r pp:=by simp
refine(iV rfl (iM j1.o rfl ⟨x,k,sh,sr,X.s,r,rl,X.g,rfl,j1,ev,h.er,h1'.ru,h.of,by lia,?_⟩))
unfold Sx.room at kk
cases htk:X.s.tk k X.g with
|none=>rw[htk]at kk;exact λH2 j2 k2=>kk H2 (h1'.kT k2 j2.tb) ((k1.mono mT).trans (k2.mono mT))
|some ybg=>
 obtain⟨y,b,g'⟩:=ybg;rw[htk]at kk;have fb:=q5P h.ru.ok htk;refine λcp H2 k2 j2 hR2 h2=>?_;have m2:∀y∈[t.e9,t.fA,r],y∈fx t x r pp:=by simp
 have mS:∀y∈t.e9::sf x,y∈fx t x r pp:=λy hy=>kB _ (kB _ (kB _ hy));have k02:Keep (fx t x r pp) H H2:=(k1.mono mT).trans (k2.mono m2);have npr:pp∉r::t.e9::sf x:=λz=>(kN.mp z).elim (λe=>h.nr (by rw[e];exact kY)) h.np;obtain⟨ps,hp0,hpp0⟩:=h.hp;obtain⟨_,hTF,_,pB,hTB,_⟩:=h.j.tb;have np2:pp∉[t.e9,t.fA,r]:=λz=>by
  have z:pp=t.e9∨pp=t.fA∨pp=r:=by simpa using z
  rcases z with z|z|z
  ·exact npr (by rw[z];simp)
  ·rw[z,hTB]at hp0;cases hp0
  exact npr (by rw[z];simp)
 have lps:=hpp0.len;have h2':XX t H2 x k sh sr r rl pp ⟨X.s,g',X.ps⟩:=⟨j2,h.er,hR2,h.of,h.ep,⟨ps,k2.k _ _ np2 (k1.k _ _ (λz=>h.np (by rw[kD.mp z];simp)) hp0),Paired.mapP hpp0 λ_ _ z=>(z.keep k1 mT).keep k2 m2⟩,h.np,h.nr⟩;have opn:=h.j.off np;obtain⟨C0,d0,f0,er0⟩:=h.ru.ins;have opr:op≠r:=λz=>by rw[z,er0]at np;cases np
 have opp:op≠pp:=λz=>by rw[z,hp0]at np;cases np
 have opH2:H2 op=some (.lst rs):=k2.k _ _ (λz=>by
  have z:op=t.e9∨op=t.fA∨op=r:=by simpa using z
  rcases z with z|z|z
  ·exact opn (by rw[z];simp)
  ·rw[z,hTB]at np;cases np
  exact opr z) h1
 refine(iV rfl (iM j2.o rfl ⟨_,rfl,iT (k:=1) (v:=.int (b:Int)) (SqT.of h2) rfl ⟨x,k,sh,sr,X.s,b,rfl,j2,fb,by lia,?_⟩⟩));cases hmv:XS.mvs (lvP X.s.q.P b X.s.q.V) X.s with
 |mk s o=>
  dsimp only at kk;rw[hmv]at kk;cases o with
  |none=>exact λH3 j3 k3=>kk H3 (h2'.on k3 j3) (k02.trans (k3.mono mS))
  |some ms=>
   refine λml us H3 j3 nm hml prm md nl k3=>?_;dsimp only at kk;have h3:=k3.tp _ _ h2;have mrc:=md.rc;have l16:(lvP X.s.q.P b X.s.q.V).length≤16:=by have:=h.j.w.qs.ok.p2;unfold lvP;refine mO (d9 _ _) ?_;rw[mG];exact this
   refine(iV rfl (iM j3.o rfl ⟨_,rfl,iT (k:=1) (v:=.int (b:Int)) (SqT.of h3) rfl ⟨x,k,sh,sr,s,b,rfl,j3,by rw[md.eB];exact fb.b,by rw[md.eP];exact md.fb,by lia,nl,λdk=>?_,λdk H4 j4 k4=>⟨rfl,?_⟩⟩⟩))
   ·rw[kL dk]at kk;exact kk H3 (h2'.on k3 j3) (k02.trans (k3.mono mS))
   rw[kJ dk]at kk;have k34:Keep (t.e9::sf x) H2 H4:=k3.trans k4;have h4x:=h2'.on k34 j4;obtain⟨ps4,hpp4,prp4⟩:=h4x.hp;have lps4:=prp4.len;have hR4:=h4x.ru;obtain⟨C4,d4,f4,er4⟩:=hR4.ins;have h4:=k34.tp _ _ h2;have hop4:=k34.k _ _ opn opH2;have mln:=j2.off nm;have hml4:=k4.k _ _ mln hml;have o4:=j4.o;rw[h.ep]at o4;refine(iV rfl (iF o4 T.fB T.aAM rfl ⟨.inl ⟨rfl,_,SqL.of hpp4⟩,_,rfl,iT (k:=0) (v:=_) (SqT.of h4) rfl ⟨_,rfl,_,rfl,iT (k:=1) (v:=_) (SqT.of h4) rfl ⟨_,rfl,_,rfl,.str y,.int (b:Int),.bl true,op,ml,rs,us,rfl,hop4,hml4,λpa a1 a2 H5 s5 npa na1 na2 e5 e51 e52=>⟨pp,ps4,_,rfl,rfl,s5 _ _ hpp4,by simp only at lps4;lia,?_⟩⟩⟩⟩));have hpp5:=s5 _ _ hpp4;have k6:=Keep.upd (F:=[pp]) (o:=.lst (ps4++[.ref pa])) hpp5 (λ_ z=>by cases z) (by simp);have hpp6:(upd H5 pp (.lst (ps4++[.ref pa]))) pp=_:=qI;have j6:=(j4.same s5).lst (o:=.lst (ps4++[.ref pa])) hpp5 h.np;generalize upd H5 pp (.lst (ps4++[.ref pa]))=H6 at k6 hpp6 j6 ⊢;have m6:∀y∈[pp],y∈fx t x r pp:=by simp
   have npp:∀{y:Addr},H4 y=none→y∉[pp]:=fun {y} e z=>by rw[kD.mp z,hpp4]at e;cases e
   have inF:∀{y:Addr},H4 y=none→y∉fx t x r pp:=fun {y} e z=>by
    rcases kN.mp z with z|z
    ·rw[z,hpp4]at e;cases e
    rcases kN.mp z with z|z
    ·rw[z,er4]at e;cases e
    rcases kN.mp z with z|z
    ·obtain⟨_,_,_,_,hTB4,_⟩:=j4.tb;rw[z,hTB4]at e;cases e
    exact(j4.off e) z
   have opp6:op∉[pp]:=λz=>opp (kD.mp z);have mlp:ml∉[pp]:=λz=>by obtain⟨ps2,e2,_⟩:=h2'.hp;rw[kD.mp z,e2]at nm;cases nm
   refine⟨_,rfl,iT (k:=0) (v:=_) (SqT.of (k6.tp _ _ (s5 _ _ h4))) rfl ⟨_,rfl,_,rfl,iT (k:=1) (v:=_) (SqT.of (k6.tp _ _ (s5 _ _ h4))) rfl ⟨_,rfl,_,rfl,.str y,.int (b:Int),.bl true,op,ml,rs,us,rfl,k6.k _ _ opp6 (s5 _ _ hop4),k6.k _ _ mlp (s5 _ _ hml4),λpb c1 c2 H7 s7 npb nc1 nc2 e7 e71 e72=>?_⟩⟩⟩;have k47:Keep [pp] H4 H7:=((Keep.same s5).trans k6).trans (Keep.same s7);have k07:Keep (fx t x r pp) H H7:=(k02.trans (k34.mono mS)).trans (k47.mono m6);have ty7:Tls H7 rs (X.s.ots k):=uC k47 (uC k34 (uC k2 ty));have prm7:Paired (TupD H7) us ms:=Paired.mapP prm λv d ⟨p',e',h'⟩=>⟨p',e',k47.tp _ _ (k4.tp _ _ h')⟩;exact kk (.ref pb) H7 ⟨j6.same s7,h.er,(hR4.keep k47 (λy hy z=>h.nr (by rw[←kD.mp z];exact hy))),h.of,h.ep,⟨ps4++[.ref pa],s7 _ _ hpp6,L2.Paired.snoc (Paired.mapP prp4 λ_ _ z=>z.keep k47 m6) ⟨pa,a1,a2,us,rs,rfl,s7 _ _ (k6.tp _ _ e5),s7 _ _ (k6.k _ _ (npp na1) e51),ty7,s7 _ _ (k6.k _ _ (npp na2) e52),prm7,inF na1,inF na2⟩⟩,h.np,h.nr⟩ k07)
noncomputable def spMr(t:Adr):Sp:=λvs H Q E=>∃x k sh sr r rl pp X,∃i Z,vs=[.ref x.s]∧XX t H x k sh sr r rl pp X∧k.ev=true∧X.s.rc.length+100*i+200<1000000∧X.ps.length+i<90000∧X.rooms k i=some Z∧(match Z with
|(Y,.error e)=>∀H',XX t H' x k sh sr r rl pp Y→Keep (fx t x r pp) H H'→rfE t e E H'
|(Y,.ok _)=>∀H',XX t H' x k sh sr r rl pp Y→Keep (fx t x r pp) H H'→Q .non H')
theorem q30(T:Txt K mg t)(S:Fns K t)(B:BmIn base mg):S.i9.OkE P w mg base 15 (spMr t):=by(
refine S.i9.F.okE q2X (λvs H Q E h=>?_) (λcdv A outer s H vs Q E hr h=>?_)
·repeat obtain⟨_,h⟩:=h
 all_goals subst_vars;rfl
obtain⟨x,k,sh,sr,r,rl,pp,X,i,Z,rfl,h,ev,rc,lp,hZ,kk⟩:=h
refine⟨_,(qD (q9I cL (uG (yM (j0 (pv 0) T.fB T.aC6 (q6Y T S B).mono hr S.aAU.b .nil qK))) (qD (j8 (uE jI (pv 0) T.fB T.aBQ (q3P T S B).mono hr S.oN.b .nil))))),?_⟩
try dsimp-beta-proj-iota-zeta-eta only[wishK,cxK]
refine⟨λn σ' H2=>σ'=[some (.ref x.s)]∧∃Y,XX t H2 x k sh sr r rl pp Y∧Keep (fx t x r pp) H H2∧Y.rooms k n=some Z∧Y.s.rc.length+100*n+200<1000000∧Y.ps.length+n<90000,⟨i,rfl,X,h,Keep.refl,hZ,rc,lp⟩,?_⟩
rintro n σ' H2 ⟨rfl,Y,hY,k2,eY,rcY,lpY⟩
obtain⟨m,hs,c,_⟩:=hY.j.e
have mT:∀y∈[t.e9],y∈fx t x r pp:=by simp
refine(iV rfl (iM hs.o rfl ⟨x,_,_,_,m,Y.s.q,_,rfl,hs,c.ft,λl H3 hl k3 tb3=>⟨_,rfl,?_⟩⟩))
rw[c.br,c.cl]at hl
rw[c.br,qKE hY.j.w hl]
have hY3:=hY.kT k3 tb3
have k03:=k2.trans (k3.mono mT)
cases n with
|zero=>
 unfold Sx.rooms at eY;cases z:Y.s.rd k with
 |false=>rw[z,kJ (by decide)]at eY;cases eY
 |true=>rw[z,kL rfl]at eY;cases eY;exact iteF (kk H3 hY3 k03)
|succ n=>
 unfold Sx.rooms at eY;cases z:Y.s.rd k with
 |true=>rw[z,kL rfl]at eY;cases eY;exact iteF (kk H3 hY3 k03)
 |false=>
  rw[z,kJ (by decide)]at eY;refine iteT ⟨_,λ_ _ z=>z,?_⟩;refine(iV rfl (iM hY3.j.o rfl ⟨x,k,sh,sr,r,rl,pp,Y,rfl,hY3,ev,by lia,by lia,?_⟩));cases hr':Y.room k with
  |mk W o=>
   rw[hr']at eY;cases o with
   |error e=>cases eY;exact λH4 h4 k4=>kk H4 h4 (k03.trans k4)
   |ok p=>obtain⟨r1,r2⟩:=qFS hY.j.w hY.ru.ok hr';exact λv H4 h4 k4=>⟨n,d3 _,rfl,W,h4,k03.trans k4,eY,by lia,by lia⟩)
theorem zC(T:Txt K mg t)(S:Fns K t)(B:BmIn base mg):S.iE.OkE P w mg base 16 (spMr t):=by(
refine S.iE.F.okE q2W (λvs H Q E h=>?_) (λcdv A outer s H vs Q E hr h=>?_)
·repeat obtain⟨_,h⟩:=h
 all_goals subst_vars;rfl
obtain⟨x,k,sh,sr,r,rl,pp,X,i,Z,rfl,h⟩:=h
refine⟨_,(qD (j8 (uE jI (pv 0) T.fB T.aBB (q30 T S B).mono hr S.i9.b .nil))),?_⟩
try dsimp-beta-proj-iota-zeta-eta only[wishK,cxK]
exact(iV rfl (iM h.1.j.o rfl ⟨x,k,sh,sr,r,rl,pp,X,i,Z,rfl,h⟩)))
inductive spPWr(t:Adr)(vs:List V)(H:Hp)(Q:VK)(E:XK):Prop
|mk:∀x k sh sr r rl pp X,∀n v:Int,∀i Z,vs=[.ref x.s,.int n,.int v]→XX t H x k sh sr r rl pp X→k.ev=true→X.s.rc.length+100*i+300<1000000→X.ps.length+i<90000→sh≤64→inB (.int n) 0 (sh-1)=true→inB (.int v) 0 (10 ^ 30-1)=true→(¬(hold X.s.q n=false∧sr≤((hdN X.s.q.V).length:Int)))→((∃p,(n,p)∈X.s.q.V)∨X.s.q.V.length<59)→X.ask k i n v=some Z→(match Z with
|(Y,.error e)=>∀H',XX t H' x k sh sr r rl pp Y→Keep (fx t x r pp) H H'→rfE t e E H'
|(Y,.ok p)=>∀H',XX t H' x k sh sr r rl pp Y→Keep (fx t x r pp) H H'→Q (.int (p:Int)) H')→spPWr t vs H Q E
theorem XX.lay{H H2:Hp}{x:Sto}{k:Tm}{sh sr:Int}{r:Addr}{rl:List Addr}{pp:Addr}{X Y:Sx}{i:Nat}{n v:Int}{Z:Sx×Except Rf Nat}(h:XX t H x k sh sr r rl pp X)(rc:X.s.rc.length+100*i+300<1000000)(hl:(∃p,(n,p)∈X.s.q.V)∨X.s.q.V.length<59)(hZ:X.ask k i n v=some Z)(hY:X.rooms k i=some (Y,.ok ()))(n0:0≤n)(n1:n≤64)(h2:XX t H2 x k sh sr r rl pp Y){Q:VK}{E:XK}
 (kk:match Z with
  |(Y,.error e)=>∀H',XX t H' x k sh sr r rl pp Y→Keep (t.e9::sf x) H2 H'→rfE t e E H'
  |(Y,.ok p)=>∀H',XX t H' x k sh sr r rl pp Y→Keep (t.e9::sf x) H2 H'→Q (.int (p:Int)) H'):qCT t [.ref x.s,.int n,.int v] H2 Q E:=by(
obtain⟨_,_,kp,r1,_,rd⟩:=q2U h.j.w h.ru.ok hY
have rd:=mP (rd rfl)
rw[dN,rO]at rd
unfold Sx.ask at hZ
rw[hY]at hZ
dsimp only at hZ
refine h2.j.set n0 n1 (by lia) (by lia) ?_ (λdk H' j' k'=>?_) (λdk H' j' k'=>?_)
·rw[kp.lV];exact hl.imp (λz=>(kp.nm n).mpr z) id
·rw[kL dk]at hZ;cases hZ;exact kk H' (h2.on k' j') k'
rw[kJ dk]at hZ
cases hZ
exact kk H' (h2.on k' j') k')
theorem q2L(T:Txt K mg t)(S:Fns K t)(B:BmIn base mg):S.tI.OkE P w mg base 17 (spPWr t):=by(
refine S.tI.F.okE q6O (λvs H Q E h=>?_) (λcdv A outer s H vs Q E hr h=>?_)
·repeat obtain⟨_,h⟩:=h
 all_goals subst_vars;rfl
obtain⟨x,k,sh,sr,r,rl,pp,X,n,v,i,Z,rfl,h,ev,rc,lp,sh64,z,w,ff,hl,hZ,kk⟩:=h
obtain⟨m,hs,c,_⟩:=h.j.e
refine⟨_,(qB (j8 (jG (pv 0) T.fB T.oU (vS T S).mono hr S.f9.b .nil qK (qA (pv 1) qE))) (qB (jC (uG (yM (qX (qAI T S).mono hr rfl T.aD2 T.aDY S.aCV.b .nil qK (qA (pv 2) qE)))) (qD jH) qS) (qB (j8 (jG (pv 0) T.fB T.aA6 (q2I T S).mono hr S.iX.b .nil qK (qA (pv 1) qE))) (qB (j8 (uE jI (pv 0) T.fB T.o9 (zC T S B).mono hr S.iE.b .nil)) (qD (qL (jV jI (pv 0) T.fB T.aBG (q1F T S B).mono hr S.tZ.b .nil (qA (pv 1) (qA (pv 2) qE))))))))),?_⟩
try dsimp-beta-proj-iota-zeta-eta only[wishK,cxK]
refine(iV rfl (iM hs.o rfl ⟨_,rfl,x,.int sr,_,_,m,X.s.q,.int n,sh,rfl,hs,.int _,?_⟩))
rw[kL z]
obtain⟨n',e,n0,n1⟩:=qGO z
injection e with e
subst e
refine⟨_,rfl,.int v,rfl,.int _,_,rfl,?_⟩
rw[w]
refine iteF ?_
refine(iV rfl (iM hs.o rfl ⟨_,rfl,x,.int sh,_,_,m,X.s.q,n,sr,rfl,hs,c.ft,hd64 h.j.w,λH1 s1=>?_⟩))
rw[kJ ff]
have h1:=h.same s1
have hZ':=hZ
unfold Sx.ask at hZ'
cases hR:X.rooms k i with
|none=>rw[hR]at hZ';cases hZ'
|some YR=>
 obtain⟨Y,o⟩:=YR;refine(iV rfl (iM h1.j.o rfl ⟨x,k,sh,sr,r,rl,pp,X,i,(Y,o),rfl,h1,ev,by lia,lp,hR,?_⟩));rw[hR]at hZ';cases o with
 |error e=>cases hZ';exact λH2 h2 k2=>kk H2 h2 ((Keep.same s1).trans k2)
 |ok u=>
  refine λH2 h2 k2=>?_;refine(iV rfl (iM h2.j.o rfl ⟨_,rfl,_,rfl,?_⟩));dsimp only[tNil,wO,dC,gU];refine h.lay rc hl hZ hR n0 (by lia) h2 ?_;have mS:∀y∈t.e9::sf x,y∈fx t x r pp:=λy hy=>kB _ (kB _ (kB _ hy));obtain⟨W,o⟩:=Z;cases o with
  |error e=>exact λH3 h3 k3=>kk H3 h3 (((Keep.same s1).trans k2).trans (k3.mono mS))
  |ok p=>exact λH3 h3 k3=>kk H3 h3 (((Keep.same s1).trans k2).trans (k3.mono mS)))
theorem XR.forg{H H':Hp}{x:Sto}{k:Tm}{sh sr:Int}{s:XS}(j:XR t H x k sh sr s)(n:Int)(hb:∀{m},StAt t H x (.int sh) (.int sr) (.int (k.ie:Int)) (.int k.sp) m s.q→BkAt t H' x.k (s.q.forget n))(kb:Keep (bf x.k) H H'):XR t H' x k sh sr (s.forg n):=by obtain⟨m,st,c,pg⟩:=j.e;exact⟨⟨m,st.note (hb st) kb,⟨⟨c.ft.ok,c.ft.oq.forget n,c.ft.eB,c.ft.eP⟩,c.br,c.li,c.mo,c.cl,c.lf,c.rc⟩,pg.keep kb⟩,j.w.forg n⟩
inductive spGu(t:Adr)(vs:List V)(H:Hp)(Q:VK)(E:XK):Prop
|mk:∀x k sh sr r rl pp X,∀l0:Addr,∀ss:List Int,vs=[.ref x.s,.ref l0]→XX t H x k sh sr r rl pp X→k.ev=true→H l0=some (.lst (ss.map V.int))→(∀n∈ss,inB (.int n) 0 (sh-1)=true)→(gvn X.s.hl ss=[]→∀H',Same H H'→Q (.int 0) H')→(gvn X.s.hl ss≠[]→∃i Z,X.s.rc.length+100*i+300<1000000∧X.ps.length+i<90000∧((∃p,((64:Int),p)∈X.s.q.V)∨X.s.q.V.length<59)∧X.ask k i 64 (XS.bits (rst X.s.hl (gvn X.s.hl ss)))=some Z∧(match Z with
|(Y,.error e)=>∀H',XX t H' x k sh sr r rl pp Y→Keep (fx t x r pp) H H'→rfE t e E H'
|(Y,.ok p)=>∀H',XX t H' x k sh sr r rl pp ⟨Y.s.forgs (gvn X.s.hl ss),Y.g,Y.ps⟩→Keep (fx t x r pp) H H'→Q (.int ((gvn X.s.hl ss).length:Nat)) H'))→spGu t vs H Q E
theorem q4Y(T:Txt K mg t)(S:Fns K t)(B:BmIn base mg):S.tH.OkE P w mg base 17 (spGu t):=by(
refine S.tH.F.okE yO (λvs H Q E h=>?_) (λcdv A outer s H vs Q E hr h=>?_)
·repeat obtain⟨_,h⟩:=h
 all_goals subst_vars;rfl
obtain⟨x,k,sh,sr,r,rl,pp,X,l0,ss,rfl,h,ev,hl0,hin,kn,kk⟩:=h
have s9:(99999:Nat)<sizeLine:=by decide
obtain⟨m,hs,c,_⟩:=h.j.e
refine⟨_,(qB (uP cL rfl (jF (pv 1)) (qU (i:=2) yO.nd rfl (Or.inl rfl)) (qD (j8 (jG (pv 0) T.fB T.oU (vS T S).mono hr S.f9.b .nil qK (qA (pv 2) qE))))) (qB (qV (i:=3) yO.nd rfl (Or.inl rfl) (j0 (pv 0) T.fB T.aA2 (q0J T S).mono hr S.tF.b .nil qK)) (qB (qV (i:=4) yO.nd rfl (Or.inr rfl) (y6 ["sheets","sheet"] [1] rfl (jF (pv 3)) (λ_ _ _ _ _=>(qU (i:=1) (show List.Nodup (["sheets","sheet"]:List Str)from by decide) rfl (Or.inl rfl))) (λ_ _ _ _ _=>(yF (qM (q6D (K:=K) rfl) (pv 1) (pv 0) rfl))) (λ_ _ _ _ _=>(pv 1)) (by kernel_rfl) (jD (by decide)))) (qB (jC (qM (q8M hr.units) (pv 4) (jU qE) (qP _)) (qD (qL qG)) qS) (qB (j8 (uE jI (pv 0) T.fB T.o9 (zC T S B).mono hr S.iE.b .nil)) (qB (j8 (jV jI (pv 0) T.fB T.aBG (q1F T S B).mono hr S.tZ.b .nil (qA (vJ rfl T.aDT ⟨_,rfl⟩ (v:=.int 64)) (qA (qX (q6X T S).mono hr rfl T.aCR T.aCQ S.aC2.b .nil qK (qA (y6 ["gone","sheet"] [4] rfl (jF (pv 3)) (λ_ _ _ _ _=>(qU (i:=1) (show List.Nodup (["gone","sheet"]:List Str)from by decide) rfl (Or.inl rfl))) (λ_ _ _ _ _=>(yF (qM (q78 (K:=K) rfl) (pv 1) (pv 0) rfl))) (λ_ _ _ _ _=>(pv 1)) (by kernel_rfl) (jD (by decide))) qE)) qE)))) (qB (uP cL rfl (jF (pv 4)) (qU (i:=2) yO.nd rfl (Or.inl rfl)) (qD (j8 (jG (qJ (pv 0) rfl) T.fE T.aA3 (q2H T S).mono hr S.tP.b .nil qK (qA (pv 2) qE))))) (qD (qL (jA jB (by rfl) T.aAS gX (qA (pv 4) qE))))))))))),?_⟩
try dsimp-beta-proj-iota-zeta-eta only[wishK,cxK]
refine⟨_,rfl,l0,rfl,⟨_,SqL.of hl0⟩,?_⟩
refine uX (K:=K) (xs:=ss.map V.int) (λi σ' H2=>∃y,σ'=[some (.ref x.s),some (.ref l0),y,none,none]∧H=H2) ⟨_,rfl,rfl⟩ (λi σ' H2 hi hp=>?_) (λi v σ' H2 hv hp=>?_) (λσ' H2 hp=>?_)
·obtain⟨y,rfl,rfl⟩:=hp;exact SqL.of hl0
·obtain⟨y,rfl,rfl⟩:=hp;rw[mD]at hv;obtain⟨n,hw,rfl⟩:=mK.mp hv;refine(iV rfl (iM hs.o rfl ⟨_,rfl,x,_,_,_,m,X.s.q,.int n,sh,rfl,hs,.int _,?_⟩));rw[kL (hin n (gP hw))];exact⟨_,rfl,rfl⟩
obtain⟨y,rfl,rfl⟩:=hp
refine(iV rfl (iM hs.o rfl ⟨x,.int sh,_,_,_,m,X.s.q,rfl,hs,c.ft,hd64 h.j.w,λhl ns H1 hn s1 n1 h1=>?_⟩))
have l64:ns.length<64:=by rw[hn.pm.length_eq];exact hd64 h.j.w
obtain rfl:=qG3 hn
refine⟨_,rfl,hl,rfl,⟨_,SqL.of h1⟩,λD H2 nD s2 hD=>?_⟩
refine yV (K:=K) (xs:=X.s.hl.map V.int) (D:=D) (λi H3=>Same H1 H3∧H3 D=some (.lst ((gvn (X.s.hl.take i) ss).map V.int))) ⟨s2,hD⟩ (λi H3 hp=>SqL.of (hp.1 _ _ h1)) (λi v H3 hv hp=>?_) (λH3 hp=>?_)
·obtain⟨sm,hd⟩:=hp;rw[mD]at hv;obtain⟨n,hw,rfl⟩:=mK.mp hv;have hi:=(kC.mp hw).1;have ev':=(kC.mp hw).2;refine⟨_,rfl,_,rfl,l0,_,rfl,.inl (SqL.of (sm _ _ (s1 _ _ hl0))),rfl,qCU,_,rfl,?_⟩;show if inV (.int n) (ss.map V.int)=true then _ else _;rw[q4C];have eg:gvn (X.s.hl.take (i+1)) ss=gvn (X.s.hl.take i) ss++(if n∈ss then[n]else[]):=by
  unfold gvn;rw[←kW hi,gA,ev',mU];by_cases z:n∈ss
  ·rw[hC z,kL z];rfl
  rw[hU z,kJ z];rfl
 rw[eg];by_cases z:n∈ss
 ·rw[hC z,kL z];refine iteT ?_;refine⟨_,rfl,_,hd,?_,λb o e=>?_,?_⟩
  ·rw[hG];have l1:(gvn (X.s.hl.take i) ss).length≤(X.s.hl.take i).length:=mC _ _;rw[gE]at l1;lia
  ·rw[qC (qF e nD)];exact sm _ _ e
  rw[qI,mM];rfl
 rw[hU z,kJ z,gU];exact iteF ⟨sm,hd⟩
obtain⟨sm,hd⟩:=hp
rw[hG,gF]at hd
have s03:Same H H3:=s1.trans sm
refine⟨_,rfl,sz0,λe H4 n4 s4 h4=>⟨D,_,e,rfl,rfl,SqL.of (s4 _ _ hd),SqL.of h4,_,rfl,?_⟩⟩
have s04:=s03.trans s4
by_cases z:gvn X.s.hl ss=[]
·rw[z];exact iteT (kn z H4 s04)
rw[hU (λy=>z (by cases hq:gvn X.s.hl ss with|nil=>rfl|cons a r=>rw[hq]at y;cases y))]
refine iteF ?_
obtain⟨i,Z,rc,lp,hl6,hZ,kk⟩:=kk z
have h4x:=h.same s04
have hZ':=hZ
unfold Sx.ask at hZ'
cases hR:X.rooms k i with
|none=>rw[hR]at hZ';cases hZ'
|some YR=>
 obtain⟨Y,o⟩:=YR;refine(iV rfl (iM h4x.j.o rfl ⟨x,k,sh,sr,r,rl,pp,X,i,(Y,o),rfl,h4x,ev,by lia,lp,hR,?_⟩));rw[hR]at hZ';cases o with
 |error e=>cases hZ';exact λH2 h2 k2=>kk H2 h2 ((Keep.same s04).trans k2)
 |ok u=>
  refine λH5 h5 k5=>?_;obtain⟨ps0,hp0,_⟩:=h.hp;obtain⟨C0,d0,f0,er0⟩:=h.ru.ins;have offF:∀{y:Addr},H y=none→y∉fx t x r pp:=fun {y} e zz=>by
   rcases kN.mp zz with zz|zz
   ·rw[zz,hp0]at e;cases e
   rcases kN.mp zz with zz|zz
   ·rw[zz,er0]at e;cases e
   rcases kN.mp zz with zz|zz
   ·obtain⟨_,_,_,_,hTB,_⟩:=h.j.tb;rw[zz,hTB]at e;cases e
   exact h.j.off e zz
  have dF:=offF (s1.free nD);have h1_5:=k5.k _ _ (offF n1) (s4 _ _ (sm _ _ h1));have hd5:=k5.k _ _ dF (s4 _ _ hd);refine(iV rfl (iM h5.j.o rfl ?_));refine⟨_,rfl,hl,rfl,⟨_,SqL.of h1_5⟩,λD2 H6 n6 s6 hD2=>?_⟩;refine yV (K:=K) (xs:=X.s.hl.map V.int) (D:=D2) (λi H7=>Same H5 H7∧H7 D2=some (.lst ((rst (X.s.hl.take i) (gvn X.s.hl ss)).map V.int))) ⟨s6,hD2⟩ (λi H7 hp=>SqL.of (hp.1 _ _ h1_5)) (λi v H7 hv hp=>?_) (λH7 hp=>?_)
  ·obtain⟨sm7,hd7⟩:=hp;rw[mD]at hv;obtain⟨n,hw,rfl⟩:=mK.mp hv;have hi:=(kC.mp hw).1;have ev':=(kC.mp hw).2;refine⟨_,rfl,_,rfl,D,_,rfl,.inl (SqL.of (sm7 _ _ hd5)),rfl,qCU,_,rfl,?_⟩;show if(!inV (.int n) ((gvn X.s.hl ss).map V.int))=true then _ else _;rw[q4C];have eg:rst (X.s.hl.take (i+1)) (gvn X.s.hl ss)=rst (X.s.hl.take i) (gvn X.s.hl ss)++(if n∈gvn X.s.hl ss then[]else[n]):=by
    unfold rst;rw[←kW hi,gA,ev',mU];by_cases y:n∈gvn X.s.hl ss
    ·rw[hC y,kL y];rfl
    rw[hU y,kJ y];rfl
   rw[eg];by_cases y:n∈gvn X.s.hl ss
   ·rw[hC y,kL y,gU];exact iteF ⟨sm7,hd7⟩
   rw[hU y,kJ y];refine iteT ?_;refine⟨_,rfl,_,hd7,?_,λb o e=>?_,?_⟩
   ·rw[hG];have l1:(rst (X.s.hl.take i) (gvn X.s.hl ss)).length≤(X.s.hl.take i).length:=mC _ _;rw[gE]at l1;lia
   ·rw[qC (qF e n6)];exact sm7 _ _ e
   rw[qI,mM];rfl
  obtain⟨sm7,hd7⟩:=hp;rw[hG,gF]at hd7;obtain⟨en,lt⟩:=qIO (ns:=rst X.s.hl (gvn X.s.hl ss)) (λn hn'=>qIN h.j.w n (mV.mp hn').1);rw[en]at hd7;refine⟨D2,_,rfl,SqL.of hd7,lt,?_⟩;have h7:=h5.same sm7;have mS:∀y∈t.e9::sf x,y∈fx t x r pp:=λy hy=>kB _ (kB _ (kB _ hy));dsimp only[tNil,wO,dC,gU];refine h.lay (Z:=Z) rc hl6 hZ hR (by decide) (by decide) h7 ?_;obtain⟨W,o⟩:=Z;have k07:Keep (fx t x r pp) H H7:=((Keep.same s04).trans k5).trans (Keep.same sm7);cases o with
  |error e=>exact λH8 h8 k8=>kk H8 h8 (k07.trans (k8.mono mS))
  |ok p=>
   refine λH8 h8 k8=>?_;have hd8:=k8.k _ _ (λy=>dF (mS _ y)) (sm7 _ _ hd5);refine⟨_,rfl,D,rfl,⟨_,SqL.of hd8⟩,?_⟩;refine uX (K:=K) (xs:=(gvn X.s.hl ss).map V.int) (λi σ' H'=>∃y',σ'=[some (.ref x.s),some (.ref l0),y',some (.ref hl),some (.ref D)]∧XR t H' x k sh sr (W.s.forgs ((gvn X.s.hl ss).take i))∧Keep (bf x.k) H8 H') ⟨_,rfl,h8.j,Keep.refl⟩ (λi σ' H' hi hp=>?_) (λi v σ' H' hv hp=>?_) (λσ' H' hp=>?_)
   ·obtain⟨y',rfl,j',kb⟩:=hp;exact SqL.of (kb.k _ _ (λw=>dF (mS _ (by simp[sf,w]))) hd8)
   ·obtain⟨y',rfl,j',kb⟩:=hp;rw[mD]at hv;obtain⟨n,hw,rfl⟩:=mK.mp hv;obtain⟨m',st,c',_⟩:=j'.e;refine(iV rfl (iF st.o T.fB T.fG rfl (iM st.bk.o rfl ⟨_,rfl,x.k,_,n,rfl,st.bk,j'.w.qs.ok,st.ds,λH9 hb9 k9=>?_⟩)));have k9:Keep (bf x.k) H' H9:=k9.mono (by intro b hb;simp at hb;rcases hb with rfl|rfl<;>simp[bf]);refine⟨_,rfl,?_,kb.trans k9⟩;rw[qBH hw];exact j'.forg n (λ_=>hb9) k9
   obtain⟨y',rfl,j',kb⟩:=hp;rw[hG,gF]at j';have hd9:=kb.k _ _ (λw=>dF (mS _ (by simp[sf,w]))) hd8;refine⟨_,rfl,D,_,rfl,.inl (SqL.of hd9),?_⟩;rw[hG];have kb':Keep (t.e9::sf x) H8 H':=kb.mono (λb hb=>by simp[sf,hb]);exact kk H' (h8.on kb' j') ((k07.trans (k8.mono mS)).trans (kb'.mono mS)))
theorem TbF.updD{H:Hp}{p:Addr}{kvs:List (Key×V)}{o:HO}(h:TbF t H)(e:H p=some (.dK kvs)):TbF t (upd H p o):=by exact h.gen λb o' to e'=>by rw[qC (yZ to e' e qKK)];exact e'
section
variable{H H':Hp}{x:Sto}{k:Tm}{sh sr:Int}{r:Addr}{rl:List Addr}{pp:Addr}{X:Sx}
theorem XX.dct(h:XX t H x k sh sr r rl pp X){p:Addr}{kvs kvs':List (Key×V)}(e:H p=some (.dK kvs))(np:p∉x.a.li::fx t x r pp)(nr:p∉rl):XX t (upd H p (.dK kvs')) x k sh sr r rl pp X:=by(
have kk:=Keep.upd (F:=[p]) (o:=.dK kvs') e (λ_ z=>by cases z) (by simp)
obtain⟨ps,h1,h2⟩:=h.hp
obtain⟨m,st,_⟩:=h.j.e
have fr:∀{y:Addr} {xs:List V},H y=some (.lst xs)→(upd H p (.dK kvs')) y=some (.lst xs):=fun {y xs} e'=>kk.k _ _ (λz=>by rw[kD.mp z,e]at e';cases e') e'
refine⟨h.j.keep kk (λy hy z=>?_) (TbF.updD st.tb e),h.er,h.ru.keep kk (λy hy z=>?_),h.of,h.ep,⟨ps,fr h1,Paired.mapP h2 λv pa ⟨a,l1,l2,us,rs,e1,e2,e3,e4,e5,e6,e7,e8⟩=>⟨a,l1,l2,us,rs,e1,kk.tp _ _ e2,fr e3,uC kk e4,fr e5,Paired.mapP e6 λv d ⟨p',e',h'⟩=>⟨p',e',kk.tp _ _ h'⟩,e7,e8⟩⟩,h.np,h.nr⟩
·rw[kD.mp z]at hy;rcases gN.mp hy with hy|hy
 ·have hy:p=x.s∨p=x.tm:=by simpa using hy
  rcases hy with h|h
  ·rw[h,st.o]at e;cases e
  rw[h,st.te]at e;cases e
 rcases kN.mp hy with h|h
 ·exact np (by rw[h];simp)
 exact np (by simp[h])
rw[kD.mp z]at hy
rcases kN.mp hy with h|h
·exact np (by rw[h];simp)
exact nr h)
theorem XX.chip(h:XX t H x k sh sr r rl pp X):∃m,ChipAt t.C_Chip H x.c x.a m∧m.Ok∧m.lf=X.s.lf∧m.rc=X.s.rc∧m.cl=X.s.cl∧m.bl=(X.s.q.B:Int)∧m.pg=(X.s.q.P:Int)∧PgAt H m.bo X.s.pg∧∀l,(∀i,l=some i→0≤i)→∀H',ChipAt t.C_Chip H' x.c x.a { m with lf:=l }→Keep (foot x.c x.a) H H'→XX t H' x k sh sr r rl pp ⟨{ X.s with lf:=l },X.g,X.ps⟩:=by(
obtain⟨m,st,c,pg⟩:=h.j.e
refine⟨m,st.ch,c.ft.ok,c.lf,c.rc,c.cl,c.ft.eB,c.ft.eP,pg,λl hl H' hc k'=>?_⟩
have k2:Keep (t.e9::sf x) H H':=k'.mono (λy hy=>by unfold sf;exact kB _ (gO _ hy))
have ok':({ m with lf:=l }:CM).Ok:=⟨c.ft.ok.bl1,c.ft.ok.bl2,c.ft.ok.pg1,c.ft.ok.pg2,c.ft.ok.nbo,c.ft.ok.ncl,c.ft.ok.ndc,c.ft.ok.nbr,c.ft.ok.lim,c.ft.ok.nrc⟩
exact h.on k2 ⟨⟨_,st.put hc k' rfl rfl,⟨⟨ok',c.ft.oq,c.ft.eB,c.ft.eP⟩,c.br,c.li,c.mo,c.cl,rfl,c.rc⟩,pg.keep k'⟩,h.j.w.lf hl⟩)
theorem XX.inF(h:XX t H x k sh sr r rl pp X):∀y∈fx t x r pp,∃o,H y=some o:=λy hy=>by(
rcases kN.mp hy with e|hy
·obtain⟨ps,e',_⟩:=h.hp;exact⟨_,by rw[e];exact e'⟩
rcases kN.mp hy with e|hy
·obtain⟨_,_,_,z⟩:=h.ru.ins;exact⟨_,by rw[e];exact z⟩
rcases kN.mp hy with e|hy
·obtain⟨ps,_,_,ps',z,_⟩:=h.j.tb;exact⟨_,by rw[e];exact z⟩
exact h.j.inH y hy)
end
structure KX(t:Adr)(H:Hp)(x:Sto)(k:Tm)(sh:Int)(sr:Nat)(r:Addr)(rl:List Addr)(pp:Addr)(X:Sx)(kd:Addr)(KD:Mp)(n:Nat):Prop where
h:XX t H x k sh (sr:Int) r rl pp X
d:Kz k sh sr X KD
hk:H kd=some (.dK (dI KD))
nk:kd∉x.a.li::fx t x r pp
nr:kd∉rl
rcn:X.s.rc.length≤2600*n
psn:X.ps.length≤160*n
section
variable{H H':Hp}{x:Sto}{k:Tm}{sh:Int}{sr:Nat}{r:Addr}{rl:List Addr}{pp:Addr}{X X':Sx}{kd:Addr}{KD KD':Mp}{n n':Nat}
theorem KX.same(h:KX t H x k sh sr r rl pp X kd KD n)(s:Same H H'):KX t H' x k sh sr r rl pp X kd KD n:={ h with h:=h.h.same s,hk:=s _ _ h.hk }
theorem KX.nkF(h:KX t H x k sh sr r rl pp X kd KD n):kd∉fx t x r pp:=λz=>h.nk (kB _ z)
theorem KX.hold(h:KX t H x k sh sr r rl pp X kd KD n){y:Int}:hold X.s.q y=decide (y∈KD.map (·.1)):=by unfold W1.hold;exact decide_eq_decide.mpr h.d.pm.mem_iff
theorem KX.set(h:KX t H x k sh sr r rl pp X kd KD n)(hx:XX t H' x k sh (sr:Int) r rl pp X')(kk:Keep (fx t x r pp) H H')(d:Kz k sh sr X' KD')(rc:X'.s.rc.length≤2600*n')(ps:X'.ps.length≤160*n'):KX t (upd H' kd (.dK (dI KD'))) x k sh sr r rl pp X' kd KD' n':=⟨hx.dct (kk.k _ _ h.nkF h.hk) h.nk h.nr,d,qI,h.nk,h.nr,rc,ps⟩
theorem KX.stay(h:KX t H x k sh sr r rl pp X kd KD n)(hx:XX t H' x k sh (sr:Int) r rl pp X')(kk:Keep (fx t x r pp) H H')(d:Kz k sh sr X' KD)(rc:X'.s.rc.length≤2600*n')(ps:X'.ps.length≤160*n'):KX t H' x k sh sr r rl pp X' kd KD n':=⟨hx,d,kk.k _ _ h.nkF h.hk,h.nk,h.nr,rc,ps⟩
theorem KX.lf(h:KX t H x k sh sr r rl pp X kd KD n){l:Option Int}(hl:∀i,l=some i→0≤i)(hx:XX t H' x k sh (sr:Int) r rl pp ⟨{ X.s with lf:=l },X.g,X.ps⟩)(kk:Keep (foot x.c x.a) H H'):KX t H' x k sh sr r rl pp ⟨{ X.s with lf:=l },X.g,X.ps⟩ kd KD n:=⟨hx,h.d.lf hl,kk.k _ _ (λz=>h.nkF (by simp[sf,z])) h.hk,h.nk,h.nr,h.rcn,h.psn⟩
end
theorem qI5{KD:Mp}{n:Int}(nd:(KD.map (·.1)).Nodup):(valV (dI KD) (Sum.inl n:Key)).isSome=decide (n∈KD.map (·.1)):=by(
by_cases z:n∈KD.map (·.1)
·obtain⟨y,hy,rfl⟩:=kP.mp z;rw[q42 (m:=y.2) nd hy,hC z];rfl
rw[q10 z,hU z]
rfl)
inductive spSz(K:W.Frag)(vs:List V)(H:Hp)(Q:VK)(E_:XK):Prop
|mk:∀a ns,vs=[.ref a]→SqL K H a (List.map V.int ns)→(∀c P i s:Nat,1≤c→c≤4→1≤P→P≤4→i≤2→1≤s→s+2≤c*P→NewO H (.lst [.int ((c+1+i:Nat):Int),.int (P:Int),.int (s:Int),.int (i:Int)]) Q)→spSz K vs H Q E_
theorem q9B(T:Txt K mg t)(S:Fns K t):S.aCF.Ok0 P w mg base 2 (spSz K):=by(
refine S.aCF.F.ok0 yU λcdv A _ s H vs Q E hr h=>?_
obtain⟨a,ns,rfl,hS,k⟩:=h
refine⟨_,(qB (qV (i:=1) yU.nd rfl (Or.inl rfl) (qQ u8 qG (qQ yW (qX (jS T S).mono hr rfl T.fO T.fN S.fR.b .nil qK (qA (pv 0) (qA qG qE))) qG))) (qB (qV (i:=2) yU.nd rfl (Or.inl rfl) (qQ u8 qG (qQ yW (qX (jS T S).mono hr rfl T.fO T.fN S.fR.b .nil qK (qA (pv 0) (qA qG qE))) qG))) (zW (jC (qM q1O (qQ uY (pv 2) (pv 1)) qG (qP _)) (qD (qV (i:=2) yU.nd rfl (Or.inl rfl) qG)) qS) (qB (qV (i:=3) yU.nd rfl (Or.inl rfl) (qQ yW (qX (jS T S).mono hr rfl T.fO T.fN S.fR.b .nil qK (qA (pv 0) (qA qG qE))) qG)) (qB (qV (i:=4) yU.nd rfl (Or.inl rfl) (qQ vE (qQ uY (pv 2) (pv 1)) qG)) (zW (jC (qM u9 (qQ yW (qX (jS T S).mono hr rfl T.fO T.fN S.fR.b .nil qK (qA (pv 0) (qA qG qE))) qG) qG (qP _)) (qD (qV (i:=4) yU.nd rfl (Or.inl rfl) (qQ u8 qG (qQ yW (qQ uD (qX (jS T S).mono hr rfl T.fO T.fN S.fR.b .nil qK (qA (pv 0) (qA qG qE))) qG) (pv 4))))) qS) (qD (qL (jU (qA (qQ u8 (qQ u8 (pv 2) qG) (pv 3)) (qA (pv 1) (qA (pv 4) (qA (pv 3) qE))))))))))))),?_⟩
try dsimp-beta-proj-iota-zeta-eta only[wishK,cxK]
refine⟨_,rfl,a,ns,0,rfl,hS,by decide,_,_,rfl,rfl,(by show(0:Int)<4;decide),iI ?_⟩
refine⟨_,rfl,a,ns,1,rfl,hS,by decide,_,_,rfl,rfl,(by show(0:Int)<4;decide),iI ?_⟩
try dsimp only
have c0:=vT (jT ns 0) 4 (by decide)
have c1:=vT (jT ns 1) 4 (by decide)
obtain⟨P0,eP0⟩:∃n:Nat,1+jT ns 0%4=(n:Int):=⟨(1+jT ns 0%4).toNat,by lia⟩
obtain⟨c',ec⟩:∃n:Nat,1+jT ns 1%4=(n:Int):=⟨(1+jT ns 1%4).toNat,by lia⟩
rw[eP0,ec]
have hP1:1≤P0:=by lia
have hP2:P0≤4:=by lia
have hc1:1≤c':=by lia
have hc2:c'≤4:=by lia
clear c0 c1 eP0 ec
refine⟨λσ' H'=>∃c:Nat,σ'=[some (.ref a),some (.int (P0:Int)),some (.int (c:Int)),none,none]∧H=H'∧1≤c∧c≤4∧3≤c*P0,?_,?_⟩
·refine⟨_,rfl,_,rfl,iI ⟨.inl ⟨by lia,by lia⟩,iI ⟨_,rfl,?_⟩⟩⟩;refine ite2 (λz=>?_) (λz=>?_)
 ·exact⟨3,rfl,rfl,by decide,by decide,by lia⟩
 have z:¬(c':Int)*(P0:Int)<3:=λy=>z (hC y);rw[←dE]at z;exact⟨c',rfl,rfl,hc1,hc2,by lia⟩
rintro σ' _ ⟨c,rfl,rfl,p1,p2,cp⟩
refine⟨_,rfl,a,ns,2,rfl,hS,by decide,_,_,rfl,rfl,(by show(0:Int)<3;decide),?_⟩
have c2:=vT (jT ns 2) 3 (by decide)
try dsimp only
obtain⟨i,ei⟩:∃n:Nat,jT ns 2%3=(n:Int):=⟨(jT ns 2%3).toNat,by lia⟩
rw[ei]
have hi:i≤2:=by lia
clear c2 ei
refine⟨_,rfl,_,rfl,iI ⟨.inl ⟨by lia,by lia⟩,iI ?_⟩⟩
try dsimp only
obtain⟨M,eM⟩:∃n:Nat,(c:Int)*(P0:Int)-2=(n:Int):=⟨c*P0-2,by rw[←dE];lia⟩
rw[eM]
have hM:M+2=c*P0:=by rw[←dE]at eM;lia
refine⟨λσ' H'=>∃s:Nat,σ'=[some (.ref a),some (.int (P0:Int)),some (.int (c:Int)),some (.int (i:Int)),some (.int (s:Int))]∧H=H'∧1≤s∧s≤M,?_,?_⟩
·refine⟨_,rfl,a,ns,3,rfl,hS,by decide,_,_,rfl,rfl,(by show(0:Int)<3;decide),rfl,_,rfl,?_⟩;refine ite2 (λz=>?_) (λz=>?_)
 ·refine⟨_,rfl,a,ns,3,rfl,hS,by decide,_,_,rfl,rfl,⟨by decide,by decide⟩,_,rfl,iI ⟨(by show(0:Int)<(M:Int);lia),iI ?_⟩⟩;have c3:=vT (jT ns 3 / 3) (M:Int) (by lia);try dsimp only
  obtain⟨s,es⟩:∃n:Nat,1+jT ns 3 / 3%(M:Int)=(n:Int):=⟨(1+jT ns 3 / 3%(M:Int)).toNat,by lia⟩;rw[es];exact⟨s,rfl,rfl,by lia,by lia⟩
 exact⟨M,rfl,rfl,by lia,by lia⟩
rintro σ' _ ⟨s,rfl,rfl,s1,s2⟩
refine⟨_,rfl,iI ⟨_,rfl,iI ⟨_,rfl,_,rfl,_,rfl,sz4,?_⟩⟩⟩
exact k c P0 i s p1 p2 hP1 hP2 hi s1 (by lia))
inductive spNm(K:W.Frag)(vs:List V)(H:Hp)(Q:VK)(E_:XK):Prop
|mk:∀a ns,∀sh:Nat,vs=[.ref a,.int (sh:Int)]→SqL K H a (List.map V.int ns)→sh≤14→(∀ms:List Int,ms.length=sh→(∀n∈ms,0≤n∧n<64)→NewO H (.lst (ms.map V.int)) Q)→spNm K vs H Q E_
theorem q9C(T:Txt K mg t)(S:Fns K t):S.aB7.Ok0 P w mg base 2 (spNm K):=by(
refine S.aB7.F.ok0 q93 λcdv A _ s H vs Q E hr h=>?_
obtain⟨a,ns,sh,rfl,hS,s14,k⟩:=h
refine⟨_,(qD (qL (y6 ["_law_script","_law_k"] [0] rfl (zG rfl T.tL (qA (pv 1) qE)) (λ_ _ _ _ _=>(qU (i:=1) (show List.Nodup (["_law_script","_law_k"]:List Str)from by decide) rfl (Or.inl rfl))) (λ_ _ _ _ _=>zX) (λ_ _ _ _ _=>(qQ yW (qQ u8 (qX (jS T S).mono hr rfl T.fO T.fN S.fR.b .nil qK (qA (pv 0) (qA qG qE))) (qQ uY qG (pv 1))) qG)) (by kernel_rfl) (jD (by decide))))),?_⟩
try dsimp-beta-proj-iota-zeta-eta only[wishK,cxK]
refine⟨_,rfl,_,rfl,by lia,by lia,λD H2 nD s2 hD=>?_⟩
refine q2R (D:=D) (λi H3=>∃ms:List Int,Same H H3∧H3 D=some (.lst (ms.map V.int))∧ms.length=i∧∀n∈ms,0≤n∧n<64) ⟨[],s2,hD,rfl,by simp⟩ (λi H3 hi hp=>?_) (λH3 hp=>?_)
·obtain⟨ms,sm,hd,ln,bd⟩:=hp;have hi:i<sh:=by lia
 refine⟨_,rfl,a,ns,5,rfl,sm.seq hS,by decide,_,rfl,iI ⟨.inl ⟨by decide,by decide⟩,iI (iI ⟨(by show(0:Int)<64;decide),_,hd,?_,ms++[(jT ns 5+5*(0+(i:Int)))%64],λb o e=>?_,?_,?_,λn hn=>?_⟩)⟩⟩
 ·rw[hG];have:(16:Nat)<sizeLine:=by decide
  lia
 ·rw[qC (qF e nD)];exact sm _ _ e
 ·rw[qI,mM];rfl
 ·rw[mL,ln];rfl
 rcases gN.mp hn with hn|hn
 ·exact bd n hn
 rw[kD.mp hn];exact vT _ 64 (by decide)
obtain⟨ms,sm,hd,ln,bd⟩:=hp
exact k ms (by lia) bd D H3 nD sm hd)
inductive spPk(K:W.Frag)(vs:List V)(H:Hp)(Q:VK)(E_:XK):Prop
|mk:∀l,∀ns:List Int,∀c:Int,vs=[.int c,.ref l]→H l=some (.lst (ns.map V.int))→1≤ns.length→ns.length≤14→(∀n∈ns,Q (.int n) H)→spPk K vs H Q E_
theorem qAM(T:Txt K mg t)(S:Fns K t):S.aC0.Ok0 P w mg base 1 (spPk K):=by(
refine S.aC0.F.ok0 qAE λcdv A _ s H vs Q E hr h=>?_
obtain⟨l,ns,c,rfl,hl,l1,l14,k⟩:=h
have at1:∀z:Int,0≤z→z<(ns.length:Int)→∃n∈ns,atI (ns.map V.int) z=some (.int n):=λz z0 z1=>by
 obtain⟨j,rfl⟩:=rD z0;have hj:j<ns.length:=by lia
 refine⟨ns[j],gH hj,yK ?_⟩;rw[mD,kE hj];rfl
refine⟨_,(qB (jC (qM u9 (qQ yW (pv 0) qG) qG (qP _)) (qD (qL (qW qZ (pv 1) (qQ yW (qQ uD (pv 0) qG) (jA jB (by rfl) T.aAS gX (qA (pv 1) qE))) (λ_ _=>rfl)))) qS) (qD (qL (qW qZ (pv 1) (qQ yW (qQ yW (qQ uD (pv 0) qG) qG) (jA (q7S rfl) (by rfl) T.aDS (by kernel_rfl) (qA qG (qA (jA jB (by rfl) T.aAS gX (qA (pv 1) qE)) qE)))) (λ_ _=>rfl))))),?_⟩
try dsimp-beta-proj-iota-zeta-eta only[wishK,cxK]
refine⟨_,rfl,iI ⟨(by show(0:Int)<8;decide),rfl,_,rfl,ite2 (λ_=>?_) (λ_=>?_)⟩⟩
·have mv:=vT (c / 8) (ns.length:Int) (by lia);obtain⟨n,hn,e⟩:=at1 _ mv.1 mv.2;refine⟨_,rfl,_,rfl,iI ⟨⟨by decide,by decide⟩,_,rfl,l,_,rfl,.inl (SqL.of hl),?_⟩⟩;rw[hG];exact(iI ⟨(by show(0:Int)<(ns.length:Int);lia),iL (k:=_) (v:=.int n) (SqL.of hl) e (k n hn)⟩)
obtain⟨h,eh,h1,h2⟩:∃h:Int,(if((ns.length:Nat):Int)<2 then((ns.length:Nat):Int)else 2)=h∧1≤h∧h≤(ns.length:Int):=by
 by_cases z:((ns.length:Nat):Int)<2
 ·exact⟨_,kL z,by lia,by lia⟩
 exact⟨_,kJ z,by lia,by lia⟩
have mv:=vT (c / 8%6) h (by lia)
obtain⟨n,hn,e⟩:=at1 _ mv.1 (by lia)
refine⟨_,rfl,_,rfl,iI ⟨⟨by decide,by decide⟩,iI ⟨(by show(0:Int)<6;decide),_,rfl,l,_,rfl,.inl (SqL.of hl),?_⟩⟩⟩
rw[hG]
refine⟨_,_,rfl,?_⟩
rw[eh]
exact(iI ⟨(by show(0:Int)<h;lia),iL (k:=_) (v:=.int n) (SqL.of hl) e (k n hn)⟩))
theorem Pw.forgs{s:XS}{g:List Int}(h:Pw s)(ne:∀m∈g,m≠64):Pw (s.forgs g):=by obtain⟨a1,a2,a3,a4,a5,_⟩:=q5R g s;exact⟨h.1.forgs ne,⟨by rw[a1,a2,a3];exact h.2.e,by rw[a1,a3];exact h.2.r,by rw[a5,a3,a4];exact h.2.bd⟩⟩
theorem q4E{hl:List Int}{y:Int}:(∀m,m∈gvn hl [y]↔m=y∧y∈hl)∧(gvn hl [y]=[]↔y∉hl):=by(
have a:∀m,m∈gvn hl [y]↔m=y∧y∈hl:=λm=>by
 unfold gvn;rw[mV,mJ,kD];constructor
 ·rintro⟨h,e⟩
  exact⟨e,by rw[←e];exact h⟩
 rintro⟨e,h⟩
 exact⟨by rw[e];exact h,e⟩
refine⟨a,?_⟩
rw[List.eq_nil_iff_forall_not_mem]
constructor
·intro h z;exact h y ((a y).mpr ⟨rfl,z⟩)
intro h m hm
exact h ((a m).mp hm).2)
theorem q4Z{k:Tm}{i:Nat}{X Y:Sx}{n v:Int}{r:Except Rf Nat}(w:WX k X.s)(ok:X.g.Ok)(h:X.ask k i n v=some (Y,r))(f:Int→Int→Tl→Int)(e:X.g=.rk f):Y.g=.rk f:=by(
rcases Gs.ask (g0:=.rk f) (.inl ⟨f,rfl,e⟩) w ok h with⟨f',e1,e2⟩|⟨_,_,_,e1,_⟩
·cases e1;exact e2
cases e1)
inductive spLa(t:Adr)(vs:List V)(H:Hp)(Q:VK)(E_:XK):Prop
|mk:∀x k sh sr r rl pp X kd KD,∀n:Nat,∀way y num:Int,vs=[.ref x.s,.ref kd,.int way,.int y,.int num]→KX t H x k sh sr r rl pp X kd KD n→k.ev=true→k.sp≤3→Pw X.s→n<200→0≤y→y<sh→(y∈KD.map (·.1)∨KD.length<sr)→0≤num→num≤10 ^ 30-1→(∀wd X' KD' H',KX t H' x k sh sr r rl pp X' kd KD' (n+1)→Keep (kd::fx t x r pp) H H'→Pw X'.s→X'.s.q.B=X.s.q.B→X'.s.q.P=X.s.q.P→(∀m∈KD'.map (·.1),m=y∨m∈KD.map (·.1))→(∀f,X.g=.rk f→X'.g=.rk f)→Q (.str wd) H')→spLa t vs H Q E_
theorem qBL(T:Txt K mg t)(S:Fns K t)(B:BmIn base mg):S.aDU.Ok0 P w mg base 18 (spLa t):=by(
refine S.aDU.F.ok0 q1E λcdv A _ s H vs Q E hr h=>?_
obtain⟨x,k,sh,sr,r,rl,pp,X,kd,KD,n,way,y,num,rfl,h,ev,sp,cn,n9,y0,y1,y2,v0,v1,kk⟩:=h
have hu:=q32 hr
have h64:=h.d.h64
have rcn:=h.rcn
have psn:=h.psn
have ok:=h.d.ok
have s99:(99:Nat)<sizeLine:=by decide
have w0:=h.d.w
refine⟨_,(qB (qV (i:=5) q1E.nd rfl (Or.inl rfl) uO) (zW (qEK (λpins XE ES tk1 po1=>(qD (jC (qM u9 (pv 2) qG (qP _)) (qD (j8 (jV tk1 (pv 0) T.fB T.aCI (q4Y T S B).mono hr S.tH.b .nil (qA (jU (qA (pv 3) qE)) qE qEN)))) (qD (j8 (jV tk1 (pv 0) T.fB T.aBK (q2L T S B).mono hr S.tI.b .nil (qA (pv 3) (qA (pv 4) qE)))))))) (q8L (λea=>(vJ rfl T.aBP rfl (v:=.ref t.C_PowerGone))) rfl (λea=>(qD (qV (i:=5) q1E.nd rfl (Or.inl rfl) uO))) (q8L (λea=>(vJ rfl T.aB6 rfl (v:=.ref t.C_NoRoom))) rfl (λea=>(qD (qV (i:=5) q1E.nd rfl (Or.inl rfl) uO))) (qEJ vM)))) (qB (jC (PW.pt (q36 (qM u9 (pv 5) uO (qP _)) (q0X (qM u9 (pv 2) qG (qP _))))) (qD (j8 (qED (pv 1) (pv 3) yC ⟨rfl,rfl,rfl,rfl⟩))) qS) (qB (jC (PW.pt (q36 (qM u9 (pv 5) uO (qP _)) (q0X (qM q7R (pv 2) qG (qP _))))) (qD (q5M hu (pv 1) (pv 3) (pv 4) rfl)) qS) (qD (qL (pv 5))))))),?_⟩
try dsimp-beta-proj-iota-zeta-eta only[wishK,cxK]
refine⟨λσ' H'=>∃wd X',σ'=[some (.ref x.s),some (.ref kd),some (.int way),some (.int y),some (.int num),some (.str wd)]∧XX t H' x k sh (sr:Int) r rl pp X'∧Keep (fx t x r pp) H H'∧Pw X'.s∧(∀f,X.g=.rk f→X'.g=.rk f)∧((wd≠Str.ofString "done"∧AskN k 150 X X')∨(wd=Str.ofString "done"∧((way≠1∧AskZ k 150 X y X')∨(way=1∧y∉KD.map (·.1)∧X'=X)∨(way=1∧y∈KD.map (·.1)∧∃Y,AskZ k 150 X 64 Y∧X'=⟨Y.s.forgs (gvn X.s.hl [y]),Y.g,Y.ps⟩)))),?_,?_⟩
·refine⟨_,rfl,rfl,_,rfl,?_⟩;by_cases wz:way=1
 ·rw[yG,hC wz];refine iteT ?_;refine(iV rfl (iM h.h.j.o rfl ⟨_,rfl,sz1,λl0 H2 n2 s2 h2=>?_⟩));refine⟨x,k,sh,_,r,rl,pp,X,l0,[y],rfl,h.h.same s2,ev,h2,λm hm=>by rw[kD.mp hm];exact inBi y0 (by lia),λz H3 s3=>?_,λz=>?_⟩
  ·have z':y∉KD.map (·.1):=λw=>q4E.2.mp z (h.d.hl.mpr w);exact⟨_,X,rfl,(h.h.same s2).same s3,Keep.same (s2.trans s3),cn,λ_ e=>e,.inr ⟨rfl,.inr (.inl ⟨wz,z',rfl⟩)⟩⟩
  have z':y∈KD.map (·.1):=cT λw=>z (q4E.2.mpr λv=>w (h.d.hl.mp v));have hc:=h.d.can64 (λw=>by rw[w]at z';cases z');rcases h.d.ask (n:=64) (v:=XS.bits (rst X.s.hl (gvn X.s.hl [y]))) ev sp (by decide) (by decide) hc with⟨Y,p,hZ,a⟩|⟨Y,e,hZ,a⟩
  ·refine⟨150,_,by lia,by lia,hc.imp id λw=>w.1,hZ,λH3 h3 k3=>?_⟩;exact⟨_,_,rfl,h3,(Keep.same s2).trans k3,((q3B.ask w0 ok (by decide) (by decide) hZ cn).forgs (λm hm=>by rw[((q4E.1 m).mp hm).1];lia)),λf e=>q4Z w0 ok hZ f e,.inr ⟨rfl,.inr (.inr ⟨wz,z',Y,a,rfl⟩)⟩⟩
  refine⟨150,_,by lia,by lia,hc.imp id λw=>w.1,hZ,λH3 h3 k3=>?_⟩;cases e with
  |dark=>intro ea hea;exact⟨_,T.iS,iteT ⟨_,Y,rfl,h3,(Keep.same s2).trans k3,q3B.ask w0 ok (by decide) (by decide) hZ cn,q4Z w0 ok hZ,.inl ⟨by decide,a⟩⟩⟩
  |room=>intro ea hea;exact⟨_,T.oH,iteF ⟨_,T.i8,iteT ⟨_,Y,rfl,h3,(Keep.same s2).trans k3,q3B.ask w0 ok (by decide) (by decide) hZ cn,q4Z w0 ok hZ,.inl ⟨by decide,a⟩⟩⟩⟩
 rw[yG,hU wz];refine iteF ?_;have hc:=h.d.can y0 y1 y2;have ff:¬(hold X.s.q y=false∧(sr:Int)≤((hdN X.s.q.V).length:Int)):=λ⟨f1,f2⟩=>by
  rw[h.hold]at f1;have f1:=d6 f1;have pl:=h.d.pm.length_eq;rw[hG]at pl;have f2:(sr:Int)≤((((X.s.q.V.map (·.1)).filter λn=>decide (n≠64)).length:Nat):Int):=f2;rcases y2 with w|w
  ·exact f1 w
  lia
 rcases h.d.ask (n:=y) (v:=num) ev sp y0 (by lia) hc with⟨Y,p,hZ,a⟩|⟨Y,e,hZ,a⟩
 ·refine(iV rfl (iM h.h.j.o rfl ⟨_,rfl,_,rfl,x,k,sh,_,r,rl,pp,X,y,num,150,_,rfl,h.h,ev,by lia,by lia,h64,inBi y0 (by lia),inBi v0 v1,ff,hc.imp id λw=>w.1,hZ,λH3 h3 k3=>?_⟩));exact⟨_,_,rfl,h3,k3,q3B.ask w0 ok y0 (by lia) hZ cn,q4Z w0 ok hZ,.inr ⟨rfl,.inl ⟨wz,a⟩⟩⟩
 refine(iV rfl (iM h.h.j.o rfl ⟨_,rfl,_,rfl,x,k,sh,_,r,rl,pp,X,y,num,150,_,rfl,h.h,ev,by lia,by lia,h64,inBi y0 (by lia),inBi v0 v1,ff,hc.imp id λw=>w.1,hZ,λH3 h3 k3=>?_⟩));cases e with
 |dark=>intro ea hea;exact⟨_,T.iS,iteT ⟨_,Y,rfl,h3,k3,q3B.ask w0 ok y0 (by lia) hZ cn,q4Z w0 ok hZ,.inl ⟨by decide,a⟩⟩⟩
 |room=>intro ea hea;exact⟨_,T.oH,iteF ⟨_,T.i8,iteT ⟨_,Y,rfl,h3,k3,q3B.ask w0 ok y0 (by lia) hZ cn,q4Z w0 ok hZ,.inl ⟨by decide,a⟩⟩⟩⟩
rintro σ' H1 ⟨wd,X',rfl,hX,k1,cn',gg,hc⟩
have hk1:=k1.k _ _ h.nkF h.hk
have kM:Keep (kd::fx t x r pp) H H1:=k1.mono (λy hy=>kB _ hy)
rcases hc with⟨nd,a⟩|⟨rfl,⟨wz,a⟩|⟨wz,z,rfl⟩|⟨wz,z,Y,a,rfl⟩⟩
·have:=a.rl;have:=a.pl;refine⟨_,rfl,rfl,_,rfl,?_⟩;have ew:decide (V.str wd=V.str (Str.ofString "done"))=false:=hU λy=>nd (V.str.inj y);rw[ew];refine iteF ⟨_,rfl,rfl,_,rfl,?_⟩;rw[ew];refine iteF ?_;exact⟨_,rfl,kk _ X' KD H1 (h.stay hX k1 (h.d.no a) (by lia) (by lia)) kM cn' a.kp.eB a.kp.eP (λm hm=>.inr hm) gg⟩
·have:=a.rl;have:=a.pl;refine⟨_,rfl,rfl,_,rfl,iteT ⟨_,rfl,rfl,_,rfl,?_⟩⟩;rw[yG,hU wz];refine iteF ⟨_,rfl,rfl,_,rfl,iteT ⟨_,rfl,rfl,_,rfl,?_⟩⟩;rw[yG,hU wz];refine iteT ?_;have ld:KD.length≤57:=mO h.d.ls h.d.s57;refine⟨_,rfl,_,rfl,_,rfl,kd,_,rfl,.inl ⟨_,Sum.inl y,hk1,rfl,by unfold dI;rw[hG];lia,rfl⟩,?_⟩;rw[q8S];have g:=h.set hX k1 (h.d.wrote (v:=num) y0 y1 y2 a) (n':=n+1) (by lia) (by lia);refine⟨_,rfl,kk _ X' _ _ g (kM.trans (Keep.upd hk1 (λ_ z=>by cases z) (by simp))) cn' a.eB a.eP (λm hm=>?_) gg⟩;obtain⟨q,hq,e⟩:=kP.mp hm;rw[q0M h.d.nd,j9]at hq;rcases hq with rfl|hq
 ·exact .inl e.symm
 exact .inr (kP.mpr ⟨q,hq.1,e⟩)
·refine⟨_,rfl,rfl,_,rfl,iteT ⟨_,rfl,rfl,_,rfl,?_⟩⟩;rw[yG,hC wz];refine iteT ?_;refine⟨_,rfl,kd,rfl,.inl ⟨_,.inl hk1⟩,_,rfl,_,Sum.inl y,hk1,rfl,λv ev=>?_,λ_=>?_⟩
 ·rw[q10 z]at ev;cases ev
 refine⟨_,rfl,rfl,_,rfl,iteT ⟨_,rfl,rfl,_,rfl,?_⟩⟩;rw[yG,hC wz];refine iteF ?_;exact⟨_,rfl,kk _ _ KD H1 (h.stay hX k1 h.d (by lia) (by lia)) kM cn' rfl rfl (λm hm=>.inr hm) gg⟩
have:=a.rl
have:=a.pl
refine⟨_,rfl,rfl,_,rfl,iteT ⟨_,rfl,rfl,_,rfl,?_⟩⟩
rw[yG,hC wz]
refine iteT ?_
refine⟨_,rfl,kd,rfl,.inl ⟨_,.inl hk1⟩,_,rfl,_,Sum.inl y,hk1,rfl,λv ev=>?_,λhn=>?_⟩
·rw[qA3];have yl:y∈X.s.hl:=h.d.hl.mpr z;have eD:(KD.filter λq=>!decide (q.1∈gvn X.s.hl [y]))=jN KD y:=by
  unfold jN;refine cJ λq _=>?_;by_cases e:q.1=y
  ·rw[hC ((q4E.1 q.1).mpr ⟨e,yl⟩),hU (λw=>w e)];rfl
  rw[hU (λw=>e ((q4E.1 q.1).mp w).1),hC e];rfl
 have d':=h.d.gave a (g:=gvn X.s.hl [y]);rw[eD]at d';obtain⟨f3,_,f6,f7,_,_⟩:=q5R (gvn X.s.hl [y]) Y.s;have rcE:(Y.s.forgs (gvn X.s.hl [y])).rc.length≤2600*(n+1):=by rw[f3];lia
 have psE:(⟨Y.s.forgs (gvn X.s.hl [y]),Y.g,Y.ps⟩:Sx).ps.length≤160*(n+1):=by show Y.ps.length≤_;lia
 have g:=h.set hX k1 d' (n':=n+1) rcE psE;refine⟨_,rfl,rfl,_,rfl,iteT ⟨_,rfl,rfl,_,rfl,?_⟩⟩;rw[yG,hC wz];refine iteF ?_;refine⟨_,rfl,kk _ _ _ _ g (kM.trans (Keep.upd hk1 (λ_ z=>by cases z) (by simp))) cn' (f6.trans a.eB) (f7.trans a.eP) (λm hm=>?_) gg⟩;obtain⟨q,hq,e⟩:=kP.mp hm;exact .inr (kP.mpr ⟨q,(j9.mp hq).1,e⟩)
obtain⟨q,hq,e⟩:=kP.mp z
have e:q.1=y:=e
subst e
rw[q42 (m:=q.2) h.d.nd hq]at hn
cases hn)
noncomputable def FLt(pg:Nat→Option (Int×Int))(H:Hp)(v:V)(p:Int):Prop:=∃a u,v=.ref a∧pg p.toNat=some u∧H a=some (.tup [.int (u.1 / 128),.int p])
inductive spLv(vs:List V)(H:Hp)(Q:VK)(E_:XK):Prop
|mk:∀sl bs kd KD pg,vs=[.ref sl,.ref kd]→H sl=some (.lst bs)→bs.length≤256→PgAt H bs pg→H kd=some (.dK (dI KD))→(KD.map (·.1)).Nodup→(∀i v,pg i=some v→128≤v.1)→(∀W l H',Lat pg (λn=>n=64∨n∈KD.map (·.1)) bs.length W→Same H H'→H l=none→H' l=some (.lst ((W.map (·.2)).map V.int))→Q (.ref l) H')→spLv vs H Q E_
theorem q9D(T:Txt K mg t)(S:Fns K t):S.aB8.Ok0 P w mg base 1 spLv:=by(
refine S.aB8.F.ok0 vD λcdv A _ s H vs Q E hr h=>?_
obtain⟨sl,bs,kd,KD,pg,rfl,hs,l256,pa,hk,knd,mr,kk⟩:=h
have hu:=q32 hr
have s9:(99999:Nat)<sizeLine:=by decide
refine⟨_,(qB (qV (i:=2) vD.nd rfl (Or.inl rfl) q3V) (qB (uP g9 rfl (zG rfl T.tL (qA (jA jB (by rfl) T.aAS gX (qA (pv 0) qE)) qE)) (qU (i:=3) vD.nd rfl (Or.inl rfl)) (qD (jC (qM q2N (qW qZ (pv 0) (pv 3) (λ_ _=>rfl)) yC (qP _)) (qB (q37 (jA q9L (by rfl) T.aEP (by kernel_rfl) (qA (qW yN (qW qZ (pv 0) (pv 3) (λ_ _=>rfl)) qG (λ_ _=>rfl)) (qA qG qE))) (q5V rfl (u7 (qU (i:=4) vD.nd rfl (Or.inl rfl)) (u7 (qU (i:=5) vD.nd rfl (Or.inl rfl)) q3R)))) (qD (jC (qJY (PW.pt (q36 (PW.pt (qBO (qM u9 (pv 5) qG (qP _)) (q8F (qDN (qAY hu (pv 5) (pv 1)))))) (q0X (qM qDR (pv 4) (qW yN (qEB hu (pv 2) (pv 5) (yP (qA qG (qA qG qE))) ⟨rfl,rfl,rfl,rfl⟩) qG (λ_ _=>rfl)) (qP _)))))) (qD (q5M hu (pv 2) (pv 5) (yP (qA (pv 4) (qA (pv 3) qE))) rfl)) qS))) qS))) (qD (qL (y6 ["_law_spot"] [] rfl (qK5 (qE5 rC nV PySem.F.type_dict_values qDC (pv 2))) (λ_ _ _ _ _=>(qU (i:=0) (show List.Nodup (["_law_spot"]:List Str)from by decide) rfl (Or.inl rfl))) (λ_ _ _ _ _=>zX) (λ_ _ _ _ _=>(qW (yL (K:=K) rfl) (pv 0) qG (λ_ _=>rfl))) (by kernel_rfl) (jD (by decide))))))),?_⟩
try dsimp-beta-proj-iota-zeta-eta only[wishK,cxK]
refine λld nld=>?_
have sd:Same H (upd H ld (.dK [])):=Same.upd nld
have hd:(upd H ld (.dK [])) ld=some (.dK []):=qI
generalize upd H ld (.dK [])=H1 at sd hd ⊢
refine⟨_,rfl,sl,bs,rfl,.inl (SqL.of (sd _ _ hs)),_,rfl,by lia,by lia,?_⟩
rw[mH]
refine q12 (λj σ' H'=>∃y3 y4 y5 kvs W,σ'=[some (.ref sl),some (.ref kd),some (.ref ld),y3,y4,y5]∧H' ld=some (.dK kvs)∧Paired (KvP (FLt pg H')) kvs W∧Lat pg (λn=>n=64∨n∈KD.map (·.1)) j W∧W.length≤j∧∀b o,b≠ld→H1 b=some o→H' b=some o) ⟨_,_,_,[],[],rfl,hd,.nil,Lat.zero,kO _,λ_ _ _ e=>e⟩ (λj σ' H' D' nxt hj hp=>?_) (λσ' H' hp=>?_)
·obtain⟨y3,y4,y5,kvs,W,rfl,hd',pr,la,lw,kp⟩:=hp;have hs':=kp _ _ (qF hs nld) (sd _ _ hs);have hk':=kp _ _ (qF hk nld) (sd _ _ hk);have at1:atI bs (0+(j:Int))=some (bs.getD j .non):=by rw[lY];exact yK (by rw[kI,kE hj];rfl)
 refine⟨_,rfl,_,rfl,sl,bs,_,_,rfl,rfl,SqL.of hs',at1,rfl,_,rfl,?_⟩;cases hpg:pg j with
 |none=>rw[pa.n j hpg,hC rfl];exact iteF (nxt _ _ ⟨_,_,_,kvs,W,rfl,hd',pr,la.skip (λv e=>by rw[hpg]at e;cases e),by lia,kp⟩)
 |some v=>
  obtain⟨tp,e1,e2⟩:=pa.v j v hpg;have htp:=kp _ _ (qF e2 nld) (sd _ _ e2);rw[e1]at at1;rw[e1,hU (λz=>by cases z)];refine iteT ?_;refine⟨_,rfl,_,rfl,sl,bs,_,.ref tp,rfl,rfl,SqL.of hs',at1,iT (k:=0) (v:=.int v.1) (SqT.of htp) rfl ⟨_,_,rfl,⟨by decide,by decide⟩,λtd ntd=>?_⟩⟩;have s2:Same H' (upd H' td (.tup [.int (v.1 / 128),.int (v.1%128)])):=Same.upd ntd;have htd:(upd H' td (.tup [.int (v.1 / 128),.int (v.1%128)])) td=_:=qI;generalize upd H' td (.tup [.int (v.1 / 128),.int (v.1%128)])=H2 at s2 htd ⊢;refine⟨td,_,rfl,SqT.of htd,rfl,_,_,rfl,_,_,rfl,rfl,?_⟩;have hd2:=s2 _ _ hd';have hk2:=s2 _ _ hk';have pr2:Paired (KvP (FLt pg H2)) kvs W:=Paired.mapP pr λa d ⟨g1,x,u,g2,g3,g4⟩=>⟨g1,x,u,g2,g3,s2 _ _ g4⟩;have v128:=mr j v hpg;generalize en:v.1%128=n;refine⟨λc H3=>Same H2 H3∧(c=true→(n=64∨n∈KD.map (·.1))∧∀p u,(n,p)∈W→pg p.toNat=some u→u.1 / 128<v.1 / 128)∧(c=false→(n=64∨n∈KD.map (·.1))→∃p u,(n,p)∈W∧pg p.toNat=some u∧v.1 / 128≤u.1 / 128),?_,?_⟩
  ·have two:∀{H3:Hp},Same H2 H3→(n=64∨n∈KD.map (·.1))→qDS (tOp (rI0 λi j=>V.bl (decide (j<i))) (tVar 4) (tOp (rIxT K) (qEA (tVar 2) (tVar 5) (qID (q61 (tC (V.int 0)) (q61 (tC (V.int 0)) tNil)))) (tC (V.int 0)))) [some (.ref sl),some (.ref kd),some (.ref ld),some (.int (0+(j:Int))),some (.int (v.1 / 128)),some (.int n)] H3 λc H4=>Same H2 H4∧(c=true→(n=64∨n∈KD.map (·.1))∧∀p u,(n,p)∈W→pg p.toNat=some u→u.1 / 128<v.1 / 128)∧(c=false→(n=64∨n∈KD.map (·.1))→∃p u,(n,p)∈W∧pg p.toNat=some u∧v.1 / 128≤u.1 / 128):=fun {H3} s3 ok=>by
    refine⟨_,rfl,_,rfl,ld,rfl,.inl ⟨_,.inl (s3 _ _ hd2)⟩,_,rfl,sz2,λt0 H4 n4 s4 h4=>⟨_,DGet.k (k:=Sum.inl n) (s4 _ _ (s3 _ _ hd2)),?_⟩⟩;by_cases z:n∈W.map (·.1)
    ·obtain⟨d,hd,ed⟩:=kP.mp z;have hd:(n,d.2)∈W:=by rw[←ed];exact hd
     obtain⟨x,e,a,u,rfl,g3,g4⟩:=qCP pr2 la.nd hd;rw[e];refine(iT (k:=0) (v:=.int (u.1 / 128)) (SqT.of (s4 _ _ (s3 _ _ g4))) rfl (iI ⟨_,rfl,s3.trans s4,λc=>⟨ok,λp u' hp e'=>?_⟩,λc _=>⟨d.2,u,hd,g3,lW.mp (d6 c)⟩⟩));rw[qBF la.nd hp hd,g3]at e';cases e';exact mP c
    rw[qFU pr2 z];refine(iT (k:=0) (v:=.int 0) (SqT.of h4) rfl (iI ⟨_,rfl,s3.trans s4,λc=>⟨ok,λp u' hp _=>absurd (kP.mpr ⟨_,hp,rfl⟩) z⟩,λc _=>?_⟩));have:=d6 c;lia
   refine⟨_,rfl,rfl,_,rfl,?_⟩;rw[yG];by_cases z:n=64
   ·rw[hC z];exact iteT (iteT (two (Same.refl _) (.inl z)))
   rw[hU z];refine iteF ⟨_,rfl,_,rfl,kd,_,rfl,DGet.k (k:=Sum.inl n) hk2,_,rfl,?_⟩;rw[qI5 knd];by_cases y:n∈KD.map (·.1)
   ·rw[hC y];exact iteT (two (Same.refl _) (.inr y))
   rw[hU y];exact iteF ⟨Same.refl _,λc=>(by cases c),λ_ o=>absurd o (λq=>Or.elim q z y)⟩
  rintro c H3 ⟨s3,c1,c2⟩
  have hd3:=s3 _ _ hd2;have pr3:Paired (KvP (FLt pg H3)) kvs W:=Paired.mapP pr2 λa d ⟨g1,x,u,g2,g3,g4⟩=>⟨g1,x,u,g2,g3,s3 _ _ g4⟩;have kp3:∀b o,b≠ld→H1 b=some o→H3 b=some o:=λb o nb e=>s3 _ _ (s2 _ _ (kp b o nb e));cases c with
  |false=>refine iteF (nxt _ _ ⟨_,_,_,kvs,W,rfl,hd3,pr3,la.skip (λv' e o=>?_),by lia,kp3⟩);rw[hpg]at e;cases e;rw[en]at o ⊢;exact c2 rfl o
  |true=>
   obtain⟨o,nw⟩:=c1 rfl;have lk:=qA7 pr3;have lk:kvs.length=W.length:=pr3.len;refine iteT ⟨_,rfl,_,rfl,sz2,λtn H4 n4 s4 h4=>⟨_,rfl,_,rfl,ld,_,rfl,.inl ⟨_,Sum.inl n,s4 _ _ hd3,rfl,by lia,rfl⟩,?_⟩⟩;rw[lY]at h4;have hd4:=s4 _ _ hd3;have nt:∀{a xs},H4 a=some (.tup xs)→(upd H4 ld (.dK (putK kvs (Sum.inl n:Key) (.ref tn)))) a=some (.tup xs):=fun {a xs} e=>by rw[qC (λz=>by rw[z,hd4]at e;cases e)];exact e
   refine nxt _ _ ⟨_,_,_,_,putW W n (j:Int),rfl,qI,qHL (Paired.mapP pr3 λa d ⟨g1,x,u,g2,g3,g4⟩=>⟨g1,x,u,g2,g3,nt (s4 _ _ g4)⟩) ⟨tn,v,rfl,by rw[mH];exact hpg,nt h4⟩,?_,?_,λb o nb e=>?_⟩
   ·rw[←en]at o nw ⊢;exact la.take hpg o nw
   ·unfold putW;split
    ·rw[hG];lia
    rw[mL];exact wA lw 1
   rw[qC nb];exact s4 _ _ (kp3 b o nb e)
obtain⟨y3,y4,y5,kvs,W,rfl,hd',pr,la,lw,kp⟩:=hp
have lk:kvs.length=W.length:=pr.len
refine⟨_,rfl,.inr (.inr (.inl ⟨rfl,.inl ⟨_,hd'⟩⟩)),ld,kvs,rfl,rfl,hd',λvw nv=>?_⟩
refine⟨vw,ld,kvs,rfl,qI,by rw[qC (qF hd' nv)];exact hd',λob D H2 nD s2 hD=>?_⟩
have hF:(upd (upd H' vw (q88 vw ld)) ld (.frz ob (.dK kvs))) ld=some (.frz ob (.dK kvs)):=qI
have oF:∀b o,b≠ld→H' b=some o→(upd (upd H' vw (q88 vw ld)) ld (.frz ob (.dK kvs))) b=some o:=λb o nb e=>by rw[qC nb,qC (qF e nv)];exact e
generalize upd (upd H' vw (q88 vw ld)) ld (.frz ob (.dK kvs))=HF at hF oF s2 nD
refine qHM (D:=D) (λi H3=>H3 ld=some (.frz ob (.dK kvs))∧H3 D=some (.lst (((W.map (·.2)).take i).map V.int))∧Same HF H3) ⟨s2 _ _ hF,hD,s2⟩ (λi H3 z=>z.1) (λi kv H3 hi hp=>?_) (λH3 hp=>?_)
·obtain⟨g1,g2,g3⟩:=hp;obtain⟨d,ed,ek,a,u,ea,_,ha⟩:=Paired.at pr hi;have nl:a≠ld:=λz=>by rw[z,hd']at ha;cases ha
 obtain⟨iW,ed'⟩:=kC.mp ed;rw[ea];refine⟨_,rfl,iT (k:=1) (v:=.int d.2) (SqT.of (g3 _ _ (oF _ _ nl ha))) rfl ⟨_,g2,?_,?_,?_,λb o e=>?_⟩⟩
 ·rw[hG,gE,hG];lia
 ·rw[qC (qF hF nD)];exact g1
 ·have iM:i<(W.map (·.2)).length:=by rw[hG];exact iW
  rw[qI,←kW iM,mM,pZ,ed'];rfl
 rw[qC (qF e nD)];exact g3 _ _ e
obtain⟨g1,g2,g3⟩:=hp
rw[lk,←hG (f:=(·.2)),gF]at g2
have nD1:H1 D=none:=by
 cases z:H1 D with
 |none=>rfl
 |some o=>
  have nb:D≠ld:=λy=>by rw[y,hF]at nD;cases nD
  rw[oF _ _ nb (kp _ _ nb z)]at nD;cases nD
exact kk W D H3 la (λb o e=>g3 _ _ (oF _ _ (qF e nld) (kp _ _ (qF e nld) (sd _ _ e)))) (sd.free nD1) g2)
inductive spTa(t:Adr)(vs:List V)(H:Hp)(Q:VK)(E_:XK):Prop
|mk:∀x k sh sr r rl pp X kd KD,∀n:Nat,vs=[.ref x.c,.int (X.s.q.B:Int),.int (X.s.q.P:Int),.ref kd]→KX t H x k sh sr r rl pp X kd KD n→Pw X.s→X.s.lf≠some 0→n≤100→(∀l us H',H l=none→Same H H'→H' l=some (.lst us)→Paired (TupD H') us ((List.range X.s.q.B).map (rowT X.s))→Q (.ref l) H')→spTa t vs H Q E_
theorem q75(T:Txt K mg t)(S:Fns K t):S.aAZ.Ok0 P w mg base 6 (spTa t):=by(
refine S.aAZ.F.ok0 jE λcdv A _ s H vs Q E hr h=>?_
obtain⟨x,k,sh,sr,r,rl,pp,X,kd,KD,n,rfl,h,⟨pgs,wps⟩,dk,n9,kk⟩:=h
have s9:(99999:Nat)<sizeLine:=by decide
have hu:=q32 hr
have w:=h.d.w
have p1:=w.qs.ok.p1
have p2:=w.qs.ok.p2
have b2:=w.qs.ok.b2
obtain⟨m,hc,mok,elf,erc,ecl,ebl,epg,pat,_⟩:=h.h.chip
have bp:X.s.q.B*X.s.q.P≤16*16:=xN b2 p2
have ebp:(X.s.q.B:Int)*(X.s.q.P:Int)=((X.s.q.B*X.s.q.P:Nat):Int):=by rw[dE]
refine⟨_,(qB (qV (i:=4) jE.nd rfl (Or.inr rfl) (y6 ["_law_chip","_law_page"] [0] rfl (zG rfl T.tL (qA (qQ uY (pv 1) (pv 2)) qE)) (λ_ _ _ _ _=>(qU (i:=1) (show List.Nodup (["_law_chip","_law_page"]:List Str)from by decide) rfl (Or.inl rfl))) (λ_ _ _ _ _=>zX) (λ_ _ _ _ _=>(jV vM (pv 0) T.fD T.aB2 (q48 T S).mono hr S.aA5.b .nil (qA (pv 1) qE))) (by kernel_rfl) (jD (by decide)))) (qB (qV (i:=5) jE.nd rfl (Or.inr rfl) (qX (q9D T S).mono hr rfl T.aC7 T.aDO S.aB8.b .nil qK (qA (pv 4) (qA (pv 3) qE)))) (qB (qV (i:=6) jE.nd rfl (Or.inl rfl) (qQ zV (jU (qA qG qE)) (pv 1))) (qB (uP g9 rfl (jF (j0 (pv 0) T.fD T.aAB (q0G T S).mono hr S.tG.b .nil qK)) (q5V rfl (u7 (qU (i:=7) jE.nd rfl (Or.inl rfl)) (u7 (qU (i:=8) jE.nd rfl (Or.inl rfl)) (u7 (qU (i:=9) jE.nd rfl (Or.inl rfl)) q3R)))) (qD (jC (qM u9 (pv 7) uO (qP _)) (qD (q37 (qQ u8 (qW qZ (pv 6) (pv 8) (λ_ _=>rfl)) qG) (q4H (pv 6) (pv 8) uA))) qS))) (qB (qV (i:=10) jE.nd rfl (Or.inl rfl) (jU qE)) (qB (uP g9 rfl (zG rfl T.tL (qA (pv 1) qE)) (qU (i:=11) jE.nd rfl (Or.inl rfl)) (qB (zK (i:=12) ["_law_stuff","_law_page"] [4] rfl (q4I rfl T.tL (qA (qQ uY (pv 11) (pv 2)) (qA (qQ u8 (qQ uY (pv 11) (pv 2)) (pv 2)) qE))) (λ_ _ _ _ _=>(qU (i:=1) (show List.Nodup (["_law_stuff","_law_page"]:List Str)from by decide) rfl (Or.inl rfl))) (λ_ _ _ _ _=>(yF (qM q2N (qW (q6C (K:=K) rfl) (pv 0) (pv 1) (λ_ _=>rfl)) yC (qP _)))) (λ_ _ _ _ _=>(pv 1)) (by kernel_rfl) (jD (by decide)) jE.nd rfl (Or.inl rfl)) (qB (qV (i:=13) jE.nd rfl (Or.inl rfl) qG) (zW (jC (qM (qB7 hr.units) (pv 12) (jU qE) (qP _)) (qD (qV (i:=13) jE.nd rfl (Or.inl rfl) (qQ uD (qW yN (qW qZ (pv 4) (qW qZ (pv 12) qG (λ_ _=>rfl)) (λ_ _=>rfl)) qG (λ_ _=>rfl)) qG))) qS) (qD (j8 (qBZ wN wF wG q0K (pv 10) (qA (yP (qA (pv 11) (qA (jA jB (by rfl) T.aAS gX (qA (y6 ["_law_lives_here","_law_page"] [5] rfl (jF (pv 12)) (λ_ _ _ _ _=>(qU (i:=1) (show List.Nodup (["_law_lives_here","_law_page"]:List Str)from by decide) rfl (Or.inl rfl))) (λ_ _ _ _ _=>(yF (qM (q6D (K:=K) rfl) (pv 1) (pv 0) rfl))) (λ_ _ _ _ _=>(pv 1)) (by kernel_rfl) (jD (by decide))) qE)) (qA (qW qZ (pv 6) (pv 11) (λ_ _=>rfl)) (qA (pv 13) (qA (jA jB (by rfl) T.aAS gX (qA (pv 12) qE)) qE)))))) qE q3X)))))))) (qD (qL (pv 10))))))))),?_⟩
try dsimp-beta-proj-iota-zeta-eta only[wishK,cxK]
refine⟨_,rfl,_,rfl,iI ⟨.inl ⟨by lia,by lia⟩,_,rfl,by lia,by lia,λD H2 nD s2 hD=>?_⟩⟩
rw[ebp,mH]
refine q2R (D:=D) (λi H3=>Same H H3∧H3 D=some (.lst (((List.range (X.s.q.B*X.s.q.P)).take i).map λi=>m.bo.getD i .non))) ⟨s2,hD⟩ (λi H3 hi hp=>?_) (λH3 hp=>?_)
·obtain⟨sm,hd⟩:=hp;have hi':i<((List.range (X.s.q.B*X.s.q.P))).length:=by rw[mG];exact hi
 refine⟨_,rfl,x.c,x.a.dx,_,rfl,(hc.same sm).ins,rfl,_,rfl,x.c,x.a,m,_,rfl,hc.same sm,mok,by lia,by rw[ebl,epg,ebp];lia,λz=>absurd (elf.symm.trans z) dk,λ_=>?_⟩;rw[show(0+(i:Int)).toNat=i by lia];refine⟨_,hd,?_,λb o e=>?_,?_⟩
 ·rw[hG,gE,mG];lia
 ·rw[qC (qF e nD)];exact sm _ _ e
 rw[qI,←kW hi',mM];simp
obtain⟨s3,hd3⟩:=hp
rw[wX (by rw[mG];exact kO _)]at hd3
obtain⟨bs,ebs⟩:∃bs:List V,bs=(List.range (X.s.q.B*X.s.q.P)).map λi=>m.bo.getD i .non:=⟨_,rfl⟩
rw[←ebs]at hd3
have lbs:bs.length=X.s.q.B*X.s.q.P:=by rw[ebs,hG,mG]
have gbs:∀i,i<X.s.q.B*X.s.q.P→bs.getD i .non=m.bo.getD i .non:=λi hi=>by rw[ebs,kI,mD,sT hi];rfl
have pat3:PgAt H3 bs X.s.pg:=⟨λi e=>by
 by_cases z:i<X.s.q.B*X.s.q.P
 ·rw[gbs i z];exact pat.n i e
 ·rw[kI,dH (by lia)];rfl,λi v e=>by
 have z:=wps.bd i v e;obtain⟨tp,e1,e2⟩:=pat.v i v e;exact⟨tp,by rw[gbs i z];exact e1,s3 _ _ e2⟩⟩
have h3:=h.same s3
refine⟨_,rfl,_,rfl,D,bs,kd,KD,X.s.pg,rfl,hd3,by lia,pat3,h3.hk,h.d.nd,λi v e=>(pgs.mr i v e).1,λW ll H4 la s4 nl hl=>?_⟩
have s04:=s3.trans s4
have h4:=h.same s04
have ov:∀n,(n=64∨n∈KD.map (·.1))↔n=64∨∃q,(n,q)∈X.s.q.V:=λn=>by
 by_cases z:n=64
 ·exact⟨λ_=>.inl z,λ_=>.inl z⟩
 rw[h.d.eq n z]
have vn:∀y∈X.s.q.V,0≤y.2∧y.2.toNat<bs.length:=λy hy=>by obtain⟨b,f,v,hb,hf,e,_⟩:=w.vl y hy;rw[e,lbs,mH];exact⟨by lia,qF3 hb hf⟩
have live:=la.live pgs ov vn
refine⟨sz1,λl0 H5 n5 s5 h5=>⟨_,rfl,l0,_,_,rfl,rfl,h5,by lia,by lia,λwl H6 n6 s6 h6=>?_⟩⟩
rw[mH]at h6
have s46:=s5.trans s6
have hc6:=hc.same (s04.trans s46)
refine(iV rfl (iM hc6.ins rfl ⟨x.c,x.a,m,rfl,hc6,λrs er prr p H7 n7 s7 h7=>?_⟩))
have pr7:Recd H7 rs m.rc:=Paired.mapP prr λv d ⟨p',e',h'⟩=>⟨p',e',s7 _ _ h'⟩
have h67:=s7 _ _ h6
have plw:p≠wl:=(qF h6 n7).symm
have lr:=pr7.len
have lrc:m.rc.length≤2600*n:=by rw[erc];exact h.rcn
refine⟨p,rfl,⟨_,SqL.of h7⟩,?_⟩
refine q8C (K:=K) (xs:=rs) (λi σ' H'=>∃y7 y8 y9,σ'=[some (.ref x.c),some (.int (X.s.q.B:Int)),some (.int (X.s.q.P:Int)),some (.ref kd),some (.ref D),some (.ref ll),some (.ref wl),y7,y8,y9,none,none,none,none]∧H' wl=some (.lst (((m.rc.take i).foldl wpS (List.replicate X.s.q.B 0)).map V.int))∧((m.rc.take i).foldl wpS (List.replicate X.s.q.B 0)).length=X.s.q.B∧∀b o,b≠wl→H7 b=some o→H' b=some o) ⟨_,_,_,rfl,by rw[h67,bX,nO,wY],by rw[bX,nO,gK],λ_ _ _ e=>e⟩ (λi σ' H' hi hp=>?_) (λi v σ' H' D' nxt hv hp=>?_) (λσ' H' hp=>?_)
·obtain⟨y7,y8,y9,rfl,hw,_,kp⟩:=hp;exact SqL.of (kp _ _ plw h7)
·obtain⟨y7,y8,y9,rfl,hw,lw,kp⟩:=hp;obtain⟨d,hd,tp,rfl,htp⟩:=Paired.at pr7 hv;obtain⟨hi,ed⟩:=kC.mp hd;have ntp:tp≠wl:=λz=>by rw[z,h67]at htp;cases htp
 have htp':=kp _ _ ntp htp;have et:(m.rc.take (i+1)).foldl wpS (List.replicate X.s.q.B 0)=wpS ((m.rc.take i).foldl wpS (List.replicate X.s.q.B 0)) d:=by rw[←kW hi,cK,ed];rfl
 rw[et]at nxt;generalize (m.rc.take i).foldl wpS (List.replicate X.s.q.B 0)=cs at hw lw nxt;refine⟨tp,_,rfl,SqT.of htp',rfl,_,_,rfl,_,_,rfl,_,_,rfl,rfl,?_⟩;refine⟨_,rfl,rfl,_,rfl,?_⟩;by_cases z:d.1=Str.ofString "wipe"
 ·rw[show decide (V.str d.1=V.str (Str.ofString "wipe"))=true from hC (by rw[z])];obtain⟨j,ej,hj⟩:=wps.r d (by rw[←erc,←ed];exact gH hi) z;refine iteT ?_;rw[ej];refine⟨_,rfl,_,rfl,iL (k:=_) (v:=.int (cs.getD j 0)) (SqL.of hw) (atV (by lia)) (iI ⟨_,rfl,_,rfl,wl,_,_,j,rfl,rfl,hw,q3A (by rw[hG];lia),?_⟩)⟩;rw[setV];have ew:wpS cs d=cs.set j (cs.getD j 0+1):=by unfold wpS;rw[kL z,ej,mH]
  rw[ew]at nxt;exact nxt _ _ ⟨_,_,_,rfl,qI,by rw[gJ];exact lw,λb o nb e=>by rw[qC nb];exact kp b o nb e⟩
 rw[show decide (V.str d.1=V.str (Str.ofString "wipe"))=false from hU (λy=>z (V.str.inj y))];have ew:wpS cs d=cs:=by unfold wpS;rw[kJ z]
 rw[ew]at nxt;exact iteF (nxt _ _ ⟨_,_,_,rfl,hw,lw,kp⟩)
obtain⟨y7,y8,y9,rfl,hw,lw,kp⟩:=hp
rw[lr,gF,erc,wps.e]at hw
refine⟨sz0,λfl H8 n8 s8 h8=>?_⟩
have nw:∀{y:Addr} {o:HO},H6 y=some o→y≠wl→H8 y=some o:=fun {y o} e ny=>s8 _ _ (kp _ _ ny (s7 _ _ e))
have hD8:H8 D=some (.lst bs):=nw (s46 _ _ (s4 _ _ hd3)) (qF (s5 _ _ (s4 _ _ hd3)) n6)
have hL8:H8 ll=some (.lst ((W.map (·.2)).map V.int)):=nw (s46 _ _ hl) (qF (s5 _ _ hl) n6)
have hw8:=s8 _ _ hw
have nfl:∀{y:Addr} {o:HO},H8 y=some o→y≠fl→True:=λ_ _=>trivial
have tp8:∀{y:Addr} {xs:List V},H3 y=some (.tup xs)→H8 y=some (.tup xs):=fun {y xs} e=>nw (s46 _ _ (s4 _ _ e)) (qF (s5 _ _ (s4 _ _ e)) n6)
have dfl:D≠fl:=qF (kp _ _ (qF (s5 _ _ (s4 _ _ hd3)) n6) (s7 _ _ (s46 _ _ (s4 _ _ hd3)))) n8
have lfl:ll≠fl:=qF (kp _ _ (qF (s5 _ _ hl) n6) (s7 _ _ (s46 _ _ hl))) n8
have wfl:wl≠fl:=qF hw n8
have n0f:H fl=none:=by
 cases z:H fl with
 |none=>rfl
 |some o=>have e4:=s04 _ _ z;have:=kp _ _ (qF (s5 _ _ e4) n6) (s7 _ _ (s46 _ _ e4));rw[n8]at this;cases this
refine⟨_,rfl,_,rfl,by lia,by lia,?_⟩
rw[mH]
refine q12 (λb σ' H'=>∃y11 y12 y13 us,σ'=[some (.ref x.c),some (.int (X.s.q.B:Int)),some (.int (X.s.q.P:Int)),some (.ref kd),some (.ref D),some (.ref ll),some (.ref wl),y7,y8,y9,some (.ref fl),y11,y12,y13]∧H' fl=some (.lst us)∧Paired (TupD H') us ((List.range b).map (rowT X.s))∧∀y o,y≠fl→H8 y=some o→H' y=some o) ⟨_,_,_,[],rfl,h8,.nil,λ_ _ _ e=>e⟩ (λb σ' H' D' nxt hb hp=>?_) (λσ' H' hp=>?_)
·obtain⟨y11,y12,y13,us,rfl,hf,prf,kf⟩:=hp;obtain⟨f,ef,fP⟩:=w.qs.ok.wr b hb;have lus:=prf.len;rw[hG,mG]at lus;have bPe:((b:Int))*(X.s.q.P:Int)=((b*X.s.q.P:Nat):Int):=by rw[dE]
 have bP:b*X.s.q.P+X.s.q.P≤X.s.q.B*X.s.q.P:=by rw[←rZ];exact gR _ hb
 rw[lY];refine⟨_,rfl,_,rfl,iI ⟨.inl ⟨by lia,by lia⟩,_,rfl,_,rfl,iI ⟨.inl ⟨by lia,by lia⟩,_,rfl,iI ⟨_,_,rfl,⟨by lia,by lia,by lia,by lia⟩,λml H9 n9 s9' h9=>?_⟩⟩⟩⟩;rw[bPe,show(((b*X.s.q.P:Nat):Int)+(X.s.q.P:Int)-((b*X.s.q.P:Nat):Int)).toNat=X.s.q.P by lia];refine q2R (D:=ml) (λi HA=>Same H' HA∧HA ml=some (.lst (((List.range (min i f)).map λj=>((b*X.s.q.P+j:Nat):Int)).map V.int))) ⟨s9',by rw[Nat.zero_min];exact h9⟩ (λi HA hi hp=>?_) (λHA hp=>?_)
 ·obtain⟨sA,hA⟩:=hp;have iN:b*X.s.q.P+i<bs.length:=by lia
  have at1:atI bs (((b*X.s.q.P:Nat):Int)+(i:Int))=some (bs.getD (b*X.s.q.P+i) .non):=by rw[←sL];exact yK (by rw[kI,kE iN];rfl)
  refine⟨_,rfl,_,rfl,D,bs,_,_,rfl,rfl,SqL.of (sA _ _ (kf _ _ dfl hD8)),at1,rfl,_,rfl,?_⟩;cases hpg:X.s.pg (b*X.s.q.P+i)with
  |none=>
   have fi:f≤i:=nJ.mp λy=>by obtain⟨v,e⟩:=pgs.wr b i hb hi (by rw[ef];lia);rw[hpg]at e;cases e
   rw[pat3.n _ hpg,hC rfl];refine iteF ⟨sA,?_⟩;rw[lM fi]at hA;rw[lM (by lia)];exact hA
  |some v=>
   have fi:i<f:=Nat.not_le.mp λy=>by rw[w.cr b i hb (by rw[ef];lia) hi]at hpg;cases hpg
   obtain⟨tp,e1,_⟩:=pat3.v _ v hpg;rw[e1,hU (λz=>by cases z)];rw[bM (by lia)]at hA;refine iteT ⟨_,rfl,_,hA,?_,λy o e=>?_,?_⟩
   ·rw[hG,hG,mG];lia
   ·rw[qC (qF e n9)];exact sA _ _ e
   rw[qI,bM (by lia),c7,mM,mM,pF,pF,sL]
 obtain⟨sA,hA⟩:=hp;rw[lM fP]at hA;obtain⟨b1,b2'⟩:=pgs.bn b hb;refine⟨λσ' H'=>σ'=[some (.ref x.c),some (.int (X.s.q.B:Int)),some (.int (X.s.q.P:Int)),some (.ref kd),some (.ref D),some (.ref ll),some (.ref wl),y7,y8,y9,some (.ref fl),some (.int (b:Int)),some (.ref ml),some (.int (X.s.q.bo.getD b 0))]∧Same HA H',?_,?_⟩
 ·refine⟨_,rfl,sz0,λl0 HB nB sB hB=>?_⟩;have hAB:=sB _ _ hA;refine⟨ml,_,l0,rfl,rfl,SqL.of hAB,SqL.of hB,_,rfl,?_⟩;by_cases z:f=0
  ·rw[hU (λy=>y (by rw[z];rfl)),b1 (by rw[ef,z];rfl)];exact iteF ⟨rfl,sB⟩
  obtain⟨v,e1,e2⟩:=b2' (by rw[ef];lia);have ne:((List.range f).map λj=>((b*X.s.q.P+j:Nat):Int)).map V.int≠[]:=λy=>z (by have:=dO List.length y;rw[hG,hG,mG]at this;exact this);rw[hC ne];obtain⟨tp,g1,g2⟩:=pat3.v _ v e1;have iN:b*X.s.q.P<bs.length:=by lia
  refine iteT ⟨_,rfl,_,rfl,iL (k:=0) (v:=.int ((b*X.s.q.P:Nat):Int)) (SqL.of hAB) (show atI _ ((0:Nat):Int)=_ from yK ?_) ⟨D,bs,_,.ref tp,rfl,rfl,SqL.of (sB _ _ (sA _ _ (kf _ _ dfl hD8))),yK (by rw[←g1,kI,kE iN];rfl),iT (k:=0) (v:=.int v.1) (SqT.of (sB _ _ (sA _ _ (kf _ _ (λy=>?_) (tp8 g2))))) rfl (iI ⟨⟨by decide,by decide⟩,?_⟩)⟩⟩
  ·rw[mD,mD,sT (by lia)];rfl
  ·rw[y]at g2;rw[tp8 g2]at h8;cases h8
  exact⟨by rw[e2];rfl,sB⟩
 rintro σ' HC ⟨rfl,sC⟩
 have hAC:=sC _ _ hA;have hLC:=sC _ _ (sA _ _ (kf _ _ lfl hL8));have hwC:=sC _ _ (sA _ _ (kf _ _ wfl hw8));have hfC:=sC _ _ (sA _ _ hf);refine⟨_,rfl,.inl ⟨rfl,_,SqL.of hfC⟩,_,rfl,_,rfl,ml,rfl,⟨_,SqL.of hAC⟩,λel HD nD' sD' hD'=>?_⟩;refine yV (K:=K) (xs:=((List.range f).map λj=>((b*X.s.q.P+j:Nat):Int)).map V.int) (D:=el) (λi HE=>Same HC HE∧HE el=some (.lst (((((List.range f).map λj=>((b*X.s.q.P+j:Nat):Int)).take i).filter λq=>decide (q∈W.map (·.2))).map V.int))) ⟨sD',hD'⟩ (λi HE hp=>SqL.of (hp.1 _ _ hAC)) (λi v HE hv hp=>?_) (λHE hp=>?_)
 ·obtain⟨sE,hE⟩:=hp;rw[mD]at hv;obtain⟨q,hq,rfl⟩:=mK.mp hv;obtain⟨iq,eq⟩:=kC.mp hq;refine⟨_,rfl,_,rfl,ll,_,rfl,.inl (SqL.of (sE _ _ hLC)),rfl,qCU,_,rfl,?_⟩;show if inV (.int q) _=true then _ else _;rw[q4C,←kW iq,eq,gA];by_cases z:q∈W.map (·.2)
  ·rw[kL (hC z),mU,kL (hC z),dD];refine⟨_,rfl,_,hE,?_,λy o e=>?_,?_⟩
   ·rw[hG];refine gM (mC _ _) ?_;rw[gE,hG,mG];lia
   ·rw[qC (qF e nD')];exact sE _ _ e
   rw[qI,mM];rfl
  rw[kJ (λy=>z (mP y)),mU,kJ (λy=>z (mP y)),dD,gU];exact⟨sE,hE⟩
 obtain⟨sE,hE⟩:=hp;rw[hG,gF]at hE;have lc:=qFV w hb ef fP live;refine⟨el,_,rfl,.inl (SqL.of hE),?_⟩;rw[hG,lc];have lcl:=w.lc;refine⟨_,rfl,_,rfl,iL (k:=_) (v:=.int (X.s.cl.getD b 0)) (SqL.of (sE _ _ hwC)) (atV (by lia)) ⟨_,rfl,_,rfl,ml,_,rfl,.inl (SqL.of (sE _ _ hAC)),sz5,λtn HF nF sF hF=>⟨fl,us,_,rfl,rfl,sF _ _ (sE _ _ hfC),by lia,?_⟩⟩⟩;rw[hG,hG,mG]at hF;have hfF:=sF _ _ (sE _ _ hfC);have s8F:∀y o,H' y=some o→HF y=some o:=λy o e=>sF _ _ (sE _ _ (sC _ _ (sA _ _ e)));refine nxt _ _ ⟨_,_,_,us++[.ref tn],rfl,qI,?_,λy o ny e=>?_⟩
 ·rw[c7,mM];have up:∀{y:Addr} {xs:List V},HF y=some (.tup xs)→(upd HF fl (.lst (us++[.ref tn]))) y=some (.tup xs):=fun {y xs} e=>by rw[qC (λz=>by rw[z,hfF]at e;cases e)];exact e
  refine L2.Paired.snoc (Paired.mapP prf λv d ⟨p',e',h'⟩=>⟨p',e',up (s8F _ _ h')⟩) ⟨tn,rfl,up ?_⟩;rw[hF];show _=some (HO.tup ((rowT X.s b).map V.int));unfold rowT;rw[ef];rfl
 rw[qC ny];exact s8F _ _ (kf _ _ ny e)
obtain⟨y11,y12,y13,us,rfl,hf,prf,kf⟩:=hp
refine⟨_,rfl,kk fl us H' n0f (λy o e=>?_) hf prf⟩
have e4:=s04 _ _ e
exact kf _ _ (λz=>by rw[z,n0f]at e;cases e) (nw (s46 _ _ e4) (qF (s5 _ _ e4) n6)))
noncomputable def qLT:Sp:=λvs H Q _=>∃l us k s,vs=[.ref l,.int (s.q.P:Int),.int ((k:Tm).ie:Int)]∧H l=some (.lst us)∧Paired (TupD H) us ((List.range s.q.B).map (rowT s))∧WX k s∧∀H',Same H H'→Q (.int (s.spc k)) H'
theorem q5J(T:Txt K mg t)(S:Fns K t):S.tX.Ok0 P w mg base 1 qLT:=by(
refine S.tX.F.ok0 q1L λcdv A _ s H vs Q E hr h=>?_
obtain⟨l,us,k,s,rfl,hl,pr,w,kk⟩:=h
have s9:(99999:Nat)<sizeLine:=by decide
have b2:=w.qs.ok.b2
have lus:=pr.len
rw[hG,mG]at lus
obtain⟨fl,hfl⟩:=FreeIs.ex s.q.B (noB s.q.B) s.cl s.q.fi
have spe:=qFM w hfl
have lfl:=qFW hfl
have row:∀{i:Nat} {v:V},us[i]?=some v→i<s.q.B∧∃tp,v=.ref tp∧H tp=some (.tup ((rowT s i).map V.int)):=fun {i v} e=>by
 obtain⟨d,ed,tp,e1,e2⟩:=Paired.at pr e;have hi:i<s.q.B:=by rw[←lus];exact(kC.mp e).1
 rw[mD,sT hi]at ed;cases ed;exact⟨hi,tp,e1,e2⟩
refine⟨_,(qB (jC (qM qDR (jA jB (by rfl) T.aAS gX (qA (y6 ["_law_row"] [] rfl (jF (pv 0)) (λ_ _ _ _ _=>(qU (i:=0) (show List.Nodup (["_law_row"]:List Str)from by decide) rfl (Or.inl rfl))) (λ_ _ _ _ _=>(yF (qM u9 (qW (yL (K:=K) rfl) (pv 0) qG (λ_ _=>rfl)) qG (qP _)))) (λ_ _ _ _ _=>(pv 0)) (by kernel_rfl) (jD (by decide))) qE)) (pv 2) (qP _)) (qD (qL (pv 1))) qS) (qB (uP g9 rfl (jF (pv 0)) (qU (i:=3) q1L.nd rfl (Or.inl rfl)) (qD (jC (q9K q1O q1O qG (qW yN (pv 3) qG (λ_ _=>rfl)) (pv 1)) (qD (qL (qQ vE (pv 1) (qW yN (pv 3) qG (λ_ _=>rfl))))) qS))) (qD (qL qG)))),?_⟩
try dsimp-beta-proj-iota-zeta-eta only[wishK,cxK]
refine⟨_,rfl,l,rfl,⟨_,SqL.of hl⟩,λD H2 nD s2 hD=>?_⟩
refine yV (K:=K) (xs:=us) (D:=D) (λi H3=>∃vs:List V,Same H H3∧H3 D=some (.lst vs)∧vs.length=(((List.range s.q.B).take i).filter λb=>decide (s.q.fi.getD b 0=0)).length) ⟨[],s2,hD,rfl⟩ (λi H3 hp=>SqL.of (hp.choose_spec.1 _ _ hl)) (λi v H3 hv hp=>?_) (λH3 hp=>?_)
·obtain⟨vs,sm,hd,lv⟩:=hp;obtain⟨hi,tp,rfl,htp⟩:=row hv;have hi':i<(List.range s.q.B).length:=by rw[mG];exact hi
 refine⟨_,rfl,iT (k:=4) (v:=.int (s.q.fi.getD i 0)) (SqT.of (sm _ _ htp)) rfl ⟨rfl,_,rfl,?_⟩⟩;rw[←kW hi',pD,gA,mL];by_cases z:s.q.fi.getD i 0=0
 ·rw[yG,hC z,mU,kL (hC z),dD];refine iteT ⟨_,rfl,_,hd,?_,_,λy o e=>?_,qI,?_⟩
  ·rw[lv];refine gM (mC _ _) ?_;rw[gE,mG];lia
  ·rw[qC (qF e nD)];exact sm _ _ e
  rw[mL,lv];rfl
 rw[yG,hU z,mU,kJ (λy=>z (mP y)),dD];exact iteF ⟨vs,sm,hd,lv⟩
obtain⟨vs,s3,hd,lv⟩:=hp
rw[lus,wX (by rw[mG];exact kO _),←lfl]at lv
refine⟨D,vs,rfl,.inl (SqL.of hd),_,rfl,iI ⟨_,rfl,?_⟩⟩
have kk3:Q (.int (s.spc k)) H3:=kk H3 s3
rw[←spe]at kk3
unfold spcN at kk3
by_cases z:(k.ie:Int)<((vs.length:Nat):Int)
·rw[hC z];rw[kL (by lia)]at kk3;exact iteT ⟨_,rfl,kk3⟩
rw[hU z]
rw[kJ (by lia)]at kk3
refine iteF ?_
have hl3:=s3 _ _ hl
refine⟨_,rfl,l,rfl,⟨_,SqL.of hl3⟩,?_⟩
refine uX (K:=K) (xs:=us) (λi σ' H'=>∃y,σ'=[some (.ref l),some (.int (s.q.P:Int)),some (.int (k.ie:Int)),y]∧H'=H3∧∀c,c<i→jP s.q.P s.q.fi c=false) ⟨_,rfl,rfl,λc hc=>absurd hc (cB _)⟩ (λi σ' H' hi hp=>by obtain⟨_,_,rfl,_⟩:=hp;exact SqL.of hl3) (λi v σ' H' hv hp=>?_) (λσ' H' hp=>?_)
·obtain⟨y,rfl,rfl,no⟩:=hp;obtain⟨hi,tp,rfl,htp⟩:=row hv;have htp3:=s3 _ _ htp;refine⟨_,rfl,iT (k:=4) (v:=.int (s.q.fi.getD i 0)) (SqT.of htp3) rfl (iI ⟨_,rfl,?_⟩)⟩;have go:jP s.q.P s.q.fi i=false→∃y',[some (V.ref l),some (.int (s.q.P:Int)),some (.int (k.ie:Int)),some (.ref tp)]=[some (.ref l),some (.int (s.q.P:Int)),some (.int (k.ie:Int)),y']∧H'=H'∧∀c,c<i+1→jP s.q.P s.q.fi c=false:=λz=>⟨_,rfl,rfl,λc hc=>by
  by_cases y:c=i
  ·rw[y];exact z
  exact no c (by lia)⟩
 by_cases z0:(0:Int)<s.q.fi.getD i 0
 ·rw[hC z0];refine iteT ⟨_,rfl,iI ⟨_,rfl,?_⟩⟩;by_cases z1:s.q.fi.getD i 0<(s.q.P:Int)
  ·rw[hC z1];rw[qHO hi (by unfold jP;rw[hC z0,hC z1];rfl) no]at kk3;exact iteT ⟨_,rfl,_,rfl,iT (k:=4) (v:=.int (s.q.fi.getD i 0)) (SqT.of htp3) rfl (iI kk3)⟩
  rw[hU z1];exact iteF (go (by unfold jP;rw[hU z1,Bool.and_false]))
 rw[hU z0];exact iteF ⟨_,rfl,iteF (go (by unfold jP;rw[hU z0];rfl))⟩
obtain⟨y,rfl,rfl,no⟩:=hp
rw[qHP (λc hc=>no c (by lia))]at kk3
exact kk3)
theorem q4F{H:Hp}:∀{rs:List V} {ts:List Tl},Tls H rs ts→Paired (TupD H) rs (ts.map λT=>[T.b,T.lv,T.cl,T.bo])
|_,_,.nil=>.nil
|_,_,.cons ⟨p,e,h⟩ r=>.cons ⟨p,e,h⟩ (q4F r)
theorem qAN{H:Hp}{rs ds:List V}{L:List (List Int)}{p r:Addr}(n:Nat)(hp:H p=some (.lst rs))(hq:H r=some (.lst ds))(t1:Paired (TupD H) rs L)(t2:Paired (TupD H) ds L):Eqv K H (n+2) (.ref p) (.ref r):=by(
refine .lst (SqL.of hp) (SqL.of hq) (t1.len.trans t2.len.symm) λj x y hx hy=>?_
obtain⟨b,hb,x',rfl,hx'⟩:=Paired.at t1 hx
obtain⟨b',hb',y',rfl,hy'⟩:=Paired.at t2 hy
obtain rfl:b=b':=kZ (hb.symm.trans hb')
refine .tup (SqT.of hx') (SqT.of hy') rfl λi u v hu hv=>?_
obtain rfl:u=v:=kZ (hu.symm.trans hv)
rw[mD]at hu
obtain⟨z,_,rfl⟩:=mK.mp hu
exact .flat rfl)
theorem q9E{a:Addr}{us:List V}{L:List Tl}{D:Addr}{H H2:Hp}{g:TG}{tc:TT}{te:TE}{σ0:St}{R:Hp→Prop}(f:Tl→Bool)(cu:Tl→Int)(ha:H a=some (.lst us))(pr:Tls H us L)(lu:us.length<sizeLine)(nD:H D=none)(s2:Same H H2)(hD:H2 D=some (.lst []))
 (hs:∀x' d H' (N:V→Hp→Prop) (N':Hp→Prop),d∈L→Same H H'→H' x'=some (.tup (d.ns.map V.int))→(f d=true→N (.int (cu d)) H')→(f d=false→N' H')→g (.ref x') σ0 H' λσ5 H5=>tc σ5 H5 λb H6=>if b=true then te σ5 H6 N else N' H6)
 (hd:∀H',Same H H'→H' D=some (.lst (((L.filter f).map cu).map V.int))→R H'):
 ∃W:Nat→Nat→Hp→Prop,(∃m,W 0 m H2)∧∀i m H3,W i m H3→((Itl K a).stop i H3∧R H3)∨((Itl K a).go i H3∧∃N:Hp→Prop,(∀H',N H'→∃m',m'<m∧W (i+1) m' H')∧∀x H4,(Itl K a).yld i H3 x H4→g x σ0 H4 λσ5 H5=>tc σ5 H5 λb H6=>
   if b=true then te σ5 H6 (λv H7=>∃vs,H7 D=some (.lst vs)∧vs.length<sizeLine∧N (upd H7 D (.lst (vs++[v]))))else N H6):=by(
refine yV (K:=K) (xs:=us) (D:=D) (λi H'=>Same H H'∧H' D=some (.lst ((((L.take i).filter f).map cu).map V.int))) ⟨s2,hD⟩ (λi H' hp=>SqL.of (hp.1 _ _ ha)) (λi y H' hy hp=>?_) (λH' hp=>?_)
·obtain⟨sm,hz⟩:=hp;obtain⟨d,hd',x',rfl,hx⟩:=Paired.at pr hy;obtain⟨il,rfl⟩:=kC.mp hd';refine hs x' L[i] H' _ _ (gH il) sm (sm _ _ hx) (λfd=>⟨_,hz,?_,λb o e=>?_,?_⟩) (λfd=>⟨sm,?_⟩)
 ·rw[hG,hG];refine gM (mC _ _) (gM ?_ lu);rw[gE,pr.len];lia
 ·rw[qC (qF e nD)];exact sm _ _ e
 ·rw[qI,←kW il,gA,mU,kL fd,dD,mM,mM];rfl
 rw[←kW il,gA,mU,kJ (by rw[fd];decide),dD,gU];exact hz
obtain⟨sm,hz⟩:=hp
rw[pr.len,gF]at hz
exact hd H' sm hz)
inductive spDu(vs:List V)(H:Hp)(Q:VK)(E_:XK):Prop
|mk:∀op os sp ss ts tp,vs=[.ref op,.ref sp]→H op=some (.lst os)→Tls H os ts→H sp=some (.lst ss)→Tls H ss tp→ts.length≤16→tp.length≤16→(∀A,Bst Tl.lv ts A→NewO H (.tup [.str (Str.ofString "rule"),.int A.b]) Q)→(ts=[]→(∀A,Bst Tl.cl tp A→NewO H (.tup [.str (Str.ofString "even"),.int A.b]) Q)∧(tp=[]→∀H',Same H H'→Q .non H'))→spDu vs H Q E_
theorem qBM(T:Txt K mg t)(S:Fns K t):S.aD1.Ok0 P w mg base 1 spDu:=by(
refine S.aD1.F.ok0 q3M λcdv A _ s H vs Q E hr h=>?_
obtain⟨op,os,sp,ss,ts,tp,rfl,ho,t1,hsp,t2,l1,l2,kr,ke⟩:=h
have s9:(99999:Nat)<sizeLine:=by decide
have lo:=t1.len
have ls:=t2.len
refine⟨_,(qB (jC (qM (qB7 hr.units) (pv 0) (jU qE) (qP _)) (qB (qV (i:=2) q3M.nd rfl (Or.inr rfl) (jA (q4M rfl) (by rfl) T.aDS (by kernel_rfl) (qA (y6 ["_law_row"] [] rfl (jF (pv 0)) (λ_ _ _ _ _=>(qU (i:=0) (show List.Nodup (["_law_row"]:List Str)from by decide) rfl (Or.inl rfl))) (λ_ _ _ _ _=>zX) (λ_ _ _ _ _=>(qW (yL (K:=K) rfl) (pv 0) qG (λ_ _=>rfl))) (by kernel_rfl) (jD (by decide))) qE))) (qD (qL (yP (qA uO (qA (qW qZ (y6 ["_law_few","_law_row"] [2] rfl (jF (pv 0)) (λ_ _ _ _ _=>(qU (i:=1) (show List.Nodup (["_law_few","_law_row"]:List Str)from by decide) rfl (Or.inl rfl))) (λ_ _ _ _ _=>(yF (qM u9 (qW (yL (K:=K) rfl) (pv 1) qG (λ_ _=>rfl)) (pv 0) (qP _)))) (λ_ _ _ _ _=>(qW (yL (K:=K) rfl) (pv 1) qG (λ_ _=>rfl))) (by kernel_rfl) (jD (by decide))) qG (λ_ _=>rfl)) qE)))))) qS) (qB (jC (qM (qB7 hr.units) (pv 1) (jU qE) (qP _)) (qB (qV (i:=2) q3M.nd rfl (Or.inr rfl) (jA (q4M rfl) (by rfl) T.aDS (by kernel_rfl) (qA (y6 ["_law_row"] [] rfl (jF (pv 1)) (λ_ _ _ _ _=>(qU (i:=0) (show List.Nodup (["_law_row"]:List Str)from by decide) rfl (Or.inl rfl))) (λ_ _ _ _ _=>zX) (λ_ _ _ _ _=>(qW (yL (K:=K) rfl) (pv 0) qG (λ_ _=>rfl))) (by kernel_rfl) (jD (by decide))) qE))) (qD (qL (yP (qA uO (qA (qW qZ (y6 ["_law_few","_law_row"] [2] rfl (jF (pv 1)) (λ_ _ _ _ _=>(qU (i:=1) (show List.Nodup (["_law_few","_law_row"]:List Str)from by decide) rfl (Or.inl rfl))) (λ_ _ _ _ _=>(yF (qM u9 (qW (yL (K:=K) rfl) (pv 1) qG (λ_ _=>rfl)) (pv 0) (qP _)))) (λ_ _ _ _ _=>(qW (yL (K:=K) rfl) (pv 1) qG (λ_ _=>rfl))) (by kernel_rfl) (jD (by decide))) qG (λ_ _=>rfl)) qE)))))) qS) (qD (qL yC)))),?_⟩
try dsimp-beta-proj-iota-zeta-eta only[wishK,cxK]
refine⟨_,rfl,sz0,λe H1 n1 s1 e1=>⟨op,_,e,rfl,rfl,SqL.of (s1 _ _ ho),SqL.of e1,_,rfl,?_⟩⟩
by_cases z:os=[]
·rw[hU (λy=>y z)];refine iteF ?_;have zt:ts=[]:=wP.mp (by rw[←lo,z];rfl);obtain⟨ke,kn⟩:=ke zt;refine⟨_,rfl,sz0,λe2 H2 n2 s2 e2'=>⟨sp,_,e2,rfl,rfl,SqL.of (s2 _ _ (s1 _ _ hsp)),SqL.of e2',_,rfl,?_⟩⟩;by_cases y:ss=[]
 ·rw[hU (λq=>q y)];refine iteF ?_;exact kn (wP.mp (by rw[←ls,y];rfl)) _ (s1.trans s2)
 rw[hC y];refine iteT ?_;obtain⟨A,bs⟩:=Bst.ex (f:=Tl.cl) (l:=tp) (λq=>y (wP.mp (by rw[ls,q];rfl)));have sA:=s1.trans s2;have hs2:=sA _ _ hsp;refine⟨_,rfl,sp,rfl,⟨_,SqL.of hs2⟩,λD H3 nD s3 hD=>?_⟩;refine q9E (λ_=>true) Tl.cl hs2 (t2.same sA) (by lia) nD s3 hD (λx' d H' N N' hd sm hx kt kf=>⟨_,rfl,iT (k:=2) (v:=.int d.cl) (SqT.of hx) rfl (kt rfl)⟩) (λH4 s4 h4=>?_);refine⟨D,_,rfl,SqL.of h4,wV (kP.mpr ⟨A,mV.mpr ⟨bs.mem,rfl⟩,rfl⟩),λM hM hle=>?_⟩;obtain rfl:=bs.min hM hle;have sB:=sA.trans s4;refine⟨_,rfl,sp,rfl,⟨_,SqL.of (s4 _ _ hs2)⟩,λD2 H5 n5 s5 h5=>?_⟩;refine q9E (λd=>decide (d.cl=A.cl)) Tl.b (s4 _ _ hs2) (t2.same sB) (by lia) n5 s5 h5 (λx' d H' N N' hd sm hx kt kf=>?_) (λH6 s6 h6=>?_)
 ·refine⟨_,rfl,iT (k:=2) (v:=.int d.cl) (SqT.of hx) rfl ⟨_,rfl,rfl,_,rfl,?_⟩⟩;rw[yG];by_cases g:d.cl=A.cl
  ·rw[hC g];exact iteT ⟨_,rfl,iT (k:=0) (v:=.int d.b) (SqT.of hx) rfl (kt (hC g))⟩
  rw[hU g];exact iteF (kf (hU g))
 obtain⟨r,er⟩:=bs.fil;rw[er]at h6;refine(iL (k:=_) (v:=.int A.b) (SqL.of h6) (yK (j:=0) rfl) ⟨sz2,λp H7 np s7 hp=>?_⟩);have sC:=sB.trans s6;exact ke A bs p H7 (sC.free np) (sC.trans s7) hp
rw[hC z]
refine iteT ?_
obtain⟨A,bs⟩:=Bst.ex (f:=Tl.lv) (l:=ts) (λq=>z (wP.mp (by rw[lo,q];rfl)))
have hs2:=s1 _ _ ho
refine⟨_,rfl,op,rfl,⟨_,SqL.of hs2⟩,λD H3 nD s3 hD=>?_⟩
refine q9E (λ_=>true) Tl.lv hs2 (t1.same s1) (by lia) nD s3 hD (λx' d H' N N' hd sm hx kt kf=>⟨_,rfl,iT (k:=1) (v:=.int d.lv) (SqT.of hx) rfl (kt rfl)⟩) (λH4 s4 h4=>?_)
refine⟨D,_,rfl,SqL.of h4,wV (kP.mpr ⟨A,mV.mpr ⟨bs.mem,rfl⟩,rfl⟩),λM hM hle=>?_⟩
obtain rfl:=bs.min hM hle
have sB:=s1.trans s4
refine⟨_,rfl,op,rfl,⟨_,SqL.of (s4 _ _ hs2)⟩,λD2 H5 n5 s5 h5=>?_⟩
refine q9E (λd=>decide (d.lv=A.lv)) Tl.b (s4 _ _ hs2) (t1.same sB) (by lia) n5 s5 h5 (λx' d H' N N' hd sm hx kt kf=>?_) (λH6 s6 h6=>?_)
·refine⟨_,rfl,iT (k:=1) (v:=.int d.lv) (SqT.of hx) rfl ⟨_,rfl,rfl,_,rfl,?_⟩⟩;rw[yG];by_cases g:d.lv=A.lv
 ·rw[hC g];exact iteT ⟨_,rfl,iT (k:=0) (v:=.int d.b) (SqT.of hx) rfl (kt (hC g))⟩
 rw[hU g];exact iteF (kf (hU g))
obtain⟨r,er⟩:=bs.fil
rw[er]at h6
refine(iL (k:=_) (v:=.int A.b) (SqL.of h6) (yK (j:=0) rfl) ⟨sz2,λp H7 np s7 hp=>?_⟩)
have sC:=sB.trans s6
exact kr A bs p H7 (sC.free np) (sC.trans s7) hp)
noncomputable def Due(H:Hp)(dv:V):Option (Str×Nat×Rl)→Prop
|none=>dv=.non
|some q=>∃a,dv=.ref a∧H a=some (.tup [.str q.1,.int (q.2.1:Int)])
noncomputable def qLU(t:Adr):Sp:=λvs H Q _=>∃x k sh sr r rl pp X dv,vs=[.ref x.s,dv]∧XX t H x k sh sr r rl pp X∧k.ev=true∧X.s.rc.length<1000000∧Due H dv (X.s.tk k X.g)∧(∀y b g',X.s.tk k X.g=some (y,b,g')→g'=X.g)∧∀H',XX t H' x k sh sr r rl pp X→Keep [t.e9,t.fA,r] H H'→Q (.bl true) H'
theorem q7L(T:Txt K mg t)(S:Fns K t)(B:BmIn base mg):S.aBF.Ok0 P w mg base 14 (qLU t):=by(
refine S.aBF.F.ok0 vK λcdv A _ s H vs Q E hr h=>?_
obtain⟨x,k,sh,sr,r,rl,pp,X,dv,rfl,h,ev,rc,du,eg,kk⟩:=h
refine⟨_,(qB (qV (i:=2) vK.nd rfl (Or.inl rfl) yC) (zW (qEK (λpins XE ES tk1 po1=>(qD (qV (i:=2) vK.nd rfl (Or.inl rfl) (uE tk1 (pv 0) T.fB T.aA7 (q2K T S B).mono hr S.tN.b .nil)))) (q8L (λea=>(vJ rfl T.aB6 rfl (v:=.ref t.C_NoRoom))) rfl (λea=>(qD (qV (i:=2) vK.nd rfl (Or.inl rfl) yC))) (qEJ vM))) (qB (jC (PW.pt (qBO (qM q38 (pv 1) yC (qP _)) (q8F (qM q38 (pv 2) yC (qP _))))) (qD (qL (zI (uM q38 (pv 1) yC (qP _)) (zH (uM q38 (pv 2) yC (qP _)))))) qS) (qD (qL (zI (jA uZ (by rfl) T.i5 (by kernel_rfl) (qA (pv 2) (qA (q3Q rfl T.aE2 (by kernel_rfl) rfl (v:=.ty "tuple")) qE))) (zI (uM u9 (jA jB (by rfl) T.aAS gX (qA (pv 2) qE)) qG (qP _)) (zI (uM (qJZ hr.units) (pv 2) (pv 1) (qP _)) (zH (qX (q96 T S).mono hr rfl T.aDD T.aDG S.aCA.b .nil qK (qA (qW yN (pv 2) qG (λ_ _=>rfl)) qE))))))))))),?_⟩
try dsimp-beta-proj-iota-zeta-eta only[wishK,cxK]
refine⟨λσ' H'=>∃v,σ'=[some (.ref x.s),some dv,some v]∧XX t H' x k sh sr r rl pp X∧Keep [t.e9,t.fA,r] H H'∧Due H' v (X.s.tk k X.g),?_,?_⟩
·refine(iV rfl (iM h.j.o rfl ⟨x,k,sh,sr,X.s,r,rl,X.g,rfl,h.j,ev,h.er,h.ru,h.of,rc,?_⟩));cases e:X.s.tk k X.g with
 |none=>refine λH' j' k'=>?_;intro ea hea;exact⟨_,T.i8,iteT ⟨_,rfl,h.kT k' j'.tb,k'.mono (by simp),rfl⟩⟩
 |some q=>
  obtain⟨y,b,g'⟩:=q;obtain rfl:=eg y b g' e;refine λp H' k' j' ru' hp=>⟨_,rfl,?_,k',p,rfl,hp⟩;obtain⟨ps,h1,h2⟩:=h.hp;have np:pp∉[t.e9,t.fA,r]:=λz=>by
   obtain⟨_,_,_,_,hB,_⟩:=h.j.tb;rcases kN.mp z with z|z
   ·exact h.np (by rw[z];exact kY)
   rcases kN.mp z with z|z
   ·rw[←z,h1]at hB;cases hB
   exact h.nr (by rw[kD.mp z];exact kY)
  exact⟨j',h.er,ru',h.of,h.ep,⟨ps,k'.k _ _ np h1,Paired.mapP h2 λ_ _ z=>z.keep k' (by simp)⟩,h.np,h.nr⟩
rintro σ' H1 ⟨v,rfl,h1,k1,dv1⟩
cases e:X.s.tk k X.g with
|none=>rw[e]at du dv1;obtain rfl:dv=.non:=du;obtain rfl:v=.non:=dv1;exact⟨_,rfl,rfl,_,rfl,iteT ⟨_,rfl,rfl,_,rfl,iteT ⟨_,rfl,rfl,kk _ h1 k1⟩⟩⟩
|some q=>
 rw[e]at du dv1;obtain⟨a,rfl,ha⟩:=du;obtain⟨a',rfl,ha'⟩:=dv1;have ha1:=k1.tp _ _ ha;refine⟨_,rfl,rfl,_,rfl,iteF ⟨_,rfl,rfl,_,rfl,iteF ?_⟩⟩;refine⟨_,rfl,.ref a',_,_,.type "tuple",_,rfl,rfl,.inl (.tup ha'),qJS,_,rfl,iteT ⟨_,rfl,a',_,rfl,.inr (SqT.of ha'),rfl,_,rfl,iteT ⟨_,rfl,_,rfl,?_,_,rfl,iteT ⟨_,rfl,iT (k:=1) (v:=_) (SqT.of ha') rfl ⟨_,rfl,.int _,kk _ h1 k1⟩⟩⟩⟩⟩;refine .tup (n:=5) (SqT.of ha') (SqT.of ha1) rfl λj u w hu hw=>?_;obtain rfl:u=w:=kZ (hu.symm.trans hw);match j with
 |0=>cases hu;exact .flat rfl
 |1=>cases hu;exact .flat rfl
 |j+2=>cases hu)
theorem qI6{X:Cx}{K:W.Frag}(e:X.K=K):SlR X (rSlT K):=e▸qJ3
theorem qG6{a:Addr}{us:List V}{L:List (List Int)}{D:Addr}{H H2:Hp}{g:TG}{tc:TT}{te:TE}{σ0:St}{R:Hp→Prop}(f:List Int→Bool)(cu:List Int→List Int)(ha:H a=some (.lst us))(pr:Paired (TupD H) us L)(lu:us.length<sizeLine)(nD:H D=none)(s2:Same H H2)(hD:H2 D=some (.lst []))
 (hs:∀x' d H' (N:V→Hp→Prop) (N':Hp→Prop),d∈L→Same H H'→H' x'=some (.tup (d.map V.int))→(f d=true→∀v H7,Same H' H7→TupD H7 v (cu d)→N v H7)→(f d=false→N' H')→g (.ref x') σ0 H' λσ5 H5=>tc σ5 H5 λb H6=>if b=true then te σ5 H6 N else N' H6)
 (hd:∀zs H',Same H H'→H' D=some (.lst zs)→Paired (TupD H') zs ((L.filter f).map cu)→R H'):
 ∃W:Nat→Nat→Hp→Prop,(∃m,W 0 m H2)∧∀i m H3,W i m H3→((Itl K a).stop i H3∧R H3)∨((Itl K a).go i H3∧∃N:Hp→Prop,(∀H',N H'→∃m',m'<m∧W (i+1) m' H')∧∀x H4,(Itl K a).yld i H3 x H4→g x σ0 H4 λσ5 H5=>tc σ5 H5 λb H6=>
   if b=true then te σ5 H6 (λv H7=>∃vs,H7 D=some (.lst vs)∧vs.length<sizeLine∧N (upd H7 D (.lst (vs++[v]))))else N H6):=by(
refine yV (K:=K) (xs:=us) (D:=D) (λi H'=>∃zs,Same H H'∧H' D=some (.lst zs)∧Paired (TupD H') zs (((L.take i).filter f).map cu)) ⟨[],s2,hD,.nil⟩ (λi H' hp=>by obtain⟨_,sm,_⟩:=hp;exact SqL.of (sm _ _ ha)) (λi y H' hy hp=>?_) (λH' hp=>?_)
·obtain⟨zs,sm,hz,pz⟩:=hp;obtain⟨d,hd',x',rfl,hx⟩:=Paired.at pr hy;obtain⟨il,rfl⟩:=kC.mp hd';have lz:zs.length<sizeLine:=by rw[pz.len,hG];refine gM (mC _ _) (gM ?_ lu);rw[gE,pr.len];lia
 refine hs x' L[i] H' _ _ (gH il) sm (sm _ _ hx) (λfd v H7 s7 hv=>⟨zs,s7 _ _ hz,lz,zs++[v],λb o e=>?_,qI,?_⟩) (λfd=>⟨zs,sm,hz,?_⟩)
 ·rw[qC (qF e nD)];exact s7 _ _ (sm _ _ e)
 ·rw[←kW il,gA,mU,kL fd,dD,mM];exact L2.Paired.snoc (Paired.mapP (uB pz s7) λx k z=>z.upd (s7 _ _ hz) (λ_ q=>by cases q)) (hv.upd (s7 _ _ hz) (λ_ q=>by cases q))
 rw[←kW il,gA,mU,kJ (by rw[fd];decide),dD,gU];exact pz
obtain⟨zs,sm,hz,pz⟩:=hp
rw[pr.len,gF]at pz
exact hd zs H' sm hz pz)
theorem qG7{a:Addr}{us:List V}{L:List Tl}{D:Addr}{H H2:Hp}{g:TG}{tc:TT}{te:TE}{σ0:St}{R:Hp→Prop}(f:Tl→Bool)(ha:H a=some (.lst us))(pr:Tls H us L)(lu:us.length<sizeLine)(nD:H D=none)(s2:Same H H2)(hD:H2 D=some (.lst []))
 (hs:∀x' d H' (N:V→Hp→Prop) (N':Hp→Prop),d∈L→Same H H'→H' x'=some (.tup (d.ns.map V.int))→(f d=true→N (.ref x') H')→(f d=false→N' H')→g (.ref x') σ0 H' λσ5 H5=>tc σ5 H5 λb H6=>if b=true then te σ5 H6 N else N' H6)
 (hd:∀zs H',Same H H'→H' D=some (.lst zs)→Tls H' zs (L.filter f)→R H'):
 ∃W:Nat→Nat→Hp→Prop,(∃m,W 0 m H2)∧∀i m H3,W i m H3→((Itl K a).stop i H3∧R H3)∨((Itl K a).go i H3∧∃N:Hp→Prop,(∀H',N H'→∃m',m'<m∧W (i+1) m' H')∧∀x H4,(Itl K a).yld i H3 x H4→g x σ0 H4 λσ5 H5=>tc σ5 H5 λb H6=>
   if b=true then te σ5 H6 (λv H7=>∃vs,H7 D=some (.lst vs)∧vs.length<sizeLine∧N (upd H7 D (.lst (vs++[v]))))else N H6):=by(
refine yV (K:=K) (xs:=us) (D:=D) (λi H'=>∃zs,Same H H'∧H' D=some (.lst zs)∧Tls H zs ((L.take i).filter f)) ⟨[],s2,hD,.nil⟩ (λi H' hp=>by obtain⟨_,sm,_⟩:=hp;exact SqL.of (sm _ _ ha)) (λi y H' hy hp=>?_) (λH' hp=>?_)
·obtain⟨zs,sm,hz,pz⟩:=hp;obtain⟨d,hd',x',rfl,hx⟩:=Paired.at pr hy;obtain⟨il,rfl⟩:=kC.mp hd';refine hs x' L[i] H' _ _ (gH il) sm (sm _ _ hx) (λfd=>⟨zs,hz,?_,zs++[.ref x'],λb o e=>?_,qI,?_⟩) (λfd=>⟨zs,sm,hz,?_⟩)
 ·rw[pz.len];refine gM (mC _ _) (gM ?_ lu);rw[gE,pr.len];lia
 ·rw[qC (qF e nD)];exact sm _ _ e
 ·rw[←kW il,gA,mU,kL fd,dD];exact L2.Paired.snoc pz ⟨x',rfl,hx⟩
 rw[←kW il,gA,mU,kJ (by rw[fd];decide),dD,gU];exact pz
obtain⟨zs,sm,hz,pz⟩:=hp
rw[pr.len,gF]at pz
exact hd zs H' sm hz (uC (Keep.same sm) (F:=[]) pz))
theorem qAO{H:Hp}{s:XS}:∀{L:List Nat} {zs:List V},Paired (TupD H) zs ((L.map (rowT s)).map (List.take 4))→Tls H zs (L.map s.tl)
| [],_,.nil=>.nil
|_::_,_,.cons h r=>.cons h (qAO r)
inductive spRg(t:Adr)(vs:List V)(H:Hp)(Q:VK)(E_:XK):Prop
|mk:∀x k sh sr r rl pp X kd KD p0 s4,∀n:Nat,vs=[.ref x.s,.ref x.c,.ref p0,.int k.sp,.ref kd]→KX t H x k sh sr r rl pp X kd KD n→k.ev=true→Pw X.s→X.s.lf≠some 0→n≤100→(X.g=.rk (λ_ _=>Tl.lv))→H p0=some (.lst [.int (X.s.q.B:Int),.int (X.s.q.P:Int),s4,.int (k.ie:Int)])→(∀H',KX t H' x k sh sr r rl pp X kd KD n→Keep [t.e9,t.fA,r] H H'→Q (.bl true) H')→spRg t vs H Q E_
theorem q4G(T:Txt K mg t)(S:Fns K t)(B:BmIn base mg):S.aA8.Ok0 P w mg base 15 (spRg t):=by(
refine S.aA8.F.ok0 yA λcdv A _ s H vs Q E hr h=>?_
obtain⟨x,k,sh,sr,r,rl,pp,X,kd,KD,p0,s4,n,rfl,h,ev,pw,dk,n9,eg,h0,kk⟩:=h
have s9:(99999:Nat)<sizeLine:=by decide
have hu:=q32 hr
have w:=h.d.w
have b2:=w.qs.ok.b2
have b7:=h.d.b7
have rcn:=h.rcn
refine⟨_,(qB (qV (i:=5) yA.nd rfl (Or.inr rfl) (qW qZ (pv 2) qG (λ_ _=>rfl))) (qB (qV (i:=6) yA.nd rfl (Or.inl rfl) (qX (q75 T S).mono hr rfl T.aCK T.aCH S.aAZ.b .nil qK (qA (pv 1) (qA (qW qZ (pv 2) qG (λ_ _=>rfl)) (qA (pv 5) (qA (pv 4) qE)))))) (qB (qV (i:=7) yA.nd rfl (Or.inr rfl) (qX (q5J T S).mono hr rfl T.aBZ T.aCB S.tX.b .nil qK (qA (pv 6) (qA (pv 5) (qA (qW qZ (pv 2) qG (λ_ _=>rfl)) qE))))) (qB (zK (i:=8) ["_law_pages","_law_most","_law_row"] [5,7] rfl (jF (pv 6)) (λ_ _ _ _ _=>(qU (i:=2) (show List.Nodup (["_law_pages","_law_most","_law_row"]:List Str)from by decide) rfl (Or.inl rfl))) (λ_ _ _ _ _=>(yF (PW.pt (q36 (qM u9 (qW (yL (K:=K) rfl) (pv 2) qG (λ_ _=>rfl)) (pv 0) (qP _)) (q0X (qM qBT (qW (yL (K:=K) rfl) (pv 2) qG (λ_ _=>rfl)) (pv 1) (qP _))))))) (λ_ _ _ _ _=>(qE1 (qI6 (K:=K) rfl) (pv 2) qGE (qGF qG))) (by kernel_rfl) (jD (by decide)) yA.nd rfl (Or.inl rfl)) (qB (qV (i:=9) yA.nd rfl (Or.inr rfl) (qQ u8 (jA (q4M rfl) (by rfl) T.aDS (by kernel_rfl) (qA (y6 ["_law_row"] [] rfl (jF (pv 6)) (λ_ _ _ _ _=>(qU (i:=0) (show List.Nodup (["_law_row"]:List Str)from by decide) rfl (Or.inl rfl))) (λ_ _ _ _ _=>zX) (λ_ _ _ _ _=>(qW (yL (K:=K) rfl) (pv 0) qG (λ_ _=>rfl))) (by kernel_rfl) (jD (by decide))) qE)) (pv 3))) (qB (zK (i:=10) ["_law_bound","_law_row"] [9] rfl (jF (pv 8)) (λ_ _ _ _ _=>(qU (i:=1) (show List.Nodup (["_law_bound","_law_row"]:List Str)from by decide) rfl (Or.inl rfl))) (λ_ _ _ _ _=>(yF (qM q1O (qW (yL (K:=K) rfl) (pv 1) qG (λ_ _=>rfl)) (pv 0) (qP _)))) (λ_ _ _ _ _=>(pv 1)) (by kernel_rfl) (jD (by decide)) yA.nd rfl (Or.inl rfl)) (qB (zK (i:=11) ["_law_pages","_law_row"] [5] rfl (jF (pv 10)) (λ_ _ _ _ _=>(qU (i:=1) (show List.Nodup (["_law_pages","_law_row"]:List Str)from by decide) rfl (Or.inl rfl))) (λ_ _ _ _ _=>(yF (qM q1O (qW (yL (K:=K) rfl) (pv 1) qG (λ_ _=>rfl)) (pv 0) (qP _)))) (λ_ _ _ _ _=>(pv 1)) (by kernel_rfl) (jD (by decide)) yA.nd rfl (Or.inl rfl)) (qB (jC (PW.pt (qBO (qM (qEP hr.units) (j0 (pv 0) T.fB T.i7 (uU T S B).mono hr S.fY.b .nil qK) (pv 8) (qP _)) (q8F (qM (qEP hr.units) (j0 (pv 0) T.fB T.o8 (zA T S B).mono hr S.i4.b .nil qK) (pv 11) (qP _))))) (qD (qL q7P)) qS) (qB (qV (i:=12) yA.nd rfl (Or.inl rfl) (jA jB (by rfl) T.aAS gX (qA (j0 (pv 1) T.fD T.aAB (q0G T S).mono hr S.tG.b .nil qK) qE))) (qD (qL (zI (qX (q7L T S B).mono hr rfl T.aC4 T.aCS S.aBF.b .nil qK (qA (pv 0) (qA (qB1 (qX (qBM T S).mono hr rfl T.aEA T.aD9 S.aD1.b .nil qK (qA (pv 11) (qA (pv 10) qE)))) qE))) (zH (uM u9 (jA jB (by rfl) T.aAS gX (qA (j0 (pv 1) T.fD T.aAB (q0G T S).mono hr S.tG.b .nil qK) qE)) (pv 12) (qP _))))))))))))))),?_⟩
try dsimp-beta-proj-iota-zeta-eta only[wishK,cxK]
refine⟨_,rfl,iL (k:=1) (v:=_) (SqL.of h0) rfl ?_⟩
refine⟨_,rfl,_,rfl,iL (k:=0) (v:=_) (SqL.of h0) rfl ⟨_,rfl,_,rfl,x,k,sh,sr,r,rl,pp,X,kd,KD,n,rfl,h,pw,dk,n9,λl us H1 n1 s1 h1 pr=>?_⟩⟩
refine⟨_,rfl,_,rfl,_,rfl,iL (k:=3) (v:=_) (SqL.of (s1 _ _ h0)) rfl ⟨l,us,k,X.s,rfl,h1,pr,w,λH2 s2=>?_⟩⟩
have lus:=pr.len
rw[hG,mG]at lus
have s02:=s1.trans s2
refine⟨_,rfl,l,rfl,⟨_,SqL.of (s2 _ _ h1)⟩,λD3 H3 n3 s3 hD3=>?_⟩
refine qG6 (λd=>decide (d.getD 4 0=(X.s.q.P:Int))&&decide (d.getD 1 0≤X.s.spc k)) (List.take 4) (s2 _ _ h1) (uB pr s2) (by lia) n3 s3 hD3 (λx' d H' N N' hd sm hx kt kf=>?_) (λz3 H4 sa ha pa=>?_)
·obtain⟨b,_,rfl⟩:=kP.mp hd;refine⟨_,rfl,iT (k:=4) (v:=.int (X.s.q.fi.getD b 0)) (SqT.of hx) rfl ⟨_,rfl,rfl,_,rfl,?_⟩⟩;have kt:(decide (X.s.q.fi.getD b 0=(X.s.q.P:Int))&&decide (X.s.q.lv.getD b 0≤X.s.spc k))=true→_:=kt;have kf:(decide (X.s.q.fi.getD b 0=(X.s.q.P:Int))&&decide (X.s.q.lv.getD b 0≤X.s.spc k))=false→_:=kf;rw[yG];by_cases z:X.s.q.fi.getD b 0=(X.s.q.P:Int)
 ·rw[hC z]at kt kf ⊢;refine iteT ⟨_,rfl,iT (k:=1) (v:=.int (X.s.q.lv.getD b 0)) (SqT.of hx) rfl ⟨_,rfl,iI ⟨_,rfl,?_⟩⟩⟩;by_cases y:X.s.q.lv.getD b 0≤X.s.spc k
  ·rw[hC y]at kt ⊢;refine iteT ?_;refine⟨_,rfl,4,rfl,x',_,rfl,SqT.of hx,λe=>absurd (show HT.sIx 5 5 (some 4)=5 from e.2) (by decide),λp np=>kt rfl _ _ (Same.upd np) ⟨p,rfl,qI⟩⟩
  rw[hU y]at kf ⊢;exact iteF (kf rfl)
 rw[hU z]at kf ⊢;exact iteF (iteF (kf rfl))
rw[c6]at pa
have pa:=qAO (L:=X.s.ful k) pa
have sA:=s02.trans sa
have hl4:=sa _ _ (s2 _ _ h1)
have pr4:=uB pr (s2.trans sa)
refine⟨_,rfl,l,rfl,⟨_,SqL.of hl4⟩,λD5 H5 n5 s5 hD5=>?_⟩
refine q6E (K:=K) (xs:=us) (D:=D5) (λi H6=>Same H4 H6∧H6 D5=some (.lst ((((List.range X.s.q.B).take i).map λb=>X.s.cl.getD b 0).map V.int))) ⟨s5,hD5⟩ (λi H6 hp=>SqL.of (hp.1 _ _ hl4)) (λi y H6 hy hp=>?_) (λH6 hp=>?_)
·obtain⟨sm,hd⟩:=hp;obtain⟨d,hd',x',rfl,hx⟩:=Paired.at pr4 hy;rw[mD]at hd';obtain⟨b,hb,rfl⟩:=mK.mp hd';obtain⟨hi,eb⟩:=kC.mp hb;refine⟨_,rfl,iT (k:=2) (v:=.int (X.s.cl.getD b 0)) (SqT.of (sm _ _ hx)) rfl ⟨_,hd,?_,λb o e=>?_,?_⟩⟩
 ·rw[hG,hG,gE,mG];lia
 ·rw[qC (qF e n5)];exact sm _ _ e
 rw[qI,←kW hi,mM,mM,eb];rfl
obtain⟨s6,h6⟩:=hp
rw[lus,wX (by rw[mG];exact kO _)]at h6
have bp:0<X.s.q.B:=by
 have:=h.d.hs;rcases Nat.eq_zero_or_pos X.s.q.B with z|z
 ·rw[z]at this;simp at this
 exact z
refine⟨D5,_,rfl,SqL.of h6,by rw[hG,mG];exact bp,λM hM le=>?_⟩
rw[qG4 w.lc bp hM le]
refine⟨_,rfl,iI ?_⟩
have ha6:=s6 _ _ ha
have lz3:=pa.len
rw[hG]at lz3
have fl:=(qBK w).2
have sB:=sA.trans s6
refine⟨_,rfl,D3,rfl,⟨_,SqL.of ha6⟩,λD7 H7 n7 s7 hD7=>?_⟩
refine qG7 (λd=>decide (d.cl<X.s.lst+k.sp)) ha6 (pa.same s6) (by lia) n7 s7 hD7 (λx' d H' N N' hd sm hx kt kf=>?_) (λz8 H8 s8 h8 p8=>?_)
·refine⟨_,rfl,iT (k:=2) (v:=.int d.cl) (SqT.of hx) rfl ⟨_,rfl,iI ⟨_,rfl,?_⟩⟩⟩;by_cases z:d.cl<X.s.lst+k.sp
 ·rw[hC z];exact iteT ⟨_,rfl,kt (hC z)⟩
 rw[hU z];exact iteF (kf (hU z))
rw[c6]at p8
have p8:Tls H8 z8 ((X.s.clb k (X.s.ful k)).map X.s.tl):=p8
have lz8:=p8.len
have cl8:(X.s.clb k (X.s.ful k)).length≤16:=mO (mC _ _) fl
rw[hG]at lz8
refine⟨_,rfl,D7,rfl,⟨_,SqL.of h8⟩,λD9 H9 n9' s9' hD9=>?_⟩
refine qG7 (λd=>decide (d.lv<(X.s.q.P:Int))) h8 p8 (by lia) n9' s9' hD9 (λx' d H' N N' hd sm hx kt kf=>?_) (λzb Hb sb hb pb=>?_)
·refine⟨_,rfl,iT (k:=1) (v:=.int d.lv) (SqT.of hx) rfl ⟨_,rfl,iI ⟨_,rfl,?_⟩⟩⟩;by_cases z:d.lv<(X.s.q.P:Int)
 ·rw[hC z];exact iteT ⟨_,rfl,kt (hC z)⟩
 rw[hU z];exact iteF (kf (hU z))
rw[c6]at pb
have eo:(X.s.clb k (X.s.ful k)).filter ((λd=>decide (d.lv<(X.s.q.P:Int))) ∘ X.s.tl)=X.s.opt k:=by unfold XS.opt XS.ded XS.clb;rw[kL ev,nM,nM];exact cJ λb _=>eO _ _
rw[eo]at pb
have pb:Tls Hb zb (X.s.ots k):=pb
have s68:=s8.trans sb
have sC:=sB.trans s68
have jb:=h.h.j.same sC
obtain⟨m,hs,c,_⟩:=jb.e
refine(iV rfl (iM jb.o rfl ⟨x,_,_,_,m,X.s.q,_,rfl,hs,c.ft,λlf p5 rs5 Hd hf np5 k5 tb5 hp5 ty5=>?_⟩))
have ty5:=q5S ty5
rw[c.br,c.cl]at hf
rw[c.br,qBG w hf,qFO c.cl]at ty5
have TD:∀{H':Hp} {D:Addr},TbF t H'→H' D=none→D∉[t.e9]:=fun {H' D} tb e z=>by obtain⟨_,e',_⟩:=tb;rw[←kD.mp z,e]at e';cases e'
have tb0:=h.h.j.tb
have nT3:=TD (tb0.same s02) n3
have nT7:=TD (tb0.same sB) n7
have nT9:=TD ((tb0.same sB).same s8) n9'
have k0d:Keep [t.e9] H Hd:=(Keep.same sC).trans k5
refine⟨_,rfl,qAN 4 hp5 (k5.k _ _ nT3 (s68 _ _ ha6)) (q4F ty5) (q4F (uC k5 ((pa.same s6).same s68))),_,rfl,iteF ?_⟩
have jd:=h.h.j.kT k0d tb5
refine(iV rfl (iM jd.o rfl ?_))
dsimp only[tNil,dC]
refine jd.opts ev λp6 rs6 He np6 je ke hp6 ty6=>?_
have kbe:Keep [t.e9] Hb He:=k5.trans ke
refine⟨_,rfl,qAN 4 hp6 (kbe.k _ _ nT9 hb) (q4F ty6) (q4F (uC kbe pb)),_,rfl,iteF ?_⟩
have k0e:Keep [t.e9] H He:=(Keep.same sC).trans kbe
have hxe:=h.h.kT k0e je.tb
obtain⟨me,hce,_,_,erc,_⟩:=hxe.chip
refine(iV rfl (iM hce.ins rfl ⟨x.c,x.a,me,rfl,hce,λds er7 pr7 dl Hf nf sf hf7=>⟨dl,_,rfl,.inl (SqL.of hf7),?_⟩⟩))
have ld:=pr7.len
have hxf:=hxe.same sf
have kbf:Keep [t.e9] Hb Hf:=kbe.trans (Keep.same sf)
have k0f:Keep [t.e9] H Hf:=k0e.trans (Keep.same sf)
refine⟨_,rfl,?_⟩
obtain⟨J,eJ⟩:∃J:VK,J=λv Hg=>Same Hf Hg∧Due Hg v (X.s.tk k X.g):=⟨_,rfl⟩
refine⟨J,?_,λdv Hg hj=>?_⟩
·rw[eJ,eg];refine⟨_,rfl,_,rfl,D9,zb,D7,z8,X.s.ots k,(X.s.clb k (X.s.ful k)).map X.s.tl,rfl,kbf.k _ _ nT9 hb,uC kbf pb,kbf.k _ _ nT7 (sb _ _ h8),uC kbf (p8.same sb),by rw[show X.s.ots k=(X.s.opt k).map X.s.tl from rfl,hG];exact qFP w,by rw[hG];exact cl8,λA bs p Hg np sg hp=>⟨sg,?_⟩,λe0=>⟨λA bs p Hg np sg hp=>⟨sg,?_⟩,λe1 Hg sg=>⟨sg,?_⟩⟩⟩
 ·rw[(qCQ bs).1];exact⟨p,rfl,by rw[hp];show some (HO.tup [_,V.int A.b])=some (HO.tup [_,V.int (A.b.toNat:Int)]);rw[(qCQ bs).2]⟩
 ·rw[((q8U ev e0).1 A bs).1];exact⟨p,rfl,by rw[hp];show some (HO.tup [_,V.int A.b])=some (HO.tup [_,V.int (A.b.toNat:Int)]);rw[((q8U (g:=.rk λ_ _=>Tl.lv) ev e0).1 A bs).2]⟩
 rw[(q8U ev e0).2 e1];rfl
rw[eJ]at hj
obtain⟨sg,du⟩:=hj
have hxg:=hxf.same sg
refine⟨x,k,sh,_,r,rl,pp,X,dv,rfl,hxg,ev,by lia,du,λy b g' e=>?_,λHh hxh kh=>⟨_,rfl,iteT ?_⟩⟩
·rw[eg]at e ⊢;rcases q0P (g:=.rk λ_ _=>Tl.lv) trivial e with⟨_,_,_,e'⟩|⟨_,_,_,e',_⟩<;>exact e'
obtain⟨mh,hch,_,_,erh,_⟩:=hxh.chip
refine(iV rfl (iM hch.ins rfl ⟨x.c,x.a,mh,rfl,hch,λds2 er8 pr8 dl2 Hi ni si hi=>⟨dl2,_,rfl,.inl (SqL.of hi),_,rfl,rfl,?_⟩⟩))
rw[pr8.len,erh,ld,erc,yG,hC rfl]
have k0i:Keep [t.e9,t.fA,r] H Hi:=((k0f.mono (by simp)).trans ((Keep.same sg).trans kh)).trans (Keep.same si)
exact kk Hi { h with h:=hxh.same si,hk:=k0i.k _ _ (λz=>h.nkF (by simp at z ⊢;rcases z with z|z|z<;>simp[z])) h.hk } k0i)
noncomputable def RE(H H':Hp):Prop:=∀b o,(∀ps,o≠ .tbl ps)→H b=some o→H' b=some o
theorem RE.keep{H Hi Hj:Hp}{F:List Addr}(r:RE H Hi)(k:Keep F Hi Hj)(f:∀b∈F,H b=none∨∃ps,H b=some (.tbl ps)):RE H Hj:=λb o nb e=>k.k b o (λz=>by
 rcases f b z with z|⟨ps,z⟩
 ·rw[z]at e;cases e
 rw[z]at e;exact nb ps (kZ e).symm) (r b o nb e)
theorem RE.same{H Hi Hj:Hp}(r:RE H Hi)(s:Same Hi Hj):RE H Hj:=λb o nb e=>s b o (r b o nb e)
theorem RE.sq{H Hi:Hp}{sa:Addr}{xs:List V}(r:RE H Hi)(h:SqL K H sa xs):SqL K Hi sa xs:=by(
rcases h with(h|⟨ob,h⟩)|h
·exact .inl (.inl (r _ _ (λ_ z=>by cases z) h))
·exact .inl (.inr ⟨ob,r _ _ (λ_ z=>by cases z) h⟩)
exact .inr h)
theorem RE.fr{H Hi:Hp}{b:Addr}(r:RE H Hi)(n:Hi b=none):H b=none∨∃ps,H b=some (.tbl ps):=by(
cases z:H b with
|none=>exact .inl rfl
|some o=>
 by_cases y:∃ps,o=.tbl ps
 ·obtain⟨ps,rfl⟩:=y;exact .inr ⟨ps,rfl⟩
 rw[r b o (λps e=>y ⟨ps,e⟩) z]at n;cases n)
theorem qG8{α:Type}[DecidableEq α]:∀{l m:List α},l.Nodup→(∀x∈l,x∈m)→l.length≤m.length
| [],_,_,_=>m9 _
|a::l,m,nd,h=>by obtain⟨n1,n2⟩:=gD.mp nd;have am:=h a kY;have:=qG8 (l:=l) (m:=m.erase a) n2 λx hx=>(xM (λz=>n1 (by rw[←z];exact hx))).mpr (h x (kB _ hx));rw[nY am]at this;have:=wV am;rw[mY];lia
structure Blk(m:CM)(B P:Nat)(cl:List Int)(rc:List (Str×Int×Bool)):Prop where
ok:m.Ok
bl:m.bl=(B:Int)
pg:m.pg=(P:Int)
br:m.br=noB B
li:∀b,valV m.lim (Sum.inl b)=none
mo:m.mo=1000000
lf:m.lf=none
cl:m.cl=cl
rc:m.rc=rc
bo:∀i,m.bo.getD i .non=.non
theorem Blk.new{B P:Nat}(b1:2≤B)(b2:B≤16)(p1:1≤P)(p2:P≤16):Blk (CM.new (B:Int) (P:Int) 1000000 []) B P (List.replicate B 0) []:=by(
refine⟨qJX (by lia) (by lia) (by lia) (by lia) (λb v e=>by cases e),rfl,rfl,?_,λb=>rfl,rfl,rfl,?_,rfl,λi=>rep8⟩
·show List.replicate (B:Int).toNat false=_;exact dO (λx=>List.replicate x false) (mH _)
show List.replicate (B:Int).toNat (0:Int)=_
exact dO (λx=>List.replicate x 0) (mH _))
theorem Blk.wip{m:CM}{B P b:Nat}{cl:List Int}{rc:List (Str×Int×Bool)}(h:Blk m B P cl rc)(hr:rc.length<1000000):Blk (wipC m b) B P (cl.set b (cl.getD b 0+1)) (rc++[(Str.ofString "wipe",(b:Int),true)]):=by(
refine⟨?_,h.bl,h.pg,h.br,h.li,h.mo,?_,?_,?_,λi=>?_⟩
·have okd:(m.deed "wipe" (b:Int) (b:Int) false).Ok:=h.ok.deed (by rw[h.rc];exact hr);refine⟨okd.bl1,okd.bl2,okd.pg1,okd.pg2,?_,?_,okd.ndc,okd.nbr,okd.lim,okd.nrc⟩
 ·show((clr m.bo _ _).length:Int)=_;rw[q3W];exact h.ok.nbo
 show((m.cl.set _ _).length:Int)=_;rw[gJ];exact h.ok.ncl
·show m.lf.map _=_;rw[h.lf];rfl
·show m.cl.set b (m.cl.getD b 0+1)=_;rw[h.cl]
·show m.rc++_=_;rw[h.rc];rfl
exact qCH (P:=λv=>v=.non) rfl h.bo _ _)
theorem qKN{H:Hp}{x:Sto}{k:Tm}{sh sr:Int}{r:Addr}{rl:List Addr}{pp:Addr}{B P:Nat}{g:Rl}{m:CM}{cl:List Int}{rc:List (Str×Int×Bool)}(st:StAt t H x (.int sh) (.int sr) (.int (k.ie:Int)) (.int k.sp) m (bk0 B P))(bk:Blk m B P cl rc)(er:x.ru=.ref r)(ru:RuX t H r rl g)(of:Off t x (r::rl))(ep:x.pa=.ref pp)(hp:H pp=some (.lst []))(np:pp∉t.e9::sf x)(nr:pp∉r::rl)(w:WX k (newH B P cl rc)):XX t H x k sh sr r rl pp ⟨newH B P cl rc,g,[]⟩:=⟨⟨⟨_,st,⟨⟨bk.ok,w.qs.ok,bk.bl,bk.pg⟩,bk.br,bk.li,bk.mo,bk.cl,bk.lf,bk.rc⟩,⟨λi _=>bk.bo i,λi v e=>by cases e⟩⟩,w⟩,er,ru,of,ep,⟨[],hp,.nil⟩,np,nr⟩
theorem qKO{H7 H8 HM:Hp}{sA sd tm td ch pa:Addr}{ca:CA}{kb:BkA}{ru:V}{m:CM}{R:List Addr}{o1 o2 o3:HO}(hc:ChipAt t.C_Chip H7 ch ca m)(htm:H7 tm=some o1)(hT:H7 t.e9=some o2)(hB:H7 t.fA=some o3)(nR:∀u∈R,H7 u=none)(eR:∀u∈R,∃o,H8 u=some o)(nA:H8 sA=none)(sM:Same H8 HM)(fk:∀b∈bf kb,HM b=none):Off t ⟨sA,sd,tm,td,ch,ca,kb,ru,.ref pa⟩ R:=λy hy hu=>by(
obtain⟨o,e8⟩:=eR y hu
have n7:=nR y hu
have hy:y=sA∨y=tm∨y=ca.li∨y=t.e9∨y=t.fA∨y∈foot ch ca∨y∈bf kb:=by simpa[sf]using hy
rcases hy with h|h|h|h|h|h|h
·rw[h,nA]at e8;cases e8
·rw[h,htm]at n7;cases n7
·obtain⟨o',e',_⟩:=hc.has (show ca.li∈ca.li::foot ch ca by simp);rw[←h,n7]at e';cases e'
·rw[h,hT]at n7;cases n7
·rw[h,hB]at n7;cases n7
·obtain⟨o',e',_⟩:=hc.has (kB ca.li h);rw[n7]at e';cases e'
rw[Same.free sM (fk y h)]at e8;cases e8)
theorem qKP(T:Txt K mg t)(S:Fns K t)(B:BmIn base mg):S.law.Ok0 P w mg base 19 (q4P K [t.e9,t.fA]):=by(
refine S.law.F.ok0 vY λcdv A _ s H vs Q E hr h=>?_
obtain⟨a,ns,rfl,hS,hlen,hT0,k⟩:=h
have hT:H t.e9=some (.tbl #[]):=hT0 _ (by simp)
have hTB:H t.fA=some (.tbl #[]):=hT0 _ (by simp)
have hu:=q32 hr
have s9:(99999:Nat)<sizeLine:=by decide
refine⟨_,(qB (qV (i:=1) vY.nd rfl (Or.inl rfl) (qX (q9B T S).mono hr rfl T.aDK T.aC8 S.aCF.b .nil qK (qA (pv 0) qE))) (qB (qV (i:=2) vY.nd rfl (Or.inl rfl) (qQ u8 qG (qQ yW (qX (jS T S).mono hr rfl T.fO T.fN S.fR.b .nil qK (qA (pv 0) (qA qG qE))) qG))) (qB (qV (i:=3) vY.nd rfl (Or.inl rfl) (q5L T.aE0 (q95 T S).mono hr rfl T.aEY S.aC5 S.aCU qK (qA (qW qZ (pv 1) qG (λ_ _=>rfl)) (qA (qW qZ (pv 1) qG (λ_ _=>rfl)) qE)))) (qB (uP g9 rfl (zG rfl T.tL (qA (jA (qD1 rfl) (by rfl) T.aE5 (by kernel_rfl) (qA qG (qA (qQ vE (qQ yW (qQ uD (qX (jS T S).mono hr rfl T.fO T.fN S.fR.b .nil qK (qA (pv 0) (qA qG qE))) qG) qG) qG) qE))) qE)) (qU (i:=4) vY.nd rfl (Or.inl rfl)) (qD (j8 (jV vM (pv 3) T.fD T.aCE (q4A T S).mono hr S.aA4.b .nil (qA (qQ yW (qQ uD (qQ uD (qX (jS T S).mono hr rfl T.fO T.fN S.fR.b .nil qK (qA (pv 0) (qA qG qE))) qG) (qQ u8 (pv 4) qG)) (qW qZ (pv 1) qG (λ_ _=>rfl))) qE))))) (qB (qV (i:=5) vY.nd rfl (Or.inl rfl) (q5L T.aEZ (q7J T S).mono hr rfl T.aEX S.aBD.b .nil qK (qA (pv 3) (qA (q5L T.aEO (q7G T S).mono hr rfl T.aEQ S.aDQ .nil qK (qA (qW qZ (pv 1) qG (λ_ _=>rfl)) (qA (qW qZ (pv 1) qG (λ_ _=>rfl)) (qA qG (qA (qW qZ (pv 1) qG (λ_ _=>rfl)) (qA (qW qZ (pv 1) qG (λ_ _=>rfl)) (qA (pv 2) qE))))))) (qA (qK0 T.aEE rfl T.aEG) qE))))) (qB (qV (i:=6) vY.nd rfl (Or.inl rfl) (qX (q9C T S).mono hr rfl T.aDJ T.aDB S.aB7.b .nil qK (qA (pv 0) (qA (qW qZ (pv 1) qG (λ_ _=>rfl)) qE)))) (qB (qV (i:=7) vY.nd rfl (Or.inl rfl) q3V) (qB (uP g9 rfl (jF (pv 6)) (qU (i:=8) vY.nd rfl (Or.inl rfl)) (qB (j8 (jV vM (pv 5) T.fB T.aBK (q2L T S B).mono hr S.tI.b .nil (qA (pv 8) (qA qG qE)))) (qD (q5M hu (pv 7) (pv 8) qG rfl)))) (qB (uP g9 rfl (q4I rfl T.tL (qA qG (qA (jA (q7S rfl) (by rfl) T.aDS (by kernel_rfl) (qA (jA jB (by rfl) T.aAS gX (qA (pv 0) qE)) (qA qG qE))) qE))) (qU (i:=4) vY.nd rfl (Or.inl rfl)) (qB (qV (i:=9) vY.nd rfl (Or.inl rfl) (qW qZ (pv 0) (pv 4) (λ_ _=>rfl))) (zW (jC (qM u9 (qQ yW (qQ uD (pv 9) qG) qG) qG (qP _)) (qD (j8 (jG (pv 3) T.fD T.aBR (q49 T S).mono hr S.o7.b .nil qK (qA (qQ yW (qQ uD (pv 9) qG) qG) qE)))) qS) (qB (qV (i:=10) vY.nd rfl (Or.inl rfl) (qX (qBL T S B).mono hr rfl T.aEB T.aEC S.aDU.b .nil qK (qA (pv 5) (qA (pv 7) (qA (qQ yW (pv 9) qG) (qA (qX (qAM T S).mono hr rfl T.aD5 T.aD3 S.aC0.b .nil qK (qA (qQ yW (qQ uY (qQ u8 (pv 9) (pv 4)) qG) qG) (qA (pv 6) qE))) (qA (qQ yW (pv 9) (qQ qDP qG qG)) qE))))))) (qB (j8 (j0 (pv 3) T.fD T.aCC (q4X T S).mono hr S.tM.b .nil qK)) (qD (jC (PW.pt (q36 (qM q7R (pv 10) uO (qP _)) (q0X (uG (yM (qX (q4G T S B).mono hr rfl T.aBJ T.aBL S.aA8.b .nil qK (qA (pv 5) (qA (pv 3) (qA (pv 1) (qA (pv 2) (qA (pv 7) qE))))))))))) (qD (qL q7P)) qS))))))) (qD (qL (qX (q4G T S B).mono hr rfl T.aBJ T.aBL S.aA8.b .nil qK (qA (pv 5) (qA (pv 3) (qA (pv 1) (qA (pv 2) (qA (pv 7) qE))))))))))))))))),?_⟩
try dsimp-beta-proj-iota-zeta-eta only[wishK,cxK]
refine⟨_,rfl,a,ns,rfl,hS,λc P1 i sh hc1 hc4 hP1 hP2 hi2 hs1 hs2 p0 H1 n0 s1 h1=>?_⟩
have hcp:c*P1≤4*4:=xN hc4 hP2
have sh14:sh≤14:=by lia
refine⟨_,rfl,a,ns,4,rfl,s1.seq hS,by decide,_,_,rfl,rfl,(by show(0:Int)<3;decide),iI ?_⟩
have c4:=vT (jT ns 4) 3 (by decide)
try dsimp only
obtain⟨w,ew⟩:∃w:Int,1+jT ns 4%3=w:=⟨_,rfl⟩
rw[ew]
have w1:1≤w:=by lia
have w3:w≤3:=by lia
clear c4 ew
refine⟨_,rfl,iL (k:=_) (v:=_) (SqL.of h1) rfl ⟨_,rfl,iL (k:=_) (v:=_) (SqL.of h1) rfl ?_⟩⟩
dsimp only[tNil]
refine qLO (by lia) (by lia) (by lia) (by lia) (by decide) (by decide) ?_
refine λch ca H3 hc sC fC=>?_
have s03:=s1.trans sC
have h03:=sC _ _ h1
have frC:∀b∈foot ch ca,H b=none∨∃ps,H b=some (.tbl ps):=λb hb=>.inl (s1.free (fC b (kB _ hb)))
have n0C:p0∉foot ch ca:=λz=>by have:=fC p0 (kB _ z);rw[h1]at this;cases this
have v4:=vT (jT ns 4 / 3) 9 (by decide)
refine⟨_,rfl,a,ns,4,rfl,s03.seq hS,by decide,_,_,rfl,rfl,⟨by decide,by decide⟩,iI ⟨(by show(0:Int)<9;decide),iI ⟨_,_,rfl,?_⟩⟩⟩
obtain⟨wn,ewn,wn3⟩:∃n:Nat,(if jT ns 4 / 3%9-5>0 then jT ns 4 / 3%9-5 else 0)=(n:Int)∧n≤3:=by
 by_cases z:jT ns 4 / 3%9-5>0
 ·exact⟨(jT ns 4 / 3%9-5).toNat,by rw[kL z];lia,by lia⟩
 exact⟨0,kJ z,by lia⟩
rw[ewn]
clear v4 ewn
refine⟨_,rfl,by lia,by lia,?_⟩
rw[mH]
refine q12 (λu σ' H'=>∃y4 m cl rc,σ'=[some (.ref a),some (.ref p0),some (.int w),some (.ref ch),y4,none,none,none,none,none,none]∧ChipAt t.C_Chip H' ch ca m∧Blk m (c+1+i) P1 cl rc∧Cw (c+1+i) cl rc∧rc.length=u∧Keep (foot ch ca) H3 H') ⟨_,_,_,_,rfl,hc,Blk.new (by lia) (by lia) hP1 (by lia),Cw.zero,rfl,Keep.refl⟩ (λu σ' H' D' nxt hu' hp=>?_) (λσ' H4 hp=>?_)
·obtain⟨y4,m,cl,rc,rfl,hcu,bk,cw,lr,ku⟩:=hp;have hSu:=((show RE H H3 from λb o _ e=>s03 b o e).keep ku frC).sq hS;have h0u:=ku.k _ _ n0C h03;have clb:=(cw.c0 ((jT ns 4 / 27 / (0+(u:Int)+1)%((c+1+i:Nat):Int)).toNat)).2;have mv:=vT (jT ns 4 / 27 / (0+(u:Int)+1)) ((c+1+i:Nat):Int) (by lia);refine(iV rfl (iM hcu.ins rfl ⟨_,rfl,a,ns,4,rfl,hSu,by decide,_,_,rfl,rfl,⟨by decide,by decide⟩,_,rfl,iI (iI ⟨⟨by lia,by lia⟩,_,rfl,iL (k:=_) (v:=_) (SqL.of h0u) rfl (iI ⟨(by show(0:Int)<((c+1+i:Nat):Int);lia),?_⟩)⟩)⟩));try dsimp only
 obtain⟨b,eb⟩:∃b:Nat,jT ns 4 / 27 / (0+(u:Int)+1)%((c+1+i:Nat):Int)=(b:Int):=⟨_,(Int.toNat_of_nonneg mv.1).symm⟩;rw[eb]at clb mv ⊢;rw[mH]at clb;refine⟨ch,ca,m,b,rfl,hcu,bk.ok,by rw[bk.rc];lia,⟨λb=>by rw[bk.br];exact rep8,bk.li⟩,by rw[bk.bl];lia,by rw[bk.mo,bk.cl];lia,λz=>absurd (bk.lf.symm.trans z) (by simp),λ_ Hn hn kn=>?_⟩;exact nxt _ _ ⟨_,_,_,_,rfl,hn,bk.wip (by lia),cw.wip (by lia),by rw[mL,lr];rfl,ku.trans kn⟩
obtain⟨y4,m,cl,rc,rfl,hc4',bk,cw,lr,k4⟩:=hp
have h04:=k4.k _ _ n0C h03
refine⟨_,rfl,_,rfl,iL (k:=_) (v:=_) (SqL.of h04) rfl ⟨_,rfl,iL (k:=_) (v:=_) (SqL.of h04) rfl ⟨_,rfl,iL (k:=_) (v:=_) (SqL.of h04) rfl ⟨_,rfl,iL (k:=_) (v:=_) (SqL.of h04) rfl ⟨_,rfl,?_⟩⟩⟩⟩⟩
dsimp only[tNil,wO,dC]
refine qLP (by lia) (by lia) (by lia) (by lia) (by decide) (by decide) (by lia) (by rw[show((c+1+i:Nat):Int)-1-(i:Int)=(c:Int) by lia,←dE];lia) (by lia) (by lia) (by lia) (by lia) ?_
intro tm td H7 s7 htm
have rt7:RE H H7:=((show RE H H3 from λb o _ e=>s03 b o e).keep k4 frC).same s7
have nTC:∀{T:Addr},H T=some (.tbl #[])→T∉foot ch ca:=fun {T} hT z=>by have:=fC _ (kB _ z);rw[s1 _ _ hT]at this;cases this
have hT7:=s7 _ _ (k4.k _ _ (nTC hT) (s03 _ _ hT))
have hTB7:=s7 _ _ (k4.k _ _ (nTC hTB) (s03 _ _ hTB))
have h07:=s7 _ _ h04
have hc7:=hc4'.same s7
refine λru dr nru ndr ner=>?_
have s8:Same H7 (upd (upd H7 dr (.own ru)) ru (.ins t.C_Fewest dr [])):=q8O nru ndr
have hR8:RuX t (upd (upd H7 dr (.own ru)) ru (.ins t.C_Fewest dr [])) ru [] (.rk λ_ _=>Tl.lv):=⟨dr,qI,rfl⟩
generalize upd (upd H7 dr (.own ru)) ru (.ins t.C_Fewest dr [])=H8 at s8 hR8 ⊢
refine λsA sd nA nsd nn=>?_
have sM:Same H8 (upd (upd H8 sd (.own sA)) sA (.ins t.C_Even sd [])):=q8O nA nsd
have tb8:TbF t H8:=⟨#[],s8 _ _ hT7,.inl rfl,#[],s8 _ _ hTB7,.inl rfl⟩
refine⟨sA,sd,tm,td,ch,ca,_,_,_,_,_,m,c+1+i,P1,rfl,qI,sM _ _ (s8 _ _ htm),(hc7.same s8).same sM,bk.bl,bk.pg,by lia,tb8.same sM,λkb pp H9 st9 hp9 npp fk off up=>⟨rfl,?_⟩⟩
have s89:Same H8 H9:=λb o e=>up b o (qF e nA) (sM b o e)
have s79:=s8.trans s89
obtain⟨_,_,_,er8⟩:=hR8.ins
have npp8:H8 pp=none:=Same.free sM npp
obtain⟨kt,ekt⟩:∃kt:Tm,kt=⟨i,w,true⟩:=⟨_,rfl⟩
obtain⟨ix0,ge0⟩:=qHQ (k:=⟨i,1,false⟩) (B:=c+1+i) (P:=P1) (cl:=cl) (rc:=rc) (by lia) hP1 (by lia) (by show 1+i< _;lia) (by show(1:Int)≤1;decide) rfl cw.lc cw.c0
have w0:WX kt (newH (c+1+i) P1 cl rc):=by rw[ekt];have w:=ix0.w;exact⟨w.qs,w.on,w.lc,w.cr,w.vl,w.pd,w.c0,w.bo,w.nx,w.sl,w.l6,w.l0⟩
obtain⟨X,eX⟩:∃X:Sto,X=⟨sA,sd,tm,td,ch,ca,kb,.ref ru,.ref pp⟩:=⟨_,rfl⟩
have of:Off t X [ru]:=by rw[eX];exact qKO hc7 htm hT7 hTB7 (λu hu=>by rw[kD.mp hu];exact nru) (λu hu=>by rw[kD.mp hu];exact⟨_,er8⟩) nA sM fk
rw[←eX]at st9 off
have hx9:XX t H9 X kt 64 (sh:Int) ru [] pp ⟨newH (c+1+i) P1 cl rc,.rk λ_ _=>Tl.lv,[]⟩:=qKN (by rw[ekt];exact st9) bk (by rw[eX]) (hR8.keep (Keep.same s89) (F:=[]) (by simp)) of (by rw[eX]) hp9 off (λz=>by rw[kD.mp z,er8]at npp8;cases npp8) w0
have frX:∀b∈fx t X ru pp,H b=none∨∃ps,H b=some (.tbl ps):=by
 intro b hb;rw[eX]at hb;have hb:b=pp∨b=ru∨b=t.fA∨b=t.e9∨b∈foot ch ca∨b∈bf kb:=by simpa[sf]using hb
 rcases hb with hb|hb|hb|hb|hb|hb
 ·exact rt7.fr (by rw[hb];exact s8.free npp8)
 ·exact rt7.fr (by rw[hb];exact nru)
 ·exact .inr ⟨_,by rw[hb];exact hTB⟩
 ·exact .inr ⟨_,by rw[hb];exact hT⟩
 ·exact frC b hb
 exact rt7.fr (s8.free (Same.free sM (fk b hb)))
have h09:=s79 _ _ h07
have rt9:=rt7.same s79
refine⟨_,rfl,_,rfl,iL (k:=2) (v:=_) (SqL.of h09) rfl ⟨a,ns,sh,rfl,rt9.sq hS,sh14,λms lms bms nl HN nN sN hN=>?_⟩⟩
refine λkd nkd=>?_
have sK:Same HN (upd HN kd (.dK [])):=Same.upd nkd
have hkd:(upd HN kd (.dK [])) kd=some (.dK []):=qI
generalize upd HN kd (.dK [])=HA at sK hkd ⊢
have kin:kd∉X.a.li::fx t X ru pp:=λz=>by
 have hxN:=hx9.same sN;rcases kN.mp z with z|z
 ·obtain⟨m,hc',_⟩:=hxN.chip;obtain⟨o,e,_⟩:=hc'.has (show X.a.li∈X.a.li::foot X.c X.a by simp);rw[←z,nkd]at e;cases e
 obtain⟨o,e⟩:=hxN.inF kd z;rw[nkd]at e;cases e
have nlF:nl∉kd::fx t X ru pp:=λz=>by
 rcases kN.mp z with z|z
 ·rw[←z,hN]at nkd;cases nkd
 obtain⟨o,e⟩:=hx9.inF nl z;rw[nN]at e;cases e
have gz0:Gz (c+1+i) cl 3:=⟨λb _=>by have:=(cw.c0 b).2;lia,λb _=>by have:=(cw.c0 b).1;lia⟩
have kx0:KX t HA X kt 64 sh ru [] pp ⟨newH (c+1+i) P1 cl rc,.rk λ_ _=>Tl.lv,[]⟩ kd [] 1:=by
 refine⟨(hx9.same sN).same sK,⟨w0,trivial,⟨3,gz0⟩,bU,λy hy=>absurd hy (by simp),λn _=>?_,m9 _,?_,by lia,by lia,(by show c+1+i≤7;lia),hP2⟩,hkd,kin,by simp,(by show rc.length≤2600*1;lia),m9 _⟩
 ·show(∃p,(n,p)∈([]:Mp))↔_;simp
 show sh+2≤(c+1+i-(1+kt.ie))*P1;rw[ekt];show sh+2≤(c+1+i-(1+i))*P1;rw[show c+1+i-(1+i)=c by lia];exact hs2
have pw0:Pw (newH (c+1+i) P1 cl rc):=qHR cw
have n0F:p0∉kd::fx t X ru pp:=λz=>by
 rcases kN.mp z with z|z
 ·rw[←z,sN _ _ h09]at nkd;cases nkd
 rw[eX]at z;have z:p0=pp∨p0=ru∨p0=t.fA∨p0=t.e9∨p0∈foot ch ca∨p0∈bf kb:=by simpa[sf]using z
 rcases z with z|z|z|z|z|z
 ·rw[←z,s8 _ _ h07]at npp8;cases npp8
 ·rw[←z,h07]at nru;cases nru
 ·rw[z,hTB]at n0;cases n0
 ·rw[z,hT]at n0;cases n0
 ·exact n0C z
 have:=fk _ z;rw[sM _ _ (s8 _ _ h07)]at this;cases this
have frF:∀b∈kd::fx t X ru pp,H b=none∨∃ps,H b=some (.tbl ps):=λb hb=>by
 rcases kN.mp hb with e|hb
 ·rw[e];exact(rt9.same sN).fr nkd
 exact frX b hb
have h0A:=sK _ _ (sN _ _ h09)
have hNA:=sK _ _ hN
have rtA:RE H HA:=(rt9.same sN).same sK
have ev:kt.ev=true:=by rw[ekt]
have eie:kt.ie=i:=by rw[ekt]
have esp:kt.sp=w:=by rw[ekt]
have rm0:(newH (c+1+i) P1 cl rc).rmX=(c+1+i)*P1:=qHK
have lf0:(newH (c+1+i) P1 cl rc).lf=none:=rfl
have eB0:(newH (c+1+i) P1 cl rc).q.B=c+1+i:=rfl
have eP0:(newH (c+1+i) P1 cl rc).q.P=P1:=rfl
rw[show sA=X.s by rw[eX],show ch=X.c by rw[eX]]
generalize newH (c+1+i) P1 cl rc=s0 at kx0 pw0 lf0 eB0 eP0 rm0
clear hx9 st9 off hp9 npp fk up sM tb8 hc7 s7 htm sC fC hc s1 h1 nsd nn nA nru s89 s79 npp8 of er8 hR8 h07 h09 hT7 hTB7 rt7 rt9 nTC s8 ndr ner k4 h04 hc4' bk cw gz0 w0 ix0 ge0 frC n0C h03 s03 kin sK sN nkd nN hkd hN frX
obtain⟨F,eF⟩:∃F:Option V→Option V→Option V→Option V→St,F=λy4 y8 y9 y10=>[some (.ref a),some (.ref p0),some (.int w),some (.ref X.c),y4,some (.ref X.s),some (.ref nl),some (.ref kd),y8,y9,y10]:=⟨_,rfl⟩
obtain⟨L0,eL0⟩:∃L0:HO,L0=.lst [.int ((c+1+i:Nat):Int),.int (P1:Int),.int (sh:Int),.int (i:Int)]:=⟨_,rfl⟩
rw[←eL0]at h0A
refine⟨_,rfl,nl,rfl,⟨_,SqL.of hNA⟩,?_⟩
refine q8C (K:=K) (xs:=ms.map V.int) (λu σ' H'=>∃y8 Y KD,σ'=F y4 y8 none none∧KX t H' X kt 64 sh ru [] pp Y kd KD (u+1)∧Pw Y.s∧Y.s.lf=none∧Y.s.q.B=c+1+i∧Y.s.q.P=P1∧Y.g=.rk (λ_ _=>Tl.lv)∧Y.s.rmX+u=(c+1+i)*P1∧KD.length≤u∧(∀m∈KD.map (·.1),m∈ms)∧H' nl=some (.lst (ms.map V.int))∧H' p0=some L0∧RE H H') ⟨none,_,[],by rw[eF];rfl,kx0,pw0,lf0,eB0,eP0,rfl,rm0,kO _,by simp,hNA,h0A,rtA⟩ (λu σ' H' hi hp=>by obtain⟨_,_,_,_,_,_,_,_,_,_,_,_,_,hN,_⟩:=hp;exact SqL.of hN) (λu v σ' H2 D' nxt hv hp=>?_) (λσ' H2 hp=>?_)
·obtain⟨y8,Y,KD,eσ,h,pw,lf,eB,eP,eg,erm,ld,sub,hN,h0,rt⟩:=hp;rw[eF]at eσ;subst eσ;rw[mD]at hv;obtain⟨y,hy,rfl⟩:=mK.mp hv;have hu':=(kC.mp hy).1;have ym:=gP hy;obtain⟨y0',y1⟩:=bms y ym;have rcn:=h.rcn;have psn:=h.psn;have y2:y∈KD.map (·.1)∨KD.length<sh:=.inr (by lia);have hc:=h.d.can y0' y1 y2;have rd:Y.s.rd kt=true:=hC (by rw[eie,eP];rw[dN,dN]at erm;rw[dN];lia);have ff:¬(hold Y.s.q y=false∧(sh:Int)≤((hdN Y.s.q.V).length:Int)):=λ⟨f1,f2⟩=>by have pl:=h.d.pm.length_eq;rw[hG]at pl;have f2:(sh:Int)≤((((Y.s.q.V.map (·.1)).filter λn=>decide (n≠64)).length:Nat):Int):=f2;lia
 have eZ:=qHT (i:=150) (n:=y) (v:=1) rd lf;have rd':=mP rd;rw[dN,rO]at rd';have rm1:=(h.d.w.put (n:=y) (v:=1) (by lia) y0' (by lia) (hc.imp id λw=>w.1) (by rw[lf];simp)).2;rcases h.d.ask (n:=y) (v:=1) ev (by lia) y0' (by lia) hc with⟨Z,p,hZ,a⟩|⟨Z,e,hZ,a⟩
 ·rw[eZ]at hZ;cases hZ;refine(iV rfl (iM h.h.j.o rfl ⟨_,rfl,X,kt,64,_,ru,[],pp,Y,y,1,150,_,rfl,h.h,ev,by lia,by lia,by decide,inBi y0' (by lia),inBi (by decide) (by decide),ff,hc.imp id λw=>w.1,eZ,λH3 h3 k3=>?_⟩));have hk3:=k3.k _ _ h.nkF h.hk;refine⟨_,rfl,_,rfl,kd,_,rfl,.inl ⟨_,Sum.inl y,hk3,rfl,by unfold dI;rw[hG];lia,rfl⟩,?_⟩;rw[q8S];have arl:=a.rl;have apl:=a.pl;have g:=h.set h3 k3 (h.d.wrote (v:=1) y0' y1 y2 a) (n':=u+1+1) (by lia) (by lia);have kU:=(k3.mono (F':=kd::fx t X ru pp) λy hy=>kB _ hy).trans (Keep.upd (o:=.dK (dI (putW KD y 1))) hk3 (λ_ z=>by cases z) (by simp));refine nxt _ _ ⟨_,_,_,by rw[eF];rfl,g,q3B.ask h.d.w h.d.ok y0' (by lia) eZ pw,(by show Y.s.lf.map _=none;rw[lf];rfl),a.eB.trans eB,a.eP.trans eP,eg,by lia,?_,λm hm=>?_,kU.k _ _ nlF hN,kU.k _ _ n0F h0,rt.keep kU frF⟩
  ·unfold putW;split
   ·rw[hG];lia
   rw[mL];exact wA ld 1
  obtain⟨q,hq,e⟩:=kP.mp hm;rw[q0M h.d.nd,j9]at hq;rcases hq with rfl|hq
  ·rw[←e];exact ym
  exact sub m (kP.mpr ⟨q,hq.1,e⟩)
 rw[eZ]at hZ;cases hZ
obtain⟨y8,Y0,KD0,eσ,h,pw,lf,eB,eP,eg,_,_,sub,hN,h0,rt⟩:=hp
rw[eF]at eσ
subst eσ
rw[hG,lms]at h
refine⟨_,rfl,a,_,rfl,.inl (rt.sq hS),_,_,rfl,?_⟩
obtain⟨hi,eh,h38,hln⟩:∃h:Nat,(if(38:Int)<((ns.map V.int).length:Nat)then(38:Int)else((ns.map V.int).length:Nat))=(h:Int)∧h≤38∧h≤ns.length:=by
 rw[hG];by_cases z:(38:Int)<(ns.length:Nat)
 ·exact⟨38,kL z,by lia,by lia⟩
 exact⟨ns.length,kJ z,by lia,by lia⟩
rw[eh]
refine⟨_,_,rfl,⟨by decide,by decide,by lia,by lia⟩,?_⟩
have sub3:∀y∈[t.e9,t.fA,ru],y∈kd::fx t X ru pp:=λy hy=>by simp at hy ⊢;rcases hy with z|z|z<;>simp[z]
have subC:∀y∈foot X.c X.a,y∈kd::fx t X ru pp:=λy hy=>by simp[sf,hy]
have rg:∀{H':Hp} {Y:Sx} {KD:Mp} {n:Nat} {Q':VK} {E':XK},KX t H' X kt 64 sh ru [] pp Y kd KD n→Pw Y.s→Y.s.lf=none→n≤100→Y.s.q.B=c+1+i→Y.s.q.P=P1→Y.g=.rk (λ_ _=>Tl.lv)→H' p0=some L0→(∀H2,KX t H2 X kt 64 sh ru [] pp Y kd KD n→Keep [t.e9,t.fA,ru] H' H2→Q' (.bl true) H2)→spRg t [.ref X.s,.ref X.c,.ref p0,.int w,.ref kd] H' Q' E':=by intro H' Y KD n Q' E' h pw lf n9 eB eP eg h0 kk;exact⟨X,kt,64,sh,ru,[],pp,Y,kd,KD,p0,_,n,by rw[esp],h,ev,pw,by rw[lf];simp,n9,eg,by rw[eB,eP,eie];exact h0.trans (by rw[eL0]),kk⟩
refine q12 (λu σ' H'=>∃y4 y8 y9 y10 Y KD n,σ'=F y4 y8 y9 y10∧n≤sh+1+u∧KX t H' X kt 64 sh ru [] pp Y kd KD n∧Pw Y.s∧Y.s.lf=none∧Y.s.q.B=c+1+i∧Y.s.q.P=P1∧Y.g=.rk (λ_ _=>Tl.lv)∧(∀m∈KD.map (·.1),m∈ms)∧H' nl=some (.lst (ms.map V.int))∧H' p0=some L0∧RE H H') ⟨_,_,none,none,Y0,KD0,_,by rw[eF],kO _,h,pw,lf,eB,eP,eg,sub,hN,h0,rt⟩ (λu σ' H3 D' nxt hu' hp=>?_) (λσ' H3 hp=>?_)
·clear h pw lf eB eP eg sub hN h0 rt;obtain⟨y4,y8,y9,y10,Y,KD,n,eσ,nu,h,pw,lf,eB,eP,eg,sub,hN,h0,rt⟩:=hp;rw[eF]at eσ;subst eσ;have hi6:6+u<ns.length:=by lia
 have at1:atI (ns.map V.int) (6+(u:Int))=some (.int ns[6+u]):=by refine(show atI (ns.map V.int) ((6+u:Nat):Int)=_ from yK ?_);rw[mD,kE hi6];rfl
 generalize ns[6+u]=z at at1;refine⟨_,rfl,_,rfl,a,_,_,.int z,rfl,rfl,rt.sq hS,at1,?_⟩;obtain⟨m,hc,_,elf,_,_,_,_,_,nx⟩:=h.h.chip;refine⟨λσ' H'=>∃l,σ'=F (some (.int (6+(u:Int)))) y8 (some (.int z)) y10∧KX t H' X kt 64 sh ru [] pp ⟨{ Y.s with lf:=l },Y.g,Y.ps⟩ kd KD n∧H' nl=some (.lst (ms.map V.int))∧H' p0=some L0∧RE H H',?_,?_⟩
 ·refine⟨_,rfl,iI ⟨⟨by decide,by decide⟩,iI ⟨(by show(0:Int)<3;decide),rfl,_,rfl,ite2 (λ_=>?_) (λ_=>?_)⟩⟩⟩
  ·have mv:=vT (z / 24) 6 (by decide);refine(iV rfl (iM hc.ins rfl ⟨_,rfl,iI ⟨⟨by decide,by decide⟩,iI ⟨(by show(0:Int)<6;decide),X.c,X.a,m,_,rfl,hc,mv.1,by lia,λH3 h3 k3=>?_⟩⟩⟩));have hl:∀j,some (z / 24%6)=some j→0≤j:=λj e=>by injection e with e;rw[←e];exact mv.1
   exact⟨_,by rw[eF];rfl,h.lf hl (nx _ hl H3 h3 k3) k3,k3.k _ _ (λz=>nlF (subC _ z)) hN,k3.k _ _ (λz=>n0F (subC _ z)) h0,rt.keep (k3.mono subC) frF⟩
  exact⟨Y.s.lf,by rw[eF];rfl,h,hN,h0,rt⟩
 rintro σ' H4 ⟨l,eσ,h4,hN4,h04,rt4⟩
 rw[eF]at eσ;subst eσ;have pw4:Pw { Y.s with lf:=l }:=⟨⟨pw.1.1,pw.1.2,pw.1.3,pw.1.4,pw.1.5,pw.1.6⟩,⟨pw.2.1,pw.2.2,pw.2.3⟩⟩;refine⟨_,rfl,_,rfl,_,rfl,iI ⟨(by show(0:Int)<8;decide),_,rfl,_,rfl,iI (iI ⟨.inr ⟨by decide,by decide⟩,iI ⟨(by show(0:Int)<1000003;decide),_,rfl,nl,ms,_,rfl,hN4,by lia,by lia,λy ym=>?_⟩⟩)⟩⟩;obtain⟨y0',y1⟩:=bms y ym;have y2:y∈KD.map (·.1)∨KD.length<sh:=by
  by_cases zz:y∈KD.map (·.1)
  ·exact .inl zz
  have:=qG8 (l:=y::KD.map (·.1)) (m:=ms) (gD.mpr ⟨zz,h.d.nd⟩) (λx hx=>by
   rcases kN.mp hx with e|hx
   ·rw[e];exact ym
   exact sub x hx)
  rw[mY,hG]at this;exact .inr (by lia)
 have mv:=vT z (10 ^ (30:Int).toNat) (by decide);refine⟨_,rfl,iI ⟨⟨by decide,by decide,by decide⟩,iI ⟨(by show(0:Int)<10 ^ (30:Int).toNat;decide),X,kt,64,sh,ru,[],pp,_,kd,KD,n,_,y,_,rfl,h4,ev,by lia,pw4,by lia,y0',y1,y2,mv.1,by have:_ <(10:Int) ^ 30:=mv.2;lia,λwd Z KD' H5 h5 k5 pw5 eB5 eP5 sub5 eg5=>?_⟩⟩⟩;obtain⟨m5,hc5,_,elf5,erc5,_,_,_,_,nx5⟩:=h5.h.chip;refine(iV rfl (iM hc5.ins rfl ⟨X.c,X.a,m5,rfl,hc5,λH6 h6 k6=>?_⟩));have hl:∀j,(none:Option Int)=some j→0≤j:=λj e=>by cases e
 have h6':=h5.lf hl (nx5 _ hl H6 h6 k6) k6;have k46:=k5.trans (k6.mono subC);have pw6:Pw { Z.s with lf:=none }:=⟨⟨pw5.1.1,pw5.1.2,pw5.1.3,pw5.1.4,pw5.1.5,pw5.1.6⟩,⟨pw5.2.1,pw5.2.2,pw5.2.3⟩⟩;have sub6:∀m∈KD'.map (·.1),m∈ms:=λm hm=>by
  rcases sub5 m hm with e|e
  ·rw[e];exact ym
  exact sub m e
 have eB6:Z.s.q.B=c+1+i:=eB5.trans eB;have eP6:Z.s.q.P=P1:=eP5.trans eP;have eg6:Z.g=.rk (λ_ _=>Tl.lv):=eg5 _ eg;refine⟨_,rfl,rfl,_,rfl,?_⟩;refine ite2 (λ_=>?_) (λ_=>?_)
 ·refine⟨_,rfl,_,rfl,_,rfl,_,rfl,_,rfl,?_⟩;dsimp only[tNil,wO,dC];refine rg h6' pw6 rfl (by lia) eB6 eP6 eg6 (k46.k _ _ n0F h04) λH7 h7 k7=>⟨_,rfl,iteF ?_⟩;have k47:=k46.trans (k7.mono sub3);exact nxt _ _ ⟨_,_,_,_,_,KD',n+1,by rw[eF];rfl,by lia,h7,pw6,rfl,eB6,eP6,eg6,sub6,k47.k _ _ nlF hN4,k47.k _ _ n0F h04,rt4.keep k47 frF⟩
 exact iteF (nxt _ _ ⟨_,_,_,_,_,KD',n+1,by rw[eF];rfl,by lia,h6',pw6,rfl,eB6,eP6,eg6,sub6,k46.k _ _ nlF hN4,k46.k _ _ n0F h04,rt4.keep k46 frF⟩)
clear h pw lf eB eP eg sub hN h0 rt
obtain⟨y4,y8,y9,y10,Y,KD,n,eσ,nu,h,pw,lf,eB,eP,eg,sub,hN,h0,rt⟩:=hp
rw[eF]at eσ
subst eσ
refine⟨_,rfl,_,rfl,_,rfl,_,rfl,_,rfl,?_⟩
dsimp only[tNil,wO,dC]
exact rg h pw lf (by lia) eB eP eg h0 λH7 h7 k7=>k _)
theorem qKQ{P:Program}{w:World}{K:W.Frag}{mg:Str→Option Value}{t:Adr}(T:Txt K mg t)(S:Fns K t)(B:BmIn base mg):S.law.Ok0 P w mg base 19 (q4P K [t.e9,t.fA]):=Classical.byContradiction λn=>by
 have hs:hkB hkE:=by unfold hkE;exact Classical.epsilon_spec ⟨⟨P,w,K,mg,t⟩,S,base,T,B,n⟩
 obtain⟨S',b',T',B1,n'⟩:=hs;exact n' (qKP T' S' B1)
end
theorem qKR{l:W.OpenLaw}{w:World}{K:W.Frag}{h:Heap}{mg:Str→Option Value}{fa z0 z1 z2 z3 z4 z5 z6 z7 z8 z9 z10 z11 z12 z13 z14 z15 z16 z17 z18 z19 z20 z21 z22 z23 z24 z25 z26 z27 z28 z29 z30 z31 z32 z33 z34 z35 z36 z37 z38 z39 z40 z41 z42 z43 z44 z45 z46 z47 z48 z49 z50 z51 z52 z53 z54 z55 z56 z57 z58 z59 z60 z61 z62 z63 z64 z65 z66 z67 z68 z69 z70 z71 z72 z73 z74 z75 z76 z77 z78 z79 z80 z81 z82 z83 z84 z85 z86 z87 z88 z89 z90 z91 z92 z93 z94 z95:Addr}(X:K.In h)(G:h.Ns mainGlobals mg)(hfa:mg "law"=some (.ref fa))
 {z96 z97 z108 z109 z120 z121 z132 z133:Option Addr} {z98 z110 z122 z134:Array (Option Value)} {z99 z100 z101 z102 z104 z111 z112 z113 z114 z116 z123 z124 z125 z126 z127 z128 z135 z136 z137 z138 z139 z140:Value} {z129:Option Addr} {z130:Nat} {z131:Array (Option Value)} {e0_Chip_init:Tok} {z141:Option Addr} {z142:Nat} {z143:Array (Option Value)} {e0_Terms_init:Tok} {e1_Terms_init:Tok} {oQ:Tok} {aCZ:Tok} {aBU:Tok}
 (z144:W.nsIn K mainGlobals "Book"=some (some (.ref z86)))
 (z145:Cls K z86)
 (z146:qR K z86 "blocks")
 (z147:qR K z86 "pages")
 (z148:qR K z86 "stamp")
 (z149:qR K z86 "where")
 (z150:qR K z86 "live")
 (z151:qR K z86 "filled")
 (z152:qR K z86 "born")
 (z153:Meth K z86 "mark" z11)
 (z154:Meth K z86 "note" z12)
 (z155:Meth K z86 "forget" z13)
 (z156:Meth K z86 "emptied" z14)
 (z157:Meth K z86 "live_pages" z15)
 (z158:Meth K z86 "held" z16)
 (z159:Mk K z86 z10)
 (z160:W.nsIn K mainGlobals "Plain"=some (some (.ref z87)))
 (z161:W.nsIn K mainGlobals "Even"=some (some (.ref z88)))
 (z162:Cls K z88)
 (z163:qR K z88 "chip")
 (z164:qR K z88 "terms")
 (z165:qR K z88 "book")
 (z166:qR K z88 "rule")
 (z167:qR K z88 "papers")
 (z168:Meth K z88 "least" z45)
 (z169:Meth K z88 "clearable" z46)
 (z170:Meth K z88 "options" z47)
 (z171:Meth K z88 "choice" z48)
 (z172:Meth K z88 "block_to_change" z49)
 (z173:Meth K z88 "reserve" z32)
 (z174:Meth K z88 "tally" z33)
 (z175:Meth K z88 "space" z34)
 (z176:Meth K z88 "full_ones" z35)
 (z177:Meth K z88 "with_dead_page" z36)
 (z178:Meth K z88 "choice_by_rule" z37)
 (z179:Meth K z88 "moved" z38)
 (z180:Meth K z88 "value_to_move" z39)
 (z181:Meth K z88 "wiped" z40)
 (z182:Meth K z88 "clear_out" z41)
 (z183:Meth K z88 "make_room" z42)
 (z184:Meth K z88 "make_ready" z43)
 (z185:Meth K z88 "make_rooms" z44)
 (z186:Meth K z88 "good" z18)
 (z187:Meth K z88 "free" z19)
 (z188:Meth K z88 "part" z20)
 (z189:Meth K z88 "spot" z21)
 (z190:Meth K z88 "ready" z22)
 (z191:Meth K z88 "set_down" z23)
 (z192:Meth K z88 "lay" z24)
 (z193:Meth K z88 "write" z25)
 (z194:Meth K z88 "give_up" z26)
 (z195:Meth K z88 "held" z27)
 (z196:Meth K z88 "check_sheet" z28)
 (z197:Meth K z88 "check_share" z29)
 (z198:Mk K z88 z31)
 (z199:W.nsIn K mainGlobals "Chip"=some (some (.ref z89)))
 (z200:Cls K z89)
 (z201:qR K z89 "blocks")
 (z202:qR K z89 "pages")
 (z203:qR K z89 "most")
 (z204:qR K z89 "limits")
 (z205:qR K z89 "borne")
 (z206:qR K z89 "clearings")
 (z207:qR K z89 "deed_counts")
 (z208:qR K z89 "broken")
 (z209:qR K z89 "deeds_left")
 (z210:qR K z89 "record")
 (z211:Meth K z89 "put" z52)
 (z212:Meth K z89 "wipe" z53)
 (z213:Meth K z89 "read" z54)
 (z214:Meth K z89 "cut_after" z55)
 (z215:Meth K z89 "power_on" z56)
 (z216:Meth K z89 "is_dark" z57)
 (z217:Meth K z89 "cleared" z58)
 (z218:Meth K z89 "failed" z59)
 (z219:Meth K z89 "deeds" z60)
 (z220:Meth K z89 "check_page" z61)
 (z221:Meth K z89 "check_block" z62)
 (z222:Meth K z89 "check_power" z63)
 (z223:Meth K z89 "check_deed" z64)
 (z224:Meth K z89 "is_spent" z65)
 (z225:Meth K z89 "do_deed" z66)
 (z226:Mk K z89 z51)
 (z227:W.nsIn K mainGlobals "Fewest"=some (some (.ref z90)))
 (z228:Cls K z90)
 (z229:Meth K z90 "goes_ahead" z70)
 (z230:Meth K z90 "choose" z69)
 (z231:W.makesIn K z90=true)
 (z232:W.findIn K (.ref z90) "__init__"=some (some (.builtin "object.__init__")))
 (z233:W.keepIn K (.ref z90)=true)
 (z234:W.nsIn K mainGlobals "Terms"=some (some (.ref z91)))
 (z235:Cls K z91)
 (z236:qR K z91 "blocks")
 (z237:qR K z91 "pages")
 (z238:qR K z91 "sheets")
 (z239:qR K z91 "share")
 (z240:qR K z91 "ill")
 (z241:qR K z91 "spread")
 (z242:Meth K z91 "closed" z72)
 (z243:Mk K z91 z71)
 (z244:W.nsIn K mainGlobals "PowerGone"=some (some (.ref z92)))
 (z245:W.excIn K z92 bmVE "ValueError.__new__"=true)
 (z246:W.nsIn K mainGlobals "NoRoom"=some (some (.ref z93)))
 (z247:W.excIn K z93 bmVE "ValueError.__new__"=true)
 (z248:ClM K z87 "__init__" z17)
 (z249:W.exmOne K (.ref z92) (.ref z92)=some true)
 (z250:W.exmOne K (.ref z93) (.ref z93)=some true)
 (z251:W.exmOne K (.ref z93) (.ref z92)=some false)
 (z252:W.codeHdIn K z0 z1=true)
 (z253:W.codeHdIn K z2 z3=true)
 (z254:z1≠z3)
 (z255:GFn K "is_whole" z4)
 (z256:GFn K "is_within" z5)
 (z257:GFn K "is_shape" z6)
 (z258:GFn K "is_value" z7)
 (z259:GFn K "mark_of" z8)
 (z260:GFn K "bits_of" z9)
 (z261:GFn K "paper_of" z30)
 (z262:GFn K "limits_of" z50)
 (z263:GFn K "is_unbeaten" z67)
 (z264:GFn K "first_unbeaten" z68)
 (z265:GFn K "_law_cell_at" z73)
 (z266:GFn K "_law_whole" z74)
 (z267:GFn K "_law_shape" z75)
 (z268:GFn K "_law_names" z76)
 (z269:GFn K "_law_pick" z77)
 (z270:GFn K "_law_ask" z78)
 (z271:GFn K "_law_lives" z79)
 (z272:GFn K "_law_tallies" z80)
 (z273:GFn K "_law_room_due" z81)
 (z274:GFn K "_law_due" z82)
 (z275:GFn K "_law_chosen" z83)
 (z276:GFn K "_law_right" z84)
 (z277:W.nsIn K mainGlobals "MOST_TOLD"=some (some (.int 1000000 oQ)))
 (z278:W.nsIn K mainGlobals "ROLL"=some (some (.int 64 aCZ)))
 (z279:W.nsIn K mainGlobals "NAMES"=some (some (.int 128 aBU)))
 (z280:W.nsIn K mainGlobals "bool"=some none)
 (z281:W.nsIn K mainGlobals "divmod"=some none)
 (z282:W.nsIn K mainGlobals "int"=some none)
 (z283:W.nsIn K mainGlobals "isinstance"=some none)
 (z284:W.nsIn K mainGlobals "len"=some none)
 (z285:W.nsIn K mainGlobals "list"=some none)
 (z286:W.nsIn K mainGlobals "max"=some none)
 (z287:W.nsIn K mainGlobals "min"=some none)
 (z288:W.nsIn K mainGlobals "range"=some none)
 (z289:W.nsIn K mainGlobals "sorted"=some none)
 (z290:W.nsIn K mainGlobals "tuple"=some none)
 (z291:FnX K "is_whole" "is_whole" q3C z4)
 (z292:FnX K "is_within" "is_within" q1W z5)
 (z293:FnX K "is_shape" "is_shape" q3D z6)
 (z294:FnX K "is_value" "is_value" q3E z7)
 (z295:FnX K "mark_of" "mark_of" q4Q z8)
 (z296:FnX K "bits_of" "bits_of" q4R z9)
 (z297:FnX K "__init__" "Book.__init__" q1X z10)
 (z298:FnX K "mark" "Book.mark" q1Y z11)
 (z299:FnX K "note" "Book.note" q1Z z12)
 (z300:FnX K "forget" "Book.forget" q02 z13)
 (z301:FnX K "emptied" "Book.emptied" zL z14)
 (z302:FnX K "live_pages" "Book.live_pages" v5 z15)
 (z303:FnX K "held" "Book.held" q20 z16)
 (z304:FnX K "__init__" "Plain.__init__" q13 z17)
 (z305:FnX K "good" "Plain.good" q14 z18)
 (z306:K.lookup z19=some ⟨z99,z96,.func (W.fnOf "free" "Plain.free" (yI jX) (jW jX) (qH jX) .none z100 z101 z102 z97 (.ref z0) z104),z98⟩)
 (z307:W.codeIn K (.ref z0) "Plain.free"=true)
 (z308:FnX K "part" "Plain.part" q15 z20)
 (z309:FnX K "spot" "Plain.spot" q16 z21)
 (z310:FnX K "ready" "Plain.ready" q03 z22)
 (z311:FnX K "set_down" "Plain.set_down" vF z23)
 (z312:FnX K "lay" "Plain.lay" q21 z24)
 (z313:FnX K "write" "Plain.write" q04 z25)
 (z314:FnX K "give_up" "Plain.give_up" vU z26)
 (z315:FnX K "held" "Plain.held" q17 z27)
 (z316:FnX K "check_sheet" "Plain.check_sheet" uH z28)
 (z317:FnX K "check_share" "Plain.check_share" uI z29)
 (z318:FnX K "paper_of" "paper_of" q3F z30)
 (z319:FnX K "__init__" "Store.__init__" q18 z31)
 (z320:FnX K "reserve" "Store.reserve" vV z32)
 (z321:FnX K "tally" "Store.tally" q05 z33)
 (z322:FnX K "space" "Store.space" q06 z34)
 (z323:FnX K "full_ones" "Store.full_ones" v6 z35)
 (z324:FnX K "with_dead_page" "Store.with_dead_page" yR z36)
 (z325:FnX K "choice_by_rule" "Store.choice_by_rule" yS z37)
 (z326:FnX K "moved" "Store.moved" q07 z38)
 (z327:FnX K "value_to_move" "Store.value_to_move" yY z39)
 (z328:FnX K "wiped" "Store.wiped" q08 z40)
 (z329:FnX K "clear_out" "Store.clear_out" v7 z41)
 (z330:FnX K "make_room" "Store.make_room" v8 z42)
 (z331:FnX K "make_ready" "Store.make_ready" uQ z43)
 (z332:FnX K "make_rooms" "Store.make_rooms" uR z44)
 (z333:FnX K "least" "Even.least" q19 z45)
 (z334:FnX K "clearable" "Even.clearable" vG z46)
 (z335:FnX K "options" "Even.options" zM z47)
 (z336:FnX K "choice" "Even.choice" q09 z48)
 (z337:K.lookup z49=some ⟨z111,z108,.func (W.fnOf "block_to_change" "Even.block_to_change" (yI qY) (jW qY) (qH qY) .none z112 z113 z114 z109 (.ref z2) z116),z110⟩)
 (z338:W.codeIn K (.ref z2) "Even.block_to_change"=true)
 (z339:FnX K "limits_of" "limits_of" q22 z50)
 (z340:K.lookup z51=some ⟨z123,z120,.func (W.fnOf "__init__" "Chip.__init__" (yI uV) (jW uV) (qH uV) (.ref z94) z124 z125 z126 z121 z127 z128),z122⟩)
 (z341:W.codeIn K z127 "Chip.__init__"=true)
 (z342:K.lookup z94=some ⟨.type "tuple",z129,.seq #[.int 1000000 e0_Chip_init,.none] z130,z131⟩)
 (z343:FnX K "put" "Chip.put" q3G z52)
 (z344:FnX K "wipe" "Chip.wipe" q23 z53)
 (z345:FnX K "read" "Chip.read" q24 z54)
 (z346:FnX K "cut_after" "Chip.cut_after" vH z55)
 (z347:FnX K "power_on" "Chip.power_on" vW z56)
 (z348:FnX K "is_dark" "Chip.is_dark" zN z57)
 (z349:FnX K "cleared" "Chip.cleared" zO z58)
 (z350:FnX K "failed" "Chip.failed" q0A z59)
 (z351:FnX K "deeds" "Chip.deeds" q1A z60)
 (z352:FnX K "check_page" "Chip.check_page" v9 z61)
 (z353:FnX K "check_block" "Chip.check_block" uS z62)
 (z354:FnX K "check_power" "Chip.check_power" uT z63)
 (z355:FnX K "check_deed" "Chip.check_deed" vA z64)
 (z356:FnX K "is_spent" "Chip.is_spent" vX z65)
 (z357:FnX K "do_deed" "Chip.do_deed" zP z66)
 (z358:FnX K "is_unbeaten" "is_unbeaten" q0B z67)
 (z359:FnX K "first_unbeaten" "first_unbeaten" vI z68)
 (z360:FnX K "choose" "Rule.choose" q0C z69)
 (z361:FnX K "goes_ahead" "Fewest.goes_ahead" uJ z70)
 (z362:K.lookup z71=some ⟨z135,z132,.func (W.fnOf "__init__" "Terms.__init__" (yI uF) (jW uF) (qH uF) (.ref z95) z136 z137 z138 z133 z139 z140),z134⟩)
 (z363:W.codeIn K z139 "Terms.__init__"=true)
 (z364:K.lookup z95=some ⟨.type "tuple",z141,.seq #[.int 0 e0_Terms_init,.int 1000000 e1_Terms_init] z142,z143⟩)
 (z365:FnX K "closed" "Terms.closed" zQ z72)
 (z366:FnX K "_law_cell_at" "_law_cell_at" q0D z73)
 (z367:FnX K "_law_whole" "_law_whole" q25 z74)
 (z368:FnX K "_law_shape" "_law_shape" q26 z75)
 (z369:FnX K "_law_names" "_law_names" q27 z76)
 (z370:FnX K "_law_pick" "_law_pick" q3H z77)
 (z371:FnX K "_law_ask" "_law_ask" q4S z78)
 (z372:FnX K "_law_lives" "_law_lives" q28 z79)
 (z373:FnX K "_law_tallies" "_law_tallies" q0E z80)
 (z374:FnX K "_law_room_due" "_law_room_due" zR z81)
 (z375:FnX K "_law_due" "_law_due" q4T z82)
 (z376:FnX K "_law_chosen" "_law_chosen" q1B z83)
 (z377:FnX K "_law_right" "_law_right" q29 z84)
 (z378:W.nsIn K mainGlobals "law"=some (some (.ref z85)))
 (z379:FnX K "law" "law" qG1 z85):
 ∃fd:FuncData,(∀(s:Shared) (v:Value),BindsTo s fd ⟨[v],[]⟩ [("_law_script",v)])∧∀base:Heap,K.In base→base.Ns mainGlobals mg→BmIn base mg→FnOk l.prog w K mg base (CX0) 19 fa fd ["_law_script"] (q4P K [z1,z3]):=by(
have e:=hfa.symm.trans (gZ X G z378)
cases e
let t:Adr:=⟨z4,z5,z6,z7,z8,z9,z10,z11,z12,z13,z14,z15,z16,z17,z18,z19,z20,z21,z22,z23,z24,z25,z26,z27,z28,z29,z30,z31,z32,z33,z34,z35,z36,z37,z38,z39,z40,z41,z42,z43,z44,z45,z46,z47,z48,z49,z50,z51,z52,z53,z54,z55,z56,z57,z58,z59,z60,z61,z62,z63,z64,z65,z66,z67,z68,z69,z70,z71,z72,z73,z74,z75,z76,z77,z78,z79,z80,z81,z82,z83,z84,fa,z86,z87,z88,z89,z90,z91,z92,z93,oQ,aCZ,aBU,z0,z1,z2,z3⟩
have T:Txt K mg t:=⟨gZ X G z144,z145,z146,z147,z148,z149,z150,z151,z152,z153,z154,z155,z156,z157,z158,z159,gZ X G z160,gZ X G z161,z162,z163,z164,z165,z166,z167,z168,z169,z170,z171,z172,z173,z174,z175,z176,z177,z178,z179,z180,z181,z182,z183,z184,z185,z186,z187,z188,z189,z190,z191,z192,z193,z194,z195,z196,z197,z198,gZ X G z199,z200,z201,z202,z203,z204,z205,z206,z207,z208,z209,z210,z211,z212,z213,z214,z215,z216,z217,z218,z219,z220,z221,z222,z223,z224,z225,z226,gZ X G z227,z228,z229,z230,⟨z231,z232,z233⟩,gZ X G z234,z235,z236,z237,z238,z239,z240,z241,z242,z243,gZ X G z244,z245,gZ X G z246,z247,z248,z249,z250,z251,z252,z253,z254,gZ X G z255.1,z255.2,gZ X G z256.1,z256.2,gZ X G z257.1,z257.2,gZ X G z258.1,z258.2,gZ X G z259.1,z259.2,gZ X G z260.1,z260.2,gZ X G z261.1,z261.2,gZ X G z262.1,z262.2,gZ X G z263.1,z263.2,gZ X G z264.1,z264.2,gZ X G z265.1,z265.2,gZ X G z266.1,z266.2,gZ X G z267.1,z267.2,gZ X G z268.1,z268.2,gZ X G z269.1,z269.2,gZ X G z270.1,z270.2,gZ X G z271.1,z271.2,gZ X G z272.1,z272.2,gZ X G z273.1,z273.2,gZ X G z274.1,z274.2,gZ X G z275.1,z275.2,gZ X G z276.1,z276.2,gZ X G z277,gZ X G z278,gZ X G z279,rA X G z280,rA X G z281,rA X G z282,rA X G z283,rA X G z284,rA X G z285,rA X G z286,rA X G z287,rA X G z288,rA X G z289,rA X G z290⟩
let S:Fns K t:=⟨fn1 z291,fn1 z292,fn1 z293,fn1 z294,fn1 z295,fn1 z296,fn1 z297,fn1 z298,fn1 z299,fn1 z300,fn1 z301,fn1 z302,fn1 z303,fn1 z304,fn1 z305,_,FunT.mk' (st:=jX) z306 z307,jY.all λus hl=>by rw[lnx hl];rfl,fn1 z308,fn1 z309,fn1 z310,fn1 z311,fn1 z312,fn1 z313,fn1 z314,fn1 z315,fn1 z316,fn1 z317,fn1 z318,fn1 z319,fn1 z320,fn1 z321,fn1 z322,fn1 z323,fn1 z324,fn1 z325,fn1 z326,fn1 z327,fn1 z328,fn1 z329,fn1 z330,fn1 z331,fn1 z332,fn1 z333,fn1 z334,fn1 z335,fn1 z336,_,FunT.mk' (st:=qY) z337 z338,jY.all λus hl=>by rw[lnx hl];rfl,fn1 z339,_,(.ref z94),FunD.mk' (st:=uV) z340 z341,λs us kin hl=>by rw[lnx (us:=us) (n:=5) (by simpa using hl)];exact rK rfl (kin _ _ z342) rfl rfl rfl,[.none],λs us kin hl=>by rw[lnx (us:=us) (n:=4) (by simpa using hl)];exact rK rfl (kin _ _ z342) rfl rfl rfl,(.cons rfl .nil),[.int 1000000 e0_Chip_init,.none],λs us kin hl=>by rw[lnx (us:=us) (n:=3) (by simpa using hl)];exact rK rfl (kin _ _ z342) rfl rfl rfl,(.cons ⟨_,rfl⟩ (.cons rfl .nil)),fn1 z343,fn1 z344,fn1 z345,fn1 z346,fn1 z347,fn1 z348,fn1 z349,fn1 z350,fn1 z351,fn1 z352,fn1 z353,fn1 z354,fn1 z355,fn1 z356,fn1 z357,fn1 z358,fn1 z359,fn1 z360,fn1 z361,_,(.ref z95),FunD.mk' (st:=uF) z362 z363,λs us kin hl=>by rw[lnx (us:=us) (n:=7) (by simpa using hl)];exact rK rfl (kin _ _ z364) rfl rfl rfl,[.int 1000000 e1_Terms_init],λs us kin hl=>by rw[lnx (us:=us) (n:=6) (by simpa using hl)];exact rK rfl (kin _ _ z364) rfl rfl rfl,(.cons ⟨_,rfl⟩ .nil),[.int 0 e0_Terms_init,.int 1000000 e1_Terms_init],λs us kin hl=>by rw[lnx (us:=us) (n:=5) (by simpa using hl)];exact rK rfl (kin _ _ z364) rfl rfl rfl,(.cons ⟨_,rfl⟩ (.cons ⟨_,rfl⟩ .nil)),fn1 z365,fn1 z366,fn1 z367,fn1 z368,fn1 z369,fn1 z370,fn1 z371,fn1 z372,fn1 z373,fn1 z374,fn1 z375,fn1 z376,fn1 z377,fn1 z379⟩
exact⟨_,FnX.bind1 (by intros;rfl) S.law.F,λbase _ _ bm=>qKQ T S bm⟩)
theorem walk{l:W.OpenLaw}{q:Program}{loose:List Str}{XP:(Str→Option Value)→Heap→Prop}{YP:World→Heap→Prop}{d:DefRec}{K:Params→W.Frag}(hn:l.most=some 63)(hdf:d.params.defaults=[])
 (hY:∀(w:World) (h:Heap),YP w h→(K w.params).In h∧∀T∈([304,577]:List Addr),h.get? T=some (W.tabObj #[])) (hT:∀w:World,∀T∈([304,577]:List Addr),(K w.params).lookup T=none∧∃c,W.codeHdIn (K w.params) c T=true)
 (F:∀(w:World) (mg:Str→Option Value) (fa:Addr) (h:Heap),(K w.params).In h→h.Ns mainGlobals mg→mg d.name=some (.ref fa)→∃fd:FuncData,(∀(s:Shared) (u:Value),BindsTo s fd ⟨[u],[]⟩ [("_law_script",u)])∧∀base:Heap,(K w.params).In base→base.Ns mainGlobals mg→BmIn base mg→FnOk l.prog w (K w.params) mg base (CX0) 19 fa fd ["_law_script"] (q4P (K w.params) [304,577])):
 W.WalkO q loose XP YP l.row.toRowW d [] (λf vs=>PySem.call f vs):=L2.qF8 (n:=63) (k:=19) (x:="_law_script") (CX:=λ_=>CX0) (sp:=λw=>q4P (K w.params) [304,577]) [304,577] hn (by decide) hdf ⟨rfl,by decide,by decide⟩ hY hT F (λ_ _ a ns hl hS hT=>⟨a,ns,rfl,hS,hl,hT,λ_=>rfl⟩) (λ_ _ _ _ _ z=>z)
end W1
namespace PySem.W.Fast
theorem tw10906198366344394615:True:=⟨⟩
theorem tw13121693502877081856:True:=⟨⟩
theorem tw3000353858156727648:True:=⟨⟩
theorem tw17897206430862613793:True:=⟨⟩
theorem tw7531238338407358241:True:=⟨⟩
theorem tw4877064213016553506:True:=⟨⟩
theorem tw4474123463222682754:True:=⟨⟩
theorem tw17868129766913805762:True:=⟨⟩
theorem tw16309326155352123652:True:=⟨⟩
theorem tw7625802805238625092:True:=⟨⟩
theorem tw10629041564869144806:True:=⟨⟩
theorem tw8931286663721382310:True:=⟨⟩
theorem tw13180332240030597159:True:=⟨⟩
theorem tw2974550301449698407:True:=⟨⟩
theorem tw10566490798703694311:True:=⟨⟩
theorem tw9010468429927269959:True:=⟨⟩
theorem tw4125281359924831015:True:=⟨⟩
theorem tw13171731170000755720:True:=⟨⟩
theorem tw8694236705170029096:True:=⟨⟩
theorem tw12388180890348911304:True:=⟨⟩
theorem tw11685917750989495497:True:=⟨⟩
theorem tw12971708295508996713:True:=⟨⟩
theorem tw2546952379487553450:True:=⟨⟩
theorem tw18393661255539555755:True:=⟨⟩
theorem tw7002803108467655339:True:=⟨⟩
theorem tw2897397678526648940:True:=⟨⟩
theorem tw12303255609590235309:True:=⟨⟩
theorem tw11136494484804374029:True:=⟨⟩
theorem tw16685636994070021933:True:=⟨⟩
theorem tw6608859123177516174:True:=⟨⟩
theorem tw16727922962758109358:True:=⟨⟩
theorem tw11481270401099064014:True:=⟨⟩
theorem tw15396684138527483919:True:=⟨⟩
theorem tw14849797693164788879:True:=⟨⟩
theorem tw13263868662192266927:True:=⟨⟩
theorem tw8120423456357859568:True:=⟨⟩
theorem tw7656383370823162416:True:=⟨⟩
theorem tw11239592677405717104:True:=⟨⟩
theorem tw1131845440680037841:True:=⟨⟩
theorem tw17601599786202144242:True:=⟨⟩
theorem tw14219111467374971156:True:=⟨⟩
theorem tw3504241355249821524:True:=⟨⟩
theorem tw3912630951944819957:True:=⟨⟩
theorem tw2065857462358287669:True:=⟨⟩
theorem tw8321978427616729909:True:=⟨⟩
theorem tw1977344335227271093:True:=⟨⟩
theorem tw17938626646964618680:True:=⟨⟩
theorem tw14861899439372753945:True:=⟨⟩
theorem tw15830743355330802810:True:=⟨⟩
theorem tw9701545703308176730:True:=⟨⟩
theorem tw220904559792630234:True:=⟨⟩
theorem tw17497820344867038491:True:=⟨⟩
theorem tw15071113918560623899:True:=⟨⟩
theorem tw2837295528298191259:True:=⟨⟩
theorem tw13439740912694111709:True:=⟨⟩
theorem tw5878420095442966237:True:=⟨⟩
theorem tw2932424801500615230:True:=⟨⟩
theorem tw8439623848769759519:True:=⟨⟩
theorem tw2143930565305185663:True:=⟨⟩
theorem tw8911880541695041155:True:=⟨⟩
theorem tw17790462711772034382:True:=⟨⟩
theorem tw478116302850116097:True:=⟨⟩
theorem tw1954154388986335549:True:=⟨⟩
theorem tw9733957962922411613:True:=⟨⟩
theorem tw10705743642771784996:True:=⟨⟩
theorem tw13053211387830729056:True:=⟨⟩
theorem tw2622224597805820056:True:=⟨⟩
theorem tw2103048442133333326:True:=⟨⟩
theorem tw14151457384519743059:True:=⟨⟩
theorem tw16761652893306377018:True:=⟨⟩
theorem tw14827081357531768037:True:=⟨⟩
theorem tw3840043560616826684:True:=⟨⟩
theorem tw8385140137058820035:True:=⟨⟩
theorem tw15302513973201077744:True:=⟨⟩
theorem tw2192086048428631682:True:=⟨⟩
theorem tw16160234628919122540:True:=⟨⟩
theorem tw11611741999369942301:True:=⟨⟩
theorem tw16323900067207609324:True:=⟨⟩
theorem tw2048500808775013190:True:=⟨⟩
theorem tw3724022358624483024:True:=⟨⟩
theorem tw6713205937849405569:True:=⟨⟩
theorem tw7526020979841020579:True:=⟨⟩
theorem tw8856068161578191158:True:=⟨⟩
theorem tw11900507886348928988:True:=⟨⟩
theorem tw4572430651767164831:True:=⟨⟩
theorem tw9193113803880875271:True:=⟨⟩
theorem tw15084404963491765251:True:=⟨⟩
theorem tw9215672571206897566:True:=⟨⟩
theorem tw4159670540115151552:True:=⟨⟩
theorem tw13489266811055573585:True:=⟨⟩
theorem tw7223393016431030388:True:=⟨⟩
theorem tw8982105863240271850:True:=⟨⟩
theorem tw9991765293999498325:True:=⟨⟩
theorem tw12869035313580539193:True:=⟨⟩
theorem tw5800887295956412941:True:=⟨⟩
theorem tw3283565296754112544:True:=⟨⟩
theorem tw16471335982979759631:True:=⟨⟩
theorem tw16952716955402362562:True:=⟨⟩
theorem tw13268836414185303698:True:=⟨⟩
theorem tw12009493665582543537:True:=⟨⟩
theorem tw12423759862826642227:True:=⟨⟩
theorem tw8474177898989740441:True:=⟨⟩
theorem tw3123281571855047420:True:=⟨⟩
theorem tw16282277209669314233:True:=⟨⟩
theorem tw5429145399938458588:True:=⟨⟩
theorem tw716712157984556316:True:=⟨⟩
theorem tw11011239098741986440:True:=⟨⟩
theorem tw15165194706125795787:True:=⟨⟩
theorem tw986947717635210856:True:=⟨⟩
theorem tw8824007677264041636:True:=⟨⟩
theorem tw1835435014079419864:True:=⟨⟩
theorem tw11024982265022198859:True:=⟨⟩
theorem tw14909748442694419071:True:=⟨⟩
theorem tw6092300427248421546:True:=⟨⟩
theorem tw3466836226102535114:True:=⟨⟩
theorem tw10018257389811713222:True:=⟨⟩
theorem tw4998608708313095148:True:=⟨⟩
theorem tw11040406014484075855:True:=⟨⟩
theorem tw1776321739303288065:True:=⟨⟩
theorem tw10164236519763744085:True:=⟨⟩
theorem tw17669718294844349523:True:=⟨⟩
theorem tw10926844093437551661:True:=⟨⟩
theorem tw16319652605193772564:True:=⟨⟩
theorem tw5707252114870433951:True:=⟨⟩
theorem tw10246094313655152750:True:=⟨⟩
theorem tw6955029013890504384:True:=⟨⟩
theorem tw16716961330510274980:True:=⟨⟩
theorem tw3357870746542452899:True:=⟨⟩
theorem tw3769958832568829893:True:=⟨⟩
theorem tw3666425445690251293:True:=⟨⟩
theorem tw6594993473944846514:True:=⟨⟩
theorem tw9298652358871560302:True:=⟨⟩
theorem tw14940795302656956811:True:=⟨⟩
theorem tw2470209005305757811:True:=⟨⟩
theorem tw1068194087696941082:True:=⟨⟩
theorem tw14297952652464959095:True:=⟨⟩
theorem tw4903064705995717872:True:=⟨⟩
theorem tw3460961452825369171:True:=⟨⟩
theorem tw344242201568055730:True:=⟨⟩
theorem tw588323423951515539:True:=⟨⟩
theorem tw16876187129018490396:True:=⟨⟩
theorem tw13719070271395333598:True:=⟨⟩
theorem tw7385975392040556786:True:=⟨⟩
theorem tw3086557933627136316:True:=⟨⟩
theorem tw1986635013563111533:True:=⟨⟩
theorem tw17849544194527943561:True:=⟨⟩
theorem tw4972855756435694348:True:=⟨⟩
theorem tw10397178723303336553:True:=⟨⟩
theorem tw7307890444073818757:True:=⟨⟩
theorem tw8251354647066643326:True:=⟨⟩
theorem tw17913581601222755525:True:=⟨⟩
theorem tw1523701022119529549:True:=⟨⟩
theorem tw1255452515967360764:True:=⟨⟩
theorem tw6321086692914111486:True:=⟨⟩
theorem tw11327248271430200272:True:=⟨⟩
theorem tw10401030950620394686:True:=⟨⟩
theorem tw8037159134768194728:True:=⟨⟩
theorem tw308548488475869719:True:=⟨⟩
theorem tw15653291854676143035:True:=⟨⟩
theorem tw5874248777270709889:True:=⟨⟩
theorem tw4745865759234469172:True:=⟨⟩
theorem tw14645827292083551972:True:=⟨⟩
theorem tw15453723530239408139:True:=⟨⟩
theorem tw9060609806752874597:True:=⟨⟩
theorem tw14214774969955955309:True:=⟨⟩
theorem tw4674062814483267852:True:=⟨⟩
theorem tw1641015033396005006:True:=⟨⟩
theorem tw18087122020197089847:True:=⟨⟩
theorem tw1227648387303879289:True:=⟨⟩
theorem tw5643264188649731137:True:=⟨⟩
theorem tw16122234341247169893:True:=⟨⟩
theorem tw4277830655807327772:True:=⟨⟩
theorem tw14621153662186756540:True:=⟨⟩
theorem tw419102275464236184:True:=⟨⟩
theorem tw16757235159812137163:True:=⟨⟩
theorem tw14991919795877885730:True:=⟨⟩
theorem tw1466510977316448665:True:=⟨⟩
theorem tw15922013756864261287:True:=⟨⟩
theorem tw2437682101634975251:True:=⟨⟩
theorem tw14733671465268142738:True:=⟨⟩
theorem tw13862044091733876552:True:=⟨⟩
theorem tw16756424073536990436:True:=⟨⟩
theorem tw11983854696033919698:True:=⟨⟩
theorem tw6206940756815352899:True:=⟨⟩
theorem tw6663338599321989221:True:=⟨⟩
theorem tw10837164547529927610:True:=⟨⟩
theorem tw5947440186278279957:True:=⟨⟩
theorem tw10311063961690509643:True:=⟨⟩
theorem tw18305106541099063111:True:=⟨⟩
theorem tw11938941086974479524:True:=⟨⟩
theorem tw9157283024706257063:True:=⟨⟩
theorem tw16637462862006984670:True:=⟨⟩
theorem tw313552576179782702:True:=⟨⟩
theorem tw11935991311582642699:True:=⟨⟩
theorem tw3122086836618625249:True:=⟨⟩
theorem tw5835290132559423836:True:=⟨⟩
theorem tw4822990252699107515:True:=⟨⟩
theorem tw11508847574036659642:True:=⟨⟩
theorem tw7530106356808671411:True:=⟨⟩
theorem tw2938193714219720664:True:=⟨⟩
theorem tw3812536055929810124:True:=⟨⟩
theorem tw9758611925013779591:True:=⟨⟩
theorem tw5468991748685414727:True:=⟨⟩
theorem tw1048250423629888878:True:=⟨⟩
theorem tw11174016950073386730:True:=⟨⟩
theorem tw13024409886002879218:True:=⟨⟩
theorem tw233450415108212897:True:=⟨⟩
theorem tw7704962329942368119:True:=⟨⟩
theorem tw12019560142276365589:True:=⟨⟩
theorem tw13683189998754522929:True:=⟨⟩
theorem tw10817911444976549647:True:=⟨⟩
theorem tw15647038009467350732:True:=⟨⟩
theorem tw11831964152435630968:True:=⟨⟩
theorem tw17017910177125926497:True:=⟨⟩
theorem tw16986813390473692766:True:=⟨⟩
theorem tw7553289103242024458:True:=⟨⟩
theorem tw3473199960986514672:True:=⟨⟩
theorem tw14716241148365318506:True:=⟨⟩
theorem tw12712935572173508993:True:=⟨⟩
theorem tw12949876351771443092:True:=⟨⟩
theorem tw4662369247768738499:True:=⟨⟩
theorem tw6610088708625444463:True:=⟨⟩
theorem tw4400058448275282111:True:=⟨⟩
theorem tw8287193719412899810:True:=⟨⟩
theorem tw6296717329796765810:True:=⟨⟩
theorem tw17124691536842715762:True:=⟨⟩
theorem tw1894198690421426084:True:=⟨⟩
theorem tw3871702763327402919:True:=⟨⟩
theorem tw6707891720121663890:True:=⟨⟩
theorem tw1523601046156334701:True:=⟨⟩
theorem tw7595477512111358187:True:=⟨⟩
theorem tw4887358658143106384:True:=⟨⟩
theorem tw4553135226122863942:True:=⟨⟩
theorem tw11149725106931573968:True:=⟨⟩
theorem tw18395623356659841682:True:=⟨⟩
theorem tw3001661700820812974:True:=⟨⟩
theorem tw9496005617139747037:True:=⟨⟩
theorem tw14375705459153389123:True:=⟨⟩
theorem tw9959369249246095640:True:=⟨⟩
theorem tw12371612646738132219:True:=⟨⟩
theorem tw5053498393164852815:True:=⟨⟩
theorem tw13883695846373492220:True:=⟨⟩
theorem tw1188135087311507851:True:=⟨⟩
theorem tw6613599253830635675:True:=⟨⟩
theorem tw2798897400032600569:True:=⟨⟩
theorem tw14295758882322645187:True:=⟨⟩
theorem tw7863426114427701060:True:=⟨⟩
theorem tw17423054579288202994:True:=⟨⟩
theorem tw17734955875198743866:True:=⟨⟩
theorem tw13432826025386434084:True:=⟨⟩
theorem tw7513807145291945352:True:=⟨⟩
theorem tw5773299607327768775:True:=⟨⟩
theorem tw17076587066470394808:True:=⟨⟩
theorem tw5119872489205190823:True:=⟨⟩
theorem tw4607232955157014521:True:=⟨⟩
theorem tw15531675909393867314:True:=⟨⟩
theorem tw16150006464979444865:True:=⟨⟩
theorem tw9702874354317071561:True:=⟨⟩
theorem tw2629459424439279761:True:=⟨⟩
theorem tw1478028003896964324:True:=⟨⟩
theorem tw7831487889385593513:True:=⟨⟩
theorem tw3273722738750682055:True:=⟨⟩
theorem tw9289499122100458311:True:=⟨⟩
theorem tw3960361471293937017:True:=⟨⟩
theorem tw5824895118858444540:True:=⟨⟩
theorem tw14373932786081676946:True:=⟨⟩
theorem tw13822887251070867754:True:=⟨⟩
theorem tw6654718666715223789:True:=⟨⟩
theorem tw6030407240471229269:True:=⟨⟩
theorem tw18151741927965002936:True:=⟨⟩
theorem tw7836776973621827973:True:=⟨⟩
theorem tw13696680696516823846:True:=⟨⟩
theorem tw15819894350411810049:True:=⟨⟩
theorem tw2421284560916178591:True:=⟨⟩
theorem tw9143783779655183060:True:=⟨⟩
theorem tw1401483725224319867:True:=⟨⟩
theorem tw1277486044465200652:True:=⟨⟩
theorem tw10361725508620955156:True:=⟨⟩
theorem tw16765543403011910899:True:=⟨⟩
theorem tw7620159401404396101:True:=⟨⟩
theorem tw2936030228456054747:True:=⟨⟩
theorem tw2010835381079255185:True:=⟨⟩
theorem tw2664723902690295584:True:=⟨⟩
theorem tw7029539904350103463:True:=⟨⟩
theorem tw12641194041414422560:True:=⟨⟩
theorem tw10249815459078286127:True:=⟨⟩
theorem tw6708257734197808513:True:=⟨⟩
theorem tw17517490823657474712:True:=⟨⟩
theorem tw10784302244209019723:True:=⟨⟩
theorem tw10423043494973603014:True:=⟨⟩
theorem tw2193377093339052899:True:=⟨⟩
theorem tw14388448747567576083:True:=⟨⟩
theorem tw1733685609252056059:True:=⟨⟩
theorem tw13806622443642716722:True:=⟨⟩
theorem tw11567817810352670071:True:=⟨⟩
theorem tw17294969900791384823:True:=⟨⟩
theorem tw15661269764833056974:True:=⟨⟩
theorem tw1599849512049265427:True:=⟨⟩
theorem tw8280080823860710822:True:=⟨⟩
theorem tw15579182895253022171:True:=⟨⟩
theorem tw15175833748848992318:True:=⟨⟩
theorem tw10867947850385880087:True:=⟨⟩
theorem tw8888014215118896001:True:=⟨⟩
theorem tw18279941189043653937:True:=⟨⟩
theorem tw14758905280904666328:True:=⟨⟩
theorem tw8479886452114530:True:=⟨⟩
theorem tw11754642428827592316:True:=⟨⟩
theorem tw10110917749414119274:True:=⟨⟩
theorem tw3588697333317874717:True:=⟨⟩
theorem tw17194305975950841418:True:=⟨⟩
theorem tw3896136906982390930:True:=⟨⟩
theorem tw13179263908561135670:True:=⟨⟩
theorem tw12769473313321712375:True:=⟨⟩
theorem tw12199723714926149101:True:=⟨⟩
theorem tw5450655829529741330:True:=⟨⟩
theorem tw10471107498003884232:True:=⟨⟩
theorem tw5147668897307670181:True:=⟨⟩
theorem tw311957281572946309:True:=⟨⟩
theorem tw908372411639309026:True:=⟨⟩
theorem tw4855815422873944282:True:=⟨⟩
theorem tw13917454626528069465:True:=⟨⟩
theorem tw6301784733965584211:True:=⟨⟩
theorem tw13626554408561546291:True:=⟨⟩
theorem tw11948089729776184453:True:=⟨⟩
theorem tw11469646202348699196:True:=⟨⟩
theorem tw12960506321343117559:True:=⟨⟩
theorem tw17522876400251838978:True:=⟨⟩
theorem tw16591586785394131548:True:=⟨⟩
theorem tw15627876934259266877:True:=⟨⟩
theorem tw3953010041761964695:True:=⟨⟩
theorem tw5834770066582939228:True:=⟨⟩
theorem tw15238711038968861019:True:=⟨⟩
theorem tw3794615384130341966:True:=⟨⟩
theorem tw15139751820935188445:True:=⟨⟩
theorem tw705839992594724150:True:=⟨⟩
theorem tw1814853850860580298:True:=⟨⟩
theorem tw13870499020140422034:True:=⟨⟩
theorem tw13143117110771866381:True:=⟨⟩
theorem tw12535649878509013012:True:=⟨⟩
theorem tw7931771662703581898:True:=⟨⟩
theorem tw7778042397600463637:True:=⟨⟩
theorem tw11109770961645784127:True:=⟨⟩
theorem tw3173959525689285564:True:=⟨⟩
theorem tw10449712171901068814:True:=⟨⟩
theorem tw10101305236774308113:True:=⟨⟩
theorem tw7471277407653983926:True:=⟨⟩
end PySem.W.Fast
set_option genInjectivity false in
set_option genSizeOf false in
structure PySem.W.Fast:Prop where
 (tw5533888012397334745 tw2708477020479998841 tw6201965561254310945 tw11525108267120572568 tw4900536265961717604 tw17775875085378343482 tw9248063945814789970 tw15599181984956738037 tw14597253952585282417 tw3918145562832529838 tw8937021967879305393 tw734547932399911764 tw7077689963470382396 tw14114922965284532797 tw1119036520579704570 tw9436730610354915662 tw9319162511432036702 tw9296902814816709349 tw7042598638818890644 tw5538593435970473594 tw14304260426014294936 tw11220505370059718137 tw15427178269657913105 tw11889055815115536983 tw9420543607833797385 tw17072294793435427061 tw11978911634623774543 tw4239775765443808347 tw18187335891195353985 tw12227032443870811573 tw6131333991293288782 tw13966296970956175901 tw4323677630311184470 tw17376303896631832327 tw10772659455232281435 tw3848124405466932012 tw16197660711470198217 tw13053622976427144066 tw10639885581409077953 tw7768523107642795643 tw10239369630381020455 tw1927845459873260519 tw5508047683125417524 tw16749128719766519977 tw8475766072917066994 tw2433432693278677725 tw15236791396605219657 tw717610621429729476 tw9688832888687159840 tw17339458954325917349 tw7600778227882352423 tw6299998134628048418 tw2219602888585541756 tw17276481476039470219 tw2368500655626953966 tw11495262803373619038 tw8774483486095362827 tw1751773463962989807 tw13754414941231535920 tw1208678671150448175 tw7563045859196825669 tw6145948764077984188 tw28166806989795063 tw12912815599443039972 tw939711416715546855 tw8445981274663129956 tw6309875803645191055 tw5668441146709443760 tw4703983088268959350 tw4130210938311905766 tw18173791858381876291 tw14152664576497182982 tw9069517643757678478 tw3582388317484211505 tw2466635019812667978 tw14829602213691531235 tw13670974289936908695 tw8529252215164891576 tw8473949657865440797 tw8448647862772399550 tw8149737126449469611 tw6687802578815474589 tw6463007552470685480 tw6074946898834151159 tw5713048478822772501 tw5007678913850471130 tw4998338486355312032 tw4925300551466654544 tw4041318402582130839 tw2373371996708849619 tw232090384812305445 tw18150383932204627277 tw17775247152145249322 tw17145806157245460864 tw16934931126958413101 tw16888228784942026024 tw16273919692033411115 tw15097642725738849433 tw14978284083843019813 tw14895696799115101382 tw14399528508993138387 tw13611193036051282951 tw13303439495714763689 tw12685836351403393809 tw11930816017498546086 tw11486392504538562689 tw11069153171839858427 tw11048029448332588090 tw10448985783802852800 tw6770399746764878411 tw8431801438741029211 tw9442409273361227222 tw6772075982012127824 tw3730431195228814650 tw1764942314722492108 tw16352482424866710815 tw1528718073186308624 tw11505607840459119408 tw16322300948457656419 tw13927274549940240065 tw15650551845815075623 tw820588645264680087 tw17538474281398401435 tw11145792002772455800 tw6972536618956448869 tw3615887876592709251 tw16669247848309599842 tw979777117042528155 tw8882482615020578387 tw8427029225874879373 tw7932685974636042944 tw3290508425434105702 tw18321472595092264834 tw17834873635619992610 tw17533453431680751758 tw15976184391019570443 tw14580900428825635625 tw1294754931278787434 tw10624557300777540404 tw10323139887891650437 tw8406284054133410503 tw4463116415162207807 tw1253350103853331492 tw4069476341017708693 tw974046761520343474 tw9684412200527856480 tw8968863249314503749 tw8025812283070521583 tw6843526341136260774 tw6825372215518691122 tw596256310314730718 tw5773059166111441715 tw2904856464774422700 tw18160756141791651536 tw16514446088362435120 tw16076494053379985383 tw16038072469916361209 tw15917181101746275684 tw15506982950719922128 tw14999199637563739935 tw14985822403845842646 tw14368696731019001071 tw14324809395445959053 tw13698373087468437926 tw12439272894095503371 tw14935171656957445708 tw4416872594030429925 tw14862600357082734104 tw14117365655193225653 tw13890264364832299679 tw9566709146210337901 tw13318046382981843645 tw9510170132955121422 tw9904797729250877682 tw5907008797586219120 tw17964712295418274954 tw11563663675256294563 tw8588887303770494344 tw9873105919845329645 tw935824537524749328 tw661602182053114504 tw14701463163450167845 tw10682091187296559823 tw783676270856117320 tw7263750469464856682 tw622140708680866229 tw14204355402615245379 tw1251162984698251433 tw10419692066729438309 tw9161959979318981520 tw14268583723146717487 tw9350923094365207941 tw8393350074392897660 tw7089758587813550421 tw6100243256773575665 tw6036216270208314834 tw1999232382565356744 tw17095732887715613787 tw15067737416367601267 tw15095044238361264204 tw1068579107194067332 tw4911994629825548227 tw4230706339896737610 tw9249564512172682261 tw12499740473693116837 tw18401879866377879460 tw7090220651970503541 tw4225351769465675080 tw13801773909745713996 tw11854087828071545217 tw9276287952181050855 tw8756244191139009334 tw8708934612778615596 tw7842306086103864348 tw6599876228106049745 tw6483983014717486994 tw6332714877074088105 tw6064656835436777386 tw463132559612639251 tw4555168202403718508 tw37363050815040530 tw3056076477054622510 tw2714417793523215232 tw2562107265521391099 tw2246397853605524031 tw18297360958056295135 tw17143039743696693138 tw1586161912397576482 tw15387903450973874035 tw14624864538843471600 tw14038471233860936444 tw13692846130771334718 tw13222886223931395824 tw11729301335786129202 tw8456930335902078247 tw5841189056451342759 tw5806193777815171284 tw16053125735699613651 tw13108144334942775526 tw12206669984569153033 tw9323312621788416822 tw8521238940626234258 tw831456222845005784 tw7569870193891694743 tw7474611257087508643 tw6810494142073217554 tw4599393532203351313 tw3255466968849932970 tw3190328462384329152 tw2577361786105209052 tw2385289145309431760 tw2254949744321589638 tw17984568173226287352 tw17545907045270467014 tw16667688204981258778 tw13774413583948520674 tw10173410875163194684 tw8888675776380012855 tw6877811644703581030 tw507270416927552144 tw17889481269935889903 tw17117816115983988236 tw1381089123757059311:True)
open PySem PySem.W PyProof.Rows
set_option maxRecDepth 100000 in
theorem PySem.Challenge.cw_wornpages_k42_who_may_be_cleared_holds : PySem.Challenge.rw_wornpages_k42_who_may_be_cleared.Holds := by
 (
w_on;o_law;k_head;(case hw=>w_witness2)
k_fill
refine W1.walk (l:=PySem.Challenge.rw_wornpages_k42_who_may_be_cleared) rfl rfl (λw h Y=>⟨W.km_in_of Y,λT hT=>W.km_tabs_of Y T (by simp at hT ⊢;first|exact hT|exact hT.symm)⟩) (?T) ?F
case T=>
 intro w T hT;have hT:T=304∨T=577:=by simpa using hT
 rcases hT with rfl|rfl
 ·exact⟨by kernel_rfl,306,by kernel_rfl⟩
 exact⟨by kernel_rfl,581,by kernel_rfl⟩
case F=>
 intro w mg fa h KX G hmg;refine' W1.qKR (z1:=304) (z0:=306) (z3:=577) (z2:=581) KX G hmg ?_ ?_ ?_ ?_ ?_ ?_ ?_ ?_ ?_ ?_ ?_ ?_ ?_ ?_ ?_ ?_ ?_ ?_ ?_ ?_ ?_ ?_ ?_ ?_ ?_ ?_ ?_ ?_ ?_ ?_ ?_ ?_ ?_ ?_ ?_ ?_ ?_ ?_ ?_ ?_ ?_ ?_ ?_ ?_ ?_ ?_ ?_ ?_ ?_ ?_ ?_ ?_ ?_ ?_ ?_ ?_ ?_ ?_ ?_ ?_ ?_ ?_ ?_ ?_ ?_ ?_ ?_ ?_ ?_ ?_ ?_ ?_ ?_ ?_ ?_ ?_ ?_ ?_ ?_ ?_ ?_ ?_ ?_ ?_ ?_ ?_ ?_ ?_ ?_ ?_ ?_ ?_ ?_ ?_ ?_ ?_ ?_ ?_ ?_ ?_ ?_ ?_ ?_ ?_ ?_ ?_ ?_ ?_ ?_ ?_ ?_ ?_ ?_ ?_ ?_ ?_ ?_ ?_ ?_ ?_ ?_ ?_ ?_ ?_ ?_ ?_ ?_ ?_ ?_ ?_ ?_ ?_ ?_ ?_ ?_ ?_ ?_ ?_ ?_ ?_ ?_ ?_ ?_ ?_ ?_ ?_ ?_ ?_ ?_ ?_ ?_ ?_ ?_ ?_ ?_ ?_ ?_ ?_ ?_ ?_ ?_ ?_ ?_ ?_ ?_ ?_ ?_ ?_ ?_ ?_ ?_ ?_ ?_ ?_ ?_ ?_ ?_ ?_ ?_ ?_ ?_ ?_ ?_ ?_ ?_ ?_ ?_ ?_ ?_ ?_ ?_ ?_ ?_ ?_ ?_ ?_ ?_ ?_ ?_ ?_ ?_ ?_ ?_ ?_ ?_ ?_ ?_ ?_ ?_ ?_ ?_ ?_ ?_ ?_ ?_ ?_ ?_ ?_ ?_ ?_ ?_ ?_ ?_ ?_ ?_ ?_ ?_ ?_ ?_ ?_ ?_ ?_ ?_ ?_ ?_ ?_
 any_goals first|k_is|(refine' L2.FnX.of ?fa ?fb;(case fa=>k_is);(case fb=>k_is))|((first|apply And.intro|apply L2.Meth.mk|apply L2.Mk.mk|apply L2.Cls.mk|apply L2.XAt.mk|apply L2.BIni.mk|apply L2.ClM.mk|apply L2.XRd.mk)<;>first|k_is|kernel_rfl)|(show W.findIn _ _ _=_;k_is)
 all_goals first|k_exc|kts_exm|kit_is|kernel_rfl|decide)
