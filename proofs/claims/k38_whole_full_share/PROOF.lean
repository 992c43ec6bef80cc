import PyProof.Rows.All
import Wide.All
import OpenK.AllK
import Wide.FinOn
import Lean
import PyProof.EqAt
import PyProof.EqKinds
import PyProof.TupleCall
import PyProof.StationsW
import PyProof.NsDelKeeps
import PyProof.PassesOwn
import PyProof.ZipIter
import PyProof.NeKinds
import PyProof.CompFree
import OpenK.KMake
import PyProof.EnumFor
import PyProof.EnumMake
import PyProof.EnumStmt
import KE.KDictList
import PyProof.ConsumeWalk
import PyProof.WalkInts
import PyProof.WalksMore
import PyProof.SumAny
import PyProof.Rows.MinMaxN
import PyProof.Rows.SortWalk
import PyProof.ListRange
import KE.KTupSum
import PyProof.FitsBits
import PyProof.CompUse
import KE.KLam
import KE.KNestM
import PyProof.DictWalks
import PyProof.DictItems
import KE.KSortTup
import KE.KItemsList
import KE.KEqDict
import PyProof.MinMaxWalk
import PyProof.SeqI3
import KE.KDictSum
import PyProof.ExcClass3
import PyProof.DictValues
import PySem.Challenge.RW_wornpages_k38_whole_full_share
set_option Elab.async false
set_option linter.all false
set_option maxRecDepth 100000
set_option maxHeartbeats 0
noncomputable abbrev hC:=@if_neg
noncomputable abbrev hG:=@decide_eq_true
noncomputable abbrev hU:=@if_pos
noncomputable abbrev h9:=@decide_eq_false
noncomputable abbrev kQ:=@decide_eq_true_eq
noncomputable abbrev mF:=@of_decide_eq_true
noncomputable abbrev dE:=@congrArg
noncomputable abbrev dJ:=@of_decide_eq_false
noncomputable abbrev dM:=@decide_eq_false_iff_not
noncomputable abbrev d9:=@beq_eq_false_iff_ne
noncomputable abbrev r6:=@beq_iff_eq
noncomputable abbrev pA:=@bne_self_eq_false
noncomputable abbrev pU:=@decide_true
open List renaming mem_cons_of_mem→hV, length_map→hX, mem_singleton→kC, getElem?_eq_getElem→kD, getElem?_eq_some_iff→kE, mem_cons→kI, getD_eq_getElem?_getD→kN, mem_map→kO, mem_cons_self→kZ, size_toArray→mC, length_append→mE, mem_filter→mG, length_cons→mI, length_filter_le→mJ, mem_range→mK, getElem?_map→mL, mem_append_right→mO, map_cons→mR, pairwise_iff_getElem→mZ, take_append_getElem→m7, filter_cons→m9, nodup_cons→gA, map_append→gB, append_assoc→gC, length_range→gD, mem_append→gF, length_singleton→gG, length_take→gH, length_set→gK, pairwise_cons→gM, length_replicate→gN, take_length→gO, mem_append_left→gP, mem_of_getElem?→gQ, filter_append→gT, getElem_mem→gW, pairwise_append→gX, extract_eq_take_drop→gY, pairwise_map→dB, getElem_take→dC, getElem_drop→dD, append_nil→dG, replicate_succ→dP, find?_cons→dQ, drop_eq_getElem_cons→dS, lookup_cons→dU, all_eq_true→dW, length_drop→dY, sum_cons→dZ, length_filterMap_le→d3, nil_append→d5, find?_some→d6, filter_eq_self→rA, pairwise_lt_range→rD, not_mem_nil→rJ, getElem?_eq_none→rM, pairwise_reverse→rO, mem_of_find?_eq_some→rP, exists_mem_of_ne_nil→rR, nodup_append→rW, filterMap_cons→r9, map_congr_left→wA, filter_sublist→wB, getElem?_replicate→wD, mem_filterMap→wH, find?_eq_none→wL, countP_eq_length_filter→wS, take_append_drop→wV, flatten_cons→wX, getElem?_set_ne→wZ, getElem?_append_right→cB, mem_iff_getElem→cD, ext_getElem→cE, any_eq_true→cF, getElem_of_mem→cH, any_cons→cJ, mem_mergeSort→cT, map_replicate→cU, filter_congr→pB, take_of_length_le→pC, take_succ_eq_append_getElem→pE, countP_mono_left→pG, countP_cons→pL, cons_append→pP, dropLast_concat_getLast→p6, mem_map_of_mem→p9, mergeSort_perm→sB, map_eq_nil_iff→sD, reverse_append→sE, map_map→sG, getElem_range→sN, perm_ext_iff_of_nodup→sQ, getElem?_append_left→sR, getElem?_cons_succ→nB, getElem_map→nK, pairwise_mergeSort→nL, nodup_range→nM, mem_reverse→nP, getElem?_set_self→nQ, length_pos_of_mem→lC, of_mem_zip→lE, length_nil→lF, range_succ→lI, length_mergeSort→lL, perm_append_comm→lM, nil_perm→xD, map_set→xY, flatMap_cons→xZ, reverse_perm→x6, find?_append→aA, drop_length→aF, foldl_cons→aI, forIn_cons→aL, perm_cons→aV, nodup_nil→aX, all_cons→bH, map_nil→bJ
open PySem renaming wpAny_bind→kB, wpAny_pure→mH, sizeLine_eq→gL, mem_of_lookup→gU, boot_len→g5, wpAny_holding→g7, wpAny_mono→g8, wpAny_truthy_bool→dA, wpAny_Call_Name_kw→rK, wpAny_passesOwn→rS, wpAny_newList→cL, tupleKind_room_in1→cP, wpAny_rule→cS, codeAny_mono→c7, wpAny_call→pJ, wpAny_standAt→pQ, wpAny_execs_nil→pV, wpAny_field→sV, wpAny_attempt→sX, wpAny_call_entry→nG, seqIndex_neg→nU, wpAny_getItem_list_neg→nX, call_meetsIn→nY, wpAny_isTrue_Compare1→lJ, wpAny_loadName_local→lO, seqIndex_of→lQ, wpAny_setField→lR, codeAny_call_builtin→lS, wpAny_newFunctionEnv→lU, wpAny_newTuple→lW, wpAny_loadName_cell→l9, wpAny_assign_Name→xM, wpAny_Call_method→xR, wpAny_newObj_type→xS, wpAny_Name→aR, typeIs_int→aS, call_meets→aT
open PySem.Heap renaming get?_push_of_some→kF, lt_size→mB, get?_push_size→mU, get?_update_other→mW, size_update→wF, get?_update_self→wT, get?_none_of_le→pR, size_push→sJ, get?_push_ne→x8
open Nat renaming le_refl→kJ, le_trans→mD, zero_le→mQ, lt_of_lt_of_le→mV, ne_of_lt→mY, mul_le_mul_right→gR, le_succ→dL, lt_irrefl→rE, add_mul→rG, one_mul→rH, ne_of_gt→rT, lt_succ_of_lt→rV, zero_add→rX, lt_succ_self→wC, mul_comm→wK, lt_of_le_of_lt→cQ, le_of_lt→cY, le_of_eq→cZ, succ_mul→c8, mod_eq_of_lt→pM, mul_add_mod→pZ, eq_of_mul_eq_mul_right→sO, le_add_right→nH, add_sub_cancel_left→nO, not_lt→n8, div_lt_iff_lt_mul→lN, add_le_add_right→l7, mul_mod_left→aE, not_lt_zero→aN
open PyProof.Rows renaming wpS_bind→kL, wpS_pure→kP, wpS_forRange→gS, wpS_modify→d7, wpS_mono→rB, listUpdate_at→rF, wpS_get→wM, callWith_type1→wW, get?_update_seq→cO, seqEpoch_at→cW, pairsOf_size→c9, wpS_lift→sP, subscriptTail_builtinR→nV, listItems_at→lA, size_push'→lB, entry_list_sort→lG, slot_list_sort→lZ, getElem?_mirror_all→xA, sortedAll_old→xC, sortedAll_at→xU, plain_sorted→xV, entry_sorted→xW, collect_list→xX, kind_sorted→aH
open Bool renaming false_ne_true→kU, and_eq_true→mP, false_eq_true→dH, not_eq_true'→dN, eq_iff_iff→wQ, or_eq_true→wR, eq_false_iff→xT
open Option.some renaming inj→kW
open Array renaming length_toList→kX, toList_append→g9, perm_iff_toList_perm→dO, toList_extract→rZ, size_extract→wO, getElem?_eq_some_iff→cC, getElem?_eq_getElem→cG, toList_push→pD, toList_reverse→pT, getD_eq_getD_getElem?→sF, toList_inj→nI, toList_map→nJ, append_assoc→xG, size_map→aU, map_map→bI
open Int renaming toNat_natCast→mM, le_refl→gE, le_of_lt→gJ, le_trans→gZ, natCast_mul→dR, natCast_ediv→dX, eq_ofNat_of_zero_le→wE, not_lt→pN, mul_le_mul_of_nonneg_right→pO, mul_ediv_cancel_left→sY, mul_nonneg→lT, emod_lt_of_pos→xJ, lt_of_lt_of_le→xK, zero_add→x9, emod_nonneg→aK, natCast_add→aP, mul_le_mul→aW
open Option renaming map_eq_some_iff→m8, isSome_iff_exists→cI, bind_some→pK, isSome_map→xQ, map_some→aM
open List.Pairwise renaming filter→gI, sublist→wU
open PySem.W renaming mg_of→g0, kia_one→g4, methodCall_KW→rL, callWith_K→wI, mg_none_of→wP, looks_findIn→cA, any_some→pI, plainGet_of→p7, callWith_K0→p8, cellsFrom_some→nS, check_slot→xI, make_core→xN, kitx_list→xO, kitx_dict→xP, makes_of→aB, codeHd_of_K→aG
open PySem.PassesOwn renaming never→d8, leaving→wY
open PySem.BindsTo renaming of_defaults→rC
open PySem.Obj renaming isFreed_of_fields→rN, data_mapFields→cR
open Decidable renaming byContradiction→rQ
open Ne renaming symm→wG
open PySem.Calls renaming callWith_builtin→wJ, evalArgs_plain→pS, Name_function_global→sI, spliced_cons→sL, call_function_entry→sS, spliced_nil→sU
open PySem.F renaming slot_dict_itemiterator_iter→cK, slot_list_append→cM, type_list_append→cN, plainAttrs_dict→cV, plainAttrs_list→cX, slot_dict_get→pF, args_dict_get_2→sZ, slot_dict_items→nE, entry_dict_get→nZ, slot_dict_pop→lK, slot_int_rmul→aJ
open List.Perm renaming append_left→pH, append_right→lD
open Array.Perm renaming refl→pW
open Sum.inl renaming inj→sT
open List.Sublist renaming map→nN
open PySem.Around renaming frames_deeper→lP
open PySem.Value renaming isStrOf_shape→l8, isInt_shape→xL
open PySem.Paired renaming length→xB
open PySem.SeqAt.EqAt renaming int_str→xE, str_int→xF, int_int→xH
open PySem.W.Looks renaming ld→aD, of_pure→bK, here→bL
open StateT renaming run_pure→aO
open Iff renaming rfl→aQ
open PySem.EqMixed renaming eq_bool_str→aY, eq_str_bool→aZ, ne_bool_str→bA, ne_str_bool→bB, eq_int_str→bC, eq_str_int→bD, ne_int_str→bE, ne_str_int→bG
set_option genSizeOf false
namespace L2
open PySem PySem.Spec PyProof.Rows
noncomputable abbrev Key:=Sum Int Str
noncomputable def q6I:Key→Value→Bool
| .inl k,v=>Value.isInt k v
| .inr x,v=>Value.isStrOf x v
noncomputable def keyH(w:World):Key→Int
| .inl k=>hashInt k
| .inr x=>hashStr w x
theorem jY:∀{k:Key} {v:Value},q6I k v=true→(∃i t,k=Sum.inl i∧v=Value.int i t)∨(∃x t,k=Sum.inr x∧v=Value.str x t)
| .inl i,v,h=>by obtain⟨t,e⟩:=xL (k:=i) (v:=v) h;exact .inl ⟨i,t,rfl,e⟩
| .inr x,v,h=>by obtain⟨t,e⟩:=l8 (x:=x) (v:=v) h;exact .inr ⟨x,t,rfl,e⟩
theorem qBP(i:Int)(t:Tok):q6I (.inl i) (.int i t)=true:=by simp[q6I,Value.isInt]
theorem qBQ(x:Str)(t:Tok):q6I (.inr x) (.str x t)=true:=by simp[q6I,Value.isStrOf]
theorem qGW(a b:Int):decide ((Sum.inl a:Key)=Sum.inl b)=(a==b):=by(
by_cases e:a=b
·subst e;simp
have h:¬(Sum.inl a:Key)=Sum.inl b:=λq=>e (sT q)
rw[h9 h]
exact(d9.mpr e).symm)
theorem qGX(a b:Str):decide ((Sum.inr a:Key)=Sum.inr b)=decide (a=b):=by(
by_cases e:a=b
·subst e;simp
have h:¬(Sum.inr a:Key)=Sum.inr b:=λq=>e (Sum.inr.inj q)
rw[h9 h,h9 e])
theorem qGY(a:Int)(b:Str):decide ((Sum.inl a:Key)=Sum.inr b)=false:=h9 (λq=>nomatch q)
theorem qGZ(a:Str)(b:Int):decide ((Sum.inr a:Key)=Sum.inl b)=false:=h9 (λq=>nomatch q)
noncomputable def jQ(prog:Program)(w:World):PySem.KeyKind prog w Key where
is:=q6I
hash:=keyH w
inj:=λv a b ha hb=>by
 rcases jY ha with⟨i,t,rfl,rfl⟩|⟨x,t,rfl,rfl⟩
 ·rcases jY hb with⟨j,u,rfl,e⟩|⟨y,u,rfl,e⟩
  ·injection e with e1 _;rw[e1]
  exact nomatch e
 rcases jY hb with⟨j,u,rfl,e⟩|⟨y,u,rfl,e⟩
 ·exact nomatch e
 injection e with e1 _;rw[e1]
byValue:=λk v h=>by rcases jY h with⟨i,t,rfl,rfl⟩|⟨x,t,rfl,rfl⟩<;>rfl
pyHash:=λhv h=>by
 rcases jY hv with⟨i,t,rfl,rfl⟩|⟨x,t,rfl,rfl⟩
 ·exact wpAny_pyHash_int h
 exact wpAny_pyHash_str h
eqBool:=λhu hv h=>by
 rcases jY hu with⟨i,t,rfl,rfl⟩|⟨x,t,rfl,rfl⟩
 ·rcases jY hv with⟨j,u,rfl,rfl⟩|⟨y,u,rfl,rfl⟩
  ·rw[qGW]at h;exact wpAny_eqBool_int h
  rw[qGY]at h;exact xE i t y u _ _ _ _ h
 rcases jY hv with⟨j,u,rfl,rfl⟩|⟨y,u,rfl,rfl⟩
 ·rw[qGZ]at h;exact xF x t j u _ _ _ _ h
 rw[qGX]at h;exact wpAny_eqBool_str h
«strs»:=λk x t v h=>by
 rcases jY h with⟨i,u,rfl,e⟩|⟨y,u,rfl,e⟩
 ·exact nomatch e
 injection e with e1 _
 subst e1;cases v<;>rfl
theorem q8E(prog:Program)(w:World)(i:Int)(t:Tok):(jQ prog w).is (.inl i) (.int i t)=true:=qBP i t
theorem q8F(prog:Program)(w:World)(x:Str)(t:Tok):(jQ prog w).is (.inr x) (.str x t)=true:=qBQ x t
inductive V where
|non|bl (b:Bool)|int (i:Int)|str (x:Str)|byt (b:Array UInt8)|flt (b:UInt64)|ref (a:Addr)|ty (n:String)
deriving DecidableEq
noncomputable def RelV:V→Value→Prop
| .non,u=>u=Value.none
| .bl b,u=>u=Value.bool b
| .int i,u=>∃t,u=Value.int i t
| .str x,u=>∃t,u=Value.str x t
| .byt b,u=>∃t,u=Value.bytes b t
| .flt b,u=>∃t,u=Value.float b t
| .ref a,u=>u=Value.ref a
| .ty n,u=>u=Value.type n
noncomputable abbrev Vals:List V→List Value→Prop:=Paired RelV
theorem Vals.length{xs:List V}{us:List Value}(r:Vals xs us):xs.length=us.length:=xB r
theorem Vals.get:∀{xs:List V} {us:List Value} {i:Nat} {x:V},Vals xs us→xs[i]?=some x→∃u,us[i]?=some u∧RelV x u
|_,_,_,_,.nil,e=>by simp at e
|_,_,0,_,.cons r _,e=>by simp at e;subst e;exact⟨_,rfl,r⟩
|_,_,i+1,x,.cons _ t,e=>by obtain⟨u,h1,h2⟩:=Vals.get (i:=i) (x:=x) t (by simpa using e);exact⟨u,by simpa using h1,h2⟩
theorem Vals.set{x:V}{u:Value}(r:RelV x u):∀{xs:List V} {us:List Value} (i:Nat),Vals xs us→Vals (xs.set i x) (us.set i u)
|_,_,_,.nil=>.nil
|_,_,0,.cons _ t=>.cons r t
|_,_,i+1,.cons q t=>.cons q (Vals.set r i t)
theorem Vals.append:∀{xs ys:List V} {us ws:List Value},Vals xs us→Vals ys ws→Vals (xs++ys) (us++ws)
|_,_,_,_,.nil,s=>s
|_,_,_,_,.cons r t,s=>.cons r (Vals.append t s)
noncomputable def RelO:Option V→Option Value→Prop
|some v,some u=>RelV v u
|none,none=>True
|_,_=>False
noncomputable def KV{κ:Type}:List (κ×V)→List (κ×Value)→Prop:=Paired λ(p:κ×V) (q:κ×Value)=>p.1=q.1∧RelV p.2 q.2
noncomputable def kV:Key→V
| .inl i=>.int i
| .inr x=>.str x
inductive HO where
|lst (xs:List V)
|tup (xs:List V)
|dK (kvs:List (Key×V))|dT (kvs:List (List Key×V))
|set (S:Int→Bool) (n:Nat)
|ins (C dx:Addr) (fs:List (Str×V))
|own (x:Addr)
|xd (fs:List (Str×V))
|met (f x:Addr)
|rng (lo hi:Int)
|frz (o:Obj) (u:HO)
|tbl (ps:Array Value)
|ext (φ:Heap→Prop)
noncomputable abbrev Hp:=Addr→Option HO
noncomputable def upd(H:Hp)(a:Addr)(o:HO):Hp:=λb=>if b=a then some o else H b
theorem qH{H:Hp}{a:Addr}{o:HO}:upd H a o a=some o:=by unfold upd;rw[hU rfl]
theorem qC{H:Hp}{a b:Addr}{o:HO}(h:b≠a):upd H a o b=H b:=by unfold upd;rw[hC h]
theorem q78{H:Hp}{a:Addr}{o u:HO}:upd (upd H a o) a u=upd H a u:=by funext b;unfold upd;split<;>rfl
theorem jM{H:Hp}{a b:Addr}{o u:HO}(h:H a=some o)(h':H b=some u)(d:o≠u):a≠b:=by intro e;subst e;rw[h]at h';exact d (kW h')
theorem qI{H:Hp}{a b:Addr}{o:HO}(h:H a=some o)(h':H b=none):a≠b:=by intro e;subst e;rw[h]at h';cases h'
section
variable(P:Program)(w:World)
noncomputable def jH(H:Hp)(h:Heap)(a:Addr):HO→Prop
| .lst xs=>xs.length≤sizeLine∧∃(its:List Value) (n:Nat),Vals xs its∧h.get? a=some { cls:=.type "list",data:=.seq its.toArray n }
| .tup xs=>xs.length≤sizeLine∧∃its:List Value,Vals xs its∧IsTup h a its.toArray
| .dK kvs=>kvs.length≤sizeLine∧(a==sysModules)=false∧∃vs,KV kvs vs∧h.DictOf (jQ P w) a vs
| .dT kvs=>kvs.length≤sizeLine∧(a==sysModules)=false∧∃xs:List (List Key×Addr×Value),Paired (λ(p:List Key×V) (q:List Key×Addr×Value)=>p.1=q.1∧H q.2.1=some (.tup (p.1.map kV))∧RelV p.2 q.2.2) kvs xs∧∃o es ep,h.get? a=some o∧o.ExactDict∧o.data=.dict es ep∧es.toList=xs.map (entryOfKey (tupleKind (jQ P w)))∧(xs.map (·.1)).Nodup
| .set S n=>h.SetOf (intKind P w) a S n
| .ins C dx fs=>H dx=some (.own a)∧fs.length≤1000∧dx≠a∧h.get? a=some (PySem.W.instObj C dx)∧∃mA,h.Ns1 dx mA∧(∀f,RelO (fs.lookup f) (mA f))∧PySem.Within mA (fs.map (·.1))
| .own _=>∃o,h.get? a=some o
| .xd fs=>∃mA,h.Ns1 a mA∧∀f,RelO (fs.lookup f) (mA f)
| .rng lo hi=>∃t u v,h.get? a=some { cls:=.type "range",data:=.fields #[.int lo t,.int hi u,.int 1 v] }
| .frz o u=>h.get? a=some o∧jH H h a u
| .tbl ps=>h.get? a=some { cls:=.none,data:=.fields ps }
| .met f x=>h.get? a=some (PySem.W.methodObj (.ref f) (.ref x))
| .ext φ=>φ h∧(∃o,h.get? a=some o)∧∀h1 h2:Heap,φ h1→(∀o,h1.get? a=some o→h2.get? a=some o)→φ h2
noncomputable def HOk(H:Hp)(h:Heap):Prop:=∀a o,H a=some o→jH P w H h a o
end
section
variable{P:Program}{w:World}{H H':Hp}{h h':Heap}{a:Addr}{o:HO}
theorem jH.lt(x:jH P w H h a o):a<h.objs.size:=by(
cases o with
|lst xs=>obtain⟨_,_,_,_,e⟩:=x;exact mB e
|tup xs=>obtain⟨_,_,_,p⟩:=x;exact p.lt
|dK kvs=>obtain⟨_,_,_,_,o,_,_,e,_⟩:=x;exact mB e
|dT kvs=>obtain⟨_,_,_,_,o,_,_,e,_⟩:=x;exact mB e
|set S n=>obtain⟨o,_,_,_,e,_⟩:=x;exact mB e
|ins C dx fs=>obtain⟨_,_,_,e,_⟩:=x;exact mB e
|own y=>obtain⟨_,e⟩:=x;exact mB e
|xd fs=>obtain⟨_,⟨_,_,_,e,_⟩,_⟩:=x;exact mB e
|rng lo hi=>obtain⟨_,_,_,e⟩:=x;exact mB e
|frz ob u=>obtain⟨e,_⟩:=x;exact mB e
|tbl ps=>exact mB (show h.get? a=some _ from x)
|met f y=>exact mB (show h.get? a=some _ from x)
|ext φ=>obtain⟨_,⟨_,e⟩,_⟩:=x;exact mB e)
theorem Paired.mapP{α β:Type}{F G:α→β→Prop}:∀{l₁:List α} {l₂:List β},Paired F l₁ l₂→(∀a b,F a b→G a b)→Paired G l₁ l₂
|_,_,.nil,_=>.nil
|_,_,.cons r t,f=>.cons (f _ _ r) (Paired.mapP t f)
theorem jH.stay(x:jH P w H h a o)(k:∀b u,(b=a∨H b=some (.own a))→h.get? b=some u→h'.get? b=some u)
 (ho:∀b,H b=some (.own a)→H' b=some (.own a)) (ht:∀b xs,H b=some (.tup xs)→H' b=some (.tup xs)):jH P w H' h' a o:=by(
induction o with
|lst xs=>obtain⟨z,its,n,r,e⟩:=x;exact⟨z,its,n,r,k _ _ (.inl rfl) e⟩
|tup xs=>obtain⟨z,its,r,ob,e,c⟩:=x;exact⟨z,its,r,ob,k _ _ (.inl rfl) e,c⟩
|dK kvs=>obtain⟨z,y,vs,r,ob,es,ep,e,c⟩:=x;exact⟨z,y,vs,r,ob,es,ep,k _ _ (.inl rfl) e,c⟩
|dT kvs=>obtain⟨z,y,xs,r,ob,es,ep,e,c⟩:=x;exact⟨z,y,xs,Paired.mapP r λp q z=>⟨z.1,ht _ _ z.2.1,z.2.2⟩,ob,es,ep,k _ _ (.inl rfl) e,c⟩
|set S n=>obtain⟨ob,es,ep,t,e,c⟩:=x;exact⟨ob,es,ep,t,k _ _ (.inl rfl) e,c⟩
|ins C dx fs=>obtain⟨d,z,ne,e,mA,⟨od,es,ep,e2,c⟩,r⟩:=x;exact⟨ho _ d,z,ne,k _ _ (.inl rfl) e,mA,⟨od,es,ep,k _ _ (.inr d) e2,c⟩,r⟩
|own y=>obtain⟨ob,e⟩:=x;exact⟨ob,k _ _ (.inl rfl) e⟩
|xd fs=>obtain⟨mA,⟨od,es,ep,e,c⟩,r⟩:=x;exact⟨mA,⟨od,es,ep,k _ _ (.inl rfl) e,c⟩,r⟩
|rng lo hi=>obtain⟨t,u,v,e⟩:=x;exact⟨t,u,v,k _ _ (.inl rfl) e⟩
|frz ob u ih=>obtain⟨e,q⟩:=x;exact⟨k _ _ (.inl rfl) e,ih q⟩
|tbl ps=>have e:h.get? a=some { cls:=.none,data:=.fields ps }:=x;show h'.get? a=some { cls:=.none,data:=.fields ps };exact k a _ (.inl rfl) e
|met f y=>have e:h.get? a=some (PySem.W.methodObj (.ref f) (.ref y)):=x;show h'.get? a=some (PySem.W.methodObj (.ref f) (.ref y));exact k a _ (.inl rfl) e
|ext φ=>obtain⟨p,⟨o,e⟩,st⟩:=x;exact⟨st _ _ p λo q=>k _ _ (.inl rfl) q,⟨o,k _ _ (.inl rfl) e⟩,st⟩)
theorem HOk.lt(x:HOk P w H h)(e:H a=some o):a<h.objs.size:=(x a o e).lt
theorem HOk.fresh(x:HOk P w H h)(e:h.objs.size≤a):H a=none:=by(
cases q:H a with
|none=>rfl
|some u=>exact absurd (mV (x.lt q) e) (rE _))
theorem HOk.kept(x:HOk P w H h)(k:∀b u,h.get? b=some u→h'.get? b=some u):HOk P w H h':=λa o e=>(x a o e).stay (λb u _ q=>k b u q) (λ_ q=>q) λ_ _ q=>q
theorem HOk.laid(x:HOk P w H h)(k:∀b u,h.get? b=some u→h'.get? b=some u)(hp:h.objs.size≤a)(new:jH P w (upd H a o) h' a o):HOk P w (upd H a o) h':=λb u e=>by(
have hn:=x.fresh hp
by_cases hb:b=a
·subst hb;rw[qH]at e;cases e;exact new
rw[qC hb]at e
exact(x b u e).stay (λc v _ q=>k c v q) (λc q=>by rw[qC (qI q hn)];exact q) λc xs q=>by rw[qC (qI q hn)];exact q)
end
noncomputable def Rd(H:Hp)(a:Addr)(u:HO):Prop:=H a=some u∨∃o,H a=some (.frz o u)
theorem Rd.ok{P:Program}{w:World}{H:Hp}{h:Heap}{a:Addr}{u:HO}(r:Rd H a u)(x:HOk P w H h):jH P w H h a u:=by(
rcases r with r|⟨o,r⟩
·exact x a u r
obtain⟨_,q⟩:=x a _ r
exact q)
noncomputable def Mut:Option HO→Prop
|some (.lst _)=>True
|some (.dK _)=>True
|some (.dT _)=>True
|some (.set _ _)=>True
|some (.ins _ _ _)=>True
|some (.ext _)=>True
|_=>False
section
variable{P:Program}{w:World}{H:Hp}{h h':Heap}{x e:Addr}{o':HO}
theorem HOk.write(ok:HOk P w H h)(mu:Mut (H x))(he:e=x∨H e=some (.own x))(k:∀b u,b≠e→h.get? b=some u→h'.get? b=some u)(heo:∃u,h'.get? e=some u)
 (new:jH P w (upd H x o') h' x o'):HOk P w (upd H x o') h':=λb u q=>by(
have nown:∀c y,H c=some (.own y)→c≠x:=λc y r z=>by subst z;rw[r]at mu;exact mu
have ntup:∀c xs,H c=some (.tup xs)→c≠x:=λc xs r z=>by subst z;rw[r]at mu;exact mu
by_cases hb:b=x
·subst hb;rw[qH]at q;cases q;exact new
rw[qC hb]at q
by_cases hbe:b=e
·have q':H b=some (.own x):=by
  rcases he with z|z
  ·exact absurd (hbe.trans z) hb
  rw[hbe];exact z
 rw[q]at q';cases q';obtain⟨v,hv⟩:=heo;exact⟨v,by rw[hbe];exact hv⟩
refine(ok b u q).stay (λc v hc r=>k c v ?_ r) (λc r=>by rw[qC (nown c b r)];exact r) λc xs r=>by rw[qC (ntup c xs r)];exact r
rcases hc with rfl|hc
·exact hbe
rintro rfl
rcases he with z|z
·exact nown c b hc z
rw[hc]at z;cases z;exact hb rfl)
end
structure Un(fs ex:List Addr)(H H':Hp)(h h':Heap):Prop where
keep:∀b o,h.get? b=some o→H b=none→b∉fs→b∉ex→h'.get? b=some o
slot:∀b o,h.get? b=some o→H b=none→b∈fs→b∉ex→∃sl,h'.get? b=some { o with slots:=sl }
free:∀b o,h.get? b=some o→H b=none→b∉ex→H' b=none
there:∀b o,h.get? b=some o→b∉ex→∃o',h'.get? b=some o'
tups:∀b xs,H b=some (.tup xs)→H' b=some (.tup xs)
frzs:∀b o u,H b=some (.frz o u)→H' b=some (.frz o u)
tbls:∀b ps,H b=some (.tbl ps)→∃more,H' b=some (.tbl (ps++more))
section
variable{fs fs' ex ex':List Addr}{H H1 H2:Hp}{h h1 h2 h':Heap}{a x e:Addr}{o:HO}
theorem Un.any(u:Un fs ex H H1 h h1){b:Addr}{ob:Obj}(q:h.get? b=some ob)(n:H b=none)(hx:b∉ex):∃sl,h1.get? b=some { ob with slots:=sl }:=by(
by_cases hb:b∈fs
·exact u.slot b ob q n hb hx
exact⟨ob.slots,u.keep b ob q n hb hx⟩)
theorem Un.trans(a:Un fs ex H H1 h h1)(b:Un fs ex H1 H2 h1 h2):Un fs ex H H2 h h2 where
keep:=λc ob q n hc hx=>b.keep c ob (a.keep c ob q n hc hx) (a.free c ob q n hx) hc hx
slot:=λc ob q n hc hx=>by obtain⟨sl,e1⟩:=a.slot c ob q n hc hx;obtain⟨sl',e2⟩:=b.slot c _ e1 (a.free c ob q n hx) hc hx;exact⟨sl',e2⟩
free:=λc ob q n hx=>by obtain⟨o',e1⟩:=a.there c ob q hx;exact b.free c o' e1 (a.free c ob q n hx) hx
there:=λc ob q hx=>by obtain⟨o',e1⟩:=a.there c ob q hx;exact b.there c o' e1 hx
tups:=λc xs q=>b.tups c xs (a.tups c xs q)
frzs:=λc ob xs q=>b.frzs c ob xs (a.frzs c ob xs q)
tbls:=λc ps q=>by obtain⟨m1,e1⟩:=a.tbls c ps q;obtain⟨m2,e2⟩:=b.tbls c _ e1;exact⟨m1++m2,by rw[e2,xG]⟩
theorem Un.kept(k:∀b u,h.get? b=some u→h'.get? b=some u):Un fs ex H H h h':=⟨λb ob q _ _ _=>k b ob q,λb ob q _ _ _=>⟨ob.slots,k b ob q⟩,λ_ _ _ n _=>n,λb ob q _=>⟨ob,k b ob q⟩,λ_ _ q=>q,λ_ _ _ q=>q,λ_ ps q=>⟨#[],by rw[q];simp⟩⟩
theorem Un.refl:Un fs ex H H h h:=Un.kept λ_ _ q=>q
theorem Un.laid(k:∀b u,h.get? b=some u→h'.get? b=some u)(hp:h.objs.size≤a)(hn:H a=none):Un fs ex H (upd H a o) h h' where
keep:=λb u q _ _ _=>k b u q
slot:=λb u q _ _ _=>⟨u.slots,k b u q⟩
free:=λb u q n _=>by rw[qC (mY (mV (mB q) hp))];exact n
there:=λb u q _=>⟨u,k b u q⟩
tups:=λb xs q=>by rw[qC (qI q hn)];exact q
frzs:=λb u xs q=>by rw[qC (qI q hn)];exact q
tbls:=λb ps q=>⟨#[],by rw[qC (qI q hn),q];simp⟩
theorem Un.write(mu:Mut (H x))(he:e=x∨H e=some (.own x))(k:∀b u,b≠e→h.get? b=some u→h'.get? b=some u)(heo:∃u,h'.get? e=some u):Un fs ex H (upd H x o) h h':=by(
have hx:∀b,H b=none→b≠x:=λb n z=>by subst z;rw[n]at mu;exact mu
have hb:∀b,H b=none→b≠e:=λb n z=>by
 subst z;rcases he with r|r
 ·exact hx b n r
 rw[n]at r;cases r
have hm:∀b u,H b=some u→¬Mut (some u)→b≠x:=λb u q nm z=>by subst z;rw[q]at mu;exact nm mu
refine⟨λb u q n _ _=>k b u (hb b n) q,λb u q n _ _=>⟨u.slots,k b u (hb b n) q⟩,λb u q n _=>by rw[qC (hx b n)];exact n,λb u q _=>?_,λb xs q=>by rw[qC (hm b _ q λz=>z)];exact q,λb u xs q=>by rw[qC (hm b _ q λz=>z)];exact q,λb ps q=>⟨#[],by rw[qC (hm b _ q λz=>z),q];simp⟩⟩
by_cases hbe:b=e
·subst hbe;exact heo
exact⟨u,k b u hbe q⟩)
end
noncomputable def trk(h:Heap)(H:Hp):List Addr:=(List.range h.objs.size).filter λa=>(H a).isSome
noncomputable def hidT(h:Heap)(H:Hp):Heap:=PySem.W.hideAll h (trk h H)
theorem q6J(h:Heap)(H:Hp):(hidT h H).objs.size=h.objs.size:=PySem.W.hideAll_size _ _
theorem q4U{h:Heap}{H:Hp}{b:Addr}{o:Obj}(e:h.get? b=some o)(n:H b=none):(hidT h H).get? b=some o:=PySem.W.hideAll_get _ e λhm=>by  have q:(H b).isSome=true:=(mG.mp hm).2;rw[n]at q;simp at q
theorem qAL{h:Heap}{H:Hp}{b:Addr}{o:Obj}(e:(hidT h H).get? b=some o):h.get? b=some o∧H b=none:=by(
have e':h.get? b=some o:=PySem.W.of_hideAll (trk h H) e
refine⟨e',?_⟩
cases q:H b with
|none=>rfl
|some x=>have hm:b∈trk h H:=mG.mpr ⟨mK.mpr (mB e'),by simp[q]⟩;have z:(hidT h H).get? b=none:=PySem.W.hideAll_none (trk h H) hm;rw[z]at e;cases e)
structure Mod(K:PySem.W.Frag)(mg:Str→Option Value)(base:Heap):Prop where
kin:K.In base
glob:base.Ns mainGlobals mg
blt:∃mb,base.Ns builtinsNs mb∧∀x:Str,x≠"__name__"→mb x=bootBuiltins x
nolimit:base.NoLimit
structure Cx where
prog:Program
w:World
K:PySem.W.Frag
mg:Str→Option Value
base:Heap
A:Around
N:List Str
s₀:Shared
H₀:Hp
env:Env
outer:List Env
stack:List Env
ex:List Addr
fn:Str→Bool
calm:Bool
pn:List (Addr×Obj)
xe:Value→Shared→Prop
noncomputable def frs(l:List Env):List Addr:=l.filterMap (·.frame)
noncomputable abbrev Cx.fs(X:Cx):List Addr:=frs X.outer
noncomputable def Vis(sc:Scope)(x:Str):Prop:=sc.names.lookup x=some .local∨sc.names.lookup x=some .cell∨sc.names.lookup x=some .free
noncomputable def Loc(sc:Scope)(x:Str):Prop:=sc.names.lookup x=some .local∨sc.names.lookup x=some .cell
noncomputable def Look(env:Env)(h:Heap)(m:Str→Option Value)(x:Str)(u:Value):Prop:=(env.kindOf x=some .local∧m x=some u)∨((env.kindOf x=some .cell∨env.kindOf x=some .free)∧∃c,env.cells.lookup x=some c∧h.IsCell c (some u))
structure Cx.Ok(X:Cx):Prop where
mod:Mod X.K X.mg X.base
kind:X.env.scope.kind=.function
glob:X.env.globals=mainGlobals
blt:X.env.builtins=builtinsNs
above:X.s₀.heap.objs.size≤X.env.locals
inj:∀x y c,X.env.cells.lookup x=some c→X.env.cells.lookup y=some c→x=y
has:∀x,(X.env.kindOf x=some .cell∨X.env.kindOf x=some .free)→∃c,X.env.cells.lookup x=some c
cab:∀x c,X.fn x=true→X.env.cells.lookup x=some c→X.s₀.heap.objs.size≤c
hd:X.calm=true→X.A.handled=none
frames:X.A.frames=some X.stack
stk:X.stack=X.outer∨(X.stack=X.env::X.outer∧X.env.frame=some X.env.locals)
exf:∀b∈X.ex,b≠X.env.locals∧∀x c,X.env.cells.lookup x=some c→c≠b
bs:∀b o,X.base.get? b=some o→X.s₀.heap.get? b=some o∧X.H₀ b=none
bsz:X.base.objs.size≤X.s₀.heap.objs.size
noex:∀b o,X.base.get? b=some o→b∉X.ex
exfs:∀b∈X.ex,b∉X.fs
funs:X.s₀.heap.FunFrames X.base X.outer
frf:∀b∈X.fs,X.H₀ b=none
structure Inv(X:Cx)(pins:List (Addr×Obj))(σ:List (Option V))(H:Hp)(s:Shared):Prop where
ok:X.Ok
os:s.os=X.s₀.os
bare:AllBare s.gens
base:Un X.fs X.ex X.H₀ H X.s₀.heap s.heap
loc:∃m,s.heap.Ns X.env.locals m∧∀(i:Nat) (x:Str) (v:V),X.N[i]?=some x→σ[i]?=some (some v)→Vis X.env.scope x→∃u,RelV v u∧Look X.env s.heap m x u
cell:∀x c,X.env.cells.lookup x=some c→∃v,s.heap.IsCell c v
free:H X.env.locals=none
freeC:∀x c,X.env.cells.lookup x=some c→H c=none
pin:∀p∈X.pn++pins,s.heap.get? p.1=some p.2∧H p.1=none∧p.1≠X.env.locals∧p.1∉X.fs∧∀v,p.2.data≠ .cell v
hok:HOk X.prog X.w H s.heap
len:σ.length=X.N.length
section
variable{X:Cx}{pins:List (Addr×Obj)}{σ:List (Option V)}{H H':Hp}{s:Shared}{h':Heap}
theorem Cx.Ok.nofr(ok:X.Ok){b:Addr}{o:Obj}(e:X.base.get? b=some o):b∉X.fs:=λhb=>by have:=(ok.funs.mem hb).1;rw[e]at this;cases this
theorem Inv.bs(I:Inv X pins σ H s):∀b o,X.base.get? b=some o→s.heap.get? b=some o∧H b=none:=λb o e=>⟨I.base.keep b o (I.ok.bs b o e).1 (I.ok.bs b o e).2 (I.ok.nofr e) (I.ok.noex b o e),I.base.free b o (I.ok.bs b o e).1 (I.ok.bs b o e).2 (I.ok.noex b o e)⟩
theorem Inv.bk(I:Inv X pins σ H s):∀b o,X.base.get? b=some o→s.heap.get? b=some o:=λb o e=>(I.bs b o e).1
theorem Inv.mod(I:Inv X pins σ H s):Mod X.K X.mg X.base:=I.ok.mod
theorem Inv.kIn(I:Inv X pins σ H s):X.K.In s.heap:=I.ok.mod.kin.keeps I.bk
theorem Inv.fr(I:Inv X pins σ H s):∃m,Fr X.base X.env.locals s.heap m:=let⟨m,hn,_⟩:=I.loc
 ⟨m,hn,I.bk,mD I.ok.bsz I.ok.above⟩
theorem Inv.lt(I:Inv X pins σ H s):X.env.locals<s.heap.objs.size:=let⟨_,hn,_⟩:=I.loc;hn.lt
theorem Inv.sz(I:Inv X pins σ H s):X.s₀.heap.objs.size≤s.heap.objs.size:=mD I.ok.above (cY I.lt)
theorem Inv.nofs(I:Inv X pins σ H s){a:Addr}(h:s.heap.objs.size≤a):a∉X.fs:=λhb=>by obtain⟨_,o,ho,_⟩:=I.ok.funs.mem hb;exact absurd (mV (mB ho) (mD I.sz h)) (rE _)
theorem Inv.cne(I:Inv X pins σ H s):∀x c,X.env.cells.lookup x=some c→c≠X.env.locals:=λx c e z=>by obtain⟨v,o,ho,hd⟩:=I.cell x c e;obtain⟨m,⟨o',es,ep,ho',hd',_⟩,_⟩:=I.loc;rw[z,ho']at ho;cases ho;rw[hd']at hd;cases hd
theorem Inv.funs(I:Inv X pins σ H s):s.heap.FunFrames X.base X.outer:=by(
have all:∀(l:List Env),(∀b∈frs l,b∈X.fs)→X.s₀.heap.FunFrames X.base l→s.heap.FunFrames X.base l:=by
 intro l;induction l with
 |nil=>intro _ _;trivial
 |cons env r ih=>intro hs hl;obtain⟨hk,⟨L,o,hf,hn,ho,hd⟩,hr⟩:=hl;have hL:L∈X.fs:=hs L (by unfold frs;rw[r9,hf];exact kZ);obtain⟨sl,e⟩:=I.base.slot L o ho (I.ok.frf L hL) hL λz=>I.ok.exfs L z hL;exact⟨hk,⟨L,_,hf,hn,e,hd⟩,ih (λb hb=>hs b (by unfold frs;rw[r9,hf];exact hV _ hb)) hr⟩
exact all X.outer (λ_ hb=>hb) I.ok.funs)
theorem Inv.stack(I:Inv X pins σ H s):s.heap.FunFrames X.base X.stack:=by(
rcases I.ok.stk with e|⟨e,hf⟩
·rw[e];exact I.funs
rw[e]
obtain⟨m,hn,_⟩:=I.loc
refine .cons (by rw[I.ok.kind];decide) hf hn ?_ I.funs
exact pR (mD I.ok.bsz I.ok.above))
theorem Inv.stkSub(I:Inv X pins σ H s):∀b∈frs X.stack,b∈X.env.locals::X.fs:=λb hb=>by(
rcases I.ok.stk with e|⟨e,hf⟩
·rw[e]at hb;exact hV _ hb
rw[e]at hb
unfold frs at hb
rw[r9,hf]at hb
exact hb)
theorem Inv.stkFree(I:Inv X pins σ H s):∀b∈frs X.stack,H b=none:=λb hb=>by(
rcases kI.mp (I.stkSub b hb)with e|hb
·rw[e];exact I.free
obtain⟨_,o,ho,_⟩:=I.ok.funs.mem hb
exact I.base.free b o ho (I.ok.frf b hb) λz=>I.ok.exfs b z hb)
theorem Inv.step{g':Array GenState}{t':Nat}{d':Drawn}{ch:List Addr}(I:Inv X pins σ H s)
 (hch:∀b∈ch,(b∈X.ex∨X.s₀.heap.objs.size≤b)∧b≠X.env.locals∧(∀x c,X.env.cells.lookup x=some c→c≠b)∧∀p∈X.pn++pins,p.1≠b)
 (keep:∀b o,b≠X.env.locals→b∉X.fs→b∉ch→s.heap.get? b=some o→H b=none→h'.get? b=some o)
 (slot:∀b o,b≠X.env.locals→b∈X.fs→b∉ch→s.heap.get? b=some o→H b=none→∃sl,h'.get? b=some { o with slots:=sl }) (free:∀b o,b∉ch→s.heap.get? b=some o→H b=none→H' b=none)
 (there:∀b o,b∉ch→s.heap.get? b=some o→∃o',h'.get? b=some o')
 (tups:∀b xs,H b=some (.tup xs)→H' b=some (.tup xs)) (frzs:∀b o u,H b=some (.frz o u)→H' b=some (.frz o u)) (tbls:∀b ps,H b=some (.tbl ps)→∃more,H' b=some (.tbl (ps++more)))
 (ns:∀m,s.heap.Ns X.env.locals m→h'.Ns X.env.locals m) (hok:HOk X.prog X.w H' h') (hg:AllBare g'):
 Inv X pins σ H' { s with heap:=h',gens:=g',drawn:=d',toks:=t' }:=by(
have neL:∀b o,X.s₀.heap.get? b=some o→b≠X.env.locals:=λb o e=>mY (mV (mB e) I.ok.above)
have neC:∀b o,X.s₀.heap.get? b=some o→b∉X.ex→b∉ch:=λb o e hx hb=>by
 rcases(hch b hb).1 with z|z
 ·exact hx z
 exact absurd (mV (mB e) z) (rE _)
have cellK:∀x c,X.env.cells.lookup x=some c→∀v,s.heap.IsCell c v→h'.IsCell c v:=λx c e v ⟨o,ho,hd⟩=>by
 have nch:c∉ch:=λz=>(hch c z).2.2.1 x c e rfl;by_cases hc:c∈X.fs
 ·obtain⟨sl,q⟩:=slot c o (I.cne x c e) hc nch ho (I.freeC x c e);exact⟨_,q,hd⟩
 exact⟨o,keep c o (I.cne x c e) hc nch ho (I.freeC x c e),hd⟩
refine⟨I.ok,I.os,hg,⟨λb o e n hb hx=>?_,λb o e n hb hx=>?_,λb o e n hx=>?_,λb o e hx=>?_,λb xs e=>tups b xs (I.base.tups b xs e),λb o xs e=>frzs b o xs (I.base.frzs b o xs e),λb ps e=>?_⟩,?_,λx c e=>?_,?_,λx c e=>?_,λp hp=>?_,hok,I.len⟩
·exact keep b o (neL b o e) hb (neC b o e hx) (I.base.keep b o e n hb hx) (I.base.free b o e n hx)
·obtain⟨sl,e1⟩:=I.base.slot b o e n hb hx;obtain⟨sl',e2⟩:=slot b _ (neL b o e) hb (neC b o e hx) e1 (I.base.free b o e n hx);exact⟨sl',e2⟩
·obtain⟨o',e1⟩:=I.base.there b o e hx;exact free b o' (neC b o e hx) e1 (I.base.free b o e n hx)
·obtain⟨o',e1⟩:=I.base.there b o e hx;exact there b o' (neC b o e hx) e1
·obtain⟨m1,e1⟩:=I.base.tbls b ps e;obtain⟨m2,e2⟩:=tbls b _ e1;exact⟨m1++m2,by rw[e2,xG]⟩
·obtain⟨m,hn,hl⟩:=I.loc;refine⟨m,ns m hn,λi x v e1 e2 e3=>?_⟩;obtain⟨u,r,l⟩:=hl i x v e1 e2 e3;refine⟨u,r,?_⟩;rcases l with l|⟨k,c,e,z⟩
 ·exact .inl l
 exact .inr ⟨k,c,e,cellK x c e _ z⟩
·obtain⟨v,z⟩:=I.cell x c e;exact⟨v,cellK x c e v z⟩
·obtain⟨m,⟨o,_,_,ho,_⟩,_⟩:=I.loc;exact free _ o (λz=>(hch _ z).2.1 rfl) ho I.free
·obtain⟨v,o,ho,hd⟩:=I.cell x c e;exact free c o (λz=>(hch c z).2.2.1 x c e rfl) ho (I.freeC x c e)
obtain⟨e,n,ne,nf,d⟩:=I.pin p hp
have nch:p.1∉ch:=λz=>(hch p.1 z).2.2.2 p hp rfl
exact⟨keep p.1 p.2 ne nf nch e n,free p.1 p.2 nch e n,ne,nf,d⟩)
theorem Inv.un{t':Nat}(I:Inv X pins σ H s)(u:Un X.fs [] H H' s.heap h')(hok:HOk X.prog X.w H' h'):Inv X pins σ H' { s with heap:=h',toks:=t' }:=by obtain⟨m,⟨o,es,ep,ho,r⟩,_⟩:=id I.loc;obtain⟨sl,hL⟩:=u.any ho I.free (by simp);exact I.step (g':=s.gens) (d':=s.drawn) (ch:=[]) (λ_ z=>nomatch z) (λb o _ hb _ e n=>u.keep b o e n hb (by simp)) (λb o _ hb _ e n=>u.slot b o e n hb (by simp)) (λb o _ e n=>u.free b o e n (by simp)) (λb o _ e=>u.there b o e (by simp)) u.tups u.frzs u.tbls (λm' hm=>by obtain⟨o',es',ep',ho',r'⟩:=hm;rw[ho]at ho';cases ho';exact⟨_,es',ep',hL,r'⟩) hok I.bare
theorem Inv.call{g':Array GenState}{t':Nat}{d':Drawn}{ch:List Addr}(I:Inv X pins σ H s)(u:Un (frs X.stack) ch H H' s.heap h')(hok:HOk X.prog X.w H' h')(hg:AllBare g')
 (hch:∀b∈ch,(b∈X.ex∨X.s₀.heap.objs.size≤b)∧b≠X.env.locals∧(∀x c,X.env.cells.lookup x=some c→c≠b)∧∀p∈X.pn++pins,p.1≠b):
 Inv X pins σ H' { s with heap:=h',gens:=g',drawn:=d',toks:=t' }:=by obtain⟨m,⟨o,es,ep,ho,r⟩,_⟩:=id I.loc;obtain⟨sl,hL⟩:=u.any ho I.free λz=>(hch _ z).2.1 rfl;exact I.step (ch:=ch) hch (λb o hL hb hc e n=>u.keep b o e n (λz=>(kI.mp (I.stkSub b z)).elim hL hb) hc) (λb o _ _ hc e n=>u.any e n hc) (λb o hc e n=>u.free b o e n hc) (λb o hc e=>u.there b o e hc) u.tups u.frzs u.tbls (λm' hm=>by obtain⟨o',es',ep',ho',r'⟩:=hm;rw[ho]at ho';cases ho';exact⟨_,es',ep',hL,r'⟩) hok hg
theorem Inv.turned{t':Nat}{it:Addr}(I:Inv X pins σ H s)(k:∀b o,b≠it→s.heap.get? b=some o→h'.get? b=some o)(hn:H it=none)(hL:it≠X.env.locals)
 (h1:it∈X.ex∨X.s₀.heap.objs.size≤it) (h2:∀x c,X.env.cells.lookup x=some c→c≠it) (h3:∀p∈X.pn++pins,p.1≠it):Inv X pins σ H { s with heap:=h',toks:=t' }:=by(
have nit:∀b u,H b=some u→b≠it:=λb u e z=>by rw[z,hn]at e;cases e
refine I.step (g':=s.gens) (d':=s.drawn) (ch:=[it]) (λb hb=>?_) (λb o _ _ hc e _=>k b o (λz=>hc (by simp[z])) e) (λb o _ _ hc e _=>⟨o.slots,k b o (λz=>hc (by simp[z])) e⟩) (λ_ _ _ _ n=>n)
 (λb o hc e=>⟨o,k b o (λz=>hc (by simp[z])) e⟩) (λ_ _ e=>e) (λ_ _ _ e=>e) (λb ps e=>⟨#[],by rw[e];simp⟩) (λm hm=>?_) (λb u e=>?_) I.bare
·have e:b=it:=by simpa using hb
 subst e;exact⟨h1,hL,h2,h3⟩
·obtain⟨o,es,ep,ho,r⟩:=hm;exact⟨o,es,ep,k _ o (wG hL) ho,r⟩
refine(I.hok b u e).stay (λc v hc q=>k c v ?_ q) (λ_ q=>q) λ_ _ q=>q
rcases hc with z|z
·rw[z];exact nit b u e
exact nit c _ z)
theorem Inv.tok(I:Inv X pins σ H s)(t:Nat):Inv X pins σ H { s with toks:=t }:=I.un (h':=s.heap) (t':=t) Un.refl I.hok
theorem Inv.kept{t':Nat}(I:Inv X pins σ H s)(k:∀b u,s.heap.get? b=some u→h'.get? b=some u):Inv X pins σ H { s with heap:=h',toks:=t' }:=I.un (Un.kept k) (I.hok.kept k)
theorem Inv.laid{a:Addr}{o:HO}{t':Nat}(I:Inv X pins σ H s)(k:∀b u,s.heap.get? b=some u→h'.get? b=some u)(hp:s.heap.objs.size≤a)(new:jH X.prog X.w (upd H a o) h' a o):
 Inv X pins σ (upd H a o) { s with heap:=h',toks:=t' }:=I.un (Un.laid k hp (I.hok.fresh hp)) (I.hok.laid k hp new)
theorem Inv.write{x e:Addr}{o:HO}{t':Nat}(I:Inv X pins σ H s)(mu:Mut (H x))(he:e=x∨H e=some (.own x))(k:∀b u,b≠e→s.heap.get? b=some u→h'.get? b=some u)(heo:∃u,h'.get? e=some u)
 (new:jH X.prog X.w (upd H x o) h' x o):Inv X pins σ (upd H x o) { s with heap:=h',toks:=t' }:=I.un (Un.write mu he k heo) (I.hok.write mu he k heo new)
theorem Inv.weak{σ':List (Option V)}(I:Inv X pins σ H s)(hl:σ'.length=σ.length)(w:∀(i:Nat) v,σ'[i]?=some (some v)→σ[i]?=some (some v)):Inv X pins σ' H s:=⟨I.ok,I.os,I.bare,I.base,let⟨m,hn,hl'⟩:=I.loc;⟨m,hn,λi x v e1 e2 e3=>hl' i x v e1 (w i v e2) e3⟩,I.cell,I.free,I.freeC,I.pin,I.hok,hl.trans I.len⟩
theorem Inv.pins_of{pins':List (Addr×Obj)}(I:Inv X pins σ H s)(h:∀p∈pins',s.heap.get? p.1=some p.2∧H p.1=none∧p.1≠X.env.locals∧p.1∉X.fs∧∀v,p.2.data≠ .cell v):Inv X pins' σ H s:=⟨I.ok,I.os,I.bare,I.base,I.loc,I.cell,I.free,I.freeC,λp hp=>(gF.mp hp).elim (λz=>I.pin p (gP _ z)) (h p),I.hok,I.len⟩
theorem q8G{N:List Str}(hN:N.Nodup){i j:Nat}{x:Str}(a:N[i]?=some x)(b:N[j]?=some x):i=j:=by obtain⟨h1,e1⟩:=kE.mp a;obtain⟨h2,e2⟩:=kE.mp b;exact(List.getElem_inj hN).mp (e1.trans e2.symm)
theorem q6K{M:Model}{A:Around}{E:Value→Shared→Prop}{i:Nat}{x:Str}{v:V}{u:Value}{Q:Unit→Shared→Prop}(I:Inv X pins σ H s)(hN:X.N.Nodup)(hi:X.N[i]?=some x)(hx:Loc X.env.scope x)(r:RelV v u)
 (h:∀s',Inv X pins (σ.set i (some v)) H s'→(∃a,Heap.SameBut a s.heap s'.heap∧(a=X.env.locals∨X.env.cells.lookup x=some a))→Q () s') (hf:X.fn x=true∨X.env.scope.names.lookup x=some .local:=by first|exact .inl rfl|exact .inr rfl|assumption):wpAny M A (storeName X.env x u) Q E s:=by(
obtain⟨m,hn,hl⟩:=id I.loc
have hcls:(X.env.scope.kind== .class||(X.env.scope.kind== .module&&X.env.locals !=X.env.globals))=false:=by rw[I.ok.kind];rfl
have hiσ:i<σ.length:=by rw[I.len];exact(kE.mp hi).1
have cne:=I.cne
have tracked:∀{a:Addr} {h':Heap},(∃o,s.heap.get? a=some o∧H a=none)→Heap.SameBut a s.heap h'→HOk X.prog X.w H h':=fun {a h'} ha hs b ob e=>by
 obtain⟨_,_,hfree⟩:=ha;refine(I.hok b ob e).stay (λc w' hc q=>(hs.2 c ?_).trans q) (λ_ q=>q) λ_ _ q=>q;rintro rfl
 rcases hc with rfl|hc
 ·rw[hfree]at e;cases e
 rw[hfree]at hc;cases hc
rcases hx with hk|hk
·refine wpAny_storeName_local hk hn (λh' hn' hs=>?_) hcls;obtain⟨oL,_,_,hoL,_⟩:=id hn;refine h _ ⟨I.ok,I.os,I.bare,⟨λb o e n hb hx=>?_,λb o e n hb hx=>?_,I.base.free,λb o e hx=>?_,I.base.tups,I.base.frzs,I.base.tbls⟩,⟨_,hn',λj y v' e1 e2 e3=>?_⟩,λy c e=>?_,I.free,I.freeC,λp hp=>?_,tracked ⟨oL,hoL,I.free⟩ hs,by simpa using I.len⟩ ⟨_,hs,.inl rfl⟩
 ·exact(hs.2 b (mY (mV (mB e) I.ok.above))).trans (I.base.keep b o e n hb hx)
 ·obtain⟨sl,e1⟩:=I.base.slot b o e n hb hx;exact⟨sl,(hs.2 b (mY (mV (mB e) I.ok.above))).trans e1⟩
 ·obtain⟨o',e1⟩:=I.base.there b o e hx;exact⟨o',(hs.2 b (mY (mV (mB e) I.ok.above))).trans e1⟩
 ·by_cases hj:j=i
  ·subst hj;rw[hi]at e1;cases e1;rw[nQ hiσ]at e2;cases e2;exact⟨u,r,.inl ⟨hk,by simp⟩⟩
  rw[wZ (wG hj)]at e2;obtain⟨u',r',q⟩:=hl j y v' e1 e2 e3;refine⟨u',r',?_⟩;rcases q with⟨k,e⟩|⟨k,c,e,z⟩
  ·refine .inl ⟨k,?_⟩;have:y≠x:=λe=>hj (q8G hN e1 (e▸hi));simp[this,e]
  exact .inr ⟨k,c,e,z.sameBut hs (cne y c e)⟩
 ·obtain⟨w',z⟩:=I.cell y c e;exact⟨w',z.sameBut hs (cne y c e)⟩
 obtain⟨e,n,ne,nf,d⟩:=I.pin p hp;exact⟨(hs.2 p.1 ne).trans e,n,ne,nf,d⟩
have hfn:X.fn x=true:=by
 rcases hf with z|z
 ·exact z
 rw[z]at hk;cases hk
obtain⟨c,hc⟩:=I.ok.has x (.inl hk)
obtain⟨w',z⟩:=I.cell x c hc
refine wpAny_storeName_cell I.ok.kind hk hc z (λh' hc' hs=>?_)
obtain⟨oc,hoc,hocd⟩:=id z
refine h { s with heap:=h' } ⟨I.ok,I.os,I.bare,⟨λb o e n hb hx=>?_,λb o e n hb hx=>?_,I.base.free,λb o e hx=>?_,I.base.tups,I.base.frzs,I.base.tbls⟩,⟨m,hn.sameBut hs (wG (cne x c hc)),λj y v' e1 e2 e3=>?_⟩,λy c' e=>?_,I.free,I.freeC,λp hp=>?_,tracked ⟨oc,hoc,I.freeC x c hc⟩ hs,by simpa using I.len⟩ ⟨c,hs,.inr hc⟩
·exact(hs.2 b (mY (mV (mB e) (I.ok.cab x c hfn hc)))).trans (I.base.keep b o e n hb hx)
·obtain⟨sl,e1⟩:=I.base.slot b o e n hb hx;exact⟨sl,(hs.2 b (mY (mV (mB e) (I.ok.cab x c hfn hc)))).trans e1⟩
·obtain⟨o',e1⟩:=I.base.there b o e hx;exact⟨o',(hs.2 b (mY (mV (mB e) (I.ok.cab x c hfn hc)))).trans e1⟩
·by_cases hj:j=i
 ·subst hj;rw[hi]at e1;cases e1;rw[nQ hiσ]at e2;cases e2;exact⟨u,r,.inr ⟨.inl hk,c,hc,hc'⟩⟩
 rw[wZ (wG hj)]at e2;obtain⟨u',r',q⟩:=hl j y v' e1 e2 e3;refine⟨u',r',?_⟩;rcases q with q|⟨k,c',e,z'⟩
 ·exact .inl q
 refine .inr ⟨k,c',e,z'.sameBut hs ?_⟩;rintro rfl
 exact hj (q8G hN e1 (I.ok.inj _ _ _ e hc▸hi))
·by_cases hcc:c'=c
 ·subst hcc;exact⟨_,hc'⟩
 obtain⟨w2,z2⟩:=I.cell y c' e;exact⟨w2,z2.sameBut hs hcc⟩
obtain⟨e,n,ne,nf,d⟩:=I.pin p hp
refine⟨(hs.2 p.1 ?_).trans e,n,ne,nf,d⟩
intro q
rw[q,hoc]at e
have q':oc=p.2:=kW e
exact d w' (by rw[←q'];exact hocd))
theorem q4V{M:Model}{A:Around}{E:Value→Shared→Prop}{i:Nat}{x:Str}{v:V}{u:Value}{Q:Unit→Shared→Prop}(I:Inv X pins σ H s)(hN:X.N.Nodup)(hi:X.N[i]?=some x)(hx:Loc X.env.scope x)(r:RelV v u)
 (h:∀s',Inv X pins (σ.set i (some v)) H s'→Q () s') (hf:X.fn x=true∨X.env.scope.names.lookup x=some .local:=by first|exact .inl rfl|exact .inr rfl|assumption):wpAny M A (storeName X.env x u) Q E s:=q6K I hN hi hx r (λs' I' _=>h s' I') hf
theorem Inv.call'{s':Shared}{ch:List Addr}(I:Inv X pins σ H s)(ho:s'.os=s.os)(u:Un (frs X.stack) ch H H' s.heap s'.heap)(hok:HOk X.prog X.w H' s'.heap)(hg:AllBare s'.gens)
 (hch:∀b∈ch,(b∈X.ex∨X.s₀.heap.objs.size≤b)∧b≠X.env.locals∧(∀x c,X.env.cells.lookup x=some c→c≠b)∧∀p∈X.pn++pins,p.1≠b):Inv X pins σ H' s':=by(
obtain⟨h',g',d',t',o'⟩:=s'
have e:o'=s.os:=ho
subst e
exact I.call (g':=g') (t':=t') (d':=d') u hok hg hch)
end
noncomputable abbrev XK:=Value→Option Addr→Hp→Prop
noncomputable abbrev St:=List (Option V)
noncomputable abbrev VK:=V→Hp→Prop
noncomputable abbrev TE:=St→Hp→VK→Prop
noncomputable abbrev TT:=St→Hp→(Bool→Hp→Prop)→Prop
noncomputable abbrev TA:=St→Hp→(List V→Hp→Prop)→Prop
structure Ends where
nx:St→Hp→Prop
rt:VK
bk:St→Hp→Prop:=λ_ _=>False
ct:St→Hp→Prop:=λ_ _=>False
noncomputable abbrev TS:=Ends→St→Hp→Prop
inductive EP(X:Cx)(pins:List (Addr×Obj))(σ:St)(Q:VK)(u:Value)(s':Shared):Prop|mk (v) (H') (I:Inv X pins σ H' s') (r:RelV v u) (q:Q v H'):EP X pins σ Q u s'
inductive TP(X:Cx)(pins:List (Addr×Obj))(σ:St)(Q:Bool→Hp→Prop)(b:Bool)(s':Shared):Prop|mk (H') (I:Inv X pins σ H' s') (q:Q b H'):TP X pins σ Q b s'
inductive AP(X:Cx)(pins:List (Addr×Obj))(σ:St)(Q:List V→Hp→Prop)(us:List Value)(s':Shared):Prop|mk (vs) (H') (I:Inv X pins σ H' s') (r:Vals vs us) (q:Q vs H'):AP X pins σ Q us s'
noncomputable def SP(X:Cx)(pins:List (Addr×Obj))(D:Ends)(f:Flow)(s':Shared):Prop:=match f with
| .next=>∃σ' H',Inv X pins σ' H' s'∧D.nx σ' H'
| .brk=>∃σ' H',Inv X pins σ' H' s'∧D.bk σ' H'
| .cont=>∃σ' H',Inv X pins σ' H' s'∧D.ct σ' H'
| .ret u=>∃v σ' H',Inv X pins σ' H' s'∧RelV v u∧D.rt v H'
noncomputable def PE(X:Cx)(e:Expr)(t:TE):Prop:=∀(pins:List (Addr×Obj)) (s:Shared) (σ:St) (H:Hp) (Q:VK),Inv X pins σ H s→t σ H Q→wpAny (model X.prog X.w) X.A (eval e X.env) (EP X pins σ Q) X.xe s
noncomputable def PT(X:Cx)(e:Expr)(t:TT):Prop:=∀(pins:List (Addr×Obj)) (s:Shared) (σ:St) (H:Hp) (Q:Bool→Hp→Prop),Inv X pins σ H s→t σ H Q→wpAny (model X.prog X.w) X.A (isTrue e X.env (eval e X.env)) (TP X pins σ Q) X.xe s
noncomputable def PW(X:Cx)(e:Expr)(t:TT):Prop:=∀(whole:Sem Value) (pins:List (Addr×Obj)) (s:Shared) (σ:St) (H:Hp) (Q:Bool→Hp→Prop),Inv X pins σ H s→t σ H Q→wpAny (model X.prog X.w) X.A (isTrue e X.env whole) (TP X pins σ Q) X.xe s
theorem PW.pt{X:Cx}{e:Expr}{t:TT}(h:PW X e t):PT X e t:=h _
noncomputable def PA(X:Cx)(es:List Expr)(t:TA):Prop:=∀(pos:Pos) (pins:List (Addr×Obj)) (s:Shared) (σ:St) (H:Hp) (Q:List V→Hp→Prop),Inv X pins σ H s→t σ H Q→wpAny (model X.prog X.w) X.A (spliced (backTo pos (starEach es X.env))) (AP X pins σ Q) X.xe s
noncomputable def PS(X:Cx)(st:Stmt)(t:TS):Prop:=∀(pins:List (Addr×Obj)) (s:Shared) (σ:St) (H:Hp) (D:Ends),Inv X pins σ H s→t D σ H→wpAny (model X.prog X.w) X.A (exec st X.env) (SP X pins D) X.xe s
noncomputable def PSs(X:Cx)(st:List Stmt)(t:TS):Prop:=∀(pins:List (Addr×Obj)) (s:Shared) (σ:St) (H:Hp) (D:Ends),Inv X pins σ H s→t D σ H→wpAny (model X.prog X.w) X.A (execs st X.env) (SP X pins D) X.xe s
theorem thn{α:Type}{t:Sem α}{Q Q':α→Shared→Prop}{M:Model}{A:Around}{E:Value→Shared→Prop}{s:Shared}(h:wpAny M A t Q E s)(hQ:∀a s,Q a s→Q' a s):wpAny M A t Q' E s:=g8 h hQ λ_ _ x=>x
section
variable{X:Cx}
theorem bin{a b:Expr}{ta tb:TE}(ha:PE X a ta)(hb:PE X b tb){pins:List (Addr×Obj)}{s:Shared}{σ:St}{H:Hp}{R:V→V→Hp→Prop}(I:Inv X pins σ H s)(h:ta σ H λx H1=>tb σ H1 λy H2=>R x y H2)
 {α:Type} {Q:α→Shared→Prop} {f:Value→Value→Sem α}
 (hf:∀v u s2 x y H2,Inv X pins σ H2 s2→RelV x v→RelV y u→R x y H2→wpAny (model X.prog X.w) X.A (f v u) Q X.xe s2):
 wpAny (model X.prog X.w) X.A (eval a X.env) (λv s₁=>wpAny (model X.prog X.w) X.A (eval b X.env) (λu s₂=>wpAny (model X.prog X.w) X.A (f v u) Q X.xe s₂) X.xe s₁) X.xe s:=by(
refine thn (ha pins s σ H _ I h) λv s1 hZ=>?_
obtain⟨x,H1,I1,r1,q1⟩:=hZ
refine thn (hb pins s1 σ H1 _ I1 q1) λu s2 hZ=>?_
obtain⟨y,H2,I2,r2,q2⟩:=hZ
exact hf v u s2 x y H2 I2 r1 r2 q2)
noncomputable def tVar(i:Nat):TE:=λσ H Q=>∃v,σ[i]?=some (some v)∧Q v H
noncomputable def tC(v:V):TE:=λ_ H Q=>Q v H
theorem qH0{i:Nat}{x:Str}{pos:Pos}(hN:X.N[i]?=some x)(hv:Vis X.env.scope x)(hd:(x==("__debug__":Str))=false:=by decide)(hcd:(x==("__classdict__":Str))=false:=by decide):PE X (.Name x pos) (tVar i):=by(
intro pins s σ H Q I h
obtain⟨v,e,h⟩:=h
obtain⟨m,hn,hl⟩:=I.loc
obtain⟨u,r,l⟩:=hl i x v hN e hv
have fin:EP X pins σ Q u s:=⟨v,H,I,r,h⟩
rcases l with⟨hk,hm⟩|⟨hk,c,hc,hcell⟩
·exact aR (lO I.ok.kind hk hn hm fin) hd
rcases hk with hk|hk
·exact aR (l9 I.ok.kind hk hc hcell fin) hd
exact aR (wpAny_loadName_free I.ok.kind hk hc hcell fin hcd) hd)
theorem qG{i j pos}:PE X (.Constant (.int i) j pos) (tC (.int i)):=λ_ _ _ H _ I h=>wpAny_Constant_int ⟨.int i,H,I.tok _,⟨_,rfl⟩,h⟩
theorem zT{b j pos}:PE X (.Constant (.bool b) j pos) (tC (.bl b)):=λ_ _ _ H _ I h=>Constant_bool ⟨.bl b,H,I,rfl,h⟩
theorem uT{j pos}:PE X (.Constant .none j pos) (tC .non):=λ_ _ _ H _ I h=>Constant_none ⟨.non,H,I,rfl,h⟩
theorem q3M{x j pos}:PE X (.Constant (.str x) j pos) (tC (.str x)):=λ_ _ _ H _ I h=>Calls.Constant_str ⟨.str x,H,I.tok _,⟨_,rfl⟩,h⟩
noncomputable def Gl(X:Cx)(x:Str):Prop:=X.env.kindOf x=some .globalImplicit
theorem q1S{E:Value→Shared→Prop}{pins:List (Addr×Obj)}{s:Shared}{σ:St}{H:Hp}{x:Str}{u:Value}{pos:Pos}{Q:Value→Shared→Prop}(I:Inv X pins σ H s)(hg:Gl X x)(hm:X.mg x=some u)(h:Q u s)
 (hd:(x==("__debug__":Str))=false:=by decide):wpAny (model X.prog X.w) X.A (eval (.Name x pos) X.env) Q E s:=sI I.ok.kind hg (Calls.loadGlobal_global (by rw[I.ok.glob];exact I.mod.glob.keeps I.bk) hm h) hd
theorem q3N{E:Value→Shared→Prop}{pins:List (Addr×Obj)}{s:Shared}{σ:St}{H:Hp}{x:Str}{u:Value}{pos:Pos}{Q:Value→Shared→Prop}(I:Inv X pins σ H s)(hg:Gl X x)(hm:X.mg x=none)(hv:bootBuiltins x=some u)(h:Q u s)
 (hn:x≠"__name__":=by decide) (hd:(x==("__debug__":Str))=false:=by decide):wpAny (model X.prog X.w) X.A (eval (.Name x pos) X.env) Q E s:=by obtain⟨mb,h1,h2⟩:=I.mod.blt;exact sI I.ok.kind hg (Calls.loadGlobal_builtin (by rw[I.ok.glob];exact I.mod.glob.keeps I.bk) hm (by rw[I.ok.blt];exact h1.keeps I.bk) ((h2 x hn).trans hv) h) hd
theorem q06{x:Str}{v:V}{u:Value}{pos:Pos}(hg:Gl X x)(hm:X.mg x=some u)(r:RelV v u)(hd:(x==("__debug__":Str))=false:=by decide):PE X (.Name x pos) (tC v):=λ_ _ _ H _ I h=>q1S I hg hm ⟨v,H,I,r,h⟩ hd
theorem qAM{x:Str}{v:V}{u:Value}{pos:Pos}(hg:Gl X x)(hm:X.mg x=none)(hv:bootBuiltins x=some u)(r:RelV v u)(hn:x≠"__name__":=by decide)(hd:(x==("__debug__":Str))=false:=by decide):PE X (.Name x pos) (tC v):=λ_ _ _ H _ I h=>q3N I hg hm hv ⟨v,H,I,r,h⟩ hn hd
variable{a b:Expr}{ta tb:TE}{pos:Pos}
noncomputable def PC(X:Cx)(op:CmpOp)(a b:Expr)(t:TE):Prop:=∀(pins:List (Addr×Obj)) (s:Shared) (σ:St) (H:Hp) (Q:VK),Inv X pins σ H s→t σ H Q→wpAny (model X.prog X.w) X.A (eval a X.env) (λv s₁=>wpAny (model X.prog X.w) X.A (eval b X.env) (λu s₂=>wpAny (model X.prog X.w) X.A (compareOp op v u) (EP X pins σ Q) X.xe s₂) X.xe s₁) X.xe s
noncomputable def tB(t:TE):TT:=λσ H Q=>t σ H λx H1=>∃c,x=.bl c∧Q c H1
theorem qH1{op:CmpOp}{t:TE}(h:PC X op a b t)(h1:behindInMarks op b=false:=by first|exact nobehind _ (by decide) (by decide)|rfl):PE X (.Compare a [op] [b] pos) t:=λpins s σ H Q I hw=>wpAny_Compare1 (h pins s σ H Q I hw) h1
theorem qH2{op:CmpOp}{t:TE}(h:PC X op a b t)(h1:behindInMarks op b=false:=by first|exact nobehind _ (by decide) (by decide)|rfl):PT X (.Compare a [op] [b] pos) (tB t):=by(
intro pins s σ H Q I hw
refine lJ (thn (h pins s σ H _ I hw) λv s1 h1=>thn h1 λu s2 h2=>thn h2 λc s3 hZ=>?_) h1
obtain⟨x,H1,I1,r1,q1⟩:=hZ
obtain⟨d,rfl,q⟩:=q1
cases r1
exact dA ⟨H1,I1,q⟩)
theorem jT{e:Expr}{t:TE}(h:PE X e t)(he:∀whole,isTrue e X.env whole=(do let v←whole;standAt e.pos;holding [v] (truthy v)):=by intro _;rfl):PT X e (tB t):=by(
intro pins s σ H Q I hw
refine isTrue_plain (thn (h pins s σ H _ I hw) λv s1 hZ=>?_) (he _)
obtain⟨x,H1,I1,r1,q1⟩:=hZ
obtain⟨d,rfl,q⟩:=q1
cases r1
exact dA ⟨H1,I1,q⟩)
variable{tA tB':TT}{rest:List Expr}
noncomputable def tAnd(t u:TT):TT:=λσ H Q=>t σ H λc H1=>if c=true then u σ H1 Q else Q false H1
noncomputable def tOr(t u:TT):TT:=λσ H Q=>t σ H λc H1=>if c=true then Q true H1 else u σ H1 Q
noncomputable def tNot(t:TT):TT:=λσ H Q=>t σ H λc H1=>Q (!c) H1
theorem q79(ha:PT X a tA):PW X (.BoolOp .And [a] pos) tA:=by(
intro wh pins s σ H Q I h
refine isTrue_and (thn (ha pins s σ H Q I h) λc s1 e=>?_)
cases c with
|true=>exact isTrue_and_nil e
|false=>exact e)
theorem qCH(ha:PT X a tA):PW X (.BoolOp .Or [a] pos) tA:=by(
intro wh pins s σ H Q I h
refine isTrue_or (thn (ha pins s σ H Q I h) λc s1 e=>?_)
cases c with
|false=>exact isTrue_or_nil e
|true=>exact e)
theorem q9P(ha:PT X a tA)(hb:PW X (.BoolOp .And (b::rest) pos) tB'):PW X (.BoolOp .And (a::b::rest) pos) (tAnd tA tB'):=by(
intro wh pins s σ H Q I h
refine isTrue_and (thn (ha pins s σ H _ I h) λc s1 hZ=>?_)
obtain⟨H1,I1,q1⟩:=hZ
cases c with
|true=>exact hb wh pins s1 σ H1 Q I1 q1
|false=>exact⟨H1,I1,q1⟩)
theorem qGG(ha:PT X a tA)(hb:PW X (.BoolOp .Or (b::rest) pos) tB'):PW X (.BoolOp .Or (a::b::rest) pos) (tOr tA tB'):=by(
intro wh pins s σ H Q I h
refine isTrue_or (thn (ha pins s σ H _ I h) λc s1 hZ=>?_)
obtain⟨H1,I1,q1⟩:=hZ
cases c with
|true=>exact⟨H1,I1,q1⟩
|false=>exact hb wh pins s1 σ H1 Q I1 q1)
theorem yD(ha:PT X a tA):PT X (.UnaryOp .Not a pos) (tNot tA):=by intro pins s σ H Q I h;exact isTrue_not (thn (ha pins s σ H (λc H1=>Q (!c) H1) I h) λc s1 ⟨H1,I1,q⟩=>⟨H1,I1,q⟩)
noncomputable def qJ7(ta tb:TE):TE:=λσ H Q=>ta σ H λx H1=>∃c,x=.bl c∧if c=true then tb σ H1 Q else Q (.bl false) H1
noncomputable def tOrV(ta tb:TE):TE:=λσ H Q=>ta σ H λx H1=>∃c,x=.bl c∧if c=true then Q (.bl true) H1 else tb σ H1 Q
noncomputable def qJ8(ta:TE):TE:=λσ H Q=>ta σ H λx H1=>∃c,x=.bl c∧Q (.bl (!c)) H1
theorem q07{op}{t:TE}(h:PE X a t):PE X (.BoolOp op [a] pos) t:=λpins s σ H Q I hw=>BoolOp_one (h pins s σ H Q I hw)
theorem q3O(ha:PE X a ta)(hb:PE X (.BoolOp .And (b::rest) pos) tb):PE X (.BoolOp .And (a::b::rest) pos) (qJ7 ta tb):=by(
intro pins s σ H Q I h
refine BoolOp_and (thn (ha pins s σ H _ I h) λv s1 hZ=>?_)
obtain⟨x,H1,I1,r1,q1⟩:=hZ
obtain⟨c,rfl,q1⟩:=q1
cases r1
refine dA ?_
cases c with
|true=>exact hb pins s1 σ H1 Q I1 q1
|false=>exact⟨.bl false,H1,I1,rfl,q1⟩)
theorem qCI(ha:PE X a ta)(hb:PE X (.BoolOp .Or (b::rest) pos) tb):PE X (.BoolOp .Or (a::b::rest) pos) (tOrV ta tb):=by(
intro pins s σ H Q I h
refine BoolOp_or (thn (ha pins s σ H _ I h) λv s1 hZ=>?_)
obtain⟨x,H1,I1,r1,q1⟩:=hZ
obtain⟨c,rfl,q1⟩:=q1
cases r1
refine dA ?_
cases c with
|false=>exact hb pins s1 σ H1 Q I1 q1
|true=>exact⟨.bl true,H1,I1,rfl,q1⟩)
theorem qCJ(ha:PE X a ta):PE X (.UnaryOp .Not a pos) (qJ8 ta):=by(
intro pins s σ H Q I h
refine UnaryOp_ (thn (ha pins s σ H _ I h) λv s1 hZ=>?_)
obtain⟨x,H1,I1,r1,q1⟩:=hZ
obtain⟨c,rfl,q1⟩:=q1
cases r1
exact not_of (dA ⟨.bl (!c),H1,I1,rfl,q1⟩))
noncomputable def tIf(t:TT)(ta tb:TE):TE:=λσ H Q=>t σ H λc H1=>if c=true then ta σ H1 Q else tb σ H1 Q
theorem qCK{c:Expr}(hc:PT X c tA)(ha:PE X a ta)(hb:PE X b tb):PE X (.IfExp c a b pos) (tIf tA ta tb):=by(
intro pins s σ H Q I h
refine wpAny_IfExp (thn (hc pins s σ H _ I h) λd s1 hZ=>?_)
obtain⟨H1,I1,q1⟩:=hZ
cases d with
|true=>exact ha pins s1 σ H1 Q I1 q1
|false=>exact hb pins s1 σ H1 Q I1 q1)
end
noncomputable def SqL(K:PySem.W.Frag)(H:Hp)(a:Addr)(xs:List V):Prop:=Rd H a (.lst xs)∨∃(o:Obj) (its:Array Value) (n:Nat),K.lookup a=some o∧o.cls=.type "list"∧o.dict=none∧o.data=.seq its n∧its.size≤sizeLine∧Vals xs its.toList
noncomputable def SqT(K:PySem.W.Frag)(H:Hp)(a:Addr)(xs:List V):Prop:=Rd H a (.tup xs)∨∃(o:Obj) (its:Array Value) (n:Nat),K.lookup a=some o∧o.cls=.type "tuple"∧o.data=.seq its n∧its.size≤sizeLine∧Vals xs its.toList
noncomputable def absV:Value→Option V
| .none=>some .non
| .bool b=>some (.bl b)
| .int i _=>some (.int i)
| .str x _=>some (.str x)
| .bytes b _=>some (.byt b)
| .float b _=>some (.flt b)
| .ref a=>some (.ref a)
| .type n=>some (.ty n)
|_=>none
theorem RelV.abs{x:V}{u:Value}(r:RelV x u):absV u=some x:=by(
cases x with
|non=>cases r;rfl
|bl _=>cases r;rfl
|int _=>obtain⟨t,rfl⟩:=r;rfl
|str _=>obtain⟨t,rfl⟩:=r;rfl
|byt _=>obtain⟨t,rfl⟩:=r;rfl
|flt _=>obtain⟨t,rfl⟩:=r;rfl
|ref _=>cases r;rfl
|ty _=>cases r;rfl)
theorem RelV.inj{x y:V}{u:Value}(r:RelV x u)(q:RelV y u):x=y:=kW (r.abs.symm.trans q.abs)
theorem Vals.inj{xs ys:List V}{us:List Value}(h:Vals xs us):Vals ys us→xs=ys:=by(
induction h generalizing ys with
|nil=>exact λg=>by cases g;rfl
|cons r t ih=>
 intro g;cases g with
 |cons r' t'=>rw[r.inj r',ih t'])
section
variable{X:Cx}{pins:List (Addr×Obj)}{σ:St}{H:Hp}{s:Shared}{a:Addr}{xs ys:List V}
theorem SqL.of{K:PySem.W.Frag}(h:H a=some (.lst xs)):SqL K H a xs:=.inl (.inl h)
theorem SqT.of{K:PySem.W.Frag}(h:H a=some (.tup xs)):SqT K H a xs:=.inl (.inl h)
theorem Inv.list(I:Inv X pins σ H s)(h:SqL X.K H a xs):∃its:List Value,Vals xs its∧PlainL s.heap a its.toArray∧xs.length≤sizeLine:=by(
rcases h with h|⟨o,its,n,hk,hc,hd,hs,hz,r⟩
·obtain⟨z,its,n,r,e⟩:=h.ok I.hok;exact⟨its,r,⟨_,n,e,rfl,rfl,rfl⟩,z⟩
refine⟨its.toList,r,⟨o,n,I.kIn a o hk,hc,hd,by simpa using hs⟩,?_⟩
have e:=r.length
simp only[kX]at e
lia)
theorem Inv.tuple(I:Inv X pins σ H s)(h:SqT X.K H a xs):∃its:List Value,Vals xs its∧IsTup s.heap a its.toArray∧xs.length≤sizeLine:=by(
rcases h with h|⟨o,its,n,hk,hc,hs,hz,r⟩
·obtain⟨z,its,r,p⟩:=h.ok I.hok;exact⟨its,r,p,z⟩
refine⟨its.toList,r,⟨o,I.kIn a o hk,hc,n,by simpa using hs⟩,?_⟩
have e:=r.length
simp only[kX]at e
lia)
theorem Inv.list_inj(I:Inv X pins σ H s)(h:SqL X.K H a xs)(h':SqL X.K H a ys):xs=ys:=by(
obtain⟨its,r,⟨o,n,e,_,_,d⟩,_⟩:=I.list h
obtain⟨its',r',⟨o',n',e',_,_,d'⟩,_⟩:=I.list h'
rw[e]at e';cases e'
rw[d]at d'
injection d' with d1 _
have:its=its':=by simpa using dE Array.toList d1
subst this
exact r.inj r')
end
noncomputable abbrev Cx.wish(X:Cx)(E:Value→Shared→Prop):Cx:={ X with xe:=E }
noncomputable abbrev Cx.nox(X:Cx):Cx:=X.wish λ_ _=>False
theorem Cx.Ok.wish{X:Cx}(ok:X.Ok)(E:Value→Shared→Prop):(X.wish E).Ok:=⟨ok.mod,ok.kind,ok.glob,ok.blt,ok.above,ok.inj,ok.has,ok.cab,ok.hd,ok.frames,ok.stk,ok.exf,ok.bs,ok.bsz,ok.noex,ok.exfs,ok.funs,ok.frf⟩
theorem Cx.Ok.unwish{X:Cx}{E:Value→Shared→Prop}(ok:(X.wish E).Ok):X.Ok:=⟨ok.mod,ok.kind,ok.glob,ok.blt,ok.above,ok.inj,ok.has,ok.cab,ok.hd,ok.frames,ok.stk,ok.exf,ok.bs,ok.bsz,ok.noex,ok.exfs,ok.funs,ok.frf⟩
section
variable{X:Cx}{pins:List (Addr×Obj)}{σ:St}{H:Hp}{s:Shared}{E:Value→Shared→Prop}
theorem Inv.wish(I:Inv X pins σ H s)(E:Value→Shared→Prop):Inv (X.wish E) pins σ H s:=⟨I.ok.wish E,I.os,I.bare,I.base,I.loc,I.cell,I.free,I.freeC,I.pin,I.hok,I.len⟩
theorem Inv.unwish(I:Inv (X.wish E) pins σ H s):Inv X pins σ H s:=⟨I.ok.unwish,I.os,I.bare,I.base,I.loc,I.cell,I.free,I.freeC,I.pin,I.hok,I.len⟩
theorem SP.unwish{D:Ends}{f:Flow}{s':Shared}(h:SP (X.wish E) pins D f s'):SP X pins D f s':=by(
cases f with
|next=>obtain⟨σ',H',I,q⟩:=h;exact⟨σ',H',I.unwish,q⟩
|brk=>obtain⟨σ',H',I,q⟩:=h;exact⟨σ',H',I.unwish,q⟩
|cont=>obtain⟨σ',H',I,q⟩:=h;exact⟨σ',H',I.unwish,q⟩
|ret u=>obtain⟨v,σ',H',I,r,q⟩:=h;exact⟨v,σ',H',I.unwish,r,q⟩)
theorem PSs.nox{st:List Stmt}{t:TS}(h:PSs X.nox st t):PSs X st t:=λpins s σ H D I hw=>g8 (h pins s σ H D (I.wish _) hw) (λ_ _ q=>q.unwish) λ_ _ z=>False.elim z
end
section
variable{X:Cx}{st:Stmt}{rest:List Stmt}{t u:TS}{e:Expr}{te:TE}{pos:Pos}
noncomputable def qJ9:TS:=λD σ H=>D.nx σ H
noncomputable def tSeq(t u:TS):TS:=λD σ H=>t { D with nx:=u D } σ H
theorem qP:PSs X [] qJ9:=λ_ _ σ H _ I h=>pV ⟨σ,H,I,h⟩
theorem qB(h1:PS X st t)(h2:PSs X rest u):PSs X (st::rest) (tSeq t u):=by(
intro pins s σ H D I h
refine wpAny_execs_cons (thn (h1 pins s σ H { D with nx:=u D } I h) λf s1 q=>?_)
cases f with
|next=>obtain⟨σ',H',I',q⟩:=q;exact h2 pins s1 σ' H' D I' q
|ret v=>exact q
|brk=>exact q
|cont=>exact q)
theorem qD(h1:PS X st t):PSs X [st] t:=by(
intro pins s σ H D I h
refine wpAny_execs_cons (thn (h1 pins s σ H D I h) λf s1 q=>?_)
cases f with
|next=>exact pV q
|ret v=>exact q
|brk=>exact q
|cont=>exact q)
theorem Inv.quiet{pins:List (Addr×Obj)}{σ:St}{H:Hp}{s:Shared}(I:Inv X pins σ H s):interactive X.env=false:=by simp[interactive,I.ok.kind]
noncomputable def qJA(te:TE):TS:=λD σ H=>te σ H λ_ H1=>D.nx σ H1
theorem qU(he:PE X e te)(hs:swapsWith e none pos.line X.env=pure false:=by rfl):PS X (.Expr e pos) (qJA te):=by intro pins s σ H D I h;exact wpAny_Expr_any (thn (he pins s σ H _ I h) λv s1 ⟨x,H1,I1,r1,q1⟩=>⟨σ,H1,I1,q1⟩) I.quiet hs
noncomputable def tRet(te:TE):TS:=λD σ H=>te σ H D.rt
theorem qL(he:PE X e te):PS X (.Return (some e) pos) (tRet te):=by intro pins s σ H D I h;exact wpAny_Return_some (thn (he pins s σ H _ I h) λv s1 ⟨x,H1,I1,r1,q1⟩=>⟨x,σ,H1,I1,r1,q1⟩)
noncomputable def tIfS(c:TT)(t u:TS):TS:=λD σ H=>c σ H λb H1=>if b=true then t D σ H1 else u D σ H1
theorem jC{c:Expr}{a b:List Stmt}{tc:TT}(hc:PT X c tc)(ha:PSs X a t)(hb:PSs X b u):PS X (.If c a b pos) (tIfS tc t u):=by(
intro pins s σ H D I h
refine wpAny_If (thn (hc pins s σ H _ I h) λd s1 hZ=>?_)
obtain⟨H1,I1,q1⟩:=hZ
cases d with
|true=>exact ha pins s1 σ H1 D I1 q1
|false=>exact hb pins s1 σ H1 D I1 q1)
noncomputable def qH3:TS:=λ_ _ _=>False
theorem jD:PS X st qH3:=λ_ _ _ _ _ _ h=>h.elim
end
noncomputable abbrev TG:=V→St→Hp→(St→Hp→Prop)→Prop
noncomputable abbrev TGs:=List V→St→Hp→(St→Hp→Prop)→Prop
noncomputable def PG(X:Cx)(target:Expr)(t:TG):Prop:=∀(pins:List (Addr×Obj)) (s:Shared) (σ:St) (H:Hp) (v:V) (u:Value) (Q:St→Hp→Prop),Inv X pins σ H s→RelV v u→t v σ H Q→wpAny (model X.prog X.w) X.A (assign target X.env u) (λ_ s'=>∃σ' H',Inv X pins σ' H' s'∧Q σ' H') X.xe s
noncomputable def PGs(X:Cx)(ts:List Expr)(t:TGs):Prop:=∀(pins:List (Addr×Obj)) (s:Shared) (σ:St) (H:Hp) (vs:List V) (us:List Value) (Q:St→Hp→Prop),Inv X pins σ H s→Vals vs us→t vs σ H Q→wpAny (model X.prog X.w) X.A (assignInOrder ((assignEach ts X.env).map (·.2)) us) (λ_ s'=>∃σ' H',Inv X pins σ' H' s'∧Q σ' H') X.xe s
noncomputable abbrev TSet:=V→V→V→Hp→(Hp→Prop)→Prop
noncomputable def PSet(X:Cx)(t:TSet):Prop:=∀(pins:List (Addr×Obj)) (s:Shared) (σ:St) (H:Hp) (o i v:V) (ov iv u:Value) (Q:Hp→Prop),Inv X pins σ H s→RelV o ov→RelV i iv→RelV v u→t o i v H Q→wpAny (model X.prog X.w) X.A (setItem ov iv u) (λ_ s'=>∃H',Inv X pins σ H' s'∧Q H') X.xe s
noncomputable abbrev TIp:=V→V→Hp→VK→Prop
noncomputable def PIp(X:Cx)(op:Operator)(t:TIp):Prop:=∀(pins:List (Addr×Obj)) (s:Shared) (σ:St) (H:Hp) (x y:V) (v u:Value) (Q:VK),Inv X pins σ H s→RelV x v→RelV y u→t x y H Q→wpAny (model X.prog X.w) X.A (inplaceOp op v u) (EP X pins σ Q) X.xe s
section
variable{X:Cx}{pos:Pos}
noncomputable def q2C(i:Nat):TG:=λv σ H Q=>Q (σ.set i (some v)) H
theorem j9{i:Nat}{x:Str}(hN:X.N.Nodup)(hi:X.N[i]?=some x)(hx:Loc X.env.scope x)(hf:X.fn x=true∨X.env.scope.names.lookup x=some .local:=by first|exact .inl rfl|exact .inr rfl|assumption):PG X (.Name x pos) (q2C i):=by intro pins s σ H v u Q I r h;exact xM (q4V I hN hi hx r (λs' I'=>⟨_,H,I',h⟩) hf)
noncomputable def gNil:TGs:=λvs σ H Q=>vs=[]∧Q σ H
noncomputable def qGH(t:TG)(u:TGs):TGs:=λvs σ H Q=>∃v r,vs=v::r∧t v σ H λσ' H'=>u r σ' H' Q
theorem q4L:PGs X [] gNil:=by(
intro pins s σ H vs us Q I r h
obtain⟨e,h⟩:=h
subst e
cases r
exact assignInOrder_nil ⟨σ,H,I,h⟩)
theorem yZ{e:Expr}{es:List Expr}{t:TG}{u:TGs}(h1:PG X e t)(h2:PGs X es u)
 (hs:(assignEach (e::es) X.env).map (·.2)=assign e X.env::(assignEach es X.env).map (·.2):=by rfl):PGs X (e::es) (qGH t u):=by(
intro pins s σ H vs us Q I r h
obtain⟨v,vr,e1,h⟩:=h
subst e1
cases r with
|cons r rr=>rw[hs];refine assignInOrder_cons (thn (h1 pins s σ H _ _ _ I r h) λ_ s1 hZ=>?_);obtain⟨σ1,H1,I1,q1⟩:=hZ;exact h2 pins s1 σ1 H1 _ _ Q I1 rr q1)
noncomputable def gTup(K:PySem.W.Frag)(n:Nat)(t:TGs):TG:=λv σ H Q=>∃a xs,v=.ref a∧SqT K H a xs∧xs.length=n∧t xs σ H Q
theorem q9Q{es:List Expr}{k:Nat}{t:TGs}{n:Nat}(hc:X.calm=true)(h:PGs X es t)
 (hn:(assignEach es X.env).length=n:=by rfl) (hst:(assignEach es X.env).findIdx? (·.1)=none:=by rfl):PG X (.Tuple es k pos) (gTup X.K n t):=by(
intro pins s σ H v u Q I r hw
obtain⟨a,xs,e1,hq,hl,hw⟩:=hw
subst e1
cases r
obtain⟨its,rv,ht,hz⟩:=I.tuple hq
refine assign_Tuple_tuple (I.ok.hd hc) ht (by simp[hn,←hl,rv.length]) hst λh' hx=>?_
have I1:Inv X pins σ H { s with heap:=h' }:=I.kept (t':=s.toks) λb o e=>hx b o (mY (mB e)) e
exact h pins _ σ H xs _ Q I1 (by simpa using rv) hw)
noncomputable def gSub(to ti:TE)(t:TSet):TG:=λv σ H Q=>to σ H λo H1=>ti σ H1 λi H2=>t o i v H2 λH3=>Q σ H3
theorem q4W{o i:Expr}{to ti:TE}{t:TSet}(ho:PE X o to)(hi:PE X i ti)(hs:PSet X t)
 (ha:∀v,assign (.Subscript o i pos) X.env v=(do
  let ov←holding [v] (eval o X.env)
  let iv←holding [v,ov] (eval i X.env)
  standAt pos
  holding [v,ov,iv] (setItem ov iv v)
  release [v,ov,iv] []):=by intro _;rfl):PG X (.Subscript o i pos) (gSub to ti t):=by(
intro pins s σ H v u Q I r h
rw[ha]
refine kB (g7 (thn (ho pins s σ H _ I h) λov s1 hZ=>?_))
obtain⟨x,H1,I1,r1,q1⟩:=hZ
refine kB (g7 (thn (hi pins s1 σ H1 _ I1 q1) λiv s2 hZ=>?_))
obtain⟨y,H2,I2,r2,q2⟩:=hZ
refine kB (pQ (kB (g7 (thn (hs pins s2 σ H2 x y v ov iv u _ I2 r1 r2 r q2) λ_ s3 hZ=>?_))))
obtain⟨H3,I3,q3⟩:=hZ
exact wpAny_release ⟨σ,H3,I3,q3⟩)
noncomputable def tAsg(te:TE)(g:TG):TS:=λD σ H=>te σ H λx H1=>g x σ H1 D.nx
theorem q3P{tg e:Expr}{te:TE}{g:TG}(he:PE X e te)(hg:PG X tg g)(hs:swapsWithSole [tg] e pos.line X.env=pure false:=by rfl)(hw:swappedStores [tg] e X.env=pure none:=by rfl)
 (h1:(assignEach [tg] X.env).map (·.2)=[assign tg X.env]:=by rfl):PS X (.Assign [tg] e pos) (tAsg te g):=by(
intro pins s σ H D I h
refine wpAny_Assign_stores (thn (he pins s σ H _ I h) λv s1 hZ=>?_) hs hw
obtain⟨x,H1,I1,r1,q1⟩:=hZ
rw[h1]
exact thn (hg pins s1 σ H1 x v _ I1 r1 q1) λ_ s2 q=>q)
theorem qV{i:Nat}{x:Str}{e:Expr}{te:TE}{pos':Pos}(hN:X.N.Nodup)(hi:X.N[i]?=some x)(hx:Loc X.env.scope x)(he:PE X e te)(hs:swapsWith e (some (.Name x pos')) pos.line X.env=pure false:=by rfl)(hf:X.fn x=true∨X.env.scope.names.lookup x=some .local:=by first|exact .inl rfl|exact .inr rfl|assumption):
 PS X (.Assign [.Name x pos'] e pos) (tAsg te (q2C i)):=by(
intro pins s σ H D I h
refine wpAny_Assign_Name (thn (he pins s σ H _ I h) λv s1 hZ=>?_) hs
obtain⟨y,H1,I1,r1,q1⟩:=hZ
exact q4V I1 hN hi hx r1 (λs2 I2=>⟨_,H1,I2,q1⟩) hf)
noncomputable def tAug(i:Nat)(te:TE)(ti:TIp):TS:=λD σ H=>∃x,σ[i]?=some (some x)∧te σ H λy H1=>ti x y H1 λz H2=>D.nx (σ.set i (some z)) H2
theorem qH4{i:Nat}{x:Str}{e:Expr}{te:TE}{op:Operator}{ti:TIp}{pos':Pos}(hN:X.N.Nodup)(hi:X.N[i]?=some x)(hx:Loc X.env.scope x)(he:PE X e te)(ho:PIp X op ti)(hf:X.fn x=true∨X.env.scope.names.lookup x=some .local:=by first|exact .inl rfl|exact .inr rfl|assumption):
 PS X (.AugAssign (.Name x pos') op e pos) (tAug i te ti):=by(
intro pins s σ H D I h
obtain⟨v,e1,h⟩:=h
obtain⟨m,hn,hl⟩:=I.loc
have vis:Vis X.env.scope x:=by rcases hx with k|k;exact .inl k;exact .inr (.inl k)
obtain⟨u,r,l⟩:=hl i x v hi e1 vis
refine wpAny_AugAssign_Name ?_
have go:wpAny (model X.prog X.w) X.A (eval e X.env) (λw s₂=>wpAny (model X.prog X.w) X.A (inplaceOp op u w) (λr s₃=>wpAny (model X.prog X.w) X.A (storeName X.env x r) (λ_=>SP X pins D .next) X.xe s₃) X.xe s₂) X.xe s:=by refine thn (he pins s σ H _ I h) λw s1 hZ=>?_;obtain⟨y,H1,I1,r1,q1⟩:=hZ;refine thn (ho pins s1 σ H1 v y u w _ I1 r r1 q1) λz s2 hZ=>?_;obtain⟨zv,H2,I2,r2,q2⟩:=hZ;exact q4V I2 hN hi hx r2 (λs3 I3=>⟨_,H2,I3,q2⟩) hf
rcases l with⟨hk,hm⟩|⟨hk,c,hc,hcell⟩
·exact lO I.ok.kind hk hn hm go
rcases hk with hk|hk
·exact l9 I.ok.kind hk hc hcell go
rcases hx with k|k
·have:X.env.scope.names.lookup x=some .free:=hk;rw[k]at this;cases this
have:X.env.scope.names.lookup x=some .free:=hk
rw[k]at this;cases this)
noncomputable def qJB(to ti te:TE)(tget:V→V→Hp→VK→Prop)(tip:TIp)(tset:TSet):TS:=λD σ H=>to σ H λo H1=>ti σ H1 λi H2=>tget o i H2 λx H3=>te σ H3 λy H4=>tip x y H4 λz H5=>tset o i z H5 λH6=>D.nx σ H6
noncomputable def PGet(X:Cx)(t:V→V→Hp→VK→Prop):Prop:=∀(pins:List (Addr×Obj)) (s:Shared) (σ:St) (H:Hp) (o i:V) (ov iv:Value) (Q:VK),Inv X pins σ H s→RelV o ov→RelV i iv→t o i H Q→wpAny (model X.prog X.w) X.A (getItem ov iv) (EP X pins σ Q) X.xe s
theorem q34{o i e:Expr}{to ti te:TE}{tget:V→V→Hp→VK→Prop}{tip:TIp}{tset:TSet}{op:Operator}{tpos:Pos}(ho:PE X o to)(hi:PE X i ti)(hg:PGet X tget)(he:PE X e te)(hp:PIp X op tip)(hs:PSet X tset)
 (ha:∀ov iv new,augStore i ov iv new=(do holding [new,ov,iv] (setItem ov iv new);release [new,ov,iv] [];pure .next):=by intros;rfl):PS X (.AugAssign (.Subscript o i tpos) op e pos) (qJB to ti te tget tip tset):=by(
intro pins s σ H D I h
refine wpAny_AugAssign_SubscriptAny (thn (ho pins s σ H _ I h) λov s1 hZ=>?_) ha
obtain⟨x1,H1,I1,r1,q1⟩:=hZ
refine thn (hi pins s1 σ H1 _ I1 q1) λiv s2 hZ=>?_
obtain⟨x2,H2,I2,r2,q2⟩:=hZ
refine thn (hg pins s2 σ H2 x1 x2 ov iv _ I2 r1 r2 q2) λold s3 hZ=>?_
obtain⟨x3,H3,I3,r3,q3⟩:=hZ
refine thn (he pins s3 σ H3 _ I3 q3) λv s4 hZ=>?_
obtain⟨x4,H4,I4,r4,q4⟩:=hZ
refine thn (hp pins s4 σ H4 x3 x4 old v _ I4 r3 r4 q4) λnew s5 hZ=>?_
obtain⟨x5,H5,I5,r5,q5⟩:=hZ
exact thn (hs pins s5 σ H5 x1 x2 x5 ov iv new _ I5 r1 r2 r5 q5) λ_ s6 ⟨H6,I6,q6⟩=>⟨σ,H6,I6,q6⟩)
noncomputable def ipI(f:Int→Int→Int):TIp:=λx y H Q=>∃i j,x=.int i∧y=.int j∧Q (.int (f i j)) H
theorem q4X:PIp X .Add (ipI λi j=>i+j):=by(
intro pins s σ H x y v u Q I r1 r2 h
obtain⟨i,j,e1,e2,q⟩:=h
subst e1;subst e2
obtain⟨t,rfl⟩:=r1
obtain⟨t',rfl⟩:=r2
exact iadd_int ⟨.int _,H,I.tok _,⟨_,rfl⟩,q⟩)
theorem qH5:PIp X .Sub (ipI λi j=>i-j):=by(
intro pins s σ H x y v u Q I r1 r2 h
obtain⟨i,j,e1,e2,q⟩:=h
subst e1;subst e2
obtain⟨t,rfl⟩:=r1
obtain⟨t',rfl⟩:=r2
exact isub_int ⟨.int _,H,I.tok _,⟨_,rfl⟩,q⟩)
end
section
variable{X:Cx}{pos:Pos}
noncomputable def qH6(c:TT)(tb:TS):TS:=λD σ H=>∃W:Nat→St→Hp→Prop,(∃m,W m σ H)∧∀m σ H,W m σ H→c σ H λb H1=>if b=true then ∃N:St→Hp→Prop,(∀σ' H',N σ' H'→∃m',m'<m∧W m' σ' H')∧tb { D with nx:=N,ct:=N,bk:=D.nx } σ H1 else D.nx σ H1
theorem q8H{c:Expr}{body:List Stmt}{tc:TT}{tb:TS}(hp:PassesOwn (model X.prog X.w) X.A X.env X.xe)(hc:PT X c tc)(hb:PSs X body tb):PS X (.While c body [] pos) (qH6 tc tb):=by(
intro pins s σ H D I h
obtain⟨W,⟨m0,w0⟩,turn⟩:=h
refine wpAny_While (codeAny_whileLoop (λn s'=>∃σ' H',Inv X pins σ' H' s'∧W n σ' H') ?_ m0 ⟨σ,H,I,w0⟩)
rintro n s1 ⟨σ1,H1,I1,w1⟩
refine rS hp (thn (hc pins s1 σ1 H1 _ I1 (turn n σ1 H1 w1)) λb s2 hZ=>?_)
obtain⟨H2,I2,q2⟩:=hZ
cases b with
|true=>
 obtain⟨N,hN,q2⟩:=q2;rw[hU rfl];refine rS hp (thn (hb pins s2 σ1 H2 _ I2 q2) λf s3 q3=>?_);cases f with
 |next=>obtain⟨σ3,H3,I3,n3⟩:=q3;obtain⟨m',hm,w3⟩:=hN σ3 H3 n3;exact⟨m',hm,σ3,H3,I3,w3⟩
 |cont=>obtain⟨σ3,H3,I3,n3⟩:=q3;obtain⟨m',hm,w3⟩:=hN σ3 H3 n3;exact⟨m',hm,σ3,H3,I3,w3⟩
 |brk=>exact q3
 |ret v=>exact q3
|false=>rw[hC kU];exact pV ⟨σ1,H2,I2,q2⟩)
end
structure It where
go:Nat→Hp→Prop
yld:Nat→Hp→V→Hp→Prop
stop:Nat→Hp→Prop
noncomputable def FpOk(X:Cx)(pins:List (Addr×Obj))(H:Hp)(b:Addr):Prop:=H b=none∧b≠X.env.locals∧b∉X.fs∧(b∈X.ex∨X.s₀.heap.objs.size≤b)∧(∀x c,X.env.cells.lookup x=some c→c≠b)∧∀p∈X.pn++pins,p.1≠b
theorem Inv.fpOk{X:Cx}{pins:List (Addr×Obj)}{σ:St}{H H':Hp}{s:Shared}{b:Addr}(I:Inv X pins σ H s)(hb:s.heap.objs.size≤b)(hn:H' b=none):FpOk X pins H' b:=by(
refine⟨hn,rT (mV I.lt hb),I.nofs hb,.inr (mD I.sz hb),λx c e z=>?_,λp hp z=>?_⟩
·obtain⟨v,q⟩:=I.cell x c e;exact absurd (mV q.lt (by rw[z];exact hb)) (rE _)
exact absurd (mV (mB (I.pin p hp).1) (by rw[z];exact hb)) (rE _))
structure Turn(P:Program)(w:World)(K:PySem.W.Frag)(tg:Expr)(J:It)(fp:List Addr)(it:Addr)(tn:Nat→Heap→Prop):Prop where
mem:it∈fp
obj:∀i h,tn i h→∀b∈fp,∃o,h.get? b=some o∧∀v,o.data≠ .cell v
keep:∀i h h',tn i h→(∀b∈fp,∀o,h.get? b=some o→h'.get? b=some o)→tn i h'
item:∀(X:Cx),X.prog=P→X.w=w→X.K=K→X.calm=true→∀(i:Nat) (pins:List (Addr×Obj)) (s:Shared) (σ:St) (H:Hp) (E:Value→Shared→Prop),Inv X pins σ H s→(∀b∈fp,FpOk X pins H b)→tn i s.heap→J.go i H→wpAny (model P w) X.A (pyNext (.ref it)) (λr s1=>∃u,r=some u∧wpAny (model P w) X.A (letOwnedTupleGo tg (.ref it) u) (λ_ s2=>∃x H',Inv X pins σ H' s2∧RelV x u∧J.yld i H x H'∧tn (i+1) s2.heap∧∀b∈fp,H' b=none) E s1) E s
done:∀(X:Cx),X.prog=P→X.w=w→X.K=K→X.calm=true→∀(i:Nat) (pins:List (Addr×Obj)) (s:Shared) (σ:St) (H:Hp) (E:Value→Shared→Prop),Inv X pins σ H s→(∀b∈fp,FpOk X pins H b)→tn i s.heap→J.stop i H→wpAny (model P w) X.A (pyNext (.ref it)) (λr s1=>r=none∧Inv X pins σ H s1) E s
self:∀(A:Around) (i:Nat) (s:Shared) (Q:Value→Shared→Prop) (E:Value→Shared→Prop),tn i s.heap→Q (.ref it) s→wpAny (model P w) A (pyIter (.ref it)) Q E s
noncomputable abbrev TI:=St→Hp→(It→Hp→Prop)→Prop
noncomputable def PIE(X:Cx)(pins:List (Addr×Obj))(σ:St)(tg:Expr)(R:It→Hp→Prop)(itv:Value)(s2:Shared):Prop:=∃(it:Addr) (fp:List Addr) (tn:Nat→Heap→Prop) (J:It) (H':Hp),itv=.ref it∧Inv X pins σ H' s2∧Turn X.prog X.w X.K tg J fp it tn∧tn 0 s2.heap∧(∀b∈fp,FpOk X pins H' b)∧R J H'
noncomputable def PI(X:Cx)(tg iter:Expr)(wi:TI):Prop:=∀(pins:List (Addr×Obj)) (s:Shared) (σ:St) (H:Hp) (R:It→Hp→Prop),Inv X pins σ H s→wi σ H R→wpAny (model X.prog X.w) X.A (eval iter X.env) (λv s1=>wpAny (model X.prog X.w) X.A (pyIter v) (PIE X pins σ tg R) X.xe s1) X.xe s
theorem qCL{M:Model}{A:Around}{E:Value→Shared→Prop}{s:Shared}{tg:Expr}{it:Addr}{u:Value}{o:Obj}{n:String}{vs:Array Value}{Q:Unit→Shared→Prop}(ho:s.heap.get? it=some o)(hc:o.cls=.type n)(hd:o.data=.fields vs)
 (hn:["enumerate","zip","dict_itemiterator","dict_reverseitemiterator","odict_iterator","itertools.zip_longest","itertools.pairwise"].contains n=false) (hQ:Q () s):wpAny M A (letOwnedTupleGo tg (.ref it) u) Q E s:=by(
unfold letOwnedTupleGo
cases tg<;>first
 |exact mH hQ
 |(cases u<;>first
  |exact mH hQ
  |(refine kB (wpAny_load ho ?_)
    rw[hc,hd];show wpAny M A (if(["enumerate","zip","dict_itemiterator","dict_reverseitemiterator","odict_iterator","itertools.zip_longest","itertools.pairwise"].contains n&&vs[0]?==some (rawInt _))=true then _ else _) Q E s;rw[hC (by intro h;rw[hn,Bool.false_and]at h;cases h)];exact mH hQ)))
noncomputable def Itl(K:PySem.W.Frag)(a:Addr):It:=⟨λi H=>∃xs x,SqL K H a xs∧xs[i]?=some x,λi H x H'=>H'=H∧∀xs,SqL K H a xs→xs[i]?=some x,λi H=>∃xs,SqL K H a xs∧xs.length≤i⟩
noncomputable def Itr(lo:Int)(n:Nat):It:=⟨λi _=>i<n,λi H x H'=>H'=H∧x=.int (lo+i),λi _=>n≤i⟩
theorem qBR{P:Program}{w:World}{K:PySem.W.Frag}{tg:Expr}(a it:Addr):Turn P w K tg (Itl K a) [it] it (λi h=>h.IsListIter it a i) where
mem:=by simp
obj:=λi h st b hb=>by
 have e:b=it:=by simpa using hb
 subst e;obtain⟨o,e,c,d⟩:=st;exact⟨o,e,λv z=>by rw[d]at z;cases z⟩
keep:=λi h h' st k=>st.at λo e=>k it (by simp) o e
item:=by intro X hP hw hK hc i pins s σ H E I hf st hg;subst hP hw hK;obtain⟨xs,x,hq,hx⟩:=hg;obtain⟨its,rv,p,hz⟩:=I.list hq;obtain⟨u,hu,ru⟩:=rv.get hx;obtain⟨f0,f1,f2,f3,f4,f5⟩:=hf it (by simp);refine wpAny_pyNext_list_item st p.isList (x:=u) (by simpa using hu) λh' st' sb=>?_;have I1:Inv X pins σ H { s with heap:=h' }:=I.turned (t':=s.toks) (λb o hb e=>(sb.2 b hb).trans e) f0 f1 f3 f4 f5;obtain⟨o,e,c,d⟩:=id st';exact⟨u,rfl,qCL (s:={ s with heap:=h' }) e c d (by decide) ⟨x,H,I1,ru,⟨rfl,λys hy=>by rw[I.list_inj hy hq];exact hx⟩,st',λb hb=>(hf b hb).1⟩⟩
done:=by intro X hP hw hK hc i pins s σ H E I hf st hg;subst hP hw hK;obtain⟨xs,hq,hx⟩:=hg;obtain⟨its,rv,p,hz⟩:=I.list hq;obtain⟨f0,f1,f2,f3,f4,f5⟩:=hf it (by simp);have hl:=rv.length;exact wpAny_pyNext_list_end (I.ok.hd hc) st p.isList (by simp;lia) λh' eb=>⟨rfl,I.turned (t':=s.toks) (λb o hb e=>eb b o hb e) f0 f1 f3 f4 f5⟩
self:=λ_ _ _ _ _ st h=>wpAny_pyIter_listiter st h
theorem q9R{P:Program}{w:World}{K:PySem.W.Frag}{tg:Expr}(it:Addr)(lo:Int)(n:Nat):Turn P w K tg (Itr lo n) [it] it (λi h=>IsRangeIter h it (lo+(i:Nat)*1) ((n:Int)-(i:Nat)) 1) where
mem:=by simp
obj:=λi h st b hb=>by
 have e:b=it:=by simpa using hb
 subst e;exact⟨_,st,λv z=>by have z':Data.fields _=Data.cell v:=z;cases z'⟩
keep:=λi h h' st k=>k it (by simp) _ st
item:=by intro X hP hw hK hc i pins s σ H E I hf st hg;subst hP hw hK;obtain⟨f0,f1,f2,f3,f4,f5⟩:=hf it (by simp);have W:=Walks.range (prog:=X.prog) (w:=X.w) (I.ok.hd hc) it lo 1 n;refine W.item i s _ _ hg st λv h' tk hv st' kk=>?_;obtain⟨t,rfl⟩:=hv;have I1:Inv X pins σ H { s with heap:=h',toks:=tk }:=I.turned (λb o hb e=>kk b o (by simpa using hb) e) f0 f1 f3 f4 f5;refine⟨_,rfl,qCL (s:={ s with heap:=h',toks:=tk }) (n:="range_iterator") st' rfl rfl (by decide) ⟨.int (lo+i),H,I1,⟨t,?_⟩,⟨rfl,rfl⟩,st',λb hb=>(hf b hb).1⟩⟩;rw[Int.mul_one]
done:=by intro X hP hw hK hc i pins s σ H E I hf st hg;subst hP hw hK;obtain⟨f0,f1,f2,f3,f4,f5⟩:=hf it (by simp);exact wpAny_pyNext_range_end (I.ok.hd hc) st (by have:n≤i:=hg;lia) λh' eb=>⟨rfl,I.turned (t':=s.toks) (λb o hb e=>eb b o hb e) f0 f1 f3 f4 f5⟩
self:=λ_ _ _ _ _ st h=>wpAny_pyIter_rangeiter st h
section
variable{X:Cx}{tg:Expr}
noncomputable def qJC(K:PySem.W.Frag)(tl:TE):TI:=λσ H R=>tl σ H λx H1=>∃a,x=.ref a∧(∃xs,SqL K H1 a xs)∧R (Itl K a) H1
theorem yE{l:Expr}{tl:TE}(hl:PE X l tl):PI X tg l (qJC X.K tl):=by(
intro pins s σ H R I h
refine thn (hl pins s σ H _ I h) λv s1 hZ=>?_
obtain⟨x,H1,I1,r1,q1⟩:=hZ
obtain⟨a,e,⟨xs,hq⟩,q⟩:=q1
subst e
cases r1
obtain⟨its,rv,p,hz⟩:=I1.list hq
refine wpAny_pyIter_list p.isList ?_
refine⟨s1.heap.objs.size,[s1.heap.objs.size],_,_,H1,rfl,I1.kept (t':=s1.toks) λb o e=>kF _ e,qBR a _,⟨_,mU _ rfl,rfl,rfl⟩,λb hb=>?_,q⟩
have e:b=s1.heap.objs.size:=by simpa using hb
subst e
exact I1.fpOk (kJ _) (I1.hok.fresh (kJ _)))
theorem q8I{pins:List (Addr×Obj)}{σ:St}{H:Hp}{s:Shared}{R:It→Hp→Prop}{E:Value→Shared→Prop}{lo hi:Int}{t u v:Tok}{tk:Nat}(I:Inv X pins σ H s)(h1:-(2 ^ 62)≤lo)(h2:lo<2 ^ 62)(h3:-(2 ^ 62)≤hi)(h4:hi<2 ^ 62)
 (q:R (Itr lo (hi-lo).toNat) H):wpAny (model X.prog X.w) X.A (pyIter (.ref s.heap.objs.size)) (PIE X pins σ tg R) E { s with heap:=s.heap.push { cls:=.type "range",data:=.fields #[.int lo t,.int hi u,.int 1 v] },toks:=tk }:=by(
refine wpAny_pyIter_range (IsRange.new ..) (small_one h1 h2 h3 h4) ?_
have I1:Inv X pins σ H { s with heap:=s.heap.push { cls:=.type "range",data:=.fields #[.int lo t,.int hi u,.int 1 v] },toks:=tk }:=I.kept λb o e=>kF _ e
refine⟨(s.heap.push { cls:=.type "range",data:=.fields #[.int lo t,.int hi u,.int 1 v] }).objs.size,[(s.heap.push { cls:=.type "range",data:=.fields #[.int lo t,.int hi u,.int 1 v] }).objs.size],_,_,H,rfl,I1.kept (t':=tk) λb o e=>kF _ e,q9R _ lo (hi-lo).toNat,?_,λb hb=>?_,q⟩
·have e1:lo+((0:Nat):Int)*1=lo:=by simp
 have e2:(((hi-lo).toNat:Nat):Int)-((0:Nat):Int)=Builtin.Range.rangeSize lo hi 1:=by rw[rangeSize_one];split<;>lia
 show IsRangeIter _ _ (lo+((0:Nat):Int)*1) ((((hi-lo).toNat:Nat):Int)-((0:Nat):Int)) 1;rw[e1,e2];exact mU _ rfl
have e:b=(s.heap.push { cls:=.type "range",data:=.fields #[.int lo t,.int hi u,.int 1 v] }).objs.size:=by simpa using hb
subst e
exact I1.fpOk (kJ _) (I1.hok.fresh (kJ _)))
noncomputable def qJD(ta:TA):TI:=λσ H R=>ta σ H λvs H1=>∃j:Int,vs=[.int j]∧-(2 ^ 62)≤j∧j<2 ^ 62∧R (Itr 0 j.toNat) H1
noncomputable def qJE(ta:TA):TI:=λσ H R=>ta σ H λvs H1=>∃i j:Int,vs=[.int i,.int j]∧(-(2 ^ 62)≤i∧i<2 ^ 62∧-(2 ^ 62)≤j∧j<2 ^ 62)∧R (Itr i (j-i).toNat) H1
theorem q3Q{a:Expr}{ta:TA}{p pos:Pos}(hg:Gl X "range")(hm:X.mg "range"=none)(ha:PA X [a] ta)(hs:starEach [a] X.env=[(false,eval a X.env)]:=by rfl):PI X tg (.Call (.Name "range" p) [a] [] pos) (qJD ta):=by(
intro pins s σ H R I h
refine Call_ (q3N I hg hm boot_range (wW (thn (ha pos pins s σ H _ I h) λus s1 hZ=>?_) hs rfl))
obtain⟨vs,H1,I1,r1,q1⟩:=hZ
obtain⟨j,e,q1,q2,q⟩:=q1
subst e
cases r1 with
|cons r rr=>cases rr;obtain⟨t,rfl⟩:=r;exact call_range_1 (q8I I1 (by lia) (by lia) q1 q2 (by simpa using q)))
theorem q6L{a b:Expr}{ta:TA}{p pos:Pos}(hg:Gl X "range")(hm:X.mg "range"=none)(ha:PA X [a,b] ta)(hs:starEach [a,b] X.env=[(false,eval a X.env),(false,eval b X.env)]:=by rfl)(hs2:starEach [b] X.env=[(false,eval b X.env)]:=by rfl):
 PI X tg (.Call (.Name "range" p) [a,b] [] pos) (qJE ta):=by(
intro pins s σ H R I h
refine Call_ (q3N I hg hm boot_range (wW (thn (ha pos pins s σ H _ I h) λus s1 ⟨vs,H1,I1,r1,q1⟩=>?_) (by rw[hs,hs2]) (by rw[hs2];rfl)))
obtain⟨i,j,e,⟨q1,q2,q3,q4⟩,q⟩:=q1
subst e
cases r1 with
|cons r rr=>
 cases rr with
 |cons r' rr=>cases rr;obtain⟨t,rfl⟩:=r;obtain⟨t',rfl⟩:=r';exact call_range_2 (q8I I1 q1 q2 q3 q4 q))
noncomputable def tFor(wi:TI)(g:TG)(tb:TS):TS:=λD σ H=>wi σ H λJ H1=>∃W:Nat→Nat→St→Hp→Prop,(∃m,W 0 m σ H1)∧∀i m σ H,W i m σ H→(J.stop i H∧D.nx σ H)∨(J.go i H∧∃N:St→Hp→Prop,(∀σ' H',N σ' H'→∃m',m'<m∧W (i+1) m' σ' H')∧∀x H',J.yld i H x H'→g x σ H' λσ2 H2=>tb { D with nx:=N,ct:=N,bk:=D.nx } σ2 H2)
noncomputable def q4Y(fp:List Addr)(h:Heap):List (Addr×Obj):=fp.filterMap λb=>(h.get? b).map λo=>(b,o)
theorem uU{fp:List Addr}{h:Heap}{b:Addr}{o:Obj}(hb:b∈fp)(e:h.get? b=some o):(b,o)∈q4Y fp h:=wH.mpr ⟨b,hb,by rw[e];rfl⟩
theorem qBS{fp:List Addr}{h:Heap}{p:Addr×Obj}(hp:p∈q4Y fp h):p.1∈fp∧h.get? p.1=some p.2:=by(
obtain⟨b,hb,e⟩:=wH.mp hp
cases q:h.get? b with
|none=>rw[q]at e;cases e
|some o=>rw[q]at e;have e':(b,o)=p:=kW e;subst e';exact⟨hb,q⟩)
theorem Inv.pinned{pins:List (Addr×Obj)}{σ:St}{H:Hp}{s:Shared}{fp:List Addr}(I:Inv X pins σ H s)(hf:∀b∈fp,FpOk X pins H b)(ho:∀b∈fp,∃o,s.heap.get? b=some o∧∀v,o.data≠ .cell v):Inv X (pins++q4Y fp s.heap) σ H s:=I.pins_of λp hp=>(gF.mp hp).elim (λz=>I.pin p (mO _ z)) λz=>by  obtain⟨hb,e⟩:=qBS z;obtain⟨f0,f1,f2,_⟩:=hf p.1 hb;obtain⟨o,e',d⟩:=ho p.1 hb;rw[e]at e';cases e';exact⟨e,f0,f1,f2,d⟩
theorem Inv.unpinned{pins pl:List (Addr×Obj)}{σ:St}{H:Hp}{s:Shared}(I:Inv X (pins++pl) σ H s):Inv X pins σ H s:=I.pins_of λp hp=>I.pin p (mO _ (gP _ hp))
theorem vJ{iter:Expr}{body:List Stmt}{wi:TI}{g:TG}{tb:TS}{pos:Pos}(hp:PassesOwn (model X.prog X.w) X.A X.env X.xe)(hc:X.calm=true)(hi:PI X tg iter wi)(hg:PG X tg g)(hb:PSs X body tb)
 (hs:∀x,foldedSetIterable iter X.env x=pure x:=by intro _;rfl):PS X (.For tg iter body [] pos) (tFor wi g tb):=by(
intro pins s σ H D I h
refine wpAny_For (thn (hi pins s σ H _ I h) λv s1 h1=>thn h1 λitv s2 h2=>?_) hs
obtain⟨it,fp,tn,J,H2,e,I2,T,st2,f2,W,⟨m0,w0⟩,turn⟩:=h2
subst e
have stat:∀{H':Hp},(∀b∈fp,H' b=none)→∀b∈fp,FpOk X pins H' b:=λhn b hb=>⟨hn b hb,(f2 b hb).2⟩
refine codeAny_forLoop_any (λn s'=>∃i σ' H',Inv X pins σ' H' s'∧tn i s'.heap∧(∀b∈fp,H' b=none)∧W i n σ' H') ?_ m0 ⟨0,σ,H2,I2,st2,λb hb=>(f2 b hb).1,w0⟩
rintro n s3 ⟨i,σ3,H3,I3,st3,fr3,w3⟩
rcases turn i n σ3 H3 w3 with⟨stop,qn⟩|⟨go,N,hN,step⟩
·refine rS hp (thn (T.done X rfl rfl rfl hc i pins s3 σ3 H3 X.xe I3 (stat fr3) st3 stop) λr s4 hZ=>?_);obtain⟨hr,I4⟩:=hZ;subst hr;exact pV ⟨σ3,H3,I4,qn⟩
refine rS hp (thn (T.item X rfl rfl rfl hc i pins s3 σ3 H3 X.xe I3 (stat fr3) st3 go) λr s4 hZ=>?_)
obtain⟨u,hr,h4⟩:=hZ
subst hr
refine rS hp (thn h4 λ_ s5 hZ=>?_)
obtain⟨x,H5,I5,r5,y5,st5,fr5⟩:=hZ
have I5':=I5.pinned (stat fr5) (T.obj _ _ st5)
refine rS hp (thn (hg _ s5 σ3 H5 x u _ I5' r5 (step x H5 y5)) λ_ s6 hZ=>?_)
obtain⟨σ6,H6,I6,q6⟩:=hZ
refine rS hp (thn (hb _ s6 σ6 H6 _ I6 q6) λf s7 q7=>?_)
have again:∀{σ7:St} {H7:Hp},Inv X (pins++q4Y fp s5.heap) σ7 H7 s7→N σ7 H7→∃m,m<n∧∃i σ' H',Inv X pins σ' H' s7∧tn i s7.heap∧(∀b∈fp,H' b=none)∧W i m σ' H':=fun {σ7 H7} I7 n7=>by obtain⟨m',hm,w7⟩:=hN σ7 H7 n7;refine⟨m',hm,i+1,σ7,H7,I7.unpinned,T.keep _ _ _ st5 λb hb o e=>(I7.pin (b,o) (mO _ (mO _ (uU hb e)))).1,λb hb=>?_,w7⟩;obtain⟨o,e,d⟩:=T.obj _ _ st5 b hb;exact(I7.pin (b,o) (mO _ (mO _ (uU hb e)))).2.1
cases f with
|next=>obtain⟨σ7,H7,I7,n7⟩:=q7;exact again I7 n7
|cont=>obtain⟨σ7,H7,I7,n7⟩:=q7;exact again I7 n7
|brk=>obtain⟨σ7,H7,I7,q7⟩:=q7;exact⟨σ7,H7,I7.unpinned,q7⟩
|ret v=>obtain⟨x7,σ7,H7,I7,r7,q7⟩:=q7;exact⟨x7,σ7,H7,I7.unpinned,r7,q7⟩)
end
theorem v4{K:PySem.W.Frag}{a:Addr}{xs:List V}{g:TG}{tb:TS}{D:Ends}{σ:St}{H:Hp}(Pv:Nat→St→Hp→Prop)(h0:Pv 0 σ H)(hl:∀i σ H,i≤xs.length→Pv i σ H→SqL K H a xs)
 (hs:∀i x σ H,xs[i]?=some x→Pv i σ H→g x σ H λσ2 H2=>tb { D with nx:=Pv (i+1),ct:=Pv (i+1),bk:=D.nx } σ2 H2) (hd:∀σ H,Pv xs.length σ H→D.nx σ H):
 ∃W:Nat→Nat→St→Hp→Prop,(∃m,W 0 m σ H)∧∀i m σ H,W i m σ H→((Itl K a).stop i H∧D.nx σ H)∨((Itl K a).go i H∧∃N:St→Hp→Prop,(∀σ' H',N σ' H'→∃m',m'<m∧W (i+1) m' σ' H')∧∀x H',(Itl K a).yld i H x H'→g x σ H' λσ2 H2=>tb { D with nx:=N,ct:=N,bk:=D.nx } σ2 H2):=by(
refine⟨λi m σ H=>m=xs.length-i∧i≤xs.length∧Pv i σ H,⟨xs.length,by simp,mQ _,h0⟩,?_⟩
rintro i m σ H ⟨rfl,hi,p⟩
have q:=hl i σ H hi p
by_cases hlt:i<xs.length
·refine .inr ⟨⟨xs,xs[i],q,by simp[hlt]⟩,Pv (i+1),λσ' H' p'=>⟨xs.length-(i+1),by lia,rfl,hlt,p'⟩,λx H' y=>?_⟩;obtain⟨e,y⟩:=y;subst e;exact hs i x σ _ (y xs q) p
have e:i=xs.length:=by lia
subst e
exact .inl ⟨⟨xs,q,kJ _⟩,hd σ H p⟩)
theorem q6M{lo:Int}{n:Nat}{g:TG}{tb:TS}{D:Ends}{σ:St}{H:Hp}(Pv:Nat→St→Hp→Prop)(h0:Pv 0 σ H)
 (hs:∀i σ H,i<n→Pv i σ H→g (.int (lo+i)) σ H λσ2 H2=>tb { D with nx:=Pv (i+1),ct:=Pv (i+1),bk:=D.nx } σ2 H2) (hd:∀σ H,Pv n σ H→D.nx σ H):
 ∃W:Nat→Nat→St→Hp→Prop,(∃m,W 0 m σ H)∧∀i m σ H,W i m σ H→((Itr lo n).stop i H∧D.nx σ H)∨((Itr lo n).go i H∧∃N:St→Hp→Prop,(∀σ' H',N σ' H'→∃m',m'<m∧W (i+1) m' σ' H')∧∀x H',(Itr lo n).yld i H x H'→g x σ H' λσ2 H2=>tb { D with nx:=N,ct:=N,bk:=D.nx } σ2 H2):=by(
refine⟨λi m σ H=>m=n-i∧i≤n∧Pv i σ H,⟨n,by simp,mQ _,h0⟩,?_⟩
rintro i m σ H ⟨rfl,hi,p⟩
by_cases hlt:i<n
·refine .inr ⟨hlt,Pv (i+1),λσ' H' p'=>⟨n-(i+1),by lia,rfl,hlt,p'⟩,λx H' y=>?_⟩;obtain⟨e,y⟩:=y;subst e y;exact hs i σ _ hlt p
have e:i=n:=by lia
subst e
exact .inl ⟨kJ _,hd σ H p⟩)
noncomputable abbrev R2:=V→V→Hp→VK→Prop
noncomputable def OpR(X:Cx)(f:Value→Value→Sem Value)(r:R2):Prop:=∀(pins:List (Addr×Obj)) (s:Shared) (σ:St) (H:Hp) (x y:V) (v u:Value) (Q:VK),Inv X pins σ H s→RelV x v→RelV y u→r x y H Q→wpAny (model X.prog X.w) X.A (f v u) (EP X pins σ Q) X.xe s
noncomputable def UnR(X:Cx)(f:Value→Sem Value)(r:V→Hp→VK→Prop):Prop:=∀(pins:List (Addr×Obj)) (s:Shared) (σ:St) (H:Hp) (x:V) (v:Value) (Q:VK),Inv X pins σ H s→RelV x v→r x H Q→wpAny (model X.prog X.w) X.A (f v) (EP X pins σ Q) X.xe s
noncomputable def q2D(X:Cx)(f:Value)(r:List V→Hp→VK→Prop):Prop:=∀(pins:List (Addr×Obj)) (s:Shared) (σ:St) (H:Hp) (xs:List V) (us:List Value) (Q:VK),Inv X pins σ H s→Vals xs us→r xs H Q→wpAny (model X.prog X.w) X.A (call f us) (EP X pins σ Q) X.xe s
noncomputable def tOp(r:R2)(ta tb:TE):TE:=λσ H Q=>ta σ H λx H1=>tb σ H1 λy H2=>r x y H2 Q
noncomputable def tUn(r:V→Hp→VK→Prop)(ta:TE):TE:=λσ H Q=>ta σ H λx H1=>r x H1 Q
noncomputable def rI(C:Int→Int→Prop)(g:Int→Int→V):R2:=λx y H Q=>∃i j,x=.int i∧y=.int j∧C i j∧Q (g i j) H
noncomputable def rI0(g:Int→Int→V):R2:=λx y H Q=>∃i j,x=.int i∧y=.int j∧Q (g i j) H
noncomputable def rU(g:Int→V):V→Hp→VK→Prop:=λx H Q=>∃i,x=.int i∧Q (g i) H
section
variable{X:Cx}{a b c:Expr}{ta tb tc:TE}{pos:Pos}
theorem binT(ha:PE X a ta)(hb:PE X b tb){pins:List (Addr×Obj)}{s:Shared}{σ:St}{H:Hp}{R:V→V→Hp→Prop}(I:Inv X pins σ H s)
 (h:ta σ H λx H1=>tb σ H1 λy H2=>R x y H2) {Q:Value→Shared→Prop} {f:Value→Value→Sem Value}
 (hf:∀v u s2 x y H2,Inv X pins σ H2 s2→RelV x v→RelV y u→R x y H2→wpAny (model X.prog X.w) X.A (f v u) Q X.xe s2):
 wpAny (model X.prog X.w) X.A (eval a X.env) (λv s₁=>wpAny (model X.prog X.w) X.A (eval b X.env) (λu s₂=>wpAny (model X.prog X.w) X.A (f v u) Q X.xe s₂) X.xe s₁) X.xe s:=by(
refine thn (ha pins s σ H _ I h) λv s1 hZ=>?_
obtain⟨x,H1,I1,r1,q1⟩:=hZ
refine thn (hb pins s1 σ H1 _ I1 q1) λu s2 hZ=>?_
obtain⟨y,H2,I2,r2,q2⟩:=hZ
exact hf v u s2 x y H2 I2 r1 r2 q2)
theorem qO{op:Operator}{r:R2}(ho:OpR X (binaryOp op) r)(ha:PE X a ta)(hb:PE X b tb):PE X (.BinOp a op b pos) (tOp r ta tb):=by intro pins s σ H Q I h;exact wpAny_BinOp (binT ha hb I h λv u s2 x y H2 I2 rx ry q=>ho pins s2 σ H2 x y v u Q I2 rx ry q)
theorem qJF{op:UnaryOp}{r:V→Hp→VK→Prop}(ho:UnR X (unaryOp op) r)(ha:PE X a ta):PE X (.UnaryOp op a pos) (tUn r ta):=by intro pins s σ H Q I h;exact UnaryOp_ (thn (ha pins s σ H _ I h) λv s1 ⟨x,H1,I1,r1,q1⟩=>ho pins s1 σ H1 x v Q I1 r1 q1)
theorem opI{f:Value→Value→Sem Value}{C:Int→Int→Prop}{g:Int→Int→Int}
 (rule:∀(i j:Int) (t u:Tok) (s:Shared) (Q:Value→Shared→Prop) (E:Value→Shared→Prop),C i j→Q (.int (g i j) s.toks) { s with toks:=s.toks+1 }→wpAny (model X.prog X.w) X.A (f (.int i t) (.int j u)) Q E s):
 OpR X f (rI C λi j=>.int (g i j)):=by(
intro pins s σ H x y v u Q I rx ry h
obtain⟨i,j,rfl,rfl,hc,q⟩:=h
obtain⟨t,rfl⟩:=rx
obtain⟨t',rfl⟩:=ry
exact rule i j t t' s _ _ hc ⟨.int (g i j),H,I.tok _,⟨_,rfl⟩,q⟩)
theorem opI0{f:Value→Value→Sem Value}{g:Int→Int→Int}
 (rule:∀(i j:Int) (t u:Tok) (s:Shared) (Q:Value→Shared→Prop) (E:Value→Shared→Prop),Q (.int (g i j) s.toks) { s with toks:=s.toks+1 }→wpAny (model X.prog X.w) X.A (f (.int i t) (.int j u)) Q E s):
 OpR X f (rI0 λi j=>.int (g i j)):=by(
intro pins s σ H x y v u Q I rx ry h
obtain⟨i,j,rfl,rfl,q⟩:=h
obtain⟨t,rfl⟩:=rx
obtain⟨t',rfl⟩:=ry
exact rule i j t t' s _ _ ⟨.int (g i j),H,I.tok _,⟨_,rfl⟩,q⟩)
theorem opB0{f:Value→Value→Sem Value}{g:Int→Int→Bool}
 (rule:∀(i j:Int) (t u:Tok) (s:Shared) (Q:Value→Shared→Prop) (E:Value→Shared→Prop),Q (.bool (g i j)) s→wpAny (model X.prog X.w) X.A (f (.int i t) (.int j u)) Q E s):
 OpR X f (rI0 λi j=>.bl (g i j)):=by(
intro pins s σ H x y v u Q I rx ry h
obtain⟨i,j,rfl,rfl,q⟩:=h
obtain⟨t,rfl⟩:=rx
obtain⟨t',rfl⟩:=ry
exact rule i j t t' s _ _ ⟨.bl (g i j),H,I,rfl,q⟩)
noncomputable def CDiv(i j:Int):Prop:=0<j∧j<1073741824
noncomputable def CPow(i j:Int):Prop:=0≤j∧j≤1000000∧i.natAbs<2 ^ 64
noncomputable def CMul(i j:Int):Prop:=(-(2 ^ 64)<i∧i<2 ^ 64)∨(-(2 ^ 64)<j∧j<2 ^ 64)
theorem CMul.ok{i j:Int}(h:CMul i j):IntMulOk i j:=by(
rcases h with⟨h1,h2⟩|⟨h1,h2⟩
·exact .of_left (intBits_le_64 h1 h2)
exact .of_right (intBits_le_64 h1 h2))
theorem yL:OpR X (binaryOp .Add) (rI0 λi j=>.int (i+j)):=opI0 λ_ _ _ _ _ _ _ q=>add_int q
theorem yR:OpR X (binaryOp .Sub) (rI0 λi j=>.int (i-j)):=opI0 λ_ _ _ _ _ _ _ q=>sub_int q
theorem yS:OpR X (binaryOp .Mult) (rI CMul λi j=>.int (i*j)):=opI λ_ _ _ _ _ _ _ hc q=>mul_int q hc.ok
theorem q1T:OpR X (binaryOp .FloorDiv) (rI CDiv λi j=>.int (i / j)):=opI λi j _ _ _ _ _ hc q=>by have h1:(0:Int)<j:=hc.1;have h2:j<1073741824:=hc.2;exact floordiv_int (by lia) (by rw[Int.fdiv_eq_ediv_of_nonneg i (by lia)];exact q) (.inl (PyProof.noPylong_small (by lia)))
theorem uG:OpR X (binaryOp .Mod) (rI (λ_ j=>0<j) λi j=>.int (i%j)):=opI λi j _ _ _ _ _ hc q=>by have h1:(0:Int)<j:=hc;exact mod_int' (by lia) (by rw[Int.fmod_eq_emod_of_nonneg i (by lia)];exact q)
theorem q9S:OpR X (binaryOp .Pow) (rI CPow λi j=>.int (i ^ j.toNat)):=opI λ_ _ _ _ _ _ _ hc q=>pow_int_small hc.1 hc.2.1 hc.2.2 q
theorem qH7:OpR X (binaryOp .LShift) (rI CPow λi j=>.int (i*2 ^ j.toNat)):=opI λ_ _ _ _ _ _ _ hc q=>lshift_int_small hc.1 hc.2.1 hc.2.2 q
theorem qJG:OpR X (binaryOp .BitOr) (rI0 λi j=>.int (Builtin.bitOr i j)):=opI0 λ_ _ _ _ _ _ _ q=>or_int q
theorem unI{f:Value→Sem Value}{g:Int→Int}
 (rule:∀(i:Int) (t:Tok) (s:Shared) (Q:Value→Shared→Prop) (E:Value→Shared→Prop),Q (.int (g i) s.toks) { s with toks:=s.toks+1 }→wpAny (model X.prog X.w) X.A (f (.int i t)) Q E s):
 UnR X f (rU λi=>.int (g i)):=by(
intro pins s σ H x v Q I rx h
obtain⟨i,rfl,q⟩:=h
obtain⟨t,rfl⟩:=rx
exact rule i t s _ _ ⟨.int (g i),H,I.tok _,⟨_,rfl⟩,q⟩)
theorem qH8:UnR X (unaryOp .USub) (rU λi=>.int (-i)):=unI λ_ _ _ _ _ q=>neg_int q
end
noncomputable def scal:V→V→Bool
| .non,.non=>true| .non,.int _=>true| .int _,.non=>true| .non,.bl _=>true| .bl _,.non=>true| .non,.str _=>true| .str _,.non=>true
| .int _,.int _=>true| .bl _,.bl _=>true| .str _,.str _=>true| .byt _,.byt _=>true
| .int _,.str _=>true| .str _,.int _=>true| .bl _,.str _=>true| .str _,.bl _=>true
|_,_=>false
noncomputable def rEq:R2:=λx y H Q=>scal x y=true∧Q (.bl (decide (x=y))) H
noncomputable def rNe:R2:=λx y H Q=>scal x y=true∧Q (.bl (!decide (x=y))) H
theorem qAN{i j:Int}:decide (V.int i=V.int j)=(i==j):=by rw[wQ];simp
theorem qCM{i j:Bool}:decide (V.bl i=V.bl j)=(i==j):=by rw[wQ];simp
theorem qAO{i j:Str}:decide (V.str i=V.str j)=(i==j):=by rw[wQ];simp
theorem qAP{i j:Array UInt8}:decide (V.byt i=V.byt j)=(i.toList==j.toList):=by(
rw[wQ]
cases i
cases j
simp)
section
variable{X:Cx}{a b c:Expr}{ta tb tc:TE}{pos:Pos}
theorem jE{pins:List (Addr×Obj)}{σ:St}{H:Hp}{s:Shared}{Q:VK}{k k':Bool}(I:Inv X pins σ H s)(q:Q (.bl k) H)(e:k=k'):EP X pins σ Q (.bool k') s:=by subst e;exact⟨.bl k,H,I,rfl,q⟩
theorem zU:OpR X (compareOp .Eq) rEq:=by(
intro pins s σ H x y v u Q I rx ry h
obtain⟨hs,q⟩:=h
cases x with
|non=>
 cases rx;cases y with
 |non=>cases ry;exact PySem.EqNone.eq_none_none (jE I q (by simp))
 |bl j=>cases ry;exact PySem.EqNone.eq_none_bool (jE I q (by simp))
 |int j=>obtain⟨t',rfl⟩:=ry;exact PySem.EqNone.eq_none_int (jE I q (by simp))
 |str j=>obtain⟨t',rfl⟩:=ry;exact PySem.EqNone.eq_none_str (jE I q (by simp))
 |_=>exact absurd (show false=true from hs) kU
|bl i=>
 cases rx;cases y with
 |non=>cases ry;exact PySem.EqNone.eq_bool_none (jE I q (by simp))
 |bl j=>cases ry;exact eq_bool (jE I q qCM)
 |str j=>obtain⟨t',rfl⟩:=ry;exact aY (jE I q (by simp))
 |_=>exact absurd (show false=true from hs) kU
|int i=>
 obtain⟨t,rfl⟩:=rx;cases y with
 |non=>cases ry;exact PySem.EqNone.eq_int_none (jE I q (by simp))
 |int j=>obtain⟨t',rfl⟩:=ry;exact eq_int (jE I q qAN)
 |str j=>obtain⟨t',rfl⟩:=ry;exact bC (jE I q (by simp))
 |_=>exact absurd (show false=true from hs) kU
|str i=>
 obtain⟨t,rfl⟩:=rx;cases y with
 |non=>cases ry;exact PySem.EqNone.eq_str_none (jE I q (by simp))
 |bl j=>cases ry;exact aZ (jE I q (by simp))
 |int j=>obtain⟨t',rfl⟩:=ry;exact bD (jE I q (by simp))
 |str j=>obtain⟨t',rfl⟩:=ry;exact eq_str (jE I q qAO)
 |_=>exact absurd (show false=true from hs) kU
|byt i=>
 obtain⟨t,rfl⟩:=rx;cases y with
 |byt j=>obtain⟨t',rfl⟩:=ry;exact PySem.W.eq_bytes (jE I q qAP)
 |_=>exact absurd (show false=true from hs) kU
|_=>cases y<;>exact absurd (show false=true from hs) kU)
theorem q8J:OpR X (compareOp .NotEq) rNe:=by(
intro pins s σ H x y v u Q I rx ry h
obtain⟨hs,q⟩:=h
cases x with
|non=>
 cases rx;cases y with
 |non=>cases ry;exact PySem.EqNone.ne_none_none (jE I q (by simp))
 |bl j=>cases ry;exact PySem.EqNone.ne_none_bool (jE I q (by simp))
 |int j=>obtain⟨t',rfl⟩:=ry;exact PySem.EqNone.ne_none_int (jE I q (by simp))
 |str j=>obtain⟨t',rfl⟩:=ry;exact PySem.EqNone.ne_none_str (jE I q (by simp))
 |_=>exact absurd (show false=true from hs) kU
|bl i=>
 cases rx;cases y with
 |non=>cases ry;exact PySem.EqNone.ne_bool_none (jE I q (by simp))
 |bl j=>cases ry;exact ne_bool (jE I q (dE not qCM))
 |str j=>obtain⟨t',rfl⟩:=ry;exact bA (jE I q (by simp))
 |_=>exact absurd (show false=true from hs) kU
|int i=>
 obtain⟨t,rfl⟩:=rx;cases y with
 |non=>cases ry;exact PySem.EqNone.ne_int_none (jE I q (by simp))
 |int j=>obtain⟨t',rfl⟩:=ry;exact ne_int (jE I q (dE not qAN))
 |str j=>obtain⟨t',rfl⟩:=ry;exact bE (jE I q (by simp))
 |_=>exact absurd (show false=true from hs) kU
|str i=>
 obtain⟨t,rfl⟩:=rx;cases y with
 |non=>cases ry;exact PySem.EqNone.ne_str_none (jE I q (by simp))
 |bl j=>cases ry;exact bB (jE I q (by simp))
 |int j=>obtain⟨t',rfl⟩:=ry;exact bG (jE I q (by simp))
 |str j=>obtain⟨t',rfl⟩:=ry;exact ne_str (jE I q (dE not qAO))
 |_=>exact absurd (show false=true from hs) kU
|byt i=>
 obtain⟨t,rfl⟩:=rx;cases y with
 |byt j=>obtain⟨t',rfl⟩:=ry;exact PySem.W.ne_bytes (jE I q (dE not qAP))
 |_=>exact absurd (show false=true from hs) kU
|_=>cases y<;>exact absurd (show false=true from hs) kU)
theorem q4Z:OpR X (compareOp .Lt) (rI0 λi j=>.bl (decide (i<j))):=opB0 λ_ _ _ _ _ _ _ q=>lt_int q
theorem q8K:OpR X (compareOp .LtE) (rI0 λi j=>.bl (decide (i≤j))):=opB0 λ_ _ _ _ _ _ _ q=>le_int q
theorem qCN:OpR X (compareOp .Gt) (rI0 λi j=>.bl (decide (j<i))):=opB0 λ_ _ _ _ _ _ _ q=>gt_int q
theorem qAQ:OpR X (compareOp .GtE) (rI0 λi j=>.bl (decide (j≤i))):=opB0 λ_ _ _ _ _ _ _ q=>ge_int q
theorem q9T:OpR X (compareOp .Is) (λx y H Q=>y=.non∧Q (.bl (decide (x=.non))) H):=by(
intro pins s σ H x y v u Q I rx ry h
obtain⟨rfl,q⟩:=h
cases ry
refine is_none_gen (jE I q ?_)
cases x<;>first
 |(cases rx;rfl)
 |(obtain⟨t,rfl⟩:=rx;rfl))
theorem q4M:OpR X (compareOp .IsNot) (λx y H Q=>y=.non∧Q (.bl (!decide (x=.non))) H):=by(
intro pins s σ H x y v u Q I rx ry h
obtain⟨rfl,q⟩:=h
cases ry
refine isnot_none_gen (jE I q ?_)
cases x<;>first
 |(cases rx;rfl)
 |(obtain⟨t,rfl⟩:=rx;rfl))
theorem qS(b:Expr){op:CmpOp}(h:op≠ .In:=by decide)(h2:op≠ .NotIn:=by decide):behindInMarks op b=false:=by(
have e1:(op==CmpOp.In)=false:=by cases op<;>first|rfl|exact absurd rfl h
have e2:(op==CmpOp.NotIn)=false:=by cases op<;>first|rfl|exact absurd rfl h2
cases b<;>simp[behindInMarks,e1,e2])
theorem yP{op:CmpOp}{r:R2}(ho:OpR X (compareOp op) r)(ha:PE X a ta)(hb:PE X b tb)(hm:behindInMarks op b=false):PE X (.Compare a [op] [b] pos) (tOp r ta tb):=by intro pins s σ H Q I h;exact wpAny_Compare1 (binT ha hb I h λv u s2 x y H2 I2 rx ry q=>ho pins s2 σ H2 x y v u Q I2 rx ry q) hm
noncomputable def qGI(t:TE):TT:=λσ H Q=>t σ H λx H'=>∃k,x=.bl k∧Q k H'
theorem qT{op:CmpOp}{r:R2}(ho:OpR X (compareOp op) r)(ha:PE X a ta)(hb:PE X b tb)(hm:behindInMarks op b=false):PT X (.Compare a [op] [b] pos) (qGI (tOp r ta tb)):=by(
intro pins s σ H Q I h
refine lJ (thn (ha pins s σ H _ I h) λv s1 ⟨x,H1,I1,r1,q1⟩=>thn (hb pins s1 σ H1 _ I1 q1) λu s2 ⟨y,H2,I2,r2,q2⟩=>thn (ho pins s2 σ H2 x y v u _ I2 r1 r2 q2) λc s3 ⟨z,H3,I3,r3,k,e,q3⟩=>?_) hm
subst e
cases r3
exact dA ⟨H3,I3,q3⟩)
noncomputable def qCO(r r':R2)(ta tb tc:TE):TE:=λσ H Q=>ta σ H λx H1=>tb σ H1 λy H2=>r x y H2 λz H3=>∃k,z=.bl k∧(if k=true then tc σ H3 λw' H4=>r' y w' H4 Q else Q (.bl false) H3)
theorem qCP{op op':CmpOp}{r r':R2}(ho:OpR X (compareOp op) r)(ho':OpR X (compareOp op') r')(ha:PE X a ta)(hb:PE X b tb)(hc:PE X c tc)
 (hm:lastMarks [op,op'] [b,c]=false:=by with_unfolding_all rfl):PE X (.Compare a [op,op'] [b,c] pos) (qCO r r' ta tb tc):=by(
intro pins s σ H Q I h
refine Compare_chain (thn (ha pins s σ H _ I h) λv s1 ⟨x,H1,I1,r1,q1⟩=>chain_link (thn (hb pins s1 σ H1 _ I1 q1) λu s2 ⟨y,H2,I2,r2,q2⟩=>thn (ho pins s2 σ H2 x y v u _ I2 r1 r2 q2) λd s3 ⟨z,H3,I3,r3,k,e,q3⟩=>?_)) hm
subst e
cases r3
refine dA ?_
cases k with
|false=>exact ite_ff ⟨.bl false,H3,I3,rfl,q3⟩
|true=>exact ite_tt (chain_last (thn (hc pins s3 σ H3 _ I3 q3) λw' s4 ⟨z',H4,I4,r4,q4⟩=>ho' pins s4 σ H4 y z' u w' Q I4 r2 r4 q4)))
theorem qCQ{op op':CmpOp}{r r':R2}(ho:OpR X (compareOp op) r)(ho':OpR X (compareOp op') r')(ha:PE X a ta)(hb:PE X b tb)(hc:PE X c tc)
 (hm:lastMarks [op,op'] [b,c]=false:=by with_unfolding_all rfl):PT X (.Compare a [op,op'] [b,c] pos) (qGI (qCO r r' ta tb tc)):=by(
intro pins s σ H Q I h
refine isTrue_chain (thn (ha pins s σ H _ I h) λv s1 ⟨x,H1,I1,r1,q1⟩=>test_link (thn (hb pins s1 σ H1 _ I1 q1) λu s2 ⟨y,H2,I2,r2,q2⟩=>thn (ho pins s2 σ H2 x y v u _ I2 r1 r2 q2) λd s3 ⟨z,H3,I3,r3,k,e,q3⟩=>?_)) hm
subst e
cases r3
refine dA ?_
cases k with
|false=>obtain⟨k',e',q'⟩:=q3;cases e';exact ite_ff ⟨H3,I3,q'⟩
|true=>refine ite_tt (test_last (thn (hc pins s3 σ H3 _ I3 q3) λw' s4 ⟨z',H4,I4,r4,q4⟩=>thn (ho' pins s4 σ H4 y z' u w' _ I4 r2 r4 q4) λd' s5 hZ=>?_));obtain⟨z2,H5,I5,r5,k2,e2,q5⟩:=hZ;subst e2;cases r5;exact dA ⟨H5,I5,q5⟩)
theorem q50:(sizeLine:Nat)<2 ^ 63:=by rw[gL];decide
theorem q43{x:V}{us:List Value}(r:Vals [x] us):∃u,us=[u]∧RelV x u:=by
 cases r with
 |cons r1 r2=>cases r2;exact⟨_,rfl,r1⟩
theorem qGJ{x y:V}{us:List Value}(r:Vals [x,y] us):∃u w',us=[u,w']∧RelV x u∧RelV y w':=by(
cases r with
|cons r1 r2=>
 cases r2 with
 |cons r3 r4=>cases r4;exact⟨_,_,rfl,r1,r3⟩)
theorem q1U(hc:X.calm=true):q2D X (.builtin "min") (λxs H Q=>∃i j,xs=[.int i,.int j]∧Q (.int (if j<i then j else i)) H):=by(
intro pins s σ H xs us Q I r h
obtain⟨i,j,rfl,q⟩:=h
obtain⟨u,w',rfl,⟨t,rfl⟩,⟨t',rfl⟩⟩:=qGJ r
refine min_two_ints (I.ok.hd hc) λh' tk k=>⟨_,H,I.kept k,?_,q⟩
by_cases hj:j<i
·rw[hU hj,hU hj];exact⟨_,rfl⟩
rw[hC hj,hC hj];exact⟨_,rfl⟩)
end
structure ObjM(h:Heap)(x dx C:Addr)(mA:Str→Option Value):Prop where
obj:h.get? x=some (PySem.W.instObj C dx)
ns:h.Ns1 dx mA
ne:dx≠x
theorem q6N{h:Heap}{dx:Addr}{mA:Str→Option Value}(n:h.Ns1 dx mA):∃od,h.get? dx=some od∧∀name,PySem.W.lookIn name od=some (mA name):=by(
obtain⟨o,es,ep,ho,hd,hk,_,hm⟩:=n
refine⟨o,ho,λname=>?_⟩
have e:=hm name
unfold nsFind findBy at e
rw[←Array.find?_toList]at e
unfold PySem.W.lookIn
rw[hd]
dsimp only
split
·rename_i y q;rw[q]at e;exact dE some e
rename_i q
rw[q]at e
have a:es.toList.any (·.refKey)=false:=by rw[List.any_eq_false];intro y hy;obtain⟨z,t,hkey⟩:=hk y (Array.mem_toList_iff.mp hy);simp[DictEntry.refKey,hkey]
have a':¬es.toList.any (·.refKey)=true:=by rw[a];exact kU
rw[hC a']
exact dE some e)
theorem ObjM.look{h:Heap}{x dx C:Addr}{mA:Str→Option Value}(I:ObjM h x dx C mA):∃od,PySem.W.InstAt h x (PySem.W.instObj C dx) C (some od)∧∀name,PySem.W.lookIn name od=some (mA name):=let⟨od,ho,hl⟩:=q6N I.ns
 ⟨od,⟨I.obj,rfl,rfl,ho⟩,hl⟩
section
variable{prog:Program}{w:World}{A:Around}{E:Value→Shared→Prop}{s:Shared}{K:PySem.W.Frag}{x dx C f:Addr}{mA:Str→Option Value}{name:Str}{v:Value}
theorem qEV{expr:Bool}{Q:Value→Shared→Prop}(X:K.In s.heap)(I:ObjM s.heap x dx C mA)(hg:PySem.W.plainGet K C name=true)(hh:PySem.W.hasDictIn K C=true)
 (ha:PySem.W.findIn K (.ref C) name=some none) (hv:mA name=some v) (hv':PySem.W.handedIn v=true) (h:Q v { s with toks:=s.toks+1 }):
 wpAny (model prog w) A (getAttr (.ref x) name expr) Q E s:=by obtain⟨od,J,hl⟩:=I.look;exact PySem.W.get_value X J (p7 hg).1 (PySem.W.findObj_own hh ha rfl (by rw[hl,hv])) hv' h
theorem qCR{pl:Sem Bool}{Q:Value×List Value→Shared→Prop}(X:K.In s.heap)(I:ObjM s.heap x dx C mA)(hg:PySem.W.plainGet K C name=true)
 (hf:PySem.W.findIn K (.ref C) name=some (some (.ref f))) (ht:PySem.W.isFn K (.ref f)=true) (hv:mA name=none) (h:Q (.ref f,[.ref x]) s):
 wpAny (model prog w) A (getMethod (.ref x) name pl) Q E s:=by obtain⟨od,J,hl⟩:=I.look;exact PySem.W.method_fn X J (p7 hg).1 (p7 hg).2 hf (r6.mp ht) (by show(PySem.W.lookIn name od).map (·.isSome)=some false;rw[hl,hv];rfl) h
theorem qEW{ns:List Str}{Q:Unit→Shared→Prop}(X:K.In s.heap)(I:ObjM s.heap x dx C mA)
 (hs:PySem.W.findIn K (.ref C) "__setattr__"=some (some (.builtin "object.__setattr__"))) (hp:PySem.W.plainOver K C=true) (ht:PySem.W.takerIn K C name=some none) (hh:PySem.W.hasDictIn K C=true)
 (hw:PySem.Within mA ns) (hsz:ns.length≤sizeLine)
 (h:∀h',ObjM h' x dx C (λy=>if y=name then some v else mA y)→Heap.SameBut dx s.heap h'→Q () { s with heap:=h',toks:=s.toks+2 }):
 wpAny (model prog w) A (setAttr (.ref x) name v) Q E s:=by(
obtain⟨od,J,hl⟩:=I.look
refine PySem.W.set_plain X J hs (PySem.W.osa_open (s:={ s with toks:=s.toks+1 }) (r:=none) X J hp ht λb=>?_)
obtain⟨cd,hc,hd'⟩:=pI hh
have hx:s.heap.get? x=some ⟨.ref C,some dx,.plain,#[]⟩:=I.obj
refine kB (mH (kB (kB (wpAny_loadPart hx (kB (bL (s:={ s with toks:=s.toks+1 }) (PySem.W.looks_clsIn X hc) ?_))))))
rw[hd']
refine mH (a:=some dx) (kB (mH (kB ?_)))
refine wpAny_nsSet1 (s:={ s with toks:=s.toks+1 }) I.ns λh' hn2 hs2=>?_
obtain⟨oD,esD,epD,hoD,hdD,hcD⟩:=hn2.count (PySem.Within.cons name v hw)
refine kB (wpAny_lookBehind hoD (by rw[hdD];exact pastItsLine_dict (mD hcD (by rw[mI];lia))) ?_)
exact mH (h _ ⟨(hs2.2 _ (wG I.ne)).trans I.obj,hn2,I.ne⟩ hs2))
theorem qCS{R:Result→Shared→Prop}{vs:List Value}{kw:List (Str×Value)}(X:K.In s.heap)(hm:PySem.W.makesIn K C=true)
 (hi:PySem.W.findIn K (.ref C) "__init__"=some (some (.ref f))) (hf:PySem.W.typeIn K (.ref f)=some (.type "function"))
 (h:codeAny (model prog w) (A.under (.builtin "type.__call__" ⟨.ref C::vs,kw⟩)) (.call (.ref f) ⟨.ref (s.heap.objs.size+1)::vs,kw⟩) (PySem.W.InitBack (s.heap.objs.size+1) R)
  { s with heap:=(s.heap.push PySem.W.emptyDict).push (PySem.W.instObj C s.heap.objs.size) }):
 codeAny (model prog w) A (.call (.ref C) ⟨vs,kw⟩) R s:=by obtain⟨hh,g,d,t,os⟩:=s;exact xN (aB X hm) (cA X hi) (λself=>PySem.W.bind_fn X self hf) (.inl rfl) h
end
noncomputable def putF(f:Str)(v:V):List (Str×V)→List (Str×V)
| []=>[(f,v)]
|(g,x)::r=>if g=f then(g,v)::r else(g,x)::putF f v r
theorem q44(f g:Str)(v:V):∀fs:List (Str×V),(putF f v fs).lookup g=if g=f then some v else fs.lookup g
| []=>by
 show List.lookup g [(f,v)]=_;by_cases h:g=f
 ·have hb:(g==f)=true:=r6.mpr h;simp only[List.lookup,hb,hU h]
 have hb:(g==f)=false:=d9.mpr h;simp only[List.lookup,hb,hC h]
|(k,x)::r=>by
 have ih:=q44 f g v r;rw[show putF f v ((k,x)::r)=(if k=f then(k,v)::r else(k,x)::putF f v r)from rfl];by_cases hk:k=f
 ·rw[hU hk];by_cases h:g=k
  ·have hb:(g==k)=true:=r6.mpr h;simp only[List.lookup,hb,hU (h.trans hk)]
  have hb:(g==k)=false:=d9.mpr h;simp only[List.lookup,hb,hC (λe:g=f=>h (e.trans hk.symm))]
 rw[hC hk];by_cases h:g=k
 ·have hb:(g==k)=true:=r6.mpr h;simp only[List.lookup,hb,hC (λe:g=f=>hk (h.symm.trans e))]
 have hb:(g==k)=false:=d9.mpr h;simp only[List.lookup,hb];exact ih
theorem q3R(f:Str)(v:V):∀fs:List (Str×V),f∈(putF f v fs).map (·.1)∧∀g,g∈fs.map (·.1)→g∈(putF f v fs).map (·.1)
| []=>⟨by simp[putF],λg h=>by simp at h⟩
|(k,x)::r=>by
 obtain⟨i1,i2⟩:=q3R f v r;rw[show putF f v ((k,x)::r)=(if k=f then(k,v)::r else(k,x)::putF f v r)from rfl];by_cases hk:k=f
 ·rw[hU hk];subst hk;exact⟨by simp,λg h=>by simpa using h⟩
 rw[hC hk];refine⟨?_,λg h=>?_⟩
 ·rw[mR];exact hV _ i1
 rw[mR]at h ⊢;rcases kI.mp h with e|e
 ·exact kI.mpr (.inl e)
 exact hV _ (i2 g e)
theorem q45(f:Str)(v:V):∀fs:List (Str×V),(putF f v fs).length≤fs.length+1
| []=>by simp[putF]
|(k,x)::r=>by
 have ih:=q45 f v r;rw[show putF f v ((k,x)::r)=(if k=f then(k,v)::r else(k,x)::putF f v r)from rfl];by_cases hk:k=f
 ·rw[hU hk,mI,mI];lia
 rw[hC hk,mI,mI];lia
theorem RelO.some_of{v:V}{o:Option Value}(r:RelO (some v) o):∃u,o=some u∧RelV v u:=by(
cases o with
|none=>exact(show False from r).elim
|some u=>exact⟨u,rfl,r⟩)
theorem RelO.none_of{o:Option Value}(r:RelO none o):o=none:=by(
cases o with
|none=>rfl
|some u=>exact(show False from r).elim)
theorem qBT{v:V}{u:Value}(r:RelV v u):PySem.W.handedIn u=true:=by(
cases v with
|non=>cases(show u=Value.none from r);rfl
|bl b=>cases(show u=Value.bool b from r);rfl
|int i=>obtain⟨t,e⟩:=(show ∃t,u=Value.int i t from r);cases e;rfl
|str x=>obtain⟨t,e⟩:=(show ∃t,u=Value.str x t from r);cases e;rfl
|byt b=>obtain⟨t,e⟩:=(show ∃t,u=Value.bytes b t from r);cases e;rfl
|flt b=>obtain⟨t,e⟩:=(show ∃t,u=Value.float b t from r);cases e;rfl
|ref a=>cases(show u=Value.ref a from r);rfl
|ty n=>cases(show u=Value.type n from r);rfl)
section
variable{P:Program}{w:World}{H H':Hp}{h h':Heap}{a C dx:Addr}{fs fs':List (Str×V)}
theorem q4N(hok:HOk P w H h)(e:H a=some (.ins C dx fs)):∃mA,ObjM h a dx C mA∧(∀f,RelO (fs.lookup f) (mA f))∧PySem.Within mA (fs.map (·.1))∧fs.length≤1000∧H dx=some (.own a):=by obtain⟨d,z,ne,ob,mA,n,r,q⟩:=(show jH P w H h a (.ins C dx fs)from hok a _ e);exact⟨mA,⟨ob,n,ne⟩,r,q,z,d⟩
end
structure Cls(K:PySem.W.Frag)(C:Addr):Prop where
pg:PySem.W.plainGet K C Str.empty=true
hd:PySem.W.hasDictIn K C=true
po:PySem.W.plainOver K C=true
sa:PySem.W.findIn K (.ref C) "__setattr__"=some (some (.builtin "object.__setattr__"))
theorem Cls.get{K:PySem.W.Frag}{C:Addr}(c:Cls K C)(f:Str):PySem.W.plainGet K C f=true:=c.pg
noncomputable def qN(K:PySem.W.Frag)(C:Addr)(f:Str):Prop:=PySem.W.findIn K (.ref C) f=some none
theorem qN.taker{K:PySem.W.Frag}{C:Addr}{f:Str}(n:qN K C f):PySem.W.takerIn K C f=some none:=by unfold PySem.W.takerIn;rw[show PySem.W.findIn K (.ref C) f=some none from n];rfl
structure Meth(K:PySem.W.Frag)(C:Addr)(m:Str)(f:Addr):Prop where
at_:PySem.W.findIn K (.ref C) m=some (some (.ref f))
fn:PySem.W.isFn K (.ref f)=true
kp:PySem.W.keepIn K (.ref f)=true
section
variable{X:Cx}{pins:List (Addr×Obj)}{σ:St}{H:Hp}{s:Shared}{a C dx:Addr}{fs:List (Str×V)}{f:Str}{v:V}{A:Around}{E:Value→Shared→Prop}
theorem q51{b:Bool}{Q:Value→Shared→Prop}(I:Inv X pins σ H s)(e:H a=some (.ins C dx fs))(c:Cls X.K C)(n:qN X.K C f)(l:fs.lookup f=some v)
 (h:∀u s',Inv X pins σ H s'→RelV v u→Q u s'):wpAny (model X.prog X.w) A (getAttr (.ref a) f b) Q E s:=by obtain⟨mA,O,r,_,_,_⟩:=q4N I.hok e;obtain⟨u,hu,ru⟩:=RelO.some_of (v:=v) (o:=mA f) (by rw[←l];exact r f);exact qEV I.kIn O (c.get f) c.hd n hu (qBT ru) (h u _ (I.tok _) ru)
theorem q08{m:Str}{g:Addr}{pl:Sem Bool}{Q:Value×List Value→Shared→Prop}(I:Inv X pins σ H s)(e:H a=some (.ins C dx fs))(c:Cls X.K C)(k:Meth X.K C m g)(l:fs.lookup m=none)
 (h:Q (.ref g,[.ref a]) s):wpAny (model X.prog X.w) A (getMethod (.ref a) m pl) Q E s:=by obtain⟨mA,O,r,_,_,_⟩:=q4N I.hok e;have hn:mA m=none:=RelO.none_of (by rw[←l];exact r m);exact qCR I.kIn O (c.get m) k.at_ k.fn hn h
theorem q52{y:V}{u:Value}{Q:Unit→Shared→Prop}(I:Inv X pins σ H s)(e:H a=some (.ins C dx fs))(c:Cls X.K C)(n:qN X.K C f)(hl:fs.length<1000)(ry:RelV y u)
 (h:∀s',Inv X pins σ (upd H a (.ins C dx (putF f y fs))) s'→Q () s'):wpAny (model X.prog X.w) A (setAttr (.ref a) f u) Q E s:=by(
obtain⟨mA,O,r,wi,_,ho⟩:=q4N I.hok e
have hz:(fs.map (·.1)).length≤sizeLine:=by rw[hX,gL];lia
refine qEW I.kIn O c.sa c.po n.taker c.hd wi hz λh' O' sb=>h _ ?_
have hd:∃o,h'.get? dx=some o:=let⟨o,_,_,e',_⟩:=O'.ns;⟨o,e'⟩
refine I.write (x:=a) (e:=dx) (by rw[e];exact True.intro) (.inr ho) (λb q hb z=>(sb.2 b hb).trans z) hd ?_
refine⟨by rw[qC O.ne];exact ho,?_,O.ne,O'.obj,_,O'.ns,λg=>?_,λg hg=>?_⟩
·have:=q45 f y fs;lia
·show RelO ((putF f y fs).lookup g) (if g=f then some u else mA g);rw[q44];by_cases q:g=f
 ·rw[hU q,hU q];exact ry
 rw[hC q,hC q];exact r g
by_cases q:g=f
·rw[q];exact(q3R f y fs).1
refine(q3R f y fs).2 g (wi g λz=>hg ?_)
show(if g=f then some u else mA g)=none
rw[hC q];exact z)
theorem Inv.made(I:Inv X pins σ H s):Inv X pins σ (upd (upd H s.heap.objs.size (.own (s.heap.objs.size+1))) (s.heap.objs.size+1) (.ins C s.heap.objs.size []))
 { s with heap:=(s.heap.push PySem.W.emptyDict).push (PySem.W.instObj C s.heap.objs.size) }:=by(
have e1:(s.heap.push PySem.W.emptyDict).get? s.heap.objs.size=some PySem.W.emptyDict:=mU s.heap rfl
have e2:((s.heap.push PySem.W.emptyDict).push (PySem.W.instObj C s.heap.objs.size)).get? (s.heap.objs.size+1)=some (PySem.W.instObj C s.heap.objs.size):=by have:=mU (s.heap.push PySem.W.emptyDict) (o:=PySem.W.instObj C s.heap.objs.size) rfl;rwa [sJ]at this
have e3:(s.heap.push PySem.W.emptyDict).Ns s.heap.objs.size (λ_=>none):=⟨PySem.W.emptyDict,#[],_,e1,rfl,(λe he=>absurd he (by simp)),λ_=>rfl⟩
have I1:=I.laid (a:=s.heap.objs.size) (o:=.own (s.heap.objs.size+1)) (h':=s.heap.push PySem.W.emptyDict) (t':=s.toks) (λb u q=>kF _ q) (kJ _) ⟨_,e1⟩
refine I1.laid (a:=s.heap.objs.size+1) (o:=.ins C s.heap.objs.size []) (t':=s.toks) (λb u q=>kF _ q) (cZ (sJ _ _)) ?_
have ne:s.heap.objs.size≠s.heap.objs.size+1:=mY (wC _)
refine⟨by rw[qC ne,qH],mQ _,ne,e2,λ_=>none,(Heap.Ns1.of_empty e3).at λo q=>kF _ q,λ_=>True.intro,λy hy=>absurd rfl hy⟩)
theorem qEX{prog:Program}{w:World}{env:Env}{e:Expr}{f:Str}{pos:Pos}{s:Shared}{Q:Value→Shared→Prop}(hb:attributeBase e f env (eval e env)=eval e env)
 (h:wpAny (model prog w) A (eval e env) (λo s₁=>wpAny (model prog w) A (getAttr o f true) Q E s₁) E s):wpAny (model prog w) A (eval (.Attribute e f pos) env) Q E s:=Attribute_any_ h (by rw[arm_eval_Attribute,hb])
end
noncomputable def tFld(K:PySem.W.Frag)(ta:TE)(f:Str):TE:=λσ H Q=>ta σ H λx H1=>∃a C dx fs v,x=.ref a∧H1 a=some (.ins C dx fs)∧Cls K C∧qN K C f∧fs.lookup f=some v∧Q v H1
noncomputable def sFld(K:PySem.W.Frag)(ta tv:TE)(f:Str):TS:=λD σ H=>tv σ H λy H1=>ta σ H1 λx H2=>∃a C dx fs,x=.ref a∧H2 a=some (.ins C dx fs)∧Cls K C∧qN K C f∧fs.length<1000∧D.nx σ (upd H2 a (.ins C dx (putF f y fs)))
noncomputable def InOp(X:Cx)(op:Operator)(rd:V→V→Hp→VK→Prop):Prop:=∀(pins:List (Addr×Obj)) (s:Shared) (σ:St) (H:Hp) (x y:V) (u v:Value) (Q:VK),Inv X pins σ H s→RelV x u→RelV y v→rd x y H Q→wpAny (model X.prog X.w) X.A (inplaceOp op u v) (EP X pins σ Q) X.xe s
noncomputable def qEY(K:PySem.W.Frag)(ta tv:TE)(rd:V→V→Hp→VK→Prop)(f:Str):TS:=λD σ H=>ta σ H λx H1=>∃a C dx fs v,x=.ref a∧H1 a=some (.ins C dx fs)∧Cls K C∧qN K C f∧fs.lookup f=some v∧tv σ H1 λy H2=>rd v y H2 λz H3=>∃dx' fs',H3 a=some (.ins C dx' fs')∧fs'.length<1000∧D.nx σ (upd H3 a (.ins C dx' (putF f z fs')))
section
variable{X:Cx}{o e value:Expr}{f:Str}{pos pos' tpos:Pos}{ta tv:TE}
theorem qJ(he:PE X e ta)(hb:attributeBase e f X.env (eval e X.env)=eval e X.env):PE X (.Attribute e f pos) (tFld X.K ta f):=by(
intro pins s σ H Q I h
refine qEX hb (thn (he pins s σ H _ I h) λu s1 hZ=>?_)
obtain⟨x,H1,I1,rx,a,C,dx,fs,v,ex,ea,c,n,l,q⟩:=hZ
subst ex
obtain rfl:u=Value.ref a:=rx
exact q51 I1 ea c n l λu' s2 I2 ru=>⟨v,H1,I2,ru,q⟩)
theorem jL(ha:PE X o ta)(hv:PE X value tv)(hs:swapsWith value (some (.Attribute o f pos')) pos.line X.env=pure false):PS X (.Assign [.Attribute o f pos'] value pos) (sFld X.K ta tv f):=by(
intro pins s σ H D I h
refine plainObj_wpAny_Assign_Attribute (thn (hv pins s σ H _ I h) λu s1 ⟨y,H1,I1,ry,q⟩=>thn (ha pins s1 σ H1 _ I1 q) λov s2 hZ=>?_) hs
obtain⟨x,H2,I2,rx,a,C,dx,fs,ex,ea,c,n,l,q2⟩:=hZ
subst ex
obtain rfl:ov=Value.ref a:=rx
exact q52 I2 ea c n l ry λs3 I3=>⟨σ,_,I3,q2⟩)
theorem q6O{op:Operator}{rd:V→V→Hp→VK→Prop}(ha:PE X o ta)(hv:PE X value tv)(hop:InOp X op rd):PS X (.AugAssign (.Attribute o f tpos) op value pos) (qEY X.K ta tv rd f):=by(
intro pins s σ H D I h
refine wpAny_AugAssign_AttributeAny (thn (ha pins s σ H _ I h) λov s1 hZ=>?_)
obtain⟨x,H1,I1,rx,a,C,dx,fs,v,ex,ea,c,n,l,q⟩:=hZ
subst ex
obtain rfl:ov=Value.ref a:=rx
refine q51 I1 ea c n l λu s2 I2 ru=>thn (hv pins s2 σ H1 _ I2 q) λw3 s3 ⟨y,H2,I3,ry,q3⟩=>thn (hop pins s3 σ H2 v y u w3 _ I3 ru ry q3) λw4 s4 hZ=>?_
obtain⟨z,H3,I4,rz,dx',fs',ea',l',q4⟩:=hZ
exact q52 I4 ea' c n l' rz λs5 I5=>⟨σ,_,I5,q4⟩)
noncomputable def rAdd:V→V→Hp→VK→Prop:=λx y H Q=>∃i j,x=.int i∧y=.int j∧Q (.int (i+j)) H
noncomputable def rSub:V→V→Hp→VK→Prop:=λx y H Q=>∃i j,x=.int i∧y=.int j∧Q (.int (i-j)) H
theorem qH9:InOp X .Add rAdd:=by(
rintro pins s σ H x y u v Q I rx ry ⟨i,j,rfl,rfl,q⟩
obtain⟨t,rfl⟩:=(show ∃t,u=Value.int i t from rx)
obtain⟨t',rfl⟩:=(show ∃t',v=Value.int j t' from ry)
exact PyProof.Rows.iadd_int ⟨.int (i+j),H,I.tok _,⟨_,rfl⟩,q⟩)
theorem qHA:InOp X .Sub rSub:=by(
rintro pins s σ H x y u v Q I rx ry ⟨i,j,rfl,rfl,q⟩
obtain⟨t,rfl⟩:=(show ∃t,u=Value.int i t from rx)
obtain⟨t',rfl⟩:=(show ∃t',v=Value.int j t' from ry)
exact PyProof.Rows.isub_int ⟨.int (i-j),H,I.tok _,⟨_,rfl⟩,q⟩)
end
section
variable{X:Cx}{pins:List (Addr×Obj)}{σ:St}{H:Hp}{s:Shared}{A:Around}{E:Value→Shared→Prop}{Q:Value→Shared→Prop}{c:Value}{b:Bool}
inductive TyOf(K:PySem.W.Frag)(H:Hp):V→Value→Prop where
|non:TyOf K H .non (.type "NoneType")
|bl (x:Bool):TyOf K H (.bl x) (.type "bool")
|int (i:Int):TyOf K H (.int i) (.type "int")
|str (x:Str):TyOf K H (.str x) (.type "str")
|flt (x:UInt64):TyOf K H (.flt x) (.type "float")
|lst {a:Addr} {xs:List V} (e:H a=some (.lst xs)):TyOf K H (.ref a) (.type "list")
|frz {a:Addr} {o:Obj} {xs:List V} (e:H a=some (.frz o (.lst xs))):TyOf K H (.ref a) (.type "list")
|tup {a:Addr} {xs:List V} (e:H a=some (.tup xs)):TyOf K H (.ref a) (.type "tuple")
|dK {a:Addr} {kvs:List (Key×V)} (e:H a=some (.dK kvs)):TyOf K H (.ref a) (.type "dict")
|dT {a:Addr} {kvs:List (List Key×V)} (e:H a=some (.dT kvs)):TyOf K H (.ref a) (.type "dict")
|ins {a C dx:Addr} {fs:List (Str×V)} (e:H a=some (.ins C dx fs)) (cl:Cls K C) (ha:PySem.W.findIn K (.ref C) "__class__"=some (some (.builtin "object.__class__")))
 (hn:PySem.W.specialIn K (.builtin "object.__class__") "__get__"=some (some (.builtin "getset_descriptor.__get__"))) (htk:PySem.W.takesIn K (.builtin "object.__class__")=some true)
 (hm:PySem.W.mroIn K C (.type "object")=some true):TyOf K H (.ref a) (.ref C)
theorem qBU{x:V}{u t:Value}(I:Inv X pins σ H s)(rx:RelV x u)(ty:TyOf X.K H x t)(e:PySem.W.kitOne X.K t c=some b)(h:∀tk,Q (.bool b) { s with toks:=tk }):
 wpAny (model X.prog X.w) A (call (.builtin "isinstance") [u,c]) Q E s:=by(
cases ty with
|non=>cases(show u=Value.none from rx);exact g4 PySem.W.kitx_none I.kIn True.intro e (λz=>nomatch z) h
|bl y=>cases(show u=Value.bool y from rx);exact g4 PySem.W.kitx_bool I.kIn True.intro e (λz=>nomatch z) h
|int i=>obtain⟨t,q⟩:=(show ∃t,u=Value.int i t from rx);cases q;exact g4 PySem.W.kitx_int I.kIn True.intro e (λz=>nomatch z) h
|str y=>obtain⟨t,q⟩:=(show ∃t,u=Value.str y t from rx);cases q;exact g4 PySem.W.kitx_str I.kIn True.intro e (λz=>nomatch z) h
|flt y=>obtain⟨t,q⟩:=(show ∃t,u=Value.float y t from rx);cases q;exact g4 PySem.W.kitx_float I.kIn True.intro e (λz=>nomatch z) h
|@lst a xs ea=>cases(show u=Value.ref a from rx);obtain⟨_,_,n,_,h1⟩:=(show jH X.prog X.w H s.heap a (.lst xs)from I.hok a _ ea);exact g4 xO I.kIn ⟨_,h1,rfl⟩ e (λz=>nomatch z) h
|@frz a ob xs ea=>cases(show u=Value.ref a from rx);obtain⟨_,_,_,n,_,h1⟩:=(show jH X.prog X.w H s.heap a (.frz ob (.lst xs))from I.hok a _ ea);exact g4 xO I.kIn ⟨_,h1,rfl⟩ e (λz=>nomatch z) h
|@tup a xs ea=>cases(show u=Value.ref a from rx);obtain⟨_,_,_,p⟩:=(show jH X.prog X.w H s.heap a (.tup xs)from I.hok a _ ea);obtain⟨o,h1,h2,_⟩:=p;exact g4 PySem.W.kitx_tuple I.kIn ⟨o,h1,h2⟩ e (λz=>nomatch z) h
|@dK a kvs ea=>cases(show u=Value.ref a from rx);obtain⟨_,_,vs,_,p⟩:=(show jH X.prog X.w H s.heap a (.dK kvs)from I.hok a _ ea);obtain⟨o,es,ep,h1,h2,_⟩:=p;exact g4 xP I.kIn ⟨o,h1,h2.1⟩ e (λz=>nomatch z) h
|@dT a kvs ea=>cases(show u=Value.ref a from rx);obtain⟨_,_,xs,_,o,es,ep,h1,h2,_⟩:=(show jH X.prog X.w H s.heap a (.dT kvs)from I.hok a _ ea);exact g4 xP I.kIn ⟨o,h1,h2.1⟩ e (λz=>nomatch z) h
|@ins a C dx fs ea cl ha hn htk hm=>cases(show u=Value.ref a from rx);obtain⟨mA,O,_⟩:=q4N I.hok ea;obtain⟨od,J,_⟩:=O.look;exact g4 (PySem.W.kitx_own (cl.get _) cl.hd ha hn htk hm) I.kIn J e (λz=>nomatch z) h)
end
structure Room(k:Nat)(A:Around):Prop where
hd:A.handled=none
dp:A.depth+3*k+5<recursionLimit
un:A.units+16*k+200<cLine
theorem Room.mono{j k:Nat}{A:Around}(r:Room k A)(h:j≤k):Room j A:=⟨r.hd,by have:=r.dp;lia,by have:=r.un;lia⟩
theorem Room.deeper{k:Nat}{A:Around}(r:Room (k+1) A)(env:Env):Room k (A.deeper env):=⟨r.hd,by have:=r.dp;show A.depth+1+3*k+5< _;lia,by have:=r.un;show A.units+3+16*k+200< _;lia⟩
theorem Room.in1{k:Nat}{A:Around}(r:Room (k+1) A):Room k A.in1:=⟨r.hd,by have:=r.dp;show A.depth+3*k+5< _;lia,by have:=r.un;show A.units+1+16*k+200< _;lia⟩
theorem q9U{A:Around}{C:Addr}{us:List Value}{kw:List (Str×Value)}:(A.under (.builtin "type.__call__" ⟨.ref C::us,kw⟩)).depth=A.depth+1:=by first|rfl|simp[Around.under,Code.weight,Code.isCreation,Code.isGuard,Code.isCaller,Code.frames,Code.isFrame,guardIds]
theorem q9V{A:Around}{C:Addr}{us:List Value}{kw:List (Str×Value)}:(A.under (.builtin "type.__call__" ⟨.ref C::us,kw⟩)).units=A.units+1:=by first|rfl|simp[Around.under,Code.cUnits,Code.frames,Code.isFrame]
theorem Room.make{k:Nat}{A:Around}(r:Room (k+1) A)(C:Addr)(us:List Value)(kw:List (Str×Value)):Room k (A.under (.builtin "type.__call__" ⟨.ref C::us,kw⟩)):=⟨r.hd,by have:=r.dp;rw[q9U];lia,by have:=r.un;rw[q9V];lia⟩
theorem Room.depth{k:Nat}{A:Around}(r:Room k A):A.depth<recursionLimit:=by have:=r.dp;lia
theorem Room.units{k:Nat}{A:Around}(r:Room k A):A.units+64<cLine:=by have:=r.un;lia
noncomputable def tNil:TA:=λ_ H Q=>Q [] H
noncomputable def qCT(ta:TE)(tr:TA):TA:=λσ H Q=>ta σ H λx H1=>tr σ H1 λxs H2=>Q (x::xs) H2
section
variable{X:Cx}{e:Expr}{es:List Expr}{te:TE}{t:TA}{pos:Pos}
theorem qE:PA X [] tNil:=λ_ _ _ _ H Q I h=>sU ⟨[],H,I,.nil,h⟩
theorem qA(ha:PE X e te)(hr:PA X es t)(hs:starEach (e::es) X.env=(false,eval e X.env)::starEach es X.env:=by rfl):PA X (e::es) (qCT te t):=by(
intro pos pins s σ H Q I h
rw[hs]
show wpAny _ _ (spliced ((false,eval e X.env)::backTo pos (starEach es X.env))) _ _ s
refine sL (thn (ha pins s σ H _ I h) λu s1 hZ=>?_)
obtain⟨x,H1,I1,r1,q1⟩:=hZ
exact thn (hr pos pins s1 σ H1 _ I1 q1) λus s2 ⟨xs,H2,I2,r2,q2⟩=>⟨x::xs,H2,I2,.cons r1 r2,q2⟩)
end
noncomputable abbrev Sp:=List V→Hp→VK→XK→Prop
noncomputable abbrev CXT:=List Env→Hp→Shared→XK→Value→Shared→Prop
structure Env0(P:Program)(w:World)(K:PySem.W.Frag)(mg:Str→Option Value)(base:Heap)(A:Around)(outer:List Env)(s:Shared)(H:Hp):Prop where
frames:A.frames=some outer
mod:Mod K mg base
bs:∀b o,base.get? b=some o→s.heap.get? b=some o∧H b=none
bsz:base.objs.size≤s.heap.objs.size
funs:s.heap.FunFrames base outer
frf:∀b∈frs outer,H b=none
hok:HOk P w H s.heap
bare:AllBare s.gens
noncomputable def CE(outer:List Env)(P:Program)(w:World)(H:Hp)(s:Shared)(Q:VK)(u:Value)(s':Shared):Prop:=∃v H',s'.os=s.os∧AllBare s'.gens∧Un (frs outer) [] H H' s.heap s'.heap∧HOk P w H' s'.heap∧RelV v u∧Q v H'
noncomputable def CR(CX:CXT)(outer:List Env)(P:Program)(w:World)(H:Hp)(s:Shared)(Q:VK)(E:XK)(r:Result)(s':Shared):Prop:=match r with
| .ok (.ret u)=>CE outer P w H s Q u s'
| .ok _=>False
| .error e=>CX outer H s E e s'
structure FnOk(P:Program)(w:World)(K:PySem.W.Frag)(mg:Str→Option Value)(base:Heap)(CX:CXT)(k:Nat)(f:Addr)(fd:FuncData)(ps:List Str)(sp:Sp):Prop where
len:∀vs H Q E,sp vs H Q E→vs.length=ps.length
run:∀(A:Around) (outer:List Env) (s:Shared) (H:Hp) (args:Args) (us:List Value) (vs:List V) (Q:VK) (E:XK),Room k A→Env0 P w K mg base A outer s H→BindsTo s fd args (ps.zip us)→Vals vs us→sp vs H Q E→codeAny (model P w) A (.call (.ref f) args) (CR CX outer P w H s Q E) s
theorem FnOk.mono{P:Program}{w:World}{K:PySem.W.Frag}{mg:Str→Option Value}{base:Heap}{CX:CXT}{j k:Nat}{f:Addr}{fd:FuncData}{ps:List Str}{sp:Sp}(F:FnOk P w K mg base CX j f fd ps sp)(h:j≤k:=by decide):
 FnOk P w K mg base CX k f fd ps sp:=⟨F.len,λA outer s H args us vs Q E hr=>F.run A outer s H args us vs Q E (hr.mono h)⟩
theorem Env0.make{P:Program}{w:World}{K:PySem.W.Frag}{mg:Str→Option Value}{base:Heap}{A:Around}{outer:List Env}{s:Shared}{H:Hp}(e:Env0 P w K mg base A outer s H)(C:Addr)(us:List Value)(kw:List (Str×Value)):
 Env0 P w K mg base (A.under (.builtin "type.__call__" ⟨.ref C::us,kw⟩)) outer s H:=⟨by first|exact e.frames|(simpa[Around.under,Code.envs,Code.isFrame,pushEnvs]using e.frames),e.mod,e.bs,e.bsz,e.funs,e.frf,e.hok,e.bare⟩
section
variable{X:Cx}{pins:List (Addr×Obj)}{σ:St}{H:Hp}{s s':Shared}
theorem Inv.env0(I:Inv X pins σ H s):Env0 X.prog X.w X.K X.mg X.base X.A X.stack s H:=⟨I.ok.frames,I.ok.mod,I.bs,mD I.ok.bsz I.sz,I.stack,I.stkFree,I.hok,I.bare⟩
theorem Inv.after{Q:VK}{u:Value}(I:Inv X pins σ H s)(h:CE X.stack X.prog X.w H s Q u s'):EP X pins σ Q u s':=by(
obtain⟨v,H',os,bare,un,hok,r,q⟩:=h
obtain⟨hh,g,d,t,os'⟩:=s'
obtain rfl:os'=s.os:=os
exact⟨v,H',I.call (h':=hh) (g':=g) (d':=d) (t':=t) (ch:=[]) un hok bare (λb z=>absurd z (by simp)),r,q⟩)
end
noncomputable def qGK(sp:Sp)(dvs:List V)(E:XK)(t:TA):TE:=λσ H Q=>t σ H λvs H1=>sp (vs++dvs) H1 Q E
noncomputable def qGL(C:Addr)(m:Str)(sp:Sp)(dvs:List V)(E:XK)(ta:TE)(t:TA):TE:=λσ H Q=>ta σ H λx H1=>∃a dx fs,x=.ref a∧H1 a=some (.ins C dx fs)∧fs.lookup m=none∧t σ H1 λvs H2=>sp (x::(vs++dvs)) H2 Q E
noncomputable def qJH(C:Addr)(sp:Sp)(dvs:List V)(E:XK)(t:TA):TE:=λσ H Q=>t σ H λvs H1=>∀x dx,H1 x=none→H1 dx=none→dx≠x→sp (.ref x::(vs++dvs)) (upd (upd H1 dx (.own x)) x (.ins C dx [])) (λv H2=>v=.non∧Q (.ref x) H2) E
noncomputable def y6(K:PySem.W.Frag)(fd:FuncData)(ps:List Str)(ds:List Value):Prop:=∀(s:Shared) (us:List Value),K.In s.heap→(us++ds).length=ps.length→BindsTo s fd ⟨us,[]⟩ (ps.zip (us++ds))
theorem y6.all{K:PySem.W.Frag}{fd:FuncData}{ps:List Str}(h:∀us:List Value,us.length=ps.length→bindArgs fd ⟨us,[]⟩=pure (ps.zip us)):y6 K fd ps []:=λs us _ hl=>by rw[dG]at hl ⊢;exact .of_eq (h us hl)
noncomputable def q09(CX:CXT)(X:Cx)(E:XK):Prop:=∀(pins:List (Addr×Obj)) (σ:St) (H:Hp) (s:Shared) (e:Value) (s':Shared),Inv X pins σ H s→CX X.stack H s E e s'→X.xe e s'
section
variable{X:Cx}{CX:CXT}{k:Nat}{f C:Addr}{fd:FuncData}{ps:List Str}{sp:Sp}{dvs:List V}{ds:List Value}{E:XK}{x m:Str}{p pos apos:Pos}{e o:Expr}{es:List Expr}{ta:TE}{t:TA}
theorem q7A{pins:List (Addr×Obj)}{σ:St}{H:Hp}{s:Shared}{Q:VK}{us:List Value}{vs:List V}(F:FnOk X.prog X.w X.K X.mg X.base CX k f fd ps sp)(hr:Room k X.A)(hb:y6 X.K fd ps ds)(hd:Vals dvs ds)(hx:q09 CX X E)
 (I:Inv X pins σ H s) (r:Vals vs us) (h:sp (vs++dvs) H Q E):wpAny (model X.prog X.w) X.A (call (.ref f) us) (EP X pins σ Q) X.xe s:=by(
have r2:Vals (vs++dvs) (us++ds):=r.append hd
have hl:(us++ds).length=ps.length:=by rw[←r2.length];exact F.len _ _ _ _ h
refine pJ (c7 (F.run X.A X.stack s H ⟨us,[]⟩ (us++ds) (vs++dvs) Q E hr I.env0 (hb s us I.kIn hl) r2 h) λr s' hq=>?_)
cases r with
|error e=>exact hx pins σ H s e s' I hq
|ok fl=>
 cases fl with
 |ret u=>exact I.after hq
 |next=>exact False.elim hq
 |brk=>exact False.elim hq
 |cont=>exact False.elim hq)
theorem qR(F:FnOk X.prog X.w X.K X.mg X.base CX k f fd ps sp)(hr:Room k X.A)(hg:Gl X x)(hm:X.mg x=some (.ref f))(hk:PySem.W.keepIn X.K (.ref f)=true)(hb:y6 X.K fd ps ds)(hd:Vals dvs ds)(hx:q09 CX X E)
 (ha:PA X (e::es) t) (hdb:(x==("__debug__":Str))=false:=by decide) (he:starEach (e::es) X.env=(false,eval e X.env)::starEach es X.env:=by rfl) (hpl:(backTo pos (starEach es X.env)).any (·.1)=false:=by rfl):
 PE X (.Call (.Name x p) (e::es) [] pos) (qGK sp dvs E t):=by(
intro pins s σ H Q I h
refine rK (q1S I hg hm ?_ hdb)
refine wI (h₀:=X.base) I.ok.mod.kin hk (thn (ha pos pins s σ H _ I h) λus s1 ⟨vs,H1,I1,r,q⟩=>⟨I1.kIn,?_⟩) he hpl
exact q7A F hr hb hd hx I1 r q)
theorem qY{pl:Sem Bool}(he:PE X o ta)(c:Cls X.K C)(hm:Meth X.K C m f)(F:FnOk X.prog X.w X.K X.mg X.base CX k f fd ps sp)(hr:Room k X.A)(hb:y6 X.K fd ps ds)(hd:Vals dvs ds)(hx:q09 CX X E)(ha:PA X (e::es) t)
 (hst:starEach (e::es) X.env=(false,eval e X.env)::starEach es X.env:=by rfl) (hpl:(backTo pos (starEach es X.env)).any (·.1)=false:=by rfl)
 (ht:eval (.Call (.Attribute o m apos) (e::es) [] pos) X.env=(do
  let ov←eval o X.env
  standAt apos.atName
  let(f,first)←holding [ov] (getMethod ov m pl)
  callWith pos f first (backTo pos (starEach (e::es) X.env)) (backToKw pos (keywordEach [] X.env))):=by rfl):
 PE X (.Call (.Attribute o m apos) (e::es) [] pos) (qGL C m sp dvs E ta t):=by(
intro pins s σ H Q I h
refine rL (pl:=pl) (thn (he pins s σ H _ I h) λu s1 hZ=>?_) ht
obtain⟨x,H1,I1,rx,a,dx,fs,ex,ea,l,q⟩:=hZ
subst ex
obtain rfl:u=Value.ref a:=rx
refine q08 I1 ea c hm l ?_
refine wI (first:=[.ref a]) (h₀:=X.base) I.ok.mod.kin hm.kp (thn (ha pos pins s1 σ H1 _ I1 q) λus s2 ⟨vs,H2,I2,r,q2⟩=>⟨I2.kIn,?_⟩) hst hpl
exact q7A (us:=.ref a::us) (vs:=.ref a::vs) F hr hb hd hx I2 (.cons rfl r) q2)
theorem qW{pl:Sem Bool}(he:PE X o ta)(c:Cls X.K C)(hm:Meth X.K C m f)(F:FnOk X.prog X.w X.K X.mg X.base CX k f fd ps sp)(hr:Room k X.A)(hb:y6 X.K fd ps ds)(hd:Vals dvs ds)(hx:q09 CX X E)
 (ht:eval (.Call (.Attribute o m apos) [] [] pos) X.env=(do
  let ov←eval o X.env
  standAt apos.atName
  let(f,first)←holding [ov] (getMethod ov m pl)
  callWith pos f first (backTo pos (starEach [] X.env)) (backToKw pos (keywordEach [] X.env))):=by rfl):
 PE X (.Call (.Attribute o m apos) [] [] pos) (qGL C m sp dvs E ta tNil):=by(
intro pins s σ H Q I h
refine rL (pl:=pl) (thn (he pins s σ H _ I h) λu s1 hZ=>?_) ht
obtain⟨x,H1,I1,rx,a,dx,fs,ex,ea,l,q⟩:=hZ
subst ex
obtain rfl:u=Value.ref a:=rx
refine q08 I1 ea c hm l ?_
exact p8 (first:=[.ref a]) I1.kIn hm.kp (q7A (us:=[.ref a]) (vs:=[.ref a]) F hr hb hd hx I1 (.cons rfl .nil) q))
structure Mk(K:PySem.W.Frag)(C f:Addr):Prop where
makes:PySem.W.makesIn K C=true
init:PySem.W.findIn K (.ref C) "__init__"=some (some (.ref f))
fn:PySem.W.isFn K (.ref f)=true
kp:PySem.W.keepIn K (.ref C)=true
theorem qCU{pins:List (Addr×Obj)}{σ:St}{H:Hp}{s:Shared}{Q:VK}{us:List Value}{vs:List V}(M:Mk X.K C f)(F:FnOk X.prog X.w X.K X.mg X.base CX k f fd ps sp)(hr:Room (k+1) X.A)(hb:y6 X.K fd ps ds)(hd:Vals dvs ds)
 (hx:q09 CX X E) (I:Inv X pins σ H s) (r:Vals vs us)
 (h:∀x dx,H x=none→H dx=none→dx≠x→sp (.ref x::(vs++dvs)) (upd (upd H dx (.own x)) x (.ins C dx [])) (λv H2=>v=.non∧Q (.ref x) H2) E):
 wpAny (model X.prog X.w) X.A (call (.ref C) us) (EP X pins σ Q) X.xe s:=by(
have hq:=h (s.heap.objs.size+1) s.heap.objs.size (I.hok.fresh (dL _)) (I.hok.fresh (kJ _)) (mY (wC _))
have I2:=Inv.made (C:=C) I
have r2:Vals (V.ref (s.heap.objs.size+1)::(vs++dvs)) (Value.ref (s.heap.objs.size+1)::(us++ds)):=.cons rfl (r.append hd)
have hl:(Value.ref (s.heap.objs.size+1)::us++ds).length=ps.length:=by have e:=r2.length;rw[F.len _ _ _ _ hq]at e;exact e.symm
refine pJ (qCS (f:=f) I.kIn M.makes M.init (r6.mp M.fn) (c7 (F.run _ X.stack _ _ ⟨Value.ref (s.heap.objs.size+1)::us,[]⟩ (Value.ref (s.heap.objs.size+1)::(us++ds)) _ _ E (hr.make C us [])
 (I2.env0.make C us []) (hb _ (Value.ref (s.heap.objs.size+1)::us) I2.kIn hl) r2 hq) λr s' hq'=>?_))
cases r with
|error e=>exact hx pins σ _ _ e s' I2 hq'
|ok fl=>
 cases fl with
 |ret u=>obtain⟨v,H',I3,rv,ev,q3⟩:=I2.after hq';subst ev;exact⟨rv,⟨V.ref (s.heap.objs.size+1),H',I3,rfl,q3⟩⟩
 |next=>exact False.elim hq'
 |brk=>exact False.elim hq'
 |cont=>exact False.elim hq')
theorem q4O(M:Mk X.K C f)(F:FnOk X.prog X.w X.K X.mg X.base CX k f fd ps sp)(hr:Room (k+1) X.A)(hg:Gl X x)(hm:X.mg x=some (.ref C))(hb:y6 X.K fd ps ds)(hd:Vals dvs ds)(hx:q09 CX X E)
 (ha:PA X (e::es) t) (hdb:(x==("__debug__":Str))=false:=by decide) (he:starEach (e::es) X.env=(false,eval e X.env)::starEach es X.env:=by rfl) (hpl:(backTo pos (starEach es X.env)).any (·.1)=false:=by rfl):
 PE X (.Call (.Name x p) (e::es) [] pos) (qJH C sp dvs E t):=by(
intro pins s σ H Q I h
refine rK (q1S I hg hm ?_ hdb)
refine wI (h₀:=X.base) I.ok.mod.kin M.kp (thn (ha pos pins s σ H _ I h) λus s1 ⟨vs,H1,I1,r,q⟩=>⟨I1.kIn,?_⟩) he hpl
exact qCU M F hr hb hd hx I1 r q)
end
noncomputable def PK(X:Cx)(kws:List Keyword)(t:TA):Prop:=∀(pos:Pos) (pins:List (Addr×Obj)) (s:Shared) (σ:St) (H:Hp) (Q:List V→Hp→Prop),Inv X pins σ H s→t σ H Q→wpAny (model X.prog X.w) X.A (evalAll ((backToKw pos (keywordEach kws X.env)).map (·.2))) (AP X pins σ Q) X.xe s
section
variable{X:Cx}{CX:CXT}{k:Nat}{f C:Addr}{fd:FuncData}{ps ks:List Str}{sp:Sp}{E:XK}{x m:Str}{p pos apos kpos:Pos}{e o:Expr}{es:List Expr}{kws:List Keyword}{te ta:TE}{t tk:TA}{nm:Option Str}
theorem qHB:PK X [] tNil:=λ_ _ _ _ H Q I h=>wpAny_evalAll_nil ⟨[],H,I,.nil,h⟩
theorem qEZ(ha:PE X e te)(hr:PK X kws t):PK X (⟨nm,e,kpos⟩::kws) (qCT te t):=by(
intro pos pins s σ H Q I h
show wpAny _ _ (evalAll ((do let v←eval e X.env;standAt pos;pure v)::(backToKw pos (keywordEach kws X.env)).map (·.2))) _ _ s
refine wpAny_evalAll_cons (kB (thn (ha pins s σ H _ I h) λu s1 ⟨x,H1,I1,r1,q1⟩=>kB (pQ (mH ?_))))
exact thn (hr pos pins s1 σ H1 _ I1 q1) λus s2 ⟨xs,H2,I2,r2,q2⟩=>⟨x::xs,H2,I2,.cons r1 r2,q2⟩)
variable{g:List Value→List Value→List Value}{gV:List V→List V→List V}
end
structure FnScope(N P:List Str)(sc:Scope):Prop where
kind:sc.kind=.function
co:sc.isCoroutine=false
gen:sc.isGenerator=false
nd:N.Nodup
pre:N.take P.length=P
par:∀x∈P,sc.names.lookup x=some .local∨sc.names.lookup x=some .cell
nofree:∀y∈sc.names,y.2≠ .free
theorem q6P{kindOf:Str→Option NameKind}{x:Str}:∀{binds:List (Str×Value)} {m:Str→Option Value},(∀v,(x,v)∉binds)→bindL kindOf binds m x=m x
| [],_,_=>rfl
|(n,v)::r,m,h=>by
 unfold bindL;rw[q6P λw hw=>h w (hV _ hw)];split
 ·have:x≠n:=by rintro rfl;exact h v kZ
  simp[this]
 rfl
theorem q6Q{kindOf:Str→Option NameKind}{x:Str}:∀{binds:List (Str×Value)} {m:Str→Option Value},(∀v,(x,v)∉binds)→bindC kindOf binds m x=m x
| [],_,_=>rfl
|(n,v)::r,m,h=>by
 unfold bindC;rw[q6Q λw hw=>h w (hV _ hw)];split
 ·rfl
 have:x≠n:=by rintro rfl;exact h v kZ
 simp[this]
theorem q6R{kindOf:Str→Option NameKind}{x:Str}{v:Value}:∀{P:List Str} {vs:List Value} {i:Nat} {m:Str→Option Value},P.Nodup→P[i]?=some x→vs[i]?=some v→kindOf x=some .local→bindL kindOf (P.zip vs) m x=some v
| [],_,_,_,_,h,_,_=>by simp at h
|_::_,[],_,_,_,_,h,_=>by simp at h
|p::P,w::vs,0,m,nd,h1,h2,hk=>by simp at h1 h2;subst h1;subst h2;show bindL kindOf ((p,w)::P.zip vs) m p=_;unfold bindL;rw[q6P λv hv=>(gA.mp nd).1 (lE hv).1,hU hk];simp
|p::P,w::vs,i+1,m,nd,h1,h2,hk=>by show bindL kindOf ((p,w)::P.zip vs) m x=_;unfold bindL;exact q6R (i:=i) (gA.mp nd).2 (by simpa using h1) (by simpa using h2) hk
theorem q6S{kindOf:Str→Option NameKind}{x:Str}{v:Value}:∀{P:List Str} {vs:List Value} {i:Nat} {m:Str→Option Value},P.Nodup→P[i]?=some x→vs[i]?=some v→kindOf x≠some .local→bindC kindOf (P.zip vs) m x=some v
| [],_,_,_,_,h,_,_=>by simp at h
|_::_,[],_,_,_,_,h,_=>by simp at h
|p::P,w::vs,0,m,nd,h1,h2,hk=>by simp at h1 h2;subst h1;subst h2;show bindC kindOf ((p,w)::P.zip vs) m p=_;unfold bindC;rw[q6Q λv hv=>(gA.mp nd).1 (lE hv).1,hC hk];simp
|p::P,w::vs,i+1,m,nd,h1,h2,hk=>by show bindC kindOf ((p,w)::P.zip vs) m x=_;unfold bindC;exact q6S (i:=i) (gA.mp nd).2 (by simpa using h1) (by simpa using h2) hk
noncomputable def q2E(N:List Str)(vs:List V):St:=vs.map some++List.replicate (N.length-vs.length) none
noncomputable def cxOf(CX:CXT)(P:Program)(w:World)(K:PySem.W.Frag)(mg:Str→Option Value)(base:Heap)(N:List Str)(qual:Str)(scope:Scope)(f:Addr)(cd:Value)(A:Around)(outer:List Env)(s:Shared)(H:Hp)(E:XK):Cx where
prog:=P
w:=w
K:=K
mg:=mg
base:=base
A:=A.deeper (envOfC qual scope s.heap.objs.size f cd)
N:=N
s₀:=s
H₀:=H
env:=envOfC qual scope s.heap.objs.size f cd
outer:=outer
stack:=envOfC qual scope s.heap.objs.size f cd::outer
ex:=[]
calm:=true
fn:=λ_=>true
pn:=[]
xe:=λe s'=>wpAny (model P w) (A.deeper (envOfC qual scope s.heap.objs.size f cd)) (leaving (envOfC qual scope s.heap.objs.size f cd) e) (λ_ s''=>CX outer H s E e s'') (λe' s''=>CX outer H s E e' s'') s'
theorem q8L{sc:Scope}{n:Nat}{x:Str}(h:sc.names.lookup x=some .cell):∃c,(cellsFrom n sc.names []).lookup x=some c:=by have q:=nS sc.names n [] (.inl h);exact cI.mp q
theorem qBV{CX:CXT}{P:Program}{w:World}{K:PySem.W.Frag}{mg:Str→Option Value}{base:Heap}{N ps:List Str}{qual:Str}{scope:Scope}{f:Addr}{cd:Value}{A:Around}{outer:List Env}{s s1:Shared}{H:Hp}{E:XK}{us:List Value}{vs:List V}
 (S:FnScope N ps scope) (hd:A.handled=none) (e0:Env0 P w K mg base A outer s H) (hl:vs.length=ps.length) (r:Vals vs us)
 (x:InCallC s s.heap.objs.size (bindL (envOfC qual scope s.heap.objs.size f cd).kindOf (ps.zip us) λ_=>none) (cellsFrom (s.heap.objs.size+1) scope.names []) (bindC (envOfC qual scope s.heap.objs.size f cd).kindOf (ps.zip us) λ_=>none) s1):
 Inv (cxOf CX P w K mg base N qual scope f cd A outer s H E) [] (q2E N vs) H s1:=by(
have hpl:ps.length≤N.length:=by have:=dE List.length S.pre;rw[gH]at this;lia
obtain⟨h1,tk,rfl,hk⟩:=x.done
have noA:∀b:Addr,b∉(cxOf CX P w K mg base N qual scope f cd A outer s H E).ex:=λb z=>absurd (show b∈([]:List Addr)from z) (by simp)
refine⟨⟨e0.mod,S.kind,rfl,rfl,kJ _,λy z c h1 h2=>?_,λy hy=>?_,λy c _ h=>?_,λ_=>hd,lP e0.frames,.inr ⟨rfl,rfl⟩,λb z=>absurd z (noA b),e0.bs,e0.bsz,λb _ _=>noA b,λb z=>absurd z (noA b),e0.funs,e0.frf⟩,rfl,e0.bare,Un.kept hk,⟨_,x.toInCall.ns,λi y v h1 h2 h3=>?_⟩,λy c h=>⟨_,x.cell y c h⟩,e0.hok.fresh (kJ _),λy c h=>?_,λp hp=>absurd (show p∈([]:List (Addr×Obj))from hp) (by simp),e0.hok.kept hk,?_⟩
·exact name_of_addr x.apart (gU h1) (gU h2)
·have hy:scope.names.lookup y=some .cell∨scope.names.lookup y=some .free:=hy;rcases hy with hy|hy
 ·exact q8L hy
 exact absurd rfl (S.nofree _ (gU hy))
·exact cY (x.above y c (gU h))
·have hi:i<vs.length:=by
  unfold q2E at h2;by_cases hi:i<vs.length
  ·exact hi
  rw[cB (by simpa using hi)]at h2;rw[wD]at h2;split at h2<;>cases h2
 have ha:vs[i]?=some v:=by
  unfold q2E at h2;rw[sR (by simpa using hi),mL]at h2;cases e:vs[i]? with
  |none=>rw[e]at h2;cases h2
  |some a=>rw[e]at h2;cases h2;rfl
 obtain⟨u,hu,rv⟩:=r.get ha;have hp:ps[i]?=some y:=by rw[←S.pre,List.getElem?_take_of_lt (by lia)];exact h1
 have ndP:ps.Nodup:=by rw[←S.pre];exact S.nd.sublist (List.take_sublist _ _)
 refine⟨u,rv,?_⟩;rcases S.par y (gQ hp)with k|k
 ·exact .inl ⟨k,q6R ndP hp hu k⟩
 obtain⟨c,e⟩:=q8L (n:=s.heap.objs.size+1) k;refine .inr ⟨.inl k,c,e,?_⟩;have q:=x.cell y c e;rw[q6S ndP hp hu (by show scope.names.lookup y≠_;rw[k];decide)]at q;exact q
·exact e0.hok.fresh (cY (x.above y c (gU h)))
unfold q2E
show _=N.length
rw[mE,hX,gN]
lia)
theorem qCV{CX:CXT}{P:Program}{w:World}{K:PySem.W.Frag}{mg:Str→Option Value}{base:Heap}{k:Nat}{f:Addr}{name qual:Str}{params:Arguments}{body:List Stmt}{scope:Scope}{dV kV doc pm cdv ct oc:Value}{an od:Option Addr}
 {osl:Array (Option Value)} {N ps:List Str} {sp:Sp} (lk:K.lookup f=some ⟨oc,od,.func (PySem.W.fnOf name qual params body scope dV kV doc pm an cdv ct),osl⟩) (hcd:PySem.W.codeIn K cdv qual=true) (S:FnScope N ps scope)
 (len:∀vs H Q E,sp vs H Q E→vs.length=ps.length)
 (hbody:∀(A:Around) (outer:List Env) (s:Shared) (H:Hp) (vs:List V) (Q:VK) (E:XK),Room k (A.deeper (envOfC qual scope s.heap.objs.size f cdv))→sp vs H Q E→∃t,PSs (cxOf CX P w K mg base N qual scope f cdv A outer s H E) body t∧t { nx:=λ_ H'=>Q .non H',rt:=Q } (q2E N vs) H):
 FnOk P w K mg base CX (k+1) f (PySem.W.fnOf name qual params body scope dV kV doc pm an cdv ct) ps sp:=by(
refine⟨len,λA outer s H args us vs Q E hr e0 hb r hsp=>?_⟩
have hl:=len _ _ _ _ hsp
have KX:K.In s.heap:=e0.mod.kin.keeps λb o e=>(e0.bs b o e).1
have lim:s.heap.NoLimit:=e0.mod.nolimit.keeps λb o e=>(e0.bs b o e).1
have hkind:∀y∈ps.zip us,scope.names.lookup y.1=some .local∨(scope.names.lookup y.1=some .cell∧((cellsFrom (s.heap.objs.size+1) scope.names []).lookup y.1).isSome=true):=λ⟨n,v⟩ hy=>by
 rcases S.par n (lE hy).1 with q|q
 ·exact .inl q
 exact .inr ⟨q,nS _ _ _ (.inl q)⟩
refine codeAny_call_function hr.depth (KX _ _ lk) rfl S.co S.gen rfl (PySem.W.codeRec_of KX hcd) (hb _ _ _ _ ?_)
refine wpAny_newFunctionEnv_cells S.kind hkind λenv he s1 x=>?_
subst he
refine⟨lim.keeps x.toInCall.keep,codeAny_func ?_⟩
obtain⟨t,ht,hq⟩:=hbody A outer s H vs Q E (hr.deeper _) hsp
have I:Inv (cxOf CX P w K mg base N qual scope f cdv A outer s H E) [] (q2E N vs) H s1:=qBV S hr.hd e0 hl r x
refine g8 (ht [] s1 (q2E N vs) H _ I hq) (λfl s' hs=>?_) λe s' hs=>hs
have fin:∀{σ':St} {H':Hp} {v:V} {u:Value},Inv (cxOf CX P w K mg base N qual scope f cdv A outer s H E) [] σ' H' s'→RelV v u→Q v H'→CE outer P w H s Q u s':=fun {σ' H' v u} J rv q=>⟨v,H',J.os,J.bare,J.base,J.hok,rv,q⟩
cases fl with
|ret u=>obtain⟨v,σ',H',J,rv,q⟩:=hs;exact fin J rv q
|next=>obtain⟨σ',H',J,q⟩:=hs;exact fin (v:=V.non) (u:=Value.none) J rfl q
|brk=>obtain⟨_,_,_,q⟩:=hs;exact False.elim q
|cont=>obtain⟨_,_,_,q⟩:=hs;exact False.elim q)
section
variable{X:Cx}{x:Str}{p pos:Pos}{e:Expr}{es:List Expr}{t:TA}{id T:String}{r:List V→Hp→VK→Prop}
noncomputable def tCB(r:List V→Hp→VK→Prop)(t:TA):TE:=λσ H Q=>t σ H λvs H1=>r vs H1 Q
theorem jF(hc:q2D X (.builtin id) r)(hg:Gl X x)(hm:X.mg x=none)(hv:bootBuiltins x=some (.builtin id))(ha:PA X (e::es) t)(hn:x≠"__name__":=by decide)(hdb:(x==("__debug__":Str))=false:=by decide)
 (he:starEach (e::es) X.env=(false,eval e X.env)::starEach es X.env:=by rfl) (hpl:(backTo pos (starEach es X.env)).any (·.1)=false:=by rfl):PE X (.Call (.Name x p) (e::es) [] pos) (tCB r t):=by intro pins s σ H Q I h;refine rK (q3N I hg hm hv ?_ hn hdb);exact PyProof.Rows.callWith_builtin1 (thn (ha pos pins s σ H _ I h) λus s1 ⟨vs,H1,I1,r1,q1⟩=>hc pins s1 σ H1 vs us Q I1 r1 q1) he hpl
theorem q6T(hc:q2D X (.type T) r)(hg:Gl X x)(hm:X.mg x=none)(hv:bootBuiltins x=some (.type T))(ha:PA X (e::es) t)(hn:x≠"__name__":=by decide)(hdb:(x==("__debug__":Str))=false:=by decide)
 (he:starEach (e::es) X.env=(false,eval e X.env)::starEach es X.env:=by rfl) (hpl:(backTo pos (starEach es X.env)).any (·.1)=false:=by rfl):PE X (.Call (.Name x p) (e::es) [] pos) (tCB r t):=by intro pins s σ H Q I h;refine rK (q3N I hg hm hv ?_ hn hdb);exact wW (thn (ha pos pins s σ H _ I h) λus s1 ⟨vs,H1,I1,r1,q1⟩=>hc pins s1 σ H1 vs us Q I1 r1 q1) he hpl
end
noncomputable def ixN(n:Nat)(i:Int):Option Nat:=if 0≤i then(if i<n then some i.toNat else none)else if-(n:Int)≤i then some (i+n).toNat else none
noncomputable def atI{α:Type}(xs:List α)(i:Int):Option α:=(ixN xs.length i).bind λj=>xs[j]?
theorem qAR{n:Nat}{i:Int}{j:Nat}(h:ixN n i=some j):seqIndex? i n=some j∧j<n∧-(n:Int)≤i∧i<n:=by(
unfold ixN at h
by_cases h0:0≤i
·rw[hU h0]at h;by_cases h1:i<n
 ·rw[hU h1]at h;have e:i.toNat=j:=kW h;exact⟨by rw[lQ h0 h1,e],by lia,by lia,h1⟩
 rw[hC h1]at h;cases h
rw[hC h0]at h
by_cases h1:-(n:Int)≤i
·rw[hU h1]at h;have e:(i+n).toNat=j:=kW h;exact⟨by rw[nU (by lia) h1,e],by lia,h1,by lia⟩
rw[hC h1]at h;cases h)
theorem q7B{α:Type}{xs:List α}{i:Int}{v:α}(h:atI xs i=some v):∃j,seqIndex? i xs.length=some j∧xs[j]?=some v∧j<xs.length∧-(xs.length:Int)≤i∧i<xs.length:=by(
unfold atI at h
cases e:ixN xs.length i with
|none=>rw[e]at h;cases h
|some j=>rw[e]at h;obtain⟨h1,h2,h3,h4⟩:=qAR e;exact⟨j,h1,h,h2,h3,h4⟩)
theorem uH{α:Type}{xs:List α}{j:Nat}{v:α}(h:xs[j]?=some v):atI xs (j:Int)=some v:=by
 have hj:j<xs.length:=(kE.mp h).1;have e:ixN xs.length (j:Int)=some j:=by unfold ixN;rw[hU (by lia),hU (by lia)];simp
 unfold atI;rw[e];exact h
theorem qCW{α:Type}(xs:List α)(v:α):atI (xs++[v]) (-1)=some v:=by(
have hl:(xs++[v]).length=xs.length+1:=by simp
have e:ixN (xs++[v]).length (-1)=some xs.length:=by unfold ixN;rw[hl,hC (by decide),hU (by lia)];congr 1;lia
unfold atI
rw[e]
show(xs++[v])[xs.length]?=some v
simp)
noncomputable def qF0(b:Expr):Prop:=∀o i,subscripted b false o i=operate [o,i] (getItem o i)
noncomputable def IxR(X:Cx)(r:R2):Prop:=∀(value slice:Expr) (pins:List (Addr×Obj)) (s:Shared) (σ:St) (H:Hp) (x y:V) (v u:Value) (Q:VK),Inv X pins σ H s→RelV x v→RelV y u→r x y H Q→subscripted slice false v u=operate [v,u] (getItem v u)→wpAny (model X.prog X.w) X.A (subscriptTail value slice v u) (EP X pins σ Q) X.xe s
noncomputable def MtR(X:Cx)(id:String)(r:V→List V→Hp→VK→Prop):Prop:=∀(pins:List (Addr×Obj)) (s:Shared) (σ:St) (H:Hp) (x:V) (xs:List V) (v:Value) (us:List Value) (Q:VK),Inv X pins σ H s→RelV x v→Vals xs us→r x xs H Q→wpAny (model X.prog X.w) X.A (call (.builtin id) (v::us)) (EP X pins σ Q) X.xe s
section
variable{X:Cx}{a b:Expr}{ta tb:TE}{pos:Pos}
theorem jB{r:R2}(hr:IxR X r)(ha:PE X a ta)(hb:PE X b tb)(hs:qF0 b):PE X (.Subscript a b pos) (tOp r ta tb):=by intro pins s σ H Q I h;exact Subscript_ (binT ha hb I h λv u s2 x y H2 I2 rx ry q=>hr a b pins s2 σ H2 x y v u Q I2 rx ry q (hs _ _))
noncomputable def rIxL(K:PySem.W.Frag):R2:=λx y H Q=>∃p xs i v,x=.ref p∧y=.int i∧SqL K H p xs∧atI xs i=some v∧Q v H
noncomputable def rIxT(K:PySem.W.Frag):R2:=λx y H Q=>∃p xs i v,x=.ref p∧y=.int i∧SqT K H p xs∧atI xs i=some v∧Q v H
theorem jI:IxR X (rIxL X.K):=by(
intro value slice pins s σ H x y v u Q I rx ry h hs
obtain⟨p,xs,i,z,rfl,rfl,hq,he,q⟩:=h
cases rx
obtain⟨t,rfl⟩:=ry
obtain⟨its,r,pl,hz⟩:=I.list hq
obtain⟨j,h1,h2,h3,h4,h5⟩:=q7B he
obtain⟨w,ew,rw'⟩:=r.get h2
have hl:=r.length
have hn:=q50
have fin:EP X pins σ Q w s:=⟨z,H,I,rw',q⟩
by_cases h0:0≤i
·have hj:i.toNat=j:=by rw[lQ h0 h5]at h1;exact kW h1
 exact item_listR pl.isList h0 (by lia) (by rw[hj];simpa using ew) fin hs
have hj:(i+(its.toArray.size:Int)).toNat=j:=by rw[nU (by lia) h4]at h1;rw[mC,←hl];exact kW h1
exact nV (x:=w) pl.isList.typeIs slot_list_getitem.lookup
 (nX (Q:=λr s'=>r=w∧EP X pins σ Q r s') pl.isList (by lia) (by rw[mC]<;>lia) (by lia) (by rw[hj];simpa using ew) ⟨rfl,fin⟩) hs)
theorem yA:IxR X (rIxT X.K):=by(
intro value slice pins s σ H x y v u Q I rx ry h hs
obtain⟨p,xs,i,z,rfl,rfl,hq,he,q⟩:=h
cases rx
obtain⟨t,rfl⟩:=ry
obtain⟨its,r,pl,hz⟩:=I.tuple hq
obtain⟨j,h1,h2,h3,h4,h5⟩:=q7B he
obtain⟨w,ew,rw'⟩:=r.get h2
have hl:=r.length
have hn:=q50
have fin:EP X pins σ Q w s:=⟨z,H,I,rw',q⟩
exact nV (x:=w) pl.typeIs slot_tuple_getitem.lookup
 (getItem_tuple (j:=j) (Q:=λr s'=>r=w∧EP X pins σ Q r s') pl (by lia) (by lia) (by rw[mC,←hl];exact h1) (by simpa using ew) ⟨rfl,fin⟩) hs)
theorem q9W(its:List Value)(n j:Nat)(u:Value):Obj.mapSeq (·.setIfInBounds j u) { cls:=.type "list",data:=.seq its.toArray n } = { cls:=.type "list",data:=.seq (its.set j u).toArray n }:=by simp[Obj.mapSeq]
theorem Inv.lst{pins:List (Addr×Obj)}{σ:St}{H:Hp}{s:Shared}{p:Addr}{xs:List V}(I:Inv X pins σ H s)(h:H p=some (.lst xs)):
 ∃(its:List Value) (n:Nat),Vals xs its∧s.heap.get? p=some { cls:=.type "list",data:=.seq its.toArray n }∧xs.length≤sizeLine:=by obtain⟨z,its,n,r,e⟩:=I.hok p _ h;exact⟨its,n,r,e,z⟩
theorem Inv.lstUpd{pins:List (Addr×Obj)}{σ:St}{H:Hp}{s:Shared}{p:Addr}{xs ys:List V}{its its':List Value}{n n':Nat}{f:Obj→Obj}(I:Inv X pins σ H s)(h:H p=some (.lst xs))
 (ho:s.heap.get? p=some { cls:=.type "list",data:=.seq its.toArray n }) (hf:f { cls:=.type "list",data:=.seq its.toArray n } = { cls:=.type "list",data:=.seq its'.toArray n' }) (r:Vals ys its') (hz:ys.length≤sizeLine) (t:Nat):
 Inv X pins σ (upd H p (.lst ys)) { s with heap:=s.heap.update p f,toks:=t }:=by
 have e:(s.heap.update p f).get? p=some { cls:=.type "list",data:=.seq its'.toArray n' }:=by rw[wT f ho (by rw[hf]<;>rfl),hf]
 refine I.write (x:=p) (e:=p) (by rw[h];trivial) (.inl rfl) (λb u hb q=>(mW _ _ (wG hb)).trans q) ⟨_,e⟩ ?_;exact⟨hz,its',n',r,e⟩
noncomputable def qJI:V→V→V→Hp→(Hp→Prop)→Prop:=λo i v H Q=>∃p xs k j,o=.ref p∧i=.int k∧H p=some (.lst xs)∧ixN xs.length k=some j∧Q (upd H p (.lst (xs.set j v)))
theorem u6:PSet X qJI:=by(
intro pins s σ H o i v ov iv u Q I ro ri rv h
obtain⟨p,xs,k,j,rfl,rfl,hp,hj,q⟩:=h
cases ro
obtain⟨t,rfl⟩:=ri
obtain⟨its,n,r,ho,hz⟩:=I.lst hp
obtain⟨h1,h2,h3,h4⟩:=qAR hj
have hl:=r.length
have hn:=q50
have I':Inv X pins σ (upd H p (.lst (xs.set j v))) { s with heap:=s.heap.update p (Obj.mapSeq (·.setIfInBounds j u)) }:=I.lstUpd hp ho (q9W its n j u) (r.set rv j) (by rw[gK];exact hz) s.toks
by_cases h0:0≤k
·have hk:k.toNat=j:=by rw[lQ h0 h4]at h1;exact kW h1
 exact PySem.W.ki_setAt ho h0 (by lia) (by rw[mC,←hl];exact h4) (by rw[hk];exact⟨_,I',q⟩)
have hk:(k+(its.toArray.size:Int)).toNat=j:=by rw[nU (by lia) h3]at h1;rw[mC,←hl];exact kW h1
exact PySem.W.ki_setBack ho (by lia) (by rw[mC,←hl];exact h3) (by lia) (by rw[hk];exact⟨_,I',q⟩))
noncomputable def q35:V→Bool
| .non=>true
| .bl _=>true
| .int _=>true
| .str _=>true
|_=>false
noncomputable def eqV:V→V→Bool
| .non,.non=>true
| .bl a,.bl b=>a==b
| .bl a,.int b=>(if a then 1 else 0)==b
| .int a,.bl b=>a==(if b then 1 else 0)
| .int a,.int b=>a==b
| .str a,.str b=>a==b
|_,_=>false
theorem qHC{A:Around}{s:Shared}{y x:V}{u v:Value}(ry:RelV y u)(rx:RelV x v)(fy:q35 y=true)(fx:q35 x=true):SeqAt.EqAt A s u v (eqV y x):=by(
cases y with
|non=>
 cases ry;cases x with
 |non=>cases rx;exact SeqAt.EqAt.same _
 |bl b=>cases rx;exact SeqAt.EqAt.none_bool b
 |int b=>obtain⟨t,rfl⟩:=rx;exact SeqAt.EqAt.none_int b t
 |str b=>obtain⟨t,rfl⟩:=rx;exact SeqAt.EqAt.none_str b t
 |_=>exact absurd (show false=true from fx) kU
|bl a=>
 cases ry;cases x with
 |non=>cases rx;exact SeqAt.EqAt.bool_none a
 |bl b=>cases rx;exact SeqAt.EqAt.bool_bool a b
 |int b=>obtain⟨t,rfl⟩:=rx;exact SeqAt.EqAt.bool_int a b t
 |str b=>obtain⟨t,rfl⟩:=rx;exact SeqAt.EqAt.bool_str a b t
 |_=>exact absurd (show false=true from fx) kU
|int a=>
 obtain⟨t',rfl⟩:=ry;cases x with
 |non=>cases rx;exact SeqAt.EqAt.int_none a t'
 |bl b=>cases rx;exact SeqAt.EqAt.int_bool a t' b
 |int b=>obtain⟨t,rfl⟩:=rx;exact xH a t' b t
 |str b=>obtain⟨t,rfl⟩:=rx;exact xE a t' b t
 |_=>exact absurd (show false=true from fx) kU
|str a=>
 obtain⟨t',rfl⟩:=ry;cases x with
 |non=>cases rx;exact SeqAt.EqAt.str_none a t'
 |bl b=>cases rx;exact SeqAt.EqAt.str_bool a t' b
 |int b=>obtain⟨t,rfl⟩:=rx;exact xF a t' b t
 |str b=>obtain⟨t,rfl⟩:=rx;exact SeqAt.EqAt.str_str a t' b t
 |_=>exact absurd (show false=true from fx) kU
|_=>exact absurd (show false=true from fy) kU)
noncomputable def eqU(x:V)(u:Value):Bool:=match u with
| .none=>eqV .non x
| .bool b=>eqV (.bl b) x
| .int i _=>eqV (.int i) x
| .str z _=>eqV (.str z) x
|_=>false
theorem qCX{x y:V}{u:Value}(r:RelV y u)(f:q35 y=true):eqU x u=eqV y x:=by(
cases y with
|non=>cases r;rfl
|bl b=>cases r;rfl
|int i=>obtain⟨t,rfl⟩:=r;rfl
|str z=>obtain⟨t,rfl⟩:=r;rfl
|_=>exact absurd (show false=true from f) kU)
theorem q36{x:V}:∀{xs:List V} {us:List Value},Vals xs us→xs.all q35=true→us.any (eqU x)=xs.any λy=>eqV y x
|_,_,.nil,_=>rfl
|y::xs,u::us,.cons r t,f=>by rw[bH,mP]at f;rw[cJ,cJ,qCX r f.1,q36 t f.2]
theorem q0X{A:Around}{s:Shared}{x:V}{v:Value}(rx:RelV x v)(fx:q35 x=true):∀{xs:List V} {us:List Value},Vals xs us→xs.all q35=true→∀u∈us,SeqAt.EqAt A s u v (eqU x u)
|_,_,.nil,_=>λu hu=>by cases hu
|y::xs,u::us,.cons r t,f=>λu' hu=>by
 rw[bH,mP]at f;rcases kI.mp hu with rfl|hu
 ·rw[qCX r f.1];exact qHC r rx f.1 fx
 exact q0X rx fx t f.2 u' hu
noncomputable def inV(x:V)(xs:List V):Bool:=xs.any λy=>eqV y x
noncomputable def rIn(K:PySem.W.Frag)(neg:Bool):R2:=λx y H Q=>∃p xs,y=.ref p∧(SqL K H p xs∨SqT K H p xs)∧q35 x=true∧xs.all q35=true∧Q (.bl (if neg then !inV x xs else inV x xs)) H
theorem qBW:OpR X (compareOp .In) (rIn X.K false):=by(
intro pins s σ H x y v u Q I rx ry h
obtain⟨p,xs,rfl,hq,fx,fs,q⟩:=h
cases ry
rcases hq with hq|hq
·obtain⟨its,r,pl,hz⟩:=I.list hq;refine SeqAt.in_listAt (eqU x) pl.isList (λw hw=>q0X rx fx r fs w (by simpa using hw)) ⟨.bl _,H,I,rfl,?_⟩;rw[show its.toArray.any (eqU x)=its.any (eqU x) by simp,q36 r fs];exact q
obtain⟨its,r,pl,hz⟩:=I.tuple hq
refine SeqAt.in_tupleAt (eqU x) pl (λw hw=>q0X rx fx r fs w (by simpa using hw)) ⟨.bl _,H,I,rfl,?_⟩
rw[show its.toArray.any (eqU x)=its.any (eqU x) by simp,q36 r fs]
exact q)
theorem q0A:OpR X (compareOp .NotIn) (rIn X.K true):=by(
intro pins s σ H x y v u Q I rx ry h
obtain⟨p,xs,rfl,hq,fx,fs,q⟩:=h
cases ry
rcases hq with hq|hq
·obtain⟨its,r,pl,hz⟩:=I.list hq;refine SeqAt.notIn_listAt (eqU x) pl.isList (λw hw=>q0X rx fx r fs w (by simpa using hw)) ⟨.bl _,H,I,rfl,?_⟩;rw[show its.toArray.any (eqU x)=its.any (eqU x) by simp,q36 r fs];exact q
obtain⟨its,r,pl,hz⟩:=I.tuple hq
refine SeqAt.notIn_tupleAt (eqU x) pl (λw hw=>q0X rx fx r fs w (by simpa using hw)) ⟨.bl _,H,I,rfl,?_⟩
rw[show its.toArray.any (eqU x)=its.any (eqU x) by simp,q36 r fs]
exact q)
theorem jA:q2D X (.builtin "len") (λxs H Q=>∃p ys,xs=[.ref p]∧(SqL X.K H p ys∨SqT X.K H p ys)∧Q (.int ys.length) H):=by(
intro pins s σ H xs us Q I r h
obtain⟨p,ys,rfl,hq,q⟩:=h
obtain⟨u,rfl,rx⟩:=q43 r
cases rx
have hn:=q50
rcases hq with hq|hq
·obtain⟨its,r',pl,hz⟩:=I.list hq;have hlen:=r'.length;exact Calls.call_len_list pl.isList (by simp only[mC]<;>lia) ⟨.int ys.length,H,I.tok _,⟨s.toks+1,by rw[mC,hlen]⟩,q⟩
obtain⟨its,r',pl,hz⟩:=I.tuple hq
have hlen:=r'.length
exact len_tuple pl (by simp only[mC]<;>lia) ⟨.int ys.length,H,I.tok _,⟨s.toks+1,by rw[mC,hlen]⟩,q⟩)
theorem q7C:q2D X (.type "list") (λxs H Q=>∃p ys,xs=[.ref p]∧(SqL X.K H p ys∨SqT X.K H p ys)∧∀l,H l=none→Q (.ref l) (upd H l (.lst ys))):=by(
intro pins s σ H xs us Q I r h
obtain⟨p,ys,rfl,hq,q⟩:=h
obtain⟨u,rfl,rx⟩:=q43 r
cases rx
have fin:∀(its:List Value),Vals ys its→ys.length≤sizeLine→∀(h':Heap) (c':Nat),(∀b o',s.heap.get? b=some o'→h'.get? b=some o')→h'.get? s.heap.objs.size=some { cls:=.type "list",dict:=none,data:=.seq its.toArray c',slots:=#[] }→EP X pins σ Q (.ref s.heap.objs.size) { s with heap:=h' }:=λits r' hz h' c' kp e=>⟨.ref s.heap.objs.size,_,I.laid (t':=s.toks) kp (kJ _) (show jH X.prog X.w _ h' _ (.lst ys)from⟨hz,its,c',r',e⟩),rfl,q _ (I.hok.fresh (kJ _))⟩
rcases hq with hq|hq
·obtain⟨its,r',pl,hz⟩:=I.list hq;have hlen:=r'.length;obtain⟨o,ho,hc,n,hd⟩:=pl.isList;exact call_list_seq p (.inl rfl) ho hc hd (λh' c' kp e=>fin its r' hz h' c' kp e) (by simp only[mC]<;>lia)
obtain⟨its,r',pl,hz⟩:=I.tuple hq
have hlen:=r'.length
obtain⟨o,ho,hc,n,hd⟩:=pl
exact call_list_seq p (.inr rfl) ho hc hd (λh' c' kp e=>fin its r' hz h' c' kp e) (by simp only[mC]<;>lia))
noncomputable def tyV(K:PySem.W.Frag)(T:String)(x:V)(H:Hp):Prop:=match x with
| .str _=>T="str"
| .int _=>T="int"
| .ref p=>(T="list"∧∃xs,SqL K H p xs)∨(T="tuple"∧∃o,K.lookup p=some o∧o.cls=.type "tuple"∧o.dict=none)∨(T="dict"∧((∃kvs,H p=some (.dK kvs))∨∃kvs,H p=some (.dT kvs)))∨(T="set"∧∃S n,H p=some (.set S n))
|_=>False
theorem qCY{pins:List (Addr×Obj)}{σ:St}{H:Hp}{s:Shared}{T:String}{x:V}{v:Value}(I:Inv X pins σ H s)(r:RelV x v)(ty:tyV X.K T x H):
 s.TypeIs v T∧∀a,v=.ref a→∃ob,s.heap.get? a=some ob∧ob.dict=none:=by(
cases x with
|str z=>obtain⟨t,rfl⟩:=r;cases(show T="str" from ty);exact⟨typeIs_str s z t,λ_ e=>nomatch e⟩
|int i=>obtain⟨t,rfl⟩:=r;cases(show T="int" from ty);exact⟨aS s i t,λ_ e=>nomatch e⟩
|ref p=>
 cases r;rcases ty with⟨rfl,xs,hq⟩|⟨rfl,o,hk,hc,hd⟩|⟨rfl,hk⟩|⟨rfl,S,n,hk⟩
 ·obtain⟨its,_,pl,_⟩:=I.list hq;refine⟨pl.isList.typeIs,λa e=>?_⟩;cases e;obtain⟨o,n,e,c,hd,_⟩:=pl;exact⟨o,e,hd⟩
 ·refine⟨⟨o,I.kIn p o hk,hc⟩,λa e=>?_⟩;cases e;exact⟨o,I.kIn _ o hk,hd⟩
 ·have z:∃o,s.heap.get? p=some o∧o.ExactDict:=by
   rcases hk with⟨kvs,hk⟩|⟨kvs,hk⟩
   ·obtain⟨_,_,_,_,o,_,_,e,ex,_⟩:=I.hok p _ hk;exact⟨o,e,ex⟩
   obtain⟨_,_,_,_,o,_,_,e,ex,_⟩:=I.hok p _ hk;exact⟨o,e,ex⟩
  obtain⟨o,e,ex⟩:=z;refine⟨⟨o,e,ex.1⟩,λa e2=>?_⟩;cases e2;exact⟨o,e,ex.2.1⟩
 obtain⟨o,_,_,_,e,ex,_⟩:=I.hok p _ hk;refine⟨⟨o,e,ex.1⟩,λa e2=>?_⟩;cases e2;exact⟨o,e,ex.2.1⟩
|_=>exact False.elim ty)
noncomputable def tBM0(K:PySem.W.Frag)(T:String)(r:V→List V→Hp→VK→Prop)(to:TE):TE:=λσ H Q=>to σ H λx H1=>tyV K T x H1∧r x [] H1 Q
noncomputable def tBM(K:PySem.W.Frag)(T:String)(r:V→List V→Hp→VK→Prop)(to:TE)(t:TA):TE:=λσ H Q=>to σ H λx H1=>tyV K T x H1∧t σ H1 λxs H2=>r x xs H2 Q
variable{o e:Expr}{es:List Expr}{to:TE}{t:TA}{name:Str}{apos cpos:Pos}{T id:String}{r:V→List V→Hp→VK→Prop}
theorem qHD(pa:PlainAttrs T)(slot:Slot T name id)(hty:typeOf (.builtin id)=pure (.type "method_descriptor"))(hm:MtR X id r)(ho:PE X o to)
 (hbase:attributeBase o name X.env (eval o X.env)=eval o X.env:=by rfl) (hline:(apos.endLine==cpos.line)=true:=by rfl):PE X (.Call (.Attribute o name apos) [] [] cpos) (tBM0 X.K T r to):=by(
intro pins s σ H Q I h
refine wpAny_Call_method0_late hbase hline (thn (ho pins s σ H _ I h) λv s1 hZ=>?_)
obtain⟨x,H1,I1,r1,ty,q1⟩:=hZ
obtain⟨h1,h2⟩:=qCY I1 r1 ty
exact⟨T,id,pa,slot,hty,h1,h2,wJ rfl (PySem.evalArgs_none (hm pins s1 σ H1 x [] v [] Q I1 r1 .nil q1))⟩)
theorem qCZ(pa:PlainAttrs T)(slot:Slot T name id)(hty:typeOf (.builtin id)=pure (.type "method_descriptor"))(hm:MtR X id r)(ho:PE X o to)(ha:PA X (e::es) t)
 (hbase:attributeBase o name X.env (eval o X.env)=eval o X.env:=by rfl)
 (hfew:((backTo cpos (starEach (e::es) X.env)).all (λx=>!x.1)&&(backToKw cpos (keywordEach [] X.env)).all (λx=>x.1.isSome)
  &&decide ((e::es).length+([]:List Keyword).length+(if([]:List Keyword).isEmpty then 0 else 1)<30))=true:=by rfl)
 (hline:(apos.endLine==cpos.line)=true:=by rfl) (hs:starEach (e::es) X.env=(false,eval e X.env)::starEach es X.env:=by rfl) (hplain:(backTo cpos (starEach es X.env)).any (·.1)=false:=by rfl):
 PE X (.Call (.Attribute o name apos) (e::es) [] cpos) (tBM X.K T r to t):=by(
intro pins s σ H Q I h
refine wpAny_Call_method_late hbase hfew hline rfl (thn (ho pins s σ H _ I h) λv s1 hZ=>?_)
obtain⟨x,H1,I1,r1,ty,q1⟩:=hZ
obtain⟨h1,h2⟩:=qCY I1 r1 ty
refine⟨T,id,pa,slot,hty,h1,h2,?_⟩
have hA:=ha cpos pins s1 σ H1 _ I1 q1
rw[hs]at hA ⊢
refine wJ (by show(false||(backTo cpos (starEach es X.env)).any (·.1))=false;rw[hplain]<;>rfl) (pS ?_)
exact thn hA λus s2 ⟨vs,H2,I2,r2,q2⟩=>hm pins s2 σ H2 x vs v us Q I2 r1 r2 q2)
end
noncomputable def MtM(X:Cx)(id:String)(r:V→List V→Hp→VK→Prop):Prop:=∀(pins:List (Addr×Obj)) (s:Shared) (σ:St) (H:Hp) (x:V) (xs:List V) (v:Value) (us:List Value) (Q:VK),Inv X pins σ H s→RelV x v→Vals xs us→r x xs H Q→wpAny (model X.prog X.w) X.A (call (.builtin id) (v::us)) (EP X pins σ Q) X.xe s
theorem Vals.one{x:V}{us:List Value}(h:Vals [x] us):∃u,us=[u]∧RelV x u:=by
 cases h with
 |cons r t=>cases t;exact⟨_,rfl,r⟩
theorem Vals.zero:∀{us:List Value},Vals [] us→us=[]
|_,.nil=>rfl
theorem Vals.rep{xs:List V}{us:List Value}(h:Vals xs us):∀k:Nat,Vals (List.replicate k xs).flatten (List.replicate k us).flatten
|0=>.nil
|k+1=>by rw[dP,dP,wX,wX];exact Vals.append h (Vals.rep h k)
theorem q6U(its:List Value):∀(k:Nat) (acc:List Value),List.foldl (λx1 x2=>x1++x2) acc.toArray (List.replicate k its.toArray)=(acc++(List.replicate k its).flatten).toArray
|0,acc=>by simp
|k+1,acc=>by
 have e:acc.toArray++its.toArray=(acc++its).toArray:=by simp
 have e2:(acc++its)++(List.replicate k its).flatten=acc++(List.replicate (k+1) its).flatten:=by rw[dP,wX,gC]
 rw[←e2,←q6U its k (acc++its),←e,dP,aI]
section
variable{X:Cx}{pins:List (Addr×Obj)}{σ:St}{H:Hp}{s:Shared}{l b:Addr}{xs ys zs:List V}
theorem Inv.lset{its its':List Value}{n:Nat}{f:Array Value→Array Value}{t':Nat}(I:Inv X pins σ H s)(hH:H l=some (.lst xs))
 (e:s.heap.get? l=some { cls:=.type "list",data:=.seq its.toArray n }) (hf:f its.toArray=its'.toArray) (hv:Vals ys its') (hz:ys.length≤sizeLine):
 Inv X pins σ (upd H l (.lst ys)) { s with heap:=s.heap.update l (Obj.mapSeq f),toks:=t' }:=by(
have q:=PySem.IsL.update e f
rw[hf]at q
refine I.write (x:=l) (e:=l) (by rw[hH];exact trivial) (.inl rfl) (λb' u hb hu=>(mW s.heap (Obj.mapSeq f) (wG hb)).trans hu) ⟨_,q⟩ ?_
exact⟨hz,its',_,hv,q⟩)
theorem Inv.lnew{its:List Value}{t':Nat}(I:Inv X pins σ H s)(hv:Vals ys its)(hz:ys.length≤sizeLine):
 Inv X pins σ (upd H s.heap.objs.size (.lst ys)) { s with heap:=s.heap.push { cls:=.type "list",data:=.seq its.toArray },toks:=t' }:=I.laid (λ_ _ q=>kF _ q) (kJ _) ⟨hz,its,0,hv,mU _ rfl⟩
theorem Inv.fresh(I:Inv X pins σ H s):H s.heap.objs.size=none:=I.hok.fresh (kJ _)
theorem Inv.lstM(I:Inv X pins σ H s)(hH:H l=some (.lst xs)):xs.length≤sizeLine∧∃(its:List Value) (n:Nat),Vals xs its∧xs.length=its.length∧s.heap.get? l=some { cls:=.type "list",data:=.seq its.toArray n }:=by obtain⟨z,its,n,r,e⟩:=I.hok l _ hH;exact⟨z,its,n,r,r.length,e⟩
theorem qD0{n:Nat}(h:n≤sizeLine):Builtin.List.listTooLong n=false:=by unfold Builtin.List.listTooLong;exact h9 (by lia)
end
section
variable{X:Cx}
noncomputable def qF1:V→List V→Hp→VK→Prop:=λx vs H Q=>∃l xs y,x=.ref l∧vs=[y]∧H l=some (.lst xs)∧xs.length<sizeLine∧Q .non (upd H l (.lst (xs++[y])))
theorem q1V:MtM X "list.append" qF1:=by(
intro pins s σ H x vs v us Q I rx rv h
obtain⟨l,xs,y,rfl,rfl,hH,hz,q⟩:=h
cases rx
obtain⟨u,rfl,ru⟩:=rv.one
obtain⟨z,its,n,r,hl,e⟩:=I.lstM hH
refine aT F.slot_list_append ⟨_,e,rfl⟩ F.entry_list_append (F.args_list_append_2 _ _) (PySem.list_append l its.toArray n u (by rw[mC];lia)) ⟨e,?_⟩
refine⟨.non,_,I.lset (its':=its++[u]) hH e (by simp) (r.append (.cons ru .nil)) ?_,rfl,q⟩
rw[mE,gG]
lia)
noncomputable def rRep:R2:=λx y H Q=>∃l k xs,x=.ref l∧y=.int k∧H l=some (.lst xs)∧-(2 ^ 63)≤k∧k<2 ^ 63∧xs.length*k.toNat≤sizeLine∧∀p,H p=none→Q (.ref p) (upd H p (.lst (List.replicate k.toNat xs).flatten))
theorem qF2{α:Type}(xs:List α)(k:Nat):(List.replicate k xs).flatten.length=k*xs.length:=by(
induction k with
|zero=>simp
|succ k ih=>rw[dP,wX,mE,ih,c8,Nat.add_comm])
theorem qHE:OpR X (binaryOp .Mult) rRep:=by(
intro pins s σ H x y v u Q I rx ry h
obtain⟨l,k,xs,rfl,rfl,hH,h1,h2,hz,q⟩:=h
cases rx
obtain⟨t,rfl⟩:=ry
obtain⟨z,its,n,r,hl,e⟩:=I.lstM hH
have hlen:its.toArray.size*k.toNat≤sizeLine:=by rw[mC,←hl];exact hz
have hcap:¬its.toArray.size*k.toNat>(2 ^ 63-1) / 8:=by
 have:(sizeLine:Nat)≤(2 ^ 63-1) / 8:=by decide
 lia
have hfit:¬(!Builtin.List.listFitsIndex k)=true:=by rw[fitsIndex_both h1 h2];exact kU
have hlong:¬Builtin.List.listTooLong (its.toArray.size*k.toNat)=true:=by rw[qD0 hlen];exact kU
have hnew:List.foldl (λx1 x2=>x1++x2) #[] (List.replicate (if its.toArray.isEmpty=true then 0 else k.toNat) its.toArray)=(List.replicate k.toNat its).flatten.toArray:=by
 have f0:∀m:Nat,List.foldl (λx1 x2=>x1++x2) #[] (List.replicate m its.toArray)=(List.replicate m its).flatten.toArray:=λm=>by have:=q6U its m [];rw[d5]at this;exact this
 rw[f0];cases its with
 |nil=>simp
 |cons a r'=>rw[hC (by simp)]
refine wpAny_binaryOp_repeat_ref (T:="list") (U:="int") (by decide) ⟨_,e,rfl⟩ (λs'=>aS s' k t) noFill_list_mul F.fills_int_mul aJ repeat_list F.slot_int_index.lookup
 (aT aJ (aS s k t) F.entry_int_rmul (F.args_int_rmul_2 _ _) (int___rmul___int_list k t l its.toArray n)
  ⟨e,rfl,⟨_,e,rfl⟩,aT F.slot_list_mul ⟨_,e,rfl⟩ F.entry_list_mul (F.args_list_mul_2 _ _) (AutoListH.list___mul___list_int_3 l its.toArray n k t hfit hcap hlong) ⟨e,?_⟩⟩)
rw[hnew]
exact⟨.ref _,_,I.lnew (t':=s.toks) (r.rep k.toNat) (by rw[qF2,wK];exact hz),rfl,q _ I.fresh⟩)
end
section
variable{κ:Type}[DecidableEq κ]
noncomputable def valV(kvs:List (κ×V))(k:κ):Option V:=(kvs.find? λkv=>decide (kv.1=k)).map (·.2)
noncomputable def putK(kvs:List (κ×V))(k:κ)(v:V):List (κ×V):=if(kvs.any λkv=>decide (kv.1=k))=true then kvs.map (λkv=>if kv.1=k then(kv.1,v)else kv)else kvs++[(k,v)]
noncomputable def q53(kvs:List (κ×V))(k:κ):List (κ×V):=kvs.filter λkv=>decide (kv.1≠k)
theorem q37{p:κ×V}{r:List (κ×V)}{k:κ}(e:p.1=k):valV (p::r) k=some p.2:=by simp[valV,dQ,e]
theorem q0Y{p:κ×V}{r:List (κ×V)}{k:κ}(e:¬p.1=k):valV (p::r) k=valV r k:=by simp[valV,dQ,e]
theorem q8M(k:κ):∀kvs:List (κ×V),(kvs.any λkv=>decide (kv.1=k))=(valV kvs k).isSome
| []=>rfl
|p::r=>by
 rw[cJ];by_cases e:p.1=k
 ·simp only[q37 e,hG e,Bool.true_or,Option.isSome_some]
 rw[q0Y e,h9 e,Bool.false_or];exact q8M k r
theorem q46(kvs:List (κ×V))(k:κ)(v:V):(putK kvs k v).length≤kvs.length+1:=by(
unfold putK
split
·rw[hX];lia
rw[mE,mI,lF];lia)
theorem RelO.isSome_eq{o:Option V}{u:Option Value}(r:RelO o u):o.isSome=u.isSome:=by(
cases o with
|none=>cases u with
 |none=>rfl
 |some _=>exact(show False from r).elim
|some _=>cases u with
 |none=>exact(show False from r).elim
 |some _=>rfl)
theorem RelO.getD{o:Option V}{u:Option Value}{d:V}{d':Value}(r:RelO o u)(rd:RelV d d'):RelV (o.getD d) (u.getD d'):=by(
cases o with
|none=>cases u with
 |none=>exact rd
 |some _=>exact(show False from r).elim
|some _=>cases u with
 |none=>exact(show False from r).elim
 |some _=>exact r)
theorem KV.val{kvs:List (κ×V)}{vs:List (κ×Value)}(r:KV kvs vs)(k:κ):RelO (valV kvs k) (valueAt vs k):=by(
unfold KV at r
induction r with
|nil=>exact True.intro
|@cons p q ps qs h t ih=>
 obtain⟨h1,h2⟩:=h;by_cases e:p.1=k
 ·have e':q.1=k:=h1.symm.trans e;have b:valueAt (q::qs) k=some q.2:=by simp[valueAt,dQ,e']
  rw[q37 e,b];exact h2
 have e':¬q.1=k:=λz=>e (h1.trans z);have b:valueAt (q::qs) k=valueAt qs k:=by simp[valueAt,dQ,e']
 rw[q0Y e,b];exact ih)
theorem KV.any{kvs:List (κ×V)}{vs:List (κ×Value)}(r:KV kvs vs)(k:κ):(kvs.any λkv=>decide (kv.1=k))=vs.any λkv=>decide (kv.1=k):=by(
unfold KV at r
induction r with
|nil=>rfl
|cons h t ih=>rw[cJ,cJ,ih,h.1])
theorem KV.repl{kvs:List (κ×V)}{vs:List (κ×Value)}(r:KV kvs vs)(k:κ){y:V}{u:Value}(ry:RelV y u):
 KV (kvs.map λkv=>if kv.1=k then(kv.1,y)else kv) (vs.map λkv=>if kv.1=k then(kv.1,u)else kv):=by(
unfold KV at r ⊢
induction r with
|nil=>exact .nil
|@cons p q ps qs h t ih=>
 rw[mR,mR];refine .cons ?_ ih;obtain⟨h1,h2⟩:=h;by_cases e:p.1=k
 ·rw[hU e,hU (h1.symm.trans e)];exact⟨h1,ry⟩
 rw[hC e,hC (λz=>e (h1.trans z))];exact⟨h1,h2⟩)
theorem KV.put{kvs:List (κ×V)}{vs:List (κ×Value)}(r:KV kvs vs)(k:κ){y:V}{u:Value}(ry:RelV y u):KV (putK kvs k y) (stored vs k u):=by(
unfold putK stored
rw[r.any k]
by_cases e:(vs.any λkv=>decide (kv.1=k))=true
·rw[hU e,hU e];exact r.repl k ry
rw[hC e,hC e];exact Paired.snoc r ⟨rfl,ry⟩)
theorem KV.drop{kvs:List (κ×V)}{vs:List (κ×Value)}(r:KV kvs vs)(k:κ):KV (q53 kvs k) (without vs k):=by(
unfold KV at r ⊢
unfold q53 without
induction r with
|nil=>exact .nil
|@cons p q ps qs h t ih=>
 obtain⟨h1,h2⟩:=h;rw[m9,m9];by_cases e:p.1=k
 ·have a:¬decide (p.1≠k)=true:=by simp[e]
  have b:¬decide (q.1≠k)=true:=by simp[h1.symm.trans e]
  rw[hC a,hC b];exact ih
 have e':¬q.1=k:=λz=>e (h1.trans z);have a:decide (p.1≠k)=true:=by simp[e]
 have b:decide (q.1≠k)=true:=by simp[e']
 rw[hU a,hU b];exact .cons ⟨h1,h2⟩ ih)
theorem KV.keys{kvs:List (κ×V)}{vs:List (κ×Value)}(r:KV kvs vs):kvs.map (·.1)=vs.map (·.1):=by(
unfold KV at r
induction r with
|nil=>rfl
|cons h t ih=>rw[mR,mR,ih,h.1])
theorem KV.length{kvs:List (κ×V)}{vs:List (κ×Value)}(r:KV kvs vs):kvs.length=vs.length:=xB r
theorem qD1(kvs:List (κ×V))(k:κ):(q53 kvs k).length≤kvs.length:=mJ _ _
end
theorem q6V{P:Program}{w:World}{k:Key}{u:Value}(r:RelV (kV k) u):(jQ P w).is k u=true:=by(
cases k with
|inl i=>obtain⟨t,e⟩:=(show ∃t,u=Value.int i t from r);subst e;exact q8E P w i t
|inr x=>obtain⟨t,e⟩:=(show ∃t,u=Value.str x t from r);subst e;exact q8F P w x t)
theorem q6W{P:Program}{w:World}:∀{ks:List Key} {us:List Value},Vals (ks.map kV) us→ItemsAre (jQ P w) ks us
| [],_,r=>by rw[bJ]at r;cases r;exact .nil
|k::ks,_,r=>by
 rw[mR]at r;cases r with
 |cons h t=>exact .cons (q6V h) (q6W t)
noncomputable abbrev KT(H:Hp):List (List Key×V)→List (List Key×Addr×Value)→Prop:=Paired λp q=>p.1=q.1∧H q.2.1=some (.tup (p.1.map kV))∧RelV p.2 q.2.2
theorem KT.val{H:Hp}{kvs:List (List Key×V)}{xs:List (List Key×Addr×Value)}(r:KT H kvs xs)(k:List Key):RelO (valV kvs k) ((atKey xs k).map (·.2)):=by(
induction r with
|nil=>exact True.intro
|@cons p q ps qs h t ih=>
 obtain⟨h1,_,h2⟩:=h;by_cases e:p.1=k
 ·have e':q.1=k:=h1.symm.trans e;have b:atKey (q::qs) k=some q.2:=by simp[atKey,dQ,e']
  rw[q37 e,b];exact h2
 have e':¬q.1=k:=λz=>e (h1.trans z);have b:atKey (q::qs) k=atKey qs k:=by simp[atKey,dQ,e']
 rw[q0Y e,b];exact ih)
theorem KT.repl{H:Hp}{kvs:List (List Key×V)}{xs:List (List Key×Addr×Value)}(r:KT H kvs xs)(k:List Key){y:V}{u:Value}(ry:RelV y u):
 KT H (kvs.map λkv=>if kv.1=k then(kv.1,y)else kv) (xs.map (putAt k u)):=by(
induction r with
|nil=>exact .nil
|@cons p q ps qs h t ih=>
 rw[mR,mR];refine .cons ?_ ih;obtain⟨h1,h2,h3⟩:=h;unfold putAt;by_cases e:p.1=k
 ·rw[hU e,hU (h1.symm.trans e)];exact⟨h1,h2,ry⟩
 rw[hC e,hC (λz=>e (h1.trans z))];exact⟨h1,h2,h3⟩)
theorem KT.put{H:Hp}{kvs:List (List Key×V)}{xs:List (List Key×Addr×Value)}(r:KT H kvs xs)(k:List Key){b:Addr}{y:V}{u:Value}(hb:H b=some (.tup (k.map kV)))(ry:RelV y u):
 KT H (putK kvs k y) (storedH xs k b u):=by(
have e:(kvs.any λkv=>decide (kv.1=k))=(atKey xs k).isSome:=by rw[q8M,(r.val k).isSome_eq,xQ]
unfold putK storedH
rw[e]
by_cases q:(atKey xs k).isSome=true
·rw[hU q,hU q];exact r.repl k ry
rw[hC q,hC q];exact Paired.snoc r ⟨rfl,hb,ry⟩)
theorem KT.keeps{H H':Hp}{kvs:List (List Key×V)}{xs:List (List Key×Addr×Value)}(r:KT H kvs xs)(ht:∀b ys,H b=some (.tup ys)→H' b=some (.tup ys)):KT H' kvs xs:=Paired.mapP r λ_ _ z=>⟨z.1,ht _ _ z.2.1,z.2.2⟩
section
variable{P:Program}{w:World}{H:Hp}{h:Heap}{a:Addr}
theorem qGM{u:HO}(ok:HOk P w H h)(e:Rd H a u):jH P w H h a u:=e.ok ok
theorem q6X{kvs:List (Key×V)}(ok:HOk P w H h)(e:Rd H a (.dK kvs)):kvs.length≤sizeLine∧(a==sysModules)=false∧∃vs,KV kvs vs∧h.DictOf (jQ P w) a vs:=show jH P w H h a (.dK kvs)from qGM ok e
theorem q8N{kvs:List (Key×V)}(ok:HOk P w H h)(e:H a=some (.dK kvs)):kvs.length≤sizeLine∧(a==sysModules)=false∧∃vs,KV kvs vs∧h.DictOf (jQ P w) a vs:=q6X ok (.inl e)
theorem q54{ks:List Key}(ok:HOk P w H h)(e:H a=some (.tup (ks.map kV))):(tupleKind (jQ P w)).is h ks a:=by obtain⟨_,its,r,o,h1,h2,n,h3⟩:=(show jH P w H h a (.tup (ks.map kV))from ok a _ e);exact⟨o,its.toArray,n,h1,h2,h3,by simpa using q6W r⟩
theorem q6Y{kvs:List (List Key×V)}(ok:HOk P w H h)(e:Rd H a (.dT kvs)):kvs.length≤sizeLine∧(a==sysModules)=false∧∃xs,KT H kvs xs∧h.DictOfH (tupleKind (jQ P w)) a xs:=by(
obtain⟨z,y,xs,r,o,es,ep,h1,h2,h3,h4,h5⟩:=(show jH P w H h a (.dT kvs)from qGM ok e)
refine⟨z,y,xs,r,o,es,ep,h1,h2,h3,h4,λx hx=>?_,h5⟩
have all:∀{l:List (List Key×V)} {m:List (List Key×Addr×Value)},KT H l m→∀x∈m,(tupleKind (jQ P w)).is h x.1 x.2.1:=by
 intro l m q;induction q with
 |nil=>intro x hx;exact nomatch hx
 |@cons p q ps qs hq t ih=>
  intro x hx;rcases kI.mp hx with e|hx
  ·subst e;exact q54 ok (by rw[←hq.1];exact hq.2.1)
  exact ih x hx
exact all r x hx)
theorem qJJ{kvs:List (List Key×V)}(ok:HOk P w H h)(e:H a=some (.dT kvs)):kvs.length≤sizeLine∧(a==sysModules)=false∧∃xs,KT H kvs xs∧h.DictOfH (tupleKind (jQ P w)) a xs:=q6Y ok (.inl e)
end
noncomputable def DGet(H:Hp)(a:Addr)(y:V)(r:Option V):Prop:=(∃kvs k,Rd H a (.dK kvs)∧y=kV k∧r=valV kvs k)∨∃kvs k b,Rd H a (.dT kvs)∧y=.ref b∧H b=some (.tup (k.map kV))∧r=valV kvs k
noncomputable def DPut(H:Hp)(a:Addr)(y v:V)(H':Hp):Prop:=(∃kvs k,H a=some (.dK kvs)∧y=kV k∧kvs.length<sizeLine∧H'=upd H a (.dK (putK kvs k v)))∨∃kvs k b,H a=some (.dT kvs)∧y=.ref b∧H b=some (.tup (k.map kV))∧kvs.length<sizeLine∧H'=upd H a (.dT (putK kvs k v))
theorem DGet.k{H:Hp}{a:Addr}{kvs:List (Key×V)}{k:Key}(e:H a=some (.dK kvs)):DGet H a (kV k) (valV kvs k):=.inl ⟨kvs,k,.inl e,rfl,rfl⟩
section
variable{X:Cx}{pins:List (Addr×Obj)}{σ:St}{H:Hp}{s:Shared}{a:Addr}{y v:V}{u r:Value}{o:Option V}{A:Around}{E:Value→Shared→Prop}
theorem Inv.big(I:Inv X pins σ H s):sysModules<s.heap.objs.size:=by have h:mainGlobals<s.heap.objs.size:=(I.mod.glob.keeps I.bk).lt;exact Nat.lt_trans (by decide) h
theorem qBX{Q:Value→Shared→Prop}(hu:A.units+1<cLine)(I:Inv X pins σ H s)(g:DGet H a y (some v))(ry:RelV y u)(h:∀w' s',Inv X pins σ H s'→RelV v w'→Q w' s'):
 wpAny (model X.prog X.w) A (getItem (.ref a) u) Q E s:=by(
rcases g with⟨kvs,k,e,ey,l⟩|⟨kvs,k,b,e,ey,eb,l⟩
·subst ey;obtain⟨z,hd,vs,rel,dd⟩:=q6X I.hok e;obtain⟨w',hw,rw'⟩:=RelO.some_of (v:=v) (o:=valueAt vs k) (by rw[l];exact rel.val k);exact wpAny_getItem_of (q6V ry) dd.mapOf hw (h w' _ (I.tok _) rw')
subst ey
cases(show u=Value.ref b from ry)
obtain⟨z,hd,xs,rel,dd⟩:=q6Y I.hok e
obtain⟨w',hw,rw'⟩:=RelO.some_of (v:=v) (o:=(atKey xs k).map (·.2)) (by rw[l];exact rel.val k)
obtain⟨p,hp,hp2⟩:=m8.mp hw
refine wpAny_getItem_heap (cP hu) (q54 I.hok eb) dd hp ?_
rw[hp2]
exact h w' _ (I.tok _) rw')
theorem d_in{Q:Value→Shared→Prop}(hu:A.units+1<cLine)(I:Inv X pins σ H s)(g:DGet H a y o)(ry:RelV y u)(h:∀s',Inv X pins σ H s'→Q (.bool o.isSome) s'):
 wpAny (model X.prog X.w) A (compareOp .In u (.ref a)) Q E s:=by(
rcases g with⟨kvs,k,e,ey,l⟩|⟨kvs,k,b,e,ey,eb,l⟩
·subst ey;obtain⟨z,hd,vs,rel,dd⟩:=q6X I.hok e;refine wpAny_in_of (q6V ry) hd dd.mapOf ?_;rw[←(rel.val k).isSome_eq,←l];exact h _ (I.tok _)
subst ey
cases(show u=Value.ref b from ry)
obtain⟨z,hd,xs,rel,dd⟩:=q6Y I.hok e
refine wpAny_in_heap (cP hu) (q54 I.hok eb) hd dd ?_
have q:=(rel.val k).isSome_eq
rw[xQ]at q
rw[←q,←l]
exact h _ (I.tok _))
theorem q7D{h':Heap}{t':Nat}{ob:HO}(I:Inv X pins σ H s)(mu:Mut (H a))(hs:Heap.SameBut a s.heap h')(he:∃q,h'.get? a=some q)(new:jH X.prog X.w (upd H a ob) h' a ob):
 Inv X pins σ (upd H a ob) { s with heap:=h',toks:=t' }:=I.write (x:=a) (e:=a) mu (.inl rfl) (λb q hb z=>(hs.2 b hb).trans z) he new
theorem qD2{P:Program}{w:World}{H':Hp}{h':Heap}{kvs:List (Key×V)}{vs:List (Key×Value)}(z:kvs.length≤sizeLine)(hd:(a==sysModules)=false)(rel:KV kvs vs)(dd:h'.DictOf (jQ P w) a vs):
 jH P w H' h' a (.dK kvs):=⟨z,hd,vs,rel,dd⟩
theorem qBY{H':Hp}{Q:Unit→Shared→Prop}(hu:A.units+1<cLine)(I:Inv X pins σ H s)(g:DPut H a y v H')(ry:RelV y u)(rv:RelV v r)(h:∀s',Inv X pins σ H' s'→Q () s'):
 wpAny (model X.prog X.w) A (setItem (.ref a) u r) Q E s:=by(
rcases g with⟨kvs,k,e,ey,l,eH⟩|⟨kvs,k,b,e,ey,eb,l,eH⟩
·subst ey eH;obtain⟨z,hd,vs,rel,dd⟩:=q8N I.hok e;have hz:vs.length≤sizeLine:=by rw[←rel.length];exact z
 have hl:(putK kvs k v).length≤sizeLine:=by have:=q46 kvs k v;lia
 refine wpAny_setItem_pairs (hsz:=hz) (q6V ry) dd λh' dd' hs=>h _ ?_;have he:∃q,h'.get? a=some q:=let⟨q,_,_,hq,_⟩:=dd';⟨q,hq⟩
 exact q7D I (by rw[e];exact True.intro) hs he (qD2 hl hd (rel.put k rv) dd')
subst ey eH
cases(show u=Value.ref b from ry)
obtain⟨z,hd,xs,rel,dd⟩:=qJJ I.hok e
have hz:xs.length≤sizeLine:=by rw[←xB rel];exact z
have hl:(putK kvs k v).length≤sizeLine:=by have:=q46 kvs k v;lia
refine wpAny_setItem_heap (hsz:=hz) (cP hu) (q54 I.hok eb) dd λh' dd' hs=>h _ ?_
obtain⟨q,es,ep,hq,h2,h3,h4,_,h5⟩:=dd'
refine q7D I (by rw[e];exact True.intro) hs ⟨q,hq⟩ ⟨hl,hd,_,(rel.put k eb rv).keeps λc ys ec=>?_,q,es,ep,hq,h2,h3,h4,h5⟩
rw[qC (jM ec e (λz=>nomatch z))]
exact ec)
end
section
variable{X:Cx}{pins:List (Addr×Obj)}{σ:St}{H:Hp}{s:Shared}{a:Addr}{kvs:List (Key×V)}{k:Key}{u:Value}{A:Around}{E:Value→Shared→Prop}
theorem qJK{v:V}{more:List Value}{Q:Value→Shared→Prop}(I:Inv X pins σ H s)(e:H a=some (.dK kvs))(ry:RelV (kV k) u)(l:valV kvs k=some v)(hm:more=[]∨∃x,more=[x])
 (h:∀w' s',Inv X pins σ (upd H a (.dK (q53 kvs k))) s'→RelV v w'→Q w' s'):wpAny (model X.prog X.w) A (call (.builtin "dict.pop") (.ref a::u::more)) Q E s:=by(
obtain⟨z,hd,vs,rel,dd⟩:=q8N I.hok e
obtain⟨w',hw,rw'⟩:=RelO.some_of (v:=v) (o:=valueAt vs k) (by rw[←l];exact rel.val k)
have hp:(keyPart u).isSome=true:=by
 cases k with
 |inl i=>obtain⟨t,q⟩:=(show ∃t,u=Value.int i t from ry);subst q;rfl
 |inr x=>obtain⟨t,q⟩:=(show ∃t,u=Value.str x t from ry);subst q;rfl
have ha:argsOk "dict.pop" ⟨.ref a::u::more,[]⟩:=by
 rcases hm with q|⟨x,q⟩
 ·subst q;exact PySem.F.args_dict_pop_2 _ _
 subst q;exact PySem.F.args_dict_pop_3 _ _ _
refine nY lK dd.typeIs PySem.F.entry_dict_pop ha (meets_dict_pop_there (jQ X.prog X.w) a (q6V ry) more hm hp)
 ⟨vs,w',dd,by rw[←rel.length];exact z,hw,λh' dd' hs=>h w' _ ?_ rw'⟩
have he:∃q,h'.get? a=some q:=let⟨q,_,_,hq,_⟩:=dd';⟨q,hq⟩
exact q7D I (by rw[e];exact True.intro) hs he (qD2 (mD (qD1 kvs k) z) hd (rel.drop k) dd'))
end
noncomputable def NoSl(i:Expr):Prop:=∀ov iv,subscripted i false ov iv=operate [ov,iv] (getItem ov iv)
theorem qF3{prog:Program}{w:World}{A:Around}{E:Value→Shared→Prop}{s:Shared}{env:Env}{value slice:Expr}{pos:Pos}{T id:String}{Q:Value→Shared→Prop}
 (hl:typeLookup (.type T) "__getitem__"=pure (some (.builtin id))) (hs:NoSl slice)
 (h:wpAny (model prog w) A (eval value env) (λo s₁=>wpAny (model prog w) A (eval slice env) (λi s₂=>s₂.TypeIs o T∧wpAny (model prog w) A (getItem o i) Q E s₂) E s₁) E s):
 wpAny (model prog w) A (eval (.Subscript value slice pos) env) Q E s:=by(
refine Subscript_ (g8 h (λo s₁ h₁=>g8 h₁ (λi s₂ h₂=>?_) λ_ _ x=>x) λ_ _ x=>x)
obtain⟨hT,h₂⟩:=h₂
unfold subscriptTail
refine kB ?_
rw[getitemInPython_of_ne hT.not_modules]
refine kB (wpAny_specialOf hT hl ?_)
have fin:wpAny (model prog w) A (subscripted slice false o i) (λr s₃=>wpAny (model prog w) A (letTemporaryGo value o r >>= λ_=>pure r) Q E s₃) E s₂:=by rw[hs o i];exact wpAny_operating (g8 h₂ (λr s₃ h₃=>kB (wpAny_letTemporaryGo (mH h₃))) λ_ _ x=>x)
first
 |exact mH (kB fin)
 |exact kB (mH (kB fin))
 |exact kB fin)
theorem q8O{X:Cx}{pins:List (Addr×Obj)}{σ:St}{H:Hp}{s:Shared}{a:Addr}{y:V}{o:Option V}(I:Inv X pins σ H s)(g:DGet H a y o):s.TypeIs (.ref a) "dict":=by(
rcases g with⟨kvs,k,e,_,_⟩|⟨kvs,k,b,e,_,_,_⟩
·obtain⟨_,_,vs,_,dd⟩:=q6X I.hok e;exact dd.typeIs
obtain⟨_,_,xs,_,dd⟩:=q6Y I.hok e
exact dd.typeIs)
noncomputable def qJL(td ty:TE):TE:=λσ H Q=>td σ H λx H1=>ty σ H1 λy H2=>∃a v,x=.ref a∧DGet H2 a y (some v)∧Q v H2
noncomputable def tDIn(ty td:TE):TE:=λσ H Q=>ty σ H λy H1=>td σ H1 λx H2=>∃a o,x=.ref a∧DGet H2 a y o∧Q (.bl o.isSome) H2
noncomputable def qJM(td ty tv:TE):TS:=λD σ H=>tv σ H λv H1=>td σ H1 λx H2=>ty σ H2 λy H3=>∃a H4,x=.ref a∧DPut H3 a y v H4∧D.nx σ H4
section
variable{X:Cx}{o i e value:Expr}{pos pos' tpos:Pos}{td ty tv:TE}
theorem qAS(hu:X.A.units+1<cLine)(ho:PE X o td)(hi:PE X i ty)(hs:NoSl i):PE X (.Subscript o i pos) (qJL td ty):=by(
intro pins s σ H Q I h
refine qF3 PySem.F.slot_dict_getitem.lookup hs (thn (ho pins s σ H _ I h) λu s1 ⟨x,H1,I1,rx,q1⟩=>thn (hi pins s1 σ H1 _ I1 q1) λiv s2 hZ=>?_)
obtain⟨y,H2,I2,ry,a,v,ex,g,q2⟩:=hZ
subst ex
obtain rfl:u=Value.ref a:=rx
exact⟨q8O I2 g,qBX hu I2 g ry λw' s3 I3 rw'=>⟨v,H2,I3,rw',q2⟩⟩)
theorem qD3(hu:X.A.units+1<cLine)(hi:PE X i ty)(ho:PE X o td):PC X .In i o (tDIn ty td):=by(
intro pins s σ H Q I h
refine thn (hi pins s σ H _ I h) λiv s1 ⟨y,H1,I1,ry,q1⟩=>thn (ho pins s1 σ H1 _ I1 q1) λu s2 hZ=>?_
obtain⟨x,H2,I2,rx,a,ov,ex,g,q2⟩:=hZ
subst ex
obtain rfl:u=Value.ref a:=rx
exact d_in hu I2 g ry λs3 I3=>⟨.bl ov.isSome,H2,I3,rfl,q2⟩)
theorem qAT(hu:X.A.units+1<cLine)(ho:PE X o td)(hi:PE X i ty)(hv:PE X value tv)(hs:swapsWith value (some (.Subscript o i pos')) pos.line X.env=pure false):
 PS X (.Assign [.Subscript o i pos'] value pos) (qJM td ty tv):=by(
intro pins s σ H D I h
refine wpAny_Assign_Subscript (thn (hv pins s σ H _ I h) λr s1 ⟨v,H1,I1,rv,q1⟩=>thn (ho pins s1 σ H1 _ I1 q1) λu s2 ⟨x,H2,I2,rx,q2⟩=>thn (hi pins s2 σ H2 _ I2 q2) λiv s3 hZ=>?_) hs
obtain⟨y,H3,I3,ry,a,H4,ex,g,q3⟩:=hZ
subst ex
obtain rfl:u=Value.ref a:=rx
exact qBY hu I3 g ry rv λs4 I4=>⟨σ,H4,I4,q3⟩)
end
theorem qD4{P:Program}{w:World}{H:Hp}(h:Heap)(hb:sysModules<h.objs.size):jH P w H (h.push { cls:=.type "dict",data:=.dict #[] }) h.objs.size (.dK []):=⟨mQ _,d9.mpr (wG (mY hb)),[],.nil,Heap.DictOf.new h⟩
noncomputable def qHF:TE:=λ_ H Q=>∀p,H p=none→Q (.ref p) (upd H p (.dK []))
section
variable{X:Cx}{pos:Pos}
theorem q55:PE X (.Dict [] [] pos) qHF:=λpins s σ H Q I h=>wpAny_Dict_empty ⟨.ref s.heap.objs.size,_,I.laid (a:=s.heap.objs.size) (o:=.dK []) (t':=s.toks) (λ_ _ q=>kF _ q) (kJ _) (qD4 s.heap I.big),rfl,h _ (I.hok.fresh (kJ _))⟩
end
structure M1(X:Cx)(o:Expr)(m:Str)(apos:Pos)(e:Expr)(cpos:Pos):Prop where
base:attributeBase o m X.env (eval o X.env)=eval o X.env
few:((backTo cpos (starEach [e] X.env)).all (λx=>!x.1)&&(backToKw cpos (keywordEach [] X.env)).all (λx=>x.1.isSome)
 &&decide (([e]:List Expr).length+([]:List Keyword).length+(if([]:List Keyword).isEmpty then 0 else 1)<30))=true
line:(apos.endLine==cpos.line)=true
trees:backTo cpos (starEach [e] X.env)=[(false,eval e X.env)]
noncomputable def IsD(H:Hp)(a:Addr):Prop:=(∃kvs,Rd H a (.dK kvs))∨∃kvs,Rd H a (.dT kvs)
theorem qD5{X:Cx}{pins:List (Addr×Obj)}{σ:St}{H:Hp}{s:Shared}{a:Addr}(I:Inv X pins σ H s)(d:IsD H a):
 s.TypeIs (.ref a) "dict"∧(∀b,Value.ref a=.ref b→∃ob,s.heap.get? b=some ob∧ob.dict=none)∧(a==sysModules)=false:=by(
rcases d with⟨kvs,e⟩|⟨kvs,e⟩
·obtain⟨_,hd,vs,_,dd⟩:=q6X I.hok e;refine⟨dd.typeIs,λb q=>?_,hd⟩;cases q;obtain⟨ob,_,_,h1,h2,_⟩:=dd;exact⟨ob,h1,h2.2.1⟩
obtain⟨_,hd,xs,_,dd⟩:=q6Y I.hok e
refine⟨dd.typeIs,λb q=>?_,hd⟩
cases q
obtain⟨ob,_,_,h1,h2,_⟩:=dd
exact⟨ob,h1,h2.2.1⟩)
section
variable{X:Cx}{pins:List (Addr×Obj)}{σ:St}{H:Hp}{s:Shared}{a:Addr}{y d:V}{u r:Value}{o:Option V}{A:Around}{E:Value→Shared→Prop}
theorem qHG{Q:Value→Shared→Prop}(hu:A.units+1<cLine)(I:Inv X pins σ H s)(g:DGet H a y o)(ry:RelV y u)(h:∀w' s',Inv X pins σ H s'→RelV (o.getD .non) w'→Q w' s'):
 wpAny (model X.prog X.w) A (call (.builtin "dict.get") [.ref a,u]) Q E s:=by(
rcases g with⟨kvs,k,e,ey,l⟩|⟨kvs,k,b,e,ey,eb,l⟩
·subst ey;obtain⟨z,hd,vs,rel,dd⟩:=q6X I.hok e;refine nY pF dd.typeIs nZ (sZ _ _) (meets_dict_get (jQ X.prog X.w) a (q6V ry) hd) ⟨_,dd.mapOf,h _ _ (I.tok _) ?_⟩;rw[l];exact(rel.val k).getD rfl
subst ey
cases(show u=Value.ref b from ry)
obtain⟨z,hd,xs,rel,dd⟩:=q6Y I.hok e
refine nY pF dd.typeIs nZ (sZ _ _) (meetsH_dict_get (tupleKind (jQ X.prog X.w)) a b hd) ⟨cP hu,k,xs,q54 I.hok eb,dd,h _ _ (I.tok _) ?_⟩
rw[l]
exact(rel.val k).getD rfl)
end
noncomputable def qHH(td ty:TE):TE:=λσ H Q=>td σ H λx H1=>∃a,x=.ref a∧IsD H1 a∧ty σ H1 λy H2=>∃o,DGet H2 a y o∧Q (o.getD .non) H2
noncomputable def qHI(td ty:TE):TE:=λσ H Q=>td σ H λx H1=>∃a,x=.ref a∧IsD H1 a∧ty σ H1 λy H2=>∃kvs k v,H2 a=some (.dK kvs)∧y=kV k∧valV kvs k=some v∧Q v (upd H2 a (.dK (q53 kvs k)))
section
variable{X:Cx}{o e f:Expr}{apos cpos:Pos}{td ty tx:TE}
theorem qD6(hu:X.A.units+1<cLine)(ho:PE X o td)(he:PE X e ty)(m:M1 X o "get" apos e cpos):PE X (.Call (.Attribute o "get" apos) [e] [] cpos) (qHH td ty):=by(
intro pins s σ H Q I h
refine xR m.base m.few m.line cV pF PySem.F.type_dict_get (thn (ho pins s σ H _ I h) λu s1 hZ=>?_)
obtain⟨x,H1,I1,rx,a,ex,d,q1⟩:=hZ
subst ex
obtain rfl:u=Value.ref a:=rx
obtain⟨t1,t2,_⟩:=qD5 I1 d
refine⟨t1,t2,?_⟩
rw[m.trees]
refine wJ rfl (pS (sL (thn (he pins s1 σ H1 _ I1 q1) λiv s2 ⟨y,H2,I2,ry,ov,g,q2⟩=>sU ?_)))
exact qHG hu I2 g ry λw' s3 I3 rw'=>⟨_,H2,I3,rw',q2⟩)
theorem q8P(ho:PE X o td)(he:PE X e ty)(m:M1 X o "pop" apos e cpos):PE X (.Call (.Attribute o "pop" apos) [e] [] cpos) (qHI td ty):=by(
intro pins s σ H Q I h
refine xR m.base m.few m.line cV lK PySem.F.type_dict_pop (thn (ho pins s σ H _ I h) λu s1 hZ=>?_)
obtain⟨x,H1,I1,rx,a,ex,d,q1⟩:=hZ
subst ex
obtain rfl:u=Value.ref a:=rx
obtain⟨t1,t2,_⟩:=qD5 I1 d
refine⟨t1,t2,?_⟩
rw[m.trees]
refine wJ rfl (pS (sL (thn (he pins s1 σ H1 _ I1 q1) λiv s2 ⟨y,H2,I2,ry,kvs,k,v,ea,ey,l,q2⟩=>sU ?_)))
subst ey
exact qJK I2 ea ry l (.inl rfl) λw' s3 I3 rw'=>⟨v,_,I3,rw',q2⟩)
end
end L2
namespace Att
open PySem PySem.W PySem.Calls PyProof.Rows
theorem q4B{P:Params}{h:Heap}:∀(ns:List Int) (vs:List Value),WellAll P h vs (ns.map WData.int)→IntsAre vs ns:=by(
intro ns
induction ns with
|nil=>intro vs w;rw[bJ]at w;cases w;exact .nil
|cons n ns ih=>
 intro vs w;rw[mR]at w;cases w with
 |cons a b=>cases a;exact .cons _ _ (ih _ b))
theorem qBZ{l:OpenLaw}{n:Nat}(hn:l.most=some n){P:Params}{h:Heap}{args:List WData}{vals:List Value}
 (hpre:l.row.toRowW.claim.pre args=true) (hwl:WellAll P h vals args):
 ∃a vs ns,vals=[Value.ref a]∧args=[WData.list (ns.map WData.int)]∧h.get? a=some { cls:=.type "list",data:=.seq vs.toArray }∧IntsAre vs ns∧ns.length≤n:=by(
have hsh:WShape.hasAll [] args [.list .int]=true:=(pre_splitW hpre).1
have hc:l.pre.holds [] { args:=args } =true:=(pre_splitW hpre).2
obtain⟨d,r,rfl,h1,h2⟩:=hasAllW_cons hsh
obtain rfl:=hasAllW_nil h2
obtain⟨xs,rfl,h3⟩:=hasW_list h1
obtain⟨ns,rfl⟩:=items_int h3
have hlen:ns.length≤n:=by
 unfold OpenLaw.pre at hc;have h4:(WTm.not (.lt (.lit (.int (n:Int))) (.len (.arg 0)))).holds [] { args:=[.list (ns.map .int)] } =true:=by have h4:=(holds_andW hc).1;rw[hn]at h4;exact h4
 have h5:=condW_of h4 (w_not (w_lt w_lit (w_len_list (w_arg rfl))));rw[hX]at h5;refine Nat.le_of_not_lt λq=>?_;have q':(n:Int)<((ns.length:Nat):Int):=by lia
 first
  |(rw[hG q']at h5;exact absurd h5 (by decide))
  |(simp at h5;lia)
cases hwl with
|cons w1 w2=>
 cases w2;cases w1 with
 |list ho hall=>exact⟨_,_,ns,rfl,rfl,ho,q4B ns _ hall,hlen⟩)
theorem qC0(l:OpenLaw)(args:List WData):l.row.toRowW.claim.post args (.bool true) args=true:=postW_of (r:=l.row.toRowW) (X:=(true==true))
  (show WShape.has [] (.bool true) .bool=true by first|rfl|decide|simp[WShape.has,WShape.arms,WShape.armsAll])
  (show(WTm.eq .res (.lit (.bool true))).value [] { args:=args,res:=some (.bool true),after:=args } =some (.bool (true==true))from w_eq_bool (w_res rfl) w_lit) rfl
theorem attach_call{l:OpenLaw}{n:Nat}{q:Program}{loose:List Str}{XP:(Str→Option Value)→Heap→Prop}{YP:World→Heap→Prop}{d:DefRec}
 (hn:l.most=some n) (hdf:d.params.defaults=[])
 (call:∀(w:World) (s₀ s₁:Shared) (mg mb:Str→Option Value) (fa:Addr) (o:Obj) (pm cd doc:Value) (a:Addr) (vs:List Value) (ns:List Int),Ground q loose [] XP w s₀ mg mb s₁.heap→YP w s₁.heap→s₁.heap.get? fa=some o→o.data=.func (docDef d.name d.params d.body d.scope pm cd doc)→s₁.heap.CodeRec cd d.name→mg d.name=some (.ref fa)→s₁.heap.get? a=some { cls:=.type "list",data:=.seq vs.toArray }→IntsAre vs ns→ns.length≤n→s₁.gens=#[]→codeAny (model l.prog w) callerA (.call (.ref fa) ⟨[.ref a],[]⟩) (λr s'=>r=.ok (.ret (.bool true))∧OldK s₁.heap s'.heap∧s'.os=s₁.os∧AllBare s'.gens) s₁):
 WalkO q loose XP YP l.row.toRowW d [] (λf vs=>PySem.call f vs):=by(
intro w s₀ s₁ mg mb G Y fa o pm cd doc dV kV ho hd hcd hD hmg hg args vals as hpre hlay hrd hwl hlo
obtain rfl:dV=.none:=Dflts.none hD hdf
obtain rfl:kV=.none:=Dflts.noKw hD
obtain⟨a,vs,ns,rfl,rfl,hobj,hints,hlen⟩:=qBZ hn hpre hwl
refine enter_call (c7 (call w s₀ s₁ mg mb fa o pm cd doc a vs ns G Y ho (fd_plain hd) hcd hmg hobj hints hlen hg) λr s' hq=>?_)
obtain⟨rfl,h2,h3,h4⟩:=hq
exact⟨.inl ⟨.bool true,.bool true,[],rfl,λ_=>rfl,.bool true,qC0 l _,λ_=>⟨List.Pairwise.nil,λ_ hm=>(nomatch hm)⟩⟩,h2,h3,h4⟩)
end Att
namespace L2
open PySem PySem.Spec PyProof.Rows
theorem q6Z:∀{vs:List Value} {ns:List Int},IntsAre vs ns→Vals (ns.map V.int) vs
|_,_,.nil=>.nil
|_,_,.cons n t h=>.cons ⟨t,rfl⟩ (q6Z h)
noncomputable def qM(s:Stmt)(j:Nat):Stmt:=match s with
| .ClassDef _ _ _ body _ _ _ _ _ _ _=>body.getD j (.Pass ⟨0,0,0,0⟩)
|_=>.Pass ⟨0,0,0,0⟩
noncomputable def yF(s:Stmt):Arguments:=match s with
| .FunctionDef _ a _ _ _ _ _ _ _ _=>a
|_=>{ posonlyargs:=[],args:=[],vararg:=none,kwonlyargs:=[],kw_defaults:=[],kwarg:=none,defaults:=[] }
noncomputable def jW(s:Stmt):List Stmt:=match s with
| .FunctionDef _ _ b _ _ _ _ _ _ _=>b
|_=>[]
noncomputable def qF(s:Stmt):Scope:=match s with
| .FunctionDef _ _ _ _ _ _ sc _ _ _=>sc
|_=>{ kind:=.function,names:=[],isGenerator:=false,isCoroutine:=false }
noncomputable abbrev CX0:CXT:=λ_ _ _ _ _ _=>False
noncomputable abbrev E0:XK:=λ_ _ _=>False
theorem qK{X:Cx}:q09 CX0 X E0:=λ_ _ _ _ _ _ _ h=>h.elim
theorem q38{A:Around}{k:Nat}(hr:Room k A):A.units+1<cLine:=cQ (Nat.add_le_add_left (by decide:1≤64) _) hr.units
section
variable{X:Cx}
theorem pv(i:Nat){x:Str}{pos:Pos}(hN:X.N[i]?=some x:=by rfl)(hv:Vis X.env.scope x:=by first|exact Or.inl rfl|exact Or.inr (Or.inl rfl)|exact Or.inr (Or.inr rfl))(hd:(x==("__debug__":Str))=false:=by decide)
 (hcd:(x==("__classdict__":Str))=false:=by decide):PE X (.Name x pos) (tVar i):=qH0 hN hv hd hcd
end
theorem iteF{A B:Prop}(h:B):if false=true then A else B:=by rw[hC kU];exact h
theorem iteT{A B:Prop}(h:A):if true=true then A else B:=by rw[hU rfl];exact h
theorem ite2{c A B:Prop}[Decidable c](h1:c→A)(h2:¬c→B):if c then A else B:=by(
by_cases h:c
·rw[hU h];exact h1 h
rw[hC h]
exact h2 h)
noncomputable def Same(H H':Hp):Prop:=∀b o,H b=some o→H' b=some o
theorem Same.refl(H:Hp):Same H H:=λ_ _ h=>h
theorem Same.trans{H H1 H2:Hp}(a:Same H H1)(b:Same H1 H2):Same H H2:=λc o h=>b c o (a c o h)
theorem Same.free{H H':Hp}(e:Same H H'){l:Addr}(h:H' l=Option.none):H l=Option.none:=by(
cases q:H l with
|none=>rfl
|some o=>rw[e l o q]at h;cases h)
theorem Same.seq{K:PySem.W.Frag}{H H':Hp}{a:Addr}{xs:List V}(e:Same H H')(h:SqL K H a xs):SqL K H' a xs:=by(
rcases h with(h|⟨o,h⟩)|h
·exact .inl (.inl (e _ _ h))
·exact .inl (.inr ⟨o,e _ _ h⟩)
exact .inr h)
section
variable{X:Cx}
theorem q0Z:PGet X (rIxL X.K):=by(
intro pins s σ H o i ov iv Q I ro ri h
obtain⟨p,xs,k,z,rfl,rfl,hq,he,q⟩:=h
cases ro
obtain⟨t,rfl⟩:=ri
obtain⟨its,r,pl,hz⟩:=I.list hq
obtain⟨j,h1,h2,h3,h4,h5⟩:=q7B he
obtain⟨w,ew,rw'⟩:=r.get h2
have hl:=r.length
have hn:=q50
have fin:EP X pins σ Q w s:=⟨z,H,I,rw',q⟩
by_cases h0:0≤k
·have hj:k.toNat=j:=by rw[lQ h0 h5]at h1;exact kW h1
 exact wpAny_getItem_list pl.isList h0 (by lia) (by rw[hj];simpa using ew) fin
have hj:(k+(its.toArray.size:Int)).toNat=j:=by rw[nU (by lia) h4]at h1;rw[mC,←hl];exact kW h1
exact nX pl.isList (by lia) (by rw[mC]<;>lia) (by lia) (by rw[hj];simpa using ew) fin)
end
noncomputable def isW:V→Bool
| .int _=>true
|_=>false
noncomputable def isI:V→Bool
| .int _=>true
| .bl _=>true
|_=>false
noncomputable def isB:V→Bool
| .bl _=>true
|_=>false
noncomputable def isS:V→Bool
| .str _=>true
|_=>false
inductive Knd(H:Hp):V→Prop where
|non:Knd H .non
|bl (b:Bool):Knd H (.bl b)
|int (i:Int):Knd H (.int i)
|str (x:Str):Knd H (.str x)
|lst {a:Addr} {xs:List V} (e:H a=some (.lst xs)):Knd H (.ref a)
|tup {a:Addr} {xs:List V} (e:H a=some (.tup xs)):Knd H (.ref a)
section
variable{K:PySem.W.Frag}{H:Hp}{x:V}
theorem qHJ:PySem.W.kitOne K (.type "NoneType") (.type "int")=some false:=by kernel_rfl
theorem qHK:PySem.W.kitOne K (.type "bool") (.type "int")=some true:=by kernel_rfl
theorem qHL:PySem.W.kitOne K (.type "int") (.type "int")=some true:=by kernel_rfl
theorem qHM:PySem.W.kitOne K (.type "str") (.type "int")=some false:=by kernel_rfl
theorem qHN:PySem.W.kitOne K (.type "list") (.type "int")=some false:=by kernel_rfl
theorem qHO:PySem.W.kitOne K (.type "tuple") (.type "int")=some false:=by kernel_rfl
theorem qHP:PySem.W.kitOne K (.type "NoneType") (.type "bool")=some false:=by kernel_rfl
theorem qHQ:PySem.W.kitOne K (.type "bool") (.type "bool")=some true:=by kernel_rfl
theorem qHR:PySem.W.kitOne K (.type "int") (.type "bool")=some false:=by kernel_rfl
theorem qHS:PySem.W.kitOne K (.type "str") (.type "bool")=some false:=by kernel_rfl
theorem qHT:PySem.W.kitOne K (.type "list") (.type "bool")=some false:=by kernel_rfl
theorem qHU:PySem.W.kitOne K (.type "tuple") (.type "bool")=some false:=by kernel_rfl
theorem qHV:PySem.W.kitOne K (.type "NoneType") (.type "str")=some false:=by kernel_rfl
theorem qHW:PySem.W.kitOne K (.type "bool") (.type "str")=some false:=by kernel_rfl
theorem qHX:PySem.W.kitOne K (.type "int") (.type "str")=some false:=by kernel_rfl
theorem qHY:PySem.W.kitOne K (.type "str") (.type "str")=some true:=by kernel_rfl
theorem qHZ:PySem.W.kitOne K (.type "list") (.type "str")=some false:=by kernel_rfl
theorem qI0:PySem.W.kitOne K (.type "tuple") (.type "str")=some false:=by kernel_rfl
theorem Knd.ty(k:Knd H x):∃t,TyOf K H x t∧PySem.W.kitOne K t (.type "int")=some (isI x)∧PySem.W.kitOne K t (.type "bool")=some (isB x)∧PySem.W.kitOne K t (.type "str")=some (isS x):=by(
cases k with
|non=>exact⟨_,.non,qHJ,qHP,qHV⟩
|bl b=>exact⟨_,.bl b,qHK,qHQ,qHW⟩
|int i=>exact⟨_,.int i,qHL,qHR,qHX⟩
|str y=>exact⟨_,.str y,qHM,qHS,qHY⟩
|lst e=>exact⟨_,.lst e,qHN,qHT,qHZ⟩
|tup e=>exact⟨_,.tup e,qHO,qHU,qI0⟩)
theorem qI1(x:V):(if isI x=true then !isB x else false)=isW x:=by cases x<;>rfl
end
noncomputable def jX(ns:List Int)(k:Int):Int:=ns.getD k.toNat 0
theorem qC1{ns:List Int}{k:Int}(h0:0≤k)(h:k<ns.length):atI (ns.map V.int) k=some (.int (jX ns k)):=by(
obtain⟨j,rfl⟩:=wE h0
refine uH ?_
have hj:j<ns.length:=by lia
unfold jX
simp[hj])
theorem q9X{ns:List Int}{k:Int}(h0:0≤k)(h:¬k<ns.length):jX ns k=0:=by unfold jX;rw[kN,rM (by lia)];rfl
theorem Same.upd{H:Hp}{p:Addr}{o:HO}(h:H p=none):Same H (upd H p o):=λb u e=>by rw[qC (qI e h)];exact e
noncomputable abbrev NewO(H:Hp)(o:HO)(Q:VK):Prop:=∀p H',H p=none→Same H H'→H' p=some o→Q (.ref p) H'
theorem NewO.at{H:Hp}{o:HO}{Q:VK}(q:NewO H o Q)(p:Addr)(n:H p=none):Q (.ref p) (upd H p o):=q p _ n (Same.upd n) qH
section
variable{X:Cx}{e:Expr}{es:List Expr}{t:TA}{pos:Pos}
noncomputable def qJN(t:TA):TE:=λσ H Q=>t σ H λxs H1=>xs.length≤sizeLine∧NewO H1 (.tup xs) Q
noncomputable def qJO(t:TA):TE:=λσ H Q=>t σ H λxs H1=>xs.length≤sizeLine∧NewO H1 (.lst xs) Q
theorem vW{x1}(h:PA X es t):PE X (.Tuple es x1 pos) (qJN t):=by(
intro pins s σ H Q I hq
refine wpAny_Tuple_spliced (thn (h pos pins s σ H _ I hq) λus s1 ⟨xs,H1,I1,r,z,q⟩=>⟨by rw[←r.length];exact z,?_⟩)
have hf:H1 s1.heap.objs.size=none:=I1.hok.fresh (kJ _)
refine⟨.ref s1.heap.objs.size,upd H1 s1.heap.objs.size (.tup xs),I1.laid (t':=s1.toks) (λb u e=>kF _ e) (kJ _) ?_,rfl,q.at _ hf⟩
exact⟨z,us,r,⟨_,mU _ rfl,rfl,_,rfl⟩⟩)
theorem y7(h:PA X es t):PE X (.List es pos) (qJO t):=by(
intro pins s σ H Q I hq
refine wpAny_List_spliced (thn (h pos pins s σ H _ I hq) λus s1 ⟨xs,H1,I1,r,z,q⟩=>⟨by rw[←r.length];exact z,?_⟩)
have hf:H1 s1.heap.objs.size=none:=I1.hok.fresh (kJ _)
refine⟨.ref s1.heap.objs.size,upd H1 s1.heap.objs.size (.lst xs),I1.laid (t':=s1.toks) (λb u e=>kF _ e) (kJ _) ?_,rfl,q.at _ hf⟩
exact⟨z,us,0,r,mU _ rfl⟩)
noncomputable def qJP:R2:=λx y H Q=>∃l k v,x=.ref l∧y=.int k∧H l=some (.lst [v])∧0≤k∧k≤100000∧NewO H (.lst (List.replicate k.toNat v)) Q
theorem q8Q{α:Type}(v:α):∀k:Nat,(List.replicate k [v]).flatten=List.replicate k v
|0=>rfl
|k+1=>by rw[dP,wX,q8Q v k,dP];rfl
theorem q0B:OpR X (binaryOp .Mult) qJP:=by(
intro pins s σ H x y v u Q I rx ry hZ
obtain⟨l,k,z,e1,e2,h1,h2,h3,q⟩:=hZ
refine qHE pins s σ H x y v u Q I rx ry ⟨l,k,[z],e1,e2,h1,by lia,by lia,?_,?_⟩
·rw[gL,gG];lia
rw[q8Q]
exact q.at)
theorem q2F:q2D X (.type "list") (λxs H Q=>∃p ys,xs=[.ref p]∧(SqL X.K H p ys∨SqT X.K H p ys)∧NewO H (.lst ys) Q):=by intro pins s σ H xs us Q I r hZ;obtain⟨p,ys,e,h,q⟩:=hZ;exact q7C pins s σ H xs us Q I r ⟨p,ys,e,h,q.at⟩
end
noncomputable def qF4:Sp:=λvs H Q _=>∃x,vs=[x]∧Knd H x∧Q (.bl (isW x)) H
noncomputable def inB(x:V)(lo hi:Int):Bool:=match x with
| .int i=>decide (lo≤i)&&decide (i≤hi)
|_=>false
noncomputable def qD7:Sp:=λvs H Q _=>∃x lo hi,vs=[x,.int lo,.int hi]∧Knd H x∧Q (.bl (inB x lo hi)) H
noncomputable def qI2(K:PySem.W.Frag):Sp:=λvs H Q _=>∃a ns k,vs=[.ref a,.int k]∧SqL K H a (ns.map V.int)∧0≤k∧Q (.int (jX ns k)) H
end L2
namespace L2
open PySem
theorem lt2{vs:Array Value}{v:Value}(h:vs[2]?=some v):1<vs.size:=Nat.lt_of_succ_lt (cC.mp h).1
noncomputable def ExO(h:Heap)(e:Addr)(C:Value)(od:Option Addr)(vs:Array Value):Prop:=∃oe,h.get? e=some oe∧oe.cls=C∧oe.dict=od∧oe.data=.fields vs∧vs[2]?=some .none
noncomputable def TrO(h:Heap)(e T:Addr)(vs:Array Value)(f:Value):Prop:=vs[1]?=some (.ref T)∧T≠e∧∃oT ts,h.get? T=some oT∧oT.data=.fields ts∧ts[3]?=some f
noncomputable def Air(L:Addr)(h:Heap)(e:Addr)(C:Value)(od:Option Addr):Option Addr→Prop
|none=>∃vs,ExO h e C od vs∧vs[1]?=some .none
|some T=>∃vs f,ExO h e C od vs∧TrO h e T vs f∧(f=.none∨f=rawInt L)
noncomputable def Held(f:Value)(h:Heap)(e T:Addr)(C:Value)(od:Option Addr):Prop:=∃vs,ExO h e C od vs∧TrO h e T vs f
structure Chg(fr rs:List Addr)(h h':Heap):Prop where
keep:∀b o,b∉fr→b∉rs→h.get? b=some o→h'.get? b=some o
slot:∀b o,b∉rs→h.get? b=some o→∃sl,h'.get? b=some { o with slots:=sl }
there:∀b o,h.get? b=some o→∃o',h'.get? b=some o'
theorem Chg.refl{fr rs:List Addr}{h:Heap}:Chg fr rs h h:=⟨λ_ _ _ _ e=>e,λ_ o _ e=>⟨o.slots,e⟩,λ_ o e=>⟨o,e⟩⟩
theorem Chg.trans{fr rs:List Addr}{h h1 h2:Heap}(x:Chg fr rs h h1)(y:Chg fr rs h1 h2):Chg fr rs h h2:=⟨λb o f r e=>y.keep b o f r (x.keep b o f r e),λb o r e=>let⟨_,e1⟩:=x.slot b o r e;let⟨sl,e2⟩:=y.slot b _ r e1;⟨sl,e2⟩,λb o e=>let⟨_,e1⟩:=x.there b o e;y.there b _ e1⟩
theorem Chg.fresh{fr rs rs':List Addr}{h h1 h2:Heap}(x:Chg fr rs h h1)(y:Chg fr rs' h1 h2)(n:∀b∈rs',b∈rs∨h.get? b=none):Chg fr rs h h2:=by
 have m:∀b o,b∉rs→h.get? b=some o→b∉rs':=λb o r e z=>(n b z).elim r λq=>by rw[q]at e;cases e
 exact⟨λb o f r e=>y.keep b o f (m b o r e) (x.keep b o f r e),λb o r e=>let⟨_,e1⟩:=x.slot b o r e;let⟨sl,e2⟩:=y.slot b _ (m b o r e) e1;⟨sl,e2⟩,λb o e=>let⟨_,e1⟩:=x.there b o e;y.there b _ e1⟩
theorem Chg.slots{fr rs:List Addr}{h h':Heap}(x:Heap.SlotsOnly fr h h'):Chg fr rs h h':=⟨λb o f _ e=>(x.2.1 b f).trans e,λb o _ e=>x.2.2 b o e,λb o e=>let⟨sl,q⟩:=x.2.2 b o e;⟨_,q⟩⟩
theorem Chg.upd{fr rs:List Addr}{h:Heap}{a:Addr}{f:Obj→Obj}(ha:a∈rs)(hf:∀o,h.get? a=some o→(f o).isFreed=false):Chg fr rs h (h.update a f):=by(
have k:∀b o,b∉rs→h.get? b=some o→(h.update a f).get? b=some o:=λb o r e=>by exact(mW h f (λ(q:a=b)=>r (q▸ha))).trans e
refine⟨λb o _ r e=>k b o r e,λb o r e=>⟨o.slots,k b o r e⟩,λb o e=>?_⟩
by_cases q:b=a
·subst q;exact⟨_,wT f e (hf o e)⟩
exact⟨o,by rw[mW h f (wG q)];exact e⟩)
theorem Chg.push{fr rs:List Addr}{h:Heap}{o:Obj}:Chg fr rs h (h.push o):=⟨λb u _ _ e=>kF _ e,λb u _ e=>⟨u.slots,kF _ e⟩,λb u e=>⟨u,kF _ e⟩⟩
theorem qC2(o:Obj)(f:Array Value→Array Value):(o.mapFields f).dict=o.dict:=by obtain⟨c,d,dt,sl⟩:=o;cases dt<;>rfl
theorem ExO.set{h:Heap}{e:Addr}{C:Value}{od:Option Addr}{vs:Array Value}(x:ExO h e C od vs)(i:Nat)(v:Value)(hi:i≠2:=by decide):ExO (h.update e (Obj.mapFields (·.setIfInBounds i v))) e C od (vs.setIfInBounds i v):=by obtain⟨oe,h1,h2,h3,h4,h5⟩:=x;have hd:=cR h4 (·.setIfInBounds i v);exact⟨_,wT _ h1 (rN hd),(Obj.cls_mapFields _ _).trans h2,(qC2 _ _).trans h3,hd,(Array.getElem?_setIfInBounds_ne hi).trans h5⟩
theorem ExO.of{h h':Heap}{e:Addr}{C:Value}{od:Option Addr}{vs:Array Value}(x:ExO h e C od vs)(k:∀o,h.get? e=some o→h'.get? e=some o):ExO h' e C od vs:=let⟨oe,h1,r⟩:=x;⟨oe,k _ h1,r⟩
section
variable{M:Model}{A:Around}{E:Value→Shared→Prop}{s:Shared}{env:Env}{outer:List Env}{L e T:Addr}{C:Value}{od:Option Addr}{base:Heap}
theorem ExO.nofr{h:Heap}{l:List Env}{vs:Array Value}(x:ExO h e C od vs)(hl:h.FunFrames base l):e∉l.filterMap (·.frame):=λhm=>by(
obtain⟨_,o,ho,hn⟩:=hl.mem hm
obtain⟨oe,h1,_,_,h4,_⟩:=x
rw[h1]at ho
cases ho
exact hn _ h4)
theorem q8R{head:Value}{hn:Bool}{vs:Array Value}{Q:Unit→Shared→Prop}(hfr:A.frames=some (env::outer))(hl:s.heap.FunFrames base (env::outer))(hf:env.frame=some L)(x:ExO s.heap e C od vs)
 (q:∀h' T,Chg ((env::outer).filterMap (·.frame)) [e] s.heap h'→Held (rawInt L) h' e T C od→s.heap.objs.size≤T→Q () { s with heap:=h' }):
 wpAny M A (do let a←frameOf env;let pl←entryPlaceOf L hn;let b←EntryCells.newEntry head a .none (rawInt L) .none pl;setField (.ref e) 1 b) Q E s:=by(
have ne:=x.nofr hl
refine kB (wpAny_frameOf_fun hfr hl hf λh1 so=>kB (wpAny_entryPlaceOf λpl hp=>?_))
unfold EntryCells.newEntry newFields
refine kB (xS ?_ (hp.sizeOk5 _ _ _ _ _))
have x1:ExO h1 e C od vs:=x.of λo z=>(so.2.1 e ne).trans z
have x2:=x1.of (h':=h1.push _) λo z=>kF { cls:=.type "traceback",dict:=none,data:=.fields ([head,.ref L,.none,rawInt L,.none]++(if pl.isEmpty then List.replicate 6 Value.none else pl)).toArray } z
obtain⟨oe,a1,a2,a3,a4,a5⟩:=id x2
refine lR a1 a4 (lt2 a5) ?_
have hlt:e<h1.objs.size:=let⟨_,z,_⟩:=x1;mB z
have fresh:s.heap.objs.size≤h1.objs.size:=cZ so.1.symm
refine q _ h1.objs.size (((Chg.slots so).trans Chg.push).trans (Chg.upd (kC.mpr rfl) λo z=>?_)) ⟨_,x2.set 1 _,?_,rT hlt,{ cls:=.type "traceback",dict:=none,data:=.fields ([head,.ref L,.none,rawInt L,.none]++(if pl.isEmpty then List.replicate 6 Value.none else pl)).toArray },_,?_,rfl,?_⟩ fresh
·rw[a1]at z;cases z;exact rN (cR a4 _)
·simp[lt2 a5]
·rw[mW _ _ (mY hlt)];exact mU h1 rfl
first|(simp;done)|(rcases hp with rfl|⟨_,_,_,_,_,_,_,rfl⟩<;>simp))
theorem qAU{tr:Option Addr}{Q:Unit→Shared→Prop}(hfr:A.frames=some (env::outer))(hl:s.heap.FunFrames base (env::outer))(hf:env.frame=some L)(x:Air L s.heap e C od tr)
 (q:∀h' T,Chg ((env::outer).filterMap (·.frame)) (e::tr.toList) s.heap h'→Held (rawInt L) h' e T C od→(T∈tr∨s.heap.objs.size≤T)→Q () { s with heap:=h' }):
 wpAny M A (noteFrame (.ref e) env) Q E s:=by(
unfold noteFrame
simp only[hf]
cases tr with
|none=>obtain⟨vs,x,h1⟩:=x;obtain⟨oe,a1,a2,a3,a4,a5⟩:=id x;refine kB (sV a1 a4 h1 ?_);rw[hC (by decide)];exact q8R hfr hl hf x λh' T c hd n=>q h' T c hd (.inr n)
|some T=>
 obtain⟨vs,f,x,⟨t1,t2,oT,ts,t3,t4,t5⟩,hfl⟩:=x;obtain⟨oe,a1,a2,a3,a4,a5⟩:=id x;refine kB (sV a1 a4 t1 ?_);rw[hU (by simp)];refine kB (sV t3 t4 t5 ?_);rcases hfl with rfl|rfl
 ·rw[hC (by simp[rawInt])];refine kB (lR t3 t4 (cC.mp t5).1 ?_);have k:∀b o,b≠T→s.heap.get? b=some o→(s.heap.update T (Obj.mapFields (·.setIfInBounds 3 Value.none))).get? b=some o:=λb o n z=>(mW _ _ (wG n)).trans z;have hl2:(s.heap.update T (Obj.mapFields (·.setIfInBounds 3 Value.none))).FunFrames base (env::outer):=hl.of_keeps λb o z nf=>⟨o,k b o (λw=>by subst w;rw[t3]at z;cases z;exact nf _ t4) z,rfl⟩;refine q8R (s:={ s with heap:=s.heap.update T (Obj.mapFields (·.setIfInBounds 3 Value.none)) }) hfr hl2 hf (x.of λo z=>k e o (wG t2) z) λh' T' c hd n=>q h' T' ?_ hd ?_
  ·refine(Chg.upd (a:=T) (by simp) λo z=>?_).fresh c λb hb=>.inl ?_
   ·rw[t3]at z;cases z;exact rN (cR t4 _)
   rw[kC.mp hb];exact kZ
  exact .inr (mD (cZ (Heap.size_after_update ..).symm) n)
 rw[hU (by simp)];exact mH (q _ T .refl ⟨vs,x,t1,t2,oT,ts,t3,t4,t5⟩ (.inl rfl)))
theorem q1W{f:Value}{fr:Option Addr}{Q:Unit→Shared→Prop}(x:Held f s.heap e T C od)
 (q:∀h',Chg [] [T] s.heap h'→Held (fr.elim .none λf=>rawInt f) h' e T C od→Q () { s with heap:=h' }):wpAny M A (setFlight (.ref e) fr) Q E s:=by(
obtain⟨vs,x,t1,t2,oT,ts,t3,t4,t5⟩:=x
obtain⟨oe,a1,a2,a3,a4,a5⟩:=id x
have hz:=(cC.mp t5).1
unfold setFlight
refine kB (sV a1 a4 t1 ?_)
rw[hU (by simp)]
have hd:=cR t4 (·.setIfInBounds 3 (fr.elim .none λf=>rawInt f))
refine lR t3 t4 hz (q _ (Chg.upd (by simp) λo z=>?_) ⟨vs,x.of λo z=>?_,t1,t2,_,_,wT _ t3 (rN hd),hd,by simp[hz]⟩)
·rw[t3]at z;cases z;exact rN hd
exact(mW _ _ t2).trans z)
theorem Held.air{f:Value}{h:Heap}(x:Held f h e T C od)(hf:f=.none∨f=rawInt L):Air L h e C od (some T):=let⟨vs,a,b⟩:=x;⟨vs,f,a,b,hf⟩
theorem qD8{tr:Option Addr}{Q:Unit→Shared→Prop}(hfr:A.frames=some (env::outer))(hl:s.heap.FunFrames base (env::outer))(hf:env.frame=some L)(x:Air L s.heap e C od tr)
 (q:∀h' T,Chg ((env::outer).filterMap (·.frame)) (e::tr.toList) s.heap h'→Held .none h' e T C od→(T∈tr∨s.heap.objs.size≤T)→Q () { s with heap:=h' }):wpAny M A (leaving env (.ref e)) Q E s:=by(
unfold leaving
refine kB (qAU hfr hl hf x λh' T c hd n=>q1W hd λh2 c2 hd2=>q h2 T ?_ hd2 n)
refine c.fresh (rs':=[T]) ⟨λb o _ r z=>c2.keep b o (by simp) r z,c2.slot,c2.there⟩ λb hb=>?_
rw[kC.mp hb]
exact n.imp (λz=>hV _ (by cases tr with|none=>cases z|some t=>cases z;exact kC.mpr rfl)) pR)
end
end L2
namespace L2
open PySem PySem.Spec PyProof.Rows
section
variable{P:Program}{w:World}{H:Hp}{h h':Heap}{a:Addr}{o:HO}
theorem jH.there(x:jH P w H h a o):∃ob,h.get? a=some ob:=by(
cases o with
|lst xs=>obtain⟨_,_,_,_,e⟩:=x;exact⟨_,e⟩
|tup xs=>obtain⟨_,_,_,_,e,_⟩:=x;exact⟨_,e⟩
|dK kvs=>obtain⟨_,_,_,_,o,_,_,e,_⟩:=x;exact⟨_,e⟩
|dT kvs=>obtain⟨_,_,_,_,o,_,_,e,_⟩:=x;exact⟨_,e⟩
|set S n=>obtain⟨o,_,_,_,e,_⟩:=x;exact⟨_,e⟩
|ins C dx fs=>obtain⟨_,_,_,e,_⟩:=x;exact⟨_,e⟩
|own y=>exact x
|xd fs=>obtain⟨_,⟨_,_,_,e,_⟩,_⟩:=x;exact⟨_,e⟩
|rng lo hi=>obtain⟨_,_,_,e⟩:=x;exact⟨_,e⟩
|frz ob u=>exact⟨_,x.1⟩
|tbl ps=>exact⟨_,show h.get? a=some _ from x⟩
|met f y=>exact⟨_,show h.get? a=some _ from x⟩
|ext φ=>exact x.2.1)
theorem HOk.free(x:HOk P w H h)(e:h.get? a=none):H a=none:=by(
cases q:H a with
|none=>rfl
|some o=>obtain⟨_,z⟩:=(x a o q).there;rw[e]at z;cases z)
theorem HOk.chg{fr rs:List Addr}(x:HOk P w H h)(c:Chg fr rs h h')(hf:∀b∈fr,H b=none)(hr:∀b∈rs,H b=none):HOk P w H h':=by(
intro a o e
refine(x a o e).stay (λb u hb z=>?_) (λ_ q=>q) λ_ _ q=>q
have n:H b≠none:=by
 rcases hb with rfl|q
 ·rw[e];intro y;cases y
 rw[q];intro y;cases y
exact c.keep b u (λm=>n (hf b m)) (λm=>n (hr b m)) z)
end
noncomputable def Recs(h:Heap)(rs:List Addr):Prop:=∀b∈rs,∃o vs,h.get? b=some o∧o.data=.fields vs
theorem Air.recs{L e:Addr}{h:Heap}{C:Value}{od tr:Option Addr}(x:Air L h e C od tr):Recs h (e::tr.toList):=by(
intro b hb
cases tr with
|none=>
 obtain⟨vs,⟨oe,a1,_,_,a4,_⟩,_⟩:=x;have e':b=e:=by simpa using hb
 subst e';exact⟨_,_,a1,a4⟩
|some T=>
 obtain⟨vs,f,⟨oe,a1,_,_,a4,_⟩,⟨_,_,oT,ts,t3,t4,_⟩,_⟩:=x;have e':b=e∨b=T:=by simpa using hb
 rcases e' with rfl|rfl
 ·exact⟨_,_,a1,a4⟩
 exact⟨_,_,t3,t4⟩)
noncomputable def Ours(X:Cx)(pins:List (Addr×Obj))(H:Hp)(rs:List Addr):Prop:=∀b∈rs,(X.s₀.heap.get? b=none∨b∈X.ex)∧H b=none∧∀p∈X.pn++pins,p.1≠b
section
variable{X:Cx}{pins:List (Addr×Obj)}{σ:St}{H:Hp}{s:Shared}{h':Heap}{rs:List Addr}
theorem Inv.chg{t':Nat}(I:Inv X pins σ H s)(c:Chg (frs X.stack) rs s.heap h')(o:Ours X pins H rs)(rc:Recs s.heap rs):Inv X pins σ H { s with heap:=h',toks:=t' }:=by(
obtain⟨m,hn,hv⟩:=I.loc
have nl:X.env.locals∉rs:=λz=>by obtain⟨ob,vs,e,d⟩:=rc _ z;obtain⟨o',es,ep,ho,hd,_⟩:=hn;rw[e]at ho;cases ho;rw[d]at hd;cases hd
have nc:∀c v,s.heap.IsCell c v→c∉rs:=λc v q z=>by obtain⟨ob,vs,e,d⟩:=rc _ z;obtain⟨o',ho,hd⟩:=q;rw[e]at ho;cases ho;rw[d]at hd;cases hd
have cellk:∀c v,s.heap.IsCell c v→h'.IsCell c v:=λa v q=>by have n:=nc a v q;obtain⟨o',ho,hd⟩:=q;obtain⟨sl,z⟩:=c.slot a o' n ho;exact⟨_,z,hd⟩
have old:∀b ob,X.s₀.heap.get? b=some ob→b∉X.ex→b∉rs:=λb ob q ne z=>by
 rcases(o b z).1 with y|y
 ·rw[q]at y;cases y
 exact ne y
have ns':h'.Ns X.env.locals m:=by obtain⟨o',es,ep,ho,r⟩:=hn;obtain⟨sl,z⟩:=c.slot _ o' nl ho;exact⟨_,es,ep,z,r⟩
refine⟨I.ok,I.os,I.bare,⟨λb ob q n nf ne=>?_,λb ob q n hf ne=>?_,I.base.free,λb ob q ne=>?_,I.base.tups,I.base.frzs,I.base.tbls⟩,⟨m,ns',λi x v e1 e2 e3=>?_⟩,λx a e=>?_,I.free,I.freeC,λp hp=>?_,I.hok.chg c I.stkFree λb hb=>(o b hb).2.1,I.len⟩
·refine c.keep b ob (λz=>?_) (old b ob q ne) (I.base.keep b ob q n nf ne);rcases kI.mp (I.stkSub b z)with rfl|y
 ·exact absurd (mB q) (n8.mpr I.ok.above)
 exact nf y
·obtain⟨sl,z⟩:=I.base.slot b ob q n hf ne;obtain⟨sl',z'⟩:=c.slot b _ (old b ob q ne) z;exact⟨sl',z'⟩
·obtain⟨o',z⟩:=I.base.there b ob q ne;exact c.there b o' z
·obtain⟨u,r,lk⟩:=hv i x v e1 e2 e3;refine⟨u,r,lk.imp id λ⟨k,cc,l,q⟩=>⟨k,cc,l,cellk _ _ q⟩⟩
·obtain⟨v,q⟩:=I.cell x a e;exact⟨v,cellk _ _ q⟩
obtain⟨p1,p2,p3,p4,p5⟩:=I.pin p hp
refine⟨c.keep _ _ (λz=>?_) (λz=>(o _ z).2.2 p hp rfl) p1,p2,p3,p4,p5⟩
rcases kI.mp (I.stkSub _ z)with y|y
·exact p3 y
exact p4 y)
end
noncomputable def CXe(P:Program)(w:World):CXT:=λouter H s E e s'=>∃ea T C od H',e=.ref ea∧s'.os=s.os∧AllBare s'.gens∧Un (frs outer) [] H H' s.heap s'.heap∧HOk P w H' s'.heap∧Held .none s'.heap ea T C od∧(s.heap.get? ea=none∧s.heap.get? T=none)∧(H' ea=none∧H' T=none)∧E C od H'
noncomputable def q2G(X:Cx)(ES:St→XK):Prop:=∀(pins:List (Addr×Obj)) (σ:St) (H:Hp) (s:Shared) (ea:Addr) (tr:Option Addr) (C:Value) (od:Option Addr),Inv X pins σ H s→Air X.env.locals s.heap ea C od tr→Ours X pins H (ea::tr.toList)→ES σ C od H→X.xe (.ref ea) s
noncomputable def qF5(CX:CXT)(X:Cx)(ES:St→XK):Prop:=∀(pins:List (Addr×Obj)) (σ:St) (H:Hp) (s:Shared) (e:Value) (s':Shared),Inv X pins σ H s→CX X.stack H s (ES σ) e s'→X.xe e s'
theorem q2G.passes{X:Cx}{ES:St→XK}(t:q2G X ES):qF5 (CXe X.prog X.w) X ES:=by(
intro pins σ H s e s' I hZ
obtain⟨ea,T,C,od,H',e1,ho,hg,u,hok,hd,⟨f1,f2⟩,⟨g1,g2⟩,q⟩:=hZ
subst e1
refine t pins σ H' s' ea (some T) C od (I.call' ho u hok hg λb hb=>by cases hb) (hd.air (.inl rfl)) (λb hb=>?_) q
have key:∀b,s.heap.get? b=none→H' b=none→(X.s₀.heap.get? b=none∨b∈X.ex)∧H' b=none∧∀p∈X.pn++pins,p.1≠b:=λb f g=>by
 refine⟨?_,g,λp hp z=>?_⟩
 ·by_cases y:b∈X.ex
  ·exact .inr y
  refine .inl ?_;cases z:X.s₀.heap.get? b with
  |none=>rfl
  |some ob=>obtain⟨o',z'⟩:=I.base.there b ob z y;rw[f]at z';cases z'
 have y:=(I.pin p hp).1;rw[z,f]at y;cases y
have e':b=ea∨b=T:=by simpa using hb
rcases e' with rfl|rfl
·exact key _ f1 g1
exact key _ f2 g2)
theorem j8{P:Program}{w:World}{K:PySem.W.Frag}{mg:Str→Option Value}{base:Heap}{N:List Str}{qual:Str}{scope:Scope}{f:Addr}{cd:Value}{A:Around}{outer:List Env}{s:Shared}{H:Hp}{E:XK}:
 q2G (cxOf (CXe P w) P w K mg base N qual scope f cd A outer s H E) (λ_=>E):=by(
intro pins σ H' s' ea tr C od I air ours q
refine qD8 (base:=base) I.ok.frames I.stack rfl air λh' T c hd n=>?_
have I2:=I.chg (t':=s'.toks) c ours air.recs
have out:∀b,s'.heap.objs.size≤b→s.heap.get? b=none:=λb z=>by
 cases y:s.heap.get? b with
 |none=>rfl
 |some ob=>obtain⟨o',y'⟩:=I.base.there b ob y (by intro m;cases m);exact absurd (mB y') (n8.mpr z)
have own:∀b,b∈ea::tr.toList→s.heap.get? b=none∧H' b=none:=λb hb=>⟨(ours b hb).1.elim id (λz=>by cases z),(ours b hb).2.1⟩
have hT:s.heap.get? T=none∧H' T=none:=by
 rcases n with z|z
 ·exact own T (hV _ (by cases tr with|none=>cases z|some t=>cases z;exact kC.mpr rfl))
 exact⟨out T z,I.hok.fresh z⟩
exact⟨ea,T,C,od,H',rfl,I.os,I.bare,I2.base,I2.hok,hd,⟨(own ea (kZ)).1,hT.1⟩,⟨(own ea (kZ)).2,hT.2⟩,q⟩)
noncomputable def qD9(C:Addr)(m:Str)(sp:Sp)(dvs:List V)(ES:St→XK)(ta:TE)(t:TA):TE:=λσ H Q=>ta σ H λx H1=>∃a dx fs,x=.ref a∧H1 a=some (.ins C dx fs)∧fs.lookup m=none∧t σ H1 λvs H2=>sp (x::(vs++dvs)) H2 Q (ES σ)
theorem vX{X:Cx}:q2G X (λ_ _ _ _=>False):=λ_ _ _ _ _ _ _ _ _ _ _ h=>h.elim
section
variable{X:Cx}{k:Nat}{f C:Addr}{fd:FuncData}{ps:List Str}{sp:Sp}{dvs:List V}{ds:List Value}{E:XK}{ES:St→XK}{x m:Str}{p pos apos:Pos}{e o:Expr}{es:List Expr}{ta:TE}{t:TA}
theorem qAV{pins:List (Addr×Obj)}{σ:St}{H:Hp}{s:Shared}{Q:VK}{us:List Value}{vs:List V}(F:FnOk X.prog X.w X.K X.mg X.base (CXe X.prog X.w) k f fd ps sp)(hr:Room k X.A)(hb:y6 X.K fd ps ds)(hd:Vals dvs ds)(tk:q2G X ES)
 (I:Inv X pins σ H s) (r:Vals vs us) (h:sp (vs++dvs) H Q (ES σ)):wpAny (model X.prog X.w) X.A (call (.ref f) us) (EP X pins σ Q) X.xe s:=by(
have r2:Vals (vs++dvs) (us++ds):=r.append hd
have hl:(us++ds).length=ps.length:=by rw[←r2.length];exact F.len _ _ _ _ h
refine pJ (c7 (F.run X.A X.stack s H ⟨us,[]⟩ (us++ds) (vs++dvs) Q (ES σ) hr I.env0 (hb s us I.kIn hl) r2 h) λr s' hq=>?_)
cases r with
|error e=>exact tk.passes pins σ H s e s' I hq
|ok fl=>
 cases fl with
 |ret u=>exact I.after hq
 |next=>exact False.elim hq
 |brk=>exact False.elim hq
 |cont=>exact False.elim hq)
theorem jJ{pl:Sem Bool}(tk:q2G X ES)(he:PE X o ta)(c:Cls X.K C)(hm:Meth X.K C m f)(F:FnOk X.prog X.w X.K X.mg X.base (CXe X.prog X.w) k f fd ps sp)(hr:Room k X.A)(hb:y6 X.K fd ps ds)(hd:Vals dvs ds)(ha:PA X (e::es) t)
 (hst:starEach (e::es) X.env=(false,eval e X.env)::starEach es X.env:=by rfl) (hpl:(backTo pos (starEach es X.env)).any (·.1)=false:=by rfl)
 (ht:eval (.Call (.Attribute o m apos) (e::es) [] pos) X.env=(do
  let ov←eval o X.env
  standAt apos.atName
  let(f,first)←holding [ov] (getMethod ov m pl)
  callWith pos f first (backTo pos (starEach (e::es) X.env)) (backToKw pos (keywordEach [] X.env))):=by rfl):
 PE X (.Call (.Attribute o m apos) (e::es) [] pos) (qD9 C m sp dvs ES ta t):=by(
intro pins s σ H Q I h
refine rL (pl:=pl) (thn (he pins s σ H _ I h) λu s1 hZ=>?_) ht
obtain⟨x,H1,I1,rx,a,dx,fs,ex,ea,l,q⟩:=hZ
subst ex
obtain rfl:u=Value.ref a:=rx
refine q08 I1 ea c hm l ?_
refine wI (first:=[.ref a]) (h₀:=X.base) I.ok.mod.kin hm.kp (thn (ha pos pins s1 σ H1 _ I1 q) λus s2 ⟨vs,H2,I2,r,q2⟩=>⟨I2.kIn,?_⟩) hst hpl
exact qAV (us:=.ref a::us) (vs:=.ref a::vs) F hr hb hd tk I2 (.cons rfl r) q2)
theorem uV{pl:Sem Bool}(tk:q2G X ES)(he:PE X o ta)(c:Cls X.K C)(hm:Meth X.K C m f)(F:FnOk X.prog X.w X.K X.mg X.base (CXe X.prog X.w) k f fd ps sp)(hr:Room k X.A)(hb:y6 X.K fd ps ds)(hd:Vals dvs ds)
 (ht:eval (.Call (.Attribute o m apos) [] [] pos) X.env=(do
  let ov←eval o X.env
  standAt apos.atName
  let(f,first)←holding [ov] (getMethod ov m pl)
  callWith pos f first (backTo pos (starEach [] X.env)) (backToKw pos (keywordEach [] X.env))):=by rfl):
 PE X (.Call (.Attribute o m apos) [] [] pos) (qD9 C m sp dvs ES ta tNil):=by(
intro pins s σ H Q I h
refine rL (pl:=pl) (thn (he pins s σ H _ I h) λu s1 hZ=>?_) ht
obtain⟨x,H1,I1,rx,a,dx,fs,ex,ea,l,q⟩:=hZ
subst ex
obtain rfl:u=Value.ref a:=rx
refine q08 I1 ea c hm l ?_
exact p8 (first:=[.ref a]) I1.kIn hm.kp (qAV (us:=[.ref a]) (vs:=[.ref a]) F hr hb hd tk I1 (.cons rfl .nil) q))
end
structure FunD(K:PySem.W.Frag)(x qual:Str)(st:Stmt)(dV:Value)(f:Addr)(fd:FuncData):Prop where
ex:∃(oc:Value) (od:Option Addr) (kV doc pm:Value) (an:Option Addr) (cdv ct:Value) (osl:Array (Option Value)),fd=PySem.W.fnOf x qual (yF st) (jW st) (qF st) dV kV doc pm an cdv ct∧K.lookup f=some ⟨oc,od,.func fd,osl⟩∧PySem.W.codeIn K cdv qual=true
section
variable{P:Program}{w:World}{K:PySem.W.Frag}{mg:Str→Option Value}{base:Heap}{dV:Value}
theorem FunD.mk'{x qual:Str}{st:Stmt}{f:Addr}{oc:Value}{od an:Option Addr}{osl:Array (Option Value)}{kV doc pm cdv ct:Value}(l:K.lookup f=some ⟨oc,od,.func (PySem.W.fnOf x qual (yF st) (jW st) (qF st) dV kV doc pm an cdv ct),osl⟩)
 (c:PySem.W.codeIn K cdv qual=true):FunD K x qual st dV f (PySem.W.fnOf x qual (yF st) (jW st) (qF st) dV kV doc pm an cdv ct):=⟨⟨oc,od,kV,doc,pm,an,cdv,ct,osl,rfl,l,c⟩⟩
theorem FunD.okE{x qual:Str}{st:Stmt}{f:Addr}{fd:FuncData}{N ps:List Str}{k:Nat}{sp:Sp}(F:FunD K x qual st dV f fd)(S:FnScope N ps (qF st))(len:∀vs H Q E,sp vs H Q E→vs.length=ps.length)
 (hbody:∀(cdv:Value) (A:Around) (outer:List Env) (s:Shared) (H:Hp) (vs:List V) (Q:VK) (E:XK),Room k (A.deeper (envOfC qual (qF st) s.heap.objs.size f cdv))→sp vs H Q E→∃t,PSs (cxOf (CXe P w) P w K mg base N qual (qF st) f cdv A outer s H E) (jW st) t∧t { nx:=λ_ H'=>Q .non H',rt:=Q } (q2E N vs) H):FnOk P w K mg base (CXe P w) (k+1) f fd ps sp:=by obtain⟨oc,od,kV,doc,pm,an,cdv,ct,osl,rfl,lk,hcd⟩:=F.ex;exact qCV lk hcd S len λA outer s H vs Q E hr hsp=>hbody cdv A outer s H vs Q E hr hsp
theorem FunD.ok0{x qual:Str}{st:Stmt}{f:Addr}{fd:FuncData}{N ps:List Str}{k:Nat}{sp:Sp}(F:FunD K x qual st dV f fd)(S:FnScope N ps (qF st))
 (hbody:∀(cdv:Value) (A:Around) (outer:List Env) (s:Shared) (H:Hp) (vs:List V) (Q:VK) (E:XK),Room k (A.deeper (envOfC qual (qF st) s.heap.objs.size f cdv))→sp vs H Q E→∃t,PSs (cxOf CX0 P w K mg base N qual (qF st) f cdv A outer s H E).nox (jW st) t∧t { nx:=λ_ H'=>Q .non H',rt:=Q } (q2E N vs) H)(len:∀vs H Q E,sp vs H Q E→vs.length=ps.length:=by intro _ _ _ _ h;first|(cases h;subst_vars;rfl)|((repeat obtain⟨_,h⟩:=h);all_goals subst_vars;rfl)):FnOk P w K mg base CX0 (k+1) f fd ps sp:=by(
obtain⟨oc,od,kV,doc,pm,an,cdv,ct,osl,rfl,lk,hcd⟩:=F.ex
refine qCV lk hcd S len λA outer s H vs Q E hr hsp=>?_
obtain⟨t,h,q⟩:=hbody cdv A outer s H vs Q E hr hsp
exact⟨t,h.nox,q⟩)
end
noncomputable abbrev bmVE:List Value:=[.type "ValueError",.type "Exception",.type "BaseException",.type "object"]
noncomputable abbrev XCls(K:PySem.W.Frag)(C:Addr):Prop:=PySem.W.excIn K C bmVE "ValueError.__new__"=true
theorem qF6{K:PySem.W.Frag}{C:Addr}(q:XCls K C):∃bm N nm qn bs hd sn sub ab col dd k0 k1 k2 k3 k5,K.lookup C=some (excClassObj nm qn C N bs bm hd sn sub ab col dd k0 k1 k2 k3 k5 "ValueError.__new__")∧PySem.W.tailIn K bmVE bm=true∧PySem.W.nsOkIn K N=true∧PySem.W.nsIn K N "__init__"=some none:=by(
unfold XCls PySem.W.excIn at q
split at q
·rename_i dd cd sl ho;split at q
 ·rename_i C' bm k0 k1 k2 k3 n k5 hm hs;obtain⟨nm,bs,mro,ns,qn,hd,sn,sub,ab,col,del⟩:=cd;obtain⟨l⟩:=sl;simp only[mP,r6,dN]at q hm hs;obtain⟨⟨⟨⟨⟨e1,e2⟩,e3⟩,e4⟩,e5⟩,e6⟩:=q;subst e1 e2 e3 hm hs;exact⟨bm,ns,nm,qn,bs,hd,sn,sub,ab,col,dd,k0,k1,k2,k3,k5,ho,e4,e5,e6⟩
 cases q
cases q)
noncomputable def qI3(ES:St→XK)(C:Addr)(t:TA):TS:=λ_ σ H=>t σ H λvs H1=>vs.length≤sizeLine∧ES σ (.ref C) none H1
section
variable{X:Cx}{ES:St→XK}{C:Addr}{x:Str}{np cpos pos:Pos}{e:Expr}{es:List Expr}{t:TA}
theorem qDA{pins:List (Addr×Obj)}{σ:St}{H:Hp}{s:Shared}{h':Heap}{ea:Addr}{C:Value}{vs:List Value}(I:Inv X pins σ H s)(m:Heap.MadeExcOf s.heap h' ea C vs):
 Air X.env.locals h' ea C none none∧Ours X pins H [ea]:=by(
obtain⟨t,m1,m2,m3⟩:=m.there
refine⟨⟨_,⟨_,m1,rfl,rfl,rfl,by simp⟩,rfl⟩,λb hb=>?_⟩
rw[kC.mp hb]
refine⟨?_,I.hok.free m.new,λp hp z=>?_⟩
·by_cases y:ea∈X.ex
 ·exact .inr y
 refine .inl ?_;cases z:X.s₀.heap.get? ea with
 |none=>rfl
 |some ob=>obtain⟨o',z'⟩:=I.base.there ea ob z y;rw[m.new]at z';cases z'
have y:=(I.pin p hp).1
rw[z,m.new]at y
cases y)
theorem q56(tk:q2G X ES)(hc:X.calm=true)(hg:Gl X x)(hm:X.mg x=some (.ref C))(hx:XCls X.K C)(ha:PA X (e::es) t)(hdb:(x==("__debug__":Str))=false:=by decide)
 (he:starEach (e::es) X.env=(false,eval e X.env)::starEach es X.env:=by rfl) (hpl:(backTo cpos (starEach es X.env)).any (·.1)=false:=by rfl):
 PS X (.Raise (some (.Call (.Name x np) (e::es) [] cpos)) none pos) (qI3 ES C t):=by(
intro pins s σ H D I hq
obtain⟨bm,N,nm,qn,bs,hd,sn,sub,ab,col,dd,k0,k1,k2,k3,k5,lk,tl,ok,ni⟩:=qF6 hx
have kb:=I.mod.kin
have T0:=PySem.W.tail_of_in kb tl
have hN:X.base.Ns N (X.base.nsMap N):=.of_isNs (PySem.W.isNs_of_in kb ok)
have hni:=PySem.W.nsMap_none_of_in kb ok ni
have hplain:(backTo cpos (starEach (e::es) X.env)).any (·.1)=false:=by rw[he];show(false||(backTo cpos (starEach es X.env)).any (·.1))=false;rw[hpl];rfl
refine wpAny_Raise_call_subT (C:=C) (nm:=nm) (q:=qn) (N:=N) (bs:=bs) (bm:=bm) (hdct:=hd) (sn:=sn) (sub:=sub) (ab:=ab) (col:=col) (dd:=dd) (k0:=k0) (k1:=k1) (k2:=k2) (k3:=k3) (k5:=k5) (mN:=X.base.nsMap N)
 PySem.F.excBase_ValueError (T0.hasType (by decide)) (I.ok.hd hc) hplain hni (q1S I hg hm ⟨rfl,?_⟩ hdb)
have h0:=ha cpos pins s σ H _ I hq
rw[he]at h0 ⊢
refine PySem.Calls.evalArgs_plain (g8 h0 (λus s1 h1=>?_) λ_ _ y=>y)
obtain⟨vs,H1,I1,r,hz,hE⟩:=h1
refine⟨rfl,by rw[←r.length];exact hz,I1.bk _ _ (kb _ _ lk),?_,T0.keeps I1.bk,λh' ea m=>?_⟩
·obtain⟨o',es',ep',z,rr⟩:=hN;exact⟨o',es',ep',I1.bk _ _ z,rr⟩
obtain⟨air,ours⟩:=qDA I1 m
refine tk pins σ H1 { s1 with heap:=h' } ea none (.ref C) none (I1.kept (t':=s1.toks) m.keeps) air ours hE)
end
noncomputable abbrev Cx.tr(X:Cx)(pins:List (Addr×Obj))(XE:Value→Shared→Prop):Cx:={ X with pn:=X.pn++pins,xe:=XE }
noncomputable abbrev Cx.sui(X:Cx)(e:Addr):Cx:={ X with A:=X.A.mark (some (.ref e)),calm:=false,xe:=λ_ _=>False }
theorem Chg.mono{fr fr' rs rs':List Addr}{h h':Heap}(c:Chg fr rs h h')(f:∀b∈fr,b∈fr')(r:∀b∈rs,b∈rs'):Chg fr' rs' h h':=⟨λb o a z e=>c.keep b o (λy=>a (f b y)) (λy=>z (r b y)) e,λb o z e=>c.slot b o (λy=>z (r b y)) e,c.there⟩
theorem Held.recs{f:Value}{e T:Addr}{h:Heap}{C:Value}{od:Option Addr}(x:Held f h e T C od):Recs h [e,T]:=by(
obtain⟨vs,⟨oe,a1,_,_,a4,_⟩,_,_,oT,ts,t3,t4,_⟩:=x
intro b hb
have e':b=e∨b=T:=by simpa using hb
rcases e' with rfl|rfl
·exact⟨_,_,a1,a4⟩
exact⟨_,_,t3,t4⟩)
section
variable{X:Cx}{pins:List (Addr×Obj)}{σ:St}{H:Hp}{s:Shared}{XE:Value→Shared→Prop}
theorem Inv.tr(I:Inv X pins σ H s)(XE:Value→Shared→Prop):Inv (X.tr pins XE) [] σ H s:=have ok:=I.ok
 ⟨⟨ok.mod,ok.kind,ok.glob,ok.blt,ok.above,ok.inj,ok.has,ok.cab,ok.hd,ok.frames,ok.stk,ok.exf,ok.bs,ok.bsz,ok.noex,ok.exfs,ok.funs,ok.frf⟩,I.os,I.bare,I.base,I.loc,I.cell,I.free,I.freeC,λp hp=>I.pin p (by simpa using hp),I.hok,I.len⟩
theorem Inv.untr{ps:List (Addr×Obj)}(I:Inv (X.tr pins XE) ps σ H s):Inv X pins σ H s:=have ok:=I.ok
 ⟨⟨ok.mod,ok.kind,ok.glob,ok.blt,ok.above,ok.inj,ok.has,ok.cab,ok.hd,ok.frames,ok.stk,ok.exf,ok.bs,ok.bsz,ok.noex,ok.exfs,ok.funs,ok.frf⟩,I.os,I.bare,I.base,I.loc,I.cell,I.free,I.freeC,λp hp=>I.pin p (gP _ hp),I.hok,I.len⟩
theorem Inv.sui(I:Inv X pins σ H s)(e:Addr):Inv (X.sui e) pins σ H s:=have ok:=I.ok
 ⟨⟨ok.mod,ok.kind,ok.glob,ok.blt,ok.above,ok.inj,ok.has,ok.cab,(λz=>by cases z),ok.frames,ok.stk,ok.exf,ok.bs,ok.bsz,ok.noex,ok.exfs,ok.funs,ok.frf⟩,I.os,I.bare,I.base,I.loc,I.cell,I.free,I.freeC,I.pin,I.hok,I.len⟩
theorem Inv.unsui{e:Addr}(hc:X.calm=true→X.A.handled=none)(I:Inv (X.sui e) pins σ H s):Inv X pins σ H s:=have ok:=I.ok
 ⟨⟨ok.mod,ok.kind,ok.glob,ok.blt,ok.above,ok.inj,ok.has,ok.cab,hc,ok.frames,ok.stk,ok.exf,ok.bs,ok.bsz,ok.noex,ok.exfs,ok.funs,ok.frf⟩,I.os,I.bare,I.base,I.loc,I.cell,I.free,I.freeC,I.pin,I.hok,I.len⟩
theorem SP.untr{D:Ends}{f:Flow}{s':Shared}(h:SP (X.tr pins XE) [] D f s'):SP X pins D f s':=by(
cases f with
|next=>obtain⟨σ',H',I,q⟩:=h;exact⟨σ',H',I.untr,q⟩
|brk=>obtain⟨σ',H',I,q⟩:=h;exact⟨σ',H',I.untr,q⟩
|cont=>obtain⟨σ',H',I,q⟩:=h;exact⟨σ',H',I.untr,q⟩
|ret u=>obtain⟨v,σ',H',I,r,q⟩:=h;exact⟨v,σ',H',I.untr,r,q⟩)
theorem SP.unsui{e:Addr}{D:Ends}{f:Flow}{s':Shared}(hc:X.calm=true→X.A.handled=none)(h:SP (X.sui e) pins D f s'):SP X pins D f s':=by(
cases f with
|next=>obtain⟨σ',H',I,q⟩:=h;exact⟨σ',H',I.unsui hc,q⟩
|brk=>obtain⟨σ',H',I,q⟩:=h;exact⟨σ',H',I.unsui hc,q⟩
|cont=>obtain⟨σ',H',I,q⟩:=h;exact⟨σ',H',I.unsui hc,q⟩
|ret u=>obtain⟨v,σ',H',I,r,q⟩:=h;exact⟨v,σ',H',I.unsui hc,r,q⟩)
end
noncomputable def qJQ(ea:Addr)(C:Value)(od:Option Addr):Heap→Prop:=λh=>∃o vs,h.get? ea=some o∧o.cls=C∧o.dict=od∧o.data=.fields vs
noncomputable abbrev XO(ea:Addr)(C:Value)(od:Option Addr):HO:=.ext (qJQ ea C od)
noncomputable abbrev TH:=Ends→St→Hp→Addr→Value→Option Addr→Prop
noncomputable def PHs(X:Cx)(hs:List ExceptHandler)(t:TH):Prop:=∀(pins:List (Addr×Obj)) (s:Shared) (σ:St) (H:Hp) (D:Ends) (ea T:Addr) (C:Value) (od:Option Addr),Inv X pins σ H s→Held .none s.heap ea T C od→Ours X pins H [ea,T]→t D σ H ea C od→wpAny (model X.prog X.w) X.A (handleBy (.ref ea) X.env hs) (SP X pins D) X.xe s
section
variable{X:Cx}{ES:St→XK}
theorem qI4(tk:q2G X ES)(hf:X.env.frame=some X.env.locals:=by rfl):PHs X [] (λ_ σ H _ C od=>ES σ C od H):=by(
intro pins s σ H D ea T C od I hd ours q
refine wpAny_handleBy_nil ?_
unfold PySem.passOn
have rc:=hd.recs
obtain⟨vs,x,t1,t2,oT,ts,t3,t4,t5⟩:=id hd
obtain⟨oe,a1,a2,a3,a4,a5⟩:=id x
refine kB (sV a1 a4 t1 ?_)
rw[hC (by simp)]
refine kB (q1W hd λh' c hd2=>wpAny_throw ?_)
rw[hf]at hd2
exact tk pins σ H { s with heap:=h' } ea (some T) C od (I.chg (t':=s.toks) (rs:=[ea,T]) (c.mono (by simp) (by simp)) ours rc) (hd2.air (.inr rfl)) ours q)
theorem Inv.pinX{pins:List (Addr×Obj)}{σ:St}{H:Hp}{s:Shared}{ea T:Addr}{C:Value}{od:Option Addr}{f:Value}(I:Inv X pins σ H s)(hd:Held f s.heap ea T C od)(ours:Ours X pins H [ea,T]):
 ∃oe oT,Inv X (pins++[(ea,oe),(T,oT)]) σ H s∧∀h':Heap,h'.get? ea=some oe→h'.get? T=some oT→Held f h' ea T C od:=by(
have rc:=hd.recs
obtain⟨vs,⟨oe,a1,a2,a3,a4,a5⟩,t1,t2,oT,ts,t3,t4,t5⟩:=hd
refine⟨oe,oT,I.pins_of λp hp=>?_,λh' z1 z2=>⟨vs,⟨oe,z1,a2,a3,a4,a5⟩,t1,t2,oT,ts,z2,t4,t5⟩⟩
have nl:∀b o ws,s.heap.get? b=some o→o.data=.fields ws→b≠X.env.locals∧b∉X.fs:=λb o ws e d=>by
 refine⟨λz=>?_,λz=>?_⟩
 ·obtain⟨m,⟨o',es,ep,ho,hd',_⟩,_⟩:=I.loc;rw[←z,e]at ho;cases ho;rw[d]at hd';cases hd'
 obtain⟨_,o',ho,hn⟩:=I.funs.mem z;rw[e]at ho;cases ho;exact hn _ d
rcases gF.mp hp with z|z
·exact I.pin p (mO _ z)
have z:p=(ea,oe)∨p=(T,oT):=by simpa using z
rcases z with rfl|rfl
·exact⟨a1,(ours ea (by simp)).2.1,(nl _ _ _ a1 a4).1,(nl _ _ _ a1 a4).2,λv q=>by rw[a4]at q;cases q⟩
exact⟨t3,(ours T (by simp)).2.1,(nl _ _ _ t3 t4).1,(nl _ _ _ t3 t4).2,λv q=>by rw[t4]at q;cases q⟩)
theorem q8S{ty:Expr}{c:V}{cv:Value}{pins:List (Addr×Obj)}{s:Shared}{σ:St}{H:Hp}{ea T:Addr}{C:Value}{od:Option Addr}{b:Bool}{R:Result→Shared→Prop}{pos:Pos}(hc:PE (X.sui ea) ty (tC c))(rc:RelV c cv)
 (I:Inv X pins σ H s) (hh:X.calm=true→X.A.handled=none) (hd:Held .none s.heap ea T C od) (ours:Ours X pins H [ea,T]) (hx:PySem.W.exmOne X.K C cv=some b) (q:∀s',Inv X pins σ H s'→Held .none s'.heap ea T C od→R (.ok (if b then .brk else .next)) s'):
 codeAny (model X.prog X.w) (X.A.mark (some (.ref ea))) (.handlers (.ref ea) [.ExceptHandler (some ty) none [] pos] X.env) R s:=by(
obtain⟨oe,oT,I1,back⟩:=I.pinX hd ours
refine codeAny_handlers_test (g8 (hc _ s σ H (λv H'=>v=c∧H'=H) (I1.sui ea) ⟨rfl,rfl⟩) (λu s1 h1=>?_) λ_ _ z=>z.elim)
obtain⟨v,H',I2,r,e1,e2⟩:=h1
subst e1 e2
have e3:u=cv:=by
 cases v with
 |non=>exact r.trans rc.symm
 |bl b=>exact r.trans rc.symm
 |ref a=>exact r.trans rc.symm
 |ty n=>exact r.trans rc.symm
 |int i=>obtain⟨t,e⟩:=r;obtain⟨t',e'⟩:=rc;subst e';unfold PySem.W.exmOne at hx;split at hx<;>cases hx
 |str i=>obtain⟨t,e⟩:=r;obtain⟨t',e'⟩:=rc;subst e';unfold PySem.W.exmOne at hx;split at hx<;>cases hx
 |byt i=>obtain⟨t,e⟩:=r;obtain⟨t',e'⟩:=rc;subst e';unfold PySem.W.exmOne at hx;split at hx<;>cases hx
 |flt i=>obtain⟨t,e⟩:=r;obtain⟨t',e'⟩:=rc;subst e';unfold PySem.W.exmOne at hx;split at hx<;>cases hx
subst e3
have p1:=(I2.pin (ea,oe) (by simp)).1
have p2:=(I2.pin (T,oT) (by simp)).1
have hd1:=back _ p1 p2
obtain⟨vs,⟨oe',z1,z2,_⟩,_⟩:=id hd1
have LT:PySem.W.Looks (model X.prog X.w) s1.heap (typeOf (.ref ea)) C:=by rw[←z2];exact(aD z1).andThen .now
have I3:Inv X pins σ H' s1:=(Inv.unsui hh I2).unpinned
exact(PySem.W.exm_one I2.kIn LT hx).here (q s1 I3 hd1))
theorem qF7{ty:Expr}{c:V}{cv:Value}{b₀:Stmt}{suite:List Stmt}{pos:Pos}{rest:List ExceptHandler}{ts:TS}{tr:TH}(hc:∀ea,PE (X.sui ea) ty (tC c))(rc:RelV c cv)(hs:∀ea,PSs (X.sui ea) (b₀::suite) ts)(hr:PHs X rest tr):
 PHs X (.ExceptHandler (some ty) none (b₀::suite) pos::rest) (λD σ H ea C od=>∃b,PySem.W.exmOne X.K C cv=some b∧if b=true then ts D σ H else tr D σ H ea C od):=by(
intro pins s σ H D ea T C od I hd ours hZ
obtain⟨b,hx,q⟩:=hZ
refine wpAny_handleBy_cons (q8S (hc ea) rc I I.ok.hd hd ours hx λs' I' hd'=>?_) (by intro z;cases z)
cases b with
|false=>rw[hC (by simp)]at q;exact hr pins s' σ H D ea T C od I' hd' ours q
|true=>rw[hU rfl]at q;refine codeAny_handlers_suite (q1W hd' λh' c hd2=>?_);have I2:=I'.chg (t':=s'.toks) (rs:=[ea,T]) (c.mono (by simp) (by simp)) ours hd'.recs;exact g8 (hs ea pins { s' with heap:=h' } σ H D (I2.sui ea) q) (λf s2 z=>z.unsui I.ok.hd) λ_ _ z=>z.elim)
noncomputable def tTry(tb:(St→XK)→TS)(th:TH):TS:=λD σ H=>tb (λσ' C od H'=>∀ea,H' ea=none→th D σ' H' ea C od) D σ H
theorem qI5{body:List Stmt}{h₀:ExceptHandler}{hs:List ExceptHandler}{pos:Pos}{tb:(St→XK)→TS}{th:TH}
 (hb:∀(pins:List (Addr×Obj)) (XE:Value→Shared→Prop) (ES:St→XK),q2G (X.tr pins XE) ES→PassesOwn (model X.prog X.w) X.A X.env XE→PSs (X.tr pins XE) body (tb ES)) (hh:PHs X (h₀::hs) th)
 (hfs:∃fr,X.stack=X.env::fr:=by exact⟨_,rfl⟩) (hf:X.env.frame=some X.env.locals:=by rfl):PS X (.Try body (h₀::hs) [] [] pos) (tTry tb th):=by(
intro pins s σ H D I q
refine wpAny_Try_except (g8 (hb pins (λe s1=>wpAny (model X.prog X.w) X.A (noteFrame e X.env) (λ_ s2=>wpAny (model X.prog X.w) X.A (setFlight e none) (λ_ s3=>wpAny (model X.prog X.w) X.A (handleBy e X.env (h₀::hs)) (SP X pins D) X.xe s3) X.xe s2) X.xe s1)
 (λσ' C od H'=>∀ea,H' ea=none→th D σ' H' ea C od) ?_ PassesOwn.looking [] s σ H D (I.tr _) q) (λf s1 z=>?_) λe s1 z=>z)
·intro pins' σ' H' s' ea tr C od I' air ours y;obtain⟨fr,ek⟩:=hfs;have frames:X.A.frames=some (X.env::fr):=by rw[I.ok.frames,ek]
 have ff:s'.heap.FunFrames X.base (X.env::fr):=by rw[←ek];exact I'.stack
 refine qAU frames ff hf air λh' T c hd n=>?_;have en:frs X.stack=(X.env::fr).filterMap (·.frame):=by rw[ek];rfl
 have I2:Inv (X.tr pins _) pins' σ' H' { s' with heap:=h' }:=I'.chg (t':=s'.toks) (by show Chg (frs X.stack) _ _ _;rw[en];exact c) ours air.recs;have oT:Ours (X.tr pins λe s1=>wpAny (model X.prog X.w) X.A (noteFrame e X.env) (λ_ s2=>wpAny (model X.prog X.w) X.A (setFlight e none) (λ_ s3=>wpAny (model X.prog X.w) X.A (handleBy e X.env (h₀::hs)) (SP X pins D) X.xe s3) X.xe s2) X.xe s1) pins' H' [ea,T]:=by
  intro b hb;have hb:b=ea∨b=T:=by simpa using hb
  rcases hb with rfl|rfl
  ·exact ours b (by simp)
  rcases n with z|z
  ·exact ours b (hV _ (by cases tr with|none=>cases z|some t=>cases z;exact kC.mpr rfl))
  refine⟨?_,I'.hok.fresh z,λp hp w=>?_⟩
  ·by_cases y:b∈X.ex
   ·exact .inr y
   refine .inl ?_;cases w:X.s₀.heap.get? b with
   |none=>rfl
   |some ob=>obtain⟨o',w'⟩:=I'.base.there b ob w y;exact absurd (mB w') (n8.mpr z)
  have w':=(I'.pin p hp).1;rw[w]at w';exact absurd (mB w') (n8.mpr z)
 refine q1W hd λh2 c2 hd2=>?_;have I3:=I2.chg (t':=s'.toks) (rs:=[ea,T]) (c2.mono (by simp) (by simp)) oT hd.recs;exact hh pins _ σ' H' D ea T C od I3.untr hd2 (λb hb=>⟨(oT b hb).1,(oT b hb).2.1,λp hp=>(oT b hb).2.2 p (gP _ hp)⟩) (y ea (ours ea (by simp)).2.1)
have z:=z.untr
cases f with
|next=>obtain⟨σ',H',I',y⟩:=z;exact qP pins s1 σ' H' D I' y
|_=>exact z)
end
noncomputable def NewX(ea:Addr)(C:Value)(od:Option Addr):Heap→Prop:=λh=>∃vs sl,h.get? ea=some ⟨C,od,.fields vs,sl⟩∧vs[2]?=some .none∧vs[1]?=some .none
noncomputable abbrev XN(ea:Addr)(C:Value)(od:Option Addr):HO:=.ext (NewX ea C od)
noncomputable def qGN(X:Cx)(pins:List (Addr×Obj))(a:Addr):Prop:=(X.s₀.heap.get? a=none∨a∈X.ex)∧∀p∈X.pn++pins,p.1≠a
section
variable{X:Cx}{pins:List (Addr×Obj)}{σ:St}{H:Hp}{s:Shared}{a:Addr}
theorem Inv.young(I:Inv X pins σ H s)(e:s.heap.get? a=none):qGN X pins a:=by(
refine⟨?_,λp hp z=>?_⟩
·by_cases y:a∈X.ex
 ·exact .inr y
 refine .inl ?_;cases z:X.s₀.heap.get? a with
 |none=>rfl
 |some ob=>obtain⟨o',z'⟩:=I.base.there a ob z y;rw[e]at z';cases z'
have y:=(I.pin p hp).1
rw[z,e]at y
cases y)
theorem Inv.trackG{o:HO}(I:Inv X pins σ H s)(n:H a=none)(y:qGN X pins a)(nl:a≠X.env.locals)(nc:∀x c,X.env.cells.lookup x=some c→c≠a)(new:jH X.prog X.w (upd H a o) s.heap a o):Inv X pins σ (upd H a o) s:=by(
have ne:∀b o',X.s₀.heap.get? b=some o'→b∉X.ex→b≠a:=λb o' z x q=>by
 subst q;rcases y.1 with w|w
 ·rw[z]at w;cases w
 exact x w
have nt:∀b u,H b=some u→b≠a:=λb u z q=>by rw[q,n]at z;cases z
refine⟨I.ok,I.os,I.bare,⟨I.base.keep,I.base.slot,λb o' z m x=>?_,I.base.there,λb xs z=>?_,λb o' u z=>?_,λb ps z=>?_⟩,I.loc,I.cell,?_,λx c z=>?_,λp hp=>?_,λb u z=>?_,I.len⟩
·rw[qC (ne b o' z x)];exact I.base.free b o' z m x
·have w:=I.base.tups b xs z;rw[qC (nt _ _ w)];exact w
·have w:=I.base.frzs b o' u z;rw[qC (nt _ _ w)];exact w
·obtain⟨more,w⟩:=I.base.tbls b ps z;exact⟨more,by rw[qC (nt _ _ w)];exact w⟩
·rw[qC (wG nl)];exact I.free
·rw[qC (nc x c z)];exact I.freeC x c z
·obtain⟨p1,p2,p3,p4,p5⟩:=I.pin p hp;exact⟨p1,by rw[qC (y.2 p hp)];exact p2,p3,p4,p5⟩
by_cases q:b=a
·subst q;rw[qH]at z;cases z;exact new
rw[qC q]at z
refine(I.hok b u z).stay (λ_ _ _ g=>g) (λc g=>?_) λc xs g=>?_
·rw[qC (nt _ _ g)];exact g
rw[qC (nt _ _ g)];exact g)
end
noncomputable def qDB:List Value→Bool
| .ref _::r=>qDB r
|l=>l==bmVE
noncomputable def veIn(K:PySem.W.Frag)(C:Addr):Bool:=(PySem.W.clsIn K C).any (λcd=>qDB cd.mro)
structure XAt(K:PySem.W.Frag)(C:Addr):Prop where
hd:PySem.W.hasDictIn K C=true
sa:PySem.W.findIn K (.ref C) "__setattr__"=some (some (.builtin "object.__setattr__"))
mro:veIn K C=true
structure XRd(K:PySem.W.Frag)(C:Addr):Prop where
ga:PySem.W.findIn K (.ref C) "__getattribute__"=some (some (.builtin "BaseException.__getattribute__"))
gn:PySem.W.findIn K (.ref C) "__getattr__"=some none
mb:PySem.W.mroIn K C (.type "BaseException")=some true
hd:PySem.W.hasDictIn K C=true
cls:PySem.W.findIn K (.ref C) "__class__"=some (some (.builtin "object.__class__"))
cget:PySem.W.specialIn K (.builtin "object.__class__") "__get__"=some (some (.builtin "getset_descriptor.__get__"))
ctk:PySem.W.takesIn K (.builtin "object.__class__")=some true
mo:PySem.W.mroIn K C (.type "object")=some true
noncomputable def XAny(H:Hp)(ea:Addr)(C:Value)(od:Option Addr):Prop:=H ea=some (XO ea C od)∨H ea=some (XN ea C od)
section
variable{X:Cx}{pins:List (Addr×Obj)}{σ:St}{H:Hp}{s:Shared}{ea C:Addr}{od:Option Addr}
theorem XAny.at{C:Value}(x:XAny H ea C od)(I:Inv X pins σ H s):∃o vs,s.heap.get? ea=some o∧o.cls=C∧o.dict=od∧o.data=.fields vs:=by(
rcases x with e|e
·exact(I.hok ea _ e).1
obtain⟨vs,sl,z,_⟩:=(I.hok ea _ e).1
exact⟨_,vs,z,rfl,rfl,rfl⟩)
theorem qF8{A:Around}{E:Value→Shared→Prop}{K:PySem.W.Frag}{prog:Program}{w:World}{s:Shared}{x:Addr}{ox:Obj}{od:Option Obj}{name:Str}{tk:Tok}{fill b:Bool}{Q:Value→Shared→Prop}(X:K.In s.heap)(J:PySem.W.InstAt s.heap x ox C od)(c:XRd K C)
 (h:∀A',wpAny (model prog w) A' (Builtin.«object.__getattribute__» ⟨[.ref x,.str name tk],[]⟩) (λfin s'=>∃v,fin=.done (.ret v)∧PySem.W.handedIn v=true∧Q v s') (λ_ _=>False) s):wpAny (model prog w) A (getAttrBy (.ref x) (.str name tk) fill b) Q E s:=by(
obtain⟨hh,g,d,t,os⟩:=s
have L0:=J.type (M:=model prog w)
have L1:=cA (M:=model prog w) X c.ga
have L2:=cA (M:=model prog w) X c.gn
have SF:=PySem.F.excAttr_ValueError.ga
unfold getAttrBy
refine g7 (kB (L0.at (kB (L1.at ?_))))
show wpAny _ _ (getAttrByItsOwn (.ref x) (.str name tk) (.ref C) (.builtin "BaseException.__getattribute__") fill b) _ _ _
unfold getAttrByItsOwn
refine kB ?_
show wpAny _ _ (typeLookup (.ref C) "__getattr__") _ _ _
refine L2.at ?_
refine kB (sX (g7 ?_))
have e1:callGetattribute (.ref x) (.str name tk) (.builtin "BaseException.__getattribute__") b=boundAndCalled (.builtin "BaseException.__getattribute__") (.ref x) (.str name tk):=by unfold callGetattribute;rw[hC (by cases b<;>exact Bool.noConfusion)]
rw[e1]
unfold boundAndCalled
rw[SF.bind (.ref x)]
refine kB (mH ?_)
refine pJ (lS SF.plain PySem.F.entry_bexc_ga ?_)
have su:PySem.W.Looks (model prog w) hh (isInstance (.ref x) (.type "BaseException")) true:=J.type.andThen (PySem.W.looks_mroIn X c.mb)
have hk:builtinKind "BaseException.__getattribute__"=some .slot:=by decide+kernel
have hs:splitId "BaseException.__getattribute__"=some ("BaseException","__getattribute__"):=by decide+kernel
refine @xI (model prog w) _ _ ⟨hh,g,d,t,os⟩ "BaseException.__getattribute__" "BaseException" "__getattribute__" (.ref x) [.str name tk] [] _ hk hs su (PySem.F.args_bexc_ga (.ref x) (.str name tk)) ?_
refine g8 (h _) (λfin s' z=>?_) (λ_ _ z=>z.elim)
obtain⟨v,rfl,z1,z2⟩:=z
exact PySem.W.handed_on z1 z2)
end
noncomputable def clsV:V→Option Value
| .ref a=>some (.ref a)
| .ty n=>some (.type n)
|_=>none
theorem qDC{c:V}{cv u:Value}(h:clsV c=some cv)(r:RelV c u):u=cv:=by cases c<;>first|(cases h;exact r)|cases h
noncomputable def KndT(K:PySem.W.Frag)(H:Hp)(x:V)(t:Value):Prop:=TyOf K H x t∨∃ea C od,x=.ref ea∧t=.ref C∧XAny H ea (.ref C) od∧XRd K C∧(od=none∨∃dx fs,od=some dx∧H dx=some (.xd fs))
theorem qI6{K:PySem.W.Frag}{x D:Addr}{ox:Obj}{od:Option Obj}(c:XRd K D):PySem.W.KitX K (.ref x) (.ref D) (λh=>PySem.W.InstAt h x ox D od) where
ty:=λ_ _ _ I=>I.type
it:=λ_ _ X _=>by
 obtain⟨cd,hc,_⟩:=pI c.hd;unfold PySem.W.clsIn at hc;split at hc
 ·rename_i ho;intro A' Q' E' s' k q;unfold isType loadHead;exact kB (wpAny_loadPart (k _ _ (X _ _ ho)) (mH q))
 cases hc
ne:=λh tp dd its n sl X htp=>by
 obtain⟨cd,hc,_⟩:=pI c.hd;refine xT.mpr λq=>?_;have e:D=tp:=Value.ref.inj (r6.mp q);subst e;unfold PySem.W.clsIn at hc;split at hc
 ·rename_i ho;have z:=(X _ _ ho).symm.trans htp;cases z
 cases hc
ca:=fun {prog w _ _ _ s} X I k=>by
 have hf:PySem.W.findObj K D od "__class__"=some (.bind (.builtin "getset_descriptor.__get__") (.builtin "object.__class__")):=by obtain⟨cd,hc,_⟩:=pI c.hd;unfold PySem.W.findObj;rw[hc,pK,c.cls,pK];dsimp only;rw[c.cget,pK];dsimp only;rw[c.ctk,pK]
 unfold getAttr? getAttrBy?;refine kB (wpAny_mkText (kB (sX (qF8 (s:={ s with toks:=s.toks+1 }) X I c λA'=>?_))));have L0:=I.type (M:=model prog w);have L1:=PySem.W.looks_find (M:=model prog w) X I hf;obtain⟨hh,gg,d,t,os⟩:=s;refine kB (mH (kB (mH (kB (L0.at (kB (L1.at ?_)))))));show wpAny _ _ (holding [.builtin "object.__class__"] (call (.builtin "getset_descriptor.__get__") [.builtin "object.__class__",.ref x,.ref D]) >>= ret) _ _ _;exact kB (g7 (pJ (PySem.W.class_get (s:=⟨hh,gg,d,t+1,os⟩) (ox:=ox) (od:=od) X I c.mo (mH ⟨_,rfl,rfl,mH k⟩))))
theorem q39{X:Cx}:q2D X (.builtin "isinstance") (λxs H Q=>∃x c cv t b,xs=[x,c]∧clsV c=some cv∧KndT X.K H x t∧PySem.W.kitOne X.K t cv=some b∧Q (.bl b) H):=by(
intro pins s σ H xs us Q I r h
obtain⟨x,c,cv,t,b,rfl,hc,ty,e,q⟩:=h
obtain⟨u,w',rfl,ru,rw'⟩:=qGJ r
cases qDC hc rw'
rcases ty with ty|⟨ea,C,od,rfl,rfl,hx,ca,hd⟩
·exact qBU I ru ty e λtk=>⟨.bl b,H,I.tok tk,rfl,q⟩
obtain rfl:u=Value.ref ea:=ru
obtain⟨o,vs,e1,e2,e3,e4⟩:=hx.at I
have hno:PySem.W.notCls o=true:=by rw[PySem.W.notCls,e4]
have J:∃oD,PySem.W.InstAt s.heap ea o C oD:=by
 rcases hd with rfl|⟨dx,fs,rfl,hdx⟩
 ·exact⟨none,e1,e2,hno,by rw[e3];exact True.intro⟩
 obtain⟨mA,n1,rl⟩:=I.hok dx _ hdx;obtain⟨oD,g1,g2⟩:=q6N n1;exact⟨some oD,e1,e2,hno,by rw[e3];exact g1⟩
obtain⟨oD,J⟩:=J
exact g4 (qI6 ca) I.kIn J e (λz=>nomatch z) λtk=>⟨.bl b,H,I.tok tk,rfl,q⟩)
structure BIni(K:PySem.W.Frag)(W:Addr):Prop where
rd:PySem.W.readsIn K W (.type "type")=true
fd:PySem.W.findCls K (.ref W) (.type "type") "__init__"=some (.val (.builtin "ValueError.__init__"))
ga:PySem.W.specialIn K (.ref W) "__getattribute__"=some (some (.builtin "type.__getattribute__"))
end L2
namespace L2
open PySem
structure Keep(F:List Addr)(H H':Hp):Prop where
k:∀b o,b∉F→H b=some o→H' b=some o
tp:∀b xs,H b=some (.tup xs)→H' b=some (.tup xs)
theorem Keep.refl{F:List Addr}{H:Hp}:Keep F H H:=⟨λ_ _ _ e=>e,λ_ _ e=>e⟩
theorem Keep.trans{F:List Addr}{H H1 H2:Hp}(a:Keep F H H1)(b:Keep F H1 H2):Keep F H H2:=⟨λx o n e=>b.k x o n (a.k x o n e),λx xs e=>b.tp x xs (a.tp x xs e)⟩
theorem Keep.mono{F F':List Addr}{H H':Hp}(a:Keep F H H')(s:∀b∈F,b∈F'):Keep F' H H':=⟨λx o n e=>a.k x o (λm=>n (s x m)) e,a.tp⟩
theorem Keep.upd{F:List Addr}{H:Hp}{p:Addr}{o u:HO}(h:H p=some u)(nt:∀xs,u≠ .tup xs)(m:p∈F):Keep F H (upd H p o):=by(
refine⟨λb x n e=>?_,λb xs e=>?_⟩
·rw[qC (λ(z:b=p)=>n (z▸m))];exact e
rw[qC (jM e h (λz=>nt xs z.symm))];exact e)
theorem Keep.same{F:List Addr}{H H':Hp}(s:Same H H'):Keep F H H':=⟨λb o _ e=>s b o e,λb xs e=>s b _ e⟩
theorem Keep.none{F:List Addr}{H H':Hp}(a:Keep F H H'){b:Addr}(n:b∉F)(e:H' b=Option.none):H b=Option.none:=by(
cases q:H b with
|none=>rfl
|some o=>rw[a.k b o n q]at e;cases e)
structure CM where
bl:Int
pg:Int
mo:Int
lim:List (Key×V)
bo:List V
cl:List Int
dc:List Int
br:List Bool
lf:Option Int
rc:List (Str×Int×Bool)
structure CA where
dx:Addr
li:Addr
bo:Addr
cl:Addr
dc:Addr
br:Addr
rc:Addr
noncomputable def lfV:Option Int→V
| .none=>.non
| .some i=>.int i
noncomputable def chF(a:CA)(m:CM):List (Str×V):=[("blocks",.int m.bl),("pages",.int m.pg),("most",.int m.mo),("limits",.ref a.li),("borne",.ref a.bo),("clearings",.ref a.cl),("deed_counts",.ref a.dc),("broken",.ref a.br),("deeds_left",lfV m.lf),("record",.ref a.rc)]
noncomputable def trip(H:Hp)(v:V)(d:Str×Int×Bool):Prop:=∃p,v=.ref p∧H p=some (.tup [.str d.1,.int d.2.1,.bl d.2.2])
noncomputable abbrev Recd(H:Hp):List V→List (Str×Int×Bool)→Prop:=Paired (trip H)
theorem Recd.keep{F:List Addr}{H H':Hp}(k:Keep F H H'){rs:List V}{ds:List (Str×Int×Bool)}(r:Recd H rs ds):Recd H' rs ds:=Paired.mapP r λv d ⟨p,e,h⟩=>⟨p,e,k.tp _ _ h⟩
theorem _root_.PySem.Paired.len{α β:Type}{F:α→β→Prop}:∀{l₁:List α} {l₂:List β},Paired F l₁ l₂→l₁.length=l₂.length
|_,_,.nil=>rfl
|_,_,.cons _ t=>dE (· + 1) t.len
theorem Paired.snoc{α β:Type}{F:α→β→Prop}:∀{l₁:List α} {l₂:List β} {a:α} {b:β},Paired F l₁ l₂→F a b→Paired F (l₁++[a]) (l₂++[b])
|_,_,_,_,.nil,h=>.cons h .nil
|_,_,_,_,.cons r t,h=>.cons r (Paired.snoc t h)
noncomputable def foot(c:Addr)(a:CA):List Addr:=[c,a.bo,a.cl,a.dc,a.br,a.rc]
structure ChipAt(C:Addr)(H:Hp)(c:Addr)(a:CA)(m:CM):Prop where
ins:H c=some (.ins C a.dx (chF a m))
li:H a.li=some (.dK m.lim)
bo:H a.bo=some (.lst m.bo)
cl:H a.cl=some (.lst (m.cl.map V.int))
dc:H a.dc=some (.lst (m.dc.map V.int))
br:H a.br=some (.lst (m.br.map V.bl))
rc:∃rs,H a.rc=some (.lst rs)∧Recd H rs m.rc
nd:[a.bo,a.cl,a.dc,a.br,a.rc].Nodup
structure CM.Ok(m:CM):Prop where
bl1:2≤m.bl
bl2:m.bl≤16
pg1:1≤m.pg
pg2:m.pg≤16
nbo:(m.bo.length:Int)=m.bl*m.pg
ncl:(m.cl.length:Int)=m.bl
ndc:(m.dc.length:Int)=m.bl
nbr:(m.br.length:Int)=m.bl
lim:∀b v,valV m.lim (Sum.inl b)=some v→∃n,v=.int n
nrc:m.rc.length≤1000000
section
variable{C c:Addr}{a:CA}{m:CM}{H H':Hp}
theorem ChipAt.ne(h:ChipAt C H c a m):c≠a.bo∧c≠a.cl∧c≠a.dc∧c≠a.br∧c≠a.rc:=by obtain⟨rs,e,_⟩:=h.rc;exact⟨jM h.ins h.bo (by intro z;cases z),jM h.ins h.cl (by intro z;cases z),jM h.ins h.dc (by intro z;cases z),jM h.ins h.br (by intro z;cases z),jM h.ins e (by intro z;cases z)⟩
theorem ChipAt.nel(h:ChipAt C H c a m):a.li≠c∧a.li≠a.bo∧a.li≠a.cl∧a.li≠a.dc∧a.li≠a.br∧a.li≠a.rc:=by obtain⟨rs,e,_⟩:=h.rc;exact⟨jM h.li h.ins (by intro z;cases z),jM h.li h.bo (by intro z;cases z),jM h.li h.cl (by intro z;cases z),jM h.li h.dc (by intro z;cases z),jM h.li h.br (by intro z;cases z),jM h.li e (by intro z;cases z)⟩
theorem ChipAt.dst(h:ChipAt C H c a m):(a.bo≠a.cl∧a.bo≠a.dc∧a.bo≠a.br∧a.bo≠a.rc)∧(a.cl≠a.dc∧a.cl≠a.br∧a.cl≠a.rc)∧(a.dc≠a.br∧a.dc≠a.rc)∧a.br≠a.rc:=by(
have:=h.nd
simp only[gA,kI,rJ,not_or,or_false]at this
obtain⟨⟨a1,a2,a3,a4⟩,⟨b1,b2,b3⟩,⟨c1,c2⟩,d1,_⟩:=this
exact⟨⟨a1,a2,a3,a4⟩,⟨b1,b2,b3⟩,⟨c1,c2⟩,d1⟩)
theorem ChipAt.keep{F:List Addr}(h:ChipAt C H c a m)(k:Keep F H H')(n:∀b∈a.li::foot c a,b∉F):ChipAt C H' c a m:=by obtain⟨rs,e,r⟩:=h.rc;exact⟨k.k _ _ (n _ (by simp[foot])) h.ins,k.k _ _ (n _ (by simp)) h.li,k.k _ _ (n _ (by simp[foot])) h.bo,k.k _ _ (n _ (by simp[foot])) h.cl,k.k _ _ (n _ (by simp[foot])) h.dc,k.k _ _ (n _ (by simp[foot])) h.br,⟨rs,k.k _ _ (n _ (by simp[foot])) e,r.keep k⟩,h.nd⟩
theorem ChipAt.same(h:ChipAt C H c a m)(s:Same H H'):ChipAt C H' c a m:=h.keep (F:=[]) (Keep.same s) (by simp)
theorem ChipAt.setLf(h:ChipAt C H c a m)(v:Option Int):ChipAt C (upd H c (.ins C a.dx (chF a { m with lf:=v }))) c a { m with lf:=v }:=by(
obtain⟨n1,n2,n3,n4,n5⟩:=h.ne
obtain⟨l1,_⟩:=h.nel
obtain⟨rs,e,r⟩:=h.rc
have k:Keep [c] H (upd H c (.ins C a.dx (chF a { m with lf:=v }))):=Keep.upd h.ins (λ_ z=>by cases z) (by simp)
exact⟨qH,by rw[qC l1];exact h.li,by rw[qC n1.symm];exact h.bo,by rw[qC n2.symm];exact h.cl,by rw[qC n3.symm];exact h.dc,by rw[qC n4.symm];exact h.br,⟨rs,by rw[qC n5.symm];exact e,r.keep k⟩,h.nd⟩)
theorem ChipAt.setBo(h:ChipAt C H c a m)(v:List V):ChipAt C (upd H a.bo (.lst v)) c a { m with bo:=v }:=by(
obtain⟨n1,n2,n3,n4,n5⟩:=h.ne
obtain⟨l0,l1,l2,l3,l4,l5⟩:=h.nel
obtain⟨⟨a1,a2,a3,a4⟩,⟨b1,b2,b3⟩,⟨c1,c2⟩,d1⟩:=h.dst
obtain⟨rs,e,r⟩:=h.rc
have k:Keep [a.bo] H (upd H a.bo (.lst v)):=Keep.upd h.bo (λ_ z=>by cases z) (by simp)
exact⟨by rw[qC n1];exact h.ins,by rw[qC l1];exact h.li,qH,by rw[qC a1.symm];exact h.cl,by rw[qC a2.symm];exact h.dc,by rw[qC a3.symm];exact h.br,⟨rs,by rw[qC a4.symm];exact e,r.keep k⟩,h.nd⟩)
theorem ChipAt.setCl(h:ChipAt C H c a m)(v:List Int):ChipAt C (upd H a.cl (.lst (v.map V.int))) c a { m with cl:=v }:=by(
obtain⟨n1,n2,n3,n4,n5⟩:=h.ne
obtain⟨l0,l1,l2,l3,l4,l5⟩:=h.nel
obtain⟨⟨a1,a2,a3,a4⟩,⟨b1,b2,b3⟩,⟨c1,c2⟩,d1⟩:=h.dst
obtain⟨rs,e,r⟩:=h.rc
have k:Keep [a.cl] H (upd H a.cl (.lst (v.map V.int))):=Keep.upd h.cl (λ_ z=>by cases z) (by simp)
exact⟨by rw[qC n2];exact h.ins,by rw[qC l2];exact h.li,by rw[qC a1];exact h.bo,qH,by rw[qC b1.symm];exact h.dc,by rw[qC b2.symm];exact h.br,⟨rs,by rw[qC b3.symm];exact e,r.keep k⟩,h.nd⟩)
theorem ChipAt.setDc(h:ChipAt C H c a m)(v:List Int):ChipAt C (upd H a.dc (.lst (v.map V.int))) c a { m with dc:=v }:=by(
obtain⟨n1,n2,n3,n4,n5⟩:=h.ne
obtain⟨l0,l1,l2,l3,l4,l5⟩:=h.nel
obtain⟨⟨a1,a2,a3,a4⟩,⟨b1,b2,b3⟩,⟨c1,c2⟩,d1⟩:=h.dst
obtain⟨rs,e,r⟩:=h.rc
have k:Keep [a.dc] H (upd H a.dc (.lst (v.map V.int))):=Keep.upd h.dc (λ_ z=>by cases z) (by simp)
exact⟨by rw[qC n3];exact h.ins,by rw[qC l3];exact h.li,by rw[qC a2];exact h.bo,by rw[qC b1];exact h.cl,qH,by rw[qC c1.symm];exact h.br,⟨rs,by rw[qC c2.symm];exact e,r.keep k⟩,h.nd⟩)
theorem ChipAt.addRc{p:Addr}{rs:List V}{d:Str×Int×Bool}(h:ChipAt C H c a m)(e:H a.rc=some (.lst rs))(hp:H p=some (.tup [.str d.1,.int d.2.1,.bl d.2.2])):ChipAt C (upd H a.rc (.lst (rs++[.ref p]))) c a { m with rc:=m.rc++[d] }:=by(
obtain⟨n1,n2,n3,n4,n5⟩:=h.ne
obtain⟨l0,l1,l2,l3,l4,l5⟩:=h.nel
obtain⟨⟨a1,a2,a3,a4⟩,⟨b1,b2,b3⟩,⟨c1,c2⟩,d1⟩:=h.dst
obtain⟨rs',e',r⟩:=h.rc
rw[e]at e'
cases e'
have k:Keep [a.rc] H (upd H a.rc (.lst (rs++[.ref p]))):=Keep.upd e (λ_ z=>by cases z) (by simp)
exact⟨by rw[qC n5];exact h.ins,by rw[qC l5];exact h.li,by rw[qC a4];exact h.bo,by rw[qC b3];exact h.cl,by rw[qC c2];exact h.dc,by rw[qC d1];exact h.br,⟨_,qH,Paired.snoc (r.keep k) ⟨p,rfl,k.tp _ _ hp⟩⟩,h.nd⟩)
end
noncomputable def CM.deed(m:CM)(w:Str)(pl b:Int)(f:Bool):CM:={ m with lf:=m.lf.map (· - 1),dc:=m.dc.set b.toNat (m.dc.getD b.toNat 0+1),rc:=m.rc++[(w,pl,!f)],br:=if f then m.br.set b.toNat true else m.br }
noncomputable def clr(xs:List V)(i n:Nat):List V:=match n with
|0=>xs
|n+1=>(clr xs i n).set (i+n) .non
noncomputable def CM.new(bl pg mo:Int)(lim:List (Key×V)):CM:=⟨bl,pg,mo,lim,List.replicate (bl*pg).toNat .non,List.replicate bl.toNat 0,List.replicate bl.toNat 0,List.replicate bl.toNat false,none,[]⟩
theorem qF9{x:V}{lo hi:Int}(h:inB x lo hi=true):∃p,x=.int p∧lo≤p∧p≤hi:=by(
cases x with
|int p=>have h:(decide (lo≤p)&&decide (p≤hi))=true:=h;rw[mP]at h;exact⟨p,rfl,mF h.1,mF h.2⟩
|_=>cases h)
theorem qI7{m:CM}{p:Int}(ok:m.Ok)(p0:0≤p)(p1:p≤m.bl*m.pg-1):0≤p / m.pg∧p / m.pg<m.bl:=by have:=ok.pg1;exact⟨Int.ediv_nonneg p0 (by lia),Int.ediv_lt_of_lt_mul (by lia) (by lia)⟩
theorem lf0{m:CM}:decide (lfV m.lf=V.int 0)=decide (m.lf=some 0):=by(
cases e:m.lf with
|none=>rfl
|some i=>
 show decide (V.int i=V.int 0)=_;by_cases z:i=0
 ·subst z;rfl
 rw[h9 (λq=>z (by injection q)),h9 (λq=>z (by injection q))])
theorem qFA{m:CM}:scal (lfV m.lf) (.int 0)=true:=by cases m.lf<;>rfl
theorem getB{m:CM}{b:Int}(h0:0≤b)(h:b<(m.br.length:Int)):atI (m.br.map V.bl) b=some (.bl (m.br.getD b.toNat false)):=by(
obtain⟨j,rfl⟩:=wE h0
refine uH ?_
have hj:j<m.br.length:=by lia
simp[hj])
theorem getI{xs:List Int}{b:Int}(h0:0≤b)(h:b<(xs.length:Int)):atI (xs.map V.int) b=some (.int (xs.getD b.toNat 0)):=by(
obtain⟨j,rfl⟩:=wE h0
refine uH ?_
have hj:j<xs.length:=by lia
simp[hj])
theorem getV{xs:List V}{b:Int}(h0:0≤b)(h:b<(xs.length:Int)):atI xs b=some (xs.getD b.toNat .non):=by(
obtain⟨j,rfl⟩:=wE h0
refine uH ?_
have hj:j<xs.length:=by lia
simp[hj])
theorem ixOk{n:Nat}{b:Int}(h0:0≤b)(h:b<(n:Int)):ixN n b=some b.toNat:=by unfold ixN;rw[hU h0,hU h]
theorem CM.Ok.deed{m:CM}(ok:m.Ok){w:Str}{pl b:Int}{f:Bool}(h:m.rc.length<1000000):(m.deed w pl b f).Ok:=by(
refine⟨ok.bl1,ok.bl2,ok.pg1,ok.pg2,ok.nbo,ok.ncl,?_,?_,ok.lim,?_⟩
·show((m.dc.set _ _).length:Int)=m.bl;rw[gK];exact ok.ndc
·show(((if f then m.br.set b.toNat true else m.br)).length:Int)=m.bl;cases f with
 |true=>rw[hU rfl,gK];exact ok.nbr
 |false=>exact ok.nbr
show(m.rc++[_]).length≤1000000
rw[mE,gG]
lia)
noncomputable def qFB:Sp:=λvs H Q _=>∃x y,vs=[x,y]∧Knd H x∧Knd H y∧Q (.bl (inB x 2 16&&inB y 1 16)) H
theorem Paired.at{α β:Type}{F:α→β→Prop}:∀{l₁:List α} {l₂:List β} {i:Nat} {a:α},Paired F l₁ l₂→l₁[i]?=some a→∃b,l₂[i]?=some b∧F a b
|_,_,0,_,.cons r _,e=>by simp at e;subst e;exact⟨_,rfl,r⟩
|_,_,i+1,_,.cons _ t,e=>by have e2:=nB.symm.trans e;obtain⟨b,h1,h2⟩:=Paired.at t e2;exact⟨b,nB.trans h1,h2⟩
|_,_,_,_,.nil,e=>by simp at e
theorem q4P(xs:List V)(i:Nat):∀n,(clr xs i n).length=xs.length
|0=>rfl
|n+1=>by show((clr xs i n).set (i+n) .non).length=xs.length;rw[gK,q4P xs i n]
theorem qI8{bl pg mo:Int}{lim:List (Key×V)}(b1:2≤bl)(b2:bl≤16)(p1:1≤pg)(p2:pg≤16)(hl:∀b v,valV lim (Sum.inl b)=some v→∃n,v=V.int n):(CM.new bl pg mo lim).Ok:=by(
have h:0≤bl*pg:=lT (by lia) (by lia)
refine⟨b1,b2,p1,p2,?_,?_,?_,?_,hl,by show 0≤1000000;decide⟩
·show((List.replicate (bl*pg).toNat V.non).length:Int)=bl*pg;rw[gN];lia
·show((List.replicate bl.toNat (0:Int)).length:Int)=bl;rw[gN];lia
·show((List.replicate bl.toNat (0:Int)).length:Int)=bl;rw[gN];lia
show((List.replicate bl.toNat false).length:Int)=bl
rw[gN]
lia)
noncomputable def Up(x:Addr)(H H':Hp):Prop:=∀b o,b≠x→H b=some o→H' b=some o
section
variable{x C dx:Addr}{fs:List (Str×V)}{H H':Hp}
theorem Up.of{o:HO}(s:Same H H'):Up x H (upd H' x o):=λb u n e=>by rw[qC n];exact s b u e
theorem Up.free(u:Up x H H'){b:Addr}(n:b≠x)(e:H' b=none):H b=none:=by(
cases q:H b with
|none=>rfl
|some o=>rw[u b o n q]at e;cases e)
end
end L2
namespace L2
open PySem PySem.Spec PyProof.Rows
noncomputable def tMid(t u:TS):TS:=λD σ H=>∃M:St→Hp→Prop,t { D with nx:=M } σ H∧∀σ' H',M σ' H'→u D σ' H'
noncomputable def qJR(t:TE):TE:=λσ H Q=>∃M:VK,t σ H M∧∀v H',M v H'→Q v H'
section
variable{X:Cx}{st:Stmt}{rest:List Stmt}{t u:TS}{e:Expr}{te:TE}{tt:TT}
theorem q1X(h1:PS X st t)(h2:PSs X rest u):PSs X (st::rest) (tMid t u):=by(
intro pins s σ H D I hZ
obtain⟨M,a,b⟩:=hZ
refine kB (thn (h1 pins s σ H _ I a) λf s1 z=>?_)
cases f with
|next=>obtain⟨σ',H',I',q⟩:=z;exact h2 pins s1 σ' H' D I' (b σ' H' q)
|brk=>exact mH z
|cont=>exact mH z
|ret v=>exact mH z)
theorem qI9(h:PE X e te):PE X e (qJR te):=λpins s σ H Q I ⟨M,a,b⟩=>thn (h pins s σ H M I a) λc s1 ⟨v,H',I',r,q⟩=>⟨v,H',I',r,b v H' q⟩
end
theorem q2J{a b:Int}:decide (V.int a=V.int b)=decide (a=b):=by(
by_cases e:a=b
·subst e;simp
rw[h9 e,h9 (λz=>e (by injection z))])
theorem q2K(x n:Int)(h:0<n):0≤x%n∧x%n<n:=⟨aK _ (by lia),xJ _ h⟩
section
variable{X:Cx}{pins:List (Addr×Obj)}{σ:St}{H:Hp}{s:Shared}{h':Heap}
theorem Inv.turnedN{t':Nat}{fp:List Addr}(I:Inv X pins σ H s)(k:∀b o,b∉fp→s.heap.get? b=some o→h'.get? b=some o)(hf:∀b∈fp,FpOk X pins H b):Inv X pins σ H { s with heap:=h',toks:=t' }:=by(
have nit:∀b u,H b=some u→b∉fp:=λb u e z=>by rw[(hf b z).1]at e;cases e
refine I.step (g':=s.gens) (d':=s.drawn) (ch:=fp) (λb hb=>?_) (λb o _ _ hc e _=>k b o hc e) (λb o _ _ hc e _=>⟨o.slots,k b o hc e⟩) (λ_ _ _ _ n=>n)
 (λb o hc e=>⟨o,k b o hc e⟩) (λ_ _ e=>e) (λ_ _ _ e=>e) (λb ps e=>⟨#[],by rw[e];simp⟩) (λm hm=>?_) (λb u e=>?_) I.bare
·obtain⟨f0,f1,f2,f3,f4,f5⟩:=hf b hb;exact⟨f3,f1,f4,f5⟩
·obtain⟨o,es,ep,ho,r⟩:=hm;exact⟨o,es,ep,k _ o (λz=>(hf _ z).2.1 rfl) ho,r⟩
refine(I.hok b u e).stay (λc v hc q=>k c v ?_ q) (λ_ q=>q) λ_ _ q=>q
rcases hc with z|z
·rw[z];exact nit b u e
exact nit c _ z)
end
end L2
namespace L2
open PySem
theorem q57{es rest:List Expr}{x1}{p:Pos}{env:Env}:starEach (.Tuple es x1 p::rest) env=(false,eval (.Tuple es x1 p) env)::starEach rest env:=rfl
theorem qDD{es rest:List Expr}{p:Pos}{env:Env}:starEach (.List es p::rest) env=(false,eval (.List es p) env)::starEach rest env:=rfl
end L2
namespace L2
open PySem PySem.Spec PyProof.Rows
theorem qDE{n:Nat}:(List.range n).all (λ_=>true)=true:=by simp
section
variable{X:Cx}{pins:List (Addr×Obj)}{σ:St}{H:Hp}{s:Shared}
theorem Vals.atN{xs:List V}{us:List Value}(r:Vals xs us){j:Nat}(h:j<us.length):∃x,xs[j]?=some x∧RelV x us[j]:=by(
have e:xs[j]?=some (xs[j]'(by rw[r.length];exact h)):=kD _
obtain⟨u,hu,ru⟩:=r.get e
rw[kD h]at hu
cases hu
exact⟨_,e,ru⟩)
end
noncomputable def clOf(env:Env):List (Str×NameKind)→List (Str×Addr)→List (Str×Addr)
| [],cs=>cs
|(n,k)::r,cs=>clOf env r (if(k==NameKind.free)=true then(match env.cells.lookup n with|some a=>(n,a)::cs|none=>cs)else cs)
theorem q58{scope:Scope}{env:Env}(h:∀y∈scope.names,y.2=.free→∃c,env.cells.lookup y.1=some c):closureFor scope env=pure (clOf env scope.names []):=by(
unfold closureFor
have go:∀(l:List (Str×NameKind)) (cs:List (Str×Addr)),(∀y∈l,y.2=.free→∃c,env.cells.lookup y.1=some c)→(forIn l cs λx r=>(match x with|(name,kind)=>if(kind==NameKind.free)=true then do let a←cellOf env name;pure (ForInStep.yield ((name,a)::r))else pure (ForInStep.yield r):Sem (ForInStep (List (Str×Addr)))))=pure (clOf env l cs):=by
 intro l;induction l with
 |nil=>intro cs _;rfl
 |cons y r ih=>
  intro cs hl;obtain⟨n,k⟩:=y;rw[aL];by_cases hk:(k==NameKind.free)=true
  ·obtain⟨c,e⟩:=hl (n,k) kZ (by simpa using hk);have e2:cellOf env n=pure c:=by unfold cellOf;rw[e]
   show(bind (if(k==NameKind.free)=true then _ else _) _:Sem _)=_;rw[hU hk,e2];show(forIn r ((n,c)::cs) _:Sem _)=pure (clOf env r (if(k==NameKind.free)=true then(match env.cells.lookup n with|some a=>(n,a)::cs|none=>cs)else cs));rw[hU hk,e];exact ih _ λy hy=>hl y (hV _ hy)
  show(bind (if(k==NameKind.free)=true then _ else _) _:Sem _)=_;rw[hC hk];show(forIn r cs _:Sem _)=pure (clOf env r (if(k==NameKind.free)=true then(match env.cells.lookup n with|some a=>(n,a)::cs|none=>cs)else cs));rw[hC hk];exact ih _ λy hy=>hl y (hV _ hy)
exact(dE (λz:Sem (List (Str×Addr))=>z >>= λs=>pure s) (go scope.names [] h)).trans rfl)
theorem q59{env:Env}{x:Str}{c:Addr}:∀(l:List (Str×NameKind)) (cs:List (Str×Addr)),(cs.lookup x=some c→env.cells.lookup x=some c)→(clOf env l cs).lookup x=some c→env.cells.lookup x=some c
| [],cs,hcs,h=>hcs h
|(n,k)::r,cs,hcs,h=>by
 refine q59 r _ ?_ h;intro q;split at q
 ·cases e:env.cells.lookup n with
  |none=>rw[e]at q;exact hcs q
  |some a=>
   rw[e]at q;have q:List.lookup x ((n,a)::cs)=some c:=q;rw[dU]at q;cases z:x==n with
   |true=>
    rw[z]at q;have z':x=n:=by simpa using z
    rw[z',e,←q]
   |false=>rw[z]at q;exact hcs q
 exact hcs q
theorem q5A{env:Env}{x:Str}{c:Addr}(e:env.cells.lookup x=some c):∀(l:List (Str×NameKind)) (cs:List (Str×Addr)),((x,NameKind.free)∈l∨cs.lookup x=some c)→(clOf env l cs).lookup x=some c
| [],cs,h=>h.resolve_left (by simp)
|(n,k)::r,cs,h=>by
 refine q5A e r _ ?_;by_cases hn:(x==n)=true
 ·have z':x=n:=by simpa using hn
  by_cases hk:(k==NameKind.free)=true
  ·refine .inr ?_;rw[hU hk,←z',e];show List.lookup x ((x,c)::cs)=some c;simp
  rcases h with h|h
  ·rcases kI.mp h with q|q
   ·cases q;exact absurd (by simp) hk
   exact .inl q
  rw[hC hk];exact .inr h
 have nx:x≠n:=λz=>hn (by simp[z]);rcases h with h|h
 ·rcases kI.mp h with q|q
  ·cases q;exact absurd rfl nx
  exact .inl q
 refine .inr ?_;split
 ·cases en:env.cells.lookup n with
  |none=>exact h
  |some a=>
   show List.lookup x ((n,a)::cs)=some c;have hn:(x==n)=false:=by simpa using nx
   rw[dU,hn];exact h
 exact h
theorem q8T{env:Env}{x:Str}:∀{names:List (Str×NameKind)},(∀y∈names,y.2≠ .cell)→((names.map λ(n,k)=>if(k==NameKind.free&&env.scope.kind== .function&&env.kindOf n==some .cell)then(n,NameKind.cell)else(n,k)).lookup x=some .cell∨(names.map λ(n,k)=>if(k==NameKind.free&&env.scope.kind== .function&&env.kindOf n==some .cell)then(n,NameKind.cell)else(n,k)).lookup x=some .free)→(x,NameKind.free)∈names
| [],_,h=>by simp at h
|(n,k)::r,hc,h=>by
 have ih:=@q8T env x r λy hy=>hc y (hV _ hy);rw[mR]at h;by_cases hq:(k==NameKind.free&&env.scope.kind== .function&&env.kindOf n==some .cell)=true
 ·have hk:k=.free:=by rw[mP,mP]at hq;simpa using hq.1.1
  simp only[hU hq,dU]at h;cases hx:x==n with
  |true=>
   have e:x=n:=by simpa using hx
   rw[e,hk];exact kZ
  |false=>simp only[hx]at h;exact hV _ (ih h)
 simp only[hC hq,dU]at h;cases hx:x==n with
 |true=>
  simp only[hx]at h;have e:x=n:=by simpa using hx
  rcases h with h|h
  ·cases h;exact absurd rfl (hc _ kZ)
  cases h;rw[e];exact kZ
 |false=>simp only[hx]at h;exact hV _ (ih h)
theorem q8U{env:Env}{x:Str}(hk:env.scope.kind=.function)(he:env.kindOf x=some .cell):∀{names:List (Str×NameKind)},names.lookup x=some .free→(names.map λ(n,k)=>if(k==NameKind.free&&env.scope.kind== .function&&env.kindOf n==some .cell)then(n,NameKind.cell)else(n,k)).lookup x=some .cell
| [],h=>by simp at h
|(n,k)::r,h=>by
 have ih:=@q8U env x hk he r;rw[mR];rw[dU]at h;cases hx:x==n with
 |true=>
  simp only[hx]at h;have e:x=n:=by simpa using hx
  cases h;subst e;show List.lookup x ((if(NameKind.free==NameKind.free&&env.scope.kind==ScopeKind.function&&env.kindOf x==some NameKind.cell)=true then(x,NameKind.cell)else(x,NameKind.free))::_)=_;rw[hU (by rw[hk,he];rfl),dU];simp
 |false=>
  simp only[hx]at h;show List.lookup x ((if(k==NameKind.free&&env.scope.kind==ScopeKind.function&&env.kindOf n==some NameKind.cell)=true then(n,NameKind.cell)else(n,k))::_)=_;by_cases hq:(k==NameKind.free&&env.scope.kind== .function&&env.kindOf n==some .cell)=true
  ·rw[hU hq,dU];simp only[hx];exact ih h
  rw[hC hq,dU];simp only[hx];exact ih h
noncomputable abbrev v5(X:Cx)(N:List Str)(scope:Scope)(C:Addr)(fp:List Addr)(s:Shared)(H:Hp)(xe:Value→Shared→Prop):Cx:={ X with N:=N,s₀:=s,H₀:=H,env:=compEnvC scope (clOf X.env scope.names []) C X.env,outer:=X.stack,ex:=fp,fn:=λ_=>false,xe:=xe }
noncomputable def pick(ix:List Nat)(σ:St):St:=ix.map λi=>σ.getD i none
noncomputable def q70(XN:List Str)(kd:Str→Option NameKind)(names:List (Str×NameKind))(N:List Str)(ix:List Nat):Bool:=(List.range ix.length).all λj=>match N[j]?,ix[j]? with
 |some x,some i=>decide (XN[i]?=some x)&&decide (names.lookup x=some .free)&&decide (kd x=some .cell)
 |_,_=>false
theorem qDF{XN:List Str}{kd:Str→Option NameKind}{names:List (Str×NameKind)}{N:List Str}{ix:List Nat}(h:q70 XN kd names N ix=true){j:Nat}(hj:j<ix.length){x:Str}(hx:N[j]?=some x):
 ∃i,ix[j]?=some i∧XN[i]?=some x∧names.lookup x=some .free∧kd x=some .cell:=by(
unfold q70 at h
rw[dW]at h
have q:=h j (mK.mpr hj)
rw[hx,kD hj]at q
simp only[mP,kQ]at q
exact⟨_,kD hj,q.1.1,q.1.2,q.2⟩)
theorem qFC{X:Cx}{pins:List (Addr×Obj)}{σ:St}{H:Hp}{s:Shared}(I:Inv X pins σ H s){N:List Str}{ix:List Nat}{scope:Scope}{fp:List Addr}{xe:Value→Shared→Prop}(hf:∀b∈fp,FpOk X pins H b)(ho:∀b∈fp,∃o,s.heap.get? b=some o)
 (hk:scope.kind=.function) (hc:∀y∈scope.names,y.2≠ .cell) (hfr:∀y∈scope.names,y.2=.free→X.env.kindOf y.1=some .cell) (hcap:q70 X.N X.env.kindOf scope.names N ix=true) (hN:ix.length≤N.length) {h₁:Heap} {tk n:Nat} {m:Str→Option Value}
 (hn:h₁.Ns (s.heap.objs.size+1) m) (hkp:∀b u,s.heap.get? b=some u→h₁.get? b=some u) (hD:h₁.get? s.heap.objs.size=some { cls:=.type "list",data:=.seq ([]:List Value).toArray n }):
 Inv (v5 X N scope (s.heap.objs.size+1) fp s H xe) [] (pick ix σ++List.replicate (N.length-ix.length) none) (upd H s.heap.objs.size (.lst [])) { s with heap:=h₁,toks:=tk }:=by(
have fresh:H s.heap.objs.size=none:=I.hok.fresh (kJ _)
have fresh1:H (s.heap.objs.size+1)=none:=I.hok.fresh (dL _)
have cel:∀x c,(clOf X.env scope.names []).lookup x=some c→X.env.cells.lookup x=some c:=λx c e=>q59 _ _ (by intro q;simp at q) e
have clt:∀x c,(clOf X.env scope.names []).lookup x=some c→c<s.heap.objs.size:=λx c e=>by obtain⟨v,q⟩:=I.cell x c (cel x c e);exact q.lt
refine⟨⟨I.ok.mod,hk,I.ok.glob,I.ok.blt,dL _,λx y c h1 h2=>I.ok.inj x y c (cel x c h1) (cel y c h2),λx hx=>?_,λx c h=>absurd h kU,I.ok.hd,I.ok.frames,.inl rfl,λb hb=>⟨?_,λx c e=>?_⟩,I.bs,mD I.ok.bsz I.sz,λb o e hb=>?_,λb hb z=>?_,I.stack,I.stkFree⟩,rfl,I.bare,Un.laid hkp (kJ _) fresh,⟨m,hn,λi x v e1 e2 e3=>?_⟩,λx c e=>?_,?_,λx c e=>?_,λp hp=>?_,I.hok.laid hkp (kJ _) ⟨by simp,[],n,.nil,hD⟩,?_⟩
·have hx:(x,NameKind.free)∈scope.names:=q8T hc hx;obtain⟨c,e⟩:=I.ok.has x (.inl (hfr _ hx rfl));exact⟨c,q5A e _ _ (.inl hx)⟩
·obtain⟨o,e⟩:=ho b hb;exact mY (rV (mB e))
·exact(hf b hb).2.2.2.2.1 x c (cel x c e)
·rcases(hf b hb).2.2.2.1 with z|z
 ·exact I.ok.noex b o e z
 exact absurd (mV (mB e) (mD I.ok.bsz z)) (rE _)
·rcases kI.mp (I.stkSub b z)with z|z
 ·exact(hf b hb).2.1 z
 exact(hf b hb).2.2.1 z
·have hi:i<ix.length:=by
  by_cases hi:i<ix.length
  ·exact hi
  rw[cB (by simpa[pick]using hi),wD]at e2;split at e2<;>cases e2
 obtain⟨i0,q1,q2,q3,q4⟩:=qDF hcap hi e1;rw[sR (by simpa[pick]using hi)]at e2;have e2:σ[i0]?=some (some v):=by
  unfold pick at e2;rw[mL,q1]at e2;have e2:σ.getD i0 none=some v:=kW e2;rw[kN]at e2;cases z:σ[i0]? with
  |none=>rw[z]at e2;cases e2
  |some y=>rw[z]at e2;exact dE some e2
 obtain⟨mX,_,lX⟩:=I.loc;obtain⟨u,r,l⟩:=lX i0 x v q2 e2 (.inr (.inl q4));refine⟨u,r,.inr ⟨.inl (q8U I.ok.kind q4 q3),?_⟩⟩;rcases l with⟨l,_⟩|⟨_,c,e,z⟩
 ·rw[q4]at l;cases l
 obtain⟨o,e',d⟩:=z;exact⟨c,q5A e _ _ (.inl (gU q3)),o,hkp _ _ e',d⟩
·obtain⟨v,o,e',d⟩:=I.cell x c (cel x c e);exact⟨v,o,hkp _ _ e',d⟩
·show upd H s.heap.objs.size (.lst []) (s.heap.objs.size+1)=none;rw[qC (rT (wC _))];exact fresh1
·rw[qC (mY (clt x c e))];exact I.freeC x c (cel x c e)
·obtain⟨p1,p2,p3,p4,p5⟩:=I.pin p (gP _ (by simpa using hp));have lt:=mB p1;exact⟨hkp _ _ p1,by rw[qC (mY lt)];exact p2,mY (rV lt),λz=>(kI.mp (I.stkSub _ z)).elim p3 p4,p5⟩
show _=N.length
rw[mE,gN]
simp only[pick,hX]
lia)
noncomputable def PIf(X:Cx)(ifs:List Expr)(t:TT):Prop:=∀(pins:List (Addr×Obj)) (s:Shared) (σ:St) (H:Hp) (Q:Bool→Hp→Prop),Inv X pins σ H s→t σ H Q→wpAny (model X.prog X.w) X.A (forIn ifs true λc r=>if r=true then do let ok←isTrue c X.env (eval c X.env);pure (ForInStep.yield ok)else pure (ForInStep.yield r)) (TP X pins σ Q) X.xe s
noncomputable def q8V:TT:=λ_ H Q=>Q true H
theorem qDG{A B:Hp→Prop}{σ:St}{H:Hp}(h:A H):q8V σ H (λb H6=>if b=true then A H6 else B H6):=by show if true=true then A H else B H;rw[hU rfl];exact h
theorem qAW{X:Cx}:PIf X [] q8V:=λpins s σ H Q I h=>mH ⟨H,I,h⟩
theorem vF{X:Cx}{c:Expr}{t:TT}(hc:PT X c t):PIf X [c] t:=λpins s σ H Q I h=>by(
rw[aL]
show wpAny _ _ (bind (if true=true then _ else _) _) _ _ _
rw[hU rfl]
refine kB (kB (thn (hc pins s σ H Q I h) λb s1 q=>?_))
exact mH (mH q))
noncomputable def tLC(wi:TI)(g:TG)(tc:TT)(te:TE)(ix:List Nat)(k:Nat):TE:=λσ H Q=>wi σ H λJ H1=>∀D H2,H1 D=none→Same H1 H2→H2 D=some (.lst [])→∃W:Nat→Nat→Hp→Prop,(∃m,W 0 m H2)∧∀i m H3,W i m H3→(J.stop i H3∧Q (.ref D) H3)∨(J.go i H3∧∃N:Hp→Prop,(∀H',N H'→∃m',m'<m∧W (i+1) m' H')∧∀x H4,J.yld i H3 x H4→g x (pick ix σ++List.replicate k none) H4 λσ5 H5=>tc σ5 H5 λb H6=>
   if b=true then te σ5 H6 (λv H7=>∃vs,H7 D=some (.lst vs)∧vs.length<sizeLine∧N (upd H7 D (.lst (vs++[v]))))else N H6)
noncomputable def Own(g:TG)(k:Nat):Prop:=∀x σ H Q,g x σ H Q→g x σ H λσ' H'=>Q σ' H'∧σ'.length=σ.length∧∀j,j<k→σ'[j]?=σ[j]?
noncomputable def OwnS(g:TGs)(k:Nat):Prop:=∀(xs:List V) (σ:St) (H:Hp) (Q:St→Hp→Prop) (σ0:St),σ.length=σ0.length→(∀j,j<k→σ[j]?=σ0[j]?)→g xs σ H Q→g xs σ H λσ' H'=>Q σ' H'∧σ'.length=σ0.length∧∀j,j<k→σ'[j]?=σ0[j]?
theorem qFD{k:Nat}:OwnS gNil k:=λxs σ H Q σ0 h1 h2 ⟨e,q⟩=>⟨e,q,h1,h2⟩
theorem q8W{i k:Nat}{u:TGs}(h:k≤i)(hu:OwnS u k):OwnS (qGH (q2C i) u) k:=λxs σ H Q σ0 h1 h2 ⟨v,r,e,q⟩=>⟨v,r,e,hu r (σ.set i (some v)) H Q σ0 (gK.trans h1) (λj hj=>by rw[wZ (by lia)];exact h2 j hj) q⟩
theorem qFE{K:PySem.W.Frag}{n k:Nat}{g:TGs}(h:OwnS g k):Own (gTup K n g) k:=λx σ H Q ⟨a,xs,e1,e2,e3,q⟩=>⟨a,xs,e1,e2,e3,h xs σ H Q σ rfl (λ_ _=>rfl) q⟩
theorem u7{i k:Nat}(h:k≤i):Own (q2C i) k:=λx σ H Q q=>⟨q,gK,λj hj=>by rw[wZ (by lia)]⟩
theorem qFF{P:Program}{w:World}{A:Around}{R:Result→Shared→Prop}{s:Shared}{elt tg iter:Expr}{ifs:List Expr}{sc:Scope}{pos:Pos}{it acc:Value}{env:Env}(J:Nat→Shared→Prop)
 (turn:∀n s1,J n s1→wpAny (model P w) A (pyNext it) (λr s2=>match r with
  |none=>R (.ok .next) s2
  |some v=>wpAny (model P w) A (letOwnedTupleGo tg it v) (λ_ s3=>wpAny (model P w) A (assign tg env v) (λ_ s4=>
   wpAny (model P w) A (forIn ifs true λc r=>if r=true then do let ok←isTrue c env (eval c env);pure (ForInStep.yield ok)else pure (ForInStep.yield r)) (λok s5=>
    if ok=true then wpAny (model P w) A (eval elt env) (λx s6=>wpAny (model P w) A (call (.builtin "list.append") [acc,x]) (λ_ s7=>∃m,m<n∧J m s7) (notedBy (model P w) A env λe s'=>R (.error e) s') s6) (notedBy (model P w) A env λe s'=>R (.error e) s') s5
    else ∃m,m<n∧J m s5) (notedBy (model P w) A env λe s'=>R (.error e) s') s4) (notedBy (model P w) A env λe s'=>R (.error e) s') s3) (notedBy (model P w) A env λe s'=>R (.error e) s') s2) (notedBy (model P w) A env λe s'=>R (.error e) s') s1)
 (n:Nat) (h:J n s):codeAny (model P w) A (.compLoop (.ListComp elt [⟨tg,iter,ifs,0⟩] sc pos) 0 it acc env) R s:=by(
refine codeAny_loop rfl J (λm s1 hJ=>?_) n h
show wpAny _ A ((compTurn _ 0 it acc env).onRaise (λx=>do noteFrame x env;theTreesLotGoes x)) _ _ s1
refine wpAny_noted ?_
rw[compTurn_list]
refine kB (pQ (kB (thn (turn m s1 hJ) λr s2 h2=>?_)))
cases r with
|none=>exact mH h2
|some v=>
 refine kB (thn h2 λ_ s3 h3=>kB (thn h3 λ_ s4 h4=>kB (thn h4 λok s5 h5=>?_)));cases ok with
 |false=>exact mH ⟨rfl,h5⟩
 |true=>exact kB (kB (thn h5 λx s6 h6=>kB (thn h6 λ_ s7 h7=>mH (mH ⟨rfl,h7⟩)))))
structure TurnC(ok:Cx→Prop)(P:Program)(w:World)(K:PySem.W.Frag)(tg:Expr)(J:It)(fp:List Addr)(it:Addr)(tn:Nat→Heap→Prop):Prop where
obj:∀i h,tn i h→∀b∈fp,∃o,h.get? b=some o∧∀v,o.data≠ .cell v
keep:∀i h h',tn i h→(∀b∈fp,∀o,h.get? b=some o→h'.get? b=some o)→tn i h'
item:∀(X:Cx),X.prog=P→X.w=w→X.K=K→ok X→∀(i:Nat) (pins:List (Addr×Obj)) (s:Shared) (σ:St) (H:Hp) (E:Value→Shared→Prop),Inv X pins σ H s→(∀b∈fp,FpOk X pins H b)→tn i s.heap→J.go i H→wpAny (model P w) X.A (pyNext (.ref it)) (λr s1=>∃u,r=some u∧wpAny (model P w) X.A (letOwnedTupleGo tg (.ref it) u) (λ_ s2=>∃x H',Inv X pins σ H' s2∧RelV x u∧J.yld i H x H'∧tn (i+1) s2.heap∧∀b∈fp,H' b=none) E s1) E s
done:∀(X:Cx),X.prog=P→X.w=w→X.K=K→ok X→∀(i:Nat) (pins:List (Addr×Obj)) (s:Shared) (σ:St) (H:Hp) (E:Value→Shared→Prop),Inv X pins σ H s→(∀b∈fp,FpOk X pins H b)→tn i s.heap→J.stop i H→wpAny (model P w) X.A (pyNext (.ref it)) (λr s1=>r=none∧Inv X pins σ H s1) E s
self:∀(A:Around) (i:Nat) (s:Shared) (Q:Value→Shared→Prop) (E:Value→Shared→Prop),tn i s.heap→Q (.ref it) s→wpAny (model P w) A (pyIter (.ref it)) Q E s
noncomputable def PIc(ok:Cx→Prop)(X:Cx)(tg iter:Expr)(wi:TI):Prop:=∀(pins:List (Addr×Obj)) (s:Shared) (σ:St) (H:Hp) (R:It→Hp→Prop),Inv X pins σ H s→wi σ H R→wpAny (model X.prog X.w) X.A (eval iter X.env) (λv s1=>wpAny (model X.prog X.w) X.A (pyIter v) (λitv s2=>∃(it:Addr) (fp:List Addr) (tn:Nat→Heap→Prop) (J:It) (H':Hp),itv=.ref it∧Inv X pins σ H' s2∧TurnC ok X.prog X.w X.K tg J fp it tn∧tn 0 s2.heap∧(∀b∈fp,FpOk X pins H' b)∧R J H') X.xe s1) X.xe s
theorem PI.c{X:Cx}{tg iter:Expr}{wi:TI}(h:PI X tg iter wi):PIc (λX=>X.calm=true) X tg iter wi:=λpins s σ H R I q=>thn (h pins s σ H R I q) λv s1 h1=>thn h1 λitv s2 ⟨it,fp,tn,J,H',a,b,T,r⟩=>⟨it,fp,tn,J,H',a,b,⟨T.obj,T.keep,T.item,T.done,T.self⟩,r⟩
theorem qAX{X:Cx}{elt iter tg:Expr}{ifs:List Expr}{scope:Scope}{pos cp:Pos}{wi:TI}{g:TG}{tc:TT}{te:TE}{use:Option (Value→Sem Unit)}{QQ:Value→Shared→Prop}{pins:List (Addr×Obj)}{s:Shared}{σ:St}{H:Hp}{Q:VK}(N:List Str)(ix:List Nat)(ok:Cx→Prop)(hok:∀C fp s H xe,ok (v5 X N scope C fp s H xe))(hi:PIc ok X tg iter wi)
 (hg:∀C fp s H xe,PG (v5 X N scope C fp s H xe) tg g) (hif:∀C fp s H xe,PIf (v5 X N scope C fp s H xe) ifs tc) (he:∀C fp s H xe,PE (v5 X N scope C fp s H xe) elt te)
 (hk:scope.kind=.function) (hc:∀y∈scope.names,y.2≠ .cell) (hfr:∀y∈scope.names,y.2=.free→X.env.kindOf y.1=some .cell) (hcap:q70 X.N X.env.kindOf scope.names N ix=true) (hN:ix.length≤N.length)
 (hnames:∀x∈scope.names,x.2=.local→scope.names.lookup x.1=some .local) (hown:Own g ix.length) (I:Inv X pins σ H s) (h:tLC wi g tc te ix (N.length-ix.length) σ H Q)
 (hfin:∀(C D:Addr) (H':Hp) (s':Shared) (m:Str→Option Value),s'.heap.Ns C m→FpOk X pins H' C→(∀h',Heap.SameBut C s'.heap h'→Inv X pins σ H' { s' with heap:=h' })→Q (.ref D) H'→compPost (model X.prog X.w) X.A X.xe use QQ (.ref D) C (.ok .next) s')
 (hs:∀x,foldedSetIterable iter X.env x=pure x:=by intro _;rfl):
 wpAny (model X.prog X.w) X.A (comprehension (.ListComp elt [⟨tg,iter,ifs,0⟩] scope pos) scope X.env cp (newList []) false (eval iter X.env) use) QQ X.xe s:=by(
refine wpAny_comprehension_free (use:=use) (cl:=clOf X.env scope.names []) rfl hs (q58 λy hy hyf=>I.ok.has _ (.inl (hfr y hy hyf))) hk hnames (thn (hi pins s σ H _ I h) λv s1 h1=>thn h1 λitv s2 h2=>?_)
obtain⟨it,fp,tn,J,H2,e,I2,T,st2,f2,q2⟩:=h2
subst e
refine xS (lU hc (by intro y hy;simp at hy) (λh₁ hns₁ hsb₁=>?_) hk)
dsimp only at hns₁ hsb₁ ⊢
rw[sJ]at hns₁ hsb₁ ⊢
have old:∀b o,s2.heap.get? b=some o→h₁.get? b=some o:=λb o e=>hsb₁.extBut b o (mY (rV (mB e))) (kF _ (kF _ e))
have hacc:h₁.get? s2.heap.objs.size=some { cls:=.type "list",data:=.seq ([]:List Value).toArray }:=hsb₁.extBut _ _ (mY (wC _)) (kF _ (mU _ rfl))
have fob:∀b∈fp,∃o,s2.heap.get? b=some o:=λb hb=>let⟨o,e,_⟩:=T.obj _ _ st2 b hb;⟨o,e⟩
have fresh:H2 s2.heap.objs.size=none:=I2.hok.fresh (kJ _)
obtain⟨W,⟨m0,w0⟩,turn⟩:=q2 s2.heap.objs.size (upd H2 s2.heap.objs.size (.lst [])) fresh (Same.upd fresh) qH
have fin:∀{pY σ' H' s'},Inv (v5 X N scope (s2.heap.objs.size+1) fp s2 H2 (notedBy (model X.prog X.w) X.A (compEnvC scope (clOf X.env scope.names []) (s2.heap.objs.size+1) X.env) λe s'=>compPost (model X.prog X.w) X.A X.xe use QQ (.ref s2.heap.objs.size) (s2.heap.objs.size+1) (.error e) s')) pY σ' H' s'→Q (.ref s2.heap.objs.size) H'→compPost (model X.prog X.w) X.A X.xe use QQ (.ref s2.heap.objs.size) (s2.heap.objs.size+1) (.ok .next) s':=fun {pY σ' H' s'} J q=>by
 obtain⟨m,hm,_⟩:=id J.loc;refine hfin (s2.heap.objs.size+1) s2.heap.objs.size H' s' m hm (I2.fpOk (dL _) J.free) (λh' sb=>?_) q;have eb:∀b o,b≠s2.heap.objs.size+1→s'.heap.get? b=some o→h'.get? b=some o:=λb o nb e=>sb.extBut b o nb e;have low:∀b o,s2.heap.get? b=some o→b≠s2.heap.objs.size+1:=λb o e=>mY (rV (mB e));have u:=J.base;have nC:H' (s2.heap.objs.size+1)=none:=J.free;refine I2.call' (ch:=fp) (s':={ s' with heap:=h' }) J.os ⟨λb o e n1 n2 n3=>eb b o (low b o e) (u.keep b o e n1 n2 n3),λb o e n1 n2 n3=>?_,u.free,λb o e n1=>?_,u.tups,u.frzs,u.tbls⟩ (λb o e=>?_) J.bare λb hb=>⟨(f2 b hb).2.2.2.1,(f2 b hb).2.1,(f2 b hb).2.2.2.2.1,(f2 b hb).2.2.2.2.2⟩
 ·obtain⟨sl,q1⟩:=u.slot b o e n1 n2 n3;exact⟨sl,eb b _ (low b o e) q1⟩
 ·obtain⟨o',q1⟩:=u.there b o e n1;exact⟨o',eb b _ (low b o e) q1⟩
 refine(J.hok b o e).stay (λc v hc q1=>eb c v ?_ q1) (λ_ q1=>q1) λ_ _ q1=>q1;rcases hc with rfl|z
 ·exact qI e nC
 exact qI z nC
have IY:Inv (v5 X N scope (s2.heap.objs.size+1) fp s2 H2 (notedBy (model X.prog X.w) X.A (compEnvC scope (clOf X.env scope.names []) (s2.heap.objs.size+1) X.env) λe s'=>compPost (model X.prog X.w) X.A X.xe use QQ (.ref s2.heap.objs.size) (s2.heap.objs.size+1) (.error e) s')) [] (pick ix σ++List.replicate (N.length-ix.length) none) (upd H2 s2.heap.objs.size (.lst [])) { s2 with heap:=h₁,toks:=s2.toks+([]:List (Str×Value)).length }:=qFC I2 f2 fob hk hc hfr hcap hN hns₁ old hacc
generalize hY:v5 X N scope (s2.heap.objs.size+1) fp s2 H2 (notedBy (model X.prog X.w) X.A (compEnvC scope (clOf X.env scope.names []) (s2.heap.objs.size+1) X.env) λe s'=>compPost (model X.prog X.w) X.A X.xe use QQ (.ref s2.heap.objs.size) (s2.heap.objs.size+1) (.error e) s')=Y at IY fin
have hgY:PG Y tg g:=hY▸hg _ _ _ _ _
have hifY:PIf Y ifs tc:=hY▸hif _ _ _ _ _
have heY:PE Y elt te:=hY▸he _ _ _ _ _
have hP:Y.prog=X.prog:=by rw[←hY]
have hw:Y.w=X.w:=by rw[←hY]
have hK:Y.K=X.K:=by rw[←hY]
have hcl:ok Y:=hY▸hok _ _ _ _ _
have stat:∀{H':Hp},(∀b∈fp,H' b=none)→∀b∈fp,FpOk Y [] H' b:=fun {H'} hn b hb=>by
 rw[←hY];refine⟨hn b hb,?_,λz=>?_,.inl hb,λx c e=>?_,λp hp=>(f2 b hb).2.2.2.2.2 p (gP _ (by simpa using hp))⟩
 ·obtain⟨o,e⟩:=fob b hb;exact mY (rV (mB e))
 ·rcases kI.mp (I2.stkSub b z)with z|z
  ·exact(f2 b hb).2.1 z
  exact(f2 b hb).2.2.1 z
 exact(f2 b hb).2.2.2.2.1 x c (q59 _ _ (by intro q;simp at q) e)
have loop:codeAny (model X.prog X.w) X.A (.compLoop (.ListComp elt [⟨tg,iter,ifs,0⟩] scope pos) 0 (.ref it) (.ref s2.heap.objs.size) (compEnvC scope (clOf X.env scope.names []) (s2.heap.objs.size+1) X.env))
 (compPost (model X.prog X.w) X.A X.xe use QQ (.ref s2.heap.objs.size) (s2.heap.objs.size+1)) { s2 with heap:=h₁,toks:=s2.toks+([]:List (Str×Value)).length }:=by
 refine qFF (λn s'=>∃i H',Inv Y [] (pick ix σ++List.replicate (N.length-ix.length) none) H' s'∧tn i s'.heap∧(∀b∈fp,H' b=none)∧W i n H') ?_ m0
  ⟨0,_,IY,T.keep _ _ _ st2 (λb hb o e=>old b o e),λb hb=>by obtain⟨o,e⟩:=fob b hb;rw[qC (mY (mB e))];exact(f2 b hb).1,w0⟩
 rintro n s3 ⟨i,H3,I3,st3,fr3,w3⟩
 rcases turn i n H3 w3 with⟨stop,qn⟩|⟨go,NN,hNN,step⟩
 ·have d:=T.done Y hP hw hK hcl i [] s3 _ H3 Y.xe I3 (stat fr3) st3 stop;subst hY;refine thn d λr s4 hZ=>?_;obtain⟨hr,I4⟩:=hZ;subst hr;exact fin I4 qn
 have d:=T.item Y hP hw hK hcl i [] s3 _ H3 Y.xe I3 (stat fr3) st3 go;have again:∀{p5:List (Addr×Obj)} {s5 s8:Shared} {σ6:St} {H8:Hp},p5=q4Y fp s5.heap→tn (i+1) s5.heap→σ6.length=(pick ix σ++List.replicate (N.length-ix.length) none).length→(∀j,j<ix.length→σ6[j]?=(pick ix σ++List.replicate (N.length-ix.length) none)[j]?)→Inv Y ([]++p5) σ6 H8 s8→NN H8→∃m',m'<n∧∃i H',Inv Y [] (pick ix σ++List.replicate (N.length-ix.length) none) H' s8∧tn i s8.heap∧(∀b∈fp,H' b=none)∧W i m' H':=fun {p5 s5 s8 σ6 H8} e5 st5 l6 k6 I8 q8=>by
  subst e5;obtain⟨m',hm,w8⟩:=hNN _ q8;refine⟨m',hm,i+1,H8,I8.unpinned.weak l6.symm (λj v e=>?_),T.keep _ _ _ st5 λb hb o e=>(I8.pin (b,o) (mO _ (mO _ (uU hb e)))).1,λb hb=>?_,w8⟩
  ·by_cases hj:j<ix.length
   ·rw[k6 j hj];exact e
   rw[cB (by simpa[pick]using hj),wD]at e;split at e<;>cases e
  obtain⟨o,e,_⟩:=T.obj _ _ st5 b hb;exact(I8.pin (b,o) (mO _ (mO _ (uU hb e)))).2.1
 have tail:∀(r:Option Value) (s4:Shared),(∃u,r=some u∧wpAny (model Y.prog Y.w) Y.A (letOwnedTupleGo tg (.ref it) u) (λ_ s2=>∃x H',Inv Y [] (pick ix σ++List.replicate (N.length-ix.length) none) H' s2∧RelV x u∧J.yld i H3 x H'∧tn (i+1) s2.heap∧∀b∈fp,H' b=none) Y.xe s4)→(match r with
  |none=>compPost (model X.prog X.w) X.A X.xe use QQ (.ref s2.heap.objs.size) (s2.heap.objs.size+1) (.ok .next) s4
  |some v=>wpAny (model Y.prog Y.w) Y.A (letOwnedTupleGo tg (.ref it) v) (λ_ s₁=>wpAny (model Y.prog Y.w) Y.A (assign tg Y.env v) (λ_ s₂=>
   wpAny (model Y.prog Y.w) Y.A (forIn ifs true λc r=>if r=true then do let ok←isTrue c Y.env (eval c Y.env);pure (ForInStep.yield ok)else pure (ForInStep.yield r)) (λok s₃=>
    if ok=true then wpAny (model Y.prog Y.w) Y.A (eval elt Y.env) (λx s₄=>wpAny (model Y.prog Y.w) Y.A (call (.builtin "list.append") [.ref s2.heap.objs.size,x]) (λ_ s₅=>∃m,m<n∧∃i H',Inv Y [] (pick ix σ++List.replicate (N.length-ix.length) none) H' s₅∧tn i s₅.heap∧(∀b∈fp,H' b=none)∧W i m H') Y.xe s₄) Y.xe s₃
    else ∃m,m<n∧∃i H',Inv Y [] (pick ix σ++List.replicate (N.length-ix.length) none) H' s₃∧tn i s₃.heap∧(∀b∈fp,H' b=none)∧W i m H') Y.xe s₂) Y.xe s₁) Y.xe s4):=by
  rintro r s4 ⟨u,rfl,h4⟩
  dsimp only;refine thn h4 λ_ s5 hZ=>?_;obtain⟨x,H5,I5,r5,y5,st5,fr5⟩:=hZ;have I5':=I5.pinned (stat fr5) (T.obj _ _ st5);refine thn (hgY _ s5 _ H5 x u _ I5' r5 (hown _ _ _ _ (step x H5 y5))) λ_ s6 hZ=>?_;obtain⟨σ6,H6,I6,q6,l6,k6⟩:=hZ;refine thn (hifY _ s6 σ6 H6 _ I6 q6) λb s7 hZ=>?_;obtain⟨H7,I7,q7⟩:=hZ;cases b with
  |false=>rw[hC (by decide)]at q7 ⊢;exact again rfl st5 l6 k6 I7 q7
  |true=>rw[hU rfl]at q7 ⊢;refine thn (heY _ s7 σ6 H7 _ I7 q7) λy s8 hZ=>?_;obtain⟨v,H8,I8,r8,vs,e8,hz,q8⟩:=hZ;refine thn (q1V (X:=Y) _ s8 σ6 H8 (.ref s2.heap.objs.size) [v] (.ref s2.heap.objs.size) [y] (λ_ H9=>NN H9) I8 rfl (.cons r8 .nil) ⟨s2.heap.objs.size,vs,v,rfl,rfl,e8,hz,q8⟩) λ_ s9 hZ=>?_;obtain⟨_,H9,I9,_,q9⟩:=hZ;exact again rfl st5 l6 k6 I9 q9
 subst hY;exact thn d tail
exact codeAny_compStart_list loop (T.self X.A 0 _ _ _ (T.keep _ _ _ st2 λb hb o e=>old b o e) loop))
theorem qJS{X:Cx}{elt iter tg:Expr}{ifs:List Expr}{scope:Scope}{pos:Pos}{wi:TI}{g:TG}{tc:TT}{te:TE}(N:List Str)(ix:List Nat)(hcalm:X.calm=true)(hi:PI X tg iter wi)
 (hg:∀C fp s H xe,PG (v5 X N scope C fp s H xe) tg g) (hif:∀C fp s H xe,PIf (v5 X N scope C fp s H xe) ifs tc) (he:∀C fp s H xe,PE (v5 X N scope C fp s H xe) elt te)
 (hk:scope.kind=.function) (hc:∀y∈scope.names,y.2≠ .cell) (hfr:∀y∈scope.names,y.2=.free→X.env.kindOf y.1=some .cell) (hcap:q70 X.N X.env.kindOf scope.names N ix=true) (hN:ix.length≤N.length)
 (hnames:∀x∈scope.names,x.2=.local→scope.names.lookup x.1=some .local) (hown:Own g ix.length) (hs:∀x,foldedSetIterable iter X.env x=pure x:=by intro _;rfl):
 PE X (.ListComp elt [⟨tg,iter,ifs,0⟩] scope pos) (tLC wi g tc te ix (N.length-ix.length)):=by intro pins s σ H Q I h;rw[eval_ListComp];exact qAX N ix _ (λ_ _ _ _ _=>hcalm) hi.c hg hif he hk hc hfr hcap hN hnames hown I h (λC D H' s' m hm fok inv q=>⟨m,hm,λh' sb=>⟨.ref D,H',inv h' sb,rfl,q⟩⟩) hs
noncomputable def qAY(XN:List Str)(kd:Str→Option NameKind)(sc:Scope)(N:List Str)(ix:List Nat):Bool:=decide (sc.kind=.function)&&sc.names.all (λy=>decide (y.2≠ .cell)&&(decide (y.2≠ .free)||decide (kd y.1=some .cell))&&(decide (y.2≠ .local)||decide (sc.names.lookup y.1=some .local)))&&q70 XN kd sc.names N ix&&decide (ix.length≤N.length)
theorem q0C{X:Cx}{elt iter tg:Expr}{ifs:List Expr}{scope:Scope}{pos:Pos}{wi:TI}{g:TG}{tc:TT}{te:TE}(N:List Str)(ix:List Nat)(hcalm:X.calm=true)(hi:PI X tg iter wi)
 (hg:∀C fp s H xe,PG (v5 X N scope C fp s H xe) tg g) (hif:∀C fp s H xe,PIf (v5 X N scope C fp s H xe) ifs tc) (he:∀C fp s H xe,PE (v5 X N scope C fp s H xe) elt te)
 (ok:qAY X.N X.env.kindOf scope N ix=true) (hown:Own g ix.length) (hs:∀x,foldedSetIterable iter X.env x=pure x:=by intro _;rfl):
 PE X (.ListComp elt [⟨tg,iter,ifs,0⟩] scope pos) (tLC wi g tc te ix (N.length-ix.length)):=by(
unfold qAY at ok
rw[mP,mP,mP,dW]at ok
obtain⟨⟨⟨h1,h2⟩,h3⟩,h4⟩:=ok
have h2':∀y∈scope.names,y.2≠ .cell∧(y.2≠ .free∨X.env.kindOf y.1=some .cell)∧(y.2≠ .local∨scope.names.lookup y.1=some .local):=λy hy=>by have q:=h2 y hy;rw[mP,mP,wR,wR,kQ,kQ,kQ,kQ,kQ]at q;exact⟨q.1.1,q.1.2,q.2⟩
exact qJS N ix hcalm hi hg hif he (mF h1) (λy hy=>(h2' y hy).1) (λy hy e=>(h2' y hy).2.1.resolve_left (λz=>z e)) h3 (mF h4) (λy hy e=>(h2' y hy).2.2.resolve_left (λz=>z e)) hown hs)
theorem qDH{lo:Int}{n:Nat}{D:Addr}{H2:Hp}{g:TG}{tc:TT}{te:TE}{σ0:St}{Q:VK}(Pv:Nat→Hp→Prop)(h0:Pv 0 H2)
 (hs:∀(i:Nat) H,i<n→Pv i H→g (.int (lo+i)) σ0 H λσ5 H5=>tc σ5 H5 λb H6=>if b=true then te σ5 H6 (λv H7=>∃vs,H7 D=some (.lst vs)∧vs.length<sizeLine∧Pv (i+1) (upd H7 D (.lst (vs++[v]))))else Pv (i+1) H6) (hd:∀H,Pv n H→Q (.ref D) H):
 ∃W:Nat→Nat→Hp→Prop,(∃m,W 0 m H2)∧∀i m H3,W i m H3→((Itr lo n).stop i H3∧Q (.ref D) H3)∨((Itr lo n).go i H3∧∃N:Hp→Prop,(∀H',N H'→∃m',m'<m∧W (i+1) m' H')∧∀x H4,(Itr lo n).yld i H3 x H4→g x σ0 H4 λσ5 H5=>tc σ5 H5 λb H6=>
   if b=true then te σ5 H6 (λv H7=>∃vs,H7 D=some (.lst vs)∧vs.length<sizeLine∧N (upd H7 D (.lst (vs++[v]))))else N H6):=by(
refine⟨λi m H=>m=n-i∧i≤n∧Pv i H,⟨n,by simp,mQ _,h0⟩,?_⟩
rintro i m H ⟨rfl,hi,p⟩
by_cases hlt:i<n
·refine .inr ⟨hlt,Pv (i+1),λH' z=>⟨n-(i+1),by lia,rfl,by lia,z⟩,?_⟩;rintro x H4 ⟨rfl,rfl⟩
 exact hs i _ hlt p
obtain rfl:i=n:=by lia
exact .inl ⟨kJ _,hd _ p⟩)
theorem qAZ{K:PySem.W.Frag}{a:Addr}{xs:List V}{D:Addr}{H2:Hp}{g:TG}{tc:TT}{te:TE}{σ0:St}{Q:VK}(Pv:Nat→Hp→Prop)(h0:Pv 0 H2)(hl:∀i H,Pv i H→SqL K H a xs)
 (hs:∀(i:Nat) x H,xs[i]?=some x→Pv i H→g x σ0 H λσ5 H5=>tc σ5 H5 λb H6=>if b=true then te σ5 H6 (λv H7=>∃vs,H7 D=some (.lst vs)∧vs.length<sizeLine∧Pv (i+1) (upd H7 D (.lst (vs++[v]))))else Pv (i+1) H6) (hd:∀H,Pv xs.length H→Q (.ref D) H):
 ∃W:Nat→Nat→Hp→Prop,(∃m,W 0 m H2)∧∀i m H3,W i m H3→((Itl K a).stop i H3∧Q (.ref D) H3)∨((Itl K a).go i H3∧∃N:Hp→Prop,(∀H',N H'→∃m',m'<m∧W (i+1) m' H')∧∀x H4,(Itl K a).yld i H3 x H4→g x σ0 H4 λσ5 H5=>tc σ5 H5 λb H6=>
   if b=true then te σ5 H6 (λv H7=>∃vs,H7 D=some (.lst vs)∧vs.length<sizeLine∧N (upd H7 D (.lst (vs++[v]))))else N H6):=by(
refine⟨λi m H=>m=xs.length-i∧i≤xs.length∧Pv i H,⟨xs.length,by simp,mQ _,h0⟩,?_⟩
rintro i m H ⟨rfl,hi,p⟩
have hq:=hl i H p
by_cases hlt:i<xs.length
·have e1:xs[i]?=some xs[i]:=kD hlt;refine .inr ⟨⟨xs,_,hq,e1⟩,Pv (i+1),λH' z=>⟨xs.length-(i+1),by lia,rfl,by lia,z⟩,?_⟩;rintro x H4 ⟨rfl,hx⟩
 exact hs i x _ (hx xs hq) p
obtain rfl:i=xs.length:=by lia
exact .inl ⟨⟨xs,hq,kJ _⟩,hd _ p⟩)
theorem qDI{K:PySem.W.Frag}{a:Addr}{xs:List V}{k:Nat}{D:Addr}{H2:Hp}{te:TE}{σ0:St}{Q:VK}(Pv:Nat→Hp→Prop)(h0:Pv 0 H2)(hl:∀i H,Pv i H→SqL K H a xs)
 (hs:∀(i:Nat) x H,xs[i]?=some x→Pv i H→te (σ0.set k (some x)) H (λv H7=>∃vs,H7 D=some (.lst vs)∧vs.length<sizeLine∧Pv (i+1) (upd H7 D (.lst (vs++[v]))))) (hd:∀H,Pv xs.length H→Q (.ref D) H):
 ∃W:Nat→Nat→Hp→Prop,(∃m,W 0 m H2)∧∀i m H3,W i m H3→((Itl K a).stop i H3∧Q (.ref D) H3)∨((Itl K a).go i H3∧∃N:Hp→Prop,(∀H',N H'→∃m',m'<m∧W (i+1) m' H')∧∀x H4,(Itl K a).yld i H3 x H4→q2C k x σ0 H4 λσ5 H5=>q8V σ5 H5 λb H6=>if b=true then te σ5 H6 (λv H7=>∃vs,H7 D=some (.lst vs)∧vs.length<sizeLine∧N (upd H7 D (.lst (vs++[v]))))else N H6):=qAZ (g:=q2C k) (tc:=q8V) Pv h0 hl (λi x H hx p=>qDG (σ:=σ0.set k (some x)) (A:=λH6=>te (σ0.set k (some x)) H6 _) (B:=λH6=>Pv (i+1) H6) (hs i x H hx p)) hd
noncomputable def rEmp(K:PySem.W.Frag):R2:=λx y H Q=>∃p xs e,x=.ref p∧y=.ref e∧SqL K H p xs∧SqL K H e []∧Q (.bl (decide (xs=[]))) H
theorem q9Y{X:Cx}(hu:X.A.units+64<cLine):OpR X (compareOp .Eq) (rEmp X.K):=by(
intro pins s σ H x y v u Q I rx ry hZ
obtain⟨p,xs,e,ex,ey,hp,he,q⟩:=hZ
subst ex ey
cases rx
cases ry
obtain⟨i1,r1,p1,_⟩:=I.list hp
obtain⟨i2,r2,p2,_⟩:=I.list he
have l1:=r1.length
have l2:=r2.length
cases xs with
|nil=>exact SeqAt.eq_listAt (e:=λ_=>true) p1.isList p2.isList (by simp at l1 l2 ⊢;lia) (by lia) (λj h1 h2=>by simp at l1 h1;lia) ⟨.bl true,H,I,by rw[qDE];rfl,q⟩
|cons z zs=>exact SeqAt.eq_list_lengthsAt p1.isList p2.isList (by simp at l1 l2 ⊢;lia) (by lia) ⟨.bl false,H,I,rfl,q⟩)
structure Mk0(K:PySem.W.Frag)(C:Addr):Prop where
makes:PySem.W.makesIn K C=true
init:PySem.W.findIn K (.ref C) "__init__"=some (some (.builtin "object.__init__"))
kp:PySem.W.keepIn K (.ref C)=true
section
variable{X:Cx}{C:Addr}{x:Str}{p pos:Pos}
noncomputable def tMk0(C:Addr):TE:=λσ H Q=>∀x dx,H x=none→H dx=none→dx≠x→Q (.ref x) (upd (upd H dx (.own x)) x (.ins C dx []))
theorem qDJ{pins:List (Addr×Obj)}{σ:St}{H:Hp}{s:Shared}{Q:VK}(M:Mk0 X.K C)(I:Inv X pins σ H s)(h:tMk0 C σ H Q):wpAny (model X.prog X.w) X.A (call (.ref C) []) (EP X pins σ Q) X.xe s:=by(
have hq:=h (s.heap.objs.size+1) s.heap.objs.size (I.hok.fresh (dL _)) (I.hok.fresh (kJ _)) (mY (wC _))
have I2:=Inv.made (C:=C) I
have kin:=I.kIn
obtain⟨hp,g,d,t,os⟩:=s
have Y:=aB (M:=model X.prog X.w) kin M.makes
have hx:((hp.push PySem.W.emptyDict).push (PySem.W.instObj C hp.objs.size)).get? (hp.objs.size+1)=some (PySem.W.instObj C hp.objs.size):=by have:=mU (hp.push PySem.W.emptyDict) (o:=PySem.W.instObj C hp.objs.size) rfl;rwa [sJ]at this
have ty:PySem.W.Looks (model X.prog X.w) ((hp.push PySem.W.emptyDict).push (PySem.W.instObj C hp.objs.size)) (typeOf (.ref (hp.objs.size+1))) (.ref C):=(aD hx).andThen .now
have top:PySem.W.Looks (model X.prog X.w) ((hp.push PySem.W.emptyDict).push (PySem.W.instObj C hp.objs.size)) (isInstance (.ref (hp.objs.size+1)) (.type "object")) true:=ty.andThen (Y.top.keeps λb o e=>kF _ (kF _ e))
refine pJ (xN Y (cA kin M.init) (λself=>bK (PySem.W.oi_bind self)) (.inr ⟨rfl,rfl⟩) ?_)
refine lS PySem.W.oi_plain PySem.W.entry_oi (@xI (model X.prog X.w) _ _ _ "object.__init__" "object" "__init__" (.ref (hp.objs.size+1)) [] [] _ PySem.W.oi_kind PySem.W.oi_split top (PySem.W.oi_args (.ref (hp.objs.size+1))) ?_)
rw[PySem.W.oi_run]
exact mH ⟨rfl,⟨.ref (hp.objs.size+1),_,I2,rfl,hq⟩⟩)
theorem q7E(M:Mk0 X.K C)(hg:Gl X x)(hm:X.mg x=some (.ref C))(hdb:(x==("__debug__":Str))=false:=by decide):PE X (.Call (.Name x p) [] [] pos) (tMk0 C):=by intro pins s σ H Q I h;exact rK (q1S I hg hm (p8 I.kIn M.kp (qDJ M I h)) hdb)
theorem q3S{e:Expr}{t1 t2:TE}(h1:PE X e t1)(h2:PE X e t2):PE X e (λσ H Q=>t1 σ H Q∨t2 σ H Q):=λpins s σ H Q I h=>h.elim (h1 pins s σ H Q I) (h2 pins s σ H Q I)
end
section
variable{X:Cx}{o e f:Expr}{apos cpos:Pos}{td ty tx:TE}
theorem qGO{P:Program}{w:World}{k:Key}{u:Value}(h:(jQ P w).is k u=true):RelV (kV k) u:=by(
cases k with
|inl i=>exact xL h
|inr x=>exact l8 h)
theorem q71{α β:Type}{F:α→β→Prop}:∀{l₁:List α} {l₂:List β},l₁.length=l₂.length→(∀(j:Nat) a b,l₁[j]?=some a→l₂[j]?=some b→F a b)→Paired F l₁ l₂
| [],[],_,_=>.nil
|a::l,b::l',h,k=>.cons (k 0 a b rfl rfl) (q71 (by simpa using h) λj x y hx hy=>k (j+1) x y (by simpa using hx) (by simpa using hy))
| [],_::_,h,_=>by simp at h
|_::_,[],h,_=>by simp at h
end
theorem q4Q:∀{ns:List Int} {vs:List Value},Vals (ns.map V.int) vs→IntsAre vs ns
| [],_,.nil=>.nil
|n::ns,_,.cons h t=>by obtain⟨t0,rfl⟩:=h;exact .cons n t0 (q4Q t)
section
variable{X:Cx}
theorem q0D:∀{vs:List Value} {ns:List Int},IntsAre vs ns→Vals (ns.map V.int) vs
|_,_,.nil=>.nil
|_,_,.cons n t h=>.cons ⟨t,rfl⟩ (q0D h)
theorem q7F:q2D X (.builtin "sorted") (λxs H Q=>∃(p:Addr) (ns:List Int),xs=[.ref p]∧SqL X.K H p (ns.map V.int)∧ns.length<64∧∀ns':List Int,ns'.Perm ns→ns'.Pairwise (·≤·)→NewO H (.lst (ns'.map V.int)) Q):=by(
intro pins s σ H xs us Q I r hZ
obtain⟨p,ns,ex,hq,h64,q⟩:=hZ
subst ex
obtain⟨u,rfl,rx⟩:=q43 r
cases rx
obtain⟨its,rv,pl,hz⟩:=I.list hq
have hi:=q4Q rv
have hlen:its.length<64:=by rw[←rv.length,hX];exact h64
refine sorted_ints pl.isList hi hlen λout ns' a1 a2 a3=>?_
obtain⟨e,he⟩:=xU s.heap its out
have hz':(ns'.map V.int).length≤sizeLine:=by rw[hX,a2.length_eq,gL];lia
exact⟨.ref (s.heap.objs.size+1),_,I.laid (t':=s.toks) (λ_ _ h=>xC h) (dL _) (show jH X.prog X.w _ _ _ (.lst _)from⟨hz',out.toList,e,q0D a1,by simpa[seqObj]using he⟩),rfl,(q ns' a2 a3).at _ (I.hok.fresh (dL _))⟩)
end
section
variable{X:Cx}
theorem q8X{ns:List Int}{us:List Value}(r:Vals (ns.map V.int) us){j:Nat}(h:j<us.length):∃t,us[j]=.int (ns.getD j 0) t:=by(
obtain⟨x,e,q⟩:=r.atN h
rw[mL]at e
cases z:ns[j]? with
|none=>rw[z]at e;cases e
|some i=>rw[z]at e;obtain rfl:V.int i=x:=kW e;obtain⟨t,q⟩:=q;refine⟨t,?_⟩;rw[kN,z];exact q)
theorem qDK{ns ms:List Int}(h:ns.length=ms.length):(List.range ns.length).all (λj=>ns.getD j 0==ms.getD j 0)=decide (ns=ms):=by(
rw[wQ,dW,kQ]
constructor
·intro z;refine cE h λj h1 h2=>?_;have:=z j (mK.mpr h1);rw[r6,kN,kN,kD h1,kD h2]at this;exact this
rintro rfl j _
exact beq_self_eq_true _)
noncomputable def qJT(K:PySem.W.Frag):R2:=λx y H Q=>∃(a b:Addr) (ns ms:List Int),x=.ref a∧y=.ref b∧SqT K H a (ns.map V.int)∧SqT K H b (ms.map V.int)∧ns.length=ms.length∧Q (.bl (!decide (ns=ms))) H
theorem qFG(hu:X.A.units+64<cLine):OpR X (compareOp .NotEq) (qJT X.K):=by(
intro pins s σ H x y v u Q I rx ry h
obtain⟨a,b,ns,ms,rfl,rfl,ha,hb,hl,q⟩:=h
cases rx
cases ry
obtain⟨i1,r1,p1,_⟩:=I.tuple ha
obtain⟨i2,r2,p2,_⟩:=I.tuple hb
have l1:=r1.length
have l2:=r2.length
rw[hX]at l1 l2
refine SeqAt.RcNeAt.tuples (e:=λj=>ns.getD j 0==ms.getD j 0) (show s.heap.IsTuple a i1.toArray from p1) (show s.heap.IsTuple b i2.toArray from p2) (by lia) (λj h1 h2=>?_) _ _ _ _ ⟨.bl _,H,I,?_,q⟩
·obtain⟨t1,e1⟩:=q8X r1 (j:=j) (by simpa using h1);obtain⟨t2,e2⟩:=q8X r2 (j:=j) (by simpa using h2);have z:=xH (A:=X.A.in1) (s:=s) (ns.getD j 0) t1 (ms.getD j 0) t2;rw[←e1,←e2]at z;simpa using z
rw[show min i1.toArray.size i2.toArray.size=ns.length by simp;lia,qDK hl,show(i1.toArray.size==i2.toArray.size)=true by simp;lia,Bool.and_true]
rfl)
end
end L2
namespace W1
open PySem L2
structure Tl where
b:Int
lv:Int
cl:Int
bo:Int
noncomputable abbrev Tl.ns(T:Tl):List Int:=[T.b,T.lv,T.cl,T.bo]
noncomputable def TlAt(H:Hp)(v:V)(T:Tl):Prop:=∃a,v=.ref a∧H a=some (.tup (T.ns.map V.int))
theorem TlAt.same{H H':Hp}{v:V}{T:Tl}(s:Same H H')(h:TlAt H v T):TlAt H' v T:=let⟨a,e,z⟩:=h;⟨a,e,s _ _ z⟩
noncomputable abbrev Tls(H:Hp):List V→List Tl→Prop:=Paired (TlAt H)
theorem Tls.same{H H':Hp}{vs:List V}{ts:List Tl}(s:Same H H')(h:Tls H vs ts):Tls H' vs ts:=Paired.mapP h λ_ _ z=>z.same s
theorem Tl.eq_of{A B:Tl}(h:A.ns=B.ns):A=B:=by cases A;cases B;simp[Tl.ns]at h;simp[h]
structure Tl.Ok(pg nw:Int)(T:Tl):Prop where
b0:0≤T.b
b1:T.b<16
l0:0≤T.lv
l1:T.lv≤pg
c0:0≤T.cl
c1:T.cl<10 ^ 30
o0:0≤T.bo
o1:T.bo<nw
noncomputable def unb(f:Tl→Int)(ts:List Tl)(T:Tl):Bool:=ts.all λo=>!decide (f o<f T)
theorem q5B(f:Tl→Int):∀ts:List Tl,ts≠[]→∃T∈ts,∀o∈ts,f T≤f o
| [],h=>absurd rfl h
| [T],_=>⟨T,kC.mpr rfl,λo ho=>by rw[kC.mp ho];exact gE _⟩
|T::U::r,_=>by
 obtain⟨M,hm,hl⟩:=q5B f (U::r) (by simp);by_cases h:f T≤f M
 ·refine⟨T,kZ ..,λo ho=>?_⟩;rcases kI.mp ho with rfl|ho
  ·exact gE _
  have:=hl o ho;lia
 refine⟨M,hV _ hm,λo ho=>?_⟩;rcases kI.mp ho with rfl|ho
 ·lia
 exact hl o ho
theorem q4R{f:Tl→Int}{ts:List Tl}{T:Tl}:unb f ts T=true↔∀o∈ts,f T≤f o:=by(
unfold unb
rw[dW]
constructor
·intro h o ho;have:=h o ho;rw[dN,dM]at this;lia
intro h o ho
have:=h o ho
rw[dN,dM]
lia)
theorem q5C(f:Tl→Int)(ts:List Tl)(h:ts≠[]):∃i,∃hi:i<ts.length,unb f ts ts[i]=true∧∀j,∀hj:j<i,unb f ts (ts[j]'(by lia))=false:=by(
obtain⟨T,hT,hm⟩:=q5B f ts h
obtain⟨k,hk,e⟩:=cH hT
have key:∀n,n<ts.length→(∃z:n<ts.length,unb f ts ts[n]=true)→∃i,∃hi:i<ts.length,unb f ts ts[i]=true∧∀j,∀hj:j<i,unb f ts (ts[j]'(by lia))=false:=by
 intro n;induction n using Nat.strongRecOn with
 |ind n ih=>
  intro hn hZ;obtain⟨z,hu⟩:=hZ;by_cases g:∃j,∃hj:j<n,unb f ts (ts[j]'(by lia))=true
  ·obtain⟨j,hj,u⟩:=g;exact ih j hj (by lia) ⟨by lia,u⟩
  refine⟨n,hn,hu,λj hj=>?_⟩;cases u:unb f ts (ts[j]'(by lia))with
  |false=>rfl
  |true=>exact absurd ⟨j,hj,u⟩ g
exact key k hk ⟨hk,q4R.mpr (by rw[e];exact hm)⟩)
noncomputable def pk(f:Tl→Int)(ts:List Tl):Int:=((ts.find? (unb f ts)).map Tl.b).getD 0
theorem qGP{f:Tl→Int}{ts:List Tl}{i:Nat}(hi:i<ts.length)(u:unb f ts ts[i]=true)(n:∀j,∀hj:j<i,unb f ts (ts[j]'(by lia))=false):pk f ts=ts[i].b:=by(
have e:ts.find? (unb f ts)=some ts[i]:=by rw[List.find?_eq_some_iff_getElem];exact⟨u,i,hi,rfl,λj hj=>by rw[n j hj];rfl⟩
unfold pk
rw[e]
rfl)
theorem q1Y{H:Hp}{x dx C:Addr}(nx:H x=none)(nd:H dx=none):Same H (upd (upd H dx (.own x)) x (.ins C dx [])):=λb o e=>by rw[qC (qI e nx),qC (qI e nd)];exact e
end W1
namespace L2
open PySem PySem.Spec PyProof.Rows
theorem qB0{X:Cx}{K:PySem.W.Frag}(e:X.K=K):IxR X (rIxT K):=by subst e;exact yA
theorem q8Y{X:Cx}{K:PySem.W.Frag}(e:X.K=K):IxR X (rIxL K):=by subst e;exact jI
theorem q9Z{X:Cx}{K:PySem.W.Frag}(e:X.K=K):OpR X (compareOp .In) (rIn K false):=by subst e;exact qBW
theorem q66{X:Cx}{K:PySem.W.Frag}(e:X.K=K):OpR X (compareOp .NotIn) (rIn K true):=by subst e;exact q0A
theorem q3A{X:Cx}{elt iter tg:Expr}{ifs:List Expr}{scope:Scope}{pos py spos:Pos}{wi:TI}{g:TG}{tc:TT}{te:TE}{i:Nat}{y:Str}(N:List Str)(ix:List Nat)(hcalm:X.calm=true)(hi:PI X tg iter wi)
 (hg:∀C fp s H xe,PG (v5 X N scope C fp s H xe) tg g) (hif:∀C fp s H xe,PIf (v5 X N scope C fp s H xe) ifs tc) (he:∀C fp s H xe,PE (v5 X N scope C fp s H xe) elt te)
 (ok:qAY X.N X.env.kindOf scope N ix=true) (hown:Own g ix.length) (hN:X.N.Nodup) (hy:X.N[i]?=some y) (hl:Loc X.env.scope y)
 (hsw:swapsWith (.ListComp elt [⟨tg,iter,ifs,0⟩] scope pos) (some (.Name y py)) spos.line X.env=pure true:=by rfl) (hf:X.fn y=true∨X.env.scope.names.lookup y=some .local:=by first|exact .inl rfl|exact .inr rfl|assumption)
 (hs:∀x,foldedSetIterable iter X.env x=pure x:=by intro _;rfl):
 PS X (.Assign [.Name y py] (.ListComp elt [⟨tg,iter,ifs,0⟩] scope pos) spos) (tAsg (tLC wi g tc te ix (N.length-ix.length)) (q2C i)):=by(
unfold qAY at ok
rw[mP,mP,mP,dW]at ok
obtain⟨⟨⟨h1,h2⟩,h3⟩,h4⟩:=ok
have h2':∀y∈scope.names,y.2≠ .cell∧(y.2≠ .free∨X.env.kindOf y.1=some .cell)∧(y.2≠ .local∨scope.names.lookup y.1=some .local):=λy hy=>by have q:=h2 y hy;rw[mP,mP,wR,wR,kQ,kQ,kQ,kQ,kQ]at q;exact⟨q.1.1,q.1.2,q.2⟩
intro pins s σ H D I h
rw[exec_Assign_Name_used _ _ _ _ hsw]
refine kB (pQ (kB ?_))
show wpAny _ X.A (do let _←comprehension (.ListComp elt [⟨tg,iter,ifs,0⟩] scope pos) scope X.env _ (newList []) false (eval iter X.env) (some (assign (.Name y py) X.env))) _ _ s
refine kB (g8 (qAX (use:=some (assign (.Name y py) X.env)) (QQ:=λ_ s'=>∃σ' H',Inv X pins σ' H' s'∧D.nx σ' H') N ix _ (λ_ _ _ _ _=>hcalm) hi.c hg hif he (mF h1) (λy hy=>(h2' y hy).1) (λy hy e=>(h2' y hy).2.1.resolve_left (λz=>z e)) h3 (mF h4) (λy hy e=>(h2' y hy).2.2.resolve_left (λz=>z e)) hown I h
 (λC Dl H' s' m hm fp inv q=>?_) hs) (λ_ s' hq=>mH (mH hq)) λ_ _ e=>e)
have I':Inv X pins σ H' s':=inv s'.heap (Heap.SameBut.refl _ _)
show wpAny _ _ (assign (.Name y py) X.env (.ref Dl)) _ _ _
refine xM (q6K (v:=.ref Dl) I' hN hy hl rfl (λs'' I'' hZ=>?_) hf)
obtain⟨a,sb,ha⟩:=hZ
have aC:C≠a:=λz=>by
 rcases ha with ha|ha
 ·exact fp.2.1 (z.trans ha)
 exact fp.2.2.2.2.1 _ _ ha z.symm
refine⟨m,hm.sameBut sb aC,λh' sb'=>⟨_,H',I''.turnedN (t':=s''.toks) (fp:=[C]) (λb o hb e=>sb'.extBut b o (λz=>hb (kC.mpr z)) e) (λb hb=>by rw[kC.mp hb];exact fp),q⟩⟩)
theorem zV{K:PySem.W.Frag}{a:Addr}{xs:List V}{D:Addr}{H2:Hp}{g:TG}{tc:TT}{te:TE}{σ0:St}{R:Hp→Prop}(Pv:Nat→Hp→Prop)(h0:Pv 0 H2)(hl:∀i H,Pv i H→SqL K H a xs)
 (hs:∀(i:Nat) x H,xs[i]?=some x→Pv i H→g x σ0 H λσ5 H5=>tc σ5 H5 λb H6=>if b=true then te σ5 H6 (λv H7=>∃vs,H7 D=some (.lst vs)∧vs.length<sizeLine∧Pv (i+1) (upd H7 D (.lst (vs++[v]))))else Pv (i+1) H6) (hd:∀H,Pv xs.length H→R H):
 ∃W:Nat→Nat→Hp→Prop,(∃m,W 0 m H2)∧∀i m H3,W i m H3→((Itl K a).stop i H3∧R H3)∨((Itl K a).go i H3∧∃N:Hp→Prop,(∀H',N H'→∃m',m'<m∧W (i+1) m' H')∧∀x H4,(Itl K a).yld i H3 x H4→g x σ0 H4 λσ5 H5=>tc σ5 H5 λb H6=>if b=true then te σ5 H6 (λv H7=>∃vs,H7 D=some (.lst vs)∧vs.length<sizeLine∧N (upd H7 D (.lst (vs++[v]))))else N H6):=qAZ (Q:=λ_ H=>R H) Pv h0 hl hs hd
theorem qDL{K:PySem.W.Frag}{a:Addr}{xs:List V}{k:Nat}{D:Addr}{H2:Hp}{te:TE}{σ0:St}{R:Hp→Prop}(Pv:Nat→Hp→Prop)(h0:Pv 0 H2)(hl:∀i H,Pv i H→SqL K H a xs)
 (hs:∀(i:Nat) x H,xs[i]?=some x→Pv i H→te (σ0.set k (some x)) H (λv H7=>∃vs,H7 D=some (.lst vs)∧vs.length<sizeLine∧Pv (i+1) (upd H7 D (.lst (vs++[v]))))) (hd:∀H,Pv xs.length H→R H):
 ∃W:Nat→Nat→Hp→Prop,(∃m,W 0 m H2)∧∀i m H3,W i m H3→((Itl K a).stop i H3∧R H3)∨((Itl K a).go i H3∧∃N:Hp→Prop,(∀H',N H'→∃m',m'<m∧W (i+1) m' H')∧∀x H4,(Itl K a).yld i H3 x H4→q2C k x σ0 H4 λσ5 H5=>q8V σ5 H5 λb H6=>if b=true then te σ5 H6 (λv H7=>∃vs,H7 D=some (.lst vs)∧vs.length<sizeLine∧N (upd H7 D (.lst (vs++[v]))))else N H6):=qDI (Q:=λ_ H=>R H) Pv h0 hl hs hd
end L2
namespace L2
open PySem PySem.W PySem.Spec PyProof.Rows
noncomputable def BmIn(base:Heap)(mg:Str→Option Value):Prop:=∃bm o,mg "__builtins__"=some (.ref bm)∧bm≠builtinsNs∧base.get? bm=some o∧o.cls=.type "module"∧o.dict=some builtinsNs∧o.data=.plain
theorem qC3{P:Program}{w:World}{K:PySem.W.Frag}{mg mb:Str→Option Value}{CX:CXT}{k:Nat}{fa a:Addr}{fd:FuncData}{x:Str}{sp:Sp}{s₁:Shared}{vs:List Value}{ns:List Int}(ts:List Addr)
 (KX:K.In s₁.heap) (hts:∀T∈ts,s₁.heap.get? T=some (tabObj #[])∧K.lookup T=none∧∃c,codeHdIn K c T=true) (hns:s₁.heap.Ns mainGlobals mg) (hb:s₁.heap.Ns builtinsNs mb) (hbb:∀x:Str,x≠"__name__"→mb x=bootBuiltins x) (hlim:s₁.heap.NoLimit) (hbm:BmIn s₁.heap mg) (hg:s₁.gens=#[])
 (ha:s₁.heap.get? a=some { cls:=.type "list",data:=.seq vs.toArray }) (hi:IntsAre vs ns) (hl:ns.length≤sizeLine) (hr:Room k callerA)
 (F:∀base:Heap,K.In base→base.Ns mainGlobals mg→BmIn base mg→FnOk P w K mg base CX k fa fd [x] sp) (hbind:∀(s:Shared) (u:Value),BindsTo s fd ⟨[u],[]⟩ [(x,u)])
 (hsp:∀H:Hp,SqL K H a (ns.map V.int)→(∀T∈ts,H T=some (.tbl #[]))→sp [.ref a] H (λv _=>v=.bl true) λ_ _ _=>False)
 (hCX:∀H e s',CX [] H s₁ (λ_ _ _=>False) e s'→False):
 codeAny (model P w) callerA (.call (.ref fa) ⟨[.ref a],[]⟩) (λr s'=>r=.ok (.ret (.bool true))∧OldK s₁.heap s'.heap∧s'.os=s₁.os∧AllBare s'.gens) s₁:=by(
have rv:=q6Z hi
have lenV:=hi.length
have nat:a∉ts:=λz=>by have e:=(hts a z).1;rw[ha]at e;cases e
have core:∀H:Hp,SqL K H a (ns.map V.int)→HOk P w H s₁.heap→(∀b,H b=none∨(b=a∧K.lookup a=none∧∃o xs,H b=some (.frz o (.lst xs)))∨(b∈ts∧H b=some (.tbl #[])))→(∀T∈ts,H T=some (.tbl #[]))→codeAny (model P w) callerA (.call (.ref fa) ⟨[.ref a],[]⟩) (λr s'=>r=.ok (.ret (.bool true))∧OldK s₁.heap s'.heap∧s'.os=s₁.os∧AllBare s'.gens) s₁:=by
 intro H hS hok hO hT;have base_of:∀{b:Addr} {o:Obj},s₁.heap.get? b=some o→H b=none→(hidT s₁.heap H).get? b=some o:=λe n=>q4U e n;have noA:∀{b:Addr} {o:Obj} {es:Array DictEntry} {ep:Nat},s₁.heap.get? b=some o→o.data=.dict es ep→H b=none:=fun {b o es ep} e d=>by
  rcases hO b with z|⟨rfl,_⟩|⟨z,_⟩
  ·exact z
  ·rw[ha]at e;cases e;cases d
  rw[(hts b z).1]at e;cases e;cases d
 have nsK:∀{b:Addr} {m:Str→Option Value},s₁.heap.Ns b m→(hidT s₁.heap H).Ns b m:=fun {b m} ⟨o,es,ep,e,d,r⟩=>⟨o,es,ep,base_of e (noA e d),d,r⟩
 have hKb:K.In (hidT s₁.heap H):=λb o e=>base_of (KX b o e) (by
  rcases hO b with z|⟨rfl,z,_⟩|⟨z,_⟩
  ·exact z
  ·rw[z]at e;cases e
  rw[(hts b z).2.1]at e;cases e)
 have hM:Mod K mg (hidT s₁.heap H):=⟨hKb,nsK hns,⟨mb,nsK hb,hbb⟩,let⟨mc,h1,h2⟩:=hlim;⟨mc,nsK h1,h2⟩⟩;have hB:BmIn (hidT s₁.heap H) mg:=by
  obtain⟨bm,o,b1,b2,b3,b4,b5,b6⟩:=hbm;refine⟨bm,o,b1,b2,base_of b3 ?_,b4,b5,b6⟩;rcases hO bm with z|⟨rfl,_⟩|⟨z,_⟩
  ·exact z
  ·rw[ha]at b3;cases b3;exact absurd (Value.type.inj b4) (by decide)
  rw[(hts bm z).1]at b3;cases b3;cases b4
 have e0:Env0 P w K mg (hidT s₁.heap H) callerA [] s₁ H:=⟨rfl,hM,λb o e=>qAL e,cZ (q6J _ _),trivial,λb hb=>absurd (show b∈([]:List Addr)from hb) (by simp),hok,.of_eq hg⟩;refine c7 ((F _ hKb (nsK hns) hB).run callerA [] s₁ H ⟨[.ref a],[]⟩ [.ref a] [.ref a] _ _ hr e0 (hbind s₁ (.ref a)) (.cons rfl .nil) (hsp H hS hT)) λr s' h=>?_;cases r with
 |error e=>exact(hCX H e s' h).elim
 |ok fl=>
  cases fl with
  |next=>exact False.elim h
  |brk=>exact False.elim h
  |cont=>exact False.elim h
  |ret u=>
   obtain⟨v,H',os,bare,un,hok',r',q⟩:=h;have q':v=.bl true:=q;subst q';obtain rfl:u=Value.bool true:=r';have kept:∀b o,s₁.heap.get? b=some o→b∉ts→s'.heap.get? b=some o:=λb o e nb=>by
    rcases hO b with z|⟨rfl,_,ob,xs,z⟩|⟨z,_⟩
    ·exact un.keep b o e z (by intro z;exact absurd (show b∈([]:List Addr)from z) (by simp)) (by simp)
    ·have z2:=un.frzs _ ob _ z;obtain⟨e1,_⟩:=hok _ _ z;obtain⟨e2,_⟩:=hok' _ _ z2;rw[e]at e1;cases e1;exact e2
    exact absurd z nb
   refine⟨rfl,⟨λb o e=>?_,λb o e=>?_⟩,os,bare⟩
   ·by_cases nb:b∈ts
    ·obtain⟨g,_,c,hc⟩:=hts b nb;obtain⟨more,z2⟩:=un.tbls b _ (hT b nb);have g2:s'.heap.get? b=some { cls:=.none,data:=.fields (#[]++more) }:=hok' _ _ z2;rw[g]at e;cases e;exact .inr (.inl ⟨((aG KX hc).tab g).isCodeTable,rfl,#[],more,rfl,g2⟩)
    exact .inl (kept b o e nb)
   by_cases nb:b∈ts
   ·obtain⟨more,z2⟩:=un.tbls b _ (hT b nb);exact⟨_,hok' _ _ z2⟩
   exact⟨o,kept b o e nb⟩
have tb:∀T∈ts,∀H:Hp,H T=some (.tbl #[])→∀u,H T=some u→jH P w H s₁.heap T u:=λT hT H e u e'=>by rw[e]at e';cases e';exact(hts T hT).1
cases hk:K.lookup a with
|some o=>
 have e:=KX a o hk;rw[ha]at e;cases e;refine core (λb=>if b∈ts then some (.tbl #[])else none) (.inr ⟨_,vs.toArray,_,hk,rfl,rfl,rfl,by rw[mC,lenV];exact hl,by simpa using rv⟩) (λb u z=>?_) (λb=>?_) λT hT=>hU hT
 ·by_cases hb':b∈ts
  ·exact tb b hb' _ (hU hb') u z
  have z':=(hC hb').symm.trans z;cases z'
 by_cases hb':b∈ts
 ·exact .inr (.inr ⟨hb',hU hb'⟩)
 exact .inl (hC hb')
|none=>
 refine core (λb=>if b=a then some (.frz { cls:=.type "list",data:=.seq vs.toArray } (.lst (ns.map V.int)))else if b∈ts then some (.tbl #[])else none) (.inl (.inr ⟨{ cls:=.type "list",data:=.seq vs.toArray },hU rfl⟩)) (λb u z=>?_) (λb=>?_) λT hT=>?_
 ·by_cases hb':b=a
  ·have z':=(hU hb').symm.trans z;cases z';subst hb';exact⟨ha,by rw[hX];exact hl,vs,_,rv,ha⟩
  by_cases hb2:b∈ts
  ·exact tb b hb2 _ ((hC hb').trans (hU hb2)) u z
  have z':=((hC hb').trans (hC hb2)).symm.trans z;cases z'
 ·by_cases hb':b=a
  ·exact .inr (.inl ⟨hb',hk,_,_,hU hb'⟩)
  by_cases hb2:b∈ts
  ·exact .inr (.inr ⟨hb2,(hC hb').trans (hU hb2)⟩)
  exact .inl ((hC hb').trans (hC hb2))
 have:T≠a:=λz=>nat (z▸hT);exact(hC this).trans (hU hT))
theorem qDM{l:PySem.W.OpenLaw}{n k:Nat}{q:Program}{loose:List Str}{XP:(Str→Option Value)→Heap→Prop}{YP:World→Heap→Prop}{d:DefRec}{K:Params→PySem.W.Frag}{CX:World→CXT}{sp:World→Sp}{x:Str}(ts:List Addr)
 (hn:l.most=some n) (hn2:n≤sizeLine) (hdf:d.params.defaults=[]) (hr:Room k callerA)
 (hY:∀(w:World) (h:Heap),YP w h→(K w.params).In h∧∀T∈ts,h.get? T=some (tabObj #[])) (hT:∀w:World,∀T∈ts,(K w.params).lookup T=none∧∃c,codeHdIn (K w.params) c T=true)
 (F:∀(w:World) (mg:Str→Option Value) (fa:Addr) (h:Heap),(K w.params).In h→h.Ns mainGlobals mg→mg d.name=some (.ref fa)→∃fd:FuncData,(∀(s:Shared) (u:Value),BindsTo s fd ⟨[u],[]⟩ [(x,u)])∧∀base:Heap,(K w.params).In base→base.Ns mainGlobals mg→BmIn base mg→FnOk l.prog w (K w.params) mg base (CX w) k fa fd [x] (sp w))
 (hsp:∀(w:World) (H:Hp) (a:Addr) (ns:List Int),ns.length≤n→SqL (K w.params) H a (ns.map V.int)→(∀T∈ts,H T=some (.tbl #[]))→sp w [.ref a] H (λv _=>v=.bl true) λ_ _ _=>False)
 (hCX:∀(w:World) (H:Hp) (s:Shared) (e:Value) (s':Shared),CX w [] H s (λ_ _ _=>False) e s'→False):
 PySem.W.WalkO q loose XP YP l.row.toRowW d [] (λf vs=>PySem.call f vs):=by(
refine Att.attach_call hn hdf λw s₀ s₁ mg mb fa o pm cd doc a vs ns G Y ho hd hcd hmg hobj hints hlen hg=>?_
obtain⟨KX,KT⟩:=hY w _ Y
obtain⟨fd,hb,hF⟩:=F w mg fa _ KX G.T.g hmg
exact qC3 ts KX (λT h=>⟨KT T h,hT w T h⟩) G.T.g G.T.b G.T.builtins G.T.nolimit (let⟨bm,ob,b1,b2,b3,b4,b5,b6⟩:=G.T.bmain;⟨bm,ob,b1,b2,b3,b4,b5,b6⟩) hg hobj hints (mD hlen hn2) hr hF hb (λH hS hH=>hsp w H a ns hlen hS hH) λH e s'=>hCX w H s₁ e s')
structure FunT(K:PySem.W.Frag)(x qual:Str)(st:Stmt)(c f:Addr)(fd:FuncData):Prop where
ex:∃(oc:Value) (od:Option Addr) (kV doc pm:Value) (an:Option Addr) (ct:Value) (osl:Array (Option Value)),fd=PySem.W.fnOf x qual (yF st) (jW st) (qF st) .none kV doc pm an (.ref c) ct∧K.lookup f=some ⟨oc,od,.func fd,osl⟩∧PySem.W.codeIn K (.ref c) qual=true
section
variable{P:Program}{w:World}{K:PySem.W.Frag}{mg:Str→Option Value}{base:Heap}
theorem FunT.mk'{x qual:Str}{st:Stmt}{c f:Addr}{oc:Value}{od an:Option Addr}{osl:Array (Option Value)}{kV doc pm ct:Value}(l:K.lookup f=some ⟨oc,od,.func (PySem.W.fnOf x qual (yF st) (jW st) (qF st) .none kV doc pm an (.ref c) ct),osl⟩)
 (h:PySem.W.codeIn K (.ref c) qual=true):FunT K x qual st c f (PySem.W.fnOf x qual (yF st) (jW st) (qF st) .none kV doc pm an (.ref c) ct):=⟨⟨oc,od,kV,doc,pm,an,ct,osl,rfl,l,h⟩⟩
theorem FunT.ok0{x qual:Str}{st:Stmt}{c f:Addr}{fd:FuncData}{N ps:List Str}{k:Nat}{sp:Sp}(F:FunT K x qual st c f fd)(S:FnScope N ps (qF st))
 (hbody:∀(A:Around) (outer:List Env) (s:Shared) (H:Hp) (vs:List V) (Q:VK) (E:XK),Room k (A.deeper (envOfC qual (qF st) s.heap.objs.size f (.ref c)))→sp vs H Q E→∃t,PSs (cxOf CX0 P w K mg base N qual (qF st) f (.ref c) A outer s H E).nox (jW st) t∧t { nx:=λ_ H'=>Q .non H',rt:=Q } (q2E N vs) H)(len:∀vs H Q E,sp vs H Q E→vs.length=ps.length:=by intro _ _ _ _ h;first|(cases h;subst_vars;rfl)|((repeat obtain⟨_,h⟩:=h);all_goals subst_vars;rfl)):FnOk P w K mg base CX0 (k+1) f fd ps sp:=by(
obtain⟨oc,od,kV,doc,pm,an,ct,osl,rfl,lk,hcd⟩:=F.ex
refine qCV lk hcd S len λA outer s H vs Q E hr hsp=>?_
obtain⟨t,h,q⟩:=hbody A outer s H vs Q E hr hsp
exact⟨t,h.nox,q⟩)
noncomputable def q3T(K:PySem.W.Frag)(ts:List Addr):Sp:=λvs H Q _=>∃(a:Addr) (ns:List Int),vs=[.ref a]∧SqL K H a (ns.map V.int)∧ns.length≤63∧(∀T∈ts,H T=some (.tbl #[]))∧∀H',Q (.bl true) H'
end
noncomputable def fnOb(fd:FuncData):Obj:={ cls:=.type "function",data:=.func fd }
noncomputable def fnO(f:Addr)(fd:FuncData):HO:=.ext λh=>h.get? f=some (fnOb fd)
noncomputable def cdO(c:Addr)(q:Str):HO:=.ext λh=>∃o vs t,h.get? c=some o∧o.data=.fields vs∧vs[1]?=some (.str q t)
theorem qDN{P:Program}{w:World}{H:Hp}{h:Heap}{f:Addr}{fd:FuncData}(e:h.get? f=some (fnOb fd)):jH P w H h f (fnO f fd):=⟨e,⟨_,e⟩,λ_ _ a b=>b _ a⟩
theorem qIA{P:Program}{w:World}{H:Hp}{h:Heap}{c:Addr}{q:Str}(e:h.CodeRec (.ref c) q):jH P w H h c (cdO c q):=by obtain⟨c',o,vs,t,e0,e1,e2,e3⟩:=e;cases e0;exact⟨⟨o,vs,t,e1,e2,e3⟩,⟨_,e1⟩,λ_ _ ⟨o,vs,t,a,b⟩ k=>⟨o,vs,t,k _ a,b⟩⟩
theorem qIB{P:Program}{w:World}{H:Hp}{h:Heap}{f:Addr}{fd:FuncData}(ok:HOk P w H h)(e:H f=some (fnO f fd)):h.get? f=some (fnOb fd):=(ok f _ e).1
theorem qIC{P:Program}{w:World}{H:Hp}{h:Heap}{c:Addr}{q:Str}(ok:HOk P w H h)(e:H c=some (cdO c q)):h.CodeRec (.ref c) q:=let⟨o,vs,t,a,b⟩:=(ok c _ e).1
 ⟨c,o,vs,t,rfl,a,b⟩
noncomputable def v6(base:Heap)(cs:List Addr):Hp:=λb=>if(base.get? b).isSome=true∨b∈cs then none else some (.lst [])
theorem q10{h base base':Heap}:∀{l:List Env},h.FunFrames base l→(∀L∈frs l,base.get? L=none→base'.get? L=none)→h.FunFrames base' l
| [],_,_=>trivial
|env::r,⟨hk,⟨L,o,hf,hn,ho,hd⟩,hr⟩,k=>by
 have hL:L∈frs (env::r):=by unfold frs;rw[r9,hf];exact kZ
 exact⟨hk,⟨L,o,hf,k L hL hn,ho,hd⟩,q10 hr λb hb=>k b (by unfold frs;rw[r9,hf];exact hV _ hb)⟩
theorem Inv.env0C{X:Cx}{pins:List (Addr×Obj)}{σ:St}{H:Hp}{s:Shared}(I:Inv X pins σ H s)(cs:List Addr)(hcs:∀c∈cs,∃x,X.fn x=true∧X.env.cells.lookup x=some c):
 Env0 X.prog X.w X.K X.mg (hidT s.heap (v6 X.base cs)) X.A X.stack s H∧(∀b o,X.base.get? b=some o→(hidT s.heap (v6 X.base cs)).get? b=some o)∧∀c∈cs,∀o,s.heap.get? c=some o→(hidT s.heap (v6 X.base cs)).get? c=some o:=by(
have up:∀b o,X.base.get? b=some o→(hidT s.heap (v6 X.base cs)).get? b=some o:=λb o e=>q4U (I.bk b o e) (hU (.inl (by rw[e];rfl)))
have inv:∀{b:Addr} {o:Obj},(hidT s.heap (v6 X.base cs)).get? b=some o→s.heap.get? b=some o∧((∃o',X.base.get? b=some o')∨b∈cs):=fun {b o} e=>by
 obtain⟨e1,n⟩:=qAL e;refine⟨e1,?_⟩;by_cases z:(X.base.get? b).isSome=true∨b∈cs
 ·rcases z with z|z
  ·exact .inl (cI.mp z)
  exact .inr z
 rw[show v6 X.base cs b=some (.lst [])from hC z]at n;cases n
obtain⟨mb,hb1,hb2⟩:=I.ok.mod.blt
refine⟨⟨I.ok.frames,⟨I.ok.mod.kin.keeps up,I.ok.mod.glob.keeps up,⟨mb,hb1.keeps up,hb2⟩,I.ok.mod.nolimit.keeps up⟩,λb o e=>?_,by rw[q6J];exact kJ _,q10 I.stack λL hL n=>?_,I.stkFree,I.hok,I.bare⟩,up,λc hc o e=>q4U e (hU (.inr hc))⟩
·obtain⟨e1,z⟩:=inv e;rcases z with⟨o',z⟩|z
 ·exact⟨e1,(I.bs b o' z).2⟩
 obtain⟨x,_,hx⟩:=hcs b z;exact⟨e1,I.freeC x b hx⟩
cases e:(hidT s.heap (v6 X.base cs)).get? L with
|none=>rfl
|some o=>
 obtain⟨e1,z⟩:=inv e;rcases z with⟨o',z⟩|z
 ·rw[n]at z;cases z
 obtain⟨x,hf,hx⟩:=hcs L z;rcases kI.mp (I.stkSub L hL)with y|y
 ·exact absurd y (I.cne x L hx)
 obtain⟨_,o2,ho,_⟩:=I.ok.funs.mem y;exact absurd (mB ho) (n8.mpr (I.ok.cab x L hf hx)))
noncomputable def q5D(cells:List (Str×Addr))(σ:St)(base':Heap)(ix:List (Nat×Str)):Prop:=∀p∈ix,∀v,σ[p.1]?=some (some v)→∃c u,cells.lookup p.2=some c∧RelV v u∧base'.IsCell c (some u)
noncomputable def qJU(T:Addr)(pos:Pos)(qual:Str)(params:Arguments)(body:Expr)(scope:Scope)(clos:List (Str×Addr))(pm:Value):TE:=λσ H Q=>∃ps,H T=some (.tbl ps)∧TriplesOk ps.toList∧codeAmong pos ps.toList=none∧∀(f c':Addr) (ctv:Value),H f=none→H c'=none→f≠c'→Q (.ref f) (upd (upd (upd H T (.tbl (ps++#[rawInt pos.line,rawInt pos.col,.ref c']))) c' (cdO c' qual)) f (fnO f (kla_fn "<lambda>" qual params body scope clos pm (.ref c') ctv)))
theorem qFH{X:Cx}{c T:Addr}{params:Arguments}{body:Expr}{scope:Scope}{pos:Pos}{clos:List (Str×Addr)}(hcode:X.env.code=.ref c)(hcd:codeHdIn X.K c T=true)(B:BmIn X.base X.mg)(hcl:closureFor scope X.env=pure clos)(hdef:defaultsOf params X.env=([],[])):
 PE X (.Lambda params body scope pos) (qJU T pos (X.env.qual++"<lambda>") params body scope clos ((X.mg "__name__").getD .none)):=by(
intro pins s σ H Q I hZ
obtain⟨ps,hT,ht,hnf,q⟩:=hZ
have hP:s.heap.get? T=some (tabObj ps):=I.hok T _ hT
have hgs:s.heap.Ns mainGlobals X.mg:=I.ok.mod.glob.keeps I.bk
obtain⟨bm,ob,b1,b2,b3,b4,b5,b6⟩:=B
have b3':=I.bk _ _ b3
have hgP:mainGlobals≠T:=λz=>by obtain⟨o,es,ep,e,hd,_⟩:=hgs;rw[z,hP]at e;cases e;cases hd
have hbP:bm≠T:=λz=>by rw[z,hP]at b3';cases b3';cases b4
have hbG:bm≠mainGlobals:=λz=>by obtain⟨o,es,ep,e,hd,_⟩:=hgs;rw[z,e]at b3';cases b3';rw[hd]at b6;cases b6
refine kla_eval hdef (kla_makeFunction (clos:=clos) hcl I.ok.glob hgs hcode (aG I.kIn hcd) hP ht hnf hgP ⟨bm,ob,b1,b2,hbG,hbP,b3',b4,b5,b6⟩ λc' ctv h' tk hx hge hlt hrec htb=>?_)
have trk:∀b u,s.heap.get? b=some u→b≠T→∀o,(h'.push o).get? b=some u:=λb u e n o=>kF _ (hx b u n e)
have sz:s.heap.objs.size≤h'.objs.size:=mD hge (cY hlt)
have nF:H h'.objs.size=none:=I.hok.fresh sz
have nC:H c'=none:=I.hok.fresh hge
have fc:h'.objs.size≠c':=rT hlt
have other:∀{b:Addr},b≠T→b≠c'→b≠h'.objs.size→∀u:HO,(upd (upd (upd H T (.tbl (ps++#[rawInt pos.line,rawInt pos.col,.ref c']))) c' (cdO c' (X.env.qual++"<lambda>"))) h'.objs.size (fnO h'.objs.size (kla_fn "<lambda>" (X.env.qual++"<lambda>") params body scope clos ((X.mg "__name__").getD .none) (.ref c') ctv))) b=H b:=fun {b} z1 z2 z3 _=>by rw[qC z3,qC z2,qC z1]
refine⟨.ref h'.objs.size,_,?_,rfl,q _ c' ctv nF nC fc⟩
refine I.un (t':=tk) ⟨λb o e n _ _=>trk b o e (qI hT n).symm _,λb o e n _ _=>⟨o.slots,trk b o e (qI hT n).symm _⟩,λb o e n _=>?_,λb o e _=>?_,λb xs e=>?_,λb o u e=>?_,λb qs e=>?_⟩ λb u e=>?_
·have hb:b<s.heap.objs.size:=mB e;rw[other (qI hT n).symm (mY (mV hb hge)) (mY (mV hb sz)) (.lst [])];exact n
·by_cases z:b=T
 ·subst z;exact⟨_,kF _ htb⟩
 exact⟨o,trk b o e z _⟩
·rw[other (λz=>by rw[z,hT]at e;cases e) (qI e nC) (qI e nF) (.lst [])];exact e
·rw[other (λz=>by rw[z,hT]at e;cases e) (qI e nC) (qI e nF) (.lst [])];exact e
·by_cases z:b=T
 ·subst z;rw[hT]at e;cases e;refine⟨#[rawInt pos.line,rawInt pos.col,.ref c'],?_⟩;rw[qC (qI hT nF),qC (qI hT nC)];exact qH
 exact⟨#[],by rw[other z (qI e nC) (qI e nF) (.lst []),e];simp⟩
by_cases z3:b=h'.objs.size
·subst z3;rw[qH]at e;cases e;exact qDN (mU _ rfl)
by_cases z2:b=c'
·subst z2;rw[qC z3,qH]at e;cases e;exact qIA (hrec.push _)
by_cases z:b=T
·subst z;rw[qC z3,qC z2,qH]at e;cases e;exact kF _ htb
rw[other z z2 z3 (.lst [])]at e
refine(I.hok b u e).stay (λd v hd r=>trk d v r (λy=>?_) _) (λd r=>?_) λd xs r=>?_
·rcases hd with hd|hd
 ·exact z (hd▸y)
 rw[y,hT]at hd;cases hd
·rw[other (λy=>by rw[y,hT]at r;cases r) (qI r nC) (qI r nF) (.lst [])];exact r
rw[other (λy=>by rw[y,hT]at r;cases r) (qI r nC) (qI r nF) (.lst [])];exact r)
noncomputable abbrev envL(qual:Str)(scope:Scope)(clos:List (Str×Addr))(L f:Addr)(cd:Value):Env:=newEnv scope L mainGlobals clos (qual++".<locals>.") (some f) cd none builtinsNs
noncomputable def qDO(CX:CXT)(P:Program)(w:World)(K:PySem.W.Frag)(mg:Str→Option Value)(base:Heap)(N:List Str)(qual:Str)(scope:Scope)(clos:List (Str×Addr))(f:Addr)(cd:Value)(A:Around)(outer:List Env)(s:Shared)(H:Hp)(E:XK):Cx where
prog:=P
w:=w
K:=K
mg:=mg
base:=base
A:=A.deeper (envL qual scope clos s.heap.objs.size f cd)
N:=N
s₀:=s
H₀:=H
env:=envL qual scope clos s.heap.objs.size f cd
outer:=outer
stack:=envL qual scope clos s.heap.objs.size f cd::outer
ex:=[]
calm:=true
fn:=λ_=>false
pn:=[]
xe:=λe s'=>wpAny (model P w) (A.deeper (envL qual scope clos s.heap.objs.size f cd)) (leaving (envL qual scope clos s.heap.objs.size f cd) e) (λ_ s''=>CX outer H s E e s'') (λe' s''=>CX outer H s E e' s'') s'
structure LamSc(scope:Scope)(x0:Str)(clos:List (Str×Addr))(fvs:List V)(base:Heap):Prop where
kind:scope.kind=.function
co:scope.isCoroutine=false
gen:scope.isGenerator=false
par:scope.names.lookup x0=some .local
nocell:∀y∈scope.names,y.2≠ .cell
free:∀y,scope.names.lookup y=some .free→∃c,clos.lookup y=some c
inj:∀x y c,clos.lookup x=some c→clos.lookup y=some c→x=y
at':∀(j:Nat) (x:Str) (c:Addr),clos[j]?=some (x,c)→scope.names.lookup x=some .free∧clos.lookup x=some c∧∃v u,fvs[j]?=some v∧RelV v u∧base.IsCell c (some u)
len:fvs.length=clos.length
theorem qFI{CX:CXT}{P:Program}{w:World}{K:PySem.W.Frag}{mg:Str→Option Value}{base:Heap}{k:Nat}{f c:Addr}{name qual:Str}{params:Arguments}{body:Expr}{scope:Scope}{pm ct:Value}{x0:Str}{clos:List (Str×Addr)}{fvs:List V}{sp:Sp}(S:LamSc scope x0 clos fvs base)
 (len:∀vs H Q E,sp vs H Q E→vs.length=1) (hf:∀vs H Q E,sp vs H Q E→H f=some (fnO f (kla_fn name qual params body scope clos pm (.ref c) ct))∧H c=some (cdO c qual))
 (hbody:∀(A:Around) (outer:List Env) (s:Shared) (H:Hp) (v0:V) (Q:VK) (E:XK),Room k (A.deeper (envL qual scope clos s.heap.objs.size f (.ref c)))→sp [v0] H Q E→∃t,PE (qDO CX P w K mg base (x0::clos.map (·.1)) qual scope clos f (.ref c) A outer s H E) body t∧t (some v0::fvs.map some) H Q):
 FnOk P w K mg base CX (k+1) f (kla_fn name qual params body scope clos pm (.ref c) ct) [x0] sp:=by(
refine⟨len,λA outer s H args us vs Q E hr e0 hb r hsp=>?_⟩
have hl:=len _ _ _ _ hsp
obtain⟨v0,rfl⟩:∃v0,vs=[v0]:=match vs,hl with| [v],_=>⟨v,rfl⟩
obtain⟨u0,rfl,r0⟩:=q43 r
have lim:s.heap.NoLimit:=e0.mod.nolimit.keeps λb o e=>(e0.bs b o e).1
obtain⟨hf1,hc1⟩:=hf _ _ _ _ hsp
refine kla_callFunE hr.depth (qIB e0.hok hf1) rfl S.co S.gen rfl (qIC e0.hok hc1) (hb _ _ _ _ ?_)
refine lU S.nocell (λy hy=>?_) (λh' hn hs=>?_) S.kind
·obtain rfl:y=(x0,u0):=by simpa using hy
 exact S.par
have hk:∀b o,s.heap.get? b=some o→h'.get? b=some o:=λb o e=>by have:=hs.2 b (mY (mB e));rw[this];exact kF _ e
refine⟨lim.keeps hk,kla_codeExpr ?_⟩
obtain⟨t,ht,hq⟩:=hbody A outer s H v0 Q E (hr.deeper _) hsp
have noA:∀b:Addr,b∉(qDO CX P w K mg base (x0::clos.map (·.1)) qual scope clos f (.ref c) A outer s H E).ex:=λb z=>absurd (show b∈([]:List Addr)from z) (by simp)
have cat:∀y d,clos.lookup y=some d→∃u,base.IsCell d (some u):=λy d e=>by obtain⟨j,hj,ej⟩:=cH (gU e);obtain⟨_,_,v,u,_,_,hu⟩:=S.at' j y d (kE.mpr ⟨hj,ej⟩);exact⟨u,hu⟩
have I:Inv (qDO CX P w K mg base (x0::clos.map (·.1)) qual scope clos f (.ref c) A outer s H E) [] (some v0::fvs.map some) H { s with heap:=h',toks:=s.toks + [(x0,u0)].length }:=by
 refine⟨⟨e0.mod,S.kind,rfl,rfl,kJ _,S.inj,λy hy=>?_,λy c z _=>absurd (show false=true from z) (by decide),λ_=>hr.hd,lP e0.frames,.inr ⟨rfl,rfl⟩,λb z=>absurd z (noA b),e0.bs,e0.bsz,λb _ _=>noA b,λb z=>absurd z (noA b),e0.funs,e0.frf⟩,rfl,e0.bare,Un.kept hk,⟨_,hn,λi y v h1 h2 h3=>?_⟩,λy d e=>?_,e0.hok.fresh (kJ _),λy d e=>?_,λp hp=>absurd (show p∈([]:List (Addr×Obj))from hp) (by simp),e0.hok.kept hk,?_⟩
 ·have hy:scope.names.lookup y=some .cell∨scope.names.lookup y=some .free:=hy;rcases hy with hy|hy
  ·exact absurd rfl (S.nocell _ (gU hy))
  exact S.free y hy
 ·cases i with
  |zero=>obtain rfl:=kW h1;obtain rfl:=kW (kW h2);refine⟨u0,r0,.inl ⟨S.par,?_⟩⟩;show([(x0,u0)]:List (Str×Value)).reverse.lookup x0=some u0;simp
  |succ j=>have h1:(clos.map (·.1))[j]?=some y:=h1;have h2:(fvs.map some)[j]?=some (some v):=h2;rw[mL]at h1 h2;obtain⟨⟨y',d⟩,hd,rfl⟩:=m8.mp h1;obtain⟨v',hv,ev⟩:=m8.mp h2;obtain rfl:=kW ev;obtain⟨a1,a2,v2,u,a3,a4,a5⟩:=S.at' j _ d hd;rw[hv]at a3;obtain rfl:=kW a3;exact⟨u,a4,.inr ⟨.inr a1,d,a2,a5.keeps λb o e=>hk b o (e0.bs b o e).1⟩⟩
 ·obtain⟨u,hu⟩:=cat y d e;exact⟨_,hu.keeps λb o e=>hk b o (e0.bs b o e).1⟩
 ·obtain⟨u,o,ho,_⟩:=cat y d e;exact(e0.bs _ _ ho).2
 show(some v0::fvs.map some).length=(x0::clos.map (·.1)).length;rw[mI,mI,hX,hX,S.len]
exact g8 (ht [] _ _ H _ I hq) (λu s' ⟨v,H',J,rv,q⟩=>⟨v,H',J.os,J.bare,J.base,J.hok,rv,q⟩) λe s' hs=>hs)
end L2
namespace L2
open PySem PySem.Spec PyProof.Rows
section
variable{X:Cx}{pins:List (Addr×Obj)}{σ:St}{H:Hp}{s:Shared}{a:Addr}
theorem Inv.freeze{kvs:List (Key×V)}{o:Obj}(I:Inv X pins σ H s)(e:H a=some (.dK kvs))(ho:s.heap.get? a=some o):Inv X pins σ (upd H a (.frz o (.dK kvs))) s:=by(
have ne:∀b u,H b=some u→u≠ .dK kvs→b≠a:=λb u q n z=>by rw[z,e]at q;exact n (kW q).symm
have nn:∀b,H b=none→b≠a:=λb q z=>by rw[z,e]at q;cases q
refine⟨I.ok,I.os,I.bare,I.base.trans ⟨λb u q _ _ _=>q,λb u q _ _ _=>⟨u.slots,q⟩,λb u q n _=>by rw[qC (nn b n)];exact n,λb u q _=>⟨u,q⟩,λb xs q=>by rw[qC (ne b _ q (by intro z;cases z))];exact q,λb u v q=>by rw[qC (ne b _ q (by intro z;cases z))];exact q,λb ps q=>⟨#[],by rw[qC (ne b _ q (by intro z;cases z)),q];simp⟩⟩,I.loc,I.cell,by rw[qC (nn _ I.free)];exact I.free,λx c q=>by rw[qC (nn _ (I.freeC x c q))];exact I.freeC x c q,λp hp=>?_,λb u q=>?_,I.len⟩
·obtain⟨q1,q2,q3⟩:=I.pin p hp;exact⟨q1,by rw[qC (nn _ q2)];exact q2,q3⟩
have st:∀b u,jH X.prog X.w H s.heap b u→jH X.prog X.w (upd H a (.frz o (.dK kvs))) s.heap b u:=λb u q=>q.stay (λ_ _ _ z=>z) (λc z=>by rw[qC (ne c _ z (by intro z;cases z))];exact z) (λc xs z=>by rw[qC (ne c _ z (by intro z;cases z))];exact z)
by_cases hb:b=a
·subst hb;rw[qH]at q;cases q;exact⟨ho,st b _ (I.hok b _ e)⟩
rw[qC hb]at q
exact st b u (I.hok b u q))
theorem Inv.thaw{o:Obj}{u:HO}(I:Inv X pins σ H s)(hne:∀o u,X.H₀ a≠some (.frz o u))(e:H a=some (.frz o u)):Inv X pins σ (upd H a u) s:=by(
have ne:∀b v,H b=some v→v≠ .frz o u→b≠a:=λb v q n z=>by rw[z,e]at q;exact n (kW q).symm
have nn:∀b,H b=none→b≠a:=λb q z=>by rw[z,e]at q;cases q
have nf:∀b v,X.H₀ b=some v→(∃o' u',v=.frz o' u')→b≠a:=λb v q ⟨o',u',z⟩ w=>by rw[w,z]at q;exact hne o' u' q
refine⟨I.ok,I.os,I.bare,⟨I.base.keep,I.base.slot,λb v q n hx=>?_,I.base.there,λb xs q=>?_,λb v w q=>?_,λb ps q=>?_⟩,I.loc,I.cell,by rw[qC (nn _ I.free)];exact I.free,λx c q=>by rw[qC (nn _ (I.freeC x c q))];exact I.freeC x c q,λp hp=>?_,λb v q=>?_,I.len⟩
·have:=I.base.free b v q n hx;rw[qC (nn b this)];exact this
·have:=I.base.tups b xs q;rw[qC (ne b _ this (by intro z;cases z))];exact this
·rw[qC (nf b _ q ⟨_,_,rfl⟩)];exact I.base.frzs b v w q
·obtain⟨more,q2⟩:=I.base.tbls b ps q;exact⟨more,by rw[qC (ne b _ q2 (by intro z;cases z))];exact q2⟩
·obtain⟨q1,q2,q3⟩:=I.pin p hp;exact⟨q1,by rw[qC (nn _ q2)];exact q2,q3⟩
have st:∀b v,jH X.prog X.w H s.heap b v→jH X.prog X.w (upd H a u) s.heap b v:=λb v q=>q.stay (λ_ _ _ z=>z) (λc z=>by rw[qC (ne c _ z (by intro z;cases z))];exact z) (λc xs z=>by rw[qC (ne c _ z (by intro z;cases z))];exact z)
by_cases hb:b=a
·subst hb;rw[qH]at q;cases q;exact st b _ (I.hok b _ e).2
rw[qC hb]at q
exact st b v (I.hok b v q))
end
noncomputable def Itd(a:Addr)(o:Obj)(kvs:List (Key×V)):It:=⟨λi H=>H a=some (.frz o (.dK kvs))∧i<kvs.length,λi H x H'=>H'=H∧∃kv,kvs[i]?=some kv∧x=kV kv.1,λi H=>H a=some (.frz o (.dK kvs))∧kvs.length≤i⟩
theorem qC4{P:Program}{w:World}{K:PySem.W.Frag}{tg:Expr}(a it:Addr)(o:Obj){kvs:List (Key×V)}{vs:List (Key×Value)}{ep:Nat}(rel:KV kvs vs)(hD:∀h:Heap,h.get? a=some o→h.DictAt (jQ P w) a vs ep):
 Turn P w K tg (Itd a o kvs) [it] it (λi h=>h.IsKeyIter it a i vs.length ep) where
mem:=by simp
obj:=λi h st b hb=>by
 have e:b=it:=by simpa using hb
 subst e;obtain⟨o',e,c,d⟩:=st;exact⟨o',e,λv z=>by rw[d]at z;cases z⟩
keep:=λi h h' st k=>st.at λo e=>k it (by simp) o e
item:=by
 intro X hP hw hK hc i pins s σ H E I hf st hg;subst hP hw hK;obtain⟨ha,hi⟩:=hg;obtain⟨ho,_⟩:=I.hok a _ ha;have hl:=rel.length;have hi':i<vs.length:=by lia
 obtain⟨f0,f1,f2,f3,f4,f5⟩:=hf it (by simp);refine wpAny_pyNext_dict_item (k:=vs[i].1) (v:=vs[i].2) st (hD _ ho) (kD hi') λkey h' hk st' sb=>?_;have I1:Inv X pins σ H { s with heap:=h' }:=I.turned (t':=s.toks) (λb o hb e=>(sb.2 b hb).trans e) f0 f1 f3 f4 f5;obtain⟨o',e',c',d'⟩:=id st';refine⟨key,rfl,qCL (s:={ s with heap:=h' }) e' c' d' (by decide) ⟨kV kvs[i].1,H,I1,?_,⟨rfl,kvs[i],kD hi,rfl⟩,st',λb hb=>(hf b hb).1⟩⟩;have ek:=dE (λl=>l[i]?) rel.keys;simp only[mL,kD hi,kD hi',aM]at ek;rw[kW ek];exact qGO hk
done:=by intro X hP hw hK hc i pins s σ H E I hf st hg;subst hP hw hK;obtain⟨ha,hi⟩:=hg;obtain⟨ho,_⟩:=I.hok a _ ha;have hl:=rel.length;obtain⟨f0,f1,f2,f3,f4,f5⟩:=hf it (by simp);exact wpAny_pyNext_dict_end (I.ok.hd hc) st (hD _ ho) (rM (by lia)) λh' eb=>⟨rfl,I.turned (t':=s.toks) (λb o hb e=>eb b o hb e) f0 f1 f3 f4 f5⟩
self:=λ_ _ _ _ _ st h=>wpAny_pyIter_keyiter st h
section
variable{X:Cx}{tg:Expr}
noncomputable def iDct(td:TE):TI:=λσ H R=>td σ H λx H1=>∃a kvs,x=.ref a∧H1 a=some (.dK kvs)∧∀o,R (Itd a o kvs) (upd H1 a (.frz o (.dK kvs)))
theorem qFJ{d:Expr}{td:TE}(hd:PE X d td):PI X tg d (iDct td):=by(
intro pins s σ H R I h
refine thn (hd pins s σ H _ I h) λv s1 hZ=>?_
obtain⟨x,H1,I1,r1,q1⟩:=hZ
obtain⟨a,kvs,e,ha,q⟩:=q1
subst e
cases r1
obtain⟨z,lo,vs,rel,dd⟩:=q8N I1.hok ha
obtain⟨ep,hat⟩:=dd.dictAt
obtain⟨o,es,ho,hr⟩:=id hat
have I2:=I1.freeze ha ho
refine wpAny_pyIter_dict lo hat ?_
refine⟨s1.heap.objs.size,[s1.heap.objs.size],_,_,_,rfl,I2.kept (t':=s1.toks) λb o e=>kF _ e,qC4 a _ o rel (λh' h=>⟨o,es,h,hr⟩),⟨_,mU _ rfl,rfl,rfl⟩,λb hb=>?_,q o⟩
have e:b=s1.heap.objs.size:=by simpa using hb
subst e
exact I2.fpOk (kJ _) (I2.hok.fresh (kJ _)))
theorem qID{pins:List (Addr×Obj)}{σ:St}{H:Hp}{s:Shared}{a:Addr}{kvs:List (Key×V)}(I:Inv X pins σ H s)(e:H a=some (.dK kvs)):∀o u,X.H₀ a≠some (.frz o u):=λo u q=>by have:=I.base.frzs a o u q;rw[e]at this;cases this
noncomputable def qJV(t:TE):TE:=λσ H Q=>∃a kvs,H a=some (.dK kvs)∧t σ H λv H'=>∃o u,H' a=some (.frz o u)∧Q v (upd H' a u)
theorem qB1{e:Expr}{t:TE}(h:PE X e t):PE X e (qJV t):=by(
intro pins s σ H Q I hZ
obtain⟨a,kvs,ha,q⟩:=hZ
have nf:=qID I ha
refine thn (h pins s σ H _ I q) λu s' ⟨v,H',I',r,o,w,e,q⟩=>⟨v,_,I'.thaw nf e,r,q⟩)
theorem qFK{a:Addr}{o:Obj}{kvs:List (Key×V)}{D:Addr}{H2:Hp}{g:TG}{tc:TT}{te:TE}{σ0:St}{Q:VK}(Pv:Nat→Hp→Prop)(h0:Pv 0 H2)(hl:∀i H,Pv i H→H a=some (.frz o (.dK kvs)))
 (hs:∀(i:Nat) kv H,kvs[i]?=some kv→Pv i H→g (kV kv.1) σ0 H λσ5 H5=>tc σ5 H5 λb H6=>if b=true then te σ5 H6 (λv H7=>∃vs,H7 D=some (.lst vs)∧vs.length<sizeLine∧Pv (i+1) (upd H7 D (.lst (vs++[v]))))else Pv (i+1) H6) (hd:∀H,Pv kvs.length H→Q (.ref D) H):
 ∃W:Nat→Nat→Hp→Prop,(∃m,W 0 m H2)∧∀i m H3,W i m H3→((Itd a o kvs).stop i H3∧Q (.ref D) H3)∨((Itd a o kvs).go i H3∧∃N:Hp→Prop,(∀H',N H'→∃m',m'<m∧W (i+1) m' H')∧∀x H4,(Itd a o kvs).yld i H3 x H4→g x σ0 H4 λσ5 H5=>tc σ5 H5 λb H6=>
   if b=true then te σ5 H6 (λv H7=>∃vs,H7 D=some (.lst vs)∧vs.length<sizeLine∧N (upd H7 D (.lst (vs++[v]))))else N H6):=by(
refine⟨λi m H=>m=kvs.length-i∧i≤kvs.length∧Pv i H,⟨kvs.length,by simp,mQ _,h0⟩,?_⟩
rintro i m H ⟨rfl,hi,p⟩
have q:=hl i H p
by_cases hlt:i<kvs.length
·refine .inr ⟨⟨q,hlt⟩,Pv (i+1),λH' z=>⟨kvs.length-(i+1),by lia,rfl,by lia,z⟩,?_⟩;rintro v H' ⟨rfl,kv,hk,rfl⟩
 exact hs i kv _ hk p
obtain rfl:i=kvs.length:=by lia
exact .inl ⟨⟨q,kJ _⟩,hd _ p⟩)
end
noncomputable def q47(v a:Addr):HO:=.ext λh=>h.IsItemsView v a
theorem qDP{P:Program}{w:World}{H:Hp}{h:Heap}{v a:Addr}(e:h.IsItemsView v a):jH P w H h v (q47 v a):=by obtain⟨o,e1,e2,e3⟩:=id e;exact⟨e,⟨_,e1⟩,λ_ _ ⟨o,a1,a2⟩ k=>⟨o,k _ a1,a2⟩⟩
theorem qDQ{P:Program}{w:World}{H:Hp}{h:Heap}{v a:Addr}(ok:HOk P w H h)(e:H v=some (q47 v a)):h.IsItemsView v a:=(ok v _ e).1
noncomputable def qIE:V→List V→Hp→VK→Prop:=λx vs H Q=>∃a kvs,x=.ref a∧vs=[]∧H a=some (.dK kvs)∧∀v,H v=none→Q (.ref v) (upd H v (q47 v a))
theorem qDR{X:Cx}:MtR X "dict.items" qIE:=by(
intro pins s σ H x vs v us Q I rx rv hZ
obtain⟨a,kvs,ex,ev,ha,q⟩:=hZ
subst ex ev
cases rx
have hus:=rv.zero
subst hus
obtain⟨z,lo,ws,rel,dd⟩:=q8N I.hok ha
refine nY nE dd.typeIs PySem.F.entry_dict_items (PySem.F.args_dict_items_1 _) (meets_dict_items (jQ X.prog X.w) a lo) ⟨⟨ws,dd⟩,?_⟩
exact⟨.ref s.heap.objs.size,_,I.laid (t':=s.toks) (λb o e=>kF _ e) (kJ _) (qDP ⟨_,mU _ rfl,rfl,rfl⟩),rfl,q _ (I.hok.fresh (kJ _))⟩)
theorem q5E:entryFor table "dict_itemiterator.__iter__"=some Builtin.«dict_keyiterator.__iter__»:=entryFor_alias (id':="dict_keyiterator.__iter__") (by kernel_rfl) (by first|decide+kernel|rfl|(unfold String.splitOn;simp+decide [String.splitOnAux])) (by decide+kernel) (by kernel_rfl)
noncomputable def Iti(a:Addr)(o:Obj)(kvs:List (Key×V)):It:=⟨λi H=>H a=some (.frz o (.dK kvs))∧i<kvs.length,λi H v H'=>∃T kv,v=.ref T∧H T=none∧H'=upd H T (.tup [kV kv.1,kv.2])∧kvs[i]?=some kv,λi H=>H a=some (.frz o (.dK kvs))∧kvs.length≤i⟩
theorem qA0{P:Program}{w:World}{K:PySem.W.Frag}{elts:List Expr}{x1}{pos:Pos}(a it:Addr)(o:Obj){kvs:List (Key×V)}{vs:List (Key×Value)}{ep:Nat}(rel:KV kvs vs)(hD:∀h:Heap,h.get? a=some o→h.DictAt (jQ P w) a vs ep):
 Turn P w K (.Tuple elts x1 pos) (Iti a o kvs) [it] it (λi h=>∃k0 v0,IsItemIter h it a i vs.length ep k0 v0) where
mem:=by simp
obj:=λi h st b hb=>by
 have e:b=it:=by simpa using hb
 subst e;obtain⟨k0,v0,e⟩:=st;exact⟨_,e,λv z=>by cases z⟩
keep:=λi h h' st k=>let⟨k0,v0,e⟩:=st;⟨k0,v0,k it (by simp) _ e⟩
item:=by
 intro X hP hw hK hc i pins s σ H E I hf st hg;subst hP hw hK;obtain⟨ha,hi⟩:=hg;obtain⟨ho,_⟩:=I.hok a _ ha;have hl:=rel.length;have hi':i<vs.length:=by lia
 obtain⟨k0,v0,st⟩:=st;obtain⟨f0,f1,f2,f3,f4,f5⟩:=hf it (by simp);refine wpAny_pyNext_items_item (k:=vs[i].1) (v:=vs[i].2) st (hD _ ho) (kD hi') λkey h' hk b1 b5 b6 b7=>?_;refine⟨_,rfl,wpAny_letOwnedTupleGo_items (s:={ s with heap:=h' }) b1 λh'' c1 c2=>?_⟩;have kk:∀b o,b∉[it]→s.heap.get? b=some o→h''.get? b=some o:=λb o hb e=>by have nb:b≠it:=λz=>hb (kC.mpr z);exact c2.extBut _ _ nb (b7 b o nb e)
 have I1:Inv X pins σ H { s with heap:=h'' }:=I.turnedN (t':=s.toks) kk hf;have fr:H s.heap.objs.size=none:=I.hok.fresh (kJ _);have yg:=I.young (a:=s.heap.objs.size) (pR (kJ _));have nit:s.heap.objs.size≠it:=rT (mB st);have ek:=dE (λl=>l[i]?) rel.keys;simp only[mL,kD hi,kD hi',aM]at ek;have rk:RelV (kV kvs[i].1) key:=by rw[kW ek];exact qGO hk
 have rv:RelV kvs[i].2 vs[i].2:=by obtain⟨q,hq,z1,z2⟩:=Paired.at rel (kD hi);rw[kD hi']at hq;rw[kW hq];exact z2
 have I2:=I1.trackG (o:=.tup [kV kvs[i].1,kvs[i].2]) fr yg (rT I.lt) (λx' c' w q'=>by obtain⟨v,o',ho,_⟩:=I.cell x' c' w;exact absurd (mB ho) (by rw[q'];exact rE _)) ⟨by rw[gL,mI,mI,lF];lia,[key,vs[i].2],.cons rk (.cons rv .nil),⟨_,c2.extBut _ _ nit b5,rfl,_,rfl⟩⟩;refine⟨.ref s.heap.objs.size,_,I2,rfl,⟨_,kvs[i],rfl,fr,rfl,kD hi⟩,⟨_,_,c1⟩,λb hb=>?_⟩;have e:b=it:=by simpa using hb
 subst e;rw[qC (wG nit)];exact(hf b hb).1
done:=by intro X hP hw hK hc i pins s σ H E I hf st hg;subst hP hw hK;obtain⟨ha,hi⟩:=hg;obtain⟨ho,_⟩:=I.hok a _ ha;have hl:=rel.length;obtain⟨k0,v0,st⟩:=st;obtain⟨f0,f1,f2,f3,f4,f5⟩:=hf it (by simp);exact wpAny_pyNext_items_end (I.ok.hd hc) st (hD _ ho) (rM (by lia)) λh' eb=>⟨rfl,I.turned (t':=s.toks) (λb o hb e=>eb b o hb e) f0 f1 f3 f4 f5⟩
self:=λA i s Q E ⟨k0,v0,st⟩ h=>by have ty:s.TypeIs (.ref it) "dict_itemiterator":=⟨_,st,rfl⟩;refine wpAny_pyIter_slot ty cK (nG cK ty q5E ?_ (PySem.F.args_dict_itemiterator_iter_1 _));show wpAny _ _ (ret (.ref it)) _ _ s;exact mH ⟨_,rfl,"dict_itemiterator",_,ty,PySem.F.slot_dict_itemiterator_next.lookup,h⟩
section
variable{X:Cx}
noncomputable def iItm(td:TE):TI:=λσ H R=>td σ H λx H1=>∃v a kvs,x=.ref v∧H1 v=some (q47 v a)∧H1 a=some (.dK kvs)∧∀o,R (Iti a o kvs) (upd H1 a (.frz o (.dK kvs)))
theorem qIF{elts:List Expr}{x1}{pos:Pos}{d:Expr}{td:TE}(hd:PE X d td):PI X (.Tuple elts x1 pos) d (iItm td):=by(
intro pins s σ H R I h
refine thn (hd pins s σ H _ I h) λv s1 hZ=>?_
obtain⟨x,H1,I1,r1,q1⟩:=hZ
obtain⟨vw,a,kvs,e,hv,ha,q⟩:=q1
subst e
cases r1
obtain⟨z,lo,vs,rel,dd⟩:=q8N I1.hok ha
obtain⟨ep,hat⟩:=dd.dictAt
obtain⟨o,es,ho,hr⟩:=id hat
have I2:=I1.freeze ha ho
refine wpAny_pyIter_items (qDQ I1.hok hv) hat ?_
refine⟨s1.heap.objs.size,[s1.heap.objs.size],_,_,_,rfl,I2.kept (t':=s1.toks) λb o e=>kF _ e,qA0 a _ o rel (λh' h=>⟨o,es,h,hr⟩),⟨_,_,mU _ rfl⟩,λb hb=>?_,q o⟩
have e:b=s1.heap.objs.size:=by simpa using hb
subst e
exact I2.fpOk (kJ _) (I2.hok.fresh (kJ _)))
end
theorem qFL{a:Addr}{o:Obj}{kvs:List (Key×V)}{D:Addr}{H2:Hp}{g:TG}{tc:TT}{te:TE}{σ0:St}{R:Hp→Prop}(Pv:Nat→Hp→Prop)(h0:Pv 0 H2)(hl:∀i H,Pv i H→H a=some (.frz o (.dK kvs)))
 (hs:∀(i:Nat) kv T H,kvs[i]?=some kv→Pv i H→H T=none→g (.ref T) σ0 (upd H T (.tup [kV kv.1,kv.2])) λσ5 H5=>tc σ5 H5 λb H6=>if b=true then te σ5 H6 (λv H7=>∃vs,H7 D=some (.lst vs)∧vs.length<sizeLine∧Pv (i+1) (upd H7 D (.lst (vs++[v]))))else Pv (i+1) H6) (hd:∀H,Pv kvs.length H→R H):
 ∃W:Nat→Nat→Hp→Prop,(∃m,W 0 m H2)∧∀i m H3,W i m H3→((Iti a o kvs).stop i H3∧R H3)∨((Iti a o kvs).go i H3∧∃N:Hp→Prop,(∀H',N H'→∃m',m'<m∧W (i+1) m' H')∧∀x H4,(Iti a o kvs).yld i H3 x H4→g x σ0 H4 λσ5 H5=>tc σ5 H5 λb H6=>
   if b=true then te σ5 H6 (λv H7=>∃vs,H7 D=some (.lst vs)∧vs.length<sizeLine∧N (upd H7 D (.lst (vs++[v]))))else N H6):=by(
refine⟨λi m H=>m=kvs.length-i∧i≤kvs.length∧Pv i H,⟨kvs.length,by simp,mQ _,h0⟩,?_⟩
rintro i m H ⟨rfl,hi,p⟩
have q:=hl i H p
by_cases hlt:i<kvs.length
·refine .inr ⟨⟨q,hlt⟩,Pv (i+1),λH' z=>⟨kvs.length-(i+1),by lia,rfl,by lia,z⟩,?_⟩;rintro v H' ⟨T,kv,rfl,nT,rfl,hk⟩
 exact hs i kv T _ hk p nT
obtain rfl:i=kvs.length:=by lia
exact .inl ⟨⟨q,kJ _⟩,hd _ p⟩)
end L2
namespace L2
open PySem PySem.W PyProof.Rows
noncomputable def hT{α:Type}(c:Nat→Nat→Bool)(n:Nat):KasT α→(α→Prop)→Prop
| .ret a,Q=>Q a
| .ask i j k,Q=>i<n∧j<n∧hT c n (k (c i j)) Q
theorem yK{α:Type}{c:Nat→Nat→Bool}{n:Nat}{Q Q':α→Prop}(h:∀a,Q a→Q' a):∀t:KasT α,hT c n t Q→hT c n t Q'
| .ret a,q=>h a q
| .ask i j k,q=>⟨q.1,q.2.1,yK h (k (c i j)) q.2.2⟩
theorem q1Z{α β:Type}{c:Nat→Nat→Bool}{n:Nat}{f:α→KasT β}{Q:β→Prop}:∀t:KasT α,hT c n t (λa=>hT c n (f a) Q)→hT c n (t.bind f) Q
| .ret a,q=>q
| .ask i j k,q=>⟨q.1,q.2.1,q1Z (k (c i j)) q.2.2⟩
theorem qDS{α:Type}{c:Nat→Nat→Bool}{n:Nat}{cmp:Nat→Nat→(Bool→Shared→Prop)→Shared→Prop}{G:α→Shared→Prop}{s:Shared}(hc:∀i j C,i<n→j<n→C (c i j) s→cmp i j C s):
 ∀t:KasT α,hT c n t (λa=>G a s)→t.kasWp cmp G s
| .ret a,q=>q
| .ask i j k,q=>hc i j _ q.1 q.2.1 (qDS hc (k (c i j)) q.2.2)
section
variable{r:Nat→Int}{n:Nat}
noncomputable abbrev rc(r:Nat→Int):Nat→Nat→Bool:=λi j=>decide (r i<r j)
noncomputable abbrev kk(r:Nat→Int)(p:Array Nat)(i:Nat):Int:=r (p.getD i 0)
noncomputable def Srt(r:Nat→Int)(p:Array Nat)(m:Nat):Prop:=∀i j,i≤j→j<m→kk r p i≤kk r p j
noncomputable def Dec(r:Nat→Int)(p:Array Nat)(m:Nat):Prop:=∀i j,i≤j→j<m→kk r p j≤kk r p i
noncomputable def Gp(n:Nat)(p:Array Nat):Prop:=p.Perm (List.range n).toArray
theorem Gp.size{p:Array Nat}(g:Gp n p):p.size=n:=by have:=g.size_eq;simpa using this
theorem Gp.lt{p:Array Nat}(g:Gp n p){i:Nat}(h:i<n):p.getD i 0<n:=by(
have hi:i<p.size:=by rw[g.size];exact h
have e:p.getD i 0=p[i]:=by simp[Array.getD,hi]
have:p[i]∈(List.range n).toArray:=g.mem_iff.mp (Array.getElem_mem hi)
rw[e]
simpa using this)
theorem Srt.more{p:Array Nat}{m:Nat}(h:Srt r p m)(e:kk r p (m-1)≤kk r p m):Srt r p (m+1):=λi j hij hj=>by(
by_cases z:j<m
·exact h i j hij z
have ej:j=m:=by lia
subst ej
by_cases z2:i=j
·subst z2;exact gE _
exact gZ (h i (j-1) (by lia) (by lia)) e)
theorem Dec.more{p:Array Nat}{m:Nat}(h:Dec r p m)(e:kk r p m≤kk r p (m-1)):Dec r p (m+1):=λi j hij hj=>by(
by_cases z:j<m
·exact h i j hij z
have ej:j=m:=by lia
subst ej
by_cases z2:i=j
·subst z2;exact gE _
exact gZ e (h i (j-1) (by lia) (by lia)))
theorem q3B{p q:Array Nat}{i j:Nat}(h:p[i]?=q[j]?):p.getD i 0=q.getD j 0:=by rw[sF,sF,h]
theorem qA1{p:Array Nat}{i j:Nat}(hj:j≤p.size)(k:Nat):(kas_rev p i j).getD k 0=if i≤k∧k<j then p.getD (i+j-1-k) 0 else p.getD k 0:=by(
unfold kas_rev
by_cases h:i≤k∧k<j
·rw[hU h];exact q3B (by rw[xA hj,hU h])
rw[hC h]
exact q3B (by rw[xA hj,hC h]))
theorem Gp.rev{p:Array Nat}(g:Gp n p)(i j:Nat):Gp n (kas_rev p i j):=(mirror_perm _ _ _ _).trans g
theorem qA2{p:Array Nat}(g:Gp n p):∀(f m:Nat),1≤m→m+f≤n→Srt r p m→hT (rc r) n (kas_asc p f m) (λe=>m≤e∧e≤m+f∧Srt r p e∧(e<m+f→kk r p e<kk r p (e-1)))
|0,m,h1,hz,h=>⟨kJ _,kJ _,h,λz=>absurd z (rE _)⟩
|f+1,m,h1,hz,h=>by
 refine⟨g.lt (by lia),g.lt (by lia),?_⟩;by_cases e:r (p.getD m 0)<r (p.getD (m-1) 0)
 ·rw[show rc r (p.getD m 0) (p.getD (m-1) 0)=true from hG e];dsimp only;rw[hU rfl];exact⟨kJ _,by lia,h,λ_=>e⟩
 rw[show rc r (p.getD m 0) (p.getD (m-1) 0)=false from h9 e];dsimp only;rw[hC kU];refine yK ?_ _ (qA2 g f (m+1) (by lia) (by lia) (h.more (by show r _≤r _;lia)));rintro a ⟨a1,a2,a3,a4⟩
 exact⟨by lia,by lia,a3,λz=>a4 (by lia)⟩
noncomputable def Eql(r:Nat→Int)(p:Array Nat)(a b:Nat):Prop:=∀k,a≤k→k<b→kk r p k=kk r p (b-1)
theorem q7G{p:Array Nat}{i j:Nat}(hj:j≤p.size)(h:Eql r p i j)(k:Nat):kk r (kas_rev p i j) k=kk r p k:=by(
show r _=r _
rw[qA1 hj]
by_cases z:i≤k∧k<j
·rw[hU z];exact(h _ (by lia) (by lia)).trans (h k z.1 z.2).symm
rw[hC z])
theorem q4S:∀(f:Nat) (p:Array Nat) (m q:Nat),Gp n p→q+1≤m→m+f≤n→Dec r p m→Eql r p (m-(q+1)) m→hT (rc r) n (kas_desc f p m q) (λz=>Gp n z.1∧m≤z.2.1∧z.2.1≤m+f∧Dec r z.1 z.2.1∧z.2.2+1≤z.2.1∧Eql r z.1 (z.2.1-(z.2.2+1)) z.2.1)
|0,p,m,q,g,hq,hz,d,e=>⟨g,kJ _,kJ _,d,hq,e⟩
|f+1,p,m,q,g,hq,hz,d,e=>by
 have hs:=g.size;refine⟨g.lt (by lia),g.lt (by lia),?_⟩;by_cases c:r (p.getD m 0)<r (p.getD (m-1) 0)
 ·rw[show rc r (p.getD m 0) (p.getD (m-1) 0)=true from hG c];dsimp only;rw[hU rfl];by_cases q0:q>0
  ·rw[hU q0];have kq:=q7G (r:=r) (p:=p) (i:=m-(q+1)) (j:=m) (by lia) e;have d1:Dec r (kas_rev p (m-(q+1)) m) (m+1):=λi j hij hj=>by rw[kq,kq];exact d.more (gJ c) i j hij hj
   refine yK ?_ _ (q4S f _ (m+1) 0 (g.rev _ _) (by lia) (by lia) d1 λk h1 h2=>by rw[show k=m by lia];rfl);rintro a ⟨a1,a2,a3,a4⟩
   exact⟨a1,by lia,by lia,a4⟩
  rw[hC q0];refine yK ?_ _ (q4S f p (m+1) 0 g (by lia) (by lia) (d.more (gJ c)) λk h1 h2=>by rw[show k=m by lia];rfl);rintro a ⟨a1,a2,a3,a4⟩
  exact⟨a1,by lia,by lia,a4⟩
 rw[show rc r (p.getD m 0) (p.getD (m-1) 0)=false from h9 c];dsimp only;rw[hC kU];refine⟨g.lt (by lia),g.lt (by lia),?_⟩;by_cases c2:r (p.getD (m-1) 0)<r (p.getD m 0)
 ·rw[show rc r (p.getD (m-1) 0) (p.getD m 0)=true from hG c2];dsimp only;rw[hU rfl];exact⟨g,kJ _,nH _ _,d,hq,e⟩
 rw[show rc r (p.getD (m-1) 0) (p.getD m 0)=false from h9 c2];dsimp only;rw[hC kU];have ee:r (p.getD m 0)=r (p.getD (m-1) 0):=by lia
 refine yK ?_ _ (q4S f p (m+1) (q+1) g (by lia) (by lia) (d.more (Int.le_of_eq ee)) λk h1 h2=>?_)
 ·rintro a ⟨a1,a2,a3,a4⟩
  exact⟨a1,by lia,by lia,a4⟩
 show r (p.getD k 0)=r (p.getD m 0);by_cases z:k=m
 ·rw[z]
 rw[ee];exact e k (by lia) (by lia)
theorem qB2{p:Array Nat}{m:Nat}(g:Gp n p)(h1:1≤m)(hm:m≤n)(d:Dec r p m):hT (rc r) n (kas_tail3 m n p) (λz=>Gp n z.2∧1≤z.1∧z.1≤n∧Srt r z.2 z.1):=by(
have hs:=g.size
have sr:Srt r (kas_rev p 0 m) m:=λi j hij hj=>by show r _≤r _;rw[qA1 (by lia),qA1 (by lia),hU ⟨mQ _,by lia⟩,hU ⟨mQ _,hj⟩];exact d _ _ (by lia) (by lia)
refine q1Z _ (yK ?_ _ (qA2 (g.rev 0 m) (n-m) m h1 (by lia) sr))
rintro a ⟨a1,a2,a3,_⟩
exact⟨g.rev _ _,by lia,by lia,a3⟩)
theorem qB3{p:Array Nat}{m:Nat}(g:Gp n p)(hm:m+1≤n)(d:Dec r p (m+1)):hT (rc r) n (kas_descPart m n p) (λz=>Gp n z.2∧1≤z.1∧z.1≤n∧Srt r z.2 z.1):=by(
refine q1Z _ (yK ?_ _ (q4S (n-(m+1)) p (m+1) 0 g (by lia) (by lia) d λk h1 h2=>by rw[show k=m by lia];rfl))
rintro⟨p',m',q'⟩ ⟨a1,a2,a3,a4,a5,a6⟩
dsimp only at a1 a2 a3 a4 a5 a6 ⊢
have hs:=a1.size
by_cases q0:q'>0
·rw[hU q0];have kq:=q7G (r:=r) (p:=p') (i:=m'-(q'+1)) (j:=m') (by lia) a6;exact qB2 (a1.rev _ _) (by lia) (by lia) λi j hij hj=>by rw[kq,kq];exact a4 i j hij hj
rw[hC q0]
exact qB2 a1 (by lia) (by lia) a4)
theorem qDT{p:Array Nat}(g:Gp n p)(h1:1≤n):hT (rc r) n (kas_count n p) (λz=>Gp n z.2∧1≤z.1∧z.1≤n∧Srt r z.2 z.1):=by(
have hs:=g.size
have s1:Srt r p 1:=λi j hij hj=>by rw[show i=j by lia];exact gE _
refine q1Z _ (yK ?_ _ (qA2 g (n-1) 1 (kJ _) (by lia) s1))
rintro m ⟨a1,a2,a3,a4⟩
try dsimp only
by_cases e:m=n
·rw[hU (by rw[r6];exact e)];exact⟨g,a1,by lia,a3⟩
rw[hC (by rw[r6];exact e)]
have lt:=a4 (by lia)
by_cases m1:m>1
·rw[hU m1];refine⟨g.lt (by lia),g.lt (by lia),?_⟩;by_cases c:r (p.getD 0 0)<r (p.getD (m-1) 0)
 ·rw[show rc r (p.getD 0 0) (p.getD (m-1) 0)=true from hG c];dsimp only;rw[hU rfl];exact⟨g,a1,by lia,a3⟩
 rw[show rc r (p.getD 0 0) (p.getD (m-1) 0)=false from h9 c];dsimp only;rw[hC kU];have eq:Eql r p 0 m:=λk _ hk=>by have z1:=a3 0 k (mQ _) hk;have z2:=a3 k (m-1) (by lia) (by lia);show r _=r _;have z1:r (p.getD 0 0)≤r (p.getD k 0):=z1;have z2:r (p.getD k 0)≤r (p.getD (m-1) 0):=z2;lia
 have kq:=q7G (r:=r) (p:=p) (i:=0) (j:=m) (by lia) eq;refine qB3 (g.rev _ _) (by lia) λi j hij hj=>?_;rw[kq,kq];refine Dec.more (m:=m) (λi j hij hj=>?_) (gJ lt) i j hij hj;rw[eq i (mQ _) (by lia),eq j (mQ _) hj];exact gE _
rw[hC m1]
have:m=1:=by lia
subst this
refine qB3 g (by lia) (Dec.more (λi j hij hj=>?_) (gJ lt))
rw[show i=j by lia]
exact gE _)
theorem q5F{p:Array Nat}(g:Gp n p){k:Nat}(hk:k<n)(sr:Srt r p k):∀(f l u:Nat),u-l≤f→l≤u→u≤k→(∀i,i<l→kk r p i≤kk r p k)→(∀i,u≤i→i<k→kk r p k<kk r p i)→hT (rc r) n (kas_place p k f l u) (λm=>m≤k∧(∀i,i<m→kk r p i≤kk r p k)∧∀i,m≤i→i<k→kk r p k<kk r p i)
|0,l,u,hf,hl,hu,a,b=>⟨by lia,a,λi h1 h2=>b i (by lia) h2⟩
|f+1,l,u,hf,hl,hu,a,b=>by
 unfold kas_place;by_cases e:l≥u
 ·rw[hU e];exact⟨by lia,a,λi h1 h2=>b i (by lia) h2⟩
 rw[hC e];refine⟨g.lt hk,g.lt (by lia),?_⟩;by_cases c:r (p.getD k 0)<r (p.getD ((l+u) / 2) 0)
 ·rw[show rc r (p.getD k 0) (p.getD ((l+u) / 2) 0)=true from hG c];dsimp only;rw[hU rfl];refine q5F g hk sr f l ((l+u) / 2) (by lia) (by lia) (by lia) a λi h1 h2=>?_;exact xK c (sr _ _ h1 h2)
 rw[show rc r (p.getD k 0) (p.getD ((l+u) / 2) 0)=false from h9 c];dsimp only;rw[hC kU];refine q5F g hk sr f ((l+u) / 2+1) u (by lia) (by lia) hu (λi h1=>?_) b;exact gZ (sr i ((l+u) / 2) (by lia) (by lia)) (by show r _≤r _;lia)
theorem qIG{p:Array Nat}{k l:Nat}(hk:k<p.size)(hl:l≤k)(i:Nat):(bubble p k (k-l)).getD i 0=if i=l then p.getD k 0 else if l<i∧i≤k then p.getD (i-1) 0 else p.getD i 0:=by(
have e:=getElem?_bubble hk (k-l) (by lia) i
rw[show k-(k-l)=l by lia]at e
by_cases h1:i=l
·rw[hU h1]at e ⊢;exact q3B e
rw[hC h1]at e ⊢
by_cases h2:l<i∧i≤k
·rw[hU h2]at e ⊢;exact q3B e
rw[hC h2]at e ⊢
exact q3B e)
theorem qDU:∀(f:Nat) (p:Array Nat) (k:Nat),Gp n p→k+f≤n→Srt r p k→hT (rc r) n (kas_bin f p k) (λq=>Gp n q∧Srt r q (k+f))
|0,p,k,g,hz,sr=>⟨g,sr⟩
|f+1,p,k,g,hz,sr=>by
 have hs:=g.size;refine q1Z _ (yK ?_ _ (q5F g (show k<n by lia) sr k 0 k (by lia) (mQ _) (kJ _) (λi h=>absurd h (aN _)) λi h1 h2=>absurd h2 (by lia)));rintro l ⟨a1,a2,a3⟩
 have at':=qIG (p:=p) (k:=k) (l:=l) (by lia) a1;refine yK ?_ _ (qDU f _ (k+1) ((bubble_perm _ _ _).trans g) (by lia) λi j hij hj=>?_)
 ·rintro q ⟨b1,b2⟩
  exact⟨b1,by rw[show k+(f+1)=k+1+f by lia];exact b2⟩
 show r _≤r _;rw[at',at'];by_cases i1:i=l
 ·rw[hU i1];by_cases j1:j=l
  ·rw[hU j1];exact gE _
  rw[hC j1,hU ⟨by lia,by lia⟩];exact gJ (a3 (j-1) (by lia) (by lia))
 rw[hC i1];by_cases i2:l<i∧i≤k
 ·rw[hU i2,hC (by lia),hU ⟨by lia,by lia⟩];exact sr _ _ (by lia) (by lia)
 rw[hC i2];by_cases j1:j=l
 ·rw[hU j1];exact a2 i (by lia)
 rw[hC j1];by_cases j2:l<j∧j≤k
 ·rw[hU j2];exact sr _ _ (by lia) (by lia)
 rw[hC j2];exact sr _ _ hij (by lia)
theorem qB4(h1:1≤n):hT (rc r) n (kas_sort n) (λp=>Gp n p∧Srt r p n):=by(
refine q1Z _ (yK ?_ _ (qDT (p:=(List.range n).toArray) (pW _) h1))
rintro⟨m,p⟩ ⟨a1,a2,a3,a4⟩
dsimp only at a1 a2 a3 a4 ⊢
by_cases e:m<n
·rw[hU e];refine yK ?_ _ (qDU (n-max m 1) p (max m 1) a1 (by lia) (by rw[Nat.max_eq_left a2];exact a4));rintro q ⟨b1,b2⟩
 exact⟨b1,by rw[show max m 1+(n-max m 1)=n by lia]at b2;exact b2⟩
rw[hC e]
have:m=n:=by lia
subst this
exact⟨a1,a4⟩)
end
end L2
namespace L2
open PySem PySem.W PySem.Spec PyProof.Rows
section
variable{prog:Program}{w:World}{A:Around}{E:Value→Shared→Prop}{s:Shared}
noncomputable abbrev q5G(vs:List Value)(p:Array Nat):Array Value:=List.toArray (p.toList.map λi=>vs.getD i Value.none)
structure RkAt(prog:Program)(w:World)(A:Around)(vs:List Value)(κ:SortKind)(r:Nat→Int)(s:Shared):Prop where
kind:∀(Q:SortKind→Shared→Prop) (E:Value→Shared→Prop),Q κ s→wpAny (model prog w) A (keyKind' vs.toArray) Q E s
lt:∀i j (C:Bool→Shared→Prop),i<vs.length→j<vs.length→C (decide (r i<r j)) s→wpAny (model prog w) A (keyLt' κ (vs.getD i Value.none) (vs.getD j Value.none)) C (λ_ _=>False) s
theorem qA3{a:Addr}{vs:List Value}{n:Nat}{κ:SortKind}{r:Nat→Int}{P:PySem.Fin→Shared→Prop}(ho:s.heap.get? a=some (seqObj "list" vs.toArray n))(h64:vs.length<64)
 (hr:2≤vs.length→∀h',(∀b o,b≠a→s.heap.get? b=some o→h'.get? b=some o)→RkAt prog w A vs κ r { s with heap:=h' })
 (h:∀p:Array Nat,Gp vs.length p→Srt r p vs.length→P (.done (.ret .none)) { s with heap:=sortedHeap s.heap a vs (q5G vs p) }):wpAny (model prog w) A (Builtin.«list.sort» ⟨[.ref a],[]⟩) P E s:=by(
have ha:a<s.heap.objs.size:=mB ho
have hsz:vs.toArray.size=vs.length:=mC ..
obtain⟨e1,g1⟩:∃e1,(s.heap.update a (Obj.mapSeq λ_=>(#[]:Array Value))).get? a=some (seqObj "list" #[] e1):=⟨_,cO ho λ_=>#[]⟩
have g6:=kF (seqObj "list" #[] 0) (kF (seqObj "tuple" vs.toArray 0) g1)
rw[list_sort_plain]
refine kB (lA ho rfl (kB (rF ho rfl (kB (cW g1 rfl ?_)) (by rw[hsz,gL];lia) (mQ _))))
refine kB (lW (kB (cL (g7 ?_) (mQ _))) (by show vs.length≤_;rw[gL];lia))
show wpAny (model prog w) A _ P E { s with heap:=((s.heap.update a (Obj.mapSeq λ_=>(#[]:Array Value))).push (seqObj "tuple" vs.toArray 0)).push (seqObj "list" #[] 0) }
dsimp only
by_cases h2:vs.toArray.size<2
·rw[hU h2,hU h2];refine kB (mH ?_);rw[aO];refine kB (mH ?_);dsimp only;have fin:=h (List.range vs.length).toArray (pW _) λi j hij hj=>by rw[show i=j by lia];exact gE _
 have eo:(pairsOf vs).map (·.2)=q5G vs (List.range vs.length).toArray:=by
  have em:(pairsOf vs)=(List.toArray (List.range vs.length)).map (kas_item (pairsOf vs)):=by have e:=kas_range (pairsOf vs);rw[c9]at e;exact e.symm
  apply nI.mp;rw[em,bI,nJ];exact wA λi _=>by show(kas_item (pairsOf vs) i).2=_;rw[kas_item_eq]
 refine kB (cW g6 rfl ?_);refine kB (rF g6 rfl ?_ (mQ _) (by rw[aU];show(pairsOf vs).size≤_;rw[c9,gL];lia));simp only[pA,dH,if_false];refine mH ?_;rw[←eo]at fin;exact fin
rw[hC h2,hC h2]
have h2':2≤vs.length:=by lia
have K:=hr h2' (((s.heap.update a (Obj.mapSeq λ_=>(#[]:Array Value))).push (seqObj "tuple" vs.toArray 0)).push (seqObj "list" #[] 0)) λb o nb e=>kF _ (kF _ ((mW _ _ (wG nb)).trans e))
refine kB (K.kind _ _ ?_)
have est:SortSt.mk' κ (vs.toArray.zip vs.toArray) #[] 7 none=kas_st κ (pairsOf vs) (List.toArray (List.range vs.length)):=by have e:=kas_range (pairsOf vs);rw[c9]at e;unfold kas_st;rw[e];rfl
have tree:(kas_sort vs.length).kasWp (kas_cmp prog w A κ (pairsOf vs)) (λp s'=>s'= { s with heap:=((s.heap.update a (Obj.mapSeq λ_=>(#[]:Array Value))).push (seqObj "tuple" vs.toArray 0)).push (seqObj "list" #[] 0) }∧Gp vs.length p∧Srt r p vs.length) { s with heap:=((s.heap.update a (Obj.mapSeq λ_=>(#[]:Array Value))).push (seqObj "tuple" vs.toArray 0)).push (seqObj "list" #[] 0) }:=by rw[←kas_ask_eq];exact qDS (c:=rc r) (n:=vs.length) (λi j C hi hj c=>K.lt i j C hi hj c) _ (yK (λp q=>⟨rfl,q⟩) _ (qB4 (by lia)))
have run:=kas_runs (E:=E) (Q:=λ_ st' s'=>∃p:Array Nat,arrOf st'=p.map (kas_item (pairsOf vs))∧failedOf st'=none∧s'= { s with heap:=((s.heap.update a (Obj.mapSeq λ_=>(#[]:Array Value))).push (seqObj "tuple" vs.toArray 0)).push (seqObj "list" #[] 0) }∧Gp vs.length p∧Srt r p vs.length) h2' h64 (λp' st' s' _ a2 a3 a4=>⟨p',a2,a3,a4⟩) tree
rw[←est]at run
refine kB (g8 run ?_ λ_ _ e=>e)
rintro⟨⟨⟩,st'⟩ s' ⟨p,har,hf,rfl,gp,sr⟩
dsimp only
have hout:(arrOf st').map (·.2)=q5G vs p:=by apply nI.mp;rw[har,bI,nJ];exact wA λi _=>by show(kas_item (pairsOf vs) i).2=_;rw[kas_item_eq]
have hol:(q5G vs p).size=vs.length:=by rw[mC,hX,kX,gp.size]
rw[hout]
refine kB (cW g6 rfl ?_)
refine kB (rF g6 rfl ?_ (mQ _) (mD (cZ hol) (by rw[gL];lia)))
rw[hf]
simp only[pA,dH,if_false]
exact mH (h p gp sr))
theorem q7H{l:Addr}{vs:List Value}{κ:SortKind}{r:Nat→Int}{Q:Value→Shared→Prop}(hl:s.heap.IsList l vs.toArray)(h64:vs.length<64)
 (hr:2≤vs.length→∀h',(∀b o,s.heap.get? b=some o→h'.get? b=some o)→RkAt prog w A.in1.in1 vs κ r { s with heap:=h' })
 (h:∀p:Array Nat,Gp vs.length p→Srt r p vs.length→Q (.ref (s.heap.objs.size+1)) { s with heap:=sortedAll s.heap vs (q5G vs p) }):
 wpAny (model prog w) A (call (.builtin "sorted") [.ref l]) Q E s:=by(
refine sS aH xV xW (args_sorted1 _) ?_
unfold Builtin.«sorted»
refine kB (m:=checkCount "sorted" 1 1 _) (mH (kB (xX hl (kB (cL ?_ (by rw[gL];show vs.length≤_;lia))))))
have hsz:((s.heap.push (seqObj "list" #[] 0)).update s.heap.objs.size (Obj.mapSeq (· ++vs.toArray))).objs.size=s.heap.objs.size+1:=by rw[wF,lB]
have g:(((s.heap.push (seqObj "list" #[] 0)).update s.heap.objs.size (Obj.mapSeq (· ++vs.toArray))).push (seqObj "list" vs.toArray 0)).get? (s.heap.objs.size+1)=some (seqObj "list" vs.toArray 0):=by rw[←hsz];exact mU _ rfl
show wpAny _ _ _ _ _ { s with heap:=((s.heap.push (seqObj "list" #[] 0)).update s.heap.objs.size (Obj.mapSeq (· ++vs.toArray))).push (seqObj "list" vs.toArray 0) }
rw[hsz]
refine kB (g7 (nG lZ ⟨_,g,rfl⟩ lG (qA3 (κ:=κ) (r:=r) g h64 (λh2 h' k=>hr h2 h' λb o e=>k b o (mY (rV (mB e))) (kF _ ((mW _ _ (rT (mB e))).trans (kF _ e)))) λp a1 a2=>⟨_,rfl,?_⟩) (args_list_sort _)))
exact mH ⟨_,rfl,h p a1 a2⟩)
end
noncomputable def lx:List Int→List Int→Bool
|a::r,b::s=>if a=b then lx r s else decide (a<b)
| [],_::_=>true
|_,[]=>false
theorem q5H:∀a:List Int,lx a a=false
| []=>rfl
|a::r=>by show(if a=a then lx r r else decide (a<a))=false;rw[hU rfl];exact q5H r
theorem q11:∀a b c:List Int,lx a b=true→lx b c=true→lx a c=true
| [],[],c,h,_=>by cases h
| [],_::_,[],_,h=>by cases h
| [],_::_,_::_,_,_=>rfl
|_::_,[],c,h,_=>by cases h
|_::_,_::_,[],_,h=>by cases h
|a::r,b::s,c::t,h,g=>by
 have h:(if a=b then lx r s else decide (a<b))=true:=h;have g:(if b=c then lx s t else decide (b<c))=true:=g;show(if a=c then lx r t else decide (a<c))=true;by_cases e1:a=b
 ·subst e1;rw[hU rfl]at h;by_cases e2:a=c
  ·subst e2;rw[hU rfl]at g ⊢;exact q11 r s t h g
  rw[hC e2]at g ⊢;exact g
 rw[hC e1,kQ]at h;by_cases e2:b=c
 ·subst e2;rw[hC e1];exact hG h
 rw[hC e2,kQ]at g;rw[hC (by lia)];exact hG (by lia)
theorem q5I:∀a b:List Int,lx a b=false→lx b a=false→a=b
| [],[],_,_=>rfl
| [],_::_,h,_=>by cases h
|_::_,[],_,h=>by cases h
|a::r,b::s,h,g=>by
 have h:(if a=b then lx r s else decide (a<b))=false:=h;have g:(if b=a then lx s r else decide (b<a))=false:=g;by_cases e:a=b
 ·subst e;rw[hU rfl]at h g;rw[q5I r s h g]
 rw[hC e,dM]at h;rw[hC (λz=>e z.symm),dM]at g;lia
theorem q8Z{α:Type}{p q:α→Bool}:∀{l:List α} {x:α},(∀y∈l,p y=true→q y=true)→x∈l→q x=true→p x=false→l.countP p<l.countP q
|a::l,x,h,hx,h1,h2=>by
 have ml:l.countP p≤l.countP q:=pG λy hy=>h y (hV _ hy);rw[pL,pL];rcases kI.mp hx with e|hx
 ·subst e;rw[h1,h2,hC kU,hU rfl];lia
 have ih:=q8Z (λy hy=>h y (hV _ hy)) hx h1 h2;have ha:=h a (kZ ..);cases pa:p a with
 |false=>rw[hC kU];lia
 |true=>rw[ha pa];lia
noncomputable def rkOf(ks:List (List Int))(k:List Int):Int:=((ks.countP λy=>lx y k:Nat):Int)
theorem qA4{ks:List (List Int)}{k k':List Int}(h:k∈ks)(h':k'∈ks):rkOf ks k<rkOf ks k'↔lx k k'=true:=by(
constructor
·intro lt;cases e:lx k k' with
 |true=>rfl
 |false=>
  have:ks.countP (λy=>lx y k')≤ks.countP (λy=>lx y k):=pG λy _ hy=>by
   cases g:lx k' k with
   |true=>exact q11 _ _ _ hy g
   |false=>rw[q5I k k' e g];exact hy
  unfold rkOf at lt;lia
intro e
have:=q8Z (p:=λy=>lx y k) (q:=λy=>lx y k') (l:=ks) (x:=k) (λy _ hy=>q11 _ _ _ hy e) h e (q5H k)
unfold rkOf
lia)
section
variable{prog:Program}{w:World}{A:Around}{E:Value→Shared→Prop}{s:Shared}
theorem qFM{b:Bool}{x y:Int}{t u:Tok}{Q:Bool→Shared→Prop}(h:Q (decide (x<y)) s):wpAny (model prog w) A (oneLt' b (.int x t) (.int y u)) Q E s:=by(
cases b with
|true=>have z:=kat_lt_int (prog:=prog) (w:=w) (A:=A) (E:=E) (t:=t) (u:=u) h;rw[keyLt'_oneType]at z;exact z
|false=>refine kat_one _ _ ?_;exact lt_int h)
theorem q90{b:Bool}{Q:Bool→Shared→Prop}:∀{ns ms:List Int} {us vs:List Value} (i:Nat),IntsAre us ns→IntsAre vs ms→ns.length=ms.length→Q (lx ns ms) s→KatLex prog w A b false Q (us.zip vs) i s
| [],[],_,_,i,.nil,.nil,_,h=>h
|n::ns,m::ms,_,_,i,.cons _ t hn,.cons _ u hm,hl,h=>by
 refine kat_cons (wpAny_eqBool_int ?_);have h:Q (if n=m then lx ns ms else decide (n<m)) s:=h;by_cases e:n=m
 ·rw[hU e]at h;rw[show(n==m)=true by rw[r6];exact e];exact kat_yes (q90 (i+1) hn hm (by simpa using hl) h)
 rw[hC e]at h;rw[show(n==m)=false by rw[d9];exact e];exact kat_no (qFM h)
| [],_::_,_,_,_,_,_,hl,_=>by simp at hl
|_::_,[],_,_,_,_,_,hl,_=>by simp at hl
noncomputable def IsTI(h:Heap)(v:Value)(k:List Int):Prop:=∃a us,v=.ref a∧h.IsTuple a us.toArray∧IntsAre us k
theorem IsTI.at{h h':Heap}{v:Value}{k:List Int}(x:IsTI h v k)(e:∀b o,h.get? b=some o→h'.get? b=some o):IsTI h' v k:=let⟨a,us,e1,⟨o,e2,r⟩,i⟩:=x
 ⟨a,us,e1,⟨o,e _ _ e2,r⟩,i⟩
theorem qB5{h:Heap}:∀{vs:List Value} {ks:List (List Int)},Paired (IsTI h) vs ks→(∀k∈ks,0<k.length)→∃fs,KatTups h vs fs∧fs.length=ks.length∧∀v∈fs,∃i t,v=.int i t
| [],[],.nil,_=>⟨[],trivial,rfl,λv hv=>by cases hv⟩
|v::vs,k::ks,.cons x t,hp=>by
 obtain⟨fs,r,hl,hi⟩:=qB5 t λk hk=>hp k (hV _ hk);obtain⟨a,us,rfl,⟨o,ho,hc,n,hd⟩,iu⟩:=x;have h0:=hp k (kZ ..);cases iu with
 |nil=>simp at h0
 |cons i t0 hr=>
  refine⟨.int i t0::fs,KatTups.cons ho hc hd (by simp) r,by simp[hl],λv hv=>?_⟩;rcases kI.mp hv with rfl|hv
  ·exact⟨i,t0,rfl⟩
  exact hi v hv
theorem qB6{vs:List Value}{ks:List (List Int)}{m:Nat}(h:Paired (IsTI s.heap) vs ks)(hw:∀k∈ks,k.length=m)(hm:0<m)(h2:2≤vs.length):RkAt prog w A vs (tuples' true) (λi=>rkOf ks (ks.getD i [])) s:=by(
have hl:=h.len
constructor
·intro Q E' q;obtain⟨fs,t,e,hi⟩:=qB5 h λk hk=>by rw[hw k hk];exact hm
 exact kat_kind (T:=Value.type "int") t (by lia) (λv hv=>by obtain⟨i,t0,rfl⟩:=hi v hv;exact .now) rfl q
intro i j C hi hj c
have e1:vs[i]?=some (vs.getD i Value.none):=by rw[kD hi];simp[hi]
have e2:vs[j]?=some (vs.getD j Value.none):=by rw[kD hj];simp[hj]
obtain⟨k1,g1,a1,us1,q1,⟨o1,ho1,_,n1,d1⟩,i1⟩:=Paired.at h e1
obtain⟨k2,g2,a2,us2,q2,⟨o2,ho2,_,n2,d2⟩,i2⟩:=Paired.at h e2
have m1:k1∈ks:=gQ g1
have m2:k2∈ks:=gQ g2
have z1:ks.getD i []=k1:=by rw[kN,g1];rfl
have z2:ks.getD j []=k2:=by rw[kN,g2];rfl
have ll:k1.length=k2.length:=by rw[hw _ m1,hw _ m2]
have c:C (lx k1 k2) s:=by
 have y:decide (rkOf ks (ks.getD i [])<rkOf ks (ks.getD j []))=lx k1 k2:=by rw[z1,z2,wQ,kQ];exact qA4 m1 m2
 rw[←y];exact c
rw[q1,q2]
refine kat_lt ho1 d1 ho2 d2 ?_
have f:decide (us1.toArray.size<us2.toArray.size)=false:=by rw[mC,mC,i1.length,i2.length,ll];exact h9 (rE _)
rw[f]
exact q90 0 i1 i2 ll c)
end
section
variable{X:Cx}
noncomputable def TupI(K:PySem.W.Frag)(H:Hp)(v:V)(k:List Int):Prop:=∃a,v=.ref a∧SqT K H a (k.map V.int)
theorem q7I{pins:List (Addr×Obj)}{σ:St}{H:Hp}{s:Shared}(I:Inv X pins σ H s):∀{xs:List V} {us:List Value} {ks:List (List Int)},Vals xs us→Paired (TupI X.K H) xs ks→Paired (IsTI s.heap) us ks
| [],_,_,.nil,.nil=>.nil
|x::xs,u::us,_,.cons r t,.cons ⟨a,e,h⟩ y=>by subst e;obtain rfl:u=Value.ref a:=r;obtain⟨its,rv,p,_⟩:=I.tuple h;exact .cons ⟨a,its,rfl,p,q4Q rv⟩ (q7I I t y)
theorem q3U{xs:List V}{us:List Value}(r:Vals xs us):∀{q:List Nat},(∀i∈q,i<xs.length)→Vals (q.map λi=>xs.getD i .non) (q.map λi=>us.getD i Value.none)
| [],_=>.nil
|i::q,h=>by have hi:=h i (kZ ..);have hl:=r.length;refine .cons ?_ (q3U r λj hj=>h j (hV _ hj));obtain⟨x,e,z⟩:=r.atN (j:=i) (by lia);show RelV (xs.getD i .non) (us.getD i Value.none);rw[kN,e,kN,kD (by lia)];exact z
theorem q7J:q2D X (.builtin "sorted") (λxs H Q=>∃(p:Addr) (us:List V) (ks:List (List Int)) (m:Nat),xs=[.ref p]∧SqL X.K H p us∧Paired (TupI X.K H) us ks∧(∀k∈ks,k.length=m)∧0<m∧us.length<64∧∀q:List Nat,q.Perm (List.range us.length)→(q.map λi=>ks.getD i []).Pairwise (λa b=>lx b a=false)→NewO H (.lst (q.map λi=>us.getD i .non)) Q):=by(
intro pins s σ H xs us Q I r hZ
obtain⟨p,xs',ks,m,ex,hq,hk,hw,hm,h64,q⟩:=hZ
subst ex
obtain⟨u,rfl,rx⟩:=q43 r
cases rx
obtain⟨its,rv,pl,hz⟩:=I.list hq
have hlen:=rv.length
have hti:=q7I I rv hk
refine q7H (κ:=tuples' true) (r:=λi=>rkOf ks (ks.getD i [])) pl.isList (by lia) (λh2 h' k=>qB6 (Paired.mapP hti λ_ _ z=>z.at k) hw hm h2) λa gp sr=>?_
have pp:a.toList.Perm (List.range its.length):=by have:=dO.mp gp;simpa using this
obtain⟨e,he⟩:=xU s.heap its (q5G its a)
have hin:∀i∈a.toList,i<xs'.length:=λi hi=>by rw[hlen];exact mK.mp (pp.mem_iff.mp hi)
have kl:=hk.len
have pw:(a.toList.map λi=>ks.getD i []).Pairwise (λx y=>lx y x=false):=by
 rw[dB,mZ];intro i j hi hj hij;rw[kX,gp.size]at hi hj;have z:rkOf ks (ks.getD (a.getD i 0) [])≤rkOf ks (ks.getD (a.getD j 0) []):=sr i j (by lia) hj;have gi:a.getD i 0=a.toList[i]'(by rw[kX,gp.size];exact hi):=by simp[Array.getD,gp.size,hi]
 have gj:a.getD j 0=a.toList[j]'(by rw[kX,gp.size];exact hj):=by simp[Array.getD,gp.size,hj]
 rw[gi,gj]at z;have mem:∀x,x<ks.length→ks.getD x []∈ks:=λx hx=>by rw[kN,kD hx];exact gW hx
 cases g:lx (ks.getD (a.toList[j]'(by rw[kX,gp.size];exact hj)) []) (ks.getD (a.toList[i]'(by rw[kX,gp.size];exact hi)) [])with
 |false=>rfl
 |true=>have lt:=(qA4 (mem _ (by rw[←kl];exact hin _ (gW _))) (mem _ (by rw[←kl];exact hin _ (gW _)))).mpr g;lia
refine⟨.ref (s.heap.objs.size+1),_,I.laid (t':=s.toks) (λ_ _ h=>xC h) (dL _) (show jH X.prog X.w _ _ _ (.lst _)from⟨?_,(q5G its a).toList,e,?_,he⟩),rfl,(q a.toList (by rw[hlen];exact pp) pw).at _ (I.hok.fresh (dL _))⟩
·rw[hX,pp.length_eq,gD,gL];lia
exact q3U rv hin)
end
section
variable{X:Cx}{pins:List (Addr×Obj)}{σ:St}
noncomputable def TupD(H:Hp)(v:V)(k:List Int):Prop:=∃a,v=.ref a∧H a=some (.tup (k.map V.int))
theorem TupD.i{K:PySem.W.Frag}{H:Hp}{v:V}{k:List Int}(h:TupD H v k):TupI K H v k:=let⟨a,e,z⟩:=h;⟨a,e,SqT.of z⟩
theorem TupD.same{H H':Hp}{v:V}{k:List Int}(h:TupD H v k)(s:Same H H'):TupD H' v k:=let⟨a,e,z⟩:=h;⟨a,e,s _ _ z⟩
theorem TupD.upd{H:Hp}{v:V}{k:List Int}{D:Addr}{u o:HO}(h:TupD H v k)(hd:H D=some u)(n:∀ys,u≠ .tup ys):TupD (L2.upd H D o) v k:=let⟨a,e,z⟩:=h;⟨a,e,by rw[qC (jM z hd (λq=>n _ q.symm))];exact z⟩
noncomputable def dI(ks:List (Int×Int)):List (Key×V):=ks.map λp=>((.inl p.1:Key),V.int p.2)
theorem q20:∀{ks:List (Int×Int)} {n m:Int},(ks.map (·.1)).Nodup→(n,m)∈ks→valV (dI ks) (.inl n:Key)=some (.int m)
|p::ks,n,m,nd,h=>by
 obtain⟨n1,n2⟩:=gA.mp nd;show valV (((.inl p.1:Key),V.int p.2)::dI ks) (.inl n)=_;rcases kI.mp h with rfl|h
 ·exact q37 rfl
 have ne:p.1≠n:=λe=>n1 (by show p.1∈_;rw[e];exact p9 (f:=λx:Int×Int=>x.1) h);rw[q0Y (λe=>ne (sT e))];exact q20 n2 h
theorem q2L:∀{ks:List (Int×Int)} {n:Int},n∉ks.map (·.1)→valV (dI ks) (.inl n:Key)=none
| [],n,_=>rfl
|p::ks,n,h=>by
 show valV (((.inl p.1:Key),V.int p.2)::dI ks) (.inl n)=_;have h':n≠p.1∧n∉ks.map (·.1):=by simpa using h
 rw[q0Y (λe=>h'.1 (sT e).symm)];exact q2L h'.2
end
end L2
namespace W1
theorem jG{α:Type}(l:List α)(i j:Nat)(x d:α):(l.set i x).getD j d=if i=j∧i<l.length then x else l.getD j d:=by(
rw[kN,List.getElem?_set,kN]
by_cases h:i=j
·subst h;rw[hU rfl];by_cases h2:i<l.length
 ·rw[hU h2,hU ⟨rfl,h2⟩];rfl
 rw[hC h2,hC (λz=>h2 z.2),rM (by lia)]
rw[hC h,hC (λz=>h z.1)])
theorem jZ{P b j:Nat}(h:j<P):(b*P+j) / P=b:=by rw[wK,Nat.mul_add_div (by lia),Nat.div_eq_of_lt h,Nat.add_zero]
theorem q21{α:Type}[DecidableEq α]:∀{l m:List α},l.Nodup→m.Nodup→(∀x,x∈l↔x∈m)→l.Perm m
| [],m,_,_,h=>by
 cases m with
 |nil=>exact .nil
 |cons a m=>exact absurd ((h a).mpr kZ) (by simp)
|a::l,m,h1,h2,h=>by
 have ha:=(h a).mp kZ;obtain⟨n1,n2⟩:=gA.mp h1;refine List.Perm.trans (List.Perm.cons a (q21 n2 (h2.erase a) λx=>?_)) (List.perm_cons_erase ha).symm;rw[List.Nodup.mem_erase_iff h2];constructor
 ·intro hx;exact⟨λe=>n1 (e▸hx),(h x).mp (hV _ hx)⟩
 rintro⟨ne,hx⟩
 exact(kI.mp ((h x).mpr hx)).resolve_left ne
theorem qB7{α:Type}[DecidableEq α]:∀{l m:List α},l.Nodup→(∀x∈l,x∈m)→l.length≤m.length
| [],_,_,_=>mQ _
|a::l,m,h1,h=>by obtain⟨n1,n2⟩:=gA.mp h1;have ha:=h a kZ;have:=qB7 (m:=m.erase a) n2 λx hx=>(List.mem_erase_of_ne (show x≠a from λe=>n1 (e▸hx))).mpr (h x (hV _ hx));rw[List.length_erase_of_mem ha]at this;have h0:=lC ha;rw[mI];lia
noncomputable abbrev Mp:=List (Int×Int)
noncomputable def qZ(W:Mp)(n:Int):Mp:=W.filter λq=>decide (q.1≠n)
noncomputable def putW(W:Mp)(n p:Int):Mp:=if(W.any λq=>decide (q.1=n))=true then W.map (λq=>if q.1=n then(q.1,p)else q)else W++[(n,p)]
theorem qX{W:Mp}{n:Int}{q:Int×Int}:q∈qZ W n↔q∈W∧q.1≠n:=by unfold qZ;rw[mG,kQ]
theorem qGQ{W:Mp}(h:(W.map (·.1)).Nodup):W.Nodup:=(dB.mp h).imp λz e=>z (dE Prod.fst e)
theorem qIH{W:Mp}(h:(W.map (·.1)).Nodup){q r:Int×Int}(hq:q∈W)(hr:r∈W)(e:q.1=r.1):q=r:=by(
induction W with
|nil=>cases hq
|cons a W ih=>
 obtain⟨n1,n2⟩:=gA.mp h;rcases kI.mp hq with e1|h1
 ·rcases kI.mp hr with e2|h2
  ·rw[e1,e2]
  exact absurd (by show a.1∈_;rw[←e1,e];exact p9 (f:=λx:Int×Int=>x.1) h2) n1
 rcases kI.mp hr with e2|h2
 ·exact absurd (by show a.1∈_;rw[←e2,←e];exact p9 (f:=λx:Int×Int=>x.1) h1) n1
 exact ih n2 h1 h2)
theorem q5J{W:Mp}{n:Int}(h:(W.map (·.1)).Nodup):((qZ W n).map (·.1)).Nodup:=(h.sublist ((wB ..).map _))
theorem q91{W:Mp}{n p:Int}(h:(W.map (·.1)).Nodup){q:Int×Int}:q∈putW W n p↔q=(n,p)∨q∈qZ W n:=by(
unfold putW
by_cases e:(W.any λq=>decide (q.1=n))=true
·rw[hU e,kO];obtain⟨r,hr,er⟩:=cF.mp e;have er:r.1=n:=mF er;constructor
 ·rintro⟨x,hx,rfl⟩
  by_cases ex:x.1=n
  ·rw[hU ex];exact .inl (by rw[ex])
  rw[hC ex];exact .inr (qX.mpr ⟨hx,ex⟩)
 rintro(rfl|h2)
 ·exact⟨r,hr,by rw[hU er,er]⟩
 obtain⟨a,b⟩:=qX.mp h2;exact⟨q,a,hC b⟩
rw[hC e,gF,kC]
have no:∀x∈W,x.1≠n:=λx hx z=>e (cF.mpr ⟨x,hx,hG z⟩)
constructor
·rintro(h1|h1)
 ·exact .inr (qX.mpr ⟨h1,no _ h1⟩)
 exact .inl h1
rintro(h1|h1)
·exact .inr h1
exact .inl (qX.mp h1).1)
theorem qC5{W:Mp}{n p:Int}(h:(W.map (·.1)).Nodup):((putW W n p).map (·.1)).Nodup:=by(
unfold putW
by_cases e:(W.any λq=>decide (q.1=n))=true
·rw[hU e,sG];have:(λx:Int×Int=>x.1) ∘ (λq:Int×Int=>if q.1=n then(q.1,p)else q)=λx=>x.1:=by funext x;show(if x.1=n then(x.1,p)else x).1=x.1;split<;>rfl
 rw[this];exact h
rw[hC e,gB]
refine rW.mpr ⟨h,by simp,λa ha b hb z=>e ?_⟩
obtain⟨x,hx,rfl⟩:=kO.mp ha
have hb:b=n:=by simpa using hb
exact cF.mpr ⟨x,hx,hG (by rw[z,hb])⟩)
noncomputable def cntB(P:Nat)(W:Mp)(b:Nat):Nat:=W.countP λq=>decide (q.2 / (P:Int)=(b:Int))
theorem qDV{P:Nat}{W:Mp}{n p:Int}{b:Nat}(nd:(W.map (·.1)).Nodup)(h:(n,p)∈W):cntB P W b=cntB P (qZ W n) b+if p / (P:Int)=(b:Int)then 1 else 0:=by(
have pm:W.Perm ((n,p)::qZ W n):=q21 (qGQ nd) (gA.mpr ⟨λz=>(qX.mp z).2 rfl,qGQ (q5J nd)⟩) λx=>by
 rw[kI,qX];constructor
 ·intro hx;by_cases e:x.1=n
  ·exact .inl (qIH nd hx h e)
  exact .inr ⟨hx,e⟩
 rintro(rfl|hx)
 ·exact h
 exact hx.1
unfold cntB
rw[pm.countP_eq,pL]
by_cases e:p / (P:Int)=(b:Int)
·rw[hU e,hU (hG e)]
rw[hC e,hC (by rw[kQ];exact e)])
theorem qFN{W:Mp}{n:Int}(h:∀q∈W,q.1≠n):qZ W n=W:=rA.mpr λq hq=>hG (h q hq)
structure BM where
P:Nat
B:Nat
ns:List Int
W:Mp
V:Mp
nx:Int
bs:List (Option Int)
ss:List Int
lv:List Int
fi:List Int
bo:List Int
namespace BM
variable{m:BM}
noncomputable def lvF(P:Nat)(V:Mp)(lv:List Int)(n:Int):List Int:=match V.find? λq=>decide (q.1=n)with
|some q=>lv.set (q.2 / (P:Int)).toNat (lv.getD (q.2 / (P:Int)).toNat 0-1)
|none=>lv
end BM
end W1
namespace L2
open PySem PySem.W PySem.Spec PyProof.Rows
section
variable{X:Cx}{pins:List (Addr×Obj)}{σ:St}{H:Hp}{s:Shared}
theorem Inv.adopt{D:Addr}{o:HO}(I:Inv X pins σ H s)(f:FpOk X pins H D)(hD:X.s₀.heap.objs.size≤D)(ok:jH X.prog X.w (upd H D o) s.heap D o):Inv X pins σ (upd H D o) s:=by(
have low:∀b ob,X.s₀.heap.get? b=some ob→b≠D:=λb ob e=>mY (mV (mB e) hD)
have trk:∀b u,H b=some u→b≠D:=λb u e=>qI e f.1
refine⟨I.ok,I.os,I.bare,⟨I.base.keep,I.base.slot,λb ob e n x=>?_,I.base.there,λb xs e=>?_,λb ob u e=>?_,λb ps e=>?_⟩,I.loc,I.cell,?_,λx c e=>?_,λp hp=>?_,λb u e=>?_,I.len⟩
·rw[qC (low b ob e)];exact I.base.free b ob e n x
·have z:=I.base.tups b xs e;rw[qC (trk _ _ z)];exact z
·have z:=I.base.frzs b ob u e;rw[qC (trk _ _ z)];exact z
·obtain⟨m,z⟩:=I.base.tbls b ps e;exact⟨m,by rw[qC (trk _ _ z)];exact z⟩
·rw[qC (λz=>f.2.1 z.symm)];exact I.free
·rw[qC (f.2.2.2.2.1 x c e)];exact I.freeC x c e
·obtain⟨a1,a2,a3⟩:=I.pin p hp;exact⟨a1,by rw[qC (f.2.2.2.2.2 p hp)];exact a2,a3⟩
by_cases hb:b=D
·subst hb;rw[qH]at e;cases e;exact ok
rw[qC hb]at e
exact(I.hok b u e).stay (λ_ _ _ q=>q) (λc q=>by rw[qC (trk _ _ q)];exact q) λc xs q=>by rw[qC (trk _ _ q)];exact q)
theorem Inv.near(I:Inv X pins σ H s){A':Around}(h1:A'.handled=X.A.handled)(h2:A'.frames=X.A.frames)(xe:Value→Shared→Prop):Inv { X with A:=A',xe:=xe } pins σ H s:=⟨{ mod:=I.ok.mod,kind:=I.ok.kind,glob:=I.ok.glob,blt:=I.ok.blt,above:=I.ok.above,inj:=I.ok.inj,has:=I.ok.has,cab:=I.ok.cab,hd:=λc=>h1.trans (I.ok.hd c),frames:=h2.trans I.ok.frames,stk:=I.ok.stk,exf:=I.ok.exf,bs:=I.ok.bs,bsz:=I.ok.bsz,noex:=I.ok.noex,exfs:=I.ok.exfs,funs:=I.ok.funs,frf:=I.ok.frf },I.os,I.bare,I.base,I.loc,I.cell,I.free,I.freeC,I.pin,I.hok,I.len⟩
theorem q92{P:PySem.Fin→Shared→Prop}{EE:Value→Shared→Prop}{A:Around}{a kS:Addr}{st:SortSt}{e1 e:Nat}{ks:List Value}{out:List Value}{us:List V}(I:Inv X pins σ H s)(fa:FpOk X pins H a)(fk:FpOk X pins H kS)(ha:X.s₀.heap.objs.size≤a)(ne:kS≠a)
 (ga:s.heap.get? a=some (seqObj "list" #[] e1)) (gk:s.heap.get? kS=some (seqObj "list" ks.toArray e)) (hk:ks.length<64) (hout:(arrOf st).map (·.2)=out.toArray) (ho:out.length<64) (hf:failedOf st=none) (rv:Vals us out)
 (h:∀s',Inv X pins σ (upd H a (.lst us)) s'→P (.done (.ret .none)) s'):wpAny (model X.prog X.w) A (ksk_tail a false e1 (.ref kS) st) P EE s:=by(
unfold ksk_tail
try dsimp only
rw[hout]
refine kB (rF gk rfl ?_ (by rw[mC,gL];lia) (mQ _))
refine kB (wpAny_letGo ?_)
have ga':(s.heap.update kS (Obj.mapSeq λ_=>(#[]:Array Value))).get? a=some (seqObj "list" #[] e1):=(mW _ _ ne).trans ga
refine kB (cW ga' rfl ?_)
refine kB (rF ga' rfl ?_ (mQ _) (by rw[hC kU,mC,gL];lia))
rw[hf]
simp only[pA,dH,if_false]
refine mH (h _ ?_)
obtain⟨c2,g2⟩:∃c2,((s.heap.update kS (Obj.mapSeq λ_=>(#[]:Array Value))).update a (Obj.mapSeq λ_=>out.toArray)).get? a=some (seqObj "list" out.toArray c2):=⟨_,cO ga' λ_=>out.toArray⟩
have I2:Inv X pins σ H { s with heap:=(s.heap.update kS (Obj.mapSeq λ_=>(#[]:Array Value))).update a (Obj.mapSeq λ_=>out.toArray),toks:=s.toks }:=I.turnedN (fp:=[kS,a]) (λb o hb eb=>by
  simp only[kI,rJ,or_false,not_or]at hb;exact(mW _ _ (wG hb.2)).trans ((mW _ _ (wG hb.1)).trans eb)) (λb hb=>by
  simp only[kI,rJ,or_false]at hb;rcases hb with rfl|rfl
  ·exact fk
  exact fa)
exact I2.adopt fa ha (show jH X.prog X.w _ _ _ (.lst us)from⟨by rw[rv.length,gL];lia,out,c2,rv,g2⟩))
theorem qFO{P:PySem.Fin→Shared→Prop}{EE:Value→Shared→Prop}{A:Around}{a kS:Addr}{e1 e:Nat}{ks vs:List Value}{us zs:List V}{kk:List (List Int)}{m:Nat}(I:Inv X pins σ H s)(fa:FpOk X pins H a)(fk:FpOk X pins H kS)(ha:X.s₀.heap.objs.size≤a)(ne:kS≠a)
 (ga:s.heap.get? a=some (seqObj "list" #[] e1)) (gk:s.heap.get? kS=some (seqObj "list" ks.toArray e)) (rz:Vals zs ks) (rv:Vals us vs) (hl:zs.length=us.length) (h64:us.length<64) (hti:Paired (TupI X.K H) zs kk) (hw:∀k∈kk,k.length=m) (hm:0<m)
 (h:∀q:List Nat,q.Perm (List.range us.length)→(q.map λi=>kk.getD i []).Pairwise (λa b=>lx b a=false)→∀s',Inv X pins σ (upd H a (.lst (q.map λi=>us.getD i .non))) s'→P (.done (.ret .none)) s'):
 wpAny (model X.prog X.w) A (ksk_end a false vs.toArray e1 (.ref kS) ks.toArray) P EE s:=by(
have l1:=rz.length
have l2:=rv.length
have l3:=hti.len
have hlk:ks.length=vs.length:=by lia
unfold ksk_end
try dsimp only
rw[hC kU]
by_cases h2:vs.toArray.size<2
·rw[hU h2,hU h2];refine kB (mH ?_);rw[aO];refine kB (mH ?_);try dsimp only
 have hn2:vs.length<2:=by rw[mC]at h2;exact h2
 refine q92 (out:=vs) (us:=us) I fa fk ha ne ga gk (by lia) ?_ (by lia) rfl rv λs' I'=>?_
 ·rw[hC kU];show(ks.toArray.zip vs.toArray).map (·.2)=vs.toArray;apply nI.mp;rw[nJ,Array.toList_zip];show(ks.zip vs).map Prod.snd=vs;exact List.map_snd_zip (by lia)
 have e:(List.range us.length).map (λi=>us.getD i .non)=us:=by refine cE (by simp) λi h1 h3=>?_;rw[nK,sN,kN,kD h3];rfl
 have z:=h (List.range us.length) (List.Perm.refl _) (by rw[dB,mZ];intro i j hi hj hij;rw[gD]at hi hj;lia);rw[e]at z;exact z s' I'
rw[hC h2,hC h2]
have h2':2≤ks.length:=by rw[mC]at h2;lia
have K:=qB6 (prog:=X.prog) (w:=X.w) (A:=A) (s:=s) (q7I I rz hti) hw hm h2'
refine kB (K.kind _ _ ?_)
rw[hC kU]
refine kB (g8 (kat_run (κ:=tuples' true) (G:=λp s'=>s'=s∧Gp vs.length p∧Srt (λi=>rkOf kk (kk.getD i [])) p vs.length) (Q:=λst' s'=>∃p:Array Nat,arrOf st'=p.map (kas_item (ks.toArray.zip vs.toArray))∧failedOf st'=none∧s'=s∧Gp vs.length p∧Srt (λi=>rkOf kk (kk.getD i [])) p vs.length) hlk (by lia) (by lia) (λp' st' s' _ a2 a3 a4=>⟨p',a2,a3,a4⟩) ?_) ?_ λ_ _ x=>x)
·refine qDS (c:=rc λi=>rkOf kk (kk.getD i [])) (n:=vs.length) (λi j C hi hj c=>K.lt i j C (by lia) (by lia) c) _ (yK (λp q=>⟨rfl,q⟩) _ (qB4 (by lia)))
rintro⟨⟨⟩,st'⟩ s' ⟨p,har,hf,rfl,gp,sr⟩
try dsimp only
have pp:p.toList.Perm (List.range vs.length):=by have:=dO.mp gp;simpa using this
have hin:∀i∈p.toList,i<us.length:=λi hi=>by rw[l2];exact mK.mp (pp.mem_iff.mp hi)
have pw:(p.toList.map λi=>kk.getD i []).Pairwise (λx y=>lx y x=false):=by
 rw[dB,mZ];intro i j hi hj hij;rw[kX,gp.size]at hi hj;have z:rkOf kk (kk.getD (p.getD i 0) [])≤rkOf kk (kk.getD (p.getD j 0) []):=sr i j (by lia) hj;have gi:p.getD i 0=p.toList[i]'(by rw[kX,gp.size];exact hi):=by simp[Array.getD,gp.size,hi]
 have gj:p.getD j 0=p.toList[j]'(by rw[kX,gp.size];exact hj):=by simp[Array.getD,gp.size,hj]
 rw[gi,gj]at z;have mem:∀x,x<kk.length→kk.getD x []∈kk:=λx hx=>by rw[kN,kD hx];exact gW hx
 cases g:lx (kk.getD (p.toList[j]'(by rw[kX,gp.size];exact hj)) []) (kk.getD (p.toList[i]'(by rw[kX,gp.size];exact hi)) [])with
 |false=>rfl
 |true=>have b1:=hin _ (gW (show j<p.toList.length by rw[kX,gp.size];exact hj));have b2:=hin _ (gW (show i<p.toList.length by rw[kX,gp.size];exact hi));have lt:=(qA4 (mem _ (by lia)) (mem _ (by lia))).mpr g;lia
exact q92 (out:=p.toList.map λi=>vs.getD i Value.none) (us:=p.toList.map λi=>us.getD i .non) I fa fk ha ne ga gk (by lia) (kat_snds hlk har) (by rw[hX,pp.length_eq,gD];lia) hf (q3U rv hin) λs' I'=>h p.toList (by rw[l2];exact pp) pw s' I')
end
end L2
namespace L2
open PySem PySem.Spec PyProof.Rows
theorem qFP{X:Cx}{K:PySem.W.Frag}{es:List Expr}{k:Nat}{t:TGs}{n:Nat}{pos:Pos}(e:X.K=K)(hc:X.calm=true)(h:PGs X es t)(hn:(assignEach es X.env).length=n)(hst:(assignEach es X.env).findIdx? (·.1)=none):PG X (.Tuple es k pos) (gTup K n t):=by subst e;exact q9Q hc h hn hst
theorem q3V{n j:Nat}(h:j<n):ixN n (j:Int)=some j:=by(
unfold ixN
have a:(0:Int)≤j:=by lia
have b:(j:Int)<n:=by lia
simp[a,b,h])
theorem q93{V:List (Int×Int)}{n:Int}:q53 (dI V) (Sum.inl n:Key)=dI (W1.qZ V n):=by(
unfold q53 dI W1.qZ
rw[List.filter_map]
congr 1
apply pB
intro q _
show decide ((Sum.inl q.1:Key)≠Sum.inl n)=decide (q.1≠n)
by_cases e:q.1=n<;>simp[e])
theorem qB8{W:List (Int×Int)}{n p:Int}:putK (dI W) (Sum.inl n:Key) (.int p)=dI (W1.putW W n p):=by(
unfold putK dI W1.putW
have e:((W.map λp=>((Sum.inl p.1:Key),V.int p.2)).any λkv=>decide (kv.1=Sum.inl n))=W.any λq=>decide (q.1=n):=by
 rw[List.any_map];congr 1;funext q;show decide ((Sum.inl q.1:Key)=Sum.inl n)=decide (q.1=n);by_cases e:q.1=n
 ·rw[e];simp
 rw[h9 e,h9 (λz=>e (sT z))]
rw[e]
by_cases h:(W.any λq=>decide (q.1=n))=true
·rw[hU h,hU h,sG,sG];apply wA;intro q _;show(if(Sum.inl q.1:Key)=Sum.inl n then((Sum.inl q.1:Key),V.int p)else((Sum.inl q.1:Key),V.int q.2))=_;by_cases e:q.1=n
 ·rw[hU (by rw[e])];show _=(λp:Int×Int=>((Sum.inl p.1:Key),V.int p.2)) (if q.1=n then(q.1,p)else q);rw[hU e]
 rw[hC (λz=>e (sT z))];show _=(λp:Int×Int=>((Sum.inl p.1:Key),V.int p.2)) (if q.1=n then(q.1,p)else q);rw[hC e]
rw[hC h,hC h,gB]
rfl)
theorem qC6{V:List (Int×Int)}{n p:Int}:W1.putW (W1.qZ V n) n p=W1.qZ V n++[(n,p)]:=by(
unfold W1.putW
rw[hC]
intro h
obtain⟨q,hq,e⟩:=cF.mp h
exact(W1.qX.mp hq).2 (mF e))
theorem setV{ns:List Int}{c:Nat}{x:Int}:(ns.map V.int).set c (.int x)=(ns.set c x).map V.int:=by rw[xY]
theorem atV{ns:List Int}{c:Nat}(h:c<ns.length):atI (ns.map V.int) (c:Int)=some (.int (ns.getD c 0)):=by refine uH ?_;rw[mL,kD h,kN,kD h];rfl
theorem qDW:∀{A B:List (List Int)},A.Perm B→A.Pairwise (λa b=>lx b a=false)→B.Pairwise (λa b=>lx b a=false)→A=B
| [],B,p,_,_=>(xD.mp p).symm▸rfl
|a::A,[],p,_,_=>absurd p.length_eq (by simp)
|a::A,b::B,p,h1,h2=>by
 have e:a=b:=by
  by_cases e:a=b
  ·exact e
  have hb:b∈A:=(kI.mp (p.mem_iff.mpr kZ)).resolve_left (λz=>e z.symm);have ha:a∈B:=(kI.mp (p.mem_iff.mp kZ)).resolve_left e;exact q5I a b ((gM.mp h2).1 a ha) ((gM.mp h1).1 b hb)
 subst e;rw[qDW ((aV a).mp p) (gM.mp h1).2 (gM.mp h2).2]
theorem qB9:∀{A B:List Int},A.Perm B→A.Pairwise (·≤·)→B.Pairwise (·≤·)→A=B
| [],B,p,_,_=>(xD.mp p).symm▸rfl
|a::A,[],p,_,_=>absurd p.length_eq (by simp)
|a::A,b::B,p,h1,h2=>by
 have e:a=b:=by
  by_cases e:a=b
  ·exact e
  have hb:b∈A:=(kI.mp (p.mem_iff.mpr kZ)).resolve_left (λz=>e z.symm);have ha:a∈B:=(kI.mp (p.mem_iff.mp kZ)).resolve_left e;have:=(gM.mp h2).1 a ha;have:=(gM.mp h1).1 b hb;lia
 subst e;rw[qB9 ((aV a).mp p) (gM.mp h1).2 (gM.mp h2).2]
theorem qDX{a:Addr}{o:Obj}{kvs:List (Key×V)}{D:Addr}{H2:Hp}{g:TG}{tc:TT}{te:TE}{σ0:St}{R:Hp→Prop}(Pv:Nat→Hp→Prop)(h0:Pv 0 H2)(hl:∀i H,Pv i H→H a=some (.frz o (.dK kvs)))
 (hs:∀(i:Nat) kv H,kvs[i]?=some kv→Pv i H→g (kV kv.1) σ0 H λσ5 H5=>tc σ5 H5 λb H6=>if b=true then te σ5 H6 (λv H7=>∃vs,H7 D=some (.lst vs)∧vs.length<sizeLine∧Pv (i+1) (upd H7 D (.lst (vs++[v]))))else Pv (i+1) H6) (hd:∀H,Pv kvs.length H→R H):
 ∃W:Nat→Nat→Hp→Prop,(∃m,W 0 m H2)∧∀i m H3,W i m H3→((Itd a o kvs).stop i H3∧R H3)∨((Itd a o kvs).go i H3∧∃N:Hp→Prop,(∀H',N H'→∃m',m'<m∧W (i+1) m' H')∧∀x H4,(Itd a o kvs).yld i H3 x H4→g x σ0 H4 λσ5 H5=>tc σ5 H5 λb H6=>if b=true then te σ5 H6 (λv H7=>∃vs,H7 D=some (.lst vs)∧vs.length<sizeLine∧N (upd H7 D (.lst (vs++[v]))))else N H6):=qFK (Q:=λ_ H=>R H) Pv h0 hl hs hd
theorem qA5{ks:List (List Int)}{q:List Nat}{n:Nat}(hn:ks.length=n)(p:q.Perm (List.range n)):(q.map λi=>ks.getD i []).Perm ks:=by(
refine(p.map λi=>ks.getD i []).trans ?_
have e:(List.range n).map (λi=>ks.getD i [])=ks:=by
 apply cE
 ·rw[hX,gD,hn]
 intro i h1 h2;rw[nK,sN,kN,kD h2];rfl
rw[e])
theorem qA6{F:V→List Int→Prop}{us:List V}{ks:List (List Int)}{q:List Nat}(h:Paired F us ks)(hq:∀i∈q,i<us.length):Paired F (q.map λi=>us.getD i .non) (q.map λi=>ks.getD i []):=by(
refine q71 (by rw[hX,hX]) λj x k hx hk=>?_
rw[mL]at hx hk
obtain⟨i,hi,rfl⟩:=m8.mp hx
rw[hi]at hk
obtain rfl:=kW hk
have hl:=hq i (gQ hi)
have e1:us[i]?=some (us.getD i .non):=by rw[kN,kD hl];rfl
obtain⟨k,hk1,z⟩:=Paired.at h e1
show F (us.getD i .non) (ks.getD i [])
rw[show ks.getD i []=k from by rw[kN,hk1];rfl]
exact z)
theorem q0E{H H':Hp}{us:List V}{ks:List (List Int)}(h:Paired (TupD H) us ks)(s:Same H H'):Paired (TupD H') us ks:=Paired.mapP h λ_ _ z=>z.same s
theorem qBA{K:PySem.W.Frag}{H:Hp}{us:List V}{ks:List (List Int)}(h:Paired (TupD H) us ks):Paired (TupI K H) us ks:=Paired.mapP h λ_ _ z=>z.i
theorem q72{lo:Int}{n:Nat}{D:Addr}{H2:Hp}{g:TG}{tc:TT}{te:TE}{σ0:St}{R:Hp→Prop}(Pv:Nat→Hp→Prop)(h0:Pv 0 H2)
 (hs:∀(i:Nat) H,i<n→Pv i H→g (.int (lo+i)) σ0 H λσ5 H5=>tc σ5 H5 λb H6=>if b=true then te σ5 H6 (λv H7=>∃vs,H7 D=some (.lst vs)∧vs.length<sizeLine∧Pv (i+1) (upd H7 D (.lst (vs++[v]))))else Pv (i+1) H6) (hd:∀H,Pv n H→R H):
 ∃W:Nat→Nat→Hp→Prop,(∃m,W 0 m H2)∧∀i m H3,W i m H3→((Itr lo n).stop i H3∧R H3)∨((Itr lo n).go i H3∧∃N:Hp→Prop,(∀H',N H'→∃m',m'<m∧W (i+1) m' H')∧∀x H4,(Itr lo n).yld i H3 x H4→g x σ0 H4 λσ5 H5=>tc σ5 H5 λb H6=>if b=true then te σ5 H6 (λv H7=>∃vs,H7 D=some (.lst vs)∧vs.length<sizeLine∧N (upd H7 D (.lst (vs++[v]))))else N H6):=qDH (Q:=λ_ H=>R H) Pv h0 hs hd
theorem qDY{H H3:Hp}{a:Addr}{u:HO}(ha:H a=some u)(k:∀b o,b≠a→H b=some o→H3 b=some o):Same H (upd H3 a u):=λb o e=>by(
by_cases z:b=a
·rw[z,qH,←ha,←z];exact e
rw[qC z]
exact k b o z e)
theorem uZ{X:Cx}{K:PySem.W.Frag}{e:Expr}{ta:TE}{f:Str}{pos:Pos}(eK:X.K=K)(he:PE X e ta)(hb:attributeBase e f X.env (eval e X.env)=eval e X.env):PE X (.Attribute e f pos) (tFld K ta f):=by subst eK;exact qJ he hb
end L2
namespace L2
open PySem PySem.W PySem.Spec PyProof.Rows
theorem qFQ{scope:Scope}{env:Env}(h:(scope.names.all λy=>decide (y.2≠ .free)||(env.cells.lookup y.1).isSome)=true):closureFor scope env=pure (clOf env scope.names []):=q58 λy hy hf=>by(
 have q:=dW.mp h y hy;rw[wR,kQ]at q;rcases q with q|q
 ·exact absurd hf q
 exact cI.mp q)
theorem qC7{scope:Scope}{x0 y:Str}{ca:Addr}{v:V}{u:Value}{base:Heap}(hk:scope.kind=.function)(hco:scope.isCoroutine=false)(hg:scope.isGenerator=false)(hp:scope.names.lookup x0=some .local)
 (hn:(scope.names.all λz=>decide (z.2≠ .cell)&&(decide (z.2≠ .free)||decide (z.1=y)))=true) (hf:scope.names.lookup y=some .free) (r:RelV v u) (hc:base.IsCell ca (some u)):LamSc scope x0 [(y,ca)] [v] base:=by(
have at1:∀z∈scope.names,z.2≠ .cell∧(z.2≠ .free∨z.1=y):=λz hz=>by have q:=dW.mp hn z hz;rw[mP,wR,kQ,kQ,kQ]at q;exact q
have lk:([(y,ca)]:List (Str×Addr)).lookup y=some ca:=by simp
have one:∀x c,([(y,ca)]:List (Str×Addr)).lookup x=some c→x=y∧c=ca:=λx c e=>by have m:=gU e;simpa using m
refine⟨hk,hco,hg,hp,λz hz=>(at1 z hz).1,λz hz=>?_,λa b c h1 h2=>?_,λj x c h=>?_,rfl⟩
·have m:=(at1 _ (gU hz)).2;rcases m with m|m
 ·exact absurd rfl m
 exact⟨ca,by rw[show z=y from m];exact lk⟩
·rw[(one _ _ h1).1,(one _ _ h2).1]
match j,h with
|0,h=>
 obtain⟨rfl,rfl⟩:y=x∧ca=c:=by simpa using h
 exact⟨hf,lk,v,u,rfl,r,hc⟩
|j+1,h=>exact absurd h (by simp))
theorem q94{env:Env}{names:List (Str×NameKind)}{y:Str}{ca:Addr}(e:env.cells.lookup y=some ca)(h:clOf env names []=match env.cells.lookup y with|some a=>[(y,a)] |none=>[]):clOf env names []=[(y,ca)]:=by rw[h,e]
noncomputable def qII(T:Addr)(pos:Pos)(qual:Str)(params:Arguments)(body:Expr)(scope:Scope)(clos:List (Str×Addr))(pm:Value):TE:=λσ H Q=>∃ps c',H T=some (.tbl ps)∧TriplesOk ps.toList∧codeAmong pos ps.toList=some (.ref c')∧∀(f:Addr) (ctv:Value),H f=none→Q (.ref f) (upd H f (fnO f (kla_fn "<lambda>" qual params body scope clos pm (.ref c') ctv)))
theorem qDZ{X:Cx}{c T:Addr}{params:Arguments}{body:Expr}{scope:Scope}{pos:Pos}{clos:List (Str×Addr)}(hcode:X.env.code=.ref c)(hcd:codeHdIn X.K c T=true)(B:BmIn X.base X.mg)(hcl:closureFor scope X.env=pure clos)(hdef:defaultsOf params X.env=([],[])):
 PE X (.Lambda params body scope pos) (qII T pos (X.env.qual++"<lambda>") params body scope clos ((X.mg "__name__").getD .none)):=by(
intro pins s σ H Q I hZ
obtain⟨ps,c',hT,ht,hnf,q⟩:=hZ
have hP:s.heap.get? T=some (tabObj ps):=I.hok T _ hT
have hgs:s.heap.Ns mainGlobals X.mg:=I.ok.mod.glob.keeps I.bk
obtain⟨bm,ob,b1,b2,b3,b4,b5,b6⟩:=B
have b3':=I.bk _ _ b3
have hbP:bm≠T:=λz=>by rw[z,hP]at b3';cases b3';cases b4
have hbG:bm≠mainGlobals:=λz=>by obtain⟨o,es,ep,e,hd,_⟩:=hgs;rw[z,e]at b3';cases b3';rw[hd]at b6;cases b6
refine kla_eval hdef (kla_makeFunctionHit (clos:=clos) hcl I.ok.glob hgs hcode (aG I.kIn hcd) hP ht hnf ⟨bm,ob,b1,b2,hbG,hbP,b3',b4,b5,b6⟩ λctv h' tk hx sz=>?_)
have trk:∀b u,s.heap.get? b=some u→∀o,(h'.push o).get? b=some u:=λb u e o=>kF _ (hx b u e)
have nF:H h'.objs.size=none:=I.hok.fresh sz
refine⟨.ref h'.objs.size,_,?_,rfl,q _ ctv nF⟩
refine I.un (t':=tk) ⟨λb o e n _ _=>trk b o e _,λb o e n _ _=>⟨o.slots,trk b o e _⟩,λb o e n _=>?_,λb o e _=>⟨o,trk b o e _⟩,λb xs e=>?_,λb o u e=>?_,λb qs e=>?_⟩ λb u e=>?_
·rw[qC (mY (mV (mB e) sz))];exact n
·rw[qC (qI e nF)];exact e
·rw[qC (qI e nF)];exact e
·exact⟨#[],by rw[qC (qI e nF),e];simp⟩
by_cases z3:b=h'.objs.size
·subst z3;rw[qH]at e;cases e;exact qDN (mU _ rfl)
rw[qC z3]at e
refine(I.hok b u e).stay (λd v hd r=>trk d v r _) (λd r=>?_) λd xs r=>?_
·rw[qC (qI r nF)];exact r
rw[qC (qI r nF)];exact r)
noncomputable def qJW(T:Addr)(pos:Pos)(qual:Str)(params:Arguments)(body:Expr)(scope:Scope)(clos:List (Str×Addr))(pm:Value):TE:=λσ H Q=>∃ps,H T=some (.tbl ps)∧TriplesOk ps.toList∧((codeAmong pos ps.toList=none∧∀(f c':Addr) (ctv:Value) (H':Hp),H f=none→H' f=some (fnO f (kla_fn "<lambda>" qual params body scope clos pm (.ref c') ctv))→H' c'=some (cdO c' qual)→H' T=some (.tbl (ps++#[rawInt pos.line,rawInt pos.col,.ref c']))→(∀b o,b≠T→H b=some o→H' b=some o)→Q (.ref f) H')∨∃c',codeAmong pos ps.toList=some (.ref c')∧∀(f:Addr) (ctv:Value) (H':Hp),H f=none→H' f=some (fnO f (kla_fn "<lambda>" qual params body scope clos pm (.ref c') ctv))→Same H H'→Q (.ref f) H')
theorem qFR{X:Cx}{c T:Addr}{params:Arguments}{body:Expr}{scope:Scope}{pos:Pos}{clos:List (Str×Addr)}(hcode:X.env.code=.ref c)(hcd:codeHdIn X.K c T=true)(B:BmIn X.base X.mg)(hcl:closureFor scope X.env=pure clos)(hdef:defaultsOf params X.env=([],[])):
 PE X (.Lambda params body scope pos) (qJW T pos (X.env.qual++"<lambda>") params body scope clos ((X.mg "__name__").getD .none)):=λpins s σ H Q I ⟨ps,hT,ht,h⟩=>by(
rcases h with⟨hn,q⟩|⟨c',hn,q⟩
·exact qFH hcode hcd B hcl hdef pins s σ H Q I ⟨ps,hT,ht,hn,λf c' ctv nf nc fc=>q f c' ctv _ nf qH (by rw[qC fc.symm];exact qH) (by rw[qC (qI hT nf),qC (qI hT nc)];exact qH) λb o nb e=>by rw[qC (qI e nf),qC (qI e nc),qC nb];exact e⟩
exact qDZ hcode hcd B hcl hdef pins s σ H Q I ⟨ps,c',hT,ht,hn,λf ctv nf=>q f ctv _ nf qH (Same.upd nf)⟩)
theorem qFS{X:Cx}{CX:CXT}{k:Nat}{f:Addr}{fd:FuncData}{ps:List Str}{sp:Heap→Sp}{dvs:List V}{ds:List Value}{E:XK}{pins:List (Addr×Obj)}{σ:St}{H:Hp}{s:Shared}{Q:VK}{us:List Value}{vs:List V}(ix:List (Nat×Str))
 (hix:∀p∈ix,X.N[p.1]?=some p.2∧X.env.scope.names.lookup p.2=some .cell∧X.fn p.2=true)
 (F:∀base',(∀b o,X.base.get? b=some o→base'.get? b=some o)→q5D X.env.cells σ base' ix→FnOk X.prog X.w X.K X.mg base' CX k f fd ps (sp base')) (hr:Room k X.A) (hb:y6 X.K fd ps ds) (hd:Vals dvs ds) (hx:q09 CX X E)
 (I:Inv X pins σ H s) (r:Vals vs us) (h:∀base',(∀b o,X.base.get? b=some o→base'.get? b=some o)→q5D X.env.cells σ base' ix→sp base' (vs++dvs) H Q E):wpAny (model X.prog X.w) X.A (call (.ref f) us) (EP X pins σ Q) X.xe s:=by(
have r2:Vals (vs++dvs) (us++ds):=r.append hd
obtain⟨e0,up,cel⟩:=I.env0C (ix.filterMap λp=>X.env.cells.lookup p.2) (λc hc=>by obtain⟨p,hp,e⟩:=wH.mp hc;exact⟨p.2,(hix p hp).2.2,e⟩)
have cv:q5D X.env.cells σ (hidT s.heap (v6 X.base (ix.filterMap λp=>X.env.cells.lookup p.2))) ix:=λp hp v hv=>by
 obtain⟨h1,h2,h3⟩:=hix p hp;obtain⟨m,_,hl⟩:=I.loc;obtain⟨u,ru,lk⟩:=hl p.1 p.2 v h1 hv (.inr (.inl h2));rcases lk with⟨z,_⟩|⟨_,c,hc,o,ho,hd⟩
 ·have z:X.env.scope.names.lookup p.2=some .local:=z;rw[h2]at z;cases z
 exact⟨c,u,hc,ru,o,cel c (wH.mpr ⟨p,hp,hc⟩) o ho,hd⟩
have q:=h _ up cv
have hl:(us++ds).length=ps.length:=by rw[←r2.length];exact(F _ up cv).len _ _ _ _ q
refine pJ (c7 ((F _ up cv).run X.A X.stack s H ⟨us,[]⟩ (us++ds) (vs++dvs) Q E hr e0 (hb s us I.kIn hl) r2 q) λr s' hq=>?_)
cases r with
|error e=>exact hx pins σ H s e s' I hq
|ok fl=>
 cases fl with
 |ret u=>exact I.after hq
 |next=>exact False.elim hq
 |brk=>exact False.elim hq
 |cont=>exact False.elim hq)
section
variable{X:Cx}{pins:List (Addr×Obj)}{σ:St}{H:Hp}{s:Shared}
theorem qC8{P:PySem.Fin→Shared→Prop}{EE:Value→Shared→Prop}{a f:Addr}{n:Nat}{vs:List Value}{us:List V}(I:Inv X pins σ H s)
 (ho:s.heap.get? a=some (seqObj "list" vs.toArray n)) (fa:FpOk X pins H a) (ha:X.s₀.heap.objs.size≤a) (rv:Vals us vs) (h64:us.length<64)
 (Pv:Nat→List V→Hp→Prop) (h0:Pv 0 [] H) (hs:∀i x zs H' pins' s' u,us[i]?=some x→RelV x u→Pv i zs H'→Inv { X with A:=X.A.in1.in1,xe:=λ_ _=>False } pins' σ H' s'→wpAny (model X.prog X.w) X.A.in1.in1 (call (.ref f) [u]) (EP { X with A:=X.A.in1.in1,xe:=λ_ _=>False } pins' σ (λz H''=>Pv (i+1) (zs++[z]) H'')) (λ_ _=>False) s')
 (hd:∀zs H',H' a=none→zs.length=us.length→Pv us.length zs H'→∃kk m,Paired (TupI X.K H') zs kk∧(∀k∈kk,k.length=m)∧0<m∧∀q:List Nat,q.Perm (List.range us.length)→(q.map λi=>kk.getD i []).Pairwise (λa b=>lx b a=false)→∀s',Inv X pins σ (upd H' a (.lst (q.map λi=>us.getD i .non))) s'→P (.done (.ret .none)) s'):
 wpAny (model X.prog X.w) X.A.in1.in1 (ksk_tree a (.ref f) false) P EE s:=by(
have hal:a<s.heap.objs.size:=mB ho
have hl:=rv.length
obtain⟨e1,g1⟩:∃e1,(s.heap.update a (Obj.mapSeq λ_=>(#[]:Array Value))).get? a=some (seqObj "list" #[] e1):=⟨_,cO ho λ_=>#[]⟩
unfold ksk_tree
refine kB (lA ho rfl (kB (rF ho rfl (kB (cW g1 rfl ?_)) (by rw[mC,gL];lia) (mQ _))))
refine kB (lW (kB (cL (g7 ?_) (mQ _))) (by show vs.length≤_;rw[gL];lia))
have hks:((s.heap.update a (Obj.mapSeq λ_=>(#[]:Array Value))).push (seqObj "tuple" vs.toArray 0)).objs.size=s.heap.objs.size+1:=by rw[lB,wF]
obtain⟨kS,eks⟩:∃kS:Addr,kS=((s.heap.update a (Obj.mapSeq λ_=>(#[]:Array Value))).push (seqObj "tuple" vs.toArray 0)).objs.size:=⟨_,rfl⟩
have ksz:s.heap.objs.size≤kS:=by rw[eks,hks];exact dL _
have ne:kS≠a:=rT (mV hal ksz)
show wpAny (model X.prog X.w) X.A.in1.in1 (ksk_rest a (.ref f) false vs.toArray e1 (.ref ((s.heap.update a (Obj.mapSeq λ_=>(#[]:Array Value))).push (seqObj "tuple" vs.toArray 0)).objs.size)) P EE { s with heap:=((s.heap.update a (Obj.mapSeq λ_=>(#[]:Array Value))).push (seqObj "tuple" vs.toArray 0)).push (seqObj "list" #[] 0) }
rw[←eks]
have gk0:(((s.heap.update a (Obj.mapSeq λ_=>(#[]:Array Value))).push (seqObj "tuple" vs.toArray 0)).push (seqObj "list" #[] 0)).get? kS=some (seqObj "list" #[] 0):=by rw[eks];exact mU _ rfl
have ga0:=kF (seqObj "list" #[] 0) (kF (seqObj "tuple" vs.toArray 0) g1)
have I0:Inv X pins σ H { s with heap:=((s.heap.update a (Obj.mapSeq λ_=>(#[]:Array Value))).push (seqObj "tuple" vs.toArray 0)).push (seqObj "list" #[] 0),toks:=s.toks }:=I.turnedN (fp:=[a]) (λb o hb' e=>kF _ (kF _ ((mW _ _ (λz=>hb' (kC.mpr z.symm))).trans e))) (λb hb'=>by rw[kC.mp hb'];exact fa)
have fk0:FpOk X pins H kS:=I.fpOk ksz (I.hok.fresh ksz)
have fp:∀{H':Hp} {b:Addr},FpOk X pins H b→H' b=none→FpOk X pins H' b:=λf e=>⟨e,f.2⟩
unfold ksk_rest
refine kB (cS ?_)
first
 |rw[List.forIn_toArray]
 |(rw[←Array.forIn_toList];simp only[List.toList_toArray])
refine kB (ksk_fold (I:=λi s'=>∃H' zs ks e,Inv X pins σ H' s'∧s'.heap.get? a=some (seqObj "list" #[] e1)∧s'.heap.get? kS=some (seqObj "list" (List.toArray ks) e)∧Vals zs ks∧zs.length=i∧Pv i zs H'∧H' a=none∧H' kS=none) vs 0 _ ⟨H,[],[],0,I0,ga0,gk0,.nil,rfl,h0,fa.1,fk0.1⟩ (λj x s' hx hJ=>?_) λs' hJ=>?_)
·obtain⟨H',zs,ks,e,I1,ga,gk,rz,lz,pv,na,nk⟩:=hJ;rw[rX]at lz pv ⊢;have hj:j<vs.length:=(kE.mp hx).1;obtain⟨y,ey,ry⟩:=rv.atN (j:=j) hj;obtain rfl:vs[j]=x:=(kE.mp hx).2;have I2:=(I1.near (A':=X.A.in1.in1) rfl rfl λ_ _=>False).pinned (fp:=[a,kS]) (λb hb'=>by
  simp only[kI,rJ,or_false]at hb';rcases hb' with rfl|rfl
  ·exact fp fa na
  ·exact fp fk0 nk) (λb hb'=>by
  simp only[kI,rJ,or_false]at hb';rcases hb' with rfl|rfl
  ·exact⟨_,ga,λv z=>by cases z⟩
  exact⟨_,gk,λv z=>by cases z⟩)
 refine kB (sX (g8 (hs j y zs H' _ _ _ ey ry pv I2) (λu s'' hq=>?_) λ_ _ z=>z.elim));obtain⟨z,H'',I3,ru,q⟩:=hq;have pa:=I3.pin (a,seqObj "list" #[] e1) (mO _ (mO _ (uU (by simp) ga)));have pk:=I3.pin (kS,seqObj "list" (List.toArray ks) e) (mO _ (mO _ (uU (by simp) gk)));have lk:=rz.length;have ea:(List.toArray ks).push u=List.toArray (ks++[u]):=by simp
 obtain⟨c2,g2⟩:∃c2,(s''.heap.update kS (Obj.mapSeq (·.push u))).get? kS=some (seqObj "list" (List.toArray (ks++[u])) c2):=⟨_,by rw[←ea];exact cO pk.1 (·.push u)⟩;try dsimp only
 refine kB (rF pk.1 rfl ?_ (by rw[mC,gL];lia) (mD (cZ (Array.size_push ..)) (by rw[mC,gL];lia)));have I4:Inv X pins σ H'' s'':=(I3.unpinned).near (A':=X.A) rfl rfl X.xe;have I5:Inv X pins σ H'' { s'' with heap:=s''.heap.update kS (Obj.mapSeq (·.push u)),toks:=s''.toks }:=I4.turnedN (fp:=[kS]) (λb o hb' e=>(mW _ _ (λz=>hb' (kC.mpr z.symm))).trans e) (λb hb'=>by rw[kC.mp hb'];exact fp fk0 pk.2.1);exact mH ⟨rfl,H'',zs++[z],ks++[u],c2,I5,(mW _ _ ne).trans pa.1,g2,rz.append (.cons ru .nil),by rw[mE,lz];rfl,q,pa.2.1,pk.2.1⟩
obtain⟨H',zs,ks,e,I1,ga,gk,rz,lz,pv,na,nk⟩:=hJ
rw[rX,←hl]at lz pv
obtain⟨kk,m,hti,hw,hm,fin⟩:=hd zs H' na lz pv
try dsimp only
refine kB (lA gk rfl ?_)
exact qFO I1 (fp fa na) (fp fk0 nk) ha ne ga gk rz rv lz h64 hti hw hm fin)
end
noncomputable def oneQ(R:V→Hp→Prop):List V→Hp→Prop
| [v],H=>R v H
|_,_=>False
theorem qFT{R:V→Hp→Prop}:∀{xs:List V} {H:Hp},oneQ R xs H→∃v,xs=[v]∧R v H
| [v],_,h=>⟨v,rfl,h⟩
| [],_,h=>h.elim
|_::_::_,_,h=>h.elim
noncomputable def tSL(P:Program)(w:World)(K:PySem.W.Frag)(mg:Str→Option Value)(base:Heap)(cells:List (Str×Addr))(ix:List (Nat×Str))(k:Nat)(x:Str)(tl:TE)(ta:TA):TE:=λσ H Q=>ta σ H λvs H1=>tl σ H1 λfv H2=>∃(f:Addr) (fd:FuncData) (sp:Heap→Sp),fv=.ref f∧(∀base',(∀b o,base.get? b=some o→base'.get? b=some o)→q5D cells σ base' ix→FnOk P w K mg base' CX0 k f fd [x] (sp base'))∧y6 K fd [x] []∧∃(l:Addr) (us:List V) (Pv:Nat→List V→Hp→Prop),vs=[.ref l]∧SqL K H2 l us∧us.length<64∧Pv 0 [] H2∧(∀base' i x zs H',q5D cells σ base' ix→us[i]?=some x→Pv i zs H'→sp base' [x] H' (λz H''=>Pv (i+1) (zs++[z]) H'') E0)∧∀zs H',zs.length=us.length→Pv us.length zs H'→∃kk m,Paired (TupI K H') zs kk∧(∀k∈kk,k.length=m)∧0<m∧∀q:List Nat,q.Perm (List.range us.length)→(q.map λi=>kk.getD i []).Pairwise (λa b=>lx b a=false)→NewO H' (.lst (q.map λi=>us.getD i .non)) Q
theorem qA7{X:Cx}{k:Nat}{x:Str}{e le:Expr}{tl:TE}{ta:TA}{p kp pos:Pos}(ix:List (Nat×Str))(hix:∀p∈ix,X.N[p.1]?=some p.2∧X.env.scope.names.lookup p.2=some .cell∧X.fn p.2=true)(hr:Room (k+2) X.A)(hg:Gl X "sorted")(hm:X.mg "sorted"=none)(hl:PE X le tl)(ha:PA X [e] ta)
 (he:starEach [e] X.env=[(false,eval e X.env)]:=by rfl) (hse:starEach ([]:List Expr) X.env=[]:=by rfl):
 PE X (.Call (.Name "sorted" p) [e] [⟨some "key",le,kp⟩] pos) (tSL X.prog X.w X.K X.mg X.base X.env.cells ix k x tl ta):=by(
intro pins s σ H Q I h
refine rK (q3N I hg hm (u:=.builtin "sorted") (by kernel_rfl) ?_ (by decide) (by decide))
refine callWith_kw (thn (ha pos pins s σ H _ I h) λus s1 ⟨vs,H1,I1,r1,q1⟩=>?_) (by rw[he,hse];rfl) (by rw[he];rfl)
have pk:PK X [⟨some "key",le,kp⟩] (qCT tl tNil):=qEZ hl qHB
refine thn (pk pos pins s1 σ H1 (oneQ _) I1 q1) λws s2 hZ=>?_
obtain⟨xs,H2,I2,r2,q2⟩:=hZ
obtain⟨v,rfl,f,fd,sp,rfl,F,hb,q2⟩:=qFT q2
obtain⟨w,rfl,rw⟩:=q43 r2
obtain rfl:w=Value.ref f:=rw
obtain⟨l,us',Pv,ev,hq,h64,p0,hs,hd⟩:=q2
subst ev
obtain⟨u,rfl,ru⟩:=q43 r1
obtain rfl:u=Value.ref l:=ru
obtain⟨its,rv,pl,hz⟩:=I2.list hq
have hlen:=rv.length
show wpAny (model X.prog X.w) X.A (call (.builtin "sorted") [.ref l] [(Str.ofString "key",.ref f)]) _ _ _
refine call_function_entry_kw aH xV xW (ksk_s1 _ _) ?_
unfold Builtin.«sorted»
refine kB (m:=checkCount "sorted" 1 1 _) (mH (kB (xX pl.isList (kB (cL ?_ (by rw[gL];show its.length≤_;lia))))))
have hsz:((s2.heap.push (seqObj "list" #[] 0)).update s2.heap.objs.size (Obj.mapSeq (· ++its.toArray))).objs.size=s2.heap.objs.size+1:=by rw[wF,lB]
have g:(((s2.heap.push (seqObj "list" #[] 0)).update s2.heap.objs.size (Obj.mapSeq (· ++its.toArray))).push (seqObj "list" its.toArray 0)).get? (s2.heap.objs.size+1)=some (seqObj "list" its.toArray 0):=by rw[←hsz];exact mU _ rfl
show wpAny _ _ _ _ _ { s2 with heap:=((s2.heap.push (seqObj "list" #[] 0)).update s2.heap.objs.size (Obj.mapSeq (· ++its.toArray))).push (seqObj "list" its.toArray 0) }
rw[hsz]
have I3:Inv X pins σ H2 { s2 with heap:=((s2.heap.push (seqObj "list" #[] 0)).update s2.heap.objs.size (Obj.mapSeq (· ++its.toArray))).push (seqObj "list" its.toArray 0),toks:=s2.toks }:=I2.kept (t':=s2.toks) λb o e=>kF _ ((mW _ _ (rT (mB e))).trans (kF _ e))
refine kB (g7 (wpAny_call_entry_kw lZ ⟨_,g,rfl⟩ lG ?_ (ksk_l1 _ _)))
rw[ksk_t1]
have fr:s2.heap.objs.size≤s2.heap.objs.size+1:=dL _
refine qC8 I3 g (I2.fpOk fr (I2.hok.fresh fr)) (mD I2.sz fr) rv h64 Pv p0 (λi x zs H' pins' s' u hx rx pv I'=>qFS (X:={ X with A:=X.A.in1.in1,xe:=λ_ _=>False }) (dvs:=[]) (ds:=[]) (E:=E0) ix hix F hr.in1.in1 hb .nil qK I' (.cons rx .nil) (λbase' up cv=>hs base' i x zs H' cv hx pv)) λzs H' na lz pv=>?_
obtain⟨kk,m,a1,a2,a3,a4⟩:=hd zs H' lz pv
refine⟨kk,m,a1,a2,a3,λq b1 b2 s' I'=>⟨_,rfl,mH ⟨_,rfl,.ref _,_,I',rfl,(a4 q b1 b2).at _ na⟩⟩⟩)
end L2
namespace W1
open PySem L2
structure QM where
P:Nat
B:Nat
nx:Int
V:Mp
lv:List Int
fi:List Int
bo:List Int
namespace QM
structure Ok(m:QM):Prop where
p1:1≤m.P
p2:m.P≤16
b2:m.B≤16
ll:m.lv.length=m.B
lf:m.fi.length=m.B
lo:m.bo.length=m.B
nd:(m.V.map (·.1)).Nodup
nm:∀q∈m.V,0≤q.1∧q.1≤64
blk:∀q∈m.V,∃b:Nat,b<m.B∧q.2 / (m.P:Int)=(b:Int)
wr:∀b,b<m.B→∃f:Nat,m.fi.getD b 0=(f:Int)∧f≤m.P
variable{m:QM}
theorem Ok.lenV(h:m.Ok):m.V.length≤65:=by
 have:=qB7 (l:=m.V.map (·.1)) (m:=(List.range 65).map λi:Nat=>(i:Int)) h.nd λx hx=>by obtain⟨q,hq,rfl⟩:=kO.mp hx;have:=h.nm q hq;exact kO.mpr ⟨q.1.toNat,mK.mpr (by lia),by lia⟩
 rw[hX,hX,gD]at this;exact this
noncomputable def forget(m:QM)(n:Int):QM:={ m with V:=qZ m.V n,lv:=BM.lvF m.P m.V m.lv n }
theorem find_V{n:Int}:(∃p,(n,p)∈m.V∧m.V.find? (λq=>decide (q.1=n))=some (n,p))∨((∀q∈m.V,q.1≠n)∧m.V.find? (λq=>decide (q.1=n))=none):=by(
cases e:m.V.find? (λq=>decide (q.1=n))with
|none=>refine .inr ⟨λq hq z=>?_,rfl⟩;have:=wL.mp e q hq;exact this (hG z)
|some q=>
 have h1:q.1=n:=by have:=d6 e;simpa using this
 have h2:=rP e;refine .inl ⟨q.2,by rw[←h1];exact h2,by rw[←h1]⟩)
theorem lvF_len{n:Int}:(BM.lvF m.P m.V m.lv n).length=m.lv.length:=by(
unfold BM.lvF
split
·rw[gK]
rfl)
theorem Ok.forget(h:m.Ok)(n:Int):(m.forget n).Ok:={ h with ll:=by show(BM.lvF m.P m.V m.lv n).length=m.B;rw[lvF_len];exact h.ll,nd:=q5J h.nd,nm:=λq hq=>h.nm q (qX.mp hq).1,blk:=λq hq=>h.blk q (qX.mp hq).1 }
noncomputable def put(m:QM)(b f:Nat)(n:Int):QM:={ m with V:=qZ m.V n++[(n,((b*m.P+f:Nat):Int))],lv:=(BM.lvF m.P m.V m.lv n).set b ((BM.lvF m.P m.V m.lv n).getD b 0+1),bo:=if m.fi.getD b 0=0 then m.bo.set b m.nx else m.bo,fi:=m.fi.set b (m.fi.getD b 0+1),nx:=m.nx+1 }
theorem Ok.put(h:m.Ok){b f:Nat}{n:Int}(hb:b<m.B)(hf:f<m.P)(ef:m.fi.getD b 0=(f:Int))(n0:0≤n)(n1:n≤64):(m.put b f n).Ok where
p1:=h.p1
p2:=h.p2
b2:=h.b2
ll:=by show(List.set _ _ _).length=m.B;rw[gK,lvF_len];exact h.ll
lf:=by show(List.set _ _ _).length=m.B;rw[gK];exact h.lf
lo:=by
 show(if m.fi.getD b 0=0 then m.bo.set b m.nx else m.bo).length=m.B;split
 ·rw[gK];exact h.lo
 exact h.lo
nd:=by
 show((qZ m.V n++[(n,((b*m.P+f:Nat):Int))]).map (·.1)).Nodup;rw[gB];refine rW.mpr ⟨q5J h.nd,by simp,λa ha c hc=>?_⟩;obtain⟨q,hq,rfl⟩:=kO.mp ha;have hc:c=n:=by simpa using hc
 rw[hc];exact(qX.mp hq).2
nm:=λq hq=>by
 rcases gF.mp hq with hq|hq
 ·exact h.nm q (qX.mp hq).1
 rw[kC.mp hq];exact⟨n0,n1⟩
blk:=λq hq=>by
 rcases gF.mp hq with hq|hq
 ·exact h.blk q (qX.mp hq).1
 rw[kC.mp hq];refine⟨b,hb,?_⟩;show((b*m.P+f:Nat):Int) / (m.P:Int)=_;rw[←dX,jZ hf]
wr:=λc hc=>by
 show ∃g:Nat,(m.fi.set b (m.fi.getD b 0+1)).getD c 0=(g:Int)∧g≤m.P;rw[jG];split
 ·exact⟨f+1,by rw[ef];rfl,hf⟩
 exact h.wr c hc
end QM
noncomputable def vn(b:Nat):V:=.int (b:Int)
noncomputable def u8(B:Nat)(br:List Bool):List Nat:=(List.range B).filter λb=>!(br.getD b false)
noncomputable def yM(B:Nat)(br:List Bool)(fi:List Int):List Nat:=(u8 B br).filter λb=>decide (fi.getD b 0=0)
noncomputable def keyN(cl:List Int)(b:Nat):List Int:=[cl.getD b 0,(b:Int)]
structure FreeIs(B:Nat)(br:List Bool)(cl fi:List Int)(l:List Nat):Prop where
pm:l.Perm (yM B br fi)
so:(l.map (keyN cl)).Pairwise λa b=>lx b a=false
theorem qFU{cl:List Int}{a b:Nat}(h:keyN cl a=keyN cl b):a=b:=by(
unfold keyN at h
injection h with _ h
injection h with h _
lia)
theorem zW{B:Nat}{br:List Bool}{b:Nat}:b∈u8 B br↔b<B∧br.getD b false=false:=by unfold u8;rw[mG,mK,dN]
theorem q73{B:Nat}{br:List Bool}{fi:List Int}{b:Nat}:b∈yM B br fi↔(b<B∧br.getD b false=false)∧fi.getD b 0=0:=by unfold yM;rw[mG,zW,kQ]
theorem q12{B:Nat}{br:List Bool}:(u8 B br).length≤B:=mD (mJ _ _) (by rw[gD];exact kJ _)
theorem qC9{B:Nat}{br:List Bool}{fi:List Int}:(yM B br fi).length≤B:=mD (mJ _ _) q12
theorem FreeIs.mem{B:Nat}{br:List Bool}{cl fi:List Int}{l:List Nat}(h:FreeIs B br cl fi l){b:Nat}(hb:b∈l):b<B∧br.getD b false=false∧fi.getD b 0=0:=by have:=q73.mp (h.pm.mem_iff.mp hb);exact⟨this.1.1,this.1.2,this.2⟩
noncomputable def jS(P:Nat)(fi:List Int)(b:Nat):Bool:=decide (0<fi.getD b 0)&&decide (fi.getD b 0<(P:Int))
noncomputable def jN(B P:Nat)(br:List Bool)(fi:List Int):Option Nat:=(u8 B br).find? (jS P fi)
theorem q0F{B P:Nat}{br:List Bool}{fi:List Int}{b:Nat}(h:jN B P br fi=some b):b<B∧br.getD b false=false∧0<fi.getD b 0∧fi.getD b 0<(P:Int):=by(
have h1:=zW.mp (rP h)
have h2:=d6 h
unfold jS at h2
rw[mP,kQ,kQ]at h2
exact⟨h1.1,h1.2,h2.1,h2.2⟩)
noncomputable def q0S(B P:Nat)(br:List Bool)(fi:List Int)(l:List Nat):Option Nat:=match jN B P br fi with
|some b=>some b
|none=>l.head?
theorem q95{B P:Nat}{br:List Bool}{cl fi:List Int}{l:List Nat}(hl:FreeIs B br cl fi l)(hP:1≤P){b:Nat}(h:q0S B P br fi l=some b):b<B∧br.getD b false=false∧0≤fi.getD b 0∧fi.getD b 0<(P:Int):=by(
unfold q0S at h
split at h
·rename_i b' e;cases h;have:=q0F e;exact⟨this.1,this.2.1,by lia,this.2.2.2⟩
cases l with
|nil=>cases h
|cons c r=>cases h;have:=hl.mem kZ;exact⟨this.1,this.2.1,by lia,by lia⟩)
noncomputable def pgV(P:Nat)(fi:List Int):Option Nat→V
|none=>.non
|some b=>.int ((b:Int)*(P:Int)+fi.getD b 0)
noncomputable def oV:Option Nat→V
|none=>.non
|some b=>.int (b:Int)
theorem q5K{α β:Type}{L:List α}{f:α→β}{d:β}{e:α}:∀{q:List Nat},(∀i∈q,i<L.length)→(q.map λi=>(L.map f).getD i d)=(q.map λi=>L.getD i e).map f
| [],_=>rfl
|i::q,h=>by have hi:=h i kZ;rw[mR,mR,mR,q5K (q:=q) λj hj=>h j (hV _ hj)];congr 1;rw[kN,kN,mL,kD hi];rfl
theorem qA8{α:Type}{L:List α}{e:α}{q:List Nat}(h:q.Perm (List.range L.length)):(q.map λi=>L.getD i e).Perm L:=by(
have:=h.map λi=>L.getD i e
refine this.trans ?_
have eq:(List.range L.length).map (λi=>L.getD i e)=L:=by refine cE (by simp) λi h1 h2=>?_;rw[nK,sN,kN,kD h2];rfl
rw[eq])
theorem qFV{B:Nat}{br:List Bool}{cl fi:List Int}{q:List Nat}(h:q.Perm (List.range (yM B br fi).length))(so:(q.map λi=>((yM B br fi).map (keyN cl)).getD i []).Pairwise λa b=>lx b a=false):FreeIs B br cl fi (q.map λi=>(yM B br fi).getD i 0):=by(
have hin:∀i∈q,i<(yM B br fi).length:=λi hi=>mK.mp (h.mem_iff.mp hi)
refine⟨qA8 h,?_⟩
rw[q5K (e:=0) hin]at so
exact so)
theorem qCA{α β:Type}{L:List α}{f:α→β}{i:Nat}{x:α}(h:L[i]?=some x):(L.take (i+1)).map f=(L.take i).map f++[f x]:=by(
have hi:=(kE.mp h).1
obtain rfl:L[i]=x:=(kE.mp h).2
rw[←m7 hi,gB]
rfl)
theorem qFW{a b:List Int}(h:lx a b=true):lx b a=false:=by(
cases z:lx b a with
|false=>rfl
|true=>have:=q11 a b a h z;rw[q5H]at this;cases this)
theorem qGR{a b c:List Int}(h1:lx b a=false)(h2:lx c b=false):lx c a=false:=by(
cases z:lx c a with
|false=>rfl
|true=>
 cases y:lx a b with
 |true=>have:=q11 c a b z y;rw[h2]at this;cases this
 |false=>have e:=q5I a b y h1;rw[e]at z;rw[h2]at z;cases z)
theorem FreeIs.ex(B:Nat)(br:List Bool)(cl fi:List Int):∃l,FreeIs B br cl fi l:=by(
refine⟨(yM B br fi).mergeSort λa b=>!(lx (keyN cl b) (keyN cl a)),sB _ _,?_⟩
have:=nL (le:=λa b=>!(lx (keyN cl b) (keyN cl a))) (λa b c h1 h2=>by
 rw[dN]at h1 h2 ⊢;exact qGR h1 h2) (λa b=>by
 cases z:lx (keyN cl b) (keyN cl a)with
 |false=>rfl
 |true=>rw[qFW z];rfl) (yM B br fi)
rw[dB]
exact this.imp λh=>by rw[dN]at h;exact h)
theorem rep8{α:Type}{n i:Nat}{y:α}:(List.replicate n y).getD i y=y:=by rw[kN,wD];split<;>rfl
end W1
namespace W1
noncomputable def orB:List Nat→Nat→Nat
| [],b=>b
|s::r,b=>orB r (b|||2 ^ s)
end W1
namespace W1
open PySem L2
theorem yB{B:Nat}:u8 B (List.replicate B false)=List.range B:=by(
unfold u8
refine rA.mpr λb _=>?_
rw[rep8]
rfl)
end W1
namespace L2
open PySem PySem.Spec PyProof.Rows
structure ClM(K:PySem.W.Frag)(W:Addr)(m:Str)(f:Addr):Prop where
rd:PySem.W.readsIn K W (.type "type")=true
fd:PySem.W.findCls K (.ref W) (.type "type") m=some (.val (.ref f))
ga:PySem.W.specialIn K (.ref W) "__getattribute__"=some (some (.builtin "type.__getattribute__"))
kp:PySem.W.keepIn K (.ref f)=true
noncomputable def gLst(K:PySem.W.Frag)(n:Nat)(t:TGs):TG:=λv σ H Q=>∃a xs,v=.ref a∧SqL K H a xs∧xs.length=n∧t xs σ H Q
theorem qIJ{X:Cx}{pos:Pos}{es:List Expr}{k:Nat}{t:TGs}{n:Nat}(hc:X.calm=true)(h:PGs X es t)
 (hn:(assignEach es X.env).length=n:=by rfl) (hst:(assignEach es X.env).findIdx? (·.1)=none:=by rfl):PG X (.Tuple es k pos) (gLst X.K n t):=by(
intro pins s σ H v u Q I r hw
obtain⟨a,xs,e1,hq,hl,hw⟩:=hw
subst e1
cases r
obtain⟨its,rv,p,hz⟩:=I.list hq
rw[PyProof.Rows.assign_Tuple]
refine kB (pQ ?_)
unfold unpack
rw[show(assignEach es X.env).length=its.toArray.size by simp[hn,←hl,rv.length],hst]
refine kB (g7 (PySem.W.kun_itemsOf (I.ok.hd hc) p.isList λh' hx=>?_))
have I1:Inv X pins σ H { s with heap:=h' }:=I.kept (t':=s.toks) λb o e=>hx b o (mY (mB e)) e
exact h pins _ σ H xs _ Q I1 (by simpa using rv) hw)
end L2
namespace W1
open PySem L2
noncomputable def rdy(ie:Int)(l:List Nat)(p:Option Nat):Bool:=decide ((l.length:Int)-(1+ie)>0)||(decide ((l.length:Int)-(1+ie)=0)&&p.isSome)
noncomputable abbrev tyL(m:CM)(q:QM)(b:Nat):List V:=[.int (b:Int),.int (q.lv.getD b 0),.int (m.cl.getD b 0),.int (q.bo.getD b 0)]
noncomputable def spcN(ie:Int)(l:List Nat)(P:Nat)(fi:List Int)(p:Option Nat):Int:=if 1+ie≤(l.length:Int)then(P:Int)else match p with|none=>0|some b=>(P:Int)-fi.getD b 0
noncomputable def jR(B P:Nat)(br:List Bool)(fi:List Int):List Nat:=(u8 B br).filter λb=>decide (fi.getD b 0=(P:Int))
noncomputable def optN(ie:Int)(m:CM)(q:QM)(l:List Nat):List Nat:=((jR q.B q.P m.br q.fi).filter λb=>decide (q.lv.getD b 0≤spcN ie l q.P q.fi (jN q.B q.P m.br q.fi))).filter λb=>decide (q.lv.getD b 0<(q.P:Int))
noncomputable def OneP(B P:Nat)(fi:List Int):Prop:=∀b c,b<B→c<B→jS P fi b=true→jS P fi c=true→b=c
noncomputable def clr1(P:Nat)(fi:List Int)(b:Nat):Nat:=P-(fi.getD b 0).toNat
noncomputable def rm(B P:Nat)(fi:List Int):Nat:=((List.range B).map (clr1 P fi)).sum
theorem qBB{L:List Nat}{f g:Nat→Nat}:(L.map λb=>f b+g b).sum=(L.map f).sum+(L.map g).sum:=by(
induction L with
|nil=>rfl
|cons x L ih=>rw[mR,mR,mR,dZ,dZ,dZ,ih];lia)
theorem zX{L:List Nat}{f g:Nat→Nat}(h:∀b∈L,f b=g b):(L.map f).sum=(L.map g).sum:=by rw[wA h]
theorem qIK{L:List Nat}{p:Nat→Bool}{c:Nat}:(L.map λb=>if p b=true then c else 0).sum=(L.filter p).length*c:=by(
induction L with
|nil=>rw[List.filter_nil];simp
|cons x L ih=>
 rw[mR,dZ,ih,m9];by_cases h:p x=true
 ·rw[hU h,hU h,mI,c8];lia
 rw[hC h,hC h];lia)
theorem qBC{L:List Nat}{p:Nat→Bool}{h:Nat→Nat}(nd:L.Nodup)(one:∀a∈L,∀b∈L,p a=true→p b=true→a=b):(L.map λb=>if p b=true then h b else 0).sum=match L.find? p with|some b=>h b|none=>0:=by(
induction L with
|nil=>rfl
|cons x L ih=>
 obtain⟨n1,n2⟩:=gA.mp nd;rw[mR,dZ,dQ];by_cases hx:p x=true
 ·rw[hx,hU rfl];have:(L.map λb=>if p b=true then h b else 0).sum=(L.map λ_=>0).sum:=zX λb hb=>by rw[hC];intro z;exact n1 (by rw[one x (by simp) b (hV _ hb) hx z];exact hb)
  rw[this];have z:(L.map λ_=>0).sum=0:=by
   clear this ih nd one n1 n2;induction L with
   |nil=>rfl
   |cons y L ih=>rw[mR,dZ,ih]
  rw[z];rfl
 rw[hC hx];rw[Bool.not_eq_true]at hx;rw[hx];rw[rX];exact ih n2 λa ha b hb=>one a (hV _ ha) b (hV _ hb))
section
variable{B P:Nat}{fi cl:List Int}{l:List Nat}
noncomputable abbrev noB(B:Nat):List Bool:=List.replicate B false
theorem qJX(on:OneP B P fi)(wr:∀b,b<B→∃f:Nat,fi.getD b 0=(f:Int)∧f≤P)(p1:1≤P)(hl:FreeIs B (noB B) cl fi l):
 rm B P fi=l.length*P+(match jN B P (noB B) fi with|some b=>P-(fi.getD b 0).toNat|none=>0):=by(
have h1:l.length=((List.range B).filter λb=>decide (fi.getD b 0=0)).length:=by rw[hl.pm.length_eq];unfold yM;rw[yB]
unfold rm jN
rw[yB,h1,←qIK,←qBC (p:=jS P fi) (h:=λb=>P-(fi.getD b 0).toNat) nM (λa ha b hb=>on a b (mK.mp ha) (mK.mp hb)),←qBB]
refine zX λb hb=>?_
obtain⟨f,ef,hf⟩:=wr b (mK.mp hb)
unfold clr1 jS
rw[ef,mM]
by_cases z:f=0
·subst z;simp
by_cases y:f<P
·rw[hC (by simp;lia),hG (by lia),hG (by lia)];simp
rw[hC (by simp;lia),h9 (show ¬(f:Int)<(P:Int) by lia)]
simp
lia)
theorem q96{b:Nat}(h:jN B P (noB B) fi=some b):b<B∧0<fi.getD b 0∧fi.getD b 0<(P:Int):=by have:=q0F h;exact⟨this.1,this.2.2⟩
theorem q13(on:OneP B P fi)(wr:∀b,b<B→∃f:Nat,fi.getD b 0=(f:Int)∧f≤P)(p1:1≤P)(hl:FreeIs B (noB B) cl fi l):
 (jN B P (noB B) fi=none∧rm B P fi=l.length*P)∨∃b e,jN B P (noB B) fi=some b∧1≤e∧e<P∧rm B P fi=l.length*P+e∧fi.getD b 0+(e:Int)=(P:Int):=by(
have h:=qJX on wr p1 hl
cases hp:jN B P (noB B) fi with
|none=>rw[hp]at h;exact .inl ⟨rfl,h⟩
|some b=>rw[hp]at h;obtain⟨a,c,d⟩:=q96 hp;exact .inr ⟨b,P-(fi.getD b 0).toNat,rfl,by lia,by lia,h,by lia⟩)
theorem qFX{ie:Nat}(on:OneP B P fi)(wr:∀b,b<B→∃f:Nat,fi.getD b 0=(f:Int)∧f≤P)(p1:1≤P)(hl:FreeIs B (noB B) cl fi l):
 rdy (ie:Int) l (jN B P (noB B) fi)=decide ((1+ie)*P<rm B P fi):=by(
have key:∀e,e<P→((1+ie)*P<l.length*P+e↔(1+ie<l.length∨(1+ie=l.length∧0<e))):=λe he=>by
 rcases Nat.lt_trichotomy (1+ie) l.length with h|h|h
 ·have:=gR P (show 1+ie+1≤l.length from h);rw[c8]at this;exact⟨λ_=>.inl h,λ_=>by lia⟩
 ·rw[h];exact⟨λz=>.inr ⟨rfl,by lia⟩,λz=>by lia⟩
 have:=gR P (show l.length+1≤1+ie from h);rw[c8]at this;exact⟨λz=>by lia,λz=>by lia⟩
unfold rdy
rcases q13 on wr p1 hl with⟨h1,h2⟩|⟨b,e,h1,e1,e2,h2,_⟩
·rw[h1,h2];have k:=key 0 (by lia);rw[Nat.add_zero]at k;by_cases z:(1+ie)*P<l.length*P
 ·rw[hG z,hG (show(l.length:Int)-(1+(ie:Int))>0 by rcases k.mp z with h|h<;>lia)];rfl
 rw[h9 z,h9 (show ¬(l.length:Int)-(1+(ie:Int))>0 by intro y;exact z (k.mpr (.inl (by lia))))];simp
rw[h1,h2]
have k:=key e e2
by_cases z:(1+ie)*P<l.length*P+e
·rw[hG z];rcases k.mp z with h|h
 ·rw[hG (show(l.length:Int)-(1+(ie:Int))>0 by lia)];rfl
 rw[hG (show(l.length:Int)-(1+(ie:Int))=0 by lia)];simp
rw[h9 z,h9 (show ¬(l.length:Int)-(1+(ie:Int))>0 by intro y;exact z (k.mpr (.inl (by lia)))),h9 (show ¬(l.length:Int)-(1+(ie:Int))=0 by intro y;exact z (k.mpr (.inr ⟨by lia,by lia⟩)))]
rfl)
theorem q74(on:OneP B P fi)(wr:∀b,b<B→∃f:Nat,fi.getD b 0=(f:Int)∧f≤P)(p1:1≤P)(hl:FreeIs B (noB B) cl fi l)(h:0<rm B P fi):∃b,q0S B P (noB B) fi l=some b∧((jN B P (noB B) fi=some b)∨(jN B P (noB B) fi=none∧fi.getD b 0=0)):=by(
unfold q0S
rcases q13 on wr p1 hl with⟨h1,h2⟩|⟨b,e,h1,_⟩
·rw[h1];cases l with
 |nil=>rw[h2]at h;simp at h
 |cons x l=>exact⟨x,rfl,.inr ⟨rfl,(hl.mem (by simp)).2.2⟩⟩
rw[h1]
exact⟨b,rfl,.inl rfl⟩)
theorem qFY{L:List Nat}{f g:Nat→Nat}{b:Nat}(nd:L.Nodup)(hb:b∈L)(h:∀c∈L,c≠b→f c=g c):(L.map f).sum+g b=(L.map g).sum+f b:=by(
induction L with
|nil=>exact absurd hb (by simp)
|cons x L ih=>
 obtain⟨n1,n2⟩:=gA.mp nd;rw[mR,mR,dZ,dZ];rcases kI.mp hb with rfl|hb
 ·rw[zX (L:=L) (f:=f) (g:=g) λc hc=>h c (hV _ hc) λz=>n1 (by rw[←z];exact hc)];lia
 have:=ih n2 hb λc hc=>h c (hV _ hc);have e:=h x (by simp) λz=>n1 (by rw[z];exact hb);lia)
theorem qE0{b:Nat}{v:Int}(hb:b<B)(lf:fi.length=B):rm B P (fi.set b v)+(P-(fi.getD b 0).toNat)=rm B P fi+(P-v.toNat):=by(
have:=qFY (L:=List.range B) (f:=clr1 P (fi.set b v)) (g:=clr1 P fi) (b:=b) nM (mK.mpr hb) λc _ hc=>by unfold clr1;rw[jG,hC (λz=>hc z.1.symm)]
unfold rm
have e:clr1 P (fi.set b v) b=P-v.toNat:=by unfold clr1;rw[jG,hU ⟨rfl,by lia⟩]
rw[e]at this
exact this)
theorem qIL{b f:Nat}(hb:b<B)(lf:fi.length=B)(ef:fi.getD b 0=(f:Int))(hf:f<P):rm B P (fi.set b (fi.getD b 0+1))+1=rm B P fi:=by(
have:=qE0 (P:=P) (v:=fi.getD b 0+1) hb lf
rw[ef]at this ⊢
have e1:((f:Int)).toNat=f:=mM f
have e2:((f:Int)+1).toNat=f+1:=by lia
rw[e1,e2]at this
lia)
theorem qFZ{b:Nat}(hb:b<B)(lf:fi.length=B)(ef:fi.getD b 0=(P:Int)):rm B P (fi.set b 0)=rm B P fi+P:=by(
have:=qE0 (P:=P) (v:=0) hb lf
rw[ef]at this
have e1:((P:Int)).toNat=P:=mM P
rw[e1]at this
simpa using this)
theorem qG0{b:Nat}(on:OneP B P fi)(hb:b<B)(lf:fi.length=B)(h:(jN B P (noB B) fi=some b)∨(jN B P (noB B) fi=none∧fi.getD b 0=0)):OneP B P (fi.set b (fi.getD b 0+1)):=by(
have other:∀c,c<B→c≠b→jS P (fi.set b (fi.getD b 0+1)) c=true→False:=λc hc nc hp=>by
 have hp':jS P fi c=true:=by unfold jS at hp ⊢;rw[jG,hC (λz=>nc z.1.symm)]at hp;exact hp
 rcases h with h|⟨h,_⟩
 ·have h2:jS P fi b=true:=d6 h;exact nc (on c b hc hb hp' h2)
 have:=wL.mp h c (by rw[yB];exact mK.mpr hc);exact this hp'
intro c d hc hd pc pd
by_cases e1:c=b
·by_cases e2:d=b
 ·rw[e1,e2]
 exact(other d hd e2 pd).elim
exact(other c hc e1 pc).elim)
theorem qE1{b:Nat}(on:OneP B P fi):OneP B P (fi.set b 0):=by(
have old:∀c,c<B→jS P (fi.set b 0) c=true→jS P fi c=true:=λc hc hp=>by
 unfold jS at hp ⊢;rw[jG]at hp;split at hp
 ·simp at hp
 exact hp
exact λc d hc hd pc pd=>on c d hc hd (old c hc pc) (old d hd pd))
theorem qG1{V:Mp}:∀{L:List Nat},L.Nodup→(L.map (cntB P V)).sum≤V.length:=by(
induction V with
|nil=>
 intro L _;have:(L.map (cntB P [])).sum=(L.map λ_=>0).sum:=zX λb _=>rfl;rw[this];clear this;induction L with
 |nil=>exact kJ _
 |cons x L ih=>rename_i h;rw[mR,dZ];have:=ih (gA.mp h).2;lia
|cons x V ih=>
 intro L nd;have e:(L.map (cntB P (x::V))).sum=(L.map (cntB P V)).sum+(L.map λb=>if(λb:Nat=>decide (x.2 / (P:Int)=(b:Int))) b=true then 1 else 0).sum:=by rw[←qBB];refine zX λb _=>?_;unfold cntB;rw[pL]
 rw[e,qBC (h:=λ_=>1) nd λa _ b _ ha hb=>by have h1:=mF ha;have h2:=mF hb;lia];have:=ih nd;rw[mI];cases L.find? (λb:Nat=>decide (x.2 / (P:Int)=(b:Int)))with
 |none=>show _ +0≤_;lia
 |some b=>show _ +1≤_;lia)
theorem qE2{L:List Nat}{f:Nat→Nat}{k:Nat}(h:∀b∈L,k≤f b):L.length*k≤(L.map f).sum:=by(
induction L with
|nil=>simp
|cons x L ih=>rw[mI,mR,dZ,c8];have:=ih λb hb=>h b (hV _ hb);have:=h x (by simp);lia)
theorem q97(on:OneP B P fi)(wr:∀b,b<B→∃f:Nat,fi.getD b 0=(f:Int)∧f≤P)(p1:1≤P)(hl:FreeIs B (noB B) cl fi l)(hp:jN B P (noB B) fi=none):(jR B P (noB B) fi).length+l.length=B:=by(
have h1:l.length=((List.range B).filter λb=>decide (fi.getD b 0=0)).length:=by rw[hl.pm.length_eq];unfold yM;rw[yB]
have h2:jR B P (noB B) fi=(List.range B).filter λb=>!decide (fi.getD b 0=0):=by
 unfold jR;rw[yB];refine pB λb hb=>?_;obtain⟨f,ef,hf⟩:=wr b (mK.mp hb);have np:=wL.mp hp b (by rw[yB];exact hb);unfold jS at np;rw[ef]at np ⊢;by_cases z:f=0
 ·subst z;rw[hG (show((0:Nat):Int)=0 from rfl),h9 (by lia)];rfl
 rw[h9 (show ¬(f:Int)=0 by lia)];by_cases y:f<P
 ·exact(np (by rw[hG (show(0:Int)<(f:Int) by lia),hG (show(f:Int)<(P:Int) by lia)];rfl)).elim
 exact hG (by lia)
rw[h1,h2]
have e:∀{L:List Nat} {p:Nat→Bool},(L.filter λb=>!p b).length+(L.filter p).length=L.length:=by
 intro L p;induction L with
 |nil=>rfl
 |cons x L ih=>rw[m9,m9];cases p x<;>simp<;>lia
have:=e (L:=List.range B) (p:=λb=>decide (fi.getD b 0=0))
rw[gD]at this
exact this)
end
noncomputable def qE3(q:QM)(r:Int×Nat×Int):QM:={ q with nx:=r.1 }.put (r.2.1 / q.P) (r.2.1%q.P) r.2.2
structure Fits(q:QM)(r:Int×Nat×Int):Prop where
b:r.2.1 / q.P<q.B
f:q.fi.getD (r.2.1 / q.P) 0=((r.2.1%q.P:Nat):Int)
s:q.nx≤r.1
n0:0≤r.2.2
n1:r.2.2≤64
section
variable{q q0:QM}{r:Int×Nat×Int}{R:List (Int×Nat×Int)}
theorem Fits.ok(h:Fits q r)(ok:q.Ok):(qE3 q r).Ok:=by have okn:QM.Ok { q with nx:=r.1 }:={ ok with };exact okn.put h.b (Nat.mod_lt _ ok.p1) h.f h.n0 h.n1
structure QS(q:QM):Prop where
ok:q.Ok
lv:∀b,b<q.B→q.lv.getD b 0=(cntB q.P q.V b:Nat)
theorem qBD(h:QS q)(n:Int){b:Nat}(hb:b<q.B):(BM.lvF q.P q.V q.lv n).getD b 0=(cntB q.P (qZ q.V n) b:Nat):=by(
unfold BM.lvF
rcases QM.find_V (m:=q) (n:=n)with⟨p,hp,e⟩|⟨no,e⟩
·rw[e];obtain⟨c,hc,ec⟩:=h.ok.blk _ hp;have ec:p / (q.P:Int)=(c:Int):=ec;have cd:=qDV (P:=q.P) (b:=b) h.ok.nd hp;show(q.lv.set (p / (q.P:Int)).toNat (q.lv.getD (p / (q.P:Int)).toNat 0-1)).getD b 0=_;rw[ec,mM,jG];rw[ec]at cd;have e1:=h.lv b hb;by_cases z:c=b
 ·subst z;rw[hU rfl]at cd;rw[hU ⟨rfl,by rw[h.ok.ll];exact hb⟩,e1];lia
 rw[hC (by lia)]at cd;rw[hC (λy=>z y.1),e1];lia
rw[e,h.lv b hb,show qZ q.V n=q.V from rA.mpr λy hy=>hG (no y hy)])
theorem Fits.qs(h:Fits q r)(qs:QS q):QS (qE3 q r):=by(
refine⟨h.ok qs.ok,λb hb=>?_⟩
have hb:b<q.B:=hb
have lc:=qBD qs r.2.2 hb
show((BM.lvF q.P q.V q.lv r.2.2).set (r.2.1 / q.P) ((BM.lvF q.P q.V q.lv r.2.2).getD (r.2.1 / q.P) 0+1)).getD b 0=((cntB q.P (qZ q.V r.2.2++[(r.2.2,((r.2.1 / q.P*q.P+r.2.1%q.P:Nat):Int))]) b:Nat):Int)
have ep:r.2.1 / q.P*q.P+r.2.1%q.P=r.2.1:=by rw[wK];exact Nat.div_add_mod _ _
have ea:cntB q.P (qZ q.V r.2.2++[(r.2.2,(r.2.1:Int))]) b=cntB q.P (qZ q.V r.2.2) b+(if r.2.1 / q.P=b then 1 else 0):=by
 unfold cntB;rw[List.countP_append,List.countP_singleton,←dX];by_cases z:r.2.1 / q.P=b
 ·rw[hU z,z,hG rfl];rfl
 rw[hC z,h9 (by lia)];rfl
rw[ep,ea,jG]
by_cases z:r.2.1 / q.P=b
·rw[hU z,hU ⟨z,by rw[QM.lvF_len,qs.ok.ll];lia⟩,z,lc];lia
rw[hC z,hC (λy=>z y.1),lc]
lia)
end
section
variable{q:QM}{m:CM}{l:List Nat}
theorem qE4{b f:Nat}{n:Int}(hf:f<q.P):qE3 q (q.nx,b*q.P+f,n)=q.put b f n:=by show({ q with nx:=q.nx }:QM).put ((b*q.P+f) / q.P) ((b*q.P+f)%q.P) n=_;rw[jZ hf,wK,pZ,pM hf]
theorem QS.put{b f:Nat}{n:Int}(h:QS q)(hb:b<q.B)(hf:f<q.P)(ef:q.fi.getD b 0=(f:Int))(n0:0≤n)(n1:n≤64):QS (q.put b f n):=by(
have ft:Fits q (q.nx,b*q.P+f,n):=by
 refine⟨?_,?_,gE _,n0,n1⟩
 ·show(b*q.P+f) / q.P<q.B;rw[jZ hf];exact hb
 show q.fi.getD ((b*q.P+f) / q.P) 0=(((b*q.P+f)%q.P:Nat):Int);rw[jZ hf,ef,wK,pZ,pM hf]
have:=ft.qs h
rw[qE4 hf]at this
exact this)
theorem uI{b f:Nat}{n:Int}{x:Int×Int}:x∈(q.put b f n).V↔x=(n,((b*q.P+f:Nat):Int))∨(x∈q.V∧x.1≠n):=by show x∈qZ q.V n++[(n,((b*q.P+f:Nat):Int))]↔_;rw[gF,qX,kC];exact⟨λh=>h.symm,λh=>h.symm⟩
theorem QS.forget(h:QS q)(n:Int):QS (q.forget n):=⟨h.ok.forget n,λb hb=>qBD h n hb⟩
noncomputable def QM.emptied(q:QM)(b:Nat):QM:={ q with fi:=q.fi.set b 0,bo:=q.bo.set b 0 }
theorem QS.emptied(h:QS q)(b:Nat):QS (q.emptied b):=by(
refine⟨{ h.ok with lf:=by show(q.fi.set b 0).length=q.B;rw[gK];exact h.ok.lf,lo:=by show(q.bo.set b 0).length=q.B;rw[gK];exact h.ok.lo,wr:=λc hc=>?_ },h.lv⟩
show ∃f:Nat,(q.fi.set b 0).getD c 0=(f:Int)∧f≤q.P
rw[jG]
split
·exact⟨0,rfl,mQ _⟩
exact h.ok.wr c hc)
noncomputable def tlOf(m:CM)(q:QM)(b:Nat):Tl:=⟨(b:Int),q.lv.getD b 0,m.cl.getD b 0,q.bo.getD b 0⟩
theorem qE5{f:Tl→Int}{ts:List Tl}(h:ts≠[]):∃T∈ts,pk f ts=T.b∧∀o∈ts,f T≤f o:=by obtain⟨i,hi,hu,hn⟩:=q5C f ts h;exact⟨ts[i],gW hi,qGP hi hu hn,λo ho=>by have:=q4R.mp hu o ho;lia⟩
theorem qE6{ie:Nat}(h:QS q)(on:OneP q.B q.P q.fi)(br:m.br=noB q.B)(hl:FreeIs q.B (noB q.B) m.cl q.fi l)(hr:rm q.B q.P q.fi=(1+ie)*q.P)(hv:q.V.length<(q.B-(1+ie))*q.P):
 optN (ie:Int) m q l≠[]∧∀b∈optN (ie:Int) m q l,(∀c∈optN (ie:Int) m q l,q.lv.getD b 0≤q.lv.getD c 0)→cntB q.P q.V b*(q.B-(1+ie))≤q.V.length:=by(
have p1:=h.ok.p1
have ll:jN q.B q.P (noB q.B) q.fi=none∧l.length=1+ie:=by
 rcases q13 on h.ok.wr p1 hl with⟨h1,h2⟩|⟨b,e,h1,e1,e2,h2,_⟩
 ·refine⟨h1,?_⟩;rw[hr]at h2;exact(sO (by lia) h2).symm
 exfalso;rw[hr]at h2;have k:(1+ie)*q.P%q.P=e:=by rw[h2,wK,pZ,pM e2]
 rw[aE]at k;lia
have fl:=q97 on h.ok.wr p1 hl ll.1
have flC:(jR q.B q.P (noB q.B) q.fi).length=q.B-(1+ie):=by lia
have hsp:spcN (ie:Int) l q.P q.fi (jN q.B q.P (noB q.B) q.fi)=(q.P:Int):=by unfold spcN;rw[hU (by lia)]
have ndF:(jR q.B q.P (noB q.B) q.fi).Nodup:=by unfold jR;rw[yB];exact gI _ nM
have hB:∀b∈jR q.B q.P (noB q.B) q.fi,b<q.B:=λb hb=>by unfold jR at hb;rw[yB]at hb;exact mK.mp (mG.mp hb).1
have memo:∀b,b∈optN (ie:Int) m q l↔b∈jR q.B q.P (noB q.B) q.fi∧cntB q.P q.V b<q.P:=λb=>by
 unfold optN;rw[br,hsp,mG,mG,kQ,kQ];constructor
 ·rintro⟨⟨a,_⟩,c⟩
  rw[h.lv b (hB b a)]at c;exact⟨a,by lia⟩
 rintro⟨a,c⟩
 rw[h.lv b (hB b a)];exact⟨⟨a,by lia⟩,by lia⟩
have cs:=qG1 (P:=q.P) (V:=q.V) ndF
constructor
·intro z;have:(jR q.B q.P (noB q.B) q.fi).length*q.P≤((jR q.B q.P (noB q.B) q.fi).map (cntB q.P q.V)).sum:=qE2 λb hb=>by refine rQ λy=>?_;have:b∈optN (ie:Int) m q l:=(memo b).mpr ⟨hb,by lia⟩;rw[z]at this;cases this
 rw[flC]at this;lia
intro b hb hmin
obtain⟨bF,bP⟩:=(memo b).mp hb
have:(jR q.B q.P (noB q.B) q.fi).length*cntB q.P q.V b≤((jR q.B q.P (noB q.B) q.fi).map (cntB q.P q.V)).sum:=qE2 λc hc=>by
 by_cases y:cntB q.P q.V c<q.P
 ·have:=hmin c ((memo c).mpr ⟨hc,y⟩);rw[h.lv b (hB b bF),h.lv c (hB c hc)]at this;lia
 lia
rw[flC,wK]at this
lia)
end
theorem qIM{V:Mp}(nd:(V.map (·.1)).Nodup):V.length≤((V.map (·.1)).filter λn=>decide (n≠64)).length+1:=by(
have e:∀{L:List Int},L.Nodup→L.length≤(L.filter λn=>decide (n≠64)).length+1:=by
 intro L;induction L with
 |nil=>intro _;exact mQ _
 |cons y L ih=>
  intro nd;obtain⟨n1,n2⟩:=gA.mp nd;rw[m9];by_cases z:y=64
  ·rw[hC (by simp[z])];have:L.filter (λn=>decide (n≠64))=L:=rA.mpr λw hw=>hG λe=>n1 (by rw[z,←e];exact hw);rw[this];exact kJ _
  rw[hU (hG z),mI,mI];have:=ih n2;lia
have:=e nd
rw[hX]at this
exact this)
inductive Rl where
|rk (f:Int→Int→Tl→Int)
|win (m:Int)
|fol (row:List Int) (u:Nat)
noncomputable def Rl.Ok:Rl→Prop
| .win m=>1≤m
|_=>True
noncomputable def leL(k:Tl→List Int)(a b:Tl):Bool:=!lx (k b) (k a)
noncomputable def winC(m:Int)(ts:List Tl):List Tl:=((ts.mergeSort (leL λT=>[T.bo,T.b])).take m.toNat).mergeSort (leL Tl.ns)
theorem qG2{m:Int}{ts:List Tl}:∀o∈winC m ts,o∈ts:=λo ho=>cT.mp (List.mem_of_mem_take (cT.mp ho))
theorem qG3{m:Int}{ts:List Tl}(m1:1≤m)(h:ts≠[]):winC m ts≠[]:=λz=>by(
have:=dE List.length z
unfold winC at this
rw[lL,gH,lL,lF]at this
have:=List.length_pos_iff.mpr h
omega)
noncomputable def fo(row:List Int)(u:Nat)(ts:List Tl):Int:=match row[u]? with
|some n=>if n∈ts.map Tl.b then n else(ts.map Tl.b).headD 0
|none=>(ts.map Tl.b).headD 0
noncomputable def Rl.ch:Rl→Int→Int→List Tl→Int×Rl
| .rk f,pg,nw,ts=>(pk (f pg nw) ts,.rk f)
| .win m,_,_,ts=>(pk Tl.lv (winC m ts),.win m)
| .fol row u,_,_,ts=>(fo row u ts,.fol row (min (u+1) row.length))
noncomputable def minF(cl:List Int):List Nat→Option Nat
| []=>none
|b::L=>match minF cl L with
 |none=>some b
 |some c=>if cl.getD c 0<cl.getD b 0 then some c else some b
noncomputable def spF(q:QM)(cl:List Int):Nat:=match(List.range q.B).find? (jS q.P q.fi)with
|some b=>b
|none=>(minF cl ((List.range q.B).filter λb=>decide (q.fi.getD b 0=0))).getD 0
section
variable{B P:Nat}{q:QM}{m:CM}{cl fi:List Int}{l:List Nat}
theorem q3C:∀{L:List Nat},L.Pairwise (· < ·)→(minF cl L=none→L=[])∧∀b,minF cl L=some b→b∈L∧∀c∈L,lx (keyN cl c) (keyN cl b)=false
| [],_=>⟨λ_=>rfl,λb h=>by cases h⟩
|a::L,pw=>by
 obtain⟨p1,p2⟩:=gM.mp pw;obtain⟨h1,h2⟩:=q3C p2;unfold minF;cases z:minF cl L with
 |none=>
  have:=h1 z;subst this;refine⟨λy=>(by cases y),λb h=>?_⟩;injection h with h
  subst h;exact⟨by simp,λc hc=>by rw[kC.mp hc];exact q5H _⟩
 |some c=>
  obtain⟨g1,g2⟩:=h2 c z;have hac:=p1 c g1;dsimp only;by_cases y:cl.getD c 0<cl.getD a 0
  ·rw[hU y];refine⟨λw=>(by cases w),λb h=>?_⟩;injection h with h
   subst h;refine⟨hV _ g1,λd hd=>?_⟩;rcases kI.mp hd with e|e
   ·subst e;unfold keyN lx;rw[hC (by omega)];exact h9 (by omega)
   exact g2 d e
  rw[hC y];refine⟨λw=>(by cases w),λb h=>?_⟩;injection h with h
  subst h;refine⟨by simp,λd hd=>?_⟩;rcases kI.mp hd with e|e
  ·subst e;exact q5H _
  refine qGR (b:=keyN cl c) ?_ (g2 d e);unfold keyN lx;by_cases w:cl.getD c 0=cl.getD a 0
  ·rw[hU w];unfold lx;rw[hC (by omega)];exact h9 (by omega)
  rw[hC w];exact h9 (by omega)
theorem qCB(hl:FreeIs B (noB B) cl fi l):l.head?=minF cl ((List.range B).filter λb=>decide (fi.getD b 0=0)):=by(
have pm:=hl.pm
unfold yM at pm
rw[yB]at pm
have pw:((List.range B).filter λb=>decide (fi.getD b 0=0)).Pairwise (· < ·):=gI _ rD
obtain⟨h1,h2⟩:=q3C (cl:=cl) pw
cases l with
|nil=>rw[xD.mp pm];rfl
|cons a r=>
 cases z:minF cl ((List.range B).filter λb=>decide (fi.getD b 0=0))with
 |none=>rw[h1 z]at pm;have:=pm.length_eq;cases this
 |some b=>
  obtain⟨g1,g2⟩:=h2 b z;have so:=hl.so;rw[mR]at so;have so:=(gM.mp so).1;have hb:=pm.mem_iff.mpr g1;have e:a=b:=by
   rcases kI.mp hb with e|e
   ·exact e.symm
   exact qFU (q5I _ _ (g2 a (pm.mem_iff.mp (by simp))) (so _ (kO.mpr ⟨b,e,rfl⟩)))
  rw[e];rfl)
theorem qIN(on:OneP q.B q.P q.fi)(wr:∀b,b<q.B→∃f:Nat,q.fi.getD b 0=(f:Int)∧f≤q.P)(p1:1≤q.P)(hl:FreeIs q.B (noB q.B) cl q.fi l)(h:0<rm q.B q.P q.fi):q0S q.B q.P (noB q.B) q.fi l=some (spF q cl):=by(
obtain⟨b,hb,_⟩:=q74 on wr p1 hl h
rw[hb]
unfold q0S jN at hb
unfold spF
rw[yB]at hb
cases z:(List.range q.B).find? (jS q.P q.fi)with
|some c=>rw[z]at hb;exact hb.symm
|none=>rw[z]at hb;rw[←qCB hl];have hb:l.head?=some b:=hb;rw[hb];rfl)
noncomputable def lvP(P b:Nat)(V:Mp):List (List Int):=(List.range P).filterMap λf=>(V.find? λy=>decide (y.2=((b*P+f:Nat):Int))).map λy=>[y.2,y.1]
theorem q3D{P b:Nat}{V:Mp}(hP:1≤P)(pd:(V.map (·.2)).Nodup){k:List Int}:k∈lvP P b V↔∃y∈V,y.2 / (P:Int)=(b:Int)∧k=[y.2,y.1]:=by(
unfold lvP
rw[wH]
constructor
·rintro⟨f,hf,e⟩
 have hf:=mK.mp hf;cases z:V.find? λy=>decide (y.2=((b*P+f:Nat):Int))with
 |none=>rw[z]at e;cases e
 |some y=>
  rw[z]at e;have e1:=rP z;have e2:y.2=((b*P+f:Nat):Int):=by simpa using d6 z
  refine⟨y,e1,?_,(kW e).symm⟩;rw[e2,←dX,jZ hf]
rintro⟨y,hy,hb,rfl⟩
have h0:0≤y.2:=by refine rQ λz=>?_;have:=Int.ediv_neg_of_neg_of_pos (a:=y.2) (b:=(P:Int)) (by omega) (by omega);omega
have e:=Int.mul_ediv_add_emod y.2 (P:Int)
have m0:=aK y.2 (show(P:Int)≠0 by omega)
have m1:=xJ y.2 (show(0:Int)<(P:Int) by omega)
refine⟨(y.2%(P:Int)).toNat,mK.mpr (by omega),?_⟩
have ey:y.2=((b*P+(y.2%(P:Int)).toNat:Nat):Int):=by rw[aP,dR,←hb,Int.mul_comm];omega
cases z:V.find? λw=>decide (w.2=((b*P+(y.2%(P:Int)).toNat:Nat):Int))with
|none=>exact absurd (hG ey) (wL.mp z y hy)
|some w=>
 have e1:=rP z;have e2:w.2=((b*P+(y.2%(P:Int)).toNat:Nat):Int):=by simpa using d6 z
 have:w=y:=by
  clear z;induction V with
  |nil=>cases e1
  |cons v V ih=>
   rw[mR]at pd;obtain⟨n1,n2⟩:=gA.mp pd;rcases kI.mp e1 with a|a<;>rcases kI.mp hy with c|c
   ·rw[a,c]
   ·exact(n1 (by rw[←a,e2,←ey];exact kO.mpr ⟨y,c,rfl⟩)).elim
   ·exact(n1 (by rw[←c,ey,←e2];exact kO.mpr ⟨w,a,rfl⟩)).elim
   exact ih n2 c a
 rw[this];rfl)
theorem qA9{P b:Nat}{V:Mp}:(lvP P b V).Pairwise λa c=>lx c a=false∧a≠c:=by(
unfold lvP
refine List.pairwise_filterMap.mpr (rD.imp fun {f g} hfg k hk k' hk'=>?_)
cases z:V.find? λy=>decide (y.2=((b*P+f:Nat):Int))with
|none=>rw[z]at hk;cases hk
|some y=>
 cases z':V.find? λy=>decide (y.2=((b*P+g:Nat):Int))with
 |none=>rw[z']at hk';cases hk'
 |some y'=>
  rw[z]at hk;rw[z']at hk';have e2:y.2=((b*P+f:Nat):Int):=by simpa using d6 z
  have e3:y'.2=((b*P+g:Nat):Int):=by simpa using d6 z'
  obtain rfl:[y.2,y.1]=k:=kW hk;obtain rfl:[y'.2,y'.1]=k':=kW hk';refine⟨?_,λw=>?_⟩
  ·unfold lx;rw[hC (by omega)];exact h9 (by omega)
  injection w with w _
  omega)
theorem qG4{P b:Nat}{V:Mp}{rs:List (List Int)}(hP:1≤P)(pd:(V.map (·.2)).Nodup)(nd:rs.Nodup)(mm:∀k,k∈rs↔∃n p,k=[p,n]∧(n,p)∈V∧p / (P:Int)=(b:Int))(so:rs.Pairwise λa b=>lx b a=false):rs=lvP P b V:=by(
refine qDW (q21 nd (qA9.imp λz=>z.2) λk=>?_) so (qA9.imp λz=>z.1)
rw[mm,q3D hP pd]
constructor
·rintro⟨n,p,rfl,h1,h2⟩
 exact⟨(n,p),h1,h2,rfl⟩
rintro⟨y,h1,h2,rfl⟩
exact⟨y.1,y.2,rfl,h1,h2⟩)
end
structure XS where
q:QM
cl:List Int
pg:Nat→Option (Int×Int)
lf:Option Int
rc:List (Str×Int×Bool)
structure Tm where
ie:Nat
sp:Int
ev:Bool
noncomputable def mnL:List Int→Option Int
| []=>none
|a::l=>match mnL l with
 |none=>some a
 |some m=>some (if a≤m then a else m)
theorem qAA:∀{l:List Int},l≠[]→∃m,mnL l=some m∧m∈l∧∀a∈l,m≤a
| [],h=>absurd rfl h
| [a],_=>⟨a,rfl,by simp,λb hb=>by rw[kC.mp hb];exact gE _⟩
|a::b::l,_=>by
 obtain⟨m,e,h1,h2⟩:=qAA (l:=b::l) (by simp);unfold mnL;rw[e];by_cases z:a≤m
 ·refine⟨a,by dsimp only;rw[hU z],by simp,λc hc=>?_⟩;rcases kI.mp hc with e|hc
  ·rw[e];exact gE _
  exact gZ z (h2 c hc)
 refine⟨m,by dsimp only;rw[hC z],hV _ h1,λc hc=>?_⟩;rcases kI.mp hc with e|hc
 ·rw[e];lia
 exact h2 c hc
namespace XS
variable(s:XS)
noncomputable def pb:Nat:=spF s.q s.cl
noncomputable def pf:Nat:=(s.q.fi.getD s.pb 0).toNat
noncomputable def np:Nat:=s.pb*s.q.P+s.pf
noncomputable def put(n v:Int):XS:=⟨s.q.put s.pb s.pf n,s.cl,λi=>if i=s.np then some (s.q.nx*128+n,v)else s.pg i,s.lf.map (· - 1),s.rc++[(Str.ofString "put",(s.np:Int),true)]⟩
noncomputable def wip(b:Nat):XS:=⟨s.q.emptied b,s.cl.set b (s.cl.getD b 0+1),λi=>if i / s.q.P=b then none else s.pg i,s.lf.map (· - 1),s.rc++[(Str.ofString "wipe",(b:Int),true)]⟩
noncomputable def forg(n:Int):XS:={ s with q:=s.q.forget n }
noncomputable def rmX:Nat:=rm s.q.B s.q.P s.q.fi
noncomputable def hl:List Int:=((s.q.V.map (·.1)).filter λn=>decide (n≠64)).mergeSort λa b=>decide (a≤b)
noncomputable def bits(ns:List Int):Int:=((orB (ns.map Int.toNat) 0:Nat):Int)
noncomputable def val(p n:Int):Int:=if n=64 then bits s.hl else((s.pg p.toNat).getD (0,0)).2
noncomputable def mvs:List (List Int)→XS→XS×Option (List (List Int))
| [],s=>(s,some [])
|k::r,s=>if s.lf=some 0 then(s,none)else
 match mvs r (s.put (k.getD 1 0) (s.val (k.getD 0 0) (k.getD 1 0)))with
 |(s',none)=>(s',none)
 |(s',some ms)=>(s',some ([k.getD 1 0,k.getD 0 0,(s.np:Int)]::ms))
noncomputable def spc(k:Tm):Int:=if(1+k.ie)*s.q.P≤s.rmX then(s.q.P:Int)else(s.rmX:Int)-(k.ie*s.q.P:Nat)
noncomputable def ful(k:Tm):List Nat:=(List.range s.q.B).filter λb=>decide (s.q.fi.getD b 0=(s.q.P:Int))&&decide (s.q.lv.getD b 0≤s.spc k)
noncomputable def ded(k:Tm):List Nat:=(s.ful k).filter λb=>decide (s.q.lv.getD b 0<(s.q.P:Int))
noncomputable def lst:Int:=(mnL s.cl).getD 0
noncomputable def clb(k:Tm)(L:List Nat):List Nat:=L.filter λb=>decide (s.cl.getD b 0<s.lst+k.sp)
noncomputable def opt(k:Tm):List Nat:=if k.ev then s.clb k (s.ded k)else s.ded k
noncomputable def tl(b:Nat):Tl:=⟨(b:Int),s.q.lv.getD b 0,s.cl.getD b 0,s.q.bo.getD b 0⟩
noncomputable def ots(k:Tm):List Tl:=(s.opt k).map s.tl
noncomputable def chg(k:Tm):Option Nat:=minF s.cl (s.clb k (s.ful k))
noncomputable def rd(k:Tm):Bool:=decide ((1+k.ie)*s.q.P<s.rmX)
noncomputable def tk(k:Tm)(g:Rl):Option (Str×Nat×Rl):=if s.opt k=[]then(if k.ev then(s.chg k).map λb=>("even",b,g)else none)
 else some ("rule",(g.ch (s.q.P:Int) s.q.nx (s.ots k)).1.toNat,(g.ch (s.q.P:Int) s.q.nx (s.ots k)).2)
end XS
inductive Rf where
|dark|room
structure Pa where
why:Str
ts:List Tl
b:Nat
mv:List (List Int)
structure Sx where
s:XS
g:Rl
ps:List Pa
namespace Sx
noncomputable def room(k:Tm)(X:Sx):Sx×Except Rf Pa:=match X.s.tk k X.g with
|none=>(X,.error .room)
|some (y,b,g)=>match XS.mvs (lvP X.s.q.P b X.s.q.V) X.s with
 |(s,none)=>(⟨s,g,X.ps⟩,.error .dark)
 |(s,some ms)=>if s.lf=some 0 then(⟨s,g,X.ps⟩,.error .dark)else(⟨s.wip b,g,X.ps++[⟨y,X.s.ots k,b,ms⟩]⟩,.ok ⟨y,X.s.ots k,b,ms⟩)
noncomputable def rooms(k:Tm):Nat→Sx→Option (Sx×Except Rf Unit)
|0,X=>if X.s.rd k then some (X,.ok ())else none
|i+1,X=>if X.s.rd k then some (X,.ok ())else match X.room k with
 |(Y,.error e)=>some (Y,.error e)
 |(Y,.ok _)=>rooms k i Y
noncomputable def ask(k:Tm)(i:Nat)(X:Sx)(n v:Int):Option (Sx×Except Rf Nat):=match X.rooms k i with
|none=>none
|some (Y,.error e)=>some (Y,.error e)
|some (Y,.ok _)=>if Y.s.lf=some 0 then some (Y,.error .dark)else some (⟨Y.s.put n v,Y.g,Y.ps⟩,.ok Y.s.np)
end Sx
structure WX(k:Tm)(s:XS):Prop where
qs:QS s.q
on:OneP s.q.B s.q.P s.q.fi
lc:s.cl.length=s.q.B
cr:∀b f:Nat,b<s.q.B→s.q.fi.getD b 0≤(f:Int)→f<s.q.P→s.pg (b*s.q.P+f)=none
vl:∀y∈s.q.V,∃b f:Nat,∃v:Int×Int,b<s.q.B∧f<s.q.P∧y.2=((b*s.q.P+f:Nat):Int)∧(f:Int)<s.q.fi.getD b 0∧s.pg (b*s.q.P+f)=some v
pd:(s.q.V.map (·.2)).Nodup
c0:∀b,0≤s.cl.getD b 0∧s.cl.getD b 0≤(s.rc.length:Int)
bo:∀b,0≤s.q.bo.getD b 0∧s.q.bo.getD b 0<s.q.nx
nx:1≤s.q.nx
sl:k.ie*s.q.P≤s.rmX
l6:s.q.V.length<66
l0:∀i,s.lf=some i→0≤i
theorem q7K{P b f c g:Nat}(hf:f<P)(hg:g<P)(e:b*P+f=c*P+g):b=c∧f=g:=by(
have h1:=jZ (b:=b) hf
have h2:=jZ (b:=c) hg
rw[e,h2]at h1
subst h1
exact⟨rfl,by lia⟩)
theorem vK{V:Mp}{n:Int}(nd:(V.map (·.1)).Nodup):(qZ V n).length≤V.length∧∀p,(n,p)∈V→(qZ V n).length+1=V.length:=by(
refine⟨mJ _ _,λp h=>?_⟩
induction V with
|nil=>exact absurd h (by simp)
|cons y V ih=>
 rw[mR]at nd;obtain⟨n1,n2⟩:=gA.mp nd;unfold qZ;rw[m9];rcases kI.mp h with e|h
 ·subst e;rw[hC (by simp),mI];have:V.filter (λq=>decide (q.1≠n))=V:=rA.mpr λz hz=>hG λe=>n1 (kO.mpr ⟨z,hz,e⟩);rw[this]
 have ne:y.1≠n:=λe=>n1 (kO.mpr ⟨_,h,e.symm⟩);rw[hU (hG ne),mI,mI];have:=ih n2 h;unfold qZ at this;lia)
section
variable{k:Tm}{s:XS}
theorem WX.spot(h:WX k s)(hr:0<s.rmX):s.pb<s.q.B∧s.pf<s.q.P∧s.q.fi.getD s.pb 0=(s.pf:Int)∧((jN s.q.B s.q.P (noB s.q.B) s.q.fi=some s.pb)∨(jN s.q.B s.q.P (noB s.q.B) s.q.fi=none∧s.q.fi.getD s.pb 0=0))∧∀l,FreeIs s.q.B (noB s.q.B) s.cl s.q.fi l→q0S s.q.B s.q.P (noB s.q.B) s.q.fi l=some s.pb:=by(
have p1:=h.qs.ok.p1
have sp:∀l,FreeIs s.q.B (noB s.q.B) s.cl s.q.fi l→q0S s.q.B s.q.P (noB s.q.B) s.q.fi l=some s.pb:=λl hl=>qIN h.on h.qs.ok.wr p1 hl hr
obtain⟨l,hl⟩:=FreeIs.ex s.q.B (noB s.q.B) s.cl s.q.fi
have hsp:=sp l hl
obtain⟨b,hb,hc⟩:=q74 h.on h.qs.ok.wr p1 hl hr
rw[hsp]at hb
obtain rfl:=kW hb
obtain⟨hB,_,f0,f1⟩:=q95 hl p1 hsp
have:(s.pf:Int)=s.q.fi.getD s.pb 0:=by unfold XS.pf;lia
exact⟨hB,by lia,this.symm,hc,sp⟩)
theorem qAB{b f:Nat}{n:Int}{q:QM}(lf:q.fi.length=q.B)(hb:b<q.B)(ef:q.fi.getD b 0=(f:Int))(c:Nat):(q.put b f n).fi.getD c 0=if b=c then(f:Int)+1 else q.fi.getD c 0:=by(
show(q.fi.set b (q.fi.getD b 0+1)).getD c 0=_
rw[ef,jG,lf]
by_cases e:b=c
·rw[hU ⟨e,hb⟩,hU e]
rw[hC (λz=>e z.1),hC e])
theorem WX.put(h:WX k s){n v:Int}(hr:k.ie*s.q.P<s.rmX)(n0:0≤n)(n1:n≤64)(hl:(∃p,(n,p)∈s.q.V)∨s.q.V.length<65)(dk:s.lf≠some 0):WX k (s.put n v)∧(s.put n v).rmX+1=s.rmX:=by(
obtain⟨hb,hf,ef,sp,_⟩:=h.spot (by lia)
have okq:=h.qs.ok
have gfi:∀c,(s.put n v).q.fi.getD c 0=if s.pb=c then(s.pf:Int)+1 else s.q.fi.getD c 0:=qAB okq.lf hb ef
have rm1:(s.put n v).rmX+1=s.rmX:=qIL hb okq.lf ef hf
refine⟨⟨h.qs.put hb hf ef n0 n1,qG0 h.on hb okq.lf sp,h.lc,λc g hc hg hgP=>?_,λy hy=>?_,?_,λc=>?_,λc=>?_,?_,?_,?_,λi e=>?_⟩,rm1⟩
·have hgP:g<s.q.P:=hgP;rw[gfi]at hg;show(if c*s.q.P+g=s.np then some (s.q.nx*128+n,v)else s.pg (c*s.q.P+g))=none;by_cases e:s.pb=c
 ·subst e;rw[hU rfl]at hg;rw[hC (by unfold XS.np;lia)];exact h.cr _ g hc (by lia) hgP
 rw[hC e]at hg;rw[hC (λ(z:c*s.q.P+g=s.np)=>e (q7K hgP hf z).1.symm)];exact h.cr c g hc hg hgP
·rcases uI.mp hy with e|⟨hy,hne⟩
 ·rw[e];refine⟨s.pb,s.pf,_,hb,hf,rfl,?_,hU rfl⟩;rw[gfi,hU rfl];lia
 obtain⟨c,g,w,a1,a2,a3,a4,a5⟩:=h.vl y hy;refine⟨c,g,w,a1,a2,a3,?_,?_⟩
 ·rw[gfi];by_cases e:s.pb=c
  ·subst e;rw[hU rfl];lia
  rw[hC e];exact a4
 show(if c*s.q.P+g=s.np then some (s.q.nx*128+n,v)else s.pg (c*s.q.P+g))=some w;rw[hC (λ(z:c*s.q.P+g=s.np)=>?_)]
 ·exact a5
 obtain⟨e1,e2⟩:=q7K a2 hf z;rw[e1,ef]at a4;lia
·show((qZ s.q.V n++[(n,((s.pb*s.q.P+s.pf:Nat):Int))]).map (·.2)).Nodup;rw[gB];refine rW.mpr ⟨?_,by simp,λa ha c hc=>?_⟩
 ·exact wU (nN _ wB) h.pd
 obtain⟨y,hy,rfl⟩:=kO.mp ha;have hc:c=((s.pb*s.q.P+s.pf:Nat):Int):=by simpa using hc
 rw[hc];intro z;obtain⟨c',g,w,a1,a2,a3,a4,a5⟩:=h.vl y (qX.mp hy).1;rw[a3]at z;obtain⟨e1,e2⟩:=q7K a2 hf (by exact Int.ofNat.inj z);rw[e1,ef]at a4;lia
·show 0≤s.cl.getD c 0∧s.cl.getD c 0≤((s.rc++[_]).length:Int);have:=h.c0 c;rw[mE,gG];lia
·show 0≤(if s.q.fi.getD s.pb 0=0 then s.q.bo.set s.pb s.q.nx else s.q.bo).getD c 0∧(if s.q.fi.getD s.pb 0=0 then s.q.bo.set s.pb s.q.nx else s.q.bo).getD c 0<s.q.nx+1;have:=h.bo c;have:=h.nx;split
 ·rw[jG];split<;>lia
 lia
·show 1≤s.q.nx+1;have:=h.nx;lia
·show k.ie*s.q.P≤(s.put n v).rmX;lia
·show(qZ s.q.V n++[_]).length<66;rw[mE,gG];obtain⟨d1,d2⟩:=vK (V:=s.q.V) (n:=n) okq.nd;have:=h.l6;rcases hl with⟨p,hp⟩|hl
 ·have:=d2 p hp;lia
 lia
have e:s.lf.map (· - 1)=some i:=e
cases z:s.lf with
|none=>rw[z]at e;cases e
|some j=>rw[z]at e;have e:j-1=i:=kW e;have:=h.l0 j z;have:j≠0:=λy=>dk (by rw[z,y]);lia)
theorem WX.wip(h:WX k s){b:Nat}(hb:b<s.q.B)(ef:s.q.fi.getD b 0=(s.q.P:Int))(nl:∀y∈s.q.V,¬y.2 / (s.q.P:Int)=(b:Int))(dk:s.lf≠some 0):WX k (s.wip b)∧(s.wip b).rmX=s.rmX+s.q.P:=by(
have okq:=h.qs.ok
have rm1:(s.wip b).rmX=s.rmX+s.q.P:=qFZ hb okq.lf ef
have gfi:∀c,(s.wip b).q.fi.getD c 0=if b=c then 0 else s.q.fi.getD c 0:=λc=>by
 show(s.q.fi.set b 0).getD c 0=_;rw[jG,okq.lf];by_cases e:b=c
 ·rw[hU ⟨e,hb⟩,hU e]
 rw[hC (λz=>e z.1),hC e]
refine⟨⟨h.qs.emptied b,qE1 h.on,?_,λc g hc hg hgP=>?_,λy hy=>?_,h.pd,λc=>?_,λc=>?_,h.nx,?_,h.l6,λi e=>?_⟩,rm1⟩
·show(s.cl.set _ _).length=_;rw[gK];exact h.lc
·show(if(c*s.q.P+g) / s.q.P=b then none else s.pg (c*s.q.P+g))=none;have hgP:g<s.q.P:=hgP;rw[jZ hgP];by_cases e:c=b
 ·rw[hU e]
 rw[hC e];rw[gfi,hC (λz=>e z.symm)]at hg;exact h.cr c g hc hg hgP
·obtain⟨c,g,w,a1,a2,a3,a4,a5⟩:=h.vl y hy;have cb:c≠b:=λz=>nl _ hy (by rw[a3,←dX,jZ a2,z]);refine⟨c,g,w,a1,a2,a3,?_,?_⟩
 ·rw[gfi,hC (λz=>cb z.symm)];exact a4
 show(if(c*s.q.P+g) / s.q.P=b then none else s.pg (c*s.q.P+g))=_;rw[jZ a2,hC cb];exact a5
·show 0≤(s.cl.set b (s.cl.getD b 0+1)).getD c 0∧(s.cl.set b (s.cl.getD b 0+1)).getD c 0≤((s.rc++[_]).length:Int);have h1:=h.c0 c;have h2:=h.c0 b;rw[mE,gG,jG];split<;>lia
·show 0≤(s.q.bo.set b 0).getD c 0∧(s.q.bo.set b 0).getD c 0<s.q.nx;have h1:=h.bo c;have h2:=h.nx;rw[jG];split<;>lia
·show k.ie*s.q.P≤(s.wip b).rmX;have:=h.sl;lia
have e:s.lf.map (· - 1)=some i:=e
cases z:s.lf with
|none=>rw[z]at e;cases e
|some j=>rw[z]at e;have e:j-1=i:=kW e;have:=h.l0 j z;have:j≠0:=λy=>dk (by rw[z,y]);lia)
theorem WX.forg(h:WX k s)(n:Int):WX k (s.forg n):=by(
refine⟨h.qs.forget n,h.on,h.lc,h.cr,λy hy=>h.vl y (qX.mp hy).1,?_,h.c0,h.bo,h.nx,h.sl,?_,h.l0⟩
·exact wU (nN _ wB) h.pd
have:=(vK (V:=s.q.V) (n:=n) h.qs.ok.nd).1
have:=h.l6
show(qZ s.q.V n).length<66
lia)
end
theorem qAC{V:Mp}{n p p':Int}(nd:(V.map (·.1)).Nodup)(h:(n,p)∈V)(h':(n,p')∈V):p=p':=by(
induction V with
|nil=>exact absurd h (by simp)
|cons y V ih=>
 rw[mR]at nd;obtain⟨n1,n2⟩:=gA.mp nd;rcases kI.mp h with e|h<;>rcases kI.mp h' with e'|h'
 ·rw[←e]at e';injection e' with _ e'
  exact e'.symm
 ·exact(n1 (kO.mpr ⟨_,h',by rw[←e]⟩)).elim
 ·exact(n1 (kO.mpr ⟨_,h,by rw[←e']⟩)).elim
 exact ih n2 h h')
theorem q5L{P b:Nat}{V:Mp}:(lvP P b V).Nodup:=qA9.imp λz=>z.2
theorem q3E{q:QM}{b:Nat}(h:QS q)(pd:(q.V.map (·.2)).Nodup)(hb:b<q.B):((lvP q.P b q.V).length:Int)=q.lv.getD b 0:=by(
rw[h.lv b hb]
have nd:=h.ok.nd
have:(lvP q.P b q.V).Perm ((q.V.filter λy=>decide (y.2 / (q.P:Int)=(b:Int))).map λy=>[y.2,y.1]):=q21 q5L (dB.mpr (((dB.mp nd).imp fun {a c} hne z=>hne (by
 injection z with _ z
 injection z with z _)).filter _)) λk=>by
 rw[q3D h.ok.p1 pd,kO];constructor
 ·rintro⟨y,h1,h2,rfl⟩
  exact⟨y,mG.mpr ⟨h1,hG h2⟩,rfl⟩
 rintro⟨y,hy,rfl⟩
 obtain⟨a1,a2⟩:=mG.mp hy;exact⟨y,a1,mF a2,rfl⟩
rw[this.length_eq,hX]
unfold cntB
rw[wS])
structure MvI(k:Tm)(s0:XS)(b:Nat)(rs:List (List Int))(i:Nat)(s:XS)(ms:List (List Int)):Prop where
w:WX k s
e:XS.mvs rs s0=(match XS.mvs (rs.drop i) s with|(s',none)=>(s',none)|(s',some m)=>(s',some (ms++m)))
l:ms.length=i
rc:s.rc.length=s0.rc.length+i
rm:s.rmX+i=s0.rmX
eB:s.q.B=s0.q.B
eP:s.q.P=s0.q.P
ec:s.cl=s0.cl
fb:s.q.fi.getD b 0=(s0.q.P:Int)
fm:∀c,s0.q.fi.getD c 0≤s.q.fi.getD c 0∧(s0.q.fi.getD c 0=(s0.q.P:Int)→s.q.fi.getD c 0=(s0.q.P:Int))
nm:∀n,(∃p,(n,p)∈s.q.V)↔∃p,(n,p)∈s0.q.V
dr:∀kk∈rs.drop i,∃n p,kk=[p,n]∧(n,p)∈s.q.V∧p / (s0.q.P:Int)=(b:Int)
dl:∀y∈s.q.V,y.2 / (s0.q.P:Int)=(b:Int)→[y.2,y.1]∈rs.drop i
lV:s.q.V.length=s0.q.V.length
section
variable{k:Tm}{s0 s:XS}{b i:Nat}{ms:List (List Int)}
theorem MvI.zero(w:WX k s0)(fb:s0.q.fi.getD b 0=(s0.q.P:Int)):MvI k s0 b (lvP s0.q.P b s0.q.V) 0 s0 []:=by(
refine⟨w,?_,rfl,rfl,rfl,rfl,rfl,rfl,fb,λc=>⟨gE _,λz=>z⟩,λn=>aQ,λkk hk=>?_,λy hy hb=>(q3D w.qs.ok.p1 w.pd).mpr ⟨y,hy,hb,rfl⟩,rfl⟩
·rw[List.drop_zero];cases XS.mvs (lvP s0.q.P b s0.q.V) s0 with
 |mk s' o=>cases o<;>rfl
obtain⟨y,hy,hb,rfl⟩:=(q3D w.qs.ok.p1 w.pd).mp hk
exact⟨y.1,y.2,rfl,hy,hb⟩)
variable{rs:List (List Int)}
theorem MvI.at(h:MvI k s0 b rs i s ms)(hi:i<rs.length):∃n p,rs[i]=[p,n]∧(n,p)∈s.q.V∧0≤n∧n≤64:=by obtain⟨n,p,e1,e2,_⟩:=h.dr rs[i] (by rw[dS hi];exact kZ);have:=h.w.qs.ok.nm _ e2;exact⟨n,p,e1,e2,this.1,this.2⟩
theorem MvI.dark(h:MvI k s0 b rs i s ms)(hi:i<rs.length)(dk:s.lf=some 0):XS.mvs rs s0=(s,none):=by rw[h.e,dS hi];unfold XS.mvs;rw[hU dk]
theorem MvI.fin(h:MvI k s0 b rs i s ms)(hi:i=rs.length):XS.mvs rs s0=(s,some ms)∧∀y∈s.q.V,¬y.2 / (s.q.P:Int)=(b:Int):=by(
subst hi
refine⟨?_,λy hy z=>?_⟩
·rw[h.e,aF];show(s,some (ms++[]))=_;rw[dG]
have:=h.dl y hy (by rw[←h.eP];exact z)
rw[aF]at this
cases this)
theorem MvI.step(h:MvI k s0 b rs i s ms)(nd:rs.Nodup)(hi:i<rs.length)(hr:k.ie*s0.q.P+rs.length≤s0.rmX)(dk:s.lf≠some 0){n p:Int}(er:rs[i]=[p,n]):
 MvI k s0 b rs (i+1) (s.put n (s.val p n)) (ms++[[n,p,(s.np:Int)]]):=by(
have dre:rs.drop i=[p,n]::rs.drop (i+1):=by rw[dS hi,er]
obtain⟨n',p',e0,hnp,hpb⟩:=h.dr [p,n] (by rw[dre];simp)
obtain⟨rfl,rfl⟩:p=p'∧n=n':=by
 injection e0 with e1 e0
 injection e0 with e2 _
 exact⟨e1,e2⟩
have nb:=h.w.qs.ok.nm _ hnp
have rmE:=h.rm
have hP:=h.eP
have slk:k.ie*s.q.P<s.rmX:=by rw[hP];lia
obtain⟨w',rm'⟩:=h.w.put (n:=n) (v:=s.val p n) slk nb.1 nb.2 (.inl ⟨p,hnp⟩) dk
obtain⟨hb,hf,ef,_,_⟩:=h.w.spot (by lia)
have gfi:∀c,(s.put n (s.val p n)).q.fi.getD c 0=if s.pb=c then(s.pf:Int)+1 else s.q.fi.getD c 0:=qAB h.w.qs.ok.lf hb ef
have cb:s.pb≠b:=λz=>by rw[z,h.fb,←hP]at ef;lia
have newp:((s.np:Nat):Int) / (s0.q.P:Int)=(s.pb:Int):=by rw[←hP];unfold XS.np;rw[←dX,jZ hf]
refine⟨w',?_,?_,?_,by lia,h.eB,h.eP,h.ec,?_,λc=>?_,λm=>?_,λkq hkq=>?_,λy hy hyb=>?_,?_⟩
·rw[h.e,dre];rw[XS.mvs,hC dk];show(match(match XS.mvs (rs.drop (i+1)) (s.put n (s.val p n))with|(s',none)=>(s',none)|(s',some m)=>(s',some ([n,p,(s.np:Int)]::m)))with|(s',none)=>(s',none)|(s',some m)=>(s',some (ms++m)))=_;cases XS.mvs (rs.drop (i+1)) (s.put n (s.val p n))with
 |mk s' o=>
  cases o with
  |none=>rfl
  |some m=>show(s',some (ms++([n,p,(s.np:Int)]::m)))=(s',some ((ms++[[n,p,(s.np:Int)]])++m));rw[gC];rfl
·rw[mE,h.l];rfl
·show(s.rc++[_]).length=_;rw[mE,h.rc];rfl
·rw[gfi,hC cb];exact h.fb
·obtain⟨m1,m2⟩:=h.fm c;rw[gfi];by_cases e:s.pb=c
 ·subst e;rw[hU rfl];refine⟨by lia,λz=>?_⟩;have:=m2 z;rw[ef,←hP]at this;lia
 rw[hC e];exact⟨m1,m2⟩
·rw[←h.nm m];constructor
 ·rintro⟨p1,h1⟩
  rcases uI.mp h1 with e|⟨h1,_⟩
  ·cases e;exact⟨p,hnp⟩
  exact⟨p1,h1⟩
 rintro⟨p1,h1⟩
 by_cases e:m=n
 ·exact⟨_,uI.mpr (.inl (by rw[e]))⟩
 exact⟨p1,uI.mpr (.inr ⟨h1,e⟩)⟩
·have hkq':kq∈rs.drop i:=by rw[dre];exact hV _ hkq
 obtain⟨n',p',rfl,h',hb'⟩:=h.dr kq hkq';refine⟨n',p',rfl,uI.mpr (.inr ⟨h',λe=>?_⟩),hb'⟩;have e:n'=n:=e;subst e;have:=qAC h.w.qs.ok.nd h' hnp;subst this;have nn:=nd;rw[←wV i rs,dre]at nn;have:=(rW.mp nn).2.1;exact(gA.mp this).1 hkq
·rcases uI.mp hy with e|⟨hy,hne⟩
 ·rw[e]at hyb;have hyb:((s.np:Nat):Int) / (s0.q.P:Int)=(b:Int):=hyb;rw[newp]at hyb;exact(cb (by lia)).elim
 have:=h.dl y hy hyb;rw[dre]at this;rcases kI.mp this with e|e
 ·injection e with _ e
  injection e with e _
  exact(hne e).elim
 exact e
show(qZ s.q.V n++[_]).length=_
rw[mE,gG,(vK (V:=s.q.V) (n:=n) h.w.qs.ok.nd).2 p hnp]
exact h.lV)
structure Mvd(k:Tm)(s0:XS)(b:Nat)(s:XS)(n:Nat):Prop where
w:WX k s
rc:s.rc.length=s0.rc.length+n
rm:s.rmX+n=s0.rmX
eB:s.q.B=s0.q.B
eP:s.q.P=s0.q.P
ec:s.cl=s0.cl
fb:s.q.fi.getD b 0=(s0.q.P:Int)
fm:∀c,s0.q.fi.getD c 0≤s.q.fi.getD c 0∧(s0.q.fi.getD c 0=(s0.q.P:Int)→s.q.fi.getD c 0=(s0.q.P:Int))
nm:∀n,(∃p,(n,p)∈s.q.V)↔∃p,(n,p)∈s0.q.V
lV:s.q.V.length=s0.q.V.length
lb:b<s0.q.B→s.q.lv.getD b 0+n=(lvP s0.q.P b s0.q.V).length
theorem MvI.mvd(h:MvI k s0 b (lvP s0.q.P b s0.q.V) i s ms)(hi:i≤(lvP s0.q.P b s0.q.V).length):Mvd k s0 b s i:=by(
refine⟨h.w,h.rc,h.rm,h.eB,h.eP,h.ec,h.fb,h.fm,h.nm,h.lV,λhb=>?_⟩
rw[←q3E h.w.qs h.w.pd (by rw[h.eB];exact hb)]
have:(lvP s.q.P b s.q.V).Perm ((lvP s0.q.P b s0.q.V).drop i):=q21 q5L (wU (List.drop_sublist _ _) q5L) λk=>by
 rw[q3D h.w.qs.ok.p1 h.w.pd,h.eP];constructor
 ·rintro⟨y,h1,h2,rfl⟩
  exact h.dl y h1 h2
 intro hk;obtain⟨n,p,rfl,h1,h2⟩:=h.dr k hk;exact⟨_,h1,h2,rfl⟩
rw[this.length_eq,dY]
lia)
end
section
variable{k:Tm}{s:XS}{l:List Nat}{m:CM}
theorem qIO(h:WX k s)(hl:FreeIs s.q.B (noB s.q.B) s.cl s.q.fi l):spcN (k.ie:Int) l s.q.P s.q.fi (jN s.q.B s.q.P (noB s.q.B) s.q.fi)=s.spc k:=by(
have p1:=h.qs.ok.p1
have sl:=h.sl
unfold spcN XS.spc
unfold XS.rmX at sl ⊢
rcases q13 h.on h.qs.ok.wr p1 hl with⟨h1,h2⟩|⟨b,e,h1,e1,e2,h2,e3⟩
·rw[h2]at sl;rw[h1,h2];by_cases z:1+k.ie≤l.length
 ·rw[hU (by lia),hU (gR _ z)]
 have le:l.length=k.ie:=by
  have:¬l.length<k.ie:=λy=>by have:=gR s.q.P (show l.length+1≤k.ie by lia);rw[rG,rH]at this;lia
  lia
 rw[hC (by lia),hC (by rw[le,rG,rH];lia),le];show(0:Int)=_;lia
rw[h2]at sl
rw[h1,h2]
by_cases z:1+k.ie≤l.length
·have:=gR s.q.P z;rw[hU (by lia),hU (by lia)]
have le:l.length=k.ie:=by
 have:¬l.length<k.ie:=λy=>by have:=gR s.q.P (show l.length+1≤k.ie by lia);rw[rG,rH]at this;lia
 lia
rw[hC (by lia),hC (by rw[le,rG,rH];lia),le]
show(s.q.P:Int)-s.q.fi.getD b 0=_
lia)
theorem qIP(h:WX k s)(hl:FreeIs s.q.B (noB s.q.B) s.cl s.q.fi l):((jR s.q.B s.q.P (noB s.q.B) s.q.fi).filter λb=>decide (s.q.lv.getD b 0≤spcN (k.ie:Int) l s.q.P s.q.fi (jN s.q.B s.q.P (noB s.q.B) s.q.fi)))=s.ful k:=by(
unfold jR XS.ful
rw[yB,qIO h hl,List.filter_filter]
refine pB λb _=>?_
rw[Bool.and_comm])
theorem qE7(h:WX k s)(br:m.br=noB s.q.B)(hl:FreeIs s.q.B (noB s.q.B) s.cl s.q.fi l):optN (k.ie:Int) m s.q l=s.ded k:=by unfold optN XS.ded;rw[br,qIP h hl]
theorem qJY(e:m.cl=s.cl):tlOf m s.q=s.tl:=by funext b;unfold tlOf XS.tl;rw[e]
theorem qIQ(h:WX k s)(hl:FreeIs s.q.B (noB s.q.B) s.cl s.q.fi l):rdy (k.ie:Int) l (jN s.q.B s.q.P (noB s.q.B) s.q.fi)=s.rd k:=qFX h.on h.qs.ok.wr h.qs.ok.p1 hl
structure Full(k:Tm)(s:XS)(c:Nat):Prop where
b:c<s.q.B
f:s.q.fi.getD c 0=(s.q.P:Int)
l:s.q.lv.getD c 0≤s.spc k
theorem q4T{b:Nat}:b∈s.ful k↔Full k s b:=by unfold XS.ful;rw[mG,mK,mP,kQ,kQ];exact⟨λ⟨a,b,c⟩=>⟨a,b,c⟩,λh=>⟨h.b,h.f,h.l⟩⟩
theorem q22{b:Nat}:b∈s.ded k↔Full k s b∧s.q.lv.getD b 0<(s.q.P:Int):=by unfold XS.ded;rw[mG,q4T,kQ]
theorem v3{b:Nat}:b∈s.opt k↔(Full k s b∧s.q.lv.getD b 0<(s.q.P:Int))∧(k.ev=true→s.cl.getD b 0<s.lst+k.sp):=by(
unfold XS.opt XS.clb
cases k.ev with
|false=>rw[hC (by decide),q22];exact⟨λh=>⟨h,λz=>by cases z⟩,λh=>h.1⟩
|true=>rw[hU rfl,mG,q22,kQ];exact⟨λh=>⟨h.1,λ_=>h.2⟩,λh=>⟨h.1,h.2 rfl⟩⟩)
theorem Full.sp(h:WX k s){b:Nat}(f:Full k s b):k.ie*s.q.P+(lvP s.q.P b s.q.V).length≤s.rmX:=by(
have e:=q3E h.qs h.pd f.b
have l:=f.l
have sl:=h.sl
have lb:=h.qs.lv b f.b
have cn:(lvP s.q.P b s.q.V).length≤s.q.P:=by unfold lvP;refine mD (d3 _ _) ?_;rw[gD];exact kJ _
unfold XS.spc at l
split at l
·rename_i z;rw[rG,rH]at z;lia
lia)
theorem qG5{L:List Nat}:∀a∈L.map s.tl,∀c∈L.map s.tl,a.b=c.b→a=c:=λa ha c hc e=>by(
obtain⟨x,_,rfl⟩:=kO.mp ha
obtain⟨y,_,rfl⟩:=kO.mp hc
have e:(x:Int)=(y:Int):=e
rw[show x=y by lia])
theorem qE8(h:WX k s){b:Nat}(hb:b<s.q.B):0≤s.q.lv.getD b 0∧s.q.lv.getD b 0≤(s.q.P:Int):=by
 have e:=q3E h.qs h.pd hb;have cn:(lvP s.q.P b s.q.V).length≤s.q.P:=by unfold lvP;refine mD (d3 _ _) ?_;rw[gD];exact kJ _
 lia
theorem qJZ(h:WX k s)(rc:s.rc.length<1000000){b:Nat}(hb:b<s.q.B):(s.tl b).Ok (s.q.P:Int) s.q.nx:=by(
have b2:=h.qs.ok.b2
have c:=h.c0 b
have d:=h.bo b
have e:=qE8 h hb
refine⟨?_,?_,e.1,e.2,c.1,?_,d.1,d.2⟩
·show(0:Int)≤(b:Int);lia
·show(b:Int)<16;lia
show s.cl.getD b 0<10 ^ 30
have:(1000000:Int)<10 ^ 30:=by decide
lia)
theorem qIR(h:WX k s):(s.opt k).length≤16:=by(
have b2:=h.qs.ok.b2
have:(s.ded k).length≤16:=by unfold XS.ded XS.ful;refine mD (mJ _ _) (mD (mJ _ _) ?_);rw[gD];exact b2
unfold XS.opt XS.clb
split
·exact mD (mJ _ _) this
exact this)
end
structure Kp(s s':XS):Prop where
eB:s'.q.B=s.q.B
eP:s'.q.P=s.q.P
nm:∀n,(∃p,(n,p)∈s'.q.V)↔∃p,(n,p)∈s.q.V
lV:s'.q.V.length=s.q.V.length
theorem Kp.refl{s:XS}:Kp s s:=⟨rfl,rfl,λ_=>aQ,rfl⟩
theorem Kp.trans{a b c:XS}(h:Kp a b)(g:Kp b c):Kp a c:=⟨g.eB.trans h.eB,g.eP.trans h.eP,λn=>(g.nm n).trans (h.nm n),g.lV.trans h.lV⟩
section
variable{k:Tm}{s:XS}{b:Nat}
theorem qAD{P b:Nat}{V:Mp}:(lvP P b V).length≤P:=by(
unfold lvP
refine mD (d3 _ _) ?_
rw[gD]
exact kJ _)
theorem q7L(R:XS→List (List Int)→Prop)(w:WX k s)(f:Full k s b)(r0:R s [])(rs:∀s' ms n p,WX k s'→Kp s s'→s'.cl=s.cl→s'.q.fi.getD b 0=(s.q.P:Int)→(n,p)∈s'.q.V→p / (s.q.P:Int)=(b:Int)→k.ie*s'.q.P<s'.rmX→s'.lf≠some 0→R s' ms→R (s'.put n (s'.val p n)) (ms++[[n,p,(s'.np:Int)]])):∃s' n ms,Mvd k s b s' n∧ms.length=n∧R s' ms∧((XS.mvs (lvP s.q.P b s.q.V) s=(s',none)∧n<(lvP s.q.P b s.q.V).length∧s'.lf=some 0)∨(XS.mvs (lvP s.q.P b s.q.V) s=(s',some ms)∧n=(lvP s.q.P b s.q.V).length∧∀y∈s'.q.V,¬y.2 / (s'.q.P:Int)=(b:Int))):=by(
have sp:=f.sp w
have key:∀d i,i+d=(lvP s.q.P b s.q.V).length→∀s' ms,MvI k s b (lvP s.q.P b s.q.V) i s' ms→R s' ms→∃s' n ms,Mvd k s b s' n∧ms.length=n∧R s' ms∧((XS.mvs (lvP s.q.P b s.q.V) s=(s',none)∧n<(lvP s.q.P b s.q.V).length∧s'.lf=some 0)∨(XS.mvs (lvP s.q.P b s.q.V) s=(s',some ms)∧n=(lvP s.q.P b s.q.V).length∧∀y∈s'.q.V,¬y.2 / (s'.q.P:Int)=(b:Int))):=by
 intro d;induction d with
 |zero=>intro i hi s' ms mi hR;obtain⟨e,nl⟩:=mi.fin (by lia);exact⟨s',i,ms,mi.mvd (by lia),mi.l,hR,.inr ⟨e,by lia,nl⟩⟩
 |succ d ih=>
  intro i hi s' ms mi hR;have hi':i<(lvP s.q.P b s.q.V).length:=by lia
  by_cases dk:s'.lf=some 0
  ·exact⟨s',i,ms,mi.mvd (by lia),mi.l,hR,.inl ⟨mi.dark hi' dk,hi',dk⟩⟩
  obtain⟨n,p,er,hnp,_⟩:=mi.at hi';have rme:=mi.rm;obtain⟨n',p',e0,_,hpb⟩:=mi.dr [p,n] (by rw[dS hi',er];exact kZ);have e1:p=p':=by injection e0
  refine ih (i+1) (by lia) _ _ (mi.step q5L hi' sp dk er) (rs s' ms n p mi.w ⟨mi.eB,mi.eP,mi.nm,mi.lV⟩ mi.ec mi.fb hnp (by rw[e1];exact hpb) (by rw[mi.eP];lia) dk hR)
exact key _ 0 (rX _) s [] (MvI.zero w f.f) r0)
end
theorem qE9{g:Rl}{pg nw:Int}{ts:List Tl}(ok:g.Ok)(h:ts≠[]):(g.ch pg nw ts).1∈ts.map Tl.b:=by(
cases g with
|rk f=>obtain⟨A,hA,e,_⟩:=qE5 (f:=f pg nw) h;show pk (f pg nw) ts∈_;rw[e];exact kO.mpr ⟨A,hA,rfl⟩
|win m=>obtain⟨A,hA,e,_⟩:=qE5 (f:=Tl.lv) (qG3 ok h);show pk Tl.lv (winC m ts)∈_;rw[e];exact kO.mpr ⟨A,qG2 A hA,rfl⟩
|fol row u=>
 have h0:(ts.map Tl.b).headD 0∈ts.map Tl.b:=by
  cases ts with
  |nil=>exact absurd rfl h
  |cons a r=>simp
 show fo row u ts∈_;unfold fo;split
 ·split
  ·assumption
  exact h0
 exact h0)
theorem qK0{g:Rl}{pg nw:Int}{ts:List Tl}(ok:g.Ok):(g.ch pg nw ts).2.Ok:=by(
cases g with
|rk f=>trivial
|win m=>exact ok
|fol row u=>trivial)
section
variable{k:Tm}{s:XS}{g g':Rl}{y:Str}{b:Nat}
theorem q14(ok:g.Ok)(h:s.tk k g=some (y,b,g')):(y=Str.ofString "rule"∧b∈s.opt k∧(b:Int)=(g.ch (s.q.P:Int) s.q.nx (s.ots k)).1∧g'=(g.ch (s.q.P:Int) s.q.nx (s.ots k)).2)∨(y=Str.ofString "even"∧k.ev=true∧s.opt k=[]∧g'=g∧s.chg k=some b∧b∈s.clb k (s.ful k)∧∀c∈s.clb k (s.ful k),s.cl.getD b 0≤s.cl.getD c 0):=by(
unfold XS.tk at h
split at h
·rename_i e0;split at h
 ·rename_i ev;cases z:s.chg k with
  |none=>rw[z]at h;cases h
  |some c=>
   rw[z]at h;cases h;have pw:(s.clb k (s.ful k)).Pairwise (· < ·):=by unfold XS.clb XS.ful;exact gI _ (gI _ rD)
   obtain⟨m1,m2⟩:=(q3C (cl:=s.cl) pw).2 b z;refine .inr ⟨rfl,ev,e0,rfl,rfl,m1,λc hc=>?_⟩;have:=m2 c hc;unfold keyN lx at this;by_cases q:s.cl.getD c 0=s.cl.getD b 0
   ·lia
   rw[hC q]at this;have:=dJ this;lia
 cases h
rename_i ne
have ne':s.ots k≠[]:=λz=>ne (sD.mp z)
have cm:=qE9 (pg:=(s.q.P:Int)) (nw:=s.q.nx) ok ne'
injection h with h
injection h with h1 h
injection h with h h2
obtain⟨c,hc,e⟩:=kO.mp cm
obtain⟨c',hc',rfl⟩:=kO.mp hc
have e:(c':Int)=(g.ch (s.q.P:Int) s.q.nx (s.ots k)).1:=e
rw[←e,mM]at h
subst h
exact .inl ⟨h1.symm,hc',e,h2.symm⟩)
theorem q3F(ok:g.Ok)(h:s.tk k g=some (y,b,g')):Full k s b:=by(
rcases q14 ok h with⟨_,h1,_⟩|⟨_,_,_,_,_,h1,_⟩
·exact(v3.mp h1).1.1
unfold XS.clb at h1
exact q4T.mp (mG.mp h1).1)
theorem qEA(ok:g.Ok)(h:s.tk k g=some (y,b,g')):g'.Ok:=by(
rcases q14 ok h with⟨_,_,_,e⟩|⟨_,_,_,e,_⟩
·rw[e];exact qK0 ok
rw[e];exact ok)
end
section
variable{k:Tm}{X Y:Sx}
inductive RoomR(k:Tm)(X:Sx):Sx×Except Rf Pa→Prop
|no:X.s.tk k X.g=none→RoomR k X (X,.error .room)
|dark {y b g' s' n}:X.s.tk k X.g=some (y,b,g')→Mvd k X.s b s' n→n≤(lvP X.s.q.P b X.s.q.V).length→s'.lf=some 0→RoomR k X (⟨s',g',X.ps⟩,.error .dark)
|ok {y b g' s' ms}:X.s.tk k X.g=some (y,b,g')→XS.mvs (lvP X.s.q.P b X.s.q.V) X.s=(s',some ms)→Mvd k X.s b s' (lvP X.s.q.P b X.s.q.V).length→ms.length=(lvP X.s.q.P b X.s.q.V).length→s'.lf≠some 0→WX k (s'.wip b)→(s'.wip b).rmX=s'.rmX+X.s.q.P→RoomR k X (⟨s'.wip b,g',X.ps++[⟨y,X.s.ots k,b,ms⟩]⟩,.ok ⟨y,X.s.ots k,b,ms⟩)
theorem q98(w:WX k X.s)(ok:X.g.Ok):RoomR k X (X.room k):=by(
unfold Sx.room
cases htk:X.s.tk k X.g with
|none=>exact .no htk
|some ybg=>
 obtain⟨y,b,g'⟩:=ybg;have f:=q3F ok htk;obtain⟨s',n,ms,md,lm,_,h|h⟩:=q7L (λ_ _=>True) w f trivial (λ_ _ _ _ _ _ _ _ _ _ _ _ _=>trivial)
 ·obtain⟨e,hn,dk⟩:=h;dsimp only;rw[e];exact .dark htk md (by lia) dk
 obtain⟨e,hn,nl⟩:=h;dsimp only;rw[e];dsimp only;subst hn;by_cases dk:s'.lf=some 0
 ·rw[hU dk];exact .dark htk md (kJ _) dk
 rw[hC dk];obtain⟨w',rm'⟩:=md.w.wip (b:=b) (by rw[md.eB];exact f.b) (by rw[md.eP];exact md.fb) nl dk;exact .ok htk e md lm dk w' (by rw[rm',md.eP]))
theorem qEB{p:Pa}(w:WX k X.s)(ok:X.g.Ok)(h:X.room k=(Y,.ok p)):Y.s.rc.length≤X.s.rc.length+17∧Y.ps.length=X.ps.length+1:=by(
have r:=q98 w ok
rw[h]at r
have l16:∀b,(lvP X.s.q.P b X.s.q.V).length≤X.s.q.P:=λb=>qAD
have p2:=w.qs.ok.p2
cases r with
|@ok y b g' s' ms htk e md lm dk w' rm'=>have:=l16 b;refine⟨?_,mE⟩;show(_++[_]).length≤_;rw[mE,md.rc,gG];lia)
theorem Mvd.kp{s s':XS}{b n:Nat}(h:Mvd k s b s' n):Kp s s':=⟨h.eB,h.eP,h.nm,h.lV⟩
theorem qBE{r:Except Rf Pa}(w:WX k X.s)(ok:X.g.Ok)(h:X.room k=(Y,r)):WX k Y.s∧Y.g.Ok∧Kp X.s Y.s∧Y.s.rc.length≤X.s.rc.length+17∧Y.ps.length≤X.ps.length+1:=by(
have rr:=q98 w ok
rw[h]at rr
have l16:∀b,(lvP X.s.q.P b X.s.q.V).length≤X.s.q.P:=λb=>qAD
have p2:=w.qs.ok.p2
cases rr with
|no htk=>exact⟨w,ok,Kp.refl,by lia,by lia⟩
|@dark y b g' s' n htk md hn dk=>have:=l16 b;refine⟨md.w,qEA ok htk,md.kp,?_,dL _⟩;show s'.rc.length≤_;rw[md.rc];lia
|@ok y b g' s' ms htk e md lm dk w' rm'=>
 have:=l16 b;refine⟨w',qEA ok htk,md.kp.trans ⟨rfl,rfl,λ_=>aQ,rfl⟩,?_,?_⟩
 ·show(_++[_]).length≤_;rw[mE,md.rc,gG];lia
 show(_++[_]).length≤_;rw[mE];exact kJ _)
theorem q23:∀{i:Nat} {X Y:Sx} {r:Except Rf Unit},WX k X.s→X.g.Ok→X.rooms k i=some (Y,r)→WX k Y.s∧Y.g.Ok∧Kp X.s Y.s∧Y.s.rc.length≤X.s.rc.length+17*i∧Y.ps.length≤X.ps.length+i∧(r=.ok ()→Y.s.rd k=true)
|0,X,Y,r,w,ok,h=>by
 unfold Sx.rooms at h;split at h
 ·rename_i z;cases h;exact⟨w,ok,Kp.refl,kJ _,kJ _,λ_=>z⟩
 cases h
|i+1,X,Y,r,w,ok,h=>by
 unfold Sx.rooms at h;split at h
 ·rename_i z;cases h;exact⟨w,ok,Kp.refl,nH _ _,nH _ _,λ_=>z⟩
 cases e:X.room k with
 |mk W o=>
  rw[e]at h;obtain⟨a1,a2,a3,a4,a5⟩:=qBE w ok e;cases o with
  |error x=>cases h;exact⟨a1,a2,a3,by lia,by lia,λz=>by cases z⟩
  |ok p=>obtain⟨b1,b2,b3,b4,b5,b6⟩:=q23 a1 a2 h;exact⟨b1,b2,a3.trans b3,by lia,by lia,b6⟩
noncomputable def gvn(ns ss:List Int):List Int:=ns.filter λn=>decide (n∈ss)
noncomputable def rst(ns g:List Int):List Int:=ns.filter λn=>!decide (n∈g)
noncomputable def XS.forgs(s:XS)(g:List Int):XS:=g.foldl XS.forg s
theorem qAE{s:XS}{g:List Int}{i:Nat}{n:Int}(h:g[i]?=some n):s.forgs (g.take (i+1))=(s.forgs (g.take i)).forg n:=by(
have hi:=(kE.mp h).1
obtain rfl:g[i]=n:=(kE.mp h).2
unfold XS.forgs
rw[←m7 hi,List.foldl_append]
rfl)
end
noncomputable def Hv(s:XS)(n v:Int):Prop:=∃p mk,(n,p)∈s.q.V∧s.pg p.toNat=some (mk,v)
noncomputable def putR(m:List Int):Str×Int×Bool:=(Str.ofString "put",m.getD 2 0,true)
section
variable{k:Tm}{s s':XS}{n m v u:Int}{b:Nat}
theorem Hv.put(w:WX k s)(hr:0<s.rmX)(ne:m≠n)(h:Hv s m u):Hv (s.put n v) m u:=by(
obtain⟨p,mk,hp,e⟩:=h
obtain⟨c,g,x,a1,a2,a3,a4,a5⟩:=w.vl _ hp
obtain⟨hb,hf,ef,_⟩:=w.spot hr
have a3:p=_:=a3
refine⟨p,mk,uI.mpr (.inr ⟨hp,ne⟩),?_⟩
show(if p.toNat=s.np then _ else s.pg p.toNat)=_
rw[hC]
·exact e
rw[a3,mM]
intro z
obtain⟨e1,e2⟩:=q7K a2 hf z
rw[e1,ef]at a4
lia)
theorem Hv.new:Hv (s.put n v) n v:=⟨(s.np:Int),_,uI.mpr (.inl rfl),by
 show(if((s.np:Nat):Int).toNat=s.np then _ else _)=_;rw[mM,hU rfl]⟩
theorem Hv.wip(w:WX k s)(nl:∀y∈s.q.V,¬y.2 / (s.q.P:Int)=(b:Int))(h:Hv s m u):Hv (s.wip b) m u:=by(
obtain⟨p,mk,hp,e⟩:=h
obtain⟨c,g,x,a1,a2,a3,a4,a5⟩:=w.vl _ hp
have a3:p=_:=a3
refine⟨p,mk,hp,?_⟩
show(if p.toNat / s.q.P=b then none else s.pg p.toNat)=_
rw[hC]
·exact e
have:=nl _ hp
rw[a3,mM,jZ a2]
rw[show((m,p).2:Int)=p from rfl,a3,←dX,jZ a2]at this
intro z
exact this (by rw[z]))
theorem Hv.forg(ne:m≠n)(h:Hv s m u):Hv (s.forg n) m u:=by obtain⟨p,mk,hp,e⟩:=h;exact⟨p,mk,qX.mpr ⟨hp,ne⟩,e⟩
theorem Hv.one(w:WX k s)(h:Hv s n v)(g:Hv s n u):v=u:=by(
obtain⟨p,mk,hp,e⟩:=h
obtain⟨p',mk',hp',e'⟩:=g
rw[qAC w.qs.ok.nd hp hp',e']at e
injection e with e
injection e with _ e
exact e.symm)
theorem Hv.val(w:WX k s){p:Int}(hp:(n,p)∈s.q.V)(n6:n≠64)(h:Hv s n u):s.val p n=u:=by(
obtain⟨p',mk,hp',e⟩:=h
rw[qAC w.qs.ok.nd hp hp']
unfold XS.val
rw[hC n6,e]
rfl)
theorem q7M(w:WX k s){c:Nat}(hc:c<s.q.B):s.lst≤s.cl.getD c 0:=by(
have hc':c<s.cl.length:=by rw[w.lc];exact hc
obtain⟨m,e,h1,h2⟩:=qAA (l:=s.cl) (λz=>by rw[z]at hc';cases hc')
unfold XS.lst
rw[e,kN,kD hc']
exact h2 _ (gW _))
theorem qEC(w:WX k s)(hb:0<s.q.B):∃c,c<s.q.B∧s.cl.getD c 0=s.lst:=by(
have hb':0<s.cl.length:=by rw[w.lc];exact hb
obtain⟨m,e,h1,h2⟩:=qAA (l:=s.cl) (λz=>by rw[z]at hb';cases hb')
obtain⟨c,hc,ec⟩:=cH h1
refine⟨c,by rw[←w.lc];exact hc,?_⟩
unfold XS.lst
rw[e,kN,kD hc,ec])
theorem qED(w:WX k s)(hr:0<s.rmX)(z:s.q.fi.getD s.pb 0=0){c:Nat}(hc:c<s.q.B)(fc:s.q.fi.getD c 0=0):s.cl.getD s.pb 0≤s.cl.getD c 0:=by(
have e:s.pb=spF s.q s.cl:=rfl
unfold spF at e
cases q:(List.range s.q.B).find? (jS s.q.P s.q.fi)with
|some d=>rw[q]at e;have h2:=d6 q;unfold jS at h2;rw[mP,kQ]at h2;rw[show s.pb=d from e]at z;lia
|none=>
 rw[q]at e;have pw:((List.range s.q.B).filter λb=>decide (s.q.fi.getD b 0=0)).Pairwise (· < ·):=gI _ rD;have hm:c∈(List.range s.q.B).filter λb=>decide (s.q.fi.getD b 0=0):=mG.mpr ⟨mK.mpr hc,hG fc⟩;obtain⟨h1,h2⟩:=q3C (cl:=s.cl) pw;cases y:minF s.cl ((List.range s.q.B).filter λb=>decide (s.q.fi.getD b 0=0))with
 |none=>rw[h1 y]at hm;cases hm
 |some d=>
  rw[y]at e;have e:s.pb=d:=e;have:=(h2 d y).2 c hm;rw[e];unfold keyN lx at this;by_cases x:s.cl.getD c 0=s.cl.getD d 0
  ·lia
  rw[hC x]at this;have:=dJ this;lia)
structure Ix(k:Tm)(s:XS):Prop where
w:WX k s
sh:s.q.V.length<(s.q.B-(1+k.ie))*s.q.P
s1:1≤k.sp
gp:k.ev=true→∀b c,b<s.q.B→c<s.q.B→s.cl.getD b 0≤s.cl.getD c 0+k.sp
e2:k.ev=true→∀d c,d<s.q.B→c<s.q.B→s.q.fi.getD d 0≠0→s.q.fi.getD c 0=0→s.cl.getD d 0<s.cl.getD c 0+k.sp
noncomputable def Wt(k:Tm)(s:XS):Prop:=s.rmX<(1+k.ie)*s.q.P→∃b,b<s.q.B∧s.q.fi.getD b 0=(s.q.P:Int)∧s.q.lv.getD b 0<(s.q.P:Int)∧s.q.lv.getD b 0+((1+k.ie)*s.q.P:Nat)≤(s.rmX:Int)+(s.q.P:Int)∧(k.ev=true→s.cl.getD b 0<s.lst+k.sp)
theorem Ix.put(x:Ix k s)(hr:k.ie*s.q.P<s.rmX)(w':WX k (s.put n v))(hs:(s.put n v).q.V.length<(s.q.B-(1+k.ie))*s.q.P):Ix k (s.put n v):=by(
obtain⟨hb,hf,ef,_⟩:=x.w.spot (by lia)
have s1:=x.s1
have gfi:∀c,(s.put n v).q.fi.getD c 0=if s.pb=c then(s.pf:Int)+1 else s.q.fi.getD c 0:=qAB x.w.qs.ok.lf hb ef
refine⟨w',hs,x.s1,x.gp,λev d c hd hc fd fc=>?_⟩
rw[gfi]at fd fc
have hc:c<s.q.B:=hc
have hd:d<s.q.B:=hd
show s.cl.getD d 0<s.cl.getD c 0+k.sp
by_cases c1:s.pb=c
·rw[hU c1]at fc;lia
rw[hC c1]at fc
by_cases d1:s.pb=d
·subst d1;by_cases z:s.q.fi.getD s.pb 0=0
 ·have:=qED x.w (by lia) z hc fc;lia
 exact x.e2 ev _ _ hd hc z fc
rw[hC d1]at fd
exact x.e2 ev _ _ hd hc fd fc)
theorem Ix.wip(x:Ix k s)(hb:b<s.q.B)(w':WX k (s.wip b))(cb:k.ev=true→s.cl.getD b 0<s.lst+k.sp):Ix k (s.wip b):=by(
have lc:=x.w.lc
have gcl:∀c,(s.wip b).cl.getD c 0=if b=c then s.cl.getD b 0+1 else s.cl.getD c 0:=λc=>by
 show(s.cl.set b (s.cl.getD b 0+1)).getD c 0=_;rw[jG,lc];by_cases e:b=c
 ·rw[hU ⟨e,hb⟩,hU e]
 rw[hC (λz=>e z.1),hC e]
have gfi:∀c,(s.wip b).q.fi.getD c 0=if b=c then 0 else s.q.fi.getD c 0:=λc=>by
 show(s.q.fi.set b 0).getD c 0=_;rw[jG,x.w.qs.ok.lf];by_cases e:b=c
 ·rw[hU ⟨e,hb⟩,hU e]
 rw[hC (λz=>e z.1),hC e]
refine⟨w',x.sh,x.s1,λev c d hc hd=>?_,λev d c hd hc fd fc=>?_⟩
·have hc:c<s.q.B:=hc;have hd:d<s.q.B:=hd;rw[gcl,gcl];have:=cb ev;have:=x.gp ev c d hc hd;have:=x.gp ev c b hc hb;have:=q7M x.w hd;have:=x.s1;split<;>split<;>lia
have hc:c<s.q.B:=hc
have hd:d<s.q.B:=hd
rw[gfi]at fd fc
rw[gcl,gcl]
by_cases d1:b=d
·rw[hU d1]at fd;exact absurd rfl fd
rw[hC d1]at fd ⊢
by_cases c1:b=c
·rw[hU c1];have:=x.gp ev d b hd hb;lia
rw[hC c1]at fc ⊢
exact x.e2 ev d c hd hc fd fc)
end
section
variable{k:Tm}{X Y:Sx}
structure RmX(k:Tm)(X Y:Sx):Prop where
x:Ix k Y.s
wt:Wt k Y.s
ok:Y.g.Ok
kp:Kp X.s Y.s
hv:∀m u,m≠64→Hv X.s m u→Hv Y.s m u
theorem qBF{r:Except Rf Pa}(x:Ix k X.s)(wt:Wt k X.s)(ok:X.g.Ok)(h:X.room k=(Y,r)):RmX k X Y∧(match r with
 | .ok p=>Y.ps=X.ps++[p]∧Y.s.rc=X.s.rc++p.mv.map putR++[(Str.ofString "wipe",(p.b:Int),true)]∧(1+k.ie)*X.s.q.P≤Y.s.rmX∧Y.s.rmX+p.mv.length=X.s.rmX+X.s.q.P∧(∃g',X.s.tk k X.g=some (p.why,p.b,g'))∧p.mv.length=(lvP X.s.q.P p.b X.s.q.V).length∧p.ts=X.s.ots k∧(∃s',XS.mvs (lvP X.s.q.P p.b X.s.q.V) X.s=(s',some p.mv)∧Y.s=s'.wip p.b∧Mvd k X.s p.b s' p.mv.length)
 | .error .dark=>Y.s.lf=some 0∧Y.ps=X.ps∧∃ms,Y.s.rc=X.s.rc++List.map putR ms
 | .error .room=>Y=X∧X.s.tk k X.g=none):=by(
unfold Sx.room at h
cases htk:X.s.tk k X.g with
|none=>rw[htk]at h;cases h;exact⟨⟨x,wt,ok,Kp.refl,λ_ _ _ z=>z⟩,rfl,rfl⟩
|some ybg=>
 obtain⟨y,b,g'⟩:=ybg;rw[htk]at h;dsimp only at h;have f:=q3F ok htk;have g'ok:=qEA ok htk;have spc:=f.l;have lvb:=q3E x.w.qs x.w.pd f.b;have sl:=x.w.sl;have clb:k.ev=true→X.s.cl.getD b 0<X.s.lst+k.sp:=λev=>by
  rcases q14 ok htk with⟨_,h1,_⟩|⟨_,_,_,_,_,h1,_⟩
  ·exact(v3.mp h1).2 ev
  unfold XS.clb at h1;exact mF (mG.mp h1).2
 obtain⟨s',n,ms,md,lm,⟨xi,hv,rcE⟩,hh⟩:=q7L (λs' ms=>Ix k s'∧(∀m u,m≠64→Hv X.s m u→Hv s' m u)∧s'.rc=X.s.rc++ms.map putR) x.w f ⟨x,λ_ _ _ z=>z,by simp⟩ (λs' ms n p w' kp ec fb hnp hpb hr dk ⟨xi,hv,rcE⟩=>by
  have nb:=w'.qs.ok.nm _ hnp;obtain⟨w2,_⟩:=w'.put (v:=s'.val p n) hr nb.1 nb.2 (.inl ⟨p,hnp⟩) dk;refine⟨xi.put hr w2 ?_,λm u m6 hm=>?_,?_⟩
  ·show(qZ s'.q.V n++[_]).length< _;rw[mE,gG,(vK (V:=s'.q.V) (n:=n) w'.qs.ok.nd).2 p hnp];exact xi.sh
  ·have:=hv m u m6 hm;by_cases e:m=n
   ·subst e;have z:=Hv.new (s:=s') (n:=m) (v:=s'.val p m);rw[this.val w' hnp m6]at z ⊢;exact z
   exact this.put w' (by lia) e
  show s'.rc++[_]=_;rw[rcE,gB,gC];rfl)
 have kp:Kp X.s s':=⟨md.eB,md.eP,md.nm,md.lV⟩;have rme:=md.rm;have lbe:=md.lb f.b;have ec:=md.ec;have wt':Wt k s':=λhlt=>by
  rw[md.eP]at hlt;refine⟨b,by rw[md.eB];exact f.b,by rw[md.eP];exact md.fb,?_,?_,λev=>?_⟩
  ·rw[md.eP];by_cases n0:n=0
   ·have:X.s.rmX<(1+k.ie)*X.s.q.P:=by lia
    have lt:X.s.q.lv.getD b 0<(X.s.q.P:Int):=by
     rcases q14 ok htk with⟨_,h1,_⟩|⟨_,_,e0,_⟩
     ·exact(v3.mp h1).1.2
     exfalso;obtain⟨c,c1,c2,c3,c4,c5⟩:=wt this;have:c∈X.s.opt k:=v3.mpr ⟨⟨⟨c1,c2,by unfold XS.spc;rw[hC (by lia)];rw[rG,rH]at c4;lia⟩,c3⟩,c5⟩;rw[e0]at this;cases this
    lia
   have:=qAD (P:=X.s.q.P) (b:=b) (V:=X.s.q.V);lia
  ·rw[md.eP];unfold XS.spc at spc;rw[rG,rH]at *;split at spc<;>lia
  have e1:s'.lst=X.s.lst:=by unfold XS.lst;rw[ec]
  rw[ec,e1];exact clb ev
 rcases hh with⟨e,hn,dk⟩|⟨e,hn,nl⟩
 ·rw[e]at h;cases h;exact⟨⟨xi,wt',g'ok,kp,hv⟩,dk,rfl,ms,rcE⟩
 rw[e]at h;dsimp only at h;by_cases dk:s'.lf=some 0
 ·rw[hU dk]at h;cases h;exact⟨⟨xi,wt',g'ok,kp,hv⟩,dk,rfl,ms,rcE⟩
 rw[hC dk]at h;cases h;obtain⟨w2,rm2⟩:=md.w.wip (b:=b) (by rw[md.eB];exact f.b) (by rw[md.eP];exact md.fb) nl dk;have e1:s'.lst=X.s.lst:=by unfold XS.lst;rw[ec]
 have ge:(1+k.ie)*X.s.q.P≤(s'.wip b).rmX:=by rw[rm2,md.eP];unfold XS.spc at spc;rw[rG,rH]at *;split at spc<;>lia
 refine⟨⟨xi.wip (by rw[md.eB];exact f.b) w2 (λev=>by rw[ec,e1];exact clb ev),λhlt=>?_,g'ok,kp.trans ⟨rfl,rfl,λ_=>aQ,rfl⟩,λm u m6 hm=>(hv m u m6 hm).wip md.w nl⟩,rfl,?_,ge,?_,⟨g',rfl⟩,by rw[lm,hn],rfl,s',e,rfl,by rw[lm];exact md⟩
 ·have hlt:(s'.wip b).rmX<(1+k.ie)*s'.q.P:=hlt;rw[md.eP]at hlt;lia
 ·show s'.rc++[_]=_;rw[rcE]
 show(s'.wip b).rmX+ms.length=_;rw[rm2,md.eP,lm];lia)
end
section
variable{k:Tm}{s:XS}
theorem q3W(w:WX k s)(hr:s.rmX=(1+k.ie)*s.q.P):(∀b,b<s.q.B→s.q.fi.getD b 0=0∨s.q.fi.getD b 0=(s.q.P:Int))∧((List.range s.q.B).filter λb=>decide (s.q.fi.getD b 0=(s.q.P:Int))).length=s.q.B-(1+k.ie):=by(
have p1:=w.qs.ok.p1
obtain⟨l,hl⟩:=FreeIs.ex s.q.B (noB s.q.B) s.cl s.q.fi
have ll:jN s.q.B s.q.P (noB s.q.B) s.q.fi=none∧l.length=1+k.ie:=by
 rcases q13 w.on w.qs.ok.wr p1 hl with⟨h1,h2⟩|⟨b,e,h1,e1,e2,h2,_⟩
 ·refine⟨h1,?_⟩;unfold XS.rmX at hr;rw[hr]at h2;exact(sO (by lia) h2).symm
 exfalso;unfold XS.rmX at hr;rw[hr]at h2;have k:(1+k.ie)*s.q.P%s.q.P=e:=by rw[h2,wK,pZ,pM e2]
 rw[aE]at k;lia
have fl:=q97 w.on w.qs.ok.wr p1 hl ll.1
unfold jR at fl
rw[yB]at fl
refine⟨λb hb=>?_,by lia⟩
have np:=ll.1
unfold jN at np
rw[yB]at np
have:=wL.mp np b (mK.mpr hb)
obtain⟨f,ef,hf⟩:=w.qs.ok.wr b hb
unfold jS at this
rw[mP,kQ,kQ]at this
lia)
theorem vI(x:Ix k s)(hr:s.rmX=(1+k.ie)*s.q.P):s.ded k≠[]:=by(
obtain⟨l,hl⟩:=FreeIs.ex s.q.B (noB s.q.B) s.cl s.q.fi
have m:CM:=⟨0,0,0,[],[],s.cl,[],noB s.q.B,none,[]⟩
have:=(qE6 (m:=⟨0,0,0,[],[],s.cl,[],noB s.q.B,none,[]⟩) (ie:=k.ie) x.w.qs x.w.on rfl hl hr x.sh).1
rw[qE7 x.w rfl hl]at this
exact this)
theorem qEE(wt:Wt k s)(hr:s.rmX<(1+k.ie)*s.q.P):s.opt k≠[]:=λz=>by(
obtain⟨b,b1,b2,b3,b4,b5⟩:=wt hr
have:b∈s.opt k:=v3.mpr ⟨⟨⟨b1,b2,by unfold XS.spc;rw[hC (by lia)];rw[rG,rH]at b4;lia⟩,b3⟩,b5⟩
rw[z]at this
cases this)
theorem q75(x:Ix k s)(hr:s.rmX=(1+k.ie)*s.q.P)(ev:k.ev=true)(e0:s.opt k=[]):(∀c,c<s.q.B→s.q.fi.getD c 0=0→s.lst<s.cl.getD c 0)∧∃b,s.chg k=some b∧b<s.q.B∧s.q.fi.getD b 0=(s.q.P:Int)∧s.cl.getD b 0=s.lst∧s.q.lv.getD b 0=(s.q.P:Int):=by(
have s1:=x.s1
have p1:=x.w.qs.ok.p1
have nop:∀d,Full k s d→s.q.lv.getD d 0<(s.q.P:Int)→s.lst+k.sp≤s.cl.getD d 0:=λd fd ld=>by refine pN.mp λz=>?_;have:d∈s.opt k:=v3.mpr ⟨⟨fd,ld⟩,λ_=>z⟩;rw[e0]at this;cases this
have fr:∀c,c<s.q.B→s.q.fi.getD c 0=0→s.lst<s.cl.getD c 0:=λc hc fc=>by obtain⟨d,hd⟩:=rR _ (vI x hr);obtain⟨fd,ld⟩:=q22.mp hd;have h1:=nop d fd ld;have h2:=x.e2 ev d c fd.b hc (by rw[fd.f];lia) fc;lia
refine⟨fr,?_⟩
obtain⟨rp,_⟩:=q3W x.w hr
have hB:0<s.q.B:=by obtain⟨d,hd⟩:=rR _ (vI x hr);have:=(q22.mp hd).1.b;lia
obtain⟨c,hc,ec⟩:=qEC x.w hB
have fc:s.q.fi.getD c 0=(s.q.P:Int):=by
 rcases rp c hc with z|z
 ·have:=fr c hc z;lia
 exact z
have spc:s.spc k=(s.q.P:Int):=by unfold XS.spc;rw[hU (by lia)]
have hc':c∈s.clb k (s.ful k):=by unfold XS.clb;exact mG.mpr ⟨q4T.mpr ⟨hc,fc,by rw[spc];exact(qE8 x.w hc).2⟩,hG (by lia)⟩
have pw:(s.clb k (s.ful k)).Pairwise (· < ·):=by unfold XS.clb XS.ful;exact gI _ (gI _ rD)
obtain⟨h1,h2⟩:=q3C (cl:=s.cl) pw
cases z:s.chg k with
|none=>rw[h1 z]at hc';cases hc'
|some b=>
 obtain⟨m1,m2⟩:=h2 b z;have m1':=m1;unfold XS.clb at m1';obtain⟨fb,_⟩:=mG.mp m1';have fb:=q4T.mp fb;have:=m2 c hc';have le:s.cl.getD b 0≤s.cl.getD c 0:=by
  unfold keyN lx at this;by_cases q:s.cl.getD c 0=s.cl.getD b 0
  ·lia
  rw[hC q]at this;have:=dJ this;lia
 have cb:s.cl.getD b 0=s.lst:=by have:=q7M x.w fb.b;lia
 refine⟨b,rfl,fb.b,fb.f,cb,?_⟩;have:=qE8 x.w fb.b;have:¬s.q.lv.getD b 0<(s.q.P:Int):=λy=>by have:=nop b fb y;lia
 lia)
noncomputable def nlc(s:XS):Nat:=((List.range s.q.B).filter λb=>decide (s.q.fi.getD b 0=(s.q.P:Int))&&decide (s.cl.getD b 0=s.lst)).length
noncomputable def need(k:Tm)(s:XS):Nat:=if s.rd k=true then 0 else if s.rmX<(1+k.ie)*s.q.P then 1+(if k.ev=true then s.q.B-(1+k.ie)else 1)else if s.opt k≠[]then 1 else nlc s+1
theorem qAF{α:Type}{p p':α→Bool}:∀{l:List α},(∀x∈l,p' x=true→p x=true)→(∃x∈l,p x=true∧p' x=false)→(l.filter p').length<(l.filter p).length
| [],_,h=>by obtain⟨x,hx,_⟩:=h;cases hx
|a::l,h,g=>by
 have le:(l.filter p').length≤(l.filter p).length:=by
  have:(l.filter p').length≤(l.filter p).length:=by rw[←wS,←wS];exact pG λx hx=>h x (hV _ hx)
  exact this
 rw[m9,m9];obtain⟨x,hx,h1,h2⟩:=g;rcases kI.mp hx with e|hx
 ·subst e;rw[hU h1,hC (by rw[h2];decide),mI];lia
 have ih:=qAF (λy hy=>h y (hV _ hy)) ⟨x,hx,h1,h2⟩;by_cases z:p' a=true
 ·rw[hU z,hU (h a (by simp) z),mI,mI];lia
 rw[hC z];split
 ·rw[mI];lia
 exact ih
theorem qIS(x:Ix k s)(hr:s.rmX=(1+k.ie)*s.q.P)(ev:k.ev=true)(e0:s.opt k=[]):nlc s+1≤s.q.B-(1+k.ie):=by(
obtain⟨_,fl⟩:=q3W x.w hr
rw[←fl]
obtain⟨d,hd⟩:=rR _ (vI x hr)
obtain⟨fd,ld⟩:=q22.mp hd
refine qAF (λy _ hy=>?_) ⟨d,mK.mpr fd.b,hG fd.f,?_⟩
·rw[mP]at hy;exact hy.1
have:¬s.cl.getD d 0<s.lst+k.sp:=λz=>by have:d∈s.opt k:=v3.mpr ⟨⟨fd,ld⟩,λ_=>z⟩;rw[e0]at this;cases this
have s1:=x.s1
rw[h9 (show ¬s.cl.getD d 0=s.lst by lia),Bool.and_false])
theorem q7N(x:Ix k s)(hr:(1+k.ie)*s.q.P≤s.rmX):need k s≤if k.ev=true then s.q.B-(1+k.ie)else 1:=by(
have b1:1≤s.q.B-(1+k.ie):=by have:=x.sh;refine Nat.pos_of_ne_zero λz=>?_;rw[z,Nat.zero_mul]at this;cases this
unfold need
split
·exact mQ _
rename_i nr
have e:s.rmX=(1+k.ie)*s.q.P:=by unfold XS.rd at nr;have:=dJ (xT.mpr nr);lia
rw[hC (by lia)]
split
·split<;>lia
rename_i z
have z:s.opt k=[]:=rQ z
cases ev:k.ev with
|true=>rw[hU rfl];exact qIS x e ev z
|false=>exfalso;have:=vI x e;unfold XS.opt at z;rw[ev]at z;exact this z)
end
section
variable{k:Tm}{X Y:Sx}
theorem qG6(x:Ix k X.s)(wt:Wt k X.s)(nr:X.s.rd k=false):∃ybg,X.s.tk k X.g=some ybg:=by(
unfold XS.tk
by_cases z:X.s.opt k=[]
·rw[hU z];have nr':=dJ nr;have e:X.s.rmX=(1+k.ie)*X.s.q.P:=by have:¬X.s.rmX<(1+k.ie)*X.s.q.P:=λy=>qEE wt y z;lia
 cases ev:k.ev with
 |true=>obtain⟨_,b,hb,_⟩:=q75 x e ev z;rw[hU rfl,hb];exact⟨_,rfl⟩
 |false=>exfalso;have:=vI x e;unfold XS.opt at z;rw[ev]at z;exact this z
rw[hC z]
exact⟨_,rfl⟩)
theorem qG7{p:Pa}(x:Ix k X.s)(wt:Wt k X.s)(ok:X.g.Ok)(nr:X.s.rd k=false)(h:X.room k=(Y,.ok p)):need k Y.s<need k X.s:=by(
obtain⟨rx,hp,_,ge,rmE,⟨g',htk⟩,lm,_,s',emv,eY,md⟩:=qBF x wt ok h
have eP:=rx.kp.eP
have eB:=rx.kp.eB
have fb:=q3F ok htk
have lvb:=q3E x.w.qs x.w.pd fb.b
have nr':=dJ nr
have ge':(1+k.ie)*Y.s.q.P≤Y.s.rmX:=by rw[eP];exact ge
have nl:=q7N rx.x ge'
rw[eB]at nl
have p1:=x.w.qs.ok.p1
have eX:need k X.s=if X.s.rmX<(1+k.ie)*X.s.q.P then 1+(if k.ev=true then X.s.q.B-(1+k.ie)else 1)else if X.s.opt k≠[]then 1 else nlc X.s+1:=by rw[need,nr,hC (by decide)]
rw[eX]
by_cases lk:X.s.rmX<(1+k.ie)*X.s.q.P
·rw[hU lk];lia
rw[hC lk]
have eR:X.s.rmX=(1+k.ie)*X.s.q.P:=by lia
rcases q14 ok htk with⟨_,h1,_⟩|⟨_,ev,e0,_,hc,h1,_⟩
·have ne:X.s.opt k≠[]:=λz=>by rw[z]at h1;cases h1
 rw[hU ne];have lt:=(v3.mp h1).1.2;have:Y.s.rd k=true:=hG (by rw[eP];lia);rw[need,hU this];decide
rw[hC (λz=>z e0)]
obtain⟨fr,b,hb,b1,b2,b3,b4⟩:=q75 x eR ev e0
rw[hc]at hb
obtain rfl:=kW hb
have rY:Y.s.rmX=(1+k.ie)*Y.s.q.P:=by rw[eP];lia
have nrY:¬Y.s.rd k=true:=λz=>by have:=mF z;lia
rw[need,hC nrY,hC (by lia)]
have bin:p.b∈(List.range X.s.q.B).filter λb=>decide (X.s.q.fi.getD b 0=(X.s.q.P:Int))&&decide (X.s.cl.getD b 0=X.s.lst):=mG.mpr ⟨mK.mpr b1,by rw[hG b2,hG b3];rfl⟩
have n1:1≤nlc X.s:=lC bin
split
·lia
rename_i z
have z:Y.s.opt k=[]:=rQ z
have gcl:∀c,Y.s.cl.getD c 0=if p.b=c then X.s.cl.getD p.b 0+1 else X.s.cl.getD c 0:=λc=>by
 rw[eY];show(s'.cl.set p.b (s'.cl.getD p.b 0+1)).getD c 0=_;rw[md.ec,jG,x.w.lc];by_cases e:p.b=c
 ·rw[hU ⟨e,b1⟩,hU e]
 rw[hC (λz=>e z.1),hC e]
have gfi:∀c,Y.s.q.fi.getD c 0=if p.b=c then 0 else s'.q.fi.getD c 0:=λc=>by
 rw[eY];show(s'.q.fi.set p.b 0).getD c 0=_;rw[jG,md.w.qs.ok.lf,md.eB];by_cases e:p.b=c
 ·rw[hU ⟨e,b1⟩,hU e]
 rw[hC (λz=>e z.1),hC e]
have lle:X.s.lst≤Y.s.lst:=by obtain⟨c,hc,ec⟩:=qEC rx.x.w (by rw[eB];lia);rw[eB]at hc;rw[←ec,gcl];have:=q7M x.w hc;have:=q7M x.w b1;split<;>lia
have leq:Y.s.lst=X.s.lst:=by
 refine Int.le_antisymm (pN.mp λy=>?_) lle;obtain⟨d,hd⟩:=rR _ (vI rx.x rY);obtain⟨fd,ld⟩:=q22.mp hd;have nc:¬Y.s.cl.getD d 0<Y.s.lst+k.sp:=λy=>by have:d∈Y.s.opt k:=v3.mpr ⟨⟨fd,ld⟩,λ_=>y⟩;rw[z]at this;cases this
 have ne:p.b≠d:=λy=>by have:=fd.f;rw[gfi,hU y,eP]at this;lia
 rw[gcl,hC ne]at nc;have hd':=fd.b;rw[eB]at hd';have:=x.gp ev d p.b hd' b1;lia
refine Nat.succ_lt_succ ?_
unfold nlc
rw[eB,eP,leq]
refine qAF (λc hc y=>?_) ⟨p.b,mK.mpr b1,by rw[hG b2,hG b3];rfl,?_⟩
·have hc:=mK.mp hc;rw[mP,kQ,kQ]at y ⊢;obtain⟨y1,y2⟩:=y;have ne:p.b≠c:=λw=>by rw[gfi,hU w]at y1;lia
 rw[gcl,hC ne]at y2;refine⟨?_,y2⟩;rcases(q3W x.w eR).1 c hc with q|q
 ·have:=fr c hc q;lia
 exact q
rw[gfi,hU rfl,h9 (by lia)]
rfl)
noncomputable def dOf(p:Pa):List (Str×Int×Bool):=p.mv.map putR++[(Str.ofString "wipe",(p.b:Int),true)]
structure Rms(k:Tm)(X Y:Sx)(qs:List Pa):Prop extends RmX k X Y where
ps:Y.ps=X.ps++qs
ln:qs.length≤need k X.s
theorem q76:∀{i:Nat} {X:Sx},Ix k X.s→Wt k X.s→X.g.Ok→need k X.s≤i→∃Y ps ms,Rms k X Y ps∧Y.s.rc=X.s.rc++ps.flatMap dOf++ms.map putR∧((X.rooms k i=some (Y,.ok ())∧Y.s.rd k=true∧ms=[])∨(X.rooms k i=some (Y,.error .dark)∧Y.s.lf=some 0))
|i,X,x,wt,ok,hi=>by
 cases rd:X.s.rd k with
 |true=>
  refine⟨X,[],[],⟨⟨x,wt,ok,Kp.refl,λ_ _ _ z=>z⟩,by simp,mQ _⟩,by simp,.inl ⟨?_,rd,rfl⟩⟩;cases i with
  |zero=>unfold Sx.rooms;rw[rd,hU rfl]
  |succ i=>unfold Sx.rooms;rw[rd,hU rfl]
 |false=>
  cases i with
  |zero=>
   exfalso;unfold need at hi;rw[rd,hC (by decide)]at hi;split at hi
   ·lia
   split at hi<;>lia
  |succ i=>
   cases e:X.room k with
   |mk W o=>
    obtain⟨rx,hh⟩:=qBF x wt ok e;cases o with
    |error q=>
     cases q with
     |room=>obtain⟨_,h⟩:=hh;obtain⟨ybg,h'⟩:=qG6 x wt rd;rw[h]at h';cases h'
     |dark=>obtain⟨dk,eps,ms,erc⟩:=hh;refine⟨W,[],ms,⟨rx,by rw[eps];simp,mQ _⟩,by rw[erc];simp,.inr ⟨?_,dk⟩⟩;unfold Sx.rooms;rw[rd,hC (by decide),e]
    |ok p=>
     have lt:=qG7 x wt ok rd e;obtain⟨eps,erc,_⟩:=hh;obtain⟨Y,ps,ms,ry,hrc,hr⟩:=q76 (i:=i) rx.x rx.wt rx.ok (by lia);refine⟨Y,p::ps,ms,⟨⟨ry.x,ry.wt,ry.ok,rx.kp.trans ry.kp,λm u m6 z=>ry.hv m u m6 (rx.hv m u m6 z)⟩,?_,?_⟩,?_,?_⟩
     ·rw[ry.ps,eps,gC];rfl
     ·have:=ry.ln;rw[mI];lia
     ·rw[hrc,erc,xZ];simp[dOf]
     have er:X.rooms k (i+1)=W.rooms k i:=by rw[Sx.rooms,rd,hC (by decide),e]
     rw[er];exact hr
end
structure AskO(k:Tm)(i:Nat)(X:Sx)(n v:Int)(Y:Sx)(qs:List Pa)(p:Nat):Prop where
rl:Y.s.rc.length≤X.s.rc.length+17*i+1
x:Ix k Y.s
ge:(1+k.ie)*Y.s.q.P≤Y.s.rmX
ok:Y.g.Ok
ps:Y.ps=X.ps++qs
ln:qs.length≤need k X.s
eB:Y.s.q.B=X.s.q.B
eP:Y.s.q.P=X.s.q.P
nm:∀m,(∃p,(m,p)∈Y.s.q.V)↔m=n∨∃p,(m,p)∈X.s.q.V
hv:∀m u,m≠64→m≠n→Hv X.s m u→Hv Y.s m u
hn:Hv Y.s n v
rc:Y.s.rc=X.s.rc++qs.flatMap dOf++[(Str.ofString "put",(p:Int),true)]
structure AskD(k:Tm)(i:Nat)(X:Sx)(Y:Sx)(qs:List Pa):Prop where
rl:Y.s.rc.length≤X.s.rc.length+17*i+1
x:Ix k Y.s
wt:Wt k Y.s
ok:Y.g.Ok
ps:Y.ps=X.ps++qs
ln:qs.length≤need k X.s
kp:Kp X.s Y.s
hv:∀m u,m≠64→Hv X.s m u→Hv Y.s m u
lf:Y.s.lf=some 0
rc:∃ms,Y.s.rc=X.s.rc++qs.flatMap dOf++List.map putR ms
section
variable{k:Tm}{X:Sx}{n v:Int}
theorem qG8{i:Nat}(x:Ix k X.s)(wt:Wt k X.s)(ok:X.g.Ok)(hi:need k X.s≤i)(n0:0≤n)(n1:n≤64)(hl:(∃p,(n,p)∈X.s.q.V)∨(X.s.q.V.length<65∧X.s.q.V.length+1<(X.s.q.B-(1+k.ie))*X.s.q.P)):(∃Y qs p,X.ask k i n v=some (Y,.ok p)∧AskO k i X n v Y qs p)∨∃Y qs,X.ask k i n v=some (Y,.error .dark)∧AskD k i X Y qs:=by(
obtain⟨Y,ps,ms,r,hrc,⟨hr,rd,e0⟩|⟨hr,dk⟩⟩:=q76 x wt ok hi
·have rl:=(q23 x.w ok hr).2.2.2.1;have rd:=mF rd;unfold Sx.ask;rw[hr];dsimp only;by_cases dk:Y.s.lf=some 0
 ·rw[hU dk];exact .inr ⟨Y,ps,rfl,by lia,r.x,r.wt,r.ok,r.ps,r.ln,r.kp,r.hv,dk,ms,hrc⟩
 rw[hC dk];have rd':=rd;rw[rG,rH]at rd';have hl':(∃p,(n,p)∈Y.s.q.V)∨Y.s.q.V.length<65:=by rw[r.kp.lV];exact hl.imp (λz=>(r.kp.nm n).mpr z) λz=>z.1
 obtain⟨w',rm'⟩:=r.x.w.put (n:=n) (v:=v) (by lia) n0 n1 hl' dk;refine .inl ⟨_,ps,_,rfl,?_,r.x.put (by lia) w' ?_,?_,r.ok,r.ps,r.ln,r.kp.eB,r.kp.eP,λm=>?_,λm u m6 mn z=>(r.hv m u m6 z).put r.x.w (by lia) mn,Hv.new,?_⟩
 ·show(Y.s.rc++[_]).length≤_;rw[mE,gG];lia
 ·show(qZ Y.s.q.V n++[_]).length< _;rw[mE,gG];obtain⟨d1,d2⟩:=vK (V:=Y.s.q.V) (n:=n) r.x.w.qs.ok.nd;have lV:=r.kp.lV;rcases hl with z|⟨_,z⟩
  ·obtain⟨p,hp⟩:=(r.kp.nm n).mpr z;rw[d2 p hp];exact r.x.sh
  rw[r.kp.eB,r.kp.eP];lia
 ·show(1+k.ie)*Y.s.q.P≤(Y.s.put n v).rmX;lia
 ·rw[←r.kp.nm m];constructor
  ·rintro⟨p,h⟩
   rcases uI.mp h with e|⟨h,_⟩
   ·cases e;exact .inl rfl
   exact .inr ⟨p,h⟩
  intro z;by_cases e:m=n
  ·exact⟨_,uI.mpr (.inl (by rw[e]))⟩
  rcases z with z|⟨p,h⟩
  ·exact absurd z e
  exact⟨p,uI.mpr (.inr ⟨h,e⟩)⟩
 show Y.s.rc++[_]=_;rw[hrc,e0];simp
have rl:=(q23 x.w ok hr).2.2.2.1
unfold Sx.ask
rw[hr]
exact .inr ⟨Y,ps,rfl,by lia,r.x,r.wt,r.ok,r.ps,r.ln,r.kp,r.hv,dk,ms,hrc⟩)
end
section
variable{k:Tm}{s:XS}
theorem WX.lf(w:WX k s){l:Option Int}(h:∀i,l=some i→0≤i):WX k { s with lf:=l }:={ w with l0:=h }
theorem Ix.forg(x:Ix k s)(n:Int):Ix k (s.forg n):=by(
refine⟨x.w.forg n,?_,x.s1,x.gp,x.e2⟩
have:=(vK (V:=s.q.V) (n:=n) x.w.qs.ok.nd).1
have:=x.sh
show(qZ s.q.V n).length< _
show _ <(s.q.B-(1+k.ie))*s.q.P
lia)
theorem q5M(x:Ix k s):∀(g:List Int),Ix k (s.forgs g)∧(s.forgs g).rmX=s.rmX∧(s.forgs g).rc=s.rc∧(s.forgs g).cl=s.cl∧(s.forgs g).lf=s.lf∧(s.forgs g).q.B=s.q.B∧(s.forgs g).q.P=s.q.P∧(∀m,(∃p,(m,p)∈(s.forgs g).q.V)↔m∉g∧∃p,(m,p)∈s.q.V)∧∀m u,m∉g→Hv s m u→Hv (s.forgs g) m u:=by(
intro g
induction g generalizing s with
|nil=>exact⟨x,rfl,rfl,rfl,rfl,rfl,rfl,λm=>by simp[XS.forgs],λm u _ h=>h⟩
|cons n g ih=>
 obtain⟨a1,a2,a3,a4,a5,a6,a7,a8,a9⟩:=ih (x.forg n);refine⟨a1,a2,a3,a4,a5,a6,a7,λm=>?_,λm u hm h=>?_⟩
 ·show(∃p,(m,p)∈((s.forg n).forgs g).q.V)↔_;rw[a8];constructor
  ·rintro⟨h1,p,hp⟩
   obtain⟨h2,h3⟩:=qX.mp hp;exact⟨λz=>(kI.mp z).elim h3 h1,p,h2⟩
  rintro⟨h1,p,hp⟩
  exact⟨λz=>h1 (hV _ z),p,qX.mpr ⟨hp,λz=>h1 (by rw[show m=n from z];exact kZ)⟩⟩
 exact a9 m u (λz=>hm (hV _ z)) (h.forg λz=>hm (by rw[z];exact kZ)))
theorem Wt.of(h:(1+k.ie)*s.q.P≤s.rmX):Wt k s:=λz=>by lia
theorem qIT{n:Int}:n∈s.hl↔n≠64∧∃p,(n,p)∈s.q.V:=by(
unfold XS.hl
rw[cT,mG,kO]
constructor
·rintro⟨⟨y,h,e⟩,h2⟩
 refine⟨mF h2,y.2,?_⟩;rw[←e];exact h
rintro⟨h1,p,hp⟩
exact⟨⟨_,hp,rfl⟩,hG h1⟩)
end
noncomputable def newX(B P:Nat):XS:=⟨⟨P,B,1,[],List.replicate B 0,List.replicate B 0,List.replicate B 0⟩,List.replicate B 0,λ_=>none,none,[]⟩
theorem qG9{k:Tm}{B P:Nat}(b2:B≤16)(p1:1≤P)(p2:P≤16)(hk:1+k.ie<B)(s1:1≤k.sp):Ix k (newX B P)∧(1+k.ie)*P≤(newX B P).rmX:=by(
have r0:∀n i:Nat,(List.replicate n (0:Int)).getD i 0=0:=λn i=>rep8
have rmE:(newX B P).rmX=B*P:=by
 unfold XS.rmX newX rm clr1;dsimp only;have:∀n,((List.range n).map λb=>P-((List.replicate B (0:Int)).getD b 0).toNat).sum=n*P:=λn=>by
  induction n with
  |zero=>simp
  |succ n ih=>rw[lI,gB,List.sum_append,ih,c8,List.map_singleton,r0];simp
 exact this B
have le:(1+k.ie)*P≤B*P:=gR _ (by lia)
have ok:(newX B P).q.Ok:=by refine⟨p1,p2,b2,gN,gN,gN,by simp[newX],λq hq=>absurd (show q∈([]:Mp)from hq) (by simp),λq hq=>absurd (show q∈([]:Mp)from hq) (by simp),λb hb=>⟨0,r0 _ _,mQ _⟩⟩
refine⟨⟨⟨⟨ok,λb hb=>?_⟩,λb c _ _ h1 _=>?_,gN,λ_ _ _ _ _=>rfl,λy hy=>absurd (show y∈([]:Mp)from hy) (by simp),by simp[newX],λb=>?_,λb=>?_,gE _,?_,?_,λi e=>by cases e⟩,?_,s1,λ_ b c _ _=>?_,λ_ d c _ _ h _=>absurd (r0 _ _) h⟩,?_⟩
·rw[show(newX B P).q.lv=List.replicate B 0 from rfl,r0];rfl
·unfold jS at h1;rw[show(newX B P).q.fi=List.replicate B 0 from rfl,r0]at h1;simp at h1
·rw[show(newX B P).cl=List.replicate B 0 from rfl,r0];exact⟨gE _,gE _⟩
·rw[show(newX B P).q.bo=List.replicate B 0 from rfl,r0];exact⟨gE _,by show(0:Int)<1;decide⟩
·rw[rmE];show k.ie*P≤B*P;exact gR _ (by lia)
·show 0<66;decide
·show 0<(B-(1+k.ie))*P;exact Nat.mul_pos (by lia) p1
·rw[show(newX B P).cl=List.replicate B 0 from rfl,r0,r0];lia
rw[rmE]
exact le)
structure Kd(k:Tm)(sh:Int)(sr:Nat)(X:Sx)(KD:Mp):Prop where
x:Ix k X.s
wt:Wt k X.s
ok:X.g.Ok
nd:(KD.map (·.1)).Nodup
kb:∀y∈KD,0≤y.1∧y.1<sh
eq:∀n,n≠64→((∃p,(n,p)∈X.s.q.V)↔n∈KD.map (·.1))
hv:∀y∈KD,Hv X.s y.1 y.2
ls:KD.length≤sr
hs:sr+2≤(X.s.q.B-(1+k.ie))*X.s.q.P
s57:sr≤64
h64:sh≤64
section
variable{k:Tm}{sh:Int}{sr:Nat}{X Y:Sx}{KD:Mp}{n v:Int}{i:Nat}{qs:List Pa}{p:Nat}
theorem Kd.pm(h:Kd k sh sr X KD):((X.s.q.V.map (·.1)).filter λn=>decide (n≠64)).Perm (KD.map (·.1)):=by(
refine q21 (gI _ h.x.w.qs.ok.nd) h.nd λy=>?_
rw[mG,kQ]
constructor
·rintro⟨a,b⟩
 refine(h.eq y b).mp ?_;obtain⟨z,hz,rfl⟩:=kO.mp a;exact⟨z.2,hz⟩
intro hy
have:y≠64:=by obtain⟨z,hz,rfl⟩:=kO.mp hy;have:=h.kb z hz;have:=h.h64;lia
obtain⟨p,hp⟩:=(h.eq y this).mpr hy
exact⟨kO.mpr ⟨_,hp,rfl⟩,this⟩)
theorem Kd.lV(h:Kd k sh sr X KD):X.s.q.V.length≤KD.length+1:=by(
have h1:=qIM h.x.w.qs.ok.nd
have h2:=h.pm.length_eq
rw[hX]at h2
lia)
theorem Kd.hl(h:Kd k sh sr X KD){n:Int}:n∈X.s.hl↔n∈KD.map (·.1):=by(
rw[qIT]
constructor
·rintro⟨a,b⟩
 exact(h.eq n a).mp b
intro hy
have:n≠64:=by obtain⟨z,hz,rfl⟩:=kO.mp hy;have:=h.kb z hz;have:=h.h64;lia
exact⟨this,(h.eq n this).mpr hy⟩)
theorem q7O{s:XS}(x:Ix k s):need k s≤17:=by(
have b2:=x.w.qs.ok.b2
by_cases z:(1+k.ie)*s.q.P≤s.rmX
·have:=q7N x z;split at this<;>lia
unfold need
split
·lia
rw[hU (by lia)]
split<;>lia)
theorem Kd.can(h:Kd k sh sr X KD)(n0:0≤n)(n1:n<sh)(hc:n∈KD.map (·.1)∨KD.length<sr):(∃p,(n,p)∈X.s.q.V)∨(X.s.q.V.length<65∧X.s.q.V.length+1<(X.s.q.B-(1+k.ie))*X.s.q.P):=by(
have:=h.lV
have:=h.hs
have:=h.s57
have:=h.h64
rcases hc with z|z
·exact .inl ((h.eq n (by lia)).mpr z)
exact .inr ⟨by lia,by lia⟩)
theorem Kd.can64(h:Kd k sh sr X KD)(ne:KD≠[]):(∃p,((64:Int),p)∈X.s.q.V)∨(X.s.q.V.length<65∧X.s.q.V.length+1<(X.s.q.B-(1+k.ie))*X.s.q.P):=by(
have hs:=h.hs
have ls:=h.ls
have s57:=h.s57
by_cases z:∃p,((64:Int),p)∈X.s.q.V
·exact .inl z
have e:(X.s.q.V.map (·.1)).filter (λn=>decide (n≠64))=X.s.q.V.map (·.1):=rA.mpr λy hy=>hG λw=>z (by obtain⟨u,hu,rfl⟩:=kO.mp hy;exact⟨u.2,by rw[←w];exact hu⟩)
have:=h.pm.length_eq
rw[e,hX,hX]at this
exact .inr ⟨by lia,by lia⟩)
theorem Kd.wrote(h:Kd k sh sr X KD)(n0:0≤n)(n1:n<sh)(hc:n∈KD.map (·.1)∨KD.length<sr)(a:AskO k i X n v Y qs p):Kd k sh sr Y (putW KD n v):=by(
have h64:=h.h64
have mp:∀q,q∈putW KD n v↔q=(n,v)∨(q∈KD∧q.1≠n):=λq=>by rw[q91 h.nd,qX]
have mk:∀m,m∈(putW KD n v).map (·.1)↔m=n∨m∈KD.map (·.1):=λm=>by
 rw[kO,kO];constructor
 ·rintro⟨q,hq,rfl⟩
  rcases(mp q).mp hq with e|⟨e,_⟩
  ·rw[e];exact .inl rfl
  exact .inr ⟨q,e,rfl⟩
 intro z;by_cases e:m=n
 ·exact⟨(n,v),(mp _).mpr (.inl rfl),e.symm⟩
 rcases z with z|⟨q,hq,rfl⟩
 ·exact absurd z e
 exact⟨q,(mp _).mpr (.inr ⟨hq,e⟩),rfl⟩
refine⟨a.x,Wt.of a.ge,a.ok,qC5 h.nd,λy hy=>?_,λm m6=>?_,λy hy=>?_,?_,by rw[a.eB,a.eP];exact h.hs,h.s57,h64⟩
·rcases(mp y).mp hy with e|⟨e,_⟩
 ·rw[e];exact⟨n0,n1⟩
 exact h.kb y e
·rw[a.nm,mk,h.eq m m6]
·rcases(mp y).mp hy with e|⟨e,en⟩
 ·rw[e];exact a.hn
 have:=h.kb y e;exact a.hv _ _ (by lia) en (h.hv y e)
unfold putW
split
·rw[hX];exact h.ls
rename_i z
rw[mE,gG]
rcases hc with w|w
·exfalso;obtain⟨q,hq,e⟩:=kO.mp w;exact z (cF.mpr ⟨q,hq,hG e⟩)
lia)
theorem Kd.gave(h:Kd k sh sr X KD){b:Int}(a:AskO k i X 64 b Y qs p){g:List Int}(hg:∀m∈g,m≠64):Kd k sh sr ⟨Y.s.forgs g,Y.g,Y.ps⟩ (KD.filter λy=>!decide (y.1∈g)):=by(
have h64:=h.h64
obtain⟨a1,a2,a3,a4,a5,a6,a7,a8,a9⟩:=q5M a.x g
have mk:∀y,y∈KD.filter (λy=>!decide (y.1∈g))↔y∈KD∧y.1∉g:=λy=>by rw[mG,dN,dM]
refine⟨a1,Wt.of ?_,a.ok,h.nd.sublist (wB.map _),λy hy=>h.kb y ((mk y).mp hy).1,λm m6=>?_,λy hy=>?_,mD (mJ _ _) h.ls,?_,h.s57,h64⟩
·show(1+k.ie)*(Y.s.forgs g).q.P≤(Y.s.forgs g).rmX;rw[a2,a7];exact a.ge
·rw[a8,a.nm,kO];constructor
 ·rintro⟨e1,e|e⟩
  ·exact absurd e m6
  obtain⟨y,hy,e⟩:=kO.mp ((h.eq m m6).mp e);exact⟨y,(mk y).mpr ⟨hy,by rw[e];exact e1⟩,e⟩
 rintro⟨y,hy,rfl⟩
 obtain⟨h1,h2⟩:=(mk y).mp hy;exact⟨h2,.inr ((h.eq _ m6).mpr (kO.mpr ⟨y,h1,rfl⟩))⟩
·obtain⟨h1,h2⟩:=(mk y).mp hy;have:=h.kb y h1;exact a9 _ _ h2 (a.hv _ _ (by lia) (by lia) (h.hv y h1))
show sr+2≤((Y.s.forgs g).q.B-(1+k.ie))*(Y.s.forgs g).q.P
rw[a6,a7,a.eB,a.eP]
exact h.hs)
end
theorem qGA{k:Tm}{X Y:Sx}{r:Except Rf Pa}(R:XS→Prop)(hp:∀s n v,R s→R (s.put n v))(hw:∀s b,R s→R (s.wip b))(w:WX k X.s)(ok:X.g.Ok)(h:X.room k=(Y,r))(c:R X.s):R Y.s:=by(
unfold Sx.room at h
cases htk:X.s.tk k X.g with
|none=>rw[htk]at h;cases h;exact c
|some ybg=>
 obtain⟨y,b,g'⟩:=ybg;rw[htk]at h;dsimp only at h;have f:=q3F ok htk;obtain⟨s',n,ms,md,lm,cs,hh⟩:=q7L (λs' _=>R s') w f c (λs' ms n p _ _ _ _ _ _ _ _ hc=>hp _ _ _ hc);rcases hh with⟨e,_⟩|⟨e,_⟩
 ·rw[e]at h;cases h;exact cs
 rw[e]at h;dsimp only at h;split at h
 ·cases h;exact cs
 cases h;exact hw _ _ cs)
theorem q99{k:Tm}(R:XS→Prop)(hp:∀s n v,R s→R (s.put n v))(hw:∀s b,R s→R (s.wip b)):∀{i:Nat} {X Y:Sx} {r:Except Rf Unit},WX k X.s→X.g.Ok→X.rooms k i=some (Y,r)→R X.s→R Y.s
|0,X,Y,r,w,ok,h,c=>by
 unfold Sx.rooms at h;split at h
 ·cases h;exact c
 cases h
|i+1,X,Y,r,w,ok,h,c=>by
 unfold Sx.rooms at h;split at h
 ·cases h;exact c
 cases hr:X.room k with
 |mk Z q=>
  rw[hr]at h;obtain⟨w2,ok2,_⟩:=qBE w ok hr;have c2:=qGA R hp hw w ok hr c;cases q with
  |error e=>dsimp only at h;cases h;exact c2
  |ok p=>exact q99 R hp hw w2 ok2 h c2
theorem qIU{k:Tm}{X Y:Sx}{i:Nat}{n v:Int}{r:Except Rf Nat}(R:XS→Prop)(hp:∀s n v,R s→R (s.put n v))(hw:∀s b,R s→R (s.wip b))(w:WX k X.s)(ok:X.g.Ok)(h:X.ask k i n v=some (Y,r))(c:R X.s):R Y.s:=by(
unfold Sx.ask at h
cases hr:X.rooms k i with
|none=>rw[hr]at h;cases h
|some zq=>
 obtain⟨Z,q⟩:=zq;rw[hr]at h;have c2:=q99 R hp hw w ok hr c;cases q with
 |error e=>dsimp only at h;cases h;exact c2
 |ok u=>
  dsimp only at h;split at h
  ·cases h;exact c2
  cases h;exact hp _ _ _ c2)
theorem qBG{k:Tm}{X Y:Sx}{i:Nat}{n v:Int}{r:Except Rf Nat}(w:WX k X.s)(ok:X.g.Ok)(h:X.ask k i n v=some (Y,r))(c:X.s.lf=none):Y.s.lf=none:=qIU (λs=>s.lf=none) (λs n v e=>by show s.lf.map _=none;rw[e];rfl) (λs b e=>by show s.lf.map _=none;rw[e];rfl) w ok h c
end W1
namespace L2
open PySem PyProof.Rows
noncomputable def gl':Bool→Keyed→Array Keyed→Nat→Nat→Nat→StateT SortSt Sem (Option Nat):=sortPriv%PySem.Builtin.gallop
noncomputable def ky(p:Keyed):Int:=numOf p.1
noncomputable def IsK(p:Keyed):Prop:=∃n t,p.1=.int n t
noncomputable def byd(l:Bool)(q p:Keyed):Bool:=if l=true then decide (ky p<ky q)else !decide (ky q<ky p)
section
variable{prog:Program}{w:World}{A:Around}{E:Value→Shared→Prop}{s:Shared}
theorem qBH{st:SortSt}{p q:Keyed}{Q:Option Bool→SortSt→Prop}(hk:kindOf st=oneType')(hp:IsK p)(hq:IsK q)(h:Q (some (decide (ky p<ky q))) st):wpS (model prog w) A E s (lt' p q) Q st:=by(
obtain⟨a,t,hp⟩:=hp
obtain⟨b,u,hq⟩:=hq
obtain⟨p1,p2⟩:=p
obtain⟨q1,q2⟩:=q
obtain rfl:p1=_:=hp
obtain rfl:q1=_:=hq
rw[lt'_eq]
refine kL (wM ?_)
rw[hk,keyLt'_oneType]
exact kL (sP (sX (oneLt_int ⟨rfl,kP h⟩))))
theorem jU{st:SortSt}{arr:Array Keyed}{i:Nat}{Q:Keyed→SortSt→Prop}(hi:i<arr.size)(h:Q arr[i] st):wpS (model prog w) A E s (elem' arr i) Q st:=by rw[elem'_eq,cG hi];exact kP h
theorem qBI{st:SortSt}{l:Bool}{q:Keyed}{arr:Array Keyed}{i:Nat}{Q:Option Bool→SortSt→Prop}(hk:kindOf st=oneType')(kq:IsK q)(ka:∀i (h:i<arr.size),IsK arr[i])(hi:i<arr.size)(h:Q (some (byd l q arr[i])) st):
 wpS (model prog w) A E s (do
  let p←elem' arr i
  if l=true then lt' p q
  else do
   let r←lt' q p
   pure (Option.map (λx=>!x) r)) Q st:=by(
refine kL (jU hi ?_)
unfold byd at h
cases l with
|true=>exact qBH hk (ka i hi) kq h
|false=>exact kL (qBH hk kq (ka i hi) (kP h)))
theorem qK1{st:SortSt}{l:Bool}{q:Keyed}{arr:Array Keyed}{base n hint:Nat}{Q:Option Nat→SortSt→Prop}(hk:kindOf st=oneType')(hh:hint<n)(hn:base+n≤arr.size)(kq:IsK q)(ka:∀i (h:i<arr.size),IsK arr[i])
 (f:Nat→Bool) (hf:∀i (h:base+i<arr.size),i<n→byd l q arr[base+i]=f i) (mn:∀i j,i≤j→j<n→f j=true→f i=true)
 (h:∀r,r≤n→(∀i,i<r→f i=true)→(∀i,r≤i→i<n→f i=false)→Q (some r) st):wpS (model prog w) A E s (gl' l q arr base n hint) Q st:=by(
have mf:∀i j,i≤j→j<n→f i=false→f j=false:=λi j ij hj e=>by
 cases z:f j with
 |false=>rfl
 |true=>rw[mn i j ij hj z]at e;cases e
have fin:∀lo hi,lo≤hi→hi≤n→(∀i,i<lo→f i=true)→(∀i,hi≤i→i<n→f i=false)→∀jp:Option (Option Nat)×Nat×Nat→StateT SortSt Sem (Option Nat),(∀x,jp (none,x,x)=pure (some x))→wpS (model prog w) A E s (do
 let z←forIn [:n] ((none,lo,hi):Option (Option Nat)×Nat×Nat) λ_ c=>
  if c.2.1≥c.2.2 then pure (.done (none,c.2.1,c.2.2))
  else do
   let m←(do
    let p←elem' arr (base+(c.2.1+(c.2.2-c.2.1) / 2));if l=true then lt' p q
    else do
     let r←lt' q p;pure (Option.map (λx=>!x) r))
   match m with
   |some b=>if b=true then pure (.yield (none,c.2.1+(c.2.2-c.2.1) / 2+1,c.2.2))else pure (.yield (none,c.2.1,c.2.1+(c.2.2-c.2.1) / 2))
   |_=>pure (.done (some none,c.2.1,c.2.2))
 jp z) Q st:=by
 intro lo hi lh hn' h1 h2 jp hjp;refine kL (gS (I:=λx c st'=>st'=st∧∃lo hi,c=(none,lo,hi)∧lo≤hi∧hi≤n∧hi-lo+x≤n∧(∀i,i<lo→f i=true)∧(∀i,hi≤i→i<n→f i=false)) ?_ ?_ ⟨rfl,lo,hi,rfl,lh,hn',by lia,h1,h2⟩)
 ·rintro x c st' _ hx ⟨rfl,lo,hi,rfl,lh,hn',hm,h1,h2⟩
  dsimp only;by_cases z:lo≥hi
  ·rw[hU z];obtain rfl:lo=hi:=by lia
   refine kP ?_;dsimp only;rw[hjp];exact kP (h _ hn' h1 h2)
  rw[hC z];have m1:lo≤lo+(hi-lo) / 2:=by lia
  have m2:lo+(hi-lo) / 2<hi:=by lia
  generalize lo+(hi-lo) / 2=m at m1 m2 ⊢;refine kL (qBI hk kq ka (by lia) ?_);rw[hf m (by lia) (by lia)];cases y:f m with
  |true=>exact kP ⟨rfl,m+1,hi,rfl,by lia,hn',by lia,λi hi=>mn i m (by lia) (by lia) y,h2⟩
  |false=>exact kP ⟨rfl,lo,m,rfl,by lia,by lia,by lia,h1,λi hi hn=>mf m i hi hn y⟩
 rintro c st' ⟨rfl,lo,hi,rfl,lh,hn',hm,h1,h2⟩
 obtain rfl:lo=hi:=by lia
 rw[hjp];exact kP (h _ hn' h1 h2)
unfold gl'
refine kL (qBI hk kq ka (by lia) ?_)
rw[hf hint (by lia) hh]
cases y:f hint with
|true=>
 dsimp only;rw[hU rfl];refine kL (rB (gS (I:=λx c st'=>st'=st∧∃la o,c=(none,la,o)∧la<o∧x<o∧hint+la<n∧f (hint+la)=true) (Q:=λc st'=>st'=st∧∃la o,c=(none,la,o)∧la<o∧hint+la<n∧f (hint+la)=true∧(n-hint≤o∨f (hint+o)=false)) ?_ ?_ ⟨rfl,0,1,rfl,by lia,by lia,by lia,y⟩) ?_)
 ·rintro x c st' _ hx ⟨rfl,la,o,rfl,l1,l2,l3,l4⟩
  dsimp only;by_cases z:o≥n-hint
  ·rw[hU z];exact kP ⟨rfl,la,o,rfl,l1,l3,l4,.inl z⟩
  rw[hC z];refine kL (qBI hk kq ka (by lia) ?_);rw[hf (hint+o) (by lia) (by lia)];cases y2:f (hint+o)with
  |true=>exact kP ⟨rfl,o,2*o+1,rfl,by lia,by lia,by lia,y2⟩
  |false=>exact kP ⟨rfl,la,o,rfl,l1,l3,l4,.inr y2⟩
 ·rintro c st' ⟨rfl,la,o,rfl,l1,l2,l3,l4⟩
  exact⟨rfl,la,o,rfl,l1,l3,l4,.inl (by lia)⟩
 rintro c st' ⟨rfl,la,o,rfl,l1,l3,l4,l5⟩
 dsimp only;refine fin _ _ (by lia) (by lia) (λi hi=>mn i _ (by lia) l3 l4) (λi hi hn=>?_) _ (λx=>rfl);rcases l5 with l5|l5
 ·exact absurd hi (by lia)
 exact mf (hint+o) i (by lia) hn l5
|false=>
 dsimp only;rw[hC (by simp)];refine kL (rB (gS (I:=λx c st'=>st'=st∧∃la o,c=(none,la,o)∧la<o∧x<o∧la≤hint∧f (hint-la)=false) (Q:=λc st'=>st'=st∧∃la o,c=(none,la,o)∧la<o∧la≤hint∧f (hint-la)=false∧(hint+1≤o∨f (hint-o)=true)) ?_ ?_ ⟨rfl,0,1,rfl,by lia,by lia,by lia,y⟩) ?_)
 ·rintro x c st' _ hx ⟨rfl,la,o,rfl,l1,l2,l3,l4⟩
  dsimp only;by_cases z:o≥hint+1
  ·rw[hU z];exact kP ⟨rfl,la,o,rfl,l1,l3,l4,.inl z⟩
  rw[hC z];refine kL (qBI hk kq ka (by lia) ?_);rw[hf (hint-o) (by lia) (by lia)];cases y2:f (hint-o)with
  |true=>exact kP ⟨rfl,la,o,rfl,l1,l3,l4,.inr y2⟩
  |false=>exact kP ⟨rfl,o,2*o+1,rfl,by lia,by lia,by lia,y2⟩
 ·rintro c st' ⟨rfl,la,o,rfl,l1,l2,l3,l4⟩
  exact⟨rfl,la,o,rfl,l1,l3,l4,.inl (by lia)⟩
 rintro c st' ⟨rfl,la,o,rfl,l1,l3,l4,l5⟩
 dsimp only;refine fin _ _ (by lia) (by lia) (λi hi=>?_) (λi hi hn=>mf (hint-la) i (by lia) hn l4) _ (λx=>rfl);rcases l5 with l5|l5
 ·exact absurd hi (by lia)
 exact mn i (hint-o) (by lia) (by lia) l5)
end
structure Mg(κ:Keyed→Int)(T O A B:List Keyed):Prop where
pm:(O++A++B).Perm T
so:O.Pairwise λp q=>κ p≤κ q
sa:A.Pairwise λp q=>κ p≤κ q
sb:B.Pairwise λp q=>κ p≤κ q
oa:∀x∈O,∀y∈A,κ x≤κ y
ob:∀x∈O,∀y∈B,κ x≤κ y
la:∃A' z,A=A'++[z]∧∀y∈B,κ y<κ z
section
variable{κ:Keyed→Int}{T O A B C:List Keyed}{y z:Keyed}
theorem Mg.bs(h:Mg κ T O A (C++B))(e:∀y∈C,∀x∈A,κ y≤κ x):Mg κ T (O++C) A B:=by(
obtain⟨b1,b2,b3⟩:=gX.mp h.sb
refine⟨?_,gX.mpr ⟨h.so,b1,λx hx y hy=>h.ob x hx y (by simp[hy])⟩,h.sa,b2,λx hx y hy=>?_,λx hx y hy=>?_,?_⟩
·refine List.Perm.trans ?_ h.pm;rw[gC,gC,gC];refine pH _ ?_;rw[←gC,←gC];exact lD _ lM
·rcases gF.mp hx with hx|hx
 ·exact h.oa x hx y hy
 exact e x hx y hy
·rcases gF.mp hx with hx|hx
 ·exact h.ob x hx y (by simp[hy])
 exact b3 x hx y hy
obtain⟨A',z,e1,e2⟩:=h.la
exact⟨A',z,e1,λy hy=>e2 y (by simp[hy])⟩)
theorem Mg.as(h:Mg κ T O (C++A) B)(n:A≠[])(e:∀x∈C,∀y∈B,κ x≤κ y):Mg κ T (O++C) A B:=by(
obtain⟨b1,b2,b3⟩:=gX.mp h.sa
refine⟨?_,gX.mpr ⟨h.so,b1,λx hx y hy=>h.oa x hx y (by simp[hy])⟩,b2,h.sb,λx hx y hy=>?_,λx hx y hy=>?_,?_⟩
·have:=h.pm;rwa [←gC]at this
·rcases gF.mp hx with hx|hx
 ·exact h.oa x hx y (by simp[hy])
 exact b3 x hx y hy
·rcases gF.mp hx with hx|hx
 ·exact h.ob x hx y hy
 exact e x hx y hy
obtain⟨A',z,e1,e2⟩:=h.la
have hz:A.getLast n=z:=by have h1:(C++A).getLast (by simp[n])=A.getLast n:=List.getLast_append_of_ne_nil _ n;rw[←h1];simp[e1]
exact⟨A.dropLast,z,by rw[←hz];exact(p6 n).symm,e2⟩)
theorem Mg.done(h:Mg κ T O A []):(O++A++[]).Perm T∧(O++A++[]).Pairwise λp q=>κ p≤κ q:=⟨h.pm,by rw[dG];exact gX.mpr ⟨h.so,h.sa,h.oa⟩⟩
theorem Mg.last(h:Mg κ T O [z] B):(O++B++[z]).Perm T∧(O++B++[z]).Pairwise λp q=>κ p≤κ q:=by(
refine⟨List.Perm.trans ?_ h.pm,gX.mpr ⟨gX.mpr ⟨h.so,h.sb,h.ob⟩,by simp,λx hx y hy=>?_⟩⟩
·rw[gC,gC];exact pH _ lM
rw[kC.mp hy]
obtain⟨A',z',e1,e2⟩:=h.la
have:z=z':=by have:=dE List.getLast? e1;simpa using this
rcases gF.mp hx with hx|hx
·exact h.oa x hx z (by simp)
rw[this];exact gJ (e2 x hx))
theorem Mg.b(h:Mg κ T O A (y::B))(e:∀x∈A,κ y≤κ x):Mg κ T (O++[y]) A B:=Mg.bs (C:=[y]) h λy' hy x hx=>by rw[kC.mp hy];exact e x hx
theorem Mg.a(h:Mg κ T O (y::A) B)(n:A≠[])(e:∀x∈B,κ y≤κ x):Mg κ T (O++[y]) A B:=Mg.as (C:=[y]) h n λy' hy x hx=>by rw[kC.mp hy];exact e x hx
end
noncomputable def Ml(a b out:Array Keyed)(i j:Nat):Prop:=Mg ky (a.toList++b.toList) out.toList (a.toList.drop i) (b.toList.drop j)
noncomputable def MFin(a b r:Array Keyed):Prop:=r.toList.Perm (a.toList++b.toList)∧r.toList.Pairwise λp q=>ky p≤ky q
section
variable{a b out:Array Keyed}{i j k:Nat}
theorem vY{a:Array Keyed}{i:Nat}(h:i<a.size):a.toList.drop i=a[i]::a.toList.drop (i+1):=by rw[dS (by simpa using h)];rfl
theorem q7P{a:Array Keyed}{i k:Nat}:a.toList.drop i=(a.extract i (i+k)).toList++a.toList.drop (i+k):=by rw[rZ,gY,nO,←List.drop_drop];exact(wV k _).symm
theorem qEF{a:Array Keyed}{i k:Nat}{x:Keyed}(h:x∈(a.extract i (i+k)).toList):∃n,n<k∧∃l:i+n<a.size,x=a[i+n]:=by(
rw[rZ,gY,nO]at h
obtain⟨n,hn,e⟩:=cD.mp h
rw[gH,dY,kX]at hn
refine⟨n,by lia,by lia,?_⟩
rw[←e,dC,dD]
rfl)
theorem qAG{a:Array Keyed}{i:Nat}:(a.extract i).toList=a.toList.drop i:=by rw[rZ,gY,pC (by simp)]
theorem qBJ{a:Array Keyed}{i:Nat}{x:Keyed}(h:i<a.size)(s:(a.toList.drop i).Pairwise λp q=>ky p≤ky q)(hx:x∈a.toList.drop i):ky a[i]≤ky x:=by(
rw[vY h]at s hx
rcases kI.mp hx with e|hx
·rw[e];exact gE _
exact(gM.mp s).1 x hx)
theorem Ml.pb(h:Ml a b out i j)(hi:i<a.size)(hj:j<b.size)(e:ky b[j]≤ky a[i]):Ml a b (out.push b[j]) i (j+1):=by(
unfold Ml at h ⊢
have sa:=h.sa
rw[vY hj]at h
rw[pD]
exact h.b λx hx=>gZ e (qBJ hi sa hx))
theorem Ml.pa(h:Ml a b out i j)(hi:i+1<a.size)(hj:j<b.size)(e:ky a[i]≤ky b[j]):Ml a b (out.push a[i]) (i+1) j:=by(
unfold Ml at h ⊢
have sb:=h.sb
rw[vY (by lia:i<a.size)]at h
rw[pD]
exact h.a (by rw[vY hi];simp) λx hx=>gZ e (qBJ hj sb hx))
theorem Ml.bs(h:Ml a b out i j)(hi:i<a.size)(e:∀n (l:j+n<b.size),n<k→ky b[j+n]≤ky a[i]):Ml a b (out++b.extract j (j+k)) i (j+k):=by(
unfold Ml at h ⊢
have sa:=h.sa
rw[q7P (a:=b) (i:=j) (k:=k)]at h
rw[g9]
exact h.bs λy hy x hx=>by obtain⟨n,hn,l,rfl⟩:=qEF hy;exact gZ (e n l hn) (qBJ hi sa hx))
theorem Ml.as(h:Ml a b out i j)(hi:i+k<a.size)(hj:j<b.size)(e:∀n (l:i+n<a.size),n<k→ky a[i+n]≤ky b[j]):Ml a b (out++a.extract i (i+k)) (i+k) j:=by(
unfold Ml at h ⊢
have sb:=h.sb
rw[q7P (a:=a) (i:=i) (k:=k)]at h
rw[g9]
exact h.as (by rw[vY hi];simp) λy hy x hx=>by obtain⟨n,hn,l,rfl⟩:=qEF hy;exact gZ (e n l hn) (qBJ hj sb hx))
theorem Ml.done(h:Ml a b out i j)(hj:j=b.size):MFin a b (out++a.extract i++b.extract j):=by(
unfold Ml at h
have e:b.toList.drop j=[]:=by rw[hj];simp
have eb:(b.extract j).toList=[]:=by rw[hj];simp
rw[e]at h
have:=h.done
have ea:(a.extract i).toList=a.toList.drop i:=qAG
unfold MFin
rw[g9,g9,ea,eb]
exact this)
theorem Ml.last(h:Ml a b out i j)(hi:i+1=a.size):MFin a b (out++b.extract j++a.extract i):=by(
unfold Ml at h
have e:a.toList.drop i=[a[i]'(by lia)]:=by rw[vY (by lia),hi];simp
have ea:(a.extract i).toList=a.toList.drop i:=qAG
have eb:(b.extract j).toList=b.toList.drop j:=qAG
rw[e]at h
unfold MFin
rw[g9,g9,ea,eb,e]
exact h.last)
end
noncomputable def ml':Array Keyed→Array Keyed→StateT SortSt Sem (Array Keyed):=sortPriv%PySem.Builtin.mergeLo
noncomputable def Sg(st st':SortSt):Prop:=kindOf st'=kindOf st∧arrOf st'=arrOf st∧pendingOf st'=pendingOf st∧failedOf st'=failedOf st
theorem q7Q{a:Array Keyed}{i:Nat}(h:(a.toList.drop i).Pairwise λp q=>ky p≤ky q){m n:Nat}(im:i≤m)(mn:m≤n)(hn:n<a.size):ky a[m]≤ky a[n]:=by(
by_cases z:m=n
·subst z;exact gE _
have:=mZ.mp h (m-i) (n-i) (by rw[dY,kX];lia) (by rw[dY,kX];lia) (by lia)
rw[dD,dD]at this
have e1:i+(m-i)=m:=by lia
have e2:i+(n-i)=n:=by lia
simpa[e1,e2]using this)
theorem Ml.lst{a b out:Array Keyed}{i j:Nat}(h:Ml a b out i j)(hi:i<a.size)(hj:j<b.size):ky b[j] <ky a[a.size-1]:=by(
obtain⟨A',z,e1,e2⟩:=h.la
have e3:(a.toList.drop i).getLast?=some z:=by rw[e1];simp
have e4:(a.toList.drop i).getLast?=some a[a.size-1]:=by rw[List.getLast?_drop,hC (by simp;lia),List.getLast?_eq_getElem?,kX,kD (by simp;lia)];rfl
rw[e4]at e3
have:=e2 b[j] (by rw[vY hj];simp)
rwa [←kW e3]at this)
section
variable{prog:Program}{w:World}{A:Around}{E:Value→Shared→Prop}{s:Shared}
theorem gl_s{st:SortSt}{l:Bool}{q:Keyed}{arr:Array Keyed}{base n hint:Nat}{Q:Option Nat→SortSt→Prop}(hk:kindOf st=oneType')(hh:hint<n)(hn:base+n≤arr.size)(kq:IsK q)(ka:∀i (h:i<arr.size),IsK arr[i])
 (so:∀m m' (h:m'<arr.size) (mm:m≤m'),base≤m→m'<base+n→ky arr[m]≤ky arr[m'])
 (h:∀r,r≤n→(∀i (h:base+i<arr.size),i<r→byd l q arr[base+i]=true)→(∀i (h:base+i<arr.size),r≤i→i<n→byd l q arr[base+i]=false)→Q (some r) st):wpS (model prog w) A E s (gl' l q arr base n hint) Q st:=by(
refine qK1 hk hh hn kq ka (λi=>if h:base+i<arr.size then byd l q arr[base+i]else false) (λi h _=>by rw[dif_pos h]) (λi j ij hj e=>?_) λr hr h1 h2=>h r hr (λi hi ir=>?_) (λi hi ri hn=>?_)
·rw[dif_pos (by lia:base+j<arr.size)]at e;rw[dif_pos (by lia:base+i<arr.size)];have:=so (base+i) (base+j) (by lia) (by lia) (by lia) (by lia);unfold byd at e ⊢;cases l with
 |true=>rw[hU rfl,kQ]at e ⊢;lia
 |false=>rw[hC (by simp),dN,dM]at e ⊢;lia
·have:=h1 i ir;rwa [dif_pos hi]at this
have:=h2 i ri hn
rwa [dif_pos hi]at this)
theorem q5N{q p:Keyed}:(byd false q p=true↔ky p≤ky q)∧(byd false q p=false↔ky q<ky p):=by unfold byd;simp
theorem vZ{q p:Keyed}:(byd true q p=true↔ky p<ky q)∧(byd true q p=false↔ky q≤ky p):=by unfold byd;simp
theorem qK2{st:SortSt}{a b:Array Keyed}{Q:Array Keyed→SortSt→Prop}(hk:kindOf st=oneType')(ka:∀i (h:i<a.size),IsK a[i])(kb:∀i (h:i<b.size),IsK b[i])(h0:Ml a b #[] 0 0)(na:0<a.size)(nb:0<b.size)(e0:ky b[0]≤ky a[0])
 (h:∀r st',MFin a b r→Sg st st'→Q r st'):wpS (model prog w) A E s (ml' a b) Q st:=by(
have h1:=h0.pb na nb e0
unfold ml'
refine kL (sP (cS ⟨rfl,?_⟩))
refine kL (jU nb ?_)
dsimp only
by_cases z1:0+1=b.size
·rw[hU (by simpa using z1)];exact kP (h _ _ (h1.done z1) ⟨rfl,rfl,rfl,rfl⟩)
rw[hC (by simpa using z1)]
by_cases z2:0+1=a.size
·rw[hU (by simpa using z2)];exact kP (h _ _ (h1.last z2) ⟨rfl,rfl,rfl,rfl⟩)
rw[hC (by simpa using z2)]
refine kL (wM ?_)
generalize hT:a.size+b.size=tot
refine kL (rB (gS (I:=λx c st'=>Sg st st'∧∃out i j mg,c=(none,out,i,j,mg)∧Ml a b out i j∧i+1<a.size∧j<b.size∧x+1≤i+j) (Q:=λc st'=>Sg st st'∧∃r y,c=(some r,y)∧MFin a b r) ?_ ?_ ⟨⟨rfl,rfl,rfl,rfl⟩,_,0,1,_,rfl,h1,by lia,by lia,by lia⟩) ?_)
rotate_left
·rintro c st' ⟨_,out,i,j,mg,rfl,_,l1,l2,l3⟩
 exact absurd l3 (by lia)
·rintro c st' ⟨sg,r,y,rfl,m⟩
 exact kP (h _ _ m sg)
rintro x c st' _ hx ⟨sg,out,i,j,mg,rfl,m,l1,l2,l3⟩
dsimp only
refine kL (rB (gS (I:=λx1 c st'=>Sg st st'∧∃out i j ac bc,c=(none,out,i,j,ac,bc)∧Ml a b out i j∧i+1<a.size∧j<b.size∧x+1+x1≤i+j) (Q:=λc st'=>Sg st st'∧((∃r y,c=(some r,y)∧MFin a b r)∨∃out i j ac bc,c=(none,out,i,j,ac,bc)∧Ml a b out i j∧i+1<a.size∧j<b.size∧x+2≤i+j)) ?_ ?_ ⟨sg,out,i,j,0,0,rfl,m,l1,l2,l3⟩) ?_)
·skip
 rintro x1 c st' _ hx1 ⟨sg,out,i,j,ac,bc,rfl,m,l1,l2,l3⟩
 dsimp only;refine kL (jU l2 (kL (jU (by lia:i<a.size) (kL (qBH (sg.1.trans hk) (kb _ l2) (ka _ (by lia)) ?_)))));dsimp only;by_cases y:ky b[j] <ky a[i]
 ·rw[hU (by simpa using y)];refine kL (jU l2 ?_);have m':=m.pb (by lia) l2 (gJ y);by_cases z:j+1=b.size
  ·rw[hU (by simpa using z)];exact kP ⟨sg,.inl ⟨_,_,rfl,m'.done z⟩⟩
  rw[hC (by simpa using z)];by_cases z':bc+1≥mg
  ·rw[hU z'];exact kP ⟨sg,.inr ⟨_,_,_,_,_,rfl,m',l1,by lia,by lia⟩⟩
  rw[hC z'];exact kP ⟨sg,_,_,_,_,_,rfl,m',l1,by lia,by lia⟩
 rw[hC (by simpa using y)];refine kL (jU (by lia:i<a.size) ?_);have m':=m.pa l1 l2 (pN.mp y);by_cases z:i+1+1=a.size
 ·rw[hU (by simpa using z)];exact kP ⟨sg,.inl ⟨_,_,rfl,m'.last z⟩⟩
 rw[hC (by simpa using z)];by_cases z':ac+1≥mg
 ·rw[hU z'];exact kP ⟨sg,.inr ⟨_,_,_,_,_,rfl,m',by lia,l2,by lia⟩⟩
 rw[hC z'];exact kP ⟨sg,_,_,_,_,_,rfl,m',by lia,l2,by lia⟩
·rintro c st' ⟨_,out,i,j,ac,bc,rfl,_,l1,l2,l3⟩
 exact absurd l3 (by lia)
rintro c st' ⟨sg,⟨r,y,rfl,m⟩|⟨out,i,j,ac,bc,rfl,m,l1,l2,l3⟩⟩
·exact kP ⟨sg,r,_,rfl,m⟩
dsimp only
refine kL (sP (cS ⟨rfl,?_⟩))
refine kL (rB (gS (I:=λx1 c st'=>Sg st st'∧∃out i j mg ac bc,c=(none,out,i,j,mg,ac,bc)∧Ml a b out i j∧i+1<a.size∧j<b.size∧x+2≤i+j) (Q:=λc st'=>Sg st st'∧((∃r y,c=(some r,y)∧MFin a b r)∨∃out i j mg ac bc,c=(none,out,i,j,mg,ac,bc)∧Ml a b out i j∧i+1<a.size∧j<b.size∧x+2≤i+j)) ?_ ?_ ⟨sg,out,i,j,_,ac,bc,rfl,m,l1,l2,l3⟩) ?_)
rotate_left
·rintro c st' ⟨sg,w⟩
 exact⟨sg,.inr w⟩
·skip
 rintro c st' ⟨sg,⟨r,y,rfl,m⟩|⟨out,i,j,mg,ac,bc,rfl,m,l1,l2,l3⟩⟩
 ·exact kP ⟨sg,r,_,rfl,m⟩
 dsimp only;exact kL (d7 (kP ⟨sg,_,_,_,_,rfl,m,l1,l2,l3⟩))
rintro x1 c st' _ hx1 ⟨sg,out,i,j,mg,ac,bc,rfl,m,l1,l2,l3⟩
dsimp only
by_cases zg:mg>1
all_goals first|rw[hU zg] |rw[hC zg]
all_goals
 refine kL (d7 (kL (jU l2 (kL (gl_s (sg.1.trans hk) (by lia:0<a.size-i) (by lia) (kb _ l2) ka (λm1 m2 hm mm im _=>q7Q m.sa im mm hm) λk hk1 hk2 hk3=>?_)))));dsimp only;have kl:i+k+1≤a.size:=by
  have:=m.lst (by lia) l2;by_cases z:i+k+1≤a.size
  ·exact z
  have y:=q5N.1.mp (hk2 (a.size-1-i) (by lia) (by lia));have e:i+(a.size-1-i)=a.size-1:=by lia
  simp only[e]at y;lia
 have ge:∀n (h:i+n<a.size),n<k→ky a[i+n]≤ky b[j]:=λn h hn=>q5N.1.mp (hk2 n h hn);have lt:∀h:i+k<a.size,ky b[j] <ky (a[i+k]'h):=λh=>q5N.2.mp (hk3 k h (kJ _) (by lia));by_cases zk:k>0
 ·rw[hU zk];have m2:=m.as (k:=k) (by lia) l2 ge;by_cases z3:i+k+1=a.size
  ·rw[hU (by simpa using z3)];exact kP ⟨sg,.inl ⟨_,_,rfl,m2.last z3⟩⟩
  rw[hC (by simpa using z3),hC (by simp;lia)];have l1':i+k+1<a.size:=by lia
  have l3':x+2≤i+k+j:=by lia
  clear ge hk2 hk3 m l1 l3;generalize out++a.extract i (i+k)=o2 at m2 ⊢;generalize i+k=i2 at m2 l1' l3' lt kl z3 ⊢;refine kL (jU l2 ?_);have m3:=m2.pb (by lia) l2 (gJ (lt (by lia)));by_cases z4:j+1=b.size
  ·rw[hU (by simpa using z4)];exact kP ⟨sg,.inl ⟨_,_,rfl,m3.done z4⟩⟩
  rw[hC (by simpa using z4)];refine kL (jU (by lia) (kL (gl_s (sg.1.trans hk) (by lia:0<b.size-(j+1)) (by lia) (ka _ (by lia)) kb (λm1 m2 hm mm im _=>q7Q m3.sb im mm hm) λk2 hk1 hk2 hk3=>?_)));dsimp only;have ge2:∀n (h:j+1+n<b.size),n<k2→ky b[j+1+n]≤ky (a[i2]'(by lia)):=λn h hn=>gJ (vZ.1.mp (hk2 n h hn));by_cases zk2:k2>0
  ·rw[hU zk2];have m4:=m3.bs (k:=k2) (by lia) ge2;by_cases z5:j+1+k2=b.size
   ·rw[hU (by simpa using z5)];exact kP ⟨sg,.inl ⟨_,_,rfl,m4.done z5⟩⟩
   rw[hC (by simpa using z5)];refine kL (jU (by lia) ?_);have m5:=m4.pa (by lia) (by lia) (vZ.2.mp (hk3 k2 (by lia) (kJ _) (by lia)));by_cases z6:i2+1+1=a.size
   ·rw[hU (by simpa using z6)];exact kP ⟨sg,.inl ⟨_,_,rfl,m5.last z6⟩⟩
   rw[hC (by simpa using z6)];split
   ·exact kP ⟨sg,.inr ⟨_,_,_,_,_,_,rfl,m5,by lia,by lia,by lia⟩⟩
   exact kP ⟨sg,_,_,_,_,_,_,rfl,m5,by lia,by lia,by lia⟩
  rw[hC zk2];obtain rfl:k2=0:=by lia
  refine kL (jU (by lia) ?_);have m5:=m3.pa (by lia) (by lia) (vZ.2.mp (hk3 0 (by lia) (kJ _) (by lia)));by_cases z6:i2+1+1=a.size
  ·rw[hU (by simpa using z6)];exact kP ⟨sg,.inl ⟨_,_,rfl,m5.last z6⟩⟩
  rw[hC (by simpa using z6)];split
  ·exact kP ⟨sg,.inr ⟨_,_,_,_,_,_,rfl,m5,by lia,by lia,by lia⟩⟩
  exact kP ⟨sg,_,_,_,_,_,_,rfl,m5,by lia,by lia,by lia⟩
 rw[hC zk];obtain rfl:k=0:=by lia
 have m2:=m;have l1':=l1;have l3':=l3;refine kL (jU l2 ?_);have m3:=m2.pb (by lia) l2 (gJ (lt (by lia)));by_cases z4:j+1=b.size
 ·rw[hU (by simpa using z4)];exact kP ⟨sg,.inl ⟨_,_,rfl,m3.done z4⟩⟩
 rw[hC (by simpa using z4)];refine kL (jU (by lia) (kL (gl_s (sg.1.trans hk) (by lia:0<b.size-(j+1)) (by lia) (ka _ (by lia)) kb (λm1 m2 hm mm im _=>q7Q m3.sb im mm hm) λk2 hk1 hk2 hk3=>?_)));dsimp only;have ge2:∀n (h:j+1+n<b.size),n<k2→ky b[j+1+n]≤ky (a[i]'(by lia)):=λn h hn=>gJ (vZ.1.mp (hk2 n h hn));by_cases zk2:k2>0
 ·rw[hU zk2];have m4:=m3.bs (k:=k2) (by lia) ge2;by_cases z5:j+1+k2=b.size
  ·rw[hU (by simpa using z5)];exact kP ⟨sg,.inl ⟨_,_,rfl,m4.done z5⟩⟩
  rw[hC (by simpa using z5)];refine kL (jU (by lia) ?_);have m5:=m4.pa (by lia) (by lia) (vZ.2.mp (hk3 k2 (by lia) (kJ _) (by lia)));by_cases z6:i+1+1=a.size
  ·rw[hU (by simpa using z6)];exact kP ⟨sg,.inl ⟨_,_,rfl,m5.last z6⟩⟩
  rw[hC (by simpa using z6)];split
  ·exact kP ⟨sg,.inr ⟨_,_,_,_,_,_,rfl,m5,by lia,by lia,by lia⟩⟩
  exact kP ⟨sg,_,_,_,_,_,_,rfl,m5,by lia,by lia,by lia⟩
 rw[hC zk2];obtain rfl:k2=0:=by lia
 refine kL (jU (by lia) ?_);have m5:=m3.pa (by lia) (by lia) (vZ.2.mp (hk3 0 (by lia) (kJ _) (by lia)));by_cases z6:i+1+1=a.size
 ·rw[hU (by simpa using z6)];exact kP ⟨sg,.inl ⟨_,_,rfl,m5.last z6⟩⟩
 rw[hC (by simpa using z6)];split
 ·exact kP ⟨sg,.inr ⟨_,_,_,_,_,_,rfl,m5,by lia,by lia,by lia⟩⟩
 exact kP ⟨sg,_,_,_,_,_,_,rfl,m5,by lia,by lia,by lia⟩)
end
noncomputable def mh':Array Keyed→Array Keyed→StateT SortSt Sem (Array Keyed):=sortPriv%PySem.Builtin.mergeHi
noncomputable def Mh(a b out:Array Keyed)(i j:Nat):Prop:=Mg (λp=>-ky p) (a.toList++b.toList) out.toList (b.toList.take j).reverse (a.toList.take i).reverse
section
variable{a b out:Array Keyed}{i j k:Nat}
theorem q0G{a:Array Keyed}{i:Nat}(h:i<a.size):(a.toList.take (i+1)).reverse=a[i]::(a.toList.take i).reverse:=by rw[pE (by simpa using h),sE];rfl
theorem qEG{a:Array Keyed}{i k:Nat}(h:i≤k):(a.toList.take k).reverse=(a.extract i k).reverse.toList++(a.toList.take i).reverse:=by(
rw[pT,rZ,gY,←sE]
congr 1
have e:k=i+(k-i):=by lia
conv=>lhs;rw[e,List.take_add])
theorem q7R{a:Array Keyed}{i:Nat}{x:Keyed}(h:i<a.size)(s:(a.toList.take (i+1)).reverse.Pairwise λp q=>-ky p≤-ky q)(hx:x∈(a.toList.take (i+1)).reverse):ky x≤ky a[i]:=by(
rw[q0G h]at s hx
rcases kI.mp hx with e|hx
·rw[e];exact gE _
have:=(gM.mp s).1 x hx
lia)
theorem q7S{a:Array Keyed}{i k:Nat}{x:Keyed}(h:x∈(a.extract i k).reverse.toList):∃n,i≤n∧n<k∧∃l:n<a.size,x=a[n]:=by(
rw[pT,nP,rZ,gY]at h
obtain⟨n,hn,e⟩:=cD.mp h
rw[gH,dY,kX]at hn
refine⟨i+n,by lia,by lia,by lia,?_⟩
rw[←e,dC,dD]
rfl)
theorem Mh.pa(h:Mh a b out (i+1) (j+1))(hi:i<a.size)(hj:j<b.size)(e:ky b[j]≤ky a[i]):Mh a b (out.push a[i]) i (j+1):=by(
unfold Mh at h ⊢
have sa:=h.sa
rw[q0G hi]at h
rw[pD]
exact h.b λx hx=>by have:=q7R hj sa hx;show-ky a[i]≤-ky x;lia)
theorem Mh.pb(h:Mh a b out (i+1) (j+1+1))(hi:i<a.size)(hj:j+1<b.size)(e:ky a[i]≤ky b[j+1]):Mh a b (out.push b[j+1]) (i+1) (j+1):=by(
unfold Mh at h ⊢
have sb:=h.sb
rw[q0G hj]at h
rw[pD]
exact h.a (by rw[q0G (by lia)];simp) λx hx=>by have:=q7R hi sb hx;show-ky b[j+1]≤-ky x;lia)
theorem Mh.as(h:Mh a b out k (j+1))(ik:i≤k)(hj:j<b.size)(e:∀n (l:n<a.size),i≤n→n<k→ky b[j]≤ky a[n]):Mh a b (out++(a.extract i k).reverse) i (j+1):=by(
unfold Mh at h ⊢
have sa:=h.sa
rw[qEG ik]at h
rw[g9]
exact h.bs λy hy x hx=>by obtain⟨n,h1,h2,l,rfl⟩:=q7S hy;have:=e n l h1 h2;have:=q7R hj sa hx;show-ky a[n]≤-ky x;lia)
theorem Mh.bs(h:Mh a b out (i+1) k)(jk:j+1≤k)(hi:i<a.size)(hj:j<b.size)(e:∀n (l:n<b.size),j+1≤n→n<k→ky a[i]≤ky b[n]):Mh a b (out++(b.extract (j+1) k).reverse) (i+1) (j+1):=by(
unfold Mh at h ⊢
have sb:=h.sb
rw[qEG jk]at h
rw[g9]
exact h.as (by rw[q0G hj];simp) λy hy x hx=>by obtain⟨n,h1,h2,l,rfl⟩:=q7S hy;have:=e n l h1 h2;have:=q7R hi sb hx;show-ky b[n]≤-ky x;lia)
theorem qEH{T R:List Keyed}{r:Array Keyed}(e:r.toList=R.reverse)(h:R.Perm (a.toList++b.toList)∧R.Pairwise λp q=>-ky p≤-ky q):MFin a b r:=by unfold MFin;rw[e];exact⟨(x6 R).trans h.1,rO.mpr (h.2.imp λz=>by lia)⟩
theorem Mh.done(h:Mh a b out i j)(hi:i=0):MFin a b (a.extract 0 i++b.extract 0 j++out.reverse):=by(
unfold Mh at h
subst hi
have e:(a.toList.take 0).reverse=[]:=by simp
rw[e]at h
refine qEH (T:=[]) (R:=out.toList++(b.toList.take j).reverse++[]) ?_ h.done
simp[gY])
theorem Mh.last(h:Mh a b out i j)(hj:j=1)(hb:0<b.size):MFin a b (b.extract 0 j++a.extract 0 i++out.reverse):=by(
unfold Mh at h
subst hj
have e:(b.toList.take 1).reverse=[b[0]]:=by rw[q0G hb];simp
rw[e]at h
refine qEH (T:=[]) (R:=out.toList++(a.toList.take i).reverse++[b[0]]) ?_ h.last
have e2:b.toList.take 1=[b[0]]:=by have:=dE List.reverse e;simpa using this
simp[gY,e2])
theorem Mh.fst(h:Mh a b out (i+1) (j+1))(hi:i<a.size)(hb:0<b.size):ky b[0] <ky a[i]:=by(
obtain⟨A',z,e1,e2⟩:=h.la
have e3:(b.toList.take (j+1)).head?=some z:=by rw[←List.getLast?_reverse,e1];simp
have e4:(b.toList.take (j+1)).head?=some b[0]:=by rw[List.head?_take,hC (by lia),List.head?_eq_getElem?,kD (by simpa using hb)];rfl
rw[e4]at e3
have:=e2 a[i] (by rw[q0G hi];simp)
rw[←kW e3]at this
lia)
theorem q7T{a:Array Keyed}{i:Nat}(h:(a.toList.take i).reverse.Pairwise λp q=>-ky p≤-ky q){m n:Nat}(mn:m≤n)(hi:n<i)(hn:n<a.size):ky a[m]≤ky a[n]:=by(
by_cases z:m=n
·subst z;exact gE _
have:=mZ.mp (rO.mp h) m n (by rw[gH,kX];lia) (by rw[gH,kX];lia) (by lia)
rw[dC,dC]at this
have this:-ky a[n]≤-ky a[m]:=this
lia)
end
section
variable{prog:Program}{w:World}{A:Around}{E:Value→Shared→Prop}{s:Shared}
theorem qK3{st:SortSt}{a b:Array Keyed}{Q:Array Keyed→SortSt→Prop}(hk:kindOf st=oneType')(ka:∀i (h:i<a.size),IsK a[i])(kb:∀i (h:i<b.size),IsK b[i])(h0:Mh a b #[] a.size b.size)(na:0<a.size)(nb:0<b.size)(e0:ky b[b.size-1]≤ky a[a.size-1])
 (h:∀r st',MFin a b r→Sg st st'→Q r st'):wpS (model prog w) A E s (mh' a b) Q st:=by(
have ea:a.size=a.size-1+1:=by lia
have eb:b.size=b.size-1+1:=by lia
have h1:Mh a b (#[].push (a[a.size-1]'(by lia))) (a.size-1) b.size:=by
 have h0':Mh a b #[] (a.size-1+1) (b.size-1+1):=by rw[←ea,←eb];exact h0
 have:=h0'.pa (by lia) (by lia) e0;rwa [←eb]at this
unfold mh'
refine kL (sP (cS ⟨rfl,?_⟩))
refine kL (jU (by lia) ?_)
dsimp only
by_cases z1:a.size-1=0
·rw[hU (by simpa using z1)];exact kP (h _ _ (h1.done z1) ⟨rfl,rfl,rfl,rfl⟩)
rw[hC (by simpa using z1)]
by_cases z2:b.size=1
·rw[hU (by simpa using z2)];exact kP (h _ _ (h1.last z2 nb) ⟨rfl,rfl,rfl,rfl⟩)
rw[hC (by simpa using z2)]
refine kL (wM ?_)
generalize hT:a.size+b.size=tot
refine kL (rB (gS (I:=λx c st'=>Sg st st'∧∃out i j mg,c=(none,i+1,j+2,out,mg)∧Mh a b out (i+1) (j+2)∧i<a.size∧j+1<b.size∧x+1+(i+1)+(j+2)≤tot) (Q:=λc st'=>Sg st st'∧∃r y,c=(some r,y)∧MFin a b r) ?_ ?_ ⟨⟨rfl,rfl,rfl,rfl⟩,_,a.size-2,b.size-2,_,by rw[show a.size-2+1=a.size-1 by lia,show b.size-2+2=b.size by lia],by rw[show a.size-2+1=a.size-1 by lia,show b.size-2+2=b.size by lia];exact h1,by lia,by lia,by lia⟩) ?_)
rotate_left
·rintro c st' ⟨_,out,i,j,mg,rfl,_,l1,l2,l3⟩
 exact absurd l3 (by lia)
·rintro c st' ⟨sg,r,y,rfl,m⟩
 exact kP (h _ _ m sg)
rintro x c st' _ hx ⟨sg,out,i,j,mg,rfl,m,l1,l2,l3⟩
dsimp only
refine kL (rB (gS (I:=λx1 c st'=>Sg st st'∧∃out i j ac bc,c=(none,i+1,j+2,out,ac,bc)∧Mh a b out (i+1) (j+2)∧i<a.size∧j+1<b.size∧x+1+x1+(i+1)+(j+2)≤tot) (Q:=λc st'=>Sg st st'∧((∃r y,c=(some r,y)∧MFin a b r)∨∃out i j ac bc,c=(none,i+1,j+2,out,ac,bc)∧Mh a b out (i+1) (j+2)∧i<a.size∧j+1<b.size∧x+2+(i+1)+(j+2)≤tot)) ?_ ?_ ⟨sg,out,i,j,0,0,rfl,m,l1,l2,l3⟩) ?_)
·rintro x1 c st' _ hx1 ⟨sg,out,i,j,ac,bc,rfl,m,l1,l2,l3⟩
 dsimp only;refine kL (jU (i:=j+1) l2 (kL (jU (i:=i) l1 (kL (qBH (sg.1.trans hk) (kb _ l2) (ka _ l1) ?_)))));dsimp only;by_cases y:ky b[j+1] <ky a[i]
 ·rw[hU (hG y)];refine kL (jU (i:=i) l1 ?_);have m':=m.pa (j:=j+1) l1 l2 (gJ y);by_cases z:i=0
  ·rw[hU (by simpa using z)];exact kP ⟨sg,.inl ⟨_,_,rfl,m'.done z⟩⟩
  rw[hC (by simpa using z)];obtain⟨i,rfl⟩:∃n,i=n+1:=⟨i-1,by lia⟩;by_cases z':ac+1≥mg
  ·rw[hU z'];exact kP ⟨sg,.inr ⟨_,i,j,_,_,rfl,m',by lia,by lia,by lia⟩⟩
  rw[hC z'];exact kP ⟨sg,_,i,j,_,_,rfl,m',by lia,by lia,by lia⟩
 rw[hC (λq=>y (mF q))];refine kL (jU (i:=j+1) l2 ?_);have m':=m.pb (j:=j) l1 l2 (pN.mp y);by_cases z:j+1=1
 ·rw[hU (by simpa using z)];exact kP ⟨sg,.inl ⟨_,_,rfl,m'.last z nb⟩⟩
 rw[hC (by simpa using z)];obtain⟨j,rfl⟩:∃n,j=n+1:=⟨j-1,by lia⟩;by_cases z':bc+1≥mg
 ·rw[hU z'];exact kP ⟨sg,.inr ⟨_,i,j,_,_,rfl,m',by lia,by lia,by lia⟩⟩
 rw[hC z'];exact kP ⟨sg,_,i,j,_,_,rfl,m',by lia,by lia,by lia⟩
·rintro c st' ⟨_,out,i,j,ac,bc,rfl,_,l1,l2,l3⟩
 exact absurd l3 (by lia)
rintro c st' ⟨sg,⟨r,y,rfl,m⟩|⟨out,i,j,ac,bc,rfl,m,l1,l2,l3⟩⟩
·exact kP ⟨sg,r,_,rfl,m⟩
dsimp only
refine kL (sP (cS ⟨rfl,?_⟩))
refine kL (rB (gS (I:=λx1 c st'=>Sg st st'∧∃out i j mg ac bc,c=(none,i+1,j+2,out,mg,ac,bc)∧Mh a b out (i+1) (j+2)∧i<a.size∧j+1<b.size∧x+2+(i+1)+(j+2)≤tot) (Q:=λc st'=>Sg st st'∧((∃r y,c=(some r,y)∧MFin a b r)∨∃out i j mg ac bc,c=(none,i+1,j+2,out,mg,ac,bc)∧Mh a b out (i+1) (j+2)∧i<a.size∧j+1<b.size∧x+2+(i+1)+(j+2)≤tot)) ?_ ?_ ⟨sg,out,i,j,_,ac,bc,rfl,m,l1,l2,l3⟩) ?_)
rotate_left
·rintro c st' ⟨sg,w⟩
 exact⟨sg,.inr w⟩
·rintro c st' ⟨sg,⟨r,y,rfl,m⟩|⟨out,i,j,mg,ac,bc,rfl,m,l1,l2,l3⟩⟩
 ·exact kP ⟨sg,r,_,rfl,m⟩
 dsimp only;exact kL (d7 (kP ⟨sg,_,_,_,_,rfl,m,l1,l2,by lia⟩))
rintro x1 c st' _ hx1 ⟨sg,out,i,j,mg,ac,bc,rfl,m,l1,l2,l3⟩
dsimp only
by_cases zg:mg>1
all_goals first|rw[hU zg] |rw[hC zg]
all_goals
 refine kL (d7 (kL (jU (i:=j+1) l2 (kL (gl_s (n:=i+1) (hint:=i) (base:=0) (sg.1.trans hk) (by lia) (by lia) (kb _ l2) ka (λm1 m2 hm mm im hi=>q7T m.sb mm (by lia) hm) λk hk1 hk2 hk3=>?_)))));dsimp only;have ge:∀n (l:n<a.size),n<k→ky a[n]≤ky b[j+1]:=λn h hn=>by have:=q5N.1.mp (hk2 n (by lia) hn);simpa using this
 have lt:∀n (l:n<a.size),k≤n→n<i+1→ky b[j+1]≤ky a[n]:=λn h hn hi=>by
  have:=q5N.2.mp (hk3 n (by lia) hn hi);have this:ky b[j+1] <ky a[n]:=by simpa using this
  exact gJ this
 by_cases zk:i+1-k>0
 ·rw[hU zk];have m2:=m.as (j:=j+1) (i:=k) (by lia) l2 (λn l h1 h2=>lt n l h1 h2);by_cases z3:k=0
  ·rw[hU (by simpa using z3)];exact kP ⟨sg,.inl ⟨_,_,rfl,m2.done z3⟩⟩
  rw[hC (by simpa using z3)];have l1':k-1<a.size:=by lia
  have l3':x+2+(k-1+1)+(j+2)≤tot:=by lia
  have e:ky (a[k-1]'l1')≤ky b[j+1]:=ge _ l1' (by lia);have m2:Mh a b (out++(a.extract k (i+1)).reverse) (k-1+1) (j+2):=by rw[show k-1+1=k by lia];exact m2
  clear ge lt hk2 hk3;generalize out++(a.extract k (i+1)).reverse=o2 at m2 ⊢;obtain⟨i2,rfl⟩:∃n,k=n+1:=⟨k-1,by lia⟩;have e:ky (a[i2]'l1')≤ky b[j+1]:=e;have m2:Mh a b o2 (i2+1) (j+2):=m2;have l1':i2<a.size:=l1';have l3':x+2+(i2+1)+(j+2)≤tot:=l3';refine kL (jU (i:=j+1) l2 ?_);have m3:=m2.pb (j:=j) l1' l2 e;by_cases z4:j+1=1
  ·rw[hU (by simpa using z4)];exact kP ⟨sg,.inl ⟨_,_,rfl,m3.last z4 nb⟩⟩
  rw[hC (by simpa using z4)];obtain⟨j,rfl⟩:∃n,j=n+1:=⟨j-1,by lia⟩;refine kL (jU (i:=i2) l1' (kL (gl_s (n:=j+2) (hint:=j+1) (base:=0) (sg.1.trans hk) (by lia) (by lia) (ka _ l1') kb (λm1 m2 hm mm im hi=>q7T m3.sa mm (by lia) hm) λk2 hk1 hk2 hk3=>?_)));dsimp only;have fs:=m3.fst l1' nb;have k20:0<k2:=by
   by_cases z:0<k2
   ·exact z
   have:=vZ.2.mp (hk3 0 (by lia) (by lia) (by lia));have this:ky a[i2]≤ky b[0]:=by simpa using this
   lia
  have lt2:∀n (l:n<b.size),k2≤n→n<j+2→ky a[i2]≤ky b[n]:=λn h hn hi=>by have:=vZ.2.mp (hk3 n (by lia) hn hi);simpa using this
  have ge2:∀n (l:n<b.size),n<k2→ky b[n]≤ky a[i2]:=λn h hn=>by
   have:=vZ.1.mp (hk2 n (by lia) hn);have this:ky b[n] <ky a[i2]:=by simpa using this
   exact gJ this
  rw[show j+1+2-1=j+2 from rfl];by_cases zk2:j+2-k2>0
  ·rw[hU zk2];obtain⟨j2,rfl⟩:∃n,k2=n+1:=⟨k2-1,by lia⟩;have m4:=m3.bs (j:=j2) (by lia) l1' (by lia) lt2;by_cases z5:j2+1=1
   ·rw[hU (by simpa using z5)];exact kP ⟨sg,.inl ⟨_,_,rfl,m4.last z5 nb⟩⟩
   rw[hC (by simpa using z5),hC (by simp)];refine kL (jU (i:=i2) l1' ?_);have m5:=m4.pa l1' (by lia) (ge2 j2 (by lia) (by lia));by_cases z6:i2=0
   ·rw[hU (by simpa using z6)];exact kP ⟨sg,.inl ⟨_,_,rfl,m5.done z6⟩⟩
   rw[hC (by simpa using z6)];obtain⟨i2,rfl⟩:∃n,i2=n+1:=⟨i2-1,by lia⟩;obtain⟨j2,rfl⟩:∃n,j2=n+1:=⟨j2-1,by lia⟩;split
   ·exact kP ⟨sg,.inr ⟨_,i2,j2,_,_,_,rfl,m5,by lia,by lia,by lia⟩⟩
   exact kP ⟨sg,_,i2,j2,_,_,_,rfl,m5,by lia,by lia,by lia⟩
  rw[hC zk2];refine kL (jU (i:=i2) l1' ?_);have m5:=m3.pa l1' (by lia) (ge2 (j+1) (by lia) (by lia));by_cases z6:i2=0
  ·rw[hU (by simpa using z6)];exact kP ⟨sg,.inl ⟨_,_,rfl,m5.done z6⟩⟩
  rw[hC (by simpa using z6)];obtain⟨i2,rfl⟩:∃n,i2=n+1:=⟨i2-1,by lia⟩;split
  ·exact kP ⟨sg,.inr ⟨_,i2,j,_,_,_,rfl,m5,by lia,by lia,by lia⟩⟩
  exact kP ⟨sg,_,i2,j,_,_,_,rfl,m5,by lia,by lia,by lia⟩
 rw[hC zk];have m2:=m;have l1':=l1;have l3':=l3;have e:ky a[i]≤ky b[j+1]:=ge _ l1' (by lia);refine kL (jU (i:=j+1) l2 ?_);have m3:=m2.pb (j:=j) l1' l2 e;by_cases z4:j+1=1
 ·rw[hU (by simpa using z4)];exact kP ⟨sg,.inl ⟨_,_,rfl,m3.last z4 nb⟩⟩
 rw[hC (by simpa using z4)];obtain⟨j,rfl⟩:∃n,j=n+1:=⟨j-1,by lia⟩;refine kL (jU (i:=i) l1' (kL (gl_s (n:=j+2) (hint:=j+1) (base:=0) (sg.1.trans hk) (by lia) (by lia) (ka _ l1') kb (λm1 m2 hm mm im hi=>q7T m3.sa mm (by lia) hm) λk2 hk1 hk2 hk3=>?_)));dsimp only;have fs:=m3.fst l1' nb;have k20:0<k2:=by
  by_cases z:0<k2
  ·exact z
  have:=vZ.2.mp (hk3 0 (by lia) (by lia) (by lia));have this:ky a[i]≤ky b[0]:=by simpa using this
  lia
 have lt2:∀n (l:n<b.size),k2≤n→n<j+2→ky a[i]≤ky b[n]:=λn h hn hi=>by have:=vZ.2.mp (hk3 n (by lia) hn hi);simpa using this
 have ge2:∀n (l:n<b.size),n<k2→ky b[n]≤ky a[i]:=λn h hn=>by
  have:=vZ.1.mp (hk2 n (by lia) hn);have this:ky b[n] <ky a[i]:=by simpa using this
  exact gJ this
 rw[show j+1+2-1=j+2 from rfl];by_cases zk2:j+2-k2>0
 ·rw[hU zk2];obtain⟨j2,rfl⟩:∃n,k2=n+1:=⟨k2-1,by lia⟩;have m4:=m3.bs (j:=j2) (by lia) l1' (by lia) lt2;by_cases z5:j2+1=1
  ·rw[hU (by simpa using z5)];exact kP ⟨sg,.inl ⟨_,_,rfl,m4.last z5 nb⟩⟩
  rw[hC (by simpa using z5),hC (by simp)];refine kL (jU (i:=i) l1' ?_);have m5:=m4.pa l1' (by lia) (ge2 j2 (by lia) (by lia));by_cases z6:i=0
  ·rw[hU (by simpa using z6)];exact kP ⟨sg,.inl ⟨_,_,rfl,m5.done z6⟩⟩
  rw[hC (by simpa using z6)];obtain⟨i,rfl⟩:∃n,i=n+1:=⟨i-1,by lia⟩;obtain⟨j2,rfl⟩:∃n,j2=n+1:=⟨j2-1,by lia⟩;split
  ·exact kP ⟨sg,.inr ⟨_,i,j2,_,_,_,rfl,m5,by lia,by lia,by lia⟩⟩
  exact kP ⟨sg,_,i,j2,_,_,_,rfl,m5,by lia,by lia,by lia⟩
 rw[hC zk2];refine kL (jU (i:=i) l1' ?_);have m5:=m3.pa l1' (by lia) (ge2 (j+1) (by lia) (by lia));by_cases z6:i=0
 ·rw[hU (by simpa using z6)];exact kP ⟨sg,.inl ⟨_,_,rfl,m5.done z6⟩⟩
 rw[hC (by simpa using z6)];obtain⟨i,rfl⟩:∃n,i=n+1:=⟨i-1,by lia⟩;split
 ·exact kP ⟨sg,.inr ⟨_,i,j,_,_,_,rfl,m5,by lia,by lia,by lia⟩⟩
 exact kP ⟨sg,_,i,j,_,_,_,rfl,m5,by lia,by lia,by lia⟩)
end
noncomputable def ovr(k:Nat)(m:List Keyed)(a:Array Keyed):Array Keyed:=m.zipIdx.foldl (λa (x:Keyed×Nat)=>a.setIfInBounds (k+x.2) x.1) a
theorem qEI{k:Nat}:∀{m:List Keyed} {n:Nat} {a:Array Keyed},k+n+m.length≤a.size→((m.zipIdx n).foldl (λa (x:Keyed×Nat)=>a.setIfInBounds (k+x.2) x.1) a).toList=a.toList.take (k+n)++m++a.toList.drop (k+n+m.length)
| [],n,a,_=>by simp
|p::m,n,a,h=>by
 rw[List.zipIdx_cons,aI,qEI (m:=m) (n:=n+1) (by rw[Array.size_setIfInBounds];rw[mI]at h;lia)];have hs:k+n<a.toList.length:=by rw[mI]at h;rw[kX];lia
 have e:(a.setIfInBounds (k+n) p).toList=a.toList.set (k+n) p:=by simp
 rw[e];have e1:(a.toList.set (k+n) p).take (k+(n+1))=a.toList.take (k+n)++[p]:=by rw[←Nat.add_assoc,pE (by rw[gK];exact hs),List.take_set_of_le (kJ _),List.getElem_set_self]
 have e2:(a.toList.set (k+n) p).drop (k+(n+1)+m.length)=a.toList.drop (k+n+(p::m).length):=by rw[List.drop_set_of_lt (by lia),mI];congr 1;lia
 rw[e1,e2,gC,gC,gC];rfl
theorem qIV{k:Nat}{m:List Keyed}{a:Array Keyed}(h:k+m.length≤a.size):(ovr k m a).toList=a.toList.take k++m++a.toList.drop (k+m.length):=qEI (n:=0) h
section
variable{prog:Program}{w:World}{A:Around}{E:Value→Shared→Prop}{s:Shared}
theorem zB{ar:Array Keyed}{i k n:Nat}(h:n<(ar.extract i k).size):∃l:i+n<ar.size,(ar.extract i k)[n]=ar[i+n]:=by have:=h;rw[wO]at this;exact⟨by lia,by rw[Array.getElem_extract]⟩
theorem q7U{a:Array Keyed}{i k:Nat}{x:Keyed}(h:x∈(a.extract i k).toList):∃n,i≤n∧n<k∧∃l:n<a.size,x=a[n]:=q7S (by rw[pT];exact nP.mpr h)
theorem qEJ{ar:Array Keyed}(so:∀m m' (h:m'<ar.size) (mm:m<m'),ky ar[m]≤ky ar[m']):ar.toList.Pairwise λp q=>ky p≤ky q:=mZ.mpr λi j hi hj ij=>so i j (by simpa using hj) ij
theorem Ml.ini{a b:Array Keyed}(sa:a.toList.Pairwise λp q=>ky p≤ky q)(sb:b.toList.Pairwise λp q=>ky p≤ky q)(na:0<a.size)(la:∀y∈b.toList,ky y<ky a[a.size-1]):Ml a b #[] 0 0:=by(
unfold Ml
refine⟨.refl _,.nil,sa,sb,λx hx=>absurd hx (by simp),λx hx=>absurd hx (by simp),a.toList.dropLast,a[a.size-1],?_,la⟩
have ne:a.toList≠[]:=λz=>by rw[←kX,z]at na;cases na
have:=(p6 ne).symm
rw[List.getLast_eq_getElem]at this
simpa using this)
theorem Mh.ini{a b:Array Keyed}(sa:a.toList.Pairwise λp q=>ky p≤ky q)(sb:b.toList.Pairwise λp q=>ky p≤ky q)(nb:0<b.size)(la:∀y∈a.toList,ky b[0] <ky y):Mh a b #[] a.size b.size:=by(
unfold Mh
have ea:a.toList.take a.size=a.toList:=pC (by simp)
have eb:b.toList.take b.size=b.toList:=pC (by simp)
rw[ea,eb]
refine⟨?_,.nil,rO.mpr (sb.imp λz=>by lia),rO.mpr (sa.imp λz=>by lia),λx hx=>absurd hx (by simp),λx hx=>absurd hx (by simp),(b.toList.drop 1).reverse,b[0],?_,λy hy=>by have:=la y (nP.mp hy);lia⟩
·show([]++b.toList.reverse++a.toList.reverse).Perm _;rw[d5,←sE];exact x6 _
have:=dE List.reverse (vY (a:=b) (i:=0) nb)
simpa using this)
theorem qIW{ar M:Array Keyed}{k n1 k2:Nat}(hk:k≤n1)(hN:n1+k2≤ar.size)(m:MFin (ar.extract k n1) (ar.extract n1 (n1+k2)) M)
 (so1:∀m m' (h:m'<ar.size) (mm:m≤m'),m'<n1→ky ar[m]≤ky ar[m']) (so2:∀m m' (h:m'<ar.size) (mm:m≤m'),n1≤m→ky ar[m]≤ky ar[m'])
 (lo:∀m m' (h:m<ar.size) (h':m'<ar.size),m<k→n1≤m'→ky ar[m]≤ky ar[m']) (up:∀m m' (h:m<ar.size) (h':m'<ar.size),m<n1→n1+k2≤m'→ky ar[m]≤ky ar[m']):
 (ovr k M.toList ar).Perm ar∧(ovr k M.toList ar).toList.Pairwise λp q=>ky p≤ky q:=by(
obtain⟨mp,ms⟩:=m
have ml:M.toList.length=n1-k+k2:=by rw[mp.length_eq,mE,kX,kX,wO,wO];lia
have e:=qIV (k:=k) (m:=M.toList) (a:=ar) (by rw[ml];lia)
rw[ml,show k+(n1-k+k2)=n1+k2 by lia]at e
have es:ar.toList=ar.toList.take k++((ar.extract k n1).toList++(ar.extract n1 (n1+k2)).toList)++ar.toList.drop (n1+k2):=by
 rw[gC,gC,←q7P];have:ar.toList.drop k=(ar.extract k n1).toList++ar.toList.drop n1:=by have:=q7P (a:=ar) (i:=k) (k:=n1-k);rwa [show k+(n1-k)=n1 by lia]at this
 rw[←this];exact(wV k _).symm
have P1:∀p∈ar.toList.take k,∃n,n<k∧∃l:n<ar.size,p=ar[n]:=λp hp=>by obtain⟨n,hn,e⟩:=cD.mp hp;rw[gH,kX]at hn;exact⟨n,by lia,by lia,by rw[←e,dC];rfl⟩
have P3:∀p∈ar.toList.drop (n1+k2),∃n,n1+k2≤n∧∃l:n<ar.size,p=ar[n]:=λp hp=>by obtain⟨n,hn,e⟩:=cD.mp hp;rw[dY,kX]at hn;exact⟨n1+k2+n,by lia,by lia,by rw[←e,dD];rfl⟩
have P2:∀p∈M.toList,∃n,k≤n∧n<n1+k2∧∃l:n<ar.size,p=ar[n]:=λp hp=>by
 have:∀{i j:Nat},p∈(ar.extract i j).toList→∃n,i≤n∧n<j∧∃l:n<ar.size,p=ar[n]:=fun {i j} h=>q7U h
 rcases gF.mp (mp.mem_iff.mp hp)with hp|hp
 ·obtain⟨n,a,b,c⟩:=this hp;exact⟨n,a,by lia,c⟩
 obtain⟨n,a,b,c⟩:=this hp;exact⟨n,by lia,b,c⟩
refine⟨dO.mpr ?_,?_⟩
·rw[e];refine List.Perm.trans ?_ (List.Perm.of_eq es.symm);exact lD _ (pH _ mp)
rw[e]
refine gX.mpr ⟨gX.mpr ⟨?_,ms,λp hp q hq=>?_⟩,?_,λp hp q hq=>?_⟩
·refine mZ.mpr λi j hi hj ij=>?_;rw[gH,kX]at hi hj;rw[dC,dC];exact so1 i j (by lia) (by lia) (by lia)
·obtain⟨n,h1,l,rfl⟩:=P1 p hp;obtain⟨n',h2,h3,l',rfl⟩:=P2 q hq;by_cases z:n'<n1
 ·exact so1 n n' l' (by lia) z
 exact lo n n' l l' h1 (by lia)
·refine mZ.mpr λi j hi hj ij=>?_;rw[dY,kX]at hi hj;rw[dD,dD];exact so2 _ _ (by lia) (by lia) (by lia)
obtain⟨n',h2,l',rfl⟩:=P3 q hq
rcases gF.mp hp with hp|hp
·obtain⟨n,h1,l,rfl⟩:=P1 p hp;exact up n n' l l' (by lia) h2
obtain⟨n,h1,h3,l,rfl⟩:=P2 p hp
by_cases z:n<n1
·exact up n n' l l' z h2
exact so2 n n' l' (by lia) (by lia))
theorem qGB{M:Model}{σ:Type}{x st:σ}{Q:PUnit→σ→Prop}(h:Q ⟨⟩ x):wpS M A E s (set x:StateT σ Sem PUnit) Q st:=mH ⟨rfl,h⟩
theorem qEK{n1 n2 p1 p2:Nat}:(#[(0,n1,p1),(n1,n2,p2)].setIfInBounds 0 (0,n1+n2,p1)).eraseIdxIfInBounds (0+1)=#[(0,n1+n2,p1)]:=by simp[Array.eraseIdxIfInBounds,Array.setIfInBounds]
theorem qK4{st:SortSt}{n1 n2 p1 p2:Nat}{Q:Bool→SortSt→Prop}(hk:kindOf st=oneType')(hf:failedOf st=none)(hp:pendingOf st=#[(0,n1,p1),(n1,n2,p2)])(hN:(arrOf st).size=n1+n2)(h1:0<n1)(h2:0<n2)(ka:∀i (h:i<(arrOf st).size),IsK (arrOf st)[i])
 (sa:((arrOf st).toList.take n1).Pairwise λp q=>ky p≤ky q) (sb:((arrOf st).toList.drop n1).Pairwise λp q=>ky p≤ky q)
 (h:∀st',kindOf st'=oneType'→failedOf st'=none→pendingOf st'=#[(0,n1+n2,p1)]→(arrOf st').Perm (arrOf st)→(arrOf st').toList.Pairwise (λp q=>ky p≤ky q)→Q true st'):wpS (model prog w) A E s (mergeAt' 0) Q st:=by(
rcases st with⟨kd,ar,pd,mg,fl⟩
obtain rfl:kd=oneType':=hk
obtain rfl:fl=none:=hf
obtain rfl:pd=#[(0,n1,p1),(n1,n2,p2)]:=hp
have hN:ar.size=n1+n2:=hN
have ka:∀i (h:i<ar.size),IsK ar[i]:=ka
have sa:(ar.toList.take n1).Pairwise λp q=>ky p≤ky q:=sa
have sb:(ar.toList.drop n1).Pairwise λp q=>ky p≤ky q:=sb
have so1:∀m m' (h:m'<ar.size) (mm:m≤m'),m'<n1→ky ar[m]≤ky ar[m']:=λm m' h mm hn=>q7T (i:=n1) (rO.mpr (sa.imp λz=>by lia)) mm hn h
have so2:∀m m' (h:m'<ar.size) (mm:m≤m'),n1≤m→ky ar[m]≤ky ar[m']:=λm m' h mm hn=>q7Q sb hn mm h
have fin:∀st',kindOf st'=oneType'→failedOf st'=none→pendingOf st'=#[(0,n1+n2,p1)]→(arrOf st').Perm ar→(∀m m' (h:m'<(arrOf st').size) (mm:m≤m'),ky (arrOf st')[m]≤ky (arrOf st')[m'])→Q true st':=λst' e1 e2 e3 e4 e5=>h st' e1 e2 e3 e4 (mZ.mpr λi j hi hj ij=>e5 i j (by simpa using hj) (cY ij))
unfold mergeAt'
refine kL (wM ?_)
dsimp only
show wpS _ _ _ _ (bind _ _) _ _
refine kL (qGB ?_)
refine kL (jU (i:=n1) (by lia) (kL (gl_s (n:=n1) (base:=0) (hint:=0) rfl h1 (by lia) (ka _ _) ka (λm m' hm mm _ hn=>so1 m m' hm mm (by lia)) λk hk1 hk2 hk3=>?_)))
dsimp only
have ge:∀n (h:n<ar.size),n<k→ky ar[n]≤ky (ar[n1]'(by lia)):=λn h hn=>by have:=q5N.1.mp (hk2 n (by lia) hn);simpa using this
have lt:∀n (h:n<ar.size),k≤n→n<n1→ky (ar[n1]'(by lia))<ky ar[n]:=λn h hn h1=>by have:=q5N.2.mp (hk3 n (by lia) hn h1);simpa using this
by_cases z1:n1-k=0
·rw[hU (by simpa using z1)];refine kP (fin _ rfl rfl qEK (pW _) λm m' h mm=>?_);by_cases y1:m'<n1
 ·exact so1 m m' h mm y1
 by_cases y2:n1≤m
 ·exact so2 m m' h mm y2
 exact gZ (ge m (by lia) (by lia)) (so2 n1 m' h (by lia) (kJ _))
rw[hC (by simpa using z1)]
rw[show 0+k+(n1-k)-1=n1-1 by lia,rX]
refine kL (jU (i:=n1-1) (arr:=ar) (by lia) ?_)
refine kL (gl_s (n:=n2) (base:=n1) (hint:=n2-1) rfl (by lia) (by lia) (ka _ _) ka (λm m' hm mm h1 _=>so2 m m' hm mm h1) λk2 hj1 hj2 hj3=>?_)
dsimp only
have lt2:∀n (h:n<ar.size),n1≤n→n<n1+k2→ky ar[n] <ky (ar[n1-1]'(by lia)):=λn h hn h2=>by
 have:=vZ.1.mp (hj2 (n-n1) (by lia) (by lia));have e:n1+(n-n1)=n:=by lia
 simpa only[e]using this
have ge2:∀n (h:n<ar.size),n1+k2≤n→ky (ar[n1-1]'(by lia))≤ky ar[n]:=λn h hn=>by
 have:=vZ.2.mp (hj3 (n-n1) (by lia) (by lia) (by lia));have e:n1+(n-n1)=n:=by lia
 simpa only[e]using this
have k20:0<k2:=by
 by_cases z:0<k2
 ·exact z
 have h1:=lt (n1-1) (by lia) (by lia) (by lia);have h2:=ge2 n1 (by lia) (by lia);lia
rw[hC (by simp;lia)]
have sx:(ar.extract k n1).size=n1-k:=by rw[wO];lia
have sy:(ar.extract n1 (n1+k2)).size=k2:=by rw[wO];lia
have kx:∀i (h:i<(ar.extract k n1).size),IsK (ar.extract k n1)[i]:=λi h=>by obtain⟨l,e⟩:=zB h;rw[e];exact ka _ l
have kY:∀i (h:i<(ar.extract n1 (n1+k2)).size),IsK (ar.extract n1 (n1+k2))[i]:=λi h=>by obtain⟨l,e⟩:=zB h;rw[e];exact ka _ l
have pX:(ar.extract k n1).toList.Pairwise λp q=>ky p≤ky q:=qEJ λm m' h mm=>by obtain⟨l,e⟩:=zB h;obtain⟨l',e'⟩:=zB (show m<(ar.extract k n1).size by lia);rw[e,e'];exact so1 _ _ l (by lia) (by lia)
have pY:(ar.extract n1 (n1+k2)).toList.Pairwise λp q=>ky p≤ky q:=qEJ λm m' h mm=>by obtain⟨l,e⟩:=zB h;obtain⟨l',e'⟩:=zB (show m<(ar.extract n1 (n1+k2)).size by lia);rw[e,e'];exact so2 _ _ l (by lia) (by lia)
have fin2:∀(M:Array Keyed) (mg':Nat),MFin (ar.extract k n1) (ar.extract n1 (n1+k2)) M→Q true (SortSt.mk' oneType' (ovr k M.toList ar) ((#[(0,n1,p1),(n1,n2,p2)].setIfInBounds 0 (0,n1+n2,p1)).eraseIdxIfInBounds (0+1)) mg' none):=λM mg' m=>by obtain⟨h1,h2⟩:=qIW (by lia) (by lia) m so1 so2 (λm m' h h' hm hm'=>gZ (ge m h hm) (so2 n1 m' h' hm' (kJ _))) (λm m' h h' hm hm'=>gZ (so1 m (n1-1) (by lia) (by lia) (by lia)) (ge2 m' h' hm'));exact h _ rfl rfl qEK h1 h2
have rest:∀(M:Array Keyed) (st':SortSt),MFin (ar.extract k n1) (ar.extract n1 (n1+k2)) M→Sg (SortSt.mk' oneType' (ar) ((#[(0,n1,p1),(n1,n2,p2)].setIfInBounds 0 (0,n1+n2,p1)).eraseIdxIfInBounds (0+1)) mg none) st'→∃mg',st'=(SortSt.mk' oneType' (ar) ((#[(0,n1,p1),(n1,n2,p2)].setIfInBounds 0 (0,n1+n2,p1)).eraseIdxIfInBounds (0+1)) mg' none):=λM st' _ ⟨q1,q2,q3,q4⟩=>by rcases st' with⟨kd,ar',pd,mg',fl⟩;obtain rfl:kd=oneType':=q1;obtain rfl:ar'=ar:=q2;obtain rfl:pd=_:=q3;obtain rfl:fl=none:=q4;exact⟨mg',rfl⟩
have lst:ky ((ar.extract k n1)[(ar.extract k n1).size-1]'(by lia))=ky (ar[n1-1]'(by lia)):=by
 obtain⟨l,e⟩:=zB (show(ar.extract k n1).size-1<(ar.extract k n1).size by lia);rw[e];have e2:k+((ar.extract k n1).size-1)=n1-1:=by lia
 simp only[e2]
have fsx:ky ((ar.extract k n1)[0]'(by lia))=ky (ar[k]'(by lia)):=by obtain⟨l,e⟩:=zB (show 0<(ar.extract k n1).size by lia);rw[e];rfl
have fsy:ky ((ar.extract n1 (n1+k2))[0]'(by lia))=ky (ar[n1]'(by lia)):=by obtain⟨l,e⟩:=zB (show 0<(ar.extract n1 (n1+k2)).size by lia);rw[e];rfl
by_cases zz:n1-k≤k2
·rw[hU zz];refine kL (qK2 rfl kx kY (Ml.ini pX pY (by lia) λy hy=>?_) (by lia) (by lia) ?_ λM st' m sg=>?_)
 ·obtain⟨n,q1,q2,l,rfl⟩:=q7U hy;rw[lst];exact lt2 n l q1 q2
 ·rw[fsx,fsy];exact gJ (lt k _ (kJ _) (by lia))
 obtain⟨mg',rfl⟩:=rest M st' m sg;exact kL (d7 (kL (wM (kP (fin2 M mg' m)))))
rw[hC zz]
refine kL (qK3 rfl kx kY (Mh.ini pX pY (by lia) λy hy=>?_) (by lia) (by lia) ?_ λM st' m sg=>?_)
·obtain⟨n,q1,q2,l,rfl⟩:=q7U hy;rw[fsy];exact lt n l q1 q2
·rw[lst];obtain⟨l,e⟩:=zB (show(ar.extract n1 (n1+k2)).size-1<(ar.extract n1 (n1+k2)).size by lia);rw[e];exact gJ (lt2 _ l (by lia) (by lia))
obtain⟨mg',rfl⟩:=rest M st' m sg
exact kL (d7 (kL (wM (kP (fin2 M mg' m))))))
end
structure Sb(a₀:Array Keyed)(pd:Array (Nat×Nat×Nat))(st:SortSt):Prop where
pm:(arrOf st).Perm a₀
kd:kindOf st=oneType'
fl:failedOf st=none
pd:pendingOf st=pd
noncomputable def SoO(xs:Array Keyed)(lo hi:Nat):Prop:=∀i j,lo≤i→i≤j→j<hi→K xs i≤K xs j
structure Ar(a₀:Array Keyed):Prop where
k:IntKeys a₀
nd:(a₀.toList.map ky).Nodup
section
variable{prog:Program}{w:World}{A:Around}{E:Value→Shared→Prop}{s:Shared}{a₀:Array Keyed}{pd:Array (Nat×Nat×Nat)}{st:SortSt}
theorem Sb.size(h:Sb a₀ pd st):(arrOf st).size=a₀.size:=h.pm.size_eq
theorem Sb.set(h:Sb a₀ pd st){xs:Array Keyed}(p:xs.Perm (arrOf st)):Sb a₀ pd (setArr st xs):=⟨p.trans h.pm,h.kd,h.fl,h.pd⟩
theorem Sb.isK(h:Sb a₀ pd st)(a:Ar a₀):∀i (hi:i<(arrOf st).size),IsK (arrOf st)[i]:=λi hi=>by have:=(dO.mp h.pm).mem_iff.mp (show(arrOf st)[i]∈(arrOf st).toList by simp);exact a.k _ this
theorem K_ky{xs:Array Keyed}{i:Nat}(hi:i<xs.size):K xs i=ky xs[i]:=K_eq hi
theorem Sb.ne(h:Sb a₀ pd st)(a:Ar a₀){i j:Nat}(hi:i<a₀.size)(hj:j<a₀.size)(ne:i≠j):K (arrOf st) i≠K (arrOf st) j:=λe=>by(
have sz:=h.size
rw[K_ky (by lia),K_ky (by lia)]at e
have nd:((arrOf st).toList.map ky).Nodup:=(((dO.mp h.pm).map ky).nodup_iff).mpr a.nd
have P:∀m n (hm:m<(arrOf st).size) (hn:n<(arrOf st).size),m<n→ky (arrOf st)[m]≠ky (arrOf st)[n]:=λm n hm hn mn=>by have:=mZ.mp nd m n (by simpa using hm) (by simpa using hn) mn;simpa using this
by_cases z:i<j
·exact P i j _ _ z e
exact P j i (by lia) (by lia) (by lia) e.symm)
theorem qIX{xs:Array Keyed}{lo:Nat}:SoO xs lo (lo+1):=λi j _ _ _=>by
 obtain rfl:i=j:=by lia
 exact gE _
theorem Sb.lt(h:Sb a₀ pd st)(a:Ar a₀){i j:Nat}{Q:Option Bool→SortSt→Prop}(hi:i<a₀.size)(hj:j<a₀.size)(q:Q (some (decide (K (arrOf st) i<K (arrOf st) j))) st):wpS (model prog w) A E s (ltAt' i j) Q st:=by(
have sz:=h.size
obtain⟨n,t,e⟩:=h.isK a i (by lia)
obtain⟨m,u,e'⟩:=h.isK a j (by lia)
refine wpS_ltAt h.kd (a:=n) (t:=t) (b:=m) (u:=u) (p:=((arrOf st)[i]'(by lia)).2) (q:=((arrOf st)[j]'(by lia)).2) ?_ ?_ ?_
·rw[cG (by lia)];exact dE some (Prod.ext e rfl)
·rw[cG (by lia)];exact dE some (Prod.ext e' rfl)
rw[K_ky (by lia),K_ky (by lia)]at q
unfold ky at q
rw[e,e']at q
exact q)
theorem qGS{lo nrem:Nat}{Q:Option Nat→SortSt→Prop}(a:Ar a₀)(h:Sb a₀ pd st)(hn:lo+nrem≤a₀.size)(h1:1≤nrem)
 (q:∀m st',Sb a₀ pd st'→1≤m→m≤nrem→SoO (arrOf st') lo (lo+m)→(∀k,k<lo→K (arrOf st') k=K (arrOf st) k)→Q (some m) st'):wpS (model prog w) A E s (countRun' lo nrem) Q st:=by(
rw[countRun'_eq]
refine kL (rB (gS (I:=λx c st'=>st'=st∧c=(none,x)∧SoO (arrOf st) lo (lo+x)) (Q:=λc st'=>st'=st∧∃n,c=(none,n)∧1≤n∧n≤nrem∧SoO (arrOf st) lo (lo+n)∧(n=nrem∨K (arrOf st) (lo+n)<K (arrOf st) (lo+n-1))) ?_ ?_ ⟨rfl,rfl,qIX⟩) ?_)
·rintro x c st' hx1 hx2 ⟨rfl,rfl,so⟩
 dsimp only;refine kL (h.lt a (by lia) (by lia) ?_);by_cases y:K (arrOf st') (lo+x)<K (arrOf st') (lo+x-1)
 ·simp only[y,pU,if_true];exact kP ⟨rfl,x,rfl,hx1,by lia,so,.inr y⟩
 simp only[y,decide_false,dH,if_false];refine kP ⟨rfl,rfl,λi j h1 h2 h3=>?_⟩;by_cases z:j<lo+x
 ·exact so i j h1 h2 z
 obtain rfl:j=lo+x:=by lia
 by_cases z:i=lo+x
 ·rw[z];exact gE _
 exact gZ (so i (lo+x-1) h1 (by lia) (by lia)) (pN.mp y)
·rintro c st' ⟨rfl,rfl,so⟩
 rw[show max 1 nrem=nrem by lia]at so ⊢;exact⟨rfl,nrem,rfl,h1,kJ _,so,.inl rfl⟩
rintro c st' ⟨rfl,n,rfl,n1,n2,so,e⟩
dsimp only
by_cases z:n=nrem
·rw[hU (by simpa using z)];exact kP (q n st' h n1 n2 so λk _=>rfl)
rw[hC (by simpa using z)]
have e:=e.resolve_left z
by_cases z1:n>1
·rw[hU z1];refine kL (h.lt a (by lia) (by lia) ?_);have r:=so lo (lo+n-1) (kJ _) (by lia) (by lia);have ne:=h.ne a (i:=lo) (j:=lo+n-1) (by lia) (by lia) (by lia);simp only[show K (arrOf st') lo<K (arrOf st') (lo+n-1) by lia,pU,if_true];exact kP (q n st' h n1 n2 so λk _=>rfl)
rw[hC z1]
obtain rfl:n=1:=by lia
refine kL (sP (cS ⟨rfl,?_⟩))
refine kL (rB (gS (I:=λx c st2=>st2=st'∧c=(none,x,0)∧∀i j,lo≤i→i≤j→j<lo+x→K (arrOf st') j≤K (arrOf st') i) (Q:=λc st2=>st2=st'∧∃n,c=(none,n,0)∧2≤n∧n≤nrem∧∀i j,lo≤i→i≤j→j<lo+n→K (arrOf st') j≤K (arrOf st') i) ?_ ?_ ⟨rfl,rfl,λi j h1 h2 h3=>?_⟩) ?_)
·rintro x c st2 hx1 hx2 ⟨rfl,rfl,so⟩
 dsimp only;refine kL (h.lt a (by lia) (by lia) ?_);by_cases y:K (arrOf st2) (lo+x)<K (arrOf st2) (lo+x-1)
 ·simp only[y,pU,if_true];rw[hC (by lia)];refine kP ⟨rfl,rfl,λi j h1 h2 h3=>?_⟩;by_cases z:j<lo+x
  ·exact so i j h1 h2 z
  obtain rfl:j=lo+x:=by lia
  by_cases z:i=lo+x
  ·rw[z];exact gE _
  exact gZ (gJ y) (so i (lo+x-1) h1 (by lia) (by lia))
 simp only[y,decide_false,dH,if_false];refine kL (h.lt a (by lia) (by lia) ?_);have ne:=h.ne a (i:=lo+x) (j:=lo+x-1) (by lia) (by lia) (by lia);simp only[show K (arrOf st2) (lo+x-1)<K (arrOf st2) (lo+x) by lia,pU,if_true];exact kP ⟨rfl,x,rfl,hx1,by lia,so⟩
·rintro c st2 ⟨rfl,rfl,so⟩
 rw[show max (1+1) nrem=nrem by lia]at so ⊢;exact⟨rfl,nrem,rfl,by lia,kJ _,so⟩
·by_cases z:i=j
 ·rw[z];exact gE _
 obtain rfl:i=lo:=by lia
 obtain rfl:j=i+1:=by lia
 exact gJ e
rintro c st2 ⟨rfl,n,rfl,n1',n2',so⟩
dsimp only
rw[hC (by lia)]
have sz:=h.size
refine kL (wpS_reverse ?_)
have hb:=h.set (mirror_perm (arrOf st2) lo (lo+n) ((lo+n-lo) / 2))
have km:∀k,K (mirror (arrOf st2) lo (lo+n) ((lo+n-lo) / 2)) k=if lo≤k∧k<lo+n then K (arrOf st2) (lo+(lo+n)-1-k)else K (arrOf st2) k:=λk=>K_mirror (by lia) k
have so':SoO (mirror (arrOf st2) lo (lo+n) ((lo+n-lo) / 2)) lo (lo+n):=λi j h1 h2 h3=>by rw[km,km,hU ⟨h1,by lia⟩,hU ⟨by lia,h3⟩];exact so _ _ (by lia) (by lia) (by lia)
have fr:∀k,k<lo→K (mirror (arrOf st2) lo (lo+n) ((lo+n-lo) / 2)) k=K (arrOf st2) k:=λk hk=>by rw[km,hC (by lia)]
generalize mirror (arrOf st2) lo (lo+n) ((lo+n-lo) / 2)=xs at hb so' fr ⊢
have ea:arrOf (setArr st2 xs)=xs:=rfl
generalize setArr st2 xs=st3 at hb ea ⊢
subst ea
clear so e
refine kL (rB (gS (I:=λx c st'=>st'=st3∧c=(none,x)∧SoO (arrOf st3) lo (lo+x)) (Q:=λc st'=>st'=st3∧∃n,c=(none,n)∧1≤n∧n≤nrem∧SoO (arrOf st3) lo (lo+n)) ?_ ?_ ⟨rfl,rfl,so'⟩) ?_)
·rintro x c st' hx1 hx2 ⟨rfl,rfl,so⟩
 dsimp only;refine kL (hb.lt a (by lia) (by lia) ?_);by_cases y:K (arrOf st') (lo+x)<K (arrOf st') (lo+x-1)
 ·simp only[y,pU,if_true];exact kP ⟨rfl,x,rfl,by lia,by lia,so⟩
 simp only[y,decide_false,dH,if_false];refine kP ⟨rfl,rfl,λi j h1 h2 h3=>?_⟩;by_cases z:j<lo+x
 ·exact so i j h1 h2 z
 obtain rfl:j=lo+x:=by lia
 by_cases z:i=lo+x
 ·rw[z];exact gE _
 exact gZ (so i (lo+x-1) h1 (by lia) (by lia)) (pN.mp y)
·rintro c st' ⟨rfl,rfl,so⟩
 rw[show max n nrem=nrem by lia]at so ⊢;exact⟨rfl,nrem,rfl,h1,kJ _,so⟩
rintro c st' ⟨rfl,m,rfl,m1,m2,so⟩
exact kP (q m st' hb m1 m2 so fr))
theorem qGT{lo n ok:Nat}{Q:Bool→SortSt→Prop}(a:Ar a₀)(h:Sb a₀ pd st)(hn:lo+n≤a₀.size)(h1:1≤ok)(hok:ok≤n)(so:SoO (arrOf st) lo (lo+ok))
 (q:∀st',Sb a₀ pd st'→SoO (arrOf st') lo (lo+n)→(∀k,k<lo→K (arrOf st') k=K (arrOf st) k)→Q true st'):wpS (model prog w) A E s (binarySort' lo n ok) Q st:=by(
rw[binarySort'_eq]
refine kL (rB (gS (I:=λx c st'=>c=(none,())∧Sb a₀ pd st'∧SoO (arrOf st') lo (lo+x)∧∀k,k<lo→K (arrOf st') k=K (arrOf st) k) (Q:=λc st'=>c=(none,())∧Sb a₀ pd st'∧SoO (arrOf st') lo (lo+n)∧∀k,k<lo→K (arrOf st') k=K (arrOf st) k) ?_ ?_ ⟨rfl,h,by rw[show max ok 1=ok by lia];exact so,λk _=>rfl⟩) ?_)
rotate_left
·rintro c st' ⟨rfl,hb,so,fr⟩
 rw[show max (max ok 1) n=n by lia]at so;exact⟨rfl,hb,so,fr⟩
·rintro c st' ⟨rfl,hb,so,fr⟩
 exact kP (q st' hb so fr)
rintro x c st' hx1 hx2 ⟨rfl,hb,so,fr⟩
dsimp only
have sz:=hb.size
refine kL (rB (gS (I:=λy c st2=>st2=st'∧∃l r,c=(none,l,r)∧l≤r∧r≤x∧r-l+y≤x∧(∀i,lo≤i→i<lo+l→K (arrOf st') i≤K (arrOf st') (lo+x))∧(∀i,lo+r≤i→i<lo+x→K (arrOf st') (lo+x)<K (arrOf st') i)) (Q:=λc st2=>st2=st'∧∃l,c=(none,l,l)∧l≤x∧(∀i,lo≤i→i<lo+l→K (arrOf st') i≤K (arrOf st') (lo+x))∧(∀i,lo+l≤i→i<lo+x→K (arrOf st') (lo+x)<K (arrOf st') i)) ?_ ?_ ⟨rfl,0,x,rfl,by lia,by lia,by lia,λi h1 h2=>by lia,λi h1 h2=>by lia⟩) ?_)
·rintro y c st2 _ hy ⟨rfl,l,r,rfl,lr,rx,hm,h1,h2⟩
 dsimp only;by_cases z:l≥r
 ·rw[hU z];obtain rfl:l=r:=by lia
  exact kP ⟨rfl,l,rfl,rx,h1,h2⟩
 rw[hC z];have m1:l≤(l+r) / 2:=by lia
 have m2:(l+r) / 2<r:=by lia
 generalize (l+r) / 2=m at m1 m2 ⊢;refine kL (hb.lt a (by lia) (by lia) ?_);by_cases y2:K (arrOf st2) (lo+x)<K (arrOf st2) (lo+m)
 ·simp only[y2,pU,if_true];exact kP ⟨rfl,l,m,rfl,m1,by lia,by lia,h1,λi hi hx=>xK y2 (so _ _ (by lia) (by lia) hx)⟩
 simp only[y2,decide_false,dH,if_false];exact kP ⟨rfl,m+1,r,rfl,by lia,rx,by lia,λi hi hx=>gZ (so i (lo+m) hi (by lia) (by lia)) (pN.mp y2),h2⟩
·rintro c st2 ⟨rfl,l,r,rfl,lr,rx,hm,h1,h2⟩
 obtain rfl:l=r:=by lia
 exact⟨rfl,l,rfl,rx,h1,h2⟩
rintro c st2 ⟨rfl,l,rfl,lx,h1,h2⟩
dsimp only
show wpS _ _ _ _ (bind (moveDown' (lo+x) (lo+l)) _) _ _
rw[moveDown'_eq]
have kb:∀k,K (bubble (arrOf st2) (lo+x) (lo+x-(lo+l))) k=if k=lo+l then K (arrOf st2) (lo+x)else if lo+l<k∧k≤lo+x then K (arrOf st2) (k-1)else K (arrOf st2) k:=λk=>by rw[K_bubble (by lia) (by lia),show lo+x-(lo+x-(lo+l))=lo+l by lia]
refine kL (d7 (kP ⟨rfl,hb.set (bubble_perm _ _ _),λi j hi hij hj=>?_,λk hk=>?_⟩))
·show K (bubble (arrOf st2) (lo+x) (lo+x-(lo+l))) i≤K (bubble (arrOf st2) (lo+x) (lo+x-(lo+l))) j;rw[kb,kb];repeat' split
 all_goals first
  |(exfalso;lia)
  |exact gE _
  |exact h1 _ (by lia) (by lia)
  |exact gJ (h2 _ (by lia) (by lia))
  |exact so _ _ (by lia) (by lia) (by lia)
show K (bubble (arrOf st2) (lo+x) (lo+x-(lo+l))) k=_
rw[kb,hC (by lia),hC (by lia)]
exact fr k hk)
end
section
variable{prog:Program}{w:World}{A:Around}{E:Value→Shared→Prop}{s:Shared}{a₀:Array Keyed}{pd:Array (Nat×Nat×Nat)}{st:SortSt}
noncomputable def Fr(a₀:Array Keyed)(st:SortSt):Prop:=(Sb a₀ #[(0,64,0)] st∧SoO (arrOf st) 0 64)∨∃n pw,0<n∧n<64∧Sb a₀ #[(0,n,pw),(n,64-n,0)] st∧SoO (arrOf st) 0 n∧SoO (arrOf st) n 64
theorem qBK{xs ys:Array Keyed}{n:Nat}(h:SoO xs 0 n)(k:∀i,i<n→K ys i=K xs i):SoO ys 0 n:=λi j h1 h2 h3=>by rw[k i (by lia),k j h3];exact h i j h1 h2 h3
theorem qK5{Q:Unit→SortSt→Prop}(a:Ar a₀)(h:Sb a₀ #[] st)(h64:a₀.size=64)
 (q:∀st',(arrOf st').Perm a₀→failedOf st'=none→(arrOf st').toList.Pairwise (λp q=>ky p≤ky q)→Q () st'):wpS (model prog w) A E s sortRuns' Q st:=by(
rw[sortRuns'_eq]
refine kL (wM ?_)
dsimp only
have hmr:minRun' 64 64 0=32:=by rw[minRun'_succ,hC (by decide)];show minRun' (62+1) 32 0=32;rw[minRun'_succ,hU (by decide)]
simp only[h.size,h64,hmr]
refine kL (rB (gS (I:=λx c st'=>(x=0∧c=(none,0)∧Sb a₀ #[] st')∨(x=1∧∃n,c=(none,n)∧32≤n∧n<64∧Sb a₀ #[(0,n,0)] st'∧SoO (arrOf st') 0 n)∨(1≤x∧c=(none,64)∧Fr a₀ st')) (Q:=λc st'=>c=(none,64)∧Fr a₀ st') ?_ ?_ (.inl ⟨rfl,rfl,h⟩)) ?_)
·rintro x c st' _ hx (⟨rfl,rfl,hb⟩|⟨rfl,n,rfl,n1,n2,hb,so⟩|⟨_,rfl,f⟩)
 ·dsimp only;rw[hC (by decide)];refine kL (qGS a hb (by lia) (by decide) λm st2 hb2 m1 m2 so2 _=>?_);rw[rX]at so2;dsimp only;by_cases z:m<32
  ·rw[hU z];refine kL (sP (cS ⟨rfl,?_⟩));refine kL (qGT a hb2 (n:=32) (by lia) m1 (by lia) (by rw[rX];exact so2) λst3 hb3 so3 _=>?_);rw[rX]at so3;rw[hC (by decide)];refine kL (wM ?_);rw[show(pendingOf st3).back?=none by rw[hb3.pd];rfl];exact kL (d7 (kP (.inr (.inl ⟨rfl,32,rfl,by decide,by decide,⟨hb3.pm,hb3.kd,hb3.fl,by show(pendingOf st3).push _=_;rw[hb3.pd];rfl⟩,so3⟩))))
  rw[hC z];refine kL (wM ?_);rw[show(pendingOf st2).back?=none by rw[hb2.pd];rfl];have hb':Sb a₀ #[(0,m,0)] (setPending st2 ((pendingOf st2).push (0,m,0))):=⟨hb2.pm,hb2.kd,hb2.fl,by show(pendingOf st2).push _=_;rw[hb2.pd];rfl⟩;refine kL (d7 (kP ?_));by_cases z2:m=64
  ·subst z2;exact .inr (.inr ⟨by decide,rfl,.inl ⟨hb',so2⟩⟩)
  exact .inr (.inl ⟨rfl,m,by rw[rX],by lia,by lia,hb',so2⟩)
 ·dsimp only;rw[hC (by lia)];refine kL (qGS a hb (by lia) (by lia) λm st2 hb2 m1 m2 so2 fr2=>?_);dsimp only;have so1:=qBK so fr2;by_cases z:m<32
  ·rw[hU z];refine kL (sP (cS ⟨rfl,?_⟩));refine kL (qGT a hb2 (n:=min (64-n) 32) (by lia) m1 (by lia) so2 λst3 hb3 so3 fr3=>?_);rw[hC (by decide)];rw[show min (64-n) 32=64-n by lia]at so3 ⊢;refine kL (wM ?_);rw[show(pendingOf st3).back?=some (0,n,0) by rw[hb3.pd];rfl];dsimp only;refine kL (rB (gS (I:=λx c st4=>st4=st3∧c=(none,())) (Q:=λc st4=>st4=st3∧c=(none,())) ?_ (λc st4 h=>h) ⟨rfl,rfl⟩) ?_)
   ·rintro y c st4 _ _ ⟨rfl,rfl⟩
    refine kL (wM ?_);rw[show(if(pendingOf st4).size>1 then(pendingOf st4)[(pendingOf st4).size-2]? else none)=none by rw[hb3.pd];rfl];exact kP ⟨rfl,rfl⟩
   rintro c st4 ⟨rfl,rfl⟩
   dsimp only;refine kL (d7 (kL (d7 (kP (.inr (.inr ⟨by decide,by rw[show n+(64-n)=64 by lia],.inr ⟨n,power' 64 (2*0+n) (2*0+n+n+(64-n)) 64,by lia,n2,⟨hb3.pm,hb3.kd,hb3.fl,?_⟩,(qBK so1 fr3),(by rwa [show n+(64-n)=64 by lia]at so3)⟩⟩))))));show((pendingOf st4).modify _ _).push _=_;rw[hb3.pd];rfl
  rw[hC z];obtain rfl:m=64-n:=by lia
  refine kL (wM ?_);rw[show(pendingOf st2).back?=some (0,n,0) by rw[hb2.pd];rfl];dsimp only;refine kL (rB (gS (I:=λx c st4=>st4=st2∧c=(none,())) (Q:=λc st4=>st4=st2∧c=(none,())) ?_ (λc st4 h=>h) ⟨rfl,rfl⟩) ?_)
  ·rintro y c st4 _ _ ⟨rfl,rfl⟩
   refine kL (wM ?_);rw[show(if(pendingOf st4).size>1 then(pendingOf st4)[(pendingOf st4).size-2]? else none)=none by rw[hb2.pd];rfl];exact kP ⟨rfl,rfl⟩
  rintro c st4 ⟨rfl,rfl⟩
  dsimp only;refine kL (d7 (kL (d7 (kP (.inr (.inr ⟨by decide,by rw[show n+(64-n)=64 by lia],.inr ⟨n,power' 64 (2*0+n) (2*0+n+n+(64-n)) 64,by lia,n2,⟨hb2.pm,hb2.kd,hb2.fl,?_⟩,so1,(by rwa [show n+(64-n)=64 by lia]at so2)⟩⟩))))));show((pendingOf st4).modify _ _).push _=_;rw[hb2.pd];rfl
 dsimp only;rw[hU (by decide)];exact kP ⟨rfl,f⟩
·rintro c st' (⟨h,_⟩|⟨h,_⟩|⟨_,rfl,f⟩)
 ·exact absurd h (by decide)
 ·exact absurd h (by decide)
 exact⟨rfl,f⟩
rintro c st' ⟨rfl,f⟩
dsimp only
have so64:∀{st'},(arrOf st').Perm a₀→SoO (arrOf st') 0 64→(arrOf st').toList.Pairwise λp q=>ky p≤ky q:=fun {st'} pm so=>qEJ λm m' h mm=>by have:=so m m' (mQ _) (by lia) (by have:=pm.size_eq;lia);rwa [K_ky (by lia),K_ky h]at this
refine kL (rB (gS (I:=λx c st2=>c=(none,())∧((x=0∧Fr a₀ st2)∨((pendingOf st2).size≤1∧(arrOf st2).Perm a₀∧failedOf st2=none∧(arrOf st2).toList.Pairwise λp q=>ky p≤ky q))) (Q:=λc st2=>c=(none,())∧(arrOf st2).Perm a₀∧failedOf st2=none∧(arrOf st2).toList.Pairwise λp q=>ky p≤ky q) ?_ ?_ ⟨rfl,.inl ⟨rfl,f⟩⟩) ?_)
·rintro x c st2 _ _ ⟨rfl,⟨rfl,⟨hb,so⟩|⟨n,pw,n0,n6,hb,so1,so2⟩⟩|⟨z,pm,fl,so⟩⟩
 ·refine kL (wM ?_);rw[hU (by rw[hb.pd];exact kJ 1)];exact kP ⟨rfl,hb.pm,hb.fl,so64 hb.pm so⟩
 ·refine kL (wM ?_);rw[hC (by rw[hb.pd];exact(by decide:¬2≤1))];have sz:=hb.size;have e2:(pendingOf st2).size-2=0:=by rw[hb.pd];rfl
  rw[e2];have g1:((arrOf st2).toList.take n).Pairwise λp q=>ky p≤ky q:=mZ.mpr λi j hi hj ij=>by rw[gH,kX]at hi hj;rw[dC,dC];have:=so1 i j (mQ _) (by lia) (by lia);rwa [K_ky (by lia),K_ky (by lia)]at this
  have g2:((arrOf st2).toList.drop n).Pairwise λp q=>ky p≤ky q:=mZ.mpr λi j hi hj ij=>by rw[dY,kX]at hi hj;rw[dD,dD];have:=so2 (n+i) (n+j) (by lia) (by lia) (by lia);rwa [K_ky (by lia),K_ky (by lia)]at this
  show wpS _ _ _ _ (bind (mergeAt' 0) _) _ _;refine kL (qK4 (n1:=n) (n2:=64-n) hb.kd hb.fl hb.pd (by lia) n0 (by lia) (hb.isK a) g1 g2 λst3 k1 k2 k3 k4 k5=>?_);exact kP ⟨rfl,.inr ⟨by rw[k3];exact kJ 1,k4.trans hb.pm,k2,k5⟩⟩
 refine kL (wM ?_);rw[hU z];exact kP ⟨rfl,pm,fl,so⟩
·rintro c st2 ⟨rfl,⟨h,_⟩|⟨_,pm,fl,so⟩⟩
 ·exact absurd h (by decide)
 exact⟨rfl,pm,fl,so⟩
rintro c st2 ⟨rfl,pm,fl,so⟩
exact kP (q st2 pm fl so))
end
end L2
namespace L2
open PySem PySem.W PySem.Spec PyProof.Rows
section
variable{prog:Program}{w:World}{A:Around}{E:Value→Shared→Prop}{s:Shared}
theorem qK6{vs:List Value}{ns:List Int}(hI:IntsAre vs ns)(nd:ns.Nodup):Ar (pairsOf vs):=by(
refine⟨hI.intKeys,?_⟩
rw[pairsOf_toList]
have e:(vs.zip vs).map ky=ns:=by
 have:(vs.zip vs).map ky=((vs.zip vs).map Prod.fst).map numOf:=by rw[sG];rfl
 rw[this,List.map_fst_zip (kJ _),hI.nums]
rwa [e])
theorem qGC{a:Addr}{vs:List Value}{ns:List Int}{n:Nat}{P:Fin→Shared→Prop}(ho:s.heap.get? a=some (seqObj "list" vs.toArray n))(hI:IntsAre vs ns)(l64:vs.length=64)(nd:ns.Nodup)
 (h:∀(out:Array Value) (ns':List Int),IntsAre out.toList ns'→ns'.Perm ns→ns'.Pairwise (·≤·)→P (.done (.ret .none)) { s with heap:=sortedHeap s.heap a vs out }):wpAny (model prog w) A (Builtin.«list.sort» ⟨[.ref a],[]⟩) P E s:=by(
have zL:(64:Nat)≤sizeLine:=by rw[gL];decide
have vz:vs.toArray.size=64:=by rw[mC];exact l64
have hl:=mB ho
obtain⟨u,hu⟩:∃u,(s.heap.update a (Obj.mapSeq λ_=>#[])).get? a=some (seqObj "list" #[] u):=⟨_,cO ho (λ_=>#[])⟩
have hw:(((s.heap.update a (Obj.mapSeq λ_=>#[])).push (seqObj "tuple" vs.toArray 0)).push (seqObj "list" #[] 0)).get? a=some (seqObj "list" #[] u):=by rw[x8 _ _ _ (by rw[lB,wF];lia),x8 _ _ _ (by rw[wF];lia)];exact hu
rw[list_sort_plain]
refine kB (lA ho rfl (kB (rF ho rfl ?_ (by rw[vz];exact zL) (mQ _))))
refine kB (cW hu rfl (kB (lW (kB (cL (g7 ?_))))))
show wpAny (model prog w) A _ P E { s with heap:=((s.heap.update a (Obj.mapSeq λ_=>#[])).push (seqObj "tuple" vs.toArray 0)).push (seqObj "list" #[] 0) }
dsimp only
rw[hC (by lia),hC (by lia)]
obtain⟨x,y,r,rfl⟩:∃x y r,vs=x::y::r:=by
 match vs,l64 with
 |x::y::r,_=>exact⟨x,y,r,rfl⟩
rw[keyKind_ints hI]
refine kB (mH (kB (g8 (qK5 (a₀:=pairsOf (x::y::r)) (st:=SortSt.mk' oneType' ((x::y::r).toArray.zip (x::y::r).toArray) #[] 7 none) (Q:=λ_ st'=>(arrOf st').Perm (pairsOf (x::y::r))∧failedOf st'=none∧(arrOf st').toList.Pairwise λp q=>ky p≤ky q) (qK6 hI nd) ⟨pW _,rfl,rfl,rfl⟩ (by rw[c9];exact l64) λst' g1 g2 g3=>⟨g1,g2,g3⟩) ?_ λ_ _ e=>e)))
rintro⟨⟨⟩,st'⟩ s' ⟨rfl,pm,hf,so⟩
dsimp only
have sz:(arrOf st').size=64:=by rw[pm.size_eq,c9];exact l64
refine kB (cW hw rfl (kB (rF hw rfl ?_ (mQ _) (by rw[aU,sz];lia))))
rw[hf]
simp only[pA,dH,if_false]
obtain⟨ns',h1,h2,h3⟩:=sorted_out hI pm λi j ij hj=>by
 rw[c9,l64]at hj;rw[K_ky (by lia),K_ky (by lia)];by_cases z:i=j
 ·subst z;exact gE _
 have:=mZ.mp so i j (by simp;lia) (by simp;lia) (by lia);simpa using this
exact mH (h _ ns' h1 h2 h3))
theorem qCC{l:Addr}{vs:List Value}{ns:List Int}{Q:Value→Shared→Prop}(hl:s.heap.IsList l vs.toArray)(hI:IntsAre vs ns)(l64:vs.length=64)(nd:ns.Nodup)
 (h:∀(out:Array Value) (ns':List Int),IntsAre out.toList ns'→ns'.Perm ns→ns'.Pairwise (·≤·)→Q (.ref (s.heap.objs.size+1)) { s with heap:=sortedAll s.heap vs out }):wpAny (model prog w) A (call (.builtin "sorted") [.ref l]) Q E s:=by(
have zL:(64:Nat)≤sizeLine:=by rw[gL];decide
refine sS aH xV xW (args_sorted1 _) ?_
unfold Builtin.«sorted»
refine kB (m:=checkCount "sorted" 1 1 _) (mH (kB (xX hl (kB (cL ?_)) (by rw[l64];exact zL))))
have z1:((s.heap.push (seqObj "list" #[] 0)).update s.heap.objs.size (Obj.mapSeq (· ++vs.toArray))).objs.size=s.heap.objs.size+1:=by rw[wF,lB]
have g:(((s.heap.push (seqObj "list" #[] 0)).update s.heap.objs.size (Obj.mapSeq (· ++vs.toArray))).push (seqObj "list" vs.toArray 0)).get? (s.heap.objs.size+1)=some (seqObj "list" vs.toArray 0):=by rw[←z1];exact mU _ rfl
show wpAny _ _ _ _ _ { s with heap:=((s.heap.push (seqObj "list" #[] 0)).update s.heap.objs.size (Obj.mapSeq (· ++vs.toArray))).push (seqObj "list" vs.toArray 0) }
rw[z1]
exact kB (g7 (nG lZ ⟨_,g,rfl⟩ lG (qGC g hI l64 nd λout ns' a1 a2 a3=>⟨_,rfl,mH ⟨_,rfl,h out ns' a1 a2 a3⟩⟩) (args_list_sort _))))
end
variable{X:Cx}
theorem q7V:q2D X (.builtin "sorted") (λxs H Q=>∃(p:Addr) (ns:List Int),xs=[.ref p]∧SqL X.K H p (ns.map V.int)∧ns.length≤64∧ns.Nodup∧∀ns':List Int,ns'.Perm ns→ns'.Pairwise (·≤·)→NewO H (.lst (ns'.map V.int)) Q):=by(
intro pins s σ H xs us Q I r hZ
obtain⟨p,ns,ex,hq,h64,nd,q⟩:=hZ
by_cases z:ns.length<64
·exact q7F pins s σ H xs us Q I r ⟨p,ns,ex,hq,z,q⟩
subst ex
obtain⟨u,rfl,rx⟩:=q43 r
cases rx
obtain⟨its,rv,pl,hz⟩:=I.list hq
refine qCC pl.isList (q4Q rv) (by rw[←rv.length,hX];lia) nd λout ns' a1 a2 a3=>?_
obtain⟨e,he⟩:=xU s.heap its out
exact⟨.ref (s.heap.objs.size+1),_,I.laid (t':=s.toks) (λ_ _ h=>xC h) (dL _) (show jH X.prog X.w _ _ _ (.lst _)from⟨by rw[hX,a2.length_eq,gL];lia,out.toList,e,q0D a1,by simpa[seqObj]using he⟩),rfl,(q ns' a2 a3).at _ (I.hok.fresh (dL _))⟩)
end L2
namespace L2
open PySem PySem.Spec PyProof.Rows
section
variable{X:Cx}{k:Nat}{f W:Addr}{fd:FuncData}{ps:List Str}{sp:Sp}{dvs:List V}{ds:List Value}{x m:Str}{p pos apos:Pos}{e:Expr}{es:List Expr}{t:TA}
theorem qIY{CX:CXT}{E:XK}(b:ClM X.K W m f)(F:FnOk X.prog X.w X.K X.mg X.base CX k f fd ps sp)(hr:Room k X.A)(hg:Gl X x)(hm:X.mg x=some (.ref W))(hb:y6 X.K fd ps ds)(hd:Vals dvs ds)(hx:q09 CX X E)(ha:PA X (e::es) t)(hdb:(x==("__debug__":Str))=false:=by decide)
 (he:starEach (e::es) X.env=(false,eval e X.env)::starEach es X.env:=by rfl) (hpl:(backTo pos (starEach es X.env)).any (·.1)=false:=by rfl) {pl:Sem Bool}
 (ht:eval (.Call (.Attribute (.Name x p) m apos) (e::es) [] pos) X.env=(do
  let ov←eval (.Name x p) X.env
  standAt apos.atName
  let(f,first)←holding [ov] (getMethod ov m pl)
  callWith pos f first (backTo pos (starEach (e::es) X.env)) (backToKw pos (keywordEach [] X.env))):=by rfl):
 PE X (.Call (.Attribute (.Name x p) m apos) (e::es) [] pos) (qGK sp dvs E t):=by(
intro pins s σ H Q I h
refine rL (pl:=pl) (q1S I hg hm ?_ hdb) ht
refine PySem.W.method_cls I.kIn b.ga (PySem.W.cls_value I.kIn b.rd b.fd rfl ?_)
refine wI (first:=[]) (h₀:=X.base) I.ok.mod.kin b.kp (thn (ha pos pins _ σ H _ (I.tok _) h) λus s2 ⟨vs,H2,I2,r,q2⟩=>⟨I2.kIn,?_⟩) he hpl
exact q7A F hr hb hd hx I2 r q2)
end
end L2
namespace L2
open PySem
theorem qCD{K:PySem.W.Frag}{a:Addr}{xs:List V}{g:TG}{tb:TS}{D:Ends}{σ:St}{H:Hp}(Pv:Nat→St→Hp→Prop)(h0:Pv 0 σ H)(hl:∀i σ H,i≤xs.length→Pv i σ H→SqL K H a xs)
 (hs:∀i x σ H (D':Ends),(∀σ' H',Pv (i+1) σ' H'→D'.nx σ' H')→xs[i]?=some x→Pv i σ H→g x σ H λσ2 H2=>tb D' σ2 H2) (hd:∀σ H,Pv xs.length σ H→D.nx σ H):
 ∃W:Nat→Nat→St→Hp→Prop,(∃m,W 0 m σ H)∧∀i m σ H,W i m σ H→((Itl K a).stop i H∧D.nx σ H)∨((Itl K a).go i H∧∃N:St→Hp→Prop,(∀σ' H',N σ' H'→∃m',m'<m∧W (i+1) m' σ' H')∧∀x H',(Itl K a).yld i H x H'→g x σ H' λσ2 H2=>tb { D with nx:=N,ct:=N,bk:=D.nx } σ2 H2):=v4 Pv h0 hl (λi x σ H hx p=>hs i x σ H _ (λ_ _ q=>q) hx p) hd
theorem q5O{lo:Int}{n:Nat}{g:TG}{tb:TS}{D:Ends}{σ:St}{H:Hp}(Pv:Nat→St→Hp→Prop)(h0:Pv 0 σ H)
 (hs:∀i σ H (D':Ends),(∀σ' H',Pv (i+1) σ' H'→D'.nx σ' H')→i<n→Pv i σ H→g (.int (lo+i)) σ H λσ2 H2=>tb D' σ2 H2) (hd:∀σ H,Pv n σ H→D.nx σ H):
 ∃W:Nat→Nat→St→Hp→Prop,(∃m,W 0 m σ H)∧∀i m σ H,W i m σ H→((Itr lo n).stop i H∧D.nx σ H)∨((Itr lo n).go i H∧∃N:St→Hp→Prop,(∀σ' H',N σ' H'→∃m',m'<m∧W (i+1) m' σ' H')∧∀x H',(Itr lo n).yld i H x H'→g x σ H' λσ2 H2=>tb { D with nx:=N,ct:=N,bk:=D.nx } σ2 H2):=q6M Pv h0 (λi σ H hx p=>hs i σ H _ (λ_ _ q=>q) hx p) hd
theorem iV{σ:St}{i:Nat}{v:V}{Q:V→Prop}(e:σ[i]?=some (some v))(q:Q v):∃v,σ[i]?=some (some v)∧Q v:=⟨v,e,q⟩
theorem iF{K:PySem.W.Frag}{H:Hp}{f:Str}{a C d:Addr}{fs:List (Str×V)}{v:V}{Q:V→Prop}(o:H a=some (.ins C d fs))(cl:Cls K C)(na:qN K C f)(lk:fs.lookup f=some v)(q:Q v):
 ∃a' C dx fs v,V.ref a=.ref a'∧H a'=some (.ins C dx fs)∧Cls K C∧qN K C f∧fs.lookup f=some v∧Q v:=⟨a,C,d,fs,v,rfl,o,cl,na,lk,q⟩
theorem iM{H:Hp}{m:Str}{a C d:Addr}{fs:List (Str×V)}{q:Prop}(o:H a=some (.ins C d fs))(lk:fs.lookup m=none)(k:q):
 ∃a' dx fs,V.ref a=.ref a'∧H a'=some (.ins C dx fs)∧fs.lookup m=none∧q:=⟨a,d,fs,rfl,o,lk,k⟩
theorem iI{i j:Int}{Q:Int→Int→Prop}(q:Q i j):∃i' j',V.int i=.int i'∧V.int j=.int j'∧Q i' j':=⟨i,j,rfl,rfl,q⟩
theorem iL{K:PySem.W.Frag}{H:Hp}{p:Addr}{xs:List V}{k:Int}{v:V}{Q:V→Prop}(h:SqL K H p xs)(e:atI xs k=some v)(q:Q v):∃p' xs k' v,V.ref p=.ref p'∧V.int k=.int k'∧SqL K H p' xs∧atI xs k'=some v∧Q v:=⟨p,xs,k,v,rfl,rfl,h,e,q⟩
theorem iT{K:PySem.W.Frag}{H:Hp}{p:Addr}{xs:List V}{k:Int}{v:V}{Q:V→Prop}(h:SqT K H p xs)(e:atI xs k=some v)(q:Q v):∃p' xs k' v,V.ref p=.ref p'∧V.int k=.int k'∧SqT K H p' xs∧atI xs k'=some v∧Q v:=⟨p,xs,k,v,rfl,rfl,h,e,q⟩
end L2
namespace L2
open PySem PySem.Spec PyProof.Rows
structure Fn1(K:PySem.W.Frag)(x q:Str)(st:Stmt)(f:Addr)(ps:List Str) where
fd:FuncData
F:FunD K x q st .none f fd
b:y6 K fd ps []
noncomputable abbrev Fn1.Ok0{K:PySem.W.Frag}{x q:Str}{st:Stmt}{f:Addr}{ps:List Str}(F:Fn1 K x q st f ps)(P:Program)(w:World)(mg:Str→Option Value)(base:Heap)(k:Nat)(sp:Sp):Prop:=FnOk P w K mg base CX0 k f F.fd ps sp
noncomputable abbrev Fn1.OkE{K:PySem.W.Frag}{x q:Str}{st:Stmt}{f:Addr}{ps:List Str}(F:Fn1 K x q st f ps)(P:Program)(w:World)(mg:Str→Option Value)(base:Heap)(k:Nat)(sp:Sp):Prop:=FnOk P w K mg base (CXe P w) k f F.fd ps sp
noncomputable abbrev FnX(K:PySem.W.Frag)(x q:Str)(st:Stmt)(f:Addr):Prop:=∃fd,FunD K x q st .none f fd
section
variable{K:PySem.W.Frag}{x q:Str}{st:Stmt}{f:Addr}{ps:List Str}
noncomputable def BnX(x q:Str)(st:Stmt)(ps:List Str):Prop:=∀(kV doc pm:Value) (an:Option Addr) (cdv ct:Value) (us:List Value),us.length=ps.length→bindArgs (PySem.W.fnOf x q (yF st) (jW st) (qF st) .none kV doc pm an cdv ct) ⟨us,[]⟩=pure (ps.zip us)
theorem fn1b(h:BnX x q st ps){fd:FuncData}(F:FunD K x q st .none f fd):y6 K fd ps []:=by obtain⟨oc,od,kV,doc,pm,an,cdv,ct,osl,rfl,lk,hcd⟩:=F.ex;exact y6.all λus hl=>h kV doc pm an cdv ct us hl
theorem lnx{us:List Value}{n:Nat}(h:us.length=n):us=(List.range n).map (us.getD · .none):=by subst h;refine cE (by simp) λi h1 h2=>?_;simp[kD h1]
theorem bnx(h:∀kV doc pm an cdv ct (g:Nat→Value),bindArgs (PySem.W.fnOf x q (yF st) (jW st) (qF st) .none kV doc pm an cdv ct) ⟨(List.range ps.length).map g,[]⟩=pure (ps.zip ((List.range ps.length).map g))):BnX x q st ps:=λkV doc pm an cdv ct us hl=>by rw[lnx hl];exact h ..
noncomputable def fn1 (l:FnX K x q st f) (h:∀kV doc pm an cdv ct (g:Nat→Value),bindArgs (PySem.W.fnOf x q (yF st) (jW st) (qF st) .none kV doc pm an cdv ct) ⟨(List.range ps.length).map g,[]⟩=pure (ps.zip ((List.range ps.length).map g)):=by intros;rfl):Fn1 K x q st f ps:=⟨l.choose,l.choose_spec,fn1b (bnx h) l.choose_spec⟩
theorem FnX.bind1{a:Str}{fd:FuncData}(h:∀kV doc pm an cdv ct u,bindArgs (PySem.W.fnOf x q (yF st) (jW st) (qF st) .none kV doc pm an cdv ct) ⟨[u],[]⟩=pure [(a,u)])(F:FunD K x q st .none f fd)(s:Shared)(v:Value):BindsTo s fd ⟨[v],[]⟩ [(a,v)]:=by obtain⟨oc,od,kV,doc,pm,an,cdv,ct,osl,rfl,lk,hcd⟩:=F.ex;exact .of_eq (h kV doc pm an cdv ct v)
theorem FnX.of{oc:Value}{od an:Option Addr}{osl:Array (Option Value)}{kV doc pm cdv ct:Value}(l:K.lookup f=some ⟨oc,od,.func (PySem.W.fnOf x q (yF st) (jW st) (qF st) .none kV doc pm an cdv ct),osl⟩)(c:PySem.W.codeIn K cdv q=true):FnX K x q st f:=⟨_,FunD.mk' l c⟩
theorem qQ{N P:List Str}{sc:Scope}(h:(sc.kind=.function∧sc.isCoroutine=false∧sc.isGenerator=false)∧N.Nodup∧N.take P.length=P∧(∀x∈P,sc.names.lookup x=some .local∨sc.names.lookup x=some .cell)∧∀y∈sc.names,y.2≠ .free):FnScope N P sc:=⟨h.1.1,h.1.2.1,h.1.2.2,h.2.1,h.2.2.1,h.2.2.2.1,h.2.2.2.2⟩
end
noncomputable abbrev GFn(K:PySem.W.Frag)(n:Str)(f:Addr):Prop:=PySem.W.nsIn K mainGlobals n=some (some (.ref f))∧PySem.W.keepIn K (.ref f)=true
theorem sz0:0≤sizeLine:=by decide
theorem sz1:1≤sizeLine:=by decide
theorem sz2:2≤sizeLine:=by decide
theorem sz3:3≤sizeLine:=by decide
theorem sz4:4≤sizeLine:=by decide
theorem sz5:5≤sizeLine:=by decide
end L2
namespace W1
open PySem L2
noncomputable def top(i:Nat):Stmt:=PySem.Challenge.pw_wornpages_k38_whole_full_share.main.body.getD i (.Pass ⟨0,0,0,0⟩)
noncomputable abbrev q2M:Stmt:=(top 15)
noncomputable abbrev q15:Stmt:=(top 16)
noncomputable abbrev q2N:Stmt:=(top 17)
noncomputable abbrev q2O:Stmt:=(top 18)
noncomputable abbrev q3X:Stmt:=(top 22)
noncomputable abbrev q3Y:Stmt:=(top 23)
noncomputable abbrev q16:Stmt:=(qM (top 25) 0)
noncomputable abbrev q17:Stmt:=(qM (top 25) 1)
noncomputable abbrev q18:Stmt:=(qM (top 25) 2)
noncomputable abbrev zC:Stmt:=(qM (top 25) 3)
noncomputable abbrev vL:Stmt:=(qM (top 25) 4)
noncomputable abbrev uJ:Stmt:=(qM (top 25) 6)
noncomputable abbrev q19:Stmt:=(qM (top 25) 7)
noncomputable abbrev q0H:Stmt:=(qM (top 27) 0)
noncomputable abbrev q0I:Stmt:=(qM (top 27) 1)
noncomputable abbrev jO:Stmt:=(qM (top 27) 2)
noncomputable abbrev q0J:Stmt:=(qM (top 27) 3)
noncomputable abbrev q0K:Stmt:=(qM (top 27) 4)
noncomputable abbrev zD:Stmt:=(qM (top 27) 6)
noncomputable abbrev uW:Stmt:=(qM (top 27) 8)
noncomputable abbrev q1A:Stmt:=(qM (top 27) 9)
noncomputable abbrev zE:Stmt:=(qM (top 27) 10)
noncomputable abbrev v8:Stmt:=(qM (top 27) 11)
noncomputable abbrev q0L:Stmt:=(qM (top 27) 12)
noncomputable abbrev q0M:Stmt:=(qM (top 27) 13)
noncomputable abbrev yT:Stmt:=(qM (top 27) 14)
noncomputable abbrev yU:Stmt:=(qM (top 27) 15)
noncomputable abbrev q2P:Stmt:=(top 29)
noncomputable abbrev q0N:Stmt:=(qM (top 30) 0)
noncomputable abbrev v9:Stmt:=(qM (top 30) 2)
noncomputable abbrev zF:Stmt:=(qM (top 30) 3)
noncomputable abbrev zG:Stmt:=(qM (top 30) 4)
noncomputable abbrev uK:Stmt:=(qM (top 30) 5)
noncomputable abbrev yG:Stmt:=(qM (top 30) 6)
noncomputable abbrev vA:Stmt:=(qM (top 30) 7)
noncomputable abbrev vM:Stmt:=(qM (top 30) 8)
noncomputable abbrev yH:Stmt:=(qM (top 30) 9)
noncomputable abbrev zH:Stmt:=(qM (top 30) 10)
noncomputable abbrev yJ:Stmt:=(qM (top 30) 11)
noncomputable abbrev zI:Stmt:=(qM (top 30) 12)
noncomputable abbrev uL:Stmt:=(qM (top 30) 13)
noncomputable abbrev uM:Stmt:=(qM (top 30) 14)
noncomputable abbrev uA:Stmt:=(qM (top 30) 15)
noncomputable abbrev uB:Stmt:=(qM (top 30) 16)
noncomputable abbrev q1B:Stmt:=(top 32)
noncomputable abbrev uF:Stmt:=(qM (top 33) 0)
noncomputable abbrev q2Q:Stmt:=(qM (top 33) 1)
noncomputable abbrev q1C:Stmt:=(qM (top 33) 2)
noncomputable abbrev q1D:Stmt:=(qM (top 33) 3)
noncomputable abbrev vO:Stmt:=(qM (top 33) 6)
noncomputable abbrev vP:Stmt:=(qM (top 33) 7)
noncomputable abbrev zJ:Stmt:=(qM (top 33) 8)
noncomputable abbrev uN:Stmt:=(qM (top 33) 10)
noncomputable abbrev uC:Stmt:=(qM (top 33) 11)
noncomputable abbrev uD:Stmt:=(qM (top 33) 12)
noncomputable abbrev uO:Stmt:=(qM (top 33) 13)
noncomputable abbrev vB:Stmt:=(qM (top 33) 14)
noncomputable abbrev vQ:Stmt:=(qM (top 33) 15)
noncomputable abbrev zK:Stmt:=(top 35)
noncomputable abbrev uX:Stmt:=(top 36)
noncomputable abbrev uP:Stmt:=(qM (top 37) 0)
noncomputable abbrev zM:Stmt:=(qM (top 37) 1)
noncomputable abbrev yV:Stmt:=(qM (top 38) 0)
noncomputable abbrev yW:Stmt:=(qM (top 39) 0)
noncomputable abbrev uE:Stmt:=(qM (top 40) 0)
noncomputable abbrev yQ:Stmt:=(qM (top 42) 0)
noncomputable abbrev vR:Stmt:=(qM (top 42) 1)
noncomputable abbrev zN:Stmt:=(top 44)
noncomputable abbrev q2R:Stmt:=(top 45)
noncomputable abbrev q2S:Stmt:=(top 46)
noncomputable abbrev zO:Stmt:=(top 47)
noncomputable abbrev vS:Stmt:=(top 48)
noncomputable abbrev q2T:Stmt:=(top 49)
noncomputable abbrev qEL:Stmt:=(top 50)
set_option genInjectivity false in
structure Adr where
(f_is_whole f_is_within f_is_shape f_is_value f_mark_of f_bits_of f_Book_init f_Book_mark f_Book_note f_Book_forget f_Book_emptied f_Book_live_pages f_Book_held f_Plain_init f_Plain_good f_Plain_free f_Plain_part f_Plain_spot f_Plain_ready f_Plain_set_down f_Plain_lay f_Plain_write f_Plain_give_up f_Plain_read f_Plain_held f_Plain_check_sheet f_Plain_check_share f_paper_of f_Store_init f_Store_reserve f_Store_tally f_Store_space f_Store_full_ones f_Store_with_dead_page f_Store_options f_Store_choice f_Store_choice_by_rule f_Store_moved f_Store_value_to_move f_Store_wiped f_Store_clear_out f_Store_make_room f_Store_make_ready f_Store_make_rooms f_limits_of f_Chip_init f_Chip_put f_Chip_wipe f_Chip_read f_Chip_is_dark f_Chip_cleared f_Chip_failed f_Chip_check_page f_Chip_check_block f_Chip_check_power f_Chip_check_deed f_Chip_is_spent f_Chip_do_deed f_is_unbeaten f_first_unbeaten f_Rule_goes_ahead f_Rule_choose f_Fewest_goes_ahead f_Eldest_goes_ahead f_Worth_goes_ahead f_Terms_init f_Terms_closed f_law_cell_at f_law_size f_law_rule f_law_written f_law_given_up f_law_full f_law C_Book C_Plain C_Store C_Chip C_Rule C_Fewest C_Eldest C_Worth C_Terms C_PowerGone C_Full C_NoRoom:Addr)
iD:Tok
aBE:Tok
aAD:Tok
aAA:Addr
bM:Addr
structure Txt(K:W.Frag)(mg:Str→Option Value)(t:Adr):Prop where
aDH:mg "Book"=some (.ref t.C_Book)
bS:Cls K t.C_Book
aAV:qN K t.C_Book "blocks"
fV:qN K t.C_Book "pages"
b8:qN K t.C_Book "stamp"
eI:qN K t.C_Book "where"
iH:qN K t.C_Book "live"
bV:qN K t.C_Book "filled"
iC:qN K t.C_Book "born"
aB2:Meth K t.C_Book "mark" t.f_Book_mark
aB5:Meth K t.C_Book "note" t.f_Book_note
tL:Meth K t.C_Book "forget" t.f_Book_forget
aAY:Meth K t.C_Book "emptied" t.f_Book_emptied
tR:Meth K t.C_Book "live_pages" t.f_Book_live_pages
aB4:Meth K t.C_Book "held" t.f_Book_held
aDD:Mk K t.C_Book t.f_Book_init
aC5:mg "Plain"=some (.ref t.C_Plain)
aDA:mg "Store"=some (.ref t.C_Store)
bN:Cls K t.C_Store
b9:qN K t.C_Store "chip"
bR:qN K t.C_Store "terms"
bQ:qN K t.C_Store "book"
fG:qN K t.C_Store "rule"
eC:qN K t.C_Store "papers"
i7:Meth K t.C_Store "reserve" t.f_Store_reserve
aBH:Meth K t.C_Store "tally" t.f_Store_tally
aA7:Meth K t.C_Store "space" t.f_Store_space
tV:Meth K t.C_Store "full_ones" t.f_Store_full_ones
i5:Meth K t.C_Store "with_dead_page" t.f_Store_with_dead_page
oM:Meth K t.C_Store "options" t.f_Store_options
aAW:Meth K t.C_Store "choice" t.f_Store_choice
i4:Meth K t.C_Store "choice_by_rule" t.f_Store_choice_by_rule
aBB:Meth K t.C_Store "moved" t.f_Store_moved
oA:Meth K t.C_Store "value_to_move" t.f_Store_value_to_move
aBI:Meth K t.C_Store "wiped" t.f_Store_wiped
tT:Meth K t.C_Store "clear_out" t.f_Store_clear_out
tX:Meth K t.C_Store "make_room" t.f_Store_make_room
iG:Meth K t.C_Store "make_ready" t.f_Store_make_ready
tK:Meth K t.C_Store "make_rooms" t.f_Store_make_rooms
oC:Meth K t.C_Store "good" t.f_Plain_good
oH:Meth K t.C_Store "free" t.f_Plain_free
oQ:Meth K t.C_Store "part" t.f_Plain_part
aBY:Meth K t.C_Store "spot" t.f_Plain_spot
aBJ:Meth K t.C_Store "ready" t.f_Plain_ready
aAB:Meth K t.C_Store "set_down" t.f_Plain_set_down
tI:Meth K t.C_Store "lay" t.f_Plain_lay
tO:Meth K t.C_Store "write" t.f_Plain_write
aAI:Meth K t.C_Store "give_up" t.f_Plain_give_up
aBS:Meth K t.C_Store "read" t.f_Plain_read
fO:Meth K t.C_Store "held" t.f_Plain_held
fA:Meth K t.C_Store "check_sheet" t.f_Plain_check_sheet
tD:Meth K t.C_Store "check_share" t.f_Plain_check_share
aC1:Mk K t.C_Store t.f_Store_init
aDF:mg "Chip"=some (.ref t.C_Chip)
bO:Cls K t.C_Chip
eT:qN K t.C_Chip "blocks"
eJ:qN K t.C_Chip "pages"
t9:qN K t.C_Chip "most"
oY:qN K t.C_Chip "limits"
fD:qN K t.C_Chip "borne"
eO:qN K t.C_Chip "clearings"
f8:qN K t.C_Chip "deed_counts"
iQ:qN K t.C_Chip "broken"
eN:qN K t.C_Chip "deeds_left"
oS:qN K t.C_Chip "record"
aCP:Meth K t.C_Chip "put" t.f_Chip_put
aB8:Meth K t.C_Chip "wipe" t.f_Chip_wipe
aAS:Meth K t.C_Chip "read" t.f_Chip_read
aA1:Meth K t.C_Chip "is_dark" t.f_Chip_is_dark
oX:Meth K t.C_Chip "cleared" t.f_Chip_cleared
aBL:Meth K t.C_Chip "failed" t.f_Chip_failed
iW:Meth K t.C_Chip "check_page" t.f_Chip_check_page
fH:Meth K t.C_Chip "check_block" t.f_Chip_check_block
iJ:Meth K t.C_Chip "check_power" t.f_Chip_check_power
iU:Meth K t.C_Chip "check_deed" t.f_Chip_check_deed
oN:Meth K t.C_Chip "is_spent" t.f_Chip_is_spent
oZ:Meth K t.C_Chip "do_deed" t.f_Chip_do_deed
aDI:Mk K t.C_Chip t.f_Chip_init
aDG:mg "Rule"=some (.ref t.C_Rule)
aCS:Cls K t.C_Rule
tZ:Meth K t.C_Rule "goes_ahead" t.f_Rule_goes_ahead
aBN:Meth K t.C_Rule "choose" t.f_Rule_choose
aCZ:Mk0 K t.C_Rule
aCU:mg "Fewest"=some (.ref t.C_Fewest)
aBR:Cls K t.C_Fewest
o7:Meth K t.C_Fewest "goes_ahead" t.f_Fewest_goes_ahead
aAN:Meth K t.C_Fewest "choose" t.f_Rule_choose
aCL:Mk0 K t.C_Fewest
aCV:mg "Eldest"=some (.ref t.C_Eldest)
aBX:Cls K t.C_Eldest
o9:Meth K t.C_Eldest "goes_ahead" t.f_Eldest_goes_ahead
aAR:Meth K t.C_Eldest "choose" t.f_Rule_choose
aCO:Mk0 K t.C_Eldest
aC7:mg "Worth"=some (.ref t.C_Worth)
aCK:Cls K t.C_Worth
tN:Meth K t.C_Worth "goes_ahead" t.f_Worth_goes_ahead
aAZ:Meth K t.C_Worth "choose" t.f_Rule_choose
aCQ:Mk0 K t.C_Worth
aC2:mg "Terms"=some (.ref t.C_Terms)
bU:Cls K t.C_Terms
fB:qN K t.C_Terms "blocks"
bT:qN K t.C_Terms "pages"
i8:qN K t.C_Terms "sheets"
oR:qN K t.C_Terms "share"
oF:qN K t.C_Terms "ill"
aAT:qN K t.C_Terms "spread"
aA2:Meth K t.C_Terms "closed" t.f_Terms_closed
aC8:Mk K t.C_Terms t.f_Terms_init
aBU:mg "PowerGone"=some (.ref t.C_PowerGone)
aCF:XCls K t.C_PowerGone
aCT:mg "Full"=some (.ref t.C_Full)
aDK:XCls K t.C_Full
aCR:mg "NoRoom"=some (.ref t.C_NoRoom)
aC3:XCls K t.C_NoRoom
aC4:ClM K t.C_Plain "__init__" t.f_Plain_init
aBV:W.exmOne K (.ref t.C_Full) (.ref t.C_Full)=some true
aBK:W.codeHdIn K t.aAA t.bM=true
aCB:mg "is_whole"=some (.ref t.f_is_whole)
aB9:W.keepIn K (.ref t.f_is_whole)=true
bW:mg "is_within"=some (.ref t.f_is_within)
bX:W.keepIn K (.ref t.f_is_within)=true
aAG:mg "is_shape"=some (.ref t.f_is_shape)
aAO:W.keepIn K (.ref t.f_is_shape)=true
aB7:mg "is_value"=some (.ref t.f_is_value)
aCA:W.keepIn K (.ref t.f_is_value)=true
aCN:mg "mark_of"=some (.ref t.f_mark_of)
aCM:W.keepIn K (.ref t.f_mark_of)=true
aA5:mg "bits_of"=some (.ref t.f_bits_of)
aA6:W.keepIn K (.ref t.f_bits_of)=true
aAU:mg "paper_of"=some (.ref t.f_paper_of)
aAH:W.keepIn K (.ref t.f_paper_of)=true
aB1:mg "limits_of"=some (.ref t.f_limits_of)
aBZ:W.keepIn K (.ref t.f_limits_of)=true
aAX:mg "is_unbeaten"=some (.ref t.f_is_unbeaten)
aA4:W.keepIn K (.ref t.f_is_unbeaten)=true
t6:mg "first_unbeaten"=some (.ref t.f_first_unbeaten)
tS:W.keepIn K (.ref t.f_first_unbeaten)=true
bZ:mg "_law_cell_at"=some (.ref t.f_law_cell_at)
bY:W.keepIn K (.ref t.f_law_cell_at)=true
aB3:mg "_law_size"=some (.ref t.f_law_size)
aCG:W.keepIn K (.ref t.f_law_size)=true
aCJ:mg "_law_rule"=some (.ref t.f_law_rule)
aCH:W.keepIn K (.ref t.f_law_rule)=true
iN:mg "_law_written"=some (.ref t.f_law_written)
iK:W.keepIn K (.ref t.f_law_written)=true
oE:mg "_law_given_up"=some (.ref t.f_law_given_up)
oJ:W.keepIn K (.ref t.f_law_given_up)=true
aB6:mg "_law_full"=some (.ref t.f_law_full)
aCD:W.keepIn K (.ref t.f_law_full)=true
t7:mg "MOST_TOLD"=some (.int 1000000 t.iD)
aCI:mg "ROLL"=some (.int 64 t.aBE)
aC0:mg "NAMES"=some (.int 128 t.aAD)
aDJ:mg "bool"=none
aDL:mg "int"=none
t8:mg "isinstance"=none
tQ:mg "len"=none
aDB:mg "list"=none
aC9:mg "min"=none
aAJ:mg "range"=none
aBO:mg "sorted"=none
set_option genInjectivity false
structure Fns(K:W.Frag)(t:Adr) where
aBG:Fn1 K "is_whole" "is_whole" q2M t.f_is_whole ["thing"]
eG:Fn1 K "is_within" "is_within" q15 t.f_is_within ["thing","low","high"]
aAE:Fn1 K "is_shape" "is_shape" q2N t.f_is_shape ["blocks","pages"]
aBQ:Fn1 K "is_value" "is_value" q2O t.f_is_value ["thing"]
aCC:Fn1 K "mark_of" "mark_of" q3X t.f_mark_of ["stamp","name"]
aA9:Fn1 K "bits_of" "bits_of" q3Y t.f_bits_of ["sheets"]
aAP:Fn1 K "__init__" "Book.__init__" q16 t.f_Book_init ["self","blocks","pages"]
aAL:Fn1 K "mark" "Book.mark" q17 t.f_Book_mark ["self","name"]
aAQ:Fn1 K "note" "Book.note" q18 t.f_Book_note ["self","page","name"]
iZ:Fn1 K "forget" "Book.forget" zC t.f_Book_forget ["self","name"]
oP:Fn1 K "emptied" "Book.emptied" vL t.f_Book_emptied ["self","block"]
fX:Fn1 K "live_pages" "Book.live_pages" uJ t.f_Book_live_pages ["self","block"]
aAF:Fn1 K "held" "Book.held" q19 t.f_Book_held ["self"]
tW:Fn1 K "__init__" "Plain.__init__" q0H t.f_Plain_init ["self","chip","terms"]
iR:Fn1 K "good" "Plain.good" q0I t.f_Plain_good ["self"]
iX:FuncData
aBW:FunT K "free" "Plain.free" jO t.aAA t.f_Plain_free iX
oB:y6 K iX ["self"] []
iS:Fn1 K "part" "Plain.part" q0J t.f_Plain_part ["self"]
tP:Fn1 K "spot" "Plain.spot" q0K t.f_Plain_spot ["self"]
tH:Fn1 K "ready" "Plain.ready" zD t.f_Plain_ready ["self"]
iP:Fn1 K "set_down" "Plain.set_down" uW t.f_Plain_set_down ["self","name","value"]
oI:Fn1 K "lay" "Plain.lay" q1A t.f_Plain_lay ["self","name","value"]
iY:Fn1 K "write" "Plain.write" zE t.f_Plain_write ["self","sheet","value"]
i3:Fn1 K "give_up" "Plain.give_up" v8 t.f_Plain_give_up ["self","sheets"]
tY:Fn1 K "read" "Plain.read" q0L t.f_Plain_read ["self","sheet"]
fN:Fn1 K "held" "Plain.held" q0M t.f_Plain_held ["self"]
eE:Fn1 K "check_sheet" "Plain.check_sheet" yT t.f_Plain_check_sheet ["self","sheet"]
fL:Fn1 K "check_share" "Plain.check_share" yU t.f_Plain_check_share ["self","sheet"]
aAC:Fn1 K "paper_of" "paper_of" q2P t.f_paper_of ["why","options","block","moved","wiped"]
tU:Fn1 K "__init__" "Store.__init__" q0N t.f_Store_init ["self","chip","terms","rule"]
fU:Fn1 K "reserve" "Store.reserve" v9 t.f_Store_reserve ["self"]
tE:Fn1 K "tally" "Store.tally" zF t.f_Store_tally ["self","block"]
o6:Fn1 K "space" "Store.space" zG t.f_Store_space ["self"]
f6:Fn1 K "full_ones" "Store.full_ones" uK t.f_Store_full_ones ["self"]
eS:Fn1 K "with_dead_page" "Store.with_dead_page" yG t.f_Store_with_dead_page ["self"]
fS:Fn1 K "options" "Store.options" vA t.f_Store_options ["self"]
i9:Fn1 K "choice" "Store.choice" vM t.f_Store_choice ["self"]
eQ:Fn1 K "choice_by_rule" "Store.choice_by_rule" yH t.f_Store_choice_by_rule ["self","options"]
tJ:Fn1 K "moved" "Store.moved" zH t.f_Store_moved ["self","block"]
eZ:Fn1 K "value_to_move" "Store.value_to_move" yJ t.f_Store_value_to_move ["self","page","name"]
tF:Fn1 K "wiped" "Store.wiped" zI t.f_Store_wiped ["self","block"]
f9:Fn1 K "clear_out" "Store.clear_out" uL t.f_Store_clear_out ["self","block"]
fY:Fn1 K "make_room" "Store.make_room" uM t.f_Store_make_room ["self"]
eU:Fn1 K "make_ready" "Store.make_ready" uA t.f_Store_make_ready ["self"]
fR:Fn1 K "make_rooms" "Store.make_rooms" uB t.f_Store_make_rooms ["self"]
aAM:Fn1 K "limits_of" "limits_of" q1B t.f_limits_of ["ills","blocks"]
fP:FuncData
aB0:Value
aCE:FunD K "__init__" "Chip.__init__" uF aB0 t.f_Chip_init fP
aDE:y6 K fP ["self","blocks","pages","most","ills"] []
oU:List Value
aC6:y6 K fP ["self","blocks","pages","most","ills"] oU
aCY:Vals [.non] oU
oW:List Value
aBM:y6 K fP ["self","blocks","pages","most","ills"] oW
aBA:Vals [.int 1000000,.non] oW
aBC:Fn1 K "put" "Chip.put" q2Q t.f_Chip_put ["self","page","stuff"]
aAK:Fn1 K "wipe" "Chip.wipe" q1C t.f_Chip_wipe ["self","block"]
tM:Fn1 K "read" "Chip.read" q1D t.f_Chip_read ["self","page"]
i6:Fn1 K "is_dark" "Chip.is_dark" vO t.f_Chip_is_dark ["self"]
iE:Fn1 K "cleared" "Chip.cleared" vP t.f_Chip_cleared ["self","block"]
o8:Fn1 K "failed" "Chip.failed" zJ t.f_Chip_failed ["self","block"]
fF:Fn1 K "check_page" "Chip.check_page" uN t.f_Chip_check_page ["self","page"]
eM:Fn1 K "check_block" "Chip.check_block" uC t.f_Chip_check_block ["self","block"]
eW:Fn1 K "check_power" "Chip.check_power" uD t.f_Chip_check_power ["self"]
fE:Fn1 K "check_deed" "Chip.check_deed" uO t.f_Chip_check_deed ["self","block"]
fT:Fn1 K "is_spent" "Chip.is_spent" vB t.f_Chip_is_spent ["self","block"]
iA:Fn1 K "do_deed" "Chip.do_deed" vQ t.f_Chip_do_deed ["self","word","place","block","fails"]
tG:Fn1 K "is_unbeaten" "is_unbeaten" zK t.f_is_unbeaten ["rule","tally","tallies","pages","now"]
iO:Fn1 K "first_unbeaten" "first_unbeaten" uX t.f_first_unbeaten ["rule","tallies","pages","now"]
fZ:Fn1 K "goes_ahead" "Rule.goes_ahead" uP t.f_Rule_goes_ahead ["self","one","other","pages","now"]
fK:Fn1 K "choose" "Rule.choose" zM t.f_Rule_choose ["self","tallies","pages","now"]
fJ:Fn1 K "goes_ahead" "Fewest.goes_ahead" yV t.f_Fewest_goes_ahead ["self","one","other","pages","now"]
fM:Fn1 K "goes_ahead" "Eldest.goes_ahead" yW t.f_Eldest_goes_ahead ["self","one","other","pages","now"]
fQ:Fn1 K "goes_ahead" "Worth.goes_ahead" uE t.f_Worth_goes_ahead ["self","one","other","pages","now"]
fI:FuncData
aBF:Value
aBT:FunD K "__init__" "Terms.__init__" yQ aBF t.f_Terms_init fI
aDC:y6 K fI ["self","blocks","pages","sheets","share","ill","spread"] []
oG:List Value
aA0:y6 K fI ["self","blocks","pages","sheets","share","ill","spread"] oG
aA3:Vals [.int 1000000] oG
oO:List Value
aCW:y6 K fI ["self","blocks","pages","sheets","share","ill","spread"] oO
aCX:Vals [.int 0,.int 1000000] oO
oK:Fn1 K "closed" "Terms.closed" vR t.f_Terms_closed ["self"]
eA:Fn1 K "_law_cell_at" "_law_cell_at" zN t.f_law_cell_at ["_law_script","_law_k"]
aBP:Fn1 K "_law_size" "_law_size" q2R t.f_law_size ["_law_script"]
aBD:Fn1 K "_law_rule" "_law_rule" q2S t.f_law_rule ["_law_cell"]
fW:Fn1 K "_law_written" "_law_written" zO t.f_law_written ["_law_store","_law_kept","_law_sheet","_law_number"]
iB:Fn1 K "_law_given_up" "_law_given_up" vS t.f_law_given_up ["_law_store","_law_kept","_law_sheet"]
aA8:Fn1 K "_law_full" "_law_full" q2T t.f_law_full ["_law_store","_law_sheet"]
law:Fn1 K "law" "law" qEL t.f_law ["_law_script"]
structure HkE where
P:Program
w:World
K:W.Frag
mg:Str→Option Value
t:Adr
noncomputable def hkB(e:HkE):Prop:=∃(S:Fns e.K e.t) (base:Heap),Txt e.K e.mg e.t∧BmIn base e.mg∧¬S.law.Ok0 e.P e.w e.mg base 19 (q3T e.K [e.t.bM])
instance:Nonempty HkE:=⟨⟨PySem.Challenge.pw_wornpages_k38_whole_full_share,⟨λ_ _=>0,{ strHash:=λ_=>0,shareClass:=λ_=>0,mergeTok:=id,idOf:=λ_=>0,idOfShared:=λ_ _=>0,followText:=λ_=>false,idOfImm:=λ_=>0 }⟩,[],λ_=>none,by constructor<;>exact(0:Nat)⟩⟩
@[irreducible] noncomputable def hkE:HkE:=Classical.epsilon hkB
noncomputable def P:Program:=hkE.P
noncomputable def w:World:=hkE.w
noncomputable def K:W.Frag:=hkE.K
noncomputable def mg:Str→Option Value:=hkE.mg
noncomputable def t:Adr:=hkE.t
section
variable{base:Heap}
theorem q9A:FnScope ["thing"] ["thing"] (qF q2M):=qQ (by decide+kernel)
theorem q7W:FnScope ["thing","low","high"] ["thing","low","high"] (qF q15):=qQ (by decide+kernel)
theorem q9B:FnScope ["blocks","pages"] ["blocks","pages"] (qF q2N):=qQ (by decide+kernel)
theorem q9C:FnScope ["thing"] ["thing"] (qF q2O):=qQ (by decide+kernel)
theorem qAH:FnScope ["stamp","name"] ["stamp","name"] (qF q3X):=qQ (by decide+kernel)
theorem q0O:FnScope ["sheets","bits","sheet"] ["sheets"] (qF q3Y):=qQ (by decide+kernel)
theorem q7X:FnScope ["self","blocks","pages"] ["self","blocks","pages"] (qF q16):=qQ (by decide+kernel)
theorem q7Y:FnScope ["self","name"] ["self","name"] (qF q17):=qQ (by decide+kernel)
theorem q3G:FnScope ["self","page","name","block"] ["self","page","name"] (qF q18):=qQ (by decide+kernel)
theorem q1E:FnScope ["self","name","page"] ["self","name"] (qF zC):=qQ (by decide+kernel)
theorem q4C:FnScope ["self","block"] ["self","block"] (qF vL):=qQ (by decide+kernel)
theorem q2U:FnScope ["self","block"] ["self","block"] (qF uJ):=qQ (by decide+kernel)
theorem q7Z:FnScope ["self"] ["self"] (qF q19):=qQ (by decide+kernel)
theorem q67:FnScope ["self","chip","terms"] ["self","chip","terms"] (qF q0H):=qQ (by decide+kernel)
theorem q68:FnScope ["self"] ["self"] (qF q0I):=qQ (by decide+kernel)
theorem q2H:FnScope ["self","clear"] ["self"] (qF jO):=qQ (by decide+kernel)
theorem q2I:FnScope ["self","block"] ["self"] (qF q0J):=qQ (by decide+kernel)
theorem zP:FnScope ["self","part","free"] ["self"] (qF q0K):=qQ (by decide+kernel)
theorem q1F:FnScope ["self","spare"] ["self"] (qF zD):=qQ (by decide+kernel)
theorem zA:FnScope ["self","name","value","page"] ["self","name","value"] (qF uW):=qQ (by decide+kernel)
theorem q80:FnScope ["self","name","value"] ["self","name","value"] (qF q1A):=qQ (by decide+kernel)
theorem q5P:FnScope ["self","sheet","value"] ["self","sheet","value"] (qF zE):=qQ (by decide+kernel)
theorem yC:FnScope ["self","sheets","sheet","held","gone"] ["self","sheets"] (qF v8):=qQ (by decide+kernel)
theorem q69:FnScope ["self","sheet"] ["self","sheet"] (qF q0L):=qQ (by decide+kernel)
theorem q6A:FnScope ["self"] ["self"] (qF q0M):=qQ (by decide+kernel)
theorem q1G:FnScope ["self","sheet"] ["self","sheet"] (qF yT):=qQ (by decide+kernel)
theorem v7:FnScope ["self","sheet","held"] ["self","sheet"] (qF yU):=qQ (by decide+kernel)
theorem q9D:FnScope ["why","options","block","moved","wiped"] ["why","options","block","moved","wiped"] (qF q2P):=qQ (by decide+kernel)
theorem q6B:FnScope ["self","chip","terms","rule"] ["self","chip","terms","rule"] (qF q0N):=qQ (by decide+kernel)
theorem q3Z:FnScope ["self"] ["self"] (qF v9):=qQ (by decide+kernel)
theorem q5Q:FnScope ["self","block"] ["self","block"] (qF zF):=qQ (by decide+kernel)
theorem q1H:FnScope ["self","part"] ["self"] (qF zG):=qQ (by decide+kernel)
theorem yI:FnScope ["self","space","full","tallies"] ["self"] (qF uK):=qQ (by decide+kernel)
theorem zY:FnScope ["self"] ["self"] (qF yG):=qQ (by decide+kernel)
theorem q40:FnScope ["self"] ["self"] (qF vA):=qQ (by decide+kernel)
theorem q0T:FnScope ["self","options"] ["self"] (qF vM):=qQ (by decide+kernel)
theorem zZ:FnScope ["self","options"] ["self","options"] (qF yH):=qQ (by decide+kernel)
theorem uQ:FnScope ["self","block","moves","page","name"] ["self","block"] (qF zH):=qQ (by decide+kernel)
theorem q0P:FnScope ["self","page","name"] ["self","page","name"] (qF yJ):=qQ (by decide+kernel)
theorem q5R:FnScope ["self","block"] ["self","block"] (qF zI):=qQ (by decide+kernel)
theorem q2V:FnScope ["self","block"] ["self","block"] (qF uL):=qQ (by decide+kernel)
theorem jV:FnScope ["self","options","chosen","moved","wiped"] ["self"] (qF uM):=qQ (by decide+kernel)
theorem q26:FnScope ["self"] ["self"] (qF uA):=qQ (by decide+kernel)
theorem q27:FnScope ["self"] ["self"] (qF uB):=qQ (by decide+kernel)
theorem vG:FnScope ["ills","blocks","limits","block","deeds"] ["ills","blocks"] (qF q1B):=qQ (by decide+kernel)
theorem q81:FnScope ["self","blocks","pages","most","ills"] ["self","blocks","pages","most","ills"] (qF uF):=qQ (by decide+kernel)
theorem q48:FnScope ["self","page","stuff","block"] ["self","page","stuff"] (qF q2Q):=qQ (by decide+kernel)
theorem vH:FnScope ["self","block","fails","first","page"] ["self","block"] (qF q1C):=qQ (by decide+kernel)
theorem q82:FnScope ["self","page"] ["self","page"] (qF q1D):=qQ (by decide+kernel)
theorem q4D:FnScope ["self"] ["self"] (qF vO):=qQ (by decide+kernel)
theorem q4E:FnScope ["self","block"] ["self","block"] (qF vP):=qQ (by decide+kernel)
theorem q5S:FnScope ["self","block"] ["self","block"] (qF zJ):=qQ (by decide+kernel)
theorem q2W:FnScope ["self","page"] ["self","page"] (qF uN):=qQ (by decide+kernel)
theorem q28:FnScope ["self","block"] ["self","block"] (qF uC):=qQ (by decide+kernel)
theorem q29:FnScope ["self"] ["self"] (qF uD):=qQ (by decide+kernel)
theorem q2X:FnScope ["self","block"] ["self","block"] (qF uO):=qQ (by decide+kernel)
theorem q41:FnScope ["self","block"] ["self","block"] (qF vB):=qQ (by decide+kernel)
theorem q4F:FnScope ["self","word","place","block","fails"] ["self","word","place","block","fails"] (qF vQ):=qQ (by decide+kernel)
theorem q1I:FnScope ["rule","tally","tallies","pages","now","other"] ["rule","tally","tallies","pages","now"] (qF zK):=qQ (by decide+kernel)
theorem uR:FnScope ["rule","tallies","pages","now","place"] ["rule","tallies","pages","now"] (qF uX):=qQ (by decide+kernel)
theorem q2Y:FnScope ["self","one","other","pages","now"] ["self","one","other","pages","now"] (qF uP):=qQ (by decide+kernel)
theorem q5T:FnScope ["self","tallies","pages","now"] ["self","tallies","pages","now"] (qF zM):=qQ (by decide+kernel)
theorem q1J:FnScope ["self","one","other","pages","now"] ["self","one","other","pages","now"] (qF yV):=qQ (by decide+kernel)
theorem q1K:FnScope ["self","one","other","pages","now"] ["self","one","other","pages","now"] (qF yW):=qQ (by decide+kernel)
theorem yX:FnScope ["self","one","other","pages","now","gain_of_one","gain_of_other"] ["self","one","other","pages","now"] (qF uE):=qQ (by decide+kernel)
theorem q6C:FnScope ["self","blocks","pages","sheets","share","ill","spread"] ["self","blocks","pages","sheets","share","ill","spread"] (qF yQ):=qQ (by decide+kernel)
theorem q4G:FnScope ["self"] ["self"] (qF vR):=qQ (by decide+kernel)
theorem q5U:FnScope ["_law_script","_law_k"] ["_law_script","_law_k"] (qF zN):=qQ (by decide+kernel)
theorem yN:FnScope ["_law_script","_law_pages","_law_closed","_law_ill"] ["_law_script"] (qF q2R):=qQ (by decide+kernel)
theorem q9E:FnScope ["_law_cell"] ["_law_cell"] (qF q2S):=qQ (by decide+kernel)
theorem q1L:FnScope ["_law_store","_law_kept","_law_sheet","_law_number","_law_seen"] ["_law_store","_law_kept","_law_sheet","_law_number"] (qF zO):=qQ (by decide+kernel)
theorem vC:FnScope ["_law_store","_law_kept","_law_sheet","_law_seen","_law_count"] ["_law_store","_law_kept","_law_sheet"] (qF vS):=qQ (by decide+kernel)
theorem q1M:FnScope ["_law_store","_law_sheet","_law_refused"] ["_law_store","_law_sheet"] (qF q2T):=qQ (by decide+kernel)
theorem uY:FnScope ["_law_script","_law_blocks","_law_pages","_law_share","_law_ill","_law_store","_law_kept","_law_held","_law_sheet","_law_k","_law_cell"] ["_law_script"] (qF qEL):=qQ (by decide+kernel)
local macro_rules| `(tactic|walk_at "r")=>`(tactic|repeat (first|with_reducible refine⟨_,rfl,?_⟩|refine⟨_,rfl,?_⟩|refine(iI ?_)))
theorem q9F(T:Txt K mg t)(S:Fns K t):S.aBG.Ok0 P w mg base 1 qF4:=by(
refine S.aBG.F.ok0 q9A λcdv A _ s H vs Q E hr h=>?_
obtain⟨x,rfl,kn,k⟩:=h
refine⟨_,(qD (qL (q3O (jF q39 (by rfl) T.t8 (by kernel_rfl) (qA (pv 0) (qA (qAM rfl T.aDL (by kernel_rfl) rfl (v:=.ty "int")) qE))) (q07 (qCJ (jF q39 (by rfl) T.t8 (by kernel_rfl) (qA (pv 0) (qA (qAM rfl T.aDJ (by kernel_rfl) rfl (v:=.ty "bool")) qE)))))))),?_⟩
try dsimp-beta-proj-iota-zeta-eta only[wishK,cxK]
obtain⟨ty,q,e1,e2,_⟩:=kn.ty (K:=K)
refine⟨_,rfl,x,_,_,ty,_,rfl,rfl,.inl q,e1,_,rfl,?_⟩
have z:=qI1 x
cases qi:isI x with
|true=>rw[qi,hU rfl]at z;refine iteT ?_;refine⟨_,rfl,x,_,_,ty,_,rfl,rfl,.inl q,e2,_,rfl,?_⟩;rw[z];exact k
|false=>rw[qi]at z;refine iteF ?_;have z':false=isW x:=z;rw[z'];exact k)
theorem jK(T:Txt K mg t)(S:Fns K t):S.eG.Ok0 P w mg base 2 qD7:=by(
refine S.eG.F.ok0 q7W λcdv A _ s H vs Q E hr h=>?_
obtain⟨x,lo,hi,rfl,kn,k⟩:=h
refine⟨_,(qD (qL (q3O (qR (q9F T S).mono hr rfl T.aCB T.aB9 S.aBG.b .nil qK (qA (pv 0) qE)) (q07 (qCP q8K q8K (pv 1) (pv 0) (pv 2)))))),?_⟩
try dsimp-beta-proj-iota-zeta-eta only[wishK,cxK]
refine⟨_,rfl,x,rfl,kn,_,rfl,?_⟩
cases x with
|int i=>
 refine iteT ?_;refine⟨_,rfl,_,rfl,iI ⟨_,rfl,?_⟩⟩;have k':Q (V.bl (decide (lo≤i)&&decide (i≤hi))) H:=k;by_cases h1:lo≤i
 ·rw[hG h1]at k' ⊢;refine iteT ?_;exact⟨_,rfl,iI k'⟩
 rw[h9 h1]at k' ⊢;refine iteF ?_;exact k'
|_=>exact iteF k)
theorem q49(T:Txt K mg t)(S:Fns K t):S.aAE.Ok0 P w mg base 3 qFB:=by(
refine S.aAE.F.ok0 q9B λcdv A _ s H vs Q E hr h=>?_
obtain⟨x,y,rfl,kx,ky,k⟩:=h
refine⟨_,(qD (qL (q3O (qR (jK T S).mono hr rfl T.bW T.bX S.eG.b .nil qK (qA (pv 0) (qA qG (qA qG qE)))) (q07 (qR (jK T S).mono hr rfl T.bW T.bX S.eG.b .nil qK (qA (pv 1) (qA qG (qA qG qE)))))))),?_⟩
try dsimp-beta-proj-iota-zeta-eta only[wishK,cxK]
refine⟨_,rfl,x,_,_,rfl,kx,_,rfl,?_⟩
cases q:inB x 2 16 with
|true=>rw[q]at k;refine iteT ⟨_,rfl,y,_,_,rfl,ky,k⟩
|false=>rw[q]at k;exact iteF k)
structure Gd(m:CM):Prop where
br:∀b,m.br.getD b false=false
li:∀b,valV m.lim (Sum.inl b)=none
theorem inBi{v lo hi:Int}(h1:lo≤v)(h2:v≤hi):inB (.int v) lo hi=true:=by show(decide (lo≤v)&&decide (v≤hi))=true;rw[hG h1,hG h2];rfl
noncomputable def putC(m:CM)(p:Nat)(st:V):CM:={ m.deed "put" (p:Int) ((p:Int) / m.pg) false with bo:=m.bo.set p st }
noncomputable def wipC(m:CM)(b:Nat):CM:={ m.deed "wipe" (b:Int) (b:Int) false with bo:=clr m.bo ((b:Int)*m.pg).toNat m.pg.toNat,cl:=m.cl.set b (m.cl.getD b 0+1) }
inductive spCP(t:Adr)(vs:List V)(H:Hp)(Q:VK)(E:XK):Prop
|mk:∀c a m,∀p:Int,vs=[.ref c,.int p]→ChipAt t.C_Chip H c a m→m.Ok→0≤p→p≤m.bl*m.pg-1→Q .non H→spCP t vs H Q E
theorem vT(T:Txt K mg t)(S:Fns K t):S.fF.Ok0 P w mg base 3 (spCP t):=by(
refine S.fF.F.ok0 q2W λcdv A _ s H vs Q E hr h=>?_
obtain⟨c,a,m,p,rfl,hc,ok,p0,p1,q⟩:=h
refine⟨_,(qD (jC (yD (jT (qR (jK T S).mono hr rfl T.bW T.bX S.eG.b .nil qK (qA (pv 1) (qA qG (qA (qO yR (qO yS (qJ (pv 0) rfl) (qJ (pv 0) rfl)) qG) qE)))))) (qD jD) qP)),?_⟩
try dsimp-beta-proj-iota-zeta-eta only[wishK,cxK]
have b1:=ok.bl1
have b2:=ok.bl2
refine⟨_,rfl,iV rfl (iF hc.ins T.bO T.eT rfl (iV rfl (iF hc.ins T.bO T.eJ rfl ?_)))⟩
refine(iI ⟨.inl ⟨by lia,by lia⟩,iI ⟨.int p,_,_,rfl,.int p,_,rfl,?_⟩⟩)
rw[inBi p0 p1]
exact iteF q)
inductive spCB(t:Adr)(vs:List V)(H:Hp)(Q:VK)(E:XK):Prop
|mk:∀c a m,∀p:Int,vs=[.ref c,.int p]→ChipAt t.C_Chip H c a m→0≤p→p≤m.bl-1→Q .non H→spCB t vs H Q E
theorem yY(T:Txt K mg t)(S:Fns K t):S.eM.Ok0 P w mg base 3 (spCB t):=by(
refine S.eM.F.ok0 q28 λcdv A _ s H vs Q E hr h=>?_
obtain⟨c,a,m,p,rfl,hc,p0,p1,q⟩:=h
refine⟨_,(qD (jC (yD (jT (qR (jK T S).mono hr rfl T.bW T.bX S.eG.b .nil qK (qA (pv 1) (qA qG (qA (qO yR (qJ (pv 0) rfl) qG) qE)))))) (qD jD) qP)),?_⟩
try dsimp-beta-proj-iota-zeta-eta only[wishK,cxK]
refine⟨_,rfl,iV rfl (iF hc.ins T.bO T.eT rfl (iI ⟨.int p,_,_,rfl,.int p,_,rfl,?_⟩))⟩
rw[inBi p0 p1]
exact iteF q)
inductive spID(t:Adr)(vs:List V)(H:Hp)(Q:VK)(E:XK):Prop
|mk:∀c a m,vs=[.ref c]→ChipAt t.C_Chip H c a m→Q (.bl (decide (m.lf=some 0))) H→spID t vs H Q E
theorem q4H(T:Txt K mg t)(S:Fns K t):S.i6.Ok0 P w mg base 1 (spID t):=by(
refine S.i6.F.ok0 q4D λcdv A _ s H vs Q E hr h=>?_
obtain⟨c,a,m,rfl,hc,q⟩:=h
refine⟨_,(qD (qL (yP zU (qJ (pv 0) rfl) qG (qS _)))),?_⟩
try dsimp-beta-proj-iota-zeta-eta only[wishK,cxK]
refine⟨_,rfl,c,_,a.dx,_,_,rfl,hc.ins,T.bO,T.eN,rfl,qFA,?_⟩
rw[lf0]
exact q)
inductive spPW(t:Adr)(vs:List V)(H:Hp)(Q:VK)(E:XK):Prop
|mk:∀c a m,vs=[.ref c]→ChipAt t.C_Chip H c a m→(if m.lf=some 0 then E (.ref t.C_PowerGone) none H else Q .non H)→spPW t vs H Q E
theorem vD(T:Txt K mg t)(S:Fns K t):S.eW.OkE P w mg base 2 (spPW t):=by(
refine S.eW.F.okE q29 (λvs H Q E h=>?_) (λcdv A outer s H vs Q E hr h=>?_)
·repeat obtain⟨_,h⟩:=h
 all_goals subst_vars;rfl
obtain⟨c,a,m,rfl,hc,q⟩:=h
refine⟨_,(qD (jC (jT (qW (pv 0) T.bO T.aA1 (q4H T S).mono hr S.i6.b .nil qK)) (qD (q56 j8 rfl rfl T.aBU T.aCF (qA q3M qE))) qP)),?_⟩
try dsimp-beta-proj-iota-zeta-eta only[wishK,cxK]
refine(iV rfl (iM hc.ins rfl ⟨c,a,m,rfl,hc,_,rfl,?_⟩))
by_cases z:m.lf=some 0
·rw[hU z]at q;rw[hG z];exact iteT ⟨sz1,q⟩
rw[hC z]at q
rw[h9 z]
exact iteF q)
inductive spCD(t:Adr)(vs:List V)(H:Hp)(Q:VK)(E:XK):Prop
|mk:∀c a m b,vs=[.ref c,.int b]→ChipAt t.C_Chip H c a m→m.Ok→Gd m→0≤b→b<m.bl→(if m.lf=some 0 then E (.ref t.C_PowerGone) none H else Q .non H)→spCD t vs H Q E
theorem vU(T:Txt K mg t)(S:Fns K t):S.fE.OkE P w mg base 3 (spCD t):=by(
refine S.fE.F.okE q2X (λvs H Q E h=>?_) (λcdv A outer s H vs Q E hr h=>?_)
·repeat obtain⟨_,h⟩:=h
 all_goals subst_vars;rfl
obtain⟨c,a,m,b,rfl,hc,ok,g,b0,b1,q⟩:=h
refine⟨_,(qB (qU (uV j8 (pv 0) T.bO T.iJ (vD T S).mono hr S.eW.b .nil)) (qD (jC (jT (jB jI (qJ (pv 0) rfl) (pv 1) (λ_ _=>rfl))) (qD jD) qP))),?_⟩
try dsimp-beta-proj-iota-zeta-eta only[wishK,cxK]
have nb:=ok.nbr
refine(iV rfl (iM hc.ins rfl ⟨c,a,m,rfl,hc,?_⟩))
split
·rename_i z;rw[hU z]at q;exact q
rename_i z
rw[hC z]at q
refine(iV rfl (iF hc.ins T.bO T.iQ rfl ⟨_,rfl,iL (k:=b) (v:=_) (SqL.of hc.br) (getB b0 (by lia)) ⟨_,rfl,?_⟩⟩))
rw[g.br]
exact iteF q)
inductive spIS(t:Adr)(vs:List V)(H:Hp)(Q:VK)(E:XK):Prop
|mk:∀c a m b,vs=[.ref c,.int b]→ChipAt t.C_Chip H c a m→Gd m→Q (.bl false) H→spIS t vs H Q E
theorem q00(T:Txt K mg t)(S:Fns K t):S.fT.Ok0 P w mg base 1 (spIS t):=by(
refine S.fT.F.ok0 q41 λcdv A _ s H vs Q E hr h=>?_
obtain⟨c,a,m,b,rfl,hc,g,q⟩:=h
have hu:=q38 hr
refine⟨_,(qD (qL (q3O (qH1 (qD3 hu (pv 1) (qJ (pv 0) rfl))) (q07 (yP qAQ (jB jI (qJ (pv 0) rfl) (pv 1) (λ_ _=>rfl)) (qAS hu (qJ (pv 0) rfl) (pv 1) (λ_ _=>rfl)) (qS _)))))),?_⟩
try dsimp-beta-proj-iota-zeta-eta only[wishK,cxK]
refine⟨_,rfl,iV rfl (iF hc.ins T.bO T.oY rfl ⟨a.li,_,rfl,DGet.k (k:=Sum.inl b) hc.li,_,rfl,?_⟩)⟩
rw[g.li]
exact iteF q)
inductive spDD(t:Adr)(vs:List V)(H:Hp)(Q:VK)(E:XK):Prop
|mk:∀c a m w pl b,vs=[.ref c,.str w,.int pl,.int b,.bl false]→ChipAt t.C_Chip H c a m→m.Ok→m.rc.length<1000000→0≤b→b<m.bl→(∀H',ChipAt t.C_Chip H' c a (m.deed w pl b false)→Keep (foot c a) H H'→Q .non H')→spDD t vs H Q E
theorem q0U(T:Txt K mg t)(S:Fns K t):S.iA.Ok0 P w mg base 3 (spDD t):=by(
refine S.iA.F.ok0 q4F λcdv A _ s H vs Q E hr h=>?_
obtain⟨c,a,m,w,pl,b,rfl,hc,ok,hr1,b0,b1,q⟩:=h
refine⟨_,(q1X (jC (qT q4M (qJ (pv 0) rfl) uT (qS _)) (qD (q6O (pv 0) qG qHA)) qP) (qB (q34 (qJ (pv 0) rfl) (pv 3) q0Z qG q4X u6) (qB (qU (qCZ cX cM cN q1V (qJ (pv 0) rfl) (qA (vW (qA (pv 1) (qA (pv 2) (qA (qCJ (pv 4)) qE)))) qE q57))) (qD (jC (jT (pv 4)) (qB jD (qD jD)) qP))))),?_⟩
try dsimp-beta-proj-iota-zeta-eta only[wishK,cxK]
have nd:=ok.ndc
refine⟨λσ' H1=>σ'=[some (.ref c),some (.str w),some (.int pl),some (.int b),some (.bl false)]∧ChipAt t.C_Chip H1 c a { m with lf:=m.lf.map (· - 1) }∧Keep (foot c a) H H1,?_,?_⟩
·refine⟨_,rfl,c,_,a.dx,_,_,rfl,hc.ins,T.bO,T.eN,rfl,rfl,_,rfl,?_⟩;cases hl:m.lf with
 |none=>refine iteF ⟨rfl,?_,Keep.refl⟩;show ChipAt t.C_Chip H c a { m with lf:=none };rw[←hl];exact hc
 |some i=>refine iteT ?_;refine⟨_,rfl,c,_,a.dx,_,_,rfl,hc.ins,T.bO,T.eN,(by unfold chF;rw[hl];rfl),iI ⟨a.dx,_,hc.ins,by show 10<1000;decide,?_⟩⟩;refine⟨rfl,hc.setLf (some (i-1)),Keep.upd hc.ins (λ_ z=>by cases z) (by simp[foot])⟩
rintro _ H1 ⟨rfl,hc1,k1⟩
refine(iV rfl (iF hc1.ins T.bO T.f8 rfl ⟨_,rfl,iL (k:=b) (v:=_) (SqL.of hc1.dc) (getI b0 (by show b<(m.dc.length:Int);lia)) (iI ⟨a.dc,_,b,b.toNat,rfl,rfl,hc1.dc,by rw[hX];exact ixOk b0 (by show b<(m.dc.length:Int);lia),?_⟩)⟩))
rw[←xY]
have hc2:=hc1.setDc (m.dc.set b.toNat (m.dc.getD b.toNat 0+1))
have k2:Keep (foot c a) H (upd H1 a.dc (.lst ((m.dc.set b.toNat (m.dc.getD b.toNat 0+1)).map V.int))):=k1.trans (Keep.upd hc1.dc (λ_ z=>by cases z) (by simp[foot]))
generalize upd H1 a.dc (.lst ((m.dc.set b.toNat (m.dc.getD b.toNat 0+1)).map V.int))=H2 at hc2 k2 ⊢
obtain⟨rs,er,pr⟩:=hc2.rc
have ln:rs.length≤1000000:=by rw[pr.len];exact cY hr1
refine(iV rfl (iF hc2.ins T.bO T.oS rfl ⟨.inl ⟨rfl,_,SqL.of er⟩,_,rfl,_,rfl,_,rfl,_,rfl,sz3,λp H3 np sm hp=>?_⟩))
have er3:=sm _ _ er
refine⟨a.rc,rs,_,rfl,rfl,er3,cQ ln (by decide),?_⟩
exact⟨_,rfl,_,rfl,iteF (q _ ((hc2.same sm).addRc (d:=(w,pl,!false)) er3 hp) ((k2.trans (Keep.same sm)).trans (Keep.upd (o:=.lst (rs++[.ref p])) er3 (λ_ z=>by cases z) (by simp[foot]))))⟩)
inductive spPut(t:Adr)(vs:List V)(H:Hp)(Q:VK)(E:XK):Prop
|mk:∀c a m,∀p:Nat,∀st,vs=[.ref c,.int (p:Int),st]→ChipAt t.C_Chip H c a m→m.Ok→m.rc.length<1000000→Gd m→(p:Int)≤m.bl*m.pg-1→m.bo.getD p .non=.non→(m.lf=some 0→E (.ref t.C_PowerGone) none H)→(m.lf≠some 0→∀H',ChipAt t.C_Chip H' c a (putC m p st)→Keep (foot c a) H H'→Q .non H')→spPut t vs H Q E
theorem q9G(T:Txt K mg t)(S:Fns K t):S.aBC.OkE P w mg base 4 (spPut t):=by(
refine S.aBC.F.okE q48 (λvs H Q E h=>?_) (λcdv A outer s H vs Q E hr h=>?_)
·repeat obtain⟨_,h⟩:=h
 all_goals subst_vars;rfl
obtain⟨c,a,m,p,st,rfl,hc,ok,hr1,g,p1,hw,dk,q⟩:=h
refine⟨_,(qB (qU (qY (pv 0) T.bO T.iW (vT T S).mono hr S.fF.b .nil qK (qA (pv 1) qE))) (qB (qV (i:=3) q48.nd rfl (Or.inl rfl) (qO q1T (pv 1) (qJ (pv 0) rfl))) (qB (qU (jJ j8 (pv 0) T.bO T.iU (vU T S).mono hr S.fE.b .nil (qA (pv 3) qE))) (qB (jC (qT q4M (jB jI (qJ (pv 0) rfl) (pv 1) (λ_ _=>rfl)) uT (qS _)) (qD jD) qP) (qB (qU (qY (pv 0) T.bO T.oZ (q0U T S).mono hr S.iA.b .nil qK (qA q3M (qA (pv 1) (qA (pv 3) (qA (qY (pv 0) T.bO T.oN (q00 T S).mono hr S.fT.b .nil qK (qA (pv 3) qE)) qE)))))) (qD (q3P (pv 2) (q4W (qJ (pv 0) rfl) (pv 1) u6)))))))),?_⟩
try dsimp-beta-proj-iota-zeta-eta only[wishK,cxK]
have pg1:=ok.pg1
have pg2:=ok.pg2
have nbo:=ok.nbo
have p0:(0:Int)≤p:=by lia
obtain⟨b0,b1⟩:=qI7 ok p0 p1
refine(iV rfl (iM hc.ins rfl ⟨_,rfl,c,a,m,p,rfl,hc,ok,p0,p1,?_⟩))
refine⟨_,rfl,iV rfl (iF hc.ins T.bO T.eJ rfl (iI ⟨⟨by lia,by lia⟩,?_⟩))⟩
refine(iV rfl (iM hc.ins rfl ⟨_,rfl,c,a,m,_,rfl,hc,ok,g,b0,b1,?_⟩))
by_cases z:m.lf=some 0
·rw[hU z];exact dk z
rw[hC z]
have q:=q z
refine(iV rfl (iF hc.ins T.bO T.fD rfl ⟨_,rfl,iL (k:=p) (v:=_) (SqL.of hc.bo) (getV p0 (by lia)) ⟨rfl,_,rfl,?_⟩⟩))
rw[mM,hG hw]
refine iteF ?_
refine(iV rfl (iM hc.ins rfl ⟨_,rfl,_,rfl,iV rfl (iM hc.ins rfl ⟨_,rfl,c,a,m,_,rfl,hc,g,?_⟩)⟩))
refine⟨c,a,m,"put",p,_,rfl,hc,ok,hr1,b0,b1,λH' hc' k'=>?_⟩
refine⟨_,rfl,iV rfl (iF hc'.ins T.bO T.fD rfl ⟨_,rfl,a.bo,_,p,p,rfl,rfl,hc'.bo,ixOk p0 (by show(p:Int)<(m.bo.length:Int);lia),?_⟩)⟩
exact q _ (hc'.setBo (m.bo.set p st)) (k'.trans (Keep.upd hc'.bo (λ_ z=>by cases z) (by simp[foot]))))
inductive spRead(t:Adr)(vs:List V)(H:Hp)(Q:VK)(E:XK):Prop
|mk:∀c a m,∀p:Int,vs=[.ref c,.int p]→ChipAt t.C_Chip H c a m→m.Ok→0≤p→p≤m.bl*m.pg-1→(m.lf=some 0→E (.ref t.C_PowerGone) none H)→(m.lf≠some 0→Q (m.bo.getD p.toNat .non) H)→spRead t vs H Q E
theorem q3H(T:Txt K mg t)(S:Fns K t):S.tM.OkE P w mg base 4 (spRead t):=by(
refine S.tM.F.okE q82 (λvs H Q E h=>?_) (λcdv A outer s H vs Q E hr h=>?_)
·repeat obtain⟨_,h⟩:=h
 all_goals subst_vars;rfl
obtain⟨c,a,m,p,rfl,hc,ok,p0,p1,dk,q⟩:=h
refine⟨_,(qB (qU (qY (pv 0) T.bO T.iW (vT T S).mono hr S.fF.b .nil qK (qA (pv 1) qE))) (qB (qU (uV j8 (pv 0) T.bO T.iJ (vD T S).mono hr S.eW.b .nil)) (qD (qL (jB jI (qJ (pv 0) rfl) (pv 1) (λ_ _=>rfl)))))),?_⟩
try dsimp-beta-proj-iota-zeta-eta only[wishK,cxK]
have nbo:=ok.nbo
refine(iV rfl (iM hc.ins rfl ⟨_,rfl,c,a,m,p,rfl,hc,ok,p0,p1,iV rfl (iM hc.ins rfl ⟨c,a,m,rfl,hc,?_⟩)⟩))
by_cases z:m.lf=some 0
·rw[hU z];exact dk z
rw[hC z]
exact(iV rfl (iF hc.ins T.bO T.fD rfl ⟨_,rfl,iL (k:=p) (v:=_) (SqL.of hc.bo) (getV p0 (by lia)) (q z)⟩)))
inductive spCl(t:Adr)(vs:List V)(H:Hp)(Q:VK)(E:XK):Prop
|mk:∀c a m b,vs=[.ref c,.int b]→ChipAt t.C_Chip H c a m→m.Ok→0≤b→b≤m.bl-1→Q (.int (m.cl.getD b.toNat 0)) H→spCl t vs H Q E
theorem q0V(T:Txt K mg t)(S:Fns K t):S.iE.Ok0 P w mg base 4 (spCl t):=by(
refine S.iE.F.ok0 q4E λcdv A _ s H vs Q E hr h=>?_
obtain⟨c,a,m,b,rfl,hc,ok,b0,b1,q⟩:=h
refine⟨_,(qB (qU (qY (pv 0) T.bO T.fH (yY T S).mono hr S.eM.b .nil qK (qA (pv 1) qE))) (qD (qL (jB jI (qJ (pv 0) rfl) (pv 1) (λ_ _=>rfl))))),?_⟩
try dsimp-beta-proj-iota-zeta-eta only[wishK,cxK]
have n:=ok.ncl
exact(iV rfl (iM hc.ins rfl ⟨_,rfl,c,a,m,b,rfl,hc,b0,b1,iV rfl (iF hc.ins T.bO T.eO rfl ⟨_,rfl,iL (k:=b) (v:=_) (SqL.of hc.cl) (getI b0 (by lia)) q⟩)⟩)))
inductive spFa(t:Adr)(vs:List V)(H:Hp)(Q:VK)(E:XK):Prop
|mk:∀c a m b,vs=[.ref c,.int b]→ChipAt t.C_Chip H c a m→m.Ok→0≤b→b≤m.bl-1→Q (.bl (m.br.getD b.toNat false)) H→spFa t vs H Q E
theorem q5V(T:Txt K mg t)(S:Fns K t):S.o8.Ok0 P w mg base 4 (spFa t):=by(
refine S.o8.F.ok0 q5S λcdv A _ s H vs Q E hr h=>?_
obtain⟨c,a,m,b,rfl,hc,ok,b0,b1,q⟩:=h
refine⟨_,(qB (qU (qY (pv 0) T.bO T.fH (yY T S).mono hr S.eM.b .nil qK (qA (pv 1) qE))) (qD (qL (jB jI (qJ (pv 0) rfl) (pv 1) (λ_ _=>rfl))))),?_⟩
try dsimp-beta-proj-iota-zeta-eta only[wishK,cxK]
have n:=ok.nbr
exact(iV rfl (iM hc.ins rfl ⟨_,rfl,c,a,m,b,rfl,hc,b0,b1,iV rfl (iF hc.ins T.bO T.iQ rfl ⟨_,rfl,iL (k:=b) (v:=_) (SqL.of hc.br) (getB b0 (by lia)) q⟩)⟩)))
inductive spWipe(t:Adr)(vs:List V)(H:Hp)(Q:VK)(E:XK):Prop
|mk:∀c a m,∀b:Nat,vs=[.ref c,.int (b:Int)]→ChipAt t.C_Chip H c a m→m.Ok→m.rc.length<1000000→Gd m→(b:Int)≤m.bl-1→m.cl.getD b 0<m.mo→(m.lf=some 0→E (.ref t.C_PowerGone) none H)→(m.lf≠some 0→∀H',ChipAt t.C_Chip H' c a (wipC m b)→Keep (foot c a) H H'→Q .non H')→spWipe t vs H Q E
theorem q83(T:Txt K mg t)(S:Fns K t):S.aAK.OkE P w mg base 4 (spWipe t):=by(
refine S.aAK.F.okE vH (λvs H Q E h=>?_) (λcdv A outer s H vs Q E hr h=>?_)
·repeat obtain⟨_,h⟩:=h
 all_goals subst_vars;rfl
obtain⟨c,a,m,b,rfl,hc,ok,hr1,g,b1,hm,dk,q⟩:=h
refine⟨_,(qB (qU (qY (pv 0) T.bO T.fH (yY T S).mono hr S.eM.b .nil qK (qA (pv 1) qE))) (qB (qU (jJ j8 (pv 0) T.bO T.iU (vU T S).mono hr S.fE.b .nil (qA (pv 1) qE))) (qB (qV (i:=2) vH.nd rfl (Or.inl rfl) (qCI (qY (pv 0) T.bO T.oN (q00 T S).mono hr S.fT.b .nil qK (qA (pv 1) qE)) (q07 (yP qAQ (jB jI (qJ (pv 0) rfl) (pv 1) (λ_ _=>rfl)) (qJ (pv 0) rfl) (qS _))))) (qB (qU (qY (pv 0) T.bO T.oZ (q0U T S).mono hr S.iA.b .nil qK (qA q3M (qA (pv 1) (qA (pv 1) (qA (pv 2) qE)))))) (qB (qV (i:=3) vH.nd rfl (Or.inl rfl) (qO yS (pv 1) (qJ (pv 0) rfl))) (qB (vJ wY rfl (q6L rfl T.aAJ (qA (pv 3) (qA (qO yL (pv 3) (qJ (pv 0) rfl)) qE))) (j9 (i:=4) vH.nd rfl (Or.inl rfl)) (qD (q3P uT (q4W (qJ (pv 0) rfl) (pv 4) u6)))) (qD (q34 (qJ (pv 0) rfl) (pv 1) q0Z qG q4X u6)))))))),?_⟩
try dsimp-beta-proj-iota-zeta-eta only[wishK,cxK]
have b0:(0:Int)≤b:=by lia
have pg1:=ok.pg1
have pg2:=ok.pg2
have bl1:=ok.bl2
have nbo:=ok.nbo
have ncl:=ok.ncl
refine(iV rfl (iM hc.ins rfl ⟨_,rfl,c,a,m,b,rfl,hc,b0,b1,?_⟩))
refine(iV rfl (iM hc.ins rfl ⟨_,rfl,c,a,m,b,rfl,hc,ok,g,b0,by lia,?_⟩))
by_cases z:m.lf=some 0
·rw[hU z];exact dk z
rw[hC z]
have q:=q z
refine(iV rfl (iM hc.ins rfl ⟨_,rfl,c,a,m,b,rfl,hc,g,_,rfl,iteF ?_⟩))
refine(iV rfl (iF hc.ins T.bO T.eO rfl ⟨_,rfl,iL (k:=b) (v:=_) (SqL.of hc.cl) (getI b0 (by lia)) (iV rfl (iF hc.ins T.bO T.t9 rfl (iI ?_)))⟩))
show q2C 2 (V.bl (decide (m.mo≤m.cl.getD b 0))) _ _ _
rw[h9 (by lia)]
refine(iV rfl (iM hc.ins rfl ⟨_,rfl,_,rfl,_,rfl,c,a,m,"wipe",b,b,rfl,hc,ok,hr1,b0,by lia,λH' hc' k'=>?_⟩))
have bp:b*m.pg+m.pg≤m.bl*m.pg:=by have:=pO (show(b:Int)+1≤m.bl by lia) (show 0≤m.pg by lia);rw[Int.add_mul,Int.one_mul]at this;exact this
have bq:0≤b*m.pg:=lT b0 (by lia)
have bmax:m.bl*m.pg≤256:=by have:=aW bl1 pg2 (by lia) (by decide);lia
refine⟨_,rfl,_,rfl,c,_,a.dx,_,.int m.pg,rfl,hc'.ins,T.bO,T.eJ,rfl,iI ⟨.inl ⟨by lia,by lia⟩,?_⟩⟩
refine⟨_,rfl,_,rfl,_,rfl,c,_,a.dx,_,.int m.pg,rfl,hc'.ins,T.bO,T.eJ,rfl,iI ⟨_,_,rfl,⟨by lia,by lia,by lia,by lia⟩,?_⟩⟩
refine q6M (λi σ' H1=>∃y,σ'=[some (.ref c),some (.int b),some (.bl false),some (.int (b*m.pg)),y]∧ChipAt t.C_Chip H1 c a { m.deed "wipe" b b false with bo:=clr m.bo (b*m.pg).toNat i }∧Keep (foot c a) H H1) ⟨_,rfl,hc',k'⟩ (λi σ' H1 hi hp=>?_) (λσ' H1 hp=>?_)
·obtain⟨y,rfl,h1,k1⟩:=hp;have hi':(i:Int)<m.pg:=by have:i<(b*m.pg+m.pg-b*m.pg).toNat:=hi;lia
 refine(iV rfl (iF h1.ins T.bO T.fD rfl ⟨_,rfl,a.bo,_,_,(b*m.pg+i).toNat,rfl,rfl,h1.bo,ixOk (by lia) (by rw[q4P];lia),?_⟩));have e:(b*m.pg+(i:Int)).toNat=(b*m.pg).toNat+i:=by lia
 rw[e];exact⟨_,rfl,h1.setBo _,k1.trans (Keep.upd h1.bo (λ_ z=>by cases z) (by simp[foot]))⟩
obtain⟨y,rfl,h1,k1⟩:=hp
have e:(b*m.pg+m.pg-b*m.pg).toNat=m.pg.toNat:=by lia
rw[e]at h1
refine(iV rfl (iF h1.ins T.bO T.eO rfl ⟨_,rfl,iL (k:=b) (v:=_) (SqL.of h1.cl) (getI b0 (by show(b:Int)<(m.cl.length:Int);lia)) (iI ⟨a.cl,_,b,b,rfl,rfl,h1.cl,by rw[hX];exact ixOk b0 (by show(b:Int)<(m.cl.length:Int);lia),?_⟩)⟩))
rw[←xY]
exact q _ (h1.setCl _) (k1.trans (Keep.upd h1.cl (λ_ z=>by cases z) (by simp[foot]))))
inductive spLim(K:W.Frag)(vs:List V)(H:Hp)(Q:VK)(E:XK):Prop
|mk:∀l bl,vs=[.ref l,.int bl]→SqL K H l []→NewO H (.dK []) Q→spLim K vs H Q E
theorem q84(T:Txt K mg t)(S:Fns K t):S.aAM.Ok0 P w mg base 3 (spLim K):=by(
refine S.aAM.F.ok0 vG λcdv A _ s H vs Q E hr h=>?_
obtain⟨l,bl,rfl,sq,q⟩:=h
refine⟨_,(qB (qV (i:=2) vG.nd rfl (Or.inl rfl) q55) (qB (vJ d8 rfl (yE (pv 0)) (q9Q rfl (yZ (j9 (i:=3) vG.nd rfl (Or.inl rfl)) (yZ (j9 (i:=4) vG.nd rfl (Or.inl rfl)) q4L))) (qB jD (qB jD (qB jD (qD jD))))) (qD (qL (pv 2))))),?_⟩
try dsimp-beta-proj-iota-zeta-eta only[wishK,cxK]
refine λp np=>?_
have s0:Same H (upd H p (.dK [])):=Same.upd np
refine⟨_,rfl,l,rfl,⟨[],s0.seq sq⟩,v4 (K:=K) (xs:=[]) (λ_ σ' H1=>(∃y z,σ'=[some (.ref l),some (.int bl),some (.ref p),y,z])∧H1=upd H p (.dK [])) ⟨⟨_,_,rfl⟩,rfl⟩ (λi σ' H1 _ hp=>by rw[hp.2];exact s0.seq sq) (λi x σ' H1 hx _=>by simp at hx) (λσ' H1 hp=>?_)⟩
obtain⟨⟨y,z,rfl⟩,rfl⟩:=hp
exact⟨_,rfl,q p _ np s0 qH⟩)
structure Wm(C x dx:Addr)(H G:Hp)(fs:List (Str×V))(os:List (Addr×HO)):Prop where
i:G x=some (.ins C dx fs)
u:Up x H G
o:∀p∈os,G p.1=some p.2∧H p.1=none∧p.1≠x
n:(os.map (·.1)).Nodup
section
variable{C x dx:Addr}{H G B:Hp}{fs fs':List (Str×V)}{os:List (Addr×HO)}
theorem Wm.same(h:Wm C x dx H G fs os)(s:Same G B):Wm C x dx H B fs os:=⟨s _ _ h.i,λb o n e=>s _ _ (h.u b o n e),λp hp=>⟨s _ _ (h.o p hp).1,(h.o p hp).2⟩,h.n⟩
theorem Wm.add(h:Wm C x dx H G fs os){a:Addr}{o:HO}(na:G a=none)(s:Same G B)(e:B a=some o):Wm C x dx H B fs (os++[(a,o)]):=by(
have ax:a≠x:=λz=>by rw[z,h.i]at na;cases na
have w:=h.same s
refine⟨w.i,w.u,λp hp=>?_,?_⟩
·rcases gF.mp hp with hp|hp
 ·exact w.o p hp
 rw[kC.mp hp];exact⟨e,Up.free h.u ax na,ax⟩
rw[gB]
refine rW.mpr ⟨h.n,by simp,λb hb c hc=>?_⟩
obtain⟨p,hp,rfl⟩:=kO.mp hb
obtain rfl:c=a:=by simpa using hc
exact qI (h.o p hp).1 na)
theorem Wm.set(h:Wm C x dx H G fs os):Wm C x dx H (upd G x (.ins C dx fs')) fs' os:=⟨qH,λb o n e=>by rw[qC n];exact h.u b o n e,λp hp=>⟨by rw[qC (h.o p hp).2.2];exact(h.o p hp).1,(h.o p hp).2⟩,h.n⟩
theorem Wm.fr(h:Wm C x dx H G fs os)(a:Addr)(ha:a∈os.map (·.1)):H a=none:=by obtain⟨p,hp,rfl⟩:=kO.mp ha;exact(h.o p hp).2.1
theorem Wm.put(h:Wm C x dx H G fs os)(f:Str)(v:V):Wm C x dx H (upd G x (.ins C dx (putF f v fs))) (putF f v fs) os:=h.set
end
inductive spMk(t:Adr)(vs:List V)(H:Hp)(Q:VK)(E:XK):Prop
|mk:∀x dx,∀b p m:Int,vs=[.ref x,.int b,.int p,.int m,.non]→H x=some (.ins t.C_Chip dx [])→2≤b→b≤16→1≤p→p≤16→0≤m→m≤1000000→(∀a H',ChipAt t.C_Chip H' x a (CM.new b p m [])→(∀b∈[a.li,a.bo,a.cl,a.dc,a.br,a.rc],H b=none)→Up x H H'→Q .non H')→spMk t vs H Q E
theorem q85(T:Txt K mg t)(S:Fns K t):FnOk P w K mg base (CX0) 4 t.f_Chip_init S.fP ["self","blocks","pages","most","ills"] (spMk t):=by(
refine S.aCE.ok0 q81 λcdv A _ s H vs Q E hr h=>?_
obtain⟨x,dx,b,p,m,rfl,hx,b1,b2,p1,p2,m1,m2,q⟩:=h
refine⟨_,(qB (jC (yD (jT (qR (q49 T S).mono hr rfl T.aAG T.aAO S.aAE.b .nil qK (qA (pv 1) (qA (pv 2) qE))))) (qD jD) qP) (qB (jC (yD (jT (qR (jK T S).mono hr rfl T.bW T.bX S.eG.b .nil qK (qA (pv 3) (qA qG (qA (q06 rfl T.t7 ⟨_,rfl⟩ (v:=.int 1000000)) qE)))))) (qD jD) qP) (qB (jL (pv 0) (pv 1) rfl) (qB (jL (pv 0) (pv 2) rfl) (qB (jL (pv 0) (pv 3) rfl) (qB (jL (pv 0) (qR (q84 T S).mono hr rfl T.aB1 T.aBZ S.aAM.b .nil qK (qA (qCK (qT q9T (pv 4) uT (qS _)) (y7 qE) (pv 4)) (qA (pv 1) qE))) rfl) (qB (jL (pv 0) (qO q0B (y7 (qA uT qE)) (qO yS (pv 1) (pv 2))) rfl) (qB (jL (pv 0) (qO q0B (y7 (qA qG qE)) (pv 1)) rfl) (qB (jL (pv 0) (qO q0B (y7 (qA qG qE)) (pv 1)) rfl) (qB (jL (pv 0) (qO q0B (y7 (qA zT qE)) (pv 1)) rfl) (qB (jL (pv 0) uT rfl) (qD (jL (pv 0) (y7 qE) rfl))))))))))))),?_⟩
try dsimp-beta-proj-iota-zeta-eta only[wishK,cxK]
refine⟨_,rfl,_,rfl,.int b,.int p,rfl,.int b,.int p,_,rfl,?_⟩
rw[inBi b1 b2,inBi p1 p2]
refine iteF ?_
refine⟨_,rfl,.int m,_,_,rfl,.int m,_,rfl,?_⟩
rw[inBi m1 m2]
refine iteF ?_
have bp:b*p≤256:=aW b2 p2 (by lia) (by decide)
have bp0:0≤b*p:=lT (by lia) (by lia)
refine⟨_,rfl,_,rfl,x,_,dx,_,rfl,hx,T.bO,T.eT,by simp,?_⟩
have w1:Wm t.C_Chip x dx H (upd H x (.ins t.C_Chip dx (putF "blocks" (.int b) []))) (putF "blocks" (.int b) []) []:=⟨qH,Up.of (Same.refl H),by simp,by simp⟩
refine⟨_,rfl,_,rfl,x,_,dx,_,rfl,w1.i,T.bO,T.eJ,by show 1<1000;decide,?_⟩
have w2:=w1.put "pages" (.int p)
refine⟨_,rfl,_,rfl,x,_,dx,_,rfl,w2.i,T.bO,T.t9,by show 2<1000;decide,?_⟩
have w3:=w2.put "most" (.int m)
refine⟨_,rfl,rfl,_,rfl,iteT ⟨sz0,λl0 H2 n0 s0 e0=>?_⟩⟩
refine⟨_,rfl,l0,b,rfl,SqL.of e0,λli H3 n1 s1 e1=>?_⟩
have w4:=(w3.same s0).add n1 s1 e1
refine⟨_,rfl,x,_,dx,_,rfl,w4.i,T.bO,T.oY,by show 3<1000;decide,?_⟩
have w4:=w4.put "limits" (.ref li)
refine⟨sz1,λwa A1 n1 s1 e1=>⟨_,rfl,_,rfl,iI ⟨.inl ⟨by lia,by lia⟩,wa,_,_,rfl,rfl,e1,by lia,by lia,λbo B1 m1 r1 hbo=>?_⟩⟩⟩
have w5:=(w4.same s1).add m1 r1 hbo
refine⟨_,rfl,x,_,dx,_,rfl,w5.i,T.bO,T.fD,by show 4<1000;decide,?_⟩
have w5:=w5.put "borne" (.ref bo)
refine⟨sz1,λwa A2 n2 s2 e2=>⟨_,rfl,wa,_,_,rfl,rfl,e2,by lia,by lia,λcl B2 m2 r2 hcl=>?_⟩⟩
have w6:=(w5.same s2).add m2 r2 hcl
refine⟨_,rfl,x,_,dx,_,rfl,w6.i,T.bO,T.eO,by show 5<1000;decide,?_⟩
have w6:=w6.put "clearings" (.ref cl)
refine⟨sz1,λwa A3 n3 s3 e3=>⟨_,rfl,wa,_,_,rfl,rfl,e3,by lia,by lia,λdc B3 m3 r3 hdc=>?_⟩⟩
have w7:=(w6.same s3).add m3 r3 hdc
refine⟨_,rfl,x,_,dx,_,rfl,w7.i,T.bO,T.f8,by show 6<1000;decide,?_⟩
have w7:=w7.put "deed_counts" (.ref dc)
refine⟨sz1,λwa A4 n4 s4 e4=>⟨_,rfl,wa,_,_,rfl,rfl,e4,by lia,by lia,λbr B4 m4 r4 hbr=>?_⟩⟩
have w8:=(w7.same s4).add m4 r4 hbr
refine⟨_,rfl,x,_,dx,_,rfl,w8.i,T.bO,T.iQ,by show 7<1000;decide,?_⟩
have w8:=w8.put "broken" (.ref br)
refine⟨_,rfl,x,_,dx,_,rfl,w8.i,T.bO,T.eN,by show 8<1000;decide,?_⟩
have w9:=w8.put "deeds_left" .non
refine⟨sz0,λrc B5 m5 r5 hrc=>?_⟩
have w:=w9.add m5 r5 hrc
refine⟨_,rfl,x,_,dx,_,rfl,w.i,T.bO,T.oS,by show 9<1000;decide,?_⟩
have w:=w.set (fs':=chF ⟨dx,li,bo,cl,dc,br,rc⟩ (CM.new b p m []))
refine q ⟨dx,li,bo,cl,dc,br,rc⟩ _ ⟨w.i,(w.o (li,.dK []) (by simp)).1,(w.o (bo,.lst (List.replicate (b*p).toNat .non)) (by simp)).1,?_,?_,?_,⟨[],(w.o (rc,.lst []) (by simp)).1,.nil⟩,(gA.mp (show(li::[bo,cl,dc,br,rc]).Nodup from w.n)).2⟩ (λb' hb'=>w.fr b' hb') w.u
·show _=some (HO.lst ((List.replicate b.toNat (0:Int)).map V.int));rw[cU];exact(w.o (cl,.lst (List.replicate b.toNat (.int 0))) (by simp)).1
·show _=some (HO.lst ((List.replicate b.toNat (0:Int)).map V.int));rw[cU];exact(w.o (dc,.lst (List.replicate b.toNat (.int 0))) (by simp)).1
show _=some (HO.lst ((List.replicate b.toNat false).map V.bl))
rw[cU]
exact(w.o (br,.lst (List.replicate b.toNat (.bl false))) (by simp)).1)
theorem jP(T:Txt K mg t)(S:Fns K t):S.eA.Ok0 P w mg base 1 (qI2 K):=by(
refine S.eA.F.ok0 q5U λcdv A _ s H vs Q E hr h=>?_
obtain⟨a,ns,k,rfl,hS,h0,q⟩:=h
refine⟨_,(qB (jC (qT q4Z (pv 1) (jF jA (by rfl) T.tQ g5 (qA (pv 0) qE)) (qS _)) (qD (qL (jB jI (pv 0) (pv 1) (λ_ _=>rfl)))) qP) (qD (qL qG))),?_⟩
try dsimp-beta-proj-iota-zeta-eta only[wishK,cxK]
refine⟨_,rfl,_,rfl,a,_,rfl,.inl hS,_,_,rfl,rfl,_,rfl,?_⟩
rw[hX]
by_cases h1:k<(ns.length:Int)
·rw[hG h1];refine iteT ?_;exact⟨_,rfl,_,rfl,a,_,k,_,rfl,rfl,hS,qC1 h0 h1,q⟩
rw[h9 h1]
refine iteF ?_
have e:=q9X h0 h1
rw[e]at q
exact q)
theorem qK7{H:Hp}{bl pg mo:Int}{Q:Addr→Hp→Prop}{E:XK}(b1:2≤bl)(b2:bl≤16)(p1:1≤pg)(p2:pg≤16)(m1:0≤mo)(m2:mo≤1000000)
 (q:∀x a H',ChipAt t.C_Chip H' x a (CM.new bl pg mo [])→Same H H'→(∀b∈a.li::foot x a,H b=none)→Q x H') (x dx:Addr) (nx:H x=none) (ndx:H dx=none) (ne:dx≠x):
 spMk t [.ref x,.int bl,.int pg,.int mo,.non] (upd (upd H dx (.own x)) x (.ins t.C_Chip dx [])) (λv H2=>v=.non∧Q x H2) E:=by(
have s0:Same H (upd (upd H dx (.own x)) x (.ins t.C_Chip dx [])):=λb o e=>by rw[qC (qI e nx),qC (qI e ndx)];exact e
refine⟨x,dx,bl,pg,mo,rfl,qH,b1,b2,p1,p2,m1,m2,λa H' hc fr u=>⟨rfl,q x a H' hc (λb o e=>u b o (qI e nx) (s0 b o e)) λb hb=>?_⟩⟩
have hb:b=x∨b∈[a.li,a.bo,a.cl,a.dc,a.br,a.rc]:=by simp[foot]at hb ⊢;rcases hb with rfl|rfl|rfl|rfl|rfl|rfl|rfl<;>simp
rcases hb with rfl|hb
·exact nx
exact s0.free (fr _ hb))
inductive spClo(t:Adr)(vs:List V)(H:Hp)(Q:VK)(E:XK):Prop
|mk:∀x dx fs b e,vs=[.ref x]→H x=some (.ins t.C_Terms dx fs)→fs.lookup (Str.ofString "blocks")=some (.int b)→fs.lookup (Str.ofString "ill")=some (.int e)→Q (.int (b-1-e)) H→spClo t vs H Q E
theorem q4I(T:Txt K mg t)(S:Fns K t):S.oK.Ok0 P w mg base 1 (spClo t):=by(
refine S.oK.F.ok0 q4G λcdv A _ s H vs Q E hr h=>?_
obtain⟨x,dx,fs,b,e,rfl,hx,l1,l2,q⟩:=h
refine⟨_,(qD (qL (qO yR (qO yR (qJ (pv 0) rfl) qG) (qJ (pv 0) rfl)))),?_⟩
try dsimp-beta-proj-iota-zeta-eta only[wishK,cxK]
exact(iV rfl (iF hx T.bU T.fB l1 (iI (iV rfl (iF hx T.bU T.oF l2 (iI q)))))))
noncomputable def teF(r0 r1 r2 r3 r4 r5:V):List (Str×V):=[("blocks",r0),("pages",r1),("sheets",r2),("share",r3),("ill",r4),("spread",r5)]
inductive spTm(t:Adr)(vs:List V)(H:Hp)(Q:VK)(E:XK):Prop
|mk:∀x dx,∀b p s r e d:Int,vs=[.ref x,.int b,.int p,.int s,.int r,.int e,.int d]→H x=some (.ins t.C_Terms dx [])→2≤b→b≤16→1≤p→p≤16→1≤s→s≤64→1≤r→r≤(b-1-e)*p-2→0≤e→e≤b-2→1≤d→d≤1000000→(∀H',H' x=some (.ins t.C_Terms dx (teF (.int b) (.int p) (.int s) (.int r) (.int e) (.int d)))→Up x H H'→Q .non H')→spTm t vs H Q E
theorem q6D(T:Txt K mg t)(S:Fns K t):FnOk P w K mg base (CX0) 4 t.f_Terms_init S.fI ["self","blocks","pages","sheets","share","ill","spread"] (spTm t):=by(
refine S.aBT.ok0 q6C λcdv A _ s H vs Q E hr h=>?_
obtain⟨x,dx,b,p,s',r,e,d,rfl,hx,b1,b2,p1,p2,s1,s2,r1,r2,e1,e2,d1,d2,q⟩:=h
refine⟨_,(qB (jC (yD (jT (qR (q49 T S).mono hr rfl T.aAG T.aAO S.aAE.b .nil qK (qA (pv 1) (qA (pv 2) qE))))) (qD jD) qP) (qB (jC (yD (jT (qR (jK T S).mono hr rfl T.bW T.bX S.eG.b .nil qK (qA (pv 3) (qA qG (qA qG qE)))))) (qD jD) qP) (qB (jC (yD (jT (qR (jK T S).mono hr rfl T.bW T.bX S.eG.b .nil qK (qA (pv 5) (qA qG (qA (qO yR (pv 1) qG) qE)))))) (qD jD) qP) (qB (jC (yD (jT (qR (jK T S).mono hr rfl T.bW T.bX S.eG.b .nil qK (qA (pv 6) (qA qG (qA (q06 rfl T.t7 ⟨_,rfl⟩ (v:=.int 1000000)) qE)))))) (qD jD) qP) (qB (jL (pv 0) (pv 1) rfl) (qB (jL (pv 0) (pv 2) rfl) (qB (jL (pv 0) (pv 3) rfl) (qB (jL (pv 0) (pv 4) rfl) (qB (jL (pv 0) (pv 5) rfl) (qB (jL (pv 0) (pv 6) rfl) (qD (jC (yD (jT (qR (jK T S).mono hr rfl T.bW T.bX S.eG.b .nil qK (qA (pv 4) (qA qG (qA (qO yR (qO yS (qW (pv 0) T.bU T.aA2 (q4I T S).mono hr S.oK.b .nil qK) (pv 2)) qG) qE)))))) (qD jD) qP)))))))))))),?_⟩
try dsimp-beta-proj-iota-zeta-eta only[wishK,cxK]
refine⟨_,rfl,_,rfl,.int b,.int p,rfl,.int b,.int p,_,rfl,?_⟩
rw[inBi b1 b2,inBi p1 p2]
refine iteF ⟨_,rfl,.int s',_,_,rfl,.int s',_,rfl,?_⟩
rw[inBi s1 s2]
refine iteF ⟨_,rfl,_,rfl,iI ⟨.int e,_,_,rfl,.int e,_,rfl,?_⟩⟩
rw[inBi e1 e2]
refine iteF ⟨_,rfl,.int d,_,_,rfl,.int d,_,rfl,?_⟩
rw[inBi d1 d2]
refine iteF ⟨_,rfl,_,rfl,x,_,dx,_,rfl,hx,T.bU,T.fB,by simp,?_⟩
have w1:Wm t.C_Terms x dx H (upd H x (.ins t.C_Terms dx (putF "blocks" (.int b) []))) (putF "blocks" (.int b) []) []:=⟨qH,Up.of (Same.refl H),by simp,by simp⟩
refine⟨_,rfl,_,rfl,x,_,dx,_,rfl,w1.i,T.bU,T.bT,by show 1<1000;decide,?_⟩
have w2:=w1.put "pages" (.int p)
refine⟨_,rfl,_,rfl,x,_,dx,_,rfl,w2.i,T.bU,T.i8,by show 2<1000;decide,?_⟩
have w3:=w2.put "sheets" (.int s')
refine⟨_,rfl,_,rfl,x,_,dx,_,rfl,w3.i,T.bU,T.oR,by show 3<1000;decide,?_⟩
have w4:=w3.put "share" (.int r)
refine⟨_,rfl,_,rfl,x,_,dx,_,rfl,w4.i,T.bU,T.oF,by show 4<1000;decide,?_⟩
have w5:=w4.put "ill" (.int e)
refine⟨_,rfl,_,rfl,x,_,dx,_,rfl,w5.i,T.bU,T.aAT,by show 5<1000;decide,?_⟩
have w:=w5.put "spread" (.int d)
refine⟨_,rfl,_,rfl,x,dx,_,rfl,w.i,rfl,x,dx,_,b,e,rfl,w.i,rfl,rfl,_,rfl,iI ⟨.inr ⟨by lia,by lia⟩,iI ⟨.int r,_,_,rfl,.int r,_,rfl,?_⟩⟩⟩
rw[inBi r1 r2]
exact iteF (q _ w.i w.u))
theorem qK8{H:Hp}{b p s r e d:Int}{Q:Addr→Hp→Prop}{E:XK}(b1:2≤b)(b2:b≤16)(p1:1≤p)(p2:p≤16)(s1:1≤s)(s2:s≤64)(r1:1≤r)(r2:r≤(b-1-e)*p-2)(e1:0≤e)(e2:e≤b-2)(d1:1≤d)(d2:d≤1000000)
 (q:∀x dx H',Same H H'→H' x=some (.ins t.C_Terms dx (teF (.int b) (.int p) (.int s) (.int r) (.int e) (.int d)))→Q x H') (x dx:Addr) (nx:H x=none) (ndx:H dx=none) (ne:dx≠x):
 spTm t [.ref x,.int b,.int p,.int s,.int r,.int e,.int d] (upd (upd H dx (.own x)) x (.ins t.C_Terms dx [])) (λv H2=>v=.non∧Q x H2) E:=by
 have s0:Same H (upd (upd H dx (.own x)) x (.ins t.C_Terms dx [])):=λb o e=>by rw[qC (qI e nx),qC (qI e ndx)];exact e
 exact⟨x,dx,b,p,s,r,e,d,rfl,qH,b1,b2,p1,p2,s1,s2,r1,r2,e1,e2,d1,d2,λH' h u=>⟨rfl,q x dx H' (λb o e=>u b o (qI e nx) (s0 b o e)) h⟩⟩
inductive spMkO(vs:List V)(H:Hp)(Q:VK)(E_:XK):Prop
|mk:∀s n,vs=[.int s,.int n]→Q (.int (s*128+n)) H→spMkO vs H Q E_
theorem qAI(T:Txt K mg t)(S:Fns K t):S.aCC.Ok0 P w mg base 1 spMkO:=by(
refine S.aCC.F.ok0 qAH λcdv A _ s H vs Q E hr h=>?_
obtain⟨s',n,rfl,q⟩:=h
refine⟨_,(qD (qL (qO yL (qO yS (pv 0) (q06 rfl T.aC0 ⟨_,rfl⟩ (v:=.int 128))) (pv 1)))),?_⟩
try dsimp-beta-proj-iota-zeta-eta only[wishK,cxK]
exact⟨_,rfl,iI ⟨.inr ⟨by decide,by decide⟩,_,rfl,iI q⟩⟩)
structure BkA where
bk:Addr
dx:Addr
wv:Addr
lv:Addr
fi:Addr
bo:Addr
structure BkAt(t:Adr)(H:Hp)(a:BkA)(m:QM):Prop where
o:H a.bk=some (.ins t.C_Book a.dx [("blocks",.int (m.B:Int)),("pages",.int (m.P:Int)),("stamp",.int m.nx),("where",.ref a.wv),("live",.ref a.lv),("filled",.ref a.fi),("born",.ref a.bo)])
w:H a.wv=some (.dK (dI m.V))
l:H a.lv=some (.lst (m.lv.map V.int))
f:H a.fi=some (.lst (m.fi.map V.int))
b:H a.bo=some (.lst (m.bo.map V.int))
structure Dst(a:BkA):Prop where
lf:a.lv≠a.fi
lb:a.lv≠a.bo
fb:a.fi≠a.bo
theorem BkAt.same{t:Adr}{H H':Hp}{a:BkA}{m:QM}(h:BkAt t H a m)(s:Same H H'):BkAt t H' a m:=⟨s _ _ h.o,s _ _ h.w,s _ _ h.l,s _ _ h.f,s _ _ h.b⟩
theorem BkAt.keep{t:Adr}{H H':Hp}{a:BkA}{m:QM}{F:List Addr}(h:BkAt t H a m)(k:Keep F H H')(n:∀b∈[a.bk,a.wv,a.lv,a.fi,a.bo],b∉F):BkAt t H' a m:=⟨k.k _ _ (n _ (by simp)) h.o,k.k _ _ (n _ (by simp)) h.w,k.k _ _ (n _ (by simp)) h.l,k.k _ _ (n _ (by simp)) h.f,k.k _ _ (n _ (by simp)) h.b⟩
noncomputable def bk0(B P:Nat):QM:=⟨P,B,1,[],List.replicate B 0,List.replicate B 0,List.replicate B 0⟩
inductive spBkI(t:Adr)(vs:List V)(H:Hp)(Q:VK)(E_:XK):Prop
|mk:∀x dx B P,vs=[.ref x,.int (B:Nat),.int (P:Nat)]→B≤16→H x=some (.ins t.C_Book dx [])→(∀(a:BkA) H',a.bk=x→a.dx=dx→BkAt t H' a (bk0 B P)→Dst a→(∀b∈[a.wv,a.lv,a.fi,a.bo],H b=none)→(∀b o,b≠x→H b=some o→H' b=some o)→Q .non H')→spBkI t vs H Q E_
theorem q86(T:Txt K mg t)(S:Fns K t):S.aAP.Ok0 P w mg base 1 (spBkI t):=by(
refine S.aAP.F.ok0 q7X λcdv A _ s H vs Q E hr h=>?_
obtain⟨x,dx,B,P,rfl,hB,hx,q⟩:=h
refine⟨_,(qB (jL (pv 0) (pv 1) rfl) (qB (jL (pv 0) (pv 2) rfl) (qB (jL (pv 0) qG rfl) (qB (jL (pv 0) q55 rfl) (qB (jL (pv 0) (qO q0B (y7 (qA qG qE)) (pv 1)) rfl) (qB (jL (pv 0) (qO q0B (y7 (qA qG qE)) (pv 1)) rfl) (qD (jL (pv 0) (qO q0B (y7 (qA qG qE)) (pv 1)) rfl)))))))),?_⟩
try dsimp-beta-proj-iota-zeta-eta only[wishK,cxK]
refine⟨_,rfl,_,rfl,x,_,dx,_,rfl,hx,T.bS,T.aAV,by decide,?_⟩
refine⟨_,rfl,_,rfl,x,_,dx,_,rfl,qH,T.bS,T.fV,by show 1<1000;decide,?_⟩
refine⟨_,rfl,x,_,dx,_,rfl,qH,T.bS,T.b8,by show 2<1000;decide,?_⟩
rw[q78,q78]
have w1:Wm t.C_Book x dx H (upd H x (.ins t.C_Book dx (putF "stamp" (.int 1) (putF "pages" (.int (P:Int)) (putF "blocks" (.int (B:Int)) []))))) (putF "stamp" (.int 1) (putF "pages" (.int (P:Int)) (putF "blocks" (.int (B:Int)) []))) []:=⟨qH,Up.of (Same.refl H),by simp,by simp⟩
have rep:∀n:Nat,List.replicate n (V.int 0)=(List.replicate n (0:Int)).map V.int:=λn=>by rw[cU]
have eB:((B:Int)).toNat=B:=by lia
refine λwv nwv=>?_
have w2:=w1.add nwv (Same.upd (o:=.dK []) nwv) qH
refine⟨_,rfl,x,_,dx,_,rfl,w2.i,T.bS,T.eI,by show 3<1000;decide,?_⟩
have w2:=w2.put "where" (.ref wv)
refine⟨sz1,λwa A3 n3 s3 e3=>⟨_,rfl,wa,_,_,rfl,rfl,e3,by lia,by lia,λlv B3 m3 r3 hlv=>?_⟩⟩
rw[eB,rep]at hlv
have w3:=(w2.same s3).add m3 r3 hlv
refine⟨_,rfl,x,_,dx,_,rfl,w3.i,T.bS,T.iH,by show 4<1000;decide,?_⟩
have w3:=w3.put "live" (.ref lv)
refine⟨sz1,λwa A4 n4 s4 e4=>⟨_,rfl,wa,_,_,rfl,rfl,e4,by lia,by lia,λfi B4 m4 r4 hfi=>?_⟩⟩
rw[eB,rep]at hfi
have w4:=(w3.same s4).add m4 r4 hfi
refine⟨_,rfl,x,_,dx,_,rfl,w4.i,T.bS,T.bV,by show 5<1000;decide,?_⟩
have w4:=w4.put "filled" (.ref fi)
refine⟨sz1,λwa A5 n5 s5 e5=>⟨_,rfl,wa,_,_,rfl,rfl,e5,by lia,by lia,λbo B5 m5 r5 hbo=>?_⟩⟩
rw[eB,rep]at hbo
have w5:=(w4.same s5).add m5 r5 hbo
refine⟨_,rfl,x,_,dx,_,rfl,w5.i,T.bS,T.iC,by show 6<1000;decide,?_⟩
have w5:=w5.put "born" (.ref bo)
have nd:[wv,lv,fi,bo].Nodup:=w5.n
simp only[gA,kI,rJ,not_or,or_false]at nd
exact q ⟨x,dx,wv,lv,fi,bo⟩ _ rfl rfl ⟨w5.i,(w5.o (wv,.dK []) (by simp)).1,(w5.o (lv,.lst ((List.replicate B (0:Int)).map V.int)) (by simp)).1,(w5.o (fi,.lst ((List.replicate B (0:Int)).map V.int)) (by simp)).1,(w5.o (bo,.lst ((List.replicate B (0:Int)).map V.int)) (by simp)).1⟩ ⟨nd.2.1.1,nd.2.1.2,nd.2.2.1⟩ (λb' hb'=>w5.fr b' hb') w5.u)
inductive spMark(t:Adr)(vs:List V)(H:Hp)(Q:VK)(E_:XK):Prop
|mk:∀a,∀m:QM,∀n,vs=[.ref a.bk,.int n]→BkAt t H a m→Q (.int (m.nx*128+n)) H→spMark t vs H Q E_
theorem q87(T:Txt K mg t)(S:Fns K t):S.aAL.Ok0 P w mg base 2 (spMark t):=by(
refine S.aAL.F.ok0 q7Y λcdv A _ s H vs Q E hr h=>?_
obtain⟨a,m,n,rfl,hb,q⟩:=h
refine⟨_,(qD (qL (qR (qAI T S).mono hr rfl T.aCN T.aCM S.aCC.b .nil qK (qA (qJ (pv 0) rfl) (qA (pv 1) qE))))),?_⟩
try dsimp-beta-proj-iota-zeta-eta only[wishK,cxK]
exact(iV rfl (iF hb.o T.bS T.b8 rfl ⟨_,rfl,_,_,rfl,q⟩)))
inductive spFg(t:Adr)(vs:List V)(H:Hp)(Q:VK)(E_:XK):Prop
|mk:∀a,∀m:QM,∀n,vs=[.ref a.bk,.int n]→BkAt t H a m→m.Ok→Dst a→(∀H',BkAt t H' a (m.forget n)→Keep [a.wv,a.lv] H H'→Q .non H')→spFg t vs H Q E_
theorem q1N(T:Txt K mg t)(S:Fns K t):S.iZ.Ok0 P w mg base 1 (spFg t):=by(
refine S.iZ.F.ok0 q1E λcdv A _ s H vs Q E hr h=>?_
obtain⟨a,m,n,rfl,hb,ok,ds,q⟩:=h
have hu:=q38 hr
have p1:=ok.p1
have p2:=ok.p2
have ob:a.bk≠a.wv:=jM hb.o hb.w (by intro z;cases z)
have ol:a.bk≠a.lv:=jM hb.o hb.l (by intro z;cases z)
have wl:a.wv≠a.lv:=jM hb.w hb.l (by intro z;cases z)
have wf:a.fi≠a.wv:=jM hb.f hb.w (by intro z;cases z)
have wb:a.bo≠a.wv:=jM hb.b hb.w (by intro z;cases z)
refine⟨_,(qD (jC (qH2 (qD3 hu (pv 1) (qJ (pv 0) rfl))) (qB (qV (i:=2) q1E.nd rfl (Or.inl rfl) (q8P (qJ (pv 0) rfl) (pv 1) ⟨rfl,rfl,rfl,rfl⟩)) (qD (q34 (qJ (pv 0) rfl) (qO q1T (pv 2) (qJ (pv 0) rfl)) q0Z qG qH5 u6))) qP)),?_⟩
try dsimp-beta-proj-iota-zeta-eta only[wishK,cxK]
refine⟨_,rfl,iV rfl (iF hb.o T.bS T.eI rfl ⟨a.wv,_,rfl,DGet.k (k:=Sum.inl n) hb.w,_,rfl,?_⟩)⟩
rcases QM.find_V (m:=m) (n:=n)with⟨p,hp,ef⟩|⟨hn,ef⟩
·have hv:(n,p)∈m.V:=hp;rw[q20 ok.nd hv];refine iteT ?_;refine(iV rfl (iF hb.o T.bS T.eI rfl ⟨a.wv,rfl,.inl ⟨_,.inl hb.w⟩,_,rfl,_,Sum.inl n,_,hb.w,rfl,q20 ok.nd hv,?_⟩));rw[q93];have k1:Keep [a.wv,a.lv] H (upd H a.wv (.dK (dI (qZ m.V n)))):=Keep.upd hb.w (λ_ z=>by cases z) (by simp);have w1:(upd H a.wv (.dK (dI (qZ m.V n)))) a.wv=some (.dK (dI (qZ m.V n))):=qH;have u1:∀b o,b≠a.wv→H b=some o→(upd H a.wv (.dK (dI (qZ m.V n)))) b=some o:=λb o nb e=>by rw[qC nb];exact e
 generalize upd H a.wv (.dK (dI (qZ m.V n)))=H1 at k1 w1 u1 ⊢;obtain⟨c,hc,ec⟩:=ok.blk _ hp;have ec:p / (m.P:Int)=(c:Int):=ec;have hcl:c<m.lv.length:=by rw[ok.ll];exact hc
 have l1:=u1 _ _ wl.symm hb.l;refine(iV rfl (iF (u1 _ _ ob hb.o) T.bS T.iH rfl ⟨_,rfl,iV rfl (iF (u1 _ _ ob hb.o) T.bS T.fV rfl (iI ⟨⟨by lia,by lia⟩,iL (k:=_) (v:=_) (SqL.of l1) (by rw[ec];exact atV hcl) (iI ⟨a.lv,_,_,c,rfl,rfl,l1,(by rw[ec];exact q3V (by rw[hX];exact hcl)),?_⟩)⟩))⟩));rw[setV];have el:(m.forget n).lv=m.lv.set c (m.lv.getD c 0-1):=by show BM.lvF m.P m.V m.lv n=_;unfold BM.lvF;rw[ef];show m.lv.set (p / (m.P:Int)).toNat (m.lv.getD (p / (m.P:Int)).toNat 0-1)=_;rw[ec,show((c:Int)).toNat=c by lia]
 refine q _ ⟨?_,?_,?_,?_,?_⟩ (k1.trans (Keep.upd l1 (λ_ z=>by cases z) (by simp)))
 ·rw[qC ol];exact u1 _ _ ob hb.o
 ·rw[qC wl];exact w1
 ·rw[el];exact qH
 ·rw[qC ds.lf.symm];exact u1 _ _ wf hb.f
 rw[qC ds.lb.symm];exact u1 _ _ wb hb.b
rw[q2L (λz=>by obtain⟨r,hr',e⟩:=kO.mp z;exact hn r hr' e)]
refine iteF ?_
have el:(m.forget n).lv=m.lv:=by show BM.lvF m.P m.V m.lv n=_;unfold BM.lvF;rw[ef]
have eV:(m.forget n).V=m.V:=qFN λr hr'=>hn r hr'
exact q H ⟨hb.o,by rw[eV];exact hb.w,by rw[el];exact hb.l,hb.f,hb.b⟩ Keep.refl)
theorem q5W{V:Mp}:(dI V).length=V.length:=by unfold dI;rw[hX]
inductive spNt(t:Adr)(vs:List V)(H:Hp)(Q:VK)(E_:XK):Prop
|mk:∀a,∀m:QM,∀b f n,vs=[.ref a.bk,.int ((b*m.P+f:Nat):Int),.int n]→BkAt t H a m→m.Ok→Dst a→b<m.B→f<m.P→m.fi.getD b 0=(f:Int)→(∀H',BkAt t H' a (m.put b f n)→Keep [a.bk,a.wv,a.lv,a.fi,a.bo] H H'→Q .non H')→spNt t vs H Q E_
theorem q88(T:Txt K mg t)(S:Fns K t):S.aAQ.Ok0 P w mg base 2 (spNt t):=by(
refine S.aAQ.F.ok0 q3G λcdv A _ s H vs Q E hr h=>?_
obtain⟨a,m,b,f,n,rfl,hb,ok,ds,hB,hf,ef,q⟩:=h
have hu:=q38 hr
have p1:=ok.p1
have p2:=ok.p2
have ob:a.bk≠a.wv:=jM hb.o hb.w (by intro z;cases z)
have ol:a.bk≠a.lv:=jM hb.o hb.l (by intro z;cases z)
have of':a.bk≠a.fi:=jM hb.o hb.f (by intro z;cases z)
have oo:a.bk≠a.bo:=jM hb.o hb.b (by intro z;cases z)
have wl:a.wv≠a.lv:=jM hb.w hb.l (by intro z;cases z)
have wf:a.fi≠a.wv:=jM hb.f hb.w (by intro z;cases z)
have wb:a.bo≠a.wv:=jM hb.b hb.w (by intro z;cases z)
have eb:((b*m.P+f:Nat):Int) / (m.P:Int)=(b:Int):=by rw[←dX,jZ hf]
refine⟨_,(qB (qV (i:=3) q3G.nd rfl (Or.inl rfl) (qO q1T (pv 1) (qJ (pv 0) rfl))) (qB (qU (qY (pv 0) T.bS T.tL (q1N T S).mono hr S.iZ.b .nil qK (qA (pv 2) qE))) (qB (qAT hu (qJ (pv 0) rfl) (pv 2) (pv 1) rfl) (qB (q34 (qJ (pv 0) rfl) (pv 3) q0Z qG q4X u6) (q1X (jC (qT zU (jB jI (qJ (pv 0) rfl) (pv 3) (λ_ _=>rfl)) qG (qS _)) (qD (q3P (qJ (pv 0) rfl) (q4W (qJ (pv 0) rfl) (pv 3) u6))) qP) (qB (q34 (qJ (pv 0) rfl) (pv 3) q0Z qG q4X u6) (qD (q6O (pv 0) qG qH9)))))))),?_⟩
try dsimp-beta-proj-iota-zeta-eta only[wishK,cxK]
refine⟨_,rfl,iV rfl (iF hb.o T.bS T.fV rfl (iI ⟨⟨by lia,by lia⟩,?_⟩))⟩
try dsimp only
rw[eb]
refine(iV rfl (iM hb.o rfl ⟨_,rfl,a,m,n,rfl,hb,ok,ds,λH1 hb1 k1=>?_⟩))
have k1:Keep [a.bk,a.wv,a.lv,a.fi,a.bo] H H1:=k1.mono (by intro x hx;simp at hx ⊢;rcases hx with rfl|rfl<;>simp)
have lnV:(qZ m.V n).length≤65:=mD (mJ _ _) ok.lenV
have w0:H1 a.wv=some (.dK (dI (qZ m.V n))):=hb1.w
refine⟨_,rfl,iV rfl (iF hb1.o T.bS T.eI rfl ⟨_,rfl,a.wv,_,rfl,.inl ⟨_,Sum.inl n,w0,rfl,(by rw[q5W];exact cQ (m:=65) (by lia) (by decide)),rfl⟩,?_⟩)⟩
rw[qB8,qC6]
have k2:Keep [a.bk,a.wv,a.lv,a.fi,a.bo] H1 (upd H1 a.wv (.dK (dI (qZ m.V n++[(n,((b*m.P+f:Nat):Int))])))):=Keep.upd w0 (λ_ z=>by cases z) (by simp)
have w2:(upd H1 a.wv (.dK (dI (qZ m.V n++[(n,((b*m.P+f:Nat):Int))])))) a.wv=some (.dK (dI (qZ m.V n++[(n,((b*m.P+f:Nat):Int))]))):=qH
have u2:∀x o,x≠a.wv→H1 x=some o→(upd H1 a.wv (.dK (dI (qZ m.V n++[(n,((b*m.P+f:Nat):Int))])))) x=some o:=λx o nb e=>by rw[qC nb];exact e
generalize upd H1 a.wv (.dK (dI (qZ m.V n++[(n,((b*m.P+f:Nat):Int))])))=H2 at k2 w2 u2 ⊢
have o2:=u2 _ _ ob hb1.o
have l2:H2 a.lv=some (.lst ((BM.lvF m.P m.V m.lv n).map V.int)):=u2 _ _ wl.symm hb1.l
have f2:H2 a.fi=some (.lst (m.fi.map V.int)):=u2 _ _ wf hb1.f
have b2:H2 a.bo=some (.lst (m.bo.map V.int)):=u2 _ _ wb hb1.b
have hbl:b<(BM.lvF m.P m.V m.lv n).length:=by rw[show(BM.lvF m.P m.V m.lv n).length=m.B from(ok.forget n).ll];exact hB
have hbf:b<m.fi.length:=by rw[ok.lf];exact hB
have hbo:b<m.bo.length:=by rw[ok.lo];exact hB
refine(iV rfl (iF o2 T.bS T.iH rfl ⟨_,rfl,iL (k:=_) (v:=_) (SqL.of l2) (atV hbl) (iI ⟨a.lv,_,_,b,rfl,rfl,l2,q3V (by rw[hX];exact hbl),?_⟩)⟩))
rw[setV]
have k3:Keep [a.bk,a.wv,a.lv,a.fi,a.bo] H2 (upd H2 a.lv (.lst (((BM.lvF m.P m.V m.lv n).set b ((BM.lvF m.P m.V m.lv n).getD b 0+1)).map V.int))):=Keep.upd l2 (λ_ z=>by cases z) (by simp)
have l3:(upd H2 a.lv (.lst (((BM.lvF m.P m.V m.lv n).set b ((BM.lvF m.P m.V m.lv n).getD b 0+1)).map V.int))) a.lv=some (.lst (((BM.lvF m.P m.V m.lv n).set b ((BM.lvF m.P m.V m.lv n).getD b 0+1)).map V.int)):=qH
have u3:∀x o,x≠a.lv→H2 x=some o→(upd H2 a.lv (.lst (((BM.lvF m.P m.V m.lv n).set b ((BM.lvF m.P m.V m.lv n).getD b 0+1)).map V.int))) x=some o:=λx o nb e=>by rw[qC nb];exact e
generalize upd H2 a.lv (.lst (((BM.lvF m.P m.V m.lv n).set b ((BM.lvF m.P m.V m.lv n).getD b 0+1)).map V.int))=H3 at k3 l3 u3 ⊢
have o3:=u3 _ _ ol o2
have w3:=u3 _ _ wl w2
have f3:=u3 _ _ ds.lf.symm f2
have b3:=u3 _ _ ds.lb.symm b2
refine⟨λσ' H'=>σ'=[some (.ref a.bk),some (.int ((b*m.P+f:Nat):Int)),some (.int n),some (.int (b:Int))]∧Keep [a.bk,a.wv,a.lv,a.fi,a.bo] H3 H'∧H' a.bo=some (.lst ((m.put b f n).bo.map V.int))∧∀x o,x≠a.bo→H3 x=some o→H' x=some o,?_,?_⟩
·refine(iV rfl (iF o3 T.bS T.bV rfl ⟨_,rfl,iL (k:=_) (v:=_) (SqL.of f3) (atV hbf) ⟨rfl,_,rfl,?_⟩⟩));rw[q2J];by_cases z:m.fi.getD b 0=0
 ·rw[hG z];refine iteT ?_;refine(iV rfl (iF o3 T.bS T.b8 rfl (iV rfl (iF o3 T.bS T.iC rfl ⟨_,rfl,a.bo,_,_,b,rfl,rfl,b3,q3V (by rw[hX];exact hbo),?_⟩))));rw[setV];refine⟨rfl,Keep.upd b3 (λ_ z=>by cases z) (by simp),?_,λx o nb e=>by rw[qC nb];exact e⟩;rw[qH];show _=some (HO.lst ((if m.fi.getD b 0=0 then m.bo.set b m.nx else m.bo).map V.int));rw[hU z];rfl
 rw[h9 z];refine iteF ⟨rfl,Keep.refl,?_,λx o _ e=>e⟩;show _=some (HO.lst ((if m.fi.getD b 0=0 then m.bo.set b m.nx else m.bo).map V.int));rw[hC z];exact b3
rintro σ' H4 ⟨rfl,k4,b4,u4⟩
have o4:=u4 _ _ oo o3
have w4:=u4 _ _ wb.symm w3
have l4:=u4 _ _ ds.lb l3
have f4:=u4 _ _ ds.fb f3
refine(iV rfl (iF o4 T.bS T.bV rfl ⟨_,rfl,iL (k:=_) (v:=_) (SqL.of f4) (atV hbf) (iI ⟨a.fi,_,_,b,rfl,rfl,f4,q3V (by rw[hX];exact hbf),?_⟩)⟩))
rw[setV]
have k5:Keep [a.bk,a.wv,a.lv,a.fi,a.bo] H4 (upd H4 a.fi (.lst ((m.fi.set b (m.fi.getD b 0+1)).map V.int))):=Keep.upd f4 (λ_ z=>by cases z) (by simp)
have f5:(upd H4 a.fi (.lst ((m.fi.set b (m.fi.getD b 0+1)).map V.int))) a.fi=some (.lst ((m.fi.set b (m.fi.getD b 0+1)).map V.int)):=qH
have u5:∀x o,x≠a.fi→H4 x=some o→(upd H4 a.fi (.lst ((m.fi.set b (m.fi.getD b 0+1)).map V.int))) x=some o:=λx o nb e=>by rw[qC nb];exact e
generalize upd H4 a.fi (.lst ((m.fi.set b (m.fi.getD b 0+1)).map V.int))=H5 at k5 f5 u5 ⊢
have o5:=u5 _ _ of' o4
refine⟨_,rfl,a.bk,_,a.dx,_,_,rfl,o5,T.bS,T.b8,rfl,_,_,rfl,rfl,a.dx,_,o5,by show 7<1000;decide,?_⟩
refine q _ ⟨?_,?_,?_,?_,?_⟩ ((((k1.trans k2).trans k3).trans k4).trans (k5.trans (Keep.upd o5 (λ_ z=>by cases z) (by simp))))
·exact qH
·rw[qC ob.symm];exact u5 _ _ wf.symm w4
·rw[qC ol.symm];exact u5 _ _ ds.lf l4
·rw[qC of'.symm];exact f5
rw[qC oo.symm]
exact u5 _ _ ds.fb.symm b4)
noncomputable def lamE:Expr:=match((jW jO).getLast?:Option Stmt)with
|some (Stmt.Return (some (Expr.Call _ _ (k::_) _)) _)=>k.value
|_=>Expr.Name "" ⟨0,0,0,0⟩
noncomputable abbrev lamA:Arguments:=match lamE with
| .Lambda a _ _ _=>a
|_=>yF jO
noncomputable abbrev lamB:Expr:=match lamE with
| .Lambda _ b _ _=>b
|_=>lamE
noncomputable abbrev qEM:Scope:=match lamE with
| .Lambda _ _ s _=>s
|_=>qF jO
noncomputable abbrev lamP:Pos:=match lamE with
| .Lambda _ _ _ p=>p
|_=>⟨0,0,0,0⟩
noncomputable abbrev lamQ:Str:=(PyProof.Rows.envOfC "Plain.free" (qF jO) 0 0 .none).qual++"<lambda>"
noncomputable abbrev q5X(clos:List (Str×Addr))(pm ct:Value)(c:Addr):FuncData:=W.kla_fn "<lambda>" lamQ lamA lamB qEM clos pm (.ref c) ct
noncomputable def tri(c:Addr):Array Value:=#[rawInt lamP.line,rawInt lamP.col,.ref c]
noncomputable def TbF(t:Adr)(H:Hp):Prop:=∃ps,H t.bM=some (.tbl ps)∧(ps=#[]∨∃c,ps=tri c∧H c=some (cdO c lamQ))
theorem TbF.same{t:Adr}{H H':Hp}(s:Same H H')(h:TbF t H):TbF t H':=by(
obtain⟨ps,hT,h⟩:=h
refine⟨ps,s _ _ hT,?_⟩
rcases h with h|⟨c,h,a⟩
·exact .inl h
exact .inr ⟨c,h,s _ _ a⟩)
structure Sto where
s:Addr
sd:Addr
tm:Addr
td:Addr
c:Addr
a:CA
k:BkA
ru:V
pa:V
noncomputable def bf(k:BkA):List Addr:=[k.bk,k.wv,k.lv,k.fi,k.bo]
noncomputable def sf(x:Sto):List Addr:=foot x.c x.a++bf x.k
structure Fit(m:CM)(q:QM):Prop where
ok:m.Ok
oq:q.Ok
eB:m.bl=(q.B:Int)
eP:m.pg=(q.P:Int)
structure StAt(t:Adr)(H:Hp)(x:Sto)(r2 r3 r4 r5:V)(m:CM)(q:QM):Prop where
o:H x.s=some (.ins t.C_Store x.sd [("chip",.ref x.c),("terms",.ref x.tm),("book",.ref x.k.bk),("rule",x.ru),("papers",x.pa)])
te:H x.tm=some (.ins t.C_Terms x.td (teF (.int m.bl) (.int m.pg) r2 r3 r4 r5))
ch:ChipAt t.C_Chip H x.c x.a m
bk:BkAt t H x.k q
tb:TbF t H
ds:Dst x.k
d1:∀b∈x.a.li::foot x.c x.a,b∉bf x.k
d2:∀b∈[x.s,x.tm],b∉sf x
section
variable{H H':Hp}{x:Sto}{r2 r3 r4 r5:V}{m:CM}{q:QM}
theorem StAt.same(h:StAt t H x r2 r3 r4 r5 m q)(s:Same H H'):StAt t H' x r2 r3 r4 r5 m q:=⟨s _ _ h.o,s _ _ h.te,h.ch.same s,h.bk.same s,h.tb.same s,h.ds,h.d1,h.d2⟩
theorem TbF.ne(h:TbF t H){b:Addr}{o:HO}(e:H b=some o)(n:∀ps,o≠ .tbl ps):b≠t.bM:=λz=>by obtain⟨ps,hT,_⟩:=h;rw[z,hT]at e;exact n ps (kW e).symm
theorem StAt.nT(h:StAt t H x r2 r3 r4 r5 m q):∀b∈[x.s,x.tm]++(x.a.li::sf x),b∉[t.bM]:=by(
intro b hb z
have z:b=t.bM:=by simpa using z
have ne:∀{b:Addr} {o:HO},H b=some o→(∀ps,o≠ .tbl ps)→b≠t.bM:=λe n=>h.tb.ne e n
obtain⟨rs,er,_⟩:=h.ch.rc
have hb:b=x.s∨b=x.tm∨b=x.a.li∨b=x.c∨b=x.a.bo∨b=x.a.cl∨b=x.a.dc∨b=x.a.br∨b=x.a.rc∨b=x.k.bk∨b=x.k.wv∨b=x.k.lv∨b=x.k.fi∨b=x.k.bo:=by simpa[sf,bf,foot]using hb
rcases hb with y|y|y|y|y|y|y|y|y|y|y|y|y|y<;>rw[y]at z
·exact ne h.o (λ_ z=>by cases z) z
·exact ne h.te (λ_ z=>by cases z) z
·exact ne h.ch.li (λ_ z=>by cases z) z
·exact ne h.ch.ins (λ_ z=>by cases z) z
·exact ne h.ch.bo (λ_ z=>by cases z) z
·exact ne h.ch.cl (λ_ z=>by cases z) z
·exact ne h.ch.dc (λ_ z=>by cases z) z
·exact ne h.ch.br (λ_ z=>by cases z) z
·exact ne er (λ_ z=>by cases z) z
·exact ne h.bk.o (λ_ z=>by cases z) z
·exact ne h.bk.w (λ_ z=>by cases z) z
·exact ne h.bk.l (λ_ z=>by cases z) z
·exact ne h.bk.f (λ_ z=>by cases z) z
exact ne h.bk.b (λ_ z=>by cases z) z)
theorem StAt.keep(h:StAt t H x r2 r3 r4 r5 m q){F:List Addr}(k:Keep F H H')(n:∀b∈[x.s,x.tm]++(x.a.li::sf x),b∉F)(tb:TbF t H'):StAt t H' x r2 r3 r4 r5 m q:=⟨k.k _ _ (n _ (by simp)) h.o,k.k _ _ (n _ (by simp)) h.te,h.ch.keep k (λb hb=>n b (by
  rcases kI.mp hb with rfl|hb
  ·simp
  ·simp[sf,hb])),h.bk.keep k (λb hb=>n b (by
  have hb:b∈bf x.k:=hb;simp[sf,hb])),tb,h.ds,h.d1,h.d2⟩
theorem StAt.kT(h:StAt t H x r2 r3 r4 r5 m q)(k:Keep [t.bM] H H')(tb:TbF t H'):StAt t H' x r2 r3 r4 r5 m q:=h.keep k h.nT tb
end
inductive spGd(t:Adr)(vs:List V)(H:Hp)(Q:VK)(E_:XK):Prop
|mk:∀x r2 r3 r4 r5 m q,vs=[.ref x.s]→StAt t H x r2 r3 r4 r5 m q→Fit m q→NewO H (.lst ((u8 q.B m.br).map vn)) Q→spGd t vs H Q E_
theorem zQ(T:Txt K mg t)(S:Fns K t):S.iR.Ok0 P w mg base 5 (spGd t):=by(
refine S.iR.F.ok0 q68 λcdv A _ s H vs Q E hr h=>?_
obtain⟨x,r2,r3,r4,r5,m,q,rfl,hs,ft,k⟩:=h
have b2:=ft.oq.b2
have eB:=ft.eB
refine⟨_,(qD (qL (q0C ["self","block"] [0] rfl (q3Q rfl T.aAJ (qA (qJ (qJ (pv 0) rfl) rfl) qE)) (λ_ _ _ _ _=>(j9 (i:=1) (show List.Nodup (["self","block"]:List Str)from by decide) rfl (Or.inl rfl))) (λ_ _ _ _ _=>(vF (yD (jT (qY (uZ (K:=K) rfl (pv 0) rfl) T.bO T.aBL (q5V T S).mono hr S.o8.b .nil qK (qA (pv 1) qE)))))) (λ_ _ _ _ _=>(pv 1)) (by kernel_rfl) (u7 (by decide))))),?_⟩
try dsimp-beta-proj-iota-zeta-eta only[wishK,cxK]
refine(iV rfl (iF hs.o T.bN T.bR rfl (iF hs.te T.bU T.fB rfl ⟨m.bl,rfl,by lia,by lia,λD H2 nD s2 hD=>?_⟩)))
refine q72 (D:=D) (λi H3=>Same H H3∧H3 D=some (.lst (((List.range i).filter λb=>!(m.br.getD b false)).map vn))) ⟨s2,hD⟩ (λi H3 hi hp=>?_) (λH3 hp=>?_)
·obtain⟨sm,hd⟩:=hp;have hi:i<q.B:=by lia
 have h3:=hs.same sm;refine(iV rfl (iF h3.o T.bN T.b9 rfl (iM h3.ch.ins rfl ⟨_,rfl,x.c,x.a,m,_,rfl,h3.ch,ft.ok,by lia,by lia,?_⟩)));rw[show(0+(i:Int)).toNat=i by lia,x9];refine⟨_,rfl,?_⟩;rw[lI,gT,gB];cases z:m.br.getD i false with
 |true=>refine iteF ⟨sm,?_⟩;rw[hd,m9,z];simp
 |false=>
  refine iteT ?_;refine⟨_,rfl,_,hd,?_,λb o e=>?_,?_⟩
  ·rw[hX];have:((List.range i).filter λb=>!(m.br.getD b false)).length≤i:=mD (mJ _ _) (by rw[gD];exact kJ _);have:(16:Nat)<sizeLine:=by decide
   lia
  ·rw[qC (qI e nD)];exact sm _ _ e
  rw[qH,m9,z];rfl
obtain⟨sm,hd⟩:=hp
rw[show m.bl.toNat=q.B by lia]at hd
exact k D H3 nD sm hd)
inductive spLm(t:Adr)(x:Sto)(g c:Addr)(fd:FuncData)(vs:List V)(H:Hp)(Q:VK)(E_:XK):Prop
|mk:∀r2 r3 r4 r5,∀m:CM,∀q:QM,∀b:Nat,vs=[.int (b:Int)]→StAt t H x r2 r3 r4 r5 m q→Fit m q→b<q.B→H g=some (fnO g fd)→H c=some (cdO c lamQ)→(∀tp H',H tp=none→Same H H'→H' tp=some (.tup [.int (m.cl.getD b 0),.int (b:Int)])→Q (.ref tp) H')→spLm t x g c fd vs H Q E_
theorem qIZ(T:Txt K mg t)(S:Fns K t){g c ca:Addr}{pm ct:Value}{x:Sto}(hc:base.IsCell ca (some (.ref x.s))):
 FnOk P w K mg base CX0 5 g (q5X [("self",ca)] pm ct c) ["block"] (spLm t x g c (q5X [("self",ca)] pm ct c)):=by(
refine qFI (k:=4) (x0:="block") (fvs:=[.ref x.s]) (qC7 (u:=.ref x.s) rfl rfl rfl (by decide+kernel) (by decide+kernel) (by decide+kernel) rfl hc) (λvs H Q E h=>?_) (λvs H Q E h=>?_) (λA outer s H v0 Q E hr h=>?_)
·repeat obtain⟨_,h⟩:=h
 all_goals subst_vars;rfl
·obtain⟨r2,r3,r4,r5,m,q,b,rfl,_,_,_,a,d,_⟩:=h;exact⟨a,d⟩
obtain⟨r2,r3,r4,r5,m,q,b,e,hs,ft,hb,_,_,k⟩:=h
obtain rfl:v0=.int (b:Int):=by simpa using e
have eB:=ft.eB
refine⟨_,vW (qA (qY (qJ (pv 1) rfl) T.bO T.oX (q0V T S).mono hr S.iE.b .nil qK (qA (pv 0) qE)) (qA (pv 0) qE)),?_⟩
refine(iV rfl (iF hs.o T.bN T.b9 rfl (iM hs.ch.ins rfl ⟨_,rfl,x.c,x.a,m,_,rfl,hs.ch,ft.ok,by lia,by lia,?_⟩)))
rw[mM]
exact⟨_,rfl,sz2,k⟩)
theorem qCE{clos:List (Str×Addr)}{c:Addr}{pm ct:Value}:y6 K (q5X clos pm ct c) ["block"] []:=y6.all λus hl=>match us,hl with| [_],_=>rfl
theorem qGD{t:Adr}{H:Hp}(h:TbF t H):∃ps,H t.bM=some (.tbl ps)∧TriplesOk ps.toList∧((codeAmong lamP ps.toList=none∧∀c H',H' t.bM=some (.tbl (ps++tri c))→H' c=some (cdO c lamQ)→TbF t H')∨∃c,codeAmong lamP ps.toList=some (.ref c)∧H c=some (cdO c lamQ)):=by(
obtain⟨ps,hT,h⟩:=h
rcases h with rfl|⟨c,rfl,a⟩
·exact⟨_,hT,trivial,.inl ⟨rfl,λc H' e1 e2=>⟨_,e1,.inr ⟨c,rfl,e2⟩⟩⟩⟩
exact⟨_,hT,trivial,.inr ⟨c,rfl,a⟩⟩)
theorem q77(T:Txt K mg t)(S:Fns K t){cells:List (Str×Addr)}{σ:St}{H4:Hp}{D f c':Addr}{x:Sto}{r2 r3 r4 r5:V}{m:CM}{q:QM}{clos:List (Str×Addr)}{pm ct:Value}{Q:VK}(hσ:σ[0]?=some (some (.ref x.s)))(hcl:∀ca,cells.lookup ("self":Str)=some ca→clos=[(("self":Str),ca)])
 (hs:StAt t H4 x r2 r3 r4 r5 m q) (ft:Fit m q) (hD:H4 D=some (.lst ((yM q.B m.br q.fi).map vn))) (hf:H4 f=some (fnO f (q5X clos pm ct c'))) (hc:H4 c'=some (cdO c' lamQ)) (k:∀l p H',FreeIs q.B m.br m.cl q.fi l→H4 p=none→Same H4 H'→H' p=some (.lst (l.map vn))→Q (.ref p) H'):
 ∃(f':Addr) (fd:FuncData) (sp:Heap→Sp),V.ref f=.ref f'∧(∀base',(∀b o,base.get? b=some o→base'.get? b=some o)→q5D cells σ base' [(0,"self")]→FnOk P w K mg base' CX0 5 f' fd ["block"] (sp base'))∧y6 K fd ["block"] []∧∃(l:Addr) (us:List V) (Pv:Nat→List V→Hp→Prop),[V.ref D]=[.ref l]∧SqL K H4 l us∧us.length<64∧Pv 0 [] H4∧(∀base' i x zs H',q5D cells σ base' [(0,"self")]→us[i]?=some x→Pv i zs H'→sp base' [x] H' (λz H''=>Pv (i+1) (zs++[z]) H'') E0)∧∀zs H',zs.length=us.length→Pv us.length zs H'→∃kk m,Paired (TupI K H') zs kk∧(∀k∈kk,k.length=m)∧0<m∧∀q:List Nat,q.Perm (List.range us.length)→(q.map λi=>kk.getD i []).Pairwise (λa b=>lx b a=false)→NewO H' (.lst (q.map λi=>us.getD i .non)) Q:=by(
have b2:=ft.oq.b2
have ln:=qC9 (B:=q.B) (br:=m.br) (fi:=q.fi)
refine⟨f,q5X clos pm ct c',λ_=>spLm t x f c' (q5X clos pm ct c'),rfl,λbase' _ cv=>?_,qCE,D,_,λi zs H'=>Same H4 H'∧Paired (TupD H') zs (((yM q.B m.br q.fi).take i).map (keyN m.cl)),rfl,SqL.of hD,by rw[hX];lia,⟨Same.refl H4,.nil⟩,λbase' i y zs H' _ hy hp=>?_,λzs H' lz hp=>?_⟩
·obtain⟨ca,u,hk,ru,hcell⟩:=cv (0,"self") (kC.mpr rfl) (.ref x.s) hσ;obtain rfl:u=Value.ref x.s:=ru;rw[hcl ca hk];exact qIZ T S hcell
·obtain⟨sm,pr⟩:=hp;rw[mL]at hy;obtain⟨b,hb,rfl⟩:=m8.mp hy;have mb:=q73.mp (gQ hb);refine⟨r2,r3,r4,r5,m,q,b,rfl,hs.same sm,ft,mb.1.1,sm _ _ hf,sm _ _ hc,λtp H5 ntp s5 e5=>⟨sm.trans s5,?_⟩⟩;rw[qCA (f:=keyN m.cl) hb];exact L2.Paired.snoc (q0E pr s5) ⟨tp,rfl,e5⟩
obtain⟨sm,pr⟩:=hp
rw[hX,gO]at pr
refine⟨_,2,qBA pr,λk hk=>?_,by decide,λq' p1 p2 p H5 np s5 e5=>?_⟩
·obtain⟨b,_,rfl⟩:=kO.mp hk;rfl
rw[hX]at p1
have hin:∀i∈q',i<(yM q.B m.br q.fi).length:=λi hi=>mK.mp (p1.mem_iff.mp hi)
rw[q5K (e:=0) hin]at e5
exact k _ p H5 (qFV p1 p2) (Same.free sm np) (sm.trans s5) e5)
inductive spFr(t:Adr)(vs:List V)(H:Hp)(Q:VK)(E_:XK):Prop
|mk:∀x r2 r3 r4 r5 m q,vs=[.ref x.s]→StAt t H x r2 r3 r4 r5 m q→Fit m q→(∀l p H',FreeIs q.B m.br m.cl q.fi l→H p=none→Keep [t.bM] H H'→TbF t H'→H' p=some (.lst (l.map vn))→Q (.ref p) H')→spFr t vs H Q E_
theorem zR(T:Txt K mg t)(S:Fns K t)(B:BmIn base mg):FnOk P w K mg base (CX0) 8 t.f_Plain_free S.iX ["self"] (spFr t):=by(
refine S.aBW.ok0 q2H λA _ s H vs Q E hr h=>?_
obtain⟨x,r2,r3,r4,r5,m,q,rfl,hs,ft,k⟩:=h
have b2:=ft.oq.b2
have eB:=ft.eB
refine⟨_,(qB (q3A (i:=1) ["self","block"] [0] rfl (yE (qW (pv 0) T.bN T.oC (zQ T S).mono hr S.iR.b .nil qK)) (λ_ _ _ _ _=>(j9 (i:=1) (show List.Nodup (["self","block"]:List Str)from by decide) rfl (Or.inl rfl))) (λ_ _ _ _ _=>(vF (qT zU (jB (q8Y (K:=K) rfl) (uZ (K:=K) rfl (uZ (K:=K) rfl (pv 0) rfl) rfl) (pv 1) (λ_ _=>rfl)) qG (qS _)))) (λ_ _ _ _ _=>(pv 1)) (by kernel_rfl) (u7 (by decide)) q2H.nd rfl (Or.inl rfl)) (qD (qL (qA7 (k:=5) (x:="block") [(0,"self")] (by intro p hp;simp only[kI,rJ,or_false]at hp;rcases hp with rfl<;>exact⟨rfl,by kernel_rfl,rfl⟩) hr (by rfl) T.aBO (qFR rfl T.aBK B (qFQ (by kernel_rfl)) rfl) (qA (pv 1) qE))))),?_⟩
try dsimp-beta-proj-iota-zeta-eta only[wishK,cxK]
refine(iV rfl (iM hs.o rfl ⟨x,r2,r3,r4,r5,m,q,rfl,hs,ft,λp H1 n1 s1 h1=>?_⟩))
refine⟨p,rfl,⟨_,SqL.of h1⟩,λD H2 nD s2 hD=>?_⟩
refine zV (K:=K) (xs:=(u8 q.B m.br).map vn) (D:=D) (λi H3=>Same H1 H3∧H3 D=some (.lst ((((u8 q.B m.br).take i).filter λb=>decide (q.fi.getD b 0=0)).map vn))) ⟨s2,hD⟩ (λi H3 hp=>SqL.of (hp.1 _ _ h1)) (λi y H3 hy hp=>?_) (λH3 hp=>?_)
·obtain⟨sm,hd⟩:=hp;have h3:=(hs.same s1).same sm;rw[mL]at hy;obtain⟨b,hb,rfl⟩:=m8.mp hy;have hi:=(kE.mp hb).1;have mb:=zW.mp (gQ hb);refine(iV rfl (iF h3.o T.bN T.bQ rfl (iF h3.bk.o T.bS T.bV rfl ⟨_,rfl,iL (k:=_) (v:=_) (SqL.of h3.bk.f) (atV (by rw[ft.oq.lf];exact mb.1)) ⟨rfl,_,rfl,?_⟩⟩)));rw[q2J,←m7 hi,gT,gB];obtain rfl:(u8 q.B m.br)[i]=b:=(kE.mp hb).2;by_cases z:q.fi.getD (u8 q.B m.br)[i] 0=0
 ·rw[hG z];refine iteT ?_;refine⟨_,rfl,_,hd,?_,λb o e=>?_,?_⟩
  ·rw[hX];have l1:(((u8 q.B m.br).take i).filter λb=>decide (q.fi.getD b 0=0)).length≤q.B:=mD (mJ _ _) (mD (by rw[gH];lia) (q12 (B:=q.B) (br:=m.br)));have:(16:Nat)<sizeLine:=by decide
   lia
  ·rw[qC (qI e nD)];exact sm _ _ e
  rw[qH,m9,hG z];rfl
 rw[h9 z];refine iteF ⟨sm,?_⟩;rw[hd,m9,h9 z];simp
obtain⟨sm,hd⟩:=hp
rw[hX,gO]at hd
have hd:H3 D=some (.lst ((yM q.B m.br q.fi).map vn)):=hd
have h3:=(hs.same s1).same sm
refine⟨_,rfl,?_⟩
obtain⟨ps,hT,ht,hc⟩:=qGD h3.tb
have nT:D≠t.bM:=h3.tb.ne hd (λ_ z=>by cases z)
have keep:∀(f c':Addr) (ctv pm:Value) (clos:List (Str×Addr)) (H4:Hp),H4 f=some (fnO f (q5X clos pm ctv c'))→H4 c'=some (cdO c' lamQ)→TbF t H4→(∀b o,b≠t.bM→H3 b=some o→H4 b=some o)→Keep [t.bM] H3 H4:=λf c' ctv pm clos H4 _ _ tb4 kp=>⟨λb o nb e=>kp b o (λz=>nb (by rw[z];simp)) e,λb xs e=>kp b _ (h3.tb.ne e (λ_ z=>by cases z)) e⟩
refine⟨ps,hT,ht,?_⟩
rcases hc with⟨hn,tb⟩|⟨c0,hn,hc0⟩
·refine .inl ⟨hn,λf c' ctv H4 nf hf hc' hT4 kp=>?_⟩;have tb4:=tb c' H4 hT4 hc';have k4:=keep f c' ctv _ _ H4 hf hc' tb4 kp;refine q77 T S rfl (λca hk=>q94 (names:=qEM.names) hk rfl) (h3.kT k4 tb4) ft (kp _ _ nT hd) hf hc' (λl p' H5 hl np s5 e5=>k l p' H5 hl ?_ ?_ (tb4.same s5) e5)
 ·refine Same.free s1 (Same.free sm (k4.none (λz=>?_) np));obtain⟨ps',hT',_⟩:=tb4;rw[kC.mp z,hT']at np;cases np
 exact((Keep.same s1).trans (Keep.same sm)).trans (k4.trans (Keep.same s5))
refine .inr ⟨c0,hn,λf ctv H4 nf hf s4=>?_⟩
refine q77 T S rfl (λca hk=>q94 (names:=qEM.names) hk rfl) (h3.same s4) ft (s4 _ _ hd) hf (s4 _ _ hc0) (λl p' H5 hl np s5 e5=>k l p' H5 hl ?_ ?_ ((h3.tb.same s4).same s5) e5)
·exact Same.free s1 (Same.free sm (Same.free s4 np))
exact Keep.same (((s1.trans sm).trans s4).trans s5))
inductive spPt(t:Adr)(vs:List V)(H:Hp)(Q:VK)(E_:XK):Prop
|mk:∀x r2 r3 r4 r5 m q,vs=[.ref x.s]→StAt t H x r2 r3 r4 r5 m q→Fit m q→(∀H',Same H H'→Q (oV (jN q.B q.P m.br q.fi)) H')→spPt t vs H Q E_
theorem qCF{α:Type}{p:α→Bool}{L:List α}{i:Nat}{x:α}(h:L[i]?=some x)(n:(L.take i).find? p=none):(p x=true→L.find? p=some x)∧(p x=false→(L.take (i+1)).find? p=none):=by(
have hi:=(kE.mp h).1
obtain rfl:L[i]=x:=(kE.mp h).2
constructor
·intro hp;have e:L=L.take i++L[i]::L.drop (i+1):=by rw[List.getElem_cons_drop,wV]
 conv=>lhs;arg 2;rw[e]
 rw[aA,n,dQ,hp];rfl
intro hp
rw[←m7 hi,aA,n,dQ,hp]
rfl)
theorem zS(T:Txt K mg t)(S:Fns K t):S.iS.Ok0 P w mg base 6 (spPt t):=by(
refine S.iS.F.ok0 q2I λcdv A _ s H vs Q E hr h=>?_
obtain⟨x,r2,r3,r4,r5,m,q,rfl,hs,ft,k⟩:=h
refine⟨_,(qB (vJ d8 rfl (yE (qW (pv 0) T.bN T.oC (zQ T S).mono hr S.iR.b .nil qK)) (j9 (i:=1) q2I.nd rfl (Or.inl rfl)) (qD (jC (qCQ q4Z q4Z qG (jB jI (qJ (qJ (pv 0) rfl) rfl) (pv 1) (λ_ _=>rfl)) (qJ (qJ (pv 0) rfl) rfl)) (qD (qL (pv 1))) qP))) (qD (qL uT))),?_⟩
try dsimp-beta-proj-iota-zeta-eta only[wishK,cxK]
refine(iV rfl (iM hs.o rfl ⟨x,r2,r3,r4,r5,m,q,rfl,hs,ft,λp H1 n1 s1 h1=>?_⟩))
refine⟨p,rfl,⟨_,SqL.of h1⟩,?_⟩
refine v4 (K:=K) (xs:=(u8 q.B m.br).map vn) (λi σ' H2=>∃y,σ'=[some (.ref x.s),y]∧Same H1 H2∧((u8 q.B m.br).take i).find? (jS q.P q.fi)=none) ⟨_,rfl,Same.refl H1,rfl⟩ (λi σ' H2 hi hp=>?_) (λi y σ' H2 hy hp=>?_) (λσ' H2 hp=>?_)
·obtain⟨y,rfl,sm,_⟩:=hp;exact SqL.of (sm _ _ h1)
·obtain⟨y',rfl,sm,hn⟩:=hp;have h3:=(hs.same s1).same sm;rw[mL]at hy;obtain⟨b,hb,rfl⟩:=m8.mp hy;have mb:=zW.mp (gQ hb);obtain⟨y1,y2⟩:=qCF hb hn;refine(iV rfl (iF h3.o T.bN T.bQ rfl (iF h3.bk.o T.bS T.bV rfl ⟨_,rfl,iL (k:=_) (v:=_) (SqL.of h3.bk.f) (atV (by rw[ft.oq.lf];exact mb.1)) ?_⟩)));refine(iI ⟨_,rfl,?_⟩);by_cases z1:0<q.fi.getD b 0
 ·rw[hG z1];refine iteT ?_;refine(iV rfl (iF h3.o T.bN T.bR rfl (iF h3.te T.bU T.bT rfl (iI ⟨_,rfl,?_⟩))));by_cases z2:q.fi.getD b 0<m.pg
  ·rw[hG z2];have z:=k H2 (s1.trans sm);unfold jN at z;rw[y1 (by unfold jS;rw[hG z1,hG (by rw[←ft.eP];exact z2)];rfl)]at z;exact iteT ⟨_,rfl,z⟩
  rw[h9 z2];exact iteF ⟨_,rfl,sm,y2 (by unfold jS;rw[hG z1,h9 (by rw[←ft.eP];exact z2)];rfl)⟩
 rw[h9 z1];exact iteF ⟨_,rfl,iteF ⟨_,rfl,sm,y2 (by unfold jS;rw[h9 z1];rfl)⟩⟩
obtain⟨y',rfl,sm,hn⟩:=hp
rw[hX,gO]at hn
have z:=k H2 (s1.trans sm)
unfold jN at z
rw[hn]at z
exact z)
inductive spSp(t:Adr)(vs:List V)(H:Hp)(Q:VK)(E_:XK):Prop
|mk:∀x r2 r3 r4 r5 m q,vs=[.ref x.s]→StAt t H x r2 r3 r4 r5 m q→Fit m q→(∀l H',FreeIs q.B m.br m.cl q.fi l→Keep [t.bM] H H'→TbF t H'→Q (pgV q.P q.fi (q0S q.B q.P m.br q.fi l)) H')→spSp t vs H Q E_
theorem q6E(T:Txt K mg t)(S:Fns K t)(B:BmIn base mg):S.tP.Ok0 P w mg base 9 (spSp t):=by(
refine S.tP.F.ok0 zP λcdv A _ s H vs Q E hr h=>?_
obtain⟨x,r2,r3,r4,r5,m,q,rfl,hs,ft,k⟩:=h
refine⟨_,(qB (qV (i:=1) zP.nd rfl (Or.inl rfl) (qW (pv 0) T.bN T.oQ (zS T S).mono hr S.iS.b .nil qK)) (qB (jC (qT q4M (pv 1) uT (qS _)) (qD (qL (qO yL (qO yS (pv 1) (qJ (qJ (pv 0) rfl) rfl)) (jB jI (qJ (qJ (pv 0) rfl) rfl) (pv 1) (λ_ _=>rfl))))) qP) (qB (qV (i:=2) zP.nd rfl (Or.inl rfl) (qW (pv 0) T.bN T.oH (zR T S B).mono hr S.oB .nil qK)) (qB (jC (qT (q9Y hr.units) (pv 2) (y7 qE) (qS _)) (qD (qL uT)) qP) (qD (qL (qO yS (jB jI (pv 2) qG (λ_ _=>rfl)) (qJ (qJ (pv 0) rfl) rfl)))))))),?_⟩
try dsimp-beta-proj-iota-zeta-eta only[wishK,cxK]
refine(iV rfl (iM hs.o rfl ⟨x,r2,r3,r4,r5,m,q,rfl,hs,ft,λH1 s1=>?_⟩))
have h1:=hs.same s1
have b2:=ft.oq.b2
have p2:=ft.oq.p2
have eP:=ft.eP
cases hpn:jN q.B q.P m.br q.fi with
|some b=>
 have hb:=q0F hpn;refine⟨_,rfl,rfl,_,rfl,iteT ?_⟩;refine⟨_,rfl,iV rfl (iF h1.o T.bN T.bR rfl (iF h1.te T.bU T.bT rfl (iI ⟨.inl ⟨by lia,by lia⟩,?_⟩)))⟩;refine(iV rfl (iF h1.o T.bN T.bQ rfl (iF h1.bk.o T.bS T.bV rfl ⟨_,rfl,iL (k:=_) (v:=_) (SqL.of h1.bk.f) (atV (by rw[ft.oq.lf];exact hb.1)) (iI ?_)⟩)));obtain⟨l,hl⟩:=FreeIs.ex q.B m.br m.cl q.fi;have kk:=k l H1 hl (Keep.same s1) h1.tb;unfold q0S at kk;rw[hpn]at kk;have e:pgV q.P q.fi (some b)=V.int ((b:Int)*m.pg+q.fi.getD b 0):=by rw[eP];rfl
 have kk:Q (pgV q.P q.fi (some b)) H1:=kk;rw[e]at kk;exact kk
|none=>
 refine⟨_,rfl,rfl,_,rfl,iteF ?_⟩;refine(iV rfl (iM h1.o rfl ⟨x,r2,r3,r4,r5,m,q,rfl,h1,ft,λl p H2 hl np k2 tb2 h2=>?_⟩));have h2':=h1.kT k2 tb2;refine⟨_,rfl,sz0,λe H3 n3 s3 h3=>⟨p,_,e,rfl,rfl,SqL.of (s3 _ _ h2),SqL.of h3,_,rfl,?_⟩⟩;have h3':=h2'.same s3;have kk:=k l H3 hl (((Keep.same s1).trans k2).trans (Keep.same s3)) (tb2.same s3);unfold q0S at kk;rw[hpn]at kk;cases l with
 |nil=>refine iteT ?_;exact kk
 |cons b r=>
  refine iteF ?_;have hb:=hl.mem (kZ (a:=b) (l:=r));refine⟨_,rfl,iL (k:=0) (v:=.int (b:Int)) (SqL.of (s3 _ _ h2)) (uH (j:=0) rfl) (iV rfl (iF h3'.o T.bN T.bR rfl (iF h3'.te T.bU T.bT rfl (iI ⟨.inl ⟨by lia,by lia⟩,?_⟩))))⟩;have e:pgV q.P q.fi ((b::r).head?)=V.int ((b:Int)*m.pg):=by show V.int ((b:Int)*(q.P:Int)+q.fi.getD b 0)=_;rw[hb.2.2,eP,Int.add_zero]
  have kk:Q (pgV q.P q.fi ((b::r).head?)) H3:=kk;rw[e]at kk;exact kk)
noncomputable def qBL(t:Adr):Sp:=λvs H Q E=>∃x r2 r3 r4 r5 m q n v,vs=[.ref x.s,.int n,.int v]∧StAt t H x r2 r3 r4 r5 m q∧Fit m q∧Gd m∧m.rc.length<1000000∧∀l,FreeIs q.B m.br m.cl q.fi l→∃b f:Nat,q0S q.B q.P m.br q.fi l=some b∧q.fi.getD b 0=(f:Int)∧m.bo.getD (b*q.P+f) .non=.non∧(m.lf=some 0→∀H',Keep (t.bM::sf x) H H'→StAt t H' x r2 r3 r4 r5 m q→E (.ref t.C_PowerGone) none H')∧(m.lf≠some 0→∀tp H',H' tp=some (.tup [.int (q.nx*128+n),.int v])→Keep (t.bM::sf x) H H'→StAt t H' x r2 r3 r4 r5 (putC m (b*q.P+f) (.ref tp)) (q.put b f n)→Q (.int ((b*q.P+f:Nat):Int)) H')
theorem StAt.put{H H':Hp}{x:Sto}{r2 r3 r4 r5:V}{m m':CM}{q:QM}(h:StAt t H x r2 r3 r4 r5 m q)(hc:ChipAt t.C_Chip H' x.c x.a m')(k:Keep (foot x.c x.a) H H')(e1:m'.bl=m.bl)(e2:m'.pg=m.pg):StAt t H' x r2 r3 r4 r5 m' q:=by(
have nf:∀b∈bf x.k,b∉foot x.c x.a:=λb hb z=>h.d1 b (hV _ z) hb
have n2:∀b∈[x.s,x.tm],b∉foot x.c x.a:=λb hb z=>h.d2 b hb (by unfold sf;exact gP _ z)
obtain⟨ps,hT,hc'⟩:=h.tb
have nT:t.bM∉foot x.c x.a:=λz=>h.nT t.bM (by simp[sf,z]) (by simp)
refine⟨k.k _ _ (n2 _ (by simp)) h.o,by rw[e1,e2];exact k.k _ _ (n2 _ (by simp)) h.te,hc,h.bk.keep k nf,⟨ps,k.k _ _ nT hT,?_⟩,h.ds,h.d1,h.d2⟩
rcases hc' with z|⟨c,z,hcd⟩
·exact .inl z
refine .inr ⟨c,z,k.k _ _ (λy=>?_) hcd⟩
have y:c=x.c∨c=x.a.bo∨c=x.a.cl∨c=x.a.dc∨c=x.a.br∨c=x.a.rc:=by simpa[foot]using y
obtain⟨rs,er,_⟩:=h.ch.rc
rcases y with y|y|y|y|y|y<;>rw[y]at hcd
·rw[h.ch.ins]at hcd;cases hcd
·rw[h.ch.bo]at hcd;cases hcd
·rw[h.ch.cl]at hcd;cases hcd
·rw[h.ch.dc]at hcd;cases hcd
·rw[h.ch.br]at hcd;cases hcd
rw[er]at hcd;cases hcd)
theorem StAt.note{H H':Hp}{x:Sto}{r2 r3 r4 r5:V}{m:CM}{q q':QM}(h:StAt t H x r2 r3 r4 r5 m q)(hb:BkAt t H' x.k q')(k:Keep (bf x.k) H H'):StAt t H' x r2 r3 r4 r5 m q':=by(
have n2:∀b∈[x.s,x.tm],b∉bf x.k:=λb hb z=>h.d2 b hb (by unfold sf;exact mO _ z)
obtain⟨ps,hT,hc'⟩:=h.tb
have nT:t.bM∉bf x.k:=λz=>h.nT t.bM (by simp[sf,z]) (by simp)
refine⟨k.k _ _ (n2 _ (by simp)) h.o,k.k _ _ (n2 _ (by simp)) h.te,h.ch.keep k h.d1,hb,⟨ps,k.k _ _ nT hT,?_⟩,h.ds,h.d1,h.d2⟩
rcases hc' with z|⟨c,z,hcd⟩
·exact .inl z
refine .inr ⟨c,z,k.k _ _ (λy=>?_) hcd⟩
have y:c=x.k.bk∨c=x.k.wv∨c=x.k.lv∨c=x.k.fi∨c=x.k.bo:=by simpa[bf]using y
rcases y with y|y|y|y|y<;>rw[y]at hcd
·rw[h.bk.o]at hcd;cases hcd
·rw[h.bk.w]at hcd;cases hcd
·rw[h.bk.l]at hcd;cases hcd
·rw[h.bk.f]at hcd;cases hcd
rw[h.bk.b]at hcd;cases hcd)
theorem q3I(T:Txt K mg t)(S:Fns K t)(B:BmIn base mg):S.iP.OkE P w mg base 10 (qBL t):=by(
refine S.iP.F.okE zA (λvs H Q E h=>?_) (λcdv A outer s H vs Q E hr h=>?_)
·repeat obtain⟨_,h⟩:=h
 all_goals subst_vars;rfl
obtain⟨x,r2,r3,r4,r5,m,q,n,v,rfl,hs,ft,gd,hrc,k⟩:=h
refine⟨_,(qB (qV (i:=3) zA.nd rfl (Or.inl rfl) (qW (pv 0) T.bN T.aBY (q6E T S B).mono hr S.tP.b .nil qK)) (qB (jC (qT q9T (pv 3) uT (qS _)) (qD jD) qP) (qB (qU (jJ j8 (qJ (pv 0) rfl) T.bO T.aCP (q9G T S).mono hr S.aBC.b .nil (qA (pv 3) (qA (vW (qA (qY (qJ (pv 0) rfl) T.bS T.aB2 (q87 T S).mono hr S.aAL.b .nil qK (qA (pv 1) qE)) (qA (pv 2) qE))) qE q57)))) (qB (qU (qY (qJ (pv 0) rfl) T.bS T.aB5 (q88 T S).mono hr S.aAQ.b .nil qK (qA (pv 3) (qA (pv 1) qE)))) (qD (qL (pv 3))))))),?_⟩
try dsimp-beta-proj-iota-zeta-eta only[wishK,cxK]
refine(iV rfl (iM hs.o rfl ⟨x,r2,r3,r4,r5,m,q,rfl,hs,ft,λl H1 hl k1 tb1=>?_⟩))
have hs1:=hs.kT k1 tb1
obtain⟨b,f,hsp,ef,hn,dk,kk⟩:=k l hl
rw[hsp]
obtain⟨hB,hbr,f0,f1⟩:=q95 hl ft.oq.p1 hsp
have hf:f<q.P:=by lia
have epg:pgV q.P q.fi (some b)=V.int ((b*q.P+f:Nat):Int):=by show V.int ((b:Int)*(q.P:Int)+q.fi.getD b 0)=_;rw[ef,aP,dR]
rw[epg]
refine⟨_,rfl,rfl,_,rfl,iteF ?_⟩
refine(iV rfl (iF hs1.o T.bN T.b9 rfl (iM hs1.ch.ins rfl ⟨_,rfl,?_⟩)))
refine(iV rfl (iF hs1.o T.bN T.bQ rfl (iM hs1.bk.o rfl ⟨_,rfl,x.k,q,n,rfl,hs1.bk,_,rfl,sz2,λtp H2 n2 s2 e2=>?_⟩)))
have hs2:=hs1.same s2
have hpg:((b*q.P+f:Nat):Int)≤m.bl*m.pg-1:=by rw[ft.eB,ft.eP,←dR];have:b*q.P+f<q.B*q.P:=(lN (by lia)).mp (by rw[jZ hf];exact hB);lia
refine⟨x.c,x.a,m,_,.ref tp,rfl,hs2.ch,ft.ok,hrc,gd,hpg,hn,λz=>dk z H2 ((k1.mono (by simp)).trans (Keep.same s2)) hs2,λz H3 hc3 k3=>?_⟩
have hs3:=hs2.put hc3 k3 rfl rfl
refine(iV rfl (iF hs3.o T.bN T.bQ rfl (iM hs3.bk.o rfl ⟨_,rfl,_,rfl,x.k,q,b,f,n,rfl,hs3.bk,ft.oq,hs3.ds,hB,hf,ef,λH4 hb4 k4=>⟨_,rfl,?_⟩⟩)))
exact kk z tp H4 (k4.tp _ _ (k3.tp _ _ e2)) ((((k1.mono (by simp)).trans (Keep.same s2)).trans (k3.mono (λb hb=>by unfold sf;exact hV _ (gP _ hb)))).trans (k4.mono (λb hb=>by unfold sf;exact hV _ (mO _ hb)))) (hs3.note hb4 k4))
theorem q0Q(T:Txt K mg t)(S:Fns K t)(B:BmIn base mg):S.oI.OkE P w mg base 11 (qBL t):=by(
refine S.oI.F.okE q80 (λvs H Q E h=>?_) (λcdv A outer s H vs Q E hr h=>?_)
·repeat obtain⟨_,h⟩:=h
 all_goals subst_vars;rfl
obtain⟨x,r2,r3,r4,r5,m,q,n,v,rfl,hs,k⟩:=h
refine⟨_,(qD (qL (jJ j8 (pv 0) T.bN T.aAB (q3I T S B).mono hr S.iP.b .nil (qA (pv 1) (qA (pv 2) qE))))),?_⟩
try dsimp-beta-proj-iota-zeta-eta only[wishK,cxK]
exact(iV rfl (iM hs.o rfl ⟨_,rfl,_,rfl,x,r2,r3,r4,r5,m,q,n,v,rfl,hs,k⟩)))
theorem bor(a b:Nat):Builtin.bitOr (a:Int) (b:Int)=((a|||b:Nat):Int):=by(
have e:∀c:Nat,Builtin.bitNot (Builtin.bitNot (c:Int))=(c:Int):=λc=>by unfold Builtin.bitNot;lia
have n:∀c:Nat,decide (0≤Builtin.bitNot (c:Int))=false:=λc=>h9 (by unfold Builtin.bitNot;lia)
unfold Builtin.bitOr Builtin.bitAnd
rw[n a,n b]
show Builtin.bitNot (Builtin.bitNot (((Builtin.bitNot (Builtin.bitNot (a:Int))).toNat|||(Builtin.bitNot (Builtin.bitNot (b:Int))).toNat:Nat):Int))=_
rw[e,e a,e b,mM,mM])
noncomputable abbrev vN(ks:List Nat):List V:=ks.map λ(k:Nat)=>V.int (k:Int)
inductive spBo(K:W.Frag)(vs:List V)(H:Hp)(Q:VK)(E_:XK):Prop
|mk:∀l ss,vs=[.ref l]→SqL K H l (vN ss)→(∀s∈ss,s<64)→Q (.int ((orB ss 0:Nat):Int)) H→spBo K vs H Q E_
theorem q9H(s:Nat):∀(l:List Nat) (b:Nat),orB (l++[s]) b=orB l b|||2 ^ s
| [],b=>rfl
|x::r,b=>q9H s r _
theorem q5Y(T:Txt K mg t)(S:Fns K t):S.aA9.Ok0 P w mg base 1 (spBo K):=by(
refine S.aA9.F.ok0 q0O λcdv A _ s H vs Q E hr h=>?_
obtain⟨l,ss,rfl,hl,hs,q⟩:=h
refine⟨_,(qB (qV (i:=1) q0O.nd rfl (Or.inl rfl) qG) (qB (vJ d8 rfl (yE (pv 0)) (j9 (i:=2) q0O.nd rfl (Or.inl rfl)) (qD (qV (i:=1) q0O.nd rfl (Or.inl rfl) (qO qJG (pv 1) (qO qH7 qG (pv 2)))))) (qD (qL (pv 1))))),?_⟩
try dsimp-beta-proj-iota-zeta-eta only[wishK,cxK]
refine⟨_,rfl,l,rfl,⟨_,hl⟩,?_⟩
refine v4 (K:=K) (xs:=vN ss) (λi σ' H2=>∃y,σ'=[some (.ref l),some (.int ((orB (ss.take i) 0:Nat):Int)),y]∧H2=H) ⟨_,rfl,rfl⟩ (λi σ' H2 hi hp=>?_) (λi x σ' H2 hx hp=>?_) (λσ' H2 hp=>?_)
·obtain⟨y,rfl,rfl⟩:=hp;exact hl
·obtain⟨y,rfl,rfl⟩:=hp;rw[mL]at hx;obtain⟨n,hn,rfl⟩:=m8.mp hx;obtain⟨hi,rfl⟩:=kE.mp hn;have:=hs _ (gW hi);refine⟨_,rfl,_,rfl,iI ⟨⟨by lia,by lia,by decide⟩,iI ?_⟩⟩;have e:(1:Int)*2 ^ ((ss[i]:Nat):Int).toNat=((2 ^ ss[i]:Nat):Int):=by rw[Int.one_mul,mM];exact(Int.natCast_pow 2 _).symm
 try dsimp only
 rw[e,bor];refine⟨some (.int ((ss[i]:Nat):Int)),?_,rfl⟩;rw[←m7 hi,q9H];rfl
obtain⟨y,rfl,rfl⟩:=hp
rw[show(vN ss).length=ss.length by simp[vN],gO]
exact⟨_,rfl,q⟩)
noncomputable def hdN(W:Mp):List Int:=(W.map (·.1)).filter λn=>decide (n≠64)
inductive spHe(t:Adr)(vs:List V)(H:Hp)(Q:VK)(E_:XK):Prop
|mk:∀a,∀m:QM,vs=[.ref a.bk]→BkAt t H a m→m.Ok→(hdN m.V).length≤64→(∀l ns H',Same H H'→H l=none→H' l=some (.lst (List.map V.int ns))→ns.Perm (hdN m.V)→ns.Pairwise (·≤·)→Q (.ref l) H')→spHe t vs H Q E_
theorem q89(T:Txt K mg t)(S:Fns K t):S.aAF.Ok0 P w mg base 1 (spHe t):=by(
refine S.aAF.F.ok0 q7Z λcdv A _ s H vs Q E hr h=>?_
obtain⟨a,m,rfl,hb,ok,hl64,q⟩:=h
have hu:=q38 hr
have lV:m.V.length≤65:=ok.lenV
refine⟨_,(qD (qL (jF q7V (by rfl) T.aBO (by kernel_rfl) (qA (qB1 (q0C ["name"] [] rfl (qFJ (qJ (pv 0) rfl)) (λ_ _ _ _ _=>(j9 (i:=0) (show List.Nodup (["name"]:List Str)from by decide) rfl (Or.inl rfl))) (λ_ _ _ _ _=>(vF (qT q8J (pv 0) (q06 rfl T.aCI ⟨_,rfl⟩ (v:=.int 64)) (qS _)))) (λ_ _ _ _ _=>(pv 0)) (by kernel_rfl) (u7 (by decide)))) qE)))),?_⟩
try dsimp-beta-proj-iota-zeta-eta only[wishK,cxK]
refine⟨a.wv,_,hb.w,iV rfl (iF hb.o T.bS T.eI rfl ⟨a.wv,_,rfl,hb.w,λo D H2 nD s2 hD=>?_⟩)⟩
have kk:∀x u,x≠a.wv→H x=some u→H2 x=some u:=λx u nx e=>s2 _ _ (by rw[qC nx];exact e)
have fz:H2 a.wv=some (.frz o (.dK (dI m.V))):=s2 _ _ qH
have Dw:D≠a.wv:=λz=>by rw[z,fz]at hD;cases hD
have nDH:H D=none:=by rw[qC Dw]at nD;exact nD
refine qDX (D:=D) (λi H3=>H3 a.wv=some (.frz o (.dK (dI m.V)))∧(∀x u,x≠a.wv→H x=some u→H3 x=some u)∧H3 D=some (.lst ((hdN (m.V.take i)).map V.int))) ⟨fz,kk,hD⟩ (λi H3 hp=>hp.1) (λi kv H3 hk hp=>?_) (λH3 hp=>?_)
·obtain⟨fz3,k3,hd⟩:=hp;have hi:i<m.V.length:=by have:=(kE.mp hk).1;rw[q5W]at this;exact this
 obtain rfl:((Sum.inl m.V[i].1:Key),V.int m.V[i].2)=kv:=by
  have e:(dI m.V)[i]?=some ((Sum.inl m.V[i].1:Key),V.int m.V[i].2):=by unfold dI;rw[mL,kD hi];rfl
  rw[e]at hk;exact kW hk
 have tk:m.V.take (i+1)=m.V.take i++[m.V[i]]:=(m7 hi).symm;show q2C _ (V.int m.V[i].1) _ _ _;refine⟨_,rfl,rfl,_,rfl,?_⟩;rw[q2J];by_cases e:m.V[i].1=64
 ·rw[hG e];refine iteF ?_;refine⟨fz3,k3,?_⟩;have:hdN (m.V.take (i+1))=hdN (m.V.take i):=by unfold hdN;rw[tk,gB,gT];simp[e]
  rw[this];exact hd
 rw[h9 e];refine iteT ?_;refine⟨_,rfl,_,hd,?_,?_,λx u nx e'=>?_,?_⟩
 ·rw[hX];have l2:(hdN (m.V.take i)).length≤65:=by unfold hdN;refine mD (mJ _ _) ?_;rw[hX,gH];lia
  have:(65:Nat)<sizeLine:=by decide
  lia
 ·rw[qC Dw.symm];exact fz3
 ·rw[qC (qI e' nDH)];exact k3 _ _ nx e'
 have:hdN (m.V.take (i+1))=hdN (m.V.take i)++[m.V[i].1]:=by unfold hdN;rw[tk,gB,gT];simp[e]
 rw[qH,this,gB];rfl
obtain⟨fz3,k3,hd⟩:=hp
rw[q5W,gO]at hd
refine⟨o,_,fz3,?_⟩
have sH:Same H (upd H3 a.wv (.dK (dI m.V))):=qDY hb.w k3
have hd4:(upd H3 a.wv (.dK (dI m.V))) D=some (.lst ((hdN m.V).map V.int)):=by rw[qC Dw];exact hd
generalize upd H3 a.wv (.dK (dI m.V))=H4 at sH hd4 ⊢
refine⟨D,hdN m.V,rfl,SqL.of hd4,by lia,gI _ ok.nd,λns pp pw l H5 n5 s5 h5=>?_⟩
exact q l ns H5 (sH.trans s5) (sH.free n5) h5 pp pw)
structure HeldIs(q:QM)(ns:List Int):Prop where
pm:ns.Perm (hdN q.V)
so:ns.Pairwise (·≤·)
inductive spHd(t:Adr)(vs:List V)(H:Hp)(Q:VK)(E_:XK):Prop
|mk:∀x r2 r3 r4 r5 m q,vs=[.ref x.s]→StAt t H x r2 r3 r4 r5 m q→Fit m q→(hdN q.V).length≤64→(∀l ns H',HeldIs q ns→Same H H'→H l=none→H' l=some (.lst (List.map V.int ns))→Q (.ref l) H')→spHd t vs H Q E_
theorem u9(T:Txt K mg t)(S:Fns K t):S.fN.Ok0 P w mg base 2 (spHd t):=by(
refine S.fN.F.ok0 q6A λcdv A _ s H vs Q E hr h=>?_
obtain⟨x,r2,r3,r4,r5,m,q,rfl,hs,ft,h64,k⟩:=h
refine⟨_,(qD (qL (qW (qJ (pv 0) rfl) T.bS T.aB4 (q89 T S).mono hr S.aAF.b .nil qK))),?_⟩
try dsimp-beta-proj-iota-zeta-eta only[wishK,cxK]
exact(iV rfl (iF hs.o T.bN T.bQ rfl (iM hs.bk.o rfl ⟨x.k,q,rfl,hs.bk,ft.oq,h64,λl ns H' s' n' h' pm so=>k l ns H' ⟨pm,so⟩ s' n' h'⟩))))
inductive spCs(t:Adr)(vs:List V)(H:Hp)(Q:VK)(E:XK):Prop
|mk:∀x r3 r4 r5 m q v,∀sh:Int,vs=[.ref x.s,v]→StAt t H x (.int sh) r3 r4 r5 m q→Knd H v→(if inB v 0 (sh-1)=true then Q .non H else False)→spCs t vs H Q E
theorem yO(T:Txt K mg t)(S:Fns K t):S.eE.Ok0 P w mg base 3 (spCs t):=by(
refine S.eE.F.ok0 q1G λcdv A _ s H vs Q E hr h=>?_
obtain⟨x,r3,r4,r5,m,q,v,sh,rfl,hs,kn,k⟩:=h
refine⟨_,(qD (jC (yD (jT (qR (jK T S).mono hr rfl T.bW T.bX S.eG.b .nil qK (qA (pv 1) (qA qG (qA (qO yR (qJ (qJ (pv 0) rfl) rfl) qG) qE)))))) (qD jD) qP)),?_⟩
try dsimp-beta-proj-iota-zeta-eta only[wishK,cxK]
refine⟨_,rfl,iV rfl (iF hs.o T.bN T.bR rfl (iF hs.te T.bU T.i8 rfl (iI ⟨v,_,_,rfl,kn,_,rfl,?_⟩)))⟩
cases z:inB v 0 (sh-1)with
|true=>rw[z,hU rfl]at k;exact iteF k
|false=>rw[z,hC (by decide)]at k;exact k.elim)
theorem q9I(T:Txt K mg t)(S:Fns K t):S.aBQ.Ok0 P w mg base 3 (λvs H Q _=>∃v,vs=[v]∧Knd H v∧Q (.bl (inB v 0 (10 ^ 30-1))) H):=by(
refine S.aBQ.F.ok0 q9C λcdv A _ s H vs Q E hr h=>?_
obtain⟨v,rfl,kn,k⟩:=h
refine⟨_,(qD (qL (qR (jK T S).mono hr rfl T.bW T.bX S.eG.b .nil qK (qA (pv 0) (qA qG (qA (qO yR (qO q9S qG qG) qG) qE)))))),?_⟩
try dsimp-beta-proj-iota-zeta-eta only[wishK,cxK]
exact⟨_,rfl,iI ⟨⟨by decide,by decide,by decide⟩,iI ⟨v,_,_,rfl,kn,k⟩⟩⟩)
noncomputable def hold(q:QM)(s:Int):Bool:=decide (s∈hdN q.V)
theorem q3J{s:Int}:∀{ns:List Int},inV (.int s) (ns.map V.int)=decide (s∈ns)
| []=>rfl
|n::r=>by
 have ih:=q3J (s:=s) (ns:=r);unfold inV at ih ⊢;rw[mR,cJ,ih];by_cases e:n=s
 ·subst e;simp[eqV]
 have e':¬s=n:=λz=>e z.symm;simp[eqV,e,e']
theorem qBM{ns:List Int}:(ns.map V.int).all q35=true:=by(
rw[dW]
intro v hv
obtain⟨n,_,rfl⟩:=kO.mp hv
rfl)
theorem HeldIs.hold{q:QM}{ns:List Int}(h:HeldIs q ns)(s:Int):decide (s∈ns)=hold q s:=by(
unfold W1.hold
by_cases z:s∈ns
·rw[hG z,hG (h.pm.mem_iff.mp z)]
rw[h9 z,h9 (λy=>z (h.pm.mem_iff.mpr y))])
inductive spSh(t:Adr)(vs:List V)(H:Hp)(Q:VK)(E:XK):Prop
|mk:∀x r2 r4 r5 m q,∀s sr:Int,vs=[.ref x.s,.int s]→StAt t H x r2 (.int sr) r4 r5 m q→Fit m q→(hdN q.V).length≤64→(∀H',Same H H'→if hold q s=false∧sr≤((hdN q.V).length:Int)then E (.ref t.C_Full) none H' else Q .non H')→spSh t vs H Q E
theorem q1O(T:Txt K mg t)(S:Fns K t):S.fL.OkE P w mg base 3 (spSh t):=by(
refine S.fL.F.okE v7 (λvs H Q E h=>?_) (λcdv A outer s H vs Q E hr h=>?_)
·repeat obtain⟨_,h⟩:=h
 all_goals subst_vars;rfl
obtain⟨x,r2,r4,r5,m,q,s,sr,rfl,hs,ft,h64,k⟩:=h
refine⟨_,(qB (qV (i:=2) v7.nd rfl (Or.inl rfl) (qW (pv 0) T.bN T.fO (u9 T S).mono hr S.fN.b .nil qK)) (qD (jC (PW.pt (q9P (qT q0A (pv 1) (pv 2) rfl) (q79 (qT qAQ (jF jA (by rfl) T.tQ g5 (qA (pv 2) qE)) (qJ (qJ (pv 0) rfl) rfl) (qS _))))) (qD (q56 j8 rfl rfl T.aCT T.aDK (qA q3M qE))) qP))),?_⟩
try dsimp-beta-proj-iota-zeta-eta only[wishK,cxK]
refine(iV rfl (iM hs.o rfl ⟨x,r2,.int sr,r4,r5,m,q,rfl,hs,ft,h64,λl ns H1 hn s1 n1 h1=>?_⟩))
refine⟨_,rfl,_,rfl,?_⟩
refine⟨l,_,rfl,.inl (SqL.of h1),rfl,qBM,_,rfl,?_⟩
have kk:=k H1 s1
have e:inV (.int s) (ns.map V.int)=hold q s:=by rw[q3J];exact hn.hold s
show if(!inV (.int s) (ns.map V.int))=true then _ else _
rw[e]
cases z:hold q s with
|true=>rw[z,hC (λy=>by cases y.1)]at kk;exact iteF kk
|false=>
 refine iteT ?_;refine⟨_,rfl,l,_,rfl,.inl (SqL.of h1),iV rfl (iF (hs.same s1).o T.bN T.bR rfl (iF (hs.same s1).te T.bU T.oR rfl (iI ⟨_,rfl,?_⟩)))⟩;rw[hX,hn.pm.length_eq];by_cases y:sr≤((hdN q.V).length:Int)
 ·rw[hG y];rw[hU ⟨z,y⟩]at kk;exact iteT ⟨sz1,kk⟩
 rw[h9 y];rw[hC (λw=>y w.2)]at kk;exact iteF kk)
noncomputable def RT(t:Adr)(H H':Hp):Prop:=∀b o,b≠t.bM→H b=some o→H' b=some o
theorem RT.keep{H Hi Hj:Hp}{F:List Addr}(r:RT t H Hi)(k:Keep F Hi Hj)(f:∀b∈F,b=t.bM∨H b=none):RT t H Hj:=λb o nb e=>k.k b o (λz=>by
 rcases f b z with z|z
 ·exact nb z
 rw[z]at e;cases e) (r b o nb e)
theorem RT.same{H Hi Hj:Hp}(r:RT t H Hi)(s:Same Hi Hj):RT t H Hj:=λb o nb e=>s b o (r b o nb e)
theorem RT.of{H Hi:Hp}(s:Same H Hi):RT t H Hi:=λb o _ e=>s b o e
theorem RT.sq{H Hi:Hp}{ps:Array Value}{sa:Addr}{xs:List V}(r:RT t H Hi)(hT:H t.bM=some (.tbl ps))(h:SqL K H sa xs):SqL K Hi sa xs:=by(
rcases h with(h|⟨ob,h⟩)|h
·exact .inl (.inl (r _ _ (λz=>by rw[z,hT]at h;cases h) h))
·exact .inl (.inr ⟨ob,r _ _ (λz=>by rw[z,hT]at h;cases h) h⟩)
exact .inr h)
inductive spRs(t:Adr)(vs:List V)(H:Hp)(Q:VK)(E_:XK):Prop
|mk:∀x r2 r3 r5 m q,∀ie:Int,vs=[.ref x.s]→StAt t H x r2 r3 (.int ie) r5 m q→Q (.int (1+ie)) H→spRs t vs H Q E_
theorem q01(T:Txt K mg t)(S:Fns K t):S.fU.Ok0 P w mg base 1 (spRs t):=by(
refine S.fU.F.ok0 q3Z λcdv A _ s H vs Q E hr h=>?_
obtain⟨x,r2,r3,r5,m,q,ie,rfl,hs,k⟩:=h
refine⟨_,(qD (qL (qO yL qG (qJ (qJ (pv 0) rfl) rfl)))),?_⟩
try dsimp-beta-proj-iota-zeta-eta only[wishK,cxK]
exact(iV rfl (iF hs.o T.bN T.bR rfl (iF hs.te T.bU T.oF rfl (iI k)))))
inductive spRd(t:Adr)(vs:List V)(H:Hp)(Q:VK)(E_:XK):Prop
|mk:∀x r2 r3 r5 m q,∀ie:Int,vs=[.ref x.s]→StAt t H x r2 r3 (.int ie) r5 m q→Fit m q→(∀l H',FreeIs q.B m.br m.cl q.fi l→Keep [t.bM] H H'→TbF t H'→Q (.bl (rdy ie l (jN q.B q.P m.br q.fi))) H')→spRd t vs H Q E_
theorem q5Z(T:Txt K mg t)(S:Fns K t)(B:BmIn base mg):S.tH.Ok0 P w mg base 9 (spRd t):=by(
refine S.tH.F.ok0 q1F λcdv A _ s H vs Q E hr h=>?_
obtain⟨x,r2,r3,r5,m,q,ie,rfl,hs,ft,k⟩:=h
refine⟨_,(qB (qV (i:=1) q1F.nd rfl (Or.inl rfl) (qO yR (jF jA (by rfl) T.tQ g5 (qA (qW (pv 0) T.bN T.oH (zR T S B).mono hr S.oB .nil qK) qE)) (qW (pv 0) T.bN T.i7 (q01 T S).mono hr S.fU.b .nil qK))) (qD (qL (qCI (yP qCN (pv 1) qG (qS _)) (q07 (q3O (yP zU (pv 1) qG (qS _)) (q07 (yP q4M (qW (pv 0) T.bN T.oQ (zS T S).mono hr S.iS.b .nil qK) uT (qS _))))))))),?_⟩
try dsimp-beta-proj-iota-zeta-eta only[wishK,cxK]
refine(iV rfl (iM hs.o rfl ⟨x,r2,r3,_,r5,m,q,rfl,hs,ft,λl p H1 hl np k1 tb1 h1=>?_⟩))
have hs1:=hs.kT k1 tb1
refine⟨p,_,rfl,.inl (SqL.of h1),iV rfl (iM hs1.o rfl ⟨x,r2,r3,r5,m,q,ie,rfl,hs1,_,_,rfl,rfl,?_⟩)⟩
refine⟨_,rfl,_,_,rfl,rfl,_,rfl,?_⟩
have kk:=λH' s'=>k l H' hl (k1.trans (Keep.same s')) (tb1.same s')
unfold rdy at kk
rw[hX]
by_cases z:(l.length:Int)-(1+ie)>0
·rw[hG z];refine iteT ?_;have:=kk H1 (Same.refl H1);rw[hG z]at this;exact this
rw[h9 z]
refine iteF ?_
rw[h9 z]at kk
refine⟨_,rfl,rfl,_,rfl,?_⟩
rw[q2J]
by_cases e0:(l.length:Int)-(1+ie)=0
·rw[hG e0];rw[hG e0]at kk;refine iteT ?_;refine(iV rfl (iM hs1.o rfl ⟨x,r2,r3,_,r5,m,q,rfl,hs1,ft,λH2 s2=>⟨rfl,?_⟩⟩));have:=kk H2 s2;cases hp:jN q.B q.P m.br q.fi with
 |none=>rw[hp]at this;exact this
 |some b=>rw[hp]at this;exact this
rw[h9 e0]
rw[h9 e0]at kk
refine iteF ?_
exact kk H1 (Same.refl H1))
inductive spTy(t:Adr)(vs:List V)(H:Hp)(Q:VK)(E_:XK):Prop
|mk:∀x r2 r3 r4 r5 m q,∀b:Nat,vs=[.ref x.s,.int (b:Int)]→StAt t H x r2 r3 r4 r5 m q→Fit m q→b<q.B→NewO H (.tup (tyL m q b)) Q→spTy t vs H Q E_
theorem q60(T:Txt K mg t)(S:Fns K t):S.tE.Ok0 P w mg base 5 (spTy t):=by(
refine S.tE.F.ok0 q5Q λcdv A _ s H vs Q E hr h=>?_
obtain⟨x,r2,r3,r4,r5,m,q,b,rfl,hs,ft,hb,k⟩:=h
have eB:=ft.eB
refine⟨_,(qD (qL (vW (qA (pv 1) (qA (jB jI (qJ (qJ (pv 0) rfl) rfl) (pv 1) (λ_ _=>rfl)) (qA (qY (qJ (pv 0) rfl) T.bO T.oX (q0V T S).mono hr S.iE.b .nil qK (qA (pv 1) qE)) (qA (jB jI (qJ (qJ (pv 0) rfl) rfl) (pv 1) (λ_ _=>rfl)) qE))))))),?_⟩
try dsimp-beta-proj-iota-zeta-eta only[wishK,cxK]
refine⟨_,rfl,iV rfl (iF hs.o T.bN T.bQ rfl (iF hs.bk.o T.bS T.iH rfl ⟨_,rfl,iL (k:=_) (v:=_) (SqL.of hs.bk.l) (atV (by rw[ft.oq.ll];exact hb)) ?_⟩))⟩
refine(iV rfl (iF hs.o T.bN T.b9 rfl (iM hs.ch.ins rfl ⟨_,rfl,x.c,x.a,m,_,rfl,hs.ch,ft.ok,by lia,by lia,?_⟩)))
rw[mM]
refine(iV rfl (iF hs.o T.bN T.bQ rfl (iF hs.bk.o T.bS T.iC rfl ⟨_,rfl,iL (k:=_) (v:=_) (SqL.of hs.bk.b) (atV (by rw[ft.oq.lo];exact hb)) ?_⟩)))
exact⟨sz4,k⟩)
inductive spSc(t:Adr)(vs:List V)(H:Hp)(Q:VK)(E_:XK):Prop
|mk:∀x r2 r3 r5 m q,∀ie:Int,vs=[.ref x.s]→StAt t H x r2 r3 (.int ie) r5 m q→Fit m q→(∀l H',FreeIs q.B m.br m.cl q.fi l→Keep [t.bM] H H'→TbF t H'→Q (.int (spcN ie l q.P q.fi (jN q.B q.P m.br q.fi))) H')→spSc t vs H Q E_
theorem q61(T:Txt K mg t)(S:Fns K t)(B:BmIn base mg):S.o6.Ok0 P w mg base 9 (spSc t):=by(
refine S.o6.F.ok0 q1H λcdv A _ s H vs Q E hr h=>?_
obtain⟨x,r2,r3,r5,m,q,ie,rfl,hs,ft,k⟩:=h
have eP:=ft.eP
refine⟨_,(qB (jC (qT qAQ (jF jA (by rfl) T.tQ g5 (qA (qW (pv 0) T.bN T.oH (zR T S B).mono hr S.oB .nil qK) qE)) (qW (pv 0) T.bN T.i7 (q01 T S).mono hr S.fU.b .nil qK) (qS _)) (qD (qL (qJ (qJ (pv 0) rfl) rfl))) qP) (qB (qV (i:=1) q1H.nd rfl (Or.inl rfl) (qW (pv 0) T.bN T.oQ (zS T S).mono hr S.iS.b .nil qK)) (qB (jC (qT q9T (pv 1) uT (qS _)) (qD (qL qG)) qP) (qD (qL (qO yR (qJ (qJ (pv 0) rfl) rfl) (jB jI (qJ (qJ (pv 0) rfl) rfl) (pv 1) (λ_ _=>rfl)))))))),?_⟩
try dsimp-beta-proj-iota-zeta-eta only[wishK,cxK]
refine(iV rfl (iM hs.o rfl ⟨x,r2,r3,_,r5,m,q,rfl,hs,ft,λl p H1 hl np k1 tb1 h1=>?_⟩))
have hs1:=hs.kT k1 tb1
refine⟨p,_,rfl,.inl (SqL.of h1),iV rfl (iM hs1.o rfl ⟨x,r2,r3,r5,m,q,ie,rfl,hs1,_,_,rfl,rfl,_,rfl,?_⟩)⟩
have kk:=λH' s'=>k l H' hl (k1.trans (Keep.same s')) (tb1.same s')
unfold spcN at kk
rw[hX]
by_cases z:1+ie≤(l.length:Int)
·rw[hG (show(l.length:Int)≥1+ie from z)];refine iteT ?_;refine(iV rfl (iF hs1.o T.bN T.bR rfl (iF hs1.te T.bU T.bT rfl ?_)));have:=kk H1 (Same.refl H1);rw[hU z,←eP]at this;exact this
rw[h9 (show ¬(l.length:Int)≥1+ie from z)]
refine iteF ?_
refine(iV rfl (iM hs1.o rfl ⟨x,r2,r3,_,r5,m,q,rfl,hs1,ft,λH2 s2=>?_⟩))
have kk:=kk H2 s2
rw[hC z]at kk
cases hp:jN q.B q.P m.br q.fi with
|none=>rw[hp]at kk;exact⟨_,rfl,rfl,_,rfl,iteT kk⟩
|some b=>rw[hp]at kk;have hs2:=hs1.same s2;refine⟨_,rfl,rfl,_,rfl,iteF ?_⟩;refine(iV rfl (iF hs2.o T.bN T.bR rfl (iF hs2.te T.bU T.bT rfl (iV rfl (iF hs2.o T.bN T.bQ rfl (iF hs2.bk.o T.bS T.bV rfl ⟨_,rfl,iL (k:=_) (v:=_) (SqL.of hs2.bk.f) (atV (by rw[ft.oq.lf];exact(q0F hp).1)) (iI ?_)⟩))))));rw[eP];exact kk)
noncomputable abbrev Tys(H:Hp)(m:CM)(q:QM):List V→List Nat→Prop:=Paired λv b=>∃p,v=.ref p∧H p=some (.tup (tyL m q b))
theorem q9J{F:List Addr}{H H':Hp}{m:CM}{q:QM}(k:Keep F H H'){rs:List V}{L:List Nat}(r:Tys H m q rs L):Tys H' m q rs L:=Paired.mapP r λv d ⟨p,e,h⟩=>⟨p,e,k.tp _ _ h⟩
inductive spFo(t:Adr)(vs:List V)(H:Hp)(Q:VK)(E_:XK):Prop
|mk:∀x r2 r3 r5 m q,∀ie:Int,vs=[.ref x.s]→StAt t H x r2 r3 (.int ie) r5 m q→Fit m q→(∀l p rs H',FreeIs q.B m.br m.cl q.fi l→H p=none→Keep [t.bM] H H'→TbF t H'→H' p=some (.lst rs)→Tys H' m q rs ((jR q.B q.P m.br q.fi).filter λb=>decide (q.lv.getD b 0≤spcN ie l q.P q.fi (jN q.B q.P m.br q.fi)))→Q (.ref p) H')→spFo t vs H Q E_
theorem q2Z(T:Txt K mg t)(S:Fns K t)(B:BmIn base mg):S.f6.Ok0 P w mg base 10 (spFo t):=by(
refine S.f6.F.ok0 yI λcdv A _ s H vs Q E hr h=>?_
obtain⟨x,r2,r3,r5,m,q,ie,rfl,hs,ft,k⟩:=h
have b2:=ft.oq.b2
have eP:=ft.eP
have sz:(16:Nat)<sizeLine:=by decide
have fl:(jR q.B q.P m.br q.fi).length≤16:=mD (mJ _ _) (mD (q12 (B:=q.B) (br:=m.br)) b2)
refine⟨_,(qB (qV (i:=1) yI.nd rfl (Or.inr rfl) (qW (pv 0) T.bN T.aA7 (q61 T S B).mono hr S.o6.b .nil qK)) (qB (q3A (i:=2) ["self","block"] [0] rfl (yE (qW (pv 0) T.bN T.oC (zQ T S).mono hr S.iR.b .nil qK)) (λ_ _ _ _ _=>(j9 (i:=1) (show List.Nodup (["self","block"]:List Str)from by decide) rfl (Or.inl rfl))) (λ_ _ _ _ _=>(vF (qT zU (jB (q8Y (K:=K) rfl) (uZ (K:=K) rfl (uZ (K:=K) rfl (pv 0) rfl) rfl) (pv 1) (λ_ _=>rfl)) (uZ (K:=K) rfl (uZ (K:=K) rfl (pv 0) rfl) rfl) (qS _)))) (λ_ _ _ _ _=>(pv 1)) (by kernel_rfl) (u7 (by decide)) yI.nd rfl (Or.inl rfl)) (qB (q3A (i:=3) ["self","block"] [0] rfl (yE (pv 2)) (λ_ _ _ _ _=>(j9 (i:=1) (show List.Nodup (["self","block"]:List Str)from by decide) rfl (Or.inl rfl))) (λ_ _ _ _ _=>qAW) (λ_ _ _ _ _=>(qY (pv 0) T.bN T.aBH (q60 T S).mono hr S.tE.b .nil qK (qA (pv 1) qE))) (by kernel_rfl) (u7 (by decide)) yI.nd rfl (Or.inl rfl)) (qD (qL (q0C ["space","tally"] [1] rfl (yE (pv 3)) (λ_ _ _ _ _=>(j9 (i:=1) (show List.Nodup (["space","tally"]:List Str)from by decide) rfl (Or.inl rfl))) (λ_ _ _ _ _=>(vF (qT q8K (jB (qB0 (K:=K) rfl) (pv 1) qG (λ_ _=>rfl)) (pv 0) (qS _)))) (λ_ _ _ _ _=>(pv 1)) (by kernel_rfl) (u7 (by decide)))))))),?_⟩
try dsimp-beta-proj-iota-zeta-eta only[wishK,cxK]
refine(iV rfl (iM hs.o rfl ⟨x,r2,r3,r5,m,q,ie,rfl,hs,ft,λl H1 hl k1 tb1=>?_⟩))
have hs1:=hs.kT k1 tb1
have kk:=λp rs H' np k'=>k l p rs H' hl np (k1.trans k')
generalize spcN ie l q.P q.fi (jN q.B q.P m.br q.fi)=sp at kk
refine(iV rfl (iM hs1.o rfl ⟨x,r2,r3,_,r5,m,q,rfl,hs1,ft,λp H2 n2 s2 h2=>?_⟩))
refine⟨p,rfl,⟨_,SqL.of h2⟩,λD H3 nD s3 hD=>?_⟩
refine zV (K:=K) (xs:=(u8 q.B m.br).map vn) (D:=D) (λi H3=>Same H2 H3∧H3 D=some (.lst ((((u8 q.B m.br).take i).filter λb=>decide (q.fi.getD b 0=(q.P:Int))).map vn))) ⟨s3,hD⟩ (λi H3 hp=>SqL.of (hp.1 _ _ h2)) (λi y H3 hy hp=>?_) (λH3 hp=>?_)
·obtain⟨sm,hd⟩:=hp;have h3:=(hs1.same s2).same sm;rw[mL]at hy;obtain⟨b,hb,rfl⟩:=m8.mp hy;have hi:=(kE.mp hb).1;have mb:=zW.mp (gQ hb);refine(iV rfl (iF h3.o T.bN T.bQ rfl (iF h3.bk.o T.bS T.bV rfl ⟨_,rfl,iL (k:=_) (v:=_) (SqL.of h3.bk.f) (atV (by rw[ft.oq.lf];exact mb.1)) (iV rfl (iF h3.o T.bN T.bR rfl (iF h3.te T.bU T.bT rfl ⟨rfl,_,rfl,?_⟩)))⟩)));rw[q2J,eP,←m7 hi,gT,gB];obtain rfl:(u8 q.B m.br)[i]=b:=(kE.mp hb).2;by_cases z:q.fi.getD (u8 q.B m.br)[i] 0=(q.P:Int)
 ·rw[hG z];refine iteT ?_;refine⟨_,rfl,_,hd,?_,λb o e=>?_,?_⟩
  ·rw[hX];have l1:(((u8 q.B m.br).take i).filter λb=>decide (q.fi.getD b 0=(q.P:Int))).length≤q.B:=mD (mJ _ _) (mD (by rw[gH];lia) (q12 (B:=q.B) (br:=m.br)));lia
  ·rw[qC (qI e nD)];exact sm _ _ e
  rw[qH,m9,hG z];rfl
 rw[h9 z];refine iteF ⟨sm,?_⟩;rw[hd,m9,h9 z];simp
obtain⟨sm,hd⟩:=hp
rw[hX,gO]at hd
have hd:H3 D=some (.lst ((jR q.B q.P m.br q.fi).map vn)):=hd
have s13:=s2.trans sm
have h3:=hs1.same s13
refine⟨_,rfl,D,rfl,⟨_,SqL.of hd⟩,λD2 H4 nD2 s4 hD2=>?_⟩
refine qDL (K:=K) (xs:=(jR q.B q.P m.br q.fi).map vn) (D:=D2) (λi H5=>∃rs,Same H3 H5∧H5 D2=some (.lst rs)∧Tys H5 m q rs ((jR q.B q.P m.br q.fi).take i)) ⟨_,s4,hD2,.nil⟩ (λi H5 hp=>by obtain⟨rs,sm5,_⟩:=hp;exact SqL.of (sm5 _ _ hd)) (λi y H5 hy hp=>?_) (λH5 hp=>?_)
·obtain⟨rs,sm5,hd5,ty⟩:=hp;have h5:=h3.same sm5;rw[mL]at hy;obtain⟨b,hb,rfl⟩:=m8.mp hy;have hi:=(kE.mp hb).1;have mb:=zW.mp (mG.mp (gQ hb)).1;obtain rfl:(jR q.B q.P m.br q.fi)[i]=b:=(kE.mp hb).2;have ln:=ty.len;rw[gH]at ln;refine(iV rfl (iM h5.o rfl ⟨_,rfl,x,r2,r3,_,r5,m,q,_,rfl,h5,ft,mb.1,λtp H6 n6 s6 h6=>⟨_,s6 _ _ hd5,by lia,?_⟩⟩));have ne:∀b o,H6 b=some (.tup o)→b≠D2:=λb o e z=>by rw[z,s6 _ _ hd5]at e;cases e
 refine⟨_,λb o e=>?_,qH,?_⟩
 ·rw[qC (qI e nD2)];exact s6 _ _ (sm5 _ _ e)
 rw[←m7 hi];refine L2.Paired.snoc (Paired.mapP ty λv d ⟨p,e,h⟩=>⟨p,e,?_⟩) ⟨tp,rfl,?_⟩
 ·rw[qC (ne _ _ (s6 _ _ h))];exact s6 _ _ h
 rw[qC (ne _ _ h6)];exact h6
obtain⟨rs,sm5,hd5,ty⟩:=hp
rw[hX,gO]at ty
have s15:=s13.trans sm5
have h5:=hs1.same s15
refine⟨_,rfl,D2,rfl,⟨_,SqL.of hd5⟩,λD3 H6 nD3 s6 hD3=>?_⟩
refine zV (K:=K) (xs:=rs) (D:=D3) (λi H7=>∃rs',Same H5 H7∧H7 D3=some (.lst rs')∧rs'.length≤i∧Tys H5 m q rs' (((jR q.B q.P m.br q.fi).take i).filter λb=>decide (q.lv.getD b 0≤sp))) ⟨_,s6,hD3,kJ _,.nil⟩ (λi H7 hp=>by obtain⟨_,sm7,_⟩:=hp;exact SqL.of (sm7 _ _ hd5)) (λi y H7 hy hp=>?_) (λH7 hp=>?_)
·obtain⟨rs',sm7,hd7,ln,ty'⟩:=hp;obtain⟨b,hb,tp,rfl,htp⟩:=Paired.at ty hy;have hi:=(kE.mp hb).1;obtain rfl:(jR q.B q.P m.br q.fi)[i]=b:=(kE.mp hb).2;refine⟨_,rfl,iT (k:=_) (v:=_) (SqT.of (sm7 _ _ htp)) rfl ⟨_,rfl,iI ⟨_,rfl,?_⟩⟩⟩;have ln':=ty.len;have hir:=(kE.mp hy).1;have e1:((jR q.B q.P m.br q.fi).take (i+1)).filter (λb=>decide (q.lv.getD b 0≤sp))=((jR q.B q.P m.br q.fi).take i).filter (λb=>decide (q.lv.getD b 0≤sp))++(if q.lv.getD (jR q.B q.P m.br q.fi)[i] 0≤sp then[(jR q.B q.P m.br q.fi)[i]]else[]):=by
  rw[←m7 hi,gT,m9];by_cases z:q.lv.getD (jR q.B q.P m.br q.fi)[i] 0≤sp
  ·rw[hG z,hU z];rfl
  rw[h9 z,hC z];rfl
 rw[e1];by_cases z:q.lv.getD (jR q.B q.P m.br q.fi)[i] 0≤sp
 ·rw[hG z,hU z];refine iteT ?_;refine⟨_,rfl,_,hd7,by lia,_,λb o e=>?_,qH,?_,L2.Paired.snoc ty' ⟨tp,rfl,htp⟩⟩
  ·rw[qC (qI e nD3)];exact sm7 _ _ e
  rw[mE];exact l7 ln 1
 rw[h9 z,hC z,dG];exact iteF ⟨_,sm7,hd7,by lia,ty'⟩
obtain⟨rs',sm7,hd7,ln,ty'⟩:=hp
rw[ty.len,gO]at ty'
have s17:=s15.trans sm7
refine kk D3 rs' H7 ?_ (Keep.same s17) (tb1.same s17) hd7 (q9J (Keep.same (F:=[]) sm7) ty')
refine k1.none (λz=>?_) (Same.free s15 nD3)
obtain⟨ps',hT',_⟩:=tb1.same s15
rw[kC.mp z,hT']at nD3
cases nD3)
theorem qEN{L:List Nat}{p:Nat→Bool}{i:Nat}(hi:i<L.length):(L.take (i+1)).filter p=(L.take i).filter p++(if p L[i]=true then[L[i]]else[]):=by rw[←m7 hi,gT,m9];rfl
inductive spOp(t:Adr)(vs:List V)(H:Hp)(Q:VK)(E_:XK):Prop
|mk:∀x r2 r3 r5 m q,∀ie:Int,vs=[.ref x.s]→StAt t H x r2 r3 (.int ie) r5 m q→Fit m q→(∀l p rs H',FreeIs q.B m.br m.cl q.fi l→H p=none→Keep [t.bM] H H'→TbF t H'→H' p=some (.lst rs)→Tys H' m q rs (optN ie m q l)→Q (.ref p) H')→spOp t vs H Q E_
theorem q02(T:Txt K mg t)(S:Fns K t)(B:BmIn base mg):S.eS.Ok0 P w mg base 11 (spOp t):=by(
refine S.eS.F.ok0 zY λcdv A _ s H vs Q E hr h=>?_
obtain⟨x,r2,r3,r5,m,q,ie,rfl,hs,ft,k⟩:=h
have b2:=ft.oq.b2
have eP:=ft.eP
have sz:(16:Nat)<sizeLine:=by decide
have fl:(jR q.B q.P m.br q.fi).length≤16:=mD (mJ _ _) (mD (q12 (B:=q.B) (br:=m.br)) b2)
refine⟨_,(qD (qL (q0C ["self","tally"] [0] rfl (yE (qW (pv 0) T.bN T.tV (q2Z T S B).mono hr S.f6.b .nil qK)) (λ_ _ _ _ _=>(j9 (i:=1) (show List.Nodup (["self","tally"]:List Str)from by decide) rfl (Or.inl rfl))) (λ_ _ _ _ _=>(vF (qT q4Z (jB (qB0 (K:=K) rfl) (pv 1) qG (λ_ _=>rfl)) (uZ (K:=K) rfl (uZ (K:=K) rfl (pv 0) rfl) rfl) (qS _)))) (λ_ _ _ _ _=>(pv 1)) (by kernel_rfl) (u7 (by decide))))),?_⟩
try dsimp-beta-proj-iota-zeta-eta only[wishK,cxK]
refine(iV rfl (iM hs.o rfl ⟨x,r2,r3,r5,m,q,ie,rfl,hs,ft,λl p0 rs H5 hl np k1 tb1 hd5 ty=>?_⟩))
have h5:=hs.kT k1 tb1
have kk:=λp rs H' np=>k l p rs H' hl np
unfold optN at kk
have fl':=mD (mJ (λb=>decide (q.lv.getD b 0≤spcN ie l q.P q.fi (jN q.B q.P m.br q.fi))) _) fl
generalize (jR q.B q.P m.br q.fi).filter (λb=>decide (q.lv.getD b 0≤spcN ie l q.P q.fi (jN q.B q.P m.br q.fi)))=L at kk ty fl'
refine⟨p0,rfl,⟨_,SqL.of hd5⟩,λD3 H6 nD3 s6 hD3=>?_⟩
refine zV (K:=K) (xs:=rs) (D:=D3) (λi H7=>∃rs',Same H5 H7∧H7 D3=some (.lst rs')∧rs'.length≤i∧Tys H5 m q rs' ((L.take i).filter λb=>decide (q.lv.getD b 0<(q.P:Int)))) ⟨_,s6,hD3,kJ _,.nil⟩ (λi H7 hp=>by obtain⟨_,sm7,_⟩:=hp;exact SqL.of (sm7 _ _ hd5)) (λi y H7 hy hp=>?_) (λH7 hp=>?_)
·obtain⟨rs',sm7,hd7,ln,ty'⟩:=hp;obtain⟨b,hb,tp,rfl,htp⟩:=Paired.at ty hy;have hi:=(kE.mp hb).1;obtain rfl:L[i]=b:=(kE.mp hb).2;have h7:=h5.same sm7;refine⟨_,rfl,iT (k:=_) (v:=_) (SqT.of (sm7 _ _ htp)) rfl (iV rfl (iF h7.o T.bN T.bR rfl (iF h7.te T.bU T.bT rfl (iI ⟨_,rfl,?_⟩))))⟩;rw[eP,qEN hi];by_cases z:q.lv.getD L[i] 0<(q.P:Int)
 ·rw[hG z,hU rfl];refine iteT ?_;refine⟨_,rfl,_,hd7,by lia,_,λb o e=>?_,qH,?_,L2.Paired.snoc ty' ⟨tp,rfl,htp⟩⟩
  ·rw[qC (qI e nD3)];exact sm7 _ _ e
  rw[mE];exact l7 ln 1
 rw[h9 z,hC (by decide),dG];exact iteF ⟨_,sm7,hd7,by lia,ty'⟩
obtain⟨rs',sm7,hd7,ln,ty'⟩:=hp
rw[ty.len,gO]at ty'
refine kk D3 rs' H7 ?_ (k1.trans (Keep.same sm7)) (tb1.same sm7) hd7 (q9J (Keep.same (F:=[]) sm7) ty')
refine k1.none (λz=>?_) nD3
obtain⟨ps',hT',_⟩:=tb1
rw[kC.mp z,hT']at nD3
cases nD3)
theorem q03(T:Txt K mg t)(S:Fns K t)(B:BmIn base mg):S.fS.Ok0 P w mg base 12 (spOp t):=by(
refine S.fS.F.ok0 q40 λcdv A _ s H vs Q E hr h=>?_
obtain⟨x,r2,r3,r5,m,q,ie,rfl,hs,ft,k⟩:=h
refine⟨_,(qD (qL (qW (pv 0) T.bN T.i5 (q02 T S B).mono hr S.eS.b .nil qK))),?_⟩
try dsimp-beta-proj-iota-zeta-eta only[wishK,cxK]
exact(iV rfl (iM hs.o rfl ⟨x,r2,r3,r5,m,q,ie,rfl,hs,ft,k⟩)))
theorem _root_.L2.ChipAt.has{C c:Addr}{a:CA}{m:CM}{H:Hp}(h:ChipAt C H c a m){b:Addr}(hb:b∈a.li::foot c a):∃o,H b=some o∧(b≠c→∀C d f,o≠ .ins C d f):=by(
obtain⟨rs,er,_⟩:=h.rc
have hb:b=a.li∨b=c∨b=a.bo∨b=a.cl∨b=a.dc∨b=a.br∨b=a.rc:=by simpa[foot]using hb
rcases hb with rfl|rfl|rfl|rfl|rfl|rfl|rfl
·exact⟨_,h.li,λ_ _ _ _ z=>by cases z⟩
·exact⟨_,h.ins,λn=>absurd rfl n⟩
·exact⟨_,h.bo,λ_ _ _ _ z=>by cases z⟩
·exact⟨_,h.cl,λ_ _ _ _ z=>by cases z⟩
·exact⟨_,h.dc,λ_ _ _ _ z=>by cases z⟩
·exact⟨_,h.br,λ_ _ _ _ z=>by cases z⟩
exact⟨_,er,λ_ _ _ _ z=>by cases z⟩)
theorem StAt.off{H:Hp}{x:Sto}{r2 r3 r4 r5:V}{m:CM}{q:QM}(h:StAt t H x r2 r3 r4 r5 m q){p:Addr}(n:H p=none):p∉t.bM::sf x:=λz=>by(
obtain⟨rs,er,_⟩:=h.ch.rc
obtain⟨ps,hT,_⟩:=h.tb
have z:p=t.bM∨p=x.c∨p=x.a.bo∨p=x.a.cl∨p=x.a.dc∨p=x.a.br∨p=x.a.rc∨p=x.k.bk∨p=x.k.wv∨p=x.k.lv∨p=x.k.fi∨p=x.k.bo:=by simpa[sf,bf,foot]using z
rcases z with rfl|rfl|rfl|rfl|rfl|rfl|rfl|rfl|rfl|rfl|rfl|rfl
·rw[hT]at n;cases n
·rw[h.ch.ins]at n;cases n
·rw[h.ch.bo]at n;cases n
·rw[h.ch.cl]at n;cases n
·rw[h.ch.dc]at n;cases n
·rw[h.ch.br]at n;cases n
·rw[er]at n;cases n
·rw[h.bk.o]at n;cases n
·rw[h.bk.w]at n;cases n
·rw[h.bk.l]at n;cases n
·rw[h.bk.f]at n;cases n
rw[h.bk.b]at n;cases n)
inductive spPi(t:Adr)(vs:List V)(H:Hp)(Q:VK)(E:XK):Prop
|mk:∀x dx tm td c a r2 r3 r4 r5,∀m:CM,∀B P:Nat,vs=[.ref x,.ref c,.ref tm]→H x=some (.ins t.C_Store dx [])→H tm=some (.ins t.C_Terms td (teF (.int (B:Int)) (.int (P:Int)) r2 r3 r4 r5))→ChipAt t.C_Chip H c a m→m.bl=(B:Int)→m.pg=(P:Int)→B≤16→TbF t H→(∀k H',H' x=some (.ins t.C_Store dx [("chip",.ref c),("terms",.ref tm),("book",.ref k.bk)])→(∀ru pa H2,Keep [x] H' H2→H2 x=some (.ins t.C_Store dx [("chip",.ref c),("terms",.ref tm),("book",.ref k.bk),("rule",ru),("papers",pa)])→StAt t H2 ⟨x,dx,tm,td,c,a,k,ru,pa⟩ r2 r3 r4 r5 m (bk0 B P))→(∀b∈bf k,H b=none)→(∀b o,b≠x→H b=some o→H' b=some o)→Q .non H')→spPi t vs H Q E
theorem q6F(T:Txt K mg t)(S:Fns K t):S.tW.Ok0 P w mg base 3 (spPi t):=by(
refine S.tW.F.ok0 q67 λcdv A _ s H vs Q E hr h=>?_
obtain⟨x,dx,tm,td,c,a,r2,r3,r4,r5,m,B,P',rfl,hx,htm,hc,eB,eP,hB,tb,k⟩:=h
refine⟨_,(qB (jC (PW.pt (qGG (qT q8J (qJ (pv 2) rfl) (qJ (pv 1) rfl) (qS _)) (qCH (qT q8J (qJ (pv 2) rfl) (qJ (pv 1) rfl) (qS _))))) (qD jD) qP) (qB (jL (pv 0) (pv 1) rfl) (qB (jL (pv 0) (pv 2) rfl) (qD (jL (pv 0) (q4O T.aDD (q86 T S).mono hr rfl T.aDH S.aAP.b .nil qK (qA (qJ (pv 1) rfl) (qA (qJ (pv 1) rfl) qE))) rfl))))),?_⟩
try dsimp-beta-proj-iota-zeta-eta only[wishK,cxK]
refine(iV rfl (iF htm T.bU T.fB rfl (iV rfl (iF hc.ins T.bO T.eT rfl ⟨rfl,_,rfl,?_⟩))))
rw[show(!decide (V.int (B:Int)=V.int m.bl))=false by rw[eB];simp]
refine iteF ?_
refine(iV rfl (iF htm T.bU T.bT rfl (iV rfl (iF hc.ins T.bO T.eJ rfl ⟨rfl,_,rfl,?_⟩))))
rw[show(!decide (V.int (P':Int)=V.int m.pg))=false by rw[eP];simp]
refine iteF ?_
refine⟨_,rfl,_,rfl,x,_,dx,_,rfl,hx,T.bN,T.b9,by decide,?_⟩
refine⟨_,rfl,_,rfl,x,_,dx,_,rfl,qH,T.bN,T.bR,by show 1<1000;decide,?_⟩
rw[q78]
have tx:tm≠x:=jM htm hx (by intro z;injection z with z1 z2 z3;unfold teF at z3;cases z3)
have cx:c≠x:=jM hc.ins hx (by intro z;injection z with z1 z2 z3;unfold chF at z3;cases z3)
have k1:∀b o,b≠x→H b=some o→(upd H x (.ins t.C_Store dx [("chip",.ref c),("terms",.ref tm)])) b=some o:=λb o nb e=>by rw[qC nb];exact e
have o1:(upd H x (.ins t.C_Store dx [("chip",.ref c),("terms",.ref tm)])) x=some (.ins t.C_Store dx [("chip",.ref c),("terms",.ref tm)]):=qH
have f1:∀b,(upd H x (.ins t.C_Store dx [("chip",.ref c),("terms",.ref tm)])) b=none→H b=none:=λb e=>by
 by_cases z:b=x
 ·rw[z,qH]at e;cases e
 rw[qC z]at e;exact e
rw[show putF "terms" (.ref tm) (putF "chip" (.ref c) ([]:List (Str×V)))=([("chip",V.ref c),("terms",V.ref tm)]:List (Str×V))from rfl]
generalize upd H x (.ins t.C_Store dx [("chip",.ref c),("terms",.ref tm)])=H1 at k1 o1 f1 ⊢
have hc1:=k1 _ _ cx hc.ins
refine(iV rfl (iF hc1 T.bO T.eT rfl (iV rfl (iF hc1 T.bO T.eJ rfl (λk' kd nk nkd nn=>?_)))))
rw[eB,eP]
refine⟨k',kd,B,P',rfl,hB,qH,λka H3 e1 e2 hb3 ds fr up=>⟨rfl,?_⟩⟩
have s0:Same H1 (upd (upd H1 kd (.own k')) k' (.ins t.C_Book kd [])):=q1Y nk nkd
have up':∀b o,H1 b=some o→H3 b=some o:=λb o e=>up b o (qI e nk) (s0 b o e)
refine⟨_,rfl,x,_,dx,_,rfl,up' _ _ o1,T.bN,T.bQ,by show 2<1000;decide,?_⟩
have hx3:=up' _ _ o1
have kx:ka.bk≠x:=by rw[e1];exact(qI o1 nk).symm
have lH:∀b∈bf ka,H b=none:=λb hb=>by
 have hb:b=ka.bk∨b∈[ka.wv,ka.lv,ka.fi,ka.bo]:=by simpa[bf]using hb
 rcases hb with rfl|hb
 ·rw[e1];exact f1 _ nk
 exact f1 _ (Same.free s0 (fr b hb))
have kpx:∀b o,b≠x→H3 b=some o→(upd H3 x (.ins t.C_Store dx (putF "book" (.ref k') [("chip",V.ref c),("terms",V.ref tm)]))) b=some o:=λb o nb e=>by rw[qC nb];exact e
have up2:∀b o,b≠x→H b=some o→(upd H3 x (.ins t.C_Store dx (putF "book" (.ref k') [("chip",V.ref c),("terms",V.ref tm)]))) b=some o:=λb o nb e=>kpx b o nb (up' b o (k1 b o nb e))
have nx:∀{b:Addr} {o:HO},H3 b=some o→(∀C d fs,o≠ .ins C d fs)→b≠x:=fun {b o} e n z=>by rw[z,hx3]at e;exact n _ _ _ (kW e).symm
have cfx:∀b∈a.li::foot c a,b≠x:=λb hb z=>by
 obtain⟨o,e,no⟩:=hc.has hb;by_cases y:b=c
 ·exact cx (y.symm.trans z)
 rw[z,hx]at e;exact no y _ _ _ (kW e).symm
refine k ka _ (by rw[e1];exact qH) (λru pa H2 kk hx2=>?_) lH up2
have kp2:∀b o,b≠x→H3 b=some o→H2 b=some o:=λb o nb e=>kk.k b o (by simpa using nb) (kpx b o nb e)
have up3:∀b o,b≠x→H b=some o→H2 b=some o:=λb o nb e=>kk.k b o (by simpa using nb) (up2 b o nb e)
have kK:Keep [x] H H2:=⟨λb o nb e=>up3 b o (λz=>nb (by rw[z];simp)) e,λb xs e=>up3 b _ (λz=>by rw[z,hx]at e;cases e) e⟩
refine⟨hx2,?_,?_,?_,?_,ds,?_,?_⟩
·rw[eB,eP];exact up3 _ _ tx htm
·exact hc.keep kK (λb hb z=>cfx b hb (kC.mp z))
·exact⟨kp2 _ _ kx hb3.o,kp2 _ _ (nx hb3.w (λ_ _ _ z=>by cases z)) hb3.w,kp2 _ _ (nx hb3.l (λ_ _ _ z=>by cases z)) hb3.l,kp2 _ _ (nx hb3.f (λ_ _ _ z=>by cases z)) hb3.f,kp2 _ _ (nx hb3.b (λ_ _ _ z=>by cases z)) hb3.b⟩
·obtain⟨ps,hT,h⟩:=tb;refine⟨ps,up3 _ _ (λz=>by rw[z,hx]at hT;cases hT) hT,?_⟩;rcases h with h|⟨c',h,hcd⟩
 ·exact .inl h
 exact .inr ⟨c',h,up3 _ _ (λz=>by rw[z,hx]at hcd;cases hcd) hcd⟩
·intro b hb z;obtain⟨o,e,_⟩:=hc.has hb;rw[lH b z]at e;cases e
intro b hb z
have hb:b=x∨b=tm:=by simpa using hb
have y0:b∈foot c a∨b∈bf ka:=by simpa[sf]using z
clear z
rcases y0 with z|z
·rcases hb with rfl|rfl
 ·exact cfx _ (hV _ z) rfl
 obtain⟨o,e,no⟩:=hc.has (hV _ z);by_cases y:b=c
 ·rw[y,hc.ins]at htm;have htm:=kW htm;injection htm with z1 z2 z3
  unfold chF teF at z3;have:=dE List.length z3;simp at this
 rw[htm]at e;exact no y _ _ _ (kW e).symm
have n:=lH b z
rcases hb with rfl|rfl
·rw[hx]at n;cases n
rw[htm]at n;cases n)
inductive spSi(t:Adr)(vs:List V)(H:Hp)(Q:VK)(E:XK):Prop
|mk:∀x dx tm td c a r2 r3 r4 r5 ru,∀m:CM,∀B P:Nat,vs=[.ref x,.ref c,.ref tm,ru]→H x=some (.ins t.C_Store dx [])→H tm=some (.ins t.C_Terms td (teF (.int (B:Int)) (.int (P:Int)) r2 r3 r4 r5))→ChipAt t.C_Chip H c a m→m.bl=(B:Int)→m.pg=(P:Int)→B≤16→TbF t H→(∀k p H',StAt t H' ⟨x,dx,tm,td,c,a,k,ru,.ref p⟩ r2 r3 r4 r5 m (bk0 B P)→H' p=some (.lst [])→H p=none→(∀b∈bf k,H b=none)→p∉t.bM::sf ⟨x,dx,tm,td,c,a,k,ru,.ref p⟩→(∀b o,b≠x→H b=some o→H' b=some o)→Q .non H')→spSi t vs H Q E
theorem q6G(T:Txt K mg t)(S:Fns K t):S.tU.Ok0 P w mg base 4 (spSi t):=by(
refine S.tU.F.ok0 q6B λcdv A _ s H vs Q E hr h=>?_
obtain⟨x,dx,tm,td,c,a,r2,r3,r4,r5,ru,m,B,P',rfl,hx,htm,hc,eB,eP,hB,tb,k⟩:=h
refine⟨_,(qB (qU (qIY T.aC4 (q6F T S).mono hr rfl T.aC5 S.tW.b .nil qK (qA (pv 0) (qA (pv 1) (qA (pv 2) qE))))) (qB (jL (pv 0) (pv 3) rfl) (qD (jL (pv 0) (y7 qE) rfl)))),?_⟩
try dsimp-beta-proj-iota-zeta-eta only[wishK,cxK]
refine⟨_,rfl,_,rfl,_,rfl,x,dx,tm,td,c,a,r2,r3,r4,r5,m,B,P',rfl,hx,htm,hc,eB,eP,hB,tb,λka H1 hx1 st fk up=>?_⟩
refine⟨_,rfl,_,rfl,x,_,dx,_,rfl,hx1,T.bN,T.fG,by show 3<1000;decide,?_⟩
refine⟨sz0,λp H2 np s2 h2=>?_⟩
have px:p≠x:=λz=>by rw[z,qH]at np;cases np
rw[qC px]at np
have hx2:=s2 _ _ qH
refine⟨_,rfl,x,_,dx,_,rfl,hx2,T.bN,T.eC,by show 4<1000;decide,?_⟩
have stA:=st ru .non (upd H1 x (.ins t.C_Store dx [("chip",.ref c),("terms",.ref tm),("book",.ref ka.bk),("rule",ru),("papers",.non)])) (Keep.upd hx1 (λ_ z=>by cases z) (by simp)) qH
have off:=stA.off (p:=p) (by rw[qC px];exact np)
have kA:Keep [x] H1 (upd H2 x (.ins t.C_Store dx (putF "papers" (.ref p) (putF "rule" ru [("chip",.ref c),("terms",.ref tm),("book",.ref ka.bk)])))):=((Keep.upd hx1 (λ_ z=>by cases z) (by simp)).trans (Keep.same s2)).trans (Keep.upd hx2 (λ_ z=>by cases z) (by simp))
refine k ka p _ (st ru (.ref p) _ kA qH) (by rw[qC px];exact h2) ?_ fk off (λb o nb e=>kA.k b o (by simpa using nb) (up b o nb e))
cases e:H p with
|none=>rfl
|some o=>rw[up p o px e]at np;cases np)
inductive spEm(t:Adr)(vs:List V)(H:Hp)(Q:VK)(E_:XK):Prop
|mk:∀a,∀m:QM,∀b,vs=[.ref a.bk,.int ((b:Nat):Int)]→BkAt t H a m→m.Ok→Dst a→b<m.B→(∀H',BkAt t H' a (m.emptied b)→Keep [a.fi,a.bo] H H'→Q .non H')→spEm t vs H Q E_
theorem q4J(T:Txt K mg t)(S:Fns K t):S.oP.Ok0 P w mg base 1 (spEm t):=by(
refine S.oP.F.ok0 q4C λcdv A _ s H vs Q E hr h=>?_
obtain⟨a,m,b,rfl,hb,ok,ds,hB,q⟩:=h
have of':a.bk≠a.fi:=jM hb.o hb.f (by intro z;cases z)
have oo:a.bk≠a.bo:=jM hb.o hb.b (by intro z;cases z)
have wf:a.wv≠a.fi:=jM hb.w hb.f (by intro z;cases z)
have wb:a.wv≠a.bo:=jM hb.w hb.b (by intro z;cases z)
have hbf:b<m.fi.length:=by rw[ok.lf];exact hB
have hbo:b<m.bo.length:=by rw[ok.lo];exact hB
refine⟨_,(qB (q3P qG (q4W (qJ (pv 0) rfl) (pv 1) u6)) (qD (q3P qG (q4W (qJ (pv 0) rfl) (pv 1) u6)))),?_⟩
try dsimp-beta-proj-iota-zeta-eta only[wishK,cxK]
refine(iV rfl (iF hb.o T.bS T.bV rfl ⟨_,rfl,a.fi,_,_,b,rfl,rfl,hb.f,q3V (by rw[hX];exact hbf),?_⟩))
rw[setV]
have b1:(upd H a.fi (.lst ((m.fi.set b 0).map V.int))) a.bo=some (.lst (m.bo.map V.int)):=by rw[qC ds.fb.symm];exact hb.b
have o1':∀o,H a.bk=some o→(upd H a.fi (.lst ((m.fi.set b 0).map V.int))) a.bk=some o:=λo e=>by rw[qC of'];exact e
have o1:=o1' _ hb.o
refine(iV rfl (iF o1 T.bS T.iC rfl ⟨_,rfl,a.bo,_,_,b,rfl,rfl,b1,q3V (by rw[hX];exact hbo),?_⟩))
rw[setV]
refine q _ ⟨?_,?_,?_,?_,?_⟩ (Keep.trans (H1:=upd H a.fi (.lst ((m.fi.set b 0).map V.int))) (Keep.upd hb.f (λ_ z=>by cases z) (by simp)) (Keep.upd b1 (λ_ z=>by cases z) (by simp)))
·rw[qC oo];exact o1
·rw[qC wb,qC wf];exact hb.w
·rw[qC ds.lb,qC ds.lf];exact hb.l
·rw[qC ds.fb];exact qH
exact qH)
noncomputable def lpK(P b:Nat)(V:Mp):List (List Int):=(V.filter λq=>decide (q.2 / (P:Int)=(b:Int))).map λq=>[q.2,q.1]
theorem q9K{P b:Nat}{V:Mp}{q:Int×Int}:lpK P b (V++[q])=if q.2 / (P:Int)=(b:Int)then lpK P b V++[[q.2,q.1]]else lpK P b V:=by(
unfold lpK
rw[gT,gB]
by_cases e:q.2 / (P:Int)=(b:Int)
·rw[hU e];simp[e]
rw[hC e]
simp[e])
inductive spLp(t:Adr)(vs:List V)(H:Hp)(Q:VK)(E_:XK):Prop
|mk:∀a,∀m:QM,∀b,vs=[.ref a.bk,.int ((b:Nat):Int)]→BkAt t H a m→m.Ok→(lpK m.P b m.V).length<64→(∀l us rs H',Same H H'→H l=none→H' l=some (.lst us)→Paired (TupD H') us rs→rs.Perm (lpK m.P b m.V)→(rs.Pairwise λa b=>lx b a=false)→Q (.ref l) H')→spLp t vs H Q E_
theorem q30(T:Txt K mg t)(S:Fns K t):S.fX.Ok0 P w mg base 1 (spLp t):=by(
refine S.fX.F.ok0 q2U λcdv A _ s H vs Q E hr h=>?_
obtain⟨a,m,b,rfl,hb,ok,lV,q⟩:=h
have hu:=q38 hr
have p1:=ok.p1
have p2:=ok.p2
have ob:a.bk≠a.wv:=jM hb.o hb.w (by intro z;cases z)
refine⟨_,(qD (qL (jF q7J (by rfl) T.aBO (by kernel_rfl) (qA (qB1 (q0C ["self","block","name","page"] [0,1] rfl (qIF (qHD cV nE PySem.F.type_dict_items qDR (qJ (pv 0) rfl))) (λ_ _ _ _ _=>(qFP (K:=K) (n:=2) rfl rfl (yZ (j9 (i:=2) (show List.Nodup (["self","block","name","page"]:List Str)from by decide) rfl (Or.inl rfl)) (yZ (j9 (i:=3) (show List.Nodup (["self","block","name","page"]:List Str)from by decide) rfl (Or.inl rfl)) q4L)) rfl rfl)) (λ_ _ _ _ _=>(vF (qT zU (qO q1T (pv 3) (uZ (K:=K) rfl (pv 0) rfl)) (pv 1) (qS _)))) (λ_ _ _ _ _=>(vW (qA (pv 3) (qA (pv 2) qE)))) (by kernel_rfl) (qFE (q8W (by decide) (q8W (by decide) qFD))))) qE)))),?_⟩
try dsimp-beta-proj-iota-zeta-eta only[wishK,cxK]
refine⟨a.wv,_,hb.w,iV rfl (iF hb.o T.bS T.eI rfl ⟨.inr (.inr (.inl ⟨rfl,.inl ⟨_,hb.w⟩⟩)),a.wv,_,rfl,rfl,hb.w,λv nv=>?_⟩)⟩
have sv:Same H (upd H v (q47 v a.wv)):=Same.upd nv
have vv:(upd H v (q47 v a.wv)) v=some (q47 v a.wv):=qH
generalize upd H v (q47 v a.wv)=H1 at sv vv ⊢
refine⟨v,a.wv,_,rfl,vv,sv _ _ hb.w,λo D H2 nD s2 hD=>?_⟩
have kk:∀x u,x≠a.wv→H x=some u→H2 x=some u:=λx u nx e=>s2 _ _ (by rw[qC nx];exact sv _ _ e)
have fz:H2 a.wv=some (.frz o (.dK (dI m.V))):=s2 _ _ qH
have nDH:H D=none:=by
 cases z:H D with
 |none=>rfl
 |some u=>
  by_cases y:D=a.wv
  ·rw[y,qH]at nD;cases nD
  rw[qC y,sv _ _ z]at nD;cases nD
have Dw:D≠a.wv:=λz=>by rw[z,fz]at hD;cases hD
refine qFL (D:=D) (λi H3=>H3 a.wv=some (.frz o (.dK (dI m.V)))∧(∀x u,x≠a.wv→H x=some u→H3 x=some u)∧∃us,H3 D=some (.lst us)∧Paired (TupD H3) us (lpK m.P b (m.V.take i))) ⟨fz,kk,[],hD,.nil⟩ (λi H3 hp=>hp.1) (λi kv W H3 hk hp nW=>?_) (λH3 hp=>?_)
·obtain⟨fz3,k3,us,hd,pr⟩:=hp;have hi:i<m.V.length:=by have:=(kE.mp hk).1;rw[q5W]at this;exact this
 obtain rfl:((Sum.inl m.V[i].1:Key),V.int m.V[i].2)=kv:=by
  have e:(dI m.V)[i]?=some ((Sum.inl m.V[i].1:Key),V.int m.V[i].2):=by unfold dI;rw[mL,kD hi];rfl
  rw[e]at hk;exact kW hk
 have sW:Same H3 (upd H3 W (.tup [.int m.V[i].1,.int m.V[i].2])):=Same.upd nW;have hW:(upd H3 W (.tup [.int m.V[i].1,.int m.V[i].2])) W=some (.tup [.int m.V[i].1,.int m.V[i].2]):=qH;show gTup _ _ _ _ _ (upd H3 W (.tup [.int m.V[i].1,.int m.V[i].2])) _;generalize upd H3 W (.tup [.int m.V[i].1,.int m.V[i].2])=H4 at sW hW ⊢;refine⟨W,_,rfl,SqT.of hW,rfl,_,_,rfl,_,_,rfl,rfl,?_⟩;refine⟨_,rfl,iV rfl (iF (sW _ _ (k3 _ _ ob hb.o)) T.bS T.fV rfl (iI ⟨⟨by lia,by lia⟩,_,rfl,rfl,_,rfl,?_⟩))⟩;rw[q2J];have tk:m.V.take (i+1)=m.V.take i++[m.V[i]]:=(m7 hi).symm;by_cases e:m.V[i].2 / (m.P:Int)=(b:Int)
 ·rw[hG e];refine iteT ?_;refine⟨_,rfl,_,rfl,sz2,λtp H5 n5 s5 h5=>?_⟩;have s35:=sW.trans s5;have hd5:=s35 _ _ hd;have lu:us.length≤65:=by
   have:=ok.lenV;have:=pr.len;have l2:(lpK m.P b (m.V.take i)).length≤(m.V.take i).length:=by unfold lpK;rw[hX];exact mJ _ _
   rw[gH]at l2;lia
  refine⟨us,hd5,(by exact cQ (m:=65) (by lia) (by decide)),?_,λx u nx e'=>?_,us++[.ref tp],qH,?_⟩
  ·rw[qC Dw.symm];exact s35 _ _ fz3
  ·rw[qC (qI e' nDH)];exact s35 _ _ (k3 _ _ nx e')
  rw[tk,q9K,hU e];exact L2.Paired.snoc (Paired.mapP (q0E pr s35) λx k z=>z.upd hd5 (λ_ q=>by cases q)) (TupD.upd ⟨tp,rfl,h5⟩ hd5 (λ_ q=>by cases q))
 rw[h9 e];refine iteF ?_;refine⟨sW _ _ fz3,λx u nx e'=>sW _ _ (k3 _ _ nx e'),us,sW _ _ hd,?_⟩;rw[tk,q9K,hC e];exact q0E pr sW
obtain⟨fz3,k3,us,hd,pr⟩:=hp
rw[q5W,gO]at pr
refine⟨o,_,fz3,?_⟩
have sH:Same H (upd H3 a.wv (.dK (dI m.V))):=qDY hb.w k3
have hd4:(upd H3 a.wv (.dK (dI m.V))) D=some (.lst us):=by rw[qC Dw];exact hd
have pr4:Paired (TupD (upd H3 a.wv (.dK (dI m.V)))) us (lpK m.P b m.V):=Paired.mapP pr λx k z=>z.upd fz3 (λ_ q=>by cases q)
generalize upd H3 a.wv (.dK (dI m.V))=H4 at sH hd4 pr4 ⊢
have hl:(lpK m.P b m.V).length<64:=lV
have ul:=pr4.len
refine⟨D,us,lpK m.P b m.V,2,rfl,SqL.of hd4,qBA pr4,λk hk=>?_,by decide,by lia,λqs pp pw l H5 n5 s5 h5=>?_⟩
·unfold lpK at hk;obtain⟨x,_,rfl⟩:=kO.mp hk;rfl
refine q l _ _ H5 (sH.trans s5) (sH.free n5) h5 (qA6 (q0E pr4 s5) λi hi=>mK.mp (pp.mem_iff.mp hi)) (qA5 ul.symm pp) pw)
theorem qBN(xs:List V)(i:Nat):∀n p,(clr xs i n).getD p .non=if i≤p∧p<i+n then .non else xs.getD p .non
|0,p=>by rw[hC (by lia)];rfl
|n+1,p=>by
 show((clr xs i n).set (i+n) .non).getD p .non=_;rw[jG,qBN xs i n p];by_cases e:i+n=p
 ·subst e;rw[hU (show i≤i+n∧i+n<i+(n+1) by lia),hC (show ¬(i≤i+n∧i+n<i+n) by lia)];by_cases z:i+n<(clr xs i n).length
  ·rw[hU ⟨rfl,z⟩]
  rw[hC (λy=>z y.2)];rw[q4P]at z;rw[kN,rM (by lia)];rfl
 rw[hC (λy=>e y.1)];by_cases z:i≤p∧p<i+n
 ·rw[hU z,hU (by lia)]
 rw[hC z,hC (by lia)]
structure PgAt(H:Hp)(bs:List V)(pg:Nat→Option (Int×Int)):Prop where
n:∀i,pg i=none→bs.getD i .non=.non
v:∀i v,pg i=some v→∃tp,bs.getD i .non=.ref tp∧H tp=some (.tup [.int v.1,.int v.2])
theorem PgAt.keep{F:List Addr}{H H':Hp}{bs:List V}{pg:Nat→Option (Int×Int)}(h:PgAt H bs pg)(k:Keep F H H'):PgAt H' bs pg:=⟨h.n,λi v e=>by
 obtain⟨tp,e1,e2⟩:=h.v i v e;exact⟨tp,e1,k.tp _ _ e2⟩⟩
structure Cm(m:CM)(s:XS):Prop where
ft:Fit m s.q
br:m.br=noB s.q.B
li:∀b,valV m.lim (Sum.inl b)=none
mo:m.mo=1000000
cl:m.cl=s.cl
lf:m.lf=s.lf
rc:m.rc=s.rc
theorem Cm.gd{m:CM}{s:XS}(h:Cm m s):Gd m:=⟨λb=>by rw[h.br];exact rep8,h.li⟩
structure XR(t:Adr)(H:Hp)(x:Sto)(k:Tm)(sh sr:Int)(s:XS):Prop where
e:∃m:CM,StAt t H x (.int sh) (.int sr) (.int (k.ie:Int)) (.int k.sp) m s.q∧Cm m s∧PgAt H m.bo s.pg
w:WX k s
theorem Cm.pgs{m:CM}{s:XS}(h:Cm m s){b f:Nat}(hb:b<s.q.B)(hf:f<s.q.P):((b*s.q.P+f:Nat):Int)≤m.bl*m.pg-1∧b*s.q.P+f<m.bo.length:=by(
have nbo:=h.ft.ok.nbo
rw[h.ft.eB,h.ft.eP,←dR]at *
have:b*s.q.P+f<s.q.B*s.q.P:=(lN (by lia)).mp (by rw[jZ hf];exact hb)
lia)
section
variable{H H':Hp}{x:Sto}{k:Tm}{sh sr:Int}{s:XS}
theorem XR.keep(j:XR t H x k sh sr s){F:List Addr}(kk:Keep F H H')(n:∀b∈[x.s,x.tm]++(x.a.li::sf x),b∉F)(tb:TbF t H'):XR t H' x k sh sr s:=by obtain⟨m,st,c,pg⟩:=j.e;exact⟨⟨m,st.keep kk n tb,c,pg.keep kk⟩,j.w⟩
theorem XR.kT(j:XR t H x k sh sr s)(kk:Keep [t.bM] H H')(tb:TbF t H'):XR t H' x k sh sr s:=by obtain⟨m,st,c,pg⟩:=j.e;exact⟨⟨m,st.kT kk tb,c,pg.keep kk⟩,j.w⟩
theorem XR.tb(j:XR t H x k sh sr s):TbF t H:=by obtain⟨m,st,c,pg⟩:=j.e;exact st.tb
theorem XR.same(j:XR t H x k sh sr s)(ss:Same H H'):XR t H' x k sh sr s:=by obtain⟨m,st,c,pg⟩:=j.e;exact⟨⟨m,st.same ss,c,pg.keep (F:=[]) (Keep.same ss)⟩,j.w⟩
theorem XR.o(j:XR t H x k sh sr s):H x.s=some (.ins t.C_Store x.sd [("chip",.ref x.c),("terms",.ref x.tm),("book",.ref x.k.bk),("rule",x.ru),("papers",x.pa)]):=by obtain⟨m,st,c,pg⟩:=j.e;exact st.o
theorem XR.inH(j:XR t H x k sh sr s):∀y∈t.bM::sf x,∃o,H y=some o:=λy hy=>by(
obtain⟨m,hs,_⟩:=j.e
rcases kI.mp hy with e|e
·obtain⟨pt,hT,_⟩:=hs.tb;exact⟨_,by rw[e];exact hT⟩
unfold sf at e
rcases gF.mp e with e|e
·obtain⟨o,ho,_⟩:=hs.ch.has (hV _ e);exact⟨o,ho⟩
have e:y=x.k.bk∨y=x.k.wv∨y=x.k.lv∨y=x.k.fi∨y=x.k.bo:=by simpa[bf]using e
rcases e with rfl|rfl|rfl|rfl|rfl
·exact⟨_,hs.bk.o⟩
·exact⟨_,hs.bk.w⟩
·exact⟨_,hs.bk.l⟩
·exact⟨_,hs.bk.f⟩
exact⟨_,hs.bk.b⟩)
theorem XR.off(j:XR t H x k sh sr s){p:Addr}(n:H p=none):p∉t.bM::sf x:=λz=>by obtain⟨o,e⟩:=j.inH p z;rw[n]at e;cases e
theorem TbF.updL{H:Hp}{p:Addr}{xs:List V}{o:HO}(h:TbF t H)(e:H p=some (.lst xs)):TbF t (upd H p o):=by(
obtain⟨ps,hT,h⟩:=h
refine⟨ps,by rw[qC (jM hT e (by intro z;cases z))];exact hT,?_⟩
rcases h with h|⟨c,h,hc⟩
·exact .inl h
exact .inr ⟨c,h,by rw[qC (jM hc e (by intro z;cases z))];exact hc⟩)
theorem XR.lst(j:XR t H x k sh sr s){p:Addr}{xs:List V}{o:HO}(e:H p=some (.lst xs))(np:p∉t.bM::sf x):XR t (upd H p o) x k sh sr s:=by(
obtain⟨m,st,_⟩:=j.e
have k:=Keep.upd (F:=[p]) (o:=o) e (λ_ z=>by cases z) (by simp)
refine j.keep k (λy hy z=>?_) (TbF.updL st.tb e)
rw[kC.mp z]at hy
rcases gF.mp hy with hy|hy
·have hy:p=x.s∨p=x.tm:=by simpa using hy
 rcases hy with h|h
 ·rw[h,st.o]at e;cases e
 rw[h,st.te]at e;cases e
rcases kI.mp hy with h|h
·rw[h,st.ch.li]at e;cases e
exact np (hV _ h))
theorem XR.set(j:XR t H x k sh sr s){n v:Int}(n0:0≤n)(n1:n≤64)(rc:s.rc.length<1000000)(hr:k.ie*s.q.P<s.rmX)(hl:(∃p,(n,p)∈s.q.V)∨s.q.V.length<65){Q:VK}{E:XK}
 (dk:s.lf=some 0→∀H',XR t H' x k sh sr s→Keep (t.bM::sf x) H H'→E (.ref t.C_PowerGone) none H')
 (kk:s.lf≠some 0→∀H',XR t H' x k sh sr (s.put n v)→Keep (t.bM::sf x) H H'→Q (.int (s.np:Int)) H'):qBL t [.ref x.s,.int n,.int v] H Q E:=by(
obtain⟨m,st,c,pg⟩:=j.e
obtain⟨hb,hf,ef,_,sp⟩:=j.w.spot (by lia)
obtain⟨hp1,hp2⟩:=c.pgs hb hf
refine⟨x,_,_,_,_,m,s.q,n,v,rfl,st,c.ft,c.gd,by rw[c.rc];exact rc,λl hfr=>⟨s.pb,s.pf,?_,ef,pg.n _ (j.w.cr _ _ hb (by lia) hf),λz H' k' st'=>dk (by rw[←c.lf];exact z) H' ⟨⟨m,st',c,pg.keep k'⟩,j.w⟩ k',λz tp H' htp k' st'=>?_⟩⟩
·rw[c.br]at hfr ⊢;rw[c.cl]at hfr;exact sp l hfr
have dk':s.lf≠some 0:=by rw[←c.lf];exact z
obtain⟨w',_⟩:=j.w.put (v:=v) hr n0 n1 hl dk'
have okd:(m.deed "put" ((s.pb*s.q.P+s.pf:Nat):Int) (((s.pb*s.q.P+s.pf:Nat):Int) / m.pg) false).Ok:=c.ft.ok.deed (by rw[c.rc];exact rc)
refine kk dk' H' ⟨⟨_,st',⟨⟨⟨okd.bl1,okd.bl2,okd.pg1,okd.pg2,?_,okd.ncl,okd.ndc,okd.nbr,okd.lim,okd.nrc⟩,w'.qs.ok,c.ft.eB,c.ft.eP⟩,c.br,c.li,c.mo,c.cl,?_,?_⟩,⟨λi e=>?_,λi w e=>?_⟩⟩,w'⟩ k'
·show((m.bo.set _ _).length:Int)=_;rw[gK];exact c.ft.ok.nbo
·show m.lf.map _=_;rw[c.lf];rfl
·show m.rc++[_]=_;rw[c.rc];rfl
·have e:(if i=s.np then some (s.q.nx*128+n,v)else s.pg i)=none:=e;show(m.bo.set (s.pb*s.q.P+s.pf) (.ref tp)).getD i .non=.non;by_cases z:i=s.np
 ·rw[hU z]at e;cases e
 rw[hC z]at e;rw[jG,hC (λy=>z y.1.symm)];exact pg.n i e
have e:(if i=s.np then some (s.q.nx*128+n,v)else s.pg i)=some w:=e
show ∃tq,(m.bo.set (s.pb*s.q.P+s.pf) (.ref tp)).getD i .non=.ref tq∧_
by_cases z:i=s.np
·rw[hU z]at e;cases e;exact⟨tp,by rw[jG,hU ⟨z.symm,hp2⟩],htp⟩
rw[hC z]at e
obtain⟨tq,e1,e2⟩:=pg.v i w e
exact⟨tq,by rw[jG,hC (λy=>z y.1.symm)];exact e1,k'.tp _ _ e2⟩)
end
inductive spCo(t:Adr)(vs:List V)(H:Hp)(Q:VK)(E:XK):Prop
|mk:∀x k sh sr s,∀b:Nat,vs=[.ref x.s,.int (b:Int)]→XR t H x k sh sr s→b<s.q.B→s.q.fi.getD b 0=(s.q.P:Int)→s.rc.length<1000000→(∀y∈s.q.V,¬y.2 / (s.q.P:Int)=(b:Int))→(s.lf=some 0→E (.ref t.C_PowerGone) none H)→(s.lf≠some 0→∀H',XR t H' x k sh sr (s.wip b)→Keep (t.bM::sf x) H H'→Q .non H')→spCo t vs H Q E
theorem q31(T:Txt K mg t)(S:Fns K t):S.f9.OkE P w mg base 5 (spCo t):=by(
refine S.f9.F.okE q2V (λvs H Q E h=>?_) (λcdv A outer s H vs Q E hr h=>?_)
·repeat obtain⟨_,h⟩:=h
 all_goals subst_vars;rfl
obtain⟨x,k,sh,sr,s,b,rfl,j,hb,ef,rc,nl,dk,kk⟩:=h
obtain⟨m,hs,c,pg⟩:=j.e
have eB:=c.ft.eB
have clb:=(j.w.c0 b).2
refine⟨_,(qB (qU (jJ j8 (qJ (pv 0) rfl) T.bO T.aB8 (q83 T S).mono hr S.aAK.b .nil (qA (pv 1) qE))) (qD (qU (qY (qJ (pv 0) rfl) T.bS T.aAY (q4J T S).mono hr S.oP.b .nil qK (qA (pv 1) qE))))),?_⟩
try dsimp-beta-proj-iota-zeta-eta only[wishK,cxK]
refine(iV rfl (iF hs.o T.bN T.b9 rfl (iM hs.ch.ins rfl ⟨_,rfl,x.c,x.a,m,_,rfl,hs.ch,c.ft.ok,by rw[c.rc];exact rc,c.gd,by lia,by rw[c.mo,c.cl];lia,λz=>dk (by rw[←c.lf];exact z),λz H1 hc1 k1=>?_⟩)))
have dk':s.lf≠some 0:=by rw[←c.lf];exact z
have hs1:=hs.put hc1 k1 rfl rfl
refine(iV rfl (iF hs1.o T.bN T.bQ rfl (iM hs1.bk.o rfl ⟨_,rfl,x.k,s.q,b,rfl,hs1.bk,j.w.qs.ok,hs1.ds,hb,λH2 hb2 k2=>?_⟩)))
have k2':Keep (bf x.k) H1 H2:=k2.mono (by intro y hy;simp[bf]at hy ⊢;rcases hy with rfl|rfl<;>simp)
have kA:Keep (t.bM::sf x) H H2:=(k1.mono (λy hy=>by unfold sf;exact hV _ (gP _ hy))).trans (k2'.mono (λy hy=>by unfold sf;exact hV _ (mO _ hy)))
have hs2:=hs1.note hb2 k2'
obtain⟨w',_⟩:=j.w.wip hb ef nl dk'
have okd:(m.deed "wipe" (b:Int) (b:Int) false).Ok:=c.ft.ok.deed (by rw[c.rc];exact rc)
have gbo:∀p,(wipC m b).bo.getD p .non=if p / s.q.P=b then .non else m.bo.getD p .non:=λp=>by
 show(clr m.bo ((b:Int)*m.pg).toNat m.pg.toNat).getD p .non=_;have p1:=j.w.qs.ok.p1;rw[c.ft.eP,←dR,mM,mM,qBN];have:(b*s.q.P≤p∧p<b*s.q.P+s.q.P)↔p / s.q.P=b:=by rw[Nat.div_eq_iff (by lia)];generalize b*s.q.P=z;lia
 by_cases z:p / s.q.P=b
 ·rw[hU z,hU (this.mpr z)]
 rw[hC z,hC (λy=>z (this.mp y))]
refine kk dk' H2 ⟨⟨_,hs2,⟨⟨⟨okd.bl1,okd.bl2,okd.pg1,okd.pg2,?_,?_,okd.ndc,okd.nbr,okd.lim,okd.nrc⟩,w'.qs.ok,c.ft.eB,c.ft.eP⟩,c.br,c.li,c.mo,?_,?_,?_⟩,⟨λi e=>?_,λi w e=>?_⟩⟩,w'⟩ kA
·show((clr m.bo _ _).length:Int)=_;rw[q4P];exact c.ft.ok.nbo
·show((m.cl.set _ _).length:Int)=_;rw[gK];exact c.ft.ok.ncl
·show m.cl.set b (m.cl.getD b 0+1)=_;rw[c.cl];rfl
·show m.lf.map _=_;rw[c.lf];rfl
·show m.rc++[_]=_;rw[c.rc];rfl
·have e:(if i / s.q.P=b then none else s.pg i)=none:=e;rw[gbo];by_cases z:i / s.q.P=b
 ·rw[hU z]
 rw[hC z]at e ⊢;exact pg.n i e
have e:(if i / s.q.P=b then none else s.pg i)=some w:=e
rw[gbo]
by_cases z:i / s.q.P=b
·rw[hU z]at e;cases e
rw[hC z]at e ⊢
obtain⟨tq,e1,e2⟩:=pg.v i w e
exact⟨tq,e1,kA.tp _ _ e2⟩)
theorem q62(T:Txt K mg t)(S:Fns K t):S.tF.OkE P w mg base 6 (λvs H Q E=>spCo t vs H (λv H'=>v=.non∧Q (.bl true) H') E):=by(
refine S.tF.F.okE q5R (λvs H Q E h=>?_) (λcdv A outer s H vs Q E hr h=>?_)
·repeat obtain⟨_,h⟩:=h
 all_goals subst_vars;rfl
obtain⟨x,k,sh,sr,s,b,rfl,j,hb,ef,rc,nl,dk,kk⟩:=h
refine⟨_,(qB (qU (jJ j8 (pv 0) T.bN T.tT (q31 T S).mono hr S.f9.b .nil (qA (pv 1) qE))) (qD (qL zT))),?_⟩
try dsimp-beta-proj-iota-zeta-eta only[wishK,cxK]
exact(iV rfl (iM j.o rfl ⟨_,rfl,x,k,sh,sr,s,b,rfl,j,hb,ef,rc,nl,dk,λz H' j' k'=>(kk z H' j' k').2⟩)))
theorem qEO{s:XS}{ns:List Int}(h:HeldIs s.q ns):ns=s.hl:=by(
refine qB9 (h.pm.trans (sB _ _).symm) h.so ?_
have:=nL (le:=λa b:Int=>decide (a≤b)) (λa b c h1 h2=>hG (gZ (mF h1) (mF h2))) (λa b=>by
 by_cases z:a≤b
 ·rw[hG z];rfl
 rw[h9 z,hG (show b≤a by lia)];rfl) (hdN s.q.V)
exact this.imp λz=>mF z)
theorem hd64{k:Tm}{s:XS}(w:WX k s):(hdN s.q.V).length≤64:=by(
have ok:=w.qs.ok
have nd:(hdN s.q.V).Nodup:=gI _ ok.nd
have:=qB7 (m:=(List.range 64).map λn=>((n:Nat):Int)) nd λy hy=>by obtain⟨a1,a2⟩:=mG.mp hy;obtain⟨y',hy',rfl⟩:=kO.mp a1;have:=ok.nm y' hy';have:=mF a2;exact kO.mpr ⟨y'.1.toNat,mK.mpr (by lia),by lia⟩
rwa [hX,gD]at this)
theorem qGU{k:Tm}{s:XS}(w:WX k s):∀y∈s.hl,0≤y∧y<64:=λy hy=>by(
have hy:=cT.mp hy
obtain⟨a1,a2⟩:=mG.mp hy
obtain⟨y',hy',rfl⟩:=kO.mp a1
have:=w.qs.ok.nm y' hy'
have:=mF a2
lia)
theorem qGV{ns:List Int}(h:∀y∈ns,0≤y∧y<64):ns.map V.int=vN (ns.map Int.toNat)∧∀u∈ns.map Int.toNat,u<64:=by(
refine⟨?_,λu hu=>?_⟩
·unfold vN;rw[sG];refine wA λy hy=>?_;have:=h y hy;show V.int y=V.int ((y.toNat:Nat):Int);rw[show((y.toNat:Nat):Int)=y by lia]
obtain⟨y,hy,rfl⟩:=kO.mp hu
have:=h y hy
lia)
inductive spVm(t:Adr)(vs:List V)(H:Hp)(Q:VK)(E:XK):Prop
|mk:∀x k sh sr s,∀n p:Int,vs=[.ref x.s,.int p,.int n]→XR t H x k sh sr s→(n,p)∈s.q.V→(s.lf=some 0→E (.ref t.C_PowerGone) none H)→(∀H',Same H H'→Q (.int (s.val p n)) H')→spVm t vs H Q E
theorem q0R(T:Txt K mg t)(S:Fns K t):S.eZ.OkE P w mg base 6 (spVm t):=by(
refine S.eZ.F.okE q0P (λvs H Q E h=>?_) (λcdv A outer s H vs Q E hr h=>?_)
·repeat obtain⟨_,h⟩:=h
 all_goals subst_vars;rfl
obtain⟨x,k,sh,sr,s,n,p,rfl,j,hm,dk,kk⟩:=h
obtain⟨m,hs,c,pg⟩:=j.e
refine⟨_,(qB (jC (qT zU (pv 2) (q06 rfl T.aCI ⟨_,rfl⟩ (v:=.int 64)) (qS _)) (qD (qL (qR (q5Y T S).mono hr rfl T.aA5 T.aA6 S.aA9.b .nil qK (qA (qW (pv 0) T.bN T.fO (u9 T S).mono hr S.fN.b .nil qK) qE)))) qP) (qD (qL (jB yA (jJ j8 (qJ (pv 0) rfl) T.bO T.aAS (q3H T S).mono hr S.tM.b .nil (qA (pv 1) qE)) qG (λ_ _=>rfl))))),?_⟩
try dsimp-beta-proj-iota-zeta-eta only[wishK,cxK]
refine⟨_,rfl,rfl,_,rfl,?_⟩
rw[q2J]
by_cases z:n=64
·rw[hG z];refine iteT ?_;refine(iV rfl (iM hs.o rfl ⟨x,_,_,_,_,m,s.q,rfl,hs,c.ft,hd64 j.w,λl ns H1 hn s1 n1 h1=>?_⟩));obtain rfl:=qEO hn;obtain⟨en,lt⟩:=qGV (qGU j.w);rw[en]at h1;refine⟨l,_,rfl,SqL.of h1,lt,?_⟩;have:=kk H1 s1;unfold XS.val at this;rw[hU z]at this;exact this
rw[h9 z]
refine iteF ?_
obtain⟨b,f,v,a1,a2,a3,a4,a5⟩:=j.w.vl _ hm
have a3:p=_:=a3
obtain⟨tp,e1,e2⟩:=pg.v _ _ a5
have hp:=(c.pgs a1 a2).1
refine(iV rfl (iF hs.o T.bN T.b9 rfl (iM hs.ch.ins rfl ⟨_,rfl,x.c,x.a,m,_,rfl,hs.ch,c.ft.ok,by rw[a3];lia,by rw[a3];exact hp,λy=>dk (by rw[←c.lf];exact y),λ_=>?_⟩)))
have:=kk H (Same.refl H)
unfold XS.val at this
rw[hC z]at this
rw[a3,mM,e1]
rw[a3,mM,a5]at this
exact(iT (k:=1) (v:=_) (SqT.of e2) rfl this))
inductive spGaP(vs:List V)(H:Hp)(Q:VK)(E_:XK):Prop
|mk:∀x a b p n,vs=[x,a,b,p,n]→Q (.bl false) H→spGaP vs H Q E_
theorem q32(T:Txt K mg t)(S:Fns K t):S.fZ.Ok0 P w mg base 1 spGaP:=by(
refine S.fZ.F.ok0 q2Y λcdv A _ s H vs Q E hr h=>?_
obtain⟨x,a,b,p,n,rfl,q⟩:=h
refine⟨_,(qD (qL zT)),?_⟩
try dsimp-beta-proj-iota-zeta-eta only[wishK,cxK]
exact q)
inductive spGa(f:Tl→Int)(vs:List V)(H:Hp)(Q:VK)(E_:XK):Prop
|mk:∀x a b p n A B,vs=[x,a,b,p,n]→TlAt H a A→TlAt H b B→Q (.bl (decide (f A<f B))) H→spGa f vs H Q E_
theorem q1P(T:Txt K mg t)(S:Fns K t):S.fJ.Ok0 P w mg base 1 (spGa Tl.lv):=by(
refine S.fJ.F.ok0 q1J λcdv A _ s H vs Q E hr h=>?_
obtain⟨x,a,b,p,n,A,B,rfl,⟨ad,rfl,ha⟩,⟨bd,rfl,hb⟩,q⟩:=h
refine⟨_,(qD (qL (yP q4Z (jB yA (pv 1) qG (λ_ _=>rfl)) (jB yA (pv 2) qG (λ_ _=>rfl)) (qS _)))),?_⟩
try dsimp-beta-proj-iota-zeta-eta only[wishK,cxK]
exact⟨_,rfl,iT (k:=1) (v:=_) (SqT.of ha) rfl ⟨_,rfl,iT (k:=1) (v:=_) (SqT.of hb) rfl (iI q)⟩⟩)
theorem q1Q(T:Txt K mg t)(S:Fns K t):S.fM.Ok0 P w mg base 1 (spGa Tl.bo):=by(
refine S.fM.F.ok0 q1K λcdv A _ s H vs Q E hr h=>?_
obtain⟨x,a,b,p,n,A,B,rfl,⟨ad,rfl,ha⟩,⟨bd,rfl,hb⟩,q⟩:=h
refine⟨_,(qD (qL (yP q4Z (jB yA (pv 1) qG (λ_ _=>rfl)) (jB yA (pv 2) qG (λ_ _=>rfl)) (qS _)))),?_⟩
try dsimp-beta-proj-iota-zeta-eta only[wishK,cxK]
exact⟨_,rfl,iT (k:=3) (v:=_) (SqT.of ha) rfl ⟨_,rfl,iT (k:=3) (v:=_) (SqT.of hb) rfl (iI q)⟩⟩)
noncomputable def gain(pg nw:Int)(T:Tl):Int:=(pg-T.lv)*(nw-T.bo)
inductive spGaW(vs:List V)(H:Hp)(Q:VK)(E_:XK):Prop
|mk:∀x a b pg nw A B,vs=[x,a,b,.int pg,.int nw]→TlAt H a A→TlAt H b B→A.Ok pg nw→B.Ok pg nw→pg≤16→Q (.bl (decide (gain pg nw A*(pg+B.lv)>gain pg nw B*(pg+A.lv)))) H→spGaW vs H Q E_
theorem q2A(T:Txt K mg t)(S:Fns K t):S.fQ.Ok0 P w mg base 1 spGaW:=by(
refine S.fQ.F.ok0 yX λcdv A _ s H vs Q E hr h=>?_
obtain⟨x,a,b,pg,nw,A,B,rfl,⟨ad,rfl,ha⟩,⟨bd,rfl,hb⟩,oa,ob,hp,q⟩:=h
have a0:=oa.l0
have a1:=oa.l1
have b0:=ob.l0
have b1:=ob.l1
refine⟨_,(qB (qV (i:=5) yX.nd rfl (Or.inl rfl) (qO yS (qO yR (pv 3) (jB yA (pv 1) qG (λ_ _=>rfl))) (qO yR (pv 4) (jB yA (pv 1) qG (λ_ _=>rfl))))) (qB (qV (i:=6) yX.nd rfl (Or.inl rfl) (qO yS (qO yR (pv 3) (jB yA (pv 2) qG (λ_ _=>rfl))) (qO yR (pv 4) (jB yA (pv 2) qG (λ_ _=>rfl))))) (qD (qL (yP qCN (qO yS (pv 5) (qO yL (pv 3) (jB yA (pv 2) qG (λ_ _=>rfl)))) (qO yS (pv 6) (qO yL (pv 3) (jB yA (pv 1) qG (λ_ _=>rfl)))) (qS _)))))),?_⟩
try dsimp-beta-proj-iota-zeta-eta only[wishK,cxK]
refine⟨_,rfl,_,rfl,iT (k:=1) (v:=_) (SqT.of ha) rfl (iI ⟨_,rfl,_,rfl,iT (k:=3) (v:=_) (SqT.of ha) rfl (iI (iI ⟨.inl ⟨by lia,by lia⟩,?_⟩))⟩)⟩
refine⟨_,rfl,_,rfl,iT (k:=1) (v:=_) (SqT.of hb) rfl (iI ⟨_,rfl,_,rfl,iT (k:=3) (v:=_) (SqT.of hb) rfl (iI (iI ⟨.inl ⟨by lia,by lia⟩,?_⟩))⟩)⟩
refine⟨_,rfl,_,rfl,_,rfl,iT (k:=1) (v:=_) (SqT.of hb) rfl (iI (iI ⟨.inr ⟨by lia,by lia⟩,?_⟩))⟩
exact⟨_,rfl,_,rfl,_,rfl,iT (k:=1) (v:=_) (SqT.of ha) rfl (iI (iI ⟨.inr ⟨by lia,by lia⟩,iI q⟩))⟩)
noncomputable def Mny(pg many:Int):Prop:=1≤pg∧0<many∧∀j:Int,0≤j→j≤pg→(pg+j) ∣ many
noncomputable def rkW(pg nw many:Int)(T:Tl):Int:=0-(pg-T.lv)*(nw-T.bo)*(many / (pg+T.lv))
theorem q63{x y m:Int}(h:0<m):x*m<y*m↔x<y:=by(
constructor
·intro z;refine Int.not_le.mp λw=>?_;have:=pO w (gJ h);lia
intro z
exact Int.mul_lt_mul_of_pos_right z h)
theorem qCG{pg nw many:Int}{A B:Tl}(m:Mny pg many)(oa:A.Ok pg nw)(ob:B.Ok pg nw):(gain pg nw A*(pg+B.lv)>gain pg nw B*(pg+A.lv))↔rkW pg nw many A<rkW pg nw many B:=by(
obtain⟨p1,m0,md⟩:=m
have a0:=oa.l0
have b0:=ob.l0
obtain⟨sa,ea⟩:=md A.lv oa.l0 oa.l1
obtain⟨sb,eb⟩:=md B.lv ob.l0 ob.l1
have da:many / (pg+A.lv)=sa:=by rw[ea];exact sY _ (by lia)
have db:many / (pg+B.lv)=sb:=by rw[eb];exact sY _ (by lia)
unfold rkW
rw[da,db]
show gain pg nw B*(pg+A.lv)<gain pg nw A*(pg+B.lv)↔0-gain pg nw A*sa<0-gain pg nw B*sb
have pa:0<pg+A.lv:=by lia
have pb:0<pg+B.lv:=by lia
have e:(0-gain pg nw A*sa<0-gain pg nw B*sb)↔gain pg nw B*sb<gain pg nw A*sa:=by lia
rw[e,←q63 (x:=gain pg nw B*(pg+A.lv)) m0,←q63 (x:=gain pg nw B*sb) (Int.mul_pos pa pb)]
have e1:gain pg nw B*(pg+A.lv)*many=gain pg nw B*sb*((pg+A.lv)*(pg+B.lv)):=by rw[eb];ac_rfl
have e2:gain pg nw A*(pg+B.lv)*many=gain pg nw A*sa*((pg+A.lv)*(pg+B.lv)):=by rw[ea];ac_rfl
rw[e1,e2])
noncomputable def RuAt(t:Adr)(H:Hp)(r:Addr)(pg nw:Int)(f:Tl→Int):Prop:=(∃dx,H r=some (.ins t.C_Rule dx [])∧f=λ_=>0)∨(∃dx,H r=some (.ins t.C_Fewest dx [])∧f=Tl.lv)∨(∃dx,H r=some (.ins t.C_Eldest dx [])∧f=Tl.bo)∨(∃dx many,H r=some (.ins t.C_Worth dx [])∧f=rkW pg nw many∧Mny pg many)
inductive spUn(t:Adr)(K:W.Frag)(vs:List V)(H:Hp)(Q:VK)(E_:XK):Prop
|mk:∀r v l pg nw T us ts f,vs=[.ref r,v,.ref l,.int pg,.int nw]→RuAt t H r pg nw f→TlAt H v T→SqL K H l us→Tls H us ts→T.Ok pg nw→(∀o∈ts,o.Ok pg nw)→pg≤16→Q (.bl (unb f ts T)) H→spUn t K vs H Q E_
theorem q64(T:Txt K mg t)(S:Fns K t):S.tG.Ok0 P w mg base 2 (spUn t K):=by(
refine S.tG.F.ok0 q1I λcdv A _ s H vs Q E hr h=>?_
obtain⟨r,v,l,pg,nw,A,us,ts,f,rfl,hR,hv,hl,hts,oa,os,hpg,q⟩:=h
obtain⟨va,rfl,hva⟩:=id hv
have hlen:=hts.len
refine⟨_,(qB (vJ d8 rfl (yE (pv 2)) (j9 (i:=5) q1I.nd rfl (Or.inl rfl)) (qD (jC (PW.pt (q9P (qT (qFG hr.units) (pv 5) (pv 1) (qS _)) (q79 (jT (qI9 (q3S (qY (pv 0) T.aCS T.tZ (q32 T S).mono hr S.fZ.b .nil qK (qA (pv 5) (qA (pv 1) (qA (pv 3) (qA (pv 4) qE))))) (q3S (qY (pv 0) T.aBR T.o7 (q1P T S).mono hr S.fJ.b .nil qK (qA (pv 5) (qA (pv 1) (qA (pv 3) (qA (pv 4) qE))))) (q3S (qY (pv 0) T.aBX T.o9 (q1Q T S).mono hr S.fM.b .nil qK (qA (pv 5) (qA (pv 1) (qA (pv 3) (qA (pv 4) qE))))) (qY (pv 0) T.aCK T.tN (q2A T S).mono hr S.fQ.b .nil qK (qA (pv 5) (qA (pv 1) (qA (pv 3) (qA (pv 4) qE))))))))))))) (qD (qL zT)) qP))) (qD (qL zT))),?_⟩
try dsimp-beta-proj-iota-zeta-eta only[wishK,cxK]
refine⟨_,rfl,l,rfl,⟨us,hl⟩,?_⟩
refine v4 (K:=K) (xs:=us) (λi σ' H2=>∃y,σ'=[some (.ref r),some (.ref va),some (.ref l),some (.int pg),some (.int nw),y]∧H2=H∧∀j,∀hj:j<ts.length,j<i→¬f ts[j] <f A) ⟨_,rfl,rfl,λj _ z=>absurd z (aN _)⟩ (λi σ' H2 hi hp=>?_) (λi x σ' H2 hx hp=>?_) (λσ' H2 hp=>?_)
·obtain⟨y,rfl,rfl,_⟩:=hp;exact hl
·obtain⟨y,rfl,rfl,hm⟩:=hp;obtain⟨O,hO,ho⟩:=Paired.at hts hx;obtain⟨xa,rfl,hxa⟩:=id ho;have hi:i<ts.length:=(kE.mp hO).1;obtain rfl:ts[i]=O:=(kE.mp hO).2;have ok:(ts[i]).Ok pg nw:=os _ (gW hi);refine⟨_,rfl,_,rfl,xa,va,(ts[i]).ns,A.ns,rfl,rfl,SqT.of hxa,SqT.of hva,rfl,_,rfl,?_⟩;by_cases e:(ts[i]).ns=A.ns
 ·rw[hG e];refine iteF (iteF ⟨_,rfl,rfl,λj hj z=>?_⟩);by_cases ej:j=i
  ·subst ej;rw[Tl.eq_of e];exact Int.lt_irrefl _
  exact hm j hj (by lia)
 rw[h9 e];refine iteT ?_;refine⟨λv' H'=>v'=.bl (decide (f ts[i] <f A))∧H'=H2,?_,?_⟩
 ·rcases hR with⟨dx,hins,rfl⟩|⟨dx,hins,rfl⟩|⟨dx,hins,rfl⟩|⟨dx,many,hins,rfl,mm⟩
  ·exact .inl ⟨_,rfl,r,dx,_,rfl,hins,rfl,_,rfl,_,rfl,_,rfl,_,rfl,_,_,_,_,_,rfl,rfl,rfl⟩
  ·exact .inr (.inl ⟨_,rfl,r,dx,_,rfl,hins,rfl,_,rfl,_,rfl,_,rfl,_,rfl,_,_,_,_,_,ts[i],A,rfl,ho,hv,rfl,rfl⟩)
  ·exact .inr (.inr (.inl ⟨_,rfl,r,dx,_,rfl,hins,rfl,_,rfl,_,rfl,_,rfl,_,rfl,_,_,_,_,_,ts[i],A,rfl,ho,hv,rfl,rfl⟩))
  refine .inr (.inr (.inr (⟨_,rfl,r,dx,_,rfl,hins,rfl,_,rfl,_,rfl,_,rfl,_,rfl,_,_,_,pg,nw,ts[i],A,rfl,ho,hv,ok,oa,hpg,?_,rfl⟩)));exact dE V.bl (decide_eq_decide.mpr (qCG mm ok oa))
 rintro v' H' ⟨rfl,rfl⟩
 refine⟨_,rfl,?_⟩;by_cases g:f ts[i] <f A
 ·rw[hG g];refine iteT ?_;have z:unb f ts A=false:=by
   cases z:unb f ts A with
   |false=>rfl
   |true=>exact absurd (q4R.mp z _ (gW hi)) (by lia)
  rw[z]at q;exact q
 rw[h9 g];refine iteF ⟨_,rfl,rfl,λj hj z=>?_⟩;by_cases ej:j=i
 ·subst ej;exact g
 exact hm j hj (by lia)
obtain⟨y,rfl,rfl,hm⟩:=hp
have z:unb f ts A=true:=q4R.mpr λo ho=>by obtain⟨j,hj,rfl⟩:=cH ho;have:=hm j hj (by lia);lia
rw[z]at q
exact q)
noncomputable def spFu(t:Adr)(K:W.Frag):Sp:=λvs H Q _=>∃r l pg nw us ts f,vs=[.ref r,.ref l,.int pg,.int nw]∧RuAt t H r pg nw f∧SqL K H l us∧Tls H us ts∧(∀o∈ts,o.Ok pg nw)∧pg≤16∧ts≠[]∧Q (.int (pk f ts)) H
theorem q3K(T:Txt K mg t)(S:Fns K t):S.iO.Ok0 P w mg base 3 (spFu t K):=by(
refine S.iO.F.ok0 uR λcdv A _ s H vs Q E hr h=>?_
obtain⟨r,l,pg,nw,us,ts,f,rfl,hR,hl,hts,os,hpg,hne,q⟩:=h
have hlen:=hts.len
obtain⟨i,hi,hu,hn⟩:=q5C f ts hne
have at':∀j,∀hj:j<ts.length,∃x,us[j]?=some x∧TlAt H x ts[j]:=λj hj=>by have e:us[j]?=some (us[j]'(by lia)):=kD (by lia);obtain⟨O,hO,ho⟩:=Paired.at hts e;obtain rfl:ts[j]=O:=(kE.mp hO).2;exact⟨_,e,ho⟩
refine⟨_,(qB (qV (i:=4) uR.nd rfl (Or.inl rfl) qG) (qB (q8H d8 (yD (jT (qR (q64 T S).mono hr rfl T.aAX T.aA4 S.tG.b .nil qK (qA (pv 0) (qA (jB jI (pv 1) (pv 4) (λ_ _=>rfl)) (qA (pv 1) (qA (pv 2) (qA (pv 3) qE)))))))) (qD (qH4 (i:=4) uR.nd rfl (Or.inl rfl) qG q4X))) (qD (qL (jB yA (jB jI (pv 1) (pv 4) (λ_ _=>rfl)) qG (λ_ _=>rfl)))))),?_⟩
try dsimp-beta-proj-iota-zeta-eta only[wishK,cxK]
refine⟨λm σ' H2=>H2=H∧∃p:Nat,σ'=[some (.ref r),some (.ref l),some (.int pg),some (.int nw),some (.int p)]∧p≤i∧m=i-p,⟨i,rfl,0,rfl,mQ _,rfl⟩,?_⟩
rintro m σ' H2 ⟨rfl,p,rfl,hpi,rfl⟩
obtain⟨x,hx,tx⟩:=at' p (by lia)
refine⟨_,rfl,_,rfl,_,rfl,l,us,p,x,rfl,rfl,hl,uH hx,_,rfl,_,rfl,_,rfl,r,x,l,pg,nw,ts[p],us,ts,f,rfl,hR,tx,hl,hts,os _ (gW _),os,hpg,?_⟩
by_cases e:p=i
·subst e;rw[hu];refine⟨_,rfl,iteF ?_⟩;obtain⟨xa,rfl,hxa⟩:=tx;refine⟨_,rfl,_,rfl,l,us,p,_,rfl,rfl,hl,uH hx,iT (k:=0) (v:=_) (SqT.of hxa) rfl ?_⟩;rw[qGP hi hu hn]at q;exact q
rw[hn p (by lia)]
refine⟨_,rfl,iteT ⟨_,λ_ _ z=>z,?_⟩⟩
exact⟨_,rfl,iI ⟨i-(p+1),by lia,rfl,p+1,rfl,by lia,rfl⟩⟩)
theorem uS(T:Txt K mg t)(S:Fns K t):S.fK.Ok0 P w mg base 4 (spFu t K):=by(
refine S.fK.F.ok0 q5T λcdv A _ s H vs Q E hr h=>?_
obtain⟨r,l,pg,nw,us,ts,f,rfl,z⟩:=h
refine⟨_,(qD (qL (qR (q3K T S).mono hr rfl T.t6 T.tS S.iO.b .nil qK (qA (pv 0) (qA (pv 1) (qA (pv 2) (qA (pv 3) qE))))))),?_⟩
try dsimp-beta-proj-iota-zeta-eta only[wishK,cxK]
exact⟨_,rfl,_,rfl,_,rfl,_,rfl,r,l,pg,nw,us,ts,f,rfl,z⟩)
theorem qBO{H:Hp}{m:CM}{q:QM}:∀{rs:List V} {L:List Nat},Tys H m q rs L→Tls H rs (L.map (tlOf m q))
|_,_,.nil=>.nil
|_,_,.cons ⟨p,e,h⟩ r=>.cons ⟨p,e,h⟩ (qBO r)
noncomputable def mnC:Int:=144403552893600
theorem qJ0{pg:Int}(p1:1≤pg)(p2:pg≤16):Mny pg mnC:=by(
refine⟨p1,by decide,λj j0 j1=>?_⟩
have key:∀n:Nat,n<33→0<n→n ∣ 144403552893600:=by decide+kernel
have:=key (pg+j).toNat (by lia) (by lia)
rw[show pg+j=(((pg+j).toNat:Nat):Int) by lia]
exact Int.natCast_dvd_natCast.mpr this)
noncomputable def RuX(t:Adr)(H:Hp)(r:Addr)(rl:List Addr):Rl→Prop
| .rk f=>(∃dx,H r=some (.ins t.C_Rule dx [])∧f=λ_ _ _=>0)∨(∃dx,H r=some (.ins t.C_Fewest dx [])∧f=λ_ _=>Tl.lv)∨(∃dx,H r=some (.ins t.C_Eldest dx [])∧f=λ_ _=>Tl.bo)∨(∃dx,H r=some (.ins t.C_Worth dx [])∧f=λpg nw=>rkW pg nw mnC)
|_=>False
theorem RuX.ok{H:Hp}{r:Addr}{rl:List Addr}{g:Rl}(h:RuX t H r rl g):g.Ok:=by(
cases g with
|rk f=>trivial
|win m=>exact h.elim
|fol row u=>exact h.elim)
theorem RuX.map{H H':Hp}{r:Addr}{rl:List Addr}{g:Rl}(h:RuX t H r rl g)(h1:∀y∈r::rl,∀o,H y=some o→H' y=some o):RuX t H' r rl g:=by(
have h2:=h1
have h1:=h1 r kZ
cases g with
|rk f=>
 rcases h with⟨dx,a,b⟩|⟨dx,a,b⟩|⟨dx,a,b⟩|⟨dx,a,b⟩
 ·exact .inl ⟨dx,h1 _ a,b⟩
 ·exact .inr (.inl ⟨dx,h1 _ a,b⟩)
 ·exact .inr (.inr (.inl ⟨dx,h1 _ a,b⟩))
 exact .inr (.inr (.inr (⟨dx,h1 _ a,b⟩)))
|win m=>exact h.elim
|fol row u=>exact h.elim)
theorem RuX.keep{H H':Hp}{r:Addr}{rl:List Addr}{F:List Addr}{g:Rl}(h:RuX t H r rl g)(k:Keep F H H')(n:∀y∈r::rl,y∉F):RuX t H' r rl g:=h.map λy hy o e=>k.k _ _ (n y hy) e
theorem RuX.ins{H:Hp}{r:Addr}{rl:List Addr}{g:Rl}(h:RuX t H r rl g):∃C d fs,H r=some (.ins C d fs):=by(
cases g with
|rk f=>
 rcases h with⟨dx,a,b⟩|⟨dx,a,b⟩|⟨dx,a,b⟩|⟨dx,a,b⟩
 ·exact⟨_,_,_,a⟩
 ·exact⟨_,_,_,a⟩
 ·exact⟨_,_,_,a⟩
 exact⟨_,_,_,a⟩
|win m=>exact h.elim
|fol row u=>exact h.elim)
inductive spCr(t:Adr)(K:W.Frag)(vs:List V)(H:Hp)(Q:VK)(E_:XK):Prop
|mk:∀x r2 r3 r4 r5 m q r rl g op rs ts,vs=[.ref x.s,.ref op]→StAt t H x r2 r3 r4 r5 m q→Fit m q→x.ru=.ref r→RuX t H r rl g→H op=some (.lst rs)→Tls H rs ts→ts≠[]→ts.length≤16→(∀o∈ts,o.Ok (q.P:Int) q.nx)→(∀a∈ts,∀c∈ts,a.b=c.b→a=c)→(∀p H',Keep [r] H H'→RuX t H' r rl (g.ch (q.P:Int) q.nx ts).2→H' p=some (.tup [.str "rule",.int (g.ch (q.P:Int) q.nx ts).1])→Q (.ref p) H')→spCr t K vs H Q E_
theorem q04(T:Txt K mg t)(S:Fns K t):S.eQ.Ok0 P w mg base 5 (spCr t K):=by(
refine S.eQ.F.ok0 zZ λcdv A _ s H vs Q E hr h=>?_
obtain⟨x,r2,r3,r4,r5,m,q,r,rl,g,op,rs,ts,rfl,hs,ft,er,hR,hop,tl,ne,l16,ok,unl,k⟩:=h
have eP:=ft.eP
have p1:=ft.oq.p1
have p2:=ft.oq.p2
have te:=hs.te
rw[eP]at te
refine⟨_,(qD (qL (vW (qA q3M (qA (q3S (qY (qJ (pv 0) rfl) T.aCS T.aBN (uS T S).mono hr S.fK.b .nil qK (qA (pv 1) (qA (qJ (qJ (pv 0) rfl) rfl) (qA (qJ (qJ (pv 0) rfl) rfl) qE)))) (q3S (qY (qJ (pv 0) rfl) T.aBR T.aAN (uS T S).mono hr S.fK.b .nil qK (qA (pv 1) (qA (qJ (qJ (pv 0) rfl) rfl) (qA (qJ (qJ (pv 0) rfl) rfl) qE)))) (q3S (qY (qJ (pv 0) rfl) T.aBX T.aAR (uS T S).mono hr S.fK.b .nil qK (qA (pv 1) (qA (qJ (qJ (pv 0) rfl) rfl) (qA (qJ (qJ (pv 0) rfl) rfl) qE)))) (qY (qJ (pv 0) rfl) T.aCK T.aAZ (uS T S).mono hr S.fK.b .nil qK (qA (pv 1) (qA (qJ (qJ (pv 0) rfl) rfl) (qA (qJ (qJ (pv 0) rfl) rfl) qE))))))) qE))))),?_⟩
try dsimp-beta-proj-iota-zeta-eta only[wishK,cxK]
cases g with
|rk f=>
 have sz2:2≤sizeLine:=by decide
 rcases id hR with⟨dx,hins,rfl⟩|⟨dx,hins,rfl⟩|⟨dx,hins,rfl⟩|⟨dx,hins,rfl⟩
 ·exact .inl (iV rfl (iF hs.o T.bN T.fG rfl ⟨r,dx,_,er,hins,rfl,_,rfl,iV rfl (iF hs.o T.bN T.bR rfl (iF te T.bU T.bT rfl (iV rfl (iF hs.o T.bN T.bQ rfl (iF hs.bk.o T.bS T.b8 rfl ⟨r,op,_,_,rs,ts,_,(by rw[er];rfl),.inl ⟨dx,hins,rfl⟩,SqL.of hop,tl,ok,by lia,ne,sz2,λp H2 n2 s2 e2=>k p H2 (Keep.same s2) (hR.keep (Keep.same s2) (F:=[]) (by simp)) e2⟩)))))⟩))
 ·exact .inr (.inl (iV rfl (iF hs.o T.bN T.fG rfl ⟨r,dx,_,er,hins,rfl,_,rfl,iV rfl (iF hs.o T.bN T.bR rfl (iF te T.bU T.bT rfl (iV rfl (iF hs.o T.bN T.bQ rfl (iF hs.bk.o T.bS T.b8 rfl ⟨r,op,_,_,rs,ts,_,(by rw[er];rfl),.inr (.inl ⟨dx,hins,rfl⟩),SqL.of hop,tl,ok,by lia,ne,sz2,λp H2 n2 s2 e2=>k p H2 (Keep.same s2) (hR.keep (Keep.same s2) (F:=[]) (by simp)) e2⟩)))))⟩)))
 ·exact .inr (.inr (.inl (iV rfl (iF hs.o T.bN T.fG rfl ⟨r,dx,_,er,hins,rfl,_,rfl,iV rfl (iF hs.o T.bN T.bR rfl (iF te T.bU T.bT rfl (iV rfl (iF hs.o T.bN T.bQ rfl (iF hs.bk.o T.bS T.b8 rfl ⟨r,op,_,_,rs,ts,_,(by rw[er];rfl),.inr (.inr (.inl ⟨dx,hins,rfl⟩)),SqL.of hop,tl,ok,by lia,ne,sz2,λp H2 n2 s2 e2=>k p H2 (Keep.same s2) (hR.keep (Keep.same s2) (F:=[]) (by simp)) e2⟩)))))⟩))))
 exact .inr (.inr (.inr ((iV rfl (iF hs.o T.bN T.fG rfl ⟨r,dx,_,er,hins,rfl,_,rfl,iV rfl (iF hs.o T.bN T.bR rfl (iF te T.bU T.bT rfl (iV rfl (iF hs.o T.bN T.bQ rfl (iF hs.bk.o T.bS T.b8 rfl ⟨r,op,_,_,rs,ts,_,(by rw[er];rfl),.inr (.inr (.inr (⟨dx,_,hins,rfl,qJ0 (by lia) (by lia)⟩))),SqL.of hop,tl,ok,by lia,ne,sz2,λp H2 n2 s2 e2=>k p H2 (Keep.same s2) (hR.keep (Keep.same s2) (F:=[]) (by simp)) e2⟩)))))⟩)))))
|win m=>exact hR.elim
|fol row u=>exact hR.elim)
section
variable{H H':Hp}{x:Sto}{k:Tm}{sh sr:Int}{s:XS}{r:Addr}{rl:List Addr}{g:Rl}
theorem TbF.keepR(h:TbF t H){C d:Addr}{fs:List (Str×V)}(e:H r=some (.ins C d fs))(k:Keep [r] H H'):TbF t H':=by(
obtain⟨ps,hT,h⟩:=h
have ne:∀{b:Addr} {o:HO},H b=some o→(∀C d fs,o≠ .ins C d fs)→H' b=some o:=fun {b o} hb n=>k.k _ _ (λz=>by rw[kC.mp z,e]at hb;exact n _ _ _ (kW hb).symm) hb
refine⟨ps,ne hT (λ_ _ _ z=>by cases z),?_⟩
rcases h with h|⟨c,h,hc⟩
·exact .inl h
exact .inr ⟨c,h,ne hc (λ_ _ _ z=>by cases z)⟩)
noncomputable def Off(t:Adr)(x:Sto)(R:List Addr):Prop:=∀y∈[x.s,x.tm]++(x.a.li::t.bM::sf x),y∉R
theorem Off.n{R:List Addr}(o:Off t x R){y:Addr}(hy:y∈R):y∉t.bM::sf x:=λz=>o y (by simp at z ⊢;rcases z with z|z<;>simp[z]) hy
theorem XR.kR(j:XR t H x k sh sr s)(o:Off t x (r::rl))(kk:Keep [r] H H')(hR:RuX t H r rl g):XR t H' x k sh sr s:=by(
obtain⟨C,d,fs,e⟩:=hR.ins
refine j.keep kk (λy hy z=>o y ?_ (by rw[kC.mp z];exact kZ)) (j.tb.keepR e kk)
have hy:y=x.s∨y=x.tm∨y=x.a.li∨y∈sf x:=by simpa using hy
rcases hy with h|h|h|h<;>simp[h])
theorem XR.opts(j:XR t H x k sh sr s)(ev:k.ev=false){Q:VK}{E:XK}(kk:∀p rs H',H p=none→XR t H' x k sh sr s→Keep [t.bM] H H'→H' p=some (.lst rs)→Tls H' rs (s.ots k)→Q (.ref p) H'):spOp t [.ref x.s] H Q E:=by(
obtain⟨m,hs,c,_⟩:=j.e
refine⟨x,_,_,_,m,s.q,_,rfl,hs,c.ft,λl p rs H' hl np k1 tb1 h1 ty=>kk p rs H' np (j.kT k1 tb1) k1 h1 ?_⟩
have ty:=qBO ty
rw[c.br,c.cl]at hl
rw[qE7 j.w c.br hl,qJY c.cl]at ty
unfold XS.ots XS.opt
rw[ev]
exact ty)
theorem q05{H H':Hp}{F:List Addr}(k:Keep F H H'):∀{rs:List V} {ts:List Tl},Tls H rs ts→Tls H' rs ts
|_,_,.nil=>.nil
|_,_,.cons ⟨p,e,h⟩ r=>.cons ⟨p,e,k.tp _ _ h⟩ (q05 k r)
end
inductive spCh(t:Adr)(vs:List V)(H:Hp)(Q:VK)(E:XK):Prop
|mk:∀x k sh sr s r rl g,vs=[.ref x.s]→XR t H x k sh sr s→k.ev=false→x.ru=.ref r→RuX t H r rl g→Off t x (r::rl)→s.rc.length<1000000→(match s.tk k g with
|none=>∀H',XR t H' x k sh sr s→Keep [t.bM] H H'→E (.ref t.C_NoRoom) none H'
|some (y,b,g')=>∀p H',Keep [t.bM,r] H H'→XR t H' x k sh sr s→RuX t H' r rl g'→H' p=some (.tup [.str y,.int (b:Int)])→Q (.ref p) H')→spCh t vs H Q E
theorem q4K(T:Txt K mg t)(S:Fns K t)(B:BmIn base mg):S.i9.OkE P w mg base 13 (spCh t):=by(
refine S.i9.F.okE q0T (λvs H Q E h=>?_) (λcdv A outer s H vs Q E hr h=>?_)
·repeat obtain⟨_,h⟩:=h
 all_goals subst_vars;rfl
obtain⟨x,k,sh,sr,s,r,rl,g,rfl,j,ev,er,hR,of,rc,kk⟩:=h
refine⟨_,(qB (qV (i:=1) q0T.nd rfl (Or.inl rfl) (qW (pv 0) T.bN T.oM (q03 T S B).mono hr S.fS.b .nil qK)) (qB (jC (qT (q9Y hr.units) (pv 1) (y7 qE) (qS _)) (qD (q56 j8 rfl rfl T.aCR T.aC3 (qA q3M qE))) qP) (qD (qL (qY (pv 0) T.bN T.i4 (q04 T S).mono hr S.eQ.b .nil qK (qA (pv 1) qE)))))),?_⟩
try dsimp-beta-proj-iota-zeta-eta only[wishK,cxK]
refine(iV rfl (iM j.o rfl ?_))
dsimp only[tNil,d5]
refine j.opts ev λp rs H1 np j1 k1 h1 ty=>?_
refine⟨_,rfl,sz0,λe6 H6 n6 s6 h6=>⟨p,_,e6,rfl,rfl,SqL.of (s6 _ _ h1),SqL.of h6,_,rfl,?_⟩⟩
have k6:Keep [t.bM] H H6:=k1.trans (Keep.same s6)
have j6:=j1.same s6
have ln:=ty.len
unfold XS.tk at kk
cases rs with
|nil=>have e0:s.opt k=[]:=sD.mp (List.eq_nil_of_length_eq_zero ln.symm);rw[hU e0,ev,hC (by decide)]at kk;exact iteT ⟨sz1,kk H6 j6 k6⟩
|cons u us=>
 have ne:s.opt k≠[]:=λz=>by unfold XS.ots at ln;rw[z]at ln;cases ln
 rw[hC ne]at kk;refine iteF ?_;obtain⟨m,hs6,c,_⟩:=j6.e;have oT:=of t.bM (by simp);have hR6:=hR.keep k6 (λy hy z=>oT (by rw[←kC.mp z];exact hy));have ne':s.ots k≠[]:=λz=>ne (sD.mp z);have okT:∀o∈s.ots k,o.Ok (s.q.P:Int) s.q.nx:=λo ho=>by obtain⟨b,hb,rfl⟩:=kO.mp ho;exact qJZ j.w rc (v3.mp hb).1.1.b
 refine(iV rfl (iM hs6.o rfl ⟨_,rfl,x,_,_,_,_,m,s.q,r,rl,g,p,_,_,rfl,hs6,c.ft,er,hR6,s6 _ _ h1,ty.same s6,ne',by unfold XS.ots;rw[hX];exact qIR j.w,okT,qG5,λpp H7 k7 hR7 h7=>?_⟩));have cm:=qE9 (pg:=(s.q.P:Int)) (nw:=s.q.nx) hR.ok ne';refine kk pp H7 ((k6.mono (by simp)).trans (k7.mono (by simp))) (j6.kR of k7 hR6) hR7 ?_;rw[h7];obtain⟨b,hb,e⟩:=kO.mp cm;obtain⟨c',_,rfl⟩:=kO.mp hb;have e:(c':Int)=(g.ch (s.q.P:Int) s.q.nx (s.ots k)).1:=e;rw[←e,mM])
inductive spPp(K:W.Frag)(vs:List V)(H:Hp)(Q:VK)(E_:XK):Prop
|mk:∀wy bl wi l1 l2 rs us,vs=[wy,.ref l1,bl,.ref l2,wi]→H l1=some (.lst rs)→H l2=some (.lst us)→(∀pa a1 a2 H',Same H H'→H pa=none→H a1=none→H a2=none→H' pa=some (.tup [wy,.ref a1,bl,.ref a2,wi])→H' a1=some (.lst rs)→H' a2=some (.lst us)→Q (.ref pa) H')→spPp K vs H Q E_
theorem q4A(T:Txt K mg t)(S:Fns K t):S.aAC.Ok0 P w mg base 1 (spPp K):=by(
refine S.aAC.F.ok0 q9D λcdv A _ s H vs Q E hr h=>?_
obtain⟨wy,bl,wi,l1,l2,rs,us,rfl,h1,h2,k⟩:=h
refine⟨_,(qD (qL (vW (qA (pv 0) (qA (q6T q2F (by rfl) T.aDB (by kernel_rfl) (qA (pv 1) qE)) (qA (pv 2) (qA (q6T q2F (by rfl) T.aDB (by kernel_rfl) (qA (pv 3) qE)) (qA (pv 4) qE)))))))),?_⟩
try dsimp-beta-proj-iota-zeta-eta only[wishK,cxK]
refine⟨_,rfl,_,rfl,l1,rs,rfl,.inl (SqL.of h1),λa1 H1 n1 s1 e1=>?_⟩
refine⟨_,rfl,_,rfl,l2,us,rfl,.inl (SqL.of (s1 _ _ h2)),λa2 H2 n2 s2 e2=>?_⟩
refine⟨_,rfl,sz5,λpa H3 n3 s3 e3=>?_⟩
exact k pa a1 a2 H3 ((s1.trans s2).trans s3) ((s1.trans s2).free n3) n1 (s1.free n2) e3 (s3 _ _ (s2 _ _ e1)) (s3 _ _ e2))
theorem qJ1{k:Tm}{s:XS}{b:Nat}(w:WX k s):(lpK s.q.P b s.q.V).length<64:=by(
have p2:=w.qs.ok.p2
have nd:((s.q.V.filter λq=>decide (q.2 / (s.q.P:Int)=(b:Int))).map (·.2)).Nodup:=wU (nN _ wB) w.pd
have:=qB7 (m:=(List.range s.q.P).map λf=>((b*s.q.P+f:Nat):Int)) nd λy hy=>by
 obtain⟨q,hq,rfl⟩:=kO.mp hy;obtain⟨h1,h2⟩:=mG.mp hq;obtain⟨c,g,v,a1,a2,a3,_⟩:=w.vl q h1;have h2:=mF h2;rw[a3,←dX,jZ a2]at h2;have e:c=b:=by lia
 exact kO.mpr ⟨g,mK.mpr a2,by rw[a3,e]⟩
rw[hX,hX,gD]at this
unfold lpK
rw[hX]
lia)
theorem qGE{s:XS}{k:Tm}{b:Nat}{rs:List (List Int)}(w:WX k s)(pm:rs.Perm (lpK s.q.P b s.q.V))(so:rs.Pairwise λa b=>lx b a=false):rs=lvP s.q.P b s.q.V:=by(
refine qG4 w.qs.ok.p1 w.pd ?_ (λkk=>?_) so
·refine pm.nodup_iff.mpr ?_;unfold lpK;refine dB.mpr (((dB.mp w.qs.ok.nd).imp fun {a c} hne z=>hne ?_).filter _);injection z with _ z
 injection z with z _
rw[pm.mem_iff]
unfold lpK
rw[kO]
constructor
·rintro⟨y,hy,rfl⟩
 obtain⟨a1,a2⟩:=mG.mp hy;exact⟨y.1,y.2,rfl,a1,mF a2⟩
rintro⟨n,p,rfl,a1,a2⟩
exact⟨(n,p),mG.mpr ⟨a1,hG a2⟩,rfl⟩)
inductive spMv(t:Adr)(vs:List V)(H:Hp)(Q:VK)(E:XK):Prop
|mk:∀x k sh sr s,∀b:Nat,vs=[.ref x.s,.int (b:Int)]→XR t H x k sh sr s→Full k s b→s.rc.length+100<1000000→(match XS.mvs (lvP s.q.P b s.q.V) s with
|(s',none)=>∀H',XR t H' x k sh sr s'→Keep (t.bM::sf x) H H'→E (.ref t.C_PowerGone) none H'
|(s',some ms)=>∀ml us H',XR t H' x k sh sr s'→H ml=none→H' ml=some (.lst us)→Paired (TupD H') us ms→Mvd k s b s' (lvP s.q.P b s.q.V).length→(∀y∈s'.q.V,¬y.2 / (s'.q.P:Int)=(b:Int))→Keep (t.bM::sf x) H H'→Q (.ref ml) H')→spMv t vs H Q E
theorem q65(T:Txt K mg t)(S:Fns K t)(B:BmIn base mg):S.tJ.OkE P w mg base 12 (spMv t):=by(
refine S.tJ.F.okE uQ (λvs H Q E h=>?_) (λcdv A outer s H vs Q E hr h=>?_)
·repeat obtain⟨_,h⟩:=h
 all_goals subst_vars;rfl
obtain⟨x,k,sh,sr,s,b,rfl,j,fl,rc,kk⟩:=h
have s9:(99999:Nat)<sizeLine:=by decide
have spR:=fl.sp j.w
have l6:=j.w.l6
refine⟨_,(qB (qV (i:=2) uQ.nd rfl (Or.inl rfl) (y7 qE)) (qB (vJ wY rfl (yE (qY (qJ (pv 0) rfl) T.bS T.tR (q30 T S).mono hr S.fX.b .nil qK (qA (pv 1) qE))) (q9Q rfl (yZ (j9 (i:=3) uQ.nd rfl (Or.inl rfl)) (yZ (j9 (i:=4) uQ.nd rfl (Or.inl rfl)) q4L))) (qD (qU (qCZ cX cM cN q1V (pv 2) (qA (vW (qA (pv 4) (qA (pv 3) (qA (jJ j8 (pv 0) T.bN T.tI (q0Q T S B).mono hr S.oI.b .nil (qA (pv 4) (qA (jJ j8 (pv 0) T.bN T.oA (q0R T S).mono hr S.eZ.b .nil (qA (pv 3) (qA (pv 4) qE))) qE))) qE)))) qE q57))))) (qD (qL (pv 2))))),?_⟩
try dsimp-beta-proj-iota-zeta-eta only[wishK,cxK]
refine⟨sz0,λml H1 n1 s1 h1=>?_⟩
obtain⟨m,hs1,c,_⟩:=(j.same s1).e
refine(iV rfl (iF hs1.o T.bN T.bQ rfl (iM hs1.bk.o rfl ⟨_,rfl,x.k,s.q,b,rfl,hs1.bk,j.w.qs.ok,qJ1 j.w,λll ps rs H2 s2 n2 h2 pr2 pm so=>?_⟩)))
obtain rfl:=qGE j.w pm so
have s02:=s1.trans s2
have mlF:=j.off n1
have llF:=(j.same s1).off n2
have llm:ll≠ml:=(qI h1 n2).symm
have lps:=pr2.len
have lr:(lvP s.q.P b s.q.V).length≤16:=by have:=j.w.qs.ok.p2;unfold lvP;refine mD (d3 _ _) ?_;rw[gD];exact this
refine⟨ll,rfl,⟨_,SqL.of h2⟩,?_⟩
refine v4 (K:=K) (xs:=ps) (λi σ' H'=>∃y3 y4 us s' ms,σ'=[some (.ref x.s),some (.int (b:Int)),some (.ref ml),y3,y4]∧XR t H' x k sh sr s'∧MvI k s b (lvP s.q.P b s.q.V) i s' ms∧H' ml=some (.lst us)∧Paired (TupD H') us ms∧Keep (ml::t.bM::sf x) H2 H') ⟨_,_,[],s,[],rfl,j.same s02,MvI.zero j.w fl.f,s2 _ _ h1,.nil,Keep.refl⟩ (λi σ' H' hi hp=>?_) (λi v σ' H' hv hp=>?_) (λσ' H' hp=>?_)
·obtain⟨y3,y4,us,s',ms,rfl,j',mi,hml,pr,kk'⟩:=hp;refine SqL.of (kk'.k _ _ (λz=>?_) h2);rcases kI.mp z with e|e
 ·exact llm e
 exact llF e
·obtain⟨y3,y4,us,s',ms,rfl,j',mi,hml,pr,kk'⟩:=hp;obtain⟨kv,hk,tp,rfl,htp⟩:=Paired.at pr2 hv;obtain⟨hi,ekv⟩:=kE.mp hk;obtain⟨n,p,er,hnp,n0,n64⟩:=mi.at hi;rw[er]at ekv;subst ekv;have htp':=kk'.tp _ _ htp;have rce:=mi.rc;have rme:=mi.rm;have kH:∀{G},Keep (t.bM::sf x) H' G→Keep (t.bM::sf x) H G:=fun {G} kG=>by
  refine⟨λy o ny e=>kG.k y o ny (kk'.k y o (λz=>?_) (s02 _ _ e)),λy ys e=>kG.tp _ _ (kk'.tp _ _ (s02 _ _ e))⟩;rcases kI.mp z with z|z
  ·rw[z,n1]at e;cases e
  exact ny z
 refine⟨tp,_,rfl,SqT.of htp',rfl,_,_,rfl,_,_,rfl,rfl,?_⟩;refine⟨_,rfl,.inl ⟨rfl,_,SqL.of hml⟩,_,rfl,_,rfl,iV rfl (iM j'.o rfl ⟨_,rfl,iV rfl (iM j'.o rfl ⟨_,rfl,_,rfl,x,k,sh,sr,s',n,p,rfl,j',hnp,λdk=>?_,λH3 s3=>?_⟩)⟩)⟩
 ·rw[mi.dark hi dk]at kk;exact kk H' j' (kH Keep.refl)
 dsimp only[tNil,pP,d5,dG];have hml3:=s3 _ _ hml;refine(j'.same s3).set n0 n64 (by lia) (by rw[mi.eP];lia) (.inl ⟨p,hnp⟩) (λdk H5 j5 k5=>?_) (λdk H5 j5 k5=>?_)
 ·rw[mi.dark hi dk]at kk;exact kk H5 j5 (kH ((Keep.same s3).trans k5))
 have hml5:=k5.k _ _ mlF hml3;refine⟨sz3,λtu H6 n6 s6 h6=>⟨ml,us,_,rfl,rfl,s6 _ _ hml5,by have:=pr.len;have:=mi.l;lia,?_⟩⟩;have hml6:=s6 _ _ hml5;have k7:=Keep.upd (F:=[ml]) (o:=.lst (us++[.ref tu])) hml6 (λ_ z=>by cases z) (by simp);have hml7:(upd H6 ml (.lst (us++[.ref tu]))) ml=_:=qH;have j7:=(j5.same s6).lst (o:=.lst (us++[.ref tu])) hml6 mlF;generalize upd H6 ml (.lst (us++[.ref tu]))=H7 at k7 hml7 j7 ⊢;have kA:Keep (ml::t.bM::sf x) H' H7:=(((Keep.same s3).trans (k5.mono (λy hy=>hV _ hy))).trans (Keep.same s6)).trans (k7.mono (by simp));exact⟨some (.int p),some (.int n),us++[.ref tu],_,_,rfl,j7,mi.step q5L hi spR dk er,hml7,L2.Paired.snoc (Paired.mapP pr λv d ⟨p',e',h'⟩=>⟨p',e',kA.tp _ _ h'⟩) ⟨tu,rfl,k7.tp _ _ h6⟩,kk'.trans kA⟩
obtain⟨y3,y4,us,s',ms,rfl,j',mi,hml,pr,kk'⟩:=hp
rw[lps]at mi
obtain⟨e,nl⟩:=mi.fin rfl
rw[e]at kk
have kH:Keep (t.bM::sf x) H H':=by
 refine⟨λy o ny e=>kk'.k y o (λz=>?_) (s02 _ _ e),λy ys e=>kk'.tp _ _ (s02 _ _ e)⟩;rcases kI.mp z with z|z
 ·rw[z,n1]at e;cases e
 exact ny z
exact⟨_,rfl,kk ml us H' j' n1 hml pr (mi.mvd (kJ _)) nl kH⟩)
noncomputable abbrev fx(t:Adr)(x:Sto)(r pp:Addr):List Addr:=pp::r::t.bM::sf x
noncomputable def PapA(H:Hp)(F:List Addr)(v:V)(p:Pa):Prop:=∃pa l1 l2 us rs,v=.ref pa∧H pa=some (.tup [.str p.why,.ref l1,.int (p.b:Int),.ref l2,.bl true])∧H l1=some (.lst rs)∧Tls H rs p.ts∧H l2=some (.lst us)∧Paired (TupD H) us p.mv∧l1∉F∧l2∉F
theorem PapA.keep{H H':Hp}{F G:List Addr}{v:V}{p:Pa}(h:PapA H F v p)(k:Keep G H H')(s:∀y∈G,y∈F):PapA H' F v p:=by obtain⟨pa,l1,l2,us,rs,e,a,b,c,d,f,g1,g2⟩:=h;exact⟨pa,l1,l2,us,rs,e,k.tp _ _ a,k.k _ _ (λz=>g1 (s _ z)) b,q05 k c,k.k _ _ (λz=>g2 (s _ z)) d,Paired.mapP f λv d ⟨p',e',h'⟩=>⟨p',e',k.tp _ _ h'⟩,g1,g2⟩
structure XX(t:Adr)(H:Hp)(x:Sto)(k:Tm)(sh sr:Int)(r:Addr)(rl:List Addr)(pp:Addr)(X:Sx):Prop where
j:XR t H x k sh sr X.s
er:x.ru=.ref r
ru:RuX t H r rl X.g
of:Off t x (r::rl)
ep:x.pa=.ref pp
hp:∃ps,H pp=some (.lst ps)∧Paired (PapA H (fx t x r pp)) ps X.ps
np:pp∉t.bM::sf x
nr:pp∉r::rl
section
variable{H H':Hp}{x:Sto}{k:Tm}{sh sr:Int}{r:Addr}{rl:List Addr}{pp:Addr}{X:Sx}
theorem XX.kT(h:XX t H x k sh sr r rl pp X)(kk:Keep [t.bM] H H')(tb:TbF t H'):XX t H' x k sh sr r rl pp X:=by obtain⟨ps,h1,h2⟩:=h.hp;have oT:=h.of t.bM (by simp);exact⟨h.j.kT kk tb,h.er,h.ru.keep kk (λy hy z=>oT (by rw[←kC.mp z];exact hy)),h.of,h.ep,⟨ps,kk.k _ _ (λz=>h.np (by rw[kC.mp z];simp)) h1,Paired.mapP h2 λ_ _ z=>z.keep kk (by simp)⟩,h.np,h.nr⟩
theorem XX.same(h:XX t H x k sh sr r rl pp X)(s:Same H H'):XX t H' x k sh sr r rl pp X:=h.kT (Keep.same s) (h.j.tb.same s)
theorem XX.on(h:XX t H x k sh sr r rl pp X){s:XS}(kk:Keep (t.bM::sf x) H H')(j:XR t H' x k sh sr s):XX t H' x k sh sr r rl pp ⟨s,X.g,X.ps⟩:=by obtain⟨ps,h1,h2⟩:=h.hp;exact⟨j,h.er,h.ru.keep kk (λy hy=>h.of.n hy),h.of,h.ep,⟨ps,kk.k _ _ h.np h1,Paired.mapP h2 λ_ _ z=>z.keep kk (by intro y hy;simp at hy ⊢;rcases hy with e|e<;>simp[e])⟩,h.np,h.nr⟩
end
noncomputable def rfE(t:Adr)(e:Rf)(E:XK)(H:Hp):Prop:=match e with
| .dark=>E (.ref t.C_PowerGone) none H
| .room=>E (.ref t.C_NoRoom) none H
noncomputable def qK9(t:Adr):Sp:=λvs H Q E=>∃x k sh sr r rl pp X,vs=[.ref x.s]∧XX t H x k sh sr r rl pp X∧k.ev=false∧X.s.rc.length+200<1000000∧X.ps.length<90000∧(match X.room k with
|(Y,.error e)=>∀H',XX t H' x k sh sr r rl pp Y→Keep (fx t x r pp) H H'→rfE t e E H'
|(Y,.ok p)=>∀v H',XX t H' x k sh sr r rl pp Y→Keep (fx t x r pp) H H'→Q v H')
theorem q33(T:Txt K mg t)(S:Fns K t)(B:BmIn base mg):S.fY.OkE P w mg base 14 (qK9 t):=by(
refine S.fY.F.okE jV (λvs H Q E h=>?_) (λcdv A outer s H vs Q E hr h=>?_)
·repeat obtain⟨_,h⟩:=h
 all_goals subst_vars;rfl
obtain⟨x,k,sh,sr,r,rl,pp,X,rfl,h,ev,rc,lp,kk⟩:=h
have s9:(99999:Nat)<sizeLine:=by decide
refine⟨_,(qB (qV (i:=1) jV.nd rfl (Or.inl rfl) (qW (pv 0) T.bN T.oM (q03 T S B).mono hr S.fS.b .nil qK)) (qB (qV (i:=2) jV.nd rfl (Or.inl rfl) (uV j8 (pv 0) T.bN T.aAW (q4K T S B).mono hr S.i9.b .nil)) (qB (qV (i:=3) jV.nd rfl (Or.inl rfl) (jJ j8 (pv 0) T.bN T.aBB (q65 T S B).mono hr S.tJ.b .nil (qA (jB yA (pv 2) qG (λ_ _=>rfl)) qE))) (qB (qV (i:=4) jV.nd rfl (Or.inl rfl) (jJ j8 (pv 0) T.bN T.aBI (q62 T S).mono hr S.tF.b .nil (qA (jB yA (pv 2) qG (λ_ _=>rfl)) qE))) (qB (qU (qCZ cX cM cN q1V (qJ (pv 0) rfl) (qA (qR (q4A T S).mono hr rfl T.aAU T.aAH S.aAC.b .nil qK (qA (jB yA (pv 2) qG (λ_ _=>rfl)) (qA (pv 1) (qA (jB yA (pv 2) qG (λ_ _=>rfl)) (qA (pv 3) (qA (pv 4) qE)))))) qE))) (qD (qL (qR (q4A T S).mono hr rfl T.aAU T.aAH S.aAC.b .nil qK (qA (jB yA (pv 2) qG (λ_ _=>rfl)) (qA (pv 1) (qA (jB yA (pv 2) qG (λ_ _=>rfl)) (qA (pv 3) (qA (pv 4) qE))))))))))))),?_⟩
try dsimp-beta-proj-iota-zeta-eta only[wishK,cxK]
refine(iV rfl (iM h.j.o rfl ?_))
dsimp only[tNil,d5]
refine h.j.opts ev λop rs H1 np j1 k1 h1 ty=>?_
have h1':=h.kT k1 j1.tb
have mT:∀y∈[t.bM],y∈fx t x r pp:=by simp
refine(iV rfl (iM j1.o rfl ⟨x,k,sh,sr,X.s,r,rl,X.g,rfl,j1,ev,h.er,h1'.ru,h.of,by lia,?_⟩))
unfold Sx.room at kk
cases htk:X.s.tk k X.g with
|none=>rw[htk]at kk;exact λH2 j2 k2=>kk H2 (h1'.kT k2 j2.tb) ((k1.mono mT).trans (k2.mono mT))
|some ybg=>
 obtain⟨y,b,g'⟩:=ybg;rw[htk]at kk;have fb:=q3F h.ru.ok htk;refine λcp H2 k2 j2 hR2 h2=>?_;have m2:∀y∈[t.bM,r],y∈fx t x r pp:=by simp
 have mS:∀y∈t.bM::sf x,y∈fx t x r pp:=λy hy=>hV _ (hV _ hy);have k02:Keep (fx t x r pp) H H2:=(k1.mono mT).trans (k2.mono m2);have npr:pp∉r::t.bM::sf x:=λz=>(kI.mp z).elim (λe=>h.nr (by rw[e];exact kZ)) h.np;have np2:pp∉[t.bM,r]:=λz=>npr (by simp at z ⊢;rcases z with z|z<;>simp[z]);obtain⟨ps,hp0,hpp0⟩:=h.hp;have lps:=hpp0.len;have h2':XX t H2 x k sh sr r rl pp ⟨X.s,g',X.ps⟩:=⟨j2,h.er,hR2,h.of,h.ep,⟨ps,k2.k _ _ np2 (k1.k _ _ (λz=>h.np (by rw[kC.mp z];simp)) hp0),Paired.mapP hpp0 λ_ _ z=>(z.keep k1 mT).keep k2 m2⟩,h.np,h.nr⟩;have opn:=h.j.off np;obtain⟨C0,d0,f0,er0⟩:=h.ru.ins;have opr:op≠r:=λz=>by rw[z,er0]at np;cases np
 have opp:op≠pp:=λz=>by rw[z,hp0]at np;cases np
 have opH2:H2 op=some (.lst rs):=k2.k _ _ (λz=>by
  have z:op=t.bM∨op=r:=by simpa using z
  rcases z with z|z
  ·exact opn (by rw[z];simp)
  exact opr z) h1
 refine(iV rfl (iM j2.o rfl ⟨_,rfl,iT (k:=1) (v:=.int (b:Int)) (SqT.of h2) rfl ⟨x,k,sh,sr,X.s,b,rfl,j2,fb,by lia,?_⟩⟩));cases hmv:XS.mvs (lvP X.s.q.P b X.s.q.V) X.s with
 |mk s o=>
  dsimp only at kk;rw[hmv]at kk;cases o with
  |none=>exact λH3 j3 k3=>kk H3 (h2'.on k3 j3) (k02.trans (k3.mono mS))
  |some ms=>
   refine λml us H3 j3 nm hml prm md nl k3=>?_;dsimp only at kk;have h3:=k3.tp _ _ h2;have mrc:=md.rc;have l16:(lvP X.s.q.P b X.s.q.V).length≤16:=by have:=h.j.w.qs.ok.p2;unfold lvP;refine mD (d3 _ _) ?_;rw[gD];exact this
   refine(iV rfl (iM j3.o rfl ⟨_,rfl,iT (k:=1) (v:=.int (b:Int)) (SqT.of h3) rfl ⟨x,k,sh,sr,s,b,rfl,j3,by rw[md.eB];exact fb.b,by rw[md.eP];exact md.fb,by lia,nl,λdk=>?_,λdk H4 j4 k4=>⟨rfl,?_⟩⟩⟩))
   ·rw[hU dk]at kk;exact kk H3 (h2'.on k3 j3) (k02.trans (k3.mono mS))
   rw[hC dk]at kk;have k34:Keep (t.bM::sf x) H2 H4:=k3.trans k4;have h4x:=h2'.on k34 j4;obtain⟨ps4,hpp4,prp4⟩:=h4x.hp;have lps4:=prp4.len;have hR4:=h4x.ru;obtain⟨C4,d4,f4,er4⟩:=hR4.ins;have h4:=k34.tp _ _ h2;have hop4:=k34.k _ _ opn opH2;have mln:=j2.off nm;have hml4:=k4.k _ _ mln hml;have o4:=j4.o;rw[h.ep]at o4;refine(iV rfl (iF o4 T.bN T.eC rfl ⟨.inl ⟨rfl,_,SqL.of hpp4⟩,_,rfl,iT (k:=0) (v:=_) (SqT.of h4) rfl ⟨_,rfl,_,rfl,iT (k:=1) (v:=_) (SqT.of h4) rfl ⟨_,rfl,_,rfl,.str y,.int (b:Int),.bl true,op,ml,rs,us,rfl,hop4,hml4,λpa a1 a2 H5 s5 npa na1 na2 e5 e51 e52=>⟨pp,ps4,_,rfl,rfl,s5 _ _ hpp4,by simp only at lps4;lia,?_⟩⟩⟩⟩));have hpp5:=s5 _ _ hpp4;have k6:=Keep.upd (F:=[pp]) (o:=.lst (ps4++[.ref pa])) hpp5 (λ_ z=>by cases z) (by simp);have hpp6:(upd H5 pp (.lst (ps4++[.ref pa]))) pp=_:=qH;have j6:=(j4.same s5).lst (o:=.lst (ps4++[.ref pa])) hpp5 h.np;generalize upd H5 pp (.lst (ps4++[.ref pa]))=H6 at k6 hpp6 j6 ⊢;have m6:∀y∈[pp],y∈fx t x r pp:=by simp
   have npp:∀{y:Addr},H4 y=none→y∉[pp]:=fun {y} e z=>by rw[kC.mp z,hpp4]at e;cases e
   have inF:∀{y:Addr},H4 y=none→y∉fx t x r pp:=fun {y} e z=>by
    rcases kI.mp z with z|z
    ·rw[z,hpp4]at e;cases e
    rcases kI.mp z with z|z
    ·rw[z,er4]at e;cases e
    exact(j4.off e) z
   have opp6:op∉[pp]:=λz=>opp (kC.mp z);have mlp:ml∉[pp]:=λz=>by obtain⟨ps2,e2,_⟩:=h2'.hp;rw[kC.mp z,e2]at nm;cases nm
   refine⟨_,rfl,iT (k:=0) (v:=_) (SqT.of (k6.tp _ _ (s5 _ _ h4))) rfl ⟨_,rfl,_,rfl,iT (k:=1) (v:=_) (SqT.of (k6.tp _ _ (s5 _ _ h4))) rfl ⟨_,rfl,_,rfl,.str y,.int (b:Int),.bl true,op,ml,rs,us,rfl,k6.k _ _ opp6 (s5 _ _ hop4),k6.k _ _ mlp (s5 _ _ hml4),λpb c1 c2 H7 s7 npb nc1 nc2 e7 e71 e72=>?_⟩⟩⟩;have k47:Keep [pp] H4 H7:=((Keep.same s5).trans k6).trans (Keep.same s7);have k07:Keep (fx t x r pp) H H7:=(k02.trans (k34.mono mS)).trans (k47.mono m6);have ty7:Tls H7 rs (X.s.ots k):=q05 k47 (q05 k34 (q05 k2 ty));have prm7:Paired (TupD H7) us ms:=Paired.mapP prm λv d ⟨p',e',h'⟩=>⟨p',e',k47.tp _ _ (k4.tp _ _ h')⟩;exact kk (.ref pb) H7 ⟨j6.same s7,h.er,(hR4.keep k47 (λy hy z=>h.nr (by rw[←kC.mp z];exact hy))),h.of,h.ep,⟨ps4++[.ref pa],s7 _ _ hpp6,L2.Paired.snoc (Paired.mapP prp4 λ_ _ z=>z.keep k47 m6) ⟨pa,a1,a2,us,rs,rfl,s7 _ _ (k6.tp _ _ e5),s7 _ _ (k6.k _ _ (npp na1) e51),ty7,s7 _ _ (k6.k _ _ (npp na2) e52),prm7,inF na1,inF na2⟩⟩,h.np,h.nr⟩ k07)
noncomputable def spMr(t:Adr):Sp:=λvs H Q E=>∃x k sh sr r rl pp X,∃i Z,vs=[.ref x.s]∧XX t H x k sh sr r rl pp X∧k.ev=false∧X.s.rc.length+100*i+200<1000000∧X.ps.length+i<90000∧X.rooms k i=some Z∧(match Z with
|(Y,.error e)=>∀H',XX t H' x k sh sr r rl pp Y→Keep (fx t x r pp) H H'→rfE t e E H'
|(Y,.ok _)=>∀H',XX t H' x k sh sr r rl pp Y→Keep (fx t x r pp) H H'→Q .non H')
theorem q2B(T:Txt K mg t)(S:Fns K t)(B:BmIn base mg):S.fR.OkE P w mg base 15 (spMr t):=by(
refine S.fR.F.okE q27 (λvs H Q E h=>?_) (λcdv A outer s H vs Q E hr h=>?_)
·repeat obtain⟨_,h⟩:=h
 all_goals subst_vars;rfl
obtain⟨x,k,sh,sr,r,rl,pp,X,i,Z,rfl,h,ev,rc,lp,hZ,kk⟩:=h
refine⟨_,(qD (q8H wY (yD (jT (qW (pv 0) T.bN T.aBJ (q5Z T S B).mono hr S.tH.b .nil qK))) (qD (qU (uV j8 (pv 0) T.bN T.tX (q33 T S B).mono hr S.fY.b .nil))))),?_⟩
try dsimp-beta-proj-iota-zeta-eta only[wishK,cxK]
refine⟨λn σ' H2=>σ'=[some (.ref x.s)]∧∃Y,XX t H2 x k sh sr r rl pp Y∧Keep (fx t x r pp) H H2∧Y.rooms k n=some Z∧Y.s.rc.length+100*n+200<1000000∧Y.ps.length+n<90000,⟨i,rfl,X,h,Keep.refl,hZ,rc,lp⟩,?_⟩
rintro n σ' H2 ⟨rfl,Y,hY,k2,eY,rcY,lpY⟩
obtain⟨m,hs,c,_⟩:=hY.j.e
have mT:∀y∈[t.bM],y∈fx t x r pp:=by simp
refine(iV rfl (iM hs.o rfl ⟨x,_,_,_,m,Y.s.q,_,rfl,hs,c.ft,λl H3 hl k3 tb3=>⟨_,rfl,?_⟩⟩))
rw[c.br,c.cl]at hl
rw[c.br,qIQ hY.j.w hl]
have hY3:=hY.kT k3 tb3
have k03:=k2.trans (k3.mono mT)
cases n with
|zero=>
 unfold Sx.rooms at eY;cases z:Y.s.rd k with
 |false=>rw[z,hC (by decide)]at eY;cases eY
 |true=>rw[z,hU rfl]at eY;cases eY;exact iteF (kk H3 hY3 k03)
|succ n=>
 unfold Sx.rooms at eY;cases z:Y.s.rd k with
 |true=>rw[z,hU rfl]at eY;cases eY;exact iteF (kk H3 hY3 k03)
 |false=>
  rw[z,hC (by decide)]at eY;refine iteT ⟨_,λ_ _ z=>z,?_⟩;refine(iV rfl (iM hY3.j.o rfl ⟨x,k,sh,sr,r,rl,pp,Y,rfl,hY3,ev,by lia,by lia,?_⟩));cases hr':Y.room k with
  |mk W o=>
   rw[hr']at eY;cases o with
   |error e=>cases eY;exact λH4 h4 k4=>kk H4 h4 (k03.trans k4)
   |ok p=>obtain⟨r1,r2⟩:=qEB hY.j.w hY.ru.ok hr';exact λv H4 h4 k4=>⟨n,wC _,rfl,W,h4,k03.trans k4,eY,by lia,by lia⟩)
theorem vE(T:Txt K mg t)(S:Fns K t)(B:BmIn base mg):S.eU.OkE P w mg base 16 (spMr t):=by(
refine S.eU.F.okE q26 (λvs H Q E h=>?_) (λcdv A outer s H vs Q E hr h=>?_)
·repeat obtain⟨_,h⟩:=h
 all_goals subst_vars;rfl
obtain⟨x,k,sh,sr,r,rl,pp,X,i,Z,rfl,h⟩:=h
refine⟨_,(qD (qU (uV j8 (pv 0) T.bN T.tK (q2B T S B).mono hr S.fR.b .nil))),?_⟩
try dsimp-beta-proj-iota-zeta-eta only[wishK,cxK]
exact(iV rfl (iM h.1.j.o rfl ⟨x,k,sh,sr,r,rl,pp,X,i,Z,rfl,h⟩)))
inductive spPWr(t:Adr)(vs:List V)(H:Hp)(Q:VK)(E:XK):Prop
|mk:∀x k sh sr r rl pp X,∀n v:Int,∀i Z,vs=[.ref x.s,.int n,.int v]→XX t H x k sh sr r rl pp X→k.ev=false→X.s.rc.length+100*i+300<1000000→X.ps.length+i<90000→sh≤64→inB (.int n) 0 (sh-1)=true→inB (.int v) 0 (10 ^ 30-1)=true→(hold X.s.q n=false∧sr≤((hdN X.s.q.V).length:Int)→∀H',Same H H'→E (.ref t.C_Full) none H')→(¬(hold X.s.q n=false∧sr≤((hdN X.s.q.V).length:Int))→((∃p,(n,p)∈X.s.q.V)∨X.s.q.V.length<65)∧X.ask k i n v=some Z∧(match Z with
|(Y,.error e)=>∀H',XX t H' x k sh sr r rl pp Y→Keep (fx t x r pp) H H'→rfE t e E H'
|(Y,.ok p)=>∀H',XX t H' x k sh sr r rl pp Y→Keep (fx t x r pp) H H'→Q (.int (p:Int)) H'))→spPWr t vs H Q E
theorem XX.lay{H H2:Hp}{x:Sto}{k:Tm}{sh sr:Int}{r:Addr}{rl:List Addr}{pp:Addr}{X Y:Sx}{i:Nat}{n v:Int}{Z:Sx×Except Rf Nat}(h:XX t H x k sh sr r rl pp X)(rc:X.s.rc.length+100*i+300<1000000)(hl:(∃p,(n,p)∈X.s.q.V)∨X.s.q.V.length<65)(hZ:X.ask k i n v=some Z)(hY:X.rooms k i=some (Y,.ok ()))(n0:0≤n)(n1:n≤64)(h2:XX t H2 x k sh sr r rl pp Y){Q:VK}{E:XK}
 (kk:match Z with
  |(Y,.error e)=>∀H',XX t H' x k sh sr r rl pp Y→Keep (t.bM::sf x) H2 H'→rfE t e E H'
  |(Y,.ok p)=>∀H',XX t H' x k sh sr r rl pp Y→Keep (t.bM::sf x) H2 H'→Q (.int (p:Int)) H'):qBL t [.ref x.s,.int n,.int v] H2 Q E:=by(
obtain⟨_,_,kp,r1,_,rd⟩:=q23 h.j.w h.ru.ok hY
have rd:=mF (rd rfl)
rw[rG,rH]at rd
unfold Sx.ask at hZ
rw[hY]at hZ
dsimp only at hZ
refine h2.j.set n0 n1 (by lia) (by lia) ?_ (λdk H' j' k'=>?_) (λdk H' j' k'=>?_)
·rw[kp.lV];exact hl.imp (λz=>(kp.nm n).mpr z) id
·rw[hU dk]at hZ;cases hZ;exact kk H' (h2.on k' j') k'
rw[hC dk]at hZ
cases hZ
exact kk H' (h2.on k' j') k')
theorem q1R(T:Txt K mg t)(S:Fns K t)(B:BmIn base mg):S.iY.OkE P w mg base 17 (spPWr t):=by(
refine S.iY.F.okE q5P (λvs H Q E h=>?_) (λcdv A outer s H vs Q E hr h=>?_)
·repeat obtain⟨_,h⟩:=h
 all_goals subst_vars;rfl
obtain⟨x,k,sh,sr,r,rl,pp,X,n,v,i,Z,rfl,h,ev,rc,lp,sh64,z,w,hF,kk⟩:=h
obtain⟨m,hs,c,_⟩:=h.j.e
refine⟨_,(qB (qU (qY (pv 0) T.bN T.fA (yO T S).mono hr S.eE.b .nil qK (qA (pv 1) qE))) (qB (jC (yD (jT (qR (q9I T S).mono hr rfl T.aB7 T.aCA S.aBQ.b .nil qK (qA (pv 2) qE)))) (qD jD) qP) (qB (qU (jJ j8 (pv 0) T.bN T.tD (q1O T S).mono hr S.fL.b .nil (qA (pv 1) qE))) (qB (qU (uV j8 (pv 0) T.bN T.iG (vE T S B).mono hr S.eU.b .nil)) (qD (qL (jJ j8 (pv 0) T.bN T.tI (q0Q T S B).mono hr S.oI.b .nil (qA (pv 1) (qA (pv 2) qE))))))))),?_⟩
try dsimp-beta-proj-iota-zeta-eta only[wishK,cxK]
refine(iV rfl (iM hs.o rfl ⟨_,rfl,x,.int sr,_,_,m,X.s.q,.int n,sh,rfl,hs,.int _,?_⟩))
rw[hU z]
obtain⟨n',e,n0,n1⟩:=qF9 z
injection e with e
subst e
refine⟨_,rfl,.int v,rfl,.int _,_,rfl,?_⟩
rw[w]
refine iteF ?_
refine(iV rfl (iM hs.o rfl ⟨_,rfl,x,.int sh,_,_,m,X.s.q,n,sr,rfl,hs,c.ft,hd64 h.j.w,λH1 s1=>?_⟩))
by_cases ff:hold X.s.q n=false∧sr≤((hdN X.s.q.V).length:Int)
·rw[hU ff];exact hF ff H1 s1
rw[hC ff]
obtain⟨hl,hZ,kk⟩:=kk ff
have h1:=h.same s1
have hZ':=hZ
unfold Sx.ask at hZ'
cases hR:X.rooms k i with
|none=>rw[hR]at hZ';cases hZ'
|some YR=>
 obtain⟨Y,o⟩:=YR;refine(iV rfl (iM h1.j.o rfl ⟨x,k,sh,sr,r,rl,pp,X,i,(Y,o),rfl,h1,ev,by lia,lp,hR,?_⟩));rw[hR]at hZ';cases o with
 |error e=>cases hZ';exact λH2 h2 k2=>kk H2 h2 ((Keep.same s1).trans k2)
 |ok u=>
  refine λH2 h2 k2=>?_;refine(iV rfl (iM h2.j.o rfl ⟨_,rfl,_,rfl,?_⟩));dsimp only[tNil,pP,d5,dG];refine h.lay rc hl hZ hR n0 (by lia) h2 ?_;have mS:∀y∈t.bM::sf x,y∈fx t x r pp:=λy hy=>hV _ (hV _ hy);obtain⟨W,o⟩:=Z;cases o with
  |error e=>exact λH3 h3 k3=>kk H3 h3 (((Keep.same s1).trans k2).trans (k3.mono mS))
  |ok p=>exact λH3 h3 k3=>kk H3 h3 (((Keep.same s1).trans k2).trans (k3.mono mS)))
inductive spPR(t:Adr)(vs:List V)(H:Hp)(Q:VK)(E:XK):Prop
|mk:∀x k sh sr s,∀n:Int,vs=[.ref x.s,.int n]→XR t H x k sh sr s→inB (.int n) 0 (sh-1)=true→(hold s.q n=false→∀H',Same H H'→Q .non H')→(∀p w,(n,p)∈s.q.V→n≠64→s.pg p.toNat=some w→(s.lf=some 0→∀H',Same H H'→E (.ref t.C_PowerGone) none H')∧(s.lf≠some 0→∀H',Same H H'→Q (.int w.2) H'))→spPR t vs H Q E
theorem q6H(T:Txt K mg t)(S:Fns K t):S.tY.OkE P w mg base 5 (spPR t):=by(
refine S.tY.F.okE q69 (λvs H Q E h=>?_) (λcdv A outer s H vs Q E hr h=>?_)
·repeat obtain⟨_,h⟩:=h
 all_goals subst_vars;rfl
obtain⟨x,k,sh,sr,s,n,rfl,j,z,kn,kk⟩:=h
have hu:=q38 hr
obtain⟨m,hs,c,pg⟩:=j.e
refine⟨_,(qB (qU (qY (pv 0) T.bN T.fA (yO T S).mono hr S.eE.b .nil qK (qA (pv 1) qE))) (qB (jC (qT q0A (pv 1) (qW (pv 0) T.bN T.fO (u9 T S).mono hr S.fN.b .nil qK) rfl) (qD (qL uT)) qP) (qD (qL (jB yA (jJ j8 (qJ (pv 0) rfl) T.bO T.aAS (q3H T S).mono hr S.tM.b .nil (qA (qAS hu (qJ (qJ (pv 0) rfl) rfl) (pv 1) (λ_ _=>rfl)) qE)) qG (λ_ _=>rfl)))))),?_⟩
try dsimp-beta-proj-iota-zeta-eta only[wishK,cxK]
refine(iV rfl (iM hs.o rfl ⟨_,rfl,x,_,_,_,m,s.q,.int n,sh,rfl,hs,.int _,?_⟩))
rw[hU z]
refine⟨_,rfl,iV rfl (iM hs.o rfl ⟨x,.int sh,_,_,_,m,s.q,rfl,hs,c.ft,hd64 j.w,λl ns H1 hn s1 n1 h1=>?_⟩)⟩
have hs1:=hs.same s1
refine⟨l,_,rfl,.inl (SqL.of h1),rfl,qBM,_,rfl,?_⟩
have e:inV (.int n) (ns.map V.int)=hold s.q n:=by rw[q3J];exact hn.hold n
show if(!inV (.int n) (ns.map V.int))=true then _ else _
rw[e]
cases y:hold s.q n with
|false=>exact iteT (kn y H1 s1)
|true=>
 have y:=mF y;unfold hdN at y;obtain⟨y1,y2⟩:=mG.mp y;obtain⟨⟨n',p⟩,hp,rfl⟩:=kO.mp y1;obtain⟨b,f,v,a1,a2,a3,a4,a5⟩:=j.w.vl _ hp;have a3:p=_:=a3;obtain⟨tp,e1,e2⟩:=pg.v _ _ a5;obtain⟨dk,ok⟩:=kk p v hp (mF y2) (by rw[a3,mM];exact a5);have hpp:=(c.pgs a1 a2).1;refine iteF ?_;refine(iV rfl (iF hs1.o T.bN T.b9 rfl (iM hs1.ch.ins rfl (iV rfl (iF hs1.o T.bN T.bQ rfl (iF hs1.bk.o T.bS T.eI rfl ⟨_,rfl,x.k.wv,.int p,rfl,?_,?_⟩))))))
 ·have:=DGet.k (k:=Sum.inl n') hs1.bk.w;rw[q20 c.ft.oq.nd hp]at this;exact this
 refine⟨x.c,x.a,m,_,rfl,hs1.ch,c.ft.ok,by rw[a3];lia,by rw[a3];exact hpp,λd=>dk (by rw[←c.lf];exact d) H1 s1,λd=>?_⟩;rw[a3,mM,e1];exact(iT (k:=1) (v:=.int v.2) (SqT.of (s1 _ _ e2)) rfl (ok (by rw[←c.lf];exact d) H1 s1)))
theorem XR.forg{H H':Hp}{x:Sto}{k:Tm}{sh sr:Int}{s:XS}(j:XR t H x k sh sr s)(n:Int)(hb:∀{m},StAt t H x (.int sh) (.int sr) (.int (k.ie:Int)) (.int k.sp) m s.q→BkAt t H' x.k (s.q.forget n))(kb:Keep (bf x.k) H H'):XR t H' x k sh sr (s.forg n):=by obtain⟨m,st,c,pg⟩:=j.e;exact⟨⟨m,st.note (hb st) kb,⟨⟨c.ft.ok,c.ft.oq.forget n,c.ft.eB,c.ft.eP⟩,c.br,c.li,c.mo,c.cl,c.lf,c.rc⟩,pg.keep kb⟩,j.w.forg n⟩
inductive spGu(t:Adr)(vs:List V)(H:Hp)(Q:VK)(E:XK):Prop
|mk:∀x k sh sr r rl pp X,∀l0:Addr,∀ss:List Int,vs=[.ref x.s,.ref l0]→XX t H x k sh sr r rl pp X→k.ev=false→H l0=some (.lst (ss.map V.int))→(∀n∈ss,inB (.int n) 0 (sh-1)=true)→(gvn X.s.hl ss=[]→∀H',Same H H'→Q (.int 0) H')→(gvn X.s.hl ss≠[]→∃i Z,X.s.rc.length+100*i+300<1000000∧X.ps.length+i<90000∧((∃p,((64:Int),p)∈X.s.q.V)∨X.s.q.V.length<65)∧X.ask k i 64 (XS.bits (rst X.s.hl (gvn X.s.hl ss)))=some Z∧(match Z with
|(Y,.error e)=>∀H',XX t H' x k sh sr r rl pp Y→Keep (fx t x r pp) H H'→rfE t e E H'
|(Y,.ok p)=>∀H',XX t H' x k sh sr r rl pp ⟨Y.s.forgs (gvn X.s.hl ss),Y.g,Y.ps⟩→Keep (fx t x r pp) H H'→Q (.int ((gvn X.s.hl ss).length:Nat)) H'))→spGu t vs H Q E
theorem q42(T:Txt K mg t)(S:Fns K t)(B:BmIn base mg):S.i3.OkE P w mg base 17 (spGu t):=by(
refine S.i3.F.okE yC (λvs H Q E h=>?_) (λcdv A outer s H vs Q E hr h=>?_)
·repeat obtain⟨_,h⟩:=h
 all_goals subst_vars;rfl
obtain⟨x,k,sh,sr,r,rl,pp,X,l0,ss,rfl,h,ev,hl0,hin,kn,kk⟩:=h
have s9:(99999:Nat)<sizeLine:=by decide
obtain⟨m,hs,c,_⟩:=h.j.e
refine⟨_,(qB (vJ wY rfl (yE (pv 1)) (j9 (i:=2) yC.nd rfl (Or.inl rfl)) (qD (qU (qY (pv 0) T.bN T.fA (yO T S).mono hr S.eE.b .nil qK (qA (pv 2) qE))))) (qB (qV (i:=3) yC.nd rfl (Or.inl rfl) (qW (pv 0) T.bN T.fO (u9 T S).mono hr S.fN.b .nil qK)) (qB (qV (i:=4) yC.nd rfl (Or.inr rfl) (q0C ["sheets","sheet"] [1] rfl (yE (pv 3)) (λ_ _ _ _ _=>(j9 (i:=1) (show List.Nodup (["sheets","sheet"]:List Str)from by decide) rfl (Or.inl rfl))) (λ_ _ _ _ _=>(vF (qT (q9Z (K:=K) rfl) (pv 1) (pv 0) rfl))) (λ_ _ _ _ _=>(pv 1)) (by kernel_rfl) (u7 (by decide)))) (qB (jC (qT (q9Y hr.units) (pv 4) (y7 qE) (qS _)) (qD (qL qG)) qP) (qB (qU (uV j8 (pv 0) T.bN T.iG (vE T S B).mono hr S.eU.b .nil)) (qB (qU (jJ j8 (pv 0) T.bN T.tI (q0Q T S B).mono hr S.oI.b .nil (qA (q06 rfl T.aCI ⟨_,rfl⟩ (v:=.int 64)) (qA (qR (q5Y T S).mono hr rfl T.aA5 T.aA6 S.aA9.b .nil qK (qA (q0C ["gone","sheet"] [4] rfl (yE (pv 3)) (λ_ _ _ _ _=>(j9 (i:=1) (show List.Nodup (["gone","sheet"]:List Str)from by decide) rfl (Or.inl rfl))) (λ_ _ _ _ _=>(vF (qT (q66 (K:=K) rfl) (pv 1) (pv 0) rfl))) (λ_ _ _ _ _=>(pv 1)) (by kernel_rfl) (u7 (by decide))) qE)) qE)))) (qB (vJ wY rfl (yE (pv 4)) (j9 (i:=2) yC.nd rfl (Or.inl rfl)) (qD (qU (qY (qJ (pv 0) rfl) T.bS T.tL (q1N T S).mono hr S.iZ.b .nil qK (qA (pv 2) qE))))) (qD (qL (jF jA (by rfl) T.tQ g5 (qA (pv 4) qE))))))))))),?_⟩
try dsimp-beta-proj-iota-zeta-eta only[wishK,cxK]
refine⟨_,rfl,l0,rfl,⟨_,SqL.of hl0⟩,?_⟩
refine v4 (K:=K) (xs:=ss.map V.int) (λi σ' H2=>∃y,σ'=[some (.ref x.s),some (.ref l0),y,none,none]∧H=H2) ⟨_,rfl,rfl⟩ (λi σ' H2 hi hp=>?_) (λi v σ' H2 hv hp=>?_) (λσ' H2 hp=>?_)
·obtain⟨y,rfl,rfl⟩:=hp;exact SqL.of hl0
·obtain⟨y,rfl,rfl⟩:=hp;rw[mL]at hv;obtain⟨n,hw,rfl⟩:=m8.mp hv;refine(iV rfl (iM hs.o rfl ⟨_,rfl,x,_,_,_,m,X.s.q,.int n,sh,rfl,hs,.int _,?_⟩));rw[hU (hin n (gQ hw))];exact⟨_,rfl,rfl⟩
obtain⟨y,rfl,rfl⟩:=hp
refine(iV rfl (iM hs.o rfl ⟨x,.int sh,_,_,_,m,X.s.q,rfl,hs,c.ft,hd64 h.j.w,λhl ns H1 hn s1 n1 h1=>?_⟩))
have l64:ns.length≤64:=by rw[hn.pm.length_eq];exact hd64 h.j.w
obtain rfl:=qEO hn
refine⟨_,rfl,hl,rfl,⟨_,SqL.of h1⟩,λD H2 nD s2 hD=>?_⟩
refine zV (K:=K) (xs:=X.s.hl.map V.int) (D:=D) (λi H3=>Same H1 H3∧H3 D=some (.lst ((gvn (X.s.hl.take i) ss).map V.int))) ⟨s2,hD⟩ (λi H3 hp=>SqL.of (hp.1 _ _ h1)) (λi v H3 hv hp=>?_) (λH3 hp=>?_)
·obtain⟨sm,hd⟩:=hp;rw[mL]at hv;obtain⟨n,hw,rfl⟩:=m8.mp hv;have hi:=(kE.mp hw).1;have ev':=(kE.mp hw).2;refine⟨_,rfl,_,rfl,l0,_,rfl,.inl (SqL.of (sm _ _ (s1 _ _ hl0))),rfl,qBM,_,rfl,?_⟩;show if inV (.int n) (ss.map V.int)=true then _ else _;rw[q3J];have eg:gvn (X.s.hl.take (i+1)) ss=gvn (X.s.hl.take i) ss++(if n∈ss then[n]else[]):=by
  unfold gvn;rw[←m7 hi,gT,ev',m9];by_cases z:n∈ss
  ·rw[hG z,hU z];rfl
  rw[h9 z,hC z];rfl
 rw[eg];by_cases z:n∈ss
 ·rw[hG z,hU z];refine iteT ?_;refine⟨_,rfl,_,hd,?_,λb o e=>?_,?_⟩
  ·rw[hX];have l1:(gvn (X.s.hl.take i) ss).length≤(X.s.hl.take i).length:=mJ _ _;rw[gH]at l1;lia
  ·rw[qC (qI e nD)];exact sm _ _ e
  rw[qH,gB];rfl
 rw[h9 z,hC z,dG];exact iteF ⟨sm,hd⟩
obtain⟨sm,hd⟩:=hp
rw[hX,gO]at hd
have s03:Same H H3:=s1.trans sm
refine⟨_,rfl,sz0,λe H4 n4 s4 h4=>⟨D,_,e,rfl,rfl,SqL.of (s4 _ _ hd),SqL.of h4,_,rfl,?_⟩⟩
have s04:=s03.trans s4
by_cases z:gvn X.s.hl ss=[]
·rw[z];exact iteT (kn z H4 s04)
rw[h9 (λy=>z (by cases hq:gvn X.s.hl ss with|nil=>rfl|cons a r=>rw[hq]at y;cases y))]
refine iteF ?_
obtain⟨i,Z,rc,lp,hl6,hZ,kk⟩:=kk z
have h4x:=h.same s04
have hZ':=hZ
unfold Sx.ask at hZ'
cases hR:X.rooms k i with
|none=>rw[hR]at hZ';cases hZ'
|some YR=>
 obtain⟨Y,o⟩:=YR;refine(iV rfl (iM h4x.j.o rfl ⟨x,k,sh,sr,r,rl,pp,X,i,(Y,o),rfl,h4x,ev,by lia,lp,hR,?_⟩));rw[hR]at hZ';cases o with
 |error e=>cases hZ';exact λH2 h2 k2=>kk H2 h2 ((Keep.same s04).trans k2)
 |ok u=>
  refine λH5 h5 k5=>?_;obtain⟨ps0,hp0,_⟩:=h.hp;obtain⟨C0,d0,f0,er0⟩:=h.ru.ins;have offF:∀{y:Addr},H y=none→y∉fx t x r pp:=fun {y} e zz=>by
   rcases kI.mp zz with zz|zz
   ·rw[zz,hp0]at e;cases e
   rcases kI.mp zz with zz|zz
   ·rw[zz,er0]at e;cases e
   exact h.j.off e zz
  have dF:=offF (s1.free nD);have h1_5:=k5.k _ _ (offF n1) (s4 _ _ (sm _ _ h1));have hd5:=k5.k _ _ dF (s4 _ _ hd);refine(iV rfl (iM h5.j.o rfl ?_));refine⟨_,rfl,hl,rfl,⟨_,SqL.of h1_5⟩,λD2 H6 n6 s6 hD2=>?_⟩;refine zV (K:=K) (xs:=X.s.hl.map V.int) (D:=D2) (λi H7=>Same H5 H7∧H7 D2=some (.lst ((rst (X.s.hl.take i) (gvn X.s.hl ss)).map V.int))) ⟨s6,hD2⟩ (λi H7 hp=>SqL.of (hp.1 _ _ h1_5)) (λi v H7 hv hp=>?_) (λH7 hp=>?_)
  ·obtain⟨sm7,hd7⟩:=hp;rw[mL]at hv;obtain⟨n,hw,rfl⟩:=m8.mp hv;have hi:=(kE.mp hw).1;have ev':=(kE.mp hw).2;refine⟨_,rfl,_,rfl,D,_,rfl,.inl (SqL.of (sm7 _ _ hd5)),rfl,qBM,_,rfl,?_⟩;show if(!inV (.int n) ((gvn X.s.hl ss).map V.int))=true then _ else _;rw[q3J];have eg:rst (X.s.hl.take (i+1)) (gvn X.s.hl ss)=rst (X.s.hl.take i) (gvn X.s.hl ss)++(if n∈gvn X.s.hl ss then[]else[n]):=by
    unfold rst;rw[←m7 hi,gT,ev',m9];by_cases y:n∈gvn X.s.hl ss
    ·rw[hG y,hU y];rfl
    rw[h9 y,hC y];rfl
   rw[eg];by_cases y:n∈gvn X.s.hl ss
   ·rw[hG y,hU y,dG];exact iteF ⟨sm7,hd7⟩
   rw[h9 y,hC y];refine iteT ?_;refine⟨_,rfl,_,hd7,?_,λb o e=>?_,?_⟩
   ·rw[hX];have l1:(rst (X.s.hl.take i) (gvn X.s.hl ss)).length≤(X.s.hl.take i).length:=mJ _ _;rw[gH]at l1;lia
   ·rw[qC (qI e n6)];exact sm7 _ _ e
   rw[qH,gB];rfl
  obtain⟨sm7,hd7⟩:=hp;rw[hX,gO]at hd7;obtain⟨en,lt⟩:=qGV (ns:=rst X.s.hl (gvn X.s.hl ss)) (λn hn'=>qGU h.j.w n (mG.mp hn').1);rw[en]at hd7;refine⟨D2,_,rfl,SqL.of hd7,lt,?_⟩;have h7:=h5.same sm7;have mS:∀y∈t.bM::sf x,y∈fx t x r pp:=λy hy=>hV _ (hV _ hy);dsimp only[tNil,pP,d5,dG];refine h.lay (Z:=Z) rc hl6 hZ hR (by decide) (by decide) h7 ?_;obtain⟨W,o⟩:=Z;have k07:Keep (fx t x r pp) H H7:=((Keep.same s04).trans k5).trans (Keep.same sm7);cases o with
  |error e=>exact λH8 h8 k8=>kk H8 h8 (k07.trans (k8.mono mS))
  |ok p=>
   refine λH8 h8 k8=>?_;have hd8:=k8.k _ _ (λy=>dF (mS _ y)) (sm7 _ _ hd5);refine⟨_,rfl,D,rfl,⟨_,SqL.of hd8⟩,?_⟩;refine v4 (K:=K) (xs:=(gvn X.s.hl ss).map V.int) (λi σ' H'=>∃y',σ'=[some (.ref x.s),some (.ref l0),y',some (.ref hl),some (.ref D)]∧XR t H' x k sh sr (W.s.forgs ((gvn X.s.hl ss).take i))∧Keep (bf x.k) H8 H') ⟨_,rfl,h8.j,Keep.refl⟩ (λi σ' H' hi hp=>?_) (λi v σ' H' hv hp=>?_) (λσ' H' hp=>?_)
   ·obtain⟨y',rfl,j',kb⟩:=hp;exact SqL.of (kb.k _ _ (λw=>dF (mS _ (by simp[sf,w]))) hd8)
   ·obtain⟨y',rfl,j',kb⟩:=hp;rw[mL]at hv;obtain⟨n,hw,rfl⟩:=m8.mp hv;obtain⟨m',st,c',_⟩:=j'.e;refine(iV rfl (iF st.o T.bN T.bQ rfl (iM st.bk.o rfl ⟨_,rfl,x.k,_,n,rfl,st.bk,j'.w.qs.ok,st.ds,λH9 hb9 k9=>?_⟩)));have k9:Keep (bf x.k) H' H9:=k9.mono (by intro b hb;simp at hb;rcases hb with rfl|rfl<;>simp[bf]);refine⟨_,rfl,?_,kb.trans k9⟩;rw[qAE hw];exact j'.forg n (λ_=>hb9) k9
   obtain⟨y',rfl,j',kb⟩:=hp;rw[hX,gO]at j';have hd9:=kb.k _ _ (λw=>dF (mS _ (by simp[sf,w]))) hd8;refine⟨_,rfl,D,_,rfl,.inl (SqL.of hd9),?_⟩;rw[hX];have kb':Keep (t.bM::sf x) H8 H':=kb.mono (λb hb=>by simp[sf,hb]);exact kk H' (h8.on kb' j') ((k07.trans (k8.mono mS)).trans (kb'.mono mS)))
theorem TbF.updD{H:Hp}{p:Addr}{kvs:List (Key×V)}{o:HO}(h:TbF t H)(e:H p=some (.dK kvs)):TbF t (upd H p o):=by(
obtain⟨ps,hT,h⟩:=h
refine⟨ps,by rw[qC (jM hT e (by intro z;cases z))];exact hT,?_⟩
rcases h with h|⟨c,h,hc⟩
·exact .inl h
exact .inr ⟨c,h,by rw[qC (jM hc e (by intro z;cases z))];exact hc⟩)
section
variable{H H':Hp}{x:Sto}{k:Tm}{sh sr:Int}{r:Addr}{rl:List Addr}{pp:Addr}{X:Sx}
theorem XX.dct(h:XX t H x k sh sr r rl pp X){p:Addr}{kvs kvs':List (Key×V)}(e:H p=some (.dK kvs))(np:p∉x.a.li::fx t x r pp)(nr:p∉rl):XX t (upd H p (.dK kvs')) x k sh sr r rl pp X:=by(
have kk:=Keep.upd (F:=[p]) (o:=.dK kvs') e (λ_ z=>by cases z) (by simp)
obtain⟨ps,h1,h2⟩:=h.hp
obtain⟨m,st,_⟩:=h.j.e
have fr:∀{y:Addr} {xs:List V},H y=some (.lst xs)→(upd H p (.dK kvs')) y=some (.lst xs):=fun {y xs} e'=>kk.k _ _ (λz=>by rw[kC.mp z,e]at e';cases e') e'
refine⟨h.j.keep kk (λy hy z=>?_) (TbF.updD st.tb e),h.er,h.ru.keep kk (λy hy z=>?_),h.of,h.ep,⟨ps,fr h1,Paired.mapP h2 λv pa ⟨a,l1,l2,us,rs,e1,e2,e3,e4,e5,e6,e7,e8⟩=>⟨a,l1,l2,us,rs,e1,kk.tp _ _ e2,fr e3,q05 kk e4,fr e5,Paired.mapP e6 λv d ⟨p',e',h'⟩=>⟨p',e',kk.tp _ _ h'⟩,e7,e8⟩⟩,h.np,h.nr⟩
·rw[kC.mp z]at hy;rcases gF.mp hy with hy|hy
 ·have hy:p=x.s∨p=x.tm:=by simpa using hy
  rcases hy with h|h
  ·rw[h,st.o]at e;cases e
  rw[h,st.te]at e;cases e
 rcases kI.mp hy with h|h
 ·exact np (by rw[h];simp)
 exact np (by simp[h])
rw[kC.mp z]at hy
rcases kI.mp hy with h|h
·exact np (by rw[h];simp)
exact nr h)
theorem XX.chip(h:XX t H x k sh sr r rl pp X):∃m,ChipAt t.C_Chip H x.c x.a m∧m.Ok∧m.lf=X.s.lf∧m.rc=X.s.rc∧m.cl=X.s.cl∧m.bl=(X.s.q.B:Int)∧m.pg=(X.s.q.P:Int)∧PgAt H m.bo X.s.pg∧∀l,(∀i,l=some i→0≤i)→∀H',ChipAt t.C_Chip H' x.c x.a { m with lf:=l }→Keep (foot x.c x.a) H H'→XX t H' x k sh sr r rl pp ⟨{ X.s with lf:=l },X.g,X.ps⟩:=by(
obtain⟨m,st,c,pg⟩:=h.j.e
refine⟨m,st.ch,c.ft.ok,c.lf,c.rc,c.cl,c.ft.eB,c.ft.eP,pg,λl hl H' hc k'=>?_⟩
have k2:Keep (t.bM::sf x) H H':=k'.mono (λy hy=>by unfold sf;exact hV _ (gP _ hy))
have ok':({ m with lf:=l }:CM).Ok:=⟨c.ft.ok.bl1,c.ft.ok.bl2,c.ft.ok.pg1,c.ft.ok.pg2,c.ft.ok.nbo,c.ft.ok.ncl,c.ft.ok.ndc,c.ft.ok.nbr,c.ft.ok.lim,c.ft.ok.nrc⟩
exact h.on k2 ⟨⟨_,st.put hc k' rfl rfl,⟨⟨ok',c.ft.oq,c.ft.eB,c.ft.eP⟩,c.br,c.li,c.mo,c.cl,rfl,c.rc⟩,pg.keep k'⟩,h.j.w.lf hl⟩)
theorem XX.inF(h:XX t H x k sh sr r rl pp X):∀y∈fx t x r pp,∃o,H y=some o:=λy hy=>by(
rcases kI.mp hy with e|hy
·obtain⟨ps,e',_⟩:=h.hp;exact⟨_,by rw[e];exact e'⟩
rcases kI.mp hy with e|hy
·obtain⟨_,_,_,z⟩:=h.ru.ins;exact⟨_,by rw[e];exact z⟩
exact h.j.inH y hy)
end
structure KX(t:Adr)(H:Hp)(x:Sto)(k:Tm)(sh:Int)(sr:Nat)(r:Addr)(rl:List Addr)(pp:Addr)(X:Sx)(kd:Addr)(KD:Mp)(n:Nat):Prop where
h:XX t H x k sh (sr:Int) r rl pp X
d:Kd k sh sr X KD
hk:H kd=some (.dK (dI KD))
nk:kd∉x.a.li::fx t x r pp
nr:kd∉rl
rcn:X.s.rc.length≤300*n
psn:X.ps.length≤20*n
section
variable{H H':Hp}{x:Sto}{k:Tm}{sh:Int}{sr:Nat}{r:Addr}{rl:List Addr}{pp:Addr}{X X':Sx}{kd:Addr}{KD KD':Mp}{n n':Nat}
theorem KX.same(h:KX t H x k sh sr r rl pp X kd KD n)(s:Same H H'):KX t H' x k sh sr r rl pp X kd KD n:={ h with h:=h.h.same s,hk:=s _ _ h.hk }
theorem KX.nkF(h:KX t H x k sh sr r rl pp X kd KD n):kd∉fx t x r pp:=λz=>h.nk (hV _ z)
theorem KX.hold(h:KX t H x k sh sr r rl pp X kd KD n){y:Int}:hold X.s.q y=decide (y∈KD.map (·.1)):=by unfold W1.hold;exact decide_eq_decide.mpr h.d.pm.mem_iff
theorem KX.set(h:KX t H x k sh sr r rl pp X kd KD n)(hx:XX t H' x k sh (sr:Int) r rl pp X')(kk:Keep (fx t x r pp) H H')(d:Kd k sh sr X' KD')(rc:X'.s.rc.length≤300*n')(ps:X'.ps.length≤20*n'):KX t (upd H' kd (.dK (dI KD'))) x k sh sr r rl pp X' kd KD' n':=⟨hx.dct (kk.k _ _ h.nkF h.hk) h.nk h.nr,d,qH,h.nk,h.nr,rc,ps⟩
end
noncomputable def wN(rc:List (Str×Int×Bool)):Nat:=(rc.filter λd=>decide (d.1=Str.ofString "wipe")).length
theorem q8A{a b:List (Str×Int×Bool)}:wN (a++b)=wN a+wN b:=by unfold wN;rw[gT,mE]
theorem qGF{ms:List (List Int)}:wN (ms.map putR)=0:=by(
unfold wN
rw[List.length_eq_zero_iff,List.filter_eq_nil_iff]
intro d hd
obtain⟨m,_,rfl⟩:=kO.mp hd
show ¬decide (Str.ofString "put"=Str.ofString "wipe")=true
decide)
theorem qKA{qs:List Pa}:wN (qs.flatMap dOf)=qs.length:=by(
induction qs with
|nil=>rfl
|cons p qs ih=>rw[xZ,q8A,ih];unfold dOf;rw[q8A,qGF,mI];show 0+1+ _=_;lia)
theorem qJ2{H:Hp}{x:Sto}{k:Tm}{sh sr:Int}{r:Addr}{rl:List Addr}{pp:Addr}{B P:Nat}{g:Rl}(st:StAt t H x (.int sh) (.int sr) (.int (k.ie:Int)) (.int k.sp) (CM.new (B:Int) (P:Int) 1000000 []) (bk0 B P))(er:x.ru=.ref r)(ru:RuX t H r rl g)(of:Off t x (r::rl))(ep:x.pa=.ref pp)(hp:H pp=some (.lst []))(np:pp∉t.bM::sf x)(nr:pp∉r::rl)
 (b1:2≤B) (b2:B≤16) (p1:1≤P) (p2:P≤16) (w:WX k (newX B P)):XX t H x k sh sr r rl pp ⟨newX B P,g,[]⟩:=by(
have nok:(CM.new (B:Int) (P:Int) 1000000 []).Ok:=qI8 (by lia) (by lia) (by lia) (by lia) (λb v e=>by cases e)
refine⟨⟨⟨_,st,⟨⟨nok,w.qs.ok,rfl,rfl⟩,?_,λb=>rfl,rfl,?_,rfl,rfl⟩,⟨λi _=>rep8,λi v e=>by cases e⟩⟩,w⟩,er,ru,of,ep,⟨[],hp,.nil⟩,np,nr⟩
·show List.replicate (B:Int).toNat false=_;rw[mM];rfl
show List.replicate (B:Int).toNat (0:Int)=_
rw[mM]
rfl)
theorem qJ3{H7 H8 HM:Hp}{sA sd tm td ch pa:Addr}{ca:CA}{kb:BkA}{ru:V}{m:CM}{R:List Addr}{o1 o2:HO}(hc:ChipAt t.C_Chip H7 ch ca m)(htm:H7 tm=some o1)(hT:H7 t.bM=some o2)(nR:∀u∈R,H7 u=none)(eR:∀u∈R,∃o,H8 u=some o)(nA:H8 sA=none)(sM:Same H8 HM)(fk:∀b∈bf kb,HM b=none):Off t ⟨sA,sd,tm,td,ch,ca,kb,ru,.ref pa⟩ R:=λy hy hu=>by(
obtain⟨o,e8⟩:=eR y hu
have n7:=nR y hu
have hy:y=sA∨y=tm∨y=ca.li∨y=t.bM∨y∈foot ch ca∨y∈bf kb:=by simpa[sf]using hy
rcases hy with h|h|h|h|h|h
·rw[h,nA]at e8;cases e8
·rw[h,htm]at n7;cases n7
·obtain⟨o',e',_⟩:=hc.has (show ca.li∈ca.li::foot ch ca by simp);rw[←h,n7]at e';cases e'
·rw[h,hT]at n7;cases n7
·obtain⟨o',e',_⟩:=hc.has (hV ca.li h);rw[n7]at e';cases e'
rw[Same.free sM (fk y h)]at e8;cases e8)
inductive spSz(K:W.Frag)(vs:List V)(H:Hp)(Q:VK)(E_:XK):Prop
|mk:∀a ns,vs=[.ref a]→SqL K H a (List.map V.int ns)→(∀c P i:Nat,1≤c→c+1+i≤16→1≤P→P≤16→3≤c*P→c*P≤66→NewO H (.lst [.int ((c+1+i:Nat):Int),.int (P:Int),.int ((c*P-2:Nat):Int),.int (i:Int)]) Q)→spSz K vs H Q E_
theorem q9L(T:Txt K mg t)(S:Fns K t):S.aBP.Ok0 P w mg base 2 (spSz K):=by(
refine S.aBP.F.ok0 yN λcdv A _ s H vs Q E hr h=>?_
obtain⟨a,ns,rfl,hS,k⟩:=h
refine⟨_,(qB (qV (i:=1) yN.nd rfl (Or.inl rfl) (qO yL qG (qO uG (qR (jP T S).mono hr rfl T.bZ T.bY S.eA.b .nil qK (qA (pv 0) (qA qG qE))) qG))) (qB (qV (i:=2) yN.nd rfl (Or.inl rfl) (qO yL qG (qO uG (qR (jP T S).mono hr rfl T.bZ T.bY S.eA.b .nil qK (qA (pv 0) (qA qG qE))) qG))) (q1X (jC (qT zU (qO uG (qR (jP T S).mono hr rfl T.bZ T.bY S.eA.b .nil qK (qA (pv 0) (qA qG qE))) qG) qG (qS _)) (qB (qV (i:=1) yN.nd rfl (Or.inl rfl) (qO yL qG (qO uG (qR (jP T S).mono hr rfl T.bZ T.bY S.eA.b .nil qK (qA (pv 0) (qA qG qE))) qG))) (qD (qV (i:=2) yN.nd rfl (Or.inl rfl) (jF (q1U rfl) (by rfl) T.aC9 (by kernel_rfl) (qA (qO yL qG (qO uG (qR (jP T S).mono hr rfl T.bZ T.bY S.eA.b .nil qK (qA (pv 0) (qA qG qE))) qG)) (qA (qO q1T qG (pv 1)) qE)))))) qP) (q1X (jC (qT q4Z (qO yS (pv 2) (pv 1)) qG (qS _)) (qD (qV (i:=2) yN.nd rfl (Or.inl rfl) qG)) qP) (qB (qV (i:=3) yN.nd rfl (Or.inl rfl) (jF (q1U rfl) (by rfl) T.aC9 (by kernel_rfl) (qA (qO uG (qR (jP T S).mono hr rfl T.bZ T.bY S.eA.b .nil qK (qA (pv 0) (qA qG qE))) qG) (qA (qO yR qG (pv 2)) qE)))) (qD (qL (y7 (qA (qO yL (qO yL (pv 2) qG) (pv 3)) (qA (pv 1) (qA (qO yR (qO yS (pv 2) (pv 1)) qG) (qA (pv 3) qE)))))))))))),?_⟩
try dsimp-beta-proj-iota-zeta-eta only[wishK,cxK]
refine⟨_,rfl,a,ns,0,rfl,hS,by decide,_,_,rfl,rfl,(by show(0:Int)<4;decide),iI ?_⟩
refine⟨_,rfl,a,ns,1,rfl,hS,by decide,_,_,rfl,rfl,(by show(0:Int)<4;decide),iI ?_⟩
try dsimp only
have c0:=q2K (jX ns 0) 4 (by decide)
have c1:=q2K (jX ns 1) 4 (by decide)
have d0:=q2K (jX ns 0) 16 (by decide)
have d1:=q2K (jX ns 1) 15 (by decide)
refine⟨λσ' H'=>∃c P:Nat,σ'=[some (.ref a),some (.int (P:Int)),some (.int (c:Int)),none]∧H=H'∧1≤c∧c≤15∧1≤P∧P≤16∧c*P≤66,?_,?_⟩
·refine⟨_,rfl,a,ns,2,rfl,hS,by decide,_,_,rfl,rfl,(by show(0:Int)<8;decide),rfl,_,rfl,ite2 (λ_=>?_) (λ_=>?_)⟩
 ·refine⟨_,rfl,a,ns,0,rfl,hS,by decide,_,_,rfl,rfl,(by show(0:Int)<16;decide),iI ?_⟩;obtain⟨P,eP⟩:∃n:Nat,1+jX ns 0%16=(n:Int):=⟨(1+jX ns 0%16).toNat,by lia⟩;obtain⟨m,em⟩:∃n:Nat,1+jX ns 1%15=(n:Int):=⟨(1+jX ns 1%15).toNat,by lia⟩;refine⟨_,rfl,a,ns,1,rfl,hS,by decide,_,_,rfl,rfl,(by show(0:Int)<15;decide),iI ⟨_,rfl,iI ⟨⟨by show(0:Int)<1+jX ns 0%16;lia,by show 1+jX ns 0%16< _;lia⟩,?_⟩⟩⟩;try dsimp only
  rw[eP,em];have e3:(66:Int) / (P:Int)=((66 / P:Nat):Int):=rfl;rw[e3];have p1:1≤P:=by lia
  have p2:P≤16:=by lia
  have q1:4≤66 / P:=(Nat.le_div_iff_mul_le (by lia)).mpr (by lia);have q2:66 / P*P≤66:=Nat.div_mul_le_self 66 P;refine⟨_,_,rfl,?_⟩;by_cases z:((66 / P:Nat):Int)<(m:Int)
  ·rw[hU z];exact⟨66 / P,P,rfl,rfl,by lia,by lia,p1,p2,q2⟩
  rw[hC z];exact⟨m,P,rfl,rfl,by lia,by lia,p1,p2,mD (gR P (by lia)) q2⟩
 obtain⟨P,eP⟩:∃n:Nat,1+jX ns 0%4=(n:Int):=⟨(1+jX ns 0%4).toNat,by lia⟩;obtain⟨m,em⟩:∃n:Nat,1+jX ns 1%4=(n:Int):=⟨(1+jX ns 1%4).toNat,by lia⟩;rw[eP,em];have m4:m≤4:=by lia
 have P4:P≤4:=by lia
 exact⟨m,P,rfl,rfl,by lia,by lia,by lia,by lia,mD (Nat.mul_le_mul m4 P4) (by decide)⟩
clear c0 c1 d0 d1
rintro σ' _ ⟨c',P,rfl,rfl,c1,c2,p1,p2,c6⟩
refine⟨λσ' H'=>∃c:Nat,σ'=[some (.ref a),some (.int (P:Int)),some (.int (c:Int)),none]∧H=H'∧1≤c∧c≤15∧3≤c*P∧c*P≤66,?_,?_⟩
·refine⟨_,rfl,_,rfl,iI ⟨.inl ⟨by lia,by lia⟩,iI ⟨_,rfl,?_⟩⟩⟩;refine ite2 (λz=>?_) (λz=>?_)
 ·have z:(c':Int)*(P:Int)<3:=mF z;rw[←dR]at z;have P2:P≤2:=by have:=gR P c1;lia
  exact⟨3,rfl,rfl,by decide,by decide,by lia,by lia⟩
 have z:¬(c':Int)*(P:Int)<3:=λy=>z (hG y);rw[←dR]at z;exact⟨c',rfl,rfl,c1,c2,by lia,c6⟩
rintro σ' _ ⟨c,rfl,rfl,c1,c2,cp,c6⟩
refine⟨_,rfl,a,ns,3,rfl,hS,by decide,_,_,rfl,rfl,(by show(0:Int)<3;decide),_,rfl,iI ?_⟩
have c3:=q2K (jX ns 3) 3 (by decide)
try dsimp only
generalize jX ns 3%3=y at c3 ⊢
refine⟨_,_,rfl,?_⟩
obtain⟨i,ei,hi⟩:∃i:Nat,(if 15-(c:Int)<y then 15-(c:Int)else y)=(i:Int)∧c+1+i≤16:=by
 by_cases z:15-(c:Int)<y
 ·exact⟨15-c,by rw[hU z];lia,by lia⟩
 exact⟨y.toNat,by rw[hC z];lia,by lia⟩
rw[ei]
have e2:(c:Int)*(P:Int)-2=((c*P-2:Nat):Int):=by rw[←dR];lia
have e1:(c:Int)+1+(i:Int)=((c+1+i:Nat):Int):=by lia
refine⟨_,rfl,iI ⟨_,rfl,iI ⟨_,rfl,_,rfl,_,rfl,iI ⟨.inl ⟨by lia,by lia⟩,iI ⟨_,rfl,sz4,?_⟩⟩⟩⟩⟩
try dsimp only
rw[e1,e2]
exact k c P i c1 hi p1 p2 cp c6)
inductive spLr(t:Adr)(vs:List V)(H:Hp)(Q:VK)(E_:XK):Prop
|mk:∀cell:Int,vs=[.int cell]→(∀r f H',RuX t H' r [] (.rk f)→Same H H'→H r=none→Q (.ref r) H')→spLr t vs H Q E_
theorem q9M(T:Txt K mg t)(S:Fns K t):S.aBD.Ok0 P w mg base 1 (spLr t):=by(
refine S.aBD.F.ok0 q9E λcdv A _ s H vs Q E hr h=>?_
obtain⟨cell,rfl,k⟩:=h
refine⟨_,(qB (jC (qT zU (qO uG (pv 0) qG) qG (qS _)) (qD (qL (q7E T.aCL rfl T.aCU))) qP) (qB (jC (qT zU (qO uG (pv 0) qG) qG (qS _)) (qD (qL (q7E T.aCO rfl T.aCV))) qP) (qB (jC (qT zU (qO uG (pv 0) qG) qG (qS _)) (qD (qL (q7E T.aCQ rfl T.aC7))) qP) (qD (qL (q7E T.aCZ rfl T.aDG)))))),?_⟩
try dsimp-beta-proj-iota-zeta-eta only[wishK,cxK]
refine⟨_,rfl,iI ⟨(by show(0:Int)<4;decide),rfl,_,rfl,ite2 (λ_=>?_) (λ_=>?_)⟩⟩
·refine λr dx nr ndx ne=>k r _ _ (.inr (.inl ⟨dx,qH,rfl⟩)) (q1Y nr ndx) nr
refine⟨_,rfl,iI ⟨(by show(0:Int)<4;decide),rfl,_,rfl,ite2 (λ_=>?_) (λ_=>?_)⟩⟩
·refine λr dx nr ndx ne=>k r _ _ (.inr (.inr (.inl ⟨dx,qH,rfl⟩))) (q1Y nr ndx) nr
refine⟨_,rfl,iI ⟨(by show(0:Int)<4;decide),rfl,_,rfl,ite2 (λ_=>?_) (λ_=>?_)⟩⟩
·refine λr dx nr ndx ne=>k r _ _ (.inr (.inr (.inr ⟨dx,qH,rfl⟩))) (q1Y nr ndx) nr
refine λr dx nr ndx ne=>k r _ _ (.inl ⟨dx,qH,rfl⟩) (q1Y nr ndx) nr)
theorem AskO.wn{k:Tm}{i:Nat}{X Y:Sx}{n v:Int}{qs:List Pa}{p:Nat}(a:AskO k i X n v Y qs p):Y.ps.length≤X.ps.length+need k X.s∧wN Y.s.rc+X.ps.length=wN X.s.rc+Y.ps.length:=by(
have:=a.ln
rw[a.ps,a.rc,mE,q8A,q8A,qKA]
refine⟨by lia,?_⟩
show wN X.s.rc+qs.length+0+ _=_
lia)
theorem q24{hl:List Int}{y:Int}:(∀m,m∈gvn hl [y]↔m=y∧y∈hl)∧(gvn hl [y]=[]↔y∉hl):=by(
have a:∀m,m∈gvn hl [y]↔m=y∧y∈hl:=λm=>by
 unfold gvn;rw[mG,kQ,kC];constructor
 ·rintro⟨h,e⟩
  exact⟨e,by rw[←e];exact h⟩
 rintro⟨e,h⟩
 exact⟨by rw[e];exact h,e⟩
refine⟨a,?_⟩
rw[List.eq_nil_iff_forall_not_mem]
constructor
·intro h z;exact h y ((a y).mpr ⟨rfl,z⟩)
intro h m hm
exact h ((a m).mp hm).2)
structure Kw(t:Adr)(H:Hp)(x:Sto)(k:Tm)(sh:Int)(sr:Nat)(r:Addr)(rl:List Addr)(pp:Addr)(X:Sx)(kd:Addr)(KD:Mp)(n:Nat):Prop where
h:KX t H x k sh sr r rl pp X kd KD n
lf:X.s.lf=none
gr:(1+k.ie)*X.s.q.P≤X.s.rmX
theorem Kw.same{H H':Hp}{x:Sto}{k:Tm}{sh:Int}{sr:Nat}{r:Addr}{rl:List Addr}{pp:Addr}{X:Sx}{kd:Addr}{KD:Mp}{n:Nat}(h:Kw t H x k sh sr r rl pp X kd KD n)(s:Same H H'):Kw t H' x k sh sr r rl pp X kd KD n:=⟨h.h.same s,h.lf,h.gr⟩
theorem qEP{k:Tm}{s:XS}(x:Ix k s)(ev:k.ev=false)(z:(1+k.ie)*s.q.P≤s.rmX):need k s≤1:=by have:=q7N x z;rw[ev]at this;exact mD this (by rw[hC (by decide)];decide)
theorem qEQ{k:Tm}{X:Sx}{n v:Int}(x:Ix k X.s)(wt:Wt k X.s)(ok:X.g.Ok)(lf:X.s.lf=none)(n0:0≤n)(n1:n≤64)(hl:(∃p,(n,p)∈X.s.q.V)∨(X.s.q.V.length<65∧X.s.q.V.length+1<(X.s.q.B-(1+k.ie))*X.s.q.P)):∃Y qs p,X.ask k 17 n v=some (Y,.ok p)∧AskO k 17 X n v Y qs p∧Y.s.lf=none:=by(
rcases qG8 (n:=n) (v:=v) x wt ok (q7O x) n0 n1 hl with⟨Y,qs,p,hZ,a⟩|⟨Y,qs,hZ,a⟩
·exact⟨Y,qs,p,hZ,a,qBG x.w ok hZ lf⟩
have:=qBG x.w ok hZ lf
rw[a.lf]at this
cases this)
inductive spWn(t:Adr)(vs:List V)(H:Hp)(Q:VK)(E_:XK):Prop
|mk:∀x k sh sr r rl pp X kd KD,∀n:Nat,∀y num:Int,vs=[.ref x.s,.ref kd,.int y,.int num]→Kw t H x k sh sr r rl pp X kd KD n→k.ev=false→n<1000→0≤y→y<sh→(y∈KD.map (·.1)∨KD.length<sr)→0≤num→num≤10 ^ 30-1→(∀X' H',Kw t H' x k sh sr r rl pp X' kd (putW KD y num) (n+1)→Keep (kd::fx t x r pp) H H'→Q (.bl true) H')→spWn t vs H Q E_
theorem vV(T:Txt K mg t)(S:Fns K t)(B:BmIn base mg):S.fW.Ok0 P w mg base 18 (spWn t):=by(
refine S.fW.F.ok0 q1L λcdv A _ s H vs Q E hr h=>?_
obtain⟨x,k,sh,sr,r,rl,pp,X,kd,KD,n,y,num,rfl,⟨h,lf,gr⟩,ev,n9,y0,y1,y2,v0,v1,kk⟩:=h
have hu:=q38 hr
have s99:(99:Nat)<sizeLine:=by decide
have h64:=h.d.h64
have rcn:=h.rcn
have psn:=h.psn
have n1:=qEP h.d.x ev gr
have n17:=q7O h.d.x
refine⟨_,(qB (qV (i:=4) q1L.nd rfl (Or.inl rfl) (jF jA (by rfl) T.tQ g5 (qA (qJ (pv 0) rfl) qE))) (qB (qU (jJ vX (pv 0) T.bN T.tO (q1R T S B).mono hr S.iY.b .nil (qA (pv 2) (qA (pv 3) qE)))) (qB (qAT hu (pv 1) (pv 2) (pv 3) rfl) (qD (qL (yP q8K (jF jA (by rfl) T.tQ g5 (qA (qJ (pv 0) rfl) qE)) (qO yL (pv 4) qG) (qS _))))))),?_⟩
try dsimp-beta-proj-iota-zeta-eta only[wishK,cxK]
obtain⟨ps,hps,prs⟩:=h.h.hp
have eps:=prs.len
have o2:=h.h.j.o
rw[h.h.ep]at o2
refine(iV rfl (iF o2 T.bN T.eC rfl ⟨pp,ps,rfl,.inl (SqL.of hps),?_⟩))
rw[eps]
have hc:=h.d.can y0 y1 y2
have ff:¬(hold X.s.q y=false∧(sr:Int)≤((hdN X.s.q.V).length:Int)):=λ⟨f1,f2⟩=>by
 rw[h.hold]at f1;have f1:=dJ f1;have pl:=h.d.pm.length_eq;rw[hX]at pl;have f2:(sr:Int)≤((((X.s.q.V.map (·.1)).filter λn=>decide (n≠64)).length:Nat):Int):=f2;rcases y2 with w|w
 ·exact f1 w
 lia
obtain⟨Y,qs,p,hZ,a,lY⟩:=qEQ (v:=num) h.d.x h.d.wt h.d.ok lf y0 (by lia) hc
refine(iV rfl (iM h.h.j.o rfl ⟨_,rfl,_,rfl,x,k,sh,_,r,rl,pp,X,y,num,17,_,rfl,h.h,ev,by lia,by lia,h64,inBi y0 (by lia),inBi v0 v1,λf=>(ff f).elim,λ_=>⟨hc.imp id λw=>w.1,hZ,λH3 h3 k3=>?_⟩⟩))
have hk1:=k3.k _ _ h.nkF h.hk
have kM:Keep (kd::fx t x r pp) H H3:=k3.mono (λy hy=>hV _ hy)
obtain⟨w1,w2⟩:=a.wn
have:=a.rl
have ld:KD.length≤64:=mD h.d.ls h.d.s57
refine⟨_,rfl,_,rfl,_,rfl,kd,_,rfl,.inl ⟨_,Sum.inl y,hk1,rfl,by unfold dI;rw[hX];lia,rfl⟩,?_⟩
rw[qB8]
have g:=h.set h3 k3 (h.d.wrote y0 y1 y2 a) (n':=n+1) (by lia) (by lia)
obtain⟨ps',hps',prs'⟩:=g.h.hp
have o3:=g.h.j.o
rw[g.h.ep]at o3
refine(iV rfl (iF o3 T.bN T.eC rfl ⟨pp,ps',rfl,.inl (SqL.of hps'),_,rfl,iI (iI ?_)⟩))
rw[prs'.len]
have e9:decide (((Y.ps.length:Nat):Int)≤((X.ps.length:Nat):Int)+1)=true:=hG (by lia)
show Q (V.bl (decide (((Y.ps.length:Nat):Int)≤((X.ps.length:Nat):Int)+1))) _
rw[e9]
exact kk Y _ ⟨g,lY,a.ge⟩ (kM.trans (Keep.upd hk1 (λ_ z=>by cases z) (by simp))))
inductive spGn(t:Adr)(vs:List V)(H:Hp)(Q:VK)(E_:XK):Prop
|mk:∀x k sh sr r rl pp X kd KD,∀n:Nat,∀y:Int,vs=[.ref x.s,.ref kd,.int y]→Kw t H x k sh sr r rl pp X kd KD n→k.ev=false→n<1000→0≤y→y<sh→y∈KD.map (·.1)→(∀X' H',Kw t H' x k sh sr r rl pp X' kd (qZ KD y) (n+1)→Keep (kd::fx t x r pp) H H'→Q (.bl true) H')→spGn t vs H Q E_
theorem q0W(T:Txt K mg t)(S:Fns K t)(B:BmIn base mg):S.iB.Ok0 P w mg base 18 (spGn t):=by(
refine S.iB.F.ok0 vC λcdv A _ s H vs Q E hr h=>?_
obtain⟨x,k,sh,sr,r,rl,pp,X,kd,KD,n,y,rfl,⟨h,lf,gr⟩,ev,n9,y0,y1,z,kk⟩:=h
have hu:=q38 hr
have s99:(99:Nat)<sizeLine:=by decide
have h64:=h.d.h64
have rcn:=h.rcn
have psn:=h.psn
have n1:=qEP h.d.x ev gr
have n17:=q7O h.d.x
refine⟨_,(qB (qV (i:=3) vC.nd rfl (Or.inl rfl) (jF jA (by rfl) T.tQ g5 (qA (qJ (pv 0) rfl) qE))) (qB (qV (i:=4) vC.nd rfl (Or.inl rfl) (jJ vX (pv 0) T.bN T.aAI (q42 T S B).mono hr S.i3.b .nil (qA (y7 (qA (pv 2) qE)) qE qDD))) (qB (qU (q8P (pv 1) (pv 2) ⟨rfl,rfl,rfl,rfl⟩)) (qD (qL (q3O (yP zU (pv 4) qG (qS _)) (q07 (yP q8K (jF jA (by rfl) T.tQ g5 (qA (qJ (pv 0) rfl) qE)) (qO yL (pv 3) qG) (qS _))))))))),?_⟩
try dsimp-beta-proj-iota-zeta-eta only[wishK,cxK]
obtain⟨ps,hps,prs⟩:=h.h.hp
have eps:=prs.len
have o2:=h.h.j.o
rw[h.h.ep]at o2
refine(iV rfl (iF o2 T.bN T.eC rfl ⟨pp,ps,rfl,.inl (SqL.of hps),?_⟩))
rw[eps]
have hc:=h.d.can64 (λw=>by rw[w]at z;cases z)
obtain⟨Y,qs,p,hZ,a,lY⟩:=qEQ (v:=XS.bits (rst X.s.hl (gvn X.s.hl [y]))) h.d.x h.d.wt h.d.ok lf (by decide) (by decide) hc
refine(iV rfl (iM h.h.j.o rfl ⟨_,rfl,sz1,λl0 H2 n2 s2 h2=>?_⟩))
have yl:y∈X.s.hl:=h.d.hl.mpr z
refine⟨x,k,sh,_,r,rl,pp,X,l0,[y],rfl,h.h.same s2,ev,h2,λm hm=>by rw[kC.mp hm];exact inBi y0 (by lia),λw=>(q24.2.mp w yl).elim,λ_=>⟨17,_,by lia,by lia,hc.imp id λw=>w.1,hZ,λH3 h3 k3=>?_⟩⟩
have hk1:=(s2 _ _ h.hk)
have hk3:=k3.k _ _ h.nkF hk1
have kH:Keep (fx t x r pp) H H3:=(Keep.same s2).trans k3
have kM:Keep (kd::fx t x r pp) H H3:=kH.mono (λy hy=>hV _ hy)
have hnd:X.s.hl.Nodup:=(sB _ _).nodup_iff.mpr (gI _ h.d.x.w.qs.ok.nd)
have gl:(gvn X.s.hl [y]).length=1:=by have:(gvn X.s.hl [y]).Perm [y]:=(sQ (gI _ hnd) (by simp)).mpr λm=>⟨λw=>kC.mpr ((q24.1 m).mp w).1,λw=>(q24.1 m).mpr ⟨kC.mp w,yl⟩⟩;exact this.length_eq
obtain⟨w1,w2⟩:=a.wn
have:=a.rl
obtain⟨q0,hq0,rfl⟩:=kO.mp z
have vq:valV (dI KD) (Sum.inl q0.1:Key)=some (.int q0.2):=q20 (m:=q0.2) h.d.nd hq0
refine⟨_,rfl,kd,rfl,.inl ⟨_,.inl hk3⟩,_,rfl,_,Sum.inl q0.1,_,hk3,rfl,vq,?_⟩
rw[q93]
have eD:(KD.filter λq=>!decide (q.1∈gvn X.s.hl [q0.1]))=qZ KD q0.1:=by
 unfold qZ;refine pB λq _=>?_;by_cases e:q.1=q0.1
 ·rw[hG ((q24.1 q.1).mpr ⟨e,yl⟩),h9 (λw=>w e)];rfl
 rw[h9 (λw=>e ((q24.1 q.1).mp w).1),hG e];rfl
have d':=h.d.gave a (g:=gvn X.s.hl [q0.1]) (λm hm=>by rw[((q24.1 m).mp hm).1];lia)
rw[eD]at d'
obtain⟨_,f2,f3,_,f5,_,f7,_⟩:=q5M a.x (gvn X.s.hl [q0.1])
have rcE:(Y.s.forgs (gvn X.s.hl [q0.1])).rc.length≤300*(n+1):=by rw[f3];lia
have psE:(⟨Y.s.forgs (gvn X.s.hl [q0.1]),Y.g,Y.ps⟩:Sx).ps.length≤20*(n+1):=by show Y.ps.length≤_;lia
have g:=h.set h3 kH d' (n':=n+1) rcE psE
obtain⟨ps',hps',prs'⟩:=g.h.hp
have o3:=g.h.j.o
rw[g.h.ep]at o3
have fin:=kk ⟨Y.s.forgs (gvn X.s.hl [q0.1]),Y.g,Y.ps⟩ _ ⟨g,by show(Y.s.forgs (gvn X.s.hl [q0.1])).lf=none;rw[f5];exact lY,by show(1+k.ie)*(Y.s.forgs (gvn X.s.hl [q0.1])).q.P≤(Y.s.forgs (gvn X.s.hl [q0.1])).rmX;rw[f2,f7];exact a.ge⟩ (kM.trans (Keep.upd hk3 (λ_ z=>by cases z) (by simp)))
rw[gl]
refine⟨_,rfl,rfl,_,rfl,iteT (iV rfl (iF o3 T.bN T.eC rfl ⟨pp,ps',rfl,.inl (SqL.of hps'),_,rfl,iI (iI ?_)⟩))⟩
rw[prs'.len]
have e9:decide (((Y.ps.length:Nat):Int)≤((X.ps.length:Nat):Int)+1)=true:=hG (by lia)
show Q (V.bl (decide (((Y.ps.length:Nat):Int)≤((X.ps.length:Nat):Int)+1))) _
rw[e9]
exact fin)
inductive spFx(t:Adr)(vs:List V)(H:Hp)(Q:VK)(E_:XK):Prop
|mk:∀x k sh sr r rl pp X kd KD,∀n:Nat,∀y:Int,vs=[.ref x.s,.int y]→Kw t H x k sh sr r rl pp X kd KD n→k.ev=false→n<1000→0≤y→y<sh→y∉KD.map (·.1)→sr≤KD.length→(∀H',Same H H'→Q (.bl true) H')→spFx t vs H Q E_
theorem q9N(T:Txt K mg t)(S:Fns K t)(B:BmIn base mg):S.aA8.Ok0 P w mg base 18 (spFx t):=by(
refine S.aA8.F.ok0 q1M λcdv A _ s H vs Q E hr h=>?_
obtain⟨x,k,sh,sr,r,rl,pp,X,kd,KD,n,y,rfl,⟨h,lf,gr⟩,ev,n9,y0,y1,z,ls,kk⟩:=h
have h64:=h.d.h64
have rcn:=h.rcn
have psn:=h.psn
refine⟨_,(qB (qV (i:=2) q1M.nd rfl (Or.inl rfl) zT) (q1X (qI5 (λpins XE ES tk1 po1=>(qD (qU (jJ tk1 (pv 0) T.bN T.tO (q1R T S B).mono hr S.iY.b .nil (qA (pv 1) (qA qG qE)))))) (qF7 (λea=>(q06 rfl T.aCT rfl (v:=.ref t.C_Full))) rfl (λea=>(qD (qV (i:=2) q1M.nd rfl (Or.inl rfl) zT))) (qI4 vX))) (qD (qL (pv 2))))),?_⟩
try dsimp-beta-proj-iota-zeta-eta only[wishK,cxK]
refine⟨λσ' H'=>σ'=[some (.ref x.s),some (.int y),some (.bl true)]∧Same H H',?_,?_⟩
·have ff:hold X.s.q y=false∧(sr:Int)≤((hdN X.s.q.V).length:Int):=by have pl:=h.d.pm.length_eq;rw[hX]at pl;have pl:(hdN X.s.q.V).length=KD.length:=pl;exact⟨by rw[h.hold];exact h9 z,by lia⟩
 refine(iV rfl (iM h.h.j.o rfl ⟨_,rfl,x,k,sh,_,r,rl,pp,X,y,0,0,(X,.ok 0),rfl,h.h,ev,by lia,by lia,h64,inBi y0 (by lia),inBi (by decide) (by decide),λ_ H1 s1=>?_,λnf=>(nf ff).elim⟩));intro ea hea;exact⟨_,T.aBV,iteT ⟨rfl,s1⟩⟩
rintro σ' H' ⟨rfl,s1⟩
exact⟨_,rfl,kk H' s1⟩)
theorem qER{KD:Mp}{n v:Int}(nd:(KD.map (·.1)).Nodup){m:Int}:m∈(putW KD n v).map (·.1)↔m=n∨m∈KD.map (·.1):=by(
have mp:∀q,q∈putW KD n v↔q=(n,v)∨(q∈KD∧q.1≠n):=λq=>by rw[q91 nd,qX]
rw[kO,kO]
constructor
·rintro⟨q,hq,rfl⟩
 rcases(mp q).mp hq with e|⟨e,_⟩
 ·rw[e];exact .inl rfl
 exact .inr ⟨q,e,rfl⟩
intro z
by_cases e:m=n
·exact⟨(n,v),(mp _).mpr (.inl rfl),e.symm⟩
rcases z with z|⟨q,hq,rfl⟩
·exact absurd z e
exact⟨q,(mp _).mpr (.inr ⟨hq,e⟩),rfl⟩)
theorem qES{KD:Mp}{n m:Int}:m∈(qZ KD n).map (·.1)↔m∈KD.map (·.1)∧m≠n:=by(
rw[kO,kO]
constructor
·rintro⟨q,hq,rfl⟩
 obtain⟨h1,h2⟩:=qX.mp hq;exact⟨⟨q,h1,rfl⟩,h2⟩
rintro⟨⟨q,hq,rfl⟩,h2⟩
exact⟨q,qX.mpr ⟨hq,h2⟩,rfl⟩)
noncomputable def hsL(c:Int)(m:Nat):List Int:=(List.range m).map λ(k:Nat)=>(c+5*(k:Int))%64
theorem q8B{c:Int}{m:Nat}{y:Int}(h:y∈hsL c m):0≤y∧y<64:=by obtain⟨k,_,rfl⟩:=kO.mp h;lia
theorem q8C{c:Int}{m:Nat}(h:m<64):(c+5*(m:Int))%64∉hsL c m:=λz=>by(
obtain⟨k,hk,e⟩:=kO.mp z
have:=mK.mp hk
have e:(c+5*(k:Int))%64=(c+5*(m:Int))%64:=e
lia)
theorem q3L{c:Int}{m:Nat}:hsL c (m+1)=hsL c m++[(c+5*(m:Int))%64]:=by unfold hsL;rw[lI,gB];rfl
theorem qET{c:Int}:∀{m:Nat},m≤64→(hsL c m).Nodup
|0,_=>aX
|m+1,h=>by rw[q3L];exact rW.mpr ⟨qET (by lia),by simp,λa ha b hb=>by rw[kC.mp hb];intro e;exact q8C (by lia) (e▸ha)⟩
theorem q25{c:Int}{m:Nat}:(hsL c m).length=m:=by unfold hsL;rw[hX,gD]
theorem qAJ{c:Int}{m u:Nat}(h:u<m):((hsL c m).map V.int)[u]?=some (.int ((c+5*(u:Int))%64)):=by unfold hsL;rw[mL,mL,List.getElem?_range h];rfl
theorem q8D{c:Int}{m u:Nat}(h:u<m):(c+5*(u:Int))%64∈hsL c m:=kO.mpr ⟨u,mK.mpr h,rfl⟩
theorem qAK{KD:Mp}{c:Int}{m:Nat}(nd:(KD.map (·.1)).Nodup)(h:∀y,y∈KD.map (·.1)↔y∈hsL c m)(m6:m≤64):KD.length=m:=by have:=((sQ nd (qET m6)).mpr h).length_eq;rwa [hX,q25]at this
theorem q9O{KD:Mp}{c y:Int}{m:Nat}(nd:(KD.map (·.1)).Nodup)(h:∀y,y∈KD.map (·.1)↔y∈hsL c m)(m6:m≤64)(ym:y∈hsL c m):(qZ KD y).length+1=m:=by obtain⟨q,hq,e⟩:=kO.mp ((h y).mpr ym);have:=(vK nd (n:=y)).2 q.2 (by rw[←e];exact hq);rw[this,qAK nd h m6]
theorem qEU{KD:Mp}{c y v:Int}{m:Nat}(nd:(KD.map (·.1)).Nodup)(nd2:((qZ KD y).map (·.1)).Nodup)(h:∀y,y∈KD.map (·.1)↔y∈hsL c m)(ym:y∈hsL c m):∀z,z∈(putW (qZ KD y) y v).map (·.1)↔z∈hsL c m:=λz=>by(
rw[qER nd2,qES,h]
constructor
·exact λw=>w.elim (λe=>e▸ym) λw=>w.1
intro w
by_cases e:z=y
·exact .inl e
exact .inr ⟨w,e⟩)
theorem qJ4(T:Txt K mg t)(S:Fns K t)(B:BmIn base mg):S.law.Ok0 P w mg base 19 (q3T K [t.bM]):=by(
refine S.law.F.ok0 uY λcdv A _ s H vs Q E hr h=>?_
obtain⟨a,ns,rfl,hS,hlen,hT0,k⟩:=h
have hT:H t.bM=some (.tbl #[]):=hT0 _ (kC.mpr rfl)
have hu:=q38 hr
have s9:(99999:Nat)<sizeLine:=by decide
refine⟨_,(qB (q3P (qR (q9L T S).mono hr rfl T.aB3 T.aCG S.aBP.b .nil qK (qA (pv 0) qE)) (qIJ rfl (yZ (j9 (i:=1) uY.nd rfl (Or.inl rfl)) (yZ (j9 (i:=2) uY.nd rfl (Or.inl rfl)) (yZ (j9 (i:=3) uY.nd rfl (Or.inl rfl)) (yZ (j9 (i:=4) uY.nd rfl (Or.inl rfl)) q4L)))))) (qB (qV (i:=5) uY.nd rfl (Or.inl rfl) (q4O T.aC1 (q6G T S).mono hr rfl T.aDA S.tU.b .nil qK (qA (q4O T.aDI (q85 T S).mono hr rfl T.aDF S.aBM S.aBA qK (qA (pv 1) (qA (pv 2) qE))) (qA (q4O T.aC8 (q6D T S).mono hr rfl T.aC2 S.aA0 S.aA3 qK (qA (pv 1) (qA (pv 2) (qA qG (qA (pv 3) (qA (pv 4) qE)))))) (qA (qR (q9M T S).mono hr rfl T.aCJ T.aCH S.aBD.b .nil qK (qA (qR (jP T S).mono hr rfl T.bZ T.bY S.eA.b .nil qK (qA (pv 0) (qA qG qE))) qE)) qE))))) (qB (qV (i:=6) uY.nd rfl (Or.inl rfl) q55) (qB (q3A (i:=7) ["_law_script","_law_k"] [0] rfl (q3Q rfl T.aAJ (qA (jF (q1U rfl) (by rfl) T.aC9 (by kernel_rfl) (qA (pv 3) (qA qG qE))) qE)) (λ_ _ _ _ _=>(j9 (i:=1) (show List.Nodup (["_law_script","_law_k"]:List Str)from by decide) rfl (Or.inl rfl))) (λ_ _ _ _ _=>qAW) (λ_ _ _ _ _=>(qO uG (qO yL (qR (jP T S).mono hr rfl T.bZ T.bY S.eA.b .nil qK (qA (pv 0) (qA qG qE))) (qO yS qG (pv 1))) qG)) (by kernel_rfl) (u7 (by decide)) uY.nd rfl (Or.inl rfl)) (qB (vJ d8 rfl (yE (pv 7)) (j9 (i:=8) uY.nd rfl (Or.inl rfl)) (qD (jC (yD (jT (qR (vV T S B).mono hr rfl T.iN T.iK S.fW.b .nil qK (qA (pv 5) (qA (pv 6) (qA (pv 8) (qA (qO yS (pv 8) (qO q9S qG qG)) qE))))))) (qD (qL zT)) qP))) (qB (jC (PW.pt (qGG (yD (jT (qR (q0W T S B).mono hr rfl T.oE T.oJ S.iB.b .nil qK (qA (pv 5) (qA (pv 6) (qA (jB jI (pv 7) qG (λ_ _=>rfl)) qE)))))) (qCH (yD (jT (qR (vV T S B).mono hr rfl T.iN T.iK S.fW.b .nil qK (qA (pv 5) (qA (pv 6) (qA (jB jI (pv 7) qG (λ_ _=>rfl)) (qA qG qE)))))))))) (qD (qL zT)) qP) (qB (vJ d8 rfl (q6L rfl T.aAJ (qA qG (qA (jF (q1U rfl) (by rfl) T.aC9 (by kernel_rfl) (qA (jF jA (by rfl) T.tQ g5 (qA (pv 0) qE)) (qA qG qE))) qE))) (j9 (i:=9) uY.nd rfl (Or.inl rfl)) (qB (qV (i:=10) uY.nd rfl (Or.inl rfl) (jB jI (pv 0) (pv 9) (λ_ _=>rfl))) (qB (qV (i:=8) uY.nd rfl (Or.inl rfl) (jB jI (pv 7) (qO uG (qO q1T (pv 10) qG) (jF jA (by rfl) T.tQ g5 (qA (pv 7) qE))) (λ_ _=>rfl))) (q1X (jC (PW.pt (q9P (qT zU (qO uG (pv 10) qG) qG (qS _)) (q79 (yD (jT (qR (q0W T S B).mono hr rfl T.oE T.oJ S.iB.b .nil qK (qA (pv 5) (qA (pv 6) (qA (pv 8) qE))))))))) (qD (qL zT)) qP) (qD (jC (yD (jT (qR (vV T S B).mono hr rfl T.iN T.iK S.fW.b .nil qK (qA (pv 5) (qA (pv 6) (qA (pv 8) (qA (qO uG (qO yL (qO yS (pv 10) qG) (pv 9)) (qO q9S qG qG)) qE))))))) (qD (qL zT)) qP)))))) (qB (vJ d8 rfl (q3Q rfl T.aAJ (qA qG qE)) (j9 (i:=8) uY.nd rfl (Or.inl rfl)) (qD (jC (qT q8J (jJ vX (pv 5) T.bN T.aBS (q6H T S).mono hr S.tY.b .nil (qA (pv 8) qE)) (qD6 hu (pv 6) (pv 8) ⟨rfl,rfl,rfl,rfl⟩) (qS _)) (qD (qL zT)) qP))) (qB (jC (qT q8J (jF jA (by rfl) T.tQ g5 (qA (qW (pv 5) T.bN T.fO (u9 T S).mono hr S.fN.b .nil qK) qE)) (jF jA (by rfl) T.tQ g5 (qA (pv 7) qE)) (qS _)) (qD (qL zT)) qP) (qD (qL (qCI (yP qCN (pv 3) qG (qS _)) (q07 (qR (q9N T S B).mono hr rfl T.aB6 T.aCD S.aA8.b .nil qK (qA (pv 5) (qA (qO uG (qO yL (jB jI (pv 7) (qJF qH8 qG) (λ_ _=>rfl)) qG) qG) qE)))))))))))))))),?_⟩
try dsimp-beta-proj-iota-zeta-eta only[wishK,cxK]
refine⟨_,rfl,a,ns,rfl,hS,λc P1 i c1 c16 p1 p2 cp c6 p0 H1 n0 s1 h1=>?_⟩
refine⟨p0,_,rfl,SqL.of h1,rfl,_,_,rfl,_,_,rfl,_,_,rfl,_,_,rfl,rfl,?_⟩
obtain⟨sh,esh⟩:∃sh:Nat,c*P1-2=sh:=⟨_,rfl⟩
rw[esh]
have sh1:1≤sh:=by lia
have sh64:sh≤64:=by lia
have shc:sh+2=c*P1:=by lia
refine⟨_,rfl,_,rfl,?_⟩
dsimp only[tNil]
refine qK7 (by lia) (by lia) (by lia) (by lia) (by decide) (by decide) ?_
refine λch ca H6 hc sC fC=>?_
refine⟨_,rfl,_,rfl,_,rfl,_,rfl,?_⟩
dsimp only[tNil,pP,d5]
refine qK8 (by lia) (by lia) (by lia) (by lia) (by decide) (by decide) (by lia) (by rw[show((c+1+i:Nat):Int)-1-(i:Int)=(c:Int) by lia,←dR];lia) (by lia) (by lia) (by decide) (by decide) ?_
intro tm td H7 s7 htm
have s07:=(s1.trans sC).trans s7
refine⟨_,rfl,a,ns,4,rfl,s07.seq hS,by decide,_,rfl,λru f H8 hR8 s8 nru=>?_⟩
have s08:=s07.trans s8
have hc8:=hc.same (s7.trans s8)
have htm8:=s8 _ _ htm
have tb8:TbF t H8:=⟨#[],s08 _ _ hT,.inl rfl⟩
refine λsA sd nA nsd nn=>?_
have sM:Same H8 (upd (upd H8 sd (.own sA)) sA (.ins t.C_Store sd [])):=q1Y nA nsd
refine⟨sA,sd,tm,td,ch,ca,_,_,_,_,_,_,c+1+i,P1,rfl,qH,sM _ _ htm8,hc8.same sM,rfl,rfl,by lia,tb8.same sM,λkb pp H9 st9 hp9 npp fk off up=>⟨rfl,?_⟩⟩
have s89:Same H8 H9:=λb o e=>up b o (qI e nA) (sM b o e)
have s09:=s08.trans s89
obtain⟨_,_,_,er8⟩:=hR8.ins
have npp8:H8 pp=none:=Same.free sM npp
obtain⟨kt,ekt⟩:∃kt:Tm,kt=⟨i,1000000,false⟩:=⟨_,rfl⟩
obtain⟨ix0,ge0⟩:=qG9 (k:=kt) (B:=c+1+i) (P:=P1) (by lia) p1 (by lia) (by rw[ekt];show 1+i< _;lia) (by rw[ekt];show(1:Int)≤1000000;decide)
obtain⟨X,eX⟩:∃X:Sto,X=⟨sA,sd,tm,td,ch,ca,kb,.ref ru,.ref pp⟩:=⟨_,rfl⟩
have of:Off t X [ru]:=by rw[eX];exact qJ3 (hc.same s7) htm (s07 _ _ hT) (λu hu=>by rw[kC.mp hu];exact nru) (λu hu=>by rw[kC.mp hu];exact⟨_,er8⟩) nA sM fk
rw[←eX]at st9 off
have hx9:XX t H9 X kt 64 (sh:Int) ru [] pp ⟨newX (c+1+i) P1,.rk f,[]⟩:=qJ2 (by rw[ekt];exact st9) (by rw[eX]) (hR8.keep (Keep.same s89) (F:=[]) (by simp)) of (by rw[eX]) hp9 off (λz=>by rw[kC.mp z,er8]at npp8;cases npp8) (by lia) (by lia) p1 (by lia) ix0.w
have frX:∀b∈fx t X ru pp,b=t.bM∨H b=none:=by
 intro b hb;rw[eX]at hb;have hb:b=pp∨b=ru∨b=t.bM∨b∈foot ch ca∨b∈bf kb:=by simpa[sf]using hb
 rcases hb with hb|hb|hb|hb|hb
 ·exact .inr (by rw[hb];exact s08.free npp8)
 ·exact .inr (by rw[hb];exact s07.free nru)
 ·exact .inl hb
 ·exact .inr (Same.free s1 (fC b (hV _ hb)))
 exact .inr (Same.free s08 (Same.free sM (fk b hb)))
refine λkd nkd=>?_
have sK:Same H9 (upd H9 kd (.dK [])):=Same.upd nkd
have hkd:(upd H9 kd (.dK [])) kd=some (.dK []):=qH
generalize upd H9 kd (.dK [])=HA at sK hkd ⊢
have kin:kd∉X.a.li::fx t X ru pp:=λz=>by
 rcases kI.mp z with z|z
 ·obtain⟨m,hc',_⟩:=hx9.chip;obtain⟨o,e,_⟩:=hc'.has (show X.a.li∈X.a.li::foot X.c X.a by simp);rw[←z,nkd]at e;cases e
 obtain⟨o,e⟩:=hx9.inF kd z;rw[nkd]at e;cases e
have kx0:KX t HA X kt 64 sh ru [] pp ⟨newX (c+1+i) P1,.rk f,[]⟩ kd [] 0:=by
 refine⟨hx9.same sK,⟨ix0,Wt.of ge0,trivial,aX,λy hy=>absurd hy (by simp),λn _=>?_,λy hy=>absurd hy (by simp),mQ _,?_,sh64,by lia⟩,hkd,kin,by simp,mQ _,mQ _⟩
 ·show(∃p,(n,p)∈([]:Mp))↔_;simp
 show sh+2≤(c+1+i-(1+kt.ie))*P1;rw[ekt];show sh+2≤(c+1+i-(1+i))*P1;rw[show c+1+i-(1+i)=c by lia];lia
have frF:∀b∈kd::fx t X ru pp,b=t.bM∨H b=none:=λb hb=>by
 rcases kI.mp hb with e|hb
 ·exact .inr (by rw[e];exact Same.free s09 nkd)
 exact frX b hb
have kw0:Kw t HA X kt 64 sh ru [] pp ⟨newX (c+1+i) P1,.rk f,[]⟩ kd [] 0:=⟨kx0,rfl,ge0⟩
have rtA:RT t H HA:=RT.of (s09.trans sK)
have ev:kt.ev=false:=by rw[ekt]
rw[show sA=X.s by rw[eX]]
have inA:∀b∈kd::fx t X ru pp,∃o,HA b=some o:=λb hb=>by
 rcases kI.mp hb with e|hb
 ·exact⟨_,e▸hkd⟩
 obtain⟨o,e⟩:=hx9.inF b hb;exact⟨o,sK _ _ e⟩
clear kx0 hx9 st9 off hp9 npp fk up sM tb8 htm8 hc8 s08 s07 s8 s7 htm sC fC hc s1 h1 nsd nn nA nru s89 s09 npp8 of er8 hR8 eX nkd hkd sK frX kin ekt ge0 ix0
generalize (⟨newX (c+1+i) P1,.rk f,[]⟩:Sx)=X0 at kw0
have hSA:=rtA.sq hT hS
obtain⟨m,em,m1,m64,ms⟩:∃m:Nat,(if(64:Int)<(sh:Int)then(64:Int)else(sh:Int))=(m:Int)∧1≤m∧m≤64∧m=sh:=⟨sh,by rw[hC (by lia)],sh1,sh64,rfl⟩
refine⟨_,rfl,_,_,rfl,?_⟩
rw[em]
refine⟨(m:Int),rfl,by lia,by lia,λD H2 nD s2 hD=>?_⟩
obtain⟨c5,ec5⟩:∃c5,c5=jX ns 5:=⟨_,rfl⟩
refine q72 (D:=D) (λu H3=>Same HA H3∧H3 D=some (.lst ((hsL c5 u).map V.int))) ⟨s2,hD⟩ (λu H3 hu' hp=>?_) (λH3 hp=>?_)
·obtain⟨sm,hd⟩:=hp;have hu2:u<m:=by lia
 refine⟨_,rfl,a,ns,5,rfl,?_,by decide,_,rfl,iI ⟨.inl ⟨by decide,by decide⟩,iI (iI ⟨(by show(0:Int)<64;decide),?_⟩)⟩⟩
 ·exact(rtA.same sm).sq hT hS
 rw[←ec5,x9];refine⟨_,hd,by rw[hX,q25];lia,λb o e'=>by rw[qC (qI e' nD)];exact sm _ _ e',?_⟩;rw[qH,q3L,gB];rfl
obtain⟨sm,hd⟩:=hp
rw[show(m:Int).toNat=m from mM m]at hd
have nDF:D∉kd::fx t X ru pp:=λz=>by obtain⟨o,e⟩:=inA D z;rw[nD]at e;cases e
have kw1:=kw0.same sm
have rt1:=rtA.same sm
clear kw0 rtA hSA sm inA s2 hD nD
obtain⟨F,eF⟩:∃F:Option V→Option V→Option V→St,F=λy8 y9 y10=>[some (.ref a),some (.int ((c+1+i:Nat):Int)),some (.int (P1:Int)),some (.int (sh:Int)),some (.int (i:Int)),some (.ref X.s),some (.ref kd),some (.ref D),y8,y9,y10]:=⟨_,rfl⟩
have kk1:∀y,y∈([]:Mp).map (·.1)↔y∈hsL c5 0:=λy=>aQ
generalize ([]:Mp)=KD1 at kw1 kk1
refine⟨_,rfl,D,rfl,⟨_,SqL.of hd⟩,?_⟩
refine qCD (K:=K) (xs:=(hsL c5 m).map V.int) (λu σ' H'=>∃y8 Y KD,σ'=F y8 none none∧Kw t H' X kt 64 sh ru [] pp Y kd KD u∧(∀y,y∈KD.map (·.1)↔y∈hsL c5 u)∧H' D=some (.lst ((hsL c5 m).map V.int))∧RT t H H') ⟨none,X0,KD1,by rw[eF];rfl,kw1,kk1,hd,rt1⟩ (λu σ' H' _ hp=>?_) (λu v σ' H4 D' nxt hv hp=>?_) (λσ' H4 hp=>?_)
·obtain⟨_,_,_,_,_,_,hd,_⟩:=hp;exact SqL.of hd
·obtain⟨y8,Y,KD,eσ,kw,ki,hd,rt⟩:=hp;rw[eF]at eσ;subst eσ;have hu2:u<m:=by have:=(kE.mp hv).1;rwa [hX,q25]at this
 rw[qAJ hu2]at hv;obtain rfl:=kW hv;have yr:=q8B (q8D (c:=c5) hu2);have yn:=q8C (c:=c5) (m:=u) (by lia);have es:=q3L (c:=c5) (m:=u);generalize (c5+5*(u:Int))%64=y at yr yn es ⊢;have kl:=qAK kw.h.d.nd ki (by lia);have e28:(10:Int) ^ (28:Int).toNat=10000000000000000000000000000:=by decide
 have v0:0≤y*10 ^ (28:Int).toNat:=by rw[e28];lia
 have v1:y*10 ^ (28:Int).toNat≤10 ^ 30-1:=by rw[e28];lia
 refine⟨_,rfl,_,rfl,_,rfl,_,rfl,iI ⟨⟨by decide,by decide,by decide⟩,iI ⟨.inl ⟨by lia,by lia⟩,X,kt,64,sh,ru,[],pp,Y,kd,KD,u,y,y*10 ^ (28:Int).toNat,rfl,kw,ev,by lia,yr.1,yr.2,.inr (by lia),v0,v1,λY2 H5 kw5 k5=>⟨_,rfl,iteF (nxt _ _ ⟨_,Y2,putW KD y (y*10 ^ (28:Int).toNat),by rw[eF];rfl,kw5,λz=>?_,k5.k _ _ nDF hd,rt.keep k5 frF⟩)⟩⟩⟩⟩;rw[qER kw.h.d.nd,ki,es,gF,kC];exact Or.comm
rw[hX,q25]at hp
obtain⟨y8,Y,KD,eσ,kw,ki,hd,rt⟩:=hp
rw[eF]at eσ
subst eσ
clear kw1 kk1 rt1
have hm0:(0:Nat)<m:=by lia
have at0:atI ((hsL c5 m).map V.int) 0=some (.int ((c5+5*((0:Nat):Int))%64)):=uH (j:=0) (qAJ hm0)
have ym:=q8D (c:=c5) hm0
generalize (c5+5*((0:Nat):Int))%64=y at at0 ym
have yr:=q8B ym
have dl:=q9O kw.h.d.nd ki m64 ym
refine⟨_,rfl,_,rfl,_,rfl,iL (k:=0) (v:=_) (SqL.of hd) at0 ⟨X,kt,64,sh,ru,[],pp,Y,kd,KD,m,y,rfl,kw,ev,by lia,yr.1,yr.2,(ki y).mpr ym,λY2 H5 kw5 k5=>⟨_,rfl,?_⟩⟩⟩
have hd5:=k5.k _ _ nDF hd
refine⟨_,rfl,_,rfl,_,rfl,iL (k:=0) (v:=_) (SqL.of hd5) at0 ⟨X,kt,64,sh,ru,[],pp,Y2,kd,qZ KD y,m+1,y,7,rfl,kw5,ev,by lia,yr.1,yr.2,.inr (by lia),by decide,by decide,λY3 H6 kw6 k6=>⟨_,rfl,iteF ?_⟩⟩⟩
have ki6:=qEU (v:=7) kw.h.d.nd kw5.h.d.nd ki ym
have hd6:=k6.k _ _ nDF hd5
have rt6:=(rt.keep k5 frF).keep k6 frF
clear kw ki hd rt kw5 k5 hd5 k6 at0 dl
generalize putW (qZ KD y) y 7=KD6 at kw6 ki6
refine⟨_,rfl,a,_,rfl,.inl (rt6.sq hT hS),_,_,rfl,?_⟩
obtain⟨hi,eh,h38,hln⟩:∃h:Nat,(if(38:Int)<((ns.map V.int).length:Nat)then(38:Int)else((ns.map V.int).length:Nat))=(h:Int)∧h≤38∧h≤ns.length:=by
 rw[hX];by_cases z:(38:Int)<(ns.length:Nat)
 ·exact⟨38,hU z,by lia,by lia⟩
 exact⟨ns.length,hC z,by lia,by lia⟩
rw[eh]
refine⟨_,_,rfl,⟨by decide,by decide,by lia,by lia⟩,?_⟩
refine q5O (λu σ' H'=>∃y8 y9 y10 Y KD,∃n:Nat,σ'=F y8 y9 y10∧n≤m+2+2*u∧Kw t H' X kt 64 sh ru [] pp Y kd KD n∧(∀y,y∈KD.map (·.1)↔y∈hsL c5 m)∧H' D=some (.lst ((hsL c5 m).map V.int))∧RT t H H') ⟨_,_,_,Y3,KD6,m+2,by rw[eF],kJ _,kw6,ki6,hd6,rt6⟩ (λu σ' H7 D' nxt hu' hp=>?_) (λσ' H7 hp=>?_)
·obtain⟨y8',y9,y10,Y,KD,n,eσ,nu,kw,ki,hd,rt⟩:=hp;rw[eF]at eσ;subst eσ;clear kw6 ki6 hd6 rt6;have hi6:6+u<ns.length:=by lia
 have u38:u<38:=by lia
 have at1:atI (ns.map V.int) (6+(u:Int))=some (.int ns[6+u]):=by refine(show atI (ns.map V.int) ((6+u:Nat):Int)=_ from uH ?_);rw[mL,kD hi6];rfl
 generalize ns[6+u]=z at at1;have hm:=q2K (z / 4) (m:Int) (by lia);obtain⟨v,ev2⟩:∃v:Nat,z / 4%(m:Int)=(v:Int):=⟨(z / 4%(m:Int)).toNat,by lia⟩;have vm:v<m:=by lia
 have at2:atI ((hsL c5 m).map V.int) (v:Int)=some (.int ((c5+5*(v:Int))%64)):=uH (qAJ vm);have ym:=q8D (c:=c5) vm;generalize (c5+5*(v:Int))%64=y at at2 ym;have yr:=q8B ym;refine⟨_,rfl,_,rfl,a,_,_,.int z,rfl,rfl,rt.sq hT hS,at1,?_⟩;have eL:((((hsL c5 m).map V.int).length:Nat):Int)=(m:Int):=by rw[hX,q25]
 refine⟨_,rfl,_,rfl,iI ⟨⟨by decide,by decide⟩,_,rfl,D,_,rfl,.inl (SqL.of hd),iI ⟨by show(0:Int)<((((hsL c5 m).map V.int).length:Nat):Int);rw[eL];lia,iL (k:=_) (v:=.int y) (SqL.of hd) (by rw[eL,ev2];exact at2) ?_⟩⟩⟩;refine⟨λσ' H'=>∃Y KD,∃n:Nat,σ'=F (some (.int y)) (some (.int (6+(u:Int)))) (some (.int z))∧n≤m+2+2*u+1∧Kw t H' X kt 64 sh ru [] pp Y kd KD n∧(y∈KD.map (·.1)∨KD.length<sh)∧(∀w,w=y∨w∈KD.map (·.1)↔w∈hsL c5 m)∧H' D=some (.lst ((hsL c5 m).map V.int))∧RT t H H',?_,?_⟩
 ·refine⟨_,rfl,iI ⟨(by show(0:Int)<4;decide),rfl,_,rfl,ite2 (λ_=>?_) (λ_=>?_)⟩⟩
  ·have dl:=q9O kw.h.d.nd ki m64 ym;refine⟨_,rfl,_,rfl,_,rfl,X,kt,64,sh,ru,[],pp,Y,kd,KD,n,y,rfl,kw,ev,by lia,yr.1,yr.2,(ki y).mpr ym,λY2 H8 kw8 k8=>⟨_,rfl,iteF ?_⟩⟩;refine⟨Y2,_,n+1,by rw[eF];rfl,by lia,kw8,.inr (by lia),λw=>?_,k8.k _ _ nDF hd,rt.keep k8 frF⟩;rw[qES,ki];constructor
   ·exact λq=>q.elim (λe=>e▸ym) λq=>q.1
   intro q;by_cases e:w=y
   ·exact .inl e
   exact .inr ⟨q,e⟩
  refine⟨Y,KD,n,by rw[eF];rfl,by lia,kw,.inl ((ki y).mpr ym),λw=>?_,hd,rt⟩;rw[ki];exact⟨λq=>q.elim (λe=>e▸ym) id,.inr⟩
 clear kw ki hd rt nu;rintro σ' H8 ⟨Y2,KD2,n2,eσ,nu,kw,yk,ki,hd,rt⟩
 rw[eF]at eσ;subst eσ;have mv:=q2K (z*48271+(6+(u:Int))) (10 ^ (30:Int).toNat) (by decide);refine⟨_,rfl,_,rfl,_,rfl,_,rfl,iI ⟨.inr ⟨by decide,by decide⟩,_,rfl,iI (iI ⟨⟨by decide,by decide,by decide⟩,iI ⟨(by show(0:Int)<10 ^ (30:Int).toNat;decide),X,kt,64,sh,ru,[],pp,Y2,kd,KD2,n2,y,_,rfl,kw,ev,by lia,yr.1,yr.2,yk,mv.1,by have:_ <(10:Int) ^ 30:=mv.2;lia,λY3 H9 kw9 k9=>⟨_,rfl,iteF (nxt _ _ ⟨_,_,_,Y3,_,n2+1,by rw[eF],by lia,kw9,λw=>?_,k9.k _ _ nDF hd,rt.keep k9 frF⟩)⟩⟩⟩)⟩⟩;rw[qER kw.h.d.nd];exact ki w
obtain⟨y8',y9,y10,Y,KD,n,eσ,nu,kw,ki,hd,rt⟩:=hp
rw[eF]at eσ
subst eσ
clear kw6 ki6 hd6 rt6
refine⟨64,rfl,by decide,by decide,?_⟩
refine q5O (λu σ' H'=>∃y8,σ'=F y8 y9 y10∧Same H7 H') ⟨_,by rw[eF],Same.refl _⟩ (λu σ' H8 D' nxt hu' hp=>?_) (λσ' H8 hp=>?_)
·obtain⟨y8,eσ,s8⟩:=hp;rw[eF]at eσ;subst eσ;have u64:u<64:=by simpa using hu'
 have kw8:=kw.same s8;rw[x9];refine(iV rfl (iM kw8.h.h.j.o rfl ⟨_,rfl,X,kt,64,_,Y.s,(u:Int),rfl,kw8.h.h.j,inBi (by lia) (by lia),λhn H1 s1=>?_,λp w hp n6 hw=>⟨λd=>?_,λ_ H1 s1=>?_⟩⟩))
 ·rw[kw8.h.hold]at hn;have z:=dJ hn;have g:=DGet.k (k:=Sum.inl (u:Int)) (s1 _ _ kw8.h.hk);rw[q2L z]at g;exact⟨_,rfl,kd,rfl,.inl ⟨_,.inl (s1 _ _ kw8.h.hk)⟩,_,rfl,_,g,rfl,_,rfl,by rw[hG (show V.non=(none:Option V).getD V.non from rfl)];exact iteF (nxt _ _ ⟨_,by rw[eF];rfl,s8.trans s1⟩)⟩
 ·rw[kw.lf]at d;cases d
 have z:(u:Int)∈KD.map (·.1):=(kw.h.d.eq _ n6).mp ⟨p,hp⟩;obtain⟨q,hq,e⟩:=kO.mp z;have e:q.1=(u:Int):=e;have e2:q.2=w.2:=(kw.h.d.hv q hq).one kw.h.d.x.w ⟨p,w.1,by rw[e];exact hp,hw⟩;have g:=DGet.k (k:=Sum.inl q.1) (s1 _ _ kw8.h.hk);rw[q20 (m:=q.2) kw.h.d.nd hq,e2]at g;rw[e]at g;exact⟨_,rfl,kd,rfl,.inl ⟨_,.inl (s1 _ _ kw8.h.hk)⟩,_,rfl,_,g,rfl,_,rfl,by rw[hG (show V.int w.snd=(some (V.int w.snd)).getD V.non from rfl)];exact iteF (nxt _ _ ⟨_,by rw[eF];rfl,s8.trans s1⟩)⟩
obtain⟨y8,eσ,s8⟩:=hp
rw[eF]at eσ
subst eσ
have kw8:=kw.same s8
obtain⟨mA,stA,cmA,_⟩:=kw8.h.h.j.e
have pl:(hdN Y.s.q.V).length=KD.length:=by have:=kw.h.d.pm.length_eq;rwa [hX]at this
have kl:=qAK kw.h.d.nd ki m64
refine(iV rfl (iM kw8.h.h.j.o rfl ⟨X,_,_,_,_,mA,Y.s.q,rfl,stA,cmA.ft,hd64 kw8.h.h.j.w,λla ma H9 hia s9' na ha=>?_⟩))
have e1:(((ma.map V.int).length:Nat):Int)=(m:Int):=by rw[hX,hia.pm.length_eq,pl,kl]
have e2:((((hsL c5 m).map V.int).length:Nat):Int)=(m:Int):=by rw[hX,q25]
have hd9:=s9' _ _ (s8 _ _ hd)
refine⟨la,_,rfl,.inl (SqL.of ha),_,rfl,D,_,rfl,.inl (SqL.of hd9),?_⟩
rw[e1,e2]
refine⟨rfl,_,rfl,?_⟩
rw[hG rfl]
refine iteF ⟨_,rfl,iI ⟨_,rfl,?_⟩⟩
by_cases z:(63:Int)<(sh:Int)
·rw[hU (by simpa using z)];exact k _
rw[hC (by simpa using z)]
have kw9:=kw8.same s9'
obtain⟨m',em'⟩:∃n,m=n+1:=⟨m-1,by lia⟩
have at3:atI ((hsL c5 m).map V.int) (-1)=some (.int ((c5+5*(m':Int))%64)):=by rw[em',q3L,gB];exact L2.qCW _ _
have yn:=q8C (c:=c5) (m:=m) (by lia)
have ye:((c5+5*(m':Int))%64+5)%64=(c5+5*(m:Int))%64:=by lia
refine⟨_,rfl,_,rfl,_,rfl,iL (k:=-1) (v:=_) (SqL.of hd9) at3 (iI (iI ⟨(by show(0:Int)<64;decide),X,kt,64,sh,ru,[],pp,Y,kd,KD,n,_,rfl,kw9,ev,by lia,?_,?_,?_,by lia,λH' _=>k H'⟩))⟩
·rw[ye];lia
·rw[ye];lia
rw[ye,ki]
exact yn)
theorem qJ5{P:Program}{w:World}{K:W.Frag}{mg:Str→Option Value}{t:Adr}(T:Txt K mg t)(S:Fns K t)(B:BmIn base mg):S.law.Ok0 P w mg base 19 (q3T K [t.bM]):=Classical.byContradiction λn=>by
 have hs:hkB hkE:=by unfold hkE;exact Classical.epsilon_spec ⟨⟨P,w,K,mg,t⟩,S,base,T,B,n⟩
 obtain⟨S',b',T',B1,n'⟩:=hs;exact n' (qJ4 T' S' B1)
end
theorem qJ6{l:W.OpenLaw}{w:World}{K:W.Frag}{h:Heap}{mg:Str→Option Value}{fa z0 z1 z2 z3 z4 z5 z6 z7 z8 z9 z10 z11 z12 z13 z14 z15 z16 z17 z18 z19 z20 z21 z22 z23 z24 z25 z26 z27 z28 z29 z30 z31 z32 z33 z34 z35 z36 z37 z38 z39 z40 z41 z42 z43 z44 z45 z46 z47 z48 z49 z50 z51 z52 z53 z54 z55 z56 z57 z58 z59 z60 z61 z62 z63 z64 z65 z66 z67 z68 z69 z70 z71 z72 z73 z74 z75 z76 z77 z78 z79 z80 z81 z82 z83 z84 z85 z86 z87 z88 z89:Addr}(X:K.In h)(G:h.Ns mainGlobals mg)(hfa:mg "law"=some (.ref fa))
 {z90 z91 z102 z103 z114 z115:Option Addr} {z92 z104 z116:Array (Option Value)} {z93 z94 z95 z96 z98 z105 z106 z107 z108 z109 z110 z117 z118 z119 z120 z121 z122:Value} {z111:Option Addr} {z112:Nat} {z113:Array (Option Value)} {e0_Chip_init:Tok} {z123:Option Addr} {z124:Nat} {z125:Array (Option Value)} {e0_Terms_init:Tok} {e1_Terms_init:Tok} {iD:Tok} {aBE:Tok} {aAD:Tok}
 (z126:W.nsIn K mainGlobals "Book"=some (some (.ref z76)))
 (z127:Cls K z76)
 (z128:qN K z76 "blocks")
 (z129:qN K z76 "pages")
 (z130:qN K z76 "stamp")
 (z131:qN K z76 "where")
 (z132:qN K z76 "live")
 (z133:qN K z76 "filled")
 (z134:qN K z76 "born")
 (z135:Meth K z76 "mark" z9)
 (z136:Meth K z76 "note" z10)
 (z137:Meth K z76 "forget" z11)
 (z138:Meth K z76 "emptied" z12)
 (z139:Meth K z76 "live_pages" z13)
 (z140:Meth K z76 "held" z14)
 (z141:Mk K z76 z8)
 (z142:W.nsIn K mainGlobals "Plain"=some (some (.ref z77)))
 (z143:W.nsIn K mainGlobals "Store"=some (some (.ref z78)))
 (z144:Cls K z78)
 (z145:qN K z78 "chip")
 (z146:qN K z78 "terms")
 (z147:qN K z78 "book")
 (z148:qN K z78 "rule")
 (z149:qN K z78 "papers")
 (z150:Meth K z78 "reserve" z31)
 (z151:Meth K z78 "tally" z32)
 (z152:Meth K z78 "space" z33)
 (z153:Meth K z78 "full_ones" z34)
 (z154:Meth K z78 "with_dead_page" z35)
 (z155:Meth K z78 "options" z36)
 (z156:Meth K z78 "choice" z37)
 (z157:Meth K z78 "choice_by_rule" z38)
 (z158:Meth K z78 "moved" z39)
 (z159:Meth K z78 "value_to_move" z40)
 (z160:Meth K z78 "wiped" z41)
 (z161:Meth K z78 "clear_out" z42)
 (z162:Meth K z78 "make_room" z43)
 (z163:Meth K z78 "make_ready" z44)
 (z164:Meth K z78 "make_rooms" z45)
 (z165:Meth K z78 "good" z16)
 (z166:Meth K z78 "free" z17)
 (z167:Meth K z78 "part" z18)
 (z168:Meth K z78 "spot" z19)
 (z169:Meth K z78 "ready" z20)
 (z170:Meth K z78 "set_down" z21)
 (z171:Meth K z78 "lay" z22)
 (z172:Meth K z78 "write" z23)
 (z173:Meth K z78 "give_up" z24)
 (z174:Meth K z78 "read" z25)
 (z175:Meth K z78 "held" z26)
 (z176:Meth K z78 "check_sheet" z27)
 (z177:Meth K z78 "check_share" z28)
 (z178:Mk K z78 z30)
 (z179:W.nsIn K mainGlobals "Chip"=some (some (.ref z79)))
 (z180:Cls K z79)
 (z181:qN K z79 "blocks")
 (z182:qN K z79 "pages")
 (z183:qN K z79 "most")
 (z184:qN K z79 "limits")
 (z185:qN K z79 "borne")
 (z186:qN K z79 "clearings")
 (z187:qN K z79 "deed_counts")
 (z188:qN K z79 "broken")
 (z189:qN K z79 "deeds_left")
 (z190:qN K z79 "record")
 (z191:Meth K z79 "put" z48)
 (z192:Meth K z79 "wipe" z49)
 (z193:Meth K z79 "read" z50)
 (z194:Meth K z79 "is_dark" z51)
 (z195:Meth K z79 "cleared" z52)
 (z196:Meth K z79 "failed" z53)
 (z197:Meth K z79 "check_page" z54)
 (z198:Meth K z79 "check_block" z55)
 (z199:Meth K z79 "check_power" z56)
 (z200:Meth K z79 "check_deed" z57)
 (z201:Meth K z79 "is_spent" z58)
 (z202:Meth K z79 "do_deed" z59)
 (z203:Mk K z79 z47)
 (z204:W.nsIn K mainGlobals "Rule"=some (some (.ref z80)))
 (z205:Cls K z80)
 (z206:Meth K z80 "goes_ahead" z62)
 (z207:Meth K z80 "choose" z63)
 (z208:W.makesIn K z80=true)
 (z209:W.findIn K (.ref z80) "__init__"=some (some (.builtin "object.__init__")))
 (z210:W.keepIn K (.ref z80)=true)
 (z211:W.nsIn K mainGlobals "Fewest"=some (some (.ref z81)))
 (z212:Cls K z81)
 (z213:Meth K z81 "goes_ahead" z64)
 (z214:Meth K z81 "choose" z63)
 (z215:W.makesIn K z81=true)
 (z216:W.findIn K (.ref z81) "__init__"=some (some (.builtin "object.__init__")))
 (z217:W.keepIn K (.ref z81)=true)
 (z218:W.nsIn K mainGlobals "Eldest"=some (some (.ref z82)))
 (z219:Cls K z82)
 (z220:Meth K z82 "goes_ahead" z65)
 (z221:Meth K z82 "choose" z63)
 (z222:W.makesIn K z82=true)
 (z223:W.findIn K (.ref z82) "__init__"=some (some (.builtin "object.__init__")))
 (z224:W.keepIn K (.ref z82)=true)
 (z225:W.nsIn K mainGlobals "Worth"=some (some (.ref z83)))
 (z226:Cls K z83)
 (z227:Meth K z83 "goes_ahead" z66)
 (z228:Meth K z83 "choose" z63)
 (z229:W.makesIn K z83=true)
 (z230:W.findIn K (.ref z83) "__init__"=some (some (.builtin "object.__init__")))
 (z231:W.keepIn K (.ref z83)=true)
 (z232:W.nsIn K mainGlobals "Terms"=some (some (.ref z84)))
 (z233:Cls K z84)
 (z234:qN K z84 "blocks")
 (z235:qN K z84 "pages")
 (z236:qN K z84 "sheets")
 (z237:qN K z84 "share")
 (z238:qN K z84 "ill")
 (z239:qN K z84 "spread")
 (z240:Meth K z84 "closed" z68)
 (z241:Mk K z84 z67)
 (z242:W.nsIn K mainGlobals "PowerGone"=some (some (.ref z85)))
 (z243:W.excIn K z85 bmVE "ValueError.__new__"=true)
 (z244:W.nsIn K mainGlobals "Full"=some (some (.ref z86)))
 (z245:W.excIn K z86 bmVE "ValueError.__new__"=true)
 (z246:W.nsIn K mainGlobals "NoRoom"=some (some (.ref z87)))
 (z247:W.excIn K z87 bmVE "ValueError.__new__"=true)
 (z248:ClM K z77 "__init__" z15)
 (z249:W.exmOne K (.ref z86) (.ref z86)=some true)
 (z250:W.codeHdIn K z0 z1=true)
 (z251:GFn K "is_whole" z2)
 (z252:GFn K "is_within" z3)
 (z253:GFn K "is_shape" z4)
 (z254:GFn K "is_value" z5)
 (z255:GFn K "mark_of" z6)
 (z256:GFn K "bits_of" z7)
 (z257:GFn K "paper_of" z29)
 (z258:GFn K "limits_of" z46)
 (z259:GFn K "is_unbeaten" z60)
 (z260:GFn K "first_unbeaten" z61)
 (z261:GFn K "_law_cell_at" z69)
 (z262:GFn K "_law_size" z70)
 (z263:GFn K "_law_rule" z71)
 (z264:GFn K "_law_written" z72)
 (z265:GFn K "_law_given_up" z73)
 (z266:GFn K "_law_full" z74)
 (z267:W.nsIn K mainGlobals "MOST_TOLD"=some (some (.int 1000000 iD)))
 (z268:W.nsIn K mainGlobals "ROLL"=some (some (.int 64 aBE)))
 (z269:W.nsIn K mainGlobals "NAMES"=some (some (.int 128 aAD)))
 (z270:W.nsIn K mainGlobals "bool"=some none)
 (z271:W.nsIn K mainGlobals "int"=some none)
 (z272:W.nsIn K mainGlobals "isinstance"=some none)
 (z273:W.nsIn K mainGlobals "len"=some none)
 (z274:W.nsIn K mainGlobals "list"=some none)
 (z275:W.nsIn K mainGlobals "min"=some none)
 (z276:W.nsIn K mainGlobals "range"=some none)
 (z277:W.nsIn K mainGlobals "sorted"=some none)
 (z278:FnX K "is_whole" "is_whole" q2M z2)
 (z279:FnX K "is_within" "is_within" q15 z3)
 (z280:FnX K "is_shape" "is_shape" q2N z4)
 (z281:FnX K "is_value" "is_value" q2O z5)
 (z282:FnX K "mark_of" "mark_of" q3X z6)
 (z283:FnX K "bits_of" "bits_of" q3Y z7)
 (z284:FnX K "__init__" "Book.__init__" q16 z8)
 (z285:FnX K "mark" "Book.mark" q17 z9)
 (z286:FnX K "note" "Book.note" q18 z10)
 (z287:FnX K "forget" "Book.forget" zC z11)
 (z288:FnX K "emptied" "Book.emptied" vL z12)
 (z289:FnX K "live_pages" "Book.live_pages" uJ z13)
 (z290:FnX K "held" "Book.held" q19 z14)
 (z291:FnX K "__init__" "Plain.__init__" q0H z15)
 (z292:FnX K "good" "Plain.good" q0I z16)
 (z293:K.lookup z17=some ⟨z93,z90,.func (W.fnOf "free" "Plain.free" (yF jO) (jW jO) (qF jO) .none z94 z95 z96 z91 (.ref z0) z98),z92⟩)
 (z294:W.codeIn K (.ref z0) "Plain.free"=true)
 (z295:FnX K "part" "Plain.part" q0J z18)
 (z296:FnX K "spot" "Plain.spot" q0K z19)
 (z297:FnX K "ready" "Plain.ready" zD z20)
 (z298:FnX K "set_down" "Plain.set_down" uW z21)
 (z299:FnX K "lay" "Plain.lay" q1A z22)
 (z300:FnX K "write" "Plain.write" zE z23)
 (z301:FnX K "give_up" "Plain.give_up" v8 z24)
 (z302:FnX K "read" "Plain.read" q0L z25)
 (z303:FnX K "held" "Plain.held" q0M z26)
 (z304:FnX K "check_sheet" "Plain.check_sheet" yT z27)
 (z305:FnX K "check_share" "Plain.check_share" yU z28)
 (z306:FnX K "paper_of" "paper_of" q2P z29)
 (z307:FnX K "__init__" "Store.__init__" q0N z30)
 (z308:FnX K "reserve" "Store.reserve" v9 z31)
 (z309:FnX K "tally" "Store.tally" zF z32)
 (z310:FnX K "space" "Store.space" zG z33)
 (z311:FnX K "full_ones" "Store.full_ones" uK z34)
 (z312:FnX K "with_dead_page" "Store.with_dead_page" yG z35)
 (z313:FnX K "options" "Store.options" vA z36)
 (z314:FnX K "choice" "Store.choice" vM z37)
 (z315:FnX K "choice_by_rule" "Store.choice_by_rule" yH z38)
 (z316:FnX K "moved" "Store.moved" zH z39)
 (z317:FnX K "value_to_move" "Store.value_to_move" yJ z40)
 (z318:FnX K "wiped" "Store.wiped" zI z41)
 (z319:FnX K "clear_out" "Store.clear_out" uL z42)
 (z320:FnX K "make_room" "Store.make_room" uM z43)
 (z321:FnX K "make_ready" "Store.make_ready" uA z44)
 (z322:FnX K "make_rooms" "Store.make_rooms" uB z45)
 (z323:FnX K "limits_of" "limits_of" q1B z46)
 (z324:K.lookup z47=some ⟨z105,z102,.func (W.fnOf "__init__" "Chip.__init__" (yF uF) (jW uF) (qF uF) (.ref z88) z106 z107 z108 z103 z109 z110),z104⟩)
 (z325:W.codeIn K z109 "Chip.__init__"=true)
 (z326:K.lookup z88=some ⟨.type "tuple",z111,.seq #[.int 1000000 e0_Chip_init,.none] z112,z113⟩)
 (z327:FnX K "put" "Chip.put" q2Q z48)
 (z328:FnX K "wipe" "Chip.wipe" q1C z49)
 (z329:FnX K "read" "Chip.read" q1D z50)
 (z330:FnX K "is_dark" "Chip.is_dark" vO z51)
 (z331:FnX K "cleared" "Chip.cleared" vP z52)
 (z332:FnX K "failed" "Chip.failed" zJ z53)
 (z333:FnX K "check_page" "Chip.check_page" uN z54)
 (z334:FnX K "check_block" "Chip.check_block" uC z55)
 (z335:FnX K "check_power" "Chip.check_power" uD z56)
 (z336:FnX K "check_deed" "Chip.check_deed" uO z57)
 (z337:FnX K "is_spent" "Chip.is_spent" vB z58)
 (z338:FnX K "do_deed" "Chip.do_deed" vQ z59)
 (z339:FnX K "is_unbeaten" "is_unbeaten" zK z60)
 (z340:FnX K "first_unbeaten" "first_unbeaten" uX z61)
 (z341:FnX K "goes_ahead" "Rule.goes_ahead" uP z62)
 (z342:FnX K "choose" "Rule.choose" zM z63)
 (z343:FnX K "goes_ahead" "Fewest.goes_ahead" yV z64)
 (z344:FnX K "goes_ahead" "Eldest.goes_ahead" yW z65)
 (z345:FnX K "goes_ahead" "Worth.goes_ahead" uE z66)
 (z346:K.lookup z67=some ⟨z117,z114,.func (W.fnOf "__init__" "Terms.__init__" (yF yQ) (jW yQ) (qF yQ) (.ref z89) z118 z119 z120 z115 z121 z122),z116⟩)
 (z347:W.codeIn K z121 "Terms.__init__"=true)
 (z348:K.lookup z89=some ⟨.type "tuple",z123,.seq #[.int 0 e0_Terms_init,.int 1000000 e1_Terms_init] z124,z125⟩)
 (z349:FnX K "closed" "Terms.closed" vR z68)
 (z350:FnX K "_law_cell_at" "_law_cell_at" zN z69)
 (z351:FnX K "_law_size" "_law_size" q2R z70)
 (z352:FnX K "_law_rule" "_law_rule" q2S z71)
 (z353:FnX K "_law_written" "_law_written" zO z72)
 (z354:FnX K "_law_given_up" "_law_given_up" vS z73)
 (z355:FnX K "_law_full" "_law_full" q2T z74)
 (z356:W.nsIn K mainGlobals "law"=some (some (.ref z75)))
 (z357:FnX K "law" "law" qEL z75):
 ∃fd:FuncData,(∀(s:Shared) (v:Value),BindsTo s fd ⟨[v],[]⟩ [("_law_script",v)])∧∀base:Heap,K.In base→base.Ns mainGlobals mg→BmIn base mg→FnOk l.prog w K mg base (CX0) 19 fa fd ["_law_script"] (q3T K [z1]):=by(
have e:=hfa.symm.trans (g0 X G z356)
cases e
let t:Adr:=⟨z2,z3,z4,z5,z6,z7,z8,z9,z10,z11,z12,z13,z14,z15,z16,z17,z18,z19,z20,z21,z22,z23,z24,z25,z26,z27,z28,z29,z30,z31,z32,z33,z34,z35,z36,z37,z38,z39,z40,z41,z42,z43,z44,z45,z46,z47,z48,z49,z50,z51,z52,z53,z54,z55,z56,z57,z58,z59,z60,z61,z62,z63,z64,z65,z66,z67,z68,z69,z70,z71,z72,z73,z74,fa,z76,z77,z78,z79,z80,z81,z82,z83,z84,z85,z86,z87,iD,aBE,aAD,z0,z1⟩
have T:Txt K mg t:=⟨g0 X G z126,z127,z128,z129,z130,z131,z132,z133,z134,z135,z136,z137,z138,z139,z140,z141,g0 X G z142,g0 X G z143,z144,z145,z146,z147,z148,z149,z150,z151,z152,z153,z154,z155,z156,z157,z158,z159,z160,z161,z162,z163,z164,z165,z166,z167,z168,z169,z170,z171,z172,z173,z174,z175,z176,z177,z178,g0 X G z179,z180,z181,z182,z183,z184,z185,z186,z187,z188,z189,z190,z191,z192,z193,z194,z195,z196,z197,z198,z199,z200,z201,z202,z203,g0 X G z204,z205,z206,z207,⟨z208,z209,z210⟩,g0 X G z211,z212,z213,z214,⟨z215,z216,z217⟩,g0 X G z218,z219,z220,z221,⟨z222,z223,z224⟩,g0 X G z225,z226,z227,z228,⟨z229,z230,z231⟩,g0 X G z232,z233,z234,z235,z236,z237,z238,z239,z240,z241,g0 X G z242,z243,g0 X G z244,z245,g0 X G z246,z247,z248,z249,z250,g0 X G z251.1,z251.2,g0 X G z252.1,z252.2,g0 X G z253.1,z253.2,g0 X G z254.1,z254.2,g0 X G z255.1,z255.2,g0 X G z256.1,z256.2,g0 X G z257.1,z257.2,g0 X G z258.1,z258.2,g0 X G z259.1,z259.2,g0 X G z260.1,z260.2,g0 X G z261.1,z261.2,g0 X G z262.1,z262.2,g0 X G z263.1,z263.2,g0 X G z264.1,z264.2,g0 X G z265.1,z265.2,g0 X G z266.1,z266.2,g0 X G z267,g0 X G z268,g0 X G z269,wP X G z270,wP X G z271,wP X G z272,wP X G z273,wP X G z274,wP X G z275,wP X G z276,wP X G z277⟩
let S:Fns K t:=⟨fn1 z278,fn1 z279,fn1 z280,fn1 z281,fn1 z282,fn1 z283,fn1 z284,fn1 z285,fn1 z286,fn1 z287,fn1 z288,fn1 z289,fn1 z290,fn1 z291,fn1 z292,_,FunT.mk' (st:=jO) z293 z294,y6.all λus hl=>by rw[lnx hl];rfl,fn1 z295,fn1 z296,fn1 z297,fn1 z298,fn1 z299,fn1 z300,fn1 z301,fn1 z302,fn1 z303,fn1 z304,fn1 z305,fn1 z306,fn1 z307,fn1 z308,fn1 z309,fn1 z310,fn1 z311,fn1 z312,fn1 z313,fn1 z314,fn1 z315,fn1 z316,fn1 z317,fn1 z318,fn1 z319,fn1 z320,fn1 z321,fn1 z322,fn1 z323,_,(.ref z88),FunD.mk' (st:=uF) z324 z325,λs us kin hl=>by rw[lnx (us:=us) (n:=5) (by simpa using hl)];exact rC rfl (kin _ _ z326) rfl rfl rfl,[.none],λs us kin hl=>by rw[lnx (us:=us) (n:=4) (by simpa using hl)];exact rC rfl (kin _ _ z326) rfl rfl rfl,(.cons rfl .nil),[.int 1000000 e0_Chip_init,.none],λs us kin hl=>by rw[lnx (us:=us) (n:=3) (by simpa using hl)];exact rC rfl (kin _ _ z326) rfl rfl rfl,(.cons ⟨_,rfl⟩ (.cons rfl .nil)),fn1 z327,fn1 z328,fn1 z329,fn1 z330,fn1 z331,fn1 z332,fn1 z333,fn1 z334,fn1 z335,fn1 z336,fn1 z337,fn1 z338,fn1 z339,fn1 z340,fn1 z341,fn1 z342,fn1 z343,fn1 z344,fn1 z345,_,(.ref z89),FunD.mk' (st:=yQ) z346 z347,λs us kin hl=>by rw[lnx (us:=us) (n:=7) (by simpa using hl)];exact rC rfl (kin _ _ z348) rfl rfl rfl,[.int 1000000 e1_Terms_init],λs us kin hl=>by rw[lnx (us:=us) (n:=6) (by simpa using hl)];exact rC rfl (kin _ _ z348) rfl rfl rfl,(.cons ⟨_,rfl⟩ .nil),[.int 0 e0_Terms_init,.int 1000000 e1_Terms_init],λs us kin hl=>by rw[lnx (us:=us) (n:=5) (by simpa using hl)];exact rC rfl (kin _ _ z348) rfl rfl rfl,(.cons ⟨_,rfl⟩ (.cons ⟨_,rfl⟩ .nil)),fn1 z349,fn1 z350,fn1 z351,fn1 z352,fn1 z353,fn1 z354,fn1 z355,fn1 z357⟩
exact⟨_,FnX.bind1 (by intros;rfl) S.law.F,λbase _ _ bm=>qJ5 T S bm⟩)
theorem walk{l:W.OpenLaw}{q:Program}{loose:List Str}{XP:(Str→Option Value)→Heap→Prop}{YP:World→Heap→Prop}{d:DefRec}{K:Params→W.Frag}(hn:l.most=some 63)(hdf:d.params.defaults=[])
 (hY:∀(w:World) (h:Heap),YP w h→(K w.params).In h∧∀T∈([304]:List Addr),h.get? T=some (W.tabObj #[])) (hT:∀w:World,∀T∈([304]:List Addr),(K w.params).lookup T=none∧∃c,W.codeHdIn (K w.params) c T=true)
 (F:∀(w:World) (mg:Str→Option Value) (fa:Addr) (h:Heap),(K w.params).In h→h.Ns mainGlobals mg→mg d.name=some (.ref fa)→∃fd:FuncData,(∀(s:Shared) (u:Value),BindsTo s fd ⟨[u],[]⟩ [("_law_script",u)])∧∀base:Heap,(K w.params).In base→base.Ns mainGlobals mg→BmIn base mg→FnOk l.prog w (K w.params) mg base (CX0) 19 fa fd ["_law_script"] (q3T (K w.params) [304])):
 W.WalkO q loose XP YP l.row.toRowW d [] (λf vs=>PySem.call f vs):=L2.qDM (n:=63) (k:=19) (x:="_law_script") (CX:=λ_=>CX0) (sp:=λw=>q3T (K w.params) [304]) [304] hn (by decide) hdf ⟨rfl,by decide,by decide⟩ hY hT F (λ_ _ a ns hl hS hT=>⟨a,ns,rfl,hS,hl,hT,λ_=>rfl⟩) (λ_ _ _ _ _ z=>z)
end W1
namespace PySem.W.Fast
theorem tw16861370924619171966:True:=⟨⟩
theorem tw3235771942146030592:True:=⟨⟩
theorem tw17544437164552504608:True:=⟨⟩
theorem tw15930285554307818944:True:=⟨⟩
theorem tw6851634758021653472:True:=⟨⟩
theorem tw4789371829787029985:True:=⟨⟩
theorem tw7932999041147698689:True:=⟨⟩
theorem tw6690732566283199233:True:=⟨⟩
theorem tw7653072620205548995:True:=⟨⟩
theorem tw16368143914088977219:True:=⟨⟩
theorem tw3428360354976080100:True:=⟨⟩
theorem tw3690265849161014310:True:=⟨⟩
theorem tw5926916024607552230:True:=⟨⟩
theorem tw11286743937199969767:True:=⟨⟩
theorem tw2390341848528115687:True:=⟨⟩
theorem tw405841581039608392:True:=⟨⟩
theorem tw14638882193985429289:True:=⟨⟩
theorem tw1438580116552553385:True:=⟨⟩
theorem tw14438143520891777098:True:=⟨⟩
theorem tw5525441767241229450:True:=⟨⟩
theorem tw2519774776236723914:True:=⟨⟩
theorem tw7298495528972609354:True:=⟨⟩
theorem tw6438399779572471403:True:=⟨⟩
theorem tw2691247272601455275:True:=⟨⟩
theorem tw1241306171765228395:True:=⟨⟩
theorem tw4270216204442604332:True:=⟨⟩
theorem tw5021256047705122605:True:=⟨⟩
theorem tw206279627167519118:True:=⟨⟩
theorem tw5316313687505472110:True:=⟨⟩
theorem tw9262350593692437294:True:=⟨⟩
theorem tw1632416230329000942:True:=⟨⟩
theorem tw4491723317012414159:True:=⟨⟩
theorem tw14470384277943811473:True:=⟨⟩
theorem tw4952097414095093426:True:=⟨⟩
theorem tw4171732765551663251:True:=⟨⟩
theorem tw1608496301477295635:True:=⟨⟩
theorem tw1800935541193788916:True:=⟨⟩
theorem tw5728573805853969012:True:=⟨⟩
theorem tw16144679423387424022:True:=⟨⟩
theorem tw5090280742533239222:True:=⟨⟩
theorem tw15730004713790613303:True:=⟨⟩
theorem tw9253596417078860344:True:=⟨⟩
theorem tw4904952128446937848:True:=⟨⟩
theorem tw403066178968203321:True:=⟨⟩
theorem tw2334723412777891801:True:=⟨⟩
theorem tw17466769575988398458:True:=⟨⟩
theorem tw9992513332704940826:True:=⟨⟩
theorem tw13041606787896675130:True:=⟨⟩
theorem tw2037466803123550619:True:=⟨⟩
theorem tw2225426455629121275:True:=⟨⟩
theorem tw17207834423714458780:True:=⟨⟩
theorem tw7808877157065505116:True:=⟨⟩
theorem tw13344254514049932445:True:=⟨⟩
theorem tw14391249120369386749:True:=⟨⟩
theorem tw6724365111106970013:True:=⟨⟩
theorem tw2977050654348942269:True:=⟨⟩
theorem tw8926675447916322206:True:=⟨⟩
theorem tw3819297102352398046:True:=⟨⟩
theorem tw1466247648458103646:True:=⟨⟩
theorem tw4347833733595880999:True:=⟨⟩
theorem tw14209996783534646921:True:=⟨⟩
theorem tw7248602671908090692:True:=⟨⟩
theorem tw1260534032188838267:True:=⟨⟩
theorem tw9766337968168554551:True:=⟨⟩
theorem tw8218243377860521534:True:=⟨⟩
theorem tw2718945287322396964:True:=⟨⟩
theorem tw10283955021475532334:True:=⟨⟩
theorem tw781305990003981145:True:=⟨⟩
theorem tw6021670495299657276:True:=⟨⟩
theorem tw11593319100384348981:True:=⟨⟩
theorem tw2940123364947830750:True:=⟨⟩
theorem tw1079247827515814038:True:=⟨⟩
theorem tw9527569372264213026:True:=⟨⟩
theorem tw9380949179060767388:True:=⟨⟩
theorem tw1353088943290906290:True:=⟨⟩
theorem tw16806270490981805867:True:=⟨⟩
theorem tw18148841915404425544:True:=⟨⟩
theorem tw12703607708464651198:True:=⟨⟩
theorem tw7924930236276169112:True:=⟨⟩
theorem tw198776184476901185:True:=⟨⟩
theorem tw12319628917185185840:True:=⟨⟩
theorem tw7625942509890078670:True:=⟨⟩
theorem tw17750134904355577103:True:=⟨⟩
theorem tw49935480101408873:True:=⟨⟩
theorem tw7113980872020845386:True:=⟨⟩
theorem tw12725000287273890396:True:=⟨⟩
theorem tw13748803483559017804:True:=⟨⟩
theorem tw5667639072787508061:True:=⟨⟩
theorem tw8968341312581942697:True:=⟨⟩
theorem tw1876038670183614686:True:=⟨⟩
theorem tw13655872609368047231:True:=⟨⟩
theorem tw1544283545681702205:True:=⟨⟩
theorem tw5057925332798050711:True:=⟨⟩
theorem tw14302033516949987167:True:=⟨⟩
theorem tw3397239331352264447:True:=⟨⟩
theorem tw847542077204791237:True:=⟨⟩
theorem tw10379818529496126335:True:=⟨⟩
theorem tw4235054980536181964:True:=⟨⟩
theorem tw15871417255284036819:True:=⟨⟩
theorem tw506717601067541366:True:=⟨⟩
theorem tw4726538881453530326:True:=⟨⟩
theorem tw7425880278190680036:True:=⟨⟩
theorem tw2623867930765437444:True:=⟨⟩
theorem tw5108507097235322162:True:=⟨⟩
theorem tw9341340787839634072:True:=⟨⟩
theorem tw10354951188154311103:True:=⟨⟩
theorem tw4169543734683876679:True:=⟨⟩
theorem tw6538328736851576074:True:=⟨⟩
theorem tw9479947806713022057:True:=⟨⟩
theorem tw1324349127548799671:True:=⟨⟩
theorem tw12259445257254233952:True:=⟨⟩
theorem tw2577333362457042077:True:=⟨⟩
theorem tw17334376592163506265:True:=⟨⟩
theorem tw8719711608965381070:True:=⟨⟩
theorem tw8643082976883713698:True:=⟨⟩
theorem tw2726798198961572474:True:=⟨⟩
theorem tw5940934230454235810:True:=⟨⟩
theorem tw6213634669295442088:True:=⟨⟩
theorem tw14746260686027449139:True:=⟨⟩
theorem tw17062351006057105596:True:=⟨⟩
theorem tw18070419573217380562:True:=⟨⟩
theorem tw2867806226662884374:True:=⟨⟩
theorem tw12209396698271618996:True:=⟨⟩
theorem tw2399051951231255421:True:=⟨⟩
theorem tw3054027901660930603:True:=⟨⟩
theorem tw17660848417206565757:True:=⟨⟩
theorem tw6687594198162642980:True:=⟨⟩
theorem tw13953332760696208094:True:=⟨⟩
theorem tw6175120526253466258:True:=⟨⟩
theorem tw7882893393023646074:True:=⟨⟩
theorem tw12300941364511680408:True:=⟨⟩
theorem tw11945771073404753697:True:=⟨⟩
theorem tw2162206387617182732:True:=⟨⟩
theorem tw17689241213601982097:True:=⟨⟩
theorem tw14922469846332764495:True:=⟨⟩
theorem tw2932046297837728269:True:=⟨⟩
theorem tw13545077087181082156:True:=⟨⟩
theorem tw10534655480378353922:True:=⟨⟩
theorem tw4652634987968068205:True:=⟨⟩
theorem tw3678259461618619067:True:=⟨⟩
theorem tw2634253825670364350:True:=⟨⟩
theorem tw7522444480796821915:True:=⟨⟩
theorem tw13067086089940699562:True:=⟨⟩
theorem tw13487273308346793270:True:=⟨⟩
theorem tw8095936823801845741:True:=⟨⟩
theorem tw17074845849237340898:True:=⟨⟩
theorem tw15550774491300733425:True:=⟨⟩
theorem tw15714495186565491021:True:=⟨⟩
theorem tw12148790105431349275:True:=⟨⟩
theorem tw6582665053223643802:True:=⟨⟩
theorem tw10864663930485091271:True:=⟨⟩
theorem tw17495761738530611200:True:=⟨⟩
theorem tw17377424280291657223:True:=⟨⟩
theorem tw4719790642010330185:True:=⟨⟩
theorem tw10380640591594164699:True:=⟨⟩
theorem tw4820693340515840034:True:=⟨⟩
theorem tw6847177523306702589:True:=⟨⟩
theorem tw104643620870044733:True:=⟨⟩
theorem tw15249618742649959485:True:=⟨⟩
theorem tw17455779940357164711:True:=⟨⟩
theorem tw16738937662598204164:True:=⟨⟩
theorem tw2523950061470976700:True:=⟨⟩
theorem tw16029545792362368493:True:=⟨⟩
theorem tw10773789446072142156:True:=⟨⟩
theorem tw12603017498520053075:True:=⟨⟩
theorem tw15424291151261849186:True:=⟨⟩
theorem tw1377828958945602401:True:=⟨⟩
theorem tw10203043622881004242:True:=⟨⟩
theorem tw16202680278255823908:True:=⟨⟩
theorem tw8852173973132016554:True:=⟨⟩
theorem tw6274934174668171361:True:=⟨⟩
theorem tw17704797800225289697:True:=⟨⟩
theorem tw2047104951649127124:True:=⟨⟩
theorem tw16560034451398830348:True:=⟨⟩
theorem tw17807556652730268856:True:=⟨⟩
theorem tw15046211613571921660:True:=⟨⟩
theorem tw8899339786382468872:True:=⟨⟩
theorem tw4796016508729434375:True:=⟨⟩
theorem tw2261719478897142435:True:=⟨⟩
theorem tw12455154687552769469:True:=⟨⟩
theorem tw1703604767698478570:True:=⟨⟩
theorem tw11226535055232996256:True:=⟨⟩
theorem tw8815742904174038512:True:=⟨⟩
theorem tw11766273494622455233:True:=⟨⟩
theorem tw14493824968167247532:True:=⟨⟩
theorem tw14670437673996592966:True:=⟨⟩
theorem tw18312733362186341792:True:=⟨⟩
theorem tw17691694451321731235:True:=⟨⟩
theorem tw252837139445311233:True:=⟨⟩
theorem tw5737583955685588881:True:=⟨⟩
theorem tw1229998259106716925:True:=⟨⟩
theorem tw4010313095013293684:True:=⟨⟩
theorem tw6188750518029945404:True:=⟨⟩
theorem tw6188609914861281987:True:=⟨⟩
theorem tw11531073435522900895:True:=⟨⟩
theorem tw14702799728884129043:True:=⟨⟩
theorem tw3887012876518822777:True:=⟨⟩
theorem tw3208499652491054959:True:=⟨⟩
theorem tw2289683651263225110:True:=⟨⟩
theorem tw9628346076648105641:True:=⟨⟩
theorem tw6417573742188647324:True:=⟨⟩
theorem tw11925769427539483376:True:=⟨⟩
theorem tw3770196801232874658:True:=⟨⟩
theorem tw4800174753678761051:True:=⟨⟩
theorem tw12875207714371972287:True:=⟨⟩
theorem tw4494130410809227326:True:=⟨⟩
theorem tw15405379726209864512:True:=⟨⟩
theorem tw8536567036250686323:True:=⟨⟩
theorem tw8086167963064523445:True:=⟨⟩
theorem tw2133582847423036695:True:=⟨⟩
theorem tw4988513334294432331:True:=⟨⟩
theorem tw13096771590389211406:True:=⟨⟩
theorem tw9223879663610426130:True:=⟨⟩
theorem tw11676263233554015714:True:=⟨⟩
theorem tw9507269237300040012:True:=⟨⟩
theorem tw17242807741422177477:True:=⟨⟩
theorem tw6473394718203100678:True:=⟨⟩
theorem tw6816075288507960364:True:=⟨⟩
theorem tw9050729985999909694:True:=⟨⟩
theorem tw7103313020105617892:True:=⟨⟩
theorem tw12035618253938699654:True:=⟨⟩
theorem tw11233383691511220662:True:=⟨⟩
theorem tw9975882660201671467:True:=⟨⟩
theorem tw17544601849853618262:True:=⟨⟩
theorem tw4421991704771744685:True:=⟨⟩
theorem tw12698697292406048089:True:=⟨⟩
theorem tw271704083992332869:True:=⟨⟩
theorem tw18326615059352714580:True:=⟨⟩
theorem tw475341764332067778:True:=⟨⟩
theorem tw10439909786373473201:True:=⟨⟩
theorem tw14363829667867207724:True:=⟨⟩
theorem tw11214921580634087768:True:=⟨⟩
theorem tw15253873622514088285:True:=⟨⟩
theorem tw18190639244761603660:True:=⟨⟩
theorem tw8719816205611813482:True:=⟨⟩
theorem tw7421659322684090467:True:=⟨⟩
theorem tw627357400015452001:True:=⟨⟩
theorem tw12057456105674818171:True:=⟨⟩
theorem tw15928912761009003967:True:=⟨⟩
theorem tw11805501284449780972:True:=⟨⟩
theorem tw1921353674173894459:True:=⟨⟩
theorem tw973913336463069247:True:=⟨⟩
theorem tw8825202803246797738:True:=⟨⟩
theorem tw1859042870801573139:True:=⟨⟩
theorem tw10842764560804632359:True:=⟨⟩
theorem tw9673422754264189226:True:=⟨⟩
theorem tw2840046172746747748:True:=⟨⟩
theorem tw7449171493969154084:True:=⟨⟩
theorem tw10693061482266300257:True:=⟨⟩
theorem tw14123762356116707021:True:=⟨⟩
theorem tw8912993212065120038:True:=⟨⟩
theorem tw17220170791118910656:True:=⟨⟩
theorem tw10166765608442791694:True:=⟨⟩
theorem tw17718170286386267777:True:=⟨⟩
theorem tw1790843038215459959:True:=⟨⟩
theorem tw14559490685903915799:True:=⟨⟩
theorem tw1246124231776289202:True:=⟨⟩
theorem tw14853494871419467400:True:=⟨⟩
theorem tw1312861952157219594:True:=⟨⟩
theorem tw9419265529448077325:True:=⟨⟩
theorem tw2114151692868166568:True:=⟨⟩
theorem tw16956886276077111957:True:=⟨⟩
theorem tw14953342427137502487:True:=⟨⟩
theorem tw12420292404213753774:True:=⟨⟩
theorem tw8070085559524537101:True:=⟨⟩
theorem tw18334911364968529153:True:=⟨⟩
theorem tw14496030131491797389:True:=⟨⟩
theorem tw11847921887719002704:True:=⟨⟩
theorem tw15787209923905301077:True:=⟨⟩
theorem tw12986156926644264070:True:=⟨⟩
theorem tw4075518965597962424:True:=⟨⟩
theorem tw12827787421291280785:True:=⟨⟩
theorem tw8805204382076745907:True:=⟨⟩
theorem tw13074277416134245860:True:=⟨⟩
theorem tw11826703194456794348:True:=⟨⟩
theorem tw14301067899937147663:True:=⟨⟩
theorem tw2000571786003963501:True:=⟨⟩
theorem tw16964196967227766471:True:=⟨⟩
theorem tw16944942674966076026:True:=⟨⟩
theorem tw16423946433974439985:True:=⟨⟩
theorem tw1585195450207613885:True:=⟨⟩
theorem tw10855663738127223384:True:=⟨⟩
theorem tw10521276358961045048:True:=⟨⟩
theorem tw4923853957808034670:True:=⟨⟩
theorem tw8313832475201668762:True:=⟨⟩
theorem tw13246038167032689669:True:=⟨⟩
theorem tw10090488026369330420:True:=⟨⟩
theorem tw6670923501557905665:True:=⟨⟩
theorem tw6161436433867519839:True:=⟨⟩
theorem tw5048707254754028324:True:=⟨⟩
theorem tw5847186809991020284:True:=⟨⟩
theorem tw1902742707056723117:True:=⟨⟩
theorem tw1827114876467912704:True:=⟨⟩
theorem tw15337053566352545356:True:=⟨⟩
theorem tw9145119410023728145:True:=⟨⟩
theorem tw6782546493480727622:True:=⟨⟩
theorem tw5099882919304939051:True:=⟨⟩
theorem tw17880480728286703781:True:=⟨⟩
theorem tw16710074463657015172:True:=⟨⟩
theorem tw16072274528042483571:True:=⟨⟩
theorem tw14091430501038654818:True:=⟨⟩
theorem tw17889060922091020287:True:=⟨⟩
theorem tw6455531641332789463:True:=⟨⟩
theorem tw4146099085671643513:True:=⟨⟩
theorem tw6121483045320618733:True:=⟨⟩
theorem tw17983763725642551507:True:=⟨⟩
theorem tw7541839633768408640:True:=⟨⟩
theorem tw1892031195455840971:True:=⟨⟩
theorem tw15702737833889442251:True:=⟨⟩
theorem tw14009702743491259043:True:=⟨⟩
theorem tw3315342795498496004:True:=⟨⟩
theorem tw13646463839658925316:True:=⟨⟩
theorem tw12611690857019313271:True:=⟨⟩
theorem tw3405925645243391093:True:=⟨⟩
theorem tw3337122727449936802:True:=⟨⟩
theorem tw9877362149865723403:True:=⟨⟩
theorem tw5507210081117543536:True:=⟨⟩
theorem tw7788038429059754773:True:=⟨⟩
theorem tw4915792866327018371:True:=⟨⟩
theorem tw1762195144110478747:True:=⟨⟩
theorem tw15884679083989978956:True:=⟨⟩
theorem tw2368994431935757452:True:=⟨⟩
theorem tw1825571296846981826:True:=⟨⟩
theorem tw14531466490163713969:True:=⟨⟩
theorem tw3185442352580654676:True:=⟨⟩
theorem tw16093702476639232404:True:=⟨⟩
theorem tw13381532617232870295:True:=⟨⟩
theorem tw12251841301114867514:True:=⟨⟩
theorem tw12204483594444025538:True:=⟨⟩
theorem tw7122560494661433949:True:=⟨⟩
theorem tw5735721542558660134:True:=⟨⟩
theorem tw4968744165163502376:True:=⟨⟩
theorem tw15664204905380221891:True:=⟨⟩
theorem tw12676165128932738453:True:=⟨⟩
theorem tw11148896312221381959:True:=⟨⟩
theorem tw15794208704780377591:True:=⟨⟩
theorem tw2485230914570699807:True:=⟨⟩
theorem tw7298045202951044305:True:=⟨⟩
theorem tw8508046212647474527:True:=⟨⟩
theorem tw10332691969835281852:True:=⟨⟩
theorem tw12113077936581716477:True:=⟨⟩
theorem tw17179146878335597300:True:=⟨⟩
theorem tw17130948033016547343:True:=⟨⟩
theorem tw786696547262616683:True:=⟨⟩
theorem tw1394261606101045148:True:=⟨⟩
theorem tw9494867970565678323:True:=⟨⟩
theorem tw7271194029384971934:True:=⟨⟩
theorem tw7851432442811935612:True:=⟨⟩
theorem tw7628687729959672812:True:=⟨⟩
theorem tw6556612423836242343:True:=⟨⟩
theorem tw5843333940658397824:True:=⟨⟩
theorem tw13297472403900318655:True:=⟨⟩
theorem tw18261252601735903432:True:=⟨⟩
theorem tw1548247752091662851:True:=⟨⟩
theorem tw4492709486127363843:True:=⟨⟩
theorem tw18265579676932617007:True:=⟨⟩
theorem tw9348738168608211676:True:=⟨⟩
theorem tw4518223683409762693:True:=⟨⟩
theorem tw3868665015202134548:True:=⟨⟩
theorem tw1977810586519832511:True:=⟨⟩
theorem tw12403002389477119157:True:=⟨⟩
theorem tw1859092712628031872:True:=⟨⟩
theorem tw9428575866334790049:True:=⟨⟩
theorem tw5898410672078259155:True:=⟨⟩
theorem tw313955894247946994:True:=⟨⟩
theorem tw3640523354602574365:True:=⟨⟩
theorem tw17318389390532931246:True:=⟨⟩
theorem tw16756726807828002890:True:=⟨⟩
theorem tw12376422042211909197:True:=⟨⟩
theorem tw874860109571906851:True:=⟨⟩
theorem tw9323868731273996561:True:=⟨⟩
theorem tw15656456211246123207:True:=⟨⟩
theorem tw10363462946631617:True:=⟨⟩
theorem tw9748603016759160238:True:=⟨⟩
theorem tw8965947753118087572:True:=⟨⟩
theorem tw8342832204537646875:True:=⟨⟩
theorem tw7926992929015806143:True:=⟨⟩
theorem tw6654814277143780274:True:=⟨⟩
theorem tw620766480484353646:True:=⟨⟩
theorem tw4788484694272531542:True:=⟨⟩
theorem tw3375171972202229229:True:=⟨⟩
theorem tw17466989957052371103:True:=⟨⟩
theorem tw15974448524665405998:True:=⟨⟩
theorem tw15653381049554137886:True:=⟨⟩
theorem tw13018493053683112077:True:=⟨⟩
theorem tw12380771751527488440:True:=⟨⟩
theorem tw11650481882918178021:True:=⟨⟩
theorem tw10740563166473305700:True:=⟨⟩
theorem tw10559798024497783330:True:=⟨⟩
theorem tw10415107824462197229:True:=⟨⟩
theorem tw17977280794859859960:True:=⟨⟩
theorem tw1526177972284804314:True:=⟨⟩
theorem tw9848621894359391337:True:=⟨⟩
theorem tw9726279954406830946:True:=⟨⟩
theorem tw8462370239988263992:True:=⟨⟩
theorem tw8322854059531909708:True:=⟨⟩
theorem tw813067302723605827:True:=⟨⟩
theorem tw7406656719359056109:True:=⟨⟩
theorem tw6546543448106606053:True:=⟨⟩
theorem tw6226590403182433488:True:=⟨⟩
theorem tw5623408742872208468:True:=⟨⟩
theorem tw5307912378049562641:True:=⟨⟩
theorem tw506072135781420951:True:=⟨⟩
theorem tw4389942375489220313:True:=⟨⟩
theorem tw4307818374936758285:True:=⟨⟩
theorem tw4270788919888051454:True:=⟨⟩
theorem tw2405315328298525228:True:=⟨⟩
theorem tw2250628196502672769:True:=⟨⟩
theorem tw2029327604091426700:True:=⟨⟩
theorem tw1932008521188852497:True:=⟨⟩
theorem tw18303956192728176262:True:=⟨⟩
theorem tw17338702458806985994:True:=⟨⟩
theorem tw16995331661338095137:True:=⟨⟩
theorem tw16770637723208416781:True:=⟨⟩
theorem tw16297439419834613729:True:=⟨⟩
theorem tw16146442769754871034:True:=⟨⟩
theorem tw15131129557572041130:True:=⟨⟩
theorem tw12895297488143463037:True:=⟨⟩
theorem tw12440560109963929850:True:=⟨⟩
theorem tw12131758674888092663:True:=⟨⟩
theorem tw10414423537261487669:True:=⟨⟩
theorem tw8918710208018662162:True:=⟨⟩
theorem tw8625766173246390124:True:=⟨⟩
theorem tw3306590957121323387:True:=⟨⟩
theorem tw16156605152825728287:True:=⟨⟩
theorem tw12620997649930021717:True:=⟨⟩
theorem tw16142054911605400241:True:=⟨⟩
theorem tw9159230607386269615:True:=⟨⟩
theorem tw8628477111188306534:True:=⟨⟩
theorem tw738356164958819761:True:=⟨⟩
theorem tw6442754188679779849:True:=⟨⟩
theorem tw5970796439945156670:True:=⟨⟩
theorem tw17062998561357054125:True:=⟨⟩
theorem tw12457505957768209799:True:=⟨⟩
theorem tw11476994166372085411:True:=⟨⟩
theorem tw5564483655964256705:True:=⟨⟩
theorem tw11308093106789529606:True:=⟨⟩
theorem tw8052894505471671257:True:=⟨⟩
theorem tw7931340494463113166:True:=⟨⟩
theorem tw7521152074735572325:True:=⟨⟩
theorem tw6624664388789910892:True:=⟨⟩
theorem tw5667116426074120155:True:=⟨⟩
theorem tw5205767402321687892:True:=⟨⟩
theorem tw5001431778925991022:True:=⟨⟩
theorem tw4398816055352902381:True:=⟨⟩
theorem tw4008193869250496840:True:=⟨⟩
theorem tw3437278434372755236:True:=⟨⟩
theorem tw327421986139439157:True:=⟨⟩
theorem tw2695307711974116286:True:=⟨⟩
theorem tw1894811622741360766:True:=⟨⟩
theorem tw16681818418161079393:True:=⟨⟩
theorem tw14868588419058708480:True:=⟨⟩
theorem tw12946409090595578529:True:=⟨⟩
theorem tw12602712558409564861:True:=⟨⟩
theorem tw12561034853323290740:True:=⟨⟩
theorem tw12478542895934268513:True:=⟨⟩
theorem tw11157689711870326419:True:=⟨⟩
theorem tw8314022708952613468:True:=⟨⟩
theorem tw16020726813617067897:True:=⟨⟩
theorem tw9804194245573661164:True:=⟨⟩
theorem tw6329894148622057390:True:=⟨⟩
theorem tw4818703038890795424:True:=⟨⟩
theorem tw1759091331362580851:True:=⟨⟩
theorem tw16746786891518325406:True:=⟨⟩
theorem tw15765001583761491952:True:=⟨⟩
theorem tw15124260560354634413:True:=⟨⟩
theorem tw13970276633160894885:True:=⟨⟩
theorem tw13897045177604177728:True:=⟨⟩
theorem tw12442507553964533560:True:=⟨⟩
theorem tw11969147175692357299:True:=⟨⟩
theorem tw11959899211217190255:True:=⟨⟩
theorem tw1185835202010699914:True:=⟨⟩
theorem tw11282526841893564889:True:=⟨⟩
theorem tw10955079907596352462:True:=⟨⟩
theorem tw10894317200742466346:True:=⟨⟩
theorem tw10391069823258113897:True:=⟨⟩
theorem tw15294485797873752556:True:=⟨⟩
theorem tw17729440611782061257:True:=⟨⟩
theorem tw13013866370401867376:True:=⟨⟩
theorem tw12263761703925975258:True:=⟨⟩
theorem tw16154064520288093677:True:=⟨⟩
theorem tw12698277053804076303:True:=⟨⟩
theorem tw5295908513779113445:True:=⟨⟩
theorem tw1514674848391408512:True:=⟨⟩
theorem tw12071539146372657915:True:=⟨⟩
theorem tw9720830282428490611:True:=⟨⟩
theorem tw7679731496132319230:True:=⟨⟩
theorem tw17131313623979472565:True:=⟨⟩
theorem tw1612669254252557892:True:=⟨⟩
theorem tw15231871157189483646:True:=⟨⟩
theorem tw11672227267323037122:True:=⟨⟩
theorem tw1083084930469985384:True:=⟨⟩
theorem tw10462227541743927205:True:=⟨⟩
theorem tw10096000331209227158:True:=⟨⟩
theorem tw871511937332700716:True:=⟨⟩
theorem tw7383860399313473778:True:=⟨⟩
theorem tw6882545784087244896:True:=⟨⟩
theorem tw6561219181404258391:True:=⟨⟩
theorem tw6485623650173956419:True:=⟨⟩
theorem tw6399039367652193030:True:=⟨⟩
theorem tw3425399142785399123:True:=⟨⟩
theorem tw17548426467492189317:True:=⟨⟩
theorem tw17464621318148137283:True:=⟨⟩
theorem tw17136384650677286914:True:=⟨⟩
theorem tw15877999156285407380:True:=⟨⟩
theorem tw14354211662568757193:True:=⟨⟩
theorem tw1403763014989344094:True:=⟨⟩
theorem tw12800980925003567212:True:=⟨⟩
theorem tw10142590647148747199:True:=⟨⟩
theorem tw10139540225606289930:True:=⟨⟩
theorem tw3897204828103901586:True:=⟨⟩
theorem tw8879383791281935135:True:=⟨⟩
theorem tw2169756067145838735:True:=⟨⟩
theorem tw12951528101786183571:True:=⟨⟩
theorem tw11334980194420685621:True:=⟨⟩
theorem tw10907283363014860825:True:=⟨⟩
theorem tw4223681983863013345:True:=⟨⟩
theorem tw14182369166467940300:True:=⟨⟩
theorem tw8446637620775180743:True:=⟨⟩
theorem tw18058151270191245804:True:=⟨⟩
theorem tw9864855263601719998:True:=⟨⟩
theorem tw6657381489379793028:True:=⟨⟩
theorem tw8760136526319927657:True:=⟨⟩
theorem tw7068309419292240583:True:=⟨⟩
theorem tw6261008113110889273:True:=⟨⟩
theorem tw6124914278627679753:True:=⟨⟩
theorem tw5433944791111471142:True:=⟨⟩
theorem tw5186803734573123853:True:=⟨⟩
theorem tw4075249411773913310:True:=⟨⟩
theorem tw389818145683184720:True:=⟨⟩
theorem tw3444212917545757487:True:=⟨⟩
theorem tw18401690568642677324:True:=⟨⟩
theorem tw16004561042849844246:True:=⟨⟩
theorem tw15363941179822187791:True:=⟨⟩
theorem tw15340418494489234930:True:=⟨⟩
theorem tw14432216341316859555:True:=⟨⟩
theorem tw13796606699344110329:True:=⟨⟩
theorem tw12906683203327626920:True:=⟨⟩
theorem tw12293102209903613487:True:=⟨⟩
theorem tw10556375159207806519:True:=⟨⟩
theorem tw15833082076895805228:True:=⟨⟩
theorem tw15361741981608739576:True:=⟨⟩
theorem tw13837407989182214565:True:=⟨⟩
theorem tw13304667090843708769:True:=⟨⟩
theorem tw11053138903382690326:True:=⟨⟩
theorem tw8926093546386524642:True:=⟨⟩
theorem tw7865477587334257025:True:=⟨⟩
theorem tw5179644902586781004:True:=⟨⟩
theorem tw43786950750238534:True:=⟨⟩
theorem tw3016968933943131992:True:=⟨⟩
theorem tw2315274501636590310:True:=⟨⟩
theorem tw1955883437852315060:True:=⟨⟩
theorem tw18207912690850554289:True:=⟨⟩
theorem tw17124696676925765288:True:=⟨⟩
theorem tw17028114974595475010:True:=⟨⟩
theorem tw16893838039162414397:True:=⟨⟩
theorem tw1621818020517901986:True:=⟨⟩
theorem tw14926085755423373303:True:=⟨⟩
theorem tw1382308989385425915:True:=⟨⟩
theorem tw13232364660807001340:True:=⟨⟩
theorem tw12315887964412545484:True:=⟨⟩
theorem tw11688878483135338190:True:=⟨⟩
theorem tw1126414661765133551:True:=⟨⟩
theorem tw11257699808875226389:True:=⟨⟩
theorem tw7117733680125932290:True:=⟨⟩
theorem tw6825956661362947582:True:=⟨⟩
theorem tw6104258989202004226:True:=⟨⟩
theorem tw5198481289378311589:True:=⟨⟩
theorem tw4136583743430215826:True:=⟨⟩
theorem tw3961893072114297810:True:=⟨⟩
theorem tw3551544227114673621:True:=⟨⟩
theorem tw16677249871730949752:True:=⟨⟩
theorem tw16060393000778563520:True:=⟨⟩
theorem tw15846348741478458827:True:=⟨⟩
theorem tw11761486176369074953:True:=⟨⟩
theorem tw1060300674107591633:True:=⟨⟩
theorem tw4074057830534954353:True:=⟨⟩
theorem tw5887009043700043114:True:=⟨⟩
end PySem.W.Fast
open PySem PySem.W PyProof.Rows
set_option maxRecDepth 100000 in
theorem PySem.Challenge.cw_wornpages_k38_whole_full_share_holds : PySem.Challenge.rw_wornpages_k38_whole_full_share.Holds := by
 (
w_on;o_law;k_head;(case hw=>w_witness2)
k_fill
refine W1.walk (l:=PySem.Challenge.rw_wornpages_k38_whole_full_share) rfl rfl (λw h Y=>⟨W.km_in_of Y,λT hT=>W.km_tabs_of Y T (by simp at hT ⊢;first|exact hT|exact hT.symm)⟩) (?T) ?F
case T=>
 intro w T hT;have hT:T=304:=by simpa using hT
 subst hT;exact⟨by kernel_rfl,306,by kernel_rfl⟩
case F=>
 intro w mg fa h KX G hmg;refine' W1.qJ6 (z1:=304) (z0:=306) KX G hmg ?_ ?_ ?_ ?_ ?_ ?_ ?_ ?_ ?_ ?_ ?_ ?_ ?_ ?_ ?_ ?_ ?_ ?_ ?_ ?_ ?_ ?_ ?_ ?_ ?_ ?_ ?_ ?_ ?_ ?_ ?_ ?_ ?_ ?_ ?_ ?_ ?_ ?_ ?_ ?_ ?_ ?_ ?_ ?_ ?_ ?_ ?_ ?_ ?_ ?_ ?_ ?_ ?_ ?_ ?_ ?_ ?_ ?_ ?_ ?_ ?_ ?_ ?_ ?_ ?_ ?_ ?_ ?_ ?_ ?_ ?_ ?_ ?_ ?_ ?_ ?_ ?_ ?_ ?_ ?_ ?_ ?_ ?_ ?_ ?_ ?_ ?_ ?_ ?_ ?_ ?_ ?_ ?_ ?_ ?_ ?_ ?_ ?_ ?_ ?_ ?_ ?_ ?_ ?_ ?_ ?_ ?_ ?_ ?_ ?_ ?_ ?_ ?_ ?_ ?_ ?_ ?_ ?_ ?_ ?_ ?_ ?_ ?_ ?_ ?_ ?_ ?_ ?_ ?_ ?_ ?_ ?_ ?_ ?_ ?_ ?_ ?_ ?_ ?_ ?_ ?_ ?_ ?_ ?_ ?_ ?_ ?_ ?_ ?_ ?_ ?_ ?_ ?_ ?_ ?_ ?_ ?_ ?_ ?_ ?_ ?_ ?_ ?_ ?_ ?_ ?_ ?_ ?_ ?_ ?_ ?_ ?_ ?_ ?_ ?_ ?_ ?_ ?_ ?_ ?_ ?_ ?_ ?_ ?_ ?_ ?_ ?_ ?_ ?_ ?_ ?_ ?_ ?_ ?_ ?_ ?_ ?_ ?_ ?_ ?_ ?_ ?_ ?_ ?_ ?_ ?_ ?_ ?_ ?_ ?_ ?_ ?_ ?_ ?_ ?_ ?_ ?_ ?_ ?_ ?_ ?_ ?_ ?_ ?_ ?_ ?_ ?_ ?_ ?_ ?_ ?_ ?_
 any_goals first|k_is|(refine' L2.FnX.of ?fa ?fb;(case fa=>k_is);(case fb=>k_is))|((first|apply And.intro|apply L2.Meth.mk|apply L2.Mk.mk|apply L2.Cls.mk|apply L2.XAt.mk|apply L2.BIni.mk|apply L2.ClM.mk|apply L2.XRd.mk)<;>first|k_is|kernel_rfl)|(show W.findIn _ _ _=_;k_is)
 all_goals first|k_exc|kts_exm|kit_is|kernel_rfl|decide)
