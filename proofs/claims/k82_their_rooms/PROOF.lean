import PyProof.Rows.All
import Wide.All
import OpenK.AllK
import Wide.FinOn
import Lean
import PyProof.EqAt
import PyProof.EqKinds
import PyProof.TupleCall
import PyProof.StationsW
import PyProof.NsDelKeeps
import PyProof.PassesOwn
import PyProof.ZipIter
import PyProof.NeKinds
import PyProof.CompFree
import OpenK.KMake
import PyProof.EnumFor
import PyProof.EnumMake
import PyProof.EnumStmt
import KE.KDictList
import PyProof.ConsumeWalk
import PyProof.WalkInts
import PyProof.WalksMore
import PyProof.SumAny
import PyProof.Rows.MinMaxN
import PyProof.Rows.SortWalk
import PyProof.ListRange
import KE.KTupSum
import PyProof.FitsBits
import PyProof.CompUse
import KE.KLam
import KE.KNestM
import PyProof.DictWalks
import PyProof.DictItems
import KE.KSortTup
import KE.KItemsList
import KE.KEqDict
import PyProof.MinMaxWalk
import PyProof.SeqI3
import KE.KDictSum
import PyProof.ExcClass3
import PyProof.Rows.SetFrom
import KE.KRangeStep
import PyProof.StrWalks
import PyProof.FString5
import Wide.Seal
import PySem.Challenge.RW_wornpages_k82_their_rooms
set_option Elab.async false
set_option linter.all false
set_option maxRecDepth 100000
set_option maxHeartbeats 0
noncomputable abbrev hG:=@decide_eq_false
noncomputable abbrev hI:=@decide_eq_true
noncomputable abbrev kE:=@if_neg
noncomputable abbrev kG:=@if_pos
noncomputable abbrev kR:=@decide_eq_true_eq
noncomputable abbrev gE:=@decide_eq_decide
noncomputable abbrev gQ:=@of_decide_eq_true
noncomputable abbrev dP:=@decide_eq_true_iff
noncomputable abbrev dZ:=@beq_eq_false_iff_ne
noncomputable abbrev rL:=@congrArg
noncomputable abbrev rX:=@beq_iff_eq
noncomputable abbrev cD:=@or_false
open List renaming length_map→hU, getElem?_eq_some_iff→hV, getElem?_eq_getElem→hZ, mem_cons_of_mem→kF, mem_singleton→kJ, mem_append_right→kM, mem_cons_self→kO, mem_map→kP, getD_eq_getElem?_getD→kQ, mem_append_left→kU, mem_cons→kW, getElem?_map→kX, size_toArray→kY, map_append→mB, take_append_getElem→mC, length_filter_le→mF, mem_range→mH, forall_mem_cons→mI, length_append→mL, mem_append→mP, mem_filter→mQ, mem_of_getElem?→mT, length_range→mU, take_length→mW, map_cons→mZ, length_take→m9, nodup_append→gA, length_cons→gD, length_replicate→gI, nodup_cons→gL, length_set→gM, getElem?_append_right→gO, filter_cons→gP, all_eq_true→gT, filter_append→gZ, not_mem_nil→g0, filter_sublist→g7, range_succ→g9, pairwise_cons→dA, getElem?_replicate→dB, cons_append→dC, replicate_succ→dG, getElem?_range→dH, nil_append→dJ, pairwise_iff_getElem→dL, lookup_cons→dO, map_map→dU, pairwise_map→dW, filter_congr→dX, find?_cons→dY, map_congr_left→d0, getElem_map→d9, getElem_range→rD, getElem?_eq_none→rF, getElem?_append_left→rH, getElem?_set_ne→rK, filterMap_cons→rN, filter_eq_self→rO, getElem_mem→rS, any_eq_true→rT, nodup_nil→rV, find?_eq_none→r9, append_nil→wC, any_cons→wD, flatten_cons→wF, ext_getElem→wM, mem_filterMap→wR, map_replicate→wU, getElem?_set_self→wX, length_singleton→cE, mem_of_mem_drop→cO, mem_of_mem_take→cP, eq_nil_of_length_eq_zero→cQ, of_mem_zip→cR, foldl_cons→cT, getElem_of_mem→cV, filter_filter→pD, mem_of_find?_eq_some→pE, getElem?_cons_succ→pR, map_nil→pZ, filter_eq_nil_iff→p9, length_nil→sF, sum_append→sK, countP_mono_left→sS, toList_toArray→lD, map_eq_nil_iff→lF, append_assoc→lY, foldl_append→xA, find?_append→xC, length_drop→xE, countP_cons→xG, forIn_cons→xM, find?_some→xO, perm_cons→xY, all_cons→aI, nil_perm→aK, map_set→aN, all_map→aO
open PySem.Heap renaming get?_push_of_some→hX, lt_size→kL, get?_push_size→k7, get?_update_other→mM, size_push→rP, get?_update_self→wE, get?_none_of_le→wG, size_update→xH
open PySem renaming wpAny_bind→kD, wpAny_pure→kZ, boot_len→mR, wpAny_holding→gH, mem_of_lookup→gK, wpAny_mono→gN, sizeLine_eq→gR, wpAny_truthy_bool→gW, codeAny_mono→dS, wpAny_Call_Name_kw→rA, tupleKind_room_in1→rC, call_meetsIn→rZ, wpAny_call→wH, wpAny_passesOwn→wP, meets_dict_get_default→cB, wpAny_standAt→cJ, wpAny_field→cL, wpAny_newFunctionEnv→cM, wpAny_newFunctionEnv_cells→pB, wpAny_pyIter_list→pG, wpAny_Call_method→pI, wpAny_newObj_type→pJ, wpAny_attempt→pN, seqIndex_neg→pV, wpAny_getItem_list_neg→pX, codeAny_compStart_list→p8, wpAny_execs_nil→sD, codeAny_builtin→sJ, wpAny_isTrue_Compare1→sN, codeAny_call_function→sO, wpAny_loadName_local→sT, seqIndex_of→sY, wpAny_notIn_of→nJ, wpAny_setField→nK, codeAny_call_builtin→nM, wpAny_loadName_cell→nQ, wpAny_newList→lI, wpAny_assign_Name→lQ, slot_list_getitem→lU, wpAny_Name→xQ, typeIs_str→xS, typeIs_int→xT, call_meets→xU
open Nat renaming le_refl→kH, ne_of_lt→mD, lt_of_lt_of_le→mG, le_trans→mJ, zero_le→mS, lt_succ_of_lt→gX, lt_irrefl→dE, le_succ→d7, ne_of_gt→rW, mul_le_mul_right→wK, lt_succ_self→wL, lt_of_le_of_lt→wS, mul_comm→cA, not_lt→cH, div_lt_of_lt_mul→cN, le_of_lt→cX, le_of_eq→cZ, lt_or_gt_of_ne→pC, add_mul→pK, one_mul→pL, add_zero→l7
open Option.some renaming inj→kI
open Bool renaming false_ne_true→kN, and_eq_true→mE, or_eq_true→g8, eq_iff_iff→wB, not_eq_true'→cC, or_false→pM, true_and→pO, decide_and→sI, false_and→sU, and_false→x8, false_or→aJ, true_or→aM
open Option renaming map_eq_some_iff→mO, isSome_iff_exists→wN, bind_some→cI, isSome_map→pH, getD_none→xF, map_some→xN, map_none→xP
open Int renaming toNat_natCast→mY, emod_lt_of_pos→m6, emod_nonneg→gG, eq_ofNat_of_zero_le→gY, natCast_mul→rJ, zero_add→rM, natCast_add→wQ, le_refl→wV, toNat_of_nonneg→cW, le_of_lt→c9, le_trans→lZ, natCast_ediv→xI, mul_nonneg→xV, mul_le_mul→x6
open PySem.F renaming slot_list_append→m7, type_list_append→m8, plainAttrs_list→gB, slot_dict_get→gU, entry_dict_get→dF, args_dict_get_3→rQ, plainAttrs_dict→rR, called_set→wA, slot_dict_itemiterator_iter→wO, args_dict_get_2→pQ, slot_dict_items→pS, slot_dict_pop→sQ, type_dict_get→sR, slot_int_rmul→xK
open PySem.W renaming mg_of→gC, kia_one→gS, mg_none_of→g6, callWith_K→rB, methodCall_KW→rE, cellsFrom_some→wZ, any_some→cG, looks_findIn→cK, plainGet_of→cU, callWith_K0→nR, pyHash_slot→lE, codeRec_of→lM, kitx_list→lR, kitx_dict→lT, codeHd_of_K→xJ
open PySem.PassesOwn renaming never→gF, leaving→xD
open Array renaming length_toList→gJ, getElem?_eq_some_iff→wJ, getElem?_toList→cF, getD_eq_getD_getElem?→c8, mem_toList_iff→sV, append_assoc→lL
open PySem.BindsTo renaming of_defaults→d4
open Ne renaming symm→d5
open PySem.Calls renaming callWith_builtin→d6, spliced_cons→rY, evalArgs_plain→wI, spliced_nil→wY, Name_function_global→pA
open PySem.Obj renaming isFreed_of_fields→rG, data_mapFields→wT
open PyProof.Rows.F renaming plain_set_update_loop→wW, entry_set_update_loop→pT
open PySem.SeqAt.EqAt renaming same→cS, none_bool→sZ, bool_none→nG, bool_bool→nH, none_int→nS, none_str→nU, bool_int→nV, bool_str→nX, int_none→nY, int_bool→nZ, str_none→lA, str_bool→lB, int_str→lJ, str_int→lK, of_refs→lN
open PyProof.Rows renaming callWith_type1→cY, listUpdate_at→pP, subscriptTail_builtinR→pW, get?_update_seq→sG, getElem?_mirror_all→lC, Subscript_→xR, size_push'→xZ
open Sum.inl renaming inj→pF
open PySem.Str renaming length_append→pU
open PySem.Around renaming frames_deeper→sX, under_plainId→nN
open PySem.Value renaming isStrOf_shape→nP, isInt_shape→lP
open PySem.Paired renaming length→lG
open PySem.SeqAt.RcNeAt renaming lists→lO
open List.Pairwise renaming map→xB
open PySem.SeqAt renaming eq_listAt→xL
open PySem.Walks renaming list→xW
open List.Perm renaming refl→xX
open PySem.EqMixed renaming eq_bool_str→x9, eq_str_bool→aA, ne_bool_str→aB, ne_str_bool→aD, eq_int_str→aE, eq_str_int→aF, ne_int_str→aG, ne_str_int→aH
open Prod.mk renaming injEq→aL
open Sum.inr renaming inj→aP
open PySem.W.Looks renaming here→aQ, ld→aS
open PySem.Heap.IsSliceOf renaming new→aR
set_option genSizeOf false
namespace L2
open PySem PySem.Spec PyProof.Rows
noncomputable abbrev Key:=Sum Int Str
noncomputable def zN:Key→Value→Bool
| .inl k,v=>Value.isInt k v
| .inr x,v=>Value.isStrOf x v
noncomputable def keyH(w:World):Key→Int
| .inl k=>hashInt k
| .inr x=>hashStr w x
theorem jM:∀{k:Key} {v:Value},zN k v=true→(∃i t,k=Sum.inl i∧v=Value.int i t)∨(∃x t,k=Sum.inr x∧v=Value.str x t)
| .inl i,v,h=>by obtain⟨t,e⟩:=lP (k:=i) (v:=v) h;exact .inl ⟨i,t,rfl,e⟩
| .inr x,v,h=>by obtain⟨t,e⟩:=nP (x:=x) (v:=v) h;exact .inr ⟨x,t,rfl,e⟩
theorem q7H(i:Int)(t:Tok):zN (.inl i) (.int i t)=true:=by simp[zN,Value.isInt]
theorem q7I(x:Str)(t:Tok):zN (.inr x) (.str x t)=true:=by simp[zN,Value.isStrOf]
theorem qH5(a b:Int):decide ((Sum.inl a:Key)=Sum.inl b)=(a==b):=by(
by_cases e:a=b
·subst e;simp
have h:¬(Sum.inl a:Key)=Sum.inl b:=λq=>e (pF q)
rw[hG h]
exact(dZ.mpr e).symm)
theorem qH6(a b:Str):decide ((Sum.inr a:Key)=Sum.inr b)=decide (a=b):=by(
by_cases e:a=b
·subst e;simp
have h:¬(Sum.inr a:Key)=Sum.inr b:=λq=>e (aP q)
rw[hG h,hG e])
theorem qH7(a:Int)(b:Str):decide ((Sum.inl a:Key)=Sum.inr b)=false:=hG (λq=>nomatch q)
theorem qH8(a:Str)(b:Int):decide ((Sum.inr a:Key)=Sum.inl b)=false:=hG (λq=>nomatch q)
noncomputable def jA(prog:Program)(w:World):PySem.KeyKind prog w Key where
is:=zN
hash:=keyH w
inj:=λv a b ha hb=>by
 rcases jM ha with⟨i,t,rfl,rfl⟩|⟨x,t,rfl,rfl⟩
 ·rcases jM hb with⟨j,u,rfl,e⟩|⟨y,u,rfl,e⟩
  ·injection e with e1 _;rw[e1]
  exact nomatch e
 rcases jM hb with⟨j,u,rfl,e⟩|⟨y,u,rfl,e⟩
 ·exact nomatch e
 injection e with e1 _;rw[e1]
byValue:=λk v h=>by rcases jM h with⟨i,t,rfl,rfl⟩|⟨x,t,rfl,rfl⟩<;>rfl
pyHash:=λhv h=>by
 rcases jM hv with⟨i,t,rfl,rfl⟩|⟨x,t,rfl,rfl⟩
 ·exact wpAny_pyHash_int h
 exact wpAny_pyHash_str h
eqBool:=λhu hv h=>by
 rcases jM hu with⟨i,t,rfl,rfl⟩|⟨x,t,rfl,rfl⟩
 ·rcases jM hv with⟨j,u,rfl,rfl⟩|⟨y,u,rfl,rfl⟩
  ·rw[qH5]at h;exact wpAny_eqBool_int h
  rw[qH7]at h;exact lJ i t y u _ _ _ _ h
 rcases jM hv with⟨j,u,rfl,rfl⟩|⟨y,u,rfl,rfl⟩
 ·rw[qH8]at h;exact lK x t j u _ _ _ _ h
 rw[qH6]at h;exact wpAny_eqBool_str h
«strs»:=λk x t v h=>by
 rcases jM h with⟨i,u,rfl,e⟩|⟨y,u,rfl,e⟩
 ·exact nomatch e
 injection e with e1 _
 subst e1;cases v<;>rfl
theorem q9G(prog:Program)(w:World)(i:Int)(t:Tok):(jA prog w).is (.inl i) (.int i t)=true:=q7H i t
theorem q9H(prog:Program)(w:World)(x:Str)(t:Tok):(jA prog w).is (.inr x) (.str x t)=true:=q7I x t
inductive V where
|non|bl (b:Bool)|int (i:Int)|str (x:Str)|byt (b:Array UInt8)|flt (b:UInt64)|ref (a:Addr)|ty (n:String)
deriving DecidableEq
noncomputable def RelV:V→Value→Prop
| .non,u=>u=Value.none
| .bl b,u=>u=Value.bool b
| .int i,u=>∃t,u=Value.int i t
| .str x,u=>∃t,u=Value.str x t
| .byt b,u=>∃t,u=Value.bytes b t
| .flt b,u=>∃t,u=Value.float b t
| .ref a,u=>u=Value.ref a
| .ty n,u=>u=Value.type n
noncomputable abbrev Vals:List V→List Value→Prop:=Paired RelV
theorem Vals.length{xs:List V}{us:List Value}(r:Vals xs us):xs.length=us.length:=lG r
theorem Vals.get:∀{xs:List V} {us:List Value} {i:Nat} {x:V},Vals xs us→xs[i]?=some x→∃u,us[i]?=some u∧RelV x u
|_,_,_,_,.nil,e=>by simp at e
|_,_,0,_,.cons r _,e=>by simp at e;subst e;exact⟨_,rfl,r⟩
|_,_,i+1,x,.cons _ t,e=>by obtain⟨u,h1,h2⟩:=Vals.get (i:=i) (x:=x) t (by simpa using e);exact⟨u,by simpa using h1,h2⟩
theorem Vals.set{x:V}{u:Value}(r:RelV x u):∀{xs:List V} {us:List Value} (i:Nat),Vals xs us→Vals (xs.set i x) (us.set i u)
|_,_,_,.nil=>.nil
|_,_,0,.cons _ t=>.cons r t
|_,_,i+1,.cons q t=>.cons q (Vals.set r i t)
theorem Vals.append:∀{xs ys:List V} {us ws:List Value},Vals xs us→Vals ys ws→Vals (xs++ys) (us++ws)
|_,_,_,_,.nil,s=>s
|_,_,_,_,.cons r t,s=>.cons r (Vals.append t s)
theorem Vals.take:∀{xs:List V} {us:List Value} (n:Nat),Vals xs us→Vals (xs.take n) (us.take n)
|_,_,0,_=>.nil
|_,_,_ +1,.nil=>.nil
|_,_,n+1,.cons r t=>.cons r (Vals.take n t)
theorem Vals.drop:∀{xs:List V} {us:List Value} (n:Nat),Vals xs us→Vals (xs.drop n) (us.drop n)
|_,_,0,r=>r
|_,_,_ +1,.nil=>.nil
|_,_,n+1,.cons _ t=>Vals.drop n t
noncomputable def RelO:Option V→Option Value→Prop
|some v,some u=>RelV v u
|none,none=>True
|_,_=>False
noncomputable def KV{κ:Type}:List (κ×V)→List (κ×Value)→Prop:=Paired λ(p:κ×V) (q:κ×Value)=>p.1=q.1∧RelV p.2 q.2
noncomputable def kV:Key→V
| .inl i=>.int i
| .inr x=>.str x
inductive HO where
|lst (xs:List V)
|tup (xs:List V)
|dK (kvs:List (Key×V))|dT (kvs:List (List Key×V))
|set (S:Int→Bool) (n:Nat)
|ins (C dx:Addr) (fs:List (Str×V))
|own (x:Addr)
|xd (fs:List (Str×V))
|met (f x:Addr)
|rng (lo hi:Int)
|frz (o:Obj) (u:HO)
|tbl (ps:Array Value)
|ext (φ:Heap→Prop)
noncomputable abbrev Hp:=Addr→Option HO
noncomputable def upd(H:Hp)(a:Addr)(o:HO):Hp:=λb=>if b=a then some o else H b
theorem qF{H:Hp}{a:Addr}{o:HO}:upd H a o a=some o:=by unfold upd;rw[kG rfl]
theorem qD{H:Hp}{a b:Addr}{o:HO}(h:b≠a):upd H a o b=H b:=by unfold upd;rw[kE h]
theorem q8A{H:Hp}{a:Addr}{o u:HO}:upd (upd H a o) a u=upd H a u:=by funext b;unfold upd;split<;>rfl
theorem jP{H:Hp}{a b:Addr}{o u:HO}(h:H a=some o)(h':H b=some u)(d:o≠u):a≠b:=by intro e;subst e;rw[h]at h';exact d (kI h')
theorem qG{H:Hp}{a b:Addr}{o:HO}(h:H a=some o)(h':H b=none):a≠b:=by intro e;subst e;rw[h]at h';cases h'
section
variable(P:Program)(w:World)
noncomputable def jU(H:Hp)(h:Heap)(a:Addr):HO→Prop
| .lst xs=>xs.length≤sizeLine∧∃(its:List Value) (n:Nat),Vals xs its∧h.get? a=some { cls:=.type "list",data:=.seq its.toArray n }
| .tup xs=>xs.length≤sizeLine∧∃its:List Value,Vals xs its∧IsTup h a its.toArray
| .dK kvs=>kvs.length≤sizeLine∧(a==sysModules)=false∧∃vs,KV kvs vs∧h.DictOf (jA P w) a vs
| .dT kvs=>kvs.length≤sizeLine∧(a==sysModules)=false∧∃xs:List (List Key×Addr×Value),Paired (λ(p:List Key×V) (q:List Key×Addr×Value)=>p.1=q.1∧H q.2.1=some (.tup (p.1.map kV))∧RelV p.2 q.2.2) kvs xs∧∃o es ep,h.get? a=some o∧o.ExactDict∧o.data=.dict es ep∧es.toList=xs.map (entryOfKey (tupleKind (jA P w)))∧(xs.map (·.1)).Nodup
| .set S n=>h.SetOf (intKind P w) a S n
| .ins C dx fs=>H dx=some (.own a)∧fs.length≤1000∧dx≠a∧h.get? a=some (PySem.W.instObj C dx)∧∃mA,h.Ns1 dx mA∧(∀f,RelO (fs.lookup f) (mA f))∧PySem.Within mA (fs.map (·.1))
| .own _=>∃o,h.get? a=some o
| .xd fs=>∃mA,h.Ns1 a mA∧∀f,RelO (fs.lookup f) (mA f)
| .rng lo hi=>∃t u v,h.get? a=some { cls:=.type "range",data:=.fields #[.int lo t,.int hi u,.int 1 v] }
| .frz o u=>h.get? a=some o∧jU H h a u
| .tbl ps=>h.get? a=some { cls:=.none,data:=.fields ps }
| .met f x=>h.get? a=some (PySem.W.methodObj (.ref f) (.ref x))
| .ext φ=>φ h∧(∃o,h.get? a=some o)∧∀h1 h2:Heap,φ h1→(∀o,h1.get? a=some o→h2.get? a=some o)→φ h2
noncomputable def HOk(H:Hp)(h:Heap):Prop:=∀a o,H a=some o→jU P w H h a o
end
section
variable{P:Program}{w:World}{H H':Hp}{h h':Heap}{a:Addr}{o:HO}
theorem jU.lt(x:jU P w H h a o):a<h.objs.size:=by(
cases o with
|lst xs=>obtain⟨_,_,_,_,e⟩:=x;exact kL e
|tup xs=>obtain⟨_,_,_,p⟩:=x;exact p.lt
|dK kvs=>obtain⟨_,_,_,_,o,_,_,e,_⟩:=x;exact kL e
|dT kvs=>obtain⟨_,_,_,_,o,_,_,e,_⟩:=x;exact kL e
|set S n=>obtain⟨o,_,_,_,e,_⟩:=x;exact kL e
|ins C dx fs=>obtain⟨_,_,_,e,_⟩:=x;exact kL e
|own y=>obtain⟨_,e⟩:=x;exact kL e
|xd fs=>obtain⟨_,⟨_,_,_,e,_⟩,_⟩:=x;exact kL e
|rng lo hi=>obtain⟨_,_,_,e⟩:=x;exact kL e
|frz ob u=>obtain⟨e,_⟩:=x;exact kL e
|tbl ps=>exact kL (show h.get? a=some _ from x)
|met f y=>exact kL (show h.get? a=some _ from x)
|ext φ=>obtain⟨_,⟨_,e⟩,_⟩:=x;exact kL e)
theorem Paired.mapP{α β:Type}{F G:α→β→Prop}:∀{l₁:List α} {l₂:List β},Paired F l₁ l₂→(∀a b,F a b→G a b)→Paired G l₁ l₂
|_,_,.nil,_=>.nil
|_,_,.cons r t,f=>.cons (f _ _ r) (Paired.mapP t f)
theorem jU.stay(x:jU P w H h a o)(k:∀b u,(b=a∨H b=some (.own a))→h.get? b=some u→h'.get? b=some u)
 (ho:∀b,H b=some (.own a)→H' b=some (.own a)) (ht:∀b xs,H b=some (.tup xs)→H' b=some (.tup xs)):jU P w H' h' a o:=by(
induction o with
|lst xs=>obtain⟨z,its,n,r,e⟩:=x;exact⟨z,its,n,r,k _ _ (.inl rfl) e⟩
|tup xs=>obtain⟨z,its,r,ob,e,c⟩:=x;exact⟨z,its,r,ob,k _ _ (.inl rfl) e,c⟩
|dK kvs=>obtain⟨z,y,vs,r,ob,es,ep,e,c⟩:=x;exact⟨z,y,vs,r,ob,es,ep,k _ _ (.inl rfl) e,c⟩
|dT kvs=>obtain⟨z,y,xs,r,ob,es,ep,e,c⟩:=x;exact⟨z,y,xs,Paired.mapP r λp q z=>⟨z.1,ht _ _ z.2.1,z.2.2⟩,ob,es,ep,k _ _ (.inl rfl) e,c⟩
|set S n=>obtain⟨ob,es,ep,t,e,c⟩:=x;exact⟨ob,es,ep,t,k _ _ (.inl rfl) e,c⟩
|ins C dx fs=>obtain⟨d,z,ne,e,mA,⟨od,es,ep,e2,c⟩,r⟩:=x;exact⟨ho _ d,z,ne,k _ _ (.inl rfl) e,mA,⟨od,es,ep,k _ _ (.inr d) e2,c⟩,r⟩
|own y=>obtain⟨ob,e⟩:=x;exact⟨ob,k _ _ (.inl rfl) e⟩
|xd fs=>obtain⟨mA,⟨od,es,ep,e,c⟩,r⟩:=x;exact⟨mA,⟨od,es,ep,k _ _ (.inl rfl) e,c⟩,r⟩
|rng lo hi=>obtain⟨t,u,v,e⟩:=x;exact⟨t,u,v,k _ _ (.inl rfl) e⟩
|frz ob u ih=>obtain⟨e,q⟩:=x;exact⟨k _ _ (.inl rfl) e,ih q⟩
|tbl ps=>have e:h.get? a=some { cls:=.none,data:=.fields ps }:=x;show h'.get? a=some { cls:=.none,data:=.fields ps };exact k a _ (.inl rfl) e
|met f y=>have e:h.get? a=some (PySem.W.methodObj (.ref f) (.ref y)):=x;show h'.get? a=some (PySem.W.methodObj (.ref f) (.ref y));exact k a _ (.inl rfl) e
|ext φ=>obtain⟨p,⟨o,e⟩,st⟩:=x;exact⟨st _ _ p λo q=>k _ _ (.inl rfl) q,⟨o,k _ _ (.inl rfl) e⟩,st⟩)
theorem HOk.lt(x:HOk P w H h)(e:H a=some o):a<h.objs.size:=(x a o e).lt
theorem HOk.fresh(x:HOk P w H h)(e:h.objs.size≤a):H a=none:=by(
cases q:H a with
|none=>rfl
|some u=>exact absurd (mG (x.lt q) e) (dE _))
theorem HOk.kept(x:HOk P w H h)(k:∀b u,h.get? b=some u→h'.get? b=some u):HOk P w H h':=λa o e=>(x a o e).stay (λb u _ q=>k b u q) (λ_ q=>q) λ_ _ q=>q
theorem HOk.laid(x:HOk P w H h)(k:∀b u,h.get? b=some u→h'.get? b=some u)(hp:h.objs.size≤a)(new:jU P w (upd H a o) h' a o):HOk P w (upd H a o) h':=λb u e=>by(
have hn:=x.fresh hp
by_cases hb:b=a
·subst hb;rw[qF]at e;cases e;exact new
rw[qD hb]at e
exact(x b u e).stay (λc v _ q=>k c v q) (λc q=>by rw[qD (qG q hn)];exact q) λc xs q=>by rw[qD (qG q hn)];exact q)
end
noncomputable def Rd(H:Hp)(a:Addr)(u:HO):Prop:=H a=some u∨∃o,H a=some (.frz o u)
theorem Rd.ok{P:Program}{w:World}{H:Hp}{h:Heap}{a:Addr}{u:HO}(r:Rd H a u)(x:HOk P w H h):jU P w H h a u:=by(
rcases r with r|⟨o,r⟩
·exact x a u r
obtain⟨_,q⟩:=x a _ r
exact q)
noncomputable def Mut:Option HO→Prop
|some (.lst _)=>True
|some (.dK _)=>True
|some (.dT _)=>True
|some (.set _ _)=>True
|some (.ins _ _ _)=>True
|some (.ext _)=>True
|_=>False
section
variable{P:Program}{w:World}{H:Hp}{h h':Heap}{x e:Addr}{o':HO}
theorem HOk.write(ok:HOk P w H h)(mu:Mut (H x))(he:e=x∨H e=some (.own x))(k:∀b u,b≠e→h.get? b=some u→h'.get? b=some u)(heo:∃u,h'.get? e=some u)
 (new:jU P w (upd H x o') h' x o'):HOk P w (upd H x o') h':=λb u q=>by(
have nown:∀c y,H c=some (.own y)→c≠x:=λc y r z=>by subst z;rw[r]at mu;exact mu
have ntup:∀c xs,H c=some (.tup xs)→c≠x:=λc xs r z=>by subst z;rw[r]at mu;exact mu
by_cases hb:b=x
·subst hb;rw[qF]at q;cases q;exact new
rw[qD hb]at q
by_cases hbe:b=e
·have q':H b=some (.own x):=by
  rcases he with z|z
  ·exact absurd (hbe.trans z) hb
  rw[hbe];exact z
 rw[q]at q';cases q';obtain⟨v,hv⟩:=heo;exact⟨v,by rw[hbe];exact hv⟩
refine(ok b u q).stay (λc v hc r=>k c v ?_ r) (λc r=>by rw[qD (nown c b r)];exact r) λc xs r=>by rw[qD (ntup c xs r)];exact r
rcases hc with rfl|hc
·exact hbe
rintro rfl
rcases he with z|z
·exact nown c b hc z
rw[hc]at z;cases z;exact hb rfl)
end
structure Un(fs ex:List Addr)(H H':Hp)(h h':Heap):Prop where
keep:∀b o,h.get? b=some o→H b=none→b∉fs→b∉ex→h'.get? b=some o
slot:∀b o,h.get? b=some o→H b=none→b∈fs→b∉ex→∃sl,h'.get? b=some { o with slots:=sl }
free:∀b o,h.get? b=some o→H b=none→b∉ex→H' b=none
there:∀b o,h.get? b=some o→b∉ex→∃o',h'.get? b=some o'
tups:∀b xs,H b=some (.tup xs)→H' b=some (.tup xs)
frzs:∀b o u,H b=some (.frz o u)→H' b=some (.frz o u)
tbls:∀b ps,H b=some (.tbl ps)→∃more,H' b=some (.tbl (ps++more))
section
variable{fs fs' ex ex':List Addr}{H H1 H2:Hp}{h h1 h2 h':Heap}{a x e:Addr}{o:HO}
theorem Un.any(u:Un fs ex H H1 h h1){b:Addr}{ob:Obj}(q:h.get? b=some ob)(n:H b=none)(hx:b∉ex):∃sl,h1.get? b=some { ob with slots:=sl }:=by(
by_cases hb:b∈fs
·exact u.slot b ob q n hb hx
exact⟨ob.slots,u.keep b ob q n hb hx⟩)
theorem Un.trans(a:Un fs ex H H1 h h1)(b:Un fs ex H1 H2 h1 h2):Un fs ex H H2 h h2 where
keep:=λc ob q n hc hx=>b.keep c ob (a.keep c ob q n hc hx) (a.free c ob q n hx) hc hx
slot:=λc ob q n hc hx=>by obtain⟨sl,e1⟩:=a.slot c ob q n hc hx;obtain⟨sl',e2⟩:=b.slot c _ e1 (a.free c ob q n hx) hc hx;exact⟨sl',e2⟩
free:=λc ob q n hx=>by obtain⟨o',e1⟩:=a.there c ob q hx;exact b.free c o' e1 (a.free c ob q n hx) hx
there:=λc ob q hx=>by obtain⟨o',e1⟩:=a.there c ob q hx;exact b.there c o' e1 hx
tups:=λc xs q=>b.tups c xs (a.tups c xs q)
frzs:=λc ob xs q=>b.frzs c ob xs (a.frzs c ob xs q)
tbls:=λc ps q=>by obtain⟨m1,e1⟩:=a.tbls c ps q;obtain⟨m2,e2⟩:=b.tbls c _ e1;exact⟨m1++m2,by rw[e2,lL]⟩
theorem Un.kept(k:∀b u,h.get? b=some u→h'.get? b=some u):Un fs ex H H h h':=⟨λb ob q _ _ _=>k b ob q,λb ob q _ _ _=>⟨ob.slots,k b ob q⟩,λ_ _ _ n _=>n,λb ob q _=>⟨ob,k b ob q⟩,λ_ _ q=>q,λ_ _ _ q=>q,λ_ ps q=>⟨#[],by rw[q];simp⟩⟩
theorem Un.refl:Un fs ex H H h h:=Un.kept λ_ _ q=>q
theorem Un.laid(k:∀b u,h.get? b=some u→h'.get? b=some u)(hp:h.objs.size≤a)(hn:H a=none):Un fs ex H (upd H a o) h h' where
keep:=λb u q _ _ _=>k b u q
slot:=λb u q _ _ _=>⟨u.slots,k b u q⟩
free:=λb u q n _=>by rw[qD (mD (mG (kL q) hp))];exact n
there:=λb u q _=>⟨u,k b u q⟩
tups:=λb xs q=>by rw[qD (qG q hn)];exact q
frzs:=λb u xs q=>by rw[qD (qG q hn)];exact q
tbls:=λb ps q=>⟨#[],by rw[qD (qG q hn),q];simp⟩
theorem Un.write(mu:Mut (H x))(he:e=x∨H e=some (.own x))(k:∀b u,b≠e→h.get? b=some u→h'.get? b=some u)(heo:∃u,h'.get? e=some u):Un fs ex H (upd H x o) h h':=by(
have hx:∀b,H b=none→b≠x:=λb n z=>by subst z;rw[n]at mu;exact mu
have hb:∀b,H b=none→b≠e:=λb n z=>by
 subst z;rcases he with r|r
 ·exact hx b n r
 rw[n]at r;cases r
have hm:∀b u,H b=some u→¬Mut (some u)→b≠x:=λb u q nm z=>by subst z;rw[q]at mu;exact nm mu
refine⟨λb u q n _ _=>k b u (hb b n) q,λb u q n _ _=>⟨u.slots,k b u (hb b n) q⟩,λb u q n _=>by rw[qD (hx b n)];exact n,λb u q _=>?_,λb xs q=>by rw[qD (hm b _ q λz=>z)];exact q,λb u xs q=>by rw[qD (hm b _ q λz=>z)];exact q,λb ps q=>⟨#[],by rw[qD (hm b _ q λz=>z),q];simp⟩⟩
by_cases hbe:b=e
·subst hbe;exact heo
exact⟨u,k b u hbe q⟩)
end
noncomputable def trk(h:Heap)(H:Hp):List Addr:=(List.range h.objs.size).filter λa=>(H a).isSome
noncomputable def hidT(h:Heap)(H:Hp):Heap:=PySem.W.hideAll h (trk h H)
theorem q7J(h:Heap)(H:Hp):(hidT h H).objs.size=h.objs.size:=PySem.W.hideAll_size _ _
theorem q5V{h:Heap}{H:Hp}{b:Addr}{o:Obj}(e:h.get? b=some o)(n:H b=none):(hidT h H).get? b=some o:=PySem.W.hideAll_get _ e λhm=>by  have q:(H b).isSome=true:=(mQ.mp hm).2;rw[n]at q;simp at q
theorem qBM{h:Heap}{H:Hp}{b:Addr}{o:Obj}(e:(hidT h H).get? b=some o):h.get? b=some o∧H b=none:=by(
have e':h.get? b=some o:=PySem.W.of_hideAll (trk h H) e
refine⟨e',?_⟩
cases q:H b with
|none=>rfl
|some x=>have hm:b∈trk h H:=mQ.mpr ⟨mH.mpr (kL e'),by simp[q]⟩;have z:(hidT h H).get? b=none:=PySem.W.hideAll_none (trk h H) hm;rw[z]at e;cases e)
structure Mod(K:PySem.W.Frag)(mg:Str→Option Value)(base:Heap):Prop where
kin:K.In base
glob:base.Ns mainGlobals mg
blt:∃mb,base.Ns builtinsNs mb∧∀x:Str,x≠"__name__"→mb x=bootBuiltins x
nolimit:base.NoLimit
structure Cx where
prog:Program
w:World
K:PySem.W.Frag
mg:Str→Option Value
base:Heap
A:Around
N:List Str
s₀:Shared
H₀:Hp
env:Env
outer:List Env
stack:List Env
ex:List Addr
fn:Str→Bool
calm:Bool
pn:List (Addr×Obj)
xe:Value→Shared→Prop
noncomputable def frs(l:List Env):List Addr:=l.filterMap (·.frame)
noncomputable abbrev Cx.fs(X:Cx):List Addr:=frs X.outer
noncomputable def Vis(sc:Scope)(x:Str):Prop:=sc.names.lookup x=some .local∨sc.names.lookup x=some .cell∨sc.names.lookup x=some .free
noncomputable def Loc(sc:Scope)(x:Str):Prop:=sc.names.lookup x=some .local∨sc.names.lookup x=some .cell
noncomputable def Look(env:Env)(h:Heap)(m:Str→Option Value)(x:Str)(u:Value):Prop:=(env.kindOf x=some .local∧m x=some u)∨((env.kindOf x=some .cell∨env.kindOf x=some .free)∧∃c,env.cells.lookup x=some c∧h.IsCell c (some u))
structure Cx.Ok(X:Cx):Prop where
mod:Mod X.K X.mg X.base
kind:X.env.scope.kind=.function
glob:X.env.globals=mainGlobals
blt:X.env.builtins=builtinsNs
above:X.s₀.heap.objs.size≤X.env.locals
inj:∀x y c,X.env.cells.lookup x=some c→X.env.cells.lookup y=some c→x=y
has:∀x,(X.env.kindOf x=some .cell∨X.env.kindOf x=some .free)→∃c,X.env.cells.lookup x=some c
cab:∀x c,X.fn x=true→X.env.cells.lookup x=some c→X.s₀.heap.objs.size≤c
hd:X.calm=true→X.A.handled=none
frames:X.A.frames=some X.stack
stk:X.stack=X.outer∨(X.stack=X.env::X.outer∧X.env.frame=some X.env.locals)
exf:∀b∈X.ex,b≠X.env.locals∧∀x c,X.env.cells.lookup x=some c→c≠b
bs:∀b o,X.base.get? b=some o→X.s₀.heap.get? b=some o∧X.H₀ b=none
bsz:X.base.objs.size≤X.s₀.heap.objs.size
noex:∀b o,X.base.get? b=some o→b∉X.ex
exfs:∀b∈X.ex,b∉X.fs
funs:X.s₀.heap.FunFrames X.base X.outer
frf:∀b∈X.fs,X.H₀ b=none
structure Inv(X:Cx)(pins:List (Addr×Obj))(σ:List (Option V))(H:Hp)(s:Shared):Prop where
ok:X.Ok
os:s.os=X.s₀.os
bare:AllBare s.gens
base:Un X.fs X.ex X.H₀ H X.s₀.heap s.heap
loc:∃m,s.heap.Ns X.env.locals m∧∀(i:Nat) (x:Str) (v:V),X.N[i]?=some x→σ[i]?=some (some v)→Vis X.env.scope x→∃u,RelV v u∧Look X.env s.heap m x u
cell:∀x c,X.env.cells.lookup x=some c→∃v,s.heap.IsCell c v
free:H X.env.locals=none
freeC:∀x c,X.env.cells.lookup x=some c→H c=none
pin:∀p∈X.pn++pins,s.heap.get? p.1=some p.2∧H p.1=none∧p.1≠X.env.locals∧p.1∉X.fs∧∀v,p.2.data≠ .cell v
hok:HOk X.prog X.w H s.heap
len:σ.length=X.N.length
section
variable{X:Cx}{pins:List (Addr×Obj)}{σ:List (Option V)}{H H':Hp}{s:Shared}{h':Heap}
theorem Cx.Ok.nofr(ok:X.Ok){b:Addr}{o:Obj}(e:X.base.get? b=some o):b∉X.fs:=λhb=>by have:=(ok.funs.mem hb).1;rw[e]at this;cases this
theorem Inv.bs(I:Inv X pins σ H s):∀b o,X.base.get? b=some o→s.heap.get? b=some o∧H b=none:=λb o e=>⟨I.base.keep b o (I.ok.bs b o e).1 (I.ok.bs b o e).2 (I.ok.nofr e) (I.ok.noex b o e),I.base.free b o (I.ok.bs b o e).1 (I.ok.bs b o e).2 (I.ok.noex b o e)⟩
theorem Inv.bk(I:Inv X pins σ H s):∀b o,X.base.get? b=some o→s.heap.get? b=some o:=λb o e=>(I.bs b o e).1
theorem Inv.mod(I:Inv X pins σ H s):Mod X.K X.mg X.base:=I.ok.mod
theorem Inv.kIn(I:Inv X pins σ H s):X.K.In s.heap:=I.ok.mod.kin.keeps I.bk
theorem Inv.fr(I:Inv X pins σ H s):∃m,Fr X.base X.env.locals s.heap m:=let⟨m,hn,_⟩:=I.loc
 ⟨m,hn,I.bk,mJ I.ok.bsz I.ok.above⟩
theorem Inv.lt(I:Inv X pins σ H s):X.env.locals<s.heap.objs.size:=let⟨_,hn,_⟩:=I.loc;hn.lt
theorem Inv.sz(I:Inv X pins σ H s):X.s₀.heap.objs.size≤s.heap.objs.size:=mJ I.ok.above (cX I.lt)
theorem Inv.nofs(I:Inv X pins σ H s){a:Addr}(h:s.heap.objs.size≤a):a∉X.fs:=λhb=>by obtain⟨_,o,ho,_⟩:=I.ok.funs.mem hb;exact absurd (mG (kL ho) (mJ I.sz h)) (dE _)
theorem Inv.cne(I:Inv X pins σ H s):∀x c,X.env.cells.lookup x=some c→c≠X.env.locals:=λx c e z=>by obtain⟨v,o,ho,hd⟩:=I.cell x c e;obtain⟨m,⟨o',es,ep,ho',hd',_⟩,_⟩:=I.loc;rw[z,ho']at ho;cases ho;rw[hd']at hd;cases hd
theorem Inv.funs(I:Inv X pins σ H s):s.heap.FunFrames X.base X.outer:=by(
have all:∀(l:List Env),(∀b∈frs l,b∈X.fs)→X.s₀.heap.FunFrames X.base l→s.heap.FunFrames X.base l:=by
 intro l;induction l with
 |nil=>intro _ _;trivial
 |cons env r ih=>intro hs hl;obtain⟨hk,⟨L,o,hf,hn,ho,hd⟩,hr⟩:=hl;have hL:L∈X.fs:=hs L (by unfold frs;rw[rN,hf];exact kO);obtain⟨sl,e⟩:=I.base.slot L o ho (I.ok.frf L hL) hL λz=>I.ok.exfs L z hL;exact⟨hk,⟨L,_,hf,hn,e,hd⟩,ih (λb hb=>hs b (by unfold frs;rw[rN,hf];exact kF _ hb)) hr⟩
exact all X.outer (λ_ hb=>hb) I.ok.funs)
theorem Inv.stack(I:Inv X pins σ H s):s.heap.FunFrames X.base X.stack:=by(
rcases I.ok.stk with e|⟨e,hf⟩
·rw[e];exact I.funs
rw[e]
obtain⟨m,hn,_⟩:=I.loc
refine .cons (by rw[I.ok.kind];decide) hf hn ?_ I.funs
exact wG (mJ I.ok.bsz I.ok.above))
theorem Inv.stkSub(I:Inv X pins σ H s):∀b∈frs X.stack,b∈X.env.locals::X.fs:=λb hb=>by(
rcases I.ok.stk with e|⟨e,hf⟩
·rw[e]at hb;exact kF _ hb
rw[e]at hb
unfold frs at hb
rw[rN,hf]at hb
exact hb)
theorem Inv.stkFree(I:Inv X pins σ H s):∀b∈frs X.stack,H b=none:=λb hb=>by(
rcases kW.mp (I.stkSub b hb)with e|hb
·rw[e];exact I.free
obtain⟨_,o,ho,_⟩:=I.ok.funs.mem hb
exact I.base.free b o ho (I.ok.frf b hb) λz=>I.ok.exfs b z hb)
theorem Inv.step{g':Array GenState}{t':Nat}{d':Drawn}{ch:List Addr}(I:Inv X pins σ H s)
 (hch:∀b∈ch,(b∈X.ex∨X.s₀.heap.objs.size≤b)∧b≠X.env.locals∧(∀x c,X.env.cells.lookup x=some c→c≠b)∧∀p∈X.pn++pins,p.1≠b)
 (keep:∀b o,b≠X.env.locals→b∉X.fs→b∉ch→s.heap.get? b=some o→H b=none→h'.get? b=some o)
 (slot:∀b o,b≠X.env.locals→b∈X.fs→b∉ch→s.heap.get? b=some o→H b=none→∃sl,h'.get? b=some { o with slots:=sl }) (free:∀b o,b∉ch→s.heap.get? b=some o→H b=none→H' b=none)
 (there:∀b o,b∉ch→s.heap.get? b=some o→∃o',h'.get? b=some o')
 (tups:∀b xs,H b=some (.tup xs)→H' b=some (.tup xs)) (frzs:∀b o u,H b=some (.frz o u)→H' b=some (.frz o u)) (tbls:∀b ps,H b=some (.tbl ps)→∃more,H' b=some (.tbl (ps++more)))
 (ns:∀m,s.heap.Ns X.env.locals m→h'.Ns X.env.locals m) (hok:HOk X.prog X.w H' h') (hg:AllBare g'):
 Inv X pins σ H' { s with heap:=h',gens:=g',drawn:=d',toks:=t' }:=by(
have neL:∀b o,X.s₀.heap.get? b=some o→b≠X.env.locals:=λb o e=>mD (mG (kL e) I.ok.above)
have neC:∀b o,X.s₀.heap.get? b=some o→b∉X.ex→b∉ch:=λb o e hx hb=>by
 rcases(hch b hb).1 with z|z
 ·exact hx z
 exact absurd (mG (kL e) z) (dE _)
have cellK:∀x c,X.env.cells.lookup x=some c→∀v,s.heap.IsCell c v→h'.IsCell c v:=λx c e v ⟨o,ho,hd⟩=>by
 have nch:c∉ch:=λz=>(hch c z).2.2.1 x c e rfl;by_cases hc:c∈X.fs
 ·obtain⟨sl,q⟩:=slot c o (I.cne x c e) hc nch ho (I.freeC x c e);exact⟨_,q,hd⟩
 exact⟨o,keep c o (I.cne x c e) hc nch ho (I.freeC x c e),hd⟩
refine⟨I.ok,I.os,hg,⟨λb o e n hb hx=>?_,λb o e n hb hx=>?_,λb o e n hx=>?_,λb o e hx=>?_,λb xs e=>tups b xs (I.base.tups b xs e),λb o xs e=>frzs b o xs (I.base.frzs b o xs e),λb ps e=>?_⟩,?_,λx c e=>?_,?_,λx c e=>?_,λp hp=>?_,hok,I.len⟩
·exact keep b o (neL b o e) hb (neC b o e hx) (I.base.keep b o e n hb hx) (I.base.free b o e n hx)
·obtain⟨sl,e1⟩:=I.base.slot b o e n hb hx;obtain⟨sl',e2⟩:=slot b _ (neL b o e) hb (neC b o e hx) e1 (I.base.free b o e n hx);exact⟨sl',e2⟩
·obtain⟨o',e1⟩:=I.base.there b o e hx;exact free b o' (neC b o e hx) e1 (I.base.free b o e n hx)
·obtain⟨o',e1⟩:=I.base.there b o e hx;exact there b o' (neC b o e hx) e1
·obtain⟨m1,e1⟩:=I.base.tbls b ps e;obtain⟨m2,e2⟩:=tbls b _ e1;exact⟨m1++m2,by rw[e2,lL]⟩
·obtain⟨m,hn,hl⟩:=I.loc;refine⟨m,ns m hn,λi x v e1 e2 e3=>?_⟩;obtain⟨u,r,l⟩:=hl i x v e1 e2 e3;refine⟨u,r,?_⟩;rcases l with l|⟨k,c,e,z⟩
 ·exact .inl l
 exact .inr ⟨k,c,e,cellK x c e _ z⟩
·obtain⟨v,z⟩:=I.cell x c e;exact⟨v,cellK x c e v z⟩
·obtain⟨m,⟨o,_,_,ho,_⟩,_⟩:=I.loc;exact free _ o (λz=>(hch _ z).2.1 rfl) ho I.free
·obtain⟨v,o,ho,hd⟩:=I.cell x c e;exact free c o (λz=>(hch c z).2.2.1 x c e rfl) ho (I.freeC x c e)
obtain⟨e,n,ne,nf,d⟩:=I.pin p hp
have nch:p.1∉ch:=λz=>(hch p.1 z).2.2.2 p hp rfl
exact⟨keep p.1 p.2 ne nf nch e n,free p.1 p.2 nch e n,ne,nf,d⟩)
theorem Inv.un{t':Nat}(I:Inv X pins σ H s)(u:Un X.fs [] H H' s.heap h')(hok:HOk X.prog X.w H' h'):Inv X pins σ H' { s with heap:=h',toks:=t' }:=by obtain⟨m,⟨o,es,ep,ho,r⟩,_⟩:=id I.loc;obtain⟨sl,hL⟩:=u.any ho I.free (by simp);exact I.step (g':=s.gens) (d':=s.drawn) (ch:=[]) (λ_ z=>nomatch z) (λb o _ hb _ e n=>u.keep b o e n hb (by simp)) (λb o _ hb _ e n=>u.slot b o e n hb (by simp)) (λb o _ e n=>u.free b o e n (by simp)) (λb o _ e=>u.there b o e (by simp)) u.tups u.frzs u.tbls (λm' hm=>by obtain⟨o',es',ep',ho',r'⟩:=hm;rw[ho]at ho';cases ho';exact⟨_,es',ep',hL,r'⟩) hok I.bare
theorem Inv.call{g':Array GenState}{t':Nat}{d':Drawn}{ch:List Addr}(I:Inv X pins σ H s)(u:Un (frs X.stack) ch H H' s.heap h')(hok:HOk X.prog X.w H' h')(hg:AllBare g')
 (hch:∀b∈ch,(b∈X.ex∨X.s₀.heap.objs.size≤b)∧b≠X.env.locals∧(∀x c,X.env.cells.lookup x=some c→c≠b)∧∀p∈X.pn++pins,p.1≠b):
 Inv X pins σ H' { s with heap:=h',gens:=g',drawn:=d',toks:=t' }:=by obtain⟨m,⟨o,es,ep,ho,r⟩,_⟩:=id I.loc;obtain⟨sl,hL⟩:=u.any ho I.free λz=>(hch _ z).2.1 rfl;exact I.step (ch:=ch) hch (λb o hL hb hc e n=>u.keep b o e n (λz=>(kW.mp (I.stkSub b z)).elim hL hb) hc) (λb o _ _ hc e n=>u.any e n hc) (λb o hc e n=>u.free b o e n hc) (λb o hc e=>u.there b o e hc) u.tups u.frzs u.tbls (λm' hm=>by obtain⟨o',es',ep',ho',r'⟩:=hm;rw[ho]at ho';cases ho';exact⟨_,es',ep',hL,r'⟩) hok hg
theorem Inv.turned{t':Nat}{it:Addr}(I:Inv X pins σ H s)(k:∀b o,b≠it→s.heap.get? b=some o→h'.get? b=some o)(hn:H it=none)(hL:it≠X.env.locals)
 (h1:it∈X.ex∨X.s₀.heap.objs.size≤it) (h2:∀x c,X.env.cells.lookup x=some c→c≠it) (h3:∀p∈X.pn++pins,p.1≠it):Inv X pins σ H { s with heap:=h',toks:=t' }:=by(
have nit:∀b u,H b=some u→b≠it:=λb u e z=>by rw[z,hn]at e;cases e
refine I.step (g':=s.gens) (d':=s.drawn) (ch:=[it]) (λb hb=>?_) (λb o _ _ hc e _=>k b o (λz=>hc (by simp[z])) e) (λb o _ _ hc e _=>⟨o.slots,k b o (λz=>hc (by simp[z])) e⟩) (λ_ _ _ _ n=>n)
 (λb o hc e=>⟨o,k b o (λz=>hc (by simp[z])) e⟩) (λ_ _ e=>e) (λ_ _ _ e=>e) (λb ps e=>⟨#[],by rw[e];simp⟩) (λm hm=>?_) (λb u e=>?_) I.bare
·have e:b=it:=by simpa using hb
 subst e;exact⟨h1,hL,h2,h3⟩
·obtain⟨o,es,ep,ho,r⟩:=hm;exact⟨o,es,ep,k _ o (d5 hL) ho,r⟩
refine(I.hok b u e).stay (λc v hc q=>k c v ?_ q) (λ_ q=>q) λ_ _ q=>q
rcases hc with z|z
·rw[z];exact nit b u e
exact nit c _ z)
theorem Inv.tok(I:Inv X pins σ H s)(t:Nat):Inv X pins σ H { s with toks:=t }:=I.un (h':=s.heap) (t':=t) Un.refl I.hok
theorem Inv.kept{t':Nat}(I:Inv X pins σ H s)(k:∀b u,s.heap.get? b=some u→h'.get? b=some u):Inv X pins σ H { s with heap:=h',toks:=t' }:=I.un (Un.kept k) (I.hok.kept k)
theorem Inv.laid{a:Addr}{o:HO}{t':Nat}(I:Inv X pins σ H s)(k:∀b u,s.heap.get? b=some u→h'.get? b=some u)(hp:s.heap.objs.size≤a)(new:jU X.prog X.w (upd H a o) h' a o):
 Inv X pins σ (upd H a o) { s with heap:=h',toks:=t' }:=I.un (Un.laid k hp (I.hok.fresh hp)) (I.hok.laid k hp new)
theorem Inv.write{x e:Addr}{o:HO}{t':Nat}(I:Inv X pins σ H s)(mu:Mut (H x))(he:e=x∨H e=some (.own x))(k:∀b u,b≠e→s.heap.get? b=some u→h'.get? b=some u)(heo:∃u,h'.get? e=some u)
 (new:jU X.prog X.w (upd H x o) h' x o):Inv X pins σ (upd H x o) { s with heap:=h',toks:=t' }:=I.un (Un.write mu he k heo) (I.hok.write mu he k heo new)
theorem Inv.weak{σ':List (Option V)}(I:Inv X pins σ H s)(hl:σ'.length=σ.length)(w:∀(i:Nat) v,σ'[i]?=some (some v)→σ[i]?=some (some v)):Inv X pins σ' H s:=⟨I.ok,I.os,I.bare,I.base,let⟨m,hn,hl'⟩:=I.loc;⟨m,hn,λi x v e1 e2 e3=>hl' i x v e1 (w i v e2) e3⟩,I.cell,I.free,I.freeC,I.pin,I.hok,hl.trans I.len⟩
theorem Inv.pins_of{pins':List (Addr×Obj)}(I:Inv X pins σ H s)(h:∀p∈pins',s.heap.get? p.1=some p.2∧H p.1=none∧p.1≠X.env.locals∧p.1∉X.fs∧∀v,p.2.data≠ .cell v):Inv X pins' σ H s:=⟨I.ok,I.os,I.bare,I.base,I.loc,I.cell,I.free,I.freeC,λp hp=>(mP.mp hp).elim (λz=>I.pin p (kU _ z)) (h p),I.hok,I.len⟩
theorem q5W{N:List Str}(hN:N.Nodup){i j:Nat}{x:Str}(a:N[i]?=some x)(b:N[j]?=some x):i=j:=by obtain⟨h1,e1⟩:=hV.mp a;obtain⟨h2,e2⟩:=hV.mp b;exact(List.getElem_inj hN).mp (e1.trans e2.symm)
theorem q7K{M:Model}{A:Around}{E:Value→Shared→Prop}{i:Nat}{x:Str}{v:V}{u:Value}{Q:Unit→Shared→Prop}(I:Inv X pins σ H s)(hN:X.N.Nodup)(hi:X.N[i]?=some x)(hx:Loc X.env.scope x)(r:RelV v u)
 (h:∀s',Inv X pins (σ.set i (some v)) H s'→(∃a,Heap.SameBut a s.heap s'.heap∧(a=X.env.locals∨X.env.cells.lookup x=some a))→Q () s') (hf:X.fn x=true∨X.env.scope.names.lookup x=some .local:=by first|exact .inl rfl|exact .inr rfl|assumption):wpAny M A (storeName X.env x u) Q E s:=by(
obtain⟨m,hn,hl⟩:=id I.loc
have hcls:(X.env.scope.kind== .class||(X.env.scope.kind== .module&&X.env.locals !=X.env.globals))=false:=by rw[I.ok.kind];rfl
have hiσ:i<σ.length:=by rw[I.len];exact(hV.mp hi).1
have cne:=I.cne
have tracked:∀{a:Addr} {h':Heap},(∃o,s.heap.get? a=some o∧H a=none)→Heap.SameBut a s.heap h'→HOk X.prog X.w H h':=fun {a h'} ha hs b ob e=>by
 obtain⟨_,_,hfree⟩:=ha;refine(I.hok b ob e).stay (λc w' hc q=>(hs.2 c ?_).trans q) (λ_ q=>q) λ_ _ q=>q;rintro rfl
 rcases hc with rfl|hc
 ·rw[hfree]at e;cases e
 rw[hfree]at hc;cases hc
rcases hx with hk|hk
·refine wpAny_storeName_local hk hn (λh' hn' hs=>?_) hcls;obtain⟨oL,_,_,hoL,_⟩:=id hn;refine h _ ⟨I.ok,I.os,I.bare,⟨λb o e n hb hx=>?_,λb o e n hb hx=>?_,I.base.free,λb o e hx=>?_,I.base.tups,I.base.frzs,I.base.tbls⟩,⟨_,hn',λj y v' e1 e2 e3=>?_⟩,λy c e=>?_,I.free,I.freeC,λp hp=>?_,tracked ⟨oL,hoL,I.free⟩ hs,by simpa using I.len⟩ ⟨_,hs,.inl rfl⟩
 ·exact(hs.2 b (mD (mG (kL e) I.ok.above))).trans (I.base.keep b o e n hb hx)
 ·obtain⟨sl,e1⟩:=I.base.slot b o e n hb hx;exact⟨sl,(hs.2 b (mD (mG (kL e) I.ok.above))).trans e1⟩
 ·obtain⟨o',e1⟩:=I.base.there b o e hx;exact⟨o',(hs.2 b (mD (mG (kL e) I.ok.above))).trans e1⟩
 ·by_cases hj:j=i
  ·subst hj;rw[hi]at e1;cases e1;rw[wX hiσ]at e2;cases e2;exact⟨u,r,.inl ⟨hk,by simp⟩⟩
  rw[rK (d5 hj)]at e2;obtain⟨u',r',q⟩:=hl j y v' e1 e2 e3;refine⟨u',r',?_⟩;rcases q with⟨k,e⟩|⟨k,c,e,z⟩
  ·refine .inl ⟨k,?_⟩;have:y≠x:=λe=>hj (q5W hN e1 (e▸hi));simp[this,e]
  exact .inr ⟨k,c,e,z.sameBut hs (cne y c e)⟩
 ·obtain⟨w',z⟩:=I.cell y c e;exact⟨w',z.sameBut hs (cne y c e)⟩
 obtain⟨e,n,ne,nf,d⟩:=I.pin p hp;exact⟨(hs.2 p.1 ne).trans e,n,ne,nf,d⟩
have hfn:X.fn x=true:=by
 rcases hf with z|z
 ·exact z
 rw[z]at hk;cases hk
obtain⟨c,hc⟩:=I.ok.has x (.inl hk)
obtain⟨w',z⟩:=I.cell x c hc
refine wpAny_storeName_cell I.ok.kind hk hc z (λh' hc' hs=>?_)
obtain⟨oc,hoc,hocd⟩:=id z
refine h { s with heap:=h' } ⟨I.ok,I.os,I.bare,⟨λb o e n hb hx=>?_,λb o e n hb hx=>?_,I.base.free,λb o e hx=>?_,I.base.tups,I.base.frzs,I.base.tbls⟩,⟨m,hn.sameBut hs (d5 (cne x c hc)),λj y v' e1 e2 e3=>?_⟩,λy c' e=>?_,I.free,I.freeC,λp hp=>?_,tracked ⟨oc,hoc,I.freeC x c hc⟩ hs,by simpa using I.len⟩ ⟨c,hs,.inr hc⟩
·exact(hs.2 b (mD (mG (kL e) (I.ok.cab x c hfn hc)))).trans (I.base.keep b o e n hb hx)
·obtain⟨sl,e1⟩:=I.base.slot b o e n hb hx;exact⟨sl,(hs.2 b (mD (mG (kL e) (I.ok.cab x c hfn hc)))).trans e1⟩
·obtain⟨o',e1⟩:=I.base.there b o e hx;exact⟨o',(hs.2 b (mD (mG (kL e) (I.ok.cab x c hfn hc)))).trans e1⟩
·by_cases hj:j=i
 ·subst hj;rw[hi]at e1;cases e1;rw[wX hiσ]at e2;cases e2;exact⟨u,r,.inr ⟨.inl hk,c,hc,hc'⟩⟩
 rw[rK (d5 hj)]at e2;obtain⟨u',r',q⟩:=hl j y v' e1 e2 e3;refine⟨u',r',?_⟩;rcases q with q|⟨k,c',e,z'⟩
 ·exact .inl q
 refine .inr ⟨k,c',e,z'.sameBut hs ?_⟩;rintro rfl
 exact hj (q5W hN e1 (I.ok.inj _ _ _ e hc▸hi))
·by_cases hcc:c'=c
 ·subst hcc;exact⟨_,hc'⟩
 obtain⟨w2,z2⟩:=I.cell y c' e;exact⟨w2,z2.sameBut hs hcc⟩
obtain⟨e,n,ne,nf,d⟩:=I.pin p hp
refine⟨(hs.2 p.1 ?_).trans e,n,ne,nf,d⟩
intro q
rw[q,hoc]at e
have q':oc=p.2:=kI e
exact d w' (by rw[←q'];exact hocd))
theorem q3L{M:Model}{A:Around}{E:Value→Shared→Prop}{i:Nat}{x:Str}{v:V}{u:Value}{Q:Unit→Shared→Prop}(I:Inv X pins σ H s)(hN:X.N.Nodup)(hi:X.N[i]?=some x)(hx:Loc X.env.scope x)(r:RelV v u)
 (h:∀s',Inv X pins (σ.set i (some v)) H s'→Q () s') (hf:X.fn x=true∨X.env.scope.names.lookup x=some .local:=by first|exact .inl rfl|exact .inr rfl|assumption):wpAny M A (storeName X.env x u) Q E s:=q7K I hN hi hx r (λs' I' _=>h s' I') hf
theorem Inv.call'{s':Shared}{ch:List Addr}(I:Inv X pins σ H s)(ho:s'.os=s.os)(u:Un (frs X.stack) ch H H' s.heap s'.heap)(hok:HOk X.prog X.w H' s'.heap)(hg:AllBare s'.gens)
 (hch:∀b∈ch,(b∈X.ex∨X.s₀.heap.objs.size≤b)∧b≠X.env.locals∧(∀x c,X.env.cells.lookup x=some c→c≠b)∧∀p∈X.pn++pins,p.1≠b):Inv X pins σ H' s':=by(
obtain⟨h',g',d',t',o'⟩:=s'
have e:o'=s.os:=ho
subst e
exact I.call (g':=g') (t':=t') (d':=d') u hok hg hch)
end
noncomputable abbrev XK:=Value→Option Addr→Hp→Prop
noncomputable abbrev St:=List (Option V)
noncomputable abbrev VK:=V→Hp→Prop
noncomputable abbrev TE:=St→Hp→VK→Prop
noncomputable abbrev TT:=St→Hp→(Bool→Hp→Prop)→Prop
noncomputable abbrev TA:=St→Hp→(List V→Hp→Prop)→Prop
structure Ends where
nx:St→Hp→Prop
rt:VK
bk:St→Hp→Prop:=λ_ _=>False
ct:St→Hp→Prop:=λ_ _=>False
noncomputable abbrev TS:=Ends→St→Hp→Prop
noncomputable def EP(X:Cx)(pins:List (Addr×Obj))(σ:St)(Q:VK)(u:Value)(s':Shared):Prop:=∃v H',Inv X pins σ H' s'∧RelV v u∧Q v H'
noncomputable def TP(X:Cx)(pins:List (Addr×Obj))(σ:St)(Q:Bool→Hp→Prop)(b:Bool)(s':Shared):Prop:=∃H',Inv X pins σ H' s'∧Q b H'
noncomputable def AP(X:Cx)(pins:List (Addr×Obj))(σ:St)(Q:List V→Hp→Prop)(us:List Value)(s':Shared):Prop:=∃vs H',Inv X pins σ H' s'∧Vals vs us∧Q vs H'
noncomputable def SP(X:Cx)(pins:List (Addr×Obj))(D:Ends)(f:Flow)(s':Shared):Prop:=match f with
| .next=>∃σ' H',Inv X pins σ' H' s'∧D.nx σ' H'
| .brk=>∃σ' H',Inv X pins σ' H' s'∧D.bk σ' H'
| .cont=>∃σ' H',Inv X pins σ' H' s'∧D.ct σ' H'
| .ret u=>∃v σ' H',Inv X pins σ' H' s'∧RelV v u∧D.rt v H'
noncomputable def PE(X:Cx)(e:Expr)(t:TE):Prop:=∀(pins:List (Addr×Obj)) (s:Shared) (σ:St) (H:Hp) (Q:VK),Inv X pins σ H s→t σ H Q→wpAny (model X.prog X.w) X.A (eval e X.env) (EP X pins σ Q) X.xe s
noncomputable def PT(X:Cx)(e:Expr)(t:TT):Prop:=∀(pins:List (Addr×Obj)) (s:Shared) (σ:St) (H:Hp) (Q:Bool→Hp→Prop),Inv X pins σ H s→t σ H Q→wpAny (model X.prog X.w) X.A (isTrue e X.env (eval e X.env)) (TP X pins σ Q) X.xe s
noncomputable def PW(X:Cx)(e:Expr)(t:TT):Prop:=∀(whole:Sem Value) (pins:List (Addr×Obj)) (s:Shared) (σ:St) (H:Hp) (Q:Bool→Hp→Prop),Inv X pins σ H s→t σ H Q→wpAny (model X.prog X.w) X.A (isTrue e X.env whole) (TP X pins σ Q) X.xe s
theorem PW.pt{X:Cx}{e:Expr}{t:TT}(h:PW X e t):PT X e t:=h _
noncomputable def PA(X:Cx)(es:List Expr)(t:TA):Prop:=∀(pos:Pos) (pins:List (Addr×Obj)) (s:Shared) (σ:St) (H:Hp) (Q:List V→Hp→Prop),Inv X pins σ H s→t σ H Q→wpAny (model X.prog X.w) X.A (spliced (backTo pos (starEach es X.env))) (AP X pins σ Q) X.xe s
noncomputable def PS(X:Cx)(st:Stmt)(t:TS):Prop:=∀(pins:List (Addr×Obj)) (s:Shared) (σ:St) (H:Hp) (D:Ends),Inv X pins σ H s→t D σ H→wpAny (model X.prog X.w) X.A (exec st X.env) (SP X pins D) X.xe s
noncomputable def PSs(X:Cx)(st:List Stmt)(t:TS):Prop:=∀(pins:List (Addr×Obj)) (s:Shared) (σ:St) (H:Hp) (D:Ends),Inv X pins σ H s→t D σ H→wpAny (model X.prog X.w) X.A (execs st X.env) (SP X pins D) X.xe s
theorem thn{α:Type}{t:Sem α}{Q Q':α→Shared→Prop}{M:Model}{A:Around}{E:Value→Shared→Prop}{s:Shared}(h:wpAny M A t Q E s)(hQ:∀a s,Q a s→Q' a s):wpAny M A t Q' E s:=gN h hQ λ_ _ x=>x
section
variable{X:Cx}
noncomputable def tVar(i:Nat):TE:=λσ H Q=>∃v,σ[i]?=some (some v)∧Q v H
noncomputable def tC(v:V):TE:=λ_ H Q=>Q v H
theorem qH9{i:Nat}{x:Str}{pos:Pos}(hN:X.N[i]?=some x)(hv:Vis X.env.scope x)(hd:(x==("__debug__":Str))=false:=by decide)(hcd:(x==("__classdict__":Str))=false:=by decide):PE X (.Name x pos) (tVar i):=by(
intro pins s σ H Q I h
obtain⟨v,e,h⟩:=h
obtain⟨m,hn,hl⟩:=I.loc
obtain⟨u,r,l⟩:=hl i x v hN e hv
have fin:EP X pins σ Q u s:=⟨v,H,I,r,h⟩
rcases l with⟨hk,hm⟩|⟨hk,c,hc,hcell⟩
·exact xQ (sT I.ok.kind hk hn hm fin) hd
rcases hk with hk|hk
·exact xQ (nQ I.ok.kind hk hc hcell fin) hd
exact xQ (wpAny_loadName_free I.ok.kind hk hc hcell fin hcd) hd)
theorem qJ{i j pos}:PE X (.Constant (.int i) j pos) (tC (.int i)):=λ_ _ _ H _ I h=>wpAny_Constant_int ⟨.int i,H,I.tok _,⟨_,rfl⟩,h⟩
theorem q2Q{b j pos}:PE X (.Constant (.bool b) j pos) (tC (.bl b)):=λ_ _ _ H _ I h=>Constant_bool ⟨.bl b,H,I,rfl,h⟩
theorem uO{j pos}:PE X (.Constant .none j pos) (tC .non):=λ_ _ _ H _ I h=>Constant_none ⟨.non,H,I,rfl,h⟩
theorem qI{x j pos}:PE X (.Constant (.str x) j pos) (tC (.str x)):=λ_ _ _ H _ I h=>Calls.Constant_str ⟨.str x,H,I.tok _,⟨_,rfl⟩,h⟩
noncomputable def Gl(X:Cx)(x:Str):Prop:=X.env.kindOf x=some .globalImplicit
theorem q3M{E:Value→Shared→Prop}{pins:List (Addr×Obj)}{s:Shared}{σ:St}{H:Hp}{x:Str}{u:Value}{pos:Pos}{Q:Value→Shared→Prop}(I:Inv X pins σ H s)(hg:Gl X x)(hm:X.mg x=some u)(h:Q u s)
 (hd:(x==("__debug__":Str))=false:=by decide):wpAny (model X.prog X.w) X.A (eval (.Name x pos) X.env) Q E s:=pA I.ok.kind hg (Calls.loadGlobal_global (by rw[I.ok.glob];exact I.mod.glob.keeps I.bk) hm h) hd
theorem q5X{E:Value→Shared→Prop}{pins:List (Addr×Obj)}{s:Shared}{σ:St}{H:Hp}{x:Str}{u:Value}{pos:Pos}{Q:Value→Shared→Prop}(I:Inv X pins σ H s)(hg:Gl X x)(hm:X.mg x=none)(hv:bootBuiltins x=some u)(h:Q u s)
 (hn:x≠"__name__":=by decide) (hd:(x==("__debug__":Str))=false:=by decide):wpAny (model X.prog X.w) X.A (eval (.Name x pos) X.env) Q E s:=by obtain⟨mb,h1,h2⟩:=I.mod.blt;exact pA I.ok.kind hg (Calls.loadGlobal_builtin (by rw[I.ok.glob];exact I.mod.glob.keeps I.bk) hm (by rw[I.ok.blt];exact h1.keeps I.bk) ((h2 x hn).trans hv) h) hd
theorem uN{x:Str}{v:V}{u:Value}{pos:Pos}(hg:Gl X x)(hm:X.mg x=some u)(r:RelV v u)(hd:(x==("__debug__":Str))=false:=by decide):PE X (.Name x pos) (tC v):=λ_ _ _ H _ I h=>q3M I hg hm ⟨v,H,I,r,h⟩ hd
theorem vJ{x:Str}{v:V}{u:Value}{pos:Pos}(hg:Gl X x)(hm:X.mg x=none)(hv:bootBuiltins x=some u)(r:RelV v u)(hn:x≠"__name__":=by decide)(hd:(x==("__debug__":Str))=false:=by decide):PE X (.Name x pos) (tC v):=λ_ _ _ H _ I h=>q5X I hg hm hv ⟨v,H,I,r,h⟩ hn hd
variable{a b:Expr}{ta tb:TE}{pos:Pos}
noncomputable def PC(X:Cx)(op:CmpOp)(a b:Expr)(t:TE):Prop:=∀(pins:List (Addr×Obj)) (s:Shared) (σ:St) (H:Hp) (Q:VK),Inv X pins σ H s→t σ H Q→wpAny (model X.prog X.w) X.A (eval a X.env) (λv s₁=>wpAny (model X.prog X.w) X.A (eval b X.env) (λu s₂=>wpAny (model X.prog X.w) X.A (compareOp op v u) (EP X pins σ Q) X.xe s₂) X.xe s₁) X.xe s
noncomputable def tB(t:TE):TT:=λσ H Q=>t σ H λx H1=>∃c,x=.bl c∧Q c H1
theorem qHA{op:CmpOp}{t:TE}(h:PC X op a b t)(h1:behindInMarks op b=false:=by first|exact nobehind _ (by decide) (by decide)|rfl):PE X (.Compare a [op] [b] pos) t:=λpins s σ H Q I hw=>wpAny_Compare1 (h pins s σ H Q I hw) h1
theorem q4G{op:CmpOp}{t:TE}(h:PC X op a b t)(h1:behindInMarks op b=false:=by first|exact nobehind _ (by decide) (by decide)|rfl):PT X (.Compare a [op] [b] pos) (tB t):=by(
intro pins s σ H Q I hw
refine sN (thn (h pins s σ H _ I hw) λv s1 h1=>thn h1 λu s2 h2=>thn h2 λc s3 hZ=>?_) h1
obtain⟨x,H1,I1,r1,q1⟩:=hZ
obtain⟨d,rfl,q⟩:=q1
cases r1
exact gW ⟨H1,I1,q⟩)
theorem jI{e:Expr}{t:TE}(h:PE X e t)(he:∀whole,isTrue e X.env whole=(do let v←whole;standAt e.pos;holding [v] (truthy v)):=by intro _;rfl):PT X e (tB t):=by(
intro pins s σ H Q I hw
refine isTrue_plain (thn (h pins s σ H _ I hw) λv s1 hZ=>?_) (he _)
obtain⟨x,H1,I1,r1,q1⟩:=hZ
obtain⟨d,rfl,q⟩:=q1
cases r1
exact gW ⟨H1,I1,q⟩)
variable{tA tB':TT}{rest:List Expr}
noncomputable def tAnd(t u:TT):TT:=λσ H Q=>t σ H λc H1=>if c=true then u σ H1 Q else Q false H1
noncomputable def tOr(t u:TT):TT:=λσ H Q=>t σ H λc H1=>if c=true then Q true H1 else u σ H1 Q
noncomputable def tNot(t:TT):TT:=λσ H Q=>t σ H λc H1=>Q (!c) H1
theorem zH(ha:PT X a tA):PW X (.BoolOp .And [a] pos) tA:=by(
intro wh pins s σ H Q I h
refine isTrue_and (thn (ha pins s σ H Q I h) λc s1 e=>?_)
cases c with
|true=>exact isTrue_and_nil e
|false=>exact e)
theorem q0A(ha:PT X a tA):PW X (.BoolOp .Or [a] pos) tA:=by(
intro wh pins s σ H Q I h
refine isTrue_or (thn (ha pins s σ H Q I h) λc s1 e=>?_)
cases c with
|false=>exact isTrue_or_nil e
|true=>exact e)
theorem zO(ha:PT X a tA)(hb:PW X (.BoolOp .And (b::rest) pos) tB'):PW X (.BoolOp .And (a::b::rest) pos) (tAnd tA tB'):=by(
intro wh pins s σ H Q I h
refine isTrue_and (thn (ha pins s σ H _ I h) λc s1 hZ=>?_)
obtain⟨H1,I1,q1⟩:=hZ
cases c with
|true=>exact hb wh pins s1 σ H1 Q I1 q1
|false=>exact⟨H1,I1,q1⟩)
theorem q1G(ha:PT X a tA)(hb:PW X (.BoolOp .Or (b::rest) pos) tB'):PW X (.BoolOp .Or (a::b::rest) pos) (tOr tA tB'):=by(
intro wh pins s σ H Q I h
refine isTrue_or (thn (ha pins s σ H _ I h) λc s1 hZ=>?_)
obtain⟨H1,I1,q1⟩:=hZ
cases c with
|true=>exact⟨H1,I1,q1⟩
|false=>exact hb wh pins s1 σ H1 Q I1 q1)
theorem jZ(ha:PT X a tA):PT X (.UnaryOp .Not a pos) (tNot tA):=by intro pins s σ H Q I h;exact isTrue_not (ha pins s σ H (λc H1=>Q (!c) H1) I h)
noncomputable def qJF(ta tb:TE):TE:=λσ H Q=>ta σ H λx H1=>∃c,x=.bl c∧if c=true then tb σ H1 Q else Q (.bl false) H1
noncomputable def tOrV(ta tb:TE):TE:=λσ H Q=>ta σ H λx H1=>∃c,x=.bl c∧if c=true then Q (.bl true) H1 else tb σ H1 Q
noncomputable def qJG(ta:TE):TE:=λσ H Q=>ta σ H λx H1=>∃c,x=.bl c∧Q (.bl (!c)) H1
theorem uX{op}{t:TE}(h:PE X a t):PE X (.BoolOp op [a] pos) t:=λpins s σ H Q I hw=>BoolOp_one (h pins s σ H Q I hw)
theorem vA(ha:PE X a ta)(hb:PE X (.BoolOp .And (b::rest) pos) tb):PE X (.BoolOp .And (a::b::rest) pos) (qJF ta tb):=by(
intro pins s σ H Q I h
refine BoolOp_and (thn (ha pins s σ H _ I h) λv s1 hZ=>?_)
obtain⟨x,H1,I1,r1,q1⟩:=hZ
obtain⟨c,rfl,q1⟩:=q1
cases r1
refine gW ?_
cases c with
|true=>exact hb pins s1 σ H1 Q I1 q1
|false=>exact⟨.bl false,H1,I1,rfl,q1⟩)
theorem qGS(ha:PE X a ta)(hb:PE X (.BoolOp .Or (b::rest) pos) tb):PE X (.BoolOp .Or (a::b::rest) pos) (tOrV ta tb):=by(
intro pins s σ H Q I h
refine BoolOp_or (thn (ha pins s σ H _ I h) λv s1 hZ=>?_)
obtain⟨x,H1,I1,r1,q1⟩:=hZ
obtain⟨c,rfl,q1⟩:=q1
cases r1
refine gW ?_
cases c with
|false=>exact hb pins s1 σ H1 Q I1 q1
|true=>exact⟨.bl true,H1,I1,rfl,q1⟩)
theorem qAJ(ha:PE X a ta):PE X (.UnaryOp .Not a pos) (qJG ta):=by(
intro pins s σ H Q I h
refine UnaryOp_ (thn (ha pins s σ H _ I h) λv s1 hZ=>?_)
obtain⟨x,H1,I1,r1,q1⟩:=hZ
obtain⟨c,rfl,q1⟩:=q1
cases r1
exact not_of (gW ⟨.bl (!c),H1,I1,rfl,q1⟩))
noncomputable def tIf(t:TT)(ta tb:TE):TE:=λσ H Q=>t σ H λc H1=>if c=true then ta σ H1 Q else tb σ H1 Q
theorem qDI{c:Expr}(hc:PT X c tA)(ha:PE X a ta)(hb:PE X b tb):PE X (.IfExp c a b pos) (tIf tA ta tb):=by(
intro pins s σ H Q I h
refine wpAny_IfExp (thn (hc pins s σ H _ I h) λd s1 hZ=>?_)
obtain⟨H1,I1,q1⟩:=hZ
cases d with
|true=>exact ha pins s1 σ H1 Q I1 q1
|false=>exact hb pins s1 σ H1 Q I1 q1)
end
noncomputable def SqL(K:PySem.W.Frag)(H:Hp)(a:Addr)(xs:List V):Prop:=Rd H a (.lst xs)∨∃(o:Obj) (its:Array Value) (n:Nat),K.lookup a=some o∧o.cls=.type "list"∧o.dict=none∧o.data=.seq its n∧its.size≤sizeLine∧Vals xs its.toList
noncomputable def SqT(K:PySem.W.Frag)(H:Hp)(a:Addr)(xs:List V):Prop:=Rd H a (.tup xs)∨∃(o:Obj) (its:Array Value) (n:Nat),K.lookup a=some o∧o.cls=.type "tuple"∧o.data=.seq its n∧its.size≤sizeLine∧Vals xs its.toList
noncomputable def absV:Value→Option V
| .none=>some .non
| .bool b=>some (.bl b)
| .int i _=>some (.int i)
| .str x _=>some (.str x)
| .bytes b _=>some (.byt b)
| .float b _=>some (.flt b)
| .ref a=>some (.ref a)
| .type n=>some (.ty n)
|_=>none
theorem RelV.abs{x:V}{u:Value}(r:RelV x u):absV u=some x:=by(
cases x with
|non=>cases r;rfl
|bl _=>cases r;rfl
|int _=>obtain⟨t,rfl⟩:=r;rfl
|str _=>obtain⟨t,rfl⟩:=r;rfl
|byt _=>obtain⟨t,rfl⟩:=r;rfl
|flt _=>obtain⟨t,rfl⟩:=r;rfl
|ref _=>cases r;rfl
|ty _=>cases r;rfl)
theorem RelV.inj{x y:V}{u:Value}(r:RelV x u)(q:RelV y u):x=y:=kI (r.abs.symm.trans q.abs)
theorem Vals.inj{xs ys:List V}{us:List Value}(h:Vals xs us):Vals ys us→xs=ys:=by(
induction h generalizing ys with
|nil=>exact λg=>by cases g;rfl
|cons r t ih=>
 intro g;cases g with
 |cons r' t'=>rw[r.inj r',ih t'])
section
variable{X:Cx}{pins:List (Addr×Obj)}{σ:St}{H:Hp}{s:Shared}{a:Addr}{xs ys:List V}
theorem SqL.of{K:PySem.W.Frag}(h:H a=some (.lst xs)):SqL K H a xs:=.inl (.inl h)
theorem SqT.of{K:PySem.W.Frag}(h:H a=some (.tup xs)):SqT K H a xs:=.inl (.inl h)
theorem Inv.list(I:Inv X pins σ H s)(h:SqL X.K H a xs):∃its:List Value,Vals xs its∧PlainL s.heap a its.toArray∧xs.length≤sizeLine:=by(
rcases h with h|⟨o,its,n,hk,hc,hd,hs,hz,r⟩
·obtain⟨z,its,n,r,e⟩:=h.ok I.hok;exact⟨its,r,⟨_,n,e,rfl,rfl,rfl⟩,z⟩
refine⟨its.toList,r,⟨o,n,I.kIn a o hk,hc,hd,by simpa using hs⟩,?_⟩
have e:=r.length
simp only[gJ]at e
omega)
theorem Inv.tuple(I:Inv X pins σ H s)(h:SqT X.K H a xs):∃its:List Value,Vals xs its∧IsTup s.heap a its.toArray∧xs.length≤sizeLine:=by(
rcases h with h|⟨o,its,n,hk,hc,hs,hz,r⟩
·obtain⟨z,its,r,p⟩:=h.ok I.hok;exact⟨its,r,p,z⟩
refine⟨its.toList,r,⟨o,I.kIn a o hk,hc,n,by simpa using hs⟩,?_⟩
have e:=r.length
simp only[gJ]at e
omega)
theorem Inv.list_inj(I:Inv X pins σ H s)(h:SqL X.K H a xs)(h':SqL X.K H a ys):xs=ys:=by(
obtain⟨its,r,⟨o,n,e,_,_,d⟩,_⟩:=I.list h
obtain⟨its',r',⟨o',n',e',_,_,d'⟩,_⟩:=I.list h'
rw[e]at e';cases e'
rw[d]at d'
injection d' with d1 _
have:its=its':=by simpa using rL Array.toList d1
subst this
exact r.inj r')
end
noncomputable abbrev Cx.wish(X:Cx)(E:Value→Shared→Prop):Cx:={ X with xe:=E }
noncomputable abbrev Cx.nox(X:Cx):Cx:=X.wish λ_ _=>False
theorem Cx.Ok.wish{X:Cx}(ok:X.Ok)(E:Value→Shared→Prop):(X.wish E).Ok:=⟨ok.mod,ok.kind,ok.glob,ok.blt,ok.above,ok.inj,ok.has,ok.cab,ok.hd,ok.frames,ok.stk,ok.exf,ok.bs,ok.bsz,ok.noex,ok.exfs,ok.funs,ok.frf⟩
theorem Cx.Ok.unwish{X:Cx}{E:Value→Shared→Prop}(ok:(X.wish E).Ok):X.Ok:=⟨ok.mod,ok.kind,ok.glob,ok.blt,ok.above,ok.inj,ok.has,ok.cab,ok.hd,ok.frames,ok.stk,ok.exf,ok.bs,ok.bsz,ok.noex,ok.exfs,ok.funs,ok.frf⟩
section
variable{X:Cx}{pins:List (Addr×Obj)}{σ:St}{H:Hp}{s:Shared}{E:Value→Shared→Prop}
theorem Inv.wish(I:Inv X pins σ H s)(E:Value→Shared→Prop):Inv (X.wish E) pins σ H s:=⟨I.ok.wish E,I.os,I.bare,I.base,I.loc,I.cell,I.free,I.freeC,I.pin,I.hok,I.len⟩
theorem Inv.unwish(I:Inv (X.wish E) pins σ H s):Inv X pins σ H s:=⟨I.ok.unwish,I.os,I.bare,I.base,I.loc,I.cell,I.free,I.freeC,I.pin,I.hok,I.len⟩
theorem SP.unwish{D:Ends}{f:Flow}{s':Shared}(h:SP (X.wish E) pins D f s'):SP X pins D f s':=by(
cases f with
|next=>obtain⟨σ',H',I,q⟩:=h;exact⟨σ',H',I.unwish,q⟩
|brk=>obtain⟨σ',H',I,q⟩:=h;exact⟨σ',H',I.unwish,q⟩
|cont=>obtain⟨σ',H',I,q⟩:=h;exact⟨σ',H',I.unwish,q⟩
|ret u=>obtain⟨v,σ',H',I,r,q⟩:=h;exact⟨v,σ',H',I.unwish,r,q⟩)
theorem PSs.nox{st:List Stmt}{t:TS}(h:PSs X.nox st t):PSs X st t:=λpins s σ H D I hw=>gN (h pins s σ H D (I.wish _) hw) (λ_ _ q=>q.unwish) λ_ _ z=>False.elim z
end
section
variable{X:Cx}{st:Stmt}{rest:List Stmt}{t u:TS}{e:Expr}{te:TE}{pos:Pos}
noncomputable def qJH:TS:=λD σ H=>D.nx σ H
noncomputable def tSeq(t u:TS):TS:=λD σ H=>t { D with nx:=u D } σ H
theorem qL:PSs X [] qJH:=λ_ _ σ H _ I h=>sD ⟨σ,H,I,h⟩
theorem qB(h1:PS X st t)(h2:PSs X rest u):PSs X (st::rest) (tSeq t u):=by(
intro pins s σ H D I h
refine wpAny_execs_cons (thn (h1 pins s σ H { D with nx:=u D } I h) λf s1 q=>?_)
cases f with
|next=>obtain⟨σ',H',I',q⟩:=q;exact h2 pins s1 σ' H' D I' q
|ret v=>exact q
|brk=>exact q
|cont=>exact q)
theorem qC(h1:PS X st t):PSs X [st] t:=by(
intro pins s σ H D I h
refine wpAny_execs_cons (thn (h1 pins s σ H D I h) λf s1 q=>?_)
cases f with
|next=>exact sD q
|ret v=>exact q
|brk=>exact q
|cont=>exact q)
theorem Inv.quiet{pins:List (Addr×Obj)}{σ:St}{H:Hp}{s:Shared}(I:Inv X pins σ H s):interactive X.env=false:=by simp[interactive,I.ok.kind]
noncomputable def qJI(te:TE):TS:=λD σ H=>te σ H λ_ H1=>D.nx σ H1
theorem jD(he:PE X e te)(hs:swapsWith e none pos.line X.env=pure false:=by rfl):PS X (.Expr e pos) (qJI te):=by intro pins s σ H D I h;exact wpAny_Expr_any (thn (he pins s σ H _ I h) λv s1 ⟨x,H1,I1,r1,q1⟩=>⟨σ,H1,I1,q1⟩) I.quiet hs
noncomputable def tRet(te:TE):TS:=λD σ H=>te σ H D.rt
theorem qP(he:PE X e te):PS X (.Return (some e) pos) (tRet te):=by intro pins s σ H D I h;exact wpAny_Return_some (thn (he pins s σ H _ I h) λv s1 ⟨x,H1,I1,r1,q1⟩=>⟨x,σ,H1,I1,r1,q1⟩)
noncomputable def tIfS(c:TT)(t u:TS):TS:=λD σ H=>c σ H λb H1=>if b=true then t D σ H1 else u D σ H1
theorem qV{c:Expr}{a b:List Stmt}{tc:TT}(hc:PT X c tc)(ha:PSs X a t)(hb:PSs X b u):PS X (.If c a b pos) (tIfS tc t u):=by(
intro pins s σ H D I h
refine wpAny_If (thn (hc pins s σ H _ I h) λd s1 hZ=>?_)
obtain⟨H1,I1,q1⟩:=hZ
cases d with
|true=>exact ha pins s1 σ H1 D I1 q1
|false=>exact hb pins s1 σ H1 D I1 q1)
noncomputable def qHB:TS:=λ_ _ _=>False
theorem jC:PS X st qHB:=λ_ _ _ _ _ _ h=>h.elim
end
noncomputable abbrev TG:=V→St→Hp→(St→Hp→Prop)→Prop
noncomputable abbrev TGs:=List V→St→Hp→(St→Hp→Prop)→Prop
noncomputable def PG(X:Cx)(target:Expr)(t:TG):Prop:=∀(pins:List (Addr×Obj)) (s:Shared) (σ:St) (H:Hp) (v:V) (u:Value) (Q:St→Hp→Prop),Inv X pins σ H s→RelV v u→t v σ H Q→wpAny (model X.prog X.w) X.A (assign target X.env u) (λ_ s'=>∃σ' H',Inv X pins σ' H' s'∧Q σ' H') X.xe s
noncomputable def PGs(X:Cx)(ts:List Expr)(t:TGs):Prop:=∀(pins:List (Addr×Obj)) (s:Shared) (σ:St) (H:Hp) (vs:List V) (us:List Value) (Q:St→Hp→Prop),Inv X pins σ H s→Vals vs us→t vs σ H Q→wpAny (model X.prog X.w) X.A (assignInOrder ((assignEach ts X.env).map (·.2)) us) (λ_ s'=>∃σ' H',Inv X pins σ' H' s'∧Q σ' H') X.xe s
noncomputable abbrev TSet:=V→V→V→Hp→(Hp→Prop)→Prop
noncomputable def PSet(X:Cx)(t:TSet):Prop:=∀(pins:List (Addr×Obj)) (s:Shared) (σ:St) (H:Hp) (o i v:V) (ov iv u:Value) (Q:Hp→Prop),Inv X pins σ H s→RelV o ov→RelV i iv→RelV v u→t o i v H Q→wpAny (model X.prog X.w) X.A (setItem ov iv u) (λ_ s'=>∃H',Inv X pins σ H' s'∧Q H') X.xe s
noncomputable abbrev TIp:=V→V→Hp→VK→Prop
noncomputable def PIp(X:Cx)(op:Operator)(t:TIp):Prop:=∀(pins:List (Addr×Obj)) (s:Shared) (σ:St) (H:Hp) (x y:V) (v u:Value) (Q:VK),Inv X pins σ H s→RelV x v→RelV y u→t x y H Q→wpAny (model X.prog X.w) X.A (inplaceOp op v u) (EP X pins σ Q) X.xe s
section
variable{X:Cx}{pos:Pos}
noncomputable def zB(i:Nat):TG:=λv σ H Q=>Q (σ.set i (some v)) H
theorem qZ{i:Nat}{x:Str}(hN:X.N.Nodup)(hi:X.N[i]?=some x)(hx:Loc X.env.scope x)(hf:X.fn x=true∨X.env.scope.names.lookup x=some .local:=by first|exact .inl rfl|exact .inr rfl|assumption):PG X (.Name x pos) (zB i):=by intro pins s σ H v u Q I r h;exact lQ (q3L I hN hi hx r (λs' I'=>⟨_,H,I',h⟩) hf)
noncomputable def gNil:TGs:=λvs σ H Q=>vs=[]∧Q σ H
noncomputable def qGT(t:TG)(u:TGs):TGs:=λvs σ H Q=>∃v r,vs=v::r∧t v σ H λσ' H'=>u r σ' H' Q
theorem q3N:PGs X [] gNil:=by(
intro pins s σ H vs us Q I r h
obtain⟨e,h⟩:=h
subst e
cases r
exact assignInOrder_nil ⟨σ,H,I,h⟩)
theorem yX{e:Expr}{es:List Expr}{t:TG}{u:TGs}(h1:PG X e t)(h2:PGs X es u)
 (hs:(assignEach (e::es) X.env).map (·.2)=assign e X.env::(assignEach es X.env).map (·.2):=by rfl):PGs X (e::es) (qGT t u):=by(
intro pins s σ H vs us Q I r h
obtain⟨v,vr,e1,h⟩:=h
subst e1
cases r with
|cons r rr=>rw[hs];refine assignInOrder_cons (thn (h1 pins s σ H _ _ _ I r h) λ_ s1 hZ=>?_);obtain⟨σ1,H1,I1,q1⟩:=hZ;exact h2 pins s1 σ1 H1 _ _ Q I1 rr q1)
noncomputable def gTup(K:PySem.W.Frag)(n:Nat)(t:TGs):TG:=λv σ H Q=>∃a xs,v=.ref a∧SqT K H a xs∧xs.length=n∧t xs σ H Q
theorem q5Y{es:List Expr}{k:Nat}{t:TGs}{n:Nat}(hc:X.calm=true)(h:PGs X es t)
 (hn:(assignEach es X.env).length=n:=by rfl) (hst:(assignEach es X.env).findIdx? (·.1)=none:=by rfl):PG X (.Tuple es k pos) (gTup X.K n t):=by(
intro pins s σ H v u Q I r hw
obtain⟨a,xs,e1,hq,hl,hw⟩:=hw
subst e1
cases r
obtain⟨its,rv,ht,hz⟩:=I.tuple hq
refine assign_Tuple_tuple (I.ok.hd hc) ht (by simp[hn,←hl,rv.length]) hst λh' hx=>?_
have I1:Inv X pins σ H { s with heap:=h' }:=I.kept (t':=s.toks) λb o e=>hx b o (mD (kL e)) e
exact h pins _ σ H xs _ Q I1 (by simpa using rv) hw)
noncomputable def gSub(to ti:TE)(t:TSet):TG:=λv σ H Q=>to σ H λo H1=>ti σ H1 λi H2=>t o i v H2 λH3=>Q σ H3
theorem qDJ{o i:Expr}{to ti:TE}{t:TSet}(ho:PE X o to)(hi:PE X i ti)(hs:PSet X t)
 (ha:∀v,assign (.Subscript o i pos) X.env v=(do
  let ov←holding [v] (eval o X.env)
  let iv←holding [v,ov] (eval i X.env)
  standAt pos
  holding [v,ov,iv] (setItem ov iv v)
  release [v,ov,iv] []):=by intro _;rfl):PG X (.Subscript o i pos) (gSub to ti t):=by(
intro pins s σ H v u Q I r h
rw[ha]
refine kD (gH (thn (ho pins s σ H _ I h) λov s1 hZ=>?_))
obtain⟨x,H1,I1,r1,q1⟩:=hZ
refine kD (gH (thn (hi pins s1 σ H1 _ I1 q1) λiv s2 hZ=>?_))
obtain⟨y,H2,I2,r2,q2⟩:=hZ
refine kD (cJ (kD (gH (thn (hs pins s2 σ H2 x y v ov iv u _ I2 r1 r2 r q2) λ_ s3 hZ=>?_))))
obtain⟨H3,I3,q3⟩:=hZ
exact wpAny_release ⟨σ,H3,I3,q3⟩)
noncomputable def tAsg(te:TE)(g:TG):TS:=λD σ H=>te σ H λx H1=>g x σ H1 D.nx
theorem qAK{tg e:Expr}{te:TE}{g:TG}(he:PE X e te)(hg:PG X tg g)(hs:swapsWithSole [tg] e pos.line X.env=pure false:=by rfl)(hw:swappedStores [tg] e X.env=pure none:=by rfl)
 (h1:(assignEach [tg] X.env).map (·.2)=[assign tg X.env]:=by rfl):PS X (.Assign [tg] e pos) (tAsg te g):=by(
intro pins s σ H D I h
refine wpAny_Assign_stores (thn (he pins s σ H _ I h) λv s1 hZ=>?_) hs hw
obtain⟨x,H1,I1,r1,q1⟩:=hZ
rw[h1]
exact thn (hg pins s1 σ H1 x v _ I1 r1 q1) λ_ s2 q=>q)
theorem qW{i:Nat}{x:Str}{e:Expr}{te:TE}{pos':Pos}(hN:X.N.Nodup)(hi:X.N[i]?=some x)(hx:Loc X.env.scope x)(he:PE X e te)(hs:swapsWith e (some (.Name x pos')) pos.line X.env=pure false:=by rfl)(hf:X.fn x=true∨X.env.scope.names.lookup x=some .local:=by first|exact .inl rfl|exact .inr rfl|assumption):
 PS X (.Assign [.Name x pos'] e pos) (tAsg te (zB i)):=by(
intro pins s σ H D I h
refine wpAny_Assign_Name (thn (he pins s σ H _ I h) λv s1 hZ=>?_) hs
obtain⟨y,H1,I1,r1,q1⟩:=hZ
exact q3L I1 hN hi hx r1 (λs2 I2=>⟨_,H1,I2,q1⟩) hf)
noncomputable def tAug(i:Nat)(te:TE)(ti:TIp):TS:=λD σ H=>∃x,σ[i]?=some (some x)∧te σ H λy H1=>ti x y H1 λz H2=>D.nx (σ.set i (some z)) H2
theorem qHC{i:Nat}{x:Str}{e:Expr}{te:TE}{op:Operator}{ti:TIp}{pos':Pos}(hN:X.N.Nodup)(hi:X.N[i]?=some x)(hx:Loc X.env.scope x)(he:PE X e te)(ho:PIp X op ti)(hf:X.fn x=true∨X.env.scope.names.lookup x=some .local:=by first|exact .inl rfl|exact .inr rfl|assumption):
 PS X (.AugAssign (.Name x pos') op e pos) (tAug i te ti):=by(
intro pins s σ H D I h
obtain⟨v,e1,h⟩:=h
obtain⟨m,hn,hl⟩:=I.loc
have vis:Vis X.env.scope x:=by rcases hx with k|k;exact .inl k;exact .inr (.inl k)
obtain⟨u,r,l⟩:=hl i x v hi e1 vis
refine wpAny_AugAssign_Name ?_
have go:wpAny (model X.prog X.w) X.A (eval e X.env) (λw s₂=>wpAny (model X.prog X.w) X.A (inplaceOp op u w) (λr s₃=>wpAny (model X.prog X.w) X.A (storeName X.env x r) (λ_=>SP X pins D .next) X.xe s₃) X.xe s₂) X.xe s:=by refine thn (he pins s σ H _ I h) λw s1 hZ=>?_;obtain⟨y,H1,I1,r1,q1⟩:=hZ;refine thn (ho pins s1 σ H1 v y u w _ I1 r r1 q1) λz s2 hZ=>?_;obtain⟨zv,H2,I2,r2,q2⟩:=hZ;exact q3L I2 hN hi hx r2 (λs3 I3=>⟨_,H2,I3,q2⟩) hf
rcases l with⟨hk,hm⟩|⟨hk,c,hc,hcell⟩
·exact sT I.ok.kind hk hn hm go
rcases hk with hk|hk
·exact nQ I.ok.kind hk hc hcell go
rcases hx with k|k
·have:X.env.scope.names.lookup x=some .free:=hk;rw[k]at this;cases this
have:X.env.scope.names.lookup x=some .free:=hk
rw[k]at this;cases this)
noncomputable def qJJ(to ti te:TE)(tget:V→V→Hp→VK→Prop)(tip:TIp)(tset:TSet):TS:=λD σ H=>to σ H λo H1=>ti σ H1 λi H2=>tget o i H2 λx H3=>te σ H3 λy H4=>tip x y H4 λz H5=>tset o i z H5 λH6=>D.nx σ H6
noncomputable def PGet(X:Cx)(t:V→V→Hp→VK→Prop):Prop:=∀(pins:List (Addr×Obj)) (s:Shared) (σ:St) (H:Hp) (o i:V) (ov iv:Value) (Q:VK),Inv X pins σ H s→RelV o ov→RelV i iv→t o i H Q→wpAny (model X.prog X.w) X.A (getItem ov iv) (EP X pins σ Q) X.xe s
theorem q5N{o i e:Expr}{to ti te:TE}{tget:V→V→Hp→VK→Prop}{tip:TIp}{tset:TSet}{op:Operator}{tpos:Pos}(ho:PE X o to)(hi:PE X i ti)(hg:PGet X tget)(he:PE X e te)(hp:PIp X op tip)(hs:PSet X tset)
 (ha:∀ov iv new,augStore i ov iv new=(do holding [new,ov,iv] (setItem ov iv new);release [new,ov,iv] [];pure .next):=by intros;rfl):PS X (.AugAssign (.Subscript o i tpos) op e pos) (qJJ to ti te tget tip tset):=by(
intro pins s σ H D I h
refine wpAny_AugAssign_SubscriptAny (thn (ho pins s σ H _ I h) λov s1 hZ=>?_) ha
obtain⟨x1,H1,I1,r1,q1⟩:=hZ
refine thn (hi pins s1 σ H1 _ I1 q1) λiv s2 hZ=>?_
obtain⟨x2,H2,I2,r2,q2⟩:=hZ
refine thn (hg pins s2 σ H2 x1 x2 ov iv _ I2 r1 r2 q2) λold s3 hZ=>?_
obtain⟨x3,H3,I3,r3,q3⟩:=hZ
refine thn (he pins s3 σ H3 _ I3 q3) λv s4 hZ=>?_
obtain⟨x4,H4,I4,r4,q4⟩:=hZ
refine thn (hp pins s4 σ H4 x3 x4 old v _ I4 r3 r4 q4) λnew s5 hZ=>?_
obtain⟨x5,H5,I5,r5,q5⟩:=hZ
exact thn (hs pins s5 σ H5 x1 x2 x5 ov iv new _ I5 r1 r2 r5 q5) λ_ s6 ⟨H6,I6,q6⟩=>⟨σ,H6,I6,q6⟩)
noncomputable def ipI(f:Int→Int→Int):TIp:=λx y H Q=>∃i j,x=.int i∧y=.int j∧Q (.int (f i j)) H
theorem q8B:PIp X .Add (ipI λi j=>i+j):=by(
intro pins s σ H x y v u Q I r1 r2 h
obtain⟨i,j,e1,e2,q⟩:=h
subst e1;subst e2
obtain⟨t,rfl⟩:=r1
obtain⟨t',rfl⟩:=r2
exact iadd_int ⟨.int _,H,I.tok _,⟨_,rfl⟩,q⟩)
theorem qHD:PIp X .Sub (ipI λi j=>i-j):=by(
intro pins s σ H x y v u Q I r1 r2 h
obtain⟨i,j,e1,e2,q⟩:=h
subst e1;subst e2
obtain⟨t,rfl⟩:=r1
obtain⟨t',rfl⟩:=r2
exact isub_int ⟨.int _,H,I.tok _,⟨_,rfl⟩,q⟩)
end
structure It where
go:Nat→Hp→Prop
yld:Nat→Hp→V→Hp→Prop
stop:Nat→Hp→Prop
noncomputable def FpOk(X:Cx)(pins:List (Addr×Obj))(H:Hp)(b:Addr):Prop:=H b=none∧b≠X.env.locals∧b∉X.fs∧(b∈X.ex∨X.s₀.heap.objs.size≤b)∧(∀x c,X.env.cells.lookup x=some c→c≠b)∧∀p∈X.pn++pins,p.1≠b
theorem Inv.fpOk{X:Cx}{pins:List (Addr×Obj)}{σ:St}{H H':Hp}{s:Shared}{b:Addr}(I:Inv X pins σ H s)(hb:s.heap.objs.size≤b)(hn:H' b=none):FpOk X pins H' b:=by(
refine⟨hn,rW (mG I.lt hb),I.nofs hb,.inr (mJ I.sz hb),λx c e z=>?_,λp hp z=>?_⟩
·obtain⟨v,q⟩:=I.cell x c e;exact absurd (mG q.lt (by rw[z];exact hb)) (dE _)
exact absurd (mG (kL (I.pin p hp).1) (by rw[z];exact hb)) (dE _))
structure Turn(P:Program)(w:World)(K:PySem.W.Frag)(tg:Expr)(J:It)(fp:List Addr)(it:Addr)(tn:Nat→Heap→Prop):Prop where
mem:it∈fp
obj:∀i h,tn i h→∀b∈fp,∃o,h.get? b=some o∧∀v,o.data≠ .cell v
keep:∀i h h',tn i h→(∀b∈fp,∀o,h.get? b=some o→h'.get? b=some o)→tn i h'
item:∀(X:Cx),X.prog=P→X.w=w→X.K=K→X.calm=true→∀(i:Nat) (pins:List (Addr×Obj)) (s:Shared) (σ:St) (H:Hp) (E:Value→Shared→Prop),Inv X pins σ H s→(∀b∈fp,FpOk X pins H b)→tn i s.heap→J.go i H→wpAny (model P w) X.A (pyNext (.ref it)) (λr s1=>∃u,r=some u∧wpAny (model P w) X.A (letOwnedTupleGo tg (.ref it) u) (λ_ s2=>∃x H',Inv X pins σ H' s2∧RelV x u∧J.yld i H x H'∧tn (i+1) s2.heap∧∀b∈fp,H' b=none) E s1) E s
done:∀(X:Cx),X.prog=P→X.w=w→X.K=K→X.calm=true→∀(i:Nat) (pins:List (Addr×Obj)) (s:Shared) (σ:St) (H:Hp) (E:Value→Shared→Prop),Inv X pins σ H s→(∀b∈fp,FpOk X pins H b)→tn i s.heap→J.stop i H→wpAny (model P w) X.A (pyNext (.ref it)) (λr s1=>r=none∧Inv X pins σ H s1) E s
self:∀(A:Around) (i:Nat) (s:Shared) (Q:Value→Shared→Prop) (E:Value→Shared→Prop),tn i s.heap→Q (.ref it) s→wpAny (model P w) A (pyIter (.ref it)) Q E s
noncomputable abbrev TI:=St→Hp→(It→Hp→Prop)→Prop
noncomputable def PIE(X:Cx)(pins:List (Addr×Obj))(σ:St)(tg:Expr)(R:It→Hp→Prop)(itv:Value)(s2:Shared):Prop:=∃(it:Addr) (fp:List Addr) (tn:Nat→Heap→Prop) (J:It) (H':Hp),itv=.ref it∧Inv X pins σ H' s2∧Turn X.prog X.w X.K tg J fp it tn∧tn 0 s2.heap∧(∀b∈fp,FpOk X pins H' b)∧R J H'
noncomputable def PI(X:Cx)(tg iter:Expr)(wi:TI):Prop:=∀(pins:List (Addr×Obj)) (s:Shared) (σ:St) (H:Hp) (R:It→Hp→Prop),Inv X pins σ H s→wi σ H R→wpAny (model X.prog X.w) X.A (eval iter X.env) (λv s1=>wpAny (model X.prog X.w) X.A (pyIter v) (PIE X pins σ tg R) X.xe s1) X.xe s
theorem qBN{M:Model}{A:Around}{E:Value→Shared→Prop}{s:Shared}{tg:Expr}{it:Addr}{u:Value}{o:Obj}{n:String}{vs:Array Value}{Q:Unit→Shared→Prop}(ho:s.heap.get? it=some o)(hc:o.cls=.type n)(hd:o.data=.fields vs)
 (hn:["enumerate","zip","dict_itemiterator","dict_reverseitemiterator","odict_iterator","itertools.zip_longest","itertools.pairwise"].contains n=false) (hQ:Q () s):wpAny M A (letOwnedTupleGo tg (.ref it) u) Q E s:=by(
unfold letOwnedTupleGo
cases tg<;>first
 |exact kZ hQ
 |(cases u<;>first
  |exact kZ hQ
  |(refine kD (wpAny_load ho ?_)
    rw[hc,hd];show wpAny M A (if(["enumerate","zip","dict_itemiterator","dict_reverseitemiterator","odict_iterator","itertools.zip_longest","itertools.pairwise"].contains n&&vs[0]?==some (rawInt _))=true then _ else _) Q E s;rw[kE (by intro h;rw[hn,sU]at h;cases h)];exact kZ hQ)))
noncomputable def Itl(K:PySem.W.Frag)(a:Addr):It:=⟨λi H=>∃xs x,SqL K H a xs∧xs[i]?=some x,λi H x H'=>H'=H∧∀xs,SqL K H a xs→xs[i]?=some x,λi H=>∃xs,SqL K H a xs∧xs.length≤i⟩
noncomputable def Itr(lo:Int)(n:Nat):It:=⟨λi _=>i<n,λi H x H'=>H'=H∧x=.int (lo+i),λi _=>n≤i⟩
theorem qCL{P:Program}{w:World}{K:PySem.W.Frag}{tg:Expr}(a it:Addr):Turn P w K tg (Itl K a) [it] it (λi h=>h.IsListIter it a i) where
mem:=by simp
obj:=λi h st b hb=>by
 have e:b=it:=by simpa using hb
 subst e;obtain⟨o,e,c,d⟩:=st;exact⟨o,e,λv z=>by rw[d]at z;cases z⟩
keep:=λi h h' st k=>st.at λo e=>k it (by simp) o e
item:=by intro X hP hw hK hc i pins s σ H E I hf st hg;subst hP hw hK;obtain⟨xs,x,hq,hx⟩:=hg;obtain⟨its,rv,p,hz⟩:=I.list hq;obtain⟨u,hu,ru⟩:=rv.get hx;obtain⟨f0,f1,f2,f3,f4,f5⟩:=hf it (by simp);refine wpAny_pyNext_list_item st p.isList (x:=u) (by simpa using hu) λh' st' sb=>?_;have I1:Inv X pins σ H { s with heap:=h' }:=I.turned (t':=s.toks) (λb o hb e=>(sb.2 b hb).trans e) f0 f1 f3 f4 f5;obtain⟨o,e,c,d⟩:=id st';exact⟨u,rfl,qBN (s:={ s with heap:=h' }) e c d (by decide) ⟨x,H,I1,ru,⟨rfl,λys hy=>by rw[I.list_inj hy hq];exact hx⟩,st',λb hb=>(hf b hb).1⟩⟩
done:=by intro X hP hw hK hc i pins s σ H E I hf st hg;subst hP hw hK;obtain⟨xs,hq,hx⟩:=hg;obtain⟨its,rv,p,hz⟩:=I.list hq;obtain⟨f0,f1,f2,f3,f4,f5⟩:=hf it (by simp);have hl:=rv.length;exact wpAny_pyNext_list_end (I.ok.hd hc) st p.isList (by simp;omega) λh' eb=>⟨rfl,I.turned (t':=s.toks) (λb o hb e=>eb b o hb e) f0 f1 f3 f4 f5⟩
self:=λ_ _ _ _ _ st h=>wpAny_pyIter_listiter st h
theorem qAL{P:Program}{w:World}{K:PySem.W.Frag}{tg:Expr}(it:Addr)(lo:Int)(n:Nat):Turn P w K tg (Itr lo n) [it] it (λi h=>IsRangeIter h it (lo+(i:Nat)*1) ((n:Int)-(i:Nat)) 1) where
mem:=by simp
obj:=λi h st b hb=>by
 have e:b=it:=by simpa using hb
 subst e;exact⟨_,st,λv z=>by have z':Data.fields _=Data.cell v:=z;cases z'⟩
keep:=λi h h' st k=>k it (by simp) _ st
item:=by intro X hP hw hK hc i pins s σ H E I hf st hg;subst hP hw hK;obtain⟨f0,f1,f2,f3,f4,f5⟩:=hf it (by simp);have W:=Walks.range (prog:=X.prog) (w:=X.w) (I.ok.hd hc) it lo 1 n;refine W.item i s _ _ hg st λv h' tk hv st' kk=>?_;obtain⟨t,rfl⟩:=hv;have I1:Inv X pins σ H { s with heap:=h',toks:=tk }:=I.turned (λb o hb e=>kk b o (by simpa using hb) e) f0 f1 f3 f4 f5;refine⟨_,rfl,qBN (s:={ s with heap:=h',toks:=tk }) (n:="range_iterator") st' rfl rfl (by decide) ⟨.int (lo+i),H,I1,⟨t,?_⟩,⟨rfl,rfl⟩,st',λb hb=>(hf b hb).1⟩⟩;rw[Int.mul_one]
done:=by intro X hP hw hK hc i pins s σ H E I hf st hg;subst hP hw hK;obtain⟨f0,f1,f2,f3,f4,f5⟩:=hf it (by simp);exact wpAny_pyNext_range_end (I.ok.hd hc) st (by have:n≤i:=hg;omega) λh' eb=>⟨rfl,I.turned (t':=s.toks) (λb o hb e=>eb b o hb e) f0 f1 f3 f4 f5⟩
self:=λ_ _ _ _ _ st h=>wpAny_pyIter_rangeiter st h
section
variable{X:Cx}{tg:Expr}
noncomputable def qJK(K:PySem.W.Frag)(tl:TE):TI:=λσ H R=>tl σ H λx H1=>∃a,x=.ref a∧(∃xs,SqL K H1 a xs)∧R (Itl K a) H1
theorem jV{l:Expr}{tl:TE}(hl:PE X l tl):PI X tg l (qJK X.K tl):=by(
intro pins s σ H R I h
refine thn (hl pins s σ H _ I h) λv s1 hZ=>?_
obtain⟨x,H1,I1,r1,q1⟩:=hZ
obtain⟨a,e,⟨xs,hq⟩,q⟩:=q1
subst e
cases r1
obtain⟨its,rv,p,hz⟩:=I1.list hq
refine pG p.isList ?_
refine⟨s1.heap.objs.size,[s1.heap.objs.size],_,_,H1,rfl,I1.kept (t':=s1.toks) λb o e=>hX _ e,qCL a _,⟨_,k7 _ rfl,rfl,rfl⟩,λb hb=>?_,q⟩
have e:b=s1.heap.objs.size:=by simpa using hb
subst e
exact I1.fpOk (kH _) (I1.hok.fresh (kH _)))
theorem qDK{pins:List (Addr×Obj)}{σ:St}{H:Hp}{s:Shared}{R:It→Hp→Prop}{E:Value→Shared→Prop}{lo hi:Int}{t u v:Tok}{tk:Nat}(I:Inv X pins σ H s)(h1:-(2 ^ 62)≤lo)(h2:lo<2 ^ 62)(h3:-(2 ^ 62)≤hi)(h4:hi<2 ^ 62)
 (q:R (Itr lo (hi-lo).toNat) H):wpAny (model X.prog X.w) X.A (pyIter (.ref s.heap.objs.size)) (PIE X pins σ tg R) E { s with heap:=s.heap.push { cls:=.type "range",data:=.fields #[.int lo t,.int hi u,.int 1 v] },toks:=tk }:=by(
refine wpAny_pyIter_range (IsRange.new ..) (small_one h1 h2 h3 h4) ?_
have I1:Inv X pins σ H { s with heap:=s.heap.push { cls:=.type "range",data:=.fields #[.int lo t,.int hi u,.int 1 v] },toks:=tk }:=I.kept λb o e=>hX _ e
refine⟨(s.heap.push { cls:=.type "range",data:=.fields #[.int lo t,.int hi u,.int 1 v] }).objs.size,[(s.heap.push { cls:=.type "range",data:=.fields #[.int lo t,.int hi u,.int 1 v] }).objs.size],_,_,H,rfl,I1.kept (t':=tk) λb o e=>hX _ e,qAL _ lo (hi-lo).toNat,?_,λb hb=>?_,q⟩
·have e1:lo+((0:Nat):Int)*1=lo:=by simp
 have e2:(((hi-lo).toNat:Nat):Int)-((0:Nat):Int)=Builtin.Range.rangeSize lo hi 1:=by rw[rangeSize_one];split<;>omega
 show IsRangeIter _ _ (lo+((0:Nat):Int)*1) ((((hi-lo).toNat:Nat):Int)-((0:Nat):Int)) 1;rw[e1,e2];exact k7 _ rfl
have e:b=(s.heap.push { cls:=.type "range",data:=.fields #[.int lo t,.int hi u,.int 1 v] }).objs.size:=by simpa using hb
subst e
exact I1.fpOk (kH _) (I1.hok.fresh (kH _)))
noncomputable def qJL(ta:TA):TI:=λσ H R=>ta σ H λvs H1=>∃j:Int,vs=[.int j]∧-(2 ^ 62)≤j∧j<2 ^ 62∧R (Itr 0 j.toNat) H1
theorem vB{a:Expr}{ta:TA}{p pos:Pos}(hg:Gl X "range")(hm:X.mg "range"=none)(ha:PA X [a] ta)(hs:starEach [a] X.env=[(false,eval a X.env)]:=by rfl):PI X tg (.Call (.Name "range" p) [a] [] pos) (qJL ta):=by(
intro pins s σ H R I h
refine Call_ (q5X I hg hm boot_range (cY (thn (ha pos pins s σ H _ I h) λus s1 hZ=>?_) hs rfl))
obtain⟨vs,H1,I1,r1,q1⟩:=hZ
obtain⟨j,e,q1,q2,q⟩:=q1
subst e
cases r1 with
|cons r rr=>cases rr;obtain⟨t,rfl⟩:=r;exact call_range_1 (qDK I1 (by omega) (by omega) q1 q2 (by simpa using q)))
noncomputable def tFor(wi:TI)(g:TG)(tb:TS):TS:=λD σ H=>wi σ H λJ H1=>∃W:Nat→Nat→St→Hp→Prop,(∃m,W 0 m σ H1)∧∀i m σ H,W i m σ H→(J.stop i H∧D.nx σ H)∨(J.go i H∧∃N:St→Hp→Prop,(∀σ' H',N σ' H'→∃m',m'<m∧W (i+1) m' σ' H')∧∀x H',J.yld i H x H'→g x σ H' λσ2 H2=>tb { D with nx:=N,ct:=N,bk:=D.nx } σ2 H2)
noncomputable def q4H(fp:List Addr)(h:Heap):List (Addr×Obj):=fp.filterMap λb=>(h.get? b).map λo=>(b,o)
theorem u7{fp:List Addr}{h:Heap}{b:Addr}{o:Obj}(hb:b∈fp)(e:h.get? b=some o):(b,o)∈q4H fp h:=wR.mpr ⟨b,hb,by rw[e];rfl⟩
theorem qCM{fp:List Addr}{h:Heap}{p:Addr×Obj}(hp:p∈q4H fp h):p.1∈fp∧h.get? p.1=some p.2:=by(
obtain⟨b,hb,e⟩:=wR.mp hp
cases q:h.get? b with
|none=>rw[q]at e;cases e
|some o=>rw[q]at e;have e':(b,o)=p:=kI e;subst e';exact⟨hb,q⟩)
theorem Inv.pinned{pins:List (Addr×Obj)}{σ:St}{H:Hp}{s:Shared}{fp:List Addr}(I:Inv X pins σ H s)(hf:∀b∈fp,FpOk X pins H b)(ho:∀b∈fp,∃o,s.heap.get? b=some o∧∀v,o.data≠ .cell v):Inv X (pins++q4H fp s.heap) σ H s:=I.pins_of λp hp=>(mP.mp hp).elim (λz=>I.pin p (kM _ z)) λz=>by  obtain⟨hb,e⟩:=qCM z;obtain⟨f0,f1,f2,_⟩:=hf p.1 hb;obtain⟨o,e',d⟩:=ho p.1 hb;rw[e]at e';cases e';exact⟨e,f0,f1,f2,d⟩
theorem Inv.unpinned{pins pl:List (Addr×Obj)}{σ:St}{H:Hp}{s:Shared}(I:Inv X (pins++pl) σ H s):Inv X pins σ H s:=I.pins_of λp hp=>I.pin p (kM _ (kU _ hp))
theorem uH{iter:Expr}{body:List Stmt}{wi:TI}{g:TG}{tb:TS}{pos:Pos}(hp:PassesOwn (model X.prog X.w) X.A X.env X.xe)(hc:X.calm=true)(hi:PI X tg iter wi)(hg:PG X tg g)(hb:PSs X body tb)
 (hs:∀x,foldedSetIterable iter X.env x=pure x:=by intro _;rfl):PS X (.For tg iter body [] pos) (tFor wi g tb):=by(
intro pins s σ H D I h
refine wpAny_For (thn (hi pins s σ H _ I h) λv s1 h1=>thn h1 λitv s2 h2=>?_) hs
obtain⟨it,fp,tn,J,H2,e,I2,T,st2,f2,W,⟨m0,w0⟩,turn⟩:=h2
subst e
have stat:∀{H':Hp},(∀b∈fp,H' b=none)→∀b∈fp,FpOk X pins H' b:=λhn b hb=>⟨hn b hb,(f2 b hb).2⟩
refine codeAny_forLoop_any (λn s'=>∃i σ' H',Inv X pins σ' H' s'∧tn i s'.heap∧(∀b∈fp,H' b=none)∧W i n σ' H') ?_ m0 ⟨0,σ,H2,I2,st2,λb hb=>(f2 b hb).1,w0⟩
rintro n s3 ⟨i,σ3,H3,I3,st3,fr3,w3⟩
rcases turn i n σ3 H3 w3 with⟨stop,qn⟩|⟨go,N,hN,step⟩
·refine wP hp (thn (T.done X rfl rfl rfl hc i pins s3 σ3 H3 X.xe I3 (stat fr3) st3 stop) λr s4 hZ=>?_);obtain⟨hr,I4⟩:=hZ;subst hr;exact sD ⟨σ3,H3,I4,qn⟩
refine wP hp (thn (T.item X rfl rfl rfl hc i pins s3 σ3 H3 X.xe I3 (stat fr3) st3 go) λr s4 hZ=>?_)
obtain⟨u,hr,h4⟩:=hZ
subst hr
refine wP hp (thn h4 λ_ s5 hZ=>?_)
obtain⟨x,H5,I5,r5,y5,st5,fr5⟩:=hZ
have I5':=I5.pinned (stat fr5) (T.obj _ _ st5)
refine wP hp (thn (hg _ s5 σ3 H5 x u _ I5' r5 (step x H5 y5)) λ_ s6 hZ=>?_)
obtain⟨σ6,H6,I6,q6⟩:=hZ
refine wP hp (thn (hb _ s6 σ6 H6 _ I6 q6) λf s7 q7=>?_)
have again:∀{σ7:St} {H7:Hp},Inv X (pins++q4H fp s5.heap) σ7 H7 s7→N σ7 H7→∃m,m<n∧∃i σ' H',Inv X pins σ' H' s7∧tn i s7.heap∧(∀b∈fp,H' b=none)∧W i m σ' H':=fun {σ7 H7} I7 n7=>by obtain⟨m',hm,w7⟩:=hN σ7 H7 n7;refine⟨m',hm,i+1,σ7,H7,I7.unpinned,T.keep _ _ _ st5 λb hb o e=>(I7.pin (b,o) (kM _ (kM _ (u7 hb e)))).1,λb hb=>?_,w7⟩;obtain⟨o,e,d⟩:=T.obj _ _ st5 b hb;exact(I7.pin (b,o) (kM _ (kM _ (u7 hb e)))).2.1
cases f with
|next=>obtain⟨σ7,H7,I7,n7⟩:=q7;exact again I7 n7
|cont=>obtain⟨σ7,H7,I7,n7⟩:=q7;exact again I7 n7
|brk=>obtain⟨σ7,H7,I7,q7⟩:=q7;exact⟨σ7,H7,I7.unpinned,q7⟩
|ret v=>obtain⟨x7,σ7,H7,I7,r7,q7⟩:=q7;exact⟨x7,σ7,H7,I7.unpinned,r7,q7⟩)
end
theorem vM{K:PySem.W.Frag}{a:Addr}{xs:List V}{g:TG}{tb:TS}{D:Ends}{σ:St}{H:Hp}(Pv:Nat→St→Hp→Prop)(h0:Pv 0 σ H)(hl:∀i σ H,i≤xs.length→Pv i σ H→SqL K H a xs)
 (hs:∀i x σ H,xs[i]?=some x→Pv i σ H→g x σ H λσ2 H2=>tb { D with nx:=Pv (i+1),ct:=Pv (i+1),bk:=D.nx } σ2 H2) (hd:∀σ H,Pv xs.length σ H→D.nx σ H):
 ∃W:Nat→Nat→St→Hp→Prop,(∃m,W 0 m σ H)∧∀i m σ H,W i m σ H→((Itl K a).stop i H∧D.nx σ H)∨((Itl K a).go i H∧∃N:St→Hp→Prop,(∀σ' H',N σ' H'→∃m',m'<m∧W (i+1) m' σ' H')∧∀x H',(Itl K a).yld i H x H'→g x σ H' λσ2 H2=>tb { D with nx:=N,ct:=N,bk:=D.nx } σ2 H2):=by(
refine⟨λi m σ H=>m=xs.length-i∧i≤xs.length∧Pv i σ H,⟨xs.length,by simp,mS _,h0⟩,?_⟩
rintro i m σ H ⟨rfl,hi,p⟩
have q:=hl i σ H hi p
by_cases hlt:i<xs.length
·refine .inr ⟨⟨xs,xs[i],q,by simp[hlt]⟩,Pv (i+1),λσ' H' p'=>⟨xs.length-(i+1),by omega,rfl,hlt,p'⟩,λx H' y=>?_⟩;obtain⟨e,y⟩:=y;subst e;exact hs i x σ _ (y xs q) p
have e:i=xs.length:=by omega
subst e
exact .inl ⟨⟨xs,q,kH _⟩,hd σ H p⟩)
theorem qCN{lo:Int}{n:Nat}{g:TG}{tb:TS}{D:Ends}{σ:St}{H:Hp}(Pv:Nat→St→Hp→Prop)(h0:Pv 0 σ H)
 (hs:∀i σ H,i<n→Pv i σ H→g (.int (lo+i)) σ H λσ2 H2=>tb { D with nx:=Pv (i+1),ct:=Pv (i+1),bk:=D.nx } σ2 H2) (hd:∀σ H,Pv n σ H→D.nx σ H):
 ∃W:Nat→Nat→St→Hp→Prop,(∃m,W 0 m σ H)∧∀i m σ H,W i m σ H→((Itr lo n).stop i H∧D.nx σ H)∨((Itr lo n).go i H∧∃N:St→Hp→Prop,(∀σ' H',N σ' H'→∃m',m'<m∧W (i+1) m' σ' H')∧∀x H',(Itr lo n).yld i H x H'→g x σ H' λσ2 H2=>tb { D with nx:=N,ct:=N,bk:=D.nx } σ2 H2):=by(
refine⟨λi m σ H=>m=n-i∧i≤n∧Pv i σ H,⟨n,by simp,mS _,h0⟩,?_⟩
rintro i m σ H ⟨rfl,hi,p⟩
by_cases hlt:i<n
·refine .inr ⟨hlt,Pv (i+1),λσ' H' p'=>⟨n-(i+1),by omega,rfl,hlt,p'⟩,λx H' y=>?_⟩;obtain⟨e,y⟩:=y;subst e y;exact hs i σ _ hlt p
have e:i=n:=by omega
subst e
exact .inl ⟨kH _,hd σ H p⟩)
noncomputable abbrev R2:=V→V→Hp→VK→Prop
noncomputable def OpR(X:Cx)(f:Value→Value→Sem Value)(r:R2):Prop:=∀(pins:List (Addr×Obj)) (s:Shared) (σ:St) (H:Hp) (x y:V) (v u:Value) (Q:VK),Inv X pins σ H s→RelV x v→RelV y u→r x y H Q→wpAny (model X.prog X.w) X.A (f v u) (EP X pins σ Q) X.xe s
noncomputable def UnR(X:Cx)(f:Value→Sem Value)(r:V→Hp→VK→Prop):Prop:=∀(pins:List (Addr×Obj)) (s:Shared) (σ:St) (H:Hp) (x:V) (v:Value) (Q:VK),Inv X pins σ H s→RelV x v→r x H Q→wpAny (model X.prog X.w) X.A (f v) (EP X pins σ Q) X.xe s
noncomputable def zC(X:Cx)(f:Value)(r:List V→Hp→VK→Prop):Prop:=∀(pins:List (Addr×Obj)) (s:Shared) (σ:St) (H:Hp) (xs:List V) (us:List Value) (Q:VK),Inv X pins σ H s→Vals xs us→r xs H Q→wpAny (model X.prog X.w) X.A (call f us) (EP X pins σ Q) X.xe s
noncomputable def tOp(r:R2)(ta tb:TE):TE:=λσ H Q=>ta σ H λx H1=>tb σ H1 λy H2=>r x y H2 Q
noncomputable def tUn(r:V→Hp→VK→Prop)(ta:TE):TE:=λσ H Q=>ta σ H λx H1=>r x H1 Q
noncomputable def rI(C:Int→Int→Prop)(g:Int→Int→V):R2:=λx y H Q=>∃i j,x=.int i∧y=.int j∧C i j∧Q (g i j) H
noncomputable def rI0(g:Int→Int→V):R2:=λx y H Q=>∃i j,x=.int i∧y=.int j∧Q (g i j) H
noncomputable def rU(g:Int→V):V→Hp→VK→Prop:=λx H Q=>∃i,x=.int i∧Q (g i) H
section
variable{X:Cx}{a b c:Expr}{ta tb tc:TE}{pos:Pos}
theorem binT(ha:PE X a ta)(hb:PE X b tb){pins:List (Addr×Obj)}{s:Shared}{σ:St}{H:Hp}{R:V→V→Hp→Prop}(I:Inv X pins σ H s)
 (h:ta σ H λx H1=>tb σ H1 λy H2=>R x y H2) {Q:Value→Shared→Prop} {f:Value→Value→Sem Value}
 (hf:∀v u s2 x y H2,Inv X pins σ H2 s2→RelV x v→RelV y u→R x y H2→wpAny (model X.prog X.w) X.A (f v u) Q X.xe s2):
 wpAny (model X.prog X.w) X.A (eval a X.env) (λv s₁=>wpAny (model X.prog X.w) X.A (eval b X.env) (λu s₂=>wpAny (model X.prog X.w) X.A (f v u) Q X.xe s₂) X.xe s₁) X.xe s:=by(
refine thn (ha pins s σ H _ I h) λv s1 hZ=>?_
obtain⟨x,H1,I1,r1,q1⟩:=hZ
refine thn (hb pins s1 σ H1 _ I1 q1) λu s2 hZ=>?_
obtain⟨y,H2,I2,r2,q2⟩:=hZ
exact hf v u s2 x y H2 I2 r1 r2 q2)
theorem qT{op:Operator}{r:R2}(ho:OpR X (binaryOp op) r)(ha:PE X a ta)(hb:PE X b tb):PE X (.BinOp a op b pos) (tOp r ta tb):=by intro pins s σ H Q I h;exact wpAny_BinOp (binT ha hb I h λv u s2 x y H2 I2 rx ry q=>ho pins s2 σ H2 x y v u Q I2 rx ry q)
theorem qGU{op:UnaryOp}{r:V→Hp→VK→Prop}(ho:UnR X (unaryOp op) r)(ha:PE X a ta):PE X (.UnaryOp op a pos) (tUn r ta):=by intro pins s σ H Q I h;exact UnaryOp_ (thn (ha pins s σ H _ I h) λv s1 ⟨x,H1,I1,r1,q1⟩=>ho pins s1 σ H1 x v Q I1 r1 q1)
theorem opI{f:Value→Value→Sem Value}{C:Int→Int→Prop}{g:Int→Int→Int}
 (rule:∀(i j:Int) (t u:Tok) (s:Shared) (Q:Value→Shared→Prop) (E:Value→Shared→Prop),C i j→Q (.int (g i j) s.toks) { s with toks:=s.toks+1 }→wpAny (model X.prog X.w) X.A (f (.int i t) (.int j u)) Q E s):
 OpR X f (rI C λi j=>.int (g i j)):=by(
intro pins s σ H x y v u Q I rx ry h
obtain⟨i,j,rfl,rfl,hc,q⟩:=h
obtain⟨t,rfl⟩:=rx
obtain⟨t',rfl⟩:=ry
exact rule i j t t' s _ _ hc ⟨.int (g i j),H,I.tok _,⟨_,rfl⟩,q⟩)
theorem opI0{f:Value→Value→Sem Value}{g:Int→Int→Int}
 (rule:∀(i j:Int) (t u:Tok) (s:Shared) (Q:Value→Shared→Prop) (E:Value→Shared→Prop),Q (.int (g i j) s.toks) { s with toks:=s.toks+1 }→wpAny (model X.prog X.w) X.A (f (.int i t) (.int j u)) Q E s):
 OpR X f (rI0 λi j=>.int (g i j)):=by(
intro pins s σ H x y v u Q I rx ry h
obtain⟨i,j,rfl,rfl,q⟩:=h
obtain⟨t,rfl⟩:=rx
obtain⟨t',rfl⟩:=ry
exact rule i j t t' s _ _ ⟨.int (g i j),H,I.tok _,⟨_,rfl⟩,q⟩)
theorem opB0{f:Value→Value→Sem Value}{g:Int→Int→Bool}
 (rule:∀(i j:Int) (t u:Tok) (s:Shared) (Q:Value→Shared→Prop) (E:Value→Shared→Prop),Q (.bool (g i j)) s→wpAny (model X.prog X.w) X.A (f (.int i t) (.int j u)) Q E s):
 OpR X f (rI0 λi j=>.bl (g i j)):=by(
intro pins s σ H x y v u Q I rx ry h
obtain⟨i,j,rfl,rfl,q⟩:=h
obtain⟨t,rfl⟩:=rx
obtain⟨t',rfl⟩:=ry
exact rule i j t t' s _ _ ⟨.bl (g i j),H,I,rfl,q⟩)
noncomputable def CDiv(i j:Int):Prop:=0<j∧j<1073741824
noncomputable def CPow(i j:Int):Prop:=0≤j∧j≤1000000∧i.natAbs<2 ^ 64
noncomputable def CMul(i j:Int):Prop:=(-(2 ^ 64)<i∧i<2 ^ 64)∨(-(2 ^ 64)<j∧j<2 ^ 64)
theorem CMul.ok{i j:Int}(h:CMul i j):IntMulOk i j:=by(
rcases h with⟨h1,h2⟩|⟨h1,h2⟩
·exact .of_left (intBits_le_64 h1 h2)
exact .of_right (intBits_le_64 h1 h2))
theorem yN:OpR X (binaryOp .Add) (rI0 λi j=>.int (i+j)):=opI0 λ_ _ _ _ _ _ _ q=>add_int q
theorem uY:OpR X (binaryOp .Sub) (rI0 λi j=>.int (i-j)):=opI0 λ_ _ _ _ _ _ _ q=>sub_int q
theorem vC:OpR X (binaryOp .Mult) (rI CMul λi j=>.int (i*j)):=opI λ_ _ _ _ _ _ _ hc q=>mul_int q hc.ok
theorem yH:OpR X (binaryOp .FloorDiv) (rI CDiv λi j=>.int (i / j)):=opI λi j _ _ _ _ _ hc q=>by have h1:(0:Int)<j:=hc.1;have h2:j<1073741824:=hc.2;exact floordiv_int (by omega) (by rw[Int.fdiv_eq_ediv_of_nonneg i (by omega)];exact q) (.inl (PyProof.noPylong_small (by omega)))
theorem yA:OpR X (binaryOp .Mod) (rI (λ_ j=>0<j) λi j=>.int (i%j)):=opI λi j _ _ _ _ _ hc q=>by have h1:(0:Int)<j:=hc;exact mod_int' (by omega) (by rw[Int.fmod_eq_emod_of_nonneg i (by omega)];exact q)
theorem qAM:OpR X (binaryOp .Pow) (rI CPow λi j=>.int (i ^ j.toNat)):=opI λ_ _ _ _ _ _ _ hc q=>pow_int_small hc.1 hc.2.1 hc.2.2 q
theorem qHE:OpR X (binaryOp .LShift) (rI CPow λi j=>.int (i*2 ^ j.toNat)):=opI λ_ _ _ _ _ _ _ hc q=>lshift_int_small hc.1 hc.2.1 hc.2.2 q
theorem qJM:OpR X (binaryOp .BitOr) (rI0 λi j=>.int (Builtin.bitOr i j)):=opI0 λ_ _ _ _ _ _ _ q=>or_int q
theorem unI{f:Value→Sem Value}{g:Int→Int}
 (rule:∀(i:Int) (t:Tok) (s:Shared) (Q:Value→Shared→Prop) (E:Value→Shared→Prop),Q (.int (g i) s.toks) { s with toks:=s.toks+1 }→wpAny (model X.prog X.w) X.A (f (.int i t)) Q E s):
 UnR X f (rU λi=>.int (g i)):=by(
intro pins s σ H x v Q I rx h
obtain⟨i,rfl,q⟩:=h
obtain⟨t,rfl⟩:=rx
exact rule i t s _ _ ⟨.int (g i),H,I.tok _,⟨_,rfl⟩,q⟩)
theorem qAN:UnR X (unaryOp .USub) (rU λi=>.int (-i)):=unI λ_ _ _ _ _ q=>neg_int q
end
noncomputable def scal:V→V→Bool
| .non,.non=>true| .non,.int _=>true| .int _,.non=>true| .non,.bl _=>true| .bl _,.non=>true| .non,.str _=>true| .str _,.non=>true
| .int _,.int _=>true| .bl _,.bl _=>true| .str _,.str _=>true| .byt _,.byt _=>true
| .int _,.str _=>true| .str _,.int _=>true| .bl _,.str _=>true| .str _,.bl _=>true
|_,_=>false
noncomputable def rEq:R2:=λx y H Q=>scal x y=true∧Q (.bl (decide (x=y))) H
noncomputable def rNe:R2:=λx y H Q=>scal x y=true∧Q (.bl (!decide (x=y))) H
theorem qBO{i j:Int}:decide (V.int i=V.int j)=(i==j):=by rw[wB];simp
theorem qDL{i j:Bool}:decide (V.bl i=V.bl j)=(i==j):=by rw[wB];simp
theorem qBP{i j:Str}:decide (V.str i=V.str j)=(i==j):=by rw[wB];simp
theorem qBQ{i j:Array UInt8}:decide (V.byt i=V.byt j)=(i.toList==j.toList):=by(
rw[wB]
cases i
cases j
simp)
section
variable{X:Cx}{a b c:Expr}{ta tb tc:TE}{pos:Pos}
theorem jQ{pins:List (Addr×Obj)}{σ:St}{H:Hp}{s:Shared}{Q:VK}{k k':Bool}(I:Inv X pins σ H s)(q:Q (.bl k) H)(e:k=k'):EP X pins σ Q (.bool k') s:=by subst e;exact⟨.bl k,H,I,rfl,q⟩
theorem jR:OpR X (compareOp .Eq) rEq:=by(
intro pins s σ H x y v u Q I rx ry h
obtain⟨hs,q⟩:=h
cases x with
|non=>
 cases rx;cases y with
 |non=>cases ry;exact PySem.EqNone.eq_none_none (jQ I q (by simp))
 |bl j=>cases ry;exact PySem.EqNone.eq_none_bool (jQ I q (by simp))
 |int j=>obtain⟨t',rfl⟩:=ry;exact PySem.EqNone.eq_none_int (jQ I q (by simp))
 |str j=>obtain⟨t',rfl⟩:=ry;exact PySem.EqNone.eq_none_str (jQ I q (by simp))
 |_=>exact absurd (show false=true from hs) kN
|bl i=>
 cases rx;cases y with
 |non=>cases ry;exact PySem.EqNone.eq_bool_none (jQ I q (by simp))
 |bl j=>cases ry;exact eq_bool (jQ I q qDL)
 |str j=>obtain⟨t',rfl⟩:=ry;exact x9 (jQ I q (by simp))
 |_=>exact absurd (show false=true from hs) kN
|int i=>
 obtain⟨t,rfl⟩:=rx;cases y with
 |non=>cases ry;exact PySem.EqNone.eq_int_none (jQ I q (by simp))
 |int j=>obtain⟨t',rfl⟩:=ry;exact eq_int (jQ I q qBO)
 |str j=>obtain⟨t',rfl⟩:=ry;exact aE (jQ I q (by simp))
 |_=>exact absurd (show false=true from hs) kN
|str i=>
 obtain⟨t,rfl⟩:=rx;cases y with
 |non=>cases ry;exact PySem.EqNone.eq_str_none (jQ I q (by simp))
 |bl j=>cases ry;exact aA (jQ I q (by simp))
 |int j=>obtain⟨t',rfl⟩:=ry;exact aF (jQ I q (by simp))
 |str j=>obtain⟨t',rfl⟩:=ry;exact eq_str (jQ I q qBP)
 |_=>exact absurd (show false=true from hs) kN
|byt i=>
 obtain⟨t,rfl⟩:=rx;cases y with
 |byt j=>obtain⟨t',rfl⟩:=ry;exact PySem.W.eq_bytes (jQ I q qBQ)
 |_=>exact absurd (show false=true from hs) kN
|_=>cases y<;>exact absurd (show false=true from hs) kN)
theorem q2R:OpR X (compareOp .NotEq) rNe:=by(
intro pins s σ H x y v u Q I rx ry h
obtain⟨hs,q⟩:=h
cases x with
|non=>
 cases rx;cases y with
 |non=>cases ry;exact PySem.EqNone.ne_none_none (jQ I q (by simp))
 |bl j=>cases ry;exact PySem.EqNone.ne_none_bool (jQ I q (by simp))
 |int j=>obtain⟨t',rfl⟩:=ry;exact PySem.EqNone.ne_none_int (jQ I q (by simp))
 |str j=>obtain⟨t',rfl⟩:=ry;exact PySem.EqNone.ne_none_str (jQ I q (by simp))
 |_=>exact absurd (show false=true from hs) kN
|bl i=>
 cases rx;cases y with
 |non=>cases ry;exact PySem.EqNone.ne_bool_none (jQ I q (by simp))
 |bl j=>cases ry;exact ne_bool (jQ I q (rL not qDL))
 |str j=>obtain⟨t',rfl⟩:=ry;exact aB (jQ I q (by simp))
 |_=>exact absurd (show false=true from hs) kN
|int i=>
 obtain⟨t,rfl⟩:=rx;cases y with
 |non=>cases ry;exact PySem.EqNone.ne_int_none (jQ I q (by simp))
 |int j=>obtain⟨t',rfl⟩:=ry;exact ne_int (jQ I q (rL not qBO))
 |str j=>obtain⟨t',rfl⟩:=ry;exact aG (jQ I q (by simp))
 |_=>exact absurd (show false=true from hs) kN
|str i=>
 obtain⟨t,rfl⟩:=rx;cases y with
 |non=>cases ry;exact PySem.EqNone.ne_str_none (jQ I q (by simp))
 |bl j=>cases ry;exact aD (jQ I q (by simp))
 |int j=>obtain⟨t',rfl⟩:=ry;exact aH (jQ I q (by simp))
 |str j=>obtain⟨t',rfl⟩:=ry;exact ne_str (jQ I q (rL not qBP))
 |_=>exact absurd (show false=true from hs) kN
|byt i=>
 obtain⟨t,rfl⟩:=rx;cases y with
 |byt j=>obtain⟨t',rfl⟩:=ry;exact PySem.W.ne_bytes (jQ I q (rL not qBQ))
 |_=>exact absurd (show false=true from hs) kN
|_=>cases y<;>exact absurd (show false=true from hs) kN)
theorem q7L:OpR X (compareOp .Lt) (rI0 λi j=>.bl (decide (i<j))):=opB0 λ_ _ _ _ _ _ _ q=>lt_int q
theorem q9I:OpR X (compareOp .LtE) (rI0 λi j=>.bl (decide (i≤j))):=opB0 λ_ _ _ _ _ _ _ q=>le_int q
theorem qDM:OpR X (compareOp .Gt) (rI0 λi j=>.bl (decide (j<i))):=opB0 λ_ _ _ _ _ _ _ q=>gt_int q
theorem qBR:OpR X (compareOp .GtE) (rI0 λi j=>.bl (decide (j≤i))):=opB0 λ_ _ _ _ _ _ _ q=>ge_int q
theorem qAO:OpR X (compareOp .Is) (λx y H Q=>y=.non∧Q (.bl (decide (x=.non))) H):=by(
intro pins s σ H x y v u Q I rx ry h
obtain⟨rfl,q⟩:=h
cases ry
refine is_none_gen (jQ I q ?_)
cases x<;>first
 |(cases rx;rfl)
 |(obtain⟨t,rfl⟩:=rx;rfl))
theorem q5O:OpR X (compareOp .IsNot) (λx y H Q=>y=.non∧Q (.bl (!decide (x=.non))) H):=by(
intro pins s σ H x y v u Q I rx ry h
obtain⟨rfl,q⟩:=h
cases ry
refine isnot_none_gen (jQ I q ?_)
cases x<;>first
 |(cases rx;rfl)
 |(obtain⟨t,rfl⟩:=rx;rfl))
theorem qO(b:Expr){op:CmpOp}(h:op≠ .In:=by decide)(h2:op≠ .NotIn:=by decide):behindInMarks op b=false:=by(
have e1:(op==CmpOp.In)=false:=by cases op<;>first|rfl|exact absurd rfl h
have e2:(op==CmpOp.NotIn)=false:=by cases op<;>first|rfl|exact absurd rfl h2
cases b<;>simp[behindInMarks,e1,e2])
theorem yC{op:CmpOp}{r:R2}(ho:OpR X (compareOp op) r)(ha:PE X a ta)(hb:PE X b tb)(hm:behindInMarks op b=false):PE X (.Compare a [op] [b] pos) (tOp r ta tb):=by intro pins s σ H Q I h;exact wpAny_Compare1 (binT ha hb I h λv u s2 x y H2 I2 rx ry q=>ho pins s2 σ H2 x y v u Q I2 rx ry q) hm
noncomputable def qGV(t:TE):TT:=λσ H Q=>t σ H λx H'=>∃k,x=.bl k∧Q k H'
theorem qN{op:CmpOp}{r:R2}(ho:OpR X (compareOp op) r)(ha:PE X a ta)(hb:PE X b tb)(hm:behindInMarks op b=false):PT X (.Compare a [op] [b] pos) (qGV (tOp r ta tb)):=by(
intro pins s σ H Q I h
refine sN (thn (ha pins s σ H _ I h) λv s1 ⟨x,H1,I1,r1,q1⟩=>thn (hb pins s1 σ H1 _ I1 q1) λu s2 ⟨y,H2,I2,r2,q2⟩=>thn (ho pins s2 σ H2 x y v u _ I2 r1 r2 q2) λc s3 ⟨z,H3,I3,r3,k,e,q3⟩=>?_) hm
subst e
cases r3
exact gW ⟨H3,I3,q3⟩)
noncomputable def qDN(r r':R2)(ta tb tc:TE):TE:=λσ H Q=>ta σ H λx H1=>tb σ H1 λy H2=>r x y H2 λz H3=>∃k,z=.bl k∧(if k=true then tc σ H3 λw' H4=>r' y w' H4 Q else Q (.bl false) H3)
theorem q9J{op op':CmpOp}{r r':R2}(ho:OpR X (compareOp op) r)(ho':OpR X (compareOp op') r')(ha:PE X a ta)(hb:PE X b tb)(hc:PE X c tc)
 (hm:lastMarks [op,op'] [b,c]=false:=by with_unfolding_all rfl):PE X (.Compare a [op,op'] [b,c] pos) (qDN r r' ta tb tc):=by(
intro pins s σ H Q I h
refine Compare_chain (thn (ha pins s σ H _ I h) λv s1 ⟨x,H1,I1,r1,q1⟩=>chain_link (thn (hb pins s1 σ H1 _ I1 q1) λu s2 ⟨y,H2,I2,r2,q2⟩=>thn (ho pins s2 σ H2 x y v u _ I2 r1 r2 q2) λd s3 ⟨z,H3,I3,r3,k,e,q3⟩=>?_)) hm
subst e
cases r3
refine gW ?_
cases k with
|false=>exact ite_ff ⟨.bl false,H3,I3,rfl,q3⟩
|true=>exact ite_tt (chain_last (thn (hc pins s3 σ H3 _ I3 q3) λw' s4 ⟨z',H4,I4,r4,q4⟩=>ho' pins s4 σ H4 y z' u w' Q I4 r2 r4 q4)))
theorem q5Z{op op':CmpOp}{r r':R2}(ho:OpR X (compareOp op) r)(ho':OpR X (compareOp op') r')(ha:PE X a ta)(hb:PE X b tb)(hc:PE X c tc)
 (hm:lastMarks [op,op'] [b,c]=false:=by with_unfolding_all rfl):PT X (.Compare a [op,op'] [b,c] pos) (qGV (qDN r r' ta tb tc)):=by(
intro pins s σ H Q I h
refine isTrue_chain (thn (ha pins s σ H _ I h) λv s1 ⟨x,H1,I1,r1,q1⟩=>test_link (thn (hb pins s1 σ H1 _ I1 q1) λu s2 ⟨y,H2,I2,r2,q2⟩=>thn (ho pins s2 σ H2 x y v u _ I2 r1 r2 q2) λd s3 ⟨z,H3,I3,r3,k,e,q3⟩=>?_)) hm
subst e
cases r3
refine gW ?_
cases k with
|false=>obtain⟨k',e',q'⟩:=q3;cases e';exact ite_ff ⟨H3,I3,q'⟩
|true=>refine ite_tt (test_last (thn (hc pins s3 σ H3 _ I3 q3) λw' s4 ⟨z',H4,I4,r4,q4⟩=>thn (ho' pins s4 σ H4 y z' u w' _ I4 r2 r4 q4) λd' s5 hZ=>?_));obtain⟨z2,H5,I5,r5,k2,e2,q5⟩:=hZ;subst e2;cases r5;exact gW ⟨H5,I5,q5⟩)
theorem q31:(sizeLine:Nat)<2 ^ 63:=by rw[gR];decide
theorem q32:OpR X (binaryOp .Add) (λx y H Q=>∃i j,x=.str i∧y=.str j∧i.length+j.length≤sizeLine∧Q (.str (i++j)) H):=by(
intro pins s σ H x y v u Q I rx ry h
obtain⟨i,j,rfl,rfl,hz,q⟩:=h
obtain⟨t,rfl⟩:=rx
obtain⟨t',rfl⟩:=ry
exact add_str (λt' tk=>⟨.str (i++j),H,I.tok _,⟨_,rfl⟩,q⟩) hz)
theorem zP{x:V}{us:List Value}(r:Vals [x] us):∃u,us=[u]∧RelV x u:=by
 cases r with
 |cons r1 r2=>cases r2;exact⟨_,rfl,r1⟩
theorem qGW{x y:V}{us:List Value}(r:Vals [x,y] us):∃u w',us=[u,w']∧RelV x u∧RelV y w':=by(
cases r with
|cons r1 r2=>
 cases r2 with
 |cons r3 r4=>cases r4;exact⟨_,_,rfl,r1,r3⟩)
theorem qCO(hc:X.calm=true):zC X (.builtin "max") (λxs H Q=>∃i j,xs=[.int i,.int j]∧Q (.int (if j>i then j else i)) H):=by(
intro pins s σ H xs us Q I r h
obtain⟨i,j,rfl,q⟩:=h
obtain⟨u,w',rfl,⟨t,rfl⟩,⟨t',rfl⟩⟩:=qGW r
refine max_two_ints (I.ok.hd hc) λh' tk k=>⟨_,H,I.kept k,?_,q⟩
by_cases hj:j>i
·rw[kG hj,kG hj];exact⟨_,rfl⟩
rw[kE hj,kE hj];exact⟨_,rfl⟩)
theorem q0O:zC X (.type "int") (λxs H Q=>(∃i,xs=[.int i]∧Q (.int i) H)∨∃k,xs=[.bl k]∧Q (.int (if k then 1 else 0)) H):=by(
intro pins s σ H xs us Q I r h
rcases h with⟨i,rfl,q⟩|⟨k,rfl,q⟩
·obtain⟨u,rfl,t,rfl⟩:=zP r;exact call_int_int ⟨.int i,H,I,⟨_,rfl⟩,q⟩
obtain⟨u,rfl,r1⟩:=zP r
cases r1
exact call_int_bool ⟨.int (if k then 1 else 0),H,I.tok _,⟨_,rfl⟩,q⟩)
end
structure ObjM(h:Heap)(x dx C:Addr)(mA:Str→Option Value):Prop where
obj:h.get? x=some (PySem.W.instObj C dx)
ns:h.Ns1 dx mA
ne:dx≠x
theorem q7M{h:Heap}{dx:Addr}{mA:Str→Option Value}(n:h.Ns1 dx mA):∃od,h.get? dx=some od∧∀name,PySem.W.lookIn name od=some (mA name):=by(
obtain⟨o,es,ep,ho,hd,hk,_,hm⟩:=n
refine⟨o,ho,λname=>?_⟩
have e:=hm name
unfold nsFind findBy at e
rw[←Array.find?_toList]at e
unfold PySem.W.lookIn
rw[hd]
dsimp only
split
·rename_i y q;rw[q]at e;exact rL some e
rename_i q
rw[q]at e
have a:es.toList.any (·.refKey)=false:=by rw[List.any_eq_false];intro y hy;obtain⟨z,t,hkey⟩:=hk y (sV.mp hy);simp[DictEntry.refKey,hkey]
have a':¬es.toList.any (·.refKey)=true:=by rw[a];exact kN
rw[kE a']
exact rL some e)
theorem ObjM.look{h:Heap}{x dx C:Addr}{mA:Str→Option Value}(I:ObjM h x dx C mA):∃od,PySem.W.InstAt h x (PySem.W.instObj C dx) C (some od)∧∀name,PySem.W.lookIn name od=some (mA name):=let⟨od,ho,hl⟩:=q7M I.ns
 ⟨od,⟨I.obj,rfl,rfl,ho⟩,hl⟩
section
variable{prog:Program}{w:World}{A:Around}{E:Value→Shared→Prop}{s:Shared}{K:PySem.W.Frag}{x dx C f:Addr}{mA:Str→Option Value}{name:Str}{v:Value}
theorem qFG{expr:Bool}{Q:Value→Shared→Prop}(X:K.In s.heap)(I:ObjM s.heap x dx C mA)(hg:PySem.W.plainGet K C name=true)(hh:PySem.W.hasDictIn K C=true)
 (ha:PySem.W.findIn K (.ref C) name=some none) (hv:mA name=some v) (hv':PySem.W.handedIn v=true) (h:Q v { s with toks:=s.toks+1 }):
 wpAny (model prog w) A (getAttr (.ref x) name expr) Q E s:=by obtain⟨od,J,hl⟩:=I.look;exact PySem.W.get_value X J (cU hg).1 (PySem.W.findObj_own hh ha rfl (by rw[hl,hv])) hv' h
theorem qDO{pl:Sem Bool}{Q:Value×List Value→Shared→Prop}(X:K.In s.heap)(I:ObjM s.heap x dx C mA)(hg:PySem.W.plainGet K C name=true)
 (hf:PySem.W.findIn K (.ref C) name=some (some (.ref f))) (ht:PySem.W.isFn K (.ref f)=true) (hv:mA name=none) (h:Q (.ref f,[.ref x]) s):
 wpAny (model prog w) A (getMethod (.ref x) name pl) Q E s:=by obtain⟨od,J,hl⟩:=I.look;exact PySem.W.method_fn X J (cU hg).1 (cU hg).2 hf (rX.mp ht) (by show(PySem.W.lookIn name od).map (·.isSome)=some false;rw[hl,hv];rfl) h
theorem qFH{ns:List Str}{Q:Unit→Shared→Prop}(X:K.In s.heap)(I:ObjM s.heap x dx C mA)
 (hs:PySem.W.findIn K (.ref C) "__setattr__"=some (some (.builtin "object.__setattr__"))) (hp:PySem.W.plainOver K C=true) (ht:PySem.W.takerIn K C name=some none) (hh:PySem.W.hasDictIn K C=true)
 (hw:PySem.Within mA ns) (hsz:ns.length≤sizeLine)
 (h:∀h',ObjM h' x dx C (λy=>if y=name then some v else mA y)→Heap.SameBut dx s.heap h'→Q () { s with heap:=h',toks:=s.toks+2 }):
 wpAny (model prog w) A (setAttr (.ref x) name v) Q E s:=by(
obtain⟨od,J,hl⟩:=I.look
refine PySem.W.set_plain X J hs (PySem.W.osa_open (s:={ s with toks:=s.toks+1 }) (r:=none) X J hp ht λb=>?_)
obtain⟨cd,hc,hd'⟩:=cG hh
have hx:s.heap.get? x=some ⟨.ref C,some dx,.plain,#[]⟩:=I.obj
refine kD (kZ (kD (kD (wpAny_loadPart hx (kD (aQ (s:={ s with toks:=s.toks+1 }) (PySem.W.looks_clsIn X hc) ?_))))))
rw[hd']
refine kZ (a:=some dx) (kD (kZ (kD ?_)))
refine wpAny_nsSet1 (s:={ s with toks:=s.toks+1 }) I.ns λh' hn2 hs2=>?_
obtain⟨oD,esD,epD,hoD,hdD,hcD⟩:=hn2.count (PySem.Within.cons name v hw)
refine kD (wpAny_lookBehind hoD (by rw[hdD];exact pastItsLine_dict (mJ hcD (by rw[gD];omega))) ?_)
exact kZ (h _ ⟨(hs2.2 _ (d5 I.ne)).trans I.obj,hn2,I.ne⟩ hs2))
theorem qDP{R:Result→Shared→Prop}{vs:List Value}{kw:List (Str×Value)}(X:K.In s.heap)(hm:PySem.W.makesIn K C=true)
 (hi:PySem.W.findIn K (.ref C) "__init__"=some (some (.ref f))) (hf:PySem.W.typeIn K (.ref f)=some (.type "function"))
 (h:codeAny (model prog w) (A.under (.builtin "type.__call__" ⟨.ref C::vs,kw⟩)) (.call (.ref f) ⟨.ref (s.heap.objs.size+1)::vs,kw⟩) (PySem.W.InitBack (s.heap.objs.size+1) R)
  { s with heap:=(s.heap.push PySem.W.emptyDict).push (PySem.W.instObj C s.heap.objs.size) }):
 codeAny (model prog w) A (.call (.ref C) ⟨vs,kw⟩) R s:=by obtain⟨hh,g,d,t,os⟩:=s;exact PySem.W.make_core (PySem.W.makes_of X hm) (cK X hi) (λself=>PySem.W.bind_fn X self hf) (.inl rfl) h
end
noncomputable def putF(f:Str)(v:V):List (Str×V)→List (Str×V)
| []=>[(f,v)]
|(g,x)::r=>if g=f then(g,v)::r else(g,x)::putF f v r
theorem q54(f g:Str)(v:V):∀fs:List (Str×V),(putF f v fs).lookup g=if g=f then some v else fs.lookup g
| []=>by
 show List.lookup g [(f,v)]=_;by_cases h:g=f
 ·have hb:(g==f)=true:=rX.mpr h;simp only[List.lookup,hb,kG h]
 have hb:(g==f)=false:=dZ.mpr h;simp only[List.lookup,hb,kE h]
|(k,x)::r=>by
 have ih:=q54 f g v r;rw[show putF f v ((k,x)::r)=(if k=f then(k,v)::r else(k,x)::putF f v r)from rfl];by_cases hk:k=f
 ·rw[kG hk];by_cases h:g=k
  ·have hb:(g==k)=true:=rX.mpr h;simp only[List.lookup,hb,kG (h.trans hk)]
  have hb:(g==k)=false:=dZ.mpr h;simp only[List.lookup,hb,kE (λe:g=f=>h (e.trans hk.symm))]
 rw[kE hk];by_cases h:g=k
 ·have hb:(g==k)=true:=rX.mpr h;simp only[List.lookup,hb,kE (λe:g=f=>hk (h.symm.trans e))]
 have hb:(g==k)=false:=dZ.mpr h;simp only[List.lookup,hb];exact ih
theorem q4I(f:Str)(v:V):∀fs:List (Str×V),f∈(putF f v fs).map (·.1)∧∀g,g∈fs.map (·.1)→g∈(putF f v fs).map (·.1)
| []=>⟨by simp[putF],λg h=>by simp at h⟩
|(k,x)::r=>by
 obtain⟨i1,i2⟩:=q4I f v r;rw[show putF f v ((k,x)::r)=(if k=f then(k,v)::r else(k,x)::putF f v r)from rfl];by_cases hk:k=f
 ·rw[kG hk];subst hk;exact⟨by simp,λg h=>by simpa using h⟩
 rw[kE hk];refine⟨?_,λg h=>?_⟩
 ·rw[mZ];exact kF _ i1
 rw[mZ]at h ⊢;rcases kW.mp h with e|e
 ·exact kW.mpr (.inl e)
 exact kF _ (i2 g e)
theorem q55(f:Str)(v:V):∀fs:List (Str×V),(putF f v fs).length≤fs.length+1
| []=>by simp[putF]
|(k,x)::r=>by
 have ih:=q55 f v r;rw[show putF f v ((k,x)::r)=(if k=f then(k,v)::r else(k,x)::putF f v r)from rfl];by_cases hk:k=f
 ·rw[kG hk,gD,gD];omega
 rw[kE hk,gD,gD];omega
theorem RelO.some_of{v:V}{o:Option Value}(r:RelO (some v) o):∃u,o=some u∧RelV v u:=by(
cases o with
|none=>exact(show False from r).elim
|some u=>exact⟨u,rfl,r⟩)
theorem RelO.none_of{o:Option Value}(r:RelO none o):o=none:=by(
cases o with
|none=>rfl
|some u=>exact(show False from r).elim)
theorem qCP{v:V}{u:Value}(r:RelV v u):PySem.W.handedIn u=true:=by(
cases v with
|non=>cases(show u=Value.none from r);rfl
|bl b=>cases(show u=Value.bool b from r);rfl
|int i=>obtain⟨t,e⟩:=(show ∃t,u=Value.int i t from r);cases e;rfl
|str x=>obtain⟨t,e⟩:=(show ∃t,u=Value.str x t from r);cases e;rfl
|byt b=>obtain⟨t,e⟩:=(show ∃t,u=Value.bytes b t from r);cases e;rfl
|flt b=>obtain⟨t,e⟩:=(show ∃t,u=Value.float b t from r);cases e;rfl
|ref a=>cases(show u=Value.ref a from r);rfl
|ty n=>cases(show u=Value.type n from r);rfl)
section
variable{P:Program}{w:World}{H H':Hp}{h h':Heap}{a C dx:Addr}{fs fs':List (Str×V)}
theorem q5P(hok:HOk P w H h)(e:H a=some (.ins C dx fs)):∃mA,ObjM h a dx C mA∧(∀f,RelO (fs.lookup f) (mA f))∧PySem.Within mA (fs.map (·.1))∧fs.length≤1000∧H dx=some (.own a):=by obtain⟨d,z,ne,ob,mA,n,r,q⟩:=(show jU P w H h a (.ins C dx fs)from hok a _ e);exact⟨mA,⟨ob,n,ne⟩,r,q,z,d⟩
end
structure Cls(K:PySem.W.Frag)(C:Addr):Prop where
pg:PySem.W.plainGet K C Str.empty=true
hd:PySem.W.hasDictIn K C=true
po:PySem.W.plainOver K C=true
sa:PySem.W.findIn K (.ref C) "__setattr__"=some (some (.builtin "object.__setattr__"))
theorem Cls.get{K:PySem.W.Frag}{C:Addr}(c:Cls K C)(f:Str):PySem.W.plainGet K C f=true:=c.pg
noncomputable def qR(K:PySem.W.Frag)(C:Addr)(f:Str):Prop:=PySem.W.findIn K (.ref C) f=some none
theorem qR.taker{K:PySem.W.Frag}{C:Addr}{f:Str}(n:qR K C f):PySem.W.takerIn K C f=some none:=by unfold PySem.W.takerIn;rw[show PySem.W.findIn K (.ref C) f=some none from n];rfl
structure Meth(K:PySem.W.Frag)(C:Addr)(m:Str)(f:Addr):Prop where
at_:PySem.W.findIn K (.ref C) m=some (some (.ref f))
fn:PySem.W.isFn K (.ref f)=true
kp:PySem.W.keepIn K (.ref f)=true
section
variable{X:Cx}{pins:List (Addr×Obj)}{σ:St}{H:Hp}{s:Shared}{a C dx:Addr}{fs:List (Str×V)}{f:Str}{v:V}{A:Around}{E:Value→Shared→Prop}
theorem q60{b:Bool}{Q:Value→Shared→Prop}(I:Inv X pins σ H s)(e:H a=some (.ins C dx fs))(c:Cls X.K C)(n:qR X.K C f)(l:fs.lookup f=some v)
 (h:∀u s',Inv X pins σ H s'→RelV v u→Q u s'):wpAny (model X.prog X.w) A (getAttr (.ref a) f b) Q E s:=by obtain⟨mA,O,r,_,_,_⟩:=q5P I.hok e;obtain⟨u,hu,ru⟩:=RelO.some_of (v:=v) (o:=mA f) (by rw[←l];exact r f);exact qFG I.kIn O (c.get f) c.hd n hu (qCP ru) (h u _ (I.tok _) ru)
theorem zQ{m:Str}{g:Addr}{pl:Sem Bool}{Q:Value×List Value→Shared→Prop}(I:Inv X pins σ H s)(e:H a=some (.ins C dx fs))(c:Cls X.K C)(k:Meth X.K C m g)(l:fs.lookup m=none)
 (h:Q (.ref g,[.ref a]) s):wpAny (model X.prog X.w) A (getMethod (.ref a) m pl) Q E s:=by obtain⟨mA,O,r,_,_,_⟩:=q5P I.hok e;have hn:mA m=none:=RelO.none_of (by rw[←l];exact r m);exact qDO I.kIn O (c.get m) k.at_ k.fn hn h
theorem q61{y:V}{u:Value}{Q:Unit→Shared→Prop}(I:Inv X pins σ H s)(e:H a=some (.ins C dx fs))(c:Cls X.K C)(n:qR X.K C f)(hl:fs.length<1000)(ry:RelV y u)
 (h:∀s',Inv X pins σ (upd H a (.ins C dx (putF f y fs))) s'→Q () s'):wpAny (model X.prog X.w) A (setAttr (.ref a) f u) Q E s:=by(
obtain⟨mA,O,r,wi,_,ho⟩:=q5P I.hok e
have hz:(fs.map (·.1)).length≤sizeLine:=by rw[hU,gR];omega
refine qFH I.kIn O c.sa c.po n.taker c.hd wi hz λh' O' sb=>h _ ?_
have hd:∃o,h'.get? dx=some o:=let⟨o,_,_,e',_⟩:=O'.ns;⟨o,e'⟩
refine I.write (x:=a) (e:=dx) (by rw[e];exact True.intro) (.inr ho) (λb q hb z=>(sb.2 b hb).trans z) hd ?_
refine⟨by rw[qD O.ne];exact ho,?_,O.ne,O'.obj,_,O'.ns,λg=>?_,λg hg=>?_⟩
·have:=q55 f y fs;omega
·show RelO ((putF f y fs).lookup g) (if g=f then some u else mA g);rw[q54];by_cases q:g=f
 ·rw[kG q,kG q];exact ry
 rw[kE q,kE q];exact r g
by_cases q:g=f
·rw[q];exact(q4I f y fs).1
refine(q4I f y fs).2 g (wi g λz=>hg ?_)
show(if g=f then some u else mA g)=none
rw[kE q];exact z)
theorem Inv.made(I:Inv X pins σ H s):Inv X pins σ (upd (upd H s.heap.objs.size (.own (s.heap.objs.size+1))) (s.heap.objs.size+1) (.ins C s.heap.objs.size []))
 { s with heap:=(s.heap.push PySem.W.emptyDict).push (PySem.W.instObj C s.heap.objs.size) }:=by(
have e1:(s.heap.push PySem.W.emptyDict).get? s.heap.objs.size=some PySem.W.emptyDict:=k7 s.heap rfl
have e2:((s.heap.push PySem.W.emptyDict).push (PySem.W.instObj C s.heap.objs.size)).get? (s.heap.objs.size+1)=some (PySem.W.instObj C s.heap.objs.size):=by have:=k7 (s.heap.push PySem.W.emptyDict) (o:=PySem.W.instObj C s.heap.objs.size) rfl;rwa [rP]at this
have e3:(s.heap.push PySem.W.emptyDict).Ns s.heap.objs.size (λ_=>none):=⟨PySem.W.emptyDict,#[],_,e1,rfl,(λe he=>absurd he (by simp)),λ_=>rfl⟩
have I1:=I.laid (a:=s.heap.objs.size) (o:=.own (s.heap.objs.size+1)) (h':=s.heap.push PySem.W.emptyDict) (t':=s.toks) (λb u q=>hX _ q) (kH _) ⟨_,e1⟩
refine I1.laid (a:=s.heap.objs.size+1) (o:=.ins C s.heap.objs.size []) (t':=s.toks) (λb u q=>hX _ q) (cZ (rP _ _)) ?_
have ne:s.heap.objs.size≠s.heap.objs.size+1:=mD (wL _)
refine⟨by rw[qD ne,qF],mS _,ne,e2,λ_=>none,(Heap.Ns1.of_empty e3).at λo q=>hX _ q,λ_=>True.intro,λy hy=>absurd rfl hy⟩)
theorem qFI{prog:Program}{w:World}{env:Env}{e:Expr}{f:Str}{pos:Pos}{s:Shared}{Q:Value→Shared→Prop}(hb:attributeBase e f env (eval e env)=eval e env)
 (h:wpAny (model prog w) A (eval e env) (λo s₁=>wpAny (model prog w) A (getAttr o f true) Q E s₁) E s):wpAny (model prog w) A (eval (.Attribute e f pos) env) Q E s:=Attribute_any_ h (by rw[arm_eval_Attribute,hb])
end
noncomputable def tFld(K:PySem.W.Frag)(ta:TE)(f:Str):TE:=λσ H Q=>ta σ H λx H1=>∃a C dx fs v,x=.ref a∧H1 a=some (.ins C dx fs)∧Cls K C∧qR K C f∧fs.lookup f=some v∧Q v H1
noncomputable def sFld(K:PySem.W.Frag)(ta tv:TE)(f:Str):TS:=λD σ H=>tv σ H λy H1=>ta σ H1 λx H2=>∃a C dx fs,x=.ref a∧H2 a=some (.ins C dx fs)∧Cls K C∧qR K C f∧fs.length<1000∧D.nx σ (upd H2 a (.ins C dx (putF f y fs)))
noncomputable def InOp(X:Cx)(op:Operator)(rd:V→V→Hp→VK→Prop):Prop:=∀(pins:List (Addr×Obj)) (s:Shared) (σ:St) (H:Hp) (x y:V) (u v:Value) (Q:VK),Inv X pins σ H s→RelV x u→RelV y v→rd x y H Q→wpAny (model X.prog X.w) X.A (inplaceOp op u v) (EP X pins σ Q) X.xe s
noncomputable def qFJ(K:PySem.W.Frag)(ta tv:TE)(rd:V→V→Hp→VK→Prop)(f:Str):TS:=λD σ H=>ta σ H λx H1=>∃a C dx fs v,x=.ref a∧H1 a=some (.ins C dx fs)∧Cls K C∧qR K C f∧fs.lookup f=some v∧tv σ H1 λy H2=>rd v y H2 λz H3=>∃dx' fs',H3 a=some (.ins C dx' fs')∧fs'.length<1000∧D.nx σ (upd H3 a (.ins C dx' (putF f z fs')))
section
variable{X:Cx}{o e value:Expr}{f:Str}{pos pos' tpos:Pos}{ta tv:TE}
theorem qM(he:PE X e ta)(hb:attributeBase e f X.env (eval e X.env)=eval e X.env):PE X (.Attribute e f pos) (tFld X.K ta f):=by(
intro pins s σ H Q I h
refine qFI hb (thn (he pins s σ H _ I h) λu s1 hZ=>?_)
obtain⟨x,H1,I1,rx,a,C,dx,fs,v,ex,ea,c,n,l,q⟩:=hZ
subst ex
obtain rfl:u=Value.ref a:=rx
exact q60 I1 ea c n l λu' s2 I2 ru=>⟨v,H1,I2,ru,q⟩)
theorem jS(ha:PE X o ta)(hv:PE X value tv)(hs:swapsWith value (some (.Attribute o f pos')) pos.line X.env=pure false):PS X (.Assign [.Attribute o f pos'] value pos) (sFld X.K ta tv f):=by(
intro pins s σ H D I h
refine plainObj_wpAny_Assign_Attribute (thn (hv pins s σ H _ I h) λu s1 ⟨y,H1,I1,ry,q⟩=>thn (ha pins s1 σ H1 _ I1 q) λov s2 hZ=>?_) hs
obtain⟨x,H2,I2,rx,a,C,dx,fs,ex,ea,c,n,l,q2⟩:=hZ
subst ex
obtain rfl:ov=Value.ref a:=rx
exact q61 I2 ea c n l ry λs3 I3=>⟨σ,_,I3,q2⟩)
theorem q7N{op:Operator}{rd:V→V→Hp→VK→Prop}(ha:PE X o ta)(hv:PE X value tv)(hop:InOp X op rd):PS X (.AugAssign (.Attribute o f tpos) op value pos) (qFJ X.K ta tv rd f):=by(
intro pins s σ H D I h
refine wpAny_AugAssign_AttributeAny (thn (ha pins s σ H _ I h) λov s1 hZ=>?_)
obtain⟨x,H1,I1,rx,a,C,dx,fs,v,ex,ea,c,n,l,q⟩:=hZ
subst ex
obtain rfl:ov=Value.ref a:=rx
refine q60 I1 ea c n l λu s2 I2 ru=>thn (hv pins s2 σ H1 _ I2 q) λw3 s3 ⟨y,H2,I3,ry,q3⟩=>thn (hop pins s3 σ H2 v y u w3 _ I3 ru ry q3) λw4 s4 hZ=>?_
obtain⟨z,H3,I4,rz,dx',fs',ea',l',q4⟩:=hZ
exact q61 I4 ea' c n l' rz λs5 I5=>⟨σ,_,I5,q4⟩)
noncomputable def rAdd:V→V→Hp→VK→Prop:=λx y H Q=>∃i j,x=.int i∧y=.int j∧Q (.int (i+j)) H
noncomputable def rSub:V→V→Hp→VK→Prop:=λx y H Q=>∃i j,x=.int i∧y=.int j∧Q (.int (i-j)) H
theorem qHF:InOp X .Add rAdd:=by(
rintro pins s σ H x y u v Q I rx ry ⟨i,j,rfl,rfl,q⟩
obtain⟨t,rfl⟩:=(show ∃t,u=Value.int i t from rx)
obtain⟨t',rfl⟩:=(show ∃t',v=Value.int j t' from ry)
exact PyProof.Rows.iadd_int ⟨.int (i+j),H,I.tok _,⟨_,rfl⟩,q⟩)
theorem qHG:InOp X .Sub rSub:=by(
rintro pins s σ H x y u v Q I rx ry ⟨i,j,rfl,rfl,q⟩
obtain⟨t,rfl⟩:=(show ∃t,u=Value.int i t from rx)
obtain⟨t',rfl⟩:=(show ∃t',v=Value.int j t' from ry)
exact PyProof.Rows.isub_int ⟨.int (i-j),H,I.tok _,⟨_,rfl⟩,q⟩)
end
section
variable{X:Cx}{pins:List (Addr×Obj)}{σ:St}{H:Hp}{s:Shared}{A:Around}{E:Value→Shared→Prop}{Q:Value→Shared→Prop}{c:Value}{b:Bool}
inductive TyOf(K:PySem.W.Frag)(H:Hp):V→Value→Prop where
|non:TyOf K H .non (.type "NoneType")
|bl (x:Bool):TyOf K H (.bl x) (.type "bool")
|int (i:Int):TyOf K H (.int i) (.type "int")
|str (x:Str):TyOf K H (.str x) (.type "str")
|flt (x:UInt64):TyOf K H (.flt x) (.type "float")
|lst {a:Addr} {xs:List V} (e:H a=some (.lst xs)):TyOf K H (.ref a) (.type "list")
|frz {a:Addr} {o:Obj} {xs:List V} (e:H a=some (.frz o (.lst xs))):TyOf K H (.ref a) (.type "list")
|tup {a:Addr} {xs:List V} (e:H a=some (.tup xs)):TyOf K H (.ref a) (.type "tuple")
|dK {a:Addr} {kvs:List (Key×V)} (e:H a=some (.dK kvs)):TyOf K H (.ref a) (.type "dict")
|dT {a:Addr} {kvs:List (List Key×V)} (e:H a=some (.dT kvs)):TyOf K H (.ref a) (.type "dict")
|ins {a C dx:Addr} {fs:List (Str×V)} (e:H a=some (.ins C dx fs)) (cl:Cls K C) (ha:PySem.W.findIn K (.ref C) "__class__"=some (some (.builtin "object.__class__")))
 (hn:PySem.W.specialIn K (.builtin "object.__class__") "__get__"=some (some (.builtin "getset_descriptor.__get__"))) (htk:PySem.W.takesIn K (.builtin "object.__class__")=some true)
 (hm:PySem.W.mroIn K C (.type "object")=some true):TyOf K H (.ref a) (.ref C)
theorem qCQ{x:V}{u t:Value}(I:Inv X pins σ H s)(rx:RelV x u)(ty:TyOf X.K H x t)(e:PySem.W.kitOne X.K t c=some b)(h:∀tk,Q (.bool b) { s with toks:=tk }):
 wpAny (model X.prog X.w) A (call (.builtin "isinstance") [u,c]) Q E s:=by(
cases ty with
|non=>cases(show u=Value.none from rx);exact gS PySem.W.kitx_none I.kIn True.intro e (λz=>nomatch z) h
|bl y=>cases(show u=Value.bool y from rx);exact gS PySem.W.kitx_bool I.kIn True.intro e (λz=>nomatch z) h
|int i=>obtain⟨t,q⟩:=(show ∃t,u=Value.int i t from rx);cases q;exact gS PySem.W.kitx_int I.kIn True.intro e (λz=>nomatch z) h
|str y=>obtain⟨t,q⟩:=(show ∃t,u=Value.str y t from rx);cases q;exact gS PySem.W.kitx_str I.kIn True.intro e (λz=>nomatch z) h
|flt y=>obtain⟨t,q⟩:=(show ∃t,u=Value.float y t from rx);cases q;exact gS PySem.W.kitx_float I.kIn True.intro e (λz=>nomatch z) h
|@lst a xs ea=>cases(show u=Value.ref a from rx);obtain⟨_,_,n,_,h1⟩:=(show jU X.prog X.w H s.heap a (.lst xs)from I.hok a _ ea);exact gS lR I.kIn ⟨_,h1,rfl⟩ e (λz=>nomatch z) h
|@frz a ob xs ea=>cases(show u=Value.ref a from rx);obtain⟨_,_,_,n,_,h1⟩:=(show jU X.prog X.w H s.heap a (.frz ob (.lst xs))from I.hok a _ ea);exact gS lR I.kIn ⟨_,h1,rfl⟩ e (λz=>nomatch z) h
|@tup a xs ea=>cases(show u=Value.ref a from rx);obtain⟨_,_,_,p⟩:=(show jU X.prog X.w H s.heap a (.tup xs)from I.hok a _ ea);obtain⟨o,h1,h2,_⟩:=p;exact gS PySem.W.kitx_tuple I.kIn ⟨o,h1,h2⟩ e (λz=>nomatch z) h
|@dK a kvs ea=>cases(show u=Value.ref a from rx);obtain⟨_,_,vs,_,p⟩:=(show jU X.prog X.w H s.heap a (.dK kvs)from I.hok a _ ea);obtain⟨o,es,ep,h1,h2,_⟩:=p;exact gS lT I.kIn ⟨o,h1,h2.1⟩ e (λz=>nomatch z) h
|@dT a kvs ea=>cases(show u=Value.ref a from rx);obtain⟨_,_,xs,_,o,es,ep,h1,h2,_⟩:=(show jU X.prog X.w H s.heap a (.dT kvs)from I.hok a _ ea);exact gS lT I.kIn ⟨o,h1,h2.1⟩ e (λz=>nomatch z) h
|@ins a C dx fs ea cl ha hn htk hm=>cases(show u=Value.ref a from rx);obtain⟨mA,O,_⟩:=q5P I.hok ea;obtain⟨od,J,_⟩:=O.look;exact gS (PySem.W.kitx_own (cl.get _) cl.hd ha hn htk hm) I.kIn J e (λz=>nomatch z) h)
end
structure Room(k:Nat)(A:Around):Prop where
hd:A.handled=none
dp:A.depth+3*k+5<recursionLimit
un:A.units+16*k+200<cLine
theorem Room.mono{j k:Nat}{A:Around}(r:Room k A)(h:j≤k):Room j A:=⟨r.hd,by have:=r.dp;omega,by have:=r.un;omega⟩
theorem Room.deeper{k:Nat}{A:Around}(r:Room (k+1) A)(env:Env):Room k (A.deeper env):=⟨r.hd,by have:=r.dp;show A.depth+1+3*k+5< _;omega,by have:=r.un;show A.units+3+16*k+200< _;omega⟩
theorem Room.in1{k:Nat}{A:Around}(r:Room (k+1) A):Room k A.in1:=⟨r.hd,by have:=r.dp;show A.depth+3*k+5< _;omega,by have:=r.un;show A.units+1+16*k+200< _;omega⟩
theorem qAP{A:Around}{C:Addr}{us:List Value}{kw:List (Str×Value)}:(A.under (.builtin "type.__call__" ⟨.ref C::us,kw⟩)).depth=A.depth+1:=by first|rfl|simp[Around.under,Code.weight,Code.isCreation,Code.isGuard,Code.isCaller,Code.frames,Code.isFrame,guardIds]
theorem qAQ{A:Around}{C:Addr}{us:List Value}{kw:List (Str×Value)}:(A.under (.builtin "type.__call__" ⟨.ref C::us,kw⟩)).units=A.units+1:=by first|rfl|simp[Around.under,Code.cUnits,Code.frames,Code.isFrame]
theorem Room.make{k:Nat}{A:Around}(r:Room (k+1) A)(C:Addr)(us:List Value)(kw:List (Str×Value)):Room k (A.under (.builtin "type.__call__" ⟨.ref C::us,kw⟩)):=⟨r.hd,by have:=r.dp;rw[qAP];omega,by have:=r.un;rw[qAQ];omega⟩
theorem Room.depth{k:Nat}{A:Around}(r:Room k A):A.depth<recursionLimit:=by have:=r.dp;omega
theorem Room.units{k:Nat}{A:Around}(r:Room k A):A.units+64<cLine:=by have:=r.un;omega
noncomputable def tNil:TA:=λ_ H Q=>Q [] H
noncomputable def q62(ta:TE)(tr:TA):TA:=λσ H Q=>ta σ H λx H1=>tr σ H1 λxs H2=>Q (x::xs) H2
section
variable{X:Cx}{e:Expr}{es:List Expr}{te:TE}{t:TA}{pos:Pos}
theorem qE:PA X [] tNil:=λ_ _ _ _ H Q I h=>wY ⟨[],H,I,.nil,h⟩
theorem qA(ha:PE X e te)(hr:PA X es t)(hs:starEach (e::es) X.env=(false,eval e X.env)::starEach es X.env:=by rfl):PA X (e::es) (q62 te t):=by(
intro pos pins s σ H Q I h
rw[hs]
show wpAny _ _ (spliced ((false,eval e X.env)::backTo pos (starEach es X.env))) _ _ s
refine rY (thn (ha pins s σ H _ I h) λu s1 hZ=>?_)
obtain⟨x,H1,I1,r1,q1⟩:=hZ
exact thn (hr pos pins s1 σ H1 _ I1 q1) λus s2 ⟨xs,H2,I2,r2,q2⟩=>⟨x::xs,H2,I2,.cons r1 r2,q2⟩)
end
noncomputable abbrev Sp:=List V→Hp→VK→XK→Prop
noncomputable abbrev CXT:=List Env→Hp→Shared→XK→Value→Shared→Prop
structure Env0(P:Program)(w:World)(K:PySem.W.Frag)(mg:Str→Option Value)(base:Heap)(A:Around)(outer:List Env)(s:Shared)(H:Hp):Prop where
frames:A.frames=some outer
mod:Mod K mg base
bs:∀b o,base.get? b=some o→s.heap.get? b=some o∧H b=none
bsz:base.objs.size≤s.heap.objs.size
funs:s.heap.FunFrames base outer
frf:∀b∈frs outer,H b=none
hok:HOk P w H s.heap
bare:AllBare s.gens
noncomputable def CE(outer:List Env)(P:Program)(w:World)(H:Hp)(s:Shared)(Q:VK)(u:Value)(s':Shared):Prop:=∃v H',s'.os=s.os∧AllBare s'.gens∧Un (frs outer) [] H H' s.heap s'.heap∧HOk P w H' s'.heap∧RelV v u∧Q v H'
noncomputable def CR(CX:CXT)(outer:List Env)(P:Program)(w:World)(H:Hp)(s:Shared)(Q:VK)(E:XK)(r:Result)(s':Shared):Prop:=match r with
| .ok (.ret u)=>CE outer P w H s Q u s'
| .ok _=>False
| .error e=>CX outer H s E e s'
structure FnOk(P:Program)(w:World)(K:PySem.W.Frag)(mg:Str→Option Value)(base:Heap)(CX:CXT)(k:Nat)(f:Addr)(fd:FuncData)(ps:List Str)(sp:Sp):Prop where
len:∀vs H Q E,sp vs H Q E→vs.length=ps.length
run:∀(A:Around) (outer:List Env) (s:Shared) (H:Hp) (args:Args) (us:List Value) (vs:List V) (Q:VK) (E:XK),Room k A→Env0 P w K mg base A outer s H→BindsTo s fd args (ps.zip us)→Vals vs us→sp vs H Q E→codeAny (model P w) A (.call (.ref f) args) (CR CX outer P w H s Q E) s
theorem FnOk.mono{P:Program}{w:World}{K:PySem.W.Frag}{mg:Str→Option Value}{base:Heap}{CX:CXT}{j k:Nat}{f:Addr}{fd:FuncData}{ps:List Str}{sp:Sp}(F:FnOk P w K mg base CX j f fd ps sp)(h:j≤k:=by decide):
 FnOk P w K mg base CX k f fd ps sp:=⟨F.len,λA outer s H args us vs Q E hr=>F.run A outer s H args us vs Q E (hr.mono h)⟩
theorem Env0.make{P:Program}{w:World}{K:PySem.W.Frag}{mg:Str→Option Value}{base:Heap}{A:Around}{outer:List Env}{s:Shared}{H:Hp}(e:Env0 P w K mg base A outer s H)(C:Addr)(us:List Value)(kw:List (Str×Value)):
 Env0 P w K mg base (A.under (.builtin "type.__call__" ⟨.ref C::us,kw⟩)) outer s H:=⟨by first|exact e.frames|(simpa[Around.under,Code.envs,Code.isFrame,pushEnvs]using e.frames),e.mod,e.bs,e.bsz,e.funs,e.frf,e.hok,e.bare⟩
section
variable{X:Cx}{pins:List (Addr×Obj)}{σ:St}{H:Hp}{s s':Shared}
theorem Inv.env0(I:Inv X pins σ H s):Env0 X.prog X.w X.K X.mg X.base X.A X.stack s H:=⟨I.ok.frames,I.ok.mod,I.bs,mJ I.ok.bsz I.sz,I.stack,I.stkFree,I.hok,I.bare⟩
theorem Inv.after{Q:VK}{u:Value}(I:Inv X pins σ H s)(h:CE X.stack X.prog X.w H s Q u s'):EP X pins σ Q u s':=by(
obtain⟨v,H',os,bare,un,hok,r,q⟩:=h
obtain⟨hh,g,d,t,os'⟩:=s'
obtain rfl:os'=s.os:=os
exact⟨v,H',I.call (h':=hh) (g':=g) (d':=d) (t':=t) (ch:=[]) un hok bare (λb z=>absurd z (by simp)),r,q⟩)
end
noncomputable def qGX(sp:Sp)(dvs:List V)(E:XK)(t:TA):TE:=λσ H Q=>t σ H λvs H1=>sp (vs++dvs) H1 Q E
noncomputable def qGY(C:Addr)(m:Str)(sp:Sp)(dvs:List V)(E:XK)(ta:TE)(t:TA):TE:=λσ H Q=>ta σ H λx H1=>∃a dx fs,x=.ref a∧H1 a=some (.ins C dx fs)∧fs.lookup m=none∧t σ H1 λvs H2=>sp (x::(vs++dvs)) H2 Q E
noncomputable def qJN(C:Addr)(sp:Sp)(dvs:List V)(E:XK)(t:TA):TE:=λσ H Q=>t σ H λvs H1=>∀x dx,H1 x=none→H1 dx=none→dx≠x→sp (.ref x::(vs++dvs)) (upd (upd H1 dx (.own x)) x (.ins C dx [])) (λv H2=>v=.non∧Q (.ref x) H2) E
noncomputable def yL(K:PySem.W.Frag)(fd:FuncData)(ps:List Str)(ds:List Value):Prop:=∀(s:Shared) (us:List Value),K.In s.heap→(us++ds).length=ps.length→BindsTo s fd ⟨us,[]⟩ (ps.zip (us++ds))
theorem yL.all{K:PySem.W.Frag}{fd:FuncData}{ps:List Str}(h:∀us:List Value,us.length=ps.length→bindArgs fd ⟨us,[]⟩=pure (ps.zip us)):yL K fd ps []:=λs us _ hl=>by rw[wC]at hl ⊢;exact .of_eq (h us hl)
noncomputable def q0B(CX:CXT)(X:Cx)(E:XK):Prop:=∀(pins:List (Addr×Obj)) (σ:St) (H:Hp) (s:Shared) (e:Value) (s':Shared),Inv X pins σ H s→CX X.stack H s E e s'→X.xe e s'
section
variable{X:Cx}{CX:CXT}{k:Nat}{f C:Addr}{fd:FuncData}{ps:List Str}{sp:Sp}{dvs:List V}{ds:List Value}{E:XK}{x m:Str}{p pos apos:Pos}{e o:Expr}{es:List Expr}{ta:TE}{t:TA}
theorem qAR{pins:List (Addr×Obj)}{σ:St}{H:Hp}{s:Shared}{Q:VK}{us:List Value}{vs:List V}(F:FnOk X.prog X.w X.K X.mg X.base CX k f fd ps sp)(hr:Room k X.A)(hb:yL X.K fd ps ds)(hd:Vals dvs ds)(hx:q0B CX X E)
 (I:Inv X pins σ H s) (r:Vals vs us) (h:sp (vs++dvs) H Q E):wpAny (model X.prog X.w) X.A (call (.ref f) us) (EP X pins σ Q) X.xe s:=by(
have r2:Vals (vs++dvs) (us++ds):=r.append hd
have hl:(us++ds).length=ps.length:=by rw[←r2.length];exact F.len _ _ _ _ h
refine wH (dS (F.run X.A X.stack s H ⟨us,[]⟩ (us++ds) (vs++dvs) Q E hr I.env0 (hb s us I.kIn hl) r2 h) λr s' hq=>?_)
cases r with
|error e=>exact hx pins σ H s e s' I hq
|ok fl=>
 cases fl with
 |ret u=>exact I.after hq
 |next=>exact False.elim hq
 |brk=>exact False.elim hq
 |cont=>exact False.elim hq)
theorem qX(F:FnOk X.prog X.w X.K X.mg X.base CX k f fd ps sp)(hr:Room k X.A)(hg:Gl X x)(hm:X.mg x=some (.ref f))(hk:PySem.W.keepIn X.K (.ref f)=true)(hb:yL X.K fd ps ds)(hd:Vals dvs ds)(hx:q0B CX X E)
 (ha:PA X (e::es) t) (hdb:(x==("__debug__":Str))=false:=by decide) (he:starEach (e::es) X.env=(false,eval e X.env)::starEach es X.env:=by rfl) (hpl:(backTo pos (starEach es X.env)).any (·.1)=false:=by rfl):
 PE X (.Call (.Name x p) (e::es) [] pos) (qGX sp dvs E t):=by(
intro pins s σ H Q I h
refine rA (q3M I hg hm ?_ hdb)
refine rB (h₀:=X.base) I.ok.mod.kin hk (thn (ha pos pins s σ H _ I h) λus s1 ⟨vs,H1,I1,r,q⟩=>⟨I1.kIn,?_⟩) he hpl
exact qAR F hr hb hd hx I1 r q)
theorem yO{pl:Sem Bool}(he:PE X o ta)(c:Cls X.K C)(hm:Meth X.K C m f)(F:FnOk X.prog X.w X.K X.mg X.base CX k f fd ps sp)(hr:Room k X.A)(hb:yL X.K fd ps ds)(hd:Vals dvs ds)(hx:q0B CX X E)(ha:PA X (e::es) t)
 (hst:starEach (e::es) X.env=(false,eval e X.env)::starEach es X.env:=by rfl) (hpl:(backTo pos (starEach es X.env)).any (·.1)=false:=by rfl)
 (ht:eval (.Call (.Attribute o m apos) (e::es) [] pos) X.env=(do
  let ov←eval o X.env
  standAt apos.atName
  let(f,first)←holding [ov] (getMethod ov m pl)
  callWith pos f first (backTo pos (starEach (e::es) X.env)) (backToKw pos (keywordEach [] X.env))):=by rfl):
 PE X (.Call (.Attribute o m apos) (e::es) [] pos) (qGY C m sp dvs E ta t):=by(
intro pins s σ H Q I h
refine rE (pl:=pl) (thn (he pins s σ H _ I h) λu s1 hZ=>?_) ht
obtain⟨x,H1,I1,rx,a,dx,fs,ex,ea,l,q⟩:=hZ
subst ex
obtain rfl:u=Value.ref a:=rx
refine zQ I1 ea c hm l ?_
refine rB (first:=[.ref a]) (h₀:=X.base) I.ok.mod.kin hm.kp (thn (ha pos pins s1 σ H1 _ I1 q) λus s2 ⟨vs,H2,I2,r,q2⟩=>⟨I2.kIn,?_⟩) hst hpl
exact qAR (us:=.ref a::us) (vs:=.ref a::vs) F hr hb hd hx I2 (.cons rfl r) q2)
theorem jL{pl:Sem Bool}(he:PE X o ta)(c:Cls X.K C)(hm:Meth X.K C m f)(F:FnOk X.prog X.w X.K X.mg X.base CX k f fd ps sp)(hr:Room k X.A)(hb:yL X.K fd ps ds)(hd:Vals dvs ds)(hx:q0B CX X E)
 (ht:eval (.Call (.Attribute o m apos) [] [] pos) X.env=(do
  let ov←eval o X.env
  standAt apos.atName
  let(f,first)←holding [ov] (getMethod ov m pl)
  callWith pos f first (backTo pos (starEach [] X.env)) (backToKw pos (keywordEach [] X.env))):=by rfl):
 PE X (.Call (.Attribute o m apos) [] [] pos) (qGY C m sp dvs E ta tNil):=by(
intro pins s σ H Q I h
refine rE (pl:=pl) (thn (he pins s σ H _ I h) λu s1 hZ=>?_) ht
obtain⟨x,H1,I1,rx,a,dx,fs,ex,ea,l,q⟩:=hZ
subst ex
obtain rfl:u=Value.ref a:=rx
refine zQ I1 ea c hm l ?_
exact nR (first:=[.ref a]) I1.kIn hm.kp (qAR (us:=[.ref a]) (vs:=[.ref a]) F hr hb hd hx I1 (.cons rfl .nil) q))
structure Mk(K:PySem.W.Frag)(C f:Addr):Prop where
makes:PySem.W.makesIn K C=true
init:PySem.W.findIn K (.ref C) "__init__"=some (some (.ref f))
fn:PySem.W.isFn K (.ref f)=true
kp:PySem.W.keepIn K (.ref C)=true
theorem qDQ{pins:List (Addr×Obj)}{σ:St}{H:Hp}{s:Shared}{Q:VK}{us:List Value}{vs:List V}(M:Mk X.K C f)(F:FnOk X.prog X.w X.K X.mg X.base CX k f fd ps sp)(hr:Room (k+1) X.A)(hb:yL X.K fd ps ds)(hd:Vals dvs ds)
 (hx:q0B CX X E) (I:Inv X pins σ H s) (r:Vals vs us)
 (h:∀x dx,H x=none→H dx=none→dx≠x→sp (.ref x::(vs++dvs)) (upd (upd H dx (.own x)) x (.ins C dx [])) (λv H2=>v=.non∧Q (.ref x) H2) E):
 wpAny (model X.prog X.w) X.A (call (.ref C) us) (EP X pins σ Q) X.xe s:=by(
have hq:=h (s.heap.objs.size+1) s.heap.objs.size (I.hok.fresh (d7 _)) (I.hok.fresh (kH _)) (mD (wL _))
have I2:=Inv.made (C:=C) I
have r2:Vals (V.ref (s.heap.objs.size+1)::(vs++dvs)) (Value.ref (s.heap.objs.size+1)::(us++ds)):=.cons rfl (r.append hd)
have hl:(Value.ref (s.heap.objs.size+1)::us++ds).length=ps.length:=by have e:=r2.length;rw[F.len _ _ _ _ hq]at e;exact e.symm
refine wH (qDP (f:=f) I.kIn M.makes M.init (rX.mp M.fn) (dS (F.run _ X.stack _ _ ⟨Value.ref (s.heap.objs.size+1)::us,[]⟩ (Value.ref (s.heap.objs.size+1)::(us++ds)) _ _ E (hr.make C us [])
 (I2.env0.make C us []) (hb _ (Value.ref (s.heap.objs.size+1)::us) I2.kIn hl) r2 hq) λr s' hq'=>?_))
cases r with
|error e=>exact hx pins σ _ _ e s' I2 hq'
|ok fl=>
 cases fl with
 |ret u=>obtain⟨v,H',I3,rv,ev,q3⟩:=I2.after hq';subst ev;exact⟨rv,⟨V.ref (s.heap.objs.size+1),H',I3,rfl,q3⟩⟩
 |next=>exact False.elim hq'
 |brk=>exact False.elim hq'
 |cont=>exact False.elim hq')
theorem q3O(M:Mk X.K C f)(F:FnOk X.prog X.w X.K X.mg X.base CX k f fd ps sp)(hr:Room (k+1) X.A)(hg:Gl X x)(hm:X.mg x=some (.ref C))(hb:yL X.K fd ps ds)(hd:Vals dvs ds)(hx:q0B CX X E)
 (ha:PA X (e::es) t) (hdb:(x==("__debug__":Str))=false:=by decide) (he:starEach (e::es) X.env=(false,eval e X.env)::starEach es X.env:=by rfl) (hpl:(backTo pos (starEach es X.env)).any (·.1)=false:=by rfl):
 PE X (.Call (.Name x p) (e::es) [] pos) (qJN C sp dvs E t):=by(
intro pins s σ H Q I h
refine rA (q3M I hg hm ?_ hdb)
refine rB (h₀:=X.base) I.ok.mod.kin M.kp (thn (ha pos pins s σ H _ I h) λus s1 ⟨vs,H1,I1,r,q⟩=>⟨I1.kIn,?_⟩) he hpl
exact qDQ M F hr hb hd hx I1 r q)
end
noncomputable def PK(X:Cx)(kws:List Keyword)(t:TA):Prop:=∀(pos:Pos) (pins:List (Addr×Obj)) (s:Shared) (σ:St) (H:Hp) (Q:List V→Hp→Prop),Inv X pins σ H s→t σ H Q→wpAny (model X.prog X.w) X.A (evalAll ((backToKw pos (keywordEach kws X.env)).map (·.2))) (AP X pins σ Q) X.xe s
section
variable{X:Cx}{CX:CXT}{k:Nat}{f C:Addr}{fd:FuncData}{ps ks:List Str}{sp:Sp}{E:XK}{x m:Str}{p pos apos kpos:Pos}{e o:Expr}{es:List Expr}{kws:List Keyword}{te ta:TE}{t tk:TA}{nm:Option Str}
theorem qHH:PK X [] tNil:=λ_ _ _ _ H Q I h=>wpAny_evalAll_nil ⟨[],H,I,.nil,h⟩
theorem qFK(ha:PE X e te)(hr:PK X kws t):PK X (⟨nm,e,kpos⟩::kws) (q62 te t):=by(
intro pos pins s σ H Q I h
show wpAny _ _ (evalAll ((do let v←eval e X.env;standAt pos;pure v)::(backToKw pos (keywordEach kws X.env)).map (·.2))) _ _ s
refine wpAny_evalAll_cons (kD (thn (ha pins s σ H _ I h) λu s1 ⟨x,H1,I1,r1,q1⟩=>kD (cJ (kZ ?_))))
exact thn (hr pos pins s1 σ H1 _ I1 q1) λus s2 ⟨xs,H2,I2,r2,q2⟩=>⟨x::xs,H2,I2,.cons r1 r2,q2⟩)
variable{g:List Value→List Value→List Value}{gV:List V→List V→List V}
end
structure FnScope(N P:List Str)(sc:Scope):Prop where
kind:sc.kind=.function
co:sc.isCoroutine=false
gen:sc.isGenerator=false
nd:N.Nodup
pre:N.take P.length=P
par:∀x∈P,sc.names.lookup x=some .local∨sc.names.lookup x=some .cell
nofree:∀y∈sc.names,y.2≠ .free
theorem q7O{kindOf:Str→Option NameKind}{x:Str}:∀{binds:List (Str×Value)} {m:Str→Option Value},(∀v,(x,v)∉binds)→bindL kindOf binds m x=m x
| [],_,_=>rfl
|(n,v)::r,m,h=>by
 unfold bindL;rw[q7O λw hw=>h w (kF _ hw)];split
 ·have:x≠n:=by rintro rfl;exact h v kO
  simp[this]
 rfl
theorem q7P{kindOf:Str→Option NameKind}{x:Str}:∀{binds:List (Str×Value)} {m:Str→Option Value},(∀v,(x,v)∉binds)→bindC kindOf binds m x=m x
| [],_,_=>rfl
|(n,v)::r,m,h=>by
 unfold bindC;rw[q7P λw hw=>h w (kF _ hw)];split
 ·rfl
 have:x≠n:=by rintro rfl;exact h v kO
 simp[this]
theorem q7Q{kindOf:Str→Option NameKind}{x:Str}{v:Value}:∀{P:List Str} {vs:List Value} {i:Nat} {m:Str→Option Value},P.Nodup→P[i]?=some x→vs[i]?=some v→kindOf x=some .local→bindL kindOf (P.zip vs) m x=some v
| [],_,_,_,_,h,_,_=>by simp at h
|_::_,[],_,_,_,_,h,_=>by simp at h
|p::P,w::vs,0,m,nd,h1,h2,hk=>by simp at h1 h2;subst h1;subst h2;show bindL kindOf ((p,w)::P.zip vs) m p=_;unfold bindL;rw[q7O λv hv=>(gL.mp nd).1 (cR hv).1,kG hk];simp
|p::P,w::vs,i+1,m,nd,h1,h2,hk=>by show bindL kindOf ((p,w)::P.zip vs) m x=_;unfold bindL;exact q7Q (i:=i) (gL.mp nd).2 (by simpa using h1) (by simpa using h2) hk
theorem q7R{kindOf:Str→Option NameKind}{x:Str}{v:Value}:∀{P:List Str} {vs:List Value} {i:Nat} {m:Str→Option Value},P.Nodup→P[i]?=some x→vs[i]?=some v→kindOf x≠some .local→bindC kindOf (P.zip vs) m x=some v
| [],_,_,_,_,h,_,_=>by simp at h
|_::_,[],_,_,_,_,h,_=>by simp at h
|p::P,w::vs,0,m,nd,h1,h2,hk=>by simp at h1 h2;subst h1;subst h2;show bindC kindOf ((p,w)::P.zip vs) m p=_;unfold bindC;rw[q7P λv hv=>(gL.mp nd).1 (cR hv).1,kE hk];simp
|p::P,w::vs,i+1,m,nd,h1,h2,hk=>by show bindC kindOf ((p,w)::P.zip vs) m x=_;unfold bindC;exact q7R (i:=i) (gL.mp nd).2 (by simpa using h1) (by simpa using h2) hk
noncomputable def zR(N:List Str)(vs:List V):St:=vs.map some++List.replicate (N.length-vs.length) none
noncomputable def cxOf(CX:CXT)(P:Program)(w:World)(K:PySem.W.Frag)(mg:Str→Option Value)(base:Heap)(N:List Str)(qual:Str)(scope:Scope)(f:Addr)(cd:Value)(A:Around)(outer:List Env)(s:Shared)(H:Hp)(E:XK):Cx where
prog:=P
w:=w
K:=K
mg:=mg
base:=base
A:=A.deeper (envOfC qual scope s.heap.objs.size f cd)
N:=N
s₀:=s
H₀:=H
env:=envOfC qual scope s.heap.objs.size f cd
outer:=outer
stack:=envOfC qual scope s.heap.objs.size f cd::outer
ex:=[]
calm:=true
fn:=λ_=>true
pn:=[]
xe:=λe s'=>wpAny (model P w) (A.deeper (envOfC qual scope s.heap.objs.size f cd)) (leaving (envOfC qual scope s.heap.objs.size f cd) e) (λ_ s''=>CX outer H s E e s'') (λe' s''=>CX outer H s E e' s'') s'
theorem q9K{sc:Scope}{n:Nat}{x:Str}(h:sc.names.lookup x=some .cell):∃c,(cellsFrom n sc.names []).lookup x=some c:=by have q:=wZ sc.names n [] (.inl h);exact wN.mp q
theorem q7S{CX:CXT}{P:Program}{w:World}{K:PySem.W.Frag}{mg:Str→Option Value}{base:Heap}{N ps:List Str}{qual:Str}{scope:Scope}{f:Addr}{cd:Value}{A:Around}{outer:List Env}{s s1:Shared}{H:Hp}{E:XK}{us:List Value}{vs:List V}
 (S:FnScope N ps scope) (hd:A.handled=none) (e0:Env0 P w K mg base A outer s H) (hl:vs.length=ps.length) (r:Vals vs us)
 (x:InCallC s s.heap.objs.size (bindL (envOfC qual scope s.heap.objs.size f cd).kindOf (ps.zip us) λ_=>none) (cellsFrom (s.heap.objs.size+1) scope.names []) (bindC (envOfC qual scope s.heap.objs.size f cd).kindOf (ps.zip us) λ_=>none) s1):
 Inv (cxOf CX P w K mg base N qual scope f cd A outer s H E) [] (zR N vs) H s1:=by(
have hpl:ps.length≤N.length:=by have:=rL List.length S.pre;rw[m9]at this;omega
obtain⟨h1,tk,rfl,hk⟩:=x.done
have noA:∀b:Addr,b∉(cxOf CX P w K mg base N qual scope f cd A outer s H E).ex:=λb z=>absurd (show b∈([]:List Addr)from z) (by simp)
refine⟨⟨e0.mod,S.kind,rfl,rfl,kH _,λy z c h1 h2=>?_,λy hy=>?_,λy c _ h=>?_,λ_=>hd,sX e0.frames,.inr ⟨rfl,rfl⟩,λb z=>absurd z (noA b),e0.bs,e0.bsz,λb _ _=>noA b,λb z=>absurd z (noA b),e0.funs,e0.frf⟩,rfl,e0.bare,Un.kept hk,⟨_,x.toInCall.ns,λi y v h1 h2 h3=>?_⟩,λy c h=>⟨_,x.cell y c h⟩,e0.hok.fresh (kH _),λy c h=>?_,λp hp=>absurd (show p∈([]:List (Addr×Obj))from hp) (by simp),e0.hok.kept hk,?_⟩
·exact name_of_addr x.apart (gK h1) (gK h2)
·have hy:scope.names.lookup y=some .cell∨scope.names.lookup y=some .free:=hy;rcases hy with hy|hy
 ·exact q9K hy
 exact absurd rfl (S.nofree _ (gK hy))
·exact cX (x.above y c (gK h))
·have hi:i<vs.length:=by
  unfold zR at h2;by_cases hi:i<vs.length
  ·exact hi
  rw[gO (by simpa using hi)]at h2;rw[dB]at h2;split at h2<;>cases h2
 have ha:vs[i]?=some v:=by
  unfold zR at h2;rw[rH (by simpa using hi),kX]at h2;cases e:vs[i]? with
  |none=>rw[e]at h2;cases h2
  |some a=>rw[e]at h2;cases h2;rfl
 obtain⟨u,hu,rv⟩:=r.get ha;have hp:ps[i]?=some y:=by rw[←S.pre,List.getElem?_take_of_lt (by omega)];exact h1
 have ndP:ps.Nodup:=by rw[←S.pre];exact S.nd.sublist (List.take_sublist _ _)
 refine⟨u,rv,?_⟩;rcases S.par y (mT hp)with k|k
 ·exact .inl ⟨k,q7Q ndP hp hu k⟩
 obtain⟨c,e⟩:=q9K (n:=s.heap.objs.size+1) k;refine .inr ⟨.inl k,c,e,?_⟩;have q:=x.cell y c e;rw[q7R ndP hp hu (by show scope.names.lookup y≠_;rw[k];decide)]at q;exact q
·exact e0.hok.fresh (cX (x.above y c (gK h)))
unfold zR
show _=N.length
rw[mL,hU,gI]
omega)
theorem qDR{CX:CXT}{P:Program}{w:World}{K:PySem.W.Frag}{mg:Str→Option Value}{base:Heap}{k:Nat}{f:Addr}{name qual:Str}{params:Arguments}{body:List Stmt}{scope:Scope}{dV kV doc pm cdv ct oc:Value}{an od:Option Addr}
 {osl:Array (Option Value)} {N ps:List Str} {sp:Sp} (lk:K.lookup f=some ⟨oc,od,.func (PySem.W.fnOf name qual params body scope dV kV doc pm an cdv ct),osl⟩) (hcd:PySem.W.codeIn K cdv qual=true) (S:FnScope N ps scope)
 (len:∀vs H Q E,sp vs H Q E→vs.length=ps.length)
 (hbody:∀(A:Around) (outer:List Env) (s:Shared) (H:Hp) (vs:List V) (Q:VK) (E:XK),Room k (A.deeper (envOfC qual scope s.heap.objs.size f cdv))→sp vs H Q E→∃t,PSs (cxOf CX P w K mg base N qual scope f cdv A outer s H E) body t∧t { nx:=λ_ H'=>Q .non H',rt:=Q } (zR N vs) H):
 FnOk P w K mg base CX (k+1) f (PySem.W.fnOf name qual params body scope dV kV doc pm an cdv ct) ps sp:=by(
refine⟨len,λA outer s H args us vs Q E hr e0 hb r hsp=>?_⟩
have hl:=len _ _ _ _ hsp
have KX:K.In s.heap:=e0.mod.kin.keeps λb o e=>(e0.bs b o e).1
have lim:s.heap.NoLimit:=e0.mod.nolimit.keeps λb o e=>(e0.bs b o e).1
have hkind:∀y∈ps.zip us,scope.names.lookup y.1=some .local∨(scope.names.lookup y.1=some .cell∧((cellsFrom (s.heap.objs.size+1) scope.names []).lookup y.1).isSome=true):=λ⟨n,v⟩ hy=>by
 rcases S.par n (cR hy).1 with q|q
 ·exact .inl q
 exact .inr ⟨q,wZ _ _ _ (.inl q)⟩
refine sO hr.depth (KX _ _ lk) rfl S.co S.gen rfl (lM KX hcd) (hb _ _ _ _ ?_)
refine pB S.kind hkind λenv he s1 x=>?_
subst he
refine⟨lim.keeps x.toInCall.keep,codeAny_func ?_⟩
obtain⟨t,ht,hq⟩:=hbody A outer s H vs Q E (hr.deeper _) hsp
have I:Inv (cxOf CX P w K mg base N qual scope f cdv A outer s H E) [] (zR N vs) H s1:=q7S S hr.hd e0 hl r x
refine gN (ht [] s1 (zR N vs) H _ I hq) (λfl s' hs=>?_) λe s' hs=>hs
have fin:∀{σ':St} {H':Hp} {v:V} {u:Value},Inv (cxOf CX P w K mg base N qual scope f cdv A outer s H E) [] σ' H' s'→RelV v u→Q v H'→CE outer P w H s Q u s':=fun {σ' H' v u} J rv q=>⟨v,H',J.os,J.bare,J.base,J.hok,rv,q⟩
cases fl with
|ret u=>obtain⟨v,σ',H',J,rv,q⟩:=hs;exact fin J rv q
|next=>obtain⟨σ',H',J,q⟩:=hs;exact fin (v:=V.non) (u:=Value.none) J rfl q
|brk=>obtain⟨_,_,_,q⟩:=hs;exact False.elim q
|cont=>obtain⟨_,_,_,q⟩:=hs;exact False.elim q)
section
variable{X:Cx}{x:Str}{p pos:Pos}{e:Expr}{es:List Expr}{t:TA}{id T:String}{r:List V→Hp→VK→Prop}
noncomputable def tCB(r:List V→Hp→VK→Prop)(t:TA):TE:=λσ H Q=>t σ H λvs H1=>r vs H1 Q
theorem qS(hc:zC X (.builtin id) r)(hg:Gl X x)(hm:X.mg x=none)(hv:bootBuiltins x=some (.builtin id))(ha:PA X (e::es) t)(hn:x≠"__name__":=by decide)(hdb:(x==("__debug__":Str))=false:=by decide)
 (he:starEach (e::es) X.env=(false,eval e X.env)::starEach es X.env:=by rfl) (hpl:(backTo pos (starEach es X.env)).any (·.1)=false:=by rfl):PE X (.Call (.Name x p) (e::es) [] pos) (tCB r t):=by intro pins s σ H Q I h;refine rA (q5X I hg hm hv ?_ hn hdb);exact PyProof.Rows.callWith_builtin1 (thn (ha pos pins s σ H _ I h) λus s1 ⟨vs,H1,I1,r1,q1⟩=>hc pins s1 σ H1 vs us Q I1 r1 q1) he hpl
theorem vD(hc:zC X (.type T) r)(hg:Gl X x)(hm:X.mg x=none)(hv:bootBuiltins x=some (.type T))(ha:PA X (e::es) t)(hn:x≠"__name__":=by decide)(hdb:(x==("__debug__":Str))=false:=by decide)
 (he:starEach (e::es) X.env=(false,eval e X.env)::starEach es X.env:=by rfl) (hpl:(backTo pos (starEach es X.env)).any (·.1)=false:=by rfl):PE X (.Call (.Name x p) (e::es) [] pos) (tCB r t):=by intro pins s σ H Q I h;refine rA (q5X I hg hm hv ?_ hn hdb);exact cY (thn (ha pos pins s σ H _ I h) λus s1 ⟨vs,H1,I1,r1,q1⟩=>hc pins s1 σ H1 vs us Q I1 r1 q1) he hpl
end
end L2
namespace HT
open PySem PyProof.Rows
section
variable{prog:Program}{w:World}{A:Around}{E:Value→Shared→Prop}{s:Shared}
noncomputable def sIx(n d:Nat):Option Int→Nat
|none=>d
|some v=>if v<0 then(v+(n:Int)).toNat else min v.toNat n
end
end HT
namespace L2
open PySem PySem.Spec PyProof.Rows
noncomputable abbrev TO:=St→Hp→(Option Int→Hp→Prop)→Prop
noncomputable def PO(X:Cx)(e:Option Expr)(t:TO):Prop:=∀(pins:List (Addr×Obj)) (s:Shared) (σ:St) (H:Hp) (Q:Option Int→Hp→Prop),Inv X pins σ H s→t σ H Q→wpAny (model X.prog X.w) X.A (evalPart e X.env) (λu s'=>∃o H',Inv X pins σ H' s'∧IsPart u o∧Q o H') X.xe s
noncomputable def qFL:TO:=λ_ H Q=>Q none H
noncomputable def qJO(t:TE):TO:=λσ H Q=>t σ H λx H1=>∃i,x=.int i∧Q (some i) H1
section
variable{X:Cx}{e:Expr}{te:TE}{lo hi:Option Expr}{tl th:TO}{pos p2:Pos}
theorem q8C:PO X none qFL:=by intro pins s σ H Q I h;rw[evalPart_none];exact kZ ⟨none,H,I,.none,h⟩
theorem q3P(h:PE X e te):PO X (some e) (qJO te):=by(
intro pins s σ H Q I hw
rw[evalPart_some]
refine thn (h pins s σ H _ I hw) λu s1 hZ=>?_
obtain⟨x,H1,I1,r1,q1⟩:=hZ
obtain⟨i,rfl,q⟩:=q1
obtain⟨t,rfl⟩:=r1
exact⟨some i,H1,I1,.int i t,q⟩)
noncomputable def SlR(X:Cx)(r:V→Option Int→Option Int→Hp→VK→Prop):Prop:=∀(pins:List (Addr×Obj)) (s:Shared) (σ:St) (H:Hp) (x:V) (v vl vu:Value) (lo hi:Option Int) (sl:Addr) (Q:VK),Inv X pins σ H s→RelV x v→s.heap.IsSliceOf sl vl vu .none→IsPart vl lo→IsPart vu hi→r x lo hi H Q→∃T id,typeLookup (.type T) "__getitem__"=pure (some (.builtin id))∧s.TypeIs v T∧wpAny (model X.prog X.w) X.A (getItem v (.ref sl)) (EP X pins σ Q) X.xe s
noncomputable def tSl(r:V→Option Int→Option Int→Hp→VK→Prop)(te:TE)(tl th:TO):TE:=λσ H Q=>te σ H λx H1=>tl σ H1 λl H2=>th σ H2 λu H3=>r x l u H3 Q
theorem q3Q{r:V→Option Int→Option Int→Hp→VK→Prop}(hr:SlR X r)(he:PE X e te)(hl:PO X lo tl)(hu:PO X hi th):PE X (.Subscript e (.Slice lo hi none p2) pos) (tSl r te tl th):=by(
intro pins s σ H Q I h
refine xR (thn (he pins s σ H _ I h) λv s1 hZ=>?_)
obtain⟨x,H1,I1,r1,q1⟩:=hZ
refine wpAny_Slice (thn (hl pins s1 σ H1 _ I1 q1) λvl s2 ⟨l,H2,I2,pl,q2⟩=>thn (hu pins s2 σ H2 _ I2 q2) λvu s3 hZ=>?_)
obtain⟨u,H3,I3,pu,q3⟩:=hZ
rw[evalPart_none]
refine kZ ?_
have I4:Inv X pins σ H3 { s3 with heap:=s3.heap.push { cls:=.type "slice",data:=.fields #[vl,vu,.none] } }:=I3.kept (t':=s3.toks) λb ob q=>hX _ q
obtain⟨T,id,hT,ht,hg⟩:=hr pins { s3 with heap:=s3.heap.push { cls:=.type "slice",data:=.fields #[vl,vu,.none] } } σ H3 x v vl vu l u s3.heap.objs.size Q I4 r1 (aR ..) pl pu q3
show wpAny (model X.prog X.w) X.A (subscriptTail e (.Slice lo hi none p2) v (.ref s3.heap.objs.size)) (EP X pins σ Q) X.xe { s3 with heap:=s3.heap.push { cls:=.type "slice",data:=.fields #[vl,vu,.none] } }
exact tail_any (ops:=[.ref s3.heap.objs.size,v]) ht hT hg (by with_unfolding_all rfl))
noncomputable def cutV(xs:List V)(lo hi:Option Int):List V:=(xs.drop (HT.sIx xs.length 0 lo)).take (HT.sIx xs.length xs.length hi-HT.sIx xs.length 0 lo)
theorem q1H(xs:List V)(lo hi:Option Int):(cutV xs lo hi).length≤xs.length:=by unfold cutV;rw[m9,xE];omega
end
noncomputable def ixN(n:Nat)(i:Int):Option Nat:=if 0≤i then(if i<n then some i.toNat else none)else if-(n:Int)≤i then some (i+n).toNat else none
noncomputable def atI{α:Type}(xs:List α)(i:Int):Option α:=(ixN xs.length i).bind λj=>xs[j]?
theorem qBS{n:Nat}{i:Int}{j:Nat}(h:ixN n i=some j):seqIndex? i n=some j∧j<n∧-(n:Int)≤i∧i<n:=by(
unfold ixN at h
by_cases h0:0≤i
·rw[kG h0]at h;by_cases h1:i<n
 ·rw[kG h1]at h;have e:i.toNat=j:=kI h;exact⟨by rw[sY h0 h1,e],by omega,by omega,h1⟩
 rw[kE h1]at h;cases h
rw[kE h0]at h
by_cases h1:-(n:Int)≤i
·rw[kG h1]at h;have e:(i+n).toNat=j:=kI h;exact⟨by rw[pV (by omega) h1,e],by omega,h1,by omega⟩
rw[kE h1]at h;cases h)
theorem q5Q{α:Type}{xs:List α}{i:Int}{v:α}(h:atI xs i=some v):∃j,seqIndex? i xs.length=some j∧xs[j]?=some v∧j<xs.length∧-(xs.length:Int)≤i∧i<xs.length:=by(
unfold atI at h
cases e:ixN xs.length i with
|none=>rw[e]at h;cases h
|some j=>rw[e]at h;obtain⟨h1,h2,h3,h4⟩:=qBS e;exact⟨j,h1,h,h2,h3,h4⟩)
theorem uZ{α:Type}{xs:List α}{j:Nat}{v:α}(h:xs[j]?=some v):atI xs (j:Int)=some v:=by
 have hj:j<xs.length:=(hV.mp h).1;have e:ixN xs.length (j:Int)=some j:=by unfold ixN;rw[kG (by omega),kG (by omega)];simp
 unfold atI;rw[e];exact h
noncomputable def qBT(b:Expr):Prop:=∀o i,subscripted b false o i=operate [o,i] (getItem o i)
noncomputable def IxR(X:Cx)(r:R2):Prop:=∀(value slice:Expr) (pins:List (Addr×Obj)) (s:Shared) (σ:St) (H:Hp) (x y:V) (v u:Value) (Q:VK),Inv X pins σ H s→RelV x v→RelV y u→r x y H Q→subscripted slice false v u=operate [v,u] (getItem v u)→wpAny (model X.prog X.w) X.A (subscriptTail value slice v u) (EP X pins σ Q) X.xe s
noncomputable def MtR(X:Cx)(id:String)(r:V→List V→Hp→VK→Prop):Prop:=∀(pins:List (Addr×Obj)) (s:Shared) (σ:St) (H:Hp) (x:V) (xs:List V) (v:Value) (us:List Value) (Q:VK),Inv X pins σ H s→RelV x v→Vals xs us→r x xs H Q→wpAny (model X.prog X.w) X.A (call (.builtin id) (v::us)) (EP X pins σ Q) X.xe s
section
variable{X:Cx}{a b:Expr}{ta tb:TE}{pos:Pos}
theorem yF{r:R2}(hr:IxR X r)(ha:PE X a ta)(hb:PE X b tb)(hs:qBT b):PE X (.Subscript a b pos) (tOp r ta tb):=by intro pins s σ H Q I h;exact xR (binT ha hb I h λv u s2 x y H2 I2 rx ry q=>hr a b pins s2 σ H2 x y v u Q I2 rx ry q (hs _ _))
noncomputable def rIxL(K:PySem.W.Frag):R2:=λx y H Q=>∃p xs i v,x=.ref p∧y=.int i∧SqL K H p xs∧atI xs i=some v∧Q v H
noncomputable def rIxT(K:PySem.W.Frag):R2:=λx y H Q=>∃p xs i v,x=.ref p∧y=.int i∧SqT K H p xs∧atI xs i=some v∧Q v H
noncomputable def rIxS:R2:=λx y H Q=>∃z i c,x=.str z∧y=.int i∧z.length≤sizeLine∧atI z.cps.toList i=some c∧Q (.str ⟨#[c]⟩) H
theorem jN:IxR X (rIxL X.K):=by(
intro value slice pins s σ H x y v u Q I rx ry h hs
obtain⟨p,xs,i,z,rfl,rfl,hq,he,q⟩:=h
cases rx
obtain⟨t,rfl⟩:=ry
obtain⟨its,r,pl,hz⟩:=I.list hq
obtain⟨j,h1,h2,h3,h4,h5⟩:=q5Q he
obtain⟨w,ew,rw'⟩:=r.get h2
have hl:=r.length
have hn:=q31
have fin:EP X pins σ Q w s:=⟨z,H,I,rw',q⟩
by_cases h0:0≤i
·have hj:i.toNat=j:=by rw[sY h0 h5]at h1;exact kI h1
 exact item_listR pl.isList h0 (by omega) (by rw[hj];simpa using ew) fin hs
have hj:(i+(its.toArray.size:Int)).toNat=j:=by rw[pV (by omega) h4]at h1;rw[kY,←hl];exact kI h1
exact pW (x:=w) pl.isList.typeIs lU.lookup
 (pX (Q:=λr s'=>r=w∧EP X pins σ Q r s') pl.isList (by omega) (by rw[kY]<;>omega) (by omega) (by rw[hj];simpa using ew) ⟨rfl,fin⟩) hs)
theorem q1I:IxR X (rIxT X.K):=by(
intro value slice pins s σ H x y v u Q I rx ry h hs
obtain⟨p,xs,i,z,rfl,rfl,hq,he,q⟩:=h
cases rx
obtain⟨t,rfl⟩:=ry
obtain⟨its,r,pl,hz⟩:=I.tuple hq
obtain⟨j,h1,h2,h3,h4,h5⟩:=q5Q he
obtain⟨w,ew,rw'⟩:=r.get h2
have hl:=r.length
have hn:=q31
have fin:EP X pins σ Q w s:=⟨z,H,I,rw',q⟩
exact pW (x:=w) pl.typeIs slot_tuple_getitem.lookup
 (getItem_tuple (j:=j) (Q:=λr s'=>r=w∧EP X pins σ Q r s') pl (by omega) (by omega) (by rw[kY,←hl];exact h1) (by simpa using ew) ⟨rfl,fin⟩) hs)
theorem qHI:IxR X rIxS:=by(
intro value slice pins s σ H x y v u Q I rx ry h hs
obtain⟨z,i,c,rfl,rfl,hz,he,q⟩:=h
obtain⟨t,rfl⟩:=rx
obtain⟨t',rfl⟩:=ry
obtain⟨j,h1,h2,h3,h4,h5⟩:=q5Q he
have hl:z.cps.toList.length=z.length:=by simp[Str.length]
rw[hl]at h1 h4 h5
have hn:=q31
exact tail_any (xS s z t) slot_str_getitem.lookup (getItem_str (c:=c) (by have e1:decide (i < -(2 ^ 63:Int))=false:=hG (by omega);have e2:decide (i≥2 ^ 63)=false:=hG (by omega);rw[e1,e2,pM]) (by rw[h1];simpa using h2) ⟨.str ⟨#[c]⟩,H,I.tok _,⟨_,rfl⟩,q⟩) hs)
theorem qAS(its:List Value)(n j:Nat)(u:Value):Obj.mapSeq (·.setIfInBounds j u) { cls:=.type "list",data:=.seq its.toArray n } = { cls:=.type "list",data:=.seq (its.set j u).toArray n }:=by simp[Obj.mapSeq]
theorem Inv.lst{pins:List (Addr×Obj)}{σ:St}{H:Hp}{s:Shared}{p:Addr}{xs:List V}(I:Inv X pins σ H s)(h:H p=some (.lst xs)):
 ∃(its:List Value) (n:Nat),Vals xs its∧s.heap.get? p=some { cls:=.type "list",data:=.seq its.toArray n }∧xs.length≤sizeLine:=by obtain⟨z,its,n,r,e⟩:=I.hok p _ h;exact⟨its,n,r,e,z⟩
theorem Inv.lstUpd{pins:List (Addr×Obj)}{σ:St}{H:Hp}{s:Shared}{p:Addr}{xs ys:List V}{its its':List Value}{n n':Nat}{f:Obj→Obj}(I:Inv X pins σ H s)(h:H p=some (.lst xs))
 (ho:s.heap.get? p=some { cls:=.type "list",data:=.seq its.toArray n }) (hf:f { cls:=.type "list",data:=.seq its.toArray n } = { cls:=.type "list",data:=.seq its'.toArray n' }) (r:Vals ys its') (hz:ys.length≤sizeLine) (t:Nat):
 Inv X pins σ (upd H p (.lst ys)) { s with heap:=s.heap.update p f,toks:=t }:=by
 have e:(s.heap.update p f).get? p=some { cls:=.type "list",data:=.seq its'.toArray n' }:=by rw[wE f ho (by rw[hf]<;>rfl),hf]
 refine I.write (x:=p) (e:=p) (by rw[h];trivial) (.inl rfl) (λb u hb q=>(mM _ _ (d5 hb)).trans q) ⟨_,e⟩ ?_;exact⟨hz,its',n',r,e⟩
noncomputable def qJP:V→V→V→Hp→(Hp→Prop)→Prop:=λo i v H Q=>∃p xs k j,o=.ref p∧i=.int k∧H p=some (.lst xs)∧ixN xs.length k=some j∧Q (upd H p (.lst (xs.set j v)))
theorem q0P:PSet X qJP:=by(
intro pins s σ H o i v ov iv u Q I ro ri rv h
obtain⟨p,xs,k,j,rfl,rfl,hp,hj,q⟩:=h
cases ro
obtain⟨t,rfl⟩:=ri
obtain⟨its,n,r,ho,hz⟩:=I.lst hp
obtain⟨h1,h2,h3,h4⟩:=qBS hj
have hl:=r.length
have hn:=q31
have I':Inv X pins σ (upd H p (.lst (xs.set j v))) { s with heap:=s.heap.update p (Obj.mapSeq (·.setIfInBounds j u)) }:=I.lstUpd hp ho (qAS its n j u) (r.set rv j) (by rw[gM];exact hz) s.toks
by_cases h0:0≤k
·have hk:k.toNat=j:=by rw[sY h0 h4]at h1;exact kI h1
 exact PySem.W.ki_setAt ho h0 (by omega) (by rw[kY,←hl];exact h4) (by rw[hk];exact⟨_,I',q⟩)
have hk:(k+(its.toArray.size:Int)).toNat=j:=by rw[pV (by omega) h3]at h1;rw[kY,←hl];exact kI h1
exact PySem.W.ki_setBack ho (by omega) (by rw[kY,←hl];exact h3) (by omega) (by rw[hk];exact⟨_,I',q⟩))
theorem q8D(lo hi:Option Int)(n:Nat):(sliceBounds lo hi none n).1=((HT.sIx n 0 lo:Nat):Int)∧(sliceBounds lo hi none n).2.1=((HT.sIx n n hi:Nat):Int)∧(sliceBounds lo hi none n).2.2=1:=by(
refine⟨?_,?_,rfl⟩
·cases lo with
 |none=>simp[sliceBounds,HT.sIx]
 |some i=>
  simp only[sliceBounds,HT.sIx,xF,show(1:Int)>0 by decide,if_true];by_cases h:i<0
  ·simp only[h,if_true]<;>omega
  simp only[h,if_false]<;>omega
cases hi with
|none=>simp[sliceBounds,HT.sIx]
|some i=>
 simp only[sliceBounds,HT.sIx,xF,show(1:Int)>0 by decide,if_true];by_cases h:i<0
 ·simp only[h,if_true]<;>omega
 simp only[h,if_false]<;>omega)
theorem q6W(its:List Value)(lo hi:Option Int):slicePick its.toArray lo hi none=((its.drop (HT.sIx its.length 0 lo)).take (HT.sIx its.length its.length hi-HT.sIx its.length 0 lo)).toArray:=by(
obtain⟨h1,h2,h3⟩:=q8D lo hi its.toArray.size
unfold slicePick
rw[h1,h2,h3]
simp only[sliceRange_one,pick_run,kY]<;>rfl)
noncomputable def rSlL(K:PySem.W.Frag):V→Option Int→Option Int→Hp→VK→Prop:=λx lo hi H Q=>∃a xs,x=.ref a∧SqL K H a xs∧∀p,H p=none→Q (.ref p) (upd H p (.lst (cutV xs lo hi)))
theorem q8E:SlR X (rSlL X.K):=by(
intro pins s σ H x v vl vu lo hi sl Q I rx hs pl pu h
obtain⟨a,xs,rfl,hx,q⟩:=h
cases rx
obtain⟨its,r,ht,hz⟩:=I.list hx
have hlen:=r.length
refine⟨"list",_,lU.lookup,ht.isList.typeIs,?_⟩
refine wpAny_getItem_list_slice ht.isList hs pl pu .none (by simp) ?_ (by rw[kY]<;>omega)
rw[q6W,←hlen]
refine⟨.ref s.heap.objs.size,_,I.laid (t':=s.toks) (o:=.lst (cutV xs lo hi)) (λb ob q=>hX _ q) (kH _) ?_,rfl,q _ (I.hok.fresh (kH _))⟩
exact⟨mJ (q1H xs lo hi) hz,_,0,(r.drop (HT.sIx xs.length 0 lo)).take (HT.sIx xs.length xs.length hi-HT.sIx xs.length 0 lo),k7 _ rfl⟩)
noncomputable def zS:V→Bool
| .non=>true
| .bl _=>true
| .int _=>true
| .str _=>true
|_=>false
noncomputable def eqV:V→V→Bool
| .non,.non=>true
| .bl a,.bl b=>a==b
| .bl a,.int b=>(if a then 1 else 0)==b
| .int a,.bl b=>a==(if b then 1 else 0)
| .int a,.int b=>a==b
| .str a,.str b=>a==b
|_,_=>false
theorem qDS{A:Around}{s:Shared}{y x:V}{u v:Value}(ry:RelV y u)(rx:RelV x v)(fy:zS y=true)(fx:zS x=true):SeqAt.EqAt A s u v (eqV y x):=by(
cases y with
|non=>
 cases ry;cases x with
 |non=>cases rx;exact cS _
 |bl b=>cases rx;exact sZ b
 |int b=>obtain⟨t,rfl⟩:=rx;exact nS b t
 |str b=>obtain⟨t,rfl⟩:=rx;exact nU b t
 |_=>exact absurd (show false=true from fx) kN
|bl a=>
 cases ry;cases x with
 |non=>cases rx;exact nG a
 |bl b=>cases rx;exact nH a b
 |int b=>obtain⟨t,rfl⟩:=rx;exact nV a b t
 |str b=>obtain⟨t,rfl⟩:=rx;exact nX a b t
 |_=>exact absurd (show false=true from fx) kN
|int a=>
 obtain⟨t',rfl⟩:=ry;cases x with
 |non=>cases rx;exact nY a t'
 |bl b=>cases rx;exact nZ a t' b
 |int b=>obtain⟨t,rfl⟩:=rx;exact SeqAt.EqAt.int_int a t' b t
 |str b=>obtain⟨t,rfl⟩:=rx;exact lJ a t' b t
 |_=>exact absurd (show false=true from fx) kN
|str a=>
 obtain⟨t',rfl⟩:=ry;cases x with
 |non=>cases rx;exact lA a t'
 |bl b=>cases rx;exact lB a t' b
 |int b=>obtain⟨t,rfl⟩:=rx;exact lK a t' b t
 |str b=>obtain⟨t,rfl⟩:=rx;exact SeqAt.EqAt.str_str a t' b t
 |_=>exact absurd (show false=true from fx) kN
|_=>exact absurd (show false=true from fy) kN)
noncomputable def eqU(x:V)(u:Value):Bool:=match u with
| .none=>eqV .non x
| .bool b=>eqV (.bl b) x
| .int i _=>eqV (.int i) x
| .str z _=>eqV (.str z) x
|_=>false
theorem qDT{x y:V}{u:Value}(r:RelV y u)(f:zS y=true):eqU x u=eqV y x:=by(
cases y with
|non=>cases r;rfl
|bl b=>cases r;rfl
|int i=>obtain⟨t,rfl⟩:=r;rfl
|str z=>obtain⟨t,rfl⟩:=r;rfl
|_=>exact absurd (show false=true from f) kN)
theorem q3R{x:V}:∀{xs:List V} {us:List Value},Vals xs us→xs.all zS=true→us.any (eqU x)=xs.any λy=>eqV y x
|_,_,.nil,_=>rfl
|y::xs,u::us,.cons r t,f=>by rw[aI,mE]at f;rw[wD,wD,qDT r f.1,q3R t f.2]
theorem q1J{A:Around}{s:Shared}{x:V}{v:Value}(rx:RelV x v)(fx:zS x=true):∀{xs:List V} {us:List Value},Vals xs us→xs.all zS=true→∀u∈us,SeqAt.EqAt A s u v (eqU x u)
|_,_,.nil,_=>λu hu=>by cases hu
|y::xs,u::us,.cons r t,f=>λu' hu=>by
 rw[aI,mE]at f;rcases kW.mp hu with rfl|hu
 ·rw[qDT r f.1];exact qDS r rx f.1 fx
 exact q1J rx fx t f.2 u' hu
noncomputable def inV(x:V)(xs:List V):Bool:=xs.any λy=>eqV y x
noncomputable def rIn(K:PySem.W.Frag)(neg:Bool):R2:=λx y H Q=>∃p xs,y=.ref p∧(SqL K H p xs∨SqT K H p xs)∧zS x=true∧xs.all zS=true∧Q (.bl (if neg then !inV x xs else inV x xs)) H
theorem qCR:OpR X (compareOp .In) (rIn X.K false):=by(
intro pins s σ H x y v u Q I rx ry h
obtain⟨p,xs,rfl,hq,fx,fs,q⟩:=h
cases ry
rcases hq with hq|hq
·obtain⟨its,r,pl,hz⟩:=I.list hq;refine SeqAt.in_listAt (eqU x) pl.isList (λw hw=>q1J rx fx r fs w (by simpa using hw)) ⟨.bl _,H,I,rfl,?_⟩;rw[show its.toArray.any (eqU x)=its.any (eqU x) by simp,q3R r fs];exact q
obtain⟨its,r,pl,hz⟩:=I.tuple hq
refine SeqAt.in_tupleAt (eqU x) pl (λw hw=>q1J rx fx r fs w (by simpa using hw)) ⟨.bl _,H,I,rfl,?_⟩
rw[show its.toArray.any (eqU x)=its.any (eqU x) by simp,q3R r fs]
exact q)
theorem zI:OpR X (compareOp .NotIn) (rIn X.K true):=by(
intro pins s σ H x y v u Q I rx ry h
obtain⟨p,xs,rfl,hq,fx,fs,q⟩:=h
cases ry
rcases hq with hq|hq
·obtain⟨its,r,pl,hz⟩:=I.list hq;refine SeqAt.notIn_listAt (eqU x) pl.isList (λw hw=>q1J rx fx r fs w (by simpa using hw)) ⟨.bl _,H,I,rfl,?_⟩;rw[show its.toArray.any (eqU x)=its.any (eqU x) by simp,q3R r fs];exact q
obtain⟨its,r,pl,hz⟩:=I.tuple hq
refine SeqAt.notIn_tupleAt (eqU x) pl (λw hw=>q1J rx fx r fs w (by simpa using hw)) ⟨.bl _,H,I,rfl,?_⟩
rw[show its.toArray.any (eqU x)=its.any (eqU x) by simp,q3R r fs]
exact q)
theorem jJ:zC X (.builtin "len") (λxs H Q=>∃p ys,xs=[.ref p]∧(SqL X.K H p ys∨SqT X.K H p ys)∧Q (.int ys.length) H):=by(
intro pins s σ H xs us Q I r h
obtain⟨p,ys,rfl,hq,q⟩:=h
obtain⟨u,rfl,rx⟩:=zP r
cases rx
have hn:=q31
rcases hq with hq|hq
·obtain⟨its,r',pl,hz⟩:=I.list hq;have hlen:=r'.length;exact Calls.call_len_list pl.isList (by simp only[kY]<;>omega) ⟨.int ys.length,H,I.tok _,⟨s.toks+1,by rw[kY,hlen]⟩,q⟩
obtain⟨its,r',pl,hz⟩:=I.tuple hq
have hlen:=r'.length
exact len_tuple pl (by simp only[kY]<;>omega) ⟨.int ys.length,H,I.tok _,⟨s.toks+1,by rw[kY,hlen]⟩,q⟩)
theorem q8F:zC X (.builtin "len") (λxs H Q=>∃z,xs=[.str z]∧z.length≤sizeLine∧Q (.int z.length) H):=by(
intro pins s σ H xs us Q I r h
obtain⟨z,rfl,hz,q⟩:=h
obtain⟨u,rfl,t,rfl⟩:=zP r
have hn:=q31
exact len_str (by omega) ⟨.int z.length,H,I.tok _,⟨_,rfl⟩,q⟩)
theorem q8G:zC X (.type "list") (λxs H Q=>∃p ys,xs=[.ref p]∧(SqL X.K H p ys∨SqT X.K H p ys)∧∀l,H l=none→Q (.ref l) (upd H l (.lst ys))):=by(
intro pins s σ H xs us Q I r h
obtain⟨p,ys,rfl,hq,q⟩:=h
obtain⟨u,rfl,rx⟩:=zP r
cases rx
have fin:∀(its:List Value),Vals ys its→ys.length≤sizeLine→∀(h':Heap) (c':Nat),(∀b o',s.heap.get? b=some o'→h'.get? b=some o')→h'.get? s.heap.objs.size=some { cls:=.type "list",dict:=none,data:=.seq its.toArray c',slots:=#[] }→EP X pins σ Q (.ref s.heap.objs.size) { s with heap:=h' }:=λits r' hz h' c' kp e=>⟨.ref s.heap.objs.size,_,I.laid (t':=s.toks) kp (kH _) (show jU X.prog X.w _ h' _ (.lst ys)from⟨hz,its,c',r',e⟩),rfl,q _ (I.hok.fresh (kH _))⟩
rcases hq with hq|hq
·obtain⟨its,r',pl,hz⟩:=I.list hq;have hlen:=r'.length;obtain⟨o,ho,hc,n,hd⟩:=pl.isList;exact call_list_seq p (.inl rfl) ho hc hd (λh' c' kp e=>fin its r' hz h' c' kp e) (by simp only[kY]<;>omega)
obtain⟨its,r',pl,hz⟩:=I.tuple hq
have hlen:=r'.length
obtain⟨o,ho,hc,n,hd⟩:=pl
exact call_list_seq p (.inr rfl) ho hc hd (λh' c' kp e=>fin its r' hz h' c' kp e) (by simp only[kY]<;>omega))
noncomputable def tyV(K:PySem.W.Frag)(T:String)(x:V)(H:Hp):Prop:=match x with
| .str _=>T="str"
| .int _=>T="int"
| .ref p=>(T="list"∧∃xs,SqL K H p xs)∨(T="tuple"∧∃o,K.lookup p=some o∧o.cls=.type "tuple"∧o.dict=none)∨(T="dict"∧((∃kvs,H p=some (.dK kvs))∨∃kvs,H p=some (.dT kvs)))∨(T="set"∧∃S n,H p=some (.set S n))
|_=>False
theorem qDU{pins:List (Addr×Obj)}{σ:St}{H:Hp}{s:Shared}{T:String}{x:V}{v:Value}(I:Inv X pins σ H s)(r:RelV x v)(ty:tyV X.K T x H):
 s.TypeIs v T∧∀a,v=.ref a→∃ob,s.heap.get? a=some ob∧ob.dict=none:=by(
cases x with
|str z=>obtain⟨t,rfl⟩:=r;cases(show T="str" from ty);exact⟨xS s z t,λ_ e=>nomatch e⟩
|int i=>obtain⟨t,rfl⟩:=r;cases(show T="int" from ty);exact⟨xT s i t,λ_ e=>nomatch e⟩
|ref p=>
 cases r;rcases ty with⟨rfl,xs,hq⟩|⟨rfl,o,hk,hc,hd⟩|⟨rfl,hk⟩|⟨rfl,S,n,hk⟩
 ·obtain⟨its,_,pl,_⟩:=I.list hq;refine⟨pl.isList.typeIs,λa e=>?_⟩;cases e;obtain⟨o,n,e,c,hd,_⟩:=pl;exact⟨o,e,hd⟩
 ·refine⟨⟨o,I.kIn p o hk,hc⟩,λa e=>?_⟩;cases e;exact⟨o,I.kIn _ o hk,hd⟩
 ·have z:∃o,s.heap.get? p=some o∧o.ExactDict:=by
   rcases hk with⟨kvs,hk⟩|⟨kvs,hk⟩
   ·obtain⟨_,_,_,_,o,_,_,e,ex,_⟩:=I.hok p _ hk;exact⟨o,e,ex⟩
   obtain⟨_,_,_,_,o,_,_,e,ex,_⟩:=I.hok p _ hk;exact⟨o,e,ex⟩
  obtain⟨o,e,ex⟩:=z;refine⟨⟨o,e,ex.1⟩,λa e2=>?_⟩;cases e2;exact⟨o,e,ex.2.1⟩
 obtain⟨o,_,_,_,e,ex,_⟩:=I.hok p _ hk;refine⟨⟨o,e,ex.1⟩,λa e2=>?_⟩;cases e2;exact⟨o,e,ex.2.1⟩
|_=>exact False.elim ty)
noncomputable def tBM0(K:PySem.W.Frag)(T:String)(r:V→List V→Hp→VK→Prop)(to:TE):TE:=λσ H Q=>to σ H λx H1=>tyV K T x H1∧r x [] H1 Q
noncomputable def tBM(K:PySem.W.Frag)(T:String)(r:V→List V→Hp→VK→Prop)(to:TE)(t:TA):TE:=λσ H Q=>to σ H λx H1=>tyV K T x H1∧t σ H1 λxs H2=>r x xs H2 Q
variable{o e:Expr}{es:List Expr}{to:TE}{t:TA}{name:Str}{apos cpos:Pos}{T id:String}{r:V→List V→Hp→VK→Prop}
theorem qHJ(pa:PlainAttrs T)(slot:Slot T name id)(hty:typeOf (.builtin id)=pure (.type "method_descriptor"))(hm:MtR X id r)(ho:PE X o to)
 (hbase:attributeBase o name X.env (eval o X.env)=eval o X.env:=by rfl) (hline:(apos.endLine==cpos.line)=true:=by rfl):PE X (.Call (.Attribute o name apos) [] [] cpos) (tBM0 X.K T r to):=by(
intro pins s σ H Q I h
refine wpAny_Call_method0_late hbase hline (thn (ho pins s σ H _ I h) λv s1 hZ=>?_)
obtain⟨x,H1,I1,r1,ty,q1⟩:=hZ
obtain⟨h1,h2⟩:=qDU I1 r1 ty
exact⟨T,id,pa,slot,hty,h1,h2,d6 rfl (PySem.evalArgs_none (hm pins s1 σ H1 x [] v [] Q I1 r1 .nil q1))⟩)
theorem q3S(pa:PlainAttrs T)(slot:Slot T name id)(hty:typeOf (.builtin id)=pure (.type "method_descriptor"))(hm:MtR X id r)(ho:PE X o to)(ha:PA X (e::es) t)
 (hbase:attributeBase o name X.env (eval o X.env)=eval o X.env:=by rfl)
 (hfew:((backTo cpos (starEach (e::es) X.env)).all (λx=>!x.1)&&(backToKw cpos (keywordEach [] X.env)).all (λx=>x.1.isSome)
  &&decide ((e::es).length+([]:List Keyword).length+(if([]:List Keyword).isEmpty then 0 else 1)<30))=true:=by rfl)
 (hline:(apos.endLine==cpos.line)=true:=by rfl) (hs:starEach (e::es) X.env=(false,eval e X.env)::starEach es X.env:=by rfl) (hplain:(backTo cpos (starEach es X.env)).any (·.1)=false:=by rfl):
 PE X (.Call (.Attribute o name apos) (e::es) [] cpos) (tBM X.K T r to t):=by(
intro pins s σ H Q I h
refine wpAny_Call_method_late hbase hfew hline rfl (thn (ho pins s σ H _ I h) λv s1 hZ=>?_)
obtain⟨x,H1,I1,r1,ty,q1⟩:=hZ
obtain⟨h1,h2⟩:=qDU I1 r1 ty
refine⟨T,id,pa,slot,hty,h1,h2,?_⟩
have hA:=ha cpos pins s1 σ H1 _ I1 q1
rw[hs]at hA ⊢
refine d6 (by show(false||(backTo cpos (starEach es X.env)).any (·.1))=false;rw[hplain]<;>rfl) (wI ?_)
exact thn hA λus s2 ⟨vs,H2,I2,r2,q2⟩=>hm pins s2 σ H2 x vs v us Q I2 r1 r2 q2)
end
noncomputable def MtM(X:Cx)(id:String)(r:V→List V→Hp→VK→Prop):Prop:=∀(pins:List (Addr×Obj)) (s:Shared) (σ:St) (H:Hp) (x:V) (xs:List V) (v:Value) (us:List Value) (Q:VK),Inv X pins σ H s→RelV x v→Vals xs us→r x xs H Q→wpAny (model X.prog X.w) X.A (call (.builtin id) (v::us)) (EP X pins σ Q) X.xe s
theorem Vals.one{x:V}{us:List Value}(h:Vals [x] us):∃u,us=[u]∧RelV x u:=by
 cases h with
 |cons r t=>cases t;exact⟨_,rfl,r⟩
theorem Vals.zero:∀{us:List Value},Vals [] us→us=[]
|_,.nil=>rfl
theorem Vals.rep{xs:List V}{us:List Value}(h:Vals xs us):∀k:Nat,Vals (List.replicate k xs).flatten (List.replicate k us).flatten
|0=>.nil
|k+1=>by rw[dG,dG,wF,wF];exact Vals.append h (Vals.rep h k)
theorem q7T(its:List Value):∀(k:Nat) (acc:List Value),List.foldl (λx1 x2=>x1++x2) acc.toArray (List.replicate k its.toArray)=(acc++(List.replicate k its).flatten).toArray
|0,acc=>by simp
|k+1,acc=>by
 have e:acc.toArray++its.toArray=(acc++its).toArray:=by simp
 have e2:(acc++its)++(List.replicate k its).flatten=acc++(List.replicate (k+1) its).flatten:=by rw[dG,wF,lY]
 rw[←e2,←q7T its k (acc++its),←e,dG,cT]
section
variable{X:Cx}{pins:List (Addr×Obj)}{σ:St}{H:Hp}{s:Shared}{l b:Addr}{xs ys zs:List V}
theorem Inv.lset{its its':List Value}{n:Nat}{f:Array Value→Array Value}{t':Nat}(I:Inv X pins σ H s)(hH:H l=some (.lst xs))
 (e:s.heap.get? l=some { cls:=.type "list",data:=.seq its.toArray n }) (hf:f its.toArray=its'.toArray) (hv:Vals ys its') (hz:ys.length≤sizeLine):
 Inv X pins σ (upd H l (.lst ys)) { s with heap:=s.heap.update l (Obj.mapSeq f),toks:=t' }:=by(
have q:=PySem.IsL.update e f
rw[hf]at q
refine I.write (x:=l) (e:=l) (by rw[hH];exact trivial) (.inl rfl) (λb' u hb hu=>(mM s.heap (Obj.mapSeq f) (d5 hb)).trans hu) ⟨_,q⟩ ?_
exact⟨hz,its',_,hv,q⟩)
theorem Inv.lnew{its:List Value}{t':Nat}(I:Inv X pins σ H s)(hv:Vals ys its)(hz:ys.length≤sizeLine):
 Inv X pins σ (upd H s.heap.objs.size (.lst ys)) { s with heap:=s.heap.push { cls:=.type "list",data:=.seq its.toArray },toks:=t' }:=I.laid (λ_ _ q=>hX _ q) (kH _) ⟨hz,its,0,hv,k7 _ rfl⟩
theorem Inv.fresh(I:Inv X pins σ H s):H s.heap.objs.size=none:=I.hok.fresh (kH _)
theorem Inv.lstM(I:Inv X pins σ H s)(hH:H l=some (.lst xs)):xs.length≤sizeLine∧∃(its:List Value) (n:Nat),Vals xs its∧xs.length=its.length∧s.heap.get? l=some { cls:=.type "list",data:=.seq its.toArray n }:=by obtain⟨z,its,n,r,e⟩:=I.hok l _ hH;exact⟨z,its,n,r,r.length,e⟩
theorem qDV{n:Nat}(h:n≤sizeLine):Builtin.List.listTooLong n=false:=by unfold Builtin.List.listTooLong;exact hG (by omega)
end
section
variable{X:Cx}
noncomputable def qFM:V→List V→Hp→VK→Prop:=λx vs H Q=>∃l xs y,x=.ref l∧vs=[y]∧H l=some (.lst xs)∧xs.length<sizeLine∧Q .non (upd H l (.lst (xs++[y])))
theorem yR:MtM X "list.append" qFM:=by(
intro pins s σ H x vs v us Q I rx rv h
obtain⟨l,xs,y,rfl,rfl,hH,hz,q⟩:=h
cases rx
obtain⟨u,rfl,ru⟩:=rv.one
obtain⟨z,its,n,r,hl,e⟩:=I.lstM hH
refine xU F.slot_list_append ⟨_,e,rfl⟩ F.entry_list_append (F.args_list_append_2 _ _) (PySem.list_append l its.toArray n u (by rw[kY];omega)) ⟨e,?_⟩
refine⟨.non,_,I.lset (its':=its++[u]) hH e (by simp) (r.append (.cons ru .nil)) ?_,rfl,q⟩
rw[mL,cE]
omega)
noncomputable def rCat:R2:=λx y H Q=>∃l b xs zs,x=.ref l∧y=.ref b∧H l=some (.lst xs)∧H b=some (.lst zs)∧xs.length+zs.length≤sizeLine∧∀p,H p=none→Q (.ref p) (upd H p (.lst (xs++zs)))
theorem qHK:OpR X (binaryOp .Add) rCat:=by(
intro pins s σ H x y v u Q I rx ry h
obtain⟨l,b,xs,zs,rfl,rfl,hH,hB,hz,q⟩:=h
cases rx
cases ry
obtain⟨z,its,n,r,hl,e⟩:=I.lstM hH
obtain⟨z2,its2,n2,r2,hl2,e2⟩:=I.lstM hB
refine PySem.P.add_list e e2 ?_ (by rw[kY,kY];omega)
have ea:its.toArray++its2.toArray=(its++its2).toArray:=by simp
rw[ea]
exact⟨.ref _,_,I.lnew (t':=s.toks) (r.append r2) (by rw[mL];omega),rfl,q _ I.fresh⟩)
noncomputable def rRep:R2:=λx y H Q=>∃l k xs,x=.ref l∧y=.int k∧H l=some (.lst xs)∧-(2 ^ 63)≤k∧k<2 ^ 63∧xs.length*k.toNat≤sizeLine∧∀p,H p=none→Q (.ref p) (upd H p (.lst (List.replicate k.toNat xs).flatten))
theorem qFN{α:Type}(xs:List α)(k:Nat):(List.replicate k xs).flatten.length=k*xs.length:=by(
induction k with
|zero=>simp
|succ k ih=>rw[dG,wF,mL,ih,Nat.succ_mul,Nat.add_comm])
theorem qHL:OpR X (binaryOp .Mult) rRep:=by(
intro pins s σ H x y v u Q I rx ry h
obtain⟨l,k,xs,rfl,rfl,hH,h1,h2,hz,q⟩:=h
cases rx
obtain⟨t,rfl⟩:=ry
obtain⟨z,its,n,r,hl,e⟩:=I.lstM hH
have hlen:its.toArray.size*k.toNat≤sizeLine:=by rw[kY,←hl];exact hz
have hcap:¬its.toArray.size*k.toNat>(2 ^ 63-1) / 8:=by
 have:(sizeLine:Nat)≤(2 ^ 63-1) / 8:=by decide
 omega
have hfit:¬(!Builtin.List.listFitsIndex k)=true:=by rw[fitsIndex_both h1 h2];exact kN
have hlong:¬Builtin.List.listTooLong (its.toArray.size*k.toNat)=true:=by rw[qDV hlen];exact kN
have hnew:List.foldl (λx1 x2=>x1++x2) #[] (List.replicate (if its.toArray.isEmpty=true then 0 else k.toNat) its.toArray)=(List.replicate k.toNat its).flatten.toArray:=by
 have f0:∀m:Nat,List.foldl (λx1 x2=>x1++x2) #[] (List.replicate m its.toArray)=(List.replicate m its).flatten.toArray:=λm=>by have:=q7T its m [];rw[dJ]at this;exact this
 rw[f0];cases its with
 |nil=>simp
 |cons a r'=>rw[kE (by simp)]
refine wpAny_binaryOp_repeat_ref (T:="list") (U:="int") (by decide) ⟨_,e,rfl⟩ (λs'=>xT s' k t) noFill_list_mul F.fills_int_mul xK repeat_list F.slot_int_index.lookup
 (xU xK (xT s k t) F.entry_int_rmul (F.args_int_rmul_2 _ _) (int___rmul___int_list k t l its.toArray n)
  ⟨e,rfl,⟨_,e,rfl⟩,xU F.slot_list_mul ⟨_,e,rfl⟩ F.entry_list_mul (F.args_list_mul_2 _ _) (AutoListH.list___mul___list_int_3 l its.toArray n k t hfit hcap hlong) ⟨e,?_⟩⟩)
rw[hnew]
exact⟨.ref _,_,I.lnew (t':=s.toks) (r.rep k.toNat) (by rw[qFN,cA];exact hz),rfl,q _ I.fresh⟩)
end
section
variable{κ:Type}[DecidableEq κ]
noncomputable def valV(kvs:List (κ×V))(k:κ):Option V:=(kvs.find? λkv=>decide (kv.1=k)).map (·.2)
noncomputable def putK(kvs:List (κ×V))(k:κ)(v:V):List (κ×V):=if(kvs.any λkv=>decide (kv.1=k))=true then kvs.map (λkv=>if kv.1=k then(kv.1,v)else kv)else kvs++[(k,v)]
noncomputable def q63(kvs:List (κ×V))(k:κ):List (κ×V):=kvs.filter λkv=>decide (kv.1≠k)
theorem vO{p:κ×V}{r:List (κ×V)}{k:κ}(e:p.1=k):valV (p::r) k=some p.2:=by simp[valV,dY,e]
theorem v4{p:κ×V}{r:List (κ×V)}{k:κ}(e:¬p.1=k):valV (p::r) k=valV r k:=by simp[valV,dY,e]
theorem q64(k:κ):∀kvs:List (κ×V),(kvs.any λkv=>decide (kv.1=k))=(valV kvs k).isSome
| []=>rfl
|p::r=>by
 rw[wD];by_cases e:p.1=k
 ·simp only[vO e,hI e,aM,Option.isSome_some]
 rw[v4 e,hG e,aJ];exact q64 k r
theorem q4J(k j:κ)(y:V):∀kvs:List (κ×V),valV kvs k=none→valV (kvs++[(k,y)]) j=if j=k then some y else valV kvs j
| [],_=>by
 by_cases e:k=j
 ·rw[kG e.symm];exact vO (p:=(k,y)) e
 rw[kE (λz=>e z.symm)];exact v4 (p:=(k,y)) e
|p::r,hn=>by
 rw[dC];have hk:¬p.1=k:=λz=>by rw[vO z]at hn;cases hn
 rw[v4 hk]at hn;have ih:=q4J k j y r hn;by_cases e:p.1=j
 ·rw[vO e,vO e,kE (λz=>hk (e.trans z))]
 rw[v4 e,v4 e,ih]
theorem q1K(kvs:List (κ×V))(k:κ)(v:V):(putK kvs k v).length≤kvs.length+1:=by(
unfold putK
split
·rw[hU];omega
rw[mL,gD,sF];omega)
theorem qDW{kvs:List (κ×V)}{k:κ}(v:V)(h:valV kvs k=none):putK kvs k v=kvs++[(k,v)]:=by unfold putK;rw[q64,h];exact kE (by decide)
theorem RelO.isSome_eq{o:Option V}{u:Option Value}(r:RelO o u):o.isSome=u.isSome:=by(
cases o with
|none=>cases u with
 |none=>rfl
 |some _=>exact(show False from r).elim
|some _=>cases u with
 |none=>exact(show False from r).elim
 |some _=>rfl)
theorem RelO.getD{o:Option V}{u:Option Value}{d:V}{d':Value}(r:RelO o u)(rd:RelV d d'):RelV (o.getD d) (u.getD d'):=by(
cases o with
|none=>cases u with
 |none=>exact rd
 |some _=>exact(show False from r).elim
|some _=>cases u with
 |none=>exact(show False from r).elim
 |some _=>exact r)
theorem KV.val{kvs:List (κ×V)}{vs:List (κ×Value)}(r:KV kvs vs)(k:κ):RelO (valV kvs k) (valueAt vs k):=by(
unfold KV at r
induction r with
|nil=>exact True.intro
|@cons p q ps qs h t ih=>
 obtain⟨h1,h2⟩:=h;by_cases e:p.1=k
 ·have e':q.1=k:=h1.symm.trans e;have b:valueAt (q::qs) k=some q.2:=by simp[valueAt,dY,e']
  rw[vO e,b];exact h2
 have e':¬q.1=k:=λz=>e (h1.trans z);have b:valueAt (q::qs) k=valueAt qs k:=by simp[valueAt,dY,e']
 rw[v4 e,b];exact ih)
theorem KV.any{kvs:List (κ×V)}{vs:List (κ×Value)}(r:KV kvs vs)(k:κ):(kvs.any λkv=>decide (kv.1=k))=vs.any λkv=>decide (kv.1=k):=by(
unfold KV at r
induction r with
|nil=>rfl
|cons h t ih=>rw[wD,wD,ih,h.1])
theorem KV.repl{kvs:List (κ×V)}{vs:List (κ×Value)}(r:KV kvs vs)(k:κ){y:V}{u:Value}(ry:RelV y u):
 KV (kvs.map λkv=>if kv.1=k then(kv.1,y)else kv) (vs.map λkv=>if kv.1=k then(kv.1,u)else kv):=by(
unfold KV at r ⊢
induction r with
|nil=>exact .nil
|@cons p q ps qs h t ih=>
 rw[mZ,mZ];refine .cons ?_ ih;obtain⟨h1,h2⟩:=h;by_cases e:p.1=k
 ·rw[kG e,kG (h1.symm.trans e)];exact⟨h1,ry⟩
 rw[kE e,kE (λz=>e (h1.trans z))];exact⟨h1,h2⟩)
theorem KV.put{kvs:List (κ×V)}{vs:List (κ×Value)}(r:KV kvs vs)(k:κ){y:V}{u:Value}(ry:RelV y u):KV (putK kvs k y) (stored vs k u):=by(
unfold putK stored
rw[r.any k]
by_cases e:(vs.any λkv=>decide (kv.1=k))=true
·rw[kG e,kG e];exact r.repl k ry
rw[kE e,kE e];exact Paired.snoc r ⟨rfl,ry⟩)
theorem KV.drop{kvs:List (κ×V)}{vs:List (κ×Value)}(r:KV kvs vs)(k:κ):KV (q63 kvs k) (without vs k):=by(
unfold KV at r ⊢
unfold q63 without
induction r with
|nil=>exact .nil
|@cons p q ps qs h t ih=>
 obtain⟨h1,h2⟩:=h;rw[gP,gP];by_cases e:p.1=k
 ·have a:¬decide (p.1≠k)=true:=by simp[e]
  have b:¬decide (q.1≠k)=true:=by simp[h1.symm.trans e]
  rw[kE a,kE b];exact ih
 have e':¬q.1=k:=λz=>e (h1.trans z);have a:decide (p.1≠k)=true:=by simp[e]
 have b:decide (q.1≠k)=true:=by simp[e']
 rw[kG a,kG b];exact .cons ⟨h1,h2⟩ ih)
theorem KV.keys{kvs:List (κ×V)}{vs:List (κ×Value)}(r:KV kvs vs):kvs.map (·.1)=vs.map (·.1):=by(
unfold KV at r
induction r with
|nil=>rfl
|cons h t ih=>rw[mZ,mZ,ih,h.1])
theorem KV.length{kvs:List (κ×V)}{vs:List (κ×Value)}(r:KV kvs vs):kvs.length=vs.length:=lG r
theorem qDX(kvs:List (κ×V))(k:κ):(q63 kvs k).length≤kvs.length:=mF _ _
end
theorem q3T{P:Program}{w:World}{k:Key}{u:Value}(r:RelV (kV k) u):(jA P w).is k u=true:=by(
cases k with
|inl i=>obtain⟨t,e⟩:=(show ∃t,u=Value.int i t from r);subst e;exact q9G P w i t
|inr x=>obtain⟨t,e⟩:=(show ∃t,u=Value.str x t from r);subst e;exact q9H P w x t)
theorem q7U{P:Program}{w:World}:∀{ks:List Key} {us:List Value},Vals (ks.map kV) us→ItemsAre (jA P w) ks us
| [],_,r=>by rw[pZ]at r;cases r;exact .nil
|k::ks,_,r=>by
 rw[mZ]at r;cases r with
 |cons h t=>exact .cons (q3T h) (q7U t)
noncomputable abbrev KT(H:Hp):List (List Key×V)→List (List Key×Addr×Value)→Prop:=Paired λp q=>p.1=q.1∧H q.2.1=some (.tup (p.1.map kV))∧RelV p.2 q.2.2
theorem KT.val{H:Hp}{kvs:List (List Key×V)}{xs:List (List Key×Addr×Value)}(r:KT H kvs xs)(k:List Key):RelO (valV kvs k) ((atKey xs k).map (·.2)):=by(
induction r with
|nil=>exact True.intro
|@cons p q ps qs h t ih=>
 obtain⟨h1,_,h2⟩:=h;by_cases e:p.1=k
 ·have e':q.1=k:=h1.symm.trans e;have b:atKey (q::qs) k=some q.2:=by simp[atKey,dY,e']
  rw[vO e,b];exact h2
 have e':¬q.1=k:=λz=>e (h1.trans z);have b:atKey (q::qs) k=atKey qs k:=by simp[atKey,dY,e']
 rw[v4 e,b];exact ih)
theorem KT.repl{H:Hp}{kvs:List (List Key×V)}{xs:List (List Key×Addr×Value)}(r:KT H kvs xs)(k:List Key){y:V}{u:Value}(ry:RelV y u):
 KT H (kvs.map λkv=>if kv.1=k then(kv.1,y)else kv) (xs.map (putAt k u)):=by(
induction r with
|nil=>exact .nil
|@cons p q ps qs h t ih=>
 rw[mZ,mZ];refine .cons ?_ ih;obtain⟨h1,h2,h3⟩:=h;unfold putAt;by_cases e:p.1=k
 ·rw[kG e,kG (h1.symm.trans e)];exact⟨h1,h2,ry⟩
 rw[kE e,kE (λz=>e (h1.trans z))];exact⟨h1,h2,h3⟩)
theorem KT.put{H:Hp}{kvs:List (List Key×V)}{xs:List (List Key×Addr×Value)}(r:KT H kvs xs)(k:List Key){b:Addr}{y:V}{u:Value}(hb:H b=some (.tup (k.map kV)))(ry:RelV y u):
 KT H (putK kvs k y) (storedH xs k b u):=by(
have e:(kvs.any λkv=>decide (kv.1=k))=(atKey xs k).isSome:=by rw[q64,(r.val k).isSome_eq,pH]
unfold putK storedH
rw[e]
by_cases q:(atKey xs k).isSome=true
·rw[kG q,kG q];exact r.repl k ry
rw[kE q,kE q];exact Paired.snoc r ⟨rfl,hb,ry⟩)
theorem KT.keeps{H H':Hp}{kvs:List (List Key×V)}{xs:List (List Key×Addr×Value)}(r:KT H kvs xs)(ht:∀b ys,H b=some (.tup ys)→H' b=some (.tup ys)):KT H' kvs xs:=Paired.mapP r λ_ _ z=>⟨z.1,ht _ _ z.2.1,z.2.2⟩
section
variable{P:Program}{w:World}{H:Hp}{h:Heap}{a:Addr}
theorem qGZ{u:HO}(ok:HOk P w H h)(e:Rd H a u):jU P w H h a u:=e.ok ok
theorem q1L{kvs:List (Key×V)}(ok:HOk P w H h)(e:Rd H a (.dK kvs)):kvs.length≤sizeLine∧(a==sysModules)=false∧∃vs,KV kvs vs∧h.DictOf (jA P w) a vs:=show jU P w H h a (.dK kvs)from qGZ ok e
theorem q3U{kvs:List (Key×V)}(ok:HOk P w H h)(e:H a=some (.dK kvs)):kvs.length≤sizeLine∧(a==sysModules)=false∧∃vs,KV kvs vs∧h.DictOf (jA P w) a vs:=q1L ok (.inl e)
theorem q33{ks:List Key}(ok:HOk P w H h)(e:H a=some (.tup (ks.map kV))):(tupleKind (jA P w)).is h ks a:=by obtain⟨_,its,r,o,h1,h2,n,h3⟩:=(show jU P w H h a (.tup (ks.map kV))from ok a _ e);exact⟨o,its.toArray,n,h1,h2,h3,by simpa using q7U r⟩
theorem q56{kvs:List (List Key×V)}(ok:HOk P w H h)(e:Rd H a (.dT kvs)):kvs.length≤sizeLine∧(a==sysModules)=false∧∃xs,KT H kvs xs∧h.DictOfH (tupleKind (jA P w)) a xs:=by(
obtain⟨z,y,xs,r,o,es,ep,h1,h2,h3,h4,h5⟩:=(show jU P w H h a (.dT kvs)from qGZ ok e)
refine⟨z,y,xs,r,o,es,ep,h1,h2,h3,h4,λx hx=>?_,h5⟩
have all:∀{l:List (List Key×V)} {m:List (List Key×Addr×Value)},KT H l m→∀x∈m,(tupleKind (jA P w)).is h x.1 x.2.1:=by
 intro l m q;induction q with
 |nil=>intro x hx;exact nomatch hx
 |@cons p q ps qs hq t ih=>
  intro x hx;rcases kW.mp hx with e|hx
  ·subst e;exact q33 ok (by rw[←hq.1];exact hq.2.1)
  exact ih x hx
exact all r x hx)
theorem qJQ{kvs:List (List Key×V)}(ok:HOk P w H h)(e:H a=some (.dT kvs)):kvs.length≤sizeLine∧(a==sysModules)=false∧∃xs,KT H kvs xs∧h.DictOfH (tupleKind (jA P w)) a xs:=q56 ok (.inl e)
end
noncomputable def DGet(H:Hp)(a:Addr)(y:V)(r:Option V):Prop:=(∃kvs k,Rd H a (.dK kvs)∧y=kV k∧r=valV kvs k)∨∃kvs k b,Rd H a (.dT kvs)∧y=.ref b∧H b=some (.tup (k.map kV))∧r=valV kvs k
noncomputable def DPut(H:Hp)(a:Addr)(y v:V)(H':Hp):Prop:=(∃kvs k,H a=some (.dK kvs)∧y=kV k∧kvs.length<sizeLine∧H'=upd H a (.dK (putK kvs k v)))∨∃kvs k b,H a=some (.dT kvs)∧y=.ref b∧H b=some (.tup (k.map kV))∧kvs.length<sizeLine∧H'=upd H a (.dT (putK kvs k v))
theorem DGet.k{H:Hp}{a:Addr}{kvs:List (Key×V)}{k:Key}(e:H a=some (.dK kvs)):DGet H a (kV k) (valV kvs k):=.inl ⟨kvs,k,.inl e,rfl,rfl⟩
theorem DPut.k{H:Hp}{a:Addr}{kvs:List (Key×V)}{k:Key}{v:V}(e:H a=some (.dK kvs))(hl:kvs.length<sizeLine):DPut H a (kV k) v (upd H a (.dK (putK kvs k v))):=.inl ⟨kvs,k,e,rfl,hl,rfl⟩
section
variable{X:Cx}{pins:List (Addr×Obj)}{σ:St}{H:Hp}{s:Shared}{a:Addr}{y v:V}{u r:Value}{o:Option V}{A:Around}{E:Value→Shared→Prop}
theorem Inv.big(I:Inv X pins σ H s):sysModules<s.heap.objs.size:=by have h:mainGlobals<s.heap.objs.size:=(I.mod.glob.keeps I.bk).lt;exact Nat.lt_trans (by decide) h
theorem qCS{Q:Value→Shared→Prop}(hu:A.units+1<cLine)(I:Inv X pins σ H s)(g:DGet H a y (some v))(ry:RelV y u)(h:∀w' s',Inv X pins σ H s'→RelV v w'→Q w' s'):
 wpAny (model X.prog X.w) A (getItem (.ref a) u) Q E s:=by(
rcases g with⟨kvs,k,e,ey,l⟩|⟨kvs,k,b,e,ey,eb,l⟩
·subst ey;obtain⟨z,hd,vs,rel,dd⟩:=q1L I.hok e;obtain⟨w',hw,rw'⟩:=RelO.some_of (v:=v) (o:=valueAt vs k) (by rw[l];exact rel.val k);exact wpAny_getItem_of (q3T ry) dd.mapOf hw (h w' _ (I.tok _) rw')
subst ey
cases(show u=Value.ref b from ry)
obtain⟨z,hd,xs,rel,dd⟩:=q56 I.hok e
obtain⟨w',hw,rw'⟩:=RelO.some_of (v:=v) (o:=(atKey xs k).map (·.2)) (by rw[l];exact rel.val k)
obtain⟨p,hp,hp2⟩:=mO.mp hw
refine wpAny_getItem_heap (rC hu) (q33 I.hok eb) dd hp ?_
rw[hp2]
exact h w' _ (I.tok _) rw')
theorem d_in{Q:Value→Shared→Prop}(hu:A.units+1<cLine)(I:Inv X pins σ H s)(g:DGet H a y o)(ry:RelV y u)(h:∀s',Inv X pins σ H s'→Q (.bool o.isSome) s'):
 wpAny (model X.prog X.w) A (compareOp .In u (.ref a)) Q E s:=by(
rcases g with⟨kvs,k,e,ey,l⟩|⟨kvs,k,b,e,ey,eb,l⟩
·subst ey;obtain⟨z,hd,vs,rel,dd⟩:=q1L I.hok e;refine wpAny_in_of (q3T ry) hd dd.mapOf ?_;rw[←(rel.val k).isSome_eq,←l];exact h _ (I.tok _)
subst ey
cases(show u=Value.ref b from ry)
obtain⟨z,hd,xs,rel,dd⟩:=q56 I.hok e
refine wpAny_in_heap (rC hu) (q33 I.hok eb) hd dd ?_
have q:=(rel.val k).isSome_eq
rw[pH]at q
rw[←q,←l]
exact h _ (I.tok _))
theorem qBU{Q:Value→Shared→Prop}(hu:A.units+1<cLine)(I:Inv X pins σ H s)(g:DGet H a y o)(ry:RelV y u)(h:∀s',Inv X pins σ H s'→Q (.bool (!o.isSome)) s'):
 wpAny (model X.prog X.w) A (compareOp .NotIn u (.ref a)) Q E s:=by(
rcases g with⟨kvs,k,e,ey,l⟩|⟨kvs,k,b,e,ey,eb,l⟩
·subst ey;obtain⟨z,hd,vs,rel,dd⟩:=q1L I.hok e;refine nJ (q3T ry) hd dd.mapOf ?_;rw[←(rel.val k).isSome_eq,←l];exact h _ (I.tok _)
subst ey
cases(show u=Value.ref b from ry)
obtain⟨z,hd,xs,rel,dd⟩:=q56 I.hok e
refine wpAny_notIn_heap (rC hu) (q33 I.hok eb) hd dd ?_
have q:=(rel.val k).isSome_eq
rw[pH]at q
rw[←q,←l]
exact h _ (I.tok _))
theorem q5R{h':Heap}{t':Nat}{ob:HO}(I:Inv X pins σ H s)(mu:Mut (H a))(hs:Heap.SameBut a s.heap h')(he:∃q,h'.get? a=some q)(new:jU X.prog X.w (upd H a ob) h' a ob):
 Inv X pins σ (upd H a ob) { s with heap:=h',toks:=t' }:=I.write (x:=a) (e:=a) mu (.inl rfl) (λb q hb z=>(hs.2 b hb).trans z) he new
theorem qAT{P:Program}{w:World}{H':Hp}{h':Heap}{kvs:List (Key×V)}{vs:List (Key×Value)}(z:kvs.length≤sizeLine)(hd:(a==sysModules)=false)(rel:KV kvs vs)(dd:h'.DictOf (jA P w) a vs):
 jU P w H' h' a (.dK kvs):=⟨z,hd,vs,rel,dd⟩
theorem qCT{H':Hp}{Q:Unit→Shared→Prop}(hu:A.units+1<cLine)(I:Inv X pins σ H s)(g:DPut H a y v H')(ry:RelV y u)(rv:RelV v r)(h:∀s',Inv X pins σ H' s'→Q () s'):
 wpAny (model X.prog X.w) A (setItem (.ref a) u r) Q E s:=by(
rcases g with⟨kvs,k,e,ey,l,eH⟩|⟨kvs,k,b,e,ey,eb,l,eH⟩
·subst ey eH;obtain⟨z,hd,vs,rel,dd⟩:=q3U I.hok e;have hz:vs.length≤sizeLine:=by rw[←rel.length];exact z
 have hl:(putK kvs k v).length≤sizeLine:=by have:=q1K kvs k v;omega
 refine wpAny_setItem_pairs (hsz:=hz) (q3T ry) dd λh' dd' hs=>h _ ?_;have he:∃q,h'.get? a=some q:=let⟨q,_,_,hq,_⟩:=dd';⟨q,hq⟩
 exact q5R I (by rw[e];exact True.intro) hs he (qAT hl hd (rel.put k rv) dd')
subst ey eH
cases(show u=Value.ref b from ry)
obtain⟨z,hd,xs,rel,dd⟩:=qJQ I.hok e
have hz:xs.length≤sizeLine:=by rw[←lG rel];exact z
have hl:(putK kvs k v).length≤sizeLine:=by have:=q1K kvs k v;omega
refine wpAny_setItem_heap (hsz:=hz) (rC hu) (q33 I.hok eb) dd λh' dd' hs=>h _ ?_
obtain⟨q,es,ep,hq,h2,h3,h4,_,h5⟩:=dd'
refine q5R I (by rw[e];exact True.intro) hs ⟨q,hq⟩ ⟨hl,hd,_,(rel.put k eb rv).keeps λc ys ec=>?_,q,es,ep,hq,h2,h3,h4,h5⟩
rw[qD (jP ec e (λz=>nomatch z))]
exact ec)
end
section
variable{X:Cx}{pins:List (Addr×Obj)}{σ:St}{H:Hp}{s:Shared}{a:Addr}{kvs:List (Key×V)}{k:Key}{u:Value}{A:Around}{E:Value→Shared→Prop}
theorem qJR{v:V}{more:List Value}{Q:Value→Shared→Prop}(I:Inv X pins σ H s)(e:H a=some (.dK kvs))(ry:RelV (kV k) u)(l:valV kvs k=some v)(hm:more=[]∨∃x,more=[x])
 (h:∀w' s',Inv X pins σ (upd H a (.dK (q63 kvs k))) s'→RelV v w'→Q w' s'):wpAny (model X.prog X.w) A (call (.builtin "dict.pop") (.ref a::u::more)) Q E s:=by(
obtain⟨z,hd,vs,rel,dd⟩:=q3U I.hok e
obtain⟨w',hw,rw'⟩:=RelO.some_of (v:=v) (o:=valueAt vs k) (by rw[←l];exact rel.val k)
have hp:(keyPart u).isSome=true:=by
 cases k with
 |inl i=>obtain⟨t,q⟩:=(show ∃t,u=Value.int i t from ry);subst q;rfl
 |inr x=>obtain⟨t,q⟩:=(show ∃t,u=Value.str x t from ry);subst q;rfl
have ha:argsOk "dict.pop" ⟨.ref a::u::more,[]⟩:=by
 rcases hm with q|⟨x,q⟩
 ·subst q;exact PySem.F.args_dict_pop_2 _ _
 subst q;exact PySem.F.args_dict_pop_3 _ _ _
refine rZ sQ dd.typeIs PySem.F.entry_dict_pop ha (meets_dict_pop_there (jA X.prog X.w) a (q3T ry) more hm hp)
 ⟨vs,w',dd,by rw[←rel.length];exact z,hw,λh' dd' hs=>h w' _ ?_ rw'⟩
have he:∃q,h'.get? a=some q:=let⟨q,_,_,hq,_⟩:=dd';⟨q,hq⟩
exact q5R I (by rw[e];exact True.intro) hs he (qAT (mJ (qDX kvs k) z) hd (rel.drop k) dd'))
theorem qJS{Q:Value→Shared→Prop}(I:Inv X pins σ H s)(e:Rd H a (.dK kvs))(h:∀t s',Inv X pins σ H s'→Q (.int kvs.length t) s'):wpAny (model X.prog X.w) A (call (.builtin "len") [.ref a]) Q E s:=by(
obtain⟨z,hd,vs,rel,dd⟩:=q1L I.hok e
refine call_len_dict hd dd (by rw[←rel.length];rw[gR]at z;omega) ?_
rw[←rel.length]
exact h _ _ (I.tok _))
end
noncomputable def NoSl(i:Expr):Prop:=∀ov iv,subscripted i false ov iv=operate [ov,iv] (getItem ov iv)
theorem qFO{prog:Program}{w:World}{A:Around}{E:Value→Shared→Prop}{s:Shared}{env:Env}{value slice:Expr}{pos:Pos}{T id:String}{Q:Value→Shared→Prop}
 (hl:typeLookup (.type T) "__getitem__"=pure (some (.builtin id))) (hs:NoSl slice)
 (h:wpAny (model prog w) A (eval value env) (λo s₁=>wpAny (model prog w) A (eval slice env) (λi s₂=>s₂.TypeIs o T∧wpAny (model prog w) A (getItem o i) Q E s₂) E s₁) E s):
 wpAny (model prog w) A (eval (.Subscript value slice pos) env) Q E s:=by(
refine xR (gN h (λo s₁ h₁=>gN h₁ (λi s₂ h₂=>?_) λ_ _ x=>x) λ_ _ x=>x)
obtain⟨hT,h₂⟩:=h₂
unfold subscriptTail
refine kD ?_
rw[getitemInPython_of_ne hT.not_modules]
refine kD (wpAny_specialOf hT hl ?_)
have fin:wpAny (model prog w) A (subscripted slice false o i) (λr s₃=>wpAny (model prog w) A (letTemporaryGo value o r >>= λ_=>pure r) Q E s₃) E s₂:=by rw[hs o i];exact wpAny_operating (gN h₂ (λr s₃ h₃=>kD (wpAny_letTemporaryGo (kZ h₃))) λ_ _ x=>x)
first
 |exact kZ (kD fin)
 |exact kD (kZ (kD fin))
 |exact kD fin)
theorem q9L{X:Cx}{pins:List (Addr×Obj)}{σ:St}{H:Hp}{s:Shared}{a:Addr}{y:V}{o:Option V}(I:Inv X pins σ H s)(g:DGet H a y o):s.TypeIs (.ref a) "dict":=by(
rcases g with⟨kvs,k,e,_,_⟩|⟨kvs,k,b,e,_,_,_⟩
·obtain⟨_,_,vs,_,dd⟩:=q1L I.hok e;exact dd.typeIs
obtain⟨_,_,xs,_,dd⟩:=q56 I.hok e
exact dd.typeIs)
noncomputable def qJT(td ty:TE):TE:=λσ H Q=>td σ H λx H1=>ty σ H1 λy H2=>∃a v,x=.ref a∧DGet H2 a y (some v)∧Q v H2
noncomputable def tDIn(ty td:TE):TE:=λσ H Q=>ty σ H λy H1=>td σ H1 λx H2=>∃a o,x=.ref a∧DGet H2 a y o∧Q (.bl o.isSome) H2
noncomputable def qFP(ty td:TE):TE:=λσ H Q=>ty σ H λy H1=>td σ H1 λx H2=>∃a o,x=.ref a∧DGet H2 a y o∧Q (.bl (!o.isSome)) H2
noncomputable def qH0(td ty tv:TE):TS:=λD σ H=>tv σ H λv H1=>td σ H1 λx H2=>ty σ H2 λy H3=>∃a H4,x=.ref a∧DPut H3 a y v H4∧D.nx σ H4
section
variable{X:Cx}{o i e value:Expr}{pos pos' tpos:Pos}{td ty tv:TE}
theorem qK(hu:X.A.units+1<cLine)(ho:PE X o td)(hi:PE X i ty)(hs:NoSl i):PE X (.Subscript o i pos) (qJT td ty):=by(
intro pins s σ H Q I h
refine qFO PySem.F.slot_dict_getitem.lookup hs (thn (ho pins s σ H _ I h) λu s1 ⟨x,H1,I1,rx,q1⟩=>thn (hi pins s1 σ H1 _ I1 q1) λiv s2 hZ=>?_)
obtain⟨y,H2,I2,ry,a,v,ex,g,q2⟩:=hZ
subst ex
obtain rfl:u=Value.ref a:=rx
exact⟨q9L I2 g,qCS hu I2 g ry λw' s3 I3 rw'=>⟨v,H2,I3,rw',q2⟩⟩)
theorem q8H(hu:X.A.units+1<cLine)(hi:PE X i ty)(ho:PE X o td):PC X .In i o (tDIn ty td):=by(
intro pins s σ H Q I h
refine thn (hi pins s σ H _ I h) λiv s1 ⟨y,H1,I1,ry,q1⟩=>thn (ho pins s1 σ H1 _ I1 q1) λu s2 hZ=>?_
obtain⟨x,H2,I2,rx,a,ov,ex,g,q2⟩:=hZ
subst ex
obtain rfl:u=Value.ref a:=rx
exact d_in hu I2 g ry λs3 I3=>⟨.bl ov.isSome,H2,I3,rfl,q2⟩)
theorem q7V(hu:X.A.units+1<cLine)(hi:PE X i ty)(ho:PE X o td):PC X .NotIn i o (qFP ty td):=by(
intro pins s σ H Q I h
refine thn (hi pins s σ H _ I h) λiv s1 ⟨y,H1,I1,ry,q1⟩=>thn (ho pins s1 σ H1 _ I1 q1) λu s2 hZ=>?_
obtain⟨x,H2,I2,rx,a,ov,ex,g,q2⟩:=hZ
subst ex
obtain rfl:u=Value.ref a:=rx
exact qBU hu I2 g ry λs3 I3=>⟨.bl (!ov.isSome),H2,I3,rfl,q2⟩)
theorem zJ(hu:X.A.units+1<cLine)(ho:PE X o td)(hi:PE X i ty)(hv:PE X value tv)(hs:swapsWith value (some (.Subscript o i pos')) pos.line X.env=pure false):
 PS X (.Assign [.Subscript o i pos'] value pos) (qH0 td ty tv):=by(
intro pins s σ H D I h
refine wpAny_Assign_Subscript (thn (hv pins s σ H _ I h) λr s1 ⟨v,H1,I1,rv,q1⟩=>thn (ho pins s1 σ H1 _ I1 q1) λu s2 ⟨x,H2,I2,rx,q2⟩=>thn (hi pins s2 σ H2 _ I2 q2) λiv s3 hZ=>?_) hs
obtain⟨y,H3,I3,ry,a,H4,ex,g,q3⟩:=hZ
subst ex
obtain rfl:u=Value.ref a:=rx
exact qCT hu I3 g ry rv λs4 I4=>⟨σ,H4,I4,q3⟩)
end
theorem q9M{P:Program}{w:World}{H:Hp}(h:Heap)(hb:sysModules<h.objs.size):jU P w H (h.push { cls:=.type "dict",data:=.dict #[] }) h.objs.size (.dK []):=⟨mS _,dZ.mpr (d5 (mD hb)),[],.nil,Heap.DictOf.new h⟩
noncomputable def qHM:TE:=λ_ H Q=>∀p,H p=none→Q (.ref p) (upd H p (.dK []))
section
variable{X:Cx}{pos:Pos}
theorem uK:PE X (.Dict [] [] pos) qHM:=λpins s σ H Q I h=>wpAny_Dict_empty ⟨.ref s.heap.objs.size,_,I.laid (a:=s.heap.objs.size) (o:=.dK []) (t':=s.toks) (λ_ _ q=>hX _ q) (kH _) (q9M s.heap I.big),rfl,h _ (I.hok.fresh (kH _))⟩
end
noncomputable def qAU:List (TE×TE)→St→Hp→(List (V×V)→Hp→Prop)→Prop
| [],_,H,Q=>Q [] H
|(tk,tv)::r,σ,H,Q=>tk σ H λx H1=>tv σ H1 λy H2=>qAU r σ H2 λps H3=>Q ((x,y)::ps) H3
noncomputable abbrev VV:List (V×V)→List (Value×Value)→Prop:=Paired λp q=>RelV p.1 q.1∧RelV p.2 q.2
noncomputable def PPs(X:Cx)(pos:Pos)(keys:List (Option Expr))(values:List Expr)(trs:List (TE×TE)):Prop:=∀(pins:List (Addr×Obj)) (s:Shared) (σ:St) (H:Hp) (Q:List (V×V)→Hp→Prop),Inv X pins σ H s→qAU trs σ H Q→wpAny (model X.prog X.w) X.A (evalPairs (pairTrees keys values X.env pos)) (λvs s'=>∃ps H',Inv X pins σ H' s'∧VV ps vs∧Q ps H') X.xe s
theorem qBV{X:Cx}{pos:Pos}:PPs X pos [] [] []:=λpins s σ H Q I h=>pairTrees_nil_walk ⟨[],H,I,.nil,h⟩
theorem zT{X:Cx}{pos:Pos}{k v:Expr}{ks:List (Option Expr)}{vs:List Expr}{tk tv:TE}{trs:List (TE×TE)}(hk:PE X k tk)(hv:PE X v tv)(hr:PPs X pos ks vs trs):
 PPs X pos (some k::ks) (v::vs) ((tk,tv)::trs):=λpins s σ H Q I h=>
 pairTrees_cons_walk (thn (hk pins s σ H _ I h) λu s1 ⟨x,H1,I1,rx,q1⟩=>thn (hv pins s1 σ H1 _ I1 q1) λw2 s2 ⟨y,H2,I2,ry,q2⟩=>thn (hr pins s2 σ H2 _ I2 q2) λws s3 ⟨ps,H3,I3,rel,q3⟩=>⟨(x,y)::ps,H3,I3,.cons ⟨rx,ry⟩ rel,q3⟩)
noncomputable def q0T(kvs more:List (Key×V)):List (Key×V):=more.foldl (λacc kv=>putK acc kv.1 kv.2) kvs
theorem KV.merge:∀{more:List (Key×V)} {rs:List (Key×Value)} {kvs:List (Key×V)} {vs:List (Key×Value)},KV more rs→KV kvs vs→KV (q0T kvs more) (merged vs rs):=by(
intro more rs kvs vs r
unfold KV at r
induction r generalizing kvs vs with
|nil=>intro q;exact q
|@cons p q ps qs h t ih=>
 intro r0;have e:KV (putK kvs p.1 p.2) (stored vs q.1 q.2):=by have:=r0.put p.1 h.2;rw[←h.1];exact this
 exact ih e)
theorem q2S:∀(more kvs:List (Key×V)),(q0T kvs more).length≤kvs.length+more.length
| [],kvs=>by show kvs.length≤kvs.length+0;omega
|p::r,kvs=>by have h1:=q2S r (putK kvs p.1 p.2);have h2:=q1K kvs p.1 p.2;show(q0T (putK kvs p.1 p.2) r).length≤_;rw[gD];omega
theorem q65{P:Program}{w:World}:∀{kvs:List (Key×V)} {ws:List (Value×Value)},VV (kvs.map λkv=>(kV kv.1,kv.2)) ws→∃rs,Carries (jA P w) ws rs∧KV kvs rs
| [],_,r=>by rw[pZ]at r;cases r;exact⟨[],True.intro,.nil⟩
|p::kvs,_,r=>by
 rw[mZ]at r;cases r with
 |@cons a b as bs h t=>obtain⟨rs,c,q⟩:=q65 (P:=P) (w:=w) t;obtain⟨b1,b2⟩:=b;exact⟨(p.1,b2)::rs,⟨q3T h.1,rfl,c⟩,.cons ⟨rfl,h.2⟩ q⟩
noncomputable def qJU(trs:List (TE×TE)):TE:=λσ H Q=>∀p,H p=none→qAU trs σ (upd H p (.dK [])) λps H2=>H2 p=some (.dK [])∧∃kvs:List (Key×V),ps=kvs.map (λkv=>(kV kv.1,kv.2))∧kvs.length≤15∧Q (.ref p) (upd H2 p (.dK (q0T [] kvs)))
theorem qBW{X:Cx}{pos:Pos}{keys:List (Option Expr)}{values:List Expr}{trs:List (TE×TE)}(h:PPs X pos keys values trs)(hall:keys.all (·.isSome)=true)(hl:keys.length=values.length)(h0:keys≠[])
 (h15:keys.length≤15):PE X (.Dict keys values pos) (qJU trs):=by(
intro pins s σ H Q I q
have hn:=I.hok.fresh (kH s.heap.objs.size)
have I1:=I.laid (a:=s.heap.objs.size) (o:=.dK []) (h':=s.heap.push { cls:=.type "dict",data:=.dict #[] }) (t':=s.toks) (λ_ _ q=>hX _ q) (kH _) (q9M s.heap I.big)
refine wpAny_Dict_walk (knd:=jA X.prog X.w) hall hl h0 h15 (thn (h pins _ σ _ _ I1 (q _ hn)) λws s2 hZ=>?_)
obtain⟨ps,H2,I2,rel,e,kvs,ep,lk,q2⟩:=hZ
subst ep
obtain⟨rs,c,rk⟩:=q65 (P:=X.prog) (w:=X.w) rel
obtain⟨z,hd,vs0,r0,dd⟩:=q3U I2.hok e
cases r0
refine⟨rs,c,dd,λh' dd' hs=>⟨.ref s.heap.objs.size,_,?_,rfl,q2⟩⟩
have hz:(q0T [] kvs).length≤sizeLine:=by have h1:=q2S kvs [];rw[sF]at h1;rw[gR];omega
have he:∃q,h'.get? s.heap.objs.size=some q:=let⟨q,_,_,hq,_⟩:=dd';⟨q,hq⟩
exact q5R I2 (by rw[e];exact True.intro) hs he (qAT hz hd (rk.merge .nil) dd'))
structure M1(X:Cx)(o:Expr)(m:Str)(apos:Pos)(e:Expr)(cpos:Pos):Prop where
base:attributeBase o m X.env (eval o X.env)=eval o X.env
few:((backTo cpos (starEach [e] X.env)).all (λx=>!x.1)&&(backToKw cpos (keywordEach [] X.env)).all (λx=>x.1.isSome)
 &&decide (([e]:List Expr).length+([]:List Keyword).length+(if([]:List Keyword).isEmpty then 0 else 1)<30))=true
line:(apos.endLine==cpos.line)=true
trees:backTo cpos (starEach [e] X.env)=[(false,eval e X.env)]
structure M2(X:Cx)(o:Expr)(m:Str)(apos:Pos)(e f:Expr)(cpos:Pos):Prop where
base:attributeBase o m X.env (eval o X.env)=eval o X.env
few:((backTo cpos (starEach [e,f] X.env)).all (λx=>!x.1)&&(backToKw cpos (keywordEach [] X.env)).all (λx=>x.1.isSome)
 &&decide (([e,f]:List Expr).length+([]:List Keyword).length+(if([]:List Keyword).isEmpty then 0 else 1)<30))=true
line:(apos.endLine==cpos.line)=true
trees:backTo cpos (starEach [e,f] X.env)=[(false,eval e X.env),(false,eval f X.env)]
noncomputable def IsD(H:Hp)(a:Addr):Prop:=(∃kvs,Rd H a (.dK kvs))∨∃kvs,Rd H a (.dT kvs)
theorem qAV{X:Cx}{pins:List (Addr×Obj)}{σ:St}{H:Hp}{s:Shared}{a:Addr}(I:Inv X pins σ H s)(d:IsD H a):
 s.TypeIs (.ref a) "dict"∧(∀b,Value.ref a=.ref b→∃ob,s.heap.get? b=some ob∧ob.dict=none)∧(a==sysModules)=false:=by(
rcases d with⟨kvs,e⟩|⟨kvs,e⟩
·obtain⟨_,hd,vs,_,dd⟩:=q1L I.hok e;refine⟨dd.typeIs,λb q=>?_,hd⟩;cases q;obtain⟨ob,_,_,h1,h2,_⟩:=dd;exact⟨ob,h1,h2.2.1⟩
obtain⟨_,hd,xs,_,dd⟩:=q56 I.hok e
refine⟨dd.typeIs,λb q=>?_,hd⟩
cases q
obtain⟨ob,_,_,h1,h2,_⟩:=dd
exact⟨ob,h1,h2.2.1⟩)
section
variable{X:Cx}{pins:List (Addr×Obj)}{σ:St}{H:Hp}{s:Shared}{a:Addr}{y d:V}{u r:Value}{o:Option V}{A:Around}{E:Value→Shared→Prop}
theorem qHN{Q:Value→Shared→Prop}(hu:A.units+1<cLine)(I:Inv X pins σ H s)(g:DGet H a y o)(ry:RelV y u)(h:∀w' s',Inv X pins σ H s'→RelV (o.getD .non) w'→Q w' s'):
 wpAny (model X.prog X.w) A (call (.builtin "dict.get") [.ref a,u]) Q E s:=by(
rcases g with⟨kvs,k,e,ey,l⟩|⟨kvs,k,b,e,ey,eb,l⟩
·subst ey;obtain⟨z,hd,vs,rel,dd⟩:=q1L I.hok e;refine rZ gU dd.typeIs dF (pQ _ _) (meets_dict_get (jA X.prog X.w) a (q3T ry) hd) ⟨_,dd.mapOf,h _ _ (I.tok _) ?_⟩;rw[l];exact(rel.val k).getD rfl
subst ey
cases(show u=Value.ref b from ry)
obtain⟨z,hd,xs,rel,dd⟩:=q56 I.hok e
refine rZ gU dd.typeIs dF (pQ _ _) (meetsH_dict_get (tupleKind (jA X.prog X.w)) a b hd) ⟨rC hu,k,xs,q33 I.hok eb,dd,h _ _ (I.tok _) ?_⟩
rw[l]
exact(rel.val k).getD rfl)
theorem qHO{Q:Value→Shared→Prop}(hu:A.units+1<cLine)(I:Inv X pins σ H s)(g:DGet H a y o)(ry:RelV y u)(rd:RelV d r)(h:∀w' s',Inv X pins σ H s'→RelV (o.getD d) w'→Q w' s'):
 wpAny (model X.prog X.w) A (call (.builtin "dict.get") [.ref a,u,r]) Q E s:=by(
rcases g with⟨kvs,k,e,ey,l⟩|⟨kvs,k,b,e,ey,eb,l⟩
·subst ey;obtain⟨z,hd,vs,rel,dd⟩:=q1L I.hok e;refine rZ gU dd.typeIs dF (rQ _ _ _) (cB (jA X.prog X.w) a (q3T ry) hd r) ⟨_,dd.mapOf,h _ _ (I.tok _) ?_⟩;rw[l];exact(rel.val k).getD rd
subst ey
cases(show u=Value.ref b from ry)
obtain⟨z,hd,xs,rel,dd⟩:=q56 I.hok e
refine rZ gU dd.typeIs dF (rQ _ _ _) (meetsH_dict_get_default (tupleKind (jA X.prog X.w)) a b hd r) ⟨rC hu,k,xs,q33 I.hok eb,dd,h _ _ (I.tok _) ?_⟩
rw[l]
exact(rel.val k).getD rd)
end
noncomputable def qHP(td ty:TE):TE:=λσ H Q=>td σ H λx H1=>∃a,x=.ref a∧IsD H1 a∧ty σ H1 λy H2=>∃o,DGet H2 a y o∧Q (o.getD .non) H2
noncomputable def qHQ(td ty:TE):TE:=λσ H Q=>td σ H λx H1=>∃a,x=.ref a∧IsD H1 a∧ty σ H1 λy H2=>∃kvs k v,H2 a=some (.dK kvs)∧y=kV k∧valV kvs k=some v∧Q v (upd H2 a (.dK (q63 kvs k)))
section
variable{X:Cx}{o e f:Expr}{apos cpos:Pos}{td ty tx:TE}
theorem qDY(hu:X.A.units+1<cLine)(ho:PE X o td)(he:PE X e ty)(m:M1 X o "get" apos e cpos):PE X (.Call (.Attribute o "get" apos) [e] [] cpos) (qHP td ty):=by(
intro pins s σ H Q I h
refine pI m.base m.few m.line rR gU sR (thn (ho pins s σ H _ I h) λu s1 hZ=>?_)
obtain⟨x,H1,I1,rx,a,ex,d,q1⟩:=hZ
subst ex
obtain rfl:u=Value.ref a:=rx
obtain⟨t1,t2,_⟩:=qAV I1 d
refine⟨t1,t2,?_⟩
rw[m.trees]
refine d6 rfl (wI (rY (thn (he pins s1 σ H1 _ I1 q1) λiv s2 ⟨y,H2,I2,ry,ov,g,q2⟩=>wY ?_)))
exact qHN hu I2 g ry λw' s3 I3 rw'=>⟨_,H2,I3,rw',q2⟩)
theorem q9N(ho:PE X o td)(he:PE X e ty)(m:M1 X o "pop" apos e cpos):PE X (.Call (.Attribute o "pop" apos) [e] [] cpos) (qHQ td ty):=by(
intro pins s σ H Q I h
refine pI m.base m.few m.line rR sQ PySem.F.type_dict_pop (thn (ho pins s σ H _ I h) λu s1 hZ=>?_)
obtain⟨x,H1,I1,rx,a,ex,d,q1⟩:=hZ
subst ex
obtain rfl:u=Value.ref a:=rx
obtain⟨t1,t2,_⟩:=qAV I1 d
refine⟨t1,t2,?_⟩
rw[m.trees]
refine d6 rfl (wI (rY (thn (he pins s1 σ H1 _ I1 q1) λiv s2 ⟨y,H2,I2,ry,kvs,k,v,ea,ey,l,q2⟩=>wY ?_)))
subst ey
exact qJR I2 ea ry l (.inl rfl) λw' s3 I3 rw'=>⟨v,_,I3,rw',q2⟩)
end
end L2
namespace Att
open PySem PySem.W PySem.Calls PyProof.Rows
theorem q5E{P:Params}{h:Heap}:∀(ns:List Int) (vs:List Value),WellAll P h vs (ns.map WData.int)→IntsAre vs ns:=by(
intro ns
induction ns with
|nil=>intro vs w;rw[pZ]at w;cases w;exact .nil
|cons n ns ih=>
 intro vs w;rw[mZ]at w;cases w with
 |cons a b=>cases a;exact .cons _ _ (ih _ b))
theorem qCU{l:OpenLaw}{n:Nat}(hn:l.most=some n){P:Params}{h:Heap}{args:List WData}{vals:List Value}
 (hpre:l.row.toRowW.claim.pre args=true) (hwl:WellAll P h vals args):
 ∃a vs ns,vals=[Value.ref a]∧args=[WData.list (ns.map WData.int)]∧h.get? a=some { cls:=.type "list",data:=.seq vs.toArray }∧IntsAre vs ns∧ns.length≤n:=by(
have hsh:WShape.hasAll [] args [.list .int]=true:=(pre_splitW hpre).1
have hc:l.pre.holds [] { args:=args } =true:=(pre_splitW hpre).2
obtain⟨d,r,rfl,h1,h2⟩:=hasAllW_cons hsh
obtain rfl:=hasAllW_nil h2
obtain⟨xs,rfl,h3⟩:=hasW_list h1
obtain⟨ns,rfl⟩:=items_int h3
have hlen:ns.length≤n:=by
 unfold OpenLaw.pre at hc;have h4:(WTm.not (.lt (.lit (.int (n:Int))) (.len (.arg 0)))).holds [] { args:=[.list (ns.map .int)] } =true:=by have h4:=(holds_andW hc).1;rw[hn]at h4;exact h4
 have h5:=condW_of h4 (w_not (w_lt w_lit (w_len_list (w_arg rfl))));rw[hU]at h5;refine Nat.le_of_not_lt λq=>?_;have q':(n:Int)<((ns.length:Nat):Int):=by omega
 first
  |(rw[hI q']at h5;exact absurd h5 (by decide))
  |(simp at h5;omega)
cases hwl with
|cons w1 w2=>
 cases w2;cases w1 with
 |list ho hall=>exact⟨_,_,ns,rfl,rfl,ho,q5E ns _ hall,hlen⟩)
theorem qCV(l:OpenLaw)(args:List WData):l.row.toRowW.claim.post args (.bool true) args=true:=postW_of (r:=l.row.toRowW) (X:=(true==true))
  (show WShape.has [] (.bool true) .bool=true by first|rfl|decide|simp[WShape.has,WShape.arms,WShape.armsAll])
  (show(WTm.eq .res (.lit (.bool true))).value [] { args:=args,res:=some (.bool true),after:=args } =some (.bool (true==true))from w_eq_bool (w_res rfl) w_lit) rfl
theorem attach_call{l:OpenLaw}{n:Nat}{q:Program}{loose:List Str}{XP:(Str→Option Value)→Heap→Prop}{YP:World→Heap→Prop}{d:DefRec}
 (hn:l.most=some n) (hdf:d.params.defaults=[])
 (call:∀(w:World) (s₀ s₁:Shared) (mg mb:Str→Option Value) (fa:Addr) (o:Obj) (pm cd doc:Value) (a:Addr) (vs:List Value) (ns:List Int),Ground q loose [] XP w s₀ mg mb s₁.heap→YP w s₁.heap→s₁.heap.get? fa=some o→o.data=.func (docDef d.name d.params d.body d.scope pm cd doc)→s₁.heap.CodeRec cd d.name→mg d.name=some (.ref fa)→s₁.heap.get? a=some { cls:=.type "list",data:=.seq vs.toArray }→IntsAre vs ns→ns.length≤n→s₁.gens=#[]→codeAny (model l.prog w) callerA (.call (.ref fa) ⟨[.ref a],[]⟩) (λr s'=>r=.ok (.ret (.bool true))∧OldK s₁.heap s'.heap∧s'.os=s₁.os∧AllBare s'.gens) s₁):
 WalkO q loose XP YP l.row.toRowW d [] (λf vs=>PySem.call f vs):=by(
intro w s₀ s₁ mg mb G Y fa o pm cd doc dV kV ho hd hcd hD hmg hg args vals as hpre hlay hrd hwl hlo
obtain rfl:dV=.none:=Dflts.none hD hdf
obtain rfl:kV=.none:=Dflts.noKw hD
obtain⟨a,vs,ns,rfl,rfl,hobj,hints,hlen⟩:=qCU hn hpre hwl
refine enter_call (dS (call w s₀ s₁ mg mb fa o pm cd doc a vs ns G Y ho (fd_plain hd) hcd hmg hobj hints hlen hg) λr s' hq=>?_)
obtain⟨rfl,h2,h3,h4⟩:=hq
exact⟨.inl ⟨.bool true,.bool true,[],rfl,λ_=>rfl,.bool true,qCV l _,λ_=>⟨List.Pairwise.nil,λ_ hm=>(nomatch hm)⟩⟩,h2,h3,h4⟩)
end Att
namespace L2
open PySem PySem.Spec PyProof.Rows
theorem q7W:∀{vs:List Value} {ns:List Int},IntsAre vs ns→Vals (ns.map V.int) vs
|_,_,.nil=>.nil
|_,_,.cons n t h=>.cons ⟨t,rfl⟩ (q7W h)
noncomputable def qU(s:Stmt)(j:Nat):Stmt:=match s with
| .ClassDef _ _ _ body _ _ _ _ _ _ _=>body.getD j (.Pass ⟨0,0,0,0⟩)
|_=>.Pass ⟨0,0,0,0⟩
noncomputable def yU(s:Stmt):Arguments:=match s with
| .FunctionDef _ a _ _ _ _ _ _ _ _=>a
|_=>{ posonlyargs:=[],args:=[],vararg:=none,kwonlyargs:=[],kw_defaults:=[],kwarg:=none,defaults:=[] }
noncomputable def yI(s:Stmt):List Stmt:=match s with
| .FunctionDef _ _ b _ _ _ _ _ _ _=>b
|_=>[]
noncomputable def qH(s:Stmt):Scope:=match s with
| .FunctionDef _ _ _ _ _ _ sc _ _ _=>sc
|_=>{ kind:=.function,names:=[],isGenerator:=false,isCoroutine:=false }
noncomputable abbrev CX0:CXT:=λ_ _ _ _ _ _=>False
noncomputable abbrev E0:XK:=λ_ _ _=>False
theorem qQ{X:Cx}:q0B CX0 X E0:=λ_ _ _ _ _ _ _ h=>h.elim
theorem v5{A:Around}{k:Nat}(hr:Room k A):A.units+1<cLine:=wS (Nat.add_le_add_left (by decide:1≤64) _) hr.units
section
variable{X:Cx}
theorem pv(i:Nat){x:Str}{pos:Pos}(hN:X.N[i]?=some x:=by rfl)(hv:Vis X.env.scope x:=by first|exact Or.inl rfl|exact Or.inr (Or.inl rfl)|exact Or.inr (Or.inr rfl))(hd:(x==("__debug__":Str))=false:=by decide)
 (hcd:(x==("__classdict__":Str))=false:=by decide):PE X (.Name x pos) (tVar i):=qH9 hN hv hd hcd
end
theorem iteF{A B:Prop}(h:B):if false=true then A else B:=by rw[kE kN];exact h
theorem iteT{A B:Prop}(h:A):if true=true then A else B:=by rw[kG rfl];exact h
noncomputable def Same(H H':Hp):Prop:=∀b o,H b=some o→H' b=some o
theorem Same.refl(H:Hp):Same H H:=λ_ _ h=>h
theorem Same.trans{H H1 H2:Hp}(a:Same H H1)(b:Same H1 H2):Same H H2:=λc o h=>b c o (a c o h)
theorem Same.free{H H':Hp}(e:Same H H'){l:Addr}(h:H' l=Option.none):H l=Option.none:=by(
cases q:H l with
|none=>rfl
|some o=>rw[e l o q]at h;cases h)
theorem Same.seq{K:PySem.W.Frag}{H H':Hp}{a:Addr}{xs:List V}(e:Same H H')(h:SqL K H a xs):SqL K H' a xs:=by(
rcases h with(h|⟨o,h⟩)|h
·exact .inl (.inl (e _ _ h))
·exact .inl (.inr ⟨o,e _ _ h⟩)
exact .inr h)
section
variable{X:Cx}
theorem q4K:zC X (.builtin "len") (λxs H Q=>∃a kvs,xs=[V.ref a]∧H a=some (.dK kvs)∧Q (.int kvs.length) H):=by(
intro pins s σ H xs us Q I r h
obtain⟨a,kvs,rfl,ha,q⟩:=h
obtain⟨u,rfl,ru⟩:=zP r
cases ru
exact qJS I (.inl ha) λt s' I'=>⟨.int kvs.length,H,I',⟨t,rfl⟩,q⟩)
end
section
variable{X:Cx}
theorem q3V:PGet X (rIxL X.K):=by(
intro pins s σ H o i ov iv Q I ro ri h
obtain⟨p,xs,k,z,rfl,rfl,hq,he,q⟩:=h
cases ro
obtain⟨t,rfl⟩:=ri
obtain⟨its,r,pl,hz⟩:=I.list hq
obtain⟨j,h1,h2,h3,h4,h5⟩:=q5Q he
obtain⟨w,ew,rw'⟩:=r.get h2
have hl:=r.length
have hn:=q31
have fin:EP X pins σ Q w s:=⟨z,H,I,rw',q⟩
by_cases h0:0≤k
·have hj:k.toNat=j:=by rw[sY h0 h5]at h1;exact kI h1
 exact wpAny_getItem_list pl.isList h0 (by lia) (by rw[hj];simpa using ew) fin
have hj:(k+(its.toArray.size:Int)).toNat=j:=by rw[pV (by lia) h4]at h1;rw[kY,←hl];exact kI h1
exact pX pl.isList (by lia) (by rw[kY]<;>lia) (by lia) (by rw[hj];simpa using ew) fin)
end
noncomputable def isW:V→Bool
| .int _=>true
|_=>false
noncomputable def isI:V→Bool
| .int _=>true
| .bl _=>true
|_=>false
noncomputable def isB:V→Bool
| .bl _=>true
|_=>false
noncomputable def isS:V→Bool
| .str _=>true
|_=>false
inductive Knd(H:Hp):V→Prop where
|non:Knd H .non
|bl (b:Bool):Knd H (.bl b)
|int (i:Int):Knd H (.int i)
|str (x:Str):Knd H (.str x)
|lst {a:Addr} {xs:List V} (e:H a=some (.lst xs)):Knd H (.ref a)
|tup {a:Addr} {xs:List V} (e:H a=some (.tup xs)):Knd H (.ref a)
section
variable{K:PySem.W.Frag}{H:Hp}{x:V}
theorem qHR:PySem.W.kitOne K (.type "NoneType") (.type "int")=some false:=by kernel_rfl
theorem qHS:PySem.W.kitOne K (.type "bool") (.type "int")=some true:=by kernel_rfl
theorem qHT:PySem.W.kitOne K (.type "int") (.type "int")=some true:=by kernel_rfl
theorem qHU:PySem.W.kitOne K (.type "str") (.type "int")=some false:=by kernel_rfl
theorem qHV:PySem.W.kitOne K (.type "list") (.type "int")=some false:=by kernel_rfl
theorem qHW:PySem.W.kitOne K (.type "tuple") (.type "int")=some false:=by kernel_rfl
theorem qHX:PySem.W.kitOne K (.type "NoneType") (.type "bool")=some false:=by kernel_rfl
theorem qHY:PySem.W.kitOne K (.type "bool") (.type "bool")=some true:=by kernel_rfl
theorem qHZ:PySem.W.kitOne K (.type "int") (.type "bool")=some false:=by kernel_rfl
theorem qI0:PySem.W.kitOne K (.type "str") (.type "bool")=some false:=by kernel_rfl
theorem qI1:PySem.W.kitOne K (.type "list") (.type "bool")=some false:=by kernel_rfl
theorem qI2:PySem.W.kitOne K (.type "tuple") (.type "bool")=some false:=by kernel_rfl
theorem qI3:PySem.W.kitOne K (.type "NoneType") (.type "str")=some false:=by kernel_rfl
theorem qI4:PySem.W.kitOne K (.type "bool") (.type "str")=some false:=by kernel_rfl
theorem qI5:PySem.W.kitOne K (.type "int") (.type "str")=some false:=by kernel_rfl
theorem qI6:PySem.W.kitOne K (.type "str") (.type "str")=some true:=by kernel_rfl
theorem qI7:PySem.W.kitOne K (.type "list") (.type "str")=some false:=by kernel_rfl
theorem qI8:PySem.W.kitOne K (.type "tuple") (.type "str")=some false:=by kernel_rfl
theorem qI9:PySem.W.kitOne K (.type "tuple") (.type "tuple")=some true:=by kernel_rfl
theorem qDZ:PySem.W.kitOne K (.type "list") (.type "list")=some true:=by kernel_rfl
theorem Knd.ty(k:Knd H x):∃t,TyOf K H x t∧PySem.W.kitOne K t (.type "int")=some (isI x)∧PySem.W.kitOne K t (.type "bool")=some (isB x)∧PySem.W.kitOne K t (.type "str")=some (isS x):=by(
cases k with
|non=>exact⟨_,.non,qHR,qHX,qI3⟩
|bl b=>exact⟨_,.bl b,qHS,qHY,qI4⟩
|int i=>exact⟨_,.int i,qHT,qHZ,qI5⟩
|str y=>exact⟨_,.str y,qHU,qI0,qI6⟩
|lst e=>exact⟨_,.lst e,qHV,qI1,qI7⟩
|tup e=>exact⟨_,.tup e,qHW,qI2,qI8⟩)
theorem qE0(x:V):(if isI x=true then !isB x else false)=isW x:=by cases x<;>rfl
end
noncomputable def yV(ns:List Int)(k:Int):Int:=ns.getD k.toNat 0
theorem qCW{ns:List Int}{k:Int}(h0:0≤k)(h:k<ns.length):atI (ns.map V.int) k=some (.int (yV ns k)):=by(
obtain⟨j,rfl⟩:=gY h0
refine uZ ?_
have hj:j<ns.length:=by lia
unfold yV
simp[hj])
theorem qAW{ns:List Int}{k:Int}(h0:0≤k)(h:¬k<ns.length):yV ns k=0:=by unfold yV;rw[kQ,rF (by lia)];rfl
theorem Same.upd{H:Hp}{p:Addr}{o:HO}(h:H p=none):Same H (upd H p o):=λb u e=>by rw[qD (qG e h)];exact e
noncomputable abbrev NewO(H:Hp)(o:HO)(Q:VK):Prop:=∀p H',H p=none→Same H H'→H' p=some o→Q (.ref p) H'
theorem NewO.at{H:Hp}{o:HO}{Q:VK}(q:NewO H o Q)(p:Addr)(n:H p=none):Q (.ref p) (upd H p o):=q p _ n (Same.upd n) qF
section
variable{X:Cx}{e:Expr}{es:List Expr}{t:TA}{pos:Pos}
noncomputable def qJV(t:TA):TE:=λσ H Q=>t σ H λxs H1=>xs.length≤sizeLine∧NewO H1 (.tup xs) Q
noncomputable def qE1(t:TA):TE:=λσ H Q=>t σ H λxs H1=>xs.length≤sizeLine∧NewO H1 (.lst xs) Q
theorem q2F{x1}(h:PA X es t):PE X (.Tuple es x1 pos) (qJV t):=by(
intro pins s σ H Q I hq
refine wpAny_Tuple_spliced (thn (h pos pins s σ H _ I hq) λus s1 ⟨xs,H1,I1,r,z,q⟩=>⟨by rw[←r.length];exact z,?_⟩)
have hf:H1 s1.heap.objs.size=none:=I1.hok.fresh (kH _)
refine⟨.ref s1.heap.objs.size,upd H1 s1.heap.objs.size (.tup xs),I1.laid (t':=s1.toks) (λb u e=>hX _ e) (kH _) ?_,rfl,q.at _ hf⟩
exact⟨z,us,r,⟨_,k7 _ rfl,rfl,_,rfl⟩⟩)
theorem jX(h:PA X es t):PE X (.List es pos) (qE1 t):=by(
intro pins s σ H Q I hq
refine wpAny_List_spliced (thn (h pos pins s σ H _ I hq) λus s1 ⟨xs,H1,I1,r,z,q⟩=>⟨by rw[←r.length];exact z,?_⟩)
have hf:H1 s1.heap.objs.size=none:=I1.hok.fresh (kH _)
refine⟨.ref s1.heap.objs.size,upd H1 s1.heap.objs.size (.lst xs),I1.laid (t':=s1.toks) (λb u e=>hX _ e) (kH _) ?_,rfl,q.at _ hf⟩
exact⟨z,us,0,r,k7 _ rfl⟩)
noncomputable def qJW:R2:=λx y H Q=>∃l b xs zs,x=.ref l∧y=.ref b∧H l=some (.lst xs)∧H b=some (.lst zs)∧xs.length+zs.length≤sizeLine∧NewO H (.lst (xs++zs)) Q
theorem qBX:OpR X (binaryOp .Add) qJW:=by intro pins s σ H x y v u Q I rx ry hZ;obtain⟨l,b,xs,zs,e1,e2,h1,h2,h3,q⟩:=hZ;exact qHK pins s σ H x y v u Q I rx ry ⟨l,b,xs,zs,e1,e2,h1,h2,h3,q.at⟩
noncomputable def qJX:R2:=λx y H Q=>∃l k v,x=.ref l∧y=.int k∧H l=some (.lst [v])∧0≤k∧k≤100000∧NewO H (.lst (List.replicate k.toNat v)) Q
theorem q9O{α:Type}(v:α):∀k:Nat,(List.replicate k [v]).flatten=List.replicate k v
|0=>rfl
|k+1=>by rw[dG,wF,q9O v k,dG];rfl
theorem q0U:OpR X (binaryOp .Mult) qJX:=by(
intro pins s σ H x y v u Q I rx ry hZ
obtain⟨l,k,z,e1,e2,h1,h2,h3,q⟩:=hZ
refine qHL pins s σ H x y v u Q I rx ry ⟨l,k,[z],e1,e2,h1,by lia,by lia,?_,?_⟩
·rw[gR,cE];lia
rw[q9O]
exact q.at)
theorem q6X:zC X (.type "list") (λxs H Q=>∃p ys,xs=[.ref p]∧(SqL X.K H p ys∨SqT X.K H p ys)∧NewO H (.lst ys) Q):=by intro pins s σ H xs us Q I r hZ;obtain⟨p,ys,e,h,q⟩:=hZ;exact q8G pins s σ H xs us Q I r ⟨p,ys,e,h,q.at⟩
end
noncomputable def qBY:Sp:=λvs H Q _=>∃x,vs=[x]∧Knd H x∧Q (.bl (isW x)) H
noncomputable def inB(x:V)(lo hi:Int):Bool:=match x with
| .int i=>decide (lo≤i)&&decide (i≤hi)
|_=>false
noncomputable def qE2:Sp:=λvs H Q _=>∃x lo hi,vs=[x,.int lo,.int hi]∧Knd H x∧Q (.bl (inB x lo hi)) H
noncomputable def qIA(K:PySem.W.Frag):Sp:=λvs H Q _=>∃a ns k,vs=[.ref a,.int k]∧SqL K H a (ns.map V.int)∧0≤k∧Q (.int (yV ns k)) H
end L2
namespace L2
open PySem
theorem lt2{vs:Array Value}{v:Value}(h:vs[2]?=some v):1<vs.size:=Nat.lt_of_succ_lt (wJ.mp h).1
noncomputable def ExO(h:Heap)(e:Addr)(C:Value)(od:Option Addr)(vs:Array Value):Prop:=∃oe,h.get? e=some oe∧oe.cls=C∧oe.dict=od∧oe.data=.fields vs∧vs[2]?=some .none
noncomputable def TrO(h:Heap)(e T:Addr)(vs:Array Value)(f:Value):Prop:=vs[1]?=some (.ref T)∧T≠e∧∃oT ts,h.get? T=some oT∧oT.data=.fields ts∧ts[3]?=some f
noncomputable def Air(L:Addr)(h:Heap)(e:Addr)(C:Value)(od:Option Addr):Option Addr→Prop
|none=>∃vs,ExO h e C od vs∧vs[1]?=some .none
|some T=>∃vs f,ExO h e C od vs∧TrO h e T vs f∧(f=.none∨f=rawInt L)
noncomputable def Held(f:Value)(h:Heap)(e T:Addr)(C:Value)(od:Option Addr):Prop:=∃vs,ExO h e C od vs∧TrO h e T vs f
structure Chg(fr rs:List Addr)(h h':Heap):Prop where
keep:∀b o,b∉fr→b∉rs→h.get? b=some o→h'.get? b=some o
slot:∀b o,b∉rs→h.get? b=some o→∃sl,h'.get? b=some { o with slots:=sl }
there:∀b o,h.get? b=some o→∃o',h'.get? b=some o'
theorem Chg.refl{fr rs:List Addr}{h:Heap}:Chg fr rs h h:=⟨λ_ _ _ _ e=>e,λ_ o _ e=>⟨o.slots,e⟩,λ_ o e=>⟨o,e⟩⟩
theorem Chg.trans{fr rs:List Addr}{h h1 h2:Heap}(x:Chg fr rs h h1)(y:Chg fr rs h1 h2):Chg fr rs h h2:=⟨λb o f r e=>y.keep b o f r (x.keep b o f r e),λb o r e=>let⟨_,e1⟩:=x.slot b o r e;let⟨sl,e2⟩:=y.slot b _ r e1;⟨sl,e2⟩,λb o e=>let⟨_,e1⟩:=x.there b o e;y.there b _ e1⟩
theorem Chg.fresh{fr rs rs':List Addr}{h h1 h2:Heap}(x:Chg fr rs h h1)(y:Chg fr rs' h1 h2)(n:∀b∈rs',b∈rs∨h.get? b=none):Chg fr rs h h2:=by
 have m:∀b o,b∉rs→h.get? b=some o→b∉rs':=λb o r e z=>(n b z).elim r λq=>by rw[q]at e;cases e
 exact⟨λb o f r e=>y.keep b o f (m b o r e) (x.keep b o f r e),λb o r e=>let⟨_,e1⟩:=x.slot b o r e;let⟨sl,e2⟩:=y.slot b _ (m b o r e) e1;⟨sl,e2⟩,λb o e=>let⟨_,e1⟩:=x.there b o e;y.there b _ e1⟩
theorem Chg.slots{fr rs:List Addr}{h h':Heap}(x:Heap.SlotsOnly fr h h'):Chg fr rs h h':=⟨λb o f _ e=>(x.2.1 b f).trans e,λb o _ e=>x.2.2 b o e,λb o e=>let⟨sl,q⟩:=x.2.2 b o e;⟨_,q⟩⟩
theorem Chg.upd{fr rs:List Addr}{h:Heap}{a:Addr}{f:Obj→Obj}(ha:a∈rs)(hf:∀o,h.get? a=some o→(f o).isFreed=false):Chg fr rs h (h.update a f):=by(
have k:∀b o,b∉rs→h.get? b=some o→(h.update a f).get? b=some o:=λb o r e=>by exact(mM h f (λ(q:a=b)=>r (q▸ha))).trans e
refine⟨λb o _ r e=>k b o r e,λb o r e=>⟨o.slots,k b o r e⟩,λb o e=>?_⟩
by_cases q:b=a
·subst q;exact⟨_,wE f e (hf o e)⟩
exact⟨o,by rw[mM h f (d5 q)];exact e⟩)
theorem Chg.push{fr rs:List Addr}{h:Heap}{o:Obj}:Chg fr rs h (h.push o):=⟨λb u _ _ e=>hX _ e,λb u _ e=>⟨u.slots,hX _ e⟩,λb u e=>⟨u,hX _ e⟩⟩
theorem qCX(o:Obj)(f:Array Value→Array Value):(o.mapFields f).dict=o.dict:=by obtain⟨c,d,dt,sl⟩:=o;cases dt<;>rfl
theorem ExO.set{h:Heap}{e:Addr}{C:Value}{od:Option Addr}{vs:Array Value}(x:ExO h e C od vs)(i:Nat)(v:Value)(hi:i≠2:=by decide):ExO (h.update e (Obj.mapFields (·.setIfInBounds i v))) e C od (vs.setIfInBounds i v):=by obtain⟨oe,h1,h2,h3,h4,h5⟩:=x;have hd:=wT h4 (·.setIfInBounds i v);exact⟨_,wE _ h1 (rG hd),(Obj.cls_mapFields _ _).trans h2,(qCX _ _).trans h3,hd,(Array.getElem?_setIfInBounds_ne hi).trans h5⟩
theorem ExO.of{h h':Heap}{e:Addr}{C:Value}{od:Option Addr}{vs:Array Value}(x:ExO h e C od vs)(k:∀o,h.get? e=some o→h'.get? e=some o):ExO h' e C od vs:=let⟨oe,h1,r⟩:=x;⟨oe,k _ h1,r⟩
section
variable{M:Model}{A:Around}{E:Value→Shared→Prop}{s:Shared}{env:Env}{outer:List Env}{L e T:Addr}{C:Value}{od:Option Addr}{base:Heap}
theorem ExO.nofr{h:Heap}{l:List Env}{vs:Array Value}(x:ExO h e C od vs)(hl:h.FunFrames base l):e∉l.filterMap (·.frame):=λhm=>by(
obtain⟨_,o,ho,hn⟩:=hl.mem hm
obtain⟨oe,h1,_,_,h4,_⟩:=x
rw[h1]at ho
cases ho
exact hn _ h4)
theorem q9P{head:Value}{hn:Bool}{vs:Array Value}{Q:Unit→Shared→Prop}(hfr:A.frames=some (env::outer))(hl:s.heap.FunFrames base (env::outer))(hf:env.frame=some L)(x:ExO s.heap e C od vs)
 (q:∀h' T,Chg ((env::outer).filterMap (·.frame)) [e] s.heap h'→Held (rawInt L) h' e T C od→s.heap.objs.size≤T→Q () { s with heap:=h' }):
 wpAny M A (do let a←frameOf env;let pl←entryPlaceOf L hn;let b←EntryCells.newEntry head a .none (rawInt L) .none pl;setField (.ref e) 1 b) Q E s:=by(
have ne:=x.nofr hl
refine kD (wpAny_frameOf_fun hfr hl hf λh1 so=>kD (wpAny_entryPlaceOf λpl hp=>?_))
unfold EntryCells.newEntry newFields
refine kD (pJ ?_ (hp.sizeOk5 _ _ _ _ _))
have x1:ExO h1 e C od vs:=x.of λo z=>(so.2.1 e ne).trans z
have x2:=x1.of (h':=h1.push _) λo z=>hX { cls:=.type "traceback",dict:=none,data:=.fields ([head,.ref L,.none,rawInt L,.none]++(if pl.isEmpty then List.replicate 6 Value.none else pl)).toArray } z
obtain⟨oe,a1,a2,a3,a4,a5⟩:=id x2
refine nK a1 a4 (lt2 a5) ?_
have hlt:e<h1.objs.size:=let⟨_,z,_⟩:=x1;kL z
have fresh:s.heap.objs.size≤h1.objs.size:=cZ so.1.symm
refine q _ h1.objs.size (((Chg.slots so).trans Chg.push).trans (Chg.upd (kJ.mpr rfl) λo z=>?_)) ⟨_,x2.set 1 _,?_,rW hlt,{ cls:=.type "traceback",dict:=none,data:=.fields ([head,.ref L,.none,rawInt L,.none]++(if pl.isEmpty then List.replicate 6 Value.none else pl)).toArray },_,?_,rfl,?_⟩ fresh
·rw[a1]at z;cases z;exact rG (wT a4 _)
·simp[lt2 a5]
·rw[mM _ _ (mD hlt)];exact k7 h1 rfl
first|(simp;done)|(rcases hp with rfl|⟨_,_,_,_,_,_,_,rfl⟩<;>simp))
theorem q8I{tr:Option Addr}{Q:Unit→Shared→Prop}(hfr:A.frames=some (env::outer))(hl:s.heap.FunFrames base (env::outer))(hf:env.frame=some L)(x:Air L s.heap e C od tr)
 (q:∀h' T,Chg ((env::outer).filterMap (·.frame)) (e::tr.toList) s.heap h'→Held (rawInt L) h' e T C od→(T∈tr∨s.heap.objs.size≤T)→Q () { s with heap:=h' }):
 wpAny M A (noteFrame (.ref e) env) Q E s:=by(
unfold noteFrame
simp only[hf]
cases tr with
|none=>obtain⟨vs,x,h1⟩:=x;obtain⟨oe,a1,a2,a3,a4,a5⟩:=id x;refine kD (cL a1 a4 h1 ?_);rw[kE (by decide)];exact q9P hfr hl hf x λh' T c hd n=>q h' T c hd (.inr n)
|some T=>
 obtain⟨vs,f,x,⟨t1,t2,oT,ts,t3,t4,t5⟩,hfl⟩:=x;obtain⟨oe,a1,a2,a3,a4,a5⟩:=id x;refine kD (cL a1 a4 t1 ?_);rw[kG (by simp)];refine kD (cL t3 t4 t5 ?_);rcases hfl with rfl|rfl
 ·rw[kE (by simp[rawInt])];refine kD (nK t3 t4 (wJ.mp t5).1 ?_);have k:∀b o,b≠T→s.heap.get? b=some o→(s.heap.update T (Obj.mapFields (·.setIfInBounds 3 Value.none))).get? b=some o:=λb o n z=>(mM _ _ (d5 n)).trans z;have hl2:(s.heap.update T (Obj.mapFields (·.setIfInBounds 3 Value.none))).FunFrames base (env::outer):=hl.of_keeps λb o z nf=>⟨o,k b o (λw=>by subst w;rw[t3]at z;cases z;exact nf _ t4) z,rfl⟩;refine q9P (s:={ s with heap:=s.heap.update T (Obj.mapFields (·.setIfInBounds 3 Value.none)) }) hfr hl2 hf (x.of λo z=>k e o (d5 t2) z) λh' T' c hd n=>q h' T' ?_ hd ?_
  ·refine(Chg.upd (a:=T) (by simp) λo z=>?_).fresh c λb hb=>.inl ?_
   ·rw[t3]at z;cases z;exact rG (wT t4 _)
   rw[kJ.mp hb];exact kO
  exact .inr (mJ (cZ (Heap.size_after_update ..).symm) n)
 rw[kG (by simp)];exact kZ (q _ T .refl ⟨vs,x,t1,t2,oT,ts,t3,t4,t5⟩ (.inl rfl)))
theorem q0Q{f:Value}{fr:Option Addr}{Q:Unit→Shared→Prop}(x:Held f s.heap e T C od)
 (q:∀h',Chg [] [T] s.heap h'→Held (fr.elim .none λf=>rawInt f) h' e T C od→Q () { s with heap:=h' }):wpAny M A (setFlight (.ref e) fr) Q E s:=by(
obtain⟨vs,x,t1,t2,oT,ts,t3,t4,t5⟩:=x
obtain⟨oe,a1,a2,a3,a4,a5⟩:=id x
have hz:=(wJ.mp t5).1
unfold setFlight
refine kD (cL a1 a4 t1 ?_)
rw[kG (by simp)]
have hd:=wT t4 (·.setIfInBounds 3 (fr.elim .none λf=>rawInt f))
refine nK t3 t4 hz (q _ (Chg.upd (by simp) λo z=>?_) ⟨vs,x.of λo z=>?_,t1,t2,_,_,wE _ t3 (rG hd),hd,by simp[hz]⟩)
·rw[t3]at z;cases z;exact rG hd
exact(mM _ _ t2).trans z)
theorem Held.air{f:Value}{h:Heap}(x:Held f h e T C od)(hf:f=.none∨f=rawInt L):Air L h e C od (some T):=let⟨vs,a,b⟩:=x;⟨vs,f,a,b,hf⟩
theorem qE3{tr:Option Addr}{Q:Unit→Shared→Prop}(hfr:A.frames=some (env::outer))(hl:s.heap.FunFrames base (env::outer))(hf:env.frame=some L)(x:Air L s.heap e C od tr)
 (q:∀h' T,Chg ((env::outer).filterMap (·.frame)) (e::tr.toList) s.heap h'→Held .none h' e T C od→(T∈tr∨s.heap.objs.size≤T)→Q () { s with heap:=h' }):wpAny M A (leaving env (.ref e)) Q E s:=by(
unfold leaving
refine kD (q8I hfr hl hf x λh' T c hd n=>q0Q hd λh2 c2 hd2=>q h2 T ?_ hd2 n)
refine c.fresh (rs':=[T]) ⟨λb o _ r z=>c2.keep b o (by simp) r z,c2.slot,c2.there⟩ λb hb=>?_
rw[kJ.mp hb]
exact n.imp (λz=>kF _ (by cases tr with|none=>cases z|some t=>cases z;exact kJ.mpr rfl)) wG)
end
end L2
namespace L2
open PySem PySem.Spec PyProof.Rows
section
variable{P:Program}{w:World}{H:Hp}{h h':Heap}{a:Addr}{o:HO}
theorem jU.there(x:jU P w H h a o):∃ob,h.get? a=some ob:=by(
cases o with
|lst xs=>obtain⟨_,_,_,_,e⟩:=x;exact⟨_,e⟩
|tup xs=>obtain⟨_,_,_,_,e,_⟩:=x;exact⟨_,e⟩
|dK kvs=>obtain⟨_,_,_,_,o,_,_,e,_⟩:=x;exact⟨_,e⟩
|dT kvs=>obtain⟨_,_,_,_,o,_,_,e,_⟩:=x;exact⟨_,e⟩
|set S n=>obtain⟨o,_,_,_,e,_⟩:=x;exact⟨_,e⟩
|ins C dx fs=>obtain⟨_,_,_,e,_⟩:=x;exact⟨_,e⟩
|own y=>exact x
|xd fs=>obtain⟨_,⟨_,_,_,e,_⟩,_⟩:=x;exact⟨_,e⟩
|rng lo hi=>obtain⟨_,_,_,e⟩:=x;exact⟨_,e⟩
|frz ob u=>exact⟨_,x.1⟩
|tbl ps=>exact⟨_,show h.get? a=some _ from x⟩
|met f y=>exact⟨_,show h.get? a=some _ from x⟩
|ext φ=>exact x.2.1)
theorem HOk.free(x:HOk P w H h)(e:h.get? a=none):H a=none:=by(
cases q:H a with
|none=>rfl
|some o=>obtain⟨_,z⟩:=(x a o q).there;rw[e]at z;cases z)
theorem HOk.chg{fr rs:List Addr}(x:HOk P w H h)(c:Chg fr rs h h')(hf:∀b∈fr,H b=none)(hr:∀b∈rs,H b=none):HOk P w H h':=by(
intro a o e
refine(x a o e).stay (λb u hb z=>?_) (λ_ q=>q) λ_ _ q=>q
have n:H b≠none:=by
 rcases hb with rfl|q
 ·rw[e];intro y;cases y
 rw[q];intro y;cases y
exact c.keep b u (λm=>n (hf b m)) (λm=>n (hr b m)) z)
end
noncomputable def Recs(h:Heap)(rs:List Addr):Prop:=∀b∈rs,∃o vs,h.get? b=some o∧o.data=.fields vs
theorem Air.recs{L e:Addr}{h:Heap}{C:Value}{od tr:Option Addr}(x:Air L h e C od tr):Recs h (e::tr.toList):=by(
intro b hb
cases tr with
|none=>
 obtain⟨vs,⟨oe,a1,_,_,a4,_⟩,_⟩:=x;have e':b=e:=by simpa using hb
 subst e';exact⟨_,_,a1,a4⟩
|some T=>
 obtain⟨vs,f,⟨oe,a1,_,_,a4,_⟩,⟨_,_,oT,ts,t3,t4,_⟩,_⟩:=x;have e':b=e∨b=T:=by simpa using hb
 rcases e' with rfl|rfl
 ·exact⟨_,_,a1,a4⟩
 exact⟨_,_,t3,t4⟩)
noncomputable def Ours(X:Cx)(pins:List (Addr×Obj))(H:Hp)(rs:List Addr):Prop:=∀b∈rs,(X.s₀.heap.get? b=none∨b∈X.ex)∧H b=none∧∀p∈X.pn++pins,p.1≠b
section
variable{X:Cx}{pins:List (Addr×Obj)}{σ:St}{H:Hp}{s:Shared}{h':Heap}{rs:List Addr}
theorem Inv.chg{t':Nat}(I:Inv X pins σ H s)(c:Chg (frs X.stack) rs s.heap h')(o:Ours X pins H rs)(rc:Recs s.heap rs):Inv X pins σ H { s with heap:=h',toks:=t' }:=by(
obtain⟨m,hn,hv⟩:=I.loc
have nl:X.env.locals∉rs:=λz=>by obtain⟨ob,vs,e,d⟩:=rc _ z;obtain⟨o',es,ep,ho,hd,_⟩:=hn;rw[e]at ho;cases ho;rw[d]at hd;cases hd
have nc:∀c v,s.heap.IsCell c v→c∉rs:=λc v q z=>by obtain⟨ob,vs,e,d⟩:=rc _ z;obtain⟨o',ho,hd⟩:=q;rw[e]at ho;cases ho;rw[d]at hd;cases hd
have cellk:∀c v,s.heap.IsCell c v→h'.IsCell c v:=λa v q=>by have n:=nc a v q;obtain⟨o',ho,hd⟩:=q;obtain⟨sl,z⟩:=c.slot a o' n ho;exact⟨_,z,hd⟩
have old:∀b ob,X.s₀.heap.get? b=some ob→b∉X.ex→b∉rs:=λb ob q ne z=>by
 rcases(o b z).1 with y|y
 ·rw[q]at y;cases y
 exact ne y
have ns':h'.Ns X.env.locals m:=by obtain⟨o',es,ep,ho,r⟩:=hn;obtain⟨sl,z⟩:=c.slot _ o' nl ho;exact⟨_,es,ep,z,r⟩
refine⟨I.ok,I.os,I.bare,⟨λb ob q n nf ne=>?_,λb ob q n hf ne=>?_,I.base.free,λb ob q ne=>?_,I.base.tups,I.base.frzs,I.base.tbls⟩,⟨m,ns',λi x v e1 e2 e3=>?_⟩,λx a e=>?_,I.free,I.freeC,λp hp=>?_,I.hok.chg c I.stkFree λb hb=>(o b hb).2.1,I.len⟩
·refine c.keep b ob (λz=>?_) (old b ob q ne) (I.base.keep b ob q n nf ne);rcases kW.mp (I.stkSub b z)with rfl|y
 ·exact absurd (kL q) (cH.mpr I.ok.above)
 exact nf y
·obtain⟨sl,z⟩:=I.base.slot b ob q n hf ne;obtain⟨sl',z'⟩:=c.slot b _ (old b ob q ne) z;exact⟨sl',z'⟩
·obtain⟨o',z⟩:=I.base.there b ob q ne;exact c.there b o' z
·obtain⟨u,r,lk⟩:=hv i x v e1 e2 e3;refine⟨u,r,lk.imp id λ⟨k,cc,l,q⟩=>⟨k,cc,l,cellk _ _ q⟩⟩
·obtain⟨v,q⟩:=I.cell x a e;exact⟨v,cellk _ _ q⟩
obtain⟨p1,p2,p3,p4,p5⟩:=I.pin p hp
refine⟨c.keep _ _ (λz=>?_) (λz=>(o _ z).2.2 p hp rfl) p1,p2,p3,p4,p5⟩
rcases kW.mp (I.stkSub _ z)with y|y
·exact p3 y
exact p4 y)
end
noncomputable def CXe(P:Program)(w:World):CXT:=λouter H s E e s'=>∃ea T C od H',e=.ref ea∧s'.os=s.os∧AllBare s'.gens∧Un (frs outer) [] H H' s.heap s'.heap∧HOk P w H' s'.heap∧Held .none s'.heap ea T C od∧(s.heap.get? ea=none∧s.heap.get? T=none)∧(H' ea=none∧H' T=none)∧E C od H'
noncomputable def q05(X:Cx)(ES:St→XK):Prop:=∀(pins:List (Addr×Obj)) (σ:St) (H:Hp) (s:Shared) (ea:Addr) (tr:Option Addr) (C:Value) (od:Option Addr),Inv X pins σ H s→Air X.env.locals s.heap ea C od tr→Ours X pins H (ea::tr.toList)→ES σ C od H→X.xe (.ref ea) s
noncomputable def q0V(CX:CXT)(X:Cx)(ES:St→XK):Prop:=∀(pins:List (Addr×Obj)) (σ:St) (H:Hp) (s:Shared) (e:Value) (s':Shared),Inv X pins σ H s→CX X.stack H s (ES σ) e s'→X.xe e s'
theorem q05.passes{X:Cx}{ES:St→XK}(t:q05 X ES):q0V (CXe X.prog X.w) X ES:=by(
intro pins σ H s e s' I hZ
obtain⟨ea,T,C,od,H',e1,ho,hg,u,hok,hd,⟨f1,f2⟩,⟨g1,g2⟩,q⟩:=hZ
subst e1
refine t pins σ H' s' ea (some T) C od (I.call' ho u hok hg λb hb=>by cases hb) (hd.air (.inl rfl)) (λb hb=>?_) q
have key:∀b,s.heap.get? b=none→H' b=none→(X.s₀.heap.get? b=none∨b∈X.ex)∧H' b=none∧∀p∈X.pn++pins,p.1≠b:=λb f g=>by
 refine⟨?_,g,λp hp z=>?_⟩
 ·by_cases y:b∈X.ex
  ·exact .inr y
  refine .inl ?_;cases z:X.s₀.heap.get? b with
  |none=>rfl
  |some ob=>obtain⟨o',z'⟩:=I.base.there b ob z y;rw[f]at z';cases z'
 have y:=(I.pin p hp).1;rw[z,f]at y;cases y
have e':b=ea∨b=T:=by simpa using hb
rcases e' with rfl|rfl
·exact key _ f1 g1
exact key _ f2 g2)
theorem jE{P:Program}{w:World}{K:PySem.W.Frag}{mg:Str→Option Value}{base:Heap}{N:List Str}{qual:Str}{scope:Scope}{f:Addr}{cd:Value}{A:Around}{outer:List Env}{s:Shared}{H:Hp}{E:XK}:
 q05 (cxOf (CXe P w) P w K mg base N qual scope f cd A outer s H E) (λ_=>E):=by(
intro pins σ H' s' ea tr C od I air ours q
refine qE3 (base:=base) I.ok.frames I.stack rfl air λh' T c hd n=>?_
have I2:=I.chg (t':=s'.toks) c ours air.recs
have out:∀b,s'.heap.objs.size≤b→s.heap.get? b=none:=λb z=>by
 cases y:s.heap.get? b with
 |none=>rfl
 |some ob=>obtain⟨o',y'⟩:=I.base.there b ob y (by intro m;cases m);exact absurd (kL y') (cH.mpr z)
have own:∀b,b∈ea::tr.toList→s.heap.get? b=none∧H' b=none:=λb hb=>⟨(ours b hb).1.elim id (λz=>by cases z),(ours b hb).2.1⟩
have hT:s.heap.get? T=none∧H' T=none:=by
 rcases n with z|z
 ·exact own T (kF _ (by cases tr with|none=>cases z|some t=>cases z;exact kJ.mpr rfl))
 exact⟨out T z,I.hok.fresh z⟩
exact⟨ea,T,C,od,H',rfl,I.os,I.bare,I2.base,I2.hok,hd,⟨(own ea (kO)).1,hT.1⟩,⟨(own ea (kO)).2,hT.2⟩,q⟩)
noncomputable def qAX(C:Addr)(m:Str)(sp:Sp)(dvs:List V)(ES:St→XK)(ta:TE)(t:TA):TE:=λσ H Q=>ta σ H λx H1=>∃a dx fs,x=.ref a∧H1 a=some (.ins C dx fs)∧fs.lookup m=none∧t σ H1 λvs H2=>sp (x::(vs++dvs)) H2 Q (ES σ)
theorem vP{X:Cx}:q05 X (λ_ _ _ _=>False):=λ_ _ _ _ _ _ _ _ _ _ _ h=>h.elim
section
variable{X:Cx}{k:Nat}{f C:Addr}{fd:FuncData}{ps:List Str}{sp:Sp}{dvs:List V}{ds:List Value}{E:XK}{ES:St→XK}{x m:Str}{p pos apos:Pos}{e o:Expr}{es:List Expr}{ta:TE}{t:TA}
theorem qBZ{pins:List (Addr×Obj)}{σ:St}{H:Hp}{s:Shared}{Q:VK}{us:List Value}{vs:List V}(F:FnOk X.prog X.w X.K X.mg X.base (CXe X.prog X.w) k f fd ps sp)(hr:Room k X.A)(hb:yL X.K fd ps ds)(hd:Vals dvs ds)(tk:q05 X ES)
 (I:Inv X pins σ H s) (r:Vals vs us) (h:sp (vs++dvs) H Q (ES σ)):wpAny (model X.prog X.w) X.A (call (.ref f) us) (EP X pins σ Q) X.xe s:=by(
have r2:Vals (vs++dvs) (us++ds):=r.append hd
have hl:(us++ds).length=ps.length:=by rw[←r2.length];exact F.len _ _ _ _ h
refine wH (dS (F.run X.A X.stack s H ⟨us,[]⟩ (us++ds) (vs++dvs) Q (ES σ) hr I.env0 (hb s us I.kIn hl) r2 h) λr s' hq=>?_)
cases r with
|error e=>exact tk.passes pins σ H s e s' I hq
|ok fl=>
 cases fl with
 |ret u=>exact I.after hq
 |next=>exact False.elim hq
 |brk=>exact False.elim hq
 |cont=>exact False.elim hq)
theorem jB{pl:Sem Bool}(tk:q05 X ES)(he:PE X o ta)(c:Cls X.K C)(hm:Meth X.K C m f)(F:FnOk X.prog X.w X.K X.mg X.base (CXe X.prog X.w) k f fd ps sp)(hr:Room k X.A)(hb:yL X.K fd ps ds)(hd:Vals dvs ds)(ha:PA X (e::es) t)
 (hst:starEach (e::es) X.env=(false,eval e X.env)::starEach es X.env:=by rfl) (hpl:(backTo pos (starEach es X.env)).any (·.1)=false:=by rfl)
 (ht:eval (.Call (.Attribute o m apos) (e::es) [] pos) X.env=(do
  let ov←eval o X.env
  standAt apos.atName
  let(f,first)←holding [ov] (getMethod ov m pl)
  callWith pos f first (backTo pos (starEach (e::es) X.env)) (backToKw pos (keywordEach [] X.env))):=by rfl):
 PE X (.Call (.Attribute o m apos) (e::es) [] pos) (qAX C m sp dvs ES ta t):=by(
intro pins s σ H Q I h
refine rE (pl:=pl) (thn (he pins s σ H _ I h) λu s1 hZ=>?_) ht
obtain⟨x,H1,I1,rx,a,dx,fs,ex,ea,l,q⟩:=hZ
subst ex
obtain rfl:u=Value.ref a:=rx
refine zQ I1 ea c hm l ?_
refine rB (first:=[.ref a]) (h₀:=X.base) I.ok.mod.kin hm.kp (thn (ha pos pins s1 σ H1 _ I1 q) λus s2 ⟨vs,H2,I2,r,q2⟩=>⟨I2.kIn,?_⟩) hst hpl
exact qBZ (us:=.ref a::us) (vs:=.ref a::vs) F hr hb hd tk I2 (.cons rfl r) q2)
theorem q7X{pl:Sem Bool}(tk:q05 X ES)(he:PE X o ta)(c:Cls X.K C)(hm:Meth X.K C m f)(F:FnOk X.prog X.w X.K X.mg X.base (CXe X.prog X.w) k f fd ps sp)(hr:Room k X.A)(hb:yL X.K fd ps ds)(hd:Vals dvs ds)
 (ht:eval (.Call (.Attribute o m apos) [] [] pos) X.env=(do
  let ov←eval o X.env
  standAt apos.atName
  let(f,first)←holding [ov] (getMethod ov m pl)
  callWith pos f first (backTo pos (starEach [] X.env)) (backToKw pos (keywordEach [] X.env))):=by rfl):
 PE X (.Call (.Attribute o m apos) [] [] pos) (qAX C m sp dvs ES ta tNil):=by(
intro pins s σ H Q I h
refine rE (pl:=pl) (thn (he pins s σ H _ I h) λu s1 hZ=>?_) ht
obtain⟨x,H1,I1,rx,a,dx,fs,ex,ea,l,q⟩:=hZ
subst ex
obtain rfl:u=Value.ref a:=rx
refine zQ I1 ea c hm l ?_
exact nR (first:=[.ref a]) I1.kIn hm.kp (qBZ (us:=[.ref a]) (vs:=[.ref a]) F hr hb hd tk I1 (.cons rfl .nil) q))
end
structure FunD(K:PySem.W.Frag)(x qual:Str)(st:Stmt)(dV:Value)(f:Addr)(fd:FuncData):Prop where
ex:∃(oc:Value) (od:Option Addr) (kV doc pm:Value) (an:Option Addr) (cdv ct:Value) (osl:Array (Option Value)),fd=PySem.W.fnOf x qual (yU st) (yI st) (qH st) dV kV doc pm an cdv ct∧K.lookup f=some ⟨oc,od,.func fd,osl⟩∧PySem.W.codeIn K cdv qual=true
section
variable{P:Program}{w:World}{K:PySem.W.Frag}{mg:Str→Option Value}{base:Heap}{dV:Value}
theorem FunD.mk'{x qual:Str}{st:Stmt}{f:Addr}{oc:Value}{od an:Option Addr}{osl:Array (Option Value)}{kV doc pm cdv ct:Value}(l:K.lookup f=some ⟨oc,od,.func (PySem.W.fnOf x qual (yU st) (yI st) (qH st) dV kV doc pm an cdv ct),osl⟩)
 (c:PySem.W.codeIn K cdv qual=true):FunD K x qual st dV f (PySem.W.fnOf x qual (yU st) (yI st) (qH st) dV kV doc pm an cdv ct):=⟨⟨oc,od,kV,doc,pm,an,cdv,ct,osl,rfl,l,c⟩⟩
theorem FunD.okE{x qual:Str}{st:Stmt}{f:Addr}{fd:FuncData}{N ps:List Str}{k:Nat}{sp:Sp}(F:FunD K x qual st dV f fd)(S:FnScope N ps (qH st))(len:∀vs H Q E,sp vs H Q E→vs.length=ps.length)
 (hbody:∀(cdv:Value) (A:Around) (outer:List Env) (s:Shared) (H:Hp) (vs:List V) (Q:VK) (E:XK),Room k (A.deeper (envOfC qual (qH st) s.heap.objs.size f cdv))→sp vs H Q E→∃t,PSs (cxOf (CXe P w) P w K mg base N qual (qH st) f cdv A outer s H E) (yI st) t∧t { nx:=λ_ H'=>Q .non H',rt:=Q } (zR N vs) H):FnOk P w K mg base (CXe P w) (k+1) f fd ps sp:=by obtain⟨oc,od,kV,doc,pm,an,cdv,ct,osl,rfl,lk,hcd⟩:=F.ex;exact qDR lk hcd S len λA outer s H vs Q E hr hsp=>hbody cdv A outer s H vs Q E hr hsp
theorem FunD.ok0{x qual:Str}{st:Stmt}{f:Addr}{fd:FuncData}{N ps:List Str}{k:Nat}{sp:Sp}(F:FunD K x qual st dV f fd)(S:FnScope N ps (qH st))
 (hbody:∀(cdv:Value) (A:Around) (outer:List Env) (s:Shared) (H:Hp) (vs:List V) (Q:VK) (E:XK),Room k (A.deeper (envOfC qual (qH st) s.heap.objs.size f cdv))→sp vs H Q E→∃t,PSs (cxOf CX0 P w K mg base N qual (qH st) f cdv A outer s H E).nox (yI st) t∧t { nx:=λ_ H'=>Q .non H',rt:=Q } (zR N vs) H)(len:∀vs H Q E,sp vs H Q E→vs.length=ps.length:=by intro _ _ _ _ h;first|(cases h;subst_vars;rfl)|((repeat obtain⟨_,h⟩:=h);all_goals subst_vars;rfl)):FnOk P w K mg base CX0 (k+1) f fd ps sp:=by(
obtain⟨oc,od,kV,doc,pm,an,cdv,ct,osl,rfl,lk,hcd⟩:=F.ex
refine qDR lk hcd S len λA outer s H vs Q E hr hsp=>?_
obtain⟨t,h,q⟩:=hbody cdv A outer s H vs Q E hr hsp
exact⟨t,h.nox,q⟩)
end
noncomputable abbrev bmVE:List Value:=[.type "ValueError",.type "Exception",.type "BaseException",.type "object"]
noncomputable abbrev XCls(K:PySem.W.Frag)(C:Addr):Prop:=PySem.W.excIn K C bmVE "ValueError.__new__"=true
theorem qFQ{K:PySem.W.Frag}{C:Addr}(q:XCls K C):∃bm N nm qn bs hd sn sub ab col dd k0 k1 k2 k3 k5,K.lookup C=some (excClassObj nm qn C N bs bm hd sn sub ab col dd k0 k1 k2 k3 k5 "ValueError.__new__")∧PySem.W.tailIn K bmVE bm=true∧PySem.W.nsOkIn K N=true∧PySem.W.nsIn K N "__init__"=some none:=by(
unfold XCls PySem.W.excIn at q
split at q
·rename_i dd cd sl ho;split at q
 ·rename_i C' bm k0 k1 k2 k3 n k5 hm hs;obtain⟨nm,bs,mro,ns,qn,hd,sn,sub,ab,col,del⟩:=cd;obtain⟨l⟩:=sl;simp only[mE,rX,cC]at q hm hs;obtain⟨⟨⟨⟨⟨e1,e2⟩,e3⟩,e4⟩,e5⟩,e6⟩:=q;subst e1 e2 e3 hm hs;exact⟨bm,ns,nm,qn,bs,hd,sn,sub,ab,col,dd,k0,k1,k2,k3,k5,ho,e4,e5,e6⟩
 cases q
cases q)
noncomputable def qIB(ES:St→XK)(C:Addr)(t:TA):TS:=λ_ σ H=>t σ H λvs H1=>vs.length≤sizeLine∧ES σ (.ref C) none H1
section
variable{X:Cx}{ES:St→XK}{C:Addr}{x:Str}{np cpos pos:Pos}{e:Expr}{es:List Expr}{t:TA}
theorem qE4{pins:List (Addr×Obj)}{σ:St}{H:Hp}{s:Shared}{h':Heap}{ea:Addr}{C:Value}{vs:List Value}(I:Inv X pins σ H s)(m:Heap.MadeExcOf s.heap h' ea C vs):
 Air X.env.locals h' ea C none none∧Ours X pins H [ea]:=by(
obtain⟨t,m1,m2,m3⟩:=m.there
refine⟨⟨_,⟨_,m1,rfl,rfl,rfl,by simp⟩,rfl⟩,λb hb=>?_⟩
rw[kJ.mp hb]
refine⟨?_,I.hok.free m.new,λp hp z=>?_⟩
·by_cases y:ea∈X.ex
 ·exact .inr y
 refine .inl ?_;cases z:X.s₀.heap.get? ea with
 |none=>rfl
 |some ob=>obtain⟨o',z'⟩:=I.base.there ea ob z y;rw[m.new]at z';cases z'
have y:=(I.pin p hp).1
rw[z,m.new]at y
cases y)
theorem q1M(tk:q05 X ES)(hc:X.calm=true)(hg:Gl X x)(hm:X.mg x=some (.ref C))(hx:XCls X.K C)(ha:PA X (e::es) t)(hdb:(x==("__debug__":Str))=false:=by decide)
 (he:starEach (e::es) X.env=(false,eval e X.env)::starEach es X.env:=by rfl) (hpl:(backTo cpos (starEach es X.env)).any (·.1)=false:=by rfl):
 PS X (.Raise (some (.Call (.Name x np) (e::es) [] cpos)) none pos) (qIB ES C t):=by(
intro pins s σ H D I hq
obtain⟨bm,N,nm,qn,bs,hd,sn,sub,ab,col,dd,k0,k1,k2,k3,k5,lk,tl,ok,ni⟩:=qFQ hx
have kb:=I.mod.kin
have T0:=PySem.W.tail_of_in kb tl
have hN:X.base.Ns N (X.base.nsMap N):=.of_isNs (PySem.W.isNs_of_in kb ok)
have hni:=PySem.W.nsMap_none_of_in kb ok ni
have hplain:(backTo cpos (starEach (e::es) X.env)).any (·.1)=false:=by rw[he];show(false||(backTo cpos (starEach es X.env)).any (·.1))=false;rw[hpl];rfl
refine wpAny_Raise_call_subT (C:=C) (nm:=nm) (q:=qn) (N:=N) (bs:=bs) (bm:=bm) (hdct:=hd) (sn:=sn) (sub:=sub) (ab:=ab) (col:=col) (dd:=dd) (k0:=k0) (k1:=k1) (k2:=k2) (k3:=k3) (k5:=k5) (mN:=X.base.nsMap N)
 PySem.F.excBase_ValueError (T0.hasType (by decide)) (I.ok.hd hc) hplain hni (q3M I hg hm ⟨rfl,?_⟩ hdb)
have h0:=ha cpos pins s σ H _ I hq
rw[he]at h0 ⊢
refine PySem.Calls.evalArgs_plain (gN h0 (λus s1 h1=>?_) λ_ _ y=>y)
obtain⟨vs,H1,I1,r,hz,hE⟩:=h1
refine⟨rfl,by rw[←r.length];exact hz,I1.bk _ _ (kb _ _ lk),?_,T0.keeps I1.bk,λh' ea m=>?_⟩
·obtain⟨o',es',ep',z,rr⟩:=hN;exact⟨o',es',ep',I1.bk _ _ z,rr⟩
obtain⟨air,ours⟩:=qE4 I1 m
refine tk pins σ H1 { s1 with heap:=h' } ea none (.ref C) none (I1.kept (t':=s1.toks) m.keeps) air ours hE)
end
noncomputable abbrev Cx.tr(X:Cx)(pins:List (Addr×Obj))(XE:Value→Shared→Prop):Cx:={ X with pn:=X.pn++pins,xe:=XE }
noncomputable abbrev Cx.sui(X:Cx)(e:Addr):Cx:={ X with A:=X.A.mark (some (.ref e)),calm:=false,xe:=λ_ _=>False }
theorem Chg.mono{fr fr' rs rs':List Addr}{h h':Heap}(c:Chg fr rs h h')(f:∀b∈fr,b∈fr')(r:∀b∈rs,b∈rs'):Chg fr' rs' h h':=⟨λb o a z e=>c.keep b o (λy=>a (f b y)) (λy=>z (r b y)) e,λb o z e=>c.slot b o (λy=>z (r b y)) e,c.there⟩
theorem Held.recs{f:Value}{e T:Addr}{h:Heap}{C:Value}{od:Option Addr}(x:Held f h e T C od):Recs h [e,T]:=by(
obtain⟨vs,⟨oe,a1,_,_,a4,_⟩,_,_,oT,ts,t3,t4,_⟩:=x
intro b hb
have e':b=e∨b=T:=by simpa using hb
rcases e' with rfl|rfl
·exact⟨_,_,a1,a4⟩
exact⟨_,_,t3,t4⟩)
section
variable{X:Cx}{pins:List (Addr×Obj)}{σ:St}{H:Hp}{s:Shared}{XE:Value→Shared→Prop}
theorem Inv.tr(I:Inv X pins σ H s)(XE:Value→Shared→Prop):Inv (X.tr pins XE) [] σ H s:=have ok:=I.ok
 ⟨⟨ok.mod,ok.kind,ok.glob,ok.blt,ok.above,ok.inj,ok.has,ok.cab,ok.hd,ok.frames,ok.stk,ok.exf,ok.bs,ok.bsz,ok.noex,ok.exfs,ok.funs,ok.frf⟩,I.os,I.bare,I.base,I.loc,I.cell,I.free,I.freeC,λp hp=>I.pin p (by simpa using hp),I.hok,I.len⟩
theorem Inv.untr{ps:List (Addr×Obj)}(I:Inv (X.tr pins XE) ps σ H s):Inv X pins σ H s:=have ok:=I.ok
 ⟨⟨ok.mod,ok.kind,ok.glob,ok.blt,ok.above,ok.inj,ok.has,ok.cab,ok.hd,ok.frames,ok.stk,ok.exf,ok.bs,ok.bsz,ok.noex,ok.exfs,ok.funs,ok.frf⟩,I.os,I.bare,I.base,I.loc,I.cell,I.free,I.freeC,λp hp=>I.pin p (kU _ hp),I.hok,I.len⟩
theorem Inv.sui(I:Inv X pins σ H s)(e:Addr):Inv (X.sui e) pins σ H s:=have ok:=I.ok
 ⟨⟨ok.mod,ok.kind,ok.glob,ok.blt,ok.above,ok.inj,ok.has,ok.cab,(λz=>by cases z),ok.frames,ok.stk,ok.exf,ok.bs,ok.bsz,ok.noex,ok.exfs,ok.funs,ok.frf⟩,I.os,I.bare,I.base,I.loc,I.cell,I.free,I.freeC,I.pin,I.hok,I.len⟩
theorem Inv.unsui{e:Addr}(hc:X.calm=true→X.A.handled=none)(I:Inv (X.sui e) pins σ H s):Inv X pins σ H s:=have ok:=I.ok
 ⟨⟨ok.mod,ok.kind,ok.glob,ok.blt,ok.above,ok.inj,ok.has,ok.cab,hc,ok.frames,ok.stk,ok.exf,ok.bs,ok.bsz,ok.noex,ok.exfs,ok.funs,ok.frf⟩,I.os,I.bare,I.base,I.loc,I.cell,I.free,I.freeC,I.pin,I.hok,I.len⟩
theorem SP.untr{D:Ends}{f:Flow}{s':Shared}(h:SP (X.tr pins XE) [] D f s'):SP X pins D f s':=by(
cases f with
|next=>obtain⟨σ',H',I,q⟩:=h;exact⟨σ',H',I.untr,q⟩
|brk=>obtain⟨σ',H',I,q⟩:=h;exact⟨σ',H',I.untr,q⟩
|cont=>obtain⟨σ',H',I,q⟩:=h;exact⟨σ',H',I.untr,q⟩
|ret u=>obtain⟨v,σ',H',I,r,q⟩:=h;exact⟨v,σ',H',I.untr,r,q⟩)
theorem SP.unsui{e:Addr}{D:Ends}{f:Flow}{s':Shared}(hc:X.calm=true→X.A.handled=none)(h:SP (X.sui e) pins D f s'):SP X pins D f s':=by(
cases f with
|next=>obtain⟨σ',H',I,q⟩:=h;exact⟨σ',H',I.unsui hc,q⟩
|brk=>obtain⟨σ',H',I,q⟩:=h;exact⟨σ',H',I.unsui hc,q⟩
|cont=>obtain⟨σ',H',I,q⟩:=h;exact⟨σ',H',I.unsui hc,q⟩
|ret u=>obtain⟨v,σ',H',I,r,q⟩:=h;exact⟨v,σ',H',I.unsui hc,r,q⟩)
end
noncomputable def qJY(ea:Addr)(C:Value)(od:Option Addr):Heap→Prop:=λh=>∃o vs,h.get? ea=some o∧o.cls=C∧o.dict=od∧o.data=.fields vs
noncomputable abbrev XO(ea:Addr)(C:Value)(od:Option Addr):HO:=.ext (qJY ea C od)
noncomputable abbrev TH:=Ends→St→Hp→Addr→Value→Option Addr→Prop
noncomputable def PHs(X:Cx)(hs:List ExceptHandler)(t:TH):Prop:=∀(pins:List (Addr×Obj)) (s:Shared) (σ:St) (H:Hp) (D:Ends) (ea T:Addr) (C:Value) (od:Option Addr),Inv X pins σ H s→Held .none s.heap ea T C od→Ours X pins H [ea,T]→t D σ H ea C od→wpAny (model X.prog X.w) X.A (handleBy (.ref ea) X.env hs) (SP X pins D) X.xe s
section
variable{X:Cx}{ES:St→XK}
theorem qIC(tk:q05 X ES)(hf:X.env.frame=some X.env.locals:=by rfl):PHs X [] (λ_ σ H _ C od=>ES σ C od H):=by(
intro pins s σ H D ea T C od I hd ours q
refine wpAny_handleBy_nil ?_
unfold PySem.passOn
have rc:=hd.recs
obtain⟨vs,x,t1,t2,oT,ts,t3,t4,t5⟩:=id hd
obtain⟨oe,a1,a2,a3,a4,a5⟩:=id x
refine kD (cL a1 a4 t1 ?_)
rw[kE (by simp)]
refine kD (q0Q hd λh' c hd2=>wpAny_throw ?_)
rw[hf]at hd2
exact tk pins σ H { s with heap:=h' } ea (some T) C od (I.chg (t':=s.toks) (rs:=[ea,T]) (c.mono (by simp) (by simp)) ours rc) (hd2.air (.inr rfl)) ours q)
theorem Inv.pinX{pins:List (Addr×Obj)}{σ:St}{H:Hp}{s:Shared}{ea T:Addr}{C:Value}{od:Option Addr}{f:Value}(I:Inv X pins σ H s)(hd:Held f s.heap ea T C od)(ours:Ours X pins H [ea,T]):
 ∃oe oT,Inv X (pins++[(ea,oe),(T,oT)]) σ H s∧∀h':Heap,h'.get? ea=some oe→h'.get? T=some oT→Held f h' ea T C od:=by(
have rc:=hd.recs
obtain⟨vs,⟨oe,a1,a2,a3,a4,a5⟩,t1,t2,oT,ts,t3,t4,t5⟩:=hd
refine⟨oe,oT,I.pins_of λp hp=>?_,λh' z1 z2=>⟨vs,⟨oe,z1,a2,a3,a4,a5⟩,t1,t2,oT,ts,z2,t4,t5⟩⟩
have nl:∀b o ws,s.heap.get? b=some o→o.data=.fields ws→b≠X.env.locals∧b∉X.fs:=λb o ws e d=>by
 refine⟨λz=>?_,λz=>?_⟩
 ·obtain⟨m,⟨o',es,ep,ho,hd',_⟩,_⟩:=I.loc;rw[←z,e]at ho;cases ho;rw[d]at hd';cases hd'
 obtain⟨_,o',ho,hn⟩:=I.funs.mem z;rw[e]at ho;cases ho;exact hn _ d
rcases mP.mp hp with z|z
·exact I.pin p (kM _ z)
have z:p=(ea,oe)∨p=(T,oT):=by simpa using z
rcases z with rfl|rfl
·exact⟨a1,(ours ea (by simp)).2.1,(nl _ _ _ a1 a4).1,(nl _ _ _ a1 a4).2,λv q=>by rw[a4]at q;cases q⟩
exact⟨t3,(ours T (by simp)).2.1,(nl _ _ _ t3 t4).1,(nl _ _ _ t3 t4).2,λv q=>by rw[t4]at q;cases q⟩)
theorem q9Q{ty:Expr}{c:V}{cv:Value}{pins:List (Addr×Obj)}{s:Shared}{σ:St}{H:Hp}{ea T:Addr}{C:Value}{od:Option Addr}{b:Bool}{R:Result→Shared→Prop}{pos:Pos}(hc:PE (X.sui ea) ty (tC c))(rc:RelV c cv)
 (I:Inv X pins σ H s) (hh:X.calm=true→X.A.handled=none) (hd:Held .none s.heap ea T C od) (ours:Ours X pins H [ea,T]) (hx:PySem.W.exmOne X.K C cv=some b) (q:∀s',Inv X pins σ H s'→Held .none s'.heap ea T C od→R (.ok (if b then .brk else .next)) s'):
 codeAny (model X.prog X.w) (X.A.mark (some (.ref ea))) (.handlers (.ref ea) [.ExceptHandler (some ty) none [] pos] X.env) R s:=by(
obtain⟨oe,oT,I1,back⟩:=I.pinX hd ours
refine codeAny_handlers_test (gN (hc _ s σ H (λv H'=>v=c∧H'=H) (I1.sui ea) ⟨rfl,rfl⟩) (λu s1 h1=>?_) λ_ _ z=>z.elim)
obtain⟨v,H',I2,r,e1,e2⟩:=h1
subst e1 e2
have e3:u=cv:=by
 cases v with
 |non=>exact r.trans rc.symm
 |bl b=>exact r.trans rc.symm
 |ref a=>exact r.trans rc.symm
 |ty n=>exact r.trans rc.symm
 |int i=>obtain⟨t,e⟩:=r;obtain⟨t',e'⟩:=rc;subst e';unfold PySem.W.exmOne at hx;split at hx<;>cases hx
 |str i=>obtain⟨t,e⟩:=r;obtain⟨t',e'⟩:=rc;subst e';unfold PySem.W.exmOne at hx;split at hx<;>cases hx
 |byt i=>obtain⟨t,e⟩:=r;obtain⟨t',e'⟩:=rc;subst e';unfold PySem.W.exmOne at hx;split at hx<;>cases hx
 |flt i=>obtain⟨t,e⟩:=r;obtain⟨t',e'⟩:=rc;subst e';unfold PySem.W.exmOne at hx;split at hx<;>cases hx
subst e3
have p1:=(I2.pin (ea,oe) (by simp)).1
have p2:=(I2.pin (T,oT) (by simp)).1
have hd1:=back _ p1 p2
obtain⟨vs,⟨oe',z1,z2,_⟩,_⟩:=id hd1
have LT:PySem.W.Looks (model X.prog X.w) s1.heap (typeOf (.ref ea)) C:=by rw[←z2];exact(aS z1).andThen .now
have I3:Inv X pins σ H' s1:=(Inv.unsui hh I2).unpinned
exact(PySem.W.exm_one I2.kIn LT hx).here (q s1 I3 hd1))
theorem Inv.track{pins:List (Addr×Obj)}{σ:St}{H:Hp}{s:Shared}{ea:Addr}{C:Value}{od:Option Addr}{o:Obj}{vs:Array Value}(I:Inv X pins σ H s)(e:s.heap.get? ea=some o)(e1:o.cls=C)(e2:o.dict=od)(e3:o.data=.fields vs)
 (ours:Ours X pins H [ea]):Inv X pins σ (upd H ea (XO ea C od)) s:=by(
have w:=ours ea (by simp)
have ne:∀b o',X.s₀.heap.get? b=some o'→b∉X.ex→b≠ea:=λb o' z n y=>by
 subst y;rcases w.1 with q|q
 ·rw[z]at q;cases q
 exact n q
have nt:∀b u,H b=some u→b≠ea:=λb u z y=>by rw[y,w.2.1]at z;cases z
have nl:ea≠X.env.locals:=λz=>by obtain⟨m,⟨o',es,ep,ho,hd',_⟩,_⟩:=I.loc;rw[←z,e]at ho;cases ho;rw[e3]at hd';cases hd'
refine⟨I.ok,I.os,I.bare,⟨I.base.keep,I.base.slot,λb o' z n x=>?_,I.base.there,λb xs z=>?_,λb o' u z=>?_,λb ps z=>?_⟩,I.loc,I.cell,?_,λx c z=>?_,λp hp=>?_,λa u z=>?_,I.len⟩
·rw[qD (ne b o' z x)];exact I.base.free b o' z n x
·have:=I.base.tups b xs z;rw[qD (nt _ _ this)];exact this
·have:=I.base.frzs b o' u z;rw[qD (nt _ _ this)];exact this
·obtain⟨more,this⟩:=I.base.tbls b ps z;exact⟨more,by rw[qD (nt _ _ this)];exact this⟩
·rw[qD (d5 nl)];exact I.free
·have nc:c≠ea:=λy=>by obtain⟨v,o',ho,hd⟩:=I.cell x c z;rw[y,e]at ho;cases ho;rw[e3]at hd;cases hd
 rw[qD nc];exact I.freeC x c z
·obtain⟨p1,p2,p3,p4,p5⟩:=I.pin p hp;exact⟨p1,by rw[qD (w.2.2 p hp)];exact p2,p3,p4,p5⟩
by_cases y:a=ea
·subst y;rw[qF]at z;cases z;exact⟨⟨o,vs,e,e1,e2,e3⟩,⟨o,e⟩,λh1 h2 ⟨o1,ws,f1,f2⟩ k=>⟨o1,ws,k _ f1,f2⟩⟩
rw[qD y]at z
refine(I.hok a u z).stay (λ_ _ _ g=>g) (λb g=>?_) λb xs g=>?_
·rw[qD (nt _ _ g)];exact g
rw[qD (nt _ _ g)];exact g)
theorem Inv.goes{M:Model}{A:Around}{E:Value→Shared→Prop}{pins:List (Addr×Obj)}{σ:St}{H:Hp}{s:Shared}{i:Nat}{n:Str}{pos:Pos}{Q:Unit→Shared→Prop}(I:Inv X pins σ H s)(hN:X.N.Nodup)(hi:X.N[i]?=some n)
 (hk:X.env.kindOf n=some .local) (q:∀s',Inv X pins (σ.set i none) H s'→Q () s'):wpAny M A (do bindName X.env n .none;unbindBehindTheSuite X.env n pos) Q E s:=by(
obtain⟨m,hn,hv⟩:=I.loc
refine wpAny_nameGoes_keeps hk hn (by rw[I.ok.kind];rfl) λh' v hn' sb=>q _ ?_
have k:∀b o,b≠X.env.locals→s.heap.get? b=some o→h'.get? b=some o:=λb o z e=>(sb.2 b z).trans e
have cl:∀x c,X.env.cells.lookup x=some c→∀w,s.heap.IsCell c w→h'.IsCell c w:=λx c z w ⟨o,ho,hd⟩=>⟨o,k c o (I.cne x c z) ho,hd⟩
have below:∀b o,X.s₀.heap.get? b=some o→b≠X.env.locals:=λb o z y=>absurd (kL z) (cH.mpr (y▸I.ok.above))
refine⟨I.ok,I.os,I.bare,⟨λb o z a f x=>k b o (below b o z) (I.base.keep b o z a f x),λb o z a f x=>?_,I.base.free,λb o z x=>?_,I.base.tups,I.base.frzs,I.base.tbls⟩,⟨_,hn',λj x v' e1 e2 e3=>?_⟩,λx c z=>?_,I.free,I.freeC,λp hp=>?_,λa u z=>?_,by rw[gM];exact I.len⟩
·obtain⟨sl,y⟩:=I.base.slot b o z a f x;exact⟨sl,k b _ (below b o z) y⟩
·obtain⟨o',y⟩:=I.base.there b o z x;exact⟨o',k b _ (below b o z) y⟩
·have ne:j≠i:=λy=>by
  subst y;rw[List.getElem?_set_self']at e2;cases y:σ[j]? with
  |none=>rw[y]at e2;cases e2
  |some u=>rw[y]at e2;cases e2
 rw[rK (d5 ne)]at e2;have nx:x≠n:=λy=>by subst y;exact ne (q5W hN e1 hi)
 obtain⟨u,r,lk⟩:=hv j x v' e1 e2 e3;refine⟨u,r,?_⟩;rcases lk with⟨z1,z2⟩|⟨z1,c,z2,z3⟩
 ·refine .inl ⟨z1,?_⟩;show(if x=n then v else m x)=some u;rw[kE nx];exact z2
 exact .inr ⟨z1,c,z2,cl x c z2 _ z3⟩
·obtain⟨w,y⟩:=I.cell x c z;exact⟨w,cl x c z _ y⟩
·obtain⟨p1,p2,p3,p4,p5⟩:=I.pin p hp;exact⟨k _ _ p3 p1,p2,p3,p4,p5⟩
refine(I.hok a u z).stay (λb u' hb g=>k b u' (λy=>?_) g) (λ_ g=>g) λ_ _ g=>g
have f:=I.free
rw[←y]at f
rcases hb with rfl|w
·rw[z]at f;cases f
rw[w]at f;cases f)
theorem qJZ{ty:Expr}{c:V}{cv:Value}{n:Str}{i:Nat}{b₀:Stmt}{suite:List Stmt}{pos:Pos}{rest:List ExceptHandler}{ts:TS}{tr:TH}(hN:X.N.Nodup)(hi:X.N[i]?=some n)(hk:X.env.kindOf n=some .local)(hl:X.env.scope.names.lookup n=some .local)
 (hc:∀ea,PE (X.sui ea) ty (tC c)) (rc:RelV c cv) (hs:∀ea,PSs (X.sui ea) (b₀::suite) ts) (hr:PHs X rest tr):
 PHs X (.ExceptHandler (some ty) (some n) (b₀::suite) pos::rest) (λD σ H ea C od=>∃b,PySem.W.exmOne X.K C cv=some b∧if b=true then
  ts { nx:=λσ' H'=>D.nx (σ'.set i none) H',rt:=D.rt,bk:=λσ' H'=>D.bk (σ'.set i none) H',ct:=λσ' H'=>D.ct (σ'.set i none) H' } (σ.set i (some (.ref ea))) (upd H ea (XO ea C od))else tr D σ H ea C od):=by(
intro pins s σ H D ea T C od I hd ours hZ
obtain⟨b,hx,q⟩:=hZ
refine wpAny_handleBy_cons (q9Q (hc ea) rc I I.ok.hd hd ours hx λs' I' hd'=>?_) (by intro z;cases z)
cases b with
|false=>rw[kE (by simp)]at q;exact hr pins s' σ H D ea T C od I' hd' ours q
|true=>
 rw[kG rfl]at q;refine codeAny_handlers_suite_as (q0Q hd' λh' c hd2=>?_);have I2:=I'.chg (t':=s'.toks) (rs:=[ea,T]) (c.mono (by simp) (by simp)) ours hd'.recs;obtain⟨vs,⟨oe,a1,a2,a3,a4,_⟩,_⟩:=hd2;have I3:=I2.track a1 a2 a3 a4 λb hb=>ours b (by rw[kJ.mp hb];simp);refine q3L (X:=X.sui ea) (v:=.ref ea) (I3.sui ea) hN hi (.inl hl) rfl (λs2 I4=>?_) (.inr hl);refine gN (hs ea pins s2 _ _ _ I4 q) (λf s3 z=>?_) λ_ _ z=>z.elim;have z:=z.unsui I.ok.hd;show wpAny _ _ _ _ _ _;cases f with
 |next=>obtain⟨σ',H',J,y⟩:=z;exact J.goes hN hi hk λs4 J'=>⟨_,H',J',y⟩
 |brk=>obtain⟨σ',H',J,y⟩:=z;exact J.goes hN hi hk λs4 J'=>⟨_,H',J',y⟩
 |cont=>obtain⟨σ',H',J,y⟩:=z;exact J.goes hN hi hk λs4 J'=>⟨_,H',J',y⟩
 |ret u=>obtain⟨v,σ',H',J,r,y⟩:=z;exact J.goes hN hi hk λs4 J'=>⟨v,_,H',J',r,y⟩)
noncomputable def tTry(tb:(St→XK)→TS)(th:TH):TS:=λD σ H=>tb (λσ' C od H'=>∀ea,H' ea=none→th D σ' H' ea C od) D σ H
theorem qID{body:List Stmt}{h₀:ExceptHandler}{hs:List ExceptHandler}{pos:Pos}{tb:(St→XK)→TS}{th:TH}
 (hb:∀(pins:List (Addr×Obj)) (XE:Value→Shared→Prop) (ES:St→XK),q05 (X.tr pins XE) ES→PassesOwn (model X.prog X.w) X.A X.env XE→PSs (X.tr pins XE) body (tb ES)) (hh:PHs X (h₀::hs) th)
 (hfs:∃fr,X.stack=X.env::fr:=by exact⟨_,rfl⟩) (hf:X.env.frame=some X.env.locals:=by rfl):PS X (.Try body (h₀::hs) [] [] pos) (tTry tb th):=by(
intro pins s σ H D I q
refine wpAny_Try_except (gN (hb pins (λe s1=>wpAny (model X.prog X.w) X.A (noteFrame e X.env) (λ_ s2=>wpAny (model X.prog X.w) X.A (setFlight e none) (λ_ s3=>wpAny (model X.prog X.w) X.A (handleBy e X.env (h₀::hs)) (SP X pins D) X.xe s3) X.xe s2) X.xe s1)
 (λσ' C od H'=>∀ea,H' ea=none→th D σ' H' ea C od) ?_ PassesOwn.looking [] s σ H D (I.tr _) q) (λf s1 z=>?_) λe s1 z=>z)
·intro pins' σ' H' s' ea tr C od I' air ours y;obtain⟨fr,ek⟩:=hfs;have frames:X.A.frames=some (X.env::fr):=by rw[I.ok.frames,ek]
 have ff:s'.heap.FunFrames X.base (X.env::fr):=by rw[←ek];exact I'.stack
 refine q8I frames ff hf air λh' T c hd n=>?_;have en:frs X.stack=(X.env::fr).filterMap (·.frame):=by rw[ek];rfl
 have I2:Inv (X.tr pins _) pins' σ' H' { s' with heap:=h' }:=I'.chg (t':=s'.toks) (by show Chg (frs X.stack) _ _ _;rw[en];exact c) ours air.recs;have oT:Ours (X.tr pins λe s1=>wpAny (model X.prog X.w) X.A (noteFrame e X.env) (λ_ s2=>wpAny (model X.prog X.w) X.A (setFlight e none) (λ_ s3=>wpAny (model X.prog X.w) X.A (handleBy e X.env (h₀::hs)) (SP X pins D) X.xe s3) X.xe s2) X.xe s1) pins' H' [ea,T]:=by
  intro b hb;have hb:b=ea∨b=T:=by simpa using hb
  rcases hb with rfl|rfl
  ·exact ours b (by simp)
  rcases n with z|z
  ·exact ours b (kF _ (by cases tr with|none=>cases z|some t=>cases z;exact kJ.mpr rfl))
  refine⟨?_,I'.hok.fresh z,λp hp w=>?_⟩
  ·by_cases y:b∈X.ex
   ·exact .inr y
   refine .inl ?_;cases w:X.s₀.heap.get? b with
   |none=>rfl
   |some ob=>obtain⟨o',w'⟩:=I'.base.there b ob w y;exact absurd (kL w') (cH.mpr z)
  have w':=(I'.pin p hp).1;rw[w]at w';exact absurd (kL w') (cH.mpr z)
 refine q0Q hd λh2 c2 hd2=>?_;have I3:=I2.chg (t':=s'.toks) (rs:=[ea,T]) (c2.mono (by simp) (by simp)) oT hd.recs;exact hh pins _ σ' H' D ea T C od I3.untr hd2 (λb hb=>⟨(oT b hb).1,(oT b hb).2.1,λp hp=>(oT b hb).2.2 p (kU _ hp)⟩) (y ea (ours ea (by simp)).2.1)
have z:=z.untr
cases f with
|next=>obtain⟨σ',H',I',y⟩:=z;exact qL pins s1 σ' H' D I' y
|_=>exact z)
end
noncomputable def NewX(ea:Addr)(C:Value)(od:Option Addr):Heap→Prop:=λh=>∃vs sl,h.get? ea=some ⟨C,od,.fields vs,sl⟩∧vs[2]?=some .none∧vs[1]?=some .none
noncomputable abbrev XN(ea:Addr)(C:Value)(od:Option Addr):HO:=.ext (NewX ea C od)
noncomputable def qH1(X:Cx)(pins:List (Addr×Obj))(a:Addr):Prop:=(X.s₀.heap.get? a=none∨a∈X.ex)∧∀p∈X.pn++pins,p.1≠a
section
variable{X:Cx}{pins:List (Addr×Obj)}{σ:St}{H:Hp}{s:Shared}{a:Addr}
theorem Inv.young(I:Inv X pins σ H s)(e:s.heap.get? a=none):qH1 X pins a:=by(
refine⟨?_,λp hp z=>?_⟩
·by_cases y:a∈X.ex
 ·exact .inr y
 refine .inl ?_;cases z:X.s₀.heap.get? a with
 |none=>rfl
 |some ob=>obtain⟨o',z'⟩:=I.base.there a ob z y;rw[e]at z';cases z'
have y:=(I.pin p hp).1
rw[z,e]at y
cases y)
theorem Inv.trackG{o:HO}(I:Inv X pins σ H s)(n:H a=none)(y:qH1 X pins a)(nl:a≠X.env.locals)(nc:∀x c,X.env.cells.lookup x=some c→c≠a)(new:jU X.prog X.w (upd H a o) s.heap a o):Inv X pins σ (upd H a o) s:=by(
have ne:∀b o',X.s₀.heap.get? b=some o'→b∉X.ex→b≠a:=λb o' z x q=>by
 subst q;rcases y.1 with w|w
 ·rw[z]at w;cases w
 exact x w
have nt:∀b u,H b=some u→b≠a:=λb u z q=>by rw[q,n]at z;cases z
refine⟨I.ok,I.os,I.bare,⟨I.base.keep,I.base.slot,λb o' z m x=>?_,I.base.there,λb xs z=>?_,λb o' u z=>?_,λb ps z=>?_⟩,I.loc,I.cell,?_,λx c z=>?_,λp hp=>?_,λb u z=>?_,I.len⟩
·rw[qD (ne b o' z x)];exact I.base.free b o' z m x
·have w:=I.base.tups b xs z;rw[qD (nt _ _ w)];exact w
·have w:=I.base.frzs b o' u z;rw[qD (nt _ _ w)];exact w
·obtain⟨more,w⟩:=I.base.tbls b ps z;exact⟨more,by rw[qD (nt _ _ w)];exact w⟩
·rw[qD (d5 nl)];exact I.free
·rw[qD (nc x c z)];exact I.freeC x c z
·obtain⟨p1,p2,p3,p4,p5⟩:=I.pin p hp;exact⟨p1,by rw[qD (y.2 p hp)];exact p2,p3,p4,p5⟩
by_cases q:b=a
·subst q;rw[qF]at z;cases z;exact new
rw[qD q]at z
refine(I.hok b u z).stay (λ_ _ _ g=>g) (λc g=>?_) λc xs g=>?_
·rw[qD (nt _ _ g)];exact g
rw[qD (nt _ _ g)];exact g)
end
noncomputable def qE5:List Value→Bool
| .ref _::r=>qE5 r
|l=>l==bmVE
noncomputable def veIn(K:PySem.W.Frag)(C:Addr):Bool:=(PySem.W.clsIn K C).any (λcd=>qE5 cd.mro)
structure XAt(K:PySem.W.Frag)(C:Addr):Prop where
hd:PySem.W.hasDictIn K C=true
sa:PySem.W.findIn K (.ref C) "__setattr__"=some (some (.builtin "object.__setattr__"))
mro:veIn K C=true
structure XRd(K:PySem.W.Frag)(C:Addr):Prop where
ga:PySem.W.findIn K (.ref C) "__getattribute__"=some (some (.builtin "BaseException.__getattribute__"))
gn:PySem.W.findIn K (.ref C) "__getattr__"=some none
mb:PySem.W.mroIn K C (.type "BaseException")=some true
hd:PySem.W.hasDictIn K C=true
cls:PySem.W.findIn K (.ref C) "__class__"=some (some (.builtin "object.__class__"))
cget:PySem.W.specialIn K (.builtin "object.__class__") "__get__"=some (some (.builtin "getset_descriptor.__get__"))
ctk:PySem.W.takesIn K (.builtin "object.__class__")=some true
mo:PySem.W.mroIn K C (.type "object")=some true
noncomputable def XAny(H:Hp)(ea:Addr)(C:Value)(od:Option Addr):Prop:=H ea=some (XO ea C od)∨H ea=some (XN ea C od)
section
variable{X:Cx}{pins:List (Addr×Obj)}{σ:St}{H:Hp}{s:Shared}{ea C:Addr}{od:Option Addr}
theorem XAny.at{C:Value}(x:XAny H ea C od)(I:Inv X pins σ H s):∃o vs,s.heap.get? ea=some o∧o.cls=C∧o.dict=od∧o.data=.fields vs:=by(
rcases x with e|e
·exact(I.hok ea _ e).1
obtain⟨vs,sl,z,_⟩:=(I.hok ea _ e).1
exact⟨_,vs,z,rfl,rfl,rfl⟩)
theorem qFR{A:Around}{E:Value→Shared→Prop}{K:PySem.W.Frag}{prog:Program}{w:World}{s:Shared}{x:Addr}{ox:Obj}{od:Option Obj}{name:Str}{tk:Tok}{fill b:Bool}{Q:Value→Shared→Prop}(X:K.In s.heap)(J:PySem.W.InstAt s.heap x ox C od)(c:XRd K C)
 (h:∀A',wpAny (model prog w) A' (Builtin.«object.__getattribute__» ⟨[.ref x,.str name tk],[]⟩) (λfin s'=>∃v,fin=.done (.ret v)∧PySem.W.handedIn v=true∧Q v s') (λ_ _=>False) s):wpAny (model prog w) A (getAttrBy (.ref x) (.str name tk) fill b) Q E s:=by(
obtain⟨hh,g,d,t,os⟩:=s
have L0:=J.type (M:=model prog w)
have L1:=cK (M:=model prog w) X c.ga
have L2:=cK (M:=model prog w) X c.gn
have SF:=PySem.F.excAttr_ValueError.ga
unfold getAttrBy
refine gH (kD (L0.at (kD (L1.at ?_))))
show wpAny _ _ (getAttrByItsOwn (.ref x) (.str name tk) (.ref C) (.builtin "BaseException.__getattribute__") fill b) _ _ _
unfold getAttrByItsOwn
refine kD ?_
show wpAny _ _ (typeLookup (.ref C) "__getattr__") _ _ _
refine L2.at ?_
refine kD (pN (gH ?_))
have e1:callGetattribute (.ref x) (.str name tk) (.builtin "BaseException.__getattribute__") b=boundAndCalled (.builtin "BaseException.__getattribute__") (.ref x) (.str name tk):=by unfold callGetattribute;rw[kE (by cases b<;>exact Bool.noConfusion)]
rw[e1]
unfold boundAndCalled
rw[SF.bind (.ref x)]
refine kD (kZ ?_)
refine wH (nM SF.plain PySem.F.entry_bexc_ga ?_)
have su:PySem.W.Looks (model prog w) hh (isInstance (.ref x) (.type "BaseException")) true:=J.type.andThen (PySem.W.looks_mroIn X c.mb)
have hk:builtinKind "BaseException.__getattribute__"=some .slot:=by decide+kernel
have hs:splitId "BaseException.__getattribute__"=some ("BaseException","__getattribute__"):=by decide+kernel
refine @PySem.W.check_slot (model prog w) _ _ ⟨hh,g,d,t,os⟩ "BaseException.__getattribute__" "BaseException" "__getattribute__" (.ref x) [.str name tk] [] _ hk hs su (PySem.F.args_bexc_ga (.ref x) (.str name tk)) ?_
refine gN (h _) (λfin s' z=>?_) (λ_ _ z=>z.elim)
obtain⟨v,rfl,z1,z2⟩:=z
exact PySem.W.handed_on z1 z2)
end
noncomputable def clsV:V→Option Value
| .ref a=>some (.ref a)
| .ty n=>some (.type n)
|_=>none
theorem qE6{c:V}{cv u:Value}(h:clsV c=some cv)(r:RelV c u):u=cv:=by cases c<;>first|(cases h;exact r)|cases h
noncomputable def KndT(K:PySem.W.Frag)(H:Hp)(x:V)(t:Value):Prop:=TyOf K H x t∨∃ea C od,x=.ref ea∧t=.ref C∧XAny H ea (.ref C) od∧XRd K C∧(od=none∨∃dx fs,od=some dx∧H dx=some (.xd fs))
theorem qIE{K:PySem.W.Frag}{x D:Addr}{ox:Obj}{od:Option Obj}(c:XRd K D):PySem.W.KitX K (.ref x) (.ref D) (λh=>PySem.W.InstAt h x ox D od) where
ty:=λ_ _ _ I=>I.type
it:=λ_ _ X _=>by
 obtain⟨cd,hc,_⟩:=cG c.hd;unfold PySem.W.clsIn at hc;split at hc
 ·rename_i ho;intro A' Q' E' s' k q;unfold isType loadHead;exact kD (wpAny_loadPart (k _ _ (X _ _ ho)) (kZ q))
 cases hc
ne:=λh tp dd its n sl X htp=>by
 obtain⟨cd,hc,_⟩:=cG c.hd;refine Bool.eq_false_iff.mpr λq=>?_;have e:D=tp:=Value.ref.inj (rX.mp q);subst e;unfold PySem.W.clsIn at hc;split at hc
 ·rename_i ho;have z:=(X _ _ ho).symm.trans htp;cases z
 cases hc
ca:=fun {prog w _ _ _ s} X I k=>by
 have hf:PySem.W.findObj K D od "__class__"=some (.bind (.builtin "getset_descriptor.__get__") (.builtin "object.__class__")):=by obtain⟨cd,hc,_⟩:=cG c.hd;unfold PySem.W.findObj;rw[hc,cI,c.cls,cI];dsimp only;rw[c.cget,cI];dsimp only;rw[c.ctk,cI]
 unfold getAttr? getAttrBy?;refine kD (wpAny_mkText (kD (pN (qFR (s:={ s with toks:=s.toks+1 }) X I c λA'=>?_))));have L0:=I.type (M:=model prog w);have L1:=PySem.W.looks_find (M:=model prog w) X I hf;obtain⟨hh,gg,d,t,os⟩:=s;refine kD (kZ (kD (kZ (kD (L0.at (kD (L1.at ?_)))))));show wpAny _ _ (holding [.builtin "object.__class__"] (call (.builtin "getset_descriptor.__get__") [.builtin "object.__class__",.ref x,.ref D]) >>= ret) _ _ _;exact kD (gH (wH (PySem.W.class_get (s:=⟨hh,gg,d,t+1,os⟩) (ox:=ox) (od:=od) X I c.mo (kZ ⟨_,rfl,rfl,kZ k⟩))))
theorem jK{X:Cx}:zC X (.builtin "isinstance") (λxs H Q=>∃x c cv t b,xs=[x,c]∧clsV c=some cv∧KndT X.K H x t∧PySem.W.kitOne X.K t cv=some b∧Q (.bl b) H):=by(
intro pins s σ H xs us Q I r h
obtain⟨x,c,cv,t,b,rfl,hc,ty,e,q⟩:=h
obtain⟨u,w',rfl,ru,rw'⟩:=qGW r
cases qE6 hc rw'
rcases ty with ty|⟨ea,C,od,rfl,rfl,hx,ca,hd⟩
·exact qCQ I ru ty e λtk=>⟨.bl b,H,I.tok tk,rfl,q⟩
obtain rfl:u=Value.ref ea:=ru
obtain⟨o,vs,e1,e2,e3,e4⟩:=hx.at I
have hno:PySem.W.notCls o=true:=by rw[PySem.W.notCls,e4]
have J:∃oD,PySem.W.InstAt s.heap ea o C oD:=by
 rcases hd with rfl|⟨dx,fs,rfl,hdx⟩
 ·exact⟨none,e1,e2,hno,by rw[e3];exact True.intro⟩
 obtain⟨mA,n1,rl⟩:=I.hok dx _ hdx;obtain⟨oD,g1,g2⟩:=q7M n1;exact⟨some oD,e1,e2,hno,by rw[e3];exact g1⟩
obtain⟨oD,J⟩:=J
exact gS (qIE ca) I.kIn J e (λz=>nomatch z) λtk=>⟨.bl b,H,I.tok tk,rfl,q⟩)
structure BIni(K:PySem.W.Frag)(W:Addr):Prop where
rd:PySem.W.readsIn K W (.type "type")=true
fd:PySem.W.findCls K (.ref W) (.type "type") "__init__"=some (.val (.builtin "ValueError.__init__"))
ga:PySem.W.specialIn K (.ref W) "__getattribute__"=some (some (.builtin "type.__getattribute__"))
end L2
namespace L2
open PySem
structure Keep(F:List Addr)(H H':Hp):Prop where
k:∀b o,b∉F→H b=some o→H' b=some o
tp:∀b xs,H b=some (.tup xs)→H' b=some (.tup xs)
theorem Keep.refl{F:List Addr}{H:Hp}:Keep F H H:=⟨λ_ _ _ e=>e,λ_ _ e=>e⟩
theorem Keep.trans{F:List Addr}{H H1 H2:Hp}(a:Keep F H H1)(b:Keep F H1 H2):Keep F H H2:=⟨λx o n e=>b.k x o n (a.k x o n e),λx xs e=>b.tp x xs (a.tp x xs e)⟩
theorem Keep.mono{F F':List Addr}{H H':Hp}(a:Keep F H H')(s:∀b∈F,b∈F'):Keep F' H H':=⟨λx o n e=>a.k x o (λm=>n (s x m)) e,a.tp⟩
theorem Keep.upd{F:List Addr}{H:Hp}{p:Addr}{o u:HO}(h:H p=some u)(nt:∀xs,u≠ .tup xs)(m:p∈F):Keep F H (upd H p o):=by(
refine⟨λb x n e=>?_,λb xs e=>?_⟩
·rw[qD (λ(z:b=p)=>n (z▸m))];exact e
rw[qD (jP e h (λz=>nt xs z.symm))];exact e)
theorem Keep.same{F:List Addr}{H H':Hp}(s:Same H H'):Keep F H H':=⟨λb o _ e=>s b o e,λb xs e=>s b _ e⟩
theorem Keep.none{F:List Addr}{H H':Hp}(a:Keep F H H'){b:Addr}(n:b∉F)(e:H' b=Option.none):H b=Option.none:=by(
cases q:H b with
|none=>rfl
|some o=>rw[a.k b o n q]at e;cases e)
structure CM where
bl:Int
pg:Int
mo:Int
lim:List (Key×V)
bo:List V
cl:List Int
dc:List Int
br:List Bool
lf:Option Int
rc:List (Str×Int×Bool)
structure CA where
dx:Addr
li:Addr
bo:Addr
cl:Addr
dc:Addr
br:Addr
rc:Addr
noncomputable def lfV:Option Int→V
| .none=>.non
| .some i=>.int i
noncomputable def chF(a:CA)(m:CM):List (Str×V):=[("blocks",.int m.bl),("pages",.int m.pg),("most",.int m.mo),("limits",.ref a.li),("borne",.ref a.bo),("clearings",.ref a.cl),("deed_counts",.ref a.dc),("broken",.ref a.br),("deeds_left",lfV m.lf),("record",.ref a.rc)]
noncomputable def trip(H:Hp)(v:V)(d:Str×Int×Bool):Prop:=∃p,v=.ref p∧H p=some (.tup [.str d.1,.int d.2.1,.bl d.2.2])
noncomputable abbrev Recd(H:Hp):List V→List (Str×Int×Bool)→Prop:=Paired (trip H)
theorem Recd.keep{F:List Addr}{H H':Hp}(k:Keep F H H'){rs:List V}{ds:List (Str×Int×Bool)}(r:Recd H rs ds):Recd H' rs ds:=Paired.mapP r λv d ⟨p,e,h⟩=>⟨p,e,k.tp _ _ h⟩
theorem _root_.PySem.Paired.len{α β:Type}{F:α→β→Prop}:∀{l₁:List α} {l₂:List β},Paired F l₁ l₂→l₁.length=l₂.length
|_,_,.nil=>rfl
|_,_,.cons _ t=>rL (· + 1) t.len
theorem Paired.snoc{α β:Type}{F:α→β→Prop}:∀{l₁:List α} {l₂:List β} {a:α} {b:β},Paired F l₁ l₂→F a b→Paired F (l₁++[a]) (l₂++[b])
|_,_,_,_,.nil,h=>.cons h .nil
|_,_,_,_,.cons r t,h=>.cons r (Paired.snoc t h)
noncomputable def foot(c:Addr)(a:CA):List Addr:=[c,a.bo,a.cl,a.dc,a.br,a.rc]
structure ChipAt(C:Addr)(H:Hp)(c:Addr)(a:CA)(m:CM):Prop where
ins:H c=some (.ins C a.dx (chF a m))
li:H a.li=some (.dK m.lim)
bo:H a.bo=some (.lst m.bo)
cl:H a.cl=some (.lst (m.cl.map V.int))
dc:H a.dc=some (.lst (m.dc.map V.int))
br:H a.br=some (.lst (m.br.map V.bl))
rc:∃rs,H a.rc=some (.lst rs)∧Recd H rs m.rc
nd:[a.bo,a.cl,a.dc,a.br,a.rc].Nodup
structure CM.Ok(m:CM):Prop where
bl1:2≤m.bl
bl2:m.bl≤16
pg1:1≤m.pg
pg2:m.pg≤16
nbo:(m.bo.length:Int)=m.bl*m.pg
ncl:(m.cl.length:Int)=m.bl
ndc:(m.dc.length:Int)=m.bl
nbr:(m.br.length:Int)=m.bl
lim:∀b v,valV m.lim (Sum.inl b)=some v→∃n,v=.int n
nrc:m.rc.length≤1000000
section
variable{C c:Addr}{a:CA}{m:CM}{H H':Hp}
theorem ChipAt.ne(h:ChipAt C H c a m):c≠a.bo∧c≠a.cl∧c≠a.dc∧c≠a.br∧c≠a.rc:=by obtain⟨rs,e,_⟩:=h.rc;exact⟨jP h.ins h.bo (by intro z;cases z),jP h.ins h.cl (by intro z;cases z),jP h.ins h.dc (by intro z;cases z),jP h.ins h.br (by intro z;cases z),jP h.ins e (by intro z;cases z)⟩
theorem ChipAt.nel(h:ChipAt C H c a m):a.li≠c∧a.li≠a.bo∧a.li≠a.cl∧a.li≠a.dc∧a.li≠a.br∧a.li≠a.rc:=by obtain⟨rs,e,_⟩:=h.rc;exact⟨jP h.li h.ins (by intro z;cases z),jP h.li h.bo (by intro z;cases z),jP h.li h.cl (by intro z;cases z),jP h.li h.dc (by intro z;cases z),jP h.li h.br (by intro z;cases z),jP h.li e (by intro z;cases z)⟩
theorem ChipAt.dst(h:ChipAt C H c a m):(a.bo≠a.cl∧a.bo≠a.dc∧a.bo≠a.br∧a.bo≠a.rc)∧(a.cl≠a.dc∧a.cl≠a.br∧a.cl≠a.rc)∧(a.dc≠a.br∧a.dc≠a.rc)∧a.br≠a.rc:=by(
have:=h.nd
simp only[gL,kW,g0,not_or,cD]at this
obtain⟨⟨a1,a2,a3,a4⟩,⟨b1,b2,b3⟩,⟨c1,c2⟩,d1,_⟩:=this
exact⟨⟨a1,a2,a3,a4⟩,⟨b1,b2,b3⟩,⟨c1,c2⟩,d1⟩)
theorem ChipAt.keep{F:List Addr}(h:ChipAt C H c a m)(k:Keep F H H')(n:∀b∈a.li::foot c a,b∉F):ChipAt C H' c a m:=by obtain⟨rs,e,r⟩:=h.rc;exact⟨k.k _ _ (n _ (by simp[foot])) h.ins,k.k _ _ (n _ (by simp)) h.li,k.k _ _ (n _ (by simp[foot])) h.bo,k.k _ _ (n _ (by simp[foot])) h.cl,k.k _ _ (n _ (by simp[foot])) h.dc,k.k _ _ (n _ (by simp[foot])) h.br,⟨rs,k.k _ _ (n _ (by simp[foot])) e,r.keep k⟩,h.nd⟩
theorem ChipAt.same(h:ChipAt C H c a m)(s:Same H H'):ChipAt C H' c a m:=h.keep (F:=[]) (Keep.same s) (by simp)
theorem ChipAt.setLf(h:ChipAt C H c a m)(v:Option Int):ChipAt C (upd H c (.ins C a.dx (chF a { m with lf:=v }))) c a { m with lf:=v }:=by(
obtain⟨n1,n2,n3,n4,n5⟩:=h.ne
obtain⟨l1,_⟩:=h.nel
obtain⟨rs,e,r⟩:=h.rc
have k:Keep [c] H (upd H c (.ins C a.dx (chF a { m with lf:=v }))):=Keep.upd h.ins (λ_ z=>by cases z) (by simp)
exact⟨qF,by rw[qD l1];exact h.li,by rw[qD n1.symm];exact h.bo,by rw[qD n2.symm];exact h.cl,by rw[qD n3.symm];exact h.dc,by rw[qD n4.symm];exact h.br,⟨rs,by rw[qD n5.symm];exact e,r.keep k⟩,h.nd⟩)
theorem ChipAt.setBo(h:ChipAt C H c a m)(v:List V):ChipAt C (upd H a.bo (.lst v)) c a { m with bo:=v }:=by(
obtain⟨n1,n2,n3,n4,n5⟩:=h.ne
obtain⟨l0,l1,l2,l3,l4,l5⟩:=h.nel
obtain⟨⟨a1,a2,a3,a4⟩,⟨b1,b2,b3⟩,⟨c1,c2⟩,d1⟩:=h.dst
obtain⟨rs,e,r⟩:=h.rc
have k:Keep [a.bo] H (upd H a.bo (.lst v)):=Keep.upd h.bo (λ_ z=>by cases z) (by simp)
exact⟨by rw[qD n1];exact h.ins,by rw[qD l1];exact h.li,qF,by rw[qD a1.symm];exact h.cl,by rw[qD a2.symm];exact h.dc,by rw[qD a3.symm];exact h.br,⟨rs,by rw[qD a4.symm];exact e,r.keep k⟩,h.nd⟩)
theorem ChipAt.setDc(h:ChipAt C H c a m)(v:List Int):ChipAt C (upd H a.dc (.lst (v.map V.int))) c a { m with dc:=v }:=by(
obtain⟨n1,n2,n3,n4,n5⟩:=h.ne
obtain⟨l0,l1,l2,l3,l4,l5⟩:=h.nel
obtain⟨⟨a1,a2,a3,a4⟩,⟨b1,b2,b3⟩,⟨c1,c2⟩,d1⟩:=h.dst
obtain⟨rs,e,r⟩:=h.rc
have k:Keep [a.dc] H (upd H a.dc (.lst (v.map V.int))):=Keep.upd h.dc (λ_ z=>by cases z) (by simp)
exact⟨by rw[qD n3];exact h.ins,by rw[qD l3];exact h.li,by rw[qD a2];exact h.bo,by rw[qD b1];exact h.cl,qF,by rw[qD c1.symm];exact h.br,⟨rs,by rw[qD c2.symm];exact e,r.keep k⟩,h.nd⟩)
theorem ChipAt.addRc{p:Addr}{rs:List V}{d:Str×Int×Bool}(h:ChipAt C H c a m)(e:H a.rc=some (.lst rs))(hp:H p=some (.tup [.str d.1,.int d.2.1,.bl d.2.2])):ChipAt C (upd H a.rc (.lst (rs++[.ref p]))) c a { m with rc:=m.rc++[d] }:=by(
obtain⟨n1,n2,n3,n4,n5⟩:=h.ne
obtain⟨l0,l1,l2,l3,l4,l5⟩:=h.nel
obtain⟨⟨a1,a2,a3,a4⟩,⟨b1,b2,b3⟩,⟨c1,c2⟩,d1⟩:=h.dst
obtain⟨rs',e',r⟩:=h.rc
rw[e]at e'
cases e'
have k:Keep [a.rc] H (upd H a.rc (.lst (rs++[.ref p]))):=Keep.upd e (λ_ z=>by cases z) (by simp)
exact⟨by rw[qD n5];exact h.ins,by rw[qD l5];exact h.li,by rw[qD a4];exact h.bo,by rw[qD b3];exact h.cl,by rw[qD c2];exact h.dc,by rw[qD d1];exact h.br,⟨_,qF,Paired.snoc (r.keep k) ⟨p,rfl,k.tp _ _ hp⟩⟩,h.nd⟩)
end
noncomputable def CM.deed(m:CM)(w:Str)(pl b:Int)(f:Bool):CM:={ m with lf:=m.lf.map (· - 1),dc:=m.dc.set b.toNat (m.dc.getD b.toNat 0+1),rc:=m.rc++[(w,pl,!f)],br:=if f then m.br.set b.toNat true else m.br }
noncomputable def CM.new(bl pg mo:Int)(lim:List (Key×V)):CM:=⟨bl,pg,mo,lim,List.replicate (bl*pg).toNat .non,List.replicate bl.toNat 0,List.replicate bl.toNat 0,List.replicate bl.toNat false,none,[]⟩
theorem qIF{m:CM}{p:Int}(ok:m.Ok)(p0:0≤p)(p1:p≤m.bl*m.pg-1):0≤p / m.pg∧p / m.pg<m.bl:=by have:=ok.pg1;exact⟨Int.ediv_nonneg p0 (by lia),Int.ediv_lt_of_lt_mul (by lia) (by lia)⟩
theorem lf0{m:CM}:decide (lfV m.lf=V.int 0)=decide (m.lf=some 0):=by(
cases e:m.lf with
|none=>rfl
|some i=>
 show decide (V.int i=V.int 0)=_;by_cases z:i=0
 ·subst z;rfl
 rw[hG (λq=>z (by injection q)),hG (λq=>z (by injection q))])
theorem qFS{m:CM}:scal (lfV m.lf) (.int 0)=true:=by cases m.lf<;>rfl
theorem getB{m:CM}{b:Int}(h0:0≤b)(h:b<(m.br.length:Int)):atI (m.br.map V.bl) b=some (.bl (m.br.getD b.toNat false)):=by(
obtain⟨j,rfl⟩:=gY h0
refine uZ ?_
have hj:j<m.br.length:=by lia
simp[hj])
theorem getI{xs:List Int}{b:Int}(h0:0≤b)(h:b<(xs.length:Int)):atI (xs.map V.int) b=some (.int (xs.getD b.toNat 0)):=by(
obtain⟨j,rfl⟩:=gY h0
refine uZ ?_
have hj:j<xs.length:=by lia
simp[hj])
theorem getV{xs:List V}{b:Int}(h0:0≤b)(h:b<(xs.length:Int)):atI xs b=some (xs.getD b.toNat .non):=by(
obtain⟨j,rfl⟩:=gY h0
refine uZ ?_
have hj:j<xs.length:=by lia
simp[hj])
theorem ixOk{n:Nat}{b:Int}(h0:0≤b)(h:b<(n:Int)):ixN n b=some b.toNat:=by unfold ixN;rw[kG h0,kG h]
theorem CM.Ok.deed{m:CM}(ok:m.Ok){w:Str}{pl b:Int}{f:Bool}(h:m.rc.length<1000000):(m.deed w pl b f).Ok:=by(
refine⟨ok.bl1,ok.bl2,ok.pg1,ok.pg2,ok.nbo,ok.ncl,?_,?_,ok.lim,?_⟩
·show((m.dc.set _ _).length:Int)=m.bl;rw[gM];exact ok.ndc
·show(((if f then m.br.set b.toNat true else m.br)).length:Int)=m.bl;cases f with
 |true=>rw[kG rfl,gM];exact ok.nbr
 |false=>exact ok.nbr
show(m.rc++[_]).length≤1000000
rw[mL,cE]
lia)
noncomputable def qFT:Sp:=λvs H Q _=>∃x y,vs=[x,y]∧Knd H x∧Knd H y∧Q (.bl (inB x 2 16&&inB y 1 16)) H
theorem Paired.at{α β:Type}{F:α→β→Prop}:∀{l₁:List α} {l₂:List β} {i:Nat} {a:α},Paired F l₁ l₂→l₁[i]?=some a→∃b,l₂[i]?=some b∧F a b
|_,_,0,_,.cons r _,e=>by simp at e;subst e;exact⟨_,rfl,r⟩
|_,_,i+1,_,.cons _ t,e=>by have e2:=pR.symm.trans e;obtain⟨b,h1,h2⟩:=Paired.at t e2;exact⟨b,pR.trans h1,h2⟩
|_,_,_,_,.nil,e=>by simp at e
theorem qIG{bl pg mo:Int}{lim:List (Key×V)}(b1:2≤bl)(b2:bl≤16)(p1:1≤pg)(p2:pg≤16)(hl:∀b v,valV lim (Sum.inl b)=some v→∃n,v=V.int n):(CM.new bl pg mo lim).Ok:=by(
have h:0≤bl*pg:=xV (by lia) (by lia)
refine⟨b1,b2,p1,p2,?_,?_,?_,?_,hl,by show 0≤1000000;decide⟩
·show((List.replicate (bl*pg).toNat V.non).length:Int)=bl*pg;rw[gI];lia
·show((List.replicate bl.toNat (0:Int)).length:Int)=bl;rw[gI];lia
·show((List.replicate bl.toNat (0:Int)).length:Int)=bl;rw[gI];lia
show((List.replicate bl.toNat false).length:Int)=bl
rw[gI]
lia)
noncomputable def Up(x:Addr)(H H':Hp):Prop:=∀b o,b≠x→H b=some o→H' b=some o
section
variable{x C dx:Addr}{fs:List (Str×V)}{H H':Hp}
theorem Up.of{o:HO}(s:Same H H'):Up x H (upd H' x o):=λb u n e=>by rw[qD n];exact s b u e
theorem Up.free(u:Up x H H'){b:Addr}(n:b≠x)(e:H' b=none):H b=none:=by(
cases q:H b with
|none=>rfl
|some o=>rw[u b o n q]at e;cases e)
end
end L2
namespace L2
open PySem PySem.Spec PyProof.Rows
noncomputable def tMid(t u:TS):TS:=λD σ H=>∃M:St→Hp→Prop,t { D with nx:=M } σ H∧∀σ' H',M σ' H'→u D σ' H'
noncomputable def qK0(t:TT):TT:=λσ H Q=>∃M:Bool→Hp→Prop,t σ H M∧∀b H',M b H'→Q b H'
section
variable{X:Cx}{st:Stmt}{rest:List Stmt}{t u:TS}{e:Expr}{te:TE}{tt:TT}
theorem q2G(h1:PS X st t)(h2:PSs X rest u):PSs X (st::rest) (tMid t u):=by(
intro pins s σ H D I hZ
obtain⟨M,a,b⟩:=hZ
refine kD (thn (h1 pins s σ H _ I a) λf s1 z=>?_)
cases f with
|next=>obtain⟨σ',H',I',q⟩:=z;exact h2 pins s1 σ' H' D I' (b σ' H' q)
|brk=>exact kZ z
|cont=>exact kZ z
|ret v=>exact kZ z)
theorem q34(h:PT X e tt):PT X e (qK0 tt):=λpins s σ H Q I ⟨M,a,b⟩=>thn (h pins s σ H M I a) λc s1 ⟨H',I',q⟩=>⟨H',I',b c H' q⟩
end
theorem q66{a b:Int}:decide (V.int a=V.int b)=decide (a=b):=by(
by_cases e:a=b
·subst e;simp
rw[hG e,hG (λz=>e (by injection z))])
section
variable{X:Cx}{pins:List (Addr×Obj)}{σ:St}{H:Hp}{s:Shared}{h':Heap}
theorem Inv.turnedN{t':Nat}{fp:List Addr}(I:Inv X pins σ H s)(k:∀b o,b∉fp→s.heap.get? b=some o→h'.get? b=some o)(hf:∀b∈fp,FpOk X pins H b):Inv X pins σ H { s with heap:=h',toks:=t' }:=by(
have nit:∀b u,H b=some u→b∉fp:=λb u e z=>by rw[(hf b z).1]at e;cases e
refine I.step (g':=s.gens) (d':=s.drawn) (ch:=fp) (λb hb=>?_) (λb o _ _ hc e _=>k b o hc e) (λb o _ _ hc e _=>⟨o.slots,k b o hc e⟩) (λ_ _ _ _ n=>n)
 (λb o hc e=>⟨o,k b o hc e⟩) (λ_ _ e=>e) (λ_ _ _ e=>e) (λb ps e=>⟨#[],by rw[e];simp⟩) (λm hm=>?_) (λb u e=>?_) I.bare
·obtain⟨f0,f1,f2,f3,f4,f5⟩:=hf b hb;exact⟨f3,f1,f4,f5⟩
·obtain⟨o,es,ep,ho,r⟩:=hm;exact⟨o,es,ep,k _ o (λz=>(hf _ z).2.1 rfl) ho,r⟩
refine(I.hok b u e).stay (λc v hc q=>k c v ?_ q) (λ_ q=>q) λ_ _ q=>q
rcases hc with z|z
·rw[z];exact nit b u e
exact nit c _ z)
end
end L2
namespace L2
open PySem
theorem q67{es rest:List Expr}{x1}{p:Pos}{env:Env}:starEach (.Tuple es x1 p::rest) env=(false,eval (.Tuple es x1 p) env)::starEach rest env:=rfl
end L2
namespace L2
open PySem PySem.Spec PyProof.Rows
inductive Eqv(K:PySem.W.Frag)(H:Hp):Nat→V→V→Prop where
|flat {n:Nat} {x:V} (f:zS x=true):Eqv K H n x x
|lst {n:Nat} {a b:Addr} {xs ys:List V} (ha:SqL K H a xs) (hb:SqL K H b ys) (hl:xs.length=ys.length) (hi:∀(i:Nat) x y,xs[i]?=some x→ys[i]?=some y→Eqv K H n x y):Eqv K H (n+1) (.ref a) (.ref b)
|tup {n:Nat} {a b:Addr} {xs ys:List V} (ha:SqT K H a xs) (hb:SqT K H b ys) (hl:xs.length=ys.length) (hi:∀(i:Nat) x y,xs[i]?=some x→ys[i]?=some y→Eqv K H n x y):Eqv K H (n+1) (.ref a) (.ref b)
theorem qE7{x:V}(f:zS x=true):eqV x x=true:=by(
cases x with
|non=>rfl
|bl b=>cases b<;>rfl
|int i=>show(i==i)=true;exact beq_self_eq_true i
|str z=>show(z==z)=true;exact beq_self_eq_true z
|_=>exact absurd (show false=true from f) kN)
theorem vQ{n:Nat}:(List.range n).all (λ_=>true)=true:=by simp
section
variable{X:Cx}{pins:List (Addr×Obj)}{σ:St}{H:Hp}{s:Shared}
theorem Vals.atN{xs:List V}{us:List Value}(r:Vals xs us){j:Nat}(h:j<us.length):∃x,xs[j]?=some x∧RelV x us[j]:=by(
have e:xs[j]?=some (xs[j]'(by rw[r.length];exact h)):=hZ _
obtain⟨u,hu,ru⟩:=r.get e
rw[hZ h]at hu
cases hu
exact⟨_,e,ru⟩)
theorem Eqv.at(I:Inv X pins σ H s){n:Nat}{y x:V}(h:Eqv X.K H n y x):∀{A:Around} {u v:Value},RelV y u→RelV x v→A.units+n<cLine→SeqAt.EqAt A s u v true:=by(
induction h with
|flat f=>intro A u v ru rv _;have e:=qDS (A:=A) (s:=s) ru rv f f;rw[qE7 f]at e;exact e
|@lst n a b xs ys ha hb hl hi ih=>
 intro A u v ru rv hu;cases ru;cases rv;by_cases hab:a=b
 ·subst hab;exact cS _
 obtain⟨i1,r1,p1,_⟩:=I.list ha;obtain⟨i2,r2,p2,_⟩:=I.list hb;have l1:=r1.length;have l2:=r2.length;refine lN hab ?_;have e:=SeqAt.RcAt.lists (A:=A) (e:=λ_=>true) p1.isList p2.isList (by simp;lia) (by lia) (λj h1 h2=>?_)
 ·rw[vQ]at e;exact e
 obtain⟨x1,e1,q1⟩:=r1.atN (j:=j) (by simpa using h1);obtain⟨x2,e2,q2⟩:=r2.atN (j:=j) (by simpa using h2);exact ih j x1 x2 e1 e2 (by simpa using q1) (by simpa using q2) (by show A.units+1+n<cLine;lia)
|@tup n a b xs ys ha hb hl hi ih=>
 intro A u v ru rv hu;cases ru;cases rv;by_cases hab:a=b
 ·subst hab;exact cS _
 obtain⟨i1,r1,p1,_⟩:=I.tuple ha;obtain⟨i2,r2,p2,_⟩:=I.tuple hb;have l1:=r1.length;have l2:=r2.length;refine lN hab ?_;have e:=SeqAt.RcAt.tuples (A:=A) (e:=λ_=>true) (show s.heap.IsTuple a i1.toArray from p1) (show s.heap.IsTuple b i2.toArray from p2) (by lia) (λj h1 h2=>?_)
 ·rw[vQ,pO,show(i1.toArray.size==i2.toArray.size)=true by simp;lia]at e;exact e
 obtain⟨x1,e1,q1⟩:=r1.atN (j:=j) (by simpa using h1);obtain⟨x2,e2,q2⟩:=r2.atN (j:=j) (by simpa using h2);exact ih j x1 x2 e1 e2 (by simpa using q1) (by simpa using q2) (by show A.units+1+n<cLine;lia))
theorem q7Y{x:V}(f:zS x=true):scal x x=true:=by(
cases x with
|non=>rfl
|bl b=>rfl
|int i=>rfl
|str z=>rfl
|_=>exact absurd (show false=true from f) kN)
noncomputable def qH2(K:PySem.W.Frag)(r:Bool):R2:=λx y H Q=>Eqv K H 6 x y∧Q (.bl r) H
theorem qE8(hu:X.A.units+64<cLine):OpR X (compareOp .Eq) (qH2 X.K true):=by(
intro pins s σ H x y v u Q I rx ry hZ
obtain⟨h,q⟩:=hZ
cases h with
|flat f=>exact jR pins s σ H x x v u Q I rx ry ⟨q7Y f,by rw[hI rfl];exact q⟩
|@lst _ a b xs ys ha hb hl hi=>cases rx;cases ry;obtain⟨i1,r1,p1,_⟩:=I.list ha;obtain⟨i2,r2,p2,_⟩:=I.list hb;have l1:=r1.length;have l2:=r2.length;refine xL (e:=λ_=>true) p1.isList p2.isList (by simp;lia) (by lia) (λj h1 h2=>?_) ⟨.bl true,H,I,by rw[vQ];rfl,q⟩;obtain⟨x1,e1,q1⟩:=r1.atN (j:=j) (by simpa using h1);obtain⟨x2,e2,q2⟩:=r2.atN (j:=j) (by simpa using h2);exact(hi j x1 x2 e1 e2).at I (by simpa using q1) (by simpa using q2) (by show X.A.units+1+5<cLine;lia)
|@tup _ a b xs ys ha hb hl hi=>cases rx;cases ry;obtain⟨i1,r1,p1,_⟩:=I.tuple ha;obtain⟨i2,r2,p2,_⟩:=I.tuple hb;have l1:=r1.length;have l2:=r2.length;refine SeqAt.eq_tupleAt (e:=λ_=>true) (show s.heap.IsTuple a i1.toArray from p1) (show s.heap.IsTuple b i2.toArray from p2) (by lia) (λj h1 h2=>?_) ⟨.bl true,H,I,by rw[vQ,pO,show(i1.toArray.size==i2.toArray.size)=true by simp;lia];rfl,q⟩;obtain⟨x1,e1,q1⟩:=r1.atN (j:=j) (by simpa using h1);obtain⟨x2,e2,q2⟩:=r2.atN (j:=j) (by simpa using h2);exact(hi j x1 x2 e1 e2).at I (by simpa using q1) (by simpa using q2) (by show X.A.units+1+5<cLine;lia))
theorem qE9(hu:X.A.units+64<cLine):OpR X (compareOp .NotEq) (qH2 X.K false):=by(
intro pins s σ H x y v u Q I rx ry hZ
obtain⟨h,q⟩:=hZ
cases h with
|flat f=>exact q2R pins s σ H x x v u Q I rx ry ⟨q7Y f,by rw[hI rfl];exact q⟩
|@lst _ a b xs ys ha hb hl hi=>cases rx;cases ry;obtain⟨i1,r1,p1,_⟩:=I.list ha;obtain⟨i2,r2,p2,_⟩:=I.list hb;have l1:=r1.length;have l2:=r2.length;refine lO (e:=λ_=>true) p1.isList p2.isList (by simp;lia) (by lia) (λj h1 h2=>?_) _ _ _ _ ⟨.bl false,H,I,by rw[vQ];rfl,q⟩;obtain⟨x1,e1,q1⟩:=r1.atN (j:=j) (by simpa using h1);obtain⟨x2,e2,q2⟩:=r2.atN (j:=j) (by simpa using h2);exact(hi j x1 x2 e1 e2).at I (by simpa using q1) (by simpa using q2) (by show X.A.units+1+5<cLine;lia)
|@tup _ a b xs ys ha hb hl hi=>cases rx;cases ry;obtain⟨i1,r1,p1,_⟩:=I.tuple ha;obtain⟨i2,r2,p2,_⟩:=I.tuple hb;have l1:=r1.length;have l2:=r2.length;refine SeqAt.RcNeAt.tuples (e:=λ_=>true) (show s.heap.IsTuple a i1.toArray from p1) (show s.heap.IsTuple b i2.toArray from p2) (by lia) (λj h1 h2=>?_) _ _ _ _ ⟨.bl false,H,I,by rw[vQ,pO,show(i1.toArray.size==i2.toArray.size)=true by simp;lia];rfl,q⟩;obtain⟨x1,e1,q1⟩:=r1.atN (j:=j) (by simpa using h1);obtain⟨x2,e2,q2⟩:=r2.atN (j:=j) (by simpa using h2);exact(hi j x1 x2 e1 e2).at I (by simpa using q1) (by simpa using q2) (by show X.A.units+1+5<cLine;lia))
end
end L2
namespace L2
open PySem
theorem qCY{K:PySem.W.Frag}{H:Hp}{n:Nat}{a b:Addr}{xs:List V}(ha:SqT K H a xs)(hb:SqT K H b xs)(f:∀x∈xs,zS x=true):Eqv K H (n+1) (.ref a) (.ref b):=.tup ha hb rfl λi x y hx hy=>by  have e:=kI (hx.symm.trans hy);subst e;exact .flat (f x (mT hx))
end L2
namespace L2
open PySem PySem.Spec PyProof.Rows
noncomputable def clOf(env:Env):List (Str×NameKind)→List (Str×Addr)→List (Str×Addr)
| [],cs=>cs
|(n,k)::r,cs=>clOf env r (if(k==NameKind.free)=true then(match env.cells.lookup n with|some a=>(n,a)::cs|none=>cs)else cs)
theorem q35{scope:Scope}{env:Env}(h:∀y∈scope.names,y.2=.free→∃c,env.cells.lookup y.1=some c):closureFor scope env=pure (clOf env scope.names []):=by(
unfold closureFor
have go:∀(l:List (Str×NameKind)) (cs:List (Str×Addr)),(∀y∈l,y.2=.free→∃c,env.cells.lookup y.1=some c)→(forIn l cs λx r=>(match x with|(name,kind)=>if(kind==NameKind.free)=true then do let a←cellOf env name;pure (ForInStep.yield ((name,a)::r))else pure (ForInStep.yield r):Sem (ForInStep (List (Str×Addr)))))=pure (clOf env l cs):=by
 intro l;induction l with
 |nil=>intro cs _;rfl
 |cons y r ih=>
  intro cs hl;obtain⟨n,k⟩:=y;rw[xM];by_cases hk:(k==NameKind.free)=true
  ·obtain⟨c,e⟩:=hl (n,k) kO (by simpa using hk);have e2:cellOf env n=pure c:=by unfold cellOf;rw[e]
   show(bind (if(k==NameKind.free)=true then _ else _) _:Sem _)=_;rw[kG hk,e2];show(forIn r ((n,c)::cs) _:Sem _)=pure (clOf env r (if(k==NameKind.free)=true then(match env.cells.lookup n with|some a=>(n,a)::cs|none=>cs)else cs));rw[kG hk,e];exact ih _ λy hy=>hl y (kF _ hy)
  show(bind (if(k==NameKind.free)=true then _ else _) _:Sem _)=_;rw[kE hk];show(forIn r cs _:Sem _)=pure (clOf env r (if(k==NameKind.free)=true then(match env.cells.lookup n with|some a=>(n,a)::cs|none=>cs)else cs));rw[kE hk];exact ih _ λy hy=>hl y (kF _ hy)
exact(rL (λz:Sem (List (Str×Addr))=>z >>= λs=>pure s) (go scope.names [] h)).trans rfl)
theorem q3W{env:Env}{x:Str}{c:Addr}:∀(l:List (Str×NameKind)) (cs:List (Str×Addr)),(cs.lookup x=some c→env.cells.lookup x=some c)→(clOf env l cs).lookup x=some c→env.cells.lookup x=some c
| [],cs,hcs,h=>hcs h
|(n,k)::r,cs,hcs,h=>by
 refine q3W r _ ?_ h;intro q;split at q
 ·cases e:env.cells.lookup n with
  |none=>rw[e]at q;exact hcs q
  |some a=>
   rw[e]at q;have q:List.lookup x ((n,a)::cs)=some c:=q;rw[dO]at q;cases z:x==n with
   |true=>
    rw[z]at q;have z':x=n:=by simpa using z
    rw[z',e,←q]
   |false=>rw[z]at q;exact hcs q
 exact hcs q
theorem q68{env:Env}{x:Str}{c:Addr}(e:env.cells.lookup x=some c):∀(l:List (Str×NameKind)) (cs:List (Str×Addr)),((x,NameKind.free)∈l∨cs.lookup x=some c)→(clOf env l cs).lookup x=some c
| [],cs,h=>h.resolve_left (by simp)
|(n,k)::r,cs,h=>by
 refine q68 e r _ ?_;by_cases hn:(x==n)=true
 ·have z':x=n:=by simpa using hn
  by_cases hk:(k==NameKind.free)=true
  ·refine .inr ?_;rw[kG hk,←z',e];show List.lookup x ((x,c)::cs)=some c;simp
  rcases h with h|h
  ·rcases kW.mp h with q|q
   ·cases q;exact absurd (by simp) hk
   exact .inl q
  rw[kE hk];exact .inr h
 have nx:x≠n:=λz=>hn (by simp[z]);rcases h with h|h
 ·rcases kW.mp h with q|q
  ·cases q;exact absurd rfl nx
  exact .inl q
 refine .inr ?_;split
 ·cases en:env.cells.lookup n with
  |none=>exact h
  |some a=>
   show List.lookup x ((n,a)::cs)=some c;have hn:(x==n)=false:=by simpa using nx
   rw[dO,hn];exact h
 exact h
theorem q9R{env:Env}{x:Str}:∀{names:List (Str×NameKind)},(∀y∈names,y.2≠ .cell)→((names.map λ(n,k)=>if(k==NameKind.free&&env.scope.kind== .function&&env.kindOf n==some .cell)then(n,NameKind.cell)else(n,k)).lookup x=some .cell∨(names.map λ(n,k)=>if(k==NameKind.free&&env.scope.kind== .function&&env.kindOf n==some .cell)then(n,NameKind.cell)else(n,k)).lookup x=some .free)→(x,NameKind.free)∈names
| [],_,h=>by simp at h
|(n,k)::r,hc,h=>by
 have ih:=@q9R env x r λy hy=>hc y (kF _ hy);rw[mZ]at h;by_cases hq:(k==NameKind.free&&env.scope.kind== .function&&env.kindOf n==some .cell)=true
 ·have hk:k=.free:=by rw[mE,mE]at hq;simpa using hq.1.1
  simp only[kG hq,dO]at h;cases hx:x==n with
  |true=>
   have e:x=n:=by simpa using hx
   rw[e,hk];exact kO
  |false=>simp only[hx]at h;exact kF _ (ih h)
 simp only[kE hq,dO]at h;cases hx:x==n with
 |true=>
  simp only[hx]at h;have e:x=n:=by simpa using hx
  rcases h with h|h
  ·cases h;exact absurd rfl (hc _ kO)
  cases h;rw[e];exact kO
 |false=>simp only[hx]at h;exact kF _ (ih h)
theorem q9S{env:Env}{x:Str}(hk:env.scope.kind=.function)(he:env.kindOf x=some .cell):∀{names:List (Str×NameKind)},names.lookup x=some .free→(names.map λ(n,k)=>if(k==NameKind.free&&env.scope.kind== .function&&env.kindOf n==some .cell)then(n,NameKind.cell)else(n,k)).lookup x=some .cell
| [],h=>by simp at h
|(n,k)::r,h=>by
 have ih:=@q9S env x hk he r;rw[mZ];rw[dO]at h;cases hx:x==n with
 |true=>
  simp only[hx]at h;have e:x=n:=by simpa using hx
  cases h;subst e;show List.lookup x ((if(NameKind.free==NameKind.free&&env.scope.kind==ScopeKind.function&&env.kindOf x==some NameKind.cell)=true then(x,NameKind.cell)else(x,NameKind.free))::_)=_;rw[kG (by rw[hk,he];rfl),dO];simp
 |false=>
  simp only[hx]at h;show List.lookup x ((if(k==NameKind.free&&env.scope.kind==ScopeKind.function&&env.kindOf n==some NameKind.cell)=true then(n,NameKind.cell)else(n,k))::_)=_;by_cases hq:(k==NameKind.free&&env.scope.kind== .function&&env.kindOf n==some .cell)=true
  ·rw[kG hq,dO];simp only[hx];exact ih h
  rw[kE hq,dO];simp only[hx];exact ih h
noncomputable abbrev yB(X:Cx)(N:List Str)(scope:Scope)(C:Addr)(fp:List Addr)(s:Shared)(H:Hp)(xe:Value→Shared→Prop):Cx:={ X with N:=N,s₀:=s,H₀:=H,env:=compEnvC scope (clOf X.env scope.names []) C X.env,outer:=X.stack,ex:=fp,fn:=λ_=>false,xe:=xe }
noncomputable def pick(ix:List Nat)(σ:St):St:=ix.map λi=>σ.getD i none
noncomputable def q57(XN:List Str)(kd:Str→Option NameKind)(names:List (Str×NameKind))(N:List Str)(ix:List Nat):Bool:=(List.range ix.length).all λj=>match N[j]?,ix[j]? with
 |some x,some i=>decide (XN[i]?=some x)&&decide (names.lookup x=some .free)&&decide (kd x=some .cell)
 |_,_=>false
theorem qEA{XN:List Str}{kd:Str→Option NameKind}{names:List (Str×NameKind)}{N:List Str}{ix:List Nat}(h:q57 XN kd names N ix=true){j:Nat}(hj:j<ix.length){x:Str}(hx:N[j]?=some x):
 ∃i,ix[j]?=some i∧XN[i]?=some x∧names.lookup x=some .free∧kd x=some .cell:=by(
unfold q57 at h
rw[gT]at h
have q:=h j (mH.mpr hj)
rw[hx,hZ hj]at q
simp only[mE,kR]at q
exact⟨_,hZ hj,q.1.1,q.1.2,q.2⟩)
theorem qC0{X:Cx}{pins:List (Addr×Obj)}{σ:St}{H:Hp}{s:Shared}(I:Inv X pins σ H s){N:List Str}{ix:List Nat}{scope:Scope}{fp:List Addr}{xe:Value→Shared→Prop}(hf:∀b∈fp,FpOk X pins H b)(ho:∀b∈fp,∃o,s.heap.get? b=some o)
 (hk:scope.kind=.function) (hc:∀y∈scope.names,y.2≠ .cell) (hfr:∀y∈scope.names,y.2=.free→X.env.kindOf y.1=some .cell) (hcap:q57 X.N X.env.kindOf scope.names N ix=true) (hN:ix.length≤N.length) {h₁:Heap} {tk n:Nat} {m:Str→Option Value}
 (hn:h₁.Ns (s.heap.objs.size+1) m) (hkp:∀b u,s.heap.get? b=some u→h₁.get? b=some u) (hD:h₁.get? s.heap.objs.size=some { cls:=.type "list",data:=.seq ([]:List Value).toArray n }):
 Inv (yB X N scope (s.heap.objs.size+1) fp s H xe) [] (pick ix σ++List.replicate (N.length-ix.length) none) (upd H s.heap.objs.size (.lst [])) { s with heap:=h₁,toks:=tk }:=by(
have fresh:H s.heap.objs.size=none:=I.hok.fresh (kH _)
have fresh1:H (s.heap.objs.size+1)=none:=I.hok.fresh (d7 _)
have cel:∀x c,(clOf X.env scope.names []).lookup x=some c→X.env.cells.lookup x=some c:=λx c e=>q3W _ _ (by intro q;simp at q) e
have clt:∀x c,(clOf X.env scope.names []).lookup x=some c→c<s.heap.objs.size:=λx c e=>by obtain⟨v,q⟩:=I.cell x c (cel x c e);exact q.lt
refine⟨⟨I.ok.mod,hk,I.ok.glob,I.ok.blt,d7 _,λx y c h1 h2=>I.ok.inj x y c (cel x c h1) (cel y c h2),λx hx=>?_,λx c h=>absurd h kN,I.ok.hd,I.ok.frames,.inl rfl,λb hb=>⟨?_,λx c e=>?_⟩,I.bs,mJ I.ok.bsz I.sz,λb o e hb=>?_,λb hb z=>?_,I.stack,I.stkFree⟩,rfl,I.bare,Un.laid hkp (kH _) fresh,⟨m,hn,λi x v e1 e2 e3=>?_⟩,λx c e=>?_,?_,λx c e=>?_,λp hp=>?_,I.hok.laid hkp (kH _) ⟨by simp,[],n,.nil,hD⟩,?_⟩
·have hx:(x,NameKind.free)∈scope.names:=q9R hc hx;obtain⟨c,e⟩:=I.ok.has x (.inl (hfr _ hx rfl));exact⟨c,q68 e _ _ (.inl hx)⟩
·obtain⟨o,e⟩:=ho b hb;exact mD (gX (kL e))
·exact(hf b hb).2.2.2.2.1 x c (cel x c e)
·rcases(hf b hb).2.2.2.1 with z|z
 ·exact I.ok.noex b o e z
 exact absurd (mG (kL e) (mJ I.ok.bsz z)) (dE _)
·rcases kW.mp (I.stkSub b z)with z|z
 ·exact(hf b hb).2.1 z
 exact(hf b hb).2.2.1 z
·have hi:i<ix.length:=by
  by_cases hi:i<ix.length
  ·exact hi
  rw[gO (by simpa[pick]using hi),dB]at e2;split at e2<;>cases e2
 obtain⟨i0,q1,q2,q3,q4⟩:=qEA hcap hi e1;rw[rH (by simpa[pick]using hi)]at e2;have e2:σ[i0]?=some (some v):=by
  unfold pick at e2;rw[kX,q1]at e2;have e2:σ.getD i0 none=some v:=kI e2;rw[kQ]at e2;cases z:σ[i0]? with
  |none=>rw[z]at e2;cases e2
  |some y=>rw[z]at e2;exact rL some e2
 obtain⟨mX,_,lX⟩:=I.loc;obtain⟨u,r,l⟩:=lX i0 x v q2 e2 (.inr (.inl q4));refine⟨u,r,.inr ⟨.inl (q9S I.ok.kind q4 q3),?_⟩⟩;rcases l with⟨l,_⟩|⟨_,c,e,z⟩
 ·rw[q4]at l;cases l
 obtain⟨o,e',d⟩:=z;exact⟨c,q68 e _ _ (.inl (gK q3)),o,hkp _ _ e',d⟩
·obtain⟨v,o,e',d⟩:=I.cell x c (cel x c e);exact⟨v,o,hkp _ _ e',d⟩
·show upd H s.heap.objs.size (.lst []) (s.heap.objs.size+1)=none;rw[qD (rW (wL _))];exact fresh1
·rw[qD (mD (clt x c e))];exact I.freeC x c (cel x c e)
·obtain⟨p1,p2,p3,p4,p5⟩:=I.pin p (kU _ (by simpa using hp));have lt:=kL p1;exact⟨hkp _ _ p1,by rw[qD (mD lt)];exact p2,mD (gX lt),λz=>(kW.mp (I.stkSub _ z)).elim p3 p4,p5⟩
show _=N.length
rw[mL,gI]
simp only[pick,hU]
lia)
noncomputable def PIf(X:Cx)(ifs:List Expr)(t:TT):Prop:=∀(pins:List (Addr×Obj)) (s:Shared) (σ:St) (H:Hp) (Q:Bool→Hp→Prop),Inv X pins σ H s→t σ H Q→wpAny (model X.prog X.w) X.A (forIn ifs true λc r=>if r=true then do let ok←isTrue c X.env (eval c X.env);pure (ForInStep.yield ok)else pure (ForInStep.yield r)) (TP X pins σ Q) X.xe s
noncomputable def q1N:TT:=λ_ H Q=>Q true H
theorem q9T{A B:Hp→Prop}{σ:St}{H:Hp}(h:A H):q1N σ H (λb H6=>if b=true then A H6 else B H6):=by show if true=true then A H else B H;rw[kG rfl];exact h
theorem v6{X:Cx}:PIf X [] q1N:=λpins s σ H Q I h=>kZ ⟨H,I,h⟩
theorem q06{X:Cx}{c:Expr}{t:TT}(hc:PT X c t):PIf X [c] t:=λpins s σ H Q I h=>by(
rw[xM]
show wpAny _ _ (bind (if true=true then _ else _) _) _ _ _
rw[kG rfl]
refine kD (kD (thn (hc pins s σ H Q I h) λb s1 q=>?_))
exact kZ (kZ q))
noncomputable def tLC(wi:TI)(g:TG)(tc:TT)(te:TE)(ix:List Nat)(k:Nat):TE:=λσ H Q=>wi σ H λJ H1=>∀D H2,H1 D=none→Same H1 H2→H2 D=some (.lst [])→∃W:Nat→Nat→Hp→Prop,(∃m,W 0 m H2)∧∀i m H3,W i m H3→(J.stop i H3∧Q (.ref D) H3)∨(J.go i H3∧∃N:Hp→Prop,(∀H',N H'→∃m',m'<m∧W (i+1) m' H')∧∀x H4,J.yld i H3 x H4→g x (pick ix σ++List.replicate k none) H4 λσ5 H5=>tc σ5 H5 λb H6=>
   if b=true then te σ5 H6 (λv H7=>∃vs,H7 D=some (.lst vs)∧vs.length<sizeLine∧N (upd H7 D (.lst (vs++[v]))))else N H6)
noncomputable def Own(g:TG)(k:Nat):Prop:=∀x σ H Q,g x σ H Q→g x σ H λσ' H'=>Q σ' H'∧σ'.length=σ.length∧∀j,j<k→σ'[j]?=σ[j]?
noncomputable def OwnS(g:TGs)(k:Nat):Prop:=∀(xs:List V) (σ:St) (H:Hp) (Q:St→Hp→Prop) (σ0:St),σ.length=σ0.length→(∀j,j<k→σ[j]?=σ0[j]?)→g xs σ H Q→g xs σ H λσ' H'=>Q σ' H'∧σ'.length=σ0.length∧∀j,j<k→σ'[j]?=σ0[j]?
theorem qFU{k:Nat}:OwnS gNil k:=λxs σ H Q σ0 h1 h2 ⟨e,q⟩=>⟨e,q,h1,h2⟩
theorem q9U{i k:Nat}{u:TGs}(h:k≤i)(hu:OwnS u k):OwnS (qGT (zB i) u) k:=λxs σ H Q σ0 h1 h2 ⟨v,r,e,q⟩=>⟨v,r,e,hu r (σ.set i (some v)) H Q σ0 (gM.trans h1) (λj hj=>by rw[rK (by lia)];exact h2 j hj) q⟩
theorem qFV{K:PySem.W.Frag}{n k:Nat}{g:TGs}(h:OwnS g k):Own (gTup K n g) k:=λx σ H Q ⟨a,xs,e1,e2,e3,q⟩=>⟨a,xs,e1,e2,e3,h xs σ H Q σ rfl (λ_ _=>rfl) q⟩
theorem jY{i k:Nat}(h:k≤i):Own (zB i) k:=λx σ H Q q=>⟨q,gM,λj hj=>by rw[rK (by lia)]⟩
theorem qC1{P:Program}{w:World}{A:Around}{R:Result→Shared→Prop}{s:Shared}{elt tg iter:Expr}{ifs:List Expr}{sc:Scope}{pos:Pos}{it acc:Value}{env:Env}(J:Nat→Shared→Prop)
 (turn:∀n s1,J n s1→wpAny (model P w) A (pyNext it) (λr s2=>match r with
  |none=>R (.ok .next) s2
  |some v=>wpAny (model P w) A (letOwnedTupleGo tg it v) (λ_ s3=>wpAny (model P w) A (assign tg env v) (λ_ s4=>
   wpAny (model P w) A (forIn ifs true λc r=>if r=true then do let ok←isTrue c env (eval c env);pure (ForInStep.yield ok)else pure (ForInStep.yield r)) (λok s5=>
    if ok=true then wpAny (model P w) A (eval elt env) (λx s6=>wpAny (model P w) A (call (.builtin "list.append") [acc,x]) (λ_ s7=>∃m,m<n∧J m s7) (notedBy (model P w) A env λe s'=>R (.error e) s') s6) (notedBy (model P w) A env λe s'=>R (.error e) s') s5
    else ∃m,m<n∧J m s5) (notedBy (model P w) A env λe s'=>R (.error e) s') s4) (notedBy (model P w) A env λe s'=>R (.error e) s') s3) (notedBy (model P w) A env λe s'=>R (.error e) s') s2) (notedBy (model P w) A env λe s'=>R (.error e) s') s1)
 (n:Nat) (h:J n s):codeAny (model P w) A (.compLoop (.ListComp elt [⟨tg,iter,ifs,0⟩] sc pos) 0 it acc env) R s:=by(
refine codeAny_loop rfl J (λm s1 hJ=>?_) n h
show wpAny _ A ((compTurn _ 0 it acc env).onRaise (λx=>do noteFrame x env;theTreesLotGoes x)) _ _ s1
refine wpAny_noted ?_
rw[compTurn_list]
refine kD (cJ (kD (thn (turn m s1 hJ) λr s2 h2=>?_)))
cases r with
|none=>exact kZ h2
|some v=>
 refine kD (thn h2 λ_ s3 h3=>kD (thn h3 λ_ s4 h4=>kD (thn h4 λok s5 h5=>?_)));cases ok with
 |false=>exact kZ ⟨rfl,h5⟩
 |true=>exact kD (kD (thn h5 λx s6 h6=>kD (thn h6 λ_ s7 h7=>kZ (kZ ⟨rfl,h7⟩)))))
structure TurnC(ok:Cx→Prop)(P:Program)(w:World)(K:PySem.W.Frag)(tg:Expr)(J:It)(fp:List Addr)(it:Addr)(tn:Nat→Heap→Prop):Prop where
obj:∀i h,tn i h→∀b∈fp,∃o,h.get? b=some o∧∀v,o.data≠ .cell v
keep:∀i h h',tn i h→(∀b∈fp,∀o,h.get? b=some o→h'.get? b=some o)→tn i h'
item:∀(X:Cx),X.prog=P→X.w=w→X.K=K→ok X→∀(i:Nat) (pins:List (Addr×Obj)) (s:Shared) (σ:St) (H:Hp) (E:Value→Shared→Prop),Inv X pins σ H s→(∀b∈fp,FpOk X pins H b)→tn i s.heap→J.go i H→wpAny (model P w) X.A (pyNext (.ref it)) (λr s1=>∃u,r=some u∧wpAny (model P w) X.A (letOwnedTupleGo tg (.ref it) u) (λ_ s2=>∃x H',Inv X pins σ H' s2∧RelV x u∧J.yld i H x H'∧tn (i+1) s2.heap∧∀b∈fp,H' b=none) E s1) E s
done:∀(X:Cx),X.prog=P→X.w=w→X.K=K→ok X→∀(i:Nat) (pins:List (Addr×Obj)) (s:Shared) (σ:St) (H:Hp) (E:Value→Shared→Prop),Inv X pins σ H s→(∀b∈fp,FpOk X pins H b)→tn i s.heap→J.stop i H→wpAny (model P w) X.A (pyNext (.ref it)) (λr s1=>r=none∧Inv X pins σ H s1) E s
self:∀(A:Around) (i:Nat) (s:Shared) (Q:Value→Shared→Prop) (E:Value→Shared→Prop),tn i s.heap→Q (.ref it) s→wpAny (model P w) A (pyIter (.ref it)) Q E s
noncomputable def PIc(ok:Cx→Prop)(X:Cx)(tg iter:Expr)(wi:TI):Prop:=∀(pins:List (Addr×Obj)) (s:Shared) (σ:St) (H:Hp) (R:It→Hp→Prop),Inv X pins σ H s→wi σ H R→wpAny (model X.prog X.w) X.A (eval iter X.env) (λv s1=>wpAny (model X.prog X.w) X.A (pyIter v) (λitv s2=>∃(it:Addr) (fp:List Addr) (tn:Nat→Heap→Prop) (J:It) (H':Hp),itv=.ref it∧Inv X pins σ H' s2∧TurnC ok X.prog X.w X.K tg J fp it tn∧tn 0 s2.heap∧(∀b∈fp,FpOk X pins H' b)∧R J H') X.xe s1) X.xe s
theorem PI.c{X:Cx}{tg iter:Expr}{wi:TI}(h:PI X tg iter wi):PIc (λX=>X.calm=true) X tg iter wi:=λpins s σ H R I q=>thn (h pins s σ H R I q) λv s1 h1=>thn h1 λitv s2 ⟨it,fp,tn,J,H',a,b,T,r⟩=>⟨it,fp,tn,J,H',a,b,⟨T.obj,T.keep,T.item,T.done,T.self⟩,r⟩
theorem qC2{X:Cx}{elt iter tg:Expr}{ifs:List Expr}{scope:Scope}{pos cp:Pos}{wi:TI}{g:TG}{tc:TT}{te:TE}{use:Option (Value→Sem Unit)}{QQ:Value→Shared→Prop}{pins:List (Addr×Obj)}{s:Shared}{σ:St}{H:Hp}{Q:VK}(N:List Str)(ix:List Nat)(ok:Cx→Prop)(hok:∀C fp s H xe,ok (yB X N scope C fp s H xe))(hi:PIc ok X tg iter wi)
 (hg:∀C fp s H xe,PG (yB X N scope C fp s H xe) tg g) (hif:∀C fp s H xe,PIf (yB X N scope C fp s H xe) ifs tc) (he:∀C fp s H xe,PE (yB X N scope C fp s H xe) elt te)
 (hk:scope.kind=.function) (hc:∀y∈scope.names,y.2≠ .cell) (hfr:∀y∈scope.names,y.2=.free→X.env.kindOf y.1=some .cell) (hcap:q57 X.N X.env.kindOf scope.names N ix=true) (hN:ix.length≤N.length)
 (hnames:∀x∈scope.names,x.2=.local→scope.names.lookup x.1=some .local) (hown:Own g ix.length) (I:Inv X pins σ H s) (h:tLC wi g tc te ix (N.length-ix.length) σ H Q)
 (hfin:∀(C D:Addr) (H':Hp) (s':Shared) (m:Str→Option Value),s'.heap.Ns C m→FpOk X pins H' C→(∀h',Heap.SameBut C s'.heap h'→Inv X pins σ H' { s' with heap:=h' })→Q (.ref D) H'→compPost (model X.prog X.w) X.A X.xe use QQ (.ref D) C (.ok .next) s')
 (hs:∀x,foldedSetIterable iter X.env x=pure x:=by intro _;rfl):
 wpAny (model X.prog X.w) X.A (comprehension (.ListComp elt [⟨tg,iter,ifs,0⟩] scope pos) scope X.env cp (newList []) false (eval iter X.env) use) QQ X.xe s:=by(
refine wpAny_comprehension_free (use:=use) (cl:=clOf X.env scope.names []) rfl hs (q35 λy hy hyf=>I.ok.has _ (.inl (hfr y hy hyf))) hk hnames (thn (hi pins s σ H _ I h) λv s1 h1=>thn h1 λitv s2 h2=>?_)
obtain⟨it,fp,tn,J,H2,e,I2,T,st2,f2,q2⟩:=h2
subst e
refine pJ (cM hc (by intro y hy;simp at hy) (λh₁ hns₁ hsb₁=>?_) hk)
dsimp only at hns₁ hsb₁ ⊢
rw[rP]at hns₁ hsb₁ ⊢
have old:∀b o,s2.heap.get? b=some o→h₁.get? b=some o:=λb o e=>hsb₁.extBut b o (mD (gX (kL e))) (hX _ (hX _ e))
have hacc:h₁.get? s2.heap.objs.size=some { cls:=.type "list",data:=.seq ([]:List Value).toArray }:=hsb₁.extBut _ _ (mD (wL _)) (hX _ (k7 _ rfl))
have fob:∀b∈fp,∃o,s2.heap.get? b=some o:=λb hb=>let⟨o,e,_⟩:=T.obj _ _ st2 b hb;⟨o,e⟩
have fresh:H2 s2.heap.objs.size=none:=I2.hok.fresh (kH _)
obtain⟨W,⟨m0,w0⟩,turn⟩:=q2 s2.heap.objs.size (upd H2 s2.heap.objs.size (.lst [])) fresh (Same.upd fresh) qF
have fin:∀{pY σ' H' s'},Inv (yB X N scope (s2.heap.objs.size+1) fp s2 H2 (notedBy (model X.prog X.w) X.A (compEnvC scope (clOf X.env scope.names []) (s2.heap.objs.size+1) X.env) λe s'=>compPost (model X.prog X.w) X.A X.xe use QQ (.ref s2.heap.objs.size) (s2.heap.objs.size+1) (.error e) s')) pY σ' H' s'→Q (.ref s2.heap.objs.size) H'→compPost (model X.prog X.w) X.A X.xe use QQ (.ref s2.heap.objs.size) (s2.heap.objs.size+1) (.ok .next) s':=fun {pY σ' H' s'} J q=>by
 obtain⟨m,hm,_⟩:=id J.loc;refine hfin (s2.heap.objs.size+1) s2.heap.objs.size H' s' m hm (I2.fpOk (d7 _) J.free) (λh' sb=>?_) q;have eb:∀b o,b≠s2.heap.objs.size+1→s'.heap.get? b=some o→h'.get? b=some o:=λb o nb e=>sb.extBut b o nb e;have low:∀b o,s2.heap.get? b=some o→b≠s2.heap.objs.size+1:=λb o e=>mD (gX (kL e));have u:=J.base;have nC:H' (s2.heap.objs.size+1)=none:=J.free;refine I2.call' (ch:=fp) (s':={ s' with heap:=h' }) J.os ⟨λb o e n1 n2 n3=>eb b o (low b o e) (u.keep b o e n1 n2 n3),λb o e n1 n2 n3=>?_,u.free,λb o e n1=>?_,u.tups,u.frzs,u.tbls⟩ (λb o e=>?_) J.bare λb hb=>⟨(f2 b hb).2.2.2.1,(f2 b hb).2.1,(f2 b hb).2.2.2.2.1,(f2 b hb).2.2.2.2.2⟩
 ·obtain⟨sl,q1⟩:=u.slot b o e n1 n2 n3;exact⟨sl,eb b _ (low b o e) q1⟩
 ·obtain⟨o',q1⟩:=u.there b o e n1;exact⟨o',eb b _ (low b o e) q1⟩
 refine(J.hok b o e).stay (λc v hc q1=>eb c v ?_ q1) (λ_ q1=>q1) λ_ _ q1=>q1;rcases hc with rfl|z
 ·exact qG e nC
 exact qG z nC
have IY:Inv (yB X N scope (s2.heap.objs.size+1) fp s2 H2 (notedBy (model X.prog X.w) X.A (compEnvC scope (clOf X.env scope.names []) (s2.heap.objs.size+1) X.env) λe s'=>compPost (model X.prog X.w) X.A X.xe use QQ (.ref s2.heap.objs.size) (s2.heap.objs.size+1) (.error e) s')) [] (pick ix σ++List.replicate (N.length-ix.length) none) (upd H2 s2.heap.objs.size (.lst [])) { s2 with heap:=h₁,toks:=s2.toks+([]:List (Str×Value)).length }:=qC0 I2 f2 fob hk hc hfr hcap hN hns₁ old hacc
generalize hY:yB X N scope (s2.heap.objs.size+1) fp s2 H2 (notedBy (model X.prog X.w) X.A (compEnvC scope (clOf X.env scope.names []) (s2.heap.objs.size+1) X.env) λe s'=>compPost (model X.prog X.w) X.A X.xe use QQ (.ref s2.heap.objs.size) (s2.heap.objs.size+1) (.error e) s')=Y at IY fin
have hgY:PG Y tg g:=hY▸hg _ _ _ _ _
have hifY:PIf Y ifs tc:=hY▸hif _ _ _ _ _
have heY:PE Y elt te:=hY▸he _ _ _ _ _
have hP:Y.prog=X.prog:=by rw[←hY]
have hw:Y.w=X.w:=by rw[←hY]
have hK:Y.K=X.K:=by rw[←hY]
have hcl:ok Y:=hY▸hok _ _ _ _ _
have stat:∀{H':Hp},(∀b∈fp,H' b=none)→∀b∈fp,FpOk Y [] H' b:=fun {H'} hn b hb=>by
 rw[←hY];refine⟨hn b hb,?_,λz=>?_,.inl hb,λx c e=>?_,λp hp=>(f2 b hb).2.2.2.2.2 p (kU _ (by simpa using hp))⟩
 ·obtain⟨o,e⟩:=fob b hb;exact mD (gX (kL e))
 ·rcases kW.mp (I2.stkSub b z)with z|z
  ·exact(f2 b hb).2.1 z
  exact(f2 b hb).2.2.1 z
 exact(f2 b hb).2.2.2.2.1 x c (q3W _ _ (by intro q;simp at q) e)
have loop:codeAny (model X.prog X.w) X.A (.compLoop (.ListComp elt [⟨tg,iter,ifs,0⟩] scope pos) 0 (.ref it) (.ref s2.heap.objs.size) (compEnvC scope (clOf X.env scope.names []) (s2.heap.objs.size+1) X.env))
 (compPost (model X.prog X.w) X.A X.xe use QQ (.ref s2.heap.objs.size) (s2.heap.objs.size+1)) { s2 with heap:=h₁,toks:=s2.toks+([]:List (Str×Value)).length }:=by
 refine qC1 (λn s'=>∃i H',Inv Y [] (pick ix σ++List.replicate (N.length-ix.length) none) H' s'∧tn i s'.heap∧(∀b∈fp,H' b=none)∧W i n H') ?_ m0
  ⟨0,_,IY,T.keep _ _ _ st2 (λb hb o e=>old b o e),λb hb=>by obtain⟨o,e⟩:=fob b hb;rw[qD (mD (kL e))];exact(f2 b hb).1,w0⟩
 rintro n s3 ⟨i,H3,I3,st3,fr3,w3⟩
 rcases turn i n H3 w3 with⟨stop,qn⟩|⟨go,NN,hNN,step⟩
 ·have d:=T.done Y hP hw hK hcl i [] s3 _ H3 Y.xe I3 (stat fr3) st3 stop;subst hY;refine thn d λr s4 hZ=>?_;obtain⟨hr,I4⟩:=hZ;subst hr;exact fin I4 qn
 have d:=T.item Y hP hw hK hcl i [] s3 _ H3 Y.xe I3 (stat fr3) st3 go;have again:∀{p5:List (Addr×Obj)} {s5 s8:Shared} {σ6:St} {H8:Hp},p5=q4H fp s5.heap→tn (i+1) s5.heap→σ6.length=(pick ix σ++List.replicate (N.length-ix.length) none).length→(∀j,j<ix.length→σ6[j]?=(pick ix σ++List.replicate (N.length-ix.length) none)[j]?)→Inv Y ([]++p5) σ6 H8 s8→NN H8→∃m',m'<n∧∃i H',Inv Y [] (pick ix σ++List.replicate (N.length-ix.length) none) H' s8∧tn i s8.heap∧(∀b∈fp,H' b=none)∧W i m' H':=fun {p5 s5 s8 σ6 H8} e5 st5 l6 k6 I8 q8=>by
  subst e5;obtain⟨m',hm,w8⟩:=hNN _ q8;refine⟨m',hm,i+1,H8,I8.unpinned.weak l6.symm (λj v e=>?_),T.keep _ _ _ st5 λb hb o e=>(I8.pin (b,o) (kM _ (kM _ (u7 hb e)))).1,λb hb=>?_,w8⟩
  ·by_cases hj:j<ix.length
   ·rw[k6 j hj];exact e
   rw[gO (by simpa[pick]using hj),dB]at e;split at e<;>cases e
  obtain⟨o,e,_⟩:=T.obj _ _ st5 b hb;exact(I8.pin (b,o) (kM _ (kM _ (u7 hb e)))).2.1
 have tail:∀(r:Option Value) (s4:Shared),(∃u,r=some u∧wpAny (model Y.prog Y.w) Y.A (letOwnedTupleGo tg (.ref it) u) (λ_ s2=>∃x H',Inv Y [] (pick ix σ++List.replicate (N.length-ix.length) none) H' s2∧RelV x u∧J.yld i H3 x H'∧tn (i+1) s2.heap∧∀b∈fp,H' b=none) Y.xe s4)→(match r with
  |none=>compPost (model X.prog X.w) X.A X.xe use QQ (.ref s2.heap.objs.size) (s2.heap.objs.size+1) (.ok .next) s4
  |some v=>wpAny (model Y.prog Y.w) Y.A (letOwnedTupleGo tg (.ref it) v) (λ_ s₁=>wpAny (model Y.prog Y.w) Y.A (assign tg Y.env v) (λ_ s₂=>
   wpAny (model Y.prog Y.w) Y.A (forIn ifs true λc r=>if r=true then do let ok←isTrue c Y.env (eval c Y.env);pure (ForInStep.yield ok)else pure (ForInStep.yield r)) (λok s₃=>
    if ok=true then wpAny (model Y.prog Y.w) Y.A (eval elt Y.env) (λx s₄=>wpAny (model Y.prog Y.w) Y.A (call (.builtin "list.append") [.ref s2.heap.objs.size,x]) (λ_ s₅=>∃m,m<n∧∃i H',Inv Y [] (pick ix σ++List.replicate (N.length-ix.length) none) H' s₅∧tn i s₅.heap∧(∀b∈fp,H' b=none)∧W i m H') Y.xe s₄) Y.xe s₃
    else ∃m,m<n∧∃i H',Inv Y [] (pick ix σ++List.replicate (N.length-ix.length) none) H' s₃∧tn i s₃.heap∧(∀b∈fp,H' b=none)∧W i m H') Y.xe s₂) Y.xe s₁) Y.xe s4):=by
  rintro r s4 ⟨u,rfl,h4⟩
  dsimp only;refine thn h4 λ_ s5 hZ=>?_;obtain⟨x,H5,I5,r5,y5,st5,fr5⟩:=hZ;have I5':=I5.pinned (stat fr5) (T.obj _ _ st5);refine thn (hgY _ s5 _ H5 x u _ I5' r5 (hown _ _ _ _ (step x H5 y5))) λ_ s6 hZ=>?_;obtain⟨σ6,H6,I6,q6,l6,k6⟩:=hZ;refine thn (hifY _ s6 σ6 H6 _ I6 q6) λb s7 hZ=>?_;obtain⟨H7,I7,q7⟩:=hZ;cases b with
  |false=>rw[kE (by decide)]at q7 ⊢;exact again rfl st5 l6 k6 I7 q7
  |true=>rw[kG rfl]at q7 ⊢;refine thn (heY _ s7 σ6 H7 _ I7 q7) λy s8 hZ=>?_;obtain⟨v,H8,I8,r8,vs,e8,hz,q8⟩:=hZ;refine thn (yR (X:=Y) _ s8 σ6 H8 (.ref s2.heap.objs.size) [v] (.ref s2.heap.objs.size) [y] (λ_ H9=>NN H9) I8 rfl (.cons r8 .nil) ⟨s2.heap.objs.size,vs,v,rfl,rfl,e8,hz,q8⟩) λ_ s9 hZ=>?_;obtain⟨_,H9,I9,_,q9⟩:=hZ;exact again rfl st5 l6 k6 I9 q9
 subst hY;exact thn d tail
exact p8 loop (T.self X.A 0 _ _ _ (T.keep _ _ _ st2 λb hb o e=>old b o e) loop))
theorem qK1{X:Cx}{elt iter tg:Expr}{ifs:List Expr}{scope:Scope}{pos:Pos}{wi:TI}{g:TG}{tc:TT}{te:TE}(N:List Str)(ix:List Nat)(hcalm:X.calm=true)(hi:PI X tg iter wi)
 (hg:∀C fp s H xe,PG (yB X N scope C fp s H xe) tg g) (hif:∀C fp s H xe,PIf (yB X N scope C fp s H xe) ifs tc) (he:∀C fp s H xe,PE (yB X N scope C fp s H xe) elt te)
 (hk:scope.kind=.function) (hc:∀y∈scope.names,y.2≠ .cell) (hfr:∀y∈scope.names,y.2=.free→X.env.kindOf y.1=some .cell) (hcap:q57 X.N X.env.kindOf scope.names N ix=true) (hN:ix.length≤N.length)
 (hnames:∀x∈scope.names,x.2=.local→scope.names.lookup x.1=some .local) (hown:Own g ix.length) (hs:∀x,foldedSetIterable iter X.env x=pure x:=by intro _;rfl):
 PE X (.ListComp elt [⟨tg,iter,ifs,0⟩] scope pos) (tLC wi g tc te ix (N.length-ix.length)):=by intro pins s σ H Q I h;rw[eval_ListComp];exact qC2 N ix _ (λ_ _ _ _ _=>hcalm) hi.c hg hif he hk hc hfr hcap hN hnames hown I h (λC D H' s' m hm fok inv q=>⟨m,hm,λh' sb=>⟨.ref D,H',inv h' sb,rfl,q⟩⟩) hs
noncomputable def q7Z(XN:List Str)(kd:Str→Option NameKind)(sc:Scope)(N:List Str)(ix:List Nat):Bool:=decide (sc.kind=.function)&&sc.names.all (λy=>decide (y.2≠ .cell)&&(decide (y.2≠ .free)||decide (kd y.1=some .cell))&&(decide (y.2≠ .local)||decide (sc.names.lookup y.1=some .local)))&&q57 XN kd sc.names N ix&&decide (ix.length≤N.length)
theorem yW{X:Cx}{elt iter tg:Expr}{ifs:List Expr}{scope:Scope}{pos:Pos}{wi:TI}{g:TG}{tc:TT}{te:TE}(N:List Str)(ix:List Nat)(hcalm:X.calm=true)(hi:PI X tg iter wi)
 (hg:∀C fp s H xe,PG (yB X N scope C fp s H xe) tg g) (hif:∀C fp s H xe,PIf (yB X N scope C fp s H xe) ifs tc) (he:∀C fp s H xe,PE (yB X N scope C fp s H xe) elt te)
 (ok:q7Z X.N X.env.kindOf scope N ix=true) (hown:Own g ix.length) (hs:∀x,foldedSetIterable iter X.env x=pure x:=by intro _;rfl):
 PE X (.ListComp elt [⟨tg,iter,ifs,0⟩] scope pos) (tLC wi g tc te ix (N.length-ix.length)):=by(
unfold q7Z at ok
rw[mE,mE,mE,gT]at ok
obtain⟨⟨⟨h1,h2⟩,h3⟩,h4⟩:=ok
have h2':∀y∈scope.names,y.2≠ .cell∧(y.2≠ .free∨X.env.kindOf y.1=some .cell)∧(y.2≠ .local∨scope.names.lookup y.1=some .local):=λy hy=>by have q:=h2 y hy;rw[mE,mE,g8,g8,kR,kR,kR,kR,kR]at q;exact⟨q.1.1,q.1.2,q.2⟩
exact qK1 N ix hcalm hi hg hif he (gQ h1) (λy hy=>(h2' y hy).1) (λy hy e=>(h2' y hy).2.1.resolve_left (λz=>z e)) h3 (gQ h4) (λy hy e=>(h2' y hy).2.2.resolve_left (λz=>z e)) hown hs)
theorem q9V{lo:Int}{n:Nat}{D:Addr}{H2:Hp}{g:TG}{tc:TT}{te:TE}{σ0:St}{Q:VK}(Pv:Nat→Hp→Prop)(h0:Pv 0 H2)
 (hs:∀(i:Nat) H,i<n→Pv i H→g (.int (lo+i)) σ0 H λσ5 H5=>tc σ5 H5 λb H6=>if b=true then te σ5 H6 (λv H7=>∃vs,H7 D=some (.lst vs)∧vs.length<sizeLine∧Pv (i+1) (upd H7 D (.lst (vs++[v]))))else Pv (i+1) H6) (hd:∀H,Pv n H→Q (.ref D) H):
 ∃W:Nat→Nat→Hp→Prop,(∃m,W 0 m H2)∧∀i m H3,W i m H3→((Itr lo n).stop i H3∧Q (.ref D) H3)∨((Itr lo n).go i H3∧∃N:Hp→Prop,(∀H',N H'→∃m',m'<m∧W (i+1) m' H')∧∀x H4,(Itr lo n).yld i H3 x H4→g x σ0 H4 λσ5 H5=>tc σ5 H5 λb H6=>
   if b=true then te σ5 H6 (λv H7=>∃vs,H7 D=some (.lst vs)∧vs.length<sizeLine∧N (upd H7 D (.lst (vs++[v]))))else N H6):=by(
refine⟨λi m H=>m=n-i∧i≤n∧Pv i H,⟨n,by simp,mS _,h0⟩,?_⟩
rintro i m H ⟨rfl,hi,p⟩
by_cases hlt:i<n
·refine .inr ⟨hlt,Pv (i+1),λH' z=>⟨n-(i+1),by lia,rfl,by lia,z⟩,?_⟩;rintro x H4 ⟨rfl,rfl⟩
 exact hs i _ hlt p
obtain rfl:i=n:=by lia
exact .inl ⟨kH _,hd _ p⟩)
theorem qC3{K:PySem.W.Frag}{a:Addr}{xs:List V}{D:Addr}{H2:Hp}{g:TG}{tc:TT}{te:TE}{σ0:St}{Q:VK}(Pv:Nat→Hp→Prop)(h0:Pv 0 H2)(hl:∀i H,Pv i H→SqL K H a xs)
 (hs:∀(i:Nat) x H,xs[i]?=some x→Pv i H→g x σ0 H λσ5 H5=>tc σ5 H5 λb H6=>if b=true then te σ5 H6 (λv H7=>∃vs,H7 D=some (.lst vs)∧vs.length<sizeLine∧Pv (i+1) (upd H7 D (.lst (vs++[v]))))else Pv (i+1) H6) (hd:∀H,Pv xs.length H→Q (.ref D) H):
 ∃W:Nat→Nat→Hp→Prop,(∃m,W 0 m H2)∧∀i m H3,W i m H3→((Itl K a).stop i H3∧Q (.ref D) H3)∨((Itl K a).go i H3∧∃N:Hp→Prop,(∀H',N H'→∃m',m'<m∧W (i+1) m' H')∧∀x H4,(Itl K a).yld i H3 x H4→g x σ0 H4 λσ5 H5=>tc σ5 H5 λb H6=>
   if b=true then te σ5 H6 (λv H7=>∃vs,H7 D=some (.lst vs)∧vs.length<sizeLine∧N (upd H7 D (.lst (vs++[v]))))else N H6):=by(
refine⟨λi m H=>m=xs.length-i∧i≤xs.length∧Pv i H,⟨xs.length,by simp,mS _,h0⟩,?_⟩
rintro i m H ⟨rfl,hi,p⟩
have hq:=hl i H p
by_cases hlt:i<xs.length
·have e1:xs[i]?=some xs[i]:=hZ hlt;refine .inr ⟨⟨xs,_,hq,e1⟩,Pv (i+1),λH' z=>⟨xs.length-(i+1),by lia,rfl,by lia,z⟩,?_⟩;rintro x H4 ⟨rfl,hx⟩
 exact hs i x _ (hx xs hq) p
obtain rfl:i=xs.length:=by lia
exact .inl ⟨⟨xs,hq,kH _⟩,hd _ p⟩)
theorem qCZ{lo:Int}{n k:Nat}{D:Addr}{H2:Hp}{te:TE}{σ0:St}{Q:VK}(Pv:Nat→Hp→Prop)(h0:Pv 0 H2)
 (hs:∀(i:Nat) H,i<n→Pv i H→te (σ0.set k (some (.int (lo+i)))) H (λv H7=>∃vs,H7 D=some (.lst vs)∧vs.length<sizeLine∧Pv (i+1) (upd H7 D (.lst (vs++[v]))))) (hd:∀H,Pv n H→Q (.ref D) H):
 ∃W:Nat→Nat→Hp→Prop,(∃m,W 0 m H2)∧∀i m H3,W i m H3→((Itr lo n).stop i H3∧Q (.ref D) H3)∨((Itr lo n).go i H3∧∃N:Hp→Prop,(∀H',N H'→∃m',m'<m∧W (i+1) m' H')∧∀x H4,(Itr lo n).yld i H3 x H4→zB k x σ0 H4 λσ5 H5=>q1N σ5 H5 λb H6=>if b=true then te σ5 H6 (λv H7=>∃vs,H7 D=some (.lst vs)∧vs.length<sizeLine∧N (upd H7 D (.lst (vs++[v]))))else N H6):=q9V (g:=zB k) (tc:=q1N) Pv h0 (λi H hi p=>q9T (σ:=σ0.set k (some (.int (lo+i)))) (A:=λH6=>te (σ0.set k (some (.int (lo+i)))) H6 _) (B:=λH6=>Pv (i+1) H6) (hs i H hi p)) hd
theorem qEB{K:PySem.W.Frag}{a:Addr}{xs:List V}{k:Nat}{D:Addr}{H2:Hp}{te:TE}{σ0:St}{Q:VK}(Pv:Nat→Hp→Prop)(h0:Pv 0 H2)(hl:∀i H,Pv i H→SqL K H a xs)
 (hs:∀(i:Nat) x H,xs[i]?=some x→Pv i H→te (σ0.set k (some x)) H (λv H7=>∃vs,H7 D=some (.lst vs)∧vs.length<sizeLine∧Pv (i+1) (upd H7 D (.lst (vs++[v]))))) (hd:∀H,Pv xs.length H→Q (.ref D) H):
 ∃W:Nat→Nat→Hp→Prop,(∃m,W 0 m H2)∧∀i m H3,W i m H3→((Itl K a).stop i H3∧Q (.ref D) H3)∨((Itl K a).go i H3∧∃N:Hp→Prop,(∀H',N H'→∃m',m'<m∧W (i+1) m' H')∧∀x H4,(Itl K a).yld i H3 x H4→zB k x σ0 H4 λσ5 H5=>q1N σ5 H5 λb H6=>if b=true then te σ5 H6 (λv H7=>∃vs,H7 D=some (.lst vs)∧vs.length<sizeLine∧N (upd H7 D (.lst (vs++[v]))))else N H6):=qC3 (g:=zB k) (tc:=q1N) Pv h0 hl (λi x H hx p=>q9T (σ:=σ0.set k (some x)) (A:=λH6=>te (σ0.set k (some x)) H6 _) (B:=λH6=>Pv (i+1) H6) (hs i x H hx p)) hd
noncomputable def rEmp(K:PySem.W.Frag):R2:=λx y H Q=>∃p xs e,x=.ref p∧y=.ref e∧SqL K H p xs∧SqL K H e []∧Q (.bl (decide (xs=[]))) H
theorem qAY{X:Cx}(hu:X.A.units+64<cLine):OpR X (compareOp .Eq) (rEmp X.K):=by(
intro pins s σ H x y v u Q I rx ry hZ
obtain⟨p,xs,e,ex,ey,hp,he,q⟩:=hZ
subst ex ey
cases rx
cases ry
obtain⟨i1,r1,p1,_⟩:=I.list hp
obtain⟨i2,r2,p2,_⟩:=I.list he
have l1:=r1.length
have l2:=r2.length
cases xs with
|nil=>exact xL (e:=λ_=>true) p1.isList p2.isList (by simp at l1 l2 ⊢;lia) (by lia) (λj h1 h2=>by simp at l1 h1;lia) ⟨.bl true,H,I,by rw[vQ];rfl,q⟩
|cons z zs=>exact SeqAt.eq_list_lengthsAt p1.isList p2.isList (by simp at l1 l2 ⊢;lia) (by lia) ⟨.bl false,H,I,rfl,q⟩)
section
variable{X:Cx}{o e f:Expr}{apos cpos:Pos}{td ty tx:TE}
theorem qEC{P:Program}{w:World}{k:Key}{u:Value}(h:(jA P w).is k u=true):RelV (kV k) u:=by(
cases k with
|inl i=>exact lP h
|inr x=>exact nP h)
theorem q80{α β:Type}{F:α→β→Prop}:∀{l₁:List α} {l₂:List β},l₁.length=l₂.length→(∀(j:Nat) a b,l₁[j]?=some a→l₂[j]?=some b→F a b)→Paired F l₁ l₂
| [],[],_,_=>.nil
|a::l,b::l',h,k=>.cons (k 0 a b rfl rfl) (q80 (by simpa using h) λj x y hx hy=>k (j+1) x y (by simpa using hx) (by simpa using hy))
| [],_::_,h,_=>by simp at h
|_::_,[],h,_=>by simp at h
end
theorem q3X:∀{ns:List Int} {vs:List Value},Vals (ns.map V.int) vs→IntsAre vs ns
| [],_,.nil=>.nil
|n::ns,_,.cons h t=>by obtain⟨t0,rfl⟩:=h;exact .cons n t0 (q3X t)
section
variable{X:Cx}
theorem q2H(hc:X.calm=true):zC X (.builtin "sum") (λxs H Q=>∃(p:Addr) (ns:List Int),xs=[.ref p]∧SqL X.K H p (ns.map V.int)∧Q (.int ns.sum) H):=by(
intro pins s σ H xs us Q I r hZ
obtain⟨p,ns,ex,hq,q⟩:=hZ
subst ex
obtain⟨u,rfl,rx⟩:=zP r
cases rx
obtain⟨its,rv,pl,hz⟩:=I.list hq
have hi:=q3X rv
obtain⟨xs,e⟩:=hi.allInts.items
have hn:numsOf its.toArray.toList=ns:=by rw[show its.toArray.toList=its from rfl,hi.numsOf]
have hl:=pl.isList
rw[e]at hl hn
rw[nums_intItems]at hn
have hh:=I.ok.hd hc
have hsz:(intItems xs).size=xs.size:=by simp[intItems]
refine call_sum_walkAnyS (iter_intList hl λs₂ e2 st hfp hlI=>?_)
subst e2
have W:=(xW (prog:=X.prog) (w:=X.w) (A:=X.A.in1) hh s.heap.objs.size p hlI (intItems xs)).toS
rw[hsz]at W
refine⟨s.heap.objs.size,_,_,_,_,_,_,numAt xs,rfl,W,st,hfp,λi v hP=>intItems_at hP,λs' t' hm=>?_⟩
obtain⟨h',g',d',tk',os'⟩:=s'
have e1:g'=s.gens:=hm.gens
have e2:d'=s.drawn:=hm.drawn
have e3:os'=s.os:=hm.os
subst e1 e2 e3
refine⟨.int _,H,I.kept λb o e=>hm.heap b o (λhb=>absurd (kL e) ((kJ.mp hb)▸dE _)) (hX _ e),⟨t',rfl⟩,?_⟩
rw[preSum_eq,List.take_of_length_le (by simp),hn]
exact q)
theorem q0W:∀{vs:List Value} {ns:List Int},IntsAre vs ns→Vals (ns.map V.int) vs
|_,_,.nil=>.nil
|_,_,.cons n t h=>.cons ⟨t,rfl⟩ (q0W h)
theorem q8J:zC X (.builtin "sorted") (λxs H Q=>∃(p:Addr) (ns:List Int),xs=[.ref p]∧SqL X.K H p (ns.map V.int)∧ns.length<64∧∀ns':List Int,ns'.Perm ns→ns'.Pairwise (·≤·)→NewO H (.lst (ns'.map V.int)) Q):=by(
intro pins s σ H xs us Q I r hZ
obtain⟨p,ns,ex,hq,h64,q⟩:=hZ
subst ex
obtain⟨u,rfl,rx⟩:=zP r
cases rx
obtain⟨its,rv,pl,hz⟩:=I.list hq
have hi:=q3X rv
have hlen:its.length<64:=by rw[←rv.length,hU];exact h64
refine sorted_ints pl.isList hi hlen λout ns' a1 a2 a3=>?_
obtain⟨e,he⟩:=sortedAll_at s.heap its out
have hz':(ns'.map V.int).length≤sizeLine:=by rw[hU,a2.length_eq,gR];lia
exact⟨.ref (s.heap.objs.size+1),_,I.laid (t':=s.toks) (λ_ _ h=>sortedAll_old h) (d7 _) (show jU X.prog X.w _ _ _ (.lst _)from⟨hz',out.toList,e,q0W a1,by simpa[seqObj]using he⟩),rfl,(q ns' a2 a3).at _ (I.hok.fresh (d7 _))⟩)
theorem qD0(hc:X.calm=true):zC X (.builtin "all") (λxs H Q=>∃(p:Addr) (bs:List Bool),xs=[.ref p]∧SqL X.K H p (bs.map V.bl)∧Q (.bl (bs.all id)) H):=by(
intro pins s σ H xs us Q I r hZ
obtain⟨p,bs,ex,hq,q⟩:=hZ
subst ex
obtain⟨u,rfl,rx⟩:=zP r
cases rx
obtain⟨its,rv,pl,hz⟩:=I.list hq
have hl:=pl.isList
have hlt:p<s.heap.objs.size:=by obtain⟨_,e,_⟩:=hl;exact kL e
have hln:=rv.length
refine call_all_walk (pG hl ?_)
have W:=xW (prog:=X.prog) (w:=X.w) (A:=X.A.in1) (I.ok.hd hc) s.heap.objs.size p (mD hlt) its.toArray
refine⟨s.heap.objs.size,_,_,_,_,_,λi=>bs.getD i false,rfl,W,⟨⟨_,k7 _ rfl,rfl,rfl⟩,hl.push _⟩,λi v s1 Q1 E1 hP hQ=>?_,λh' tk hk=>?_⟩
·have hP:its[i]?=some v:=by simpa using hP
 obtain⟨x,hx,rx⟩:=rv.atN (j:=i) (hV.mp hP).1;rw[kX]at hx;obtain⟨b,hb,rfl⟩:=mO.mp hx;have ev:its[i]'(hV.mp hP).1=v:=(hV.mp hP).2;rw[ev]at rx;have rx:v=.bool b:=rx;subst rx;have eb:bs.getD i false=b:=by rw[kQ,hb];rfl
 have hQ:Q1 (bs.getD i false) s1:=hQ;rw[eb]at hQ;exact gW hQ
have e:(List.range its.toArray.size).all (λi=>bs.getD i false)=bs.all id:=by
 have hs:its.toArray.size=bs.length:=by simp at hln ⊢;lia
 rw[hs];apply wB.mpr;rw[gT,gT];constructor
 ·intro h b hb;obtain⟨i,hi,rfl⟩:=cV hb;have:=h i (mH.mpr hi);rw[kQ,hZ hi]at this;exact this
 intro h i hi;have hi:=mH.mp hi;rw[kQ,hZ hi];exact h _ (rS hi)
rw[e]
exact⟨.bl _,H,I.kept λb o eo=>hk b o (λhb=>absurd (kL eo) ((kJ.mp hb)▸dE _)) (hX _ eo),rfl,q⟩)
end
end L2
namespace W1
open PySem L2
theorem q8K{H:Hp}{x dx C:Addr}(nx:H x=none)(nd:H dx=none):Same H (upd (upd H dx (.own x)) x (.ins C dx [])):=λb o e=>by rw[qD (qG e nx),qD (qG e nd)];exact e
end W1
namespace L2
open PySem PySem.Spec PyProof.Rows
theorem q2I{X:Cx}{K:PySem.W.Frag}(e:X.K=K):IxR X (rIxT K):=by subst e;exact q1I
theorem qED{X:Cx}{K:PySem.W.Frag}(e:X.K=K):IxR X (rIxL K):=by subst e;exact jN
theorem q36{X:Cx}{K:PySem.W.Frag}(e:X.K=K):OpR X (compareOp .In) (rIn K false):=by subst e;exact qCR
theorem q6Y{X:Cx}{K:PySem.W.Frag}(e:X.K=K):OpR X (compareOp .NotIn) (rIn K true):=by subst e;exact zI
theorem q69{X:Cx}{elt iter tg:Expr}{ifs:List Expr}{scope:Scope}{pos py spos:Pos}{wi:TI}{g:TG}{tc:TT}{te:TE}{i:Nat}{y:Str}(N:List Str)(ix:List Nat)(hcalm:X.calm=true)(hi:PI X tg iter wi)
 (hg:∀C fp s H xe,PG (yB X N scope C fp s H xe) tg g) (hif:∀C fp s H xe,PIf (yB X N scope C fp s H xe) ifs tc) (he:∀C fp s H xe,PE (yB X N scope C fp s H xe) elt te)
 (ok:q7Z X.N X.env.kindOf scope N ix=true) (hown:Own g ix.length) (hN:X.N.Nodup) (hy:X.N[i]?=some y) (hl:Loc X.env.scope y)
 (hsw:swapsWith (.ListComp elt [⟨tg,iter,ifs,0⟩] scope pos) (some (.Name y py)) spos.line X.env=pure true:=by rfl) (hf:X.fn y=true∨X.env.scope.names.lookup y=some .local:=by first|exact .inl rfl|exact .inr rfl|assumption)
 (hs:∀x,foldedSetIterable iter X.env x=pure x:=by intro _;rfl):
 PS X (.Assign [.Name y py] (.ListComp elt [⟨tg,iter,ifs,0⟩] scope pos) spos) (tAsg (tLC wi g tc te ix (N.length-ix.length)) (zB i)):=by(
unfold q7Z at ok
rw[mE,mE,mE,gT]at ok
obtain⟨⟨⟨h1,h2⟩,h3⟩,h4⟩:=ok
have h2':∀y∈scope.names,y.2≠ .cell∧(y.2≠ .free∨X.env.kindOf y.1=some .cell)∧(y.2≠ .local∨scope.names.lookup y.1=some .local):=λy hy=>by have q:=h2 y hy;rw[mE,mE,g8,g8,kR,kR,kR,kR,kR]at q;exact⟨q.1.1,q.1.2,q.2⟩
intro pins s σ H D I h
rw[exec_Assign_Name_used _ _ _ _ hsw]
refine kD (cJ (kD ?_))
show wpAny _ X.A (do let _←comprehension (.ListComp elt [⟨tg,iter,ifs,0⟩] scope pos) scope X.env _ (newList []) false (eval iter X.env) (some (assign (.Name y py) X.env))) _ _ s
refine kD (gN (qC2 (use:=some (assign (.Name y py) X.env)) (QQ:=λ_ s'=>∃σ' H',Inv X pins σ' H' s'∧D.nx σ' H') N ix _ (λ_ _ _ _ _=>hcalm) hi.c hg hif he (gQ h1) (λy hy=>(h2' y hy).1) (λy hy e=>(h2' y hy).2.1.resolve_left (λz=>z e)) h3 (gQ h4) (λy hy e=>(h2' y hy).2.2.resolve_left (λz=>z e)) hown I h
 (λC Dl H' s' m hm fp inv q=>?_) hs) (λ_ s' hq=>kZ (kZ hq)) λ_ _ e=>e)
have I':Inv X pins σ H' s':=inv s'.heap (Heap.SameBut.refl _ _)
show wpAny _ _ (assign (.Name y py) X.env (.ref Dl)) _ _ _
refine lQ (q7K (v:=.ref Dl) I' hN hy hl rfl (λs'' I'' hZ=>?_) hf)
obtain⟨a,sb,ha⟩:=hZ
have aC:C≠a:=λz=>by
 rcases ha with ha|ha
 ·exact fp.2.1 (z.trans ha)
 exact fp.2.2.2.2.1 _ _ ha z.symm
refine⟨m,hm.sameBut sb aC,λh' sb'=>⟨_,H',I''.turnedN (t':=s''.toks) (fp:=[C]) (λb o hb e=>sb'.extBut b o (λz=>hb (kJ.mpr z)) e) (λb hb=>by rw[kJ.mp hb];exact fp),q⟩⟩)
theorem q81{lo:Int}{n k:Nat}{D:Addr}{H2:Hp}{te:TE}{σ0:St}{R:Hp→Prop}(Pv:Nat→Hp→Prop)(h0:Pv 0 H2)
 (hs:∀(i:Nat) H,i<n→Pv i H→te (σ0.set k (some (.int (lo+i)))) H (λv H7=>∃vs,H7 D=some (.lst vs)∧vs.length<sizeLine∧Pv (i+1) (upd H7 D (.lst (vs++[v]))))) (hd:∀H,Pv n H→R H):
 ∃W:Nat→Nat→Hp→Prop,(∃m,W 0 m H2)∧∀i m H3,W i m H3→((Itr lo n).stop i H3∧R H3)∨((Itr lo n).go i H3∧∃N:Hp→Prop,(∀H',N H'→∃m',m'<m∧W (i+1) m' H')∧∀x H4,(Itr lo n).yld i H3 x H4→zB k x σ0 H4 λσ5 H5=>q1N σ5 H5 λb H6=>if b=true then te σ5 H6 (λv H7=>∃vs,H7 D=some (.lst vs)∧vs.length<sizeLine∧N (upd H7 D (.lst (vs++[v]))))else N H6):=qCZ (Q:=λ_ H=>R H) Pv h0 hs hd
theorem q1O{K:PySem.W.Frag}{a:Addr}{xs:List V}{D:Addr}{H2:Hp}{g:TG}{tc:TT}{te:TE}{σ0:St}{R:Hp→Prop}(Pv:Nat→Hp→Prop)(h0:Pv 0 H2)(hl:∀i H,Pv i H→SqL K H a xs)
 (hs:∀(i:Nat) x H,xs[i]?=some x→Pv i H→g x σ0 H λσ5 H5=>tc σ5 H5 λb H6=>if b=true then te σ5 H6 (λv H7=>∃vs,H7 D=some (.lst vs)∧vs.length<sizeLine∧Pv (i+1) (upd H7 D (.lst (vs++[v]))))else Pv (i+1) H6) (hd:∀H,Pv xs.length H→R H):
 ∃W:Nat→Nat→Hp→Prop,(∃m,W 0 m H2)∧∀i m H3,W i m H3→((Itl K a).stop i H3∧R H3)∨((Itl K a).go i H3∧∃N:Hp→Prop,(∀H',N H'→∃m',m'<m∧W (i+1) m' H')∧∀x H4,(Itl K a).yld i H3 x H4→g x σ0 H4 λσ5 H5=>tc σ5 H5 λb H6=>if b=true then te σ5 H6 (λv H7=>∃vs,H7 D=some (.lst vs)∧vs.length<sizeLine∧N (upd H7 D (.lst (vs++[v]))))else N H6):=qC3 (Q:=λ_ H=>R H) Pv h0 hl hs hd
theorem q9W{K:PySem.W.Frag}{a:Addr}{xs:List V}{k:Nat}{D:Addr}{H2:Hp}{te:TE}{σ0:St}{R:Hp→Prop}(Pv:Nat→Hp→Prop)(h0:Pv 0 H2)(hl:∀i H,Pv i H→SqL K H a xs)
 (hs:∀(i:Nat) x H,xs[i]?=some x→Pv i H→te (σ0.set k (some x)) H (λv H7=>∃vs,H7 D=some (.lst vs)∧vs.length<sizeLine∧Pv (i+1) (upd H7 D (.lst (vs++[v]))))) (hd:∀H,Pv xs.length H→R H):
 ∃W:Nat→Nat→Hp→Prop,(∃m,W 0 m H2)∧∀i m H3,W i m H3→((Itl K a).stop i H3∧R H3)∨((Itl K a).go i H3∧∃N:Hp→Prop,(∀H',N H'→∃m',m'<m∧W (i+1) m' H')∧∀x H4,(Itl K a).yld i H3 x H4→zB k x σ0 H4 λσ5 H5=>q1N σ5 H5 λb H6=>if b=true then te σ5 H6 (λv H7=>∃vs,H7 D=some (.lst vs)∧vs.length<sizeLine∧N (upd H7 D (.lst (vs++[v]))))else N H6):=qEB (Q:=λ_ H=>R H) Pv h0 hl hs hd
section
variable{M:Model}{A:Around}{E:Value→Shared→Prop}{s:Shared}{env:Env}
noncomputable def yS(M:Model)(A:Around)(E:Value→Shared→Prop)(Q:Value→Shared→Prop)(acc:Value)(C:Addr)(fr:Option Addr)(r:Result)(s':Shared):Prop:=match r with
| .ok _=>∃m,s'.heap.Ns C m∧∀h',Heap.SameBut C s'.heap h'→Q acc { s' with heap:=h' }
| .error x=>∃m,s'.heap.Ns C m∧∀h',Heap.SameBut C s'.heap h'→∀cenv:Env,cenv.frame=fr→wpAny M A (passOn "comprehension.variables-let-go" x cenv:Sem Value) (λ_ _=>False) E { s' with heap:=h' }
theorem qAZ{e:Expr}{scope:Scope}{pos:Pos}{newAcc first:Sem Value}{g:Comprehension}{gs:List Comprehension}{cl:List (Str×Addr)}
 {Q:Value→Shared→Prop}
 (hcl:clausesOf e=g::gs) (hs:∀x,foldedSetIterable g.iter env x=pure x) (hclos:closureFor scope env=pure cl)
 (hkind:scope.kind=.function) (hnames:∀x∈scope.names,x.2=.local→scope.names.lookup x.1=some .local)
 (h:wpAny M A first (λx s₁=>wpAny M A (pyIter x) (λit s₂=>wpAny M A newAcc (λacc s₃=>
  wpAny M A (newFunctionEnv scope env.globals cl [] env.qual none .none (some env)) (λcenv s₄=>
   codeAny M A (.compStart e 0 it acc { cenv with scope:=relabel scope env }) (yS M A E Q acc cenv.locals cenv.frame) s₄) E s₃) E s₂) E s₁) E s):
 wpAny M A (comprehension e scope env pos newAcc false first none) Q E s:=by(
unfold comprehension
rw[hclos,hcl]
refine kD (gN h (λx s₁ h₁=>kD (cJ (kD (wpAny_of_eq (hs x) (kD (gH (gN h₁ (λit s₂ h₂=>
 wpAny_standIf (kD (gN h₂ (λacc s₃ h₃=>kD (kZ (kD (gN h₃ (λcenv s₄ h₄=>?_) λ_ _ h'=>h')))) λ_ _ h'=>h')))
  λ_ _ h'=>h'))))))) λ_ _ h'=>h')
dsimp only
have hv:∀x∈(scope.names.filter λx=>(x.2== .local||x.2== .cell)&&x.1 !=(".0":Str)).reverse,x.2=.local→Env.kindOf { cenv with scope:=relabel scope env } x.1=some .local:=λx hx hl=>lookup_relabel_local (hnames x (mQ.mp (List.mem_reverse.mp hx)).1 hl)
refine gH (kD (pN (gH (wpAny_run (dS h₄ λr s' hr=>?_)))))
cases r with
|ok f=>obtain⟨m,hn,hr⟩:=hr;exact kD (gH (wpAny_comp_letGo (cenv:={ cenv with scope:=relabel scope env }) hkind _ s' m hv hn λh' m' _ hs'=>kZ (hr h' hs')))
|error x=>obtain⟨m,hn,hr⟩:=hr;exact kD (gH (wpAny_comp_letGo (cenv:={ cenv with scope:=relabel scope env }) hkind _ s' m hv hn λh' m' _ hs'=>gN (hr h' hs' _ rfl) (λ_ _ f=>f.elim) λ_ _ y=>y)))
end
theorem qD1{x:Value}{e1 e2:Env}(h:e1.frame=e2.frame):noteFrame x e1=noteFrame x e2:=by unfold noteFrame PySem.frameOf;rw[h]
theorem qB0{X:Cx}{pins:List (Addr×Obj)}{σ:St}{H2:Hp}{s2:Shared}{fp:List Addr}{N:List Str}{scope:Scope}{cl:List (Str×Addr)}{QQ:Value→Shared→Prop}{acc:Value}{E:XK}(tk:q05 X (λ_=>E))(hf:X.env.frame=some X.env.locals)(hst:X.stack=X.env::X.outer)
 (I2:Inv X pins σ H2 s2) (f2:∀b∈fp,FpOk X pins H2 b):q0V (CXe X.prog X.w) (yB X N scope (s2.heap.objs.size+1) fp s2 H2 (notedBy (model X.prog X.w) X.A (compEnvC scope cl (s2.heap.objs.size+1) X.env) λe s'=>yS (model X.prog X.w) X.A X.xe QQ acc (s2.heap.objs.size+1) X.env.frame (.error e) s')) (λ_=>E):=by(
intro pY σ' H' s' e s'' IY hq
obtain⟨ea,T,Cc,od,Hx,e1,ho,hg,u,hok,hd,⟨f1',f2'⟩,⟨g1,g2⟩,q⟩:=hq
subst e1
have J:=IY.call' ho u hok hg λb hb=>by cases hb
have s2s':∀b o,s2.heap.get? b=some o→b∉fp→∃o',s'.heap.get? b=some o':=λb o e n=>IY.base.there b o e n
have key:∀b,s'.heap.get? b=none→Hx b=none→(s2.heap.get? b=none∨b∈fp)∧Hx b=none∧∀p∈X.pn++pY,p.1≠b:=λb f g=>by
 refine⟨?_,g,λp hp z=>?_⟩
 ·by_cases y:b∈fp
  ·exact .inr y
  refine .inl ?_;cases z:s2.heap.get? b with
  |none=>rfl
  |some ob=>obtain⟨o',z'⟩:=s2s' b ob z y;rw[f]at z';cases z'
 have y:=(IY.pin p hp).1;rw[z,f]at y;cases y
have ours:Ours (yB X N scope (s2.heap.objs.size+1) fp s2 H2 (notedBy (model X.prog X.w) X.A (compEnvC scope cl (s2.heap.objs.size+1) X.env) λe s'=>yS (model X.prog X.w) X.A X.xe QQ acc (s2.heap.objs.size+1) X.env.frame (.error e) s')) pY Hx [ea,T]:=λb hb=>by
 have e':b=ea∨b=T:=by simpa using hb
 rcases e' with rfl|rfl
 ·exact key _ f1' g1
 exact key _ f2' g2
show wpAny (model X.prog X.w) X.A (noteFrame (.ref ea) (compEnvC scope cl (s2.heap.objs.size+1) X.env)) _ _ s''
rw[qD1 (e1:=compEnvC scope cl (s2.heap.objs.size+1) X.env) (e2:=X.env) rfl]
have fr:=J.ok.frames
have fs:=J.stack
dsimp only at fr fs
rw[hst]at fr fs
refine q8I (base:=X.base) (L:=X.env.locals) fr fs hf (hd.air (.inl rfl)) λh3 T' c hd3 n=>?_
have c':Chg (frs (yB X N scope (s2.heap.objs.size+1) fp s2 H2 (notedBy (model X.prog X.w) X.A (compEnvC scope cl (s2.heap.objs.size+1) X.env) λe s'=>yS (model X.prog X.w) X.A X.xe QQ acc (s2.heap.objs.size+1) X.env.frame (.error e) s')).stack) [ea,T] s''.heap h3:=by show Chg (frs X.stack) _ _ _;rw[hst];exact c
have J3:=J.chg (t':=s''.toks) c' ours hd.recs
obtain⟨m,hm,_⟩:=id J3.loc
refine⟨m,hm,λh' sb cenv hfr=>?_⟩
have eb:∀b o,b≠s2.heap.objs.size+1→h3.get? b=some o→h'.get? b=some o:=λb o nb e=>sb.extBut b o nb e
have low:∀b o,s2.heap.get? b=some o→b≠s2.heap.objs.size+1:=λb o e=>mD (gX (kL e))
have nC:Hx (s2.heap.objs.size+1)=none:=J3.free
have rne:∀b∈[ea,T'],b≠s2.heap.objs.size+1:=λb hb z=>by obtain⟨ob,vs,e,d⟩:=hd3.recs b hb;obtain⟨o',es,ep,ho',hd',_⟩:=hm;rw[z]at e;have ho2:h3.get? (s2.heap.objs.size+1)=some o':=ho';rw[e]at ho2;cases ho2;rw[d]at hd';cases hd'
have hd4:Held (rawInt X.env.locals) h' ea T' Cc od:=by obtain⟨vs,⟨oe,a1,a2⟩,t1,t2,oT,ts,t3,t4⟩:=hd3;exact⟨vs,⟨oe,eb _ _ (rne _ (by simp)) a1,a2⟩,t1,t2,oT,ts,eb _ _ (rne _ (by simp)) t3,t4⟩
have u3:=J3.base
have IX:Inv X pins σ Hx { s'' with heap:=h' }:=by
 refine I2.call' (ch:=fp) (s':={ s'' with heap:=h' }) J3.os ⟨λb o e n1 n2 n3=>eb b o (low b o e) (u3.keep b o e n1 n2 n3),λb o e n1 n2 n3=>?_,u3.free,λb o e n1=>?_,u3.tups,u3.frzs,u3.tbls⟩ (λb o e=>?_) J3.bare λb hb=>⟨(f2 b hb).2.2.2.1,(f2 b hb).2.1,(f2 b hb).2.2.2.2.1,(f2 b hb).2.2.2.2.2⟩
 ·obtain⟨sl,q1⟩:=u3.slot b o e n1 n2 n3;exact⟨sl,eb b _ (low b o e) q1⟩
 ·obtain⟨o',q1⟩:=u3.there b o e n1;exact⟨o',eb b _ (low b o e) q1⟩
 refine(J3.hok b o e).stay (λc v hc q1=>eb c v ?_ q1) (λ_ q1=>q1) λ_ _ q1=>q1;rcases hc with rfl|z
 ·exact qG e nC
 exact qG z nC
have keyX:∀b,(s2.heap.get? b=none∨b∈fp)→Hx b=none→(X.s₀.heap.get? b=none∨b∈X.ex)∧Hx b=none∧∀p∈X.pn++pins,p.1≠b:=λb f g=>by
 rcases f with f|f
 ·refine⟨?_,g,λp hp z=>?_⟩
  ·by_cases y:b∈X.ex
   ·exact .inr y
   refine .inl ?_;cases z:X.s₀.heap.get? b with
   |none=>rfl
   |some ob=>obtain⟨o',z'⟩:=I2.base.there b ob z y;rw[f]at z';cases z'
  have y:=(I2.pin p hp).1;rw[z,f]at y;cases y
 obtain⟨_,_,_,a,_,p⟩:=f2 b f;exact⟨a.symm.imp wG id,g,p⟩
have hT:(s2.heap.get? T'=none∨T'∈fp)∧Hx T'=none:=by
 rcases n with z|z
 ·cases z;exact⟨(key _ f2' g2).1,g2⟩
 refine⟨?_,J.hok.fresh z⟩;by_cases y:T'∈fp
 ·exact .inr y
 refine .inl ?_;cases w:s2.heap.get? T' with
 |none=>rfl
 |some ob=>obtain⟨o',w'⟩:=J.base.there T' ob w y;exact absurd (kL w') (cH.mpr z)
have oursX:Ours X pins Hx [ea,T']:=λb hb=>by
 have e':b=ea∨b=T':=by simpa using hb
 rcases e' with rfl|rfl
 ·exact keyX _ (key _ f1' g1).1 g1
 exact keyX _ hT.1 hT.2
have rc:=hd4.recs
unfold PySem.passOn
obtain⟨vs,x,t1,t2,oT,ts,t3,t4,t5⟩:=id hd4
obtain⟨oe,a1,a2,a3,a4,a5⟩:=id x
refine kD (cL a1 a4 t1 ?_)
rw[kE (by simp)]
refine kD (q0Q hd4 λh5 c5 hd5=>wpAny_throw ?_)
rw[hfr,hf]at hd5
exact tk pins σ Hx { s'' with heap:=h5 } ea (some T') Cc od (IX.chg (t':=s''.toks) (rs:=[ea,T']) (c5.mono (by simp) (by simp)) oursX rc) (hd5.air (.inr rfl)) oursX q)
theorem qEE{X:Cx}{elt iter tg:Expr}{ifs:List Expr}{scope:Scope}{pos cp:Pos}{wi:TI}{g:TG}{tc:TT}{te:TE}{QQ:Value→Shared→Prop}{pins:List (Addr×Obj)}{s:Shared}{σ:St}{H:Hp}{Q:VK}(N:List Str)(ix:List Nat)(ok:Cx→Prop)(hok:∀C fp s H xe,ok (yB X N scope C fp s H xe))(hi:PIc ok X tg iter wi)
 (hg:∀C fp s H xe,PG (yB X N scope C fp s H xe) tg g) (hif:∀C fp s H xe,PIf (yB X N scope C fp s H xe) ifs tc) {E:XK} (tk:q05 X (λ_=>E)) (hframe:X.env.frame=some X.env.locals) (hstk:X.stack=X.env::X.outer) (he:∀C fp s H xe,q0V (CXe X.prog X.w) (yB X N scope C fp s H xe) (λ_=>E)→PE (yB X N scope C fp s H xe) elt te)
 (hk:scope.kind=.function) (hc:∀y∈scope.names,y.2≠ .cell) (hfr:∀y∈scope.names,y.2=.free→X.env.kindOf y.1=some .cell) (hcap:q57 X.N X.env.kindOf scope.names N ix=true) (hN:ix.length≤N.length)
 (hnames:∀x∈scope.names,x.2=.local→scope.names.lookup x.1=some .local) (hown:Own g ix.length) (I:Inv X pins σ H s) (h:tLC wi g tc te ix (N.length-ix.length) σ H Q)
 (hfin:∀(C D:Addr) (H':Hp) (s':Shared) (m:Str→Option Value),s'.heap.Ns C m→FpOk X pins H' C→(∀h',Heap.SameBut C s'.heap h'→Inv X pins σ H' { s' with heap:=h' })→Q (.ref D) H'→yS (model X.prog X.w) X.A X.xe QQ (.ref D) C X.env.frame (.ok .next) s')
 (hs:∀x,foldedSetIterable iter X.env x=pure x:=by intro _;rfl):
 wpAny (model X.prog X.w) X.A (comprehension (.ListComp elt [⟨tg,iter,ifs,0⟩] scope pos) scope X.env cp (newList []) false (eval iter X.env) none) QQ X.xe s:=by(
refine qAZ (cl:=clOf X.env scope.names []) rfl hs (q35 λy hy hyf=>I.ok.has _ (.inl (hfr y hy hyf))) hk hnames (thn (hi pins s σ H _ I h) λv s1 h1=>thn h1 λitv s2 h2=>?_)
obtain⟨it,fp,tn,J,H2,e,I2,T,st2,f2,q2⟩:=h2
subst e
refine pJ (cM hc (by intro y hy;simp at hy) (λh₁ hns₁ hsb₁=>?_) hk)
dsimp only at hns₁ hsb₁ ⊢
rw[rP]at hns₁ hsb₁ ⊢
have old:∀b o,s2.heap.get? b=some o→h₁.get? b=some o:=λb o e=>hsb₁.extBut b o (mD (gX (kL e))) (hX _ (hX _ e))
have hacc:h₁.get? s2.heap.objs.size=some { cls:=.type "list",data:=.seq ([]:List Value).toArray }:=hsb₁.extBut _ _ (mD (wL _)) (hX _ (k7 _ rfl))
have fob:∀b∈fp,∃o,s2.heap.get? b=some o:=λb hb=>let⟨o,e,_⟩:=T.obj _ _ st2 b hb;⟨o,e⟩
have fresh:H2 s2.heap.objs.size=none:=I2.hok.fresh (kH _)
obtain⟨W,⟨m0,w0⟩,turn⟩:=q2 s2.heap.objs.size (upd H2 s2.heap.objs.size (.lst [])) fresh (Same.upd fresh) qF
have fin:∀{pY σ' H' s'},Inv (yB X N scope (s2.heap.objs.size+1) fp s2 H2 (notedBy (model X.prog X.w) X.A (compEnvC scope (clOf X.env scope.names []) (s2.heap.objs.size+1) X.env) λe s'=>yS (model X.prog X.w) X.A X.xe QQ (.ref s2.heap.objs.size) (s2.heap.objs.size+1) X.env.frame (.error e) s')) pY σ' H' s'→Q (.ref s2.heap.objs.size) H'→yS (model X.prog X.w) X.A X.xe QQ (.ref s2.heap.objs.size) (s2.heap.objs.size+1) X.env.frame (.ok .next) s':=fun {pY σ' H' s'} J q=>by
 obtain⟨m,hm,_⟩:=id J.loc;refine hfin (s2.heap.objs.size+1) s2.heap.objs.size H' s' m hm (I2.fpOk (d7 _) J.free) (λh' sb=>?_) q;have eb:∀b o,b≠s2.heap.objs.size+1→s'.heap.get? b=some o→h'.get? b=some o:=λb o nb e=>sb.extBut b o nb e;have low:∀b o,s2.heap.get? b=some o→b≠s2.heap.objs.size+1:=λb o e=>mD (gX (kL e));have u:=J.base;have nC:H' (s2.heap.objs.size+1)=none:=J.free;refine I2.call' (ch:=fp) (s':={ s' with heap:=h' }) J.os ⟨λb o e n1 n2 n3=>eb b o (low b o e) (u.keep b o e n1 n2 n3),λb o e n1 n2 n3=>?_,u.free,λb o e n1=>?_,u.tups,u.frzs,u.tbls⟩ (λb o e=>?_) J.bare λb hb=>⟨(f2 b hb).2.2.2.1,(f2 b hb).2.1,(f2 b hb).2.2.2.2.1,(f2 b hb).2.2.2.2.2⟩
 ·obtain⟨sl,q1⟩:=u.slot b o e n1 n2 n3;exact⟨sl,eb b _ (low b o e) q1⟩
 ·obtain⟨o',q1⟩:=u.there b o e n1;exact⟨o',eb b _ (low b o e) q1⟩
 refine(J.hok b o e).stay (λc v hc q1=>eb c v ?_ q1) (λ_ q1=>q1) λ_ _ q1=>q1;rcases hc with rfl|z
 ·exact qG e nC
 exact qG z nC
have IY:Inv (yB X N scope (s2.heap.objs.size+1) fp s2 H2 (notedBy (model X.prog X.w) X.A (compEnvC scope (clOf X.env scope.names []) (s2.heap.objs.size+1) X.env) λe s'=>yS (model X.prog X.w) X.A X.xe QQ (.ref s2.heap.objs.size) (s2.heap.objs.size+1) X.env.frame (.error e) s')) [] (pick ix σ++List.replicate (N.length-ix.length) none) (upd H2 s2.heap.objs.size (.lst [])) { s2 with heap:=h₁,toks:=s2.toks+([]:List (Str×Value)).length }:=qC0 I2 f2 fob hk hc hfr hcap hN hns₁ old hacc
have pY:=qB0 (N:=N) (scope:=scope) (cl:=clOf X.env scope.names []) (QQ:=QQ) (acc:=.ref s2.heap.objs.size) tk hframe hstk I2 f2
generalize hY:yB X N scope (s2.heap.objs.size+1) fp s2 H2 (notedBy (model X.prog X.w) X.A (compEnvC scope (clOf X.env scope.names []) (s2.heap.objs.size+1) X.env) λe s'=>yS (model X.prog X.w) X.A X.xe QQ (.ref s2.heap.objs.size) (s2.heap.objs.size+1) X.env.frame (.error e) s')=Y at IY fin pY
have hgY:PG Y tg g:=hY▸hg _ _ _ _ _
have hifY:PIf Y ifs tc:=hY▸hif _ _ _ _ _
have heY:PE Y elt te:=by subst hY;exact he _ _ _ _ _ pY
have hP:Y.prog=X.prog:=by rw[←hY]
have hw:Y.w=X.w:=by rw[←hY]
have hK:Y.K=X.K:=by rw[←hY]
have hcl:ok Y:=hY▸hok _ _ _ _ _
have stat:∀{H':Hp},(∀b∈fp,H' b=none)→∀b∈fp,FpOk Y [] H' b:=fun {H'} hn b hb=>by
 rw[←hY];refine⟨hn b hb,?_,λz=>?_,.inl hb,λx c e=>?_,λp hp=>(f2 b hb).2.2.2.2.2 p (kU _ (by simpa using hp))⟩
 ·obtain⟨o,e⟩:=fob b hb;exact mD (gX (kL e))
 ·rcases kW.mp (I2.stkSub b z)with z|z
  ·exact(f2 b hb).2.1 z
  exact(f2 b hb).2.2.1 z
 exact(f2 b hb).2.2.2.2.1 x c (q3W _ _ (by intro q;simp at q) e)
have loop:codeAny (model X.prog X.w) X.A (.compLoop (.ListComp elt [⟨tg,iter,ifs,0⟩] scope pos) 0 (.ref it) (.ref s2.heap.objs.size) (compEnvC scope (clOf X.env scope.names []) (s2.heap.objs.size+1) X.env))
 (yS (model X.prog X.w) X.A X.xe QQ (.ref s2.heap.objs.size) (s2.heap.objs.size+1) X.env.frame) { s2 with heap:=h₁,toks:=s2.toks+([]:List (Str×Value)).length }:=by
 refine qC1 (λn s'=>∃i H',Inv Y [] (pick ix σ++List.replicate (N.length-ix.length) none) H' s'∧tn i s'.heap∧(∀b∈fp,H' b=none)∧W i n H') ?_ m0
  ⟨0,_,IY,T.keep _ _ _ st2 (λb hb o e=>old b o e),λb hb=>by obtain⟨o,e⟩:=fob b hb;rw[qD (mD (kL e))];exact(f2 b hb).1,w0⟩
 rintro n s3 ⟨i,H3,I3,st3,fr3,w3⟩
 rcases turn i n H3 w3 with⟨stop,qn⟩|⟨go,NN,hNN,step⟩
 ·have d:=T.done Y hP hw hK hcl i [] s3 _ H3 Y.xe I3 (stat fr3) st3 stop;subst hY;refine thn d λr s4 hZ=>?_;obtain⟨hr,I4⟩:=hZ;subst hr;exact fin I4 qn
 have d:=T.item Y hP hw hK hcl i [] s3 _ H3 Y.xe I3 (stat fr3) st3 go;have again:∀{p5:List (Addr×Obj)} {s5 s8:Shared} {σ6:St} {H8:Hp},p5=q4H fp s5.heap→tn (i+1) s5.heap→σ6.length=(pick ix σ++List.replicate (N.length-ix.length) none).length→(∀j,j<ix.length→σ6[j]?=(pick ix σ++List.replicate (N.length-ix.length) none)[j]?)→Inv Y ([]++p5) σ6 H8 s8→NN H8→∃m',m'<n∧∃i H',Inv Y [] (pick ix σ++List.replicate (N.length-ix.length) none) H' s8∧tn i s8.heap∧(∀b∈fp,H' b=none)∧W i m' H':=fun {p5 s5 s8 σ6 H8} e5 st5 l6 k6 I8 q8=>by
  subst e5;obtain⟨m',hm,w8⟩:=hNN _ q8;refine⟨m',hm,i+1,H8,I8.unpinned.weak l6.symm (λj v e=>?_),T.keep _ _ _ st5 λb hb o e=>(I8.pin (b,o) (kM _ (kM _ (u7 hb e)))).1,λb hb=>?_,w8⟩
  ·by_cases hj:j<ix.length
   ·rw[k6 j hj];exact e
   rw[gO (by simpa[pick]using hj),dB]at e;split at e<;>cases e
  obtain⟨o,e,_⟩:=T.obj _ _ st5 b hb;exact(I8.pin (b,o) (kM _ (kM _ (u7 hb e)))).2.1
 have tail:∀(r:Option Value) (s4:Shared),(∃u,r=some u∧wpAny (model Y.prog Y.w) Y.A (letOwnedTupleGo tg (.ref it) u) (λ_ s2=>∃x H',Inv Y [] (pick ix σ++List.replicate (N.length-ix.length) none) H' s2∧RelV x u∧J.yld i H3 x H'∧tn (i+1) s2.heap∧∀b∈fp,H' b=none) Y.xe s4)→(match r with
  |none=>yS (model X.prog X.w) X.A X.xe QQ (.ref s2.heap.objs.size) (s2.heap.objs.size+1) X.env.frame (.ok .next) s4
  |some v=>wpAny (model Y.prog Y.w) Y.A (letOwnedTupleGo tg (.ref it) v) (λ_ s₁=>wpAny (model Y.prog Y.w) Y.A (assign tg Y.env v) (λ_ s₂=>
   wpAny (model Y.prog Y.w) Y.A (forIn ifs true λc r=>if r=true then do let ok←isTrue c Y.env (eval c Y.env);pure (ForInStep.yield ok)else pure (ForInStep.yield r)) (λok s₃=>
    if ok=true then wpAny (model Y.prog Y.w) Y.A (eval elt Y.env) (λx s₄=>wpAny (model Y.prog Y.w) Y.A (call (.builtin "list.append") [.ref s2.heap.objs.size,x]) (λ_ s₅=>∃m,m<n∧∃i H',Inv Y [] (pick ix σ++List.replicate (N.length-ix.length) none) H' s₅∧tn i s₅.heap∧(∀b∈fp,H' b=none)∧W i m H') Y.xe s₄) Y.xe s₃
    else ∃m,m<n∧∃i H',Inv Y [] (pick ix σ++List.replicate (N.length-ix.length) none) H' s₃∧tn i s₃.heap∧(∀b∈fp,H' b=none)∧W i m H') Y.xe s₂) Y.xe s₁) Y.xe s4):=by
  rintro r s4 ⟨u,rfl,h4⟩
  dsimp only;refine thn h4 λ_ s5 hZ=>?_;obtain⟨x,H5,I5,r5,y5,st5,fr5⟩:=hZ;have I5':=I5.pinned (stat fr5) (T.obj _ _ st5);refine thn (hgY _ s5 _ H5 x u _ I5' r5 (hown _ _ _ _ (step x H5 y5))) λ_ s6 hZ=>?_;obtain⟨σ6,H6,I6,q6,l6,k6⟩:=hZ;refine thn (hifY _ s6 σ6 H6 _ I6 q6) λb s7 hZ=>?_;obtain⟨H7,I7,q7⟩:=hZ;cases b with
  |false=>rw[kE (by decide)]at q7 ⊢;exact again rfl st5 l6 k6 I7 q7
  |true=>rw[kG rfl]at q7 ⊢;refine thn (heY _ s7 σ6 H7 _ I7 q7) λy s8 hZ=>?_;obtain⟨v,H8,I8,r8,vs,e8,hz,q8⟩:=hZ;refine thn (yR (X:=Y) _ s8 σ6 H8 (.ref s2.heap.objs.size) [v] (.ref s2.heap.objs.size) [y] (λ_ H9=>NN H9) I8 rfl (.cons r8 .nil) ⟨s2.heap.objs.size,vs,v,rfl,rfl,e8,hz,q8⟩) λ_ s9 hZ=>?_;obtain⟨_,H9,I9,_,q9⟩:=hZ;exact again rfl st5 l6 k6 I9 q9
 subst hY;exact thn d tail
exact p8 loop (T.self X.A 0 _ _ _ (T.keep _ _ _ st2 λb hb o e=>old b o e) loop))
theorem qIH{X:Cx}{elt iter tg:Expr}{ifs:List Expr}{scope:Scope}{pos:Pos}{wi:TI}{g:TG}{tc:TT}{te:TE}(N:List Str)(ix:List Nat)(hcalm:X.calm=true)(hi:PI X tg iter wi)
 (hg:∀C fp s H xe,PG (yB X N scope C fp s H xe) tg g) (hif:∀C fp s H xe,PIf (yB X N scope C fp s H xe) ifs tc) {E:XK} (tk:q05 X (λ_=>E)) (hframe:X.env.frame=some X.env.locals) (hstk:X.stack=X.env::X.outer) (he:∀C fp s H xe,q0V (CXe X.prog X.w) (yB X N scope C fp s H xe) (λ_=>E)→PE (yB X N scope C fp s H xe) elt te)
 (hk:scope.kind=.function) (hc:∀y∈scope.names,y.2≠ .cell) (hfr:∀y∈scope.names,y.2=.free→X.env.kindOf y.1=some .cell) (hcap:q57 X.N X.env.kindOf scope.names N ix=true) (hN:ix.length≤N.length)
 (hnames:∀x∈scope.names,x.2=.local→scope.names.lookup x.1=some .local) (hown:Own g ix.length) (hs:∀x,foldedSetIterable iter X.env x=pure x:=by intro _;rfl):
 PE X (.ListComp elt [⟨tg,iter,ifs,0⟩] scope pos) (tLC wi g tc te ix (N.length-ix.length)):=by intro pins s σ H Q I h;rw[eval_ListComp];exact qEE N ix _ (λ_ _ _ _ _=>hcalm) hi.c hg hif tk hframe hstk he hk hc hfr hcap hN hnames hown I h (λC D H' s' m hm fok inv q=>⟨m,hm,λh' sb=>⟨.ref D,H',inv h' sb,rfl,q⟩⟩) hs
theorem qEF{X:Cx}{elt iter tg:Expr}{ifs:List Expr}{scope:Scope}{pos:Pos}{wi:TI}{g:TG}{tc:TT}{te:TE}(N:List Str)(ix:List Nat)(hcalm:X.calm=true)(hi:PI X tg iter wi)
 (hg:∀C fp s H xe,PG (yB X N scope C fp s H xe) tg g) (hif:∀C fp s H xe,PIf (yB X N scope C fp s H xe) ifs tc) {E:XK} (tk:q05 X (λ_=>E)) (hframe:X.env.frame=some X.env.locals) (hstk:X.stack=X.env::X.outer) (he:∀C fp s H xe,q0V (CXe X.prog X.w) (yB X N scope C fp s H xe) (λ_=>E)→PE (yB X N scope C fp s H xe) elt te)
 (ok:q7Z X.N X.env.kindOf scope N ix=true) (hown:Own g ix.length) (hs:∀x,foldedSetIterable iter X.env x=pure x:=by intro _;rfl):
 PE X (.ListComp elt [⟨tg,iter,ifs,0⟩] scope pos) (tLC wi g tc te ix (N.length-ix.length)):=by(
unfold q7Z at ok
rw[mE,mE,mE,gT]at ok
obtain⟨⟨⟨h1,h2⟩,h3⟩,h4⟩:=ok
have h2':∀y∈scope.names,y.2≠ .cell∧(y.2≠ .free∨X.env.kindOf y.1=some .cell)∧(y.2≠ .local∨scope.names.lookup y.1=some .local):=λy hy=>by have q:=h2 y hy;rw[mE,mE,g8,g8,kR,kR,kR,kR,kR]at q;exact⟨q.1.1,q.1.2,q.2⟩
exact qIH N ix hcalm hi hg hif tk hframe hstk he (gQ h1) (λy hy=>(h2' y hy).1) (λy hy e=>(h2' y hy).2.1.resolve_left (λz=>z e)) h3 (gQ h4) (λy hy e=>(h2' y hy).2.2.resolve_left (λz=>z e)) hown hs)
section
variable{X:Cx}{k:Nat}{f C:Addr}{fd:FuncData}{ps:List Str}{sp:Sp}{dvs:List V}{ds:List Value}{E:XK}{ES:St→XK}{x m:Str}{p pos apos:Pos}{e o:Expr}{es:List Expr}{ta:TE}{t:TA}
theorem qFW{pins:List (Addr×Obj)}{σ:St}{H:Hp}{s:Shared}{Q:VK}{us:List Value}{vs:List V}(F:FnOk X.prog X.w X.K X.mg X.base (CXe X.prog X.w) k f fd ps sp)(hr:Room k X.A)(hb:yL X.K fd ps ds)(hd:Vals dvs ds)(tk:q0V (CXe X.prog X.w) X ES)
 (I:Inv X pins σ H s) (r:Vals vs us) (h:sp (vs++dvs) H Q (ES σ)):wpAny (model X.prog X.w) X.A (call (.ref f) us) (EP X pins σ Q) X.xe s:=by(
have r2:Vals (vs++dvs) (us++ds):=r.append hd
have hl:(us++ds).length=ps.length:=by rw[←r2.length];exact F.len _ _ _ _ h
refine wH (dS (F.run X.A X.stack s H ⟨us,[]⟩ (us++ds) (vs++dvs) Q (ES σ) hr I.env0 (hb s us I.kIn hl) r2 h) λr s' hq=>?_)
cases r with
|error e=>exact tk pins σ H s e s' I hq
|ok fl=>
 cases fl with
 |ret u=>exact I.after hq
 |next=>exact False.elim hq
 |brk=>exact False.elim hq
 |cont=>exact False.elim hq)
theorem qEG{pl:Sem Bool}(tk:q0V (CXe X.prog X.w) X ES)(he:PE X o ta)(c:Cls X.K C)(hm:Meth X.K C m f)(F:FnOk X.prog X.w X.K X.mg X.base (CXe X.prog X.w) k f fd ps sp)(hr:Room k X.A)(hb:yL X.K fd ps ds)(hd:Vals dvs ds)(ha:PA X (e::es) t)
 (hst:starEach (e::es) X.env=(false,eval e X.env)::starEach es X.env:=by rfl) (hpl:(backTo pos (starEach es X.env)).any (·.1)=false:=by rfl)
 (ht:eval (.Call (.Attribute o m apos) (e::es) [] pos) X.env=(do
  let ov←eval o X.env
  standAt apos.atName
  let(f,first)←holding [ov] (getMethod ov m pl)
  callWith pos f first (backTo pos (starEach (e::es) X.env)) (backToKw pos (keywordEach [] X.env))):=by rfl):
 PE X (.Call (.Attribute o m apos) (e::es) [] pos) (qAX C m sp dvs ES ta t):=by(
intro pins s σ H Q I h
refine rE (pl:=pl) (thn (he pins s σ H _ I h) λu s1 hZ=>?_) ht
obtain⟨x,H1,I1,rx,a,dx,fs,ex,ea,l,q⟩:=hZ
subst ex
obtain rfl:u=Value.ref a:=rx
refine zQ I1 ea c hm l ?_
refine rB (first:=[.ref a]) (h₀:=X.base) I.ok.mod.kin hm.kp (thn (ha pos pins s1 σ H1 _ I1 q) λus s2 ⟨vs,H2,I2,r,q2⟩=>⟨I2.kIn,?_⟩) hst hpl
exact qFW (us:=.ref a::us) (vs:=.ref a::vs) F hr hb hd tk I2 (.cons rfl r) q2)
end
end L2
namespace L2
open PySem PySem.W PySem.Spec PyProof.Rows
noncomputable def BmIn(base:Heap)(mg:Str→Option Value):Prop:=∃bm o,mg "__builtins__"=some (.ref bm)∧bm≠builtinsNs∧base.get? bm=some o∧o.cls=.type "module"∧o.dict=some builtinsNs∧o.data=.plain
theorem qD2{P:Program}{w:World}{K:PySem.W.Frag}{mg mb:Str→Option Value}{CX:CXT}{k:Nat}{fa a:Addr}{fd:FuncData}{x:Str}{sp:Sp}{s₁:Shared}{vs:List Value}{ns:List Int}(ts:List Addr)
 (KX:K.In s₁.heap) (hts:∀T∈ts,s₁.heap.get? T=some (tabObj #[])∧K.lookup T=none∧∃c,codeHdIn K c T=true) (hns:s₁.heap.Ns mainGlobals mg) (hb:s₁.heap.Ns builtinsNs mb) (hbb:∀x:Str,x≠"__name__"→mb x=bootBuiltins x) (hlim:s₁.heap.NoLimit) (hbm:BmIn s₁.heap mg) (hg:s₁.gens=#[])
 (ha:s₁.heap.get? a=some { cls:=.type "list",data:=.seq vs.toArray }) (hi:IntsAre vs ns) (hl:ns.length≤sizeLine) (hr:Room k callerA)
 (F:∀base:Heap,K.In base→base.Ns mainGlobals mg→BmIn base mg→FnOk P w K mg base CX k fa fd [x] sp) (hbind:∀(s:Shared) (u:Value),BindsTo s fd ⟨[u],[]⟩ [(x,u)])
 (hsp:∀H:Hp,SqL K H a (ns.map V.int)→(∀T∈ts,H T=some (.tbl #[]))→sp [.ref a] H (λv _=>v=.bl true) λ_ _ _=>False)
 (hCX:∀H e s',CX [] H s₁ (λ_ _ _=>False) e s'→False):
 codeAny (model P w) callerA (.call (.ref fa) ⟨[.ref a],[]⟩) (λr s'=>r=.ok (.ret (.bool true))∧OldK s₁.heap s'.heap∧s'.os=s₁.os∧AllBare s'.gens) s₁:=by(
have rv:=q7W hi
have lenV:=hi.length
have nat:a∉ts:=λz=>by have e:=(hts a z).1;rw[ha]at e;cases e
have core:∀H:Hp,SqL K H a (ns.map V.int)→HOk P w H s₁.heap→(∀b,H b=none∨(b=a∧K.lookup a=none∧∃o xs,H b=some (.frz o (.lst xs)))∨(b∈ts∧H b=some (.tbl #[])))→(∀T∈ts,H T=some (.tbl #[]))→codeAny (model P w) callerA (.call (.ref fa) ⟨[.ref a],[]⟩) (λr s'=>r=.ok (.ret (.bool true))∧OldK s₁.heap s'.heap∧s'.os=s₁.os∧AllBare s'.gens) s₁:=by
 intro H hS hok hO hT;have base_of:∀{b:Addr} {o:Obj},s₁.heap.get? b=some o→H b=none→(hidT s₁.heap H).get? b=some o:=λe n=>q5V e n;have noA:∀{b:Addr} {o:Obj} {es:Array DictEntry} {ep:Nat},s₁.heap.get? b=some o→o.data=.dict es ep→H b=none:=fun {b o es ep} e d=>by
  rcases hO b with z|⟨rfl,_⟩|⟨z,_⟩
  ·exact z
  ·rw[ha]at e;cases e;cases d
  rw[(hts b z).1]at e;cases e;cases d
 have nsK:∀{b:Addr} {m:Str→Option Value},s₁.heap.Ns b m→(hidT s₁.heap H).Ns b m:=fun {b m} ⟨o,es,ep,e,d,r⟩=>⟨o,es,ep,base_of e (noA e d),d,r⟩
 have hKb:K.In (hidT s₁.heap H):=λb o e=>base_of (KX b o e) (by
  rcases hO b with z|⟨rfl,z,_⟩|⟨z,_⟩
  ·exact z
  ·rw[z]at e;cases e
  rw[(hts b z).2.1]at e;cases e)
 have hM:Mod K mg (hidT s₁.heap H):=⟨hKb,nsK hns,⟨mb,nsK hb,hbb⟩,let⟨mc,h1,h2⟩:=hlim;⟨mc,nsK h1,h2⟩⟩;have hB:BmIn (hidT s₁.heap H) mg:=by
  obtain⟨bm,o,b1,b2,b3,b4,b5,b6⟩:=hbm;refine⟨bm,o,b1,b2,base_of b3 ?_,b4,b5,b6⟩;rcases hO bm with z|⟨rfl,_⟩|⟨z,_⟩
  ·exact z
  ·rw[ha]at b3;cases b3;exact absurd (Value.type.inj b4) (by decide)
  rw[(hts bm z).1]at b3;cases b3;cases b4
 have e0:Env0 P w K mg (hidT s₁.heap H) callerA [] s₁ H:=⟨rfl,hM,λb o e=>qBM e,cZ (q7J _ _),trivial,λb hb=>absurd (show b∈([]:List Addr)from hb) (by simp),hok,.of_eq hg⟩;refine dS ((F _ hKb (nsK hns) hB).run callerA [] s₁ H ⟨[.ref a],[]⟩ [.ref a] [.ref a] _ _ hr e0 (hbind s₁ (.ref a)) (.cons rfl .nil) (hsp H hS hT)) λr s' h=>?_;cases r with
 |error e=>exact(hCX H e s' h).elim
 |ok fl=>
  cases fl with
  |next=>exact False.elim h
  |brk=>exact False.elim h
  |cont=>exact False.elim h
  |ret u=>
   obtain⟨v,H',os,bare,un,hok',r',q⟩:=h;have q':v=.bl true:=q;subst q';obtain rfl:u=Value.bool true:=r';have kept:∀b o,s₁.heap.get? b=some o→b∉ts→s'.heap.get? b=some o:=λb o e nb=>by
    rcases hO b with z|⟨rfl,_,ob,xs,z⟩|⟨z,_⟩
    ·exact un.keep b o e z (by intro z;exact absurd (show b∈([]:List Addr)from z) (by simp)) (by simp)
    ·have z2:=un.frzs _ ob _ z;obtain⟨e1,_⟩:=hok _ _ z;obtain⟨e2,_⟩:=hok' _ _ z2;rw[e]at e1;cases e1;exact e2
    exact absurd z nb
   refine⟨rfl,⟨λb o e=>?_,λb o e=>?_⟩,os,bare⟩
   ·by_cases nb:b∈ts
    ·obtain⟨g,_,c,hc⟩:=hts b nb;obtain⟨more,z2⟩:=un.tbls b _ (hT b nb);have g2:s'.heap.get? b=some { cls:=.none,data:=.fields (#[]++more) }:=hok' _ _ z2;rw[g]at e;cases e;exact .inr (.inl ⟨((xJ KX hc).tab g).isCodeTable,rfl,#[],more,rfl,g2⟩)
    exact .inl (kept b o e nb)
   by_cases nb:b∈ts
   ·obtain⟨more,z2⟩:=un.tbls b _ (hT b nb);exact⟨_,hok' _ _ z2⟩
   exact⟨o,kept b o e nb⟩
have tb:∀T∈ts,∀H:Hp,H T=some (.tbl #[])→∀u,H T=some u→jU P w H s₁.heap T u:=λT hT H e u e'=>by rw[e]at e';cases e';exact(hts T hT).1
cases hk:K.lookup a with
|some o=>
 have e:=KX a o hk;rw[ha]at e;cases e;refine core (λb=>if b∈ts then some (.tbl #[])else none) (.inr ⟨_,vs.toArray,_,hk,rfl,rfl,rfl,by rw[kY,lenV];exact hl,by simpa using rv⟩) (λb u z=>?_) (λb=>?_) λT hT=>kG hT
 ·by_cases hb':b∈ts
  ·exact tb b hb' _ (kG hb') u z
  have z':=(kE hb').symm.trans z;cases z'
 by_cases hb':b∈ts
 ·exact .inr (.inr ⟨hb',kG hb'⟩)
 exact .inl (kE hb')
|none=>
 refine core (λb=>if b=a then some (.frz { cls:=.type "list",data:=.seq vs.toArray } (.lst (ns.map V.int)))else if b∈ts then some (.tbl #[])else none) (.inl (.inr ⟨{ cls:=.type "list",data:=.seq vs.toArray },kG rfl⟩)) (λb u z=>?_) (λb=>?_) λT hT=>?_
 ·by_cases hb':b=a
  ·have z':=(kG hb').symm.trans z;cases z';subst hb';exact⟨ha,by rw[hU];exact hl,vs,_,rv,ha⟩
  by_cases hb2:b∈ts
  ·exact tb b hb2 _ ((kE hb').trans (kG hb2)) u z
  have z':=((kE hb').trans (kE hb2)).symm.trans z;cases z'
 ·by_cases hb':b=a
  ·exact .inr (.inl ⟨hb',hk,_,_,kG hb'⟩)
  by_cases hb2:b∈ts
  ·exact .inr (.inr ⟨hb2,(kE hb').trans (kG hb2)⟩)
  exact .inl ((kE hb').trans (kE hb2))
 have:T≠a:=λz=>nat (z▸hT);exact(kE this).trans (kG hT))
theorem qEH{l:PySem.W.OpenLaw}{n k:Nat}{q:Program}{loose:List Str}{XP:(Str→Option Value)→Heap→Prop}{YP:World→Heap→Prop}{d:DefRec}{K:Params→PySem.W.Frag}{CX:World→CXT}{sp:World→Sp}{x:Str}(ts:List Addr)
 (hn:l.most=some n) (hn2:n≤sizeLine) (hdf:d.params.defaults=[]) (hr:Room k callerA)
 (hY:∀(w:World) (h:Heap),YP w h→(K w.params).In h∧∀T∈ts,h.get? T=some (tabObj #[])) (hT:∀w:World,∀T∈ts,(K w.params).lookup T=none∧∃c,codeHdIn (K w.params) c T=true)
 (F:∀(w:World) (mg:Str→Option Value) (fa:Addr) (h:Heap),(K w.params).In h→h.Ns mainGlobals mg→mg d.name=some (.ref fa)→∃fd:FuncData,(∀(s:Shared) (u:Value),BindsTo s fd ⟨[u],[]⟩ [(x,u)])∧∀base:Heap,(K w.params).In base→base.Ns mainGlobals mg→BmIn base mg→FnOk l.prog w (K w.params) mg base (CX w) k fa fd [x] (sp w))
 (hsp:∀(w:World) (H:Hp) (a:Addr) (ns:List Int),ns.length≤n→SqL (K w.params) H a (ns.map V.int)→(∀T∈ts,H T=some (.tbl #[]))→sp w [.ref a] H (λv _=>v=.bl true) λ_ _ _=>False)
 (hCX:∀(w:World) (H:Hp) (s:Shared) (e:Value) (s':Shared),CX w [] H s (λ_ _ _=>False) e s'→False):
 PySem.W.WalkO q loose XP YP l.row.toRowW d [] (λf vs=>PySem.call f vs):=by(
refine Att.attach_call hn hdf λw s₀ s₁ mg mb fa o pm cd doc a vs ns G Y ho hd hcd hmg hobj hints hlen hg=>?_
obtain⟨KX,KT⟩:=hY w _ Y
obtain⟨fd,hb,hF⟩:=F w mg fa _ KX G.T.g hmg
exact qD2 ts KX (λT h=>⟨KT T h,hT w T h⟩) G.T.g G.T.b G.T.builtins G.T.nolimit (let⟨bm,ob,b1,b2,b3,b4,b5,b6⟩:=G.T.bmain;⟨bm,ob,b1,b2,b3,b4,b5,b6⟩) hg hobj hints (mJ hlen hn2) hr hF hb (λH hS hH=>hsp w H a ns hlen hS hH) λH e s'=>hCX w H s₁ e s')
structure FunT(K:PySem.W.Frag)(x qual:Str)(st:Stmt)(c f:Addr)(fd:FuncData):Prop where
ex:∃(oc:Value) (od:Option Addr) (kV doc pm:Value) (an:Option Addr) (ct:Value) (osl:Array (Option Value)),fd=PySem.W.fnOf x qual (yU st) (yI st) (qH st) .none kV doc pm an (.ref c) ct∧K.lookup f=some ⟨oc,od,.func fd,osl⟩∧PySem.W.codeIn K (.ref c) qual=true
section
variable{P:Program}{w:World}{K:PySem.W.Frag}{mg:Str→Option Value}{base:Heap}
theorem FunT.mk'{x qual:Str}{st:Stmt}{c f:Addr}{oc:Value}{od an:Option Addr}{osl:Array (Option Value)}{kV doc pm ct:Value}(l:K.lookup f=some ⟨oc,od,.func (PySem.W.fnOf x qual (yU st) (yI st) (qH st) .none kV doc pm an (.ref c) ct),osl⟩)
 (h:PySem.W.codeIn K (.ref c) qual=true):FunT K x qual st c f (PySem.W.fnOf x qual (yU st) (yI st) (qH st) .none kV doc pm an (.ref c) ct):=⟨⟨oc,od,kV,doc,pm,an,ct,osl,rfl,l,h⟩⟩
theorem FunT.ok0{x qual:Str}{st:Stmt}{c f:Addr}{fd:FuncData}{N ps:List Str}{k:Nat}{sp:Sp}(F:FunT K x qual st c f fd)(S:FnScope N ps (qH st))
 (hbody:∀(A:Around) (outer:List Env) (s:Shared) (H:Hp) (vs:List V) (Q:VK) (E:XK),Room k (A.deeper (envOfC qual (qH st) s.heap.objs.size f (.ref c)))→sp vs H Q E→∃t,PSs (cxOf CX0 P w K mg base N qual (qH st) f (.ref c) A outer s H E).nox (yI st) t∧t { nx:=λ_ H'=>Q .non H',rt:=Q } (zR N vs) H)(len:∀vs H Q E,sp vs H Q E→vs.length=ps.length:=by intro _ _ _ _ h;first|(cases h;subst_vars;rfl)|((repeat obtain⟨_,h⟩:=h);all_goals subst_vars;rfl)):FnOk P w K mg base CX0 (k+1) f fd ps sp:=by(
obtain⟨oc,od,kV,doc,pm,an,ct,osl,rfl,lk,hcd⟩:=F.ex
refine qDR lk hcd S len λA outer s H vs Q E hr hsp=>?_
obtain⟨t,h,q⟩:=hbody A outer s H vs Q E hr hsp
exact⟨t,h.nox,q⟩)
noncomputable def q4L(K:PySem.W.Frag)(ts:List Addr):Sp:=λvs H Q _=>∃(a:Addr) (ns:List Int),vs=[.ref a]∧SqL K H a (ns.map V.int)∧ns.length≤63∧(∀T∈ts,H T=some (.tbl #[]))∧∀H',Q (.bl true) H'
end
noncomputable def fnOb(fd:FuncData):Obj:={ cls:=.type "function",data:=.func fd }
noncomputable def fnO(f:Addr)(fd:FuncData):HO:=.ext λh=>h.get? f=some (fnOb fd)
noncomputable def cdO(c:Addr)(q:Str):HO:=.ext λh=>∃o vs t,h.get? c=some o∧o.data=.fields vs∧vs[1]?=some (.str q t)
theorem qEI{P:Program}{w:World}{H:Hp}{h:Heap}{f:Addr}{fd:FuncData}(e:h.get? f=some (fnOb fd)):jU P w H h f (fnO f fd):=⟨e,⟨_,e⟩,λ_ _ a b=>b _ a⟩
theorem qII{P:Program}{w:World}{H:Hp}{h:Heap}{c:Addr}{q:Str}(e:h.CodeRec (.ref c) q):jU P w H h c (cdO c q):=by obtain⟨c',o,vs,t,e0,e1,e2,e3⟩:=e;cases e0;exact⟨⟨o,vs,t,e1,e2,e3⟩,⟨_,e1⟩,λ_ _ ⟨o,vs,t,a,b⟩ k=>⟨o,vs,t,k _ a,b⟩⟩
theorem qIJ{P:Program}{w:World}{H:Hp}{h:Heap}{f:Addr}{fd:FuncData}(ok:HOk P w H h)(e:H f=some (fnO f fd)):h.get? f=some (fnOb fd):=(ok f _ e).1
theorem qIK{P:Program}{w:World}{H:Hp}{h:Heap}{c:Addr}{q:Str}(ok:HOk P w H h)(e:H c=some (cdO c q)):h.CodeRec (.ref c) q:=let⟨o,vs,t,a,b⟩:=(ok c _ e).1
 ⟨c,o,vs,t,rfl,a,b⟩
noncomputable def vR(base:Heap)(cs:List Addr):Hp:=λb=>if(base.get? b).isSome=true∨b∈cs then none else some (.lst [])
theorem q1P{h base base':Heap}:∀{l:List Env},h.FunFrames base l→(∀L∈frs l,base.get? L=none→base'.get? L=none)→h.FunFrames base' l
| [],_,_=>trivial
|env::r,⟨hk,⟨L,o,hf,hn,ho,hd⟩,hr⟩,k=>by
 have hL:L∈frs (env::r):=by unfold frs;rw[rN,hf];exact kO
 exact⟨hk,⟨L,o,hf,k L hL hn,ho,hd⟩,q1P hr λb hb=>k b (by unfold frs;rw[rN,hf];exact kF _ hb)⟩
theorem Inv.env0C{X:Cx}{pins:List (Addr×Obj)}{σ:St}{H:Hp}{s:Shared}(I:Inv X pins σ H s)(cs:List Addr)(hcs:∀c∈cs,∃x,X.fn x=true∧X.env.cells.lookup x=some c):
 Env0 X.prog X.w X.K X.mg (hidT s.heap (vR X.base cs)) X.A X.stack s H∧(∀b o,X.base.get? b=some o→(hidT s.heap (vR X.base cs)).get? b=some o)∧∀c∈cs,∀o,s.heap.get? c=some o→(hidT s.heap (vR X.base cs)).get? c=some o:=by(
have up:∀b o,X.base.get? b=some o→(hidT s.heap (vR X.base cs)).get? b=some o:=λb o e=>q5V (I.bk b o e) (kG (.inl (by rw[e];rfl)))
have inv:∀{b:Addr} {o:Obj},(hidT s.heap (vR X.base cs)).get? b=some o→s.heap.get? b=some o∧((∃o',X.base.get? b=some o')∨b∈cs):=fun {b o} e=>by
 obtain⟨e1,n⟩:=qBM e;refine⟨e1,?_⟩;by_cases z:(X.base.get? b).isSome=true∨b∈cs
 ·rcases z with z|z
  ·exact .inl (wN.mp z)
  exact .inr z
 rw[show vR X.base cs b=some (.lst [])from kE z]at n;cases n
obtain⟨mb,hb1,hb2⟩:=I.ok.mod.blt
refine⟨⟨I.ok.frames,⟨I.ok.mod.kin.keeps up,I.ok.mod.glob.keeps up,⟨mb,hb1.keeps up,hb2⟩,I.ok.mod.nolimit.keeps up⟩,λb o e=>?_,by rw[q7J];exact kH _,q1P I.stack λL hL n=>?_,I.stkFree,I.hok,I.bare⟩,up,λc hc o e=>q5V e (kG (.inr hc))⟩
·obtain⟨e1,z⟩:=inv e;rcases z with⟨o',z⟩|z
 ·exact⟨e1,(I.bs b o' z).2⟩
 obtain⟨x,_,hx⟩:=hcs b z;exact⟨e1,I.freeC x b hx⟩
cases e:(hidT s.heap (vR X.base cs)).get? L with
|none=>rfl
|some o=>
 obtain⟨e1,z⟩:=inv e;rcases z with⟨o',z⟩|z
 ·rw[n]at z;cases z
 obtain⟨x,hf,hx⟩:=hcs L z;rcases kW.mp (I.stkSub L hL)with y|y
 ·exact absurd y (I.cne x L hx)
 obtain⟨_,o2,ho,_⟩:=I.ok.funs.mem y;exact absurd (kL ho) (cH.mpr (I.ok.cab x L hf hx)))
noncomputable def q6A(cells:List (Str×Addr))(σ:St)(base':Heap)(ix:List (Nat×Str)):Prop:=∀p∈ix,∀v,σ[p.1]?=some (some v)→∃c u,cells.lookup p.2=some c∧RelV v u∧base'.IsCell c (some u)
noncomputable def qK2(T:Addr)(pos:Pos)(qual:Str)(params:Arguments)(body:Expr)(scope:Scope)(clos:List (Str×Addr))(pm:Value):TE:=λσ H Q=>∃ps,H T=some (.tbl ps)∧TriplesOk ps.toList∧codeAmong pos ps.toList=none∧∀(f c':Addr) (ctv:Value),H f=none→H c'=none→f≠c'→Q (.ref f) (upd (upd (upd H T (.tbl (ps++#[rawInt pos.line,rawInt pos.col,.ref c']))) c' (cdO c' qual)) f (fnO f (kla_fn "<lambda>" qual params body scope clos pm (.ref c') ctv)))
theorem qFX{X:Cx}{c T:Addr}{params:Arguments}{body:Expr}{scope:Scope}{pos:Pos}{clos:List (Str×Addr)}(hcode:X.env.code=.ref c)(hcd:codeHdIn X.K c T=true)(B:BmIn X.base X.mg)(hcl:closureFor scope X.env=pure clos)(hdef:defaultsOf params X.env=([],[])):
 PE X (.Lambda params body scope pos) (qK2 T pos (X.env.qual++"<lambda>") params body scope clos ((X.mg "__name__").getD .none)):=by(
intro pins s σ H Q I hZ
obtain⟨ps,hT,ht,hnf,q⟩:=hZ
have hP:s.heap.get? T=some (tabObj ps):=I.hok T _ hT
have hgs:s.heap.Ns mainGlobals X.mg:=I.ok.mod.glob.keeps I.bk
obtain⟨bm,ob,b1,b2,b3,b4,b5,b6⟩:=B
have b3':=I.bk _ _ b3
have hgP:mainGlobals≠T:=λz=>by obtain⟨o,es,ep,e,hd,_⟩:=hgs;rw[z,hP]at e;cases e;cases hd
have hbP:bm≠T:=λz=>by rw[z,hP]at b3';cases b3';cases b4
have hbG:bm≠mainGlobals:=λz=>by obtain⟨o,es,ep,e,hd,_⟩:=hgs;rw[z,e]at b3';cases b3';rw[hd]at b6;cases b6
refine kla_eval hdef (kla_makeFunction (clos:=clos) hcl I.ok.glob hgs hcode (xJ I.kIn hcd) hP ht hnf hgP ⟨bm,ob,b1,b2,hbG,hbP,b3',b4,b5,b6⟩ λc' ctv h' tk hx hge hlt hrec htb=>?_)
have trk:∀b u,s.heap.get? b=some u→b≠T→∀o,(h'.push o).get? b=some u:=λb u e n o=>hX _ (hx b u n e)
have sz:s.heap.objs.size≤h'.objs.size:=mJ hge (cX hlt)
have nF:H h'.objs.size=none:=I.hok.fresh sz
have nC:H c'=none:=I.hok.fresh hge
have fc:h'.objs.size≠c':=rW hlt
have other:∀{b:Addr},b≠T→b≠c'→b≠h'.objs.size→∀u:HO,(upd (upd (upd H T (.tbl (ps++#[rawInt pos.line,rawInt pos.col,.ref c']))) c' (cdO c' (X.env.qual++"<lambda>"))) h'.objs.size (fnO h'.objs.size (kla_fn "<lambda>" (X.env.qual++"<lambda>") params body scope clos ((X.mg "__name__").getD .none) (.ref c') ctv))) b=H b:=fun {b} z1 z2 z3 _=>by rw[qD z3,qD z2,qD z1]
refine⟨.ref h'.objs.size,_,?_,rfl,q _ c' ctv nF nC fc⟩
refine I.un (t':=tk) ⟨λb o e n _ _=>trk b o e (qG hT n).symm _,λb o e n _ _=>⟨o.slots,trk b o e (qG hT n).symm _⟩,λb o e n _=>?_,λb o e _=>?_,λb xs e=>?_,λb o u e=>?_,λb qs e=>?_⟩ λb u e=>?_
·have hb:b<s.heap.objs.size:=kL e;rw[other (qG hT n).symm (mD (mG hb hge)) (mD (mG hb sz)) (.lst [])];exact n
·by_cases z:b=T
 ·subst z;exact⟨_,hX _ htb⟩
 exact⟨o,trk b o e z _⟩
·rw[other (λz=>by rw[z,hT]at e;cases e) (qG e nC) (qG e nF) (.lst [])];exact e
·rw[other (λz=>by rw[z,hT]at e;cases e) (qG e nC) (qG e nF) (.lst [])];exact e
·by_cases z:b=T
 ·subst z;rw[hT]at e;cases e;refine⟨#[rawInt pos.line,rawInt pos.col,.ref c'],?_⟩;rw[qD (qG hT nF),qD (qG hT nC)];exact qF
 exact⟨#[],by rw[other z (qG e nC) (qG e nF) (.lst []),e];simp⟩
by_cases z3:b=h'.objs.size
·subst z3;rw[qF]at e;cases e;exact qEI (k7 _ rfl)
by_cases z2:b=c'
·subst z2;rw[qD z3,qF]at e;cases e;exact qII (hrec.push _)
by_cases z:b=T
·subst z;rw[qD z3,qD z2,qF]at e;cases e;exact hX _ htb
rw[other z z2 z3 (.lst [])]at e
refine(I.hok b u e).stay (λd v hd r=>trk d v r (λy=>?_) _) (λd r=>?_) λd xs r=>?_
·rcases hd with hd|hd
 ·exact z (hd▸y)
 rw[y,hT]at hd;cases hd
·rw[other (λy=>by rw[y,hT]at r;cases r) (qG r nC) (qG r nF) (.lst [])];exact r
rw[other (λy=>by rw[y,hT]at r;cases r) (qG r nC) (qG r nF) (.lst [])];exact r)
noncomputable abbrev envL(qual:Str)(scope:Scope)(clos:List (Str×Addr))(L f:Addr)(cd:Value):Env:=newEnv scope L mainGlobals clos (qual++".<locals>.") (some f) cd none builtinsNs
noncomputable def qEJ(CX:CXT)(P:Program)(w:World)(K:PySem.W.Frag)(mg:Str→Option Value)(base:Heap)(N:List Str)(qual:Str)(scope:Scope)(clos:List (Str×Addr))(f:Addr)(cd:Value)(A:Around)(outer:List Env)(s:Shared)(H:Hp)(E:XK):Cx where
prog:=P
w:=w
K:=K
mg:=mg
base:=base
A:=A.deeper (envL qual scope clos s.heap.objs.size f cd)
N:=N
s₀:=s
H₀:=H
env:=envL qual scope clos s.heap.objs.size f cd
outer:=outer
stack:=envL qual scope clos s.heap.objs.size f cd::outer
ex:=[]
calm:=true
fn:=λ_=>false
pn:=[]
xe:=λe s'=>wpAny (model P w) (A.deeper (envL qual scope clos s.heap.objs.size f cd)) (leaving (envL qual scope clos s.heap.objs.size f cd) e) (λ_ s''=>CX outer H s E e s'') (λe' s''=>CX outer H s E e' s'') s'
structure LamSc(scope:Scope)(x0:Str)(clos:List (Str×Addr))(fvs:List V)(base:Heap):Prop where
kind:scope.kind=.function
co:scope.isCoroutine=false
gen:scope.isGenerator=false
par:scope.names.lookup x0=some .local
nocell:∀y∈scope.names,y.2≠ .cell
free:∀y,scope.names.lookup y=some .free→∃c,clos.lookup y=some c
inj:∀x y c,clos.lookup x=some c→clos.lookup y=some c→x=y
at':∀(j:Nat) (x:Str) (c:Addr),clos[j]?=some (x,c)→scope.names.lookup x=some .free∧clos.lookup x=some c∧∃v u,fvs[j]?=some v∧RelV v u∧base.IsCell c (some u)
len:fvs.length=clos.length
theorem qFY{CX:CXT}{P:Program}{w:World}{K:PySem.W.Frag}{mg:Str→Option Value}{base:Heap}{k:Nat}{f c:Addr}{name qual:Str}{params:Arguments}{body:Expr}{scope:Scope}{pm ct:Value}{x0:Str}{clos:List (Str×Addr)}{fvs:List V}{sp:Sp}(S:LamSc scope x0 clos fvs base)
 (len:∀vs H Q E,sp vs H Q E→vs.length=1) (hf:∀vs H Q E,sp vs H Q E→H f=some (fnO f (kla_fn name qual params body scope clos pm (.ref c) ct))∧H c=some (cdO c qual))
 (hbody:∀(A:Around) (outer:List Env) (s:Shared) (H:Hp) (v0:V) (Q:VK) (E:XK),Room k (A.deeper (envL qual scope clos s.heap.objs.size f (.ref c)))→sp [v0] H Q E→∃t,PE (qEJ CX P w K mg base (x0::clos.map (·.1)) qual scope clos f (.ref c) A outer s H E) body t∧t (some v0::fvs.map some) H Q):
 FnOk P w K mg base CX (k+1) f (kla_fn name qual params body scope clos pm (.ref c) ct) [x0] sp:=by(
refine⟨len,λA outer s H args us vs Q E hr e0 hb r hsp=>?_⟩
have hl:=len _ _ _ _ hsp
obtain⟨v0,rfl⟩:∃v0,vs=[v0]:=match vs,hl with| [v],_=>⟨v,rfl⟩
obtain⟨u0,rfl,r0⟩:=zP r
have lim:s.heap.NoLimit:=e0.mod.nolimit.keeps λb o e=>(e0.bs b o e).1
obtain⟨hf1,hc1⟩:=hf _ _ _ _ hsp
refine kla_callFunE hr.depth (qIJ e0.hok hf1) rfl S.co S.gen rfl (qIK e0.hok hc1) (hb _ _ _ _ ?_)
refine cM S.nocell (λy hy=>?_) (λh' hn hs=>?_) S.kind
·obtain rfl:y=(x0,u0):=by simpa using hy
 exact S.par
have hk:∀b o,s.heap.get? b=some o→h'.get? b=some o:=λb o e=>by have:=hs.2 b (mD (kL e));rw[this];exact hX _ e
refine⟨lim.keeps hk,kla_codeExpr ?_⟩
obtain⟨t,ht,hq⟩:=hbody A outer s H v0 Q E (hr.deeper _) hsp
have noA:∀b:Addr,b∉(qEJ CX P w K mg base (x0::clos.map (·.1)) qual scope clos f (.ref c) A outer s H E).ex:=λb z=>absurd (show b∈([]:List Addr)from z) (by simp)
have cat:∀y d,clos.lookup y=some d→∃u,base.IsCell d (some u):=λy d e=>by obtain⟨j,hj,ej⟩:=cV (gK e);obtain⟨_,_,v,u,_,_,hu⟩:=S.at' j y d (hV.mpr ⟨hj,ej⟩);exact⟨u,hu⟩
have I:Inv (qEJ CX P w K mg base (x0::clos.map (·.1)) qual scope clos f (.ref c) A outer s H E) [] (some v0::fvs.map some) H { s with heap:=h',toks:=s.toks + [(x0,u0)].length }:=by
 refine⟨⟨e0.mod,S.kind,rfl,rfl,kH _,S.inj,λy hy=>?_,λy c z _=>absurd (show false=true from z) (by decide),λ_=>hr.hd,sX e0.frames,.inr ⟨rfl,rfl⟩,λb z=>absurd z (noA b),e0.bs,e0.bsz,λb _ _=>noA b,λb z=>absurd z (noA b),e0.funs,e0.frf⟩,rfl,e0.bare,Un.kept hk,⟨_,hn,λi y v h1 h2 h3=>?_⟩,λy d e=>?_,e0.hok.fresh (kH _),λy d e=>?_,λp hp=>absurd (show p∈([]:List (Addr×Obj))from hp) (by simp),e0.hok.kept hk,?_⟩
 ·have hy:scope.names.lookup y=some .cell∨scope.names.lookup y=some .free:=hy;rcases hy with hy|hy
  ·exact absurd rfl (S.nocell _ (gK hy))
  exact S.free y hy
 ·cases i with
  |zero=>obtain rfl:=kI h1;obtain rfl:=kI (kI h2);refine⟨u0,r0,.inl ⟨S.par,?_⟩⟩;show([(x0,u0)]:List (Str×Value)).reverse.lookup x0=some u0;simp
  |succ j=>have h1:(clos.map (·.1))[j]?=some y:=h1;have h2:(fvs.map some)[j]?=some (some v):=h2;rw[kX]at h1 h2;obtain⟨⟨y',d⟩,hd,rfl⟩:=mO.mp h1;obtain⟨v',hv,ev⟩:=mO.mp h2;obtain rfl:=kI ev;obtain⟨a1,a2,v2,u,a3,a4,a5⟩:=S.at' j _ d hd;rw[hv]at a3;obtain rfl:=kI a3;exact⟨u,a4,.inr ⟨.inr a1,d,a2,a5.keeps λb o e=>hk b o (e0.bs b o e).1⟩⟩
 ·obtain⟨u,hu⟩:=cat y d e;exact⟨_,hu.keeps λb o e=>hk b o (e0.bs b o e).1⟩
 ·obtain⟨u,o,ho,_⟩:=cat y d e;exact(e0.bs _ _ ho).2
 show(some v0::fvs.map some).length=(x0::clos.map (·.1)).length;rw[gD,gD,hU,hU,S.len]
exact gN (ht [] _ _ H _ I hq) (λu s' ⟨v,H',J,rv,q⟩=>⟨v,H',J.os,J.bare,J.base,J.hok,rv,q⟩) λe s' hs=>hs)
end L2
namespace L2
open PySem PySem.Spec PyProof.Rows
section
variable{X:Cx}{pins:List (Addr×Obj)}{σ:St}{H:Hp}{s:Shared}{a:Addr}
theorem Inv.freeze{kvs:List (Key×V)}{o:Obj}(I:Inv X pins σ H s)(e:H a=some (.dK kvs))(ho:s.heap.get? a=some o):Inv X pins σ (upd H a (.frz o (.dK kvs))) s:=by(
have ne:∀b u,H b=some u→u≠ .dK kvs→b≠a:=λb u q n z=>by rw[z,e]at q;exact n (kI q).symm
have nn:∀b,H b=none→b≠a:=λb q z=>by rw[z,e]at q;cases q
refine⟨I.ok,I.os,I.bare,I.base.trans ⟨λb u q _ _ _=>q,λb u q _ _ _=>⟨u.slots,q⟩,λb u q n _=>by rw[qD (nn b n)];exact n,λb u q _=>⟨u,q⟩,λb xs q=>by rw[qD (ne b _ q (by intro z;cases z))];exact q,λb u v q=>by rw[qD (ne b _ q (by intro z;cases z))];exact q,λb ps q=>⟨#[],by rw[qD (ne b _ q (by intro z;cases z)),q];simp⟩⟩,I.loc,I.cell,by rw[qD (nn _ I.free)];exact I.free,λx c q=>by rw[qD (nn _ (I.freeC x c q))];exact I.freeC x c q,λp hp=>?_,λb u q=>?_,I.len⟩
·obtain⟨q1,q2,q3⟩:=I.pin p hp;exact⟨q1,by rw[qD (nn _ q2)];exact q2,q3⟩
have st:∀b u,jU X.prog X.w H s.heap b u→jU X.prog X.w (upd H a (.frz o (.dK kvs))) s.heap b u:=λb u q=>q.stay (λ_ _ _ z=>z) (λc z=>by rw[qD (ne c _ z (by intro z;cases z))];exact z) (λc xs z=>by rw[qD (ne c _ z (by intro z;cases z))];exact z)
by_cases hb:b=a
·subst hb;rw[qF]at q;cases q;exact⟨ho,st b _ (I.hok b _ e)⟩
rw[qD hb]at q
exact st b u (I.hok b u q))
theorem Inv.thaw{o:Obj}{u:HO}(I:Inv X pins σ H s)(hne:∀o u,X.H₀ a≠some (.frz o u))(e:H a=some (.frz o u)):Inv X pins σ (upd H a u) s:=by(
have ne:∀b v,H b=some v→v≠ .frz o u→b≠a:=λb v q n z=>by rw[z,e]at q;exact n (kI q).symm
have nn:∀b,H b=none→b≠a:=λb q z=>by rw[z,e]at q;cases q
have nf:∀b v,X.H₀ b=some v→(∃o' u',v=.frz o' u')→b≠a:=λb v q ⟨o',u',z⟩ w=>by rw[w,z]at q;exact hne o' u' q
refine⟨I.ok,I.os,I.bare,⟨I.base.keep,I.base.slot,λb v q n hx=>?_,I.base.there,λb xs q=>?_,λb v w q=>?_,λb ps q=>?_⟩,I.loc,I.cell,by rw[qD (nn _ I.free)];exact I.free,λx c q=>by rw[qD (nn _ (I.freeC x c q))];exact I.freeC x c q,λp hp=>?_,λb v q=>?_,I.len⟩
·have:=I.base.free b v q n hx;rw[qD (nn b this)];exact this
·have:=I.base.tups b xs q;rw[qD (ne b _ this (by intro z;cases z))];exact this
·rw[qD (nf b _ q ⟨_,_,rfl⟩)];exact I.base.frzs b v w q
·obtain⟨more,q2⟩:=I.base.tbls b ps q;exact⟨more,by rw[qD (ne b _ q2 (by intro z;cases z))];exact q2⟩
·obtain⟨q1,q2,q3⟩:=I.pin p hp;exact⟨q1,by rw[qD (nn _ q2)];exact q2,q3⟩
have st:∀b v,jU X.prog X.w H s.heap b v→jU X.prog X.w (upd H a u) s.heap b v:=λb v q=>q.stay (λ_ _ _ z=>z) (λc z=>by rw[qD (ne c _ z (by intro z;cases z))];exact z) (λc xs z=>by rw[qD (ne c _ z (by intro z;cases z))];exact z)
by_cases hb:b=a
·subst hb;rw[qF]at q;cases q;exact st b _ (I.hok b _ e).2
rw[qD hb]at q
exact st b v (I.hok b v q))
end
noncomputable def Itd(a:Addr)(o:Obj)(kvs:List (Key×V)):It:=⟨λi H=>H a=some (.frz o (.dK kvs))∧i<kvs.length,λi H x H'=>H'=H∧∃kv,kvs[i]?=some kv∧x=kV kv.1,λi H=>H a=some (.frz o (.dK kvs))∧kvs.length≤i⟩
theorem qD3{P:Program}{w:World}{K:PySem.W.Frag}{tg:Expr}(a it:Addr)(o:Obj){kvs:List (Key×V)}{vs:List (Key×Value)}{ep:Nat}(rel:KV kvs vs)(hD:∀h:Heap,h.get? a=some o→h.DictAt (jA P w) a vs ep):
 Turn P w K tg (Itd a o kvs) [it] it (λi h=>h.IsKeyIter it a i vs.length ep) where
mem:=by simp
obj:=λi h st b hb=>by
 have e:b=it:=by simpa using hb
 subst e;obtain⟨o',e,c,d⟩:=st;exact⟨o',e,λv z=>by rw[d]at z;cases z⟩
keep:=λi h h' st k=>st.at λo e=>k it (by simp) o e
item:=by
 intro X hP hw hK hc i pins s σ H E I hf st hg;subst hP hw hK;obtain⟨ha,hi⟩:=hg;obtain⟨ho,_⟩:=I.hok a _ ha;have hl:=rel.length;have hi':i<vs.length:=by lia
 obtain⟨f0,f1,f2,f3,f4,f5⟩:=hf it (by simp);refine wpAny_pyNext_dict_item (k:=vs[i].1) (v:=vs[i].2) st (hD _ ho) (hZ hi') λkey h' hk st' sb=>?_;have I1:Inv X pins σ H { s with heap:=h' }:=I.turned (t':=s.toks) (λb o hb e=>(sb.2 b hb).trans e) f0 f1 f3 f4 f5;obtain⟨o',e',c',d'⟩:=id st';refine⟨key,rfl,qBN (s:={ s with heap:=h' }) e' c' d' (by decide) ⟨kV kvs[i].1,H,I1,?_,⟨rfl,kvs[i],hZ hi,rfl⟩,st',λb hb=>(hf b hb).1⟩⟩;have ek:=rL (λl=>l[i]?) rel.keys;simp only[kX,hZ hi,hZ hi',xN]at ek;rw[kI ek];exact qEC hk
done:=by intro X hP hw hK hc i pins s σ H E I hf st hg;subst hP hw hK;obtain⟨ha,hi⟩:=hg;obtain⟨ho,_⟩:=I.hok a _ ha;have hl:=rel.length;obtain⟨f0,f1,f2,f3,f4,f5⟩:=hf it (by simp);exact wpAny_pyNext_dict_end (I.ok.hd hc) st (hD _ ho) (rF (by lia)) λh' eb=>⟨rfl,I.turned (t':=s.toks) (λb o hb e=>eb b o hb e) f0 f1 f3 f4 f5⟩
self:=λ_ _ _ _ _ st h=>wpAny_pyIter_keyiter st h
section
variable{X:Cx}{tg:Expr}
noncomputable def iDct(td:TE):TI:=λσ H R=>td σ H λx H1=>∃a kvs,x=.ref a∧H1 a=some (.dK kvs)∧∀o,R (Itd a o kvs) (upd H1 a (.frz o (.dK kvs)))
theorem qC4{d:Expr}{td:TE}(hd:PE X d td):PI X tg d (iDct td):=by(
intro pins s σ H R I h
refine thn (hd pins s σ H _ I h) λv s1 hZ=>?_
obtain⟨x,H1,I1,r1,q1⟩:=hZ
obtain⟨a,kvs,e,ha,q⟩:=q1
subst e
cases r1
obtain⟨z,lo,vs,rel,dd⟩:=q3U I1.hok ha
obtain⟨ep,hat⟩:=dd.dictAt
obtain⟨o,es,ho,hr⟩:=id hat
have I2:=I1.freeze ha ho
refine wpAny_pyIter_dict lo hat ?_
refine⟨s1.heap.objs.size,[s1.heap.objs.size],_,_,_,rfl,I2.kept (t':=s1.toks) λb o e=>hX _ e,qD3 a _ o rel (λh' h=>⟨o,es,h,hr⟩),⟨_,k7 _ rfl,rfl,rfl⟩,λb hb=>?_,q o⟩
have e:b=s1.heap.objs.size:=by simpa using hb
subst e
exact I2.fpOk (kH _) (I2.hok.fresh (kH _)))
theorem qIL{pins:List (Addr×Obj)}{σ:St}{H:Hp}{s:Shared}{a:Addr}{kvs:List (Key×V)}(I:Inv X pins σ H s)(e:H a=some (.dK kvs)):∀o u,X.H₀ a≠some (.frz o u):=λo u q=>by have:=I.base.frzs a o u q;rw[e]at this;cases this
noncomputable def qK3(t:TE):TE:=λσ H Q=>∃a kvs,H a=some (.dK kvs)∧t σ H λv H'=>∃o u,H' a=some (.frz o u)∧Q v (upd H' a u)
theorem q8L{e:Expr}{t:TE}(h:PE X e t):PE X e (qK3 t):=by(
intro pins s σ H Q I hZ
obtain⟨a,kvs,ha,q⟩:=hZ
have nf:=qIL I ha
refine thn (h pins s σ H _ I q) λu s' ⟨v,H',I',r,o,w,e,q⟩=>⟨v,_,I'.thaw nf e,r,q⟩)
theorem qFZ{a:Addr}{o:Obj}{kvs:List (Key×V)}{D:Addr}{H2:Hp}{g:TG}{tc:TT}{te:TE}{σ0:St}{Q:VK}(Pv:Nat→Hp→Prop)(h0:Pv 0 H2)(hl:∀i H,Pv i H→H a=some (.frz o (.dK kvs)))
 (hs:∀(i:Nat) kv H,kvs[i]?=some kv→Pv i H→g (kV kv.1) σ0 H λσ5 H5=>tc σ5 H5 λb H6=>if b=true then te σ5 H6 (λv H7=>∃vs,H7 D=some (.lst vs)∧vs.length<sizeLine∧Pv (i+1) (upd H7 D (.lst (vs++[v]))))else Pv (i+1) H6) (hd:∀H,Pv kvs.length H→Q (.ref D) H):
 ∃W:Nat→Nat→Hp→Prop,(∃m,W 0 m H2)∧∀i m H3,W i m H3→((Itd a o kvs).stop i H3∧Q (.ref D) H3)∨((Itd a o kvs).go i H3∧∃N:Hp→Prop,(∀H',N H'→∃m',m'<m∧W (i+1) m' H')∧∀x H4,(Itd a o kvs).yld i H3 x H4→g x σ0 H4 λσ5 H5=>tc σ5 H5 λb H6=>
   if b=true then te σ5 H6 (λv H7=>∃vs,H7 D=some (.lst vs)∧vs.length<sizeLine∧N (upd H7 D (.lst (vs++[v]))))else N H6):=by(
refine⟨λi m H=>m=kvs.length-i∧i≤kvs.length∧Pv i H,⟨kvs.length,by simp,mS _,h0⟩,?_⟩
rintro i m H ⟨rfl,hi,p⟩
have q:=hl i H p
by_cases hlt:i<kvs.length
·refine .inr ⟨⟨q,hlt⟩,Pv (i+1),λH' z=>⟨kvs.length-(i+1),by lia,rfl,by lia,z⟩,?_⟩;rintro v H' ⟨rfl,kv,hk,rfl⟩
 exact hs i kv _ hk p
obtain rfl:i=kvs.length:=by lia
exact .inl ⟨⟨q,kH _⟩,hd _ p⟩)
end
noncomputable def q58(v a:Addr):HO:=.ext λh=>h.IsItemsView v a
theorem qEK{P:Program}{w:World}{H:Hp}{h:Heap}{v a:Addr}(e:h.IsItemsView v a):jU P w H h v (q58 v a):=by obtain⟨o,e1,e2,e3⟩:=id e;exact⟨e,⟨_,e1⟩,λ_ _ ⟨o,a1,a2⟩ k=>⟨o,k _ a1,a2⟩⟩
theorem qEL{P:Program}{w:World}{H:Hp}{h:Heap}{v a:Addr}(ok:HOk P w H h)(e:H v=some (q58 v a)):h.IsItemsView v a:=(ok v _ e).1
noncomputable def qIM:V→List V→Hp→VK→Prop:=λx vs H Q=>∃a kvs,x=.ref a∧vs=[]∧H a=some (.dK kvs)∧∀v,H v=none→Q (.ref v) (upd H v (q58 v a))
theorem qEM{X:Cx}:MtR X "dict.items" qIM:=by(
intro pins s σ H x vs v us Q I rx rv hZ
obtain⟨a,kvs,ex,ev,ha,q⟩:=hZ
subst ex ev
cases rx
have hus:=rv.zero
subst hus
obtain⟨z,lo,ws,rel,dd⟩:=q3U I.hok ha
refine rZ pS dd.typeIs PySem.F.entry_dict_items (PySem.F.args_dict_items_1 _) (meets_dict_items (jA X.prog X.w) a lo) ⟨⟨ws,dd⟩,?_⟩
exact⟨.ref s.heap.objs.size,_,I.laid (t':=s.toks) (λb o e=>hX _ e) (kH _) (qEK ⟨_,k7 _ rfl,rfl,rfl⟩),rfl,q _ (I.hok.fresh (kH _))⟩)
theorem q6B:entryFor table "dict_itemiterator.__iter__"=some Builtin.«dict_keyiterator.__iter__»:=entryFor_alias (id':="dict_keyiterator.__iter__") (by kernel_rfl) (by first|decide+kernel|rfl|(unfold String.splitOn;simp+decide [String.splitOnAux])) (by decide+kernel) (by kernel_rfl)
noncomputable def Iti(a:Addr)(o:Obj)(kvs:List (Key×V)):It:=⟨λi H=>H a=some (.frz o (.dK kvs))∧i<kvs.length,λi H v H'=>∃T kv,v=.ref T∧H T=none∧H'=upd H T (.tup [kV kv.1,kv.2])∧kvs[i]?=some kv,λi H=>H a=some (.frz o (.dK kvs))∧kvs.length≤i⟩
theorem qB1{P:Program}{w:World}{K:PySem.W.Frag}{elts:List Expr}{x1}{pos:Pos}(a it:Addr)(o:Obj){kvs:List (Key×V)}{vs:List (Key×Value)}{ep:Nat}(rel:KV kvs vs)(hD:∀h:Heap,h.get? a=some o→h.DictAt (jA P w) a vs ep):
 Turn P w K (.Tuple elts x1 pos) (Iti a o kvs) [it] it (λi h=>∃k0 v0,IsItemIter h it a i vs.length ep k0 v0) where
mem:=by simp
obj:=λi h st b hb=>by
 have e:b=it:=by simpa using hb
 subst e;obtain⟨k0,v0,e⟩:=st;exact⟨_,e,λv z=>by cases z⟩
keep:=λi h h' st k=>let⟨k0,v0,e⟩:=st;⟨k0,v0,k it (by simp) _ e⟩
item:=by
 intro X hP hw hK hc i pins s σ H E I hf st hg;subst hP hw hK;obtain⟨ha,hi⟩:=hg;obtain⟨ho,_⟩:=I.hok a _ ha;have hl:=rel.length;have hi':i<vs.length:=by lia
 obtain⟨k0,v0,st⟩:=st;obtain⟨f0,f1,f2,f3,f4,f5⟩:=hf it (by simp);refine wpAny_pyNext_items_item (k:=vs[i].1) (v:=vs[i].2) st (hD _ ho) (hZ hi') λkey h' hk b1 b5 b6 b7=>?_;refine⟨_,rfl,wpAny_letOwnedTupleGo_items (s:={ s with heap:=h' }) b1 λh'' c1 c2=>?_⟩;have kk:∀b o,b∉[it]→s.heap.get? b=some o→h''.get? b=some o:=λb o hb e=>by have nb:b≠it:=λz=>hb (kJ.mpr z);exact c2.extBut _ _ nb (b7 b o nb e)
 have I1:Inv X pins σ H { s with heap:=h'' }:=I.turnedN (t':=s.toks) kk hf;have fr:H s.heap.objs.size=none:=I.hok.fresh (kH _);have yg:=I.young (a:=s.heap.objs.size) (wG (kH _));have nit:s.heap.objs.size≠it:=rW (kL st);have ek:=rL (λl=>l[i]?) rel.keys;simp only[kX,hZ hi,hZ hi',xN]at ek;have rk:RelV (kV kvs[i].1) key:=by rw[kI ek];exact qEC hk
 have rv:RelV kvs[i].2 vs[i].2:=by obtain⟨q,hq,z1,z2⟩:=Paired.at rel (hZ hi);rw[hZ hi']at hq;rw[kI hq];exact z2
 have I2:=I1.trackG (o:=.tup [kV kvs[i].1,kvs[i].2]) fr yg (rW I.lt) (λx' c' w q'=>by obtain⟨v,o',ho,_⟩:=I.cell x' c' w;exact absurd (kL ho) (by rw[q'];exact dE _)) ⟨by rw[gR,gD,gD,sF];lia,[key,vs[i].2],.cons rk (.cons rv .nil),⟨_,c2.extBut _ _ nit b5,rfl,_,rfl⟩⟩;refine⟨.ref s.heap.objs.size,_,I2,rfl,⟨_,kvs[i],rfl,fr,rfl,hZ hi⟩,⟨_,_,c1⟩,λb hb=>?_⟩;have e:b=it:=by simpa using hb
 subst e;rw[qD (d5 nit)];exact(hf b hb).1
done:=by intro X hP hw hK hc i pins s σ H E I hf st hg;subst hP hw hK;obtain⟨ha,hi⟩:=hg;obtain⟨ho,_⟩:=I.hok a _ ha;have hl:=rel.length;obtain⟨k0,v0,st⟩:=st;obtain⟨f0,f1,f2,f3,f4,f5⟩:=hf it (by simp);exact wpAny_pyNext_items_end (I.ok.hd hc) st (hD _ ho) (rF (by lia)) λh' eb=>⟨rfl,I.turned (t':=s.toks) (λb o hb e=>eb b o hb e) f0 f1 f3 f4 f5⟩
self:=λA i s Q E ⟨k0,v0,st⟩ h=>by have ty:s.TypeIs (.ref it) "dict_itemiterator":=⟨_,st,rfl⟩;refine wpAny_pyIter_slot ty wO (wpAny_call_entry wO ty q6B ?_ (PySem.F.args_dict_itemiterator_iter_1 _));show wpAny _ _ (ret (.ref it)) _ _ s;exact kZ ⟨_,rfl,"dict_itemiterator",_,ty,PySem.F.slot_dict_itemiterator_next.lookup,h⟩
section
variable{X:Cx}
noncomputable def iItm(td:TE):TI:=λσ H R=>td σ H λx H1=>∃v a kvs,x=.ref v∧H1 v=some (q58 v a)∧H1 a=some (.dK kvs)∧∀o,R (Iti a o kvs) (upd H1 a (.frz o (.dK kvs)))
theorem qIN{elts:List Expr}{x1}{pos:Pos}{d:Expr}{td:TE}(hd:PE X d td):PI X (.Tuple elts x1 pos) d (iItm td):=by(
intro pins s σ H R I h
refine thn (hd pins s σ H _ I h) λv s1 hZ=>?_
obtain⟨x,H1,I1,r1,q1⟩:=hZ
obtain⟨vw,a,kvs,e,hv,ha,q⟩:=q1
subst e
cases r1
obtain⟨z,lo,vs,rel,dd⟩:=q3U I1.hok ha
obtain⟨ep,hat⟩:=dd.dictAt
obtain⟨o,es,ho,hr⟩:=id hat
have I2:=I1.freeze ha ho
refine wpAny_pyIter_items (qEL I1.hok hv) hat ?_
refine⟨s1.heap.objs.size,[s1.heap.objs.size],_,_,_,rfl,I2.kept (t':=s1.toks) λb o e=>hX _ e,qB1 a _ o rel (λh' h=>⟨o,es,h,hr⟩),⟨_,_,k7 _ rfl⟩,λb hb=>?_,q o⟩
have e:b=s1.heap.objs.size:=by simpa using hb
subst e
exact I2.fpOk (kH _) (I2.hok.fresh (kH _)))
end
theorem qG0{a:Addr}{o:Obj}{kvs:List (Key×V)}{D:Addr}{H2:Hp}{g:TG}{tc:TT}{te:TE}{σ0:St}{R:Hp→Prop}(Pv:Nat→Hp→Prop)(h0:Pv 0 H2)(hl:∀i H,Pv i H→H a=some (.frz o (.dK kvs)))
 (hs:∀(i:Nat) kv T H,kvs[i]?=some kv→Pv i H→H T=none→g (.ref T) σ0 (upd H T (.tup [kV kv.1,kv.2])) λσ5 H5=>tc σ5 H5 λb H6=>if b=true then te σ5 H6 (λv H7=>∃vs,H7 D=some (.lst vs)∧vs.length<sizeLine∧Pv (i+1) (upd H7 D (.lst (vs++[v]))))else Pv (i+1) H6) (hd:∀H,Pv kvs.length H→R H):
 ∃W:Nat→Nat→Hp→Prop,(∃m,W 0 m H2)∧∀i m H3,W i m H3→((Iti a o kvs).stop i H3∧R H3)∨((Iti a o kvs).go i H3∧∃N:Hp→Prop,(∀H',N H'→∃m',m'<m∧W (i+1) m' H')∧∀x H4,(Iti a o kvs).yld i H3 x H4→g x σ0 H4 λσ5 H5=>tc σ5 H5 λb H6=>
   if b=true then te σ5 H6 (λv H7=>∃vs,H7 D=some (.lst vs)∧vs.length<sizeLine∧N (upd H7 D (.lst (vs++[v]))))else N H6):=by(
refine⟨λi m H=>m=kvs.length-i∧i≤kvs.length∧Pv i H,⟨kvs.length,by simp,mS _,h0⟩,?_⟩
rintro i m H ⟨rfl,hi,p⟩
have q:=hl i H p
by_cases hlt:i<kvs.length
·refine .inr ⟨⟨q,hlt⟩,Pv (i+1),λH' z=>⟨kvs.length-(i+1),by lia,rfl,by lia,z⟩,?_⟩;rintro v H' ⟨T,kv,rfl,nT,rfl,hk⟩
 exact hs i kv T _ hk p nT
obtain rfl:i=kvs.length:=by lia
exact .inl ⟨⟨q,kH _⟩,hd _ p⟩)
end L2
namespace L2
open PySem PySem.W PyProof.Rows
noncomputable def hT{α:Type}(c:Nat→Nat→Bool)(n:Nat):KasT α→(α→Prop)→Prop
| .ret a,Q=>Q a
| .ask i j k,Q=>i<n∧j<n∧hT c n (k (c i j)) Q
theorem uE{α:Type}{c:Nat→Nat→Bool}{n:Nat}{Q Q':α→Prop}(h:∀a,Q a→Q' a):∀t:KasT α,hT c n t Q→hT c n t Q'
| .ret a,q=>h a q
| .ask i j k,q=>⟨q.1,q.2.1,uE h (k (c i j)) q.2.2⟩
theorem q2J{α β:Type}{c:Nat→Nat→Bool}{n:Nat}{f:α→KasT β}{Q:β→Prop}:∀t:KasT α,hT c n t (λa=>hT c n (f a) Q)→hT c n (t.bind f) Q
| .ret a,q=>q
| .ask i j k,q=>⟨q.1,q.2.1,q2J (k (c i j)) q.2.2⟩
theorem qH3{α:Type}{c:Nat→Nat→Bool}{n:Nat}{cmp:Nat→Nat→(Bool→Shared→Prop)→Shared→Prop}{G:α→Shared→Prop}{s:Shared}(hc:∀i j C,i<n→j<n→C (c i j) s→cmp i j C s):
 ∀t:KasT α,hT c n t (λa=>G a s)→t.kasWp cmp G s
| .ret a,q=>q
| .ask i j k,q=>hc i j _ q.1 q.2.1 (qH3 hc (k (c i j)) q.2.2)
section
variable{r:Nat→Int}{n:Nat}
noncomputable abbrev rc(r:Nat→Int):Nat→Nat→Bool:=λi j=>decide (r i<r j)
noncomputable abbrev kk(r:Nat→Int)(p:Array Nat)(i:Nat):Int:=r (p.getD i 0)
noncomputable def Srt(r:Nat→Int)(p:Array Nat)(m:Nat):Prop:=∀i j,i≤j→j<m→kk r p i≤kk r p j
noncomputable def Dec(r:Nat→Int)(p:Array Nat)(m:Nat):Prop:=∀i j,i≤j→j<m→kk r p j≤kk r p i
noncomputable def Gp(n:Nat)(p:Array Nat):Prop:=p.Perm (List.range n).toArray
theorem Gp.size{p:Array Nat}(g:Gp n p):p.size=n:=by have:=g.size_eq;simpa using this
theorem Gp.lt{p:Array Nat}(g:Gp n p){i:Nat}(h:i<n):p.getD i 0<n:=by(
have hi:i<p.size:=by rw[g.size];exact h
have e:p.getD i 0=p[i]:=by simp[Array.getD,hi]
have:p[i]∈(List.range n).toArray:=g.mem_iff.mp (Array.getElem_mem hi)
rw[e]
simpa using this)
theorem Srt.more{p:Array Nat}{m:Nat}(h:Srt r p m)(e:kk r p (m-1)≤kk r p m):Srt r p (m+1):=λi j hij hj=>by(
by_cases z:j<m
·exact h i j hij z
have ej:j=m:=by lia
subst ej
by_cases z2:i=j
·subst z2;exact wV _
exact lZ (h i (j-1) (by lia) (by lia)) e)
theorem Dec.more{p:Array Nat}{m:Nat}(h:Dec r p m)(e:kk r p m≤kk r p (m-1)):Dec r p (m+1):=λi j hij hj=>by(
by_cases z:j<m
·exact h i j hij z
have ej:j=m:=by lia
subst ej
by_cases z2:i=j
·subst z2;exact wV _
exact lZ e (h i (j-1) (by lia) (by lia)))
theorem q3Y{p q:Array Nat}{i j:Nat}(h:p[i]?=q[j]?):p.getD i 0=q.getD j 0:=by rw[c8,c8,h]
theorem qB2{p:Array Nat}{i j:Nat}(hj:j≤p.size)(k:Nat):(kas_rev p i j).getD k 0=if i≤k∧k<j then p.getD (i+j-1-k) 0 else p.getD k 0:=by(
unfold kas_rev
by_cases h:i≤k∧k<j
·rw[kG h];exact q3Y (by rw[lC hj,kG h])
rw[kE h]
exact q3Y (by rw[lC hj,kE h]))
theorem Gp.rev{p:Array Nat}(g:Gp n p)(i j:Nat):Gp n (kas_rev p i j):=(mirror_perm _ _ _ _).trans g
theorem qB3{p:Array Nat}(g:Gp n p):∀(f m:Nat),1≤m→m+f≤n→Srt r p m→hT (rc r) n (kas_asc p f m) (λe=>m≤e∧e≤m+f∧Srt r p e∧(e<m+f→kk r p e<kk r p (e-1)))
|0,m,h1,hz,h=>⟨kH _,kH _,h,λz=>absurd z (dE _)⟩
|f+1,m,h1,hz,h=>by
 refine⟨g.lt (by lia),g.lt (by lia),?_⟩;by_cases e:r (p.getD m 0)<r (p.getD (m-1) 0)
 ·rw[show rc r (p.getD m 0) (p.getD (m-1) 0)=true from hI e];dsimp only;rw[kG rfl];exact⟨kH _,by lia,h,λ_=>e⟩
 rw[show rc r (p.getD m 0) (p.getD (m-1) 0)=false from hG e];dsimp only;rw[kE kN];refine uE ?_ _ (qB3 g f (m+1) (by lia) (by lia) (h.more (by show r _≤r _;lia)));rintro a ⟨a1,a2,a3,a4⟩
 exact⟨by lia,by lia,a3,λz=>a4 (by lia)⟩
noncomputable def Eql(r:Nat→Int)(p:Array Nat)(a b:Nat):Prop:=∀k,a≤k→k<b→kk r p k=kk r p (b-1)
theorem q8M{p:Array Nat}{i j:Nat}(hj:j≤p.size)(h:Eql r p i j)(k:Nat):kk r (kas_rev p i j) k=kk r p k:=by(
show r _=r _
rw[qB2 hj]
by_cases z:i≤k∧k<j
·rw[kG z];exact(h _ (by lia) (by lia)).trans (h k z.1 z.2).symm
rw[kE z])
theorem q5S:∀(f:Nat) (p:Array Nat) (m q:Nat),Gp n p→q+1≤m→m+f≤n→Dec r p m→Eql r p (m-(q+1)) m→hT (rc r) n (kas_desc f p m q) (λz=>Gp n z.1∧m≤z.2.1∧z.2.1≤m+f∧Dec r z.1 z.2.1∧z.2.2+1≤z.2.1∧Eql r z.1 (z.2.1-(z.2.2+1)) z.2.1)
|0,p,m,q,g,hq,hz,d,e=>⟨g,kH _,kH _,d,hq,e⟩
|f+1,p,m,q,g,hq,hz,d,e=>by
 have hs:=g.size;refine⟨g.lt (by lia),g.lt (by lia),?_⟩;by_cases c:r (p.getD m 0)<r (p.getD (m-1) 0)
 ·rw[show rc r (p.getD m 0) (p.getD (m-1) 0)=true from hI c];dsimp only;rw[kG rfl];by_cases q0:q>0
  ·rw[kG q0];have kq:=q8M (r:=r) (p:=p) (i:=m-(q+1)) (j:=m) (by lia) e;have d1:Dec r (kas_rev p (m-(q+1)) m) (m+1):=λi j hij hj=>by rw[kq,kq];exact d.more (c9 c) i j hij hj
   refine uE ?_ _ (q5S f _ (m+1) 0 (g.rev _ _) (by lia) (by lia) d1 λk h1 h2=>by rw[show k=m by lia];rfl);rintro a ⟨a1,a2,a3,a4⟩
   exact⟨a1,by lia,by lia,a4⟩
  rw[kE q0];refine uE ?_ _ (q5S f p (m+1) 0 g (by lia) (by lia) (d.more (c9 c)) λk h1 h2=>by rw[show k=m by lia];rfl);rintro a ⟨a1,a2,a3,a4⟩
  exact⟨a1,by lia,by lia,a4⟩
 rw[show rc r (p.getD m 0) (p.getD (m-1) 0)=false from hG c];dsimp only;rw[kE kN];refine⟨g.lt (by lia),g.lt (by lia),?_⟩;by_cases c2:r (p.getD (m-1) 0)<r (p.getD m 0)
 ·rw[show rc r (p.getD (m-1) 0) (p.getD m 0)=true from hI c2];dsimp only;rw[kG rfl];exact⟨g,kH _,Nat.le_add_right _ _,d,hq,e⟩
 rw[show rc r (p.getD (m-1) 0) (p.getD m 0)=false from hG c2];dsimp only;rw[kE kN];have ee:r (p.getD m 0)=r (p.getD (m-1) 0):=by lia
 refine uE ?_ _ (q5S f p (m+1) (q+1) g (by lia) (by lia) (d.more (Int.le_of_eq ee)) λk h1 h2=>?_)
 ·rintro a ⟨a1,a2,a3,a4⟩
  exact⟨a1,by lia,by lia,a4⟩
 show r (p.getD k 0)=r (p.getD m 0);by_cases z:k=m
 ·rw[z]
 rw[ee];exact e k (by lia) (by lia)
theorem qC5{p:Array Nat}{m:Nat}(g:Gp n p)(h1:1≤m)(hm:m≤n)(d:Dec r p m):hT (rc r) n (kas_tail3 m n p) (λz=>Gp n z.2∧1≤z.1∧z.1≤n∧Srt r z.2 z.1):=by(
have hs:=g.size
have sr:Srt r (kas_rev p 0 m) m:=λi j hij hj=>by show r _≤r _;rw[qB2 (by lia),qB2 (by lia),kG ⟨mS _,by lia⟩,kG ⟨mS _,hj⟩];exact d _ _ (by lia) (by lia)
refine q2J _ (uE ?_ _ (qB3 (g.rev 0 m) (n-m) m h1 (by lia) sr))
rintro a ⟨a1,a2,a3,_⟩
exact⟨g.rev _ _,by lia,by lia,a3⟩)
theorem qC6{p:Array Nat}{m:Nat}(g:Gp n p)(hm:m+1≤n)(d:Dec r p (m+1)):hT (rc r) n (kas_descPart m n p) (λz=>Gp n z.2∧1≤z.1∧z.1≤n∧Srt r z.2 z.1):=by(
refine q2J _ (uE ?_ _ (q5S (n-(m+1)) p (m+1) 0 g (by lia) (by lia) d λk h1 h2=>by rw[show k=m by lia];rfl))
rintro⟨p',m',q'⟩ ⟨a1,a2,a3,a4,a5,a6⟩
dsimp only at a1 a2 a3 a4 a5 a6 ⊢
have hs:=a1.size
by_cases q0:q'>0
·rw[kG q0];have kq:=q8M (r:=r) (p:=p') (i:=m'-(q'+1)) (j:=m') (by lia) a6;exact qC5 (a1.rev _ _) (by lia) (by lia) λi j hij hj=>by rw[kq,kq];exact a4 i j hij hj
rw[kE q0]
exact qC5 a1 (by lia) (by lia) a4)
theorem qEN{p:Array Nat}(g:Gp n p)(h1:1≤n):hT (rc r) n (kas_count n p) (λz=>Gp n z.2∧1≤z.1∧z.1≤n∧Srt r z.2 z.1):=by(
have hs:=g.size
have s1:Srt r p 1:=λi j hij hj=>by rw[show i=j by lia];exact wV _
refine q2J _ (uE ?_ _ (qB3 g (n-1) 1 (kH _) (by lia) s1))
rintro m ⟨a1,a2,a3,a4⟩
try dsimp only
by_cases e:m=n
·rw[kG (by rw[rX];exact e)];exact⟨g,a1,by lia,a3⟩
rw[kE (by rw[rX];exact e)]
have lt:=a4 (by lia)
by_cases m1:m>1
·rw[kG m1];refine⟨g.lt (by lia),g.lt (by lia),?_⟩;by_cases c:r (p.getD 0 0)<r (p.getD (m-1) 0)
 ·rw[show rc r (p.getD 0 0) (p.getD (m-1) 0)=true from hI c];dsimp only;rw[kG rfl];exact⟨g,a1,by lia,a3⟩
 rw[show rc r (p.getD 0 0) (p.getD (m-1) 0)=false from hG c];dsimp only;rw[kE kN];have eq:Eql r p 0 m:=λk _ hk=>by have z1:=a3 0 k (mS _) hk;have z2:=a3 k (m-1) (by lia) (by lia);show r _=r _;have z1:r (p.getD 0 0)≤r (p.getD k 0):=z1;have z2:r (p.getD k 0)≤r (p.getD (m-1) 0):=z2;lia
 have kq:=q8M (r:=r) (p:=p) (i:=0) (j:=m) (by lia) eq;refine qC6 (g.rev _ _) (by lia) λi j hij hj=>?_;rw[kq,kq];refine Dec.more (m:=m) (λi j hij hj=>?_) (c9 lt) i j hij hj;rw[eq i (mS _) (by lia),eq j (mS _) hj];exact wV _
rw[kE m1]
have:m=1:=by lia
subst this
refine qC6 g (by lia) (Dec.more (λi j hij hj=>?_) (c9 lt))
rw[show i=j by lia]
exact wV _)
theorem q6C{p:Array Nat}(g:Gp n p){k:Nat}(hk:k<n)(sr:Srt r p k):∀(f l u:Nat),u-l≤f→l≤u→u≤k→(∀i,i<l→kk r p i≤kk r p k)→(∀i,u≤i→i<k→kk r p k<kk r p i)→hT (rc r) n (kas_place p k f l u) (λm=>m≤k∧(∀i,i<m→kk r p i≤kk r p k)∧∀i,m≤i→i<k→kk r p k<kk r p i)
|0,l,u,hf,hl,hu,a,b=>⟨by lia,a,λi h1 h2=>b i (by lia) h2⟩
|f+1,l,u,hf,hl,hu,a,b=>by
 unfold kas_place;by_cases e:l≥u
 ·rw[kG e];exact⟨by lia,a,λi h1 h2=>b i (by lia) h2⟩
 rw[kE e];refine⟨g.lt hk,g.lt (by lia),?_⟩;by_cases c:r (p.getD k 0)<r (p.getD ((l+u) / 2) 0)
 ·rw[show rc r (p.getD k 0) (p.getD ((l+u) / 2) 0)=true from hI c];dsimp only;rw[kG rfl];refine q6C g hk sr f l ((l+u) / 2) (by lia) (by lia) (by lia) a λi h1 h2=>?_;exact Int.lt_of_lt_of_le c (sr _ _ h1 h2)
 rw[show rc r (p.getD k 0) (p.getD ((l+u) / 2) 0)=false from hG c];dsimp only;rw[kE kN];refine q6C g hk sr f ((l+u) / 2+1) u (by lia) (by lia) hu (λi h1=>?_) b;exact lZ (sr i ((l+u) / 2) (by lia) (by lia)) (by show r _≤r _;lia)
theorem qIO{p:Array Nat}{k l:Nat}(hk:k<p.size)(hl:l≤k)(i:Nat):(bubble p k (k-l)).getD i 0=if i=l then p.getD k 0 else if l<i∧i≤k then p.getD (i-1) 0 else p.getD i 0:=by(
have e:=getElem?_bubble hk (k-l) (by lia) i
rw[show k-(k-l)=l by lia]at e
by_cases h1:i=l
·rw[kG h1]at e ⊢;exact q3Y e
rw[kE h1]at e ⊢
by_cases h2:l<i∧i≤k
·rw[kG h2]at e ⊢;exact q3Y e
rw[kE h2]at e ⊢
exact q3Y e)
theorem qEO:∀(f:Nat) (p:Array Nat) (k:Nat),Gp n p→k+f≤n→Srt r p k→hT (rc r) n (kas_bin f p k) (λq=>Gp n q∧Srt r q (k+f))
|0,p,k,g,hz,sr=>⟨g,sr⟩
|f+1,p,k,g,hz,sr=>by
 have hs:=g.size;refine q2J _ (uE ?_ _ (q6C g (show k<n by lia) sr k 0 k (by lia) (mS _) (kH _) (λi h=>absurd h (Nat.not_lt_zero _)) λi h1 h2=>absurd h2 (by lia)));rintro l ⟨a1,a2,a3⟩
 have at':=qIO (p:=p) (k:=k) (l:=l) (by lia) a1;refine uE ?_ _ (qEO f _ (k+1) ((bubble_perm _ _ _).trans g) (by lia) λi j hij hj=>?_)
 ·rintro q ⟨b1,b2⟩
  exact⟨b1,by rw[show k+(f+1)=k+1+f by lia];exact b2⟩
 show r _≤r _;rw[at',at'];by_cases i1:i=l
 ·rw[kG i1];by_cases j1:j=l
  ·rw[kG j1];exact wV _
  rw[kE j1,kG ⟨by lia,by lia⟩];exact c9 (a3 (j-1) (by lia) (by lia))
 rw[kE i1];by_cases i2:l<i∧i≤k
 ·rw[kG i2,kE (by lia),kG ⟨by lia,by lia⟩];exact sr _ _ (by lia) (by lia)
 rw[kE i2];by_cases j1:j=l
 ·rw[kG j1];exact a2 i (by lia)
 rw[kE j1];by_cases j2:l<j∧j≤k
 ·rw[kG j2];exact sr _ _ (by lia) (by lia)
 rw[kE j2];exact sr _ _ hij (by lia)
theorem qG1(h1:1≤n):hT (rc r) n (kas_sort n) (λp=>Gp n p∧Srt r p n):=by(
refine q2J _ (uE ?_ _ (qEN (p:=(List.range n).toArray) (Array.Perm.refl _) h1))
rintro⟨m,p⟩ ⟨a1,a2,a3,a4⟩
dsimp only at a1 a2 a3 a4 ⊢
by_cases e:m<n
·rw[kG e];refine uE ?_ _ (qEO (n-max m 1) p (max m 1) a1 (by lia) (by rw[Nat.max_eq_left a2];exact a4));rintro q ⟨b1,b2⟩
 exact⟨b1,by rw[show max m 1+(n-max m 1)=n by lia]at b2;exact b2⟩
rw[kE e]
have:m=n:=by lia
subst this
exact⟨a1,a4⟩)
end
end L2
namespace L2
open PySem PySem.W PySem.Spec PyProof.Rows
section
variable{prog:Program}{w:World}{A:Around}{E:Value→Shared→Prop}{s:Shared}
structure RkAt(prog:Program)(w:World)(A:Around)(vs:List Value)(κ:SortKind)(r:Nat→Int)(s:Shared):Prop where
kind:∀(Q:SortKind→Shared→Prop) (E:Value→Shared→Prop),Q κ s→wpAny (model prog w) A (keyKind' vs.toArray) Q E s
lt:∀i j (C:Bool→Shared→Prop),i<vs.length→j<vs.length→C (decide (r i<r j)) s→wpAny (model prog w) A (keyLt' κ (vs.getD i Value.none) (vs.getD j Value.none)) C (λ_ _=>False) s
end
noncomputable def lx:List Int→List Int→Bool
|a::r,b::s=>if a=b then lx r s else decide (a<b)
| [],_::_=>true
|_,[]=>false
theorem qB4:∀a:List Int,lx a a=false
| []=>rfl
|a::r=>by show(if a=a then lx r r else decide (a<a))=false;rw[kG rfl];exact qB4 r
theorem q1Q:∀a b c:List Int,lx a b=true→lx b c=true→lx a c=true
| [],[],c,h,_=>by cases h
| [],_::_,[],_,h=>by cases h
| [],_::_,_::_,_,_=>rfl
|_::_,[],c,h,_=>by cases h
|_::_,_::_,[],_,h=>by cases h
|a::r,b::s,c::t,h,g=>by
 have h:(if a=b then lx r s else decide (a<b))=true:=h;have g:(if b=c then lx s t else decide (b<c))=true:=g;show(if a=c then lx r t else decide (a<c))=true;by_cases e1:a=b
 ·subst e1;rw[kG rfl]at h;by_cases e2:a=c
  ·subst e2;rw[kG rfl]at g ⊢;exact q1Q r s t h g
  rw[kE e2]at g ⊢;exact g
 rw[kE e1,kR]at h;by_cases e2:b=c
 ·subst e2;rw[kE e1];exact hI h
 rw[kE e2,kR]at g;rw[kE (by lia)];exact hI (by lia)
theorem q8N:∀a b:List Int,lx a b=false→lx b a=false→a=b
| [],[],_,_=>rfl
| [],_::_,h,_=>by cases h
|_::_,[],_,h=>by cases h
|a::r,b::s,h,g=>by
 have h:(if a=b then lx r s else decide (a<b))=false:=h;have g:(if b=a then lx s r else decide (b<a))=false:=g;by_cases e:a=b
 ·subst e;rw[kG rfl]at h g;rw[q8N r s h g]
 rw[kE e,decide_eq_false_iff_not]at h;rw[kE (λz=>e z.symm),decide_eq_false_iff_not]at g;lia
theorem q9X{α:Type}{p q:α→Bool}:∀{l:List α} {x:α},(∀y∈l,p y=true→q y=true)→x∈l→q x=true→p x=false→l.countP p<l.countP q
|a::l,x,h,hx,h1,h2=>by
 have ml:l.countP p≤l.countP q:=sS λy hy=>h y (kF _ hy);rw[xG,xG];rcases kW.mp hx with e|hx
 ·subst e;rw[h1,h2,kE kN,kG rfl];lia
 have ih:=q9X (λy hy=>h y (kF _ hy)) hx h1 h2;have ha:=h a (kO ..);cases pa:p a with
 |false=>rw[kE kN];lia
 |true=>rw[ha pa];lia
noncomputable def rkOf(ks:List (List Int))(k:List Int):Int:=((ks.countP λy=>lx y k:Nat):Int)
theorem qEP{ks:List (List Int)}{k k':List Int}(h:k∈ks)(h':k'∈ks):rkOf ks k<rkOf ks k'↔lx k k'=true:=by(
constructor
·intro lt;cases e:lx k k' with
 |true=>rfl
 |false=>
  have:ks.countP (λy=>lx y k')≤ks.countP (λy=>lx y k):=sS λy _ hy=>by
   cases g:lx k' k with
   |true=>exact q1Q _ _ _ hy g
   |false=>rw[q8N k k' e g];exact hy
  unfold rkOf at lt;lia
intro e
have:=q9X (p:=λy=>lx y k) (q:=λy=>lx y k') (l:=ks) (x:=k) (λy _ hy=>q1Q _ _ _ hy e) h e (qB4 k)
unfold rkOf
lia)
section
variable{prog:Program}{w:World}{A:Around}{E:Value→Shared→Prop}{s:Shared}
theorem qG2{b:Bool}{x y:Int}{t u:Tok}{Q:Bool→Shared→Prop}(h:Q (decide (x<y)) s):wpAny (model prog w) A (oneLt' b (.int x t) (.int y u)) Q E s:=by(
cases b with
|true=>have z:=kat_lt_int (prog:=prog) (w:=w) (A:=A) (E:=E) (t:=t) (u:=u) h;rw[keyLt'_oneType]at z;exact z
|false=>refine kat_one _ _ ?_;exact lt_int h)
theorem q9Y{b:Bool}{Q:Bool→Shared→Prop}:∀{ns ms:List Int} {us vs:List Value} (i:Nat),IntsAre us ns→IntsAre vs ms→ns.length=ms.length→Q (lx ns ms) s→KatLex prog w A b false Q (us.zip vs) i s
| [],[],_,_,i,.nil,.nil,_,h=>h
|n::ns,m::ms,_,_,i,.cons _ t hn,.cons _ u hm,hl,h=>by
 refine kat_cons (wpAny_eqBool_int ?_);have h:Q (if n=m then lx ns ms else decide (n<m)) s:=h;by_cases e:n=m
 ·rw[kG e]at h;rw[show(n==m)=true by rw[rX];exact e];exact kat_yes (q9Y (i+1) hn hm (by simpa using hl) h)
 rw[kE e]at h;rw[show(n==m)=false by rw[dZ];exact e];exact kat_no (qG2 h)
| [],_::_,_,_,_,_,_,hl,_=>by simp at hl
|_::_,[],_,_,_,_,_,hl,_=>by simp at hl
noncomputable def IsTI(h:Heap)(v:Value)(k:List Int):Prop:=∃a us,v=.ref a∧h.IsTuple a us.toArray∧IntsAre us k
theorem qC7{h:Heap}:∀{vs:List Value} {ks:List (List Int)},Paired (IsTI h) vs ks→(∀k∈ks,0<k.length)→∃fs,KatTups h vs fs∧fs.length=ks.length∧∀v∈fs,∃i t,v=.int i t
| [],[],.nil,_=>⟨[],trivial,rfl,λv hv=>by cases hv⟩
|v::vs,k::ks,.cons x t,hp=>by
 obtain⟨fs,r,hl,hi⟩:=qC7 t λk hk=>hp k (kF _ hk);obtain⟨a,us,rfl,⟨o,ho,hc,n,hd⟩,iu⟩:=x;have h0:=hp k (kO ..);cases iu with
 |nil=>simp at h0
 |cons i t0 hr=>
  refine⟨.int i t0::fs,KatTups.cons ho hc hd (by simp) r,by simp[hl],λv hv=>?_⟩;rcases kW.mp hv with rfl|hv
  ·exact⟨i,t0,rfl⟩
  exact hi v hv
theorem qG3{vs:List Value}{ks:List (List Int)}{m:Nat}(h:Paired (IsTI s.heap) vs ks)(hw:∀k∈ks,k.length=m)(hm:0<m)(h2:2≤vs.length):RkAt prog w A vs (tuples' true) (λi=>rkOf ks (ks.getD i [])) s:=by(
have hl:=h.len
constructor
·intro Q E' q;obtain⟨fs,t,e,hi⟩:=qC7 h λk hk=>by rw[hw k hk];exact hm
 exact kat_kind (T:=Value.type "int") t (by lia) (λv hv=>by obtain⟨i,t0,rfl⟩:=hi v hv;exact .now) rfl q
intro i j C hi hj c
have e1:vs[i]?=some (vs.getD i Value.none):=by rw[hZ hi];simp[hi]
have e2:vs[j]?=some (vs.getD j Value.none):=by rw[hZ hj];simp[hj]
obtain⟨k1,g1,a1,us1,q1,⟨o1,ho1,_,n1,d1⟩,i1⟩:=Paired.at h e1
obtain⟨k2,g2,a2,us2,q2,⟨o2,ho2,_,n2,d2⟩,i2⟩:=Paired.at h e2
have m1:k1∈ks:=mT g1
have m2:k2∈ks:=mT g2
have z1:ks.getD i []=k1:=by rw[kQ,g1];rfl
have z2:ks.getD j []=k2:=by rw[kQ,g2];rfl
have ll:k1.length=k2.length:=by rw[hw _ m1,hw _ m2]
have c:C (lx k1 k2) s:=by
 have y:decide (rkOf ks (ks.getD i [])<rkOf ks (ks.getD j []))=lx k1 k2:=by rw[z1,z2,wB,kR];exact qEP m1 m2
 rw[←y];exact c
rw[q1,q2]
refine kat_lt ho1 d1 ho2 d2 ?_
have f:decide (us1.toArray.size<us2.toArray.size)=false:=by rw[kY,kY,i1.length,i2.length,ll];exact hG (dE _)
rw[f]
exact q9Y 0 i1 i2 ll c)
end
section
variable{X:Cx}
noncomputable def TupI(K:PySem.W.Frag)(H:Hp)(v:V)(k:List Int):Prop:=∃a,v=.ref a∧SqT K H a (k.map V.int)
theorem qC8{pins:List (Addr×Obj)}{σ:St}{H:Hp}{s:Shared}(I:Inv X pins σ H s):∀{xs:List V} {us:List Value} {ks:List (List Int)},Vals xs us→Paired (TupI X.K H) xs ks→Paired (IsTI s.heap) us ks
| [],_,_,.nil,.nil=>.nil
|x::xs,u::us,_,.cons r t,.cons ⟨a,e,h⟩ y=>by subst e;obtain rfl:u=Value.ref a:=r;obtain⟨its,rv,p,_⟩:=I.tuple h;exact .cons ⟨a,its,rfl,p,q3X rv⟩ (qC8 I t y)
theorem q82{xs:List V}{us:List Value}(r:Vals xs us):∀{q:List Nat},(∀i∈q,i<xs.length)→Vals (q.map λi=>xs.getD i .non) (q.map λi=>us.getD i Value.none)
| [],_=>.nil
|i::q,h=>by have hi:=h i (kO ..);have hl:=r.length;refine .cons ?_ (q82 r λj hj=>h j (kF _ hj));obtain⟨x,e,z⟩:=r.atN (j:=i) (by lia);show RelV (xs.getD i .non) (us.getD i Value.none);rw[kQ,e,kQ,hZ (by lia)];exact z
end
section
variable{X:Cx}{pins:List (Addr×Obj)}{σ:St}
noncomputable def TupD(H:Hp)(v:V)(k:List Int):Prop:=∃a,v=.ref a∧H a=some (.tup (k.map V.int))
theorem TupD.i{K:PySem.W.Frag}{H:Hp}{v:V}{k:List Int}(h:TupD H v k):TupI K H v k:=let⟨a,e,z⟩:=h;⟨a,e,SqT.of z⟩
theorem TupD.same{H H':Hp}{v:V}{k:List Int}(h:TupD H v k)(s:Same H H'):TupD H' v k:=let⟨a,e,z⟩:=h;⟨a,e,s _ _ z⟩
noncomputable def dI(ks:List (Int×Int)):List (Key×V):=ks.map λp=>((.inl p.1:Key),V.int p.2)
theorem vK:∀{ks:List (Int×Int)} {n m:Int},(ks.map (·.1)).Nodup→(n,m)∈ks→valV (dI ks) (.inl n:Key)=some (.int m)
|p::ks,n,m,nd,h=>by
 obtain⟨n1,n2⟩:=gL.mp nd;show valV (((.inl p.1:Key),V.int p.2)::dI ks) (.inl n)=_;rcases kW.mp h with rfl|h
 ·exact vO rfl
 have ne:p.1≠n:=λe=>n1 (by show p.1∈_;rw[e];exact List.mem_map_of_mem (f:=λx:Int×Int=>x.1) h);rw[v4 (λe=>ne (pF e))];exact vK n2 h
theorem zU:∀{ks:List (Int×Int)} {n:Int},n∉ks.map (·.1)→valV (dI ks) (.inl n:Key)=none
| [],n,_=>rfl
|p::ks,n,h=>by
 show valV (((.inl p.1:Key),V.int p.2)::dI ks) (.inl n)=_;have h':n≠p.1∧n∉ks.map (·.1):=by simpa using h
 rw[v4 (λe=>h'.1 (pF e).symm)];exact zU h'.2
end
end L2
namespace W1
theorem zV{α:Type}(l:List α)(i j:Nat)(x d:α):(l.set i x).getD j d=if i=j∧i<l.length then x else l.getD j d:=by(
rw[kQ,List.getElem?_set,kQ]
by_cases h:i=j
·subst h;rw[kG rfl];by_cases h2:i<l.length
 ·rw[kG h2,kG ⟨rfl,h2⟩];rfl
 rw[kE h2,kE (λz=>h2 z.2),rF (by lia)]
rw[kE h,kE (λz=>h z.1)])
theorem q8O{P b j:Nat}(h:j<P):(b*P+j) / P=b:=by rw[cA,Nat.mul_add_div (by lia),Nat.div_eq_of_lt h,l7]
theorem qIP{P p:Nat}(h:0<P):p=p / P*P+p%P∧p%P<P:=⟨by rw[cA];exact(Nat.div_add_mod p P).symm,Nat.mod_lt _ h⟩
theorem q0X{α:Type}[DecidableEq α]:∀{l m:List α},l.Nodup→m.Nodup→(∀x,x∈l↔x∈m)→l.Perm m
| [],m,_,_,h=>by
 cases m with
 |nil=>exact .nil
 |cons a m=>exact absurd ((h a).mpr kO) (by simp)
|a::l,m,h1,h2,h=>by
 have ha:=(h a).mp kO;obtain⟨n1,n2⟩:=gL.mp h1;refine List.Perm.trans (List.Perm.cons a (q0X n2 (h2.erase a) λx=>?_)) (List.perm_cons_erase ha).symm;rw[List.Nodup.mem_erase_iff h2];constructor
 ·intro hx;exact⟨λe=>n1 (e▸hx),(h x).mp (kF _ hx)⟩
 rintro⟨ne,hx⟩
 exact(kW.mp ((h x).mpr hx)).resolve_left ne
theorem qC9{α:Type}[DecidableEq α]:∀{l m:List α},l.Nodup→(∀x∈l,x∈m)→l.length≤m.length
| [],_,_,_=>mS _
|a::l,m,h1,h=>by obtain⟨n1,n2⟩:=gL.mp h1;have ha:=h a kO;have:=qC9 (m:=m.erase a) n2 λx hx=>(List.mem_erase_of_ne (show x≠a from λe=>n1 (e▸hx))).mpr (h x (kF _ hx));rw[List.length_erase_of_mem ha]at this;have h0:=List.length_pos_of_mem ha;rw[gD];lia
noncomputable abbrev Mp:=List (Int×Int)
noncomputable def yJ(W:Mp)(n:Int):Mp:=W.filter λq=>decide (q.1≠n)
noncomputable def putW(W:Mp)(n p:Int):Mp:=if(W.any λq=>decide (q.1=n))=true then W.map (λq=>if q.1=n then(q.1,p)else q)else W++[(n,p)]
theorem jG{W:Mp}{n:Int}{q:Int×Int}:q∈yJ W n↔q∈W∧q.1≠n:=by unfold yJ;rw[mQ,kR]
theorem q3Z{W:Mp}{n:Int}(h:(W.map (·.1)).Nodup):((yJ W n).map (·.1)).Nodup:=(h.sublist ((g7 ..).map _))
theorem vS{W:Mp}{n p:Int}(h:(W.map (·.1)).Nodup){q:Int×Int}:q∈putW W n p↔q=(n,p)∨q∈yJ W n:=by(
unfold putW
by_cases e:(W.any λq=>decide (q.1=n))=true
·rw[kG e,kP];obtain⟨r,hr,er⟩:=rT.mp e;have er:r.1=n:=gQ er;constructor
 ·rintro⟨x,hx,rfl⟩
  by_cases ex:x.1=n
  ·rw[kG ex];exact .inl (by rw[ex])
  rw[kE ex];exact .inr (jG.mpr ⟨hx,ex⟩)
 rintro(rfl|h2)
 ·exact⟨r,hr,by rw[kG er,er]⟩
 obtain⟨a,b⟩:=jG.mp h2;exact⟨q,a,kE b⟩
rw[kE e,mP,kJ]
have no:∀x∈W,x.1≠n:=λx hx z=>e (rT.mpr ⟨x,hx,hI z⟩)
constructor
·rintro(h1|h1)
 ·exact .inr (jG.mpr ⟨h1,no _ h1⟩)
 exact .inl h1
rintro(h1|h1)
·exact .inr h1
exact .inl (jG.mp h1).1)
theorem q4M{W:Mp}{n p:Int}(h:(W.map (·.1)).Nodup):((putW W n p).map (·.1)).Nodup:=by(
unfold putW
by_cases e:(W.any λq=>decide (q.1=n))=true
·rw[kG e,dU];have:(λx:Int×Int=>x.1) ∘ (λq:Int×Int=>if q.1=n then(q.1,p)else q)=λx=>x.1:=by funext x;show(if x.1=n then(x.1,p)else x).1=x.1;split<;>rfl
 rw[this];exact h
rw[kE e,mB]
refine gA.mpr ⟨h,by simp,λa ha b hb z=>e ?_⟩
obtain⟨x,hx,rfl⟩:=kP.mp ha
have hb:b=n:=by simpa using hb
exact rT.mpr ⟨x,hx,hI (by rw[z,hb])⟩)
theorem qG4{W:Mp}{n:Int}(h:∀q∈W,q.1≠n):yJ W n=W:=rO.mpr λq hq=>hI (h q hq)
structure BM where
P:Nat
B:Nat
ns:List Int
W:Mp
V:Mp
nx:Int
bs:List (Option Int)
ss:List Int
lv:List Int
fi:List Int
bo:List Int
namespace BM
variable{m:BM}
noncomputable def lvF(P:Nat)(V:Mp)(lv:List Int)(n:Int):List Int:=match V.find? λq=>decide (q.1=n)with
|some q=>lv.set (q.2 / (P:Int)).toNat (lv.getD (q.2 / (P:Int)).toNat 0-1)
|none=>lv
end BM
end W1
namespace L2
open PySem PySem.W PySem.Spec PyProof.Rows
section
variable{X:Cx}{pins:List (Addr×Obj)}{σ:St}{H:Hp}{s:Shared}
theorem Inv.adopt{D:Addr}{o:HO}(I:Inv X pins σ H s)(f:FpOk X pins H D)(hD:X.s₀.heap.objs.size≤D)(ok:jU X.prog X.w (upd H D o) s.heap D o):Inv X pins σ (upd H D o) s:=by(
have low:∀b ob,X.s₀.heap.get? b=some ob→b≠D:=λb ob e=>mD (mG (kL e) hD)
have trk:∀b u,H b=some u→b≠D:=λb u e=>qG e f.1
refine⟨I.ok,I.os,I.bare,⟨I.base.keep,I.base.slot,λb ob e n x=>?_,I.base.there,λb xs e=>?_,λb ob u e=>?_,λb ps e=>?_⟩,I.loc,I.cell,?_,λx c e=>?_,λp hp=>?_,λb u e=>?_,I.len⟩
·rw[qD (low b ob e)];exact I.base.free b ob e n x
·have z:=I.base.tups b xs e;rw[qD (trk _ _ z)];exact z
·have z:=I.base.frzs b ob u e;rw[qD (trk _ _ z)];exact z
·obtain⟨m,z⟩:=I.base.tbls b ps e;exact⟨m,by rw[qD (trk _ _ z)];exact z⟩
·rw[qD (λz=>f.2.1 z.symm)];exact I.free
·rw[qD (f.2.2.2.2.1 x c e)];exact I.freeC x c e
·obtain⟨a1,a2,a3⟩:=I.pin p hp;exact⟨a1,by rw[qD (f.2.2.2.2.2 p hp)];exact a2,a3⟩
by_cases hb:b=D
·subst hb;rw[qF]at e;cases e;exact ok
rw[qD hb]at e
exact(I.hok b u e).stay (λ_ _ _ q=>q) (λc q=>by rw[qD (trk _ _ q)];exact q) λc xs q=>by rw[qD (trk _ _ q)];exact q)
theorem Inv.near(I:Inv X pins σ H s){A':Around}(h1:A'.handled=X.A.handled)(h2:A'.frames=X.A.frames)(xe:Value→Shared→Prop):Inv { X with A:=A',xe:=xe } pins σ H s:=⟨{ mod:=I.ok.mod,kind:=I.ok.kind,glob:=I.ok.glob,blt:=I.ok.blt,above:=I.ok.above,inj:=I.ok.inj,has:=I.ok.has,cab:=I.ok.cab,hd:=λc=>h1.trans (I.ok.hd c),frames:=h2.trans I.ok.frames,stk:=I.ok.stk,exf:=I.ok.exf,bs:=I.ok.bs,bsz:=I.ok.bsz,noex:=I.ok.noex,exfs:=I.ok.exfs,funs:=I.ok.funs,frf:=I.ok.frf },I.os,I.bare,I.base,I.loc,I.cell,I.free,I.freeC,I.pin,I.hok,I.len⟩
theorem q9Z{P:PySem.Fin→Shared→Prop}{EE:Value→Shared→Prop}{A:Around}{a kS:Addr}{st:SortSt}{e1 e:Nat}{ks:List Value}{out:List Value}{us:List V}(I:Inv X pins σ H s)(fa:FpOk X pins H a)(fk:FpOk X pins H kS)(ha:X.s₀.heap.objs.size≤a)(ne:kS≠a)
 (ga:s.heap.get? a=some (seqObj "list" #[] e1)) (gk:s.heap.get? kS=some (seqObj "list" ks.toArray e)) (hk:ks.length<64) (hout:(arrOf st).map (·.2)=out.toArray) (ho:out.length<64) (hf:failedOf st=none) (rv:Vals us out)
 (h:∀s',Inv X pins σ (upd H a (.lst us)) s'→P (.done (.ret .none)) s'):wpAny (model X.prog X.w) A (ksk_tail a false e1 (.ref kS) st) P EE s:=by(
unfold ksk_tail
try dsimp only
rw[hout]
refine kD (pP gk rfl ?_ (by rw[kY,gR];lia) (mS _))
refine kD (wpAny_letGo ?_)
have ga':(s.heap.update kS (Obj.mapSeq λ_=>(#[]:Array Value))).get? a=some (seqObj "list" #[] e1):=(mM _ _ ne).trans ga
refine kD (seqEpoch_at ga' rfl ?_)
refine kD (pP ga' rfl ?_ (mS _) (by rw[kE kN,kY,gR];lia))
rw[hf]
simp only[bne_self_eq_false,Bool.false_eq_true,if_false]
refine kZ (h _ ?_)
obtain⟨c2,g2⟩:∃c2,((s.heap.update kS (Obj.mapSeq λ_=>(#[]:Array Value))).update a (Obj.mapSeq λ_=>out.toArray)).get? a=some (seqObj "list" out.toArray c2):=⟨_,sG ga' λ_=>out.toArray⟩
have I2:Inv X pins σ H { s with heap:=(s.heap.update kS (Obj.mapSeq λ_=>(#[]:Array Value))).update a (Obj.mapSeq λ_=>out.toArray),toks:=s.toks }:=I.turnedN (fp:=[kS,a]) (λb o hb eb=>by
  simp only[kW,g0,cD,not_or]at hb;exact(mM _ _ (d5 hb.2)).trans ((mM _ _ (d5 hb.1)).trans eb)) (λb hb=>by
  simp only[kW,g0,cD]at hb;rcases hb with rfl|rfl
  ·exact fk
  exact fa)
exact I2.adopt fa ha (show jU X.prog X.w _ _ _ (.lst us)from⟨by rw[rv.length,gR];lia,out,c2,rv,g2⟩))
theorem qG5{P:PySem.Fin→Shared→Prop}{EE:Value→Shared→Prop}{A:Around}{a kS:Addr}{e1 e:Nat}{ks vs:List Value}{us zs:List V}{kk:List (List Int)}{m:Nat}(I:Inv X pins σ H s)(fa:FpOk X pins H a)(fk:FpOk X pins H kS)(ha:X.s₀.heap.objs.size≤a)(ne:kS≠a)
 (ga:s.heap.get? a=some (seqObj "list" #[] e1)) (gk:s.heap.get? kS=some (seqObj "list" ks.toArray e)) (rz:Vals zs ks) (rv:Vals us vs) (hl:zs.length=us.length) (h64:us.length<64) (hti:Paired (TupI X.K H) zs kk) (hw:∀k∈kk,k.length=m) (hm:0<m)
 (h:∀q:List Nat,q.Perm (List.range us.length)→(q.map λi=>kk.getD i []).Pairwise (λa b=>lx b a=false)→∀s',Inv X pins σ (upd H a (.lst (q.map λi=>us.getD i .non))) s'→P (.done (.ret .none)) s'):
 wpAny (model X.prog X.w) A (ksk_end a false vs.toArray e1 (.ref kS) ks.toArray) P EE s:=by(
have l1:=rz.length
have l2:=rv.length
have l3:=hti.len
have hlk:ks.length=vs.length:=by lia
unfold ksk_end
try dsimp only
rw[kE kN]
by_cases h2:vs.toArray.size<2
·rw[kG h2,kG h2];refine kD (kZ ?_);rw[StateT.run_pure];refine kD (kZ ?_);try dsimp only
 have hn2:vs.length<2:=by rw[kY]at h2;exact h2
 refine q9Z (out:=vs) (us:=us) I fa fk ha ne ga gk (by lia) ?_ (by lia) rfl rv λs' I'=>?_
 ·rw[kE kN];show(ks.toArray.zip vs.toArray).map (·.2)=vs.toArray;apply Array.toList_inj.mp;rw[Array.toList_map,Array.toList_zip];show(ks.zip vs).map Prod.snd=vs;exact List.map_snd_zip (by lia)
 have e:(List.range us.length).map (λi=>us.getD i .non)=us:=by refine wM (by simp) λi h1 h3=>?_;rw[d9,rD,kQ,hZ h3];rfl
 have z:=h (List.range us.length) (xX _) (by rw[dW,dL];intro i j hi hj hij;rw[mU]at hi hj;lia);rw[e]at z;exact z s' I'
rw[kE h2,kE h2]
have h2':2≤ks.length:=by rw[kY]at h2;lia
have K:=qG3 (prog:=X.prog) (w:=X.w) (A:=A) (s:=s) (qC8 I rz hti) hw hm h2'
refine kD (K.kind _ _ ?_)
rw[kE kN]
refine kD (gN (kat_run (κ:=tuples' true) (G:=λp s'=>s'=s∧Gp vs.length p∧Srt (λi=>rkOf kk (kk.getD i [])) p vs.length) (Q:=λst' s'=>∃p:Array Nat,arrOf st'=p.map (kas_item (ks.toArray.zip vs.toArray))∧failedOf st'=none∧s'=s∧Gp vs.length p∧Srt (λi=>rkOf kk (kk.getD i [])) p vs.length) hlk (by lia) (by lia) (λp' st' s' _ a2 a3 a4=>⟨p',a2,a3,a4⟩) ?_) ?_ λ_ _ x=>x)
·refine qH3 (c:=rc λi=>rkOf kk (kk.getD i [])) (n:=vs.length) (λi j C hi hj c=>K.lt i j C (by lia) (by lia) c) _ (uE (λp q=>⟨rfl,q⟩) _ (qG1 (by lia)))
rintro⟨⟨⟩,st'⟩ s' ⟨p,har,hf,rfl,gp,sr⟩
try dsimp only
have pp:p.toList.Perm (List.range vs.length):=by have:=Array.perm_iff_toList_perm.mp gp;simpa using this
have hin:∀i∈p.toList,i<us.length:=λi hi=>by rw[l2];exact mH.mp (pp.mem_iff.mp hi)
have pw:(p.toList.map λi=>kk.getD i []).Pairwise (λx y=>lx y x=false):=by
 rw[dW,dL];intro i j hi hj hij;rw[gJ,gp.size]at hi hj;have z:rkOf kk (kk.getD (p.getD i 0) [])≤rkOf kk (kk.getD (p.getD j 0) []):=sr i j (by lia) hj;have gi:p.getD i 0=p.toList[i]'(by rw[gJ,gp.size];exact hi):=by simp[Array.getD,gp.size,hi]
 have gj:p.getD j 0=p.toList[j]'(by rw[gJ,gp.size];exact hj):=by simp[Array.getD,gp.size,hj]
 rw[gi,gj]at z;have mem:∀x,x<kk.length→kk.getD x []∈kk:=λx hx=>by rw[kQ,hZ hx];exact rS hx
 cases g:lx (kk.getD (p.toList[j]'(by rw[gJ,gp.size];exact hj)) []) (kk.getD (p.toList[i]'(by rw[gJ,gp.size];exact hi)) [])with
 |false=>rfl
 |true=>have b1:=hin _ (rS (show j<p.toList.length by rw[gJ,gp.size];exact hj));have b2:=hin _ (rS (show i<p.toList.length by rw[gJ,gp.size];exact hi));have lt:=(qEP (mem _ (by lia)) (mem _ (by lia))).mpr g;lia
exact q9Z (out:=p.toList.map λi=>vs.getD i Value.none) (us:=p.toList.map λi=>us.getD i .non) I fa fk ha ne ga gk (by lia) (kat_snds hlk har) (by rw[hU,pp.length_eq,mU];lia) hf (q82 rv hin) λs' I'=>h p.toList (by rw[l2];exact pp) pw s' I')
end
end L2
namespace W1
open PySem L2
theorem lx2{a b c d:Int}:lx [a,b] [c,d]=(if a=c then(if b=d then false else decide (b<d))else decide (a<c)):=rfl
end W1
namespace L2
open PySem PySem.Spec PyProof.Rows
theorem qG6{X:Cx}{K:PySem.W.Frag}{es:List Expr}{k:Nat}{t:TGs}{n:Nat}{pos:Pos}(e:X.K=K)(hc:X.calm=true)(h:PGs X es t)(hn:(assignEach es X.env).length=n)(hst:(assignEach es X.env).findIdx? (·.1)=none):PG X (.Tuple es k pos) (gTup K n t):=by subst e;exact q5Y hc h hn hst
noncomputable def qK4(K:PySem.W.Frag):R2:=λx y H Q=>∃p xs e,x=.ref p∧y=.ref e∧SqL K H p xs∧SqL K H e []∧Q (.bl (decide (xs≠[]))) H
theorem qEQ{X:Cx}(hu:X.A.units+64<cLine):OpR X (compareOp .NotEq) (qK4 X.K):=by(
intro pins s σ H x y v u Q I rx ry hZ
obtain⟨p,xs,e,ex,ey,hp,he,q⟩:=hZ
subst ex ey
cases rx
cases ry
obtain⟨i1,r1,p1,_⟩:=I.list hp
obtain⟨i2,r2,p2,_⟩:=I.list he
have l1:=r1.length
have l2:=r2.length
cases xs with
|nil=>exact lO (e:=λ_=>true) p1.isList p2.isList (by simp at l1 l2 ⊢;lia) (by lia) (λj h1 h2=>by simp at l1 h1;lia) _ _ _ _ ⟨.bl false,H,I,by rw[vQ];rfl,q⟩
|cons z zs=>exact SeqAt.RcNeAt.lists_lengths p1.isList p2.isList (by simp at l1 l2 ⊢;lia) (by lia) _ _ _ _ ⟨.bl true,H,I,rfl,q⟩)
theorem q8P{n j:Nat}(h:j<n):ixN n (j:Int)=some j:=by(
unfold ixN
have a:(0:Int)≤j:=by lia
have b:(j:Int)<n:=by lia
simp[a,b,h])
theorem qA0{V:List (Int×Int)}{n:Int}:q63 (dI V) (Sum.inl n:Key)=dI (W1.yJ V n):=by(
unfold q63 dI W1.yJ
rw[List.filter_map]
congr 1
apply dX
intro q _
show decide ((Sum.inl q.1:Key)≠Sum.inl n)=decide (q.1≠n)
by_cases e:q.1=n<;>simp[e])
theorem qCA{W:List (Int×Int)}{n p:Int}:putK (dI W) (Sum.inl n:Key) (.int p)=dI (W1.putW W n p):=by(
unfold putK dI W1.putW
have e:((W.map λp=>((Sum.inl p.1:Key),V.int p.2)).any λkv=>decide (kv.1=Sum.inl n))=W.any λq=>decide (q.1=n):=by
 rw[List.any_map];congr 1;funext q;show decide ((Sum.inl q.1:Key)=Sum.inl n)=decide (q.1=n);by_cases e:q.1=n
 ·rw[e];simp
 rw[hG e,hG (λz=>e (pF z))]
rw[e]
by_cases h:(W.any λq=>decide (q.1=n))=true
·rw[kG h,kG h,dU,dU];apply d0;intro q _;show(if(Sum.inl q.1:Key)=Sum.inl n then((Sum.inl q.1:Key),V.int p)else((Sum.inl q.1:Key),V.int q.2))=_;by_cases e:q.1=n
 ·rw[kG (by rw[e])];show _=(λp:Int×Int=>((Sum.inl p.1:Key),V.int p.2)) (if q.1=n then(q.1,p)else q);rw[kG e]
 rw[kE (λz=>e (pF z))];show _=(λp:Int×Int=>((Sum.inl p.1:Key),V.int p.2)) (if q.1=n then(q.1,p)else q);rw[kE e]
rw[kE h,kE h,mB]
rfl)
theorem qD4{V:List (Int×Int)}{n p:Int}:W1.putW (W1.yJ V n) n p=W1.yJ V n++[(n,p)]:=by(
unfold W1.putW
rw[kE]
intro h
obtain⟨q,hq,e⟩:=rT.mp h
exact(W1.jG.mp hq).2 (gQ e))
theorem setV{ns:List Int}{c:Nat}{x:Int}:(ns.map V.int).set c (.int x)=(ns.set c x).map V.int:=by rw[aN]
theorem atV{ns:List Int}{c:Nat}(h:c<ns.length):atI (ns.map V.int) (c:Int)=some (.int (ns.getD c 0)):=by refine uZ ?_;rw[kX,hZ h,kQ,hZ h];rfl
theorem qER:∀{A B:List (List Int)},A.Perm B→A.Pairwise (λa b=>lx b a=false)→B.Pairwise (λa b=>lx b a=false)→A=B
| [],B,p,_,_=>(aK.mp p).symm▸rfl
|a::A,[],p,_,_=>absurd p.length_eq (by simp)
|a::A,b::B,p,h1,h2=>by
 have e:a=b:=by
  by_cases e:a=b
  ·exact e
  have hb:b∈A:=(kW.mp (p.mem_iff.mpr kO)).resolve_left (λz=>e z.symm);have ha:a∈B:=(kW.mp (p.mem_iff.mp kO)).resolve_left e;exact q8N a b ((dA.mp h2).1 a ha) ((dA.mp h1).1 b hb)
 subst e;rw[qER ((xY a).mp p) (dA.mp h1).2 (dA.mp h2).2]
theorem q8Q:∀{A B:List Int},A.Perm B→A.Pairwise (·≤·)→B.Pairwise (·≤·)→A=B
| [],B,p,_,_=>(aK.mp p).symm▸rfl
|a::A,[],p,_,_=>absurd p.length_eq (by simp)
|a::A,b::B,p,h1,h2=>by
 have e:a=b:=by
  by_cases e:a=b
  ·exact e
  have hb:b∈A:=(kW.mp (p.mem_iff.mpr kO)).resolve_left (λz=>e z.symm);have ha:a∈B:=(kW.mp (p.mem_iff.mp kO)).resolve_left e;have:=(dA.mp h2).1 a ha;have:=(dA.mp h1).1 b hb;lia
 subst e;rw[q8Q ((xY a).mp p) (dA.mp h1).2 (dA.mp h2).2]
theorem qA1{a:Addr}{o:Obj}{kvs:List (Key×V)}{D:Addr}{H2:Hp}{g:TG}{tc:TT}{te:TE}{σ0:St}{R:Hp→Prop}(Pv:Nat→Hp→Prop)(h0:Pv 0 H2)(hl:∀i H,Pv i H→H a=some (.frz o (.dK kvs)))
 (hs:∀(i:Nat) kv H,kvs[i]?=some kv→Pv i H→g (kV kv.1) σ0 H λσ5 H5=>tc σ5 H5 λb H6=>if b=true then te σ5 H6 (λv H7=>∃vs,H7 D=some (.lst vs)∧vs.length<sizeLine∧Pv (i+1) (upd H7 D (.lst (vs++[v]))))else Pv (i+1) H6) (hd:∀H,Pv kvs.length H→R H):
 ∃W:Nat→Nat→Hp→Prop,(∃m,W 0 m H2)∧∀i m H3,W i m H3→((Itd a o kvs).stop i H3∧R H3)∨((Itd a o kvs).go i H3∧∃N:Hp→Prop,(∀H',N H'→∃m',m'<m∧W (i+1) m' H')∧∀x H4,(Itd a o kvs).yld i H3 x H4→g x σ0 H4 λσ5 H5=>tc σ5 H5 λb H6=>if b=true then te σ5 H6 (λv H7=>∃vs,H7 D=some (.lst vs)∧vs.length<sizeLine∧N (upd H7 D (.lst (vs++[v]))))else N H6):=qFZ (Q:=λ_ H=>R H) Pv h0 hl hs hd
theorem qB5{H H':Hp}{us:List V}{ks:List (List Int)}(h:Paired (TupD H) us ks)(s:Same H H'):Paired (TupD H') us ks:=Paired.mapP h λ_ _ z=>z.same s
theorem qG7{K:PySem.W.Frag}{H:Hp}{us:List V}{ks:List (List Int)}(h:Paired (TupD H) us ks):Paired (TupI K H) us ks:=Paired.mapP h λ_ _ z=>z.i
theorem qD5{lo:Int}{n:Nat}{D:Addr}{H2:Hp}{g:TG}{tc:TT}{te:TE}{σ0:St}{R:Hp→Prop}(Pv:Nat→Hp→Prop)(h0:Pv 0 H2)
 (hs:∀(i:Nat) H,i<n→Pv i H→g (.int (lo+i)) σ0 H λσ5 H5=>tc σ5 H5 λb H6=>if b=true then te σ5 H6 (λv H7=>∃vs,H7 D=some (.lst vs)∧vs.length<sizeLine∧Pv (i+1) (upd H7 D (.lst (vs++[v]))))else Pv (i+1) H6) (hd:∀H,Pv n H→R H):
 ∃W:Nat→Nat→Hp→Prop,(∃m,W 0 m H2)∧∀i m H3,W i m H3→((Itr lo n).stop i H3∧R H3)∨((Itr lo n).go i H3∧∃N:Hp→Prop,(∀H',N H'→∃m',m'<m∧W (i+1) m' H')∧∀x H4,(Itr lo n).yld i H3 x H4→g x σ0 H4 λσ5 H5=>tc σ5 H5 λb H6=>if b=true then te σ5 H6 (λv H7=>∃vs,H7 D=some (.lst vs)∧vs.length<sizeLine∧N (upd H7 D (.lst (vs++[v]))))else N H6):=q9V (Q:=λ_ H=>R H) Pv h0 hs hd
theorem qB6{H H3:Hp}{a:Addr}{u:HO}(ha:H a=some u)(k:∀b o,b≠a→H b=some o→H3 b=some o):Same H (upd H3 a u):=λb o e=>by(
by_cases z:b=a
·rw[z,qF,←ha,←z];exact e
rw[qD z]
exact k b o z e)
theorem q40{X:Cx}{K:PySem.W.Frag}{e:Expr}{ta:TE}{f:Str}{pos:Pos}(eK:X.K=K)(he:PE X e ta)(hb:attributeBase e f X.env (eval e X.env)=eval e X.env):PE X (.Attribute e f pos) (tFld K ta f):=by subst eK;exact qM he hb
end L2
namespace L2
open PySem PySem.W PySem.Spec PyProof.Rows
theorem qG8{scope:Scope}{env:Env}(h:(scope.names.all λy=>decide (y.2≠ .free)||(env.cells.lookup y.1).isSome)=true):closureFor scope env=pure (clOf env scope.names []):=q35 λy hy hf=>by(
 have q:=gT.mp h y hy;rw[g8,kR]at q;rcases q with q|q
 ·exact absurd hf q
 exact wN.mp q)
theorem qD6{scope:Scope}{x0 y:Str}{ca:Addr}{v:V}{u:Value}{base:Heap}(hk:scope.kind=.function)(hco:scope.isCoroutine=false)(hg:scope.isGenerator=false)(hp:scope.names.lookup x0=some .local)
 (hn:(scope.names.all λz=>decide (z.2≠ .cell)&&(decide (z.2≠ .free)||decide (z.1=y)))=true) (hf:scope.names.lookup y=some .free) (r:RelV v u) (hc:base.IsCell ca (some u)):LamSc scope x0 [(y,ca)] [v] base:=by(
have at1:∀z∈scope.names,z.2≠ .cell∧(z.2≠ .free∨z.1=y):=λz hz=>by have q:=gT.mp hn z hz;rw[mE,g8,kR,kR,kR]at q;exact q
have lk:([(y,ca)]:List (Str×Addr)).lookup y=some ca:=by simp
have one:∀x c,([(y,ca)]:List (Str×Addr)).lookup x=some c→x=y∧c=ca:=λx c e=>by have m:=gK e;simpa using m
refine⟨hk,hco,hg,hp,λz hz=>(at1 z hz).1,λz hz=>?_,λa b c h1 h2=>?_,λj x c h=>?_,rfl⟩
·have m:=(at1 _ (gK hz)).2;rcases m with m|m
 ·exact absurd rfl m
 exact⟨ca,by rw[show z=y from m];exact lk⟩
·rw[(one _ _ h1).1,(one _ _ h2).1]
match j,h with
|0,h=>
 obtain⟨rfl,rfl⟩:y=x∧ca=c:=by simpa using h
 exact⟨hf,lk,v,u,rfl,r,hc⟩
|j+1,h=>exact absurd h (by simp))
theorem qA2{env:Env}{names:List (Str×NameKind)}{y:Str}{ca:Addr}(e:env.cells.lookup y=some ca)(h:clOf env names []=match env.cells.lookup y with|some a=>[(y,a)] |none=>[]):clOf env names []=[(y,ca)]:=by rw[h,e]
noncomputable def qIQ(T:Addr)(pos:Pos)(qual:Str)(params:Arguments)(body:Expr)(scope:Scope)(clos:List (Str×Addr))(pm:Value):TE:=λσ H Q=>∃ps c',H T=some (.tbl ps)∧TriplesOk ps.toList∧codeAmong pos ps.toList=some (.ref c')∧∀(f:Addr) (ctv:Value),H f=none→Q (.ref f) (upd H f (fnO f (kla_fn "<lambda>" qual params body scope clos pm (.ref c') ctv)))
theorem qES{X:Cx}{c T:Addr}{params:Arguments}{body:Expr}{scope:Scope}{pos:Pos}{clos:List (Str×Addr)}(hcode:X.env.code=.ref c)(hcd:codeHdIn X.K c T=true)(B:BmIn X.base X.mg)(hcl:closureFor scope X.env=pure clos)(hdef:defaultsOf params X.env=([],[])):
 PE X (.Lambda params body scope pos) (qIQ T pos (X.env.qual++"<lambda>") params body scope clos ((X.mg "__name__").getD .none)):=by(
intro pins s σ H Q I hZ
obtain⟨ps,c',hT,ht,hnf,q⟩:=hZ
have hP:s.heap.get? T=some (tabObj ps):=I.hok T _ hT
have hgs:s.heap.Ns mainGlobals X.mg:=I.ok.mod.glob.keeps I.bk
obtain⟨bm,ob,b1,b2,b3,b4,b5,b6⟩:=B
have b3':=I.bk _ _ b3
have hbP:bm≠T:=λz=>by rw[z,hP]at b3';cases b3';cases b4
have hbG:bm≠mainGlobals:=λz=>by obtain⟨o,es,ep,e,hd,_⟩:=hgs;rw[z,e]at b3';cases b3';rw[hd]at b6;cases b6
refine kla_eval hdef (kla_makeFunctionHit (clos:=clos) hcl I.ok.glob hgs hcode (xJ I.kIn hcd) hP ht hnf ⟨bm,ob,b1,b2,hbG,hbP,b3',b4,b5,b6⟩ λctv h' tk hx sz=>?_)
have trk:∀b u,s.heap.get? b=some u→∀o,(h'.push o).get? b=some u:=λb u e o=>hX _ (hx b u e)
have nF:H h'.objs.size=none:=I.hok.fresh sz
refine⟨.ref h'.objs.size,_,?_,rfl,q _ ctv nF⟩
refine I.un (t':=tk) ⟨λb o e n _ _=>trk b o e _,λb o e n _ _=>⟨o.slots,trk b o e _⟩,λb o e n _=>?_,λb o e _=>⟨o,trk b o e _⟩,λb xs e=>?_,λb o u e=>?_,λb qs e=>?_⟩ λb u e=>?_
·rw[qD (mD (mG (kL e) sz))];exact n
·rw[qD (qG e nF)];exact e
·rw[qD (qG e nF)];exact e
·exact⟨#[],by rw[qD (qG e nF),e];simp⟩
by_cases z3:b=h'.objs.size
·subst z3;rw[qF]at e;cases e;exact qEI (k7 _ rfl)
rw[qD z3]at e
refine(I.hok b u e).stay (λd v hd r=>trk d v r _) (λd r=>?_) λd xs r=>?_
·rw[qD (qG r nF)];exact r
rw[qD (qG r nF)];exact r)
noncomputable def qK5(T:Addr)(pos:Pos)(qual:Str)(params:Arguments)(body:Expr)(scope:Scope)(clos:List (Str×Addr))(pm:Value):TE:=λσ H Q=>∃ps,H T=some (.tbl ps)∧TriplesOk ps.toList∧((codeAmong pos ps.toList=none∧∀(f c':Addr) (ctv:Value) (H':Hp),H f=none→H' f=some (fnO f (kla_fn "<lambda>" qual params body scope clos pm (.ref c') ctv))→H' c'=some (cdO c' qual)→H' T=some (.tbl (ps++#[rawInt pos.line,rawInt pos.col,.ref c']))→(∀b o,b≠T→H b=some o→H' b=some o)→Q (.ref f) H')∨∃c',codeAmong pos ps.toList=some (.ref c')∧∀(f:Addr) (ctv:Value) (H':Hp),H f=none→H' f=some (fnO f (kla_fn "<lambda>" qual params body scope clos pm (.ref c') ctv))→Same H H'→Q (.ref f) H')
theorem qG9{X:Cx}{c T:Addr}{params:Arguments}{body:Expr}{scope:Scope}{pos:Pos}{clos:List (Str×Addr)}(hcode:X.env.code=.ref c)(hcd:codeHdIn X.K c T=true)(B:BmIn X.base X.mg)(hcl:closureFor scope X.env=pure clos)(hdef:defaultsOf params X.env=([],[])):
 PE X (.Lambda params body scope pos) (qK5 T pos (X.env.qual++"<lambda>") params body scope clos ((X.mg "__name__").getD .none)):=λpins s σ H Q I ⟨ps,hT,ht,h⟩=>by(
rcases h with⟨hn,q⟩|⟨c',hn,q⟩
·exact qFX hcode hcd B hcl hdef pins s σ H Q I ⟨ps,hT,ht,hn,λf c' ctv nf nc fc=>q f c' ctv _ nf qF (by rw[qD fc.symm];exact qF) (by rw[qD (qG hT nf),qD (qG hT nc)];exact qF) λb o nb e=>by rw[qD (qG e nf),qD (qG e nc),qD nb];exact e⟩
exact qES hcode hcd B hcl hdef pins s σ H Q I ⟨ps,c',hT,ht,hn,λf ctv nf=>q f ctv _ nf qF (Same.upd nf)⟩)
theorem qGA{X:Cx}{CX:CXT}{k:Nat}{f:Addr}{fd:FuncData}{ps:List Str}{sp:Heap→Sp}{dvs:List V}{ds:List Value}{E:XK}{pins:List (Addr×Obj)}{σ:St}{H:Hp}{s:Shared}{Q:VK}{us:List Value}{vs:List V}(ix:List (Nat×Str))
 (hix:∀p∈ix,X.N[p.1]?=some p.2∧X.env.scope.names.lookup p.2=some .cell∧X.fn p.2=true)
 (F:∀base',(∀b o,X.base.get? b=some o→base'.get? b=some o)→q6A X.env.cells σ base' ix→FnOk X.prog X.w X.K X.mg base' CX k f fd ps (sp base')) (hr:Room k X.A) (hb:yL X.K fd ps ds) (hd:Vals dvs ds) (hx:q0B CX X E)
 (I:Inv X pins σ H s) (r:Vals vs us) (h:∀base',(∀b o,X.base.get? b=some o→base'.get? b=some o)→q6A X.env.cells σ base' ix→sp base' (vs++dvs) H Q E):wpAny (model X.prog X.w) X.A (call (.ref f) us) (EP X pins σ Q) X.xe s:=by(
have r2:Vals (vs++dvs) (us++ds):=r.append hd
obtain⟨e0,up,cel⟩:=I.env0C (ix.filterMap λp=>X.env.cells.lookup p.2) (λc hc=>by obtain⟨p,hp,e⟩:=wR.mp hc;exact⟨p.2,(hix p hp).2.2,e⟩)
have cv:q6A X.env.cells σ (hidT s.heap (vR X.base (ix.filterMap λp=>X.env.cells.lookup p.2))) ix:=λp hp v hv=>by
 obtain⟨h1,h2,h3⟩:=hix p hp;obtain⟨m,_,hl⟩:=I.loc;obtain⟨u,ru,lk⟩:=hl p.1 p.2 v h1 hv (.inr (.inl h2));rcases lk with⟨z,_⟩|⟨_,c,hc,o,ho,hd⟩
 ·have z:X.env.scope.names.lookup p.2=some .local:=z;rw[h2]at z;cases z
 exact⟨c,u,hc,ru,o,cel c (wR.mpr ⟨p,hp,hc⟩) o ho,hd⟩
have q:=h _ up cv
have hl:(us++ds).length=ps.length:=by rw[←r2.length];exact(F _ up cv).len _ _ _ _ q
refine wH (dS ((F _ up cv).run X.A X.stack s H ⟨us,[]⟩ (us++ds) (vs++dvs) Q E hr e0 (hb s us I.kIn hl) r2 q) λr s' hq=>?_)
cases r with
|error e=>exact hx pins σ H s e s' I hq
|ok fl=>
 cases fl with
 |ret u=>exact I.after hq
 |next=>exact False.elim hq
 |brk=>exact False.elim hq
 |cont=>exact False.elim hq)
section
variable{X:Cx}{pins:List (Addr×Obj)}{σ:St}{H:Hp}{s:Shared}
theorem qD7{P:PySem.Fin→Shared→Prop}{EE:Value→Shared→Prop}{a f:Addr}{n:Nat}{vs:List Value}{us:List V}(I:Inv X pins σ H s)
 (ho:s.heap.get? a=some (seqObj "list" vs.toArray n)) (fa:FpOk X pins H a) (ha:X.s₀.heap.objs.size≤a) (rv:Vals us vs) (h64:us.length<64)
 (Pv:Nat→List V→Hp→Prop) (h0:Pv 0 [] H) (hs:∀i x zs H' pins' s' u,us[i]?=some x→RelV x u→Pv i zs H'→Inv { X with A:=X.A.in1.in1,xe:=λ_ _=>False } pins' σ H' s'→wpAny (model X.prog X.w) X.A.in1.in1 (call (.ref f) [u]) (EP { X with A:=X.A.in1.in1,xe:=λ_ _=>False } pins' σ (λz H''=>Pv (i+1) (zs++[z]) H'')) (λ_ _=>False) s')
 (hd:∀zs H',H' a=none→zs.length=us.length→Pv us.length zs H'→∃kk m,Paired (TupI X.K H') zs kk∧(∀k∈kk,k.length=m)∧0<m∧∀q:List Nat,q.Perm (List.range us.length)→(q.map λi=>kk.getD i []).Pairwise (λa b=>lx b a=false)→∀s',Inv X pins σ (upd H' a (.lst (q.map λi=>us.getD i .non))) s'→P (.done (.ret .none)) s'):
 wpAny (model X.prog X.w) X.A.in1.in1 (ksk_tree a (.ref f) false) P EE s:=by(
have hal:a<s.heap.objs.size:=kL ho
have hl:=rv.length
obtain⟨e1,g1⟩:∃e1,(s.heap.update a (Obj.mapSeq λ_=>(#[]:Array Value))).get? a=some (seqObj "list" #[] e1):=⟨_,sG ho λ_=>#[]⟩
unfold ksk_tree
refine kD (listItems_at ho rfl (kD (pP ho rfl (kD (seqEpoch_at g1 rfl ?_)) (by rw[kY,gR];lia) (mS _))))
refine kD (wpAny_newTuple (kD (lI (gH ?_) (mS _))) (by show vs.length≤_;rw[gR];lia))
have hks:((s.heap.update a (Obj.mapSeq λ_=>(#[]:Array Value))).push (seqObj "tuple" vs.toArray 0)).objs.size=s.heap.objs.size+1:=by rw[xZ,xH]
obtain⟨kS,eks⟩:∃kS:Addr,kS=((s.heap.update a (Obj.mapSeq λ_=>(#[]:Array Value))).push (seqObj "tuple" vs.toArray 0)).objs.size:=⟨_,rfl⟩
have ksz:s.heap.objs.size≤kS:=by rw[eks,hks];exact d7 _
have ne:kS≠a:=rW (mG hal ksz)
show wpAny (model X.prog X.w) X.A.in1.in1 (ksk_rest a (.ref f) false vs.toArray e1 (.ref ((s.heap.update a (Obj.mapSeq λ_=>(#[]:Array Value))).push (seqObj "tuple" vs.toArray 0)).objs.size)) P EE { s with heap:=((s.heap.update a (Obj.mapSeq λ_=>(#[]:Array Value))).push (seqObj "tuple" vs.toArray 0)).push (seqObj "list" #[] 0) }
rw[←eks]
have gk0:(((s.heap.update a (Obj.mapSeq λ_=>(#[]:Array Value))).push (seqObj "tuple" vs.toArray 0)).push (seqObj "list" #[] 0)).get? kS=some (seqObj "list" #[] 0):=by rw[eks];exact k7 _ rfl
have ga0:=hX (seqObj "list" #[] 0) (hX (seqObj "tuple" vs.toArray 0) g1)
have I0:Inv X pins σ H { s with heap:=((s.heap.update a (Obj.mapSeq λ_=>(#[]:Array Value))).push (seqObj "tuple" vs.toArray 0)).push (seqObj "list" #[] 0),toks:=s.toks }:=I.turnedN (fp:=[a]) (λb o hb' e=>hX _ (hX _ ((mM _ _ (λz=>hb' (kJ.mpr z.symm))).trans e))) (λb hb'=>by rw[kJ.mp hb'];exact fa)
have fk0:FpOk X pins H kS:=I.fpOk ksz (I.hok.fresh ksz)
have fp:∀{H':Hp} {b:Addr},FpOk X pins H b→H' b=none→FpOk X pins H' b:=λf e=>⟨e,f.2⟩
unfold ksk_rest
refine kD (wpAny_rule ?_)
first
 |rw[List.forIn_toArray]
 |(rw[←Array.forIn_toList];simp only[lD])
refine kD (ksk_fold (I:=λi s'=>∃H' zs ks e,Inv X pins σ H' s'∧s'.heap.get? a=some (seqObj "list" #[] e1)∧s'.heap.get? kS=some (seqObj "list" (List.toArray ks) e)∧Vals zs ks∧zs.length=i∧Pv i zs H'∧H' a=none∧H' kS=none) vs 0 _ ⟨H,[],[],0,I0,ga0,gk0,.nil,rfl,h0,fa.1,fk0.1⟩ (λj x s' hx hJ=>?_) λs' hJ=>?_)
·obtain⟨H',zs,ks,e,I1,ga,gk,rz,lz,pv,na,nk⟩:=hJ;rw[Nat.zero_add]at lz pv ⊢;have hj:j<vs.length:=(hV.mp hx).1;obtain⟨y,ey,ry⟩:=rv.atN (j:=j) hj;obtain rfl:vs[j]=x:=(hV.mp hx).2;have I2:=(I1.near (A':=X.A.in1.in1) rfl rfl λ_ _=>False).pinned (fp:=[a,kS]) (λb hb'=>by
  simp only[kW,g0,cD]at hb';rcases hb' with rfl|rfl
  ·exact fp fa na
  ·exact fp fk0 nk) (λb hb'=>by
  simp only[kW,g0,cD]at hb';rcases hb' with rfl|rfl
  ·exact⟨_,ga,λv z=>by cases z⟩
  exact⟨_,gk,λv z=>by cases z⟩)
 refine kD (pN (gN (hs j y zs H' _ _ _ ey ry pv I2) (λu s'' hq=>?_) λ_ _ z=>z.elim));obtain⟨z,H'',I3,ru,q⟩:=hq;have pa:=I3.pin (a,seqObj "list" #[] e1) (kM _ (kM _ (u7 (by simp) ga)));have pk:=I3.pin (kS,seqObj "list" (List.toArray ks) e) (kM _ (kM _ (u7 (by simp) gk)));have lk:=rz.length;have ea:(List.toArray ks).push u=List.toArray (ks++[u]):=by simp
 obtain⟨c2,g2⟩:∃c2,(s''.heap.update kS (Obj.mapSeq (·.push u))).get? kS=some (seqObj "list" (List.toArray (ks++[u])) c2):=⟨_,by rw[←ea];exact sG pk.1 (·.push u)⟩;try dsimp only
 refine kD (pP pk.1 rfl ?_ (by rw[kY,gR];lia) (mJ (cZ (Array.size_push ..)) (by rw[kY,gR];lia)));have I4:Inv X pins σ H'' s'':=(I3.unpinned).near (A':=X.A) rfl rfl X.xe;have I5:Inv X pins σ H'' { s'' with heap:=s''.heap.update kS (Obj.mapSeq (·.push u)),toks:=s''.toks }:=I4.turnedN (fp:=[kS]) (λb o hb' e=>(mM _ _ (λz=>hb' (kJ.mpr z.symm))).trans e) (λb hb'=>by rw[kJ.mp hb'];exact fp fk0 pk.2.1);exact kZ ⟨rfl,H'',zs++[z],ks++[u],c2,I5,(mM _ _ ne).trans pa.1,g2,rz.append (.cons ru .nil),by rw[mL,lz];rfl,q,pa.2.1,pk.2.1⟩
obtain⟨H',zs,ks,e,I1,ga,gk,rz,lz,pv,na,nk⟩:=hJ
rw[Nat.zero_add,←hl]at lz pv
obtain⟨kk,m,hti,hw,hm,fin⟩:=hd zs H' na lz pv
try dsimp only
refine kD (listItems_at gk rfl ?_)
exact qG5 I1 (fp fa na) (fp fk0 nk) ha ne ga gk rz rv lz h64 hti hw hm fin)
end
noncomputable def oneQ(R:V→Hp→Prop):List V→Hp→Prop
| [v],H=>R v H
|_,_=>False
theorem qGB{R:V→Hp→Prop}:∀{xs:List V} {H:Hp},oneQ R xs H→∃v,xs=[v]∧R v H
| [v],_,h=>⟨v,rfl,h⟩
| [],_,h=>h.elim
|_::_::_,_,h=>h.elim
noncomputable def tSL(P:Program)(w:World)(K:PySem.W.Frag)(mg:Str→Option Value)(base:Heap)(cells:List (Str×Addr))(ix:List (Nat×Str))(k:Nat)(x:Str)(tl:TE)(ta:TA):TE:=λσ H Q=>ta σ H λvs H1=>tl σ H1 λfv H2=>∃(f:Addr) (fd:FuncData) (sp:Heap→Sp),fv=.ref f∧(∀base',(∀b o,base.get? b=some o→base'.get? b=some o)→q6A cells σ base' ix→FnOk P w K mg base' CX0 k f fd [x] (sp base'))∧yL K fd [x] []∧∃(l:Addr) (us:List V) (Pv:Nat→List V→Hp→Prop),vs=[.ref l]∧SqL K H2 l us∧us.length<64∧Pv 0 [] H2∧(∀base' i x zs H',q6A cells σ base' ix→us[i]?=some x→Pv i zs H'→sp base' [x] H' (λz H''=>Pv (i+1) (zs++[z]) H'') E0)∧∀zs H',zs.length=us.length→Pv us.length zs H'→∃kk m,Paired (TupI K H') zs kk∧(∀k∈kk,k.length=m)∧0<m∧∀q:List Nat,q.Perm (List.range us.length)→(q.map λi=>kk.getD i []).Pairwise (λa b=>lx b a=false)→NewO H' (.lst (q.map λi=>us.getD i .non)) Q
theorem qB7{X:Cx}{k:Nat}{x:Str}{e le:Expr}{tl:TE}{ta:TA}{p kp pos:Pos}(ix:List (Nat×Str))(hix:∀p∈ix,X.N[p.1]?=some p.2∧X.env.scope.names.lookup p.2=some .cell∧X.fn p.2=true)(hr:Room (k+2) X.A)(hg:Gl X "sorted")(hm:X.mg "sorted"=none)(hl:PE X le tl)(ha:PA X [e] ta)
 (he:starEach [e] X.env=[(false,eval e X.env)]:=by rfl) (hse:starEach ([]:List Expr) X.env=[]:=by rfl):
 PE X (.Call (.Name "sorted" p) [e] [⟨some "key",le,kp⟩] pos) (tSL X.prog X.w X.K X.mg X.base X.env.cells ix k x tl ta):=by(
intro pins s σ H Q I h
refine rA (q5X I hg hm (u:=.builtin "sorted") (by kernel_rfl) ?_ (by decide) (by decide))
refine callWith_kw (thn (ha pos pins s σ H _ I h) λus s1 ⟨vs,H1,I1,r1,q1⟩=>?_) (by rw[he,hse];rfl) (by rw[he];rfl)
have pk:PK X [⟨some "key",le,kp⟩] (q62 tl tNil):=qFK hl qHH
refine thn (pk pos pins s1 σ H1 (oneQ _) I1 q1) λws s2 hZ=>?_
obtain⟨xs,H2,I2,r2,q2⟩:=hZ
obtain⟨v,rfl,f,fd,sp,rfl,F,hb,q2⟩:=qGB q2
obtain⟨w,rfl,rw⟩:=zP r2
obtain rfl:w=Value.ref f:=rw
obtain⟨l,us',Pv,ev,hq,h64,p0,hs,hd⟩:=q2
subst ev
obtain⟨u,rfl,ru⟩:=zP r1
obtain rfl:u=Value.ref l:=ru
obtain⟨its,rv,pl,hz⟩:=I2.list hq
have hlen:=rv.length
show wpAny (model X.prog X.w) X.A (call (.builtin "sorted") [.ref l] [(Str.ofString "key",.ref f)]) _ _ _
refine call_function_entry_kw kind_sorted plain_sorted entry_sorted (ksk_s1 _ _) ?_
unfold Builtin.«sorted»
refine kD (m:=checkCount "sorted" 1 1 _) (kZ (kD (collect_list pl.isList (kD (lI ?_ (by rw[gR];show its.length≤_;lia))))))
have hsz:((s2.heap.push (seqObj "list" #[] 0)).update s2.heap.objs.size (Obj.mapSeq (· ++its.toArray))).objs.size=s2.heap.objs.size+1:=by rw[xH,xZ]
have g:(((s2.heap.push (seqObj "list" #[] 0)).update s2.heap.objs.size (Obj.mapSeq (· ++its.toArray))).push (seqObj "list" its.toArray 0)).get? (s2.heap.objs.size+1)=some (seqObj "list" its.toArray 0):=by rw[←hsz];exact k7 _ rfl
show wpAny _ _ _ _ _ { s2 with heap:=((s2.heap.push (seqObj "list" #[] 0)).update s2.heap.objs.size (Obj.mapSeq (· ++its.toArray))).push (seqObj "list" its.toArray 0) }
rw[hsz]
have I3:Inv X pins σ H2 { s2 with heap:=((s2.heap.push (seqObj "list" #[] 0)).update s2.heap.objs.size (Obj.mapSeq (· ++its.toArray))).push (seqObj "list" its.toArray 0),toks:=s2.toks }:=I2.kept (t':=s2.toks) λb o e=>hX _ ((mM _ _ (rW (kL e))).trans (hX _ e))
refine kD (gH (wpAny_call_entry_kw slot_list_sort ⟨_,g,rfl⟩ entry_list_sort ?_ (ksk_l1 _ _)))
rw[ksk_t1]
have fr:s2.heap.objs.size≤s2.heap.objs.size+1:=d7 _
refine qD7 I3 g (I2.fpOk fr (I2.hok.fresh fr)) (mJ I2.sz fr) rv h64 Pv p0 (λi x zs H' pins' s' u hx rx pv I'=>qGA (X:={ X with A:=X.A.in1.in1,xe:=λ_ _=>False }) (dvs:=[]) (ds:=[]) (E:=E0) ix hix F hr.in1.in1 hb .nil qQ I' (.cons rx .nil) (λbase' up cv=>hs base' i x zs H' cv hx pv)) λzs H' na lz pv=>?_
obtain⟨kk,m,a1,a2,a3,a4⟩:=hd zs H' lz pv
refine⟨kk,m,a1,a2,a3,λq b1 b2 s' I'=>⟨_,rfl,kZ ⟨_,rfl,.ref _,_,I',rfl,(a4 q b1 b2).at _ na⟩⟩⟩)
end L2
namespace W1
open PySem L2
structure QM where
P:Nat
B:Nat
nx:Int
V:Mp
lv:List Int
fi:List Int
bo:List Int
namespace QM
structure Ok(m:QM):Prop where
p1:1≤m.P
p2:m.P≤16
b2:m.B≤16
ll:m.lv.length=m.B
lf:m.fi.length=m.B
lo:m.bo.length=m.B
nd:(m.V.map (·.1)).Nodup
nm:∀q∈m.V,0≤q.1∧q.1≤64
blk:∀q∈m.V,∃b:Nat,b<m.B∧q.2 / (m.P:Int)=(b:Int)
wr:∀b,b<m.B→∃f:Nat,m.fi.getD b 0=(f:Int)∧f≤m.P
variable{m:QM}
theorem Ok.lenV(h:m.Ok):m.V.length≤65:=by
 have:=qC9 (l:=m.V.map (·.1)) (m:=(List.range 65).map λi:Nat=>(i:Int)) h.nd λx hx=>by obtain⟨q,hq,rfl⟩:=kP.mp hx;have:=h.nm q hq;exact kP.mpr ⟨q.1.toNat,mH.mpr (by lia),by lia⟩
 rw[hU,hU,mU]at this;exact this
noncomputable def forget(m:QM)(n:Int):QM:={ m with V:=yJ m.V n,lv:=BM.lvF m.P m.V m.lv n }
theorem find_V{n:Int}:(∃p,(n,p)∈m.V∧m.V.find? (λq=>decide (q.1=n))=some (n,p))∨((∀q∈m.V,q.1≠n)∧m.V.find? (λq=>decide (q.1=n))=none):=by(
cases e:m.V.find? (λq=>decide (q.1=n))with
|none=>refine .inr ⟨λq hq z=>?_,rfl⟩;have:=r9.mp e q hq;exact this (hI z)
|some q=>
 have h1:q.1=n:=by have:=xO e;simpa using this
 have h2:=pE e;refine .inl ⟨q.2,by rw[←h1];exact h2,by rw[←h1]⟩)
theorem qCB{n:Int}:(BM.lvF m.P m.V m.lv n).length=m.lv.length:=by(
unfold BM.lvF
split
·rw[gM]
rfl)
theorem Ok.forget(h:m.Ok)(n:Int):(m.forget n).Ok:={ h with ll:=by show(BM.lvF m.P m.V m.lv n).length=m.B;rw[qCB];exact h.ll,nd:=q3Z h.nd,nm:=λq hq=>h.nm q (jG.mp hq).1,blk:=λq hq=>h.blk q (jG.mp hq).1 }
noncomputable def put(m:QM)(b f:Nat)(n:Int):QM:={ m with V:=yJ m.V n++[(n,((b*m.P+f:Nat):Int))],lv:=(BM.lvF m.P m.V m.lv n).set b ((BM.lvF m.P m.V m.lv n).getD b 0+1),bo:=if m.fi.getD b 0=0 then m.bo.set b m.nx else m.bo,fi:=m.fi.set b (m.fi.getD b 0+1),nx:=m.nx+1 }
theorem Ok.put(h:m.Ok){b f:Nat}{n:Int}(hb:b<m.B)(hf:f<m.P)(ef:m.fi.getD b 0=(f:Int))(n0:0≤n)(n1:n≤64):(m.put b f n).Ok where
p1:=h.p1
p2:=h.p2
b2:=h.b2
ll:=by show(List.set _ _ _).length=m.B;rw[gM,qCB];exact h.ll
lf:=by show(List.set _ _ _).length=m.B;rw[gM];exact h.lf
lo:=by
 show(if m.fi.getD b 0=0 then m.bo.set b m.nx else m.bo).length=m.B;split
 ·rw[gM];exact h.lo
 exact h.lo
nd:=by
 show((yJ m.V n++[(n,((b*m.P+f:Nat):Int))]).map (·.1)).Nodup;rw[mB];refine gA.mpr ⟨q3Z h.nd,by simp,λa ha c hc=>?_⟩;obtain⟨q,hq,rfl⟩:=kP.mp ha;have hc:c=n:=by simpa using hc
 rw[hc];exact(jG.mp hq).2
nm:=λq hq=>by
 rcases mP.mp hq with hq|hq
 ·exact h.nm q (jG.mp hq).1
 rw[kJ.mp hq];exact⟨n0,n1⟩
blk:=λq hq=>by
 rcases mP.mp hq with hq|hq
 ·exact h.blk q (jG.mp hq).1
 rw[kJ.mp hq];refine⟨b,hb,?_⟩;show((b*m.P+f:Nat):Int) / (m.P:Int)=_;rw[←xI,q8O hf]
wr:=λc hc=>by
 show ∃g:Nat,(m.fi.set b (m.fi.getD b 0+1)).getD c 0=(g:Int)∧g≤m.P;rw[zV];split
 ·exact⟨f+1,by rw[ef];rfl,hf⟩
 exact h.wr c hc
end QM
noncomputable def vn(b:Nat):V:=.int (b:Int)
noncomputable def zW(B:Nat)(br:List Bool):List Nat:=(List.range B).filter λb=>!(br.getD b false)
noncomputable def u6(B:Nat)(br:List Bool)(fi:List Int):List Nat:=(zW B br).filter λb=>decide (fi.getD b 0=0)
noncomputable def keyN(cl:List Int)(b:Nat):List Int:=[cl.getD b 0,(b:Int)]
structure FreeIs(B:Nat)(br:List Bool)(cl fi:List Int)(l:List Nat):Prop where
pm:l.Perm (u6 B br fi)
so:(l.map (keyN cl)).Pairwise λa b=>lx b a=false
theorem qGC{cl:List Int}{a b:Nat}(h:keyN cl a=keyN cl b):a=b:=by(
unfold keyN at h
injection h with _ h
injection h with h _
lia)
theorem qCC{α β:Type}{f:α→β}(hf:∀a b,f a=f b→a=b):∀{l m:List α},l.map f=m.map f→l=m
| [],[],_=>rfl
| [],_::_,h=>by cases h
|_::_,[],h=>by cases h
|a::l,b::m,h=>by
 rw[mZ,mZ]at h;injection h with h1 h2
 rw[hf _ _ h1,qCC hf h2]
theorem FreeIs.one{B:Nat}{br:List Bool}{cl fi:List Int}{l l':List Nat}(h:FreeIs B br cl fi l)(h':FreeIs B br cl fi l'):l=l':=qCC (f:=keyN cl) (λ_ _=>qGC) (qER ((h.pm.trans h'.pm.symm).map _) h.so h'.so)
theorem q41{B:Nat}{br:List Bool}{b:Nat}:b∈zW B br↔b<B∧br.getD b false=false:=by unfold zW;rw[mQ,mH,cC]
theorem q83{B:Nat}{br:List Bool}{fi:List Int}{b:Nat}:b∈u6 B br fi↔(b<B∧br.getD b false=false)∧fi.getD b 0=0:=by unfold u6;rw[mQ,q41,kR]
theorem qA3{B:Nat}{br:List Bool}:(zW B br).length≤B:=mJ (mF _ _) (by rw[mU];exact kH _)
theorem qD8{B:Nat}{br:List Bool}{fi:List Int}:(u6 B br fi).length≤B:=mJ (mF _ _) qA3
theorem FreeIs.mem{B:Nat}{br:List Bool}{cl fi:List Int}{l:List Nat}(h:FreeIs B br cl fi l){b:Nat}(hb:b∈l):b<B∧br.getD b false=false∧fi.getD b 0=0:=by have:=q83.mp (h.pm.mem_iff.mp hb);exact⟨this.1.1,this.1.2,this.2⟩
noncomputable def q0C(P:Nat)(fi:List Int)(b:Nat):Bool:=decide (0<fi.getD b 0)&&decide (fi.getD b 0<(P:Int))
noncomputable def q2T(B P:Nat)(br:List Bool)(fi:List Int):Option Nat:=(zW B br).find? (q0C P fi)
theorem q6D{B P:Nat}{br:List Bool}{fi:List Int}{b:Nat}(h:q2T B P br fi=some b):b<B∧br.getD b false=false∧0<fi.getD b 0∧fi.getD b 0<(P:Int):=by(
have h1:=q41.mp (pE h)
have h2:=xO h
unfold q0C at h2
rw[mE,kR,kR]at h2
exact⟨h1.1,h1.2,h2.1,h2.2⟩)
noncomputable def zX(B P:Nat)(br:List Bool)(fi:List Int)(l:List Nat):Option Nat:=match q2T B P br fi with
|some b=>some b
|none=>l.head?
theorem qA4{B P:Nat}{br:List Bool}{cl fi:List Int}{l:List Nat}(hl:FreeIs B br cl fi l)(hP:1≤P){b:Nat}(h:zX B P br fi l=some b):b<B∧br.getD b false=false∧0≤fi.getD b 0∧fi.getD b 0<(P:Int):=by(
unfold zX at h
split at h
·rename_i b' e;cases h;have:=q6D e;exact⟨this.1,this.2.1,by lia,this.2.2.2⟩
cases l with
|nil=>cases h
|cons c r=>cases h;have:=hl.mem kO;exact⟨this.1,this.2.1,by lia,by lia⟩)
noncomputable def pgV(P:Nat)(fi:List Int):Option Nat→V
|none=>.non
|some b=>.int ((b:Int)*(P:Int)+fi.getD b 0)
noncomputable def oV:Option Nat→V
|none=>.non
|some b=>.int (b:Int)
theorem q6E{α β:Type}{L:List α}{f:α→β}{d:β}{e:α}:∀{q:List Nat},(∀i∈q,i<L.length)→(q.map λi=>(L.map f).getD i d)=(q.map λi=>L.getD i e).map f
| [],_=>rfl
|i::q,h=>by have hi:=h i kO;rw[mZ,mZ,mZ,q6E (q:=q) λj hj=>h j (kF _ hj)];congr 1;rw[kQ,kQ,kX,hZ hi];rfl
theorem qB8{α:Type}{L:List α}{e:α}{q:List Nat}(h:q.Perm (List.range L.length)):(q.map λi=>L.getD i e).Perm L:=by(
have:=h.map λi=>L.getD i e
refine this.trans ?_
have eq:(List.range L.length).map (λi=>L.getD i e)=L:=by refine wM (by simp) λi h1 h2=>?_;rw[d9,rD,kQ,hZ h2];rfl
rw[eq])
theorem qGD{B:Nat}{br:List Bool}{cl fi:List Int}{q:List Nat}(h:q.Perm (List.range (u6 B br fi).length))(so:(q.map λi=>((u6 B br fi).map (keyN cl)).getD i []).Pairwise λa b=>lx b a=false):FreeIs B br cl fi (q.map λi=>(u6 B br fi).getD i 0):=by(
have hin:∀i∈q,i<(u6 B br fi).length:=λi hi=>mH.mp (h.mem_iff.mp hi)
refine⟨qB8 h,?_⟩
rw[q6E (e:=0) hin]at so
exact so)
theorem q84{α β:Type}{L:List α}{f:α→β}{i:Nat}{x:α}(h:L[i]?=some x):(L.take (i+1)).map f=(L.take i).map f++[f x]:=by(
have hi:=(hV.mp h).1
obtain rfl:L[i]=x:=(hV.mp h).2
rw[←mC hi,mB]
rfl)
theorem qGE{a b:List Int}(h:lx a b=true):lx b a=false:=by(
cases z:lx b a with
|false=>rfl
|true=>have:=q1Q a b a h z;rw[qB4]at this;cases this)
theorem qK6{a b c:List Int}(h1:lx b a=false)(h2:lx c b=false):lx c a=false:=by(
cases z:lx c a with
|false=>rfl
|true=>
 cases y:lx a b with
 |true=>have:=q1Q c a b z y;rw[h2]at this;cases this
 |false=>have e:=q8N a b y h1;rw[e]at z;rw[h2]at z;cases z)
theorem FreeIs.ex(B:Nat)(br:List Bool)(cl fi:List Int):∃l,FreeIs B br cl fi l:=by(
refine⟨(u6 B br fi).mergeSort λa b=>!(lx (keyN cl b) (keyN cl a)),List.mergeSort_perm _ _,?_⟩
have:=List.pairwise_mergeSort (le:=λa b=>!(lx (keyN cl b) (keyN cl a))) (λa b c h1 h2=>by
 rw[cC]at h1 h2 ⊢;exact qK6 h1 h2) (λa b=>by
 cases z:lx (keyN cl b) (keyN cl a)with
 |false=>rfl
 |true=>rw[qGE z];rfl) (u6 B br fi)
rw[dW]
exact this.imp λh=>by rw[cC]at h;exact h)
theorem rep8{α:Type}{n i:Nat}{y:α}:(List.replicate n y).getD i y=y:=by rw[kQ,dB];split<;>rfl
end W1
namespace W1
noncomputable def sumB(p:Nat→Bool):Nat→Nat
|0=>0
|n+1=>sumB p n+if p n then 2 ^ n else 0
theorem q85(x:Nat):∀n,sumB x.testBit n=x%2 ^ n
|0=>by simp[sumB,Nat.mod_one]
|n+1=>by show sumB x.testBit n+(if x.testBit n then 2 ^ n else 0)=_;rw[q85 x n,Nat.pow_succ,Nat.mod_mul,Nat.testBit_eq_decide_div_mod_eq];have:=Nat.mod_two_eq_zero_or_one (x / 2 ^ n);rcases this with h|h<;>simp[h]
theorem q6F{p q:Nat→Bool}:∀n,(∀k,k<n→p k=q k)→sumB p n=sumB q n
|0,_=>rfl
|n+1,h=>by show sumB p n+ _=sumB q n+ _;rw[q6F n λk hk=>h k (by lia),h n (by lia)]
noncomputable def orB:List Nat→Nat→Nat
| [],b=>b
|s::r,b=>orB r (b|||2 ^ s)
theorem qA5(k:Nat):∀(l:List Nat) (b:Nat),(orB l b).testBit k=(b.testBit k||decide (k∈l))
| [],b=>by simp[orB]
|s::r,b=>by
 show(orB r (b|||2 ^ s)).testBit k=_;rw[qA5 k r,Nat.testBit_or,Nat.testBit_two_pow];by_cases h:s=k
 ·simp[h]
 have:¬k=s:=λz=>h z.symm;simp[h,this]
theorem qET(n:Nat):∀(l:List Nat) (b:Nat),b<2 ^ n→(∀s∈l,s<n)→orB l b<2 ^ n
| [],b,h,_=>h
|s::r,b,h,hs=>qET n r _ (Nat.or_lt_two_pow h (Nat.pow_lt_pow_right (by decide) (hs s (kO ..)))) λx hx=>hs x (kF _ hx)
theorem qGF{l:List Nat}{n:Nat}(h:∀s∈l,s<n):orB l 0=sumB (λk=>decide (k∈l)) n:=by(
have lt:=qET n l 0 (Nat.two_pow_pos n) h
have:=q85 (orB l 0) n
rw[Nat.mod_eq_of_lt lt]at this
rw[←this]
exact q6F n λk _=>by rw[qA5];simp)
end W1
namespace W1
open PySem L2
noncomputable def linF(B P n:Nat):List Int:=(List.range B).map λb=>((min (n-b*P) P:Nat):Int)
theorem q42{B P n:Nat}:(linF B P n).length=B:=by unfold linF;rw[hU,mU]
theorem q2K{B P n b:Nat}(hb:b<B):(linF B P n).getD b 0=((min (n-b*P) P:Nat):Int):=by unfold linF;rw[kQ,kX,dH hb];rfl
theorem qIR{B P:Nat}:linF B P 0=List.replicate B 0:=by(
unfold linF
refine wM (by simp) λi h1 h2=>?_
rw[d9,List.getElem_replicate]
simp)
theorem q6G{B:Nat}:zW B (List.replicate B false)=List.range B:=by(
unfold zW
refine rO.mpr λb _=>?_
rw[rep8]
rfl)
theorem q2L{P n:Nat}(hP:0<P):n=n / P*P+n%P∧n%P<P:=qIP hP
theorem qA6{B P n:Nat}(hP:0<P)(hn:n<B*P):n / P<B∧(linF B P n).getD (n / P) 0=((n%P:Nat):Int):=by(
obtain⟨e,l⟩:=q2L (P:=P) (n:=n) hP
have hb:n / P<B:=cN (by rw[cA];exact hn)
refine⟨hb,?_⟩
rw[q2K hb]
congr 1
lia)
theorem qCD{B P n:Nat}(hP:0<P)(hn:n<B*P):(linF B P n).set (n / P) ((linF B P n).getD (n / P) 0+1)=linF B P (n+1):=by(
obtain⟨e,l⟩:=q2L (P:=P) (n:=n) hP
obtain⟨hb,ef⟩:=qA6 hP hn
rw[ef]
refine wM (by rw[gM,q42,q42]) λi h1 h2=>?_
rw[q42]at h2
have g:∀m,(h:i<(linF B P m).length)→(linF B P m)[i]=((min (m-i*P) P:Nat):Int):=λm h=>by have z:=q2K (B:=B) (P:=P) (n:=m) (b:=i) (by rw[q42]at h;exact h);rw[kQ,hZ h]at z;exact z
rw[List.getElem_set]
by_cases z:n / P=i
·rw[kG z,g];have:min (n+1-i*P) P=n%P+1:=by rw[←z];lia
 rw[this];rfl
rw[kE z,g,g]
congr 1
rcases pC z with y|y
·have:(n / P+1)*P≤i*P:=wK _ y;rw[pK,pL]at this;lia
have:(i+1)*P≤n / P*P:=wK _ y
rw[pK,pL]at this
lia)
theorem q6H{p:Nat→Bool}:∀{B k:Nat},k<B→p k=true→(∀j,j<k→p j=false)→(List.range B).find? p=some k:=fun {B k} hk hp hn=>by rw[List.find?_range_eq_some];exact⟨hp,mH.mpr hk,λj hj=>by rw[hn j hj];rfl⟩
theorem qEU{B P n:Nat}{l:List Nat}(hP:0<P)(hn:n≤B*P)(hl:FreeIs B (List.replicate B false) (List.replicate B 0) (linF B P n) l):zX B P (List.replicate B false) (linF B P n) l=if n<B*P then some (n / P)else none:=by(
obtain⟨e,r⟩:=q2L (P:=P) (n:=n) hP
have cand:FreeIs B (List.replicate B false) (List.replicate B 0) (linF B P n) (u6 B (List.replicate B false) (linF B P n)):=by
 refine⟨xX _,?_⟩;rw[dW];unfold u6;rw[q6G];refine((List.pairwise_lt_range (n:=B)).filter _).imp fun {a b} h=>?_
 unfold keyN;rw[rep8,rep8,lx2,kG rfl,kE (by lia)];exact hG (by lia)
obtain rfl:=hl.one cand
have ip:∀b,b<B→q0C P (linF B P n) b=decide (b=n / P∧n%P≠0):=λb hb=>by
 unfold q0C;rw[q2K hb,←sI];refine gE.mpr ⟨λh=>?_,λh=>?_⟩
 ·have h1:b*P<n:=by lia
  have h2:n<b*P+P:=by lia
  have e2:n / P=b:=by rw[Nat.div_eq_of_lt_le (k:=b) (by lia) (by rw[pK,pL];exact h2)]
  refine⟨e2.symm,?_⟩;rw[e2]at e;lia
 obtain⟨rfl,h⟩:=h;lia
unfold zX q2T
rw[q6G]
by_cases z:n%P=0
·have np:(List.range B).find? (q0C P (linF B P n))=none:=by rw[r9];intro b hb;rw[ip b (mH.mp hb),hG (λy=>y.2 z)];decide
 rw[np];show(u6 B (List.replicate B false) (linF B P n)).head?=_;unfold u6;rw[q6G,List.head?_filter];by_cases y:n<B*P
 ·rw[kG y];have hb:n / P<B:=cN (by rw[cA];exact y);refine q6H hb ?_ λj hj=>?_
  ·rw[q2K hb];exact hI (by lia)
  have hj':j<B:=by lia
  have:(j+1)*P≤n / P*P:=wK _ hj;rw[pK,pL]at this;rw[q2K hj'];exact hG (by lia)
 rw[kE y,r9];intro b hb;have hb:=mH.mp hb;have:(b+1)*P≤B*P:=wK _ hb;rw[pK,pL]at this;rw[q2K hb,hG (by lia)];decide
have y:n<B*P:=by
 rcases Nat.lt_or_eq_of_le hn with y|y
 ·exact y
 rw[y,Nat.mul_mod_left]at z;exact absurd rfl z
have hb:n / P<B:=cN (by rw[cA];exact y)
have fp:(List.range B).find? (q0C P (linF B P n))=some (n / P):=by
 refine q6H hb ?_ λj hj=>?_
 ·rw[ip _ hb];exact hI ⟨rfl,z⟩
 rw[ip j (by lia)];exact hG (λw=>by lia)
rw[fp,kG y])
end W1
namespace L2
open PySem PySem.W PySem.Spec PyProof.Rows
section
variable{X:Cx}
theorem q0Y(hc:X.calm=true):zC X (.builtin "sorted") (λxs H Q=>∃(a:Addr) (ks:List (Int×Int)),xs=[.ref a]∧H a=some (.dK (dI ks))∧ks.length<64∧∀ns':List Int,ns'.Perm (ks.map (·.1))→ns'.Pairwise (·≤·)→NewO H (.lst (ns'.map V.int)) Q):=by(
intro pins s σ H xs us Q I r hZ
obtain⟨a,ks,ex,ha,h64,q⟩:=hZ
subst ex
obtain⟨u,rfl,rx⟩:=zP r
cases rx
obtain⟨z,lo,ws,rel,dd⟩:=q3U I.hok ha
obtain⟨ep,hat⟩:=dd.dictAt
have hwl:ks.length=ws.length:=by rw[←rel.length];unfold dI;rw[hU]
refine Calls.call_function_entry kind_sorted plain_sorted entry_sorted (args_sorted1 _) ?_
unfold Builtin.«sorted»
refine kD (m:=checkCount "sorted" 1 1 _) (kZ ?_)
refine kD (kdu_collect (A:=X.A.in1) (kdl_dict (knd:=jA X.prog X.w) (kvs:=ws) (ep:=ep) lo) (I.ok.hd hc) hat (by rw[gR];lia) λh' tk acc hk hacc=>?_)
have I1:Inv X pins σ H { s with heap:=h',toks:=tk }:=I.kept (t':=tk) hk
have hal:acc.toList.length=ks.length:=by rw[gJ,hacc.1,hwl]
have rv:Vals ((ks.map (·.1)).map V.int) acc.toList:=q80 (by rw[hU,hU,hal]) λj x v hx hv=>by
 rw[cF]at hv;obtain⟨k,y,hw,hi⟩:=hacc.2 j v hv;have hj:j<ks.length:=by have:=(hV.mp hw).1;lia
 rw[kX,kX,hZ hj]at hx;obtain rfl:V.int ks[j].1=x:=kI hx;have hd:(dI ks)[j]?=some ((.inl ks[j].1:Key),V.int ks[j].2):=by unfold dI;rw[kX,hZ hj];rfl
 obtain⟨q',hq',e1,e2⟩:=Paired.at rel hd;rw[hw]at hq';obtain rfl:=kI hq';have e1:(.inl ks[j].1:Key)=k:=e1;have:=qEC (k:=k) hi;rw[←e1]at this;exact this
have hi:=q3X rv
refine kD (lI ?_ (by rw[hal,gR];lia))
have g:(h'.push (seqObj "list" acc.toList.toArray 0)).get? h'.objs.size=some (seqObj "list" acc.toList.toArray 0):=k7 _ rfl
show wpAny _ _ _ _ _ { s with heap:=h'.push (seqObj "list" acc.toList.toArray 0),toks:=tk }
refine kD (gH (wpAny_call_entry slot_list_sort ⟨_,g,rfl⟩ entry_list_sort (list_sort_tree g hi (by rw[hal];exact h64) λout ns' a1 a2 a3=>⟨_,rfl,?_⟩) (args_list_sort _)))
refine kZ ⟨_,rfl,?_⟩
have old:∀b o,h'.get? b=some o→(sortedHeap (h'.push (seqObj "list" acc.toList.toArray 0)) h'.objs.size acc.toList out).get? b=some o:=λb o e=>by rw[sortedHeap_old (mD (kL e)) (by rw[xZ];exact gX (kL e))];exact hX _ e
obtain⟨e,he⟩:=sortedHeap_at (vs:=acc.toList) (out:=out) g
have hz':(ns'.map V.int).length≤sizeLine:=by rw[hU,a2.length_eq,hU,gR];lia
exact⟨.ref h'.objs.size,_,I1.laid (t':=tk) (λb o e=>old b o e) (kH _) (show jU X.prog X.w _ _ _ (.lst _)from⟨hz',out.toList,e,q0W a1,by simpa[seqObj]using he⟩),rfl,(q ns' a2 a3).at _ (I1.hok.fresh (kH _))⟩)
end
end L2
namespace L2
open PySem PySem.Spec PyProof.Rows
section
variable{H0:Hp}{σ:St}
theorem XAny.same{H H':Hp}{ea:Addr}{C:Value}{od:Option Addr}(s:Same H H')(h:XAny H ea C od):XAny H' ea C od:=h.imp (s _ _) (s _ _)
end
structure PEw(X:Cx)(e:Expr)(t:TE):Prop where
h:PE X e t
structure PAw(X:Cx)(es:List Expr)(t:TA):Prop where
h:PA X es t
structure PSw(X:Cx)(st:Stmt)(t:TS):Prop where
h:PS X st t
structure PBw(X:Cx)(st:List Stmt)(t:TS):Prop where
h:PSs X st t
section
variable{X:Cx}{st:Stmt}{rest:List Stmt}{t u:TS}
theorem qK7{b:List Stmt}{D:Ends}{σ:St}{H:Hp}:(∃t,PBw X b t∧t D σ H)→∃t,PSs X b t∧t D σ H:=λ⟨t,p,q⟩=>⟨t,p.h,q⟩
theorem yY(h1:PSw X st t)(h2:PBw X rest u):PBw X (st::rest) (tSeq t u):=⟨qB h1.h h2.h⟩
theorem q43{i:Nat}{x:Str}{e:Expr}{te:TE}{pos pos':Pos}(hN:X.N.Nodup)(hi:X.N[i]?=some x)(hx:Loc X.env.scope x)(he:PEw X e te)(hs:swapsWith e (some (.Name x pos')) pos.line X.env=pure false)(hf:X.fn x=true∨X.env.scope.names.lookup x=some .local:=by first|exact .inl rfl|exact .inr rfl|assumption):
 PSw X (.Assign [.Name x pos'] e pos) (tAsg te (zB i)):=⟨qW hN hi hx he.h hs hf⟩
theorem jW{i j pos}:PEw X (.Constant (.int i) j pos) (tC (.int i)):=⟨qJ⟩
theorem q8R{b j pos}:PEw X (.Constant (.bool b) j pos) (tC (.bl b)):=⟨q2Q⟩
theorem qCE{j pos}:PEw X (.Constant .none j pos) (tC .non):=⟨uO⟩
theorem jF{x j pos}:PEw X (.Constant (.str x) j pos) (tC (.str x)):=⟨qI⟩
theorem pvW(i:Nat){x:Str}{pos:Pos}(hN:X.N[i]?=some x:=by rfl)(hv:Vis X.env.scope x:=by first|exact Or.inl rfl|exact Or.inr (Or.inl rfl)|exact Or.inr (Or.inr rfl))(hd:(x==("__debug__":Str))=false:=by decide)
 (hcd:(x==("__classdict__":Str))=false:=by decide):PEw X (.Name x pos) (tVar i):=⟨pv i hN hv hd hcd⟩
theorem yG{op:Operator}{r:R2}{a b:Expr}{ta tb:TE}{pos:Pos}(ho:OpR X (binaryOp op) r)(ha:PEw X a ta)(hb:PEw X b tb):PEw X (.BinOp a op b pos) (tOp r ta tb):=⟨qT ho ha.h hb.h⟩
theorem qEV{op:UnaryOp}{r:V→Hp→VK→Prop}{a:Expr}{ta:TE}{pos:Pos}(ho:UnR X (unaryOp op) r)(ha:PEw X a ta):PEw X (.UnaryOp op a pos) (tUn r ta):=⟨qGU ho ha.h⟩
theorem q0Z:PAw X [] tNil:=⟨qE⟩
theorem qY{e:Expr}{es:List Expr}{te:TE}{t:TA}(ha:PEw X e te)(hr:PAw X es t)(hs:starEach (e::es) X.env=(false,eval e X.env)::starEach es X.env:=by rfl):PAw X (e::es) (q62 te t):=⟨qA ha.h hr.h hs⟩
theorem zY{es:List Expr}{t:TA}{pos:Pos}(h:PAw X es t):PEw X (.List es pos) (qE1 t):=⟨jX h.h⟩
end
noncomputable def mK(k:Key)(a:List Key):Bool:=a.any λy=>decide (y=k)
theorem q4N{k:Key}{a:List Key}:mK k a=true↔k∈a:=by(
unfold mK
rw[rT]
constructor
·rintro⟨y,hy,e⟩
 exact gQ e▸hy
exact λh=>⟨k,h,hI rfl⟩)
noncomputable def unS(a:List Key)(k:Key):List Key:=if mK k a=true then a else a++[k]
noncomputable def unl(ks:List Key):List Key:=ks.foldl unS []
theorem q8S:∀(ks a:List Key),a.Nodup→(ks.foldl unS a).Nodup∧(∀x,x∈ks.foldl unS a↔x∈a∨x∈ks)∧(ks.foldl unS a).length≤a.length+ks.length
| [],a,n=>⟨n,by simp,by simp⟩
|k::r,a,n=>by
 have st:(unS a k).Nodup∧(∀x,x∈unS a k↔x∈a∨x=k)∧(unS a k).length≤a.length+1:=by
  unfold unS;split
  ·rename_i z;exact⟨n,λx=>⟨.inl,λy=>y.elim id λe=>e▸q4N.mp z⟩,by lia⟩
  rename_i z;exact⟨gA.mpr ⟨n,by simp,λx hx y hy e=>z (q4N.mpr (by rw[←kJ.mp hy,←e];exact hx))⟩,by simp,by simp⟩
 obtain⟨h1,h2,h3⟩:=q8S r (unS a k) st.1;refine⟨h1,λx=>?_,?_⟩
 ·rw[cT,h2,st.2.1,kW,or_assoc]
 rw[cT,gD];have:=st.2.2;lia
theorem qD9{ks:List Key}:(unl ks).Nodup:=(q8S ks [] rV).1
theorem q8T{ks:List Key}{x:Key}:x∈unl ks↔x∈ks:=by rw[show(x∈unl ks)=(x∈ks.foldl unS [])from rfl,(q8S ks [] rV).2.1];simp
theorem qCF{ks:List Key}:(unl ks).length≤ks.length:=by have:=(q8S ks [] rV).2.2;simpa[unl]using this
theorem qEW{ks:List Key}{i:Nat}{k:Key}(h:ks[i]?=some k):unl (ks.take (i+1))=unS (unl (ks.take i)) k:=by(
obtain⟨hi,rfl⟩:=hV.mp h
unfold unl
rw[←mC hi,xA]
rfl)
theorem qGG:∀{k:Key} {v:Value},RelV (kV k) v→zN k v=true∧v.scannable=true
| .inl i,v,h=>by obtain⟨t,rfl⟩:=h;exact⟨q7H i t,rfl⟩
| .inr x,v,h=>by obtain⟨t,rfl⟩:=h;exact⟨q7I x t,rfl⟩
section
variable{P:Program}{w:World}{A:Around}{E:Value→Shared→Prop}{s:Shared}{I:Addr}{fp wr:List Addr}{G:Array GenState→Array GenState→Prop}{n:Nat}{C:Nat→Value→Prop}{St:Nat→Shared→Prop}
theorem q37{h h':Heap}{a:Addr}{S:Key→Bool}{n:Nat}(x:h.SetOf (jA P w) a S n)(k:∀o,h.get? a=some o→h'.get? a=some o):h'.SetOf (jA P w) a S n:=by obtain⟨o,es,ep,tb,ho,r⟩:=x;exact⟨o,es,ep,tb,k o ho,r⟩
theorem qEX{R:Result→Shared→Prop}(W:WalksS P w A.in1 I fp wr G n C St)(a:Addr)(na:a∉fp)(ks:List Key)(ln:ks.length=n)(hv:∀i v,C i v→∃k,ks[i]?=some k∧RelV (kV k) v)(hb:n+1<scanBound):
 ∀(j i:Nat) (s:Shared),n-i=j→i≤n→St i s→s.heap.SetOf (jA P w) a (λx=>mK x (ks.take i)) (unl (ks.take i)).length→(∀s',Moved (a::wr) G s s'→s'.heap.SetOf (jA P w) a (λx=>mK x ks) (unl ks).length→R (.ok (.ret .none)) s')→codeAny (model P w) A (.builtin "set.update.loop" ⟨[.ref a,.ref I],[]⟩) R s:=by(
have nw:a∉wr:=λh=>na (W.sub _ h)
have sb:∀b∈wr,b∈a::wr:=λb hb=>kF _ hb
intro j
induction j with
|zero=>
 intro i s hj hi st hS hR;obtain rfl:i=n:=by lia
 refine sJ pT ?_;rw[nN wW _];refine kD (m:=pyNext (.ref I)) (W.done s _ _ st λs' hm=>?_);refine kZ (hR s' (hm.mono sb) ?_);rw[←ln,mW]at hS;exact q37 hS λo e=>hm.heap a _ nw e
|succ j ih=>
 intro i s hj hi st hS hR;have lt:i<n:=by lia
 refine sJ pT ?_;rw[nN wW _];refine kD (m:=pyNext (.ref I)) (W.item i s _ _ lt st λv s' hC st' hm=>?_);obtain⟨k,hk,rk⟩:=hv i v hC;have hS':=q37 hS λo e=>hm.heap a _ nw e;obtain⟨ki,sc⟩:=qGG rk;refine kD (m:=holding [v] (setAdd a v)) (gH ?_);unfold setAdd;refine gH (kD ((jA P w).pyHash (k:=k) ki ?_));have rm:(unl (ks.take i)).length+1<scanBound:=by have:=qCF (ks:=ks.take i);rw[m9]at this;lia
 refine wpAny_setAddHashed_of (knd:=jA P w) (s:={ s' with toks:=s'.toks+1 }) ki sc hS' rm λh' hsb h2=>?_;have e3:h'.SetOf (jA P w) a (λx=>mK x (ks.take (i+1))) (unl (ks.take (i+1))).length:=by
  have e1:(λx=>mK x (ks.take i)||decide (x=k))=λx=>mK x (ks.take (i+1)):=by funext x;obtain⟨hi',rfl⟩:=hV.mp hk;rw[←mC hi'];unfold mK;rw[List.any_append,wD,List.any_nil,pM];congr 1;exact gE.mpr ⟨Eq.symm,Eq.symm⟩
  have e2:(if mK k (ks.take i)=true then(unl (ks.take i)).length else(unl (ks.take i)).length+1)=(unl (ks.take (i+1))).length:=by
   rw[qEW hk];unfold unS;by_cases z:k∈ks.take i
   ·rw[kG (q4N.mpr z),kG (q4N.mpr (q8T.mpr z))]
   rw[kE (λy=>z (q4N.mp y)),kE (λy=>z (q8T.mp (q4N.mp y))),mL];rfl
  rw[←e1,←e2];exact h2
 refine kZ ⟨plainId_quiet wW _,ih (i+1) _ (by lia) lt (W.frame _ s' _ _ st' (d7 _) λb hb o e=>?_) e3 λs'' m'' S''=>?_⟩
 ·rw[hsb.2 b (λz=>na (z▸hb))];exact e
 refine hR s'' (Moved.trans W.gtrans ((hm.mono sb).then_heap (d7 _) λb o hb e=>?_) m'') S'';rw[hsb.2 b (λz=>hb (z▸kO))];exact e)
noncomputable abbrev setN(led:Bool):Obj:={ cls:=.type "set",dict:=none,data:=.set #[] 0 (.fresh 0 0 led) }
theorem qA7{l:Addr}{its:Array Value}{ks:List Key}{Q:Value→Shared→Prop}(hh:A.handled=none)(hl:s.heap.IsList l its)(hv:∀(i:Nat) (v:Value),its[i]?=some v→∃k,ks[i]?=some k∧RelV (kV k) v)(ln:ks.length=its.size)(hb:its.size+1<scanBound)
 (h:∀(h':Heap) (tk:Nat),h'.SetOf (jA P w) s.heap.objs.size (λx=>mK x ks) (unl ks).length→(∀b o,b<s.heap.objs.size→s.heap.get? b=some o→h'.get? b=some o)→Q (.ref s.heap.objs.size) { s with heap:=h',toks:=tk }):
 wpAny (model P w) A (call (.type "set") [.ref l]) Q E s:=by(
obtain⟨c,tl,hmro⟩:=wA.mro
have z1:=wA.made
have z2:=wA.sub
refine wH (codeAny_of_tree (show wpAny _ _ (callAny (.type "set") _) _ _ _ from kZ ⟨Code.quiet_builtin _ (by decide+kernel),sJ F.entry_type_call ?_⟩))
rw[Around.under_plain (weight_type_call_type "set" [.ref l] []) rfl]
have z3:=wA.notType
have z4:=wA.canCreate
have z5:=F.typeCall_set_1 (.ref l)
repeat (any_goals (first|assumption|wp_step))
refine dS (code_set_new_1 (.ref l) (E:=E) (Q₁:=λobj s₁=>∃led:Bool,obj=.ref s.heap.objs.size∧s₁= { s with heap:=s.heap.push (setN led) }) λled=>⟨led,rfl,rfl⟩) λr s₁ hr=>?_
cases r with
|error e=>exact hr
|ok fl=>
 cases fl with
 |ret obj=>
  obtain⟨led,rfl,rfl⟩:=hr;have hS:(s.heap.push (setN led)).get? s.heap.objs.size=some (setN led):=k7 _ rfl;have hT:Shared.TypeIs { s with heap:=s.heap.push (setN led) } (.ref s.heap.objs.size) "set":=⟨_,hS,rfl⟩;have z6:=wA.init.lookup;have z7:=wA.init.bind (.ref s.heap.objs.size);repeat (any_goals (first|assumption|wp_step))
  refine dS (nM (R:=wants (λr s₂=>r=.none∧∃h' tk,s₂= { s with heap:=h',toks:=tk }∧h'.SetOf (jA P w) s.heap.objs.size (λx=>mK x ks) (unl ks).length∧(∀b o,b<s.heap.objs.size→s.heap.get? b=some o→h'.get? b=some o)) E) wA.init.plain F.entry_set_init (check_set_init_1 hT ?_)) λr₂ s₂ hr₂=>?_
  ·obtain⟨ol,hol,hcl,nl,hdl⟩:=hl;obtain⟨oc,od,oda,osl⟩:=ol;simp only at hcl hdl;subst hcl hdl;have hol':(s.heap.push (setN led)).get? l=some { cls:=.type "list",dict:=od,data:=.seq its nl,slots:=osl }:=hX _ hol;have z8:=F.sub_list_set;have z9:=F.sub_list_frozenset;have hne:(Value.type "list"==Value.type "dict")=false:=by decide
   have hl1:(s.heap.push (setN led)).IsList l its:=⟨_,hol',rfl,nl,rfl⟩;unfold Builtin.«set.__init__» noKeywords Builtin.Frozenset.updateFrom;generalize hPI:pyIter=PI;wp_walk
   subst hPI;refine pG hl1 (kD (wpAny_runValue ?_));have lS:l<s.heap.objs.size:=kL hol;have h3:A.in1.in1.in1.handled=none:=by simp[hh]
   have nI:l≠(s.heap.push (setN led)).objs.size:=by rw[rP];lia
   have nf:s.heap.objs.size∉[(s.heap.push (setN led)).objs.size,l]:=by rw[rP];simp;lia
   refine qEX ((xW h3 _ l nI its).toS) s.heap.objs.size nf ks ln hv hb (its.size-0) 0 _ (by lia) (mS _) ⟨⟨_,k7 _ rfl,rfl,rfl⟩,hl1.push _⟩ ?_ ?_
   ·exact⟨_,#[],0,_,hX _ hS,⟨rfl,rfl,rfl⟩,rfl,λe he=>by simp at he,λk=>⟨λz=>(by cases z),λ⟨e,he,_⟩=>by simp at he⟩,by decide,rfl,rfl⟩
   intro s' hm hS';obtain⟨h',g',d',tk',os'⟩:=s';obtain rfl:g'=s.gens:=hm.gens;obtain rfl:d'=s.drawn:=hm.drawn;obtain rfl:os'=s.os:=hm.os;refine show wpAny _ _ _ _ _ _ from kZ (show wpAny _ _ (ret Value.none) _ _ _ from kZ ⟨rfl,h',tk',rfl,hS',λb o hb e=>?_⟩)
   refine hm.heap b o ?_ (hX _ (hX _ e));rw[rP];simp;lia
  cases r₂ with
  |error e=>exact hr₂
  |ok fl₂=>
   cases fl₂ with
   |ret r=>
    obtain⟨rfl,h',tk,rfl,hS',hk'⟩:=hr₂;repeat (any_goals (first|assumption|wp_step))
    exact h _ _ hS' hk'
   |_=>exact hr₂.elim
 |_=>exact hr.elim)
end
noncomputable def setO(P:Program)(w:World)(a:Addr)(n:Nat):HO:=.ext λh=>∃S,h.SetOf (jA P w) a S n
section
variable{X:Cx}
theorem qDA(hc:X.calm=true):zC X (.type "set") (λxs H Q=>∃(p:Addr) (ks:List Key),xs=[.ref p]∧SqL X.K H p (ks.map kV)∧ks.length<1000∧∀a H',H a=none→Same H H'→H' a=some (setO X.prog X.w a (unl ks).length)→Q (.ref a) H'):=by(
intro pins s σ H xs us Q I r hZ
obtain⟨p,ks,ex,hq,h1,q⟩:=hZ
subst ex
obtain⟨u,rfl,rx⟩:=zP r
cases rx
obtain⟨its,rv,pl,hz⟩:=I.list hq
have hlen:its.length=ks.length:=by rw[←rv.length,hU]
have sb:(1001:Nat)<scanBound:=by decide
refine qA7 (ks:=ks) (I.ok.hd hc) pl.isList (λi v hv=>?_) (by simp[hlen]) (by simp;lia) λh' tk hs hk=>?_
·have hv:its[i]?=some v:=by simpa using hv
 have hi:i<its.length:=(hV.mp hv).1;obtain⟨u,hu,ru⟩:=rv.get (i:=i) (x:=kV (ks[i]'(by lia))) (by rw[kX,hZ (by lia)];rfl);rw[hv]at hu;cases hu;exact⟨_,hZ (by lia),ru⟩
refine⟨.ref s.heap.objs.size,_,I.laid (λb o e=>hk b o (kL e) e) (kH _) (show jU X.prog X.w _ _ _ (setO X.prog X.w s.heap.objs.size (unl ks).length)from⟨⟨_,hs⟩,?_,λh1 h2 ⟨S,x⟩ k=>⟨S,q37 x k⟩⟩),rfl,q _ _ (I.hok.fresh (kH _)) (Same.upd (I.hok.fresh (kH _))) qF⟩
obtain⟨o,_,_,_,e,_⟩:=hs
exact⟨o,e⟩)
theorem qDB:zC X (.builtin "len") (λxs H Q=>∃a n,xs=[V.ref a]∧H a=some (setO X.prog X.w a n)∧n<1000∧Q (.int (n:Nat)) H):=by(
intro pins s σ H xs us Q I r hZ
obtain⟨a,n,ex,hq,h1,q⟩:=hZ
subst ex
obtain⟨u,rfl,rx⟩:=zP r
cases rx
obtain⟨⟨S,ho⟩,_⟩:=I.hok a _ hq
obtain⟨o,es,ep,t,a1,a2,a3,a4,a5,a6,a7,a8⟩:=ho
subst a8
exact call_len_set a1 a2 a3 a7 (by lia) ⟨.int _,H,I.kept λb o e=>e,⟨_,rfl⟩,q⟩)
theorem q86:OpR X (compareOp .LtE) (λx y H Q=>∃i j,x=.str i∧y=.str j∧Q (.bl (!decide (j.cps.toList<i.cps.toList))) H):=by(
intro pins s σ H x y v u Q I rx ry h
obtain⟨i,j,rfl,rfl,q⟩:=h
obtain⟨t,rfl⟩:=rx
obtain⟨t',rfl⟩:=ry
exact PySem.P.le_str (jQ I q rfl))
end
noncomputable def sg(c:Nat):V:=.str ⟨#[c]⟩
noncomputable def Its(x:Str):It:=⟨λi _=>i<x.cps.toList.length,λi H v H'=>H'=H∧∃c,x.cps.toList[i]?=some c∧v=sg c,λi _=>x.cps.toList.length≤i⟩
theorem qEY{P:Program}{w:World}{K:PySem.W.Frag}{tg:Expr}(x:Str)(t:Tok)(it:Addr){ty:String}(hty:ty="str_ascii_iterator"∨ty="str_iterator"):Turn P w K tg (Its x) [it] it (λi h=>h.IsStrIter it ty x t i) where
mem:=by simp
obj:=λi h st b hb=>by
 obtain rfl:b=it:=by simpa using hb
 obtain⟨o,e,c,d⟩:=st;exact⟨o,e,λv z=>by rw[d]at z;cases z⟩
keep:=λi h h' st k=>by obtain⟨o,e,r⟩:=st;exact⟨o,k it (by simp) o e,r⟩
item:=by
 intro X hP hw hK hc i pins s σ H E I hf st hg;subst hP hw hK;obtain⟨f0,f1,f2,f3,f4,f5⟩:=hf it (by simp);have hg:i<x.cps.toList.length:=hg;have e1:x.cps[i]?=some (x.cps.toList[i]):=by rw[←cF];exact hZ hg
 have go:∀h':Heap,h'.IsStrIter it ty x t (i+1)→Heap.SameBut it s.heap h'→(["enumerate","zip","dict_itemiterator","dict_reverseitemiterator","odict_iterator","itertools.zip_longest","itertools.pairwise"].contains ty=false)→∃u,some (Value.str ⟨#[x.cps.toList[i]]⟩ s.toks)=some u∧wpAny (model X.prog X.w) X.A (letOwnedTupleGo tg (.ref it) u) (λ_ s2=>∃y H',Inv X pins σ H' s2∧RelV y u∧(Its x).yld i H y H'∧s2.heap.IsStrIter it ty x t (i+1)∧∀b∈[it],H' b=none) E { s with heap:=h',toks:=s.toks+1 }:=by intro h' st' sb hn;have I1:Inv X pins σ H { s with heap:=h',toks:=s.toks+1 }:=I.turned (t':=s.toks+1) (λb o hb e=>(sb.2 b hb).trans e) f0 f1 f3 f4 f5;obtain⟨o,e,c,d⟩:=id st';exact⟨_,rfl,qBN (s:={ s with heap:=h',toks:=s.toks+1 }) e c d hn ⟨sg _,H,I1,⟨_,rfl⟩,⟨rfl,_,hZ hg,rfl⟩,st',λb hb=>(hf b hb).1⟩⟩
 rcases hty with rfl|rfl
 ·exact wpAny_pyNext_ascii_item st e1 λh' a b=>go h' a b (by decide)
 exact wpAny_pyNext_wide_item st e1 λh' a b=>go h' a b (by decide)
done:=by
 intro X hP hw hK hc i pins s σ H E I hf st hg;subst hP hw hK;obtain⟨f0,f1,f2,f3,f4,f5⟩:=hf it (by simp);have hg:x.cps.toList.length≤i:=hg;have e1:x.cps[i]?=none:=by rw[←cF];exact rF hg
 rcases hty with rfl|rfl
 ·exact wpAny_pyNext_ascii_end (I.ok.hd hc) st e1 λh' eb=>⟨rfl,I.turned (t':=s.toks) (λb o hb e=>eb b o hb e) f0 f1 f3 f4 f5⟩
 exact wpAny_pyNext_wide_end (I.ok.hd hc) st e1 λh' eb=>⟨rfl,I.turned (t':=s.toks) (λb o hb e=>eb b o hb e) f0 f1 f3 f4 f5⟩
self:=λ_ _ _ _ _ st h=>by
 rcases hty with rfl|rfl
 ·exact wpAny_pyIter_striter_ascii st h
 exact wpAny_pyIter_striter_wide st h
noncomputable def iStr(tl:TE):TI:=λσ H R=>tl σ H λx H1=>∃z,x=.str z∧R (Its z) H1
theorem qIS{X:Cx}{tg l:Expr}{tl:TE}(hl:PE X l tl):PI X tg l (iStr tl):=by(
intro pins s σ H R I h
refine thn (hl pins s σ H _ I h) λv s1 hZ=>?_
obtain⟨x,H1,I1,r1,q1⟩:=hZ
obtain⟨z,rfl,q⟩:=q1
obtain⟨t,rfl⟩:=r1
have fin:∀ty,(ty="str_ascii_iterator"∨ty="str_iterator")→PIE X pins σ tg R (.ref s1.heap.objs.size) { s1 with heap:=s1.heap.push { cls:=.type ty,data:=.fields #[.str z t,.int 0 0] } }:=by
 intro ty hty;refine⟨s1.heap.objs.size,[s1.heap.objs.size],_,_,H1,rfl,I1.kept (t':=s1.toks) λb o e=>hX _ e,qEY z t _ hty,⟨_,k7 _ rfl,rfl,rfl⟩,λb hb=>?_,q⟩;obtain rfl:b=s1.heap.objs.size:=by simpa using hb
 exact I1.fpOk (kH _) (I1.hok.fresh (kH _))
cases ha:z.cps.all (· < 128)
·exact wpAny_pyIter_wide ha (fin _ (.inr rfl))
exact wpAny_pyIter_ascii ha (fin _ (.inl rfl)))
theorem qGH{x:Str}{D:Addr}{H2:Hp}{g:TG}{tc:TT}{te:TE}{σ0:St}{R:Hp→Prop}(Pv:Nat→Hp→Prop)(h0:Pv 0 H2)
 (hs:∀(i:Nat) c H,x.cps.toList[i]?=some c→Pv i H→g (sg c) σ0 H λσ5 H5=>tc σ5 H5 λb H6=>if b=true then te σ5 H6 (λv H7=>∃vs,H7 D=some (.lst vs)∧vs.length<sizeLine∧Pv (i+1) (upd H7 D (.lst (vs++[v]))))else Pv (i+1) H6) (hd:∀H,Pv x.cps.toList.length H→R H):
 ∃W:Nat→Nat→Hp→Prop,(∃m,W 0 m H2)∧∀i m H3,W i m H3→((Its x).stop i H3∧R H3)∨((Its x).go i H3∧∃N:Hp→Prop,(∀H',N H'→∃m',m'<m∧W (i+1) m' H')∧∀v H4,(Its x).yld i H3 v H4→g v σ0 H4 λσ5 H5=>tc σ5 H5 λb H6=>
   if b=true then te σ5 H6 (λv H7=>∃vs,H7 D=some (.lst vs)∧vs.length<sizeLine∧N (upd H7 D (.lst (vs++[v]))))else N H6):=by(
refine⟨λi m H=>m=x.cps.toList.length-i∧i≤x.cps.toList.length∧Pv i H,⟨_,rfl,mS _,h0⟩,?_⟩
rintro i m H ⟨rfl,hi,p⟩
by_cases hlt:i<x.cps.toList.length
·refine .inr ⟨hlt,Pv (i+1),λH' z=>⟨x.cps.toList.length-(i+1),by lia,rfl,by lia,z⟩,?_⟩;rintro v H4 ⟨rfl,c,hc,rfl⟩
 exact hs i c _ hc p
obtain rfl:i=x.cps.toList.length:=by lia
exact .inl ⟨kH _,hd _ p⟩)
theorem qGI{x:Str}{k:Nat}{D:Addr}{H2:Hp}{te:TE}{σ0:St}{R:Hp→Prop}(Pv:Nat→Hp→Prop)(h0:Pv 0 H2)
 (hs:∀(i:Nat) c H,x.cps.toList[i]?=some c→Pv i H→te (σ0.set k (some (sg c))) H (λv H7=>∃vs,H7 D=some (.lst vs)∧vs.length<sizeLine∧Pv (i+1) (upd H7 D (.lst (vs++[v]))))) (hd:∀H,Pv x.cps.toList.length H→R H):
 ∃W:Nat→Nat→Hp→Prop,(∃m,W 0 m H2)∧∀i m H3,W i m H3→((Its x).stop i H3∧R H3)∨((Its x).go i H3∧∃N:Hp→Prop,(∀H',N H'→∃m',m'<m∧W (i+1) m' H')∧∀v H4,(Its x).yld i H3 v H4→zB k v σ0 H4 λσ5 H5=>q1N σ5 H5 λb H6=>if b=true then te σ5 H6 (λv H7=>∃vs,H7 D=some (.lst vs)∧vs.length<sizeLine∧N (upd H7 D (.lst (vs++[v]))))else N H6):=qGH Pv h0 (λi c H hc hp=>hs i c H hc hp) hd
noncomputable def qA8:Value→Bool
| .bool true=>true
|_=>false
theorem qEZ{v:Value}(h:qA8 v=true):v=.bool true:=by(
unfold qA8 at h
split at h
·rfl
cases h)
noncomputable def key5:Option Key→Value→Bool
|none,.none=>true
|none,_=>false
|some k,v=>zN k v||(decide (k=Sum.inl 1)&&qA8 v)
theorem uU{v:Value}(h:key5 none v=true):v=.none:=by cases v<;>first|rfl|cases h
theorem zM{k:Key}{v:Value}(h:key5 (some k) v=true):zN k v=true∨(k=Sum.inl 1∧v=.bool true):=by have h:(zN k v||(decide (k=Sum.inl 1)&&qA8 v))=true:=h;rw[g8,mE,kR]at h;exact h.imp id λh=>⟨h.1,qEZ h.2⟩
theorem qGJ{k:Key}{v:Value}(h:zN k v=true):key5 (some k) v=true:=by show(zN k v||_)=true;rw[h,aM]
theorem qDC{prog:Program}{w:World}{A:Around}{E:Value→Shared→Prop}{s:Shared}{Q:Int→Shared→Prop}(h:Q (hashInt 1) { s with toks:=s.toks+1 }):wpAny (model prog w) A (pyHash (.bool true)) Q E s:=by unfold PySem.pyHash;exact lE (T:="bool") rfl F.slot_bool_hash F.entry_int_hash (F.args_int_hash_1 _) (beq_builtin_none _) (.inl rfl) (kD (kZ (kD (wpAny_mkInt (kZ ⟨_,_,rfl,h⟩)))))
noncomputable def qK8(w:World):Option Key→Int
|none=>PySem.reduceHash 0xFCA86420
|some k=>keyH w k
theorem uP{k:Key}{v:Value}(h:key5 (some k) v=true):(∃i t,k=Sum.inl i∧v=Value.int i t)∨(∃x t,k=Sum.inr x∧v=Value.str x t)∨(k=Sum.inl 1∧v=.bool true):=by(
rcases zM h with h|h
·rcases jM h with h|h
 ·exact .inl h
 exact .inr (.inl h)
exact .inr (.inr h))
noncomputable def q59(P:Program)(w:World):PySem.KeyKind P w (Option Key) where
is:=key5
hash:=qK8 w
inj:=λv a b ha hb=>by
 cases a with
 |none=>
  obtain rfl:=uU ha;cases b with
  |none=>rfl
  |some k=>rcases uP hb with⟨_,_,_,e⟩|⟨_,_,_,e⟩|⟨_,e⟩<;>cases e
 |some k=>
  cases b with
  |none=>obtain rfl:=uU hb;rcases uP ha with⟨_,_,_,e⟩|⟨_,_,_,e⟩|⟨_,e⟩<;>cases e
  |some j=>rcases uP ha with⟨_,_,rfl,rfl⟩|⟨_,_,rfl,rfl⟩|⟨rfl,rfl⟩<;>rcases uP hb with⟨_,_,rfl,e⟩|⟨_,_,rfl,e⟩|⟨rfl,e⟩<;>cases e<;>rfl
byValue:=λk v h=>by
 cases k with
 |none=>obtain rfl:=uU h;rfl
 |some k=>rcases uP h with⟨_,_,rfl,rfl⟩|⟨_,_,rfl,rfl⟩|⟨rfl,rfl⟩<;>rfl
pyHash:=fun {A E s k v Q} hv h=>by
 cases k with
 |none=>obtain rfl:=uU hv;unfold PySem.pyHash;exact lE (T:="NoneType") rfl F.slot_NoneType_hash F.entry_NoneType_hash (F.args_NoneType_hash_1 _) (beq_builtin_none _) (.inl rfl) (kD (kZ (kD (wpAny_mkInt (kZ ⟨_,_,rfl,h⟩)))))
 |some k=>
  rcases zM hv with z|⟨rfl,rfl⟩
  ·exact(jA P w).pyHash (k:=k) z h
  exact qDC h
eqBool:=fun {A E s a b u v Q} hu hv h=>by
 cases a with
 |none=>
  obtain rfl:=uU hu;cases b with
  |none=>obtain rfl:=uU hv;exact cS _ _ _ _ _ h
  |some j=>
   rcases uP hv with⟨i,t,rfl,rfl⟩|⟨x,t,rfl,rfl⟩|⟨rfl,rfl⟩
   ·exact nS _ _ _ _ _ _ h
   ·exact nU _ _ _ _ _ _ h
   exact sZ _ _ _ _ _ h
 |some k=>
  cases b with
  |none=>
   obtain rfl:=uU hv;rcases uP hu with⟨i,t,rfl,rfl⟩|⟨x,t,rfl,rfl⟩|⟨rfl,rfl⟩
   ·exact nY _ _ _ _ _ _ h
   ·exact lA _ _ _ _ _ _ h
   exact nG _ _ _ _ _ h
  |some j=>
   have h':Q (decide (k=j)) s:=by rw[show decide (k=j)=decide (some k=some j)from gE.mpr ⟨λe=>by rw[e],kI⟩];exact h
   rcases zM hu with z|⟨rfl,rfl⟩
   ·rcases zM hv with y|⟨rfl,rfl⟩
    ·exact(jA P w).eqBool (a:=k) (b:=j) z y h'
    rcases jM z with⟨i,t,rfl,rfl⟩|⟨x,t,rfl,rfl⟩
    ·refine nZ _ _ _ _ _ _ _ ?_;rw[show(i==(if true=true then 1 else 0))=decide ((Sum.inl i:Key)=Sum.inl 1) by by_cases e:i=1<;>simp[e]];exact h'
    refine lB _ _ _ _ _ _ _ ?_;rw[show false=decide ((Sum.inr x:Key)=Sum.inl 1) by simp];exact h'
   rcases zM hv with y|⟨rfl,rfl⟩
   ·rcases jM y with⟨i,t,rfl,rfl⟩|⟨x,t,rfl,rfl⟩
    ·refine nV _ _ _ _ _ _ _ ?_;rw[show((if true=true then 1 else 0)==i)=decide ((Sum.inl 1:Key)=Sum.inl i) by
      by_cases e:(1:Int)=i
      ·subst e;simp
      simp[e]]
     exact h'
    refine nX _ _ _ _ _ _ _ ?_;rw[show false=decide ((Sum.inl 1:Key)=Sum.inr x) by simp];exact h'
   refine nH _ _ _ _ _ _ ?_;rw[show(true==true)=decide ((Sum.inl 1:Key)=Sum.inl 1) by simp];exact h'
«strs»:=λk x t v h=>by
 cases k with
 |none=>exact absurd (uU h) (by intro e;cases e)
 |some k=>
  rcases zM h with z|⟨_,z⟩
  ·have:=(jA P w).strs k x t v z;rcases jM z with⟨i,t,rfl,e⟩|⟨y,t,rfl,e⟩
   ·cases e
   show(zN _ v||(decide ((Sum.inr y:Key)=Sum.inl 1)&&qA8 v))=_;rw[hG (by intro e;cases e),sU,pM];exact this
  cases z
theorem qDD{P:Program}{w:World}{es:List DictEntry}{vs:List (Key×Value)}(h:Pairs (jA P w) es vs):∀e∈es,∃kv∈vs,zN kv.1 e.key=true:=by(
induction h with
|nil=>intro e he;cases he
|cons h1 h2 _ ih=>
 intro e he;rcases kW.mp he with rfl|he
 ·exact⟨_,kO,h1⟩
 obtain⟨kv,a,b⟩:=ih e he;exact⟨kv,kF _ a,b⟩)
theorem map5{P:Program}{w:World}{h:Heap}{a:Addr}{vs:List (Key×Value)}(d:h.DictOf (jA P w) a vs)(n1:∀kv∈vs,kv.1≠Sum.inl 1):∃f,h.MapOf (q59 P w) a f∧f none=none∧f (some (Sum.inl 1))=none:=by(
obtain⟨o,es,ep,ho,ex,hd,ks,pr,nd⟩:=d
have sh:∀e∈es,∃k,zN k e.key=true∧k≠Sum.inl 1∧e.hash=(jA P w).hash k:=λe he=>by obtain⟨k,h1,h2⟩:=ks e he;obtain⟨kv,a,b⟩:=qDD pr e (sV.mpr he);have e1:k=kv.1:=(jA P w).inj e.key k kv.1 h1 b;exact⟨k,h1,λz=>n1 kv a (e1▸z),h2⟩
refine⟨λk=>findBy (q59 P w).is es k,⟨o,es,ep,ho,ex,hd,λe he=>?_,λk=>rfl⟩,?_,?_⟩
·obtain⟨k,h1,_,h2⟩:=sh e he;exact⟨some k,qGJ h1,h2⟩
·have:∀e∈es,(q59 P w).is none e.key=false:=λe he=>by obtain⟨k,h1,_⟩:=sh e he;rcases jM h1 with⟨_,_,_,z⟩|⟨_,_,_,z⟩<;>(rw[z];rfl)
 unfold findBy;simp;intro e he;exact this e he
have:∀e∈es,(q59 P w).is (some (Sum.inl 1)) e.key=false:=λe he=>by
 obtain⟨k,h1,h3,_⟩:=sh e he;rcases jM h1 with⟨i,t,rfl,z⟩|⟨x,t,rfl,z⟩
 ·rw[z];show(Value.isInt 1 (.int i t)||false)=false;rw[pM];by_cases y:i=1
  ·exact absurd (by rw[y]) h3
  exact hG (λz=>y z)
 rw[z];rfl
unfold findBy
simp
intro e he
exact this e he)
section
variable{X:Cx}{i o e f:Expr}{ty td tx:TE}{apos cpos:Pos}
noncomputable def OddK(y:V)(kvs:List (Key×V)):Prop:=(y=.non∨y=.bl true)∧∀kv∈kvs,kv.1≠Sum.inl 1
noncomputable def qF0(ty td:TE):TE:=λσ H Q=>ty σ H λy H1=>td σ H1 λx H2=>∃a,x=.ref a∧((∃o,DGet H2 a y o∧Q (.bl (!o.isSome)) H2)∨(∃kvs,H2 a=some (.dK kvs)∧OddK y kvs∧Q (.bl true) H2))
theorem qCG{kvs:List (Key×V)}{vs:List (Key×Value)}(r:KV kvs vs)(h:∀kv∈kvs,kv.1≠Sum.inl 1):∀kv∈vs,kv.1≠Sum.inl 1:=by(
induction r with
|nil=>intro kv hk;cases hk
|cons r1 _ ih=>
 intro kv hk;rcases kW.mp hk with rfl|hk
 ·rw[←r1.1];exact h _ kO
 exact ih (λkv hk=>h kv (kF _ hk)) kv hk)
theorem qB9(hu:X.A.units+1<cLine)(hi:PE X i ty)(ho:PE X o td):PC X .NotIn i o (qF0 ty td):=by(
intro pins s σ H Q I h
refine thn (hi pins s σ H _ I h) λiv s1 ⟨y,H1,I1,ry,q1⟩=>thn (ho pins s1 σ H1 _ I1 q1) λu s2 hZ=>?_
obtain⟨x,H2,I2,rx,a,ex,q2⟩:=hZ
subst ex
obtain rfl:u=Value.ref a:=rx
rcases q2 with⟨ov,g,q⟩|⟨kvs,e,⟨od,n1⟩,q⟩
·exact qBU hu I2 g ry λs3 I3=>⟨.bl (!ov.isSome),H2,I3,rfl,q⟩
obtain⟨z,hd,vs,rel,dd⟩:=q1L I2.hok (.inl e)
obtain⟨f,mp,fn,ft⟩:=map5 dd (qCG rel n1)
rcases od with rfl|rfl
·obtain rfl:iv=Value.none:=ry;refine nJ (knd:=q59 X.prog X.w) (k:=none) rfl hd mp ?_;rw[fn];exact⟨.bl true,H2,I2.tok _,rfl,q⟩
obtain rfl:iv=Value.bool true:=ry
refine nJ (knd:=q59 X.prog X.w) (k:=some (Sum.inl 1)) rfl hd mp ?_
rw[ft]
exact⟨.bl true,H2,I2.tok _,rfl,q⟩)
noncomputable def qGK(td ty tx:TE):TE:=λσ H Q=>td σ H λx H1=>∃a,x=.ref a∧IsD H1 a∧ty σ H1 λy H2=>tx σ H2 λz H3=>((∃o,DGet H3 a y o∧Q (o.getD z) H3)∨(∃kvs,H3 a=some (.dK kvs)∧OddK y kvs∧Q z H3))
theorem qDE(hu:X.A.units+1<cLine)(ho:PE X o td)(he:PE X e ty)(hf:PE X f tx)(m:M2 X o "get" apos e f cpos):PE X (.Call (.Attribute o "get" apos) [e,f] [] cpos) (qGK td ty tx):=by(
intro pins s σ H Q I h
refine pI m.base m.few m.line rR gU sR (thn (ho pins s σ H _ I h) λu s1 hZ=>?_)
obtain⟨x,H1,I1,rx,a,ex,d,q1⟩:=hZ
subst ex
obtain rfl:u=Value.ref a:=rx
obtain⟨t1,t2,_⟩:=qAV I1 d
refine⟨t1,t2,?_⟩
rw[m.trees]
refine d6 rfl (wI (rY (thn (he pins s1 σ H1 _ I1 q1) λiv s2 ⟨y,H2,I2,ry,q2⟩=>rY (thn (hf pins s2 σ H2 _ I2 q2) λfv s3 ⟨z,H3,I3,rz,q3⟩=>wY ?_))))
rcases q3 with⟨ov,g,q3⟩|⟨kvs,e,⟨od,n1⟩,q3⟩
·exact qHO hu I3 g ry rz λw' s4 I4 rw'=>⟨_,H3,I4,rw',q3⟩
obtain⟨z',hd,vs,rel,dd⟩:=q1L I3.hok (.inl e)
obtain⟨f,mp,fn,ft⟩:=map5 dd (qCG rel n1)
rcases od with rfl|rfl
·obtain rfl:iv=Value.none:=ry;refine rZ gU dd.typeIs dF (rQ _ _ _) (cB (q59 X.prog X.w) a (k:=none) rfl hd fv) ⟨_,mp,?_⟩;rw[fn];exact⟨z,H3,I3.tok _,rz,q3⟩
obtain rfl:iv=Value.bool true:=ry
refine rZ gU dd.typeIs dF (rQ _ _ _) (cB (q59 X.prog X.w) a (k:=some (Sum.inl 1)) rfl hd fv) ⟨_,mp,?_⟩
rw[ft]
exact⟨z,H3,I3.tok _,rz,q3⟩)
end
end L2
namespace L2
open PySem
theorem q0R{K:PySem.W.Frag}{a:Addr}{xs:List V}{g:TG}{tb:TS}{D:Ends}{σ:St}{H:Hp}(Pv:Nat→St→Hp→Prop)(h0:Pv 0 σ H)(hl:∀i σ H,i≤xs.length→Pv i σ H→SqL K H a xs)
 (hs:∀i x σ H (D':Ends),(∀σ' H',Pv (i+1) σ' H'→D'.nx σ' H')→xs[i]?=some x→Pv i σ H→g x σ H λσ2 H2=>tb D' σ2 H2) (hd:∀σ H,Pv xs.length σ H→D.nx σ H):
 ∃W:Nat→Nat→St→Hp→Prop,(∃m,W 0 m σ H)∧∀i m σ H,W i m σ H→((Itl K a).stop i H∧D.nx σ H)∨((Itl K a).go i H∧∃N:St→Hp→Prop,(∀σ' H',N σ' H'→∃m',m'<m∧W (i+1) m' σ' H')∧∀x H',(Itl K a).yld i H x H'→g x σ H' λσ2 H2=>tb { D with nx:=N,ct:=N,bk:=D.nx } σ2 H2):=vM Pv h0 hl (λi x σ H hx p=>hs i x σ H _ (λ_ _ q=>q) hx p) hd
theorem q10{lo:Int}{n:Nat}{g:TG}{tb:TS}{D:Ends}{σ:St}{H:Hp}(Pv:Nat→St→Hp→Prop)(h0:Pv 0 σ H)
 (hs:∀i σ H (D':Ends),(∀σ' H',Pv (i+1) σ' H'→D'.nx σ' H')→i<n→Pv i σ H→g (.int (lo+i)) σ H λσ2 H2=>tb D' σ2 H2) (hd:∀σ H,Pv n σ H→D.nx σ H):
 ∃W:Nat→Nat→St→Hp→Prop,(∃m,W 0 m σ H)∧∀i m σ H,W i m σ H→((Itr lo n).stop i H∧D.nx σ H)∨((Itr lo n).go i H∧∃N:St→Hp→Prop,(∀σ' H',N σ' H'→∃m',m'<m∧W (i+1) m' σ' H')∧∀x H',(Itr lo n).yld i H x H'→g x σ H' λσ2 H2=>tb { D with nx:=N,ct:=N,bk:=D.nx } σ2 H2):=qCN Pv h0 (λi σ H hx p=>hs i σ H _ (λ_ _ q=>q) hx p) hd
theorem iV{σ:St}{i:Nat}{v:V}{Q:V→Prop}(e:σ[i]?=some (some v))(q:Q v):∃v,σ[i]?=some (some v)∧Q v:=⟨v,e,q⟩
theorem iF{K:PySem.W.Frag}{H:Hp}{f:Str}{a C d:Addr}{fs:List (Str×V)}{v:V}{Q:V→Prop}(o:H a=some (.ins C d fs))(cl:Cls K C)(na:qR K C f)(lk:fs.lookup f=some v)(q:Q v):
 ∃a' C dx fs v,V.ref a=.ref a'∧H a'=some (.ins C dx fs)∧Cls K C∧qR K C f∧fs.lookup f=some v∧Q v:=⟨a,C,d,fs,v,rfl,o,cl,na,lk,q⟩
theorem iM{H:Hp}{m:Str}{a C d:Addr}{fs:List (Str×V)}{q:Prop}(o:H a=some (.ins C d fs))(lk:fs.lookup m=none)(k:q):
 ∃a' dx fs,V.ref a=.ref a'∧H a'=some (.ins C dx fs)∧fs.lookup m=none∧q:=⟨a,d,fs,rfl,o,lk,k⟩
theorem iI{i j:Int}{Q:Int→Int→Prop}(q:Q i j):∃i' j',V.int i=.int i'∧V.int j=.int j'∧Q i' j':=⟨i,j,rfl,rfl,q⟩
theorem iL{K:PySem.W.Frag}{H:Hp}{p:Addr}{xs:List V}{k:Int}{v:V}{Q:V→Prop}(h:SqL K H p xs)(e:atI xs k=some v)(q:Q v):∃p' xs k' v,V.ref p=.ref p'∧V.int k=.int k'∧SqL K H p' xs∧atI xs k'=some v∧Q v:=⟨p,xs,k,v,rfl,rfl,h,e,q⟩
theorem iT{K:PySem.W.Frag}{H:Hp}{p:Addr}{xs:List V}{k:Int}{v:V}{Q:V→Prop}(h:SqT K H p xs)(e:atI xs k=some v)(q:Q v):∃p' xs k' v,V.ref p=.ref p'∧V.int k=.int k'∧SqT K H p' xs∧atI xs k'=some v∧Q v:=⟨p,xs,k,v,rfl,rfl,h,e,q⟩
end L2
namespace L2
open PySem PySem.Spec PyProof.Rows
structure RoomU(k:Nat)(A:Around):Prop where
dp:A.depth+3*k+5<recursionLimit
un:A.units+16*k+200<cLine
theorem Room.u{k:Nat}{A:Around}{v:Option Value}(r:Room k A):RoomU k (A.mark v):=⟨r.dp,r.un⟩
theorem RoomU.mono{j k:Nat}{A:Around}(r:RoomU k A)(h:j≤k):RoomU j A:=⟨by have:=r.dp;lia,by have:=r.un;lia⟩
theorem RoomU.deeper{k:Nat}{A:Around}(r:RoomU (k+1) A)(env:Env):RoomU k (A.deeper env):=⟨by have:=r.dp;show A.depth+1+3*k+5< _;lia,by have:=r.un;show A.units+3+16*k+200< _;lia⟩
theorem RoomU.depth{k:Nat}{A:Around}(r:RoomU k A):A.depth<recursionLimit:=by have:=r.dp;lia
structure FnOkU(P:Program)(w:World)(K:PySem.W.Frag)(mg:Str→Option Value)(base:Heap)(CX:CXT)(k:Nat)(f:Addr)(fd:FuncData)(ps:List Str)(sp:Sp):Prop where
len:∀vs H Q E,sp vs H Q E→vs.length=ps.length
run:∀(A:Around) (outer:List Env) (s:Shared) (H:Hp) (args:Args) (us:List Value) (vs:List V) (Q:VK) (E:XK),RoomU k A→Env0 P w K mg base A outer s H→BindsTo s fd args (ps.zip us)→Vals vs us→sp vs H Q E→codeAny (model P w) A (.call (.ref f) args) (CR CX outer P w H s Q E) s
theorem FnOkU.mono{P:Program}{w:World}{K:PySem.W.Frag}{mg:Str→Option Value}{base:Heap}{CX:CXT}{j k:Nat}{f:Addr}{fd:FuncData}{ps:List Str}{sp:Sp}(F:FnOkU P w K mg base CX j f fd ps sp)(h:j≤k:=by decide):
 FnOkU P w K mg base CX k f fd ps sp:=⟨F.len,λA outer s H args us vs Q E hr=>F.run A outer s H args us vs Q E (hr.mono h)⟩
noncomputable def qA9(CX:CXT)(P:Program)(w:World)(K:PySem.W.Frag)(mg:Str→Option Value)(base:Heap)(N:List Str)(qual:Str)(scope:Scope)(f:Addr)(cd:Value)(A:Around)(outer:List Env)(s:Shared)(H:Hp)(E:XK):Cx:={ cxOf CX P w K mg base N qual scope f cd A outer s H E with calm:=false }
theorem qBA{CX:CXT}{P:Program}{w:World}{K:PySem.W.Frag}{mg:Str→Option Value}{base:Heap}{N ps:List Str}{qual:Str}{scope:Scope}{f:Addr}{cd:Value}{A:Around}{outer:List Env}{s s1:Shared}{H:Hp}{E:XK}{us:List Value}{vs:List V}
 (S:FnScope N ps scope) (e0:Env0 P w K mg base A outer s H) (hl:vs.length=ps.length) (r:Vals vs us)
 (x:InCallC s s.heap.objs.size (bindL (envOfC qual scope s.heap.objs.size f cd).kindOf (ps.zip us) λ_=>none) (cellsFrom (s.heap.objs.size+1) scope.names []) (bindC (envOfC qual scope s.heap.objs.size f cd).kindOf (ps.zip us) λ_=>none) s1):
 Inv (qA9 CX P w K mg base N qual scope f cd A outer s H E) [] (zR N vs) H s1:=by have e0':Env0 P w K mg base { A with handled:=none } outer s H:=⟨by first|exact e0.frames|simpa using e0.frames,e0.mod,e0.bs,e0.bsz,e0.funs,e0.frf,e0.hok,e0.bare⟩;have I:=q7S (CX:=CX) (E:=E) (A:={ A with handled:=none }) S rfl e0' hl r x;exact⟨{ I.ok with hd:=λz=>by cases z },I.os,I.bare,I.base,I.loc,I.cell,I.free,I.freeC,I.pin,I.hok,I.len⟩
theorem qIT{CX:CXT}{P:Program}{w:World}{K:PySem.W.Frag}{mg:Str→Option Value}{base:Heap}{k:Nat}{f:Addr}{name qual:Str}{params:Arguments}{body:List Stmt}{scope:Scope}{dV kV doc pm cdv ct oc:Value}{an od:Option Addr}
 {osl:Array (Option Value)} {N ps:List Str} {sp:Sp} (lk:K.lookup f=some ⟨oc,od,.func (PySem.W.fnOf name qual params body scope dV kV doc pm an cdv ct),osl⟩) (hcd:PySem.W.codeIn K cdv qual=true) (S:FnScope N ps scope)
 (len:∀vs H Q E,sp vs H Q E→vs.length=ps.length)
 (hbody:∀(A:Around) (outer:List Env) (s:Shared) (H:Hp) (vs:List V) (Q:VK) (E:XK),RoomU k (A.deeper (envOfC qual scope s.heap.objs.size f cdv))→sp vs H Q E→∃t,PSs (qA9 CX P w K mg base N qual scope f cdv A outer s H E) body t∧t { nx:=λ_ H'=>Q .non H',rt:=Q } (zR N vs) H):
 FnOkU P w K mg base CX (k+1) f (PySem.W.fnOf name qual params body scope dV kV doc pm an cdv ct) ps sp:=by(
refine⟨len,λA outer s H args us vs Q E hr e0 hb r hsp=>?_⟩
have hl:=len _ _ _ _ hsp
have KX:K.In s.heap:=e0.mod.kin.keeps λb o e=>(e0.bs b o e).1
have lim:s.heap.NoLimit:=e0.mod.nolimit.keeps λb o e=>(e0.bs b o e).1
have hkind:∀y∈ps.zip us,scope.names.lookup y.1=some .local∨(scope.names.lookup y.1=some .cell∧((cellsFrom (s.heap.objs.size+1) scope.names []).lookup y.1).isSome=true):=λ⟨n,v⟩ hy=>by
 rcases S.par n (cR hy).1 with q|q
 ·exact .inl q
 exact .inr ⟨q,wZ _ _ _ (.inl q)⟩
refine sO hr.depth (KX _ _ lk) rfl S.co S.gen rfl (lM KX hcd) (hb _ _ _ _ ?_)
refine pB S.kind hkind λenv he s1 x=>?_
subst he
refine⟨lim.keeps x.toInCall.keep,codeAny_func ?_⟩
obtain⟨t,ht,hq⟩:=hbody A outer s H vs Q E (hr.deeper _) hsp
have I:Inv (qA9 CX P w K mg base N qual scope f cdv A outer s H E) [] (zR N vs) H s1:=qBA S e0 hl r x
refine gN (ht [] s1 (zR N vs) H _ I hq) (λfl s' hs=>?_) λe s' hs=>hs
have fin:∀{σ':St} {H':Hp} {v:V} {u:Value},Inv (qA9 CX P w K mg base N qual scope f cdv A outer s H E) [] σ' H' s'→RelV v u→Q v H'→CE outer P w H s Q u s':=fun {σ' H' v u} J rv q=>⟨v,H',J.os,J.bare,J.base,J.hok,rv,q⟩
cases fl with
|ret u=>obtain⟨v,σ',H',J,rv,q⟩:=hs;exact fin J rv q
|next=>obtain⟨σ',H',J,q⟩:=hs;exact fin (v:=V.non) (u:=Value.none) J rfl q
|brk=>obtain⟨_,_,_,q⟩:=hs;exact False.elim q
|cont=>obtain⟨_,_,_,q⟩:=hs;exact False.elim q)
section
variable{P:Program}{w:World}{K:PySem.W.Frag}{mg:Str→Option Value}{base:Heap}{dV:Value}
theorem FunD.okU{x qual:Str}{st:Stmt}{f:Addr}{fd:FuncData}{N ps:List Str}{k:Nat}{sp:Sp}(F:FunD K x qual st dV f fd)(S:FnScope N ps (qH st))(len:∀vs H Q E,sp vs H Q E→vs.length=ps.length)
 (hbody:∀(cdv:Value) (A:Around) (outer:List Env) (s:Shared) (H:Hp) (vs:List V) (Q:VK) (E:XK),RoomU k (A.deeper (envOfC qual (qH st) s.heap.objs.size f cdv))→sp vs H Q E→∃t,PSs (qA9 CX0 P w K mg base N qual (qH st) f cdv A outer s H E).nox (yI st) t∧t { nx:=λ_ H'=>Q .non H',rt:=Q } (zR N vs) H):FnOkU P w K mg base CX0 (k+1) f fd ps sp:=by(
obtain⟨oc,od,kV,doc,pm,an,cdv,ct,osl,rfl,lk,hcd⟩:=F.ex
refine qIT lk hcd S len λA outer s H vs Q E hr hsp=>?_
obtain⟨t,h,q⟩:=hbody cdv A outer s H vs Q E hr hsp
exact⟨t,h.nox,q⟩)
end
section
variable{X:Cx}{x:Str}{p pos:Pos}{e:Expr}{es:List Expr}{t:TA}{CX:CXT}{k:Nat}{f:Addr}{fd:FuncData}{ps:List Str}{sp:Sp}{ds:List Value}{dvs:List V}{E:XK}
theorem qGL{pins:List (Addr×Obj)}{σ:St}{H:Hp}{s:Shared}{Q:VK}{us:List Value}{vs:List V}(F:FnOkU X.prog X.w X.K X.mg X.base CX k f fd ps sp)(hr:RoomU k X.A)(hb:yL X.K fd ps ds)(hd:Vals dvs ds)(hx:q0B CX X E)
 (I:Inv X pins σ H s) (r:Vals vs us) (h:sp (vs++dvs) H Q E):wpAny (model X.prog X.w) X.A (call (.ref f) us) (EP X pins σ Q) X.xe s:=by(
have r2:Vals (vs++dvs) (us++ds):=r.append hd
have hl:(us++ds).length=ps.length:=by rw[←r2.length];exact F.len _ _ _ _ h
refine wH (dS (F.run X.A X.stack s H ⟨us,[]⟩ (us++ds) (vs++dvs) Q E hr I.env0 (hb s us I.kIn hl) r2 h) λr s' hq=>?_)
cases r with
|error e=>exact hx pins σ H s e s' I hq
|ok fl=>
 cases fl with
 |ret u=>exact I.after hq
 |next=>exact False.elim hq
 |brk=>exact False.elim hq
 |cont=>exact False.elim hq)
theorem qF1(F:FnOkU X.prog X.w X.K X.mg X.base CX k f fd ps sp)(hr:RoomU k X.A)(hg:Gl X x)(hm:X.mg x=some (.ref f))(hk:PySem.W.keepIn X.K (.ref f)=true)(hb:yL X.K fd ps ds)(hd:Vals dvs ds)(hx:q0B CX X E)
 (ha:PA X (e::es) t) (hdb:(x==("__debug__":Str))=false:=by decide) (he:starEach (e::es) X.env=(false,eval e X.env)::starEach es X.env:=by rfl) (hpl:(backTo pos (starEach es X.env)).any (·.1)=false:=by rfl):
 PE X (.Call (.Name x p) (e::es) [] pos) (qGX sp dvs E t):=by(
intro pins s σ H Q I h
refine rA (q3M I hg hm ?_ hdb)
refine rB (h₀:=X.base) I.ok.mod.kin hk (thn (ha pos pins s σ H _ I h) λus s1 ⟨vs,H1,I1,r,q⟩=>⟨I1.kIn,?_⟩) he hpl
exact qGL F hr hb hd hx I1 r q)
end
end L2
namespace W1
open PySem L2
noncomputable def dN(n:Nat)(nm:Nat→Str)(f:Nat→V):List (Key×V):=(List.range n).map λi=>((Sum.inr (nm i):Key),f i)
noncomputable def Unl(n:Nat)(nm:Nat→Str):Prop:=∀i j,i<n→j<n→nm i=nm j→i=j
theorem Unl.less{n m:Nat}{nm:Nat→Str}(h:Unl n nm)(l:m≤n):Unl m nm:=λi j hi hj=>h i j (by lia) (by lia)
section
variable{n:Nat}{nm:Nat→Str}{f g:Nat→V}
theorem q1R:(dN n nm f).length=n:=by simp[dN]
theorem qCH:dN (n+1) nm f=dN n nm f++[((Sum.inr (nm n):Key),f n)]:=by simp[dN,g9]
theorem q44(h:∀i,i<n→f i=g i):dN n nm f=dN n nm g:=by unfold dN;exact d0 λi hi=>by rw[h i (mH.mp hi)]
theorem q45{s:Str}(h:∀i,i<n→nm i≠s):valV (dN n nm f) (Sum.inr s:Key)=none:=by(
unfold valV
rw[r9.mpr,xP]
intro x hx
obtain⟨i,hi,rfl⟩:=kP.mp hx
have:=h i (mH.mp hi)
simpa using this)
theorem qIU{k:Int}:valV (dN n nm f) (Sum.inl k:Key)=none:=by(
unfold valV
rw[r9.mpr,xP]
intro x hx
obtain⟨i,hi,rfl⟩:=kP.mp hx
simp)
theorem zD(u:Unl n nm){i:Nat}(hi:i<n):valV (dN n nm f) (Sum.inr (nm i):Key)=some (f i):=by(
induction n with
|zero=>lia
|succ n ih=>
 rw[qCH];by_cases z:i=n
 ·subst z;rw[q4J _ _ _ _ (q45 λj hj e=>by have:=u j i (by lia) (by lia) e;lia),kG rfl]
 rw[q4J _ _ _ _ (q45 λj hj e=>by have:=u j n (by lia) (by lia) e;lia),kE (λe=>z (u i n hi (by lia) (aP e))),ih (u.less (by lia)) (by lia)])
theorem q4O(u:Unl (n+1) nm){v:V}:putK (dN n nm f) (Sum.inr (nm n):Key) v=dN (n+1) nm (λj=>if j=n then v else f j):=by rw[qDW _ (q45 λj hj e=>by have:=u j n (by lia) (by lia) e;lia),qCH,kG rfl];congr 1;exact q44 λj hj=>by rw[kE (by lia)]
end
noncomputable def fst(ct:Nat→Nat):Nat→Nat
|0=>0
|i+1=>fst ct i+ct i
theorem q46{ct:Nat→Nat}{i j:Nat}(h:i≤j):fst ct i≤fst ct j:=by(
induction j with
|zero=>
 obtain rfl:i=0:=by lia
 exact kH _
|succ j ih=>
 by_cases z:i=j+1
 ·subst z;exact kH _
 have:=ih (by lia);show _≤fst ct j+ct j;lia)
theorem q5T{ct:Nat→Nat}{n:Nat}:((List.range n).map λi=>(ct i:Int)).sum=(fst ct n:Int):=by(
induction n with
|zero=>rfl
|succ n ih=>rw[g9,mB,sK,ih];show(fst ct n:Int)+((ct n:Int)+0)=((fst ct n+ct n:Nat):Int);lia)
noncomputable def cutP(f c:Nat)(ks:List Int):List Int:=(ks.filter λk=>decide ((f:Int)≤k)&&decide (k<(f:Int)+(c:Int))).map λk=>k-(f:Int)
theorem qDF{f c:Nat}{ks ls:List Int}(h:ks.Perm ls):(cutP f c ks).Perm (cutP f c ls):=(h.filter _).map _
theorem zZ{f c:Nat}{ks:List Int}{s:Int}:s∈cutP f c ks↔(f:Int)+s∈ks∧0≤s∧s<(c:Int):=by(
unfold cutP
rw[kP]
constructor
·rintro⟨k,hk,rfl⟩
 obtain⟨a,b⟩:=mQ.mp hk;have b:(f:Int)≤k∧k<(f:Int)+(c:Int):=by simpa using b
 exact⟨by rw[show(f:Int)+(k-(f:Int))=k by lia];exact a,by lia,by lia⟩
rintro⟨a,b,c'⟩
exact⟨(f:Int)+s,mQ.mpr ⟨a,by simp;lia⟩,by lia⟩)
theorem q38{f c:Nat}{ks:List Int}(h:ks.Nodup):(cutP f c ks).Nodup:=xB _ (λa b hab e=>hab (by lia)) (h.filter _)
theorem qCI{p:Int→Bool}:∀{l:List Int},l.length=(l.filter p).length+(l.filter λk=>!p k).length
| []=>rfl
|k::r=>by have ih:=qCI (p:=p) (l:=r);rw[gP,gP];cases z:p k<;>simp<;>lia
theorem qCJ{ct:Nat→Nat}:∀{n:Nat} {ks:List Int},(∀k∈ks,0≤k∧k<(fst ct n:Int))→ks.length=((List.range n).map λi=>(cutP (fst ct i) (ct i) ks).length).sum
|0,ks,h=>by
 cases ks with
 |nil=>rfl
 |cons k r=>have:=h k (by simp);have e:fst ct 0=0:=rfl;lia
|n+1,ks,h=>by
 rw[g9,mB,sK];have ih:=qCJ (ct:=ct) (n:=n) (ks:=ks.filter λk=>decide (k<(fst ct n:Int))) (λk hk=>⟨(h k (mQ.mp hk).1).1,by simpa using(mQ.mp hk).2⟩);have e1:((List.range n).map λi=>(cutP (fst ct i) (ct i) ks).length)=((List.range n).map λi=>(cutP (fst ct i) (ct i) (ks.filter λk=>decide (k<(fst ct n:Int)))).length):=by
  refine d0 λi hi=>?_;have hi:=mH.mp hi;have m:fst ct (i+1)≤fst ct n:=q46 hi;have m:fst ct i+ct i≤fst ct n:=m;unfold cutP;rw[hU,hU,pD];congr 1;refine dX λk _=>?_;by_cases z:(fst ct i:Int)≤k∧k<(fst ct i:Int)+(ct i:Int)
  ·simp[z.1,z.2];lia
  by_cases y:(fst ct i:Int)≤k
  ·have:¬k<(fst ct i:Int)+(ct i:Int):=λw=>z ⟨y,w⟩;simp[this]
  simp[y]
 rw[e1,←ih];have e2:(cutP (fst ct n) (ct n) ks).length=(ks.filter λk=>!decide (k<(fst ct n:Int))).length:=by
  unfold cutP;rw[hU];congr 1;refine dX λk hk=>?_;have:=h k hk;have e:fst ct (n+1)=fst ct n+ct n:=rfl;by_cases z:k<(fst ct n:Int)
  ·simp[z];lia
  simp[z];lia
 show _=_ +((cutP (fst ct n) (ct n) ks).length+0);rw[e2];exact qCI
end W1
namespace L2
open PySem PySem.Spec PyProof.Rows
structure Fn1(K:PySem.W.Frag)(x q:Str)(st:Stmt)(f:Addr)(ps:List Str) where
fd:FuncData
F:FunD K x q st .none f fd
b:yL K fd ps []
noncomputable abbrev Fn1.Ok0{K:PySem.W.Frag}{x q:Str}{st:Stmt}{f:Addr}{ps:List Str}(F:Fn1 K x q st f ps)(P:Program)(w:World)(mg:Str→Option Value)(base:Heap)(k:Nat)(sp:Sp):Prop:=FnOk P w K mg base CX0 k f F.fd ps sp
noncomputable abbrev Fn1.OkE{K:PySem.W.Frag}{x q:Str}{st:Stmt}{f:Addr}{ps:List Str}(F:Fn1 K x q st f ps)(P:Program)(w:World)(mg:Str→Option Value)(base:Heap)(k:Nat)(sp:Sp):Prop:=FnOk P w K mg base (CXe P w) k f F.fd ps sp
noncomputable abbrev FnX(K:PySem.W.Frag)(x q:Str)(st:Stmt)(f:Addr):Prop:=∃fd,FunD K x q st .none f fd
section
variable{K:PySem.W.Frag}{x q:Str}{st:Stmt}{f:Addr}{ps:List Str}
noncomputable def BnX(x q:Str)(st:Stmt)(ps:List Str):Prop:=∀(kV doc pm:Value) (an:Option Addr) (cdv ct:Value) (us:List Value),us.length=ps.length→bindArgs (PySem.W.fnOf x q (yU st) (yI st) (qH st) .none kV doc pm an cdv ct) ⟨us,[]⟩=pure (ps.zip us)
theorem fn1b(h:BnX x q st ps){fd:FuncData}(F:FunD K x q st .none f fd):yL K fd ps []:=by obtain⟨oc,od,kV,doc,pm,an,cdv,ct,osl,rfl,lk,hcd⟩:=F.ex;exact yL.all λus hl=>h kV doc pm an cdv ct us hl
theorem lnx{us:List Value}{n:Nat}(h:us.length=n):us=(List.range n).map (us.getD · .none):=by subst h;refine wM (by simp) λi h1 h2=>?_;simp[hZ h1]
theorem bnx(h:∀kV doc pm an cdv ct (g:Nat→Value),bindArgs (PySem.W.fnOf x q (yU st) (yI st) (qH st) .none kV doc pm an cdv ct) ⟨(List.range ps.length).map g,[]⟩=pure (ps.zip ((List.range ps.length).map g))):BnX x q st ps:=λkV doc pm an cdv ct us hl=>by rw[lnx hl];exact h ..
noncomputable def fn1 (l:FnX K x q st f) (h:∀kV doc pm an cdv ct (g:Nat→Value),bindArgs (PySem.W.fnOf x q (yU st) (yI st) (qH st) .none kV doc pm an cdv ct) ⟨(List.range ps.length).map g,[]⟩=pure (ps.zip ((List.range ps.length).map g)):=by intros;rfl):Fn1 K x q st f ps:=⟨l.choose,l.choose_spec,fn1b (bnx h) l.choose_spec⟩
theorem FnX.bind1{a:Str}{fd:FuncData}(h:∀kV doc pm an cdv ct u,bindArgs (PySem.W.fnOf x q (yU st) (yI st) (qH st) .none kV doc pm an cdv ct) ⟨[u],[]⟩=pure [(a,u)])(F:FunD K x q st .none f fd)(s:Shared)(v:Value):BindsTo s fd ⟨[v],[]⟩ [(a,v)]:=by obtain⟨oc,od,kV,doc,pm,an,cdv,ct,osl,rfl,lk,hcd⟩:=F.ex;exact .of_eq (h kV doc pm an cdv ct v)
theorem FnX.of{oc:Value}{od an:Option Addr}{osl:Array (Option Value)}{kV doc pm cdv ct:Value}(l:K.lookup f=some ⟨oc,od,.func (PySem.W.fnOf x q (yU st) (yI st) (qH st) .none kV doc pm an cdv ct),osl⟩)(c:PySem.W.codeIn K cdv q=true):FnX K x q st f:=⟨_,FunD.mk' l c⟩
theorem j9{N P:List Str}{sc:Scope}(h:(sc.kind=.function∧sc.isCoroutine=false∧sc.isGenerator=false)∧N.Nodup∧N.take P.length=P∧(∀x∈P,sc.names.lookup x=some .local∨sc.names.lookup x=some .cell)∧∀y∈sc.names,y.2≠ .free):FnScope N P sc:=⟨h.1.1,h.1.2.1,h.1.2.2,h.2.1,h.2.2.1,h.2.2.2.1,h.2.2.2.2⟩
end
noncomputable abbrev GFn(K:PySem.W.Frag)(n:Str)(f:Addr):Prop:=PySem.W.nsIn K mainGlobals n=some (some (.ref f))∧PySem.W.keepIn K (.ref f)=true
theorem sz0:0≤sizeLine:=by decide
theorem sz1:1≤sizeLine:=by decide
theorem sz2:2≤sizeLine:=by decide
theorem sz3:3≤sizeLine:=by decide
theorem sz4:4≤sizeLine:=by decide
end L2
namespace W1
open PySem L2
noncomputable def top(i:Nat):Stmt:=PySem.Challenge.pw_wornpages_k82_their_rooms.main.body.getD i (.Pass ⟨0,0,0,0⟩)
noncomputable abbrev q39:Stmt:=(top 16)
noncomputable abbrev q1S:Stmt:=(top 17)
noncomputable abbrev q3A:Stmt:=(top 18)
noncomputable abbrev q3B:Stmt:=(top 19)
noncomputable abbrev q4P:Stmt:=(top 21)
noncomputable abbrev q0D:Stmt:=(top 22)
noncomputable abbrev q11:Stmt:=(top 23)
noncomputable abbrev q1T:Stmt:=(top 24)
noncomputable abbrev q12:Stmt:=(qU (top 25) 0)
noncomputable abbrev q0E:Stmt:=(qU (top 25) 1)
noncomputable abbrev q13:Stmt:=(qU (top 25) 2)
noncomputable abbrev vW:Stmt:=(qU (top 25) 3)
noncomputable abbrev q0F:Stmt:=(qU (top 25) 4)
noncomputable abbrev q14:Stmt:=(qU (top 25) 5)
noncomputable abbrev q15:Stmt:=(qU (top 25) 6)
noncomputable abbrev vE:Stmt:=(qU (top 25) 7)
noncomputable abbrev q16:Stmt:=(qU (top 25) 9)
noncomputable abbrev vF:Stmt:=(qU (top 25) 10)
noncomputable abbrev uQ:Stmt:=(qU (top 25) 11)
noncomputable abbrev q1U:Stmt:=(top 27)
noncomputable abbrev uV:Stmt:=(qU (top 28) 0)
noncomputable abbrev q3C:Stmt:=(qU (top 28) 1)
noncomputable abbrev q1V:Stmt:=(qU (top 28) 3)
noncomputable abbrev vG:Stmt:=(qU (top 28) 4)
noncomputable abbrev vX:Stmt:=(qU (top 28) 5)
noncomputable abbrev q00:Stmt:=(qU (top 28) 6)
noncomputable abbrev q01:Stmt:=(qU (top 28) 7)
noncomputable abbrev q0G:Stmt:=(qU (top 28) 8)
noncomputable abbrev q17:Stmt:=(qU (top 28) 9)
noncomputable abbrev v7:Stmt:=(qU (top 28) 10)
noncomputable abbrev uR:Stmt:=(qU (top 28) 11)
noncomputable abbrev uS:Stmt:=(qU (top 28) 12)
noncomputable abbrev v8:Stmt:=(qU (top 28) 13)
noncomputable abbrev vY:Stmt:=(qU (top 28) 14)
noncomputable abbrev q02:Stmt:=(qU (top 28) 15)
noncomputable abbrev q4Q:Stmt:=(top 32)
noncomputable abbrev q4R:Stmt:=(top 33)
noncomputable abbrev q1W:Stmt:=(qU (top 35) 0)
noncomputable abbrev q1X:Stmt:=(qU (top 35) 1)
noncomputable abbrev q1Y:Stmt:=(qU (top 35) 2)
noncomputable abbrev q0H:Stmt:=(qU (top 35) 3)
noncomputable abbrev q1Z:Stmt:=(qU (top 35) 7)
noncomputable abbrev q18:Stmt:=(qU (top 37) 0)
noncomputable abbrev q19:Stmt:=(qU (top 37) 1)
noncomputable abbrev yD:Stmt:=(qU (top 37) 2)
noncomputable abbrev q1A:Stmt:=(qU (top 37) 3)
noncomputable abbrev q1B:Stmt:=(qU (top 37) 4)
noncomputable abbrev vZ:Stmt:=(qU (top 37) 5)
noncomputable abbrev q0I:Stmt:=(qU (top 37) 6)
noncomputable abbrev uT:Stmt:=(qU (top 37) 7)
noncomputable abbrev vH:Stmt:=(qU (top 37) 8)
noncomputable abbrev q20:Stmt:=(qU (top 37) 9)
noncomputable abbrev q0J:Stmt:=(qU (top 37) 10)
noncomputable abbrev zA:Stmt:=(qU (top 37) 11)
noncomputable abbrev q1C:Stmt:=(qU (top 37) 12)
noncomputable abbrev q1D:Stmt:=(qU (top 37) 13)
noncomputable abbrev uI:Stmt:=(qU (top 37) 14)
noncomputable abbrev uJ:Stmt:=(qU (top 37) 15)
noncomputable abbrev uF:Stmt:=(qU (top 39) 0)
noncomputable abbrev q03:Stmt:=(qU (top 39) 1)
noncomputable abbrev q0K:Stmt:=(top 41)
noncomputable abbrev q21:Stmt:=(top 42)
noncomputable abbrev q22:Stmt:=(top 43)
noncomputable abbrev q23:Stmt:=(top 44)
noncomputable abbrev q24:Stmt:=(top 45)
noncomputable abbrev q25:Stmt:=(top 46)
noncomputable abbrev q4S:Stmt:=(top 47)
noncomputable abbrev q3D:Stmt:=(top 48)
noncomputable abbrev q3E:Stmt:=(top 49)
noncomputable abbrev q3F:Stmt:=(top 50)
noncomputable abbrev q3G:Stmt:=(top 51)
noncomputable abbrev qF2:Stmt:=(top 52)
set_option genInjectivity false in
structure Adr where
(f_is_whole f_is_within f_is_shape f_is_value f_is_name f_is_from_one f_check_told f_check_row f_Parts_init f_Parts_write f_Parts_read f_Parts_give_up f_Parts_empty f_Parts_held f_Parts_room f_Parts_share_of f_Parts_told f_Parts_place_of f_Parts_check_part f_limits_of f_Chip_init f_Chip_put f_Chip_read f_Chip_cut_after f_Chip_power_on f_Chip_is_dark f_Chip_cleared f_Chip_failed f_Chip_deeds f_Chip_check_page f_Chip_check_block f_Chip_check_power f_Chip_check_deed f_Chip_is_spent f_Chip_do_deed f_mark_of f_bits_of f_Book_init f_Book_mark f_Book_note f_Book_forget f_Book_held f_Plain_init f_Plain_good f_Plain_free f_Plain_part f_Plain_spot f_Plain_reserve f_Plain_ready f_Plain_make_ready f_Plain_set_down f_Plain_lay f_Plain_write f_Plain_give_up f_Plain_read f_Plain_held f_Plain_check_sheet f_Plain_check_share f_Terms_init f_Terms_closed f_law_cell_at f_law_whole f_law_names f_law_table f_law_kinds f_law_asked f_law_due f_law_bits f_law_done f_law_made f_law_step f_law C_Parts C_Chip C_Book C_Plain C_Terms C_WornError C_PowerGone C_NoSheet C_NoValue C_Full C_NoPart:Addr)
fL:Tok
aBQ:Tok
aAB:Tok
tV:Addr
aT:Addr
structure Txt(K:W.Frag)(mg:Str→Option Value)(t:Adr):Prop where
aDP:mg "Parts"=some (.ref t.C_Parts)
aW:Cls K t.C_Parts
bL:qR K t.C_Parts "store"
eE:qR K t.C_Parts "firsts"
bO:qR K t.C_Parts "counts"
bN:qR K t.C_Parts "shares"
aBU:Meth K t.C_Parts "write" t.f_Parts_write
aCD:Meth K t.C_Parts "read" t.f_Parts_read
iO:Meth K t.C_Parts "give_up" t.f_Parts_give_up
aBT:Meth K t.C_Parts "empty" t.f_Parts_empty
eQ:Meth K t.C_Parts "held" t.f_Parts_held
iH:Meth K t.C_Parts "room" t.f_Parts_room
iE:Meth K t.C_Parts "share_of" t.f_Parts_share_of
aB0:Meth K t.C_Parts "told" t.f_Parts_told
eT:Meth K t.C_Parts "place_of" t.f_Parts_place_of
bM:Meth K t.C_Parts "check_part" t.f_Parts_check_part
aDU:Mk K t.C_Parts t.f_Parts_init
aD0:mg "Chip"=some (.ref t.C_Chip)
aV:Cls K t.C_Chip
bR:qR K t.C_Chip "blocks"
b9:qR K t.C_Chip "pages"
aCC:qR K t.C_Chip "most"
oE:qR K t.C_Chip "limits"
eY:qR K t.C_Chip "borne"
fY:qR K t.C_Chip "clearings"
fF:qR K t.C_Chip "deed_counts"
fS:qR K t.C_Chip "broken"
bC:qR K t.C_Chip "deeds_left"
fR:qR K t.C_Chip "record"
aC6:Meth K t.C_Chip "put" t.f_Chip_put
oR:Meth K t.C_Chip "read" t.f_Chip_read
t6:Meth K t.C_Chip "cut_after" t.f_Chip_cut_after
aA2:Meth K t.C_Chip "power_on" t.f_Chip_power_on
aA5:Meth K t.C_Chip "is_dark" t.f_Chip_is_dark
aA9:Meth K t.C_Chip "cleared" t.f_Chip_cleared
aBJ:Meth K t.C_Chip "failed" t.f_Chip_failed
eO:Meth K t.C_Chip "deeds" t.f_Chip_deeds
fU:Meth K t.C_Chip "check_page" t.f_Chip_check_page
fK:Meth K t.C_Chip "check_block" t.f_Chip_check_block
fI:Meth K t.C_Chip "check_power" t.f_Chip_check_power
tF:Meth K t.C_Chip "check_deed" t.f_Chip_check_deed
aAQ:Meth K t.C_Chip "is_spent" t.f_Chip_is_spent
aA6:Meth K t.C_Chip "do_deed" t.f_Chip_do_deed
aD3:Mk K t.C_Chip t.f_Chip_init
aD1:mg "Book"=some (.ref t.C_Book)
bB:Cls K t.C_Book
aBA:qR K t.C_Book "blocks"
f8:qR K t.C_Book "pages"
eU:qR K t.C_Book "stamp"
bP:qR K t.C_Book "where"
iY:qR K t.C_Book "live"
bK:qR K t.C_Book "filled"
tU:qR K t.C_Book "born"
aCR:Meth K t.C_Book "mark" t.f_Book_mark
aCQ:Meth K t.C_Book "note" t.f_Book_note
oY:Meth K t.C_Book "forget" t.f_Book_forget
aCL:Meth K t.C_Book "held" t.f_Book_held
aD4:Mk K t.C_Book t.f_Book_init
aDT:mg "Plain"=some (.ref t.C_Plain)
aU:Cls K t.C_Plain
aX:qR K t.C_Plain "chip"
bF:qR K t.C_Plain "terms"
bD:qR K t.C_Plain "book"
tZ:Meth K t.C_Plain "good" t.f_Plain_good
tW:Meth K t.C_Plain "free" t.f_Plain_free
tS:Meth K t.C_Plain "part" t.f_Plain_part
aB7:Meth K t.C_Plain "spot" t.f_Plain_spot
aAD:Meth K t.C_Plain "reserve" t.f_Plain_reserve
aBH:Meth K t.C_Plain "ready" t.f_Plain_ready
fG:Meth K t.C_Plain "make_ready" t.f_Plain_make_ready
t7:Meth K t.C_Plain "set_down" t.f_Plain_set_down
aAX:Meth K t.C_Plain "lay" t.f_Plain_lay
aBG:Meth K t.C_Plain "write" t.f_Plain_write
aAO:Meth K t.C_Plain "give_up" t.f_Plain_give_up
aCB:Meth K t.C_Plain "read" t.f_Plain_read
fJ:Meth K t.C_Plain "held" t.f_Plain_held
b8:Meth K t.C_Plain "check_sheet" t.f_Plain_check_sheet
oM:Meth K t.C_Plain "check_share" t.f_Plain_check_share
aDM:Mk K t.C_Plain t.f_Plain_init
aDN:mg "Terms"=some (.ref t.C_Terms)
bE:Cls K t.C_Terms
eF:qR K t.C_Terms "blocks"
bU:qR K t.C_Terms "pages"
fE:qR K t.C_Terms "sheets"
fN:qR K t.C_Terms "share"
tX:qR K t.C_Terms "ill"
aAK:qR K t.C_Terms "spread"
aA8:Meth K t.C_Terms "closed" t.f_Terms_closed
aDR:Mk K t.C_Terms t.f_Terms_init
aB4:mg "WornError"=some (.ref t.C_WornError)
tY:mg "PowerGone"=some (.ref t.C_PowerGone)
aBV:XRd K t.C_PowerGone
aCM:XCls K t.C_PowerGone
aBD:mg "NoSheet"=some (.ref t.C_NoSheet)
aC8:XRd K t.C_NoSheet
aDE:XCls K t.C_NoSheet
aBC:mg "NoValue"=some (.ref t.C_NoValue)
aC2:XRd K t.C_NoValue
aDI:XCls K t.C_NoValue
aDD:mg "Full"=some (.ref t.C_Full)
aD2:XRd K t.C_Full
aD5:XCls K t.C_Full
aBZ:mg "NoPart"=some (.ref t.C_NoPart)
aDH:XRd K t.C_NoPart
aDO:XCls K t.C_NoPart
bH:W.exmOne K (.ref t.C_PowerGone) (.ref t.C_WornError)=some true
bQ:W.exmOne K (.ref t.C_NoSheet) (.ref t.C_WornError)=some true
i8:W.exmOne K (.ref t.C_NoValue) (.ref t.C_WornError)=some true
tG:W.exmOne K (.ref t.C_Full) (.ref t.C_WornError)=some true
aZ:W.exmOne K (.ref t.C_NoPart) (.ref t.C_WornError)=some true
tR:W.kitOne K (.ref t.C_PowerGone) (.ref t.C_Full)=some false
oJ:W.kitOne K (.ref t.C_PowerGone) (.ref t.C_NoPart)=some false
i4:W.kitOne K (.ref t.C_PowerGone) (.ref t.C_NoSheet)=some false
i7:W.kitOne K (.ref t.C_PowerGone) (.ref t.C_NoValue)=some false
iG:W.kitOne K (.ref t.C_PowerGone) (.ref t.C_PowerGone)=some true
f7:W.kitOne K (.ref t.C_PowerGone) (.type "ValueError")=some true
aAM:W.kitOne K (.ref t.C_NoSheet) (.ref t.C_Full)=some false
tO:W.kitOne K (.ref t.C_NoSheet) (.ref t.C_NoPart)=some false
oX:W.kitOne K (.ref t.C_NoSheet) (.ref t.C_NoSheet)=some true
o8:W.kitOne K (.ref t.C_NoSheet) (.ref t.C_NoValue)=some false
i9:W.kitOne K (.ref t.C_NoSheet) (.ref t.C_PowerGone)=some false
iJ:W.kitOne K (.ref t.C_NoSheet) (.type "ValueError")=some true
aAR:W.kitOne K (.ref t.C_NoValue) (.ref t.C_Full)=some false
tQ:W.kitOne K (.ref t.C_NoValue) (.ref t.C_NoPart)=some false
oZ:W.kitOne K (.ref t.C_NoValue) (.ref t.C_NoSheet)=some false
o6:W.kitOne K (.ref t.C_NoValue) (.ref t.C_NoValue)=some true
i5:W.kitOne K (.ref t.C_NoValue) (.ref t.C_PowerGone)=some false
iS:W.kitOne K (.ref t.C_NoValue) (.type "ValueError")=some true
aB8:W.kitOne K (.ref t.C_Full) (.ref t.C_Full)=some true
aA3:W.kitOne K (.ref t.C_Full) (.ref t.C_NoPart)=some false
aAN:W.kitOne K (.ref t.C_Full) (.ref t.C_NoSheet)=some false
aAW:W.kitOne K (.ref t.C_Full) (.ref t.C_NoValue)=some false
tD:W.kitOne K (.ref t.C_Full) (.ref t.C_PowerGone)=some false
oW:W.kitOne K (.ref t.C_Full) (.type "ValueError")=some true
aA7:W.kitOne K (.ref t.C_NoPart) (.ref t.C_Full)=some false
t8:W.kitOne K (.ref t.C_NoPart) (.ref t.C_NoPart)=some true
tM:W.kitOne K (.ref t.C_NoPart) (.ref t.C_NoSheet)=some false
tN:W.kitOne K (.ref t.C_NoPart) (.ref t.C_NoValue)=some false
oU:W.kitOne K (.ref t.C_NoPart) (.ref t.C_PowerGone)=some false
i6:W.kitOne K (.ref t.C_NoPart) (.type "ValueError")=some true
aBO:W.codeHdIn K t.tV t.aT=true
aAJ:mg "is_whole"=some (.ref t.f_is_whole)
aAS:W.keepIn K (.ref t.f_is_whole)=true
a9:mg "is_within"=some (.ref t.f_is_within)
bA:W.keepIn K (.ref t.f_is_within)=true
aAT:mg "is_shape"=some (.ref t.f_is_shape)
aAU:W.keepIn K (.ref t.f_is_shape)=true
aAG:mg "is_value"=some (.ref t.f_is_value)
aAZ:W.keepIn K (.ref t.f_is_value)=true
aC5:mg "is_name"=some (.ref t.f_is_name)
aC7:W.keepIn K (.ref t.f_is_name)=true
oH:mg "is_from_one"=some (.ref t.f_is_from_one)
oG:W.keepIn K (.ref t.f_is_from_one)=true
aBR:mg "check_told"=some (.ref t.f_check_told)
aBM:W.keepIn K (.ref t.f_check_told)=true
aB2:mg "check_row"=some (.ref t.f_check_row)
aB9:W.keepIn K (.ref t.f_check_row)=true
aCI:mg "limits_of"=some (.ref t.f_limits_of)
aB5:W.keepIn K (.ref t.f_limits_of)=true
aC3:mg "mark_of"=some (.ref t.f_mark_of)
aC4:W.keepIn K (.ref t.f_mark_of)=true
aC9:mg "bits_of"=some (.ref t.f_bits_of)
aDA:W.keepIn K (.ref t.f_bits_of)=true
bT:mg "_law_cell_at"=some (.ref t.f_law_cell_at)
bS:W.keepIn K (.ref t.f_law_cell_at)=true
fH:mg "_law_whole"=some (.ref t.f_law_whole)
fM:W.keepIn K (.ref t.f_law_whole)=true
aBX:mg "_law_names"=some (.ref t.f_law_names)
aB6:W.keepIn K (.ref t.f_law_names)=true
aBW:mg "_law_table"=some (.ref t.f_law_table)
aCE:W.keepIn K (.ref t.f_law_table)=true
aCG:mg "_law_kinds"=some (.ref t.f_law_kinds)
aB1:W.keepIn K (.ref t.f_law_kinds)=true
aBY:mg "_law_asked"=some (.ref t.f_law_asked)
aCJ:W.keepIn K (.ref t.f_law_asked)=true
aDC:mg "_law_due"=some (.ref t.f_law_due)
aDB:W.keepIn K (.ref t.f_law_due)=true
aCO:mg "_law_bits"=some (.ref t.f_law_bits)
aCW:W.keepIn K (.ref t.f_law_bits)=true
aC1:mg "_law_done"=some (.ref t.f_law_done)
aCK:W.keepIn K (.ref t.f_law_done)=true
aCT:mg "_law_made"=some (.ref t.f_law_made)
aCZ:W.keepIn K (.ref t.f_law_made)=true
aCS:mg "_law_step"=some (.ref t.f_law_step)
aCY:W.keepIn K (.ref t.f_law_step)=true
iK:mg "MOST_TOLD"=some (.int 1000000 t.fL)
aDG:mg "ROLL"=some (.int 64 t.aBQ)
aDV:mg "NAMES"=some (.int 128 t.aAB)
aCH:mg "ValueError"=none
aD7:mg "all"=none
aDX:mg "bool"=none
aCX:mg "int"=none
aY:mg "isinstance"=none
fW:mg "len"=none
aDF:mg "list"=none
aD9:mg "max"=none
oO:mg "range"=none
aD8:mg "set"=none
o9:mg "sorted"=none
aD6:mg "str"=none
aDL:mg "sum"=none
aDY:mg "tuple"=none
set_option genInjectivity false
structure Fns(K:W.Frag)(t:Adr) where
aAC:Fn1 K "is_whole" "is_whole" q39 t.f_is_whole ["thing"]
bG:Fn1 K "is_within" "is_within" q1S t.f_is_within ["thing","low","high"]
aAA:Fn1 K "is_shape" "is_shape" q3A t.f_is_shape ["blocks","pages"]
t9:Fn1 K "is_value" "is_value" q3B t.f_is_value ["thing"]
aCN:Fn1 K "is_name" "is_name" q4P t.f_is_name ["thing"]
f9:Fn1 K "is_from_one" "is_from_one" q0D t.f_is_from_one ["thing"]
tK:Fn1 K "check_told" "check_told" q11 t.f_check_told ["told","terms"]
aAP:Fn1 K "check_row" "check_row" q1T t.f_check_row ["row"]
tL:Fn1 K "__init__" "Parts.__init__" q12 t.f_Parts_init ["self","store","told"]
oN:Fn1 K "write" "Parts.write" q0E t.f_Parts_write ["self","name","sheet","value"]
tJ:Fn1 K "read" "Parts.read" q13 t.f_Parts_read ["self","name","sheet"]
eZ:Fn1 K "give_up" "Parts.give_up" vW t.f_Parts_give_up ["self","name","sheets"]
oQ:Fn1 K "empty" "Parts.empty" q0F t.f_Parts_empty ["self","name"]
eI:Fn1 K "held" "Parts.held" q14 t.f_Parts_held ["self","name"]
fT:Fn1 K "room" "Parts.room" q15 t.f_Parts_room ["self","name"]
eM:Fn1 K "share_of" "Parts.share_of" vE t.f_Parts_share_of ["self","name"]
tP:Fn1 K "told" "Parts.told" q16 t.f_Parts_told ["self"]
bV:Fn1 K "place_of" "Parts.place_of" vF t.f_Parts_place_of ["self","name","sheet"]
bI:Fn1 K "check_part" "Parts.check_part" uQ t.f_Parts_check_part ["self","name"]
aAY:Fn1 K "limits_of" "limits_of" q1U t.f_limits_of ["ills","blocks"]
eR:FuncData
aCF:Value
aCU:FunD K "__init__" "Chip.__init__" uV aCF t.f_Chip_init eR
aDZ:yL K eR ["self","blocks","pages","most","ills"] []
oI:List Value
aDS:yL K eR ["self","blocks","pages","most","ills"] oI
aDQ:Vals [.non] oI
oF:List Value
aBP:yL K eR ["self","blocks","pages","most","ills"] oF
aBF:Vals [.int 1000000,.non] oF
aBN:Fn1 K "put" "Chip.put" q3C t.f_Chip_put ["self","page","stuff"]
iW:Fn1 K "read" "Chip.read" q1V t.f_Chip_read ["self","page"]
fQ:Fn1 K "cut_after" "Chip.cut_after" vG t.f_Chip_cut_after ["self","deeds"]
iC:Fn1 K "power_on" "Chip.power_on" vX t.f_Chip_power_on ["self"]
iU:Fn1 K "is_dark" "Chip.is_dark" q00 t.f_Chip_is_dark ["self"]
iN:Fn1 K "cleared" "Chip.cleared" q01 t.f_Chip_cleared ["self","block"]
oP:Fn1 K "failed" "Chip.failed" q0G t.f_Chip_failed ["self","block"]
eJ:Fn1 K "deeds" "Chip.deeds" q17 t.f_Chip_deeds ["self"]
c7:Fn1 K "check_page" "Chip.check_page" v7 t.f_Chip_check_page ["self","page"]
bX:Fn1 K "check_block" "Chip.check_block" uR t.f_Chip_check_block ["self","block"]
bY:Fn1 K "check_power" "Chip.check_power" uS t.f_Chip_check_power ["self"]
fD:Fn1 K "check_deed" "Chip.check_deed" v8 t.f_Chip_check_deed ["self","block"]
iB:Fn1 K "is_spent" "Chip.is_spent" vY t.f_Chip_is_spent ["self","block"]
iQ:Fn1 K "do_deed" "Chip.do_deed" q02 t.f_Chip_do_deed ["self","word","place","block","fails"]
aCV:Fn1 K "mark_of" "mark_of" q4Q t.f_mark_of ["stamp","name"]
aC0:Fn1 K "bits_of" "bits_of" q4R t.f_bits_of ["sheets"]
aA0:Fn1 K "__init__" "Book.__init__" q1W t.f_Book_init ["self","blocks","pages"]
aAI:Fn1 K "mark" "Book.mark" q1X t.f_Book_mark ["self","name"]
aA1:Fn1 K "note" "Book.note" q1Y t.f_Book_note ["self","page","name"]
fZ:Fn1 K "forget" "Book.forget" q0H t.f_Book_forget ["self","name"]
aAV:Fn1 K "held" "Book.held" q1Z t.f_Book_held ["self"]
tI:Fn1 K "__init__" "Plain.__init__" q18 t.f_Plain_init ["self","chip","terms"]
iZ:Fn1 K "good" "Plain.good" q19 t.f_Plain_good ["self"]
f6:FuncData
aCA:FunT K "free" "Plain.free" yD t.tV t.f_Plain_free f6
tT:yL K f6 ["self"] []
i3:Fn1 K "part" "Plain.part" q1A t.f_Plain_part ["self"]
tH:Fn1 K "spot" "Plain.spot" q1B t.f_Plain_spot ["self"]
iD:Fn1 K "reserve" "Plain.reserve" vZ t.f_Plain_reserve ["self"]
oK:Fn1 K "ready" "Plain.ready" q0I t.f_Plain_ready ["self"]
bW:Fn1 K "make_ready" "Plain.make_ready" uT t.f_Plain_make_ready ["self"]
fO:Fn1 K "set_down" "Plain.set_down" vH t.f_Plain_set_down ["self","name","value"]
o7:Fn1 K "lay" "Plain.lay" q20 t.f_Plain_lay ["self","name","value"]
oS:Fn1 K "write" "Plain.write" q0J t.f_Plain_write ["self","sheet","value"]
iA:Fn1 K "give_up" "Plain.give_up" zA t.f_Plain_give_up ["self","sheets"]
tE:Fn1 K "read" "Plain.read" q1C t.f_Plain_read ["self","sheet"]
fA:Fn1 K "held" "Plain.held" q1D t.f_Plain_held ["self"]
bJ:Fn1 K "check_sheet" "Plain.check_sheet" uI t.f_Plain_check_sheet ["self","sheet"]
eL:Fn1 K "check_share" "Plain.check_share" uJ t.f_Plain_check_share ["self","sheet"]
eG:FuncData
aBL:Value
aB3:FunD K "__init__" "Terms.__init__" uF aBL t.f_Terms_init eG
aDW:yL K eG ["self","blocks","pages","sheets","share","ill","spread"] []
iR:List Value
aDJ:yL K eG ["self","blocks","pages","sheets","share","ill","spread"] iR
aDK:Vals [.int 1000000] iR
iX:List Value
aA4:yL K eG ["self","blocks","pages","sheets","share","ill","spread"] iX
aBB:Vals [.int 0,.int 1000000] iX
iP:Fn1 K "closed" "Terms.closed" q03 t.f_Terms_closed ["self"]
bZ:Fn1 K "_law_cell_at" "_law_cell_at" q0K t.f_law_cell_at ["_law_script","_law_k"]
fX:Fn1 K "_law_whole" "_law_whole" q21 t.f_law_whole ["_law_found"]
aAF:Fn1 K "_law_names" "_law_names" q22 t.f_law_names ["_law_cell","_law_place","_law_many"]
aAE:Fn1 K "_law_table" "_law_table" q23 t.f_law_table ["_law_script","_law_start"]
aAL:Fn1 K "_law_kinds" "_law_kinds" q24 t.f_law_kinds ["_law_e"]
aAH:Fn1 K "_law_asked" "_law_asked" q25 t.f_law_asked ["_law_parts","_law_ask"]
aCP:Fn1 K "_law_due" "_law_due" q4S t.f_law_due ["_law_mine","_law_ask","_law_dark"]
aBE:Fn1 K "_law_bits" "_law_bits" q3D t.f_law_bits ["_law_mine"]
aBI:Fn1 K "_law_done" "_law_done" q3E t.f_law_done ["_law_store","_law_mine","_law_ask","_law_found","_law_many"]
aBK:Fn1 K "_law_made" "_law_made" q3F t.f_law_made ["_law_mine","_law_number"]
aBS:Fn1 K "_law_step" "_law_step" q3G t.f_law_step ["_law_store","_law_parts","_law_mine","_law_number"]
law:Fn1 K "law" "law" qF2 t.f_law ["_law_script"]
structure HkE where
P:Program
w:World
K:W.Frag
mg:Str→Option Value
t:Adr
noncomputable def hkB(e:HkE):Prop:=∃(S:Fns e.K e.t) (base:Heap),Txt e.K e.mg e.t∧BmIn base e.mg∧¬S.law.Ok0 e.P e.w e.mg base 17 (q4L e.K [e.t.aT])
instance:Nonempty HkE:=⟨⟨PySem.Challenge.pw_wornpages_k82_their_rooms,⟨λ_ _=>0,{ strHash:=λ_=>0,shareClass:=λ_=>0,mergeTok:=id,idOf:=λ_=>0,idOfShared:=λ_ _=>0,followText:=λ_=>false,idOfImm:=λ_=>0 }⟩,[],λ_=>none,by constructor<;>exact(0:Nat)⟩⟩
@[irreducible] noncomputable def hkE:HkE:=Classical.epsilon hkB
noncomputable def P:Program:=hkE.P
noncomputable def w:World:=hkE.w
noncomputable def K:W.Frag:=hkE.K
noncomputable def mg:Str→Option Value:=hkE.mg
noncomputable def t:Adr:=hkE.t
section
variable{base:Heap}
theorem qAA:FnScope ["thing"] ["thing"] (qH q39):=j9 (by decide+kernel)
theorem q8U:FnScope ["thing","low","high"] ["thing","low","high"] (qH q1S):=j9 (by decide+kernel)
theorem qAB:FnScope ["blocks","pages"] ["blocks","pages"] (qH q3A):=j9 (by decide+kernel)
theorem qAC:FnScope ["thing"] ["thing"] (qH q3B):=j9 (by decide+kernel)
theorem qBB:FnScope ["thing"] ["thing"] (qH q4P):=j9 (by decide+kernel)
theorem q6I:FnScope ["thing"] ["thing"] (qH q0D):=j9 (by decide+kernel)
theorem q2U:FnScope ["told","terms","row"] ["told","terms"] (qH q11):=j9 (by decide+kernel)
theorem q8V:FnScope ["row"] ["row"] (qH q1T):=j9 (by decide+kernel)
theorem yZ:FnScope ["self","store","told","first","name","sheets","share"] ["self","store","told"] (qH q12):=j9 (by decide+kernel)
theorem q26:FnScope ["self","name","sheet","value","place"] ["self","name","sheet","value"] (qH q0E):=j9 (by decide+kernel)
theorem q6Z:FnScope ["self","name","sheet"] ["self","name","sheet"] (qH q13):=j9 (by decide+kernel)
theorem q4T:FnScope ["self","name","sheets"] ["self","name","sheets"] (qH vW):=j9 (by decide+kernel)
theorem q6J:FnScope ["self","name"] ["self","name"] (qH q0F):=j9 (by decide+kernel)
theorem q2V:FnScope ["self","name","first"] ["self","name"] (qH q14):=j9 (by decide+kernel)
theorem q70:FnScope ["self","name"] ["self","name"] (qH q15):=j9 (by decide+kernel)
theorem q47:FnScope ["self","name"] ["self","name"] (qH vE):=j9 (by decide+kernel)
theorem q71:FnScope ["self"] ["self"] (qH q16):=j9 (by decide+kernel)
theorem q48:FnScope ["self","name","sheet"] ["self","name","sheet"] (qH vF):=j9 (by decide+kernel)
theorem q2M:FnScope ["self","name"] ["self","name"] (qH uQ):=j9 (by decide+kernel)
theorem zK:FnScope ["ills","blocks","limits","block","deeds"] ["ills","blocks"] (qH q1U):=j9 (by decide+kernel)
theorem q8W:FnScope ["self","blocks","pages","most","ills"] ["self","blocks","pages","most","ills"] (qH uV):=j9 (by decide+kernel)
theorem q5A:FnScope ["self","page","stuff","block"] ["self","page","stuff"] (qH q3C):=j9 (by decide+kernel)
theorem q8X:FnScope ["self","page"] ["self","page"] (qH q1V):=j9 (by decide+kernel)
theorem q49:FnScope ["self","deeds"] ["self","deeds"] (qH vG):=j9 (by decide+kernel)
theorem q4U:FnScope ["self"] ["self"] (qH vX):=j9 (by decide+kernel)
theorem q5F:FnScope ["self"] ["self"] (qH q00):=j9 (by decide+kernel)
theorem q5G:FnScope ["self","block"] ["self","block"] (qH q01):=j9 (by decide+kernel)
theorem q6K:FnScope ["self","block"] ["self","block"] (qH q0G):=j9 (by decide+kernel)
theorem q72:FnScope ["self"] ["self"] (qH q17):=j9 (by decide+kernel)
theorem q3H:FnScope ["self","page"] ["self","page"] (qH v7):=j9 (by decide+kernel)
theorem q2N:FnScope ["self","block"] ["self","block"] (qH uR):=j9 (by decide+kernel)
theorem q2O:FnScope ["self"] ["self"] (qH uS):=j9 (by decide+kernel)
theorem q3I:FnScope ["self","block"] ["self","block"] (qH v8):=j9 (by decide+kernel)
theorem q4V:FnScope ["self","block"] ["self","block"] (qH vY):=j9 (by decide+kernel)
theorem q5H:FnScope ["self","word","place","block","fails"] ["self","word","place","block","fails"] (qH q02):=j9 (by decide+kernel)
theorem qBC:FnScope ["stamp","name"] ["stamp","name"] (qH q4Q):=j9 (by decide+kernel)
theorem q1E:FnScope ["sheets","bits","sheet"] ["sheets"] (qH q4R):=j9 (by decide+kernel)
theorem q8Y:FnScope ["self","blocks","pages"] ["self","blocks","pages"] (qH q1W):=j9 (by decide+kernel)
theorem q8Z:FnScope ["self","name"] ["self","name"] (qH q1X):=j9 (by decide+kernel)
theorem q4A:FnScope ["self","page","name","block"] ["self","page","name"] (qH q1Y):=j9 (by decide+kernel)
theorem q27:FnScope ["self","name","page"] ["self","name"] (qH q0H):=j9 (by decide+kernel)
theorem q90:FnScope ["self"] ["self"] (qH q1Z):=j9 (by decide+kernel)
theorem q73:FnScope ["self","chip","terms"] ["self","chip","terms"] (qH q18):=j9 (by decide+kernel)
theorem q74:FnScope ["self"] ["self"] (qH q19):=j9 (by decide+kernel)
theorem q2W:FnScope ["self","clear"] ["self"] (qH yD):=j9 (by decide+kernel)
theorem q2X:FnScope ["self","block"] ["self"] (qH q1A):=j9 (by decide+kernel)
theorem q0L:FnScope ["self","part","free"] ["self"] (qH q1B):=j9 (by decide+kernel)
theorem q4W:FnScope ["self"] ["self"] (qH vZ):=j9 (by decide+kernel)
theorem q28:FnScope ["self","spare"] ["self"] (qH q0I):=j9 (by decide+kernel)
theorem q2P:FnScope ["self"] ["self"] (qH uT):=j9 (by decide+kernel)
theorem q07:FnScope ["self","name","value","page"] ["self","name","value"] (qH vH):=j9 (by decide+kernel)
theorem q91:FnScope ["self","name","value"] ["self","name","value"] (qH q20):=j9 (by decide+kernel)
theorem q6L:FnScope ["self","sheet","value"] ["self","sheet","value"] (qH q0J):=j9 (by decide+kernel)
theorem yT:FnScope ["self","sheets","sheet","held","gone"] ["self","sheets"] (qH zA):=j9 (by decide+kernel)
theorem q75:FnScope ["self","sheet"] ["self","sheet"] (qH q1C):=j9 (by decide+kernel)
theorem q76:FnScope ["self"] ["self"] (qH q1D):=j9 (by decide+kernel)
theorem q29:FnScope ["self","sheet"] ["self","sheet"] (qH uI):=j9 (by decide+kernel)
theorem vT:FnScope ["self","sheet","held"] ["self","sheet"] (qH uJ):=j9 (by decide+kernel)
theorem q77:FnScope ["self","blocks","pages","sheets","share","ill","spread"] ["self","blocks","pages","sheets","share","ill","spread"] (qH uF):=j9 (by decide+kernel)
theorem q5I:FnScope ["self"] ["self"] (qH q03):=j9 (by decide+kernel)
theorem q6M:FnScope ["_law_script","_law_k"] ["_law_script","_law_k"] (qH q0K):=j9 (by decide+kernel)
theorem q92:FnScope ["_law_found"] ["_law_found"] (qH q21):=j9 (by decide+kernel)
theorem yE:FnScope ["_law_cell","_law_place","_law_many","_law_letters","_law_size","_law_base","_law_names_here","_law_k","_law_word","_law_j","_law_step_here"] ["_law_cell","_law_place","_law_many"] (qH q22):=j9 (by decide+kernel)
theorem uG:FnScope ["_law_script","_law_start","_law_many","_law_names_here","_law_rows","_law_k","_law_cell"] ["_law_script","_law_start"] (qH q23):=j9 (by decide+kernel)
theorem q4B:FnScope ["_law_e","_law_found"] ["_law_e"] (qH q24):=j9 (by decide+kernel)
theorem jT:FnScope ["_law_parts","_law_ask","_law_kinds_here","_law_found","_law_e"] ["_law_parts","_law_ask"] (qH q25):=j9 (by decide+kernel)
theorem q6N:FnScope ["_law_mine","_law_ask","_law_dark","_law_held"] ["_law_mine","_law_ask","_law_dark"] (qH q4S):=j9 (by decide+kernel)
theorem u9:FnScope ["_law_mine","_law_bits_here","_law_power","_law_name","_law_sheet"] ["_law_mine"] (qH q3D):=j9 (by decide+kernel)
theorem vU:FnScope ["_law_store","_law_mine","_law_ask","_law_found","_law_many","_law_held","_law_gone","_law_sheet","_law_deeds"] ["_law_store","_law_mine","_law_ask","_law_found","_law_many"] (qH q3E):=j9 (by decide+kernel)
theorem uW:FnScope ["_law_mine","_law_number","_law_names_here","_law_ask","_law_wide","_law_bad","_law_at"] ["_law_mine","_law_number"] (qH q3F):=j9 (by decide+kernel)
theorem uA:FnScope ["_law_store","_law_parts","_law_mine","_law_number","_law_ask","_law_dark","_law_many","_law_due_here","_law_kinds_here","_law_found"] ["_law_store","_law_parts","_law_mine","_law_number"] (qH q3G):=j9 (by decide+kernel)
theorem vI:FnScope ["_law_script","_law_rows","_law_mine","_law_name","_law_sheets","_law_share","_law_wide","_law_deep","_law_blocks","_law_store","_law_parts","_law_cell"] ["_law_script"] (qH qF2):=j9 (by decide+kernel)
local macro_rules| `(tactic|walk_at "r")=>`(tactic|repeat (first|with_reducible refine⟨_,rfl,?_⟩|refine⟨_,rfl,?_⟩|refine(iI ?_)))
theorem q5B(T:Txt K mg t)(S:Fns K t):S.aAC.Ok0 P w mg base 1 qBY:=by(
refine S.aAC.F.ok0 qAA λcdv A _ s H vs Q E hr h=>?_
obtain⟨x,rfl,kn,k⟩:=h
refine⟨_,(qC (qP (vA (qS jK (by rfl) T.aY (by kernel_rfl) (qA (pv 0) (qA (vJ rfl T.aCX (by kernel_rfl) rfl (v:=.ty "int")) qE))) (uX (qAJ (qS jK (by rfl) T.aY (by kernel_rfl) (qA (pv 0) (qA (vJ rfl T.aDX (by kernel_rfl) rfl (v:=.ty "bool")) qE)))))))),?_⟩
try dsimp-beta-proj-iota-zeta-eta only[wishK,cxK]
obtain⟨ty,q,e1,e2,_⟩:=kn.ty (K:=K)
refine⟨_,rfl,x,_,_,ty,_,rfl,rfl,.inl q,e1,_,rfl,?_⟩
have z:=qE0 x
cases qi:isI x with
|true=>rw[qi,kG rfl]at z;refine iteT ?_;refine⟨_,rfl,x,_,_,ty,_,rfl,rfl,.inl q,e2,_,rfl,?_⟩;rw[z];exact k
|false=>rw[qi]at z;refine iteF ?_;have z':false=isW x:=z;rw[z'];exact k)
theorem jO(T:Txt K mg t)(S:Fns K t):S.bG.Ok0 P w mg base 2 qE2:=by(
refine S.bG.F.ok0 q8U λcdv A _ s H vs Q E hr h=>?_
obtain⟨x,lo,hi,rfl,kn,k⟩:=h
refine⟨_,(qC (qP (vA (qX (q5B T S).mono hr rfl T.aAJ T.aAS S.aAC.b .nil qQ (qA (pv 0) qE)) (uX (q9J q9I q9I (pv 1) (pv 0) (pv 2)))))),?_⟩
try dsimp-beta-proj-iota-zeta-eta only[wishK,cxK]
refine⟨_,rfl,x,rfl,kn,_,rfl,?_⟩
cases x with
|int i=>
 refine iteT ?_;refine⟨_,rfl,_,rfl,_,_,rfl,rfl,_,rfl,?_⟩;have k':Q (V.bl (decide (lo≤i)&&decide (i≤hi))) H:=k;by_cases h1:lo≤i
 ·rw[hI h1]at k' ⊢;refine iteT ?_;exact⟨_,rfl,_,_,rfl,rfl,k'⟩
 rw[hG h1]at k' ⊢;refine iteF ?_;exact k'
|_=>exact iteF k)
theorem q5C(T:Txt K mg t)(S:Fns K t):S.aAA.Ok0 P w mg base 3 qFT:=by(
refine S.aAA.F.ok0 qAB λcdv A _ s H vs Q E hr h=>?_
obtain⟨x,y,rfl,kx,ky,k⟩:=h
refine⟨_,(qC (qP (vA (qX (jO T S).mono hr rfl T.a9 T.bA S.bG.b .nil qQ (qA (pv 0) (qA qJ (qA qJ qE)))) (uX (qX (jO T S).mono hr rfl T.a9 T.bA S.bG.b .nil qQ (qA (pv 1) (qA qJ (qA qJ qE)))))))),?_⟩
try dsimp-beta-proj-iota-zeta-eta only[wishK,cxK]
refine⟨_,rfl,x,_,_,rfl,kx,_,rfl,?_⟩
cases q:inB x 2 16 with
|true=>rw[q]at k;refine iteT ⟨_,rfl,y,_,_,rfl,ky,k⟩
|false=>rw[q]at k;exact iteF k)
structure Gd(m:CM):Prop where
br:∀b,m.br.getD b false=false
li:∀b,valV m.lim (Sum.inl b)=none
theorem inBi{v lo hi:Int}(h1:lo≤v)(h2:v≤hi):inB (.int v) lo hi=true:=by show(decide (lo≤v)&&decide (v≤hi))=true;rw[hI h1,hI h2];rfl
noncomputable def putC(m:CM)(p:Nat)(st:V):CM:={ m.deed "put" (p:Int) ((p:Int) / m.pg) false with bo:=m.bo.set p st }
noncomputable def spCP(t:Adr):Sp:=λvs H Q E=>∃c a m,∃p:Int,vs=[.ref c,.int p]∧ChipAt t.C_Chip H c a m∧m.Ok∧0≤p∧p≤m.bl*m.pg-1∧Q .non H
theorem q04(T:Txt K mg t)(S:Fns K t):S.c7.Ok0 P w mg base 3 (spCP t):=by(
refine S.c7.F.ok0 q3H λcdv A _ s H vs Q E hr h=>?_
obtain⟨c,a,m,p,rfl,hc,ok,p0,p1,q⟩:=h
refine⟨_,(qC (qV (jZ (jI (qX (jO T S).mono hr rfl T.a9 T.bA S.bG.b .nil qQ (qA (pv 1) (qA qJ (qA (qT uY (qT vC (qM (pv 0) rfl) (qM (pv 0) rfl)) qJ) qE)))))) (qC jC) qL)),?_⟩
try dsimp-beta-proj-iota-zeta-eta only[wishK,cxK]
have b1:=ok.bl1
have b2:=ok.bl2
refine⟨_,rfl,_,rfl,c,_,a.dx,_,_,rfl,hc.ins,T.aV,T.bR,rfl,_,rfl,c,_,a.dx,_,_,rfl,hc.ins,T.aV,T.b9,rfl,?_⟩
refine⟨_,_,rfl,rfl,.inl ⟨by lia,by lia⟩,_,_,rfl,rfl,.int p,_,_,rfl,.int p,_,rfl,?_⟩
rw[inBi p0 p1]
exact iteF q)
noncomputable def spCB(t:Adr):Sp:=λvs H Q E=>∃c a m,∃p:Int,vs=[.ref c,.int p]∧ChipAt t.C_Chip H c a m∧0≤p∧p≤m.bl-1∧Q .non H
theorem zE(T:Txt K mg t)(S:Fns K t):S.bX.Ok0 P w mg base 3 (spCB t):=by(
refine S.bX.F.ok0 q2N λcdv A _ s H vs Q E hr h=>?_
obtain⟨c,a,m,p,rfl,hc,p0,p1,q⟩:=h
refine⟨_,(qC (qV (jZ (jI (qX (jO T S).mono hr rfl T.a9 T.bA S.bG.b .nil qQ (qA (pv 1) (qA qJ (qA (qT uY (qM (pv 0) rfl) qJ) qE)))))) (qC jC) qL)),?_⟩
try dsimp-beta-proj-iota-zeta-eta only[wishK,cxK]
refine⟨_,rfl,_,rfl,c,_,a.dx,_,_,rfl,hc.ins,T.aV,T.bR,rfl,_,_,rfl,rfl,.int p,_,_,rfl,.int p,_,rfl,?_⟩
rw[inBi p0 p1]
exact iteF q)
noncomputable def spID(t:Adr):Sp:=λvs H Q E=>∃c a m,vs=[.ref c]∧ChipAt t.C_Chip H c a m∧Q (.bl (decide (m.lf=some 0))) H
theorem q5J(T:Txt K mg t)(S:Fns K t):S.iU.Ok0 P w mg base 1 (spID t):=by(
refine S.iU.F.ok0 q5F λcdv A _ s H vs Q E hr h=>?_
obtain⟨c,a,m,rfl,hc,q⟩:=h
refine⟨_,(qC (qP (yC jR (qM (pv 0) rfl) qJ (qO _)))),?_⟩
try dsimp-beta-proj-iota-zeta-eta only[wishK,cxK]
refine⟨_,rfl,c,_,a.dx,_,_,rfl,hc.ins,T.aV,T.bC,rfl,qFS,?_⟩
rw[lf0]
exact q)
noncomputable def spPW(t:Adr):Sp:=λvs H Q E=>∃c a m,vs=[.ref c]∧ChipAt t.C_Chip H c a m∧(if m.lf=some 0 then E (.ref t.C_PowerGone) none H else Q .non H)
theorem zF(T:Txt K mg t)(S:Fns K t):S.bY.OkE P w mg base 2 (spPW t):=by(
refine S.bY.F.okE q2O (λvs H Q E h=>?_) (λcdv A outer s H vs Q E hr h=>?_)
·repeat obtain⟨_,h⟩:=h
 all_goals subst_vars;rfl
obtain⟨c,a,m,rfl,hc,q⟩:=h
refine⟨_,(qC (qV (jI (jL (pv 0) T.aV T.aA5 (q5J T S).mono hr S.iU.b .nil qQ)) (qC (q1M jE rfl rfl T.tY T.aCM (qA qI qE))) qL)),?_⟩
try dsimp-beta-proj-iota-zeta-eta only[wishK,cxK]
refine⟨_,rfl,c,a.dx,_,rfl,hc.ins,rfl,c,a,m,rfl,hc,_,rfl,?_⟩
by_cases z:m.lf=some 0
·rw[kG z]at q;rw[hI z];exact iteT ⟨sz1,q⟩
rw[kE z]at q
rw[hG z]
exact iteF q)
noncomputable def spCD(t:Adr):Sp:=λvs H Q E=>∃c a m b,vs=[.ref c,.int b]∧ChipAt t.C_Chip H c a m∧m.Ok∧Gd m∧0≤b∧b<m.bl∧(if m.lf=some 0 then E (.ref t.C_PowerGone) none H else Q .non H)
theorem q3J(T:Txt K mg t)(S:Fns K t):S.fD.OkE P w mg base 3 (spCD t):=by(
refine S.fD.F.okE q3I (λvs H Q E h=>?_) (λcdv A outer s H vs Q E hr h=>?_)
·repeat obtain⟨_,h⟩:=h
 all_goals subst_vars;rfl
obtain⟨c,a,m,b,rfl,hc,ok,g,b0,b1,q⟩:=h
refine⟨_,(qB (jD (q7X jE (pv 0) T.aV T.fI (zF T S).mono hr S.bY.b .nil)) (qC (qV (jI (yF jN (qM (pv 0) rfl) (pv 1) (λ_ _=>rfl))) (qC jC) qL))),?_⟩
try dsimp-beta-proj-iota-zeta-eta only[wishK,cxK]
have nb:=ok.nbr
refine(iV rfl (iM hc.ins rfl ⟨c,a,m,rfl,hc,?_⟩))
split
·rename_i z;rw[kG z]at q;exact q
rename_i z
rw[kE z]at q
refine⟨_,rfl,c,_,a.dx,_,_,rfl,hc.ins,T.aV,T.fS,rfl,_,rfl,a.br,_,b,_,rfl,rfl,SqL.of hc.br,getB b0 (by lia),_,rfl,?_⟩
rw[g.br]
exact iteF q)
noncomputable def spIS(t:Adr):Sp:=λvs H Q E=>∃c a m b,vs=[.ref c,.int b]∧ChipAt t.C_Chip H c a m∧Gd m∧Q (.bl false) H
theorem q4X(T:Txt K mg t)(S:Fns K t):S.iB.Ok0 P w mg base 1 (spIS t):=by(
refine S.iB.F.ok0 q4V λcdv A _ s H vs Q E hr h=>?_
obtain⟨c,a,m,b,rfl,hc,g,q⟩:=h
have hu:=v5 hr
refine⟨_,(qC (qP (vA (qHA (q8H hu (pv 1) (qM (pv 0) rfl))) (uX (yC qBR (yF jN (qM (pv 0) rfl) (pv 1) (λ_ _=>rfl)) (qK hu (qM (pv 0) rfl) (pv 1) (λ_ _=>rfl)) (qO _)))))),?_⟩
try dsimp-beta-proj-iota-zeta-eta only[wishK,cxK]
refine⟨_,rfl,_,rfl,c,_,a.dx,_,_,rfl,hc.ins,T.aV,T.oE,rfl,a.li,_,rfl,DGet.k (k:=Sum.inl b) hc.li,_,rfl,?_⟩
rw[g.li]
exact iteF q)
noncomputable def spDD(t:Adr):Sp:=λvs H Q E=>∃c a m w pl b,vs=[.ref c,.str w,.int pl,.int b,.bl false]∧ChipAt t.C_Chip H c a m∧m.Ok∧m.rc.length<1000000∧0≤b∧b<m.bl∧∀H',ChipAt t.C_Chip H' c a (m.deed w pl b false)→Keep (foot c a) H H'→Q .non H'
theorem q5K(T:Txt K mg t)(S:Fns K t):S.iQ.Ok0 P w mg base 3 (spDD t):=by(
refine S.iQ.F.ok0 q5H λcdv A _ s H vs Q E hr h=>?_
obtain⟨c,a,m,w,pl,b,rfl,hc,ok,hr1,b0,b1,q⟩:=h
refine⟨_,(q2G (qV (qN q5O (qM (pv 0) rfl) uO (qO _)) (qC (q7N (pv 0) qJ qHG)) qL) (qB (q5N (qM (pv 0) rfl) (pv 3) q3V qJ q8B q0P) (qB (jD (q3S gB m7 m8 yR (qM (pv 0) rfl) (qA (q2F (qA (pv 1) (qA (pv 2) (qA (qAJ (pv 4)) qE)))) qE q67))) (qC (qV (jI (pv 4)) (qB jC (qC jC)) qL))))),?_⟩
try dsimp-beta-proj-iota-zeta-eta only[wishK,cxK]
have nd:=ok.ndc
refine⟨λσ' H1=>σ'=[some (.ref c),some (.str w),some (.int pl),some (.int b),some (.bl false)]∧ChipAt t.C_Chip H1 c a { m with lf:=m.lf.map (· - 1) }∧Keep (foot c a) H H1,?_,?_⟩
·refine⟨_,rfl,c,_,a.dx,_,_,rfl,hc.ins,T.aV,T.bC,rfl,rfl,_,rfl,?_⟩;cases hl:m.lf with
 |none=>refine iteF ⟨rfl,?_,Keep.refl⟩;show ChipAt t.C_Chip H c a { m with lf:=none };rw[←hl];exact hc
 |some i=>refine iteT ?_;refine⟨_,rfl,c,_,a.dx,_,_,rfl,hc.ins,T.aV,T.bC,(by unfold chF;rw[hl];rfl),iI ⟨a.dx,_,hc.ins,by show 10<1000;decide,?_⟩⟩;refine⟨rfl,hc.setLf (some (i-1)),Keep.upd hc.ins (λ_ z=>by cases z) (by simp[foot])⟩
rintro _ H1 ⟨rfl,hc1,k1⟩
refine(iV rfl (iF hc1.ins T.aV T.fF rfl ⟨_,rfl,iL (k:=b) (v:=_) (SqL.of hc1.dc) (getI b0 (by show b<(m.dc.length:Int);lia)) (iI ⟨a.dc,_,b,b.toNat,rfl,rfl,hc1.dc,by rw[hU];exact ixOk b0 (by show b<(m.dc.length:Int);lia),?_⟩)⟩))
rw[←aN]
have hc2:=hc1.setDc (m.dc.set b.toNat (m.dc.getD b.toNat 0+1))
have k2:Keep (foot c a) H (upd H1 a.dc (.lst ((m.dc.set b.toNat (m.dc.getD b.toNat 0+1)).map V.int))):=k1.trans (Keep.upd hc1.dc (λ_ z=>by cases z) (by simp[foot]))
generalize upd H1 a.dc (.lst ((m.dc.set b.toNat (m.dc.getD b.toNat 0+1)).map V.int))=H2 at hc2 k2 ⊢
obtain⟨rs,er,pr⟩:=hc2.rc
have ln:rs.length≤1000000:=by rw[pr.len];exact cX hr1
refine⟨_,rfl,c,_,a.dx,_,_,rfl,hc2.ins,T.aV,T.fR,rfl,.inl ⟨rfl,_,SqL.of er⟩,_,rfl,_,rfl,_,rfl,_,rfl,sz3,λp H3 np sm hp=>?_⟩
have er3:=sm _ _ er
refine⟨a.rc,rs,_,rfl,rfl,er3,wS ln (by decide),?_⟩
exact⟨_,rfl,_,rfl,iteF (q _ ((hc2.same sm).addRc (d:=(w,pl,!false)) er3 hp) ((k2.trans (Keep.same sm)).trans (Keep.upd (o:=.lst (rs++[.ref p])) er3 (λ_ z=>by cases z) (by simp[foot]))))⟩)
noncomputable def qK9(t:Adr):Sp:=λvs H Q E=>∃c a m,∃p:Nat,∃st,vs=[.ref c,.int (p:Int),st]∧ChipAt t.C_Chip H c a m∧m.Ok∧m.rc.length<1000000∧Gd m∧(p:Int)≤m.bl*m.pg-1∧m.bo.getD p .non=.non∧(m.lf=some 0→E (.ref t.C_PowerGone) none H)∧(m.lf≠some 0→∀H',ChipAt t.C_Chip H' c a (putC m p st)→Keep (foot c a) H H'→Q .non H')
theorem qAD(T:Txt K mg t)(S:Fns K t):S.aBN.OkE P w mg base 4 (qK9 t):=by(
refine S.aBN.F.okE q5A (λvs H Q E h=>?_) (λcdv A outer s H vs Q E hr h=>?_)
·repeat obtain⟨_,h⟩:=h
 all_goals subst_vars;rfl
obtain⟨c,a,m,p,st,rfl,hc,ok,hr1,g,p1,hw,dk,q⟩:=h
refine⟨_,(qB (jD (yO (pv 0) T.aV T.fU (q04 T S).mono hr S.c7.b .nil qQ (qA (pv 1) qE))) (qB (qW (i:=3) q5A.nd rfl (Or.inl rfl) (qT yH (pv 1) (qM (pv 0) rfl))) (qB (jD (jB jE (pv 0) T.aV T.tF (q3J T S).mono hr S.fD.b .nil (qA (pv 3) qE))) (qB (qV (qN q5O (yF jN (qM (pv 0) rfl) (pv 1) (λ_ _=>rfl)) uO (qO _)) (qC jC) qL) (qB (jD (yO (pv 0) T.aV T.aA6 (q5K T S).mono hr S.iQ.b .nil qQ (qA qI (qA (pv 1) (qA (pv 3) (qA (yO (pv 0) T.aV T.aAQ (q4X T S).mono hr S.iB.b .nil qQ (qA (pv 3) qE)) qE)))))) (qC (qAK (pv 2) (qDJ (qM (pv 0) rfl) (pv 1) q0P)))))))),?_⟩
try dsimp-beta-proj-iota-zeta-eta only[wishK,cxK]
have pg1:=ok.pg1
have pg2:=ok.pg2
have nbo:=ok.nbo
have p0:(0:Int)≤p:=by lia
obtain⟨b0,b1⟩:=qIF ok p0 p1
refine⟨_,rfl,c,a.dx,_,rfl,hc.ins,rfl,_,rfl,c,a,m,p,rfl,hc,ok,p0,p1,?_⟩
refine⟨_,rfl,_,rfl,c,_,a.dx,_,_,rfl,hc.ins,T.aV,T.b9,rfl,_,_,rfl,rfl,⟨by lia,by lia⟩,?_⟩
refine⟨_,rfl,c,a.dx,_,rfl,hc.ins,rfl,_,rfl,c,a,m,_,rfl,hc,ok,g,b0,b1,?_⟩
by_cases z:m.lf=some 0
·rw[kG z];exact dk z
rw[kE z]
have q:=q z
refine⟨_,rfl,c,_,a.dx,_,_,rfl,hc.ins,T.aV,T.eY,rfl,_,rfl,a.bo,_,p,_,rfl,rfl,SqL.of hc.bo,getV p0 (by lia),rfl,_,rfl,?_⟩
rw[mY,hI hw]
refine iteF ?_
refine⟨_,rfl,c,a.dx,_,rfl,hc.ins,rfl,_,rfl,_,rfl,_,rfl,c,a.dx,_,rfl,hc.ins,rfl,_,rfl,c,a,m,_,rfl,hc,g,?_⟩
refine⟨c,a,m,"put",p,_,rfl,hc,ok,hr1,b0,b1,λH' hc' k'=>?_⟩
refine⟨_,rfl,_,rfl,c,_,a.dx,_,_,rfl,hc'.ins,T.aV,T.eY,rfl,_,rfl,a.bo,_,p,p,rfl,rfl,hc'.bo,ixOk p0 (by show(p:Int)<(m.bo.length:Int);lia),?_⟩
exact q _ (hc'.setBo (m.bo.set p st)) (k'.trans (Keep.upd hc'.bo (λ_ z=>by cases z) (by simp[foot]))))
noncomputable def qIV(t:Adr):Sp:=λvs H Q E=>∃c a m,∃p:Int,vs=[.ref c,.int p]∧ChipAt t.C_Chip H c a m∧m.Ok∧0≤p∧p≤m.bl*m.pg-1∧(m.lf=some 0→E (.ref t.C_PowerGone) none H)∧(m.lf≠some 0→Q (m.bo.getD p.toNat .non) H)
theorem q1F(T:Txt K mg t)(S:Fns K t):S.iW.OkE P w mg base 4 (qIV t):=by(
refine S.iW.F.okE q8X (λvs H Q E h=>?_) (λcdv A outer s H vs Q E hr h=>?_)
·repeat obtain⟨_,h⟩:=h
 all_goals subst_vars;rfl
obtain⟨c,a,m,p,rfl,hc,ok,p0,p1,dk,q⟩:=h
refine⟨_,(qB (jD (yO (pv 0) T.aV T.fU (q04 T S).mono hr S.c7.b .nil qQ (qA (pv 1) qE))) (qB (jD (q7X jE (pv 0) T.aV T.fI (zF T S).mono hr S.bY.b .nil)) (qC (qP (yF jN (qM (pv 0) rfl) (pv 1) (λ_ _=>rfl)))))),?_⟩
try dsimp-beta-proj-iota-zeta-eta only[wishK,cxK]
have nbo:=ok.nbo
refine(iV rfl (iM hc.ins rfl ⟨_,rfl,c,a,m,p,rfl,hc,ok,p0,p1,iV rfl (iM hc.ins rfl ⟨c,a,m,rfl,hc,?_⟩)⟩))
by_cases z:m.lf=some 0
·rw[kG z];exact dk z
rw[kE z]
exact(iV rfl (iF hc.ins T.aV T.eY rfl ⟨_,rfl,iL (k:=p) (v:=_) (SqL.of hc.bo) (getV p0 (by lia)) (q z)⟩)))
noncomputable def spCl(t:Adr):Sp:=λvs H Q E=>∃c a m b,vs=[.ref c,.int b]∧ChipAt t.C_Chip H c a m∧m.Ok∧0≤b∧b≤m.bl-1∧Q (.int (m.cl.getD b.toNat 0)) H
theorem q5L(T:Txt K mg t)(S:Fns K t):S.iN.Ok0 P w mg base 4 (spCl t):=by(
refine S.iN.F.ok0 q5G λcdv A _ s H vs Q E hr h=>?_
obtain⟨c,a,m,b,rfl,hc,ok,b0,b1,q⟩:=h
refine⟨_,(qB (jD (yO (pv 0) T.aV T.fK (zE T S).mono hr S.bX.b .nil qQ (qA (pv 1) qE))) (qC (qP (yF jN (qM (pv 0) rfl) (pv 1) (λ_ _=>rfl))))),?_⟩
try dsimp-beta-proj-iota-zeta-eta only[wishK,cxK]
have n:=ok.ncl
exact⟨_,rfl,c,a.dx,_,rfl,hc.ins,rfl,_,rfl,c,a,m,b,rfl,hc,b0,b1,_,rfl,c,_,a.dx,_,_,rfl,hc.ins,T.aV,T.fY,rfl,_,rfl,a.cl,_,b,_,rfl,rfl,SqL.of hc.cl,getI b0 (by lia),q⟩)
noncomputable def spFa(t:Adr):Sp:=λvs H Q E=>∃c a m b,vs=[.ref c,.int b]∧ChipAt t.C_Chip H c a m∧m.Ok∧0≤b∧b≤m.bl-1∧Q (.bl (m.br.getD b.toNat false)) H
theorem q6O(T:Txt K mg t)(S:Fns K t):S.oP.Ok0 P w mg base 4 (spFa t):=by(
refine S.oP.F.ok0 q6K λcdv A _ s H vs Q E hr h=>?_
obtain⟨c,a,m,b,rfl,hc,ok,b0,b1,q⟩:=h
refine⟨_,(qB (jD (yO (pv 0) T.aV T.fK (zE T S).mono hr S.bX.b .nil qQ (qA (pv 1) qE))) (qC (qP (yF jN (qM (pv 0) rfl) (pv 1) (λ_ _=>rfl))))),?_⟩
try dsimp-beta-proj-iota-zeta-eta only[wishK,cxK]
have n:=ok.nbr
exact⟨_,rfl,c,a.dx,_,rfl,hc.ins,rfl,_,rfl,c,a,m,b,rfl,hc,b0,b1,_,rfl,c,_,a.dx,_,_,rfl,hc.ins,T.aV,T.fS,rfl,_,rfl,a.br,_,b,_,rfl,rfl,SqL.of hc.br,getB b0 (by lia),q⟩)
noncomputable def spDe(t:Adr):Sp:=λvs H Q E=>∃c a m,vs=[.ref c]∧ChipAt t.C_Chip H c a m∧∀rs,H a.rc=some (.lst rs)→Recd H rs m.rc→NewO H (.lst rs) Q
theorem uL(T:Txt K mg t)(S:Fns K t):S.eJ.Ok0 P w mg base 1 (spDe t):=by(
refine S.eJ.F.ok0 q72 λcdv A _ s H vs Q E hr h=>?_
obtain⟨c,a,m,rfl,hc,q⟩:=h
refine⟨_,(qC (qP (vD q6X (by rfl) T.aDF (by kernel_rfl) (qA (qM (pv 0) rfl) qE)))),?_⟩
try dsimp-beta-proj-iota-zeta-eta only[wishK,cxK]
obtain⟨rs,er,pr⟩:=hc.rc
exact⟨_,rfl,c,_,a.dx,_,_,rfl,hc.ins,T.aV,T.fR,rfl,a.rc,rs,rfl,.inl (SqL.of er),q rs er pr⟩)
noncomputable def spOn(t:Adr):Sp:=λvs H Q E=>∃c a m,vs=[.ref c]∧ChipAt t.C_Chip H c a m∧∀H',ChipAt t.C_Chip H' c a { m with lf:=none }→Keep (foot c a) H H'→Q .non H'
theorem q4Y(T:Txt K mg t)(S:Fns K t):S.iC.Ok0 P w mg base 1 (spOn t):=by(
refine S.iC.F.ok0 q4U λcdv A _ s H vs Q E hr h=>?_
obtain⟨c,a,m,rfl,hc,q⟩:=h
refine⟨_,(qC (jS (pv 0) uO rfl)),?_⟩
try dsimp-beta-proj-iota-zeta-eta only[wishK,cxK]
refine⟨_,rfl,c,_,a.dx,_,rfl,hc.ins,T.aV,T.bC,(by show 10<1000;decide),?_⟩
exact q _ (hc.setLf none) (Keep.upd hc.ins (λ_ z=>by cases z) (by simp[foot])))
noncomputable def qKA(t:Adr):Sp:=λvs H Q E=>∃c a m,∃i:Int,vs=[.ref c,.int i]∧ChipAt t.C_Chip H c a m∧0≤i∧i≤1000000∧∀H',ChipAt t.C_Chip H' c a { m with lf:=some i }→Keep (foot c a) H H'→Q .non H'
theorem q4C(T:Txt K mg t)(S:Fns K t):S.fQ.Ok0 P w mg base 3 (qKA t):=by(
refine S.fQ.F.ok0 q49 λcdv A _ s H vs Q E hr h=>?_
obtain⟨c,a,m,i,rfl,hc,i0,i1,q⟩:=h
refine⟨_,(qB (qV (jZ (jI (qX (jO T S).mono hr rfl T.a9 T.bA S.bG.b .nil qQ (qA (pv 1) (qA qJ (qA (uN rfl T.iK ⟨_,rfl⟩ (v:=.int 1000000)) qE)))))) (qC jC) qL) (qC (jS (pv 0) (pv 1) rfl))),?_⟩
try dsimp-beta-proj-iota-zeta-eta only[wishK,cxK]
refine⟨_,rfl,.int i,_,_,rfl,.int i,_,rfl,?_⟩
rw[inBi i0 i1]
exact iteF ⟨_,rfl,_,rfl,c,_,a.dx,_,rfl,hc.ins,T.aV,T.bC,by show 10<1000;decide,q _ (hc.setLf (some i)) (Keep.upd hc.ins (λ_ z=>by cases z) (by simp[foot]))⟩)
noncomputable def qKB(K:W.Frag):Sp:=λvs H Q E=>∃l bl,vs=[.ref l,.int bl]∧SqL K H l []∧NewO H (.dK []) Q
theorem q93(T:Txt K mg t)(S:Fns K t):S.aAY.Ok0 P w mg base 3 (qKB K):=by(
refine S.aAY.F.ok0 zK λcdv A _ s H vs Q E hr h=>?_
obtain⟨l,bl,rfl,sq,q⟩:=h
refine⟨_,(qB (qW (i:=2) zK.nd rfl (Or.inl rfl) uK) (qB (uH gF rfl (jV (pv 0)) (q5Y rfl (yX (qZ (i:=3) zK.nd rfl (Or.inl rfl)) (yX (qZ (i:=4) zK.nd rfl (Or.inl rfl)) q3N))) (qB jC (qB jC (qB jC (qC jC))))) (qC (qP (pv 2))))),?_⟩
try dsimp-beta-proj-iota-zeta-eta only[wishK,cxK]
refine λp np=>?_
have s0:Same H (upd H p (.dK [])):=Same.upd np
refine⟨_,rfl,l,rfl,⟨[],s0.seq sq⟩,vM (K:=K) (xs:=[]) (λ_ σ' H1=>(∃y z,σ'=[some (.ref l),some (.int bl),some (.ref p),y,z])∧H1=upd H p (.dK [])) ⟨⟨_,_,rfl⟩,rfl⟩ (λi σ' H1 _ hp=>by rw[hp.2];exact s0.seq sq) (λi x σ' H1 hx _=>by simp at hx) (λσ' H1 hp=>?_)⟩
obtain⟨⟨y,z,rfl⟩,rfl⟩:=hp
exact⟨_,rfl,q p _ np s0 qF⟩)
structure Wm(C x dx:Addr)(H G:Hp)(fs:List (Str×V))(os:List (Addr×HO)):Prop where
i:G x=some (.ins C dx fs)
u:Up x H G
o:∀p∈os,G p.1=some p.2∧H p.1=none∧p.1≠x
n:(os.map (·.1)).Nodup
section
variable{C x dx:Addr}{H G B:Hp}{fs fs':List (Str×V)}{os:List (Addr×HO)}
theorem Wm.same(h:Wm C x dx H G fs os)(s:Same G B):Wm C x dx H B fs os:=⟨s _ _ h.i,λb o n e=>s _ _ (h.u b o n e),λp hp=>⟨s _ _ (h.o p hp).1,(h.o p hp).2⟩,h.n⟩
theorem Wm.add(h:Wm C x dx H G fs os){a:Addr}{o:HO}(na:G a=none)(s:Same G B)(e:B a=some o):Wm C x dx H B fs (os++[(a,o)]):=by(
have ax:a≠x:=λz=>by rw[z,h.i]at na;cases na
have w:=h.same s
refine⟨w.i,w.u,λp hp=>?_,?_⟩
·rcases mP.mp hp with hp|hp
 ·exact w.o p hp
 rw[kJ.mp hp];exact⟨e,Up.free h.u ax na,ax⟩
rw[mB]
refine gA.mpr ⟨h.n,by simp,λb hb c hc=>?_⟩
obtain⟨p,hp,rfl⟩:=kP.mp hb
obtain rfl:c=a:=by simpa using hc
exact qG (h.o p hp).1 na)
theorem Wm.set(h:Wm C x dx H G fs os):Wm C x dx H (upd G x (.ins C dx fs')) fs' os:=⟨qF,λb o n e=>by rw[qD n];exact h.u b o n e,λp hp=>⟨by rw[qD (h.o p hp).2.2];exact(h.o p hp).1,(h.o p hp).2⟩,h.n⟩
theorem Wm.fr(h:Wm C x dx H G fs os)(a:Addr)(ha:a∈os.map (·.1)):H a=none:=by obtain⟨p,hp,rfl⟩:=kP.mp ha;exact(h.o p hp).2.1
theorem Wm.put(h:Wm C x dx H G fs os)(f:Str)(v:V):Wm C x dx H (upd G x (.ins C dx (putF f v fs))) (putF f v fs) os:=h.set
end
noncomputable def spMk(t:Adr):Sp:=λvs H Q E=>∃x dx,∃b p m:Int,vs=[.ref x,.int b,.int p,.int m,.non]∧H x=some (.ins t.C_Chip dx [])∧2≤b∧b≤16∧1≤p∧p≤16∧0≤m∧m≤1000000∧∀a H',ChipAt t.C_Chip H' x a (CM.new b p m [])→(∀b∈[a.li,a.bo,a.cl,a.dc,a.br,a.rc],H b=none)→Up x H H'→Q .non H'
theorem q94(T:Txt K mg t)(S:Fns K t):FnOk P w K mg base (CX0) 4 t.f_Chip_init S.eR ["self","blocks","pages","most","ills"] (spMk t):=by(
refine S.aCU.ok0 q8W λcdv A _ s H vs Q E hr h=>?_
obtain⟨x,dx,b,p,m,rfl,hx,b1,b2,p1,p2,m1,m2,q⟩:=h
refine⟨_,(qB (qV (jZ (jI (qX (q5C T S).mono hr rfl T.aAT T.aAU S.aAA.b .nil qQ (qA (pv 1) (qA (pv 2) qE))))) (qC jC) qL) (qB (qV (jZ (jI (qX (jO T S).mono hr rfl T.a9 T.bA S.bG.b .nil qQ (qA (pv 3) (qA qJ (qA (uN rfl T.iK ⟨_,rfl⟩ (v:=.int 1000000)) qE)))))) (qC jC) qL) (qB (jS (pv 0) (pv 1) rfl) (qB (jS (pv 0) (pv 2) rfl) (qB (jS (pv 0) (pv 3) rfl) (qB (jS (pv 0) (qX (q93 T S).mono hr rfl T.aCI T.aB5 S.aAY.b .nil qQ (qA (qDI (qN qAO (pv 4) uO (qO _)) (jX qE) (pv 4)) (qA (pv 1) qE))) rfl) (qB (jS (pv 0) (qT q0U (jX (qA uO qE)) (qT vC (pv 1) (pv 2))) rfl) (qB (jS (pv 0) (qT q0U (jX (qA qJ qE)) (pv 1)) rfl) (qB (jS (pv 0) (qT q0U (jX (qA qJ qE)) (pv 1)) rfl) (qB (jS (pv 0) (qT q0U (jX (qA q2Q qE)) (pv 1)) rfl) (qB (jS (pv 0) uO rfl) (qC (jS (pv 0) (jX qE) rfl))))))))))))),?_⟩
try dsimp-beta-proj-iota-zeta-eta only[wishK,cxK]
refine⟨_,rfl,_,rfl,.int b,.int p,rfl,.int b,.int p,_,rfl,?_⟩
rw[inBi b1 b2,inBi p1 p2]
refine iteF ?_
refine⟨_,rfl,.int m,_,_,rfl,.int m,_,rfl,?_⟩
rw[inBi m1 m2]
refine iteF ?_
have bp:b*p≤256:=x6 b2 p2 (by lia) (by decide)
have bp0:0≤b*p:=xV (by lia) (by lia)
refine⟨_,rfl,_,rfl,x,_,dx,_,rfl,hx,T.aV,T.bR,by simp,?_⟩
have w1:Wm t.C_Chip x dx H (upd H x (.ins t.C_Chip dx (putF "blocks" (.int b) []))) (putF "blocks" (.int b) []) []:=⟨qF,Up.of (Same.refl H),by simp,by simp⟩
refine⟨_,rfl,_,rfl,x,_,dx,_,rfl,w1.i,T.aV,T.b9,by show 1<1000;decide,?_⟩
have w2:=w1.put "pages" (.int p)
refine⟨_,rfl,_,rfl,x,_,dx,_,rfl,w2.i,T.aV,T.aCC,by show 2<1000;decide,?_⟩
have w3:=w2.put "most" (.int m)
refine⟨_,rfl,rfl,_,rfl,iteT ⟨sz0,λl0 H2 n0 s0 e0=>?_⟩⟩
refine⟨_,rfl,l0,b,rfl,SqL.of e0,λli H3 n1 s1 e1=>?_⟩
have w4:=(w3.same s0).add n1 s1 e1
refine⟨_,rfl,x,_,dx,_,rfl,w4.i,T.aV,T.oE,by show 3<1000;decide,?_⟩
have w4:=w4.put "limits" (.ref li)
refine⟨sz1,λwa A1 n1 s1 e1=>⟨_,rfl,_,rfl,_,_,rfl,rfl,.inl ⟨by lia,by lia⟩,wa,_,_,rfl,rfl,e1,by lia,by lia,λbo B1 m1 r1 hbo=>?_⟩⟩
have w5:=(w4.same s1).add m1 r1 hbo
refine⟨_,rfl,x,_,dx,_,rfl,w5.i,T.aV,T.eY,by show 4<1000;decide,?_⟩
have w5:=w5.put "borne" (.ref bo)
refine⟨sz1,λwa A2 n2 s2 e2=>⟨_,rfl,wa,_,_,rfl,rfl,e2,by lia,by lia,λcl B2 m2 r2 hcl=>?_⟩⟩
have w6:=(w5.same s2).add m2 r2 hcl
refine⟨_,rfl,x,_,dx,_,rfl,w6.i,T.aV,T.fY,by show 5<1000;decide,?_⟩
have w6:=w6.put "clearings" (.ref cl)
refine⟨sz1,λwa A3 n3 s3 e3=>⟨_,rfl,wa,_,_,rfl,rfl,e3,by lia,by lia,λdc B3 m3 r3 hdc=>?_⟩⟩
have w7:=(w6.same s3).add m3 r3 hdc
refine⟨_,rfl,x,_,dx,_,rfl,w7.i,T.aV,T.fF,by show 6<1000;decide,?_⟩
have w7:=w7.put "deed_counts" (.ref dc)
refine⟨sz1,λwa A4 n4 s4 e4=>⟨_,rfl,wa,_,_,rfl,rfl,e4,by lia,by lia,λbr B4 m4 r4 hbr=>?_⟩⟩
have w8:=(w7.same s4).add m4 r4 hbr
refine⟨_,rfl,x,_,dx,_,rfl,w8.i,T.aV,T.fS,by show 7<1000;decide,?_⟩
have w8:=w8.put "broken" (.ref br)
refine⟨_,rfl,x,_,dx,_,rfl,w8.i,T.aV,T.bC,by show 8<1000;decide,?_⟩
have w9:=w8.put "deeds_left" .non
refine⟨sz0,λrc B5 m5 r5 hrc=>?_⟩
have w:=w9.add m5 r5 hrc
refine⟨_,rfl,x,_,dx,_,rfl,w.i,T.aV,T.fR,by show 9<1000;decide,?_⟩
have w:=w.set (fs':=chF ⟨dx,li,bo,cl,dc,br,rc⟩ (CM.new b p m []))
refine q ⟨dx,li,bo,cl,dc,br,rc⟩ _ ⟨w.i,(w.o (li,.dK []) (by simp)).1,(w.o (bo,.lst (List.replicate (b*p).toNat .non)) (by simp)).1,?_,?_,?_,⟨[],(w.o (rc,.lst []) (by simp)).1,.nil⟩,(gL.mp (show(li::[bo,cl,dc,br,rc]).Nodup from w.n)).2⟩ (λb' hb'=>w.fr b' hb') w.u
·show _=some (HO.lst ((List.replicate b.toNat (0:Int)).map V.int));rw[wU];exact(w.o (cl,.lst (List.replicate b.toNat (.int 0))) (by simp)).1
·show _=some (HO.lst ((List.replicate b.toNat (0:Int)).map V.int));rw[wU];exact(w.o (dc,.lst (List.replicate b.toNat (.int 0))) (by simp)).1
show _=some (HO.lst ((List.replicate b.toNat false).map V.bl))
rw[wU]
exact(w.o (br,.lst (List.replicate b.toNat (.bl false))) (by simp)).1)
theorem uB(T:Txt K mg t)(S:Fns K t):S.bZ.Ok0 P w mg base 1 (qIA K):=by(
refine S.bZ.F.ok0 q6M λcdv A _ s H vs Q E hr h=>?_
obtain⟨a,ns,k,rfl,hS,h0,q⟩:=h
refine⟨_,(qB (qV (qN q7L (pv 1) (qS jJ (by rfl) T.fW mR (qA (pv 0) qE)) (qO _)) (qC (qP (yF jN (pv 0) (pv 1) (λ_ _=>rfl)))) qL) (qC (qP qJ))),?_⟩
try dsimp-beta-proj-iota-zeta-eta only[wishK,cxK]
refine⟨_,rfl,_,rfl,a,_,rfl,.inl hS,_,_,rfl,rfl,_,rfl,?_⟩
rw[hU]
by_cases h1:k<(ns.length:Int)
·rw[hI h1];refine iteT ?_;exact⟨_,rfl,_,rfl,a,_,k,_,rfl,rfl,hS,qCW h0 h1,q⟩
rw[hG h1]
refine iteF ?_
have e:=qAW h0 h1
rw[e]at q
exact q)
theorem qKC{H:Hp}{bl pg mo:Int}{Q:Addr→Hp→Prop}{E:XK}(b1:2≤bl)(b2:bl≤16)(p1:1≤pg)(p2:pg≤16)(m1:0≤mo)(m2:mo≤1000000)
 (q:∀x a H',ChipAt t.C_Chip H' x a (CM.new bl pg mo [])→Same H H'→(∀b∈a.li::foot x a,H b=none)→Q x H') (x dx:Addr) (nx:H x=none) (ndx:H dx=none) (ne:dx≠x):
 spMk t [.ref x,.int bl,.int pg,.int mo,.non] (upd (upd H dx (.own x)) x (.ins t.C_Chip dx [])) (λv H2=>v=.non∧Q x H2) E:=by(
have s0:Same H (upd (upd H dx (.own x)) x (.ins t.C_Chip dx [])):=λb o e=>by rw[qD (qG e nx),qD (qG e ndx)];exact e
refine⟨x,dx,bl,pg,mo,rfl,qF,b1,b2,p1,p2,m1,m2,λa H' hc fr u=>⟨rfl,q x a H' hc (λb o e=>u b o (qG e nx) (s0 b o e)) λb hb=>?_⟩⟩
have hb:b=x∨b∈[a.li,a.bo,a.cl,a.dc,a.br,a.rc]:=by simp[foot]at hb ⊢;rcases hb with rfl|rfl|rfl|rfl|rfl|rfl|rfl<;>simp
rcases hb with rfl|hb
·exact nx
exact s0.free (fr _ hb))
theorem zL(T:Txt K mg t)(S:Fns K t):S.fX.Ok0 P w mg base 1 qBY:=by(
refine S.fX.F.ok0 q92 λcdv A _ s H vs Q E hr h=>?_
obtain⟨x,rfl,kn,k⟩:=h
refine⟨_,(qC (qP (vA (qS jK (by rfl) T.aY (by kernel_rfl) (qA (pv 0) (qA (vJ rfl T.aCX (by kernel_rfl) rfl (v:=.ty "int")) qE))) (uX (qAJ (qS jK (by rfl) T.aY (by kernel_rfl) (qA (pv 0) (qA (vJ rfl T.aDX (by kernel_rfl) rfl (v:=.ty "bool")) qE)))))))),?_⟩
try dsimp-beta-proj-iota-zeta-eta only[wishK,cxK]
obtain⟨ty,q,e1,e2,_⟩:=kn.ty (K:=K)
refine⟨_,rfl,x,_,_,ty,_,rfl,rfl,.inl q,e1,_,rfl,?_⟩
have z:=qE0 x
cases qi:isI x with
|true=>rw[qi,kG rfl]at z;refine iteT ?_;refine⟨_,rfl,x,_,_,ty,_,rfl,rfl,.inl q,e2,_,rfl,?_⟩;rw[z];exact k
|false=>rw[qi]at z;refine iteF ?_;have z':false=isW x:=z;rw[z'];exact k)
noncomputable def qKD(t:Adr):Sp:=λvs H Q E=>∃x dx fs b e,vs=[.ref x]∧H x=some (.ins t.C_Terms dx fs)∧fs.lookup (Str.ofString "blocks")=some (.int b)∧fs.lookup (Str.ofString "ill")=some (.int e)∧Q (.int (b-1-e)) H
theorem q5M(T:Txt K mg t)(S:Fns K t):S.iP.Ok0 P w mg base 1 (qKD t):=by(
refine S.iP.F.ok0 q5I λcdv A _ s H vs Q E hr h=>?_
obtain⟨x,dx,fs,b,e,rfl,hx,l1,l2,q⟩:=h
refine⟨_,(qC (qP (qT uY (qT uY (qM (pv 0) rfl) qJ) (qM (pv 0) rfl)))),?_⟩
try dsimp-beta-proj-iota-zeta-eta only[wishK,cxK]
exact⟨_,rfl,x,_,dx,_,_,rfl,hx,T.bE,T.eF,l1,_,_,rfl,rfl,_,rfl,x,_,dx,_,_,rfl,hx,T.bE,T.tX,l2,_,_,rfl,rfl,q⟩)
noncomputable def teF(r0 r1 r2 r3 r4 r5:V):List (Str×V):=[("blocks",r0),("pages",r1),("sheets",r2),("share",r3),("ill",r4),("spread",r5)]
noncomputable def spTm(t:Adr):Sp:=λvs H Q E=>∃x dx,∃b p s r e d:Int,vs=[.ref x,.int b,.int p,.int s,.int r,.int e,.int d]∧H x=some (.ins t.C_Terms dx [])∧2≤b∧b≤16∧1≤p∧p≤16∧1≤s∧s≤64∧1≤r∧r≤(b-1-e)*p-2∧0≤e∧e≤b-2∧1≤d∧d≤1000000∧∀H',H' x=some (.ins t.C_Terms dx (teF (.int b) (.int p) (.int s) (.int r) (.int e) (.int d)))→Up x H H'→Q .non H'
theorem q78(T:Txt K mg t)(S:Fns K t):FnOk P w K mg base (CX0) 4 t.f_Terms_init S.eG ["self","blocks","pages","sheets","share","ill","spread"] (spTm t):=by(
refine S.aB3.ok0 q77 λcdv A _ s H vs Q E hr h=>?_
obtain⟨x,dx,b,p,s',r,e,d,rfl,hx,b1,b2,p1,p2,s1,s2,r1,r2,e1,e2,d1,d2,q⟩:=h
refine⟨_,(qB (qV (jZ (jI (qX (q5C T S).mono hr rfl T.aAT T.aAU S.aAA.b .nil qQ (qA (pv 1) (qA (pv 2) qE))))) (qC jC) qL) (qB (qV (jZ (jI (qX (jO T S).mono hr rfl T.a9 T.bA S.bG.b .nil qQ (qA (pv 3) (qA qJ (qA qJ qE)))))) (qC jC) qL) (qB (qV (jZ (jI (qX (jO T S).mono hr rfl T.a9 T.bA S.bG.b .nil qQ (qA (pv 5) (qA qJ (qA (qT uY (pv 1) qJ) qE)))))) (qC jC) qL) (qB (qV (jZ (jI (qX (jO T S).mono hr rfl T.a9 T.bA S.bG.b .nil qQ (qA (pv 6) (qA qJ (qA (uN rfl T.iK ⟨_,rfl⟩ (v:=.int 1000000)) qE)))))) (qC jC) qL) (qB (jS (pv 0) (pv 1) rfl) (qB (jS (pv 0) (pv 2) rfl) (qB (jS (pv 0) (pv 3) rfl) (qB (jS (pv 0) (pv 4) rfl) (qB (jS (pv 0) (pv 5) rfl) (qB (jS (pv 0) (pv 6) rfl) (qC (qV (jZ (jI (qX (jO T S).mono hr rfl T.a9 T.bA S.bG.b .nil qQ (qA (pv 4) (qA qJ (qA (qT uY (qT vC (jL (pv 0) T.bE T.aA8 (q5M T S).mono hr S.iP.b .nil qQ) (pv 2)) qJ) qE)))))) (qC jC) qL)))))))))))),?_⟩
try dsimp-beta-proj-iota-zeta-eta only[wishK,cxK]
refine⟨_,rfl,_,rfl,.int b,.int p,rfl,.int b,.int p,_,rfl,?_⟩
rw[inBi b1 b2,inBi p1 p2]
refine iteF ⟨_,rfl,.int s',_,_,rfl,.int s',_,rfl,?_⟩
rw[inBi s1 s2]
refine iteF ⟨_,rfl,_,rfl,_,_,rfl,rfl,.int e,_,_,rfl,.int e,_,rfl,?_⟩
rw[inBi e1 e2]
refine iteF ⟨_,rfl,.int d,_,_,rfl,.int d,_,rfl,?_⟩
rw[inBi d1 d2]
refine iteF ⟨_,rfl,_,rfl,x,_,dx,_,rfl,hx,T.bE,T.eF,by simp,?_⟩
have w1:Wm t.C_Terms x dx H (upd H x (.ins t.C_Terms dx (putF "blocks" (.int b) []))) (putF "blocks" (.int b) []) []:=⟨qF,Up.of (Same.refl H),by simp,by simp⟩
refine⟨_,rfl,_,rfl,x,_,dx,_,rfl,w1.i,T.bE,T.bU,by show 1<1000;decide,?_⟩
have w2:=w1.put "pages" (.int p)
refine⟨_,rfl,_,rfl,x,_,dx,_,rfl,w2.i,T.bE,T.fE,by show 2<1000;decide,?_⟩
have w3:=w2.put "sheets" (.int s')
refine⟨_,rfl,_,rfl,x,_,dx,_,rfl,w3.i,T.bE,T.fN,by show 3<1000;decide,?_⟩
have w4:=w3.put "share" (.int r)
refine⟨_,rfl,_,rfl,x,_,dx,_,rfl,w4.i,T.bE,T.tX,by show 4<1000;decide,?_⟩
have w5:=w4.put "ill" (.int e)
refine⟨_,rfl,_,rfl,x,_,dx,_,rfl,w5.i,T.bE,T.aAK,by show 5<1000;decide,?_⟩
have w:=w5.put "spread" (.int d)
refine⟨_,rfl,_,rfl,x,dx,_,rfl,w.i,rfl,x,dx,_,b,e,rfl,w.i,rfl,rfl,_,rfl,_,_,rfl,rfl,.inr ⟨by lia,by lia⟩,_,_,rfl,rfl,.int r,_,_,rfl,.int r,_,rfl,?_⟩
rw[inBi r1 r2]
exact iteF (q _ w.i w.u))
theorem qKE{H:Hp}{b p s r e d:Int}{Q:Addr→Hp→Prop}{E:XK}(b1:2≤b)(b2:b≤16)(p1:1≤p)(p2:p≤16)(s1:1≤s)(s2:s≤64)(r1:1≤r)(r2:r≤(b-1-e)*p-2)(e1:0≤e)(e2:e≤b-2)(d1:1≤d)(d2:d≤1000000)
 (q:∀x dx H',Same H H'→H' x=some (.ins t.C_Terms dx (teF (.int b) (.int p) (.int s) (.int r) (.int e) (.int d)))→Q x H') (x dx:Addr) (nx:H x=none) (ndx:H dx=none) (ne:dx≠x):
 spTm t [.ref x,.int b,.int p,.int s,.int r,.int e,.int d] (upd (upd H dx (.own x)) x (.ins t.C_Terms dx [])) (λv H2=>v=.non∧Q x H2) E:=by
 have s0:Same H (upd (upd H dx (.own x)) x (.ins t.C_Terms dx [])):=λb o e=>by rw[qD (qG e nx),qD (qG e ndx)];exact e
 exact⟨x,dx,b,p,s,r,e,d,rfl,qF,b1,b2,p1,p2,s1,s2,r1,r2,e1,e2,d1,d2,λH' h u=>⟨rfl,q x dx H' (λb o e=>u b o (qG e nx) (s0 b o e)) h⟩⟩
noncomputable def qKF:Sp:=λvs H Q _=>∃s n,vs=[.int s,.int n]∧Q (.int (s*128+n)) H
theorem qBD(T:Txt K mg t)(S:Fns K t):S.aCV.Ok0 P w mg base 1 qKF:=by(
refine S.aCV.F.ok0 qBC λcdv A _ s H vs Q E hr h=>?_
obtain⟨s',n,rfl,q⟩:=h
refine⟨_,(qC (qP (qT yN (qT vC (pv 0) (uN rfl T.aDV ⟨_,rfl⟩ (v:=.int 128))) (pv 1)))),?_⟩
try dsimp-beta-proj-iota-zeta-eta only[wishK,cxK]
exact⟨_,rfl,_,_,rfl,rfl,.inr ⟨by decide,by decide⟩,_,rfl,_,_,rfl,rfl,q⟩)
structure BkA where
bk:Addr
dx:Addr
wv:Addr
lv:Addr
fi:Addr
bo:Addr
structure BkAt(t:Adr)(H:Hp)(a:BkA)(m:QM):Prop where
o:H a.bk=some (.ins t.C_Book a.dx [("blocks",.int (m.B:Int)),("pages",.int (m.P:Int)),("stamp",.int m.nx),("where",.ref a.wv),("live",.ref a.lv),("filled",.ref a.fi),("born",.ref a.bo)])
w:H a.wv=some (.dK (dI m.V))
l:H a.lv=some (.lst (m.lv.map V.int))
f:H a.fi=some (.lst (m.fi.map V.int))
b:H a.bo=some (.lst (m.bo.map V.int))
structure Dst(a:BkA):Prop where
lf:a.lv≠a.fi
lb:a.lv≠a.bo
fb:a.fi≠a.bo
theorem BkAt.same{t:Adr}{H H':Hp}{a:BkA}{m:QM}(h:BkAt t H a m)(s:Same H H'):BkAt t H' a m:=⟨s _ _ h.o,s _ _ h.w,s _ _ h.l,s _ _ h.f,s _ _ h.b⟩
theorem BkAt.keep{t:Adr}{H H':Hp}{a:BkA}{m:QM}{F:List Addr}(h:BkAt t H a m)(k:Keep F H H')(n:∀b∈[a.bk,a.wv,a.lv,a.fi,a.bo],b∉F):BkAt t H' a m:=⟨k.k _ _ (n _ (by simp)) h.o,k.k _ _ (n _ (by simp)) h.w,k.k _ _ (n _ (by simp)) h.l,k.k _ _ (n _ (by simp)) h.f,k.k _ _ (n _ (by simp)) h.b⟩
noncomputable def bk0(B P:Nat):QM:=⟨P,B,1,[],List.replicate B 0,List.replicate B 0,List.replicate B 0⟩
noncomputable def qKG(t:Adr):Sp:=λvs H Q _=>∃x dx B P,vs=[.ref x,.int (B:Nat),.int (P:Nat)]∧B≤16∧H x=some (.ins t.C_Book dx [])∧∀(a:BkA) H',a.bk=x→a.dx=dx→BkAt t H' a (bk0 B P)→Dst a→(∀b∈[a.wv,a.lv,a.fi,a.bo],H b=none)→(∀b o,b≠x→H b=some o→H' b=some o)→Q .non H'
theorem q95(T:Txt K mg t)(S:Fns K t):S.aA0.Ok0 P w mg base 1 (qKG t):=by(
refine S.aA0.F.ok0 q8Y λcdv A _ s H vs Q E hr h=>?_
obtain⟨x,dx,B,P,rfl,hB,hx,q⟩:=h
refine⟨_,(qB (jS (pv 0) (pv 1) rfl) (qB (jS (pv 0) (pv 2) rfl) (qB (jS (pv 0) qJ rfl) (qB (jS (pv 0) uK rfl) (qB (jS (pv 0) (qT q0U (jX (qA qJ qE)) (pv 1)) rfl) (qB (jS (pv 0) (qT q0U (jX (qA qJ qE)) (pv 1)) rfl) (qC (jS (pv 0) (qT q0U (jX (qA qJ qE)) (pv 1)) rfl)))))))),?_⟩
try dsimp-beta-proj-iota-zeta-eta only[wishK,cxK]
refine⟨_,rfl,_,rfl,x,_,dx,_,rfl,hx,T.bB,T.aBA,by decide,?_⟩
refine⟨_,rfl,_,rfl,x,_,dx,_,rfl,qF,T.bB,T.f8,by show 1<1000;decide,?_⟩
refine⟨_,rfl,x,_,dx,_,rfl,qF,T.bB,T.eU,by show 2<1000;decide,?_⟩
rw[q8A,q8A]
have w1:Wm t.C_Book x dx H (upd H x (.ins t.C_Book dx (putF "stamp" (.int 1) (putF "pages" (.int (P:Int)) (putF "blocks" (.int (B:Int)) []))))) (putF "stamp" (.int 1) (putF "pages" (.int (P:Int)) (putF "blocks" (.int (B:Int)) []))) []:=⟨qF,Up.of (Same.refl H),by simp,by simp⟩
have rep:∀n:Nat,List.replicate n (V.int 0)=(List.replicate n (0:Int)).map V.int:=λn=>by rw[wU]
have eB:((B:Int)).toNat=B:=by lia
refine λwv nwv=>?_
have w2:=w1.add nwv (Same.upd (o:=.dK []) nwv) qF
refine⟨_,rfl,x,_,dx,_,rfl,w2.i,T.bB,T.bP,by show 3<1000;decide,?_⟩
have w2:=w2.put "where" (.ref wv)
refine⟨sz1,λwa A3 n3 s3 e3=>⟨_,rfl,wa,_,_,rfl,rfl,e3,by lia,by lia,λlv B3 m3 r3 hlv=>?_⟩⟩
rw[eB,rep]at hlv
have w3:=(w2.same s3).add m3 r3 hlv
refine⟨_,rfl,x,_,dx,_,rfl,w3.i,T.bB,T.iY,by show 4<1000;decide,?_⟩
have w3:=w3.put "live" (.ref lv)
refine⟨sz1,λwa A4 n4 s4 e4=>⟨_,rfl,wa,_,_,rfl,rfl,e4,by lia,by lia,λfi B4 m4 r4 hfi=>?_⟩⟩
rw[eB,rep]at hfi
have w4:=(w3.same s4).add m4 r4 hfi
refine⟨_,rfl,x,_,dx,_,rfl,w4.i,T.bB,T.bK,by show 5<1000;decide,?_⟩
have w4:=w4.put "filled" (.ref fi)
refine⟨sz1,λwa A5 n5 s5 e5=>⟨_,rfl,wa,_,_,rfl,rfl,e5,by lia,by lia,λbo B5 m5 r5 hbo=>?_⟩⟩
rw[eB,rep]at hbo
have w5:=(w4.same s5).add m5 r5 hbo
refine⟨_,rfl,x,_,dx,_,rfl,w5.i,T.bB,T.tU,by show 6<1000;decide,?_⟩
have w5:=w5.put "born" (.ref bo)
have nd:[wv,lv,fi,bo].Nodup:=w5.n
simp only[gL,kW,g0,not_or,cD]at nd
exact q ⟨x,dx,wv,lv,fi,bo⟩ _ rfl rfl ⟨w5.i,(w5.o (wv,.dK []) (by simp)).1,(w5.o (lv,.lst ((List.replicate B (0:Int)).map V.int)) (by simp)).1,(w5.o (fi,.lst ((List.replicate B (0:Int)).map V.int)) (by simp)).1,(w5.o (bo,.lst ((List.replicate B (0:Int)).map V.int)) (by simp)).1⟩ ⟨nd.2.1.1,nd.2.1.2,nd.2.2.1⟩ (λb' hb'=>w5.fr b' hb') w5.u)
noncomputable def qIW(t:Adr):Sp:=λvs H Q _=>∃a,∃m:QM,∃n,vs=[.ref a.bk,.int n]∧BkAt t H a m∧Q (.int (m.nx*128+n)) H
theorem q96(T:Txt K mg t)(S:Fns K t):S.aAI.Ok0 P w mg base 2 (qIW t):=by(
refine S.aAI.F.ok0 q8Z λcdv A _ s H vs Q E hr h=>?_
obtain⟨a,m,n,rfl,hb,q⟩:=h
refine⟨_,(qC (qP (qX (qBD T S).mono hr rfl T.aC3 T.aC4 S.aCV.b .nil qQ (qA (qM (pv 0) rfl) (qA (pv 1) qE))))),?_⟩
try dsimp-beta-proj-iota-zeta-eta only[wishK,cxK]
exact⟨_,rfl,a.bk,_,a.dx,_,_,rfl,hb.o,T.bB,T.eU,rfl,_,rfl,_,_,rfl,q⟩)
noncomputable def spFg(t:Adr):Sp:=λvs H Q _=>∃a,∃m:QM,∃n,vs=[.ref a.bk,.int n]∧BkAt t H a m∧m.Ok∧Dst a∧∀H',BkAt t H' a (m.forget n)→Keep [a.wv,a.lv] H H'→Q .non H'
theorem q2A(T:Txt K mg t)(S:Fns K t):S.fZ.Ok0 P w mg base 1 (spFg t):=by(
refine S.fZ.F.ok0 q27 λcdv A _ s H vs Q E hr h=>?_
obtain⟨a,m,n,rfl,hb,ok,ds,q⟩:=h
have hu:=v5 hr
have p1:=ok.p1
have p2:=ok.p2
have ob:a.bk≠a.wv:=jP hb.o hb.w (by intro z;cases z)
have ol:a.bk≠a.lv:=jP hb.o hb.l (by intro z;cases z)
have wl:a.wv≠a.lv:=jP hb.w hb.l (by intro z;cases z)
have wf:a.fi≠a.wv:=jP hb.f hb.w (by intro z;cases z)
have wb:a.bo≠a.wv:=jP hb.b hb.w (by intro z;cases z)
refine⟨_,(qC (qV (q4G (q8H hu (pv 1) (qM (pv 0) rfl))) (qB (qW (i:=2) q27.nd rfl (Or.inl rfl) (q9N (qM (pv 0) rfl) (pv 1) ⟨rfl,rfl,rfl,rfl⟩)) (qC (q5N (qM (pv 0) rfl) (qT yH (pv 2) (qM (pv 0) rfl)) q3V qJ qHD q0P))) qL)),?_⟩
try dsimp-beta-proj-iota-zeta-eta only[wishK,cxK]
refine⟨_,rfl,_,rfl,a.bk,_,a.dx,_,_,rfl,hb.o,T.bB,T.bP,rfl,a.wv,_,rfl,DGet.k (k:=Sum.inl n) hb.w,_,rfl,?_⟩
rcases QM.find_V (m:=m) (n:=n)with⟨p,hp,ef⟩|⟨hn,ef⟩
·have hv:(n,p)∈m.V:=hp;rw[vK ok.nd hv];refine iteT ?_;refine⟨_,rfl,a.bk,_,a.dx,_,_,rfl,hb.o,T.bB,T.bP,rfl,a.wv,rfl,.inl ⟨_,.inl hb.w⟩,_,rfl,_,Sum.inl n,_,hb.w,rfl,vK ok.nd hv,?_⟩;rw[qA0];have k1:Keep [a.wv,a.lv] H (upd H a.wv (.dK (dI (yJ m.V n)))):=Keep.upd hb.w (λ_ z=>by cases z) (by simp);have w1:(upd H a.wv (.dK (dI (yJ m.V n)))) a.wv=some (.dK (dI (yJ m.V n))):=qF;have u1:∀b o,b≠a.wv→H b=some o→(upd H a.wv (.dK (dI (yJ m.V n)))) b=some o:=λb o nb e=>by rw[qD nb];exact e
 generalize upd H a.wv (.dK (dI (yJ m.V n)))=H1 at k1 w1 u1 ⊢;obtain⟨c,hc,ec⟩:=ok.blk _ hp;have ec:p / (m.P:Int)=(c:Int):=ec;have hcl:c<m.lv.length:=by rw[ok.ll];exact hc
 have l1:=u1 _ _ wl.symm hb.l;refine⟨_,rfl,a.bk,_,a.dx,_,_,rfl,u1 _ _ ob hb.o,T.bB,T.iY,rfl,_,rfl,_,rfl,a.bk,_,a.dx,_,_,rfl,u1 _ _ ob hb.o,T.bB,T.f8,rfl,_,_,rfl,rfl,⟨by lia,by lia⟩,a.lv,_,_,_,rfl,rfl,SqL.of l1,(by rw[ec];exact atV hcl),_,_,rfl,rfl,a.lv,_,_,c,rfl,rfl,l1,(by rw[ec];exact q8P (by rw[hU];exact hcl)),?_⟩;rw[setV];have el:(m.forget n).lv=m.lv.set c (m.lv.getD c 0-1):=by show BM.lvF m.P m.V m.lv n=_;unfold BM.lvF;rw[ef];show m.lv.set (p / (m.P:Int)).toNat (m.lv.getD (p / (m.P:Int)).toNat 0-1)=_;rw[ec,show((c:Int)).toNat=c by lia]
 refine q _ ⟨?_,?_,?_,?_,?_⟩ (k1.trans (Keep.upd l1 (λ_ z=>by cases z) (by simp)))
 ·rw[qD ol];exact u1 _ _ ob hb.o
 ·rw[qD wl];exact w1
 ·rw[el];exact qF
 ·rw[qD ds.lf.symm];exact u1 _ _ wf hb.f
 rw[qD ds.lb.symm];exact u1 _ _ wb hb.b
rw[zU (λz=>by obtain⟨r,hr',e⟩:=kP.mp z;exact hn r hr' e)]
refine iteF ?_
have el:(m.forget n).lv=m.lv:=by show BM.lvF m.P m.V m.lv n=_;unfold BM.lvF;rw[ef]
have eV:(m.forget n).V=m.V:=qG4 λr hr'=>hn r hr'
exact q H ⟨hb.o,by rw[eV];exact hb.w,by rw[el];exact hb.l,hb.f,hb.b⟩ Keep.refl)
theorem q0M{V:Mp}:(dI V).length=V.length:=by unfold dI;rw[hU]
noncomputable def spNt(t:Adr):Sp:=λvs H Q _=>∃a,∃m:QM,∃b f n,vs=[.ref a.bk,.int ((b*m.P+f:Nat):Int),.int n]∧BkAt t H a m∧m.Ok∧Dst a∧b<m.B∧f<m.P∧m.fi.getD b 0=(f:Int)∧∀H',BkAt t H' a (m.put b f n)→Keep [a.bk,a.wv,a.lv,a.fi,a.bo] H H'→Q .non H'
theorem q97(T:Txt K mg t)(S:Fns K t):S.aA1.Ok0 P w mg base 2 (spNt t):=by(
refine S.aA1.F.ok0 q4A λcdv A _ s H vs Q E hr h=>?_
obtain⟨a,m,b,f,n,rfl,hb,ok,ds,hB,hf,ef,q⟩:=h
have hu:=v5 hr
have p1:=ok.p1
have p2:=ok.p2
have ob:a.bk≠a.wv:=jP hb.o hb.w (by intro z;cases z)
have ol:a.bk≠a.lv:=jP hb.o hb.l (by intro z;cases z)
have of':a.bk≠a.fi:=jP hb.o hb.f (by intro z;cases z)
have oo:a.bk≠a.bo:=jP hb.o hb.b (by intro z;cases z)
have wl:a.wv≠a.lv:=jP hb.w hb.l (by intro z;cases z)
have wf:a.fi≠a.wv:=jP hb.f hb.w (by intro z;cases z)
have wb:a.bo≠a.wv:=jP hb.b hb.w (by intro z;cases z)
have eb:((b*m.P+f:Nat):Int) / (m.P:Int)=(b:Int):=by rw[←xI,q8O hf]
refine⟨_,(qB (qW (i:=3) q4A.nd rfl (Or.inl rfl) (qT yH (pv 1) (qM (pv 0) rfl))) (qB (jD (yO (pv 0) T.bB T.oY (q2A T S).mono hr S.fZ.b .nil qQ (qA (pv 2) qE))) (qB (zJ hu (qM (pv 0) rfl) (pv 2) (pv 1) rfl) (qB (q5N (qM (pv 0) rfl) (pv 3) q3V qJ q8B q0P) (q2G (qV (qN jR (yF jN (qM (pv 0) rfl) (pv 3) (λ_ _=>rfl)) qJ (qO _)) (qC (qAK (qM (pv 0) rfl) (qDJ (qM (pv 0) rfl) (pv 3) q0P))) qL) (qB (q5N (qM (pv 0) rfl) (pv 3) q3V qJ q8B q0P) (qC (q7N (pv 0) qJ qHF)))))))),?_⟩
try dsimp-beta-proj-iota-zeta-eta only[wishK,cxK]
refine⟨_,rfl,_,rfl,a.bk,_,a.dx,_,_,rfl,hb.o,T.bB,T.f8,rfl,_,_,rfl,rfl,⟨by lia,by lia⟩,?_⟩
try dsimp only
rw[eb]
refine⟨_,rfl,a.bk,a.dx,_,rfl,hb.o,rfl,_,rfl,a,m,n,rfl,hb,ok,ds,λH1 hb1 k1=>?_⟩
have k1:Keep [a.bk,a.wv,a.lv,a.fi,a.bo] H H1:=k1.mono (by intro x hx;simp at hx ⊢;rcases hx with rfl|rfl<;>simp)
have lnV:(yJ m.V n).length≤65:=mJ (mF _ _) ok.lenV
have w0:H1 a.wv=some (.dK (dI (yJ m.V n))):=hb1.w
refine⟨_,rfl,iV rfl (iF hb1.o T.bB T.bP rfl ⟨_,rfl,a.wv,_,rfl,.inl ⟨_,Sum.inl n,w0,rfl,(by rw[q0M];exact wS (m:=65) (by lia) (by decide)),rfl⟩,?_⟩)⟩
rw[qCA,qD4]
have k2:Keep [a.bk,a.wv,a.lv,a.fi,a.bo] H1 (upd H1 a.wv (.dK (dI (yJ m.V n++[(n,((b*m.P+f:Nat):Int))])))):=Keep.upd w0 (λ_ z=>by cases z) (by simp)
have w2:(upd H1 a.wv (.dK (dI (yJ m.V n++[(n,((b*m.P+f:Nat):Int))])))) a.wv=some (.dK (dI (yJ m.V n++[(n,((b*m.P+f:Nat):Int))]))):=qF
have u2:∀x o,x≠a.wv→H1 x=some o→(upd H1 a.wv (.dK (dI (yJ m.V n++[(n,((b*m.P+f:Nat):Int))])))) x=some o:=λx o nb e=>by rw[qD nb];exact e
generalize upd H1 a.wv (.dK (dI (yJ m.V n++[(n,((b*m.P+f:Nat):Int))])))=H2 at k2 w2 u2 ⊢
have o2:=u2 _ _ ob hb1.o
have l2:H2 a.lv=some (.lst ((BM.lvF m.P m.V m.lv n).map V.int)):=u2 _ _ wl.symm hb1.l
have f2:H2 a.fi=some (.lst (m.fi.map V.int)):=u2 _ _ wf hb1.f
have b2:H2 a.bo=some (.lst (m.bo.map V.int)):=u2 _ _ wb hb1.b
have hbl:b<(BM.lvF m.P m.V m.lv n).length:=by rw[show(BM.lvF m.P m.V m.lv n).length=m.B from(ok.forget n).ll];exact hB
have hbf:b<m.fi.length:=by rw[ok.lf];exact hB
have hbo:b<m.bo.length:=by rw[ok.lo];exact hB
refine⟨_,rfl,a.bk,_,a.dx,_,_,rfl,o2,T.bB,T.iY,rfl,_,rfl,a.lv,_,_,_,rfl,rfl,SqL.of l2,atV hbl,_,_,rfl,rfl,a.lv,_,_,b,rfl,rfl,l2,q8P (by rw[hU];exact hbl),?_⟩
rw[setV]
have k3:Keep [a.bk,a.wv,a.lv,a.fi,a.bo] H2 (upd H2 a.lv (.lst (((BM.lvF m.P m.V m.lv n).set b ((BM.lvF m.P m.V m.lv n).getD b 0+1)).map V.int))):=Keep.upd l2 (λ_ z=>by cases z) (by simp)
have l3:(upd H2 a.lv (.lst (((BM.lvF m.P m.V m.lv n).set b ((BM.lvF m.P m.V m.lv n).getD b 0+1)).map V.int))) a.lv=some (.lst (((BM.lvF m.P m.V m.lv n).set b ((BM.lvF m.P m.V m.lv n).getD b 0+1)).map V.int)):=qF
have u3:∀x o,x≠a.lv→H2 x=some o→(upd H2 a.lv (.lst (((BM.lvF m.P m.V m.lv n).set b ((BM.lvF m.P m.V m.lv n).getD b 0+1)).map V.int))) x=some o:=λx o nb e=>by rw[qD nb];exact e
generalize upd H2 a.lv (.lst (((BM.lvF m.P m.V m.lv n).set b ((BM.lvF m.P m.V m.lv n).getD b 0+1)).map V.int))=H3 at k3 l3 u3 ⊢
have o3:=u3 _ _ ol o2
have w3:=u3 _ _ wl w2
have f3:=u3 _ _ ds.lf.symm f2
have b3:=u3 _ _ ds.lb.symm b2
refine⟨λσ' H'=>σ'=[some (.ref a.bk),some (.int ((b*m.P+f:Nat):Int)),some (.int n),some (.int (b:Int))]∧Keep [a.bk,a.wv,a.lv,a.fi,a.bo] H3 H'∧H' a.bo=some (.lst ((m.put b f n).bo.map V.int))∧∀x o,x≠a.bo→H3 x=some o→H' x=some o,?_,?_⟩
·refine⟨_,rfl,a.bk,_,a.dx,_,_,rfl,o3,T.bB,T.bK,rfl,_,rfl,a.fi,_,_,_,rfl,rfl,SqL.of f3,atV hbf,rfl,_,rfl,?_⟩;rw[q66];by_cases z:m.fi.getD b 0=0
 ·rw[hI z];refine iteT ?_;refine⟨_,rfl,a.bk,_,a.dx,_,_,rfl,o3,T.bB,T.eU,rfl,_,rfl,a.bk,_,a.dx,_,_,rfl,o3,T.bB,T.tU,rfl,_,rfl,a.bo,_,_,b,rfl,rfl,b3,q8P (by rw[hU];exact hbo),?_⟩;rw[setV];refine⟨rfl,Keep.upd b3 (λ_ z=>by cases z) (by simp),?_,λx o nb e=>by rw[qD nb];exact e⟩;rw[qF];show _=some (HO.lst ((if m.fi.getD b 0=0 then m.bo.set b m.nx else m.bo).map V.int));rw[kG z];rfl
 rw[hG z];refine iteF ⟨rfl,Keep.refl,?_,λx o _ e=>e⟩;show _=some (HO.lst ((if m.fi.getD b 0=0 then m.bo.set b m.nx else m.bo).map V.int));rw[kE z];exact b3
rintro σ' H4 ⟨rfl,k4,b4,u4⟩
have o4:=u4 _ _ oo o3
have w4:=u4 _ _ wb.symm w3
have l4:=u4 _ _ ds.lb l3
have f4:=u4 _ _ ds.fb f3
refine⟨_,rfl,a.bk,_,a.dx,_,_,rfl,o4,T.bB,T.bK,rfl,_,rfl,a.fi,_,_,_,rfl,rfl,SqL.of f4,atV hbf,_,_,rfl,rfl,a.fi,_,_,b,rfl,rfl,f4,q8P (by rw[hU];exact hbf),?_⟩
rw[setV]
have k5:Keep [a.bk,a.wv,a.lv,a.fi,a.bo] H4 (upd H4 a.fi (.lst ((m.fi.set b (m.fi.getD b 0+1)).map V.int))):=Keep.upd f4 (λ_ z=>by cases z) (by simp)
have f5:(upd H4 a.fi (.lst ((m.fi.set b (m.fi.getD b 0+1)).map V.int))) a.fi=some (.lst ((m.fi.set b (m.fi.getD b 0+1)).map V.int)):=qF
have u5:∀x o,x≠a.fi→H4 x=some o→(upd H4 a.fi (.lst ((m.fi.set b (m.fi.getD b 0+1)).map V.int))) x=some o:=λx o nb e=>by rw[qD nb];exact e
generalize upd H4 a.fi (.lst ((m.fi.set b (m.fi.getD b 0+1)).map V.int))=H5 at k5 f5 u5 ⊢
have o5:=u5 _ _ of' o4
refine⟨_,rfl,a.bk,_,a.dx,_,_,rfl,o5,T.bB,T.eU,rfl,_,_,rfl,rfl,a.dx,_,o5,by show 7<1000;decide,?_⟩
refine q _ ⟨?_,?_,?_,?_,?_⟩ ((((k1.trans k2).trans k3).trans k4).trans (k5.trans (Keep.upd o5 (λ_ z=>by cases z) (by simp))))
·exact qF
·rw[qD ob.symm];exact u5 _ _ wf.symm w4
·rw[qD ol.symm];exact u5 _ _ ds.lf l4
·rw[qD of'.symm];exact f5
rw[qD oo.symm]
exact u5 _ _ ds.fb.symm b4)
noncomputable def lamE:Expr:=match((yI yD).getLast?:Option Stmt)with
|some (Stmt.Return (some (Expr.Call _ _ (k::_) _)) _)=>k.value
|_=>Expr.Name "" ⟨0,0,0,0⟩
noncomputable abbrev lamA:Arguments:=match lamE with
| .Lambda a _ _ _=>a
|_=>yU yD
noncomputable abbrev lamB:Expr:=match lamE with
| .Lambda _ b _ _=>b
|_=>lamE
noncomputable abbrev qF3:Scope:=match lamE with
| .Lambda _ _ s _=>s
|_=>qH yD
noncomputable abbrev lamP:Pos:=match lamE with
| .Lambda _ _ _ p=>p
|_=>⟨0,0,0,0⟩
noncomputable abbrev lamQ:Str:=(PyProof.Rows.envOfC "Plain.free" (qH yD) 0 0 .none).qual++"<lambda>"
noncomputable abbrev q6P(clos:List (Str×Addr))(pm ct:Value)(c:Addr):FuncData:=W.kla_fn "<lambda>" lamQ lamA lamB qF3 clos pm (.ref c) ct
noncomputable def tri(c:Addr):Array Value:=#[rawInt lamP.line,rawInt lamP.col,.ref c]
noncomputable def TbF(t:Adr)(H:Hp):Prop:=∃ps,H t.aT=some (.tbl ps)∧(ps=#[]∨∃c,ps=tri c∧H c=some (cdO c lamQ))
theorem TbF.same{t:Adr}{H H':Hp}(s:Same H H')(h:TbF t H):TbF t H':=by(
obtain⟨ps,hT,h⟩:=h
refine⟨ps,s _ _ hT,?_⟩
rcases h with h|⟨c,h,a⟩
·exact .inl h
exact .inr ⟨c,h,s _ _ a⟩)
structure Sto where
s:Addr
sd:Addr
tm:Addr
td:Addr
c:Addr
a:CA
k:BkA
noncomputable def bf(k:BkA):List Addr:=[k.bk,k.wv,k.lv,k.fi,k.bo]
noncomputable def sf(x:Sto):List Addr:=foot x.c x.a++bf x.k
structure Fit(m:CM)(q:QM):Prop where
ok:m.Ok
oq:q.Ok
eB:m.bl=(q.B:Int)
eP:m.pg=(q.P:Int)
structure StAt(t:Adr)(H:Hp)(x:Sto)(r2 r3 r4 r5:V)(m:CM)(q:QM):Prop where
o:H x.s=some (.ins t.C_Plain x.sd [("chip",.ref x.c),("terms",.ref x.tm),("book",.ref x.k.bk)])
te:H x.tm=some (.ins t.C_Terms x.td (teF (.int m.bl) (.int m.pg) r2 r3 r4 r5))
ch:ChipAt t.C_Chip H x.c x.a m
bk:BkAt t H x.k q
tb:TbF t H
ds:Dst x.k
d1:∀b∈x.a.li::foot x.c x.a,b∉bf x.k
d2:∀b∈[x.s,x.tm],b∉sf x
section
variable{H H':Hp}{x:Sto}{r2 r3 r4 r5:V}{m:CM}{q:QM}
theorem StAt.same(h:StAt t H x r2 r3 r4 r5 m q)(s:Same H H'):StAt t H' x r2 r3 r4 r5 m q:=⟨s _ _ h.o,s _ _ h.te,h.ch.same s,h.bk.same s,h.tb.same s,h.ds,h.d1,h.d2⟩
theorem TbF.ne(h:TbF t H){b:Addr}{o:HO}(e:H b=some o)(n:∀ps,o≠ .tbl ps):b≠t.aT:=λz=>by obtain⟨ps,hT,_⟩:=h;rw[z,hT]at e;exact n ps (kI e).symm
theorem StAt.nT(h:StAt t H x r2 r3 r4 r5 m q):∀b∈[x.s,x.tm]++(x.a.li::sf x),b∉[t.aT]:=by(
intro b hb z
have z:b=t.aT:=by simpa using z
have ne:∀{b:Addr} {o:HO},H b=some o→(∀ps,o≠ .tbl ps)→b≠t.aT:=λe n=>h.tb.ne e n
obtain⟨rs,er,_⟩:=h.ch.rc
have hb:b=x.s∨b=x.tm∨b=x.a.li∨b=x.c∨b=x.a.bo∨b=x.a.cl∨b=x.a.dc∨b=x.a.br∨b=x.a.rc∨b=x.k.bk∨b=x.k.wv∨b=x.k.lv∨b=x.k.fi∨b=x.k.bo:=by simpa[sf,bf,foot]using hb
rcases hb with y|y|y|y|y|y|y|y|y|y|y|y|y|y<;>rw[y]at z
·exact ne h.o (λ_ z=>by cases z) z
·exact ne h.te (λ_ z=>by cases z) z
·exact ne h.ch.li (λ_ z=>by cases z) z
·exact ne h.ch.ins (λ_ z=>by cases z) z
·exact ne h.ch.bo (λ_ z=>by cases z) z
·exact ne h.ch.cl (λ_ z=>by cases z) z
·exact ne h.ch.dc (λ_ z=>by cases z) z
·exact ne h.ch.br (λ_ z=>by cases z) z
·exact ne er (λ_ z=>by cases z) z
·exact ne h.bk.o (λ_ z=>by cases z) z
·exact ne h.bk.w (λ_ z=>by cases z) z
·exact ne h.bk.l (λ_ z=>by cases z) z
·exact ne h.bk.f (λ_ z=>by cases z) z
exact ne h.bk.b (λ_ z=>by cases z) z)
theorem StAt.keep(h:StAt t H x r2 r3 r4 r5 m q){F:List Addr}(k:Keep F H H')(n:∀b∈[x.s,x.tm]++(x.a.li::sf x),b∉F)(tb:TbF t H'):StAt t H' x r2 r3 r4 r5 m q:=⟨k.k _ _ (n _ (by simp)) h.o,k.k _ _ (n _ (by simp)) h.te,h.ch.keep k (λb hb=>n b (by
  rcases kW.mp hb with rfl|hb
  ·simp
  ·simp[sf,hb])),h.bk.keep k (λb hb=>n b (by
  have hb:b∈bf x.k:=hb;simp[sf,hb])),tb,h.ds,h.d1,h.d2⟩
theorem StAt.kT(h:StAt t H x r2 r3 r4 r5 m q)(k:Keep [t.aT] H H')(tb:TbF t H'):StAt t H' x r2 r3 r4 r5 m q:=h.keep k h.nT tb
end
noncomputable def spGd(t:Adr):Sp:=λvs H Q _=>∃x r2 r3 r4 r5 m q,vs=[.ref x.s]∧StAt t H x r2 r3 r4 r5 m q∧Fit m q∧NewO H (.lst ((zW q.B m.br).map vn)) Q
theorem q2Y(T:Txt K mg t)(S:Fns K t):S.iZ.Ok0 P w mg base 5 (spGd t):=by(
refine S.iZ.F.ok0 q74 λcdv A _ s H vs Q E hr h=>?_
obtain⟨x,r2,r3,r4,r5,m,q,rfl,hs,ft,k⟩:=h
have b2:=ft.oq.b2
have eB:=ft.eB
refine⟨_,(qC (qP (yW ["self","block"] [0] rfl (vB rfl T.oO (qA (qM (qM (pv 0) rfl) rfl) qE)) (λ_ _ _ _ _=>(qZ (i:=1) (show List.Nodup (["self","block"]:List Str)from by decide) rfl (Or.inl rfl))) (λ_ _ _ _ _=>(q06 (jZ (jI (yO (q40 (K:=K) rfl (pv 0) rfl) T.aV T.aBJ (q6O T S).mono hr S.oP.b .nil qQ (qA (pv 1) qE)))))) (λ_ _ _ _ _=>(pv 1)) (by kernel_rfl) (jY (by decide))))),?_⟩
try dsimp-beta-proj-iota-zeta-eta only[wishK,cxK]
refine(iV rfl (iF hs.o T.aU T.bF rfl (iF hs.te T.bE T.eF rfl ⟨m.bl,rfl,by lia,by lia,λD H2 nD s2 hD=>?_⟩)))
refine qD5 (D:=D) (λi H3=>Same H H3∧H3 D=some (.lst (((List.range i).filter λb=>!(m.br.getD b false)).map vn))) ⟨s2,hD⟩ (λi H3 hi hp=>?_) (λH3 hp=>?_)
·obtain⟨sm,hd⟩:=hp;have hi:i<q.B:=by lia
 have h3:=hs.same sm;refine(iV rfl (iF h3.o T.aU T.aX rfl (iM h3.ch.ins rfl ⟨_,rfl,x.c,x.a,m,_,rfl,h3.ch,ft.ok,by lia,by lia,?_⟩)));rw[show(0+(i:Int)).toNat=i by lia,rM];refine⟨_,rfl,?_⟩;rw[g9,gZ,mB];cases z:m.br.getD i false with
 |true=>refine iteF ⟨sm,?_⟩;rw[hd,gP,z];simp
 |false=>
  refine iteT ?_;refine⟨_,rfl,_,hd,?_,λb o e=>?_,?_⟩
  ·rw[hU];have:((List.range i).filter λb=>!(m.br.getD b false)).length≤i:=mJ (mF _ _) (by rw[mU];exact kH _);have:(16:Nat)<sizeLine:=by decide
   lia
  ·rw[qD (qG e nD)];exact sm _ _ e
  rw[qF,gP,z];rfl
obtain⟨sm,hd⟩:=hp
rw[show m.bl.toNat=q.B by lia]at hd
exact k D H3 nD sm hd)
noncomputable def spLm(t:Adr)(x:Sto)(g c:Addr)(fd:FuncData):Sp:=λvs H Q _=>∃r2 r3 r4 r5,∃m:CM,∃q:QM,∃b:Nat,vs=[.int (b:Int)]∧StAt t H x r2 r3 r4 r5 m q∧Fit m q∧b<q.B∧H g=some (fnO g fd)∧H c=some (cdO c lamQ)∧∀tp H',H tp=none→Same H H'→H' tp=some (.tup [.int (m.cl.getD b 0),.int (b:Int)])→Q (.ref tp) H'
theorem qIX(T:Txt K mg t)(S:Fns K t){g c ca:Addr}{pm ct:Value}{x:Sto}(hc:base.IsCell ca (some (.ref x.s))):
 FnOk P w K mg base CX0 5 g (q6P [("self",ca)] pm ct c) ["block"] (spLm t x g c (q6P [("self",ca)] pm ct c)):=by(
refine qFY (k:=4) (x0:="block") (fvs:=[.ref x.s]) (qD6 (u:=.ref x.s) rfl rfl rfl (by decide+kernel) (by decide+kernel) (by decide+kernel) rfl hc) (λvs H Q E h=>?_) (λvs H Q E h=>?_) (λA outer s H v0 Q E hr h=>?_)
·repeat obtain⟨_,h⟩:=h
 all_goals subst_vars;rfl
·obtain⟨r2,r3,r4,r5,m,q,b,rfl,_,_,_,a,d,_⟩:=h;exact⟨a,d⟩
obtain⟨r2,r3,r4,r5,m,q,b,e,hs,ft,hb,_,_,k⟩:=h
obtain rfl:v0=.int (b:Int):=by simpa using e
have eB:=ft.eB
refine⟨_,q2F (qA (yO (qM (pv 1) rfl) T.aV T.aA9 (q5L T S).mono hr S.iN.b .nil qQ (qA (pv 0) qE)) (qA (pv 0) qE)),?_⟩
refine(iV rfl (iF hs.o T.aU T.aX rfl (iM hs.ch.ins rfl ⟨_,rfl,x.c,x.a,m,_,rfl,hs.ch,ft.ok,by lia,by lia,?_⟩)))
rw[mY]
exact⟨_,rfl,sz2,k⟩)
theorem qDG{clos:List (Str×Addr)}{c:Addr}{pm ct:Value}:yL K (q6P clos pm ct c) ["block"] []:=yL.all λus hl=>match us,hl with| [_],_=>rfl
theorem qGM{t:Adr}{H:Hp}(h:TbF t H):∃ps,H t.aT=some (.tbl ps)∧TriplesOk ps.toList∧((codeAmong lamP ps.toList=none∧∀c H',H' t.aT=some (.tbl (ps++tri c))→H' c=some (cdO c lamQ)→TbF t H')∨∃c,codeAmong lamP ps.toList=some (.ref c)∧H c=some (cdO c lamQ)):=by(
obtain⟨ps,hT,h⟩:=h
rcases h with rfl|⟨c,rfl,a⟩
·exact⟨_,hT,trivial,.inl ⟨rfl,λc H' e1 e2=>⟨_,e1,.inr ⟨c,rfl,e2⟩⟩⟩⟩
exact⟨_,hT,trivial,.inr ⟨c,rfl,a⟩⟩)
theorem q87(T:Txt K mg t)(S:Fns K t){cells:List (Str×Addr)}{σ:St}{H4:Hp}{D f c':Addr}{x:Sto}{r2 r3 r4 r5:V}{m:CM}{q:QM}{clos:List (Str×Addr)}{pm ct:Value}{Q:VK}(hσ:σ[0]?=some (some (.ref x.s)))(hcl:∀ca,cells.lookup ("self":Str)=some ca→clos=[(("self":Str),ca)])
 (hs:StAt t H4 x r2 r3 r4 r5 m q) (ft:Fit m q) (hD:H4 D=some (.lst ((u6 q.B m.br q.fi).map vn))) (hf:H4 f=some (fnO f (q6P clos pm ct c'))) (hc:H4 c'=some (cdO c' lamQ)) (k:∀l p H',FreeIs q.B m.br m.cl q.fi l→H4 p=none→Same H4 H'→H' p=some (.lst (l.map vn))→Q (.ref p) H'):
 ∃(f':Addr) (fd:FuncData) (sp:Heap→Sp),V.ref f=.ref f'∧(∀base',(∀b o,base.get? b=some o→base'.get? b=some o)→q6A cells σ base' [(0,"self")]→FnOk P w K mg base' CX0 5 f' fd ["block"] (sp base'))∧yL K fd ["block"] []∧∃(l:Addr) (us:List V) (Pv:Nat→List V→Hp→Prop),[V.ref D]=[.ref l]∧SqL K H4 l us∧us.length<64∧Pv 0 [] H4∧(∀base' i x zs H',q6A cells σ base' [(0,"self")]→us[i]?=some x→Pv i zs H'→sp base' [x] H' (λz H''=>Pv (i+1) (zs++[z]) H'') E0)∧∀zs H',zs.length=us.length→Pv us.length zs H'→∃kk m,Paired (TupI K H') zs kk∧(∀k∈kk,k.length=m)∧0<m∧∀q:List Nat,q.Perm (List.range us.length)→(q.map λi=>kk.getD i []).Pairwise (λa b=>lx b a=false)→NewO H' (.lst (q.map λi=>us.getD i .non)) Q:=by(
have b2:=ft.oq.b2
have ln:=qD8 (B:=q.B) (br:=m.br) (fi:=q.fi)
refine⟨f,q6P clos pm ct c',λ_=>spLm t x f c' (q6P clos pm ct c'),rfl,λbase' _ cv=>?_,qDG,D,_,λi zs H'=>Same H4 H'∧Paired (TupD H') zs (((u6 q.B m.br q.fi).take i).map (keyN m.cl)),rfl,SqL.of hD,by rw[hU];lia,⟨Same.refl H4,.nil⟩,λbase' i y zs H' _ hy hp=>?_,λzs H' lz hp=>?_⟩
·obtain⟨ca,u,hk,ru,hcell⟩:=cv (0,"self") (kJ.mpr rfl) (.ref x.s) hσ;obtain rfl:u=Value.ref x.s:=ru;rw[hcl ca hk];exact qIX T S hcell
·obtain⟨sm,pr⟩:=hp;rw[kX]at hy;obtain⟨b,hb,rfl⟩:=mO.mp hy;have mb:=q83.mp (mT hb);refine⟨r2,r3,r4,r5,m,q,b,rfl,hs.same sm,ft,mb.1.1,sm _ _ hf,sm _ _ hc,λtp H5 ntp s5 e5=>⟨sm.trans s5,?_⟩⟩;rw[q84 (f:=keyN m.cl) hb];exact L2.Paired.snoc (qB5 pr s5) ⟨tp,rfl,e5⟩
obtain⟨sm,pr⟩:=hp
rw[hU,mW]at pr
refine⟨_,2,qG7 pr,λk hk=>?_,by decide,λq' p1 p2 p H5 np s5 e5=>?_⟩
·obtain⟨b,_,rfl⟩:=kP.mp hk;rfl
rw[hU]at p1
have hin:∀i∈q',i<(u6 q.B m.br q.fi).length:=λi hi=>mH.mp (p1.mem_iff.mp hi)
rw[q6E (e:=0) hin]at e5
exact k _ p H5 (qGD p1 p2) (Same.free sm np) (sm.trans s5) e5)
noncomputable def spFr(t:Adr):Sp:=λvs H Q _=>∃x r2 r3 r4 r5 m q,vs=[.ref x.s]∧StAt t H x r2 r3 r4 r5 m q∧Fit m q∧∀l p H',FreeIs q.B m.br m.cl q.fi l→H p=none→Keep [t.aT] H H'→TbF t H'→H' p=some (.lst (l.map vn))→Q (.ref p) H'
theorem q2Z(T:Txt K mg t)(S:Fns K t)(B:BmIn base mg):FnOk P w K mg base (CX0) 8 t.f_Plain_free S.f6 ["self"] (spFr t):=by(
refine S.aCA.ok0 q2W λA _ s H vs Q E hr h=>?_
obtain⟨x,r2,r3,r4,r5,m,q,rfl,hs,ft,k⟩:=h
have b2:=ft.oq.b2
have eB:=ft.eB
refine⟨_,(qB (q69 (i:=1) ["self","block"] [0] rfl (jV (jL (pv 0) T.aU T.tZ (q2Y T S).mono hr S.iZ.b .nil qQ)) (λ_ _ _ _ _=>(qZ (i:=1) (show List.Nodup (["self","block"]:List Str)from by decide) rfl (Or.inl rfl))) (λ_ _ _ _ _=>(q06 (qN jR (yF (qED (K:=K) rfl) (q40 (K:=K) rfl (q40 (K:=K) rfl (pv 0) rfl) rfl) (pv 1) (λ_ _=>rfl)) qJ (qO _)))) (λ_ _ _ _ _=>(pv 1)) (by kernel_rfl) (jY (by decide)) q2W.nd rfl (Or.inl rfl)) (qC (qP (qB7 (k:=5) (x:="block") [(0,"self")] (by intro p hp;simp only[kW,g0,cD]at hp;rcases hp with rfl<;>exact⟨rfl,by kernel_rfl,rfl⟩) hr (by rfl) T.o9 (qG9 rfl T.aBO B (qG8 (by kernel_rfl)) rfl) (qA (pv 1) qE))))),?_⟩
try dsimp-beta-proj-iota-zeta-eta only[wishK,cxK]
refine⟨_,rfl,x.s,x.sd,_,rfl,hs.o,rfl,x,r2,r3,r4,r5,m,q,rfl,hs,ft,λp H1 n1 s1 h1=>?_⟩
refine⟨p,rfl,⟨_,SqL.of h1⟩,λD H2 nD s2 hD=>?_⟩
refine q1O (K:=K) (xs:=(zW q.B m.br).map vn) (D:=D) (λi H3=>Same H1 H3∧H3 D=some (.lst ((((zW q.B m.br).take i).filter λb=>decide (q.fi.getD b 0=0)).map vn))) ⟨s2,hD⟩ (λi H3 hp=>SqL.of (hp.1 _ _ h1)) (λi y H3 hy hp=>?_) (λH3 hp=>?_)
·obtain⟨sm,hd⟩:=hp;have h3:=(hs.same s1).same sm;rw[kX]at hy;obtain⟨b,hb,rfl⟩:=mO.mp hy;have hi:=(hV.mp hb).1;have mb:=q41.mp (mT hb);refine(iV rfl (iF h3.o T.aU T.bD rfl (iF h3.bk.o T.bB T.bK rfl ⟨_,rfl,iL (k:=_) (v:=_) (SqL.of h3.bk.f) (atV (by rw[ft.oq.lf];exact mb.1)) ⟨rfl,_,rfl,?_⟩⟩)));rw[q66,←mC hi,gZ,mB];obtain rfl:(zW q.B m.br)[i]=b:=(hV.mp hb).2;by_cases z:q.fi.getD (zW q.B m.br)[i] 0=0
 ·rw[hI z];refine iteT ?_;refine⟨_,rfl,_,hd,?_,λb o e=>?_,?_⟩
  ·rw[hU];have l1:(((zW q.B m.br).take i).filter λb=>decide (q.fi.getD b 0=0)).length≤q.B:=mJ (mF _ _) (mJ (by rw[m9];lia) (qA3 (B:=q.B) (br:=m.br)));have:(16:Nat)<sizeLine:=by decide
   lia
  ·rw[qD (qG e nD)];exact sm _ _ e
  rw[qF,gP,hI z];rfl
 rw[hG z];refine iteF ⟨sm,?_⟩;rw[hd,gP,hG z];simp
obtain⟨sm,hd⟩:=hp
rw[hU,mW]at hd
have hd:H3 D=some (.lst ((u6 q.B m.br q.fi).map vn)):=hd
have h3:=(hs.same s1).same sm
refine⟨_,rfl,?_⟩
obtain⟨ps,hT,ht,hc⟩:=qGM h3.tb
have nT:D≠t.aT:=h3.tb.ne hd (λ_ z=>by cases z)
have keep:∀(f c':Addr) (ctv pm:Value) (clos:List (Str×Addr)) (H4:Hp),H4 f=some (fnO f (q6P clos pm ctv c'))→H4 c'=some (cdO c' lamQ)→TbF t H4→(∀b o,b≠t.aT→H3 b=some o→H4 b=some o)→Keep [t.aT] H3 H4:=λf c' ctv pm clos H4 _ _ tb4 kp=>⟨λb o nb e=>kp b o (λz=>nb (by rw[z];simp)) e,λb xs e=>kp b _ (h3.tb.ne e (λ_ z=>by cases z)) e⟩
refine⟨ps,hT,ht,?_⟩
rcases hc with⟨hn,tb⟩|⟨c0,hn,hc0⟩
·refine .inl ⟨hn,λf c' ctv H4 nf hf hc' hT4 kp=>?_⟩;have tb4:=tb c' H4 hT4 hc';have k4:=keep f c' ctv _ _ H4 hf hc' tb4 kp;refine q87 T S rfl (λca hk=>qA2 (names:=qF3.names) hk rfl) (h3.kT k4 tb4) ft (kp _ _ nT hd) hf hc' (λl p' H5 hl np s5 e5=>k l p' H5 hl ?_ ?_ (tb4.same s5) e5)
 ·refine Same.free s1 (Same.free sm (k4.none (λz=>?_) np));obtain⟨ps',hT',_⟩:=tb4;rw[kJ.mp z,hT']at np;cases np
 exact((Keep.same s1).trans (Keep.same sm)).trans (k4.trans (Keep.same s5))
refine .inr ⟨c0,hn,λf ctv H4 nf hf s4=>?_⟩
refine q87 T S rfl (λca hk=>qA2 (names:=qF3.names) hk rfl) (h3.same s4) ft (s4 _ _ hd) hf (s4 _ _ hc0) (λl p' H5 hl np s5 e5=>k l p' H5 hl ?_ ?_ ((h3.tb.same s4).same s5) e5)
·exact Same.free s1 (Same.free sm (Same.free s4 np))
exact Keep.same (((s1.trans sm).trans s4).trans s5))
noncomputable def spPt(t:Adr):Sp:=λvs H Q _=>∃x r2 r3 r4 r5 m q,vs=[.ref x.s]∧StAt t H x r2 r3 r4 r5 m q∧Fit m q∧∀H',Same H H'→Q (oV (q2T q.B q.P m.br q.fi)) H'
theorem qDH{α:Type}{p:α→Bool}{L:List α}{i:Nat}{x:α}(h:L[i]?=some x)(n:(L.take i).find? p=none):(p x=true→L.find? p=some x)∧(p x=false→(L.take (i+1)).find? p=none):=by(
have hi:=(hV.mp h).1
obtain rfl:L[i]=x:=(hV.mp h).2
constructor
·intro hp;have e:L=L.take i++L[i]::L.drop (i+1):=by rw[List.getElem_cons_drop,List.take_append_drop]
 conv=>lhs;arg 2;rw[e]
 rw[xC,n,dY,hp];rfl
intro hp
rw[←mC hi,xC,n,dY,hp]
rfl)
theorem q30(T:Txt K mg t)(S:Fns K t):S.i3.Ok0 P w mg base 6 (spPt t):=by(
refine S.i3.F.ok0 q2X λcdv A _ s H vs Q E hr h=>?_
obtain⟨x,r2,r3,r4,r5,m,q,rfl,hs,ft,k⟩:=h
refine⟨_,(qB (uH gF rfl (jV (jL (pv 0) T.aU T.tZ (q2Y T S).mono hr S.iZ.b .nil qQ)) (qZ (i:=1) q2X.nd rfl (Or.inl rfl)) (qC (qV (q5Z q7L q7L qJ (yF jN (qM (qM (pv 0) rfl) rfl) (pv 1) (λ_ _=>rfl)) (qM (qM (pv 0) rfl) rfl)) (qC (qP (pv 1))) qL))) (qC (qP uO))),?_⟩
try dsimp-beta-proj-iota-zeta-eta only[wishK,cxK]
refine⟨_,rfl,x.s,x.sd,_,rfl,hs.o,rfl,x,r2,r3,r4,r5,m,q,rfl,hs,ft,λp H1 n1 s1 h1=>?_⟩
refine⟨p,rfl,⟨_,SqL.of h1⟩,?_⟩
refine vM (K:=K) (xs:=(zW q.B m.br).map vn) (λi σ' H2=>∃y,σ'=[some (.ref x.s),y]∧Same H1 H2∧((zW q.B m.br).take i).find? (q0C q.P q.fi)=none) ⟨_,rfl,Same.refl H1,rfl⟩ (λi σ' H2 hi hp=>?_) (λi y σ' H2 hy hp=>?_) (λσ' H2 hp=>?_)
·obtain⟨y,rfl,sm,_⟩:=hp;exact SqL.of (sm _ _ h1)
·obtain⟨y',rfl,sm,hn⟩:=hp;have h3:=(hs.same s1).same sm;rw[kX]at hy;obtain⟨b,hb,rfl⟩:=mO.mp hy;have mb:=q41.mp (mT hb);obtain⟨y1,y2⟩:=qDH hb hn;refine(iV rfl (iF h3.o T.aU T.bD rfl (iF h3.bk.o T.bB T.bK rfl ⟨_,rfl,iL (k:=_) (v:=_) (SqL.of h3.bk.f) (atV (by rw[ft.oq.lf];exact mb.1)) ?_⟩)));refine⟨_,_,rfl,rfl,_,rfl,?_⟩;by_cases z1:0<q.fi.getD b 0
 ·rw[hI z1];refine iteT ?_;refine(iV rfl (iF h3.o T.aU T.bF rfl (iF h3.te T.bE T.bU rfl (iI ⟨_,rfl,?_⟩))));by_cases z2:q.fi.getD b 0<m.pg
  ·rw[hI z2];have z:=k H2 (s1.trans sm);unfold q2T at z;rw[y1 (by unfold q0C;rw[hI z1,hI (by rw[←ft.eP];exact z2)];rfl)]at z;exact iteT ⟨_,rfl,z⟩
  rw[hG z2];exact iteF ⟨_,rfl,sm,y2 (by unfold q0C;rw[hI z1,hG (by rw[←ft.eP];exact z2)];rfl)⟩
 rw[hG z1];exact iteF ⟨_,rfl,iteF ⟨_,rfl,sm,y2 (by unfold q0C;rw[hG z1];rfl)⟩⟩
obtain⟨y',rfl,sm,hn⟩:=hp
rw[hU,mW]at hn
have z:=k H2 (s1.trans sm)
unfold q2T at z
rw[hn]at z
exact z)
noncomputable def spSp(t:Adr):Sp:=λvs H Q _=>∃x r2 r3 r4 r5 m q,vs=[.ref x.s]∧StAt t H x r2 r3 r4 r5 m q∧Fit m q∧∀l H',FreeIs q.B m.br m.cl q.fi l→Keep [t.aT] H H'→TbF t H'→Q (pgV q.P q.fi (zX q.B q.P m.br q.fi l)) H'
theorem q79(T:Txt K mg t)(S:Fns K t)(B:BmIn base mg):S.tH.Ok0 P w mg base 9 (spSp t):=by(
refine S.tH.F.ok0 q0L λcdv A _ s H vs Q E hr h=>?_
obtain⟨x,r2,r3,r4,r5,m,q,rfl,hs,ft,k⟩:=h
refine⟨_,(qB (qW (i:=1) q0L.nd rfl (Or.inl rfl) (jL (pv 0) T.aU T.tS (q30 T S).mono hr S.i3.b .nil qQ)) (qB (qV (qN q5O (pv 1) uO (qO _)) (qC (qP (qT yN (qT vC (pv 1) (qM (qM (pv 0) rfl) rfl)) (yF jN (qM (qM (pv 0) rfl) rfl) (pv 1) (λ_ _=>rfl))))) qL) (qB (qW (i:=2) q0L.nd rfl (Or.inl rfl) (jL (pv 0) T.aU T.tW (q2Z T S B).mono hr S.tT .nil qQ)) (qB (qV (qN (qAY hr.units) (pv 2) (jX qE) (qO _)) (qC (qP uO)) qL) (qC (qP (qT vC (yF jN (pv 2) qJ (λ_ _=>rfl)) (qM (qM (pv 0) rfl) rfl)))))))),?_⟩
try dsimp-beta-proj-iota-zeta-eta only[wishK,cxK]
refine⟨_,rfl,x.s,x.sd,_,rfl,hs.o,rfl,x,r2,r3,r4,r5,m,q,rfl,hs,ft,λH1 s1=>?_⟩
have h1:=hs.same s1
have b2:=ft.oq.b2
have p2:=ft.oq.p2
have eP:=ft.eP
cases hpn:q2T q.B q.P m.br q.fi with
|some b=>
 have hb:=q6D hpn;refine⟨_,rfl,rfl,_,rfl,iteT ?_⟩;refine⟨_,rfl,iV rfl (iF h1.o T.aU T.bF rfl (iF h1.te T.bE T.bU rfl (iI ⟨.inl ⟨by lia,by lia⟩,?_⟩)))⟩;refine(iV rfl (iF h1.o T.aU T.bD rfl (iF h1.bk.o T.bB T.bK rfl ⟨_,rfl,iL (k:=_) (v:=_) (SqL.of h1.bk.f) (atV (by rw[ft.oq.lf];exact hb.1)) (iI ?_)⟩)));obtain⟨l,hl⟩:=FreeIs.ex q.B m.br m.cl q.fi;have kk:=k l H1 hl (Keep.same s1) h1.tb;unfold zX at kk;rw[hpn]at kk;have e:pgV q.P q.fi (some b)=V.int ((b:Int)*m.pg+q.fi.getD b 0):=by rw[eP];rfl
 have kk:Q (pgV q.P q.fi (some b)) H1:=kk;rw[e]at kk;exact kk
|none=>
 refine⟨_,rfl,rfl,_,rfl,iteF ?_⟩;refine⟨_,rfl,x.s,x.sd,_,rfl,h1.o,rfl,x,r2,r3,r4,r5,m,q,rfl,h1,ft,λl p H2 hl np k2 tb2 h2=>?_⟩;have h2':=h1.kT k2 tb2;refine⟨_,rfl,sz0,λe H3 n3 s3 h3=>⟨p,_,e,rfl,rfl,SqL.of (s3 _ _ h2),SqL.of h3,_,rfl,?_⟩⟩;have h3':=h2'.same s3;have kk:=k l H3 hl (((Keep.same s1).trans k2).trans (Keep.same s3)) (tb2.same s3);unfold zX at kk;rw[hpn]at kk;cases l with
 |nil=>refine iteT ?_;exact kk
 |cons b r=>
  refine iteF ?_;have hb:=hl.mem (kO (a:=b) (l:=r));refine⟨_,rfl,iL (k:=0) (v:=.int (b:Int)) (SqL.of (s3 _ _ h2)) (uZ (j:=0) rfl) (iV rfl (iF h3'.o T.aU T.bF rfl (iF h3'.te T.bE T.bU rfl (iI ⟨.inl ⟨by lia,by lia⟩,?_⟩))))⟩;have e:pgV q.P q.fi ((b::r).head?)=V.int ((b:Int)*m.pg):=by show V.int ((b:Int)*(q.P:Int)+q.fi.getD b 0)=_;rw[hb.2.2,eP,Int.add_zero]
  have kk:Q (pgV q.P q.fi ((b::r).head?)) H3:=kk;rw[e]at kk;exact kk)
theorem q4Z(T:Txt K mg t)(S:Fns K t):S.iD.Ok0 P w mg base 1 (λvs H Q _=>∃x,vs=[.ref x]∧Q (.int 0) H):=by refine S.iD.F.ok0 q4W λcdv A _ s H vs Q E hr h=>?_;obtain⟨x,rfl,q⟩:=h;exact⟨_,(qC (qP qJ)),q⟩
theorem qF4{B P:Nat}{br:List Bool}{fi:List Int}{l:List Nat}:(zX B P br fi l).isSome=(decide (0<l.length)||(q2T B P br fi).isSome):=by(
unfold zX
cases q2T B P br fi with
|some b=>simp
|none=>cases l<;>simp)
noncomputable def spRd(t:Adr):Sp:=λvs H Q _=>∃x r2 r3 r4 r5 m q,vs=[.ref x.s]∧StAt t H x r2 r3 r4 r5 m q∧Fit m q∧∀l H',FreeIs q.B m.br m.cl q.fi l→Keep [t.aT] H H'→TbF t H'→Q (.bl (zX q.B q.P m.br q.fi l).isSome) H'
theorem q6Q(T:Txt K mg t)(S:Fns K t)(B:BmIn base mg):S.oK.Ok0 P w mg base 9 (spRd t):=by(
refine S.oK.F.ok0 q28 λcdv A _ s H vs Q E hr h=>?_
obtain⟨x,r2,r3,r4,r5,m,q,rfl,hs,ft,k⟩:=h
refine⟨_,(qB (qW (i:=1) q28.nd rfl (Or.inl rfl) (qT uY (qS jJ (by rfl) T.fW mR (qA (jL (pv 0) T.aU T.tW (q2Z T S B).mono hr S.tT .nil qQ) qE)) (jL (pv 0) T.aU T.aAD (q4Z T S).mono hr S.iD.b .nil qQ))) (qC (qP (qGS (yC qDM (pv 1) qJ (qO _)) (uX (vA (yC jR (pv 1) qJ (qO _)) (uX (yC q5O (jL (pv 0) T.aU T.tS (q30 T S).mono hr S.i3.b .nil qQ) uO (qO _))))))))),?_⟩
try dsimp-beta-proj-iota-zeta-eta only[wishK,cxK]
refine(iV rfl (iM hs.o rfl ⟨x,r2,r3,r4,r5,m,q,rfl,hs,ft,λl p H1 hl np k1 tb1 h1=>?_⟩))
have hs1:=hs.kT k1 tb1
refine⟨p,_,rfl,.inl (SqL.of h1),iV rfl (iM hs1.o rfl ⟨x.s,rfl,iI ?_⟩)⟩
refine⟨_,rfl,_,_,rfl,rfl,_,rfl,?_⟩
have kk:=λH' s'=>k l H' hl (k1.trans (Keep.same s')) (tb1.same s')
rw[qF4]at kk
rw[hU]
by_cases z:0<l.length
·rw[hI (show((l.length:Int)-0>0) by lia)];refine iteT ?_;have:=kk H1 (Same.refl H1);rw[hI z]at this;exact this
rw[hG (show ¬((l.length:Int)-0>0) by lia)]
refine iteF ?_
have e0:(l.length:Int)-0=0:=by lia
refine⟨_,rfl,rfl,_,rfl,?_⟩
rw[q66,hI e0]
refine iteT ?_
refine(iV rfl (iM hs1.o rfl ⟨x,r2,r3,r4,r5,m,q,rfl,hs1,ft,λH2 s2=>⟨rfl,?_⟩⟩))
have:=kk H2 s2
rw[hG z,aJ]at this
cases hp:q2T q.B q.P m.br q.fi with
|none=>rw[hp]at this;exact this
|some b=>rw[hp]at this;exact this)
noncomputable def spMr(t:Adr):Sp:=λvs H Q E=>∃x r2 r3 r4 r5 m q,vs=[.ref x.s]∧StAt t H x r2 r3 r4 r5 m q∧Fit m q∧∀l H',FreeIs q.B m.br m.cl q.fi l→Keep [t.aT] H H'→TbF t H'→if(zX q.B q.P m.br q.fi l).isSome=true then Q .non H' else False
theorem zG(T:Txt K mg t)(S:Fns K t)(B:BmIn base mg):S.bW.Ok0 P w mg base 10 (spMr t):=by(
refine S.bW.F.ok0 q2P λcdv A _ s H vs Q E hr h=>?_
obtain⟨x,r2,r3,r4,r5,m,q,rfl,hs,ft,k⟩:=h
refine⟨_,(qC (qV (jZ (jI (jL (pv 0) T.aU T.aBH (q6Q T S B).mono hr S.oK.b .nil qQ))) (qC jC) qL)),?_⟩
try dsimp-beta-proj-iota-zeta-eta only[wishK,cxK]
refine(iV rfl (iM hs.o rfl ⟨x,r2,r3,r4,r5,m,q,rfl,hs,ft,λl H1 hl k1 tb1=>⟨_,rfl,?_⟩⟩))
have kk:=k l H1 hl k1 tb1
cases z:(zX q.B q.P m.br q.fi l).isSome with
|true=>rw[z,kG rfl]at kk;exact iteF kk
|false=>rw[z,kE (by decide)]at kk;exact kk.elim)
noncomputable def qH4(t:Adr):Sp:=λvs H Q E=>∃x r2 r3 r4 r5 m q n v,vs=[.ref x.s,.int n,.int v]∧StAt t H x r2 r3 r4 r5 m q∧Fit m q∧Gd m∧m.rc.length<1000000∧∀l,FreeIs q.B m.br m.cl q.fi l→∃b f:Nat,zX q.B q.P m.br q.fi l=some b∧q.fi.getD b 0=(f:Int)∧m.bo.getD (b*q.P+f) .non=.non∧(m.lf=some 0→∀H',Keep (t.aT::sf x) H H'→StAt t H' x r2 r3 r4 r5 m q→E (.ref t.C_PowerGone) none H')∧(m.lf≠some 0→∀tp H',H' tp=some (.tup [.int (q.nx*128+n),.int v])→Keep (t.aT::sf x) H H'→StAt t H' x r2 r3 r4 r5 (putC m (b*q.P+f) (.ref tp)) (q.put b f n)→Q (.int ((b*q.P+f:Nat):Int)) H')
theorem StAt.put{H H':Hp}{x:Sto}{r2 r3 r4 r5:V}{m m':CM}{q:QM}(h:StAt t H x r2 r3 r4 r5 m q)(hc:ChipAt t.C_Chip H' x.c x.a m')(k:Keep (foot x.c x.a) H H')(e1:m'.bl=m.bl)(e2:m'.pg=m.pg):StAt t H' x r2 r3 r4 r5 m' q:=by(
have nf:∀b∈bf x.k,b∉foot x.c x.a:=λb hb z=>h.d1 b (kF _ z) hb
have n2:∀b∈[x.s,x.tm],b∉foot x.c x.a:=λb hb z=>h.d2 b hb (by unfold sf;exact kU _ z)
obtain⟨ps,hT,hc'⟩:=h.tb
have nT:t.aT∉foot x.c x.a:=λz=>h.nT t.aT (by simp[sf,z]) (by simp)
refine⟨k.k _ _ (n2 _ (by simp)) h.o,by rw[e1,e2];exact k.k _ _ (n2 _ (by simp)) h.te,hc,h.bk.keep k nf,⟨ps,k.k _ _ nT hT,?_⟩,h.ds,h.d1,h.d2⟩
rcases hc' with z|⟨c,z,hcd⟩
·exact .inl z
refine .inr ⟨c,z,k.k _ _ (λy=>?_) hcd⟩
have y:c=x.c∨c=x.a.bo∨c=x.a.cl∨c=x.a.dc∨c=x.a.br∨c=x.a.rc:=by simpa[foot]using y
obtain⟨rs,er,_⟩:=h.ch.rc
rcases y with y|y|y|y|y|y<;>rw[y]at hcd
·rw[h.ch.ins]at hcd;cases hcd
·rw[h.ch.bo]at hcd;cases hcd
·rw[h.ch.cl]at hcd;cases hcd
·rw[h.ch.dc]at hcd;cases hcd
·rw[h.ch.br]at hcd;cases hcd
rw[er]at hcd;cases hcd)
theorem StAt.note{H H':Hp}{x:Sto}{r2 r3 r4 r5:V}{m:CM}{q q':QM}(h:StAt t H x r2 r3 r4 r5 m q)(hb:BkAt t H' x.k q')(k:Keep (bf x.k) H H'):StAt t H' x r2 r3 r4 r5 m q':=by(
have n2:∀b∈[x.s,x.tm],b∉bf x.k:=λb hb z=>h.d2 b hb (by unfold sf;exact kM _ z)
obtain⟨ps,hT,hc'⟩:=h.tb
have nT:t.aT∉bf x.k:=λz=>h.nT t.aT (by simp[sf,z]) (by simp)
refine⟨k.k _ _ (n2 _ (by simp)) h.o,k.k _ _ (n2 _ (by simp)) h.te,h.ch.keep k h.d1,hb,⟨ps,k.k _ _ nT hT,?_⟩,h.ds,h.d1,h.d2⟩
rcases hc' with z|⟨c,z,hcd⟩
·exact .inl z
refine .inr ⟨c,z,k.k _ _ (λy=>?_) hcd⟩
have y:c=x.k.bk∨c=x.k.wv∨c=x.k.lv∨c=x.k.fi∨c=x.k.bo:=by simpa[bf]using y
rcases y with y|y|y|y|y<;>rw[y]at hcd
·rw[h.bk.o]at hcd;cases hcd
·rw[h.bk.w]at hcd;cases hcd
·rw[h.bk.l]at hcd;cases hcd
·rw[h.bk.f]at hcd;cases hcd
rw[h.bk.b]at hcd;cases hcd)
theorem q4D(T:Txt K mg t)(S:Fns K t)(B:BmIn base mg):S.fO.OkE P w mg base 10 (qH4 t):=by(
refine S.fO.F.okE q07 (λvs H Q E h=>?_) (λcdv A outer s H vs Q E hr h=>?_)
·repeat obtain⟨_,h⟩:=h
 all_goals subst_vars;rfl
obtain⟨x,r2,r3,r4,r5,m,q,n,v,rfl,hs,ft,gd,hrc,k⟩:=h
refine⟨_,(qB (qW (i:=3) q07.nd rfl (Or.inl rfl) (jL (pv 0) T.aU T.aB7 (q79 T S B).mono hr S.tH.b .nil qQ)) (qB (qV (qN qAO (pv 3) uO (qO _)) (qC jC) qL) (qB (jD (jB jE (qM (pv 0) rfl) T.aV T.aC6 (qAD T S).mono hr S.aBN.b .nil (qA (pv 3) (qA (q2F (qA (yO (qM (pv 0) rfl) T.bB T.aCR (q96 T S).mono hr S.aAI.b .nil qQ (qA (pv 1) qE)) (qA (pv 2) qE))) qE q67)))) (qB (jD (yO (qM (pv 0) rfl) T.bB T.aCQ (q97 T S).mono hr S.aA1.b .nil qQ (qA (pv 3) (qA (pv 1) qE)))) (qC (qP (pv 3))))))),?_⟩
try dsimp-beta-proj-iota-zeta-eta only[wishK,cxK]
refine⟨_,rfl,x.s,x.sd,_,rfl,hs.o,rfl,x,r2,r3,r4,r5,m,q,rfl,hs,ft,λl H1 hl k1 tb1=>?_⟩
have hs1:=hs.kT k1 tb1
obtain⟨b,f,hsp,ef,hn,dk,kk⟩:=k l hl
rw[hsp]
obtain⟨hB,hbr,f0,f1⟩:=qA4 hl ft.oq.p1 hsp
have hf:f<q.P:=by lia
have epg:pgV q.P q.fi (some b)=V.int ((b*q.P+f:Nat):Int):=by show V.int ((b:Int)*(q.P:Int)+q.fi.getD b 0)=_;rw[ef,wQ,rJ]
rw[epg]
refine⟨_,rfl,rfl,_,rfl,iteF ?_⟩
refine(iV rfl (iF hs1.o T.aU T.aX rfl (iM hs1.ch.ins rfl ⟨_,rfl,?_⟩)))
refine(iV rfl (iF hs1.o T.aU T.bD rfl (iM hs1.bk.o rfl ⟨_,rfl,x.k,q,n,rfl,hs1.bk,_,rfl,sz2,λtp H2 n2 s2 e2=>?_⟩)))
have hs2:=hs1.same s2
have hpg:((b*q.P+f:Nat):Int)≤m.bl*m.pg-1:=by rw[ft.eB,ft.eP,←rJ];have:b*q.P+f<q.B*q.P:=(Nat.div_lt_iff_lt_mul (by lia)).mp (by rw[q8O hf];exact hB);lia
refine⟨x.c,x.a,m,_,.ref tp,rfl,hs2.ch,ft.ok,hrc,gd,hpg,hn,λz=>dk z H2 ((k1.mono (by simp)).trans (Keep.same s2)) hs2,λz H3 hc3 k3=>?_⟩
have hs3:=hs2.put hc3 k3 rfl rfl
refine(iV rfl (iF hs3.o T.aU T.bD rfl (iM hs3.bk.o rfl ⟨_,rfl,_,rfl,x.k,q,b,f,n,rfl,hs3.bk,ft.oq,hs3.ds,hB,hf,ef,λH4 hb4 k4=>⟨_,rfl,?_⟩⟩)))
exact kk z tp H4 (k4.tp _ _ (k3.tp _ _ e2)) ((((k1.mono (by simp)).trans (Keep.same s2)).trans (k3.mono (λb hb=>by unfold sf;exact kF _ (kU _ hb)))).trans (k4.mono (λb hb=>by unfold sf;exact kF _ (kM _ hb)))) (hs3.note hb4 k4))
theorem q4E(T:Txt K mg t)(S:Fns K t)(B:BmIn base mg):S.o7.OkE P w mg base 11 (qH4 t):=by(
refine S.o7.F.okE q91 (λvs H Q E h=>?_) (λcdv A outer s H vs Q E hr h=>?_)
·repeat obtain⟨_,h⟩:=h
 all_goals subst_vars;rfl
obtain⟨x,r2,r3,r4,r5,m,q,n,v,rfl,hs,k⟩:=h
refine⟨_,(qC (qP (jB jE (pv 0) T.aU T.t7 (q4D T S B).mono hr S.fO.b .nil (qA (pv 1) (qA (pv 2) qE))))),?_⟩
try dsimp-beta-proj-iota-zeta-eta only[wishK,cxK]
exact⟨_,rfl,x.s,x.sd,_,rfl,hs.o,rfl,_,rfl,_,rfl,x,r2,r3,r4,r5,m,q,n,v,rfl,hs,k⟩)
theorem bor(a b:Nat):Builtin.bitOr (a:Int) (b:Int)=((a|||b:Nat):Int):=by(
have e:∀c:Nat,Builtin.bitNot (Builtin.bitNot (c:Int))=(c:Int):=λc=>by unfold Builtin.bitNot;lia
have n:∀c:Nat,decide (0≤Builtin.bitNot (c:Int))=false:=λc=>hG (by unfold Builtin.bitNot;lia)
unfold Builtin.bitOr Builtin.bitAnd
rw[n a,n b]
show Builtin.bitNot (Builtin.bitNot (((Builtin.bitNot (Builtin.bitNot (a:Int))).toNat|||(Builtin.bitNot (Builtin.bitNot (b:Int))).toNat:Nat):Int))=_
rw[e,e a,e b,mY,mY])
noncomputable abbrev vN(ks:List Nat):List V:=ks.map λ(k:Nat)=>V.int (k:Int)
noncomputable def spBo(K:W.Frag):Sp:=λvs H Q _=>∃l ss,vs=[.ref l]∧SqL K H l (vN ss)∧(∀s∈ss,s<64)∧Q (.int ((orB ss 0:Nat):Int)) H
theorem qAE(s:Nat):∀(l:List Nat) (b:Nat),orB (l++[s]) b=orB l b|||2 ^ s
| [],b=>rfl
|x::r,b=>qAE s r _
theorem qBE(T:Txt K mg t)(S:Fns K t):S.aC0.Ok0 P w mg base 1 (spBo K):=by(
refine S.aC0.F.ok0 q1E λcdv A _ s H vs Q E hr h=>?_
obtain⟨l,ss,rfl,hl,hs,q⟩:=h
refine⟨_,(qB (qW (i:=1) q1E.nd rfl (Or.inl rfl) qJ) (qB (uH gF rfl (jV (pv 0)) (qZ (i:=2) q1E.nd rfl (Or.inl rfl)) (qC (qW (i:=1) q1E.nd rfl (Or.inl rfl) (qT qJM (pv 1) (qT qHE qJ (pv 2)))))) (qC (qP (pv 1))))),?_⟩
try dsimp-beta-proj-iota-zeta-eta only[wishK,cxK]
refine⟨_,rfl,l,rfl,⟨_,hl⟩,?_⟩
refine vM (K:=K) (xs:=vN ss) (λi σ' H2=>∃y,σ'=[some (.ref l),some (.int ((orB (ss.take i) 0:Nat):Int)),y]∧H2=H) ⟨_,rfl,rfl⟩ (λi σ' H2 hi hp=>?_) (λi x σ' H2 hx hp=>?_) (λσ' H2 hp=>?_)
·obtain⟨y,rfl,rfl⟩:=hp;exact hl
·obtain⟨y,rfl,rfl⟩:=hp;rw[kX]at hx;obtain⟨n,hn,rfl⟩:=mO.mp hx;obtain⟨hi,rfl⟩:=hV.mp hn;have:=hs _ (rS hi);refine⟨_,rfl,_,rfl,_,_,rfl,rfl,⟨by lia,by lia,by decide⟩,_,_,rfl,rfl,?_⟩;have e:(1:Int)*2 ^ ((ss[i]:Nat):Int).toNat=((2 ^ ss[i]:Nat):Int):=by rw[Int.one_mul,mY];exact(Int.natCast_pow 2 _).symm
 try dsimp only
 rw[e,bor];refine⟨some (.int ((ss[i]:Nat):Int)),?_,rfl⟩;rw[←mC hi,qAE];rfl
obtain⟨y,rfl,rfl⟩:=hp
rw[show(vN ss).length=ss.length by simp[vN],mW]
exact⟨_,rfl,q⟩)
noncomputable def hdN(W:Mp):List Int:=(W.map (·.1)).filter λn=>decide (n≠64)
noncomputable def spHe(t:Adr):Sp:=λvs H Q _=>∃a,∃m:QM,vs=[.ref a.bk]∧BkAt t H a m∧m.Ok∧(hdN m.V).length<64∧∀l ns H',Same H H'→H l=none→H' l=some (.lst (List.map V.int ns))→ns.Perm (hdN m.V)→ns.Pairwise (·≤·)→Q (.ref l) H'
theorem q98(T:Txt K mg t)(S:Fns K t):S.aAV.Ok0 P w mg base 1 (spHe t):=by(
refine S.aAV.F.ok0 q90 λcdv A _ s H vs Q E hr h=>?_
obtain⟨a,m,rfl,hb,ok,hl64,q⟩:=h
have hu:=v5 hr
have lV:m.V.length≤65:=ok.lenV
refine⟨_,(qC (qP (qS q8J (by rfl) T.o9 (by kernel_rfl) (qA (q8L (yW ["name"] [] rfl (qC4 (qM (pv 0) rfl)) (λ_ _ _ _ _=>(qZ (i:=0) (show List.Nodup (["name"]:List Str)from by decide) rfl (Or.inl rfl))) (λ_ _ _ _ _=>(q06 (qN q2R (pv 0) (uN rfl T.aDG ⟨_,rfl⟩ (v:=.int 64)) (qO _)))) (λ_ _ _ _ _=>(pv 0)) (by kernel_rfl) (jY (by decide)))) qE)))),?_⟩
try dsimp-beta-proj-iota-zeta-eta only[wishK,cxK]
refine⟨a.wv,_,hb.w,_,rfl,a.bk,_,a.dx,_,_,rfl,hb.o,T.bB,T.bP,rfl,a.wv,_,rfl,hb.w,λo D H2 nD s2 hD=>?_⟩
have kk:∀x u,x≠a.wv→H x=some u→H2 x=some u:=λx u nx e=>s2 _ _ (by rw[qD nx];exact e)
have fz:H2 a.wv=some (.frz o (.dK (dI m.V))):=s2 _ _ qF
have Dw:D≠a.wv:=λz=>by rw[z,fz]at hD;cases hD
have nDH:H D=none:=by rw[qD Dw]at nD;exact nD
refine qA1 (D:=D) (λi H3=>H3 a.wv=some (.frz o (.dK (dI m.V)))∧(∀x u,x≠a.wv→H x=some u→H3 x=some u)∧H3 D=some (.lst ((hdN (m.V.take i)).map V.int))) ⟨fz,kk,hD⟩ (λi H3 hp=>hp.1) (λi kv H3 hk hp=>?_) (λH3 hp=>?_)
·obtain⟨fz3,k3,hd⟩:=hp;have hi:i<m.V.length:=by have:=(hV.mp hk).1;rw[q0M]at this;exact this
 obtain rfl:((Sum.inl m.V[i].1:Key),V.int m.V[i].2)=kv:=by
  have e:(dI m.V)[i]?=some ((Sum.inl m.V[i].1:Key),V.int m.V[i].2):=by unfold dI;rw[kX,hZ hi];rfl
  rw[e]at hk;exact kI hk
 have tk:m.V.take (i+1)=m.V.take i++[m.V[i]]:=(mC hi).symm;show zB _ (V.int m.V[i].1) _ _ _;refine⟨_,rfl,rfl,_,rfl,?_⟩;rw[q66];by_cases e:m.V[i].1=64
 ·rw[hI e];refine iteF ?_;refine⟨fz3,k3,?_⟩;have:hdN (m.V.take (i+1))=hdN (m.V.take i):=by unfold hdN;rw[tk,mB,gZ];simp[e]
  rw[this];exact hd
 rw[hG e];refine iteT ?_;refine⟨_,rfl,_,hd,?_,?_,λx u nx e'=>?_,?_⟩
 ·rw[hU];have l2:(hdN (m.V.take i)).length≤65:=by unfold hdN;refine mJ (mF _ _) ?_;rw[hU,m9];lia
  have:(65:Nat)<sizeLine:=by decide
  lia
 ·rw[qD Dw.symm];exact fz3
 ·rw[qD (qG e' nDH)];exact k3 _ _ nx e'
 have:hdN (m.V.take (i+1))=hdN (m.V.take i)++[m.V[i].1]:=by unfold hdN;rw[tk,mB,gZ];simp[e]
 rw[qF,this,mB];rfl
obtain⟨fz3,k3,hd⟩:=hp
rw[q0M,mW]at hd
refine⟨o,_,fz3,?_⟩
have sH:Same H (upd H3 a.wv (.dK (dI m.V))):=qB6 hb.w k3
have hd4:(upd H3 a.wv (.dK (dI m.V))) D=some (.lst ((hdN m.V).map V.int)):=by rw[qD Dw];exact hd
generalize upd H3 a.wv (.dK (dI m.V))=H4 at sH hd4 ⊢
refine⟨D,hdN m.V,rfl,SqL.of hd4,by lia,λns pp pw l H5 n5 s5 h5=>?_⟩
exact q l ns H5 (sH.trans s5) (sH.free n5) h5 pp pw)
structure HeldIs(q:QM)(ns:List Int):Prop where
pm:ns.Perm (hdN q.V)
so:ns.Pairwise (·≤·)
noncomputable def spHd(t:Adr):Sp:=λvs H Q _=>∃x r2 r3 r4 r5 m q,vs=[.ref x.s]∧StAt t H x r2 r3 r4 r5 m q∧Fit m q∧(hdN q.V).length<64∧∀l ns H',HeldIs q ns→Same H H'→H l=none→H' l=some (.lst (List.map V.int ns))→Q (.ref l) H'
theorem vL(T:Txt K mg t)(S:Fns K t):S.fA.Ok0 P w mg base 2 (spHd t):=by(
refine S.fA.F.ok0 q76 λcdv A _ s H vs Q E hr h=>?_
obtain⟨x,r2,r3,r4,r5,m,q,rfl,hs,ft,h64,k⟩:=h
refine⟨_,(qC (qP (jL (qM (pv 0) rfl) T.bB T.aCL (q98 T S).mono hr S.aAV.b .nil qQ))),?_⟩
try dsimp-beta-proj-iota-zeta-eta only[wishK,cxK]
exact(iV rfl (iF hs.o T.aU T.bD rfl (iM hs.bk.o rfl ⟨x.k,q,rfl,hs.bk,ft.oq,h64,λl ns H' s' n' h' pm so=>k l ns H' ⟨pm,so⟩ s' n' h'⟩))))
noncomputable def spCs(t:Adr):Sp:=λvs H Q E=>∃x r3 r4 r5 m q v,∃sh:Int,vs=[.ref x.s,v]∧StAt t H x (.int sh) r3 r4 r5 m q∧Knd H v∧(if inB v 0 (sh-1)=true then Q .non H else False)
theorem uC(T:Txt K mg t)(S:Fns K t):S.bJ.Ok0 P w mg base 3 (spCs t):=by(
refine S.bJ.F.ok0 q29 λcdv A _ s H vs Q E hr h=>?_
obtain⟨x,r3,r4,r5,m,q,v,sh,rfl,hs,kn,k⟩:=h
refine⟨_,(qC (qV (jZ (jI (qX (jO T S).mono hr rfl T.a9 T.bA S.bG.b .nil qQ (qA (pv 1) (qA qJ (qA (qT uY (qM (qM (pv 0) rfl) rfl) qJ) qE)))))) (qC jC) qL)),?_⟩
try dsimp-beta-proj-iota-zeta-eta only[wishK,cxK]
refine⟨_,rfl,iV rfl (iF hs.o T.aU T.bF rfl (iF hs.te T.bE T.fE rfl (iI ⟨v,_,_,rfl,kn,_,rfl,?_⟩)))⟩
cases z:inB v 0 (sh-1)with
|true=>rw[z,kG rfl]at k;exact iteF k
|false=>rw[z,kE (by decide)]at k;exact k.elim)
theorem q5D(T:Txt K mg t)(S:Fns K t):S.t9.Ok0 P w mg base 3 (λvs H Q _=>∃v,vs=[v]∧Knd H v∧Q (.bl (inB v 0 (10 ^ 30-1))) H):=by(
refine S.t9.F.ok0 qAC λcdv A _ s H vs Q E hr h=>?_
obtain⟨v,rfl,kn,k⟩:=h
refine⟨_,(qC (qP (qX (jO T S).mono hr rfl T.a9 T.bA S.bG.b .nil qQ (qA (pv 0) (qA qJ (qA (qT uY (qT qAM qJ qJ) qJ) qE)))))),?_⟩
try dsimp-beta-proj-iota-zeta-eta only[wishK,cxK]
exact⟨_,rfl,_,_,rfl,rfl,⟨by decide,by decide,by decide⟩,_,_,rfl,rfl,v,_,_,rfl,kn,k⟩)
noncomputable def hold(q:QM)(s:Int):Bool:=decide (s∈hdN q.V)
theorem q08{s:Int}:∀{ns:List Int},inV (.int s) (ns.map V.int)=decide (s∈ns)
| []=>rfl
|n::r=>by
 have ih:=q08 (s:=s) (ns:=r);unfold inV at ih ⊢;rw[mZ,wD,ih];by_cases e:n=s
 ·subst e;simp[eqV]
 have e':¬s=n:=λz=>e z.symm;simp[eqV,e,e']
theorem q4F{ns:List Int}:(ns.map V.int).all zS=true:=by(
rw[gT]
intro v hv
obtain⟨n,_,rfl⟩:=kP.mp hv
rfl)
theorem HeldIs.hold{q:QM}{ns:List Int}(h:HeldIs q ns)(s:Int):decide (s∈ns)=hold q s:=by(
unfold W1.hold
by_cases z:s∈ns
·rw[hI z,hI (h.pm.mem_iff.mp z)]
rw[hG z,hG (λy=>z (h.pm.mem_iff.mpr y))])
noncomputable def spSh(t:Adr):Sp:=λvs H Q E=>∃x r2 r4 r5 m q,∃s sr:Int,vs=[.ref x.s,.int s]∧StAt t H x r2 (.int sr) r4 r5 m q∧Fit m q∧(hdN q.V).length<64∧∀H',Same H H'→if hold q s=false∧sr≤((hdN q.V).length:Int)then False else Q .non H'
theorem q2B(T:Txt K mg t)(S:Fns K t):S.eL.Ok0 P w mg base 4 (spSh t):=by(
refine S.eL.F.ok0 vT λcdv A _ s H vs Q E hr h=>?_
obtain⟨x,r2,r4,r5,m,q,s,sr,rfl,hs,ft,h64,k⟩:=h
refine⟨_,(qB (qW (i:=2) vT.nd rfl (Or.inl rfl) (jL (pv 0) T.aU T.fJ (vL T S).mono hr S.fA.b .nil qQ)) (qC (qV (PW.pt (zO (qN zI (pv 1) (pv 2) rfl) (zH (qN qBR (qS jJ (by rfl) T.fW mR (qA (pv 2) qE)) (qM (qM (pv 0) rfl) rfl) (qO _))))) (qC jC) qL))),?_⟩
try dsimp-beta-proj-iota-zeta-eta only[wishK,cxK]
refine⟨_,rfl,x.s,x.sd,_,rfl,hs.o,rfl,x,r2,.int sr,r4,r5,m,q,rfl,hs,ft,h64,λl ns H1 hn s1 n1 h1=>?_⟩
refine⟨_,rfl,_,rfl,?_⟩
refine⟨l,_,rfl,.inl (SqL.of h1),rfl,q4F,_,rfl,?_⟩
have kk:=k H1 s1
have e:inV (.int s) (ns.map V.int)=hold q s:=by rw[q08];exact hn.hold s
show if(!inV (.int s) (ns.map V.int))=true then _ else _
rw[e]
cases z:hold q s with
|true=>rw[z,kE (λy=>by cases y.1)]at kk;exact iteF kk
|false=>
 refine iteT ?_;refine⟨_,rfl,l,_,rfl,.inl (SqL.of h1),iV rfl (iF (hs.same s1).o T.aU T.bF rfl (iF (hs.same s1).te T.bE T.fN rfl (iI ⟨_,rfl,?_⟩)))⟩;rw[hU,hn.pm.length_eq];by_cases y:sr≤((hdN q.V).length:Int)
 ·rw[hI y];rw[kG ⟨z,y⟩]at kk;exact kk.elim
 rw[hG y];rw[kE (λw=>y w.2)]at kk;exact iteF kk)
theorem _root_.L2.ChipAt.has{C c:Addr}{a:CA}{m:CM}{H:Hp}(h:ChipAt C H c a m){b:Addr}(hb:b∈a.li::foot c a):∃o,H b=some o∧(b≠c→∀C d f,o≠ .ins C d f):=by(
obtain⟨rs,er,_⟩:=h.rc
have hb:b=a.li∨b=c∨b=a.bo∨b=a.cl∨b=a.dc∨b=a.br∨b=a.rc:=by simpa[foot]using hb
rcases hb with rfl|rfl|rfl|rfl|rfl|rfl|rfl
·exact⟨_,h.li,λ_ _ _ _ z=>by cases z⟩
·exact⟨_,h.ins,λn=>absurd rfl n⟩
·exact⟨_,h.bo,λ_ _ _ _ z=>by cases z⟩
·exact⟨_,h.cl,λ_ _ _ _ z=>by cases z⟩
·exact⟨_,h.dc,λ_ _ _ _ z=>by cases z⟩
·exact⟨_,h.br,λ_ _ _ _ z=>by cases z⟩
exact⟨_,er,λ_ _ _ _ z=>by cases z⟩)
noncomputable def spPi(t:Adr):Sp:=λvs H Q E=>∃x dx tm td c a r2 r3 r4 r5,∃m:CM,∃B P:Nat,vs=[.ref x,.ref c,.ref tm]∧H x=some (.ins t.C_Plain dx [])∧H tm=some (.ins t.C_Terms td (teF (.int (B:Int)) (.int (P:Int)) r2 r3 r4 r5))∧ChipAt t.C_Chip H c a m∧m.bl=(B:Int)∧m.pg=(P:Int)∧B≤16∧TbF t H∧∀k H',StAt t H' ⟨x,dx,tm,td,c,a,k⟩ r2 r3 r4 r5 m (bk0 B P)→(∀b∈bf k,H b=none)→(∀b o,b≠x→H b=some o→H' b=some o)→Q .non H'
theorem q7A(T:Txt K mg t)(S:Fns K t):S.tI.Ok0 P w mg base 3 (spPi t):=by(
refine S.tI.F.ok0 q73 λcdv A _ s H vs Q E hr h=>?_
obtain⟨x,dx,tm,td,c,a,r2,r3,r4,r5,m,B,P',rfl,hx,htm,hc,eB,eP,hB,tb,k⟩:=h
refine⟨_,(qB (qV (PW.pt (q1G (qN q2R (qM (pv 2) rfl) (qM (pv 1) rfl) (qO _)) (q0A (qN q2R (qM (pv 2) rfl) (qM (pv 1) rfl) (qO _))))) (qC jC) qL) (qB (jS (pv 0) (pv 1) rfl) (qB (jS (pv 0) (pv 2) rfl) (qC (jS (pv 0) (q3O T.aD4 (q95 T S).mono hr rfl T.aD1 S.aA0.b .nil qQ (qA (qM (pv 1) rfl) (qA (qM (pv 1) rfl) qE))) rfl))))),?_⟩
try dsimp-beta-proj-iota-zeta-eta only[wishK,cxK]
refine⟨_,rfl,tm,_,td,_,_,rfl,htm,T.bE,T.eF,rfl,_,rfl,c,_,a.dx,_,_,rfl,hc.ins,T.aV,T.bR,rfl,rfl,_,rfl,?_⟩
rw[show(!decide (V.int (B:Int)=V.int m.bl))=false by rw[eB];simp]
refine iteF ?_
refine⟨_,rfl,tm,_,td,_,_,rfl,htm,T.bE,T.bU,rfl,_,rfl,c,_,a.dx,_,_,rfl,hc.ins,T.aV,T.b9,rfl,rfl,_,rfl,?_⟩
rw[show(!decide (V.int (P':Int)=V.int m.pg))=false by rw[eP];simp]
refine iteF ?_
refine⟨_,rfl,_,rfl,x,_,dx,_,rfl,hx,T.aU,T.aX,by decide,?_⟩
refine⟨_,rfl,_,rfl,x,_,dx,_,rfl,qF,T.aU,T.bF,by show 1<1000;decide,?_⟩
rw[q8A]
have tx:tm≠x:=jP htm hx (by intro z;injection z with z1 z2 z3;unfold teF at z3;cases z3)
have cx:c≠x:=jP hc.ins hx (by intro z;injection z with z1 z2 z3;unfold chF at z3;cases z3)
have k1:∀b o,b≠x→H b=some o→(upd H x (.ins t.C_Plain dx [("chip",.ref c),("terms",.ref tm)])) b=some o:=λb o nb e=>by rw[qD nb];exact e
have o1:(upd H x (.ins t.C_Plain dx [("chip",.ref c),("terms",.ref tm)])) x=some (.ins t.C_Plain dx [("chip",.ref c),("terms",.ref tm)]):=qF
have f1:∀b,(upd H x (.ins t.C_Plain dx [("chip",.ref c),("terms",.ref tm)])) b=none→H b=none:=λb e=>by
 by_cases z:b=x
 ·rw[z,qF]at e;cases e
 rw[qD z]at e;exact e
rw[show putF "terms" (.ref tm) (putF "chip" (.ref c) ([]:List (Str×V)))=([("chip",V.ref c),("terms",V.ref tm)]:List (Str×V))from rfl]
generalize upd H x (.ins t.C_Plain dx [("chip",.ref c),("terms",.ref tm)])=H1 at k1 o1 f1 ⊢
have hc1:=k1 _ _ cx hc.ins
refine⟨_,rfl,c,_,a.dx,_,_,rfl,hc1,T.aV,T.bR,rfl,_,rfl,c,_,a.dx,_,_,rfl,hc1,T.aV,T.b9,rfl,λk' kd nk nkd nn=>?_⟩
rw[eB,eP]
refine⟨k',kd,B,P',rfl,hB,qF,λka H3 e1 e2 hb3 ds fr up=>⟨rfl,?_⟩⟩
have s0:Same H1 (upd (upd H1 kd (.own k')) k' (.ins t.C_Book kd [])):=q8K nk nkd
have up':∀b o,H1 b=some o→H3 b=some o:=λb o e=>up b o (qG e nk) (s0 b o e)
refine⟨_,rfl,x,_,dx,_,rfl,up' _ _ o1,T.aU,T.bD,by show 2<1000;decide,?_⟩
have hx3:=up' _ _ o1
have kx:ka.bk≠x:=by rw[e1];exact(qG o1 nk).symm
have lH:∀b∈bf ka,H b=none:=λb hb=>by
 have hb:b=ka.bk∨b∈[ka.wv,ka.lv,ka.fi,ka.bo]:=by simpa[bf]using hb
 rcases hb with rfl|hb
 ·rw[e1];exact f1 _ nk
 exact f1 _ (Same.free s0 (fr b hb))
have kpx:∀b o,b≠x→H3 b=some o→(upd H3 x (.ins t.C_Plain dx (putF "book" (.ref k') [("chip",V.ref c),("terms",V.ref tm)]))) b=some o:=λb o nb e=>by rw[qD nb];exact e
have up2:∀b o,b≠x→H b=some o→(upd H3 x (.ins t.C_Plain dx (putF "book" (.ref k') [("chip",V.ref c),("terms",V.ref tm)]))) b=some o:=λb o nb e=>kpx b o nb (up' b o (k1 b o nb e))
have nx:∀{b:Addr} {o:HO},H3 b=some o→(∀C d fs,o≠ .ins C d fs)→b≠x:=fun {b o} e n z=>by rw[z,hx3]at e;exact n _ _ _ (kI e).symm
have cfx:∀b∈a.li::foot c a,b≠x:=λb hb z=>by
 obtain⟨o,e,no⟩:=hc.has hb;by_cases y:b=c
 ·exact cx (y.symm.trans z)
 rw[z,hx]at e;exact no y _ _ _ (kI e).symm
have kK:Keep [x] H (upd H3 x (.ins t.C_Plain dx (putF "book" (.ref k') [("chip",V.ref c),("terms",V.ref tm)]))):=⟨λb o nb e=>up2 b o (λz=>nb (by rw[z];simp)) e,λb xs e=>up2 b _ (λz=>by rw[z,hx]at e;cases e) e⟩
refine k ka _ ⟨?_,?_,?_,?_,?_,ds,?_,?_⟩ lH up2
·rw[e1];exact qF
·rw[eB,eP];exact up2 _ _ tx htm
·exact hc.keep kK (λb hb z=>cfx b hb (kJ.mp z))
·exact⟨kpx _ _ kx hb3.o,kpx _ _ (nx hb3.w (λ_ _ _ z=>by cases z)) hb3.w,kpx _ _ (nx hb3.l (λ_ _ _ z=>by cases z)) hb3.l,kpx _ _ (nx hb3.f (λ_ _ _ z=>by cases z)) hb3.f,kpx _ _ (nx hb3.b (λ_ _ _ z=>by cases z)) hb3.b⟩
·obtain⟨ps,hT,h⟩:=tb;refine⟨ps,up2 _ _ (λz=>by rw[z,hx]at hT;cases hT) hT,?_⟩;rcases h with h|⟨c',h,hcd⟩
 ·exact .inl h
 exact .inr ⟨c',h,up2 _ _ (λz=>by rw[z,hx]at hcd;cases hcd) hcd⟩
·intro b hb z;obtain⟨o,e,_⟩:=hc.has hb;rw[lH b z]at e;cases e
intro b hb z
have hb:b=x∨b=tm:=by simpa using hb
have y0:b∈foot c a∨b∈bf ka:=by simpa[sf]using z
clear z
rcases y0 with z|z
·rcases hb with rfl|rfl
 ·exact cfx _ (kF _ z) rfl
 obtain⟨o,e,no⟩:=hc.has (kF _ z);by_cases y:b=c
 ·rw[y,hc.ins]at htm;have htm:=kI htm;injection htm with z1 z2 z3
  unfold chF teF at z3;have:=rL List.length z3;simp at this
 rw[htm]at e;exact no y _ _ _ (kI e).symm
have n:=lH b z
rcases hb with rfl|rfl
·rw[hx]at n;cases n
rw[htm]at n;cases n)
noncomputable def RT(t:Adr)(H H':Hp):Prop:=∀b o,b≠t.aT→H b=some o→H' b=some o
theorem RT.of{H Hi:Hp}(s:Same H Hi):RT t H Hi:=λb o _ e=>s b o e
theorem RT.sq{H Hi:Hp}{ps:Array Value}{sa:Addr}{xs:List V}(r:RT t H Hi)(hT:H t.aT=some (.tbl ps))(h:SqL K H sa xs):SqL K Hi sa xs:=by(
rcases h with(h|⟨ob,h⟩)|h
·exact .inl (.inl (r _ _ (λz=>by rw[z,hT]at h;cases h) h))
·exact .inl (.inr ⟨ob,r _ _ (λz=>by rw[z,hT]at h;cases h) h⟩)
exact .inr h)
theorem qIY{B0 P1:Nat}(b2:B0≤16)(p1:1≤P1)(p2:P1≤16):(bk0 B0 P1).Ok:=by(
refine⟨p1,p2,b2,gI,gI,gI,by simp[bk0],λq hq=>absurd (show q∈([]:Mp)from hq) (by simp),λq hq=>absurd (show q∈([]:Mp)from hq) (by simp),λb hb=>⟨0,?_,mS _⟩⟩
show(List.replicate B0 (0:Int)).getD b 0=_
rw[rep8]
rfl)
theorem qGN{ns:List Int}{lo hi:Option Int}{i:Nat}{x:V}(h:(cutV (ns.map V.int) lo hi)[i]?=some x):∃n,x=.int n:=by(
have m1:=mT h
unfold cutV at m1
obtain⟨n,_,rfl⟩:=kP.mp (cO (cP m1))
exact⟨n,rfl⟩)
theorem q50{K:W.Frag}{H:Hp}{a b:Addr}{xs:List V}(ha:SqL K H a xs)(hb:SqL K H b xs)(f:xs.all zS=true):Eqv K H 6 (.ref a) (.ref b):=.lst ha hb rfl λj x y hx hy=>by  obtain rfl:x=y:=kI (hx.symm.trans hy);exact .flat (gT.mp f x (mT hx))
theorem jH{W:Mp}{x:Int}:x∈W.map (·.1)↔∃v,(x,v)∈W:=by(
constructor
·intro h;obtain⟨⟨a,b⟩,h1,rfl⟩:=kP.mp h;exact⟨b,h1⟩
rintro⟨v,h⟩
exact kP.mpr ⟨_,h,rfl⟩)
theorem q5U{V:Mp}{x:Int}:x∈hdN V↔(∃p,(x,p)∈V)∧x≠64:=by unfold hdN;rw[mQ,jH,kR]
theorem qIZ{V W:Mp}{s p v:Int}(ndV:(V.map (·.1)).Nodup)(ndW:(W.map (·.1)).Nodup)(pm:(hdN V).Perm (W.map (·.1)))(s64:s≠64):(hdN (yJ V s++[(s,p)])).Perm ((putW W s v).map (·.1)):=by(
have n1:((yJ V s++[(s,p)]).map (·.1)).Nodup:=by
 rw[mB];refine gA.mpr ⟨q3Z ndV,by simp,λa ha c hc=>?_⟩;obtain⟨q,hq,rfl⟩:=kP.mp ha;have hc:c=s:=by simpa using hc
 rw[hc];exact(jG.mp hq).2
refine q0X (n1.sublist g7) (q4M ndW) λx=>?_
rw[q5U,jH]
have hx:x∈hdN V↔x∈W.map (·.1):=pm.mem_iff
rw[q5U,jH]at hx
constructor
·rintro⟨⟨p',h⟩,h64⟩
 rcases mP.mp h with h|h
 ·obtain⟨h1,h2⟩:=jG.mp h;obtain⟨v',hv⟩:=hx.mp ⟨⟨p',h1⟩,h64⟩;exact⟨v',(vS ndW).mpr (.inr (jG.mpr ⟨hv,h2⟩))⟩
 obtain⟨rfl,rfl⟩:x=s∧p'=p:=by simpa using h
 exact⟨v,(vS ndW).mpr (.inl rfl)⟩
rintro⟨v',h⟩
rcases(vS ndW).mp h with h|h
·obtain⟨rfl,rfl⟩:x=s∧v'=v:=by simpa using h
 exact⟨⟨p,kM _ (by simp)⟩,s64⟩
obtain⟨h1,h2⟩:=jG.mp h
obtain⟨⟨p',hp⟩,h64⟩:=hx.mpr ⟨v',h1⟩
exact⟨⟨p',kU _ (jG.mpr ⟨hp,h2⟩)⟩,h64⟩)
structure PS(t:Adr)(H:Hp)(x:Sto)(so:Nat)(sr:Int)(m:CM)(q:QM)(n:Nat)(W:Mp)(dk:Bool):Prop where
st:StAt t H x (.int (so:Int)) (.int sr) (.int 0) (.int 1000000) m q
ft:Fit m q
br:m.br=List.replicate q.B false
cl:m.cl=List.replicate q.B 0
fi:q.fi=linF q.B q.P n
li:∀b,valV m.lim (Sum.inl b)=none
lf:m.lf=if dk then some 0 else none
nb:n≤q.B*q.P
rc:m.rc.length=n
cr:∀p:Nat,n≤p→m.bo.getD p .non=.non
nd:(W.map (·.1)).Nodup
pm:(hdN q.V).Perm (W.map (·.1))
kb:∀s∈W.map (·.1),0≤s∧s<(so:Int)
vl:∀s v,(s,v)∈W→∃p st mk,(s,p)∈q.V∧0≤p∧p≤m.bl*m.pg-1∧m.bo.getD p.toNat .non=.ref st∧H st=some (.tup [mk,.int v])
so1:so≤60
section
variable{H H':Hp}{x:Sto}{so:Nat}{sr:Int}{m:CM}{q:QM}{n:Nat}{W:Mp}{dk:Bool}
theorem PS.mv(h:PS t H x so sr m q n W dk)(st:StAt t H' x (.int (so:Int)) (.int sr) (.int 0) (.int 1000000) m q)(tp:∀b xs,H b=some (.tup xs)→H' b=some (.tup xs)):PS t H' x so sr m q n W dk:=by
 have vl':∀a b,(a,b)∈W→∃p st mk,(a,p)∈q.V∧0≤p∧p≤m.bl*m.pg-1∧m.bo.getD p.toNat .non=.ref st∧H' st=some (.tup [mk,.int b]):=λa b c=>by obtain⟨p,st,mk,a1,a2,a3,a4,a5⟩:=h.vl a b c;exact⟨p,st,mk,a1,a2,a3,a4,tp _ _ a5⟩
 exact { h with st:=st,vl:=vl' }
theorem PS.same(h:PS t H x so sr m q n W dk)(s:Same H H'):PS t H' x so sr m q n W dk:=h.mv (h.st.same s) λb xs e=>s _ _ e
theorem PS.kT(h:PS t H x so sr m q n W dk)(k:Keep [t.aT] H H')(tb:TbF t H'):PS t H' x so sr m q n W dk:=h.mv (h.st.kT k tb) λb xs e=>k.tp _ _ e
theorem PS.hold(h:PS t H x so sr m q n W dk)(s:Int):hold q s=decide (s∈W.map (·.1)):=by unfold W1.hold;exact gE.mpr h.pm.mem_iff
theorem PS.h64(h:PS t H x so sr m q n W dk):(hdN q.V).length<64:=by(
have so1:=h.so1
rw[h.pm.length_eq]
have:=qC9 (l:=W.map (·.1)) (m:=(List.range so).map λi:Nat=>(i:Int)) h.nd λz hz=>by have:=h.kb z hz;exact kP.mpr ⟨z.toNat,mH.mpr (by lia),by lia⟩
rw[hU (as:=List.range so),mU]at this
lia)
theorem PS.spot(h:PS t H x so sr m q n W dk){l:List Nat}(hl:FreeIs q.B m.br m.cl q.fi l):zX q.B q.P m.br q.fi l=if n<q.B*q.P then some (n / q.P)else none:=by rw[h.br,h.cl,h.fi]at hl;rw[h.br,h.fi];exact qEU h.ft.oq.p1 h.nb hl
theorem PS.at(h:PS t H x so sr m q n W dk)(hn:n<q.B*q.P):n / q.P<q.B∧q.fi.getD (n / q.P) 0=((n%q.P:Nat):Int)∧n / q.P*q.P+n%q.P=n∧n%q.P<q.P:=by obtain⟨a,b⟩:=qA6 h.ft.oq.p1 hn;obtain⟨c,d⟩:=q2L (P:=q.P) (n:=n) h.ft.oq.p1;exact⟨a,by rw[h.fi];exact b,c.symm,d⟩
theorem PS.gd(h:PS t H x so sr m q n W dk):Gd m:=⟨λb=>by rw[h.br];exact rep8,h.li⟩
theorem PS.lit(h:PS t H x so sr m q n W false):m.lf≠some 0:=λz=>by rw[h.lf]at z;cases z
theorem PS.drk(h:PS t H x so sr m q n W true):m.lf=some 0:=h.lf
theorem PS.wrote{F:List Addr}(h:PS t H x so sr m q n W false)(hn:n<q.B*q.P)(hn9:n<1000){s v:Int}{mk:V}{tp:Addr}(s0:0≤s)(s1:s<(so:Int))(st':StAt t H' x (.int (so:Int)) (.int sr) (.int 0) (.int 1000000) (putC m n (.ref tp)) (q.put (n / q.P) (n%q.P) s))
 (htp:H' tp=some (.tup [mk,.int v])) (k:Keep F H H'):PS t H' x so sr (putC m n (.ref tp)) (q.put (n / q.P) (n%q.P) s) (n+1) (putW W s v) false:=by(
obtain⟨a,b,c,d⟩:=h.at hn
have so1:=h.so1
have rc:=h.rc
have eB:=h.ft.eB
have eP:=h.ft.eP
have nbo:=h.ft.ok.nbo
have lbo:m.bo.length=q.B*q.P:=by rw[eB,eP,←rJ]at nbo;lia
have okd:(m.deed "put" (n:Int) ((n:Int) / m.pg) false).Ok:=h.ft.ok.deed (by lia)
have ok':CM.Ok (putC m n (.ref tp)):=⟨okd.bl1,okd.bl2,okd.pg1,okd.pg2,by show((m.bo.set n (.ref tp)).length:Int)=_;rw[gM];exact nbo,okd.ncl,okd.ndc,okd.nbr,okd.lim,okd.nrc⟩
refine⟨st',⟨ok',h.ft.oq.put a d b s0 (by lia),eB,eP⟩,h.br,h.cl,?_,h.li,by show m.lf.map _=none;rw[h.lf];rfl,hn,?_,λp hp=>?_,q4M h.nd,qIZ h.ft.oq.nd h.nd h.pm (by lia),λs' hs'=>?_,λs' v' hv=>?_,h.so1⟩
·show q.fi.set (n / q.P) (q.fi.getD (n / q.P) 0+1)=linF q.B q.P (n+1);rw[h.fi];exact qCD h.ft.oq.p1 hn
·show(m.rc++[_]).length=n+1;rw[mL,rc];rfl
·show(m.bo.set n (.ref tp)).getD p .non=.non;rw[zV,kE (λy=>by lia)];exact h.cr p (by lia)
·obtain⟨v',hv⟩:=jH.mp hs';rcases(vS h.nd).mp hv with hv|hv
 ·obtain⟨rfl,rfl⟩:s'=s∧v'=v:=by simpa using hv
  exact⟨s0,s1⟩
 exact h.kb s' (jH.mpr ⟨v',(jG.mp hv).1⟩)
rcases(vS h.nd).mp hv with hv|hv
·obtain⟨rfl,rfl⟩:s'=s∧v'=v:=by simpa using hv
 refine⟨(n:Int),tp,mk,?_,by lia,?_,?_,htp⟩
 ·refine kM _ ?_;rw[c];simp
 ·show(n:Int)≤m.bl*m.pg-1;rw[eB,eP,←rJ];lia
 show(m.bo.set n (.ref tp)).getD ((n:Int)).toNat .non=_;rw[show((n:Int)).toNat=n by lia,zV,kG ⟨rfl,by lia⟩]
obtain⟨h1,h2⟩:=jG.mp hv
obtain⟨p,st,mk',a1,a2,a3,a4,a5⟩:=h.vl s' v' h1
refine⟨p,st,mk',kU _ (jG.mpr ⟨a1,h2⟩),a2,a3,?_,k.tp _ _ a5⟩
show(m.bo.set n (.ref tp)).getD p.toNat .non=_
rw[zV,kE (λy=>by rw[←y.1,h.cr n (kH _)]at a4;cases a4)]
exact a4)
end
noncomputable def spWr(t:Adr):Sp:=λvs H Q E=>∃x so sr m q n W dk,∃s v:Int,vs=[.ref x.s,.int s,.int v]∧PS t H x so sr m q n W dk∧0≤s∧s<(so:Int)∧0≤v∧v<10 ^ 30∧n<q.B*q.P∧n<1000∧(s∈W.map (·.1)∨((W.length:Nat):Int)<sr)∧(dk=false→∀m' q' H',PS t H' x so sr m' q' (n+1) (putW W s v) false→q'.B=q.B→q'.P=q.P→(s,(n:Int))∈q'.V→Keep (t.aT::sf x) H H'→Q (.int (n:Int)) H')∧(dk=true→∀H',PS t H' x so sr m q n W true→Keep (t.aT::sf x) H H'→E (.ref t.C_PowerGone) none H')
theorem q6R(T:Txt K mg t)(S:Fns K t)(B:BmIn base mg):S.oS.OkE P w mg base 12 (spWr t):=by(
refine S.oS.F.okE q6L (λvs H Q E h=>?_) (λcdv A outer s H vs Q E hr h=>?_)
·repeat obtain⟨_,h⟩:=h
 all_goals subst_vars;rfl
obtain⟨x,so,sr,m,q,n,W,dk,s,v,rfl,h,s0,s1,v0,v1,nb,n9,hw,k,kd⟩:=h
refine⟨_,(qB (jD (yO (pv 0) T.aU T.b8 (uC T S).mono hr S.bJ.b .nil qQ (qA (pv 1) qE))) (qB (qV (jZ (jI (qX (q5D T S).mono hr rfl T.aAG T.aAZ S.t9.b .nil qQ (qA (pv 2) qE)))) (qC jC) qL) (qB (jD (yO (pv 0) T.aU T.oM (q2B T S).mono hr S.eL.b .nil qQ (qA (pv 1) qE))) (qB (jD (jL (pv 0) T.aU T.fG (zG T S B).mono hr S.bW.b .nil qQ)) (qC (qP (jB jE (pv 0) T.aU T.aAX (q4E T S B).mono hr S.o7.b .nil (qA (pv 1) (qA (pv 2) qE))))))))),?_⟩
try dsimp-beta-proj-iota-zeta-eta only[wishK,cxK]
have hs:=h.st
refine(iV rfl (iM hs.o rfl ⟨_,rfl,x,_,_,_,m,q,.int s,(so:Int),rfl,hs,.int _,?_⟩))
rw[kG (inBi s0 (by lia))]
refine⟨_,rfl,.int v,rfl,.int _,?_⟩
refine⟨_,rfl,?_⟩
rw[inBi v0 (by lia)]
refine iteF ?_
refine(iV rfl (iM hs.o rfl ⟨_,rfl,x,_,_,_,m,q,s,sr,rfl,hs,h.ft,h.h64,λH1 s1'=>?_⟩))
have lw:(hdN q.V).length=W.length:=by rw[h.pm.length_eq,hU]
rw[kE (λz=>by
 rw[h.hold,lw]at z;rcases hw with y|y
 ·exact absurd z.1 (by rw[hI y];decide)
 lia)]
have h1:=h.same s1'
refine(iV rfl (iM h1.st.o rfl ⟨x,_,_,_,_,m,q,rfl,h1.st,h1.ft,λl H2 hl k2 tb2=>?_⟩))
rw[h1.spot hl,kG nb]
refine iteT ?_
have h2:=h1.kT k2 tb2
refine(iV rfl (iM h2.st.o rfl ⟨_,rfl,_,rfl,x,_,_,_,_,m,q,s,v,rfl,h2.st,h2.ft,h2.gd,by rw[h.rc];lia,λl' hl'=>?_⟩))
obtain⟨a,b,c,d⟩:=h2.at nb
refine⟨n / q.P,n%q.P,by rw[h2.spot hl',kG nb],b,by rw[c];exact h.cr n (kH _),λz H3 k3 st3=>?_,λz tp H3 htp k3 st3=>?_⟩
·cases dk with
 |false=>exact absurd z h.lit
 |true=>exact kd rfl H3 (h2.mv st3 λb xs e=>k3.tp _ _ e) (((Keep.same s1').trans (k2.mono (by simp))).trans k3)
cases dk with
|true=>exact absurd h.drk z
|false=>have hin:(s,((n / q.P*q.P+n%q.P:Nat):Int))∈(q.put (n / q.P) (n%q.P) s).V:=kM _ (by simp);rw[c]at st3 hin ⊢;exact k rfl _ _ H3 (h2.wrote nb n9 s0 s1 st3 htp k3) rfl rfl hin (((Keep.same s1').trans (k2.mono (by simp))).trans k3))
noncomputable def spPR(t:Adr):Sp:=λvs H Q E=>∃x so sr m q n W dk,∃s:Int,vs=[.ref x.s,.int s]∧PS t H x so sr m q n W dk∧0≤s∧s<(so:Int)∧(s∉W.map (·.1)→∀H',Same H H'→Q .non H')∧(∀v,(s,v)∈W→∀H',Same H H'→if dk=true then E (.ref t.C_PowerGone) none H' else Q (.int v) H')
theorem q7B(T:Txt K mg t)(S:Fns K t):S.tE.OkE P w mg base 5 (spPR t):=by(
refine S.tE.F.okE q75 (λvs H Q E h=>?_) (λcdv A outer s H vs Q E hr h=>?_)
·repeat obtain⟨_,h⟩:=h
 all_goals subst_vars;rfl
obtain⟨x,so,sr,m,q,n,W,dk,s,rfl,h,s0,s1,kn,ky⟩:=h
have hu:=v5 hr
have hs:=h.st
refine⟨_,(qB (jD (yO (pv 0) T.aU T.b8 (uC T S).mono hr S.bJ.b .nil qQ (qA (pv 1) qE))) (qB (qV (qN zI (pv 1) (jL (pv 0) T.aU T.fJ (vL T S).mono hr S.fA.b .nil qQ) rfl) (qC (qP uO)) qL) (qC (qP (yF q1I (jB jE (qM (pv 0) rfl) T.aV T.oR (q1F T S).mono hr S.iW.b .nil (qA (qK hu (qM (qM (pv 0) rfl) rfl) (pv 1) (λ_ _=>rfl)) qE)) qJ (λ_ _=>rfl)))))),?_⟩
try dsimp-beta-proj-iota-zeta-eta only[wishK,cxK]
refine(iV rfl (iM hs.o rfl ⟨_,rfl,x,_,_,_,m,q,.int s,(so:Int),rfl,hs,.int _,?_⟩))
rw[kG (inBi s0 (by lia))]
refine⟨_,rfl,iV rfl (iM hs.o rfl ⟨x,_,_,_,_,m,q,rfl,hs,h.ft,h.h64,λl ns H1 hn s1 n1 h1=>?_⟩)⟩
have hs1:=hs.same s1
refine⟨l,_,rfl,.inl (SqL.of h1),rfl,q4F,_,rfl,?_⟩
have e:inV (.int s) (ns.map V.int)=decide (s∈W.map (·.1)):=by rw[q08,hn.hold s,h.hold]
show if(!inV (.int s) (ns.map V.int))=true then _ else _
rw[e]
by_cases y:s∈W.map (·.1)
·rw[hI y];obtain⟨v,hv⟩:=jH.mp y;obtain⟨p,st,mk,a1,a2,a3,a4,a5⟩:=h.vl s v hv;refine iteF ?_;refine(iV rfl (iF hs1.o T.aU T.aX rfl (iM hs1.ch.ins rfl (iV rfl (iF hs1.o T.aU T.bD rfl (iF hs1.bk.o T.bB T.bP rfl ⟨_,rfl,x.k.wv,.int p,rfl,?_,?_⟩))))))
 ·have:=DGet.k (k:=Sum.inl s) hs1.bk.w;rw[vK h.ft.oq.nd a1]at this;exact this
 have ky:=ky v hv H1 s1;refine⟨x.c,x.a,m,_,rfl,hs1.ch,h.ft.ok,a2,a3,λz=>?_,λz=>?_⟩
 ·cases dk with
  |false=>exact absurd z h.lit
  |true=>exact ky
 cases dk with
 |true=>exact absurd h.drk z
 |false=>rw[a4];exact(iT (k:=1) (v:=.int v) (SqT.of (s1 _ _ a5)) rfl ky)
rw[hG y]
exact iteT (kn y H1 s1))
noncomputable def gvn(ns ss:List Int):List Int:=ns.filter λn=>decide (n∈ss)
noncomputable def rst(ns g:List Int):List Int:=ns.filter λn=>!decide (n∈g)
noncomputable def yM(q:QM)(g:List Int):QM:=g.foldl QM.forget q
noncomputable def natL(ns:List Int):List Nat:=ns.map Int.toNat
theorem qF5:∀{ns:List Int},(∀n∈ns,0≤n)→ns.map V.int=vN (natL ns)
| [],_=>rfl
|n::r,h=>by have h0:=h n kO;show V.int n::r.map V.int=V.int ((n.toNat:Nat):Int)::vN (natL r);rw[qF5 (ns:=r) λx hx=>h x (kF _ hx),show((n.toNat:Nat):Int)=n by lia]
theorem qJ0{q:QM}(ok:q.Ok){n:Int}(h:n∈hdN q.V):0≤n∧n≤63:=by(
unfold hdN at h
obtain⟨h1,h2⟩:=mQ.mp h
obtain⟨p,hp,rfl⟩:=kP.mp h1
have:=ok.nm p hp
have:=gQ h2
lia)
theorem q6S{q:QM}(h:q.Ok):∀{g:List Int},(yM q g).Ok:=fun {g}=>by(
unfold yM
induction g generalizing q with
|nil=>exact h
|cons n r ih=>exact ih (h.forget n))
theorem StAt.off{H:Hp}{x:Sto}{r2 r3 r4 r5:V}{m:CM}{q:QM}(h:StAt t H x r2 r3 r4 r5 m q){p:Addr}(n:H p=none):p∉t.aT::sf x:=λz=>by(
obtain⟨rs,er,_⟩:=h.ch.rc
obtain⟨ps,hT,_⟩:=h.tb
have z:p=t.aT∨p=x.c∨p=x.a.bo∨p=x.a.cl∨p=x.a.dc∨p=x.a.br∨p=x.a.rc∨p=x.k.bk∨p=x.k.wv∨p=x.k.lv∨p=x.k.fi∨p=x.k.bo:=by simpa[sf,bf,foot]using z
rcases z with rfl|rfl|rfl|rfl|rfl|rfl|rfl|rfl|rfl|rfl|rfl|rfl
·rw[hT]at n;cases n
·rw[h.ch.ins]at n;cases n
·rw[h.ch.bo]at n;cases n
·rw[h.ch.cl]at n;cases n
·rw[h.ch.dc]at n;cases n
·rw[h.ch.br]at n;cases n
·rw[er]at n;cases n
·rw[h.bk.o]at n;cases n
·rw[h.bk.w]at n;cases n
·rw[h.bk.l]at n;cases n
·rw[h.bk.f]at n;cases n
rw[h.bk.b]at n;cases n)
theorem q99{q:QM}{g:List Int}{i:Nat}{n:Int}(h:g[i]?=some n):yM q (g.take (i+1))=(yM q (g.take i)).forget n:=by(
have hi:=(hV.mp h).1
obtain rfl:g[i]=n:=(hV.mp h).2
unfold yM
rw[←mC hi,xA]
rfl)
noncomputable def spGU(t:Adr):Sp:=λvs H Q E=>∃x r3 r4 r5 m q l0 ss,∃sh:Int,vs=[.ref x.s,.ref l0]∧StAt t H x (.int sh) r3 r4 r5 m q∧Fit m q∧(hdN q.V).length<64∧m.rc.length<1000000∧H l0=some (.lst (List.map V.int ss))∧(∀s∈ss,0≤s∧s≤sh-1)∧Gd m∧∀ns,HeldIs q ns→(if gvn ns ss=[]then ∀H',Same H H'→Q (.int 0) H' else ∀l,FreeIs q.B m.br m.cl q.fi l→∃b f:Nat,zX q.B q.P m.br q.fi l=some b∧q.fi.getD b 0=(f:Int)∧m.bo.getD (b*q.P+f) .non=.non∧(m.lf=some 0→∀H',Keep (t.aT::sf x) H H'→StAt t H' x (.int sh) r3 r4 r5 m q→E (.ref t.C_PowerGone) none H')∧(m.lf≠some 0→∀tp H',H' tp=some (.tup [.int (q.nx*128+64),.int ((orB (natL (rst ns (gvn ns ss))) 0:Nat):Int)])→Keep (t.aT::sf x) H H'→StAt t H' x (.int sh) r3 r4 r5 (putC m (b*q.P+f) (.ref tp)) (yM (q.put b f 64) (gvn ns ss))→Q (.int ((gvn ns ss).length:Nat)) H'))
theorem q51(T:Txt K mg t)(S:Fns K t)(B:BmIn base mg):S.iA.OkE P w mg base 12 (spGU t):=by(
refine S.iA.F.okE yT (λvs H Q E h=>?_) (λcdv A outer s H vs Q E hr h=>?_)
·repeat obtain⟨_,h⟩:=h
 all_goals subst_vars;rfl
obtain⟨x,r3,r4,r5,m,q,l0,ss,sh,rfl,hs,ft,h64,hrc,hl0,ks,gd,k⟩:=h
have hu:=v5 hr
refine⟨_,(qB (uH xD rfl (jV (pv 1)) (qZ (i:=2) yT.nd rfl (Or.inl rfl)) (qC (jD (yO (pv 0) T.aU T.b8 (uC T S).mono hr S.bJ.b .nil qQ (qA (pv 2) qE))))) (qB (qW (i:=3) yT.nd rfl (Or.inl rfl) (jL (pv 0) T.aU T.fJ (vL T S).mono hr S.fA.b .nil qQ)) (qB (qW (i:=4) yT.nd rfl (Or.inr rfl) (yW ["sheets","sheet"] [1] rfl (jV (pv 3)) (λ_ _ _ _ _=>(qZ (i:=1) (show List.Nodup (["sheets","sheet"]:List Str)from by decide) rfl (Or.inl rfl))) (λ_ _ _ _ _=>(q06 (qN (q36 (K:=K) rfl) (pv 1) (pv 0) rfl))) (λ_ _ _ _ _=>(pv 1)) (by kernel_rfl) (jY (by decide)))) (qB (qV (qN (qAY hr.units) (pv 4) (jX qE) (qO _)) (qC (qP qJ)) qL) (qB (jD (jL (pv 0) T.aU T.fG (zG T S B).mono hr S.bW.b .nil qQ)) (qB (jD (jB jE (pv 0) T.aU T.aAX (q4E T S B).mono hr S.o7.b .nil (qA (uN rfl T.aDG ⟨_,rfl⟩ (v:=.int 64)) (qA (qX (qBE T S).mono hr rfl T.aC9 T.aDA S.aC0.b .nil qQ (qA (yW ["gone","sheet"] [4] rfl (jV (pv 3)) (λ_ _ _ _ _=>(qZ (i:=1) (show List.Nodup (["gone","sheet"]:List Str)from by decide) rfl (Or.inl rfl))) (λ_ _ _ _ _=>(q06 (qN (q6Y (K:=K) rfl) (pv 1) (pv 0) rfl))) (λ_ _ _ _ _=>(pv 1)) (by kernel_rfl) (jY (by decide))) qE)) qE)))) (qB (uH xD rfl (jV (pv 4)) (qZ (i:=2) yT.nd rfl (Or.inl rfl)) (qC (jD (yO (qM (pv 0) rfl) T.bB T.oY (q2A T S).mono hr S.fZ.b .nil qQ (qA (pv 2) qE))))) (qC (qP (qS jJ (by rfl) T.fW mR (qA (pv 4) qE))))))))))),?_⟩
try dsimp-beta-proj-iota-zeta-eta only[wishK,cxK]
refine⟨_,rfl,l0,rfl,⟨_,SqL.of hl0⟩,?_⟩
refine vM (K:=K) (xs:=ss.map V.int) (λi σ' H2=>∃y,σ'=[some (.ref x.s),some (.ref l0),y,none,none]∧H=H2) ⟨_,rfl,rfl⟩ (λi σ' H2 hi hp=>?_) (λi v σ' H2 hv hp=>?_) (λσ' H2 hp=>?_)
·obtain⟨y,rfl,rfl⟩:=hp;exact SqL.of hl0
·obtain⟨y,rfl,rfl⟩:=hp;obtain⟨s',hs',rfl⟩:=kP.mp (mT hv);refine(iV rfl (iM hs.o rfl ⟨_,rfl,x,r3,r4,r5,m,q,.int s',sh,rfl,hs,.int _,?_⟩));rw[kG (inBi (ks s' hs').1 (ks s' hs').2)];exact⟨_,rfl,rfl⟩
obtain⟨y,rfl,rfl⟩:=hp
refine(iV rfl (iM hs.o rfl ⟨x,.int sh,r3,r4,r5,m,q,rfl,hs,ft,h64,λhl ns H1 hn s1 n1 h1=>?_⟩))
have kk:=k ns hn
have lns:ns.length<64:=by rw[hn.pm.length_eq];exact h64
refine⟨_,rfl,hl,rfl,⟨_,SqL.of h1⟩,λD H2 nD s2 hD=>?_⟩
refine q1O (K:=K) (xs:=ns.map V.int) (D:=D) (λi H3=>Same H1 H3∧H3 D=some (.lst ((gvn (ns.take i) ss).map V.int))) ⟨s2,hD⟩ (λi H3 hp=>SqL.of (hp.1 _ _ h1)) (λi v H3 hv hp=>?_) (λH3 hp=>?_)
·obtain⟨sm,hd⟩:=hp;rw[kX]at hv;obtain⟨n,hw,rfl⟩:=mO.mp hv;have hi:=(hV.mp hw).1;have ev:=(hV.mp hw).2;refine⟨_,rfl,_,rfl,l0,_,rfl,.inl (SqL.of (sm _ _ (s1 _ _ hl0))),rfl,q4F,_,rfl,?_⟩;show if inV (.int n) (ss.map V.int)=true then _ else _;rw[q08];have eg:gvn (ns.take (i+1)) ss=gvn (ns.take i) ss++(if n∈ss then[n]else[]):=by
  unfold gvn;rw[←mC hi,gZ,ev,gP];by_cases z:n∈ss
  ·rw[hI z,kG z];rfl
  rw[hG z,kE z];rfl
 rw[eg];by_cases z:n∈ss
 ·rw[hI z,kG z];refine iteT ?_;refine⟨_,rfl,_,hd,?_,λb o e=>?_,?_⟩
  ·rw[hU];have l1:(gvn (ns.take i) ss).length≤(ns.take i).length:=mF _ _;rw[m9]at l1;have:(64:Nat)<sizeLine:=by decide
   lia
  ·rw[qD (qG e nD)];exact sm _ _ e
  rw[qF,mB];rfl
 rw[hG z,kE z,wC];exact iteF ⟨sm,hd⟩
obtain⟨sm,hd⟩:=hp
rw[hU,mW]at hd
have s03:Same H H3:=s1.trans sm
have hs3:=hs.same s03
refine⟨_,rfl,sz0,λe H4 n4 s4 h4=>⟨D,_,e,rfl,rfl,SqL.of (s4 _ _ hd),SqL.of h4,_,rfl,?_⟩⟩
have s04:=s03.trans s4
by_cases z:gvn ns ss=[]
·rw[kG z]at kk;rw[z];exact iteT (kk H4 s04)
rw[kE z]at kk
rw[hG (λy=>z (by cases hq:gvn ns ss with|nil=>rfl|cons a r=>rw[hq]at y;cases y))]
refine iteF ?_
have hs4:=hs3.same s4
refine(iV rfl (iM hs4.o rfl ⟨x,.int sh,r3,r4,r5,m,q,rfl,hs4,ft,λl H5 hfl k5 tb5=>?_⟩))
obtain⟨b,f,hsp,ef,hbo,kd,kk⟩:=kk l hfl
have k05:Keep [t.aT] H H5:=(Keep.same s04).trans k5
rw[hsp]
refine iteT ?_
have hs5:=hs4.kT k5 tb5
have hT:∀{p:Addr} {us:List V},H4 p=some (.lst us)→H5 p=some (.lst us):=fun {p us} e'=>k5.k _ _ (λw=>hs4.tb.ne e' (λ_ z=>by cases z) (kJ.mp w)) e'
have h1_5:=hT (s4 _ _ (sm _ _ h1))
have hd5:=hT (s4 _ _ hd)
refine(iV rfl (iM hs5.o rfl ?_))
refine⟨_,rfl,hl,rfl,⟨_,SqL.of h1_5⟩,λD2 H6 n6 s6 hD2=>?_⟩
refine q1O (K:=K) (xs:=ns.map V.int) (D:=D2) (λi H7=>Same H5 H7∧H7 D2=some (.lst ((rst (ns.take i) (gvn ns ss)).map V.int))) ⟨s6,hD2⟩ (λi H7 hp=>SqL.of (hp.1 _ _ h1_5)) (λi v H7 hv hp=>?_) (λH7 hp=>?_)
·obtain⟨sm7,hd7⟩:=hp;rw[kX]at hv;obtain⟨n,hw,rfl⟩:=mO.mp hv;have hi:=(hV.mp hw).1;have ev:=(hV.mp hw).2;refine⟨_,rfl,_,rfl,D,_,rfl,.inl (SqL.of (sm7 _ _ hd5)),rfl,q4F,_,rfl,?_⟩;show if(!inV (.int n) ((gvn ns ss).map V.int))=true then _ else _;rw[q08];have eg:rst (ns.take (i+1)) (gvn ns ss)=rst (ns.take i) (gvn ns ss)++(if n∈gvn ns ss then[]else[n]):=by
  unfold rst;rw[←mC hi,gZ,ev,gP];by_cases y:n∈gvn ns ss
  ·rw[hI y,kG y];rfl
  rw[hG y,kE y];rfl
 rw[eg];by_cases y:n∈gvn ns ss
 ·rw[hI y,kG y,wC];exact iteF ⟨sm7,hd7⟩
 rw[hG y,kE y];refine iteT ?_;refine⟨_,rfl,_,hd7,?_,λb o e=>?_,?_⟩
 ·rw[hU];have l1:(rst (ns.take i) (gvn ns ss)).length≤(ns.take i).length:=mF _ _;rw[m9]at l1;have:(64:Nat)<sizeLine:=by decide
  lia
 ·rw[qD (qG e n6)];exact sm7 _ _ e
 rw[qF,mB];rfl
obtain⟨sm7,hd7⟩:=hp
rw[hU,mW]at hd7
have inr:∀n∈rst ns (gvn ns ss),0≤n∧n≤63:=λn hn'=>qJ0 ft.oq (hn.pm.mem_iff.mp (mQ.mp hn').1)
rw[qF5 (λn hn'=>(inr n hn').1)]at hd7
refine⟨D2,_,rfl,SqL.of hd7,λs hs'=>?_,?_⟩
·obtain⟨n,hn',rfl⟩:=kP.mp hs';have:=inr n hn';lia
have hs7:=hs5.same sm7
refine⟨x,.int sh,r3,r4,r5,m,q,64,_,rfl,hs7,ft,gd,hrc,λl' hl'=>?_⟩
obtain rfl:=hfl.one hl'
have k07:Keep [t.aT] H H7:=k05.trans (Keep.same sm7)
refine⟨b,f,hsp,ef,hbo,λz H8 k8 st8=>kd z H8 ((k07.mono (by simp)).trans k8) st8,λz tp H8 htp k8 st8=>?_⟩
have kk:=kk z tp
have k08:Keep (t.aT::sf x) H H8:=(k07.mono (by simp)).trans k8
obtain⟨hB,hbr,f0,f1⟩:=qA4 hfl ft.oq.p1 hsp
have hf:f<q.P:=by lia
have dD:D∉t.aT::sf x:=(hs.same s1).off nD
have hd8:=k8.k _ _ dD (sm7 _ _ hd5)
have okp:=ft.oq.put (n:=64) hB hf ef (by decide) (by decide)
generalize putC m (b*q.P+f) (.ref tp)=m' at kk st8
refine⟨_,rfl,D,rfl,⟨_,SqL.of hd8⟩,?_⟩
refine vM (K:=K) (xs:=(gvn ns ss).map V.int) (λi σ' H'=>∃y',σ'=[some (.ref x.s),some (.ref l0),y',some (.ref hl),some (.ref D)]∧StAt t H' x (.int sh) r3 r4 r5 m' (yM (q.put b f 64) ((gvn ns ss).take i))∧Keep (bf x.k) H8 H') ⟨_,rfl,st8,Keep.refl⟩ (λi σ' H' hi hp=>?_) (λi v σ' H' hv hp=>?_) (λσ' H' hp=>?_)
·obtain⟨y',rfl,st,kb⟩:=hp;exact SqL.of (kb.k _ _ (λw=>dD (by simp[sf,w])) hd8)
·obtain⟨y',rfl,st,kb⟩:=hp;rw[kX]at hv;obtain⟨n,hw,rfl⟩:=mO.mp hv;refine(iV rfl (iF st.o T.aU T.bD rfl (iM st.bk.o rfl ⟨_,rfl,x.k,_,n,rfl,st.bk,q6S okp,st.ds,λH9 hb9 k9=>?_⟩)));have k9:Keep (bf x.k) H' H9:=k9.mono (by intro b hb;simp at hb;rcases hb with rfl|rfl<;>simp[bf]);refine⟨_,rfl,?_,kb.trans k9⟩;rw[q99 hw];exact st.note hb9 k9
obtain⟨y',rfl,st,kb⟩:=hp
rw[hU,mW]at st
have hd9:=kb.k _ _ (λw=>dD (by simp[sf,w])) hd8
refine⟨_,rfl,D,_,rfl,.inl (SqL.of hd9),?_⟩
rw[hU]
exact kk H' (kb.tp _ _ htp) (k08.trans (kb.mono (λb hb=>by simp[sf,hb]))) st)
noncomputable def lowC(c:Nat):Bool:=!decide (([c]:List Nat) < [97])&& !decide (([122]:List Nat) < [c])
noncomputable def isNm:V→Bool
| .str x=>decide (1≤x.length)&&decide (x.length≤8)&&x.cps.toList.all lowC
|_=>false
noncomputable def spNm:Sp:=λvs H Q _=>∃v,vs=[v]∧Knd H v∧(∀x,v=.str x→x.length≤100)∧∀H',Same H H'→Q (.bl (isNm v)) H'
theorem qBF(T:Txt K mg t)(S:Fns K t):S.aCN.Ok0 P w mg base 1 spNm:=by(
refine S.aCN.F.ok0 qBB λcdv A _ s H vs Q E hr h=>?_
obtain⟨v,rfl,kn,ln,k⟩:=h
refine⟨_,(qB (qV (PW.pt (q1G (jZ (jI (qS jK (by rfl) T.aY (by kernel_rfl) (qA (pv 0) (qA (vJ rfl T.aD6 (by kernel_rfl) rfl (v:=.ty "str")) qE))))) (q0A (jZ (q5Z q9I q9I qJ (qS q8F (by rfl) T.fW mR (qA (pv 0) qE)) qJ))))) (qC (qP q2Q)) qL) (qC (qP (qS (qD0 rfl) (by rfl) T.aD7 (by kernel_rfl) (qA (yW ["sign"] [] rfl (qIS (pv 0)) (λ_ _ _ _ _=>(qZ (i:=0) (show List.Nodup (["sign"]:List Str)from by decide) rfl (Or.inl rfl))) (λ_ _ _ _ _=>v6) (λ_ _ _ _ _=>(q9J q86 q86 qI (pv 0) qI)) (by kernel_rfl) (jY (by decide))) qE))))),?_⟩
try dsimp-beta-proj-iota-zeta-eta only[wishK,cxK]
obtain⟨ty,q,_,_,e3⟩:=kn.ty (K:=K)
refine⟨_,rfl,v,_,_,ty,_,rfl,rfl,.inl q,e3,_,rfl,?_⟩
cases v with
|str x=>
 have sz:(100:Nat)<sizeLine:=by decide
 have l1:=ln x rfl;refine iteF ?_;refine⟨_,rfl,_,rfl,by lia,_,_,rfl,rfl,_,rfl,?_⟩;have kk:∀H',Same H H'→Q (.bl (decide (1≤x.length)&&decide (x.length≤8)&&x.cps.toList.all lowC)) H':=k;by_cases z1:1≤x.length
 ·rw[hI (show(1:Int)≤(x.length:Int) by lia)];rw[hI z1]at kk;refine iteT (iI ⟨_,rfl,?_⟩);by_cases z2:x.length≤8
  ·rw[hI (show(x.length:Int)≤(8:Int) by lia)];rw[hI z2]at kk;refine iteF ?_;refine⟨_,rfl,x,rfl,λD H1 nD s1 hD=>?_⟩;refine qGI (D:=D) (λi H3=>Same H H3∧H3 D=some (.lst (((x.cps.toList.take i).map lowC).map V.bl))) ⟨s1,hD⟩ (λi c H3 hc hp=>?_) (λH3 hp=>?_)
   ·obtain⟨sm,hd⟩:=hp;have ci:i<x.cps.toList.length:=(hV.mp hc).1;have cl:x.cps.toList.length=x.length:=by simp[Str.length]
    have fin:∃vs,H3 D=some (HO.lst vs)∧vs.length<sizeLine∧Same H (upd H3 D (.lst (vs++[.bl (lowC c)])))∧upd H3 D (.lst (vs++[.bl (lowC c)])) D=some (.lst (((x.cps.toList.take (i+1)).map lowC).map V.bl)):=by
     refine⟨_,hd,by rw[hU,hU,m9];lia,λb o e=>?_,?_⟩
     ·rw[qD (qG e nD)];exact sm _ _ e
     rw[qF,q84 (f:=lowC) hc,mB];rfl
    refine⟨_,rfl,_,_,rfl,rfl,_,rfl,?_⟩;show if(!decide (([c]:List Nat) < [97]))=true then _ else _;rw[show lowC c=(!decide (([c]:List Nat) < [97])&& !decide (([122]:List Nat) < [c]))from rfl]at fin;cases z3:!decide (([c]:List Nat) < [97])with
    |true=>rw[z3,pO]at fin;exact iteT ⟨(⟨#[c]⟩:Str),(Str.ofString "z"),rfl,rfl,fin⟩
    |false=>rw[z3,sU]at fin;exact iteF fin
   obtain⟨sm,hd⟩:=hp;rw[mW]at hd;refine⟨D,_,rfl,SqL.of hd,?_⟩;have:=kk H3 sm;rw[aO];exact this
  rw[hG (show ¬(x.length:Int)≤(8:Int) by lia)];rw[hG z2]at kk;exact iteT (kk H (Same.refl H))
 rw[hG (show ¬(1:Int)≤(x.length:Int) by lia)];rw[hG z1]at kk;exact iteF ⟨_,rfl,iteT (kk H (Same.refl H))⟩
|_=>exact iteT (k H (Same.refl H)))
noncomputable def isF:V→Bool
| .int i=>decide (1≤i)
|_=>false
theorem q2C(T:Txt K mg t)(S:Fns K t):S.f9.Ok0 P w mg base 2 (λvs H Q _=>∃v,vs=[v]∧Knd H v∧Q (.bl (isF v)) H):=by(
refine S.f9.F.ok0 q6I λcdv A _ s H vs Q E hr h=>?_
obtain⟨v,rfl,kn,k⟩:=h
refine⟨_,(qC (qP (vA (qX (q5B T S).mono hr rfl T.aAJ T.aAS S.aAC.b .nil qQ (qA (pv 0) qE)) (uX (yC qBR (pv 0) qJ (qO _)))))),?_⟩
try dsimp-beta-proj-iota-zeta-eta only[wishK,cxK]
refine⟨_,rfl,v,rfl,kn,_,rfl,?_⟩
cases v with
|int i=>exact iteT ⟨_,rfl,iI k⟩
|_=>exact iteF k)
noncomputable def RwAt(H:Hp)(v:V)(x:Str)(c s:Int):Prop:=∃a,v=.ref a∧H a=some (.tup [.str x,.int c,.int s])
theorem RwAt.tp{H H':Hp}{v:V}{x:Str}{c s:Int}(h:RwAt H v x c s)(k:∀b xs,H b=some (.tup xs)→H' b=some (.tup xs)):RwAt H' v x c s:=by obtain⟨a,e,h⟩:=h;exact⟨a,e,k _ _ h⟩
noncomputable def qKH:Sp:=λvs H Q _=>∃v x c s,vs=[v]∧RwAt H v x c s∧isNm (.str x)=true∧1≤c∧1≤s∧∀H',Same H H'→Q .non H'
theorem q9A(T:Txt K mg t)(S:Fns K t):S.aAP.Ok0 P w mg base 3 qKH:=by(
refine S.aAP.F.ok0 q8V λcdv A _ s H vs Q E hr h=>?_
obtain⟨v,x,c,s',rfl,⟨a,rfl,ha⟩,nm,c1,s1,k⟩:=h
refine⟨_,(qB (qV (PW.pt (q1G (jZ (jI (qS jK (by rfl) T.aY (by kernel_rfl) (qA (pv 0) (qA (vJ rfl T.aDY (by kernel_rfl) rfl (v:=.ty "tuple")) qE))))) (q0A (qN q2R (qS jJ (by rfl) T.fW mR (qA (pv 0) qE)) qJ (qO _))))) (qC jC) qL) (qB (qV (jZ (jI (qX (qBF T S).mono hr rfl T.aC5 T.aC7 S.aCN.b .nil qQ (qA (yF q1I (pv 0) qJ (λ_ _=>rfl)) qE)))) (qC jC) qL) (qC (qV (PW.pt (q1G (jZ (jI (qX (q2C T S).mono hr rfl T.oH T.oG S.f9.b .nil qQ (qA (yF q1I (pv 0) qJ (λ_ _=>rfl)) qE)))) (q0A (jZ (jI (qX (q2C T S).mono hr rfl T.oH T.oG S.f9.b .nil qQ (qA (yF q1I (pv 0) qJ (λ_ _=>rfl)) qE))))))) (qC jC) qL)))),?_⟩
try dsimp-beta-proj-iota-zeta-eta only[wishK,cxK]
refine⟨_,rfl,.ref a,_,_,.type "tuple",_,rfl,rfl,.inl (.tup ha),qI9,_,rfl,iteF ?_⟩
refine⟨_,rfl,a,_,rfl,.inr (SqT.of ha),rfl,_,rfl,iteF ?_⟩
refine⟨_,rfl,iT (k:=0) (v:=.str x) (SqT.of ha) rfl ?_⟩
have l8:x.length≤8:=by unfold isNm at nm;simp at nm;exact nm.1.2
refine⟨.str x,rfl,.str x,λy e=>by cases e;lia,λH1 s1'=>⟨_,rfl,?_⟩⟩
rw[nm]
refine iteF ?_
have ha1:=s1' _ _ ha
refine⟨_,rfl,iT (k:=1) (v:=.int c) (SqT.of ha1) rfl ⟨.int c,rfl,.int c,_,rfl,?_⟩⟩
rw[show isF (.int c)=true from hI c1]
refine iteF ?_
refine⟨_,rfl,iT (k:=2) (v:=.int s') (SqT.of ha1) rfl ⟨.int s',rfl,.int s',_,rfl,?_⟩⟩
rw[show isF (.int s')=true from hI s1]
exact iteF (k H1 s1'))
theorem q52{K:W.Frag}{l D:Addr}{H1 H2:Hp}{us:List V}{n k:Nat}{g:Nat→V}{j:Int}{σ0:St}{R:Hp→Prop}(hk:k<σ0.length)(hl:H1 l=some (.lst us))(s2:Same H1 H2)(nD:H1 D=none)(hD:H2 D=some (.lst []))(ln:us.length=n)(n4:n≤100)
 (h:∀i,i<n→∃a xs,us[i]?=some (.ref a)∧H1 a=some (.tup xs)∧atI xs j=some (g i)) (hd:∀H3,Same H1 H3→H3 D=some (.lst ((List.range n).map g))→R H3):
 ∃W:Nat→Nat→Hp→Prop,(∃m,W 0 m H2)∧∀i m H3,W i m H3→((Itl K l).stop i H3∧R H3)∨((Itl K l).go i H3∧∃N:Hp→Prop,(∀H',N H'→∃m',m'<m∧W (i+1) m' H')∧∀x H4,(Itl K l).yld i H3 x H4→zB k x σ0 H4 λσ5 H5=>q1N σ5 H5 λb H6=>
   if b=true then tOp (rIxT K) (tVar k) (tC (.int j)) σ5 H6 (λv H7=>∃vs,H7 D=some (.lst vs)∧vs.length<sizeLine∧N (upd H7 D (.lst (vs++[v]))))else N H6):=by(
have sz:(100:Nat)<sizeLine:=by decide
refine q9W (K:=K) (xs:=us) (λi H3=>Same H1 H3∧H3 D=some (.lst ((List.range i).map g))) ⟨s2,hD⟩ (λi H3 hp=>SqL.of (hp.1 _ _ hl)) (λi x H3 hx hp=>?_) (λH3 hp=>?_)
·obtain⟨sm,hd⟩:=hp;have hi:i<n:=by rw[←ln];exact(hV.mp hx).1
 obtain⟨a,xs,e1,e2,e3⟩:=h i hi;rw[hx]at e1;cases e1;refine⟨_,by rw[wX hk],a,xs,j,g i,rfl,rfl,SqT.of (sm _ _ e2),e3,_,hd,by rw[hU,mU];lia,λb o e=>?_,?_⟩
 ·rw[qD (qG e nD)];exact sm _ _ e
 rw[qF,g9,mB];rfl
obtain⟨sm,hd'⟩:=hp
rw[ln]at hd'
exact hd H3 sm hd')
structure TabOk(n:Nat)(nm:Nat→Str)(ct sc:Nat→Nat):Prop where
n4:n≤4
u:Unl n nm
nm:∀i,i<n→isNm (.str (nm i))=true
c1:∀i,i<n→1≤ct i
s1:∀i,i<n→1≤sc i
noncomputable def Rws(H:Hp)(us:List V)(n:Nat)(nm:Nat→Str)(ct sc:Nat→Nat):Prop:=us.length=n∧∀i,i<n→∃v,us[i]?=some v∧RwAt H v (nm i) (ct i) (sc i)
theorem Rws.tp{H H':Hp}{us:List V}{n:Nat}{nm:Nat→Str}{ct sc:Nat→Nat}(h:Rws H us n nm ct sc)(k:∀b xs,H b=some (.tup xs)→H' b=some (.tup xs)):Rws H' us n nm ct sc:=⟨h.1,λi hi=>by
 obtain⟨v,e,r⟩:=h.2 i hi;exact⟨v,e,r.tp k⟩⟩
theorem Rws.same{H H':Hp}{us:List V}{n:Nat}{nm:Nat→Str}{ct sc:Nat→Nat}(h:Rws H us n nm ct sc)(k:Same H H'):Rws H' us n nm ct sc:=h.tp λb xs e=>k _ _ e
theorem Rws.at{H:Hp}{us:List V}{n:Nat}{nm:Nat→Str}{ct sc:Nat→Nat}(h:Rws H us n nm ct sc){i:Nat}(hi:i<n):∃a,us[i]?=some (.ref a)∧H a=some (.tup [.str (nm i),.int (ct i:Nat),.int (sc i:Nat)]):=by obtain⟨v,e,a,rfl,ha⟩:=h.2 i hi;exact⟨a,e,ha⟩
theorem q88{n:Nat}{nm:Nat→Str}(u:Unl n nm):(unl ((List.range n).map λi=>(Sum.inr (nm i):Key))).length=n:=by(
have nd:((List.range n).map λi=>(Sum.inr (nm i):Key)).Nodup:=by refine xB _ (λa b h=>h) (dL.mpr λi j hi hj hij=>?_);simp at hi hj ⊢;intro e;have:=u i j hi hj e;lia
have e:=qD9 (ks:=(List.range n).map λi=>(Sum.inr (nm i):Key))
have l1:=qCF (ks:=(List.range n).map λi=>(Sum.inr (nm i):Key))
have l2:=qC9 nd λx hx=>q8T.mpr hx
simp at l1 l2
lia)
noncomputable def qJ1(t:Adr):Sp:=λvs H Q _=>∃l us tm td n nm ct sc b p so sr i d,vs=[.ref l,.ref tm]∧H l=some (.lst us)∧Rws H us n nm ct sc∧TabOk n nm ct sc∧H tm=some (.ins t.C_Terms td (teF b p (.int so) (.int sr) i d))∧((fst ct n:Nat):Int)≤so∧((fst sc n:Nat):Int)≤sr∧∀H',Same H H'→Q .non H'
theorem q7C(T:Txt K mg t)(S:Fns K t):S.tK.Ok0 P w mg base 4 (qJ1 t):=by(
refine S.tK.F.ok0 q2U λcdv A _ s H vs Q E hr h=>?_
obtain⟨l,us,tm,td,n,nm,ct,sc,b,p,so,sr,i0,d,rfl,hl,rw',ok,htm,h1,h2,k⟩:=h
have ln:=rw'.1
have n4:=ok.n4
refine⟨_,(qB (qV (jZ (jI (qS jK (by rfl) T.aY (by kernel_rfl) (qA (pv 0) (qA (vJ rfl T.aDF (by kernel_rfl) rfl (v:=.ty "list")) qE))))) (qC jC) qL) (qB (uH gF rfl (jV (pv 0)) (qZ (i:=2) q2U.nd rfl (Or.inl rfl)) (qC (jD (qX (q9A T S).mono hr rfl T.aB2 T.aB9 S.aAP.b .nil qQ (qA (pv 2) qE))))) (qB (qV (qN q7L (qS qDB (by rfl) T.fW mR (qA (vD (qDA rfl) (by rfl) T.aD8 (by kernel_rfl) (qA (yW ["row"] [] rfl (jV (pv 0)) (λ_ _ _ _ _=>(qZ (i:=0) (show List.Nodup (["row"]:List Str)from by decide) rfl (Or.inl rfl))) (λ_ _ _ _ _=>v6) (λ_ _ _ _ _=>(yF (q2I (K:=K) rfl) (pv 0) qJ (λ_ _=>rfl))) (by kernel_rfl) (jY (by decide))) qE)) qE)) (qS jJ (by rfl) T.fW mR (qA (pv 0) qE)) (qO _)) (qC jC) qL) (qB (qV (qN qDM (qS (q2H rfl) (by rfl) T.aDL (by kernel_rfl) (qA (yW ["row"] [] rfl (jV (pv 0)) (λ_ _ _ _ _=>(qZ (i:=0) (show List.Nodup (["row"]:List Str)from by decide) rfl (Or.inl rfl))) (λ_ _ _ _ _=>v6) (λ_ _ _ _ _=>(yF (q2I (K:=K) rfl) (pv 0) qJ (λ_ _=>rfl))) (by kernel_rfl) (jY (by decide))) qE)) (qM (pv 1) rfl) (qO _)) (qC jC) qL) (qC (qV (qN qDM (qS (q2H rfl) (by rfl) T.aDL (by kernel_rfl) (qA (yW ["row"] [] rfl (jV (pv 0)) (λ_ _ _ _ _=>(qZ (i:=0) (show List.Nodup (["row"]:List Str)from by decide) rfl (Or.inl rfl))) (λ_ _ _ _ _=>v6) (λ_ _ _ _ _=>(yF (q2I (K:=K) rfl) (pv 0) qJ (λ_ _=>rfl))) (by kernel_rfl) (jY (by decide))) qE)) (qM (pv 1) rfl) (qO _)) (qC jC) qL)))))),?_⟩
try dsimp-beta-proj-iota-zeta-eta only[wishK,cxK]
refine⟨_,rfl,.ref l,_,_,.type "list",_,rfl,rfl,.inl (.lst hl),qDZ,_,rfl,iteF ?_⟩
refine⟨_,rfl,l,rfl,⟨_,SqL.of hl⟩,?_⟩
refine vM (K:=K) (xs:=us) (λi σ' H2=>∃y,σ'=[some (.ref l),some (.ref tm),y]∧Same H H2) ⟨_,rfl,Same.refl H⟩ (λi σ' H2 hi hp=>?_) (λi y σ' H2 hy hp=>?_) (λσ' H2 hp=>?_)
·obtain⟨y,rfl,sm⟩:=hp;exact SqL.of (sm _ _ hl)
·obtain⟨y',rfl,sm⟩:=hp;have hi:i<n:=by rw[←ln];exact(hV.mp hy).1
 obtain⟨v,e,r⟩:=(rw'.same sm).2 i hi;rw[hy]at e;cases e;have c1:=ok.c1 i hi;have s1:=ok.s1 i hi;exact⟨_,rfl,_,_,_,_,rfl,r,ok.nm i hi,by lia,by lia,λH3 s3=>⟨_,rfl,sm.trans s3⟩⟩
obtain⟨y',rfl,sm⟩:=hp
have rw2:=rw'.same sm
have hl2:=sm _ _ hl
refine⟨_,rfl,l,rfl,⟨_,SqL.of hl2⟩,λD H3 nD s3 hD=>?_⟩
refine q52 (n:=n) (g:=λi=>.str (nm i)) (by show(0:Nat)<1;decide) hl2 s3 nD hD ln (by lia) (λi hi=>?_) λH4 s4 hD4=>?_
·obtain⟨a,e,ha⟩:=rw2.at hi;exact⟨a,_,e,ha,rfl⟩
have hk:H4 D=some (.lst (((List.range n).map λi=>(Sum.inr (nm i):Key)).map kV)):=by rw[hD4,dU];rfl
refine⟨D,_,rfl,SqL.of hk,by rw[hU,mU];lia,λa H5 na s5 h5=>?_⟩
refine⟨a,_,rfl,h5,by rw[q88 ok.u];lia,?_⟩
rw[q88 ok.u]
have s25:=s4.trans s5
refine⟨_,rfl,l,us,rfl,.inl (SqL.of (s25 _ _ hl2)),iI ⟨_,rfl,?_⟩⟩
rw[ln,hG (Int.lt_irrefl _)]
refine iteF ?_
refine⟨_,rfl,l,rfl,⟨_,SqL.of (s25 _ _ hl2)⟩,λD2 H6 n6 s6 h6=>?_⟩
refine q52 (n:=n) (g:=λi=>.int (ct i:Nat)) (by show(0:Nat)<1;decide) (s25 _ _ hl2) s6 n6 h6 ln (by lia) (λi hi=>?_) λH7 s7 h7=>?_
·obtain⟨a,e,ha⟩:=(rw2.same s25).at hi;exact⟨a,_,e,ha,rfl⟩
have h7:H7 D2=some (.lst (((List.range n).map λi=>((ct i:Nat):Int)).map V.int)):=by rw[h7,dU];rfl
have tm7:=(sm.trans (s25.trans s7)) _ _ htm
refine⟨D2,_,rfl,SqL.of h7,iV rfl (iF tm7 T.bE T.fE rfl (iI ⟨_,rfl,?_⟩))⟩
rw[q5T,hG (by lia)]
refine iteF ?_
have s25:=s25.trans s7
refine⟨_,rfl,l,rfl,⟨_,SqL.of (s25 _ _ hl2)⟩,λD3 H6 n6 s6 h6=>?_⟩
refine q52 (n:=n) (g:=λi=>.int (sc i:Nat)) (by show(0:Nat)<1;decide) (s25 _ _ hl2) s6 n6 h6 ln (by lia) (λi hi=>?_) λH7 s7 h7=>?_
·obtain⟨a,e,ha⟩:=(rw2.same s25).at hi;exact⟨a,_,e,ha,rfl⟩
have h7:H7 D3=some (.lst (((List.range n).map λi=>((sc i:Nat):Int)).map V.int)):=by rw[h7,dU];rfl
have tm7:=(sm.trans (s25.trans s7)) _ _ htm
refine⟨D3,_,rfl,SqL.of h7,iV rfl (iF tm7 T.bE T.fN rfl (iI ⟨_,rfl,?_⟩))⟩
rw[q5T,hG (by lia)]
exact iteF (k H7 (sm.trans (s25.trans s7))))
structure Pz where
p:Addr
pd:Addr
fs:Addr
cs:Addr
ss:Addr
structure PtAt(t:Adr)(H:Hp)(z:Pz)(s:Addr)(n:Nat)(nm:Nat→Str)(ct sc:Nat→Nat):Prop where
o:H z.p=some (.ins t.C_Parts z.pd [("store",.ref s),("firsts",.ref z.fs),("counts",.ref z.cs),("shares",.ref z.ss)])
f:H z.fs=some (.dK (dN n nm λi=>.int (fst ct i:Nat)))
c:H z.cs=some (.dK (dN n nm λi=>.int (ct i:Nat)))
s:H z.ss=some (.dK (dN n nm λi=>.int (sc i:Nat)))
d1:z.fs≠z.ss
d2:z.cs≠z.ss
theorem PtAt.same{t:Adr}{H H':Hp}{z:Pz}{s:Addr}{n:Nat}{nm:Nat→Str}{ct sc:Nat→Nat}(h:PtAt t H z s n nm ct sc)(k:Same H H'):PtAt t H' z s n nm ct sc:=⟨k _ _ h.o,k _ _ h.f,k _ _ h.c,k _ _ h.s,h.d1,h.d2⟩
noncomputable def isP(n:Nat)(nm:Nat→Str)(v:V):Prop:=∃i,i<n∧v=.str (nm i)
noncomputable def spCk(t:Adr):Sp:=λvs H Q E=>∃z s n nm ct sc v,vs=[.ref z.p,v]∧PtAt t H z s n nm ct sc∧Unl n nm∧Knd H v∧(isP n nm v→Q .non H)∧(¬isP n nm v→E (.ref t.C_NoPart) none H)
theorem yQ(T:Txt K mg t)(S:Fns K t):S.bI.OkE P w mg base 1 (spCk t):=by(
refine S.bI.F.okE q2M (λvs H Q E h=>?_) (λcdv A outer s H vs Q E hr h=>?_)
·repeat obtain⟨_,h⟩:=h
 all_goals subst_vars;rfl
obtain⟨z,s',n,nm,ct,sc,v,rfl,hp,u,kn,k1,k2⟩:=h
have hu:=v5 hr
refine⟨_,(qC (qV (PW.pt (q1G (jZ (jI (qS jK (by rfl) T.aY (by kernel_rfl) (qA (pv 1) (qA (vJ rfl T.aD6 (by kernel_rfl) rfl (v:=.ty "str")) qE))))) (q0A (q4G (q7V hu (pv 1) (qM (pv 0) rfl)))))) (qC (q1M jE rfl rfl T.aBZ T.aDO (qA qI qE))) qL)),?_⟩
try dsimp-beta-proj-iota-zeta-eta only[wishK,cxK]
obtain⟨ty,q,_,_,e3⟩:=kn.ty (K:=K)
refine⟨_,rfl,v,_,_,ty,_,rfl,rfl,.inl q,e3,_,rfl,?_⟩
cases v with
|str x=>
 refine iteF ?_;refine⟨_,rfl,iV rfl (iF hp.o T.aW T.bN rfl ⟨z.ss,_,rfl,DGet.k (k:=Sum.inr x) hp.s,_,rfl,?_⟩)⟩;by_cases y:∃i,i<n∧nm i=x
 ·obtain⟨i,hi,rfl⟩:=y;rw[zD u hi];exact iteF (k1 ⟨i,hi,rfl⟩)
 rw[q45 (λi hi e=>y ⟨i,hi,e⟩)];exact iteT ⟨sz1,k2 (λ⟨i,hi,e⟩=>y ⟨i,hi,(V.str.inj e).symm⟩)⟩
|_=>exact iteT ⟨sz1,k2 (λ⟨i,hi,e⟩=>by cases e)⟩)
noncomputable def spSo(t:Adr):Sp:=λvs H Q E=>∃z s n nm ct sc v,vs=[.ref z.p,v]∧PtAt t H z s n nm ct sc∧Unl n nm∧Knd H v∧(∀i,i<n→v=.str (nm i)→Q (.int (sc i:Nat)) H)∧(¬isP n nm v→E (.ref t.C_NoPart) none H)
theorem q09(T:Txt K mg t)(S:Fns K t):S.eM.OkE P w mg base 2 (spSo t):=by(
refine S.eM.F.okE q47 (λvs H Q E h=>?_) (λcdv A outer s H vs Q E hr h=>?_)
·repeat obtain⟨_,h⟩:=h
 all_goals subst_vars;rfl
obtain⟨z,s',n,nm,ct,sc,v,rfl,hp,u,kv,k,k2⟩:=h
have hu:=v5 hr
refine⟨_,(qB (jD (jB jE (pv 0) T.aW T.bM (yQ T S).mono hr S.bI.b .nil (qA (pv 1) qE))) (qC (qP (qK hu (qM (pv 0) rfl) (pv 1) (λ_ _=>rfl))))),?_⟩
try dsimp-beta-proj-iota-zeta-eta only[wishK,cxK]
refine(iV rfl (iM hp.o rfl ⟨_,rfl,z,s',n,nm,ct,sc,v,rfl,hp,u,kv,λhZ=>?_,k2⟩))
obtain⟨i,hi,e⟩:=hZ
subst e
refine(iV rfl (iF hp.o T.aW T.bN rfl ⟨_,rfl,z.ss,_,rfl,?_,k i hi rfl⟩))
have:=DGet.k (k:=Sum.inr (nm i)) hp.s
rw[zD u hi]at this
exact this)
theorem q9B{v:V}{lo hi:Int}(h:inB v lo hi=true):∃j,v=.int j∧lo≤j∧j≤hi:=by(
cases v with
|int j=>have h:(decide (lo≤j)&&decide (j≤hi))=true:=h;rw[mE,kR,kR]at h;exact⟨j,rfl,h⟩
|_=>cases h)
noncomputable def spPl(t:Adr):Sp:=λvs H Q E=>∃z s n nm ct sc a k,vs=[.ref z.p,a,k]∧PtAt t H z s n nm ct sc∧Unl n nm∧Knd H a∧Knd H k∧(∀i,i<n→a=.str (nm i)→(∀j:Int,k=.int j→0≤j→j<((ct i:Nat):Int)→Q (.int ((fst ct i:Nat)+j)) H)∧(inB k 0 (((ct i:Nat):Int)-1)=false→E (.ref t.C_NoSheet) none H))∧(¬isP n nm a→E (.ref t.C_NoPart) none H)
theorem v9(T:Txt K mg t)(S:Fns K t):S.bV.OkE P w mg base 3 (spPl t):=by(
refine S.bV.F.okE q48 (λvs H Q E h=>?_) (λcdv A outer s H vs Q E hr h=>?_)
·repeat obtain⟨_,h⟩:=h
 all_goals subst_vars;rfl
obtain⟨z,s',n,nm,ct,sc,a,k,rfl,hp,u,ka,kn,k1,k2⟩:=h
have hu:=v5 hr
refine⟨_,(qB (jD (jB jE (pv 0) T.aW T.bM (yQ T S).mono hr S.bI.b .nil (qA (pv 1) qE))) (qB (qV (jZ (jI (qX (jO T S).mono hr rfl T.a9 T.bA S.bG.b .nil qQ (qA (pv 2) (qA qJ (qA (qT uY (qK hu (qM (pv 0) rfl) (pv 1) (λ_ _=>rfl)) qJ) qE)))))) (qC (q1M jE rfl rfl T.aBD T.aDE (qA qI qE))) qL) (qC (qP (qT yN (qK hu (qM (pv 0) rfl) (pv 1) (λ_ _=>rfl)) (pv 2)))))),?_⟩
try dsimp-beta-proj-iota-zeta-eta only[wishK,cxK]
refine(iV rfl (iM hp.o rfl ⟨_,rfl,z,s',n,nm,ct,sc,a,rfl,hp,u,ka,λhZ=>?_,k2⟩))
obtain⟨i,hi,ea⟩:=hZ
obtain⟨g1,g2⟩:=k1 i hi ea
subst ea
have gc:=DGet.k (k:=Sum.inr (nm i)) hp.c
rw[zD u hi]at gc
have gf:=DGet.k (k:=Sum.inr (nm i)) hp.f
rw[zD u hi]at gf
refine⟨_,rfl,iV rfl (iF hp.o T.aW T.bO rfl ⟨_,rfl,z.cs,_,rfl,gc,_,_,rfl,rfl,k,_,_,rfl,kn,_,rfl,?_⟩)⟩
cases e:inB k 0 (((ct i:Nat):Int)-1)with
|false=>exact iteT ⟨sz1,g2 e⟩
|true=>obtain⟨j,rfl,j0,j1⟩:=q9B e;refine iteF ?_;exact(iV rfl (iF hp.o T.aW T.eE rfl ⟨_,rfl,z.fs,_,rfl,gf,_,rfl,iI (g1 j rfl j0 (by lia))⟩)))
noncomputable def spPh(t:Adr):Sp:=λvs H Q E=>∃z x so sr m q n' W dk n nm ct sc a,vs=[.ref z.p,a]∧PtAt t H z x.s n nm ct sc∧PS t H x so sr m q n' W dk∧Unl n nm∧Knd H a∧(∀i,i<n→a=.str (nm i)→∀l ks H',HeldIs q ks→Same H H'→H l=none→H' l=some (.lst ((cutP (fst ct i) (ct i) ks).map V.int))→Q (.ref l) H')∧(¬isP n nm a→E (.ref t.C_NoPart) none H)
theorem uM(T:Txt K mg t)(S:Fns K t):S.eI.OkE P w mg base 3 (spPh t):=by(
refine S.eI.F.okE q2V (λvs H Q E h=>?_) (λcdv A outer s H vs Q E hr h=>?_)
·repeat obtain⟨_,h⟩:=h
 all_goals subst_vars;rfl
obtain⟨z,x,so,sr,m,q,n',W,dk,n,nm,ct,sc,a,rfl,hp,hs,u,ka,k,ke⟩:=h
have hu:=v5 hr
refine⟨_,(qB (jD (jB jE (pv 0) T.aW T.bM (yQ T S).mono hr S.bI.b .nil (qA (pv 1) qE))) (qB (qW (i:=2) q2V.nd rfl (Or.inr rfl) (qK hu (qM (pv 0) rfl) (pv 1) (λ_ _=>rfl))) (qC (qP (yW ["self","name","first","sheet"] [0,1,2] rfl (jV (jL (qM (pv 0) rfl) T.aU T.fJ (vL T S).mono hr S.fA.b .nil qQ)) (λ_ _ _ _ _=>(qZ (i:=3) (show List.Nodup (["self","name","first","sheet"]:List Str)from by decide) rfl (Or.inl rfl))) (λ_ _ _ _ _=>(q06 (q5Z q9I q7L (pv 2) (pv 3) (qT yN (pv 2) (qK hu (q40 (K:=K) rfl (pv 0) rfl) (pv 1) (λ_ _=>rfl)))))) (λ_ _ _ _ _=>(qT uY (pv 3) (pv 2))) (by kernel_rfl) (jY (by decide))))))),?_⟩
try dsimp-beta-proj-iota-zeta-eta only[wishK,cxK]
refine(iV rfl (iM hp.o rfl ⟨_,rfl,z,x.s,n,nm,ct,sc,a,rfl,hp,u,ka,λhZ=>?_,ke⟩))
obtain⟨i,hi,ea⟩:=hZ
have kq:=k i hi ea
subst ea
have gf:=DGet.k (k:=Sum.inr (nm i)) hp.f
rw[zD u hi]at gf
refine(iV rfl (iF hp.o T.aW T.eE rfl ⟨_,rfl,z.fs,_,rfl,gf,?_⟩))
refine(iV rfl (iF hp.o T.aW T.bL rfl (iM hs.st.o rfl ⟨x,_,_,_,_,m,q,rfl,hs.st,hs.ft,hs.h64,λl ks H1 hk s1 n1 h1=>?_⟩)))
have l64:ks.length<64:=by rw[hk.pm.length_eq];exact hs.h64
have sz:(64:Nat)<sizeLine:=by decide
refine⟨l,rfl,⟨_,SqL.of h1⟩,λD H2 nD s2 hD=>?_⟩
refine q1O (K:=K) (xs:=ks.map V.int) (D:=D) (λj H3=>Same H1 H3∧H3 D=some (.lst ((cutP (fst ct i) (ct i) (ks.take j)).map V.int))) ⟨s2,hD⟩ (λj H3 hp=>SqL.of (hp.1 _ _ h1)) (λj y H3 hy hj=>?_) (λH3 hj=>?_)
·obtain⟨sm,hd⟩:=hj;have hp3:=(hp.same s1).same sm;rw[kX]at hy;obtain⟨b,hb,rfl⟩:=mO.mp hy;have gc:=DGet.k (k:=Sum.inr (nm i)) hp3.c;rw[zD u hi]at gc;have e0:cutP (fst ct i) (ct i) (ks.take (j+1))=cutP (fst ct i) (ct i) (ks.take j)++cutP (fst ct i) (ct i) [b]:=by obtain⟨hj',rfl⟩:=hV.mp hb;rw[←mC hj'];unfold cutP;rw[gZ,mB]
 have ll:(cutP (fst ct i) (ct i) (ks.take j)).length≤64:=by unfold cutP;rw[hU];exact mJ (mF _ _) (by rw[m9];lia)
 refine⟨_,rfl,_,rfl,_,_,rfl,rfl,_,rfl,?_⟩;by_cases z1:((fst ct i:Nat):Int)≤b
 ·rw[hI z1];refine iteT ?_;refine⟨_,rfl,iV rfl (iF hp3.o T.aW T.bO rfl ⟨_,rfl,z.cs,_,rfl,gc,_,_,rfl,rfl,iI ⟨_,rfl,?_⟩⟩)⟩;by_cases z2:b<((fst ct i:Nat):Int)+((ct i:Nat):Int)
  ·rw[hI z2];refine iteT ?_;refine⟨_,rfl,_,rfl,iI ⟨_,hd,by rw[hU];lia,λb' o e=>?_,?_⟩⟩
   ·rw[qD (qG e nD)];exact sm _ _ e
   rw[qF,e0,mB];unfold cutP;simp[z1,z2]
  rw[hG z2];refine iteF ⟨sm,?_⟩;rw[hd,e0];unfold cutP;simp[z2]
 rw[hG z1];refine iteF ⟨_,rfl,iteF ⟨sm,?_⟩⟩;rw[hd,e0];unfold cutP;simp[z1]
obtain⟨sm,hd⟩:=hj
rw[hU,mW]at hd
exact kq D ks H3 hk (s1.trans sm) (s1.free nD) hd)
noncomputable def spRo(t:Adr):Sp:=λvs H Q E=>∃z x so sr m q n' W dk n nm ct sc v,vs=[.ref z.p,v]∧PtAt t H z x.s n nm ct sc∧PS t H x so sr m q n' W dk∧Unl n nm∧Knd H v∧(∀i,i<n→v=.str (nm i)→∀H',Same H H'→Q (.int (max 0 ((sc i:Nat)-((cutP (fst ct i) (ct i) (W.map (·.1))).length:Int)))) H')∧(¬isP n nm v→E (.ref t.C_NoPart) none H)
theorem q0N(T:Txt K mg t)(S:Fns K t):S.fT.OkE P w mg base 4 (spRo t):=by(
refine S.fT.F.okE q70 (λvs H Q E h=>?_) (λcdv A outer s H vs Q E hr h=>?_)
·repeat obtain⟨_,h⟩:=h
 all_goals subst_vars;rfl
obtain⟨z,x,so,sr,m,q,n',W,dk,n,nm,ct,sc,v,rfl,hp,hs,u,kv,k,k2⟩:=h
refine⟨_,(qC (qP (qS (qCO rfl) (by rfl) T.aD9 (by kernel_rfl) (qA qJ (qA (qT uY (jB jE (pv 0) T.aW T.iE (q09 T S).mono hr S.eM.b .nil (qA (pv 1) qE)) (qS jJ (by rfl) T.fW mR (qA (jB jE (pv 0) T.aW T.eQ (uM T S).mono hr S.eI.b .nil (qA (pv 1) qE)) qE))) qE))))),?_⟩
try dsimp-beta-proj-iota-zeta-eta only[wishK,cxK]
refine(iV rfl (iM hp.o rfl ⟨_,rfl,z,x.s,n,nm,ct,sc,v,rfl,hp,u,kv,λi hi e=>?_,k2⟩))
subst e
refine(iV rfl (iM hp.o rfl ⟨_,rfl,z,x,so,sr,m,q,n',W,dk,n,nm,ct,sc,.str (nm i),rfl,hp,hs,u,.str _,λi' hi' ei l ks H1 hk s1 n1 h1=>?_,λy=>absurd ⟨i,hi,rfl⟩ y⟩))
obtain rfl:=u i i' hi hi' (V.str.inj ei)
have e:(cutP (fst ct i) (ct i) ks).length=(cutP (fst ct i) (ct i) (W.map (·.1))).length:=(qDF (hk.pm.trans hs.pm)).length_eq
refine⟨l,_,rfl,.inl (SqL.of h1),iI ?_⟩
refine⟨_,_,rfl,?_⟩
have kk:=k i hi rfl H1 s1
rw[hU,e]
have e2:∀a:Int,(if a>0 then a else 0)=max 0 a:=λa=>by split<;>lia
rw[e2]
exact kk)
theorem qBG{ct:Nat→Nat}{n i:Nat}{j:Int}{so:Nat}(hi:i<n)(j1:j<(ct i:Nat))(hs:fst ct n≤so):((fst ct i:Nat):Int)+j<(so:Int):=by have:=q46 (ct:=ct) (show i+1≤n from hi);have e:fst ct (i+1)=fst ct i+ct i:=rfl;lia
noncomputable def qKI(t:Adr):Sp:=λvs H Q E=>∃z x so sr m q n' W dk n nm ct sc a k,vs=[.ref z.p,a,k]∧PtAt t H z x.s n nm ct sc∧PS t H x so sr m q n' W dk∧Unl n nm∧fst ct n≤so∧Knd H a∧Knd H k∧(∀i,i<n→a=.str (nm i)→(∀j:Int,k=.int j→0≤j→j<((ct i:Nat):Int)→((fst ct i:Nat)+j∉W.map (·.1)→∀H',Same H H'→Q .non H')∧(∀v,((fst ct i:Nat)+j,v)∈W→∀H',Same H H'→if dk=true then E (.ref t.C_PowerGone) none H' else Q (.int v) H'))∧(inB k 0 (((ct i:Nat):Int)-1)=false→E (.ref t.C_NoSheet) none H))∧(¬isP n nm a→E (.ref t.C_NoPart) none H)
theorem q7D(T:Txt K mg t)(S:Fns K t):S.tJ.OkE P w mg base 6 (qKI t):=by(
refine S.tJ.F.okE q6Z (λvs H Q E h=>?_) (λcdv A outer s H vs Q E hr h=>?_)
·repeat obtain⟨_,h⟩:=h
 all_goals subst_vars;rfl
obtain⟨z,x,so,sr,m,q,n',W,dk,n,nm,ct,sc,a,k,rfl,hp,hs,u,hso,ka,kn,k1,k2⟩:=h
refine⟨_,(qC (qP (jB jE (qM (pv 0) rfl) T.aU T.aCB (q7B T S).mono hr S.tE.b .nil (qA (jB jE (pv 0) T.aW T.eT (v9 T S).mono hr S.bV.b .nil (qA (pv 1) (qA (pv 2) qE))) qE)))),?_⟩
try dsimp-beta-proj-iota-zeta-eta only[wishK,cxK]
refine(iV rfl (iF hp.o T.aW T.bL rfl (iM hs.st.o rfl ?_)))
refine(iV rfl (iM hp.o rfl ⟨_,rfl,_,rfl,z,x.s,n,nm,ct,sc,a,k,rfl,hp,u,ka,kn,λi hi ea=>⟨λj ej j0 j1=>?_,(k1 i hi ea).2⟩,k2⟩))
obtain⟨g1,g2⟩:=(k1 i hi ea).1 j ej j0 j1
exact⟨x,so,sr,m,q,n',W,dk,_,rfl,hs,by lia,qBG hi j1 hso,g1,g2⟩)
noncomputable def spPw(t:Adr):Sp:=λvs H Q E=>∃z x so sr m q n' W dk n nm ct sc a k v,vs=[.ref z.p,a,k,v]∧PtAt t H z x.s n nm ct sc∧PS t H x so sr m q n' W dk∧Unl n nm∧fst ct n≤so∧n'<q.B*q.P∧n'<1000∧Knd H a∧Knd H k∧Knd H v∧(∀i,i<n→a=.str (nm i)→(∀j:Int,k=.int j→0≤j→j<((ct i:Nat):Int)→(inB v 0 (10 ^ 30-1)=false→E (.ref t.C_NoValue) none H)∧(∀c:Int,v=.int c→0≤c→c<10 ^ 30→(¬((fst ct i:Nat)+j∈W.map (·.1)∨(cutP (fst ct i) (ct i) (W.map (·.1))).length<sc i)→∀H',Same H H'→E (.ref t.C_Full) none H')∧((fst ct i:Nat)+j∈W.map (·.1)∨(cutP (fst ct i) (ct i) (W.map (·.1))).length<sc i→((fst ct i:Nat)+j∈W.map (·.1)∨((W.length:Nat):Int)<sr)∧(dk=false→∀m' q' H',PS t H' x so sr m' q' (n'+1) (putW W ((fst ct i:Nat)+j) c) false→q'.B=q.B→q'.P=q.P→((fst ct i:Nat)+j,(n':Int))∈q'.V→Keep (t.aT::sf x) H H'→Q (.int (n':Int)) H')∧(dk=true→∀H',PS t H' x so sr m q n' W true→Keep (t.aT::sf x) H H'→E (.ref t.C_PowerGone) none H'))))∧(inB k 0 (((ct i:Nat):Int)-1)=false→E (.ref t.C_NoSheet) none H))∧(¬isP n nm a→E (.ref t.C_NoPart) none H)
theorem q6T(T:Txt K mg t)(S:Fns K t)(B:BmIn base mg):S.oN.OkE P w mg base 13 (spPw t):=by(
refine S.oN.F.okE q26 (λvs H Q E h=>?_) (λcdv A outer s H vs Q E hr h=>?_)
·repeat obtain⟨_,h⟩:=h
 all_goals subst_vars;rfl
obtain⟨z,x,so,sr,m,q,n',W,dk,n,nm,ct,sc,a,k,v,rfl,hp,hs,u,hso,nb,n9,ka,kn,kv,k1,k2⟩:=h
refine⟨_,(qB (qW (i:=4) q26.nd rfl (Or.inl rfl) (jB jE (pv 0) T.aW T.eT (v9 T S).mono hr S.bV.b .nil (qA (pv 1) (qA (pv 2) qE)))) (qB (qV (jZ (jI (qX (q5D T S).mono hr rfl T.aAG T.aAZ S.t9.b .nil qQ (qA (pv 3) qE)))) (qC (q1M jE rfl rfl T.aBC T.aDI (qA qI qE))) qL) (qB (qV (PW.pt (zO (qN jR (jB jE (pv 0) T.aW T.iH (q0N T S).mono hr S.fT.b .nil (qA (pv 1) qE)) qJ (qO _)) (zH (qN zI (pv 2) (jB jE (pv 0) T.aW T.eQ (uM T S).mono hr S.eI.b .nil (qA (pv 1) qE)) rfl)))) (qC (q1M jE rfl rfl T.aDD T.aD5 (qA qI qE))) qL) (qC (qP (jB jE (qM (pv 0) rfl) T.aU T.aBG (q6R T S B).mono hr S.oS.b .nil (qA (pv 4) (qA (pv 3) qE)))))))),?_⟩
try dsimp-beta-proj-iota-zeta-eta only[wishK,cxK]
refine(iV rfl (iM hp.o rfl ⟨_,rfl,_,rfl,z,x.s,n,nm,ct,sc,a,k,rfl,hp,u,ka,kn,λi hi ea=>⟨λj ej j0 j1=>?_,(k1 i hi ea).2⟩,k2⟩))
obtain⟨g1,g2⟩:=(k1 i hi ea).1 j ej j0 j1
subst ea ej
refine⟨_,rfl,v,rfl,kv,?_⟩
refine⟨_,rfl,?_⟩
cases ev:inB v 0 (10 ^ 30-1)with
|false=>exact iteT ⟨sz1,g1 ev⟩
|true=>
obtain⟨c,rfl,v0,v1⟩:=q9B ev
obtain⟨kf,kk⟩:=g2 c rfl v0 (by lia)
refine iteF ?_
refine(iV rfl (iM hp.o rfl ⟨_,rfl,z,x,so,sr,m,q,n',W,dk,n,nm,ct,sc,.str (nm i),rfl,hp,hs,u,.str _,λi' hi' ei H1 s1=>?_,λw=>absurd ⟨i,hi,rfl⟩ w⟩))
obtain rfl:=u i i' hi hi' (V.str.inj ei)
have hp1:=hp.same s1
have hs1:=hs.same s1
generalize hL:(cutP (fst ct i) (ct i) (W.map (·.1))).length=L at kf kk ⊢
refine⟨rfl,_,rfl,?_⟩
rw[q66]
have go:∀H2,Same H H2→((fst ct i:Nat)+j∈W.map (·.1)∨L<sc i)→spWr t [.ref x.s,.int ((fst ct i:Nat)+j),.int c] H2 Q E:=λH2 s2 w=>by obtain⟨w2,d1,d2⟩:=kk w;exact⟨x,so,sr,m,q,n',W,dk,_,c,rfl,hs.same s2,by lia,qBG hi j1 hso,v0,by lia,nb,n9,w2,λe m' q' H' a b c d kp=>d1 e m' q' H' a b c d ((Keep.same s2).trans kp),λe H' a kp=>d2 e H' a ((Keep.same s2).trans kp)⟩
by_cases zz:L<sc i
·rw[hG (show ¬max 0 (((sc i:Nat):Int)-(L:Int))=0 by lia)];refine iteF ?_;exact(iV rfl (iF hp1.o T.aW T.bL rfl (iM hs1.st.o rfl ⟨_,rfl,_,rfl,go H1 s1 (.inr zz)⟩)))
rw[hI (show max 0 (((sc i:Nat):Int)-(L:Int))=0 by lia)]
refine iteT ?_
refine⟨_,rfl,iV rfl (iM hp1.o rfl ⟨_,rfl,z,x,so,sr,m,q,n',W,dk,n,nm,ct,sc,.str (nm i),rfl,hp1,hs1,u,.str _,λi2 hi2 ei2 l ks H2 hk s2 n2 h2=>?_,λw=>absurd ⟨i,hi,rfl⟩ w⟩)⟩
obtain rfl:=u i i2 hi hi2 (V.str.inj ei2)
refine⟨l,_,rfl,.inl (SqL.of h2),rfl,q4F,_,rfl,?_⟩
have s12:=s1.trans s2
show if(!inV (.int j) ((cutP (fst ct i) (ct i) ks).map V.int))=true then _ else _
have e:j∈cutP (fst ct i) (ct i) ks↔((fst ct i:Nat):Int)+j∈W.map (·.1):=by rw[zZ,(hk.pm.trans hs.pm).mem_iff];exact⟨λa=>a.1,λa=>⟨a,j0,j1⟩⟩
rw[q08]
by_cases y:((fst ct i:Nat):Int)+j∈W.map (·.1)
·rw[hI (e.mpr y)];refine iteF ?_;exact(iV rfl (iF (hp.same s12).o T.aW T.bL rfl ⟨x.s,x.sd,_,rfl,(hs.same s12).st.o,rfl,_,rfl,_,rfl,go H2 s12 (.inl y)⟩))
rw[hG (λa=>y (e.mp a))]
exact iteT ⟨sz1,kf (λw=>w.elim y zz) H2 s12⟩)
theorem q6U{q:QM}:∀{g:List Int},(yM q g).V=q.V.filter (λr=>decide (r.1∉g))∧(yM q g).fi=q.fi∧(yM q g).nx=q.nx∧(yM q g).B=q.B∧(yM q g).P=q.P:=fun {g}=>by(
unfold yM
induction g generalizing q with
|nil=>exact⟨(rO.mpr λz _=>by simp).symm,rfl,rfl,rfl,rfl⟩
|cons n r ih=>obtain⟨a,b,c,d,e⟩:=ih (q:=q.forget n);refine⟨?_,b,c,d,e⟩;rw[cT,a];show(yJ q.V n).filter _=_;unfold yJ;rw[pD];refine dX λz _=>?_;rw[←sI];refine gE.mpr ?_;simp only[kW,not_or];exact⟨λh=>⟨h.2,h.1⟩,λh=>⟨h.2,h.1⟩⟩)
noncomputable def yP(W:Mp)(g:List Int):Mp:=W.filter λr=>decide (r.1∉g)
theorem yK{W:Mp}{g:List Int}{r:Int×Int}:r∈yP W g↔r∈W∧r.1∉g:=by unfold yP;rw[mQ,kR]
theorem qBH{W:Mp}{g:List Int}{n:Int}:yP W (g++[n])=yJ (yP W g) n:=by(
unfold yP yJ
rw[pD]
refine dX λz _=>?_
rw[←sI]
refine gE.mpr ?_
simp only[mP,kJ,not_or]
exact⟨λh=>⟨h.2,h.1⟩,λh=>⟨h.2,h.1⟩⟩)
theorem q2D{W:Mp}{g:List Int}(h:(W.map (·.1)).Nodup):((yP W g).map (·.1)).Nodup:=h.sublist (g7.map _)
theorem qGO{V W:Mp}{p:Int}{g:List Int}(ndV:(V.map (·.1)).Nodup)(ndW:(W.map (·.1)).Nodup)(pm:(hdN V).Perm (W.map (·.1)))(g64:(64:Int)∉g):(hdN (yP (yJ V 64++[(64,p)]) g)).Perm ((yP W g).map (·.1)):=by(
have n1:((yJ V 64++[((64:Int),p)]).map (·.1)).Nodup:=by
 rw[mB];refine gA.mpr ⟨q3Z ndV,by simp,λa ha c hc=>?_⟩;obtain⟨q,hq,rfl⟩:=kP.mp ha;have hc:c=64:=by simpa using hc
 rw[hc];exact(jG.mp hq).2
refine q0X ((q2D n1).sublist g7) (q2D ndW) λx=>?_
have hx:x∈hdN V↔x∈W.map (·.1):=pm.mem_iff
rw[q5U,jH]at hx ⊢
constructor
·rintro⟨⟨p',h⟩,h64⟩
 obtain⟨h1,h2⟩:=yK.mp h;rcases mP.mp h1 with h1|h1
 ·obtain⟨v',hv⟩:=hx.mp ⟨⟨p',(jG.mp h1).1⟩,h64⟩;exact⟨v',yK.mpr ⟨hv,h2⟩⟩
 obtain⟨rfl,rfl⟩:x=64∧p'=p:=by simpa using h1
 exact absurd rfl h64
rintro⟨v',h⟩
obtain⟨h1,h2⟩:=yK.mp h
obtain⟨⟨p',hp⟩,h64⟩:=hx.mpr ⟨v',h1⟩
exact⟨⟨p',yK.mpr ⟨kU _ (jG.mpr ⟨hp,h64⟩),h2⟩⟩,h64⟩)
section
variable{H H':Hp}{x:Sto}{so:Nat}{sr:Int}{m:CM}{q:QM}{n:Nat}{W:Mp}
theorem PS.gave{F:List Addr}(h:PS t H x so sr m q n W false)(hn:n<q.B*q.P)(hn9:n<1000){g:List Int}{tp:Addr}(g64:(64:Int)∉g)(st':StAt t H' x (.int (so:Int)) (.int sr) (.int 0) (.int 1000000) (putC m n (.ref tp)) (yM (q.put (n / q.P) (n%q.P) 64) g))
 (k:Keep F H H'):
 PS t H' x so sr (putC m n (.ref tp)) (yM (q.put (n / q.P) (n%q.P) 64) g) (n+1) (yP W g) false:=by(
obtain⟨a,b,c,d⟩:=h.at hn
have rc:=h.rc
have eB:=h.ft.eB
have eP:=h.ft.eP
have nbo:=h.ft.ok.nbo
have lbo:m.bo.length=q.B*q.P:=by rw[eB,eP,←rJ]at nbo;lia
obtain⟨fV,ffi,fnx,fB,fP⟩:=q6U (q:=q.put (n / q.P) (n%q.P) 64) (g:=g)
have fB:(yM (q.put (n / q.P) (n%q.P) 64) g).B=q.B:=fB
have fP:(yM (q.put (n / q.P) (n%q.P) 64) g).P=q.P:=fP
have okq:(yM (q.put (n / q.P) (n%q.P) 64) g).Ok:=q6S (h.ft.oq.put a d b (by decide) (by decide))
have okd:(m.deed "put" (n:Int) ((n:Int) / m.pg) false).Ok:=h.ft.ok.deed (by lia)
have ok':CM.Ok (putC m n (.ref tp)):=⟨okd.bl1,okd.bl2,okd.pg1,okd.pg2,by show((m.bo.set n (.ref tp)).length:Int)=_;rw[gM];exact nbo,okd.ncl,okd.ndc,okd.nbr,okd.lim,okd.nrc⟩
refine⟨st',⟨ok',okq,by rw[fB];exact eB,by rw[fP];exact eP⟩,by rw[fB];exact h.br,by rw[fB];exact h.cl,?_,h.li,by show m.lf.map _=none;rw[h.lf];rfl,by rw[fB,fP];exact hn,?_,λp hp=>?_,q2D h.nd,?_,λs' hs'=>?_,λs' v' hv=>?_,h.so1⟩
·rw[ffi,fB,fP];show q.fi.set (n / q.P) (q.fi.getD (n / q.P) 0+1)=linF q.B q.P (n+1);rw[h.fi];exact qCD h.ft.oq.p1 hn
·show(m.rc++[_]).length=n+1;rw[mL,rc];rfl
·show(m.bo.set n (.ref tp)).getD p .non=.non;rw[zV,kE (λy=>by lia)];exact h.cr p (by lia)
·rw[fV];exact qGO h.ft.oq.nd h.nd h.pm g64
·obtain⟨v',hv⟩:=jH.mp hs';exact h.kb s' (jH.mpr ⟨v',(yK.mp hv).1⟩)
obtain⟨h1,h2⟩:=yK.mp hv
obtain⟨p,st,mk',a1,a2,a3,a4,a5⟩:=h.vl s' v' h1
have hk:s'∈hdN q.V:=h.pm.mem_iff.mpr (jH.mpr ⟨v',h1⟩)
refine⟨p,st,mk',?_,a2,a3,?_,k.tp _ _ a5⟩
·rw[fV];exact yK.mpr ⟨kU _ (jG.mpr ⟨a1,(q5U.mp hk).2⟩),h2⟩
show(m.bo.set n (.ref tp)).getD p.toNat .non=_
rw[zV,kE (λy=>by rw[←y.1,h.cr n (kH _)]at a4;cases a4)]
exact a4)
end
noncomputable def cntS(W:Mp)(ss:List Int):Nat:=((W.map (·.1)).filter λs=>decide (s∈ss)).length
theorem qKJ{H:Hp}{Q:VK}{E:XK}{x:Sto}{so:Nat}{sr:Int}{m:CM}{q:QM}{n:Nat}{W:Mp}{dk:Bool}{l0:Addr}{ss:List Int}(h:PS t H x so sr m q n W dk)(hl:H l0=some (.lst (ss.map V.int)))(hs:∀s∈ss,0≤s∧s<(so:Int))(nb:n<q.B*q.P)(n9:n<1000)
 (k1:(∀s∈W.map (·.1),s∉ss)→∀H',Same H H'→Q (.int 0) H')
 (k2:¬(∀s∈W.map (·.1),s∉ss)→(dk=false→∀m' q' tp mk H',PS t H' x so sr m' q' (n+1) (yP W ss) false→q'.B=q.B→q'.P=q.P→m'.bo.getD n .non=.ref tp→H' tp=some (.tup [mk,.int ((sumB (λk=>decide ((k:Int)∈(yP W ss).map (·.1))) so:Nat):Int)])→m'.rc[n]?=some ((Str.ofString "put"),(n:Int),true)→Keep (t.aT::sf x) H H'→Q (.int ((cntS W ss:Nat):Int)) H')∧(dk=true→∀H',PS t H' x so sr m q n W true→Keep (t.aT::sf x) H H'→E (.ref t.C_PowerGone) none H')):spGU t [.ref x.s,.ref l0] H Q E:=by(
refine⟨x,_,_,_,m,q,l0,ss,(so:Int),rfl,h.st,h.ft,h.h64,by rw[h.rc];lia,hl,λs' hs'=>by have:=hs s' hs';lia,h.gd,λns hn=>?_⟩
have pm:=hn.pm.trans h.pm
have nd:ns.Nodup:=pm.nodup_iff.mpr h.nd
have hm:∀s,s∈ns↔s∈W.map (·.1):=λs=>pm.mem_iff
have mg:∀s,s∈gvn ns ss↔s∈W.map (·.1)∧s∈ss:=λs=>by unfold gvn;rw[mQ,hm,kR]
by_cases c:∀s∈W.map (·.1),s∉ss
·rw[kG (by
  cases e:gvn ns ss with
  |nil=>rfl
  |cons a r=>have:=(mg a).mp (by rw[e];simp);exact absurd this.2 (c a this.1))]
 exact k1 c
rw[kE (λe=>c λs h1 h2=>by have:=(mg s).mpr ⟨h1,h2⟩;rw[e]at this;cases this)]
intro l hl'
obtain⟨a,b,e,d⟩:=h.at nb
obtain⟨g1,g2⟩:=k2 c
have lc:(gvn ns ss).length=cntS W ss:=(pm.filter _).length_eq
have ed:yP W (gvn ns ss)=yP W ss:=by unfold yP;refine dX λz hz=>gE.mpr ?_;rw[mg];exact⟨λw y=>w ⟨jH.mpr ⟨z.2,hz⟩,y⟩,λw y=>w y.2⟩
refine⟨n / q.P,n%q.P,by rw[h.spot hl',kG nb],b,by rw[e];exact h.cr n (kH _),λz H' k st=>?_,λz tp H' htp k st=>?_⟩
·cases dk with
 |false=>exact absurd z h.lit
 |true=>exact g2 rfl H' (h.mv st λb xs e=>k.tp _ _ e) k
cases dk with
|true=>exact absurd h.drk z
|false=>
 rw[e]at st;have so1:=h.so1;have ps:=h.gave nb n9 (g:=gvn ns ss) (λw=>by have:=hs 64 ((mg 64).mp w).2;lia) st k;rw[ed]at ps;obtain⟨_,_,_,fB,fP⟩:=q6U (q:=q.put (n / q.P) (n%q.P) 64) (g:=gvn ns ss);have lbo:n<m.bo.length:=by have nbo:=h.ft.ok.nbo;rw[h.ft.eB,h.ft.eP,←rJ]at nbo;lia
 have eb:orB (natL (rst ns (gvn ns ss))) 0=sumB (λk=>decide ((k:Int)∈(yP W ss).map (·.1))) so:=by
  have mr:∀k:Nat,k∈natL (rst ns (gvn ns ss))↔((k:Int)∈(yP W ss).map (·.1)):=λk=>by
   unfold natL rst;rw[kP];constructor
   ·rintro⟨y,hy,rfl⟩
    obtain⟨y1,y2⟩:=mQ.mp hy;have y2:y∉gvn ns ss:=by simpa using y2
    have yw:=(hm y).mp y1;obtain⟨v,hv⟩:=jH.mp yw;have:=h.kb y yw;rw[cW this.1];exact jH.mpr ⟨v,yK.mpr ⟨hv,λz=>y2 ((mg y).mpr ⟨yw,z⟩)⟩⟩
   intro hk;obtain⟨v,hv⟩:=jH.mp hk;obtain⟨v1,v2⟩:=yK.mp hv;exact⟨(k:Int),mQ.mpr ⟨(hm _).mpr (jH.mpr ⟨v,v1⟩),by simpa using λz=>v2 ((mg _).mp z).2⟩,by lia⟩
  rw[qGF (n:=so) λk hk=>by obtain⟨v,hv⟩:=jH.mp ((mr k).mp hk);have:=h.kb _ (jH.mpr ⟨v,(yK.mp hv).1⟩);lia];congr 1;funext k;exact gE.mpr (mr k)
 rw[eb]at htp;rw[lc];refine g1 rfl _ _ tp _ H' ps fB fP ?_ htp ?_ k
 ·show(m.bo.set n (.ref tp)).getD n .non=.ref tp;rw[zV,kG ⟨rfl,lbo⟩]
 show(m.rc++[_])[n]?=_;rw[gO (by rw[h.rc];lia),h.rc,Nat.sub_self];rfl)
inductive Fl:V→Prop
|non:Fl .non
|bl (b:Bool):Fl (.bl b)
|int (i:Int):Fl (.int i)
|str (x:Str) (h:x.length≤100):Fl (.str x)
theorem Fl.knd{H:Hp}{v:V}(h:Fl v):Knd H v:=by(
cases h with
|non=>exact .non
|bl b=>exact .bl b
|int i=>exact .int i
|str x _=>exact .str x)
noncomputable def toI:V→Int
| .int j=>j
|_=>0
noncomputable def GvR(t:Adr)(H:Hp)(Q:VK)(E:XK)(x:Sto)(so:Nat)(sr:Int)(m:CM)(q:QM)(n':Nat)(W:Mp)(dk:Bool)(ct:Nat→Nat)(i:Nat)(ss:List Int):Prop:=((∀s∈W.map (·.1),s∉ss.map λj=>((fst ct i:Nat):Int)+j)→∀H',Same H H'→Q (.int 0) H')∧(¬(∀s∈W.map (·.1),s∉ss.map λj=>((fst ct i:Nat):Int)+j)→(dk=false→∀m' q' tp mk H',PS t H' x so sr m' q' (n'+1) (yP W (ss.map λj=>((fst ct i:Nat):Int)+j)) false→q'.B=q.B→q'.P=q.P→m'.bo.getD n' .non=.ref tp→H' tp=some (.tup [mk,.int ((sumB (λk=>decide ((k:Int)∈(yP W (ss.map λj=>((fst ct i:Nat):Int)+j)).map (·.1))) so:Nat):Int)])→m'.rc[n']?=some ((Str.ofString "put"),(n':Int),true)→Keep (t.aT::sf x) H H'→Q (.int ((cntS W (ss.map λj=>((fst ct i:Nat):Int)+j):Nat):Int)) H')∧(dk=true→∀H',PS t H' x so sr m q n' W true→Keep (t.aT::sf x) H H'→E (.ref t.C_PowerGone) none H'))
noncomputable def spPg(t:Adr):Sp:=λvs H Q E=>∃z x so sr m q n' W dk n nm ct sc a l us,vs=[.ref z.p,a,.ref l]∧PtAt t H z x.s n nm ct sc∧PS t H x so sr m q n' W dk∧Unl n nm∧fst ct n≤so∧n'<q.B*q.P∧n'<1000∧Knd H a∧H l=some (.lst us)∧us.length≤100∧(∀v∈us,Fl v)∧(∀i,i<n→a=.str (nm i)→(∀ss:List Int,us=ss.map V.int→(∀j∈ss,0≤j∧j<((ct i:Nat):Int))→GvR t H Q E x so sr m q n' W dk ct i ss)∧((∃v∈us,inB v 0 (((ct i:Nat):Int)-1)=false)→∀H',Same H H'→E (.ref t.C_NoSheet) none H'))∧(¬isP n nm a→E (.ref t.C_NoPart) none H)
theorem q0S(T:Txt K mg t)(S:Fns K t)(B:BmIn base mg):S.eZ.OkE P w mg base 13 (spPg t):=by(
refine S.eZ.F.okE q4T (λvs H Q E h=>?_) (λcdv A outer s H vs Q E hr h=>?_)
·repeat obtain⟨_,h⟩:=h
 all_goals subst_vars;rfl
obtain⟨z,x,so,sr,m,q,n',W,dk,n,nm,ct,sc,a,l,us,rfl,hp,hs,u,hso,nb,n9,ka,hl,l9,fl,k1,k2⟩:=h
have sz:(100:Nat)<sizeLine:=by decide
refine⟨_,(qB (jD (jB jE (pv 0) T.aW T.bM (yQ T S).mono hr S.bI.b .nil (qA (pv 1) qE))) (qC (qP (jB jE (qM (pv 0) rfl) T.aU T.aAO (q51 T S B).mono hr S.iA.b .nil (qA (qEF ["self","name","sheet"] [0,1] rfl (jV (pv 2)) (λ_ _ _ _ _=>(qZ (i:=2) (show List.Nodup (["self","name","sheet"]:List Str)from by decide) rfl (Or.inl rfl))) (λ_ _ _ _ _=>v6) jE rfl rfl (λ_ _ _ _ _ psX=>(qEG psX (pv 0) T.aW T.eT (v9 T S).mono hr S.bV.b .nil (qA (pv 1) (qA (pv 2) qE)))) (by kernel_rfl) (jY (by decide))) qE))))),?_⟩
try dsimp-beta-proj-iota-zeta-eta only[wishK,cxK]
refine(iV rfl (iM hp.o rfl ⟨_,rfl,z,x.s,n,nm,ct,sc,a,rfl,hp,u,ka,λhZ=>?_,k2⟩))
obtain⟨i,hi,ea⟩:=hZ
obtain⟨g1,g2⟩:=k1 i hi ea
subst ea
refine(iV rfl (iF hp.o T.aW T.bL rfl (iM hs.st.o rfl ?_)))
refine⟨_,rfl,l,rfl,⟨_,SqL.of hl⟩,λD H1 nD s1 hD=>?_⟩
refine q9W (K:=K) (xs:=us) (λj H2=>Same H H2∧H2 D=some (.lst ((us.take j).map λv=>.int (((fst ct i:Nat):Int)+toI v)))∧∀v∈us.take j,inB v 0 (((ct i:Nat):Int)-1)=true) ⟨s1,hD,by simp⟩ (λj H2 hj=>SqL.of (hj.1 _ _ hl)) (λj v H2 hv hj=>?_) (λH2 hj=>?_)
·obtain⟨sm,hd,gd⟩:=hj;have hm:=mT hv;have hj':=(hV.mp hv).1;have ev:=(hV.mp hv).2;have hp2:=hp.same sm;have kv:Knd H2 v:=(fl v hm).knd;refine(iV rfl (iM hp2.o rfl ⟨_,rfl,_,rfl,z,x.s,n,nm,ct,sc,.str (nm i),v,rfl,hp2,u,.str _,kv,λi' hi' ei=>⟨λc ec c0 c1=>?_,λbad=>?_⟩,λw=>absurd ⟨i,hi,rfl⟩ w⟩))
 ·obtain rfl:=u i i' hi hi' (V.str.inj ei);subst ec;refine⟨_,hd,by rw[hU,m9];lia,λb o e=>?_,?_,λw hw=>?_⟩
  ·rw[qD (qG e nD)];exact sm _ _ e
  ·rw[qF,←mC hj',mB,ev];rfl
  rw[←mC hj']at hw;rcases mP.mp hw with hw|hw
  ·exact gd w hw
  rw[kJ.mp hw,ev];exact inBi c0 (by lia)
 obtain rfl:=u i i' hi hi' (V.str.inj ei);exact g2 ⟨v,hm,bad⟩ H2 sm
obtain⟨sm,hd,gd⟩:=hj
rw[mW]at hd gd
have eu:us=(us.map toI).map V.int:=by rw[dU];refine(List.map_id us).symm.trans (d0 λv hv=>?_);obtain⟨j,rfl,_⟩:=q9B (gd v hv);rfl
have bd:∀j∈us.map toI,0≤j∧j<((ct i:Nat):Int):=λj hj=>by obtain⟨v,hv,rfl⟩:=kP.mp hj;obtain⟨c,rfl,c0,c1⟩:=q9B (gd v hv);exact⟨c0,by show c< _;lia⟩
obtain⟨r1,r2⟩:=g1 (us.map toI) eu bd
have hd2:H2 D=some (.lst (((us.map toI).map λj=>((fst ct i:Nat):Int)+j).map V.int)):=by rw[hd,dU,dU];rfl
refine qKJ (hs.same sm) hd2 (λs hs'=>?_) nb n9 (λc H' s'=>r1 c H' (sm.trans s')) λc=>?_
·obtain⟨j,hj,rfl⟩:=kP.mp hs';have:=bd j hj;exact⟨by lia,qBG hi this.2 hso⟩
obtain⟨d1,d2⟩:=r2 c
exact⟨λe m' q' tp mk H' a b c d f g kp=>d1 e m' q' tp mk H' a b c d f g ((Keep.same sm).trans kp),λe H' a kp=>d2 e H' a ((Keep.same sm).trans kp)⟩)
noncomputable def spPe(t:Adr):Sp:=λvs H Q E=>∃z x so sr m q n' W dk n nm ct sc a,vs=[.ref z.p,a]∧PtAt t H z x.s n nm ct sc∧PS t H x so sr m q n' W dk∧Unl n nm∧fst ct n≤so∧n'<q.B*q.P∧n'<1000∧Knd H a∧(∀i,i<n→a=.str (nm i)→∀ks H',HeldIs q ks→Same H H'→GvR t H' Q E x so sr m q n' W dk ct i (cutP (fst ct i) (ct i) ks))∧(¬isP n nm a→E (.ref t.C_NoPart) none H)
theorem q6V(T:Txt K mg t)(S:Fns K t)(B:BmIn base mg):S.oQ.OkE P w mg base 14 (spPe t):=by(
refine S.oQ.F.okE q6J (λvs H Q E h=>?_) (λcdv A outer s H vs Q E hr h=>?_)
·repeat obtain⟨_,h⟩:=h
 all_goals subst_vars;rfl
obtain⟨z,x,so,sr,m,q,n',W,dk,n,nm,ct,sc,a,rfl,hp,hs,u,hso,nb,n9,ka,k1,k2⟩:=h
refine⟨_,(qC (qP (jB jE (pv 0) T.aW T.iO (q0S T S B).mono hr S.eZ.b .nil (qA (pv 1) (qA (jB jE (pv 0) T.aW T.eQ (uM T S).mono hr S.eI.b .nil (qA (pv 1) qE)) qE))))),?_⟩
try dsimp-beta-proj-iota-zeta-eta only[wishK,cxK]
refine(iV rfl (iM hp.o rfl ⟨_,rfl,iV rfl (iM hp.o rfl ⟨_,rfl,z,x,so,sr,m,q,n',W,dk,n,nm,ct,sc,a,rfl,hp,hs,u,ka,λi hi ea l ks H1 hk s1 n1 h1=>?_,k2⟩)⟩))
have kq:=k1 i hi ea ks H1 hk s1
subst ea
have l64:ks.length<64:=by rw[hk.pm.length_eq];exact hs.h64
refine⟨z,x,so,sr,m,q,n',W,dk,n,nm,ct,sc,.str (nm i),l,_,rfl,hp.same s1,hs.same s1,u,hso,nb,n9,.str _,h1,?_,λv hv=>?_,λi' hi' ei=>⟨λss es _=>?_,λbad=>?_⟩,λw=>absurd ⟨i,hi,rfl⟩ w⟩
·rw[hU];unfold cutP;rw[hU];exact mJ (mF _ _) (by lia)
·obtain⟨j,_,rfl⟩:=kP.mp hv;exact .int _
·obtain rfl:=u i i' hi hi' (V.str.inj ei);obtain rfl:cutP (fst ct i) (ct i) ks=ss:=(List.map_inj_right (λa b e=>V.int.inj e)).mp es;exact kq
obtain rfl:=u i i' hi hi' (V.str.inj ei)
obtain⟨v,hv,b⟩:=bad
obtain⟨j,hj,rfl⟩:=kP.mp hv
have:=(zZ.mp hj).2
rw[inBi this.1 (by lia)]at b
cases b)
noncomputable def qKK(t:Adr):Sp:=λvs H Q E=>∃p pd x so sr m q n' W dk l us n nm ct sc,vs=[.ref p,.ref x.s,.ref l]∧H p=some (.ins t.C_Parts pd [])∧PS t H x so sr m q n' W dk∧H l=some (.lst us)∧Rws H us n nm ct sc∧TabOk n nm ct sc∧fst ct n≤so∧((fst sc n:Nat):Int)≤sr∧∀fs cs ss H',PtAt t H' ⟨p,pd,fs,cs,ss⟩ x.s n nm ct sc→fs≠cs→H fs=none→H cs=none→H ss=none→(∀b o,b≠p→H b=some o→H' b=some o)→Q .non H'
theorem q7E(T:Txt K mg t)(S:Fns K t):S.tL.Ok0 P w mg base 5 (qKK t):=by(
refine S.tL.F.ok0 yZ λcdv A _ s H vs Q E hr h=>?_
obtain⟨p,pd,x,so,sr,m,q,n',W,dk,l,us,n,nm,ct,sc,rfl,hp,hs,hl,rw',ok,h1,h2,k⟩:=h
have hu:=v5 hr
refine⟨_,(qB (jD (qX (q7C T S).mono hr rfl T.aBR T.aBM S.tK.b .nil qQ (qA (pv 2) (qA (qM (pv 1) rfl) qE)))) (qB (jS (pv 0) (pv 1) rfl) (qB (jS (pv 0) uK rfl) (qB (jS (pv 0) uK rfl) (qB (jS (pv 0) uK rfl) (qB (qW (i:=3) yZ.nd rfl (Or.inl rfl) qJ) (qC (uH gF rfl (jV (pv 2)) (q5Y rfl (yX (qZ (i:=4) yZ.nd rfl (Or.inl rfl)) (yX (qZ (i:=5) yZ.nd rfl (Or.inl rfl)) (yX (qZ (i:=6) yZ.nd rfl (Or.inl rfl)) q3N)))) (qB (zJ hu (qM (pv 0) rfl) (pv 4) (pv 3) rfl) (qB (zJ hu (qM (pv 0) rfl) (pv 4) (pv 5) rfl) (qB (zJ hu (qM (pv 0) rfl) (pv 4) (pv 6) rfl) (qC (qHC (i:=3) yZ.nd rfl (Or.inl rfl) (pv 5) q8B))))))))))))),?_⟩
try dsimp-beta-proj-iota-zeta-eta only[wishK,cxK]
refine⟨_,rfl,iV rfl (iF hs.st.o T.aU T.bF rfl ?_)⟩
refine⟨l,us,x.tm,x.td,n,nm,ct,sc,_,_,(so:Int),sr,_,_,rfl,hl,rw',ok,hs.st.te,by lia,h2,λH1 s1=>?_⟩
refine⟨_,rfl,_,rfl,p,_,pd,_,rfl,s1 _ _ hp,T.aW,T.bL,by decide,?_⟩
have w1:Wm t.C_Parts p pd H1 (upd H1 p (.ins t.C_Parts pd (putF "store" (.ref x.s) []))) (putF "store" (.ref x.s) []) []:=⟨qF,Up.of (Same.refl H1),by simp,by simp⟩
refine λfs nfs=>?_
have w2:=w1.add nfs (Same.upd (o:=.dK []) nfs) qF
refine⟨_,rfl,p,_,pd,_,rfl,w2.i,T.aW,T.eE,by show 1<1000;decide,?_⟩
have w2:=w2.put "firsts" (.ref fs)
refine λcs ncs=>?_
have w3:=w2.add ncs (Same.upd (o:=.dK []) ncs) qF
refine⟨_,rfl,p,_,pd,_,rfl,w3.i,T.aW,T.bO,by show 2<1000;decide,?_⟩
have w3:=w3.put "counts" (.ref cs)
refine λss nss=>?_
have w4:=w3.add nss (Same.upd (o:=.dK []) nss) qF
refine⟨_,rfl,p,_,pd,_,rfl,w4.i,T.aW,T.bN,by show 3<1000;decide,?_⟩
have w4:=w4.put "shares" (.ref ss)
have nd:[fs,cs,ss].Nodup:=w4.n
simp only[gL,kW,g0,not_or,cD]at nd
have e1:=(w4.o (fs,.dK []) (by simp)).1
have e2:=(w4.o (cs,.dK []) (by simp)).1
have e3:=(w4.o (ss,.dK []) (by simp)).1
have f1:=w4.fr fs (by simp)
have f2:=w4.fr cs (by simp)
have f3:=w4.fr ss (by simp)
have wi:=w4.i
have wu:=w4.u
clear w1 w2 w3 w4 nfs ncs nss
generalize upd _ p _=G at e1 e2 e3 wi wu ⊢
have px:l≠p:=jP hl hp (by intro y;cases y)
have hlG:G l=some (.lst us):=wu _ _ px (s1 _ _ hl)
have rwG:Rws G us n nm ct sc:=rw'.tp λb xs e=>wu _ _ (jP e hp (by intro y;cases y)) (s1 _ _ e)
have ln:=rw'.1
have n4:=ok.n4
have sz:(4:Nat)<sizeLine:=by decide
refine⟨_,rfl,l,rfl,⟨_,SqL.of hlG⟩,?_⟩
refine vM (K:=K) (xs:=us) (λi σ' H2=>(∃y4 y5 y6,σ'=[some (.ref p),some (.ref x.s),some (.ref l),some (.int ((fst ct i:Nat):Int)),y4,y5,y6])∧H2 fs=some (.dK (dN i nm λi=>.int (fst ct i:Nat)))∧H2 cs=some (.dK (dN i nm λi=>.int (ct i:Nat)))∧H2 ss=some (.dK (dN i nm λi=>.int (sc i:Nat)))∧(∀b o,b≠fs→b≠cs→b≠ss→G b=some o→H2 b=some o)) ⟨⟨_,_,_,rfl⟩,e1,e2,e3,λb o _ _ _ e=>e⟩ (λi σ' H2 hi hj=>?_) (λi y σ' H2 hy hj=>?_) (λσ' H2 hj=>?_)
·exact SqL.of (hj.2.2.2.2 _ _ (jP hlG e1 (by intro y;cases y)) (jP hlG e2 (by intro y;cases y)) (jP hlG e3 (by intro y;cases y)) hlG)
·obtain⟨⟨y4,y5,y6,rfl⟩,g1,g2,g3,kp⟩:=hj;have hi:i<n:=by rw[←ln];exact(hV.mp hy).1
 obtain⟨a,e,ha⟩:=rwG.at hi;rw[hy]at e;cases e;have ha2:=kp _ _ (jP ha e1 (by intro y;cases y)) (jP ha e2 (by intro y;cases y)) (jP ha e3 (by intro y;cases y)) ha;refine⟨a,_,rfl,SqT.of ha2,rfl,_,_,rfl,_,_,rfl,_,_,rfl,rfl,?_⟩;have u:=ok.u.less (show i+1≤n from hi);have pf:=jP wi e1 (by intro y;cases y);have pc:=jP wi e2 (by intro y;cases y);have ps:=jP wi e3 (by intro y;cases y);have wi2:=kp _ _ pf pc ps wi;refine⟨_,rfl,iV rfl (iF wi2 T.aW T.eE rfl ⟨_,rfl,fs,_,rfl,DPut.k (k:=Sum.inr (nm i)) g1 (by rw[q1R];lia),?_⟩)⟩;rw[q4O u];refine⟨_,rfl,iV rfl (iF (by rw[qD pf];exact wi2) T.aW T.bO rfl ⟨_,rfl,cs,_,rfl,DPut.k (k:=Sum.inr (nm i)) (by rw[qD (d5 nd.1.1)];exact g2) (by rw[q1R];lia),?_⟩)⟩;rw[q4O u];refine⟨_,rfl,iV rfl (iF (by rw[qD pc,qD pf];exact wi2) T.aW T.bN rfl ⟨_,rfl,ss,_,rfl,DPut.k (k:=Sum.inr (nm i)) (by rw[qD (d5 nd.2.1),qD (d5 nd.1.2)];exact g3) (by rw[q1R];lia),?_⟩)⟩;rw[q4O u];have ed:∀f:Nat→V,(dN (i+1) nm λj=>if j=i then f i else f j)=dN (i+1) nm f:=λf=>q44 λj _=>by
  by_cases y:j=i
  ·rw[kG y,y]
  rw[kE y]
 have d1:=ed λi=>.int (fst ct i:Nat);have d2:=ed λi=>.int (ct i:Nat);have d3:=ed λi=>.int (sc i:Nat);rw[d1,d2,d3];refine⟨_,rfl,_,rfl,iI ⟨⟨some (.str (nm i)),some (.int (ct i:Nat)),some (.int (sc i:Nat)),by rw[show((fst ct (i+1):Nat):Int)=(fst ct i:Nat)+(ct i:Nat)from wQ _ _];rfl⟩,?_,?_,qF,λb o b1 b2 b3 e=>?_⟩⟩
 ·rw[qD nd.1.2,qD nd.1.1,qF]
 ·rw[qD nd.2.1,qF]
 rw[qD b3,qD b2,qD b1];exact kp b o b1 b2 b3 e
obtain⟨⟨y4,y5,y6,rfl⟩,g1,g2,g3,kp⟩:=hj
rw[ln]at g1 g2 g3
have hn:∀{b:Addr} {o:HO},H b=some o→b≠fs∧b≠cs∧b≠ss:=fun {b o} e=>⟨λy=>(by rw[y,s1.free f1]at e;cases e),λy=>(by rw[y,s1.free f2]at e;cases e),λy=>(by rw[y,s1.free f3]at e;cases e)⟩
refine k fs cs ss H2 ⟨?_,g1,g2,g3,nd.1.2,nd.2.1⟩ nd.1.1 (s1.free f1) (s1.free f2) (s1.free f3) λb o nb e=>?_
·exact kp _ _ (jP wi e1 (by intro y;cases y)) (jP wi e2 (by intro y;cases y)) (jP wi e3 (by intro y;cases y)) wi
obtain⟨z1,z2,z3⟩:=hn e
exact kp b o z1 z2 z3 (wu _ _ nb (s1 _ _ e)))
noncomputable def spTl(t:Adr):Sp:=λvs H Q E=>∃z s n nm ct sc,vs=[.ref z.p]∧PtAt t H z s n nm ct sc∧Unl n nm∧n≤4∧∀l us H',Same H H'→H l=none→H' l=some (.lst us)→Rws H' us n nm ct sc→Q (.ref l) H'
theorem q7F(T:Txt K mg t)(S:Fns K t):S.tP.Ok0 P w mg base 1 (spTl t):=by(
refine S.tP.F.ok0 q71 λcdv A _ s H vs Q E hr h=>?_
obtain⟨z,s',n,nm,ct,sc,rfl,hp,u,n4,q⟩:=h
have hu:=v5 hr
have ob:z.p≠z.ss:=jP hp.o hp.s (by intro z;cases z)
have sz:(4:Nat)<sizeLine:=by decide
refine⟨_,(qC (qP (q8L (yW ["self","name","share"] [0] rfl (qIN (qHJ rR pS PySem.F.type_dict_items qEM (qM (pv 0) rfl))) (λ_ _ _ _ _=>(qG6 (K:=K) (n:=2) rfl rfl (yX (qZ (i:=1) (show List.Nodup (["self","name","share"]:List Str)from by decide) rfl (Or.inl rfl)) (yX (qZ (i:=2) (show List.Nodup (["self","name","share"]:List Str)from by decide) rfl (Or.inl rfl)) q3N)) rfl rfl)) (λ_ _ _ _ _=>v6) (λ_ _ _ _ _=>(q2F (qA (pv 1) (qA (qK hu (q40 (K:=K) rfl (pv 0) rfl) (pv 1) (λ_ _=>rfl)) (qA (pv 2) qE))))) (by kernel_rfl) (qFV (q9U (by decide) (q9U (by decide) qFU))))))),?_⟩
try dsimp-beta-proj-iota-zeta-eta only[wishK,cxK]
refine⟨z.ss,_,hp.s,iV rfl (iF hp.o T.aW T.bN rfl ⟨.inr (.inr (.inl ⟨rfl,.inl ⟨_,hp.s⟩⟩)),z.ss,_,rfl,rfl,hp.s,λv nv=>?_⟩)⟩
have sv:Same H (upd H v (q58 v z.ss)):=Same.upd nv
have vv:(upd H v (q58 v z.ss)) v=some (q58 v z.ss):=qF
generalize upd H v (q58 v z.ss)=H1 at sv vv ⊢
refine⟨v,z.ss,_,rfl,vv,sv _ _ hp.s,λo D H2 nD s2 hD=>?_⟩
have kk:∀x u,x≠z.ss→H x=some u→H2 x=some u:=λx u nx e=>s2 _ _ (by rw[qD nx];exact sv _ _ e)
have fz:H2 z.ss=some (.frz o (.dK (dN n nm λi=>.int (sc i:Nat)))):=s2 _ _ qF
have nDH:H D=none:=by
 cases y':H D with
 |none=>rfl
 |some u=>
  by_cases y:D=z.ss
  ·rw[y,qF]at nD;cases nD
  rw[qD y,sv _ _ y']at nD;cases nD
have Dw:D≠z.ss:=λy=>by rw[y,fz]at hD;cases hD
refine qG0 (D:=D) (λi H3=>H3 z.ss=some (.frz o (.dK (dN n nm λi=>.int (sc i:Nat))))∧(∀x u,x≠z.ss→H x=some u→H3 x=some u)∧∃us,H3 D=some (.lst us)∧Rws H3 us i nm ct sc) ⟨fz,kk,[],hD,rfl,λi hi=>by lia⟩ (λi H3 hp=>hp.1) (λi kv W H3 hk hj nW=>?_) (λH3 hj=>?_)
·obtain⟨fz3,k3,us,hd,pr⟩:=hj;have hi:i<n:=by have:=(hV.mp hk).1;rw[q1R]at this;exact this
 obtain rfl:((Sum.inr (nm i):Key),V.int (sc i:Nat))=kv:=by
  have e:(dN n nm λi=>.int (sc i:Nat))[i]?=some ((Sum.inr (nm i):Key),V.int (sc i:Nat)):=by unfold dN;rw[kX,dH hi];rfl
  rw[e]at hk;exact kI hk
 have sW:Same H3 (upd H3 W (.tup [.str (nm i),.int (sc i:Nat)])):=Same.upd nW;have hW:(upd H3 W (.tup [.str (nm i),.int (sc i:Nat)])) W=some (.tup [.str (nm i),.int (sc i:Nat)]):=qF;show gTup _ _ _ _ _ (upd H3 W (.tup [.str (nm i),.int (sc i:Nat)])) _;generalize upd H3 W (.tup [.str (nm i),.int (sc i:Nat)])=H4 at sW hW ⊢;refine⟨W,_,rfl,SqT.of hW,rfl,_,_,rfl,_,_,rfl,rfl,?_⟩;have gc:=DGet.k (k:=Sum.inr (nm i)) (sW _ _ (k3 _ _ hp.d2 hp.c));rw[zD u hi]at gc;dsimp only[q1N];refine iteT ?_;refine⟨_,rfl,iV rfl (iF (sW _ _ (k3 _ _ ob hp.o)) T.aW T.bO rfl ⟨_,rfl,z.cs,_,rfl,gc,_,rfl,sz3,λtp H5 n5 s5 h5=>?_⟩)⟩;have s35:=sW.trans s5;have hd5:=s35 _ _ hd;have lu:=pr.1;have tpu:∀b xs,H3 b=some (.tup xs)→(upd H5 D (.lst (us++[.ref tp]))) b=some (.tup xs):=λb xs e=>by rw[qD (λy=>by rw[y,hd]at e;cases e)];exact s35 _ _ e
 refine⟨us,hd5,by lia,?_,λx' u' nx e'=>?_,us++[.ref tp],qF,?_⟩
 ·rw[qD Dw.symm];exact s35 _ _ fz3
 ·rw[qD (qG e' nDH)];exact s35 _ _ (k3 _ _ nx e')
 have pr5:=pr.tp tpu;refine⟨by rw[mL,lu];rfl,λj hj=>?_⟩;by_cases y:j<i
 ·obtain⟨v',e,r⟩:=pr5.2 j y;exact⟨v',by rw[rH (by lia)];exact e,r⟩
 obtain rfl:j=i:=by lia
 refine⟨.ref tp,by rw[gO (by lia),lu];simp,tp,rfl,?_⟩;rw[qD (λy=>by rw[y,hd5]at h5;cases h5)];exact h5
obtain⟨fz3,k3,us,hd,pr⟩:=hj
rw[q1R]at pr
refine⟨o,_,fz3,?_⟩
have sH:=qB6 hp.s k3
refine q D us _ sH nDH (by rw[qD Dw];exact hd) (pr.tp λb xs e=>?_)
rw[qD (λy=>by rw[y,fz3]at e;cases e)]
exact e)
noncomputable def mkS(l:List Nat):Str:=⟨l.toArray⟩
theorem qF6{l:List Nat}{c:Nat}:mkS l++(⟨#[c]⟩:Str)=mkS (l++[c]):=by show(⟨l.toArray++#[c]⟩:Str)=⟨(l++[c]).toArray⟩;simp
theorem qCK{l:List Nat}:(mkS l).length=l.length:=by simp[mkS,Str.length]
noncomputable def szS(cell:Int):Nat:=(1+cell%8).toNat
noncomputable def baS(cell:Int)(j:Nat):Int:=(cell / ((j:Int)+2)+3*(j:Int))%26
noncomputable def leS(cell place:Int)(k j:Nat):Nat:=((baS cell j+(k:Int)*(if(j:Int)=place%(szS cell:Int)then 1 else 0))%26).toNat
noncomputable def nmS(cell place:Int)(k:Nat):Str:=mkS ((List.range (szS cell)).map λj=>97+leS cell place k j)
theorem qF7(cell:Int):1≤szS cell∧szS cell≤8∧((szS cell:Nat):Int)=1+cell%8:=by unfold szS;lia
theorem qBI{i:Nat}(h:i<26):atI (Str.ofString "abcdefghijklmnopqrstuvwxyz").cps.toList (i:Int)=some (97+i):=by
 have:∀i:Nat,i<26→atI (Str.ofString "abcdefghijklmnopqrstuvwxyz").cps.toList (i:Int)=some (97+i):=by decide+kernel
 exact this i h
theorem qJ2:∀i,i<26→lowC (97+i)=true:=by decide+kernel
theorem qJ3{cell place:Int}{k:Nat}:isNm (.str (nmS cell place k))=true:=by(
obtain⟨a,b,_⟩:=qF7 cell
have l:(nmS cell place k).length=szS cell:=by unfold nmS;rw[qCK,hU,mU]
show(decide (1≤(nmS cell place k).length)&&decide ((nmS cell place k).length≤8)&&(nmS cell place k).cps.toList.all lowC)=true
rw[l,hI a,hI b]
show(((List.range (szS cell)).map λj=>97+leS cell place k j).toArray.toList.all lowC)=true
rw[lD,aO,gT]
intro j _
refine qJ2 _ ?_
unfold leS
lia)
theorem qGP{cell place:Int}:Unl 4 (nmS cell place):=by(
intro i j hi hj e
obtain⟨a,b,c⟩:=qF7 cell
have e1:((List.range (szS cell)).map λp=>97+leS cell place i p)=(List.range (szS cell)).map λp=>97+leS cell place j p:=by have:=rL (λs:Str=>s.cps.toList) e;simpa[nmS,mkS]using this
have hp:(place%(szS cell:Int)).toNat<szS cell:=by have:=m6 place (show(0:Int)<(szS cell:Int) by lia);have:=gG place (show((szS cell:Nat):Int)≠0 by lia);lia
have e2:=List.map_inj_left.mp e1 _ (mH.mpr hp)
have hq:(((place%(szS cell:Int)).toNat:Nat):Int)=place%(szS cell:Int):=cW (gG place (by lia))
unfold leS at e2
rw[kG hq]at e2
generalize baS cell _=B at e2
lia)
noncomputable def qKL:Sp:=λvs H Q _=>∃cell place:Int,∃many:Nat,vs=[.int cell,.int place,.int (many:Int)]∧many≤4∧∀l H',Same H H'→H l=none→H' l=some (.lst ((List.range many).map λk=>.str (nmS cell place k)))→Q (.ref l) H'
theorem q9C(T:Txt K mg t)(S:Fns K t):S.aAF.Ok0 P w mg base 1 qKL:=by(
refine S.aAF.F.ok0 yE λcdv A _ s H vs Q E hr h=>?_
obtain⟨cell,place,many,rfl,m4,q⟩:=h
obtain⟨z1,z8,ez⟩:=qF7 cell
have sz:(100:Nat)<sizeLine:=by decide
refine⟨_,(qB (qW (i:=3) yE.nd rfl (Or.inl rfl) qI) (qB (qW (i:=4) yE.nd rfl (Or.inl rfl) (qT yN qJ (qT yA (pv 0) qJ))) (qB (q69 (i:=5) ["_law_cell","_law_k"] [0] rfl (vB rfl T.oO (qA (pv 4) qE)) (λ_ _ _ _ _=>(qZ (i:=1) (show List.Nodup (["_law_cell","_law_k"]:List Str)from by decide) rfl (Or.inl rfl))) (λ_ _ _ _ _=>v6) (λ_ _ _ _ _=>(qT yA (qT yN (qT yH (pv 0) (qT yN (pv 1) qJ)) (qT vC qJ (pv 1))) qJ)) (by kernel_rfl) (jY (by decide)) yE.nd rfl (Or.inl rfl)) (qB (qW (i:=6) yE.nd rfl (Or.inl rfl) (jX qE)) (qB (uH gF rfl (vB rfl T.oO (qA (pv 2) qE)) (qZ (i:=7) yE.nd rfl (Or.inl rfl)) (qB (qW (i:=8) yE.nd rfl (Or.inl rfl) qI) (qB (uH gF rfl (vB rfl T.oO (qA (pv 4) qE)) (qZ (i:=9) yE.nd rfl (Or.inl rfl)) (qB (qW (i:=10) yE.nd rfl (Or.inl rfl) (qT vC (pv 7) (vD q0O (by rfl) T.aCX (by kernel_rfl) (qA (yC jR (pv 9) (qT yA (pv 1) (pv 4)) (qO _)) qE)))) (qC (qW (i:=8) yE.nd rfl (Or.inl rfl) (qT q32 (pv 8) (yF qHI (pv 3) (qT yA (qT yN (yF jN (pv 5) (pv 9) (λ_ _=>rfl)) (pv 10)) qJ) (λ_ _=>rfl))))))) (qC (jD (q3S gB m7 m8 yR (pv 6) (qA (pv 8) qE))))))) (qC (qP (pv 6)))))))),?_⟩
try dsimp-beta-proj-iota-zeta-eta only[wishK,cxK]
refine⟨_,rfl,iI ⟨(by show(0:Int)<8;decide),iI ?_⟩⟩
dsimp only
rw[←ez]
refine⟨_,rfl,_,rfl,by lia,by lia,λD H1 nD s1 hD=>?_⟩
rw[mY]
refine q81 (D:=D) (λi H3=>Same H H3∧H3 D=some (.lst ((List.range i).map λj=>.int (baS cell j)))) ⟨s1,hD⟩ (λi H3 hi hp=>?_) (λH3 hp=>?_)
·obtain⟨sm,hd⟩:=hp;have e0:(cell / ((0+(i:Int))+2)+3*(0+(i:Int)))%26=baS cell i:=by rw[rM];rfl
 refine⟨_,rfl,_,rfl,iI (iI ⟨⟨by lia,by lia⟩,_,rfl,iI ⟨.inl ⟨by decide,by decide⟩,iI (iI ⟨(by show(0:Int)<26;decide),_,hd,by rw[hU,mU];lia,λb o e=>?_,?_⟩)⟩⟩)⟩
 ·rw[qD (qG e nD)];exact sm _ _ e
 rw[qF,g9,mB];dsimp only;rw[e0];rfl
obtain⟨sm,hd⟩:=hp
refine⟨sz0,λl H4 nl s4 hl=>?_⟩
have nl0:=sm.free nl
refine⟨_,rfl,_,rfl,by lia,by lia,?_⟩
rw[mY]
have Dl:D≠l:=qG hd nl
refine q10 (λi σ' H5=>(∃y7 y8 y9 y10,σ'=[some (.int cell),some (.int place),some (.int (many:Int)),some (.str "abcdefghijklmnopqrstuvwxyz"),some (.int (szS cell:Nat)),some (.ref D),some (.ref l),y7,y8,y9,y10])∧H5 l=some (.lst ((List.range i).map λk=>.str (nmS cell place k)))∧H5 D=some (.lst ((List.range (szS cell)).map λj=>.int (baS cell j)))∧Same H H5) ⟨⟨_,_,_,_,rfl⟩,hl,s4 _ _ hd,sm.trans s4⟩ (λi σ' H5 D' nxt hi hp=>?_) (λσ' H5 hp=>?_)
·obtain⟨⟨y7,y8,y9,y10,rfl⟩,hl5,hd5,s5⟩:=hp;refine⟨_,rfl,_,rfl,by lia,by lia,?_⟩;rw[mY];refine q10 (λj σ' H6=>(∃y9 y10,σ'=[some (.int cell),some (.int place),some (.int (many:Int)),some (.str "abcdefghijklmnopqrstuvwxyz"),some (.int (szS cell:Nat)),some (.ref D),some (.ref l),some (.int (0+(i:Int))),some (.str (mkS ((List.range j).map λj=>97+leS cell place i j))),y9,y10])∧H6=H5) ⟨⟨_,_,rfl⟩,rfl⟩ (λj σ' H6 D2 nxt2 hj hp=>?_) (λσ' H6 hp=>?_)
 ·obtain⟨⟨y9,y10,rfl⟩,rfl⟩:=hp;refine⟨_,rfl,_,rfl,_,rfl,_,rfl,iI ⟨by lia,rfl,?_⟩⟩;refine .inr ⟨_,rfl,?_⟩;refine(iI ⟨.inl ⟨by lia,by lia⟩,?_⟩);have hle:leS cell place i j<26:=by unfold leS;lia
  have ei:(baS cell j+(0+(i:Int))*(if decide (V.int (0+(j:Int))=V.int (place%(szS cell:Nat)))=true then 1 else 0))%26=((leS cell place i j:Nat):Int):=by
   unfold leS;rw[cW (by lia),rM,rM];by_cases y:(j:Int)=place%(szS cell:Nat)
   ·rw[kG y,hI (by rw[y]),kG rfl]
   rw[kE y,hG (λz=>y (V.int.inj z)),kE (by decide)]
  have hat:atI ((List.range (szS cell)).map λj=>V.int (baS cell j)) (0+(j:Int))=some (.int (baS cell j)):=by rw[rM];exact uZ (by rw[kX,dH hj];rfl)
  refine⟨_,rfl,_,rfl,_,rfl,_,rfl,iL (k:=_) (v:=.int (baS cell j)) (SqL.of hd5) hat ⟨_,rfl,iI (iI ⟨(by show(0:Int)<26;decide),?_⟩)⟩⟩;dsimp only;rw[ei];refine⟨_,_,_,rfl,rfl,by decide,qBI hle,_,_,rfl,rfl,?_,?_⟩
  ·rw[qCK,hU,mU];show j+1≤sizeLine;lia
  have e9:mkS ((List.range j).map λj=>97+leS cell place i j)++(⟨#[97+leS cell place i j]⟩:Str)=mkS ((List.range (j+1)).map λj=>97+leS cell place i j):=by rw[qF6,g9,mB];rfl
  rw[e9];exact nxt2 _ _ ⟨⟨_,_,rfl⟩,rfl⟩
 obtain⟨⟨y9,y10,rfl⟩,rfl⟩:=hp;refine⟨_,rfl,.inl ⟨rfl,_,SqL.of hl5⟩,_,rfl,l,_,_,rfl,rfl,hl5,by rw[hU,mU];lia,?_⟩;refine nxt _ _ ⟨⟨_,_,_,_,rfl⟩,?_,?_,λb o e=>?_⟩
 ·rw[qF,g9,mB];rfl
 ·rw[qD Dl];exact hd5
 rw[qD (qG e nl0)];exact s5 _ _ e
obtain⟨⟨y7,y8,y9,y10,rfl⟩,hl5,hd5,s5⟩:=hp
exact⟨_,rfl,q l H5 s5 nl0 hl5⟩)
noncomputable def nT(ns:List Int):Nat:=(1+yV ns 0%4).toNat
noncomputable def ctT(ns:List Int)(i:Nat):Nat:=(1+yV ns (3+(i:Int))%6).toNat
noncomputable def scT(ns:List Int)(i:Nat):Nat:=(1+yV ns (3+(i:Int)) / 6%4).toNat
noncomputable def nmT(ns:List Int):Nat→Str:=nmS (yV ns 1) (yV ns 2)
theorem tabT{ns:List Int}:TabOk (nT ns) (nmT ns) (ctT ns) (scT ns) where
n4:=by unfold nT;lia
u:=qGP.less (by unfold nT;lia)
nm:=λi _=>qJ3
c1:=λi _=>by unfold ctT;lia
s1:=λi _=>by unfold scT;lia
theorem Rws.snoc{H H':Hp}{us:List V}{i:Nat}{nm:Nat→Str}{ct sc:Nat→Nat}{tp:Addr}(h:Rws H us i nm ct sc)(k:∀b xs,H b=some (.tup xs)→H' b=some (.tup xs))(e:H' tp=some (.tup [.str (nm i),.int (ct i:Nat),.int (sc i:Nat)])):Rws H' (us++[.ref tp]) (i+1) nm ct sc:=by(
have lu:=h.1
have h5:=h.tp k
refine⟨by rw[mL,lu];rfl,λj hj=>?_⟩
by_cases y:j<i
·obtain⟨v',e,r⟩:=h5.2 j y;exact⟨v',by rw[rH (by lia)];exact e,r⟩
obtain rfl:j=i:=by lia
exact⟨.ref tp,by rw[gO (by lia),lu];simp,tp,rfl,e⟩)
noncomputable def spTb(K:W.Frag):Sp:=λvs H Q _=>∃a ns,vs=[.ref a,.int 0]∧SqL K H a (List.map V.int ns)∧∀l us H',Same H H'→H l=none→H' l=some (.lst us)→Rws H' us (nT ns) (nmT ns) (ctT ns) (scT ns)→Q (.ref l) H'
theorem q9D(T:Txt K mg t)(S:Fns K t):S.aAE.Ok0 P w mg base 2 (spTb K):=by(
refine S.aAE.F.ok0 uG λcdv A _ s H vs Q E hr h=>?_
obtain⟨a,ns,rfl,sq,q⟩:=h
have sz:(100:Nat)<sizeLine:=by decide
refine⟨_,(qB (qW (i:=2) uG.nd rfl (Or.inl rfl) (qT yN qJ (qT yA (qX (uB T S).mono hr rfl T.bT T.bS S.bZ.b .nil qQ (qA (pv 0) (qA (pv 1) qE))) qJ))) (qB (qW (i:=3) uG.nd rfl (Or.inl rfl) (qX (q9C T S).mono hr rfl T.aBX T.aB6 S.aAF.b .nil qQ (qA (qX (uB T S).mono hr rfl T.bT T.bS S.bZ.b .nil qQ (qA (pv 0) (qA (qT yN (pv 1) qJ) qE))) (qA (qX (uB T S).mono hr rfl T.bT T.bS S.bZ.b .nil qQ (qA (pv 0) (qA (qT yN (pv 1) qJ) qE))) (qA (pv 2) qE))))) (qB (qW (i:=4) uG.nd rfl (Or.inl rfl) (jX qE)) (qB (uH gF rfl (vB rfl T.oO (qA (pv 2) qE)) (qZ (i:=5) uG.nd rfl (Or.inl rfl)) (qB (qW (i:=6) uG.nd rfl (Or.inl rfl) (qX (uB T S).mono hr rfl T.bT T.bS S.bZ.b .nil qQ (qA (pv 0) (qA (qT yN (qT yN (pv 1) qJ) (pv 5)) qE)))) (qC (jD (q3S gB m7 m8 yR (pv 4) (qA (q2F (qA (yF jN (pv 3) (pv 5) (λ_ _=>rfl)) (qA (qT yN qJ (qT yA (pv 6) qJ)) (qA (qT yN qJ (qT yA (qT yH (pv 6) qJ) qJ)) qE)))) qE q67)))))) (qC (qP (pv 4))))))),?_⟩
try dsimp-beta-proj-iota-zeta-eta only[wishK,cxK]
have eN:((nT ns:Nat):Int)=1+yV ns 0%4:=by unfold nT;lia
have n4:nT ns≤4:=tabT.n4
refine⟨_,rfl,_,rfl,a,ns,0,rfl,sq,by lia,_,_,rfl,rfl,(by show(0:Int)<4;decide),iI ?_⟩
dsimp only
rw[←eN]
refine⟨_,rfl,_,rfl,iI ⟨a,ns,_,rfl,sq,by decide,_,rfl,_,rfl,iI ⟨a,ns,_,rfl,sq,by decide,_,rfl,_,_,nT ns,rfl,n4,λl1 H1 s1 n1 h1=>?_⟩⟩⟩
have h1:H1 l1=some (.lst ((List.range (nT ns)).map λk=>.str (nmT ns k))):=h1
refine⟨sz0,λl H2 nl s2 hl=>?_⟩
have nl0:=s1.free nl
have ll:l1≠l:=qG h1 nl
refine⟨_,rfl,_,rfl,by lia,by lia,?_⟩
rw[mY]
refine q10 (λi σ' H3=>(∃y5 y6,σ'=[some (.ref a),some (.int 0),some (.int (nT ns:Nat)),some (.ref l1),some (.ref l),y5,y6])∧H3 l1=some (.lst ((List.range (nT ns)).map λk=>.str (nmT ns k)))∧Same H H3∧∃us,H3 l=some (.lst us)∧Rws H3 us i (nmT ns) (ctT ns) (scT ns)) ⟨⟨_,_,rfl⟩,s2 _ _ h1,s1.trans s2,[],hl,rfl,λi hi=>by lia⟩ (λi σ' H3 D' nxt hi hp=>?_) (λσ' H3 hp=>?_)
·obtain⟨⟨y5,y6,rfl⟩,h13,s3,us,hl3,pr⟩:=hp;refine⟨_,rfl,_,rfl,iI ⟨_,rfl,iI ⟨a,ns,_,rfl,s3.seq sq,by lia,?_⟩⟩⟩;refine⟨_,rfl,.inl ⟨rfl,_,SqL.of hl3⟩,?_⟩;have hat:atI ((List.range (nT ns)).map λk=>V.str (nmT ns k)) (0+(i:Int))=some (.str (nmT ns i)):=by rw[rM];exact uZ (by rw[kX,dH hi];rfl)
 have ec:yV ns (0+3+(0+(i:Int)))=yV ns (3+(i:Int)):=by rw[rM,rM]
 rw[ec];have e1:1+yV ns (3+(i:Int))%6=((ctT ns i:Nat):Int):=by unfold ctT;lia
 have e2:1+yV ns (3+(i:Int)) / 6%4=((scT ns i:Nat):Int):=by unfold scT;lia
 refine⟨_,rfl,_,rfl,iL (k:=_) (v:=_) (SqL.of h13) hat ⟨_,rfl,iI ⟨(by show(0:Int)<6;decide),iI ⟨_,rfl,iI ⟨⟨by show(0:Int)<6;decide,by decide⟩,iI ⟨(by show(0:Int)<4;decide),iI ⟨sz3,λtp H4 n4' s4 h4=>?_⟩⟩⟩⟩⟩⟩⟩;dsimp only at h4;rw[e1,e2]at h4;have lu:=pr.1;refine⟨l,_,_,rfl,rfl,s4 _ _ hl3,by lia,?_⟩;refine nxt _ _ ⟨⟨_,_,rfl⟩,?_,λb o e=>?_,_,qF,?_⟩
 ·rw[qD ll];exact s4 _ _ h13
 ·rw[qD (qG e nl0)];exact s4 _ _ (s3 _ _ e)
 refine pr.snoc (λb xs e=>?_) ?_
 ·rw[qD (λy=>by rw[y,hl3]at e;cases e)];exact s4 _ _ e
 rw[qD (λy=>by rw[y,s4 _ _ hl3]at h4;cases h4)];exact h4
obtain⟨⟨y5,y6,rfl⟩,h13,s3,us,hl3,pr⟩:=hp
exact⟨_,rfl,q l us H3 s3 nl0 hl3 pr⟩)
inductive Kw(t:Adr):Addr→Str→Prop
|part:Kw t t.C_NoPart "no part"
|sheet:Kw t t.C_NoSheet "no sheet"
|value:Kw t t.C_NoValue "no value"
|full:Kw t t.C_Full "full"
|dark:Kw t t.C_PowerGone "dark"
noncomputable def spKi(t:Adr):Sp:=λvs H Q _=>∃ea C w,vs=[.ref ea]∧Kw t C w∧XAny H ea (.ref C) none∧∀p H',H p=none→Same H H'→H' p=some (.lst [.str w])→Q (.ref p) H'
theorem q7G(T:Txt K mg t)(S:Fns K t):FnOkU P w K mg base CX0 1 t.f_law_kinds S.aAL.fd ["_law_e"] (spKi t):=by(
refine S.aAL.F.okU q4B (λvs H Q E h=>?_) (λcdv A outer s H vs Q E hr h=>?_)
·repeat obtain⟨_,h⟩:=h
 all_goals subst_vars;rfl
obtain⟨ea,C,w',rfl,kw,hx,q⟩:=h
refine⟨_,(qB (qW (i:=1) q4B.nd rfl (Or.inl rfl) (jX qE)) (qB (qV (jI (qS jK (by rfl) T.aY (by kernel_rfl) (qA (pv 0) (qA (uN rfl T.aBZ rfl (v:=.ref t.C_NoPart)) qE)))) (qC (jD (q3S gB m7 m8 yR (pv 1) (qA qI qE)))) qL) (qB (qV (jI (qS jK (by rfl) T.aY (by kernel_rfl) (qA (pv 0) (qA (uN rfl T.aBD rfl (v:=.ref t.C_NoSheet)) qE)))) (qC (jD (q3S gB m7 m8 yR (pv 1) (qA qI qE)))) qL) (qB (qV (jI (qS jK (by rfl) T.aY (by kernel_rfl) (qA (pv 0) (qA (uN rfl T.aBC rfl (v:=.ref t.C_NoValue)) qE)))) (qC (jD (q3S gB m7 m8 yR (pv 1) (qA qI qE)))) qL) (qB (qV (jI (qS jK (by rfl) T.aY (by kernel_rfl) (qA (pv 0) (qA (uN rfl T.aDD rfl (v:=.ref t.C_Full)) qE)))) (qC (jD (q3S gB m7 m8 yR (pv 1) (qA qI qE)))) qL) (qB (qV (jI (qS jK (by rfl) T.aY (by kernel_rfl) (qA (pv 0) (qA (uN rfl T.tY rfl (v:=.ref t.C_PowerGone)) qE)))) (qC (jD (q3S gB m7 m8 yR (pv 1) (qA qI qE)))) qL) (qB (qV (jZ (jI (qS jK (by rfl) T.aY (by kernel_rfl) (qA (pv 0) (qA (vJ rfl T.aCH (by kernel_rfl) rfl (v:=.ty "ValueError")) qE))))) (qC (jD (q3S gB m7 m8 yR (pv 1) (qA qI qE)))) qL) (qC (qP (pv 1)))))))))),?_⟩
try dsimp-beta-proj-iota-zeta-eta only[wishK,cxK]
refine⟨sz0,λp H1 n1 s1 h1=>?_⟩
have s2:∀y:Str,Same H (upd H1 p (.lst ([]++[.str y]))):=λy b o e=>by rw[qD (qG e n1)];exact s1 _ _ e
have h2:∀y:Str,(upd H1 p (.lst ([]++[.str y]))) p=some (.lst [.str y]):=λy=>qF
cases kw with
|part=>have kn:∀{H'},Same H H'→KndT K H' (.ref ea) (.ref t.C_NoPart):=λs=>.inr ⟨ea,_,none,rfl,rfl,XAny.same s hx,T.aDH,.inl rfl⟩;refine⟨_,rfl,.ref ea,_,_,_,_,rfl,rfl,kn s1,T.t8,_,rfl,iteT ?_⟩;refine⟨_,rfl,.inl ⟨rfl,_,SqL.of h1⟩,p,[],_,rfl,rfl,h1,by show 0<sizeLine;decide,?_⟩;have s2:=s2 "no part";have h2:=h2 "no part";generalize upd H1 p (.lst ([]++[.str "no part"]))=H2 at s2 h2 ⊢;refine⟨_,rfl,.ref ea,_,_,_,_,rfl,rfl,kn s2,T.tM,_,rfl,iteF ?_⟩;refine⟨_,rfl,.ref ea,_,_,_,_,rfl,rfl,kn s2,T.tN,_,rfl,iteF ?_⟩;refine⟨_,rfl,.ref ea,_,_,_,_,rfl,rfl,kn s2,T.aA7,_,rfl,iteF ?_⟩;refine⟨_,rfl,.ref ea,_,_,_,_,rfl,rfl,kn s2,T.oU,_,rfl,iteF ?_⟩;refine⟨_,rfl,.ref ea,_,_,_,_,rfl,rfl,kn s2,T.i6,_,rfl,iteF ?_⟩;exact⟨_,rfl,q p H2 n1 s2 h2⟩
|sheet=>have kn:∀{H'},Same H H'→KndT K H' (.ref ea) (.ref t.C_NoSheet):=λs=>.inr ⟨ea,_,none,rfl,rfl,XAny.same s hx,T.aC8,.inl rfl⟩;refine⟨_,rfl,.ref ea,_,_,_,_,rfl,rfl,kn s1,T.tO,_,rfl,iteF ?_⟩;refine⟨_,rfl,.ref ea,_,_,_,_,rfl,rfl,kn s1,T.oX,_,rfl,iteT ?_⟩;refine⟨_,rfl,.inl ⟨rfl,_,SqL.of h1⟩,p,[],_,rfl,rfl,h1,by show 0<sizeLine;decide,?_⟩;have s2:=s2 "no sheet";have h2:=h2 "no sheet";generalize upd H1 p (.lst ([]++[.str "no sheet"]))=H2 at s2 h2 ⊢;refine⟨_,rfl,.ref ea,_,_,_,_,rfl,rfl,kn s2,T.o8,_,rfl,iteF ?_⟩;refine⟨_,rfl,.ref ea,_,_,_,_,rfl,rfl,kn s2,T.aAM,_,rfl,iteF ?_⟩;refine⟨_,rfl,.ref ea,_,_,_,_,rfl,rfl,kn s2,T.i9,_,rfl,iteF ?_⟩;refine⟨_,rfl,.ref ea,_,_,_,_,rfl,rfl,kn s2,T.iJ,_,rfl,iteF ?_⟩;exact⟨_,rfl,q p H2 n1 s2 h2⟩
|value=>have kn:∀{H'},Same H H'→KndT K H' (.ref ea) (.ref t.C_NoValue):=λs=>.inr ⟨ea,_,none,rfl,rfl,XAny.same s hx,T.aC2,.inl rfl⟩;refine⟨_,rfl,.ref ea,_,_,_,_,rfl,rfl,kn s1,T.tQ,_,rfl,iteF ?_⟩;refine⟨_,rfl,.ref ea,_,_,_,_,rfl,rfl,kn s1,T.oZ,_,rfl,iteF ?_⟩;refine⟨_,rfl,.ref ea,_,_,_,_,rfl,rfl,kn s1,T.o6,_,rfl,iteT ?_⟩;refine⟨_,rfl,.inl ⟨rfl,_,SqL.of h1⟩,p,[],_,rfl,rfl,h1,by show 0<sizeLine;decide,?_⟩;have s2:=s2 "no value";have h2:=h2 "no value";generalize upd H1 p (.lst ([]++[.str "no value"]))=H2 at s2 h2 ⊢;refine⟨_,rfl,.ref ea,_,_,_,_,rfl,rfl,kn s2,T.aAR,_,rfl,iteF ?_⟩;refine⟨_,rfl,.ref ea,_,_,_,_,rfl,rfl,kn s2,T.i5,_,rfl,iteF ?_⟩;refine⟨_,rfl,.ref ea,_,_,_,_,rfl,rfl,kn s2,T.iS,_,rfl,iteF ?_⟩;exact⟨_,rfl,q p H2 n1 s2 h2⟩
|full=>have kn:∀{H'},Same H H'→KndT K H' (.ref ea) (.ref t.C_Full):=λs=>.inr ⟨ea,_,none,rfl,rfl,XAny.same s hx,T.aD2,.inl rfl⟩;refine⟨_,rfl,.ref ea,_,_,_,_,rfl,rfl,kn s1,T.aA3,_,rfl,iteF ?_⟩;refine⟨_,rfl,.ref ea,_,_,_,_,rfl,rfl,kn s1,T.aAN,_,rfl,iteF ?_⟩;refine⟨_,rfl,.ref ea,_,_,_,_,rfl,rfl,kn s1,T.aAW,_,rfl,iteF ?_⟩;refine⟨_,rfl,.ref ea,_,_,_,_,rfl,rfl,kn s1,T.aB8,_,rfl,iteT ?_⟩;refine⟨_,rfl,.inl ⟨rfl,_,SqL.of h1⟩,p,[],_,rfl,rfl,h1,by show 0<sizeLine;decide,?_⟩;have s2:=s2 "full";have h2:=h2 "full";generalize upd H1 p (.lst ([]++[.str "full"]))=H2 at s2 h2 ⊢;refine⟨_,rfl,.ref ea,_,_,_,_,rfl,rfl,kn s2,T.tD,_,rfl,iteF ?_⟩;refine⟨_,rfl,.ref ea,_,_,_,_,rfl,rfl,kn s2,T.oW,_,rfl,iteF ?_⟩;exact⟨_,rfl,q p H2 n1 s2 h2⟩
|dark=>have kn:∀{H'},Same H H'→KndT K H' (.ref ea) (.ref t.C_PowerGone):=λs=>.inr ⟨ea,_,none,rfl,rfl,XAny.same s hx,T.aBV,.inl rfl⟩;refine⟨_,rfl,.ref ea,_,_,_,_,rfl,rfl,kn s1,T.oJ,_,rfl,iteF ?_⟩;refine⟨_,rfl,.ref ea,_,_,_,_,rfl,rfl,kn s1,T.i4,_,rfl,iteF ?_⟩;refine⟨_,rfl,.ref ea,_,_,_,_,rfl,rfl,kn s1,T.i7,_,rfl,iteF ?_⟩;refine⟨_,rfl,.ref ea,_,_,_,_,rfl,rfl,kn s1,T.tR,_,rfl,iteF ?_⟩;refine⟨_,rfl,.ref ea,_,_,_,_,rfl,rfl,kn s1,T.iG,_,rfl,iteT ?_⟩;refine⟨_,rfl,.inl ⟨rfl,_,SqL.of h1⟩,p,[],_,rfl,rfl,h1,by show 0<sizeLine;decide,?_⟩;have s2:=s2 "dark";have h2:=h2 "dark";generalize upd H1 p (.lst ([]++[.str "dark"]))=H2 at s2 h2 ⊢;refine⟨_,rfl,.ref ea,_,_,_,_,rfl,rfl,kn s2,T.f7,_,rfl,iteF ?_⟩;exact⟨_,rfl,q p H2 n1 s2 h2⟩)
noncomputable def dQ(a:V)(b1 b2:Bool)(w:Str)(o v:V):List (Key×V):=[((Sum.inr "name":Key),a),((Sum.inr "bad sheet":Key),.bl b1),((Sum.inr "bad value":Key),.bl b2),((Sum.inr "word":Key),.str w),((Sum.inr "one":Key),o),((Sum.inr "other":Key),v)]
noncomputable def tA(Q:VK)(w:Str)(v:V)(H:Hp):Prop:=∀u l H',Same H H'→H' u=some (.tup [.ref l,v])→H' l=some (.lst [.str w])→Q (.ref u) H'
structure AkR(t:Adr)(H:Hp)(Q:VK)(x:Sto)(so:Nat)(sr:Int)(m:CM)(q:QM)(n':Nat)(W:Mp)(dk:Bool)(ct sc:Nat→Nat)(i:Nat)(w:Str)(o v:V)(us:List V):Prop where
wr:w="write"→(∀j:Int,o=.int j→0≤j→j<((ct i:Nat):Int)→(inB v 0 (10 ^ 30-1)=false→tA Q "no value" .non H)∧(∀c:Int,v=.int c→0≤c→c<10 ^ 30→(¬((fst ct i:Nat)+j∈W.map (·.1)∨(cutP (fst ct i) (ct i) (W.map (·.1))).length<sc i)→tA Q "full" .non H)∧(((fst ct i:Nat)+j∈W.map (·.1)∨(cutP (fst ct i) (ct i) (W.map (·.1))).length<sc i)→((fst ct i:Nat)+j∈W.map (·.1)∨((W.length:Nat):Int)<sr)∧(dk=false→∀m' q' H',PS t H' x so sr m' q' (n'+1) (putW W ((fst ct i:Nat)+j) c) false→q'.B=q.B→q'.P=q.P→((fst ct i:Nat)+j,(n':Int))∈q'.V→Keep (t.aT::sf x) H H'→tA Q "done" (.int (n':Int)) H')∧(dk=true→∀H',PS t H' x so sr m q n' W true→Keep (t.aT::sf x) H H'→tA Q "dark" .non H'))))
wb:w="write"∨w="read"→inB o 0 (((ct i:Nat):Int)-1)=false→tA Q "no sheet" .non H
rd:w="read"→∀j:Int,o=.int j→0≤j→j<((ct i:Nat):Int)→((fst ct i:Nat)+j∉W.map (·.1)→tA Q "done" .non H)∧(∀v,((fst ct i:Nat)+j,v)∈W→if dk=true then tA Q "dark" .non H else tA Q "done" (.int v) H)
gv:w="give"→∀ss:List Int,us=ss.map V.int→(∀j∈ss,0≤j∧j<((ct i:Nat):Int))→GvR t H (λv H'=>tA Q "done" v H') (λ_ _ H'=>tA Q "dark" .non H') x so sr m q n' W dk ct i ss
gb:w="give"→(∃v∈us,inB v 0 (((ct i:Nat):Int)-1)=false)→tA Q "no sheet" .non H
em:w="empty"→∀ks H',HeldIs q ks→Same H H'→GvR t H' (λv H'=>tA Q "done" v H') (λ_ _ H'=>tA Q "dark" .non H') x so sr m q n' W dk ct i (cutP (fst ct i) (ct i) ks)
hl:w="held"→∀l ks H',HeldIs q ks→Same H H'→H l=none→H' l=some (.lst ((cutP (fst ct i) (ct i) ks).map V.int))→tA Q "done" (.ref l) H'
ro:w="room"→tA Q "done" (.int (max 0 ((sc i:Nat)-((cutP (fst ct i) (ct i) (W.map (·.1))).length:Int)))) H
sh:w="share"→tA Q "done" (.int (sc i:Nat)) H
noncomputable def Wrd(w:Str):Prop:=w="write"∨w="read"∨w="give"∨w="empty"∨w="held"∨w="room"∨w="share"
noncomputable def spAk(t:Adr):Sp:=λvs H Q _=>∃z x so sr m q n' W dk n nm ct sc ya a b1 b2 w o v us,vs=[.ref z.p,.ref ya]∧H ya=some (.dK (dQ a b1 b2 w o v))∧PtAt t H z x.s n nm ct sc∧PS t H x so sr m q n' W dk∧Unl n nm∧fst ct n≤so∧n'<q.B*q.P∧n'<1000∧Fl a∧Fl v∧Wrd w∧(w≠"give"→Fl o)∧(w="give"→∃l,o=.ref l∧H l=some (.lst us)∧us.length≤100∧∀v∈us,Fl v)∧(¬isP n nm a→tA Q "no part" .non H)∧∀i,i<n→a=.str (nm i)→AkR t H Q x so sr m q n' W dk ct sc i w o v us
theorem q9E(T:Txt K mg t)(S:Fns K t)(B:BmIn base mg):S.aAH.Ok0 P w mg base 15 (spAk t):=by(
refine S.aAH.F.ok0 jT λcdv A _ s H vs Q E hr h=>?_
obtain⟨z,x,so,sr,m,q,n',W,dk,n,nm,ct,sc,ya,a,b1,b2,w',o,v,us,rfl,ha,hp,hs,u,hso,nb,n9,fa,fv,wd,fo,fg,kp,ki⟩:=h
have hu:=v5 hr
have z2:(2:Nat)≤sizeLine:=by decide
refine⟨_,(qB (qW (i:=2) jT.nd rfl (Or.inl rfl) (jX (qA qI qE))) (qB (qW (i:=3) jT.nd rfl (Or.inl rfl) uO) (qB (qID (λpins XE ES tk1 po1=>(qC (qV (qN jR (qK hu (pv 1) qI (λ_ _=>rfl)) qI (qO _)) (qC (qW (i:=3) jT.nd rfl (Or.inl rfl) (jB tk1 (pv 0) T.aW T.aBU (q6T T S B).mono hr S.oN.b .nil (qA (qK hu (pv 1) qI (λ_ _=>rfl)) (qA (qK hu (pv 1) qI (λ_ _=>rfl)) (qA (qK hu (pv 1) qI (λ_ _=>rfl)) qE)))))) (qC (qV (qN jR (qK hu (pv 1) qI (λ_ _=>rfl)) qI (qO _)) (qC (qW (i:=3) jT.nd rfl (Or.inl rfl) (jB tk1 (pv 0) T.aW T.aCD (q7D T S).mono hr S.tJ.b .nil (qA (qK hu (pv 1) qI (λ_ _=>rfl)) (qA (qK hu (pv 1) qI (λ_ _=>rfl)) qE))))) (qC (qV (qN jR (qK hu (pv 1) qI (λ_ _=>rfl)) qI (qO _)) (qC (qW (i:=3) jT.nd rfl (Or.inl rfl) (jB tk1 (pv 0) T.aW T.iO (q0S T S B).mono hr S.eZ.b .nil (qA (qK hu (pv 1) qI (λ_ _=>rfl)) (qA (qK hu (pv 1) qI (λ_ _=>rfl)) qE))))) (qC (qV (qN jR (qK hu (pv 1) qI (λ_ _=>rfl)) qI (qO _)) (qC (qW (i:=3) jT.nd rfl (Or.inl rfl) (jB tk1 (pv 0) T.aW T.aBT (q6V T S B).mono hr S.oQ.b .nil (qA (qK hu (pv 1) qI (λ_ _=>rfl)) qE)))) (qC (qV (qN jR (qK hu (pv 1) qI (λ_ _=>rfl)) qI (qO _)) (qC (qW (i:=3) jT.nd rfl (Or.inl rfl) (jB tk1 (pv 0) T.aW T.eQ (uM T S).mono hr S.eI.b .nil (qA (qK hu (pv 1) qI (λ_ _=>rfl)) qE)))) (qC (qV (qN jR (qK hu (pv 1) qI (λ_ _=>rfl)) qI (qO _)) (qC (qW (i:=3) jT.nd rfl (Or.inl rfl) (jB tk1 (pv 0) T.aW T.iH (q0N T S).mono hr S.fT.b .nil (qA (qK hu (pv 1) qI (λ_ _=>rfl)) qE)))) (qC (qW (i:=3) jT.nd rfl (Or.inl rfl) (jB tk1 (pv 0) T.aW T.iE (q09 T S).mono hr S.eM.b .nil (qA (qK hu (pv 1) qI (λ_ _=>rfl)) qE))))))))))))))))) (qJZ (i:=4) jT.nd rfl rfl rfl (λea=>(uN rfl T.aB4 rfl (v:=.ref t.C_WornError))) rfl (λea=>(qC (qW (i:=2) jT.nd rfl (Or.inl rfl) (qF1 (q7G T S).mono hr.u rfl T.aCG T.aB1 S.aAL.b .nil qQ (qA (pv 4) qE))))) (qIC vP))) (qC (qP (q2F (qA (pv 2) (qA (pv 3) qE)))))))),?_⟩
try dsimp-beta-proj-iota-zeta-eta only[wishK,cxK]
refine⟨sz1,λl H1 n1 s1 h1=>?_⟩
have ha1:=s1 _ _ ha
have hp1:=hp.same s1
have hs1:=hs.same s1
have gw:DGet H1 ya (.str "word") (some (.str w')):=DGet.k (k:=Sum.inr "word") ha1
have gn:DGet H1 ya (.str "name") (some a):=DGet.k (k:=Sum.inr "name") ha1
have go:DGet H1 ya (.str "one") (some o):=DGet.k (k:=Sum.inr "one") ha1
have gv:DGet H1 ya (.str "other") (some v):=DGet.k (k:=Sum.inr "other") ha1
have nl:l∉t.aT::sf x:=hs.st.off n1
refine⟨_,rfl,ya,_,rfl,gw,rfl,_,rfl,?_⟩
rcases wd with rfl|rfl|rfl|rfl|rfl|rfl|rfl
·rw[hI rfl];refine iteT ?_;refine(iV rfl (iM hp1.o rfl ⟨_,rfl,ya,_,rfl,gn,_,rfl,ya,_,rfl,go,_,rfl,ya,_,rfl,gv,?_⟩));dsimp only[tNil,dC,dJ];have ko:=fo (by decide);refine⟨z,x,so,sr,m,q,n',W,dk,n,nm,ct,sc,a,o,v,rfl,hp1,hs1,u,hso,nb,n9,fa.knd,ko.knd,fv.knd,λi hi ea=>⟨λj ej j0 j1=>⟨λb=>?_,λc ec c0 c1=>⟨λb H2 s2=>?_,λb=>⟨?_,λd m' q' H' e1 e2 e3 e4 e5=>?_,λd H' e1 e2=>?_⟩⟩⟩,λb=>?_⟩,λb=>?_⟩
 ·intro ea' hea;exact⟨_,T.i8,iteT ⟨_,rfl,ea',_,_,rfl,.value,.inl qF,λp Ha na sa ha'=>⟨_,rfl,_,rfl,z2,λu2 Hb nb' sb eb=>(((ki i hi ea).wr rfl j ej j0 j1).1 b) u2 p Hb (s1.trans ((Same.upd hea).trans (sa.trans sb))) eb (sb _ _ ha')⟩⟩⟩
 ·intro ea' hea;exact⟨_,T.tG,iteT ⟨_,rfl,ea',_,_,rfl,.full,.inl qF,λp Ha na sa ha'=>⟨_,rfl,_,rfl,z2,λu2 Hb nb' sb eb=>((((ki i hi ea).wr rfl j ej j0 j1).2 c ec c0 c1).1 b) u2 p Hb (s1.trans (s2.trans ((Same.upd hea).trans (sa.trans sb)))) eb (sb _ _ ha')⟩⟩⟩
 ·exact((((ki i hi ea).wr rfl j ej j0 j1).2 c ec c0 c1).2 b).1
 ·exact⟨_,rfl,_,rfl,z2,λu2 Hb nb' sb eb=>(((((ki i hi ea).wr rfl j ej j0 j1).2 c ec c0 c1).2 b).2.1 d m' q' H' e1 e2 e3 e4 ((Keep.same s1).trans e5)) u2 l Hb sb eb (sb _ _ (e5.k _ _ nl h1))⟩
 ·intro ea' hea;exact⟨_,T.bH,iteT ⟨_,rfl,ea',_,_,rfl,.dark,.inl qF,λp Ha na sa ha'=>⟨_,rfl,_,rfl,z2,λu2 Hb nb' sb eb=>(((((ki i hi ea).wr rfl j ej j0 j1).2 c ec c0 c1).2 b).2.2 d H' e1 ((Keep.same s1).trans e2)) u2 p Hb ((Same.upd hea).trans (sa.trans sb)) eb (sb _ _ ha')⟩⟩⟩
 ·intro ea' hea;exact⟨_,T.bQ,iteT ⟨_,rfl,ea',_,_,rfl,.sheet,.inl qF,λp Ha na sa ha'=>⟨_,rfl,_,rfl,z2,λu2 Hb nb' sb eb=>((ki i hi ea).wb (.inl rfl) b) u2 p Hb (s1.trans ((Same.upd hea).trans (sa.trans sb))) eb (sb _ _ ha')⟩⟩⟩
 intro ea' hea;exact⟨_,T.aZ,iteT ⟨_,rfl,ea',_,_,rfl,.part,.inl qF,λp Ha na sa ha'=>⟨_,rfl,_,rfl,z2,λu2 Hb nb' sb eb=>(kp b) u2 p Hb (s1.trans ((Same.upd hea).trans (sa.trans sb))) eb (sb _ _ ha')⟩⟩⟩
·rw[hG (by intro z;injection z with z;revert z;decide)];refine iteF ?_;refine⟨_,rfl,ya,_,rfl,gw,rfl,_,rfl,?_⟩;rw[hI rfl];refine iteT ?_;refine(iV rfl (iM hp1.o rfl ⟨_,rfl,ya,_,rfl,gn,_,rfl,ya,_,rfl,go,?_⟩));dsimp only[tNil,dC,dJ];have ko:=fo (by decide);refine⟨z,x,so,sr,m,q,n',W,dk,n,nm,ct,sc,a,o,rfl,hp1,hs1,u,hso,fa.knd,ko.knd,λi hi ea=>⟨λj ej j0 j1=>⟨λb H2 s2=>?_,λv hv H2 s2=>?_⟩,λb=>?_⟩,λb=>?_⟩
 ·exact⟨_,rfl,_,rfl,z2,λu2 Hb nb' sb eb=>(((ki i hi ea).rd rfl j ej j0 j1).1 b) u2 l Hb (s1.trans (s2.trans sb)) eb (sb _ _ (s2 _ _ h1))⟩
 ·have kk:=((ki i hi ea).rd rfl j ej j0 j1).2 v hv;cases dk with
  |true=>refine iteT ?_;intro ea' hea;exact⟨_,T.bH,iteT ⟨_,rfl,ea',_,_,rfl,.dark,.inl qF,λp Ha na sa ha'=>⟨_,rfl,_,rfl,z2,λu2 Hb nb' sb eb=>(kk) u2 p Hb (s1.trans (s2.trans ((Same.upd hea).trans (sa.trans sb)))) eb (sb _ _ ha')⟩⟩⟩
  |false=>exact iteF ⟨_,rfl,_,rfl,z2,λu2 Hb nb' sb eb=>kk u2 l Hb (s1.trans (s2.trans sb)) eb (sb _ _ (s2 _ _ h1))⟩
 ·intro ea' hea;exact⟨_,T.bQ,iteT ⟨_,rfl,ea',_,_,rfl,.sheet,.inl qF,λp Ha na sa ha'=>⟨_,rfl,_,rfl,z2,λu2 Hb nb' sb eb=>((ki i hi ea).wb (.inr rfl) b) u2 p Hb (s1.trans ((Same.upd hea).trans (sa.trans sb))) eb (sb _ _ ha')⟩⟩⟩
 intro ea' hea;exact⟨_,T.aZ,iteT ⟨_,rfl,ea',_,_,rfl,.part,.inl qF,λp Ha na sa ha'=>⟨_,rfl,_,rfl,z2,λu2 Hb nb' sb eb=>(kp b) u2 p Hb (s1.trans ((Same.upd hea).trans (sa.trans sb))) eb (sb _ _ ha')⟩⟩⟩
·rw[hG (by intro z;injection z with z;revert z;decide)];refine iteF ?_;refine⟨_,rfl,ya,_,rfl,gw,rfl,_,rfl,?_⟩;rw[hG (by intro z;injection z with z;revert z;decide)];refine iteF ?_;refine⟨_,rfl,ya,_,rfl,gw,rfl,_,rfl,?_⟩;rw[hI rfl];refine iteT ?_;obtain⟨lo,rfl,hlo,l9,flu⟩:=fg rfl;refine(iV rfl (iM hp1.o rfl ⟨_,rfl,ya,_,rfl,gn,_,rfl,ya,_,rfl,go,?_⟩));dsimp only[tNil,dC,dJ];refine⟨z,x,so,sr,m,q,n',W,dk,n,nm,ct,sc,a,lo,us,rfl,hp1,hs1,u,hso,nb,n9,fa.knd,s1 _ _ hlo,l9,flu,λi hi ea=>⟨λss es hss=>?_,λb H2 s2=>?_⟩,λb=>?_⟩
 ·obtain⟨r1,r2⟩:=(ki i hi ea).gv rfl ss es hss;refine⟨λc H2 s2=>?_,λc=>⟨λd m' q' tp mk H' e1 e2 e3 e4 e5 e6 e7=>?_,λd H' e1 e2=>?_⟩⟩
  ·exact⟨_,rfl,_,rfl,z2,λu2 Hb nb' sb eb=>(r1 c H2 (s1.trans s2)) u2 l Hb sb eb (sb _ _ (s2 _ _ h1))⟩
  ·exact⟨_,rfl,_,rfl,z2,λu2 Hb nb' sb eb=>((r2 c).1 d m' q' tp mk H' e1 e2 e3 e4 e5 e6 ((Keep.same s1).trans e7)) u2 l Hb sb eb (sb _ _ (e7.k _ _ nl h1))⟩
  intro ea' hea;exact⟨_,T.bH,iteT ⟨_,rfl,ea',_,_,rfl,.dark,.inl qF,λp Ha na sa ha'=>⟨_,rfl,_,rfl,z2,λu2 Hb nb' sb eb=>((r2 c).2 d H' e1 ((Keep.same s1).trans e2)) u2 p Hb ((Same.upd hea).trans (sa.trans sb)) eb (sb _ _ ha')⟩⟩⟩
 ·intro ea' hea;exact⟨_,T.bQ,iteT ⟨_,rfl,ea',_,_,rfl,.sheet,.inl qF,λp Ha na sa ha'=>⟨_,rfl,_,rfl,z2,λu2 Hb nb' sb eb=>((ki i hi ea).gb rfl b) u2 p Hb (s1.trans (s2.trans ((Same.upd hea).trans (sa.trans sb)))) eb (sb _ _ ha')⟩⟩⟩
 intro ea' hea;exact⟨_,T.aZ,iteT ⟨_,rfl,ea',_,_,rfl,.part,.inl qF,λp Ha na sa ha'=>⟨_,rfl,_,rfl,z2,λu2 Hb nb' sb eb=>(kp b) u2 p Hb (s1.trans ((Same.upd hea).trans (sa.trans sb))) eb (sb _ _ ha')⟩⟩⟩
·rw[hG (by intro z;injection z with z;revert z;decide)];refine iteF ?_;refine⟨_,rfl,ya,_,rfl,gw,rfl,_,rfl,?_⟩;rw[hG (by intro z;injection z with z;revert z;decide)];refine iteF ?_;refine⟨_,rfl,ya,_,rfl,gw,rfl,_,rfl,?_⟩;rw[hG (by intro z;injection z with z;revert z;decide)];refine iteF ?_;refine⟨_,rfl,ya,_,rfl,gw,rfl,_,rfl,?_⟩;rw[hI rfl];refine iteT ?_;refine(iV rfl (iM hp1.o rfl ⟨_,rfl,ya,_,rfl,gn,?_⟩));dsimp only[tNil,dC,dJ];refine⟨z,x,so,sr,m,q,n',W,dk,n,nm,ct,sc,a,rfl,hp1,hs1,u,hso,nb,n9,fa.knd,λi hi ea ks H2 hk s2=>?_,λb=>?_⟩
 ·obtain⟨r1,r2⟩:=(ki i hi ea).em rfl ks H2 hk (s1.trans s2);refine⟨λc H3 s3=>?_,λc=>⟨λd m' q' tp mk H' e1 e2 e3 e4 e5 e6 e7=>?_,λd H' e1 e2=>?_⟩⟩
  ·exact⟨_,rfl,_,rfl,z2,λu2 Hb nb' sb eb=>(r1 c H3 s3) u2 l Hb sb eb (sb _ _ (s3 _ _ (s2 _ _ h1)))⟩
  ·exact⟨_,rfl,_,rfl,z2,λu2 Hb nb' sb eb=>((r2 c).1 d m' q' tp mk H' e1 e2 e3 e4 e5 e6 e7) u2 l Hb sb eb (sb _ _ (e7.k _ _ nl (s2 _ _ h1)))⟩
  intro ea' hea;exact⟨_,T.bH,iteT ⟨_,rfl,ea',_,_,rfl,.dark,.inl qF,λp Ha na sa ha'=>⟨_,rfl,_,rfl,z2,λu2 Hb nb' sb eb=>((r2 c).2 d H' e1 e2) u2 p Hb ((Same.upd hea).trans (sa.trans sb)) eb (sb _ _ ha')⟩⟩⟩
 intro ea' hea;exact⟨_,T.aZ,iteT ⟨_,rfl,ea',_,_,rfl,.part,.inl qF,λp Ha na sa ha'=>⟨_,rfl,_,rfl,z2,λu2 Hb nb' sb eb=>(kp b) u2 p Hb (s1.trans ((Same.upd hea).trans (sa.trans sb))) eb (sb _ _ ha')⟩⟩⟩
·rw[hG (by intro z;injection z with z;revert z;decide)];refine iteF ?_;refine⟨_,rfl,ya,_,rfl,gw,rfl,_,rfl,?_⟩;rw[hG (by intro z;injection z with z;revert z;decide)];refine iteF ?_;refine⟨_,rfl,ya,_,rfl,gw,rfl,_,rfl,?_⟩;rw[hG (by intro z;injection z with z;revert z;decide)];refine iteF ?_;refine⟨_,rfl,ya,_,rfl,gw,rfl,_,rfl,?_⟩;rw[hG (by intro z;injection z with z;revert z;decide)];refine iteF ?_;refine⟨_,rfl,ya,_,rfl,gw,rfl,_,rfl,?_⟩;rw[hI rfl];refine iteT ?_;refine(iV rfl (iM hp1.o rfl ⟨_,rfl,ya,_,rfl,gn,?_⟩));dsimp only[tNil,dC,dJ];refine⟨z,x,so,sr,m,q,n',W,dk,n,nm,ct,sc,a,rfl,hp1,hs1,u,fa.knd,λi hi ea l2 ks H2 hk s2 n2 h2=>?_,λb=>?_⟩
 ·exact⟨_,rfl,_,rfl,z2,λu2 Hb nb' sb eb=>((ki i hi ea).hl rfl l2 ks H2 hk (s1.trans s2) (s1.free n2) h2) u2 l Hb sb eb (sb _ _ (s2 _ _ h1))⟩
 intro ea' hea;exact⟨_,T.aZ,iteT ⟨_,rfl,ea',_,_,rfl,.part,.inl qF,λp Ha na sa ha'=>⟨_,rfl,_,rfl,z2,λu2 Hb nb' sb eb=>(kp b) u2 p Hb (s1.trans ((Same.upd hea).trans (sa.trans sb))) eb (sb _ _ ha')⟩⟩⟩
·rw[hG (by intro z;injection z with z;revert z;decide)];refine iteF ?_;refine⟨_,rfl,ya,_,rfl,gw,rfl,_,rfl,?_⟩;rw[hG (by intro z;injection z with z;revert z;decide)];refine iteF ?_;refine⟨_,rfl,ya,_,rfl,gw,rfl,_,rfl,?_⟩;rw[hG (by intro z;injection z with z;revert z;decide)];refine iteF ?_;refine⟨_,rfl,ya,_,rfl,gw,rfl,_,rfl,?_⟩;rw[hG (by intro z;injection z with z;revert z;decide)];refine iteF ?_;refine⟨_,rfl,ya,_,rfl,gw,rfl,_,rfl,?_⟩;rw[hG (by intro z;injection z with z;revert z;decide)];refine iteF ?_;refine⟨_,rfl,ya,_,rfl,gw,rfl,_,rfl,?_⟩;rw[hI rfl];refine iteT ?_;refine(iV rfl (iM hp1.o rfl ⟨_,rfl,ya,_,rfl,gn,?_⟩));dsimp only[tNil,dC,dJ];refine⟨z,x,so,sr,m,q,n',W,dk,n,nm,ct,sc,a,rfl,hp1,hs1,u,fa.knd,λi hi ea H2 s2=>?_,λb=>?_⟩
 ·exact⟨_,rfl,_,rfl,z2,λu2 Hb nb' sb eb=>((ki i hi ea).ro rfl) u2 l Hb (s1.trans (s2.trans sb)) eb (sb _ _ (s2 _ _ h1))⟩
 intro ea' hea;exact⟨_,T.aZ,iteT ⟨_,rfl,ea',_,_,rfl,.part,.inl qF,λp Ha na sa ha'=>⟨_,rfl,_,rfl,z2,λu2 Hb nb' sb eb=>(kp b) u2 p Hb (s1.trans ((Same.upd hea).trans (sa.trans sb))) eb (sb _ _ ha')⟩⟩⟩
rw[hG (by intro z;injection z with z;revert z;decide)]
refine iteF ?_
refine⟨_,rfl,ya,_,rfl,gw,rfl,_,rfl,?_⟩
rw[hG (by intro z;injection z with z;revert z;decide)]
refine iteF ?_
refine⟨_,rfl,ya,_,rfl,gw,rfl,_,rfl,?_⟩
rw[hG (by intro z;injection z with z;revert z;decide)]
refine iteF ?_
refine⟨_,rfl,ya,_,rfl,gw,rfl,_,rfl,?_⟩
rw[hG (by intro z;injection z with z;revert z;decide)]
refine iteF ?_
refine⟨_,rfl,ya,_,rfl,gw,rfl,_,rfl,?_⟩
rw[hG (by intro z;injection z with z;revert z;decide)]
refine iteF ?_
refine⟨_,rfl,ya,_,rfl,gw,rfl,_,rfl,?_⟩
rw[hG (by intro z;injection z with z;revert z;decide)]
refine iteF ?_
refine(iV rfl (iM hp1.o rfl ⟨_,rfl,ya,_,rfl,gn,?_⟩))
dsimp only[tNil,dC,dJ]
refine⟨z,x.s,n,nm,ct,sc,a,rfl,hp1,u,fa.knd,λi hi ea=>?_,λb=>?_⟩
·exact⟨_,rfl,_,rfl,z2,λu2 Hb nb' sb eb=>((ki i hi ea).sh rfl) u2 l Hb (s1.trans sb) eb (sb _ _ h1)⟩
intro ea' hea
exact⟨_,T.aZ,iteT ⟨_,rfl,ea',_,_,rfl,.part,.inl qF,λp Ha na sa ha'=>⟨_,rfl,_,rfl,z2,λu2 Hb nb' sb eb=>(kp b) u2 p Hb (s1.trans ((Same.upd hea).trans (sa.trans sb))) eb (sb _ _ ha')⟩⟩⟩)
theorem qF8{f:Nat→Nat}{n:Nat}:((List.range n).map f).sum=fst f n:=by(
induction n with
|zero=>rfl
|succ n ih=>rw[g9,mB,sK,ih];simp[fst])
theorem qF9{f g:Nat→Nat}:∀{n:Nat},(∀k,k<n→f k≤g k)→fst f n≤fst g n
|0,_=>kH _
|n+1,h=>by have:=qF9 (f:=f) (g:=g) (n:=n) λk hk=>h k (by lia);have:=h n (by lia);show fst f n+f n≤fst g n+g n;lia
theorem qFA{f g:Nat→Nat}{i:Nat}:∀{n:Nat},(∀k,k<n→f k≤g k)→i<n→f i<g i→fst f n<fst g n
|0,_,hi,_=>by lia
|n+1,h,hi,hl=>by
 have h1:=h n (by lia);show fst f n+f n<fst g n+g n;by_cases e:i=n
 ·subst e;have:=qF9 (f:=f) (g:=g) (n:=i) λk hk=>h k (by lia);lia
 have:=qFA (f:=f) (g:=g) (i:=i) (n:=n) (λk hk=>h k (by lia)) (by lia) hl;lia
theorem qFB{W:Mp}{s v:Int}:(putW W s v).length=if s∈W.map (·.1)then W.length else W.length+1:=by(
unfold putW
have e:(W.any λq=>decide (q.1=s))=true↔s∈W.map (·.1):=by
 rw[rT,kP];constructor
 ·rintro⟨a,h1,h2⟩
  exact⟨a,h1,gQ h2⟩
 rintro⟨a,h1,h2⟩
 exact⟨a,h1,hI h2⟩
by_cases c:s∈W.map (·.1)
·rw[kG (e.mpr c),kG c,hU]
rw[kE (λw=>c (e.mp w)),kE c,mL]
rfl)
theorem q9F{ct:Nat→Nat}{k i:Nat}{a b:Int}(ne:k≠i)(a0:0≤a)(a1:a<((ct k:Nat):Int))(b0:0≤b)(b1:b<((ct i:Nat):Int)):((fst ct k:Nat):Int)+a≠((fst ct i:Nat):Int)+b:=by(
rcases pC ne with h|h
·have:=q46 (ct:=ct) (show k+1≤i from h);have e:fst ct (k+1)=fst ct k+ct k:=rfl;lia
have:=q46 (ct:=ct) (show i+1≤k from h)
have e:fst ct (i+1)=fst ct i+ct i:=rfl
lia)
structure MnA where
mi:Addr
oa:Addr
ta:Addr
sa:Addr
ha:Addr
hA:Nat→Addr
noncomputable def dM(y:MnA):List (Key×V):=[((Sum.inr "order":Key),.ref y.oa),((Sum.inr "sheets":Key),.ref y.ta),((Sum.inr "shares":Key),.ref y.sa),((Sum.inr "held":Key),.ref y.ha)]
structure Mn(H:Hp)(y:MnA)(n:Nat)(nm:Nat→Str)(ct sc:Nat→Nat)(hd:Nat→Mp)(e:Nat):Prop where
m:H y.mi=some (.dK (dM y))
o:H y.oa=some (.lst ((List.range n).map λi=>.str (nm i)))
c:H y.ta=some (.dK (dN e nm λi=>.int (ct i:Nat)))
s:H y.sa=some (.dK (dN e nm λi=>.int (sc i:Nat)))
h:H y.ha=some (.dK (dN e nm λi=>.ref (y.hA i)))
d:∀i,i<e→H (y.hA i)=some (.dK (dI (hd i)))
structure Nt(n:Nat)(ct sc:Nat→Nat)(W:Mp)(hd:Nat→Mp):Prop where
wh:∀i,i<n→∀s v,(s,v)∈hd i↔0≤s∧s<((ct i:Nat):Int)∧(((fst ct i:Nat):Int)+s,v)∈W
nd:∀i,i<n→((hd i).map (·.1)).Nodup
le:∀i,i<n→(hd i).length≤sc i
noncomputable def own(y:MnA)(z:Pz)(ra:Addr)(n:Nat):List Addr:=[y.mi,y.oa,y.ta,y.sa,y.ha,ra,z.p,z.fs,z.cs,z.ss]++(List.range n).map y.hA
structure J(t:Adr)(H:Hp)(x:Sto)(so sr:Nat)(m:CM)(q:QM)(n':Nat)(W:Mp)(dk:Bool)(z:Pz)(y:MnA)(ra:Addr)(us:List V)(n:Nat)(nm:Nat→Str)(ct sc:Nat→Nat)(hd:Nat→Mp):Prop where
ps:PS t H x so (sr:Int) m q n' W dk
pt:PtAt t H z x.s n nm ct sc
mn:Mn H y n nm ct sc hd n
rl:H ra=some (.lst us)
rw:Rws H us n nm ct sc
ok:TabOk n nm ct sc
n1:1≤n
so:fst ct n=so
sr:fst sc n=sr
nt:Nt n ct sc W hd
dw:(own y z ra n).Nodup
df:∀b∈own y z ra n,b∉t.aT::([x.s,x.tm]++(x.a.li::sf x))
section
variable{H H' H1:Hp}{x:Sto}{so sr:Nat}{m:CM}{q:QM}{n':Nat}{W:Mp}{dk:Bool}{z:Pz}{y:MnA}{ra:Addr}{us:List V}{n:Nat}{nm:Nat→Str}{ct sc:Nat→Nat}{hd:Nat→Mp}
theorem Mn.on(h:Mn H y n nm ct sc hd n)(k:∀b∈own y z ra n,∀o,H b=some o→H' b=some o):Mn H' y n nm ct sc hd n:=⟨k _ (by simp[own]) _ h.m,k _ (by simp[own]) _ h.o,k _ (by simp[own]) _ h.c,k _ (by simp[own]) _ h.s,k _ (by simp[own]) _ h.h,λi hi=>k _ (by unfold own;exact kM _ (kP.mpr ⟨i,mH.mpr hi,rfl⟩)) _ (h.d i hi)⟩
theorem PtAt.on{s:Addr}(h:PtAt t H z s n nm ct sc)(k:∀b∈own y z ra n,∀o,H b=some o→H' b=some o):PtAt t H' z s n nm ct sc:=⟨k _ (by simp[own]) _ h.o,k _ (by simp[own]) _ h.f,k _ (by simp[own]) _ h.c,k _ (by simp[own]) _ h.s,h.d1,h.d2⟩
theorem J.on(h:J t H x so sr m q n' W dk z y ra us n nm ct sc hd){m':CM}{q':QM}{n2:Nat}{dk':Bool}(ps:PS t H' x so (sr:Int) m' q' n2 W dk')(k:∀b∈own y z ra n,∀o,H b=some o→H' b=some o)(tp:∀b xs,H b=some (.tup xs)→H' b=some (.tup xs)):J t H' x so sr m' q' n2 W dk' z y ra us n nm ct sc hd:={ h with ps:=ps,pt:=h.pt.on k,mn:=h.mn.on k,rl:=k _ (by simp[own]) _ h.rl,rw:=h.rw.tp tp }
theorem J.same(h:J t H x so sr m q n' W dk z y ra us n nm ct sc hd)(s:Same H H'):J t H' x so sr m q n' W dk z y ra us n nm ct sc hd:=h.on (h.ps.same s) (λb _ o e=>s _ _ e) λb xs e=>s _ _ e
theorem J.offF(h:J t H x so sr m q n' W dk z y ra us n nm ct sc hd):∀b∈own y z ra n,b∉t.aT::sf x:=λb hb w=>h.df b hb (by rcases kW.mp w with w|w<;>simp[w])
theorem J.keep(h:J t H x so sr m q n' W dk z y ra us n nm ct sc hd){m':CM}{q':QM}{n2:Nat}{dk':Bool}(ps:PS t H' x so (sr:Int) m' q' n2 W dk')(k:Keep (t.aT::sf x) H H'):J t H' x so sr m' q' n2 W dk' z y ra us n nm ct sc hd:=h.on ps (λb hb o e=>k.k _ _ (h.offF b hb) e) λb xs e=>k.tp _ _ e
theorem Nt.len(h:Nt n ct sc W hd)(nd:(W.map (·.1)).Nodup){i:Nat}(hi:i<n):(cutP (fst ct i) (ct i) (W.map (·.1))).length=(hd i).length:=by(
rw[←hU (f:=(·.1)) (as:=hd i)]
refine(q0X (q38 nd) (h.nd i hi) λs=>?_).length_eq
rw[zZ,jH,jH]
constructor
·rintro⟨⟨v,hv⟩,a,b⟩
 exact⟨v,(h.wh i hi s v).mpr ⟨a,b,hv⟩⟩
rintro⟨v,hv⟩
obtain⟨a,b,c⟩:=(h.wh i hi s v).mp hv
exact⟨⟨v,c⟩,a,b⟩)
theorem Nt.key(h:Nt n ct sc W hd){i:Nat}(hi:i<n){s:Int}(s0:0≤s)(s1:s<((ct i:Nat):Int)):((fst ct i:Nat):Int)+s∈W.map (·.1)↔s∈(hd i).map (·.1):=by(
rw[jH,jH]
constructor
·rintro⟨v,hv⟩
 exact⟨v,(h.wh i hi s v).mpr ⟨s0,s1,hv⟩⟩
rintro⟨v,hv⟩
exact⟨v,((h.wh i hi s v).mp hv).2.2⟩)
theorem Nt.kb(h:Nt n ct sc W hd){i:Nat}(hi:i<n){s:Int}(hs:s∈(hd i).map (·.1)):0≤s∧s<((ct i:Nat):Int):=by obtain⟨v,hv⟩:=jH.mp hs;have:=(h.wh i hi s v).mp hv;exact⟨this.1,this.2.1⟩
theorem J.room(j:J t H x so sr m q n' W dk z y ra us n nm ct sc hd){i:Nat}(hi:i<n)(h:(hd i).length<sc i):((W.length:Nat):Int)<(sr:Int):=by(
have e:=qCJ (ct:=ct) (n:=n) (ks:=W.map (·.1)) (λk hk=>by have:=j.ps.kb k hk;rw[j.so];exact this)
rw[hU,d0 (λi hi=>j.nt.len j.ps.nd (mH.mp hi)),qF8]at e
have:=qFA (f:=λk=>(hd k).length) (g:=sc) (λk hk=>j.nt.le k hk) hi h
rw[j.sr]at this
lia)
theorem Nt.put(h:Nt n ct sc W hd)(nd:(W.map (·.1)).Nodup){i:Nat}(hi:i<n){s v:Int}(s0':0≤s)(s1:s<((ct i:Nat):Int))(c:s∈(hd i).map (·.1)∨(hd i).length<sc i):Nt n ct sc (putW W (((fst ct i:Nat):Int)+s) v) (λk=>if k=i then putW (hd i) s v else hd k):=by(
refine⟨λk hk a b=>?_,λk hk=>?_,λk hk=>?_⟩
·rw[vS nd,jG];have w:=h.wh k hk a b;by_cases c:k=i
 ·subst c;rw[kG rfl,vS (h.nd k hk),jG,w];simp only[aL];constructor
  ·rintro(⟨rfl,rfl⟩|⟨⟨a1,a2,a3⟩,a4⟩)
   ·exact⟨s0',s1,.inl ⟨rfl,rfl⟩⟩
   exact⟨a1,a2,.inr ⟨a3,λe=>a4 (by lia)⟩⟩
  rintro⟨a1,a2,⟨e,rfl⟩|⟨a3,a4⟩⟩
  ·exact .inl ⟨by lia,rfl⟩
  exact .inr ⟨⟨a1,a2,a3⟩,λe=>a4 (by rw[e])⟩
 rw[kE c,w];simp only[aL];constructor
 ·rintro⟨a1,a2,a3⟩
  exact⟨a1,a2,.inr ⟨a3,q9F c a1 a2 s0' s1⟩⟩
 rintro⟨a1,a2,⟨e,_⟩|⟨a3,_⟩⟩
 ·exact absurd e (q9F c a1 a2 s0' s1)
 exact⟨a1,a2,a3⟩
·try dsimp only
 split
 ·exact q4M (h.nd i hi)
 exact h.nd k hk
try dsimp only
split
·rename_i e;subst e;rw[qFB];have:=h.le k hk;split
 ·exact this
 rename_i c';rcases c with c|c
 ·exact absurd c c'
 exact c
exact h.le k hk)
theorem Nt.drop(h:Nt n ct sc W hd){i:Nat}(hi:i<n){ss:List Int}(hs:∀s∈ss,0≤s∧s<((ct i:Nat):Int)):Nt n ct sc (yP W (ss.map λj=>((fst ct i:Nat):Int)+j)) (λk=>if k=i then yP (hd i) ss else hd k):=by(
refine⟨λk hk a b=>?_,λk hk=>?_,λk hk=>?_⟩
·have w:=h.wh k hk a b;rw[yK];have em:(((fst ct k:Nat):Int)+a∉ss.map λj=>((fst ct i:Nat):Int)+j)↔∀j∈ss,((fst ct i:Nat):Int)+j≠((fst ct k:Nat):Int)+a:=by rw[kP];exact⟨λw j hj e=>w ⟨j,hj,e⟩,λw ⟨j,hj,e⟩=>w j hj e⟩
 by_cases c:k=i
 ·subst c;rw[kG rfl,yK,w];constructor
  ·rintro⟨⟨a1,a2,a3⟩,a4⟩
   exact⟨a1,a2,a3,em.mpr λj hj e=>a4 (by rw[show a=j by lia];exact hj)⟩
  rintro⟨a1,a2,a3,a4⟩
  exact⟨⟨a1,a2,a3⟩,λhj=>em.mp a4 a hj rfl⟩
 rw[kE c,w];constructor
 ·rintro⟨a1,a2,a3⟩
  exact⟨a1,a2,a3,em.mpr λj hj e=>q9F c a1 a2 (hs j hj).1 (hs j hj).2 e.symm⟩
 rintro⟨a1,a2,a3,_⟩
 exact⟨a1,a2,a3⟩
·try dsimp only
 split
 ·exact q2D (h.nd i hi)
 exact h.nd k hk
try dsimp only
split
·rename_i e;subst e;exact mJ (mF _ _) (h.le k hk)
exact h.le k hk)
theorem J.hAi(j:J t H x so sr m q n' W dk z y ra us n nm ct sc hd){i:Nat}(hi:i<n):y.hA i∈own y z ra n∧(∀b∈[y.mi,y.oa,y.ta,y.sa,y.ha,ra,z.p,z.fs,z.cs,z.ss],b≠y.hA i)∧∀k,k<n→k≠i→y.hA k≠y.hA i:=by(
have d:=j.dw
unfold own at d
obtain⟨d1,d2,d3⟩:=gA.mp d
have hm:y.hA i∈(List.range n).map y.hA:=kP.mpr ⟨i,mH.mpr hi,rfl⟩
refine⟨kM _ hm,λb hb=>d3 b hb _ hm,λk hk c w=>?_⟩
have:=dL.mp d2
rcases pC c with h|h
·have:=this k i (by simpa using hk) (by simpa using hi) h;rw[d9,d9,rD,rD]at this;exact absurd w this
have:=this i k (by simpa using hi) (by simpa using hk) h
rw[d9,d9,rD,rD]at this
exact absurd w.symm this)
theorem J.up(j:J t H x so sr m q n' W dk z y ra us n nm ct sc hd){i:Nat}(hi:i<n){m':CM}{q':QM}{n2:Nat}{W':Mp}{dk':Bool}{hd':Nat→Mp}(ps:PS t H1 x so (sr:Int) m' q' n2 W' dk')(k:Keep (t.aT::sf x) H H1)(k2:Keep [y.hA i] H1 H')(e:H' (y.hA i)=some (.dK (dI (hd' i))))(eh:∀k,k≠i→hd' k=hd k)(nt:Nt n ct sc W' hd'):J t H' x so sr m' q' n2 W' dk' z y ra us n nm ct sc hd':=by(
obtain⟨hm,h1,h2⟩:=j.hAi hi
have nl:∀b,b∈t.aT::([x.s,x.tm]++(x.a.li::sf x))→b∉[y.hA i]:=λb hb w=>j.df _ hm (kJ.mp w▸hb)
have hl:H1 (y.hA i)=some (.dK (dI (hd i))):=k.k _ _ (j.offF _ hm) (j.mn.d i hi)
have tb:TbF t H':=by
 obtain⟨qs,hT,h⟩:=ps.st.tb;refine⟨qs,k2.k _ _ (nl _ (by simp)) hT,?_⟩;rcases h with h|⟨c,h,hc⟩
 ·exact .inl h
 refine .inr ⟨c,h,k2.k _ _ (λw=>?_) hc⟩;rw[kJ.mp w,hl]at hc;cases hc
have kk:∀b∈[y.mi,y.oa,y.ta,y.sa,y.ha,ra,z.p,z.fs,z.cs,z.ss],∀o,H b=some o→H' b=some o:=λb hb o e=>k2.k _ _ (λw=>h1 b hb (kJ.mp w)) (k.k _ _ (j.offF b (kU _ hb)) e)
refine⟨ps.mv (ps.st.keep k2 (λb hb=>nl b (kF _ hb)) tb) (λb xs e=>k2.tp _ _ e),⟨kk _ (by simp) _ j.pt.o,kk _ (by simp) _ j.pt.f,kk _ (by simp) _ j.pt.c,kk _ (by simp) _ j.pt.s,j.pt.d1,j.pt.d2⟩,⟨kk _ (by simp) _ j.mn.m,kk _ (by simp) _ j.mn.o,kk _ (by simp) _ j.mn.c,kk _ (by simp) _ j.mn.s,kk _ (by simp) _ j.mn.h,λk' hk=>?_⟩,kk _ (by simp) _ j.rl,j.rw.tp λb xs e=>k2.tp _ _ (k.tp _ _ e),j.ok,j.n1,j.so,j.sr,nt,j.dw,j.df⟩
by_cases c:k'=i
·rw[c];exact e
rw[eh k' c]
exact k2.k _ _ (λw=>h2 k' hk c (kJ.mp w)) (k.k _ _ (j.offF _ (kM _ (kP.mpr ⟨k',mH.mpr hk,rfl⟩))) (j.mn.d k' hk)))
end
theorem qJ4{X:Cx}(hu:X.A.units+64<cLine):OpR X (compareOp .NotEq) (λx y H Q=>∃(a b:Addr) (kvs:List (Key×V)),x=.ref a∧y=.ref b∧H a=some (.dK kvs)∧H b=some (.dK [])∧Q (.bl (!decide (kvs.length=0))) H):=by(
intro pins s σ H x y v u Q I rx ry hZ
obtain⟨a,b,kvs,ex,ey,ha,hb,q⟩:=hZ
subst ex ey
cases rx
cases ry
obtain⟨z1,lo1,w1,rel1,dd1⟩:=q3U I.hok ha
obtain⟨z2,lo2,w2,rel2,dd2⟩:=q3U I.hok hb
have e2:w2=[]:=by cases rel2;rfl
subst e2
refine W.keq_ne (r:=true) lo1 lo2 dd1 dd2 (by lia) (λe=>?_) ?_
·have:w1=[]:=cQ e;subst this;exact .nil
rw[show(w1.length==([]:List (Key×Value)).length&&true)=decide (kvs.length=0) by rw[Bool.and_true,rel1.length];by_cases c:w1.length=0<;>simp[c]]
exact⟨.bl (!decide (kvs.length=0)),H,I,rfl,q⟩)
theorem qFC{W:Mp}{s:Int}(nd:(W.map (·.1)).Nodup):(valV (dI W) (Sum.inl s:Key)).isSome=decide (s∈W.map (·.1)):=by(
by_cases c:s∈W.map (·.1)
·obtain⟨v,hv⟩:=jH.mp c;rw[vK nd hv,hI c];rfl
rw[zU c,hG c]
rfl)
inductive Nm5:V→Prop
|str (x:Str) (h:x.length≤100):Nm5 (.str x)
|non:Nm5 .non
|int (i:Int):Nm5 (.int i)
|tru:Nm5 (.bl true)
theorem Nm5.fl{v:V}(h:Nm5 v):Fl v:=by(
cases h with
|str x h=>exact .str x h
|non=>exact .non
|int i=>exact .int i
|tru=>exact .bl true)
theorem Nm5.ask{H:Hp}{a:Addr}{n:Nat}{nm:Nat→Str}{f:Nat→V}{v:V}(h:Nm5 v)(u:Unl n nm)(e:H a=some (.dK (dN n nm f))):
 (∃i,i<n∧v=.str (nm i)∧DGet H a v (some (f i)))∨(¬isP n nm v∧(DGet H a v none∨OddK v (dN n nm f))):=by(
have n1:∀kv∈dN n nm f,kv.1≠Sum.inl 1:=λkv hk=>by obtain⟨i,_,rfl⟩:=kP.mp hk;intro e;cases e
cases h with
|str x _=>
 by_cases y:∃i,i<n∧nm i=x
 ·obtain⟨i,hi,rfl⟩:=y;refine .inl ⟨i,hi,rfl,?_⟩;have:=DGet.k (k:=Sum.inr (nm i)) e;rw[zD u hi]at this;exact this
 refine .inr ⟨λ⟨i,hi,z⟩=>y ⟨i,hi,(V.str.inj z).symm⟩,.inl ?_⟩;have:=DGet.k (k:=Sum.inr x) e;rw[q45 (λi hi z=>y ⟨i,hi,z⟩)]at this;exact this
|non=>exact .inr ⟨λ⟨i,hi,z⟩=>(by cases z),.inr ⟨.inl rfl,n1⟩⟩
|int k=>refine .inr ⟨λ⟨i,hi,z⟩=>(by cases z),.inl ?_⟩;have:=DGet.k (k:=Sum.inl k) e;rw[qIU]at this;exact this
|tru=>exact .inr ⟨λ⟨i,hi,z⟩=>(by cases z),.inr ⟨.inr rfl,n1⟩⟩)
noncomputable def gvS(K:Mp)(us:List V):List Int:=(K.map (·.1)).filter λs=>decide (V.int s∈us)
noncomputable def dueW(dk b1 b2:Bool)(w:Str)(K:Mp)(o:V)(us:List V)(c:Nat):Str:=if b1=true∧(w="write"∨w="read"∨w="give")then "no sheet"
 else if w="write"∧b2=true then "no value"
 else if w="write"∧toI o∉K.map (·.1)∧c≤K.length then "full"
 else if w="write"∨(w="read"∧toI o∈K.map (·.1))then(if dk=true then "dark" else "done")
 else if w="give"∧gvS K us≠[]then(if dk=true then "dark" else "done")
 else if w="empty"∧K.length≠0 then(if dk=true then "dark" else "done")
 else "done"
noncomputable def spDu:Sp:=λvs H Q _=>∃y n nm ct sc hd ya a b1 b2 w o v us dk,vs=[.ref y.mi,.ref ya,.bl dk]∧Mn H y n nm ct sc hd n∧Unl n nm∧H ya=some (.dK (dQ a b1 b2 w o v))∧Nm5 a∧Wrd w∧(w="write"∨w="read"→b1=false→∃j:Int,o=.int j)∧(w="give"→∃l,o=.ref l∧H l=some (.lst us)∧(b1=false→∃ss:List Int,us=ss.map V.int))∧(∀i,i<n→(hd i).length≤64∧((hd i).map (·.1)).Nodup)∧(¬isP n nm a→∀H',Same H H'→Q (.str "no part") H')∧(∀i,i<n→a=.str (nm i)→∀H',Same H H'→Q (.str (dueW dk b1 b2 w (hd i) o us (sc i))) H')
theorem qBJ(T:Txt K mg t)(S:Fns K t):S.aCP.Ok0 P w mg base 1 spDu:=by(
refine S.aCP.F.ok0 q6N λcdv A _ s H vs Q E hr h=>?_
obtain⟨y,n,nm,ct,sc,hd,ya,a,b1,b2,w',o,v,us,dk,rfl,mn,u,ha,na,wd,wo,wg,hb,k1,k2⟩:=h
have hu:=v5 hr
refine⟨_,(qB (qV (q4G (qB9 hu (qK hu (pv 1) qI (λ_ _=>rfl)) (qK hu (pv 0) qI (λ_ _=>rfl)))) (qC (qP qI)) qL) (qB (qW (i:=3) q6N.nd rfl (Or.inl rfl) (qK hu (qK hu (pv 0) qI (λ_ _=>rfl)) (qK hu (pv 1) qI (λ_ _=>rfl)) (λ_ _=>rfl))) (qB (qV (q34 (PW.pt (zO (jI (qK hu (pv 1) qI (λ_ _=>rfl))) (zH (PW.pt (q1G (qN jR (qK hu (pv 1) qI (λ_ _=>rfl)) qI (qO _)) (q1G (qN jR (qK hu (pv 1) qI (λ_ _=>rfl)) qI (qO _)) (q0A (qN jR (qK hu (pv 1) qI (λ_ _=>rfl)) qI (qO _)))))))))) (qC (qP qI)) qL) (qB (qV (q34 (PW.pt (zO (qN jR (qK hu (pv 1) qI (λ_ _=>rfl)) qI (qO _)) (zH (jI (qK hu (pv 1) qI (λ_ _=>rfl))))))) (qC (qP qI)) qL) (qB (qV (q34 (PW.pt (zO (qN jR (qK hu (pv 1) qI (λ_ _=>rfl)) qI (qO _)) (zO (q4G (q7V hu (qK hu (pv 1) qI (λ_ _=>rfl)) (pv 3))) (zH (qN qBR (qS q4K (by rfl) T.fW mR (qA (pv 3) qE)) (qK hu (qK hu (pv 0) qI (λ_ _=>rfl)) (qK hu (pv 1) qI (λ_ _=>rfl)) (λ_ _=>rfl)) (qO _))))))) (qC (qP qI)) qL) (qB (qV (q34 (PW.pt (q1G (qN jR (qK hu (pv 1) qI (λ_ _=>rfl)) qI (qO _)) (q0A (PW.pt (zO (qN jR (qK hu (pv 1) qI (λ_ _=>rfl)) qI (qO _)) (zH (q4G (q8H hu (qK hu (pv 1) qI (λ_ _=>rfl)) (pv 3)))))))))) (qC (qP (yF jN (jX (qA qI (qA qI qE))) (vD q0O (by rfl) T.aCX (by kernel_rfl) (qA (pv 2) qE)) (λ_ _=>rfl)))) qL) (qB (qV (q34 (PW.pt (zO (qN jR (qK hu (pv 1) qI (λ_ _=>rfl)) qI (qO _)) (zH (qN (qEQ hr.units) (q8L (yW ["_law_ask","_law_sheet"] [1] rfl (qC4 (pv 3)) (λ_ _ _ _ _=>(qZ (i:=1) (show List.Nodup (["_law_ask","_law_sheet"]:List Str)from by decide) rfl (Or.inl rfl))) (λ_ _ _ _ _=>(q06 (qN (q36 (K:=K) rfl) (pv 1) (qK hu (pv 0) qI (λ_ _=>rfl)) rfl))) (λ_ _ _ _ _=>(pv 1)) (by kernel_rfl) (jY (by decide)))) (jX qE) (qO _)))))) (qC (qP (yF jN (jX (qA qI (qA qI qE))) (vD q0O (by rfl) T.aCX (by kernel_rfl) (qA (pv 2) qE)) (λ_ _=>rfl)))) qL) (qB (qV (q34 (PW.pt (zO (qN jR (qK hu (pv 1) qI (λ_ _=>rfl)) qI (qO _)) (zH (qN (qJ4 hr.units) (pv 3) uK (qO _)))))) (qC (qP (yF jN (jX (qA qI (qA qI qE))) (vD q0O (by rfl) T.aCX (by kernel_rfl) (qA (pv 2) qE)) (λ_ _=>rfl)))) qL) (qC (qP qI)))))))))),?_⟩
try dsimp-beta-proj-iota-zeta-eta only[wishK,cxK]
have gw:DGet H ya (.str "word") (some (.str w')):=DGet.k (k:=Sum.inr "word") ha
have gn:DGet H ya (.str "name") (some a):=DGet.k (k:=Sum.inr "name") ha
have go:DGet H ya (.str "one") (some o):=DGet.k (k:=Sum.inr "one") ha
have g1:DGet H ya (.str "bad sheet") (some (.bl b1)):=DGet.k (k:=Sum.inr "bad sheet") ha
have g2:DGet H ya (.str "bad value") (some (.bl b2)):=DGet.k (k:=Sum.inr "bad value") ha
have gh:DGet H y.mi (.str "held") (some (.ref y.ha)):=DGet.k (k:=Sum.inr "held") mn.m
have gs:DGet H y.mi (.str "shares") (some (.ref y.sa)):=DGet.k (k:=Sum.inr "shares") mn.m
refine⟨_,rfl,ya,_,rfl,gn,_,rfl,y.mi,_,rfl,gh,y.ha,rfl,?_⟩
rcases na.ask u mn.h with⟨i,hi,rfl,gi⟩|⟨np,gi|gi⟩
·refine .inl ⟨_,gi,_,rfl,iteF ?_⟩;have kk:=k2 i hi rfl;clear k1 k2;obtain⟨h64,hnd⟩:=hb i hi;have hi2:=mn.d i hi;unfold dueW at kk;refine⟨_,rfl,y.mi,_,rfl,gh,_,rfl,ya,_,rfl,gn,y.ha,_,rfl,gi,?_⟩;have gsi:=DGet.k (k:=Sum.inr (nm i)) mn.s;rw[zD u hi]at gsi;refine⟨λb H'=>b=decide (b1=true∧(w'="write"∨w'="read"∨w'="give"))∧H'=H,?_,?_⟩
 ·refine⟨_,rfl,ya,_,rfl,g1,_,rfl,?_⟩;cases b1 with
  |false=>exact iteF ⟨by simp,rfl⟩
  |true=>
   refine iteT ⟨_,rfl,ya,_,rfl,gw,rfl,_,rfl,?_⟩;by_cases c1:w'="write"
   ·rw[show decide (V.str w'=V.str "write")=true by simp[c1]];exact iteT ⟨by simp[c1],rfl⟩
   rw[show decide (V.str w'=V.str "write")=false by simpa using c1];refine iteF ⟨_,rfl,ya,_,rfl,gw,rfl,_,rfl,?_⟩;by_cases c2:w'="read"
   ·rw[show decide (V.str w'=V.str "read")=true by simp[c2]];exact iteT ⟨by simp[c2],rfl⟩
   rw[show decide (V.str w'=V.str "read")=false by simpa using c2];refine iteF ⟨_,rfl,ya,_,rfl,gw,rfl,_,rfl,?_⟩;by_cases c3:w'="give"
   ·rw[show decide (V.str w'=V.str "give")=true by simp[c3]];exact⟨by simp[c3],rfl⟩
   rw[show decide (V.str w'=V.str "give")=false by simpa using c3];exact⟨by simp[c1,c2,c3],rfl⟩
 rintro b H' ⟨rfl,rfl⟩
 by_cases c1:b1=true∧(w'="write"∨w'="read"∨w'="give")
 ·rw[hI c1];rw[kG c1]at kk;exact iteT (kk _ (Same.refl _))
 rw[hG c1];rw[kE c1]at kk;refine iteF ?_;refine⟨λb Hx=>b=decide (w'="write"∧b2=true)∧Hx=H',?_,?_⟩
 ·refine⟨_,rfl,ya,_,rfl,gw,rfl,_,rfl,?_⟩;by_cases d1:w'="write"
  ·rw[show decide (V.str w'=V.str "write")=true by simp[d1]];refine iteT ⟨_,rfl,ya,_,rfl,g2,_,rfl,?_⟩;exact⟨by cases b2<;>simp[d1],rfl⟩
  rw[show decide (V.str w'=V.str "write")=false by simpa using d1];exact iteF ⟨by simp[d1],rfl⟩
 rintro b Hx ⟨rfl,rfl⟩
 by_cases c2:w'="write"∧b2=true
 ·rw[hI c2];rw[kG c2]at kk;exact iteT (kk _ (Same.refl _))
 rw[hG c2];rw[kE c2]at kk;refine iteF ?_;refine⟨λb H3=>b=decide (w'="write"∧toI o∉(hd i).map (·.1)∧sc i≤(hd i).length)∧H3=Hx,?_,?_⟩
 ·refine⟨_,rfl,ya,_,rfl,gw,rfl,_,rfl,?_⟩;by_cases d1:w'="write"
  ·have hb1:b1=false:=by
    cases b1 with
    |false=>rfl
    |true=>exact absurd ⟨rfl,.inl d1⟩ c1
   obtain⟨j,rfl⟩:=wo (.inl d1) hb1;rw[show decide (V.str w'=V.str "write")=true by simp[d1]];have gk:=DGet.k (k:=Sum.inl j) hi2;refine iteT ⟨_,rfl,ya,_,rfl,go,_,rfl,y.hA i,_,rfl,gk,_,rfl,?_⟩;rw[qFC hnd];by_cases d2:j∈(hd i).map (·.1)
   ·rw[hI d2];refine iteF ⟨(hG λz=>z.2.1 d2).symm,rfl⟩
   rw[hG d2];refine iteT ⟨_,rfl,y.hA i,_,rfl,hi2,_,rfl,y.mi,_,rfl,gs,_,rfl,ya,_,rfl,gn,y.sa,_,rfl,gsi,_,_,rfl,rfl,_,rfl,?_⟩;rw[q0M];refine⟨gE.mpr ⟨λz=>⟨d1,d2,by lia⟩,λz=>by have:=z.2.2;lia⟩,rfl⟩
  rw[show decide (V.str w'=V.str "write")=false by simpa using d1];exact iteF ⟨(hG λz=>d1 z.1).symm,rfl⟩
 rintro b H3 ⟨rfl,rfl⟩
 by_cases c3:w'="write"∧toI o∉(hd i).map (·.1)∧sc i≤(hd i).length
 ·rw[hI c3];rw[kG c3]at kk;exact iteT (kk _ (Same.refl _))
 rw[hG c3];rw[kE c3]at kk;refine iteF ?_;have dd:∀(HH:Hp),Same H3 HH→(∀H',Same H3 H'→Q (.str (if dk=true then "dark" else "done")) H')→qE1 (q62 (tC (V.str "done")) (q62 (tC (V.str "dark")) tNil)) [some (V.ref y.mi),some (V.ref ya),some (V.bl dk),some (V.ref (y.hA i))] HH λx H1=>tCB (λxs H Q=>(∃i,xs=[V.int i]∧Q (V.int i) H)∨∃k,xs=[V.bl k]∧Q (V.int (if k=true then 1 else 0)) H) (q62 (tVar 2) tNil) [some (V.ref y.mi),some (V.ref ya),some (V.bl dk),some (V.ref (y.hA i))] H1 λy H2=>rIxL K x y H2 Q:=λHH sH kq=>by
  refine⟨sz2,λpl HL nL sL hL=>?_⟩;refine⟨_,rfl,.inr ⟨_,rfl,?_⟩⟩;have ea:atI [V.str "done",V.str "dark"] (if dk=true then 1 else 0)=some (.str (if dk=true then "dark" else "done")):=by cases dk<;>rfl
  exact(iL (k:=_) (v:=_) (SqL.of hL) ea (kq HL (sH.trans sL)))
 refine⟨λb H4=>b=decide (w'="write"∨(w'="read"∧toI o∈(hd i).map (·.1)))∧H4=H3,?_,?_⟩
 ·refine⟨_,rfl,ya,_,rfl,gw,rfl,_,rfl,?_⟩;by_cases d1:w'="write"
  ·rw[show decide (V.str w'=V.str "write")=true by simp[d1]];exact iteT ⟨(hI (.inl d1)).symm,rfl⟩
  rw[show decide (V.str w'=V.str "write")=false by simpa using d1];refine iteF ⟨_,rfl,ya,_,rfl,gw,rfl,_,rfl,?_⟩;by_cases d2:w'="read"
  ·have hb1:b1=false:=by
    cases b1 with
    |false=>rfl
    |true=>exact absurd ⟨rfl,.inr (.inl d2)⟩ c1
   obtain⟨j,rfl⟩:=wo (.inr d2) hb1;rw[show decide (V.str w'=V.str "read")=true by simp[d2]];have gk:=DGet.k (k:=Sum.inl j) hi2;refine iteT ⟨_,rfl,ya,_,rfl,go,_,rfl,y.hA i,_,rfl,gk,_,rfl,?_⟩;rw[qFC hnd];exact⟨gE.mpr ⟨λz=>.inr ⟨d2,z⟩,λz=>z.elim (λz=>absurd z d1) λz=>z.2⟩,rfl⟩
  rw[show decide (V.str w'=V.str "read")=false by simpa using d2];exact iteF ⟨(hG λz=>z.elim d1 λz=>d2 z.1).symm,rfl⟩
 rintro b H4 ⟨rfl,e4⟩
 rw[e4];clear e4;by_cases c4:w'="write"∨(w'="read"∧toI o∈(hd i).map (·.1))
 ·rw[hI c4];rw[kG c4]at kk;exact iteT (dd H3 (Same.refl _) kk)
 rw[hG c4];rw[kE c4]at kk;refine iteF ?_;refine⟨λb H4=>b=decide (w'="give"∧gvS (hd i) us≠[])∧Same H3 H4,?_,?_⟩
 ·refine⟨_,rfl,ya,_,rfl,gw,rfl,_,rfl,?_⟩;by_cases d1:w'="give"
  ·rw[show decide (V.str w'=V.str "give")=true by simp[d1]];obtain⟨lo,rfl,hlo,hss⟩:=wg d1;obtain⟨ss,rfl⟩:=hss (by
    cases b1 with
    |false=>rfl
    |true=>exact absurd ⟨rfl,.inr (.inr d1)⟩ c1)
   refine iteT ⟨y.hA i,_,hi2,_,rfl,y.hA i,_,rfl,hi2,λoo D HA nD sA hD=>?_⟩;have kq:∀x u,x≠y.hA i→H3 x=some u→HA x=some u:=λx u nx e=>sA _ _ (by rw[qD nx];exact e);have fz:HA (y.hA i)=some (.frz oo (.dK (dI (hd i)))):=sA _ _ qF;have Dw:D≠y.hA i:=λz=>by rw[z,fz]at hD;cases hD
   have nDH:H3 D=none:=by rw[qD Dw]at nD;exact nD
   have lw:lo≠y.hA i:=λz=>by rw[z,hi2]at hlo;cases hlo
   have yw:ya≠y.hA i:=λz=>by
    rw[z,hi2]at ha;have e:=HO.dK.inj (kI ha);cases hq:hd i with
    |nil=>rw[hq]at e;cases e
    |cons r rs=>rw[hq]at e;cases e
   have mi:∀s:Int,decide (V.int s∈ss.map V.int)=decide (s∈ss):=λs=>gE.mpr ⟨λz=>by obtain⟨s',hs',e⟩:=kP.mp z;rw[←V.int.inj e];exact hs',λz=>kP.mpr ⟨s,z,rfl⟩⟩;have sz:(64:Nat)<sizeLine:=by decide
   refine qA1 (D:=D) (λk HB=>HB (y.hA i)=some (.frz oo (.dK (dI (hd i))))∧(∀x u,x≠y.hA i→H3 x=some u→HB x=some u)∧HB D=some (.lst ((gvS ((hd i).take k) (ss.map V.int)).map V.int))) ⟨fz,kq,hD⟩ (λk HB hp=>hp.1) (λk kv HB hk hp=>?_) (λHB hp=>?_)
   ·obtain⟨fz3,k3,hd3⟩:=hp;have hi':k<(hd i).length:=by have:=(hV.mp hk).1;rw[q0M]at this;exact this
    obtain rfl:((Sum.inl (hd i)[k].1:Key),V.int (hd i)[k].2)=kv:=by
     have e:(dI (hd i))[k]?=some ((Sum.inl (hd i)[k].1:Key),V.int (hd i)[k].2):=by unfold dI;rw[kX,hZ hi'];rfl
     rw[e]at hk;exact kI hk
    have tk:gvS ((hd i).take (k+1)) (ss.map V.int)=gvS ((hd i).take k) (ss.map V.int)++(if(hd i)[k].1∈ss then[(hd i)[k].1]else[]):=by
     unfold gvS;rw[←mC hi',mB,gZ];congr 1;show List.filter _ [(hd i)[k].1]=_;rw[gP,mi];by_cases c:(hd i)[k].1∈ss
     ·rw[hI c,kG c];rfl
     rw[hG c,kE c];rfl
    have go3:DGet HB ya (.str "one") (some (.ref lo)):=DGet.k (k:=Sum.inr "one") (k3 _ _ yw ha);show zB _ (V.int (hd i)[k].1) _ _ _;refine⟨_,rfl,_,rfl,ya,_,rfl,go3,lo,_,rfl,.inl (SqL.of (k3 _ _ lw hlo)),rfl,q4F,_,rfl,?_⟩;show if inV (.int (hd i)[k].1) (ss.map V.int)=true then _ else _;rw[q08,tk];by_cases c:(hd i)[k].1∈ss
    ·rw[hI c,kG c];refine iteT ⟨_,rfl,_,hd3,?_,?_,λx u nx e'=>?_,?_⟩
     ·rw[hU];have:(gvS ((hd i).take k) (ss.map V.int)).length≤64:=by unfold gvS;refine mJ (mF _ _) ?_;rw[hU,m9];lia
      lia
     ·rw[qD Dw.symm];exact fz3
     ·rw[qD (qG e' nDH)];exact k3 _ _ nx e'
     rw[qF,mB];rfl
    rw[hG c,kE c,wC];exact iteF ⟨fz3,k3,hd3⟩
   obtain⟨fz3,k3,hd3⟩:=hp;rw[q0M,mW]at hd3;refine⟨oo,_,fz3,?_⟩;have sH:Same H3 (upd HB (y.hA i) (.dK (dI (hd i)))):=qB6 hi2 k3;have hd4:(upd HB (y.hA i) (.dK (dI (hd i)))) D=some (.lst ((gvS (hd i) (ss.map V.int)).map V.int)):=by rw[qD Dw];exact hd3
   generalize upd HB (y.hA i) (.dK (dI (hd i)))=HC at sH hd4 ⊢;refine⟨sz0,λe HD nE sE hE=>⟨D,_,e,rfl,rfl,SqL.of (sE _ _ hd4),SqL.of hE,_,rfl,?_,sH.trans sE⟩⟩;refine gE.mpr ⟨λz=>⟨d1,λw=>z (by rw[w];rfl)⟩,λz w=>z.2 (lF.mp w)⟩
  rw[show decide (V.str w'=V.str "give")=false by simpa using d1];exact iteF ⟨(hG λz=>d1 z.1).symm,Same.refl _⟩
 rintro b H4 ⟨rfl,s4⟩
 by_cases c5:w'="give"∧gvS (hd i) us≠[]
 ·rw[hI c5];rw[kG c5]at kk;exact iteT (dd H4 s4 kk)
 rw[hG c5];rw[kE c5]at kk;refine iteF ?_;have gw4:DGet H4 ya (.str "word") (some (.str w')):=DGet.k (k:=Sum.inr "word") (s4 _ _ ha);refine⟨λb H5=>b=decide (w'="empty"∧(hd i).length≠0)∧Same H3 H5,?_,?_⟩
 ·refine⟨_,rfl,ya,_,rfl,gw4,rfl,_,rfl,?_⟩;by_cases d1:w'="empty"
  ·rw[show decide (V.str w'=V.str "empty")=true by simp[d1]];refine iteT ⟨_,rfl,λe ne=>?_⟩;have sE:Same H4 (upd H4 e (.dK [])):=Same.upd ne;refine⟨y.hA i,e,_,rfl,rfl,sE _ _ (s4 _ _ hi2),qF,_,rfl,?_⟩;rw[q0M];refine⟨?_,s4.trans sE⟩;by_cases d2:(hd i).length=0<;>simp[d1,d2]
  rw[show decide (V.str w'=V.str "empty")=false by simpa using d1];exact iteF ⟨(hG λz=>d1 z.1).symm,s4⟩
 rintro b H5 ⟨rfl,s5⟩
 by_cases c6:w'="empty"∧(hd i).length≠0
 ·rw[hI c6];rw[kG c6]at kk;exact iteT (dd H5 s5 kk)
 rw[hG c6];rw[kE c6]at kk;exact iteF (kk H5 s5)
·exact .inl ⟨_,gi,_,rfl,iteT (k1 np H (Same.refl H))⟩
exact .inr ⟨_,mn.h,gi,_,rfl,iteT (k1 np H (Same.refl H))⟩)
noncomputable def spBi:Sp:=λvs H Q _=>∃y n nm ct sc hd W,vs=[.ref y.mi]∧Mn H y n nm ct sc hd n∧Unl n nm∧n≤4∧(∀i,ct i≤60)∧Nt n ct sc W hd∧Q (.int ((sumB (λk=>decide ((k:Int)∈W.map (·.1))) (fst ct n):Nat):Int)) H
theorem qAF(T:Txt K mg t)(S:Fns K t):S.aBE.Ok0 P w mg base 1 spBi:=by(
refine S.aBE.F.ok0 u9 λcdv A _ s H vs Q E hr h=>?_
obtain⟨y,n,nm,ct,sc,hd,W,rfl,mn,u,n4,c60,nt,k⟩:=h
have hu:=v5 hr
have sz:(100:Nat)<sizeLine:=by decide
refine⟨_,(qB (qW (i:=1) u9.nd rfl (Or.inl rfl) qJ) (qB (qW (i:=2) u9.nd rfl (Or.inl rfl) qJ) (qB (uH gF rfl (jV (qK hu (pv 0) qI (λ_ _=>rfl))) (qZ (i:=3) u9.nd rfl (Or.inl rfl)) (qC (uH gF rfl (vB rfl T.oO (qA (qK hu (qK hu (pv 0) qI (λ_ _=>rfl)) (pv 3) (λ_ _=>rfl)) qE)) (qZ (i:=4) u9.nd rfl (Or.inl rfl)) (qB (qV (q4G (q8H hu (pv 4) (qK hu (qK hu (pv 0) qI (λ_ _=>rfl)) (pv 3) (λ_ _=>rfl)))) (qC (qW (i:=1) u9.nd rfl (Or.inl rfl) (qT yN (pv 1) (pv 2)))) qL) (qC (qW (i:=2) u9.nd rfl (Or.inl rfl) (qT vC (pv 2) qJ))))))) (qC (qP (pv 1)))))),?_⟩
try dsimp-beta-proj-iota-zeta-eta only[wishK,cxK]
have go:DGet H y.mi (.str "order") (some (.ref y.oa)):=DGet.k (k:=Sum.inr "order") mn.m
have gt:DGet H y.mi (.str "sheets") (some (.ref y.ta)):=DGet.k (k:=Sum.inr "sheets") mn.m
have gh:DGet H y.mi (.str "held") (some (.ref y.ha)):=DGet.k (k:=Sum.inr "held") mn.m
refine⟨_,rfl,y.mi,_,rfl,go,y.oa,rfl,⟨_,SqL.of mn.o⟩,?_⟩
refine q0R (K:=K) (xs:=(List.range n).map λi=>V.str (nm i)) (λi σ' H2=>(∃y3 y4,σ'=[some (.ref y.mi),some (.int ((sumB (λk=>decide ((k:Int)∈W.map (·.1))) (fst ct i):Nat):Int)),some (.int ((2 ^ fst ct i:Nat):Int)),y3,y4])∧H2=H) ⟨⟨_,_,rfl⟩,rfl⟩ (λi σ' H2 hi hp=>by rw[hp.2];exact SqL.of mn.o) (λi v σ' H2 D' nxt hv hp=>?_) (λσ' H2 hp=>?_)
·obtain⟨⟨y3,y4,rfl⟩,e2⟩:=hp;rw[e2];clear e2;have hi:i<n:=by have:=(hV.mp hv).1;simpa using this
 rw[kX,dH hi]at hv;obtain rfl:V.str (nm i)=v:=kI hv;have gti:=DGet.k (k:=Sum.inr (nm i)) mn.c;rw[zD u hi]at gti;have ghi:=DGet.k (k:=Sum.inr (nm i)) mn.h;rw[zD u hi]at ghi;have c6:=c60 i;refine⟨_,rfl,y.mi,_,rfl,gt,_,rfl,y.ta,_,rfl,gti,_,rfl,by lia,by lia,?_⟩;rw[mY];refine q10 (λs σ' H3=>(∃y4,σ'=[some (.ref y.mi),some (.int ((sumB (λk=>decide ((k:Int)∈W.map (·.1))) (fst ct i+s):Nat):Int)),some (.int ((2 ^ (fst ct i+s):Nat):Int)),some (.str (nm i)),y4])∧H3=H) ⟨⟨_,rfl⟩,rfl⟩ (λs σ' H3 D2 nxt2 hs hp=>?_) (λσ' H3 hp=>?_)
 ·obtain⟨⟨y4,rfl⟩,e3⟩:=hp;rw[e3,rM];clear e3;have gk:=DGet.k (k:=Sum.inl (s:Int)) (mn.d i hi);refine⟨_,rfl,_,rfl,y.mi,_,rfl,gh,_,rfl,y.ha,_,rfl,ghi,y.hA i,_,rfl,gk,_,rfl,?_⟩;rw[qFC (nt.nd i hi)];have key:=nt.key hi (s:=(s:Int)) (by lia) (by lia);have p2:((2 ^ (fst ct i+s):Nat):Int)*2=((2 ^ (fst ct i+(s+1)):Nat):Int):=by rw[show fst ct i+(s+1)=(fst ct i+s)+1 by lia,Nat.pow_succ];lia
  by_cases c:(s:Int)∈(hd i).map (·.1)
  ·rw[hI c];refine iteT ⟨_,rfl,_,rfl,iI ?_⟩;refine⟨_,rfl,iI ⟨.inr ⟨by decide,by decide⟩,?_⟩⟩;dsimp only;rw[p2];have e1:((sumB (λk=>decide ((k:Int)∈W.map (·.1))) (fst ct i+s):Nat):Int)+((2 ^ (fst ct i+s):Nat):Int)=((sumB (λk=>decide ((k:Int)∈W.map (·.1))) (fst ct i+(s+1)):Nat):Int):=by show _=((sumB (λk=>decide ((k:Int)∈W.map (·.1))) (fst ct i+s)+(if decide (((fst ct i+s:Nat):Int)∈W.map (·.1))=true then 2 ^ (fst ct i+s)else 0):Nat):Int);rw[hI (by rw[wQ];exact key.mpr c),kG rfl,wQ]
   rw[e1];exact nxt2 _ _ ⟨⟨_,rfl⟩,rfl⟩
  rw[hG c];refine iteF ?_;refine⟨_,rfl,iI ⟨.inr ⟨by decide,by decide⟩,?_⟩⟩;dsimp only;rw[p2];have e1:sumB (λk=>decide ((k:Int)∈W.map (·.1))) (fst ct i+s)=sumB (λk=>decide ((k:Int)∈W.map (·.1))) (fst ct i+(s+1)):=by show _=sumB (λk=>decide ((k:Int)∈W.map (·.1))) (fst ct i+s)+(if decide (((fst ct i+s:Nat):Int)∈W.map (·.1))=true then 2 ^ (fst ct i+s)else 0);rw[hG (by rw[wQ];exact λz=>c (key.mp z)),kE (by decide),l7]
  rw[e1];exact nxt2 _ _ ⟨⟨_,rfl⟩,rfl⟩
 obtain⟨⟨y4,rfl⟩,e3⟩:=hp;rw[e3];exact nxt _ _ ⟨⟨_,_,rfl⟩,rfl⟩
obtain⟨⟨y3,y4,rfl⟩,e2⟩:=hp
rw[hU,mU,e2]
exact⟨_,rfl,k⟩)
inductive DnC(H:Hp)(m':CM)(q':QM)(so n' n2:Nat)(W W' K:Mp)(ct sc:Nat→Nat)(i:Nat):Str→V→V→V→Mp→Prop
|wr {j c:Int} (j0:0≤j) (j1:j<((ct i:Nat):Int)) (hc:j∈K.map (·.1)∨K.length<sc i) (en:n2=n'+1) (ew:W'=putW W (((fst ct i:Nat):Int)+j) c) (hv:(((fst ct i:Nat):Int)+j,(n':Int))∈q'.V):DnC H m' q' so n' n2 W W' K ct sc i "write" (.int j) (.int c) (.int (n':Int)) (putW K j c)
|gv {w:Str} {o v:V} {ss:List Int} (hw:(w="give"∧∃lo,o=.ref lo∧H lo=some (.lst (ss.map V.int)))∨(w="empty"∧∀s∈K.map (·.1),s∈ss)) (hs:∀s∈ss,0≤s∧s<((ct i:Nat):Int)) (ew:W'=yP W (ss.map λj=>((fst ct i:Nat):Int)+j))
 (hn:((∀s∈K.map (·.1),s∉ss)∧n2=n')∨(¬(∀s∈K.map (·.1),s∉ss)∧n2=n'+1∧∃tp mk,m'.bo.getD n' .non=.ref tp∧H tp=some (.tup [mk,.int ((sumB (λk=>decide ((k:Int)∈W'.map (·.1))) so:Nat):Int)])∧m'.rc[n']?=some ((Str.ofString "put"),(n':Int),true))):DnC H m' q' so n' n2 W W' K ct sc i w o v (.int ((cntS W (ss.map λj=>((fst ct i:Nat):Int)+j):Nat):Int)) (yP K ss)
|rd {j:Int} {v fv:V} (en:n2=n') (ew:W'=W) (ef:fv=(valV (dI K) (Sum.inl j:Key)).getD .non):DnC H m' q' so n' n2 W W' K ct sc i "read" (.int j) v fv K
|hl {o v:V} {l:Addr} {ks:List Int} (en:n2=n') (ew:W'=W) (h:H l=some (.lst (ks.map V.int))) (pm:ks.Perm (K.map (·.1))) (pw:ks.Pairwise (·≤·)):DnC H m' q' so n' n2 W W' K ct sc i "held" o v (.ref l) K
|ro {o v:V} (en:n2=n') (ew:W'=W):DnC H m' q' so n' n2 W W' K ct sc i "room" o v (.int (((sc i:Nat):Int)-((K.length:Nat):Int))) K
|sh {o v:V} (en:n2=n') (ew:W'=W):DnC H m' q' so n' n2 W W' K ct sc i "share" o v (.int ((sc i:Nat):Int)) K
noncomputable def spDn(t:Adr):Sp:=λvs H Q _=>∃H0 x so sr m q,∃n':Nat,∃W z y ra us n nm ct sc hd m' q' n2 W' ya b1 b2 w o v fv i K',vs=[.ref x.s,.ref y.mi,.ref ya,fv,.int (n':Int)]∧J t H0 x so sr m q n' W false z y ra us n nm ct sc hd∧Keep (t.aT::sf x) H0 H∧PS t H x so (sr:Int) m' q' n2 W' false∧H ya=some (.dK (dQ (.str (nm i)) b1 b2 w o v))∧(∀i,ct i≤60)∧n'<1000∧n'<q'.B*q'.P∧i<n∧DnC H m' q' so n' n2 W W' (hd i) ct sc i w o v fv K'∧∀hd' H',J t H' x so sr m' q' n2 W' false z y ra us n nm ct sc hd'→Keep (t.aT::(sf x++[y.hA i])) H H'→Q (.bl true) H'
theorem qAG(T:Txt K mg t)(S:Fns K t):S.aBI.Ok0 P w mg base 7 (spDn t):=by(
refine S.aBI.F.ok0 vU λcdv A _ s H vs Q E hr h=>?_
obtain⟨H0,x,so,sr,m,q,n',W,z,y,ra,us,n,nm,ct,sc,hd,m',q',n2,W',ya,b1,b2,w',o,v,fv,i,K',rfl,j,k0,ps,ha,c60,n9,nbp,hi,dn,kk⟩:=h
have hu:=v5 hr
have sz:(100:Nat)<sizeLine:=by decide
refine⟨_,(qB (qW (i:=5) vU.nd rfl (Or.inl rfl) (qK hu (qK hu (pv 1) qI (λ_ _=>rfl)) (qK hu (pv 2) qI (λ_ _=>rfl)) (λ_ _=>rfl))) (qB (qV (qN jR (qK hu (pv 2) qI (λ_ _=>rfl)) qI (qO _)) (qB (zJ hu (pv 5) (qK hu (pv 2) qI (λ_ _=>rfl)) (qK hu (pv 2) qI (λ_ _=>rfl)) rfl) (qC (qP (vA (qX (zL T S).mono hr rfl T.fH T.fM S.fX.b .nil qQ (qA (pv 3) qE)) (vA (yC jR (qS jJ (by rfl) T.fW mR (qA (jL (qM (pv 0) rfl) T.aV T.eO (uL T S).mono hr S.eJ.b .nil qQ) qE)) (qT yN (pv 4) qJ) (qO _)) (uX (yC jR (yF q1I (jB vP (qM (pv 0) rfl) T.aV T.oR (q1F T S).mono hr S.iW.b .nil (qA (pv 3) qE)) qJ (λ_ _=>rfl)) (qK hu (pv 2) qI (λ_ _=>rfl)) (qO _)))))))) qL) (qB (qV (q34 (PW.pt (q1G (qN jR (qK hu (pv 2) qI (λ_ _=>rfl)) qI (qO _)) (q0A (qN jR (qK hu (pv 2) qI (λ_ _=>rfl)) qI (qO _)))))) (qB (q69 (i:=6) ["_law_ask","_law_sheet"] [2] rfl (jV (qS (q0Y rfl) (by rfl) T.o9 (by kernel_rfl) (qA (pv 5) qE))) (λ_ _ _ _ _=>(qZ (i:=1) (show List.Nodup (["_law_ask","_law_sheet"]:List Str)from by decide) rfl (Or.inl rfl))) (λ_ _ _ _ _=>(q06 (PW.pt (q1G (qN jR (qK hu (pv 0) qI (λ_ _=>rfl)) qI (qO _)) (q0A (qN (q36 (K:=K) rfl) (pv 1) (qK hu (pv 0) qI (λ_ _=>rfl)) rfl)))))) (λ_ _ _ _ _=>(pv 1)) (by kernel_rfl) (jY (by decide)) vU.nd rfl (Or.inl rfl)) (qB (uH gF rfl (jV (pv 6)) (qZ (i:=7) vU.nd rfl (Or.inl rfl)) (qC (jD (q9N (pv 5) (pv 7) ⟨rfl,rfl,rfl,rfl⟩)))) (qB (qW (i:=8) vU.nd rfl (Or.inl rfl) (jL (qM (pv 0) rfl) T.aV T.eO (uL T S).mono hr S.eJ.b .nil qQ)) (qB (qV (PW.pt (q1G (jZ (jI (qX (zL T S).mono hr rfl T.fH T.fM S.fX.b .nil qQ (qA (pv 3) qE)))) (q1G (qN q2R (pv 3) (qS jJ (by rfl) T.fW mR (qA (pv 6) qE)) (qO _)) (q0A (qN q2R (qS jJ (by rfl) T.fW mR (qA (pv 8) qE)) (qT yN (pv 4) (vD q0O (by rfl) T.aCX (by kernel_rfl) (qA (yC (qEQ hr.units) (pv 6) (jX qE) (qO _)) qE))) (qO _)))))) (qC (qP q2Q)) qL) (qC (qP (qGS (yC (qAY hr.units) (pv 6) (jX qE) (qO _)) (uX (yC jR (yF q1I (jB vP (qM (pv 0) rfl) T.aV T.oR (q1F T S).mono hr S.iW.b .nil (qA (yF q1I (yF jN (pv 8) (pv 4) (λ_ _=>rfl)) qJ (λ_ _=>rfl)) qE)) qJ (λ_ _=>rfl)) (qX (qAF T S).mono hr rfl T.aCO T.aCW S.aBE.b .nil qQ (qA (pv 1) qE)) (qO _)))))))))) qL) (qB (qV (qN q2R (qS jJ (by rfl) T.fW mR (qA (jL (qM (pv 0) rfl) T.aV T.eO (uL T S).mono hr S.eJ.b .nil qQ) qE)) (pv 4) (qO _)) (qC (qP q2Q)) qL) (qB (qV (qN jR (qK hu (pv 2) qI (λ_ _=>rfl)) qI (qO _)) (qC (qP (yC jR (pv 3) (qDY hu (pv 5) (qK hu (pv 2) qI (λ_ _=>rfl)) ⟨rfl,rfl,rfl,rfl⟩) (qO _)))) qL) (qB (qV (qN jR (qK hu (pv 2) qI (λ_ _=>rfl)) qI (qO _)) (qC (qP (vA (qS jK (by rfl) T.aY (by kernel_rfl) (qA (pv 3) (qA (vJ rfl T.aDF (by kernel_rfl) rfl (v:=.ty "list")) qE))) (uX (yC (qE8 hr.units) (pv 3) (qS (q0Y rfl) (by rfl) T.o9 (by kernel_rfl) (qA (pv 5) qE)) (qO _)))))) qL) (qB (qV (qN jR (qK hu (pv 2) qI (λ_ _=>rfl)) qI (qO _)) (qC (qP (vA (qX (zL T S).mono hr rfl T.fH T.fM S.fX.b .nil qQ (qA (pv 3) qE)) (uX (yC jR (pv 3) (qT uY (qK hu (qK hu (pv 1) qI (λ_ _=>rfl)) (qK hu (pv 2) qI (λ_ _=>rfl)) (λ_ _=>rfl)) (qS q4K (by rfl) T.fW mR (qA (pv 5) qE))) (qO _)))))) qL) (qC (qP (vA (qX (zL T S).mono hr rfl T.fH T.fM S.fX.b .nil qQ (qA (pv 3) qE)) (uX (yC jR (pv 3) (qK hu (qK hu (pv 1) qI (λ_ _=>rfl)) (qK hu (pv 2) qI (λ_ _=>rfl)) (λ_ _=>rfl)) (qO _))))))))))))),?_⟩
try dsimp-beta-proj-iota-zeta-eta only[wishK,cxK]
have nF:=j.offF
have u:=j.ok.u
obtain⟨hm,ho1,ho2⟩:=j.hAi hi
have mi1:=k0.k _ _ (nF y.mi (by simp[own])) j.mn.m
have ha1:=k0.k _ _ (nF y.ha (by simp[own])) j.mn.h
have sa1:=k0.k _ _ (nF y.sa (by simp[own])) j.mn.s
have hd1:=k0.k _ _ (nF _ hm) (j.mn.d i hi)
have gh:DGet H y.mi (.str "held") (some (.ref y.ha)):=DGet.k (k:=Sum.inr "held") mi1
have gn:DGet H ya (.str "name") (some (.str (nm i))):=DGet.k (k:=Sum.inr "name") ha
have gw:DGet H ya (.str "word") (some (.str w')):=DGet.k (k:=Sum.inr "word") ha
have go:DGet H ya (.str "one") (some o):=DGet.k (k:=Sum.inr "one") ha
have gv:DGet H ya (.str "other") (some v):=DGet.k (k:=Sum.inr "other") ha
have ghi:=DGet.k (k:=Sum.inr (nm i)) ha1
rw[zD u hi]at ghi
have yw:ya≠y.hA i:=λz=>by
 rw[z,hd1]at ha;have e:=HO.dK.inj (kI ha);cases hq:hd i with
 |nil=>rw[hq]at e;cases e
 |cons r rs=>rw[hq]at e;cases e
have h64:=j.ps.h64
have lW:(hd i).length<64:=by have:=j.nt.len j.ps.nd hi;unfold cutP at this;rw[hU]at this;have l2:=mF (λk=>decide (((fst ct i:Nat):Int)≤k)&&decide (k<((fst ct i:Nat):Int)+((ct i:Nat):Int))) (W.map (·.1));rw[j.ps.pm.length_eq]at h64;lia
refine⟨_,rfl,y.mi,_,rfl,gh,_,rfl,ya,_,rfl,gn,y.ha,_,rfl,ghi,?_⟩
refine⟨_,rfl,ya,_,rfl,gw,rfl,_,rfl,?_⟩
have stay:∀H',Same H H'→n2=n'→W'=W→J t H' x so sr m' q' n2 W' false z y ra us n nm ct sc hd:=λH' s en ew=>by subst ew;exact(j.keep ps k0).same s
have deeds:∀{Hd:Hp} {Qd:VK},PS t Hd x so (sr:Int) m' q' n2 W' false→(∀p rs Hd',Same Hd Hd'→Hd p=none→Hd' p=some (.lst rs)→rs.length=n2→Recd Hd rs m'.rc→Qd (.ref p) Hd')→spDe t [.ref x.c] Hd Qd E0:=fun {Hd Qd} pd kd=>⟨x.c,x.a,m',rfl,pd.st.ch,λrs hrs rec p Hd' np s h=>kd p rs Hd' s np h (by rw[rec.len];exact pd.rc) rec⟩
cases dn with
|@wr jj c j0 j1 hc en ew hv=>
 rw[hI rfl];refine iteT ?_;refine⟨_,rfl,ya,_,rfl,gv,_,rfl,_,rfl,ya,_,rfl,go,y.hA i,_,rfl,DPut.k (k:=Sum.inl jj) hd1 (by rw[q0M];lia),?_⟩;rw[qCA];have k2:Keep [y.hA i] H (upd H (y.hA i) (.dK (dI (putW (hd i) jj c)))):=Keep.upd hd1 (λ_ y=>by cases y) (by simp);have e2:(upd H (y.hA i) (.dK (dI (putW (hd i) jj c)))) (y.hA i)=some (.dK (dI (putW (hd i) jj c))):=qF;have ha2:(upd H (y.hA i) (.dK (dI (putW (hd i) jj c)))) ya=some (.dK (dQ (.str (nm i)) b1 b2 "write" (.int jj) (.int c))):=by rw[qD yw];exact ha
 generalize upd H (y.hA i) (.dK (dI (putW (hd i) jj c)))=H2 at k2 e2 ha2 ⊢;have j2:=j.up hi (hd':=λk=>if k=i then putW (hd i) jj c else hd k) ps k0 k2 (by rw[e2,kG rfl]) (λk ne=>kE ne) (ew▸j.nt.put j.ps.nd hi j0 j1 hc);have p2:=j2.ps;refine⟨_,rfl,.int n',rfl,.int n',_,rfl,iteT ?_⟩;refine(iV rfl (iF p2.st.o T.aU T.aX rfl (iM p2.st.ch.ins rfl (deeds p2 λp rs H3 s3 np h3 l3 rec=>⟨p,rs,rfl,.inl (SqL.of h3),_,rfl,iI ⟨rfl,_,rfl,?_⟩⟩))));rw[l3,en,show decide (V.int ((n'+1:Nat):Int)=V.int ((n':Int)+1))=true by simp];have p3:=p2.same s3;obtain⟨pg,st,mk,a1,a2,a3,a4,a5⟩:=p3.vl (((fst ct i:Nat):Int)+jj) c (by rw[ew];exact(vS j.ps.nd).mpr (.inl rfl));have epg:pg=(n':Int):=by have e1:=vK p3.ft.oq.nd a1;rw[vK p3.ft.oq.nd hv]at e1;exact(V.int.inj (kI e1)).symm
 subst epg;refine iteT (iV rfl (iF p3.st.o T.aU T.aX rfl (iM p3.st.ch.ins rfl ⟨_,rfl,?_⟩)));refine⟨x.c,x.a,m',(n':Int),rfl,p3.st.ch,p3.ft.ok,a2,a3,λz=>absurd z p3.lit,λ_=>?_⟩;rw[a4];have gv3:DGet H3 ya (.str "other") (some (.int c)):=DGet.k (k:=Sum.inr "other") (s3 _ _ ha2);refine(iT (k:=1) (v:=.int c) (SqT.of a5) rfl ⟨_,rfl,ya,_,rfl,gv3,rfl,?_⟩);rw[hI rfl];exact kk _ H3 (j2.same s3) ((k2.mono (by simp)).trans (Keep.same s3))
|@gv w o v ss hw hs ew hn=>
 have nw:decide (V.str w'=V.str "write")=false:=hG (by rcases hw with⟨rfl,_⟩|⟨rfl,_⟩<;>(intro z;injection z with z;revert z;decide));rw[nw];refine iteF ?_;refine⟨λb H'=>b=true∧H'=H,?_,?_⟩
 ·refine⟨_,rfl,ya,_,rfl,gw,rfl,_,rfl,?_⟩;rcases hw with⟨rfl,_⟩|⟨rfl,_⟩
  ·rw[hI rfl];exact iteT ⟨rfl,rfl⟩
  rw[hG (by intro z;injection z with z;revert z;decide)];refine iteF ⟨_,rfl,ya,_,rfl,gw,rfl,_,rfl,?_⟩;rw[hI rfl];exact⟨rfl,rfl⟩
 rintro b H' ⟨rfl,e⟩
 rw[e];clear e;refine iteT ⟨_,rfl,y.hA i,_,rfl,hd1,lW,λns pm pw p1 H1 n1 s1 h1=>⟨p1,rfl,⟨_,SqL.of h1⟩,λD H2 nD s2 hD=>?_⟩⟩;have hm1:∀s,s∈ns↔s∈(hd i).map (·.1):=λs=>pm.mem_iff;have lns:ns.length<64:=by rw[pm.length_eq,hU];exact lW
 refine q1O (K:=K) (xs:=ns.map V.int) (D:=D) (λk H3=>Same H1 H3∧H3 D=some (.lst ((gvn (ns.take k) ss).map V.int))) ⟨s2,hD⟩ (λk H3 hp=>SqL.of (hp.1 _ _ h1)) (λk v' H3 hv hp=>?_) (λH3 hp=>?_)
 ·obtain⟨sm,hd'⟩:=hp;rw[kX]at hv;obtain⟨c,hc,rfl⟩:=mO.mp hv;have hi':=(hV.mp hc).1;have ev:=(hV.mp hc).2;have eg:gvn (ns.take (k+1)) ss=gvn (ns.take k) ss++(if c∈ss then[c]else[]):=by
   unfold gvn;rw[←mC hi',gZ,ev,gP];by_cases z:c∈ss
   ·rw[hI z,kG z];rfl
   rw[hG z,kE z];rfl
  rw[eg];have s13:=s1.trans sm;have gw3:DGet H3 ya (.str "word") (some (.str w')):=DGet.k (k:=Sum.inr "word") (s13 _ _ ha);have yes:c∈ss→∃vs,H3 D=some (.lst vs)∧vs.length<sizeLine∧(Same H1 (upd H3 D (.lst (vs++[V.int c])))∧(upd H3 D (.lst (vs++[V.int c]))) D=some (.lst ((gvn (ns.take k) ss++(if c∈ss then[c]else[])).map V.int))):=λz=>by
   refine⟨_,hd',?_,λb o e=>?_,?_⟩
   ·rw[hU];have l1:(gvn (ns.take k) ss).length≤(ns.take k).length:=mF _ _;rw[m9]at l1;lia
   ·rw[qD (qG e nD)];exact sm _ _ e
   rw[qF,mB,kG z];rfl
  refine⟨_,rfl,ya,_,rfl,gw3,rfl,_,rfl,?_⟩;rcases hw with⟨rfl,lo,rfl,hlo⟩|⟨rfl,al⟩
  ·rw[hG (by intro z;injection z with z;revert z;decide)];have go3:DGet H3 ya (.str "one") (some (.ref lo)):=DGet.k (k:=Sum.inr "one") (s13 _ _ ha);refine iteF ⟨_,rfl,_,rfl,ya,_,rfl,go3,lo,_,rfl,.inl (SqL.of (s13 _ _ hlo)),rfl,q4F,_,rfl,?_⟩;show if inV (.int c) (ss.map V.int)=true then _ else _;rw[q08];by_cases z:c∈ss
   ·rw[hI z];exact iteT ⟨_,rfl,yes z⟩
   rw[hG z,kE z,wC];exact iteF ⟨sm,hd'⟩
  rw[hI rfl];exact iteT (iteT ⟨_,rfl,yes (al c ((hm1 c).mp (mT hc)))⟩)
 obtain⟨sm,hD3⟩:=hp;rw[hU,mW]at hD3;have s03:Same H H3:=s1.trans sm;have nsd:ns.Nodup:=pm.nodup_iff.mpr (j.nt.nd i hi);have mg:∀s,s∈gvn ns ss↔s∈(hd i).map (·.1)∧s∈ss:=λs=>by unfold gvn;rw[mQ,hm1,dP]
 have gnd:(gvn ns ss).Nodup:=nsd.sublist g7;have lg:(gvn ns ss).length<64:=wS (mF _ _) lns;have eD:yP (hd i) (gvn ns ss)=yP (hd i) ss:=by unfold yP;refine dX λz hz=>gE.mpr ?_;rw[mg];exact⟨λw y=>w ⟨jH.mpr ⟨z.2,hz⟩,y⟩,λw y=>w y.2⟩
 have ecn:(cntS W (ss.map λj=>((fst ct i:Nat):Int)+j))=(gvn ns ss).length:=by
  unfold cntS;rw[←hU (f:=λj=>((fst ct i:Nat):Int)+j) (as:=gvn ns ss)];refine(q0X (j.ps.nd.sublist g7) (dW.mpr (gnd.imp λne e=>ne (by lia))) λs=>?_).length_eq;rw[mQ,dP];constructor
  ·rintro⟨a1,h⟩
   obtain⟨a,a2,rfl⟩:=kP.mp h;exact kP.mpr ⟨a,(mg a).mpr ⟨(j.nt.key hi (hs a a2).1 (hs a a2).2).mp a1,a2⟩,rfl⟩
  intro h;obtain⟨a,a1,rfl⟩:=kP.mp h;obtain⟨a2,a3⟩:=(mg a).mp a1;exact⟨(j.nt.key hi (hs a a3).1 (hs a a3).2).mpr a2,kP.mpr ⟨a,a3,rfl⟩⟩
 have nem:gvn ns ss=[]↔∀s∈(hd i).map (·.1),s∉ss:=by rw[List.eq_nil_iff_forall_not_mem];exact⟨λz s h1 h2=>z s ((mg s).mpr ⟨h1,h2⟩),λz s h=>z s ((mg s).mp h).1 ((mg s).mp h).2⟩
 generalize gvn ns ss=gn at *;have hd3:=s03 _ _ hd1;have nDA:D≠y.hA i:=λz=>by rw[z,hd3]at hD3;cases hD3
 refine⟨_,rfl,D,rfl,⟨_,SqL.of hD3⟩,?_⟩;refine q0R (K:=K) (xs:=gn.map V.int) (λk σ' H4=>(∃y7,σ'=[some (.ref x.s),some (.ref y.mi),some (.ref ya),some (.int ((cntS W (ss.map λj=>((fst ct i:Nat):Int)+j):Nat):Int)),some (.int (n':Int)),some (.ref (y.hA i)),some (.ref D),y7,none])∧Keep [y.hA i] H3 H4∧H4 (y.hA i)=some (.dK (dI (yP (hd i) (gn.take k))))) ⟨⟨_,rfl⟩,Keep.same (λ_ _ e=>e),?_⟩ (λk σ' H4 hk hp=>SqL.of (hp.2.1.k _ _ (by simpa using nDA) hD3)) (λk v' σ' H4 D' nxt hv hp=>?_) (λσ' H4 hp=>?_)
 ·rw[hd3,show yP (hd i) (gn.take 0)=hd i from rO.mpr (by simp)]
 ·obtain⟨⟨y7,rfl⟩,k4,h4⟩:=hp;rw[kX]at hv;obtain⟨c,hc,rfl⟩:=mO.mp hv;have hi':=(hV.mp hc).1;have ev:=(hV.mp hc).2;have cin:=((mg c).mp (mT hc)).1;obtain⟨c2,hc2⟩:=jH.mp cin;have cno:c∉gn.take k:=λz=>by obtain⟨a,a1,a2⟩:=cV z;rw[m9]at a1;rw[List.getElem_take,←ev]at a2;exact absurd a2 (dL.mp gnd a k (by lia) hi' (by lia))
  have vv:=vK (q2D (g:=gn.take k) (j.nt.nd i hi)) (yK.mpr ⟨hc2,cno⟩);refine⟨_,rfl,y.hA i,rfl,.inl ⟨_,.inl h4⟩,_,rfl,_,Sum.inl c,_,h4,rfl,vv,nxt _ _ ⟨⟨_,rfl⟩,k4.trans (Keep.upd h4 (λ_ y=>by cases y) (by simp)),?_⟩⟩;rw[qF,qA0,←qBH,←ev,mC hi']
 obtain⟨⟨y7,rfl⟩,k4,h4⟩:=hp;rw[hU,mW,eD]at h4;have hD4:=k4.k _ _ (by simpa using nDA) hD3;have k04:Keep [y.hA i] H H4:=(Keep.same s03).trans k4;have j2:=j.up hi (hd':=λk=>if k=i then yP (hd i) ss else hd k) ps k0 k04 (by rw[h4,kG rfl]) (λk ne=>kE ne) (ew▸j.nt.drop hi hs);have p2:=j2.ps;refine(iV rfl (iF p2.st.o T.aU T.aX rfl (iM p2.st.ch.ins rfl (deeds p2 λp rs H5 s5 np h5 l5 rec=>?_))));have hD5:=s5 _ _ hD4;refine⟨_,rfl,.int _,rfl,.int _,_,rfl,iteF ?_⟩;refine⟨_,rfl,_,rfl,D,_,rfl,.inl (SqL.of hD5),rfl,_,rfl,?_⟩;rw[hU,ecn,show(!decide (V.int (gn.length:Int)=V.int (gn.length:Int)))=false by simp];refine iteF ⟨_,rfl,p,_,rfl,.inl (SqL.of h5),_,rfl,_,rfl,sz0,λe H6 n6 s6 h6=>⟨D,_,e,rfl,rfl,SqL.of (s6 _ _ hD5),SqL.of h6,.inr ⟨_,rfl,?_⟩⟩⟩;refine(iI ⟨rfl,_,rfl,?_⟩);have en2:n2=n'+if gn=[]then 0 else 1:=by
  rcases hn with⟨h,e⟩|⟨h,e,_⟩
  ·rw[kG (nem.mpr h),e,l7]
  rw[kE (λz=>h (nem.mp z)),e]
 have emp:(gn.map V.int=[])↔gn=[]:=by rw[lF]
 rw[l5,en2,show(!decide (V.int ((n'+if gn=[]then 0 else 1:Nat):Int)=V.int ((n':Int)+if decide (gn.map V.int≠[])=true then 1 else 0)))=false by
  by_cases z:gn=[]
  ·rw[kG z,kE (by rw[dP];exact λw=>w (emp.mpr z))];simp
  rw[kE z,kG (by rw[dP];exact λw=>z (emp.mp w))];simp]
 refine iteF ⟨_,rfl,sz0,λe7 H7 n7 s7 h7=>⟨D,_,e7,rfl,rfl,SqL.of (s7 _ _ (s6 _ _ hD5)),SqL.of h7,?_⟩⟩;have s57:=s6.trans s7;have fin:∀H',Same H7 H'→_:=λH' s'=>kk _ H' (j2.same ((s5.trans s57).trans s')) ((k04.mono (by simp)).trans (Keep.same ((s5.trans s57).trans s')));rcases hn with⟨h,e⟩|⟨h,e,tp,mk,b1',b2',b3'⟩
 ·rw[hI (emp.mpr (nem.mpr h))];exact⟨_,rfl,iteT (fin H7 λ_ _ e=>e)⟩
 rw[hG λz=>h (nem.mp (emp.mp z))];refine⟨_,rfl,iteF ?_⟩;have p7:=p2.same (s5.trans s57);have hn':n'<rs.length:=by lia
 obtain⟨d,hd9,q9,eq9,hq9⟩:=Paired.at rec (hZ hn');rw[b3']at hd9;obtain rfl:=kI hd9;refine(iV rfl (iF p7.st.o T.aU T.aX rfl (iM p7.st.ch.ins rfl ?_)));have a3:(n':Int)≤m'.bl*m'.pg-1:=by rw[p7.ft.eB,p7.ft.eP,←rJ];lia
 refine⟨_,rfl,_,rfl,iL (k:=_) (v:=_) (SqL.of (s57 _ _ h5)) (uZ (hZ hn')) ⟨q9,_,1,_,eq9,rfl,SqT.of (s57 _ _ (s5 _ _ hq9)),rfl,?_⟩⟩;refine⟨x.c,x.a,m',(n':Int),rfl,p7.st.ch,p7.ft.ok,by lia,a3,λz=>absurd z p7.lit,λ_=>?_⟩;rw[mY,b1'];refine(iT (k:=1) (v:=.int _) (SqT.of (s57 _ _ (s5 _ _ (k04.tp _ _ b2')))) rfl ⟨_,rfl,?_⟩);refine⟨y,n,nm,ct,sc,_,W',rfl,(j2.same (s5.trans s57)).mn,j.ok.u,j.ok.n4,c60,j2.nt,rfl,?_⟩;rw[j.so,hI rfl];exact fin H7 λ_ _ e=>e
|@rd jj v fv en ew ef=>
 rw[hG (by intro z;injection z with z;revert z;decide)];refine iteF ?_;refine⟨λb H'=>b=false∧H'=H,?_,?_⟩
 ·refine⟨_,rfl,ya,_,rfl,gw,rfl,_,rfl,?_⟩;rw[hG (by intro z;injection z with z;revert z;decide)];refine iteF ⟨_,rfl,ya,_,rfl,gw,rfl,_,rfl,?_⟩;rw[hG (by intro z;injection z with z;revert z;decide)];exact⟨rfl,rfl⟩
 rintro b H' ⟨rfl,e⟩
 rw[e];clear e;refine iteF ?_;refine(iV rfl (iF ps.st.o T.aU T.aX rfl (iM ps.st.ch.ins rfl (deeds ps λp rs H3 s3 np h3 l3 rec=>⟨p,rs,rfl,.inl (SqL.of h3),_,rfl,rfl,_,rfl,?_⟩))));rw[l3,en,show(!decide (V.int (n':Int)=V.int (n':Int)))=false by simp];have gw3:DGet H3 ya (.str "word") (some (.str "read")):=DGet.k (k:=Sum.inr "word") (s3 _ _ ha);have hd3:=s3 _ _ hd1;refine iteF ⟨_,rfl,ya,_,rfl,gw3,rfl,_,rfl,?_⟩;rw[hI rfl];have go3:DGet H3 ya (.str "one") (some (.int jj)):=DGet.k (k:=Sum.inr "one") (s3 _ _ ha);have gk:=DGet.k (k:=Sum.inl jj) hd3;refine iteT ⟨_,rfl,_,rfl,y.hA i,rfl,.inl ⟨_,.inl hd3⟩,_,rfl,ya,_,rfl,go3,_,gk,?_⟩;subst ef;have fin:=kk hd H3 (stay H3 s3 en ew) (Keep.same s3);by_cases c:jj∈(hd i).map (·.1)
 ·obtain⟨v2,hv2⟩:=jH.mp c;rw[vK (j.nt.nd i hi) hv2];refine⟨rfl,?_⟩;rw[hI rfl];exact fin
 rw[zU c];refine⟨rfl,?_⟩;rw[hI rfl];exact fin
|@hl o v l ks en ew hl' pm pw=>
 rw[hG (by intro z;injection z with z;revert z;decide)];refine iteF ?_;refine⟨λb H'=>b=false∧H'=H,?_,?_⟩
 ·refine⟨_,rfl,ya,_,rfl,gw,rfl,_,rfl,?_⟩;rw[hG (by intro z;injection z with z;revert z;decide)];refine iteF ⟨_,rfl,ya,_,rfl,gw,rfl,_,rfl,?_⟩;rw[hG (by intro z;injection z with z;revert z;decide)];exact⟨rfl,rfl⟩
 rintro b H' ⟨rfl,e⟩
 rw[e];clear e;refine iteF ?_;refine(iV rfl (iF ps.st.o T.aU T.aX rfl (iM ps.st.ch.ins rfl (deeds ps λp rs H3 s3 np h3 l3 rec=>⟨p,rs,rfl,.inl (SqL.of h3),_,rfl,rfl,_,rfl,?_⟩))));rw[l3,en,show(!decide (V.int (n':Int)=V.int (n':Int)))=false by simp];have gw3:DGet H3 ya (.str "word") (some (.str "held")):=DGet.k (k:=Sum.inr "word") (s3 _ _ ha);have hd3:=s3 _ _ hd1;refine iteF ⟨_,rfl,ya,_,rfl,gw3,rfl,_,rfl,?_⟩;rw[hG (by intro z;injection z with z;revert z;decide)];refine iteF ⟨_,rfl,ya,_,rfl,gw3,rfl,_,rfl,?_⟩;rw[hI rfl];refine iteT ⟨_,rfl,.ref l,_,_,.type "list",_,rfl,rfl,.inl (.lst (s3 _ _ hl')),qDZ,_,rfl,iteT ?_⟩;refine⟨_,rfl,_,rfl,y.hA i,_,rfl,hd3,lW,λns pm' pw' p2 H4 n4 s4 h4=>?_⟩;obtain rfl:ks=ns:=q8Q (pm.trans pm'.symm) pw pw';exact⟨q50 (SqL.of (s4 _ _ (s3 _ _ hl'))) (SqL.of h4) q4F,kk hd H4 (stay H4 (s3.trans s4) en ew) (Keep.same (s3.trans s4))⟩
|ro en ew=>
 rw[hG (by intro z;injection z with z;revert z;decide)];refine iteF ?_;refine⟨λb H'=>b=false∧H'=H,?_,?_⟩
 ·refine⟨_,rfl,ya,_,rfl,gw,rfl,_,rfl,?_⟩;rw[hG (by intro z;injection z with z;revert z;decide)];refine iteF ⟨_,rfl,ya,_,rfl,gw,rfl,_,rfl,?_⟩;rw[hG (by intro z;injection z with z;revert z;decide)];exact⟨rfl,rfl⟩
 rintro b H' ⟨rfl,e⟩
 rw[e];clear e;refine iteF ?_;refine(iV rfl (iF ps.st.o T.aU T.aX rfl (iM ps.st.ch.ins rfl (deeds ps λp rs H3 s3 np h3 l3 rec=>⟨p,rs,rfl,.inl (SqL.of h3),_,rfl,rfl,_,rfl,?_⟩))));rw[l3,en,show(!decide (V.int (n':Int)=V.int (n':Int)))=false by simp];have gw3:DGet H3 ya (.str "word") (some (.str "room")):=DGet.k (k:=Sum.inr "word") (s3 _ _ ha);have hd3:=s3 _ _ hd1;refine iteF ⟨_,rfl,ya,_,rfl,gw3,rfl,_,rfl,?_⟩;rw[hG (by intro z;injection z with z;revert z;decide)];refine iteF ⟨_,rfl,ya,_,rfl,gw3,rfl,_,rfl,?_⟩;rw[hG (by intro z;injection z with z;revert z;decide)];refine iteF ⟨_,rfl,ya,_,rfl,gw3,rfl,_,rfl,?_⟩;rw[hI rfl];have gs3:DGet H3 y.mi (.str "shares") (some (.ref y.sa)):=DGet.k (k:=Sum.inr "shares") (s3 _ _ mi1);have gn3:DGet H3 ya (.str "name") (some (.str (nm i))):=DGet.k (k:=Sum.inr "name") (s3 _ _ ha);have gsi:=DGet.k (k:=Sum.inr (nm i)) (s3 _ _ sa1);rw[zD u hi]at gsi;refine iteT ⟨_,rfl,.int _,rfl,.int _,_,rfl,iteT ?_⟩;refine⟨_,rfl,_,rfl,y.mi,_,rfl,gs3,_,rfl,ya,_,rfl,gn3,y.sa,_,rfl,gsi,_,rfl,y.hA i,_,rfl,hd3,_,_,rfl,rfl,rfl,?_⟩;rw[q0M,hI rfl];exact kk hd H3 (stay H3 s3 en ew) (Keep.same s3)
|sh en ew=>
 rw[hG (by intro z;injection z with z;revert z;decide)];refine iteF ?_;refine⟨λb H'=>b=false∧H'=H,?_,?_⟩
 ·refine⟨_,rfl,ya,_,rfl,gw,rfl,_,rfl,?_⟩;rw[hG (by intro z;injection z with z;revert z;decide)];refine iteF ⟨_,rfl,ya,_,rfl,gw,rfl,_,rfl,?_⟩;rw[hG (by intro z;injection z with z;revert z;decide)];exact⟨rfl,rfl⟩
 rintro b H' ⟨rfl,e⟩
 rw[e];clear e;refine iteF ?_;refine(iV rfl (iF ps.st.o T.aU T.aX rfl (iM ps.st.ch.ins rfl (deeds ps λp rs H3 s3 np h3 l3 rec=>⟨p,rs,rfl,.inl (SqL.of h3),_,rfl,rfl,_,rfl,?_⟩))));rw[l3,en,show(!decide (V.int (n':Int)=V.int (n':Int)))=false by simp];have gw3:DGet H3 ya (.str "word") (some (.str "share")):=DGet.k (k:=Sum.inr "word") (s3 _ _ ha);have hd3:=s3 _ _ hd1;refine iteF ⟨_,rfl,ya,_,rfl,gw3,rfl,_,rfl,?_⟩;rw[hG (by intro z;injection z with z;revert z;decide)];refine iteF ⟨_,rfl,ya,_,rfl,gw3,rfl,_,rfl,?_⟩;rw[hG (by intro z;injection z with z;revert z;decide)];refine iteF ⟨_,rfl,ya,_,rfl,gw3,rfl,_,rfl,?_⟩;rw[hG (by intro z;injection z with z;revert z;decide)];refine iteF ?_;have gs3:DGet H3 y.mi (.str "shares") (some (.ref y.sa)):=DGet.k (k:=Sum.inr "shares") (s3 _ _ mi1);have gn3:DGet H3 ya (.str "name") (some (.str (nm i))):=DGet.k (k:=Sum.inr "name") (s3 _ _ ha);have gsi:=DGet.k (k:=Sum.inr (nm i)) (s3 _ _ sa1);rw[zD u hi]at gsi;refine⟨_,rfl,.int _,rfl,.int _,_,rfl,iteT ?_⟩;refine⟨_,rfl,_,rfl,y.mi,_,rfl,gs3,_,rfl,ya,_,rfl,gn3,y.sa,_,rfl,gsi,rfl,?_⟩;rw[hI rfl];exact kk hd H3 (stay H3 s3 en ew) (Keep.same s3))
theorem vV{X:Cx}{st:Stmt}{t:TS}(h:PSw X st t):PBw X [st] t:=⟨qC h.h⟩
theorem q2E{X:Cx}{st:Stmt}{rest:List Stmt}{t u:TS}(h1:PSw X st t)(h2:PBw X rest u):PBw X (st::rest) (tMid t u):=⟨q2G h1.h h2.h⟩
theorem qGQ{X:Cx}{e:Expr}{te:TE}{pos:Pos}(h:PEw X e te):PSw X (.Return (some e) pos) (tRet te):=⟨qP h.h⟩
theorem q53{X:Cx}{c:Expr}{a b:List Stmt}{tc:TT}{t u:TS}{pos:Pos}(hc:PT X c tc)(ha:PBw X a t)(hb:PBw X b u):PSw X (.If c a b pos) (tIfS tc t u):=⟨qV hc ha.h hb.h⟩
noncomputable def rSlS:V→Option Int→Option Int→Hp→VK→Prop:=λx lo hi H Q=>∃z,x=.str z∧z.length≤sizeLine∧Q (.str (Txt.slice z lo hi)) H
theorem qJ5{X:Cx}:SlR X rSlS:=by(
intro pins s σ H x v vl vu lo hi sl Q I rx hs pl pu h
obtain⟨z,rfl,hz,q⟩:=h
obtain⟨t,rfl⟩:=rx
have fin:∀l u:Option (Int×Tok),vl=partValue l→vu=partValue u→l.map (·.1)=lo→u.map (·.1)=hi→∃T id,typeLookup (.type T) "__getitem__"=pure (some (.builtin id))∧s.TypeIs (.str z t) T∧wpAny (model X.prog X.w) X.A (getItem (.str z t) (.ref sl)) (EP X pins σ Q) X.xe s:=by intro l u el eu e1 e2;subst el eu;refine⟨"str",_,F.slot_str_getitem.lookup,xS _ _ _,wpAny_getItem_str_slice (l:=l) (u:=u) (st:=none) hs rfl ?_⟩;have e:sliceMade z t l u none=sliceMade z t l u none:=rfl;refine post_val_or_str ⟨mJ (Txt.slice_le z _ _) hz,λt' k=>?_⟩;subst e1 e2;exact⟨.str _,H,I.tok _,⟨_,rfl⟩,q⟩
cases pl with
|none=>
 cases pu with
 |none=>exact fin none none rfl rfl rfl rfl
 |int j tj=>exact fin none (some (j,tj)) rfl rfl rfl rfl
|int i ti=>
 cases pu with
 |none=>exact fin (some (i,ti)) none rfl rfl rfl rfl
 |int j tj=>exact fin (some (i,ti)) (some (j,tj)) rfl rfl rfl rfl)
theorem uD{X:Cx}{o i value:Expr}{td ty tv:TE}{pos pos':Pos}(hu:X.A.units+1<cLine)(ho:PEw X o td)(hi:PEw X i ty)(hv:PEw X value tv)(hs:swapsWith value (some (.Subscript o i pos')) pos.line X.env=pure false):PSw X (.Assign [.Subscript o i pos'] value pos) (qH0 td ty tv):=⟨zJ hu ho.h hi.h hv.h hs⟩
theorem q3K{X:Cx}{a b:Expr}{ta tb:TE}{pos:Pos}{r:R2}(hr:IxR X r)(ha:PEw X a ta)(hb:PEw X b tb)(hs:qBT b):PEw X (.Subscript a b pos) (tOp r ta tb):=⟨yF hr ha.h hb.h hs⟩
theorem qFD{x:Str}(h:isNm (.str x)=true):1≤x.length∧x.length≤8:=by unfold isNm at h;simp at h;exact h.1
structure AskOk(H:Hp)(n:Nat)(nm:Nat→Str)(ct:Nat→Nat)(a:V)(b1 b2:Bool)(w:Str)(o v:V)(us:List V):Prop where
na:Nm5 a
wd:Wrd w
fo:w≠"give"→Fl o
fv:Fl v
og:w="give"→∃l,o=.ref l∧H l=some (.lst us)∧us.length≤100∧(∀v∈us,Fl v)∧(b1=false→∃ss:List Int,us=ss.map V.int∧∀i,i<n→a=.str (nm i)→∀s∈ss,0≤s∧s<((ct i:Nat):Int))∧(b1=true→∀i,i<n→a=.str (nm i)→∃v∈us,inB v 0 (((ct i:Nat):Int)-1)=false)
oo:w≠"give"→(b1=false→∃j:Int,o=.int j∧∀i,i<n→a=.str (nm i)→0≤j∧j<((ct i:Nat):Int))∧(b1=true→∀i,i<n→a=.str (nm i)→inB o 0 (((ct i:Nat):Int)-1)=false)
vv:(b2=true→w="write"∧inB v 0 (10 ^ 30-1)=false)∧(b2=false→∃c:Int,v=.int c∧0≤c∧c<10 ^ 30)
noncomputable def dR(a:V)(b1:Bool)(w:Str):List (Key×V):=[((Sum.inr "name":Key),a),((Sum.inr "bad sheet":Key),.bl b1),((Sum.inr "bad value":Key),.bl false),((Sum.inr "word":Key),.str w)]
theorem q89{P:V→Prop}{xs:List V}{k:Int}(h:∀v∈xs,P v)(h0:0≤k)(h1:k<(xs.length:Int)):∃v,atI xs k=some v∧P v:=by
 obtain⟨j,rfl⟩:=gY h0;have hj:j<xs.length:=by lia
 exact⟨xs[j],uZ (hZ hj),h _ (rS hj)⟩
noncomputable def isW:V→Bool
| .str w=>decide (w="write")||decide (w="read")||decide (w="give")||decide (w="empty")||decide (w="held")||decide (w="room")||decide (w="share")
|_=>false
theorem qBK{v:V}(h:isW v=true):∃w,v=.str w∧Wrd w:=by(
cases v with
|str w=>refine⟨w,rfl,?_⟩;unfold isW at h;simp only[g8,dP,or_assoc]at h;exact h
|_=>cases h)
noncomputable def spMd:Sp:=λvs H Q _=>∃y n nm ct sc hd,∃num:Int,vs=[.ref y.mi,.int num]∧Mn H y n nm ct sc hd n∧TabOk n nm ct sc∧1≤n∧(∀i,ct i≤60)∧0≤num∧num<2147483647∧∀ya a b1 b2 w o v us H',Same H H'→H ya=none→(∀l,o=.ref l→H l=none)→H' ya=some (.dK (dQ a b1 b2 w o v))→AskOk H' n nm ct a b1 b2 w o v us→Q (.ref ya) H'
theorem qAH(T:Txt K mg t)(S:Fns K t):S.aBK.Ok0 P w mg base 1 spMd:=by(
refine S.aBK.F.ok0 uW λcdv A _ s H vs Q E hr h=>?_
obtain⟨y,n,nm,ct,sc,hd,num,rfl,mn,ok,n1,c60,u0,u1,kk⟩:=h
have hu:=v5 hr
have sz:(100:Nat)<sizeLine:=by decide
refine qK7 ⟨_,(yY (q43 (i:=2) uW.nd rfl (Or.inl rfl) ⟨(qK hu (pv 0) qI (λ_ _=>rfl))⟩ rfl) (yY (q43 (i:=3) uW.nd rfl (Or.inl rfl) ⟨(qBW (zT qI (yF jN (pv 2) (qT yA (qT yH (pv 1) qJ) (qS jJ (by rfl) T.fW mR (qA (pv 2) qE))) (λ_ _=>rfl)) (zT qI (yC jR (qT yA (qT yH (pv 1) qJ) qJ) qJ (qO _)) (zT qI q2Q qBV))) rfl rfl (by simp) (by decide))⟩ rfl) (yY (uD hu (pvW 3) jF (q3K jN (zY (qY jF (qY jF (qY jF (qY jF (qY jF (qY jF (qY jF (qY jF q0Z))))))))) (yG yA (pvW 1) jW) (λ_ _=>rfl)) rfl) (q2E (q53 (qN jR (qT yA (qT yH (pv 1) qJ) qJ) qJ (qO _)) (yY (uD hu (pvW 3) jF (q3K jN (zY (qY jF (qY jF (qY jF (qY jF (qY jF (qY jF (qY jF q0Z)))))))) (yG yA (yG yH (pvW 1) jW) jW) (λ_ _=>rfl)) rfl) (vV (uD hu (pvW 3) jF (q3K jN (zY (qY (yG q32 (q3K jN (pvW 2) jW (λ_ _=>rfl)) jF) (qY jF (qY qCE (qY jW (qY jF (qY (yG q32 ⟨(q3Q qJ5 (yF jN (pv 2) qJ (λ_ _=>rfl)) q8C (q3P (qGU qAN qJ)))⟩ jF) (qY q8R q0Z)))))))) (yG yA (yG yH (pvW 1) jW) jW) (λ_ _=>rfl)) rfl))) ⟨qL⟩) (q2E (q53 (qN jR (qT yA (pv 1) qJ) qJ (qO _)) (vV (uD hu (pvW 3) jF (q3K jN (zY (qY jF (qY jF (qY jF q0Z)))) (yG yA (yG yH (pvW 1) jW) jW) (λ_ _=>rfl)) rfl)) ⟨qL⟩) (q2E (q43 (i:=4) uW.nd rfl (Or.inr rfl) ⟨(qDE hu (qK hu (pv 0) qI (λ_ _=>rfl)) (qK hu (pv 3) qI (λ_ _=>rfl)) qJ ⟨rfl,rfl,rfl,rfl⟩)⟩ rfl) (yY (q43 (i:=5) uW.nd rfl (Or.inl rfl) (q3K jN (zY (qY (qEV qAN jW) (qY (pvW 4) (qY q8R (qY qCE (qY jF (qY (yG yN (pvW 4) (pvW 1)) q0Z))))))) (yG yA (yG yH (pvW 1) jW) jW) (λ_ _=>rfl)) rfl) (yY (uD hu (pvW 3) jF (yG yA (yG yH (pvW 1) jW) (pvW 4)) rfl) (yY (uD hu (pvW 3) jF (yG yA (yG vC (yG vC (pvW 1) jW) jW) (yG qAM jW jW)) rfl) (q2E (q53 (qN jR (qK hu (pv 3) qI (λ_ _=>rfl)) qI (qO _)) (yY (uD hu (pvW 3) jF ⟨(yW ["_law_number","_law_wide","_law_k"] [1,4] rfl (vB rfl T.oO (qA (qT yA (qT yH (pv 1) qJ) qJ) qE)) (λ_ _ _ _ _=>(qZ (i:=2) (show List.Nodup (["_law_number","_law_wide","_law_k"]:List Str)from by decide) rfl (Or.inl rfl))) (λ_ _ _ _ _=>v6) (λ_ _ _ _ _=>(qT yA (qT yH (pv 0) (qT yN (qT vC qJ (pv 2)) qJ)) (pv 1))) (by kernel_rfl) (jY (by decide)))⟩ rfl) (vV (q53 (jI (qK hu (pv 3) qI (λ_ _=>rfl))) (yY (q43 (i:=6) uW.nd rfl (Or.inl rfl) (yG yA (yG yH (pvW 1) jW) (yG yN ⟨(qS jJ (by rfl) T.fW mR (qA (qK hu (pv 3) qI (λ_ _=>rfl)) qE))⟩ jW)) rfl) (vV (uD hu (pvW 3) jF (yG qBX (yG qBX ⟨(q3Q q8E (qK hu (pv 3) qI (λ_ _=>rfl)) q8C (q3P (pv 6)))⟩ (zY (qY (pvW 5) q0Z))) ⟨(q3Q q8E (qK hu (pv 3) qI (λ_ _=>rfl)) (q3P (pv 6)) q8C)⟩) rfl))) ⟨qL⟩))) (vV (q53 (jI (qK hu (pv 3) qI (λ_ _=>rfl))) (vV (uD hu (pvW 3) jF (pvW 5) rfl)) ⟨qL⟩))) (q2E (q53 (PW.pt (zO (qN q7L (qT yA (qT yH (pv 1) qJ) qJ) qJ (qO _)) (zO (qN jR (qK hu (pv 3) qI (λ_ _=>rfl)) qI (qO _)) (zH (qN jR (qT yA (qT yH (pv 1) qJ) qJ) qJ (qO _)))))) (yY (uD hu (pvW 3) jF (q3K jN (zY (qY (qEV qAN jW) (qY (yG qAM jW jW) (qY q8R (qY jF q0Z))))) (yG yA (yG yH (pvW 1) jW) jW) (λ_ _=>rfl)) rfl) (vV (uD hu (pvW 3) jF q8R rfl))) ⟨qL⟩) (vV (qGQ (pvW 3)))))))))))))),?_⟩
try dsimp-beta-proj-iota-zeta-eta only[wishK,cxK]
have go:DGet H y.mi (.str "order") (some (.ref y.oa)):=DGet.k (k:=Sum.inr "order") mn.m
have lo:((List.range n).map λi=>V.str (nm i)).length=n:=by simp
have at':∀(G:Hp) (i:Nat),i<n→atI ((List.range n).map λi=>V.str (nm i)) (i:Int)=some (.str (nm i)):=λ_ i hi=>uZ (by rw[kX,dH hi];rfl)
have np:(0:Int)<(((List.range n).map λi=>V.str (nm i)).length:Int):=by lia
have hb:=m6 (num / 16) np
have ha:=gG (num / 16) (show(((List.range n).map λi=>V.str (nm i)).length:Int)≠0 by lia)
obtain⟨i,ei⟩:=gY ha
have hi:i<n:=by lia
refine⟨_,rfl,y.mi,_,rfl,go,?_⟩
intro ya nya
have s2:Same H (upd H ya (.dK [])):=Same.upd nya
have e2:(upd H ya (.dK [])) ya=some (.dK []):=qF
generalize upd H ya (.dK [])=H2 at s2 e2 ⊢
refine⟨_,rfl,_,rfl,iI ⟨⟨by show(0:Int)<16;decide,by decide⟩,_,rfl,y.oa,_,rfl,.inl (SqL.of (s2 _ _ mn.o)),iI ⟨np,iL (k:=_) (v:=.str (nm i)) (SqL.of (s2 _ _ mn.o)) (by rw[ei];exact at' H i hi) ?_⟩⟩⟩
refine⟨_,rfl,iI ⟨⟨by show(0:Int)<64;decide,by decide⟩,iI ⟨(by show(0:Int)<5;decide),rfl,?_⟩⟩⟩
generalize decide (V.int (num / 64%5)=V.int 0)=b1
refine⟨e2,[((Sum.inr "name":Key),.str (nm i)),((Sum.inr "bad sheet":Key),.bl b1),((Sum.inr "bad value":Key),.bl false)],rfl,(by show 3≤15;decide),?_⟩
have pu:∀{Ha:Hp} {kvs:List (Key×V)},Same H Ha→Same H (upd Ha ya (.dK kvs)):=λs b o e=>by rw[qD (qG e nya)];exact s _ _ e
have e4:(upd H2 ya (.dK (q0T [] [((Sum.inr "name":Key),.str (nm i)),((Sum.inr "bad sheet":Key),.bl b1),((Sum.inr "bad value":Key),.bl false)]))) ya=some (.dK [((Sum.inr "name":Key),V.str (nm i)),((Sum.inr "bad sheet":Key),.bl b1),((Sum.inr "bad value":Key),.bl false)]):=qF
have s4:Same H (upd H2 ya (.dK (q0T [] [((Sum.inr "name":Key),.str (nm i)),((Sum.inr "bad sheet":Key),.bl b1),((Sum.inr "bad value":Key),.bl false)]))):=pu s2
generalize upd H2 ya (.dK (q0T [] [((Sum.inr "name":Key),.str (nm i)),((Sum.inr "bad sheet":Key),.bl b1),((Sum.inr "bad value":Key),.bl false)]))=H4 at e4 s4 ⊢
refine⟨by show 8≤sizeLine;decide,λlw H5 nlw s5 h5=>?_⟩
have m80:=gG num (show(8:Int)≠0 by decide)
have m81:=m6 num (show(0:Int)<8 by decide)
obtain⟨v1,hw1,iw1⟩:=q89 (P:=λv=>isW v=true) (xs:=[.str "write",.str "write",.str "write",.str "write",.str "give",.str "read",.str "empty",.str "held"]) (k:=num%8) (by decide) m80 m81
obtain⟨w1,rfl,ww1⟩:=qBK iw1
refine⟨_,rfl,iI ⟨(by show(0:Int)<8;decide),iL (k:=_) (v:=.str w1) (SqL.of h5) hw1 ⟨_,rfl,ya,_,rfl,DPut.k (k:=Sum.inr "word") (s5 _ _ e4) (by show 3<sizeLine;decide),?_⟩⟩⟩
have e6:(upd H5 ya (.dK (putK [((Sum.inr "name":Key),V.str (nm i)),((Sum.inr "bad sheet":Key),.bl b1),((Sum.inr "bad value":Key),.bl false)] (Sum.inr "word":Key) (.str w1)))) ya=some (.dK (dR (.str (nm i)) b1 w1)):=qF
have s6:Same H (upd H5 ya (.dK (putK [((Sum.inr "name":Key),V.str (nm i)),((Sum.inr "bad sheet":Key),.bl b1),((Sum.inr "bad value":Key),.bl false)] (Sum.inr "word":Key) (.str w1)))):=pu (s4.trans s5)
generalize upd H5 ya (.dK (putK [((Sum.inr "name":Key),V.str (nm i)),((Sum.inr "bad sheet":Key),.bl b1),((Sum.inr "bad value":Key),.bl false)] (Sum.inr "word":Key) (.str w1)))=H6 at e6 s6 ⊢
have l100:∀k,k<n→(nm k).length≤8:=λk hk=>(qFD (ok.nm k hk)).2
refine⟨λσ' H'=>σ'=[some (.ref y.mi),some (.int num),some (.ref y.oa),some (.ref ya),none,none,none]∧Same H H'∧∃a w,H' ya=some (.dK (dR a b1 w))∧Nm5 a∧Wrd w,?_,?_⟩
·refine⟨_,rfl,iI ⟨⟨by show(0:Int)<8;decide,by decide⟩,iI ⟨(by show(0:Int)<8;decide),rfl,_,rfl,?_⟩⟩⟩;generalize decide (V.int (num / 8%8)=V.int 0)=c;cases c with
 |false=>exact iteF ⟨rfl,s6,_,_,e6,.str _ (by have:=l100 i hi;lia),ww1⟩
 |true=>refine iteT ⟨by show 7≤sizeLine;decide,λlw H7 nlw s7 h7=>?_⟩;obtain⟨v2,hw2,iw2⟩:=q89 (P:=λv=>isW v=true) (xs:=[.str "write",.str "read",.str "give",.str "empty",.str "held",.str "room",.str "share"]) (k:=num / 64%7) (by decide) (gG _ (by decide)) (m6 _ (by decide));obtain⟨w2,rfl,ww2⟩:=qBK iw2;refine⟨_,rfl,iI ⟨⟨by show(0:Int)<64;decide,by decide⟩,iI ⟨(by show(0:Int)<7;decide),iL (k:=_) (v:=.str w2) (SqL.of h7) hw2 ⟨_,rfl,ya,_,rfl,DPut.k (k:=Sum.inr "word") (s7 _ _ e6) (by show 4<sizeLine;decide),?_⟩⟩⟩⟩;have e8:(upd H7 ya (.dK (putK (dR (.str (nm i)) b1 w1) (Sum.inr "word":Key) (.str w2)))) ya=some (.dK (dR (.str (nm i)) b1 w2)):=qF;have s8:Same H (upd H7 ya (.dK (putK (dR (.str (nm i)) b1 w1) (Sum.inr "word":Key) (.str w2)))):=pu (s6.trans s7);generalize upd H7 ya (.dK (putK (dR (.str (nm i)) b1 w1) (Sum.inr "word":Key) (.str w2)))=H8 at e8 s8 ⊢;have a0:=at' H 0 (by lia);have l0:=l100 0 (by lia);have tl8:(Txt.slice (nm 0) none (some (-1))).length≤8:=mJ (Txt.slice_le _ _ _) l0;refine⟨_,rfl,iL (k:=_) (v:=.str (nm 0)) (SqL.of (s8 _ _ mn.o)) a0 ⟨nm 0,Str.ofString "a",rfl,rfl,(by show(nm 0).length+1≤sizeLine;lia),_,rfl,iL (k:=_) (v:=.str (nm 0)) (SqL.of (s8 _ _ mn.o)) a0 ?_⟩⟩;refine⟨_,rfl,_,rfl,nm 0,rfl,(by lia),_,Str.ofString "A",rfl,rfl,(by show(Txt.slice (nm 0) none (some (-1))).length+1≤sizeLine;lia),(by show 7≤sizeLine;decide),λln H9 nln s9 h9=>?_⟩;obtain⟨v3,hw3,nw3⟩:=q89 (P:=Nm5) (xs:=[.str (nm 0++Str.ofString "a"),.str "",.non,.int 5,.str "zzzzzzzzz",.str (Txt.slice (nm 0) none (some (-1))++Str.ofString "A"),.bl true]) (k:=num / 512%7) (mI.mpr ⟨.str _ (by rw[pU];show(nm 0).length+1≤100;lia),mI.mpr ⟨.str _ (by decide),mI.mpr ⟨.non,mI.mpr ⟨.int 5,mI.mpr ⟨.str "zzzzzzzzz" (by decide),mI.mpr ⟨.str _ (by rw[pU];show(Txt.slice (nm 0) none (some (-1))).length+1≤100;lia),mI.mpr ⟨.tru,λ_ h=>by cases h⟩⟩⟩⟩⟩⟩⟩) (gG _ (by decide)) (m6 _ (by show(0:Int)<7;decide));refine⟨_,rfl,iI ⟨⟨by show(0:Int)<512;decide,by decide⟩,iI ⟨(by show(0:Int)<7;decide),iL (k:=_) (v:=v3) (SqL.of h9) hw3 ⟨_,rfl,ya,_,rfl,DPut.k (k:=Sum.inr "name") (s9 _ _ e8) (by show 4<sizeLine;decide),?_⟩⟩⟩⟩;exact⟨rfl,pu (s8.trans s9),v3,w2,qF,nw3,ww2⟩
rintro σ' H8 ⟨rfl,s8,a,w2,e8,na,ww2⟩
clear e6 s6 h5 nlw hw1 iw1 s5 e4 s4 e2 s2 ww1
refine⟨λσ' H'=>σ'=[some (.ref y.mi),some (.int num),some (.ref y.oa),some (.ref ya),none,none,none]∧Same H H'∧∃w,H' ya=some (.dK (dR a b1 w))∧Wrd w,?_,?_⟩
·refine⟨_,rfl,iI ⟨(by show(0:Int)<8;decide),rfl,_,rfl,?_⟩⟩;generalize decide (V.int (num%8)=V.int 7)=c;cases c with
 |false=>exact iteF ⟨rfl,s8,_,e8,ww2⟩
 |true=>refine iteT ⟨sz3,λlw H9 nlw s9 h9=>?_⟩;obtain⟨v3,hw3,iw3⟩:=q89 (P:=λv=>isW v=true) (xs:=[.str "held",.str "room",.str "share"]) (k:=num / 64%3) (by decide) (gG _ (by decide)) (m6 _ (by decide));obtain⟨w3,rfl,ww3⟩:=qBK iw3;refine⟨_,rfl,iI ⟨⟨by show(0:Int)<64;decide,by decide⟩,iI ⟨(by show(0:Int)<3;decide),iL (k:=_) (v:=.str w3) (SqL.of h9) hw3 ⟨_,rfl,ya,_,rfl,DPut.k (k:=Sum.inr "word") (s9 _ _ e8) (by show 4<sizeLine;decide),?_⟩⟩⟩⟩;exact⟨rfl,pu (s8.trans s9),w3,qF,ww3⟩
clear e8 s8 ww2
rintro σ' H9 ⟨rfl,s9,w,e9,ww⟩
have mi9:=s9 _ _ mn.m
have gs:DGet H9 y.mi (.str "sheets") (some (.ref y.ta)):=DGet.k (k:=Sum.inr "sheets") mi9
have gn:DGet H9 ya (.str "name") (some a):=DGet.k (k:=Sum.inr "name") e9
refine⟨λσ' H'=>∃wd:Int,σ'=[some (.ref y.mi),some (.int num),some (.ref y.oa),some (.ref ya),some (.int wd),none,none]∧H'=H9∧1≤wd∧∀i,i<n→a=.str (nm i)→wd=((ct i:Nat):Int),?_,?_⟩
·refine⟨_,rfl,y.mi,_,rfl,gs,y.ta,rfl,.inl ⟨_,.inl (s9 _ _ mn.c)⟩,_,rfl,ya,_,rfl,gn,?_⟩;rcases na.ask ok.u (s9 _ _ mn.c)with⟨k,hk,rfl,g⟩|⟨no,g|g⟩
 ·refine .inl ⟨_,g,_,rfl,rfl,?_,λk' hk' ek=>?_⟩
  ·have:=ok.c1 k hk;lia
  rw[ok.u k k' hk hk' (V.str.inj ek)]
 ·exact .inl ⟨_,g,_,rfl,rfl,by decide,λk' hk' ek=>absurd ⟨k',hk',ek⟩ no⟩
 exact .inr ⟨_,s9 _ _ mn.c,g,_,rfl,rfl,by decide,λk' hk' ek=>absurd ⟨k',hk',ek⟩ no⟩
rintro σ' H' ⟨wd,rfl,e',wd1,wdi⟩
rw[e']
clear e' H'
refine⟨_,rfl,_,rfl,_,rfl,_,rfl,iI ⟨(by show 6≤sizeLine;decide),λlb H10 nlb s10 h10=>?_⟩⟩
obtain⟨bd,hbd,fbd,ibd⟩:=q89 (P:=λv=>Fl v∧inB v 0 (wd-1)=false) (xs:=[.int (-1),.int wd,.bl true,.non,.str "0",.int (wd+num)]) (k:=num / 1024%6) (mI.mpr ⟨⟨.int _,rfl⟩,mI.mpr ⟨⟨.int _,by show(decide (0≤wd)&&decide (wd≤wd-1))=false;rw[hG (show ¬wd≤wd-1 by lia),x8]⟩,mI.mpr ⟨⟨.bl _,rfl⟩,mI.mpr ⟨⟨.non,rfl⟩,mI.mpr ⟨⟨.str _ (by decide),rfl⟩,mI.mpr ⟨⟨.int _,by show(decide (0≤wd+num)&&decide (wd+num≤wd-1))=false;rw[hG (show ¬wd+num≤wd-1 by lia),x8]⟩,λ_ h=>by cases h⟩⟩⟩⟩⟩⟩) (gG _ (by decide)) (m6 _ (by show(0:Int)<6;decide))
refine⟨_,rfl,iI ⟨⟨by show(0:Int)<1024;decide,by decide⟩,iI ⟨(by show(0:Int)<6;decide),iL (k:=_) (v:=bd) (SqL.of h10) hbd ?_⟩⟩⟩
have wp:(0:Int)<wd:=by lia
refine⟨_,rfl,iI ⟨⟨by show(0:Int)<128;decide,by decide⟩,_,rfl,iI ⟨wp,_,rfl,ya,_,rfl,DPut.k (k:=Sum.inr "one") (s10 _ _ e9) (by show 4<sizeLine;decide),?_⟩⟩⟩
have o0:=gG (num / 128) (show wd≠0 by lia)
have o1:=m6 (num / 128) wp
dsimp only
generalize num / 128%wd=on at o0 o1 ⊢
have e11:(upd H10 ya (.dK (putK (dR a b1 w) (Sum.inr "one":Key) (.int on)))) ya=some (.dK (dR a b1 w++[((Sum.inr "one":Key),V.int on)])):=qF
have s11:Same H (upd H10 ya (.dK (putK (dR a b1 w) (Sum.inr "one":Key) (.int on)))):=pu (s9.trans s10)
generalize upd H10 ya (.dK (putK (dR a b1 w) (Sum.inr "one":Key) (.int on)))=H11 at e11 s11 ⊢
refine⟨_,rfl,iI ⟨.inr ⟨by decide,by decide⟩,iI ⟨.inr ⟨by decide,by decide⟩,iI ⟨⟨by decide,by decide,by decide⟩,iI ⟨(by show(0:Int)<10 ^ Int.toNat 30;decide),_,rfl,ya,_,rfl,DPut.k (k:=Sum.inr "other") e11 (by show 5<sizeLine;decide),?_⟩⟩⟩⟩⟩
have v0:=gG (num*982451653*982451653) (show(10:Int) ^ Int.toNat 30≠0 by decide)
have v1:=m6 (num*982451653*982451653) (show(0:Int)<10 ^ Int.toNat 30 by decide)
dsimp only
generalize num*982451653*982451653%10 ^ Int.toNat 30=v at v0 v1 ⊢
have v1:v<10 ^ 30:=v1
have e12:(upd H11 ya (.dK (putK (dR a b1 w++[((Sum.inr "one":Key),V.int on)]) (Sum.inr "other":Key) (.int v)))) ya=some (.dK (dQ a b1 false w (.int on) (.int v))):=qF
have s12:Same H (upd H11 ya (.dK (putK (dR a b1 w++[((Sum.inr "one":Key),V.int on)]) (Sum.inr "other":Key) (.int v)))):=pu s11
generalize upd H11 ya (.dK (putK (dR a b1 w++[((Sum.inr "one":Key),V.int on)]) (Sum.inr "other":Key) (.int v)))=H12 at e12 s12 ⊢
clear e11 s11 h10 nlb hbd s10 e9 s9 mi9 gs gn
have vv:((false:Bool)=true→w="write"∧inB (.int v) 0 (10 ^ 30-1)=false)∧((false:Bool)=false→∃c:Int,V.int v=.int c∧0≤c∧c<10 ^ 30):=⟨λe=>(by cases e),λ_=>⟨v,rfl,v0,v1⟩⟩
refine⟨λσ' H'=>(∃y5 y6,σ'=[some (.ref y.mi),some (.int num),some (.ref y.oa),some (.ref ya),some (.int wd),y5,y6])∧Same H H'∧∃o us,(∀l,o=.ref l→H l=none)∧H' ya=some (.dK (dQ a b1 false w o (.int v)))∧AskOk H' n nm ct a b1 false w o (.int v) us,?_,?_⟩
·have gw:DGet H12 ya (.str "word") (some (.str w)):=DGet.k (k:=Sum.inr "word") e12;have g1:DGet H12 ya (.str "bad sheet") (some (.bl b1)):=DGet.k (k:=Sum.inr "bad sheet") e12;refine⟨_,rfl,ya,_,rfl,gw,rfl,_,rfl,?_⟩;by_cases c:w="give"
 ·subst c;rw[hI rfl];have m0:=gG (num / 256) (show(4:Int)≠0 by decide);have m1:=m6 (num / 256) (show(0:Int)<4 by decide);obtain⟨mm,em⟩:=gY m0;refine iteT ⟨_,rfl,iI ⟨⟨by show(0:Int)<256;decide,by decide⟩,iI ⟨(by show(0:Int)<4;decide),?_⟩⟩⟩;dsimp only;rw[em];refine⟨_,rfl,by lia,by lia,λD H13 nD s13 hD=>?_⟩;rw[mY];have nD0:H D=none:=by
   cases q:H D with
   |none=>rfl
   |some o=>rw[s12 _ _ q]at nD;cases nD
  have nDy:ya≠D:=λz=>by rw[←z,e12]at nD;cases nD
  refine q81 (D:=D) (λk H3=>Same H12 H3∧∃ss:List Int,H3 D=some (.lst (ss.map V.int))∧ss.length=k∧∀s∈ss,0≤s∧s<wd) ⟨s13,[],hD,rfl,λ_ h=>by cases h⟩ (λk H3 hk hp=>?_) (λH3 hp=>?_)
  ·obtain⟨sm,ss,hd',ls,hs⟩:=hp;refine⟨_,rfl,_,rfl,iI ⟨.inl ⟨by decide,by decide⟩,iI (iI ⟨⟨by lia,by lia⟩,_,rfl,iI ⟨wp,_,hd',by rw[hU];lia,λb o e=>?_,ss++[num / (64*(0+(k:Int))+64)%wd],?_,by rw[mL,ls];rfl,λs hs'=>?_⟩⟩)⟩⟩
   ·rw[qD (qG e nD)];exact sm _ _ e
   ·rw[qF,mB];rfl
   rcases mP.mp hs' with h|h
   ·exact hs s h
   rw[kJ.mp h];exact⟨gG _ (by lia),m6 _ wp⟩
  obtain⟨sm,ss,hd',ls,hs⟩:=hp;have s3:=s12.trans sm;refine⟨_,rfl,ya,_,rfl,DPut.k (k:=Sum.inr "one") (sm _ _ e12) (by show 6<sizeLine;decide),?_⟩;have e14:(upd H3 ya (.dK (putK (dQ a b1 false "give" (.int on) (.int v)) (Sum.inr "one":Key) (.ref D)))) ya=some (.dK (dQ a b1 false "give" (.ref D) (.int v))):=qF;have s14:Same H (upd H3 ya (.dK (putK (dQ a b1 false "give" (.int on) (.int v)) (Sum.inr "one":Key) (.ref D)))):=pu s3;have d14:(upd H3 ya (.dK (putK (dQ a b1 false "give" (.int on) (.int v)) (Sum.inr "one":Key) (.ref D)))) D=some (.lst (ss.map V.int)):=by rw[qD nDy.symm];exact hd'
  generalize upd H3 ya (.dK (putK (dQ a b1 false "give" (.int on) (.int v)) (Sum.inr "one":Key) (.ref D)))=H14 at e14 s14 d14 ⊢;clear hd' s3 sm hD s13 nD gw g1 e12 s12;have g1:DGet H14 ya (.str "bad sheet") (some (.bl b1)):=DGet.k (k:=Sum.inr "bad sheet") e14;have go':DGet H14 ya (.str "one") (some (.ref D)):=DGet.k (k:=Sum.inr "one") e14;refine⟨_,rfl,ya,_,rfl,g1,_,rfl,?_⟩;have fss:∀v∈ss.map V.int,Fl v:=λv hv=>by obtain⟨s,_,rfl⟩:=kP.mp hv;exact .int _
  cases b1 with
  |false=>exact iteF ⟨⟨_,_,rfl⟩,s14,_,_,(λl e=>by cases e;exact nD0),e14,na,ww,λe=>absurd rfl e,.int _,λ_=>⟨D,rfl,d14,by rw[hU];lia,fss,λ_=>⟨ss,rfl,λi hi ea s hs'=>by rw[←wdi i hi ea];exact hs s hs'⟩,λe=>(by cases e)⟩,λe=>absurd rfl e,vv⟩
  |true=>
   refine iteT ⟨_,rfl,iI ⟨⟨by show(0:Int)<2048;decide,by decide⟩,_,rfl,ya,_,rfl,go',D,_,rfl,.inl (SqL.of d14),iI (iI ⟨(by show(0:Int)<((ss.map V.int).length:Int)+1;lia),?_⟩)⟩⟩;dsimp only;generalize num / 2048%(((ss.map V.int).length:Int)+1)=ka;refine⟨_,rfl,ya,_,rfl,go',_,rfl,ka,rfl,D,_,rfl,SqL.of d14,λc1 nc1=>?_⟩;have u1:Same H14 (upd H14 c1 (.lst (cutV (ss.map V.int) none (some ka)))):=Same.upd nc1;have v1':(upd H14 c1 (.lst (cutV (ss.map V.int) none (some ka)))) c1=some (.lst (cutV (ss.map V.int) none (some ka))):=qF;generalize upd H14 c1 (.lst (cutV (ss.map V.int) none (some ka)))=H15 at u1 v1' ⊢;have l1:=q1H (ss.map V.int) none (some ka);have l2:=q1H (ss.map V.int) (some ka) none;rw[hU]at l1 l2;refine⟨_,rfl,sz1,λc2 H16 _ u2 v2'=>?_⟩;refine⟨c1,c2,_,_,rfl,rfl,u2 _ _ v1',v2',(by show _ +1≤_;lia),λc3 H17 _ u3 v3'=>?_⟩;have u17:=(u1.trans u2).trans u3;have go17:DGet H17 ya (.str "one") (some (.ref D)):=DGet.k (k:=Sum.inr "one") (u17 _ _ e14);refine⟨_,rfl,ya,_,rfl,go17,_,rfl,ka,rfl,D,_,rfl,SqL.of (u17 _ _ d14),λc4 nc4=>?_⟩;have u4:Same H17 (upd H17 c4 (.lst (cutV (ss.map V.int) (some ka) none))):=Same.upd nc4;have v4':(upd H17 c4 (.lst (cutV (ss.map V.int) (some ka) none))) c4=some (.lst (cutV (ss.map V.int) (some ka) none)):=qF;generalize upd H17 c4 (.lst (cutV (ss.map V.int) (some ka) none))=H18 at u4 v4' ⊢;refine⟨c3,c4,_,_,rfl,rfl,u4 _ _ v3',v4',(by rw[mL];show _ +1+ _≤_;lia),λc5 H19 n5 u5 v5'=>?_⟩;have u19:=(u17.trans u4).trans u5;refine⟨_,rfl,ya,_,rfl,DPut.k (k:=Sum.inr "one") (u19 _ _ e14) (by show 6<sizeLine;decide),?_⟩;have mem:∀v,v∈cutV (ss.map V.int) none (some ka)∨v∈cutV (ss.map V.int) (some ka) none→v∈ss.map V.int:=λv h=>by
    rcases h with h|h
    ·exact cO (cP h)
    exact cO (cP h)
   have n5y:c5≠ya:=λz=>by rw[z,(u17.trans u4) _ _ e14]at n5;cases n5
   have n50:H c5=none:=by
    cases q:H c5 with
    |none=>rfl
    |some o=>rw[(s14.trans (u17.trans u4)) _ _ q]at n5;cases n5
   refine⟨⟨_,_,rfl⟩,pu (s14.trans u19),.ref c5,cutV (ss.map V.int) none (some ka)++[bd]++cutV (ss.map V.int) (some ka) none,(λl e=>by cases e;exact n50),qF,na,ww,λe=>absurd rfl e,.int _,λ_=>⟨c5,rfl,(by rw[qD n5y];exact v5'),(by rw[mL,mL];show _ +1+ _≤_;lia),λv hv=>?_,λe=>(by cases e),λ_ i hi ea=>⟨bd,kU _ (kM _ (kJ.mpr rfl)),(by rw[←wdi i hi ea];exact ibd)⟩⟩,λe=>absurd rfl e,vv⟩;rcases mP.mp hv with hv|hv
   ·rcases mP.mp hv with hv|hv
    ·exact fss v (mem v (.inl hv))
    rw[kJ.mp hv];exact fbd
   exact fss v (mem v (.inr hv))
 rw[hG (by intro z;injection z with z;exact c z)];refine iteF ⟨_,rfl,ya,_,rfl,g1,_,rfl,?_⟩;cases b1 with
 |false=>exact iteF ⟨⟨_,_,rfl⟩,s12,_,[],(λl e=>by cases e),e12,na,ww,λ_=>.int _,.int _,λe=>absurd e c,λ_=>⟨λ_=>⟨on,rfl,λi hi ea=>⟨o0,by rw[←wdi i hi ea];exact o1⟩⟩,λe=>by cases e⟩,vv⟩
 |true=>refine iteT ⟨_,rfl,_,rfl,ya,_,rfl,DPut.k (k:=Sum.inr "one") e12 (by show 6<sizeLine;decide),?_⟩;exact⟨⟨_,_,rfl⟩,pu s12,bd,[],(λl e=>by rw[e]at fbd;cases fbd),qF,na,ww,λ_=>fbd,.int _,λe=>absurd e c,λ_=>⟨λe=>(by cases e),λ_ i hi ea=>(by rw[←wdi i hi ea];exact ibd)⟩,vv⟩
rintro σ' H13 ⟨⟨y5,y6,rfl⟩,s13,o,us,nO,e13,ak⟩
clear e12 s12
refine⟨λσ' H'=>(∃y5 y6,σ'=[some (.ref y.mi),some (.int num),some (.ref y.oa),some (.ref ya),some (.int wd),y5,y6])∧Same H H'∧∃b2 v us,H' ya=some (.dK (dQ a b1 b2 w o v))∧AskOk H' n nm ct a b1 b2 w o v us,?_,?_⟩
·have gw:DGet H13 ya (.str "word") (some (.str w)):=DGet.k (k:=Sum.inr "word") e13;refine⟨_,rfl,iI ⟨⟨by show(0:Int)<64;decide,by decide⟩,iI ⟨(by show(0:Int)<5;decide),iI ⟨_,rfl,?_⟩⟩⟩⟩;generalize decide (num / 64%5<2)=c1;cases c1 with
 |false=>exact iteF (iteF ⟨⟨_,_,rfl⟩,s13,_,_,_,e13,ak⟩)
 |true=>
  refine iteT ⟨_,rfl,ya,_,rfl,gw,rfl,_,rfl,?_⟩;by_cases c:w="write"
  ·subst c;rw[hI rfl];refine iteT ⟨_,rfl,iI ⟨⟨by show(0:Int)<4096;decide,by decide⟩,iI ⟨(by show(0:Int)<2;decide),rfl,_,rfl,?_⟩⟩⟩;generalize decide (V.int (num / 4096%2)=V.int 0)=c3;cases c3 with
   |false=>exact iteF ⟨⟨_,_,rfl⟩,s13,_,_,_,e13,ak⟩
   |true=>refine iteT ⟨_,rfl,iI ⟨⟨by decide,by decide,by decide⟩,sz4,λlv H14 nlv s14 h14=>?_⟩⟩;obtain⟨bv,hbv,fbv,ibv⟩:=q89 (P:=λv=>Fl v∧inB v 0 (10 ^ 30-1)=false) (xs:=[.int (-1),.int (10 ^ Int.toNat 30),.bl false,.str "1"]) (k:=num / 8192%4) (mI.mpr ⟨⟨.int _,rfl⟩,mI.mpr ⟨⟨.int _,by decide⟩,mI.mpr ⟨⟨.bl _,rfl⟩,mI.mpr ⟨⟨.str _ (by decide),rfl⟩,λ_ h=>by cases h⟩⟩⟩⟩) (gG _ (by decide)) (m6 _ (by show(0:Int)<4;decide));refine⟨_,rfl,iI ⟨⟨by show(0:Int)<8192;decide,by decide⟩,iI ⟨(by show(0:Int)<4;decide),iL (k:=_) (v:=bv) (SqL.of h14) hbv ⟨_,rfl,ya,_,rfl,DPut.k (k:=Sum.inr "other") (s14 _ _ e13) (by show 6<sizeLine;decide),?_⟩⟩⟩⟩;have e15:(upd H14 ya (.dK (putK (dQ a b1 false "write" o (.int v)) (Sum.inr "other":Key) bv))) ya=some (.dK (dQ a b1 false "write" o bv)):=qF;have s15:Same H (upd H14 ya (.dK (putK (dQ a b1 false "write" o (.int v)) (Sum.inr "other":Key) bv))):=pu (s13.trans s14);generalize upd H14 ya (.dK (putK (dQ a b1 false "write" o (.int v)) (Sum.inr "other":Key) bv))=H15 at e15 s15 ⊢;refine⟨_,rfl,ya,_,rfl,DPut.k (k:=Sum.inr "bad value") e15 (by show 6<sizeLine;decide),?_⟩;exact⟨⟨_,_,rfl⟩,pu s15,true,bv,us,qF,ak.na,ak.wd,ak.fo,fbv,λe=>absurd e (by decide),ak.oo,λ_=>⟨rfl,ibv⟩,λe=>(by cases e)⟩
  rw[hG (by intro z;injection z with z;exact c z)];exact iteF (iteF ⟨⟨_,_,rfl⟩,s13,_,_,_,e13,ak⟩)
rintro σ' H14 ⟨⟨y5,y6,rfl⟩,s14,b2,v',us',e14,ak'⟩
exact⟨_,rfl,kk ya a b1 b2 w o v' us' H14 s14 nya nO e14 ak'⟩)
section
variable{dk b1 b2:Bool}{K:Mp}{o:V}{us:List V}{c:Nat}
theorem qFE{w:Str}(h:w="write"∨w="read"∨w="give"):dueW dk true b2 w K o us c="no sheet":=by unfold dueW;rw[kG ⟨rfl,h⟩]
theorem qJ6:dueW dk false b2 "write" K o us c=if b2=true then("no value":Str)else if toI o∉K.map (·.1)∧c≤K.length then("full":Str)else if dk=true then("dark":Str)else("done":Str):=by(
unfold dueW
rw[kE (λh=>by cases h.1)]
by_cases b:b2=true
·rw[kG ⟨rfl,b⟩,kG b]
rw[kE (λh=>b h.2),kE b]
by_cases c:toI o∉K.map (·.1)∧c≤K.length
·rw[kG ⟨rfl,c⟩,kG c]
rw[kE (λh=>c h.2),kE c,kG (.inl rfl)])
theorem qJ7:dueW dk false b2 "read" K o us c=if toI o∈K.map (·.1)then(if dk=true then("dark":Str)else("done":Str))else("done":Str):=by(
unfold dueW
rw[kE (λh=>by cases h.1),kE (λh=>absurd h.1 (by decide)),kE (λh=>absurd h.1 (by decide))]
by_cases z:toI o∈K.map (·.1)
·rw[kG (.inr ⟨rfl,z⟩),kG z]
rw[kE (λh=>h.elim (λh=>absurd h (by decide)) λh=>z h.2),kE z,kE (λh=>absurd h.1 (by decide)),kE (λh=>absurd h.1 (by decide))])
theorem qJ8:dueW dk false b2 "give" K o us c=if gvS K us≠[]then(if dk=true then("dark":Str)else("done":Str))else("done":Str):=by(
unfold dueW
rw[kE (λh=>by cases h.1),kE (λh=>absurd h.1 (by decide)),kE (λh=>absurd h.1 (by decide)),kE (λh=>h.elim (λh=>absurd h (by decide)) λh=>absurd h.1 (by decide))]
by_cases z:gvS K us≠[]
·rw[kG ⟨rfl,z⟩,kG z]
rw[kE (λh=>z h.2),kE z,kE (λh=>absurd h.1 (by decide))])
theorem qJ9:dueW dk b1 b2 "empty" K o us c=if K.length≠0 then(if dk=true then("dark":Str)else("done":Str))else("done":Str):=by(
unfold dueW
rw[kE (λh=>h.2.elim (λh=>absurd h (by decide)) λh=>h.elim (λh=>absurd h (by decide)) λh=>absurd h (by decide)),kE (λh=>absurd h.1 (by decide)),kE (λh=>absurd h.1 (by decide)),kE (λh=>h.elim (λh=>absurd h (by decide)) λh=>absurd h.1 (by decide)),kE (λh=>absurd h.1 (by decide))]
by_cases z:K.length≠0
·rw[kG ⟨rfl,z⟩,kG z]
rw[kE (λh=>z h.2),kE z])
theorem qBL{w:Str}(h:w="held"∨w="room"∨w="share"):dueW dk b1 b2 w K o us c="done":=by unfold dueW;rcases h with rfl|rfl|rfl<;>rw[kE (λh=>h.2.elim (λh=>absurd h (by decide)) λh=>h.elim (λh=>absurd h (by decide)) λh=>absurd h (by decide)),kE (λh=>absurd h.1 (by decide)),kE (λh=>absurd h.1 (by decide)),kE (λh=>h.elim (λh=>absurd h (by decide)) λh=>absurd h.1 (by decide)),kE (λh=>absurd h.1 (by decide)),kE (λh=>absurd h.1 (by decide))]
end
theorem PS.pow{H H':Hp}{x:Sto}{so:Nat}{sr:Int}{m:CM}{q:QM}{n:Nat}{W:Mp}{dk:Bool}(h:PS t H x so sr m q n W dk)(dk':Bool)(hc:ChipAt t.C_Chip H' x.c x.a { m with lf:=if dk'=true then some 0 else none })(k:Keep (foot x.c x.a) H H'):PS t H' x so sr { m with lf:=if dk'=true then some 0 else none } q n W dk':=⟨h.st.put hc k rfl rfl,⟨⟨h.ft.ok.bl1,h.ft.ok.bl2,h.ft.ok.pg1,h.ft.ok.pg2,h.ft.ok.nbo,h.ft.ok.ncl,h.ft.ok.ndc,h.ft.ok.nbr,h.ft.ok.lim,h.ft.ok.nrc⟩,h.ft.oq,h.ft.eB,h.ft.eP⟩,h.br,h.cl,h.fi,h.li,rfl,h.nb,h.rc,h.cr,h.nd,h.pm,h.kb,λs v e=>by
  obtain⟨p,st,mk,a1,a2,a3,a4,a5⟩:=h.vl s v e;exact⟨p,st,mk,a1,a2,a3,a4,k.tp _ _ a5⟩,h.so1⟩
noncomputable def AnC(t:Adr)(H0:Hp)(x:Sto)(so:Nat)(sr:Int)(q:QM)(n':Nat)(W:Mp)(dk:Bool)(ct sc:Nat→Nat)(i:Nat)(K:Mp)(w:Str)(o v:V)(d:Str)(fv:V)(H':Hp):Prop:=∃m3 q3 n3 W3,PS t H' x so sr m3 q3 n3 W3 dk∧q3.B=q.B∧q3.P=q.P∧n3≤n'+1∧Keep (t.aT::sf x) H0 H'∧((d≠"done"∧fv=.non∧n3=n'∧W3=W)∨(d="done"∧∃K',∀H2,Keep (foot x.c x.a) H' H2→DnC H2 { m3 with lf:=none } q3 so n' n3 W W3 K ct sc i w o v fv K'))
section
variable{H H':Hp}{x:Sto}{so sr:Nat}{m:CM}{q:QM}{n':Nat}{W:Mp}{dk:Bool}{z:Pz}{y:MnA}{ra:Addr}{us us0:List V}{n i:Nat}{nm:Nat→Str}{ct sc:Nat→Nat}{hd:Nat→Mp}{b1 b2:Bool}{w:Str}{o v:V}{Q:VK}
theorem AnC.same{H0:Hp}{sr:Int}{K:Mp}{d:Str}{fv:V}(h:AnC t H0 x so sr q n' W dk ct sc i K w o v d fv H)(s:Same H H'):AnC t H0 x so sr q n' W dk ct sc i K w o v d fv H':=by(
obtain⟨m3,q3,n3,W3,a1,a2,a3,a4,a5,a6⟩:=h
refine⟨m3,q3,n3,W3,a1.same s,a2,a3,a4,a5.trans (Keep.same s),?_⟩
rcases a6 with a6|⟨e,K',a6⟩
·exact .inl a6
exact .inr ⟨e,K',λH2 k=>a6 H2 ((Keep.same s).trans k)⟩)
theorem qJA(j:J t H x so sr m q n' W dk z y ra us0 n nm ct sc hd)(hi:i<n)(ak:AskOk H n nm ct (.str (nm i)) b1 b2 w o v us)(off:∀l,o=.ref l→l∉t.aT::sf x)
 (hQ:∀fv u l H',H' u=some (.tup [.ref l,fv])→H' l=some (.lst [.str (dueW dk b1 b2 w (hd i) o us (sc i))])→AnC t H x so (sr:Int) q n' W dk ct sc i (hd i) w o v (dueW dk b1 b2 w (hd i) o us (sc i)) fv H'→Q (.ref u) H'):AkR t H Q x so (sr:Int) m q n' W dk ct sc i w o v us:=by(
have ta:∀{d:Str} {fv:V} {Hk:Hp},dueW dk b1 b2 w (hd i) o us (sc i)=d→AnC t H x so (sr:Int) q n' W dk ct sc i (hd i) w o v d fv Hk→tA Q d fv Hk:=fun {d fv Hk} e h u l H' s hu hl=>hQ fv u l H' hu (e▸hl) (e▸h.same s)
have fsf:∀b,b∈foot x.c x.a→b∈sf x:=λb hb=>by unfold sf;exact kU _ hb
have no:∀{d:Str} {Hk:Hp},d≠"done"→Same H Hk→dueW dk b1 b2 w (hd i) o us (sc i)=d→tA Q d .non Hk:=fun {d Hk} nd s e=>ta e ⟨m,q,n',W,j.ps.same s,rfl,rfl,by lia,Keep.same s,.inl ⟨nd,rfl,rfl,rfl⟩⟩
have noD:∀{Hk:Hp},PS t Hk x so (sr:Int) m q n' W dk→Keep (t.aT::sf x) H Hk→dueW dk b1 b2 w (hd i) o us (sc i)="dark"→tA Q "dark" .non Hk:=fun {Hk} ps k e=>ta e ⟨m,q,n',W,ps,rfl,rfl,by lia,k,.inl ⟨by decide,rfl,rfl,rfl⟩⟩
have yes:∀{fv:V} {Hk:Hp} {K':Mp},Same H Hk→dueW dk b1 b2 w (hd i) o us (sc i)="done"→(∀H2,Keep (foot x.c x.a) Hk H2→DnC H2 { m with lf:=none } q so n' n' W W (hd i) ct sc i w o v fv K')→tA Q "done" fv Hk:=fun {fv Hk K'} s e h=>ta e ⟨m,q,n',W,j.ps.same s,rfl,rfl,by lia,Keep.same s,.inr ⟨rfl,K',h⟩⟩
have b1f:w≠"give"→∀jj:Int,o=.int jj→0≤jj→jj<((ct i:Nat):Int)→b1=false:=λng jj eo j0 j1=>by
 cases b1 with
 |false=>rfl
 |true=>have:=(ak.oo ng).2 rfl i hi rfl;rw[eo,inBi j0 (by lia)]at this;cases this
have b1t:w≠"give"→inB o 0 (((ct i:Nat):Int)-1)=false→b1=true:=λng h=>by
 cases b1 with
 |true=>rfl
 |false=>obtain⟨jj,eo,hj⟩:=(ak.oo ng).1 rfl;have:=hj i hi rfl;rw[eo,inBi this.1 (by lia)]at h;cases h
have ln:=j.nt.len j.ps.nd hi
have gvr:∀{Hk:Hp} {ss:List Int},Same H Hk→(∀s∈ss,0≤s∧s<((ct i:Nat):Int))→(∀H2,Keep (t.aT::sf x) Hk H2→(w="give"∧∃lo,o=.ref lo∧H2 lo=some (.lst (ss.map V.int)))∨(w="empty"∧∀s∈(hd i).map (·.1),s∈ss))→((∀s∈(hd i).map (·.1),s∉ss)→dueW dk b1 b2 w (hd i) o us (sc i)="done")→(¬(∀s∈(hd i).map (·.1),s∉ss)→dueW dk b1 b2 w (hd i) o us (sc i)=if dk=true then("dark":Str)else("done":Str))→GvR t Hk (λv H'=>tA Q "done" v H') (λ_ _ H'=>tA Q "dark" .non H') x so (sr:Int) m q n' W dk ct i ss:=fun {Hk ss} s hs hw d1 d2=>by
 have ee:(∀s∈W.map (·.1),s∉ss.map λj=>((fst ct i:Nat):Int)+j)↔∀s∈(hd i).map (·.1),s∉ss:=by
  constructor
  ·intro h s h1 h2;exact h _ ((j.nt.key hi (hs s h2).1 (hs s h2).2).mpr h1) (kP.mpr ⟨s,h2,rfl⟩)
  intro h s h1 h2;obtain⟨a,ha,rfl⟩:=kP.mp h2;exact h a ((j.nt.key hi (hs a ha).1 (hs a ha).2).mp h1) ha
 have up:∀{A B:Hp},Keep (foot x.c x.a) A B→Keep (t.aT::sf x) A B:=λk=>k.mono λb hb=>kF _ (fsf b hb);refine⟨λh H' s'=>?_,λh=>⟨λed m' q' tp mk H' ps eB eP b1' b2' b3' kp=>?_,λed H' ps kp=>?_⟩⟩
 ·have h':=ee.mp h;have e0:cntS W (ss.map λj=>((fst ct i:Nat):Int)+j)=0:=by unfold cntS;rw[List.length_eq_zero_iff,p9];intro a ha;rw[dP];exact h a ha
  have eW:W=yP W (ss.map λj=>((fst ct i:Nat):Int)+j):=(rO.mpr λr hr=>hI (h _ (jH.mpr ⟨r.2,hr⟩))).symm;rw[show V.int 0=V.int ((cntS W (ss.map λj=>((fst ct i:Nat):Int)+j):Nat):Int) by rw[e0];rfl];exact yes (s.trans s') (d1 h') λH2 k2=>.gv (hw H2 ((Keep.same s').trans (up k2))) hs eW (.inl ⟨h',rfl⟩)
 ·have h':=λg=>h (ee.mpr g);subst ed;exact ta (d2 h') ⟨m',q',n'+1,_,ps,eB,eP,kH _,(Keep.same s).trans kp,.inr ⟨rfl,_,λH2 k2=>.gv (hw H2 (kp.trans (up k2))) hs rfl (.inr ⟨h',rfl,tp,mk,b1',k2.tp _ _ b2',b3'⟩)⟩⟩
 have h':=λg=>h (ee.mpr g);subst ed;exact noD ps ((Keep.same s).trans kp) (d2 h')
refine⟨λew jj eo j0 j1=>?_,λew h=>?_,λew jj eo j0 j1=>?_,λew ss eu hs=>?_,λew h=>?_,λew ks H' hk s=>?_,λew l ks H' hk s nl hl=>?_,λew=>?_,λew=>?_⟩
·have ng:w≠"give":=by rw[ew];decide
 have eb:=b1f ng jj eo j0 j1;subst ew eo eb;have dw:=qJ6 (dk:=dk) (b2:=b2) (K:=hd i) (o:=.int jj) (us:=us) (c:=sc i);refine⟨λh=>?_,λc ev c0 c1=>?_⟩
 ·have e2:b2=true:=by
   cases b2 with
   |true=>rfl
   |false=>obtain⟨c,ev,c0,c1⟩:=ak.vv.2 rfl;rw[ev,inBi c0 (by lia)]at h;cases h
  exact no (by decide) (λ_ _ e=>e) (by rw[dw,kG e2])
 have e2:¬b2=true:=λe=>by have:=(ak.vv.1 e).2;rw[ev,inBi c0 (by lia)]at this;cases this
 subst ev;rw[kE e2]at dw;have key:=j.nt.key hi j0 j1;rw[ln];refine⟨λh=>?_,λh=>⟨?_,λed m' q' H' ps eB eP mV kp=>?_,λed H' ps kp=>?_⟩⟩
 ·exact no (by decide) (λ_ _ e=>e) (by rw[dw,kG ⟨λa=>h (.inl (key.mpr a)),by have:=λa=>h (.inr a);lia⟩])
 ·exact h.imp id λh=>j.room hi h
 ·subst ed;have nf:¬(toI (V.int jj)∉(hd i).map (·.1)∧sc i≤(hd i).length):=λg=>h.elim (λh=>g.1 (key.mp h)) λh=>by have:=g.2;lia
  rw[kE nf,kE (by decide)]at dw;exact ta dw ⟨m',q',n'+1,_,ps,eB,eP,kH _,kp,.inr ⟨rfl,_,λH2 k2=>.wr j0 j1 (h.imp key.mp id) rfl rfl mV⟩⟩
 subst ed;have nf:¬(toI (V.int jj)∉(hd i).map (·.1)∧sc i≤(hd i).length):=λg=>h.elim (λh=>g.1 (key.mp h)) λh=>by have:=g.2;lia
 rw[kE nf,kG rfl]at dw;exact noD ps kp dw
·have ng:w≠"give":=by rcases ew with rfl|rfl<;>decide
 have eb:=b1t ng h;subst eb;exact no (by decide) (λ_ _ e=>e) (qFE (ew.imp id .inl))
·have ng:w≠"give":=by rw[ew];decide
 have eb:=b1f ng jj eo j0 j1;subst ew eo eb;have dw:=qJ7 (dk:=dk) (b2:=b2) (K:=hd i) (o:=.int jj) (us:=us) (c:=sc i);have key:=j.nt.key hi j0 j1;refine⟨λh=>?_,λv' hv=>?_⟩
 ·have h':jj∉(hd i).map (·.1):=λg=>h (key.mpr g);exact yes (λ_ _ e=>e) (by rw[dw];exact kE h') λH2 k2=>.rd rfl rfl (by rw[zU h'];rfl)
 have h':(jj,v')∈hd i:=(j.nt.wh i hi jj v').mpr ⟨j0,j1,hv⟩;rw[kG (show toI (V.int jj)∈(hd i).map (·.1)from jH.mpr ⟨v',h'⟩)]at dw;cases dk with
 |true=>exact no (by decide) (λ_ _ e=>e) dw
 |false=>exact yes (λ_ _ e=>e) dw λH2 k2=>.rd rfl rfl (by rw[vK (j.nt.nd i hi) h'];rfl)
·subst ew;obtain⟨lo,eo,hlo,l9,fl,g1,g2⟩:=ak.og rfl;have eb:b1=false:=by
  cases b1 with
  |false=>rfl
  |true=>obtain⟨v',hv',ib⟩:=g2 rfl i hi rfl;rw[eu]at hv';obtain⟨s,hs',rfl⟩:=kP.mp hv';have:=hs s hs';rw[inBi this.1 (by lia)]at ib;cases ib
 subst eb;have dw:=qJ8 (dk:=dk) (b2:=b2) (K:=hd i) (o:=o) (us:=us) (c:=sc i);have eg:gvS (hd i) us=[]↔∀s∈(hd i).map (·.1),s∉ss:=by unfold gvS;rw[p9];refine forall_congr' λs=>forall_congr' λ_=>?_;rw[dP,eu];exact not_congr ⟨λh=>by obtain⟨a,ha,e⟩:=kP.mp h;cases e;exact ha,λh=>kP.mpr ⟨s,h,rfl⟩⟩
 refine gvr (λ_ _ e=>e) hs (λH2 k2=>.inl ⟨rfl,lo,eo,?_⟩) (λh=>?_) (λh=>?_)
 ·rw[←eu];exact k2.k _ _ (off lo eo) hlo
 ·rw[dw,kE (λg=>g (eg.mpr h))]
 rw[dw,kG (λg=>h (eg.mp g))]
·subst ew;obtain⟨lo,eo,hlo,l9,fl,g1,g2⟩:=ak.og rfl;have eb:b1=true:=by
  cases b1 with
  |true=>rfl
  |false=>obtain⟨ss,eu,hs⟩:=g1 rfl;obtain⟨v',hv',ib⟩:=h;rw[eu]at hv';obtain⟨s,hs',rfl⟩:=kP.mp hv';have:=hs i hi rfl s hs';rw[inBi this.1 (by lia)]at ib;cases ib
 subst eb;exact no (by decide) (λ_ _ e=>e) (qFE (.inr (.inr rfl)))
·subst ew;have mc:∀s,s∈cutP (fst ct i) (ct i) ks↔s∈(hd i).map (·.1):=λs=>by rw[zZ,(hk.pm.trans j.ps.pm).mem_iff];exact⟨λh=>(j.nt.key hi h.2.1 h.2.2).mp h.1,λh=>⟨(j.nt.key hi (j.nt.kb hi h).1 (j.nt.kb hi h).2).mpr h,j.nt.kb hi h⟩⟩
 have dw:=qJ9 (dk:=dk) (b1:=b1) (b2:=b2) (K:=hd i) (o:=o) (us:=us) (c:=sc i);have e0:(∀s∈(hd i).map (·.1),s∉cutP (fst ct i) (ct i) ks)↔(hd i).length=0:=by
  constructor
  ·intro h;cases q:hd i with
   |nil=>rfl
   |cons r rs=>rw[q]at h mc;exact absurd ((mc r.1).mpr (by simp)) (h r.1 (by simp))
  intro h s hs;rw[cQ h]at hs;cases hs
 refine gvr s (λs h=>(zZ.mp h).2) (λH2 k2=>.inr ⟨rfl,λs h=>(mc s).mpr h⟩) (λh=>?_) (λh=>?_)
 ·rw[dw,kE (λg=>g (e0.mp h))]
 rw[dw,kG (λg=>h (e0.mpr g))]
·subst ew;have mc:∀s,s∈cutP (fst ct i) (ct i) ks↔s∈(hd i).map (·.1):=λs=>by rw[zZ,(hk.pm.trans j.ps.pm).mem_iff];exact⟨λh=>(j.nt.key hi h.2.1 h.2.2).mp h.1,λh=>⟨(j.nt.key hi (j.nt.kb hi h).1 (j.nt.kb hi h).2).mpr h,j.nt.kb hi h⟩⟩
 have kn:ks.Nodup:=(hk.pm.trans j.ps.pm).nodup_iff.mpr j.ps.nd;refine yes s (qBL (.inl rfl)) λH2 k2=>.hl rfl rfl (k2.k _ _ (λg=>j.ps.st.off nl (kF _ (fsf _ g))) hl) (q0X (q38 kn) (j.nt.nd i hi) mc) ?_;unfold cutP;exact dW.mpr ((hk.so.sublist g7).imp λh=>by lia)
·subst ew;rw[ln,show max 0 (((sc i:Nat):Int)-(((hd i).length:Nat):Int))=((sc i:Nat):Int)-(((hd i).length:Nat):Int) by have:=j.nt.le i hi;lia];exact yes (λ_ _ e=>e) (qBL (.inr (.inl rfl))) λH2 k2=>.ro rfl rfl
subst ew
exact yes (λ_ _ e=>e) (qBL (.inr (.inr rfl))) λH2 k2=>.sh rfl rfl)
end
theorem AskOk.on{H H':Hp}{n:Nat}{nm:Nat→Str}{ct:Nat→Nat}{a:V}{b1 b2:Bool}{w:Str}{o v:V}{us:List V}(h:AskOk H n nm ct a b1 b2 w o v us)(k:∀l,o=.ref l→∀xs,H l=some (.lst xs)→H' l=some (.lst xs)):AskOk H' n nm ct a b1 b2 w o v us:=⟨h.na,h.wd,h.fo,h.fv,λe=>by
  obtain⟨l,eo,hl,r⟩:=h.og e;exact⟨l,eo,k l eo _ hl,r⟩,h.oo,h.vv⟩
theorem qGR{H:Hp}{x:Sto}{m:CM}{l:Addr}{d:Str}(h:ChipAt t.C_Chip H x.c x.a m)(ok:m.Ok)(hl:H l=some (.lst [.str d])):l∉foot x.c x.a:=λg=>by(
have g:l=x.c∨l=x.a.bo∨l=x.a.cl∨l=x.a.dc∨l=x.a.br∨l=x.a.rc:=by simpa[foot]using g
rcases g with rfl|rfl|rfl|rfl|rfl|rfl
·rw[h.ins]at hl;cases hl
·rw[h.bo]at hl;have e:=HO.lst.inj (kI hl);have:=ok.nbo;rw[e]at this;have h1:=ok.bl1;have h2:=ok.pg1;have h3:(2:Int)*1≤m.bl*m.pg:=x6 h1 h2 (by decide) (by lia);have h4:(([V.str d]:List V).length:Int)=1:=rfl;lia
·rw[h.cl]at hl;have e:=HO.lst.inj (kI hl);cases q:m.cl<;>rw[q]at e<;>cases e
·rw[h.dc]at hl;have e:=HO.lst.inj (kI hl);cases q:m.dc<;>rw[q]at e<;>cases e
·rw[h.br]at hl;have e:=HO.lst.inj (kI hl);cases q:m.br<;>rw[q]at e<;>cases e
obtain⟨rs,e1,r1⟩:=h.rc
rw[e1]at hl
have e:=HO.lst.inj (kI hl)
rw[e]at r1
obtain⟨d',_,p,ep,_⟩:=Paired.at r1 (show([V.str d]:List V)[0]?=some (.str d)from rfl)
cases ep)
noncomputable def spSt(t:Adr):Sp:=λvs H Q _=>∃x so sr m q n' W z y ra us n nm ct sc hd,∃num:Int,vs=[.ref x.s,.ref z.p,.ref y.mi,.int num]∧J t H x so sr m q n' W false z y ra us n nm ct sc hd∧(∀i,ct i≤60)∧0≤num∧num<2147483647∧n'<q.B*q.P∧n'<1000∧∀m' q' n2 W' hd' H',J t H' x so sr m' q' n2 W' false z y ra us n nm ct sc hd'→n2≤n'+1→q'.B=q.B→q'.P=q.P→Keep (t.aT::(sf x++(List.range n).map y.hA)) H H'→Q (.bl true) H'
theorem qAI(T:Txt K mg t)(S:Fns K t)(B:BmIn base mg):S.aBS.Ok0 P w mg base 16 (spSt t):=by(
refine S.aBS.F.ok0 uA λcdv A _ s H vs Q E hr h=>?_
obtain⟨x,so,sr,m,q,n',W,z,y,ra,us,n,nm,ct,sc,hd,num,rfl,j,c60,u0,u1,nb,n9,kk⟩:=h
have hu:=v5 hr
have sz:(100:Nat)<sizeLine:=by decide
refine⟨_,(qB (qW (i:=4) uA.nd rfl (Or.inl rfl) (qX (qAH T S).mono hr rfl T.aCT T.aCZ S.aBK.b .nil qQ (qA (pv 2) (qA (pv 3) qE)))) (qB (qW (i:=5) uA.nd rfl (Or.inl rfl) (yC jR (qT yA (qT yH (pv 3) qJ) qJ) qJ (qO _))) (q2G (qV (jI (pv 5)) (qC (jD (yO (qM (pv 0) rfl) T.aV T.t6 (q4C T S).mono hr S.fQ.b .nil qQ (qA qJ qE)))) qL) (qB (qW (i:=6) uA.nd rfl (Or.inl rfl) (qS jJ (by rfl) T.fW mR (qA (jL (qM (pv 0) rfl) T.aV T.eO (uL T S).mono hr S.eJ.b .nil qQ) qE))) (q2G (qW (i:=7) uA.nd rfl (Or.inl rfl) (qX (qBJ T S).mono hr rfl T.aDC T.aDB S.aCP.b .nil qQ (qA (pv 2) (qA (pv 4) (qA (pv 5) qE))))) (q2G (qAK (qX (q9E T S B).mono hr rfl T.aBY T.aCJ S.aAH.b .nil qQ (qA (pv 1) (qA (pv 4) qE))) (q5Y rfl (yX (qZ (i:=8) uA.nd rfl (Or.inl rfl)) (yX (qZ (i:=9) uA.nd rfl (Or.inl rfl)) q3N)))) (qB (jD (jL (qM (pv 0) rfl) T.aV T.aA2 (q4Y T S).mono hr S.iC.b .nil qQ)) (qB (qV (qN (qE9 hr.units) (pv 8) (jX (qA (pv 7) qE)) (qO _)) (qC (qP q2Q)) qL) (qB (qV (qN q2R (pv 7) qI (qO _)) (qC (qP (vA (yC qAO (pv 9) uO (qO _)) (uX (yC jR (qS jJ (by rfl) T.fW mR (qA (jL (qM (pv 0) rfl) T.aV T.eO (uL T S).mono hr S.eJ.b .nil qQ) qE)) (pv 6) (qO _)))))) qL) (qC (qP (qX (qAG T S).mono hr rfl T.aC1 T.aCK S.aBI.b .nil qQ (qA (pv 0) (qA (pv 2) (qA (pv 4) (qA (pv 9) (qA (pv 6) qE))))))))))))))))),?_⟩
try dsimp-beta-proj-iota-zeta-eta only[wishK,cxK]
refine⟨_,rfl,_,rfl,y,n,nm,ct,sc,hd,num,rfl,j.mn,j.ok,j.n1,c60,u0,u1,λya a b1 b2 w o v us' H1 s1 nya nO e1 ak=>?_⟩
refine⟨_,rfl,iI ⟨⟨by show(0:Int)<16384;decide,by decide⟩,iI ⟨(by show(0:Int)<4;decide),rfl,?_⟩⟩⟩
dsimp only
generalize decide (V.int (num / 16384%4)=V.int 0)=dk
have j1:=j.same s1
have ny:ya∉t.aT::sf x:=j.ps.st.off nya
have no:∀l,o=.ref l→l∉t.aT::sf x:=λl e=>j.ps.st.off (nO l e)
have fsf:∀b,b∈foot x.c x.a→b∈t.aT::sf x:=λb hb=>kF _ (by unfold sf;exact kU _ hb)
refine⟨λσ' H'=>σ'=[some (.ref x.s),some (.ref z.p),some (.ref y.mi),some (.int num),some (.ref ya),some (.bl dk),none,none,none,none]∧∃m2,J t H' x so sr m2 q n' W dk z y ra us n nm ct sc hd∧Keep (foot x.c x.a) H1 H',?_,?_⟩
·refine⟨_,rfl,_,rfl,?_⟩;cases dk with
 |false=>exact iteF ⟨rfl,m,j1,Keep.same λ_ _ e=>e⟩
 |true=>exact iteT (iV rfl (iF j1.ps.st.o T.aU T.aX rfl (iM j1.ps.st.ch.ins rfl ⟨x.c,x.a,m,0,rfl,j1.ps.st.ch,by decide,by decide,λH' hc k=>⟨rfl,_,j1.keep (j1.ps.pow true hc k) (k.mono fsf),k⟩⟩)))
rintro σ' H2 ⟨rfl,m2,j2,k2⟩
have k12:=k2.mono fsf
refine(iV rfl (iF j2.ps.st.o T.aU T.aX rfl (iM j2.ps.st.ch.ins rfl ⟨x.c,x.a,m2,rfl,j2.ps.st.ch,λrs hrs rec p H3 np s3 h3=>⟨p,rs,rfl,.inl (SqL.of h3),?_⟩⟩)))
rw[rec.len,j2.ps.rc]
have j3:=j2.same s3
have k13:=k12.trans (Keep.same s3)
have e3:=k13.k _ _ ny e1
have ak3:AskOk H3 n nm ct a b1 b2 w o v us':=ak.on λl e xs h=>k13.k _ _ (no l e) h
clear h3 np
have h64:=j.ps.h64
have lW:∀i,i<n→(hd i).length≤64∧((hd i).map (·.1)).Nodup:=λi hi=>by refine⟨?_,j.nt.nd i hi⟩;have:=j.nt.len j.ps.nd hi;unfold cutP at this;rw[hU]at this;have l2:=mF (λk=>decide (((fst ct i:Nat):Int)≤k)&&decide (k<((fst ct i:Nat):Int)+((ct i:Nat):Int))) (W.map (·.1));rw[j.ps.pm.length_eq]at h64;lia
refine⟨λσ' H'=>∃d,σ'=[some (.ref x.s),some (.ref z.p),some (.ref y.mi),some (.int num),some (.ref ya),some (.bl dk),some (.int (n':Int)),some (.str d),none,none]∧Same H3 H'∧((¬isP n nm a∧d="no part")∨∃i,i<n∧a=.str (nm i)∧d=dueW dk b1 b2 w (hd i) o us' (sc i)),?_,?_⟩
·refine⟨_,rfl,_,rfl,_,rfl,y,n,nm,ct,sc,hd,ya,a,b1,b2,w,o,v,us',dk,rfl,j3.mn,j.ok.u,e3,ak.na,ak.wd,λew eb=>?_,λew=>?_,lW,λnp H4 s4=>⟨_,rfl,s4,.inl ⟨np,rfl⟩⟩,λi hi ea H4 s4=>⟨_,rfl,s4,.inr ⟨i,hi,ea,rfl⟩⟩⟩
 ·obtain⟨jj,e,_⟩:=(ak.oo (by rcases ew with rfl|rfl<;>decide)).1 eb;exact⟨jj,e⟩
 obtain⟨l,eo,hl,l9,fl,g1,g2⟩:=ak3.og ew;exact⟨l,eo,hl,λeb=>by obtain⟨ss,e,_⟩:=g1 eb;exact⟨ss,e⟩⟩
rintro σ' H4 ⟨d,rfl,s4,dc⟩
have j4:=j3.same s4
have e4:=s4 _ _ e3
have ak4:AskOk H4 n nm ct a b1 b2 w o v us':=ak3.on λl e xs h=>s4 _ _ h
have k14:=k13.trans (Keep.same s4)
clear s4 s3 e3 ak3 j3 k13 k12 k2 hrs rec ak
refine⟨λσ' H'=>∃i l fv,σ'=[some (.ref x.s),some (.ref z.p),some (.ref y.mi),some (.int num),some (.ref ya),some (.bl dk),some (.int (n':Int)),some (.str d),some (.ref l),some fv]∧H' l=some (.lst [.str d])∧(d="done"→i<n∧a=.str (nm i))∧AnC t H4 x so (sr:Int) q n' W dk ct sc i (hd i) w o v d fv H',?_,?_⟩
·have ans:∀{Q':VK},(∀i fv u l H',H' u=some (.tup [.ref l,fv])→H' l=some (.lst [.str d])→(d="done"→i<n∧a=.str (nm i))→AnC t H4 x so (sr:Int) q n' W dk ct sc i (hd i) w o v d fv H'→Q' (.ref u) H')→spAk t [.ref z.p,.ref ya] H4 Q' E0:=fun {Q'} hq=>by
  refine⟨z,x,so,sr,m2,q,n',W,dk,n,nm,ct,sc,ya,a,b1,b2,w,o,v,us',rfl,e4,j4.pt,j4.ps,j.ok.u,by rw[j.so];exact kH _,nb,n9,ak4.na.fl,ak4.fv,ak4.wd,ak4.fo,λew=>?_,λnp u l H' s hu' hl=>?_,λi hi ea=>?_⟩
  ·obtain⟨l,eo,hl,l9,fl,_⟩:=ak4.og ew;exact⟨l,eo,hl,l9,fl⟩
  ·rcases dc with⟨_,rfl⟩|⟨i,hi,ea,_⟩
   ·exact hq 0 .non u l H' hu' hl (λe=>absurd e (by decide)) ⟨m2,q,n',W,j4.ps.same s,rfl,rfl,by lia,Keep.same s,.inl ⟨by decide,rfl,rfl,rfl⟩⟩
   exact absurd ⟨i,hi,ea⟩ np
  rcases dc with⟨np,_⟩|⟨i',hi',ea',rfl⟩
  ·exact absurd ⟨i,hi,ea⟩ np
  obtain rfl:=j.ok.u i i' hi hi' (V.str.inj (ea.symm.trans ea'));rw[ea]at ak4;exact qJA j4 hi ak4 no λfv u l H' h1 h2 h3=>hq i fv u l H' h1 h2 (λ_=>⟨hi,ea⟩) h3
 exact⟨_,rfl,_,rfl,ans λi fv u l H' hu' hl di an=>⟨u,_,rfl,SqT.of hu',rfl,_,_,rfl,_,_,rfl,rfl,i,l,fv,rfl,hl,di,an⟩⟩
rintro σ' H5 ⟨i,l,fv,rfl,hl,di,m5,q5,n5,W5,p5,eB,eP,n5le,k5,dd⟩
refine(iV rfl (iF p5.st.o T.aU T.aX rfl (iM p5.st.ch.ins rfl ⟨x.c,x.a,m5,rfl,p5.st.ch,λH6 hc k6=>?_⟩)))
have p6:=p5.pow false hc k6
have hl6:=k6.k _ _ (qGR p5.st.ch p5.ft.ok hl) hl
have k16:Keep (t.aT::sf x) H1 H6:=(k14.trans k5).trans (k6.mono fsf)
refine⟨_,rfl,_,rfl,sz1,λc7 H7 n7 s7 h7=>⟨q50 (SqL.of (s7 _ _ hl6)) (SqL.of h7) rfl,_,rfl,iteF ?_⟩⟩
have p7:=p6.same s7
have k07:Keep (t.aT::sf x) H H7:=(Keep.same s1).trans (k16.trans (Keep.same s7))
have e7:=(k16.trans (Keep.same s7)).k _ _ ny e1
refine⟨_,rfl,rfl,_,rfl,?_⟩
rcases dd with⟨nd,rfl,rfl,rfl⟩|⟨rfl,K',dn⟩
·rw[hG (λz=>nd (V.str.inj z))];refine iteT ⟨_,rfl,rfl,?_⟩;rw[hI rfl];refine⟨_,rfl,iteT ?_⟩;refine(iV rfl (iF p7.st.o T.aU T.aX rfl (iM p7.st.ch.ins rfl ⟨x.c,x.a,_,rfl,p7.st.ch,λrs hrs rec p H8 np s8 h8=>⟨p,rs,rfl,.inl (SqL.of h8),_,rfl,rfl,?_⟩⟩)));rw[rec.len,p7.rc,hI rfl];exact kk _ q5 _ _ hd H8 ((j.keep p7 k07).same s8) n5le eB eP ((k07.mono λb hb=>(by
  rcases kW.mp hb with h|h
  ·rw[h];exact kO
  exact kF _ (kU _ h))).trans (Keep.same s8))
rw[hI rfl]
obtain⟨hi,ea⟩:=di rfl
subst ea
refine iteF ⟨_,rfl,_,rfl,_,rfl,_,rfl,_,rfl,H,x,so,sr,m,q,n',W,z,y,ra,us,n,nm,ct,sc,hd,_,q5,n5,W5,ya,b1,b2,w,o,v,fv,i,K',rfl,j,k07,p7,e7,c60,n9,by rw[eB,eP];exact nb,hi,dn H7 (k6.trans (Keep.same s7)),λhd' H8 j8 k8=>kk _ q5 n5 W5 hd' H8 j8 n5le eB eP ((k07.mono λb hb=>?_).trans (k8.mono λb hb=>?_))⟩
·rcases kW.mp hb with h|h
 ·rw[h];exact kO
 exact kF _ (kU _ h)
rcases kW.mp hb with h|h
·rw[h];exact kO
rcases mP.mp h with h|h
·exact kF _ (kU _ h)
rw[kJ.mp h]
exact kF _ (kM _ (kP.mpr ⟨i,mH.mpr hi,rfl⟩)))
section
variable{H H':Hp}{n:Nat}{nm:Nat→Str}{ct sc:Nat→Nat}{y:MnA}{e:Nat}
structure Nw(H1 H:Hp)(y:MnA)(n:Nat)(nm:Nat→Str)(ct sc:Nat→Nat)(e:Nat):Prop where
s:Same H1 H
mn:Mn H y n nm ct sc (λ_=>[]) e
f:∀b∈[y.mi,y.oa,y.ta,y.sa,y.ha]++(List.range e).map y.hA,H1 b=none
nd:([y.mi,y.oa,y.ta,y.sa,y.ha]++(List.range e).map y.hA).Nodup
theorem Nw.next{H1:Hp}(w:Nw H1 H y n nm ct sc e){h:Addr}(nh:H h=none)(k:Keep [y.ta,y.sa,y.ha] H H')(hc:H' y.ta=some (.dK (dN (e+1) nm λi=>.int (ct i:Nat))))(hs:H' y.sa=some (.dK (dN (e+1) nm λi=>.int (sc i:Nat))))(hh:H' y.ha=some (.dK (dN (e+1) nm λi=>.ref (if i=e then h else y.hA i))))(h0:H' h=some (.dK [])):Nw H1 H' { y with hA:=λi=>if i=e then h else y.hA i } n nm ct sc (e+1):=by(
have nd:=w.nd
obtain⟨d1,d2,d3⟩:=gA.mp nd
have eo:[y.mi,y.oa,y.ta,y.sa,y.ha]++(List.range (e+1)).map (λi=>if i=e then h else y.hA i)=[y.mi,y.oa,y.ta,y.sa,y.ha]++(List.range e).map y.hA++[h]:=by
 rw[g9,mB,lY];congr 1;congr 1
 ·exact d0 λi hi=>kE (by have:=mH.mp hi;lia)
 simp
have has:∀b∈[y.mi,y.oa,y.ta,y.sa,y.ha]++(List.range e).map y.hA,∃o,H b=some o:=λb hb=>by
 rcases mP.mp hb with hb|hb
 ·have hb:b=y.mi∨b=y.oa∨b=y.ta∨b=y.sa∨b=y.ha:=by simpa using hb
  rcases hb with rfl|rfl|rfl|rfl|rfl
  ·exact⟨_,w.mn.m⟩
  ·exact⟨_,w.mn.o⟩
  ·exact⟨_,w.mn.c⟩
  ·exact⟨_,w.mn.s⟩
  exact⟨_,w.mn.h⟩
 obtain⟨i,hi,rfl⟩:=kP.mp hb;exact⟨_,w.mn.d i (mH.mp hi)⟩
have n1:∀b∈[y.mi,y.oa],b∉[y.ta,y.sa,y.ha]:=λb hb g=>by
 have hb:b=y.mi∨b=y.oa:=by simpa using hb
 have g:b=y.ta∨b=y.sa∨b=y.ha:=by simpa using g
 rcases hb with rfl|rfl<;>rcases g with g|g|g<;>(rw[g]at d1;simp at d1)
refine⟨λb o e'=>k.k _ _ (λg=>?_) (w.s _ _ e'),⟨k.k _ _ (n1 _ (by simp)) w.mn.m,k.k _ _ (n1 _ (by simp)) w.mn.o,hc,hs,hh,λi hi=>?_⟩,?_,?_⟩
·have:=w.f b (kU _ (by simp at g ⊢;rcases g with g|g|g<;>simp[g]));rw[this]at e';cases e'
·show H' (if i=e then h else y.hA i)=_;by_cases c:i=e
 ·rw[kG c];exact h0
 rw[kE c];have hm:y.hA i∈(List.range e).map y.hA:=kP.mpr ⟨i,mH.mpr (by lia),rfl⟩;refine k.k _ _ (λg=>?_) (w.mn.d i (by lia));exact d3 (y.hA i) (by simp at g ⊢;rcases g with g|g|g<;>simp[g]) _ hm rfl
·intro b hb;rw[eo]at hb;rcases mP.mp hb with hb|hb
 ·exact w.f b hb
 rw[kJ.mp hb];exact w.s.free nh
rw[eo]
refine gA.mpr ⟨w.nd,by simp,λb hb c hc g=>?_⟩
obtain⟨o,e'⟩:=has b hb
rw[g,kJ.mp hc,nh]at e'
cases e')
end
theorem PS.new{H:Hp}{x:Sto}{so B:Nat}{sr:Int}(b1:6≤B)(b2:B≤8)(st:StAt t H x (.int (so:Int)) (.int sr) (.int 0) (.int 1000000) (CM.new (B:Int) 8 1000000 []) (bk0 B 8))(so1:so≤60):PS t H x so sr (CM.new (B:Int) 8 1000000 []) (bk0 B 8) 0 [] false:=by(
refine⟨st,⟨qIG (by lia) (by lia) (by lia) (by lia) (λb v e=>by cases e),qIY (by lia) (by lia) (by lia),rfl,rfl⟩,?_,?_,?_,λb=>rfl,rfl,mS _,rfl,λp _=>?_,rV,List.Perm.nil,λs h=>absurd h (by simp),λs v h=>absurd h (by simp),so1⟩
·show List.replicate ((B:Int).toNat) false=_;rw[mY];rfl
·show List.replicate ((B:Int).toNat) (0:Int)=_;rw[mY];rfl
·show List.replicate B (0:Int)=linF B 8 0;exact qIR.symm
show(List.replicate _ V.non).getD p .non=.non
rw[kQ,dB]
split<;>rfl)
theorem StAt.some'{H:Hp}{x:Sto}{r2 r3 r4 r5:V}{m:CM}{q:QM}(st:StAt t H x r2 r3 r4 r5 m q):∀b∈t.aT::([x.s,x.tm]++(x.a.li::sf x)),∃o,H b=some o:=λb hb=>by(
have hb:b=t.aT∨b=x.s∨b=x.tm∨b=x.a.li∨b∈foot x.c x.a∨b=x.k.bk∨b=x.k.wv∨b=x.k.lv∨b=x.k.fi∨b=x.k.bo:=by simpa[sf,bf,or_assoc]using hb
rcases hb with rfl|rfl|rfl|rfl|hb|rfl|rfl|rfl|rfl|rfl
·obtain⟨ps,hT,_⟩:=st.tb;exact⟨_,hT⟩
·exact⟨_,st.o⟩
·exact⟨_,st.te⟩
·exact⟨_,st.ch.li⟩
·obtain⟨o,e,_⟩:=st.ch.has (kF _ hb);exact⟨o,e⟩
·exact⟨_,st.bk.o⟩
·exact⟨_,st.bk.w⟩
·exact⟨_,st.bk.l⟩
·exact⟨_,st.bk.f⟩
exact⟨_,st.bk.b⟩)
theorem qFF{H:Hp}{a b:Addr}{us ws:List V}{n:Nat}{nm:Nat→Str}{ct sc:Nat→Nat}(ha:H a=some (.lst us))(hb:H b=some (.lst ws))(r1:Rws H us n nm ct sc)(r2:Rws H ws n nm ct sc):Eqv K H 6 (.ref a) (.ref b):=by(
refine .lst (SqL.of ha) (SqL.of hb) (by rw[r1.1,r2.1]) λi x y hx hy=>?_
have hi:i<n:=by rw[←r1.1];exact(hV.mp hx).1
obtain⟨p,e1,h1⟩:=r1.at hi
obtain⟨p',e2,h2⟩:=r2.at hi
rw[hx]at e1
rw[hy]at e2
cases e1
cases e2
exact qCY (SqT.of h1) (SqT.of h2) (by simp[zS]))
theorem qJB{xs:List V}:(cutV xs (some 8) (some 48)).length≤40:=by(
unfold cutV
rw[m9,xE]
unfold HT.sIx
simp
lia)
theorem qJC(T:Txt K mg t)(S:Fns K t)(B:BmIn base mg):S.law.Ok0 P w mg base 17 (q4L K [t.aT]):=by(
refine S.law.F.ok0 vI λcdv A _ s H vs Q E hr h=>?_
obtain⟨a,ns,rfl,hS,hlen,hT0,kk⟩:=h
have hT:H t.aT=some (.tbl #[]):=hT0 _ (kJ.mpr rfl)
have hu:=v5 hr
have sz:(100:Nat)<sizeLine:=by decide
refine⟨_,(qB (qW (i:=1) vI.nd rfl (Or.inl rfl) (qX (q9D T S).mono hr rfl T.aBW T.aCE S.aAE.b .nil qQ (qA (pv 0) (qA qJ qE)))) (qB (qW (i:=2) vI.nd rfl (Or.inl rfl) (qBW (zT qI (yW ["_law_row"] [] rfl (jV (pv 1)) (λ_ _ _ _ _=>(qZ (i:=0) (show List.Nodup (["_law_row"]:List Str)from by decide) rfl (Or.inl rfl))) (λ_ _ _ _ _=>v6) (λ_ _ _ _ _=>(yF (q2I (K:=K) rfl) (pv 0) qJ (λ_ _=>rfl))) (by kernel_rfl) (jY (by decide))) (zT qI uK (zT qI uK (zT qI uK qBV)))) rfl rfl (by simp) (by decide))) (qB (uH gF rfl (jV (pv 1)) (q5Y rfl (yX (qZ (i:=3) vI.nd rfl (Or.inl rfl)) (yX (qZ (i:=4) vI.nd rfl (Or.inl rfl)) (yX (qZ (i:=5) vI.nd rfl (Or.inl rfl)) q3N)))) (qB (zJ hu (qK hu (pv 2) qI (λ_ _=>rfl)) (pv 3) (pv 4) rfl) (qB (zJ hu (qK hu (pv 2) qI (λ_ _=>rfl)) (pv 3) (pv 5) rfl) (qC (zJ hu (qK hu (pv 2) qI (λ_ _=>rfl)) (pv 3) uK rfl))))) (qB (qW (i:=6) vI.nd rfl (Or.inl rfl) (qS (q2H rfl) (by rfl) T.aDL (by kernel_rfl) (qA (yW ["_law_row"] [] rfl (jV (pv 1)) (λ_ _ _ _ _=>(qZ (i:=0) (show List.Nodup (["_law_row"]:List Str)from by decide) rfl (Or.inl rfl))) (λ_ _ _ _ _=>v6) (λ_ _ _ _ _=>(yF (q2I (K:=K) rfl) (pv 0) qJ (λ_ _=>rfl))) (by kernel_rfl) (jY (by decide))) qE))) (qB (qW (i:=7) vI.nd rfl (Or.inl rfl) (qS (q2H rfl) (by rfl) T.aDL (by kernel_rfl) (qA (yW ["_law_row"] [] rfl (jV (pv 1)) (λ_ _ _ _ _=>(qZ (i:=0) (show List.Nodup (["_law_row"]:List Str)from by decide) rfl (Or.inl rfl))) (λ_ _ _ _ _=>v6) (λ_ _ _ _ _=>(yF (q2I (K:=K) rfl) (pv 0) qJ (λ_ _=>rfl))) (by kernel_rfl) (jY (by decide))) qE))) (qB (qW (i:=8) vI.nd rfl (Or.inl rfl) (qT yN qJ (qT yA (qX (uB T S).mono hr rfl T.bT T.bS S.bZ.b .nil qQ (qA (pv 0) (qA qJ qE))) qJ))) (qB (qW (i:=9) vI.nd rfl (Or.inl rfl) (q3O T.aDM (q7A T S).mono hr rfl T.aDT S.tI.b .nil qQ (qA (q3O T.aD3 (q94 T S).mono hr rfl T.aD0 S.aBP S.aBF qQ (qA (pv 8) (qA qJ qE))) (qA (q3O T.aDR (q78 T S).mono hr rfl T.aDN S.aA4 S.aBB qQ (qA (pv 8) (qA qJ (qA (pv 6) (qA (pv 7) qE))))) qE)))) (qB (qW (i:=10) vI.nd rfl (Or.inl rfl) (q3O T.aDU (q7E T S).mono hr rfl T.aDP S.tL.b .nil qQ (qA (pv 9) (qA (pv 1) qE)))) (qB (uH gF rfl (jV (q3Q q8E (pv 0) (q3P qJ) (q3P qJ))) (qZ (i:=11) vI.nd rfl (Or.inl rfl)) (qC (qV (jZ (jI (qX (qAI T S B).mono hr rfl T.aCS T.aCY S.aBS.b .nil qQ (qA (pv 9) (qA (pv 10) (qA (pv 2) (qA (qT yA (qT vC (pv 11) qJ) qJ) qE))))))) (qC (qP q2Q)) qL))) (qB (uH gF rfl (jV (qK hu (pv 2) qI (λ_ _=>rfl))) (qZ (i:=3) vI.nd rfl (Or.inl rfl)) (qB (qV (qN (qE9 hr.units) (jB vP (pv 10) T.aW T.eQ (uM T S).mono hr S.eI.b .nil (qA (pv 3) qE)) (qS (q0Y rfl) (by rfl) T.o9 (by kernel_rfl) (qA (qK hu (qK hu (pv 2) qI (λ_ _=>rfl)) (pv 3) (λ_ _=>rfl)) qE)) (qO _)) (qC (qP q2Q)) qL) (qC (qV (qN q2R (jB vP (pv 10) T.aW T.iH (q0N T S).mono hr S.fT.b .nil (qA (pv 3) qE)) (qT uY (qK hu (qK hu (pv 2) qI (λ_ _=>rfl)) (pv 3) (λ_ _=>rfl)) (qS q4K (by rfl) T.fW mR (qA (qK hu (qK hu (pv 2) qI (λ_ _=>rfl)) (pv 3) (λ_ _=>rfl)) qE))) (qO _)) (qC (qP q2Q)) qL)))) (qC (qP (yC (qE8 hr.units) (jL (pv 10) T.aW T.aB0 (q7F T S).mono hr S.tP.b .nil qQ) (pv 1) (qO _)))))))))))))),?_⟩
try dsimp-beta-proj-iota-zeta-eta only[wishK,cxK]
refine⟨_,rfl,a,ns,rfl,hS,λl us H1 s1 n1 h1 r1=>?_⟩
have ok:=tabT (ns:=ns)
have nn1:1≤nT ns:=by unfold nT;lia
have cb:∀i,ctT ns i≤6∧1≤ctT ns i:=λi=>by unfold ctT;lia
have sb:∀i,scT ns i≤4∧1≤scT ns i:=λi=>by unfold scT;lia
generalize nT ns=n at ok r1 nn1
generalize nmT ns=nm at ok r1
generalize ctT ns=ct at ok r1 cb
generalize scT ns=sc at ok r1 sb
have n4:=ok.n4
have bnd:∀(f:Nat→Nat) (b:Nat),(∀i,f i≤b∧1≤f i)→∀k,fst f k≤k*b∧k≤fst f k:=λf b hf k=>by
 induction k with
 |zero=>exact⟨mS _,mS _⟩
 |succ k ih=>have:=hf k;rw[Nat.succ_mul];show fst f k+f k≤_∧_≤fst f k+f k;lia
have b1:=bnd ct 6 cb n
have b2:=bnd sc 4 sb n
have b3:n*6≤24:=by lia
have b4:n*4≤16:=by lia
have lu:=r1.1
intro mi nmi
have s2:Same H1 (upd H1 mi (.dK [])):=Same.upd nmi
have e2:(upd H1 mi (.dK [])) mi=some (.dK []):=qF
generalize upd H1 mi (.dK [])=H2 at s2 e2 ⊢
refine⟨_,rfl,l,rfl,⟨_,SqL.of (s2 _ _ h1)⟩,λoa H3 n3 s3 hD3=>?_⟩
refine q52 (n:=n) (g:=λi=>.str (nm i)) (by show(0:Nat)<1;decide) (s2 _ _ h1) s3 n3 hD3 lu (by lia) (λi hi=>?_) λH4 s4 h4=>?_
·obtain⟨p,e,hp⟩:=(r1.same s2).at hi;exact⟨p,_,e,hp,rfl⟩
have noa:H1 oa=none:=s2.free n3
have s14:=s2.trans s4
have mi4:=s4 _ _ e2
have mo:mi≠oa:=qG e2 n3
clear s3 hD3 n3 s4 e2 s2
intro ta nta
have s5:Same H4 (upd H4 ta (.dK [])):=Same.upd nta
have e5:(upd H4 ta (.dK [])) ta=some (.dK []):=qF
generalize upd H4 ta (.dK [])=H5 at s5 e5 ⊢
intro sa nsa
have s6:Same H5 (upd H5 sa (.dK [])):=Same.upd nsa
have e6:(upd H5 sa (.dK [])) sa=some (.dK []):=qF
generalize upd H5 sa (.dK [])=H6 at s6 e6 ⊢
intro ha nha
have s7:Same H6 (upd H6 ha (.dK [])):=Same.upd nha
have e7:(upd H6 ha (.dK [])) ha=some (.dK []):=qF
generalize upd H6 ha (.dK [])=H7 at s7 e7 ⊢
refine⟨s7 _ _ (s6 _ _ (s5 _ _ mi4)),dM ⟨mi,oa,ta,sa,ha,λ_=>0⟩,rfl,by simp[dM],?_⟩
rw[show q0T [] (dM ⟨mi,oa,ta,sa,ha,λ_=>0⟩)=dM ⟨mi,oa,ta,sa,ha,λ_=>0⟩from rfl]
have u8:∀x o,x≠mi→H7 x=some o→(upd H7 mi (.dK (dM ⟨mi,oa,ta,sa,ha,λ_=>0⟩))) x=some o:=λx o n e=>by rw[qD n];exact e
have d8:(upd H7 mi (.dK (dM ⟨mi,oa,ta,sa,ha,λ_=>0⟩))) mi=some (.dK (dM ⟨mi,oa,ta,sa,ha,λ_=>0⟩)):=qF
generalize upd H7 mi (.dK (dM ⟨mi,oa,ta,sa,ha,λ_=>0⟩))=H8 at u8 d8 ⊢
have mt:mi≠ta:=qG mi4 nta
have ms:mi≠sa:=qG (s5 _ _ mi4) nsa
have mh:mi≠ha:=qG (s6 _ _ (s5 _ _ mi4)) nha
have ot:oa≠ta:=qG h4 nta
have os:oa≠sa:=qG (s5 _ _ h4) nsa
have oh:oa≠ha:=qG (s6 _ _ (s5 _ _ h4)) nha
have ts:ta≠sa:=qG e5 nsa
have th:ta≠ha:=qG (s6 _ _ e5) nha
have sh:sa≠ha:=qG e6 nha
have s18:Same H1 H8:=λx o e=>u8 x o (qG e nmi) (s7 _ _ (s6 _ _ (s5 _ _ (s14 _ _ e))))
have w0:Nw H1 H8 ⟨mi,oa,ta,sa,ha,λ_=>0⟩ n nm ct sc 0:=by
 refine⟨s18,⟨d8,u8 _ _ mo.symm (s7 _ _ (s6 _ _ (s5 _ _ h4))),u8 _ _ mt.symm (s7 _ _ (s6 _ _ e5)),u8 _ _ ms.symm (s7 _ _ e6),u8 _ _ mh.symm e7,λi hi=>by lia⟩,λb hb=>?_,?_⟩
 ·have hb:b=mi∨b=oa∨b=ta∨b=sa∨b=ha:=by simpa using hb
  rcases hb with rfl|rfl|rfl|rfl|rfl
  ·exact nmi
  ·exact noa
  ·exact s14.free nta
  ·exact s14.free (s5.free nsa)
  exact s14.free (s5.free (s6.free nha))
 simp only[List.range_zero,pZ,wC,gL,kW,g0,not_or,cD,not_false_eq_true,rV,and_true];exact⟨⟨mo,mt,ms,mh⟩,⟨ot,os,oh⟩,⟨ts,th⟩,sh⟩
clear u8 d8 e5 e6 e7 s5 s6 s7 nta nsa nha h4 mi4 s14
refine⟨_,rfl,l,rfl,⟨_,SqL.of (s18 _ _ h1)⟩,?_⟩
refine q0R (K:=K) (xs:=us) (λi σ' H2=>(∃y3 y4 y5,σ'=[some (.ref a),some (.ref l),some (.ref mi),y3,y4,y5,none,none,none,none,none,none])∧∃hA,Nw H1 H2 ⟨mi,oa,ta,sa,ha,hA⟩ n nm ct sc i) ⟨⟨_,_,_,rfl⟩,_,w0⟩ (λi σ' H2 hi hp=>?_) (λi v σ' H2 D' nxt hv hp=>?_) (λσ' H2 hp=>?_)
·obtain⟨_,hA,w⟩:=hp;exact SqL.of (w.s _ _ h1)
·obtain⟨⟨y3,y4,y5,rfl⟩,hA,w⟩:=hp;have hi:i<n:=by rw[←lu];exact(hV.mp hv).1
 obtain⟨ra,era,hra⟩:=(r1.same w.s).at hi;rw[hv]at era;cases era;refine⟨ra,_,rfl,SqT.of hra,rfl,_,_,rfl,_,_,rfl,_,_,rfl,rfl,?_⟩;have u1:=ok.u.less (show i+1≤n from hi);have ed:∀f:Nat→V,(dN (i+1) nm λj=>if j=i then f i else f j)=dN (i+1) nm f:=λf=>q44 λj _=>by
  by_cases y:j=i
  ·rw[kG y,y]
  rw[kE y]
 have nd:=w.nd;obtain⟨d1,_,_⟩:=gA.mp nd;have gt:DGet H2 mi (.str "sheets") (some (.ref ta)):=DGet.k (k:=Sum.inr "sheets") w.mn.m;refine⟨_,rfl,_,rfl,mi,_,rfl,gt,_,rfl,ta,_,rfl,DPut.k (k:=Sum.inr (nm i)) w.mn.c (by rw[q1R];lia),?_⟩;have dc:=ed λi=>.int (ct i:Nat);have dsc:=ed λi=>.int (sc i:Nat);rw[q4O u1,dc];have kA:Keep [ta,sa,ha] H2 (upd H2 ta (.dK (dN (i+1) nm λi=>.int (ct i:Nat)))):=Keep.upd w.mn.c (λ_ y=>by cases y) (by simp);have eA:(upd H2 ta (.dK (dN (i+1) nm λi=>.int (ct i:Nat)))) ta=some (.dK (dN (i+1) nm λi=>.int (ct i:Nat))):=qF;have oA:∀b o,b≠ta→H2 b=some o→(upd H2 ta (.dK (dN (i+1) nm λi=>.int (ct i:Nat)))) b=some o:=λb o n e=>by rw[qD n];exact e
 have nA:∀b,(upd H2 ta (.dK (dN (i+1) nm λi=>.int (ct i:Nat)))) b=none→H2 b=none:=λb e=>by
  by_cases w:b=ta
  ·rw[w,qF]at e;cases e
  rw[qD w]at e;exact e
 generalize upd H2 ta (.dK (dN (i+1) nm λi=>.int (ct i:Nat)))=H3 at kA eA oA nA ⊢;have mi3:=oA _ _ mt w.mn.m;have sa3:=oA _ _ ts.symm w.mn.s;have ha3:=oA _ _ th.symm w.mn.h;have gs:DGet H3 mi (.str "shares") (some (.ref sa)):=DGet.k (k:=Sum.inr "shares") mi3;refine⟨_,rfl,_,rfl,mi,_,rfl,gs,_,rfl,sa,_,rfl,DPut.k (k:=Sum.inr (nm i)) sa3 (by rw[q1R];lia),?_⟩;rw[q4O u1,dsc];have kB:Keep [ta,sa,ha] H3 (upd H3 sa (.dK (dN (i+1) nm λi=>.int (sc i:Nat)))):=Keep.upd sa3 (λ_ y=>by cases y) (by simp);have eB:(upd H3 sa (.dK (dN (i+1) nm λi=>.int (sc i:Nat)))) sa=some (.dK (dN (i+1) nm λi=>.int (sc i:Nat))):=qF;have oB:∀b o,b≠sa→H3 b=some o→(upd H3 sa (.dK (dN (i+1) nm λi=>.int (sc i:Nat)))) b=some o:=λb o n e=>by rw[qD n];exact e
 have nB:∀b,(upd H3 sa (.dK (dN (i+1) nm λi=>.int (sc i:Nat)))) b=none→H3 b=none:=λb e=>by
  by_cases w:b=sa
  ·rw[w,qF]at e;cases e
  rw[qD w]at e;exact e
 generalize upd H3 sa (.dK (dN (i+1) nm λi=>.int (sc i:Nat)))=H4 at kB eB oB nB ⊢;refine λh nh=>?_;have sH:Same H4 (upd H4 h (.dK [])):=Same.upd nh;have eH:(upd H4 h (.dK [])) h=some (.dK []):=qF;generalize upd H4 h (.dK [])=H5 at sH eH ⊢;have mi5:=sH _ _ (oB _ _ ms mi3);have ha4:=oB _ _ sh.symm ha3;have ha5:=sH _ _ ha4;have gh:DGet H5 mi (.str "held") (some (.ref ha)):=DGet.k (k:=Sum.inr "held") mi5;refine⟨_,rfl,mi,_,rfl,gh,_,rfl,ha,_,rfl,DPut.k (k:=Sum.inr (nm i)) ha5 (by rw[q1R];lia),?_⟩;rw[q4O u1];have e9:(dN (i+1) nm λj=>if j=i then V.ref h else V.ref (hA j))=dN (i+1) nm λj=>.ref (if j=i then h else hA j):=q44 λj _=>by split<;>rfl
 rw[e9];have kC:Keep [ta,sa,ha] H5 (upd H5 ha (.dK (dN (i+1) nm λj=>.ref (if j=i then h else hA j)))):=Keep.upd ha5 (λ_ y=>by cases y) (by simp);have eC:(upd H5 ha (.dK (dN (i+1) nm λj=>.ref (if j=i then h else hA j)))) ha=some (.dK (dN (i+1) nm λj=>.ref (if j=i then h else hA j))):=qF;have oC:∀b o,b≠ha→H5 b=some o→(upd H5 ha (.dK (dN (i+1) nm λj=>.ref (if j=i then h else hA j)))) b=some o:=λb o n e=>by rw[qD n];exact e
 generalize upd H5 ha (.dK (dN (i+1) nm λj=>.ref (if j=i then h else hA j)))=H6 at kC eC oC ⊢;have hh:h≠ha:=λg=>by rw[g,ha4]at nh;cases nh
 exact nxt _ _ ⟨⟨_,_,_,rfl⟩,_,w.next (nA h (nB h nh)) (((kA.trans kB).trans (Keep.same sH)).trans kC) (oC _ _ th (sH _ _ (oB _ _ ts eA))) (oC _ _ sh (sH _ _ eB)) eC (oC _ _ hh eH)⟩
obtain⟨⟨y3,y4,y5,rfl⟩,hA,w⟩:=hp
rw[lu]at w
clear w0 s18
have l5:=w.s _ _ h1
have r5:=r1.same w.s
refine⟨_,rfl,l,rfl,⟨_,SqL.of l5⟩,λD2 H6 n6 s6 hD6=>?_⟩
refine q52 (n:=n) (g:=λi=>.int (ct i:Nat)) (by show(0:Nat)<1;decide) l5 s6 n6 hD6 lu (by lia) (λi hi=>?_) λH7 s7 h7=>?_
·obtain⟨p,e,hp⟩:=r5.at hi;exact⟨p,_,e,hp,rfl⟩
have h7:H7 D2=some (.lst (((List.range n).map λi=>((ct i:Nat):Int)).map V.int)):=by rw[h7,dU];rfl
refine⟨D2,_,rfl,SqL.of h7,?_⟩
rw[q5T]
refine⟨_,rfl,l,rfl,⟨_,SqL.of (s7 _ _ l5)⟩,λD3 H8 n8 s8 hD8=>?_⟩
refine q52 (n:=n) (g:=λi=>.int (sc i:Nat)) (by show(0:Nat)<1;decide) (s7 _ _ l5) s8 n8 hD8 lu (by lia) (λi hi=>?_) λH9 s9 h9=>?_
·obtain⟨p,e,hp⟩:=(r5.same s7).at hi;exact⟨p,_,e,hp,rfl⟩
have h9:H9 D3=some (.lst (((List.range n).map λi=>((sc i:Nat):Int)).map V.int)):=by rw[h9,dU];rfl
refine⟨D3,_,rfl,SqL.of h9,?_⟩
rw[q5T]
have s59:=s7.trans s9
have s05:Same H H2:=s1.trans w.s
refine⟨_,rfl,a,ns,7,rfl,(RT.of (s05.trans s59)).sq hT hS,by decide,_,_,rfl,rfl,(by show(0:Int)<3;decide),iI ?_⟩
obtain⟨Bn,eBn,B1,B2⟩:∃Bn:Nat,6+yV ns 7%3=(Bn:Int)∧6≤Bn∧Bn≤8:=by have a1:=gG (yV ns 7) (show(3:Int)≠0 by decide);have a2:=m6 (yV ns 7) (show(0:Int)<3 by decide);exact⟨(6+yV ns 7%3).toNat,by lia,by lia,by lia⟩
dsimp only
rw[eBn]
refine⟨_,rfl,?_⟩
dsimp only[tNil]
refine qKC (bl:=(Bn:Int)) (pg:=8) (mo:=1000000) (by lia) (by lia) (by decide) (by decide) (by decide) (by decide) λc ca HA hc sC fC=>?_
refine⟨_,rfl,_,rfl,_,rfl,?_⟩
dsimp only[tNil]
refine qKE (by lia) (by lia) (by decide) (by decide) (by lia) (by lia) (by lia) (by lia) (by decide) (by lia) (by decide) (by decide) λtm td HB sB htm=>?_
have s5B:=s59.trans (sC.trans sB)
have hcB:=hc.same sB
have tbB:TbF t HB:=⟨#[],s5B _ _ (s05 _ _ hT),.inl rfl⟩
refine λsA sd nA nsd nn=>?_
have sM:Same HB (upd (upd HB sd (.own sA)) sA (.ins t.C_Plain sd [])):=q8K nA nsd
refine⟨sA,sd,tm,td,c,ca,_,_,_,_,_,Bn,8,rfl,qF,sM _ _ htm,hcB.same sM,rfl,rfl,by lia,tbB.same sM,λkb HC st fk up=>⟨rfl,?_⟩⟩
have sBC:Same HB HC:=λb o e=>up b o (qG e nA) (sM b o e)
have s5C:=s5B.trans sBC
have ps:PS t HC ⟨sA,sd,tm,td,c,ca,kb⟩ (fst ct n) ((fst sc n:Nat):Int) (CM.new (Bn:Int) 8 1000000 []) (bk0 Bn 8) 0 [] false:=PS.new B1 B2 st (by lia)
refine⟨_,rfl,_,rfl,?_⟩
refine λp pd np npd nn'=>?_
have sP:Same HC (upd (upd HC pd (.own p)) p (.ins t.C_Parts pd [])):=q8K np npd
have s5P:=s5C.trans sP
refine⟨p,pd,⟨sA,sd,tm,td,c,ca,kb⟩,fst ct n,_,_,_,0,[],false,l,us,n,nm,ct,sc,rfl,qF,ps.same sP,s5P _ _ l5,r5.same s5P,ok,kH _,wV _,λfs cs ss HD pt fcs f1 f2 f3 up'=>⟨rfl,?_⟩⟩
have f1:=sP.free f1
have f2:=sP.free f2
have f3:=sP.free f3
have sCD:Same HC HD:=λb o e=>up' b o (qG e np) (sP b o e)
have psD:=ps.same sCD
have s5D:=s5C.trans sCD
have eX:=ps.st.some'
have noOld:∀b o,H2 b=some o→(∀ps,o≠ .tbl ps)→(∀C d fs,o≠ .ins C d fs)→b∉t.aT::([sA,tm]++(ca.li::sf ⟨sA,sd,tm,td,c,ca,kb⟩)):=λb o e nt ni w=>by
 have w:b=t.aT∨b=sA∨b=tm∨b∈ca.li::foot c ca∨b∈bf kb:=by simpa[sf,or_assoc]using w
 rcases w with w|w|w|w|w
 ·rw[w,s05 _ _ hT]at e;exact nt _ (kI e).symm
 ·have:=s5B _ _ e;rw[w,nA]at this;cases this
 ·have:=s5B _ _ e;rw[w,htm]at this;exact ni _ _ _ (kI this).symm
 ·have:=s59 _ _ e;rw[fC b w]at this;cases this
 have:=sM _ _ (s5B _ _ e);rw[fk b w]at this;cases this
have noNew:∀b,HC b=none→b∉t.aT::([sA,tm]++(ca.li::sf ⟨sA,sd,tm,td,c,ca,kb⟩)):=λb e w=>by obtain⟨o,e'⟩:=eX b w;rw[e]at e';cases e'
have wl:∀b∈[mi,oa,ta,sa,ha]++(List.range n).map hA,∃o,H2 b=some o∧(∀ps,o≠ .tbl ps)∧(∀C d fs,o≠ .ins C d fs):=λb hb=>by
 rcases mP.mp hb with hb|hb
 ·have hb:b=mi∨b=oa∨b=ta∨b=sa∨b=ha:=by simpa using hb
  rcases hb with rfl|rfl|rfl|rfl|rfl
  ·exact⟨_,w.mn.m,(λ_ z=>by cases z),(λ_ _ _ z=>by cases z)⟩
  ·exact⟨_,w.mn.o,(λ_ z=>by cases z),(λ_ _ _ z=>by cases z)⟩
  ·exact⟨_,w.mn.c,(λ_ z=>by cases z),(λ_ _ _ z=>by cases z)⟩
  ·exact⟨_,w.mn.s,(λ_ z=>by cases z),(λ_ _ _ z=>by cases z)⟩
  exact⟨_,w.mn.h,(λ_ z=>by cases z),(λ_ _ _ z=>by cases z)⟩
 obtain⟨i,hi,rfl⟩:=kP.mp hb;exact⟨_,w.mn.d i (mH.mp hi),(λ_ z=>by cases z),(λ_ _ _ z=>by cases z)⟩
have ll:∀b∈[mi,oa,ta,sa,ha]++(List.range n).map hA,b≠l:=λb hb z=>by have:=w.f b hb;rw[z,h1]at this;cases this
have o1:∀{b o},H2 b=some o→b≠p∧b≠fs∧b≠cs∧b≠ss:=fun {b o} e=>⟨qG (s5C _ _ e) np,qG (s5C _ _ e) f1,qG (s5C _ _ e) f2,qG (s5C _ _ e) f3⟩
have j0:J t HD ⟨sA,sd,tm,td,c,ca,kb⟩ (fst ct n) (fst sc n) (CM.new (Bn:Int) 8 1000000 []) (bk0 Bn 8) 0 [] false ⟨p,pd,fs,cs,ss⟩ ⟨mi,oa,ta,sa,ha,hA⟩ l us n nm ct sc (λ_=>[]):=by
 refine⟨psD,pt,⟨s5D _ _ w.mn.m,s5D _ _ w.mn.o,s5D _ _ w.mn.c,s5D _ _ w.mn.s,s5D _ _ w.mn.h,λi hi=>s5D _ _ (w.mn.d i hi)⟩,s5D _ _ l5,r5.same s5D,ok,nn1,rfl,rfl,⟨λi hi s v=>by simp,λi hi=>rV,λi hi=>mS _⟩,?_,λb hb=>?_⟩
 ·have eo:own ⟨mi,oa,ta,sa,ha,hA⟩ ⟨p,pd,fs,cs,ss⟩ l n=[mi,oa,ta,sa,ha]++([l,p,fs,cs,ss]++(List.range n).map hA):=rfl;have nd:=w.nd;obtain⟨d1,d2,d3⟩:=gA.mp nd;obtain⟨e1,e2,e3,e4⟩:=o1 l5;have g1:=jP pt.o pt.f (by intro y;cases y);have g2:=jP pt.o pt.c (by intro y;cases y);have g3:=jP pt.o pt.s (by intro y;cases y);have g4:=pt.d1;have g5:=pt.d2;dsimp only at g1 g2 g3 g4 g5;have dm:[l,p,fs,cs,ss].Nodup:=by simp only[gL,kW,g0,not_or,cD,not_false_eq_true,rV,and_true];exact⟨⟨e1,e2,e3,e4⟩,⟨g1,g2,g3⟩,⟨fcs,g4⟩,g5⟩
  have no5:∀b∈[mi,oa,ta,sa,ha]++(List.range n).map hA,b∉[l,p,fs,cs,ss]:=λb hb g=>by
   obtain⟨o,e,_⟩:=wl b hb;obtain⟨a1,a2,a3,a4⟩:=o1 e;have a0:=ll b hb;simp at g;rcases g with g|g|g|g|g
   ·exact a0 g
   ·exact a1 g
   ·exact a2 g
   ·exact a3 g
   exact a4 g
  rw[eo];refine gA.mpr ⟨d1,gA.mpr ⟨dm,d2,λa1 h1 a2 h2 e=>no5 a2 (kM _ h2) (e▸h1)⟩,λa1 h1 a2 h2 e=>?_⟩;rcases mP.mp h2 with h2|h2
  ·exact no5 a1 (kU _ h1) (e▸h2)
  exact d3 a1 h1 a2 h2 e
 have hb:b∈[mi,oa,ta,sa,ha]++(List.range n).map hA∨b=l∨b=p∨b=fs∨b=cs∨b=ss:=by
  rcases mP.mp hb with hb|hb
  ·have hb:b=mi∨b=oa∨b=ta∨b=sa∨b=ha∨b=l∨b=p∨b=fs∨b=cs∨b=ss:=by simpa using hb
   rcases hb with h|h|h|h|h|h
   ·exact .inl (kU _ (by simp[h]))
   ·exact .inl (kU _ (by simp[h]))
   ·exact .inl (kU _ (by simp[h]))
   ·exact .inl (kU _ (by simp[h]))
   ·exact .inl (kU _ (by simp[h]))
   exact .inr h
  exact .inl (kM _ hb)
 rcases hb with hb|rfl|rfl|rfl|rfl|rfl
 ·obtain⟨o,e,q1,q2⟩:=wl b hb;exact noOld _ _ e q1 q2
 ·exact noOld _ _ l5 (λ_ z=>by cases z) (λ_ _ _ z=>by cases z)
 ·exact noNew _ np
 ·exact noNew _ f1
 ·exact noNew _ f2
 exact noNew _ f3
have r0:RT t H HD:=RT.of (s05.trans s5D)
have eS:Sto.s ⟨sA,sd,tm,td,c,ca,kb⟩=sA:=rfl
generalize (⟨sA,sd,tm,td,c,ca,kb⟩:Sto)=x at j0 eS
subst eS
clear psD noOld noNew eX up' sP np npd nn' up fk st ps fC hcB tbB htm nA nsd nn h7 h9 n6 n8 hD6 hD8 s6 s8 s7 s9 hc sC sB
refine⟨_,rfl,8,rfl,48,rfl,a,_,rfl,r0.sq hT hS,λcu ncu=>?_⟩
have si:Same HD (upd HD cu (.lst (cutV (ns.map V.int) (some 8) (some 48)))):=Same.upd ncu
have pi:(upd HD cu (.lst (cutV (ns.map V.int) (some 8) (some 48)))) cu=some (.lst (cutV (ns.map V.int) (some 8) (some 48))):=qF
generalize upd HD cu (.lst (cutV (ns.map V.int) (some 8) (some 48)))=HE at si pi ⊢
have lc:=qJB (xs:=ns.map V.int)
have cuF:cu∉t.aT::(sf x++(List.range n).map hA):=λg=>by
 rcases kW.mp g with h|h
 ·obtain⟨o,e⟩:=j0.ps.st.some' cu (by simp[h]);rw[ncu]at e;cases e
 rcases mP.mp h with h|h
 ·obtain⟨o,e⟩:=j0.ps.st.some' cu (by simp[h]);rw[ncu]at e;cases e
 obtain⟨i,hi,rfl⟩:=kP.mp h;have:=j0.mn.d i (mH.mp hi);dsimp only at this;rw[ncu]at this;cases this
refine⟨cu,rfl,⟨_,SqL.of pi⟩,?_⟩
refine q0R (K:=K) (xs:=cutV (ns.map V.int) (some 8) (some 48)) (λi σ' H4=>(∃y11,σ'=[some (.ref a),some (.ref l),some (.ref mi),y3,y4,y5,some (.int ((fst ct n:Nat):Int)),some (.int ((fst sc n:Nat):Int)),some (.int (Bn:Int)),some (.ref x.s),some (.ref p),y11])∧H4 cu=some (.lst (cutV (ns.map V.int) (some 8) (some 48)))∧∃m q n' W hd,J t H4 x (fst ct n) (fst sc n) m q n' W false ⟨p,pd,fs,cs,ss⟩ ⟨mi,oa,ta,sa,ha,hA⟩ l us n nm ct sc hd∧n'≤i∧q.B=Bn∧q.P=8) ⟨⟨_,rfl⟩,pi,_,_,0,[],_,j0.same si,kH _,rfl,rfl⟩ (λi σ' H4 hi hp=>?_) (λi v σ' H4 D' nxt hv hp=>?_) (λσ' H4 hp=>?_)
·exact SqL.of hp.2.1
·obtain⟨⟨y11,rfl⟩,cu4,m,q,n',W,hd,j,hn',eB,eP⟩:=hp;obtain⟨c,rfl⟩:=qGN hv;have il:i<40:=mG (hV.mp hv).1 lc;refine⟨_,rfl,_,rfl,_,rfl,_,rfl,iI ⟨.inr ⟨by decide,by decide⟩,iI ⟨(by show(0:Int)<2147483647;decide),?_⟩⟩⟩;dsimp only[tNil,dC,dJ];refine⟨x,_,_,m,q,n',W,⟨p,pd,fs,cs,ss⟩,⟨mi,oa,ta,sa,ha,hA⟩,l,us,n,nm,ct,sc,hd,c*48271%2147483647,rfl,j,λi=>by have:=cb i;lia,by lia,by lia,by rw[eB,eP];lia,by lia,λm' q' n2 W' hd' H5 j5 hn2 eB' eP' k5=>⟨_,rfl,iteF ?_⟩⟩;exact nxt _ _ ⟨⟨_,rfl⟩,k5.k _ _ cuF cu4,m',q',n2,W',hd',j5,by lia,by rw[eB'];exact eB,by rw[eP'];exact eP⟩
obtain⟨⟨y11,rfl⟩,cu4,m,q,n',W,hd,j,hn',eB,eP⟩:=hp
have go:DGet H4 mi (.str "order") (some (.ref oa)):=DGet.k (k:=Sum.inr "order") j.mn.m
refine⟨_,rfl,mi,_,rfl,go,oa,rfl,⟨_,SqL.of j.mn.o⟩,?_⟩
refine q0R (K:=K) (xs:=(List.range n).map λi=>V.str (nm i)) (λi σ' H5=>(∃y3,σ'=[some (.ref a),some (.ref l),some (.ref mi),y3,y4,y5,some (.int ((fst ct n:Nat):Int)),some (.int ((fst sc n:Nat):Int)),some (.int (Bn:Int)),some (.ref x.s),some (.ref p),y11])∧J t H5 x (fst ct n) (fst sc n) m q n' W false ⟨p,pd,fs,cs,ss⟩ ⟨mi,oa,ta,sa,ha,hA⟩ l us n nm ct sc hd) ⟨⟨_,rfl⟩,j⟩ (λi σ' H5 hi hp=>SqL.of hp.2.mn.o) (λi v σ' H5 D' nxt hv hp=>?_) (λσ' H5 hp=>?_)
·obtain⟨⟨y3',rfl⟩,j5⟩:=hp;have hi:i<n:=by have:=(hV.mp hv).1;simpa using this
 rw[kX,dH hi]at hv;obtain rfl:V.str (nm i)=v:=kI hv;have h64:=j5.ps.h64;have ln:=j5.nt.len j5.ps.nd hi;have lW:(hd i).length<64:=by have l0:=ln;unfold cutP at l0;rw[hU]at l0;have l2:=mF (λk=>decide (((fst ct i:Nat):Int)≤k)&&decide (k<((fst ct i:Nat):Int)+((ct i:Nat):Int))) (W.map (·.1));rw[j5.ps.pm.length_eq]at h64;lia
 refine(iV rfl (iM j5.pt.o rfl ⟨_,rfl,⟨p,pd,fs,cs,ss⟩,x,_,_,m,q,n',W,false,n,nm,ct,sc,.str (nm i),rfl,j5.pt,j5.ps,ok.u,.str _,λi' hi' ei l2 ks H6 hk s6 n6 h6=>?_,λnp=>absurd ⟨i,hi,rfl⟩ np⟩));obtain rfl:=ok.u i i' hi hi' (V.str.inj ei);have j6:=j5.same s6;have gh:∀{G:Hp},Same H6 G→DGet G mi (.str "held") (some (.ref ha)):=λs=>DGet.k (k:=Sum.inr "held") (s _ _ j6.mn.m);have ghi:∀{G:Hp},Same H6 G→DGet G ha (.str (nm i)) (some (.ref (hA i))):=λs=>by have:=DGet.k (k:=Sum.inr (nm i)) (s _ _ j6.mn.h);rw[zD ok.u hi]at this;exact this
 have s0:Same H6 H6:=λ_ _ e=>e;refine⟨_,rfl,mi,_,rfl,gh s0,_,rfl,ha,_,rfl,ghi s0,hA i,_,rfl,j6.mn.d i hi,lW,λns' pm pw p2 H7 n7 s7 h7=>?_⟩;have kn:ks.Nodup:=(hk.pm.trans j5.ps.pm).nodup_iff.mpr j5.ps.nd;obtain rfl:cutP (fst ct i) (ct i) ks=ns':=q8Q ((q0X (q38 kn) (j5.nt.nd i hi) λs=>by
  rw[zZ,(hk.pm.trans j5.ps.pm).mem_iff];exact⟨λh=>(j5.nt.key hi h.2.1 h.2.2).mp h.1,λh=>⟨(j5.nt.key hi (j5.nt.kb hi h).1 (j5.nt.kb hi h).2).mpr h,j5.nt.kb hi h⟩⟩).trans pm.symm) (by
  unfold cutP;exact dW.mpr ((hk.so.sublist g7).imp λh=>by lia)) pw
 refine⟨q50 (SqL.of (s7 _ _ h6)) (SqL.of h7) q4F,_,rfl,iteF ?_⟩;have j7:=j6.same s7;refine(iV rfl (iM j7.pt.o rfl ⟨_,rfl,⟨p,pd,fs,cs,ss⟩,x,_,_,m,q,n',W,false,n,nm,ct,sc,.str (nm i),rfl,j7.pt,j7.ps,ok.u,.str _,λi' hi' ei H8 s8=>?_,λnp=>absurd ⟨i,hi,rfl⟩ np⟩));obtain rfl:=ok.u i i' hi hi' (V.str.inj ei);have j8:=j7.same s8;have s68:=s7.trans s8;have gs:DGet H8 mi (.str "shares") (some (.ref sa)):=DGet.k (k:=Sum.inr "shares") j8.mn.m;have gsi:=DGet.k (k:=Sum.inr (nm i)) j8.mn.s;rw[zD ok.u hi]at gsi;refine⟨_,rfl,mi,_,rfl,gs,_,rfl,sa,_,rfl,gsi,_,rfl,mi,_,rfl,gh s68,_,rfl,ha,_,rfl,ghi s68,hA i,_,rfl,j8.mn.d i hi,_,_,rfl,rfl,rfl,_,rfl,?_⟩;rw[ln,q0M,show max 0 (((sc i:Nat):Int)-(((hd i).length:Nat):Int))=((sc i:Nat):Int)-(((hd i).length:Nat):Int) by have:=j5.nt.le i hi;lia,hI rfl];exact iteF (nxt _ _ ⟨⟨_,rfl⟩,j8⟩)
obtain⟨⟨y3',rfl⟩,j5⟩:=hp
refine(iV rfl (iM j5.pt.o rfl ⟨⟨p,pd,fs,cs,ss⟩,x.s,n,nm,ct,sc,rfl,j5.pt,ok.u,n4,λl2 us2 H6 s6 n6 h6 r6=>?_⟩))
exact⟨_,rfl,qFF h6 (s6 _ _ j5.rl) r6 (j5.rw.same s6),kk H6⟩)
theorem qJD{P:Program}{w:World}{K:W.Frag}{mg:Str→Option Value}{t:Adr}(T:Txt K mg t)(S:Fns K t)(B:BmIn base mg):S.law.Ok0 P w mg base 17 (q4L K [t.aT]):=Classical.byContradiction λn=>by
 have hs:hkB hkE:=by unfold hkE;exact Classical.epsilon_spec ⟨⟨P,w,K,mg,t⟩,S,base,T,B,n⟩
 obtain⟨S',b',T',B1,n'⟩:=hs;exact n' (qJC T' S' B1)
end
theorem qJE{l:W.OpenLaw}{w:World}{K:W.Frag}{h:Heap}{mg:Str→Option Value}{fa z0 z1 z2 z3 z4 z5 z6 z7 z8 z9 z10 z11 z12 z13 z14 z15 z16 z17 z18 z19 z20 z21 z22 z23 z24 z25 z26 z27 z28 z29 z30 z31 z32 z33 z34 z35 z36 z37 z38 z39 z40 z41 z42 z43 z44 z45 z46 z47 z48 z49 z50 z51 z52 z53 z54 z55 z56 z57 z58 z59 z60 z61 z62 z63 z64 z65 z66 z67 z68 z69 z70 z71 z72 z73 z74 z75 z76 z77 z78 z79 z80 z81 z82 z83 z84 z85 z86:Addr}(X:K.In h)(G:h.Ns mainGlobals mg)(hfa:mg "law"=some (.ref fa))
 {z87 z88 z99 z100 z111 z112:Option Addr} {z89 z101 z113:Array (Option Value)} {z90 z91 z92 z93 z94 z95 z102 z103 z104 z105 z107 z114 z115 z116 z117 z118 z119:Value} {z96:Option Addr} {z97:Nat} {z98:Array (Option Value)} {e0_Chip_init:Tok} {z120:Option Addr} {z121:Nat} {z122:Array (Option Value)} {e0_Terms_init:Tok} {e1_Terms_init:Tok} {fL:Tok} {aBQ:Tok} {aAB:Tok}
 (z123:W.nsIn K mainGlobals "Parts"=some (some (.ref z74)))
 (z124:Cls K z74)
 (z125:qR K z74 "store")
 (z126:qR K z74 "firsts")
 (z127:qR K z74 "counts")
 (z128:qR K z74 "shares")
 (z129:Meth K z74 "write" z11)
 (z130:Meth K z74 "read" z12)
 (z131:Meth K z74 "give_up" z13)
 (z132:Meth K z74 "empty" z14)
 (z133:Meth K z74 "held" z15)
 (z134:Meth K z74 "room" z16)
 (z135:Meth K z74 "share_of" z17)
 (z136:Meth K z74 "told" z18)
 (z137:Meth K z74 "place_of" z19)
 (z138:Meth K z74 "check_part" z20)
 (z139:Mk K z74 z10)
 (z140:W.nsIn K mainGlobals "Chip"=some (some (.ref z75)))
 (z141:Cls K z75)
 (z142:qR K z75 "blocks")
 (z143:qR K z75 "pages")
 (z144:qR K z75 "most")
 (z145:qR K z75 "limits")
 (z146:qR K z75 "borne")
 (z147:qR K z75 "clearings")
 (z148:qR K z75 "deed_counts")
 (z149:qR K z75 "broken")
 (z150:qR K z75 "deeds_left")
 (z151:qR K z75 "record")
 (z152:Meth K z75 "put" z23)
 (z153:Meth K z75 "read" z24)
 (z154:Meth K z75 "cut_after" z25)
 (z155:Meth K z75 "power_on" z26)
 (z156:Meth K z75 "is_dark" z27)
 (z157:Meth K z75 "cleared" z28)
 (z158:Meth K z75 "failed" z29)
 (z159:Meth K z75 "deeds" z30)
 (z160:Meth K z75 "check_page" z31)
 (z161:Meth K z75 "check_block" z32)
 (z162:Meth K z75 "check_power" z33)
 (z163:Meth K z75 "check_deed" z34)
 (z164:Meth K z75 "is_spent" z35)
 (z165:Meth K z75 "do_deed" z36)
 (z166:Mk K z75 z22)
 (z167:W.nsIn K mainGlobals "Book"=some (some (.ref z76)))
 (z168:Cls K z76)
 (z169:qR K z76 "blocks")
 (z170:qR K z76 "pages")
 (z171:qR K z76 "stamp")
 (z172:qR K z76 "where")
 (z173:qR K z76 "live")
 (z174:qR K z76 "filled")
 (z175:qR K z76 "born")
 (z176:Meth K z76 "mark" z40)
 (z177:Meth K z76 "note" z41)
 (z178:Meth K z76 "forget" z42)
 (z179:Meth K z76 "held" z43)
 (z180:Mk K z76 z39)
 (z181:W.nsIn K mainGlobals "Plain"=some (some (.ref z77)))
 (z182:Cls K z77)
 (z183:qR K z77 "chip")
 (z184:qR K z77 "terms")
 (z185:qR K z77 "book")
 (z186:Meth K z77 "good" z45)
 (z187:Meth K z77 "free" z46)
 (z188:Meth K z77 "part" z47)
 (z189:Meth K z77 "spot" z48)
 (z190:Meth K z77 "reserve" z49)
 (z191:Meth K z77 "ready" z50)
 (z192:Meth K z77 "make_ready" z51)
 (z193:Meth K z77 "set_down" z52)
 (z194:Meth K z77 "lay" z53)
 (z195:Meth K z77 "write" z54)
 (z196:Meth K z77 "give_up" z55)
 (z197:Meth K z77 "read" z56)
 (z198:Meth K z77 "held" z57)
 (z199:Meth K z77 "check_sheet" z58)
 (z200:Meth K z77 "check_share" z59)
 (z201:Mk K z77 z44)
 (z202:W.nsIn K mainGlobals "Terms"=some (some (.ref z78)))
 (z203:Cls K z78)
 (z204:qR K z78 "blocks")
 (z205:qR K z78 "pages")
 (z206:qR K z78 "sheets")
 (z207:qR K z78 "share")
 (z208:qR K z78 "ill")
 (z209:qR K z78 "spread")
 (z210:Meth K z78 "closed" z61)
 (z211:Mk K z78 z60)
 (z212:W.nsIn K mainGlobals "WornError"=some (some (.ref z79)))
 (z213:W.nsIn K mainGlobals "PowerGone"=some (some (.ref z80)))
 (z214:XRd K z80)
 (z215:W.excIn K z80 bmVE "ValueError.__new__"=true)
 (z216:W.nsIn K mainGlobals "NoSheet"=some (some (.ref z81)))
 (z217:XRd K z81)
 (z218:W.excIn K z81 bmVE "ValueError.__new__"=true)
 (z219:W.nsIn K mainGlobals "NoValue"=some (some (.ref z82)))
 (z220:XRd K z82)
 (z221:W.excIn K z82 bmVE "ValueError.__new__"=true)
 (z222:W.nsIn K mainGlobals "Full"=some (some (.ref z83)))
 (z223:XRd K z83)
 (z224:W.excIn K z83 bmVE "ValueError.__new__"=true)
 (z225:W.nsIn K mainGlobals "NoPart"=some (some (.ref z84)))
 (z226:XRd K z84)
 (z227:W.excIn K z84 bmVE "ValueError.__new__"=true)
 (z228:W.exmOne K (.ref z80) (.ref z79)=some true)
 (z229:W.exmOne K (.ref z81) (.ref z79)=some true)
 (z230:W.exmOne K (.ref z82) (.ref z79)=some true)
 (z231:W.exmOne K (.ref z83) (.ref z79)=some true)
 (z232:W.exmOne K (.ref z84) (.ref z79)=some true)
 (z233:W.kitOne K (.ref z80) (.ref z83)=some false)
 (z234:W.kitOne K (.ref z80) (.ref z84)=some false)
 (z235:W.kitOne K (.ref z80) (.ref z81)=some false)
 (z236:W.kitOne K (.ref z80) (.ref z82)=some false)
 (z237:W.kitOne K (.ref z80) (.ref z80)=some true)
 (z238:W.kitOne K (.ref z80) (.type "ValueError")=some true)
 (z239:W.kitOne K (.ref z81) (.ref z83)=some false)
 (z240:W.kitOne K (.ref z81) (.ref z84)=some false)
 (z241:W.kitOne K (.ref z81) (.ref z81)=some true)
 (z242:W.kitOne K (.ref z81) (.ref z82)=some false)
 (z243:W.kitOne K (.ref z81) (.ref z80)=some false)
 (z244:W.kitOne K (.ref z81) (.type "ValueError")=some true)
 (z245:W.kitOne K (.ref z82) (.ref z83)=some false)
 (z246:W.kitOne K (.ref z82) (.ref z84)=some false)
 (z247:W.kitOne K (.ref z82) (.ref z81)=some false)
 (z248:W.kitOne K (.ref z82) (.ref z82)=some true)
 (z249:W.kitOne K (.ref z82) (.ref z80)=some false)
 (z250:W.kitOne K (.ref z82) (.type "ValueError")=some true)
 (z251:W.kitOne K (.ref z83) (.ref z83)=some true)
 (z252:W.kitOne K (.ref z83) (.ref z84)=some false)
 (z253:W.kitOne K (.ref z83) (.ref z81)=some false)
 (z254:W.kitOne K (.ref z83) (.ref z82)=some false)
 (z255:W.kitOne K (.ref z83) (.ref z80)=some false)
 (z256:W.kitOne K (.ref z83) (.type "ValueError")=some true)
 (z257:W.kitOne K (.ref z84) (.ref z83)=some false)
 (z258:W.kitOne K (.ref z84) (.ref z84)=some true)
 (z259:W.kitOne K (.ref z84) (.ref z81)=some false)
 (z260:W.kitOne K (.ref z84) (.ref z82)=some false)
 (z261:W.kitOne K (.ref z84) (.ref z80)=some false)
 (z262:W.kitOne K (.ref z84) (.type "ValueError")=some true)
 (z263:W.codeHdIn K z0 z1=true)
 (z264:GFn K "is_whole" z2)
 (z265:GFn K "is_within" z3)
 (z266:GFn K "is_shape" z4)
 (z267:GFn K "is_value" z5)
 (z268:GFn K "is_name" z6)
 (z269:GFn K "is_from_one" z7)
 (z270:GFn K "check_told" z8)
 (z271:GFn K "check_row" z9)
 (z272:GFn K "limits_of" z21)
 (z273:GFn K "mark_of" z37)
 (z274:GFn K "bits_of" z38)
 (z275:GFn K "_law_cell_at" z62)
 (z276:GFn K "_law_whole" z63)
 (z277:GFn K "_law_names" z64)
 (z278:GFn K "_law_table" z65)
 (z279:GFn K "_law_kinds" z66)
 (z280:GFn K "_law_asked" z67)
 (z281:GFn K "_law_due" z68)
 (z282:GFn K "_law_bits" z69)
 (z283:GFn K "_law_done" z70)
 (z284:GFn K "_law_made" z71)
 (z285:GFn K "_law_step" z72)
 (z286:W.nsIn K mainGlobals "MOST_TOLD"=some (some (.int 1000000 fL)))
 (z287:W.nsIn K mainGlobals "ROLL"=some (some (.int 64 aBQ)))
 (z288:W.nsIn K mainGlobals "NAMES"=some (some (.int 128 aAB)))
 (z289:W.nsIn K mainGlobals "ValueError"=some none)
 (z290:W.nsIn K mainGlobals "all"=some none)
 (z291:W.nsIn K mainGlobals "bool"=some none)
 (z292:W.nsIn K mainGlobals "int"=some none)
 (z293:W.nsIn K mainGlobals "isinstance"=some none)
 (z294:W.nsIn K mainGlobals "len"=some none)
 (z295:W.nsIn K mainGlobals "list"=some none)
 (z296:W.nsIn K mainGlobals "max"=some none)
 (z297:W.nsIn K mainGlobals "range"=some none)
 (z298:W.nsIn K mainGlobals "set"=some none)
 (z299:W.nsIn K mainGlobals "sorted"=some none)
 (z300:W.nsIn K mainGlobals "str"=some none)
 (z301:W.nsIn K mainGlobals "sum"=some none)
 (z302:W.nsIn K mainGlobals "tuple"=some none)
 (z303:FnX K "is_whole" "is_whole" q39 z2)
 (z304:FnX K "is_within" "is_within" q1S z3)
 (z305:FnX K "is_shape" "is_shape" q3A z4)
 (z306:FnX K "is_value" "is_value" q3B z5)
 (z307:FnX K "is_name" "is_name" q4P z6)
 (z308:FnX K "is_from_one" "is_from_one" q0D z7)
 (z309:FnX K "check_told" "check_told" q11 z8)
 (z310:FnX K "check_row" "check_row" q1T z9)
 (z311:FnX K "__init__" "Parts.__init__" q12 z10)
 (z312:FnX K "write" "Parts.write" q0E z11)
 (z313:FnX K "read" "Parts.read" q13 z12)
 (z314:FnX K "give_up" "Parts.give_up" vW z13)
 (z315:FnX K "empty" "Parts.empty" q0F z14)
 (z316:FnX K "held" "Parts.held" q14 z15)
 (z317:FnX K "room" "Parts.room" q15 z16)
 (z318:FnX K "share_of" "Parts.share_of" vE z17)
 (z319:FnX K "told" "Parts.told" q16 z18)
 (z320:FnX K "place_of" "Parts.place_of" vF z19)
 (z321:FnX K "check_part" "Parts.check_part" uQ z20)
 (z322:FnX K "limits_of" "limits_of" q1U z21)
 (z323:K.lookup z22=some ⟨z90,z87,.func (W.fnOf "__init__" "Chip.__init__" (yU uV) (yI uV) (qH uV) (.ref z85) z91 z92 z93 z88 z94 z95),z89⟩)
 (z324:W.codeIn K z94 "Chip.__init__"=true)
 (z325:K.lookup z85=some ⟨.type "tuple",z96,.seq #[.int 1000000 e0_Chip_init,.none] z97,z98⟩)
 (z326:FnX K "put" "Chip.put" q3C z23)
 (z327:FnX K "read" "Chip.read" q1V z24)
 (z328:FnX K "cut_after" "Chip.cut_after" vG z25)
 (z329:FnX K "power_on" "Chip.power_on" vX z26)
 (z330:FnX K "is_dark" "Chip.is_dark" q00 z27)
 (z331:FnX K "cleared" "Chip.cleared" q01 z28)
 (z332:FnX K "failed" "Chip.failed" q0G z29)
 (z333:FnX K "deeds" "Chip.deeds" q17 z30)
 (z334:FnX K "check_page" "Chip.check_page" v7 z31)
 (z335:FnX K "check_block" "Chip.check_block" uR z32)
 (z336:FnX K "check_power" "Chip.check_power" uS z33)
 (z337:FnX K "check_deed" "Chip.check_deed" v8 z34)
 (z338:FnX K "is_spent" "Chip.is_spent" vY z35)
 (z339:FnX K "do_deed" "Chip.do_deed" q02 z36)
 (z340:FnX K "mark_of" "mark_of" q4Q z37)
 (z341:FnX K "bits_of" "bits_of" q4R z38)
 (z342:FnX K "__init__" "Book.__init__" q1W z39)
 (z343:FnX K "mark" "Book.mark" q1X z40)
 (z344:FnX K "note" "Book.note" q1Y z41)
 (z345:FnX K "forget" "Book.forget" q0H z42)
 (z346:FnX K "held" "Book.held" q1Z z43)
 (z347:FnX K "__init__" "Plain.__init__" q18 z44)
 (z348:FnX K "good" "Plain.good" q19 z45)
 (z349:K.lookup z46=some ⟨z102,z99,.func (W.fnOf "free" "Plain.free" (yU yD) (yI yD) (qH yD) .none z103 z104 z105 z100 (.ref z0) z107),z101⟩)
 (z350:W.codeIn K (.ref z0) "Plain.free"=true)
 (z351:FnX K "part" "Plain.part" q1A z47)
 (z352:FnX K "spot" "Plain.spot" q1B z48)
 (z353:FnX K "reserve" "Plain.reserve" vZ z49)
 (z354:FnX K "ready" "Plain.ready" q0I z50)
 (z355:FnX K "make_ready" "Plain.make_ready" uT z51)
 (z356:FnX K "set_down" "Plain.set_down" vH z52)
 (z357:FnX K "lay" "Plain.lay" q20 z53)
 (z358:FnX K "write" "Plain.write" q0J z54)
 (z359:FnX K "give_up" "Plain.give_up" zA z55)
 (z360:FnX K "read" "Plain.read" q1C z56)
 (z361:FnX K "held" "Plain.held" q1D z57)
 (z362:FnX K "check_sheet" "Plain.check_sheet" uI z58)
 (z363:FnX K "check_share" "Plain.check_share" uJ z59)
 (z364:K.lookup z60=some ⟨z114,z111,.func (W.fnOf "__init__" "Terms.__init__" (yU uF) (yI uF) (qH uF) (.ref z86) z115 z116 z117 z112 z118 z119),z113⟩)
 (z365:W.codeIn K z118 "Terms.__init__"=true)
 (z366:K.lookup z86=some ⟨.type "tuple",z120,.seq #[.int 0 e0_Terms_init,.int 1000000 e1_Terms_init] z121,z122⟩)
 (z367:FnX K "closed" "Terms.closed" q03 z61)
 (z368:FnX K "_law_cell_at" "_law_cell_at" q0K z62)
 (z369:FnX K "_law_whole" "_law_whole" q21 z63)
 (z370:FnX K "_law_names" "_law_names" q22 z64)
 (z371:FnX K "_law_table" "_law_table" q23 z65)
 (z372:FnX K "_law_kinds" "_law_kinds" q24 z66)
 (z373:FnX K "_law_asked" "_law_asked" q25 z67)
 (z374:FnX K "_law_due" "_law_due" q4S z68)
 (z375:FnX K "_law_bits" "_law_bits" q3D z69)
 (z376:FnX K "_law_done" "_law_done" q3E z70)
 (z377:FnX K "_law_made" "_law_made" q3F z71)
 (z378:FnX K "_law_step" "_law_step" q3G z72)
 (z379:W.nsIn K mainGlobals "law"=some (some (.ref z73)))
 (z380:FnX K "law" "law" qF2 z73):
 ∃fd:FuncData,(∀(s:Shared) (v:Value),BindsTo s fd ⟨[v],[]⟩ [("_law_script",v)])∧∀base:Heap,K.In base→base.Ns mainGlobals mg→BmIn base mg→FnOk l.prog w K mg base (CX0) 17 fa fd ["_law_script"] (q4L K [z1]):=by(
have e:=hfa.symm.trans (gC X G z379)
cases e
let t:Adr:=⟨z2,z3,z4,z5,z6,z7,z8,z9,z10,z11,z12,z13,z14,z15,z16,z17,z18,z19,z20,z21,z22,z23,z24,z25,z26,z27,z28,z29,z30,z31,z32,z33,z34,z35,z36,z37,z38,z39,z40,z41,z42,z43,z44,z45,z46,z47,z48,z49,z50,z51,z52,z53,z54,z55,z56,z57,z58,z59,z60,z61,z62,z63,z64,z65,z66,z67,z68,z69,z70,z71,z72,fa,z74,z75,z76,z77,z78,z79,z80,z81,z82,z83,z84,fL,aBQ,aAB,z0,z1⟩
have T:Txt K mg t:=⟨gC X G z123,z124,z125,z126,z127,z128,z129,z130,z131,z132,z133,z134,z135,z136,z137,z138,z139,gC X G z140,z141,z142,z143,z144,z145,z146,z147,z148,z149,z150,z151,z152,z153,z154,z155,z156,z157,z158,z159,z160,z161,z162,z163,z164,z165,z166,gC X G z167,z168,z169,z170,z171,z172,z173,z174,z175,z176,z177,z178,z179,z180,gC X G z181,z182,z183,z184,z185,z186,z187,z188,z189,z190,z191,z192,z193,z194,z195,z196,z197,z198,z199,z200,z201,gC X G z202,z203,z204,z205,z206,z207,z208,z209,z210,z211,gC X G z212,gC X G z213,z214,z215,gC X G z216,z217,z218,gC X G z219,z220,z221,gC X G z222,z223,z224,gC X G z225,z226,z227,z228,z229,z230,z231,z232,z233,z234,z235,z236,z237,z238,z239,z240,z241,z242,z243,z244,z245,z246,z247,z248,z249,z250,z251,z252,z253,z254,z255,z256,z257,z258,z259,z260,z261,z262,z263,gC X G z264.1,z264.2,gC X G z265.1,z265.2,gC X G z266.1,z266.2,gC X G z267.1,z267.2,gC X G z268.1,z268.2,gC X G z269.1,z269.2,gC X G z270.1,z270.2,gC X G z271.1,z271.2,gC X G z272.1,z272.2,gC X G z273.1,z273.2,gC X G z274.1,z274.2,gC X G z275.1,z275.2,gC X G z276.1,z276.2,gC X G z277.1,z277.2,gC X G z278.1,z278.2,gC X G z279.1,z279.2,gC X G z280.1,z280.2,gC X G z281.1,z281.2,gC X G z282.1,z282.2,gC X G z283.1,z283.2,gC X G z284.1,z284.2,gC X G z285.1,z285.2,gC X G z286,gC X G z287,gC X G z288,g6 X G z289,g6 X G z290,g6 X G z291,g6 X G z292,g6 X G z293,g6 X G z294,g6 X G z295,g6 X G z296,g6 X G z297,g6 X G z298,g6 X G z299,g6 X G z300,g6 X G z301,g6 X G z302⟩
let S:Fns K t:=⟨fn1 z303,fn1 z304,fn1 z305,fn1 z306,fn1 z307,fn1 z308,fn1 z309,fn1 z310,fn1 z311,fn1 z312,fn1 z313,fn1 z314,fn1 z315,fn1 z316,fn1 z317,fn1 z318,fn1 z319,fn1 z320,fn1 z321,fn1 z322,_,(.ref z85),FunD.mk' (st:=uV) z323 z324,λs us kin hl=>by rw[lnx (us:=us) (n:=5) (by simpa using hl)];exact d4 rfl (kin _ _ z325) rfl rfl rfl,[.none],λs us kin hl=>by rw[lnx (us:=us) (n:=4) (by simpa using hl)];exact d4 rfl (kin _ _ z325) rfl rfl rfl,(.cons rfl .nil),[.int 1000000 e0_Chip_init,.none],λs us kin hl=>by rw[lnx (us:=us) (n:=3) (by simpa using hl)];exact d4 rfl (kin _ _ z325) rfl rfl rfl,(.cons ⟨_,rfl⟩ (.cons rfl .nil)),fn1 z326,fn1 z327,fn1 z328,fn1 z329,fn1 z330,fn1 z331,fn1 z332,fn1 z333,fn1 z334,fn1 z335,fn1 z336,fn1 z337,fn1 z338,fn1 z339,fn1 z340,fn1 z341,fn1 z342,fn1 z343,fn1 z344,fn1 z345,fn1 z346,fn1 z347,fn1 z348,_,FunT.mk' (st:=yD) z349 z350,yL.all λus hl=>by rw[lnx hl];rfl,fn1 z351,fn1 z352,fn1 z353,fn1 z354,fn1 z355,fn1 z356,fn1 z357,fn1 z358,fn1 z359,fn1 z360,fn1 z361,fn1 z362,fn1 z363,_,(.ref z86),FunD.mk' (st:=uF) z364 z365,λs us kin hl=>by rw[lnx (us:=us) (n:=7) (by simpa using hl)];exact d4 rfl (kin _ _ z366) rfl rfl rfl,[.int 1000000 e1_Terms_init],λs us kin hl=>by rw[lnx (us:=us) (n:=6) (by simpa using hl)];exact d4 rfl (kin _ _ z366) rfl rfl rfl,(.cons ⟨_,rfl⟩ .nil),[.int 0 e0_Terms_init,.int 1000000 e1_Terms_init],λs us kin hl=>by rw[lnx (us:=us) (n:=5) (by simpa using hl)];exact d4 rfl (kin _ _ z366) rfl rfl rfl,(.cons ⟨_,rfl⟩ (.cons ⟨_,rfl⟩ .nil)),fn1 z367,fn1 z368,fn1 z369,fn1 z370,fn1 z371,fn1 z372,fn1 z373,fn1 z374,fn1 z375,fn1 z376,fn1 z377,fn1 z378,fn1 z380⟩
exact⟨_,FnX.bind1 (by intros;rfl) S.law.F,λbase _ _ bm=>qJD T S bm⟩)
theorem walk{l:W.OpenLaw}{q:Program}{loose:List Str}{XP:(Str→Option Value)→Heap→Prop}{YP:World→Heap→Prop}{d:DefRec}{K:Params→W.Frag}(hn:l.most=some 63)(hdf:d.params.defaults=[])
 (hY:∀(w:World) (h:Heap),YP w h→(K w.params).In h∧∀T∈([568]:List Addr),h.get? T=some (W.tabObj #[])) (hT:∀w:World,∀T∈([568]:List Addr),(K w.params).lookup T=none∧∃c,W.codeHdIn (K w.params) c T=true)
 (F:∀(w:World) (mg:Str→Option Value) (fa:Addr) (h:Heap),(K w.params).In h→h.Ns mainGlobals mg→mg d.name=some (.ref fa)→∃fd:FuncData,(∀(s:Shared) (u:Value),BindsTo s fd ⟨[u],[]⟩ [("_law_script",u)])∧∀base:Heap,(K w.params).In base→base.Ns mainGlobals mg→BmIn base mg→FnOk l.prog w (K w.params) mg base (CX0) 17 fa fd ["_law_script"] (q4L (K w.params) [568])):
 W.WalkO q loose XP YP l.row.toRowW d [] (λf vs=>PySem.call f vs):=L2.qEH (n:=63) (k:=17) (x:="_law_script") (CX:=λ_=>CX0) (sp:=λw=>q4L (K w.params) [568]) [568] hn (by decide) hdf ⟨rfl,by decide,by decide⟩ hY hT F (λ_ _ a ns hl hS hT=>⟨a,ns,rfl,hS,hl,hT,λ_=>rfl⟩) (λ_ _ _ _ _ z=>z)
end W1
namespace PySem.W.Fast
theorem tw9613341117316836352:True:=⟨⟩
theorem tw3748943921426601536:True:=⟨⟩
theorem tw15924767365036472449:True:=⟨⟩
theorem tw14093002166086699585:True:=⟨⟩
theorem tw13633353460299024161:True:=⟨⟩
theorem tw1404195452485221345:True:=⟨⟩
theorem tw8470869393016206946:True:=⟨⟩
theorem tw4005094837852044930:True:=⟨⟩
theorem tw7348399705739779363:True:=⟨⟩
theorem tw14837366120461793891:True:=⟨⟩
theorem tw12175786058607163299:True:=⟨⟩
theorem tw5533463857016048038:True:=⟨⟩
theorem tw9640865260461868966:True:=⟨⟩
theorem tw6022950474439568999:True:=⟨⟩
theorem tw6778149421890924585:True:=⟨⟩
theorem tw2286757798012404905:True:=⟨⟩
theorem tw2971564299788858057:True:=⟨⟩
theorem tw17116537986901929705:True:=⟨⟩
theorem tw13223478570310869833:True:=⟨⟩
theorem tw15655860069373552010:True:=⟨⟩
theorem tw4645171460927261355:True:=⟨⟩
theorem tw14692205727468164332:True:=⟨⟩
theorem tw12152739482512773004:True:=⟨⟩
theorem tw9509601820410799501:True:=⟨⟩
theorem tw298970186261380045:True:=⟨⟩
theorem tw18427201735593328303:True:=⟨⟩
theorem tw245063810141629776:True:=⟨⟩
theorem tw12656387562902200498:True:=⟨⟩
theorem tw11698412676125931922:True:=⟨⟩
theorem tw16011642035106508306:True:=⟨⟩
theorem tw12895808659970548915:True:=⟨⟩
theorem tw1173943890626417011:True:=⟨⟩
theorem tw15611263633767938707:True:=⟨⟩
theorem tw7191858657294293811:True:=⟨⟩
theorem tw9880813969891649459:True:=⟨⟩
theorem tw7284029896298527156:True:=⟨⟩
theorem tw828124559054480916:True:=⟨⟩
theorem tw2265860190375540757:True:=⟨⟩
theorem tw5647358608210936373:True:=⟨⟩
theorem tw14807416242963061429:True:=⟨⟩
theorem tw10148246538783389175:True:=⟨⟩
theorem tw15364991624960673016:True:=⟨⟩
theorem tw10119743146037517656:True:=⟨⟩
theorem tw11110593196521689880:True:=⟨⟩
theorem tw16594069393502782490:True:=⟨⟩
theorem tw2433735670303907930:True:=⟨⟩
theorem tw8235977020889830971:True:=⟨⟩
theorem tw1104232714847879324:True:=⟨⟩
theorem tw14311227536081020764:True:=⟨⟩
theorem tw3230682384726031581:True:=⟨⟩
theorem tw13670631846139452543:True:=⟨⟩
theorem tw12895416463099928383:True:=⟨⟩
theorem tw11060102224505964540:True:=⟨⟩
theorem tw14473471523790263734:True:=⟨⟩
theorem tw4889270025402709618:True:=⟨⟩
theorem tw3074108735978881477:True:=⟨⟩
theorem tw6710275549608620210:True:=⟨⟩
theorem tw18000800404757092916:True:=⟨⟩
theorem tw13720397249271466636:True:=⟨⟩
theorem tw11490065093342081355:True:=⟨⟩
theorem tw17861850330658270989:True:=⟨⟩
theorem tw8168140983282000836:True:=⟨⟩
theorem tw4323930758336137328:True:=⟨⟩
theorem tw12849848852271445610:True:=⟨⟩
theorem tw7943036720529616978:True:=⟨⟩
theorem tw2739803964932292539:True:=⟨⟩
theorem tw17189434056632420489:True:=⟨⟩
theorem tw358440628823064792:True:=⟨⟩
theorem tw3379837438246066285:True:=⟨⟩
theorem tw15099041658735655613:True:=⟨⟩
theorem tw16176575221753864505:True:=⟨⟩
theorem tw584375448690838254:True:=⟨⟩
theorem tw16648804573766041848:True:=⟨⟩
theorem tw15946134953798068835:True:=⟨⟩
theorem tw11599548487669183701:True:=⟨⟩
theorem tw9067703604257408909:True:=⟨⟩
theorem tw13438768607638602945:True:=⟨⟩
theorem tw17220822753075747206:True:=⟨⟩
theorem tw9192348811863747863:True:=⟨⟩
theorem tw12950531102220676039:True:=⟨⟩
theorem tw16916420506041443436:True:=⟨⟩
theorem tw3517432190570822324:True:=⟨⟩
theorem tw14971007559496321587:True:=⟨⟩
theorem tw5817126424792618803:True:=⟨⟩
theorem tw430577241621038861:True:=⟨⟩
theorem tw4430667417379437311:True:=⟨⟩
theorem tw5315243424886103433:True:=⟨⟩
theorem tw8068128244667458804:True:=⟨⟩
theorem tw9908834169080639220:True:=⟨⟩
theorem tw12848340262164133596:True:=⟨⟩
theorem tw2420417832690418453:True:=⟨⟩
theorem tw17300669075353800507:True:=⟨⟩
theorem tw17544773125741379583:True:=⟨⟩
theorem tw13523363773787061617:True:=⟨⟩
theorem tw2275650475383728523:True:=⟨⟩
theorem tw11372829941637493944:True:=⟨⟩
theorem tw12425956184163160967:True:=⟨⟩
theorem tw13325440945504901974:True:=⟨⟩
theorem tw17329940705985438966:True:=⟨⟩
theorem tw11040164057876534426:True:=⟨⟩
theorem tw10012072369449097837:True:=⟨⟩
theorem tw12963669982142487947:True:=⟨⟩
theorem tw1481118231748910458:True:=⟨⟩
theorem tw17724677577652388424:True:=⟨⟩
theorem tw11148984642894184568:True:=⟨⟩
theorem tw7475343679733931375:True:=⟨⟩
theorem tw11060682657109350839:True:=⟨⟩
theorem tw5555951728885477569:True:=⟨⟩
theorem tw16657275617016952291:True:=⟨⟩
theorem tw7332080234620544839:True:=⟨⟩
theorem tw7814153934028051056:True:=⟨⟩
theorem tw12755419818434647589:True:=⟨⟩
theorem tw12201942001334990460:True:=⟨⟩
theorem tw11024378447679404571:True:=⟨⟩
theorem tw2280014013385114130:True:=⟨⟩
theorem tw17415554301115156240:True:=⟨⟩
theorem tw8511439976720047138:True:=⟨⟩
theorem tw8682086912012155744:True:=⟨⟩
theorem tw3298384005497568804:True:=⟨⟩
theorem tw16377365092358347847:True:=⟨⟩
theorem tw17546687688253710329:True:=⟨⟩
theorem tw14972146040558640895:True:=⟨⟩
theorem tw13961644160537400120:True:=⟨⟩
theorem tw6870588318686539632:True:=⟨⟩
theorem tw4436567591084581037:True:=⟨⟩
theorem tw7313344444672203297:True:=⟨⟩
theorem tw13079720300514178905:True:=⟨⟩
theorem tw612593879903796988:True:=⟨⟩
theorem tw16702681704486949328:True:=⟨⟩
theorem tw1531067056226800624:True:=⟨⟩
theorem tw11318611155085035594:True:=⟨⟩
theorem tw13979540679633117001:True:=⟨⟩
theorem tw16438714594585821601:True:=⟨⟩
theorem tw5766470381504950907:True:=⟨⟩
theorem tw4800512442446667813:True:=⟨⟩
theorem tw7474637333334724554:True:=⟨⟩
theorem tw15168404186633820959:True:=⟨⟩
theorem tw5300540664472962415:True:=⟨⟩
theorem tw13405258951994106615:True:=⟨⟩
theorem tw17602928144682090169:True:=⟨⟩
theorem tw13009888768700582838:True:=⟨⟩
theorem tw2503038479232416204:True:=⟨⟩
theorem tw810738923057630737:True:=⟨⟩
theorem tw7359715741102741591:True:=⟨⟩
theorem tw15029722796138623070:True:=⟨⟩
theorem tw15322059700980219150:True:=⟨⟩
theorem tw11546836088291764424:True:=⟨⟩
theorem tw4306645280828576897:True:=⟨⟩
theorem tw9767583737825384700:True:=⟨⟩
theorem tw15760176498136584220:True:=⟨⟩
theorem tw3624540184126112360:True:=⟨⟩
theorem tw2861389211680882008:True:=⟨⟩
theorem tw16378283329061298541:True:=⟨⟩
theorem tw1186097146868360057:True:=⟨⟩
theorem tw13701383376184400114:True:=⟨⟩
theorem tw7698862141180275980:True:=⟨⟩
theorem tw14569496695301175171:True:=⟨⟩
theorem tw12098357373129456579:True:=⟨⟩
theorem tw16106834255955019480:True:=⟨⟩
theorem tw5100162962577249427:True:=⟨⟩
theorem tw6838375929853505370:True:=⟨⟩
theorem tw11516838659537268109:True:=⟨⟩
theorem tw5437682560798187627:True:=⟨⟩
theorem tw17191952117711080514:True:=⟨⟩
theorem tw12722471238529885001:True:=⟨⟩
theorem tw12720382241484592170:True:=⟨⟩
theorem tw6162375607065432786:True:=⟨⟩
theorem tw16112594863347161828:True:=⟨⟩
theorem tw1984890632976026379:True:=⟨⟩
theorem tw5360016339362632479:True:=⟨⟩
theorem tw6453770845508770782:True:=⟨⟩
theorem tw7675375401690213244:True:=⟨⟩
theorem tw10208397033715917754:True:=⟨⟩
theorem tw9208057455061561335:True:=⟨⟩
theorem tw11719946915936139333:True:=⟨⟩
theorem tw15064472102062814532:True:=⟨⟩
theorem tw1708859947569829093:True:=⟨⟩
theorem tw5652961646242472620:True:=⟨⟩
theorem tw16076594619484251304:True:=⟨⟩
theorem tw12007933499283103521:True:=⟨⟩
theorem tw2632336281533446365:True:=⟨⟩
theorem tw11593059566168253356:True:=⟨⟩
theorem tw4605686710272394954:True:=⟨⟩
theorem tw9949300856299812282:True:=⟨⟩
theorem tw7712926225082783646:True:=⟨⟩
theorem tw14674198574848717402:True:=⟨⟩
theorem tw9364745936875209574:True:=⟨⟩
theorem tw11736833078621307675:True:=⟨⟩
theorem tw18249862156275786688:True:=⟨⟩
theorem tw146685411855330736:True:=⟨⟩
theorem tw5079535991244975341:True:=⟨⟩
theorem tw5120509680468066484:True:=⟨⟩
theorem tw1956398827710773237:True:=⟨⟩
theorem tw6165139467475849542:True:=⟨⟩
theorem tw10608608030317630825:True:=⟨⟩
theorem tw6415215755614723018:True:=⟨⟩
theorem tw10099024984630487106:True:=⟨⟩
theorem tw13412560587215224740:True:=⟨⟩
theorem tw10755154208119475952:True:=⟨⟩
theorem tw11005593413741940438:True:=⟨⟩
theorem tw14056338376872243325:True:=⟨⟩
theorem tw7284204661486856653:True:=⟨⟩
theorem tw502025495635048312:True:=⟨⟩
theorem tw18396105674452583189:True:=⟨⟩
theorem tw15805450831718165651:True:=⟨⟩
theorem tw12217945868307745548:True:=⟨⟩
theorem tw14452800129242801330:True:=⟨⟩
theorem tw6050732203444323454:True:=⟨⟩
theorem tw14519612286809947324:True:=⟨⟩
theorem tw13930091325275681638:True:=⟨⟩
theorem tw17819507451087041453:True:=⟨⟩
theorem tw1161718568715420173:True:=⟨⟩
theorem tw15799060096065482992:True:=⟨⟩
theorem tw13512378986326341838:True:=⟨⟩
theorem tw17612698567662310434:True:=⟨⟩
theorem tw16166787103979732819:True:=⟨⟩
theorem tw407054841698342973:True:=⟨⟩
theorem tw14129438155538973134:True:=⟨⟩
theorem tw10935492797389077564:True:=⟨⟩
theorem tw5994145739079095704:True:=⟨⟩
theorem tw4010929971239144337:True:=⟨⟩
theorem tw18378498127075970046:True:=⟨⟩
theorem tw12440193635018944642:True:=⟨⟩
theorem tw17221653111763535468:True:=⟨⟩
theorem tw17249432291507043689:True:=⟨⟩
theorem tw841289627064819821:True:=⟨⟩
theorem tw1376524330676931597:True:=⟨⟩
theorem tw2835073993616989907:True:=⟨⟩
theorem tw4915948694306273953:True:=⟨⟩
theorem tw11237379669119935083:True:=⟨⟩
theorem tw5430704206562832998:True:=⟨⟩
theorem tw4974552931434714843:True:=⟨⟩
theorem tw7056488987361912685:True:=⟨⟩
theorem tw5639809772481827943:True:=⟨⟩
theorem tw5687351340543351767:True:=⟨⟩
theorem tw8992221974709947113:True:=⟨⟩
theorem tw6050890321400347194:True:=⟨⟩
theorem tw8632956495653035858:True:=⟨⟩
theorem tw12942910985454577683:True:=⟨⟩
theorem tw14329565356176807933:True:=⟨⟩
theorem tw8175633424676116939:True:=⟨⟩
theorem tw17478984484340926760:True:=⟨⟩
theorem tw77747448212258124:True:=⟨⟩
theorem tw7394360154954387777:True:=⟨⟩
theorem tw7065477659232049286:True:=⟨⟩
theorem tw18198356269807478140:True:=⟨⟩
theorem tw1734099325290915654:True:=⟨⟩
theorem tw2554165914802778247:True:=⟨⟩
theorem tw17517917336878281483:True:=⟨⟩
theorem tw16905768212379130890:True:=⟨⟩
theorem tw1274855875939537607:True:=⟨⟩
theorem tw6572942835330399075:True:=⟨⟩
theorem tw9024304506808548036:True:=⟨⟩
theorem tw7121867074408560429:True:=⟨⟩
theorem tw6795461360247203884:True:=⟨⟩
theorem tw656213698473446538:True:=⟨⟩
theorem tw2387572125759748424:True:=⟨⟩
theorem tw17803616712884794473:True:=⟨⟩
theorem tw17539288542290191137:True:=⟨⟩
theorem tw16753025817262475619:True:=⟨⟩
theorem tw1346868171955848058:True:=⟨⟩
theorem tw12829026362186394425:True:=⟨⟩
theorem tw2518074022016514052:True:=⟨⟩
theorem tw11573826777940702858:True:=⟨⟩
theorem tw3859207498412380482:True:=⟨⟩
theorem tw13531111977486877353:True:=⟨⟩
theorem tw12047123772164363122:True:=⟨⟩
theorem tw16560571324633916733:True:=⟨⟩
theorem tw7588202471668515637:True:=⟨⟩
theorem tw13552249961259034469:True:=⟨⟩
theorem tw17955427225587583533:True:=⟨⟩
theorem tw9252329563846577252:True:=⟨⟩
theorem tw472992147986302645:True:=⟨⟩
theorem tw2755733681166767557:True:=⟨⟩
theorem tw14370061545506834378:True:=⟨⟩
theorem tw13228972441129443915:True:=⟨⟩
theorem tw10509590965247333672:True:=⟨⟩
theorem tw10105120770808987793:True:=⟨⟩
theorem tw13046339145253681688:True:=⟨⟩
theorem tw15366135758084372369:True:=⟨⟩
theorem tw16682757696105380195:True:=⟨⟩
theorem tw14455987469400464343:True:=⟨⟩
theorem tw12937487769739404950:True:=⟨⟩
theorem tw6881283423532486710:True:=⟨⟩
theorem tw8887245580044875379:True:=⟨⟩
theorem tw8313398749581479568:True:=⟨⟩
theorem tw8226013255500473967:True:=⟨⟩
theorem tw18288993316867371093:True:=⟨⟩
theorem tw4482412308905661475:True:=⟨⟩
theorem tw4519657827306742989:True:=⟨⟩
theorem tw8271378747101356986:True:=⟨⟩
theorem tw18396849780259809452:True:=⟨⟩
theorem tw5689834288346975942:True:=⟨⟩
theorem tw12576708097592498593:True:=⟨⟩
theorem tw8513676245649584635:True:=⟨⟩
theorem tw1272523478578255802:True:=⟨⟩
theorem tw5016571376606838155:True:=⟨⟩
theorem tw15799327537191576059:True:=⟨⟩
theorem tw8282542873052210888:True:=⟨⟩
theorem tw4858420811448473515:True:=⟨⟩
theorem tw3114823868299724101:True:=⟨⟩
theorem tw13453575171345711685:True:=⟨⟩
theorem tw12636478835373790609:True:=⟨⟩
theorem tw9881845265633915736:True:=⟨⟩
theorem tw14782762415692334968:True:=⟨⟩
theorem tw6017574213005529826:True:=⟨⟩
theorem tw18308265820393959051:True:=⟨⟩
theorem tw15293526656584882658:True:=⟨⟩
theorem tw13176654336345011115:True:=⟨⟩
theorem tw12437085804322599893:True:=⟨⟩
theorem tw12209315503427933333:True:=⟨⟩
theorem tw11936137505964351830:True:=⟨⟩
theorem tw10084413374165635357:True:=⟨⟩
theorem tw919984075928593050:True:=⟨⟩
theorem tw489962218548108642:True:=⟨⟩
theorem tw11766275290063572768:True:=⟨⟩
theorem tw4178358142025151223:True:=⟨⟩
theorem tw11499202696494798989:True:=⟨⟩
theorem tw10662781531702086060:True:=⟨⟩
theorem tw9000601419155355193:True:=⟨⟩
theorem tw11878442078400974878:True:=⟨⟩
theorem tw14191454937490807090:True:=⟨⟩
theorem tw5317190754288710867:True:=⟨⟩
theorem tw112043530909393339:True:=⟨⟩
theorem tw9515793733485304082:True:=⟨⟩
theorem tw7373641528401142294:True:=⟨⟩
theorem tw6956982766196684574:True:=⟨⟩
theorem tw10004955267762421469:True:=⟨⟩
theorem tw8203415575778352240:True:=⟨⟩
theorem tw5869652980762587328:True:=⟨⟩
theorem tw9568242289603884926:True:=⟨⟩
theorem tw7179814847624358653:True:=⟨⟩
theorem tw10843300222703122654:True:=⟨⟩
theorem tw6578002259632149695:True:=⟨⟩
theorem tw3853243342274696415:True:=⟨⟩
theorem tw7275946262404673040:True:=⟨⟩
theorem tw599470221371468184:True:=⟨⟩
theorem tw13036909605186821064:True:=⟨⟩
theorem tw8190141044714696212:True:=⟨⟩
theorem tw4450395182661016747:True:=⟨⟩
theorem tw12263290634823454101:True:=⟨⟩
theorem tw18058174799065282197:True:=⟨⟩
theorem tw15301438862273098776:True:=⟨⟩
theorem tw10204343116129494255:True:=⟨⟩
theorem tw2705554363409986278:True:=⟨⟩
theorem tw15650028679589756867:True:=⟨⟩
theorem tw14420809511323322096:True:=⟨⟩
theorem tw6379573424907675813:True:=⟨⟩
theorem tw4780164802623948097:True:=⟨⟩
theorem tw14935009863942568268:True:=⟨⟩
theorem tw12170611174596853805:True:=⟨⟩
theorem tw8133185061122214212:True:=⟨⟩
theorem tw6140313840862387641:True:=⟨⟩
theorem tw3547782929565167192:True:=⟨⟩
theorem tw17085158957099755214:True:=⟨⟩
theorem tw6931014637058975608:True:=⟨⟩
theorem tw6827714114314144751:True:=⟨⟩
theorem tw17927203250380482045:True:=⟨⟩
theorem tw13793541613083428570:True:=⟨⟩
theorem tw9816659420553835720:True:=⟨⟩
theorem tw9140508815827609120:True:=⟨⟩
theorem tw844958386020317356:True:=⟨⟩
theorem tw7860540437702435189:True:=⟨⟩
theorem tw5006096802340808571:True:=⟨⟩
theorem tw3693609784294849363:True:=⟨⟩
theorem tw15345421821393707768:True:=⟨⟩
theorem tw15238962424671640713:True:=⟨⟩
theorem tw12819010929685469628:True:=⟨⟩
theorem tw16320309741618716692:True:=⟨⟩
theorem tw1098573783337373495:True:=⟨⟩
theorem tw9588592439735153082:True:=⟨⟩
theorem tw9424838371850707839:True:=⟨⟩
theorem tw8193240007675731688:True:=⟨⟩
theorem tw7683646657329604079:True:=⟨⟩
theorem tw7517535423958687397:True:=⟨⟩
theorem tw7463612489150780211:True:=⟨⟩
theorem tw6630469964624697002:True:=⟨⟩
theorem tw4938855141952376822:True:=⟨⟩
theorem tw4344622009039259592:True:=⟨⟩
theorem tw411943229741573766:True:=⟨⟩
theorem tw4050411005790122312:True:=⟨⟩
theorem tw2596324988752762674:True:=⟨⟩
theorem tw193725909858965193:True:=⟨⟩
theorem tw1779651733611612882:True:=⟨⟩
theorem tw15611264654829096472:True:=⟨⟩
theorem tw15074030938684067202:True:=⟨⟩
theorem tw14857801107515164687:True:=⟨⟩
theorem tw14092405780237538309:True:=⟨⟩
theorem tw13154037797556658572:True:=⟨⟩
theorem tw13074054429674792404:True:=⟨⟩
theorem tw3554585174624311975:True:=⟨⟩
theorem tw8438344402274261737:True:=⟨⟩
theorem tw17615507867705977722:True:=⟨⟩
theorem tw12011380735186336212:True:=⟨⟩
theorem tw15788697635511782828:True:=⟨⟩
theorem tw15080480452605785263:True:=⟨⟩
theorem tw16244391683395312858:True:=⟨⟩
theorem tw1508999543117567486:True:=⟨⟩
theorem tw14283227918064751831:True:=⟨⟩
theorem tw11696112863040276457:True:=⟨⟩
theorem tw25659436026533269:True:=⟨⟩
theorem tw18025611575605740989:True:=⟨⟩
theorem tw15116627762959242344:True:=⟨⟩
theorem tw14183064505071899925:True:=⟨⟩
theorem tw7585182198236922242:True:=⟨⟩
theorem tw6947133712724758691:True:=⟨⟩
theorem tw3049458405797011711:True:=⟨⟩
theorem tw9358790599314663976:True:=⟨⟩
theorem tw8696682170523598662:True:=⟨⟩
theorem tw7749873805885798072:True:=⟨⟩
theorem tw7649230968784203775:True:=⟨⟩
theorem tw6701336420499796975:True:=⟨⟩
theorem tw542376562532094143:True:=⟨⟩
theorem tw3554241076337618451:True:=⟨⟩
theorem tw3232704994931201483:True:=⟨⟩
theorem tw2873439447649613369:True:=⟨⟩
theorem tw2212955870583990864:True:=⟨⟩
theorem tw18397351618596339038:True:=⟨⟩
theorem tw15986244899409689534:True:=⟨⟩
theorem tw15010761044855261441:True:=⟨⟩
theorem tw14786546408988395291:True:=⟨⟩
theorem tw14695970287084738783:True:=⟨⟩
theorem tw10275512207306290214:True:=⟨⟩
theorem tw881020246886420624:True:=⟨⟩
theorem tw16785789484998612205:True:=⟨⟩
theorem tw16138136799353743077:True:=⟨⟩
theorem tw15197499770369775101:True:=⟨⟩
theorem tw8574426999205843813:True:=⟨⟩
theorem tw7971249587751626898:True:=⟨⟩
theorem tw7532490455235350153:True:=⟨⟩
theorem tw7081706839361313089:True:=⟨⟩
theorem tw583845588166254641:True:=⟨⟩
theorem tw3639380133349165711:True:=⟨⟩
theorem tw2765225074421205004:True:=⟨⟩
theorem tw16904931014912810248:True:=⟨⟩
theorem tw16491433862006416459:True:=⟨⟩
theorem tw11230680318338815789:True:=⟨⟩
theorem tw7114375723809185744:True:=⟨⟩
theorem tw1997808215214678302:True:=⟨⟩
theorem tw15210004540963111409:True:=⟨⟩
theorem tw6461742677405940686:True:=⟨⟩
theorem tw3907835614818825291:True:=⟨⟩
theorem tw1283214312591858614:True:=⟨⟩
theorem tw12105576420216779920:True:=⟨⟩
theorem tw9993188910846289086:True:=⟨⟩
theorem tw18314835950117573829:True:=⟨⟩
theorem tw18093286050760275708:True:=⟨⟩
theorem tw14167306859513531636:True:=⟨⟩
theorem tw13893947944001209426:True:=⟨⟩
theorem tw12706800643848364010:True:=⟨⟩
theorem tw10269192759746322541:True:=⟨⟩
theorem tw9154978078273069434:True:=⟨⟩
theorem tw4051962437001743174:True:=⟨⟩
theorem tw17407657427585896444:True:=⟨⟩
theorem tw10892504737923536116:True:=⟨⟩
theorem tw8216850823280832693:True:=⟨⟩
theorem tw7600013807457365383:True:=⟨⟩
theorem tw6754303292139680972:True:=⟨⟩
theorem tw6121461983321585863:True:=⟨⟩
theorem tw2225482243525192206:True:=⟨⟩
theorem tw1955486450489605923:True:=⟨⟩
theorem tw14806546846545393345:True:=⟨⟩
theorem tw14310880155467613285:True:=⟨⟩
theorem tw12048368640014516826:True:=⟨⟩
theorem tw13478416994840954958:True:=⟨⟩
theorem tw7355572317496565755:True:=⟨⟩
theorem tw17710751178342712737:True:=⟨⟩
theorem tw8250373537411262058:True:=⟨⟩
theorem tw17179757097988842339:True:=⟨⟩
theorem tw13301229755746548714:True:=⟨⟩
theorem tw18261700602367978800:True:=⟨⟩
theorem tw8970526216587644765:True:=⟨⟩
theorem tw3170948395707266803:True:=⟨⟩
theorem tw15189648276828539294:True:=⟨⟩
theorem tw14807986872434139749:True:=⟨⟩
theorem tw5928230976403799388:True:=⟨⟩
theorem tw5556697959402849000:True:=⟨⟩
theorem tw2002303649243907937:True:=⟨⟩
theorem tw12820366052228792458:True:=⟨⟩
theorem tw18201788852169931243:True:=⟨⟩
theorem tw8345624034856107726:True:=⟨⟩
theorem tw8096780046936667105:True:=⟨⟩
theorem tw6996396854853045238:True:=⟨⟩
theorem tw18187559936648726935:True:=⟨⟩
theorem tw16259563079308978310:True:=⟨⟩
theorem tw16016101029734871166:True:=⟨⟩
theorem tw14493458469332868237:True:=⟨⟩
theorem tw13178947944071917319:True:=⟨⟩
theorem tw1290742529857495419:True:=⟨⟩
theorem tw12474452354426200324:True:=⟨⟩
theorem tw11387366666979549900:True:=⟨⟩
theorem tw10569936454535513372:True:=⟨⟩
theorem tw5011946110908992851:True:=⟨⟩
theorem tw403402011606039799:True:=⟨⟩
theorem tw2185444894997985016:True:=⟨⟩
theorem tw13829690910191303667:True:=⟨⟩
theorem tw13376416432507590075:True:=⟨⟩
theorem tw11243823560667790968:True:=⟨⟩
theorem tw800545924831170486:True:=⟨⟩
theorem tw1117301653548220917:True:=⟨⟩
theorem tw10100516094917745364:True:=⟨⟩
theorem tw8235721446388174095:True:=⟨⟩
theorem tw8051765077494513326:True:=⟨⟩
theorem tw6448086417794748715:True:=⟨⟩
theorem tw6336837883703149739:True:=⟨⟩
theorem tw6138448625349574439:True:=⟨⟩
theorem tw2074712745046154305:True:=⟨⟩
theorem tw17630278644445010877:True:=⟨⟩
theorem tw16948700718675868555:True:=⟨⟩
theorem tw14912554931857371442:True:=⟨⟩
theorem tw12167771207961774060:True:=⟨⟩
theorem tw11501718925098900680:True:=⟨⟩
theorem tw10751318591583931793:True:=⟨⟩
theorem tw5305474952371625351:True:=⟨⟩
theorem tw9960491984287001953:True:=⟨⟩
theorem tw5583932347565346660:True:=⟨⟩
theorem tw5074032591269376108:True:=⟨⟩
theorem tw3260561687736147643:True:=⟨⟩
theorem tw2951985068885880724:True:=⟨⟩
theorem tw2674437948061020223:True:=⟨⟩
theorem tw14296635806797858592:True:=⟨⟩
theorem tw14167527754663551520:True:=⟨⟩
end PySem.W.Fast
open PySem PySem.W PyProof.Rows
set_option maxRecDepth 100000 in
theorem PySem.Challenge.cw_wornpages_k82_their_rooms_holds : PySem.Challenge.rw_wornpages_k82_their_rooms.Holds := by
 (
w_on;o_law;k_head;(case hw=>w_witness2)
k_fill
refine W1.walk (l:=PySem.Challenge.rw_wornpages_k82_their_rooms) rfl rfl (λw h Y=>⟨W.km_in_of Y,W.km_tabs_of Y⟩) (?T) ?F
case T=>
 intro w T hT;have hT:T=568:=by simpa using hT
 subst hT;exact⟨by kernel_rfl,570,by kernel_rfl⟩
case F=>
 intro w mg fa h KX G hmg;refine' W1.qJE (z1:=568) (z0:=570) KX G hmg ?_ ?_ ?_ ?_ ?_ ?_ ?_ ?_ ?_ ?_ ?_ ?_ ?_ ?_ ?_ ?_ ?_ ?_ ?_ ?_ ?_ ?_ ?_ ?_ ?_ ?_ ?_ ?_ ?_ ?_ ?_ ?_ ?_ ?_ ?_ ?_ ?_ ?_ ?_ ?_ ?_ ?_ ?_ ?_ ?_ ?_ ?_ ?_ ?_ ?_ ?_ ?_ ?_ ?_ ?_ ?_ ?_ ?_ ?_ ?_ ?_ ?_ ?_ ?_ ?_ ?_ ?_ ?_ ?_ ?_ ?_ ?_ ?_ ?_ ?_ ?_ ?_ ?_ ?_ ?_ ?_ ?_ ?_ ?_ ?_ ?_ ?_ ?_ ?_ ?_ ?_ ?_ ?_ ?_ ?_ ?_ ?_ ?_ ?_ ?_ ?_ ?_ ?_ ?_ ?_ ?_ ?_ ?_ ?_ ?_ ?_ ?_ ?_ ?_ ?_ ?_ ?_ ?_ ?_ ?_ ?_ ?_ ?_ ?_ ?_ ?_ ?_ ?_ ?_ ?_ ?_ ?_ ?_ ?_ ?_ ?_ ?_ ?_ ?_ ?_ ?_ ?_ ?_ ?_ ?_ ?_ ?_ ?_ ?_ ?_ ?_ ?_ ?_ ?_ ?_ ?_ ?_ ?_ ?_ ?_ ?_ ?_ ?_ ?_ ?_ ?_ ?_ ?_ ?_ ?_ ?_ ?_ ?_ ?_ ?_ ?_ ?_ ?_ ?_ ?_ ?_ ?_ ?_ ?_ ?_ ?_ ?_ ?_ ?_ ?_ ?_ ?_ ?_ ?_ ?_ ?_ ?_ ?_ ?_ ?_ ?_ ?_ ?_ ?_ ?_ ?_ ?_ ?_ ?_ ?_ ?_ ?_ ?_ ?_ ?_ ?_ ?_ ?_ ?_ ?_ ?_ ?_ ?_ ?_ ?_ ?_ ?_ ?_ ?_ ?_ ?_ ?_ ?_ ?_ ?_ ?_ ?_ ?_ ?_ ?_ ?_ ?_ ?_ ?_ ?_ ?_ ?_ ?_ ?_ ?_ ?_ ?_ ?_ ?_ ?_ ?_ ?_ ?_
 any_goals first|k_is|(refine' L2.FnX.of ?fa ?fb;(case fa=>k_is);(case fb=>k_is))|((first|apply And.intro|apply L2.Meth.mk|apply L2.Mk.mk|apply L2.Cls.mk|apply L2.XAt.mk|apply L2.BIni.mk|apply L2.ClM.mk|apply L2.XRd.mk)<;>first|k_is|kernel_rfl)|(show W.findIn _ _ _=_;k_is)
 all_goals first|k_exc|kts_exm|kit_is|kernel_rfl|decide)
